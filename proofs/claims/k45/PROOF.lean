import PyProof.Rows.All
import Wide.All
import OpenK.AllK
import Wide.FinOn
import Lean
import PyProof.EqAt
import PyProof.EqKinds
import PyProof.TupleCall
import KE.KLam
import KE.KItemsList
import KE.KRevIter
import PyProof.CollectIter
import PyProof.DictWalks
import PyProof.WalksMore
import PyProof.SumWalkG
import KE.KSortTup
import PyProof.Draws
import KE.KTupSum
import PyProof.DictValues
import KE.KDictList
import PyProof.Rows.SortShell
import PySem.Challenge.RW_tranchefall_k45_outlines_closed
set_option Elab.async false
set_option linter.all false
set_option compiler.extract_closed false
set_option genSizeOf false
noncomputable section
local macro_rules|`(↥$x)=>`(($x).heap.objs.size)|`(⇑$x)=>`(by simpa using $x)|`(∅)=>`(by omega)
section
open PySem PySem.Spec PyProof.Rows
abbrev L1:=@List.length_map
abbrev L3:=@wpAny_bind
abbrev L4:=@Option.bind_some
abbrev L5:=@List.map_cons
abbrev L6:=@List.mem_cons_of_mem
abbrev L7:=@List.mem_cons_self
abbrev L8:=@Heap.get?_push_of_some
abbrev L9:=@List.getElem?_eq_some_iff
abbrev M0:=@Bool.and_eq_true
abbrev M1:=@List.length_cons
abbrev M3:=@Bool.false_ne_true
abbrev M4:=@List.mem_cons
abbrev M5:=@List.mem_map
abbrev M6:=@wpAny_pure
abbrev M7:=@List.mem_singleton
abbrev M8:=@Nat.le_refl
abbrev M9:=@List.append_nil
abbrev N0:=@Heap.lt_size
abbrev N1:=@List.mem_append
abbrev N3:=@List.size_toArray
abbrev N4:=@List.length_append
abbrev N5:=@List.map_append
abbrev N6:=@Nat.ne_of_lt
abbrev N7:=@Nat.le_trans
abbrev N8:=@Int.toNat_natCast
abbrev N9:=@Int.emod_lt_of_pos
abbrev U0:=@Int.emod_nonneg
abbrev U1:=@List.map_map
abbrev U2:=@beq_eq_false_iff_ne
abbrev U3:=@List.mem_append_right
abbrev U4:=@Nat.lt_of_lt_of_le
abbrev U5:=@Nat.zero_le
abbrev U6:=@wpAny_field
abbrev U7:=@List.zip_cons_cons
abbrev U8:=@List.count_append
abbrev U9:=@List.nodup_append
abbrev X0:=@List.foldl_cons
abbrev X1:=@decide_eq_true
abbrev X2:=@decide_eq_false
abbrev X4:=@of_decide_eq_true
abbrev X5:=@Option.some.inj
abbrev X6:=@List.nil_append
abbrev X7:=@List.getElem?_eq_getElem
abbrev X8:=@List.length_take
abbrev X9:=@Heap.get?_push_size
abbrev E1:=@Nat.lt_of_le_of_lt
end
abbrev W0:=PySem.Value->PySem.Shared->Prop
abbrev W1:=List (PySem.Addr×PySem.Obj)
abbrev W2:=List (List Nat)
abbrev W3:=PySem.W.Frag
abbrev W4:=List PySem.Addr
abbrev W5:=PySem.Str->Option PySem.Value
namespace L2
inductive Ex2 {α β:Type}(P:α->β->Prop):Prop | mk:∀ x0 x1,P x0 x1->Ex2 P
inductive Ex3 {α β γ:Type}(P:α->β->γ->Prop):Prop | mk:∀ x0 x1 x2,P x0 x1 x2->Ex3 P
inductive Ex4 {α β γ δ:Type}(P:α->β->γ->δ->Prop):Prop | mk:∀ x0 x1 x2 x3,P x0 x1 x2 x3->Ex4 P
inductive An3 (a b c:Prop):Prop | mk:a->b->c->An3 a b c
inductive An4 (a b c d:Prop):Prop | mk:a->b->c->d->An4 a b c d
inductive An5 (a b c d e:Prop):Prop | mk:a->b->c->d->e->An5 a b c d e
end L2
set_option maxRecDepth 100000
namespace L2
open PySem PySem.Spec PyProof.Rows
mutual
noncomputable def hkP:Nat->PyData->Bool
 | _,.int _=>true | _,.bool _=>true | _,.str x=>PyData.strOk x
 | n+1,.tuple l=>YL n l
 | _,_=>false
noncomputable def YL:Nat->List PyData->Bool
 | _,[]=>true
 | n,d::l=>hkP n d&&YL n l
end
mutual
noncomputable def nkP:PyData->PyData
 | .bool b=>.int (if b then 1 else 0)
 | .tuple l=>.tuple<|YH l
 | d=>d
noncomputable def YH:List PyData->List PyData
 | []=>[]
 | d::l=>nkP d::YH l
end
mutual
noncomputable def KH(w:World):PyData->Int
 | .int i=>hashInt i
 | .bool b=>hashInt (if b then 1 else 0)
 | .str x=>hashStr w x
 | .tuple l=>reduceHash<|Builtin.Tuple.tupleHashOf<|vf w l
 | _=>0
noncomputable def vf(w:World):List PyData->List Int
 | []=>[]
 | d::l=>KH w d::vf w l
end
mutual
noncomputable def VH:PyData->Nat
 | .tuple l=>qR l+1
 | _=>1
noncomputable def qR:List PyData->Nat
 | []=>0
 | d::l=>VH d+qR l
end
def Q7{prog:Program}{w:World}{A:Around}{E:W0}{s:Shared}{b:Bool}{Q:Int->Shared->Prop}(h:Q (hashInt<|if b then 1 else 0) {s with toks:=s.toks+1}):
  wpAny (model prog w) A (pyHash<|.bool b) Q E s:=by
 have c:=rawHash_range (if b then 1 else 0);unfold pyHash;have d:[Value.bool b].any Value.onHeap=false:=rfl;have a:s.TypeIs (.bool b) "bool":=rfl;refine L3 ?_;rw[cRoomFor,if_neg<|by rw[d];exact M3];refine M6 ?_;refine L3<|wpAny_specialOf a F.slot_bool_hash.lookup ?_;show wpAny _ _ (if(some (Value.builtin "int.__hash__")==some Value.none)=true then _ else _) Q E s;rw[if_neg<|by rw[beq_builtin_none];exact M3];refine L3<|wpAny_specialOf a F.slot_bool_hash.lookup ?_;show wpAny _ _ (callSpecialIfBoundUnlessNone? (.bool b) "__hash__" _ >>= _) Q E s;refine L3 (wpAny_callSpecialIfBoundUnlessNone?_slot a F.slot_bool_hash
  (wpAny_call_entry F.slot_bool_hash a entry_int_hash
   (show wpAny _ _ (do ret (<- mkInt (rawHash<|if b then 1 else 0))) _ _ s from wpAny_ret_mkInt ?_) ?_))
 ·show wpAny _ _ (if(decide (-(2:Int) ^ 63<=rawHash (if b then 1 else 0))&&decide (rawHash (if b then 1 else 0)<2 ^ 63))=true then _ else _) Q E _;rw[if_pos<|by rw[X1 c.1,X1 c.2];rfl];exact M6 h
 ·rfl
section
variable {prog:Program}{w:World}
mutual
theorem Vn:∀(n:Nat) (d:PyData) {A:Around}{E:W0}{s:Shared}{v:Value}{as:W4}{Q:Int->Shared->Prop},hkP n d=true->A.units+n<cLine->Reads s.heap v d as->Q (KH w d) {s with toks:=s.toks+VH d}->wpAny (model prog w) A (pyHash v) Q E s
 | n,.int i,A,E,s,v,as,Q,_,_,r,h=>by cases r;exact wpAny_pyHash_int h
 | n,.bool b,A,E,s,v,as,Q,_,_,r,h=>by cases r;exact Q7 h
 | n,.str x,A,E,s,v,as,Q,_,_,r,h=>by cases r;exact wpAny_pyHash_str h
 | n+1,.tuple l,A,E,s,v,as,Q,hk,hu,r,h=>by
  cases r with
  | @tuple a o items m _ _ ho hc hd hi=>
  have hT:s.TypeIs (.ref a) "tuple":=⟨o,ho,hc⟩;have hu0:A.units<cLine:=E1 (Nat.le_add_right _ _) hu;unfold pyHash
  first | unfold pyHashByItsType | skip
  first | refine L3 (wpAny_cRoomFor_or (.inr hu0) ?_) | skip
  refine L3<|wpAny_specialOf hT F.slot_tuple_hash.lookup ?_;show wpAny _ _ (if(some (Value.builtin "tuple.__hash__")==some Value.none)=true then _ else _) Q E s;rw[if_neg<|by rw[beq_builtin_none];exact M3];refine L3<|wpAny_specialOf hT F.slot_tuple_hash.lookup ?_;show wpAny _ _ (callSpecialIfBoundUnlessNone? (.ref a) "__hash__" _ >>= _) Q E s;refine L3<|wpAny_callSpecialIfBoundUnlessNone?_slot hT F.slot_tuple_hash<|wpAny_call_entry F.slot_tuple_hash hT F.entry_tuple_hash ?_<|F.args_tuple_hash_1 _;show wpAny _ _ (Builtin.Tuple.tupleItemsOf (.ref a) >>= _) _ _ s;refine L3<|wpAny_tupleItemsOf ho hd ?_;refine L3 ?_;rw[<- Array.forIn_toList];refine Jw n l _ (by simpa [hkP] using hk) (by show A.units+1+n<cLine;omega) hi ?_;have eb:(#[]++(vf w l).toArray).toList=vf w l:=by simp
  show wpAny _ _ (retInt<|Builtin.Tuple.tupleHashOf (#[]++(vf w l).toArray).toList) _ _ _;rw[eb];refine wpAny_ret_mkInt ?_;show wpAny _ _ (if(decide (-(2:Int) ^ 63<=Builtin.Tuple.tupleHashOf (vf w l))&&decide (Builtin.Tuple.tupleHashOf (vf w l)<2 ^ 63))=true then _ else _) Q E _;unfold KH reduceHash at h;by_cases hr:(decide (-(2:Int) ^ 63<=Builtin.Tuple.tupleHashOf (vf w l))&&decide (Builtin.Tuple.tupleHashOf (vf w l)<2 ^ 63))=true
  ·rw[if_pos hr];rw[if_pos hr] at h;exact M6 (by simpa [VH,Nat.add_assoc] using h)
  ·rw[if_neg hr];rw[if_neg hr] at h;exact L3<|wpAny_rule<|M6 (by simpa [VH,Nat.add_assoc] using h)
 | 0,.tuple l,A,E,s,v,as,Q,hk,_,_,_=>by simp[hkP] at hk
 | _,.none,A,E,s,v,as,Q,hk,_,_,_=>by simp[hkP] at hk
 | _,.list _,A,E,s,v,as,Q,hk,_,_,_=>by simp[hkP] at hk
 | _,.dict _,A,E,s,v,as,Q,hk,_,_,_=>by simp[hkP] at hk
theorem Jw:∀(n:Nat) (l:List PyData) {A:Around}{E:W0}{s:Shared}{vs:List Value}{as:W4}{Q:Array Int->Shared->Prop}(b:Array Int),YL n l=true->A.units+n<cLine->ReadsAll s.heap vs l as->Q (b++(vf w l).toArray) {s with toks:=s.toks+qR l}->wpAny (model prog w) A (forIn vs b λx r=>do let h <- pyHash x;pure (ForInStep.yield<|r.push h)) Q E s
 | n,[],A,E,s,vs,as,Q,b,_,_,r,h=>by
  cases r;exact M6 (by simpa [vf,qR] using h)
 | n,d::l,A,E,s,vs,as,Q,b,hk,hu,r,h=>by
  cases r with
  | @cons v vs _ _ as bs r1 r2=>
  rw[YL,M0] at hk;rw[List.forIn_cons];refine L3<|L3<|Vn n d hk.1 hu r1<|M6 ?_;refine Jw n l _ hk.2 hu r2 ?_;simpa [vf,qR,Nat.add_assoc] using h
end
end
mutual
theorem uZ(w:World):∀ d:PyData,KH w (nkP d)=KH w d
 | .bool _=>rfl
 | .tuple l=>by rw[nkP,KH,KH,xE w l]
 | .none=>rfl | .int _=>rfl | .str _=>rfl | .list _=>rfl | .dict _=>rfl
theorem xE(w:World):∀ l:List PyData,vf w (YH l)=vf w l
 | []=>rfl
 | d::l=>by rw[YH,vf,vf,uZ w d,xE w l]
end
mutual
theorem jaU:∀ d:PyData,VH (nkP d)=VH d
 | .bool _=>rfl
 | .tuple l=>by rw[nkP,VH,VH,xm l]
 | .none=>rfl | .int _=>rfl | .str _=>rfl | .list _=>rfl | .dict _=>rfl
theorem xm:∀ l:List PyData,qR (YH l)=qR l
 | []=>rfl
 | d::l=>by rw[YH,qR,qR,jaU d,xm l]
end
mutual
theorem xM:∀(n m:Nat) (d e:PyData),hkP n d=true->hkP m e=true->(PyData.eqv d e=true↔nkP d=nkP e)
 | n,m,.int i,e,_,he=>by cases e<;>cases m<;>simp_all [PyData.eqv,nkP,hkP]
 | n,m,.bool b,e,_,he=>by cases e<;>cases m<;>cases b<;>simp_all [PyData.eqv,nkP,hkP]
 | n,m,.str x,e,_,he=>by cases e<;>cases m<;>simp_all [PyData.eqv,nkP,hkP]
 | n+1,m,.tuple l,e,hd,he=>by
  cases e with
  | tuple k=>
   cases m with
   | zero=>simp[hkP] at he
   | succ m=>
    rw[PyData.eqv,nkP,nkP,PyData.tuple.injEq];exact jaz n m l k (by simpa [hkP] using hd) (by simpa [hkP] using he)
  | _=>cases m<;>simp_all [PyData.eqv,nkP,hkP]
 | 0,_,.tuple l,_,h,_=>by simp[hkP] at h
 | _,_,.none,_,h,_=>by simp[hkP] at h
 | _,_,.list _,_,h,_=>by simp[hkP] at h
 | _,_,.dict _,_,h,_=>by simp[hkP] at h
theorem jaz:∀(n m:Nat) (l k:List PyData),YL n l=true->YL m k=true->(PyData.eqvAll l k=true↔YH l=YH k)
 | _,_,[],[],_,_=>by simp[PyData.eqvAll,YH]
 | _,_,[],_::_,_,_=>by simp[PyData.eqvAll,YH]
 | _,_,_::_,[],_,_=>by simp[PyData.eqvAll,YH]
 | n,m,d::l,e::k,hd,he=>by
  rw[YL,M0] at hd he;rw[PyData.eqvAll,M0,xM n m d e hd.1 he.1,jaz n m l k hd.2 he.2,YH,YH,List.cons.injEq]
end
mutual
theorem Vi:∀(n:Nat) (d:PyData),hkP n d=true->d.canLay0=true/\d.depth<=n
 | _,.int _,_=>⟨rfl,U5 _⟩
 | _,.bool _,_=>⟨rfl,U5 _⟩
 | n,.str x,h=>⟨by show PyData.strOk x=true;cases n<;>simpa [hkP] using h,U5 _⟩
 | n+1,.tuple l,h=>by
  obtain⟨a,b⟩:=jaX n l (by simpa [hkP] using h);exact⟨a,Nat.succ_le_succ b⟩
 | 0,.tuple l,h=>by simp[hkP] at h
 | _,.none,h=>by simp[hkP] at h
 | _,.list _,h=>by simp[hkP] at h
 | _,.dict _,h=>by simp[hkP] at h
theorem jaX:∀(n:Nat) (l:List PyData),YL n l=true->PyData.canLayAll0 l=true/\PyData.depthAll l<=n
 | n,[],_=>⟨rfl,U5 _⟩
 | n,d::l,h=>by
  rw[YL,M0] at h;obtain⟨a,b⟩:=Vi n d h.1;obtain⟨c,e⟩:=jaX n l h.2;exact⟨by show(d.canLay0&&PyData.canLayAll0 l)=true;rw[a,c];rfl,Nat.max_le.mpr ⟨b,e⟩⟩
end
section
variable {h h':Heap}{d:Addr}
mutual
theorem YB(hk:∀ b o vs k,h.get? b=some o->o.data=.seq vs k->h'.get? b=some o):∀(n:Nat) (p:PyData) {v:Value}{as:W4},hkP n p=true->Reads h v p as->Reads h' v p as
 | _,.int _,_,_,_,r=>by cases r;exact .int _ _
 | _,.bool _,_,_,_,r=>by cases r;exact .bool _
 | _,.str _,_,_,_,r=>by cases r;exact .str _ _
 | n+1,.tuple l,_,_,q,r=>by
  cases r with
  | tuple a b c e=>exact .tuple (hk _ _ _ _ a c) b c<|qf hk n l (by simpa [hkP] using q) e
 | 0,.tuple l,_,_,h,_=>by simp[hkP] at h
 | _,.none,_,_,h,_=>by simp[hkP] at h
 | _,.list _,_,_,h,_=>by simp[hkP] at h
 | _,.dict _,_,_,h,_=>by simp[hkP] at h
theorem qf(hk:∀ b o vs k,h.get? b=some o->o.data=.seq vs k->h'.get? b=some o):∀(n:Nat) (l:List PyData) {vs:List Value}{as:W4},YL n l=true->ReadsAll h vs l as->ReadsAll h' vs l as
 | _,[],_,_,_,r=>by cases r;exact .nil
 | n,d::l,_,_,q,r=>by
  rw[YL,M0] at q;cases r with
  | cons a b=>exact .cons (YB hk n d q.1 a)<|qf hk n l q.2 b
end
end
section
variable {prog:Program}{w:World}
theorem Yc:∀(n m:Nat) (d:PyData) {A:Around}{E:W0}{s:Shared}{v:Value}{as:W4}{Q:Bool->Shared->Prop},hkP n d=true->n<=m->Reads s.heap v d as->Q true s->wpAny (model prog w) A (eqIsQuiet m v) Q E s
 | n,m,.int i,A,E,s,v,as,Q,_,_,r,h=>by cases r;rw[eqIsQuiet_byValue _ rfl];exact M6 h
 | n,m,.bool b,A,E,s,v,as,Q,_,_,r,h=>by cases r;rw[eqIsQuiet_byValue _ rfl];exact M6 h
 | n,m,.str x,A,E,s,v,as,Q,_,_,r,h=>by cases r;rw[eqIsQuiet_byValue _ rfl];exact M6 h
 | n+1,m+1,.tuple l,A,E,s,v,as,Q,c,hm,r,h=>by
  cases r with
  | @tuple a o items q _ _ j y hd z=>
  have p:s.TypeIs (.ref a) "tuple":=⟨o,j,y⟩;unfold eqIsQuiet;refine L3<|wpAny_specialOf p F.slot_tuple_eq.lookup ?_;show wpAny _ _ (isInstance (.ref a) (.type "tuple") >>= _) _ _ s;refine L3<|wpAny_isInstance p isSubtype_tuple_tuple ?_;simp only[Bool.not_true,Bool.false_eq_true,if_false];refine L3<|wpAny_seqItems j hd ?_;refine L3 ?_;show wpAny _ _ (forIn items _ _) _ _ s;rw[<- Array.forIn_toList];refine wpAny_forIn_list _ (λqw r e=>r.1=none/\e=s/\∃ k bs,YL n k=true/\ReadsAll s.heap qw k bs) _ ?_ ?_ _ _ ⟨rfl,rfl,l,_,by simpa [hkP] using c,z⟩
  ·rintro v qw r e ⟨f,rfl,k,bs,g,B⟩;cases B with
   | @cons _ _ d k a b t u=>
   rw[YL,M0] at g;refine L3<|Yc n m d g.1 (Nat.le_of_succ_le_succ hm) t ?_;simp only[Bool.not_true,Bool.false_eq_true,if_false];exact M6 ⟨rfl,rfl,k,b,g.2,u⟩
  ·rintro⟨t,u⟩ e ⟨f,rfl,_⟩;simp only at f;subst f;exact M6 h
 | n+1,0,.tuple l,A,E,s,v,as,Q,_,hm,_,_=>absurd hm<|Nat.not_succ_le_zero _
 | 0,_,.tuple l,A,E,s,v,as,Q,c,_,_,_=>by simp[hkP] at c
 | _,_,.none,A,E,s,v,as,Q,c,_,_,_=>by simp[hkP] at c
 | _,_,.list _,A,E,s,v,as,Q,c,_,_,_=>by simp[hkP] at c
 | _,_,.dict _,A,E,s,v,as,Q,c,_,_,_=>by simp[hkP] at c
def isN(h:Heap)(k:PyData)(a:Addr):Prop:=∃ l as,hkP 6 (.tuple l)=true/\Reads h (.ref a) (.tuple l) as/\nkP (.tuple l)=k
noncomputable instance:DecidableEq PyData:=Classical.typeDecidableEq PyData
def VM(prog:Program)(w:World):HeapKind prog w PyData where
 is:=isN
 hash:=KH w
 draws:=VH
 room:=λA=>A.units+6<cLine
 inj:=λ⟨l,as,k1,r1,e1⟩ ⟨m,bs,k2,r2,e2⟩=>by
  have:=SeqAt.Reads.unique _ _ _ _ _ (Vi 6 _ k1).1 r1 r2;rw[<- e1,<- e2,this]
 keeps:=λ{h h' k a d o es ep} ⟨l,as,k1,r1,e1⟩ ho hd hs=>⟨l,as,k1,YB (λb q _ _ hb hc=>by
   by_cases e:b=d
   ·subst e;rw[ho] at hb;cases hb;rw[hd] at hc;cases hc
   ·exact(hs.2 b e).trans hb) 6 _ k1 r1,e1⟩
 pyHash:=λhu ⟨l,as,k1,r1,e1⟩ h=>Vn 6 _ k1 hu r1 (by rw[<- e1,uZ,jaU] at h;exact h)
 eqBool:=λ{A E s x y a b Q} hu ⟨l,as,k1,r1,e1⟩ ⟨m,bs,k2,r2,e2⟩ h=>SeqAt.eqAt_reads _ _ A s _ _ _ _ r1 r2 (Vi 6 _ k1).1 (Vi 6 _ k2).1 (by have:=(Vi 6 _ k1).2;have:=(Vi 6 _ k2).2;omega) _ _ _ _ (by
   have q:PyData.eqv (.tuple l) (.tuple m)=decide (x=y):=by rw[Bool.eq_iff_iff,xM 6 6 _ _ k1 k2,e1,e2,decide_eq_true_eq]
   rw[q];exact h)
 quiet:=λ⟨l,as,k1,r1,e1⟩ h=>Yc 6 8 _ k1 (by decide) r1 h
end
structure LamFd(c:Addr)(q:Str)(fd:FuncData):Prop where
 co:fd.scope.isCoroutine=false
 gen:fd.scope.isGenerator=false
 kind:fd.scope.kind=.function
 cell:∀ x∈fd.scope.names,x.2≠.cell
 body:∃ k pos,fd.body=.expr (.Constant (.bool false) k pos)
 bind:∃ x,fd.scope.names.lookup x=some .local/\∀ u,bindArgs fd ⟨[u],[]⟩=pure [(x,u)]
 code:fd.code=.ref c
 qual:fd.qualname=q
 clos:fd.closure=[]
 glob:fd.globals=mainGlobals
 blt:fd.builtins=builtinsNs
def kB(a c:Addr)(q:Str):Heap->Prop:=λh=>∃ fd o,LamFd c q fd/\h.get? a=some o/\o.data=.func fd
def qd(c:Addr)(q:Str):Heap->Prop:=λh=>h.CodeRec (.ref c) q
noncomputable abbrev Key:=Sum Int Str
noncomputable def wJ:Key->Value->Bool
 | .inl k,v=>Value.isInt k v
 | .inr x,v=>Value.isStrOf x v
noncomputable def jmh(w:World):Key->Int
 | .inl k=>hashInt k
 | .inr x=>hashStr w x
def j7:∀{k}{v},wJ k v=true->(∃ i t,k=Sum.inl i/\v=Value.int i t)\/(∃ x t,k=Sum.inr x/\v=Value.str x t)
 | .inl i,v,h=>by
  obtain⟨t,e⟩:=Value.isInt_shape h;exact .inl ⟨i,t,rfl,e⟩
 | .inr x,v,h=>by
  obtain⟨t,e⟩:=Value.isStrOf_shape h;exact .inr ⟨x,t,rfl,e⟩
def ja4(i)(t):wJ (.inl i) (.int i t)=true:=by simp[wJ,Value.isInt]
def jaH(x)(t):wJ (.inr x) (.str x t)=true:=by simp[wJ,Value.isStrOf]
def jjP(a b):decide ((Sum.inl a:Key)=Sum.inl b)=(a==b):=by
 by_cases e:a=b
 ·subst e;simp
 ·have h:¬ (Sum.inl a:Key)=Sum.inl b:=λq=>e<|Sum.inl.inj q;rw[X2 h];exact(U2.mpr e).symm
def jij(a b):decide ((Sum.inr a:Key)=Sum.inr b)=decide (a=b):=by
 by_cases e:a=b
 ·subst e;simp
 ·have h:¬ (Sum.inr a:Key)=Sum.inr b:=λq=>e<|Sum.inr.inj q;rw[X2 h,X2 e]
def jiR(a)(b):decide ((Sum.inl a:Key)=Sum.inr b)=false:=X2 (λq=>nomatch q)
def jkc(a)(b):decide ((Sum.inr a:Key)=Sum.inl b)=false:=X2 (λq=>nomatch q)
def yg(prog)(w):PySem.KeyKind prog w Key where
 is:=wJ
 hash:=jmh w
 inj:=λv a b ha hb=>by
  rcases j7 ha with⟨i,t,rfl,rfl⟩ | ⟨x,t,rfl,rfl⟩
  ·rcases j7 hb with⟨j,u,rfl,e⟩ | ⟨y,u,rfl,e⟩
   ·injection e with e1 _;rw[e1]
   ·exact nomatch e
  ·rcases j7 hb with⟨j,u,rfl,e⟩ | ⟨y,u,rfl,e⟩
   ·exact nomatch e
   ·injection e with e1 _;rw[e1]
 byValue:=λk v h=>by
  rcases j7 h with⟨i,t,rfl,rfl⟩ | ⟨x,t,rfl,rfl⟩<;>rfl
 pyHash:=λhv h=>by
  rcases j7 hv with⟨i,t,rfl,rfl⟩ | ⟨x,t,rfl,rfl⟩
  ·exact wpAny_pyHash_int h
  ·exact wpAny_pyHash_str h
 eqBool:=λhu hv h=>by
  rcases j7 hu with⟨i,t,rfl,rfl⟩ | ⟨x,t,rfl,rfl⟩
  ·rcases j7 hv with⟨j,u,rfl,rfl⟩ | ⟨y,u,rfl,rfl⟩
   ·rw[jjP] at h;exact wpAny_eqBool_int h
   ·rw[jiR] at h;exact SeqAt.EqAt.int_str i t y u _ _ _ _ h
  ·rcases j7 hv with⟨j,u,rfl,rfl⟩ | ⟨y,u,rfl,rfl⟩
   ·rw[jkc] at h;exact SeqAt.EqAt.str_int x t j u _ _ _ _ h
   ·rw[jij] at h;exact wpAny_eqBool_str h
 «strs»:=λk x t v h=>by
  rcases j7 h with⟨i,u,rfl,e⟩ | ⟨y,u,rfl,e⟩
  ·exact nomatch e
  ·injection e with e1 _;subst e1;cases v<;>rfl
def Q6(prog)(w)(i)(t):(yg prog w).is (.inl i) (.int i t)=true:=ja4 i t
def Qw(prog)(w)(x)(t):(yg prog w).is (.inr x) (.str x t)=true:=jaH x t
inductive V where
 | non | bl (b:Bool) | int (i:Int) | str (x:Str) | byt (b:Array UInt8) | flt (b:UInt64) | ref (a:Addr) | ty (n:String)
 deriving DecidableEq
def RelV:V->Value->Prop
 | .non,u=>u=Value.none
 | .bl b,u=>u=Value.bool b
 | .int i,u=>∃ t,u=Value.int i t
 | .str x,u=>∃ t,u=Value.str x t
 | .byt b,u=>∃ t,u=Value.bytes b t
 | .flt b,u=>∃ t,u=Value.float b t
 | .ref a,u=>u=Value.ref a
 | .ty n,u=>u=Value.type n
abbrev Vals:List V->List Value->Prop:=Paired RelV
def Vals.length(r:Vals xs us):xs.length=us.length:=Paired.length r
theorem Vals.get:∀{xs}{us}{i:Nat}{x},Vals xs us->xs[i]?=some x->∃ u,us[i]?=some u/\RelV x u
 | _,_,_,_,.nil,e=>by simp at e
 | _,_,0,_,.cons r _,e=>by simp at e;subst e;exact⟨_,rfl,r⟩
 | _,_,i+1,x,.cons _ t,e=>by
  obtain⟨u,a,b⟩:=Vals.get t ⇑e;exact⟨u,by simpa using a,b⟩
theorem Vals.append:∀{xs ys}{us ws},Vals xs us->Vals ys ws->Vals (xs++ys) (us++ws)
 | _,_,_,_,.nil,s=>s
 | _,_,_,_,.cons r t,s=>.cons r<|Vals.append t s
theorem Vals.take:∀{xs}{us} n,Vals xs us->Vals (xs.take n) (us.take n)
 | _,_,0,_=>.nil
 | _,_,_+1,.nil=>.nil
 | _,_,n+1,.cons r t=>.cons r<|Vals.take n t
theorem Vals.drop:∀{xs}{us} n,Vals xs us->Vals (xs.drop n) (us.drop n)
 | _,_,0,r=>r
 | _,_,_+1,.nil=>.nil
 | _,_,n+1,.cons _ t=>Vals.drop n t
def RelO:Option V->Option Value->Prop
 | some v,some u=>RelV v u
 | none,none=>True
 | _,_=>False
def KV{κ}:List (κ×V)->List (κ×Value)->Prop:=Paired λp q=>p.1=q.1/\RelV p.2 q.2
noncomputable def kV:Key->V
 | .inl i=>.int i
 | .inr x=>.str x
inductive HO where
  | lst (xs:List V)
  | tup (xs:List V)
  | dK (kvs:List (Key×V)) | dT (kvs:List (List Key×V))
  | dN (kvs:List (PyData×Addr×V))
  | set (S:Int->Bool) (n:Nat)
  | ins (C dx:Addr) (fs:List (Str×V))
  | own (x:Addr)
  | xd (fs:List (Str×V))
  | met (f x:Addr)
  | rng (lo hi:Int)
  | frz (o:Obj) (u:HO)
  | tbl (ps:Array Value)
  | ext (φ:Heap->Prop)
noncomputable abbrev Hp:=Addr->Option HO
noncomputable def upd(H:Hp)(a:Addr)(o:HO):Hp:=λb=>if b=a then some o else H b
def jk:upd H a o a=some o:=by unfold upd;rw[if_pos rfl]
def jg(h:b≠a):upd H a o b=H b:=by unfold upd;rw[if_neg h]
def jkL{H:Hp}{a b}{o u}(h:H a=some o)(h':H b=some u)(d:o≠u):a≠b:=by
 intro e;subst e;rw[h] at h';exact d<|X5 h'
def vR{H:Hp}{a b}{o}(h:H a=some o)(h':H b=none):a≠b:=by
 intro e;subst e;rw[h] at h';cases h'
def IsTupN(h:Heap)(a:Addr)(its:Array Value):Prop:=IsTup h a its/\∃ o,h.get? a=some o/\o.dict=none
def IsTupN.new(h:Heap)(its):IsTupN (h.push {cls:=.type "tuple",data:=.seq its}) h.objs.size its:=⟨IsTup.new h its,_,X9 _ rfl,rfl⟩
def IsTupN.lt(x:IsTupN h a its):a<h.objs.size:=x.1.lt
section
variable (P:Program)(w:World)
def ObjOk(H:Hp)(h:Heap)(a:Addr):HO->Prop
 | .lst xs=>xs.length<=sizeLine/\∃ its n,Vals xs its/\h.get? a=some {cls:=.type "list",data:=.seq its.toArray n}
 | .tup xs=>xs.length<=sizeLine/\∃ its:List Value,Vals xs its/\IsTupN h a its.toArray
 | .dK kvs=>kvs.length<=sizeLine/\(a==sysModules)=false/\∃ vs,KV kvs vs/\h.DictOf (yg P w) a vs
 | .dT kvs=>kvs.length<=sizeLine/\(a==sysModules)=false/\∃ xs:List (List Key×Addr×Value),
   Paired (λp q=>p.1=q.1/\H q.2.1=some (.tup<|p.1.map kV)/\RelV p.2 q.2.2) kvs xs /\
   ∃ o es ep,h.get? a=some o/\o.ExactDict/\o.data=.dict es ep/\es.toList=xs.map (entryOfKey<|tupleKind<|yg P w)/\(xs.map (·.1)).Nodup
 | .dN kvs=>kvs.length<=sizeLine/\(a==sysModules)=false/\∃ xs:List (PyData×Addr×Value),
   Paired (λp q=>p.1=q.1/\p.2.1=q.2.1/\RelV p.2.2 q.2.2) kvs xs /\
   ∃ o es ep,h.get? a=some o/\o.ExactDict/\o.data=.dict es ep/\es.toList=xs.map (entryOfKey<|VM P w)/\(xs.map (·.1)).Nodup
 | .set S n=>h.SetOf (intKind P w) a S n
 | .ins C dx fs=>H dx=some (.own a)/\fs.length<=1000/\dx≠a/\h.get? a=some (PySem.W.instObj C dx) /\
   ∃ mA,h.Ns1 dx mA/\(∀ f,RelO (fs.lookup f)<|mA f)/\PySem.Within mA (fs.map (·.1))
 | .own _=>∃ o,h.get? a=some o
 | .xd fs=>∃ mA,h.Ns1 a mA/\∀ f,RelO (fs.lookup f)<|mA f
 | .rng lo hi=>∃ t u v,h.get? a=some {cls:=.type "range",data:=.fields #[.int lo t,.int hi u,.int 1 v]}
 | .frz o u=>h.get? a=some o/\ObjOk H h a u
 | .tbl ps=>h.get? a=some {cls:=.none,data:=.fields ps}
 | .met f x=>h.get? a=some (PySem.W.methodObj (.ref f)<|.ref x)
 | .ext φ=>φ h/\(∃ o,h.get? a=some o)/\∀ h1 h2:Heap,φ h1->(∀ o,h1.get? a=some o->h2.get? a=some o)->φ h2
def HOk(H:Hp)(h:Heap):Prop:=∀ a o,H a=some o->ObjOk P w H h a o
end
section
variable {P:Program}{w:World}{H H':Hp}{h h':Heap}{a:Addr}{o:HO}
def ObjOk.lt(x:ObjOk P w H h a o):a<h.objs.size:=by
 cases o with
 | lst c=>obtain⟨_,_,_,_,e⟩:=x;exact N0 e
 | tup c=>obtain⟨_,_,_,p⟩:=x;exact p.lt
 | dK b=>obtain⟨_,_,_,_,o,_,_,e,_⟩:=x;exact N0 e
 | dT b=>obtain⟨_,_,_,_,o,_,_,e,_⟩:=x;exact N0 e
 | dN b=>obtain⟨_,_,_,_,o,_,_,e,_⟩:=x;exact N0 e
 | set S n=>obtain⟨o,_,_,_,e,_⟩:=x;exact N0 e
 | ins C d fs=>obtain⟨_,_,_,e,_⟩:=x;exact N0 e
 | own y=>obtain⟨_,e⟩:=x;exact N0 e
 | xd fs=>obtain⟨_,⟨_,_,_,e,_⟩,_⟩:=x;exact N0 e
 | rng g i=>obtain⟨_,_,_,e⟩:=x;exact N0 e
 | frz ob u=>obtain⟨e,_⟩:=x;exact N0 e
 | tbl ps=>exact N0<|x
 | met f y=>exact N0<|x
 | ext φ=>obtain⟨_,⟨_,e⟩,_⟩:=x;exact N0 e
theorem Paired.mapP:∀{l₁}{l₂},Paired F l₁ l₂->(∀ a b,F a b->G a b)->Paired G l₁ l₂
 | _,_,.nil,_=>.nil
 | _,_,.cons r t,f=>.cons (f _ _ r)<|Paired.mapP t f
def ObjOk.stay(x:ObjOk P w H h a o)(k:∀ b u,(b=a\/H b=some (.own a))->h.get? b=some u->h'.get? b=some u)
  (D:∀ b,H b=some (.own a)->H' b=some (.own a)) (E:∀ b xs,H b=some (.tup xs)->H' b=some (.tup xs)):ObjOk P w H' h' a o:=by
 induction o with
 | lst xs=>obtain⟨z,j,n,r,e⟩:=x;exact⟨z,j,n,r,k _ _ (.inl rfl) e⟩
 | tup xs=>obtain⟨z,j,r,⟨ob,e,c⟩,m,s,F⟩:=x;exact⟨z,j,r,⟨ob,k _ _ (.inl rfl) e,c⟩,m,k _ _ (.inl rfl) s,F⟩
 | dK l=>obtain⟨z,y,vs,r,ob,g,i,e,c⟩:=x;exact⟨z,y,vs,r,ob,g,i,k _ _ (.inl rfl) e,c⟩
 | dT l=>
  obtain⟨z,y,xs,r,ob,g,i,e,c⟩:=x;exact⟨z,y,xs,Paired.mapP r λp q z=>⟨z.1,E _ _ z.2.1,z.2.2⟩,ob,g,i,k _ _ (.inl rfl) e,c⟩
 | dN l=>
  obtain⟨z,y,xs,r,ob,g,i,e,c⟩:=x;exact⟨z,y,xs,r,ob,g,i,k _ _ (.inl rfl) e,c⟩
 | set S n=>obtain⟨ob,g,i,t,e,c⟩:=x;exact⟨ob,g,i,t,k _ _ (.inl rfl) e,c⟩
 | ins C I fs=>
  obtain⟨d,z,ne,e,A,⟨od,g,i,s,c⟩,r⟩:=x;exact⟨D _ d,z,ne,k _ _ (.inl rfl) e,A,⟨od,g,i,k _ _ (.inr d) s,c⟩,r⟩
 | own y=>obtain⟨ob,e⟩:=x;exact⟨ob,k _ _ (.inl rfl) e⟩
 | xd fs=>obtain⟨A,⟨od,g,i,e,c⟩,r⟩:=x;exact⟨A,⟨od,g,i,k _ _ (.inl rfl) e,c⟩,r⟩
 | rng J K=>obtain⟨t,u,v,e⟩:=x;exact⟨t,u,v,k _ _ (.inl rfl) e⟩
 | frz ob u G=>obtain⟨e,q⟩:=x;exact⟨k _ _ (.inl rfl) e,G q⟩
 | tbl ps=>
  have e:=x;exact k a _ (.inl rfl) e
 | met f y=>
  have e:=x;exact k a _ (.inl rfl) e
 | ext φ=>obtain⟨p,⟨o,e⟩,B⟩:=x;exact⟨B _ _ p λo q=>k _ _ (.inl rfl) q,⟨o,k _ _ (.inl rfl) e⟩,B⟩
def HOk.lt(x:HOk P w H h)(e:H a=some o):a<h.objs.size:=(x a o e).lt
def HOk.fresh(x:HOk P w H h)(e:h.objs.size<=a):H a=none:=by
 cases q:H a with
 | none=>rfl
 | some u=>exact absurd (U4 (x.lt q) e)<|Nat.lt_irrefl _
def HOk.kept(x:HOk P w H h)(k:∀ b u,h.get? b=some u->h'.get? b=some u):HOk P w H h':=λa o e=>
 (x a o e).stay (λb u _ q=>k b u q) (λ_ q=>q) λ_ _ q=>q
def HOk.laid(x:HOk P w H h)(k:∀ b u,h.get? b=some u->h'.get? b=some u)(g:h.objs.size<=a)(new:ObjOk P w (upd H a o) h' a o):HOk P w (upd H a o) h':=λb u e=>by
 have d:=x.fresh g;by_cases f:b=a
 ·subst f;rw[jk] at e;cases e;exact new
 ·rw[jg f] at e;exact(x b u e).stay (λc v _ q=>k c v q) (λc q=>by rw[jg<|vR q d];exact q) λc i q=>by rw[jg<|vR q d];exact q
end
def Rd(H:Hp)(a:Addr)(u:HO):Prop:=H a=some u \/ ∃ o,H a=some (.frz o u)
def Rd.ok(r:Rd H a u)(x:HOk P w H h):ObjOk P w H h a u:=by
 rcases r with r | ⟨o,r⟩
 ·exact x a u r
 ·obtain⟨_,q⟩:=x a _ r;exact q
def Mut:Option HO->Prop
 | some (.lst _)=>True
 | some (.dK _)=>True
 | some (.dT _)=>True
 | some (.dN _)=>True
 | some (.set _ _)=>True
 | some (.ins _ _ _)=>True
 | some (.ext _)=>True
 | _=>False
section
variable {P:Program}{w:World}{H:Hp}{h h':Heap}{x e:Addr}{o':HO}
def HOk.write(ok:HOk P w H h)(g:Mut<|H x)(n:e=x\/H e=some (.own x))(k:∀ b u,b≠e->h.get? b=some u->h'.get? b=some u)(m:∃ u,h'.get? e=some u)
  (new:ObjOk P w (upd H x o') h' x o'):HOk P w (upd H x o') h':=λb u q=>by
 have d:∀ c y,H c=some (.own y)->c≠x:=λc y r z=>by subst z;rw[r] at g;exact g
 have f:∀ c i,H c=some (.tup i)->c≠x:=λc i r z=>by subst z;rw[r] at g;exact g
 by_cases j:b=x
 ·subst j;rw[jk] at q;cases q;exact new
 ·rw[jg j] at q;by_cases a:b=e
  ·have o:H b=some (.own x):=by
    rcases n with z | z
    ·exact absurd (a.trans z) j
    ·rw[a];exact z
   rw[q] at o;cases o;obtain⟨v,p⟩:=m;exact⟨v,by rw[a];exact p⟩
  ·refine(ok b u q).stay (λc v l r=>k c v ?_ r) (λc r=>by rw[jg<|d c b r];exact r) λc i r=>by rw[jg<|f c i r];exact r
   rcases l with rfl | l
   ·exact a
   ·rintro rfl;rcases n with z | z
    ·exact d c b l z
    ·rw[l] at z;cases z;exact j rfl
end
structure Un(fs ex:W4)(H H':Hp)(h h':Heap):Prop where
 keep:∀ b o,h.get? b=some o->H b=none->b∉fs->b∉ex->h'.get? b=some o
 slot:∀ b o,h.get? b=some o->H b=none->b∈fs->b∉ex->∃ sl,h'.get? b=some {o with slots:=sl}
 free:∀ b o,h.get? b=some o->H b=none->b∉ex->H' b=none
 there:∀ b o,h.get? b=some o->b∉ex->∃ o',h'.get? b=some o'
 tups:∀ b xs,H b=some (.tup xs)->H' b=some (.tup xs)
 frzs:∀ b o u,H b=some (.frz o u)->H' b=some (.frz o u)
 tbls:∀ b ps,H b=some (.tbl ps)->∃ more,H' b=some (.tbl<|ps++more)
section
variable {fs fs' ex ex':W4}{H H1 H2:Hp}{h h1 h2 h':Heap}{a x e:Addr}{o:HO}
def Un.any(u:Un fs ex H H1 h h1)  (q:h.get? b=some ob) (n:H b=none) (a:b∉ex):∃ sl,h1.get? b=some {ob with slots:=sl}:=by
 by_cases c:b∈fs
 ·exact u.slot b ob q n c a
 ·exact⟨ob.slots,u.keep b ob q n c a⟩
def Un.kept(k:∀ b u,h.get? b=some u->h'.get? b=some u):Un fs ex H H h h':=
 ⟨λb ob q _ _ _=>k b ob q,λb ob q _ _ _=>⟨ob.slots,k b ob q⟩,λ_ _ _ n _=>n,λb ob q _=>⟨ob,k b ob q⟩,λ_ _ q=>q,λ_ _ _ q=>q,λ_ ps q=>⟨#[],by rw[q];simp⟩⟩
def Un.refl:Un fs ex H H h h:=Un.kept λ_ _ q=>q
def Un.laid(k:∀ b u,h.get? b=some u->h'.get? b=some u)(c:h.objs.size<=a)(hn:H a=none):Un fs ex H (upd H a o) h h' where
 keep:=λb u q _ _ _=>k b u q
 slot:=λb u q _ _ _=>⟨u.slots,k b u q⟩
 free:=λb u q n _=>by rw[jg<|N6<|U4 (N0 q) c];exact n
 there:=λb u q _=>⟨u,k b u q⟩
 tups:=λb d q=>by rw[jg<|vR q hn];exact q
 frzs:=λb u d q=>by rw[jg<|vR q hn];exact q
 tbls:=λb ps q=>⟨#[],by rw[jg<|vR q hn,q];simp⟩
def Un.write(c:Mut<|H x)(i:e=x\/H e=some (.own x))(k:∀ b u,b≠e->h.get? b=some u->h'.get? b=some u)(d:∃ u,h'.get? e=some u):Un fs ex H (upd H x o) h h':=by
 have f:∀ b,H b=none->b≠x:=λb n z=>by subst z;rw[n] at c;exact c
 have g:∀ b,H b=none->b≠e:=λb n z=>by
  subst z;rcases i with r | r
  ·exact f b n r
  ·rw[n] at r;cases r
 have hm:∀ b u,H b=some u->¬ Mut (some u)->b≠x:=λb u q nm z=>by subst z;rw[q] at c;exact nm c
 refine⟨λb u q n _ _=>k b u (g b n) q,λb u q n _ _=>⟨u.slots,k b u (g b n) q⟩,λb u q n _=>by rw[jg<|f b n];exact n,λb u q _=>?_,
  λb j q=>by rw[jg<|hm b _ q λz=>z];exact q,λb u j q=>by rw[jg<|hm b _ q λz=>z];exact q,λb ps q=>⟨#[],by rw[jg<|hm b _ q λz=>z,q];simp⟩⟩
 by_cases a:b=e
 ·subst a;exact d
 ·exact⟨u,k b u a q⟩
end
noncomputable def trk(h:Heap)(H:Hp):List Addr:=(List.range h.objs.size).filter λa=>(H a).isSome
def jch(h:Heap)(H:Hp):Heap:=PySem.W.hideAll h<|trk h H
def uI(h)(H):(jch h H).objs.size=h.objs.size:=PySem.W.hideAll_size _ _
def jdM(e:h.get? b=some o)(n:H b=none):(jch h H).get? b=some o:=
 PySem.W.hideAll_get _ e λhm=>by
  have q:=(List.mem_filter.mp hm).2;rw[n] at q;simp at q
def jgK(e:(jch h H).get? b=some o):h.get? b=some o/\H b=none:=by
 have a:=PySem.W.of_hideAll (trk h H) e;refine⟨a,?_⟩;cases q:H b with
 | none=>rfl
 | some x=>
  have hm:b∈trk h H:=List.mem_filter.mpr ⟨List.mem_range.mpr<|N0 a,by simp[q]⟩;have z:(jch h H).get? b=none:=PySem.W.hideAll_none (trk h H) hm;rw[z] at e;cases e
noncomputable def jhs(g h:Heap)(L:Addr):List (Addr×Obj):=(List.range h.objs.size).filterMap λa=>if a=L\/(g.get? a).isSome=true then none else(h.get? a).map λo=>(a,o)
def qw(g h:Heap)(L d:Addr):List (Addr×Obj):=(jhs g h L).filter λp=>decide<|p.1≠d
structure Mod(K:W3)(mg:W5)(base:Heap):Prop where
 kin:K.In base
 glob:base.Ns mainGlobals mg
 blt:∃ mb,base.Ns builtinsNs mb/\∀ x:Str,x≠"__name__"->mb x=bootBuiltins x
 nolimit:base.NoLimit
structure Cx where
 prog:Program
 w:World
 K:PySem.W.Frag
 mg:Str->Option Value
 base:Heap
 A:Around
 N:List Str
 s₀:Shared
 H₀:Hp
 env:Env
 outer:List Env
 stack:List Env
 ex:List Addr
 fn:Str->Bool
 calm:Bool
 pn:List (Addr×Obj)
 xe:Value->Shared->Prop
noncomputable def frs(l:List Env):List Addr:=l.filterMap (·.frame)
abbrev Cx.fs(X:Cx):List Addr:=frs X.outer
def Vis(sc:Scope)(x:Str):Prop:=sc.names.lookup x=some .local\/sc.names.lookup x=some .cell\/sc.names.lookup x=some .free
def Loc(sc:Scope)(x:Str):Prop:=sc.names.lookup x=some .local\/sc.names.lookup x=some .cell
def jmi(env:Env)(h:Heap)(m:W5)(x:Str)(u:Value):Prop:=
 (env.kindOf x=some .local/\m x=some u)\/((env.kindOf x=some .cell\/env.kindOf x=some .free)/\∃ c,env.cells.lookup x=some c/\h.IsCell c (some u))
structure Cx.Ok(X:Cx):Prop where
 mod:Mod X.K X.mg X.base
 kind:X.env.scope.kind=.function
 glob:X.env.globals=mainGlobals
 blt:X.env.builtins=builtinsNs
 above:X.s₀.heap.objs.size<=X.env.locals
 inj:∀ x y c,X.env.cells.lookup x=some c->X.env.cells.lookup y=some c->x=y
 has:∀ x,(X.env.kindOf x=some .cell\/X.env.kindOf x=some .free)->∃ c,X.env.cells.lookup x=some c
 cab:∀ x c,X.fn x=true->X.env.cells.lookup x=some c->X.s₀.heap.objs.size<=c
 hd:X.calm=true->X.A.handled=none
 frames:X.A.frames=some X.stack
 stk:X.stack=X.outer\/(X.stack=X.env::X.outer/\X.env.frame=some X.env.locals)
 exf:∀ b∈X.ex,b≠X.env.locals/\∀ x c,X.env.cells.lookup x=some c->c≠b
 bs:∀ b o,X.base.get? b=some o->X.s₀.heap.get? b=some o/\X.H₀ b=none
 bsz:X.base.objs.size<=X.s₀.heap.objs.size
 noex:∀ b o,X.base.get? b=some o->b∉X.ex
 exfs:∀ b∈X.ex,b∉X.fs
 funs:X.s₀.heap.FunFrames X.base X.outer
 frf:∀ b∈X.fs,X.H₀ b=none
structure Inv(X:Cx)(pins:W1)(σ:List<|Option V)(H:Hp)(s:Shared):Prop where
 ok:X.Ok
 os:s.os=X.s₀.os
 bare:AllBare s.gens
 base:Un X.fs X.ex X.H₀ H X.s₀.heap s.heap
 loc:∃ m,s.heap.Ns X.env.locals m/\∀(i:Nat) (x:Str) (v:V),X.N[i]?=some x->σ[i]?=some (some v)->Vis X.env.scope x->∃ u,RelV v u/\jmi X.env s.heap m x u
 cell:∀ x c,X.env.cells.lookup x=some c->∃ v,s.heap.IsCell c v
 free:H X.env.locals=none
 freeC:∀ x c,X.env.cells.lookup x=some c->H c=none
 pin:∀ p∈X.pn++pins,s.heap.get? p.1=some p.2/\H p.1=none/\p.1≠X.env.locals/\p.1∉X.fs/\∀ v,p.2.data≠.cell v
 hok:HOk X.prog X.w H s.heap
 len:σ.length=X.N.length
section
variable {X:Cx}{pins:List (Addr×Obj)}{σ:List (Option V)}{H H':Hp}{s:Shared}{h':Heap}
def Cx.Ok.nofr(ok:X.Ok)  {o}(e:X.base.get? b=some o):b∉X.fs:=λa=>by
 have:=(ok.funs.mem a).1;rw[e] at this;cases this
def Inv.bs(I:Inv X pins σ H s):∀ b o,X.base.get? b=some o->s.heap.get? b=some o/\H b=none:=λb o e=>
 ⟨I.base.keep b o (I.ok.bs b o e).1 (I.ok.bs b o e).2 (I.ok.nofr e) (I.ok.noex b o e),I.base.free b o (I.ok.bs b o e).1 (I.ok.bs b o e).2 (I.ok.noex b o e)⟩
def Inv.bk(I:Inv X pins σ H s):∀ b o,X.base.get? b=some o->s.heap.get? b=some o:=λb o e=>(I.bs b o e).1
def Inv.mod(I:Inv X pins σ H s):Mod X.K X.mg X.base:=I.ok.mod
def Inv.kIn(I:Inv X pins σ H s):X.K.In s.heap:=I.ok.mod.kin.keeps I.bk
def Inv.nolimit(I:Inv X pins σ H s):s.heap.NoLimit:=I.ok.mod.nolimit.keeps I.bk
def Inv.lt(I:Inv X pins σ H s):X.env.locals < ↥s:=let ⟨_,hn,_⟩:=I.loc;hn.lt
def Inv.sz(I:Inv X pins σ H s):X.s₀.heap.objs.size<=↥s:=N7 I.ok.above<|Nat.le_of_lt I.lt
def Inv.nofs(I:Inv X pins σ H s)  (h:↥s<=a):a∉X.fs:=λb=>by
 obtain⟨_,o,c,_⟩:=I.ok.funs.mem b;exact absurd (U4 (N0 c)<|N7 I.sz h)<|Nat.lt_irrefl _
def Inv.cne(I:Inv X pins σ H s):∀ x c,X.env.cells.lookup x=some c->c≠X.env.locals:=λx c e z=>by
 obtain⟨v,o,d,hd⟩:=I.cell x c e;obtain⟨m,⟨f,g,h,a,b,_⟩,_⟩:=I.loc;rw[z,a] at d;cases d;rw[b] at hd;cases hd
def Inv.funs(I:Inv X pins σ H s):s.heap.FunFrames X.base X.outer:=by
 have all:∀ l,(∀ b∈frs l,b∈X.fs)->X.s₀.heap.FunFrames X.base l->s.heap.FunFrames X.base l:=by
  intro l
  induction l with
  | nil=>intro _ _;trivial
  | cons env r f=>
   intro hs hl;obtain⟨g,⟨L,o,a,h,i,hd⟩,j⟩:=hl;have c:=hs L (by unfold frs;rw[List.filterMap_cons,a];exact L7);obtain⟨k,e⟩:=I.base.slot L o i (I.ok.frf L c) c λz=>I.ok.exfs L z c;exact⟨g,⟨L,_,a,h,e,hd⟩,f (λb d=>hs b<|by unfold frs;rw[List.filterMap_cons,a];exact L6 _ d) j⟩
 exact all X.outer (λ_ d=>d) I.ok.funs
def Inv.stack(I:Inv X pins σ H s):s.heap.FunFrames X.base X.stack:=by
 rcases I.ok.stk with e | ⟨e,a⟩
 ·rw[e];exact I.funs
 ·rw[e];obtain⟨m,b,_⟩:=I.loc;refine .cons (by rw[I.ok.kind];decide) a b ?_ I.funs;exact Heap.get?_none_of_le<|N7 I.ok.bsz I.ok.above
def Inv.stkSub(I:Inv X pins σ H s):∀ b∈frs X.stack,b∈X.env.locals::X.fs:=λb a=>by
 rcases I.ok.stk with e | ⟨e,c⟩
 ·rw[e] at a;exact L6 _ a
 ·rw[e] at a;unfold frs at a;rw[List.filterMap_cons,c] at a;exact a
def Inv.stkFree(I:Inv X pins σ H s):∀ b∈frs X.stack,H b=none:=λb a=>by
 rcases M4.mp (I.stkSub b a) with e | a
 ·rw[e];exact I.free
 ·obtain⟨_,o,c,_⟩:=I.ok.funs.mem a;exact I.base.free b o c (I.ok.frf b a) λz=>I.ok.exfs b z a
def Inv.step{E}{t'}{ch:W4}(I:Inv X pins σ H s)
  (f:∀ b∈ch,(b∈X.ex\/X.s₀.heap.objs.size<=b)/\b≠X.env.locals/\(∀ x c,X.env.cells.lookup x=some c->c≠b)/\∀ p∈X.pn++pins,p.1≠b)
  (keep:∀ b o,b≠X.env.locals->b∉X.fs->b∉ch->s.heap.get? b=some o->H b=none->h'.get? b=some o)
  (slot:∀ b o,b≠X.env.locals->b∈X.fs->b∉ch->s.heap.get? b=some o->H b=none->∃ sl,h'.get? b=some {o with slots:=sl}) (free:∀ b o,b∉ch->s.heap.get? b=some o->H b=none->H' b=none)
  (there:∀ b o,b∉ch->s.heap.get? b=some o->∃ o',h'.get? b=some o')
  (tups:∀ b xs,H b=some (.tup xs)->H' b=some (.tup xs)) (frzs:∀ b o u,H b=some (.frz o u)->H' b=some (.frz o u)) (tbls:∀ b ps,H b=some (.tbl ps)->∃ more,H' b=some (.tbl<|ps++more))
  (ns:∀ m,s.heap.Ns X.env.locals m->h'.Ns X.env.locals m) (hok:HOk X.prog X.w H' h') (K:AllBare E):
  Inv X pins σ H' {s with heap:=h',gens:=E,drawn:=d',toks:=t'}:=by
 have B:∀ b o,X.s₀.heap.get? b=some o->b≠X.env.locals:=λb o e=>N6<|U4 (N0 e) I.ok.above;have j:∀ b o,X.s₀.heap.get? b=some o->b∉X.ex->b∉ch:=λb o e a y=>by
  rcases(f b y).1 with z | z
  ·exact a z
  ·exact absurd (U4 (N0 e) z)<|Nat.lt_irrefl _
 have g:∀ x c,X.env.cells.lookup x=some c->∀ v,s.heap.IsCell c v->h'.IsCell c v:=λx c e v ⟨o,A,hd⟩=>by
  have h:=λz=>(f c z).2.2.1 x c e rfl;by_cases F:c∈X.fs
  ·obtain⟨sl,q⟩:=slot c o (I.cne x c e) F h A<|I.freeC x c e;exact⟨_,q,hd⟩
  ·exact⟨o,keep c o (I.cne x c e) F h A<|I.freeC x c e,hd⟩
 refine⟨I.ok,I.os,K,⟨λb o e n y a=>(keep b o (B b o e) y (j b o e a) (I.base.keep b o e n y a)<|I.base.free b o e n a),λb o e n y a=>?_,λb o e n a=>?_,λb o e a=>?_,λb xs e=>tups b xs<|I.base.tups b xs e,λb o xs e=>frzs b o xs<|I.base.frzs b o xs e,λb ps e=>?_⟩,?_,λx c e=>?_,?_,λx c e=>?_,λp G=>?_,hok,I.len⟩
 ·obtain⟨sl,t⟩:=I.base.slot b o e n y a;obtain⟨D,C⟩:=slot b _ (B b o e) y (j b o e a) t<|I.base.free b o e n a;exact⟨D,C⟩
 ·obtain⟨o',t⟩:=I.base.there b o e a;exact free b o' (j b o e a) t<|I.base.free b o e n a
 ·obtain⟨o',t⟩:=I.base.there b o e a;exact there b o' (j b o e a) t
 ·obtain⟨L,t⟩:=I.base.tbls b ps e;obtain⟨M,C⟩:=tbls b _ t;exact⟨L++M,by rw[C,Array.append_assoc]⟩
 ·obtain⟨m,N,hl⟩:=I.loc;refine⟨m,ns m N,λi x v t C O=>?_⟩;obtain⟨u,r,l⟩:=hl i x v t C O;refine⟨u,r,?_⟩;rcases l with l | ⟨k,c,e,z⟩
  ·exact .inl l
  ·exact .inr ⟨k,c,e,g x c e _ z⟩
 ·obtain⟨v,z⟩:=I.cell x c e;exact⟨v,g x c e v z⟩
 ·obtain⟨m,⟨o,_,_,A,_⟩,_⟩:=I.loc;exact free _ o (λz=>(f _ z).2.1 rfl) A I.free
 ·obtain⟨v,o,A,hd⟩:=I.cell x c e;exact free c o (λz=>(f c z).2.2.1 x c e rfl) A<|I.freeC x c e
 ·obtain⟨e,n,ne,J,d⟩:=I.pin p G;have h:=λz=>(f p.1 z).2.2.2 p G rfl;exact⟨keep p.1 p.2 ne J h e n,free p.1 p.2 h e n,ne,J,d⟩
def Inv.un{t'}(I:Inv X pins σ H s)(u:Un X.fs [] H H' s.heap h')(hok:HOk X.prog X.w H' h'):Inv X pins σ H' {s with heap:=h',toks:=t'}:=by
 obtain⟨m,⟨o,j,k,g,r⟩,_⟩:=id I.loc;obtain⟨l,h⟩:=u.any g I.free (by simp);exact I.step (ch:=[]) (λ_ z=>nomatch z) (λb o _ c _ e n=>u.keep b o e n c<|by simp) (λb o _ c _ e n=>u.slot b o e n c<|by simp) (λb o _ e n=>u.free b o e n<|by simp) (λb o _ e=>u.there b o e<|by simp) u.tups u.frzs u.tbls (λp hm=>by
  obtain⟨q,d,f,a,i⟩:=hm;rw[g] at a;cases a;exact⟨_,d,f,h,i⟩) hok I.bare
def Inv.call{j}{t'}{ch}(I:Inv X pins σ H s)(u:Un (frs X.stack) ch H H' s.heap h')(hok:HOk X.prog X.w H' h')(l:AllBare j)
  (d:∀ b∈ch,(b∈X.ex\/X.s₀.heap.objs.size<=b)/\b≠X.env.locals/\(∀ x c,X.env.cells.lookup x=some c->c≠b)/\∀ p∈X.pn++pins,p.1≠b):
  Inv X pins σ H' {s with heap:=h',gens:=j,drawn:=d',toks:=t'}:=by
 obtain⟨m,⟨o,v,y,k,r⟩,_⟩:=id I.loc;obtain⟨A,g⟩:=u.any k I.free λz=>(d _ z).2.1 rfl;exact I.step d (λb o g q a e n=>u.keep b o e n (λz=>(M4.mp<|I.stkSub b z).elim g q) a) (λb o _ _ a e n=>u.any e n a) (λb o a e n=>u.free b o e n a) (λb o a e=>u.there b o e a) u.tups u.frzs u.tbls (λB hm=>by
  obtain⟨C,h,i,f,t⟩:=hm;rw[k] at f;cases f;exact⟨_,h,i,g,t⟩) hok l
def Inv.turned{t'}(I:Inv X pins σ H s)(k:∀ b o,b≠it->s.heap.get? b=some o->h'.get? b=some o)(hn:H it=none)(f:it≠X.env.locals)
  (h1:it∈X.ex\/X.s₀.heap.objs.size<=it) (h2:∀ x c,X.env.cells.lookup x=some c->c≠it) (g:∀ p∈X.pn++pins,p.1≠it):Inv X pins σ H {s with heap:=h',toks:=t'}:=by
 have d:∀ b u,H b=some u->b≠it:=λb u e z=>by rw[z,hn] at e;cases e
 refine I.step (ch:=[it]) (λb h=>?_) (λb o _ _ a e _=>k b o (λz=>a<|by simp[z]) e) (λb o _ _ a e _=>⟨o.slots,k b o (λz=>a<|by simp[z]) e⟩) (λ_ _ _ _ n=>n)
  (λb o a e=>⟨o,k b o (λz=>a<|by simp[z]) e⟩) (λ_ _ e=>e) (λ_ _ _ e=>e) (λb ps e=>⟨#[],by rw[e];simp⟩) (λm hm=>?_) (λb u e=>?_) I.bare
 ·have e:b=it:=by simpa using h
  subst e;exact⟨h1,f,h2,g⟩
 ·obtain⟨o,i,j,l,r⟩:=hm;exact⟨o,i,j,k _ o (Ne.symm f) l,r⟩
 ·refine(I.hok b u e).stay (λc v a q=>k c v ?_ q) (λ_ q=>q) λ_ _ q=>q;rcases a with z | z
  ·rw[z];exact d b u e
  ·exact d c _ z
def Inv.tok(I:Inv X pins σ H s)(t):Inv X pins σ H {s with toks:=t}:=I.un Un.refl I.hok
def Inv.kept(I:Inv X pins σ H s)(k:∀ b u,s.heap.get? b=some u->h'.get? b=some u):Inv X pins σ H {s with heap:=h',toks:=t'}:=I.un (Un.kept k)<|I.hok.kept k
def Inv.laid(I:Inv X pins σ H s)(k:∀ b u,s.heap.get? b=some u->h'.get? b=some u)(c:↥s<=a)(new:ObjOk X.prog X.w (upd H a o) h' a o):
  Inv X pins σ (upd H a o) {s with heap:=h',toks:=t'}:=I.un (Un.laid k c<|I.hok.fresh c)<|I.hok.laid k c new
def Inv.write(I:Inv X pins σ H s)(c:Mut<|H x)(d:e=x\/H e=some (.own x))(k:∀ b u,b≠e->s.heap.get? b=some u->h'.get? b=some u)(a:∃ u,h'.get? e=some u)
  (new:ObjOk X.prog X.w (upd H x o) h' x o):Inv X pins σ (upd H x o) {s with heap:=h',toks:=t'}:=I.un (Un.write c d k a)<|I.hok.write c d k a new
def Inv.pins_of(I:Inv X pins σ H s)(h:∀ p∈pins',s.heap.get? p.1=some p.2/\H p.1=none/\p.1≠X.env.locals/\p.1∉X.fs/\∀ v,p.2.data≠.cell v):Inv X pins' σ H s:=
 ⟨I.ok,I.os,I.bare,I.base,I.loc,I.cell,I.free,I.freeC,λp a=>(N1.mp a).elim (λz=>I.pin p<|List.mem_append_left _ z) (h p),I.hok,I.len⟩
def xi{N:List Str}(c:N.Nodup){i j:Nat}(a:N[i]?=some x)(b:N[j]?=some x):i=j:=by
 obtain⟨f,d⟩:=L9.mp a;obtain⟨g,e⟩:=L9.mp b;exact(List.getElem_inj c).mp (d.trans e.symm)
def uL(I:Inv X pins σ H s)(hN:X.N.Nodup)(hi:X.N[i]?=some x)(t:Loc X.env.scope x)(r:RelV v u)
  (h:∀ s',Inv X pins (σ.set i<|some v) H s'->(∃ a,Heap.SameBut a s.heap s'.heap/\(a=X.env.locals\/X.env.cells.lookup x=some a))->Q () s') (hf:X.fn x=true\/X.env.scope.names.lookup x=some .local:=by first | exact .inl rfl | exact .inr rfl | assumption):wpAny M A (storeName X.env x u) Q E s:=by
 obtain⟨m,W,hl⟩:=id I.loc;have L:(X.env.scope.kind==.class||(X.env.scope.kind==.module&&X.env.locals != X.env.globals))=false:=by rw[I.ok.kind];rfl
 have O:i<σ.length:=by rw[I.len];exact(L9.mp hi).1
 have cne:=I.cne;have f:∀{a}{K},(∃ o,s.heap.get? a=some o/\H a=none)->Heap.SameBut a s.heap K->HOk X.prog X.w H K:=λ{a K} ha hs b ob e=>by
  obtain⟨_,_,B⟩:=ha;refine(I.hok b ob e).stay (λc U l q=>(hs.2 c ?_).trans q) (λ_ q=>q) λ_ _ q=>q;rintro rfl;rcases l with rfl | l
  ·rw[B] at e;cases e
  ·rw[B] at l;cases l
 rcases t with D | D
 ·refine wpAny_storeName_local D W (λK Y hs=>?_) L;obtain⟨oL,_,_,Z,_⟩:=id W;refine h _ ⟨I.ok,I.os,I.bare,⟨λb o e n F t=>((hs.2 b<|N6<|U4 (N0 e) I.ok.above).trans (I.base.keep b o e n F t)),λb o e n F t=>?_,I.base.free,λb o e t=>?_,I.base.tups,I.base.frzs,I.base.tbls⟩,⟨_,Y,λj y v' g C e3=>?_⟩,λy c e=>?_,I.free,I.freeC,λp hp=>?_,f ⟨oL,Z,I.free⟩ hs,by simpa using I.len⟩ ⟨_,hs,.inl rfl⟩
  ·obtain⟨sl,g⟩:=I.base.slot b o e n F t;exact⟨sl,(hs.2 b<|N6<|U4 (N0 e) I.ok.above).trans g⟩
  ·obtain⟨o',g⟩:=I.base.there b o e t;exact⟨o',(hs.2 b<|N6<|U4 (N0 e) I.ok.above).trans g⟩
  ·by_cases G:j=i
   ·subst G;rw[hi] at g;cases g;rw[List.getElem?_set_self O] at C;cases C;exact⟨u,r,.inl ⟨D,by simp⟩⟩
   ·rw[List.getElem?_set_ne<|Ne.symm G] at C;obtain⟨u',r',q⟩:=hl j y v' g C e3;refine⟨u',r',?_⟩;rcases q with⟨k,e⟩ | ⟨k,c,e,z⟩
    ·refine .inl ⟨k,?_⟩;have:y≠x:=λe=>G<|xi hN g<|e▸hi;simp[this,e]
    ·exact .inr ⟨k,c,e,z.sameBut hs<|cne y c e⟩
  ·obtain⟨U,z⟩:=I.cell y c e;exact⟨U,z.sameBut hs<|cne y c e⟩
  ·obtain⟨e,n,ne,nf,d⟩:=I.pin p hp;exact⟨(hs.2 p.1 ne).trans e,n,ne,nf,d⟩
 ·have J:X.fn x=true:=by
   rcases hf with z | z
   ·exact z
   ·rw[z] at D;cases D
  obtain⟨c,l⟩:=I.ok.has x<|.inl D;obtain⟨U,z⟩:=I.cell x c l;refine wpAny_storeName_cell I.ok.kind D l z<|λK P hs=>?_;obtain⟨oc,R,S⟩:=id z;refine h {s with heap:=K} ⟨I.ok,I.os,I.bare,⟨λb o e n F t=>((hs.2 b<|N6<|U4 (N0 e)<|I.ok.cab x c J l).trans (I.base.keep b o e n F t)),λb o e n F t=>?_,I.base.free,λb o e t=>?_,I.base.tups,I.base.frzs,I.base.tbls⟩,⟨m,W.sameBut hs<|Ne.symm<|cne x c l,λj y v' g C e3=>?_⟩,λy V e=>?_,I.free,I.freeC,λp hp=>?_,f ⟨oc,R,I.freeC x c l⟩ hs,by simpa using I.len⟩ ⟨c,hs,.inr l⟩
  ·obtain⟨sl,g⟩:=I.base.slot b o e n F t;exact⟨sl,(hs.2 b<|N6<|U4 (N0 e)<|I.ok.cab x c J l).trans g⟩
  ·obtain⟨o',g⟩:=I.base.there b o e t;exact⟨o',(hs.2 b<|N6<|U4 (N0 e)<|I.ok.cab x c J l).trans g⟩
  ·by_cases G:j=i
   ·subst G;rw[hi] at g;cases g;rw[List.getElem?_set_self O] at C;cases C;exact⟨u,r,.inr ⟨.inl D,c,l,P⟩⟩
   ·rw[List.getElem?_set_ne<|Ne.symm G] at C;obtain⟨u',r',q⟩:=hl j y v' g C e3;refine⟨u',r',?_⟩;rcases q with q | ⟨k,V,e,z'⟩
    ·exact .inl q
    ·refine .inr ⟨k,V,e,z'.sameBut hs ?_⟩;rintro rfl;exact G<|xi hN g<|I.ok.inj _ _ _ e l▸hi
  ·by_cases T:V=c
   ·subst T;exact⟨_,P⟩
   ·obtain⟨w2,z2⟩:=I.cell y V e;exact⟨w2,z2.sameBut hs T⟩
  ·obtain⟨e,n,ne,nf,d⟩:=I.pin p hp;refine⟨(hs.2 p.1 ?_).trans e,n,ne,nf,d⟩;intro q;rw[q,R] at e;exact d U (by rw[<- (X5 e)];exact S)
def VP(I:Inv X pins σ H s)(a:X.N.Nodup)(hi:X.N[i]?=some x)(b:Loc X.env.scope x)(r:RelV v u)
  (h:∀ s',Inv X pins (σ.set i<|some v) H s'->Q () s') (c:X.fn x=true\/X.env.scope.names.lookup x=some .local:=by first | exact .inl rfl | exact .inr rfl | assumption):wpAny M A (storeName X.env x u) Q E s:=
 uL I a hi b r (λs' d _=>h s' d) c
end
abbrev XK:=Value->Option Addr->Hp->Prop
noncomputable abbrev St:=List<|Option V
abbrev VK:=V->Hp->Prop
abbrev TE:=St->Hp->VK->Prop
abbrev TT:=St->Hp->(Bool->Hp->Prop)->Prop
abbrev TA:=St->Hp->(List V->Hp->Prop)->Prop
structure Ends where
 nx:St->Hp->Prop
 rt:VK
 bk:St->Hp->Prop:=λ_ _=>False
 ct:St->Hp->Prop:=λ_ _=>False
abbrev TS:=Ends->St->Hp->Prop
def EP(X:Cx)(pins:W1)(σ:St)(Q:VK)(u:Value)(s':Shared):Prop:=∃ v H',Inv X pins σ H' s'/\RelV v u/\Q v H'
def TP(X:Cx)(pins:W1)(σ:St)(Q:Bool->Hp->Prop)(b:Bool)(s':Shared):Prop:=∃ H',Inv X pins σ H' s'/\Q b H'
def AP(X:Cx)(pins:W1)(σ:St)(Q:List V->Hp->Prop)(us:List Value)(s':Shared):Prop:=∃ vs H',Inv X pins σ H' s'/\Vals vs us/\Q vs H'
def SP(X:Cx)(pins:W1)(D:Ends)(f:Flow)(s':Shared):Prop:=
 match f with
 | .next=>∃ σ' H',Inv X pins σ' H' s'/\D.nx σ' H'
 | .brk=>∃ σ' H',Inv X pins σ' H' s'/\D.bk σ' H'
 | .cont=>∃ σ' H',Inv X pins σ' H' s'/\D.ct σ' H'
 | .ret u=>∃ v σ' H',Inv X pins σ' H' s'/\RelV v u/\D.rt v H'
def PE(X:Cx)(e:Expr)(t:TE):Prop:=
 ∀ pins s (σ:St) H Q,Inv X pins σ H s->t σ H Q->wpAny (model X.prog X.w) X.A (eval e X.env) (EP X pins σ Q) X.xe s
def PT(X:Cx)(e:Expr)(t:TT):Prop:=
 ∀ pins s (σ:St) H (Q:Bool->Hp->Prop),Inv X pins σ H s->t σ H Q->wpAny (model X.prog X.w) X.A (isTrue e X.env<|eval e X.env) (TP X pins σ Q) X.xe s
def PW(X:Cx)(e:Expr)(t:TT):Prop:=
 ∀ whole pins s (σ:St) H (Q:Bool->Hp->Prop),Inv X pins σ H s->t σ H Q->wpAny (model X.prog X.w) X.A (isTrue e X.env whole) (TP X pins σ Q) X.xe s
def PW.pt(h:PW X e t):PT X e t:=h _
def PA(X:Cx)(es:List Expr)(t:TA):Prop:=
 ∀ pos pins s (σ:St) H (Q:List V->Hp->Prop),Inv X pins σ H s->t σ H Q->wpAny (model X.prog X.w) X.A (spliced<|backTo pos<|starEach es X.env) (AP X pins σ Q) X.xe s
def PS(X:Cx)(st:Stmt)(t:TS):Prop:=
 ∀ pins s (σ:St) H D,Inv X pins σ H s->t D σ H->wpAny (model X.prog X.w) X.A (exec st X.env) (SP X pins D) X.xe s
def PSs(X:Cx)(st:List Stmt)(t:TS):Prop:=
 ∀ pins s (σ:St) H D,Inv X pins σ H s->t D σ H->wpAny (model X.prog X.w) X.A (execs st X.env) (SP X pins D) X.xe s
def thn(h:wpAny M A t Q E s)(b:∀ a s,Q a s->Q' a s):wpAny M A t Q' E s:=wpAny_mono h b λ_ _ x=>x
section
variable {X:Cx}
def vk(i:Nat):TE:=λσ H Q=>∃ v,σ[i]?=some (some v)/\Q v H
def tC(v:V):TE:=λ_ H Q=>Q v H
abbrev Nd(x:Str):Prop:=(x==("__debug__" : Str))=false
def jeU(k:X.N[i]?=some x)(n:Vis X.env.scope x)(hd:Nd x:=by decide)(g:(x==("__classdict__" : Str))=false:=by decide):PE X (.Name x pos) (vk i):=by
 intro f s σ H Q I h;obtain⟨v,e,h⟩:=h;obtain⟨m,o,hl⟩:=I.loc;obtain⟨u,r,l⟩:=hl i x v k e n;have b:EP X f σ Q u s:=⟨v,H,I,r,h⟩;rcases l with⟨d,hm⟩ | ⟨d,c,j,a⟩
 ·exact wpAny_Name (wpAny_loadName_local I.ok.kind d o hm b) hd
 ·rcases d with d | d
  ·exact wpAny_Name (wpAny_loadName_cell I.ok.kind d j a b) hd
  ·exact wpAny_Name (wpAny_loadName_free I.ok.kind d j a b g) hd
def jfa{i j pos}:PE X (.Constant (.int i) j pos) (tC<|.int i):=λ_ _ _ H _ I h=>wpAny_Constant_int ⟨.int i,H,I.tok _,⟨_,rfl⟩,h⟩
def jkQ{b j pos}:PE X (.Constant (.bool b) j pos) (tC<|.bl b):=λ_ _ _ H _ I h=>Constant_bool ⟨.bl b,H,I,rfl,h⟩
def jkp{j pos}:PE X (.Constant .none j pos) (tC .non):=λ_ _ _ H _ I h=>Constant_none ⟨.non,H,I,rfl,h⟩
def jiE{x j pos}:PE X (.Constant (.str x) j pos) (tC<|.str x):=λ_ _ _ H _ I h=>Calls.Constant_str ⟨.str x,H,I.tok _,⟨_,rfl⟩,h⟩
def Gl(X:Cx)(x:Str):Prop:=X.env.kindOf x=some .globalImplicit
def uU(I:Inv X pins σ H s)(a:Gl X x)(hm:X.mg x=some u)(h:Q u s)
  (hd:Nd x:=by decide):wpAny (model X.prog X.w) X.A (eval (.Name x pos) X.env) Q E s:=
 Calls.Name_function_global I.ok.kind a (Calls.loadGlobal_global (by rw[I.ok.glob];exact I.mod.glob.keeps I.bk) hm h) hd
def qU(I:Inv X pins σ H s)(a:Gl X x)(hm:X.mg x=none)(b:bootBuiltins x=some u)(h:Q u s)
  (hn:x≠"__name__":=by decide) (hd:Nd x:=by decide):wpAny (model X.prog X.w) X.A (eval (.Name x pos) X.env) Q E s:=by
 obtain⟨e,c,d⟩:=I.mod.blt;exact Calls.Name_function_global I.ok.kind a (Calls.loadGlobal_builtin (by rw[I.ok.glob];exact I.mod.glob.keeps I.bk) hm (by rw[I.ok.blt];exact c.keeps I.bk) ((d x hn).trans b) h) hd
def jhC(a:Gl X x)(hm:X.mg x=none)(b:bootBuiltins x=some u)(r:RelV v u)(hn:x≠"__name__":=by decide)(hd:Nd x:=by decide):PE X (.Name x pos) (tC v):=
 λ_ _ _ H _ I h=>qU I a hm b ⟨v,H,I,r,h⟩ hn hd
variable {a b:Expr}{ta tb:TE}{pos:Pos}
def PC(X:Cx)(op:CmpOp)(a b:Expr)(t:TE):Prop:=
 ∀ pins s (σ:St) H Q,Inv X pins σ H s->t σ H Q ->
  wpAny (model X.prog X.w) X.A (eval a X.env) (λv s₁=>wpAny (model X.prog X.w) X.A (eval b X.env) (λu s₂=>wpAny (model X.prog X.w) X.A (compareOp op v u) (EP X pins σ Q) X.xe s₂) X.xe s₁) X.xe s
def jde(b)  (h:op≠.In) (h2:op≠.NotIn):behindInMarks op b=false:=by
 have a:(op==CmpOp.In)=false:=by cases op<;>first | rfl | exact absurd rfl h
 have c:(op==CmpOp.NotIn)=false:=by cases op<;>first | rfl | exact absurd rfl h2
 cases b<;>simp[behindInMarks,a,c]
def tB(t:TE):TT:=λσ H Q=>t σ H λx H1=>∃ c,x=.bl c/\Q c H1
def jkg(h:PC X op a b t)(h1:behindInMarks op b=false:=by first | exact jde _ (by decide) (by decide) | rfl):PE X (.Compare a [op] [b] pos) t:=λc s σ H Q I hw=>wpAny_Compare1 (h c s σ H Q I hw) h1
def jiP(h:PE X e t)(b:∀ whole,isTrue e X.env whole=(do let v <- whole;standAt e.pos;holding [v] (truthy v)):=by intro _;rfl):PT X e (tB t):=by
 intro a s σ H Q I hw;refine isTrue_plain (thn (h a s σ H _ I hw) λv j ⟨x,c,f,g,i⟩=>?_)<|b _;obtain⟨d,rfl,q⟩:=i;cases g;exact wpAny_truthy_bool ⟨c,f,q⟩
variable {tA tB':TT}{qw:List Expr}
def jlH(t u:TT):TT:=λσ H Q=>t σ H λc H1=>if c=true then u σ H1 Q else Q false H1
def tOr(t u:TT):TT:=λσ H Q=>t σ H λc H1=>if c=true then Q true H1 else u σ H1 Q
def jk4(t:TT):TT:=λσ H Q=>t σ H λc H1=>Q (!c) H1
def jfU(d:PT X a tA):PW X (.BoolOp .And [a] pos) tA:=by
 intro f b s σ H Q I h;refine isTrue_and<|thn (d b s σ H Q I h) λc g e=>?_;cases c with
 | true=>exact isTrue_and_nil e
 | false=>exact e
def jii(d:PT X a tA):PW X (.BoolOp .Or [a] pos) tA:=by
 intro f b s σ H Q I h;refine isTrue_or<|thn (d b s σ H Q I h) λc g e=>?_;cases c with
 | false=>exact isTrue_or_nil e
 | true=>exact e
def jiB(i:PT X a tA)(j:PW X (.BoolOp .And (b::qw) pos) tB'):PW X (.BoolOp .And (a::b::qw) pos) (jlH tA tB'):=by
 intro k d s σ H Q I h;refine isTrue_and<|thn (i d s σ H _ I h) λc l ⟨e,f,g⟩=>?_;cases c with
 | true=>exact j k d l σ e Q f g
 | false=>exact⟨e,f,g⟩
def jk1(i:PT X a tA)(j:PW X (.BoolOp .Or (b::qw) pos) tB'):PW X (.BoolOp .Or (a::b::qw) pos) (tOr tA tB'):=by
 intro k d s σ H Q I h;refine isTrue_or<|thn (i d s σ H _ I h) λc l ⟨e,f,g⟩=>?_;cases c with
 | true=>exact⟨e,f,g⟩
 | false=>exact j k d l σ e Q f g
def jjO(d:PT X a tA):PT X (.UnaryOp .Not a pos) (jk4 tA):=by
 intro b s σ H Q I h;exact isTrue_not<|d b s σ H (λc e=>Q (!c) e) I h
def jag(ta tb:TE):TE:=λσ H Q=>ta σ H λx H1=>∃ c,x=.bl c/\if c=true then tb σ H1 Q else Q (.bl false) H1
def jgs(ta:TE):TE:=λσ H Q=>ta σ H λx H1=>∃ c,x=.bl c/\Q (.bl<|!c) H1
def jeS{c}(h:PE X a t):PE X (.BoolOp c [a] pos) t:=λb s σ H Q I hw=>BoolOp_one<|h b s σ H Q I hw
def jeV(i:PE X a ta)(j:PE X (.BoolOp .And (b::qw) pos) tb):PE X (.BoolOp .And (a::b::qw) pos) (jag ta tb):=by
 intro d s σ H Q I h;refine BoolOp_and<|thn (i d s σ H _ I h) λv k l=>?_;obtain⟨x,f,g,m,e⟩:=l;obtain⟨c,rfl,e⟩:=e;cases m;refine wpAny_truthy_bool ?_;cases c with
 | true=>exact j d k σ f Q g e
 | false=>exact⟨.bl false,f,g,rfl,e⟩
def jiv(e:PE X a ta):PE X (.UnaryOp .Not a pos) (jgs ta):=by
 intro b s σ H Q I h;refine UnaryOp_<|thn (e b s σ H _ I h) λv k f=>?_;obtain⟨x,g,i,j,d⟩:=f;obtain⟨c,rfl,d⟩:=d;cases j;exact not_of<|wpAny_truthy_bool ⟨.bl<|!c,g,i,rfl,d⟩
def tIf(t:TT)(ta tb:TE):TE:=λσ H Q=>t σ H λc H1=>if c=true then ta σ H1 Q else tb σ H1 Q
def jcn(k:PT X c tA)(l:PE X a ta)(m:PE X b tb):PE X (.IfExp c a b pos) (tIf tA ta tb):=by
 intro e s σ H Q I h;refine wpAny_IfExp<|thn (k e s σ H _ I h) λd f ⟨g,i,j⟩=>?_;cases d with
 | true=>exact l e f σ g Q i j
 | false=>exact m e f σ g Q i j
end
def SqL(K:W3)(H:Hp)(a:Addr)(xs:List V):Prop:=
 Rd H a (.lst xs) \/
  ∃ o its n,K.lookup a=some o/\o.cls=.type "list"/\o.dict=none/\o.data=.seq its n/\its.size<=sizeLine/\Vals xs its.toList
def SqT(K:W3)(H:Hp)(a:Addr)(xs:List V):Prop:=
 Rd H a (.tup xs) \/
  ∃ o its n,K.lookup a=some o/\o.cls=.type "tuple"/\o.data=.seq its n/\its.size<=sizeLine/\Vals xs its.toList
noncomputable def jmb:Value->Option V
 | .none=>some .non
 | .bool b=>some<|.bl b
 | .int i _=>some<|.int i
 | .str x _=>some<|.str x
 | .bytes b _=>some<|.byt b
 | .float b _=>some<|.flt b
 | .ref a=>some<|.ref a
 | .type n=>some<|.ty n
 | _=>none
def RelV.abs(r:RelV x u):jmb u=some x:=by
 cases x with
 | non=>cases r;rfl
 | bl _=>cases r;rfl
 | int _=>obtain⟨t,rfl⟩:=r;rfl
 | str _=>obtain⟨t,rfl⟩:=r;rfl
 | byt _=>obtain⟨t,rfl⟩:=r;rfl
 | flt _=>obtain⟨t,rfl⟩:=r;rfl
 | ref _=>cases r;rfl
 | ty _=>cases r;rfl
def RelV.inj(r:RelV x u)(q:RelV y u):x=y:=X5<|r.abs.symm.trans q.abs
theorem Vals.inj:∀{xs ys}{us},Vals xs us->Vals ys us->xs=ys
 | _,_,_,.nil,.nil=>rfl
 | _,_,_,.cons r t,.cons a b=>by rw[r.inj a,Vals.inj t b]
section
variable {X:Cx}{pins:List (Addr×Obj)}{σ:St}{H:Hp}{s:Shared}{a:Addr}{xs ys:List V}
def SqL.of{K}(h:H a=some (.lst xs)):SqL K H a xs:=.inl<|.inl h
def Inv.list(I:Inv X pins σ H s)(h:SqL X.K H a xs):∃(its:List Value),An3 (Vals xs its) (PlainL s.heap a its.toArray) (xs.length<=sizeLine):=by
 rcases h with h | ⟨o,its,n,b,c,hd,hs,d,r⟩
 ·obtain⟨z,its,n,r,e⟩:=h.ok I.hok;exact⟨its,r,⟨_,n,e,rfl,rfl,rfl⟩,z⟩
 ·refine⟨its.toList,r,⟨o,n,I.kIn a o b,c,hd,by simpa using hs⟩,?_⟩;have e:=r.length;simp only[Array.length_toList] at e
  lia
def Inv.tuple(I:Inv X pins σ H s)(h:SqT X.K H a xs):∃(its:List Value),An3 (Vals xs its) (IsTup s.heap a its.toArray) (xs.length<=sizeLine):=by
 rcases h with h | ⟨o,its,n,b,c,hs,d,r⟩
 ·obtain⟨z,its,r,p⟩:=h.ok I.hok;exact⟨its,r,p.1,z⟩
 ·refine⟨its.toList,r,⟨o,I.kIn a o b,c,n,by simpa using hs⟩,?_⟩;have e:=r.length;simp only[Array.length_toList] at e
  lia
def Inv.list_inj(I:Inv X pins σ H s)(h:SqL X.K H a xs)(h':SqL X.K H a ys):xs=ys:=by
 obtain⟨c,r,⟨o,n,e,_,_,d⟩,_⟩:=I.list h;obtain⟨b,i,⟨j,k,f,_,_,g⟩,_⟩:=I.list h';rw[e] at f;cases f;rw[d] at g;injection g with d1 _;have:c=b:=by simpa using congrArg Array.toList d1
 subst this;exact r.inj i
def Inv.tuple_inj(I:Inv X pins σ H s)(h:SqT X.K H a xs)(h':SqT X.K H a ys):xs=ys:=by
 obtain⟨c,r,⟨o,e,_,n,d⟩,_⟩:=I.tuple h;obtain⟨b,i,⟨j,f,_,k,g⟩,_⟩:=I.tuple h';rw[e] at f;cases f;rw[d] at g;injection g with d1 _;have:c=b:=by simpa using congrArg Array.toList d1
 subst this;exact r.inj i
end
noncomputable abbrev Cx.wish(X:Cx)(E:W0):Cx:={X with xe:=E}
noncomputable abbrev Cx.nox(X:Cx):Cx:=X.wish λ_ _=>False
def Cx.Ok.wish{X:Cx}(ok:X.Ok)(E):(X.wish E).Ok:=
 ⟨ok.mod,ok.kind,ok.glob,ok.blt,ok.above,ok.inj,ok.has,ok.cab,ok.hd,ok.frames,ok.stk,ok.exf,ok.bs,ok.bsz,ok.noex,ok.exfs,ok.funs,ok.frf⟩
def Cx.Ok.unwish{X:Cx}{E}(ok:(X.wish E).Ok):X.Ok:=
 ⟨ok.mod,ok.kind,ok.glob,ok.blt,ok.above,ok.inj,ok.has,ok.cab,ok.hd,ok.frames,ok.stk,ok.exf,ok.bs,ok.bsz,ok.noex,ok.exfs,ok.funs,ok.frf⟩
section
variable {X:Cx}{pins:List (Addr×Obj)}{σ:St}{H:Hp}{s:Shared}{E:W0}
def Inv.wish(I:Inv X pins σ H s)(E):Inv (X.wish E) pins σ H s:=⟨I.ok.wish E,I.os,I.bare,I.base,I.loc,I.cell,I.free,I.freeC,I.pin,I.hok,I.len⟩
def Inv.unwish(I:Inv (X.wish E) pins σ H s):Inv X pins σ H s:=⟨I.ok.unwish,I.os,I.bare,I.base,I.loc,I.cell,I.free,I.freeC,I.pin,I.hok,I.len⟩
def SP.unwish(h:SP (X.wish E) pins D f s'):SP X pins D f s':=by
 cases f with
 | next=>obtain⟨a,b,I,q⟩:=h;exact⟨a,b,I.unwish,q⟩
 | brk=>obtain⟨a,b,I,q⟩:=h;exact⟨a,b,I.unwish,q⟩
 | cont=>obtain⟨a,b,I,q⟩:=h;exact⟨a,b,I.unwish,q⟩
 | ret u=>obtain⟨v,a,b,I,r,q⟩:=h;exact⟨v,a,b,I.unwish,r,q⟩
def PSs.nox{st}{t}(h:PSs X.nox st t):PSs X st t:=λa s σ H D I hw=>
 wpAny_mono (h a s σ H D (I.wish _) hw) (λ_ _ q=>q.unwish) λ_ _ z=>False.elim z
end
section
variable {X:Cx}{st:Stmt}{qw:List Stmt}{t u:TS}{e:Expr}{te:TE}{pos:Pos}
def jhI:TS:=λD σ H=>D.nx σ H
def jeX(t u:TS):TS:=λD σ H=>t {D with nx:=u D} σ H
def jho:PSs X [] jhI:=λ_ _ σ H _ I h=>wpAny_execs_nil ⟨σ,H,I,h⟩
def JL(h1:PS X st t)(h2:PSs X qw u):PSs X (st::qw) (jeX t u):=by
 intro a s σ H D I h;refine wpAny_execs_cons<|thn (h1 a s σ H {D with nx:=u D} I h) λf b q=>?_;cases f with
 | next=>
  obtain⟨c,d,e,q⟩:=q;exact h2 a b c d D e q
 | ret v=>exact q
 | brk=>exact q
 | cont=>exact q
def VW(h1:PS X st t):PSs X [st] t:=by
 intro a s σ H D I h;refine wpAny_execs_cons<|thn (h1 a s σ H D I h) λf b q=>?_;cases f with
 | next=>exact wpAny_execs_nil q
 | ret v=>exact q
 | brk=>exact q
 | cont=>exact q
def Inv.quiet(I:Inv X pins σ H s):interactive X.env=false:=by simp[interactive,I.ok.kind]
def qJ(te:TE):TS:=λD σ H=>te σ H λ_ H1=>D.nx σ H1
def Jk(b:PE X e te)(hs:swapsWith e none pos.line X.env=pure false:=by rfl):PS X (.Expr e pos) (qJ te):=by
 intro a s σ H D I h;exact wpAny_Expr_any (thn (b a s σ H _ I h) λv g ⟨x,c,d,i,f⟩=>⟨σ,c,d,f⟩) I.quiet hs
def jhf(te:TE):TS:=λD σ H=>te σ H D.rt
def jaL(b:PE X e te):PS X (.Return (some e) pos) (jhf te):=by
 intro a s σ H D I h;exact wpAny_Return_some<|thn (b a s σ H _ I h) λv i ⟨x,c,d,f,g⟩=>⟨x,σ,c,d,f,g⟩
def ji1(c:TT)(t u:TS):TS:=λD σ H=>c σ H λb H1=>if b=true then t D σ H1 else u D σ H1
def jjA(k:PT X c tc)(l:PSs X a t)(m:PSs X b u):PS X (.If c a b pos) (ji1 tc t u):=by
 intro e s σ H D I h;refine wpAny_If<|thn (k e s σ H _ I h) λd f ⟨g,i,j⟩=>?_;cases d with
 | true=>exact l e f σ g D i j
 | false=>exact m e f σ g D i j
end
abbrev TG:=V->St->Hp->(St->Hp->Prop)->Prop
abbrev TGs:=List V->St->Hp->(St->Hp->Prop)->Prop
def PG(X:Cx)(target:Expr)(t:TG):Prop:=
 ∀ pins s (σ:St) H v u (Q:St->Hp->Prop),Inv X pins σ H s->RelV v u->t v σ H Q ->
  wpAny (model X.prog X.w) X.A (assign target X.env u) (λ_ s'=>∃ σ' H',Inv X pins σ' H' s'/\Q σ' H') X.xe s
def PGs(X:Cx)(ts:List Expr)(t:TGs):Prop:=
 ∀ pins s (σ:St) H vs us (Q:St->Hp->Prop),Inv X pins σ H s->Vals vs us->t vs σ H Q ->
  wpAny (model X.prog X.w) X.A (assignInOrder ((assignEach ts X.env).map (·.2)) us) (λ_ s'=>∃ σ' H',Inv X pins σ' H' s'/\Q σ' H') X.xe s
abbrev TIp:=V->V->Hp->VK->Prop
def PIp(X:Cx)(op:Operator)(t:TIp):Prop:=
 ∀ pins s (σ:St) H x y v u Q,Inv X pins σ H s->RelV x v->RelV y u->t x y H Q ->
  wpAny (model X.prog X.w) X.A (inplaceOp op v u) (EP X pins σ Q) X.xe s
section
variable {X:Cx}{pos:Pos}
def Jj(i:Nat):TG:=λv σ H Q=>Q (σ.set i<|some v) H
def jbl(b:X.N.Nodup)(hi:X.N[i]?=some x)(c:Loc X.env.scope x)(d:X.fn x=true\/X.env.scope.names.lookup x=some .local:=by first | exact .inl rfl | exact .inr rfl | assumption):PG X (.Name x pos) (Jj i):=by
 intro a s σ H v u Q I r h;exact wpAny_assign_Name<|VP I b hi c r (λf e=>⟨_,H,e,h⟩) d
def jjL:TGs:=λvs σ H Q=>vs=[]/\Q σ H
def jbI(t:TG)(u:TGs):TGs:=λvs σ H Q=>∃ v r,vs=v::r/\t v σ H λσ' H'=>u r σ' H' Q
def jaP:PGs X [] jjL:=by
 intro a s σ H vs b Q I r h;obtain⟨e,h⟩:=h;subst e;cases r;exact assignInOrder_nil ⟨σ,H,I,h⟩
def xj(h1:PG X e t)(h2:PGs X es u)
  (hs:(assignEach (e::es) X.env).map (·.2)=assign e X.env::(assignEach es X.env).map (·.2):=by rfl):PGs X (e::es) (jbI t u):=by
 intro a s σ H vs l Q I r h;obtain⟨v,m,b,h⟩:=h;subst b;cases r with
 | cons r c=>
  rw[hs];refine assignInOrder_cons<|thn (h1 a s σ H _ _ _ I r h) λ_ d f=>?_;obtain⟨g,i,j,k⟩:=f;exact h2 a d g i _ _ Q j c k
def jhQ(K:W3)(n:Nat)(t:TGs):TG:=λv σ H Q=>∃ a xs,v=.ref a/\SqT K H a xs/\xs.length=n/\t xs σ H Q
def je6(g:X.calm=true)(h:PGs X es t)
  (hn:(assignEach es X.env).length=n:=by rfl) (d:(assignEach es X.env).findIdx? (·.1)=none:=by rfl):PG X (.Tuple es k pos) (jhQ X.K n t):=by
 intro c s σ H v u Q I r hw;obtain⟨a,i,j,l,hl,hw⟩:=hw;subst j;cases r;obtain⟨m,f,p,y⟩:=I.tuple l;refine assign_Tuple_tuple (I.ok.hd g) p (by simp[hn,<- hl,f.length]) d λq w=>?_;have x:Inv X c σ H {s with heap:=q}:=I.kept λb o e=>w b o (N6<|N0 e) e;exact h c _ σ H i _ Q x ⇑f hw
def jcM(te:TE)(g:TG):TS:=λD σ H=>te σ H λx H1=>g x σ H1 D.nx
def jbh(b:X.N.Nodup)(hi:X.N[i]?=some x)(c:Loc X.env.scope x)(d:PE X e te)(hs:swapsWith e (some<|.Name x pos') pos.line X.env=pure false:=by rfl)(f:X.fn x=true\/X.env.scope.names.lookup x=some .local:=by first | exact .inl rfl | exact .inr rfl | assumption):
  PS X (.Assign [.Name x pos'] e pos) (jcM te<|Jj i):=by
 intro a s σ H D I h;refine wpAny_Assign_Name (thn (d a s σ H _ I h) λv o g=>?_) hs;obtain⟨y,j,k,l,m⟩:=g;exact VP k b hi c l (λp n=>⟨_,j,n,m⟩) f
def ipI(f:Int->Int->Int):TIp:=λx y H Q=>∃ i j,x=.int i/\y=.int j/\Q (.int<|f i j) H
def jec:PIp X .Add (ipI λi j=>i+j):=by
 intro a s σ H x y v u Q I b c h;obtain⟨i,j,d,e,q⟩:=h;subst d;subst e;obtain⟨t,rfl⟩:=b;obtain⟨f,rfl⟩:=c;exact iadd_int ⟨.int _,H,I.tok _,⟨_,rfl⟩,q⟩
def je0:PIp X .Sub (ipI λi j=>i-j):=by
 intro a s σ H x y v u Q I b c h;obtain⟨i,j,d,e,q⟩:=h;subst d;subst e;obtain⟨t,rfl⟩:=b;obtain⟨f,rfl⟩:=c;exact isub_int ⟨.int _,H,I.tok _,⟨_,rfl⟩,q⟩
end
section
variable {X:Cx}{pos:Pos}
def uB(c:TT)(tb:TS):TS:=λD σ H=>∃ W:Nat->St->Hp->Prop,(∃ m,W m σ H)/\∀ m σ H,W m σ H ->
 c σ H λb H1=>if b=true then ∃ N:St->Hp->Prop,(∀ σ' H',N σ' H'->∃ m',m'<m/\W m' σ' H')/\tb {D with nx:=N,ct:=N,bk:=D.nx} σ H1 else D.nx σ H1
def jdz(p:PassesOwn (model X.prog X.w) X.A X.env X.xe)(z:PT X c tc)(B:PSs X body tb):PS X (.While c body [] pos) (uB tc tb):=by
 intro a s σ H D I h;obtain⟨W,⟨C,w0⟩,turn⟩:=h;refine wpAny_While<|codeAny_whileLoop (λn E=>∃ q r,Inv X a q r E/\W n q r) ?_ C ⟨σ,H,I,w0⟩;rintro n F ⟨g,t,G,w1⟩;refine wpAny_passesOwn p<|thn (z a F g t _ G<|turn n g t w1) λb J ⟨u,x,i⟩=>?_;cases b with
 | true=>
  obtain⟨N,y,i⟩:=i;refine wpAny_passesOwn p<|thn (B a J g u _ x i) λf K j=>?_;cases f with
  | next=>
   obtain⟨d,e,k,l⟩:=j;obtain⟨m,hm,o⟩:=y d e l;exact⟨m,hm,d,e,k,o⟩
  | cont=>
   obtain⟨d,e,k,l⟩:=j;obtain⟨m,hm,o⟩:=y d e l;exact⟨m,hm,d,e,k,o⟩
  | brk=>exact j
  | ret v=>exact j
 | false=>
  exact wpAny_execs_nil ⟨g,u,x,i⟩
end
structure It where
 go:Nat->Hp->Prop
 yld:Nat->Hp->V->Hp->Prop
 stop:Nat->Hp->Prop
def wv(X:Cx)(pins:W1)(H:Hp)(b:Addr):Prop:=
 H b=none/\b≠X.env.locals/\b∉X.fs/\(b∈X.ex\/X.s₀.heap.objs.size<=b)/\(∀ x c,X.env.cells.lookup x=some c->c≠b)/\∀ p∈X.pn++pins,p.1≠b
def Inv.fpOk(I:Inv X pins σ H s)(a:↥s<=b)(hn:H' b=none):wv X pins H' b:=by
 refine⟨hn,Nat.ne_of_gt<|U4 I.lt a,I.nofs a,.inr<|N7 I.sz a,λx c e z=>?_,λp d z=>?_⟩
 ·obtain⟨v,q⟩:=I.cell x c e;exact absurd (U4 q.lt<|by rw[z];exact a)<|Nat.lt_irrefl _
 ·exact absurd (U4 (N0 (I.pin p d).1)<|by rw[z];exact a)<|Nat.lt_irrefl _
structure Turn(P:Program)(w:World)(K:W3)(tg:Expr)(J:It)(fp:W4)(it:Addr)(tn:Nat->Heap->Prop):Prop where
 mem:it∈fp
 obj:∀ i h,tn i h->∀ b∈fp,∃ o,h.get? b=some o/\∀ v,o.data≠.cell v
 keep:∀ i h h',tn i h->(∀ b∈fp,∀ o,h.get? b=some o->h'.get? b=some o)->tn i h'
 item:∀(X:Cx),X.prog=P->X.w=w->X.K=K->X.calm=true->∀(i:Nat) (pins:W1) (s:Shared) (σ:St) (H:Hp) (E:W0),Inv X pins σ H s->(∀ b∈fp,wv X pins H b)->tn i s.heap->J.go i H ->
  wpAny (model P w) X.A (pyNext<|.ref it) (λr s1=>∃ u,r=some u /\
   wpAny (model P w) X.A (letOwnedTupleGo tg (.ref it) u) (λ_ s2=>∃ x H',Inv X pins σ H' s2/\RelV x u/\J.yld i H x H'/\tn (i+1) s2.heap/\∀ b∈fp,H' b=none) E s1) E s
 done:∀(X:Cx),X.prog=P->X.w=w->X.K=K->X.calm=true->∀(i:Nat) (pins:W1) (s:Shared) (σ:St) (H:Hp) (E:W0),Inv X pins σ H s->(∀ b∈fp,wv X pins H b)->tn i s.heap->J.stop i H ->
  wpAny (model P w) X.A (pyNext<|.ref it) (λr s1=>r=none/\Inv X pins σ H s1) E s
 self:∀(A:Around) (i:Nat) (s:Shared) (Q:W0) (E:W0),tn i s.heap->Q (.ref it) s->wpAny (model P w) A (pyIter<|.ref it) Q E s
abbrev TI:=St->Hp->(It->Hp->Prop)->Prop
def PIE(X:Cx)(pins:W1)(σ:St)(tg:Expr)(R:It->Hp->Prop)(itv:Value)(s2:Shared):Prop:=
 ∃(it:Addr) (fp:W4) (tn:Nat->Heap->Prop) (J:It) (H':Hp),itv=.ref it/\Inv X pins σ H' s2/\Turn X.prog X.w X.K tg J fp it tn/\tn 0 s2.heap/\(∀ b∈fp,wv X pins H' b)/\R J H'
def PI(X:Cx)(tg iter:Expr)(wi:TI):Prop:=
 ∀ pins s (σ:St) H (R:It->Hp->Prop),Inv X pins σ H s->wi σ H R ->
  wpAny (model X.prog X.w) X.A (eval iter X.env) (λv s1=>wpAny (model X.prog X.w) X.A (pyIter v) (PIE X pins σ tg R) X.xe s1) X.xe s
def jbN(b:s.heap.get? it=some o)(c:o.cls=.type n)(hd:o.data=.fields vs)
  (hn:["enumerate","zip","dict_itemiterator","dict_reverseitemiterator","odict_iterator","itertools.zip_longest","itertools.pairwise"].contains n=false) (a:Q () s):wpAny M A (letOwnedTupleGo tg (.ref it) u) Q E s:=by
 cases tg<;>first
  | exact M6 a
  | (cases u<;>first
    | exact M6 a
    | (refine L3 (wpAny_load b ?_)
       rw[c,hd];show wpAny M A (if(["enumerate","zip","dict_itemiterator","dict_reverseitemiterator","odict_iterator","itertools.zip_longest","itertools.pairwise"].contains n&&vs[0]?==some (rawInt _))=true then _ else _) Q E s;rw[if_neg<|by intro h;rw[hn,Bool.false_and] at h;cases h];exact M6 a))
noncomputable def Itl(K:W3)(a:Addr):It:=
 ⟨λi H=>∃ xs x,SqL K H a xs/\xs[i]?=some x,λi H x H'=>H'=H/\∀ xs,SqL K H a xs->xs[i]?=some x,λi H=>∃ xs,SqL K H a xs/\xs.length<=i⟩
noncomputable def Itt(K:W3)(a:Addr):It:=
 ⟨λi H=>∃ xs x,SqT K H a xs/\xs[i]?=some x,λi H x H'=>H'=H/\∀ xs,SqT K H a xs->xs[i]?=some x,λi H=>∃ xs,SqT K H a xs/\xs.length<=i⟩
noncomputable def Itr(lo:Int)(n:Nat):It:=⟨λi _=>i<n,λi H x H'=>H'=H/\x=.int (lo+i),λi _=>n<=i⟩
def jav{P}{w}{K}{tg}(a it):Turn P w K tg (Itl K a) [it] it (λi h=>h.IsListIter it a i) where
 mem:=by simp
 obj:=λi h f b j=>by
  have e:b=it:=by simpa using j
  subst e;obtain⟨o,e,c,d⟩:=f;exact⟨o,e,λv z=>by rw[d] at z;cases z⟩
 keep:=λi h q f k=>f.at (k it<|by simp)
 item:=by
  intro X r hw t M i g s σ H E I m f y;subst r hw t;obtain⟨N,x,n,A⟩:=y;obtain⟨B,C,p,O⟩:=I.list n;obtain⟨u,Q,R⟩:=C.get A;obtain⟨D,F,S,G,J,L⟩:=m it (by simp);refine wpAny_pyNext_list_item f p.isList ⇑Q λq l T=>?_;have U:Inv X g σ H {s with heap:=q}:=I.turned (λb o j e=>(T.2 b j).trans e) D F G J L;obtain⟨o,e,c,d⟩:=id l;exact⟨u,rfl,jbN e c d (by decide) ⟨x,H,U,R,⟨rfl,λY V=>by rw[I.list_inj V n];exact A⟩,l,λb j=>(m b j).1⟩⟩
 done:=by
  intro X r hw t M i g s σ H E I m f y;subst r hw t;obtain⟨N,n,A⟩:=y;obtain⟨B,C,p,O⟩:=I.list n;obtain⟨D,F,S,G,J,L⟩:=m it (by simp);have hl:=C.length;exact wpAny_pyNext_list_end (I.ok.hd M) f p.isList (by simp;lia) λq W=>⟨rfl,I.turned (W) D F G J L⟩
 self:=λ_ _ _ _ _ f h=>wpAny_pyIter_listiter f h
def wz{P}{w}{K}{tg}(a it):Turn P w K tg (Itt K a) [it] it (λi h=>h.IsTupleIter it a i) where
 mem:=by simp
 obj:=λi h f b j=>by
  have e:b=it:=by simpa using j
  subst e;obtain⟨o,e,c,d⟩:=f;exact⟨o,e,λv z=>by rw[d] at z;cases z⟩
 keep:=λi h q f k=>f.at (k it<|by simp)
 item:=by
  intro X r hw t M i g s σ H E I m f y;subst r hw t;obtain⟨N,x,n,A⟩:=y;obtain⟨B,C,p,O⟩:=I.tuple n;obtain⟨u,Q,R⟩:=C.get A;obtain⟨D,F,S,G,J,L⟩:=m it (by simp);refine wpAny_pyNext_tuple_item f (p) ⇑Q λq l T=>?_;have U:Inv X g σ H {s with heap:=q}:=I.turned (λb o j e=>(T.2 b j).trans e) D F G J L;obtain⟨o,e,c,d⟩:=id l;exact⟨u,rfl,jbN e c d (by decide) ⟨x,H,U,R,⟨rfl,λY V=>by rw[I.tuple_inj V n];exact A⟩,l,λb j=>(m b j).1⟩⟩
 done:=by
  intro X r hw t M i g s σ H E I m f y;subst r hw t;obtain⟨N,n,A⟩:=y;obtain⟨B,C,p,O⟩:=I.tuple n;obtain⟨D,F,S,G,J,L⟩:=m it (by simp);have hl:=C.length;exact wpAny_pyNext_tuple_end (I.ok.hd M) f (p) (by simp;lia) λq W=>⟨rfl,I.turned (W) D F G J L⟩
 self:=λ_ _ _ _ _ f h=>wpAny_pyIter_tupleiter f h
def wC{P}{w}{K}{tg}(it)(lo)(n):Turn P w K tg (Itr lo n) [it] it (λi h=>IsRangeIter h it (lo+(i:Nat)*1) ((n:Int)-(i:Nat)) 1) where
 mem:=by simp
 obj:=λi h a b d=>by
  have e:b=it:=by simpa using d
  subst e;exact⟨_,a,λv z=>by
   cases z⟩
 keep:=λi h j a k=>k it (by simp) _ a
 item:=by
  intro X y hw A l i c s σ H E I g a m;subst y hw A;obtain⟨p,q,B,r,u,x⟩:=g it (by simp);refine(Walks.range (prog:=X.prog) (w:=X.w) (I.ok.hd l) it lo 1 n).item i s _ _ m a λv j C D f F=>?_;obtain⟨t,rfl⟩:=D;have G:Inv X c σ H {s with heap:=j,toks:=C}:=I.turned (λb o d e=>F b o ⇑d e) p q r u x;refine⟨_,rfl,jbN f rfl rfl (by decide) ⟨.int<|lo+i,H,G,⟨t,?_⟩,⟨rfl,rfl⟩,f,λb d=>(g b d).1⟩⟩;rw[Int.mul_one]
 done:=by
  intro X y hw A l i c s σ H E I g a m;obtain⟨p,q,B,r,u,x⟩:=g it (by simp);exact wpAny_pyNext_range_end (I.ok.hd l) a (by have:n<=i:=m;lia) λj J=>⟨rfl,I.turned (J) p q r u x⟩
 self:=λ_ _ _ _ _ a h=>wpAny_pyIter_rangeiter a h
section
variable {X:Cx}{tg:Expr}
def jc4{pins}{s}{R}{E}{lo hi}{tk}(I:Inv X pins σ H s)(h1:-(2 ^ 62)<=lo)(h2:lo<2 ^ 62)(c:-(2 ^ 62)<=hi)(d:hi<2 ^ 62)
  (q:R (Itr lo (hi-lo).toNat) H):wpAny (model X.prog X.w) X.A (pyIter<|.ref ↥s) (PIE X pins σ tg R) E { s with heap:=s.heap.push {cls:=.type "range",data:=.fields #[.int lo t,.int hi u,.int 1 v]},toks:=tk }:=by
 refine wpAny_pyIter_range (IsRange.new ..) (small_one h1 h2 c d) ?_;have a:Inv X pins σ H { s with heap:=s.heap.push {cls:=.type "range",data:=.fields #[.int lo t,.int hi u,.int 1 v]},toks:=tk }:=I.kept λb o e=>L8 _ e;refine⟨(s.heap.push {cls:=.type "range",data:=.fields #[.int lo t,.int hi u,.int 1 v]}).objs.size,[(s.heap.push {cls:=.type "range",data:=.fields #[.int lo t,.int hi u,.int 1 v]}).objs.size],_,_,H,rfl,
  a.kept λb o e=>L8 _ e,wC _ lo (hi-lo).toNat,?_,λb f=>?_,q⟩
 ·have g:lo+((0:Nat):Int)*1=lo:=by simp
  have h:(((hi-lo).toNat:Nat):Int)-((0:Nat):Int)=Builtin.Range.rangeSize lo hi 1:=by rw[rangeSize_one];split<;>lia
  rw[g,h];exact X9 _ rfl
 ·have e:b=(s.heap.push {cls:=.type "range",data:=.fields #[.int lo t,.int hi u,.int 1 v]}).objs.size:=by simpa using f
  subst e;exact a.fpOk (M8 _)<|a.hok.fresh<|M8 _
def jht(ta:TA):TI:=λσ H R=>ta σ H λvs H1=>∃ j:Int,vs=[.int j]/\-(2 ^ 62)<=j/\j<2 ^ 62/\R (Itr 0 j.toNat) H1
def uK(d:Gl X "range")(hm:X.mg "range" = none)(f:PA X [a] ta)(hs:starEach [a] X.env=[(false,eval a X.env)]:=by rfl):PI X tg (.Call (.Name "range" p) [a] [] pos) (jht ta):=by
 intro b s σ H R I h;refine Call_<|qU I d hm boot_range<|PyProof.Rows.callWith_type1 (thn (f pos b s σ H _ I h) λm n ⟨vs,o,g,i,c⟩=>?_) hs rfl;obtain⟨j,e,c,k,q⟩:=c;subst e;cases i with
 | cons r l=>
  cases l;obtain⟨t,rfl⟩:=r;exact call_range_1<|jc4 g (by lia) (by lia) c k ⇑q
def jfs(wi:TI)(g:TG)(tb:TS):TS:=λD σ H=>wi σ H λJ H1=>∃ W:Nat->Nat->St->Hp->Prop,(∃ m,W 0 m σ H1)/\∀ i m σ H,W i m σ H ->
 (J.stop i H/\D.nx σ H)\/(J.go i H/\∃ N:St->Hp->Prop,(∀ σ' H',N σ' H'->∃ m',m'<m/\W (i+1) m' σ' H')/\∀ x H',J.yld i H x H'->g x σ H' λσ2 H2=>tb {D with nx:=N,ct:=N,bk:=D.nx} σ2 H2)
noncomputable def YR(fp:W4)(h:Heap):List (Addr×Obj):=fp.filterMap λb=>(h.get? b).map λo=>(b,o)
def kR(a:b∈fp)(e:h.get? b=some o):(b,o)∈YR fp h:=List.mem_filterMap.mpr ⟨b,a,by rw[e];rfl⟩
def jbK(a:p∈YR fp h):p.1∈fp/\h.get? p.1=some p.2:=by
 obtain⟨b,c,e⟩:=List.mem_filterMap.mp a;cases q:h.get? b with
 | none=>rw[q] at e;cases e
 | some o=>
  rw[q] at e;have d:=X5 e;subst d;exact⟨c,q⟩
def Inv.pinned(I:Inv X pins σ H s)(f:∀ b∈fp,wv X pins H b)(g:∀ b∈fp,∃ o,s.heap.get? b=some o/\∀ v,o.data≠.cell v):Inv X (pins++YR fp s.heap) σ H s:=
 I.pins_of λp h=>(N1.mp h).elim (λz=>I.pin p<|U3 _ z) λz=>by
  obtain⟨a,e⟩:=jbK z;obtain⟨i,j,k,_⟩:=f p.1 a;obtain⟨o,c,d⟩:=g p.1 a;rw[e] at c;cases c;exact⟨e,i,j,k,d⟩
def Inv.unpinned(I:Inv X (pins++pl) σ H s):Inv X pins σ H s:=I.pins_of λp a=>I.pin p<|U3 _<|List.mem_append_left _ a
def jaD(z:PassesOwn (model X.prog X.w) X.A X.env X.xe)(S:X.calm=true)(hi:PI X tg iter wi)(hg:PG X tg g)(c:PSs X body tb)
  (hs:∀ x,foldedSetIterable iter X.env x=pure x:=by intro _;rfl):PS X (.For tg iter body [] pos) (jfs wi g tb):=by
 intro a s σ H D I h;refine wpAny_For (thn (hi a s σ H _ I h) λv s1 h1=>thn h1 λitv s2 h2=>?_) hs;obtain⟨it,B,U,J,H2,e,I2,T,M,V,W,⟨m0,w0⟩,turn⟩:=h2;subst e;have j:∀{q},(∀ b∈B,q b=none)->∀ b∈B,wv X a q b:=λhn b c=>⟨hn b c,(V b c).2⟩;refine codeAny_forLoop_any (λn Y=>∃ i C q,Inv X a C q Y/\U i Y.heap/\(∀ b∈B,q b=none)/\W i n C q) ?_ m0 ⟨0,σ,H2,I2,M,λb c=>(V b c).1,w0⟩;rintro n Z ⟨i,E,L,I3,F,G,w3⟩;rcases turn i n E L w3 with⟨stop,qn⟩ | ⟨go,N,hN,step⟩
 ·refine wpAny_passesOwn z<|thn (T.done X rfl rfl rfl S i a Z E L X.xe I3 (j G) F stop) λr s4 ⟨O,I4⟩=>?_;subst O;exact wpAny_execs_nil ⟨E,L,I4,qn⟩
 ·refine wpAny_passesOwn z<|thn (T.item X rfl rfl rfl S i a Z E L X.xe I3 (j G) F go) λr s4 ⟨u,O,h4⟩=>?_;subst O;refine wpAny_passesOwn z<|thn h4 λ_ s5 P=>?_;obtain⟨x,H5,I5,r5,y5,y,Q⟩:=P;refine wpAny_passesOwn z<|thn (hg _ s5 E H5 x u _ (I5.pinned (j Q)<|T.obj _ _ y) r5<|step x H5 y5) λ_ s6 P=>?_;obtain⟨σ6,H6,I6,q6⟩:=P;refine wpAny_passesOwn z<|thn (c _ s6 σ6 H6 _ I6 q6) λf R t=>?_;have again:∀{k}{l},Inv X (a++YR B s5.heap) k l R->N k l->∃ m,m<n/\∃ i C q,Inv X a C q R/\U i R.heap/\(∀ b∈B,q b=none)/\W i m C q:=λ{k l} p K=>by
   obtain⟨m',hm,w7⟩:=hN k l K;refine⟨m',hm,i+1,k,l,p.unpinned,T.keep _ _ _ y λb c o e=>(p.pin (b,o)<|U3 _<|U3 _<|kR c e).1,λb c=>?_,w7⟩;obtain⟨o,e,d⟩:=T.obj _ _ y b c;exact(p.pin (b,o)<|U3 _<|U3 _<|kR c e).2.1
  cases f with
  | next=>obtain⟨k,l,p,K⟩:=t;exact again p K
  | cont=>obtain⟨k,l,p,K⟩:=t;exact again p K
  | brk=>obtain⟨k,l,p,t⟩:=t;exact⟨k,l,p.unpinned,t⟩
  | ret v=>obtain⟨x7,k,l,p,r7,t⟩:=t;exact⟨x7,k,l,p.unpinned,r7,t⟩
end
abbrev R2:=V->V->Hp->VK->Prop
def OpR(X:Cx)(f:Value->Value->Sem Value)(r:R2):Prop:=
 ∀ pins s (σ:St) H x y v u Q,Inv X pins σ H s->RelV x v->RelV y u->r x y H Q ->
  wpAny (model X.prog X.w) X.A (f v u) (EP X pins σ Q) X.xe s
def UnR(X:Cx)(f:Value->Sem Value)(r:V->Hp->VK->Prop):Prop:=
 ∀ pins s (σ:St) H x v Q,Inv X pins σ H s->RelV x v->r x H Q ->
  wpAny (model X.prog X.w) X.A (f v) (EP X pins σ Q) X.xe s
def qk(X:Cx)(f:Value)(r:List V->Hp->VK->Prop):Prop:=
 ∀ pins s (σ:St) H xs us Q,Inv X pins σ H s->Vals xs us->r xs H Q ->
  wpAny (model X.prog X.w) X.A (call f us) (EP X pins σ Q) X.xe s
def tOp(r:R2)(ta tb:TE):TE:=λσ H Q=>ta σ H λx H1=>tb σ H1 λy H2=>r x y H2 Q
def tUn(r:V->Hp->VK->Prop)(ta:TE):TE:=λσ H Q=>ta σ H λx H1=>r x H1 Q
def rI(C:Int->Int->Prop)(g:Int->Int->V):R2:=λx y H Q=>∃ i j,x=.int i/\y=.int j/\C i j/\Q (g i j) H
def rI0(g:Int->Int->V):R2:=λx y H Q=>∃ i j,x=.int i/\y=.int j/\Q (g i j) H
def rU(g:Int->V):V->Hp->VK->Prop:=λx H Q=>∃ i,x=.int i/\Q (g i) H
section
variable {X:Cx}{a b c:Expr}{ta tb tc:TE}{pos:Pos}
def jle(d:PE X a ta)(e:PE X b tb){pins}{s}{R:V->V->Hp->Prop}(I:Inv X pins σ H s)
  (h:ta σ H λx H1=>tb σ H1 λy H2=>R x y H2) {Q:W0}{f:Value->Value->Sem Value}
  (g:∀ v u s2 x y H2,Inv X pins σ H2 s2->RelV x v->RelV y u->R x y H2->wpAny (model X.prog X.w) X.A (f v u) Q X.xe s2):
  wpAny (model X.prog X.w) X.A (eval a X.env) (λv s₁=>wpAny (model X.prog X.w) X.A (eval b X.env) (λu s₂=>wpAny (model X.prog X.w) X.A (f v u) Q X.xe s₂) X.xe s₁) X.xe s:=by
 refine thn (d pins s σ H _ I h) λv i c=>?_;obtain⟨x,H1,j,k,l⟩:=c;refine thn (e pins i σ H1 _ j l) λu s2 c=>?_;obtain⟨y,H2,m,n,o⟩:=c;exact g v u s2 x y H2 m k n o
def Q2(d:OpR X (binaryOp op) r)(e:PE X a ta)(f:PE X b tb):PE X (.BinOp a op b pos) (tOp r ta tb):=by
 intro c s σ H Q I h;exact wpAny_BinOp<|jle e f I h λv u g x y i j k l q=>d c g σ i x y v u Q j k l q
def jlG(c:UnR X (unaryOp op) r)(d:PE X a ta):PE X (.UnaryOp op a pos) (tUn r ta):=by
 intro b s σ H Q I h;exact UnaryOp_<|thn (d b s σ H _ I h) λv e ⟨x,f,g,i,j⟩=>c b e σ f x v Q g i j
def opI{f}{C}{g:Int->Int->Int}
  (a:∀ i j t u s (Q:W0) (E:W0),C i j->Q (.int (g i j) s.toks) {s with toks:=s.toks+1}->wpAny (model X.prog X.w) X.A (f (.int i t)<|.int j u) Q E s):
  OpR X f (rI C λi j=>.int<|g i j):=by
 intro b s σ H x y v u Q I c d h;obtain⟨i,j,rfl,rfl,e,q⟩:=h;obtain⟨t,rfl⟩:=c;obtain⟨k,rfl⟩:=d;exact a i j t k s _ _ e ⟨.int<|g i j,H,I.tok _,⟨_,rfl⟩,q⟩
def jlM{f}{g:Int->Int->Int}
  (a:∀ i j t u s (Q:W0) (E:W0),Q (.int (g i j) s.toks) {s with toks:=s.toks+1}->wpAny (model X.prog X.w) X.A (f (.int i t)<|.int j u) Q E s):
  OpR X f (rI0 λi j=>.int<|g i j):=by
 intro b s σ H x y v u Q I c d h;obtain⟨i,j,rfl,rfl,q⟩:=h;obtain⟨t,rfl⟩:=c;obtain⟨e,rfl⟩:=d;exact a i j t e s _ _ ⟨.int<|g i j,H,I.tok _,⟨_,rfl⟩,q⟩
def jk0{f}{g:Int->Int->Bool}
  (a:∀ i j t u s (Q:W0) (E:W0),Q (.bool<|g i j) s->wpAny (model X.prog X.w) X.A (f (.int i t)<|.int j u) Q E s):
  OpR X f (rI0 λi j=>.bl<|g i j):=by
 intro b s σ H x y v u Q I c d h;obtain⟨i,j,rfl,rfl,q⟩:=h;obtain⟨t,rfl⟩:=c;obtain⟨e,rfl⟩:=d;exact a i j t e s _ _ ⟨.bl<|g i j,H,I,rfl,q⟩
def jli(i j:Int):Prop:=0<=j/\j<=1000000/\i.natAbs<2 ^ 64
def jkk:OpR X (binaryOp .Add) (rI0 λi j=>.int<|i+j):=jlM λ_ _ _ _ _ _ _ q=>add_int q
def jko:OpR X (binaryOp .Sub) (rI0 λi j=>.int<|i-j):=jlM λ_ _ _ _ _ _ _ q=>sub_int q
def jjD:OpR X (binaryOp .Mod) (rI (λ_ j=>0<j) λi j=>.int<|i%j):=opI λi j _ _ _ _ _ a q=>by
 exact mod_int' (by lia) (by rw[Int.fmod_eq_emod_of_nonneg i<|by lia];exact q)
def jip:OpR X (binaryOp .Pow) (rI jli λi j=>.int<|i ^ j.toNat):=opI λ_ _ _ _ _ _ _ a q=>pow_int_small a.1 a.2.1 a.2.2 q
def unI{f}{g:Int->Int}
  (a:∀ i t s (Q:W0) (E:W0),Q (.int (g i) s.toks) {s with toks:=s.toks+1}->wpAny (model X.prog X.w) X.A (f<|.int i t) Q E s):
  UnR X f (rU λi=>.int<|g i):=by
 intro b s σ H x v Q I c h;obtain⟨i,rfl,q⟩:=h;obtain⟨t,rfl⟩:=c;exact a i t s _ _ ⟨.int<|g i,H,I.tok _,⟨_,rfl⟩,q⟩
def jjS:UnR X (unaryOp .USub) (rU λi=>.int<|-i):=unI λ_ _ _ _ _ q=>neg_int q
end
noncomputable def jlr:V->V->Bool
 | .non,.non=>true | .non,.int _=>true | .int _,.non=>true | .non,.bl _=>true | .bl _,.non=>true | .non,.str _=>true | .str _,.non=>true
 | .int _,.int _=>true | .bl _,.bl _=>true | .str _,.str _=>true | .byt _,.byt _=>true
 | .int _,.str _=>true | .str _,.int _=>true | .bl _,.str _=>true | .str _,.bl _=>true
 | _,_=>false
def rEq:R2:=λx y H Q=>jlr x y=true/\Q (.bl<|decide<|x=y) H
def rNe:R2:=λx y H Q=>jlr x y=true/\Q (.bl<|!decide (x=y)) H
def QU:decide (V.int i=V.int j)=(i==j):=by
 rw[Bool.eq_iff_iff];simp
def jaN:decide (V.bl i=V.bl j)=(i==j):=by
 rw[Bool.eq_iff_iff];simp
def uD:decide (V.str i=V.str j)=(i==j):=by
 rw[Bool.eq_iff_iff];simp
def jaS:decide (V.byt i=V.byt j)=(i.toList==j.toList):=by
 rw[Bool.eq_iff_iff];cases i;cases j;simp
section
variable {X:Cx}{a b c:Expr}{ta tb tc:TE}{pos:Pos}
def jM(I:Inv X pins σ H s)(q:Q (.bl k) H)(e:k=k'):EP X pins σ Q (.bool k') s:=by
 subst e;exact⟨.bl k,H,I,rfl,q⟩
def jlF:OpR X (compareOp .Eq) rEq:=by
 intro d s σ H x y v u Q I c a h;obtain⟨hs,q⟩:=h;cases x with
 | non=>
  cases c;cases y with
  | non=>cases a;exact PySem.EqNone.eq_none_none<|jM I q (by simp)
  | bl j=>cases a;exact PySem.EqNone.eq_none_bool<|jM I q (by simp)
  | int j=>obtain⟨b,rfl⟩:=a;exact PySem.EqNone.eq_none_int<|jM I q (by simp)
  | str j=>obtain⟨b,rfl⟩:=a;exact PySem.EqNone.eq_none_str<|jM I q (by simp)
  | _=>exact absurd (hs) M3
 | bl i=>
  cases c;cases y with
  | non=>cases a;exact PySem.EqNone.eq_bool_none<|jM I q (by simp)
  | bl j=>cases a;exact eq_bool<|jM I q jaN
  | str j=>obtain⟨b,rfl⟩:=a;exact PySem.EqMixed.eq_bool_str<|jM I q (by simp)
  | _=>exact absurd (hs) M3
 | int i=>
  obtain⟨t,rfl⟩:=c;cases y with
  | non=>cases a;exact PySem.EqNone.eq_int_none<|jM I q (by simp)
  | int j=>obtain⟨b,rfl⟩:=a;exact eq_int<|jM I q QU
  | str j=>obtain⟨b,rfl⟩:=a;exact PySem.EqMixed.eq_int_str<|jM I q (by simp)
  | _=>exact absurd (hs) M3
 | str i=>
  obtain⟨t,rfl⟩:=c;cases y with
  | non=>cases a;exact PySem.EqNone.eq_str_none<|jM I q (by simp)
  | bl j=>cases a;exact PySem.EqMixed.eq_str_bool<|jM I q (by simp)
  | int j=>obtain⟨b,rfl⟩:=a;exact PySem.EqMixed.eq_str_int<|jM I q (by simp)
  | str j=>obtain⟨b,rfl⟩:=a;exact eq_str<|jM I q uD
  | _=>exact absurd (hs) M3
 | byt i=>
  obtain⟨t,rfl⟩:=c;cases y with
  | byt j=>obtain⟨b,rfl⟩:=a;exact PySem.W.eq_bytes<|jM I q jaS
  | _=>exact absurd (hs) M3
 | _=>cases y<;>exact absurd (hs) M3
def jlg:OpR X (compareOp .NotEq) rNe:=by
 intro d s σ H x y v u Q I c a h;obtain⟨hs,q⟩:=h;cases x with
 | non=>
  cases c;cases y with
  | non=>cases a;exact PySem.EqNone.ne_none_none<|jM I q (by simp)
  | bl j=>cases a;exact PySem.EqNone.ne_none_bool<|jM I q (by simp)
  | int j=>obtain⟨b,rfl⟩:=a;exact PySem.EqNone.ne_none_int<|jM I q (by simp)
  | str j=>obtain⟨b,rfl⟩:=a;exact PySem.EqNone.ne_none_str<|jM I q (by simp)
  | _=>exact absurd (hs) M3
 | bl i=>
  cases c;cases y with
  | non=>cases a;exact PySem.EqNone.ne_bool_none<|jM I q (by simp)
  | bl j=>cases a;exact ne_bool<|jM I q<|congrArg not jaN
  | str j=>obtain⟨b,rfl⟩:=a;exact PySem.EqMixed.ne_bool_str<|jM I q (by simp)
  | _=>exact absurd (hs) M3
 | int i=>
  obtain⟨t,rfl⟩:=c;cases y with
  | non=>cases a;exact PySem.EqNone.ne_int_none<|jM I q (by simp)
  | int j=>obtain⟨b,rfl⟩:=a;exact ne_int<|jM I q<|congrArg not QU
  | str j=>obtain⟨b,rfl⟩:=a;exact PySem.EqMixed.ne_int_str<|jM I q (by simp)
  | _=>exact absurd (hs) M3
 | str i=>
  obtain⟨t,rfl⟩:=c;cases y with
  | non=>cases a;exact PySem.EqNone.ne_str_none<|jM I q (by simp)
  | bl j=>cases a;exact PySem.EqMixed.ne_str_bool<|jM I q (by simp)
  | int j=>obtain⟨b,rfl⟩:=a;exact PySem.EqMixed.ne_str_int<|jM I q (by simp)
  | str j=>obtain⟨b,rfl⟩:=a;exact ne_str<|jM I q<|congrArg not uD
  | _=>exact absurd (hs) M3
 | byt i=>
  obtain⟨t,rfl⟩:=c;cases y with
  | byt j=>obtain⟨b,rfl⟩:=a;exact PySem.W.ne_bytes<|jM I q<|congrArg not jaS
  | _=>exact absurd (hs) M3
 | _=>cases y<;>exact absurd (hs) M3
def jll:OpR X (compareOp .Lt) (rI0 λi j=>.bl<|decide<|i<j):=jk0 λ_ _ _ _ _ _ _ q=>lt_int q
def jkT:OpR X (compareOp .Gt) (rI0 λi j=>.bl<|decide<|j<i):=jk0 λ_ _ _ _ _ _ _ q=>gt_int q
def jlw:OpR X (compareOp .GtE) (rI0 λi j=>.bl<|decide<|j<=i):=jk0 λ_ _ _ _ _ _ _ q=>ge_int q
def jbL:OpR X (compareOp .In) (λx y H Q=>∃ i j,x=.str i/\y=.str j/\Q (.bl<|!(Builtin.Str.occurrences j i 0 j.length 1).isEmpty) H):=by
 intro a s σ H x y v u Q I b c h;obtain⟨i,j,rfl,rfl,q⟩:=h;obtain⟨t,rfl⟩:=b;obtain⟨d,rfl⟩:=c;exact in_str<|jM I q rfl
def jfn:OpR X (compareOp .IsNot) (λx y H Q=>y=.non/\Q (.bl<|!decide (x=.non)) H):=by
 intro a s σ H x y v u Q I b c h;obtain⟨rfl,q⟩:=h;cases c;refine isnot_none_gen<|jM I q ?_;cases x<;>first
  | (cases b;rfl)
  | (obtain⟨t,rfl⟩:=b;rfl)
def KY:OpR X (compareOp .NotIn) (λx y H Q=>∃ i j,x=.str i/\y=.str j/\Q (.bl<|!(!(Builtin.Str.occurrences j i 0 j.length 1).isEmpty)) H):=by
 intro a s σ H x y v u Q I b c h;obtain⟨i,j,rfl,rfl,q⟩:=h;obtain⟨t,rfl⟩:=b;obtain⟨d,rfl⟩:=c;exact notIn_str<|jM I q rfl
def Y2(b)  (h:op≠.In:=by decide) (h2:op≠.NotIn:=by decide):behindInMarks op b=false:=by
 have a:(op==CmpOp.In)=false:=by cases op<;>first | rfl | exact absurd rfl h
 have c:(op==CmpOp.NotIn)=false:=by cases op<;>first | rfl | exact absurd rfl h2
 cases b<;>simp[behindInMarks,a,c]
def uY(d:OpR X (compareOp op) r)(e:PE X a ta)(f:PE X b tb)(hm:behindInMarks op b=false):PE X (.Compare a [op] [b] pos) (tOp r ta tb):=by
 intro c s σ H Q I h;exact wpAny_Compare1 (jle e f I h λv u g x y i j k l q=>d c g σ i x y v u Q j k l q) hm
def jg1(t:TE):TT:=λσ H Q=>t σ H λx H'=>∃ k,x=.bl k/\Q k H'
def jf1(f:OpR X (compareOp op) r)(g:PE X a ta)(i:PE X b tb)(hm:behindInMarks op b=false):PT X (.Compare a [op] [b] pos) (jg1<|tOp r ta tb):=by
 intro d s σ H Q I h;refine wpAny_isTrue_Compare1 (thn (g d s σ H _ I h) λv j ⟨x,l,m,n,o⟩=>thn (i d j σ l _ m o) λu p ⟨y,q,t,w,A⟩=>
  thn (f d p σ q x y v u _ t n w A) λc F ⟨z,B,C,D,k,e,E⟩=>?_) hm
 subst e;cases D;exact wpAny_truthy_bool ⟨B,C,E⟩
def jaY:(sizeLine:Nat)<2 ^ 63:=by rw[sizeLine_eq];decide
def w8:OpR X (binaryOp .Add) (λx y H Q=>∃ i j,x=.str i/\y=.str j/\i.length+j.length<=sizeLine/\Q (.str<|i++j) H):=by
 intro a s σ H x y v u Q I b c h;obtain⟨i,j,rfl,rfl,d,q⟩:=h;obtain⟨t,rfl⟩:=b;obtain⟨e,rfl⟩:=c;exact add_str (λe f=>⟨.str<|i++j,H,I.tok _,⟨_,rfl⟩,q⟩) d
def jfN(r:Vals [x] us):∃ u,us=[u]/\RelV x u:=by
 cases r with
 | cons a b=>cases b;exact⟨_,rfl,a⟩
def jiy(r:Vals [x,y] us):Ex2 λu w'=>An3 (us=[u,w']) (RelV x u) (RelV y w'):=by
 cases r with
 | cons a b=>
  cases b with
  | cons c d=>cases d;exact⟨_,_,rfl,a,c⟩
def Kq(c:X.calm=true):qk X (.builtin "max") (λxs H Q=>∃ i j,xs=[.int i,.int j]/\Q (.int<|if j>i then j else i) H):=by
 intro b s σ H xs d Q I r h;obtain⟨i,j,rfl,q⟩:=h;obtain⟨u,e,rfl,⟨t,rfl⟩,⟨f,rfl⟩⟩:=jiy r;refine max_two_ints (I.ok.hd c) λg l k=>⟨_,H,I.kept k,?_,q⟩;by_cases a:j>i
 ·rw[if_pos a,if_pos a];exact⟨_,rfl⟩
 ·rw[if_neg a,if_neg a];exact⟨_,rfl⟩
def Kk(c:X.calm=true):qk X (.builtin "min") (λxs H Q=>∃ i j,xs=[.int i,.int j]/\Q (.int<|if j<i then j else i) H):=by
 intro b s σ H xs d Q I r h;obtain⟨i,j,rfl,q⟩:=h;obtain⟨u,e,rfl,⟨t,rfl⟩,⟨f,rfl⟩⟩:=jiy r;refine min_two_ints (I.ok.hd c) λg l k=>⟨_,H,I.kept k,?_,q⟩;by_cases a:j<i
 ·rw[if_pos a,if_pos a];exact⟨_,rfl⟩
 ·rw[if_neg a,if_neg a];exact⟨_,rfl⟩
def jkr(K:W3)(x:V)(H:Hp)(n:Nat):Prop:=
 match x with
 | .str y=>y.length<=sizeLine/\n=y.length
 | .byt y=>y.size<=sizeLine/\n=y.size
 | .ref p=>(∃ xs,SqL K H p xs/\n=xs.length) \/ ∃ xs,SqT K H p xs/\n=xs.length
 | _=>False
def jdd:qk X (.builtin "len") (λxs H Q=>∃ x n,xs=[x]/\jkr X.K x H n/\Q (.int n) H):=by
 intro j s σ H xs m Q I r h;obtain⟨x,n,rfl,e,q⟩:=h;obtain⟨u,rfl,c⟩:=jfN r;have hs:=sizeLine_eq;cases x with
 | str y=>
  obtain⟨t,rfl⟩:=c;obtain⟨k,b⟩:y.length<=sizeLine/\n=y.length:=e;subst b;exact len_str (by lia) ⟨.int _,H,I.tok _,⟨_,rfl⟩,q⟩
 | byt y=>
  obtain⟨t,rfl⟩:=c;obtain⟨k,b⟩:y.size<=sizeLine/\n=y.size:=e;subst b;exact PySem.W.len_bytes (by lia) ⟨.int _,H,I.tok _,⟨_,rfl⟩,q⟩
 | ref p=>
  cases c;have b:=e;rcases b with⟨xs,d,b⟩ | ⟨xs,d,b⟩
  ·subst b;obtain⟨f,g,i,l⟩:=I.list d;have a:=g.length;exact Calls.call_len_list i.isList (by simp only[N3];lia) ⟨.int xs.length,H,I.tok _,⟨_,by simp only[N3];rw[a]⟩,q⟩
  ·subst b;obtain⟨f,g,i,l⟩:=I.tuple d;have a:=g.length;exact len_tuple i (by simp only[N3];lia) ⟨.int xs.length,H,I.tok _,⟨_,by simp only[N3];rw[a]⟩,q⟩
 | _=>exact(e).elim
end
structure ObjM(h:Heap)(x dx C:Addr)(mA:W5):Prop where
 obj:h.get? x=some (PySem.W.instObj C dx)
 ns:h.Ns1 dx mA
 ne:dx≠x
def jca{h:Heap}{mA}(n:h.Ns1 dx mA):∃ od,h.get? dx=some od/\∀ name,PySem.W.lookIn name od=some (mA name):=by
 obtain⟨o,c,j,d,hd,f,_,hm⟩:=n;refine⟨o,d,λname=>?_⟩;have e:=hm name;unfold nsFind findBy at e;rw[<- Array.find?_toList] at e;unfold PySem.W.lookIn;rw[hd];dsimp only;split
 ·rename_i y q;rw[q] at e;exact congrArg some e
 ·rename_i q;rw[q] at e;have a:c.toList.any (·.refKey)=false:=by
   rw[List.any_eq_false];intro y g;obtain⟨z,t,b⟩:=f y<|Array.mem_toList_iff.mp g;simp[DictEntry.refKey,b]
  have i:¬ c.toList.any (·.refKey)=true:=by rw[a];exact M3
  rw[if_neg i];exact congrArg some e
def ObjM.look(I:ObjM h x dx C mA):∃ od,PySem.W.InstAt h x (PySem.W.instObj C dx) C (some od)/\∀ name,PySem.W.lookIn name od=some (mA name):=
 let ⟨od,ho,hl⟩:=jca I.ns
 ⟨od,⟨I.obj,rfl,rfl,ho⟩,hl⟩
section
variable {prog:Program}{w:World}{A:Around}{E:W0}{s:Shared}{K:W3}{x dx C f:Addr}{mA:W5}{name:Str}{v:Value}
def jgp{expr}{Q}(X:K.In s.heap)(I:ObjM s.heap x dx C mA)(b:PySem.W.plainGet K C name=true)(c:PySem.W.hasDictIn K C=true)
  (d:PySem.W.findIn K (.ref C) name=some none) (e:mA name=some v) (a:PySem.W.handedIn v=true) (h:Q v {s with toks:=s.toks+1}):
  wpAny (model prog w) A (getAttr (.ref x) name expr) Q E s:=by
 obtain⟨od,J,hl⟩:=I.look;exact PySem.W.get_value X J (PySem.W.plainGet_of b).1 (PySem.W.findObj_own c d rfl<|by rw[hl,e]) a h
def jdt{b}{Q}(X:K.In s.heap)(I:ObjM s.heap x dx C mA)(a:PySem.W.plainGet K C name=true)
  (c:PySem.W.findIn K (.ref C) name=some (some<|.ref f)) (d:PySem.W.isFn K (.ref f)=true) (e:mA name=none) (h:Q (.ref f,[.ref x]) s):
  wpAny (model prog w) A (getMethod (.ref x) name b) Q E s:=by
 obtain⟨od,J,hl⟩:=I.look;exact PySem.W.method_fn X J (PySem.W.plainGet_of a).1 (PySem.W.plainGet_of a).2 c (beq_iff_eq.mp d) (by show(PySem.W.lookIn name od).map (·.isSome)=some false;rw[hl,e];rfl) h
def jhb{ns}{Q}(X:K.In s.heap)(I:ObjM s.heap x dx C mA)
  (hs:PySem.W.findIn K (.ref C) "__setattr__" = some (some<|.builtin "object.__setattr__")) (i:PySem.W.plainOver K C=true) (j:PySem.W.takerIn K C name=some none) (k:PySem.W.hasDictIn K C=true)
  (hw:PySem.Within mA ns) (hsz:ns.length<=sizeLine)
  (h:∀ h',ObjM h' x dx C (λy=>if y=name then some v else mA y)->Heap.SameBut dx s.heap h'->Q () {s with heap:=h',toks:=s.toks+2}):
  wpAny (model prog w) A (setAttr (.ref x) name v) Q E s:=by
 obtain⟨od,J,hl⟩:=I.look;refine PySem.W.set_plain X J hs<|PySem.W.osa_open X J i j λb=>?_;obtain⟨o,l,d⟩:=PySem.W.any_some k;refine L3<|M6<|L3<|L3<|wpAny_loadPart I.obj<|L3<|PySem.W.Looks.here (PySem.W.looks_clsIn X l) ?_;rw[d];refine M6<|L3<|M6<|L3<|wpAny_nsSet1 I.ns λh' a c=>?_;obtain⟨p,m,n,e,f,g⟩:=a.count<|PySem.Within.cons name v hw;refine L3<|wpAny_lookBehind e (by rw[f];exact pastItsLine_dict<|N7 g<|by rw[M1];lia) ?_;exact M6<|h _ ⟨(c.2 _<|Ne.symm I.ne).trans I.obj,a,I.ne⟩ c
def jdi{R}{vs}{a}(X:K.In s.heap)(hm:PySem.W.makesIn K C=true)
  (hi:PySem.W.findIn K (.ref C) "__init__" = some (some<|.ref f)) (b:PySem.W.typeIn K (.ref f)=some (.type "function"))
  (h:codeAny (model prog w) (A.under<|.builtin "type.__call__" ⟨.ref C::vs,a⟩) (.call (.ref f) ⟨.ref (↥s+1)::vs,a⟩) (PySem.W.InitBack (↥s+1) R)
   {s with heap:=(s.heap.push PySem.W.emptyDict).push (PySem.W.instObj C ↥s)}):
  codeAny (model prog w) A (.call (.ref C) ⟨vs,a⟩) R s:=by
 obtain⟨c,g,d,t,os⟩:=s;exact PySem.W.make_core (PySem.W.makes_of X hm) (PySem.W.looks_findIn X hi) (λself=>PySem.W.bind_fn X self b) (.inl rfl) h
end
noncomputable def Ve(f:Str)(v:V):List (Str×V)->List (Str×V)
 | []=>[(f,v)]
 | (g,x)::r=>if g=f then(g,v)::r else(g,x)::Ve f v r
theorem Yu(f g)(v):∀ fs:List (Str×V),(Ve f v fs).lookup g=if g=f then some v else fs.lookup g
 | []=>by
  show List.lookup g [(f,v)]=_;by_cases h:g=f
  ·have a:=beq_iff_eq.mpr h;simp only[List.lookup,a,if_pos h]
  ·have a:=U2.mpr h;simp only[List.lookup,a,if_neg h]
 | (k,x)::r=>by
  rw[show Ve f v ((k,x)::r)=(if k=f then(k,v)::r else(k,x)::Ve f v r) from rfl];by_cases b:k=f
  ·rw[if_pos b];by_cases h:g=k
   ·have a:=beq_iff_eq.mpr h;simp only[List.lookup,a,if_pos<|h.trans b]
   ·have a:=U2.mpr h;simp only[List.lookup,a,if_neg<|λe:g=f=>h<|e.trans b.symm]
  ·rw[if_neg b];by_cases h:g=k
   ·have a:=beq_iff_eq.mpr h;simp only[List.lookup,a,if_neg<|λe:g=f=>b<|h.symm.trans e]
   ·have a:=U2.mpr h;simp only[List.lookup,a];exact(Yu f g v r)
theorem J5(f)(v):∀ fs:List (Str×V),f∈(Ve f v fs).map (·.1)/\∀ g,g∈fs.map (·.1)->g∈(Ve f v fs).map (·.1)
 | []=>⟨by simp[Ve],λg h=>by simp at h⟩
 | (k,x)::r=>by
  obtain⟨b,c⟩:=J5 f v r;rw[show Ve f v ((k,x)::r)=(if k=f then(k,v)::r else(k,x)::Ve f v r) from rfl];by_cases a:k=f
  ·rw[if_pos a];subst a;exact⟨by simp,λg h=>by simpa using h⟩
  ·rw[if_neg a];refine⟨?_,λg h=>?_⟩
   ·rw[L5];exact L6 _ b
   ·rw[L5] at h ⊢;rcases M4.mp h with e | e
    ·exact M4.mpr<|.inl e
    ·exact L6 _<|c g e
theorem Yw(f)(v):∀ fs:List (Str×V),(Ve f v fs).length<=fs.length+1
 | []=>by simp[Ve]
 | (k,x)::r=>by
  have b:=Yw f v r;rw[show Ve f v ((k,x)::r)=(if k=f then(k,v)::r else(k,x)::Ve f v r) from rfl];by_cases a:k=f
  ·rw[if_pos a,M1,M1];lia
  ·rw[if_neg a,M1,M1];lia
def RelO.some_of(r:RelO (some v) o):∃ u,o=some u/\RelV v u:=by
 cases o with
 | none=>exact(r).elim
 | some u=>exact⟨u,rfl,r⟩
def RelO.none_of(r:RelO none o):o=none:=by
 cases o with
 | none=>rfl
 | some u=>exact(r).elim
def uv(r:RelV v u):PySem.W.handedIn u=true:=by
 cases v with
 | non=>cases(r);rfl
 | bl b=>cases(r);rfl
 | int i=>obtain⟨t,e⟩:=(r);cases e;rfl
 | str x=>obtain⟨t,e⟩:=(r);cases e;rfl
 | byt b=>obtain⟨t,e⟩:=(r);cases e;rfl
 | flt b=>obtain⟨t,e⟩:=(r);cases e;rfl
 | ref a=>cases(r);rfl
 | ty n=>cases(r);rfl
section
variable {P:Program}{w:World}{H H':Hp}{h h':Heap}{a C dx:Addr}{fs fs':List (Str×V)}
def Qp(hok:HOk P w H h)(e:H a=some (.ins C dx fs)):∃ mA,An5 (ObjM h a dx C mA) (∀ f,RelO (fs.lookup f)<|mA f) (PySem.Within mA (fs.map (·.1))) (fs.length<=1000) (H dx=some (.own a)):=by
 obtain⟨d,z,ne,ob,mA,n,r,q⟩:=(hok a _ e);exact⟨mA,⟨ob,n,ne⟩,r,q,z,d⟩
end
structure Cls(K:W3)(C:Addr):Prop where
 pg:PySem.W.plainGet K C Str.empty=true
 hd:PySem.W.hasDictIn K C=true
 po:PySem.W.plainOver K C=true
 sa:PySem.W.findIn K (.ref C) "__setattr__" = some (some<|.builtin "object.__setattr__")
def Cls.get{K}{C}(c:Cls K C)(f):PySem.W.plainGet K C f=true:=c.pg
def NoAttr(K:W3)(C:Addr)(f:Str):Prop:=PySem.W.findIn K (.ref C) f=some none
def NoAttr.taker{K}{C}{f}(n:NoAttr K C f):PySem.W.takerIn K C f=some none:=by
 unfold PySem.W.takerIn;rw[n];rfl
structure Meth(K:W3)(C:Addr)(m:Str)(f:Addr):Prop where
 at_:PySem.W.findIn K (.ref C) m=some (some<|.ref f)
 fn:PySem.W.isFn K (.ref f)=true
 kp:PySem.W.keepIn K (.ref f)=true
section
variable {X:Cx}{pins:List (Addr×Obj)}{σ:St}{H:Hp}{s:Shared}{a C dx:Addr}{fs:List (Str×V)}{f:Str}{v:V}{A:Around}{E:W0}
def YO(I:Inv X pins σ H s)(e:H a=some (.ins C dx fs))(c:Cls X.K C)(n:NoAttr X.K C f)(l:fs.lookup f=some v)
  (h:∀ u s',Inv X pins σ H s'->RelV v u->Q u s'):wpAny (model X.prog X.w) A (getAttr (.ref a) f b) Q E s:=by
 obtain⟨i,O,r,_,_,_⟩:=Qp I.hok e;obtain⟨u,g,d⟩:=RelO.some_of (by rw[<- l];exact r f);exact jgp I.kIn O (c.get f) c.hd n g (uv d)<|h u _ (I.tok _) d
def Y3(I:Inv X pins σ H s)(e:H a=some (.ins C dx fs))(c:Cls X.K C)(k:Meth X.K C m g)(l:fs.lookup m=none)
  (h:Q (.ref g,[.ref a]) s):wpAny (model X.prog X.w) A (getMethod (.ref a) m pl) Q E s:=by
 obtain⟨d,O,r,_,_,_⟩:=Qp I.hok e;have b:=RelO.none_of (by rw[<- l];exact r m);exact jdt I.kIn O (c.get m) k.at_ k.fn b h
def Y4(I:Inv X pins σ H s)(e:H a=some (.ins C dx fs))(c:Cls X.K C)(n:NoAttr X.K C f)(hl:fs.length<1000)(l:RelV y u)
  (h:∀ s',Inv X pins σ (upd H a<|.ins C dx<|Ve f y fs) s'->Q () s'):wpAny (model X.prog X.w) A (setAttr (.ref a) f u) Q E s:=by
 obtain⟨i,O,r,j,_,k⟩:=Qp I.hok e;have m:(fs.map (·.1)).length<=sizeLine:=by rw[L1,sizeLine_eq];lia
 refine jhb I.kIn O c.sa c.po n.taker c.hd j m λp d t=>h _ ?_;have hd:∃ o,p.get? dx=some o:=let ⟨o,_,_,e',_⟩:=d.ns;⟨o,e'⟩
 refine I.write (by rw[e];exact True.intro) (.inr k) (λb q v z=>(t.2 b v).trans z) hd ?_;refine⟨by rw[jg O.ne];exact k,?_,O.ne,d.obj,_,d.ns,λg=>?_,λg x=>?_⟩
 ·have:=Yw f y fs;lia
 ·show RelO ((Ve f y fs).lookup g) (if g=f then some u else i g);rw[Yu];by_cases q:g=f
  ·rw[if_pos q,if_pos q];exact l
  ·rw[if_neg q,if_neg q];exact r g
 ·by_cases q:g=f
  ·rw[q];exact(J5 f y fs).1
  ·refine(J5 f y fs).2 g (j g λz=>x ?_);show(if g=f then some u else i g)=none;rw[if_neg q];exact z
def Inv.made(I:Inv X pins σ H s):Inv X pins σ (upd (upd H ↥s (.own<|↥s+1)) (↥s+1)<|.ins C ↥s [])
  {s with heap:=(s.heap.push PySem.W.emptyDict).push (PySem.W.instObj C ↥s)}:=by
 have a:(s.heap.push PySem.W.emptyDict).get? ↥s=some PySem.W.emptyDict:=X9 s.heap rfl;have c:((s.heap.push PySem.W.emptyDict).push (PySem.W.instObj C ↥s)).get? (↥s+1)=some (PySem.W.instObj C ↥s):=by
  have:=X9 (s.heap.push PySem.W.emptyDict) (o:=PySem.W.instObj C ↥s) rfl
  rwa [Heap.size_push] at this
 have d:(s.heap.push PySem.W.emptyDict).Ns ↥s (λ_=>none):=⟨PySem.W.emptyDict,#[],_,a,rfl,(λe f=>absurd f<|by simp),λ_=>rfl⟩;refine(I.laid (o:=.own<|↥s+1) (t':=s.toks) (λb u q=>L8 _ q) (M8 _) ⟨_,a⟩).laid (λb u q=>L8 _ q) (Nat.le_of_eq<|Heap.size_push _ _) ?_;have ne:↥s≠↥s+1:=N6<|Nat.lt_succ_self _;refine⟨by rw[jg ne,jk],U5 _,ne,c,λ_=>none,(Heap.Ns1.of_empty d).at λo q=>L8 _ q,λ_=>True.intro,λy g=>absurd rfl g⟩
def jgG(a:attributeBase e f env (eval e env)=eval e env)
  (h:wpAny (model prog w) A (eval e env) (λo s₁=>wpAny (model prog w) A (getAttr o f true) Q E s₁) E s):wpAny (model prog w) A (eval (.Attribute e f pos) env) Q E s:=
 Attribute_any_ h (by rw[arm_eval_Attribute,a])
end
def je1(K:W3)(ta:TE)(f:Str):TE:=λσ H Q=>ta σ H λx H1=>∃ a C dx fs v,x=.ref a/\H1 a=some (.ins C dx fs)/\Cls K C/\NoAttr K C f/\fs.lookup f=some v/\Q v H1
def jls(K:W3)(ta tv:TE)(f:Str):TS:=λD σ H=>tv σ H λy H1=>ta σ H1 λx H2=>∃ a C dx fs,x=.ref a/\H2 a=some (.ins C dx fs)/\Cls K C/\NoAttr K C f/\fs.length<1000 /\
 D.nx σ (upd H2 a<|.ins C dx<|Ve f y fs)
def jl5(X:Cx)(op:Operator)(rd:V->V->Hp->VK->Prop):Prop:=
 ∀ pins s (σ:St) H x y u v Q,Inv X pins σ H s->RelV x u->RelV y v->rd x y H Q->wpAny (model X.prog X.w) X.A (inplaceOp op u v) (EP X pins σ Q) X.xe s
def Qz(K:W3)(ta tv:TE)(rd:V->V->Hp->VK->Prop)(f:Str):TS:=λD σ H=>ta σ H λx H1=>∃ a C dx fs v,x=.ref a/\H1 a=some (.ins C dx fs)/\Cls K C/\NoAttr K C f/\fs.lookup f=some v /\
 tv σ H1 λy H2=>rd v y H2 λz H3=>∃ dx' fs',H3 a=some (.ins C dx' fs')/\fs'.length<1000/\D.nx σ (upd H3 a<|.ins C dx'<|Ve f z fs')
section
variable {X:Cx}{o e value:Expr}{f:Str}{pos pos' tpos:Pos}{ta tv:TE}
def uC(d:PE X e ta)(g:attributeBase e f X.env (eval e X.env)=eval e X.env):PE X (.Attribute e f pos) (je1 X.K ta f):=by
 intro b s σ H Q I h;refine jgG g<|thn (d b s σ H _ I h) λu t i=>?_;obtain⟨x,j,k,m,a,C,w,fs,v,ex,o,c,n,l,q⟩:=i;subst ex;obtain rfl:u=Value.ref a:=m;exact YO k o c n l λy z p r=>⟨v,j,p,r,q⟩
def jiD(d:PE X o ta)(e:PE X value tv)(hs:swapsWith value (some<|.Attribute o f pos') pos.line X.env=pure false):PS X (.Assign [.Attribute o f pos'] value pos) (jls X.K ta tv f):=by
 intro b s σ H D I h;refine plainObj_wpAny_Assign_Attribute (thn (e b s σ H _ I h) λu g ⟨y,i,j,k,q⟩=>thn (d b g σ i _ j q) λm A p=>?_) hs;obtain⟨x,B,r,t,a,C,E,fs,ex,v,c,n,l,w⟩:=p;subst ex;obtain rfl:m=Value.ref a:=t;exact Y4 r v c n l k λF z=>⟨σ,_,z,w⟩
def jax(i:PE X o ta)(j:PE X value tv)(d:jl5 X op rd):PS X (.AugAssign (.Attribute o f tpos) op value pos) (Qz X.K ta tv rd f):=by
 intro b s σ H D I h;refine wpAny_AugAssign_AttributeAny<|thn (i b s σ H _ I h) λk U e=>?_;obtain⟨x,m,p,r,a,C,V,fs,v,ex,t,c,n,l,q⟩:=e;subst ex;obtain rfl:k=Value.ref a:=r;refine YO p t c n l λu w A B=>thn (j b w σ m _ A q) λE F ⟨y,G,J,L,M⟩=>thn (d b F σ G v y u E _ J B L M) λW Y e=>?_;obtain⟨z,Z,N,O,P,Q,g,R,S⟩:=e;exact Y4 N g c n R O λs5 T=>⟨σ,_,T,S⟩
def jlO:V->V->Hp->VK->Prop:=λx y H Q=>∃ i j,x=.int i/\y=.int j/\Q (.int<|i+j) H
def jiV:jl5 X .Add jlO:=by
 rintro a s σ H x y u v Q I b c ⟨i,j,rfl,rfl,q⟩;obtain⟨t,rfl⟩:=(b);obtain⟨d,rfl⟩:=(c);exact PyProof.Rows.iadd_int ⟨.int<|i+j,H,I.tok _,⟨_,rfl⟩,q⟩
end
structure Room(k:Nat)(A:Around):Prop where
 hd:A.handled=none
 dp:A.depth+3*k+5<recursionLimit
 un:A.units+16*k+200<cLine
def Room.mono(r:Room k A)(h:j<=k):Room j A:=⟨r.hd,by have:=r.dp;lia,by have:=r.un;lia⟩
def Room.deeper(r:Room (k+1) A)(env):Room k (A.deeper env):=
 ⟨r.hd,by have:=r.dp;show A.depth+1+3*k+5<_;lia,by have:=r.un;show A.units+3+16*k+200<_;lia⟩
def we{A:Around}{us}{a}:(A.under<|.builtin "type.__call__" ⟨.ref C::us,a⟩).depth=A.depth+1:=by
 first | rfl | simp[Around.under,Code.weight,Code.isCreation,Code.isGuard,Code.isCaller,Code.frames,Code.isFrame,guardIds]
def wl{A:Around}{us}{a}:(A.under<|.builtin "type.__call__" ⟨.ref C::us,a⟩).units=A.units+1:=by
 first | rfl | simp[Around.under,Code.cUnits,Code.frames,Code.isFrame]
def Room.make(r:Room (k+1) A)(C)(us)(a):Room k (A.under<|.builtin "type.__call__" ⟨.ref C::us,a⟩):=
 ⟨r.hd,by have:=r.dp;rw[we];lia,by have:=r.un;rw[wl];lia⟩
def Room.depth(r:Room k A):A.depth<recursionLimit:=by have:=r.dp;lia
def Room.units(r:Room k A):A.units+64<cLine:=by have:=r.un;lia
def JB:TA:=λ_ H Q=>Q [] H
def yW(ta:TE)(tr:TA):TA:=λσ H Q=>ta σ H λx H1=>tr σ H1 λxs H2=>Q (x::xs) H2
section
variable {X:Cx}{e:Expr}{es:List Expr}{te:TE}{t:TA}{pos:Pos}
def qg:PA X [] JB:=λ_ _ _ _ H Q I h=>Calls.spliced_nil ⟨[],H,I,.nil,h⟩
abbrev SEq(X:Cx)(e:Expr)(es:List Expr):Prop:=starEach (e::es) X.env=(false,eval e X.env)::starEach es X.env
def y6(b:PE X e te)(c:PA X es t)(hs:SEq X e es:=by rfl):PA X (e::es) (yW te t):=by
 intro pos a s σ H Q I h;rw[hs];refine Calls.spliced_cons<|thn (b a s σ H _ I h) λu d f=>?_;obtain⟨x,g,i,j,k⟩:=f;exact thn (c pos a d σ g _ i k) λq r ⟨l,m,n,o,p⟩=>⟨x::l,m,n,.cons j o,p⟩
def jkz(t:TA):TE:=λσ H Q=>t σ H λxs H1=>xs.length<=sizeLine/\∀ p,H1 p=none->Q (.ref p) (upd H1 p<|.tup xs)
def jkK(t:TA):TE:=λσ H Q=>t σ H λxs H1=>xs.length<=sizeLine/\∀ p,H1 p=none->Q (.ref p) (upd H1 p<|.lst xs)
def jee{x1}(h:PA X es t):PE X (.Tuple es x1 pos) (jkz t):=by
 intro a s σ H Q I f;refine wpAny_Tuple_spliced<|thn (h pos a s σ H _ I f) λg c ⟨i,j,d,r,z,q⟩=>⟨by rw[<- r.length];exact z,?_⟩;refine⟨.ref ↥c,upd j ↥c (.tup i),d.laid (λb u e=>L8 _ e) (M8 _) ?_,rfl,q _<|d.hok.fresh<|M8 _⟩;exact⟨z,g,r,⟨_,X9 _ rfl,rfl,_,rfl⟩,_,X9 _ rfl,rfl⟩
def jjo(h:PA X es t):PE X (.List es pos) (jkK t):=by
 intro a s σ H Q I f;refine wpAny_List_spliced<|thn (h pos a s σ H _ I f) λg c ⟨i,j,d,r,z,q⟩=>⟨by rw[<- r.length];exact z,?_⟩;refine⟨.ref ↥c,upd j ↥c (.lst i),d.laid (λb u e=>L8 _ e) (M8 _) ?_,rfl,q _<|d.hok.fresh<|M8 _⟩;exact⟨z,g,0,r,X9 _ rfl⟩
end
abbrev Sp:=List V->Hp->VK->XK->Prop
abbrev CXT:=List Env->Hp->Shared->XK->Value->Shared->Prop
structure Env0(P:Program)(w:World)(K:W3)(mg:W5)(base:Heap)(A:Around)(outer:List Env)(s:Shared)(H:Hp):Prop where
 frames:A.frames=some outer
 mod:Mod K mg base
 bs:∀ b o,base.get? b=some o->s.heap.get? b=some o/\H b=none
 bsz:base.objs.size<=↥s
 funs:s.heap.FunFrames base outer
 frf:∀ b∈frs outer,H b=none
 hok:HOk P w H s.heap
 bare:AllBare s.gens
def CE(outer:List Env)(P:Program)(w:World)(H:Hp)(s:Shared)(Q:VK)(u:Value)(s':Shared):Prop:=
 ∃ v H',s'.os=s.os/\AllBare s'.gens/\Un (frs outer) [] H H' s.heap s'.heap/\HOk P w H' s'.heap/\RelV v u/\Q v H'
def CR(CX:CXT)(outer:List Env)(P:Program)(w:World)(H:Hp)(s:Shared)(Q:VK)(E:XK)(r:Result)(s':Shared):Prop:=
 match r with
 | .ok (.ret u)=>CE outer P w H s Q u s'
 | .ok _=>False
 | .error e=>CX outer H s E e s'
structure FnOk(P:Program)(w:World)(K:W3)(mg:W5)(base:Heap)(CX:CXT)(k:Nat)(f:Addr)(fd:FuncData)(ps:List Str)(sp:Sp):Prop where
 len:∀ vs H Q E,sp vs H Q E->vs.length=ps.length
 run:∀(A:Around) (outer:List Env) (s:Shared) (H:Hp) (args:Args) (us:List Value) (vs:List V) (Q:VK) (E:XK),Room k A->Env0 P w K mg base A outer s H->BindsTo s fd args (ps.zip us)->Vals vs us->sp vs H Q E ->
  codeAny (model P w) A (.call (.ref f) args) (CR CX outer P w H s Q E) s
def FnOk.imp{P}{w}{K}{mg}{base}{CX}{k}{f}{fd}{ps}{sp a}(F:FnOk P w K mg base CX k f fd ps sp)
  (h:∀ vs H Q E,a vs H Q E->sp vs H Q E):FnOk P w K mg base CX k f fd ps a:=
 ⟨λvs H Q E q=>F.len vs H Q E<|h _ _ _ _ q,λA outer s H b c vs Q E d e g i hs=>F.run A outer s H b c vs Q E d e g i<|h _ _ _ _ hs⟩
def Env0.make{P}{w}{K}{mg}{base}{A}{outer}{s}{H}(e:Env0 P w K mg base A outer s H)(C)(us)(a):
  Env0 P w K mg base (A.under<|.builtin "type.__call__" ⟨.ref C::us,a⟩) outer s H:=⟨by first | exact e.frames | (simpa [Around.under,Code.envs,Code.isFrame,pushEnvs] using e.frames),e.mod,e.bs,e.bsz,e.funs,e.frf,e.hok,e.bare⟩
section
variable {X:Cx}{pins:List (Addr×Obj)}{σ:St}{H:Hp}{s s':Shared}
def Inv.env0(I:Inv X pins σ H s):Env0 X.prog X.w X.K X.mg X.base X.A X.stack s H:=
 ⟨I.ok.frames,I.ok.mod,I.bs,N7 I.ok.bsz I.sz,I.stack,I.stkFree,I.hok,I.bare⟩
def Inv.after(I:Inv X pins σ H s)(h:CE X.stack X.prog X.w H s Q u s'):EP X pins σ Q u s':=by
 obtain⟨v,c,os,bare,un,hok,r,q⟩:=h;obtain⟨e,g,d,t,a⟩:=s';obtain rfl:a=s.os:=os;exact⟨v,c,I.call un hok bare<|λb z=>absurd z<|by simp,r,q⟩
end
def JA(sp:Sp)(dvs:List V)(E:XK)(t:TA):TE:=λσ H Q=>t σ H λvs H1=>sp (vs++dvs) H1 Q E
def Vs(C:Addr)(m:Str)(sp:Sp)(dvs:List V)(E:XK)(ta:TE)(t:TA):TE:=λσ H Q=>ta σ H λx H1=>∃ a dx fs,x=.ref a/\H1 a=some (.ins C dx fs)/\fs.lookup m=none /\
 t σ H1 λvs H2=>sp (x::(vs++dvs)) H2 Q E
def jgL(C:Addr)(sp:Sp)(dvs:List V)(E:XK)(t:TA):TE:=λσ H Q=>t σ H λvs H1=>∀ x dx,H1 x=none->H1 dx=none->dx≠x ->
 sp (.ref x::(vs++dvs)) (upd (upd H1 dx<|.own x) x<|.ins C dx []) (λv H2=>v=.non/\Q (.ref x) H2) E
def Binds(K:W3)(fd:FuncData)(ps:List Str)(ds:List Value):Prop:=
 ∀ s us,K.In s.heap->(us++ds).length=ps.length->BindsTo s fd ⟨us,[]⟩ (ps.zip<|us++ds)
def Binds.all{K}{fd}{ps}(h:∀ us:List Value,us.length=ps.length->bindArgs fd ⟨us,[]⟩=pure (ps.zip us)):Binds K fd ps []:=λs us _ hl=>by
 rw[M9] at hl ⊢;exact .of_eq<|h us hl
def YA(CX:CXT)(X:Cx)(E:XK):Prop:=∀ pins (σ:St) H s e s',Inv X pins σ H s->CX X.stack H s E e s'->X.xe e s'
section
variable {X:Cx}{CX:CXT}{k:Nat}{f C:Addr}{fd:FuncData}{ps:List Str}{sp:Sp}{dvs:List V}{ds:List Value}{E:XK}{x m:Str}{p pos apos:Pos}{e o:Expr}{es:List Expr}{ta:TE}{t:TA}
def jbC(F:FnOk X.prog X.w X.K X.mg X.base CX k f fd ps sp)(c:Room k X.A)(d:Binds X.K fd ps ds)(hd:Vals dvs ds)(g:YA CX X E)
  (I:Inv X pins σ H s) (r:Vals vs us) (h:sp (vs++dvs) H Q E):wpAny (model X.prog X.w) X.A (call (.ref f) us) (EP X pins σ Q) X.xe s:=by
 have b:=r.append hd;have hl:(us++ds).length=ps.length:=by rw[<- b.length];exact F.len _ _ _ _ h
 refine wpAny_call<|codeAny_mono (F.run X.A X.stack s H ⟨us,[]⟩ (us++ds) (vs++dvs) Q E c I.env0 (d s us I.kIn hl) b h) λr i a=>?_;cases r with
 | error e=>exact g pins σ H s e i I a
 | ok fl=>
  cases fl with
  | ret u=>exact I.after a
  | next=>exact False.elim a
  | brk=>exact False.elim a
  | cont=>exact False.elim a
abbrev BkE(X:Cx)(p:Pos)(l:List Expr):Prop:=(backTo p<|starEach l X.env).any (·.1)=false
def jgj(F:FnOk X.prog X.w X.K X.mg X.base CX k f fd ps sp)(g:Room k X.A)(i:Gl X x)(hm:X.mg x=some (.ref f))(j:PySem.W.keepIn X.K (.ref f)=true)(l:Binds X.K fd ps ds)(hd:Vals dvs ds)(m:YA CX X E)
  (n:PA X (e::es) t) (b:Nd x:=by decide) (o:SEq X e es:=by rfl) (c:BkE X pos es:=by rfl):
  PE X (.Call (.Name x p) (e::es) [] pos) (JA sp dvs E t):=by
 intro a s σ H Q I h;exact wpAny_Call_Name_kw<|uU I i hm (PySem.W.callWith_K I.ok.mod.kin j (thn (n pos a s σ H _ I h) λu v ⟨vs,y,d,r,q⟩=>⟨d.kIn,(jbC F g l hd m d r q)⟩) o c) b
def jab(n:PE X o ta)(c:Cls X.K C)(hm:Meth X.K C m f)(F:FnOk X.prog X.w X.K X.mg X.base CX k f fd ps sp)(p:Room k X.A)(v:Binds X.K fd ps ds)(hd:Vals dvs ds)(y:YA CX X E)(z:PA X (e::es) t)
  (d:SEq X e es:=by rfl) (g:BkE X pos es:=by rfl)
  (B:eval (.Call (.Attribute o m apos) (e::es) [] pos) X.env=(do
   let ov <- eval o X.env
   standAt apos.atName
   let (f,first) <- holding [ov] (getMethod ov m pl)
   callWith pos f first (backTo pos<|starEach (e::es) X.env) (backToKw pos<|keywordEach [] X.env)):=by rfl):
  PE X (.Call (.Attribute o m apos) (e::es) [] pos) (Vs C m sp dvs E ta t):=by
 intro b s σ H Q I h;refine PySem.W.methodCall_KW (thn (n b s σ H _ I h) λu D G=>?_) B;obtain⟨x,J,i,L,a,O,fs,ex,M,l,q⟩:=G;subst ex;obtain rfl:u=Value.ref a:=L;exact Y3 i M c hm l<|PySem.W.callWith_K I.ok.mod.kin hm.kp (thn (z pos b D σ J _ i q) λP R ⟨vs,S,j,r,N⟩=>⟨j.kIn,(jbC (vs:=.ref a::vs) F p v hd y j (.cons rfl r) N)⟩) d g
def xJ(e:PE X o ta)(c:Cls X.K C)(hm:Meth X.K C m f)(F:FnOk X.prog X.w X.K X.mg X.base CX k f fd ps sp)(g:Room k X.A)(i:Binds X.K fd ps ds)(hd:Vals dvs ds)(j:YA CX X E)
  (n:eval (.Call (.Attribute o m apos) [] [] pos) X.env=(do
   let ov <- eval o X.env
   standAt apos.atName
   let (f,first) <- holding [ov] (getMethod ov m pl)
   callWith pos f first (backTo pos<|starEach [] X.env) (backToKw pos<|keywordEach [] X.env)):=by rfl):
  PE X (.Call (.Attribute o m apos) [] [] pos) (Vs C m sp dvs E ta JB):=by
 intro b s σ H Q I h;refine PySem.W.methodCall_KW (thn (e b s σ H _ I h) λu v p=>?_) n;obtain⟨x,y,d,r,a,z,fs,ex,t,l,q⟩:=p;subst ex;obtain rfl:u=Value.ref a:=r;exact Y3 d t c hm l<|PySem.W.callWith_K0 d.kIn hm.kp<|jbC (vs:=[.ref a]) F g i hd j d (.cons rfl .nil) q
structure Mk(K:W3)(C f:Addr):Prop where
 makes:PySem.W.makesIn K C=true
 init:PySem.W.findIn K (.ref C) "__init__" = some (some<|.ref f)
 fn:PySem.W.isFn K (.ref f)=true
 kp:PySem.W.keepIn K (.ref C)=true
def jd4(M:Mk X.K C f)(F:FnOk X.prog X.w X.K X.mg X.base CX k f fd ps sp)(g:Room (k+1) X.A)(i:Binds X.K fd ps ds)(hd:Vals dvs ds)
  (j:YA CX X E) (I:Inv X pins σ H s) (r:Vals vs us)
  (h:∀ x dx,H x=none->H dx=none->dx≠x->sp (.ref x::(vs++dvs)) (upd (upd H dx<|.own x) x<|.ins C dx []) (λv H2=>v=.non/\Q (.ref x) H2) E):
  wpAny (model X.prog X.w) X.A (call (.ref C) us) (EP X pins σ Q) X.xe s:=by
 have c:=h (↥s+1) ↥s (I.hok.fresh<|Nat.le_succ _) (I.hok.fresh<|M8 _) (N6<|Nat.lt_succ_self _);have b:=Inv.made (C:=C) I;have d:Vals (V.ref (↥s+1)::(vs++dvs)) (Value.ref (↥s+1)::(us++ds)):=.cons rfl<|r.append hd;have hl:(Value.ref (↥s+1)::us++ds).length=ps.length:=by
  have e:=d.length;rw[F.len _ _ _ _ c] at e;exact e.symm
 refine wpAny_call<|jdi I.kIn M.makes M.init (beq_iff_eq.mp M.fn)<|codeAny_mono (F.run _ X.stack _ _ ⟨Value.ref (↥s+1)::us,[]⟩ (Value.ref (↥s+1)::(us++ds)) _ _ E (g.make C us [])
  (b.env0.make C us []) (i _ (Value.ref (↥s+1)::us) b.kIn hl) d c) λr l a=>?_
 cases r with
 | error e=>exact j pins σ _ _ e l b a
 | ok fl=>
  cases fl with
  | ret u=>
   obtain⟨v,m,n,o,p,q⟩:=b.after a;subst p;exact⟨o,⟨V.ref<|↥s+1,m,n,rfl,q⟩⟩
  | next=>exact False.elim a
  | brk=>exact False.elim a
  | cont=>exact False.elim a
def jfG(M:Mk X.K C f)(F:FnOk X.prog X.w X.K X.mg X.base CX k f fd ps sp)(g:Room (k+1) X.A)(i:Gl X x)(hm:X.mg x=some (.ref C))(j:Binds X.K fd ps ds)(hd:Vals dvs ds)(l:YA CX X E)
  (m:PA X (e::es) t) (b:Nd x:=by decide) (n:SEq X e es:=by rfl) (c:BkE X pos es:=by rfl):
  PE X (.Call (.Name x p) (e::es) [] pos) (jgL C sp dvs E t):=by
 intro a s σ H Q I h;exact wpAny_Call_Name_kw<|uU I i hm (PySem.W.callWith_K I.ok.mod.kin M.kp (thn (m pos a s σ H _ I h) λo u ⟨vs,v,d,r,q⟩=>⟨d.kIn,(jd4 M F g j hd l d r q)⟩) n c) b
end
def PK(X:Cx)(kws:List Keyword)(t:TA):Prop:=
 ∀ pos pins s (σ:St) H (Q:List V->Hp->Prop),Inv X pins σ H s->t σ H Q->wpAny (model X.prog X.w) X.A (evalAll ((backToKw pos<|keywordEach kws X.env).map (·.2))) (AP X pins σ Q) X.xe s
structure FnScope(N P:List Str)(sc:Scope):Prop where
 kind:sc.kind=.function
 co:sc.isCoroutine=false
 gen:sc.isGenerator=false
 nd:N.Nodup
 pre:N.take P.length=P
 par:∀ x∈P,sc.names.lookup x=some .local\/sc.names.lookup x=some .cell
 nofree:∀ y∈sc.names,y.2≠.free
theorem KS{kindOf}  : ∀{binds}{m},(∀ v,(x,v)∉binds)->bindL kindOf binds m x=m x
 | [],_,_=>rfl
 | (n,v)::r,m,h=>by
  unfold bindL;rw[KS λw hw=>h w<|L6 _ hw];split
  ·have:x≠n:=by rintro rfl;exact h v L7
   simp[this]
  ·rfl
theorem KC{kindOf}  : ∀{binds}{m},(∀ v,(x,v)∉binds)->bindC kindOf binds m x=m x
 | [],_,_=>rfl
 | (n,v)::r,m,h=>by
  unfold bindC;rw[KC λw hw=>h w<|L6 _ hw];split
  ·rfl
  ·have:x≠n:=by rintro rfl;exact h v L7
   simp[this]
theorem V7{kindOf}  : ∀{P:List Str}{vs}{i:Nat}{m},P.Nodup->P[i]?=some x->vs[i]?=some v->kindOf x=some .local ->
  bindL kindOf (P.zip vs) m x=some v
 | [],_,_,_,_,h,_,_=>by simp at h
 | _::_,[],_,_,_,_,h,_=>by simp at h
 | p::P,w::vs,0,m,nd,a,b,c=>by
  simp at a b;subst a;subst b;show bindL kindOf ((p,w)::P.zip vs) m p=_;unfold bindL;rw[KS λv d=>(List.nodup_cons.mp nd).1 (List.of_mem_zip d).1,if_pos c];simp
 | p::P,w::vs,i+1,m,nd,a,b,c=>by
  unfold bindL;exact V7 (List.nodup_cons.mp nd).2 ⇑a ⇑b c
theorem Ka{kindOf}  : ∀{P:List Str}{vs}{i:Nat}{m},P.Nodup->P[i]?=some x->vs[i]?=some v->kindOf x≠some .local ->
  bindC kindOf (P.zip vs) m x=some v
 | [],_,_,_,_,h,_,_=>by simp at h
 | _::_,[],_,_,_,_,h,_=>by simp at h
 | p::P,w::vs,0,m,nd,a,b,c=>by
  simp at a b;subst a;subst b;show bindC kindOf ((p,w)::P.zip vs) m p=_;unfold bindC;rw[KC λv d=>(List.nodup_cons.mp nd).1 (List.of_mem_zip d).1,if_neg c];simp
 | p::P,w::vs,i+1,m,nd,a,b,c=>by
  unfold bindC;exact Ka (List.nodup_cons.mp nd).2 ⇑a ⇑b c
noncomputable def start(N:List Str)(vs:List V):St:=vs.map some++List.replicate (N.length-vs.length) none
noncomputable def ug(CX:CXT)(P:Program)(w:World)(K:W3)(mg:W5)(base:Heap)(N:List Str)(qual:Str)(scope:Scope)(f:Addr)(cd:Value)(A:Around)(outer:List Env)(s:Shared)(H:Hp)(E:XK):Cx where
 prog:=P
 w:=w
 K:=K
 mg:=mg
 base:=base
 A:=A.deeper (envOfC qual scope ↥s f cd)
 N:=N
 s₀:=s
 H₀:=H
 env:=envOfC qual scope ↥s f cd
 outer:=outer
 stack:=envOfC qual scope ↥s f cd::outer
 ex:=[]
 calm:=true
 fn:=λ_=>true
 pn:=[]
 xe:=λe s'=>wpAny (model P w) (A.deeper<|envOfC qual scope ↥s f cd) (leaving (envOfC qual scope ↥s f cd) e) (λ_ s''=>CX outer H s E e s'') (λe' s''=>CX outer H s E e' s'') s'
def xq{a:Scope}{n}(h:a.names.lookup x=some .cell):∃ c,(cellsFrom n a.names []).lookup x=some c:=by
 exact Option.isSome_iff_exists.mp<|PySem.W.cellsFrom_some a.names n []<|.inl h
def jbV{CX}{P}{w}{K}{mg}{base}{N ps}{qual}{scope}{f}{cd}{A}{outer}{s B}{H}{E}{us}{vs}
  (S:FnScope N ps scope) (hd:A.handled=none) (g:Env0 P w K mg base A outer s H) (hl:vs.length=ps.length) (r:Vals vs us)
  (x:InCallC s ↥s (bindL (envOfC qual scope ↥s f cd).kindOf (ps.zip us) λ_=>none) (cellsFrom (↥s+1) scope.names []) (bindC (envOfC qual scope ↥s f cd).kindOf (ps.zip us) λ_=>none) B):
  Inv (ug CX P w K mg base N qual scope f cd A outer s H E) [] (start N vs) H B:=by
 have F:ps.length<=N.length:=by have:=congrArg List.length S.pre;rw[X8] at this;lia
 obtain⟨o,J,rfl,C⟩:=x.done;have j:∀ b:Addr,b∉(ug CX P w K mg base N qual scope f cd A outer s H E).ex:=λb z=>absurd (show b∈([]:W4) from z) (by simp);refine⟨⟨g.mod,S.kind,rfl,rfl,M8 _,λy z c o d=>?_,λy l=>?_,λy c _ h=>?_,λ_=>hd,Around.frames_deeper g.frames,.inr ⟨rfl,rfl⟩,λb z=>absurd z<|j b,g.bs,g.bsz,λb _ _=>j b,λb z=>absurd z<|j b,g.funs,g.frf⟩,
  rfl,g.bare,Un.kept C,⟨_,x.toInCall.ns,λi y v o d L=>?_⟩,λy c h=>⟨_,x.cell y c h⟩,g.hok.fresh<|M8 _,λy c h=>?_,λp m=>absurd (show p∈([]:W1) from m)<|by simp,g.hok.kept C,?_⟩
 ·exact name_of_addr x.apart (PySem.mem_of_lookup o)<|PySem.mem_of_lookup d
 ·have l:=l;rcases l with l | l
  ·exact xq l
  ·exact absurd rfl<|S.nofree _<|PySem.mem_of_lookup l
 ·exact Nat.le_of_lt<|x.above y c<|PySem.mem_of_lookup h
 ·have t:i<vs.length:=by
   unfold start at d;by_cases t:i<vs.length
   ·exact t
   ·rw[List.getElem?_append_right ⇑t,List.getElem?_replicate] at d;split at d<;>cases d
  have G:vs[i]?=some v:=by
   unfold start at d;rw[List.getElem?_append_left ⇑t,List.getElem?_map] at d;cases e:vs[i]? with
   | none=>rw[e] at d;cases d
   | some a=>rw[e] at d;cases d;rfl
  obtain⟨u,D,I⟩:=r.get G;have m:ps[i]?=some y:=by
   rw[<- S.pre,List.getElem?_take_of_lt<|by lia];exact o
  have n:ps.Nodup:=by rw[<- S.pre];exact S.nd.sublist<|List.take_sublist _ _
  refine⟨u,I,?_⟩;rcases S.par y (List.mem_of_getElem? m) with k | k
  ·exact .inl ⟨k,V7 n m D k⟩
  ·obtain⟨c,e⟩:=xq k;refine .inr ⟨.inl k,c,e,?_⟩;have q:=x.cell y c e;rw[Ka n m D<|by show scope.names.lookup y≠_;rw[k];decide] at q;exact q
 ·exact g.hok.fresh<|Nat.le_of_lt<|x.above y c<|PySem.mem_of_lookup h
 ·unfold start;show _=N.length;rw[N4,L1,List.length_replicate]
  lia
def jjT{CX}{P}{w}{K}{mg}{base}{k}{f}{name qual}{params}{body}{scope}{D kV g pm a ct oc}{an od}
  {m:Array (Option Value)}{N ps:List Str}{sp:Sp}(M:K.lookup f=some ⟨oc,od,.func<|PySem.W.fnOf name qual params body scope D kV g pm an a ct,m⟩) (p:PySem.W.codeIn K a qual=true) (S:FnScope N ps scope)
  (len:∀ vs H Q E,sp vs H Q E->vs.length=ps.length)
  (c:∀ A outer s H vs Q E,Room k (A.deeper<|envOfC qual scope ↥s f a)->sp vs H Q E ->
   ∃ t,PSs (ug CX P w K mg base N qual scope f a A outer s H E) body t/\t {nx:=λ_ H'=>Q .non H',rt:=Q} (start N vs) H):
  FnOk P w K mg base CX (k+1) f (PySem.W.fnOf name qual params body scope D kV g pm an a ct) ps sp:=by
 refine⟨len,λA outer s H F O vs Q E z h R r i=>?_⟩;have G:=h.mod.kin.keeps λb o e=>(h.bs b o e).1;have d:∀ y∈ps.zip O,scope.names.lookup y.1=some .local\/(scope.names.lookup y.1=some .cell/\((cellsFrom (↥s+1) scope.names []).lookup y.1).isSome=true):=λ⟨n,v⟩ T=>by
  rcases S.par n (List.of_mem_zip T).1 with q | q
  ·exact .inl q
  ·exact .inr ⟨q,PySem.W.cellsFrom_some _ _ _<|.inl q⟩
 refine codeAny_call_function z.depth (G _ _ M) rfl S.co S.gen rfl (PySem.W.codeRec_of G p)<|R _ _ _ _<|wpAny_newFunctionEnv_cells S.kind d λenv U L x=>?_;subst U;refine⟨(h.mod.nolimit.keeps λb o e=>(h.bs b o e).1).keeps x.toInCall.keep,codeAny_func ?_⟩;obtain⟨t,X,Y⟩:=c A outer s H vs Q E (z.deeper _) i;have I:Inv (ug CX P w K mg base N qual scope f a A outer s H E) [] (start N vs) H L:=jbV S z.hd h (len _ _ _ _ i) r x;refine wpAny_mono (X [] L (start N vs) H _ I Y) (λfl B hs=>?_) λe B hs=>hs;have j:∀{l}{H'}{v}{u},Inv (ug CX P w K mg base N qual scope f a A outer s H E) [] l H' B->RelV v u->Q v H'->CE outer P w H s Q u B:=
  λ{l H' v u} J C q=>⟨v,H',J.os,J.bare,J.base,J.hok,C,q⟩
 cases fl with
 | ret u=>
  obtain⟨v,l,H',J,C,q⟩:=hs;exact j J C q
 | next=>
  obtain⟨l,H',J,q⟩:=hs;exact j (v:=V.non) J rfl q
 | brk=>
  obtain⟨_,_,_,q⟩:=hs;exact False.elim q
 | cont=>
  obtain⟨_,_,_,q⟩:=hs;exact False.elim q
section
variable {X:Cx}{x:Str}{p pos:Pos}{e:Expr}{es:List Expr}{t:TA}{id T:String}{r:List V->Hp->VK->Prop}
def tCB(r:List V->Hp->VK->Prop)(t:TA):TE:=λσ H Q=>t σ H λvs H1=>r vs H1 Q
def xA(d:qk X (.builtin id) r)(f:Gl X x)(hm:X.mg x=none)(g:bootBuiltins x=some (.builtin id))(i:PA X (e::es) t)(hn:x≠"__name__":=by decide)(b:Nd x:=by decide)
  (j:SEq X e es:=by rfl) (c:BkE X pos es:=by rfl):PE X (.Call (.Name x p) (e::es) [] pos) (tCB r t):=by
 intro a s σ H Q I h;exact wpAny_Call_Name_kw<|qU I f hm g (PyProof.Rows.callWith_builtin1 (thn (i pos a s σ H _ I h) λk l ⟨vs,m,n,o,q⟩=>d a l σ m vs k Q n o q) j c) hn b
def jby(d:qk X (.type T) r)(f:Gl X x)(hm:X.mg x=none)(g:bootBuiltins x=some (.type T))(i:PA X (e::es) t)(hn:x≠"__name__":=by decide)(b:Nd x:=by decide)
  (j:SEq X e es:=by rfl) (c:BkE X pos es:=by rfl):PE X (.Call (.Name x p) (e::es) [] pos) (tCB r t):=by
 intro a s σ H Q I h;exact wpAny_Call_Name_kw<|qU I f hm g (PyProof.Rows.callWith_type1 (thn (i pos a s σ H _ I h) λk l ⟨vs,m,n,o,q⟩=>d a l σ m vs k Q n o q) j c) hn b
end
end L2
namespace HT
open PySem PyProof.Rows
section
open PySem.SeqAt
open PySem.AutoSeq1 (wpAny_loadPart')
open PySem.MeetsSeq PySem.MeetsSeq2 PySem.MeetsSeq3
end
section
variable {prog:Program}{w:World}{A:Around}{E:W0}{s:Shared}
def cat_tup(p:IsTup s.heap t vs.toArray)(q:IsTup s.heap b ws.toArray)(j:vs≠[])
  (h1:ws=[]->Q (.ref t) s) (h2:ws≠[]->Q (.ref ↥s) { s with heap:=s.heap.push {cls:=.type "tuple",data:=.seq (vs++ws).toArray} })
  (hsz:vs.length+ws.length<=sizeLine):wpAny (model prog w) A (binaryOp .Add (.ref t)<|.ref b) Q E s:=by
 obtain⟨⟨cls,k,data,l⟩,f,r,n,hd⟩:=id p;obtain⟨⟨m,c,g,d⟩,a,h,o,i⟩:=id q;subst r hd h i;have e:vs.toArray++ws.toArray=(vs++ws).toArray:=by simp
 by_cases hw:ws=[]
 ·exact concat_meets ⟨_,f,rfl⟩ ⟨_,a,rfl⟩ noFill_tuple_add seq_tuple_add PySem.F.slot_tuple_add PySem.F.entry_tuple_add (PySem.F.args_tuple_add_2 _ _)
   (tuple_addW1 t b vs.toArray ws.toArray n o k c l d ⇑j (by simp[hw])) ⟨f,a,h1 hw⟩
 ·refine concat_meets ⟨_,f,rfl⟩ ⟨_,a,rfl⟩ noFill_tuple_add seq_tuple_add PySem.F.slot_tuple_add PySem.F.entry_tuple_add (PySem.F.args_tuple_add_2 _ _)
   (tuple_addW2 t b vs.toArray ws.toArray n o k c l d ⇑j ⇑hw (by rw[N3,N3];exact hsz)) ⟨f,a,?_⟩
  rw[e];exact h2 hw
noncomputable def sIx(n d:Nat):Option Int->Nat
 | none=>d
 | some v=>if v<0 then(v+(n:Int)).toNat else min v.toNat n
def sIx_none(n d):sIx n d none=d:=rfl
def sIx_nat(n d k:Nat):sIx n d (some (k:Int))=min k n:=by
 show(if k<0 then(k+(n:Int)).toNat else min (k:Int).toNat n)=min k n;rw[if_neg<|by lia,N8]
def sIx_le(n d)(hd:d<=n)(o):sIx n d o<=n:=by
 cases o with
 | none=>exact hd
 | some v=>
  show(if v<0 then(v+n).toNat else min v.toNat n)<=n;by_cases a:v<0
  ·rw[if_pos a];lia
  ·rw[if_neg a];exact Nat.min_le_right _ _
def uM(v)(n d:Nat):(if v<0 then max (v+(n:Int)) 0 else min v (n:Int))=((sIx n d (some v):Nat):Int):=by
 show(if v<0 then max (v+n) 0 else min v n)=(((if v<0 then(v+n).toNat else min v.toNat n):Nat):Int);by_cases a:v<0
 ·simp only[if_pos a];lia
 ·simp only[if_neg a];lia
def wU(lo hi)(n:Nat):Builtin.Slice.sliceAdjust lo hi 1 (n:Int)=(((sIx n 0 lo:Nat):Int),((sIx n n hi:Nat):Int)):=by
 refine Prod.ext ?_ ?_
 ·cases lo with
  | none=>rfl
  | some v=>exact uM v n 0
 ·cases hi with
  | none=>rfl
  | some v=>exact uM v n n
def wG(i j:Nat):Builtin.Slice.slicePlaces (i:Int) (j:Int) 1=j-i:=by
 unfold Builtin.Slice.slicePlaces;split<;>lia
def Vl(p:IsPart v o)(h:Q o s):wpAny (model prog w) A (Builtin.Slice.slicePartIndex v) Q E s:=by
 cases p with
 | none=>exact slicePart_none h
 | int i t=>exact slicePart_int h
def JE{lo hi}{n}{Q:Int×Int×Nat->Shared->Prop}(hs:s.heap.IsSliceOf sl vl vu .none)(c:IsPart vl lo)(d:IsPart vu hi)
  (h:Q (((sIx n 0 lo:Nat):Int),1,sIx n n hi-sIx n 0 lo) s):wpAny (model prog w) A (Builtin.Slice.sliceApplied (.ref sl)<|pure (n:Int)) Q E s:=by
 obtain⟨os,a,e,b⟩:=id hs;refine L3<|L3<|U6 a b rfl<|L3<|U6 a b rfl<|L3<|U6 a b rfl<|M6<|L3<|slicePart_none<|L3<|Vl c<|L3<|Vl d<|L3<|M6 ?_;show wpAny _ _ (match Builtin.Slice.sliceAdjust lo hi 1 n with | (lo,hi)=>pure (lo,(1:Int),Builtin.Slice.slicePlaces lo hi 1)) _ _ s;rw[wU lo hi n];show wpAny _ _ (pure (((sIx n 0 lo:Nat):Int),1,Builtin.Slice.slicePlaces ((sIx n 0 lo:Nat):Int) ((sIx n n hi:Nat):Int) 1)) _ _ s;rw[wG];exact M6 h
def jc7(xs:Array Value)(i k:Nat):((List.range k).filterMap λ(m:Nat)=>xs[((i:Int)+(m:Int)*1).toNat]?).toArray=((xs.toList.drop i).take k).toArray:=by
 have e:(λ(m:Nat)=>xs[(i+(m:Int)*1).toNat]?)=λm=>xs[i+m]?:=by
  funext m
  have:(i+(m:Int)*1).toNat=i+m:=by lia
  rw[this]
 rw[e];have:=pick_run xs i k;rw[List.filterMap_map] at this;have a:((λx=>xs[x]?) ∘ λx=>i+x)=λm=>xs[i+m]?:=rfl;rw[a] at this;rw[this]
def getItem_tuple_cut{items}{lo hi}{Q}(b:IsTup s.heap t items)(hs:s.heap.IsSliceOf sl vl vu .none)(g:IsPart vl lo)(i:IsPart vu hi)
  (hw:¬ (sIx items.size 0 lo=0/\sIx items.size items.size hi=items.size))
  (h:Q (.ref ↥s) { s with heap:=s.heap.push {cls:=.type "tuple",data:=.seq ((items.toList.drop<|sIx items.size 0 lo).take (sIx items.size items.size hi-sIx items.size 0 lo)).toArray} })
  (hsz:items.size<=sizeLine):wpAny (model prog w) A (getItem (.ref t)<|.ref sl) Q E s:=by
 have a:sizeOk (.seq ((items.toList.drop<|sIx items.size 0 lo).take (sIx items.size items.size hi-sIx items.size 0 lo)).toArray):=by
  show((items.toList.drop<|sIx items.size 0 lo).take (sIx items.size items.size hi-sIx items.size 0 lo)).toArray.size<=sizeLine;rw[N3,X8,List.length_drop,Array.length_toList]
  lia
 obtain⟨os,c,d,j⟩:=id hs;have e:s.TypeIs (.ref sl) "slice":=⟨os,c,d⟩;unfold getItem
 try with_reducible refine wpAny_holding ?_
 first | refine L3 (M6 ?_) | skip
 refine L3<|wpAny_sequenceKey b.typeIs (by decide) ?_;refine L3<|wpAny_callSpecial?_slot b.typeIs PyProof.Rows.slot_tuple_getitem<|wpAny_call_entry PyProof.Rows.slot_tuple_getitem b.typeIs entry_tuple_getitem ?_<|args_tuple_getitem _ _
 show wpAny _ _ (Builtin.Tuple.tupleItemsOf (.ref t) >>= _) _ _ s;refine L3<|tupleItemsOf_ b<|L3<|wpAny_typeOf e<|L3<|JE hs g i ?_;have f:¬ ((((sIx items.size 0 lo:Nat):Int)==0&&(1:Int)==1&&(sIx items.size items.size hi-sIx items.size 0 lo)==items.size)=true):=by
  intro q;rw[M0,M0] at q;have k:=eq_of_beq q.1.1;have l:=eq_of_beq q.2;exact hw ⟨by lia,by lia⟩
 show wpAny _ _ (if(((sIx items.size 0 lo:Nat):Int)==0&&1==1&&(sIx items.size items.size hi-sIx items.size 0 lo)==items.size)=true then _ else _) _ _ s;rw[if_neg f,jc7]
 first
  | exact L3 (wpAny_newObj_type (M6 ⟨_,rfl,M6 h⟩) a)
  | exact L3 (wpAny_newObj_type (L3 (M6 (M6 ⟨_,rfl,M6 h⟩))) a)
  | exact L3 (L3 (wpAny_newObj_type (M6 (M6 ⟨_,rfl,M6 h⟩)) a))
  | exact L3 (L3 (wpAny_newObj_type (M6 ⟨_,rfl,M6 h⟩) a))
end
end HT
namespace L2
open PySem PySem.Spec PyProof.Rows
abbrev TO:=St->Hp->(Option Int->Hp->Prop)->Prop
def PO(X:Cx)(e:Option Expr)(t:TO):Prop:=
 ∀ pins s (σ:St) H (Q:Option Int->Hp->Prop),Inv X pins σ H s->t σ H Q ->
  wpAny (model X.prog X.w) X.A (evalPart e X.env) (λu s'=>∃ o H',Inv X pins σ H' s'/\IsPart u o/\Q o H') X.xe s
def Qb:TO:=λ_ H Q=>Q none H
def jhm(t:TE):TO:=λσ H Q=>t σ H λx H1=>∃ i,x=.int i/\Q (some i) H1
def ua:∀{us},Vals (ns.map V.int) us->IntsAre us ns:=by
 induction ns with
 | nil=>intro us r;rw[List.map_nil] at r;cases r;exact .nil
 | cons n ns a=>
  intro us r;cases r with
  | cons b c=>
   obtain⟨t,e⟩:=b;subst e;exact .cons n t<|a c
section
variable {X:Cx}{e:Expr}{te:TE}{lo hi:Option Expr}{tl th:TO}{pos p2:Pos}
def jhG:PO X none Qb:=by
 intro a s σ H Q I h;exact M6 ⟨none,H,I,.none,h⟩
def jfS(h:PE X e te):PO X (some e) (jhm te):=by
 intro a s σ H Q I hw;refine thn (h a s σ H _ I hw) λu j b=>?_;obtain⟨x,c,d,f,g⟩:=b;obtain⟨i,rfl,q⟩:=g;obtain⟨t,rfl⟩:=f;exact⟨some i,c,d,.int i t,q⟩
def SlR(X:Cx)(r:V->Option Int->Option Int->Hp->VK->Prop):Prop:=
 ∀ pins s (σ:St) H x v vl vu lo hi sl Q,Inv X pins σ H s->RelV x v->s.heap.IsSliceOf sl vl vu .none->IsPart vl lo->IsPart vu hi->r x lo hi H Q ->
  ∃ T id,typeLookup (.type T) "__getitem__" = pure (some<|.builtin id)/\s.TypeIs v T/\wpAny (model X.prog X.w) X.A (getItem v<|.ref sl) (EP X pins σ Q) X.xe s
def SlR.or(h:SlR X r)(h':SlR X r'):SlR X (λx lo hi H Q=>r x lo hi H Q\/r' x lo hi H Q):=by
 intro a s σ H x v b c lo hi d Q I e hs f g q;rcases q with q | q
 ·exact h a s σ H x v b c lo hi d Q I e hs f g q
 ·exact h' a s σ H x v b c lo hi d Q I e hs f g q
def tSl(r:V->Option Int->Option Int->Hp->VK->Prop)(te:TE)(tl th:TO):TE:=λσ H Q=>te σ H λx H1=>tl σ H1 λl H2=>th σ H2 λu H3=>r x l u H3 Q
def jdW{r}(j:SlR X r)(k:PE X e te)(hl:PO X lo tl)(m:PO X hi th):PE X (.Subscript e (.Slice lo hi none p2) pos) (tSl r te tl th):=by
 intro a s σ H Q I h;refine Subscript_<|thn (k a s σ H _ I h) λv n d=>?_;obtain⟨x,o,p,t,w⟩:=d;refine wpAny_Slice<|thn (hl a n σ o _ p w) λf y ⟨l,z,A,B,C⟩=>thn (m a y σ z _ A C) λg c d=>?_;obtain⟨u,i,D,E,F⟩:=d;refine M6 ?_;have G:Inv X a σ i { c with heap:=c.heap.push {cls:=.type "slice",data:=.fields #[f,g,.none]} }:=D.kept λb ob q=>L8 _ q;obtain⟨T,id,J,K,L⟩:=j a { c with heap:=c.heap.push {cls:=.type "slice",data:=.fields #[f,g,.none]} } σ i x v f g l u ↥c Q G t (Heap.IsSliceOf.new ..) B E F;exact tail_any K J L (by with_unfolding_all rfl)
def jhP(xs:List V)(lo hi:Option Int):List V:=(xs.drop<|HT.sIx xs.length 0 lo).take (HT.sIx xs.length xs.length hi-HT.sIx xs.length 0 lo)
def YD(xs)(lo hi):(jhP xs lo hi).length<=xs.length:=by
 unfold jhP;rw[X8,List.length_drop]
 lia
def jlQ(K:W3):V->Option Int->Option Int->Hp->VK->Prop:=λx lo hi H Q=>∃ a xs,x=.ref a/\SqT K H a xs /\
 ¬ (HT.sIx xs.length 0 lo=0/\HT.sIx xs.length xs.length hi=xs.length)/\∀ p,H p=none->Q (.ref p) (upd H p<|.tup<|jhP xs lo hi)
def jia:SlR X (jlQ X.K):=by
 intro g s σ H x v p t e i u Q I l hs m n h;obtain⟨a,d,rfl,o,hw,q⟩:=h;cases l;obtain⟨f,r,j,k⟩:=I.tuple o;have c:f.toArray.size=d.length:=by rw[N3];exact r.length.symm
 refine⟨"tuple",_,PyProof.Rows.slot_tuple_getitem.lookup,j.typeIs,?_⟩;refine HT.getItem_tuple_cut j hs m n (by rw[c];exact hw) ?_ (by rw[c];exact k);rw[c];refine⟨.ref ↥s,_,I.laid (λb ob q=>L8 _ q) (M8 _) ?_,rfl,q _<|I.hok.fresh<|M8 _⟩;exact⟨N7 (YD d e i) k,_,(r.drop<|HT.sIx d.length 0 e).take (HT.sIx d.length d.length i-HT.sIx d.length 0 e),IsTupN.new _ _⟩
def jiQ(K:W3):R2:=λx y H Q=>∃ a b xs ys,x=.ref a/\y=.ref b/\SqT K H a xs/\SqT K H b ys/\xs≠[]/\xs.length+ys.length<=sizeLine /\
 (ys=[]->Q (.ref a) H)/\(ys≠[]->∀ p,H p=none->Q (.ref p) (upd H p<|.tup<|xs++ys))
def Vals.nil_iff(r:Vals xs us):us=[]↔xs=[]:=by
 cases r with
 | nil=>simp
 | cons _ _=>simp
def jfC:OpR X (binaryOp .Add) (jiQ X.K):=by
 intro e s σ H x y v u Q I i j h;obtain⟨a,b,r,t,rfl,rfl,k,l,m,f,n,o⟩:=h;cases i;cases j;obtain⟨p,d,p1,_⟩:=I.tuple k;obtain⟨g,c,p2,_⟩:=I.tuple l;refine HT.cat_tup p1 p2 (λz=>m<|d.nil_iff.mp z) (λz=>⟨.ref a,H,I,rfl,n<|c.nil_iff.mp z⟩) (λz=>?_) (by rw[<- d.length,<- c.length];exact f);refine⟨.ref ↥s,_,I.laid (λb ob q=>L8 _ q) (M8 _) ?_,rfl,o (λw=>z<|c.nil_iff.mpr w) _<|I.hok.fresh<|M8 _⟩;exact⟨by rw[N4];exact f,_,d.append c,IsTupN.new _ _⟩
end
noncomputable def ixN(n:Nat)(i:Int):Option Nat:=if 0<=i then(if i<n then some i.toNat else none) else if -(n:Int)<=i then some (i+n).toNat else none
def atI{α:Type}(xs:List α)(i:Int):Option α:=(ixN xs.length i).bind λj=>xs[j]?
def jf2(h:ixN n i=some j):seqIndex? i n=some j/\j<n/\-(n:Int)<=i/\i<n:=by
 unfold ixN at h;by_cases b:0<=i
 ·rw[if_pos b] at h;by_cases a:i<n
  ·rw[if_pos a] at h;have e:=X5 h;exact⟨by rw[seqIndex_of b a,e],by lia,by lia,a⟩
  ·rw[if_neg a] at h;cases h
 ·rw[if_neg b] at h;by_cases a:-n<=i
  ·rw[if_pos a] at h;exact⟨by rw[seqIndex_neg (by lia) a,X5 h],by lia,a,by lia⟩
  ·rw[if_neg a] at h;cases h
def Qs(h:atI xs i=some v):∃ j,An5 (seqIndex? i xs.length=some j) (xs[j]?=some v) (j<xs.length) (-(xs.length:Int)<=i) (i<xs.length):=by
 unfold atI at h;cases e:ixN xs.length i with
 | none=>rw[e] at h;cases h
 | some j=>
  rw[e] at h;obtain⟨a,b,c,d⟩:=jf2 e;exact⟨j,a,h,b,c,d⟩
def Yq(b:Expr):Prop:=∀ o i,subscripted b false o i=operate [o,i] (getItem o i)
def IxR(X:Cx)(r:R2):Prop:=
 ∀ value slice pins s (σ:St) H x y v u Q,Inv X pins σ H s->RelV x v->RelV y u->r x y H Q ->
  subscripted slice false v u=operate [v,u] (getItem v u)->wpAny (model X.prog X.w) X.A (subscriptTail value slice v u) (EP X pins σ Q) X.xe s
def MtR(X:Cx)(id:String)(r:V->List V->Hp->VK->Prop):Prop:=
 ∀ pins s (σ:St) H x xs v us Q,Inv X pins σ H s->RelV x v->Vals xs us->r x xs H Q ->
  wpAny (model X.prog X.w) X.A (call (.builtin id)<|v::us) (EP X pins σ Q) X.xe s
section
variable {X:Cx}{a b:Expr}{ta tb:TE}{pos:Pos}
def IxR.or(h:IxR X r)(h':IxR X r'):IxR X (λx y H Q=>r x y H Q\/r' x y H Q):=by
 intro a slice b s σ H x y v u Q I c d q hs;rcases q with q | q
 ·exact h a slice b s σ H x y v u Q I c d q hs
 ·exact h' a slice b s σ H x y v u Q I c d q hs
def jgv(d:IxR X r)(e:PE X a ta)(f:PE X b tb)(hs:Yq b):PE X (.Subscript a b pos) (tOp r ta tb):=by
 intro c s σ H Q I h;exact Subscript_<|jle e f I h λv u g x y i j k l q=>d a b c g σ i x y v u Q j k l q<|hs _ _
def jlJ(K:W3):R2:=λx y H Q=>∃ p xs i v,x=.ref p/\y=.int i/\SqL K H p xs/\atI xs i=some v/\Q v H
def jlN(K:W3):R2:=λx y H Q=>∃ p xs i v,x=.ref p/\y=.int i/\SqT K H p xs/\atI xs i=some v/\Q v H
def jlU:R2:=λx y H Q=>∃ z i c,x=.str z/\y=.int i/\z.length<=sizeLine/\atI z.cps.toList i=some c/\Q (.str ⟨#[c]⟩) H
def ix_list:IxR X (jlJ X.K):=by
 intro d slice a s σ H x y v u Q I n o h hs;obtain⟨p,F,i,z,rfl,rfl,A,B,q⟩:=h;cases n;obtain⟨t,rfl⟩:=o;obtain⟨e,r,f,G⟩:=I.list A;obtain⟨j,c,C,J,D,E⟩:=Qs B;obtain⟨w,l,g⟩:=r.get C;have hl:=r.length;have L:=jaY;have b:EP X a σ Q w s:=⟨z,H,I,g,q⟩;by_cases m:0<=i
 ·have k:i.toNat=j:=by
   rw[seqIndex_of m E] at c;exact X5 c
  exact item_listR f.isList m (by lia) (by rw[k];simpa using l) b hs
 ·have k:(i+e.toArray.size).toNat=j:=by
   rw[seqIndex_neg (by lia) D] at c;rw[N3,<- hl];exact X5 c
  exact subscriptTail_builtinR f.isList.typeIs slot_list_getitem.lookup
   (wpAny_getItem_list_neg f.isList (by lia) (by rw[N3]<;>lia) (by lia) (by rw[k];simpa using l) ⟨rfl,b⟩) hs
def ix_tup:IxR X (jlN X.K):=by
 intro b slice a s σ H x y v u Q I f g h hs;obtain⟨p,B,i,z,rfl,rfl,k,l,q⟩:=h;cases f;obtain⟨t,rfl⟩:=g;obtain⟨m,r,e,C⟩:=I.tuple k;obtain⟨j,n,o,D,E,F⟩:=Qs l;obtain⟨w,A,c⟩:=r.get o;have G:=jaY;have d:EP X a σ Q w s:=⟨z,H,I,c,q⟩;exact subscriptTail_builtinR e.typeIs slot_tuple_getitem.lookup
  (getItem_tuple e (by lia) (by lia) (by rw[N3,<- r.length];exact n) ⇑A ⟨rfl,d⟩) hs
def jir:IxR X jlU:=by
 intro a slice b s σ H x y v u Q I e f h hs;obtain⟨z,i,c,rfl,rfl,p,g,q⟩:=h;obtain⟨t,rfl⟩:=e;obtain⟨r,rfl⟩:=f;obtain⟨j,d,k,w,l,m⟩:=Qs g;have hl:z.cps.toList.length=z.length:=by simp[Str.length]
 rw[hl] at d l m;have A:=jaY;exact tail_any (typeIs_str s z t) slot_str_getitem.lookup (getItem_str (by
  have n:decide (i < -(2 ^ 63:Int))=false:=X2 (by lia);have o:decide (i ≥ 2 ^ 63)=false:=X2 (by lia);rw[n,o,Bool.or_false]) (by rw[d];simpa using k) ⟨.str ⟨#[c]⟩,H,I.tok _,⟨_,rfl⟩,q⟩) hs
def rIx(K:W3):R2:=λx y H Q=>jlJ K x y H Q\/jlN K x y H Q\/jlU x y H Q
def jcf:IxR X (rIx X.K):=ix_list.or<|ix_tup.or jir
def K1(lo hi)(n):(sliceBounds lo hi none n).1=((HT.sIx n 0 lo:Nat):Int)/\(sliceBounds lo hi none n).2.1=((HT.sIx n n hi:Nat):Int)/\(sliceBounds lo hi none n).2.2=1:=by
 refine⟨?_,?_,rfl⟩
 ·cases lo with
  | none=>simp[sliceBounds,HT.sIx]
  | some i=>
   simp only[sliceBounds,HT.sIx,Option.getD_none,show 1>0 by decide,if_true];by_cases h:i<0
   ·simp only[h,if_true]<;>lia
   ·simp only[h,if_false]<;>lia
 ·cases hi with
  | none=>simp[sliceBounds,HT.sIx]
  | some i=>
   simp only[sliceBounds,HT.sIx,Option.getD_none,show 1>0 by decide,if_true];by_cases h:i<0
   ·simp only[h,if_true]<;>lia
   ·simp only[h,if_false]<;>lia
def Vu(its:List Value)(lo hi):slicePick its.toArray lo hi none=((its.drop<|HT.sIx its.length 0 lo).take (HT.sIx its.length its.length hi-HT.sIx its.length 0 lo)).toArray:=by
 obtain⟨a,b,c⟩:=K1 lo hi its.toArray.size;unfold slicePick;rw[a,b,c];simp only[sliceRange_one,pick_run,N3]<;>rfl
def jlX(K:W3):V->Option Int->Option Int->Hp->VK->Prop:=λx lo hi H Q=>∃ a xs,x=.ref a/\SqL K H a xs/\∀ p,H p=none->Q (.ref p) (upd H p<|.lst<|jhP xs lo hi)
def jfl:SlR X (jlX X.K):=by
 intro f s σ H x v p t e g u Q I j hs k l h;obtain⟨a,c,rfl,m,q⟩:=h;cases j;obtain⟨n,r,i,o⟩:=I.list m;have d:=r.length;refine⟨"list",_,slot_list_getitem.lookup,i.isList.typeIs,?_⟩;refine wpAny_getItem_list_slice i.isList hs k l .none (by simp) ?_ (by rw[N3]<;>lia);rw[Vu,<- d];refine⟨.ref ↥s,_,I.laid (λb ob q=>L8 _ q) (M8 _) ?_,rfl,q _<|I.hok.fresh<|M8 _⟩;exact⟨N7 (YD c e g) o,_,0,(r.drop<|HT.sIx c.length 0 e).take (HT.sIx c.length c.length g-HT.sIx c.length 0 e),X9 _ rfl⟩
noncomputable def Ye:V->Bool
 | .non=>true
 | .bl _=>true
 | .int _=>true
 | .str _=>true
 | _=>false
noncomputable def eqV:V->V->Bool
 | .non,.non=>true
 | .bl a,.bl b=>a==b
 | .bl a,.int b=>(if a then 1 else 0)==b
 | .int a,.bl b=>a==(if b then 1 else 0)
 | .int a,.int b=>a==b
 | .str a,.str b=>a==b
 | _,_=>false
def jjQ(e:RelV y u)(c:RelV x v)(g:Ye y=true)(f:Ye x=true):SeqAt.EqAt A s u v (eqV y x):=by
 cases y with
 | non=>
  cases e;cases x with
  | non=>cases c;exact SeqAt.EqAt.same _
  | bl b=>cases c;exact SeqAt.EqAt.none_bool b
  | int b=>obtain⟨t,rfl⟩:=c;exact SeqAt.EqAt.none_int b t
  | str b=>obtain⟨t,rfl⟩:=c;exact SeqAt.EqAt.none_str b t
  | _=>exact absurd (f) M3
 | bl a=>
  cases e;cases x with
  | non=>cases c;exact SeqAt.EqAt.bool_none a
  | bl b=>cases c;exact SeqAt.EqAt.bool_bool a b
  | int b=>obtain⟨t,rfl⟩:=c;exact SeqAt.EqAt.bool_int a b t
  | str b=>obtain⟨t,rfl⟩:=c;exact SeqAt.EqAt.bool_str a b t
  | _=>exact absurd (f) M3
 | int a=>
  obtain⟨d,rfl⟩:=e;cases x with
  | non=>cases c;exact SeqAt.EqAt.int_none a d
  | bl b=>cases c;exact SeqAt.EqAt.int_bool a d b
  | int b=>obtain⟨t,rfl⟩:=c;exact SeqAt.EqAt.int_int a d b t
  | str b=>obtain⟨t,rfl⟩:=c;exact SeqAt.EqAt.int_str a d b t
  | _=>exact absurd (f) M3
 | str a=>
  obtain⟨d,rfl⟩:=e;cases x with
  | non=>cases c;exact SeqAt.EqAt.str_none a d
  | bl b=>cases c;exact SeqAt.EqAt.str_bool a d b
  | int b=>obtain⟨t,rfl⟩:=c;exact SeqAt.EqAt.str_int a d b t
  | str b=>obtain⟨t,rfl⟩:=c;exact SeqAt.EqAt.str_str a d b t
  | _=>exact absurd (f) M3
 | _=>exact absurd (g) M3
def eqU(x:V)(u:Value):Bool:=match u with
 | .none=>eqV .non x
 | .bool b=>eqV (.bl b) x
 | .int i _=>eqV (.int i) x
 | .str z _=>eqV (.str z) x
 | _=>false
def jey(r:RelV y u)(f:Ye y=true):eqU x u=eqV y x:=by
 cases y with
 | non=>cases r;rfl
 | bl b=>cases r;rfl
 | int i=>obtain⟨t,rfl⟩:=r;rfl
 | str z=>obtain⟨t,rfl⟩:=r;rfl
 | _=>exact absurd (f) M3
theorem Yn:∀{xs}{us},Vals xs us->xs.all Ye=true->us.any (eqU x)=xs.any λy=>eqV y x
 | _,_,.nil,_=>rfl
 | y::xs,u::us,.cons r t,f=>by
  rw[List.all_cons,M0] at f;rw[List.any_cons,List.any_cons,jey r f.1,Yn t f.2]
theorem qM(b:RelV x v)(c:Ye x=true):∀{xs}{us},Vals xs us->xs.all Ye=true->∀ u∈us,SeqAt.EqAt A s u v<|eqU x u
 | _,_,.nil,_=>λu a=>by cases a
 | y::xs,u::us,.cons r t,f=>λd a=>by
  rw[List.all_cons,M0] at f;rcases M4.mp a with rfl | a
  ·rw[jey r f.1];exact jjQ r b f.1 c
  ·exact qM b c t f.2 d a
def inV(x:V)(xs:List V):Bool:=xs.any λy=>eqV y x
def rIn(K:W3)(neg:Bool):R2:=λx y H Q=>∃ p xs,y=.ref p/\(SqL K H p xs\/SqT K H p xs)/\Ye x=true/\xs.all Ye=true/\Q (.bl<|if neg then !inV x xs else inV x xs) H
def jbU:OpR X (compareOp .In) (rIn X.K false):=by
 intro d s σ H x y v u Q I e g h;obtain⟨p,j,rfl,b,f,fs,q⟩:=h;cases g;rcases b with b | b
 ·obtain⟨a,r,c,i⟩:=I.list b;refine SeqAt.in_listAt (eqU x) c.isList (λw hw=>qM e f r fs w ⇑hw) ⟨.bl _,H,I,rfl,?_⟩;rw[show a.toArray.any (eqU x)=a.any (eqU x) by simp,Yn r fs];exact q
 ·obtain⟨a,r,c,i⟩:=I.tuple b;refine SeqAt.in_tupleAt (eqU x) c (λw hw=>qM e f r fs w ⇑hw) ⟨.bl _,H,I,rfl,?_⟩;rw[show a.toArray.any (eqU x)=a.any (eqU x) by simp,Yn r fs];exact q
def Ks:OpR X (compareOp .NotIn) (rIn X.K true):=by
 intro d s σ H x y v u Q I e g h;obtain⟨p,j,rfl,b,f,fs,q⟩:=h;cases g;rcases b with b | b
 ·obtain⟨a,r,c,i⟩:=I.list b;refine SeqAt.notIn_listAt (eqU x) c.isList (λw hw=>qM e f r fs w ⇑hw) ⟨.bl _,H,I,rfl,?_⟩;rw[show a.toArray.any (eqU x)=a.any (eqU x) by simp,Yn r fs];exact q
 ·obtain⟨a,r,c,i⟩:=I.tuple b;refine SeqAt.notIn_tupleAt (eqU x) c (λw hw=>qM e f r fs w ⇑hw) ⟨.bl _,H,I,rfl,?_⟩;rw[show a.toArray.any (eqU x)=a.any (eqU x) by simp,Yn r fs];exact q
def KI:qk X (.type "list") (λxs H Q=>∃ p ys,xs=[.ref p]/\(SqL X.K H p ys\/SqT X.K H p ys)/\∀ l,H l=none->Q (.ref l) (upd H l<|.lst ys)):=by
 intro d s σ H xs A Q I r h;obtain⟨p,ys,rfl,f,q⟩:=h;obtain⟨u,rfl,z⟩:=jfN r;cases z;have g:∀ a,Vals ys a->ys.length<=sizeLine->∀ i m,(∀ b y,s.heap.get? b=some y->i.get? b=some y) ->
   i.get? ↥s=some {cls:=.type "list",dict:=none,data:=.seq a.toArray m,slots:=#[]}->EP X d σ Q (.ref ↥s) {s with heap:=i}:=λa c j i m kp e=>
  ⟨.ref ↥s,_,I.laid kp (M8 _)<|show ObjOk X.prog X.w _ i _ (.lst ys) from⟨j,a,m,c,e⟩,rfl,q _<|I.hok.fresh<|M8 _⟩
 rcases f with f | f
 ·obtain⟨a,c,t,j⟩:=I.list f;have k:=c.length;obtain⟨o,v,x,n,hd⟩:=t.isList;exact call_list_seq p (.inl rfl) v x hd (g a c j) (by simp only[N3]<;>lia)
 ·obtain⟨a,c,t,j⟩:=I.tuple f;have k:=c.length;obtain⟨o,v,x,n,hd⟩:=t;exact call_list_seq p (.inr rfl) v x hd (g a c j) (by simp only[N3]<;>lia)
def Ja:qk X (.type "tuple") (λxs H Q=>∃ p ys,xs=[.ref p]/\((SqL X.K H p ys/\∀ l,H l=none->Q (.ref l) (upd H l<|.tup ys))\/(SqT X.K H p ys/\Q (.ref p) H))):=by
 intro a s σ H xs v Q I r h;obtain⟨p,ys,rfl,h⟩:=h;obtain⟨u,rfl,n⟩:=jfN r;cases n;rcases h with⟨f,q⟩ | ⟨f,q⟩
 ·obtain⟨c,g,i,j⟩:=I.list f;have k:=g.length;refine call_tuple_list i.isList (λd kp=>?_) (by simp only[N3]<;>lia);have m:Inv X a σ H {s with heap:=d}:=I.kept kp;have t:Inv X a σ (upd H d.objs.size<|.tup ys) { s with heap:=d.push {cls:=.type "tuple",data:=.seq c.toArray} }:=
   m.laid (λb o e=>L8 _ e) (M8 _) (⟨j,c,g,IsTupN.new _ _⟩)
  exact⟨.ref d.objs.size,_,t,rfl,q _<|m.hok.fresh<|M8 _⟩
 ·obtain⟨c,g,i,j⟩:=I.tuple f;exact call_tuple_same i ⟨.ref p,H,I,rfl,q⟩
def tyV(K:W3)(T:String)(x:V)(H:Hp):Prop:=match x with
 | .str _=>T = "str"
 | .int _=>T = "int"
 | .ref p=>(T = "list"/\∃ xs,SqL K H p xs)\/(T = "tuple"/\∃ o,K.lookup p=some o/\o.cls=.type "tuple"/\o.dict=none) \/
   (T = "dict"/\((∃ kvs,H p=some (.dK kvs)) \/ ∃ kvs,H p=some (.dT kvs)))\/(T = "set"/\∃ S n,H p=some (.set S n))
 | _=>False
def jeN(I:Inv X pins σ H s)(r:RelV x v)(ty:tyV X.K T x H):
  s.TypeIs v T/\∀ a,v=.ref a->∃ ob,s.heap.get? a=some ob/\ob.dict=none:=by
 cases x with
 | str z=>
  obtain⟨t,rfl⟩:=r;cases(ty);exact⟨typeIs_str s z t,λ_ e=>nomatch e⟩
 | int i=>
  obtain⟨t,rfl⟩:=r;cases(ty);exact⟨typeIs_int s i t,λ_ e=>nomatch e⟩
 | ref p=>
  cases r;rcases ty with⟨rfl,l,h⟩ | ⟨rfl,o,b,j,hd⟩ | ⟨rfl,b⟩ | ⟨rfl,S,n,b⟩
  ·obtain⟨k,_,g,_⟩:=I.list h;refine⟨g.isList.typeIs,λa e=>?_⟩;cases e;obtain⟨o,n,e,c,hd,_⟩:=g;exact⟨o,e,hd⟩
  ·refine⟨⟨o,I.kIn p o b,j⟩,λa e=>?_⟩;cases e;exact⟨o,I.kIn _ o b,hd⟩
  ·have z:∃ o,s.heap.get? p=some o/\o.ExactDict:=by
    rcases b with⟨d,b⟩ | ⟨d,b⟩
    ·obtain⟨_,_,_,_,o,_,_,e,ex,_⟩:=I.hok p _ b;exact⟨o,e,ex⟩
    ·obtain⟨_,_,_,_,o,_,_,e,ex,_⟩:=I.hok p _ b;exact⟨o,e,ex⟩
   obtain⟨o,e,ex⟩:=z;refine⟨⟨o,e,ex.1⟩,λa f=>?_⟩;cases f;exact⟨o,e,ex.2.1⟩
  ·obtain⟨o,_,_,_,e,ex,_⟩:=I.hok p _ b;refine⟨⟨o,e,ex.1⟩,λa f=>?_⟩;cases f;exact⟨o,e,ex.2.1⟩
 | _=>exact False.elim ty
def jjN(K:W3)(T:String)(r:V->List V->Hp->VK->Prop)(to:TE):TE:=λσ H Q=>to σ H λx H1=>tyV K T x H1/\r x [] H1 Q
def tBM(K:W3)(T:String)(r:V->List V->Hp->VK->Prop)(to:TE)(t:TA):TE:=λσ H Q=>to σ H λx H1=>tyV K T x H1/\t σ H1 λxs H2=>r x xs H2 Q
variable {o e:Expr}{es:List Expr}{to:TE}{t:TA}{name:Str}{apos cpos:Pos}{T id:String}{r:V->List V->Hp->VK->Prop}
def jeJ(pa:PlainAttrs T)(slot:Slot T name id)(d:typeOf (.builtin id)=pure (.type "method_descriptor"))(hm:MtR X id r)(g:PE X o to)
  (b:attributeBase o name X.env (eval o X.env)=eval o X.env:=by rfl) (c:(apos.endLine==cpos.line)=true:=by rfl):PE X (.Call (.Attribute o name apos) [] [] cpos) (jjN X.K T r to):=by
 intro a s σ H Q I h;refine wpAny_Call_method0_late b c<|thn (g a s σ H _ I h) λv i j=>?_;obtain⟨x,k,e,f,ty,l⟩:=j;obtain⟨m,n⟩:=jeN e f ty;exact⟨T,id,pa,slot,d,m,n,Calls.callWith_builtin rfl<|PySem.evalArgs_none<|hm a i σ k x [] v [] Q e f .nil l⟩
def jaW(pa:PlainAttrs T)(slot:Slot T name id)(g:typeOf (.builtin id)=pure (.type "method_descriptor"))(hm:MtR X id r)(l:PE X o to)(m:PA X (e::es) t)
  (c:attributeBase o name X.env (eval o X.env)=eval o X.env:=by rfl)
  (f:((backTo cpos<|starEach (e::es) X.env).all (λx=>!x.1)&&(backToKw cpos<|keywordEach [] X.env).all (λx=>x.1.isSome)
   && decide ((e::es).length+([]:List Keyword).length+(if([]:List Keyword).isEmpty then 0 else 1)<30))=true:=by rfl)
  (d:(apos.endLine==cpos.line)=true:=by rfl) (hs:SEq X e es:=by rfl) (b:BkE X cpos es:=by rfl):
  PE X (.Call (.Attribute o name apos) (e::es) [] cpos) (tBM X.K T r to t):=by
 intro a s σ H Q I h;refine wpAny_Call_method_late c f d rfl<|thn (l a s σ H _ I h) λv n p=>?_;obtain⟨x,q,i,j,ty,u⟩:=p;obtain⟨w,y⟩:=jeN i j ty;refine⟨T,id,pa,slot,g,w,y,?_⟩;have k:=m cpos a n σ q _ i u;rw[hs] at k ⊢;refine Calls.callWith_builtin (by show(false||(backTo cpos<|starEach es X.env).any (·.1))=false;rw[b]<;>rfl)<|Calls.evalArgs_plain ?_;exact thn k λz A ⟨vs,B,C,D,E⟩=>hm a A σ B x vs v z Q C j D E
end
def MtM(X:Cx)(id:String)(r:V->List V->Hp->VK->Prop):Prop:=
 ∀ pins s (σ:St) H x xs v us Q,Inv X pins σ H s->RelV x v->Vals xs us->r x xs H Q ->
  wpAny (model X.prog X.w) X.A (call (.builtin id)<|v::us) (EP X pins σ Q) X.xe s
def Vals.one(h:Vals [x] us):∃ u,us=[u]/\RelV x u:=by
 cases h with | cons r t=>cases t;exact⟨_,rfl,r⟩
def Vals.two(h:Vals [x,y] us):Ex2 λu v=>An3 (us=[u,v]) (RelV x u) (RelV y v):=by
 cases h with | cons r t=>cases t with | cons q t=>cases t;exact⟨_,_,rfl,r,q⟩
def Vals.zero:∀{us},Vals [] us->us=[]
 | _,.nil=>rfl
def Vals.dropLast(h:Vals xs us):Vals xs.dropLast us.dropLast:=by
 induction h with
 | nil=>exact .nil
 | cons r t a=>
  cases t with
  | nil=>exact .nil
  | cons q b=>exact .cons r a
def wN(l:List α):l.eraseIdx (l.length-1)=l.dropLast:=by
 induction l with
 | nil=>rfl
 | cons a r c=>
  cases r with
  | nil=>rfl
  | cons b r=>
   have e:(a::b::r).length-1=((b::r).length-1)+1:=by
    have d:(a::b::r).length=r.length+2:=rfl;have f:(b::r).length=r.length+1:=rfl
    lia
   rw[e,List.eraseIdx_cons_succ,c]
   all_goals rfl
section
variable {X:Cx}{pins:List (Addr×Obj)}{σ:St}{H:Hp}{s:Shared}{l b:Addr}{xs ys zs:List V}
def Inv.lset{its a:List Value}{n}{f}{t'}(I:Inv X pins σ H s)(b:H l=some (.lst xs))
  (e:s.heap.get? l=some {cls:=.type "list",data:=.seq its.toArray n}) (c:f its.toArray=a.toArray) (d:Vals ys a) (g:ys.length<=sizeLine):
  Inv X pins σ (upd H l<|.lst ys) {s with heap:=s.heap.update l<|Obj.mapSeq f,toks:=t'}:=by
 have q:=PySem.IsL.update e f;rw[c] at q;refine I.write (by rw[b];exact trivial) (.inl rfl) (λb' u h i=>(Heap.get?_update_other s.heap (Obj.mapSeq f)<|Ne.symm h).trans i) ⟨_,q⟩ ?_;exact⟨g,a,_,d,q⟩
def Inv.lnew(I:Inv X pins σ H s)(a:Vals ys its)(b:ys.length<=sizeLine):
  Inv X pins σ (upd H ↥s (.lst ys)) { s with heap:=s.heap.push {cls:=.type "list",data:=.seq its.toArray},toks:=t' }:=
 I.laid (λ_ _ q=>L8 _ q) (M8 _) ⟨b,its,0,a,X9 _ rfl⟩
def Inv.fresh(I:Inv X pins σ H s):H ↥s=none:=I.hok.fresh<|M8 _
def Inv.lstM(I:Inv X pins σ H s)(a:H l=some (.lst xs)):xs.length<=sizeLine/\∃ its n,Vals xs its/\xs.length=its.length/\s.heap.get? l=some {cls:=.type "list",data:=.seq its.toArray n}:=by
 obtain⟨z,its,n,r,e⟩:=I.hok l _ a;exact⟨z,its,n,r,r.length,e⟩
def zM(h:n<=sizeLine):Builtin.List.listTooLong n=false:=by
 exact X2 (by lia)
end
section
variable {X:Cx}
def qo:V->List V->Hp->VK->Prop:=λx vs H Q=>∃ l xs y,x=.ref l/\vs=[y]/\H l=some (.lst xs)/\xs.length<sizeLine/\Q .non (upd H l<|.lst<|xs++[y])
def qZ:MtM X "list.append" qo:=by
 intro b s σ H x vs v i Q I d f h;obtain⟨l,j,y,rfl,rfl,c,k,q⟩:=h;cases d;obtain⟨u,rfl,g⟩:=f.one;obtain⟨z,a,n,r,hl,e⟩:=I.lstM c;refine call_meets F.slot_list_append ⟨_,e,rfl⟩ F.entry_list_append (F.args_list_append_2 _ _) (PySem.list_append l a.toArray n u<|by rw[N3];lia) ⟨e,?_⟩;refine⟨.non,_,I.lset c e (by simp) (r.append<|.cons g .nil) ?_,rfl,q⟩;rw[N4,List.length_singleton]
 lia
def jlh:V->List V->Hp->VK->Prop:=λx vs H Q=>∃ l xs y,x=.ref l/\vs=[]/\H l=some (.lst xs)/\xs[xs.length-1]?=some y/\Q y (upd H l<|.lst xs.dropLast)
def jjF:MtM X "list.pop" jlh:=by
 intro d s σ H x vs v o Q I g i h;obtain⟨l,p,y,rfl,rfl,f,j,q⟩:=h;cases g;have b:=i.zero;subst b;obtain⟨z,a,n,r,hl,e⟩:=I.lstM f;obtain⟨u,k,m⟩:=r.get j;have c:a.toArray[a.toArray.size-1]?=some u:=by
  show a.toArray[a.length-1]?=some u;rw[<- Array.getElem?_toList,<- hl];exact k
 refine call_meets F.slot_list_pop ⟨_,e,rfl⟩ F.entry_list_pop (F.args_list_pop_1 _) (MeetsSeq.list_pop_last l a.toArray n u c<|by rw[N3];lia) ⟨e,?_⟩;refine⟨y,_,I.lset f e ?_ r.dropLast ?_,m,q⟩
 ·show a.toArray.eraseIdxIfInBounds (a.toArray.size-1)=a.dropLast.toArray;rw[N3,List.eraseIdxIfInBounds_toArray,wN]
 ·rw[List.length_dropLast]
  lia
def u3:V->List V->Hp->VK->Prop:=λx vs H Q=>∃ l xs,x=.ref l/\vs=[]/\H l=some (.lst xs)/\Q .non (upd H l<|.lst [])
def jcl:MtM X "list.clear" u3:=by
 intro c s σ H x vs v i Q I f g h;obtain⟨l,j,rfl,rfl,d,q⟩:=h;cases f;have a:=g.zero;subst a;obtain⟨z,b,n,r,hl,e⟩:=I.lstM d;refine call_meets F.slot_list_clear ⟨_,e,rfl⟩ F.entry_list_clear (F.args_list_clear_1 _) (AutoSeq1.list_clear_list_0 l b.toArray n<|by rw[N3];lia) ⟨e,?_⟩;exact⟨.non,_,I.lset d e rfl .nil<|U5 _,rfl,q⟩
end
end L2
namespace Att
open PySem PySem.W PySem.Calls PyProof.Rows
def Yr:∀ ns vs,WellAll P h vs (ns.map WData.int)->IntsAre vs ns:=by
 intro ns
 induction ns with
 | nil=>
  intro vs w;cases w;exact .nil
 | cons n ns c=>
  intro vs w;cases w with
  | cons a b=>
   cases a;exact .cons _ _<|c _ b
def script_of{l:OpenLaw}{n}(hn:l.most=some n)  {h}{b}{c}
  (e:l.row.toRowW.claim.pre b=true) (j:WellAll P h c b):
  ∃ a vs ns,c=[Value.ref a]/\b=[WData.list<|ns.map WData.int]/\h.get? a=some {cls:=.type "list",data:=.seq vs.toArray}/\IntsAre vs ns/\ns.length<=n:=by
 obtain⟨d,r,rfl,m,o⟩:=hasAllW_cons<|(pre_splitW e).1;obtain rfl:=hasAllW_nil o;obtain⟨t,rfl,p⟩:=hasW_list m;obtain⟨ns,rfl⟩:=items_int p;have f:ns.length<=n:=by
  have i:(WTm.not<|.lt (.lit<|.int n)<|.len<|.arg 0).holds [] {args:=[.list<|ns.map .int]}=true:=by
   have i:=(holds_andW<|(pre_splitW e).2).1;rw[hn] at i;exact i
  have k:=condW_of i<|w_not<|w_lt w_lit<|w_len_list<|w_arg rfl;refine Nat.le_of_not_lt λq=>?_
  first
   | (rw[X1 q'] at k;exact absurd k (by decide))
   | (simp at k;lia)
 cases j with
 | cons w1 w2=>
  cases w2;cases w1 with
  | list s g=>exact⟨_,_,ns,rfl,rfl,s,Yr ns _ g,f⟩
def post_true(l:OpenLaw)(a):l.row.toRowW.claim.post a (.bool true) a=true:=
 postW_of
  (by first | rfl | decide | simp[WShape.has,WShape.arms,WShape.armsAll])
  (w_eq_bool (w_res rfl) w_lit) rfl
end Att
namespace L2
open PySem PySem.Spec PyProof.Rows
theorem Kw:∀{vs}{ns},IntsAre vs ns->Vals (ns.map V.int) vs
 | _,_,.nil=>.nil
 | _,_,.cons n t h=>.cons ⟨t,rfl⟩<|Kw h
noncomputable def vW(s:Stmt)(j:Nat):Stmt:=match s with
 | .ClassDef _ _ _ body _ _ _ _ _ _ _=>body.getD j<|.Pass ⟨0,0,0,0⟩
 | _=>.Pass ⟨0,0,0,0⟩
noncomputable def vK(s:Stmt):Arguments:=match s with
 | .FunctionDef _ a _ _ _ _ _ _ _ _=>a
 | _=>{posonlyargs:=[],args:=[],vararg:=none,kwonlyargs:=[],kw_defaults:=[],kwarg:=none,defaults:=[]}
noncomputable def yp(s:Stmt):List Stmt:=match s with
 | .FunctionDef _ _ b _ _ _ _ _ _ _=>b
 | _=>[]
noncomputable def jt(s:Stmt):Scope:=match s with
 | .FunctionDef _ _ _ _ _ _ sc _ _ _=>sc
 | _=>{kind:=.function,names:=[],isGenerator:=false,isCoroutine:=false}
noncomputable abbrev CX0:CXT:=λ_ _ _ _ _ _=>False
noncomputable abbrev E0:XK:=λ_ _ _=>False
def wY:YA CX0 X E0:=λ_ _ _ _ _ _ _ h=>h.elim
structure Fun(K:W3)(x qual:Str)(st:Stmt)(f:Addr)(fd:FuncData):Prop where
 ex:∃(oc:Value) (od:Option Addr) (kV doc pm:Value) (an:Option Addr) (cdv ct:Value) (osl:Array<|Option Value),
  fd=PySem.W.fnOf x qual (vK st) (yp st) (jt st) .none kV doc pm an cdv ct/\K.lookup f=some ⟨oc,od,.func fd,osl⟩/\PySem.W.codeIn K cdv qual=true
 kp:PySem.W.keepIn K (.ref f)=true
section
variable {P:Program}{w:World}{K:W3}{mg:W5}{base:Heap}
def Fun.ok{x qual}{st}{f}{fd}{N ps}{k}{sp}(F:Fun K x qual st f fd)(S:FnScope N ps<|jt st)(len:∀ vs H Q E,sp vs H Q E->vs.length=ps.length)
  (a:∀ cdv A outer s H vs Q E,Room k (A.deeper<|envOfC qual (jt st) ↥s f cdv)->sp vs H Q E ->
   ∃ t,PSs (ug CX0 P w K mg base N qual (jt st) f cdv A outer s H E).nox (yp st) t/\t {nx:=λ_ H'=>Q .non H',rt:=Q} (start N vs) H):FnOk P w K mg base CX0 (k+1) f fd ps sp:=by
 obtain⟨oc,od,kV,d,j,l,cdv,ct,e,rfl,g,b⟩:=F.ex;refine jjT g b S len λA outer s H vs Q E i c=>?_;obtain⟨t,h,q⟩:=a cdv A outer s H vs Q E i c;exact⟨t,h.nox,q⟩
def Fun.binds{x qual}{st}{f}{fd}{ps}(F:Fun K x qual st f fd)
  (h:∀ kV doc pm an cdv ct us,us.length=ps.length->bindArgs (PySem.W.fnOf x qual (vK st) (yp st) (jt st) .none kV doc pm an cdv ct) ⟨us,[]⟩=pure (ps.zip us)):Binds K fd ps []:=by
 obtain⟨oc,od,kV,doc,pm,an,cdv,ct,a,rfl,c,b⟩:=F.ex;exact .all<|h kV doc pm an cdv ct
def Vp{x qual}{st}{f}{oc}{od an}{d}{kV b pm a ct}(l:K.lookup f=some ⟨oc,od,.func<|PySem.W.fnOf x qual (vK st) (yp st) (jt st) .none kV b pm an a ct,d⟩)
  (c:PySem.W.codeIn K a qual=true) (k:PySem.W.keepIn K (.ref f)=true):Fun K x qual st f (PySem.W.fnOf x qual (vK st) (yp st) (jt st) .none kV b pm an a ct):=⟨⟨oc,od,kV,b,pm,an,a,ct,d,rfl,l,c⟩,k⟩
end
def wD(a:Room k A):A.units+1<cLine:=E1 (Nat.add_le_add_left (by decide:1<=64) _) a.units
def jdm{A B:Prop}(h:B):if false=true then A else B:=by
 exact h
def jc9{A B:Prop}(h:A):if true=true then A else B:=by
 exact h
def KR(I:Nat->Shared->Prop)
  (turn:∀ n s,I n s->wpAny (model prog w) A (pyNext it) (λr s₁=>match r with
   | none=>R (.ok .next) s₁
   | some v=>wpAny (model prog w) A (letOwnedTupleGo target it v) (λ_ s₁'=>wpAny (model prog w) A (assign target env v) (λ_ s₂=>
     wpAny (model prog w) A (forIn ifs true λc r=>if r=true then do let ok <- isTrue c env (eval c env);pure (ForInStep.yield ok) else pure (ForInStep.yield r)) (λok s₃=>
      if ok=true then wpAny (model prog w) A (eval elt env) (λx s₄=>
       wpAny (model prog w) A (call (.builtin "list.append") [acc,x]) (λ_ s₅=>∃ m,m<n/\I m s₅) (λ_ _=>False) s₄) (λ_ _=>False) s₃
      else ∃ m,m<n/\I m s₃) (λ_ _=>False) s₂) (λ_ _=>False) s₁') (λ_ _=>False) s₁) (λ_ _=>False) s)
  (n:Nat) (h:I n s):
  codeAny (model prog w) A (.compLoop (.ListComp elt [⟨target,iter,ifs,0⟩] scope pos) 0 it acc env) R s:=by
 have a:∀{α}{t}{Q:α->Shared->Prop}{E:W0}{s},wpAny (model prog w) A t Q (λ_ _=>False) s->wpAny (model prog w) A t Q E s:=
  λh=>wpAny_mono h (λ_ _ x=>x) λ_ _ z=>z.elim
 refine codeAny_loop rfl I (λn s f=>(wpAny_noted<|L3<|wpAny_standAt<|L3<|thn (a<|turn n s f) λr s₁ d=>?_)) n h;cases r with
 | none=>exact M6 d
 | some v=>
  refine L3<|thn (a d) λ_ s₁' b=>L3<|thn (a b) λ_ s₂ g=>L3<|thn (a g) λok s₃ e=>?_;cases ok with
  | false=>exact M6 ⟨rfl,e⟩
  | true=>
   exact L3<|L3<|thn (a e) λx s₄ i=>L3<|thn (a i) λ_ s₅ j=>M6<|M6 ⟨rfl,j⟩
noncomputable def jcI(env:Env):List (Str×NameKind)->List (Str×Addr)->List (Str×Addr)
 | [],cs=>cs
 | (n,k)::r,cs=>jcI env r (if k==NameKind.free then(match env.cells.lookup n with | some a=>(n,a)::cs | none=>cs) else cs)
def Qe(scope:Scope)(env:Env):List (Str×Addr):=jcI env scope.names []
theorem jgg:∀ l cs,(∀ n k,(n,k)∈l->k=NameKind.free->∃ c,env.cells.lookup n=some c) ->
  (forIn (m:=Sem) l cs λx r=>match x with | (n,k)=>if k==NameKind.free then do let a <- cellOf env n;pure (ForInStep.yield<|(n,a)::r) else pure (ForInStep.yield r))=pure (jcI env l cs)
 | [],cs,_=>rfl
 | (n,k)::r,cs,h=>by
  rw[List.forIn_cons];by_cases b:(k==NameKind.free)=true
  ·obtain⟨c,i⟩:=h n k L7 (by lia);have j:cellOf env n=pure c:=by unfold cellOf;rw[i]
   have d:=jgg r ((n,c)::cs) λe f hm g=>h e f (L6 _ hm) g;simp only[b,if_true,j,pure_bind];rw[d]
   conv=>rhs;unfold jcI
   simp only[b,if_true,i]
  ·have d:=jgg r cs λe f hm g=>h e f (L6 _ hm) g;simp only[b,if_false,pure_bind,Bool.false_eq_true];rw[d]
   conv=>rhs;unfold jcI
   simp only[b,if_false,Bool.false_eq_true]
def x8(h:∀ n k,(n,k)∈scope.names->k=NameKind.free->∃ c,env.cells.lookup n=some c):closureFor scope env=pure (Qe scope env):=by
 unfold closureFor Qe;show(forIn scope.names [] λx r=>match x with | (n,k)=>if k==NameKind.free then do let a <- cellOf env n;pure (ForInStep.yield<|(n,a)::r) else pure (ForInStep.yield r)) >>= (pure)=_;rw[jgg scope.names [] h,pure_bind]
theorem jd8:∀ l cs,(x,c)∈jcI env l cs->(x,c)∈cs\/env.cells.lookup x=some c
 | [],_,h=>.inl h
 | (n,k)::r,cs,h=>by
  rcases jd8 r _ h with z | z
  ·grind
  ·lia
theorem jar:∀ l cs,(x,c)∈cs->(x,c)∈jcI env l cs
 | [],_,h=>h
 | (n,k)::r,cs,h=>by
  refine jar r _ ?_;split
  ·split
   ·exact L6 _ h
   ·exact h
  ·exact h
theorem jex(a:env.cells.lookup x=some c):∀ l cs,(x,NameKind.free)∈l->(x,c)∈jcI env l cs
 | [],_,h=>nomatch h
 | (n,k)::r,cs,h=>by
  rcases M4.mp h with e | e
  ·cases e;refine jar r _ ?_;simp only[ a];exact L7
  ·exact jex a r _ e
theorem qW:∀{l:List (Str×β)}{c},(x,c)∈l->∃ d,l.lookup x=some d
 | (n,a)::r,c,h=>by
  rw[List.lookup_cons];cases e:x==n with
  | true=>exact⟨a,rfl⟩
  | false=>
   rcases M4.mp h with z | z
   ·lia
   ·exact qW z
def Yy(h:(Qe scope env).lookup x=some c):env.cells.lookup x=some c:=by
 rcases jd8 scope.names [] (PySem.mem_of_lookup h) with z | z
 ·exact nomatch z
 ·exact z
def jcd(a:env.cells.lookup x=some c)(f:(x,NameKind.free)∈scope.names):(Qe scope env).lookup x=some c:=by
 obtain⟨d,e⟩:=qW<|jex a scope.names [] f;have b:(Qe scope env).lookup x=some d:=e;rw[b,<- Yy b,a]
def qp(h:(n,k)∈(relabel scope env).names):(n,k)∈scope.names\/(k=.cell/\(n,NameKind.free)∈scope.names):=by
 obtain⟨⟨a,b⟩,hm,e⟩:=M5.mp h;dsimp only at e;split at e
 ·lia
 ·lia
def vJ(scope:Scope)(env:Env)(C:Addr):List (Str×Addr):=cellsFrom (C+1) scope.names<|Qe scope env
theorem uo:∀{names}{n:Nat}{acc:List (Str×Addr)},(∀ x y c,acc.lookup x=some c->acc.lookup y=some c->x=y)->(∀ x c,acc.lookup x=some c->c<n)->∀ x y c,(cellsFrom n names acc).lookup x=some c->(cellsFrom n names acc).lookup y=some c->x=y
 | [],n,acc,h,_=>h
 | (a,k)::r,n,acc,h,b=>by
  unfold cellsFrom;split
  ·refine uo (λx y c d e=>?_)<|λx c d=>?_
   ·grind
   ·grind
  ·exact uo h b
def jj3(h:∀ x y c,(Qe scope env).lookup x=some c->(Qe scope env).lookup y=some c->x=y)(a:∀ x c,(Qe scope env).lookup x=some c->c<C+1)(x y)(c)(h1:(vJ scope env C).lookup x=some c)(h2:(vJ scope env C).lookup y=some c):x=y:=uo h a x y c h1 h2
theorem Ql:∀{names}{n}{acc},(∃ c,acc.lookup x=some c)->∃ c,(cellsFrom n names acc).lookup x=some c
 | [],_,_,h=>h
 | (a,k)::r,n,acc,h=>by
  unfold cellsFrom;split
  ·refine Ql ?_;rw[List.lookup_cons];cases x==a with
   | true=>exact⟨n,rfl⟩
   | false=>exact h
  ·exact Ql h
theorem jbT:∀{names}{n}{acc},(x,NameKind.cell)∈names->∃ c,(cellsFrom n names acc).lookup x=some c
 | [],_,_,h=>nomatch h
 | (a,k)::r,n,acc,h=>by
  unfold cellsFrom;rcases M4.mp h with e | e
  ·cases e;refine Ql ⟨n,?_⟩;rw[List.lookup_cons,beq_self_eq_true]
  ·split
   ·exact jbT e
   ·exact jbT e
def jjX(h:(x,NameKind.cell)∈scope.names):∃ c,(vJ scope env C).lookup x=some c:=jbT h
theorem zg:∀{names}{n}{acc},(x,NameKind.cell)∉names->(cellsFrom n names acc).lookup x=acc.lookup x
 | [],_,_,_=>rfl
 | (a,k)::r,n,acc,h=>by
  unfold cellsFrom;split
  ·rename_i b;have b:=eq_of_beq b;subst b;rw[zg λz=>h<|L6 _ z,List.lookup_cons];have:(x==a)=false:=U2.mpr λz=>h (by rw[z];exact L7);rw[this]
  ·exact zg λz=>h<|L6 _ z
theorem Qo:∀ names (h:Heap) acc x c,(cellsFrom h.objs.size names acc).lookup x=some c->(h.objs.size<=c/\(pushCells h names).IsCell c none)\/acc.lookup x=some c
 | [],_,_,_,_,e=>.inr e
 | (a,k)::r,h,acc,x,c,e=>by
  unfold cellsFrom at e;unfold pushCells;split at e
  ·rename_i b;rw[if_pos b];rcases Qo r (h.push {cls:=.type "cell",data:=.cell none}) ((a,h.objs.size)::acc) x c (by rw[Heap.size_push];exact e) with q | q
   ·rw[Heap.size_push] at q;exact .inl ⟨Nat.le_of_succ_le q.1,q.2⟩
   ·rw[List.lookup_cons] at q;cases e1:x==a with
    | true=>
     rw[e1] at q;cases q;exact .inl ⟨M8 _,⟨_,pushCells_keeps r _ _ _<|X9 _ rfl,rfl⟩⟩
    | false=>rw[e1] at q;exact .inr q
  ·rename_i b;rw[if_neg b];exact Qo r h acc x c e
theorem YQ:∀ l cs,(x,c)∈jcI env l cs->(x,c)∈cs\/(x,NameKind.free)∈l
 | [],_,h=>.inl h
 | (n,k)::r,cs,h=>by
  rcases YQ r _ h with z | z
  ·grind
  ·exact .inr<|L6 _ z
def jaK(h:(Qe scope env).lookup x=some c):(x,NameKind.free)∈scope.names:=by
 rcases YQ scope.names [] (PySem.mem_of_lookup h) with z | z
 ·exact nomatch z
 ·exact z
def VV 
  (h:Q (newEnv scope ↥s globals (cellsFrom (↥s+1) scope.names cl) qual none .none (some env) builtinsNs) { s with heap:=pushCells (s.heap.push {cls:=.type "dict",data:=.dict #[]}) scope.names }):
  wpAny M A (newFunctionEnv scope globals cl [] qual none .none<|some env) Q E s:=by
 simp only[newFunctionEnv,Option.isSome_some];refine L3<|wpAny_alloc ?_;refine L3<|wpAny_layCells _ (λnm a b=>by cases hq:a==NameKind.cell<;>simp[hq]) _ _ _ _ ?_;rw[Heap.size_push ..];exact L3<|M6<|M6 h
def yV(X:Cx)(scope:Scope)(N':List Str)(C:Addr)(s₃:Shared)(H₃:Hp)(fp:W4):Cx:=
 {X with N:=N',s₀:=s₃,H₀:=H₃,env:=compEnvC scope (vJ scope X.env C) C X.env,outer:=X.stack,stack:=X.stack,ex:=fp,fn:=λx=>scope.names.lookup x==some NameKind.cell,pn:=[],xe:=λ_ _=>False}
structure BlockOk(X:Cx)(scope:Scope)(N':List Str)(ix:List<|Option Nat):Prop where
 kind:scope.kind=.function
 names:∀ y∈scope.names,y.2=.local->scope.names.lookup y.1=some .local
 cells:∀ y∈scope.names,y.2=.cell->scope.names.lookup y.1=some .cell
 uniq:∀ y∈scope.names,y.2=.free->scope.names.lookup y.1=some .free
 outer:∀ y∈scope.names,y.2=.free->X.env.kindOf y.1=some .cell\/X.env.kindOf y.1=some .free
 nd:N'.Nodup
 len:ix.length=N'.length
 at_:∀(i j:Nat) (x:Str),ix[i]?=some (some j)->N'[i]?=some x->X.N[j]?=some x/\(x,NameKind.free)∈scope.names
 func:X.env.scope.kind=.function
def BlockOk.free(B:BlockOk X scope N' ix)  (h:(x,NameKind.free)∈scope.names):(vJ scope X.env C).lookup x=(Qe scope X.env).lookup x:=
 zg λz=>by
  have a:=B.cells _ z rfl;rw[B.uniq _ h rfl] at a;cases a
noncomputable def vc(ix:List<|Option Nat)(σ:St):St:=ix.map λo=>o.bind λj=>(σ[j]?).join
abbrev BW:=Nat->Nat->St->Hp->Prop
def jbz(tc:TT)(te:TE)(g:TG)(J:It)(p:Addr)(σ':St)(H1:Hp)(Q:Hp->Prop):Prop:=
 ∃ W:BW,(∃ m,W 0 m σ' H1)/\∀ i m σ2 H2,W i m σ2 H2->(J.stop i H2/\Q H2) \/
  (J.go i H2/\∀ x H3,J.yld i H2 x H3->g x σ2 H3 λσ4 H4=>tc σ4 H4 λb H5=>if b=true then
   te σ4 H5 λy H6=>∃ ys,H6 p=some (.lst ys)/\ys.length<sizeLine/\∃ m',m'<m/\W (i+1) m' σ4 (upd H6 p<|.lst<|ys++[y])
   else ∃ m',m'<m/\W (i+1) m' σ4 H5)
def jaw(wi:TI)(g:TG)(tc:TT)(te:TE)(ix:List<|Option Nat):TE:=λσ H Q=>wi σ H λJ H1=>∀ p,H1 p=none->jbz tc te g J p (vc ix σ) (upd H1 p<|.lst []) λH2=>Q (.ref p) H2
def PIf(X:Cx)(ifs:List Expr)(tc:TT):Prop:=(ifs=[]/\tc=λ_ H Q=>Q true H) \/ ∃ c,ifs=[c]/\PT X c tc
def jb3(B:BlockOk X scope N' ix)(I:Inv X pins σ H s)(h:∀ b∈fp,wv X pins H b)(n:∀ b∈fp,b < ↥s)
  (F:h₁.Ns ↥s (λ_=>none)) (E:∀ b o,s.heap.get? b=some o->h₁.get? b=some o)
  (f:∀ x c,(vJ scope X.env ↥s).lookup x=some c->(↥s+1<=c/\h₁.IsCell c none)\/(Qe scope X.env).lookup x=some c):
  Inv (yV X scope N' ↥s s H fp) [] (vc ix σ) H {s with heap:=h₁,toks:=t}:=by
 have d:∀ x c,(Qe scope X.env).lookup x=some c->X.env.cells.lookup x=some c:=λx c e=>Yy e;have G:∀ x c,X.env.cells.lookup x=some c->c < ↥s:=λx c e=>by
  obtain⟨v,o,w,_⟩:=I.cell x c e;exact N0 w
 refine⟨⟨I.ok.mod,B.kind,I.ok.glob,I.ok.blt,M8 _,jj3 (λx y c A C=>I.ok.inj x y c (d x c A)<|d y c C)<|λx c e=>Nat.lt_succ_of_lt<|G x c<|d x c e,λx J=>?_,(λx c A C=>?_),I.ok.hd,I.ok.frames,.inl rfl,λb g=>⟨N6<|n b g,λx c e=>?_⟩,
  I.bs,N7 I.ok.bsz I.sz,λb o e g=>?_,λb g z=>?_,I.stack,I.stkFree⟩,rfl,I.bare,Un.kept E,⟨_,F,λi x v A C P=>?_⟩,λx c e=>?_,I.hok.fresh<|M8 _,λx c e=>?_,(λp Q=>nomatch (Q)),I.hok.kept E,?_⟩
 ·have K:=J;have hm:(x,NameKind.free)∈scope.names\/(x,NameKind.cell)∈scope.names:=by
   rcases K with q | q
   ·rcases qp (PySem.mem_of_lookup q) with z | z
    ·lia
    ·lia
   ·rcases qp (PySem.mem_of_lookup q) with z | z
    ·lia
    ·lia
  rcases hm with hm | hm
  ·obtain⟨c,L⟩:=I.ok.has x<|B.outer _ hm rfl;exact⟨c,by show(vJ scope X.env ↥s).lookup x=some c;rw[B.free hm];exact jcd L hm⟩
  ·exact jjX hm
 ·-- the block's own cells are new
  have J:=A;rcases f x c C with⟨q,_⟩ | q
  ·exact Nat.le_of_succ_le q
  ·exfalso;have h:=jaK q;have D:=B.uniq _ h rfl;rw[eq_of_beq J] at D;cases D
 ·rcases f x c e with⟨q,_⟩ | q
  ·exact Nat.ne_of_gt<|U4 (n b g)<|Nat.le_of_succ_le q
  ·exact(h b g).2.2.2.2.1 x c (d x c q)
 ·rcases(h b g).2.2.2.1 with z | z
  ·exact I.ok.noex b o e z
  ·exact absurd (U4 (N0 e)<|N7 I.ok.bsz z)<|Nat.lt_irrefl _
 ·rcases M4.mp (I.stkSub b z) with q | q
  ·exact(h b g).2.1 q
  ·exact(h b g).2.2.1 q
 ·have a:=C;unfold vc at a;rw[List.getElem?_map] at a;cases e:ix[i]? with
  | none=>rw[e] at a;cases a
  | some o=>
   rw[e] at a;cases o with
   | none=>cases a
   | some j=>
    have N:(σ[j]?).join=some v:=X5 a;have R:σ[j]?=some (some v):=by grind
    obtain⟨S,hm⟩:=B.at_ i j x e A;have M:=B.outer _ hm rfl;obtain⟨m,T,hl⟩:=I.loc;obtain⟨u,r,l⟩:=hl j x v S R<|M.elim (λz=>.inr<|.inl z) λz=>.inr<|.inr z;refine⟨u,r,.inr ?_⟩;rcases l with⟨k,_⟩ | ⟨_,c,L,z⟩
    ·lia
    ·refine⟨?_,c,by show(vJ scope X.env ↥s).lookup x=some c;rw[B.free hm];exact jcd L hm,?_⟩
     ·rcases P with y | y | y
      ·have:=PySem.mem_of_lookup y;rcases qp this with O | O
       ·have D:=B.names _ O rfl;rw[B.uniq _ hm rfl] at D;cases D
       ·lia
      ·exact .inl y
      ·exact .inr y
     ·obtain⟨o,w,hd⟩:=z;exact⟨o,E c o w,hd⟩
 ·rcases f x c e with⟨_,q⟩ | q
  ·exact⟨none,q⟩
  ·obtain⟨v,o,w,hd⟩:=I.cell x c<|d x c q;exact⟨v,o,E c o w,hd⟩
 ·rcases f x c e with⟨q,_⟩ | q
  ·exact I.hok.fresh<|Nat.le_of_succ_le q
  ·exact I.freeC x c<|d x c q
 ·show(vc ix σ).length=N'.length;unfold vc;rw[L1,B.len]
def Inv.other(I:Inv X pins σ H s)(f:wv X pins H C)(a:Heap.SameBut C s.heap h'):Inv X pins σ H {s with heap:=h'}:=
 I.turned (a.extBut) f.1 f.2.1 f.2.2.2.1 f.2.2.2.2.1 f.2.2.2.2.2
def qB{X:Cx}{ifs:List Expr}{N':List Str}{ix:List (Option Nat)}{pins:List (Addr×Obj)}{s:Shared}{Q:Addr->Hp->Prop}{F:Option (Value->Sem Unit)}{QQ:W0}(B:BlockOk X scope N' ix)(hc:X.calm=true)(hi:PI X tg iter wi)
  (hg:∀ C s H fp,PG (yV X scope N' C s H fp) tg g) (hif:∀ C s H fp,PIf (yV X scope N' C s H fp) ifs tc) (he:∀ C s H fp,PE (yV X scope N' C s H fp) elt te)
  (hs:∀ x,foldedSetIterable iter X.env x=pure x) (I:Inv X pins σ H s)
  (h:wi σ H λJ H1=>∀ p,H1 p=none->jbz tc te g J p (vc ix σ) (upd H1 p<|.lst []) (Q p))
  (hend:∀ p C s' H',Q p H'->Inv X pins σ H' s'->wv X pins H' C->(∃ m,s'.heap.Ns C m)->compPost (model X.prog X.w) X.A X.xe F QQ (.ref p) C (.ok .next) s'):
  wpAny (model X.prog X.w) X.A (comprehension (.ListComp elt [⟨tg,iter,ifs,0⟩] scope pos) scope X.env pos' (newList []) false (eval iter X.env) F) QQ X.xe s:=by
 refine wpAny_comprehension_free rfl hs (x8 λn k hm hk=>I.ok.has n<|B.outer _ hm hk) B.kind B.names<|thn (hi pins s σ H _ I h) λv s1 h1=>thn h1 λitv a h2=>?_;obtain⟨it,fp,tn,J,M,rfl,I2,T,V,f2,h2⟩:=h2;refine wpAny_newObj_type<|VV ?_;dsimp only;have I3:Inv X pins σ (upd M ↥a (.lst [])) { a with heap:=a.heap.push {cls:=.type "list",data:=.seq ([]:List Value).toArray} }:=I2.lnew .nil<|U5 _;generalize hs3:({ a with heap:=a.heap.push {cls:=.type "list",data:=.seq ([]:List Value).toArray} }:Shared)=s3 at I3;have e3:s3.heap=a.heap.push {cls:=.type "list",data:=.seq ([]:List Value).toArray}:=by lia
 have hk3:∀ b o,a.heap.get? b=some o->s3.heap.get? b=some o:=λb o e=>by rw[e3];exact L8 _ e
 have Y:∀ b∈fp,b < ↥s3:=λb f=>by
  obtain⟨o,e,_⟩:=T.obj _ _ V b f;exact N0<|hk3 b o e
 have nep:∀ b∈fp,b≠↥a:=λb f z=>by
  obtain⟨o,e,_⟩:=T.obj _ _ V b f;exact absurd (N0 e) (by lia)
 have N:∀ b∈fp,wv X pins (upd M ↥a (.lst [])) b:=λb f=>⟨by rw[jg<|nep b f];exact(f2 b f).1,(f2 b f).2⟩;have hh₁:∃ O,O=pushCells (s3.heap.push {cls:=.type "dict",data:=.dict #[]}) scope.names:=⟨_,rfl⟩;obtain⟨O,P⟩:=hh₁;rw[<- e3,<- P];have hk4:∀ b o,s3.heap.get? b=some o->O.get? b=some o:=λb o e=>by
  rw[P];exact pushCells_keeps _ _ b o<|L8 _ e
 have hns4:O.Ns ↥s3 (λ_=>none):=by
  rw[P];exact(Heap.Ns.new s3.heap<|.type "dict").keeps (pushCells_keeps _ _)
 have R:∀ x c,(vJ scope X.env ↥s3).lookup x=some c->(↥s3+1<=c/\O.IsCell c none)\/(Qe scope X.env).lookup x=some c:=λx c e=>by
  have q:=Qo scope.names (s3.heap.push {cls:=.type "dict",data:=.dict #[]}) (Qe scope X.env) x c (by rw[Heap.size_push];exact e);rw[Heap.size_push,<- P] at q;exact q
 have I4:Inv (yV X scope N' ↥s3 s3 (upd M ↥a (.lst [])) fp) [] (vc ix σ) (upd M ↥a (.lst [])) {s3 with heap:=O,toks:=a.toks}:=jb3 B I3 N Y hns4 hk4 R;have st4:tn 0 O:=T.keep _ _ _ V λb f o e=>hk4 b o<|hk3 b o e;obtain⟨W,⟨m0,w0⟩,turn⟩:=h2 _ I2.fresh;have hg':=hg ↥s3 s3 (upd M ↥a (.lst [])) fp;have S:=hif ↥s3 s3 (upd M ↥a (.lst [])) fp;have he':=he ↥s3 s3 (upd M ↥a (.lst [])) fp;generalize j:yV X scope N' ↥s3 s3 (upd M ↥a (.lst [])) fp=X' at I4 hg' S he';have Z:X'.prog=X.prog:=by rw[<- j];rfl
 have eW:X'.w=X.w:=by rw[<- j];rfl
 have eK:X'.K=X.K:=by rw[<- j];rfl
 have eA:X'.A=X.A:=by rw[<- j];rfl
 have eC:X'.calm=true:=by rw[<- j];exact hc
 have eE:X'.env=compEnvC scope (vJ scope X.env ↥s3) ↥s3 X.env:=by rw[<- j];rfl
 have eX:X'.xe=λ_ _=>False:=by rw[<- j];rfl
 have G:∀{H':Hp},(∀ b∈fp,H' b=none)->∀ b∈fp,wv X' [] H' b:=λhn b f=>by
  refine⟨hn b f,?_,?_,?_,?_,?_⟩
  ·rw[eE];exact N6<|Y b f
  ·rw[<- j];intro z;rcases M4.mp (I3.stkSub b z) with q | q
   ·exact(N b f).2.1 q
   ·exact(N b f).2.2.1 q
  ·rw[<- j];exact .inl f
  ·rw[eE];intro x c e;rcases R x c e with⟨q,_⟩ | q
   ·exact Nat.ne_of_gt<|U4 (Y b f)<|Nat.le_of_succ_le q
   ·exact(N b f).2.2.2.2.1 x c (Yy q)
  ·rw[<- j];exact(λp hp=>nomatch (hp))
 have fin:∀{l:St}{H':Hp}{s':Shared},Inv X' [] l H' s'->Q ↥a H'->compPost (model X.prog X.w) X.A X.xe F QQ (.ref ↥a) ↥s3 (.ok .next) s':=λ{l H' s'} J q=>by
  have hL:X'.env.locals=↥s3:=by rw[eE];rfl
  have un:Un (frs X.stack) fp (upd M ↥a (.lst [])) H' s3.heap s'.heap:=by
   have z:=J.base;rw[<- j] at z;exact z
  have hos:s'.os=s3.os:=by
   have z:=J.os;rw[<- j] at z;exact z
  have hok:HOk X.prog X.w H' s'.heap:=by
   have z:=J.hok;rw[Z,eW] at z;exact z
  have fc:H' ↥s3=none:=by
   have z:=J.free;rw[hL] at z;exact z
  have I5:Inv X pins σ H' s':=by
   obtain⟨hh,gg,dd,tt,oo⟩:=s';obtain rfl:oo=s3.os:=hos;exact I3.call un hok J.bare λb f=>⟨(N b f).2.2.2.1,(N b f).2.1,(N b f).2.2.2.2.1,(N b f).2.2.2.2.2⟩
  obtain⟨m,hn,_⟩:=J.loc;rw[hL] at hn;exact hend _ _ s' H' q I5 (I3.fpOk (M8 _) fc) ⟨m,hn⟩
 have loop:∀ s',s'=({s3 with heap:=O,toks:=a.toks}:Shared)->codeAny (model X.prog X.w) X.A (.compLoop (.ListComp elt [⟨tg,iter,ifs,0⟩] scope pos) 0 (.ref it) (.ref ↥a) X'.env) (compPost (model X.prog X.w) X.A X.xe F QQ (.ref ↥a) ↥s3) s':=by
  rintro s' rfl;refine KR (λn s'=>∃ i l H',Inv X' [] l H' s'/\tn i s'.heap/\(∀ b∈fp,H' b=none)/\W i n l H') ?_ m0 ⟨0,_,_,I4,st4,λb f=>(N b f).1,w0⟩;rintro n s5 ⟨i,σ5,H5,I5,st5,fr5,w5⟩;have it5:=T.item X' Z eW eK eC i [] s5 σ5 H5 (λ_ _=>False) I5 (G fr5) st5;have dn5:=T.done X' Z eW eK eC i [] s5 σ5 H5 (λ_ _=>False) I5 (G fr5) st5;rw[eA] at it5 dn5;rcases turn i n σ5 H5 w5 with⟨stop,qn⟩ | ⟨go,step⟩
  ·refine thn (dn5 stop) λr s6 ⟨hr,I6⟩=>?_;subst hr;exact fin I6 qn
  ·refine thn (it5 go) λr s6 ⟨u,hr,h6⟩=>?_;subst hr;refine thn h6 λ_ s7 hh=>?_;obtain⟨x,H7,I7,r7,y7,st7,fr7⟩:=hh;have a7:=hg' _ s7 σ5 H7 x u _ (I7.pinned (G fr7)<|T.obj _ _ st7) r7<|step x H7 y7;rw[Z,eW,eA,eX] at a7;refine thn a7 λ_ s8 hh=>?_;obtain⟨L,H8,I8,q8⟩:=hh;have again:∀{t:Shared}{E:Hp},Inv X' ([]++YR fp s7.heap) L E t->(∃ D,D<n/\W (i+1) D L E)->∃ m,m<n/\∃ i l H',Inv X' [] l H' t/\tn i t.heap/\(∀ b∈fp,H' b=none)/\W i m l H':=λ{t E} I9 ⟨D,hm,w9⟩=>by
    refine⟨D,hm,i+1,L,E,I9.unpinned,T.keep _ _ _ st7 λb f o e=>(I9.pin (b,o)<|U3 _<|U3 _<|kR f e).1,λb f=>?_,w9⟩;obtain⟨o,e,d⟩:=T.obj _ _ st7 b f;exact(I9.pin (b,o)<|U3 _<|U3 _<|kR f e).2.1
   have qw:∀(b:Bool) (t:Shared) (E:Hp),Inv X' ([]++YR fp s7.heap) L E t->(if b=true then te L E λy H6=>∃ ys,H6 ↥a=some (.lst ys)/\ys.length<sizeLine/\∃ D,D<n/\W (i+1) D L (upd H6 ↥a (.lst<|ys++[y]))
     else ∃ D,D<n/\W (i+1) D L E) ->
     if b=true then wpAny (model X.prog X.w) X.A (eval elt X'.env) (λx s₄=>wpAny (model X.prog X.w) X.A (call (.builtin "list.append") [.ref ↥a,x]) (λ_ s₅=>∃ m,m<n/\∃ i l H',Inv X' [] l H' s₅/\tn i s₅.heap/\(∀ b∈fp,H' b=none)/\W i m l H') (λ_ _=>False) s₄) (λ_ _=>False) t
     else ∃ m,m<n/\∃ i l H',Inv X' [] l H' t/\tn i t.heap/\(∀ b∈fp,H' b=none)/\W i m l H':=λb t E I9 q9=>by
    cases b with
    | false=>
     exact again I9 q9
    | true=>
     have a9:=he' _ t L E _ I9 q9;rw[Z,eW,eA,eX] at a9;refine thn a9 λyv s10 hh=>?_;obtain⟨y,H10,I10,r10,ys,e10,l10,q10⟩:=hh;have a10:=qZ _ s10 L H10 (.ref ↥a) [y] (.ref ↥a) [yv] (λ_ H'=>∃ D,D<n/\W (i+1) D L H') I10 rfl (.cons r10 .nil) ⟨_,ys,y,rfl,rfl,e10,l10,q10⟩;rw[Z,eW,eA,eX] at a10;exact thn a10 λ_ s11 ⟨_,H11,I11,_,q11⟩=>again I11 q11
   rcases S with⟨e1,e2⟩ | ⟨c,e1,e2⟩
   ·subst e1;rw[e2] at q8;exact wpAny_tests_nil<|qw true s8 H8 I8 q8
   ·subst e1;have a8:=e2 _ s8 L H8 _ I8 q8;rw[Z,eW,eA,eX] at a8;exact wpAny_tests_one<|thn a8 λb t ⟨E,I9,q9⟩=>qw b t E I9 q9
 have U:codeAny (model X.prog X.w) X.A (.compStart (.ListComp elt [⟨tg,iter,ifs,0⟩] scope pos) 0 (.ref it) (.ref ↥a) X'.env) (compPost (model X.prog X.w) X.A X.xe F QQ (.ref ↥a) ↥s3) {s3 with heap:=O,toks:=a.toks}:=
  codeAny_compStart_list (loop _ rfl) (T.self _ 0 _ _ _ st4<|loop _ rfl)
 rw[eE] at U;subst hs3;exact U
def jgT(B:BlockOk X scope N' ix)(c:X.calm=true)(hi:PI X tg iter wi)
  (d:∀ C s H fp,PG (yV X scope N' C s H fp) tg g) (a:∀ C s H fp,PIf (yV X scope N' C s H fp) ifs tc) (e:∀ C s H fp,PE (yV X scope N' C s H fp) elt te)
  (hs:∀ x,foldedSetIterable iter X.env x=pure x:=by intro _;rfl):PE X (.ListComp elt [⟨tg,iter,ifs,0⟩] scope pos) (jaw wi g tc te ix):=by
 intro b s σ H Q I h;exact qB B c hi d a e hs I h λp C n i q j f ⟨m,k⟩=>⟨m,k,λo l=>⟨.ref p,i,j.other f l,rfl,q⟩⟩
def wt(B:BlockOk X scope N' ix)(y:X.calm=true)(hi:PI X tg iter wi)
  (A:∀ C s H fp,PG (yV X scope N' C s H fp) tg g) (b:∀ C s H fp,PIf (yV X scope N' C s H fp) ifs tc) (E:∀ C s H fp,PE (yV X scope N' C s H fp) elt te)
  (F:X.N.Nodup) (c:X.N[i]?=some x) (G:Loc X.env.scope x)
  (hsw:swapsWith (.ListComp elt [⟨tg,iter,ifs,0⟩] scope pos) (some<|.Name x pos') spos.line X.env=pure true)
  (hs:∀ x,foldedSetIterable iter X.env x=pure x:=by intro _;rfl)
  (J:X.fn x=true\/X.env.scope.names.lookup x=some .local:=by first | exact .inl rfl | exact .inr rfl | assumption):
  PS X (.Assign [.Name x pos'] (.ListComp elt [⟨tg,iter,ifs,0⟩] scope pos) spos) (jcM (jaw wi g tc te ix)<|Jj i):=by
 intro a s σ H D I h;rw[exec_Assign_Name_used _ _ _ _ hsw];refine L3<|wpAny_standAt<|L3<|L3<|thn (qB B y hi A b E hs I h λp C k l q n f ⟨m,K⟩=>?_) λ_ k L=>M6<|M6 L;obtain⟨o,M,O,P,r⟩:=id K;have hd:∀ v,o.data≠.cell v:=λv z=>by
  obtain⟨d,_⟩:=r;rw[d] at z;cases z
 have Q:Inv X (a++[(C,o)]) σ l k:=n.pins_of λt j=>by
  rcases N1.mp j with z | z
  ·exact n.pin t<|U3 _ z
  ·have e:t=(C,o):=by simpa using z
   subst e;exact⟨P,f.1,f.2.1,f.2.2.1,hd⟩
 refine wpAny_assign_Name<|VP Q F c G (v:=.ref p) rfl (λS u=>?_) J;have w:=u.pin (C,o)<|U3 _<|U3 _<|M7.mpr rfl;refine⟨m,⟨o,M,O,w.1,r⟩,λT R=>⟨_,l,(u.unpinned).other ⟨w.2.1,f.2⟩ R,q⟩⟩
noncomputable def S(l:List Nat):Str:=⟨l.toArray⟩
def qh(l):(S l).cps.toList=l:=by simp[S]
def Yp(l):(S l).length=l.length:=by simp[S,Str.length]
def jhz(h:S a=S b):a=b:=by
 rw[<- qh a,<- qh b,h]
def jk3(a b):(S a=S b)=(a=b):=propext ⟨jhz,λh=>by rw[h]⟩
def jkA(a b):S a++S b=S (a++b):=by
 apply PyProof.Rows.ext_toList;rw[PySem.W.KT.app_list,qh,qh,qh]
def jib(c):(⟨#[c]⟩:Str)=S [c]:=rfl
def yz{α:Type}(xs:List α)(lo hi:Option Int):List α:=(xs.drop<|HT.sIx xs.length 0 lo).take (HT.sIx xs.length xs.length hi-HT.sIx xs.length 0 lo)
def jhN(xs:List α)(k:Nat):yz xs none (some (k:Int))=xs.take k:=by
 unfold yz;rw[HT.sIx_none,HT.sIx_nat];simp[List.take_eq_take_iff]
def uV(lo hi)(n):Builtin.Str.strSliceIndices lo hi 1 n=(List.range<|HT.sIx n n hi-HT.sIx n 0 lo).map (HT.sIx n 0 lo+·):=by
 have a:∀ o d,(match o with | none=>d | some i=>(let i:=if i<0 then i+n else i;if 1>0 then max 0 (min i n) else max (-1) (min i<|n-1)))=((HT.sIx n d o:Nat):Int):=by
  intro o d;cases o with
  | none=>rfl
  | some v=>
   show(if 1>0 then max 0 (min (if v<0 then v+n else v) n) else _)=(((if v<0 then(v+n).toNat else min v.toNat n):Nat):Int);by_cases b:v<0
   ·lia
   ·lia
 rw[<- sliceRange_one,<- a lo 0,<- a hi n];rfl
def jfj(l)(lo hi):Txt.slice (S l) lo hi=S (yz l lo hi):=by
 have f:HT.sIx l.length l.length hi<=l.length:=HT.sIx_le _ _ (M8 _) _;have e:(Builtin.Str.strSliceIndices lo hi 1 (S l).length).filterMap ((S l).cps[·]?)=yz l lo hi:=by
  rw[Yp,uV];by_cases b:HT.sIx l.length 0 lo<=HT.sIx l.length l.length hi
  ·have c:=(StrLaws.picks l (HT.sIx l.length l.length hi-HT.sIx l.length 0 lo)<|HT.sIx l.length 0 lo) (by lia);unfold yz;rw[<- c];simp[S]
  ·have z:HT.sIx l.length l.length hi-HT.sIx l.length 0 lo=0:=by lia
   unfold yz;rw[z];simp
 unfold Txt.slice;split
 ·rename_i g;have hl:(Builtin.Str.strSliceIndices lo hi 1 (S l).length).length=(S l).length:=by lia
  rw[Yp,uV,L1,List.length_range] at hl;unfold yz;by_cases a:l.length=0
  ·have:=List.length_eq_zero_iff.mp a;subst this;simp
  ·have d:HT.sIx l.length 0 lo=0:=by lia
   rw[d,List.drop_zero,List.take_of_length_le<|by lia]
 ·rw[e];rfl
def jlS:V->Option Int->Option Int->Hp->VK->Prop:=λx lo hi H Q=>∃ l,x=.str (S l)/\l.length<=sizeLine/\Q (.str<|S<|yz l lo hi) H
def jeA(p:IsPart v o):∃ q:Option (Int×Tok),v=partValue q/\q.map (·.1)=o:=by
 cases p with
 | none=>exact⟨none,rfl,rfl⟩
 | int i t=>exact⟨some (i,t),rfl,rfl⟩
def jid:SlR X jlS:=by
 intro c s σ H x v u w a b y Q I i hs j m h;obtain⟨l,rfl,n,q⟩:=h;obtain⟨t,rfl⟩:=i;obtain⟨d,rfl,o⟩:=jeA j;obtain⟨e,rfl,p⟩:=jeA m;refine⟨"str",_,F.slot_str_getitem.lookup,typeIs_str _ _ _,wpAny_getItem_str_slice (st:=none) hs rfl ?_⟩;have f:∀ g k,EP X c σ Q (.str (Txt.slice (S l) a b) g) {s with toks:=k}:=λg k=>by
  rw[jfj l a b];exact⟨.str<|S<|yz l a b,H,I.tok k,⟨g,rfl⟩,q⟩
 have r:sliceMade (S l) t d e none=(if(1==1&&(Builtin.Str.strSliceIndices a b 1 (S l).length).length==(S l).length)=true then Made.val (.str (S l) t) else Made.str ⟨((Builtin.Str.strSliceIndices a b 1 (S l).length).filterMap ((S l).cps[·]?)).toArray⟩):=by
  unfold sliceMade slicePicked;rw[o,p];rfl
 rw[r];refine post_val_or_str ⟨?_,f⟩;exact N7 (Txt.slice_le (S l) a b) (by rw[Yp];exact n)
def Its(l:List Nat):It:=⟨λi _=>i<l.length,λi H x H'=>H'=H/\∃ c,l[i]?=some c/\x=.str (S [c]),λi _=>l.length<=i⟩
def jdj{tg}{P}{w}{K}(it)(l)(t)(ty)(g:ty = "str_ascii_iterator" \/ ty = "str_iterator")
  (W:∀ A:Around,A.handled=none->Walks P w A it [it] [it] (S l).cps.size (SignAt<|S l) (λi h=>h.IsStrIter it ty (S l) t i)):Turn P w K tg (Its l) [it] it (λi h=>h.IsStrIter it ty (S l) t i) where
 mem:=by simp
 obj:=λi h a b j=>by
  have e:b=it:=by simpa using j
  subst e;obtain⟨o,e,c,d⟩:=a;exact⟨o,e,λv z=>by rw[d] at z;cases z⟩
 keep:=λi h n a k=>by
  obtain⟨o,e,r⟩:=a;exact⟨o,k it (by simp) o e,r⟩
 item:=by
  intro X N hw O p i f s σ H E I q a F;obtain⟨x,y,Q,B,C,D⟩:=q it (by simp);have G:(S l).cps.size=l.length:=by rfl
  refine(W X.A<|I.ok.hd p).item i s _ _ (by rw[G];exact F) a λv n R T m U=>?_;obtain⟨c,u,J,rfl⟩:=T;have V:Inv X f σ H {s with heap:=n,toks:=R}:=I.turned (λb o j e=>U b o ⇑j e) x y B C D;obtain⟨o,e,ct,d⟩:=id m;refine⟨_,rfl,jbN e ct d (by rcases g with z | z<;>subst z<;>decide) ⟨.str<|S [c],H,V,⟨u,rfl⟩,⟨rfl,c,by simpa [S] using J,rfl⟩,m,λb j=>(q b j).1⟩⟩
 done:=by
  intro X N hw O p i f s σ H E I q a F;obtain⟨x,y,Q,B,C,D⟩:=q it (by simp);have M:(S l).cps[i]?=none:=by
   have:l.length<=i:=F;simp[S,this]
  rcases g with z | z
  ·subst z;exact wpAny_pyNext_ascii_end (I.ok.hd p) a M λn L=>⟨rfl,I.turned (L) x y B C D⟩
  ·subst z;exact wpAny_pyNext_wide_end (I.ok.hd p) a M λn L=>⟨rfl,I.turned (L) x y B C D⟩
 self:=λ_ _ _ _ _ a h=>by
  rcases g with z | z
  ·subst z;exact wpAny_pyIter_striter_ascii a h
  ·subst z;exact wpAny_pyIter_striter_wide a h
def ji5:OpR X (compareOp .In) (λx y H Q=>∃ c l,x=.str (S [c])/\y=.str (S l)/\Q (.bl<|decide<|c∈l) H):=by
 intro a s σ H x y v u Q I b d h;obtain⟨c,l,rfl,rfl,q⟩:=h;refine jbL a s σ H _ _ v u Q I b d ⟨_,_,rfl,rfl,?_⟩;rw[<- jib,StrLaws.found_one,qh];exact q
def jbD:OpR X (compareOp .NotIn) (λx y H Q=>∃ c l,x=.str (S [c])/\y=.str (S l)/\Q (.bl<|!decide (c∈l)) H):=by
 intro a s σ H x y v u Q I b d h;obtain⟨c,l,rfl,rfl,q⟩:=h;refine KY a s σ H _ _ v u Q I b d ⟨_,_,rfl,rfl,?_⟩;rw[<- jib,StrLaws.found_one,qh];exact q
def jfd:OpR X (binaryOp .Add) (λx y H Q=>∃ a b,x=.str (S a)/\y=.str (S b)/\a.length+b.length<=sizeLine/\Q (.str<|S<|a++b) H):=by
 intro c s σ H x y v u Q I d e h;obtain⟨a,b,rfl,rfl,f,q⟩:=h;refine w8 c s σ H _ _ v u Q I d e ⟨_,_,rfl,rfl,by rw[Yp,Yp];exact f,?_⟩;rw[jkA];exact q
def jhl:OpR X (binaryOp .Mult) (rI (λi j=>Builtin.Int.intBits i<=2 ^ 20/\Builtin.Int.intBits j<=2 ^ 20) λi j=>.int<|i*j):=opI λ_ _ _ _ _ _ _ a q=>mul_int q<|IntMulOk.of_bits a.1 a.2
def wI(h:i.natAbs<2 ^ m)(hm:m<=2 ^ 20):Builtin.Int.intBits i<=2 ^ 20:=N7 (PySem.intBits_le_iff.mpr h) hm
def Yo{A}{bs:List Bool}{its}(r:Vals (bs.map V.bl) its):TruthOf P w A (λi v=>its.toArray[i]?=some v) (λi=>bs.getD i false):=by
 intro i v s Q E c d;have a:its[i]?=some v:=by simpa using c
 have g:=(L9.mp a).1;have hl:=r.length;rw[L1] at hl;have e:(bs.map V.bl)[i]?=some (V.bl<|bs.getD i false):=by grind
 obtain⟨u,b,f⟩:=r.get e;rw[a] at b;cases b;cases f;exact M6 d
def jce:∀(bs:List Bool),(List.range bs.length).all (λi=>bs.getD i false)=bs.all (λb=>b):=by
 intro bs;rw[Bool.eq_iff_iff,List.all_eq_true,List.all_eq_true];constructor
 ·intro h b d;obtain⟨i,c,e⟩:=List.mem_iff_getElem.mp d;have:=h i<|List.mem_range.mpr c;rw[List.getD_eq_getElem?_getD,X7 c,e] at this;exact this
 ·intro h i c;have a:=List.mem_range.mp c;rw[List.getD_eq_getElem?_getD,X7 a];exact h _<|List.getElem_mem a
def uJ:∀(bs:List Bool),(List.range bs.length).any (λi=>bs.getD i false)=bs.any (λb=>b):=by
 intro bs;rw[Bool.eq_iff_iff,List.any_eq_true,List.any_eq_true];constructor
 ·rintro⟨i,c,h⟩;have a:=List.mem_range.mp c;rw[List.getD_eq_getElem?_getD,X7 a] at h;exact⟨_,List.getElem_mem a,h⟩
 ·rintro⟨b,d,h⟩;obtain⟨i,c,e⟩:=List.mem_iff_getElem.mp d;refine⟨i,List.mem_range.mpr c,?_⟩;rw[List.getD_eq_getElem?_getD,X7 c,e];exact h
def xT(j:X.calm=true):qk X (.builtin "all") (λxs H Q=>∃(p:Addr) (bs:List Bool),xs=[.ref p]/\SqL X.K H p (bs.map V.bl)/\Q (.bl<|bs.all λb=>b) H):=by
 intro f s σ H xs v Q I r h;obtain⟨p,bs,rfl,k,q⟩:=h;obtain⟨u,rfl,l⟩:=r.one;cases l;obtain⟨a,g,c,w⟩:=I.list k;have d:p < ↥s:=by
  obtain⟨o,n,e,_⟩:=c;exact N0 e
 have hl:=g.length;rw[L1] at hl;refine call_all_walk<|wpAny_pyIter_list c.isList ⟨↥s,_,_,_,_,_,λi=>bs.getD i false,rfl,Walks.list (by exact I.ok.hd j) ↥s p (N6 d) a.toArray,⟨⟨_,X9 _ rfl,rfl,rfl⟩,?_⟩,Yo g,λx y m=>?_⟩
 ·obtain⟨o,e,r⟩:=c.isList;exact⟨o,L8 _ e,r⟩
 ·rw[N3,<- hl,jce];refine⟨.bl<|bs.all λb=>b,H,I.kept λb o e=>m b o ?_<|L8 _ e,rfl,q⟩;intro t;have:b=↥s:=by simpa using t
  exact absurd (N0 e) (by lia)
def zJ(j:X.calm=true):qk X (.builtin "any") (λxs H Q=>∃(p:Addr) (bs:List Bool),xs=[.ref p]/\SqL X.K H p (bs.map V.bl)/\Q (.bl<|bs.any λb=>b) H):=by
 intro f s σ H xs v Q I r h;obtain⟨p,bs,rfl,k,q⟩:=h;obtain⟨u,rfl,l⟩:=r.one;cases l;obtain⟨a,g,c,w⟩:=I.list k;have d:p < ↥s:=by
  obtain⟨o,n,e,_⟩:=c;exact N0 e
 have hl:=g.length;rw[L1] at hl;refine call_any_walk<|wpAny_pyIter_list c.isList ⟨↥s,_,_,_,_,_,λi=>bs.getD i false,rfl,Walks.list (by exact I.ok.hd j) ↥s p (N6 d) a.toArray,⟨⟨_,X9 _ rfl,rfl,rfl⟩,?_⟩,Yo g,λx y m=>?_⟩
 ·obtain⟨o,e,r⟩:=c.isList;exact⟨o,L8 _ e,r⟩
 ·rw[N3,<- hl,uJ];refine⟨.bl<|bs.any λb=>b,H,I.kept λb o e=>m b o ?_<|L8 _ e,rfl,q⟩;intro t;have:b=↥s:=by simpa using t
  exact absurd (N0 e) (by lia)
def SqX(K:W3)(H:Hp)(a:Addr)(xs:List V):Prop:=
 Rd H a (.lst xs) \/ ∃ its n,K.lookup a=some {cls:=.type "list",data:=.seq its n}/\its.size<=sizeLine/\Vals xs its.toList
def SqX.sq{K}{H}{a}{xs}(h:SqX K H a xs):SqL K H a xs:=by
 rcases h with h | ⟨b,n,c,d,r⟩
 ·exact .inl h
 ·exact .inr ⟨_,b,n,c,rfl,rfl,rfl,d,r⟩
def SqX.of{K}{H}{a}{xs}(h:H a=some (.lst xs)):SqX K H a xs:=.inl<|.inl h
def Inv.listX(I:Inv X pins σ H s)(h:SqX X.K H a xs):Ex2 λits n=>An3 (Vals xs its) (s.heap.get? a=some {cls:=.type "list",data:=.seq its.toArray n}) (xs.length<=sizeLine):=by
 rcases h with h | ⟨its,n,b,c,r⟩
 ·obtain⟨z,its,n,r,e⟩:=h.ok I.hok;exact⟨its,n,r,e,z⟩
 ·refine⟨its.toList,n,r,by simpa using I.kIn a _ b,?_⟩;have e:=r.length;simp only[Array.length_toList] at e
  lia
def jiL(K:W3):R2:=λx y H Q=>∃ l b xs zs,x=.ref l/\y=.ref b/\SqX K H l xs/\SqX K H b zs/\xs.length+zs.length<=sizeLine/\∀ p,H p=none->Q (.ref p) (upd H p<|.lst<|xs++zs)
def jhA:OpR X (binaryOp .Add) (jiL X.K):=by
 intro d s σ H x y v u Q I g i h;obtain⟨l,b,t,w,rfl,rfl,j,k,z,q⟩:=h;cases g;cases i;obtain⟨c,n,r,e,_⟩:=I.listX j;obtain⟨a,A,f,m,_⟩:=I.listX k;have hl:=r.length;have o:=f.length;refine PySem.P.add_list e m ?_ (by rw[N3,N3];lia);have p:c.toArray++a.toArray=(c++a).toArray:=by simp
 rw[p];exact⟨.ref _,_,I.lnew (r.append f)<|by rw[N4];lia,rfl,q _ I.fresh⟩
def Q4{ns:List Int}(h:PySem.W.WData.layableAll [PySem.W.WData.list<|ns.map PySem.W.WData.int]=true):∀ x∈ns,Builtin.Int.intBits x<=2 ^ 20:=by
 intro x c;have e:PySem.W.ofPy (.list<|ns.map .int)=PySem.W.WData.list (ns.map PySem.W.WData.int):=by
  have f:∀ a:List Int,PySem.W.ofPys (a.map PyData.int)=a.map PySem.W.WData.int:=by
   intro a
   induction a with
   | nil=>rfl
   | cons m a g=>simp[PySem.W.ofPys,PySem.W.ofPy,g]
  simp[PySem.W.ofPy,f]
 have b:=PySem.W.lay0_ofPy (s:=.list .int) (d:=.list<|ns.map .int) rfl (by simp[Shape.has]) (by rw[e];exact((PySem.W.layW_cons h).1));have i:PyData.layable0 (.list<|ns.map .int)=true:=by
  simp[PyData.layableAll0] at b;exact b
 exact PyData.bits_item_of_ints i c
noncomputable def V1(sc:Scope)(N:List Str)(scope:Scope)(N':List Str)(ix:List<|Option Nat):Bool:=
 decide (scope.kind=.function)&&decide (sc.kind=.function)&&scope.names.all (λy=>!decide (y.2=.cell)||decide (scope.names.lookup y.1=some .cell))&&scope.names.all (λy=>!decide (y.2=.local)||decide (scope.names.lookup y.1=some .local)) &&
 scope.names.all (λy=>!decide (y.2=.free)||(decide (scope.names.lookup y.1=some .free)&&(decide (sc.names.lookup y.1=some .cell)||decide (sc.names.lookup y.1=some .free))))&&decide N'.Nodup&&decide (ix.length=N'.length) &&
 (List.range ix.length).all (λi=>match ix[i]? with | some (some j)=>(match N'[i]? with | some x=>decide (N[j]?=some x)&&decide ((x,NameKind.free)∈scope.names) | none=>true) | _=>true)
def jfh{X}{scope}{N'}{ix}(b)(N)(h1:X.env.scope=b)(h2:X.N=N)(h:V1 b N scope N' ix=true):BlockOk X scope N' ix:=by
 subst h1;subst h2;unfold V1 at h;simp only[M0,decide_eq_true_eq,List.all_eq_true,Bool.or_eq_true,Bool.not_eq_true',decide_eq_false_iff_not] at h;obtain⟨⟨⟨⟨⟨⟨⟨d,f⟩,g⟩,k⟩,c⟩,l⟩,m⟩,n⟩:=h;refine⟨d,λy a e=>((k y a).elim (absurd e) id),λy a e=>((g y a).elim (absurd e) id),λy a e=>((c y a).elim (absurd e) λz=>z.1),λy a e=>((c y a).elim (absurd e) λz=>z.2),l,m,λi j x h1 h2=>?_,f⟩
 ·have o:=(L9.mp h1).1;have z:=n i<|List.mem_range.mpr o;rw[h1,h2] at z;simp only[M0,decide_eq_true_eq] at z;exact z
structure FnFact(K:W3)(mg:W5)(x qual:Str)(st:Stmt)(f:Addr)(fd:FuncData)(ps:List Str):Prop where
 fn:Fun K x qual st f fd
 mgf:mg x=some (.ref f)
 bd:Binds K fd ps []
section
variable {X:Cx}{k:Nat}{f:Addr}{fd:FuncData}{ps:List Str}{sp:Sp}{x qual:Str}{st:Stmt}{p pos:Pos}{e:Expr}{es:List Expr}{t:TA}
def jds(F:FnFact X.K X.mg x qual st f fd ps)(G:FnOk X.prog X.w X.K X.mg X.base CX0 k f fd ps sp)(c:Room k X.A)(d:PA X (e::es) t)(g:Gl X x:=by rfl)(a:Nd x:=by decide)
  (h:SEq X e es:=by rfl) (b:BkE X pos es:=by rfl):PE X (.Call (.Name x p) (e::es) [] pos) (JA sp [] E0 t):=
 jgj G c g F.mgf F.fn.kp F.bd .nil wY d a h b
end
def jhh:OpR X (binaryOp .Mult) (λx y H Q=>∃ a n,x=.str (S a)/\y=.int n/\a.length<=1000/\0<=n/\n<=1000/\Q (.str<|S (List.replicate n.toNat a).flatten) H):=by
 intro f s σ H x y v u Q I g i h;obtain⟨a,n,rfl,rfl,j,r,l,q⟩:=h;obtain⟨k,rfl⟩:∃ k:Nat,n=k:=⟨n.toNat,by lia⟩;have m:k<=1000:=by lia
 obtain⟨t,rfl⟩:=g;obtain⟨o,rfl⟩:=i;have hok:MulOk (S a) k:=by
  refine⟨by simp;lia,λd c=>?_,λd c=>?_⟩
  ·rw[Yp];have w:1000<=(2 ^ 63-1)/(k:Int):=by
    rw[Int.le_ediv_iff_mul_le<|by lia]
    lia
   lia
  ·rw[Yp,N8];have A:a.length*k<=sizeLine:=N7 (Nat.mul_le_mul j m) (by decide);exact X2 (by lia)
 have e:Txt.mul (S a) k=S (List.replicate k a).flatten:=by
  have fl:∀ n b,((List.replicate n a.toArray).foldl (·++·) b).toList=b.toList++(List.replicate n a).flatten:=by
   intro n
   induction n with
   | zero=>intro b;simp
   | succ n p=>intro b;rw[List.replicate_succ,X0,p];simp[List.replicate_succ]
  unfold Txt.mul;apply PyProof.Rows.ext_toList;rw[qh];by_cases d:(k:Int)<1
  ·have:k=0:=by lia
   subst this;simp[Str.empty]
  ·rw[if_neg d];by_cases c:((k:Int)==1||(S a).length==0)=true
   ·rw[if_pos c,qh];rw[Yp] at c;simp at c;rcases c with z | z
    ·have:k=1:=by lia
     subst this;simp
    ·subst z;simp
   ·rw[if_neg c,N8];exact(fl k #[])
 refine SB.mul hok λo B=>?_;rw[e];exact⟨.str _,H,I.tok _,⟨_,rfl⟩,q⟩
section
variable {X:Cx}{pins:List (Addr×Obj)}{σ:St}{H:Hp}{s:Shared}{h':Heap}
def Inv.turnedNew{t'}{wr:W4}{T:Addr}{xs}{its}(I:Inv X pins σ H s)(k:∀ b o,b∉wr->s.heap.get? b=some o->h'.get? b=some o)(g:∀ b∈wr,wv X pins H b)
  (h:↥s<=T) (j:IsTupN h' T its) (l:Vals xs its.toList) (p:xs.length<=sizeLine):Inv X pins σ (upd H T<|.tup xs) {s with heap:=h',toks:=t'}:=by
 have i:∀ b u,H b=some u->b∉wr:=λb u e z=>by rw[(g b z).1] at e;cases e
 have d:∀ b u,H b=some u->b≠T:=λb u e z=>by rw[z,I.hok.fresh h] at e;cases e
 refine I.step (λb f=>?_) (λb o _ _ a e _=>k b o a e) (λb o _ _ a e _=>⟨o.slots,k b o a e⟩) (λb o _ e n=>?_)
  (λb o a e=>⟨o,k b o a e⟩) (λb t e=>by rw[jg<|d b _ e];exact e) (λb o u e=>by rw[jg<|d b _ e];exact e) (λb ps e=>⟨#[],by rw[jg<|d b _ e,e];simp⟩) (λm hm=>?_) (λb u e=>?_) I.bare
 ·obtain⟨_,w,_,x,y,A⟩:=g b f;exact⟨x,w,y,A⟩
 ·rw[jg<|λz=>absurd (N0 e)<|by rw[z];exact Nat.not_lt.mpr h];exact n
 ·obtain⟨o,B,C,D,r⟩:=hm;refine⟨o,B,C,k _ o (λz=>(g _ z).2.1 rfl) D,r⟩
 ·by_cases f:b=T
  ·subst f;rw[jk] at e;cases e;exact⟨p,its.toList,l,by simpa using j⟩
  ·rw[jg f] at e;refine(I.hok b u e).stay (λc v a q=>k c v ?_ q) (λc q=>by rw[jg<|d c _ q];exact q) λc t q=>by rw[jg<|d c _ q];exact q
   rcases a with z | z
   ·rw[z];exact i b u e
   ·exact i c _ z
def Inv.turnedL{t'}{wr:W4}(I:Inv X pins σ H s)(k:∀ b o,b∉wr->s.heap.get? b=some o->h'.get? b=some o)(d:∀ b∈wr,wv X pins H b):Inv X pins σ H {s with heap:=h',toks:=t'}:=by
 have f:∀ b u,H b=some u->b∉wr:=λb u e z=>by rw[(d b z).1] at e;cases e
 refine I.step (λb g=>?_) (λb o _ _ a e _=>k b o a e) (λb o _ _ a e _=>⟨o.slots,k b o a e⟩) (λb o _ e n=>n)
  (λb o a e=>⟨o,k b o a e⟩) (λb x e=>e) (λb o u e=>e) (λb ps e=>⟨#[],by rw[e];simp⟩) (λm hm=>?_) (λb u e=>?_) I.bare
 ·obtain⟨_,h,_,i,j,l⟩:=d b g;exact⟨i,h,j,l⟩
 ·obtain⟨o,p,t,w,r⟩:=hm;refine⟨o,p,t,k _ o (λz=>(d _ z).2.1 rfl) w,r⟩
 ·refine(I.hok b u e).stay (λc v a q=>k c v ?_ q) (λ_ q=>q) λ_ _ q=>q;rcases a with z | z
  ·rw[z];exact f b u e
  ·exact f c _ z
end
def jgY{A}{E}{s:Shared}{i}{n}{us}{C:W0}
  (h:IsEnum s.heap e it n was) (hi:s.heap.IsListIter it l i) (hl:s.heap.IsList l us) (I:us[i]?=some x) (ne:e≠it)
  (go:∀ k,IsEnumOut k e it (n+1) x ↥s->k.IsListIter it l (i+1)->k.get? ↥s=some {cls:=.type "tuple",data:=.seq #[.int n s.toks,x]} ->
   (∀ b o,b≠e->b≠it->s.heap.get? b=some o->k.get? b=some o)->C (.ref ↥s) {s with heap:=k,toks:=s.toks+1}):
  wpAny (model prog w) A (Builtin.«enumerate.__next__» ⟨[.ref e],[]⟩) (λfin s'=>∃ v,fin=.done (.ret v)/\C v s') E s:=by
 obtain⟨j,g,d,c,os⟩:=s;show wpAny _ _ (field (.ref e) 2 >>= _) _ _ _;refine L3<|U6 h rfl rfl<|L3<|wpAny_nextOf_list_item hi hl I λT J m=>?_;have p:=(m.2 e ne).trans h;refine L3<|U6 p rfl rfl<|L3<|U6 p rfl rfl<|L3<|wpAny_mkInt<|L3<|wpAny_setField_rec p (by simp) λU K q=>(L3<|wpAny_setField_rec K (by simp) λt L u=>(L3<|wpAny_newTuple ?_));have f:IsEnum (t.push {cls:=.type "tuple",data:=.seq #[.int n c,x]}) e it (n+1) was:=L8 _ L;generalize y:t.push {cls:=.type "tuple",data:=.seq #[.int n c,x]}=k4 at f;have H:t.objs.size=j.objs.size:=by rw[u.1,q.1,m.1]
 have lt:=N0 h;have M:k4.get? j.objs.size=some {cls:=.type "tuple",data:=.seq #[.int n c,x]}:=by rw[<- y,<- H];exact X9 _ rfl
 have kp:∀ b o,b≠e->b≠it->j.get? b=some o->k4.get? b=some o:=λb o a z B=>by
  rw[<- y];exact L8 _<|u.extBut b o a<|q.extBut b o a<|m.extBut b o z B
 have N:k4.IsListIter it l (i+1):=by
  rw[<- y];obtain⟨o,O,r⟩:=(J.extBut q.extBut ne.symm).extBut u.extBut ne.symm;exact⟨o,L8 _ O,r⟩
 show wpAny _ _ (Builtin.SmallTypes.ownedTupleIsFree (.ref e) >>= _) _ _ ⟨k4,g,d,c+1,os⟩;rw[H];refine L3<|L3<|U6 f rfl rfl<|M6<|L3<|wpAny_rule<|L3<|U6 f rfl rfl<|L3<|wpAny_setField_rec f (by simp) λV P D=>(L3<|L3<|wpAny_setField_rec P (by simp) λW Q F=>(wpAny_setField_rec Q (by simp) λR S G=>(L3<|wpAny_letGo<|M6 ⟨_,rfl,go R S (((N.extBut D.extBut ne.symm).extBut F.extBut ne.symm).extBut G.extBut ne.symm) (G.extBut _ _ (Nat.ne_of_gt lt)<|F.extBut _ _ (Nat.ne_of_gt lt)<|D.extBut _ _ (Nat.ne_of_gt lt) M)<|λb o a z B=>G.extBut b o a<|F.extBut b o a<|D.extBut b o a<|kp b o a z B⟩)))
def jha 
  (a:IsEnum s.heap e it n was) (hi:s.heap.IsListIter it l i) (hl:s.heap.IsList l us) (c:us[i]?=some x) (ne:e≠it)
  (go:∀ k,IsEnumOut k e it (n+1) x ↥s->k.IsListIter it l (i+1)->k.get? ↥s=some {cls:=.type "tuple",data:=.seq #[.int n s.toks,x]} ->
   (∀ b o,b≠e->b≠it->s.heap.get? b=some o->k.get? b=some o)->C (some<|.ref ↥s) {s with heap:=k,toks:=s.toks+1}):wpAny (model prog w) A (pyNext<|.ref e) C E s:=by
 have ty:s.TypeIs (.ref e) "enumerate":=⟨_,a,rfl⟩;exact L3<|wpAny_attempt<|wpAny_callSpecial?_slot ty F.slot_enumerate_next<|wpAny_call_entry F.slot_enumerate_next ty F.entry_enumerate_next (jgY a hi hl c ne λk c1 d c3 f=>M6<|go k c1 d c3 f)<|F.args_enumerate_next_1 _
def jgV(d:A.handled=none)
  (c:IsEnum s.heap e it n was) (hi:s.heap.IsListIter it l i) (hl:s.heap.IsList l us) (a:us[i]?=none)
  (go:∀ k,Heap.ExtBut it s.heap k->C none {s with heap:=k}):wpAny (model prog w) A (pyNext<|.ref e) C E s:=by
 have ty:s.TypeIs (.ref e) "enumerate":=⟨_,c,rfl⟩;refine L3<|wpAny_attempt<|wpAny_callSpecial?_slot ty F.slot_enumerate_next<|wpAny_call_entry F.slot_enumerate_next ty F.entry_enumerate_next ?_<|F.args_enumerate_next_1 _;show wpAny _ _ (field (.ref e) 2 >>= _) _ _ _;refine L3<|U6 c rfl rfl<|L3<|wpAny_nextOf_list_end d hi hl a λk x b a=>?_;obtain⟨o,f,g⟩:=a;exact L3<|wpAny_isInstance ⟨o,f,g⟩ isSubtype_stop<|M6<|go _ b
def Itn(K:W3)(l:Addr)(n:Int):It:=
 ⟨λi H=>∃ xs x,SqL K H l xs/\xs[i]?=some x,λi H x H'=>∃ p v,(∀ xs,SqL K H l xs->xs[i]?=some v)/\x=.ref p/\H p=none/\H'=upd H p (.tup [.int<|n+i,v]),λi H=>∃ xs,SqL K H l xs/\xs.length<=i⟩
def jga{P}{w}{K}{t}{m}{pos}(e it l)(n)(y:e≠it)(Y:l≠e)(Z:l≠it):
  Turn P w K (.Tuple t m pos) (Itn K l n) [e,it] e (λi h=>(∃ old,IsEnum h e it (n+i) old)/\h.IsListIter it l i) where
 mem:=by simp
 obj:=λi h c b d=>by
  obtain⟨⟨old,f⟩,o,G,J,hd⟩:=c;rcases(⇑d:b=e\/b=it) with z | z
  ·subst z;exact⟨_,f,λv q=>by cases q⟩
  ·subst z;exact⟨o,G,λv q=>by rw[hd] at q;cases q⟩
 keep:=λi h h' c k=>by
  obtain⟨⟨old,f⟩,a⟩:=c;exact⟨⟨old,k e (by simp) _ f⟩,a.at<|k it<|by simp⟩
 item:=by
  intro X L hw M J i A s σ H E I D c N;subst L hw M;obtain⟨V,x,F,O⟩:=N;obtain⟨Q,R,p,hz⟩:=I.list F;obtain⟨u,hu,ru⟩:=R.get O;obtain⟨⟨old,f⟩,a⟩:=c;refine jha f a p.isList ⇑hu y λh1 G B hT hk=>⟨_,rfl,wpAny_letOwnedTupleGo_enum G λW S j=>?_⟩;have g:=N0 f;have C:=(j.2 _<|Nat.ne_of_gt g).trans hT;have kk:∀ b o,b∉[e,it]->s.heap.get? b=some o->W.get? b=some o:=λb o d q=>by
   have r:b≠e/\b≠it:=by simpa using d
   exact(j.2 b r.1).trans (hk b o r.1 r.2 q)
  have I1:=I.turnedNew (t':=s.toks+1) (xs:=[.int<|n+i,x]) kk D (M8 _) ⟨⟨_,C,rfl,_,rfl⟩,_,C,rfl⟩ (.cons ⟨_,rfl⟩<|.cons ru .nil) (by show 2<=sizeLine;decide);have T:IsEnum W e it (n+((i+1:Nat):Int)) u:=by
   have q:=S;rw[show n+((i+1:Nat):Int)=n+i+1 by lia];exact q
  refine⟨.ref ↥s,_,I1,rfl,⟨_,x,(λys hy=>by rw[I.list_inj hy F];exact O),rfl,I.hok.fresh<|M8 _,rfl⟩,⟨⟨_,T⟩,B.at λo q=>(j.2 it y.symm).trans q⟩,λb d=>?_⟩;rw[jg]
  ·exact(D b d).1
  ·intro z;have:b < ↥s:=by
    obtain⟨oi,U,_⟩:=id a;rcases(⇑d:b=e\/b=it) with q | q
    ·rw[q];exact g
    ·rw[q];exact N0 U
   exact absurd this (by rw[z];exact Nat.lt_irrefl _)
 done:=by
  intro X L hw M J i A s σ H E I D c N;subst L hw M;obtain⟨V,F,O⟩:=N;obtain⟨Q,R,p,hz⟩:=I.list F;obtain⟨⟨old,f⟩,a⟩:=c;have hl:=R.length;exact jgV (I.ok.hd J) f a p.isList (by simp;lia) λh1 eb=>⟨rfl,I.turnedL (λb o d q=>eb b o (by simp at d;exact d.2) q) D⟩
 self:=λ_ _ _ _ _ c h=>wpAny_pyIter_enum c.1.choose_spec h
def jg7(K:W3)(tl:TA):TI:=λσ H R=>tl σ H λvs H1=>∃ a xs,vs=[.ref a]/\SqL K H1 a xs/\R (Itn K a 0) H1
section
variable {X:Cx}
def jgq{f}{n}{tpos p pos}{a}{ta}(v:Gl X "enumerate")(hm:X.mg "enumerate" = none)(w:PA X [a] ta)(hs:starEach [a] X.env=[(false,eval a X.env)]:=by rfl):
  PI X (.Tuple f n tpos) (.Call (.Name "enumerate" p) [a] [] pos) (jg7 X.K ta):=by
 intro c s σ H R I h;refine Call_<|qU I v hm (show bootBuiltins "enumerate" = some (.type "enumerate") by decide +kernel)<|PyProof.Rows.callWith_type1 (thn (w pos c s σ H _ I h) λL d ⟨vs,m,j,x,y⟩=>?_) hs rfl;obtain⟨l,M,rfl,A,q⟩:=y;obtain⟨u,rfl,B⟩:=x.one;cases B;obtain⟨C,N,r,O⟩:=j.list A;have g:l < ↥d:=by
  obtain⟨o,_,e,_⟩:=r;exact N0 e
 refine call_enumerate_list r.isList λD t k E F=>?_;have G:Inv X c σ m {d with heap:=D}:=j.kept F;refine PySem.wpAny_pyIter_enum t ⟨↥d+1,[↥d+1,↥d],_,_,m,rfl,G,jga _ _ l 0 (Nat.succ_ne_self _) (N6<|Nat.lt_succ_of_lt g)<|N6 g,⟨⟨_,by simpa using t⟩,k⟩,λb J=>?_,q⟩;have i:↥d<=b:=by
  rcases(⇑J:b=↥d+1\/b=↥d) with z | z
  ·rw[z];exact Nat.le_succ _
  ·rw[z];exact M8 _
 exact j.fpOk i<|j.hok.fresh i
end
def jcz(n a l2:Nat)(h1:a<n)(h2:l2<n):ZipApart (n+4) (n+2) (n+3) n (n+1) a l2:=by
 constructor<;>(show @Ne Nat _ _)<;>lia
section
variable {X:Cx}
def Kj(e:X.calm=true):qk X (.builtin "sum") (λxs H Q=>∃(p:Addr) (ns:List Int),xs=[.ref p]/\SqL X.K H p (ns.map V.int)/\Q (.int ns.sum) H):=by
 intro b s σ H xs o Q I r h;obtain⟨p,ns,rfl,f,q⟩:=h;obtain⟨u,rfl,g⟩:=r.one;cases g;obtain⟨i,j,k,t⟩:=I.list f;have c:=ua j;obtain⟨a,d⟩:=c.allInts.items;refine sum_intListG (I.ok.hd e) (d▸k.isList) λv w x l=>?_;have m:ns=a.toList.map (·.1):=by
  rw[<- nums_intItems,<- d];exact(c.numsOf).symm
 have n:preSum (numAt a) a.size=ns.sum:=by
  rw[preSum_eq,List.take_of_length_le<|by simp,m]
 rw[n];exact⟨.int ns.sum,H,I.kept l,⟨_,rfl⟩,q⟩
inductive TyQ (K:W3) (H:Hp):V->String->Prop where
 | non:TyQ K H .non "NoneType"
 | bl (x:Bool):TyQ K H (.bl x) "bool"
 | int (i:Int):TyQ K H (.int i) "int"
 | str (x:Str):TyQ K H (.str x) "str"
 | lst {a:Addr}{xs:List V}(e:SqL K H a xs):TyQ K H (.ref a) "list"
 | tup {a:Addr}{xs:List V}(e:SqT K H a xs):TyQ K H (.ref a) "tuple"
 | dK {a:Addr}{kvs:List (Key×V)}(e:H a=some (.dK kvs)):TyQ K H (.ref a) "dict"
def KG:qk X (.builtin "isinstance") (λxs H Q=>∃ x T t b,xs=[x,.ty T]/\TyQ X.K H x t/\PySem.W.kitOne X.K (.type t) (.type T)=some b/\Q (.bl b) H):=by
 intro f s σ H xs B Q I r h;obtain⟨x,T,t,b,rfl,ty,e,q⟩:=h;obtain⟨u,v,rfl,d,w⟩:=r.two;cases w;have c:∀ l,EP X f σ Q (.bool b) {s with toks:=l}:=λl=>⟨.bl b,H,I.tok l,rfl,q⟩;cases ty with
 | non=>cases(d);exact PySem.W.kia_one PySem.W.kitx_none I.kIn True.intro e (λz=>nomatch z) c
 | bl y=>cases(d);exact PySem.W.kia_one PySem.W.kitx_bool I.kIn True.intro e (λz=>nomatch z) c
 | int i=>obtain⟨t,q⟩:=(d);cases q;exact PySem.W.kia_one PySem.W.kitx_int I.kIn True.intro e (λz=>nomatch z) c
 | str y=>obtain⟨t,q⟩:=(d);cases q;exact PySem.W.kia_one PySem.W.kitx_str I.kIn True.intro e (λz=>nomatch z) c
 | @lst a xs g=>
  cases(d);obtain⟨m,_,⟨o,n,j,k,_,_⟩,_⟩:=I.list g;exact PySem.W.kia_one PySem.W.kitx_list I.kIn ⟨o,j,k⟩ e (λz=>nomatch z) c
 | @tup a xs g=>
  cases(d);obtain⟨m,_,⟨o,j,k,_⟩,_⟩:=I.tuple g;exact PySem.W.kia_one PySem.W.kitx_tuple I.kIn ⟨o,j,k⟩ e (λz=>nomatch z) c
 | @dK a A g=>
  cases(d);obtain⟨_,_,vs,_,p⟩:=(I.hok a _ g);obtain⟨o,C,D,j,k,_⟩:=p;exact PySem.W.kia_one PySem.W.kitx_dict I.kIn ⟨o,j,k.1⟩ e (λz=>nomatch z) c
end
section
variable {κ:Type} [DecidableEq κ]
noncomputable def Qc(kvs:List<|κ×V)(k:κ):Option V:=(kvs.find? λkv=>decide<|kv.1=k).map (·.2)
noncomputable def Jd(kvs:List<|κ×V)(k:κ)(v:V):List (κ×V):=
 if(kvs.any λkv=>decide<|kv.1=k)=true then kvs.map (λkv=>if kv.1=k then(kv.1,v) else kv) else kvs++[(k,v)]
def JO{p}{r:List (κ×V)}(e:p.1=k):Qc (p::r) k=some p.2:=by simp[Qc,List.find?_cons,e]
def JH{p}{r:List (κ×V)}(e:¬ p.1=k):Qc (p::r) k=Qc r k:=by simp[Qc,List.find?_cons,e]
theorem xp(k):∀ kvs:List (κ×V),(kvs.any λkv=>decide<|kv.1=k)=(Qc kvs k).isSome
 | []=>rfl
 | p::r=>by
  rw[List.any_cons];by_cases e:p.1=k
  ·simp only[JO e,X1 e,Bool.true_or,Option.isSome_some]
  ·rw[JH e,X2 e,Bool.false_or];exact xp k r
def Yz(kvs)(k:κ)(v):(Jd kvs k v).length<=kvs.length+1:=by
 unfold Jd;split
 ·rw[L1];lia
 ·rw[N4,M1,List.length_nil];lia
def RelO.isSome_eq(r:RelO o u):o.isSome=u.isSome:=by
 cases o with
 | none=>cases u with
  | none=>rfl
  | some _=>exact(r).elim
 | some _=>cases u with
  | none=>exact(r).elim
  | some _=>rfl
def RelO.getD(r:RelO o u)(rd:RelV d d'):RelV (o.getD d) (u.getD d'):=by
 cases o with
 | none=>cases u with
  | none=>exact rd
  | some _=>exact(r).elim
 | some _=>cases u with
  | none=>exact(r).elim
  | some _=>exact r
def KV.val(r:KV kvs vs)(k:κ):RelO (Qc kvs k) (valueAt vs k):=by
 induction r with
 | nil=>exact True.intro
 | @cons p q ps a h t f=>
  obtain⟨d,g⟩:=h;by_cases e:p.1=k
  ·have c:=d.symm.trans e;have b:valueAt (q::a) k=some q.2:=by simp[valueAt,List.find?_cons,c]
   rw[JO e,b];exact g
  ·have c:¬ q.1=k:=λz=>e<|d.trans z;have b:valueAt (q::a) k=valueAt a k:=by simp[valueAt,List.find?_cons,c]
   rw[JH e,b];exact f
def KV.any(r:KV kvs vs)(k:κ):(kvs.any λkv=>decide<|kv.1=k)=vs.any λkv=>decide (kv.1=k):=by
 induction r with
 | nil=>rfl
 | cons h t a=>rw[List.any_cons,List.any_cons,a,h.1]
def KV.repl(r:KV kvs vs)(k:κ)  (b:RelV y u):
  KV (kvs.map λkv=>if kv.1=k then(kv.1,y) else kv) (vs.map λkv=>if kv.1=k then(kv.1,u) else kv):=by
 induction r with
 | nil=>exact .nil
 | @cons p q ps f h t c=>
  rw[L5,L5];refine .cons ?_ c;obtain⟨a,d⟩:=h;by_cases e:p.1=k
  ·rw[if_pos e,if_pos<|a.symm.trans e];exact⟨a,b⟩
  ·rw[if_neg e,if_neg<|λz=>e<|a.trans z];exact⟨a,d⟩
def KV.put(r:KV kvs vs)(k:κ)  (a:RelV y u):KV (Jd kvs k y) (stored vs k u):=by
 unfold Jd stored;rw[r.any k];by_cases e:(vs.any λb=>decide<|b.1=k)=true
 ·rw[if_pos e,if_pos e];exact r.repl k a
 ·rw[if_neg e,if_neg e];exact Paired.snoc r ⟨rfl,a⟩
def KV.keys{kvs}{vs:List (κ×Value)}(r:KV kvs vs):kvs.map (·.1)=vs.map (·.1):=by
 induction r with
 | nil=>rfl
 | cons h t a=>rw[L5,L5,a,h.1]
def KV.length(r:KV kvs vs):kvs.length=vs.length:=Paired.length r
end
def Qg(r:RelV (kV k) u):(yg P w).is k u=true:=by
 cases k with
 | inl i=>obtain⟨t,e⟩:=(r);subst e;exact Q6 P w i t
 | inr x=>obtain⟨t,e⟩:=(r);subst e;exact Qw P w x t
theorem Km:∀{ks}{us},Vals (ks.map kV) us->ItemsAre (yg P w) ks us
 | [],_,r=>by rw[List.map_nil] at r;cases r;exact .nil
 | k::ks,_,r=>by
  cases r with
  | cons h t=>exact .cons (Qg h)<|Km t
abbrev KT(H:Hp):List (List Key×V)->List (List Key×Addr×Value)->Prop:=Paired λp q=>p.1=q.1/\H q.2.1=some (.tup<|p.1.map kV)/\RelV p.2 q.2.2
def KT.val(r:KT H kvs xs)(k):RelO (Qc kvs k) ((atKey xs k).map (·.2)):=by
 induction r with
 | nil=>exact True.intro
 | @cons p q ps a h t f=>
  obtain⟨d,_,g⟩:=h;by_cases e:p.1=k
  ·have c:=d.symm.trans e;have b:atKey (q::a) k=some q.2:=by simp[atKey,List.find?_cons,c]
   rw[JO e,b];exact g
  ·have c:¬ q.1=k:=λz=>e<|d.trans z;have b:atKey (q::a) k=atKey a k:=by simp[atKey,List.find?_cons,c]
   rw[JH e,b];exact f
def KT.repl(r:KT H kvs xs)(k)  (c:RelV y u):
  KT H (kvs.map λkv=>if kv.1=k then(kv.1,y) else kv) (xs.map<|putAt k u):=by
 induction r with
 | nil=>exact .nil
 | @cons p q ps g h t d=>
  rw[L5,L5];refine .cons ?_ d;obtain⟨a,b,f⟩:=h;unfold putAt;by_cases e:p.1=k
  ·rw[if_pos e,if_pos<|a.symm.trans e];exact⟨a,b,c⟩
  ·rw[if_neg e,if_neg<|λz=>e<|a.trans z];exact⟨a,b,f⟩
def KT.put(r:KT H kvs xs)(k)  (c:H b=some (.tup<|k.map kV)) (a:RelV y u):
  KT H (Jd kvs k y) (storedH xs k b u):=by
 have e:(kvs.any λd=>decide<|d.1=k)=(atKey xs k).isSome:=by
  rw[xp,(r.val k).isSome_eq,Option.isSome_map]
 unfold Jd storedH;rw[e];by_cases q:(atKey xs k).isSome=true
 ·rw[if_pos q,if_pos q];exact r.repl k a
 ·rw[if_neg q,if_neg q];exact Paired.snoc r ⟨rfl,c,a⟩
def KT.keeps(r:KT H kvs xs)(a:∀ b ys,H b=some (.tup ys)->H' b=some (.tup ys)):KT H' kvs xs:=
 Paired.mapP r λ_ _ z=>⟨z.1,a _ _ z.2.1,z.2.2⟩
def jkm(ok:HOk P w H h)(e:Rd H a u):ObjOk P w H h a u:=e.ok ok
def ub(ok:HOk P w H h)(e:Rd H a<|.dK kvs):kvs.length<=sizeLine/\(a==sysModules)=false/\∃ vs,KV kvs vs/\h.DictOf (yg P w) a vs:=
 jkm ok e
def jg5(ok:HOk P w H h)(e:H a=some (.dK kvs)):kvs.length<=sizeLine/\(a==sysModules)=false/\∃ vs,KV kvs vs/\h.DictOf (yg P w) a vs:=ub ok<|.inl e
def KO(ok:HOk P w H h)(e:H a=some (.tup<|ks.map kV)):(tupleKind<|yg P w).is h ks a:=by
 obtain⟨_,b,r,⟨o,c,d,n,f⟩,_⟩:=(ok a _ e);exact⟨o,b.toArray,n,c,d,f,by simpa using Km r⟩
def wx(ok:HOk P w H h)(e:Rd H a<|.dT kvs):kvs.length<=sizeLine/\(a==sysModules)=false /\
  ∃ xs,KT H kvs xs/\h.DictOfH (tupleKind<|yg P w) a xs:=by
 obtain⟨z,y,xs,r,o,d,f,g,i,j,k,n⟩:=(jkm ok e);refine⟨z,y,xs,r,o,d,f,g,i,j,k,λx b=>?_,n⟩;have all:∀{l}{m},KT H l m->∀ x∈m,(tupleKind<|yg P w).is h x.1 x.2.1:=by
  intro l m q
  induction q with
  | nil=>intro x b;exact nomatch b
  | @cons p q ps u c t s=>
   intro x b;rcases M4.mp b with e | b
   ·subst e;exact KO ok (by rw[<- c.1];exact c.2.1)
   ·exact s x b
 exact all r x b
def jiu(ok:HOk P w H h)(e:H a=some (.dT kvs)):kvs.length<=sizeLine/\(a==sysModules)=false /\
  ∃ xs,KT H kvs xs/\h.DictOfH (tupleKind<|yg P w) a xs:=wx ok<|.inl e
def DGet(H:Hp)(a:Addr)(y:V)(r:Option V):Prop:=
 (∃ kvs k,Rd H a (.dK kvs)/\y=kV k/\r=Qc kvs k) \/ ∃ kvs k b,Rd H a (.dT kvs)/\y=.ref b/\H b=some (.tup<|k.map kV)/\r=Qc kvs k
def DPut(H:Hp)(a:Addr)(y v:V)(H':Hp):Prop:=
 (∃ kvs k,H a=some (.dK kvs)/\y=kV k/\kvs.length<sizeLine/\H'=upd H a (.dK<|Jd kvs k v)) \/
 ∃ kvs k b,H a=some (.dT kvs)/\y=.ref b/\H b=some (.tup<|k.map kV)/\kvs.length<sizeLine/\H'=upd H a (.dT<|Jd kvs k v)
theorem DPut.k{H}{a}{kvs}{k}{v}(e:H a=some (.dK kvs))(hl:kvs.length<sizeLine):DPut H a (kV k) v (upd H a<|.dK<|Jd kvs k v):=.inl ⟨kvs,k,e,rfl,hl,rfl⟩
def DPut.t{kvs}{k}(e:H a=some (.dT kvs))(c:H b=some (.tup<|k.map kV))(hl:kvs.length<sizeLine):
  DPut H a (.ref b) v (upd H a<|.dT<|Jd kvs k v):=.inr ⟨kvs,k,b,e,rfl,c,hl,rfl⟩
def Inv.big(I:Inv X pins σ H s):sysModules < ↥s:=by
 have h:=(I.mod.glob.keeps I.bk).lt;exact Nat.lt_trans (by decide) h
def jaV(o:A.units+1<cLine)(I:Inv X pins σ H s)(g:DGet H a y<|some v)(n:RelV y u)(h:∀ w' s',Inv X pins σ H s'->RelV v w'->Q w' s'):
  wpAny (model X.prog X.w) A (getItem (.ref a) u) Q E s:=by
 rcases g with⟨f,k,e,i,l⟩ | ⟨f,k,b,e,i,q,l⟩
 ·subst i;obtain⟨z,hd,vs,c,j⟩:=ub I.hok e;obtain⟨w',hw,d⟩:=RelO.some_of (by rw[l];exact c.val k);exact wpAny_getItem_of (Qg n) j.mapOf hw<|h w' _ (I.tok _) d
 ·subst i;cases(n);obtain⟨z,hd,t,c,j⟩:=wx I.hok e;obtain⟨w',hw,d⟩:=RelO.some_of (by rw[l];exact c.val k);obtain⟨p,r,m⟩:=Option.map_eq_some_iff.mp hw;refine wpAny_getItem_heap (tupleKind_room_in1 o) (KO I.hok q) j r ?_;rw[m];exact h w' _ (I.tok _) d
def jgl(m:A.units+1<cLine)(I:Inv X pins σ H s)(g:DGet H a y o)(j:RelV y u)(h:∀ s',Inv X pins σ H s'->Q (.bool<|!o.isSome) s'):
  wpAny (model X.prog X.w) A (compareOp .NotIn u<|.ref a) Q E s:=by
 rcases g with⟨d,k,e,f,l⟩ | ⟨d,k,b,e,f,n,l⟩
 ·subst f;obtain⟨z,hd,vs,c,i⟩:=ub I.hok e;refine wpAny_notIn_of (Qg j) hd i.mapOf ?_;rw[<- (c.val k).isSome_eq,<- l];exact h _<|I.tok _
 ·subst f;cases(j);obtain⟨z,hd,p,c,i⟩:=wx I.hok e;refine wpAny_notIn_heap (tupleKind_room_in1 m) (KO I.hok n) hd i ?_;have q:=(c.val k).isSome_eq;rw[Option.isSome_map] at q;rw[<- q,<- l];exact h _<|I.tok _
def VG(I:Inv X pins σ H s)(c:Mut<|H a)(hs:Heap.SameBut a s.heap h')(d:∃ q,h'.get? a=some q)(new:ObjOk X.prog X.w (upd H a ob) h' a ob):
  Inv X pins σ (upd H a ob) {s with heap:=h',toks:=t'}:=
 I.write c (.inl rfl) (λb q e z=>(hs.2 b e).trans z) d new
def jb8(z:kvs.length<=sizeLine)(hd:(a==sysModules)=false)(b:KV kvs vs)(c:h'.DictOf (yg P w) a vs):
  ObjOk P w H' h' a (.dK kvs):=⟨z,hd,vs,b,c⟩
def jlv{A:Around}(D:∀ kvs,H a=some (.dT kvs)->A.units+1<cLine)(I:Inv X pins σ H s)(g:DPut H a y v H')(p:RelV y u)(t:RelV v r)(h:∀ s',Inv X pins σ H' s'->Q () s'):
  wpAny (model X.prog X.w) A.in1 (dictSet a u r) Q E s:=by
 rcases g with⟨kvs,k,e,j,l,m⟩ | ⟨kvs,k,b,e,j,x,l,m⟩
 ·subst j m;obtain⟨z,hd,vs,d,n⟩:=jg5 I.hok e;have o:vs.length<=sizeLine:=by rw[<- d.length];exact z
  have hl:(Jd kvs k v).length<=sizeLine:=by have:=Yz kvs k v;lia
  refine wpAny_dictSet_pairs (hsz:=o) (Qg p) n λB f hs=>h _ ?_;have F:∃ q,B.get? a=some q:=let ⟨q,_,_,i,_⟩:=f;⟨q,i⟩
  exact VG I (by rw[e];exact True.intro) hs F<|jb8 hl hd (d.put k t) f
 ·subst j m;cases(p);obtain⟨z,hd,G,d,n⟩:=jiu I.hok e;have o:G.length<=sizeLine:=by rw[<- Paired.length d];exact z
  have hl:(Jd kvs k v).length<=sizeLine:=by have:=Yz kvs k v;lia
  refine wpAny_dictSet_heap (hsz:=o) (tupleKind_room_in1<|D _ e) (KO I.hok x) n λB f hs=>h _ ?_;obtain⟨q,J,K,i,L,M,N,_,O⟩:=f;refine VG I (by rw[e];exact True.intro) hs ⟨q,i⟩ ⟨hl,hd,_,(d.put k x t).keeps λc P C=>?_,q,J,K,i,L,M,N,O⟩;rw[jg<|jkL C e<|λz=>nomatch z];exact C
def jaJ(c:A.units+1<cLine)(I:Inv X pins σ H s)(g:DPut H a y v H')(f:RelV y u)(i:RelV v r)(h:∀ s',Inv X pins σ H' s'->Q () s'):
  wpAny (model X.prog X.w) A (setItem (.ref a) u r) Q E s:=by
 have b:s.TypeIs (.ref a) "dict":=by
  rcases g with⟨_,_,e,_⟩ | ⟨_,_,_,e,_⟩
  ·obtain⟨_,_,_,_,d⟩:=jg5 I.hok e;exact d.typeIs
  ·obtain⟨_,_,_,_,d⟩:=jiu I.hok e;exact d.typeIs
 unfold setItem;refine wpAny_holding<|L3<|wpAny_sequenceKey b (by decide) ?_;refine L3<|wpAny_callSpecial?_slot (name:=Str.ofString "__setitem__") b PySem.F.slot_dict_setitem<|wpAny_call_entry PySem.F.slot_dict_setitem b PySem.F.entry_dict_setitem ?_<|PySem.F.args_dict_setitem_3 _ _ _;refine L3<|wpAny_notOrdered_dict b ?_;show wpAny _ _ (dictSet a u r >>= _) _ _ s;exact L3<|jlv (λ_ _=>c) I g f i λj J=>M6 ⟨.none,rfl,M6<|h j J⟩
def jk9(i:Expr):Prop:=∀ ov iv,subscripted i false ov iv=operate [ov,iv] (getItem ov iv)
def jfT{prog}{w}{A}{E}{s}{env}{value slice}{pos}{T id}{Q}
  (hl:typeLookup (.type T) "__getitem__" = pure (some<|.builtin id)) (hs:jk9 slice)
  (h:wpAny (model prog w) A (eval value env) (λo s₁=>wpAny (model prog w) A (eval slice env) (λi s₂=>s₂.TypeIs o T/\wpAny (model prog w) A (getItem o i) Q E s₂) E s₁) E s):
  wpAny (model prog w) A (eval (.Subscript value slice pos) env) Q E s:=by
 refine Subscript_<|wpAny_mono h (λo s₁ d=>wpAny_mono d (λi s₂ b=>?_) λ_ _ x=>x) λ_ _ x=>x;obtain⟨e,b⟩:=b;refine L3 ?_;refine L3<|wpAny_specialOf e hl ?_;have a:wpAny (model prog w) A (subscripted slice false o i) (λr c=>wpAny (model prog w) A (letTemporaryGo value o r >>= λ_=>pure r) Q E c) E s₂:=by
  rw[hs o i];exact wpAny_operating<|wpAny_mono b (λr c f=>L3<|wpAny_letTemporaryGo<|M6 f) λ_ _ x=>x
 first
  | exact M6 (L3 a)
  | exact L3 (M6 (L3 a))
  | exact L3 a
def QC(I:Inv X pins σ H s)(g:DGet H a y o):s.TypeIs (.ref a) "dict":=by
 rcases g with⟨c,k,e,_,_⟩ | ⟨c,k,b,e,_,_,_⟩
 ·obtain⟨_,_,vs,_,d⟩:=ub I.hok e;exact d.typeIs
 ·obtain⟨_,_,f,_,d⟩:=wx I.hok e;exact d.typeIs
def jgP(td ty:TE):TE:=λσ H Q=>td σ H λx H1=>ty σ H1 λy H2=>∃ a v,x=.ref a/\DGet H2 a y (some v)/\Q v H2
def VI(ty td:TE):TE:=λσ H Q=>ty σ H λy H1=>td σ H1 λx H2=>∃ a o,x=.ref a/\DGet H2 a y o/\Q (.bl<|!o.isSome) H2
def Qr(td ty tv:TE):TS:=λD σ H=>tv σ H λv H1=>td σ H1 λx H2=>ty σ H2 λy H3=>∃ a H4,x=.ref a/\DPut H3 a y v H4/\D.nx σ H4
def jhx(e:X.A.units+1<cLine)(f:PE X o td)(hi:PE X i ty)(hs:jk9 i):PE X (.Subscript o i pos) (jgP td ty):=by
 intro b s σ H Q I h;refine jfT PySem.F.slot_dict_getitem.lookup hs<|thn (f b s σ H _ I h) λu j ⟨x,k,l,m,n⟩=>thn (hi b j σ k _ l n) λz B p=>?_;obtain⟨y,q,d,r,a,v,ex,g,t⟩:=p;subst ex;obtain rfl:u=Value.ref a:=m;exact⟨QC d g,jaV e d g r λC D w c=>⟨v,q,w,c,t⟩⟩
def jbv(c:X.A.units+1<cLine)(hi:PE X i ty)(d:PE X o td):PC X .NotIn i o (VI ty td):=by
 intro b s σ H Q I h;refine thn (hi b s σ H _ I h) λw e ⟨y,f,j,k,l⟩=>thn (d b e σ f _ j l) λu z m=>?_;obtain⟨x,n,p,q,a,r,ex,g,t⟩:=m;subst ex;obtain rfl:u=Value.ref a:=q;exact jgl c p g k λB v=>⟨.bl<|!r.isSome,n,v,rfl,t⟩
def Q5(c:X.A.units+1<cLine)(d:PE X o td)(hi:PE X i ty)(e:PE X value tv)(hs:swapsWith value (some<|.Subscript o i pos') pos.line X.env=pure false):
  PS X (.Assign [.Subscript o i pos'] value pos) (Qr td ty tv):=by
 intro b s σ H D I h;refine wpAny_Assign_Subscript (thn (e b s σ H _ I h) λr f ⟨v,j,k,l,m⟩=>thn (d b f σ j _ k m) λu n ⟨x,p,q,t,w⟩=>thn (hi b n σ p _ q w) λJ K z=>?_) hs;obtain⟨y,L,B,C,a,E,ex,g,F⟩:=z;subst ex;obtain rfl:u=Value.ref a:=t;exact jaJ c B g C l λM G=>⟨σ,E,G,F⟩
def jd5(h:Heap)(a:sysModules<h.objs.size):ObjOk P w H (h.push {cls:=.type "dict",data:=.dict #[]}) h.objs.size (.dK []):=
 ⟨U5 _,U2.mpr<|Ne.symm<|N6 a,[],.nil,Heap.DictOf.new h⟩
def jdH(h:Heap)(a:sysModules<h.objs.size):ObjOk P w H (h.push {cls:=.type "dict",data:=.dict #[]}) h.objs.size (.dT []):=
 ⟨U5 _,U2.mpr<|Ne.symm<|N6 a,[],.nil,_,#[],0,X9 _ rfl,⟨rfl,rfl,rfl⟩,rfl,rfl,List.nodup_nil⟩
def jaZ:TE:=λ_ H Q=>∀ p,H p=none->Q (.ref p) (upd H p<|.dK [])
def uq:TE:=λ_ H Q=>∀ p,H p=none->Q (.ref p) (upd H p<|.dT [])
def jdG:PE X (.Dict [] [] pos) jaZ:=λa s σ H Q I h=>
 wpAny_Dict_empty ⟨.ref ↥s,_,I.laid (λ_ _ q=>L8 _ q) (M8 _)<|jd5 s.heap I.big,rfl,h _<|I.hok.fresh<|M8 _⟩
def jc8:PE X (.Dict [] [] pos) uq:=λa s σ H Q I h=>
 wpAny_Dict_empty ⟨.ref ↥s,_,I.laid (λ_ _ q=>L8 _ q) (M8 _)<|jdH s.heap I.big,rfl,h _<|I.hok.fresh<|M8 _⟩
structure M2(X:Cx)(o:Expr)(m:Str)(apos:Pos)(e f:Expr)(cpos:Pos):Prop where
 base:attributeBase o m X.env (eval o X.env)=eval o X.env
 few:((backTo cpos<|starEach [e,f] X.env).all (λx=>!x.1)&&(backToKw cpos<|keywordEach [] X.env).all (λx=>x.1.isSome)
  && decide (([e,f]:List Expr).length+([]:List Keyword).length+(if([]:List Keyword).isEmpty then 0 else 1)<30))=true
 line:(apos.endLine==cpos.line)=true
 trees:backTo cpos (starEach [e,f] X.env)=[(false,eval e X.env),(false,eval f X.env)]
def IsD(H:Hp)(a:Addr):Prop:=(∃ kvs,Rd H a<|.dK kvs) \/ ∃ kvs,Rd H a<|.dT kvs
def jiZ(I:Inv X pins σ H s)(d:IsD H a):
  s.TypeIs (.ref a) "dict"/\(∀ b,Value.ref a=.ref b->∃ ob,s.heap.get? b=some ob/\ob.dict=none)/\(a==sysModules)=false:=by
 rcases d with⟨f,e⟩ | ⟨f,e⟩
 ·obtain⟨_,hd,vs,_,c⟩:=ub I.hok e;refine⟨c.typeIs,λb q=>?_,hd⟩;cases q;obtain⟨ob,_,_,g,h,_⟩:=c;exact⟨ob,g,h.2.1⟩
 ·obtain⟨_,hd,i,_,c⟩:=wx I.hok e;refine⟨c.typeIs,λb q=>?_,hd⟩;cases q;obtain⟨ob,_,_,g,h,_⟩:=c;exact⟨ob,g,h.2.1⟩
def jjR(n:A.units+1<cLine)(I:Inv X pins σ H s)(g:DGet H a y o)(m:RelV y u)(rd:RelV d r)(h:∀ w' s',Inv X pins σ H s'->RelV (o.getD d) w'->Q w' s'):
  wpAny (model X.prog X.w) A (call (.builtin "dict.get") [.ref a,u,r]) Q E s:=by
 rcases g with⟨i,k,e,j,l⟩ | ⟨i,k,b,e,j,p,l⟩
 ·subst j;obtain⟨z,hd,vs,c,f⟩:=ub I.hok e;refine call_meetsIn PySem.F.slot_dict_get f.typeIs PySem.F.entry_dict_get (PySem.F.args_dict_get_3 _ _ _) (meets_dict_get_default (yg X.prog X.w) a (Qg m) hd r) ⟨_,f.mapOf,h _ _ (I.tok _) ?_⟩;rw[l];exact(c.val k).getD rd
 ·subst j;cases(m);obtain⟨z,hd,q,c,f⟩:=wx I.hok e;refine call_meetsIn PySem.F.slot_dict_get f.typeIs PySem.F.entry_dict_get (PySem.F.args_dict_get_3 _ _ _) (meetsH_dict_get_default (tupleKind<|yg X.prog X.w) a b hd r) ⟨tupleKind_room_in1 n,k,q,KO I.hok p,f,h _ _ (I.tok _) ?_⟩;rw[l];exact(c.val k).getD rd
def u9(td ty tx:TE):TE:=λσ H Q=>td σ H λx H1=>∃ a,x=.ref a/\IsD H1 a/\ty σ H1 λy H2=>tx σ H2 λz H3=>∃ o,DGet H3 a y o/\Q (o.getD z) H3
def jcE(j:X.A.units+1<cLine)(k:PE X o td)(l:PE X e ty)(n:PE X f tx)(m:M2 X o "get" apos e f cpos):PE X (.Call (.Attribute o "get" apos) [e,f] [] cpos) (u9 td ty tx):=by
 intro b s σ H Q I h;refine wpAny_Call_method m.base m.few m.line PySem.F.plainAttrs_dict PySem.F.slot_dict_get PySem.F.type_dict_get<|thn (k b s σ H _ I h) λu p q=>?_;obtain⟨x,r,i,t,a,ex,d,v⟩:=q;subst ex;obtain rfl:u=Value.ref a:=t;obtain⟨w,B,_⟩:=jiZ i d;refine⟨w,B,?_⟩;rw[m.trees];refine Calls.callWith_builtin rfl<|Calls.evalArgs_plain<|Calls.spliced_cons<|thn (l b p σ r _ i v) λP C ⟨y,D,E,G,J⟩=>
  Calls.spliced_cons (thn (n b C σ D _ E J) λR S ⟨z,K,L,M,T,g,N⟩=>Calls.spliced_nil ?_)
 exact jjR j L g G M λU V O c=>⟨_,K,O,c,N⟩
end L2
namespace PySem
open Sem (wp)
namespace F
def plain_dict_loop:plainId "dict.update.loop" = true:=by decide +kernel
def entry_dict_loop:entryFor table "dict.update.loop" = some Builtin.«dict.update.loop»:=entryFor_of_fast (by kernel_rfl)
end F
section
variable {prog:Program}{w:World}{A:Around}{E:W0}{h:Heap}{g:Array GenState}{d:Drawn}{t:Nat}{os:OsState}{a:Addr}{o:Obj}
def F.sub_attrErr:isSubtype (.type "AttributeError") (.type "AttributeError")=pure true:=by rw[isSubtype_type];kernel_rfl
def jdE{x nm}{e}{y}{Q}(a:h.get? e=some {cls:=.type "AttributeError",data:=.fields #[y,.none,.none,.none,.bool false,.none,unsetMember,unsetMember]})
  (c:∀ h',(∀ b o,b≠e->h.get? b=some o->h'.get? b=some o)->(∃ ob,h'.get? e=some ob/\ob.cls=.type "AttributeError")->Q () ⟨h',g,d,t,os⟩):
  wpAny (model prog w) A (noteAttr (.ref e) x nm) Q E ⟨h,g,d,t,os⟩:=by
 have j:=F.sub_attrErr
 repeat (any_goals (first | assumption | wp_step))
 refine c _ (λb o f i=>?_) ⟨_,Heap.get?_update_self _ a rfl,rfl⟩
 ·rw[Heap.get?_update_ne _ _ _ _ f];exact i
def YW{α}{x}{nm a}{Q}(hm:a.length<=sizeLine)(k:A.handled=none)
  (l:∀ h' e t',(∀ b o,h.get? b=some o->h'.get? b=some o)->h.get? e=none->(∃ ob,h'.get? e=some ob/\ob.cls=.type "AttributeError")->E (.ref e) ⟨h',g,d,t',os⟩):
  wpAny (model prog w) A (raiseAttrError x nm a:Sem α) Q E ⟨h,g,d,t,os⟩:=by
 refine L3<|wpAny_mkStr (L3<|L3<|wpAny_newObj_type ?_) hm;refine L3<|wpAny_of_eq (by simp only[firstArgMember];rfl) ?_;refine wpAny_newObj_type<|L3<|wpAny_mkText<|L3<|jdE (X9 _ rfl) λh' m n=>?_;refine L3<|wpAny_handled ?_;rw[k];have c:∀ f,E (.ref (h.push {cls:=.type "tuple",data:=.seq #[Value.str a t]}).objs.size) ⟨h',g,d,f,os⟩:=λf=>l h' _ _ (λb o i=>m b o (λz=>by
  have j:=N0 i;rw[z] at j;exact absurd j<|Nat.not_lt.mpr<|by simp)<|L8 _<|L8 _ i) (Heap.get?_none_of_le<|by simp) n
 first
  | exact wpAny_throw (c _)
  | exact L3 (M6 (wpAny_throw (c _)))
end
section
variable {prog:Program}{w:World}{K:Type} [DecidableEq K] {knd:KeyKind prog w K}{A:Around}{E:W0}{s:Shared}
def YX(d:s.heap.get? p=some o)(b:o.cls=.type "tuple")(hd:o.data=.seq #[key,x] m)(e:Q [key,x] s):wpAny (model prog w) A (Builtin.Dict.pairItems<|.ref p) Q E s:=by
 obtain⟨oc,od,a,c⟩:=o;subst b;subst hd
 repeat (any_goals (first | assumption | wp_step))
def jbq(knd:KeyKind prog w K)(h:Heap)(v:Value)(kv:K×Value):Prop:=∃ p key m o,v=.ref p/\h.get? p=some o/\o.cls=.type "tuple"/\o.data=.seq #[key,kv.2] m/\knd.is kv.1 key=true
end
end PySem
namespace L2
open PySem PySem.Spec PyProof.Rows
theorem xh(I:Inv X pins σ H s):∀{ys}{its}{ps},Vals ys its->ys.length=ps.length ->
  (∀(j:Nat) y,ys[j]?=some y->∃ kv t,ps[j]?=some kv/\y=.ref t/\SqT X.K H t [kV kv.1,kv.2]) ->
  ∃ qs:List (Key×Value),KV ps qs/\∀(j:Nat) v,its[j]?=some v->∃ kv,qs[j]?=some kv/\jbq (yg X.prog X.w) s.heap v kv
 | [],its,ps,a,hl,b=>by
  cases a;have:=List.length_eq_zero_iff.mp hl.symm;subst this;exact⟨[],.nil,λj v e=>by simp at e⟩
 | y::ys,its,[],a,hl,b=>by simp at hl
 | y::ys,its,kv::ps,a,hl,b=>by
  cases a with
  | cons h i=>
   rename_i u C;obtain⟨qs,r,q⟩:=xh I i ⇑hl λj y e=>b (j+1) y ⇑e;obtain⟨k,t,l,rfl,c⟩:=b 0 y rfl;cases l;cases(h);obtain⟨f,m,⟨o,e,p,n,hd⟩,_⟩:=I.tuple c;cases m with
   | cons x z=>
    cases z with
    | cons A B=>
     cases B;rename_i d val;refine⟨(kv.1,val)::qs,.cons ⟨rfl,A⟩ r,λj v g=>?_⟩;cases j with
     | zero=>
      cases g;exact⟨_,rfl,t,d,n,o,rfl,e,p,hd,Qg x⟩
     | succ j=>exact q j v ⇑g
theorem QN:∀{ps}{qs}{a}{b:List (Key×Value)},KV ps qs->KV a b->KV (ps.foldl (λa kv=>Jd a kv.1 kv.2) a) (qs.foldl (λa kv=>stored a kv.1 kv.2) b)
 | [],_,_,_,.nil,h=>h
 | p::ps,q::qs,a,b,.cons c d,h=>by
  rw[X0,X0];refine QN d ?_;have:=h.put p.1 c.2;rw[c.1] at this ⊢;exact this
def uy{ps:List (Key×V)}:∀{qs},(ps.foldl (λa kv=>Jd a kv.1 kv.2) qs).length<=qs.length+ps.length:=by
 induction ps with
 | nil=>intro qs;simp
 | cons p ps b=>
  intro qs;rw[X0];have c:=b (qs:=Jd qs p.1 p.2);have d:(Jd qs p.1 p.2).length<=qs.length+1:=by unfold Jd;split<;>simp
  rw[M1]
  lia
def jkZ(h:(yg P w).is k u=true):RelV (kV k) u:=by
 rcases j7 h with⟨i,t,rfl,rfl⟩ | ⟨x,t,rfl,rfl⟩
 ·exact⟨t,rfl⟩
 ·exact⟨t,rfl⟩
section
variable {prog:Program}{w:World}{A:Around}{E:W0}{s:Shared}
def xR{j t}{n}{a}{y}{C}(d:s.heap.IsTupleIter j t n)(e:s.heap.IsTuple t a)(f:a[n]?=some y)
  (go:∀ k,k.IsTupleIter j t (n+1)->Heap.SameBut j s.heap k->C y {s with heap:=k}):wpAny (model prog w) A (Builtin.SmallTypes.nextOf<|.ref j) C E s:=by
 obtain⟨l,c,g,b⟩:=id d;obtain⟨m,h,_,mt,i⟩:=e;refine L3<|wpAny_callSpecial?_slot d.typeIs F.slot_tuple_iterator_next<|wpAny_call_entry F.slot_tuple_iterator_next d.typeIs F.entry_tuple_iterator_next ?_<|F.args_tuple_iterator_next_1 _;show wpAny _ _ (field (.ref j) 0 >>= _) _ _ s;refine L3<|U6 c b rfl<|L3<|U6 c b rfl<|L3<|wpAny_seqItems h i ?_;simp only[N8,f];refine L3<|wpAny_setField c b (by simp)<|M6 ⟨y,rfl,M6<|go _ ⟨_,Heap.get?_update_self _ c<|Obj.isFreed_of_fields<|Obj.data_mapFields b _,(Obj.cls_mapFields ..).trans g,?_⟩<|Heap.SameBut.update ..⟩;rw[Obj.data_mapFields b];simp[rawInt]
variable {z TI TO j1 j2 l t:Addr}{m:Nat}{us vs:Array Value}{u v a b:Value}
def jdY{C:W0}(D:ZipApart z TI TO j1 j2 l t)(j:IsZip s.heap z TI TO .none)(qI:IsPair s.heap TI (.ref j1)<|.ref j2)(Q:IsPair s.heap TO a b)
  (R:s.heap.IsListIter j1 l m) (q2:s.heap.IsTupleIter j2 t m) (w1:s.heap.IsList l us) (w2:s.heap.IsTuple t vs) (S:us[m]?=some u) (T:vs[m]?=some v)
  (go:∀ k,IsZip k z TI TO (rawInt ↥s)->IsPair k TO u v->k.IsListIter j1 l (m+1)->k.IsTupleIter j2 t (m+1)->IsPair k ↥s u v->k.objs.size=↥s+1 ->
   (∀ c o,c≠z->c≠TO->c≠j1->c≠j2->s.heap.get? c=some o->k.get? c=some o)->C (.ref ↥s) {s with heap:=k}):
  wpAny (model prog w) A (Builtin.«zip.__next__» ⟨[.ref z],[]⟩) (λfin s'=>∃ v,fin=.done (.ret v)/\C v s') E s:=by
 show wpAny (model prog w) A (field (.ref z) 2 >>= _) _ _ _;refine L3<|U6 j rfl rfl<|L3<|U6 j rfl rfl<|L3<|wpAny_seqItems qI rfl<|L3<|L3<|U6 j rfl rfl<|M6<|L3<|wpAny_rule<|L3<|U6 j rfl rfl<|L3<|wpAny_setField_rec j (by simp) λk1 U d=>(L3<|L3<|L3<|wpAny_onRaise (L3<|wpAny_nextOf_list_item (R.extBut d.extBut D.i1z) (w1.extBut d.extBut D.l1z) S λk2 p1 g=>M6 ?_));have I:=g.extBut _ _ D.TOi1<|d.extBut _ _ D.TOz Q;refine L3<|wpAny_seqItems I rfl<|L3<|wpAny_updateSeq_pair I λk3 V h=>(L3<|wpAny_letGo<|M6<|L3<|L3<|wpAny_onRaise<|L3<|xR (((q2.extBut d.extBut D.i2z).extBut g.extBut D.i12.symm).extBut h.extBut D.TOi2.symm) (((w2.extBut d.extBut D.l2z).extBut g.extBut D.l2i1).extBut h.extBut D.l2TO) T λk4 p2 n=>M6 ?_);have J:=n.extBut _ _ D.TOi2 V;refine L3<|wpAny_seqItems J rfl<|L3<|wpAny_updateSeq_pair J λi q p=>?_;replace q:IsPair i TO u v:=q;refine L3<|wpAny_letGo<|M6<|M6<|L3<|wpAny_seqItems q rfl<|L3<|wpAny_newTuple ?_;have K:i.objs.size=↥s:=by rw[p.1,n.1,h.1,g.1,d.1]
 have L:=p.extBut _ _ D.TOz.symm<|n.extBut _ _ D.i2z.symm<|h.extBut _ _ D.TOz.symm<|g.extBut _ _ D.i1z.symm U;have kp:∀ c o,c≠z->c≠TO->c≠j1->c≠j2->s.heap.get? c=some o->i.get? c=some o:=λc o f r y B e=>p.extBut _ _ r<|n.extBut _ _ B<|h.extBut _ _ r<|g.extBut _ _ y<|d.extBut _ _ f e;have M:=N0 L;refine L3 ?_;have W:IsZip (i.push {cls:=.type "tuple",data:=.seq #[u,v]}) z TI TO .ellipsis:=L8 _ L;refine L3<|wpAny_setField_rec W (by simp) λk7 X F=>(wpAny_setField_rec X (by simp) λG N H=>?_);have x:∀ c o,c≠z->i.get? c=some o->G.get? c=some o:=λc o f e=>H.extBut _ _ f<|F.extBut _ _ f<|L8 _ e;have O:=H.extBut _ _ (Nat.ne_of_gt M)<|F.extBut _ _ (Nat.ne_of_gt M)<|X9 _ rfl;have P:G.objs.size=i.objs.size+1:=by rw[H.1,F.1,Heap.size_push]
 rw[K] at N O P;refine M6 ⟨_,rfl,?_⟩;rw[K];obtain⟨x1,Y,Z⟩:=(((p1.extBut h.extBut D.TOi1.symm).extBut n.extBut D.i12).extBut p.extBut D.TOi1.symm);obtain⟨x2,y2,r2⟩:=(p2.extBut p.extBut D.TOi2.symm);exact go G N (x _ _ D.TOz q) ⟨x1,x _ _ D.i1z Y,Z⟩ ⟨x2,x _ _ D.i2z y2,r2⟩ O P λc o f r y B e=>x c o f<|kp c o f r y B e
def jgf{C}(n:A.handled=none)(D:ZipApart z TI TO j1 j2 l t)(a:IsZip s.heap z TI TO .none)(qI:IsPair s.heap TI (.ref j1)<|.ref j2)
  (p:s.heap.IsListIter j1 l m) (w1:s.heap.IsList l us) (q:us[m]?=none)
  (go:∀ k e,(∀ c o,c≠z->c≠TO->c≠j1->c≠j2->s.heap.get? c=some o->k.get? c=some o)->(∃ o,k.get? e=some o/\o.cls=.type "StopIteration")->E (.ref e) {s with heap:=k}):
  wpAny (model prog w) A (Builtin.«zip.__next__» ⟨[.ref z],[]⟩) C E s:=by
 show wpAny (model prog w) A (field (.ref z) 2 >>= _) _ _ _;refine L3<|U6 a rfl rfl<|L3<|U6 a rfl rfl<|L3<|wpAny_seqItems qI rfl<|L3<|L3<|U6 a rfl rfl<|M6<|L3<|wpAny_rule<|L3<|U6 a rfl rfl<|L3<|wpAny_setField_rec a (by simp) λF r b=>(L3<|L3<|L3<|wpAny_onRaise (L3<|wpAny_nextOf_list_end n (p.extBut b.extBut D.i1z) (w1.extBut b.extBut D.l1z) q λG e f u=>?_));obtain⟨v,d,g⟩:=u;have h:=f _ _ D.i1z.symm r;have ne:e≠z:=λx=>by subst x;rw[h] at d;cases d;simp at g
 exact wpAny_setField_rec h (by simp) λy _ i=>go y e (λc o j _ B _ x=>i.extBut _ _ j<|f _ _ B<|b.extBut _ _ j x) ⟨v,i.extBut _ _ ne d,g⟩
def jcN{C}(D:ZipApart z TI TO j1 j2 l t)(d:IsZip s.heap z TI TO .none)(qI:IsPair s.heap TI (.ref j1)<|.ref j2)(e:IsPair s.heap TO a b)
  (f:s.heap.IsListIter j1 l m) (q2:s.heap.IsTupleIter j2 t m) (w1:s.heap.IsList l us) (w2:s.heap.IsTuple t vs) (g:us[m]?=some u) (h:vs[m]?=some v)
  (go:∀ k,IsZip k z TI TO (rawInt ↥s)->IsPair k TO u v->k.IsListIter j1 l (m+1)->k.IsTupleIter j2 t (m+1)->IsPair k ↥s u v->k.objs.size=↥s+1 ->
   (∀ c o,c≠z->c≠TO->c≠j1->c≠j2->s.heap.get? c=some o->k.get? c=some o)->C (some<|.ref ↥s) {s with heap:=k}):wpAny (model prog w) A (pyNext<|.ref z) C E s:=by
 have ty:s.TypeIs (.ref z) "zip":=⟨_,d,rfl⟩;exact L3<|wpAny_attempt<|wpAny_callSpecial?_slot ty F.slot_zip_next<|wpAny_call_entry F.slot_zip_next ty F.entry_zip_next
  (jdY D d qI e f q2 w1 w2 g h λk c1 i c3 j n c6 p=>M6<|go k c1 i c3 j n c6 p) (F.args_zip_next_1 _)
def jcX{C}(b:A.handled=none)(D:ZipApart z TI TO j1 j2 l t)(a:IsZip s.heap z TI TO .none)(qI:IsPair s.heap TI (.ref j1)<|.ref j2)
  (d:s.heap.IsListIter j1 l m) (w1:s.heap.IsList l us) (f:us[m]?=none)
  (go:∀ k,(∀ c o,c≠z->c≠TO->c≠j1->c≠j2->s.heap.get? c=some o->k.get? c=some o)->C none {s with heap:=k}):wpAny (model prog w) A (pyNext<|.ref z) C E s:=by
 have ty:s.TypeIs (.ref z) "zip":=⟨_,a,rfl⟩;refine L3<|wpAny_attempt<|wpAny_callSpecial?_slot ty F.slot_zip_next<|wpAny_call_entry F.slot_zip_next ty F.entry_zip_next (jgf b D a qI d w1 f λk e kp g=>?_)<|F.args_zip_next_1 _;obtain⟨o,h,i⟩:=g;exact L3<|wpAny_isInstance ⟨o,h,i⟩ isSubtype_stop<|M6<|go _ kp
end
noncomputable abbrev zlA(h:Heap)(l:Addr):Heap:=h.push {cls:=.type "list_iterator",data:=.fields #[.ref l,.int 0 0]}
abbrev zlB(h:Heap)(l t:Addr):Heap:=(zlA h l).push {cls:=.type "tuple_iterator",data:=.fields #[.ref t,.int 0 0]}
abbrev zlC(h:Heap)(l t:Addr):Heap:=(zlB h l t).push {cls:=.type "tuple",data:=.seq #[.ref h.objs.size,.ref (zlA h l).objs.size]}
abbrev zlD(h:Heap)(l t:Addr):Heap:=(zlC h l t).push {cls:=.type "tuple",data:=.seq #[.none,.none]}
abbrev zlE(h:Heap)(l t:Addr):Heap:=(zlD h l t).push {cls:=.type "zip",data:=.fields #[.none,.bool false,.bool false,.ref (zlB h l t).objs.size,.ref (zlC h l t).objs.size]}
def jdp(l t)(us vs):Meets (Builtin.«zip.__new__» ⟨[.type "zip",.ref l,.ref t],[]⟩) (λ_ R s=>s.heap.IsList l us/\s.heap.IsTuple t vs/\R (.ok<|.ret<|.ref (zlD s.heap l t).objs.size) {s with heap:=zlE s.heap l t}):=
 .of_wp λprog w A R s h=>by
  obtain⟨b,g,d,c,os⟩:=s;obtain⟨e,f,h⟩:=h;have a:=sub_zip;have i:Heap.IsTuple (Shared.heap ⟨b.push {cls:=.type "list_iterator",data:=.fields #[.ref l,.int 0 0]},g,d,c,os⟩) t vs:=Heap.IsTuple.push f _
  wp_walk using wpAny_pyIter_list e,wpAny_pyIter_tuple i
  exact⟨_,rfl,h⟩
section
variable {prog:Program}{w:World}{A:Around}{E:W0}{s:Shared}
def jck{l t}{us vs}{C}(h1:s.heap.IsList l us)(h2:s.heap.IsTuple t vs)
  (go:∀ k,IsZip k (↥s+4) (↥s+2) (↥s+3) .none->IsPair k (↥s+2) (.ref ↥s) (.ref<|↥s+1)->IsPair k (↥s+3) .none .none ->
   k.IsListIter ↥s l 0->k.IsTupleIter (↥s+1) t 0->(∀ c o,s.heap.get? c=some o->k.get? c=some o)->C (.ref<|↥s+4) {s with heap:=k}):
  wpAny (model prog w) A (call (.type "zip") [.ref l,.ref t]) C E s:=by
 refine callType_new F.called_zip (by decide) (F.typeCall_zip_2 _ _) (F.newCall_zip_2 _ _) (λobj=>F.args_object_init_3 obj _ _) F.entry_zip_new (jdp l t us vs) ⟨h1,h2,?_⟩;have a:(zlA s.heap l).objs.size=↥s+1:=Heap.size_push ..;have b:(zlB s.heap l t).objs.size=↥s+2:=by rw[Heap.size_push,a]
 have d:(zlC s.heap l t).objs.size=↥s+3:=by rw[Heap.size_push,b]
 have f:(zlD s.heap l t).objs.size=↥s+4:=by rw[Heap.size_push,d]
 have e:(zlE s.heap l t).get? (zlD s.heap l t).objs.size=some _:=X9 _ rfl;have g:(zlE s.heap l t).get? (zlC s.heap l t).objs.size=some _:=L8 _<|X9 _ rfl;have h:(zlE s.heap l t).get? (zlB s.heap l t).objs.size=some _:=L8 _<|L8 _<|X9 _ rfl;have i:(zlE s.heap l t).get? (zlA s.heap l).objs.size=some _:=L8 _<|L8 _<|L8 _<|X9 _ rfl;have j:(zlE s.heap l t).get? ↥s=some _:=L8 _<|L8 _<|L8 _<|L8 _<|X9 _ rfl;rw[b,d,f] at e;rw[a,b] at h;rw[d] at g;rw[a] at i;rw[f];exact⟨⟨_,e,rfl⟩,go _ e h g ⟨_,j,rfl,rfl⟩ ⟨_,i,rfl,rfl⟩ λc o x=>L8 _<|L8 _<|L8 _<|L8 _<|L8 _ x⟩
end
def JS:fillsNumberSlot (.type "tuple") "mul" = pure false:=
 PySem.fillsNumberSlot_seq PySem.F.slot_tuple_mul.lookup (by decide +kernel) PySem.F.slot_tuple_rmul.lookup (by decide +kernel)
def JR:seqRepeat? (.type "tuple")=pure (some<|.builtin "tuple.__mul__"):=by
 delta seqRepeat?
 rw[PySem.seqSlot_of (name:="__mul__") PySem.F.slot_tuple_mul.lookup<|by decide +kernel,PySem.seqSlot_of (name:="__rmul__") PySem.F.slot_tuple_rmul.lookup<|by decide +kernel];rfl
def xg(a)(t)(l)(items)(n)(b)(sl):
  Meets (Builtin.«int.__rmul__» ⟨[.int a t,.ref l],[]⟩) (λ_ R s=>s.heap.get? l=some {cls:=.type "tuple",dict:=b,data:=.seq items n,slots:=sl}/\R (.ok<|.ret Value.notImplemented) s):=
 .of_wp λprog w A R s h=>by
  rcases s with⟨c,d,e,f,os⟩;obtain⟨hl,q⟩:=h
  wp_walk
  exact⟨_,rfl,q⟩
def jdP(l)(items)(n)(a)(sl)(u):
  Meets (Builtin.«tuple.__mul__» ⟨[.ref l,.int 1 u],[]⟩) (λ_ R s=>s.heap.get? l=some {cls:=.type "tuple",dict:=a,data:=.seq items n,slots:=sl}/\R (.ok<|.ret<|.ref l) s):=
 .of_wp λprog w A R s h=>by
  rcases s with⟨b,c,d,e,os⟩;obtain⟨hl,q⟩:=h
  wp_walk using wpAny_loadPart' hl
  exact⟨_,rfl,q⟩
def jcQ(l)(items)(n)(d)(sl)(x)(u)(h0:2<=x)(h1:x<=1000)(a:¬ items.isEmpty=true)(m:items.size<=1000):
  Meets (Builtin.«tuple.__mul__» ⟨[.ref l,.int x u],[]⟩) (λ_ R s=>s.heap.get? l=some {cls:=.type "tuple",dict:=d,data:=.seq items n,slots:=sl}/\R (.ok<|.ret<|.ref ↥s) { s with heap:=s.heap.push {cls:=.type "tuple",data:=.seq ((List.replicate x.toNat items).foldl (·++·) #[])} }):=
 .of_wp λprog w A R s h=>by
  rcases s with⟨o,p,r,t,os⟩;obtain⟨hl,q⟩:=h;have hm:items.size*x<=1000*1000:=Int.mul_le_mul (by lia) (by lia) (by lia) (by lia);have c1:¬ ((decide (x < -(2 ^ 63))||decide (x ≥ 2 ^ 63))=true):=by simp;lia
  have e:¬ ((items.isEmpty||x==1)=true):=by simp at a ⊢;exact⟨a,by lia⟩
  have c3:¬ ((decide (x<=0)||items.isEmpty)=true):=by simp at a ⊢;exact⟨by lia,a⟩
  have f:¬ (items.size*x>(2 ^ 63-1)/8):=by lia
  wp_walk using wpAny_loadPart' hl
  rw[if_neg c1];refine L3<|wpAny_tupleItemsOf hl rfl ?_;rw[if_neg e,if_neg c3];rw[if_neg f];have v:¬ (Builtin.Tuple.tupleTooMany (items.size*x)=true):=by
   unfold Builtin.Tuple.tupleTooMany;simp[sizeLine];lia
  have g:¬ ((List.foldl (λx1 c=>x1++c) #[] (List.replicate x.toNat items)).size>sizeLine):=by
   have i:∀ k b,((List.replicate k items).foldl (λx1 c=>x1++c) b).size=b.size+k*items.size:=by
    intro k
    induction k with
    | zero=>intro b;simp
    | succ k j=>intro b;rw[List.replicate_succ,X0,j,Array.size_append,Nat.succ_mul];lia
   rw[i];have:(1000*1000:Nat)<=sizeLine:=by decide
   simp only[N3,List.length_nil]
   lia
  wp_walk
  exact⟨_,rfl,q⟩
theorem x4(xs:List Value):∀ n acc,((List.replicate n xs.toArray).foldl (·++·) acc.toArray)=(acc++(List.replicate n xs).flatten).toArray
 | 0,acc=>by simp
 | n+1,acc=>by
  rw[List.replicate_succ,X0,show acc.toArray++xs.toArray=(acc++xs).toArray by simp,x4 xs n,List.replicate_succ,List.flatten_cons,List.append_assoc]
theorem xG(r:Vals xs us):∀ n:Nat,Vals (List.replicate n xs).flatten (List.replicate n us).flatten
 | 0=>.nil
 | n+1=>by
  exact r.append<|xG r n
def jkB(K:W3):R2:=λx y H Q=>∃ a xs n,x=.ref a/\y=.int n/\SqT K H a xs/\xs≠[]/\xs.length<=1000/\1<=n/\n<=1000/\(n=1->Q (.ref a) H)/\(n≠1->∀ p,H p=none->Q (.ref p) (upd H p<|.tup (List.replicate n.toNat xs).flatten))
def jhk:OpR X (binaryOp .Mult) (jkB X.K):=by
 intro o s σ H x y v u Q I r t h;obtain⟨a,g,n,rfl,rfl,w,A,hl,L,B,C,D⟩:=h;cases r;obtain⟨f,rfl⟩:=t;obtain⟨c,i,p1,_⟩:=I.tuple w;obtain⟨⟨cls,j,data,k⟩,d,E,m,hd⟩:=id p1;subst E hd;refine wpAny_binaryOp_repeat_ref (by decide) ⟨_,d,rfl⟩ (λG=>typeIs_int G n f) JS PySem.F.fills_int_mul PySem.F.slot_int_rmul JR PySem.F.slot_int_index.lookup<|call_meets PySem.F.slot_int_rmul (typeIs_int s n f) PySem.F.entry_int_rmul (PySem.F.args_int_rmul_2 _ _) (xg n f a c.toArray m j k) ⟨d,rfl,⟨_,d,rfl⟩,?_⟩
 by_cases p:n=1
 ·subst p;exact call_meets PySem.F.slot_tuple_mul ⟨_,d,rfl⟩ PySem.F.entry_tuple_mul (PySem.F.args_tuple_mul_2 _ _) (jdP a c.toArray m j k f) ⟨d,.ref a,H,I,rfl,C rfl⟩
 ·have e:=x4 c n.toNat [];have l:¬ c.toArray.isEmpty=true:=by
   simp;exact λz=>A<|i.nil_iff.mp z
  refine call_meets PySem.F.slot_tuple_mul ⟨_,d,rfl⟩ PySem.F.entry_tuple_mul (PySem.F.args_tuple_mul_2 _ _) (jcQ a c.toArray m j k n f (by lia) B l<|by rw[N3,<- i.length];exact hl) ⟨d,?_⟩;rw[show(#[]:Array Value)=([]:List Value).toArray from rfl,e,X6];refine⟨.ref ↥s,_,I.laid (λb ob q=>L8 _ q) (M8 _) ?_,rfl,D p _<|I.hok.fresh<|M8 _⟩;refine⟨?_,_,xG i n.toNat,IsTupN.new _ _⟩;have J:n.toNat*g.length<=1000*1000:=Nat.mul_le_mul (by lia) hl;have:((List.replicate n.toNat g).flatten).length=n.toNat*g.length:=by simp
  rw[this];exact N7 J (by decide)
def jkJ(l)(items)(n)(b)(a)(c)(d)(sl)(h0:¬(!items.isEmpty&&Builtin.List.listTooLong (items.size+a.size))=true)(h1:items.size<=sizeLine)(h2:items.size+a.size<=sizeLine+1):
  Meets (Builtin.«list.extend» ⟨[.ref l,.ref b],[]⟩) (λ_ R s=>s.heap.get? l=some {cls:=.type "list",dict:=none,data:=.seq items n,slots:=#[]}/\s.heap.get? b=some {cls:=.type "list",dict:=d,data:=.seq a c,slots:=sl}/\R (.ok<|.ret Value.none) {s with heap:=s.heap.update l (Obj.mapSeq λx=>x++a)}):=
 .of_wp λprog w A R s h=>by
  rcases s with⟨f,g,i,j,os⟩;obtain⟨hl,e,q⟩:=h;have k:(items++a).size<=sizeLine+1:=by rw[Array.size_append];exact h2
  wp_walk using(wpAny_updateSeq hl rfl),wpAny_loadPart' hl,wpAny_loadPart' e
  exact⟨_,rfl,q⟩
def jlB(l)(items)(n)(b)(a)(c)(d)(sl)(h0:¬(!items.isEmpty&&Builtin.List.listTooLong (items.size+a.size))=true)(h1:items.size<=sizeLine)(h2:items.size+a.size<=sizeLine+1):
  Meets (Builtin.«list.extend» ⟨[.ref l,.ref b],[]⟩) (λ_ R s=>s.heap.get? l=some {cls:=.type "list",dict:=none,data:=.seq items n,slots:=#[]}/\s.heap.get? b=some {cls:=.type "tuple",dict:=d,data:=.seq a c,slots:=sl}/\R (.ok<|.ret Value.none) {s with heap:=s.heap.update l (Obj.mapSeq λx=>x++a)}):=
 .of_wp λprog w A R s h=>by
  rcases s with⟨f,g,i,j,os⟩;obtain⟨hl,e,q⟩:=h;have k:(items++a).size<=sizeLine+1:=by rw[Array.size_append];exact h2
  wp_walk using(wpAny_updateSeq hl rfl),wpAny_loadPart' hl,wpAny_loadPart' e
  exact⟨_,rfl,q⟩
def jfL(K:W3):V->List V->Hp->VK->Prop:=λx vs H Q=>∃ l b xs zs,x=.ref l/\vs=[.ref b]/\H l=some (.lst xs)/\(SqL K H b zs\/SqT K H b zs)/\xs.length+zs.length<=sizeLine/\Q .non (upd H l<|.lst<|xs++zs)
def jf9:MtM X "list.extend" (jfL X.K):=by
 intro y s σ H x vs v G Q I B C h;obtain⟨l,b,J,L,rfl,rfl,o,g,A,q⟩:=h;cases B;obtain⟨u,rfl,D⟩:=C.one;cases D;obtain⟨z,c,n,r,hl,e⟩:=I.lstM o;rcases g with g | g
 ·obtain⟨a,i,p2,_⟩:=I.list g;obtain⟨⟨cls,j,data,k⟩,m,p,t,hd,E⟩:=p2
  first | subst t | skip
  have f:c.toArray.size+a.toArray.size<=sizeLine:=by rw[N3,N3,<- r.length,<- i.length];exact A
  have d:¬ (!c.toArray.isEmpty&&Builtin.List.listTooLong (c.toArray.size+a.toArray.size))=true:=by
   rw[zM f,Bool.and_false];exact M3
  have w:s.heap.get? b=some {cls:=.type "list",dict:=j,data:=.seq a.toArray m,slots:=k}:=by
   rw[p];simp_all
  refine call_meets PySem.F.slot_list_extend ⟨_,e,rfl⟩ PySem.F.entry_list_extend (PySem.F.args_list_extend_2 _ _) (jkJ l c.toArray n b a.toArray m j k d (by lia)<|by lia) ⟨e,w,⟨.non,_,I.lset o e (by simp) (r.append i) ?_,rfl,q⟩⟩;rw[N4]
  lia
 ·obtain⟨a,i,p2,_⟩:=I.tuple g;obtain⟨⟨cls,j,data,k⟩,p,t,m,hd⟩:=p2;subst t hd;have f:c.toArray.size+a.toArray.size<=sizeLine:=by rw[N3,N3,<- r.length,<- i.length];exact A
  have d:¬ (!c.toArray.isEmpty&&Builtin.List.listTooLong (c.toArray.size+a.toArray.size))=true:=by
   rw[zM f,Bool.and_false];exact M3
  refine call_meets PySem.F.slot_list_extend ⟨_,e,rfl⟩ PySem.F.entry_list_extend (PySem.F.args_list_extend_2 _ _) (jlB l c.toArray n b a.toArray m j k d (by lia)<|by lia) ⟨e,p,⟨.non,_,I.lset o e (by simp) (r.append i) ?_,rfl,q⟩⟩;rw[N4]
  lia
section
open AutoSeq1 (wpAny_loadPart') in
end
def jf0:typeLookup (.type "list_reverseiterator") "__len__" = pure none:=by rw[typeLookup_type,builtinLookup_eq_fast];kernel_rfl
def jdh:typeLookup (.type "list_reverseiterator") "__length_hint__" = pure (some<|.builtin "list_reverseiterator.__length_hint__"):=by rw[typeLookup_type,builtinLookup_eq_fast];kernel_rfl
section
variable {prog:Program}{w:World}{A:Around}{s:Shared}{R:Result->Shared->Prop}
variable {I:Addr}{fp wr:W4}{G:Array GenState->Array GenState->Prop}{n:Nat}{P:Nat->Value->Prop}{St:Nat->Shared->Prop}
def wu(W:WalksS prog w A.in1 I fp wr G n P St)(h:∀ i s,St i s->s.TypeIs (.ref I) "list_reverseiterator")(S)(d)(c0)(a:St 0 s)(g:S∉fp)(l:I∈fp)
  (m:s.heap.get? S=some {cls:=.type "list",data:=.seq #[] c0})
  (o:∀ s' acc c,Moved (S::wr) G s s'->s'.heap.get? S=some {cls:=.type "list",dict:=none,data:=.seq acc c,slots:=#[]}->ItemsOf P acc n->R (.ok<|.ret d) s') (hn:n<=sizeLine):
  wpAny (model prog w) A.in1 (Builtin.List.listExtendWith (.ref S) (.ref I) d)
   (λfin s'=>match fin with | .done f=>R (.ok f) s' | .again c'=>c'.quiet=true/\codeAny (model prog w) A c' R s') (λe s'=>R (.error e) s') s:=by
 have j:S≠I:=λe=>g<|e▸l;refine L3<|wpAny_typeOf (h 0 _ a) ?_;have p:Builtin.List.listSameRef (.ref S) (.ref I)=false:=by simp[Builtin.List.listSameRef,j]
 rw[if_neg<|by rw[p];decide];refine L3 (W.self 0 _ _ _ a<|L3<|wpAny_holding<|L3<|wpAny_specialOf (h 0 _ a) jf0<|L3<|wpAny_specialOf (h 0 _ a) jdh ?_)
 wp_delta
 refine L3<|wpAny_isInstance (b:=true) (h 0 _ a) (by rw[isSubtype_type];kernel_rfl) ?_;exact M6<|M6 ⟨plainId_quiet F.plain_extend_loop _,codeAny_extend_loopS W hn _ g _ n 0 _ _ _ rfl (U5 _) a m (ItemsOf.nil P) λs' acc c hm k q=>(o s' acc c hm k q)⟩
def jdk(W:WalksS prog w A.in1 I fp wr G n P St)(m:∀ i s,St i s->s.TypeIs (.ref I) "list_reverseiterator")(S)(j:St 0 s)(a:S∉fp)(p:I∈fp)
  (k:s.heap.get? S=some {cls:=.type "list",data:=.seq #[]})
  (q:∀ s' acc c,Moved (S::wr) G s s'->s'.heap.get? S=some {cls:=.type "list",dict:=none,data:=.seq acc c,slots:=#[]}->ItemsOf P acc n->R (.ok<|.ret .none) s') (hn:n<=sizeLine):
  wpAny (model prog w) A.in1 (Builtin.«list.__init__» ⟨[.ref S,.ref I],[]⟩)
   (λfin s'=>match fin with | .done f=>R (.ok f) s' | .again c'=>c'.quiet=true/\codeAny (model prog w) A c' R s') (λe s'=>R (.error e) s') s:=by
 refine L3<|L3<|wpAny_seqItems k rfl<|M6<|L3<|wpAny_updateSeq k rfl ?_;have d:∀ b o,b≠S->s.heap.get? b=some o->(s.heap.update S<|Obj.mapSeq<|λ_=>(#[]:Array Value)).get? b=some o:=λb o g e=>(Heap.get?_update_other _ _<|Ne.symm g).trans e;refine L3<|wpAny_letGo<|wu (hn:=hn) W m S .none _ (W.frame 0 s _ s.toks j (M8 _) λb g o e=>d b o (λh=>a<|h▸g) e) a p (Heap.get?_update_self (Obj.mapSeq<|λ_=>(#[]:Array Value)) k rfl) λs' acc c hm l r=>?_;exact q s' acc c (Moved.trans W.gtrans ((Moved.refl W.grefl).then_heap (M8 _) λb o g e=>d b o (λh=>g<|h▸L7) e) hm) l r
end
section
variable {prog:Program}{w:World}{A:Around}{E:W0}{s:Shared}{l:Addr}{us:Array Value}
def jdJ{C}(y:A.handled=none)(hl:s.heap.IsList l us)(B:us.size<=sizeLine)
  (go:∀ k c tk,(∀ b o,s.heap.get? b=some o->k.get? b=some o)->k.get? (↥s+1)=some {cls:=.type "list",dict:=none,data:=.seq us.reverse c,slots:=#[]}->C (.ref<|↥s+1) {s with heap:=k,toks:=tk}):
  wpAny (model prog w) A (call (.type "list") [.ref ↥s]) C E {s with heap:=s.heap.push (revObj l<|(us.size:Int)-1)}:=by
 have a:(s.heap.push<|revObj l<|us.size-1).objs.size=↥s+1:=Heap.size_push _ _;have f:l < ↥s:=by
  obtain⟨o,e,_⟩:=id hl;exact N0 e
 have W:=(Walks.listRev (prog:=prog) (w:=w) (A:=A.in1.in1) y ↥s l (N6 f) us).toS;refine callType_codes (Q₁:=λobj r=>obj=.ref (s.heap.push<|revObj l<|us.size-1).objs.size/\r={ s with heap:=(s.heap.push<|revObj l<|us.size-1).push {cls:=.type "list",data:=.seq #[]} }) F.called_list (F.typeCall_list_1 _) F.entry_list_init
  (code_list_new _ ⟨rfl,rfl⟩) λobj r t=>?_
 obtain⟨rfl,rfl⟩:=t;have v:((s.heap.push<|revObj l<|us.size-1).push {cls:=.type "list",data:=.seq #[]}).get? (s.heap.push<|revObj l<|us.size-1).objs.size=some {cls:=.type "list",data:=.seq #[]}:=X9 _ rfl;have D:((s.heap.push<|revObj l<|us.size-1).push ({cls:=.type "list",data:=.seq #[]}:Obj)).IsRevIter ↥s l (us.size-1 - (0:Int)):=⟨_,L8 _<|X9 _ rfl,rfl,by simp[revObj]⟩;have u:((s.heap.push<|revObj l<|us.size-1).push ({cls:=.type "list",data:=.seq #[]}:Obj)).IsList l us:=hl.at λo e=>L8 _<|L8 _ e;refine⟨⟨_,v,rfl⟩,F.args_list_init_2 _ _,jdk (hn:=B) W (λi r x=>x.2.1.typeIs) _ ⟨U5 _,D,u⟩ (λz=>?_) (by simp) v λG h c hm m H=>?_⟩
 ·rw[a] at z;rcases M4.mp z with q | q
  ·exact absurd q<|Nat.succ_ne_self _
  ·have q:=M7.mp q;rw[<- q] at f;exact absurd f<|Nat.not_lt.mpr<|Nat.le_succ _
 ·refine⟨rfl,?_⟩;have n:h=us.reverse:=by
   obtain⟨I,J⟩:=H;refine Array.ext (by simp[I]) λj t L=>?_;have q:=J j h[j] (by simp[t]);rw[Array.getElem_reverse];have K:us[us.size-1 - j]?=some (us[us.size-1 - j]'(by lia)):=Array.getElem?_eq_getElem (by lia);exact X5<|q.symm.trans K
  subst n;rw[a] at m ⊢;obtain⟨k,g,d,tk,os⟩:=G;obtain rfl:g=s.gens:=hm.gens;obtain rfl:d=s.drawn:=hm.drawn;obtain rfl:os=s.os:=hm.os;refine go k c tk (λb o e=>?_) m;have p:=N0 e;exact hm.heap b o (by
   intro z;rw[a] at z;rcases M4.mp z with q | q
   ·rw[q] at p;exact absurd p<|Nat.not_lt.mpr<|Nat.le_succ _
   ·rw[M7.mp q] at p;exact absurd p<|Nat.lt_irrefl _)<|L8 _<|L8 _ e
end
def jk6(K:W3)(t:TE):TE:=λσ H Q=>t σ H λx H1=>∃ a ys,x=.ref a/\SqL K H1 a ys/\∀ l,H1 l=none->Q (.ref l) (upd H1 l<|.lst ys.reverse)
theorem Vals.rev:∀{xs}{us},Vals xs us->Vals xs.reverse us.reverse
 | [],_,.nil=>.nil
 | x::xs,u::us,.cons h r=>by
  rw[List.reverse_cons,List.reverse_cons];exact(Vals.rev r).append (.cons h .nil)
section
variable {X:Cx}{a:Expr}{ta:TE}{p p2 pos pos2:Pos}
def jik(y:X.calm=true)(z:Gl X "list")(hm:X.mg "list" = none)(i:Gl X "reversed")(j:X.mg "reversed" = none)(A:PE X a ta)
  (B:starEach [.Call (.Name "reversed" p2) [a] [] pos2] X.env=(false,eval (.Call (.Name "reversed" p2) [a] [] pos2) X.env)::starEach [] X.env:=by rfl)
  (m:(backTo pos<|starEach [] X.env).any (·.1)=false:=by rfl)
  (C:backTo pos (starEach [.Call (.Name "reversed" p2) [a] [] pos2] X.env)=[(false,eval (.Call (.Name "reversed" p2) [a] [] pos2) X.env)]:=by rfl)
  (n:starEach [a] X.env=(false,eval a X.env)::starEach [] X.env:=by rfl) (b:(backTo pos2<|starEach [] X.env).any (·.1)=false:=by rfl)
  (d:backTo pos2 (starEach [a] X.env)=[(false,eval a X.env)]:=by rfl):
  PE X (.Call (.Name "list" p) [.Call (.Name "reversed" p2) [a] [] pos2] [] pos) (jk6 X.K ta):=by
 intro e s σ H Q I h;refine wpAny_Call_Name_kw<|qU I z hm (show bootBuiltins "list" = some (.type "list") by decide +kernel) (PyProof.Rows.callWith_type1 (Calls.spliced_cons<|wpAny_Call_Name_kw<|qU I i j (show bootBuiltins "reversed" = some (.type "reversed") by decide +kernel) (PyProof.Rows.callWith_type1 ?_ n b) (by decide)<|by decide) B m) (by decide) (by decide);rw[d];refine Calls.spliced_cons<|thn (A e s σ H _ I h) λv o ⟨x,N,g,D,l,E,ex,F,G⟩=>Calls.spliced_nil ?_;subst ex;obtain rfl:v=Value.ref l:=D;obtain⟨q,r,t,J⟩:=g.list F;have u:=r.length;refine call_reversed_list t.isList<|Calls.spliced_nil ?_;refine jdJ (g.ok.hd y) t.isList (by simp only[N3]<;>lia) λk c O L M=>?_;have f:↥o<=↥o+1:=Nat.le_succ _;refine⟨.ref<|↥o+1,_,g.laid L f<|show ObjOk X.prog X.w _ k _ (.lst E.reverse) from⟨by rw[List.length_reverse];exact J,q.reverse,c,Vals.rev r,by simpa using M⟩,rfl,G _<|g.hok.fresh f⟩
end
def Itk(a:Addr)(o:Obj)(kvs:List<|Key×V):It:=
 ⟨λi H=>H a=some (.frz o<|.dK kvs)/\i<kvs.length,λi H x H'=>H'=H/\∃ kv,kvs[i]?=some kv/\x=kV kv.1,λi H=>H a=some (.frz o<|.dK kvs)/\kvs.length<=i⟩
def jf5(ok:HOk P w H h)(e:H a=some (.frz o<|.dK kvs)):
  h.get? a=some o/\(a==sysModules)=false/\∃ vs,KV kvs vs/\h.DictOf (yg P w) a vs:=by
 obtain⟨b,c⟩:=(ok a _ e);obtain⟨_,d,f⟩:=(c);exact⟨b,d,f⟩
def jfK{P}{w}{K}{tg}(a it)(o)(kvs)(es)(C)(ho:o.data=.dict es C):Turn P w K tg (Itk a o kvs) [it] it (λi h=>h.IsKeyIter it a i kvs.length C) where
 mem:=by simp
 obj:=λi h g b t=>by
  have e:b=it:=by simpa using t
  subst e;obtain⟨q,e,c,d⟩:=g;exact⟨q,e,λv z=>by rw[d] at z;cases z⟩
 keep:=λi h G g k=>g.at (k it<|by simp)
 item:=by
  intro X J hw L hc i l s σ H E I D g M;subst J hw L;obtain⟨N,hx⟩:=M;obtain⟨O,g2,vs,F,Q⟩:=jf5 I.hok N;obtain⟨m,j⟩:=Q.dictAt;have n:m=C:=by
   obtain⟨o',R,x,_,y,_⟩:=id j;rw[O] at x;cases x;rw[ho] at y;cases y;rfl
  subst n;have f:=F.length;obtain⟨⟨k,u⟩,hu⟩:∃ p,vs[i]?=some p:=⟨vs[i]'(by lia),by simp[<- f,hx]⟩;have hk:∃ v,kvs[i]?=some (k,v):=by
   have A:(kvs.map (·.1))[i]?=(vs.map (·.1))[i]?:=by rw[F.keys]
   rw[List.getElem?_map,List.getElem?_map,hu] at A;cases q:kvs[i]? with
   | none=>rw[q] at A;cases A
   | some p=>
    rw[q] at A;obtain⟨k',v⟩:=p;cases A;exact⟨v,rfl⟩
  obtain⟨v,S⟩:=hk;obtain⟨T,U,f2,V,W,Y⟩:=D it (by simp);rw[f] at g;refine wpAny_pyNext_dict_item g j hu λZ G B r sb=>?_;rw[<- f] at r;have I1:Inv X l σ H {s with heap:=G}:=I.turned (λb o t e=>(sb.2 b t).trans e) T U V W Y;obtain⟨o2,e,c,d⟩:=id r;exact⟨Z,rfl,jbN e c d (by decide) ⟨kV k,H,I1,jkZ B,⟨rfl,(k,v),S,rfl⟩,r,λb t=>(D b t).1⟩⟩
 done:=by
  intro X J hw L hc i l s σ H E I D g M;subst J hw L;obtain⟨N,hx⟩:=M;obtain⟨O,g2,vs,F,Q⟩:=jf5 I.hok N;obtain⟨m,j⟩:=Q.dictAt;have n:m=C:=by
   obtain⟨o',R,x,_,y,_⟩:=id j;rw[O] at x;cases x;rw[ho] at y;cases y;rfl
  subst n;have f:=F.length;obtain⟨T,U,f2,V,W,Y⟩:=D it (by simp);rw[f] at g;exact wpAny_pyNext_dict_end (I.ok.hd hc) g j (List.getElem?_eq_none<|by lia) λG eb=>⟨rfl,I.turned (eb) T U V W Y⟩
 self:=λ_ _ _ _ _ g h=>wpAny_pyIter_keyiter g h
def iDK(te:TE):TI:=λσ H R=>te σ H λx H1=>∃ a kvs,x=.ref a/\H1 a=some (.dK kvs)/\∀ o,R (Itk a o kvs)<|upd H1 a<|.frz o<|.dK kvs
def Inv.frzD(I:Inv X pins σ H s)(c:H a=some (.dK kvs)):
  Ex3 λo es ep=>An3 (o.data=.dict es ep) (s.heap.get? a=some o) (Inv X pins σ (upd H a<|.frz o<|.dK kvs) s):=by
 obtain⟨z,hd,vs,e,d⟩:=jg5 I.hok c;obtain⟨o,es,ep,b,g,f,h,i,j⟩:=id d;refine⟨o,es,ep,f,b,?_⟩;exact VG I (by rw[c];exact trivial) ⟨rfl,λ_ _=>rfl⟩ ⟨o,b⟩<|⟨b,z,hd,vs,e,d⟩
def jkR{X}{tg e}{te}(r:PE X e te):PI X tg e (iDK te):=by
 intro g s σ H R I h;refine thn (r g s σ H _ I h) λv f t=>?_;obtain⟨x,w,y,z,a,c,ex,A,q⟩:=t;subst ex;obtain rfl:v=Value.ref a:=z;obtain⟨o,B,C,m,D,k⟩:=y.frzD A;have E:upd w a (.frz o<|.dK c) a=some (.frz o<|.dK c):=jk;obtain⟨_,hd,vs,F,G⟩:=jf5 k.hok E;obtain⟨d,i⟩:=G.dictAt;have l:d=C:=by
  obtain⟨M,J,n,_,p,_⟩:=id i;rw[D] at n;cases n;rw[m] at p;cases p;rfl
 subst l;refine wpAny_pyIter_dict hd i ?_;have K:∀ b u,f.heap.get? b=some u->(f.heap.push ({cls:=.type "dict_keyiterator",data:=.fields #[.ref a,.int 0 0,.int vs.length 0,.int d 0]}:Obj)).get? b=some u:=λb u q=>L8 _ q;refine⟨↥f,[↥f],_,_,_,rfl,k.kept K,jfK a _ o c B d m,⟨_,X9 _ rfl,rfl,by rw[F.length];rfl⟩,λb L=>?_,q o⟩;have j:↥f<=b:=by
  have:b=↥f:=by simpa using L
  rw[this];exact M8 _
 exact k.fpOk j<|k.hok.fresh j
end L2
namespace PySem
open Sem (wp)
namespace F
def lk_tuple_keys:typeLookup (.type "tuple") "keys" = pure none:=by rw[typeLookup_type,builtinLookup_eq_fast];kernel_rfl
def lk_tuple_getattr:typeLookup (.type "tuple") "__getattr__" = pure none:=by rw[typeLookup_type,builtinLookup_eq_fast];kernel_rfl
end F
section
variable {prog:Program}{w:World}{A:Around}{E:W0}{h:Heap}{g:Array GenState}{d:Drawn}{t:Nat}{os:OsState}{a:Addr}{o:Obj}
def Qh{its}{n}{sl}{tk}{Q}(c:A.handled=none)(i:h.get? a=some {cls:=.type "tuple",data:=.seq its n,slots:=sl})
  (f:∀ h' e t',(∀ b o,h.get? b=some o->h'.get? b=some o)->h.get? e=none->(∃ ob,h'.get? e=some ob/\ob.cls=.type "AttributeError")->E (.ref e) ⟨h',g,d,t',os⟩):
  wpAny (model prog w) A (Builtin.«object.__getattribute__» ⟨[.ref a,.str "keys" tk],[]⟩) Q E ⟨h,g,d,t,os⟩:=by
 have j:=F.lk_tuple_keys
 repeat (any_goals (first | assumption | wp_step))
 exact YW (by decide +kernel) c f
def wb{its}{n}{sl}{tk}{R}(f:A.handled=none)(c:h.get? a=some {cls:=.type "tuple",data:=.seq its n,slots:=sl})
  (i:∀ h' e t',(∀ b o,h.get? b=some o->h'.get? b=some o)->h.get? e=none->(∃ ob,h'.get? e=some ob/\ob.cls=.type "AttributeError")->R (.error<|.ref e) ⟨h',g,d,t',os⟩):
  codeAny (model prog w) A (.call (.builtin "tuple.__getattribute__") ⟨[.ref a,.str "keys" tk],[]⟩) R ⟨h,g,d,t,os⟩:=by
 exact codeAny_call_builtin F.slot_tuple_getattribute.plain F.entry_tuple_ga<|F.slot_tuple_getattribute.check _ _ _ _ _ _ _ _ (⟨_,c,rfl⟩) (F.args_tuple_getattribute_2 _ _)<|Qh (f) c i
def jcV{its}{n}{sl}{tk}{Q}(j:A.handled=none)(k:h.get? a=some {cls:=.type "tuple",data:=.seq its n,slots:=sl})
  (l:∀ h' e t',(∀ b o,h.get? b=some o->h'.get? b=some o)->h.get? e=none->(∃ ob,h'.get? e=some ob/\ob.cls=.type "AttributeError")->E (.ref e) ⟨h',g,d,t',os⟩):
  wpAny (model prog w) A (getAttrBy (.ref a) (.str "keys" tk) false) Q E ⟨h,g,d,t,os⟩:=by
 have u:=F.sub_attrErr;have v:=F.slot_tuple_getattribute.lookup;have x:=F.slot_tuple_getattribute.bind<|.ref a;have y:=F.lk_tuple_getattr
 repeat (any_goals (first | assumption | wp_step))
 refine wb j k λh' e t' m p i=>?_;have c:=i;obtain⟨ob,f,q⟩:=i;have r:(⟨h',g,d,t',os⟩:Shared).TypeIs (.ref e) "AttributeError":=⟨_,f,q⟩;have s:=l h' e t' m p c
 repeat (any_goals (first | assumption | wp_step))
def wa{its}{n}{sl}{Q}(f:A.handled=none)(i:h.get? a=some {cls:=.type "tuple",data:=.seq its n,slots:=sl})
  (j:∀ h' t',(∀ b o,h.get? b=some o->h'.get? b=some o)->Q none ⟨h',g,d,t',os⟩):wpAny (model prog w) A (getAttr? (.ref a) "keys") Q E ⟨h,g,d,t,os⟩:=by
 refine L3<|wpAny_mkText<|L3<|wpAny_attempt<|jcV f i λh' e t' k r l=>?_;obtain⟨ob,c,m⟩:=l;have p:(⟨h',g,d,t',os⟩:Shared).TypeIs (.ref e) "AttributeError":=⟨_,c,m⟩;have s:=F.sub_attrErr;have q:=j h' t' k
 repeat (any_goals (first | assumption | wp_step))
end
section
variable {prog:Program}{w:World}{K:Type} [DecidableEq K] {knd:KeyKind prog w K}{A:Around}{E:W0}{s:Shared}
def wV{R}(hh:A.handled=none)  (q:ax≠I) (h:D≠I) (N:D≠ax) {items:Array Value}{ps:List (K×Value)}(r:items.size=ps.length):∀ k i s kvs,
  items.size-i=k->i<=items.size->(s.heap.IsTupleIter I ax i/\s.heap.IsTuple ax items)->s.heap.DictOf knd D kvs ->
  (∀(j:Nat) v,items[j]?=some v->∃ kv,ps[j]?=some kv/\jbq knd s.heap v kv/\v≠.ref I/\v≠.ref D)->kvs.length+k<=100000 ->
  (∀ h' tk,h'.DictOf knd D ((ps.drop i).foldl (λa kv=>stored a kv.1 kv.2) kvs)->(∀ b o,b≠I->b≠D->s.heap.get? b=some o->h'.get? b=some o)->R (.ok<|.ret .none) {s with heap:=h',toks:=tk}) ->
  codeAny (model prog w) A (.builtin "dict.update.loop" ⟨[.ref D,.ref I,rawInt i,.none],[]⟩) R s:=by
 intro k
 induction k with
 | zero=>
  intro i s kvs hk hi l hd O hz P;have Q:i=items.size:=by lia
  subst Q;have W:=Walks.tuple (prog:=prog) (w:=w) (A:=A.in1) (hh) I ax q items;refine codeAny_builtin F.entry_dict_loop<|L3<|W.done s _ _ l λh' tk c=>?_;have fin:=P h' tk (by rw[r,List.drop_length];exact hd.extBut (λb o d e=>c b o ⇑d e) h)<|λb o d _ e=>c b o ⇑d e
  repeat (any_goals (first | assumption | wp_step))
 | succ k ih=>
  intro i s kvs hk hi l hd O hz P;have t:i<items.size:=by lia
  have W:=Walks.tuple (prog:=prog) (w:=w) (A:=A.in1) (hh) I ax q items;refine codeAny_builtin F.entry_dict_loop<|L3<|W.item i s _ _ t l λv h' tk hP u c=>?_;obtain⟨kv,x,⟨p,key,m,po,rfl,S,T,U,y⟩,V,hvD⟩:=O i v hP;refine L3<|wpAny_holding<|L3<|wpAny_tryCatch<|YX (c p _ ⇑(λz=>V<|by rw[z]) S) T U ?_;have hsz:sizeLine=16777216:=by decide
  refine wpAny_holding<|wpAny_dictSet_pairs y (hd.extBut (λb o d e=>c b o ⇑d e) h) (λX B hs=>(M6 ⟨plainId_quiet F.plain_dict_loop _,?_⟩)) (by lia);have Y:ps.drop i=kv::ps.drop (i+1):=by
   have C:i<ps.length:=by lia
   rw[List.drop_eq_getElem_cons C];have:ps[i]=kv:=by
    rw[X7 C] at x;exact X5 x
   rw[this]
  refine ih (i+1) _ (stored kvs kv.1 kv.2) (by lia) t (W.frame (i+1) h' X u λb d o e=>(hs.2 b ?_).trans e) B (λj v hv=>?_) ?_ λh3 Z hd3 hk3=>?_
  ·rcases M4.mp d with rfl | d
   ·exact λz=>h z.symm
   ·rw[M7.mp d];exact λz=>N z.symm
  ·obtain⟨kv',E,⟨p',G,m',po',rfl,H,J,L,n⟩,f,g⟩:=O j v hv;exact⟨kv',E,⟨p',G,m',po',rfl,((hs.2 p' λz=>g<|by rw[z]).trans (c p' _ ⇑(λz=>f<|by rw[z]) H)),J,L,n⟩,f,g⟩
  ·have:=stored_length_le kvs kv.1 kv.2
   lia
  ·refine P h3 Z ?_ λb o d M e=>hk3 b o d M<|(hs.2 b M).trans (c b o ⇑d e);rw[Y,X0];exact hd3
def JZ{p}{its}{n}{sl}{ps:List (K×Value)}{Q}(L:A.handled=none)(u:s.heap.get? p=some {cls:=.type "tuple",data:=.seq its n,slots:=sl})(k:its.size=ps.length)
  (P:∀(j:Nat) v,its[j]?=some v->∃ kv,ps[j]?=some kv/\jbq knd s.heap v kv) (U:ps.length<=100000)
  (h:∀ h' tk,h'.DictOf knd ↥s (ps.foldl (λa kv=>stored a kv.1 kv.2) [])->(∀ b o,s.heap.get? b=some o->h'.get? b=some o)->Q (.ref ↥s) {s with heap:=h',toks:=tk}):
  wpAny (model prog w) A (call (.type "dict") [.ref p]) Q E s:=by
 refine callType_codes (Q₁:=λobj M=>obj=.ref ↥s/\M={ s with heap:=s.heap.push {cls:=.type "dict",data:=.dict #[]} }) F.kt_called_dict (F.kt_typeCall_dict_1 _) F.entry_dict_init (kt_code_dict_new _ ⟨rfl,rfl⟩) ?_;rintro obj M ⟨rfl,rfl⟩;have c:(s.heap.push {cls:=.type "dict",data:=.dict #[]}).DictOf knd ↥s []:=Heap.DictOf.new s.heap;refine⟨c.typeIs,F.args_dict_init_2 _ _,?_⟩;have f:(s.heap.push {cls:=.type "dict",data:=.dict #[]}).get? p=some {cls:=.type "tuple",data:=.seq its n,slots:=sl}:=L8 _ u;have N:s.heap.get? ↥s=none:=Heap.get?_none_of_le<|M8 _;refine L3<|L3<|wpAny_notOrdered_dict c.typeIs<|M6<|L3<|wpAny_typeOf ⟨_,f,rfl⟩<|L3<|wa L f λO V d=>?_
 ·rw[if_pos<|show(Option.isNone none)=true from rfl];refine L3<|wpAny_rule ?_;have g:=d p _ f;have x:O.IsTuple p its:=⟨_,g,rfl,n,rfl⟩;refine L3<|wpAny_pyIter_tuple x ?_;have l:=N6<|N0<|d ↥s _ (X9 _ rfl);have y:↥s≠p:=λz=>by rw[<- z,N] at u;cases u
  refine M6 ⟨plainId_quiet F.plain_dict_loop _,?_⟩;refine wV (A:=A.in1) (knd:=knd) (L) (N6<|N0 g) l y k its.size 0 _ [] (by lia) (U5 _) ⟨⟨_,X9 _ rfl,rfl,rfl⟩,?_⟩ ?_ (λR v S=>?_) (by simp;lia) λT B C D=>?_
  ·exact⟨_,L8 _ g,rfl,n,rfl⟩
  ·exact c.extBut (λb o W e=>L8 _<|d b o e) l
  ·obtain⟨kv,G,t,H,m,po,rfl,i,I,J,q⟩:=P R v S;have r:=d t _<|L8 _ i;refine⟨kv,G,⟨t,H,m,po,rfl,L8 _ r,I,J,q⟩,λz=>?_,λz=>?_⟩
   ·have z:t=O.objs.size:=by injection z
    exact absurd z<|N6<|N0 r
   ·have z:t=↥s:=by injection z
    rw[z,N] at i;cases i
  ·refine⟨rfl,h T B C λb o e=>?_⟩;have r:=d b o<|L8 _ e;exact D b o (N6<|N0 r) (N6<|N0 e)<|L8 _ r
end
end PySem
namespace L2
open PySem PySem.Spec PyProof.Rows
def jky(K:W3)(H:Hp)(p:Addr)(ys:List V):Prop:=Rd H p (.tup ys) \/ ∃ o its n,K.lookup p=some o/\o.cls=.type "tuple"/\o.data=.seq its n/\its.size<=sizeLine/\Vals ys its.toList/\o.dict=none
def Inv.tupN(I:Inv X pins σ H s)(h:jky X.K H p ys):Ex3 λits o n=>An5 (Vals ys its) (s.heap.get? p=some o) (o.cls=.type "tuple") (o.data=.seq its.toArray n) (o.dict=none):=by
 rcases h with h | ⟨o,its,n,f,g,i,m,j,k⟩
 ·obtain⟨_,its,l,⟨o,e,a,n,b⟩,q,d,c⟩:=(h.ok I.hok);rw[e] at d;cases d;exact⟨its,o,n,l,e,a,b,c⟩
 ·exact⟨its.toList,o,n,j,I.kIn p o f,g,by simpa using i,k⟩
def YS{X}(A:X.calm=true):qk X (.type "dict") (λxs H Q=>∃(p:Addr) (ys:List V) (ps:List<|Key×V),xs=[.ref p]/\jky X.K H p ys/\ys.length=ps.length/\ps.length<=100000 /\
  (∀(j:Nat) y,ys[j]?=some y->∃ kv t,ps[j]?=some kv/\y=.ref t/\SqT X.K H t [kV kv.1,kv.2])/\∀ D,H D=none->Q (.ref D) (upd H D<|.dK<|ps.foldl (λa kv=>Jd a kv.1 kv.2) [])):=by
 intro w s σ H xs N Q I r h;obtain⟨p,ys,ps,rfl,B,hl,C,E,q⟩:=h;obtain⟨u,rfl,F⟩:=r.one;cases F;obtain⟨d,o,n,x,e,f,g,i⟩:=I.tupN B;obtain⟨oc,od,k,G⟩:=o;subst f i g;obtain⟨z,b,l⟩:=xh I x hl E;have c:d.toArray.size=z.length:=by rw[N3,<- x.length,hl,b.length]
 refine JZ (I.ok.hd A) e c (λj v J=>l j v ⇑J) (by rw[<- b.length];exact C) λO P hd L=>?_;have m:=uy (ps:=ps) (qs:=[]);have M:sizeLine=16777216:=by decide
 exact⟨.ref ↥s,_,I.laid L (M8 _)<|jb8 (by simp at m;lia) (U2.mpr<|Ne.symm<|N6 I.big) (QN b .nil) hd,rfl,q _<|I.hok.fresh<|M8 _⟩
def jcy(l)(items)(n)(a)(sl)(u)(b:¬ items.isEmpty=true):
  Meets (Builtin.«tuple.__mul__» ⟨[.ref l,.int 0 u],[]⟩) (λ_ R s=>s.heap.get? l=some {cls:=.type "tuple",dict:=a,data:=.seq items n,slots:=sl}/\R (.ok<|.ret<|.ref ↥s) { s with heap:=s.heap.push {cls:=.type "tuple",data:=.seq #[]} }):=
 .of_wp λprog w A R s h=>by
  rcases s with⟨c,d,e,f,os⟩;obtain⟨hl,q⟩:=h
  wp_walk using wpAny_loadPart' hl
  all_goals first | exact⟨_,rfl,q⟩ | (exfalso;simp_all)
def jfc(K:W3):R2:=λx y H Q=>∃ a xs n,x=.ref a/\y=.int n/\SqT K H a xs/\xs≠[]/\xs.length<=1000/\0<=n/\n<=1000/\(n=1->Q (.ref a) H)/\(n≠1->∀ p,H p=none->Q (.ref p) (upd H p<|.tup (List.replicate n.toNat xs).flatten))
def jhr:OpR X (binaryOp .Mult) (jfc X.K):=by
 intro d s σ H x y v u Q I i j h;obtain⟨a,w,n,rfl,rfl,k,l,hl,J,A,B,p⟩:=h;by_cases C:n=0
 ·subst C;cases i;obtain⟨f,rfl⟩:=j;obtain⟨c,D,p1,_⟩:=I.tuple k;obtain⟨⟨cls,r,data,t⟩,e,E,m,hd⟩:=id p1;subst E hd;refine wpAny_binaryOp_repeat_ref (by decide) ⟨_,e,rfl⟩ (λG=>typeIs_int G 0 f) JS PySem.F.fills_int_mul PySem.F.slot_int_rmul JR PySem.F.slot_int_index.lookup<|call_meets PySem.F.slot_int_rmul (typeIs_int s 0 f) PySem.F.entry_int_rmul (PySem.F.args_int_rmul_2 _ _) (xg 0 f a c.toArray m r t) ⟨e,rfl,⟨_,e,rfl⟩,?_⟩
  have g:¬ c.toArray.isEmpty=true:=by
   simp;exact λz=>l<|D.nil_iff.mp z
  exact call_meets PySem.F.slot_tuple_mul ⟨_,e,rfl⟩ PySem.F.entry_tuple_mul (PySem.F.args_tuple_mul_2 _ _) (jcy a c.toArray m r t f g) ⟨e,⟨.ref ↥s,_,I.laid (o:=.tup []) (λb ob q=>L8 _ q) (M8 _) ⟨by decide,[],.nil,IsTupN.new _ _⟩,rfl,p (by decide) _<|I.hok.fresh<|M8 _⟩⟩
 ·exact jhk d s σ H _ _ v u Q I i j ⟨a,w,n,rfl,rfl,k,l,hl,by lia,A,B,p⟩
end L2
namespace PySem
open Sem (wp)
end PySem
namespace L2
open PySem PySem.Spec PyProof.Rows
end L2
namespace PySem
open PySem.W PyProof.Rows PySem.Calls
end PySem
set_option maxHeartbeats 4000000
namespace PySem
open PySem.W PyProof.Rows PySem.Calls
end PySem
namespace PySem
open Sem (wp)
end PySem
namespace L2
open PySem PySem.Spec PyProof.Rows
end L2
set_option maxHeartbeats 1000000
namespace PySem
namespace F
end F
end PySem
namespace L2
open PySem PySem.Spec PyProof.Rows
structure Z3(z TI TO j1 j2 j3 t l m:Addr):Prop where
 TIz:TI≠z
 TOz:TO≠z
 j1z:j1≠z
 j2z:j2≠z
 j3z:j3≠z
 TITO:TI≠TO
 TIj1:TI≠j1
 TIj2:TI≠j2
 TIj3:TI≠j3
 TOj1:TO≠j1
 TOj2:TO≠j2
 TOj3:TO≠j3
 j12:j1≠j2
 j13:j1≠j3
 j23:j2≠j3
 out:∀ x,x=t\/x=l\/x=m->x≠z/\x≠TO/\x≠j1/\x≠j2/\x≠j3
end L2
namespace PySem
namespace F
end F
end PySem
namespace L2
open PySem PySem.Spec PyProof.Rows
end L2
namespace PySem
open Sem (wp)
namespace F
def lk_zip_keys:typeLookup (.type "zip") "keys" = pure none:=by rw[typeLookup_type,builtinLookup_eq_fast];kernel_rfl
def lk_zip_getattr:typeLookup (.type "zip") "__getattr__" = pure none:=by rw[typeLookup_type,builtinLookup_eq_fast];kernel_rfl
def entry_zip_ga:entryFor table "zip.__getattribute__" = some Builtin.«object.__getattribute__»:=entryFor_alias (id':="object.__getattribute__") (by kernel_rfl) (by first | rfl | decide +kernel) (by decide +kernel) (by kernel_rfl)
end F
section
variable {prog:Program}{w:World}{A:Around}{E:W0}{h:Heap}{g:Array GenState}{d:Drawn}{t:Nat}{os:OsState}{a:Addr}{o:Obj}
def ze{fs}{tk}{Q}(c:A.handled=none)(i:h.get? a=some {cls:=.type "zip",data:=.fields fs})
  (f:∀ h' e t',(∀ b o,h.get? b=some o->h'.get? b=some o)->h.get? e=none->(∃ ob,h'.get? e=some ob/\ob.cls=.type "AttributeError")->E (.ref e) ⟨h',g,d,t',os⟩):
  wpAny (model prog w) A (Builtin.«object.__getattribute__» ⟨[.ref a,.str "keys" tk],[]⟩) Q E ⟨h,g,d,t,os⟩:=by
 have j:=F.lk_zip_keys
 repeat (any_goals (first | assumption | wp_step))
 exact YW (by decide +kernel) c f
def wW{fs}{tk}{R}(f:A.handled=none)(c:h.get? a=some {cls:=.type "zip",data:=.fields fs})
  (i:∀ h' e t',(∀ b o,h.get? b=some o->h'.get? b=some o)->h.get? e=none->(∃ ob,h'.get? e=some ob/\ob.cls=.type "AttributeError")->R (.error<|.ref e) ⟨h',g,d,t',os⟩):
  codeAny (model prog w) A (.call (.builtin "zip.__getattribute__") ⟨[.ref a,.str "keys" tk],[]⟩) R ⟨h,g,d,t,os⟩:=by
 exact codeAny_call_builtin F.slot_zip_getattribute.plain F.entry_zip_ga<|F.slot_zip_getattribute.check _ _ _ _ _ _ _ _ (⟨_,c,rfl⟩) (F.args_zip_getattribute_2 _ _)<|ze (f) c i
def jdX{fs}{tk}{Q}(j:A.handled=none)(k:h.get? a=some {cls:=.type "zip",data:=.fields fs})
  (l:∀ h' e t',(∀ b o,h.get? b=some o->h'.get? b=some o)->h.get? e=none->(∃ ob,h'.get? e=some ob/\ob.cls=.type "AttributeError")->E (.ref e) ⟨h',g,d,t',os⟩):
  wpAny (model prog w) A (getAttrBy (.ref a) (.str "keys" tk) false) Q E ⟨h,g,d,t,os⟩:=by
 have s:=F.sub_attrErr;have u:=F.slot_zip_getattribute.lookup;have v:=F.slot_zip_getattribute.bind<|.ref a;have x:=F.lk_zip_getattr
 repeat (any_goals (first | assumption | wp_step))
 refine wW j k λh' e t' m n i=>?_;have c:=i;obtain⟨ob,f,p⟩:=i;have q:(⟨h',g,d,t',os⟩:Shared).TypeIs (.ref e) "AttributeError":=⟨_,f,p⟩;have r:=l h' e t' m n c
 repeat (any_goals (first | assumption | wp_step))
def x9{fs}{Q}(f:A.handled=none)(i:h.get? a=some {cls:=.type "zip",data:=.fields fs})
  (j:∀ h' t',(∀ b o,h.get? b=some o->h'.get? b=some o)->Q none ⟨h',g,d,t',os⟩):wpAny (model prog w) A (getAttr? (.ref a) "keys") Q E ⟨h,g,d,t,os⟩:=by
 refine L3<|wpAny_mkText<|L3<|wpAny_attempt<|jdX f i λh' e t' k q l=>?_;obtain⟨ob,c,m⟩:=l;have n:(⟨h',g,d,t',os⟩:Shared).TypeIs (.ref e) "AttributeError":=⟨_,c,m⟩;have r:=F.sub_attrErr;have p:=j h' t' k
 repeat (any_goals (first | assumption | wp_step))
end
end PySem
namespace L2
open PySem PySem.Spec PyProof.Rows
section
variable {prog:Program}{w:World}{A:Around}{E:W0}{s:Shared}{z TI TO j1 j2 l t:Addr}{m:Nat}{us vs:Array Value}{u v a b:Value}
abbrev Y7(h:Heap)(z TI TO c:Addr)(f:Bool):Prop:=h.get? z=some {cls:=.type "zip",dict:=none,data:=.fields #[rawInt c,.bool f,.bool false,.ref TI,.ref TO],slots:=#[]}
def jiF{c}{f}{K}(a:Y7 s.heap z TI TO c f)(h:∀ k0,Y7 k0 z TI TO c true->Heap.SameBut z s.heap k0->K false {s with heap:=k0}):
  wpAny (model prog w) A (if(Value.bool f != Value.bool true)=true then do {setField (.ref z) 1 (.bool true);pure false} else pure false) K E s:=by
 cases f with
 | false=>exact L3<|wpAny_setField_rec a (by simp) λk0 b d=>M6<|h k0 b d
 | true=>exact M6<|h s.heap a ⟨rfl,λ_ _=>rfl⟩
def jfb{c}{f}{oc}{C:W0}(D:ZipApart z TI TO j1 j2 l t)(d:Y7 s.heap z TI TO c f)(n:s.heap.get? c=some oc)(qI:IsPair s.heap TI (.ref j1)<|.ref j2)
  (p:s.heap.IsListIter j1 l m) (q2:s.heap.IsTupleIter j2 t m) (w1:s.heap.IsList l us) (w2:s.heap.IsTuple t vs) (q:us[m]?=some u) (r:vs[m]?=some v)
  (go:∀ k,Y7 k z TI TO c true->k.IsListIter j1 l (m+1)->k.IsTupleIter j2 t (m+1)->IsPair k ↥s u v->k.objs.size=↥s+1 ->
   (∀ c o,c≠z->c≠j1->c≠j2->s.heap.get? c=some o->k.get? c=some o)->C (.ref ↥s) {s with heap:=k}):
  wpAny (model prog w) A (Builtin.«zip.__next__» ⟨[.ref z],[]⟩) (λfin s'=>∃ v,fin=.done (.ret v)/\C v s') E s:=by
 show wpAny (model prog w) A (field (.ref z) 2 >>= _) _ _ _;refine L3<|U6 d rfl rfl<|L3<|U6 d rfl rfl<|L3<|wpAny_seqItems qI rfl<|L3<|L3<|U6 d rfl rfl<|L3<|PySem.W.kdx_alive n<|L3<|U6 d rfl rfl<|jiF d λM x a=>(L3 ?_);refine L3<|L3<|wpAny_holding<|L3<|wpAny_nextOf_list_item (p.extBut a.extBut D.i1z) (w1.extBut a.extBut D.l1z) q λN p1 g=>M6<|M6<|L3<|L3<|wpAny_holding<|L3<|xR ((q2.extBut a.extBut D.i2z).extBut g.extBut D.i12.symm) ((w2.extBut a.extBut D.l2z).extBut g.extBut D.l2i1) r λb p2 h=>M6<|M6<|M6 ?_;show wpAny _ _ (newTuple [u,v] >>= _) _ _ _;refine L3<|wpAny_newTuple<|M6 ⟨_,rfl,?_⟩;have y:b.objs.size=↥s:=by rw[h.1,g.1,a.1]
 have kp:∀ c o,c≠z->c≠j1->c≠j2->s.heap.get? c=some o->(b.push {cls:=.type "tuple",data:=.seq #[u,v]}).get? c=some o:=λc o B F G e=>L8 _<|h.extBut _ _ G<|g.extBut _ _ F<|a.extBut _ _ B e;have i:IsPair (b.push {cls:=.type "tuple",data:=.seq #[u,v]}) b.objs.size u v:=X9 _ rfl;have j:(b.push {cls:=.type "tuple",data:=.seq #[u,v]}).objs.size=b.objs.size+1:=Heap.size_push ..;rw[y] at i j ⊢;obtain⟨x1,H,I⟩:=(p1.extBut h.extBut D.i12);obtain⟨J,K,L⟩:=p2;exact go _ (L8 _<|h.extBut _ _ D.i2z.symm<|g.extBut _ _ D.i1z.symm x) ⟨x1,L8 _ H,I⟩ ⟨J,L8 _ K,L⟩ i j kp
def jkl{c}{f}{oc}{C}(d:A.handled=none)(D:ZipApart z TI TO j1 j2 l t)(a:Y7 s.heap z TI TO c f)(g:s.heap.get? c=some oc)(qI:IsPair s.heap TI (.ref j1)<|.ref j2)
  (h:s.heap.IsListIter j1 l m) (w1:s.heap.IsList l us) (i:us[m]?=none)
  (go:∀ k e,(∀ c o,c≠z->c≠j1->c≠j2->s.heap.get? c=some o->k.get? c=some o)->(∃ o,k.get? e=some o/\o.cls=.type "StopIteration")->E (.ref e) {s with heap:=k}):
  wpAny (model prog w) A (Builtin.«zip.__next__» ⟨[.ref z],[]⟩) C E s:=by
 show wpAny (model prog w) A (field (.ref z) 2 >>= _) _ _ _;refine L3<|U6 a rfl rfl<|L3<|U6 a rfl rfl<|L3<|wpAny_seqItems qI rfl<|L3<|L3<|U6 a rfl rfl<|L3<|PySem.W.kdx_alive g<|L3<|U6 a rfl rfl<|jiF a λu v b=>(L3 ?_);exact L3<|L3<|wpAny_holding<|L3<|wpAny_nextOf_list_end d (h.extBut b.extBut D.i1z) (w1.extBut b.extBut D.l1z) i λj e n p=>(go j e (λc o q r _ x=>n _ _ r<|b.extBut _ _ q x) p)
def ZS(z TI TO j1 j2 l t:Addr)(i:Nat)(h:Heap):Prop:=IsPair h TI (.ref j1) (.ref j2)/\(∃ a b,IsPair h TO a b)/\h.IsListIter j1 l i/\h.IsTupleIter j2 t i/\(IsZip h z TI TO .none \/ ∃ c f oc,Y7 h z TI TO c f/\h.get? c=some oc)
def jhq{C}(D:ZipApart z TI TO j1 j2 l t)(q:ZS z TI TO j1 j2 l t m s.heap)(w1:s.heap.IsList l us)(w2:s.heap.IsTuple t vs)(j:us[m]?=some u)(n:vs[m]?=some v)
  (go:∀ k,ZS z TI TO j1 j2 l t (m+1) k->IsPair k ↥s u v->(∀ c o,c≠z->c≠TO->c≠j1->c≠j2->s.heap.get? c=some o->k.get? c=some o)->C (some<|.ref ↥s) {s with heap:=k}):wpAny (model prog w) A (pyNext<|.ref z) C E s:=by
 obtain⟨qI,⟨a,b,p⟩,r,x,g⟩:=q;rcases g with g | ⟨c,f,oc,g,B⟩
 ·refine jcN D g qI p r x w1 w2 j n λk c1 J c3 h i c6 d=>go k ⟨d _ _ D.TIz D.TITO D.TIi1 D.TIi2 qI,⟨_,_,J⟩,c3,h,.inr ⟨_,false,_,c1,i⟩⟩ i d
 ·have ty:s.TypeIs (.ref z) "zip":=⟨_,g,rfl⟩;refine L3<|wpAny_attempt<|wpAny_callSpecial?_slot ty F.slot_zip_next<|wpAny_call_entry F.slot_zip_next ty F.entry_zip_next
   (jfb D g B qI r x w1 w2 j n λk c1 c3 h i c6 d=>M6 ?_) (F.args_zip_next_1 _)
  have al:∃ oc,k.get? c=some oc:=by
   by_cases G:c=z
   ·subst G;exact⟨_,c1⟩
   by_cases H:c=j1
   ·obtain⟨_,y,_⟩:=c3;subst H;exact⟨_,y⟩
   by_cases I:c=j2
   ·obtain⟨_,y,_⟩:=h;subst I;exact⟨_,y⟩
   exact⟨_,d c oc G H I B⟩
  obtain⟨K,al⟩:=al;exact go k ⟨d _ _ D.TIz D.TIi1 D.TIi2 qI,⟨_,_,d _ _ D.TOz D.TOi1 D.TOi2 p⟩,c3,h,.inr ⟨_,true,_,c1,al⟩⟩ i λc o L _ M N e=>d c o L M N e
def jgz{C}(g:A.handled=none)(D:ZipApart z TI TO j1 j2 l t)(q:ZS z TI TO j1 j2 l t m s.heap)(w1:s.heap.IsList l us)(h:us[m]?=none)
  (go:∀ k,(∀ c o,c≠z->c≠TO->c≠j1->c≠j2->s.heap.get? c=some o->k.get? c=some o)->C none {s with heap:=k}):wpAny (model prog w) A (pyNext<|.ref z) C E s:=by
 obtain⟨qI,⟨a,b,y⟩,i,B,d⟩:=q;rcases d with d | ⟨c,f,oc,d,j⟩
 ·exact jcX g D d qI i w1 h go
 ·have ty:s.TypeIs (.ref z) "zip":=⟨_,d,rfl⟩;refine L3<|wpAny_attempt<|wpAny_callSpecial?_slot ty F.slot_zip_next<|wpAny_call_entry F.slot_zip_next ty F.entry_zip_next (jkl g D d j qI i w1 h λk e kp n=>?_)<|F.args_zip_next_1 _;obtain⟨o,p,r⟩:=n;exact L3<|wpAny_isInstance ⟨o,p,r⟩ isSubtype_stop<|M6<|go _ λc o u _ v x e=>kp c o u v x e
end
section
variable {prog:Program}{w:World}{K:Type} [DecidableEq K] {knd:KeyKind prog w K}{A:Around}{E:W0}{z TI TO j1 j2 l t:Addr}{us vs:Array Value}
def ZS.keep{i}{h h'}{X}(q:ZS z TI TO j1 j2 l t i h)(k:∀ b o,b≠X->h.get? b=some o->h'.get? b=some o)(g:X≠z)(m:X≠TI)(n:X≠TO)(p:X≠j1)(r:X≠j2)(nx:∀ o,h.get? X=some o->∃ o',h'.get? X=some o'):ZS z TI TO j1 j2 l t i h':=by
 obtain⟨qI,⟨a,b,s⟩,⟨x1,u,v⟩,⟨w,x,y⟩,d⟩:=q;refine⟨k _ _ m.symm qI,⟨a,b,k _ _ n.symm s⟩,⟨x1,k _ _ p.symm u,v⟩,⟨w,k _ _ r.symm x,y⟩,?_⟩;rcases d with d | ⟨c,f,oc,d,j⟩
 ·exact .inl<|k _ _ g.symm d
 ·by_cases e:c=X
  ·obtain⟨o',A⟩:=nx oc<|e▸j;exact .inr ⟨c,f,o',k _ _ g.symm d,e▸A⟩
  ·exact .inr ⟨c,f,oc,k _ _ g.symm d,k _ _ e j⟩
def wq{R:Result->Shared->Prop}(Y:A.handled=none){D:Addr}(d:ZipApart z TI TO j1 j2 l t)(J:D≠z)(Z:D≠TI)(L:D≠TO)(M:D≠j1)(N:D≠j2)(n6:D≠l)(n7:D≠t){ps:List (K×Value)}(x:us.size=ps.length)
  (hp:∀(j:Nat) u,us[j]?=some u->∃ kv,ps[j]?=some kv/\knd.is kv.1 u=true/\vs[j]?=some kv.2):∀(k i:Nat) (s:Shared) (kvs:List<|K×Value),
  us.size-i=k->i<=us.size->ZS z TI TO j1 j2 l t i s.heap->s.heap.IsList l us->s.heap.IsTuple t vs->s.heap.DictOf knd D kvs->kvs.length+k<=100000 ->
  (∀ h' tk,h'.DictOf knd D ((ps.drop i).foldl (λa kv=>stored a kv.1 kv.2) kvs)->(∀ b o,b≠z->b≠TO->b≠j1->b≠j2->b≠D->s.heap.get? b=some o->h'.get? b=some o)->R (.ok<|.ret .none) {s with heap:=h',toks:=tk}) ->
  codeAny (model prog w) A (.builtin "dict.update.loop" ⟨[.ref D,.ref z,rawInt i,.none],[]⟩) R s:=by
 intro k
 induction k with
 | zero=>
  intro i s kvs hk hi g w1 w2 hd hz O;have P:i=us.size:=by lia
  subst P;refine codeAny_builtin F.entry_dict_loop<|L3<|jgz Y d g w1 (by simp) λh' c=>?_;have fin:=O h' s.toks (by rw[x,List.drop_length];exact hd.at λo e=>c D o J L M N e)<|λb o m n p v _ e=>c b o m n p v e
  repeat (any_goals (first | assumption | wp_step))
 | succ k ih=>
  intro i s kvs hk hi g w1 w2 hd hz O;have h:i<us.size:=by lia
  obtain⟨kv,y,B,C⟩:=hp i us[i] (by simp[h]);refine codeAny_builtin F.entry_dict_loop<|L3<|jhq d g w1 w2 (u:=us[i]) (by simp[h]) C λh' E hT c=>(L3<|wpAny_holding<|L3<|wpAny_tryCatch<|YX hT rfl rfl ?_);have hsz:sizeLine=16777216:=by decide
  refine wpAny_holding<|wpAny_dictSet_pairs B (hd.at λo e=>c D o J L M N e) (λG f hs=>(M6 ⟨plainId_quiet F.plain_dict_loop _,?_⟩)) (by lia);have Q:ps.drop i=kv::ps.drop (i+1):=by
   have H:i<ps.length:=by lia
   rw[List.drop_eq_getElem_cons H];have:ps[i]=kv:=by
    rw[X7 H] at y;exact X5 y
   rw[this]
  have S:=λb o m n p v I e=>(hs.2 b I).trans (c b o m n p v e);have T:G.IsList l us:=by
   obtain⟨o,e,r⟩:=w1;exact⟨o,S l o d.l1z d.l1TO d.l1i1 d.l1i2 n6.symm e,r⟩
  have U:G.IsTuple t vs:=by
   obtain⟨o,e,r⟩:=w2;exact⟨o,S t o d.l2z d.l2TO d.l2i1 d.l2i2 n7.symm e,r⟩
  refine ih (i+1) _ (stored kvs kv.1 kv.2) (by lia) h (E.keep (λb o hb e=>(hs.2 b hb).trans e) J Z L M N<|λo _=>?_) T U f ?_ λh3 V W X=>?_
  ·obtain⟨q,_,_,e,_⟩:=f;exact⟨q,e⟩
  ·have:=stored_length_le kvs kv.1 kv.2
   lia
  ·refine O h3 V ?_ λb o m n p v I e=>X b o m n p v I<|S b o m n p v I e;rw[Q,X0];exact W
end
section
variable {prog:Program}{w:World}{K:Type} [DecidableEq K] {knd:KeyKind prog w K}{A:Around}{E:W0}{s:Shared}{z TI TO j1 j2 l t:Addr}{us vs:Array Value}
def VA{ps:List (K×Value)}{Q}(r:A.handled=none)(G:ZipApart z TI TO j1 j2 l t)(k:IsZip s.heap z TI TO .none)(qI:IsPair s.heap TI (.ref j1)<|.ref j2)(v:IsPair s.heap TO .none .none)(H:s.heap.IsListIter j1 l 0)(q2:s.heap.IsTupleIter j2 t 0)(w1:s.heap.IsList l us)(w2:s.heap.IsTuple t vs)(f:us.size=ps.length)
  (I:∀(j:Nat) u,us[j]?=some u->∃ kv,ps[j]?=some kv/\knd.is kv.1 u=true/\vs[j]?=some kv.2) (Y:ps.length<=100000)
  (h:∀ h' tk,h'.DictOf knd ↥s (ps.foldl (λa kv=>stored a kv.1 kv.2) [])->(∀ b o,b≠z->b≠TO->b≠j1->b≠j2->s.heap.get? b=some o->h'.get? b=some o)->Q (.ref ↥s) {s with heap:=h',toks:=tk}):
  wpAny (model prog w) A (call (.type "dict") [.ref z]) Q E s:=by
 refine callType_codes (Q₁:=λobj x=>obj=.ref ↥s/\x={ s with heap:=s.heap.push {cls:=.type "dict",data:=.dict #[]} }) F.kt_called_dict (F.kt_typeCall_dict_1 _) F.entry_dict_init (kt_code_dict_new _ ⟨rfl,rfl⟩) ?_;rintro obj x ⟨rfl,rfl⟩;have c:(s.heap.push {cls:=.type "dict",data:=.dict #[]}).DictOf knd ↥s []:=Heap.DictOf.new s.heap;refine⟨c.typeIs,F.args_dict_init_2 _ _,?_⟩;have g:(s.heap.push {cls:=.type "dict",data:=.dict #[]}).get? z=_:=L8 _ k;refine L3<|L3<|wpAny_notOrdered_dict c.typeIs<|M6<|L3<|wpAny_typeOf ⟨_,g,rfl⟩<|L3<|x9 r g λZ t2 i=>?_
 ·rw[if_pos<|show(Option.isNone none)=true from rfl];refine L3<|wpAny_rule ?_;have d:=λb o e=>i b o<|L8 _ e;refine L3<|PySem.wpAny_pyIter_zip (d _ _ k) ?_;have lt:∀{b o},s.heap.get? b=some o->↥s≠b:=λe q=>by have:=N0 e;rw[<- q] at this;exact Nat.lt_irrefl _ this
  obtain⟨J,y,L⟩:=H;obtain⟨M,B,N⟩:=q2;obtain⟨O,C,P⟩:=w1;obtain⟨R,D,S⟩:=w2;refine M6 ⟨plainId_quiet F.plain_dict_loop _,?_⟩;refine wq (A:=A.in1) (r) G (lt k) (lt qI) (lt v) (lt y) (lt B) (lt C) (lt D) f I us.size 0 _ [] (by lia) (U5 _) ⟨d _ _ qI,⟨_,_,d _ _ v⟩,⟨J,d _ _ y,L⟩,⟨M,d _ _ B,N⟩,.inl<|d _ _ k⟩ ⟨O,d _ _ C,P⟩ ⟨R,d _ _ D,S⟩ (c.at<|i _) (by simp;lia) λT m n p=>?_
  ·refine⟨rfl,h T m n λb o U V W X e=>p b o U V W X (lt e).symm (d b o e)⟩
end
def jgW(K:W3):List V->Hp->VK->Prop:=λxs H Q=>∃(l t:Addr) (ys:List V) (ps:List<|Key×V),xs=[.ref l,.ref t]/\SqL K H l (ps.map λkv=>kV kv.1)/\SqT K H t ys/\(∀(j:Nat) kv,ps[j]?=some kv->ys[j]?=some kv.2)/\ps.length<=100000/\∀ D,H D=none->Q (.ref D) (upd H D<|.dK<|ps.foldl (λa kv=>Jd a kv.1 kv.2) [])
def jj1:∀{ps}{us}{ys}{vs},Vals (ps.map λkv=>kV kv.1) us->Vals ys vs->(∀(j:Nat) kv,ps[j]?=some kv->ys[j]?=some kv.2) ->
  ∃(qs:List<|Key×Value),An3 (KV ps qs) (us.length=qs.length) (∀(j:Nat) u,us[j]?=some u->∃ kv,qs[j]?=some kv/\(yg P w).is kv.1 u=true/\vs[j]?=some kv.2):=by
 intro ps
 induction ps with
 | nil=>
  intro us ys vs a b h;cases a;exact⟨[],.nil,rfl,λj u e=>by simp at e⟩
 | cons kv ps d=>
  intro us ys vs a b h;cases a with
  | cons f g=>
   rename_i u i;have c:=h 0 kv rfl;cases b with
   | nil=>cases c
   | cons l m=>
    rename_i y v n o;cases c;obtain⟨qs,r,hl,q⟩:=d g m λj k e=>by simpa using h (j+1) k ⇑e
    refine⟨(kv.1,v)::qs,.cons ⟨rfl,l⟩ r,by simp[hl],λj w e=>?_⟩;cases j with
    | zero=>cases e;exact⟨_,rfl,Qg f,rfl⟩
    | succ j=>exact q j w ⇑e
def jfD{X}(T:X.calm=true)(U:Gl X "dict")(hm:X.mg "dict" = none)(B:Gl X "zip")(C:X.mg "zip" = none)(V:PA X [a,b] ta)
  (W:starEach [.Call (.Name "zip" p2) [a,b] [] pos2] X.env=(false,eval (.Call (.Name "zip" p2) [a,b] [] pos2) X.env)::starEach [] X.env:=by rfl)
  (D:(backTo pos<|starEach [] X.env).any (·.1)=false:=by rfl)
  (Y:backTo pos (starEach [.Call (.Name "zip" p2) [a,b] [] pos2] X.env)=[(false,eval (.Call (.Name "zip" p2) [a,b] [] pos2) X.env)]:=by rfl)
  (hs:starEach [a,b] X.env=[(false,eval a X.env),(false,eval b X.env)]:=by rfl) (i:starEach [b] X.env=[(false,eval b X.env)]:=by rfl):
  PE X (.Call (.Name "dict" p) [.Call (.Name "zip" p2) [a,b] [] pos2] [] pos) (tCB (jgW X.K) ta):=by
 intro k s σ H Q I h;refine wpAny_Call_Name_kw<|qU I U hm (show bootBuiltins "dict" = some (.type "dict") by decide +kernel) (PyProof.Rows.callWith_type1 (Calls.spliced_cons<|wpAny_Call_Name_kw<|qU I B C (show bootBuiltins "zip" = some (.type "zip") by decide +kernel) ?_ (by decide)<|by decide) W D) (by decide) (by decide);refine PyProof.Rows.callWith_type1 (thn (V pos2 k s σ H _ I h) λus A ⟨vs,H1,g,Z,q1⟩=>?_) (by rw[hs,i]) (by rw[i];rfl);obtain⟨E,l2,ys,ps,rfl,F,G,J,hz,q⟩:=q1;obtain⟨u,v,rfl,ru,rv⟩:=Z.two;cases ru;cases rv;obtain⟨l,L,c,hz1⟩:=g.list F;obtain⟨m,M,d,t⟩:=g.tuple G;have w:E < ↥A:=by
  obtain⟨o,_,e,_⟩:=c;exact N0 e
 have x:l2 < ↥A:=by
  obtain⟨o,e,_⟩:=id d;exact N0 e
 obtain⟨qs,y,hl,N⟩:=jj1 L M J;refine jck c.isList d λO S a2 a3 a4 a5 P=>Calls.spliced_nil ?_;have w1:O.IsList E l.toArray:=by
  obtain⟨o,e,r⟩:=c.isList;exact⟨o,P _ _ e,r⟩
 have w2:O.IsTuple l2 m.toArray:=by
  obtain⟨o,e,r⟩:=d;exact⟨o,P _ _ e,r⟩
 have f:=N7 (Nat.le_add_right _ 4)<|Nat.le_of_lt<|N0 S;refine VA (g.ok.hd T) (jcz _ E l2 w x) S a2 a3 a4 a5 w1 w2 (by rw[N3];exact hl) (λj u e=>by obtain⟨kv,e1,e2,e3⟩:=N j u ⇑e;exact⟨kv,e1,e2,by simpa using e3⟩) (by rw[<- y.length];exact hz) λh' tk hd R=>?_;have t:=uy (ps:=ps) (qs:=[]);have hsl:sizeLine=16777216:=by decide
 have ne:∀{b}{o} n,A.heap.get? b=some o->b≠↥A+n:=λn e q=>absurd (N0 e) (by rw[q];exact Nat.not_lt.mpr<|Nat.le_add_right _ _);refine⟨.ref O.objs.size,_,g.laid (λb o e=>R b o (ne 4 e) (ne 3 e) (ne 0 e) (ne 1 e)<|P b o e) f<|jb8 (by simp at t;lia) (U2.mpr<|λz=>?_) (QN y .nil) hd,rfl,q _<|g.hok.fresh f⟩;exact absurd z<|Nat.ne_of_gt<|U4 g.big f
end L2
namespace PySem
open L2 PyProof.Rows
end PySem
namespace L2
open PySem PySem.Spec PyProof.Rows
section
variable {prog:Program}{w:World}{A:Around}{E:W0}{s:Shared}
structure Zi where
 j:Addr
 c:Addr
 vs:Array Value
 x:Value
 k:Bool
variable {z TI TO:Addr}{its:List Zi}{n:Nat}{os:List Value}
end
end L2
namespace PySem
namespace F
end F
end PySem
namespace L2
open PySem PySem.Spec PyProof.Rows
end L2
namespace PySem
open Sem (wp)
end PySem
namespace L2
open PySem PySem.Spec PyProof.Rows
end L2
namespace PyProof.Rows
open PySem
end PyProof.Rows
namespace L2
open PySem PySem.Spec PyProof.Rows
def RdK(K:W3)(H:Hp)(b:Addr)(p:PyData):Prop:=hkP 6 p=true/\(∃ l,p=.tuple l)/\∀(X:Cx) (pins:W1) (σ:St) (s:Shared),X.K=K->Inv X pins σ H s->∃ as,Reads s.heap (.ref b) p as
def KyN(K:W3)(H:Hp)(kvs:List<|PyData×Addr×V):Prop:=∀ e∈kvs,∃ p,RdK K H e.2.1 p/\nkP p=e.1
noncomputable def jfE(kvs:List<|PyData×Addr×V)(k:PyData):Bool:=kvs.any λe=>decide<|e.1=k
noncomputable abbrev KNs:=Paired λ(p:PyData×Addr×V) (q:PyData×Addr×Value)=>p.1=q.1/\p.2.1=q.2.1/\RelV p.2.2 q.2.2
section
variable {X:Cx}{pins:List (Addr×Obj)}{σ:St}{H:Hp}{s:Shared}{a b:Addr}{kvs:List (PyData×Addr×V)}{p:PyData}
def RdK.is(r:RdK X.K H b p)(I:Inv X pins σ H s):isN s.heap (nkP p) b:=by
 obtain⟨a,⟨l,rfl⟩,c⟩:=r;obtain⟨d,q⟩:=c X pins σ s rfl I;exact⟨l,d,a,q,rfl⟩
def KNs.any{xs}(r:KNs kvs xs)(k:PyData):(atKey xs k).isSome=jfE kvs k:=by
 induction r with
 | nil=>rfl
 | @cons p q ps b h _ a=>
  unfold atKey jfE at *;rw[List.find?_cons,List.any_cons,h.1];by_cases e:q.1=k
  ·simp[e]
  ·rw[X2 e,Bool.false_or,<- a]
def jcp(I:Inv X pins σ H s)(e:H a=some (.dN kvs))(k:KyN X.K H kvs):∃ xs,KNs kvs xs/\kvs.length<=sizeLine/\(a==sysModules)=false/\s.heap.DictOfH (VM X.prog X.w) a xs:=by
 obtain⟨z,y,xs,r,o,d,f,g,i,j,n,v⟩:=(I.hok a _ e);refine⟨xs,r,z,y,o,d,f,g,i,j,n,?_,v⟩;have all:∀{l m},KNs l m->KyN X.K H l->∀ x∈m,(VM X.prog X.w).is s.heap x.1 x.2.1:=by
  intro l m q
  induction q with
  | nil=>intro _ x b;exact nomatch b
  | @cons p q ps E h t A=>
   intro c x b;rcases M4.mp b with e | b
   ·subst e;obtain⟨u,B,C⟩:=c p (by simp);have:=B.is I;rw[C,h.1,h.2.1] at this;exact this
   ·exact A (λe D=>c e<|by simp[D]) x b
 exact all r k
def jiN(K:W3)(neg:Bool):R2:=λx y H Q=>∃ a b kvs p,x=.ref b/\y=.ref a/\H a=some (.dN kvs)/\KyN K H kvs/\RdK K H b p/\Q (.bl<|neg != jfE kvs (nkP p)) H
def jie(l:X.A.units+64<cLine):OpR X (compareOp .In) (jiN X.K false):=by
 intro c s σ H x y v u Q I d e h;obtain⟨a,b,f,p,rfl,rfl,g,i,j,q⟩:=h;cases d;cases e;obtain⟨m,r,_,hd,k⟩:=jcp I g i;refine wpAny_in_heap (by show X.A.units+1+6<_;lia) (j.is I) hd k ?_;rw[r.any];exact⟨.bl _,H,I.tok _,rfl,by simpa using q⟩
def ux(l:X.A.units+64<cLine):OpR X (compareOp .NotIn) (jiN X.K true):=by
 intro c s σ H x y v u Q I d e h;obtain⟨a,b,f,p,rfl,rfl,g,i,j,q⟩:=h;cases d;cases e;obtain⟨m,r,_,hd,k⟩:=jcp I g i;refine wpAny_notIn_heap (by show X.A.units+1+6<_;lia) (j.is I) hd k ?_;rw[r.any];exact⟨.bl _,H,I.tok _,rfl,by simpa using q⟩
def KNs.snoc{xs}(r:KNs kvs xs){k:PyData}{v:V}{u:Value}(q:RelV v u):KNs (kvs++[(k,b,v)]) (xs++[(k,b,u)]):=by
 induction r with
 | nil=>exact .cons ⟨rfl,rfl,q⟩ .nil
 | cons h _ a=>exact .cons h a
def jeh{A:Around}{v:V}{r:Value}{Q E}(C:A.units+64<cLine)(I:Inv X pins σ H s)(e:H a=some (.dN kvs))(i:KyN X.K H kvs)(j:RdK X.K H b p)(hn:jfE kvs (nkP p)=false)(hl:kvs.length<sizeLine)(k:RelV v r)
  (h:∀ s',Inv X pins σ (upd H a<|.dN<|kvs++[(nkP p,b,v)]) s'->Q () s'):wpAny (model X.prog X.w) A (dictSet a (.ref b) r) Q E s:=by
 obtain⟨f,d,z,hd,l⟩:=jcp I e i;have m:f.length<=sizeLine:=by rw[<- Paired.length d];exact z
 refine wpAny_dictSet_heap (hsz:=m) (by show A.units+6<_;lia) (j.is I) l λD c hs=>h _ ?_;have n:atKey f (nkP p)=none:=by
  have:=d.any<|nkP p;rw[hn] at this;simpa using this
 rw[storedH_new n] at c;obtain⟨q,o,t,g,u,x,y,_,B⟩:=c;exact VG I (by rw[e];exact True.intro) hs ⟨q,g⟩ ⟨by simp;lia,hd,_,d.snoc k,q,o,t,g,u,x,y,B⟩
def jhd(K:W3)(td ty tv:TE):TS:=λD σ H=>tv σ H λv H1=>td σ H1 λx H2=>ty σ H2 λy H3=>∃ a b kvs p,x=.ref a/\y=.ref b/\H3 a=some (.dN kvs)/\KyN K H3 kvs/\RdK K H3 b p/\jfE kvs (nkP p)=false/\kvs.length<sizeLine/\D.nx σ (upd H3 a<|.dN<|kvs++[(nkP p,b,v)])
def jhO{o i value:Expr}{td ty tv:TE}{pos pos':Pos}(T:X.A.units+100<cLine)(j:PE X o td)(hi:PE X i ty)(k:PE X value tv)(hs:swapsWith value (some<|.Subscript o i pos') pos.line X.env=pure false):
  PS X (.Assign [.Subscript o i pos'] value pos) (jhd X.K td ty tv):=by
 intro c s σ H D I h;refine wpAny_Assign_Subscript (thn (k c s σ H _ I h) λr l ⟨v,m,n,q,t⟩=>thn (j c l σ m _ n t) λu w ⟨x,B,C,E,G⟩=>thn (hi c w σ B _ C G) λU J L=>?_) hs;obtain⟨y,V,e,M,a,b,N,p,rfl,rfl,f,g,O,P,hl,Q⟩:=L;cases E;cases M;obtain⟨W,Y,z,hd,R⟩:=jcp e f g;have d:=R.typeIs;unfold setItem;refine wpAny_holding<|L3<|wpAny_sequenceKey d (by decide) ?_;refine L3<|wpAny_callSpecial?_slot (name:=Str.ofString "__setitem__") d PySem.F.slot_dict_setitem<|wpAny_call_entry PySem.F.slot_dict_setitem d PySem.F.entry_dict_setitem ?_<|PySem.F.args_dict_setitem_3 _ _ _;refine L3<|wpAny_notOrdered_dict d ?_;show wpAny _ _ (dictSet a (.ref b) r >>= _) _ _ J;exact L3<|jeh (by show X.A.units+1+64<_;lia) e f g O P hl q λZ S=>M6 ⟨.none,rfl,M6 ⟨σ,_,S,Q⟩⟩
def zN(h:Heap)(a:sysModules<h.objs.size):ObjOk P w H (h.push {cls:=.type "dict",data:=.dict #[]}) h.objs.size (.dN []):=
 ⟨U5 _,by simpa using Nat.ne_of_gt a,[],.nil,_,#[],0,X9 _ rfl,⟨rfl,rfl,rfl⟩,rfl,rfl,List.nodup_nil⟩
def uj:TE:=λ_ H Q=>∀ p,H p=none->Q (.ref p) (upd H p<|.dN [])
def jdC{pos}:PE X (.Dict [] [] pos) uj:=λa s σ H Q I h=>
 wpAny_Dict_empty ⟨.ref ↥s,_,I.laid (λ_ _ q=>L8 _ q) (M8 _)<|zN s.heap I.big,rfl,h _<|I.hok.fresh<|M8 _⟩
def jk5(K:W3)(tk tv:TE):TE:=λσ H Q=>∀ a,H a=none->tk σ (upd H a<|.dN []) λy H1=>tv σ H1 λv H2=>H2 a=some (.dN [])/\∃ b p,y=.ref b/\RdK K H2 b p/\Q (.ref a) (upd H2 a<|.dN [(nkP p,b,v)])
def jdR{k e:Expr}{tk tv:TE}{pos:Pos}(D:X.A.units+100<cLine)(d:PE X k tk)(f:PE X e tv):PE X (.Dict [some k] [e] pos) (jk5 X.K tk tv):=by
 intro a s σ H Q I q;have g:=I.hok.fresh<|M8 ↥s;have c:=I.laid (t':=s.toks) (λ_ _ q=>L8 _ q) (M8 _)<|zN s.heap I.big;have h:=zip_pairTrees [some k] [e] X.env pos rfl rfl;rw[arm_eval_Dict,h,dictDisplay_pairs _ (by simp[pairTrees])<|by simp[pairTrees]];refine L3<|wpAny_standAt<|L3 ?_;unfold subDict;refine L3<|wpAny_alloc<|L3<|wpAny_holding ?_;rw[if_pos<|by simp[pairTrees]];refine L3<|pairTrees_cons_walk<|thn (d a _ σ _ _ c<|q _ g) λE i ⟨y,j,c,l,m⟩=>thn (f a i σ j _ c m) λn o ⟨v,F,r,t,u⟩=>pairTrees_nil_walk ?_;obtain⟨w,b,p,rfl,x,z⟩:=u;cases l;refine wpAny_holding ?_;rw[List.forIn_cons];refine L3<|L3 ?_;show wpAny _ _ (dictSet ↥s (.ref b) n >>= λ_=>pure<|ForInStep.yield PUnit.unit) _ _ o;refine L3<|jeh (A:=X.A) (by lia) r w (λe B=>nomatch B) x rfl (by show 0<sizeLine;decide) t λG C=>?_;exact M6<|M6<|M6<|M6<|M6 ⟨.ref ↥s,_,C,rfl,z⟩
def u5:qk X (.builtin "len") (λxs H Q=>∃ a kvs,xs=[.ref a]/\H a=some (.dN kvs)/\Q (.int kvs.length) H):=by
 intro c s σ H xs p Q I r h;obtain⟨a,kvs,rfl,f,q⟩:=h;obtain⟨u,rfl,g⟩:=r.one;cases g;obtain⟨z,hd,xs,i,o,j,t,d,k,l,n,v⟩:=(I.hok a _ f);have e:s.TypeIs (.ref a) "dict":=⟨o,d,k.1⟩;have b:j.size=kvs.length:=by rw[<- Array.length_toList,n,L1,<- Paired.length i]
 have hs:=sizeLine_eq;refine Calls.call_function_entry kind_len plain_len entry_len (args_len1 _) ?_;unfold Builtin.«len»;refine L3 (m:=oneArg "len" _)<|M6 ?_;refine L3 (m:=callSpecial? (.ref a)<|Str.ofString "__len__")<|wpAny_callSpecial?_slot (name:=Str.ofString "__len__") e F.slot_dict_len<|wpAny_call_entry F.slot_dict_len e F.entry_dict_len ?_<|F.args_dict_len_1 _;show wpAny _ _ (dictSize a >>= _) _ _ s;unfold dictSize;refine L3<|L3<|wpAny_dictEntries d l<|M6 ?_;show wpAny _ _ (Builtin.Dict.pendingCount a >>= _) _ _ s;refine L3<|wpAny_pendingCount_other hd<|wpAny_ret_mkInt ?_;rw[Nat.add_zero,b];refine L3<|wpAny_holding<|M6 ?_;refine L3<|wpAny_letGo ?_;show wpAny _ _ (if((kvs.length:Nat):Int)<0 then _ else _) _ _ _;rw[if_neg<|by lia];show wpAny _ _ (if((kvs.length:Nat):Int) ≥ 2 ^ 63 then _ else _) _ _ _;rw[if_neg<|by lia];exact L3<|wpAny_mkInt<|M6 ⟨_,rfl,.int kvs.length,H,(I.tok _).tok _,⟨_,rfl⟩,q⟩
end
section
variable {X:Cx}
def tLC(tf:TE)(ta:TA):TE:=λσ H Q=>tf σ H λf H1=>∃ a c q,f=.ref a/\H1 a=some (.ext<|kB a c q)/\ta σ H1 λvs H2=>∃ u,vs=[u]/\H2 a=some (.ext<|kB a c q)/\H2 c=some (.ext<|qd c q)/\Q (.bl false) H2
def jeW{pins σ H s a c q}(I:Inv X pins σ H s)(e:H a=some (.ext<|kB a c q)):∃ fd o,LamFd c q fd/\s.heap.get? a=some o/\o.data=.func fd:=(I.hok a _ e).1
def jjm{h:Heap}{a:Addr}{o:Obj}{fd:FuncData}(b:h.get? a=some o)(c:o.data=.func fd):PySem.W.FnAt a h:=by
 obtain⟨x,y,z,w⟩:=o;cases c;exact⟨x,y,fd,w,b⟩
def wE{x:Str}{p pos:Pos}{e:Expr}{t:TE}{ta:TA}{k}(E:Room (k+1) X.A)(F:PE X (.Name x p) t)(G:PA X [e] ta)
  (J:starEach [e] X.env=(false,eval e X.env)::starEach [] X.env:=by rfl) (l:(backTo pos<|starEach [] X.env).any (·.1)=false:=by rfl):PE X (.Call (.Name x p) [e] [] pos) (tLC t ta):=by
 intro d s σ H Q I h;refine wpAny_Call_Name_kw<|thn (F d s σ H _ I h) λfv K ⟨f,M,v,N,a,c,q,O,P,R⟩=>?_;subst O;cases N;obtain⟨S,o1,_,T,U⟩:=jeW v P;refine PySem.W.callWith_F (q:=a) (jjm T U) (thn (G pos d K σ M _ v R) λus B ⟨vs,V,j,r,u,Y,Z,e3,q2⟩=>?_) J l;subst Y;obtain⟨w,rfl,rw⟩:=r.one;obtain⟨fd,o,L,C,D⟩:=jeW j Z;refine⟨jjm C D,wpAny_call ?_⟩;obtain⟨kk,bp,hb⟩:=L.body;obtain⟨y,hy,g⟩:=L.bind;have m:B.heap.CodeRec fd.code fd.qualname:=by rw[L.code,L.qual];exact(j.hok c _ e3).1
 refine PySem.W.kla_callFunE (E1 (by lia) E.dp) C D L.co L.gen hb m ?_;show wpAny _ _ (bindArgs fd ⟨[w],[]⟩) _ _ _;rw[g,L.clos,L.glob,L.blt];refine M6<|wpAny_newFunctionEnv L.cell (λz hz=>by rw[M7.mp hz];exact hy) (λh₁ hns n=>?_) L.kind;have i:∀ b o,B.heap.get? b=some o->h₁.get? b=some o:=λb o e=>n.extBut b o (N6<|N0 e)<|L8 _ e;exact⟨j.nolimit.keeps i,PySem.W.kla_codeExpr<|wpAny_Constant_bool ⟨.bl false,V,j.kept i,rfl,q2⟩⟩
def vz(P:Addr)(ps:Array Value):Heap->Prop:=λh=>h.get? P=some (PySem.W.tabObj ps)
def ur{Pr:Program}{w:World}{H:Hp}{h:Heap}{a:Addr}{φ:Heap->Prop}(p:φ h)(e:∃ o,h.get? a=some o)(st:∀ h1 h2:Heap,φ h1->(∀ o,h1.get? a=some o->h2.get? a=some o)->φ h2):ObjOk Pr w H h a (.ext φ):=⟨p,e,st⟩
def jbf{Pr:Program}{w:World}{H:Hp}{h:Heap}{P:Addr}{ps}(p:vz P ps h):ObjOk Pr w H h P (.ext<|vz P ps):=ur p ⟨_,p⟩ λ_ _ q k=>k _ q
def jkd{Pr:Program}{w:World}{H:Hp}{h:Heap}{c:Addr}{q}(p:qd c q h):ObjOk Pr w H h c (.ext<|qd c q):=ur p (by obtain⟨a,o,vs,t,e,g,_⟩:=p;cases e;exact⟨o,g⟩) λb d x k=>by
 obtain⟨a,o,vs,t,e,g,r⟩:=x;cases e;exact⟨c,o,vs,t,rfl,k _ g,r⟩
def jeP{Pr:Program}{w:World}{H:Hp}{h:Heap}{a c:Addr}{q}(p:kB a c q h):ObjOk Pr w H h a (.ext<|kB a c q):=ur p (by obtain⟨fd,o,_,g,_⟩:=p;exact⟨o,g⟩) λb d x k=>by
 obtain⟨fd,o,L,g,r⟩:=x;exact⟨fd,o,L,k _ g,r⟩
def Inv.lam{pins}{σ:St}{H:Hp}{s:Shared}{h':Heap}{t':Nat}{P c a:Addr}{A j k l:Heap->Prop}(I:Inv X pins σ H s)(m:H P=some (.ext A))(h:Heap.ExtBut P s.heap h')(D:↥s<=c)(E:↥s<=a)(B:a≠c)
  (g:∀ H',ObjOk X.prog X.w H' h' P<|.ext j) (p:∀ H',ObjOk X.prog X.w H' h' c<|.ext k) (r:∀ H',ObjOk X.prog X.w H' h' a<|.ext l):
  Inv X pins σ (upd (upd (upd H P<|.ext j) c<|.ext k) a<|.ext l) {s with heap:=h',toks:=t'}:=by
 have lt:∀{b u},H b=some u->b < ↥s:=λe=>I.hok.lt e;have same:∀ b,b≠P->b < ↥s->upd (upd (upd H P<|.ext j) c<|.ext k) a (.ext l) b=H b:=λb f i=>by
  rw[jg<|by lia,jg<|by lia,jg f]
 have nP:∀{b u},H b=some u->(∀ φ,u≠.ext φ)->b≠P:=λe n z=>by subst z;rw[m] at e;cases e;exact n _ rfl
 have t:∀{b},H b=none->b≠P:=λe z=>by subst z;rw[m] at e;cases e
 refine I.un ⟨λb o e n _ _=>h b o (t n) e,λb o e n _ _=>⟨o.slots,h b o (t n) e⟩,λb o e n _=>by rw[same b (t n)<|N0 e];exact n,λb o e _=>?_,λb C e=>by rw[same b (nP e λ_ z=>nomatch z)<|lt e];exact e,λb o u e=>by rw[same b (nP e λ_ z=>nomatch z)<|lt e];exact e,λb ps e=>⟨#[],by rw[same b (nP e λ_ z=>nomatch z)<|lt e,e];simp⟩⟩ λb u e=>?_
 ·by_cases y:b=P
  ·subst y;exact(g H).2.1
  ·exact⟨o,h b o y e⟩
 ·by_cases f:b=a
  ·subst f;rw[jk] at e;cases e;exact r _
  ·by_cases i:b=c
   ·subst i;rw[jg f,jk] at e;cases e;exact p _
   ·by_cases x:b=P
    ·subst x;rw[jg f,jg i,jk] at e;cases e;exact g _
    ·rw[jg f,jg i,jg x] at e;refine(I.hok b u e).stay (λd v hd q=>?_) (λd q=>?_) λd C q=>?_
     ·refine h d v (λz=>?_) q;rcases hd with hd | hd
      ·exact x<|hd.symm.trans z
      ·rw[z,m] at hd;cases hd
     ·rw[same d (nP q λ_ z=>nomatch z)<|lt q];exact q
     ·rw[same d (nP q λ_ z=>nomatch z)<|lt q];exact q
def jks(P:Addr)(pos:Pos)(q:Str):TE:=λ_ H Q=>∃ ps,H P=some (.ext<|vz P ps)/\TriplesOk ps.toList /\
 ((codeAmong pos ps.toList=none/\∀ c a,H c=none->H a=none->a≠c->Q (.ref a) (upd (upd (upd H P<|.ext<|vz P<|ps++#[rawInt pos.line,rawInt pos.col,.ref c]) c<|.ext<|qd c q) a<|.ext<|kB a c q)) \/
  ∃ c,codeAmong pos ps.toList=some (.ref c)/\H c=some (.ext<|qd c q)/\∀ a,H a=none->Q (.ref a) (upd H a<|.ext<|kB a c q))
def jjy{params:Arguments}{body:Expr}{scope:Scope}{pos:Pos}{c P:Addr}{q:Str}(a:X.env.code=.ref c)(C:PySem.W.CodeHd X.base c P)(B:X.base.BuiltinsAt X.mg P)(n:mainGlobals≠P)(F:X.env.qual++"<lambda>" = q)
  (g:defaultsOf params X.env=([],[])) (i:closureFor scope X.env=pure []) (j:∀ c' pm ctv,LamFd c' q<|PySem.W.kla_fn "<lambda>" q params body scope [] pm (.ref c') ctv):PE X (.Lambda params body scope pos) (jks P pos q):=by
 intro t s σ H Q I h;obtain⟨ps,v,w,h⟩:=h;have x:s.heap.get? P=some (PySem.W.tabObj ps):=(I.hok P _ v).1;have y:=I.mod.glob.keeps I.bk;have z:=C.keeps I.bk;have A:=B.keeps I.bk;subst F;refine PySem.W.kla_eval g ?_;rcases h with⟨G,k⟩ | ⟨c',J,O,k⟩
 ·refine PySem.W.kla_makeFunction i I.ok.glob y a z x w G n A λc' ctv l K L d f m p=>?_;have D:↥s<=l.objs.size:=N7 d<|Nat.le_of_lt f;have r:Heap.ExtBut P s.heap (l.push<|PySem.W.kla_obj "<lambda>" (X.env.qual++"<lambda>") params body scope [] ((X.mg "__name__").getD .none) c' ctv):=λb o M e=>L8 _<|L b o M e;exact⟨.ref l.objs.size,_,I.lam v r d D (Nat.ne_of_gt f) (λ_=>jbf<|L8 _ p) (λ_=>jkd<|m.push _)<|λ_=>jeP ⟨_,_,j _ _ _,X9 _ rfl,rfl⟩,rfl,k c' _ (I.hok.fresh d) (I.hok.fresh D)<|Nat.ne_of_gt f⟩
 ·refine PySem.W.kla_makeFunctionHit i I.ok.glob y a z x w J A λctv l K N E=>?_;exact⟨.ref l.objs.size,_,I.laid (λb u e=>L8 _<|N b u e) E<|jeP ⟨_,_,j _ _ _,X9 _ rfl,rfl⟩,rfl,k _<|I.hok.fresh E⟩
end
end L2
namespace QD
open PySem L2
inductive KA where
 | int (i:Int) | str (s:List Nat)
 deriving DecidableEq
inductive D where
 | dN (o:Bool) (l:List D) | lam
 | non | bl (b:Bool) | int (i:Int) | str (s:List Nat)
 | tup (l:List D) | lst (o:Bool) (l:List D)
 | dK (o:Bool) (ks:List KA) (l:List D)
 | dT (o:Bool) (ks:List (List KA)) (l:List D)
 | ins (o:Bool) (c:Nat) (ns:List Str) (l:List D)
 | dead
  | tok (a:Addr)
 | kt (k:List KA)
  | exc (c:Nat) (p:Int)
def xo(C a dx:Addr):Heap->Prop:=λh=>∃ o vs,h.get? a=some o/\o.cls=.ref C/\o.dict=some dx/\o.data=.fields vs
mutual
noncomputable def fz:D->D
 | .tup l=>.tup<|fzs l
 | .lst _ l=>.lst false<|fzs l
 | .dK _ ks l=>.dK false ks<|fzs l
 | .dT _ ks l=>.dT false ks<|fzs l
 | .dN _ l=>.dN false<|fzs l
 | .ins _ c ns l=>.ins false c ns<|fzs l
 | .non=>.non | .bl b=>.bl b | .int i=>.int i | .str s=>.str s | .dead=>.dead | .tok a=>.tok a | .kt k=>.kt k | .exc c p=>.exc c p | .lam=>.lam
noncomputable def fzs:List D->List D
 | []=>[]
 | d::l=>fz d::fzs l
end
mutual
noncomputable def frz:D->Bool
 | .tup l=>frzs l
 | .lst o l=>!o&&frzs l
 | .dK o _ l=>!o&&frzs l
 | .dT o _ l=>!o&&frzs l
 | .dN o l=>!o&&frzs l
 | .ins o _ _ l=>!o&&frzs l
 | .non=>true | .bl _=>true | .int _=>true | .str _=>true | .dead=>true | .tok _=>true | .kt _=>true | .exc _ _=>true | .lam=>true
noncomputable def frzs:List D->Bool
 | []=>true
 | d::l=>frz d&&frzs l
end
mutual
theorem vh:∀ d:D,frz d=true->fz d=d
 | .tup l,h=>by rw[frz] at h;rw[fz,jf l h]
 | .lst o l,h=>by rw[frz,M0] at h;rw[fz,jf l h.2];cases o<;>simp_all
 | .dK o ks l,h=>by rw[frz,M0] at h;rw[fz,jf l h.2];cases o<;>simp_all
 | .dT o ks l,h=>by rw[frz,M0] at h;rw[fz,jf l h.2];cases o<;>simp_all
 | .dN o l,h=>by rw[frz,M0] at h;rw[fz,jf l h.2];cases o<;>simp_all
 | .ins o c ns l,h=>by rw[frz,M0] at h;rw[fz,jf l h.2];cases o<;>simp_all
 | .non,_=>rfl | .bl _,_=>rfl | .int _,_=>rfl | .str _,_=>rfl | .dead,_=>rfl | .tok _,_=>rfl | .kt _,_=>rfl | .exc _ _,_=>rfl | .lam,_=>rfl
theorem jf:∀ l:List D,frzs l=true->fzs l=l
 | [],_=>rfl
 | d::l,h=>by rw[frzs,M0] at h;rw[fzs,vh d h.1,jf l h.2]
end
mutual
theorem jjg:∀ d:D,frz (fz d)=true
 | .tup l=>by rw[fz,frz];exact kc l
 | .lst o l=>by rw[fz,frz,kc l];rfl
 | .dK o ks l=>by rw[fz,frz,kc l];rfl
 | .dT o ks l=>by rw[fz,frz,kc l];rfl
 | .dN o l=>by rw[fz,frz,kc l];rfl
 | .ins o c ns l=>by rw[fz,frz,kc l];rfl
 | .non=>rfl | .bl _=>rfl | .int _=>rfl | .str _=>rfl | .dead=>rfl | .tok _=>rfl | .kt _=>rfl | .exc _ _=>rfl | .lam=>rfl
theorem kc:∀ l:List D,frzs (fzs l)=true
 | []=>rfl
 | d::l=>by rw[fzs,frzs,jjg d,kc l];rfl
end
theorem v8:∀ l:List D,fzs l=l.map fz
 | []=>rfl
 | d::l=>by rw[fzs,v8 l];rfl
theorem qN:∀ l:List D,frzs l=l.all frz
 | []=>rfl
 | d::l=>by rw[frzs,qN l];rfl
structure RC where
 K:PySem.W.Frag
 cls:Nat->Addr
def kaV:KA->Key
 | .int i=>.inl i
 | .str s=>.inr<|S s
mutual
noncomputable def yu:D->PyData
 | .non=>.none | .bl b=>.bool b | .int i=>.int i | .str s=>.str<|S s
 | .tup l=>.tuple<|ye l
 | .lst _ l=>.list<|ye l
 | _=>.none
noncomputable def ye:List D->List PyData
 | []=>[]
 | d::l=>yu d::ye l
end
noncomputable def jmk:D->Bool
 | .tup _=>true
 | _=>false
def hkD(d:D):Bool:=jmk d&&hkP 6 (yu d)
def Vz:List D->Bool
 | []=>true
 | k::_::l=>hkD k&&Vz l
 | _=>false
noncomputable def adV:V->Addr
 | .ref a=>a
 | _=>0
def mkN:List D->List V->List (PyData×Addr×V)
 | k::_::l,u::v::vs=>(nkP<|yu k,adV u,v)::mkN l vs
 | _,_=>[]
mutual
theorem Qk:∀ d:D,yu (fz d)=yu d
 | .tup l=>by rw[fz,yu,yu,VT l]
 | .lst o l=>by rw[fz,yu,yu,VT l]
 | .non=>rfl | .bl _=>rfl | .int _=>rfl | .str _=>rfl | .dead=>rfl | .tok _=>rfl | .kt _=>rfl | .exc _ _=>rfl | .lam=>rfl | .dK _ _ _=>rfl | .dT _ _ _=>rfl | .dN _ _=>rfl | .ins _ _ _ _=>rfl
theorem VT:∀ l:List D,ye (fzs l)=ye l
 | []=>rfl
 | d::l=>by rw[fzs,ye,ye,Qk d,VT l]
end
def jh9(d:D):hkD (fz d)=hkD d:=by
 unfold hkD;rw[Qk];cases d<;>rfl
theorem uA:∀ l:List D,Vz (fzs l)=Vz l
 | []=>rfl
 | [_]=>rfl
 | k::d::l=>by show(hkD (fz k)&&Vz (fzs l))=_;rw[jh9,uA l];rfl
theorem jeg:∀(l:List D) (vs:List V),mkN (fzs l) vs=mkN l vs
 | [],_=>rfl
 | [_],vs=>by rcases vs with _ | ⟨_,_ | ⟨_,_⟩⟩<;>rfl
 | k::d::l,vs=>by
  rcases vs with _ | ⟨u,_ | ⟨v,vs⟩⟩
  ·rfl
  ·rfl
  ·show(nkP<|yu<|fz k,adV u,v)::mkN (fzs l) vs=_;rw[Qk,jeg l vs];rfl
noncomputable abbrev Zn:=Addr->Prop
def FT(R:RC)(Z:Zn)(H:Hp)(a:Addr)(vs:List V):Prop:=
 (Z a/\Rd H a (.tup vs)) \/ ∃ o its n,R.K.lookup a=some o/\o.cls=.type "tuple"/\o.data=.seq its n/\its.size<=sizeLine/\Vals vs its.toList/\o.dict=none
def FL(R:RC)(Z:Zn)(H:Hp)(a:Addr)(vs:List V):Prop:=
 (Z a/\Rd H a (.lst vs)) \/ ∃ its n,R.K.lookup a=some {cls:=.type "list",data:=.seq its n}/\its.size<=sizeLine/\Vals vs its.toList
def DkA(o:Bool)(H:Hp)(a:Addr)(kvs:List<|Key×V):Prop:=bif o then H a=some (.dK kvs) else Rd H a (.dK kvs)
inductive RpC (rs:List V->List Addr->Prop) (C:Addr->List V->List Addr->Prop) (v:V):Prop
 | mk:∀(a:Addr) (vs:List V) (O':W4),v=.ref a->rs vs O'->C a vs O'->RpC rs C v
inductive RpS (rd:V->List Addr->Prop) (rs:List V->List Addr->Prop) (vs:List V) (O:W4):Prop
 | mk:∀(v:V) (vs':List V) (O1 O2:W4),vs=v::vs'->O=O1++O2->rd v O1->rs vs' O2->RpS rd rs vs O
mutual
def Rep(R:RC)(Z:Zn)(H:Hp):D->V->List Addr->Prop
 | .non,v,O=>v=.non/\O=[]
 | .bl b,v,O=>v=.bl b/\O=[]
 | .int i,v,O=>v=.int i/\O=[]
 | .str s,v,O=>v=.str (S s)/\O=[]
 | .dead,_,O=>O=[]
 | .tok a,v,O=>v=.ref a/\O=[]
 | .kt k,v,O=>∃ a,v=.ref a/\Z a/\H a=some (.tup<|(k.map kaV).map kV)/\O=[]
 | .exc c p,v,O=>∃ a dx,v=.ref a/\Z a/\Z dx/\H a=some (.ext<|xo (R.cls c) a dx)/\H dx=some (.xd [("place",.int p)])/\O=[]
 | .tup l,v,O=>∃ a vs,v=.ref a/\FT R Z H a vs/\Reps R Z H l vs O
 | .lst o l,v,O=>RpC (λvs O'=>Reps R Z H l vs O') (λa vs O'=>bif o then H a=some (.lst vs)/\O=a::O' else FL R Z H a vs/\O'=[]/\O=[]) v
 | .dK o ks l,v,O=>RpC (λvs O'=>Reps R Z H l vs O') (λa vs O'=>ks.length=l.length/\DkA o H a ((ks.map kaV).zip vs)/\bif o then O=a::O' else Z a/\O'=[]/\O=[]) v
 | .dT o ks l,v,O=>RpC (λvs O'=>Reps R Z H l vs O') (λa vs O'=>ks.length=l.length/\H a=some (.dT<|(ks.map<|List.map kaV).zip vs)/\bif o then O=a::O' else Z a/\O'=[]/\O=[]) v
 | .dN o l,v,O=>RpC (λvs O'=>Reps R Z H l vs O') (λa vs O'=>Vz l=true/\H a=some (.dN<|mkN l vs)/\bif o then O=a::O' else Z a/\O'=[]/\O=[]) v
 | .lam,v,O=>∃ a c q,v=.ref a/\Z a/\Z c/\H a=some (.ext<|kB a c q)/\H c=some (.ext<|qd c q)/\O=[]
 | .ins o c ns l,v,O=>∃ a dx vs O',v=.ref a/\Reps R Z H l vs O'/\ns.length=l.length/\H a=some (.ins (R.cls c) dx<|ns.zip vs)/\bif o then O=a::O' else Z a/\O'=[]/\O=[]
def Reps(R:RC)(Z:Zn)(H:Hp):List D->List V->List Addr->Prop
 | [],vs,O=>vs=[]/\O=[]
 | d::ds,vs,O=>RpS (λv O1=>Rep R Z H d v O1) (λvs' O2=>Reps R Z H ds vs' O2) vs O
end
def FT.sq(h:FT R Z H a vs):SqT R.K H a vs:=by
 rcases h with⟨_,h⟩ | ⟨o,b,n,c,d,e,f,g,_⟩
 ·exact .inl h
 ·exact .inr ⟨o,b,n,c,d,e,f,g⟩
def FL.sqx(h:FL R Z H a vs):SqX R.K H a vs:=by
 rcases h with⟨_,h⟩ | h
 ·exact .inl h
 ·exact .inr h
def FL.sq(h:FL R Z H a vs):SqL R.K H a vs:=h.sqx.sq
def Rd.agree(e:H' a=H a)(h:Rd H a u):Rd H' a u:=by
 unfold Rd at h ⊢;rw[e];exact h
def FT.frame(b:∀ a,Z a->Z' a)(c:∀ a,Z a->H' a=H a)(h:FT R Z H a vs):FT R Z' H' a vs:=by
 rcases h with⟨z,h⟩ | h
 ·exact .inl ⟨b a z,Rd.agree (c a z) h⟩
 ·exact .inr h
def FL.frame(b:∀ a,Z a->Z' a)(c:∀ a,Z a->H' a=H a)(h:FL R Z H a vs):FL R Z' H' a vs:=by
 rcases h with⟨z,h⟩ | h
 ·exact .inl ⟨b a z,Rd.agree (c a z) h⟩
 ·exact .inr h
mutual
theorem Rep.frame(hz:∀ a,Z a->Z' a)(hH:∀ a,Z a->H' a=H a):∀{d:D}{v:V}{O:W4},Rep R Z H d v O->(∀ a∈O,H' a=H a)->Rep R Z' H' d v O
 | .non,_,_,h,_=>by rw[Rep] at h ⊢;exact h
 | .bl _,_,_,h,_=>by rw[Rep] at h ⊢;exact h
 | .int _,_,_,h,_=>by rw[Rep] at h ⊢;exact h
 | .str _,_,_,h,_=>by rw[Rep] at h ⊢;exact h
 | .dead,_,_,h,_=>by rw[Rep] at h ⊢;exact h
 | .tok _,_,_,h,_=>by rw[Rep] at h ⊢;exact h
 | .kt _,_,_,h,_=>by
  rw[Rep] at h ⊢;obtain⟨a,e,z,x,o⟩:=h;exact⟨a,e,hz a z,(hH a z).trans x,o⟩
 | .exc _ _,_,_,h,_=>by
  rw[Rep] at h ⊢;obtain⟨a,dx,e,z1,z2,h1,h2,h3⟩:=h;exact⟨a,dx,e,hz a z1,hz dx z2,(hH a z1).trans h1,(hH dx z2).trans h2,h3⟩
 | .lam,_,_,h,_=>by
  rw[Rep] at h ⊢;obtain⟨a,dx,q,e,z1,z2,h1,h2,h3⟩:=h;exact⟨a,dx,q,e,hz a z1,hz dx z2,(hH a z1).trans h1,(hH dx z2).trans h2,h3⟩
 | .tup l,_,_,h,hO=>by
  rw[Rep] at h ⊢;obtain⟨a,vs,e,t,r⟩:=h;exact⟨a,vs,e,t.frame hz hH,Reps.frame hz hH r hO⟩
 | .lst o l,_,_,h,hO=>by
  rw[Rep] at h ⊢;obtain⟨a,vs,O',e,r,h⟩:=h;cases o with
  | true=>
   obtain⟨h1,rfl⟩:=h;exact⟨a,vs,O',e,Reps.frame hz hH r λb hb=>hO b<|L6 _ hb,by rw[cond_true,hO a L7];exact⟨h1,rfl⟩⟩
  | false=>
   obtain⟨h1,rfl,rfl⟩:=h;exact⟨a,vs,[],e,Reps.frame hz hH r (λb hb=>nomatch hb),h1.frame hz hH,rfl,rfl⟩
 | .dK o ks l,_,_,h,hO=>by
  rw[Rep] at h ⊢;obtain⟨a,vs,O',e,r,hl,hd,h⟩:=h;cases o with
  | true=>
   have h:=(show _=_ from h);subst h;exact⟨a,vs,O',e,Reps.frame hz hH r λb hb=>hO b<|L6 _ hb,hl,by show H' a=some _;rw[hO a L7];exact hd,rfl⟩
  | false=>
   obtain⟨h1,rfl,rfl⟩:=h;exact⟨a,vs,[],e,Reps.frame hz hH r (λb hb=>nomatch hb),hl,Rd.agree (hH a h1) hd,hz a h1,rfl,rfl⟩
 | .dT o ks l,_,_,h,hO=>by
  rw[Rep] at h ⊢;obtain⟨a,vs,O',e,r,hl,hd,h⟩:=h;cases o with
  | true=>
   have h:=(show _=_ from h);subst h;exact⟨a,vs,O',e,Reps.frame hz hH r λb hb=>hO b<|L6 _ hb,hl,by rw[hO a L7];exact hd,rfl⟩
  | false=>
   obtain⟨h1,rfl,rfl⟩:=h;exact⟨a,vs,[],e,Reps.frame hz hH r (λb hb=>nomatch hb),hl,by rw[hH a h1];exact hd,hz a h1,rfl,rfl⟩
 | .dN o l,_,_,h,hO=>by
  rw[Rep] at h ⊢;obtain⟨a,vs,O',e,r,hl,hd,h⟩:=h;cases o with
  | true=>
   have h:=(show _=_ from h);subst h;exact⟨a,vs,O',e,Reps.frame hz hH r λb hb=>hO b<|L6 _ hb,hl,by rw[hO a L7];exact hd,rfl⟩
  | false=>
   obtain⟨h1,rfl,rfl⟩:=h;exact⟨a,vs,[],e,Reps.frame hz hH r (λb hb=>nomatch hb),hl,by rw[hH a h1];exact hd,hz a h1,rfl,rfl⟩
 | .ins o c ns l,_,_,h,hO=>by
  rw[Rep] at h ⊢;obtain⟨a,dx,vs,O',e,r,hl,hd,h⟩:=h;cases o with
  | true=>
   have h:=(show _=_ from h);subst h;exact⟨a,dx,vs,O',e,Reps.frame hz hH r λb hb=>hO b<|L6 _ hb,hl,by rw[hO a L7];exact hd,rfl⟩
  | false=>
   obtain⟨h1,rfl,rfl⟩:=h;exact⟨a,dx,vs,[],e,Reps.frame hz hH r (λb hb=>nomatch hb),hl,by rw[hH a h1];exact hd,hz a h1,rfl,rfl⟩
theorem Reps.frame(hz:∀ a,Z a->Z' a)(hH:∀ a,Z a->H' a=H a):∀{l:List D}{vs:List V}{O:W4},Reps R Z H l vs O->(∀ a∈O,H' a=H a)->Reps R Z' H' l vs O
 | [],_,_,h,_=>by rw[Reps] at h ⊢;exact h
 | d::l,_,_,h,hO=>by
  rw[Reps] at h ⊢;obtain⟨v,vs,O1,O2,e,rfl,r1,r2⟩:=h;exact⟨v,vs,O1,O2,e,rfl,Rep.frame hz hH r1 λa ha=>hO a<|List.mem_append_left _ ha,Reps.frame hz hH r2 λa ha=>hO a<|U3 _ ha⟩
end
mutual
theorem Rep.nil:∀{d:D}{v:V}{O:W4},Rep R Z H d v O->frz d=true->O=[]
 | .non,_,_,h,_=>by rw[Rep] at h;exact h.2
 | .bl _,_,_,h,_=>by rw[Rep] at h;exact h.2
 | .int _,_,_,h,_=>by rw[Rep] at h;exact h.2
 | .str _,_,_,h,_=>by rw[Rep] at h;exact h.2
 | .dead,_,_,h,_=>by rw[Rep] at h;exact h
 | .tok _,_,_,h,_=>by rw[Rep] at h;exact h.2
 | .kt _,_,_,h,_=>by rw[Rep] at h;obtain⟨_,_,_,_,h⟩:=h;exact h
 | .exc _ _,_,_,h,_=>by rw[Rep] at h;obtain⟨_,_,_,_,_,_,_,h⟩:=h;exact h
 | .lam,_,_,h,_=>by rw[Rep] at h;obtain⟨_,_,_,_,_,_,_,_,h⟩:=h;exact h
 | .tup l,_,_,h,f=>by
  rw[Rep] at h;rw[frz] at f;obtain⟨a,vs,e,t,r⟩:=h;exact Reps.nil r f
 | .lst o l,_,_,h,f=>by
  rw[Rep] at h;rw[frz] at f;obtain⟨a,vs,O',e,r,h⟩:=h;cases o with
  | true=>exact absurd f (by simp)
  | false=>exact h.2.2
 | .dK o ks l,_,_,h,f=>by
  rw[Rep] at h;rw[frz] at f;obtain⟨a,vs,O',e,r,hl,hd,h⟩:=h;cases o with
  | true=>exact absurd f (by simp)
  | false=>exact h.2.2
 | .dT o ks l,_,_,h,f=>by
  rw[Rep] at h;rw[frz] at f;obtain⟨a,vs,O',e,r,hl,hd,h⟩:=h;cases o with
  | true=>exact absurd f (by simp)
  | false=>exact h.2.2
 | .dN o l,_,_,h,f=>by
  rw[Rep] at h;rw[frz] at f;obtain⟨a,vs,O',e,r,hl,hd,h⟩:=h;cases o with
  | true=>exact absurd f (by simp)
  | false=>exact h.2.2
 | .ins o c ns l,_,_,h,f=>by
  rw[Rep] at h;rw[frz] at f;obtain⟨a,dx,vs,O',e,r,hl,hd,h⟩:=h;cases o with
  | true=>exact absurd f (by simp)
  | false=>exact h.2.2
theorem Reps.nil:∀{l:List D}{vs:List V}{O:W4},Reps R Z H l vs O->frzs l=true->O=[]
 | [],_,_,h,_=>by rw[Reps] at h;exact h.2
 | d::l,_,_,h,f=>by
  rw[Reps] at h;rw[frzs,M0] at f;obtain⟨v,vs,O1,O2,e,rfl,r1,r2⟩:=h;rw[Rep.nil r1 f.1,Reps.nil r2 f.2];rfl
end
mutual
theorem Rep.freeze:∀{d:D}{v:V}{O:W4},Rep R Z H d v O->(∀ a,Z a->Z' a)->(∀ a∈O,Z' a)->Rep R Z' H (fz d) v []
 | .non,_,_,h,_,_=>by rw[Rep] at h;rw[fz,Rep];exact⟨h.1,rfl⟩
 | .bl _,_,_,h,_,_=>by rw[Rep] at h;rw[fz,Rep];exact⟨h.1,rfl⟩
 | .int _,_,_,h,_,_=>by rw[Rep] at h;rw[fz,Rep];exact⟨h.1,rfl⟩
 | .str _,_,_,h,_,_=>by rw[Rep] at h;rw[fz,Rep];exact⟨h.1,rfl⟩
 | .dead,_,_,h,_,_=>by rw[fz,Rep]
 | .tok _,_,_,h,_,_=>by rw[Rep] at h;rw[fz,Rep];exact⟨h.1,rfl⟩
 | .kt _,_,_,h,hz,_=>by
  rw[Rep] at h;rw[fz,Rep];obtain⟨a,e,z,x,o⟩:=h;exact⟨a,e,hz a z,x,rfl⟩
 | .exc _ _,_,_,h,hz,_=>by
  rw[Rep] at h;rw[fz,Rep];obtain⟨a,dx,e,z1,z2,h1,h2,_⟩:=h;exact⟨a,dx,e,hz a z1,hz dx z2,h1,h2,rfl⟩
 | .lam,_,_,h,hz,_=>by
  rw[Rep] at h;rw[fz,Rep];obtain⟨a,dx,q,e,z1,z2,h1,h2,_⟩:=h;exact⟨a,dx,q,e,hz a z1,hz dx z2,h1,h2,rfl⟩
 | .tup l,_,_,h,hz,hO=>by
  rw[Rep] at h;rw[fz,Rep];obtain⟨a,vs,e,t,r⟩:=h;exact⟨a,vs,e,t.frame hz λ_ _=>rfl,Reps.freeze r hz hO⟩
 | .lst o l,_,_,h,hz,hO=>by
  rw[Rep] at h;rw[fz,Rep];obtain⟨a,vs,O',e,r,h⟩:=h;cases o with
  | true=>
   obtain⟨h1,rfl⟩:=h;exact⟨a,vs,[],e,Reps.freeze r hz λb hb=>hO b<|L6 _ hb,.inl ⟨hO a L7,.inl h1⟩,rfl,rfl⟩
  | false=>
   obtain⟨h1,rfl,rfl⟩:=h;exact⟨a,vs,[],e,Reps.freeze r hz (λb hb=>nomatch hb),h1.frame hz<|λ_ _=>rfl,rfl,rfl⟩
 | .dK o ks l,_,_,h,hz,hO=>by
  rw[Rep] at h;rw[fz,Rep];obtain⟨a,vs,O',e,r,hl,hd,h⟩:=h;have hl':ks.length=(fzs l).length:=by rw[v8,L1];exact hl
  cases o with
  | true=>
   have h:=(show _=_ from h);subst h;exact⟨a,vs,[],e,Reps.freeze r hz λb hb=>hO b<|L6 _ hb,hl',.inl hd,hO a L7,rfl,rfl⟩
  | false=>
   obtain⟨h1,rfl,rfl⟩:=h;exact⟨a,vs,[],e,Reps.freeze r hz (λb hb=>nomatch hb),hl',hd,hz a h1,rfl,rfl⟩
 | .dT o ks l,_,_,h,hz,hO=>by
  rw[Rep] at h;rw[fz,Rep];obtain⟨a,vs,O',e,r,hl,hd,h⟩:=h;have hl':ks.length=(fzs l).length:=by rw[v8,L1];exact hl
  cases o with
  | true=>
   have h:=(show _=_ from h);subst h;exact⟨a,vs,[],e,Reps.freeze r hz λb hb=>hO b<|L6 _ hb,hl',hd,hO a L7,rfl,rfl⟩
  | false=>
   obtain⟨h1,rfl,rfl⟩:=h;exact⟨a,vs,[],e,Reps.freeze r hz (λb hb=>nomatch hb),hl',hd,hz a h1,rfl,rfl⟩
 | .dN o l,_,_,h,hz,hO=>by
  rw[Rep] at h;rw[fz,Rep];obtain⟨a,vs,O',e,r,hl,hd,h⟩:=h;have hl':Vz (fzs l)=true:=by rw[uA];exact hl
  have hd:=hd;rw[<- jeg] at hd;cases o with
  | true=>
   have h:=(show _=_ from h);subst h;exact⟨a,vs,[],e,Reps.freeze r hz λb hb=>hO b<|L6 _ hb,hl',hd,hO a L7,rfl,rfl⟩
  | false=>
   obtain⟨h1,rfl,rfl⟩:=h;exact⟨a,vs,[],e,Reps.freeze r hz (λb hb=>nomatch hb),hl',hd,hz a h1,rfl,rfl⟩
 | .ins o c ns l,_,_,h,hz,hO=>by
  rw[Rep] at h;rw[fz,Rep];obtain⟨a,dx,vs,O',e,r,hl,hd,h⟩:=h;have hl':ns.length=(fzs l).length:=by rw[v8,L1];exact hl
  cases o with
  | true=>
   have h:=(show _=_ from h);subst h;exact⟨a,dx,vs,[],e,Reps.freeze r hz λb hb=>hO b<|L6 _ hb,hl',hd,hO a L7,rfl,rfl⟩
  | false=>
   obtain⟨h1,rfl,rfl⟩:=h;exact⟨a,dx,vs,[],e,Reps.freeze r hz (λb hb=>nomatch hb),hl',hd,hz a h1,rfl,rfl⟩
theorem Reps.freeze:∀{l:List D}{vs:List V}{O:W4},Reps R Z H l vs O->(∀ a,Z a->Z' a)->(∀ a∈O,Z' a)->Reps R Z' H (fzs l) vs []
 | [],_,_,h,_,_=>by rw[Reps] at h;rw[fzs,Reps];exact⟨h.1,rfl⟩
 | d::l,_,_,h,hz,hO=>by
  rw[Reps] at h;rw[fzs,Reps];obtain⟨v,vs,O1,O2,e,rfl,r1,r2⟩:=h;exact⟨v,vs,[],[],e,rfl,Rep.freeze r1 hz λa ha=>hO a<|List.mem_append_left _ ha,Reps.freeze r2 hz λa ha=>hO a<|U3 _ ha⟩
end
theorem Reps.length:∀{l}{vs}{O},Reps R Z H l vs O->vs.length=l.length
 | [],_,_,h=>by rw[Reps] at h;rw[h.1];rfl
 | d::l,_,_,h=>by
  obtain⟨v,vs,O1,O2,rfl,rfl,b,a⟩:=h;rw[M1,M1,Reps.length a]
theorem Reps.append:∀{l m}{vs ws}{O P},Reps R Z H l vs O->Reps R Z H m ws P->Reps R Z H (l++m) (vs++ws) (O++P)
 | [],m,_,_,_,_,h,k=>by rw[Reps] at h;obtain⟨rfl,rfl⟩:=h;exact k
 | d::l,m,_,_,_,_,h,k=>by
  obtain⟨v,vs,O1,O2,rfl,rfl,a,b⟩:=h;exact⟨v,_,O1,_,rfl,List.append_assoc ..,a,Reps.append b k⟩
def Reps.one(h:Rep R Z H d v O):Reps R Z H [d] [v] O:=by
 exact⟨v,[],O,[],rfl,(M9 O).symm,h,by rw[Reps];exact⟨rfl,rfl⟩⟩
def Reps.cons(h:Rep R Z H d v O)(k:Reps R Z H l vs P):Reps R Z H (d::l) (v::vs) (O++P):=by
 exact⟨v,vs,O,P,rfl,rfl,h,k⟩
def Reps.empty:Reps R Z H [] [] []:=by rw[Reps];exact⟨rfl,rfl⟩
theorem Reps.at:∀{l}{vs}{O}{i}{d},Reps R Z H l vs O->l[i]?=some d ->
  Ex4 λv A P B=>An4 (vs[i]?=some v) (O=A++P++B) (Rep R Z H d v P)<|∀{Z'}{H'}{d'}{v'}{P'},Rep R Z' H' d' v' P'->(∀ a,Z a->Z' a)->(∀ a,Z a->H' a=H a)->(∀ a∈A,H' a=H a)->(∀ a∈B,H' a=H a)->Reps R Z' H' (l.set i d') (vs.set i v') (A++P'++B)
 | [],_,_,_,_,_,e=>by simp at e
 | c::l,_,_,0,d,h,e=>by
  obtain⟨v,vs,O1,O2,rfl,rfl,g,j⟩:=h;have e:c=d:=by simpa using e
  subst e;exact⟨v,[],O1,O2,rfl,rfl,g,λr b f m n=>⟨_,vs,_,O2,rfl,rfl,r,Reps.frame b f j n⟩⟩
 | c::l,_,_,i+1,d,h,e=>by
  obtain⟨v,vs,O1,O2,rfl,rfl,g,j⟩:=h;obtain⟨w,A,P,B,p,rfl,q,k⟩:=Reps.at j ⇑e;exact⟨w,O1++A,P,B,by simpa using p,by simp,q,λ{Z' H' d' v' P'} r b f m n=>⟨v,_,O1,A++P'++B,rfl,by simp,Rep.frame b f g λa o=>m a<|List.mem_append_left _ o,k r b f (λa o=>m a<|U3 _ o) n⟩⟩
def Reps.item{l}{vs}{i:Nat}(h:Reps R Z H l vs [])(e:l[i]?=some d):∃ v,vs[i]?=some v/\Rep R Z H d v []:=by
 obtain⟨v,A,P,B,a,b,r,_⟩:=h.at e;have:P=[]:=by
  have:=congrArg List.length b;simp at this;exact List.eq_nil_of_length_eq_zero (by lia)
 subst this;exact⟨v,a,r⟩
theorem Reps.take:∀{l}{vs} n,Reps R Z H l vs []->Reps R Z H (l.take n) (vs.take n) []
 | _,_,0,_=>by simp;exact .empty
 | [],_,n+1,h=>by rw[Reps] at h;rw[h.1];exact .empty
 | d::l,_,n+1,h=>by
  obtain⟨v,vs,O1,O2,rfl,e,a,b⟩:=h;obtain⟨rfl,rfl⟩:=List.append_eq_nil_iff.mp e.symm;exact .cons a<|Reps.take n b
theorem Reps.drop:∀{l}{vs} n,Reps R Z H l vs []->Reps R Z H (l.drop n) (vs.drop n) []
 | _,_,0,h=>h
 | [],_,n+1,h=>by rw[Reps] at h;rw[h.1];exact .empty
 | d::l,_,n+1,h=>by
  obtain⟨v,vs,O1,O2,rfl,e,b,a⟩:=h;obtain⟨rfl,rfl⟩:=List.append_eq_nil_iff.mp e.symm;exact Reps.drop n a
theorem Reps.split:∀{l m}{vs}{O},Reps R Z H (l++m) vs O->Ex4 λv1 v2 O1 O2=>An4 (vs=v1++v2) (O=O1++O2) (Reps R Z H l v1 O1)<|Reps R Z H m v2 O2
 | [],m,vs,O,h=>⟨[],vs,[],O,rfl,rfl,.empty,h⟩
 | d::l,m,_,_,h=>by
  obtain⟨v,vs,O1,O2,rfl,rfl,a,b⟩:=h;obtain⟨v1,v2,P1,P2,rfl,rfl,c,e⟩:=Reps.split b;exact⟨v::v1,v2,O1++P1,P2,rfl,(List.append_assoc ..).symm,.cons a c,e⟩
structure WF(Z:Zn)(H:Hp)(O:W4):Prop where
 nd:O.Nodup
 nz:∀ a∈O,¬ Z a
 od:∀ a∈O,H a≠none
 zd:∀ a,Z a->H a≠none
structure Go(Z:Zn)(H:Hp)(O:W4)(Z':Zn)(H':Hp)(O':W4):Prop where
 wf:WF Z' H' O'
 zz:∀ a,Z a->Z' a
 fr:∀ a,H a≠none->a∉O->H' a=H a
 zn:∀ a,Z' a->Z a\/a∈O\/H a=none
 sub:∀ a∈O',a∈O\/H a=none
 dm:∀ a,H a≠none->H' a≠none
def Go.refl(w:WF Z H O):Go Z H O Z H O:=⟨w,λ_ z=>z,λ_ _ _=>rfl,λ_ z=>.inl z,λ_ h=>.inl h,λ_ h=>h⟩
def Go.trans(g:Go Z H O Z' H' O')(k:Go Z' H' O' Z'' H'' O''):Go Z H O Z'' H'' O'':=by
 refine⟨k.wf,λa z=>k.zz a<|g.zz a z,λa h n=>?_,λa z=>?_,λa h=>?_,λa h=>k.dm a<|g.dm a h⟩
 ·rw[k.fr a (g.dm a h) λb=>(g.sub a b).elim n h,g.fr a h n]
 ·rcases k.zn a z with z | z | z
  ·exact g.zn a z
  ·rcases g.sub a z with q | q
   ·lia
   ·lia
  ·by_cases h:H a=none
   ·lia
   ·exact absurd z<|g.dm a h
 ·rcases k.sub a h with q | q
  ·exact g.sub a q
  ·by_cases h:H a=none
   ·lia
   ·exact absurd q<|g.dm a h
def Go.zH(w:WF Z H O)(g:Go Z H O Z' H' O'):∀ a,Z a->H' a=H a:=λa z=>g.fr a (w.zd a z) λh=>w.nz a h z
def WF.sub(w:WF Z H O)(h:∀ a∈O',a∈O)(n:O'.Nodup):WF Z H O':=⟨n,λa z=>w.nz a<|h a z,λa z=>w.od a<|h a z,w.zd⟩
def WF.mid(w:WF Z H<|A++O++B):WF Z H O:=w.sub (λa h=>by simp[h]) (by have:=w.nd;simp[U9] at this;exact this.2.1.1)
def WF.right(w:WF Z H<|A++B):WF Z H B:=w.sub (λa h=>by simp[h]) (U9.mp w.nd).2.1
def Go.frame(w:WF Z H<|A++O++B)(g:Go Z H O Z' H' O'):Go Z H (A++O++B) Z' H' (A++O'++B):=by
 have nd:=w.nd;simp only[U9,N1] at nd;have new:∀ a∈O',a∉A/\a∉B:=λa h=>by
  rcases g.sub a h with q | q
  ·exact⟨λz=>nd.1.2.2 a z a q rfl,λz=>nd.2.2 a (.inr q) a z rfl⟩
  ·exact⟨λz=>w.od a (by simp[z]) q,λz=>w.od a (by simp[z]) q⟩
 have keep:∀ a,a∈A\/a∈B->a∉O:=λa h z=>by
  rcases h with h | h
  ·exact nd.1.2.2 a h a z rfl
  ·exact nd.2.2 a (.inr z) a h rfl
 refine⟨⟨?_,λa h z=>?_,λa h=>?_,g.wf.zd⟩,g.zz,λa h n=>?_,λa z=>?_,λa h=>?_,g.dm⟩
 ·simp only[U9,N1];exact⟨⟨nd.1.1,g.wf.nd,λa h b k e=>(new b k).1 (e▸h)⟩,nd.2.1,λa h b k e=>by
   rcases h with h | h
   ·exact nd.2.2 a (.inl h) b k e
   ·exact(new a h).2 (e▸k)⟩
 ·simp only[N1] at h;rcases h with(h | h) | h
  ·rcases g.zn a z with q | q | q
   ·exact w.nz a (by simp[h]) q
   ·exact keep a (.inl h) q
   ·exact w.od a (by simp[h]) q
  ·exact g.wf.nz a h z
  ·rcases g.zn a z with q | q | q
   ·exact w.nz a (by simp[h]) q
   ·exact keep a (.inr h) q
   ·exact w.od a (by simp[h]) q
 ·simp only[N1] at h;rcases h with(h | h) | h
  ·exact g.dm a<|w.od a (by simp[h])
  ·exact g.wf.od a h
  ·exact g.dm a<|w.od a (by simp[h])
 ·simp only[N1,not_or] at n;exact g.fr a h n.1.2
 ·rcases g.zn a z with q | q | q
  ·lia
  ·exact .inr<|.inl (by simp[q])
  ·lia
 ·simp only[N1] at h ⊢;rcases h with(h | h) | h
  ·lia
  ·rcases g.sub a h with q | q
   ·lia
   ·lia
  ·lia
def Go.keepA(w:WF Z H<|A++O++B)(g:Go Z H O Z' H' O'):(∀ a∈A,H' a=H a)/\∀ a∈B,H' a=H a:=by
 have nd:=w.nd;simp only[U9,N1] at nd;exact⟨λa h=>g.fr a (w.od a<|by simp[h]) λz=>nd.1.2.2 a h a z rfl,λa h=>g.fr a (w.od a<|by simp[h]) λz=>nd.2.2 a (.inr z) a h rfl⟩
def Go.drop(g:Go Z H O Z' H' O')(h:∀ a∈O'',a∈O')(n:O''.Nodup):Go Z H O Z' H' O'':=⟨g.wf.sub h n,g.zz,g.fr,g.zn,λa q=>g.sub a<|h a q,g.dm⟩
def Go.dropL(g:Go Z H O Z' H'<|A++B):Go Z H O Z' H' B:=g.drop (λa h=>by simp[h]) (U9.mp g.wf.nd).2.1
def Go.dropR(g:Go Z H O Z' H'<|A++B):Go Z H O Z' H' A:=g.drop (λa h=>by simp[h]) (U9.mp g.wf.nd).1
def Go.freeze(w:WF Z H O):Go Z H O (λa=>Z a\/a∈O) H []:=
 ⟨⟨List.nodup_nil,λa h=>(nomatch h),λa h=>(nomatch h),λa h=>h.elim (w.zd a)<|w.od a⟩,λa z=>.inl z,λ_ _ _=>rfl,λa z=>z.elim .inl λq=>.inr<|.inl q,λa h=>(nomatch h),λ_ h=>h⟩
def Go.newF(w:WF Z H O)(b:H p=none):Go Z H O (λa=>Z a\/a=p) (upd H p o) O:=by
 have ne:∀ a,H a≠none->a≠p:=λa h e=>h<|e▸b;refine⟨⟨w.nd,λa h z=>z.elim (w.nz a h)<|ne a<|w.od a h,λa h=>?_,λa z=>?_⟩,λa z=>.inl z,λa h _=>jg<|ne a h,λa z=>z.elim .inl λe=>.inr<|.inr<|e▸b,λa h=>.inl h,λa h=>?_⟩
 ·rw[jg<|ne a<|w.od a h];exact w.od a h
 ·by_cases e:a=p
  ·rw[e,jk];exact λh=>nomatch h
  ·rw[jg e];exact w.zd a<|z.resolve_right e
 ·rw[jg<|ne a h];exact h
def Go.newO(w:WF Z H O)(b:H p=none):Go Z H O Z (upd H p o) (p::O):=by
 have ne:∀ a,H a≠none->a≠p:=λa h e=>h<|e▸b;refine⟨⟨List.nodup_cons.mpr ⟨λh=>w.od p h b,w.nd⟩,λa h z=>?_,λa h=>?_,λa z=>?_⟩,λa z=>z,λa h _=>jg<|ne a h,λa z=>.inl z,λa h=>?_,λa h=>?_⟩
 ·rcases M4.mp h with e | e
  ·exact w.zd a z<|e▸b
  ·exact w.nz a e z
 ·rcases M4.mp h with e | e
  ·rw[e,jk];exact λh=>nomatch h
  ·rw[jg<|ne a<|w.od a e];exact w.od a e
 ·rw[jg<|ne a<|w.zd a z];exact w.zd a z
 ·grind
 ·rw[jg<|ne a h];exact h
def Go.put(w:WF Z H O)(b:p∈O):Go Z H O Z (upd H p o) O:=by
 have nn:∀ a,upd H p o a=none->a≠p/\H a=none:=λa h=>by
  by_cases e:a=p
  ·rw[e,jk] at h;cases h
  ·rw[jg e] at h;exact⟨e,h⟩
 exact⟨⟨w.nd,w.nz,λa h z=>w.od a h (nn a z).2,λa z e=>w.zd a z (nn a e).2⟩,λa z=>z,λa h n=>jg λe=>n<|e▸b,λa z=>.inl z,λa h=>.inl h,λa h z=>h (nn a z).2⟩
noncomputable def jjj:D->Option Bool
 | .bl b=>some b
 | _=>none
@[simp] def blOf_bl(b):jjj (.bl b)=some b:=rfl
def VO(h:jjj d=some b):d=.bl b:=by cases d<;>cases h<;>rfl
noncomputable def Ku:D->Option Int
 | .int i=>some i
 | _=>none
@[simp] def intOf_int(i):Ku (.int i)=some i:=rfl
def kX(h:Ku d=some n):d=.int n:=by cases d<;>cases h<;>rfl
noncomputable def Qj:D->Option (List D)
 | .lst true l=>some l
 | _=>none
@[simp] def lstOf_lst(l):Qj (.lst true l)=some l:=rfl
def VL(h:Qj d=some l):d=.lst true l:=by
 cases d with
 | lst o _=>cases o<;>cases h;rfl
 | _=>cases h
noncomputable def jen:D->Option (List KA×List D)
 | .dK true ks l=>some (ks,l)
 | _=>none
@[simp] def dkOf_dK(ks)(l):jen (.dK true ks l)=some (ks,l):=rfl
def jb2(h:jen d=some p):d=.dK true p.1 p.2:=by
 cases d with
 | dK o _ _=>cases o<;>cases h;rfl
 | _=>cases h
noncomputable def jkC:D->Option (List (List KA)×List D)
 | .dT true ks l=>some (ks,l)
 | _=>none
@[simp] def dtOf_dT(ks)(l):jkC (.dT true ks l)=some (ks,l):=rfl
def jgQ(h:jkC d=some p):d=.dT true p.1 p.2:=by
 cases d with
 | dT o _ _=>cases o<;>cases h;rfl
 | _=>cases h
noncomputable def wy:D->Option (Nat×List Str×List D)
 | .ins true c ns l=>some (c,ns,l)
 | _=>none
@[simp] def insOf_ins(c)(ns)(l):wy (.ins true c ns l)=some (c,ns,l):=rfl
def JM(h:wy d=some (c,ns,l)):d=.ins true c ns l:=by
 cases d with
 | ins o _ _ _=>cases o<;>cases h;rfl
 | _=>cases h
noncomputable def jlE:D->Option (Nat×List Str×List D)
 | .ins _ c ns l=>some (c,ns,l)
 | _=>none
@[simp] def inOf_ins(o)(c)(ns)(l):jlE (.ins o c ns l)=some (c,ns,l):=rfl
def jgZ(h:jlE d=some (c,ns,l)):∃ o,d=.ins o c ns l:=by
 cases d with
 | ins o _ _ _=>cases h;exact⟨o,rfl⟩
 | _=>cases h
noncomputable def jgF:D->Option (List D)
 | .lst _ l=>some l
 | _=>none
@[simp] def lsOf_lst(o)(l):jgF (.lst o l)=some l:=rfl
def Yl(h:jgF d=some l):∃ o,d=.lst o l:=by
 cases d with
 | lst o _=>cases h;exact⟨o,rfl⟩
 | _=>cases h
noncomputable def jb5:List D->Option D
 | [x]=>some x
 | _=>none
def kH(h:jb5 l=some x):l=[x]:=by
 match l with
 | [_]=>cases h;rfl
noncomputable def two1:List D->Option (D×D)
 | [x,y]=>some (x,y)
 | _=>none
def two1_of(h:two1 l=some p):l=[p.1,p.2]:=by
 match l with
 | [_,_]=>cases h;rfl
def ob{α β:Type}{C:Prop}{o}{f:α->Option β}{b}(e:o.bind f=some b)(k:∀ a,o=some a->f a=some b->C):C:=by
 cases o with
 | none=>cases e
 | some a=>exact k a rfl e
def oc{β:Type}{C:Prop}{c}{x}{b:β}(e:(bif c then x else none)=some b)(k:c=true->x=some b->C):C:=by
 cases c with
 | false=>cases e
 | true=>exact k rfl e
noncomputable abbrev Rh:=List<|Option D
def Slots(R:RC)(Z:Zn)(H:Hp):Rh->St->List Addr->Prop
 | [],σ,O=>σ=[]/\O=[]
 | none::ρ,σ,O=>∃ s σ',σ=s::σ'/\Slots R Z H ρ σ' O
 | some d::ρ,σ,O=>∃ v σ' O1 O2,σ=some v::σ'/\O=O1++O2/\Rep R Z H d v O1/\Slots R Z H ρ σ' O2
theorem Slots.frame(c:∀ a,Z a->Z' a)(f:∀ a,Z a->H' a=H a):∀{ρ}{σ}{O},Slots R Z H ρ σ O->(∀ a∈O,H' a=H a)->Slots R Z' H' ρ σ O
 | [],_,_,h,_=>h
 | none::ρ,_,_,h,b=>by
  obtain⟨s,g,e,r⟩:=h;exact⟨s,g,e,Slots.frame c f r b⟩
 | some d::ρ,_,_,h,b=>by
  obtain⟨v,g,O1,O2,e,rfl,j,k⟩:=h;exact⟨v,g,O1,O2,e,rfl,j.frame c f λa i=>b a<|List.mem_append_left _ i,Slots.frame c f k λa i=>b a<|U3 _ i⟩
theorem Slots.length:∀{ρ}{σ}{O},Slots R Z H ρ σ O->σ.length=ρ.length
 | [],_,_,h=>by rw[h.1];rfl
 | none::ρ,_,_,h=>by obtain⟨s,a,rfl,r⟩:=h;rw[M1,M1,Slots.length r]
 | some d::ρ,_,_,h=>by obtain⟨v,a,O1,O2,rfl,rfl,c,b⟩:=h;rw[M1,M1,Slots.length b]
inductive SPut (R:RC) (Z:Zn) (H:Hp) (ρ:Rh) (σ:St) (O:W4) (i:Nat):Prop
 | mk:∀(A P B:W4),O=A++P++B->(∀ d,ρ[i]?=some (some d)->∃ v,σ[i]?=some (some v)/\Rep R Z H d v P) ->
  (∀{Z':Zn}{H':Hp}{d':D}{v':V}{P':W4},Rep R Z' H' d' v' P'->(∀ a,Z a->Z' a)->(∀ a,Z a->H' a=H a)->(∀ a∈A,H' a=H a)->(∀ a∈B,H' a=H a)->Slots R Z' H' (ρ.set i<|some d') (σ.set i<|some v') (A++P'++B)) ->
  Slots R Z H (ρ.set i none) σ (A++B)->SPut R Z H ρ σ O i
theorem Slots.put:∀{ρ}{σ}{O}{i},Slots R Z H ρ σ O->i<ρ.length->SPut R Z H ρ σ O i
 | [],_,_,_,_,j=>absurd j<|Nat.not_lt_zero _
 | none::ρ,_,_,0,h,j=>by
  obtain⟨s,b,rfl,r⟩:=h;refine⟨[],[],_,rfl,λd e=>by simp at e,λq f g l k=>⟨_,b,_,_,rfl,rfl,q,Slots.frame f g r k⟩,⟨s,b,rfl,r⟩⟩
 | some c::ρ,_,_,0,h,j=>by
  obtain⟨v,b,O1,O2,rfl,rfl,m,n⟩:=h;refine⟨[],O1,O2,rfl,λd e=>?_,λq f g l k=>⟨_,b,_,_,rfl,rfl,q,Slots.frame f g n k⟩,⟨_,b,rfl,n⟩⟩
  ·have e:c=d:=by simpa using e
   subst e;exact⟨v,rfl,m⟩
 | none::ρ,_,_,i+1,h,j=>by
  obtain⟨s,b,rfl,r⟩:=h;obtain⟨A,P,B,rfl,o,p,t⟩:=Slots.put r ⇑j;refine⟨A,P,B,rfl,λd e=>o d ⇑e,λq f g l k=>⟨s,_,rfl,p q f g l k⟩,⟨s,b,rfl,t⟩⟩
 | some c::ρ,_,_,i+1,h,j=>by
  obtain⟨v,b,O1,O2,rfl,rfl,m,n⟩:=h;obtain⟨A,P,B,rfl,o,p,t⟩:=Slots.put n ⇑j;refine⟨O1++A,P,B,by simp,λd e=>o d ⇑e,λ{x y z C w} q f g l k=>⟨v,_,O1,A++w++B,rfl,by simp,m.frame f g λa u=>l a<|List.mem_append_left _ u,p q f g (λa u=>l a<|U3 _ u) k⟩,⟨v,b,O1,A++B,rfl,by simp,m,t⟩⟩
theorem yF:∀{l:List α}{i}{x},l[i]?=some x->l.set i x=l
 | [],_,_,h=>by simp at h
 | y::l,0,x,h=>by simp at h;subst h;rfl
 | y::l,i+1,x,h=>by rw[List.set_cons_succ,yF ⇑h]
abbrev FE:=Rh->Option (D×Rh)
abbrev FT':=Rh->Option (Bool×Rh)
abbrev FA:=Rh->Option (List D×Rh)
def DE(R:RC)(te:TE)(f:FE):Prop:=∀{σ}{ρ ρ'}{Z}{H}{O}{d},WF Z H O->Slots R Z H ρ σ O->f ρ=some (d,ρ') ->
 ∀{Q},(∀{v}{Z'}{H'}{P O'},Go Z H O Z' H' (P++O')->Rep R Z' H' d v P->Slots R Z' H' ρ' σ O'->Q v H')->te σ H Q
def DT(R:RC)(tt:TT)(f:FT'):Prop:=∀{σ}{ρ ρ'}{Z}{H}{O}{b},WF Z H O->Slots R Z H ρ σ O->f ρ=some (b,ρ') ->
 ∀{Q:Bool->Hp->Prop},(∀{Z'}{H'}{O'},Go Z H O Z' H' O'->Slots R Z' H' ρ' σ O'->Q b H')->tt σ H Q
def DA(R:RC)(ta:TA)(f:FA):Prop:=∀{σ}{ρ ρ'}{Z}{H}{O}{ds},WF Z H O->Slots R Z H ρ σ O->f ρ=some (ds,ρ') ->
 ∀{Q:List V->Hp->Prop},(∀{vs}{Z'}{H'}{P O'},Go Z H O Z' H' (P++O')->Reps R Z' H' ds vs P->Slots R Z' H' ρ' σ O'->Q vs H')->ta σ H Q
inductive Out where
 | nx (ρ:Rh) | rt (d:D) (ρ:Rh) | bk (ρ:Rh) | ct (ρ:Rh)
abbrev FS:=Rh->Option Out
noncomputable def Out.thn:Out->FS->Option Out
 | .nx ρ,g=>g ρ
 | .rt d ρ,_=>some<|.rt d ρ
 | .bk ρ,_=>some<|.bk ρ
 | .ct ρ,_=>some<|.ct ρ
@[simp] def je5(ρ)(g):(Out.nx ρ).thn g=g ρ:=rfl
@[simp] def thn_rt(d)(ρ)(g):(Out.rt d ρ).thn g=some (.rt d ρ):=rfl
@[simp] def thn_bk(ρ)(g):(Out.bk ρ).thn g=some (.bk ρ):=rfl
@[simp] def thn_ct(ρ)(g):(Out.ct ρ).thn g=some (.ct ρ):=rfl
noncomputable def Out.val:Out->Option D
 | .rt d _=>some d
 | .nx _=>some .non
 | _=>none
@[simp] def val_rt(d)(ρ):(Out.rt d ρ).val=some d:=rfl
@[simp] def val_nx(ρ):(Out.nx ρ).val=some .non:=rfl
noncomputable def Out.loop:Out->FS->Option Out
 | .nx ρ,g=>g ρ
 | .ct ρ,g=>g ρ
 | .bk ρ,_=>some<|.nx ρ
 | .rt d ρ,_=>some<|.rt d ρ
@[simp] def vn(ρ)(g):(Out.nx ρ).loop g=g ρ:=rfl
@[simp] def loop_ct(ρ)(g):(Out.ct ρ).loop g=g ρ:=rfl
@[simp] def loop_bk(ρ)(g):(Out.bk ρ).loop g=some (.nx ρ):=rfl
@[simp] def loop_rt(d)(ρ)(g):(Out.rt d ρ).loop g=some (.rt d ρ):=rfl
abbrev PF:=Rh->Option D
noncomputable def pV(i:Nat):PF:=λρ=>match ρ[i]? with
 | some (some d)=>some d
 | _=>none
def K2(h:pV i ρ=some d):ρ[i]?=some (some d):=by
 unfold pV at h;split at h
 ·lia
 ·cases h
def Keep(pm:List Nat)(σ σ':St):Prop:=∀ i∈pm,σ'[i]?=σ[i]?
def OutOk(R:RC)(pm:List Nat)(Z:Zn)(H:Hp)(O:W4)(σ:St)(D':Ends):Out->Prop
 | .nx ρ'=>∀{σ'}{Z'}{H'}{O'},Go Z H O Z' H' O'->Slots R Z' H' ρ' σ' O'->Keep pm σ σ'->D'.nx σ' H'
 | .bk ρ'=>∀{σ'}{Z'}{H'}{O'},Go Z H O Z' H' O'->Slots R Z' H' ρ' σ' O'->Keep pm σ σ'->D'.bk σ' H'
 | .ct ρ'=>∀{σ'}{Z'}{H'}{O'},Go Z H O Z' H' O'->Slots R Z' H' ρ' σ' O'->Keep pm σ σ'->D'.ct σ' H'
 | .rt d ρ'=>∀{v}{σ'}{Z'}{H'}{P O'},Go Z H O Z' H' (P++O')->Rep R Z' H' d v P->Slots R Z' H' ρ' σ' O'->Keep pm σ σ'->D'.rt v H'
def DS(R:RC)(pm:List Nat)(ts:TS)(f:FS):Prop:=∀{σ}{ρ}{Z}{H}{O}{o},WF Z H O->Slots R Z H ρ σ O->f ρ=some o->∀{D'},OutOk R pm Z H O σ D' o->ts D' σ H
def DG(R:RC)(pm:List Nat)(tg:TG)(f:D->Rh->Option Rh):Prop:=∀{σ}{ρ ρ'}{Z}{H}{O P}{d}{v},WF Z H (P++O)->Rep R Z H d v P->Slots R Z H ρ σ O->f d ρ=some ρ' ->
 ∀{Q:St->Hp->Prop},(∀{σ'}{Z'}{H'}{O'},Go Z H (P++O) Z' H' O'->Slots R Z' H' ρ' σ' O'->Keep pm σ σ'->Q σ' H')->tg v σ H Q
def Keep.refl(pm)(σ):Keep pm σ σ:=λ_ _=>rfl
def Keep.trans(h:Keep pm σ σ')(k:Keep pm σ' σ''):Keep pm σ σ'':=λi a=>(k i a).trans (h i a)
def Keep.set(h:i∉pm):Keep pm σ (σ.set i x):=λj a=>by
 have ne:i≠j:=λe=>h (by lia);rw[List.getElem?_set,if_neg ne]
@[simp] def dMv(i:Nat)(ρ:Rh):Option (D×Rh):=(pV i ρ).bind λd=>some (d,ρ.set i none)
noncomputable def dC(d:D):FE:=λρ=>some (d,ρ)
def jlk:DE R (vk i) (dMv i):=by
 intro σ ρ o Z H O d w h e Q k;refine ob e λc f e=>?_;have f:=K2 f;obtain⟨A,P,B,rfl,l,p,m⟩:=h.put (L9.mp f).1;obtain⟨v,n,r⟩:=l c f;cases e;refine⟨v,n,k ((Go.refl w).drop (λa q=>?_) ?_) r m⟩
 ·simp at q ⊢;rcases q with q | q | q<;>simp[q]
 ·have nd:=w.nd;simp only[U9,N1] at nd ⊢;exact⟨nd.1.2.1,⟨nd.1.1,nd.2.1,λa g b j=>nd.2.2 a (.inl g) b j⟩,λa g b j e=>j.elim (λq=>nd.1.2.2 b q a g e.symm) λq=>nd.2.2 a (.inr g) b q e⟩
def jhF(c:Go Z H O Z' H'<|P1++O1)(b:Go Z' H' O1 Z'' H''<|P2++O2):Go Z H O Z'' H'' (P1++(P2++O2))/\(∀ a,Z' a->Z'' a)/\(∀ a,Z' a->H'' a=H' a)/\∀ a∈P1,H'' a=H' a:=by
 have w:WF Z' H' (P1++O1++[]):=by simpa using c.wf
 refine⟨c.trans<|by simpa using(b.frame w),b.zz,(b.zH c.wf.right),(Go.keepA w b).1⟩
@[simp] def jjZ(ρ:Rh):Option (List D×Rh):=some ([],ρ)
@[simp] def Qu(fa:FE)(fr:FA)(ρ:Rh):Option (List D×Rh):=(fa ρ).bind λx=>(fr x.2).bind λy=>some (x.1::y.1,y.2)
def jiH:DA R JB jjZ:=by
 intro σ ρ a Z H O d w h e Q k;cases e;exact k (Go.refl w) Reps.empty h
def jhi(b:DE R ta fa)(c:DA R tr fr):DA R (yW ta tr) (Qu fa fr):=by
 intro σ ρ s Z H O d w h e Q k;refine ob e λp f e=>?_;obtain⟨x,t⟩:=p;refine ob e λp g e=>?_;obtain⟨u,y⟩:=p;cases e;refine b w h f λ{v z A P1 O1} a i j=>(c a.wf.right j g λ{B C D P2 O2} l m n=>?_);obtain⟨o,zz,q,r⟩:=jhF a l;exact k ⇑o (.cons (i.frame zz q r) m) n
def Rep.tupNew(w:WF Z H O)(b:H p=none)(r:Reps R Z H l vs O):Rep R (λa=>Z a\/a=p) (upd H p<|.tup vs) (.tup l) (.ref p) O:=by
 have ne:∀ a,H a≠none->a≠p:=λa h e=>h<|e▸b;exact⟨p,vs,rfl,.inl ⟨.inr rfl,.inl jk⟩,r.frame (λa z=>.inl z) (λa z=>jg<|ne a<|w.zd a z) λa h=>jg<|ne a<|w.od a h⟩
def Rep.lstNew(w:WF Z H O)(b:H p=none)(r:Reps R Z H l vs O):Rep R Z (upd H p<|.lst vs) (.lst true l) (.ref p) (p::O):=by
 have ne:∀ a,H a≠none->a≠p:=λa h e=>h<|e▸b;exact⟨p,vs,O,rfl,r.frame (λa z=>z) (λa z=>jg<|ne a<|w.zd a z) λa h=>jg<|ne a<|w.od a h,jk,rfl⟩
def Rep.bl_of(r:Rep R Z H (.bl b) v O):v=.bl b/\O=[]:=by rw[Rep] at r;exact r
def Rep.bl_mk:Rep R Z H (.bl b) (.bl b) []:=by rw[Rep];exact⟨rfl,rfl⟩
def OutOk.pre(g:Go Z H O Z1 H1 O1)(kp:Keep pm σ σ1)(k:OutOk R pm Z H O σ D' o):OutOk R pm Z1 H1 O1 σ1 D' o:=by
 cases o with
 | nx ρ=>exact λa b c=>k (g.trans a) b<|kp.trans c
 | bk ρ=>exact λa b c=>k (g.trans a) b<|kp.trans c
 | ct ρ=>exact λa b c=>k (g.trans a) b<|kp.trans c
 | rt d ρ=>exact λa e b c=>k (g.trans a) e b<|kp.trans c
@[simp] def jR(ρ:Rh):Option Out:=some<|.nx ρ
noncomputable def jv(f g:FS):FS:=λρ=>match f ρ with
 | some (.nx ρ1)=>g ρ1
 | o=>o
@[simp] def Jt:jv f g ρ=(f ρ).bind λo=>o.thn g:=by
 unfold jv;cases h:f ρ with
 | none=>rfl
 | some o=>cases o<;>rfl
def jfW:DS R pm jhI jR:=by
 intro σ ρ Z H O o w h e a k;cases e;exact k (Go.refl w) h<|Keep.refl _ _
def jkn(c:DS R pm t f)(i:DS R pm u g):DS R pm (jeX t u) (jv f g):=by
 intro σ ρ Z H O o w h e p k;rw[Jt] at e;refine ob e λj l e=>c w h l ?_;cases j with
 | nx a=>exact λ{q r s v} b m n=>i b.wf m e<|k.pre b n
 | bk a=>cases e;exact k
 | ct a=>cases e;exact k
 | rt d a=>cases e;exact k
@[simp] def uX(fe:FE)(ρ:Rh):Option Out:=(fe ρ).bind λx=>some<|.nx x.2
def jfB(a:DE R ta fa):DS R pm (qJ ta) (uX fa):=by
 intro σ ρ Z H O o w h e f k;refine ob e λp b e=>?_;obtain⟨x,g⟩:=p;cases e;exact a w h b λc i d=>k c.dropL d<|Keep.refl _ _
@[simp] def yQ(fe:FE)(ρ:Rh):Option Out:=(fe ρ).bind λx=>some<|.rt x.1 x.2
def ji0(a:DE R ta fa):DS R pm (jhf ta) (yQ fa):=by
 intro σ ρ Z H O o w h e g k;refine ob e λp b e=>?_;obtain⟨x,i⟩:=p;cases e;exact a w h b λc d f=>k c d f<|Keep.refl _ _
@[simp] def sIf(ft:FT')(f:FS)(g:FS)(ρ:Rh):Option Out:=(ft ρ).bind λx=>bif x.1 then f x.2 else g x.2
def jkX(d:DT R tt ft)(i:DS R pm t f)(j:DS R pm u g):DS R pm (ji1 tt t u) (sIf ft f g):=by
 intro σ ρ Z H O o w h e m k;refine ob e λp l e=>?_;obtain⟨c,n⟩:=p;refine d w h l λ{q r O1} a b=>?_;cases c with
 | true=>exact jc9<|i a.wf b e<|k.pre a<|Keep.refl _ _
 | false=>exact jdm<|j a.wf b e<|k.pre a<|Keep.refl _ _
@[simp] def jd(pm:List Nat)(i:Nat)(d:D)(ρ:Rh):Option Rh:=bif decide (i<ρ.length)&&!decide (i∈pm) then some (ρ.set i<|some d) else none
def Vv:DG R pm (Jj i) (jd pm i):=by
 intro σ ρ l Z H O P d v w r h e Q k;unfold jd at e;by_cases g:i<ρ.length
 ·by_cases hm:i∈pm
  ·lia
  ·rw[X1 g,X2 hm] at e;cases e;obtain⟨A,m,B,rfl,n,j,o⟩:=h.put g;refine k ((Go.refl w).drop (λa q=>?_) ?_) (j r (λ_ z=>z) (λ_ _=>rfl) (λ_ _=>rfl)<|λ_ _=>rfl)<|Keep.set hm
   ·simp at q ⊢;rcases q with q | q | q<;>simp[q]
   ·have nd:=w.nd;simp only[U9,N1] at nd ⊢;exact⟨⟨nd.2.1.1.1,nd.1,λa f b c e=>nd.2.2 b c a (.inl<|.inl f) e.symm⟩,nd.2.1.2.1,λa f b c e=>f.elim (λq=>nd.2.1.2.2 a (.inl q) b c e) λq=>nd.2.2 a q b (.inr c) e⟩
 ·lia
@[simp] def jX(fe:FE)(G:D->Rh->Option Rh)(ρ:Rh):Option Out:=(fe ρ).bind λx=>(G x.1 x.2).bind λr=>some<|.nx r
def jeE(b:DE R ta fa)(c:DG R pm tg g):DS R pm (jcM ta tg) (jX fa g):=by
 intro σ ρ Z H O o w h e q k;refine ob e λp d e=>?_;obtain⟨x,r⟩:=p;refine ob e λs f e=>?_;cases e;exact b w h d λa i j=>c a.wf i j f λl m n=>k (Go.trans a l) m n
def DGs(R:RC)(pm:List Nat)(tg:TGs)(f:List D->Rh->Option Rh):Prop:=∀{σ}{ρ ρ'}{Z}{H}{O P}{ds}{vs},WF Z H (P++O)->Reps R Z H ds vs P->Slots R Z H ρ σ O->f ds ρ=some ρ' ->
 ∀{Q:St->Hp->Prop},(∀{σ'}{Z'}{H'}{O'},Go Z H (P++O) Z' H' O'->Slots R Z' H' ρ' σ' O'->Keep pm σ σ'->Q σ' H')->tg vs σ H Q
noncomputable def gN:List D->Rh->Option Rh:=λds ρ=>match ds with
 | []=>some ρ
 | _=>none
noncomputable def gC(g:D->Rh->Option Rh)(gs:List D->Rh->Option Rh):List D->Rh->Option Rh:=λds ρ=>match ds with
 | []=>none
 | d::r=>(g d ρ).bind λρ1=>gs r ρ1
def jgR:DGs R pm jjL gN:=by
 intro σ ρ b Z H O P a vs w r h e Q k;cases a with
 | cons _ _=>cases e
 | nil=>
  cases e;obtain⟨rfl,rfl⟩:=r;exact⟨rfl,k (Go.refl w) h<|Keep.refl _ _⟩
def jcJ(o:DG R pm t g)(hs:DGs R pm u gs):DGs R pm (jbI t u) (gC g gs):=by
 intro σ ρ I Z H O P m vs w r h e Q k;cases m with
 | nil=>cases e
 | cons d m=>
  refine ob e λJ p e=>?_;obtain⟨v,j,O1,O2,rfl,rfl,s,x⟩:=r;refine⟨v,j,rfl,?_⟩;have w1:WF Z H (O2++(O1++O)):=w.sub (λa h=>by simp at h ⊢;rcases h with h | h | h<;>simp[h]) (by
   have nd:=w.nd;simp only[U9,N1] at nd ⊢;exact⟨nd.1.2.1,⟨nd.1.1,nd.2.1,λa f b l=>nd.2.2 a (.inl f) b l⟩,λa f b l e=>l.elim (λq=>nd.1.2.2 b q a f e.symm) λq=>nd.2.2 a (.inr f) b q e⟩)
  refine o w1.right s h p λ{K y z A} i B C=>?_;have w2:WF Z H (O2++(O1++O)++[]):=by simpa using w1
  have c:=i.frame w2;simp only[M9] at c;refine hs c.wf (x.frame i.zz (i.zH w1.right) (Go.keepA w2 i).1) B e λ{L M N S} D E F=>?_;have G:Go Z H (O1++O2++O) y z (O2++A):=⟨c.wf,c.zz,λa h n=>c.fr a h<|by simpa [or_left_comm] using n,(by simpa [or_left_comm] using c.zn),(by simpa [or_left_comm,or_assoc] using c.sub),c.dm⟩;exact k (G.trans D) E<|C.trans F
noncomputable def gT(n:Nat)(gs:List D->Rh->Option Rh):D->Rh->Option Rh:=λd ρ=>match d with
 | .tup l=>bif decide (l.length=n) then gs l ρ else none
 | _=>none
def jjp(hs:DGs R pm u gs):DG R pm (jhQ R.K n u) (gT n gs):=by
 intro σ ρ f Z H O P d v w r h e Q k;cases d with
 | tup l=>
  unfold gT at e;dsimp only at e;by_cases hl:l.length=n
  ·rw[X1 hl,cond_true] at e;obtain⟨a,vs,rfl,c,b⟩:=r;exact⟨a,vs,rfl,c.sq,by rw[b.length];exact hl,hs w b h e k⟩
  ·lia
 | _=>cases e
abbrev PTf:=Rh->Option Bool
abbrev PAf:=Rh->Option (List D)
mutual
theorem Rep.dom:∀{d:D}{v:V}{O:W4},Rep R Z H d v O->∀ a∈O,H a≠none
 | .non,_,_,h,a,ha=>by rw[Rep] at h;rw[h.2] at ha;cases ha
 | .bl _,_,_,h,a,ha=>by rw[Rep] at h;rw[h.2] at ha;cases ha
 | .int _,_,_,h,a,ha=>by rw[Rep] at h;rw[h.2] at ha;cases ha
 | .str _,_,_,h,a,ha=>by rw[Rep] at h;rw[h.2] at ha;cases ha
 | .dead,_,_,h,a,ha=>by rw[Rep] at h;rw[h] at ha;cases ha
 | .tok _,_,_,h,a,ha=>by rw[Rep] at h;rw[h.2] at ha;cases ha
 | .kt _,_,_,h,a,ha=>by rw[Rep] at h;obtain⟨_,_,_,_,h⟩:=h;rw[h] at ha;cases ha
 | .exc _ _,_,_,h,a,ha=>by rw[Rep] at h;obtain⟨_,_,_,_,_,_,_,h⟩:=h;rw[h] at ha;cases ha
 | .lam,_,_,h,a,ha=>by rw[Rep] at h;obtain⟨_,_,_,_,_,_,_,_,h⟩:=h;rw[h] at ha;cases ha
 | .tup l,_,_,h,a,ha=>by
  rw[Rep] at h;obtain⟨b,vs,e,t,r⟩:=h;exact Reps.dom r a ha
 | .lst o l,_,_,h,a,ha=>by
  rw[Rep] at h;obtain⟨b,vs,O',e,r,h⟩:=h;cases o with
  | true=>
   obtain⟨h1,rfl⟩:=h;rcases M4.mp ha with e | e
   ·rw[e,h1];exact λz=>(nomatch z)
   ·exact Reps.dom r a e
  | false=>rw[h.2.2] at ha;cases ha
 | .dK o ks l,_,_,h,a,ha=>by
  rw[Rep] at h;obtain⟨b,vs,O',e,r,hl,hd,h⟩:=h;cases o with
  | true=>
   have h:=(show _=_ from h);subst h;rcases M4.mp ha with e | e
   ·rw[e,hd];exact λz=>(nomatch z)
   ·exact Reps.dom r a e
  | false=>rw[h.2.2] at ha;cases ha
 | .dT o ks l,_,_,h,a,ha=>by
  rw[Rep] at h;obtain⟨b,vs,O',e,r,hl,hd,h⟩:=h;cases o with
  | true=>
   have h:=(show _=_ from h);subst h;rcases M4.mp ha with e | e
   ·rw[e,hd];exact λz=>(nomatch z)
   ·exact Reps.dom r a e
  | false=>rw[h.2.2] at ha;cases ha
 | .dN o l,_,_,h,a,ha=>by
  rw[Rep] at h;obtain⟨b,vs,O',e,r,hl,hd,h⟩:=h;cases o with
  | true=>
   have h:=(show _=_ from h);subst h;rcases M4.mp ha with e | e
   ·rw[e,hd];exact λz=>(nomatch z)
   ·exact Reps.dom r a e
  | false=>rw[h.2.2] at ha;cases ha
 | .ins o c ns l,_,_,h,a,ha=>by
  rw[Rep] at h;obtain⟨b,dx,vs,O',e,r,hl,hd,h⟩:=h;cases o with
  | true=>
   have h:=(show _=_ from h);subst h;rcases M4.mp ha with e | e
   ·rw[e,hd];exact λz=>(nomatch z)
   ·exact Reps.dom r a e
  | false=>rw[h.2.2] at ha;cases ha
theorem Reps.dom:∀{l:List D}{vs:List V}{O:W4},Reps R Z H l vs O->∀ a∈O,H a≠none
 | [],_,_,h,a,ha=>by rw[Reps] at h;rw[h.2] at ha;cases ha
 | d::l,_,_,h,a,ha=>by
  rw[Reps] at h;obtain⟨v,vs,O1,O2,e,rfl,r1,r2⟩:=h;rcases N1.mp ha with q | q
  ·exact Rep.dom r1 a q
  ·exact Reps.dom r2 a q
end
theorem Slots.dom:∀{ρ}{σ}{O},Slots R Z H ρ σ O->∀ a∈O,H a≠none
 | [],_,_,h,a,b=>by rw[h.2] at b;cases b
 | none::ρ,_,_,h,a,b=>by obtain⟨s,c,rfl,r⟩:=h;exact Slots.dom r a b
 | some d::ρ,_,_,h,a,b=>by
  obtain⟨v,c,O1,O2,rfl,rfl,e,f⟩:=h;rcases N1.mp b with q | q
  ·exact e.dom a q
  ·exact Slots.dom f a q
abbrev Zd(Z:Zn)(H:Hp):Prop:=∀ a,Z a->H a≠none
def wf0(z:Zd Z H):WF Z H []:=⟨List.nodup_nil,λa h=>(nomatch h),λa h=>(nomatch h),z⟩
def Go.id(z:Zd Z H):Go Z H [] Z H []:=Go.refl<|wf0 z
def Go.same(g:Go Z H [] Z' H' P):∀ a,H a≠none->H' a=H a:=λa h=>g.fr a h<|λz=>(nomatch z)
def Go.rep(z:Zd Z H)(g:Go Z H [] Z' H' P)(r:Rep R Z H d v O):Rep R Z' H' d v O:=r.frame g.zz (λa h=>g.same a<|z a h) λa h=>g.same a<|r.dom a h
def Go.reps(z:Zd Z H)(g:Go Z H [] Z' H' P)(r:Reps R Z H l vs O):Reps R Z' H' l vs O:=r.frame g.zz (λa h=>g.same a<|z a h) λa h=>g.same a<|r.dom a h
def Go.slots(z:Zd Z H)(g:Go Z H [] Z' H' P)(r:Slots R Z H ρ σ O):Slots R Z' H' ρ σ O:=r.frame g.zz (λa h=>g.same a<|z a h) λa h=>g.same a<|r.dom a h
def Go.pair(g:Go Z H [] Z' H' P)(k:Go Z' H' [] Z'' H'' P2):Go Z H [] Z'' H'' (P++P2):=by
 have w:WF Z' H' (P++[]++[]):=by simpa using g.wf
 exact g.trans (by simpa using(k.frame w))
def Go.to0(g:Go Z H O Z' H' P):Go Z H O Z' H' []:=g.drop (λa h=>(nomatch h)) List.nodup_nil
def Go.widen(w:WF Z H O)(g:Go Z H [] Z' H' P):Go Z H O Z' H' (P++O):=by
 simpa using(g.frame (A:=[]) ⇑w)
def PP(R:RC)(te:TE)(p:PF):Prop:=∀{σ}{ρ}{Z}{H}{O}{d},Zd Z H->Slots R Z H ρ σ O->p ρ=some d ->
 ∀{Q},(∀{v}{Z'}{H'}{P},Go Z H [] Z' H' P->Rep R Z' H' d v P->Q v H')->te σ H Q
def PB(R:RC)(te:TE)(p:PF):Prop:=∀{σ}{ρ}{Z}{H}{O}{d},Zd Z H->Slots R Z H ρ σ O->p ρ=some d ->
 ∀{Q},(∀{v}{Z'}{H'}{P},Go Z H [] Z' H' []->Rep R Z' H' d v P->Q v H')->te σ H Q
def PPs(R:RC)(ta:TA)(p:PAf):Prop:=∀{σ}{ρ}{Z}{H}{O}{ds},Zd Z H->Slots R Z H ρ σ O->p ρ=some ds ->
 ∀{Q:List V->Hp->Prop},(∀{vs}{Z'}{H'}{P},Go Z H [] Z' H' P->Reps R Z' H' ds vs P->Q vs H')->ta σ H Q
def PBs(R:RC)(ta:TA)(p:PAf):Prop:=∀{σ}{ρ}{Z}{H}{O}{ds},Zd Z H->Slots R Z H ρ σ O->p ρ=some ds ->
 ∀{Q:List V->Hp->Prop},(∀{vs}{Z'}{H'}{P},Go Z H [] Z' H' []->Reps R Z' H' ds vs P->Q vs H')->ta σ H Q
def PTt(R:RC)(tt:TT)(p:PTf):Prop:=∀{σ}{ρ}{Z}{H}{O}{b},Zd Z H->Slots R Z H ρ σ O->p ρ=some b ->
 ∀{Q:Bool->Hp->Prop},(∀{Z'}{H'},Go Z H [] Z' H' []->Q b H')->tt σ H Q
def PP.b(h:PP R te p):PB R te p:=λz s e _ k=>h z s e λg r=>k g.to0 r
def PPs.b(h:PPs R te p):PBs R te p:=λz s e _ k=>h z s e λg r=>k g.to0 r
@[simp] def pF(pa:PF)(ρ:Rh):Option D:=(pa ρ).bind λd=>bif frz d then some d else none
def PB.f(h:PB R te p):PP R te (pF p):=by
 intro σ ρ Z H O d z s e Q k;refine ob e λc a e=>oc e λb e=>?_;cases e;exact h z s a λg r=>by
  cases r.nil b;exact k g r
@[simp] def dP(pa:PF)(ρ:Rh):Option (D×Rh):=(pa ρ).bind λd=>some (d,ρ)
@[simp] def dPT(q:PTf)(ρ:Rh):Option (Bool×Rh):=(q ρ).bind λd=>some (d,ρ)
theorem PP.d(h:PP R te p):DE R te (dP p):=by
 intro σ ρ b Z H O d w s e Q k;refine ob e λc a e=>?_;cases e;exact h w.zd s a λg r=>k (g.widen w) r<|g.slots w.zd s
theorem PTt.d(h:PTt R te p):DT R te (dPT p):=by
 intro σ ρ b Z H O d w s e Q k;refine ob e λc a e=>?_;cases e;exact h w.zd s a λg=>k ⇑(g.widen w) (g.slots w.zd s)
@[simp] def pC(d:D)(ρ:Rh):Option D:=some d
abbrev pI(i:Int):PF:=pC<|.int i
abbrev pS(l:List Nat):PF:=pC<|.str l
def je7:PB R (vk i) (pV i):=by
 intro σ ρ Z H O d z s e Q k;unfold pV at e;split at e
 ·rename_i c a;cases e;obtain⟨A,P,B,rfl,b,_⟩:=s.put (L9.mp a).1;obtain⟨v,f,r⟩:=b d a;exact⟨v,f,k (Go.id z) r⟩
 ·cases e
def jkx(a:∀ Z H,Rep R Z H d v []):PP R (tC v) (pC d):=by
 intro σ ρ Z H O b z s e Q k;cases e;exact k (Go.id z)<|a Z H
def Rep.int_mk:Rep R Z H (.int i) (.int i) []:=by rw[Rep];exact⟨rfl,rfl⟩
def Rep.str_mk:Rep R Z H (.str s) (.str<|S s) []:=by rw[Rep];exact⟨rfl,rfl⟩
def Rep.non_mk:Rep R Z H .non .non []:=by rw[Rep];exact⟨rfl,rfl⟩
def Rep.int_of(r:Rep R Z H (.int i) v O):v=.int i/\O=[]:=by rw[Rep] at r;exact r
def Rep.str_of(r:Rep R Z H (.str s) v O):v=.str (S s)/\O=[]:=by rw[Rep] at r;exact r
def Rep.non_of(r:Rep R Z H .non v O):v=.non/\O=[]:=by rw[Rep] at r;exact r
def BO(R:RC)(r:R2)(g:D->D->Option D):Prop:=∀{Z}{H}{x y d}{v u}{O1 O2},Zd Z H->Rep R Z H x v O1->Rep R Z H y u O2->g x y=some d ->
 ∀{Q},(∀{w}{Z'}{H'}{P},Go Z H [] Z' H' P->Rep R Z' H' d w P->Q w H')->r v u H Q
def BO'(R:RC)(r:R2)(g:D->D->Option D):Prop:=∀{Z}{H}{x y d}{v u}{O1 O2},Zd Z H->Rep R Z H x v O1->Rep R Z H y u O2->g x y=some d ->
 ∀{Q},(∀{w}{P},Rep R Z H d w P->Q w H)->r v u H Q
def BU(R:RC)(r:V->Hp->VK->Prop)(g:D->Option D):Prop:=∀{Z}{H}{x d}{v}{O},Zd Z H->Rep R Z H x v O->g x=some d ->
 ∀{Q},(∀{w}{Z'}{H'}{P},Go Z H [] Z' H' P->Rep R Z' H' d w P->Q w H')->r v H Q
def BC(R:RC)(r:List V->Hp->VK->Prop)(g:List D->Option D):Prop:=∀{Z}{H}{xs}{d}{vs}{O},Zd Z H->Reps R Z H xs vs O->g xs=some d ->
 ∀{Q},(∀{w}{Z'}{H'}{P},Go Z H [] Z' H' P->Rep R Z' H' d w P->Q w H')->r vs H Q
@[simp] def p2(G:D->D->Option D)(pa:PF)(pb:PF)(ρ:Rh):Option D:=(pa ρ).bind λx=>(pb ρ).bind λy=>G x y
@[simp] def p1(G:D->Option D)(pa:PF)(ρ:Rh):Option D:=(pa ρ).bind G
def V4(c:BO R r g)(f:PB R ta pa)(h:PB R tb pb):PP R (tOp r ta tb) (p2 g pa pb):=by
 intro σ ρ Z H O d z s e Q k;exact ob e λx i e=>ob e λy j e=>(f z s i λ{v p q P1} a l=>(h a.wf.zd (a.slots z s) j λ{u t w P2} b m=>(c b.wf.zd (b.rep a.wf.zd l) m e λn o=>k ((a.pair b).pair n) o)))
def jkW(c:BO' R r g)(f:PB R ta pa)(h:PB R tb pb):PB R (tOp r ta tb) (p2 g pa pb):=by
 intro σ ρ Z H O d z s e Q k;exact ob e λx i e=>ob e λy j e=>(f z s i λ{v n o P1} a l=>(h a.wf.zd (a.slots z s) j λ{u p q P2} b m=>(c b.wf.zd (b.rep a.wf.zd l) m e<|k<|a.pair b)))
def jk7(b:BU R r g)(c:PB R ta pa):PP R (tUn r ta) (p1 g pa):=by
 intro σ ρ Z H O d z s e Q k;exact ob e λx f e=>(c z s f λ{v l m P1} a h=>b a.wf.zd h e λi j=>k ⇑(a.pair i) j)
@[simp] def pN(ρ:Rh):Option (List D):=some []
@[simp] def ja(pa:PF)(p:PAf)(ρ:Rh):Option (List D):=(pa ρ).bind λx=>(p ρ).bind λxs=>some<|x::xs
def pps_nil:PPs R JB pN:=by
 intro σ ρ Z H O d z s e Q k;cases e;exact k (Go.id z) Reps.empty
def jcG(c:PP R ta pa)(f:PPs R tr pr):PPs R (yW ta tr) (ja pa pr):=by
 intro σ ρ Z H O d z s e Q k;refine ob e λx g e=>ob e λl h e=>?_;cases e;exact c z s g λ{v m n P1} a i=>(f a.wf.zd (a.slots z s) h λ{u o p P2} b j=>(k (a.pair b)<|.cons (b.rep a.wf.zd i) j))
def jbw:PBs R JB pN:=pps_nil.b
def jd2(c:PB R ta pa)(f:PBs R tr pr):PBs R (yW ta tr) (ja pa pr):=by
 intro σ ρ Z H O d z s e Q k;refine ob e λx g e=>ob e λl h e=>?_;cases e;exact c z s g λ{v m n P1} a i=>(f a.wf.zd (a.slots z s) h λ{u o p P2} b j=>(k (a.pair b)<|.cons (b.rep a.wf.zd i) j))
@[simp] def pCB(G:List D->Option D)(p:PAf)(ρ:Rh):Option D:=(p ρ).bind G
def jfo(b:BC R r g)(c:PBs R ta pa):PP R (tCB r ta) (pCB g pa):=by
 intro σ ρ Z H O d z s e Q k;exact ob e λx f e=>(c z s f λ{v l m P1} a h=>b a.wf.zd h e λi j=>k ⇑(a.pair i) j)
noncomputable def lim(n:Nat):Bool:=decide<|n<=100000
def qV(h:lim n=true):n<=sizeLine:=N7 (X4 h) (by decide)
def Ki(h:lim n=true):n<sizeLine:=E1 (X4 h) (by decide)
@[simp] def vN(p:PAf)(ρ:Rh):Option D:=(p ρ).bind λxs=>bif lim xs.length then some (.tup xs) else none
@[simp] def Ji(p:PAf)(ρ:Rh):Option D:=(p ρ).bind λxs=>bif lim xs.length then some (.lst true xs) else none
def jkf(f:PPs R ta pa):PP R (jkz ta) (vN pa):=by
 intro σ ρ Z H O d z s e Q k;refine ob e λh g e=>oc e λhl e=>?_;cases e;exact f z s g λ{v i j P1} a b=>⟨by rw[b.length];exact qV hl,λp c=>k (a.trans<|Go.newF a.wf c)<|Rep.tupNew a.wf c b⟩
def jje(f:PPs R ta pa):PP R (jkK ta) (Ji pa):=by
 intro σ ρ Z H O d z s e Q k;refine ob e λh g e=>oc e λhl e=>?_;cases e;exact f z s g λ{v i j P1} a b=>⟨by rw[b.length];exact qV hl,λp c=>k (a.trans<|Go.newO a.wf c)<|Rep.lstNew a.wf c b⟩
@[simp] def jh(pa:PF)(ρ:Rh):Option Bool:=(pa ρ).bind jjj
@[simp] def YC(q:PTf)(q':PTf)(ρ:Rh):Option Bool:=(q ρ).bind λb=>bif b then q' ρ else some false
@[simp] def qOr(q:PTf)(q':PTf)(ρ:Rh):Option Bool:=(q ρ).bind λb=>bif b then some true else q' ρ
@[simp] def ud(q:PTf)(ρ:Rh):Option Bool:=(q ρ).bind λb=>some<|!b
def jas(a:PB R ta pa):PTt R (jg1 ta) (jh pa):=by
 intro σ ρ Z H O b z s e Q k;refine ob e λx c e=>?_;cases VO e;refine a z s c λ{v g h P1} d f=>?_;obtain⟨rfl,rfl⟩:=f.bl_of;exact⟨b,rfl,k d⟩
def jh4(d:PTt R ta pa)(f:PTt R tb pb):PTt R (jlH ta tb) (YC pa pb):=by
 intro σ ρ Z H O b z s e Q k;refine ob e λc g e=>(d z s g λ{i j} a=>?_);cases c with
 | true=>exact jc9<|f a.wf.zd (a.slots z s) e λh=>k<|a.pair h
 | false=>cases e;exact jdm<|k a
def jkF(d:PTt R ta pa)(f:PTt R tb pb):PTt R (tOr ta tb) (qOr pa pb):=by
 intro σ ρ Z H O b z s e Q k;refine ob e λc g e=>(d z s g λ{i j} a=>?_);cases c with
 | true=>cases e;exact jc9<|k a
 | false=>exact jdm<|f a.wf.zd (a.slots z s) e λh=>k<|a.pair h
def jfr(a:PTt R ta pa):PTt R (jk4 ta) (ud pa):=by
 intro σ ρ Z H O b z s e Q k;refine ob e λc d e=>?_;cases e;exact a z s d λ{g h} f=>k f
@[simp] def zQ(pa:PF)(pb:PF)(ρ:Rh):Option D:=(pa ρ).bind λd=>(jjj d).bind λb=>bif b then pb ρ else some (.bl false)
@[simp] def jlt(pa:PF)(ρ:Rh):Option D:=(pa ρ).bind λd=>(jjj d).bind λb=>some<|.bl<|!b
def jis(b:PB R ta pa)(f:PP R tb pb):PP R (jag ta tb) (zQ pa pb):=by
 intro σ ρ Z H O d z s e Q k;refine ob e λx g e=>ob e λc h e=>?_;cases VO h;refine b z s g λ{v m n P1} a i=>?_;obtain⟨rfl,rfl⟩:=i.bl_of;refine⟨c,rfl,?_⟩;cases c with
 | true=>exact jc9<|f a.wf.zd (a.slots z s) e λj l=>k ⇑(a.pair j) l
 | false=>cases e;exact jdm<|k a .bl_mk
def jjd(a:PB R ta pa):PP R (jgs ta) (jlt pa):=by
 intro σ ρ Z H O d z s e Q k;refine ob e λx b e=>ob e λc f e=>?_;cases VO f;cases e;refine a z s b λ{v i j P1} g h=>?_;obtain⟨rfl,rfl⟩:=h.bl_of;exact⟨c,rfl,k g .bl_mk⟩
@[simp] def pIf(q:PTf)(pa:PF)(pb:PF)(ρ:Rh):Option D:=(q ρ).bind λb=>bif b then pa ρ else pb ρ
def jkI(g:PTt R tt pt)(h:PP R ta pa)(i:PP R tb pb):PP R (tIf tt ta tb) (pIf pt pa pb):=by
 intro σ ρ Z H O d z s e Q k;refine ob e λc j e=>(g z s j λ{l m} a=>?_);cases c with
 | true=>exact jc9<|h a.wf.zd (a.slots z s) e λb f=>k ⇑(a.pair b) f
 | false=>exact jdm<|i a.wf.zd (a.slots z s) e λb f=>k ⇑(a.pair b) f
def jhv(R:RC)(J:It)(Z:Zn)(H:Hp)(xs:List D):Prop:=∀{Z1}{H1},(∀ a,Z a->Z1 a)->(∀ a,Z a->H1 a=H a)->Zd Z1 H1->∀ i:Nat,
 (xs.length<=i->J.stop i H1)/\∀ x,xs[i]?=some x->J.go i H1/\∀ u H2,J.yld i H1 u H2->∃ Z2,Go Z1 H1 [] Z2 H2 []/\Rep R Z2 H2 x u []
def PIt(R:RC)(wi:TI)(p:PAf):Prop:=∀{σ}{ρ}{Z}{H}{O}{xs},Zd Z H->Slots R Z H ρ σ O->p ρ=some xs ->
 ∀{Q:It->Hp->Prop},(∀{J}{Z'}{H'},Go Z H [] Z' H' []->jhv R J Z' H' xs->Q J H')->wi σ H Q
def jcq(K:W3)(tl:TE):TI:=λσ H Q=>tl σ H λx H1=>
 (∃ a,x=.ref a/\(∃ xs,SqL K H1 a xs)/\Q (Itl K a) H1)\/(∃ a,x=.ref a/\(∃ xs,SqT K H1 a xs)/\Q (Itt K a) H1) \/ ∃ l,x=.str (S l)/\Q (Its l) H1
def xy(hl:PE X l tl):PI X tg l (jcq X.K tl):=by
 intro d s σ H Q I h;have n:∀ v c,EP X d σ (λx g=>(∃ a,x=.ref a/\(∃ j,SqL X.K g a j)/\Q (Itl X.K a) g)\/(∃ a,x=.ref a/\(∃ j,SqT X.K g a j)/\Q (Itt X.K a) g) \/ ∃ l,x=.str (S l)/\Q (Its l) g) v c->wpAny (model X.prog X.w) X.A (pyIter v) (PIE X d σ tg Q) X.xe c:=by
  rintro v c ⟨x,g,f,r,C⟩;rcases C with⟨a,rfl,⟨j,u⟩,q⟩ | ⟨a,rfl,⟨j,u⟩,q⟩ | ⟨l,rfl,q⟩
  ·cases r;obtain⟨y,D,p,E⟩:=f.list u;refine wpAny_pyIter_list p.isList ⟨↥c,[↥c],_,_,g,rfl,f.kept λb o e=>L8 _ e,jav a _,⟨_,X9 _ rfl,rfl,rfl⟩,λb k=>?_,q⟩;have e:b=↥c:=by simpa using k
   subst e;exact f.fpOk (M8 _)<|f.hok.fresh<|M8 _
  ·cases r;obtain⟨y,D,p,E⟩:=f.tuple u;refine wpAny_pyIter_tuple (p) ⟨↥c,[↥c],_,_,g,rfl,f.kept λb o e=>L8 _ e,wz a _,⟨_,X9 _ rfl,rfl,rfl⟩,λb k=>?_,q⟩;have e:b=↥c:=by simpa using k
   subst e;exact f.fpOk (M8 _)<|f.hok.fresh<|M8 _
  ·obtain⟨t,rfl⟩:=r;have m:∀ ty,(ty = "str_ascii_iterator" \/ ty = "str_iterator")->(∀ A:Around,A.handled=none->Walks X.prog X.w A ↥c [↥c] [↥c] (S l).cps.size (SignAt<|S l) (λi h=>h.IsStrIter ↥c ty (S l) t i)) ->
     PIE X d σ tg Q (.ref ↥c) { c with heap:=c.heap.push {cls:=.type ty,data:=.fields #[.str (S l) t,.int 0 0]} }:=λty z W=>by
    refine⟨↥c,[↥c],_,_,g,rfl,f.kept λb o e=>L8 _ e,jdj _ l t ty z W,⟨_,X9 _ rfl,rfl,rfl⟩,λb k=>?_,q⟩;have e:b=↥c:=by simpa using k
    subst e;exact f.fpOk (M8 _)<|f.hok.fresh<|M8 _
   cases ha:(S l).cps.all (· < 128)
   ·exact wpAny_pyIter_wide ha<|m _ (.inr rfl) λF B=>Walks.strWide B _ (S l) t
   ·exact wpAny_pyIter_ascii ha<|m _ (.inl rfl) λF B=>Walks.strAscii B _ (S l) t
 exact thn (hl d s σ H _ I h) n
def Je:D->Option (List D)
 | .lst _ l=>some<|fzs l
 | .tup l=>some<|fzs l
 | .str s=>some<|s.map λc=>.str [c]
 | _=>none
@[simp] def pIt(pa:PF)(ρ:Rh):Option (List D):=(pa ρ).bind Je
def jj2(h:FL R Z H a vs)(r:Reps R Z H l vs []):jhv R (Itl R.K a) Z H l:=by
 intro j p d f zd i;have b:=(h.frame d f).sq;refine⟨λk=>⟨vs,b,by rw[r.length];exact k⟩,λx m=>?_⟩;obtain⟨v,g,n⟩:=(r.frame d f λa o=>(nomatch o)).item m;refine⟨⟨vs,v,b,g⟩,λu q c=>?_⟩;obtain⟨rfl,c⟩:=c;have e:=c vs b;rw[g] at e;cases e;exact⟨j,Go.id zd,n⟩
def jjY(h:FT R Z H a vs)(r:Reps R Z H l vs []):jhv R (Itt R.K a) Z H l:=by
 intro j p d f zd i;have b:=(h.frame d f).sq;refine⟨λk=>⟨vs,b,by rw[r.length];exact k⟩,λx m=>?_⟩;obtain⟨v,g,n⟩:=(r.frame d f λa o=>(nomatch o)).item m;refine⟨⟨vs,v,b,g⟩,λu q c=>?_⟩;obtain⟨rfl,c⟩:=c;have e:=c vs b;rw[g] at e;cases e;exact⟨j,Go.id zd,n⟩
def jeQ:jhv R (Its s) Z H (s.map λc=>.str [c]):=by
 intro d h j k zd i;refine⟨λf=>by show s.length<=i;simpa using f,λx a=>?_⟩;rw[List.getElem?_map] at a;cases e:s[i]? with
 | none=>rw[e] at a;cases a
 | some c=>
  rw[e] at a;cases a;refine⟨(L9.mp e).1,λu l g=>?_⟩;obtain⟨rfl,m,b,rfl⟩:=g;rw[e] at b;cases b;exact⟨d,Go.id zd,.str_mk⟩
def Go.fz(g:Go Z H [] Z' H' P):Go Z H [] (λa=>Z' a\/a∈P) H' []:=g.trans<|Go.freeze g.wf
def jlx(h:PP R te p):PIt R (jcq R.K te) (pIt p):=by
 intro σ ρ Z H O m z s e Q k;refine ob e λd i e=>(h z s i λ{v j n P1} b f=>?_);have g:=f.freeze (Z':=λa=>j a\/a∈P1) (λa z=>.inl z) λa z=>.inr z;cases d with
 | lst o l=>
  cases e;obtain⟨a,vs,q,rfl,c,hl,rfl,_⟩:=g;exact .inl ⟨a,rfl,⟨vs,FL.sq hl⟩,k b.fz<|jj2 hl c⟩
 | tup l=>
  cases e;obtain⟨a,vs,rfl,hl,c⟩:=g;exact .inr<|.inl ⟨a,rfl,⟨vs,FT.sq hl⟩,k b.fz<|jjY hl c⟩
 | str t=>
  cases e;obtain⟨rfl,rfl⟩:=f.str_of;exact .inr<|.inr ⟨t,rfl,k b jeQ⟩
 | _=>cases e
noncomputable def YN(lo:Int)(n:Nat):List D:=(List.range n).map λ(i:Nat)=>D.int<|lo+(i:Int)
def jiM:jhv R (Itr lo n) Z H (YN lo n):=by
 intro c e f g zd i;refine⟨λb=>by show n<=i;simpa [YN] using b,λx a=>?_⟩;unfold YN at a;rw[List.getElem?_map] at a;by_cases b:i<n
 ·rw[List.getElem?_range b] at a;cases a;refine⟨b,λu h d=>?_⟩;obtain⟨rfl,rfl⟩:=d;exact⟨c,Go.id zd,.int_mk⟩
 ·rw[List.getElem?_eq_none ⇑b] at a;cases a
noncomputable def xr(i:Int):Bool:=Nat.ble i.natAbs 4611686018427387903
def K3(h:xr i=true):-(2 ^ 62)<=i/\i<2 ^ 62:=by
 have h:=Nat.le_of_ble_eq_true h;constructor<;>lia
def je2(l:List D):Option (List D):=(jb5 l).bind λx=>(Ku x).bind λj=>bif xr j then some (YN 0 j.toNat) else none
@[simp] def KZ(p:PAf)(ρ:Rh):Option (List D):=(p ρ).bind je2
def Reps.one_of(r:Reps R Z H [d] vs O):∃ v,vs=[v]/\Rep R Z H d v O:=by
 obtain⟨v,a,O1,O2,rfl,rfl,b,c⟩:=r;obtain⟨rfl,rfl⟩:=c;exact⟨v,rfl,by simpa using b⟩
def Reps.two_of(r:Reps R Z H [d,e] vs O):Ex4 λv u O1 O2=>An4 (vs=[v,u]) (O=O1++O2) (Rep R Z H d v O1) (Rep R Z H e u O2):=by
 obtain⟨v,a,O1,O2,rfl,rfl,b,c⟩:=r;obtain⟨u,rfl,f⟩:=c.one_of;exact⟨v,u,O1,O2,rfl,rfl,b,f⟩
def jhB(h:PBs R ta p):PIt R (jht ta) (KZ p):=by
 intro σ ρ Z H O i z s e Q k;refine ob e λl a e=>ob e λx b e=>ob e λj c e=>oc e λhs e=>?_;cases e;cases kH b;cases kX c;refine h z s a λ{v m n P1} d f=>?_;obtain⟨u,rfl,g⟩:=f.one_of;obtain⟨rfl,_⟩:=g.int_of;exact⟨j,rfl,(K3 hs).1,(K3 hs).2,k d jiM⟩
def PGt(R:RC)(pm:List Nat)(tg:TG)(f:D->Rh->Option Rh):Prop:=∀{σ}{ρ ρ'}{Z}{H}{O}{d}{v},Rep R Z H d v []->Slots R Z H ρ σ O->f d ρ=some ρ' ->
 ∀{Q:St->Hp->Prop},(∀{σ'}{O'},(∀ a∈O',a∈O)->(O.Nodup->O'.Nodup)->Slots R Z H ρ' σ' O'->Keep pm σ σ'->Q σ' H)->tg v σ H Q
def jj0(R:RC)(pm:List Nat)(tg:TGs)(f:List D->Rh->Option Rh):Prop:=∀{σ}{ρ ρ'}{Z}{H}{O}{ds}{vs},Reps R Z H ds vs []->Slots R Z H ρ σ O->f ds ρ=some ρ' ->
 ∀{Q:St->Hp->Prop},(∀{σ'}{O'},(∀ a∈O',a∈O)->(O.Nodup->O'.Nodup)->Slots R Z H ρ' σ' O'->Keep pm σ σ'->Q σ' H)->tg vs σ H Q
def jdS:PGt R pm (Jj i) (jd pm i):=by
 intro σ ρ f Z H O d v r h e Q k;unfold jd at e;by_cases b:i<ρ.length
 ·by_cases hm:i∈pm
  ·lia
  ·rw[X1 b,X2 hm] at e;cases e;obtain⟨A,g,B,rfl,j,c,l⟩:=h.put b;refine k (λa q=>?_) (λnd=>?_) (c r (λ_ z=>z) (λ_ _=>rfl) (λ_ _=>rfl)<|λ_ _=>rfl)<|Keep.set hm
   ·simp at q ⊢;rcases q with q | q<;>simp[q]
   ·grind
 ·lia
def jd1:jj0 R pm jjL gN:=by
 intro σ ρ c Z H O b vs r h e Q k;cases b with
 | cons _ _=>cases e
 | nil=>
  cases e;obtain⟨rfl,_⟩:=r;exact⟨rfl,k (λa h=>h) (λh=>h) h<|Keep.refl _ _⟩
def uk(f:PGt R pm t g)(hs:jj0 R pm u gs):jj0 R pm (jbI t u) (gC g gs):=by
 intro σ ρ A Z H O c vs r h e Q k;cases c with
 | nil=>cases e
 | cons d c=>
  refine ob e λB i e=>?_;obtain⟨v,b,O1,O2,rfl,j,l,m⟩:=r;obtain⟨rfl,rfl⟩:=List.append_eq_nil_iff.mp j.symm;exact⟨v,b,rfl,f l h i λn o p s=>hs m p e λw x y z=>k (λa q=>n a<|w a q) (λq=>x<|o q) y<|s.trans z⟩
def jgx(hs:jj0 R pm u gs):PGt R pm (jhQ R.K n u) (gT n gs):=by
 intro σ ρ f Z H O d v r h e Q k;cases d with
 | tup l=>
  unfold gT at e;dsimp only at e;by_cases hl:l.length=n
  ·rw[X1 hl,cond_true] at e;obtain⟨a,vs,rfl,c,b⟩:=r;exact⟨a,vs,rfl,c.sq,by rw[b.length];exact hl,hs b h e k⟩
  ·lia
 | _=>cases e
noncomputable def yU(g:D->Rh->Option Rh)(f:FS):List D->FS
 | [],ρ=>some<|.nx ρ
 | x::xs,ρ=>(g x ρ).bind λr=>(f r).bind λo=>o.loop<|yU g f xs
@[simp] def YE(p:PAf)(G:D->Rh->Option Rh)(f:FS)(ρ:Rh):Option Out:=(p ρ).bind λxs=>yU G f xs ρ
def kM{l:List α}{i}(h:l[i]?=some x):l.drop i=x::l.drop (i+1):=by
 obtain⟨a,rfl⟩:=L9.mp h;exact List.drop_eq_getElem_cons a
inductive LpF (R:RC) (pm:List Nat) (g:D->Rh->Option Rh) (f:FS) (σ:L2.St) (Z0:Zn) (H0:Hp) (O:W4) (xs:List D) (o:Out) (i m:Nat) (σ':L2.St) (H':Hp):Prop
 | mk:m=xs.length-i->i<=xs.length->∀(ρ':Rh) (Z':Zn) (O':W4),Go Z0 H0 O Z' H' O'->Slots R Z' H' ρ' σ' O'->Keep pm σ σ'->yU g f (xs.drop i) ρ'=some o->LpF R pm g f σ Z0 H0 O xs o i m σ' H'
def jiI(hi:PIt R wi p)(S:PGt R pm tg g)(T:DS R pm tb f):DS R pm (jfs wi tg tb) (YE p g f):=by
 intro σ ρ Z H O o w s e D' k;refine ob e λh U e=>(hi w.zd s U λ{J B D} L V=>?_);have a:Go Z H O B D O:=by simpa using L.widen w
 refine⟨LpF R pm g f σ B D O h o,
  ⟨h.length,rfl,U5 _,ρ,B,O,Go.refl a.wf,L.slots w.zd s,Keep.refl _ _,e⟩,?_⟩
 rintro i m σ' W ⟨rfl,X,ρ',Y,M,j,N,kp,b⟩;have v:=V j.zz (j.zH a.wf) j.wf.zd i;by_cases E:i<h.length
 ·right
  have P:h[i]?=some h[i]:=by simp
  obtain⟨go,yl⟩:=v.2 _ P;rw[kM P] at b;refine ob b λρ1 e3 b=>ob b λo1 e4 b=>⟨go,λF r=>∃ c t O2,Go B D O t r O2/\Slots R t r c F O2/\Keep pm σ F/\yU g f (h.drop<|i+1) c=some o,λF r ⟨c,t,O2,a1,a2,a3,a4⟩=>⟨h.length-(i+1),by lia,rfl,E,c,t,O2,a1,a2,a3,a4⟩,λu r hy=>?_⟩;obtain⟨t,Q,r2⟩:=yl u r hy;have x:Go Y W M t r M:=by simpa using Q.widen j.wf
  refine S r2 (Q.slots j.wf.zd N) e3 λ{σ3 O3} sub nd s3 C=>?_;have y:=(j.trans x).drop sub (nd x.wf.nd);refine T y.wf s3 e4 ?_;cases o1 with
  | nx c=>exact λ{G z I A} l n q=>⟨c,z,A,y.trans l,n,kp.trans<|C.trans q,b⟩
  | ct c=>exact λ{G z I A} l n q=>⟨c,z,A,y.trans l,n,kp.trans<|C.trans q,b⟩
  | bk c=>cases b;exact λ{G z I A} l n q=>k (a.trans<|y.trans l) n<|kp.trans<|C.trans q
  | rt d c=>cases b;exact λ{v4 G z I P4 A} l r4 n q=>k (a.trans<|y.trans l) r4 n<|kp.trans<|C.trans q
 ·left
  have K:i=h.length:=by lia
  refine⟨v.1<|by lia,?_⟩;rw[K,List.drop_length] at b;cases b;exact k (a.trans j) N kp
noncomputable def jO(ix:List<|Option Nat)(ρ:Rh):Rh:=ix.map λo=>o.bind λj=>(ρ[j]?).join
def zf(s:Slots R Z H ρ σ O):∀ ix:List (Option Nat),∃ O',Slots R Z H (jO ix ρ) (vc ix σ) O':=by
 intro ix
 induction ix with
 | nil=>
  exact⟨[],rfl,rfl⟩
 | cons o ix a=>
  obtain⟨O',a⟩:=a;show ∃ O',Slots R Z H ((o.bind λj=>(ρ[j]?).join)::jO ix ρ) ((o.bind λj=>(σ[j]?).join)::vc ix σ) O';cases e:o.bind λj=>(ρ[j]?).join with
  | none=>exact⟨O',_,_,rfl,a⟩
  | some d=>
   cases o with
   | none=>cases e
   | some j=>
    have g:(ρ[j]?).join=some d:=e;have b:ρ[j]?=some (some d):=by grind
    obtain⟨A,P,B,_,c,_⟩:=s.put (L9.mp b).1;obtain⟨v,f,r⟩:=c d b;refine⟨P++O',v,_,P,O',?_,rfl,r,a⟩;show((σ[j]?).join::vc ix σ)=some v::vc ix σ;rw[f];rfl
@[simp] def qT(ρ:Rh):Option Bool:=some true
def jgN:PTt R (λ_ H Q=>Q true H) qT:=by
 intro σ ρ Z H O b z s e Q k;cases e;exact k<|Go.id z
noncomputable def jS(g:D->Rh->Option Rh)(q:PTf)(p:PF):List D->Rh->Option (List D)
 | [],_=>some []
 | x::xs,ρ=>(g x ρ).bind λρ1=>(q ρ1).bind λb=>bif b then((p ρ1).bind λy=>(jS g q p xs ρ1).bind λys=>some<|y::ys) else jS g q p xs ρ1
@[simp] def yB(pi:PAf)(G:D->Rh->Option Rh)(q:PTf)(pa:PF)(ix:List<|Option Nat)(ρ:Rh):Option D:=(pi ρ).bind λxs=>bif lim xs.length then((jS G q pa xs<|jO ix ρ).bind λys=>some<|.lst true ys) else none
noncomputable def spP(R:RC)(m:List D->Option D)(n:Nat):Sp:=λvs H Q _=>∃ Z ds d,Zd Z H/\ds.length=n/\Reps R Z H ds vs []/\m ds=some d/\∀{v}{Z'}{H'}{P},Go Z H [] Z' H' P->Rep R Z' H' d v P->Q v H'
def fnP(n:Nat)(f:FS)(ds:List D):Option D:=(f<|ds.map some++List.replicate (n-ds.length) none).bind Out.val
theorem kW:∀ n:Nat,Slots R Z H (List.replicate n none) (List.replicate n none) []
 | 0=>⟨rfl,rfl⟩
 | n+1=>⟨none,_,rfl,kW n⟩
theorem kP:∀{ds}{vs}{O}{ρ}{σ}{P},Reps R Z H ds vs O->Slots R Z H ρ σ P->Slots R Z H (ds.map some++ρ) (vs.map some++σ) (O++P)
 | [],_,_,_,_,_,r,s=>by rw[Reps] at r;obtain⟨rfl,rfl⟩:=r;exact s
 | d::ds,_,_,_,_,_,r,s=>by
  obtain⟨v,a,O1,O2,rfl,rfl,b,c⟩:=r;exact⟨v,_,O1,_,rfl,List.append_assoc ..,b,kP c s⟩
def jfA(b:DS R [] ts f)(h:spP R (fnP N.length f) n vs H Q E):ts {nx:=λ_ H'=>Q .non H',rt:=Q} (L2.start N vs) H:=by
 obtain⟨Z,a,d,z,l,r,e,k⟩:=h;have s:Slots R Z H (a.map some++List.replicate (N.length-a.length) none) (L2.start N vs) []:=by
  unfold L2.start;rw[r.length];exact(kP r<|kW<|N.length-a.length)
 refine ob e λo c e=>?_;cases o with
 | rt m i=>cases e;exact b (wf0 z) s c λg j _ _=>k g.dropR j
 | nx i=>cases e;exact b (wf0 z) s c λg _ _=>k g.to0 .non_mk
 | _=>cases e
def jgI(h:spP R m n vs H Q E):vs.length=n:=by
 obtain⟨Z,b,d,z,a,r,_⟩:=h;rw[r.length,a]
mutual
noncomputable def yx:D->Bool
 | .tup l=>jw l
 | .lst o l=>o&&jw l
 | .dK o _ l=>o&&jw l
 | .dT o _ l=>o&&jw l
 | .dN o l=>o&&jw l
 | .ins o _ _ l=>o&&jw l
 | .non=>true | .bl _=>true | .int _=>true | .str _=>true | .dead=>true | .tok _=>true | .kt _=>false | .exc _ _=>false | .lam=>false
noncomputable def jw:List D->Bool
 | []=>true
 | d::l=>yx d&&jw l
end
mutual
theorem Rep.thaw(ht:∀ a vs,Z a->Rd H a (.tup vs)->Z' a):∀{d:D}{v:V}{O:W4},Rep R Z H d v O->yx d=true->Rep R Z' H d v O
 | .non,_,_,h,_=>by rw[Rep] at h ⊢;exact h
 | .bl _,_,_,h,_=>by rw[Rep] at h ⊢;exact h
 | .int _,_,_,h,_=>by rw[Rep] at h ⊢;exact h
 | .str _,_,_,h,_=>by rw[Rep] at h ⊢;exact h
 | .dead,_,_,h,_=>by rw[Rep] at h ⊢;exact h
 | .tok _,_,_,h,_=>by rw[Rep] at h ⊢;exact h
 | .kt _,_,_,_,f=>by rw[yx] at f;cases f
 | .exc _ _,_,_,_,f=>by rw[yx] at f;cases f
 | .lam,_,_,_,f=>by rw[yx] at f;cases f
 | .tup l,_,_,h,f=>by
  rw[Rep] at h ⊢;rw[yx] at f;obtain⟨a,vs,e,t,r⟩:=h;refine⟨a,vs,e,?_,Reps.thaw ht r f⟩;rcases t with⟨z,q⟩ | q
  ·exact .inl ⟨ht a vs z q,q⟩
  ·exact .inr q
 | .lst o l,_,_,h,f=>by
  rw[Rep] at h ⊢;rw[yx,M0] at f;obtain⟨a,vs,O',e,r,h⟩:=h;cases f.1;exact⟨a,vs,O',e,Reps.thaw ht r f.2,h⟩
 | .dK o ks l,_,_,h,f=>by
  rw[Rep] at h ⊢;rw[yx,M0] at f;obtain⟨a,vs,O',e,r,h⟩:=h;cases f.1;exact⟨a,vs,O',e,Reps.thaw ht r f.2,h⟩
 | .dT o ks l,_,_,h,f=>by
  rw[Rep] at h ⊢;rw[yx,M0] at f;obtain⟨a,vs,O',e,r,h⟩:=h;cases f.1;exact⟨a,vs,O',e,Reps.thaw ht r f.2,h⟩
 | .dN o l,_,_,h,f=>by
  rw[Rep] at h ⊢;rw[yx,M0] at f;obtain⟨a,vs,O',e,r,h⟩:=h;cases f.1;exact⟨a,vs,O',e,Reps.thaw ht r f.2,h⟩
 | .ins o c ns l,_,_,h,f=>by
  rw[Rep] at h ⊢;rw[yx,M0] at f;obtain⟨a,dx,vs,O',e,r,h⟩:=h;cases f.1;exact⟨a,dx,vs,O',e,Reps.thaw ht r f.2,h⟩
theorem Reps.thaw(ht:∀ a vs,Z a->Rd H a (.tup vs)->Z' a):∀{l:List D}{vs:List V}{O:W4},Reps R Z H l vs O->jw l=true->Reps R Z' H l vs O
 | [],_,_,h,_=>by rw[Reps] at h ⊢;exact h
 | d::l,_,_,h,f=>by
  rw[Reps] at h ⊢;rw[jw,M0] at f;obtain⟨v,vs,O1,O2,e,rfl,r1,r2⟩:=h;exact⟨v,vs,O1,O2,e,rfl,Rep.thaw ht r1 f.1,Reps.thaw ht r2 f.2⟩
end
mutual
theorem Rep.notTup:∀{d:D}{v:V}{O:W4},Rep R Z H d v O->∀ a∈O,∀ vs,¬ Rd H a (.tup vs)
 | .non,_,_,h,a,ha=>by rw[Rep] at h;rw[h.2] at ha;cases ha
 | .bl _,_,_,h,a,ha=>by rw[Rep] at h;rw[h.2] at ha;cases ha
 | .int _,_,_,h,a,ha=>by rw[Rep] at h;rw[h.2] at ha;cases ha
 | .str _,_,_,h,a,ha=>by rw[Rep] at h;rw[h.2] at ha;cases ha
 | .dead,_,_,h,a,ha=>by rw[Rep] at h;rw[h] at ha;cases ha
 | .tok _,_,_,h,a,ha=>by rw[Rep] at h;rw[h.2] at ha;cases ha
 | .kt _,_,_,h,a,ha=>by rw[Rep] at h;obtain⟨_,_,_,_,h⟩:=h;rw[h] at ha;cases ha
 | .exc _ _,_,_,h,a,ha=>by rw[Rep] at h;obtain⟨_,_,_,_,_,_,_,h⟩:=h;rw[h] at ha;cases ha
 | .lam,_,_,h,a,ha=>by rw[Rep] at h;obtain⟨_,_,_,_,_,_,_,_,h⟩:=h;rw[h] at ha;cases ha
 | .tup l,_,_,h,a,ha=>by
  rw[Rep] at h;obtain⟨b,vs,e,t,r⟩:=h;exact Reps.notTup r a ha
 | .lst o l,_,_,h,a,ha=>by
  rw[Rep] at h;obtain⟨b,vs,O',e,r,h⟩:=h;cases o with
  | true=>
   obtain⟨h1,rfl⟩:=h;rcases M4.mp ha with e | e
   ·subst e;rintro ws (q | ⟨_,q⟩)<;>rw[h1] at q<;>cases q
   ·exact Reps.notTup r a e
  | false=>rw[h.2.2] at ha;cases ha
 | .dK o ks l,_,_,h,a,ha=>by
  rw[Rep] at h;obtain⟨b,vs,O',e,r,hl,hd,h⟩:=h;cases o with
  | true=>
   have h:=(show _=_ from h);subst h;rcases M4.mp ha with e | e
   ·subst e;rintro ws (q | ⟨_,q⟩)<;>rw[hd] at q<;>cases q
   ·exact Reps.notTup r a e
  | false=>rw[h.2.2] at ha;cases ha
 | .dT o ks l,_,_,h,a,ha=>by
  rw[Rep] at h;obtain⟨b,vs,O',e,r,hl,hd,h⟩:=h;cases o with
  | true=>
   have h:=(show _=_ from h);subst h;rcases M4.mp ha with e | e
   ·subst e;rintro ws (q | ⟨_,q⟩)<;>rw[hd] at q<;>cases q
   ·exact Reps.notTup r a e
  | false=>rw[h.2.2] at ha;cases ha
 | .dN o l,_,_,h,a,ha=>by
  rw[Rep] at h;obtain⟨b,vs,O',e,r,hl,hd,h⟩:=h;cases o with
  | true=>
   have h:=(show _=_ from h);subst h;rcases M4.mp ha with e | e
   ·subst e;rintro ws (q | ⟨_,q⟩)<;>rw[hd] at q<;>cases q
   ·exact Reps.notTup r a e
  | false=>rw[h.2.2] at ha;cases ha
 | .ins o c ns l,_,_,h,a,ha=>by
  rw[Rep] at h;obtain⟨b,dx,vs,O',e,r,hl,hd,h⟩:=h;cases o with
  | true=>
   have h:=(show _=_ from h);subst h;rcases M4.mp ha with e | e
   ·subst e;rintro ws (q | ⟨_,q⟩)<;>rw[hd] at q<;>cases q
   ·exact Reps.notTup r a e
  | false=>rw[h.2.2] at ha;cases ha
theorem Reps.notTup:∀{l:List D}{vs:List V}{O:W4},Reps R Z H l vs O->∀ a∈O,∀ vs,¬ Rd H a (.tup vs)
 | [],_,_,h,a,ha=>by rw[Reps] at h;rw[h.2] at ha;cases ha
 | d::l,_,_,h,a,ha=>by
  rw[Reps] at h;obtain⟨v,vs,O1,O2,e,rfl,r1,r2⟩:=h;rcases N1.mp ha with q | q
  ·exact Rep.notTup r1 a q
  ·exact Reps.notTup r2 a q
end
@[simp] def jL(m:List D->Option D)(p:PAf)(ρ:Rh):Option D:=(p ρ).bind λds=>(m<|fzs ds).bind λd=>bif frzs ds||yx d then some d else none
def jgH(l):(fzs l).length=l.length:=by rw[v8,L1]
def uQ(i:Zd Z H)(e:Reps R Z H ds vs P1)(hn:ds.length=n)(j:m (fzs ds)=some d)(c:(frzs ds||yx d)=true)
  (k:∀{v}{Z'}{H'}{P},Go Z H [] Z' H' P->Rep R Z' H' d v P->Q v H'):spP R m n (vs++[]) H Q E:=by
 refine⟨λa=>Z a\/a∈P1,fzs ds,d,λa h=>h.elim (i a)<|e.dom a,by rw[jgH];exact hn,by rw[M9];exact e.freeze (λa z=>.inl z) λa z=>.inr z,j,λ{v Z' H' P} b f=>?_⟩;rw[Bool.or_eq_true] at c;rcases c with c | c
 ·cases e.nil c;exact k ⟨b.wf,λa z=>b.zz a<|.inl z,b.fr,λa z=>(b.zn a z).imp (λq=>q.resolve_right<|λq=>(nomatch q)) id,b.sub,b.dm⟩ f
 ·refine k (Z':=λa=>Z' a/\(a∉P1\/Z a)) ⟨⟨b.wf.nd,λa h q=>b.wf.nz a h q.1,b.wf.od,λa q=>b.wf.zd a q.1⟩,λa z=>⟨b.zz a<|.inl z,.inr z⟩,b.fr,λa z=>?_,b.sub,b.dm⟩<|f.thaw (λa l o p=>⟨o,?_⟩) c
  ·rcases b.zn a z.1 with(q | q) | q
   ·lia
   ·lia
   ·lia
  ·by_cases g:a∈P1
   ·exact absurd (Rd.agree (b.same a<|e.dom a g).symm p)<|e.notTup a g l
   ·lia
def jg0(f:PBs R ta p)(hn:∀ ρ ds,p ρ=some ds->ds.length=n):PP R (JA (spP R m n) [] E0 ta) (jL m p):=by
 intro σ ρ Z H O d z s e Q k;refine ob e λds a e=>ob e λc g e=>oc e λh e=>?_;cases e;exact f z s a λb i=>uQ b.wf.zd i (hn ρ ds a) g h λj l=>k ⇑(b.pair j) l
@[simp] def sFz(i:Nat)(f:FS)(ρ:Rh):Option Out:=match pV i ρ with | some d=>f (ρ.set i<|some<|fz d) | none=>f ρ
def jlI(h:DS R pm t f):DS R pm t (sFz i f):=by
 intro σ ρ Z H O o w s e m k;unfold sFz at e;split at e
 ·rename_i d hd;have hd:=K2 hd;obtain⟨A,P,B,rfl,c,j,_⟩:=s.put (L9.mp hd).1;obtain⟨v,l,r⟩:=c d hd;have g:=(Go.freeze w.mid).frame w;have b:=j (r.freeze (Z':=λa=>Z a\/a∈P) (λa z=>.inl z) λa z=>.inr z) (λa z=>.inl z) (λ_ _=>rfl) (λ_ _=>rfl)<|λ_ _=>rfl;rw[yF l] at b;exact h g.wf b e<|k.pre g<|Keep.refl _ _
 ·exact h w s e k
def qD{l m:W4}(h:∀ c,l.count c<=m.count c)(n:m.Nodup):l.Nodup:=List.nodup_iff_count.mpr λc=>N7 (h c)<|List.nodup_iff_count.mp n c
def Vg{l m:W4}(h:∀ c,l.count c<=m.count c):∀ c∈l,c∈m:=λc a=>List.count_pos_iff.mp<|U4 (List.count_pos_iff.mpr a)<|h c
def Go.at(g:Go Z H O Z' H' P)(hn:a∉O)(h:H a=some o):H' a=some o:=(g.fr a (by lia) hn).trans h
def Go.at0(g:Go Z H [] Z' H' P)(h:H a=some o):H' a=some o:=g.at (λz=>nomatch z) h
noncomputable abbrev Ln:=D->Option (D×(D->D))
inductive LnR (R:RC) (Z:Zn) (H:Hp) (ρ:Rh) (σ:L2.St) (O:W4) (tb:TE) (i:Nat) (x:D) (k:D->D):Prop
 | mk:∀(v:V) (A P B:W4),O=A++P++B->Rep R Z H x v P->(∀{Q:VK},Q v H->tb σ H Q) ->
  (∀{Z':Zn}{H':Hp}{x':D}{P':W4},Rep R Z' H' x' v P'->(∀ a,Z a->Z' a)->(∀ a,Z a->H' a=H a)->(∀ a∈A,H' a=H a)->(∀ a∈B,H' a=H a)->Slots R Z' H' (ρ.set i<|some<|k x') σ (A++P'++B))->LnR R Z H ρ σ O tb i x k
def jcg(R:RC)(tb:TE)(i:Nat)(L:Ln):Prop:=∀{σ}{ρ}{Z}{H}{O}{d x}{k},Slots R Z H ρ σ O->ρ[i]?=some (some d)->L d=some (x,k)->LnR R Z H ρ σ O tb i x k
noncomputable def Jc:Ln:=λd=>some (d,λx=>x)
def YM:jcg R (vk i) i Jc:=by
 intro σ ρ Z H O d x k s h e;cases e;obtain⟨A,P,B,rfl,b,c,_⟩:=s.put (L9.mp h).1;obtain⟨v,a,r⟩:=b _ h;refine⟨v,A,P,B,rfl,r,λq=>⟨v,a,q⟩,λf g j l m=>?_⟩;have q:=c f g j l m;rw[yF a] at q;exact q
inductive OwR (R:RC) (Z:Zn) (H:Hp) (l:List D) (sh:Addr->List V->HO) (sd:Prop) (v:V) (O:W4):Prop
 | mk:∀(a dx:Addr) (vs:List V) (O':W4),v=.ref a->Reps R Z H l vs O'->sd->H a=some (sh dx vs)->O=a::O'->OwR R Z H l sh sd v O
def Own(R:RC)(T:D)(l:List D)(sh:Addr->List V->HO)(sd:Prop):Prop:=∀{Z}{H}{v}{O},Rep R Z H T v O↔OwR R Z H l sh sd v O
def Vr:Own R (.lst true l) l (λ_ vs=>.lst vs) True:=by
 intro Z H v O;exact⟨λh=>by obtain⟨a,vs,b,e,c,d,f⟩:=h;exact⟨a,0,vs,b,e,c,trivial,d,f⟩,λh=>by obtain⟨a,_,vs,b,e,c,_,d,f⟩:=h;exact⟨a,vs,b,e,c,d,f⟩⟩
def jcT:Own R (.dK true ks l) l (λ_ vs=>.dK<|(ks.map kaV).zip vs) (ks.length=l.length):=by
 intro Z H v O;exact⟨λh=>by obtain⟨a,vs,b,e,c,h,d,f⟩:=h;exact⟨a,0,vs,b,e,c,h,d,f⟩,λh=>by obtain⟨a,_,vs,b,e,c,h,d,f⟩:=h;exact⟨a,vs,b,e,c,h,d,f⟩⟩
def jji:Own R (.dT true ks l) l (λ_ vs=>.dT<|(ks.map<|List.map kaV).zip vs) (ks.length=l.length):=by
 intro Z H v O;exact⟨λh=>by obtain⟨a,vs,b,e,c,h,d,f⟩:=h;exact⟨a,0,vs,b,e,c,h,d,f⟩,λh=>by obtain⟨a,_,vs,b,e,c,h,d,f⟩:=h;exact⟨a,vs,b,e,c,h,d,f⟩⟩
def ow_ins:Own R (.ins true c ns l) l (λdx vs=>.ins (R.cls c) dx<|ns.zip vs) (ns.length=l.length):=by
 intro Z H v O;exact⟨λh=>by obtain⟨a,dx,vs,b,e,d,h,f,g⟩:=h;exact⟨a,dx,vs,b,e,d,h,f,g⟩,λh=>by obtain⟨a,dx,vs,b,e,d,h,f,g⟩:=h;exact⟨a,dx,vs,b,e,d,h,f,g⟩⟩
def qG{R}{Z}{H}{C:Prop}{σ}{ρ}{O P0}{i}{tb}{L}{t y}{kk}{l}{p}{u}(F:jcg R tb i L)(w:WF Z H<|P0++O)(s:Slots R Z H ρ σ O)(hi:pV i ρ=some t)(e:L t=some (y,kk))(G:Own R y l p u)
  (k:∀ a dx vs O',Reps R Z H l vs O'->u->H a=some (p dx vs)->(∀{Q},Q (.ref a) H->tb σ H Q)->(∀{O2 P1}{Z2}{H2}{x'}{l'}{vs'}{sh':Addr->List V->HO}{sd'},Own R x' l' sh' sd'->sd'->Go Z H [] Z2 H2 P1->Reps R Z2 H2 l' vs' O2->(∀ q,O2.count q<=O'.count q+P0.count q+P1.count q) ->
   ∃ O3,Go Z H (P0++O) Z2 (upd H2 a<|sh' dx vs') O3/\Slots R Z2 (upd H2 a<|sh' dx vs') (ρ.set i<|some<|kk x') σ O3)->C):C:=by
 obtain⟨v,A,P,B,rfl,r,I,J⟩:=F s (K2 hi) e;obtain⟨a,dx,vs,O',rfl,K,hd,M,rfl⟩:=G.mp r;refine k a dx vs O' K hd M I λ{O2 P1 Z2 H2 x' l' vs' sh' sd'} n o g N d=>?_;have j:=g.widen w;have nd:=j.wf.nd;have ct:=List.nodup_iff_count.mp nd a;simp only[U8,List.count_cons,if_true] at ct;have pos:∀{m:W4},a∈m->0<m.count a:=List.count_pos_iff.mpr;generalize S:sh' dx vs'=ob;have f:∀ b,Z2 b->upd H2 a ob b=H2 b:=λb c=>jg λz=>j.wf.nz a (by simp)<|z▸c;have h:∀ m:List Addr,(∀ b∈m,b∈A++(a::O')++B)->m.count a=0->∀ b∈m,upd H2 a ob b=H b:=λm T W b c=>(jg λz=>by subst z;have:=pos c;lia).trans (g.same b<|w.od b<|U3 _<|T b c);have U:=J (n.mpr ⟨a,dx,vs',O2,rfl,N.frame (λ_ z=>z) f λb c=>jg λz=>by subst z;have:=pos c;have:=d b;lia,o,by rw[S];exact jk,rfl⟩) g.zz (λx D=>(f x<|g.zz x D).trans (g.same x<|w.zd x D)) (h A (λb c=>by simp[c])<|by lia)<|h B (λb c=>by simp[c]) (by lia);have E:∀ q,(A++(a::O2)++B).count q<=(P1++(P0++(A++(a::O')++B))).count q:=λq=>by
  have:=d q;simp only[U8,List.count_cons];lia
 exact⟨_,(j.trans<|Go.put j.wf<|by simp).drop (Vg E) (qD E nd),U⟩
@[simp] def ww(i:Nat)(L:Ln)(pv:PF)(ρ:Rh):Option Out:=(pv ρ).bind λd=>(pV i ρ).bind λt=>(L t).bind λy=>(Qj y.1).bind λl=>bif lim l.length then some (.nx<|ρ.set i<|some<|y.2<|.lst true<|l++[d]) else none
def jbx{R}{pm}{i}{tb te}{L}{p}(j:jcg R tb i L)(h:PP R te p):DS R pm (qJ<|tBM R.K "list" qo tb<|yW te JB) (ww i L p):=by
 intro σ ρ Z H O o w s e C k;refine ob e λd m e=>ob e λt n e=>ob e λ⟨y,D⟩ r e=>ob e λl v e=>oc e λb e=>?_;cases e;cases VL v;refine qG (P0:=[]) j w s n r Vr λa _ vs E f _ g x put=>x ⟨.inl ⟨rfl,vs,SqL.of g⟩,h w.zd s m λ{u F G P1} c z=>?_⟩;obtain⟨I,A,B⟩:=put Vr trivial c ((c.reps w.zd f).append (.one z)) λq=>by simp
 exact⟨a,vs,u,rfl,rfl,c.at0 g,by rw[f.length];exact Ki b,k A B<|Keep.refl _ _⟩
@[simp] def wd(i:Nat)(pa:PF)(ρ:Rh):Option Out:=(pa ρ).bind λd=>(pV i ρ).bind λx=>(Qj x).bind λl=>bif lim l.length then some (.nx<|ρ.set i<|some<|.lst true<|l++[d]) else none
def jh6(h:PP R te p):DS R pm (qJ<|tBM R.K "list" qo (vk i)<|yW te JB) (wd i p):=jbx YM h
def Jv(h:OpR X f r)(h':OpR X f r'):OpR X f (λx y H Q=>r x y H Q\/r' x y H Q):=by
 intro a s σ H x y v u Q I b c q;rcases q with q | q
 ·exact h a s σ H x y v u Q I b c q
 ·exact h' a s σ H x y v u Q I b c q
def Rep.lst_of(r:Rep R Z H (.lst o l) v O):Ex3 λa vs O'=>An3 (v=.ref a) (SqX R.K H a vs) (Reps R Z H l vs O'):=by
 obtain⟨a,vs,O',rfl,b,h⟩:=r;cases o with
 | true=>exact⟨a,vs,O',rfl,SqX.of h.1,b⟩
 | false=>exact⟨a,vs,O',rfl,FL.sqx h.1,b⟩
def Rep.tup_of(r:Rep R Z H (.tup l) v O):Ex2 λa vs=>An3 (v=.ref a) (SqT R.K H a vs) (Reps R Z H l vs O):=by
 obtain⟨a,vs,rfl,h,b⟩:=r;exact⟨a,vs,rfl,h.sq,b⟩
def Reps.frozen(r:Reps R Z H l vs O)(f:frzs l=true):Reps R Z H l vs []:=by
 cases r.nil f;exact r
noncomputable def jjB(i:Int):Bool:=decide<|Builtin.Int.intBits i<=2 ^ 20
def uG(h:i.natAbs<2 ^ 1000):jjB i=true:=X1<|wI h (by decide)
def jz(x y:D):Option D:=match x with
 | .int i=>(match y with
  | .int j=>some<|.int<|i+j
  | _=>none)
 | .str a=>(match y with
  | .str b=>bif lim (a.length+b.length) then some (.str<|a++b) else none
  | _=>none)
 | .lst _ a=>(match y with
  | .lst _ b=>bif lim (a.length+b.length)&&(frzs a&&frzs b) then some (.lst true<|a++b) else none
  | _=>none)
 | .tup a=>(match y with
  | .tup b=>bif lim (a.length+b.length)&&(frzs a&&frzs b)&&!a.isEmpty then some (.tup<|a++b) else none
  | _=>none)
 | _=>none
def jkD:R2:=λx y H Q=>∃ a b,x=.str (S a)/\y=.str (S b)/\a.length+b.length<=sizeLine/\Q (.str<|S<|a++b) H
def jdo(K:W3):R2:=λx y H Q=>rI0 (λi j=>.int<|i+j) x y H Q\/jkD x y H Q\/jiL K x y H Q\/jiQ K x y H Q
def jhJ:OpR X (binaryOp .Add) (jdo X.K):=Jv jkk<|Jv jfd<|Jv jhA jfC
def jjz:BO R (jdo R.K) jz:=by
 intro Z H x y d v u O1 O2 z f h e Q k;cases x with
 | int i=>
  cases y with
  | int j=>
   cases e;obtain⟨rfl,_⟩:=f.int_of;obtain⟨rfl,_⟩:=h.int_of;exact .inl ⟨i,j,rfl,rfl,k (Go.id z) .int_mk⟩
  | _=>cases e
 | str a=>
  cases y with
  | str b=>
   refine oc e λhl e=>?_;cases e;obtain⟨rfl,_⟩:=f.str_of;obtain⟨rfl,_⟩:=h.str_of;exact .inr<|.inl ⟨a,b,rfl,rfl,qV hl,k (Go.id z) .str_mk⟩
  | _=>cases e
 | lst o a=>
  cases y with
  | lst D b=>
   refine oc e λhl e=>?_;cases e;simp only[M0] at hl;obtain⟨p,vs,E,rfl,l,c⟩:=f.lst_of;obtain⟨q,m,t,rfl,n,rt⟩:=h.lst_of;have w:=(c.frozen hl.2.1).append (rt.frozen hl.2.2);exact .inr<|.inr<|.inl ⟨p,q,vs,m,rfl,rfl,l,n,by rw[c.length,rt.length];exact qV hl.1,λb g=>k (Go.newO (wf0 z) g)<|Rep.lstNew (wf0 z) g w⟩
  | _=>cases e
 | tup a=>
  cases y with
  | tup b=>
   refine oc e λhl e=>?_;cases e;simp only[M0] at hl;obtain⟨p,vs,rfl,l,c⟩:=f.tup_of;obtain⟨q,m,rfl,n,rt⟩:=h.tup_of;have r:vs≠[]:=by
    intro A;have:=c.length;rw[A] at this;have s:=List.eq_nil_of_length_eq_zero this.symm;rw[s] at hl;simp at hl
   refine .inr<|.inr<|.inr ⟨p,q,vs,m,rfl,rfl,l,n,r,by rw[c.length,rt.length];exact qV hl.1.1,(λs=>?_),λ_ b g=>k (Go.newF (wf0 z) g)<|Rep.tupNew (wf0 z) g<|(c.frozen hl.1.2.1).append (rt.frozen hl.1.2.2)⟩;have B:=List.eq_nil_of_length_eq_zero (by rw[<- rt.length,s];rfl);subst B;rw[M9] at k;have C:=c.nil hl.1.2.1;subst C;exact k (Go.id z) f
  | _=>cases e
 | _=>cases e
def two(f:Int->Int->Option D)(x y:D):Option D:=(Ku x).bind λi=>(Ku y).bind λj=>f i j
def two_of(e:two f x y=some d):Ex2 λi j=>An3 (x=.int i) (y=.int j) (f i j=some d):=ob e λi a e=>ob e λj b e=>⟨i,j,kX a,kX b,e⟩
def jdy:D->D->Option D:=two λi j=>some<|.int<|i-j
def jiT:BO R (rI0 λi j=>.int<|i-j) jdy:=by
 intro Z H x y d v u O1 O2 z a b e Q k;replace e:=two_of e;obtain⟨i,j,rfl,rfl,e⟩:=e;cases e;obtain⟨rfl,_⟩:=a.int_of;obtain⟨rfl,_⟩:=b.int_of;exact⟨i,j,rfl,rfl,k (Go.id z) .int_mk⟩
def yP(x y:D):Option D:=match y with
 | .int n=>(match x with
  | .int i=>bif jjB i&&jjB n then some (.int<|i*n) else none
  | .str a=>bif decide (a.length<=1000)&&(decide (0<=n)&&decide (n<=1000)) then some (.str (List.replicate n.toNat a).flatten) else none
  | _=>none)
 | _=>none
def jfF:R2:=λx y H Q=>rI (λi j=>Builtin.Int.intBits i<=2 ^ 20/\Builtin.Int.intBits j<=2 ^ 20) (λi j=>.int<|i*j) x y H Q \/
 ∃ a n,x=.str (S a)/\y=.int n/\a.length<=1000/\0<=n/\n<=1000/\Q (.str<|S (List.replicate n.toNat a).flatten) H
def jfw:OpR X (binaryOp .Mult) jfF:=Jv jhl jhh
def jj5:BO R jfF yP:=by
 intro Z H x y d v u O1 O2 z b c e Q k;cases y with
 | int n=>
  cases x with
  | int i=>
   refine oc e λhl e=>?_;cases e;rw[M0] at hl;obtain⟨rfl,_⟩:=b.int_of;obtain⟨rfl,_⟩:=c.int_of;exact .inl ⟨i,n,rfl,rfl,⟨X4 hl.1,X4 hl.2⟩,k (Go.id z) .int_mk⟩
  | str a=>
   refine oc e λhl e=>?_;cases e;simp only[M0,decide_eq_true_eq] at hl;obtain⟨rfl,_⟩:=b.str_of;obtain⟨rfl,_⟩:=c.int_of;exact .inr ⟨a,n,rfl,rfl,hl.1,hl.2.1,hl.2.2,k (Go.id z) .str_mk⟩
  | _=>cases e
 | _=>cases e
noncomputable def wc(j:Int):Bool:=decide (0<j)&&decide (j<2 ^ 300)
def jb0(h:wc j=true):0<j/\j.natAbs.log2<9000:=by
 unfold wc at h;simp only[M0,decide_eq_true_eq] at h;refine⟨h.1,?_⟩;have a:j.natAbs<2 ^ 300:=by lia
 have b:j.natAbs≠0:=by lia
 have:=(Nat.log2_lt b).mpr a
 lia
def jdw:OpR X (binaryOp .FloorDiv) (rI (λ_ j=>wc j=true) λi j=>.int<|i/j):=opI λi j t u s Q E a q=>by
 obtain⟨b,c⟩:=jb0 a;rw[(Int.fdiv_eq_ediv_of_nonneg i<|Int.le_of_lt b).symm] at q;exact PyProof.Rows.floordiv_int (by lia) q<|.inl<|PyProof.noPylong_of_log2 c
def jC:D->D->Option D:=two λi j=>bif wc j then some (.int<|i/j) else none
def js:D->D->Option D:=two λi j=>bif decide (0<j) then some (.int<|i%j) else none
def jdU:D->D->Option D:=two λi j=>bif decide (0<=j)&&decide (j<=100)&&decide (i.natAbs<2 ^ 64) then some (.int<|i ^ j.toNat) else none
def jjb:BO R (rI (λ_ j=>wc j=true) λi j=>.int<|i/j) jC:=by
 intro Z H x y d v u O1 O2 z a b e Q k;replace e:=two_of e;obtain⟨i,j,rfl,rfl,e⟩:=e;refine oc e λhl e=>?_;cases e;obtain⟨rfl,_⟩:=a.int_of;obtain⟨rfl,_⟩:=b.int_of;exact⟨i,j,rfl,rfl,hl,k (Go.id z) .int_mk⟩
def jjW:BO R (rI (λ_ j=>0<j) λi j=>.int<|i%j) js:=by
 intro Z H x y d v u O1 O2 z a b e Q k;replace e:=two_of e;obtain⟨i,j,rfl,rfl,e⟩:=e;by_cases hl:0<j
 ·rw[X1 hl] at e;cases e;obtain⟨rfl,_⟩:=a.int_of;obtain⟨rfl,_⟩:=b.int_of;exact⟨i,j,rfl,rfl,hl,k (Go.id z) .int_mk⟩
 ·lia
def jjc:BO R (rI jli λi j=>.int<|i ^ j.toNat) jdU:=by
 intro Z H x y d v u O1 O2 z a b e Q k;replace e:=two_of e;obtain⟨i,j,rfl,rfl,e⟩:=e;refine oc e λhl e=>?_;cases e;simp only[M0,decide_eq_true_eq] at hl;obtain⟨rfl,_⟩:=a.int_of;obtain⟨rfl,_⟩:=b.int_of;exact⟨i,j,rfl,rfl,⟨hl.1.1,by lia,hl.2⟩,k (Go.id z) .int_mk⟩
noncomputable def ja0:D->Option D
 | .int i=>some<|.int<|-i
 | _=>none
def jjl:BU R (rU λi=>.int<|-i) ja0:=by
 intro Z H x d v O z a e Q k;cases x with
 | int i=>
  cases e;obtain⟨rfl,_⟩:=a.int_of;exact⟨i,rfl,k (Go.id z) .int_mk⟩
 | _=>cases e
def opB(g:Int->Int->Bool):D->D->Option D:=two λi j=>some<|.bl<|g i j
def jkV:BO R (rI0 λi j=>.bl<|g i j) (opB g):=by
 intro Z H x y d v u O1 O2 z a b e Q k;replace e:=two_of e;obtain⟨i,j,rfl,rfl,e⟩:=e;cases e;obtain⟨rfl,_⟩:=a.int_of;obtain⟨rfl,_⟩:=b.int_of;exact⟨i,j,rfl,rfl,k (Go.id z) .bl_mk⟩
abbrev je9:D->D->Option D:=opB λi j=>decide<|i<j
abbrev V5:D->D->Option D:=opB λi j=>decide<|j<i
abbrev jlm:D->D->Option D:=opB λi j=>decide<|j<=i
noncomputable def KF:D->Bool
 | .non=>true
 | _=>false
noncomputable def jbj:D->Bool
 | .dead=>true
 | _=>false
def vo(x y:D):Option D:=bif KF y&&!jbj x then some (.bl<|!KF x) else none
def jcm(h:KF y=true):y=.non:=by
 cases y with
 | non=>rfl
 | _=>cases h
def ja1(r:Rep R Z H x v O)(hd:∀(h:x=.dead),False):decide (v=V.non)=KF x:=by
 cases x with
 | non=>obtain⟨rfl,_⟩:=r.non_of;rfl
 | bl b=>obtain⟨rfl,_⟩:=r.bl_of;rfl
 | int i=>obtain⟨rfl,_⟩:=r.int_of;rfl
 | str s=>obtain⟨rfl,_⟩:=r.str_of;rfl
 | tup l=>rw[Rep] at r;obtain⟨a,vs,rfl,_⟩:=r;rfl
 | lst o l=>rw[Rep] at r;obtain⟨a,vs,d,rfl,_⟩:=r;rfl
 | dK o e l=>rw[Rep] at r;obtain⟨a,vs,d,rfl,_⟩:=r;rfl
 | dT o e l=>rw[Rep] at r;obtain⟨a,vs,d,rfl,_⟩:=r;rfl
 | dN o l=>rw[Rep] at r;obtain⟨a,vs,d,rfl,_⟩:=r;rfl
 | lam=>rw[Rep] at r;obtain⟨a,c,q,rfl,_⟩:=r;rfl
 | ins o c ns l=>rw[Rep] at r;obtain⟨a,f,vs,d,rfl,_⟩:=r;rfl
 | tok a=>rw[Rep] at r;obtain⟨rfl,_⟩:=r;rfl
 | kt k=>rw[Rep] at r;obtain⟨a,rfl,_⟩:=r;rfl
 | exc c p=>rw[Rep] at r;obtain⟨a,f,rfl,_⟩:=r;rfl
 | dead=>exact(hd rfl).elim
def jcD:BO R (λx y H Q=>y=.non/\Q (.bl<|!decide (x=.non)) H) vo:=by
 intro Z H x y d v u O1 O2 z a b e Q k;refine oc e λhl e=>?_;cases e;rw[M0] at hl;have hd:∀(h:x=.dead),False:=λh=>by rw[h] at hl;exact absurd hl.2 (by decide)
 cases jcm hl.1;obtain⟨rfl,_⟩:=b.non_of;refine⟨rfl,?_⟩;rw[ja1 a hd];exact k (Go.id z) .bl_mk
noncomputable def kI:D->Bool
 | .non=>true | .bl _=>true | .int _=>true | .str _=>true
 | _=>false
noncomputable def eqF:D->D->Bool
 | .non,y=>match y with | .non=>true | _=>false
 | .bl a,y=>match y with | .bl b=>a==b | _=>false
 | .int a,y=>match y with | .int b=>a==b | _=>false
 | .str a,y=>match y with | .str b=>a==b | _=>false
 | _,_=>false
noncomputable def V3:D->D->Bool
 | .bl _,.int _=>false
 | .int _,.bl _=>false
 | _,_=>true
def jau(d:Rep R Z H x v O1)(c:Rep R Z H y u O2)(h:(kI x&&kI y&&V3 x y)=true):jlr v u=true/\decide (v=u)=eqF x y:=by
 cases x with
 | non=>
  obtain⟨rfl,_⟩:=d.non_of;cases y with
  | non=>obtain⟨rfl,_⟩:=c.non_of;exact⟨rfl,rfl⟩
  | bl b=>obtain⟨rfl,_⟩:=c.bl_of;exact⟨rfl,rfl⟩
  | int b=>obtain⟨rfl,_⟩:=c.int_of;exact⟨rfl,rfl⟩
  | str b=>obtain⟨rfl,_⟩:=c.str_of;exact⟨rfl,rfl⟩
  | _=>cases h
 | bl a=>
  obtain⟨rfl,_⟩:=d.bl_of;cases y with
  | non=>obtain⟨rfl,_⟩:=c.non_of;exact⟨rfl,rfl⟩
  | bl b=>obtain⟨rfl,_⟩:=c.bl_of;exact⟨rfl,by rw[jaN];rfl⟩
  | str b=>obtain⟨rfl,_⟩:=c.str_of;exact⟨rfl,rfl⟩
  | _=>cases h
 | int a=>
  obtain⟨rfl,_⟩:=d.int_of;cases y with
  | non=>obtain⟨rfl,_⟩:=c.non_of;exact⟨rfl,rfl⟩
  | int b=>obtain⟨rfl,_⟩:=c.int_of;exact⟨rfl,by rw[QU];rfl⟩
  | str b=>obtain⟨rfl,_⟩:=c.str_of;exact⟨rfl,rfl⟩
  | _=>cases h
 | str a=>
  obtain⟨rfl,_⟩:=d.str_of;cases y with
  | non=>obtain⟨rfl,_⟩:=c.non_of;exact⟨rfl,rfl⟩
  | bl b=>obtain⟨rfl,_⟩:=c.bl_of;exact⟨rfl,rfl⟩
  | int b=>obtain⟨rfl,_⟩:=c.int_of;exact⟨rfl,rfl⟩
  | str b=>
   obtain⟨rfl,_⟩:=c.str_of;refine⟨rfl,?_⟩;rw[Bool.eq_iff_iff];simp[eqF,jk3]
  | _=>cases h
 | _=>cases h
def inL(x:D)(l:List D):Bool:=l.any λy=>eqF y x
def jcP(x:D)(l:List D):Bool:=kI x&&l.all λy=>kI y&&V3 y x
def V6(neg:Bool)(x y:D):Option D:=match y with
 | .str s=>(match x with
  | .str [c]=>some<|.bl<|neg != decide (c∈s)
  | _=>none)
 | .lst _ l=>bif jcP x l then some (.bl<|neg != inL x l) else none
 | .tup l=>bif jcP x l then some (.bl<|neg != inL x l) else none
 | _=>none
def Reps.flat(c:Rep R Z H x v P)(d:kI x=true):∀{l}{vs}{O},Reps R Z H l vs O->(l.all λy=>kI y&&V3 y x)=true->Ye v=true/\vs.all Ye=true/\inV v vs=inL x l:=by
 intro l
 induction l with
 | nil=>
  intro _ _ h _;obtain⟨rfl,_⟩:=h;refine⟨?_,rfl,rfl⟩;cases x with
  | non=>obtain⟨rfl,_⟩:=c.non_of;rfl
  | bl b=>obtain⟨rfl,_⟩:=c.bl_of;rfl
  | int b=>obtain⟨rfl,_⟩:=c.int_of;rfl
  | str b=>obtain⟨rfl,_⟩:=c.str_of;rfl
  | _=>cases d
 | cons y l i=>
  intro _ _ h f;obtain⟨u,vs,O1,O2,rfl,rfl,g,j⟩:=h;rw[List.all_cons,M0] at f;obtain⟨k,m,n⟩:=i j f.2;have e:Ye u=true/\eqV u v=eqF y x:=by
   cases y with
   | non=>
    obtain⟨rfl,_⟩:=g.non_of;cases x with
    | non=>obtain⟨rfl,_⟩:=c.non_of;exact⟨rfl,rfl⟩
    | bl b=>obtain⟨rfl,_⟩:=c.bl_of;exact⟨rfl,rfl⟩
    | int b=>obtain⟨rfl,_⟩:=c.int_of;exact⟨rfl,rfl⟩
    | str b=>obtain⟨rfl,_⟩:=c.str_of;exact⟨rfl,rfl⟩
    | _=>cases d
   | bl a=>
    obtain⟨rfl,_⟩:=g.bl_of;cases x with
    | non=>obtain⟨rfl,_⟩:=c.non_of;exact⟨rfl,rfl⟩
    | bl b=>obtain⟨rfl,_⟩:=c.bl_of;exact⟨rfl,rfl⟩
    | str b=>obtain⟨rfl,_⟩:=c.str_of;exact⟨rfl,rfl⟩
    | int b=>exact absurd f.1 (by simp[V3])
    | _=>cases d
   | int a=>
    obtain⟨rfl,_⟩:=g.int_of;cases x with
    | non=>obtain⟨rfl,_⟩:=c.non_of;exact⟨rfl,rfl⟩
    | int b=>obtain⟨rfl,_⟩:=c.int_of;exact⟨rfl,rfl⟩
    | str b=>obtain⟨rfl,_⟩:=c.str_of;exact⟨rfl,rfl⟩
    | bl b=>exact absurd f.1 (by simp[V3])
    | _=>cases d
   | str a=>
    obtain⟨rfl,_⟩:=g.str_of;cases x with
    | non=>obtain⟨rfl,_⟩:=c.non_of;exact⟨rfl,rfl⟩
    | bl b=>obtain⟨rfl,_⟩:=c.bl_of;exact⟨rfl,rfl⟩
    | int b=>obtain⟨rfl,_⟩:=c.int_of;exact⟨rfl,rfl⟩
    | str b=>
     obtain⟨rfl,_⟩:=c.str_of;refine⟨rfl,?_⟩;rw[Bool.eq_iff_iff];simp[eqF,eqV,jk3]
    | _=>cases d
   | _=>exact absurd f.1 (by simp[kI])
  refine⟨k,by rw[List.all_cons,e.1,m];rfl,?_⟩;show(eqV u v||inV v vs)=(eqF y x||inL x l);rw[e.2,n]
def jmo(neg:Bool):R2:=λx y H Q=>∃ c l,x=.str (S [c])/\y=.str (S l)/\Q (.bl<|if neg then !decide (c∈l) else decide (c∈l)) H
def jhU(K:W3)(neg:Bool):R2:=λx y H Q=>jmo neg x y H Q\/rIn K neg x y H Q
def jjE:OpR X (compareOp .In) (jhU X.K false):=Jv ji5 jbU
def jaa:OpR X (compareOp .NotIn) (jhU X.K true):=Jv jbD Ks
def QJ(neg b):(if neg=true then !b else b)=(neg != b):=by cases neg<;>cases b<;>rfl
def jiS:BO R (jhU R.K neg) (V6 neg):=by
 intro Z H x y d v u O1 O2 z a f e Q k;cases y with
 | str s=>
  cases x with
  | str t=>
   match t,e,a with
   | [c],e,a=>
    cases e;obtain⟨rfl,_⟩:=a.str_of;obtain⟨rfl,_⟩:=f.str_of;refine .inl ⟨c,s,rfl,rfl,?_⟩;rw[QJ];exact k (Go.id z) .bl_mk
   | [],e,a=>cases e
   | _::_::_,e,a=>cases e
  | _=>cases e
 | lst o l=>
  have b:=e;refine oc b λhl b=>?_;cases b;unfold jcP at hl;rw[M0] at hl;obtain⟨p,vs,n,rfl,g,h⟩:=f.lst_of;obtain⟨i,j,m⟩:=h.flat a hl.1 hl.2;refine .inr ⟨p,vs,rfl,.inl g.sq,i,j,?_⟩;rw[m,QJ];exact k (Go.id z) .bl_mk
 | tup l=>
  have b:=e;refine oc b λhl b=>?_;cases b;unfold jcP at hl;rw[M0] at hl;obtain⟨p,vs,rfl,g,h⟩:=f.tup_of;obtain⟨i,j,m⟩:=h.flat a hl.1 hl.2;refine .inr ⟨p,vs,rfl,.inr g,i,j,?_⟩;rw[m,QJ];exact k (Go.id z) .bl_mk
 | _=>cases e
def jq(x y:D):Option D:=match y with
 | .int i=>(match x with
  | .lst _ l=>atI l i
  | .tup l=>atI l i
  | .str s=>bif lim s.length then(atI s i).bind λc=>some (.str [c]) else none
  | _=>none)
 | _=>none
def Reps.atI(r:Reps R Z H l vs O)(e:L2.atI l i=some d):∃ v P,L2.atI vs i=some v/\Rep R Z H d v P:=by
 unfold L2.atI at e ⊢;rw[r.length];cases h:ixN l.length i with
 | none=>rw[h] at e;cases e
 | some j=>
  rw[h] at e;obtain⟨v,A,P,B,a,_,b,_⟩:=r.at<|e;exact⟨v,P,a,b⟩
def jlj:BO' R (rIx R.K) jq:=by
 intro Z H x y d v u O1 O2 z a m e Q k;cases y with
 | int i=>
  obtain⟨rfl,_⟩:=m.int_of;cases x with
  | lst o l=>
   obtain⟨p,vs,n,rfl,b,f⟩:=a.lst_of;obtain⟨w,P,g,j⟩:=f.atI e;exact .inl ⟨p,vs,i,w,rfl,rfl,b.sq,g,k j⟩
  | tup l=>
   obtain⟨p,vs,rfl,b,f⟩:=a.tup_of;obtain⟨w,P,g,j⟩:=f.atI e;exact .inr<|.inl ⟨p,vs,i,w,rfl,rfl,b,g,k j⟩
  | str s=>
   obtain⟨rfl,_⟩:=a.str_of;refine oc e λhl e=>ob e λc h e=>?_;cases e;refine .inr<|.inr ⟨S s,i,c,rfl,rfl,by rw[Yp];exact qV hl,by rw[qh];exact h,?_⟩;exact k .str_mk
  | _=>cases e
 | _=>cases e
abbrev OF:=Rh->Option (Option Int)
def PO'(R:RC)(t:TO)(p:OF):Prop:=∀{σ}{ρ}{Z}{H}{O}{i},Zd Z H->Slots R Z H ρ σ O->p ρ=some i ->
 ∀{Q:Option Int->Hp->Prop},(∀{Z'}{H'},Go Z H [] Z' H' []->Q i H')->t σ H Q
@[simp] def oN(ρ:Rh):Option (Option Int):=some none
@[simp] def oS(pa:PF)(ρ:Rh):Option (Option Int):=(pa ρ).bind λd=>(Ku d).bind λi=>some<|some i
def jmn:PO' R Qb oN:=by
 intro σ ρ Z H O i z s e Q k;cases e;exact k<|Go.id z
def jmg(h:PB R te p):PO' R (jhm te) (oS p):=by
 intro σ ρ Z H O i z s e Q k;refine ob e λx a e=>ob e λj b e=>?_;cases e;cases kX b;refine h z s a λ{v f g P1} c d=>?_;obtain⟨rfl,_⟩:=d.int_of;exact⟨j,rfl,k c⟩
def jhT(lo hi:Option Int):D->Option D
 | .str s=>bif lim s.length then some (.str<|yz s lo hi) else none
 | .lst _ l=>bif frzs l then some (.lst true<|yz l lo hi) else none
 | .tup l=>bif frzs l&&decide ((yz l lo hi).length<l.length) then some (.tup<|yz l lo hi) else none
 | _=>none
def jln(K:W3):V->Option Int->Option Int->Hp->VK->Prop:=λx lo hi H Q=>jlS x lo hi H Q\/jlX K x lo hi H Q\/jlQ K x lo hi H Q
def jmc:SlR X (jln X.K):=SlR.or jid<|SlR.or jfl jia
@[simp] def pSl(pa:PF)(pl:OF)(ph:OF)(ρ:Rh):Option D:=(pa ρ).bind λx=>(pl ρ).bind λlo=>(ph ρ).bind λhi=>jhT lo hi x
def Reps.cut(r:Reps R Z H l vs [])(lo hi):Reps R Z H (yz l lo hi) (jhP vs lo hi) []:=by
 unfold yz jhP;rw[r.length];exact(r.drop _).take _
def jlz(y:PB R te pa)(hl:PO' R tl pl)(A:PO' R th ph):PP R (tSl (jln R.K) te tl th) (pSl pa pl ph):=by
 intro σ ρ Z H O d z s e Q k;refine ob e λx B e=>ob e λu C e=>ob e λw D e=>(y z s B λ{v F G P1} h E=>(hl h.wf.zd (h.slots z s) C λ{I J} m=>?_));have c:=h.pair m;refine A m.wf.zd (c.slots z s) D λ{Z3 L} i=>?_;have a:=c.pair i;have n:=(m.pair i).rep h.wf.zd E;cases x with
 | str t=>
  refine oc e λhm e=>?_;cases e;obtain⟨rfl,_⟩:=n.str_of;exact .inl ⟨t,rfl,qV hm,k a .str_mk⟩
 | lst o l=>
  refine oc e λhm e=>?_;cases e;obtain⟨p,vs,M,rfl,q,j⟩:=n.lst_of;have f:=i.wf.zd;exact .inr<|.inl ⟨p,vs,rfl,q.sq,λb g=>k ⇑(a.pair<|Go.newO (wf0 f) g) (Rep.lstNew (wf0 f) g<|(j.frozen hm).cut u w)⟩
 | tup l=>
  refine oc e λhm e=>?_;cases e;simp only[M0,decide_eq_true_eq] at hm;obtain⟨p,vs,rfl,q,j⟩:=n.tup_of;have f:=i.wf.zd;refine .inr<|.inr ⟨p,vs,rfl,q,?_,λb g=>k ⇑(a.pair<|Go.newF (wf0 f) g) (Rep.tupNew (wf0 f) g<|(j.frozen hm.1).cut u w)⟩;rintro⟨w1,w2⟩;have r:=hm.2;unfold yz at r;rw[j.length] at w1 w2;rw[w1,w2,List.drop_zero,Nat.sub_zero,List.take_length] at r;exact absurd r<|Nat.lt_irrefl _
 | _=>cases e
def jmm:D->Option D
 | .lst _ l=>some<|.int l.length
 | .tup l=>some<|.int l.length
 | .str s=>bif lim s.length then some (.int s.length) else none
 | _=>none
def yE(l:List D):Option D:=(jb5 l).bind jmm
def jkq:BC R (λxs H Q=>∃ x n,xs=[x]/\jkr R.K x H n/\Q (.int n) H) yE:=by
 intro Z H xs d vs O z r e Q k;refine ob e λx g e=>?_;rw[kH g] at r;obtain⟨v,rfl,a⟩:=r.one_of;cases x with
 | lst o l=>
  cases e;obtain⟨p,b,h,rfl,c,f⟩:=a.lst_of;exact⟨_,_,rfl,.inl ⟨b,c.sq,rfl⟩,by rw[f.length];exact k (Go.id z) .int_mk⟩
 | tup l=>
  cases e;obtain⟨p,b,rfl,c,f⟩:=a.tup_of;exact⟨_,_,rfl,.inr ⟨b,c,rfl⟩,by rw[f.length];exact k (Go.id z) .int_mk⟩
 | str s=>
  refine oc e λhm e=>?_;cases e;obtain⟨rfl,_⟩:=a.str_of;exact⟨_,_,rfl,⟨by rw[Yp];exact qV hm,rfl⟩,by rw[Yp];exact k (Go.id z) .int_mk⟩
 | _=>cases e
noncomputable def Kf:List D->Option (List Int)
 | []=>some []
 | d::l=>match d with
  | .int i=>((Kf l).bind λr=>some<|i::r)
  | _=>none
def Reps.ints:∀{l}{vs}{O}{ns},Reps R Z H l vs O->Kf l=some ns->vs=ns.map V.int:=by
 intro l
 induction l with
 | nil=>intro vs O ns h e;rw[Reps] at h;cases e;exact h.1
 | cons d l a=>
  intro vs O ns h e;obtain⟨v,vs,O1,O2,rfl,rfl,b,c⟩:=h;cases d with
  | int i=>
   refine ob e λr f e=>?_;cases e;rw[a c f,b.int_of.1];rfl
  | _=>cases e
noncomputable def kj:List D->Option (List Bool)
 | []=>some []
 | d::l=>match d with
  | .bl i=>((kj l).bind λr=>some<|i::r)
  | _=>none
def Reps.bools:∀{l}{vs}{O}{ns},Reps R Z H l vs O->kj l=some ns->vs=ns.map V.bl:=by
 intro l
 induction l with
 | nil=>intro vs O ns h e;rw[Reps] at h;cases e;exact h.1
 | cons d l a=>
  intro vs O ns h e;obtain⟨v,vs,O1,O2,rfl,rfl,b,c⟩:=h;cases d with
  | bl i=>
   refine ob e λr f e=>?_;cases e;rw[a c f,b.bl_of.1];rfl
  | _=>cases e
def jh3(l:List D):Option D:=(jb5 l).bind λx=>(jgF x).bind λl=>(Kf l).bind λns=>some<|.int ns.sum
def jez:BC R (λxs H Q=>∃(p:Addr) (ns:List Int),xs=[.ref p]/\SqL R.K H p (ns.map V.int)/\Q (.int ns.sum) H) jh3:=by
 intro Z H xs d vs O z r e Q k;refine ob e λx a e=>ob e λl b e=>ob e λns c e=>?_;cases e;obtain⟨o,rfl⟩:=Yl b;rw[kH a] at r;obtain⟨v,rfl,f⟩:=r.one_of;obtain⟨p,i,j,rfl,g,h⟩:=f.lst_of;have:=h.ints c;subst this;exact⟨p,ns,rfl,g.sq,k (Go.id z) .int_mk⟩
def jhV:List D->Option D
 | [.lst _ l]=>(kj l).bind λns=>some<|.bl<|ns.all λb=>b
 | _=>none
def ji4(l:List D):Option D:=(jb5 l).bind λx=>(jgF x).bind λl=>(kj l).bind λns=>some<|.bl<|ns.any λb=>b
def jed:BC R (λxs H Q=>∃(p:Addr) (bs:List Bool),xs=[.ref p]/\SqL R.K H p (bs.map V.bl)/\Q (.bl<|bs.all λb=>b) H) jhV:=by
 intro Z H xs d vs O z r e Q k
 match xs,e,r with
 | [.lst o l],e,r=>
  refine ob e λns a e=>?_;cases e;obtain⟨v,rfl,c⟩:=r.one_of;obtain⟨p,h,i,rfl,f,g⟩:=c.lst_of;have:=g.bools a;subst this;exact⟨p,ns,rfl,f.sq,k (Go.id z) .bl_mk⟩
def jel:BC R (λxs H Q=>∃(p:Addr) (bs:List Bool),xs=[.ref p]/\SqL R.K H p (bs.map V.bl)/\Q (.bl<|bs.any λb=>b) H) ji4:=by
 intro Z H xs d vs O z r e Q k;refine ob e λx a e=>ob e λl c e=>ob e λns f e=>?_;cases e;obtain⟨o,rfl⟩:=Yl c;rw[kH a] at r;obtain⟨v,rfl,g⟩:=r.one_of;obtain⟨p,j,m,rfl,h,i⟩:=g.lst_of;have:=i.bools f;subst this;exact⟨p,ns,rfl,h.sq,k (Go.id z) .bl_mk⟩
def f2I(g:Int->Int->Int)(l:List D):Option D:=(two1 l).bind λp=>two (λi j=>some<|.int<|g i j) p.1 p.2
def jd0:BC R (λxs H Q=>∃ i j,xs=[.int i,.int j]/\Q (.int<|g i j) H) (f2I g):=by
 intro Z H xs d vs O z r e Q k;refine ob e λp a e=>?_;obtain⟨i,j,b,c,e⟩:=two_of e;cases e;rw[two1_of a,b,c] at r;obtain⟨v,u,O1,O2,rfl,_,f,h⟩:=r.two_of;obtain⟨rfl,_⟩:=f.int_of;obtain⟨rfl,_⟩:=h.int_of;exact⟨i,j,rfl,k (Go.id z) .int_mk⟩
abbrev jhX:List D->Option D:=f2I λi j=>if j>i then j else i
abbrev jhR:List D->Option D:=f2I λi j=>if j<i then j else i
def jlY:D->Option D
 | .lst _ l=>bif frzs l then some (.lst true l) else none
 | .tup l=>bif frzs l then some (.lst true l) else none
 | _=>none
def jbW(l:List D):Option D:=(jb5 l).bind jlY
def vi(l:List D):Option D:=(jb5 l).bind λx=>(jgF x).bind λl=>bif frzs l then some (.tup l) else none
def jfH:BC R (λxs H Q=>∃ p ys,xs=[.ref p]/\(SqL R.K H p ys\/SqT R.K H p ys)/\∀ l,H l=none->Q (.ref l) (upd H l<|.lst ys)) jbW:=by
 intro Z H xs d vs O z r e Q k;refine ob e λx i e=>?_;rw[kH i] at r;obtain⟨v,rfl,h⟩:=r.one_of;cases x with
 | lst o l=>
  refine oc e λhm e=>?_;cases e;obtain⟨p,c,j,rfl,f,g⟩:=h.lst_of;exact⟨p,c,rfl,.inl f.sq,λb a=>k (Go.newO (wf0 z) a)<|Rep.lstNew (wf0 z) a<|g.frozen hm⟩
 | tup l=>
  refine oc e λhm e=>?_;cases e;obtain⟨p,c,rfl,f,g⟩:=h.tup_of;exact⟨p,c,rfl,.inr f,λb a=>k (Go.newO (wf0 z) a)<|Rep.lstNew (wf0 z) a<|g.frozen hm⟩
 | _=>cases e
def xl:BC R (λxs H Q=>∃ p ys,xs=[.ref p]/\((SqL R.K H p ys/\∀ l,H l=none->Q (.ref l) (upd H l<|.tup ys))\/(SqT R.K H p ys/\Q (.ref p) H))) vi:=by
 intro Z H xs d vs O z r e Q k;refine ob e λx c e=>ob e λl f e=>oc e λhm e=>?_;cases e;obtain⟨o,rfl⟩:=Yl f;rw[kH c] at r;obtain⟨v,rfl,g⟩:=r.one_of;obtain⟨p,h,m,rfl,i,j⟩:=g.lst_of;exact⟨p,h,rfl,.inl ⟨i.sq,λb a=>k (Go.newF (wf0 z) a)<|Rep.tupNew (wf0 z) a<|j.frozen hm⟩⟩
noncomputable def tyD:D->Option String
 | .non=>some "NoneType" | .bl _=>some "bool" | .int _=>some "int" | .str _=>some "str" | .tup _=>some "tuple" | .lst _ _=>some "list"
 | .dK true _ _=>some "dict"
 | _=>none
noncomputable def QZ(t T:String):Bool:=t==T||(t=="bool"&&T=="int")
@[simp] def YF(T:String)(pa:PF)(ρ:Rh):Option D:=(pa ρ).bind λd=>(tyD d).bind λt=>some<|.bl<|QZ t T
def jgJ(K)  (a:t∈["NoneType","bool","int","str","tuple","list","dict"]) (b:T∈["bool","int","str","tuple","list","dict"]):PySem.W.kitOne K (.type t) (.type T)=some (QZ t T):=by
 simp only[M4,List.not_mem_nil,or_false] at a b;rcases a with rfl | rfl | rfl | rfl | rfl | rfl | rfl<;>rcases b with rfl | rfl | rfl | rfl | rfl | rfl<;>rfl
def Rep.ty(r:Rep R Z H x v O)(e:tyD x=some t):TyQ R.K H v t/\t∈["NoneType","bool","int","str","tuple","list","dict"]:=by
 cases x with
 | non=>cases e;obtain⟨rfl,_⟩:=r.non_of;exact⟨.non,by simp⟩
 | bl b=>cases e;obtain⟨rfl,_⟩:=r.bl_of;exact⟨.bl _,by simp⟩
 | int i=>cases e;obtain⟨rfl,_⟩:=r.int_of;exact⟨.int _,by simp⟩
 | str s=>cases e;obtain⟨rfl,_⟩:=r.str_of;exact⟨.str _,by simp⟩
 | tup l=>cases e;obtain⟨p,d,rfl,c,f⟩:=r.tup_of;exact⟨.tup c,by simp⟩
 | lst o l=>cases e;obtain⟨p,d,g,rfl,c,f⟩:=r.lst_of;exact⟨.lst c.sq,by simp⟩
 | dK o h l=>cases o with
  | false=>cases e
  | true=>cases e;rw[Rep] at r;obtain⟨a,vs,g,rfl,_,_,hd,_⟩:=r;exact⟨.dK hd,by simp⟩
 | _=>cases e
def jju(a:T∈["bool","int","str","tuple","list","dict"])  (h:PB R te p):
  PP R (tCB (λxs H Q=>∃ x T t b,xs=[x,.ty T]/\TyQ R.K H x t/\PySem.W.kitOne R.K (.type t) (.type T)=some b/\Q (.bl b) H)<|yW te<|yW (tC<|.ty T) JB) (YF T p):=by
 intro σ ρ Z H O d z s e Q k;refine ob e λx c e=>ob e λt f e=>?_;cases e;refine h z s c λ{v m n P1} g i=>?_;obtain⟨j,l⟩:=i.ty f;exact⟨v,T,t,QZ t T,rfl,j,jgJ _ l a,k g .bl_mk⟩
noncomputable def yC:Nat->List D->List D
 | _,[]=>[]
 | k,x::l=>.tup [.int k,x]::yC (k+1) l
theorem vO:∀ k l,(yC k l).length=l.length
 | _,[]=>rfl
 | k,x::l=>by rw[yC,M1,M1,vO]
theorem kO:∀ k l i (y:D),(yC k l)[i]?=some y->∃ x,l[i]?=some x/\y=.tup [.int ((k+i:Nat):Int),x]
 | _,[],_,_,e=>by simp[yC] at e
 | k,x::l,0,y,e=>by simp[yC] at e;exact⟨x,rfl,e.symm⟩
 | k,x::l,i+1,y,e=>by
  obtain⟨z,a,b⟩:=kO (k+1) l i y (by simpa [yC] using e);exact⟨z,by simpa using a,by rw[b];congr 3;lia⟩
def J9(l:List D):Option (List D):=(jb5 l).bind λx=>(jgF x).bind λl=>some<|yC 0<|fzs l
@[simp] def Qv(p:PAf)(ρ:Rh):Option (List D):=(p ρ).bind J9
def jct(z:Zd Z H)(b:H p=none)(c:Rep R Z H x u [])(d:Rep R Z H y v []):Rep R (λa=>Z a\/a=p) (upd H p<|.tup [u,v]) (.tup [x,y]) (.ref p) []:=
 Rep.tupNew (wf0 z) b (.cons c<|.cons d .empty)
def jgB(hl:FL R Z H a ws)(rs:Reps R Z H l ws [])(hn:L.length=l.length)(k:∀(i:Nat) y,L[i]?=some y->∃ x,l[i]?=some x/\y=.tup [.int<|n+i,x]):jhv R (Itn R.K a n) Z H L:=by
 intro z A d e zd i;have b:=(hl.frame d e).sq;have f:=rs.frame d e λa m=>(nomatch m);refine⟨λo=>⟨ws,b,by rw[f.length,<- hn];exact o⟩,λx p=>?_⟩;obtain⟨y,r,rfl⟩:=k i x p;obtain⟨u,g,s⟩:=f.item r;refine⟨⟨ws,u,b,g⟩,λw B c=>?_⟩;obtain⟨q,t,v,rfl,h,rfl⟩:=c;have j:=v ws b;rw[g] at j;cases j;exact⟨_,Go.newF (wf0 zd) h,jct zd h .int_mk s⟩
def jcB(h:PPs R ta p):PIt R (jg7 R.K ta) (Qv p):=by
 intro σ ρ Z H O q z s e Q k;refine ob e λx b e=>ob e λy c e=>ob e λl d e=>?_;cases e;obtain⟨o,rfl⟩:=Yl d;cases kH c;refine h z s b λ{vs f r P1} g i=>?_;obtain⟨v,rfl,j⟩:=i.one_of;obtain⟨a,m,t,rfl,n,hl,rfl,_⟩:=(j.freeze (Z':=λa=>f a\/a∈P1) (λa z=>.inl z) λa z=>.inr z);exact⟨a,m,rfl,FL.sq hl,k g.fz<|jgB hl n (vO _ _) ⇑(kO 0 _)⟩
end QD
namespace QD
open PySem L2 PySem.Spec PyProof.Rows
section
variable (c:Nat->Addr)(pm:List Nat)(X:Cx)
structure QP(e:Expr)(te:TE)(p:PF):Prop where
 sem:PE X e te
 den:PP ⟨X.K,c⟩ te p
structure QB(e:Expr)(te:TE)(p:PF):Prop where
 sem:PE X e te
 den:PB ⟨X.K,c⟩ te p
structure QPs(es:List Expr)(ta:TA)(p:PAf):Prop where
 sem:PA X es ta
 den:PPs ⟨X.K,c⟩ ta p
structure QBs(es:List Expr)(ta:TA)(p:PAf):Prop where
 sem:PA X es ta
 den:PBs ⟨X.K,c⟩ ta p
 n:∀ ρ ds,p ρ=some ds->ds.length=es.length
structure QT(e:Expr)(tt:TT)(q:PTf):Prop where
 sem:PT X e tt
 den:PTt ⟨X.K,c⟩ tt q
structure QW(e:Expr)(tt:TT)(q:PTf):Prop where
 sem:PW X e tt
 den:PTt ⟨X.K,c⟩ tt q
structure QI(tg e:Expr)(wi:TI)(p:PAf):Prop where
 sem:PI X tg e wi
 den:PIt ⟨X.K,c⟩ wi p
structure QG(tg:Expr)(t:TG)(g:D->Rh->Option Rh):Prop where
 sem:PG X tg t
 den:PGt ⟨X.K,c⟩ pm t g
structure QGs(tg:List Expr)(t:TGs)(g:List D->Rh->Option Rh):Prop where
 sem:PGs X tg t
 den:jj0 ⟨X.K,c⟩ pm t g
structure QE(e:Expr)(te:TE)(f:FE):Prop where
 sem:PE X e te
 den:DE ⟨X.K,c⟩ te f
structure QS(st:Stmt)(ts:TS)(f:FS):Prop where
 sem:PS X st ts
 den:DS ⟨X.K,c⟩ pm ts f
structure QSs(st:List Stmt)(ts:TS)(f:FS):Prop where
 sem:PSs X st ts
 den:DS ⟨X.K,c⟩ pm ts f
structure QO(e:Option Expr)(t:TO)(p:OF):Prop where
 sem:PO X e t
 den:PO' ⟨X.K,c⟩ t p
structure QIf(ifs:List Expr)(tc:TT)(q:PTf):Prop where
 sem:PIf X ifs tc
 den:PTt ⟨X.K,c⟩ tc q
end
section
variable {cl:Nat->Addr}{pm:List Nat}{X:Cx}{a b c e o:Expr}{es:List Expr}{ta tb tc te:TE}{pa pb pc pe:PF}{tA tB:TT}{qa qb:PTf}{tr:TA}{pr:PAf}{pos:Pos}
def QP.bb(h:QP cl X e te pe):QB cl X e te pe:=⟨h.sem,PP.b h.den⟩
def QB.f(h:QB cl X e te pe):QP cl X e te (pF pe):=⟨h.sem,PB.f h.den⟩
def QP.d(h:QP cl X e te pe):QE cl X e te (dP pe):=⟨h.sem,PP.d h.den⟩
def jcr(i){x}(b:X.N[i]?=some x:=by rfl)(c:Vis X.env.scope x:=by first | exact Or.inl rfl | exact Or.inr (Or.inl rfl) | exact Or.inr<|Or.inr rfl)(hd:Nd x:=by decide)
  (a:(x==("__classdict__" : Str))=false:=by decide):QB cl X (.Name x pos) (vk i) (pV i):=⟨jeU b c hd a,je7⟩
def jl3(i){x}(b:X.N[i]?=some x:=by rfl)(c:Vis X.env.scope x:=by first | exact Or.inl rfl | exact Or.inr (Or.inl rfl) | exact Or.inr<|Or.inr rfl)(hd:Nd x:=by decide)
  (a:(x==("__classdict__" : Str))=false:=by decide):QE cl X (.Name x pos) (vk i) (dMv i):=⟨jeU b c hd a,jlk⟩
def jfy{i}{j}:QP cl X (.Constant (.int i) j pos) (tC<|.int i) (pI i):=⟨jfa,jkx λ_ _=>.int_mk⟩
def jl9{i}{j}:QP cl X (.Constant (.bool i) j pos) (tC<|.bl i) (pC<|.bl i):=⟨jkQ,jkx λ_ _=>.bl_mk⟩
def jin{j}:QP cl X (.Constant .none j pos) (tC .non) (pC .non):=⟨jkp,jkx λ_ _=>.non_mk⟩
def jly{x}{j}(l)(h:x=S l):QP cl X (.Constant (.str x) j pos) (tC<|.str x) (pS l):=⟨jiE,by subst h;exact jkx λ_ _=>.str_mk⟩
def jfg(c:QB cl X a ta pa)(d:QB cl X b tb pb):QP cl X (.BinOp a .Add b pos) (tOp (jdo X.K) ta tb) (p2 jz pa pb):=⟨Q2 jhJ c.sem d.sem,V4 jjz c.den d.den⟩
def jka(c:QB cl X a ta pa)(d:QB cl X b tb pb):QP cl X (.BinOp a .Sub b pos) (tOp (rI0 λi j=>.int<|i-j) ta tb) (p2 jdy pa pb):=⟨Q2 jko c.sem d.sem,V4 jiT c.den d.den⟩
def jjU(c:QB cl X a ta pa)(d:QB cl X b tb pb):QP cl X (.BinOp a .Mult b pos) (tOp jfF ta tb) (p2 yP pa pb):=⟨Q2 jfw c.sem d.sem,V4 jj5 c.den d.den⟩
def jix(c:QB cl X a ta pa)(d:QB cl X b tb pb):QP cl X (.BinOp a .FloorDiv b pos) (tOp (rI (λ_ j=>wc j=true) λi j=>.int<|i/j) ta tb) (p2 jC pa pb):=⟨Q2 jdw c.sem d.sem,V4 jjb c.den d.den⟩
def jke(c:QB cl X a ta pa)(d:QB cl X b tb pb):QP cl X (.BinOp a .Mod b pos) (tOp (rI (λ_ j=>0<j) λi j=>.int<|i%j) ta tb) (p2 js pa pb):=⟨Q2 jjD c.sem d.sem,V4 jjW c.den d.den⟩
def jja(c:QB cl X a ta pa)(d:QB cl X b tb pb):QP cl X (.BinOp a .Pow b pos) (tOp (rI jli λi j=>.int<|i ^ j.toNat) ta tb) (p2 jdU pa pb):=⟨Q2 jip c.sem d.sem,V4 jjc c.den d.den⟩
def jh2(b:QB cl X a ta pa):QP cl X (.UnaryOp .USub a pos) (tUn (rU λi=>.int<|-i) ta) (p1 ja0 pa):=⟨jlG jjS b.sem,jk7 jjl b.den⟩
def jki(b:QB cl X a ta pa):QP cl X (.UnaryOp .Not a pos) (jgs ta) (jlt pa):=⟨jiv b.sem,jjd b.den⟩
structure CmpR(cl:Nat->Addr)(X:Cx)(op:CmpOp)(b:Expr)(r:R2)(g:D->D->Option D):Prop where
 o:OpR X (compareOp op) r
 g:BO ⟨X.K,cl⟩ r g
 m:behindInMarks op b=false
def jlL:CmpR cl X .Lt b (rI0 λi j=>.bl<|decide<|i<j) je9:=⟨jll,jkV,Y2 _⟩
def jlZ:CmpR cl X .Gt b (rI0 λi j=>.bl<|decide<|j<i) V5:=⟨jkT,jkV,Y2 _⟩
def jl6:CmpR cl X .GtE b (rI0 λi j=>.bl<|decide<|j<=i) jlm:=⟨jlw,jkV,Y2 _⟩
def ul:CmpR cl X .IsNot b (λx y H Q=>y=.non/\Q (.bl<|!decide (x=.non)) H) vo:=⟨jfn,jcD,Y2 _⟩
def jlK(hm:behindInMarks .In b=false):CmpR cl X .In b (jhU X.K false) (V6 false):=⟨jjE,jiS,hm⟩
def c_notin(hm:behindInMarks .NotIn b=false):CmpR cl X .NotIn b (jhU X.K true) (V6 true):=⟨jaa,jiS,hm⟩
def jjH{c}{r}{g}(h:CmpR cl X c b r g)(d:QB cl X a ta pa)(e:QB cl X b tb pb):QP cl X (.Compare a [c] [b] pos) (tOp r ta tb) (p2 g pa pb):=⟨uY h.o d.sem e.sem h.m,V4 h.g d.den e.den⟩
def jeu{c}{r}{g}(h:CmpR cl X c b r g)(d:QB cl X a ta pa)(e:QB cl X b tb pb):QT cl X (.Compare a [c] [b] pos) (jg1<|tOp r ta tb) (jh<|p2 g pa pb):=⟨jf1 h.o d.sem e.sem h.m,jas<|PP.b<|V4 h.g d.den e.den⟩
def jer(b:QB cl X a ta pa)(c:∀ whole,isTrue a X.env whole=(do let v <- whole;standAt a.pos;holding [v] (truthy v)):=by intro _;rfl):QT cl X a (L2.tB ta) (jh pa):=⟨jiP b.sem c,jas b.den⟩
def jd7(b:QT cl X a tA qa):QT cl X (.UnaryOp .Not a pos) (jk4 tA) (ud qa):=⟨jjO b.sem,jfr b.den⟩
def jbE(b:QT cl X a tA qa):QW cl X (.BoolOp .And [a] pos) tA qa:=⟨jfU b.sem,b.den⟩
def jeB(b:QT cl X a tA qa):QW cl X (.BoolOp .Or [a] pos) tA qa:=⟨jii b.sem,b.den⟩
def jem(c:QT cl X a tA qa)(d:QW cl X (.BoolOp .And (b::es) pos) tB qb):QW cl X (.BoolOp .And (a::b::es) pos) (jlH tA tB) (YC qa qb):=⟨jiB c.sem d.sem,jh4 c.den d.den⟩
def jjn(c:QT cl X a tA qa)(d:QW cl X (.BoolOp .Or (b::es) pos) tB qb):QW cl X (.BoolOp .Or (a::b::es) pos) (tOr tA tB) (qOr qa qb):=⟨jk1 c.sem d.sem,jkF c.den d.den⟩
def QW.t(h:QW cl X a tA qa):QT cl X a tA qa:=⟨PW.pt h.sem,h.den⟩
def jjV{b}(h:QP cl X a ta pa):QP cl X (.BoolOp b [a] pos) ta pa:=⟨jeS h.sem,h.den⟩
def jjC(c:QB cl X a ta pa)(d:QP cl X (.BoolOp .And (b::es) pos) tb pb):QP cl X (.BoolOp .And (a::b::es) pos) (jag ta tb) (zQ pa pb):=⟨jeV c.sem d.sem,jis c.den d.den⟩
def jl2(d:QT cl X c tA qa)(e:QP cl X a ta pa)(f:QP cl X b tb pb):QP cl X (.IfExp c a b pos) (tIf tA ta tb) (pIf qa pa pb):=⟨jcn d.sem e.sem f.sem,jkI d.den e.den f.den⟩
def jeb:QPs cl X [] JB pN:=⟨qg,pps_nil⟩
def jaj(a:QP cl X e te pe)(b:QPs cl X es tr pr)(hs:SEq X e es:=by rfl):QPs cl X (e::es) (yW te tr) (ja pe pr):=⟨y6 a.sem b.sem hs,jcG a.den b.den⟩
def uw:QBs cl X [] JB pN:=⟨qg,jbw,λρ a e=>by cases e;rfl⟩
def Qm(b:QB cl X e te pe)(a:QBs cl X es tr pr)(hs:SEq X e es:=by rfl):QBs cl X (e::es) (yW te tr) (ja pe pr):=
 ⟨y6 b.sem a.sem hs,jd2 b.den a.den,λρ f h=>by
  refine ob h λx g h=>ob h λc d h=>?_;cases h;rw[M1,M1,a.n ρ c d]⟩
def jig{x1}(h:QPs cl X es tr pr):QP cl X (.Tuple es x1 pos) (jkz tr) (vN pr):=⟨jee h.sem,jkf h.den⟩
def jiz(h:QPs cl X es tr pr):QP cl X (.List es pos) (jkK tr) (Ji pr):=⟨jjo h.sem,jje h.den⟩
def jkP(c:QB cl X a ta pa)(d:QB cl X b tb pb)(hs:Yq b:=by exact λ_ _=>rfl):QB cl X (.Subscript a b pos) (tOp (rIx X.K) ta tb) (p2 jq pa pb):=⟨jgv jcf c.sem d.sem hs,jkW jlj c.den d.den⟩
def jbB:QO cl X none Qb oN:=⟨jhG,jmn⟩
def jb1(h:QB cl X e te pe):QO cl X (some e) (jhm te) (oS pe):=⟨jfS h.sem,jmg h.den⟩
def jl8{lo hi}{tl th}{b c}{p2'}(d:QB cl X a ta pa)(hl:QO cl X lo tl b)(e:QO cl X hi th c):QP cl X (.Subscript a (.Slice lo hi none p2') pos) (tSl (jln X.K) ta tl th) (pSl pa b c):=
 ⟨jdW jmc d.sem hl.sem e.sem,jlz d.den hl.den e.den⟩
def OkF(P:Program)(w:World)(K:W3)(mg:W5)(x:Str)(st:Stmt)(k:Nat)(ps:List Str)(sp:Sp):Prop:=∃ f fd,FnFact K mg x x st f fd ps/\∀ base,FnOk P w K mg base CX0 k f fd ps sp
def jad{k n}{ps}{m}{x}{st}{p}(O:OkF X.prog X.w X.K X.mg x st k ps<|spP ⟨X.K,cl⟩ m n)(d:Room k X.A)
  (a:QBs cl X (e::es) tr pr) (hn:(e::es).length=n:=by rfl) (f:Gl X x:=by rfl) (b:Nd x:=by decide)
  (g:SEq X e es:=by rfl) (c:BkE X pos es:=by rfl):QP cl X (.Call (.Name x p) (e::es) [] pos) (JA (spP ⟨X.K,cl⟩ m n) [] E0 tr) (jL m pr):=by
 obtain⟨_,_,F,G⟩:=O;exact⟨jds F (G _) d a.sem f b g c,jg0 a.den λρ i h=>(a.n ρ i h).trans hn⟩
def vd{x}{p}{id}{r}{g}(d:qk X (.builtin id) r)(f:BC ⟨X.K,cl⟩ r g)(hm:X.mg x=none)(h:bootBuiltins x=some (.builtin id))(c:QBs cl X (e::es) tr pr)(i:Gl X x:=by rfl)
  (hn:x≠"__name__":=by decide) (a:Nd x:=by decide) (j:SEq X e es:=by rfl) (b:BkE X pos es:=by rfl):
  QP cl X (.Call (.Name x p) (e::es) [] pos) (tCB r tr) (pCB g pr):=⟨xA d i hm h c.sem hn a j b,jfo f c.den⟩
def JP{x}{p}{T}{r}{g}(d:qk X (.type T) r)(f:BC ⟨X.K,cl⟩ r g)(hm:X.mg x=none)(h:bootBuiltins x=some (.type T))(c:QBs cl X (e::es) tr pr)(i:Gl X x:=by rfl)
  (hn:x≠"__name__":=by decide) (a:Nd x:=by decide) (j:SEq X e es:=by rfl) (b:BkE X pos es:=by rfl):
  QP cl X (.Call (.Name x p) (e::es) [] pos) (tCB r tr) (pCB g pr):=⟨jby d i hm h c.sem hn a j b,jfo f c.den⟩
def jf3(hm:X.mg "len" = none){p}(b:QBs cl X [e] tr pr)(c:Gl X "len":=by rfl)(d:starEach [e] X.env=(false,eval e X.env)::starEach [] X.env:=by rfl)(a:(backTo pos<|starEach [] X.env).any (·.1)=false:=by rfl):
  QP cl X (.Call (.Name "len" p) [e] [] pos) (tCB (λxs H Q=>∃ x n,xs=[x]/\jkr X.K x H n/\Q (.int n) H) tr) (pCB yE pr):=vd jdd jkq hm PySem.boot_len b c (by decide) (by decide) d a
def KL:bootBuiltins "sum" = some (.builtin "sum"):=by decide +kernel
def Kb:bootBuiltins "all" = some (.builtin "all"):=by decide +kernel
def Ko:bootBuiltins "any" = some (.builtin "any"):=by decide +kernel
def K4:bootBuiltins "max" = some (.builtin "max"):=by decide +kernel
def Kc:bootBuiltins "min" = some (.builtin "min"):=by decide +kernel
def JC:bootBuiltins "isinstance" = some (.builtin "isinstance"):=by decide +kernel
def KN:bootBuiltins "int" = some (.type "int"):=by decide +kernel
def Kr:bootBuiltins "str" = some (.type "str"):=by decide +kernel
def Y5:bootBuiltins "list" = some (.type "list"):=by decide +kernel
def ke:bootBuiltins "tuple" = some (.type "tuple"):=by decide +kernel
def Vk:bootBuiltins "bool" = some (.type "bool"):=by decide +kernel
def Y6:bootBuiltins "dict" = some (.type "dict"):=by decide +kernel
def YJ{T}{x}{p p1}(j:T∈["bool","int","str","tuple","list","dict"])(hm:X.mg "isinstance" = none)(c:X.mg x=none)(d:bootBuiltins x=some (.type T))(h:QB cl X a ta pa)(k:Gl X "isinstance":=by rfl)(e:Gl X x:=by rfl)
  (hn:x≠"__name__":=by decide) (f:Nd x:=by decide) (i:starEach [a,.Name x p1] X.env=(false,eval a X.env)::starEach [.Name x p1] X.env:=by rfl) (g:(backTo pos<|starEach [.Name x p1] X.env).any (·.1)=false:=by rfl)
  (h1:starEach [.Name x p1] X.env=(false,eval (.Name x p1) X.env)::starEach [] X.env:=by rfl):
  QP cl X (.Call (.Name "isinstance" p) [a,.Name x p1] [] pos) (tCB (λxs H Q=>∃ x T t b,xs=[x,.ty T]/\TyQ X.K H x t/\PySem.W.kitOne X.K (.type t) (.type T)=some b/\Q (.bl b) H)<|yW ta<|yW (tC<|.ty T) JB) (YF T pa):=
 ⟨xA KG k hm JC (y6 h.sem (y6 (jhC e c d rfl hn f) qg h1) i) (by decide) (by decide) i g,jju j h.den⟩
variable {tg iter elt:Expr}{ifs:List Expr}{wi:TI}{pi:PAf}{t:TG}{g:D->Rh->Option Rh}
def jej(h:QP cl X e te pe):QI cl X tg e (jcq X.K te) (pIt pe):=⟨xy h.sem,jlx h.den⟩
def jbc{p}(hm:X.mg "range" = none)(h:QBs cl X [a] tr pr)(b:Gl X "range":=by rfl)(hs:starEach [a] X.env=[(false,eval a X.env)]:=by rfl):QI cl X tg (.Call (.Name "range" p) [a] [] pos) (jht tr) (KZ pr):=⟨uK b hm h.sem hs,jhB h.den⟩
def jaI{b}{n}{tpos p}(hm:X.mg "enumerate" = none)(h:QPs cl X [a] tr pr)(c:Gl X "enumerate":=by rfl)(hs:starEach [a] X.env=[(false,eval a X.env)]:=by rfl):QI cl X (.Tuple b n tpos) (.Call (.Name "enumerate" p) [a] [] pos) (jg7 X.K tr) (Qv pr):=⟨jgq c hm h.sem hs,jcB h.den⟩
def jbm{i}{x}(a:X.N.Nodup)(hi:X.N[i]?=some x:=by rfl)(b:Loc X.env.scope x:=by first | exact Or.inl rfl | exact Or.inr rfl)(c:X.fn x=true\/X.env.scope.names.lookup x=some .local:=by first | exact .inl rfl | exact .inr rfl):
  QG cl pm X (.Name x pos) (Jj i) (jd pm i):=⟨jbl a hi b c,jdS⟩
def jaO:QGs cl pm X [] jjL gN:=⟨jaP,jd1⟩
def xS{ts}{a}(h1:QG cl pm X e t g)(h2:QGs cl pm X es ts a)(hs:(assignEach (e::es) X.env).map (·.2)=assign e X.env::(assignEach es X.env).map (·.2):=by rfl):QGs cl pm X (e::es) (jbI t ts) (gC g a):=⟨xj h1.sem h2.sem hs,uk h1.den h2.den⟩
def jay{ts}{b}{k n}(c:X.calm=true)(h:QGs cl pm X es ts b)(hn:(assignEach es X.env).length=n:=by rfl)(a:(assignEach es X.env).findIdx? (·.1)=none:=by rfl):QG cl pm X (.Tuple es k pos) (jhQ X.K n ts) (gT n b):=⟨je6 c h.sem hn a,jgx h.den⟩
def xa:QIf cl X [] (λ_ H Q=>Q true H) qT:=⟨.inl ⟨rfl,rfl⟩,jgN⟩
def xP(h:QT cl X c tA qa):QIf cl X [c] tA qa:=⟨.inr ⟨c,rfl,h.sem⟩,h.den⟩
variable {st:Stmt}{qw:List Stmt}{ts tu:TS}{f fe:FS}{fE:FE}
def uE:QSs cl pm X [] jhI jR:=⟨jho,jfW⟩
def jat(h:QS cl pm X st ts f):QSs cl pm X [st] ts f:=⟨VW h.sem,h.den⟩
def xb(h:QS cl pm X st ts f)(k:QSs cl pm X qw tu fe):QSs cl pm X (st::qw) (jeX ts tu) (jv f fe):=⟨JL h.sem k.sem,jkn h.den k.den⟩
def jbg(h:QE cl X e te fE)(hs:swapsWith e none pos.line X.env=pure false:=by rfl):QS cl pm X (.Expr e pos) (qJ te) (uX fE):=⟨Jk h.sem hs,jfB h.den⟩
def jef(h:QE cl X e te fE):QS cl pm X (.Return (some e) pos) (jhf te) (yQ fE):=⟨jaL h.sem,ji0 h.den⟩
def jiG{x y}(a:QT cl X c tA qa)(b:QSs cl pm X x ts f)(e:QSs cl pm X y tu fe):QS cl pm X (.If c x y pos) (ji1 tA ts tu) (sIf (dPT qa) f fe):=⟨jjA a.sem b.sem e.sem,jkX (PTt.d a.den) b.den e.den⟩
def jeL{i}{x}{pos'}(a:X.N.Nodup)(h:QE cl X e te fE)(hi:X.N[i]?=some x:=by rfl)(b:Loc X.env.scope x:=by first | exact Or.inl rfl | exact Or.inr rfl)(hs:swapsWith e (some<|.Name x pos') pos.line X.env=pure false:=by rfl)
  (c:X.fn x=true\/X.env.scope.names.lookup x=some .local:=by first | exact .inl rfl | exact .inr rfl):QS cl pm X (.Assign [.Name x pos'] e pos) (jcM te<|Jj i) (jX fE<|jd pm i):=⟨jbh a hi b h.sem hs c,jeE h.den Vv⟩
def jeK{i}{x}{xpos apos cpos}(f:QB cl X (.Name x xpos) (vk i)<|pV i)(h:QP cl X e te pe)(b:attributeBase (.Name x xpos) "append" X.env (eval (.Name x xpos) X.env)=eval (.Name x xpos) X.env:=by rfl)
  (d:((backTo cpos<|starEach [e] X.env).all (λx=>!x.1)&&(backToKw cpos<|keywordEach [] X.env).all (λx=>x.1.isSome)
   && decide ([e].length+([]:List Keyword).length+(if([]:List Keyword).isEmpty then 0 else 1)<30))=true:=by rfl)
  (c:(apos.endLine==cpos.line)=true:=by rfl) (hs:starEach [e] X.env=(false,eval e X.env)::starEach [] X.env:=by rfl) (a:(backTo cpos<|starEach [] X.env).any (·.1)=false:=by rfl)
  (hsw:swapsWith (.Call (.Attribute (.Name x xpos) "append" apos) [e] [] cpos) none pos.line X.env=pure false:=by rfl):
  QS cl pm X (.Expr (.Call (.Attribute (.Name x xpos) "append" apos) [e] [] cpos) pos) (qJ<|tBM X.K "list" qo (vk i)<|yW te JB) (wd i pe):=
 ⟨Jk (jaW PySem.F.plainAttrs_list PySem.F.slot_list_append PySem.F.type_list_append qZ f.sem (y6 h.sem qg hs) b d c hs a) hsw,jh6 h.den⟩
def jeD{body}(c:PassesOwn (model X.prog X.w) X.A X.env X.xe)(d:X.calm=true)(hi:QI cl X tg iter wi pi)(a:QG cl pm X tg t g)(b:QSs cl pm X body ts f)(hs:∀ x,foldedSetIterable iter X.env x=pure x:=by intro _;rfl):QS cl pm X (.For tg iter body [] pos) (jfs wi t ts) (YE pi g f):=
 ⟨jaD c d hi.sem a.sem b.sem hs,jiI hi.den a.den b.den⟩
def QS.fz(i)(h:QS cl pm X st ts f):QS cl pm X st ts (sFz i f):=⟨h.sem,jlI h.den⟩
def jkG{P}{w}{K}{mg}{base}{x qual}{fst}{fa}{fd}{N ps}{k n}{fs}(F:Fun K x qual fst fa fd)(b:FnScope N ps<|jt fst)(hn:ps.length=n)
  (a:∀ cdv A outer s H E,Room k (A.deeper<|envOfC qual (jt fst) ↥s fa cdv) ->
   ∃ ts,QSs cl [] (ug CX0 P w K mg base N qual (jt fst) fa cdv A outer s H E).nox (yp fst) ts fs):FnOk P w K mg base CX0 (k+1) fa fd ps (spP ⟨K,cl⟩ (fnP N.length fs) n):=by
 refine F.ok b (λvs H Q E h=>by rw[jgI h,hn]) λcdv A outer s H vs Q E c h=>?_;obtain⟨ts,q⟩:=a cdv A outer s H E c;exact⟨ts,q.sem,jfA q.den h⟩
end
mutual
noncomputable def okE:Nat->D->Bool
 | _,.non=>true | _,.bl _=>true | _,.int _=>true
 | _,.str s=>s.all λc=>decide<|c<1114112
 | n+1,.tup l=>yX n l
 | n+1,.lst _ l=>yX n l
 | _,_=>false
noncomputable def yX:Nat->List D->Bool
 | _,[]=>true
 | n,d::l=>okE n d&&yX n l
end
mutual
noncomputable def eqD:D->D->Bool
 | .non,y=>match y with | .non=>true | _=>false
 | .bl a,y=>match y with | .bl b=>a==b | .int j=>(if a then 1 else 0)==j | _=>false
 | .int i,y=>match y with | .bl b=>i==(if b then 1 else 0) | .int j=>i==j | _=>false
 | .str a,y=>match y with | .str b=>a==b | _=>false
 | .tup l,y=>match y with | .tup m=>QH l m | _=>false
 | .lst _ l,y=>match y with | .lst _ m=>QH l m | _=>false
 | _,_=>false
noncomputable def QH:List D->List D->Bool
 | [],[]=>true
 | x::l,y::m=>eqD x y&&QH l m
 | _,_=>false
end
noncomputable def jma:D->Bool
 | .non=>true | .bl _=>true | .int _=>true | .str _=>true | .tup _=>true | .lst _ _=>true | _=>false
def yd{n x}{p:Prop}(h:okE n x=true)(k:jma x=false):p:=by
 cases x<;>cases k<;>cases n<;>cases h
theorem xu:∀ n l,yX n l=l.all (okE n)
 | _,[]=>rfl
 | n,d::l=>by rw[yX,xu n l];rfl
mutual
theorem xV:∀(n:Nat) (x y:D),okE n x=true->okE n y=true->PyData.eqv (yu x) (yu y)=eqD x y
 | n,.non,y,hx,hy=>by cases y<;>first | rfl | (cases n<;>simp_all [okE])
 | n,.bl a,y,hx,hy=>by cases y<;>first | rfl | (cases n<;>simp_all [okE])
 | n,.int a,y,hx,hy=>by cases y<;>first | rfl | (cases n<;>simp_all [okE])
 | n,.str a,y,hx,hy=>by
  cases y with
  | str b=>
   show(S a==S b)=(a==b);rw[Bool.eq_iff_iff];simp[jk3]
  | _=>first | rfl | (cases n<;>simp_all [okE])
 | 0,.tup l,y,hx,hy=>by simp[okE] at hx
 | n+1,.tup l,y,hx,hy=>by
  cases y with
  | tup m=>show PyData.eqvAll (ye l) (ye m)=QH l m;exact zh n l m (by simpa [okE] using hx) (by simpa [okE] using hy)
  | _=>first | rfl | (simp_all [okE])
 | 0,.lst o l,y,hx,hy=>by simp[okE] at hx
 | n+1,.lst o l,y,hx,hy=>by
  cases y with
  | lst o' m=>show PyData.eqvAll (ye l) (ye m)=QH l m;exact zh n l m (by simpa [okE] using hx) (by simpa [okE] using hy)
  | _=>first | rfl | (simp_all [okE])
 | n,.dK _ _ _,y,hx,hy=>yd hx rfl
 | n,.dT _ _ _,y,hx,hy=>yd hx rfl
 | n,.dN _ _,y,hx,hy=>yd hx rfl
 | n,.ins _ _ _ _,y,hx,hy=>yd hx rfl
 | n,.dead,y,hx,hy=>yd hx rfl
 | n,.tok _,y,hx,hy=>yd hx rfl
 | n,.kt _,y,hx,hy=>yd hx rfl
 | n,.exc _ _,y,hx,hy=>yd hx rfl
 | n,.lam,y,hx,hy=>yd hx rfl
theorem zh:∀(n:Nat) (l m:List D),yX n l=true->yX n m=true->PyData.eqvAll (ye l) (ye m)=QH l m
 | n,[],[],_,_=>rfl
 | n,[],_::_,_,_=>rfl
 | n,_::_,[],_,_=>rfl
 | n,x::l,y::m,hx,hy=>by
  rw[yX,M0] at hx hy;show(PyData.eqv (yu x) (yu y)&&PyData.eqvAll (ye l) (ye m))=(eqD x y&&QH l m);rw[xV n x y hx.1 hy.1,zh n l m hx.2 hy.2]
end
mutual
theorem Jb:∀(n:Nat) (x:D),okE n x=true->(yu x).canLay0=true/\(yu x).depth<=n
 | n,.non,_=>⟨rfl,U5 _⟩
 | n,.bl _,_=>⟨rfl,U5 _⟩
 | n,.int _,_=>⟨rfl,U5 _⟩
 | n,.str s,h=>by
  refine⟨?_,U5 _⟩;have h:(s.all λc=>decide<|c<1114112)=true:=by cases n<;>simpa [okE] using h
  show PyData.strOk (S s)=true;unfold PyData.strOk S;rw[Array.all_eq_true'];intro c hc;rw[List.all_eq_true] at h;exact h c ⇑hc
 | 0,.tup l,h=>by simp[okE] at h
 | n+1,.tup l,h=>by
  obtain⟨h1,h2⟩:=J8 n l (by simpa [okE] using h);exact⟨h1,Nat.succ_le_succ h2⟩
 | 0,.lst o l,h=>by simp[okE] at h
 | n+1,.lst o l,h=>by
  obtain⟨h1,h2⟩:=J8 n l (by simpa [okE] using h);exact⟨h1,Nat.succ_le_succ h2⟩
 | n,.dK _ _ _,hx=>yd hx rfl
 | n,.dT _ _ _,hx=>yd hx rfl
 | n,.dN _ _,hx=>yd hx rfl
 | n,.ins _ _ _ _,hx=>yd hx rfl
 | n,.dead,hx=>yd hx rfl
 | n,.tok _,hx=>yd hx rfl
 | n,.kt _,hx=>yd hx rfl
 | n,.exc _ _,hx=>yd hx rfl
 | n,.lam,hx=>yd hx rfl
theorem J8:∀(n:Nat) (l:List D),yX n l=true->PyData.canLayAll0 (ye l)=true/\PyData.depthAll (ye l)<=n
 | n,[],_=>⟨rfl,U5 _⟩
 | n,x::l,h=>by
  rw[yX,M0] at h;obtain⟨h1,h2⟩:=Jb n x h.1;obtain⟨h3,h4⟩:=J8 n l h.2;rw[ye];refine⟨?_,?_⟩
  ·show((yu x).canLay0&&PyData.canLayAll0 (ye l))=true;rw[h1,h3];rfl
  ·show max (yu x).depth (PyData.depthAll<|ye l)<=n;exact Nat.max_le.mpr ⟨h2,h4⟩
end
mutual
theorem Rep.reads(I:Inv X pins σ H s):∀(n:Nat) {x:D}{v:V}{u:Value}{O:W4},Rep ⟨X.K,cl⟩ Z H x v O->RelV v u->okE n x=true->∃ as,Reads s.heap u (yu x) as
 | n,.non,_,_,_,r,q,_=>by obtain⟨rfl,_⟩:=r.non_of;cases q;exact⟨_,.none⟩
 | n,.bl b,_,_,_,r,q,_=>by obtain⟨rfl,_⟩:=r.bl_of;cases q;exact⟨_,.bool b⟩
 | n,.int i,_,_,_,r,q,_=>by obtain⟨rfl,_⟩:=r.int_of;obtain⟨t,rfl⟩:=q;exact⟨_,.int i t⟩
 | n,.str w,_,_,_,r,q,_=>by obtain⟨rfl,_⟩:=r.str_of;obtain⟨t,rfl⟩:=q;exact⟨_,.str _ t⟩
 | 0,.tup l,_,_,_,r,q,h=>by simp[okE] at h
 | n+1,.tup l,_,_,_,r,q,h=>by
  obtain⟨a,vs,rfl,hx,rs⟩:=r.tup_of;cases q;obtain⟨its,rv,⟨o,h1,h2,k,h3⟩,_⟩:=I.tuple hx;obtain⟨as,hr⟩:=Reps.reads I n rs rv (by simpa [okE] using h);exact⟨_,reads_tuple_at h1 h2 h3 ⇑hr⟩
 | 0,.lst o l,_,_,_,r,q,h=>by simp[okE] at h
 | n+1,.lst o l,_,_,_,r,q,h=>by
  obtain⟨a,vs,O',rfl,hx,rs⟩:=r.lst_of;cases q;obtain⟨its,rv,⟨o,k,h1,h2,_,h3⟩,_⟩:=I.list hx.sq;obtain⟨as,hr⟩:=Reps.reads I n rs rv (by simpa [okE] using h);exact⟨_,reads_list_at h1 h2 h3 ⇑hr⟩
 | n,.dK _ _ _,_,_,_,_,_,hx=>yd hx rfl
 | n,.dT _ _ _,_,_,_,_,_,hx=>yd hx rfl
 | n,.dN _ _,_,_,_,_,_,hx=>yd hx rfl
 | n,.ins _ _ _ _,_,_,_,_,_,hx=>yd hx rfl
 | n,.dead,_,_,_,_,_,hx=>yd hx rfl
 | n,.tok _,_,_,_,_,_,hx=>yd hx rfl
 | n,.kt _,_,_,_,_,_,hx=>yd hx rfl
 | n,.exc _ _,_,_,_,_,_,hx=>yd hx rfl
 | n,.lam,_,_,_,_,_,hx=>yd hx rfl
theorem Reps.reads(I:Inv X pins σ H s):∀(n:Nat) {l:List D}{vs:List V}{us:List Value}{O:W4},Reps ⟨X.K,cl⟩ Z H l vs O->Vals vs us->yX n l=true->∃ as,ReadsAll s.heap us (ye l) as
 | n,[],_,_,_,r,q,_=>by rw[Reps] at r;obtain⟨rfl,_⟩:=r;cases q;exact⟨_,.nil⟩
 | n,x::l,_,_,_,r,q,h=>by
  rw[Reps] at r;obtain⟨v,vs,O1,O2,rfl,rfl,r1,r2⟩:=r;rw[yX,M0] at h;cases q with
  | cons q1 q2=>
   obtain⟨as,h1⟩:=Rep.reads I n r1 q1 h.1;obtain⟨bs,h2⟩:=Reps.reads I n r2 q2 h.2;exact⟨_,.cons h1 h2⟩
end
def jhS(R:RC)(neg:Bool):R2:=λx y H Q=>∃ Z d e O P,Rep R Z H d x O/\Rep R Z H e y P/\okE 20 d=true/\okE 20 e=true/\Q (.bl<|neg != eqD d e) H
def jkv(h:okE 20 x=true):SeqAt.shaped (yu x)=true:=by
 obtain⟨a,b⟩:=Jb 20 x h;unfold SeqAt.shaped;rw[a,Bool.true_and];exact X1<|N7 b (by decide)
def jjw(f:X.A.units+64<cLine):OpR X (compareOp .Eq) (jhS ⟨X.K,cl⟩ false):=by
 intro c s σ H x y v u Q I g i h;obtain⟨Z,d,e,O,P,j,k,a,b,q⟩:=h;obtain⟨n,l⟩:=j.reads I 20 g a;obtain⟨bs,m⟩:=k.reads I 20 i b;refine eq_dataH l m (jkv a) (jkv b) f ?_;rw[xV 20 d e a b];exact⟨.bl _,H,I,rfl,by simpa using q⟩
def jjx(f:X.A.units+64<cLine):OpR X (compareOp .NotEq) (jhS ⟨X.K,cl⟩ true):=by
 intro c s σ H x y v u Q I g i h;obtain⟨Z,d,e,O,P,j,k,a,b,q⟩:=h;obtain⟨n,l⟩:=j.reads I 20 g a;obtain⟨bs,m⟩:=k.reads I 20 i b;refine ne_dataH l m (jkv a) (jkv b) f ?_;rw[xV 20 d e a b];exact⟨.bl _,H,I,rfl,by simpa using q⟩
def vy(x y:D):Option D:=bif kI x&&kI y&&V3 x y then some (.bl<|eqF x y) else bif okE 20 x&&okE 20 y then some (.bl<|eqD x y) else none
def wM(x y:D):Option D:=bif kI x&&kI y&&V3 x y then some (.bl<|!eqF x y) else bif okE 20 x&&okE 20 y then some (.bl<|!eqD x y) else none
def jkH:BO R (λx y H Q=>rEq x y H Q\/jhS R false x y H Q) vy:=by
 intro Z H x y d v u O1 O2 z a b e Q k;unfold vy at e;cases hl:kI x&&kI y&&V3 x y with
 | true=>
  rw[hl] at e;cases e;obtain⟨c,f⟩:=jau a b hl;exact .inl ⟨c,by rw[f];exact k (Go.id z) .bl_mk⟩
 | false=>
  rw[hl,cond_false] at e;refine oc e λhm e=>?_;cases e;rw[M0] at hm;exact .inr ⟨Z,x,y,O1,O2,a,b,hm.1,hm.2,by simpa using k (Go.id z) .bl_mk⟩
def jkY:BO R (λx y H Q=>rNe x y H Q\/jhS R true x y H Q) wM:=by
 intro Z H x y d v u O1 O2 z a b e Q k;unfold wM at e;cases hl:kI x&&kI y&&V3 x y with
 | true=>
  rw[hl] at e;cases e;obtain⟨c,f⟩:=jau a b hl;exact .inl ⟨c,by rw[f];exact k (Go.id z) .bl_mk⟩
 | false=>
  rw[hl,cond_false] at e;refine oc e λhm e=>?_;cases e;rw[M0] at hm;exact .inr ⟨Z,x,y,O1,O2,a,b,hm.1,hm.2,by simpa using k (Go.id z) .bl_mk⟩
def jl4(a:Room k X.A):CmpR cl X .Eq b (λx y H Q=>rEq x y H Q\/jhS ⟨X.K,cl⟩ false x y H Q) vy:=⟨Jv jlF<|jjw a.units,jkH,Y2 _⟩
def jlR(a:Room k X.A):CmpR cl X .NotEq b (λx y H Q=>rNe x y H Q\/jhS ⟨X.K,cl⟩ true x y H Q) wM:=⟨Jv jlg<|jjx a.units,jkY,Y2 _⟩
def BM(R:RC)(T:String)(r:V->List V->Hp->VK->Prop)(g:D->List D->Option D):Prop:=∀{Z}{H}{x d}{xs}{v}{vs}{O1 O2},Zd Z H->Rep R Z H x v O1->Reps R Z H xs vs O2->g x xs=some d ->
 ∀{Q},(∀{w}{Z'}{H'}{P},Go Z H [] Z' H' P->Rep R Z' H' d w P->Q w H')->r v vs H Q
noncomputable def isT:String->D->Bool
 | "str",.str _=>true
 | _,_=>false
@[simp] def pBM(T:String)(g:D->List D->Option D)(pa:PF)(pr:PAf)(ρ:Rh):Option D:=(pa ρ).bind λx=>bif isT T x then(pr ρ).bind λxs=>g x xs else none
def jjr(r:Rep R Z H x v O)(h:isT T x=true):tyV R.K T v H:=by
 unfold isT at h;split at h
 ·obtain⟨rfl,_⟩:=r.str_of;rfl
 ·cases h
def jlA(f:BM R T r g)(h:PB R to pa)(i:PBs R ta pr):PP R (tBM R.K T r to ta) (pBM T g pa pr):=by
 intro σ ρ Z H O d z s e Q k;exact ob e λx j e=>oc e λl e=>ob e λq m e=>(h z s j λ{v t u P1} a c=>⟨jjr c l,(i a.wf.zd (a.slots z s) m λ{vs w y P2} b n=>(f b.wf.zd (b.rep a.wf.zd c) n e λo p=>k ((a.pair b).pair o) p))⟩)
end QD
namespace QD
open PySem L2
section
variable {R:RC}{Z Z':Zn}{H H':Hp}{pm:List Nat}
def Jo(i:Nat)(g:D->Rh->Option Rh)(f:FS):Nat->Nat->FS
 | 0,_,_=>none
 | n+1,j,ρ=>match ρ[i]? with
  | some (some (.lst _ l))=>(match l[j]? with
   | none=>some<|.nx ρ
   | some x=>bif frz x then((g x ρ).bind λρ1=>(f ρ1).bind λo=>o.loop<|Jo i g f n<|j+1) else none)
  | _=>none
def QM(i:Nat)(g:D->Rh->Option Rh)(f:FS):FS:=λρ=>match ρ[i]? with
 | some (some (.lst _ l))=>Jo i g f (l.length+1) 0 ρ
 | _=>none
def Keep.sub(h:∀ i∈pm,i∈pm')(k:Keep pm' σ σ'):Keep pm σ σ':=λi a=>k i<|h i a
def Slots.lst{ρ}{O}{i:Nat}{l}(s:Slots R Z H ρ σ O)(h:ρ[i]?=some (some<|.lst o l)):Ex3 λa vs O'=>An3 (σ[i]?=some (some<|.ref a)) (SqX R.K H a vs) (Reps R Z H l vs O'):=by
 obtain⟨A,P,B,rfl,b,_,_⟩:=s.put (L9.mp h).1;obtain⟨v,c,r⟩:=b _ h;obtain⟨a,vs,O',rfl,d,e⟩:=r.lst_of;exact⟨a,vs,O',c,d,e⟩
def jgU{i}{g}(hg:PGt R (i::pm) tg g)(hf:DS R (i::pm) tb f)(inj:∀{H a xs ys},SqL R.K H a xs->SqL R.K H a ys->True):DS R pm (jfs (jcq R.K<|vk i) tg tb) (QM i g f):=by
 intro σ ρ Z H O o w s e D' k;unfold QM at e;split at e
 ·rename_i o0 l0 J;obtain⟨a,L,O0,ea,M,rs0⟩:=s.lst J;refine⟨.ref a,ea,.inl ⟨a,rfl,⟨L,M.sq⟩,⟨λj m N Q=>∃ n S T U,m=n/\Go Z H O T Q U/\Slots R T Q S N U/\Keep (i::pm) σ N/\Jo i g f n j S=some o,⟨l0.length+1,_,ρ,Z,O,rfl,Go.refl w,s,Keep.refl _ _,e⟩,?_⟩⟩⟩;rintro j m N Q ⟨n,S,T,U,em,V,W,kp,c⟩;subst em;cases m with
  | zero=>cases c
  | succ n=>
   unfold Jo at c;split at c
   ·rename_i o1 l hl;obtain⟨a',vs,O1,X,Y,rs⟩:=W.lst hl;have:a'=a:=by
     have q:=kp i L7;rw[X,ea] at q;cases q;rfl
    subst this;cases hj:l[j]? with
    | none=>
     rw[hj] at c;cases c
     left
     refine⟨⟨vs,Y.sq,?_⟩,k V W<|kp.sub λb y=>L6 _ y⟩;rw[rs.length];exact List.getElem?_eq_none_iff.mp hj
    | some x=>
     rw[hj] at c;refine oc c λhf' c=>?_
     right
     obtain⟨v,A,P,B,ev,_,rv,_⟩:=rs.at hj;cases rv.nil hf';refine ob c λρ1 e3 c=>ob c λo2 e4 c=>⟨⟨vs,v,Y.sq,ev⟩,λσ2 F=>∃ h G O2,Go Z H O G F O2/\Slots R G F h σ2 O2/\Keep (i::pm) σ σ2/\Jo i g f n (j+1) h=some o,λσ2 F ⟨h,G,O2,a1,a2,a3,a4⟩=>⟨n,Nat.lt_succ_self _,n,h,G,O2,rfl,a1,a2,a3,a4⟩,λu F hy=>?_⟩;obtain⟨rfl,hy⟩:=hy;have z:=hy vs Y.sq;rw[ev] at z;cases z;refine hg rv W e3 λ{σ3 O3} sub nd s3 I=>?_;have C:=V.drop sub<|nd V.wf.nd;refine hf C.wf s3 e4 ?_;cases o2 with
     | nx h=>exact λ{σ4 D H4 E} p r t=>⟨h,D,E,C.trans p,r,kp.trans<|I.trans t,c⟩
     | ct h=>exact λ{σ4 D H4 E} p r t=>⟨h,D,E,C.trans p,r,kp.trans<|I.trans t,c⟩
     | bk h=>cases c;exact λ{σ4 D H4 E} p r t=>k (C.trans p) r<|(kp.trans<|I.trans t).sub λb y=>L6 _ y
     | rt d h=>cases c;exact λ{v4 σ4 D H4 P4 E} p r4 r t=>k (C.trans p) r4 r<|(kp.trans<|I.trans t).sub λb y=>L6 _ y
   ·lia
 ·cases e
def ItB(R:RC)(J:It)(Z:Zn)(H:Hp)(xs:List D):Prop:=∀{Z1}{H1},(∀ a,Z a->Z1 a)->(∀ a,H a≠none->H1 a=H a)->Zd Z1 H1->∀ i:Nat,
 (xs.length<=i->J.stop i H1)/\∀ x,xs[i]?=some x->J.go i H1/\∀ u H2,J.yld i H1 u H2->∃ Z2,Go Z1 H1 [] Z2 H2 []/\Rep R Z2 H2 x u []
def jkw(R:RC)(wi:TI)(p:PAf):Prop:=∀{σ}{ρ}{Z}{H}{O}{xs},Zd Z H->Slots R Z H ρ σ O->p ρ=some xs ->
 ∀{Q:It->Hp->Prop},(∀{J}{Z'}{H'},Go Z H [] Z' H' []->ItB R J Z' H' xs->Q J H')->wi σ H Q
def PIt.b(h:PIt R wi p):jkw R wi p:=by
 intro σ ρ Z H O j z s e Q k;refine h z s e λg c=>k g ?_;intro l m d f zd i;exact c d (λa z=>f a<|g.wf.zd a z) zd i
def itB:D->Option (List D)
 | .lst _ l=>bif frzs l then some l else none
 | .tup l=>bif frzs l then some l else none
 | .str s=>some<|s.map λc=>.str [c]
 | _=>none
@[simp] def JD(p:PF)(ρ:Rh):Option (List D):=(p ρ).bind itB
def jcu(b:∀ a,H a≠none->H' a=H a)(h:SqX K H a vs):SqX K H' a vs:=by
 rcases h with h | h
 ·refine .inl<|Rd.agree (b a ?_) h;rcases h with h | ⟨o,h⟩<;>rw[h]<;>exact λz=>(nomatch z)
 ·exact .inr h
def jdN(b:∀ a,H a≠none->H' a=H a)(h:SqT K H a vs):SqT K H' a vs:=by
 rcases h with h | h
 ·refine .inl<|Rd.agree (b a ?_) h;rcases h with h | ⟨o,h⟩<;>rw[h]<;>exact λz=>(nomatch z)
 ·exact .inr h
def jiC(h:PB R te p):jkw R (jcq R.K te) (JD p):=by
 intro σ ρ Z H O T z s e Q k;refine ob e λc E e=>?_;cases c with
 | lst o l=>
  refine oc e λF e=>?_;cases e;refine h z s E λ{v M N P1} f q=>?_;obtain⟨a,vs,U,rfl,r,y⟩:=q.lst_of;have G:=y.frozen F;refine .inl ⟨a,rfl,⟨vs,r.sq⟩,k f ?_⟩;intro D P A g zd i;have d:=SqX.sq<|jcu g r;have j:=G.frame A (λb z=>g b<|f.wf.zd b z) λb I=>(nomatch I);refine⟨λJ=>⟨vs,d,by rw[y.length];exact J⟩,λx m=>?_⟩;obtain⟨u,B,L⟩:=j.item m;refine⟨⟨vs,u,d,B⟩,λw S n=>?_⟩;obtain⟨rfl,n⟩:=n;have C:=n vs d;rw[B] at C;cases C;exact⟨D,Go.id zd,L⟩
 | tup l=>
  refine oc e λF e=>?_;cases e;refine h z s E λ{v M N P1} f q=>?_;obtain⟨a,vs,rfl,r,y⟩:=q.tup_of;refine .inr<|.inl ⟨a,rfl,⟨vs,r⟩,k f ?_⟩;intro D P A g zd i;have d:=jdN g r;have j:=(y.frozen F).frame A (λb z=>g b<|f.wf.zd b z) λb I=>(nomatch I);refine⟨λJ=>⟨vs,d,by rw[y.length];exact J⟩,λx m=>?_⟩;obtain⟨u,B,L⟩:=j.item m;refine⟨⟨vs,u,d,B⟩,λw S n=>?_⟩;obtain⟨rfl,n⟩:=n;have C:=n vs d;rw[B] at C;cases C;exact⟨D,Go.id zd,L⟩
 | str t=>
  cases e;refine h z s E λ{v M N P1} f q=>?_;obtain⟨rfl,_⟩:=q.str_of;refine .inr<|.inr ⟨t,rfl,k f ?_⟩;intro D P A g zd i;exact jeQ A (λb z=>g b<|f.wf.zd b z) zd i
 | _=>cases e
inductive CpI (R:RC) (g:D->Rh->Option Rh) (q:PTf) (p:PF) (Z0:Zn) (H0:Hp) (a:Addr) (xs all:List D) (i m:Nat) (σ2:L2.St) (H2:Hp):Prop
 | mk:m=xs.length-i->i<=xs.length->∀(ρ2:Rh) (Z2:Zn) (O2:W4) (ys:List D) (vs:List V) (Py:W4) (qw:List D),Go Z0 H0 [] Z2 H2 (a::Py)->H2 a=some (.lst vs)->Reps R Z2 H2 ys vs Py->(∀ b∈O2,b≠a)->Slots R Z2 H2 ρ2 σ2 O2->jS g q p (xs.drop i) ρ2=some qw->all=ys++qw->ys.length<=i->CpI R g q p Z0 H0 a xs all i m σ2 H2
def qB{tg}{tc}{te}{g}{q}{p}{ix}(hg:PGt R [] tg g)(hq:PTt R tc q)(he:PP R te p)
  {J:It}{l:Zn}{d:Hp}{ρ:Rh}{σ:L2.St}{O:W4}{xs all:List D}(C:Zd l d) (s:Slots R l d ρ σ O) (it:ItB R J l d xs) (hl:lim xs.length=true) (e2:jS g q p xs (jO ix ρ)=some all)
  {Q:VK}(k:∀{v}{Z'}{H'}{P},Go l d [] Z' H' P->Rep R Z' H' (.lst true all) v P->Q v H'):∀ a,d a=none->jbz tc te tg J a (vc ix σ) (upd d a<|.lst []) λH2=>Q (.ref a) H2:=by
 intro a ha;obtain⟨Oi,si⟩:=zf s ix;have gp:Go l d [] l (upd d a<|.lst []) [a]:=Go.newO (wf0 C) ha;refine⟨CpI R g q p l d a xs all,
  ⟨xs.length,rfl,U5 _,_,l,Oi,[],[],[],all,gp,jk,Reps.empty,λb h e=>si.dom b h<|e▸ha,gp.slots C si,e2,rfl,M8 _⟩,?_⟩
 rintro i m σ2 H2 ⟨rfl,S,ρ2,Z2,O2,ys,vs,r,qw,j,T,I,U,s2,c,K,t⟩;have E:=it j.zz (j.same) j.wf.zd i;by_cases F:i<xs.length
 ·right
  have hx:xs[i]?=some xs[i]:=by simp
  obtain⟨go,yl⟩:=E.2 _ hx;refine⟨go,λu H3 hy=>?_⟩;obtain⟨Z3,x,r3⟩:=yl u H3 hy;rw[kM hx] at c;refine ob c λρ3 e5 c=>(hg r3 (x.slots j.wf.zd s2) e5 λ{σ4 O4} sub nd L _=>(ob c λb e6 c=>(hq x.wf.zd L e6 λ{Z5 H5} G=>?_)));have n:=x.pair G;cases b with
  | true=>
   refine jc9<|ob c λy e7 c=>ob c λV e8 c=>?_;cases c;refine he G.wf.zd (G.slots x.wf.zd L) e7 λ{M A o P6} g6 r6=>?_;have w:Go Z2 H2 [] A o P6:=by simpa using n.pair g6
   have W:o a=some (.lst vs):=by rw[w.same a<|by lia];exact T
   have X:vs.length<sizeLine:=by
    rw[I.length];exact Ki<|X1<|N7 t<|N7 S<|X4 hl
   have N:Go l d [] A o (a::r++P6):=by
    have f:=w.frame (B:=[]) ⇑j.wf;exact j.trans ⇑f
   have Y:=N.wf;have gB:Go A o (a::r++P6) A (upd o a<|.lst<|vs++[M]) (a::r++P6):=Go.put Y L7;have ne:∀ b,b∈r++P6->upd o a (.lst<|vs++[M]) b=o b:=λb h=>jg λz=>(List.nodup_cons.mp Y.nd).1 (z▸h);have H:∀ b,A b->upd o a (.lst<|vs++[M]) b=o b:=λb h=>jg λz=>Y.nz a L7<|z▸h;refine⟨vs,W,X,xs.length-(i+1),by lia,rfl,F,ρ3,A,O4,ys++[y],vs++[M],r++P6,V,N.trans gB,jk,?_,λb h=>U b<|sub b h,(((G.pair g6).slots x.wf.zd L).frame (λb z=>z) H λb h=>jg<|U b<|sub b h),e8,by rw[K];simp,by rw[N4];exact Nat.add_le_add_right t 1⟩
   ·refine((w.reps j.wf.zd I).append (.one r6)).frame (λb z=>z) H ne
  | false=>
   refine jdm ?_;have N:Go l d [] Z5 H5 (a::r):=by
    exact j.trans (by simpa using(n.frame (B:=[]) ⇑j.wf))
   exact⟨xs.length-(i+1),by lia,rfl,F,ρ3,Z5,O4,ys,vs,r,qw,N,by rw[n.same a<|by lia];exact T,n.reps j.wf.zd I,λb h=>U b<|sub b h,G.slots x.wf.zd L,c,K,Nat.le_succ_of_le t⟩
 ·left
  have Z:i=xs.length:=by lia
  refine⟨E.1<|by lia,?_⟩;rw[Z,List.drop_length] at c;cases c;rw[M9] at K;subst K;exact k j ⟨a,vs,r,rfl,I,T,rfl⟩
def xF{wi}{tg}{tc}{te}{pi}{g}{q}{p}{ix}(hi:jkw R wi pi)(b:PGt R [] tg g)(c:PTt R tc q)(f:PP R te p):
  PP R (jaw wi tg tc te ix) (yB pi g q p ix):=by
 intro σ ρ Z H O d z s e Q k;refine ob e λn h e=>oc e λhl e=>ob e λall i e=>?_;cases e;exact hi z s h λ{J o r} a j=>(qB b c f a.wf.zd (a.slots z s) j hl i λl m=>k ⇑(a.pair l) m)
end
section
variable {cl:Nat->Addr}{pm:List Nat}{X:Cx}{c e elt tg iter:Expr}{te:TE}{pe:PF}{ifs:List Expr}{wi:TI}{pi:PAf}{t:TG}{g:D->Rh->Option Rh}{pos:Pos}{ts:TS}{f:FS}
structure QIb(cl:Nat->Addr)(X:Cx)(tg e:Expr)(wi:TI)(p:PAf):Prop where
 sem:PI X tg e wi
 den:jkw ⟨X.K,cl⟩ wi p
def QI.b'(h:QI cl X tg e wi pi):QIb cl X tg e wi pi:=⟨h.sem,PIt.b h.den⟩
def jaf(h:QB cl X e te pe):QIb cl X tg e (jcq X.K te) (JD pe):=⟨xy h.sem,jiC h.den⟩
def u6{scope}{N'}{ix}{a}{c}(B:BlockOk X scope N' ix)(f:X.calm=true)(hi:QIb cl X tg iter wi pi)
  (d:∀ C s H fp,QG cl [] (yV X scope N' C s H fp) tg t g) (b:∀ C s H fp,QIf cl (yV X scope N' C s H fp) ifs a c) (e:∀ C s H fp,QP cl (yV X scope N' C s H fp) elt te pe)
  (hs:∀ x,foldedSetIterable iter X.env x=pure x:=by intro _;rfl):QP cl X (.ListComp elt [⟨tg,iter,ifs,0⟩] scope pos) (jaw wi t a te ix) (yB pi g c pe ix):=
 ⟨jgT B f hi.sem (λC s H fp=>(d C s H fp).sem) (λC s H fp=>(b C s H fp).sem) (λC s H fp=>(e C s H fp).sem) hs,
  xF hi.den (d 0 X.s₀ X.H₀ []).den (b 0 X.s₀ X.H₀ []).den (e 0 X.s₀ X.H₀ []).den⟩
def J3{i}{x}{pos' a}{scope}{N'}{ix}{b}{f}(B:BlockOk X scope N' ix)(k:X.calm=true)(hi:QIb cl X tg iter wi pi)
  (h:∀ C s H fp,QG cl [] (yV X scope N' C s H fp) tg t g) (c:∀ C s H fp,QIf cl (yV X scope N' C s H fp) ifs b f) (j:∀ C s H fp,QP cl (yV X scope N' C s H fp) elt te pe)
  (l:X.N.Nodup) (e:X.N[i]?=some x:=by rfl) (m:Loc X.env.scope x:=by first | exact Or.inl rfl | exact Or.inr rfl)
  (hsw:swapsWith (.ListComp elt [⟨tg,iter,ifs,0⟩] scope pos) (some<|.Name x pos') a.line X.env=pure true:=by with_unfolding_all rfl)
  (hs:∀ x,foldedSetIterable iter X.env x=pure x:=by intro _;rfl)
  (n:X.fn x=true\/X.env.scope.names.lookup x=some .local:=by first | exact .inl rfl | exact .inr rfl):
  QS cl pm X (.Assign [.Name x pos'] (.ListComp elt [⟨tg,iter,ifs,0⟩] scope pos) a) (jcM (jaw wi t b te ix)<|Jj i) (jX (dP<|yB pi g f pe ix)<|jd pm i):=
 ⟨wt B k hi.sem (λC s H fp=>(h C s H fp).sem) (λC s H fp=>(c C s H fp).sem) (λC s H fp=>(j C s H fp).sem) l e m hsw hs n,
  jeE (PP.d<|xF hi.den (h 0 X.s₀ X.H₀ []).den (c 0 X.s₀ X.H₀ []).den (j 0 X.s₀ X.H₀ []).den) Vv⟩
def jgt(c:PassesOwn (model X.prog X.w) X.A X.env X.xe)(d:X.calm=true)(e:QB cl X (.Name x xpos) (vk i)<|pV i)(a:QG cl (i::pm) X tg t g)(b:QSs cl (i::pm) X body ts f)
  (hs:∀ z,foldedSetIterable (.Name x xpos) X.env z=pure z:=by intro _;rfl):QS cl pm X (.For tg (.Name x xpos) body [] pos) (jfs (jcq X.K<|vk i) t ts) (QM i g f):=
 ⟨jaD c d (xy e.sem) a.sem b.sem hs,jgU a.den b.den λ_ _=>trivial⟩
end
@[simp] def pV0:pV 0 (o::ρ)=o:=by unfold pV;cases o<;>rfl
@[simp] def pVs:pV (i+1) (o::ρ)=pV i ρ:=rfl
@[simp] def gN_e:gN [] ρ=some ρ:=rfl
@[simp] def gC_e:gC G Gs (d::r) ρ=(G d ρ).bind λρ1=>Gs r ρ1:=rfl
@[simp] def gT_e:gT n Gs (.tup l) ρ=bif decide (l.length=n) then Gs l ρ else none:=rfl
@[simp] def itB_lst(o)(l):itB (.lst o l)=bif frzs l then some l else none:=rfl
@[simp] def itB_tup(l):itB (.tup l)=bif frzs l then some l else none:=rfl
@[simp] def itB_str(l):itB (.str l)=some (l.map λc=>D.str [c]):=rfl
@[simp] def enumOf_e(o)(l):J9 [.lst o l]=some (yC 0<|fzs l):=rfl
def jaC(h:-(2 ^ 62)<j)(k:j<2 ^ 62):xr j=true:=Nat.ble_eq_true_of_le (by lia)
def kU(h:-(2 ^ 62)<j)(k:j<2 ^ 62):je2 [.int j]=some (YN 0 j.toNat):=by
 show(bif xr j then some (YN 0 j.toNat) else none)=_;rw[jaC h k];rfl
def jE(n)(f)(ds):fnP n f ds=(f<|ds.map some++List.replicate (n-ds.length) none).bind Out.val:=rfl
@[simp] def sLoop_nil:yU G f [] ρ=some (.nx ρ):=rfl
def yb:yU G f (x::xs) ρ=(G x ρ).bind λr=>(f r).bind λo=>o.loop (yU G f xs):=rfl
@[simp] def cLoop_nil:jS G q p [] ρ=some []:=rfl
def jD:jS G q p (x::xs) ρ=(G x ρ).bind λr=>(q r).bind λb=>bif b then((p r).bind λy=>(jS G q p xs r).bind λys=>some<|y::ys) else jS G q p xs r:=rfl
def yS(P:Nat->Rh->Prop)(step:∀ i x ρ,xs[i]?=some x->P i ρ->∃ ρ1 ρ2,G x ρ=some ρ1/\(f ρ1=some (.nx ρ2)\/f ρ1=some (.ct ρ2))/\P (i+1) ρ2)  (h0:P 0 ρ):
  ∃ ρ',yU G f xs ρ=some (.nx ρ')/\P xs.length ρ':=by
 have c:∀ n i ρ,xs.length-i=n->i<=xs.length->P i ρ->∃ ρ',yU G f (xs.drop i) ρ=some (.nx ρ')/\P xs.length ρ':=by
  intro n
  induction n with
  | zero=>
   intro i ρ e g p;have:i=xs.length:=by lia
   subst this;exact⟨ρ,by rw[List.drop_length];rfl,p⟩
  | succ n h=>
   intro i ρ e g p;have a:i<xs.length:=by lia
   have d:xs[i]?=some xs[i]:=by simp[a]
   obtain⟨ρ1,ρ2,j,b,p2⟩:=step i _ ρ d p;obtain⟨ρ',k,p3⟩:=h (i+1) ρ2 (by lia) a p2;refine⟨ρ',?_,p3⟩;rw[kM d,yb,j];rcases b with b | b<;>simp[b,k]
 exact c _ 0 ρ rfl (U5 _) h0
def jbQ(P:Nat->Rh->Prop)(hl:∀ j ρ,P j ρ->pV i ρ=some (.lst o l))
  (step:∀ j x ρ,l[j]?=some x->P j ρ->frz x=true/\∃ ρ1 ρ2,G x ρ=some ρ1/\(f ρ1=some (.nx ρ2)\/f ρ1=some (.ct ρ2))/\P (j+1) ρ2)  (h0:P 0 ρ):
  ∃ ρ',QM i G f ρ=some (.nx ρ')/\P l.length ρ':=by
 have at_:∀ j ρ,P j ρ->ρ[i]?=some (some<|.lst o l):=by
  intro j ρ p;have h:=hl j ρ p;unfold pV at h;split at h
  ·rename_i d hd;cases h;exact hd
  ·cases h
 have c:∀ n j ρ,l.length-j=n->j<=l.length->P j ρ->∃ ρ',Jo i G f (n+1) j ρ=some (.nx ρ')/\P l.length ρ':=by
  intro n
  induction n with
  | zero=>
   intro j ρ k m p;have:j=l.length:=by lia
   subst this;refine⟨ρ,?_,p⟩;unfold Jo;rw[at_ _ ρ p];simp
  | succ n q=>
   intro j ρ k m p;have a:j<l.length:=by lia
   have g:l[j]?=some l[j]:=by simp[a]
   obtain⟨r,ρ1,ρ2,s,b,p2⟩:=step j _ ρ g p;obtain⟨ρ',t,p3⟩:=q (j+1) ρ2 (by lia) a p2;refine⟨ρ',?_,p3⟩;unfold Jo;rw[at_ _ ρ p];dsimp only;rw[g];dsimp only;rw[r,cond_true,s];rcases b with b | b<;>simp[b,t]
 obtain⟨ρ',e,p⟩:=c _ 0 ρ rfl (U5 _) h0;refine⟨ρ',?_,p⟩;unfold QM;rw[at_ _ ρ h0];simpa using e
def jbe{G}{xs}{l:List α}{en}{out}(a:xs=l.map en)(P:Rh->Prop)(step:∀ x∈l,∀ ρ,P ρ->∃ ρ1,G (en x) ρ=some ρ1/\p ρ1=some (out x)/\P ρ1){ρ}(h0:P ρ):jS G qT p xs ρ=some (l.map out):=by
 subst a
 induction l generalizing ρ with
 | nil=>rfl
 | cons x l b=>
  obtain⟨ρ1,c,d,p1⟩:=step x L7 ρ h0;rw[L5,jD,c];simp[d,b (λy e=>step y<|L6 _ e) p1]
@[simp] def cond_dec(p) [Decidable p] (x y:α):(bif decide p then x else y)=if p then x else y:=by by_cases h:p<;>simp[h]
@[simp] def cond_beq_int(i j:Int)(x y:α):(bif i==j then x else y)=if i=j then x else y:=by
 by_cases h:i=j
 ·subst h;simp
 ·rw[if_neg h,U2.mpr h];rfl
@[simp] def ite_bind(p) [Decidable p] (x y:Option α) (f:α->Option β):(if p then x else y).bind f=if p then x.bind f else y.bind f:=by by_cases h:p<;>simp[h]
@[simp] def add_ii(i j):jz (.int i) (.int j)=some (.int<|i+j):=rfl
@[simp] def sub_ii(i j):jdy (.int i) (.int j)=some (.int<|i-j):=rfl
def vS(h:i.natAbs<2 ^ 1000)(k:j.natAbs<2 ^ 1000):yP (.int i) (.int j)=some (.int<|i*j):=by
 show(bif jjB i&&jjB j then some (D.int<|i*j) else none)=_;rw[uG h,uG k];rfl
def jJ(h:0<j)(k:j<2 ^ 300):jC (.int i) (.int j)=some (.int<|i/j):=by
 show(bif decide (0<j)&&decide (j<2 ^ 300) then some (D.int<|i/j) else none)=_;rw[X1 h,X1 k];rfl
def jr(h:0<j):js (.int i) (.int j)=some (.int<|i%j):=by
 show(bif decide (0<j) then some (D.int<|i%j) else none)=_;rw[X1 h];rfl
@[simp] def opB_ii(g)(i j):opB g (.int i) (.int j)=some (.bl<|g i j):=rfl
@[simp] def eq_ii(i j):vy (.int i) (.int j)=some (.bl<|i==j):=rfl
@[simp] def ne_ii(i j):wM (.int i) (.int j)=some (.bl<|!(i==j)):=rfl
@[simp] def ji8(g)(i j):f2I g [.int i,.int j]=some (.int<|g i j):=rfl
@[simp] def frz_int(i):frz (.int i)=true:=rfl
@[simp] def frz_bl(i):frz (.bl i)=true:=rfl
@[simp] def frz_str(i):frz (.str i)=true:=rfl
@[simp] def frz_non:frz .non=true:=rfl
@[simp] def fz_int(i):fz (.int i)=.int i:=rfl
@[simp] def fz_bl(i):fz (.bl i)=.bl i:=rfl
@[simp] def fz_str(i):fz (.str i)=.str i:=rfl
@[simp] def fz_non:fz .non=.non:=rfl
@[simp] def fz_lst(o)(l):fz (.lst o l)=.lst false (fzs l):=rfl
@[simp] def fz_tup(l):fz (.tup l)=.tup (fzs l):=rfl
@[simp] def frz_lst(o)(l):frz (.lst o l)=(!o&&frzs l):=rfl
@[simp] def frz_tup(l):frz (.tup l)=frzs l:=rfl
@[simp] def fzs_nil:fzs []=[]:=rfl
@[simp] def fzs_cons(d)(l):fzs (d::l)=fz d::fzs l:=rfl
@[simp] def frzs_nil:frzs []=true:=rfl
@[simp] def qY(d)(l):frzs (d::l)=(frz d&&frzs l):=rfl
@[simp] def clean_int(i):yx (.int i)=true:=rfl
@[simp] def clean_bl(i):yx (.bl i)=true:=rfl
@[simp] def clean_str(i):yx (.str i)=true:=rfl
@[simp] def clean_non:yx .non=true:=rfl
@[simp] def clean_lst(o)(l):yx (.lst o l)=(o&&jw l):=rfl
@[simp] def clean_tup(l):yx (.tup l)=jw l:=rfl
@[simp] def cleans_nil:jw []=true:=rfl
@[simp] def cleans_cons(d)(l):jw (d::l)=(yx d&&jw l):=rfl
@[simp] def fzs_ints(l:List Int):fzs (l.map D.int)=l.map D.int:=by
 rw[v8,U1];rfl
@[simp] def frzs_ints(l:List Int):frzs (l.map D.int)=true:=by
 rw[qN,List.all_map,List.all_eq_true];intro x _;rfl
theorem jU:∀ l:List D,jw l=l.all yx
 | []=>rfl
 | d::l=>by rw[jw,jU l];rfl
@[simp] def cleans_ints(l:List Int):jw (l.map D.int)=true:=by
 rw[jU,List.all_map,List.all_eq_true];intro x _;rfl
@[simp] def intsD_ints(l):Kf (l.map D.int)=some l:=by
 induction l with
 | nil=>rfl
 | cons x l a=>show(Kf<|l.map D.int).bind _=_;rw[a];rfl
@[simp] def boolsD_bools(l):kj (l.map D.bl)=some l:=by
 induction l with
 | nil=>rfl
 | cons x l a=>show(kj<|l.map D.bl).bind _=_;rw[a];rfl
@[simp] def fSum_lst(o)(l):jh3 [.lst o l]=(Kf l).bind λns=>some (.int ns.sum):=rfl
@[simp] def fLen_lst(o)(l):yE [.lst o l]=some (.int l.length):=rfl
@[simp] def fLen_tup(l):yE [.tup l]=some (.int l.length):=rfl
@[simp] def fList_lst(o)(l):jbW [.lst o l]=bif frzs l then some (.lst true l) else none:=rfl
@[simp] def itemsOf_lst(o)(l):Je (.lst o l)=some (fzs l):=rfl
@[simp] def itemsOf_tup(l):Je (.tup l)=some (fzs l):=rfl
@[simp] def tyD_int(i):tyD (.int i)=some "int":=rfl
@[simp] def tyD_bl(i):tyD (.bl i)=some "bool":=rfl
@[simp] def tyD_str(i):tyD (.str i)=some "str":=rfl
@[simp] def tyD_non:tyD .non=some "NoneType":=rfl
@[simp] def tyD_lst(o)(l):tyD (.lst o l)=some "list":=rfl
@[simp] def tyD_tup(l):tyD (.tup l)=some "tuple":=rfl
end QD
namespace L2
open PySem PySem.Spec PyProof.Rows
end L2
namespace QD
open PySem L2 PySem.Spec PyProof.Rows
section
variable {R:RC}{Z:Zn}{H:Hp}
def qr(a b:List Nat):Int:=Txt.find (S a)<|S b
end
section
variable {cl:Nat->Addr}{X:Cx}{o e:Expr}{es:List Expr}{to:TE}{po:PF}{tr:TA}{pr:PAf}{name:Str}{apos cpos:Pos}{T id:String}{r:V->List V->Hp->VK->Prop}{g:D->List D->Option D}
def jl0(pa:PlainAttrs T)(slot:Slot T name id)(f:typeOf (.builtin id)=pure (.type "method_descriptor"))(hm:MtR X id r)(j:BM ⟨X.K,cl⟩ T r g)(h:QB cl X o to po)(i:QBs cl X (e::es) tr pr)
  (b:attributeBase o name X.env (eval o X.env)=eval o X.env:=by rfl)
  (d:((backTo cpos<|starEach (e::es) X.env).all (λx=>!x.1)&&(backToKw cpos<|keywordEach [] X.env).all (λx=>x.1.isSome)
   && decide ((e::es).length+([]:List Keyword).length+(if([]:List Keyword).isEmpty then 0 else 1)<30))=true:=by rfl)
  (c:(apos.endLine==cpos.line)=true:=by rfl) (hs:SEq X e es:=by rfl) (a:BkE X cpos es:=by rfl):
  QP cl X (.Call (.Attribute o name apos) (e::es) [] cpos) (tBM X.K T r to tr) (pBM T g po pr):=
 ⟨jaW pa slot f hm h.sem i.sem b d c hs a,jlA j h.den i.den⟩
end
@[simp] def isT_str(w):isT "str" (.str w)=true:=rfl
end QD
namespace QK
open PySem L2 QD PySem.Spec PyProof.Rows
section
variable {cl:Nat->Addr}{pm:List Nat}{X:Cx}{a b c e o:Expr}{es:List Expr}{ta tb tc te to:TE}{pa pb pc pe po:PF}{tr:TA}{pr:PAf}{pos:Pos}{K:W3}
variable {tg iter elt:Expr}{ifs:List Expr}{wi:TI}{pi:PAf}{t:TG}{g:D->Rh->Option Rh}
def add(c:X.K=K)(d:QB cl X a ta pa)(e:QB cl X b tb pb):QP cl X (.BinOp a .Add b pos) (tOp (jdo K) ta tb) (p2 jz pa pb):=by subst c;exact jfg d e
def ix(c:X.K=K)(d:QB cl X a ta pa)(e:QB cl X b tb pb)(hs:Yq b:=by exact λ_ _=>rfl):QB cl X (.Subscript a b pos) (tOp (rIx K) ta tb) (p2 jq pa pb):=by subst c;exact jkP d e hs
def call{k n}{ps}{m}{x}{st}{p}(c:X.K=K)(O:OkF X.prog X.w X.K X.mg x st k ps<|spP ⟨X.K,cl⟩ m n)(d:Room k X.A)
  (f:QBs cl X (e::es) tr pr) (hn:(e::es).length=n:=by rfl) (g:Gl X x:=by rfl) (a:Nd x:=by decide)
  (h:SEq X e es:=by rfl) (b:BkE X pos es:=by rfl):QP cl X (.Call (.Name x p) (e::es) [] pos) (JA (spP ⟨K,cl⟩ m n) [] E0 tr) (jL m pr):=by
 subst c;exact jad O d f hn g a h b
theorem len(b:X.K=K)(hm:X.mg "len" = none){p}(c:QBs cl X [e] tr pr)(d:Gl X "len":=by rfl)(f:starEach [e] X.env=(false,eval e X.env)::starEach [] X.env:=by rfl)(a:(backTo pos<|starEach [] X.env).any (·.1)=false:=by rfl):
  QP cl X (.Call (.Name "len" p) [e] [] pos) (tCB (λxs H Q=>∃ x n,xs=[x]/\jkr K x H n/\Q (.int n) H) tr) (pCB yE pr):=by subst b;exact jf3 hm c d f a
def isI{T}{x}{p p1}(h:X.K=K)(i:T∈["bool","int","str","tuple","list","dict"])(hm:X.mg "isinstance" = none)(c:X.mg x=none)(d:bootBuiltins x=some (.type T))(j:QB cl X a ta pa)(k:Gl X "isinstance":=by rfl)(e:Gl X x:=by rfl)
  (hn:x≠"__name__":=by decide) (f:Nd x:=by decide) (l:starEach [a,.Name x p1] X.env=(false,eval a X.env)::starEach [.Name x p1] X.env:=by rfl) (g:(backTo pos<|starEach [.Name x p1] X.env).any (·.1)=false:=by rfl)
  (h1:starEach [.Name x p1] X.env=(false,eval (.Name x p1) X.env)::starEach [] X.env:=by rfl):
  QP cl X (.Call (.Name "isinstance" p) [a,.Name x p1] [] pos) (tCB (λxs H Q=>∃ x T t b,xs=[x,.ty T]/\TyQ K H x t/\PySem.W.kitOne K (.type t) (.type T)=some b/\Q (.bl b) H)<|yW ta<|yW (tC<|.ty T) JB) (YF T pa):=by
 subst h;exact YJ i hm c d j k e hn f l g h1
theorem c_notin(a:X.K=K)(hm:behindInMarks .NotIn b=false):CmpR cl X .NotIn b (jhU K true) (V6 true):=by subst a;exact QD.c_notin hm
def g_tup{ts}{b}{k n}(c:X.K=K)(d:X.calm=true)(h:QGs cl pm X es ts b)(hn:(assignEach es X.env).length=n:=by rfl)(a:(assignEach es X.env).findIdx? (·.1)=none:=by rfl):QG cl pm X (.Tuple es k pos) (jhQ K n ts) (gT n b):=by subst c;exact jay d h hn a
end
end QK
namespace QD
open PySem L2 PySem.Spec PyProof.Rows
structure QGo(cl:Nat->Addr)(pm:List Nat)(X:Cx)(tg:Expr)(t:TG)(g:D->Rh->Option Rh):Prop where
 sem:PG X tg t
 den:DG ⟨X.K,cl⟩ pm t g
structure QGos(cl:Nat->Addr)(pm:List Nat)(X:Cx)(tg:List Expr)(t:TGs)(g:List D->Rh->Option Rh):Prop where
 sem:PGs X tg t
 den:DGs ⟨X.K,cl⟩ pm t g
def Vw(a:X.N.Nodup)(hi:X.N[i]?=some x:=by rfl)(b:Loc X.env.scope x:=by first | exact Or.inl rfl | exact Or.inr rfl)(c:X.fn x=true\/X.env.scope.names.lookup x=some .local:=by first | exact .inl rfl | exact .inr rfl):
  QGo cl pm X (.Name x pos) (Jj i) (jd pm i):=⟨jbl a hi b c,Vv⟩
def jb4:QGos cl pm X [] jjL gN:=⟨jaP,jgR⟩
def xz(h1:QGo cl pm X e t g)(h2:QGos cl pm X es ts gs)(hs:(assignEach (e::es) X.env).map (·.2)=assign e X.env::(assignEach es X.env).map (·.2):=by rfl):QGos cl pm X (e::es) (jbI t ts) (gC g gs):=⟨xj h1.sem h2.sem hs,jcJ h1.den h2.den⟩
def jeG(b:X.calm=true)(h:QGos cl pm X es ts gs)(hn:(assignEach es X.env).length=n:=by rfl)(a:(assignEach es X.env).findIdx? (·.1)=none:=by rfl):QGo cl pm X (.Tuple es k pos) (jhQ X.K n ts) (gT n gs):=⟨je6 b h.sem hn a,jjp h.den⟩
section
variable {R:RC}{Z Z':Zn}{H H':Hp}{pm:List Nat}
noncomputable def kC:D->Option KA
 | .int i=>some<|.int i
 | .str s=>some<|.str s
 | _=>none
def yR(e:kC d=some k)(r:Rep R Z H d v O):v=kV (kaV k)/\O=[]:=by
 cases d with
 | int i=>cases e;rw[Rep] at r;exact r
 | str s=>cases e;rw[Rep] at r;exact r
 | _=>cases e
def V2(h:kaV a=kaV b):a=b:=by
 cases a<;>cases b<;>simp only[kaV] at h
 ·cases h;rfl
 ·cases h
 ·cases h
 ·have:=jhz<|Sum.inr.inj h;rw[this]
noncomputable def JQ:List KA->List D->KA->Option D
 | k::ks,d::l,a=>if k=a then some d else JQ ks l a
 | _,_,_=>none
theorem kQ:∀{ks}{l}{vs}{O}{a},Reps R Z H l vs O->ks.length=l.length ->
  (∀ d,JQ ks l a=some d->∃ v P,Qc ((ks.map kaV).zip vs) (kaV a)=some v/\Rep R Z H d v P)/\(JQ ks l a=none->Qc ((ks.map kaV).zip vs) (kaV a)=none)
 | [],l,vs,O,a,r,hl=>⟨λd e=>(by cases l<;>cases e),λ_=>rfl⟩
 | k::ks,[],vs,O,a,r,hl=>by simp at hl
 | k::ks,x::l,vs,O,a,r,hl=>by
  obtain⟨v,b,O1,O2,rfl,rfl,c,f⟩:=r;by_cases e:k=a
  ·subst e;refine⟨λd h=>?_,λh=>?_⟩
   ·simp only[JQ,if_true] at h;cases h;exact⟨v,O1,JO rfl,c⟩
   ·simp[JQ] at h
  ·have g:=λz=>e<|V2 z;have q:Qc (((k::ks).map kaV).zip (v::b)) (kaV a)=Qc ((ks.map kaV).zip b) (kaV a):=JH g;rw[q];simp only[JQ,if_neg e];exact(kQ (a:=a) f ⇑hl)
def DkA.rd(h:DkA o H a kvs):Rd H a (.dK kvs):=by
 cases o with
 | true=>exact .inl h
 | false=>exact h
def DGet.r(e:Rd H a<|.dK kvs):DGet H a (kV k) (Qc kvs k):=.inl ⟨kvs,k,e,rfl,rfl⟩
def Rep.dK_of(r:Rep R Z H (.dK o ks l) v O):Ex3 λa vs O'=>An4 (v=.ref a) (Rd H a<|.dK<|(ks.map kaV).zip vs) (Reps R Z H l vs O') (ks.length=l.length):=by
 obtain⟨a,vs,O',rfl,b,hl,c,_⟩:=r;exact⟨a,vs,O',rfl,c.rd,b,hl⟩
def jhM:PP R jaZ (pC<|.dK true [] []):=by
 intro σ ρ Z H O d z s e Q k;cases e;intro p a;exact k (Go.newO (wf0 z) a) ⟨p,[],[],rfl,.empty,rfl,jk,rfl⟩
def vU:D->D->Option D
 | .dK _ ks l,y=>(kC y).bind λk=>JQ ks l k
 | _,_=>none
def jhg(f:PB R td pa)(g:PB R ty pb):PB R (jgP td ty) (p2 vU pa pb):=by
 intro σ ρ Z H O d z s e Q k;refine ob e λx h e=>ob e λy i e=>(f z s h λ{v B C P1} b j=>(g b.wf.zd (b.slots z s) i λ{u D E P2} c m=>?_));cases x with
 | dK o F l=>
  refine ob e λa n e=>?_;obtain⟨p,vs,G,rfl,q,t,hl⟩:=(c.rep b.wf.zd j).dK_of;obtain⟨rfl,_⟩:=yR n m;obtain⟨w,P,A,rw⟩:=(kQ t hl).1 d e;exact⟨p,w,rfl,A▸DGet.r q,k (b.pair c) rw⟩
 | _=>cases e
def KQ(x y z:D):Option D:=match x with
 | .dK _ ks l=>(kC y).bind λk=>some<|(JQ ks l k).getD z
 | _=>none
@[simp] def p3(g:D->D->D->Option D)(pa:PF)(pb:PF)(pc:PF)(ρ:Rh):Option D:=(pa ρ).bind λx=>(pb ρ).bind λy=>(pc ρ).bind λz=>g x y z
def jdZ(q:PB R td pa)(A:PB R ty pb)(B:PB R tx pc):PB R (u9 td ty tx) (p3 KQ pa pb pc):=by
 intro σ ρ Z H O d z s e Q k;refine ob e λx C e=>ob e λy D e=>ob e λc E e=>?_;cases x with
 | dK o F l=>
  refine ob e λa G e=>?_;cases e;refine q z s C λ{v T U P1} i n=>?_;obtain⟨p,vs,V,rfl,I,W,hl⟩:=n.dK_of;refine⟨p,rfl,.inl ⟨_,I⟩,(A i.wf.zd (i.slots z s) D λ{u X Y P2} j J=>?_)⟩;have b:=i.pair j;refine B j.wf.zd (b.slots z s) E λ{t Z3 H3 P3} m K=>?_;obtain⟨p',L,M,N,f,g,h,_⟩:=((j.pair m).rep i.wf.zd n);cases N;obtain⟨rfl,_⟩:=yR G J;cases ev:JQ F l a with
  | none=>exact⟨none,(kQ f g).2 ev▸DGet.r h.rd,k (b.pair m)<|by rw[ev];exact K⟩
  | some d=>
   obtain⟨w,P,S,rw⟩:=(kQ f g).1 d ev;exact⟨some w,S▸DGet.r h.rd,k (b.pair m)<|by rw[ev];exact rw⟩
 | _=>cases e
def YK(neg:Bool)(y x:D):Option D:=match x with
 | .dK _ ks l=>(kC y).bind λk=>some<|.bl<|neg != (JQ ks l k).isSome
 | _=>none
def jdL{td ty}{pa pb}{neg}(h:PB R ty pa)(i:PB R td pb){σ}{ρ}{Z}{H}{O}{d}(z:Zd Z H)(s:Slots R Z H ρ σ O)(e:p2 (YK neg) pa pb ρ=some d)
  {Q:VK}(k:∀{v}{Z'}{H'}{P},Go Z H [] Z' H' P->Rep R Z' H' d v P->Q v H'):ty σ H λy H1=>td σ H1 λx H2=>∃ a o,x=.ref a/\DGet H2 a y o/\Q (.bl<|neg != o.isSome) H2:=by
 refine ob e λy j e=>ob e λx m e=>(h z s j λ{v D H1 P1} b n=>(i b.wf.zd (b.slots z s) m λ{u E H2 P2} c q=>?_));cases x with
 | dK o t l=>
  refine ob e λa A e=>?_;cases e;obtain⟨p,vs,F,rfl,f,g,hl⟩:=q.dK_of;obtain⟨rfl,_⟩:=yR A n;cases ev:JQ t l a with
  | none=>
   refine⟨p,none,rfl,(kQ g hl).2 ev▸DGet.r f,k (b.pair c) ?_⟩;rw[ev];exact .bl_mk
  | some d=>
   obtain⟨w,P,B,C⟩:=(kQ g hl).1 d ev;refine⟨p,some w,rfl,B▸DGet.r f,k (b.pair c) ?_⟩;rw[ev];exact .bl_mk
 | _=>cases e
def uT{td ty}{pa pb}(a:PB R ty pa)(b:PB R td pb):PP R (VI ty td) (p2 (YK true) pa pb):=λz s e _ k=>by
 have:=jdL a b z s e k;simpa [VI] using this
noncomputable def jbi:List KA->List D->KA->D->List D
 | k::ks,x::l,a,d=>(if k=a then d else x)::jbi ks l a d
 | _,_,_,_=>[]
theorem xx:∀{ks}{l} a d,ks.length=l.length->(jbi ks l a d).length=l.length
 | [],[],_,_,_=>rfl
 | [],_::_,_,_,h=>by simp at h
 | _::_,[],_,_,h=>by simp at h
 | k::ks,x::l,a,d,h=>by rw[jbi,M1,M1,xx a d ⇑h]
theorem xY(rd:Rep R Z H d v [])(a):∀{ks}{l}{vs}{O},Reps R Z H l vs O->ks.length=l.length ->
  Ex2 λvs2 O2=>An3 (Reps R Z H (jbi ks l a d) vs2 O2) ((ks.map kaV).zip vs2=((ks.map kaV).zip vs).map (λkv=>if kv.1=kaV a then(kv.1,v) else kv))<|O2.Sublist O
 | [],[],vs,O,r,hl=>by
  obtain⟨rfl,rfl⟩:=r;exact⟨[],[],.empty,rfl,.slnil⟩
 | [],_::_,_,_,_,h=>by simp at h
 | _::_,[],_,_,_,h=>by simp at h
 | k::ks,x::l,vs,O,r,hl=>by
  obtain⟨w,i,O1,O2,rfl,rfl,j,m⟩:=r;obtain⟨b,P2,c,f,g⟩:=xY rd a m ⇑hl;by_cases e:k=a
  ·subst e;refine⟨v::b,[]++P2,?_,?_,(g.trans<|List.sublist_append_right _ _)⟩
   ·rw[jbi,if_pos rfl];exact Reps.cons rd c
   ·simp only[L5,U7,if_true,f]
  ·have n:=λz=>e<|V2 z;refine⟨w::b,O1++P2,?_,?_,(List.Sublist.append (List.Sublist.refl _) g)⟩
   ·rw[jbi,if_neg e];exact Reps.cons j c
   ·simp only[L5,U7,if_neg n,f]
theorem Q0(a):∀{ks:List KA}{vs:List V},ks.length=vs.length->(((ks.map kaV).zip vs).any λkv=>decide<|kv.1=kaV a)=decide (a∈ks)
 | [],vs,_=>by simp
 | k::ks,[],h=>by simp at h
 | k::ks,v::vs,h=>by
  rw[L5,U7,List.any_cons,Q0 a ⇑h];by_cases e:k=a
  ·subst e;simp
  ·have b:¬ (kaV k=kaV a):=λz=>e<|V2 z;have c:¬ (a=k):=λz=>e z.symm;simp[b,c]
def vT(ks:List KA)(l:List D)(a:KA)(d:D):List KA×List D:=if a∈ks then(ks,jbi ks l a d) else(ks++[a],l++[d])
def VU(rd:Rep R Z H d v [])(a)  (r:Reps R Z H l vs O) (hl:ks.length=l.length):
  Ex2 λvs2 O2=>An4 (Reps R Z H (vT ks l a d).2 vs2 O2) ((((vT ks l a d).1).map kaV).zip vs2=Jd ((ks.map kaV).zip vs) (kaV a) v) (O2.Sublist O) ((vT ks l a d).1.length=(vT ks l a d).2.length):=by
 have b:ks.length=vs.length:=by rw[r.length];exact hl
 unfold vT Jd;rw[Q0 a b];by_cases e:a∈ks
 ·rw[if_pos e,X1 e,if_pos rfl];obtain⟨c,P,f,g,h⟩:=xY rd a r hl;exact⟨c,P,f,g,h,by rw[xx a d hl];exact hl⟩
 ·rw[if_neg e,X2 e,if_neg<|λz=>(nomatch z)];refine⟨vs++[v],O++[],r.append<|Reps.one rd,?_,by simp,by simp[hl]⟩;rw[N5,List.zip_append ⇑b];rfl
@[simp] def jgD(i:Nat)(pk:PF)(pv:PF)(ρ:Rh):Option Out:=(pv ρ).bind λd=>(pV i ρ).bind λx=>(jen x).bind λp=>(pk ρ).bind λy=>(kC y).bind λa=>bif frz d&&lim p.1.length then some (.nx<|ρ.set i<|some<|.dK true (vT p.1 p.2 a d).1 (vT p.1 p.2 a d).2) else none
def Q3{ks:List α}{vs:List V}{f:α->β}(h:lim ks.length=true):((ks.map f).zip vs).length<sizeLine:=by rw[List.length_zip,L1];exact E1 (Nat.min_le_left _ _)<|Ki h
def jf7{i}{ty tv}{pk pv}(q:PB R ty pk)(r:PB R tv pv):DS R pm (Qr (vk i) ty tv) (jgD i pk pv):=by
 intro σ ρ Z H O o w s e L k;refine ob e λd v e=>ob e λx hl e=>ob e λ⟨M,l⟩ g e=>ob e λy z e=>ob e λc A e=>oc e λhm e=>?_;cases e;cases jb2 g;rw[M0] at hm;refine r w.zd s v λ{u N P P1} b m=>?_;cases m.nil hm.1;have n:=b.slots w.zd s;have p:=b.widen w;refine qG YM p.wf n hl rfl jcT λa _ vs Q B h C D put=>D<|q b.wf.zd n z λ{t S T P2} f E=>?_;obtain⟨rfl,_⟩:=yR A E;obtain⟨F,O2,G,g,I,j⟩:=VU (f.rep b.wf.zd m) c (f.reps b.wf.zd B) h;obtain⟨U,J,K⟩:=put jcT j f G ⇑I.count_le;refine⟨a,_,rfl,DPut.k (f.at0 C)<|Q3 hm.2,?_⟩;rw[<- g];exact k (p.trans J) K<|Keep.refl _ _
end
def jd9:QP cl X (.Dict [] [] pos) jaZ (pC<|.dK true [] []):=⟨jdG,jhM⟩
def je4(e:Room k X.A)(c:QB cl X a ta pa)(d:QB cl X b tb pb)(hs:jk9 b:=by exact λ_ _=>rfl):QB cl X (.Subscript a b pos) (jgP ta tb) (p2 vU pa pb):=⟨jhx (wD e) c.sem d.sem hs,jhg c.den d.den⟩
def jbu(d:Room k X.A)(a:QB cl X o to po)(b:QB cl X e te pe)(c:QB cl X f tf pf)(m:M2 X o "get" apos e f cpos:=by exact⟨rfl,rfl,rfl,rfl⟩):
  QB cl X (.Call (.Attribute o "get" apos) [e,f] [] cpos) (u9 to te tf) (p3 KQ po pe pf):=⟨jcE (wD d) a.sem b.sem c.sem m,jdZ a.den b.den c.den⟩
def jac(d:Room k X.A)(f:QB cl X (.Name x xpos) (vk i)<|pV i)(a:QB cl X b tb pb)(c:QB cl X e te pe)(hs:swapsWith e (some<|.Subscript (.Name x xpos) b pos') pos.line X.env=pure false:=by rfl):
  QS cl pm X (.Assign [.Subscript (.Name x xpos) b pos'] e pos) (Qr (vk i) tb te) (jgD i pb pe):=⟨Q5 (wD d) f.sem a.sem c.sem hs,jf7 a.den c.den⟩
@[simp] def keyOf_int(i):kC (.int i)=some (.int i):=rfl
@[simp] def jbk(s):kC (.str s)=some (.str s):=rfl
@[simp] def opDIx_e(o)(ks)(l)(y):vU (.dK o ks l) y=(kC y).bind λk=>JQ ks l k:=rfl
@[simp] def jcS(o)(ks)(l)(y z):KQ (.dK o ks l) y z=(kC y).bind λk=>some ((JQ ks l k).getD z):=rfl
@[simp] def opDIn_e(neg o)(ks)(l)(y):YK neg y (.dK o ks l)=(kC y).bind λk=>some (.bl<|neg != (JQ ks l k).isSome):=rfl
def qE:List D->Option (List<|KA×D)
 | []=>some []
 | .tup [k,v]::l=>(kC k).bind λa=>(qE l).bind λr=>some<|(a,v)::r
 | _::_=>none
def kx(ps:List<|KA×D):List KA×List D:=ps.foldl (λacc kv=>vT acc.1 acc.2 kv.1 kv.2) ([],[])
def jfX:List D->Option D
 | [.lst _ l]=>(qE l).bind λps=>bif frzs (ps.map (·.2))&&lim ps.length then some (.dK true (kx ps).1 (kx ps).2) else none
 | _=>none
def wH:∀{l}{ps}{ys}{O},qE l=some ps->Reps R Z H l ys O->frzs (ps.map (·.2))=true ->
  ∃(ws:List V),An3 (Reps R Z H (ps.map (·.2)) ws []) (ys.length=ps.length) (∀(j:Nat) y,ys[j]?=some y->∃ kv t,((ps.map λp=>kaV p.1).zip ws)[j]?=some kv/\y=.ref t/\SqT R.K H t [kV kv.1,kv.2]):=by
 intro l
 induction l with
 | nil=>
  intro ps ys O e r b;cases e;obtain⟨rfl,rfl⟩:=r;exact⟨[],.empty,rfl,λj y c=>by simp at c⟩
 | cons d l h=>
  intro ps ys O e r b
  match d,e with
  | .tup [k,v],e=>
   refine ob e λa i e=>ob e λm n e=>?_;cases e;obtain⟨D,o,O1,O2,rfl,rfl,s,x⟩:=r;rw[L5,qY,M0] at b;obtain⟨ws,f,hl,q⟩:=h n x b.2;obtain⟨t,vs,rfl,z,A⟩:=s;obtain⟨u,w,P1,P2,rfl,-,B,g⟩:=A.two_of;obtain⟨rfl,_⟩:=yR i B;have C:=g.nil b.1;subst C;refine⟨w::ws,Reps.cons g f,by simp[hl],λj y c=>?_⟩;cases j with
   | zero=>
    cases c;exact⟨(kaV a,w),t,rfl,rfl,z.sq⟩
   | succ j=>exact q j y ⇑c
def KM:∀{ps:List (KA×D)}{ws}{ks}{l}{us},Reps R Z H (ps.map (·.2)) ws []->Reps R Z H l us []->ks.length=l.length ->
  ∃ us',An3 (Reps R Z H (ps.foldl (λacc kv=>vT acc.1 acc.2 kv.1 kv.2) (ks,l)).2 us' []) ((((ps.foldl (λacc kv=>vT acc.1 acc.2 kv.1 kv.2) (ks,l)).1).map kaV).zip us'=(((ps.map λp=>kaV p.1).zip ws).foldl (λa kv=>Jd a kv.1 kv.2) ((ks.map kaV).zip us))) ((ps.foldl (λacc kv=>vT acc.1 acc.2 kv.1 kv.2) (ks,l)).1.length=(ps.foldl (λacc kv=>vT acc.1 acc.2 kv.1 kv.2) (ks,l)).2.length):=by
 intro ps
 induction ps with
 | nil=>
  intro ws ks l us b r hl;exact⟨us,r,by simp,hl⟩
 | cons p ps f=>
  intro ws ks l us b r hl;obtain⟨w,g,O1,O2,rfl,e,h,i⟩:=b;obtain⟨rfl,rfl⟩:=List.append_eq_nil_iff.mp e.symm;obtain⟨j,s,k,m,n,c⟩:=VU h p.1 r hl;have:=List.sublist_nil.mp n;subst this;obtain⟨us',o,q,d⟩:=f i k c;refine⟨us',o,?_,d⟩;rw[L5,U7,X0,X0,q,m]
@[simp] def jfV(o)(l):jfX [.lst o l]=(qE l).bind λps=>bif frzs (ps.map (·.2))&&lim ps.length then some (.dK true (kx ps).1 (kx ps).2) else none:=rfl
end QD
namespace QK
open PySem L2 QD PySem.Spec PyProof.Rows
end QK
namespace QD
open PySem L2 PySem.Spec PyProof.Rows
end QD
namespace L2
open PySem PySem.Spec PyProof.Rows
end L2
namespace QD
open PySem L2 PySem.Spec PyProof.Rows
def u4(h:ixN l.length j=some i)(k:l[i]?=some x):L2.atI l j=some x:=by
 unfold L2.atI;rw[h];exact k
def Go.frz1(w:WF Z H<|a::O):Go Z H (a::O) (λb=>Z b\/b=a) H O:=by
 have nd:=List.nodup_cons.mp w.nd;refine⟨⟨nd.2,λb c z=>?_,λb c=>w.od b<|L6 _ c,λb z=>?_⟩,λb z=>.inl z,λ_ _ _=>rfl,λb z=>?_,λb c=>.inl<|L6 _ c,λ_ h=>h⟩
 ·rcases z with z | rfl
  ·exact w.nz b (L6 _ c) z
  ·exact nd.1 c
 ·rcases z with z | rfl
  ·exact w.zd b z
  ·exact w.od b L7
 ·rcases z with z | rfl
  ·exact .inl z
  ·exact .inr<|.inl L7
def wk(fe:FE)(g:D->Rh->Option Rh)(f:FS):FS:=λρ=>match fe ρ with
 | some (.tup l,ρ1)=>yU g f l ρ1
 | some (.lst true l,ρ1)=>yU g f l ρ1
 | _=>none
def jiX{pm}{g}(hg:DG R pm tg g)(hf:DS R pm tb f){J:It}{vs}{l}{O P}{ρ}{I}
  (hJ:∀{Z':Zn}{H'},(∀ a,Z a->Z' a)->(∀ a,Z a->H' a=H a)->∀ i,(l.length<=i->J.stop i H')/\(∀ x,vs[i]?=some x->J.go i H'/\∀ y H2,J.yld i H' y H2->H2=H'/\y=x))
  (w:WF Z H<|P++O) (rs:Reps R Z H l vs P) (s:Slots R Z H ρ σ O) (e:yU g f l ρ=some o) (k:OutOk R pm Z H (P++O) σ I o):
  ∃ W:Nat->Nat->L2.St->Hp->Prop,(∃ m,W 0 m σ H)/\∀ i m σ H,W i m σ H->(J.stop i H/\I.nx σ H)\/(J.go i H/\∃ N:L2.St->Hp->Prop,(∀ σ' H',N σ' H'->∃ m',m'<m/\W (i+1) m' σ' H')/\∀ x H',J.yld i H x H'->tg x σ H' λσ2 H2=>tb {I with nx:=N,ct:=N,bk:=I.nx} σ2 H2):=by
 have E:=rs.length;refine⟨λi m σ' H'=>m=l.length-i/\i<=l.length/\∃ S Z' T K,Go Z H (P++O) Z' H' (T++K)/\Reps R Z' H' (l.drop i) (vs.drop i) T/\Slots R Z' H' S σ' K/\Keep pm σ σ'/\yU g f (l.drop i) S=some o,
  ⟨l.length,rfl,U5 _,ρ,Z,P,O,Go.refl w,rs,s,Keep.refl _ _,e⟩,?_⟩
 rintro i m σ' H' ⟨rfl,hi',S,Z',T,K,F,U,s1,kp,h⟩;obtain⟨h1,h2⟩:=hJ F.zz (F.zH w) i;by_cases A:i<l.length
 ·right
  have hx:l[i]?=some l[i]:=by simp[A]
  have hv:vs[i]?=some (vs[i]'(by lia)):=by simp[E,A]
  obtain⟨go,yl⟩:=h2 _ hv;rw[kM hx] at h U;rw[kM hv,Reps] at U;obtain⟨v,vs',P1,P2,ev,rfl,ri,rr⟩:=U;injection ev with ev1 ev2;subst ev1;subst ev2;refine ob h λρ1 e3 h=>ob h λo1 e4 h=>⟨go,λσ2 H2=>∃ n G O2 r,Go Z H (P++O) G H2 (r++O2)/\Reps R G H2 (l.drop<|i+1) (vs.drop<|i+1) r/\Slots R G H2 n σ2 O2/\Keep pm σ σ2/\yU g f (l.drop<|i+1) n=some o,λσ2 H2 ⟨n,G,O2,r,a1,a2,a3,a4,a5⟩=>⟨l.length-(i+1),by lia,rfl,A,n,G,r,O2,a1,a2,a3,a4,a5⟩,λu H2 hy=>?_⟩;obtain⟨rfl,rfl⟩:=yl u H2 hy;have L:Go Z H (P++O) Z' H2 (P2++(P1++K)++[]):=F.drop (λa B=>by simp at B ⊢;rcases B with q | q | q<;>simp[q]) (by
   have nd:=F.wf.nd;simp only[U9,N1,M9] at nd ⊢;obtain⟨⟨n1,n2,n3⟩,n4,n5⟩:=nd;exact⟨n2,⟨n1,n4,λa B b V=>n5 a (.inl B) b V⟩,λa B b V=>V.elim (λq e=>n3 b q a B e.symm)<|n5 a (.inr B) b⟩)
  have wi:=L.wf.mid;refine hg wi ri s1 e3 λ{σ3 Z3 H3 O3} g3 s3 M=>(hf g3.wf s3 e4 ?_);have c:∀{p}{z}{t},Go Z3 H3 O3 p z t->Go Z H (P++O) p z (P2++t)/\Reps R p z (l.drop<|i+1) (vs.drop<|i+1) P2:=by
   intro p z t j;have Q:=g3.trans j;refine⟨L.trans<|by simpa using(Q.frame L.wf),rr.frame Q.zz (Q.zH wi) (Go.keepA L.wf Q).1⟩
  cases o1 with
  | nx n=>exact λ{X p z t} j C D=>⟨n,p,t,P2,(c j).1,(c j).2,C,kp.trans<|M.trans D,h⟩
  | ct n=>exact λ{X p z t} j C D=>⟨n,p,t,P2,(c j).1,(c j).2,C,kp.trans<|M.trans D,h⟩
  | bk n=>cases h;exact λ{X p z t} j C D=>k ((c j).1.dropL) C<|kp.trans<|M.trans D
  | rt d n=>cases h;exact λ{v4 X p z P4 t} j r4 C D=>k ((c j).1.dropL) r4 C<|kp.trans<|M.trans D
 ·left
  have Y:i=l.length:=by lia
  refine⟨h1<|by lia,?_⟩;rw[Y,List.drop_length] at h;cases h;exact k (F.dropL) s1 kp
def jg6{pm}{g}(G:DE R te fe)(I:DG R pm tg g)(J:DS R pm tb f):DS R pm (jfs (jcq R.K te) tg tb) (wk fe g f):=by
 intro σ ρ Z H O o w s e V k;unfold wk at e;have L:∀{h}{j}{O1},Go Z H O h j O1->OutOk R pm h j O1 σ V o:=by
  intro h j O1 c;cases o with
  | nx A=>exact λm n p=>k (c.trans m) n p
  | ct A=>exact λm n p=>k (c.trans m) n p
  | bk A=>exact λm n p=>k (c.trans m) n p
  | rt d A=>exact λm W n p=>k (c.trans m) W n p
 split at e
 ·rename_i l M B;refine G w s B λ{v h j P O1} c r C=>?_;obtain⟨a,vs,rfl,N,q⟩:=r;refine .inr<|.inl ⟨a,rfl,⟨vs,N.sq⟩,(jiX I J (λ{X Q} S D i=>?_) c.wf q C e<|L c)⟩;have sq:=(N.frame S D).sq;refine⟨λE=>⟨vs,sq,by rw[q.length];exact E⟩,λx t=>⟨⟨vs,x,sq,t⟩,λy Y u=>⟨u.1,?_⟩⟩⟩;have:=u.2 vs sq;rw[t] at this;exact(X5 this).symm
 ·rename_i l M B;refine G w s B λ{v h j P O1} c r C=>?_;obtain⟨a,vs,O',rfl,q,T,rfl⟩:=r;refine .inl ⟨a,rfl,⟨vs,SqL.of T⟩,?_⟩;have U:=c.trans<|Go.frz1 c.wf;have F:Reps R (λb=>h b\/b=a) j l vs O':=q.frame (λb z=>.inl z) (λ_ _=>rfl) λ_ _=>rfl;have s2:Slots R (λb=>h b\/b=a) j M σ O1:=C.frame (λb z=>.inl z) (λ_ _=>rfl) λ_ _=>rfl;refine jiX I J (λ{X Q} S D i=>?_) U.wf F s2 e<|L U;have sq:SqL R.K Q a vs:=SqL.of (by rw[D a<|.inr rfl];exact T);refine⟨λE=>⟨vs,sq,by rw[q.length];exact E⟩,λx t=>⟨⟨vs,x,sq,t⟩,λy Y u=>⟨u.1,?_⟩⟩⟩;have:=u.2 vs sq;rw[t] at this;exact(X5 this).symm
 ·cases e
structure QDs(cl:Nat->Addr)(X:Cx)(es:List Expr)(ta:TA)(f:FA):Prop where
 sem:PA X es ta
 den:DA ⟨X.K,cl⟩ ta f
def jim:QDs cl X [] JB jjZ:=⟨qg,jiH⟩
def jgu(h1:QE cl X e te fE)(h2:QDs cl X es tr fr)(hs:SEq X e es:=by rfl):QDs cl X (e::es) (yW te tr) (Qu fE fr):=⟨y6 h1.sem h2.sem hs,jhi h1.den h2.den⟩
section
variable {R:RC}{Z Z':Zn}{H H':Hp}{pm:List Nat}
noncomputable def kaD:KA->D
 | .int i=>.int i
 | .str s=>.str s
def jhL(a):Rep R Z H (kaD a) (kV<|kaV a) []:=by
 cases a with
 | int i=>exact .int_mk
 | str s=>exact .str_mk
end
section
variable {cl:Nat->Addr}{pm:List Nat}{X:Cx}{a b e o tg iter:Expr}{body:List Stmt}{ta tb te to:TE}{pa pb pe po:PF}{pos:Pos}{k:Nat}{t:TG}{g:D->Rh->Option Rh}{fE:FE}{ts:TS}{f:FS}
def jgr(c:PassesOwn (model X.prog X.w) X.A X.env X.xe)(d:X.calm=true)(hi:QE cl X iter te fE)(a:QGo cl pm X tg t g)(b:QSs cl pm X body ts f)(hs:∀ x,foldedSetIterable iter X.env x=pure x:=by intro _;rfl):
  QS cl pm X (.For tg iter body [] pos) (jfs (jcq X.K te) t ts) (wk fE g f):=⟨jaD c d (xy hi.sem) a.sem b.sem hs,jg6 hi.den a.den b.den⟩
end
theorem zm(r:Reps R Z H l vs []):∀ n:Nat,Reps R Z H (List.replicate n l).flatten (List.replicate n vs).flatten []
 | 0=>.empty
 | n+1=>by
  exact r.append<|zm r n
noncomputable def spM(R:RC)(m:List D->Option (D×D))(n j:Nat):Sp:=λvs H Q _=>∃ Z ds d c O u,WF Z H O/\ds.length=n/\Reps R Z H ds vs O/\vs[j]?=some u/\m ds=some (d,c) /\
 ∀{v}{Z'}{H'}{P O'},Go Z H O Z' H' (P++O')->Rep R Z' H' d v P->Rep R Z' H' c u O'->Q v H'
def jdI(j:Nat):Out->Option (D×D)
 | .rt d ρ=>(pV j ρ).bind λc=>some (d,c)
 | .nx ρ=>(pV j ρ).bind λc=>some (.non,c)
 | _=>none
def fnM(n j:Nat)(f:FS):List D->Option (D×D):=λds=>(f<|ds.map some++List.replicate (n-ds.length) none).bind (jdI j)
def x6:fnM n j f ds=(f<|ds.map some++List.replicate (n-ds.length) none).bind (jdI j):=rfl
def Go.pick(g:Go Z H O Z' H'<|P++(A++Q++B)):Go Z H O Z' H' (P++Q):=g.drop (λa h=>by simp at h ⊢;rcases h with h | h<;>simp[h]) (by
 have nd:=g.wf.nd;simp only[U9,N1] at nd ⊢;exact⟨nd.1,nd.2.1.1.2.1,λa c b d=>nd.2.2 a c b<|.inl<|.inr d⟩)
def jgb(z:DS R [j] ts f)(h:spM R (fnM N.length j f) n j vs H Q E):ts {nx:=λ_ H'=>Q .non H',rt:=Q} (L2.start N vs) H:=by
 obtain⟨Z,p,d,c,O,u,w,L,r,C,e,k⟩:=h;have s:Slots R Z H (p.map some++List.replicate (N.length-p.length) none) (L2.start N vs) O:=by
  have q:=kP r<|kW<|N.length-p.length;unfold L2.start;rw[r.length];rw[M9] at q;exact q
 have t:(L2.start N vs)[j]?=some (some u):=by
  unfold L2.start;rw[List.getElem?_append_left<|by simpa using((L9.mp C).1),List.getElem?_map,C];rfl
 have i:∀{a}{l}{m}{H'}{P x}{v},a[j]?=some (some c)->Go Z H O m H' (P++x)->Rep R m H' d v P->Slots R m H' a l x->Keep [j] (L2.start N vs) l->Q v H':=by
  intro a l m H' P x v b g F y kp;obtain⟨A,M,B,rfl,G,_,_⟩:=y.put (L9.mp b).1;obtain⟨S,I,J⟩:=G c b;have:l[j]?=some (some u):=by rw[kp j<|by simp,t]
  rw[I] at this;cases this;exact k g.pick F J
 refine ob e λo D e=>?_;cases o with
 | rt T a=>exact ob e λK b e=>by cases e;exact z w s D<|i<|K2 b
 | nx a=>exact ob e λK b e=>by cases e;exact z w s D λg y kp=>i (K2 b) ⇑g .non_mk y kp
 | bk a=>cases e
 | ct a=>cases e
def jfO(h:spM R m n j vs H Q E):vs.length=n:=by
 obtain⟨Z,b,d,c,O,u,w,a,r,_⟩:=h;rw[r.length,a]
def Go.turn(g:Go Z H O Z' H'<|A++(P++Q)++B):Go Z H O Z' H' (P++(A++Q++B)):=g.drop (λa h=>by simp at h ⊢;rcases h with h | h | h | h<;>simp[h]) (by
 have nd:=g.wf.nd;simp only[U9,N1] at nd ⊢;obtain⟨⟨j,⟨k,l,m⟩,f⟩,n,i⟩:=nd;refine⟨k,⟨⟨j,l,λa d b c=>f a d b<|.inr c⟩,n,λa d b c=>i a (d.elim .inl λq=>.inr<|.inr q) b c⟩,λa d b c e=>?_⟩;rcases c with(c | c) | c
 ·exact f b c a (.inl d) e.symm
 ·exact m a d b c e
 ·exact i a (.inr<|.inl d) b c e)
def ji7{cl}{P}{w}{K}{mg}{base}{x qual}{fst}{fa}{fd}{N ps}{k n j}{fs}(F:Fun K x qual fst fa fd)(b:FnScope N ps<|jt fst)(hn:ps.length=n)
  (a:∀ cdv A outer s H E,Room k (A.deeper<|envOfC qual (jt fst) ↥s fa cdv) ->
   ∃ ts,QSs cl [j] (ug CX0 P w K mg base N qual (jt fst) fa cdv A outer s H E).nox (yp fst) ts fs):FnOk P w K mg base CX0 (k+1) fa fd ps (spM ⟨K,cl⟩ (fnM N.length j fs) n j):=by
 refine F.ok b (λvs H Q E h=>by rw[jfO h,hn]) λcdv A outer s H vs Q E c h=>?_;obtain⟨ts,q⟩:=a cdv A outer s H E c;exact⟨ts,q.sem,jgb q.den h⟩
def YT(m:List D->Option D)(fa:FA):FE:=λρ=>(fa ρ).bind λr=>bif frzs r.1 then(m r.1).bind λd=>some (d,r.2) else none
def jc1(h:DA R ta fa)(hn:∀ ρ r,fa ρ=some r->r.1.length=n):DE R (JA (spP R m n) [] E0 ta) (YT m fa):=by
 intro σ ρ t Z H O d w s e Q k;refine ob e λr b e=>?_;obtain⟨i,u⟩:=r;refine oc e λj e=>ob e λc l e=>?_;cases e;refine h w s b λ{vs o x P1 O1} a f p=>?_;cases f.nil j;refine⟨o,i,d,a.wf.zd,hn ρ _ b,by rw[M9];exact f,l,λ{v y z P2} g q=>?_⟩;exact k (a.trans<|by simpa using(g.widen a.wf)) q<|g.slots a.wf.zd p
def jg9{cl}{X}{e}{es}{tr}{fr}{pos}{K}{k n}{fn}{fd}{ps}{m}{x qual}{st}{p}(d:X.K=K)(F:FnFact X.K X.mg x qual st fn fd ps)(G:FnOk X.prog X.w X.K X.mg X.base CX0 k fn fd ps<|spP ⟨X.K,cl⟩ m n)(f:Room k X.A)
  (c:QDs cl X (e::es) tr fr) (hl:∀ ρ r,fr ρ=some r->r.1.length=n) (g:Gl X x:=by rfl) (a:Nd x:=by decide)
  (h:SEq X e es:=by rfl) (b:BkE X pos es:=by rfl):QE cl X (.Call (.Name x p) (e::es) [] pos) (JA (spP ⟨K,cl⟩ m n) [] E0 tr) (YT m fr):=by
 subst d;exact⟨jds F G f c.sem g a h b,jc1 c.den hl⟩
def xX:∀ ρ ds,pN ρ=some ds->ds.length=0:=λρ ds h=>by cases h;rfl
def Kn(h:∀ ρ ds,pr ρ=some ds->ds.length=n):∀ ρ ds,ja p pr ρ=some ds->ds.length=n+1:=λρ ds e=>by
 refine ob e λd b e=>ob e λl a e=>?_;cases e;rw[M1,h ρ l a]
def jcW:∀ ρ r,jjZ ρ=some r->r.1.length=0:=λρ r h=>by cases h;rfl
def jbt(h:∀ ρ r,fr ρ=some r->r.1.length=n):∀ ρ r,Qu fe fr ρ=some r->r.1.length=n+1:=λρ r e=>by
 refine ob e λq c e=>?_;obtain⟨d,a⟩:=q;refine ob e λt b e=>?_;obtain⟨l,f⟩:=t;cases e;exact congrArg (·+1)<|h a _ b
def jjM:D->Option (List D)
 | .lst _ m=>bif frzs m then some m else none
 | .tup m=>bif frzs m then some m else none
 | _=>none
def jhZ(i:Nat)(p:PF)(ρ:Rh):Option Out:=(p ρ).bind λe=>(jjM e).bind λm=>(pV i ρ).bind λx=>(Qj x).bind λl=>bif lim (l.length+m.length) then some (.nx<|ρ.set i<|some<|.lst true<|l++m) else none
def jiW(h:PB R te p):DS R pm (qJ<|tBM R.K "list" (jfL R.K) (vk i)<|yW te JB) (jhZ i p):=by
 intro σ ρ Z H O o w s e N k;refine ob e λd C e=>ob e λm f e=>ob e λx hl e=>ob e λl D e=>oc e λg e=>?_;cases e;cases VL D;unfold qJ tBM;refine qG (P0:=[]) YM w s hl rfl Vr λa _ vs P y _ z E put=>E ⟨.inl ⟨rfl,vs,SqL.of z⟩,h w.zd s C λ{u F j P1} n A=>?_⟩;have hm:∃ b c,u=.ref b/\(SqL R.K j b c\/SqT R.K j b c)/\Reps R F j m c []:=by
  cases d with
  | lst Q G=>
   refine oc f λr f=>?_;cases f;obtain⟨b,c,I,rfl,t,v⟩:=A.lst_of;exact⟨b,c,rfl,.inl t.sq,v.frozen r⟩
  | tup G=>
   refine oc f λr f=>?_;cases f;obtain⟨b,c,rfl,t,v⟩:=A.tup_of;exact⟨b,c,rfl,.inr t,v.frozen r⟩
  | _=>cases f
 obtain⟨b,c,rfl,J,B⟩:=hm;obtain⟨O2,L,M⟩:=put Vr trivial n ((n.reps w.zd y).append B) λq=>by simp
 exact⟨a,b,vs,c,rfl,rfl,n.at0 z,J,by rw[y.length,B.length];exact qV g,k L M<|Keep.refl _ _⟩
def je8(f:QB cl X (.Name x xpos) (vk i)<|pV i)(h:QB cl X e te pe)(b:attributeBase (.Name x xpos) "extend" X.env (eval (.Name x xpos) X.env)=eval (.Name x xpos) X.env:=by rfl)
  (d:((backTo cpos<|starEach [e] X.env).all (λx=>!x.1)&&(backToKw cpos<|keywordEach [] X.env).all (λx=>x.1.isSome)
   && decide ([e].length+([]:List Keyword).length+(if([]:List Keyword).isEmpty then 0 else 1)<30))=true:=by rfl)
  (c:(apos.endLine==cpos.line)=true:=by rfl) (hs:starEach [e] X.env=(false,eval e X.env)::starEach [] X.env:=by rfl) (a:(backTo cpos<|starEach [] X.env).any (·.1)=false:=by rfl)
  (hsw:swapsWith (.Call (.Attribute (.Name x xpos) "extend" apos) [e] [] cpos) none pos.line X.env=pure false:=by rfl):
  QS cl pm X (.Expr (.Call (.Attribute (.Name x xpos) "extend" apos) [e] [] cpos) pos) (qJ<|tBM X.K "list" (jfL X.K) (vk i)<|yW te JB) (jhZ i pe):=
 ⟨Jk (jaW PySem.F.plainAttrs_list PySem.F.slot_list_extend PySem.F.type_list_extend jf9 f.sem (y6 h.sem qg hs) b d c hs a) hsw,jiW h.den⟩
end QD
namespace QD
open PySem L2
def jc(h:n<=100000):lim n=true:=X1 h
def Q8(h0:0<=i)(h:i<l.length):atI l i=l[i.toNat]?:=by
 unfold atI ixN;rw[if_pos<|by lia,if_pos<|by lia];rfl
def JJ(h:(YN lo n)[i]?=some x):x=.int (lo+i)/\i<n:=by
 unfold YN at h;rw[List.getElem?_map] at h;by_cases a:i<n
 ·rw[List.getElem?_range a] at h;cases h;exact⟨rfl,a⟩
 ·rw[List.getElem?_eq_none ⇑a] at h;cases h
def vE(lo)(n):(YN lo n).length=n:=by simp[YN]
@[simp] def eq_ss(a b):vy (.str a) (.str b)=some (.bl<|a==b):=rfl
@[simp] def ne_ss(a b):wM (.str a) (.str b)=some (.bl<|!(a==b)):=rfl
@[simp] def isnot_i(i):vo (.int i) .non=some (.bl true):=rfl
@[simp] def isnot_n:vo .non .non=some (.bl false):=rfl
@[simp] def isnot_s(a):vo (.str a) .non=some (.bl true):=rfl
@[simp] def in_cs(neg)(c)(s):V6 neg (.str [c]) (.str s)=some (.bl<|neg != decide (c∈s)):=rfl
@[simp] def neg_i(i):ja0 (.int i)=some (.int<|-i):=rfl
def KD(h:a.length+b.length<=100000):jz (.str a) (.str b)=some (.str<|a++b):=by
 show(bif lim (a.length+b.length) then some (D.str<|a++b) else none)=_;rw[jc h];rfl
def jlP(hl:s.length<=100000)(h0:0<=i)(h:i<s.length):jq (.str s) (.int i)=some (.str [s.getD i.toNat 0]):=by
 show(bif lim s.length then((atI s i).bind λc=>some<|D.str [c]) else none)=_;rw[jc hl,Q8 h0 h];have:i.toNat<s.length:=by lia
 simp[this]
def xI(xs:List α)  (h:0<=k):yz xs none (some k)=xs.take k.toNat:=by
 obtain⟨n,rfl⟩:∃ n:Nat,k=n:=⟨k.toNat,by lia⟩;rw[jhN];simp
def jkj(hl:s.length<=100000):jhT lo hi (.str s)=some (.str<|yz s lo hi):=by
 show(bif lim s.length then some (D.str<|yz s lo hi) else none)=_;rw[jc hl];rfl
@[simp] def itemsOf_str(s):Je (.str s)=some (s.map λc=>D.str [c]):=rfl
@[simp] def fAll_lst(o)(l):jhV [.lst o l]=(kj l).bind λbs=>some (.bl<|bs.all λb=>b):=rfl
@[simp] def fTuple_lst(o)(l):vi [.lst o l]=bif frzs l then some (.tup l) else none:=rfl
def JV(w)(l:W2):jcP (.str w) (l.map D.str)=true:=by
 unfold jcP;rw[M0];refine⟨rfl,List.all_eq_true.mpr λy a=>?_⟩;obtain⟨z,_,rfl⟩:=M5.mp a;rfl
def VJ(w)(l:W2):inL (.str w) (l.map D.str)=decide (w∈l):=by
 unfold inL;rw[Bool.eq_iff_iff,List.any_eq_true,decide_eq_true_eq];constructor
 ·rintro⟨y,a,e⟩;obtain⟨z,b,rfl⟩:=M5.mp a;have:z=w:=by
   exact eq_of_beq e
  exact this▸b
 ·intro h;exact⟨.str w,M5.mpr ⟨w,h,rfl⟩,by show(w==w)=true;simp⟩
def jge(neg o)(w)(l:W2):V6 neg (.str w) (.lst o<|l.map D.str)=some (.bl<|neg != decide (w∈l)):=by
 show(bif jcP (.str w) (l.map D.str) then some (D.bl<|neg != inL (.str w) (l.map D.str)) else none)=_;rw[JV,VJ];rfl
mutual
theorem jc2:∀(n:Nat) (d:D),okE n d=true->eqD d d=true
 | n,.non,_=>rfl
 | n,.bl _,_=>by show(_==_)=true;simp
 | n,.int _,_=>by show(_==_)=true;simp
 | n,.str _,_=>by show(_==_)=true;simp
 | n+1,.tup l,h=>by rw[eqD];exact J4 n l (by simpa [okE] using h)
 | n+1,.lst _ l,h=>by rw[eqD];exact J4 n l (by simpa [okE] using h)
 | 0,.tup l,h=>by simp[okE] at h
 | 0,.lst _ l,h=>by simp[okE] at h
 | n,.dK _ _ _,h=>by cases n<;>simp[okE] at h
 | n,.dT _ _ _,h=>by cases n<;>simp[okE] at h
 | n,.dN _ _,h=>by cases n<;>simp[okE] at h
 | n,.ins _ _ _ _,h=>by cases n<;>simp[okE] at h
 | n,.dead,h=>by cases n<;>simp[okE] at h
 | n,.tok _,h=>by cases n<;>simp[okE] at h
 | n,.kt _,h=>by cases n<;>simp[okE] at h
 | n,.exc _ _,h=>by cases n<;>simp[okE] at h
 | n,.lam,h=>by cases n<;>simp[okE] at h
theorem J4:∀(n:Nat) (l:List D),yX n l=true->QH l l=true
 | n,[],_=>rfl
 | n,d::l,h=>by
  rw[yX,M0] at h;rw[QH,jc2 n d h.1,J4 n l h.2];rfl
end
def ve(h:∀ d∈l,okE n d=true):yX n l=true:=by rw[xu];exact List.all_eq_true.mpr h
theorem yy:∀{l},(∀ d∈l,frz d=true)->frzs l=true
 | [],_=>rfl
 | d::l,h=>by rw[qY,h d<|by simp,yy λx a=>h x<|by simp[a]];rfl
def jhj(h:∀ c∈w,c<1114112):okE n (.str w)=true:=by
 exact List.all_eq_true.mpr λc a=>X1<|h c a
@[simp] def okE_int(n)(i):okE n (.int i)=true:=by cases n<;>rfl
theorem JK{G}{Good:D->Prop}{P:Rh->Prop}:∀{xs}(_:∀ x∈xs,∀ ρ,P ρ->∃ ρ1 y,G x ρ=some ρ1/\p ρ1=some y/\Good y/\P ρ1) {ρ}(_:P ρ),∃ ys,An3 (jS G qT p xs ρ=some ys) (ys.length=xs.length)<|∀ y∈ys,Good y
 | [],_,ρ,_=>⟨[],rfl,rfl,by simp⟩
 | x::xs,step,ρ,b=>by
  obtain⟨ρ1,y,c,d,e,p1⟩:=step x (by simp) ρ b;obtain⟨ys,f,hl,g⟩:=JK (xs:=xs) (λz a=>step z<|by simp[a]) p1;refine⟨y::ys,?_,by simp[hl],?_⟩
  ·rw[jD,c];simp[d,f]
  ·intro z a;rcases M4.mp a with rfl | a
   ·exact e
   ·exact g z a
theorem JI{f:α->D}{Q:α->Prop}:∀{ys},(∀ y∈ys,∃ a,y=f a/\Q a)->∃ l:List α,ys=l.map f/\∀ a∈l,Q a
 | [],_=>⟨[],rfl,by simp⟩
 | y::ys,h=>by
  obtain⟨a,e,q⟩:=h y (by simp);obtain⟨l,c,d⟩:=JI (ys:=ys) λz g=>h z (by simp[g]);exact⟨a::l,by rw[e,c];rfl,λb i=>(M4.mp i).elim (λz=>z▸q) (d b)⟩
def jk2(a:frzs l=true):jhT lo hi (.lst o l)=some (.lst true<|yz l lo hi):=by
 show(bif frzs l then some (D.lst true<|yz l lo hi) else none)=_;rw[a];rfl
def jf4(h0:0<=i)(h:i<l.length):jq (.lst o l) (.int i)=l[i.toNat]?:=Q8 h0 h
def ue(h0:0<=i)(h:i<l.length):jq (.tup l) (.int i)=l[i.toNat]?:=Q8 h0 h
@[simp] def jV(l:W2):fzs (l.map D.str)=l.map D.str:=by
 rw[v8,U1];rfl
@[simp] def jn(l:W2):frzs (l.map D.str)=true:=by
 rw[qN,List.all_map,List.all_eq_true];intro x _;rfl
@[simp] def cleans_strs(l:W2):jw (l.map D.str)=true:=by
 rw[jU,List.all_map,List.all_eq_true];intro x _;rfl
def vb{l:W2}{i:Int}(h0:0<=i)(h:i<l.length):jq (.lst o<|l.map D.str) (.int i)=some (.str<|l.getD i.toNat []):=by
 rw[jf4 h0<|by rw[L1];exact h,List.getElem?_map,List.getD_eq_getElem?_getD,X7<|by lia];rfl
def vF{l:List α}{i}(h:i<l.length):l.getD i d∈l:=by
 rw[List.getD_eq_getElem?_getD,X7 h];exact List.getElem_mem h
def xC(f:α->β)(l)(lo hi):yz (l.map f) lo hi=(yz l lo hi).map f:=by
 unfold yz;rw[L1,List.map_take,List.map_drop]
def VY(o)(l)(lo hi):jhT lo hi (.lst o<|l.map D.str)=some (.lst true<|(yz l lo hi).map D.str):=by
 rw[jk2<|jn l,xC]
def Kz(St:List α->Rh->Prop)(Ok:α->Prop)(b M):∀{xs}{acc}{ρ},
  (∀ x∈xs,∀ acc ρ,acc.length<=M->(∀ a∈acc,Ok a)->St acc ρ->∃ ρ1 ρ2 L,G x ρ=some ρ1/\f ρ1=some (.nx ρ2)/\L.length<=b/\(∀ a∈L,Ok a)/\St (acc++L) ρ2) ->
  acc.length+b*xs.length<=M->(∀ a∈acc,Ok a)->St acc ρ->Ex2 λρ' T=>An4 (yU G f xs ρ=some (.nx ρ')) (St (acc++T) ρ') (T.length<=b*xs.length) (∀ a∈T,Ok a):=by
 intro xs
 induction xs with
 | nil=>
  intro acc ρ step g c d;exact⟨ρ,[],rfl,by rw[M9];exact d,by simp,by simp⟩
 | cons x xs i=>
  intro acc ρ step g c d;rw[M1,Nat.mul_succ] at g;obtain⟨ρ1,ρ2,L,j,k,p,h,l⟩:=step x (by simp) acc ρ (by lia) c d;obtain⟨ρ',T,m,n,r,e⟩:=i (λy o=>step y<|by simp[o]) (by rw[N4];lia) (λa q=>(N1.mp q).elim (c a) (h a)) l;refine⟨ρ',L++T,?_,by rw[<- List.append_assoc];exact n,by rw[N4,M1,Nat.mul_succ];lia,λa q=>(N1.mp q).elim (h a) (e a)⟩;rw[yb,j,L4,k,L4,vn,m]
mutual
theorem jjI:∀(n:Nat) (d:D),okE n d=true->eqD (fz d) d=true
 | n,.non,_=>rfl
 | n,.bl _,_=>by show(_==_)=true;simp
 | n,.int _,_=>by show(_==_)=true;simp
 | n,.str _,_=>by show(_==_)=true;simp
 | n+1,.tup l,h=>by rw[fz,eqD];exact Qi n l (by simpa [okE] using h)
 | n+1,.lst _ l,h=>by rw[fz,eqD];exact Qi n l (by simpa [okE] using h)
 | 0,.tup l,h=>by simp[okE] at h
 | 0,.lst _ l,h=>by simp[okE] at h
 | n,.dK _ _ _,h=>by cases n<;>simp[okE] at h
 | n,.dT _ _ _,h=>by cases n<;>simp[okE] at h
 | n,.dN _ _,h=>by cases n<;>simp[okE] at h
 | n,.ins _ _ _ _,h=>by cases n<;>simp[okE] at h
 | n,.dead,h=>by cases n<;>simp[okE] at h
 | n,.tok _,h=>by cases n<;>simp[okE] at h
 | n,.kt _,h=>by cases n<;>simp[okE] at h
 | n,.exc _ _,h=>by cases n<;>simp[okE] at h
 | n,.lam,h=>by cases n<;>simp[okE] at h
theorem Qi:∀(n:Nat) (l:List D),yX n l=true->QH (fzs l) l=true
 | n,[],_=>rfl
 | n,d::l,h=>by
  rw[yX,M0] at h;rw[fzs,QH,jjI n d h.1,Qi n l h.2];rfl
end
mutual
theorem uW:∀(n:Nat) (d e:D),okE n d=true->fz d=fz e->eqD d e=true
 | n,.non,e,_,h=>by cases e<;>simp[fz] at h;rfl
 | n,.bl _,e,_,h=>by cases e<;>simp[fz] at h;subst h;show(_==_)=true;simp
 | n,.int _,e,_,h=>by cases e<;>simp[fz] at h;subst h;show(_==_)=true;simp
 | n,.str _,e,_,h=>by cases e<;>simp[fz] at h;subst h;show(_==_)=true;simp
 | n+1,.tup l,e,h,q=>by
  cases e<;>simp[fz] at q;rw[eqD];exact Qq n l _ (by simpa [okE] using h) q
 | n+1,.lst _ l,e,h,q=>by
  cases e<;>simp[fz] at q;rw[eqD];exact Qq n l _ (by simpa [okE] using h) q
 | 0,.tup l,e,h,_=>by simp[okE] at h
 | 0,.lst _ l,e,h,_=>by simp[okE] at h
 | n,.dK _ _ _,e,h,_=>by cases n<;>simp[okE] at h
 | n,.dT _ _ _,e,h,_=>by cases n<;>simp[okE] at h
 | n,.dN _ _,e,h,_=>by cases n<;>simp[okE] at h
 | n,.ins _ _ _ _,e,h,_=>by cases n<;>simp[okE] at h
 | n,.dead,e,h,_=>by cases n<;>simp[okE] at h
 | n,.tok _,e,h,_=>by cases n<;>simp[okE] at h
 | n,.kt _,e,h,_=>by cases n<;>simp[okE] at h
 | n,.exc _ _,e,h,_=>by cases n<;>simp[okE] at h
 | n,.lam,e,h,_=>by cases n<;>simp[okE] at h
theorem Qq:∀(n:Nat) (l m:List D),yX n l=true->fzs l=fzs m->QH l m=true
 | n,[],[],_,_=>rfl
 | n,[],_::_,_,q=>by simp[fzs] at q
 | n,_::_,[],_,q=>by simp[fzs] at q
 | n,d::l,e::m,h,q=>by
  rw[yX,M0] at h;rw[fzs,fzs] at q;injection q with q1 q2;rw[QH,uW n d e h.1 q1,Qq n l m h.2 q2];rfl
end
def jgE(h:okE 20 d=true)(h':okE 20 e=true)(q:fz d=fz e)(a:kI d=false:=by rfl):wM d e=some (.bl false):=by
 unfold wM;rw[a,h,h',uW 20 d e h q];rfl
def uF(h:okE 20 d=true)(h':okE 20 e=true)(q:fz d=fz e)(a:kI d=false:=by rfl):vy d e=some (.bl true):=by
 unfold vy;rw[a,h,h',uW 20 d e h q];rfl
theorem Yj:∀ l:List (List Nat×D),qE (l.map λp=>.tup [.str p.1,p.2])=some (l.map λp=>(KA.str p.1,p.2))
 | []=>rfl
 | p::l=>by
  rw[L5,qE,Yj l];rfl
theorem qv:∀(ps:List<|KA×D) ks vs,(ks++ps.map (·.1)).Nodup->ps.foldl (λacc kv=>vT acc.1 acc.2 kv.1 kv.2) (ks,vs)=(ks++ps.map (·.1),vs++ps.map (·.2))
 | [],ks,vs,_=>by simp
 | p::ps,ks,vs,h=>by
  have a:p.1∉ks:=by
   intro z;exact(U9.mp h).2.2 p.1 z p.1 (by simp) rfl
  have b:vT ks vs p.1 p.2=(ks++[p.1],vs++[p.2]):=by unfold vT;rw[if_neg a]
  show ps.foldl _ (vT ks vs p.1 p.2)=_;rw[b,qv ps (ks++[p.1]) (vs++[p.2]) ⇑h];simp
def wo{l:List (List Nat×D)}(hn:(l.map (·.1)).Nodup)(e:∀ p∈l,frz p.2=true)(hl:l.length<=100000):jfX [.lst o<|l.map λp=>.tup [.str p.1,p.2]]=some (.dK true (l.map λp=>KA.str p.1) (l.map (·.2))):=by
 have f:((l.map λp=>(KA.str p.1,p.2)).map (·.1)).Nodup:=by
  rw[U1];have:((λx:KA×D=>x.1) ∘ λp:List Nat×D=>(KA.str p.1,p.2))=KA.str ∘ (·.1):=rfl;rw[this,<- U1];exact List.Pairwise.map _ (λa b h z=>h<|by cases z;rfl) hn
 show((qE<|l.map λp=>.tup [.str p.1,p.2]).bind λps=>bif frzs (ps.map (·.2))&&lim ps.length then some (D.dK true (kx ps).1 (kx ps).2) else none)=_;rw[Yj,L4];have c:((l.map λp=>(KA.str p.1,p.2)).map (·.2))=l.map (·.2):=by rw[U1];rfl
 rw[c,yy (by intro d hd;obtain⟨p,g,rfl⟩:=M5.mp hd;exact e p g),L1,jc hl];unfold kx;rw[qv (l.map λp=>(KA.str p.1,p.2)) [] [] ⇑f,c];simp[U1]
noncomputable def lkp{α:Type}(w:List Nat):List (List Nat×α)->Option α
 | []=>none
 | p::l=>if p.1=w then some p.2 else lkp w l
noncomputable def dct(o:Bool)(N:W2)(f:List Nat->Int):D:=.dK o (N.map KA.str)<|N.map λn=>D.int<|f n
theorem VD(f:List Nat->Int):∀{N:W2},c∈N->JQ (N.map KA.str) (N.map λn=>D.int<|f n) (.str c)=some (.int<|f c)
 | [],h=>by cases h
 | n::N,h=>by
  rw[L5,L5,JQ];by_cases e:n=c
  ·rw[if_pos<|by rw[e],e]
  ·rw[if_neg λz=>e<|by cases z;rfl];exact VD f<|(M4.mp h).resolve_left λz=>e z.symm
def jbX(h:c∈N):vU (dct o N f) (.str c)=some (.int<|f c):=VD f h
theorem xN(f:List Nat->Int)(c)(v):∀ N:List (List Nat),jbi (N.map KA.str) (N.map λn=>D.int<|f n) (.str c) (.int v)=N.map λn=>D.int (if n=c then v else f n)
 | []=>rfl
 | n::N=>by
  rw[L5,L5,jbi,xN f c v N,L5];by_cases e:n=c
  ·rw[if_pos<|by rw[e],if_pos e]
  ·rw[if_neg λz=>e (by cases z;rfl),if_neg e]
def jdg{N:W2}{f:List Nat->Int}{c}{v}(h:c∈N):vT (N.map KA.str) (N.map λn=>D.int<|f n) (.str c) (.int v)=(N.map KA.str,N.map λn=>D.int<|if n=c then v else f n):=by
 unfold vT;rw[if_pos<|M5.mpr ⟨c,h,rfl⟩,xN]
theorem KP:∀{l:List (List Nat×α)},(l.map (·.1)).Nodup->∀ p∈l,lkp p.1 l=some p.2
 | [],_,_,h=>by cases h
 | q::l,a,p,h=>by
  rw[L5,List.nodup_cons] at a;rw[lkp];rcases M4.mp h with rfl | h
  ·rw[if_pos rfl]
  ·rw[if_neg λz=>a.1<|by rw[z];exact M5.mpr ⟨p,h,rfl⟩];exact KP a.2 p h
def fnOf(S:List<|List Nat×Int)(n:List Nat):Int:=(lkp n S).getD 0
def wA{S}(hn:(S.map (·.1)).Nodup){p}(h:p∈S):fnOf S p.1=p.2:=by
 unfold fnOf;rw[KP hn p h];rfl
def uz{S}(hn:(S.map (·.1)).Nodup)(hl:S.length<=100000):jfX [.lst o<|S.map λp=>.tup [.str p.1,.int p.2]]=some (dct true (S.map (·.1))<|fnOf S):=by
 have e:=wo (o:=o) (l:=S.map λq=>(q.1,D.int q.2)) (by rw[U1];exact hn) (by intro q b;obtain⟨a,_,rfl⟩:=M5.mp b;rfl) (by rw[L1];exact hl);rw[U1,U1,U1] at e;refine e.trans ?_;unfold dct;rw[U1,U1];congr 2;refine List.map_congr_left λp c=>?_;show D.int p.2=D.int (fnOf S p.1);rw[wA hn c]
def V0(N:W2)(f:List Nat->Int):frzs (N.map λn=>D.int<|f n)=true:=yy λd hd=>by
 obtain⟨n,_,rfl⟩:=M5.mp hd;rfl
@[simp] def dkOf_dct(N)(f):jen (dct true N f)=some (N.map KA.str,N.map λn=>D.int<|f n):=rfl
variable {ρ:Rh}{fa fb fe:FE}{ft fu:FT'}{fr:FA}{p:PAf}{pi:PAf}{g:D->D->Option D}{gl:List D->Option D}{G:D->Rh->Option Rh}{f:FS}{m:List D->Option (D×D)}{mp:List D->Option D}{i j:Nat}
@[simp] def dCallP_e:YT mp fr ρ=(fr ρ).bind λr=>bif frzs r.1 then(mp r.1).bind λd=>some (d,r.2) else none:=rfl
end QD
namespace L2
open PySem PySem.Spec PyProof.Rows
end L2
namespace QD
open PySem L2 PySem.Spec PyProof.Rows
def xc{a b:List KA}(h:a.map kaV=b.map kaV):a=b:=by
 induction a generalizing b with
 | nil=>cases b with
  | nil=>rfl
  | cons y b=>simp at h
 | cons x a c=>cases b with
  | nil=>simp at h
  | cons y b=>
   simp only[L5,List.cons.injEq] at h;rw[V2 h.1,c h.2]
def jcA:PP R uq (pC<|.dT true [] []):=by
 intro σ ρ Z H O d z s e Q k;cases e;intro p a;exact k (Go.newO (wf0 z) a) ⟨p,[],[],rfl,.empty,rfl,jk,rfl⟩
abbrev jkU(ta tb:TE):TE:=jkz<|yW ta<|yW tb JB
def jlo(pa pb:PF)(ρ:Rh):Option (List KA):=(pa ρ).bind λx=>(pb ρ).bind λy=>(kC x).bind λa=>(kC y).bind λb=>some [a,b]
def jc6 (f : PB R ta pa) (g : PB R tb pb)  (z : Zd Z H) (s : Slots R Z H ρ σ O) (e : jlo pa pb ρ = some k)
     (go:∀{p}{Z'}{H'},Go Z H [] Z' H' []->Z' p->H' p=some (.tup<|(k.map kaV).map kV)->Q (.ref p) H'):jkU ta tb σ H Q:=by
 refine ob e λx h e=>ob e λy i e=>ob e λa j e=>ob e λb l e=>?_;cases e;refine f z s h λ{v q r P1} c m=>(g c.wf.zd (c.slots z s) i λ{u t w P2} d n=>?_);obtain⟨rfl,_⟩:=yR j m;obtain⟨rfl,_⟩:=yR l n;refine⟨by show 2<=sizeLine;decide,λp o=>?_⟩;exact go ((c.pair d).trans (Go.newF d.wf o)) (.inr rfl) jk
@[simp] def pKey_e:jlo pa pb ρ=(pa ρ).bind λx=>(pb ρ).bind λy=>(kC x).bind λa=>(kC y).bind λb=>some [a,b]:=rfl
noncomputable def jgO:List (List KA)->List D->List KA->D->List D
 | k::ks,x::l,a,d=>(if k=a then d else x)::jgO ks l a d
 | _,_,_,_=>[]
theorem zv:∀{ks}{l} a d,ks.length=l.length->(jgO ks l a d).length=l.length
 | [],[],_,_,_=>rfl
 | [],_::_,_,_,h=>by simp at h
 | _::_,[],_,_,h=>by simp at h
 | k::ks,x::l,a,d,h=>by rw[jgO,M1,M1,zv a d ⇑h]
theorem xf(rd:Rep R Z H d v [])(a):∀{ks}{l}{vs}{O},Reps R Z H l vs O->ks.length=l.length ->
  Ex2 λvs2 O2=>An3 (Reps R Z H (jgO ks l a d) vs2 O2) ((ks.map<|List.map kaV).zip vs2=((ks.map<|List.map kaV).zip vs).map (λkv=>if kv.1=a.map kaV then(kv.1,v) else kv))<|O2.Sublist O
 | [],[],vs,O,r,hl=>by
  obtain⟨rfl,rfl⟩:=r;exact⟨[],[],.empty,rfl,.slnil⟩
 | [],_::_,_,_,_,h=>by simp at h
 | _::_,[],_,_,_,h=>by simp at h
 | k::ks,x::l,vs,O,r,hl=>by
  obtain⟨w,i,O1,O2,rfl,rfl,j,m⟩:=r;obtain⟨b,P2,c,f,g⟩:=xf rd a m ⇑hl;by_cases e:k=a
  ·subst e;refine⟨v::b,[]++P2,?_,?_,(g.trans<|List.sublist_append_right _ _)⟩
   ·rw[jgO,if_pos rfl];exact Reps.cons rd c
   ·simp only[L5,U7,if_true,f]
  ·have n:=λz=>e<|xc z;refine⟨w::b,O1++P2,?_,?_,(List.Sublist.append (List.Sublist.refl _) g)⟩
   ·rw[jgO,if_neg e];exact Reps.cons j c
   ·simp only[L5,U7,if_neg n,f]
theorem xZ(a):∀{ks:List (List KA)}{vs:List V},ks.length=vs.length->(((ks.map<|List.map kaV).zip vs).any λkv=>decide<|kv.1=a.map kaV)=decide (a∈ks)
 | [],vs,_=>by simp
 | k::ks,[],h=>by simp at h
 | k::ks,v::vs,h=>by
  rw[L5,U7,List.any_cons,xZ a ⇑h];by_cases e:k=a
  ·subst e;simp
  ·have b:¬ (k.map kaV=a.map kaV):=λz=>e<|xc z;have c:¬ (a=k):=λz=>e z.symm;simp[b,c]
def uc(ks:List<|List KA)(l:List D)(a:List KA)(d:D):List (List KA)×List D:=if a∈ks then(ks,jgO ks l a d) else(ks++[a],l++[d])
def jc3(rd:Rep R Z H d v [])(a)  (r:Reps R Z H l vs O) (hl:ks.length=l.length):
  Ex2 λvs2 O2=>An4 (Reps R Z H (uc ks l a d).2 vs2 O2) ((((uc ks l a d).1).map (List.map kaV)).zip vs2=Jd ((ks.map<|List.map kaV).zip vs) (a.map kaV) v) (O2.Sublist O) ((uc ks l a d).1.length=(uc ks l a d).2.length):=by
 have b:ks.length=vs.length:=by rw[r.length];exact hl
 unfold uc Jd;rw[xZ a b];by_cases e:a∈ks
 ·rw[if_pos e,X1 e,if_pos rfl];obtain⟨c,P,f,g,h⟩:=xf rd a r hl;exact⟨c,P,f,g,h,by rw[zv a d hl];exact hl⟩
 ·rw[if_neg e,X2 e,if_neg<|λz=>(nomatch z)];refine⟨vs++[v],O++[],r.append<|Reps.one rd,?_,by simp,by simp[hl]⟩;rw[N5,List.zip_append ⇑b];rfl
def jaQ:QP cl X (.Dict [] [] pos) uq (pC<|.dT true [] []):=⟨jc8,jcA⟩
def jfz(p:PF):PF:=λρ=>match p ρ with
 | some (.lst _ l)=>bif frzs l then some (.lst true l.reverse) else none
 | _=>none
theorem Reps.revR:∀{l}{vs},Reps R Z H l vs []->Reps R Z H l.reverse vs.reverse []
 | [],_,h=>by rw[Reps] at h;rw[h.1];exact .empty
 | d::l,_,h=>by
  obtain⟨v,vs,O1,O2,rfl,e,a,b⟩:=h;obtain⟨rfl,rfl⟩:=List.append_eq_nil_iff.mp e.symm;rw[List.reverse_cons,List.reverse_cons];exact Reps.append (Reps.revR b)<|.one a
def jjq(h:PB R te p):PP R (jk6 R.K te) (jfz p):=by
 intro σ ρ Z H O d z s e Q k;unfold jfz at e;split at e
 ·rename_i o l m;refine oc e λn e=>?_;cases e;refine h z s m λ{v j i P} g r=>?_;obtain⟨a,vs,x,rfl,q,t⟩:=r.lst_of;refine⟨a,vs,rfl,q.sq,λf c=>?_⟩;have ne:∀ b,i b≠none->b≠f:=λb h e=>h<|e▸c;have u:Go j i [] j (upd i f<|.lst vs.reverse) [f]:=Go.newO (wf0 g.wf.zd) c;exact k (g.trans u) ⟨f,vs.reverse,[],rfl,(Reps.revR<|t.frozen n).frame (λb z=>z) (λb z=>jg<|ne b<|g.wf.zd b z) (λb w=>(nomatch w)),jk,rfl⟩
 ·cases e
def Yb:D->List D->Option D
 | .str a,[.str b]=>bif decide (0<=qr a b) then some (.int<|qr a b) else none
 | _,_=>none
def xv:BM R "str" (λx vs H Q=>∃ a b,x=.str a/\vs=[.str b]/\0<=Txt.find a b/\Q (.int<|Txt.find a b) H) Yb:=by
 intro Z H x d h v vs O1 O2 z c f e Q k;unfold Yb at e;split at e
 ·rename_i a b;refine oc e λhd e=>?_;cases e;obtain⟨rfl,_⟩:=c.str_of;obtain⟨u,rfl,g⟩:=f.one_of;obtain⟨rfl,_⟩:=g.str_of;exact⟨_,_,rfl,rfl,X4 hd,k (Go.id z) .int_mk⟩
 ·cases e
def jjf{o}{ks:List KA}{vs}(hl:ks.length=vs.length)(h:Z a)(j:H a=some (.frz o<|.dK<|(ks.map kaV).zip vs)):jhv R (Itk a o<|(ks.map kaV).zip vs) Z H (ks.map kaD):=by
 intro k l q m zd i;have f:l a=some (.frz o<|.dK<|(ks.map kaV).zip vs):=by rw[m a h];exact j
 have b:((ks.map kaV).zip vs).length=ks.length:=by rw[List.length_zip,L1,hl,Nat.min_self]
 refine⟨λe=>⟨f,by rw[b];rw[L1] at e;exact e⟩,λx d=>?_⟩;rw[List.getElem?_map] at d;cases hk:ks[i]? with
 | none=>rw[hk] at d;cases d
 | some c=>
  rw[hk] at d;cases d;have e:=(L9.mp hk).1;refine⟨⟨f,by rw[b];exact e⟩,λu r n=>?_⟩;obtain⟨rfl,s,g,rfl⟩:=n;have p:((ks.map kaV).zip vs)[i]?=some (kaV c,vs[i]'(by lia)):=by
   rw[List.getElem?_zip_eq_some];exact⟨by rw[List.getElem?_map,hk];rfl,by simp⟩
  rw[p] at g;cases g;exact⟨k,Go.id zd,jhL c⟩
def jih(w:WF Z H<|a::O):Go Z H (a::O) (λb=>Z b\/b=a) (upd H a u) O:=
 (Go.put w L7).trans (Go.frz1 (Go.put w L7).wf)
def wK(p:PF):PAf:=λρ=>match p ρ with
 | some (.dK true ks l)=>bif frzs l then some (ks.map kaD) else none
 | _=>none
def jg8(h:PP R te p):PIt R (iDK te) (wK p):=by
 intro σ ρ Z H O j z s e Q k;unfold wK at e;split at e
 ·rename_i m l d;refine oc e λf e=>?_;cases e;refine h z s d λ{v n q P} g r=>?_;obtain⟨a,vs,t,rfl,c,b,i,rfl⟩:=r;cases c.nil f;refine⟨a,_,rfl,i,λo=>k (g.trans<|jih g.wf)<|jjf (by rw[c.length];exact b) (.inr rfl) jk⟩
 ·cases e
def jiU{cl}{X}{a}{ta}{pa}{pos p p2 pos2}(j:X.calm=true)(hm:X.mg "list" = none)(d:X.mg "reversed" = none)(i:QB cl X a ta pa)(k:Gl X "list":=by rfl)(e:Gl X "reversed":=by rfl)
  (l:starEach [.Call (.Name "reversed" p2) [a] [] pos2] X.env=(false,eval (.Call (.Name "reversed" p2) [a] [] pos2) X.env)::starEach [] X.env:=by rfl)
  (f:(backTo pos<|starEach [] X.env).any (·.1)=false:=by rfl)
  (g:backTo pos (starEach [.Call (.Name "reversed" p2) [a] [] pos2] X.env)=[(false,eval (.Call (.Name "reversed" p2) [a] [] pos2) X.env)]:=by rfl)
  (h:starEach [a] X.env=(false,eval a X.env)::starEach [] X.env:=by rfl) (b:(backTo pos2<|starEach [] X.env).any (·.1)=false:=by rfl)
  (c:backTo pos2 (starEach [a] X.env)=[(false,eval a X.env)]:=by rfl):
  QP cl X (.Call (.Name "list" p) [.Call (.Name "reversed" p2) [a] [] pos2] [] pos) (jk6 X.K ta) (jfz pa):=⟨jik j k hm e d i.sem l f g h b c,jjq i.den⟩
def ja9(h:QP cl X e te pe):QI cl X tg e (iDK te) (wK pe):=⟨jkR h.sem,jg8 h.den⟩
@[simp] def pKeys_e:wK p ρ=(p ρ).bind λd=>(jen d).bind λk=>bif frzs k.2 then some (k.1.map kaD) else none:=by
 unfold wK;cases p ρ with
 | none=>rfl
 | some d=>cases d with
  | dK o a l=>cases o<;>rfl
  | _=>rfl
@[simp] def pRev_e:jfz p ρ=(p ρ).bind λd=>match d with | .lst _ l=>bif frzs l then some (.lst true l.reverse) else none | _=>none:=by
 unfold jfz;cases p ρ with
 | none=>rfl
 | some d=>cases d<;>rfl
@[simp] def jcH(a b):Yb (.str a) [.str b]=bif decide (0<=qr a b) then some (.int<|qr a b) else none:=rfl
end QD
namespace L2
open PySem PySem.Spec PyProof.Rows
def zD:MtR X "str.index" (λx vs H Q=>∃ a b,x=.str a/\vs=[.str b]/\0<=Txt.find a b/\Q (.int<|Txt.find a b) H):=by
 intro d s σ H x vs v k Q I f g h;obtain⟨a,b,rfl,rfl,c,q⟩:=h;obtain⟨t,rfl⟩:=f;obtain⟨u,rfl,j⟩:=g.one;obtain⟨l,rfl⟩:=j;cases ho:PySem.Builtin.Str.occurrences a b 0 a.length 1 with
 | nil=>
  unfold Txt.find at c;rw[ho] at c;exact absurd c (by decide)
 | cons i qw=>
  have e:Txt.find a b=i:=by unfold Txt.find;rw[ho]
  rw[e] at q;exact SC.index ho ⟨.int _,H,I.tok _,⟨_,rfl⟩,q⟩
end L2
namespace QD
open PySem L2 PySem.Spec PyProof.Rows
def Go.from(g:Go Z H O Z' H' E)(h:∀ a∈O,a∈O'):Go Z H O' Z' H' E:=
 ⟨g.wf,g.zz,λa q n=>g.fr a q λz=>n<|h a z,λa z=>(g.zn a z).elim .inl λq=>q.elim (λq=>.inr<|.inl<|h a q) λq=>.inr<|.inr q,λa q=>(g.sub a q).elim (λq=>.inl<|h a q) .inr,g.dm⟩
def Jm(i j:Nat)(p:PF):FS:=λρ=>match p ρ with
 | none=>none
 | some d=>match ρ[i]? with
  | some (some (.lst true l))=>match l[j]? with
   | some (.lst true l')=>bif lim l'.length then some (.nx<|ρ.set i<|some<|.lst true<|l.set j<|.lst true<|l'++[d]) else none
   | _=>none
  | _=>none
def jf8{pm}{i j:Nat}(h:PP R te p):DS R pm (qJ<|tBM R.K "list" qo (tOp (rIx R.K) (vk i)<|tC<|.int (j:Int))<|yW te JB) (Jm i j p):=by
 intro σ ρ Z H O o w s e D' k;unfold Jm at e;cases e1:p ρ with
 | none=>rw[e1] at e;cases e
 | some d=>
  rw[e1] at e;dsimp only at e;split at e
  ·rename_i l hl;split at e
   ·rename_i S hj;cases hlim:lim S.length with
    | false=>rw[hlim] at e;cases e
    | true=>
     rw[hlim] at e;cases e;obtain⟨A,P,B,rfl,k1,k2,_⟩:=s.put (L9.mp hl).1;obtain⟨v,ev,r⟩:=k1 _ hl;obtain⟨a,vs,O0,rfl,rs,ea,rfl⟩:=r;obtain⟨u,E,P',F,T,rfl,ru,I⟩:=rs.at hj;obtain⟨b,g,t,rfl,J,U,rfl⟩:=ru;have hjl:=(L9.mp T).1;have V:L2.atI vs j=some (.ref b):=u4 (by unfold ixN;rw[if_pos<|by lia,if_pos<|by lia];simp) T;refine⟨.ref a,ev,.inl ⟨a,vs,j,.ref b,rfl,rfl,SqL.of ea,V,.inl ⟨rfl,g,SqL.of U⟩,(h w.zd s e1 λ{x W y P1} C r1=>?_)⟩⟩;have X:y b=some (.lst g):=by rw[C.same b<|by rw[U];exact λz=>(nomatch z)];exact U
     refine⟨b,g,x,rfl,rfl,X,by rw[J.length];exact Ki hlim,?_⟩;have Q:=C.widen w;have gC:=Q.trans<|Go.put (o:=.lst<|g++[x]) Q.wf (show b∈P1++(A++(a::(E++(b::t)++F))++B) by simp);have nd:=Q.wf.nd;have G:∀ c,c∈P1\/c∈A\/c=a\/c∈E\/c∈t\/c∈F\/c∈B->c≠b:=λc f e=>by
      have q:=List.nodup_iff_count.mp nd b;simp only[U8,List.count_cons,beq_self_eq_true,if_true] at q;have pos:∀{m:W4},c∈m->0<m.count c:=List.count_pos_iff.mpr;rcases f with f | f | f | f | f | f | f
      ·have:=pos f;lia
      ·have:=pos f;lia
      ·subst f;simp at q;lia
      ·have:=pos f;lia
      ·have:=pos f;lia
      ·have:=pos f;lia
      ·have:=pos f;lia
     have L:∀ c,W c->upd y b (.lst<|g++[x]) c=y c:=λc f=>jg λz=>Q.wf.nz b (by simp)<|z▸f;have M:∀ c,Z c->upd y b (.lst<|g++[x]) c=H c:=λc f=>by rw[L c<|C.zz c f];exact C.same c<|w.zd c f
     have n:∀ c,c∈A++(a::(E++(b::t)++F))++B->c≠b->upd y b (.lst<|g++[x]) c=H c:=λc f hn=>by
      rw[jg hn];exact C.same c<|w.od c f
     have N:Rep R W (upd y b<|.lst<|g++[x]) (.lst true<|S++[d]) (.ref b) (b::(t++P1)):=by
      refine⟨b,g++[x],t++P1,rfl,((C.reps w.zd J).append (.one r1)).frame (λ_ z=>z) L (λc f=>jg<|G c ?_),jk,rfl⟩;rcases N1.mp f with q | q
      ·exact .inr<|.inr<|.inr<|.inr<|.inl q
      ·exact .inl q
     have D:=I N C.zz M (λc f=>n c (by simp[f])<|G c<|.inr<|.inr<|.inr<|.inl f)<|λc f=>n c (by simp[f])<|G c<|.inr<|.inr<|.inr<|.inr<|.inr<|.inl f;rw[yF T] at D;have Y:upd y b (.lst<|g++[x]) a=some (.lst vs):=by rw[n a (by simp)<|G a<|.inr<|.inr<|.inl rfl];exact ea
     have rt:Rep R W (upd y b<|.lst<|g++[x]) (.lst true<|l.set j<|.lst true<|S++[d]) (.ref a) (a::(E++(b::(t++P1))++F)):=by
      exact⟨a,vs,_,rfl,D,Y,rfl⟩
     have sl:=k2 rt C.zz M (λc f=>n c (by simp[f])<|G c<|.inr<|.inl f)<|λc f=>n c (by simp[f])<|G c<|.inr<|.inr<|.inr<|.inr<|.inr<|.inr f;rw[yF ev] at sl;have le:∀ c,(A++(a::(E++(b::(t++P1))++F))++B).count c<=(P1++(A++(a::(E++(b::t)++F))++B)).count c:=λc=>by
      simp only[U8,List.count_cons];lia
     exact k (gC.drop (Vg le)<|qD le nd) sl<|Keep.refl _ _
   ·cases e
  ·cases e
noncomputable def jcj(i x:Nat)(pm:List Nat)(q:PTf)(fA fB:FS):FS:=λρ=>match ρ[i]? with
 | some (some (.lst true l))=>match l[l.length-1]? with
  | none=>none
  | some it=>bif decide (x<ρ.length)&&(!decide (x∈pm)&&!decide (x=i)) then(match q (ρ.set x<|some .dead) with
   | none=>none
   | some true=>fA<|ρ.set x<|some .dead
   | some false=>match fB ((ρ.set i none).set x (some it)) with
    | some (.nx ρ2)=>(match ρ2[x]? with
     | some (some d)=>bif decide (i<ρ2.length) then some (.nx<|(ρ2.set x<|some .dead).set i (some<|.lst true<|l.set (l.length-1) d)) else none
     | _=>none)
    | _=>none) else none
 | _=>none
def ji3{R:RC}{pm:List Nat}{i x:Nat}{tj:TE}{pj:PF}{tt:TT}{q:PTf}{tA tB:TS}{fA fB:FS}(hj:PB R tj pj)(ej:∀ ρ,pj ρ=some (.int<|-1))(hq:PTt R tt q)(hA:DS R pm tA fA)(hB:DS R (i::x::pm) tB fB):
  DS R pm (jeX (jcM (tOp (rIx R.K) (vk i) tj)<|Jj x)<|ji1 tt tA tB) (jcj i x pm q fA fB):=by
 intro σ ρ Z H O o w s e D' k;unfold jcj at e;split at e
 ·rename_i l hl;cases hit:l[l.length-1]? with
  | none=>rw[hit] at e;cases e
  | some it=>
   rw[hit] at e;dsimp only at e;cases hg:decide (x<ρ.length)&&(!decide (x∈pm)&&!decide (x=i)) with
   | false=>rw[hg] at e;cases e
   | true=>
    rw[hg,cond_true] at e;simp only[M0,decide_eq_true_eq,Bool.not_eq_true',decide_eq_false_iff_not] at hg;obtain⟨E,hxp,f⟩:=hg;have hi:i<ρ.length:=(L9.mp hl).1;have hln:l.length-1<l.length:=(L9.mp hit).1;obtain⟨Ai,Pi,Bi,eOi,ki1,_,_⟩:=s.put hi;obtain⟨v0,ev,r⟩:=ki1 _ hl;obtain⟨a,vs,Ol0,rfl,rs0,ea,_⟩:=r;have hvl:=rs0.length;have han:H a≠none:=by rw[ea];exact λz=>(nomatch z)
    obtain⟨v,hv⟩:∃ v,vs[l.length-1]?=some v:=⟨vs[l.length-1]'(by lia),by simp⟩;have hat:L2.atI vs (-1)=some v:=u4 (i:=l.length-1) (by
     unfold ixN;rw[if_neg<|by decide,if_pos<|by lia];congr 1
     lia) hv
    refine⟨.ref a,ev,hj w.zd s (ej ρ) λ{u0 Z1 H1 P0} g1 r0=>?_⟩;obtain⟨rfl,_⟩:=r0.int_of;have n:H1 a=some (.lst vs):=by rw[g1.same a han];exact ea
    refine .inl ⟨a,vs,-1,v,rfl,rfl,SqL.of n,hat,?_⟩;have p:=g1.widen w;obtain⟨Ax,Px,Bx,eO,kx1,kx2,_⟩:=(g1.slots w.zd s).put E;rw[eO] at p;have t:Rep R Z1 H1 .dead v []:=by rw[Rep]
    have s2:=kx2 t (λ_ z=>z) (λ_ _=>rfl) (λ_ _=>rfl)<|λ_ _=>rfl;have F:∀ c,(Ax++[]++Bx).count c<=(Ax++Px++Bx).count c:=λc=>by simp only[U8,List.count_nil];lia
    have G:=p.drop (Vg F)<|qD F p.wf.nd;rw[<- eO] at G;have I:Keep pm σ (σ.set x<|some v):=Keep.set hxp;cases eq:q (ρ.set x<|some .dead) with
    | none=>rw[eq] at e;cases e
    | some c=>
     rw[eq] at e;refine hq G.wf.zd s2 eq λ{Z3 H3} g3=>?_;have s3:=g3.slots G.wf.zd s2;have g:=G.trans<|g3.widen G.wf;cases c with
     | true=>
      exact jc9<|hA g.wf s3 e<|k.pre g I
     | false=>
      refine jdm ?_;have J:H3 a=some (.lst vs):=by rw[g3.same a<|by rw[n];exact λz=>(nomatch z)];exact n
      have hi2:i<(ρ.set x<|some D.dead).length:=by rw[List.length_set];exact hi
      have hl2:(ρ.set x<|some D.dead)[i]?=some (some<|.lst true l):=by rw[List.getElem?_set,if_neg f];exact hl
      obtain⟨A,P,B,L,k1,_,k3⟩:=s3.put hi2;obtain⟨v3,M,r3⟩:=k1 _ hl2;have N:(σ.set x<|some v)[i]?=some (some<|.ref a):=by rw[List.getElem?_set,if_neg f];exact ev
      rw[N] at M;cases M;obtain⟨a',vs',Ol,ea',rs3,Q,rfl⟩:=r3;cases ea';rw[J] at Q;cases Q;obtain⟨v',h,S,j,T,rfl,ri,U⟩:=rs3.at hit;rw[hv] at T;cases T;have hx4:x<((ρ.set x<|some D.dead).set i none).length:=by rw[List.length_set,List.length_set];exact E
      obtain⟨A2,P2,B2,eO4,kk1,kk2,_⟩:=k3.put hx4;have hd4:((ρ.set x<|some D.dead).set i none)[x]?=some (some .dead):=by
       rw[List.getElem?_set,if_neg<|λz=>f z.symm,List.getElem?_set,if_pos rfl,if_pos E]
      obtain⟨v4,_,r4⟩:=kk1 _ hd4;have eP2:P2=[]:=by rw[Rep] at r4;exact r4
      subst eP2;have s4:=kk2 ri (λ_ z=>z) (λ_ _=>rfl) (λ_ _=>rfl)<|λ_ _=>rfl;have eσ:(σ.set x<|some v).set x (some v)=σ.set x (some v):=by rw[List.set_set]
      rw[eσ] at s4;have eρ:((ρ.set x<|some D.dead).set i none).set x (some it)=(ρ.set i none).set x (some it):=by
       rw[List.set_comm _ _<|f,List.set_set]
      rw[eρ] at s4;cases e4:fB ((ρ.set i none).set x (some it)) with
      | none=>rw[e4] at e;cases e
      | some o4=>
       rw[e4] at e;cases o4 with
       | nx C=>
        dsimp only at e;have wO:=g.wf;rw[L] at wO;have V:∀ c,A.count c+B.count c=A2.count c+B2.count c:=λc=>by
         have:=congrArg (List.count c) eO4;simpa [U8] using this
        have u:∀ c,(a::(h++j)++(A2++S++B2)++[]).count c<=(A++(a::(h++S++j))++B).count c:=λc=>by
         have:=V c;simp only[U8,List.count_cons,List.count_nil];lia
        have leA:∀ c,(A++(a::(h++S++j))++B).count c<=(a::(h++j)++(A2++S++B2)++[]).count c:=λc=>by
         have:=V c;simp only[U8,List.count_cons,List.count_nil];lia
        have wF:WF Z3 H3 (a::(h++j)++(A2++S++B2)++[]):=wO.sub (Vg u)<|qD u wO.nd;refine hB wF.mid s4 e4 ?_;intro σ5 Z5 H5 O5 g5 s5 y;have W:=g5.frame wF;have keep:=(Go.keepA wF g5).1;split at e
        ·rename_i d X;cases hi5:decide (i<C.length) with
         | false=>rw[hi5] at e;cases e
         | true=>
          rw[hi5] at e;cases e;have hx5:x<C.length:=(L9.mp X).1;obtain⟨A3,P3,B3,eO5,m1,m2,_⟩:=s5.put hx5;obtain⟨v5,Y,r5⟩:=m1 _ X;have evx:σ5[x]?=some (some v):=by
           rw[y x<|by simp,List.getElem?_set,if_pos rfl,if_pos<|by rw[<- s.length] at E;exact E]
          rw[evx] at Y;cases Y;have rd5:Rep R Z5 H5 .dead v []:=by rw[Rep]
          have s6:=m2 rd5 (λ_ z=>z) (λ_ _=>rfl) (λ_ _=>rfl)<|λ_ _=>rfl;rw[yF evx] at s6;have m:=U r5 g5.zz (g5.zH wF.mid) (λb hb=>keep b<|by simp[hb])<|λb hb=>keep b (by simp[hb]);rw[yF hv] at m;have ea5:H5 a=some (.lst vs):=by rw[keep a<|by simp];exact J
          have rl:Rep R Z5 H5 (.lst true<|l.set (l.length-1) d) (.ref a) (a::(h++P3++j)):=by
           rw[Rep];exact⟨a,vs,_,rfl,m,ea5,rfl⟩
          have hi6:i<(C.set x<|some D.dead).length:=by rw[List.length_set];exact(X4 hi5)
          obtain⟨A4,P4,B4,eO6,_,n2,_⟩:=s6.put hi6;have s7:=n2 rl (λ_ z=>z) (λ_ _=>rfl) (λ_ _=>rfl)<|λ_ _=>rfl;have evi:σ5[i]?=some (some<|.ref a):=by rw[y i<|by simp];exact N
          rw[yF evi] at s7;have le7:∀ c,(A4++(a::(h++P3++j))++B4).count c<=(a::(h++j)++O5++[]).count c:=λc=>by
           have q1:=congrArg (List.count c) eO5;have q2:=congrArg (List.count c) eO6;simp only[U8,List.count_nil] at q1 q2;simp only[U8,List.count_cons,List.count_nil];lia
          have g7:=(W.drop (Vg le7)<|qD le7 W.wf.nd).from (Vg u);rw[<- L] at g7;exact k (g.trans g7) s7<|I.trans (y.sub λb hb=>by simp[hb])
        ·cases e
       | bk C=>cases e
       | ct C=>cases e
       | rt d C=>cases e
 ·cases e
def uP{cl}{pm}{X}{pos}{i j:Nat}{xpos apos cpos a b}{j2}(l:QB cl X (.Name x xpos) (vk i)<|pV i)(h:QP cl X e te pe)
  (k:Yq (.Constant (.int (j:Int)) j2 a):=by exact λ_ _=>rfl)
  (d:attributeBase (.Subscript (.Name x xpos) (.Constant (.int (j:Int)) j2 a) b) "append" X.env (eval (.Subscript (.Name x xpos) (.Constant (.int (j:Int)) j2 a) b) X.env)=eval (.Subscript (.Name x xpos) (.Constant (.int (j:Int)) j2 a) b) X.env:=by rfl)
  (g:((backTo cpos<|starEach [e] X.env).all (λx=>!x.1)&&(backToKw cpos<|keywordEach [] X.env).all (λx=>x.1.isSome)
   && decide ([e].length+([]:List Keyword).length+(if([]:List Keyword).isEmpty then 0 else 1)<30))=true:=by rfl)
  (f:(apos.endLine==cpos.line)=true:=by rfl) (hs:starEach [e] X.env=(false,eval e X.env)::starEach [] X.env:=by rfl) (c:(backTo cpos<|starEach [] X.env).any (·.1)=false:=by rfl)
  (hsw:swapsWith (.Call (.Attribute (.Subscript (.Name x xpos) (.Constant (.int (j:Int)) j2 a) b) "append" apos) [e] [] cpos) none pos.line X.env=pure false:=by rfl):
  QS cl pm X (.Expr (.Call (.Attribute (.Subscript (.Name x xpos) (.Constant (.int (j:Int)) j2 a) b) "append" apos) [e] [] cpos) pos) (qJ<|tBM X.K "list" qo (tOp (rIx X.K) (vk i)<|tC<|.int (j:Int))<|yW te JB) (Jm i j pe):=
 ⟨Jk (jaW PySem.F.plainAttrs_list PySem.F.slot_list_append PySem.F.type_list_append qZ (jgv jcf l.sem jfa k) (y6 h.sem qg hs) d g f hs c) hsw,jf8 h.den⟩
def jaM(h:X.N.Nodup)(k:QB cl X (.Name rn rpos) (vk i)<|pV i)(b:QB cl X j tj pj)(l:∀ ρ,pj ρ=some (.int<|-1))(d:QT cl X c tt q)(e:QSs cl pm X A ts f)(g:QSs cl (i::x::pm) X B tu fe)
  (hi:X.N[x]?=some xn:=by rfl) (m:Loc X.env.scope xn:=by first | exact Or.inl rfl | exact Or.inr rfl) (a:Yq j:=by exact λ_ _=>rfl)
  (hs:swapsWith (.Subscript (.Name rn rpos) j spos) (some<|.Name xn xpos) apos.line X.env=pure false:=by rfl)
  (n:X.fn xn=true\/X.env.scope.names.lookup xn=some .local:=by first | exact .inl rfl | exact .inr rfl):
  QSs cl pm X [.Assign [.Name xn xpos] (.Subscript (.Name rn rpos) j spos) apos,.If c A B ipos] (jeX (jcM (tOp (rIx X.K) (vk i) tj)<|Jj x)<|ji1 tt ts tu) (jcj i x pm q f fe):=
 ⟨JL (jbh h hi m (jgv jcf k.sem b.sem a) hs n)<|VW<|jjA d.sem e.sem g.sem,ji3 b.den l d.den e.den g.den⟩
def FT.tupN(h:FT R Z H a vs):jky R.K H a vs:=by
 rcases h with⟨_,h⟩ | h
 ·exact .inl h
 ·exact .inr h
def YV:List D->Option D
 | [.tup l]=>(qE l).bind λps=>bif frzs (ps.map (·.2))&&lim ps.length then some (.dK true (kx ps).1 (kx ps).2) else none
 | _=>none
@[simp] def VC(l):YV [.tup l]=(qE l).bind λps=>bif frzs (ps.map (·.2))&&lim ps.length then some (.dK true (kx ps).1 (kx ps).2) else none:=rfl
def xW:BC R (λxs H Q=>∃(p:Addr) (ys:List V) (ps:List<|Key×V),xs=[.ref p]/\jky R.K H p ys/\ys.length=ps.length/\ps.length<=100000 /\
  (∀(j:Nat) y,ys[j]?=some y->∃ kv t,ps[j]?=some kv/\y=.ref t/\SqT R.K H t [kV kv.1,kv.2])/\∀ D,H D=none->Q (.ref D) (upd H D<|.dK<|ps.foldl (λa kv=>Jd a kv.1 kv.2) [])) YV:=by
 intro Z H xs d vs O z r e Q k
 match xs,e,r with
 | [.tup l],e,r=>
  refine ob e λps n e=>oc e λhm e=>?_;cases e;rw[M0] at hm;obtain⟨v,rfl,o⟩:=r.one_of;obtain⟨p,ys,rfl,s,u⟩:=o;obtain⟨i,b,hl,q⟩:=wH n u hm.1;obtain⟨f,w,A,g⟩:=KM (ks:=[]) b .empty rfl;have c:i.length=ps.length:=by rw[b.length];simp
  refine⟨p,ys,(ps.map λp=>kaV p.1).zip i,rfl,s.tupN,by simp[hl,c],by simp[c];exact X4 hm.2,q,λD m=>?_⟩;refine k (Go.newO (wf0 z) m) ?_;have ne:∀ a,H a≠none->a≠D:=λa h e=>h<|e▸m;exact⟨D,f,[],rfl,w.frame (λa z=>z) (λa h=>jg<|ne a<|z a h)<|λa h=>(nomatch h),g,by show upd H D _ D=some _;rw[jk];exact congrArg (λx=>some<|HO.dK x) A.symm,rfl⟩
def pFz(p:PF):PF:=λρ=>(p ρ).bind λd=>some<|fz d
@[simp] def pFz_e:pFz p ρ=(p ρ).bind λd=>some (fz d):=rfl
def jlp(h:PP R te p):PB R te (pFz p):=by
 intro σ ρ Z H O d z s e Q k;refine ob e λx b e=>?_;cases e;exact h z s b λ{v c f P} g r=>(k g.fz<|r.freeze (λa z=>.inl z) λa z=>.inr z)
def QP.fzb(h:QP cl X e te pe):QB cl X e te (pFz pe):=⟨h.sem,jlp h.den⟩
def Vc:D->D->Option D
 | .tup l,.int n=>bif frzs l&&!l.isEmpty&&decide (l.length<=1000)&&(decide (0<=n)&&decide (n<=1000)) then some (.tup (List.replicate n.toNat l).flatten) else none
 | _,_=>none
def jft:BO R (jfc R.K) Vc:=by
 intro Z H x y d v u O1 O2 z f h e Q k;cases x with
 | tup l=>
  cases y with
  | int n=>
   refine oc e λhl e=>?_;cases e;simp only[M0,decide_eq_true_eq] at hl;obtain⟨p,vs,rfl,i,a⟩:=f.tup_of;obtain⟨rfl,_⟩:=h.int_of;have c:vs≠[]:=by
    intro j;have:=a.length;rw[j] at this;rw[List.eq_nil_of_length_eq_zero this.symm] at hl;simp at hl
   refine⟨p,vs,n,rfl,rfl,i,c,by rw[a.length];exact hl.1.2,hl.2.1,hl.2.2,λm=>?_,λ_ b g=>k (Go.newF (wf0 z) g)<|Rep.tupNew (wf0 z) g<|zm (a.frozen hl.1.1.1) n.toNat⟩;subst m;have o:=a.nil hl.1.1.1;subst o;have:(List.replicate (1:Int).toNat l).flatten=l:=by simp
   rw[this] at k;exact k (Go.id z) f
  | _=>cases e
 | _=>cases y<;>cases e
def jeq(c:QB cl X a ta pa)(d:QB cl X b tb pb):QP cl X (.BinOp a .Mult b pos) (tOp (jfc X.K) ta tb) (p2 Vc pa pb):=⟨Q2 jhr c.sem d.sem,V4 jft c.den d.den⟩
@[simp] def jeR(l)(n):Vc (.tup l) (.int n)=(bif frzs l&&!l.isEmpty&&decide (l.length<=1000)&&(decide (0<=n)&&decide (n<=1000)) then some (.tup (List.replicate n.toNat l).flatten) else none):=rfl
noncomputable def YZ:List Str->List D->Str->Option D
 | n::ns,d::l,f=>if f=n then some d else YZ ns l f
 | _,_,_=>none
theorem Qn:∀{ns}{l}{vs}{O},Reps R Z H l vs O->ns.length=l.length->YZ ns l f=some d->∃ v P,(ns.zip vs).lookup f=some v/\Rep R Z H d v P
 | [],l,vs,O,_,_,h=>by cases l<;>cases h
 | n::ns,[],vs,O,_,hl,_=>by simp at hl
 | n::ns,x::l,vs,O,r,hl,h=>by
  obtain⟨v,a,O1,O2,rfl,rfl,b,c⟩:=r;rw[YZ] at h;by_cases e:f=n
  ·rw[if_pos e] at h;cases h;exact⟨v,O1,by rw[U7,List.lookup_cons,e];simp,b⟩
  ·rw[if_neg e] at h;obtain⟨w,P,g,i⟩:=Qn c ⇑hl h;refine⟨w,P,?_,i⟩;rw[U7,List.lookup_cons];have:(f==n)=false:=by simp[e]
   rw[this];exact g
def qu(c:Nat)(f:Str):D->Option D
 | .ins _ c' ns l=>bif c'==c then YZ ns l f else none
 | _=>none
@[simp] def fldOf_ins:qu c f (.ins o c' ns l)=bif c'==c then YZ ns l f else none:=rfl
@[simp] def vP(c:Nat)(f:Str)(po:PF)(ρ:Rh):Option D:=(po ρ).bind (qu c f)
def jil(g:Cls R.K<|R.cls c)(i:NoAttr R.K (R.cls c) f)(h:PB R ta p):PB R (je1 R.K ta f) (vP c f p):=by
 intro σ ρ Z H O d z s e Q k;refine ob e λx j e=>?_;cases x with
 | ins o m ns l=>
  refine oc e λn q=>?_;obtain rfl:m=c:=by simpa using n
  refine h z s j λ{v C D P1} r t=>?_;obtain⟨a,u,vs,E,rfl,y,hl,A,_⟩:=t;obtain⟨w,P,B,b⟩:=Qn y hl q;exact⟨a,_,u,_,w,rfl,A,g,i,B,k r b⟩
 | _=>cases e
noncomputable def kF:List Str->List D->Str->D->List Str×List D
 | n::ns,x::l,f,d=>if n=f then(n::ns,d::l) else(n::(kF ns l f d).1,x::(kF ns l f d).2)
 | _,_,f,d=>([f],[d])
theorem JY(rd:Rep R Z H d v P):∀{ns}{l}{vs}{O},Reps R Z H l vs O->ns.length=l.length ->
  Ex2 λvs2 O2=>An4 (Reps R Z H (kF ns l f d).2 vs2 O2) ((kF ns l f d).1.zip vs2=Ve f v (ns.zip vs)) ((kF ns l f d).1.length=(kF ns l f d).2.length)<|∀ c,O2.count c<=O.count c+P.count c
 | [],[],vs,O,r,_=>by
  obtain⟨rfl,rfl⟩:=r;exact⟨[v],P,.one rd,rfl,rfl,λc=>by simp⟩
 | [],_::_,_,_,_,hl=>by simp at hl
 | _::_,[],_,_,_,hl=>by simp at hl
 | n::ns,x::l,vs,O,r,hl=>by
  obtain⟨u,a,O1,O2,rfl,rfl,g,b⟩:=r;rw[kF];by_cases e:n=f
  ·rw[if_pos e];refine⟨v::a,P++O2,Reps.cons rd b,?_,hl,λc=>by simp only[U8];lia⟩;rw[U7,U7,Ve,if_pos e]
  ·rw[if_neg e];obtain⟨vs2,h,i,j,k,c3⟩:=JY rd b ⇑hl;refine⟨u::vs2,O1++h,Reps.cons g i,?_,by simp[k],λc=>by have:=c3 c;simp only[U8];lia⟩;rw[U7,U7,Ve,if_neg e,j]
@[simp] def vM(i:Nat)(c:Nat)(f:Str)(pv:PF)(ρ:Rh):Option Out:=(pv ρ).bind λd=>(pV i ρ).bind λt=>(wy t).bind λy=>bif y.1==c&&decide (y.2.1.length<=900) then some (.nx<|ρ.set i<|some<|.ins true c (kF y.2.1 y.2.2 f d).1 (kF y.2.1 y.2.2 f d).2) else none
def jbP{l:List α}{m:List β}(h:decide (l.length<=900)=true):(l.zip m).length<1000:=by
 rw[List.length_zip];exact E1 (Nat.min_le_left _ _) (by lia)
def jh0{R}{pm}{i c}{f}{tv}{pv}(j:Cls R.K<|R.cls c)(m:NoAttr R.K (R.cls c) f)(n:PP R tv pv):DS R pm (jls R.K (vk i) tv f) (vM i c f pv):=by
 intro σ ρ Z H O o w s e J k;refine ob e λd p e=>ob e λt hl e=>ob e λ⟨r,ns,l⟩ v e=>oc e λhm e=>?_;cases e;cases JM v;rw[M0] at hm;obtain rfl:r=c:=by simpa using hm.1
 refine n w.zd s p λ{u L M P1} h x=>?_;have b:=h.widen w;refine qG YM b.wf (h.slots w.zd s) hl rfl ow_ins λa y vs N z g A B put=>B ?_;obtain⟨C,O2,D,E,F,c3⟩:=JY x z g;obtain⟨P,G,I⟩:=put ow_ins F (Go.id b.wf.zd) D λq=>by have:=c3 q;simp;lia
 refine⟨a,_,y,_,rfl,A,j,m,jbP hm.2,?_⟩;rw[<- E];exact k (b.trans G) I<|Keep.refl _ _
def jfk(b:Cls X.K<|cl c)(d:NoAttr X.K (cl c) f)(a:QB cl X o to po)(e:attributeBase o f X.env (eval o X.env)=eval o X.env:=by rfl):QB cl X (.Attribute o f pos) (je1 X.K to f) (vP c f po):=⟨uC a.sem e,jil b d a.den⟩
def jei(b:Cls X.K<|cl c)(d:NoAttr X.K (cl c) f)(g:QB cl X (.Name x xpos) (vk i)<|pV i)(a:QP cl X e te pe)(hs:swapsWith e (some<|.Attribute (.Name x xpos) f pos') pos.line X.env=pure false:=by rfl):
  QS cl pm X (.Assign [.Attribute (.Name x xpos) f pos'] e pos) (jls X.K (vk i) te f) (vM i c f pe):=⟨jiD g.sem a.sem hs,jh0 b d a.den⟩
noncomputable def jiJ:List Str->Str->Option Nat
 | [],_=>none
 | n::ns,f=>if f=n then some 0 else(jiJ ns f).map (·+1)
theorem zY:∀{ns}{f}{vs}{j}{v:V},jiJ ns f=some j->ns.length=vs.length->vs[j]?=some v->(ns.zip vs).lookup f=some v
 | [],_,_,_,_,h,_,_=>by cases h
 | n::ns,f,[],_,_,_,hl,_=>by simp at hl
 | n::ns,f,u::vs,j,v,h,hl,a=>by
  rw[jiJ] at h;by_cases e:f=n
  ·rw[if_pos e] at h;cases h;cases a;rw[U7,List.lookup_cons,e];simp
  ·rw[if_neg e] at h;cases hp:jiJ ns f with
   | none=>rw[hp] at h;cases h
   | some i=>
    rw[hp] at h;cases h;rw[U7,List.lookup_cons,show(f==n)=false by simp[e]];exact zY hp ⇑hl ⇑a
theorem VQ:∀{ns}{l}{vs:List V},ns.length=l.length->vs.length=l.length->YZ ns l f=none->(ns.zip vs).lookup f=none
 | [],_,_,_,_,_=>rfl
 | n::ns,[],_,hl,_,_=>by simp at hl
 | n::ns,x::l,[],_,a,_=>by simp at a
 | n::ns,x::l,v::vs,hl,a,h=>by
  rw[YZ] at h;by_cases e:f=n
  ·rw[if_pos e] at h;cases h
  ·rw[if_neg e] at h;rw[U7,List.lookup_cons,show(f==n)=false by simp[e]];exact VQ ⇑hl ⇑a h
@[simp] def kz(m:List D->Option (D×D))(i c:Nat)(mn:Str)(p:PAf)(ρ:Rh):Option (D×Rh):=(p ρ).bind λds=>(pV i ρ).bind λt=>(wy t).bind λy=>bif y.1==c&&(frzs ds&&(YZ y.2.1 y.2.2 mn).isNone) then(m<|t::ds).bind λr=>some (r.1,ρ.set i<|some r.2) else none
def xO(h:PPs R ta p)(hn:∀ ρ ds,p ρ=some ds->ds.length+1=n):DE R (Vs (R.cls c) mn (spM R m n 0) [] E0 (vk i) ta) (kz m i c mn p):=by
 intro σ ρ ρ' Z H O d w s e Q k;refine ob e λds D e=>ob e λy hl e=>ob e λ⟨j,ns,l⟩ L e=>oc e λhm e=>ob e λ⟨M,N⟩ S e=>?_;cases e;cases JM L;have hl:=K2 hl;rw[M0,M0] at hm;obtain⟨o,q,r⟩:=hm;obtain rfl:j=c:=by simpa using o
 have E:=(L9.mp hl).1;obtain⟨A0,P0,B0,_,T,_,_⟩:=s.put E;obtain⟨u,t,U⟩:=T _ hl;obtain⟨a,V,vs,O',rfl,W,x,X,_⟩:=U;refine⟨.ref a,t,a,V,_,rfl,X,VQ x W.length<|Option.isNone_iff_eq_none.mp r,(h w.zd s D λ{Y z F P1} G I=>?_)⟩;cases I.nil q;have b:Go Z H O z F O:=by simpa using G.widen w
 obtain⟨A,P,B,rfl,k1,k2,_⟩:=(G.slots w.zd s).put E;obtain⟨u',f,rc⟩:=k1 _ hl;rw[t] at f;cases f;have rr:Reps R z F (.ins true j ns l::ds) (.ref a::Y) P:=by
  have:=Reps.cons rc I;simpa using this
 refine⟨z,.ins true j ns l::ds,M,N,P,.ref a,b.wf.mid,by have:=hn ρ ds D;simpa using this,by rw[M9];exact rr,rfl,S,λ{v Z2 H2 P2 O2} g r2 C=>?_⟩;have J:=Go.keepA b.wf g;have K:=k2 C g.zz (g.zH b.wf.mid) J.1 J.2;rw[yF t] at K;exact k (b.trans<|g.frame b.wf).turn r2 K
noncomputable def jiA:D×D->Option D
 | (.non,t)=>some t
 | _=>none
@[simp] def nonOf_non(t):jiA (.non,t)=some t:=rfl
@[simp] def YI(m:List D->Option (D×D))(c:Nat)(p:PAf)(ρ:Rh):Option D:=(p ρ).bind λds=>bif frzs ds then(m<|.ins true c [] []::ds).bind jiA else none
def jfe(h:PPs R ta p)(hn:∀ ρ ds,p ρ=some ds->ds.length+1=n):PP R (jgL (R.cls c) (spM R m n 0) [] E0 ta) (YI m c p):=by
 intro σ ρ Z H O d z s e Q k;refine ob e λds r e=>oc e λA e=>ob e λ⟨x,t⟩ B e=>?_;cases x with
 | non=>
  cases e;refine h z s r λ{I C u P1} f w=>?_;cases w.nil A;intro x b D g i;have y:=Go.newF (o:=.own x) (wf0 f.wf.zd) g;have j:upd u b (.own x) x=none:=by rw[jg<|λe=>i e.symm];exact D
  have l:=y.trans<|Go.newO (o:=.ins (R.cls c) b []) y.wf j;have E:Rep R (λa=>C a\/a=b) (upd (upd u b<|.own x) x<|.ins (R.cls c) b []) (.ins true c [] []) (.ref x) [x]:=by
   exact⟨x,b,[],[],rfl,.empty,rfl,jk,rfl⟩
  refine⟨_,.ins true c [] []::ds,.non,d,[x],.ref x,l.wf,by have:=hn ρ ds r;simpa using this,by rw[M9];have:=Reps.cons E<|l.reps f.wf.zd w;simpa using this,rfl,B,λ{v Z3 J P3 K} F G q=>?_⟩;obtain⟨rfl,rfl⟩:=G;exact⟨rfl,k (by simpa using(f.trans l).trans F) q⟩
 | _=>cases e
section
variable {cl:Nat->Addr}{pm:List Nat}{X:Cx}{e:Expr}{es:List Expr}{tr:TA}{pr:PAf}{pos p apos:Pos}
structure MtFact(K:W3)(C:Addr)(x qual:Str)(st:Stmt)(f:Addr)(fd:FuncData)(ps:List Str):Prop where
 fn:Fun K x qual st f fd
 mt:Meth K C x f
 bd:Binds K fd ps []
def OkM(P:Program)(w:World)(K:W3)(mg:W5)(C:Addr)(x qual:Str)(st:Stmt)(k:Nat)(ps:List Str)(sp:Sp):Prop:=∃ f fd,MtFact K C x qual st f fd ps/\∀ base,FnOk P w K mg base CX0 k f fd ps sp
def jaR{k n i c}{ps}{m}{x mn qual}{st}{g}(h:Cls X.K<|cl c)(O:OkM X.prog X.w X.K X.mg (cl c) mn qual st k ps<|spM ⟨X.K,cl⟩ m n 0)(j:Room k X.A)(l:QB cl X (.Name x p) (vk i)<|pV i)(d:QPs cl X (e::es) tr pr)(hn:∀ ρ ds,pr ρ=some ds->ds.length+1=n)
  (a:SEq X e es:=by rfl) (b:BkE X pos es:=by rfl)
  (o:eval (.Call (.Attribute (.Name x p) mn apos) (e::es) [] pos) X.env=(do
   let ov <- eval (.Name x p) X.env
   standAt apos.atName
   let (f,first) <- holding [ov] (getMethod ov mn g)
   callWith pos f first (backTo pos<|starEach (e::es) X.env) (backToKw pos<|keywordEach [] X.env)):=by rfl):
  QE cl X (.Call (.Attribute (.Name x p) mn apos) (e::es) [] pos) (Vs (cl c) mn (spM ⟨X.K,cl⟩ m n 0) [] E0 (vk i) tr) (kz m i c mn pr):=by
 obtain⟨_,_,F,G⟩:=O;exact⟨jab l.sem h F.mt (G _) j F.bd .nil wY d.sem a b o,xO d.den hn⟩
def jeH{k n c}{ps}{m}{x qual}{st}(f:PySem.W.makesIn X.K (cl c)=true)(g:PySem.W.keepIn X.K (.ref<|cl c)=true)(O:OkM X.prog X.w X.K X.mg (cl c) "__init__" qual st k ps<|spM ⟨X.K,cl⟩ m n 0)(h:Room (k+1) X.A)(hm:X.mg x=some (.ref<|cl c))(d:QPs cl X (e::es) tr pr)(hn:∀ ρ ds,pr ρ=some ds->ds.length+1=n)(i:Gl X x:=by rfl)
  (a:Nd x:=by decide) (j:SEq X e es:=by rfl) (b:BkE X pos es:=by rfl):
  QP cl X (.Call (.Name x p) (e::es) [] pos) (jgL (cl c) (spM ⟨X.K,cl⟩ m n 0) [] E0 tr) (YI m c pr):=by
 obtain⟨_,_,F,G⟩:=O;exact⟨jfG ⟨f,F.mt.at_,F.mt.fn,g⟩ (G _) h i hm F.bd .nil wY d.sem a j b,jfe d.den hn⟩
end
@[simp] def jQ(m:List D->Option D)(c:Nat)(mn:Str)(po:PF)(p:PAf)(ρ:Rh):Option D:=(po ρ).bind λs=>(jlE s).bind λy=>bif y.1==c&&(YZ y.2.1 y.2.2 mn).isNone then(p ρ).bind λds=>(m<|fzs<|s::ds).bind λd=>bif frzs (s::ds)||yx d then some d else none else none
def jan(q:PB R to po)(r:PBs R ta p)(hn:∀ ρ ds,p ρ=some ds->ds.length+1=n):PP R (Vs (R.cls c) mn (spP R m n) [] E0 to ta) (jQ m c mn po p):=by
 intro σ ρ Z H O d z s e Q k;refine ob e λG t e=>ob e λ⟨u,ns,l⟩ v e=>oc e λhm e=>ob e λds i e=>ob e λc0 w e=>oc e λx e=>?_;cases e;obtain⟨o,rfl⟩:=jgZ v;rw[M0] at hm;obtain rfl:u=c:=by simpa using hm.1
 refine q z s t λ{I J K L} b j=>?_;have f:=j;obtain⟨a,y,A,M,rfl,B,g,C,_⟩:=f;exact⟨a,y,_,rfl,C,VQ g B.length<|Option.isNone_iff_eq_none.mp hm.2,r b.wf.zd (b.slots z s) i λh D=>uQ h.wf.zd (Reps.cons (h.rep b.wf.zd j) D) (hn ρ ds i) w x λE F=>k (by simpa using(b.pair h).pair E) F⟩
def YG(c:Nat)(f:Str)(L:Ln)(d:D):Option (D×(D->D)):=(L d).bind λy=>(wy y.1).bind λq=>bif q.1==c then(jiJ q.2.1 f).bind λj=>(q.2.2[j]?).bind λx=>some (x,λx'=>y.2<|.ins true q.1 q.2.1<|q.2.2.set j x') else none
def jic(G:Cls R.K<|R.cls c)(I:NoAttr R.K (R.cls c) f)(h:jcg R tb i L):jcg R (je1 R.K tb f) i (YG c f L):=by
 intro σ ρ Z H O d x k s hd e;refine ob e λ⟨y,k0⟩ J e=>ob e λ⟨M,ns,l⟩ N e=>oc e λQ e=>ob e λj S e=>ob e λx0 T e=>?_;cases e;cases JM N;obtain rfl:M=c:=by simpa using Q
 obtain⟨v,A,P,B,rfl,r,U,V⟩:=h s hd J;obtain⟨a,t,vs,O',rfl,w,n,z,rfl⟩:=r;obtain⟨u,W,X,Y,C,rfl,ru,o⟩:=w.at T;refine⟨u,A++(a::W),X,Y++B,by simp,ru,λq=>U ⟨a,_,t,_,u,rfl,z,G,I,zY S (by rw[w.length];exact n) C,q⟩,λ{Z' H' x' P''} r' D E p F=>?_⟩;have g:=o r' D E (λb m=>p b<|by simp[m])<|λb m=>F b (by simp[m]);rw[yF C] at g;have s2:=V (ow_ins.mpr ⟨a,t,vs,_,rfl,g,by rw[List.length_set];exact n,(p a<|by simp).trans z,rfl⟩) D E (λb m=>p b<|by simp[m])<|λb m=>F b (by simp[m]);simpa using s2
structure QL(cl:Nat->Addr)(X:Cx)(e:Expr)(tb:TE)(i:Nat)(L:Ln):Prop where
 sem:PE X e tb
 den:jcg ⟨X.K,cl⟩ tb i L
section
variable {cl:Nat->Addr}{pm:List Nat}{X:Cx}{o e j:Expr}{es:List Expr}{to te tb tj:TE}{po pe pj:PF}{tr:TA}{pr:PAf}{pos p apos:Pos}{L L':Ln}{i:Nat}
def jbr{k n c}{ps}{m}{mn qual}{st}{i}(j:Cls X.K<|cl c)(O:OkM X.prog X.w X.K X.mg (cl c) mn qual st k ps<|spP ⟨X.K,cl⟩ m n)(l:Room k X.A)(g:QB cl X o to po)(a:QBs cl X (e::es) tr pr)(hn:(e::es).length+1=n:=by rfl)
  (b:SEq X e es:=by rfl) (d:BkE X pos es:=by rfl)
  (p:eval (.Call (.Attribute o mn apos) (e::es) [] pos) X.env=(do
   let ov <- eval o X.env
   standAt apos.atName
   let (f,first) <- holding [ov] (getMethod ov mn i)
   callWith pos f first (backTo pos<|starEach (e::es) X.env) (backToKw pos<|keywordEach [] X.env)):=by rfl):
  QP cl X (.Call (.Attribute o mn apos) (e::es) [] pos) (Vs (cl c) mn (spP ⟨X.K,cl⟩ m n) [] E0 to tr) (jQ m c mn po pr):=by
 obtain⟨_,_,F,G⟩:=O;exact⟨jab g.sem j F.mt (G _) l F.bd .nil wY a.sem b d p,jan g.den a.den λρ q h=>by rw[a.n ρ q h];exact hn⟩
def jeM{x}(a:QB cl X (.Name x p) (vk i)<|pV i):QL cl X (.Name x p) (vk i) i Jc:=⟨a.sem,YM⟩
def jek{c}{f}(a:Cls X.K<|cl c)(b:NoAttr X.K (cl c) f)(h:QL cl X o tb i L)(d:attributeBase o f X.env (eval o X.env)=eval o X.env:=by rfl):QL cl X (.Attribute o f pos) (je1 X.K tb f) i (YG c f L):=
 ⟨uC h.sem d,jic a b h.den⟩
def jaq{cpos}(hl:QL cl X o tb i L)(h:QP cl X e te pe)(b:attributeBase o "append" X.env (eval o X.env)=eval o X.env:=by rfl)
  (d:((backTo cpos<|starEach [e] X.env).all (λx=>!x.1)&&(backToKw cpos<|keywordEach [] X.env).all (λx=>x.1.isSome)
   && decide ([e].length+([]:List Keyword).length+(if([]:List Keyword).isEmpty then 0 else 1)<30))=true:=by rfl)
  (c:(apos.endLine==cpos.line)=true:=by rfl) (hs:starEach [e] X.env=(false,eval e X.env)::starEach [] X.env:=by rfl) (a:(backTo cpos<|starEach [] X.env).any (·.1)=false:=by rfl)
  (hsw:swapsWith (.Call (.Attribute o "append" apos) [e] [] cpos) none pos.line X.env=pure false:=by rfl):
  QS cl pm X (.Expr (.Call (.Attribute o "append" apos) [e] [] cpos) pos) (qJ<|tBM X.K "list" qo tb<|yW te JB) (ww i L pe):=
 ⟨Jk (jaW PySem.F.plainAttrs_list PySem.F.slot_list_append PySem.F.type_list_append qZ hl.sem (y6 h.sem qg hs) b d c hs a) hsw,jbx hl.den h.den⟩
end
noncomputable def Kp(q:PTf)(f:FS):Nat->FS
 | 0,_=>none
 | n+1,ρ=>(q ρ).bind λb=>bif b then((f ρ).bind λo=>match o with
  | .nx ρ2=>Kp q f n ρ2
  | .ct ρ2=>Kp q f n ρ2
  | .bk ρ2=>some<|.nx ρ2
  | .rt d ρ2=>some<|.rt d ρ2) else some (.nx ρ)
def Vf(n:Nat)(q:PTf)(f:FS):FS:=Kp q f n
def jdQ(I:PTt R tt q)(J:DS R pm tb f):DS R pm (uB tt tb) (Vf n q f):=by
 intro σ ρ Z H O o w s e U k;refine⟨λm z x=>∃ A y r,Go Z H O y x r/\Slots R y x A z r/\Keep pm σ z/\Kp q f m A=some o,⟨n,ρ,Z,O,Go.refl w,s,Keep.refl _ _,e⟩,?_⟩;rintro m z x ⟨A,y,r,h,E,kp,c⟩;cases m with
 | zero=>cases c
 | succ m=>
  refine ob c λb K c=>(I h.wf.zd E K λ{p t} F=>?_);have a:Go y x r p t r:=by simpa using F.widen h.wf
  have G:=F.slots h.wf.zd E;cases b with
  | false=>
   cases c;exact jdm<|k (h.trans a) G kp
  | true=>
   refine jc9<|ob c λL M c=>⟨λB t=>∃ g p O2,Go Z H O p t O2/\Slots R p t g B O2/\Keep pm σ B/\Kp q f m g=some o,λB t ⟨g,p,O2,N,P,Q,S⟩=>⟨m,Nat.lt_succ_self _,g,p,O2,N,P,Q,S⟩,(J a.wf G M ?_)⟩;cases L with
   | nx g=>exact λ{C u D v} i j l=>⟨g,u,v,h.trans<|a.trans i,j,kp.trans l,c⟩
   | ct g=>exact λ{C u D v} i j l=>⟨g,u,v,h.trans<|a.trans i,j,kp.trans l,c⟩
   | bk g=>cases c;exact λ{C u D v} i j l=>k (h.trans<|a.trans i) j<|kp.trans l
   | rt d g=>cases c;exact λ{V C u D P4 v} i T j l=>k (h.trans<|a.trans i) T j<|kp.trans l
def zu(d:PassesOwn (model X.prog X.w) X.A X.env X.xe)(a:QT cl X c tt q)(b:QSs cl pm X body ts f):QS cl pm X (.While c body [] pos) (uB tt ts) (Vf n q f):=⟨jdz d a.sem b.sem,jdQ a.den b.den⟩
section
variable {R:RC}{Z Z' Z2:Zn}{H H' H2:Hp}{pm:List Nat}
def ja2(rd:Rep R Z H d v P)(a)  (r:Reps R Z H l vs O) (hl:ks.length=l.length) (hn:a∉ks):
  Reps R Z H (vT ks l a d).2 (vs++[v]) (O++P)/\(((vT ks l a d).1).map kaV).zip (vs++[v])=Jd ((ks.map kaV).zip vs) (kaV a) v/\(vT ks l a d).1.length=(vT ks l a d).2.length:=by
 have b:ks.length=vs.length:=by rw[r.length];exact hl
 unfold vT Jd;rw[Q0 a b,if_neg hn,X2 hn,if_neg<|λz=>(nomatch z)];refine⟨r.append<|Reps.one rd,?_,by simp[hl]⟩;rw[N5,List.zip_append ⇑b];rfl
def vD(i:Nat)(L:Ln)(pk pv:PF)(ρ:Rh):Option Out:=(pv ρ).bind λd=>(pV i ρ).bind λt=>(L t).bind λy=>(jen y.1).bind λkl=>(pk ρ).bind λq=>(kC q).bind λa=>bif lim kl.1.length&&(frz d||!decide (a∈kl.1)) then some (.nx<|ρ.set i<|some<|y.2<|.dK true (vT kl.1 kl.2 a d).1 (vT kl.1 kl.2 a d).2) else none
def jdF{i}{L}{tb ty tv}{pk pv}(D:jcg R tb i L)(E:PB R ty pk)(F:PP R tv pv):DS R pm (Qr tb ty tv) (vD i L pk pv):=by
 intro σ ρ Z H O o w s e D' k;refine ob e λd G e=>ob e λt I e=>ob e λ⟨y,k0⟩ J e=>ob e λ⟨g,l⟩ K e=>ob e λq M e=>ob e λc N e=>oc e λhm e=>?_;cases e;cases jb2 K;rw[M0] at hm;refine F w.zd s G λ{u Z1 H1 P1} h A=>?_;have B:=h.slots w.zd s;have C:=h.widen w;refine qG D C.wf B I J jcT λa _ vs P Q j S T put=>T<|E h.wf.zd B M λ{z U V P2} v W=>?_;obtain⟨rfl,_⟩:=yR N W;have m:=v.rep h.wf.zd A;have n:=v.reps h.wf.zd Q;have x:∃ b O2,Reps R U V (vT g l c d).2 b O2/\(((vT g l c d).1).map kaV).zip b=Jd ((g.map kaV).zip vs) (kaV c) u/\(∀ q,O2.count q<=P.count q+P1.count q)/\(vT g l c d).1.length=(vT g l c d).2.length:=by
  cases hf:frz d with
  | true=>
   cases A.nil hf;obtain⟨b,O2,p,r,X,f⟩:=VU m c n j;exact⟨b,O2,p,r,⇑X.count_le,f⟩
  | false=>
   have Y:c∉g:=by
    have:=hm.2;rw[hf] at this;simpa using this
   obtain⟨p,r,f⟩:=ja2 m c n j Y;exact⟨_,_,p,r,λq=>by rw[U8];exact M8 _,f⟩
 obtain⟨b,O2,p,r,cn,f⟩:=x;obtain⟨O3,g3,s3⟩:=put jcT f v p ⇑cn;refine⟨a,_,rfl,DPut.k (v.at0 S)<|Q3 hm.1,?_⟩;rw[<- r];exact k (C.trans g3) s3<|Keep.refl _ _
def xQ(i:Nat)(L:Ln)(c:Nat)(f:Str)(g:Int->Int->Int)(pv:PF)(ρ:Rh):Option Out:=(pV i ρ).bind λt=>(L t).bind λy=>(wy y.1).bind λq=>(YZ q.2.1 q.2.2 f).bind λm=>(Ku m).bind λm=>(pv ρ).bind λn=>(Ku n).bind λn=>
 bif q.1==c&&decide (q.2.1.length<=900) then some (.nx<|ρ.set i<|some<|y.2<|.ins true c (kF q.2.1 q.2.2 f<|.int<|g m n).1 (kF q.2.1 q.2.2 f<|.int<|g m n).2) else none
def jcY{i c}{f}{L}{tb tv}{pv}{g}{rd}(d:∀{m n}{H}{Q},Q (.int<|g m n) H->rd (.int m) (.int n) H Q)(B:Cls R.K<|R.cls c)(C:NoAttr R.K (R.cls c) f)(D:jcg R tb i L)(E:PB R tv pv):DS R pm (Qz R.K tb tv rd f) (xQ i L c f g pv):=by
 intro σ ρ Z H O o w s e D' k;refine ob e λt F e=>ob e λ⟨y,k0⟩ G e=>ob e λ⟨I,ns,l⟩ J e=>ob e λx hm e=>ob e λm M e=>ob e λx' N e=>ob e λn P e=>oc e λh e=>?_;cases e;cases JM J;cases kX M;cases kX P;rw[M0] at h;obtain rfl:I=c:=by simpa using h.1
 refine qG (P0:=[]) D w s F G ow_ins λa v vs O' z b A S put=>?_;obtain⟨mv,P3,j,p⟩:=Qn z b hm;obtain⟨rfl,_⟩:=p.int_of;refine S ⟨a,_,v,_,_,rfl,A,B,C,j,E w.zd s N λ{u Z2 H2 P4} q T=>?_⟩;obtain⟨rfl,_⟩:=T.int_of;obtain⟨U,O2,V,W,r,c3⟩:=JY (Rep.int_mk) (q.reps w.zd z) b;obtain⟨O3,X,Y⟩:=put ow_ins r q V ⇑c3;refine d ⟨v,_,q.at0 A,jbP h.2,?_⟩;rw[<- W];exact k X Y<|Keep.refl _ _
end
section
variable {cl:Nat->Addr}{pm:List Nat}{X:Cx}{o b e:Expr}{to tb te:TE}{po pb pe:PF}{pos p fp tpos:Pos}{k i:Nat}{L:Ln}
def zI(d:Room k X.A)(hl:QL cl X o to i L)(a:QB cl X b tb pb)(c:QP cl X e te pe)(hs:swapsWith e (some<|.Subscript o b pos') pos.line X.env=pure false:=by rfl):
  QS cl pm X (.Assign [.Subscript o b pos'] e pos) (Qr to tb te) (vD i L pb pe):=⟨Q5 (wD d) hl.sem a.sem c.sem hs,jdF hl.den a.den c.den⟩
def V9{c}{f}(b:Cls X.K<|cl c)(d:NoAttr X.K (cl c) f)(hl:QL cl X o to i L)(a:QB cl X e te pe):
  QS cl pm X (.AugAssign (.Attribute o f tpos) .Add e pos) (Qz X.K to te jlO f) (xQ i L c f (λm n=>m+n) pe):=⟨jax hl.sem a.sem jiV,jcY (λq=>⟨_,_,rfl,rfl,q⟩) b d hl.den a.den⟩
end
namespace QK
def fld{K}{cl}{X}{o}{to}{po}{pos}{c}{f}(a:X.K=K)(b:Cls X.K<|cl c)(d:NoAttr X.K (cl c) f)(e:QB cl X o to po)(g:attributeBase o f X.env (eval o X.env)=eval o X.env:=by rfl):QB cl X (.Attribute o f pos) (je1 K to f) (vP c f po):=by subst a;exact jfk b d e g
def meth{K}{cl}{X}{o e}{es}{to}{po}{tr}{pr}{pos apos}{k n c}{ps}{m}{mn qual}{st}{d}(g:X.K=K)(h:Cls X.K<|cl c)(O:OkM X.prog X.w X.K X.mg (cl c) mn qual st k ps<|spP ⟨X.K,cl⟩ m n)(i:Room k X.A)(j:QB cl X o to po)(l:QBs cl X (e::es) tr pr)(hn:(e::es).length+1=n:=by rfl)
  (a:SEq X e es:=by rfl) (b:BkE X pos es:=by rfl)
  (p:eval (.Call (.Attribute o mn apos) (e::es) [] pos) X.env=(do
   let ov <- eval o X.env
   standAt apos.atName
   let (f,first) <- holding [ov] (getMethod ov mn d)
   callWith pos f first (backTo pos<|starEach (e::es) X.env) (backToKw pos<|keywordEach [] X.env)):=by rfl):
  QP cl X (.Call (.Attribute o mn apos) (e::es) [] pos) (Vs (cl c) mn (spP ⟨K,cl⟩ m n) [] E0 to tr) (jQ m c mn po pr):=by subst g;exact jbr h O i j l hn a b p
end QK
section
variable {cl:Nat->Addr}{pm:List Nat}{X:Cx}{o e:Expr}{es:List Expr}{to te:TE}{po pe:PF}{tr:TA}{pr:PAf}{pos p:Pos}{i:Nat}{L:Ln}
def xt(e:Room k X.A)(c:QB cl X a ta pa)(d:QB cl X b tb pb)(hm:behindInMarks .NotIn b=false:=by with_unfolding_all rfl):QP cl X (.Compare a [.NotIn] [b] pos) (VI ta tb) (p2 (YK true) pa pb):=
 ⟨jkg (jbv (wD e) c.sem d.sem) hm,uT c.den d.den⟩
end
section
variable {R:RC}{Z Z':Zn}{H H':Hp}{pm:List Nat}
def PK(R:RC)(te:TE)(pk:Rh->Option (List KA))(pv:PF):Prop:=∀{σ}{ρ}{Z}{H}{O}{c}{d},Zd Z H->Slots R Z H ρ σ O->pk ρ=some c->pv ρ=some d->frz d=true ->
 ∀{Q},(∀{t b}{u}{Z'}{H'},Go Z H [] Z' H' []->Z' t->Z' b->H' t=some (.tup [.ref b,u])->H' b=some (.tup<|(c.map kaV).map kV)->Rep R Z' H' d u []->Q (.ref t) H')->te σ H Q
end
section
variable {cl:Nat->Addr}{pm:List Nat}{X:Cx}{tg iter elt:Expr}{ifs:List Expr}{wi:TI}{pi:PAf}{t:TG}{g:D->Rh->Option Rh}{te:TE}{pk:Rh->Option (List KA)}{pv:PF}{pos cpos p:Pos}
structure QKv(cl:Nat->Addr)(X:Cx)(e:Expr)(te:TE)(pk:Rh->Option (List KA))(pv:PF):Prop where
 sem:PE X e te
 den:PK ⟨X.K,cl⟩ te pk pv
end
end QD
namespace L2
open PySem PySem.Spec PyProof.Rows
end L2
namespace QD
open PySem L2 PySem.Spec PyProof.Rows
end QD
namespace QD
open PySem L2
end QD
namespace L2
open PySem PySem.Spec PyProof.Rows
end L2
namespace QD
open PySem L2 PySem.Spec PyProof.Rows
mutual
noncomputable def pln:D->Bool
 | .tup l=>jku l
 | .non=>true | .bl _=>true | .int _=>true | .str _=>true
 | .lst _ _=>false | .dK _ _ _=>false | .dT _ _ _=>false | .dN _ _=>false | .lam=>false | .ins _ _ _ _=>false | .dead=>false | .tok _=>false | .kt _=>false | .exc _ _=>false
noncomputable def jku:List D->Bool
 | []=>true
 | d::l=>pln d&&jku l
end
mutual
theorem Rep.cutA{a:Addr}(ha:∀ vs,¬ Rd H a (.tup vs))(hH:∀ b,b≠a->H' b=H b):∀{d:D}{v:V}{O:W4},pln d=true->Rep R Z H d v O->Rep R (λb=>Z b/\b≠a) H' d v O
 | .non,_,_,_,r=>by rw[Rep] at r ⊢;exact r
 | .bl _,_,_,_,r=>by rw[Rep] at r ⊢;exact r
 | .int _,_,_,_,r=>by rw[Rep] at r ⊢;exact r
 | .str _,_,_,_,r=>by rw[Rep] at r ⊢;exact r
 | .tup l,_,_,h,r=>by
  rw[pln] at h;rw[Rep] at r ⊢;obtain⟨p,vs,e,t,r⟩:=r;refine⟨p,vs,e,?_,Reps.cutA ha hH h r⟩;rcases t with⟨z,t⟩ | t
  ·have ne:p≠a:=λq=>ha vs<|q▸t;exact .inl ⟨⟨z,ne⟩,Rd.agree (hH p ne) t⟩
  ·exact .inr t
 | .lst _ _,_,_,h,_=>by rw[pln] at h;cases h
 | .dK _ _ _,_,_,h,_=>by rw[pln] at h;cases h
 | .dT _ _ _,_,_,h,_=>by rw[pln] at h;cases h
 | .dN _ _,_,_,h,_=>by rw[pln] at h;cases h
 | .ins _ _ _ _,_,_,h,_=>by rw[pln] at h;cases h
 | .dead,_,_,h,_=>by rw[pln] at h;cases h
 | .tok _,_,_,h,_=>by rw[pln] at h;cases h
 | .kt _,_,_,h,_=>by rw[pln] at h;cases h
 | .exc _ _,_,_,h,_=>by rw[pln] at h;cases h
 | .lam,_,_,h,_=>by rw[pln] at h;cases h
theorem Reps.cutA{a:Addr}(ha:∀ vs,¬ Rd H a (.tup vs))(hH:∀ b,b≠a->H' b=H b):∀{l:List D}{vs:List V}{O:W4},jku l=true->Reps R Z H l vs O->Reps R (λb=>Z b/\b≠a) H' l vs O
 | [],_,_,_,r=>by rw[Reps] at r ⊢;exact r
 | d::l,_,_,h,r=>by
  rw[jku,M0] at h;rw[Reps] at r ⊢;obtain⟨v,vs',O1,O2,e1,e2,r1,r2⟩:=r;exact⟨v,vs',O1,O2,e1,e2,Rep.cutA ha hH h.1 r1,Reps.cutA ha hH h.2 r2⟩
end
def wT(i:Nat):FS:=λρ=>match ρ[i]? with
 | some (some (.lst true l))=>bif frzs l then some (.nx<|ρ.set i<|some<|.lst true []) else none
 | _=>none
def jfP:DS R pm (qJ<|jjN R.K "list" u3<|vk i) (wT i):=by
 intro σ ρ Z H O o w s e x k;unfold wT at e;split at e
 ·rename_i l hl;refine oc e λj e=>?_;cases e;obtain⟨A,P,B,rfl,m,n,_⟩:=s.put (L9.mp hl).1;obtain⟨v,f,r⟩:=m _ hl;obtain⟨a,vs,y,rfl,p,g,rfl⟩:=r;have q:=p.nil j;subst q;refine⟨.ref a,f,.inl ⟨rfl,vs,SqL.of g⟩,⟨a,vs,rfl,rfl,g,?_⟩⟩;have t:Go Z H (A++[a]++B) Z (upd H a<|.lst []) (A++[a]++B):=Go.put w (by simp);have d:∀ b,Z b->upd H a (.lst []) b=H b:=λb c=>jg λz=>w.nz a (by simp)<|z▸c;have nd:=w.nd;simp only[U9,N1,List.nodup_cons,M4,not_or] at nd;have u:Rep R Z (upd H a<|.lst []) (.lst true []) (.ref a) [a]:=by
   exact⟨a,[],[],rfl,.empty,jk,rfl⟩
  have h:=n u (λb c=>c) d (λb c=>jg λz=>by subst z;exact(nd.1.2.2 b c b<|.inl rfl) rfl) (λb c=>jg λz=>by subst z;exact(nd.2.2 b (.inr<|.inl rfl) b c) rfl);rw[yF f] at h;exact k t h<|Keep.refl _ _
 ·cases e
def jhE(c:QB cl X (.Name x xpos) (vk i)<|pV i)
  (a:attributeBase (.Name x xpos) "clear" X.env (eval (.Name x xpos) X.env)=eval (.Name x xpos) X.env:=by rfl) (b:(apos.endLine==cpos.line)=true:=by rfl)
  (hsw:swapsWith (.Call (.Attribute (.Name x xpos) "clear" apos) [] [] cpos) none pos.line X.env=pure false:=by rfl):
  QS cl pm X (.Expr (.Call (.Attribute (.Name x xpos) "clear" apos) [] [] cpos) pos) (qJ<|jjN X.K "list" u3<|vk i) (wT i):=
 ⟨Jk (jeJ PySem.F.plainAttrs_list PySem.F.slot_list_clear PySem.F.type_list_clear jcl c.sem a b) hsw,jfP⟩
@[simp] def sLClr_e:wT i ρ=(pV i ρ).bind λx=>(Qj x).bind λl=>bif frzs l then some (.nx<|ρ.set i<|some<|.lst true []) else none:=by
 unfold wT pV;cases h:ρ[i]? with
 | none=>rfl
 | some o=>cases o with
  | none=>rfl
  | some x=>cases x with
   | lst o l=>cases o<;>rfl
   | _=>rfl
def zpD:List D->List D->Option (List<|KA×D)
 | [],_=>some []
 | k::l,v::m=>(kC k).bind λa=>(zpD l m).bind λr=>some<|(a,v)::r
 | _::_,[]=>none
def Yd:List D->Option D
 | [.lst _ l,.tup m]=>(zpD l m).bind λps=>bif frzs (ps.map (·.2))&&lim ps.length then some (.dK true (kx ps).1 (kx ps).2) else none
 | _=>none
@[simp] def jbS(o)(l m):Yd [.lst o l,.tup m]=(zpD l m).bind λps=>bif frzs (ps.map (·.2))&&lim ps.length then some (.dK true (kx ps).1 (kx ps).2) else none:=rfl
theorem jao:∀{l m}{ps}{xs ys}{O P},zpD l m=some ps->Reps R Z H l xs O->Reps R Z H m ys P->frzs (ps.map (·.2))=true ->
  ∃(ws:List V),An3 (Reps R Z H (ps.map (·.2)) ws []) (xs=((ps.map λp=>kaV p.1).zip ws).map (λkv=>kV kv.1))<|∀(j:Nat) kv,((ps.map λp=>kaV p.1).zip ws)[j]?=some kv->ys[j]?=some kv.2
 | [],m,ps,xs,ys,O,P,e,c,f,b=>by
  cases e;obtain⟨rfl,_⟩:=c;exact⟨[],.empty,rfl,λj kv d=>by simp at d⟩
 | k::l,[],ps,xs,ys,O,P,e,c,f,b=>by cases e
 | k::l,v::m,ps,xs,ys,O,P,e,c,f,b=>by
  refine ob e λa o e=>ob e λr s e=>?_;cases e;obtain⟨A,t,O1,O2,rfl,rfl,u,g⟩:=c;obtain⟨w,x,P1,P2,rfl,rfl,n,h⟩:=f;rw[L5,qY,M0] at b;obtain⟨ws,i,y,q⟩:=jao s g h b.2;obtain⟨rfl,_⟩:=yR o u;have z:=n.nil b.1;subst z;refine⟨w::ws,Reps.cons n i,by rw[L5,U7,L5,<- y],λj kv d=>?_⟩;cases j with
  | zero=>cases d;rfl
  | succ j=>exact q j kv ⇑d
def jgd:BC R (jgW R.K) Yd:=by
 intro Z H s d vs O z r e Q k
 match s,e,r with
 | [.lst o l,.tup m],e,r=>
  refine ob e λps w e=>oc e λhm e=>?_;cases e;rw[M0] at hm;obtain⟨v,u,P1,P2,rfl,rfl,y,A⟩:=r.two_of;obtain⟨p,J,L,rfl,B,C⟩:=y.lst_of;obtain⟨t,E,rfl,F,rt⟩:=A;obtain⟨j,b,c,q⟩:=jao w C rt hm.1;obtain⟨f,G,I,g⟩:=KM (ks:=[]) b .empty rfl;have i:j.length=ps.length:=by rw[b.length];simp
  refine⟨p,t,E,(ps.map λp=>kaV p.1).zip j,rfl,by rw[<- c];exact B.sq,F.sq,q,by simp[i];exact X4 hm.2,λD n=>?_⟩;refine k (Go.newO (wf0 z) n) ?_;have ne:∀ a,H a≠none->a≠D:=λa h e=>h<|e▸n;exact⟨D,f,[],rfl,G.frame (λa z=>z) (λa h=>jg<|ne a<|z a h)<|λa h=>(nomatch h),g,by show upd H D _ D=some _;rw[jk];exact congrArg (λx=>some<|HO.dK x) I.symm,rfl⟩
def jev{cl}{X}{a b}{tr}{pr}{p p2 pos pos2}(i:X.calm=true)(hm:X.mg "dict" = none)(c:X.mg "zip" = none)(h:QBs cl X [a,b] tr pr)(j:Gl X "dict":=by rfl)(d:Gl X "zip":=by rfl)
  (k:starEach [.Call (.Name "zip" p2) [a,b] [] pos2] X.env=(false,eval (.Call (.Name "zip" p2) [a,b] [] pos2) X.env)::starEach [] X.env:=by rfl)
  (e:(backTo pos<|starEach [] X.env).any (·.1)=false:=by rfl)
  (f:backTo pos (starEach [.Call (.Name "zip" p2) [a,b] [] pos2] X.env)=[(false,eval (.Call (.Name "zip" p2) [a,b] [] pos2) X.env)]:=by rfl)
  (hs:starEach [a,b] X.env=[(false,eval a X.env),(false,eval b X.env)]:=by rfl) (g:starEach [b] X.env=[(false,eval b X.env)]:=by rfl):
  QP cl X (.Call (.Name "dict" p) [.Call (.Name "zip" p2) [a,b] [] pos2] [] pos) (tCB (jgW X.K) tr) (pCB Yd pr):=⟨jfD i j hm d c h.sem k e f hs g,jfo jgd h.den⟩
def jlW(K:W3)(mg:W5)(x:Str)(st:Stmt)(ps:List Str):Prop:=∃ f fd,FnFact K mg x x st f fd ps
def jlV(K:W3)(C:Addr)(x qual:Str)(st:Stmt)(ps:List Str):Prop:=∃ f fd,MtFact K C x qual st f fd ps
section
variable {K:W3}{mg:W5}{h:Heap}{x qual:Str}{st:Stmt}{ps:List Str}{a C:Addr}{od an:Option Addr}{sl:Array (Option Value)}{oc kV dc pm cd ct:Value}
def hasF(X:K.In h)(G:h.Ns mainGlobals mg)(e:PySem.W.nsIn K mainGlobals x=some (some<|.ref a))(b:K.lookup a=some ⟨oc,od,.func<|PySem.W.fnOf x x (vK st) (yp st) (jt st) .none kV dc pm an cd ct,sl⟩)(c:PySem.W.codeIn K cd x=true)(d:PySem.W.keepIn K (.ref a)=true)
  (f:∀ kV doc pm an cdv ct us,us.length=ps.length->bindArgs (PySem.W.fnOf x x (vK st) (yp st) (jt st) .none kV doc pm an cdv ct) ⟨us,[]⟩=pure (ps.zip us)):jlW K mg x st ps:=⟨_,_,Vp b c d,PySem.W.mg_of X G e,(Vp b c d).binds f⟩
def hasM(e:PySem.W.findIn K (.ref C) x=some (some<|.ref a))(f:PySem.W.isFn K (.ref a)=true)(c:K.lookup a=some ⟨oc,od,.func<|PySem.W.fnOf x qual (vK st) (yp st) (jt st) .none kV dc pm an cd ct,sl⟩)(d:PySem.W.codeIn K cd qual=true)(b:PySem.W.keepIn K (.ref a)=true)
  (g:∀ kV doc pm an cdv ct us,us.length=ps.length->bindArgs (PySem.W.fnOf x qual (vK st) (yp st) (jt st) .none kV doc pm an cdv ct) ⟨us,[]⟩=pure (ps.zip us)):jlV K C x qual st ps:=⟨_,_,Vp c d b,⟨e,f,b⟩,(Vp c d b).binds g⟩
end
def fsc{N ps}{h}(a:h.kind=.function:=by rfl)(b:h.isCoroutine=false:=by rfl)(c:h.isGenerator=false:=by rfl)(d:N.Nodup:=by decide +kernel)(e:N.take ps.length=ps:=by rfl)
  (f:∀ x∈ps,h.names.lookup x=some .local\/h.names.lookup x=some .cell:=by decide +kernel) (g:∀ y∈h.names,y.2≠.free:=by decide +kernel):FnScope N ps h:=⟨a,b,c,d,e,f,g⟩
def Js(K:W3)(mg:W5)(x:Str)(st:Stmt)(N:List Str)(n:Nat):Prop:=FnScope N (N.take n) (jt st)/\jlW K mg x st (N.take n)
def uf(K:W3)(C:Addr)(x qual:Str)(st:Stmt)(N:List Str)(n:Nat):Prop:=FnScope N (N.take n) (jt st)/\jlV K C x qual st (N.take n)
section
variable (P:Program)(w:World)(cl:Nat->Addr){K:W3}{mg:W5}{C:Addr}{x qual:Str}{st:Stmt}{N:List Str}{n:Nat}
abbrev NP(_:Js K mg x st N n)(k:Nat)(m:List D->Option D):Prop:=OkF P w K mg x st k (N.take n)<|spP ⟨K,cl⟩ m n
abbrev OP(mg:W5)(_:uf K C x qual st N n)(k:Nat)(m:List D->Option D):Prop:=OkM P w K mg C x qual st k (N.take n)<|spP ⟨K,cl⟩ m n
abbrev OM(mg:W5)(_:uf K C x qual st N n)(k:Nat)(m:List D->Option (D×D)):Prop:=OkM P w K mg C x qual st k (N.take n)<|spM ⟨K,cl⟩ m n 0
end
section
variable {P:Program}{w:World}{k:Nat}{sp:Sp}{K:W3}{mg:W5}{C:Addr}{x qual:Str}{st:Stmt}{N:List Str}{n:Nat}
def okN(h:Js K mg x st N n)(g:∀ f fd,FnScope N (N.take n) (jt st)->FnFact K mg x x st f fd (N.take n)->∀ base,FnOk P w K mg base CX0 k f fd (N.take n) sp):OkF P w K mg x st k (N.take n) sp:=by
 obtain⟨S,f,fd,F⟩:=h;exact⟨f,fd,F,g f fd S F⟩
def okO(h:uf K C x qual st N n)(g:∀ f fd,FnScope N (N.take n) (jt st)->MtFact K C x qual st f fd (N.take n)->∀ base,FnOk P w K mg base CX0 k f fd (N.take n) sp):OkM P w K mg C x qual st k (N.take n) sp:=by
 obtain⟨S,f,fd,F⟩:=h;exact⟨f,fd,F,g f fd S F⟩
end
def u0{α:Type}{P:List α->Prop}(h:P []):∀ us:List α,us.length=0->P us
 | [],_=>h
def uS{α:Type}{P:List α->Prop}{n}(h:∀ a,∀ us:List α,us.length=n->P (a::us)):∀ us:List α,us.length=n+1->P us
 | a::us,e=>h a us<|Nat.succ.inj e
def jml{a b}(h:a)(k:a->b):a/\b:=⟨h,k h⟩
section
variable {cl:Nat->Addr}{X:Cx}{pos:Pos}{x:Str}{scope:Scope}{N':List Str}{i:Nat}
def qS{j}{l}(h:x=S l:=by decide +kernel):QP cl X (.Constant (.str x) j pos) (tC<|.str x) (pS l):=jly l h
def qI{i}{j}:QB cl X (.Constant (.int i) j pos) (tC<|.int i) (pI i):=QP.bb jfy
end
end QD
namespace L2
open PySem PySem.Spec PyProof.Rows
end L2
namespace QD
open PySem L2 PySem.Spec PyProof.Rows
noncomputable def blN(N:List Str):List (Option Nat)->List Str->List Str
 | [],_=>[]
 | none::l,xs=>xs.headD ""::blN N l xs.tail
 | some j::l,xs=>N.getD j ""::blN N l xs
noncomputable def jl1(sc:Scope):List Str:=(sc.names.filter λy=>decide (y.2=.local)||decide (y.2=.cell)).tail.map (·.1)
def bkN(_:FnScope N ps sc)  (h1:X.env.scope=sc:=by rfl) (h2:X.N=N:=by rfl) (h:V1 sc N scope (blN N ix<|jl1 scope) ix=true:=by decide +kernel):BlockOk X scope (blN N ix<|jl1 scope) ix:=jfh sc N h1 h2 h
def jio{p:PAf}{n}(h:∀ ρ ds,p ρ=some ds->ds.length=n):∀ ρ ds,p ρ=some ds->ds.length+1=n+1:=λρ ds e=>by rw[h ρ ds e]
def ndN(h:N'.Nodup):(yV X scope N' C s H fp).N.Nodup:=h
section
open Classical in
end
end QD
namespace QD
open PySem L2
def zC(i:Nat)(L:Ln)(pa pb pv:PF)(ρ:Rh):Option Out:=(pv ρ).bind λd=>(pV i ρ).bind λt=>(L t).bind λy=>(jkC y.1).bind λp=>(jlo pa pb ρ).bind λa=>bif frz d&&lim p.1.length then some (.nx<|ρ.set i<|some<|y.2<|.dT true (uc p.1 p.2 a d).1 (uc p.1 p.2 a d).2) else none
def jcs{R}{pm}{i}{L}{to ta tb tv}{pa pb pv}(q:jcg R to i L)(r:PB R ta pa)(v:PB R tb pb)(x:PB R tv pv):DS R pm (Qr to (jkU ta tb) tv) (zC i L pa pb pv):=by
 intro σ ρ Z H O o w s e Q k;refine ob e λd z e=>ob e λt hl e=>ob e λ⟨y,S⟩ A e=>ob e λ⟨T,l⟩ B e=>ob e λc C e=>oc e λhm e=>?_;cases e;cases jgQ B;rw[M0] at hm;refine x w.zd s z λ{u U V P1} f m=>?_;cases m.nil hm.1;have n:=f.widen w;have p:=f.slots w.zd s;refine qG q n.wf p hl A jji λa _ vs W D h E F put=>F<|jc6 r v f.wf.zd p C λ{b X Y} g zb G=>?_;obtain⟨I,O2,J,K,M,j⟩:=jc3 (g.rep f.wf.zd m) c (g.reps f.wf.zd D) h;obtain⟨O3,N,P⟩:=put jji j g J ⇑M.count_le;refine⟨a,_,rfl,DPut.t (g.at0 E) G<|Q3 hm.2,?_⟩;rw[<- K];exact k (n.trans N) P<|Keep.refl _ _
def xk{x1}(g:Room k X.A)(hl:QL cl X o to i L)(c:QB cl X a ta pa)(d:QB cl X b tb pb)(f:QB cl X e te pe)
  (hs:swapsWith e (some<|.Subscript o (.Tuple [a,b] x1 tpos) pos') pos.line X.env=pure false:=by rfl)
  (h1:starEach [a,b] X.env=(false,eval a X.env)::starEach [b] X.env:=by rfl) (h2:starEach [b] X.env=(false,eval b X.env)::starEach [] X.env:=by rfl):
  QS cl pm X (.Assign [.Subscript o (.Tuple [a,b] x1 tpos) pos'] e pos) (Qr to (jkU ta tb) te) (zC i L pa pb pe):=
 ⟨Q5 (wD g) hl.sem (jee<|y6 c.sem (y6 d.sem qg h2) h1) f.sem hs,jcs hl.den c.den d.den f.den⟩
end QD
namespace QD
open PySem L2 PySem.Spec PyProof.Rows
end QD
namespace QD
open PySem L2
end QD
namespace QD
open PySem L2 PySem.Spec PyProof.Rows
end QD
namespace L2
open PySem PySem.Spec PyProof.Rows
end L2
namespace QD
open PySem L2 PySem.Spec PyProof.Rows
end QD
namespace PySem
open PySem.W PyProof.Rows PySem.Calls
end PySem
namespace QD
open PySem L2 PySem.Spec PyProof.Rows
end QD
namespace L2
open PySem PySem.Spec PyProof.Rows
end L2
namespace QD
open PySem L2 PySem.Spec PyProof.Rows
end QD
namespace L2
open PySem PySem.Spec PyProof.Rows
end L2
namespace QD
open PySem L2 PySem.Spec PyProof.Rows
section
variable {cl:Nat->Addr}{X:Cx}{o:Expr}{to:TE}{po:PF}{pos apos:Pos}
def jaT{k n c}{ps}{m}{mn qual}{st}{b}(d:Cls X.K<|cl c)(O:OkM X.prog X.w X.K X.mg (cl c) mn qual st k ps<|spP ⟨X.K,cl⟩ m n)(e:Room k X.A)(a:QB cl X o to po)(hn:1=n:=by rfl)
  (g:eval (.Call (.Attribute o mn apos) [] [] pos) X.env=(do
   let ov <- eval o X.env
   standAt apos.atName
   let (f,first) <- holding [ov] (getMethod ov mn b)
   callWith pos f first (backTo pos<|starEach [] X.env) (backToKw pos<|keywordEach [] X.env)):=by rfl):
  QP cl X (.Call (.Attribute o mn apos) [] [] pos) (Vs (cl c) mn (spP ⟨X.K,cl⟩ m n) [] E0 to JB) (jQ m c mn po pN):=by
 obtain⟨_,_,F,G⟩:=O;exact⟨xJ a.sem d F.mt (G _) e F.bd .nil wY g,jan a.den jbw λρ i h=>by cases h;exact hn⟩
end
mutual
theorem jjK:∀(n:Nat) (d:D),hkP n (yu d)=true->okE n d=true
 | n,.bl _,_=>by cases n<;>rfl
 | n,.int _,_=>by cases n<;>rfl
 | n,.str s,h=>by
  have h:PyData.strOk (S s)=true:=by cases n<;>simpa [yu,hkP] using h
  have:(s.all λc=>decide<|c<1114112)=true:=by
   rw[List.all_eq_true];intro c hc;unfold PyData.strOk S at h;rw[Array.all_eq_true'] at h;exact h c ⇑hc
  cases n<;>simpa [okE] using this
 | n+1,.tup l,h=>by
  rw[okE];exact jeY n l (by simpa [yu,hkP] using h)
 | 0,.tup l,h=>by simp[yu,hkP] at h
 | n,.lst _ l,h=>by cases n<;>simp[yu,hkP] at h
 | n,.non,h=>by cases n<;>simp[yu,hkP] at h
 | n,.dK _ _ _,h=>by cases n<;>simp[yu,hkP] at h
 | n,.dT _ _ _,h=>by cases n<;>simp[yu,hkP] at h
 | n,.dN _ _,h=>by cases n<;>simp[yu,hkP] at h
 | n,.ins _ _ _ _,h=>by cases n<;>simp[yu,hkP] at h
 | n,.dead,h=>by cases n<;>simp[yu,hkP] at h
 | n,.tok _,h=>by cases n<;>simp[yu,hkP] at h
 | n,.kt _,h=>by cases n<;>simp[yu,hkP] at h
 | n,.exc _ _,h=>by cases n<;>simp[yu,hkP] at h
 | n,.lam,h=>by cases n<;>simp[yu,hkP] at h
theorem jeY:∀(n:Nat) (l:List D),YL n (ye l)=true->yX n l=true
 | n,[],_=>rfl
 | n,d::l,h=>by
  rw[ye,YL,M0] at h;rw[yX,jjK n d h.1,jeY n l h.2];rfl
end
section
variable {K:W3}{cl:Nat->Addr}{Z:Zn}{H:Hp}
def Vx{d:D}{v:V}{O}(r:Rep ⟨K,cl⟩ Z H d v O)(h:hkD d=true):∃ b,v=.ref b/\RdK K H b (yu d):=by
 unfold hkD at h;rw[M0] at h;cases d with
 | tup l=>
  obtain⟨a,vs,rfl,f,g⟩:=r.tup_of;exact⟨a,rfl,h.2,⟨_,rfl⟩,λX c σ s e I=>by subst e;exact r.reads I 6 rfl<|jjK 6 _ h.2⟩
 | _=>cases h.1
theorem VZ:∀{l:List D}{vs:List V}{O},Reps ⟨K,cl⟩ Z H l vs O->Vz l=true->KyN K H (mkN l vs)
 | [],_,_,_,_=>λe a=>by cases a
 | [_],vs,_,_,h=>by cases h
 | k::d::l,vs,O,r,h=>by
  obtain⟨u,f,O1,O2,rfl,rfl,g,i⟩:=r;obtain⟨v,j,o,p,rfl,rfl,q,m⟩:=i;have c:(hkD k&&Vz l)=true:=h;rw[M0] at c;obtain⟨b,rfl,n⟩:=Vx g c.1;intro e a;rcases M4.mp a with rfl | a
  ·exact⟨_,n,rfl⟩
  ·exact VZ m c.2 e a
def kr(d:D):List D->Bool
 | k::_::l=>PyData.eqv (yu k) (yu d)||kr d l
 | _=>false
theorem Ym{d:D}(hd:hkD d=true):∀{l:List D}{vs:List V}{O},Reps ⟨K,cl⟩ Z H l vs O->Vz l=true->jfE (mkN l vs) (nkP<|yu d)=kr d l
 | [],_,_,_,_=>rfl
 | [_],vs,_,_,h=>by cases h
 | k::c::l,vs,O,r,h=>by
  obtain⟨u,f,O1,O2,rfl,rfl,m,g⟩:=r;obtain⟨v,b,n,o,rfl,rfl,p,i⟩:=g;have a:(hkD k&&Vz l)=true:=h;rw[M0] at a;have j:=Ym hd i a.2;unfold hkD at hd a;rw[M0] at hd a;have e:decide (nkP (yu k)=nkP (yu d))=PyData.eqv (yu k) (yu d):=by
   rw[Bool.eq_iff_iff,decide_eq_true_eq,xM 6 6 _ _ a.1.2 hd.2]
  show(decide (nkP (yu k)=nkP (yu d))||jfE (mkN l b) (nkP<|yu d))=_;rw[e,j];rfl
theorem zj:∀{l:List D}{vs:List V},Vz l=true->vs.length=l.length->2*(mkN l vs).length=l.length
 | [],_,_,_=>rfl
 | [_],_,h,_=>by cases h
 | k::d::l,vs,h,e=>by
  rcases vs with _ | ⟨u,_ | ⟨v,vs⟩⟩
  ·cases e
  ·cases e
  ·have a:(hkD k&&Vz l)=true:=h;rw[M0] at a;have:=zj (vs:=vs) a.2 ⇑e;show 2*(mkN l vs).length.succ=_;simp only[M1];lia
theorem zO{k d:D}{b:Addr}{v:V}:∀{l:List D}{vs:List V},Vz l=true->vs.length=l.length->mkN (l++[k,d]) (vs++[.ref b,v])=mkN l vs++[(nkP<|yu k,b,v)]
 | [],vs,_,e=>by cases List.length_eq_zero_iff.mp e;rfl
 | [_],_,h,_=>by cases h
 | k'::c::l,vs,h,e=>by
  rcases vs with _ | ⟨u,_ | ⟨v,vs⟩⟩
  ·cases e
  ·cases e
  ·have a:(hkD k'&&Vz l)=true:=h;rw[M0] at a;show _::mkN (l++[k,d]) (vs++[.ref b,_])=_;rw[zO a.2 ⇑e];rfl
theorem Kg{k d:D}(b:hkD k=true):∀{l:List D},Vz l=true->Vz (l++[k,d])=true
 | [],_=>by show(hkD k&&true)=true;rw[b];rfl
 | [_],h=>by cases h
 | k'::c::l,h=>by
  have a:(hkD k'&&Vz l)=true:=h;rw[M0] at a;show(hkD k'&&Vz (l++[k,d]))=true;rw[a.1,Kg b a.2];rfl
end
section
variable {R:RC}
noncomputable def VX:D->Option (List D)
 | .dN _ l=>some l
 | _=>none
noncomputable def jkS:D->Option (List D)
 | .dN true l=>some l
 | _=>none
@[simp] def dnAny_e(o l):VX (.dN o l)=some l:=rfl
@[simp] def dnOf_e(l):jkS (.dN true l)=some l:=rfl
def xL{d l}(h:VX d=some l):∃ o,d=.dN o l:=by
 cases d with
 | dN o _=>cases h;exact⟨o,rfl⟩
 | _=>cases h
def jfY{d l}(h:jkS d=some l):d=.dN true l:=by
 cases d with
 | dN o _=>cases o<;>cases h;rfl
 | _=>cases h
@[simp] def QV(neg:Bool)(x y:D):Option D:=(VX y).bind λl=>bif hkD x then some (.bl<|neg != kr x l) else none
def jeo{neg}:BO R (jiN R.K neg) (QV neg):=by
 intro Z H x y d v u O1 O2 z i c e Q k;refine ob e λl j e=>oc e λf e=>?_;cases e;obtain⟨o,rfl⟩:=xL j;obtain⟨b,rfl,m⟩:=Vx i f;rw[Rep] at c;obtain⟨a,vs,p,rfl,g,h,n,_⟩:=c;refine⟨a,b,_,_,rfl,rfl,n,VZ g h,m,?_⟩;rw[Ym f g h];exact k (Go.id z) .bl_mk
def ow_dN{l}:Own R (.dN true l) l (λ_ vs=>.dN<|mkN l vs) (Vz l=true):=by
 intro Z H v O;exact⟨λh=>by rw[Rep] at h;obtain⟨a,vs,b,e,c,h,d,f⟩:=h;exact⟨a,0,vs,b,e,c,h,d,f⟩,λh=>by obtain⟨a,_,vs,b,e,c,h,d,f⟩:=h;rw[Rep];exact⟨a,vs,b,e,c,h,d,f⟩⟩
def Vt(i:Nat)(L:Ln)(pk pv:PF)(ρ:Rh):Option Out:=(pv ρ).bind λd=>(pV i ρ).bind λt=>(L t).bind λy=>(jkS y.1).bind λl=>(pk ρ).bind λk=>bif (frz d&&frz k)&&(hkD k&&!kr k l)&&lim l.length then some (.nx<|ρ.set i<|some<|y.2<|.dN true<|l++[k,d]) else none
def jfZ{pm i L to tk tv pk pv}(A:jcg R to i L)(B:PB R tk pk)(C:PB R tv pv):DS R pm (jhd R.K to tk tv) (Vt i L pk pv):=by
 intro σ ρ Z H O o w s e W k;refine ob e λd D e=>ob e λt hl e=>ob e λ⟨y,X⟩ E e=>ob e λl F e=>ob e λG I e=>oc e λhm e=>?_;cases e;cases jfY F;simp only[M0,Bool.not_eq_true'] at hm;obtain⟨⟨⟨J,M⟩,m,N⟩,P⟩:=hm;refine C w.zd s D λ{u Y H1 P1} g p=>?_;cases p.nil J;have r:=g.widen w;have v:=g.slots w.zd s;refine qG A r.wf v hl E ow_dN λa _ vs Q S c T U put=>U<|B g.wf.zd v I λ{y Z2 H2 P2} j n=>?_;cases n.nil M;obtain⟨b,rfl,V⟩:=Vx n m;have f:=j.reps g.wf.zd S;have h:=f.length;obtain⟨O3,x,z⟩:=put (O2:=Q++([]++([]++[]))) ow_dN (Kg (d:=d) m c) j (f.append<|.cons n<|.cons (j.rep g.wf.zd p) .empty) (λq=>by simp);have hz:=zj c h;refine⟨a,b,mkN l vs,yu G,rfl,rfl,j.at0 T,VZ f c,V,by rw[Ym m f c];exact N,?_,?_⟩
 ·have:=Ki P
  lia
 ·rw[zO c h] at x z;exact k (r.trans x) z<|Keep.refl _ _
def jcU:PP R uj (pC<|.dN true []):=by
 intro σ ρ Z H O d z s e Q k;cases e;intro p a;exact k (Go.newO (wf0 z) a)<|ow_dN.mpr ⟨p,0,[],[],rfl,.empty,rfl,jk,rfl⟩
@[simp] def jiY(pk pv:PF)(ρ:Rh):Option D:=(pk ρ).bind λk=>(pv ρ).bind λd=>bif frz k&&frz d&&hkD k then some (.dN true [k,d]) else none
def ji9{tk tv}{pk pv}(C:PB R tk pk)(D:PB R tv pv):PP R (jk5 R.K tk tv) (jiY pk pv):=by
 intro σ ρ Z H O d z s e Q k;refine ob e λx E e=>ob e λy F e=>oc e λg e=>?_;cases e;simp only[M0] at g;intro p G;have i:Go Z H [] Z (upd H p<|.dN []) [p]:=Go.newO (wf0 z) G;have t:=i.slots z s;refine C i.wf.zd t E λ{v N P P1} m j=>(D m.wf.zd (m.slots i.wf.zd t) F λ{u l f P2} w A=>?_);have B:Go Z (upd H p<|.dN []) [] l f []:=(m.pair w).drop (λa h=>nomatch h) List.nodup_nil;have j:=w.rep m.wf.zd j;cases j.nil g.1.1;cases A.nil g.1.2;obtain⟨b,rfl,I⟩:=Vx j g.2;have n:f p=some (.dN []):=by rw[B.fr p (by rw[jk];exact λz=>nomatch z) (λh=>nomatch h),jk]
 have w0:WF Z (upd H p<|.dN []) ([p]++[]++[]):=by simpa using i.wf
 have o:Go Z (upd H p<|.dN []) [p] l f [p]:=by simpa using Go.frame w0 B
 have J:Go l f [p] l (upd f p<|.dN [(nkP<|yu x,b,u)]) [p]:=Go.put o.wf (by simp);have r:∀ c,l c->upd f p (.dN [(nkP<|yu x,b,u)]) c=f c:=λc L=>jg λq=>o.wf.nz p (by simp)<|q▸L;refine⟨n,b,yu x,rfl,I,k ((i.trans o).trans J)<|ow_dN.mpr ⟨p,0,[.ref b,u],[],rfl,?_,by show(hkD x&&true)=true;rw[g.2];rfl,jk,rfl⟩⟩;exact(Reps.cons (O:=[]) j<|.one A).frame (λ_ z=>z) r λb M=>(nomatch M)
def Kt(l:List D):Option D:=(jb5 l).bind λx=>(VX x).bind λm=>some<|.int (m.length/2:Nat)
@[simp] def Q9(o l):Kt [.dN o l]=some (.int (l.length/2:Nat)):=rfl
def jhw:BC R (λxs H Q=>∃ a kvs,xs=[.ref a]/\H a=some (.dN kvs)/\Q (.int kvs.length) H) Kt:=by
 intro Z H xs d vs O z r e Q k;refine ob e λx b e=>ob e λm c e=>?_;cases e;cases kH b;obtain⟨o,rfl⟩:=xL c;obtain⟨v,rfl,f⟩:=r.one_of;obtain⟨a,vs,j,rfl,g,h,i,_⟩:=f;have:=zj h g.length;have e:m.length/2=(mkN m vs).length:=by lia
 refine⟨a,_,rfl,i,?_⟩;rw[<- e];exact k (Go.id z) .int_mk
end
section
variable {cl:Nat->Addr}{pm:List Nat}{X:Cx}{a b e o:Expr}{ta tb te to:TE}{pa pb pe po:PF}{pos pos':Pos}{k i:Nat}{L:Ln}
def jkN(a:Room k X.A)(hm:behindInMarks .In b=false):CmpR cl X .In b (jiN X.K false) (QV false):=⟨jie<|by have:=a.un;lia,jeo,hm⟩
def zP(a:Room k X.A)(hm:behindInMarks .NotIn b=false):CmpR cl X .NotIn b (jiN X.K true) (QV true):=⟨ux<|by have:=a.un;lia,jeo,hm⟩
def jb7(d:Room k X.A)(hl:QL cl X o to i L)(b:QB cl X a ta pa)(c:QB cl X e te pe)(hs:swapsWith e (some<|.Subscript o a pos') pos.line X.env=pure false:=by rfl):
  QS cl pm X (.Assign [.Subscript o a pos'] e pos) (jhd X.K to ta te) (Vt i L pa pe):=⟨jhO (by have:=d.un;lia) hl.sem b.sem c.sem hs,jfZ hl.den b.den c.den⟩
def jfx:QP cl X (.Dict [] [] pos) uj (pC<|.dN true []):=⟨jdC,jcU⟩
def jiO(e:Room k X.A)(c:QB cl X a ta pa)(d:QB cl X b tb pb):QP cl X (.Dict [some a] [b] pos) (jk5 X.K ta tb) (jiY pa pb):=⟨jdR (by have:=e.un;lia) c.sem d.sem,ji9 c.den d.den⟩
def jjt{p:Pos}{tr:TA}{pr:PAf}(hm:X.mg "len" = none)(c:QBs cl X [e] tr pr)(d:Gl X "len":=by rfl)(f:starEach [e] X.env=(false,eval e X.env)::starEach [] X.env:=by rfl)(b:(backTo pos<|starEach [] X.env).any (·.1)=false:=by rfl):
  QP cl X (.Call (.Name "len" p) [e] [] pos) (tCB (λxs H Q=>∃ a kvs,xs=[.ref a]/\H a=some (.dN kvs)/\Q (.int kvs.length) H) tr) (pCB Kt pr):=vd u5 jhw hm PySem.boot_len c d (by decide) (by decide) f b
end
section
variable {R:RC}
def jj6(i:Nat)(ρ:Rh):Option (D×Rh):=(pV i ρ).bind λt=>(Qj t).bind λl=>(l.getLast?).bind λd=>bif frzs l then some (d,ρ.set i<|some<|.lst true l.dropLast) else none
def jj7{i}:DE R (jjN R.K "list" jlh<|vk i) (jj6 i):=by
 intro σ ρ G Z H O d w s e Q k;refine ob e λt j e=>ob e λl n e=>ob e λx o e=>oc e λp e=>?_;cases e;cases VL n;refine qG (P0:=[]) YM w s j rfl Vr λa _ vs I g _ h r put=>r ⟨.inl ⟨rfl,vs,SqL.of h⟩,?_⟩;cases g.nil p;obtain⟨m,rfl⟩:=List.getLast?_eq_some_iff.mp o;obtain⟨c,J,P1,P2,rfl,v,y,A⟩:=g.split;obtain⟨rfl,rfl⟩:=List.append_eq_nil_iff.mp v.symm;obtain⟨u,rfl,B⟩:=A.one_of;refine⟨a,_,u,rfl,rfl,h,by simp,?_⟩;have C:(c++[u]).dropLast=c:=by simp
 have D:(m++[d]).dropLast=m:=by simp
 rw[D] at k;rw[C];have z:=w.zd;obtain⟨L,f,E⟩:=put (Z2:=Z) (H2:=H) (P1:=[]) (O2:=[]) (x':=.lst true m) (l':=m) (vs':=c) Vr trivial (Go.refl<|wf0 z) y (λq=>by simp);exact k (P:=[]) f (B.frame f.zz (Go.zH w f) λb F=>nomatch F) E
noncomputable def jdx:D->Option Unit
 | .lam=>some ()
 | _=>none
def jda{d}(h:jdx d=some ()):d=.lam:=by cases d<;>first | rfl | cases h
@[simp] def pLC(i:Nat)(p:PAf)(ρ:Rh):Option D:=(pV i ρ).bind λt=>(jdx t).bind λ_=>(p ρ).bind λl=>bif decide (l.length=1) then some (.bl false) else none
def wQ{i ta p}(m:PPs R ta p):PP R (tLC (vk i) ta) (pLC i p):=by
 intro σ ρ Z H O d z s e Q k;refine ob e λt n e=>ob e λ_ o e=>ob e λl w e=>oc e λhl e=>?_;cases e;cases jda o;have b:=K2 n;obtain⟨A,P,B,rfl,x,_,_⟩:=s.put (L9.mp b).1;obtain⟨v,y,r⟩:=x _ b;rw[Rep] at r;obtain⟨a,c,q,rfl,C,D,f,j,rfl⟩:=r;refine⟨.ref a,y,a,c,q,rfl,f,m z s w λ{vs E F G} g r=>?_⟩;obtain⟨u,rfl⟩:=List.length_eq_one_iff.mp<|r.length.trans<|X4 hl;refine⟨u,rfl,(g.fr a (by rw[f];exact λz=>nomatch z)<|λz=>nomatch z).trans f,(g.fr c (by rw[j];exact λz=>nomatch z)<|λz=>nomatch z).trans j,k (P:=[]) (g.drop (λa h=>(nomatch h)) List.nodup_nil) .bl_mk⟩
end
section
variable {cl:Nat->Addr}{X:Cx}{i k:Nat}{x:Str}{xpos apos cpos p pos:Pos}{e:Expr}{ta:TA}{pa:PAf}
def jjh(c:QB cl X (.Name x xpos) (vk i)<|pV i)(a:attributeBase (.Name x xpos) "pop" X.env (eval (.Name x xpos) X.env)=eval (.Name x xpos) X.env:=by rfl)(b:(apos.endLine==cpos.line)=true:=by rfl):
  QE cl X (.Call (.Attribute (.Name x xpos) "pop" apos) [] [] cpos) (jjN X.K "list" jlh<|vk i) (jj6 i):=⟨jeJ PySem.F.plainAttrs_list PySem.F.slot_list_pop PySem.F.type_list_pop jjF c.sem a b,jj7⟩
def Kx(c:Room (k+1) X.A)(d:QB cl X (.Name x p) (vk i)<|pV i)(b:QPs cl X [e] ta pa)(f:starEach [e] X.env=(false,eval e X.env)::starEach [] X.env:=by rfl)(a:(backTo pos<|starEach [] X.env).any (·.1)=false:=by rfl):
  QP cl X (.Call (.Name x p) [e] [] pos) (tLC (vk i) ta) (pLC i pa):=⟨wE c d.sem b.sem f a,wQ b.den⟩
end
section
variable {R:RC}{X:Cx}{cl:Nat->Addr}
def jg2(R:RC):R2:=λx y H Q=>∃ Z d o l O P,Rep R Z H d x O/\Rep R Z H (.lst o l) y P/\okE 20 d=true/\yX 20 l=true/\Q (.bl<|!l.any λy=>eqD y d) H
theorem K8{h:Heap}{p:PyData}(e:Value->Bool)(a:∀ y q as,Reads h y q as->q.canLay0=true->e y=PyData.eqv q p):∀{l:List D}{us:List Value}{as},ReadsAll h us (ye l) as->yX 20 l=true->us.any e=l.any λy=>PyData.eqv (yu y) p
 | [],_,_,r,_=>by cases r;rfl
 | d::l,_,_,r,h=>by
  rw[yX,M0] at h;cases r with
  | cons b c=>rw[List.any_cons,List.any_cons,a _ _ _ b (Jb 20 d h.1).1,K8 e a c h.2]
theorem Jz{h:Heap}:∀{l:List D}{us:List Value}{as},ReadsAll h us (ye l) as->yX 20 l=true->∀ y∈us,∃ q bs,Reads h y q bs/\q.canLay0=true/\q.depth<=20
 | [],_,_,r,_,y,a=>by cases r;cases a
 | d::l,_,_,r,h,y,a=>by
  rw[yX,M0] at h;cases r with
  | cons b c=>
   rcases M4.mp a with rfl | a
   ·exact⟨_,_,b,Jb 20 d h.1⟩
   ·exact Jz c h.2 y a
open Classical in
def jap(Y:X.A.units+64<cLine):OpR X (compareOp .NotIn) (jg2 ⟨X.K,cl⟩):=by
 intro t s σ H x y v u Q I B C h;obtain⟨Z,d,o,l,O,P,E,F,i,g,q⟩:=h;obtain⟨b,G⟩:=E.reads I 20 B i;obtain⟨a,vs,O',rfl,J,L⟩:=F.lst_of;cases C;obtain⟨j,M,N,_⟩:=I.list J.sq;obtain⟨bs,w⟩:=L.reads I 20 M g;have hd:=Jb 20 d i
 let e:Value->Bool:=λy=>decide<|∃ q b,Reads s.heap y q b/\q.canLay0=true/\PyData.eqv q (yu d)=true
 have z:∀ y q b,Reads s.heap y q b->q.canLay0=true->e y=PyData.eqv q (yu d):=λy q b r f=>by
  rw[Bool.eq_iff_iff,decide_eq_true_eq];exact⟨λ⟨R,k,S,_,n⟩=>by rw[SeqAt.Reads.unique q R y b k f r S];exact n,λn=>⟨q,b,r,f,n⟩⟩
 refine SeqAt.notIn_listAt e N.isList (λy T=>?_) ?_
 ·obtain⟨q,U,r,f,V⟩:=Jz w g y ⇑T;rw[z y q U r f];exact SeqAt.eqAt_reads q (yu d) _ _ _ _ _ _ r G f hd.1 (by show X.A.units+1+_<_;have:=hd.2;lia)
 ·have:j.toArray.any e=l.any λy=>eqD y d:=by
   rw[List.any_toArray,K8 e z w g];have p:∀ m:List D,yX 20 m=true->(m.any λy=>PyData.eqv (yu y)<|yu d)=m.any λy=>eqD y d:=by
    intro m
    induction m with
    | nil=>intro _;rfl
    | cons c m W=>
     intro hm;rw[yX,M0] at hm;rw[List.any_cons,List.any_cons,xV 20 c d hm.1 i,W hm.2]
   exact p l g
  rw[this];exact⟨.bl _,H,I,rfl,q⟩
@[simp] def Vh(x y:D):Option D:=(jgF y).bind λl=>bif okE 20 x&&yX 20 l then some (.bl<|!l.any λy=>eqD y x) else none
def jhc:BO R (jg2 R) Vh:=by
 intro Z H x y d v u O1 O2 z b c e Q k;refine ob e λl f e=>oc e λa e=>?_;cases e;obtain⟨o,rfl⟩:=Yl f;rw[M0] at a;exact⟨Z,x,o,l,O1,O2,b,c,a.1,a.2,k (Go.id z) .bl_mk⟩
def jdb{b:Expr}{k}(a:Room k X.A)(hm:behindInMarks .NotIn b=false):CmpR cl X .NotIn b (jg2 ⟨X.K,cl⟩) Vh:=⟨jap<|by have:=a.un;lia,jhc,hm⟩
end
section
variable {cl:Nat->Addr}{X:Cx}{pos apos p:Pos}
def zV{k n i c}{ps}{m}{x mn qual}{st}{a}(b:Cls X.K<|cl c)(O:OkM X.prog X.w X.K X.mg (cl c) mn qual st k ps<|spM ⟨X.K,cl⟩ m n 0)(d:Room k X.A)(e:QB cl X (.Name x p) (vk i)<|pV i)(hn:1=n:=by rfl)
  (g:eval (.Call (.Attribute (.Name x p) mn apos) [] [] pos) X.env=(do
   let ov <- eval (.Name x p) X.env
   standAt apos.atName
   let (f,first) <- holding [ov] (getMethod ov mn a)
   callWith pos f first (backTo pos<|starEach [] X.env) (backToKw pos<|keywordEach [] X.env)):=by rfl):
  QE cl X (.Call (.Attribute (.Name x p) mn apos) [] [] pos) (Vs (cl c) mn (spM ⟨X.K,cl⟩ m n 0) [] E0 (vk i) JB) (kz m i c mn pN):=by
 obtain⟨_,_,F,G⟩:=O;exact⟨xJ e.sem b F.mt (G _) d F.bd .nil wY g,xO pps_nil λρ j h=>by cases h;exact hn⟩
end
section
@[simp] def kh(m:List D->Option D)(p:PAf)(ρ:Rh):Option D:=(p ρ).bind λds=>bif frzs ds then m ds else none
noncomputable def msk(P:Addr)(H:Hp):Hp:=λa=>if a=P then none else H a
def yO{P a:Addr}{H:Hp}(h:a≠P):msk P H a=H a:=if_neg h
def V8{P a:Addr}{H:Hp}(h:msk P H a≠none):a≠P/\H a≠none:=by
 by_cases e:a=P
 ·exact absurd (if_pos e) h
 ·rw[yO e] at h;exact⟨e,h⟩
structure Tab(P:Addr)(pos:Pos)(q:Str)(Z:Zn)(H:Hp):Prop where
 nz:¬ Z P
 tb:H P=some (.ext<|vz P #[]) \/ ∃ c,H P=some (.ext<|vz P #[rawInt pos.line,rawInt pos.col,.ref c])/\Z c/\H c=some (.ext<|qd c q)
variable {P:Addr}{pos:Pos}{q:Str}{R:RC}{Z Z':Zn}{H H':Hp}{O O':W4}{ρ:Rh}{σ:L2.St}
def Tab.nn(t:Tab P pos q Z H):H P≠none:=by
 rcases t.tb with h | ⟨c,h,_⟩<;>rw[h]<;>exact λz=>nomatch z
theorem Tab.ps(t:Tab P pos q Z H):∃ ps,H P=some (.ext<|vz P ps):=t.tb.elim (λh=>⟨_,h⟩) λ⟨_,h,_⟩=>⟨_,h⟩
def Go.nP(g:Go Z H O Z' H' O')(t:Tab P pos q Z H)(a:P∉O):P∉O':=λh=>(g.sub P h).elim a t.nn
def Tab.go(t:Tab P pos q Z H)(g:Go Z H O Z' H' O')(w:WF Z H O)(a:P∉O):Tab P pos q Z' H':=by
 refine⟨λz=>(g.zn P z).elim t.nz λh=>h.elim a t.nn,?_⟩;rw[g.fr P t.nn a];exact t.tb.imp id λ⟨c,d,b,e⟩=>⟨c,d,g.zz c b,(g.zH w c b).trans e⟩
theorem Go.msk(g:Go Z H O Z' H' O')(t:Tab P pos q Z H)(b:P∉O):Go Z (msk P H) O Z' (QD.msk P H') O':=by
 have f:¬ Z' P:=λz=>(g.zn P z).elim t.nz λh=>h.elim b t.nn;have i:=g.nP t b;have c:∀ a,Z' a->a≠P:=λa z e=>f<|e▸z;have d:∀ a∈O',a≠P:=λa z e=>i<|e▸z;refine⟨⟨g.wf.nd,g.wf.nz,λa h=>?_,λa z=>?_⟩,g.zz,λa h n=>?_,λa z=>?_,λa h=>?_,λa h=>?_⟩
 ·rw[yO<|d a h];exact g.wf.od a h
 ·rw[yO<|c a z];exact g.wf.zd a z
 ·obtain⟨e,h⟩:=V8 h;rw[yO e,yO e];exact g.fr a h n
 ·rw[yO<|c a z];exact g.zn a z
 ·rw[yO<|d a h];exact g.sub a h
 ·obtain⟨e,h⟩:=V8 h;rw[yO e];exact g.dm a h
def jfp{a:Addr}(g:Go Z (msk P H) [] Z' (msk P H') O')(h:a≠P)(hn:H a≠none):H' a=H a:=by
 have:=g.same a (by rw[yO h];exact hn)
 rwa [yO h,yO h] at this
def z4(z:Zd Z H)(t:Tab P pos q Z H)(b:P∉O)(s:Slots R Z H ρ σ O)(g:Go Z (msk P H) [] Z' (msk P H') O'):Slots R Z' H' ρ σ O:=
 s.frame g.zz (λa h=>jfp g (λe=>t.nz<|e▸h)<|z a h) λa h=>jfp g (λe=>b<|e▸h)<|s.dom a h
def jb9(g:Go Z (msk P H) [] Z' (msk P H') O'):Zd Z' H':=λa z=>(V8<|g.wf.zd a z).2
def PL(R:RC)(P:Addr)(pos:Pos)(q:Str)(te:TE)(p:PF):Prop:=∀{σ:L2.St}{ρ:Rh}{Z:Zn}{H:Hp}{O:W4}{d:D},Zd Z H->Tab P pos q Z H->P∉O->Slots R Z H ρ σ O->p ρ=some d ->
 ∀{Q:VK},(∀{v:V}{Z':Zn}{H':Hp}{O':W4},Go Z (msk P H) [] Z' (msk P H') O'->Tab P pos q Z' H'->P∉O'->Rep R Z' H' d v O'->Q v H')->te σ H Q
def spT(R:RC)(P:Addr)(pos:Pos)(q:Str)(m:List D->Option D)(n:Nat):Sp:=λvs H Q _=>∃ Z ds d,Zd Z H/\Tab P pos q Z H/\ds.length=n/\Reps R Z H ds vs []/\m ds=some d /\
 ∀{v:V}{Z':Zn}{H':Hp}{O':W4},Go Z (msk P H) [] Z' (msk P H') O'->Tab P pos q Z' H'->P∉O'->Rep R Z' H' d v O'->Q v H'
variable {ta tb te:TE}{tA:TA}{pa pb p:PF}{ps:PAf}{m:List D->Option D}{n:Nat}{r:R2}{g:D->D->Option D}
def jj4(f:PB R ta pa)(g:PL R P pos q tb pb):PL R P pos q (jag ta tb) (zQ pa pb):=by
 intro σ ρ Z H O d z t h s e Q k;refine ob e λx i e=>ob e λc j e=>?_;cases VO j;refine f z s i λ{v r u P1} a l=>?_;obtain⟨rfl,rfl⟩:=l.bl_of;have b:=t.go a (wf0 z) List.not_mem_nil;refine⟨c,rfl,?_⟩;cases c with
 | true=>exact jc9<|g a.wf.zd b h (a.slots z s) e λm n o p=>k (by simpa using(a.msk t List.not_mem_nil).pair m) n o p
 | false=>cases e;exact jdm<|k (a.msk t List.not_mem_nil) b List.not_mem_nil .bl_mk
def jla(j:BO R r g)(l:PL R P pos q ta pa)(m:PB R tb pb):PL R P pos q (tOp r ta tb) (p2 g pa pb):=by
 intro σ ρ Z H O d z t h s e Q k;refine ob e λx n e=>ob e λy o e=>l z t h s n λ{v B C P1} a i D p=>m (jb9 a) (z4 z t h s a) o λ{u E F P2} b w=>?_;have c:=i.go b (wf0<|jb9 a) List.not_mem_nil;exact j b.wf.zd (b.rep (jb9 a) p) w e λf A=>k (by simpa using(a.to0.pair<|b.msk i List.not_mem_nil).pair (f.msk c List.not_mem_nil)) (c.go f (wf0 b.wf.zd) List.not_mem_nil) (f.nP c List.not_mem_nil) A
def jhK(f:PBs R tA ps)(hn:∀ ρ ds,ps ρ=some ds->ds.length=n):PL R P pos q (JA (spT R P pos q m n) [] E0 tA) (kh m ps):=by
 intro σ ρ Z H O d z t p s e Q k;refine ob e λds b e=>oc e λg e=>f z s b λ{vs h r P1} a c=>?_;cases c.nil g;exact⟨h,ds,d,a.wf.zd,t.go a (wf0 z) List.not_mem_nil,hn ρ ds b,by rw[M9];exact c,e,λi j l o=>k (by simpa using(a.msk t List.not_mem_nil).pair i) j l o⟩
theorem jbZ{f:Str}{d:D}:∀{ns:List Str}{l:List D}{vs:List V}{O:W4},Reps R Z H l vs O->ns.length=l.length->YZ ns l f=some d ->
  ∃ v A B C,(ns.zip vs).lookup f=some v/\O=A++B++C/\Rep R Z H d v B
 | [],[],_,_,_,_,h=>by cases h
 | [],_::_,_,_,_,hl,_=>by simp at hl
 | _::_,[],_,_,_,hl,_=>by simp at hl
 | n::ns,x::l,_,_,r,hl,h=>by
  obtain⟨v,a,O1,O2,rfl,rfl,b,c⟩:=r;rw[YZ] at h;by_cases e:f=n
  ·rw[if_pos e] at h;cases h;exact⟨v,[],O1,O2,by rw[U7,List.lookup_cons,e];simp,by simp,b⟩
  ·rw[if_neg e] at h;obtain⟨w,A,B,C,g,rfl,i⟩:=jbZ c ⇑hl h;refine⟨w,O1++A,B,C,?_,by simp,i⟩;rw[U7,List.lookup_cons];have:(f==n)=false:=by simp[e]
   rw[this];exact g
def jif{c:Nat}{f:Str}(r:Cls R.K<|R.cls c)(u:NoAttr R.K (R.cls c) f)(h:PL R P pos q ta p):PL R P pos q (je1 R.K ta f) (vP c f p):=by
 intro σ ρ Z H O d z t y s e Q k;refine ob e λx D e=>?_;cases x with
 | ins o E ns l=>
  refine oc e λF G=>?_;obtain rfl:E=c:=by simpa using F
  refine h z t y s D λ{v U V P1} m I J L=>?_;obtain⟨a,M,vs,W,rfl,N,hl,S,g⟩:=L;obtain⟨w,A,B,C,T,rfl,i⟩:=jbZ N hl G;have n:∀ b∈B,b∈P1:=λb j=>by
   cases o with
   | true=>rw[show P1=a::(A++B++C) from g];simp[j]
   | false=>have:=g.2.1;simp at this;rw[this.2.1] at j;cases j
  have nd:B.Nodup:=by
   cases o with
   | true=>
    have:=m.wf.nd;rw[show P1=a::(A++B++C) from g,List.nodup_cons,U9,U9] at this;exact this.2.1.2.1
   | false=>have:=g.2.1;simp at this;rw[this.2.1];exact List.nodup_nil
  exact⟨a,_,M,_,w,rfl,S,r,u,T,k (m.drop n nd) I (λz=>J<|n _ z) i⟩
 | _=>cases e
def qj{ds:List D}{vs:List V}{N:List Str}(r:Reps R Z H ds vs []):Slots R Z H (ds.map some++List.replicate (N.length-ds.length) none) (L2.start N vs) []:=by
 unfold L2.start;rw[r.length];exact(kP r<|kW<|N.length-ds.length)
def jbH{N:List Str}{vs:List V}{Q:VK}{E:XK}(h:PL R P pos q te p)(hs:spT R P pos q (fnP N.length<|yQ<|dP p) n vs H Q E):jhf te {nx:=λ_ H'=>Q .non H',rt:=Q} (L2.start N vs) H:=by
 obtain⟨Z,j,d,z,t,l,r,e,k⟩:=hs;refine ob e λo a b=>ob a λx c f=>ob c λm g i=>?_;cases i;cases f;cases b;exact h z t List.not_mem_nil (qj r) g k
def jai{o:HO}{b:Addr}(h:b≠P):msk P (upd H b o)=upd (msk P H) b o:=by
 funext a
 by_cases e:a=b
 ·subst e;rw[yO h,jk,jk]
 ·by_cases c:a=P
  ·subst c;rw[jg e];exact(if_pos rfl).trans (if_pos rfl).symm
  ·rw[yO c,jg e,jg e,yO c]
def jdB{o:HO}:msk P (upd H P o)=msk P H:=by
 funext a
 by_cases e:a=P
 ·subst e;exact(if_pos rfl).trans (if_pos rfl).symm
 ·rw[yO e,jg e,yO e]
def wP{i:Nat}:PL R P pos q (JA (spP R m 2) [] E0<|yW (vk i)<|yW (jks P pos q) JB) (kh m<|ja (pV i)<|ja (pC .lam) pN):=by
 intro σ ρ Z H O d z t hO s e Q k;refine ob e λds T e=>ob T λx U V=>oc e λL e=>?_;cases V;show vk i σ H λx F=>jks P pos q σ F λy W=>spP R m 2 ([x,y]++[]) W Q E0;refine je7 z s U λ{v B f P0} G r=>?_;have X:frz x=true:=by simp[frzs] at L;exact L.1
 cases r.nil X;have j:=t.go G (wf0 z) List.not_mem_nil;have I:=G.msk t List.not_mem_nil;have u:=G.wf.zd;rcases j.tb with J | ⟨c,J,M,w⟩
 ·refine⟨#[],J,trivial,.inl ⟨rfl,λc a w C A=>?_⟩⟩;have D:c≠P:=λe=>j.nn<|e▸w;have E:a≠P:=λe=>j.nn<|e▸C;have w0:WF B (msk P f) []:=I.wf;have N:Go B (msk P f) [] _ _ []:=Go.newF w0 (p:=c) (o:=.ext<|qd c q) (by rw[yO D];exact w);have g:Go _ (upd (msk P f) c<|.ext<|qd c q) [] _ _ []:=Go.newF N.wf (p:=a) (o:=.ext<|kB a c q) (by rw[jg A,yO E];exact C);have Y:msk P (upd (upd (upd f P<|.ext<|vz P<|#[]++#[rawInt pos.line,rawInt pos.col,.ref c]) c<|.ext<|qd c q) a<|.ext<|kB a c q)=upd (upd (msk P f) c<|.ext<|qd c q) a (.ext<|kB a c q):=by
   rw[jai E,jai D,jdB]
  have eP:(upd (upd (upd f P<|.ext<|vz P<|#[]++#[rawInt pos.line,rawInt pos.col,.ref c]) c<|.ext<|qd c q) a<|.ext<|kB a c q) P=some (.ext<|vz P #[rawInt pos.line,rawInt pos.col,.ref c]):=by
   rw[jg E.symm,jg D.symm,jk];rfl
  have S:(upd (upd (upd f P<|.ext<|vz P<|#[]++#[rawInt pos.line,rawInt pos.col,.ref c]) c<|.ext<|qd c q) a<|.ext<|kB a c q) c=some (.ext<|qd c q):=by
   rw[jg A.symm,jk]
  have eA:(upd (upd (upd f P<|.ext<|vz P<|#[]++#[rawInt pos.line,rawInt pos.col,.ref c]) c<|.ext<|qd c q) a<|.ext<|kB a c q) a=some (.ext<|kB a c q):=jk;have gT:=N.trans g;rw[<- Y] at gT;generalize(upd (upd (upd f P<|.ext<|vz P<|#[]++#[rawInt pos.line,rawInt pos.col,.ref c]) c<|.ext<|qd c q) a<|.ext<|kB a c q)=F at *;have l:Tab P pos q (λb=>(B b\/b=c)\/b=a) F:=⟨λh=>h.elim (λh=>h.elim j.nz D.symm) E.symm,.inr ⟨c,eP,.inl<|.inr rfl,S⟩⟩;refine⟨_,[x,.lam],d,jb9 gT,rfl,.cons (P:=[]) (r.frame (λb h=>.inl<|.inl h) (λb h=>jfp gT (λe=>j.nz<|e▸h)<|u b h) λb h=>nomatch h)<|.one ⟨a,c,q,rfl,.inr rfl,.inl<|.inr rfl,eA,S,rfl⟩,e,λn K=>?_⟩;exact k (by simpa using(I.pair gT).pair (n.msk l List.not_mem_nil)) (l.go n (wf0<|jb9 gT) List.not_mem_nil) (n.nP l List.not_mem_nil) K
 ·refine⟨_,J,trivial,.inr ⟨c,?_,w,λa C=>?_⟩⟩
  ·simp[codeAmong,rawInt]
  have g:Go B f [] _ _ []:=Go.newF (wf0 u) (p:=a) (o:=.ext<|kB a c q) C;have l:=j.go g (wf0 u) List.not_mem_nil;refine⟨_,[x,.lam],d,g.wf.zd,rfl,.cons (P:=[]) (g.rep u r)<|.one ⟨a,c,q,rfl,.inr rfl,.inl M,jk,(g.same c<|u c M).trans w,rfl⟩,e,λn K=>?_⟩;exact k (by simpa using(I.pair<|g.msk j List.not_mem_nil).pair (n.msk l List.not_mem_nil)) (l.go n g.wf List.not_mem_nil) (n.nP l List.not_mem_nil) K
end
section
variable (R:RC)(P:Addr)(pos:Pos)(q:Str)
def jme(D':Ends):Out->Prop
 | .nx ρ'=>∀{σ':L2.St}{Z':Zn}{H':Hp}{O':W4},WF Z' H' O'->Tab P pos q Z' H'->P∉O'->Slots R Z' H' ρ' σ' O'->D'.nx σ' H'
 | .bk ρ'=>∀{σ':L2.St}{Z':Zn}{H':Hp}{O':W4},WF Z' H' O'->Tab P pos q Z' H'->P∉O'->Slots R Z' H' ρ' σ' O'->D'.bk σ' H'
 | .ct ρ'=>∀{σ':L2.St}{Z':Zn}{H':Hp}{O':W4},WF Z' H' O'->Tab P pos q Z' H'->P∉O'->Slots R Z' H' ρ' σ' O'->D'.ct σ' H'
 | .rt d ρ'=>∀{v:V}{Z':Zn}{H':Hp}{O':W4},Tab P pos q Z' H'->Rep R Z' H' d v O'->D'.rt v H'
def DL(ts:TS)(f:FS):Prop:=∀{σ:L2.St}{ρ:Rh}{Z:Zn}{H:Hp}{O:W4}{o:Out},WF Z H O->Tab P pos q Z H->P∉O->Slots R Z H ρ σ O->f ρ=some o->∀{D':Ends},jme R P pos q D' o->ts D' σ H
def spW(m:List D->Option D)(n:Nat):Sp:=λvs H Q _=>∃ Z ds d,Zd Z H/\Tab P pos q Z H/\ds.length=n/\Reps R Z H ds vs []/\m ds=some d/\∀{v:V}{Z':Zn}{H':Hp}{O':W4},Tab P pos q Z' H'->Rep R Z' H' d v O'->Q v H'
end
section
variable {R:RC}{P:Addr}{pos:Pos}{q:Str}{ts tu:TS}{f fe:FS}{te:TE}{p:PF}{i n:Nat}
def jlD(h:DS R [] ts f):DL R P pos q ts f:=by
 intro σ ρ Z H O o w t a s e i k;refine h w s e ?_;cases o with
 | nx c=>exact λg b _=>k g.wf (t.go g w a) (g.nP t a) b
 | bk c=>exact λg b _=>k g.wf (t.go g w a) (g.nP t a) b
 | ct c=>exact λg b _=>k g.wf (t.go g w a) (g.nP t a) b
 | rt d c=>exact λg r _ _=>k (t.go g w a) r
def jeF(b:DL R P pos q ts f)(c:DL R P pos q tu fe):DL R P pos q (jeX ts tu) (jv f fe):=by
 intro σ ρ Z H O o w t g s e n k;rw[Jt] at e;refine ob e λh i e=>b w t g s i ?_;cases h with
 | nx a=>exact λw1 j l m=>c w1 j l m e k
 | bk a=>cases e;exact k
 | ct a=>cases e;exact k
 | rt d a=>cases e;exact k
def jkM(h:DL R P pos q ts f):DL R P pos q ts (sFz i f):=by
 intro σ ρ Z H O o w t b s e n k;unfold sFz at e;split at e
 ·rename_i d hd;have hd:=K2 hd;obtain⟨A,B,C,rfl,j,l,_⟩:=s.put (L9.mp hd).1;obtain⟨v,m,r⟩:=j d hd;have g:=(Go.freeze w.mid).frame w;have c:=l (r.freeze (Z':=λa=>Z a\/a∈B) (λa z=>.inl z) λa z=>.inr z) (λa z=>.inl z) (λ_ _=>rfl) (λ_ _=>rfl)<|λ_ _=>rfl;rw[yF m] at c;exact h g.wf (t.go g w b) (g.nP t b) c e k
 ·exact h w t b s e k
def jkh(h:PL R P pos q te p):DL R P pos q (jcM te<|Jj i) (jX (dP p)<|jd [] i):=by
 intro σ ρ Z H O o w t b s e E k;refine ob e λx j e=>ob j λd l m=>?_;cases m;refine ob e λF n r=>?_;cases r;refine h w.zd t b s l λ{v u y P1} f g A B=>?_;have C:WF Z (msk P H) O:=⟨w.nd,w.nz,λa h=>by rw[yO<|show a≠P from λz=>b<|z▸h];exact w.od a h,λa z=>by rw[yO<|show a≠P from λe=>t.nz<|e▸z];exact w.zd a z⟩;have w2:=(f.widen C).wf;have w1:WF u y (P1++O):=⟨w2.nd,w2.nz,λa h=>(V8<|w2.od a h).2,λa z=>(V8<|w2.zd a z).2⟩;have nP:P∉P1++O:=λh=>(N1.mp h).elim A b;exact Vv w1 B (z4 w.zd t b s f) n λc D _=>k c.wf (g.go c w1 nP) (c.nP g nP) D
def jh1(h:PL R P pos q te p):DL R P pos q (jhf te) (yQ<|dP p):=by
 intro σ ρ Z H O o w t a s e j k;refine ob e λx b e=>ob b λd c f=>?_;cases f;cases e;exact h w.zd t a s c λ_ g _ i=>k g i
def jgC{N:List Str}{vs:List V}{H:Hp}{Q:VK}{E:XK}(a:DL R P pos q ts f)(h:spW R P pos q (fnP N.length f) n vs H Q E):ts {nx:=λ_ H'=>Q .non H',rt:=Q} (L2.start N vs) H:=by
 obtain⟨Z,i,d,z,t,j,r,e,k⟩:=h;refine ob e λo b e=>?_;cases o with
 | rt l c=>cases e;exact a (wf0 z) t List.not_mem_nil (qj r) b k
 | nx c=>cases e;exact a (wf0 z) t List.not_mem_nil (qj r) b λ_ g _ _=>k g (O':=[]) .non_mk
 | _=>cases e
end
section
variable (cl:Nat->Addr)(P:Addr)(pos:Pos)(q:Str)(X:Cx)
structure QPL(e:Expr)(te:TE)(p:PF):Prop where
 sem:PE X e te
 den:PL ⟨X.K,cl⟩ P pos q te p
structure QR(st:List Stmt)(te:TE)(p:PF):Prop where
 sem:PSs X st (jhf te)
 den:PL ⟨X.K,cl⟩ P pos q te p
structure QL1(st:Stmt)(ts:TS)(f:FS):Prop where
 sem:PS X st ts
 den:DL ⟨X.K,cl⟩ P pos q ts f
structure QLs(st:List Stmt)(ts:TS)(f:FS):Prop where
 sem:PSs X st ts
 den:DL ⟨X.K,cl⟩ P pos q ts f
end
def OkT(Pr:Program)(w:World)(K:W3)(mg:W5)(P:Addr)(x:Str)(st:Stmt)(k:Nat)(ps:List Str)(sp:Sp):Prop:=∃ f fd,FnFact K mg x x st f fd ps/\∀ base:Heap,base.BuiltinsAt mg P->FnOk Pr w K mg base CX0 k f fd ps sp
section
variable {cl:Nat->Addr}{P:Addr}{pos:Pos}{q:Str}{X:Cx}{a b e:Expr}{es:List Expr}{st:Stmt}{qw:List Stmt}{ts tu:TS}{f fe:FS}{te ta tb:TE}{p pa pb:PF}{tr:TA}{pr:PAf}{p1 p2':Pos}{i n k:Nat}{x:Str}{m:List D->Option D}
def jhu(h:QL1 cl P pos q X st ts f):QLs cl P pos q X [st] ts f:=⟨VW h.sem,h.den⟩
def yG(h:QS cl [] X st ts f)(k:QLs cl P pos q X qw tu fe):QLs cl P pos q X (st::qw) (jeX ts tu) (jv f fe):=⟨JL h.sem k.sem,jeF (jlD h.den) k.den⟩
def jbY(h:QL1 cl P pos q X st ts f)(k:QLs cl P pos q X qw tu fe):QLs cl P pos q X (st::qw) (jeX ts tu) (jv f fe):=⟨JL h.sem k.sem,jeF h.den k.den⟩
def jjG(h:QPL cl P pos q X e te p):QL1 cl P pos q X (.Return (some e) p1) (jhf te) (yQ<|dP p):=⟨jaL h.sem,jh1 h.den⟩
def jeC(h:QPL cl P pos q X e te p):QR cl P pos q X [.Return (some e) p1] te p:=⟨VW<|jaL h.sem,h.den⟩
def QL1.fz(h:QL1 cl P pos q X st ts f):QL1 cl P pos q X st ts (sFz i f):=⟨h.sem,jkM h.den⟩
def jjJ(a:X.N.Nodup)(h:QPL cl P pos q X e te p)(hi:X.N[i]?=some x:=by rfl)(b:Loc X.env.scope x:=by first | exact Or.inl rfl | exact Or.inr rfl)(hs:swapsWith e (some<|.Name x p2') p1.line X.env=pure false:=by rfl)
  (c:X.fn x=true\/X.env.scope.names.lookup x=some .local:=by first | exact .inl rfl | exact .inr rfl):QL1 cl P pos q X (.Assign [.Name x p2'] e p1) (jcM te<|Jj i) (jX (dP p)<|jd [] i):=⟨jbh a hi b h.sem hs c,jkh h.den⟩
def jhe{b}(h:QPL cl P pos q X a ta pa):QPL cl P pos q X (.BoolOp b [a] p1) ta pa:=⟨jeS h.sem,h.den⟩
def jfq(c:QB cl X a ta pa)(d:QPL cl P pos q X (.BoolOp .And (b::es) p1) tb pb):QPL cl P pos q X (.BoolOp .And (a::b::es) p1) (jag ta tb) (zQ pa pb):=⟨jeV c.sem d.sem,jj4 c.den d.den⟩
def jfu{c}{r}{g}(h:CmpR cl X c b r g)(d:QPL cl P pos q X a ta pa)(e:QB cl X b tb pb):QPL cl P pos q X (.Compare a [c] [b] p1) (tOp r ta tb) (p2 g pa pb):=⟨uY h.o d.sem e.sem h.m,jla h.g d.den e.den⟩
def zB{ps}{pn:Pos}(O:OkT X.prog X.w X.K X.mg P x st k ps<|spT ⟨X.K,cl⟩ P pos q m n)(d:X.base.BuiltinsAt X.mg P)(f:Room k X.A)
  (a:QBs cl X (e::es) tr pr) (hn:(e::es).length=n:=by rfl) (g:Gl X x:=by rfl) (b:Nd x:=by decide)
  (i:SEq X e es:=by rfl) (c:BkE X p1 es:=by rfl):QPL cl P pos q X (.Call (.Name x pn) (e::es) [] p1) (JA (spT ⟨X.K,cl⟩ P pos q m n) [] E0 tr) (kh m pr):=by
 obtain⟨_,_,F,G⟩:=O;exact⟨jds F (G _ d) f a.sem g b i c,jhK a.den λρ j h=>(a.n ρ j h).trans hn⟩
def jhH{c:Nat}{fl:Str}(a:Cls X.K<|cl c)(b:NoAttr X.K (cl c) fl)(h:QPL cl P pos q X e te p)(d:attributeBase e fl X.env (eval e X.env)=eval e X.env:=by rfl):QPL cl P pos q X (.Attribute e fl p1) (je1 X.K te fl) (vP c fl p):=⟨uC h.sem d,jif a b h.den⟩
def jfv{params:Arguments}{body:Expr}{scope:Scope}{pn pv:Pos}{c:Addr}{ps}{y:Str}(O:OkF X.prog X.w X.K X.mg x st k ps<|spP ⟨X.K,cl⟩ m 2)(o:Room k X.A)(p:QB cl X (.Name y pv) (vk i)<|pV i)
  (a:X.env.code=.ref c) (r:PySem.W.codeHdIn X.K c P=true) (t:X.base.BuiltinsAt X.mg P) (e:mainGlobals≠P) (u:X.env.qual++"<lambda>" = q)
  (f:∀ c' pm ctv,LamFd c' q<|PySem.W.kla_fn "<lambda>" q params body scope [] pm (.ref c') ctv)
  (b:defaultsOf params X.env=([],[]):=by rfl) (g:closureFor scope X.env=pure []:=by rfl) (v:Gl X x:=by rfl) (j:Nd x:=by decide)
  (n:starEach [.Name y pv,.Lambda params body scope pos] X.env=(false,eval (.Name y pv) X.env)::starEach [.Lambda params body scope pos] X.env:=by rfl)
  (h1:starEach [.Lambda params body scope pos] X.env=(false,eval (.Lambda params body scope pos) X.env)::starEach [] X.env:=by rfl) (l:(backTo p1<|starEach [.Lambda params body scope pos] X.env).any (·.1)=false:=by rfl):
  QPL cl P pos q X (.Call (.Name x pn) [.Name y pv,.Lambda params body scope pos] [] p1) (JA (spP ⟨X.K,cl⟩ m 2) [] E0<|yW (vk i)<|yW (jks P pos q) JB) (kh m<|ja (pV i)<|ja (pC .lam) pN):=by
 obtain⟨_,_,F,G⟩:=O;exact⟨jds F (G _) o (y6 p.sem (y6 (λd s σ H Q I h=>jjy a (PySem.W.codeHd_of_K I.mod.kin r) t e u b g f d s σ H Q I h) qg h1) n) v j n l,wP⟩
end
def jmf(K:W3)(mg:W5)(x:Str)(st:Stmt)(N:List Str)(n:Nat)(c:Addr):Prop:=FnScope N (N.take n) (jt st)/\∃ f fd,FnFact K mg x x st f fd (N.take n)/\fd.code=.ref c
def jkb{Pr:Program}{w:World}{K:W3}{mg:W5}{base:Heap}{x:Str}{st:Stmt}{f c:Addr}{fd:FuncData}{N ps:List Str}{k:Nat}{sp:Sp}(F:Fun K x x st f fd)(g:fd.code=.ref c)(S:FnScope N ps<|jt st)(len:∀ vs H Q E,sp vs H Q E->vs.length=ps.length)
  (a:∀ A outer s H vs Q E,Room k (A.deeper<|envOfC x (jt st) ↥s f (.ref c))->sp vs H Q E ->
   ∃ t,PSs (ug CX0 Pr w K mg base N x (jt st) f (.ref c) A outer s H E).nox (yp st) t/\t {nx:=λ_ H'=>Q .non H',rt:=Q} (start N vs) H):FnOk Pr w K mg base CX0 (k+1) f fd ps sp:=by
 obtain⟨oc,od,kV,i,n,o,b,ct,j,rfl,l,d⟩:=F.ex;cases(show b=.ref c from g);refine jjT l d S len λA outer s H vs Q E m e=>?_;obtain⟨t,h,q⟩:=a A outer s H vs Q E m e;exact⟨t,h.nox,q⟩
def ut{R P pos q m n vs H Q E}(h:spT R P pos q m n vs H Q E):vs.length=n:=by
 obtain⟨Z,b,d,z,_,a,r,_⟩:=h;rw[r.length,a]
def jgc{R P pos q m n vs H Q E}(h:spW R P pos q m n vs H Q E):vs.length=n:=by
 obtain⟨Z,b,d,z,_,a,r,_⟩:=h;rw[r.length,a]
def jbA{Pr:Program}{w:World}{K:W3}{mg J:W5}{k:Nat}{fa a c P:Addr}{fd:FuncData}{x:Str}{sp:Sp}{f:Shared}{vs:List Value}{ns:List Int}
  (L:K.In f.heap) (D:f.heap.Ns mainGlobals mg) (i:f.heap.Ns builtinsNs J) (M:∀ x:Str,x≠"__name__"->J x=bootBuiltins x) (E:f.heap.NoLimit) (hg:f.gens = #[])
  (t:f.heap.get? a=some {cls:=.type "list",data:=.seq vs.toArray}) (hi:IntsAre vs ns) (hl:ns.length<=sizeLine) (hr:Room k callerA)
  (y:f.heap.get? P=some (PySem.W.tabObj #[])) (N:K.lookup P=none) (hd:PySem.W.codeHdIn K c P=true)
  (O:∃ bm ob,mg "__builtins__" = some (.ref bm)/\bm≠builtinsNs/\f.heap.get? bm=some ob/\ob.cls=.type "module"/\ob.dict=some builtinsNs/\ob.data=.plain)
  (F:∀ base:Heap,base.BuiltinsAt mg P->FnOk Pr w K mg base CX0 k fa fd [x] sp) (A:∀ s u,BindsTo s fd ⟨[u],[]⟩ [(x,u)])
  (Q:∀ H:Hp,H P=some (.ext<|vz P #[])->SqX K H a (ns.map V.int)->a≠P->sp [.ref a] H (λv H'=>v=.bl true/\∃ ps,H' P=some (.ext<|vz P ps)) λ_ _ _=>False):
  codeAny (model Pr w) callerA (.call (.ref fa) ⟨[.ref a],[]⟩) (λr s'=>r=.ok (.ret<|.bool true)/\OldK f.heap s'.heap/\s'.os=f.os/\AllBare s'.gens) f:=by
 have Z:=Kw hi;have R:a≠P:=λe=>by rw[e,y] at t;cases t
 have l:∀ H:Hp,H P=some (.ext<|vz P #[])->(∀ b,b≠P->H b=none \/ ∃ o xs,H b=some (.frz o<|.lst xs))->SqX K H a (ns.map V.int)->HOk Pr w H f.heap->(∀ b,b≠P->H b≠none->b=a)->(H a≠none->K.lookup a=none) ->
   codeAny (model Pr w) callerA (.call (.ref fa) ⟨[.ref a],[]⟩) (λr s'=>r=.ok (.ret<|.bool true)/\OldK f.heap s'.heap/\s'.os=f.os/\AllBare s'.gens) f:=by
  intro H S hO hS hok hA hK;have g:∀{b}{o},f.heap.get? b=some o->H b=none->(jch f.heap H).get? b=some o:=jdM;have G:∀{b}{o},f.heap.get? b=some o->b≠P->b≠a->H b=none:=λ{b o} e n1 n2=>by
   cases q:H b with
   | none=>rfl
   | some u=>exact absurd (hA b n1<|by rw[q];simp) n2
  have B:∀{b}{m},f.heap.Ns b m->(jch f.heap H).Ns b m:=λ{b m} ⟨o,es,ep,e,d,r⟩=>⟨o,es,ep,g e (G e (λz=>by rw[z,y] at e;cases e;cases d) λz=>by rw[z,t] at e;cases e;cases d),d,r⟩;have T:K.In (jch f.heap H):=λb o e=>g (L b o e) (by
   cases q:H b with
   | none=>rfl
   | some u=>
    by_cases z:b=P
    ·rw[z,N] at e;cases e
    ·have e':=hA b z (by rw[q];simp);subst e';rw[hK<|by rw[q];simp] at e;cases e)
  have hM:Mod K mg (jch f.heap H):=⟨T,B D,⟨J,B i,M⟩,let ⟨mc,h1,h2⟩:=E;⟨mc,B h1,h2⟩⟩;have hB:(jch f.heap H).BuiltinsAt mg P:=by
   obtain⟨bm,obj,b1,b2,C,b4,b5,U⟩:=O;have nP:bm≠P:=λz=>by rw[z,y] at C;cases C;cases b4
   have na:bm≠a:=λz=>by rw[z,t] at C;cases C;cases U
   have nG:bm≠mainGlobals:=λz=>by
    obtain⟨o,es,ep,e,d,_⟩:=D;rw[<- z,C] at e;cases e;rw[U] at d;cases d
   exact⟨bm,obj,b1,b2,nG,nP,g C<|G C nP na,b4,b5,U⟩
  have e0:Env0 Pr w K mg (jch f.heap H) callerA [] f H:=⟨rfl,hM,λb o e=>jgK e,Nat.le_of_eq<|uI _ _,trivial,λb i=>absurd (show b∈([]:W4) from i)<|by simp,hok,.of_eq hg⟩;refine codeAny_mono ((F _ hB).run callerA [] f H ⟨[.ref a],[]⟩ [.ref a] [.ref a] _ _ hr e0 (A f<|.ref a) (.cons rfl .nil) (Q H S hS R)) λr s' h=>?_;cases r with
  | error e=>exact False.elim h
  | ok fl=>
   cases fl with
   | next=>exact False.elim h
   | brk=>exact False.elim h
   | cont=>exact False.elim h
   | ret u=>
    obtain⟨v,H',os,bare,un,p,r',rfl,ps,X⟩:=h;obtain rfl:u=Value.bool true:=r';have I:s'.heap.get? P=some (PySem.W.tabObj ps):=(p P _ X).1;have kp:∀ b o,b≠P->f.heap.get? b=some o->s'.heap.get? b=some o:=λb o z e=>by
     rcases hO b z with q | ⟨obj,xs,q⟩
     ·exact un.keep b o e q (by intro z;exact absurd (show b∈([]:W4) from z)<|by simp) (by simp)
     ·have z2:=un.frzs b obj _ q;obtain⟨e1,_⟩:=hok b _ q;obtain⟨e2,_⟩:=p b _ z2;rw[e] at e1;cases e1;exact e2
    refine⟨rfl,⟨λb o e=>?_,λb o e=>?_⟩,os,bare⟩
    ·by_cases z:b=P
     ·subst z;rw[y] at e;cases e;exact .inr<|.inl ⟨((PySem.W.codeHd_of_K L hd).tab y).isCodeTable,rfl,#[],ps,rfl,by rw[Array.empty_append];exact I⟩
     ·exact .inl<|kp b o z e
    ·by_cases z:b=P
     ·subst z;exact⟨_,I⟩
     ·exact⟨o,kp b o z e⟩
 cases hk:K.lookup a with
 | some o=>
  have e:=L a o hk;rw[t] at e;cases e;refine l (λb=>if b=P then some (.ext<|vz P #[]) else none) (if_pos rfl) (λb z=>.inl<|if_neg z) (.inr ⟨vs.toArray,_,hk,by rw[N3,hi.length];exact hl,by simpa using Z⟩) (λb u z=>?_) (λb z q=>absurd (if_neg z) q) λq=>absurd (if_neg R) q;by_cases i:b=P
  ·have j:=(if_pos i).symm.trans z;cases j;subst i;exact jbf y
  ·have j:=(if_neg i).symm.trans z;cases j
 | none=>
  refine l (λb=>if b=P then some (.ext<|vz P #[]) else if b=a then some (.frz {cls:=.type "list",data:=.seq vs.toArray} (.lst<|ns.map V.int)) else none) (if_pos rfl) (λb z=>?_) (.inl<|.inr ⟨{cls:=.type "list",data:=.seq vs.toArray},(if_neg R).trans (if_pos rfl)⟩) (λb u z=>?_) (λb n z=>?_) λ_=>hk
  ·by_cases i:b=a
   ·exact .inr ⟨_,_,(if_neg z).trans (if_pos i)⟩
   ·exact .inl<|(if_neg z).trans (if_neg i)
  ·by_cases i:b=P
   ·have j:=(if_pos i).symm.trans z;cases j;subst i;exact jbf y
   ·by_cases Y:b=a
    ·have j:=((if_neg i).trans (if_pos Y)).symm.trans z;cases j;subst Y;exact⟨t,by rw[L1];exact hl,vs,_,Z,t⟩
    ·have j:=((if_neg i).trans (if_neg Y)).symm.trans z;cases j
  ·by_cases i:b=a
   ·exact i
   ·exact absurd ((if_neg n).trans (if_neg i)) z
def jd3{l:PySem.W.OpenLaw}{n k}{i}{Q}{J}{d}{K:Params->PySem.W.Frag}{sp:World->Sp}{P:Addr}{q x}
  (hn:l.most=some n) (y:n<=sizeLine) (z:d.params.defaults=[]) (R:Room k callerA)
  (S:∀ w h,J w h->(K w.params).In h/\h.get? P=some (PySem.W.tabObj #[])) (A:∀ w:World,(K w.params).lookup P=none)
  (F:∀ w mg fa h,(K w.params).In h->h.Ns mainGlobals mg->mg d.name=some (.ref fa) ->
   ∃(fd:FuncData) (c:Addr),PySem.W.codeHdIn (K w.params) c P=true/\(∀ s u,BindsTo s fd ⟨[u],[]⟩ [(x,u)])/\∀ base:Heap,base.BuiltinsAt mg P->FnOk l.prog w (K w.params) mg base CX0 k fa fd [x] (sp w))
  (B:∀ w H a (ns:List Int),ns.length<=n->(∀ x∈ns,Builtin.Int.intBits x<=2 ^ 20)->H P=some (.ext<|vz P #[])->SqX (K w.params) H a (ns.map V.int)->a≠P->sp w [.ref a] H (λv H'=>v=.bl true/\∃ ps,H' P=some (.ext<|vz P ps)) λ_ _ _=>False):
  PySem.W.WalkO q i Q J l.row.toRowW d [] (λf vs=>PySem.call f vs):=by
 intro w s₀ s₁ mg mb G Y fa o pm cd U X kV ho Z hcd L C hg M N as m p hrd D hlo;obtain rfl:X=.none:=PySem.W.Dflts.none L z;obtain rfl:kV=.none:=PySem.W.Dflts.noKw L;obtain⟨a,vs,ns,rfl,rfl,t,j,e⟩:=Att.script_of hn m D;obtain⟨O,hP⟩:=S w _ Y;obtain⟨fd,c,hd,hb,hF⟩:=F w mg fa _ O G.T.g C;refine PySem.W.enter_call<|codeAny_mono (jbA O G.T.g G.T.b G.T.builtins G.T.nolimit hg t j (N7 e y) R hP (A w) hd G.T.bmain hF hb λH h1 E I=>B w H a ns e (Q4 p) h1 E I) λr s' hq=>?_;obtain⟨rfl,E,I,h4⟩:=hq;exact⟨.inl ⟨.bool true,.bool true,[],rfl,λ_=>rfl,.bool true,Att.post_true l _,λ_=>⟨List.Pairwise.nil,λ_ hm=>(nomatch hm)⟩⟩,E,I,h4⟩
def jhD{K:W3}{c:Nat->Addr}{P a:Addr}{pos:Pos}{q:Str}{H:Hp}{m:List D->Option D}{ns:List Int}{E:XK}(h:m [.lst false<|ns.map D.int]=some (.bl true))(f:H P=some (.ext<|vz P #[]))(d:SqX K H a<|ns.map V.int)(g:a≠P):spW ⟨K,c⟩ P pos q m 1 [.ref a] H (λv H'=>v=.bl true/\∃ ps,H' P=some (.ext<|vz P ps)) E:=by
 refine⟨λb=>b=a/\H a≠none,[.lst false<|ns.map D.int],.bl true,λb e=>by rw[e.1];exact e.2,⟨λh=>g h.1.symm,.inl f⟩,rfl,.one ?_,h,λt r=>⟨r.bl_of.1,t.ps⟩⟩;have i:∀(l:List Int),Reps ⟨K,c⟩ (λb=>b=a/\H a≠none) H (l.map D.int) (l.map V.int) []:=by
  intro l
  induction l with
  | nil=>exact .empty
  | cons x l j=>exact .cons .int_mk j
 refine⟨a,ns.map V.int,[],rfl,i ns,⟨?_,rfl,rfl⟩⟩;rcases d with d | d
 ·refine .inl ⟨⟨rfl,?_⟩,d⟩;rcases d with d | ⟨o,d⟩<;>rw[d]<;>exact λz=>(nomatch z)
 ·exact .inr d
def hasC{K:W3}{mg:W5}{h:Heap}{x:Str}{st:Stmt}{ps:List Str}{a c:Addr}{od an:Option Addr}{sl:Array (Option Value)}{oc kV dc pm ct:Value}(X:K.In h)(G:h.Ns mainGlobals mg)(g:PySem.W.nsIn K mainGlobals x=some (some<|.ref a))(b:K.lookup a=some ⟨oc,od,.func<|PySem.W.fnOf x x (vK st) (yp st) (jt st) .none kV dc pm an (.ref c) ct,sl⟩)(d:PySem.W.codeIn K (.ref c) x=true)(e:PySem.W.keepIn K (.ref a)=true)
  (i:∀ kV doc pm an cdv ct us,us.length=ps.length->bindArgs (PySem.W.fnOf x x (vK st) (yp st) (jt st) .none kV doc pm an cdv ct) ⟨us,[]⟩=pure (ps.zip us)):∃ f fd,FnFact K mg x x st f fd ps/\fd.code=.ref c:=⟨_,_,⟨Vp b d e,PySem.W.mg_of X G g,(Vp b d e).binds i⟩,rfl⟩
end QD
namespace K45
set_option hygiene false
local macro_rules|`(‹$x›)=>`(some<|.lst false $x)|`(↑$x)=>`(some<|.lst true $x)
local macro_rules|`(#[])=>`(pN)|`(#[$x])=>`(ja $x pN)|`(#[$x,$y,*])=>`(ja $x #[$y,*])
open PySem L2 QD
noncomputable def top(i:Nat):Stmt:=PySem.Challenge.pw_tranchefall_k45_outlines_closed.main.body.getD i<|.Pass ⟨0,0,0,0⟩
def J7:FS:=(yQ<|dP<|pCB jh3 #[yB (JD<|pV 0) (jd [] 0) qT (pF<|p2 jq (pV 0)<|pI 1) [none]])
def vY:List D->Option D:=fnP 1 J7
def yk:FS:=(sIf (dPT<|jh<|p2 vy (p2 jq (pV 2)<|pI 0)<|pV 1) (yQ<|dP<|pF<|pV 2)
 jR)
def qK:FS:=(jv (YE (pIt<|pF<|p2 jq (pV 0)<|pI 4) (jd [] 2) yk)<|yQ<|dP<|pC .non)
def yt:List D->Option D:=fnP 3 qK
def yj:FS:=(sIf (dPT<|jh<|p2 jlm (p2 vU (pV 1)<|pV 2)<|pV 3) (yQ<|dP<|pF<|pV 4)
 jR)
def kL:FS:=(jv (YE (pIt<|pF<|p2 jq (pV 0)<|pI 5) (gT 3<|gC (jd [] 2)<|gC (jd [] 3)<|gC (jd [] 4) gN) yj)<|yQ<|dP<|pF<|p2 jq (p2 jq (p2 jq (pV 0)<|pI 4)<|pI 0)<|pI 0)
def yK:List D->Option D:=fnP 5 kL
def j9:FS:=(jgD 1 (pV 2)<|pCB jhX #[p3 KQ (pV 1) (pV 2)<|pI 0,pV 3])
def kE:FS:=(jv (jX (dP<|pC<|.dK true [] [])<|jd [] 1)<|jv (YE (pIt<|pF<|p2 jq (pV 0)<|pI 5) (gT 3<|gC (jd [] 2)<|gC (jd [] 3)<|gC (jd [] 4) gN) j9)<|yQ<|dMv 1)
def ya:List D->Option D:=fnP 5 kE
def yY:FS:=(yQ<|dP<|zQ (p2 vU (vP 0 "alive"<|pV 0)<|pV 1)<|p2 (YK true) (pV 1)<|vP 0 "served"<|pV 0)
def je:List D->Option D:=fnP 2 yY
def yH:FS:=(vD 0 (YG 0 "served" Jc) (pV 3)<|pC<|.bl true)
def j8:FS:=(jv (jX (dP<|pF<|p2 jq (pV 1)<|pI 0)<|jd [0] 2)<|sIf (dPT<|jh<|p2 vy (pV 2)<|pS [102,105,108,108]) (vD 0 (YG 0 "full" Jc) (p2 jq (pV 1)<|pI 1)<|pC<|.bl true)<|sIf (dPT<|jh<|p2 vy (pV 2)<|pS [115,104,97,114,101]) (YE (pIt<|pF<|p2 jq (pV 1)<|pI 1) (jd [0] 3) yH)<|jv (vD 0 (YG 0 "served" Jc) (p2 jq (pV 1)<|pI 1)<|pC<|.bl true)<|sIf (dPT<|jh<|p2 vy (pV 2)<|pS [114,101,112,97,121]) (vD 0 (YG 0 "repaid" Jc) (p2 jq (pV 1)<|pI 1)<|pC<|.bl true)
 jR)
def ju:List D->Option (D×D):=fnM 4 0 j8
def yT:FS:=(yQ<|dP<|pIf (jh<|p2 je9 (vP 1 "at"<|pV 0)<|pCB yE #[vP 1 "outlines"<|pV 0]) (pF<|p2 jq (vP 1 "outlines"<|pV 0)<|vP 1 "at"<|pV 0)<|pC .non)
def ji:List D->Option D:=fnP 1 yT
def kg:FS:=(jv (sIf (dPT<|jh<|p2 je9 (pV 1)<|pCB yE #[pV 0]) (yQ<|dP<|pF<|p2 jq (pV 0)<|pV 1)
 jR)<|yQ<|dP<|pI 0)
def jW:List D->Option D:=fnP 2 kg
def Ys:FS:=(jv (jX (dP<|p2 js (p2 yP (p2 js (pV 0)<|pI 2147483647)<|p2 jz (pI 69621)<|p2 yP (p2 yP (pI 1511)<|pV 1)<|pV 1)<|pI 2147483629)<|jd [] 2)<|yQ<|dP<|p2 js (p2 yP (p2 jz (pV 2)<|pV 1)<|p2 jz (p2 jz (pV 2)<|p2 yP (pI 5)<|pV 1)<|pI 1)<|pI 2147483587)
def jT:List D->Option D:=fnP 3 Ys
def vw:FS:=(jv (jX (dP<|p2 jz (pV 3)<|p2 jq (pV 2)<|p2 js (pV 0)<|pI 26)<|jd [] 3)<|jX (dP<|p2 jC (pV 0)<|pI 26)<|jd [] 0)
def qx:FS:=(jv (jX (dP<|pS [97,98,99,100,101,102,103,104,105,106,107,108,109,110,111,112,113,114,115,116,117,118,119,120,121,122])<|jd [] 2)<|jv (jX (dP<|pS [])<|jd [] 3)<|jv (YE (KZ #[pV 1]) (jd [] 4) vw)<|yQ<|dP<|pF<|pV 3)
def yh:List D->Option D:=fnP 5 qx
def vp:FS:=(jv (jX (dP<|pS [97,98,99,100,101,102,103,104,105,106,107,108,109,110,111,112,113,114,115,116,117,118,119,120,121,122])<|jd [] 1)<|jv (jX (dP<|Ji #[pS [112,111,111,108],pS [99,108,97,105,109],pS [112,111,116],pS [101,97,116],pS [111,114,100,101,114],pS [112,97,114,116],pS [112,97,121],pS [115,104,97,114,101],pS [114,101,112,97,121],pS [102,105,108,108],pS [108,101,110,100],pS [98,97,99,107]])<|jd [] 2)<|jv (sIf (dPT<|qOr (jh<|p2 (V6 false) (pV 0)<|pV 2)<|jh<|p2 (V6 false) (pV 0)<|Ji #[pS [114,101,115,116],pS [108,111,111,107],pS [103,117,97,114,100],pS [100,101,98,116],pS [111,110],pS [108,97,116,101],pS [101,97,114,108,121],pS [113,117,105,116]]) (yQ<|dP<|p2 jz (pSl (pV 0) oN<|oS<|p1 ja0<|pI 1)<|p2 jq (pV 1)<|p2 js (p2 jz (pBM "str" Yb (pV 1) #[p2 jq (pV 0)<|p1 ja0<|pI 1])<|pI 13)<|pI 26)
 jR)<|yQ<|dP<|pF<|pV 0)
def yI:List D->Option D:=fnP 3 vp
def kD:FS:=(jv (sIf (dPT<|jh<|p2 vy (p2 js (pV 0)<|pI 3)<|pI 0) (yQ<|dP<|p2 jz (pI 1)<|p2 js (p2 jC (pV 0)<|pI 3)<|pI 4)
 jR)<|yQ<|dP<|p2 jz (pI 1)<|p2 js (p2 yP (pV 0)<|pV 0)<|p2 jdU (pI 10)<|pI 12)
def jP:List D->Option D:=fnP 1 kD
def vj:FS:=(jv (jX (dP<|p2 jz (p2 jz (p2 jC (pV 0)<|pI 3)<|p2 yP (pV 5)<|pI 40)<|p2 yP (p2 yP (pI 7)<|pV 5)<|p2 jC (pV 0)<|pI 50)<|jd [] 6)<|wd 4<|vN #[pF<|p2 jq (pV 1)<|p2 js (pV 6)<|pCB jhR #[pI 2,pCB yE #[pV 1]],p2 jz (pI 1)<|p2 js (p2 jC (pV 6)<|pI 2)<|pV 3,pF<|p2 jq (p2 jq (pV 2)<|p2 js (p2 jC (pV 6)<|p2 yP (pI 2)<|pV 3)<|pCB yE #[pV 2])<|pI 0])
def Yh:FS:=(jv (jX (dP<|Ji pN)<|jd [] 4)<|jv (YE (KZ #[p2 js (pV 0)<|pI 3]) (jd [] 5) vj)<|yQ<|dMv 4)
def y8:List D->Option D:=fnP 7 Yh
def jZ:FS:=(sIf (dPT<|jh<|p2 vy (p2 jq (pV 8)<|pI 0)<|pS [115,104,97,114,101]) (jhZ 4<|yB (JD<|p2 jq (pV 8)<|pI 1) (jd [] 0) qT (pF<|pV 0) [none])<|sIf (dPT<|jh<|p2 vy (p2 jq (pV 8)<|pI 0)<|pS [114,101,112,97,121]) (wd 4<|pF<|p2 jq (pV 8)<|pI 1)
 jR)
def vL:FS:=(YE (pIt<|pF<|pV 7) (jd [] 8) jZ)
def yD:FS:=(sIf (dPT<|YC (jh<|p2 (V6 true) (pV 11)<|pV 4)<|YC (jh<|p2 V5 (pCB yE #[pV 2])<|pI 0)<|jh<|p2 V5 (p2 js (p2 jC (pV 0)<|p2 jz (p2 yP (pI 5)<|pV 10)<|pI 3)<|pI 4)<|pI 0) (wd 9<|vN #[pF<|p2 jq (pV 2)<|p2 js (p2 jC (pV 0)<|p2 jz (p2 yP (pI 7)<|pV 10)<|pI 2)<|pCB yE #[pV 2],pF<|pV 11])
 jR)
def Jp:FS:=(jv (jX (dP<|Ji pN)<|jd [] 4)<|jv (YE (pIt<|pF<|pV 3) (gT 3<|gC (jd [] 5)<|gC (jd [] 6)<|gC (jd [] 7) gN) vL)<|jv (jX (dP<|Ji pN)<|jd [] 9)<|jv (YE (Qv #[pF<|pV 1]) (gT 2<|gC (jd [] 10)<|gC (jd [] 11) gN) yD)<|yQ<|dMv 9)
def vC:List D->Option D:=fnP 12 Jp
def Jx:FS:=(sIf (dPT<|ud<|jh<|YF "tuple"<|pV 2) (yQ<|dP<|pC<|.bl false)
 jR)
def vA:FS:=(jv (sIf (dPT<|qOr (ud<|jh<|YF "tuple"<|pV 3)<|qOr (jh<|p2 wM (pCB yE #[pV 3])<|pI 2)<|ud<|jh<|YF "str"<|p2 jq (pV 3)<|pI 0) (yQ<|dP<|pC<|.bl false)
 jR)<|sIf (dPT<|qOr (ud<|jh<|YF "int"<|p2 jq (pV 3)<|pI 1)<|jh<|YF "bool"<|p2 jq (pV 3)<|pI 1) (yQ<|dP<|pC<|.bl false)
 jR)
def Y8:FS:=(jv (sIf (dPT<|qOr (ud<|jh<|YF "tuple"<|pV 1)<|jh<|p2 wM (pCB yE #[pV 1])<|pI 3) (yQ<|dP<|pC<|.bl false)
 jR)<|jv (YE (pIt<|pF<|pV 1) (jd [] 2) Jx)<|jv (YE (pIt<|pF<|p2 jq (pV 1)<|pI 0) (jd [] 3) vA)<|jv (sIf (dPT<|qOr (jh<|p2 wM (pCB yE #[p2 jq (pV 1)<|pI 1])<|pCB yE #[p2 jq (pV 0)<|pI 1])<|jh<|p2 wM (pCB yE #[p2 jq (pV 1)<|pI 2])<|pCB yE #[p2 jq (pV 0)<|pI 2]) (yQ<|dP<|pC<|.bl false)
 jR)<|yQ<|dP<|pCB jhV #[yB (JD<|p2 jz (p2 jq (pV 1)<|pI 1)<|p2 jq (pV 1)<|pI 2) (jd [] 0) qT (YF "bool"<|pV 0) [none]])
def kS:List D->Option D:=fnP 4 Y8
def Y9:FS:=(jv (jX (dP<|pCB vi #[yB (wK<|jL ya #[pV 0]) (jd [] 0) qT (vN #[pF<|pV 0,pI 0]) [none]])<|jd [] 1)<|yQ<|dP<|vN #[pF<|pV 1,p2 Vc (vN #[pC<|.bl true])<|pCB yE #[p2 jq (pV 0)<|pI 1],p2 Vc (vN #[pC<|.bl false])<|pCB yE #[p2 jq (pV 0)<|pI 2]])
def vQ:List D->Option D:=fnP 2 Y9
def Jn:FS:=(yQ<|dP<|jL yK #[pV 0,pCB YV #[p2 jq (pV 1)<|pI 0]])
def yN:List D->Option D:=fnP 2 Jn
def jN:FS:=(vD 0 (YG 0 "alive" Jc) (pV 4)<|pC<|.bl false)
def yo:FS:=(jv (vM 0 0 "claims"<|yB (JD<|p2 jq (pV 1)<|pI 1) (jd [] 0) qT (pF<|p2 jq (pV 0)<|pI 0) [none])<|jv (vM 0 0 "pots"<|yB (JD<|p2 jq (pV 1)<|pI 2) (jd [] 0) qT (pF<|p2 jq (pV 0)<|pI 0) [none])<|jv (vM 0 0 "guards"<|pF<|p2 jq (pV 1)<|pI 6)<|jv (vM 0 0 "greatest"<|jL ya #[pV 1])<|jv (vM 0 0 "runs"<|pF<|p2 jq (pV 2)<|pI 0)<|jv (vM 0 0 "alive"<|pCB Yd #[vP 0 "claims"<|pV 0,p2 jq (pV 2)<|pI 1])<|jv (YE (pIt<|pF<|pV 3) (jd [0] 4) jN)<|jv (vM 0 0 "full"<|pCB Yd #[vP 0 "pots"<|pV 0,p2 jq (pV 2)<|pI 2])<|jv (vM 0 0 "served"<|pC<|.dK true [] [])<|vM 0 0 "repaid"<|pC<|.dK true [] [])
def jH:List D->Option (D×D):=fnM 5 0 yo
def jx:FS:=(jv (jX (dP<|pF<|p2 jq (pV 1)<|pI 0)<|jd [] 2)<|jv (sIf (dPT<|jh<|p2 vy (pV 2)<|pS [112,97,121]) (yQ<|dP<|jQ je 0 "is_missed" (pV 0) #[p2 jq (pV 1)<|pI 1])
 jR)<|jv (sIf (dPT<|jh<|p2 vy (pV 2)<|pS [115,104,97,114,101]) (yQ<|dP<|pCB ji4 #[yB (JD<|p2 jq (pV 1)<|pI 1) (jd [] 0) qT (jQ je 0 "is_missed" (pV 1) #[pV 0]) [none,some 0]])
 jR)<|jv (sIf (dPT<|jh<|p2 vy (pV 2)<|pS [114,101,112,97,121]) (yQ<|dP<|zQ (p2 vU (vP 0 "alive"<|pV 0)<|p2 jq (pV 1)<|pI 1)<|p2 (YK true) (p2 jq (pV 1)<|pI 1)<|vP 0 "repaid"<|pV 0)
 jR)<|jv (sIf (dPT<|jh<|p2 vy (pV 2)<|pS [102,105,108,108]) (yQ<|dP<|jlt<|p2 vU (vP 0 "full"<|pV 0)<|p2 jq (pV 1)<|pI 1)
 jR)<|yQ<|dP<|pC<|.bl false)
def jm:List D->Option D:=fnP 3 jx
def yL:FS:=(yQ<|dP<|pIf (jh<|jQ je 0 "is_missed" (pV 0) #[pV 1]) (pCB jhR #[p2 jz (pV 2)<|pI 1,p2 vU (vP 0 "greatest"<|pV 0)<|pV 1])<|pI 0)
def jo:List D->Option D:=fnP 3 yL
def yw:FS:=(jv (jX (dP<|pF<|p2 jq (pV 3)<|p2 js (p2 jz (p2 jC (pV 4)<|pI 192)<|pV 9)<|pI 26)<|jd [] 10)<|jv (sIf (dPT<|jh<|p2 vy (p2 js (pV 4)<|pI 3)<|pI 0) (jX (dP<|p2 jz (p2 jz (pSl (pV 5) oN<|oS<|pV 7)<|pV 10)<|pSl (pV 5) (oS<|p2 jz (pV 7)<|pI 1)<|oS<|pV 6)<|jd [] 11)<|sIf (dPT<|jh<|p2 vy (p2 js (pV 4)<|pI 3)<|pI 1) (jX (dP<|pSl (pV 5) oN<|oS<|p2 jz (pI 1)<|p2 js (p2 jz (p2 jC (pV 4)<|pI 24)<|pV 9)<|pV 2)<|jd [] 11)<|jX (dP<|pSl (p2 jz (pV 10)<|jL yh #[jL jT #[pV 0,p2 jz (pV 9)<|pI 2],pI 7]) oN<|oS<|p2 jz (pI 1)<|p2 js (jL jT #[pV 0,p2 jz (pV 9)<|pI 40])<|pV 2)<|jd [] 11)<|wd 8<|jL yI #[pV 11])
def ql:FS:=(jv (jX (dP<|pS [97,98,99,100,101,102,103,104,105,106,107,108,109,110,111,112,113,114,115,116,117,118,119,120,121,122])<|jd [] 3)<|jv (jX (dP<|jL jT #[pV 0,pI 1])<|jd [] 4)<|jv (jX (dP<|jL yh #[p2 jz (p2 yP (pV 4)<|pV 4)<|pV 4,pI 8])<|jd [] 5)<|jv (jX (dP<|p2 jz (pI 1)<|p2 js (p2 jC (pV 4)<|pI 3)<|pV 2)<|jd [] 6)<|jv (jX (dP<|p2 js (p2 jC (pV 4)<|pI 24)<|pV 6)<|jd [] 7)<|jv (jX (dP<|Ji pN)<|jd [] 8)<|jv (YE (KZ #[pV 1]) (jd [] 9) yw)<|jv (sIf (dPT<|jh<|p2 vy (p2 js (p2 jC (pV 4)<|pI 5000)<|pI 2)<|pI 1) (yQ<|dP<|jfz<|pV 8)
 jR)<|yQ<|dMv 8)
def yq:List D->Option D:=fnP 12 ql
def yc:FS:=(jv (jX (dP<|p2 js (pV 0)<|pI 8)<|jd [] 4)<|jv (jX (dP<|p2 jC (pV 0)<|pI 8)<|jd [] 5)<|jv (jX (dP<|pF<|p2 jq (pV 1)<|p2 js (pV 5)<|pCB yE #[pV 1])<|jd [] 6)<|jv (sIf (dPT<|YC (jh<|p2 vy (pV 4)<|pI 2)<|jh<|p2 V5 (pCB yE #[pV 1])<|pI 1) (jv (jX (dP<|p2 jz (pI 2)<|p2 js (p2 jC (pV 5)<|pI 3)<|p2 jdy (pCB yE #[pV 1])<|pI 1)<|jd [] 7)<|jv (jX (dP<|yB (KZ #[pV 7]) (jd [] 0) qT (pF<|p2 jq (pV 1)<|p2 js (p2 jz (pV 2)<|pV 0)<|pCB yE #[pV 1]) [none,some 1,some 5])<|jd [] 8)<|jv (sIf (dPT<|jh<|p2 vy (p2 js (p2 jC (pV 5)<|pI 9)<|pI 2)<|pI 1) (jX (dP<|jfz<|pV 8)<|jd [] 8)
 jR)<|yQ<|dP<|vN #[pS [115,104,97,114,101],pCB vi #[pV 8]])
 jR)<|jv (sIf (dPT<|jh<|p2 vy (pV 4)<|pI 3) (yQ<|dP<|vN #[pS [114,101,112,97,121],pF<|pV 6])
 jR)<|jv (sIf (dPT<|YC (jh<|p2 vy (pV 4)<|pI 4)<|jh<|p2 V5 (pCB yE #[pV 2])<|pI 0) (yQ<|dP<|vN #[pS [102,105,108,108],pF<|p2 jq (pV 2)<|p2 js (p2 jC (pV 5)<|pI 3)<|pCB yE #[pV 2]])
 jR)<|jv (sIf (dPT<|YC (jh<|p2 vy (pV 4)<|pI 5)<|YC (jh<|p2 V5 (pCB yE #[pV 3])<|pI 0)<|jh<|p2 V5 (p2 js (p2 jC (pV 5)<|pI 3)<|pI 3)<|pI 0) (yQ<|dP<|vN #[pS [108,101,110,100],pF<|p2 jq (pV 3)<|p2 js (p2 jC (pV 5)<|pI 9)<|pCB yE #[pV 3],jL jP #[p2 jC (pV 5)<|pI 27]])
 jR)<|jv (sIf (dPT<|YC (jh<|p2 vy (pV 4)<|pI 5)<|jh<|p2 V5 (pCB yE #[pV 3])<|pI 0) (yQ<|dP<|vN #[pS [98,97,99,107],pF<|p2 jq (pV 3)<|p2 js (p2 jC (pV 5)<|pI 9)<|pCB yE #[pV 3]])
 jR)<|yQ<|dP<|vN #[pS [112,97,121],pF<|pV 6])
def jy:List D->Option D:=fnP 9 yc
def yr:FS:=(jv (jX (dP<|yB (JD<|vP 0 "guards"<|pV 0) (gT 2<|gC (jd [] 0)<|gC (jd [] 1) gN) (jh<|jQ je 0 "is_missed" (pV 2) #[pV 1]) (pF<|pV 0) [none,none,some 0])<|jd [] 1)<|jv (jX (dP<|yB (JD<|vP 0 "runs"<|pV 0) (gT 2<|gC (jd [] 0)<|gC (jd [] 1) gN) qT (vN #[pF<|pV 0,jQ jo 0 "days_behind" (pV 2) #[pV 0,pV 1]]) [none,none,some 0])<|jd [] 2)<|jv (jX (dP<|yB (JD<|vP 0 "claims"<|pV 0) (jd [] 0) qT (zQ (p2 vU (vP 0 "alive"<|pV 1)<|pV 0)<|p2 (YK true) (pV 0)<|vP 0 "repaid"<|pV 1) [none,some 0])<|jd [] 3)<|jv (jX (dP<|yB (JD<|vP 0 "pots"<|pV 0) (jd [] 0) qT (zQ (p2 vU (vP 0 "full"<|pV 1)<|pV 0)<|p2 (V6 true) (pV 0)<|pV 2) [none,some 0,some 1])<|jd [] 4)<|yQ<|dP<|vN #[pCB vi #[pV 2],pCB vi #[pV 3],pCB vi #[pV 4]])
def jp:List D->Option D:=fnP 5 yr
def vt:FS:=(jv (jX (dP<|jL vQ #[pV 1])<|jd [0] 2)<|jv (vM 0 1 "pool"<|pF<|pV 1)<|jv (vM 0 1 "outlines"<|Ji #[pF<|pV 2])<|jv (vM 0 1 "come_by"<|jiY (pV 2)<|pC .non)<|jv (vM 0 1 "orders"<|pC<|.dK true [] [])<|jv (vM 0 1 "cuts"<|pC<|.dT true [] [])<|vM 0 1 "at"<|pI 0)
def yn:List D->Option (D×D):=fnM 3 0 vt
def yA:FS:=(jv (jX (dP<|jL jT #[pV 7,p2 jz (pV 6)<|pI 3])<|jd [] 8)<|jv (jX (dP<|p2 jC (pV 8)<|pI 10)<|jd [] 9)<|jv (jX (dP<|pF<|p2 jq (pV 1)<|p2 js (pV 9)<|pCB yE #[pV 1])<|jd [] 10)<|jcj 5 11 [] (YC (jh<|p2 vy (p2 js (pV 8)<|pI 10)<|pI 7)<|jh<|p2 je9 (pCB yE #[pV 5])<|pCB yE #[pV 4]) (wd 5<|Ji #[pF<|p2 jq (pV 4)<|pCB yE #[pV 5],Ji pN,Ji pN])<|sIf (dPT<|jh<|p2 V5 (p2 js (pV 8)<|pI 10)<|pI 7) (jv (jX (dP<|p2 jz (pI 1)<|p2 js (p2 jC (pV 9)<|pI 3)<|pI 3)<|jd [5,11] 12)<|jv (sIf (dPT<|jh<|p2 vy (p2 js (p2 jC (pV 9)<|pI 9)<|pI 4)<|pI 0) (jX (dP<|p2 jz (pI 1)<|p2 js (p2 jC (pV 9)<|pI 36)<|pI 10)<|jd [5,11] 12)
 jR)<|sIf (dPT<|jh<|p2 (V6 true) (pV 10)<|yB (JD<|p2 jq (pV 11)<|pI 1) (gT 2<|gC (jd [] 0)<|gC (jd [] 1) gN) qT (pF<|pV 0) [none,none]) (Jm 11 1<|vN #[pF<|pV 10,pF<|pV 12])
 jR)<|sIf (dPT<|jh<|p2 je9 (pCB yE #[p2 jq (pV 11)<|pI 2])<|pI 4) (Jm 11 2<|jL jy #[pV 9,pV 1,pV 2,pV 3])
 jR)
def Jr:FS:=(jv (jX (dP<|Ji #[Ji #[pF<|p2 jq (pV 4)<|pI 0,Ji pN,Ji pN]])<|jd [] 5)<|jv (YE (Qv #[pF<|pV 0]) (gT 2<|gC (jd [] 6)<|gC (jd [] 7) gN) yA)<|sFz 5<|yQ<|dP<|yB (JD<|pV 5) (jd [] 0) qT (vN #[pF<|p2 jq (pV 0)<|pI 0,pF<|p2 jq (pV 0)<|pI 1,p2 jz (p2 jq (pV 0)<|pI 2)<|Ji #[vN #[pS [114,101,115,116],pF<|p2 jq (pV 1)<|p2 js (pCB yE #[p2 jq (pV 0)<|pI 2])<|pCB yE #[pV 1]]]]) [none,some 1])
def vG:List D->Option D:=fnP 13 Jr
def jA:FS:=(sIf (dPT<|jh<|jQ jm 0 "needs" (pV 5) #[pV 8]) (jv (wd 6<|vN #[pF<|pV 3,pF<|pV 7,jQ jp 0 "outline_behind" (pV 5) pN])<|jv (sIf (dPT<|jh<|p2 jlm (jL vY #[p2 jq (pV 1)<|pI 1])<|pI 10) (yQ<|dMv 6)
 jR)<|uX<|kz ju 5 0 "fill" #[pF<|pV 8])
 jR)
def vB:FS:=(jv (jX (dP<|YI jH 0 #[pF<|pV 0,pF<|pV 2,pF<|pV 4])<|jd [] 5)<|jv (jX (dP<|Ji pN)<|jd [] 6)<|jv (YE (Qv #[pF<|p2 jq (pV 1)<|pI 2]) (gT 2<|gC (jd [] 7)<|gC (jd [] 8) gN) jA)<|jv (wd 6<|vN #[pF<|pV 3,pCB yE #[p2 jq (pV 1)<|pI 2],jQ jp 0 "outline_behind" (pV 5) pN])<|yQ<|dMv 6)
def ym:List D->Option D:=fnP 9 vB
def vI:FS:=(wd 10<|vN #[pF<|pV 12,jL jP #[p2 jC (pV 6)<|p2 jz (pV 11)<|pI 1],jL jP #[p2 jz (p2 jC (pV 6)<|p2 jz (pV 11)<|pI 5)<|pV 11]])
def Y1:FS:=(jv (jX (dP<|jL jT #[jL jW #[pV 0,pI 0],pI 1])<|jd [] 5)<|jv (jX (dP<|jL jT #[jL jW #[pV 0,pI 1],pI 2])<|jd [] 6)<|jv (jX (dP<|pSl (pV 1) (oS<|pI 1)<|oS<|p2 jz (pI 2)<|p2 js (pV 5)<|pI 3)<|jd [] 7)<|jv (jX (dP<|pSl (pV 1) (oS<|pI 4)<|oS<|p2 jz (pI 4)<|p2 js (p2 jC (pV 5)<|pI 3)<|pI 3)<|jd [] 8)<|jv (sFz 8<|sFz 7<|jX (dP<|jL vG #[pFz<|pSl (pV 0) (oS<|pI 2) oN,pV 7,pV 8,pV 3,pV 2])<|jd [] 9)<|jv (jX (dP<|Ji pN)<|jd [] 10)<|jv (sFz 7<|YE (Qv #[pF<|pV 7]) (gT 2<|gC (jd [] 11)<|gC (jd [] 12) gN) vI)<|jv (jX (dP<|yB (KZ #[p2 js (p2 jC (pV 5)<|pI 36)<|p2 jz (pCB yE #[pV 7])<|pI 1]) (jd [] 0) qT (pF<|p2 jq (pV 1)<|p2 js (p2 jz (p2 jC (pV 2)<|pI 12)<|pV 0)<|pCB yE #[pV 1]) [none,some 7,some 5])<|jd [] 13)<|jv (jX (dP<|jL y8 #[p2 jC (pV 6)<|pI 11,pV 7,pV 9,p2 jC (pV 4)<|pCB jhX #[pI 1,pCB yE #[pV 8]]])<|jd [] 14)<|jv (sIf (dPT<|YC (jh<|p2 vy (pCB yE #[pV 8])<|pI 0)<|jh<|p2 vy (p2 js (p2 jC (pV 6)<|pI 7)<|pI 4)<|pI 0) (jX (dP<|pSl (jL y8 #[p2 jC (pV 6)<|pI 11,pV 7,pV 9,pI 9]) oN<|oS<|pI 1)<|jd [] 14)
 jR)<|jv (sFz 8<|jX (dP<|yB (Qv #[pF<|pV 8]) (gT 2<|gC (jd [] 0)<|gC (jd [] 1) gN) qT (vN #[pF<|pV 1,jL jP #[p2 jz (p2 jC (pV 2)<|pI 13)<|pV 0]]) [none,none,some 6])<|jd [] 15)<|sFz 10<|sFz 15<|sFz 13<|sFz 9<|sFz 14<|yQ<|dP<|vN #[pF<|p2 jq (pV 1)<|pI 0,pF<|pV 10,pF<|pV 15,pF<|pV 13,pF<|pV 9,pF<|pV 14,jL vC #[p2 jC (pV 5)<|pI 200,pV 7,pV 8,pV 9]])
def k9:List D->Option D:=fnP 16 Y1
def Jq:FS:=(jhZ 5<|jL ym #[pV 0,pV 2,pV 1,pV 6,pSl (pV 4) oN<|oS<|pV 6])
def Vj:FS:=(jv (jX (dP<|jL yt #[pV 0,jL yN #[pV 0,pV 1]])<|jd [] 2)<|jv (jX (dP<|pCB Yd #[yB (JD<|p2 jq (pV 0)<|pI 1) (jd [] 0) qT (pF<|p2 jq (pV 0)<|pI 0) [none],p2 jq (pV 1)<|pI 1])<|jd [] 3)<|jv (jX (dP<|yB (JD<|p2 jq (pV 0)<|pI 3) (jd [] 0) (jh<|p2 vU (pV 1)<|pV 0) (pF<|pV 0) [none,some 3])<|jd [] 4)<|jv (jX (dP<|Ji pN)<|jd [] 5)<|jv (YE (KZ #[p2 jz (pCB yE #[pV 4])<|pI 1]) (jd [] 6) Jq)<|yQ<|dMv 5)
def yM:List D->Option D:=fnP 7 Vj
def Ke:FS:=(jv (jX (dP<|jL yq #[jL jW #[pV 0,pI 0],pI 7,pI 8])<|jd [] 2)<|jv (jX (dP<|jL yq #[jL jW #[pV 0,pI 1],pI 3,pI 8])<|jd [] 3)<|sFz 3<|sFz 2<|yQ<|dP<|jL k9 #[pFz<|pSl (pV 0) oN<|oS<|pI 16,pV 2,pV 3,pFz<|pSl (pV 2) (oS<|pI 6) oN,pV 1])
def kJ:List D->Option D:=fnP 4 Ke
def y9:FS:=(jv (zC 0 (YG 1 "cuts" Jc) (pV 2) (pV 4)<|pC<|.bl true)<|sIf (dPT<|jh<|p2 (QV true) (pV 5)<|vP 1 "come_by"<|pV 0) (jv (Vt 0 (YG 1 "come_by" Jc) (pV 5)<|vN #[pF<|pV 1,pF<|pV 3,pF<|pV 4])<|ww 0 (YG 1 "outlines" Jc)<|pF<|pV 5)
 jR)
def Ju:FS:=(jv (jX (dP<|pF<|p2 jq (vP 1 "outlines"<|pV 0)<|vP 1 "at"<|pV 0)<|jd [0] 1)<|jv (jX (dP<|jL yN #[vP 1 "pool"<|pV 0,pV 1])<|jd [0] 2)<|jv (vD 0 (YG 1 "orders" Jc) (pV 2)<|pC<|.bl true)<|jv (YE (pIt<|jL yM #[vP 1 "pool"<|pV 0,pV 1]) (gT 3<|gC (jd [0] 3)<|gC (jd [0] 4)<|gC (jd [0] 5) gN) y9)<|xQ 0 Jc 1 "at" (λm n=>m+n)<|pI 1)
def yJ:List D->Option (D×D):=fnM 6 0 Ju
def v9:FS:=(uX<|kz yJ 2 1 "go_on" pN)
def J6:FS:=(jv (jX (dP<|YI yn 1 #[pF<|pV 0])<|jd [] 2)<|jv (Vf 1000 (YC (jh<|p2 vo (jQ ji 1 "outline_now" (pV 2) pN)<|pC .non)<|ud<|jh<|pLC 1 #[jQ ji 1 "outline_now" (pV 2) pN]) v9)<|yQ<|dMv 2)
def kG:List D->Option D:=fnP 3 J6
def Jy:FS:=(yQ<|dP<|kh kG #[pV 0,pC .lam])
def yf:List D->Option D:=fnP 1 Jy
def qm:FS:=(yQ<|dP<|vP 1 "outlines"<|kh yf #[pV 0])
def vx:List D->Option D:=fnP 1 qm
def Yg:FS:=(sIf (dPT<|jh<|p2 Vh (vN #[pF<|pV 4,pI 0])<|pV 3) (wd 3<|vN #[pF<|pV 4,pI 0])
 jR)
def JW:FS:=(jv (sIf (dPT<|qOr (ud<|jh<|jL kS #[pV 1,pV 9])<|jh<|p2 (QV false) (pV 9)<|pV 8) (yQ<|dP<|pC<|.bl false)
 jR)<|Vt 8 Jc (pV 9)<|pC<|.bl true)
def JU:FS:=(jv (sIf (dPT<|jh<|p2 (QV true) (pV 9)<|pV 8) (yQ<|dP<|pC<|.bl false)
 jR)<|sIf (dPT<|jh<|p2 (QV true) (pV 9)<|pV 11) (jv (Vt 11 Jc (pV 9)<|pC<|.bl true)<|wd 10<|pF<|pV 9)
 jR)
def Yx:FS:=(sFz 1<|wk (YT yM<|Qu (dP<|pF<|pV 1)<|Qu (jj6 10) jjZ) (gT 3<|gC (jd [] 12)<|gC (jd [] 13)<|gC (jd [] 9) gN) JU)
def uN:FS:=(jv (jX (dP<|jL kJ #[pV 0,pI 2])<|jd [] 1)<|jv (sFz 1<|jX (dP<|kh vx #[pV 1])<|jd [] 2)<|jv (jX (dP<|Ji pN)<|jd [] 3)<|jv (YE (pIt<|pF<|p2 jq (pV 1)<|pI 5) (gT 3<|gC (jd [] 4)<|gC (jd [] 5)<|gC (jd [] 6) gN) Yg)<|jv (jX (dP<|vN #[pCB vi #[pV 3],pCB vi #[yB (JD<|p2 jq (pV 1)<|pI 1) (jd [] 0) qT (pC<|.bl true) [none]],pCB vi #[yB (JD<|p2 jq (pV 1)<|pI 2) (jd [] 0) qT (pC<|.bl false) [none]]])<|jd [] 7)<|jv (sIf (dPT<|qOr (ud<|jh<|YF "list"<|pV 2)<|qOr (jh<|p2 vy (pCB yE #[pV 2])<|pI 0)<|jh<|p2 wM (p2 jq (pV 2)<|pI 0)<|pV 7) (yQ<|dP<|pC<|.bl false)
 jR)<|jv (jX (dP<|pC<|.dN true [])<|jd [] 8)<|jv (QM 2 (jd [2] 9) JW)<|jv (jX (dP<|Ji #[pF<|pV 7])<|jd [] 10)<|jv (jX (dP<|jiY (pV 7)<|pC<|.bl true)<|jd [] 11)<|jv (Vf 1000 (jh<|p2 V5 (pCB yE #[pV 10])<|pI 0) Yx)<|jv (jX (dP<|pCB jbW #[pV 2])<|jd [] 14)<|jv (wT 2)<|yQ<|dP<|zQ (p2 vy (pCB Kt #[pV 11])<|pCB Kt #[pV 8])<|zQ (p2 vy (pV 1)<|jL kJ #[pV 0,pI 2])<|p2 vy (kh vx #[pV 1])<|pV 14)
def wL:List D->Option D:=fnP 15 uN
structure Txt(P:Program)(w:World)(K:W3)(mg:W5)(cl:Nat->Addr):Prop where
 C0:Cls K (cl 0)
 mk0:PySem.W.makesIn K (cl 0)=true
 kc0:PySem.W.keepIn K (.ref<|cl 0)=true
 mg0:mg "OutlineDay" = some (.ref<|cl 0)
 C1:Cls K (cl 1)
 mk1:PySem.W.makesIn K (cl 1)=true
 kc1:PySem.W.keepIn K (.ref<|cl 1)=true
 mg1:mg "Walk" = some (.ref<|cl 1)
 N0_served:NoAttr K (cl 0) "served"
 N0_alive:NoAttr K (cl 0) "alive"
 N0_full:NoAttr K (cl 0) "full"
 N0_repaid:NoAttr K (cl 0) "repaid"
 N1_at:NoAttr K (cl 1) "at"
 N1_outlines:NoAttr K (cl 1) "outlines"
 N0_claims:NoAttr K (cl 0) "claims"
 N0_pots:NoAttr K (cl 0) "pots"
 N0_guards:NoAttr K (cl 0) "guards"
 N0_greatest:NoAttr K (cl 0) "greatest"
 N0_runs:NoAttr K (cl 0) "runs"
 N1_pool:NoAttr K (cl 1) "pool"
 N1_come_by:NoAttr K (cl 1) "come_by"
 N1_orders:NoAttr K (cl 1) "orders"
 N1_cuts:NoAttr K (cl 1) "cuts"
 aa:mg "all" = none
 ab:mg "any" = none
 ac:mg "bool" = none
 ae:mg "dict" = none
 af:mg "enumerate" = none
 ag:mg "int" = none
 ai:mg "isinstance" = none
 aj:mg "len" = none
 ak:mg "list" = none
 am:mg "max" = none
 ao:mg "min" = none
 ap:mg "range" = none
 aq:mg "reversed" = none
 ar:mg "str" = none
 au:mg "sum" = none
 av:mg "tuple" = none
 aw:mg "zip" = none
 ay:Js K mg "tenths_of" (top 2) ["parts"] 1
 az:Js K mg "order_named" (top 4) ["pool","name","order"] 2
 aA:Js K mg "look_order" (top 5) ["pool","days_of","claim","days","order"] 2
 aB:Js K mg "greatest_days" (top 8) ["pool","greatest","claim","days","order"] 1
 aC:uf K (cl 0) "is_missed" "OutlineDay.is_missed" (vW (top 12) 2) ["self","claim"] 2
 aD:uf K (cl 0) "fill" "OutlineDay.fill" (vW (top 12) 3) ["self","rule","kind","claim"] 2
 aE:uf K (cl 1) "outline_now" "Walk.outline_now" (vW (top 14) 1) ["self"] 1
 aF:Js K mg "_law_cell_at" (top 19) ["_law_script","_law_k"] 2
 aG:Js K mg "_law_mixed" (top 20) ["_law_cell","_law_k","_law_number"] 2
 aH:Js K mg "_law_letters" (top 21) ["_law_number","_law_size","_law_some","_law_word","_law_k"] 2
 aI:Js K mg "_law_spelt" (top 22) ["_law_word","_law_some","_law_kept"] 1
 aJ:Js K mg "_law_amount" (top 24) ["_law_m"] 1
 aL:Js K mg "_law_looks" (top 27) ["_law_m","_law_claims","_law_orders_here","_law_most","_law_looks_here","_law_k","_law_n"] 4
 aM:Js K mg "_law_guards" (top 28) ["_law_m","_law_claims","_law_pots","_law_orders_here","_law_busy","_law_name","_law_parts","_law_rules","_law_rule_here","_law_guards_here","_law_k","_law_claim"] 4
 aN:Js K mg "_law_form" (top 31) ["_law_pool_here","_law_outline","_law_part","_law_two"] 2
 aO:Js K mg "start_of" (top 7) ["pool","runs"] 1
 aP:Js K mg "order_of" (top 9) ["pool","outline"] 2
 aQ:uf K (cl 0) "__init__" "OutlineDay.__init__" (vW (top 12) 0) ["self","pool","outline","killed","claim"] 4
 aR:uf K (cl 0) "needs" "OutlineDay.needs" (vW (top 12) 1) ["self","rule","kind"] 2
 aT:uf K (cl 0) "days_behind" "OutlineDay.days_behind" (vW (top 12) 5) ["self","claim","days"] 3
 aU:Js K mg "_law_words" (top 23) ["_law_cell","_law_many","_law_longest","_law_some","_law_number","_law_base","_law_size","_law_at","_law_words_here","_law_k","_law_sign","_law_word"] 3
 aV:Js K mg "_law_rule" (top 25) ["_law_m","_law_claims","_law_pots","_law_others","_law_kind","_law_rest","_law_claim","_law_many","_law_names"] 4
 aW:uf K (cl 0) "outline_behind" "OutlineDay.outline_behind" (vW (top 12) 4) ["self","drawn","runs","alive","full"] 1
 aX:uf K (cl 1) "__init__" "Walk.__init__" (vW (top 14) 0) ["self","pool","start"] 2
 aY:Js K mg "_law_orders" (top 26) ["_law_cells","_law_claims","_law_pots","_law_others","_law_words_here","_law_rows","_law_k","_law_cell","_law_m","_law_rest","_law_claim","_law_here","_law_tenths"] 5
 aZ:Js K mg "steps_with" (top 11) ["pool","order","outline","kills","killed","day","steps","cut","rule"] 5
 b6:Js K mg "_law_pool" (top 29) ["_law_cells","_law_words_here","_law_ordered","_law_others","_law_most","_law_first","_law_second","_law_names","_law_pots","_law_orders_here","_law_claims","_law_k","_law_name","_law_eat","_law_looks_here","_law_marks"] 5
 b7:Js K mg "steps_of" (top 10) ["pool","outline","order","alive","can_die","steps","kills"] 2
 b8:Js K mg "_law_one" (top 30) ["_law_script","_law_most","_law_words_here","_law_ordered"] 2
 b9:uf K (cl 1) "go_on" "Walk.go_on" (vW (top 14) 2) ["self","ahead","order","kills","cut","outline"] 1
 ba:Js K mg "walk_to" (top 15) ["pool","is_wanted","walk"] 2
section
variable {P:Program}{w:World}{K:W3}{mg:W5}{cl:Nat->Addr}(T:Txt P w K mg cl)
include T
set_option maxHeartbeats 40000000 in
def jet:NP P w cl T.ay 1 vY /\
 NP P w cl T.az 1 yt /\
 NP P w cl T.aA 1 yK /\
 NP P w cl T.aB 1 ya /\
 OP P w cl mg T.aC 1 je /\
 OM P w cl mg T.aD 1 ju /\
 OP P w cl mg T.aE 1 ji /\
 NP P w cl T.aF 1 jW /\
 NP P w cl T.aG 1 jT /\
 NP P w cl T.aH 1 yh /\
 NP P w cl T.aI 1 yI /\
 NP P w cl T.aJ 1 jP /\
 NP P w cl T.aL 1 y8 /\
 NP P w cl T.aM 1 vC /\
 NP P w cl T.aN 1 kS /\
 NP P w cl T.aO 2 vQ /\
 NP P w cl T.aP 2 yN /\
 OM P w cl mg T.aQ 2 jH /\
 OP P w cl mg T.aR 2 jm /\
 OP P w cl mg T.aT 2 jo /\
 NP P w cl T.aU 2 yq /\
 NP P w cl T.aV 2 jy /\
 OP P w cl mg T.aW 3 jp /\
 OM P w cl mg T.aX 3 yn /\
 NP P w cl T.aY 3 vG /\
 NP P w cl T.aZ 4 ym /\
 NP P w cl T.b6 4 k9 /\
 NP P w cl T.b7 5 yM /\
 NP P w cl T.b8 5 kJ /\
 OM P w cl mg T.b9 6 yJ /\
 NP P w cl T.ba 7 kG:=by
 cases T
 repeat' refine jml ?_ λ_=>?_
 all_goals
  (first | refine okN (by assumption) λf fd S F base=>?_ | refine okO (by assumption) λf fd S F base=>?_)
  (first | refine' jkG F.fn S rfl λa A outer s H E b=>?_ | refine' ji7 F.fn S rfl λa A outer s H E b=>?_)
  apply Exists.intro
  repeat' first | exact rfl | (show QB _ _ _ _ _;first | apply jcr | apply qI | apply jkP | apply jfk | apply je4 | apply QP.fzb | apply jbu | apply QK.ix | apply QK.fld | apply QP.bb) | (show QBs _ _ _ _ _;first | apply Qm | apply uw) | (show QSs _ _ _ _ _ _;first | apply jat | apply xb | apply uE | apply jaM) | (show QPs _ _ _ _ _;first | apply jaj | apply jeb) | (show QE _ _ _ _ _;first | apply jl3 | apply jaR | apply zV | apply QP.d) | (show QP _ _ _ _ _;first | ((with_reducible show QP _ _ _ _ (pCB vi _));refine' JP Ja xl ?_ ke ?_) | ((with_reducible show QP _ _ _ _ (pCB jhX _));refine' vd (Kq rfl) jd0 ?_ K4 ?_) | ((with_reducible show QP _ _ _ _ (pCB jhR _));refine' vd (Kk rfl) jd0 ?_ Kc ?_) | ((with_reducible show QP _ _ _ _ (pCB jh3 _));refine' vd (Kj rfl) jez ?_ KL ?_) | ((with_reducible show QP _ _ _ _ (pCB jhV _));refine' vd (xT rfl) jed ?_ Kb ?_) | ((with_reducible show QP _ _ _ _ (pCB Yd _));apply jev) | ((with_reducible show QP _ _ _ _ (pCB YV _));refine' JP (YS rfl) xW ?_ Y6 ?_) | ((with_reducible show QP _ _ _ _ (pCB ji4 _));refine' vd (zJ rfl) jel ?_ Ko ?_) | ((with_reducible show QP _ _ _ _ (YF "tuple" _));refine' YJ (T:="tuple") (by decide) ?_ ?_ ke ?_) | ((with_reducible show QP _ _ _ _ (YF "str" _));refine' YJ (T:="str") (by decide) ?_ ?_ Kr ?_) | ((with_reducible show QP _ _ _ _ (YF "int" _));refine' YJ (T:="int") (by decide) ?_ ?_ KN ?_) | ((with_reducible show QP _ _ _ _ (YF "bool" _));refine' YJ (T:="bool") (by decide) ?_ ?_ Vk ?_) | ((with_reducible show QP _ _ _ _ (pBM "str" Yb _ _));refine' jl0 PySem.F.plainAttrs_str PySem.F.slot_str_index PySem.F.type_str_index zD xv ?_ ?_) | apply jke | apply qS | apply jfg | apply jix | apply jad | apply jf3 | apply jig | apply jiz | apply jl9 | apply jjU | apply jl8 | apply u6 | apply jin | apply jd9 | apply jjV | apply jjC | apply jfy | apply jaT | apply xt | apply jh2 | apply jbr | apply jl2 | apply jeq | apply jiU | apply jja | apply jki | apply jka | apply jiO | apply jaQ | apply jeH | apply Kx | apply QK.add | apply QK.len | apply QK.meth | apply QK.isI | apply QK.call | apply jjH | apply QB.f) | (show QS _ _ _ _ _ _;first | apply jef | apply jiG | apply jeD | apply jei | apply QS.fz | apply jeK | apply zI | apply J3 (hsw:=by with_unfolding_all rfl) | apply je8 | apply jbg | apply jac | apply uP | apply xk | apply jb7 | apply jaq | apply V9 | apply zu | apply jeL) | (show QT _ _ _ _ _;first | apply jd7 | apply jeu | apply jer | apply QW.t) | (show QG _ _ _ _ _ _;first | apply jbm | apply jay | apply QK.g_tup) | (show QGs _ _ _ _ _ _;first | apply xS | apply jaO) | (show QO _ _ _ _ _;first | apply jb1 | apply jbB) | (show QIb _ _ _ _ _ _;first | apply jaf | apply QI.b') | (show QI _ _ _ _ _ _;first | apply jej | apply jbc | apply jaI | apply ja9) | (show QL _ _ _ _ _ _;first | apply jeM | apply jek) | (show QW _ _ _ _ _;first | apply jem | apply jbE | apply jjn | apply jeB) | apply xP | apply jl4 | apply jlZ | apply jlL | apply jlR | apply jl6 | apply jlK | apply c_notin | apply zP | apply ul | apply QK.c_notin | apply rfl | exact Or.inl rfl | exact Or.inr rfl | exact Or.inr (Or.inl rfl) | exact Or.inr (Or.inr rfl) | exact λ_=>rfl | exact λ_ _=>rfl | exact λ_ _ _=>rfl | exact b.mono (by decide) | exact b.mono (by first | exact M8 _ | exact Nat.le_add_left _ _ | exact N7 (by decide)<|Nat.le_add_right _ _) | apply xa | exact S.nd | (show BlockOk _ _ _ _;exact bkN S) | exact PassesOwn.never | exact jec | exact je0 | (intro _ _ _ _;first | show QP _ _ _ _ _ | show QG _ _ _ _ _ _ | show QIf _ _ _ _ _ | show QT _ _ _ _ _ | show QKv _ _ _ _ _ _) | exact⟨rfl,rfl,rfl,rfl⟩ | exact ndN (by decide +kernel) | decide +kernel | with_unfolding_all rfl | apply jeG | apply Vw | apply xz | apply jb4 | assumption | apply Kn | apply xX | apply Vw | apply jio
end
abbrev jgA(ns:List Int):Prop:=∀ x∈ns,Builtin.Int.intBits x<=2 ^ 20
abbrev Lt(w:List Nat):Prop:=∀ c∈w,97<=c/\c<=122
def KB{a b:List Nat}(h1:Lt a)(h2:Lt b):Lt (a++b):=λc d=>(N1.mp d).elim (h1 c) (h2 c)
def xD{c:Nat}(h:97<=c/\c<=122):Lt [c]:=λd hd=>by rw[M7.mp hd];exact h
def Jl{α:Type}{l:List α}{lo hi:Option Int}{c:α}(h:c∈yz l lo hi):c∈l:=by
 unfold yz at h;exact List.mem_of_mem_drop<|List.mem_of_mem_take h
def ku{α:Type}(l:List α)(lo hi:Option Int):(yz l lo hi).length<=l.length:=by
 unfold yz;rw[X8,List.length_drop];omega
def Kl{w:List Nat}{lo hi:Option Int}(h:Lt w):Lt (yz w lo hi):=λc a=>h c<|Jl a
noncomputable abbrev ABC:List Nat:=[97,98,99,100,101,102,103,104,105,106,107,108,109,110,111,112,113,114,115,116,117,118,119,120,121,122]
def jjk{i:Int}(h0:0<=i)(h1:i<26):∃ c,jq (.str ABC) (.int i)=some (.str [c])/\97<=c/\c<=122:=by
 have hl:ABC.length=26:=rfl;refine⟨ABC.getD i.toNat 0,jlP (by decide) h0 ∅,?_⟩;have:∀ c∈ABC,97<=c/\c<=122:=by decide
 exact this _<|vF ∅
def jdu{c:Nat}(h:97<=c/\c<=122):0<=qr ABC [c]:=by
 obtain⟨a,b⟩:=h;have:c=97\/c=98\/c=99\/c=100\/c=101\/c=102\/c=103\/c=104\/c=105\/c=106\/c=107\/c=108\/c=109\/c=110\/c=111\/c=112\/c=113\/c=114\/c=115\/c=116\/c=117\/c=118\/c=119\/c=120\/c=121\/c=122:=by omega
 rcases this with rfl | rfl | rfl | rfl | rfl | rfl | rfl | rfl | rfl | rfl | rfl | rfl | rfl | rfl | rfl | rfl | rfl | rfl | rfl | rfl | rfl | rfl | rfl | rfl | rfl | rfl<;>decide +kernel
def v7(ns:List Int):frzs (ns.map D.int)=true:=yy λd hd=>by obtain⟨x,_,rfl⟩:=M5.mp hd;rfl
def Jg(ns:List Int):fzs (ns.map D.int)=ns.map D.int:=jf _<|v7 ns
def VF{ns:List Int}(c:jgA ns){k:Int}(d:0<=k):∃ z,jW [.lst false<|ns.map D.int,.int k]=some (.int z)/\Builtin.Int.intBits z<=2 ^ 20:=by
 have e:=v7 ns;have a:(ns.map D.int).length=ns.length:=L1 ..;by_cases h:k<(ns.length:Int)
 ·have b:k.toNat<ns.length:=by omega
  have ix:jq (.lst false<|ns.map D.int) (.int k)=some (.int ns[k.toNat]):=by
   rw[jf4 d<|by rw[a];exact h,List.getElem?_map,X7 b];rfl
  refine⟨ns[k.toNat],?_,c _<|List.getElem_mem b⟩;generalize ns.map D.int=NS at *;simp[jW,jE,kg,a,h,ix]
 ·refine⟨0,?_,by decide⟩;generalize ns.map D.int=NS at *;simp[jW,jE,kg,a,h]
def ja6{z k:Int}(h0:0<=k)(h1:k<=1000):∃ m,jT [.int z,.int k]=some (.int m)/\0<=m/\m<2147483587:=by
 have b:0<=k*k/\k*k<=1000*1000:=⟨Int.mul_nonneg h0 h0,Int.mul_le_mul h1 h1 h0<|by decide⟩;have c:1511*k*k=1511*(k*k):=by rw[Int.mul_assoc]
 generalize k*k=kk at *;have d:yP (.int 1511) (.int k)=some (.int<|1511*k):=vS (by decide) ∅;have e:yP (.int<|1511*k) (.int k)=some (.int<|1511*kk):=by rw[vS ∅ ∅,c]
 have f:=U0 z (show(2147483647:Int)≠0 by decide);have g:=N9 z (show(0:Int)<2147483647 by decide);generalize a:z%2147483647=zz at *;have h:yP (.int zz) (.int<|69621+1511*kk)=some (.int<|zz*(69621+1511*kk)):=vS ∅ ∅;have o:=U0 (zz*(69621+1511*kk)) (show(2147483629:Int)≠0 by decide);have p:=N9 (zz*(69621+1511*kk)) (show(0:Int)<2147483629 by decide);generalize i:zz*(69621+1511*kk)%2147483629=n at *;have j:yP (.int 5) (.int k)=some (.int<|5*k):=vS (by decide) ∅;have l:yP (.int<|n+k) (.int<|n+5*k+1)=some (.int<|(n+k)*(n+5*k+1)):=vS ∅ ∅;refine⟨(n+k)*(n+5*k+1)%2147483587,?_,U0 _<|by decide,N9 _<|by decide⟩;simp(disch:=decide) [jT,jE,Ys,jr,a,d,e,h,i,j,l]
def kZ{z k:Int}(a:Builtin.Int.intBits z<=2 ^ 20)(h0:0<=k)(h1:k<=1000):∃ m,jT [.int z,.int k]=some (.int m)/\0<=m/\m<2147483587:=ja6 h0 h1
def Y0{n:Int}{s:Nat}(hn:0<=n)(hs:s<=8):∃ w,yh [.int n,.int (s:Int)]=some (.str w)/\w.length=s/\Lt w:=by
 have e:=kU (j:=(s:Int)) ∅ ∅;rw[N8] at e;obtain⟨r,l,d,w,g,rfl,h,hl,hw⟩:=yS (G:=jd [] 4) (f:=vw) (xs:=YN 0 s) (λi ρ=>∃(d:Int) (w:List Nat) (g:Option D),ρ=[some<|.int d,some<|.int (s:Int),some<|.str ABC,some<|.str w,g]/\0<=d/\w.length=i/\Lt w) (by
  rintro i x ρ m ⟨d,w,g,rfl,h,hl,hw⟩;obtain⟨rfl,t⟩:=JJ m;obtain⟨c,o,k⟩:=jjk (i:=d%26) ∅ ∅;refine⟨_,[some<|.int<|d/26,some<|.int (s:Int),some<|.str ABC,some<|.str<|w++[c],some<|.int<|0+(i:Int)],rfl,.inl ?_,d/26,w++[c],some<|.int<|0+(i:Int),rfl,by omega,by simp[hl],KB hw<|xD k⟩;have p:=KD (a:=w) (b:=[c]) (by simp;omega);generalize ABC=AA at *;simp(disch:=omega) [vw,jr,jJ,o,p,-Int.zero_add]) (ρ:=[some<|.int n,some<|.int (s:Int),some<|.str ABC,some<|.str [],none]) ⟨n,[],none,rfl,hn,rfl,λc k=>(nomatch k)⟩
 rw[vE] at hl;refine⟨w,?_,by omega,hw⟩;generalize q:ABC=AA at *;simp[yh,jE,qx,e,l,q]
noncomputable def KA1:List (List Nat):=[[112,111,111,108],[99,108,97,105,109],[112,111,116],[101,97,116],[111,114,100,101,114],[112,97,114,116],[112,97,121],[115,104,97,114,101],[114,101,112,97,121],[102,105,108,108],[108,101,110,100],[98,97,99,107]]
noncomputable def KA2:List (List Nat):=[[114,101,115,116],[108,111,111,107],[103,117,97,114,100],[100,101,98,116],[111,110],[108,97,116,101],[101,97,114,108,121],[113,117,105,116]]
def jeO(w:List Nat)(o:Bool)(l:W2):V6 false (.str w) (.lst o<|l.map D.str)=some (.bl<|decide<|w∈l):=by
 show(bif jcP (.str w) (l.map D.str) then some (D.bl<|false != inL (.str w) (l.map D.str)) else none)=_;rw[JV,VJ];simp
noncomputable def rot(c:Nat):Nat:=97+(c-97+13)%26
structure Sp(u v:List Nat):Prop where
 l:v.length=u.length
 a:∀ i,i+1<u.length->v[i]?=u[i]?
 b:∀ i,i+1=u.length->v[i]?=u[i]?\/(2<=u.length/\∃ c,u[i]?=some c/\v[i]?=some (rot c))
def Sp.id(u:List Nat):Sp u u:=⟨rfl,λ_ _=>rfl,λ_ _=>.inl rfl⟩
def Sp.last{u:List Nat}{c:Nat}(h:1<=u.length):Sp (u++[c]) (u++[rot c]):=by
 refine⟨by simp,λi a=>?_,λi a=>.inr ⟨by simp;omega,c,?_,?_⟩⟩
 ·have:i<u.length:=by simp at a;exact a
  rw[List.getElem?_append_left this,List.getElem?_append_left this]
 ·have:i=u.length:=by simp at a;exact a
  subst this;simp
 ·have:i=u.length:=by simp at a;exact a
  subst this;simp
def jeZ:(∀ w∈KA1,2<=w.length)/\∀ w∈KA2,2<=w.length:=by decide
def jfi{c:Nat}(h:97<=c/\c<=122):qr ABC [c]=(c:Int)-97:=by
 obtain⟨a,b⟩:=h;have:c=97\/c=98\/c=99\/c=100\/c=101\/c=102\/c=103\/c=104\/c=105\/c=106\/c=107\/c=108\/c=109\/c=110\/c=111\/c=112\/c=113\/c=114\/c=115\/c=116\/c=117\/c=118\/c=119\/c=120\/c=121\/c=122:=by omega
 rcases this with rfl | rfl | rfl | rfl | rfl | rfl | rfl | rfl | rfl | rfl | rfl | rfl | rfl | rfl | rfl | rfl | rfl | rfl | rfl | rfl | rfl | rfl | rfl | rfl | rfl | rfl<;>decide +kernel
def jew{i:Int}(h0:0<=i)(h1:i<26):jq (.str ABC) (.int i)=some (.str [97+i.toNat]):=by
 have hl:ABC.length=26:=rfl;have e:=jlP (s:=ABC) (by decide) h0 ∅;have:∀ j,j<26->ABC.getD j 0=97+j:=by decide
 rw[e,this i.toNat ∅]
def jcO(u:List Nat)(c:Nat):yz (u++[c]) none (some<|-1)=u:=by
 unfold yz HT.sIx;simp;rw[show(-1+((u.length:Int)+1)).toNat=u.length by omega];simp
def ja8{l:List Nat}{j:Int}(h0:0<=j)(h1:j<=l.length):yz l none (some j)=l.take j.toNat:=by
 unfold yz HT.sIx;simp;rw[if_neg ∅];omega
def VN{w:List Nat}(hw:Lt w)(hl:w.length<=20):∃ v,yI [.str w]=some (.str v)/\Lt v/\v.length<=21/\Sp w v:=by
 have j:=jeO w true KA1;have m:=jeO w true KA2;rw[show KA1.map D.str=[.str [112,111,111,108],.str [99,108,97,105,109],.str [112,111,116],.str [101,97,116],.str [111,114,100,101,114],.str [112,97,114,116],.str [112,97,121],.str [115,104,97,114,101],.str [114,101,112,97,121],.str [102,105,108,108],.str [108,101,110,100],.str [98,97,99,107]] from rfl] at j;rw[show KA2.map D.str=[.str [114,101,115,116],.str [108,111,111,107],.str [103,117,97,114,100],.str [100,101,98,116],.str [111,110],.str [108,97,116,101],.str [101,97,114,108,121],.str [113,117,105,116]] from rfl] at m;by_cases h:w∈KA1\/w∈KA2
 ·have k:w≠[]:=by
   intro z;subst z;revert h
   decide
  obtain⟨u,c,rfl⟩:∃ u c,w=u++[c]:=⟨w.dropLast,w.getLast k,(List.dropLast_concat_getLast k).symm⟩;have A:97<=c/\c<=122:=hw c (by simp);have ix:jq (.str<|u++[c]) (.int<|-1)=some (.str [c]):=by
   show(bif lim (u++[c]).length then((L2.atI (u++[c])<|-1).bind λc=>some<|D.str [c]) else none)=_;rw[jc ∅,u4 (i:=u.length) (x:=c) (by
    unfold ixN;rw[if_neg<|by decide,if_pos<|by simp;omega];congr 1;simp;omega)<|by simp]
   rfl
  have C:=jdu A;have n:=jkj (s:=u++[c]) (lo:=none) (hi:=some<|-1) ∅;have E:=ku (u++[c]) none<|some<|-1;have o:=Kl (lo:=none) (hi:=some<|-1) hw;have F:=U0 (qr ABC [c]+13) (show(26:Int)≠0 by decide);have G:=N9 (qr ABC [c]+13) (show(0:Int)<26 by decide);have e:=jew F G;have p:97<=97+((qr ABC [c]+13)%26).toNat/\97+((qr ABC [c]+13)%26).toNat<=122:=by omega
  have d:97+((qr ABC [c]+13)%26).toNat=rot c:=by rw[jfi A];unfold rot;omega
  have q:1<=u.length:=by
   have:=h.elim (jeZ.1 _)<|jeZ.2 _;simp at this;omega
  have r:Sp (u++[c]) (u++[97+((qr ABC [c]+13)%26).toNat]):=by rw[d];exact Sp.last q
  have l:=jcO u c;clear d;generalize 97+((qr ABC [c]+13)%26).toNat=c' at *;generalize f:yz (u++[c]) none (some<|-1)=cu at *;have t:=KD (a:=cu) (b:=[c']) (by simp;omega);have g:Yb (.str ABC) [.str [c]]=some (.int<|qr ABC [c]):=by
   rw[jcH,X1 C];rfl
  generalize qr ABC [c]=fi at *;refine⟨cu++[c'],?_,KB o<|xD p,by simp;omega,by rw[l];exact r⟩;generalize y:ABC=AA at *;rcases h with h | h
  ·have H:=X1 h;generalize u++[c]=w at *;simp(disch:=decide) [yI,jE,vp,jc,j,H,h,n,f,y,ix,g,jr,e,t]
  ·by_cases B:u++[c]∈KA1
   ·generalize u++[c]=w at *;simp(disch:=decide) [yI,jE,vp,jc,j,B,n,f,y,ix,g,jr,e,t]
   ·generalize u++[c]=w at *;simp(disch:=decide) [yI,jE,vp,jc,j,m,h,B,n,f,y,ix,g,jr,e,t]
 ·refine⟨w,?_,hw,by omega,Sp.id w⟩;have I:¬ w∈KA1:=λz=>h<|.inl z;have J:¬ w∈KA2:=λz=>h<|.inr z;simp[yI,jE,vp,jc,j,m,I,J]
structure Nm(w:List Nat):Prop where
 l:w.length<=21
 r:Lt w
noncomputable def code(n:Int)(i:Nat):Nat:=97+((n/192+(0+(i:Int)))%26).toNat
def Mk(n at' lo:Int)(i:Nat)(w:List Nat):Prop:=
 (n%3=0/\∃ d,w[at'.toNat]?=some d/\(d=code n i\/d=rot (code n i)))\/(n%3=1/\w.length=(1+(n/24+(0+(i:Int)))%lo).toNat)\/(n%3=2/\w[0]?=some (code n i))
def Mk.ne{n at':Int}{i j:Nat}{w:List Nat}(hi:i<7)(f:j<7)(h1:Mk n at' 8 i w)(h2:Mk n at' 8 j w):i=j:=by
 rcases h1 with⟨c1,g,b,d⟩ | ⟨c1,b⟩ | ⟨c1,b⟩<;>rcases h2 with⟨c,h,a,e⟩ | ⟨c,a⟩ | ⟨c,a⟩<;>try omega
 ·rw[b] at a;injection a with a;subst a;unfold rot code at d e;omega
 ·rw[b] at a;injection a with a;unfold code at a;omega
def wZ{z:Int}(U:Builtin.Int.intBits z<=2 ^ 20){n lo si at':Int}(hn:0<=n)(hlo:1<=lo)(V:lo<=8){base:List Nat}(J:Lt base)(hbl:base.length=8)(K:0<=at')(ha7:at'<=7){W:W2}(hW:W.length<=100){i:Nat}(hi:i<=100){a1 o10 o11:Option D}:
  ∃(w:List Nat) (r10 r11:Option D),yw [some<|.int z,a1,some<|.int lo,some<|.str ABC,some<|.int n,some<|.str base,some<|.int si,some<|.int at',↑(W.map D.str),some<|.int<|0+(i:Int),o10,o11] =
   some (.nx [some<|.int z,a1,some<|.int lo,some<|.str ABC,some<|.int n,some<|.str base,some<|.int si,some<|.int at',↑((W++[w]).map D.str),some<|.int<|0+(i:Int),r10,r11])/\Nm w/\Mk n at' lo i w:=by
 have e1:=U0 (n/192+(0+(i:Int))) (show(26:Int)≠0 by decide);have e2:=N9 (n/192+(0+(i:Int))) (show(0:Int)<26 by decide);have G:=jew e1 e2;have t:97+((n/192+(0+(i:Int)))%26).toNat=code n i:=rfl;have X:97<=code n i/\code n i<=122:=by unfold code;omega
 rw[t] at G;clear t;generalize x:code n i=c at *;have L:lim (W.map D.str).length=true:=jc (by rw[L1];omega);by_cases H:n%3=0
 ·have y:=jkj (s:=base) (lo:=none) (hi:=some at') ∅;have s2:=jkj (s:=base) (lo:=some<|at'+1) (hi:=some si) ∅;have M:=ku base none<|some at';have l2:=ku base (some<|at'+1)<|some si;have A:=Kl (lo:=none) (hi:=some at') J;have t2:=Kl (lo:=some<|at'+1) (hi:=some si) J;have B:(yz base none<|some at').length=at'.toNat:=by rw[ja8 K ∅,X8];omega
  generalize yz base none (some at')=u1,yz base (some<|at'+1) (some si)=u2 at *;have j:=KD (a:=u1) (b:=[c]) (by simp;omega);have N:=KD (a:=u1++[c]) (b:=u2) (by simp;omega);obtain⟨v,C,E,F,f⟩:=VN (w:=u1++[c]++u2) (KB (KB A<|xD X) t2) (by simp;omega);have I:(u1++[c]++u2)[at'.toNat]?=some c:=by rw[<- B];simp
  have O:at'.toNat+1<=(u1++[c]++u2).length:=by simp;omega
  have d:Mk n at' lo i v:=by
   refine .inl ⟨H,?_⟩;rw[x];by_cases e:at'.toNat+1=(u1++[c]++u2).length
   ·rcases f.b _ e with h | ⟨_,c',r,Y⟩
    ·exact⟨c,by rw[h,I],.inl rfl⟩
    ·rw[I] at r;cases r;exact⟨_,Y,.inr rfl⟩
   ·exact⟨c,by rw[f.a _ ∅,I],.inl rfl⟩
  refine⟨v,some<|.str [c],some<|.str<|u1++[c]++u2,?_,⟨F,E⟩,d⟩;clear d I O f B;rw[N5];show _=some (Out.nx [_,_,_,_,_,_,_,_,↑(W.map D.str++[.str v]),_,_,_]);generalize W.map D.str=WW,u1++[c]++u2=uu at *;generalize Z:ABC=AA at *;simp(disch:=omega) [yw,jJ,jr,G,H,y,s2,j,N,C,L,-Int.zero_add]
 by_cases r:n%3=1
 ·have y:=jkj (s:=base) (lo:=none) (hi:=some<|1+(n/24+(0+(i:Int)))%lo) ∅;have M:=ku base none<|some<|1+(n/24+(0+(i:Int)))%lo;have A:=Kl (lo:=none) (hi:=some<|1+(n/24+(0+(i:Int)))%lo) J;have hm:js (.int<|n/24+(0+(i:Int))) (.int lo)=some (.int<|(n/24+(0+(i:Int)))%lo):=jr ∅;have q0:=U0 (n/24+(0+(i:Int))) (show lo≠0 by omega);have q1:=N9 (n/24+(0+(i:Int))) (show 0<lo by omega);have B:(yz base none<|some<|1+(n/24+(0+(i:Int)))%lo).length=(1+(n/24+(0+(i:Int)))%lo).toNat:=by rw[ja8 ∅ ∅,X8];omega
  obtain⟨v,C,E,F,f⟩:=VN A ∅;have d:Mk n at' lo i v:=.inr<|.inl ⟨r,by rw[f.l,B]⟩;clear f B;generalize(n/24+(0+(i:Int)))%lo=q at *;generalize yz base none (some<|1+q)=u1 at *;refine⟨v,some<|.str [c],some<|.str u1,?_,⟨F,E⟩,d⟩;clear d;rw[N5];show _=some (Out.nx [_,_,_,_,_,_,_,_,↑(W.map D.str++[.str v]),_,_,_]);generalize W.map D.str=WW at *;generalize Z:ABC=AA at *;simp(disch:=omega) [yw,jJ,jr,G,H,r,hm,y,C,L,-Int.zero_add]
 ·obtain⟨m1,P,Q,_⟩:=kZ (k:=0+(i:Int)+2) U ∅ ∅;obtain⟨g,R,hm2,_⟩:=kZ (k:=0+(i:Int)+40) U ∅ ∅;obtain⟨u,eu,lu,tu⟩:=Y0 (s:=7) Q (by decide);have j:=KD (a:=[c]) (b:=u) (by simp;omega);have tc:Lt ([c]++u):=KB (xD X) tu;have y:=jkj (s:=[c]++u) (lo:=none) (hi:=some<|1+g%lo) (by simp;omega);have M:=ku ([c]++u) none<|some<|1+g%lo;have A:=Kl (lo:=none) (hi:=some<|1+g%lo) tc;have hm:js (.int g) (.int lo)=some (.int<|g%lo):=jr ∅;have m:([c]++u).length=8:=by simp[lu]
  rw[m] at M;have q0:=U0 g (show lo≠0 by omega);have q1:=N9 g (show 0<lo by omega);have o:yz ([c]++u) none (some<|1+g%lo)=([c]++u).take (1+g%lo).toNat:=ja8 ∅ (by rw[m];omega);generalize g%lo=q at *;have p:(yz ([c]++u) none<|some<|1+q)[0]?=some c:=by rw[o,List.getElem?_take_of_lt ∅];rfl
  have S:1<=(yz ([c]++u) none<|some<|1+q).length:=by rw[o,X8,m];omega
  obtain⟨v,C,E,F,f⟩:=VN A ∅;have d:Mk n at' lo i v:=by
   refine .inr<|.inr ⟨by omega,?_⟩;rw[x];by_cases e:0+1=(yz ([c]++u) none<|some<|1+q).length
   ·rcases f.b _ e with h | ⟨Y,_⟩
    ·rw[h,p]
    ·omega
   ·rw[f.a _ ∅,p]
  clear f p S o;generalize [c]++u=cu at *;generalize yz cu none (some<|1+q)=u1 at *;refine⟨v,some<|.str [c],some<|.str u1,?_,⟨F,E⟩,d⟩;clear d;rw[N5];show _=some (Out.nx [_,_,_,_,_,_,_,_,↑(W.map D.str++[.str v]),_,_,_]);have T:yh [.int m1,.int 7]=some (.str u):=eu;generalize W.map D.str=WW at *;generalize Z:ABC=AA at *;simp(disch:=omega) [yw,jJ,jr,G,H,r,P,R,T,j,hm,y,C,L,-Int.zero_add]
def zk{z:Int}(J:Builtin.Int.intBits z<=2 ^ 20){many:Nat}(hm:many<=7):
  ∃ W:List (List Nat),yq [.int z,.int (many:Int),.int 8]=↑(W.map D.str)/\W.length=many/\(∀ w∈W,Nm w)/\W.Nodup:=by
 have u:(1:Int)<=8:=by decide
 have m:(8:Int)<=8:=by decide
 obtain⟨n,K,y,P⟩:=kZ (k:=1) J (by decide) (by decide);have L:yP (.int n) (.int n)=some (.int<|n*n):=vS ∅ ∅;have Q:0<=n*n:=Int.mul_nonneg y y;obtain⟨base,R,S,tb⟩:=Y0 (n:=n*n+n) (s:=8) ∅ (by decide);have o:yh [.int<|n*n+n,.int 8]=some (.str base):=R;generalize n*n=nn at *;have T:=N9 (n/3) (show(0:Int)<8 by decide);have hd:=U0 (n/3) (show(8:Int)≠0 by decide);have p:js (.int<|n/3) (.int 8)=some (.int<|n/3%8):=jr ∅;generalize n/3%8=q at *;have r:js (.int<|n/24) (.int<|1+q)=some (.int<|n/24%(1+q)):=jr ∅;have A:=U0 (n/24) (show 1+q≠0 by omega);have U:=N9 (n/24) (show 0<1+q by omega);generalize n/24%(1+q)=at' at *;have g:=kU (j:=(many:Int)) ∅ ∅;rw[N8] at g;obtain⟨ρ',t,W,B,a,b,rfl,hl,hw,c⟩:=yS (G:=jd [] 9) (f:=yw) (xs:=YN 0 many) (λi ρ=>∃(W:W2) (B a b:Option D),ρ=[some<|.int z,some<|.int (many:Int),some<|.int 8,some<|.str ABC,some<|.int n,some<|.str base,some<|.int<|1+q,some<|.int at',↑(W.map D.str),B,a,b]/\W.length=i/\(∀ w∈W,Nm w)/\∀ j w,W[j]?=some w->Mk n at' 8 j w) (by
  rintro i x ρ V ⟨W,B,a,b,rfl,hl,hw,c⟩;obtain⟨rfl,M⟩:=JJ V;obtain⟨w,C,E,e,X,Y⟩:=wZ J (n:=n) (lo:=8) (si:=1+q) (at':=at') y u m tb S A ∅ (W:=W) ∅ (i:=i) ∅ (a1:=some<|.int (many:Int)) (o10:=a) (o11:=b);exact⟨_,_,rfl,.inl e,W++[w],some<|.int<|0+(i:Int),C,E,rfl,by simp[hl],λv l=>(N1.mp l).elim (hw v) λl=>by rw[M7.mp l];exact X,λj v d=>by
   by_cases F:j<W.length
   ·rw[List.getElem?_append_left F] at d;exact c j v d
   ·have H:j<(W++[w]).length:=(L9.mp d).1;have:j=W.length:=by simp at H;omega
    subst this;rw[List.getElem?_concat_length] at d;cases d;rw[hl];exact Y⟩) (ρ:=[some<|.int z,some<|.int (many:Int),some<|.int 8,some<|.str ABC,some<|.int n,some<|.str base,some<|.int<|1+q,some<|.int at',some<|.lst true [],none,none,none]) ⟨[],none,none,none,rfl,rfl,λv l=>(nomatch l),λj v d=>by simp at d⟩
 rw[vE] at hl;have nd:W.Nodup:=by
  unfold List.Nodup;rw[List.pairwise_iff_getElem];intro i j M d Z e;have e2:W[j]?=some W[j]:=X7 d;have t:W[i]?=some W[j]:=by rw[X7 M,e]
  have:=Mk.ne ∅ ∅ (c i _ t) (c j _ e2);omega
 have N:=jn W;have hr:(W.map D.str).reverse=W.reverse.map D.str:=by rw[List.map_reverse]
 by_cases O:n/5000%2=1
 ·refine⟨W.reverse,?_,by simp[hl],λv l=>hw v<|List.mem_reverse.mp l,by unfold List.Nodup at *;rw[List.pairwise_reverse];exact nd.imp λh=>h.symm⟩;rw[<- hr];generalize W.map D.str=WW at *;generalize I:ABC=AA at *;simp(disch:=omega) [yq,jE,ql,I,K,L,o,jJ,p,r,g,t,jr,O,N,jc]
 ·refine⟨W,?_,hl,hw,nd⟩;generalize W.map D.str=WW at *;generalize I:ABC=AA at *;simp(disch:=omega) [yq,jE,ql,I,K,L,o,jJ,p,r,g,t,jr,O,N,jc]
def qH{m:Int}(h0:0<=m)(h1:m<10 ^ 20):∃ v,jP [.int m]=some (.int v)/\1<=v:=by
 have a:jdU (.int 10) (.int 12)=some (.int 1000000000000):=rfl;by_cases h:m%3=0
 ·exact⟨1+m/3%4,by simp(disch:=omega) [jP,jE,kD,jr,jJ,h],by omega⟩
 ·have b:yP (.int m) (.int m)=some (.int<|m*m):=vS ∅ ∅;generalize m*m=q at *;exact⟨1+q%1000000000000,by simp(disch:=omega) [jP,jE,kD,jr,jJ,h,b,a],by omega⟩
noncomputable abbrev vg:List Nat:=[115,104,97,114,101]
noncomputable abbrev ko:List Nat:=[114,101,112,97,121]
inductive Rl where
 | two (kw x:List Nat) | many (ws:W2) | lend (kw x:List Nat) (v:Int)
def jF:Rl->D
 | .two kw x=>.tup [.str kw,.str x]
 | .many ws=>.tup [.str vg,.tup<|ws.map D.str]
 | .lend kw x v=>.tup [.str kw,.str x,.int v]
noncomputable abbrev jhY:List Nat:=[112,97,121]
noncomputable abbrev jbR:List Nat:=[102,105,108,108]
noncomputable abbrev K6:List Nat:=[114,101,115,116]
noncomputable abbrev jkE:List Nat:=[98,97,99,107]
noncomputable abbrev jkO:List Nat:=[108,101,110,100]
def Kd(C P:W2)(kw x:List Nat):Prop:=(kw=jhY\/kw=ko)/\x∈C\/kw=jbR/\x∈P\/kw=jkE\/kw=K6
def xB(C P:W2):Rl->Prop
 | .two kw x=>kw≠vg/\Lt kw/\Nm x/\Kd C P kw x
 | .many ws=>ws.length<=8/\(∀ w∈ws,Nm w)/\∀ w∈ws,w∈C
 | .lend kw x v=>(kw≠vg/\kw≠ko)/\Lt kw/\Nm x/\kw=jkO
def JN(r:Rl):frz (jF r)=true:=by
 cases r with
 | two b x=>rfl
 | many a=>
  have:=jn a;show frz (D.tup [.str vg,.tup<|a.map D.str])=true;simp[this]
 | lend b x v=>rfl
def vq{W:W2}(h:∀ w∈W,Nm w){i:Nat}(hi:i<W.length):Nm (W.getD i []):=h _<|vF hi
def jgm{m:Int}(hm0:0<=m)(hm1:m<10 ^ 12){C P O:W2}(hC1:1<=C.length)(hC6:C.length<=6)(hP6:P.length<=50)(hO6:O.length<=50)(nC:∀ w∈C,Nm w)(nP:∀ w∈P,Nm w)(nO:∀ w∈O,Nm w):
  ∃ r,jy [.int m,.lst false<|C.map D.str,.lst false<|P.map D.str,.lst false<|O.map D.str]=some (jF r)/\xB C P r:=by
 have a:(((C.map D.str).length:Nat):Int)=(C.length:Int):=by rw[L1]
 have e:(((P.map D.str).length:Nat):Int)=(P.length:Int):=by rw[L1]
 have y:(((O.map D.str).length:Nat):Int)=(O.length:Int):=by rw[L1]
 have hr0:0<=m/8:=by omega
 have hr1:m/8<10 ^ 12:=by omega
 have hk0:=U0 m (show(8:Int)≠0 by decide);generalize n:m%8=k at *;generalize b:m/8=r at *;have c1:=U0 r (show(C.length:Int)≠0 by omega);have c2:=N9 r (show 0<(C.length:Int) by omega);have s:=vb (o:=false) (l:=C) c1 c2;have nc:Nm (C.getD (r%(C.length:Int)).toNat []):=vq nC ∅;have mc:C.getD (r%(C.length:Int)).toNat []∈C:=vF ∅;generalize C.getD (r%(C.length:Int)).toNat []=cl at *;have c:js (.int r) (.int (C.length:Int))=some (.int<|r%(C.length:Int)):=jr ∅;generalize r%(C.length:Int)=rc at *;have frC:=jn C;by_cases w2:k=2/\1<C.length
 ·obtain⟨rfl,A⟩:=w2;have g:(1:Int)<(C.length:Int):=by omega
  have d1:=U0 (r/3) (show(C.length:Int)-1≠0 by omega);have d2:=N9 (r/3) (show 0<(C.length:Int)-1 by omega);have B:js (.int<|r/3) (.int<|(C.length:Int)-1)=some (.int<|r/3%((C.length:Int)-1)):=jr ∅;generalize r/3%((C.length:Int)-1)=sz at *;have E:=kU (j:=2+sz) ∅ ∅;have F:lim (YN 0 (2+sz).toNat).length=true:=jc (by rw[vE];omega);obtain⟨ys,ec,hl,hg⟩:=JK (G:=jd [] 0) (p:=pF<|p2 jq (pV 1)<|p2 js (p2 jz (pV 2)<|pV 0)<|pCB yE #[pV 1]) (Good:=λd=>∃ w,d=.str w/\Nm w/\w∈C) (P:=λρ=>∃ o,ρ=[o,‹C.map D.str›,some<|.int r]) (xs:=YN 0 (2+sz).toNat) (by
   rintro x hx ρ ⟨o,rfl⟩;obtain⟨i,hi,rfl⟩:=M5.mp hx;have hi:=List.mem_range.mp hi;have f1:=U0 (r+(0+(i:Int))) (show(C.length:Int)≠0 by omega);have f2:=N9 (r+(0+(i:Int))) (show 0<(C.length:Int) by omega);have R:=vb (o:=false) (l:=C) f1 f2;have S:Nm (C.getD ((r+(0+(i:Int)))%(C.length:Int)).toNat []):=vq nC ∅;have T:C.getD ((r+(0+(i:Int)))%(C.length:Int)).toNat []∈C:=vF ∅;have U:js (.int<|r+(0+(i:Int))) (.int (C.length:Int))=some (.int<|(r+(0+(i:Int)))%(C.length:Int)):=jr ∅;generalize(r+(0+(i:Int)))%(C.length:Int)=q at *;generalize C.getD q.toNat []=w at *;refine⟨[some<|.int<|0+(i:Int),‹C.map D.str›,some<|.int r],.str w,rfl,?_,⟨_,rfl,S,T⟩,_,rfl⟩;generalize C.map D.str=CC at *;simp[a,U,R,-Int.zero_add]) (ρ:=jO [none,some 1,some 5] [some<|.int m,‹C.map D.str›,‹P.map D.str›,‹O.map D.str›,some<|.int 2,some<|.int r,some<|.str cl,some<|.int<|2+sz,none]) ⟨none,rfl⟩
  rw[vE] at hl;obtain⟨W,rfl,L⟩:=JI (f:=D.str) (Q:=λw=>Nm w/\w∈C) hg;rw[L1] at hl;have V:=jn W;have lW:lim (W.map D.str).length=true:=jc (by rw[L1];omega);have fR:=jn W.reverse;have lR:lim (W.reverse.map D.str).length=true:=jc (by rw[L1,List.length_reverse];omega);have X:(W.map D.str).reverse=W.reverse.map D.str:=by rw[List.map_reverse]
  have zW:=jf _ V;have zR:=jf _ fR;by_cases h9:r/9%2=1
  ·refine⟨.many W.reverse,?_,by rw[List.length_reverse];omega,λw hw=>(L w<|List.mem_reverse.mp hw).1,λw hw=>(L w<|List.mem_reverse.mp hw).2⟩;show jy _=some (.tup [.str vg,.tup<|W.reverse.map D.str]);generalize W.reverse.map D.str=RR,W.map D.str=WW,C.map D.str=CC,P.map D.str=PP,O.map D.str=OO at *;simp(maxSteps:=400000) (disch:=omega) [jy,jE,yc,jr,jJ,n,b,a,c,s,g,A,B,E,F,ec,V,h9,X,fR,zR,lR,jc]
  ·refine⟨.many W,?_,by omega,λw hw=>(L w hw).1,λw hw=>(L w hw).2⟩;show jy _=some (.tup [.str vg,.tup<|W.map D.str]);generalize W.map D.str=WW,C.map D.str=CC,P.map D.str=PP,O.map D.str=OO at *;simp(maxSteps:=400000) (disch:=omega) [jy,jE,yc,jr,jJ,n,b,a,c,s,g,A,B,E,F,ec,V,h9,zW,lW,jc]
 have H:(YC (jh<|p2 vy (pV 4)<|pI 2)<|jh<|p2 V5 (pCB yE #[pV 1])<|pI 1) [some<|.int m,‹C.map D.str›,‹P.map D.str›,‹O.map D.str›,some<|.int k,some<|.int r,some<|.str cl,none,none]=some false:=by
  generalize C.map D.str=CC at *;by_cases h:k=2
  ·have:¬ (1:Int)<(C.length:Int):=λz=>w2 ⟨h,by omega⟩;simp[h,a,this]
  ·simp[h]
 by_cases w3:k=3
 ·subst w3;refine⟨.two ko cl,?_,by decide,by decide,nc,.inl ⟨.inr rfl,mc⟩⟩;unfold jF;generalize C.map D.str=CC,P.map D.str=PP,O.map D.str=OO at *;simp(maxSteps:=400000) (disch:=omega) [jy,jE,yc,jr,jJ,n,b,a,c,s,H,jc]
 by_cases Y:k=4/\0<P.length
 ·obtain⟨rfl,I⟩:=Y;have p1:=U0 (r/3) (show(P.length:Int)≠0 by omega);have p2:=N9 (r/3) (show 0<(P.length:Int) by omega);have M:=vb (o:=false) (l:=P) p1 p2;have N:Nm (P.getD (r/3%(P.length:Int)).toNat []):=vq nP ∅;have mq:P.getD (r/3%(P.length:Int)).toNat []∈P:=vF ∅;have t:js (.int<|r/3) (.int (P.length:Int))=some (.int<|r/3%(P.length:Int)):=jr ∅;generalize r/3%(P.length:Int)=q at *;generalize P.getD q.toNat []=pq at *;have g:(0:Int)<(P.length:Int):=by omega
  refine⟨.two [102,105,108,108] pq,?_,by decide,by decide,N,.inr<|.inl ⟨rfl,mq⟩⟩;unfold jF;generalize C.map D.str=CC,P.map D.str=PP,O.map D.str=OO at *;simp(maxSteps:=400000) (disch:=omega) [jy,jE,yc,jr,jJ,n,b,a,e,c,s,H,I,g,t,M,jc]
 have Z:(YC (jh<|p2 vy (pV 4)<|pI 4)<|jh<|p2 V5 (pCB yE #[pV 2])<|pI 0) [some<|.int m,‹C.map D.str›,‹P.map D.str›,‹O.map D.str›,some<|.int k,some<|.int r,some<|.str cl,none,none]=some false:=by
  generalize P.map D.str=PP at *;by_cases h:k=4
  ·have:¬ (0:Int)<(P.length:Int):=λz=>Y ⟨h,by omega⟩;simp[h,e,this];exact List.eq_nil_of_length_eq_zero ∅
  ·simp[h]
 by_cases w5:k=5/\0<O.length
 ·obtain⟨rfl,u⟩:=w5;have p1:=U0 (r/9) (show(O.length:Int)≠0 by omega);have p2:=N9 (r/9) (show 0<(O.length:Int) by omega);have M:=vb (o:=false) (l:=O) p1 p2;have N:Nm (O.getD (r/9%(O.length:Int)).toNat []):=vq nO ∅;have t:js (.int<|r/9) (.int (O.length:Int))=some (.int<|r/9%(O.length:Int)):=jr ∅;generalize r/9%(O.length:Int)=q at *;generalize O.getD q.toNat []=pq at *;have g:(0:Int)<(O.length:Int):=by omega
  by_cases J:0<r/3%3
  ·obtain⟨v,ev,_⟩:=qH (m:=r/27) ∅ ∅;refine⟨.lend [108,101,110,100] pq v,?_,⟨by decide,by decide⟩,by decide,N,rfl⟩;unfold jF;generalize C.map D.str=CC,P.map D.str=PP,O.map D.str=OO at *;simp(maxSteps:=400000) (disch:=omega) [jy,jE,yc,jr,jJ,n,b,a,e,y,c,s,H,Z,u,g,J,t,M,ev,jc]
  ·refine⟨.two [98,97,99,107] pq,?_,by decide,by decide,N,.inr<|.inr<|.inl rfl⟩;unfold jF;generalize C.map D.str=CC,P.map D.str=PP,O.map D.str=OO at *;simp(maxSteps:=400000) (disch:=omega) [jy,jE,yc,jr,jJ,n,b,a,e,y,c,s,H,Z,u,g,J,t,M,jc]
 ·refine⟨.two [112,97,121] cl,?_,by decide,by decide,nc,.inl ⟨.inl rfl,mc⟩⟩;unfold jF;generalize C.map D.str=CC,P.map D.str=PP,O.map D.str=OO at *;by_cases h5:k=5
  ·subst h5;have u:¬ (0:Int)<(O.length:Int):=λz=>w5 ⟨rfl,by omega⟩;have hOO:OO=[]:=List.eq_nil_of_length_eq_zero ∅;subst hOO;simp(maxSteps:=400000) (disch:=omega) [jy,jE,yc,jr,jJ,n,b,a,e,c,s,H,Z,jc]
  by_cases h2:k=2
  ·subst h2;have hC0:¬ (1:Int)<(C.length:Int):=λz=>w2 ⟨rfl,by omega⟩;have K:C.length<=1:=by omega
   simp(maxSteps:=400000) (disch:=omega) [jy,jE,yc,jr,jJ,n,b,a,e,c,s,hC0,K,jc]
  by_cases h4:k=4
  ·subst h4;have I:¬ (0:Int)<(P.length:Int):=λz=>Y ⟨rfl,by omega⟩;have hPP:PP=[]:=List.eq_nil_of_length_eq_zero ∅;subst hPP;simp(maxSteps:=400000) (disch:=omega) [jy,jE,yc,jr,jJ,n,b,a,e,c,s,jc]
  ·simp(maxSteps:=400000) (disch:=omega) [jy,jE,yc,jr,jJ,n,b,a,e,c,s,h2,w3,h4,h5,jc]
def jaF{i x:Nat}{pm:List Nat}{q:PTf}{b c:FS}{ρ:Rh}{l:List D}{it:D}(hl:ρ[i]?=some (↑l))(a:l[l.length-1]?=some it)(d:(decide (x<ρ.length)&&(!decide (x∈pm)&&!decide (x=i)))=true)
  (e:q (ρ.set x<|some .dead)=some true):jcj i x pm q b c ρ=b (ρ.set x<|some .dead):=by
 unfold jcj;simp only[hl,a,d,e,cond_true]
def wR{i x:Nat}{pm:List Nat}{q:PTf}{e c:FS}{ρ a:Rh}{l:List D}{it d:D}(hl:ρ[i]?=some (↑l))(b:l[l.length-1]?=some it)(f:(decide (x<ρ.length)&&(!decide (x∈pm)&&!decide (x=i)))=true)
  (g:q (ρ.set x<|some .dead)=some false) (h:c ((ρ.set i none).set x (some it))=some (.nx a)) (hd:a[x]?=some (some d)) (hi:decide (i<a.length)=true):
  jcj i x pm q e c ρ=some (.nx<|(a.set x<|some .dead).set i (↑(l.set (l.length-1) d))):=by
 unfold jcj;simp only[hl,b,f,g,cond_true,h,hd,hi]
def jae{i j:Nat}{p:PF}{ρ:Rh}{d:D}{l l':List D}(a:p ρ=some d)(hl:ρ[i]?=some (↑l))(b:l[j]?=↑l')(hm:lim l'.length=true):Jm i j p ρ=some (.nx<|ρ.set i<|↑(l.set j<|.lst true<|l'++[d])):=by
 unfold Jm;simp only[a,hl,b,hm,cond_true]
noncomputable abbrev Qt:=List Nat×Int
noncomputable abbrev jI(q:Qt):D:=.tup [.str q.1,.int q.2]
abbrev Od:=List Nat×List Qt×List Rl
def vm(x:Od):D:=.lst true [.str x.1,.lst true<|x.2.1.map jI,.lst true<|x.2.2.map jF]
structure OdOk(C P:W2)(n:Nat)(x:Od):Prop where
 nm:Nm x.1
 p:x.2.1.length<=n
 q:∀ q∈x.2.1,Nm q.1
 r:x.2.2.length<=4
 k:∀ r∈x.2.2,xB C P r
def OdOk.mono{C P:W2}{n m:Nat}{x:Od}(h:OdOk C P n x)(hn:n<=m):OdOk C P m x:=⟨h.nm,N7 h.p hn,h.q,h.r,h.k⟩
def jG(l:List Qt):frzs (l.map jI)=true:=yy λd hd=>by obtain⟨x,_,rfl⟩:=M5.mp hd;rfl
def va(l:List Rl):frzs (l.map jF)=true:=yy λd hd=>by obtain⟨x,_,rfl⟩:=M5.mp hd;exact JN x
def jak(w:List Nat)(o:Bool)(l:W2):V6 true (.str w) (.lst o<|l.map D.str)=some (.bl<|!decide (w∈l)):=by
 show(bif jcP (.str w) (l.map D.str) then some (D.bl<|true != inL (.str w) (l.map D.str)) else none)=_;rw[JV,VJ];simp
structure Ctx(C P O N:W2):Prop where
 c1:1<=C.length
 c6:C.length<=6
 p:P.length<=50
 o:O.length<=50
 nC:∀ w∈C,Nm w
 nP:∀ w∈P,Nm w
 nO:∀ w∈O,Nm w
 nN:∀ w∈N,Nm w
 n:N.length<=50
def jaA{C P O N:W2}(h:Ctx C P O N){m r:Int}(U:0<=m)(F:0<=r)(H:r<10 ^ 12){cl:List Nat}(I:Nm cl){n:Nat}(hn:n<=1000){y:Od}(b:OdOk C P n y){a0 a6 a7 o12:Option D}:
  ∃(y':Od) (r12:Option D),(sIf (dPT<|jh<|p2 V5 (p2 js (pV 8)<|pI 10)<|pI 7) (jv (jX (dP<|p2 jz (pI 1)<|p2 js (p2 jC (pV 9)<|pI 3)<|pI 3)<|jd [5,11] 12)<|jv (sIf (dPT<|jh<|p2 vy (p2 js (p2 jC (pV 9)<|pI 9)<|pI 4)<|pI 0) (jX (dP<|p2 jz (pI 1)<|p2 js (p2 jC (pV 9)<|pI 36)<|pI 10)<|jd [5,11] 12)
 jR)<|sIf (dPT<|jh<|p2 (V6 true) (pV 10)<|yB (JD<|p2 jq (pV 11)<|pI 1) (gT 2<|gC (jd [] 0)<|gC (jd [] 1) gN) qT (pF<|pV 0) [none,none]) (Jm 11 1<|vN #[pF<|pV 10,pF<|pV 12])
 jR)<|sIf (dPT<|jh<|p2 je9 (pCB yE #[p2 jq (pV 11)<|pI 2])<|pI 4) (Jm 11 2<|jL jy #[pV 9,pV 1,pV 2,pV 3])
 jR) [a0,‹C.map D.str›,‹P.map D.str›,‹O.map D.str›,‹N.map D.str›,none,a6,a7,some<|.int m,some<|.int r,some<|.str cl,some<|vm y,o12] =
   some (.nx [a0,‹C.map D.str›,‹P.map D.str›,‹O.map D.str›,‹N.map D.str›,none,a6,a7,some<|.int m,some<|.int r,some<|.str cl,some<|vm y',r12])/\OdOk C P (n+1) y':=by
 have x:=jG y.2.1;have z:jq (vm y) (.int 1)=↑(y.2.1.map jI):=rfl;have L:jq (vm y) (.int 2)=↑(y.2.2.map jF):=rfl;have v:lim (y.2.1.map jI).length=true:=jc (by rw[L1];have:=b.p;omega);have V:lim (y.2.2.map jF).length=true:=jc (by rw[L1];have:=b.r;omega);have w:(((y.2.2.map jF).length:Nat):Int)=(y.2.2.length:Int):=by rw[L1]
 by_cases u:7<m%10
 ·have M:∀(ρ:Rh),(∃ A B,ρ=[A,B])->jS (gT 2<|gC (jd [] 0)<|gC (jd [] 1) gN) qT (pF<|pV 0) (y.2.1.map jI) ρ=some ((y.2.1.map (·.1)).map D.str):=by
   intro ρ W;have:=jbe (G:=gT 2<|gC (jd [] 0)<|gC (jd [] 1) gN) (p:=pF<|pV 0) (l:=y.2.1) (en:=jI) (out:=λq=>D.str q.1) rfl (λρ=>∃ A B,ρ=[A,B]) (by
    rintro q i ρ ⟨A,B,rfl⟩;exact⟨[some<|.str q.1,some<|.int q.2],rfl,by simp,_,_,rfl⟩) W
   rw[this,U1];rfl
  have f:=jak cl true (y.2.1.map (·.1));obtain⟨t,j⟩:∃ t:Int,(if r/9%4=0 then 1+r/36%10 else 1+r/3%3)=t:=⟨_,rfl⟩;by_cases c:cl∈y.2.1.map (·.1)
  ·refine⟨y,some<|.int t,?_,b.mono<|Nat.le_succ _⟩;have hd:=X1 c;have e:=M (jO [none,none] [a0,‹C.map D.str›,‹P.map D.str›,‹O.map D.str›,‹N.map D.str›,none,a6,a7,some<|.int m,some<|.int r,some<|.str cl,some<|vm y,some<|.int t]) ⟨none,none,rfl⟩;generalize(y.2.1.map (·.1)).map D.str=NN at *;generalize y.2.1.map jI=QQ,vm y=ew,C.map D.str=CC,P.map D.str=PP,O.map D.str=OO,N.map D.str=N2 at *;by_cases g:r/9%4=0
   ·rw[if_pos g] at j;subst j;simp(disch:=omega) [jr,jJ,u,g,z,x,v,e,f,c]
   ·rw[if_neg g] at j;subst j;simp(disch:=omega) [jr,jJ,u,g,z,x,v,e,f,c]
  ·refine⟨(y.1,y.2.1++[(cl,t)],y.2.2),some<|.int t,?_,⟨b.nm,by have:=b.p;simp;omega,λq i=>(N1.mp i).elim (b.q q) λi=>by rw[M7.mp i];exact I,b.r,b.k⟩⟩;have hd:=X2 c;have e:=M (jO [none,none] [a0,‹C.map D.str›,‹P.map D.str›,‹O.map D.str›,‹N.map D.str›,none,a6,a7,some<|.int m,some<|.int r,some<|.str cl,some<|vm y,some<|.int t]) ⟨none,none,rfl⟩;have a:Jm 11 1 (vN #[pF<|pV 10,pF<|pV 12]) [a0,‹C.map D.str›,‹P.map D.str›,‹O.map D.str›,‹N.map D.str›,none,a6,a7,some<|.int m,some<|.int r,some<|.str cl,some<|vm y,some<|.int t] =
     some (.nx [a0,‹C.map D.str›,‹P.map D.str›,‹O.map D.str›,‹N.map D.str›,none,a6,a7,some<|.int m,some<|.int r,some<|.str cl,some<|vm (y.1,y.2.1++[(cl,t)],y.2.2),some<|.int t]):=by
    rw[jae (d:=jI (cl,t)) (l:=[.str y.1,.lst true<|y.2.1.map jI,.lst true<|y.2.2.map jF]) (l':=y.2.1.map jI) (by simp(disch:=omega) [jc]) rfl rfl v];unfold vm;rw[N5];rfl
   generalize vm (y.1,y.2.1++[(cl,t)],y.2.2)=ew2 at *;generalize(y.2.1.map (·.1)).map D.str=NN at *;generalize y.2.1.map jI=QQ,vm y=ew,C.map D.str=CC,P.map D.str=PP,O.map D.str=OO,N.map D.str=N2 at *;by_cases g:r/9%4=0
   ·rw[if_pos g] at j;subst j;simp(disch:=omega) [jr,jJ,u,g,z,x,v,e,f,c,a]
   ·rw[if_neg g] at j;subst j;simp(disch:=omega) [jr,jJ,u,g,z,x,v,e,f,c,a]
 ·by_cases Q:y.2.2.length<4
  ·obtain⟨E,J,K⟩:=jgm F H h.c1 h.c6 h.p h.o h.nC h.nP h.nO;refine⟨(y.1,y.2.1,y.2.2++[E]),o12,?_,⟨b.nm,Nat.le_succ_of_le b.p,b.q,by simp;omega,λq i=>(N1.mp i).elim (b.k q) λi=>by rw[M7.mp i];exact K⟩⟩;have R:=jn C;have S:=jn P;have T:=jn O;have X:=jf _ R;have Y:=jf _ S;have Z:=jf _ T;have a:Jm 11 2 (jL jy #[pV 9,pV 1,pV 2,pV 3]) [a0,‹C.map D.str›,‹P.map D.str›,‹O.map D.str›,‹N.map D.str›,none,a6,a7,some<|.int m,some<|.int r,some<|.str cl,some<|vm y,o12] =
     some (.nx [a0,‹C.map D.str›,‹P.map D.str›,‹O.map D.str›,‹N.map D.str›,none,a6,a7,some<|.int m,some<|.int r,some<|.str cl,some<|vm (y.1,y.2.1,y.2.2++[E]),o12]):=by
    rw[jae (d:=jF E) (l:=[.str y.1,.lst true<|y.2.1.map jI,.lst true<|y.2.2.map jF]) (l':=y.2.2.map jF) (by
     generalize C.map D.str=CC,P.map D.str=PP,O.map D.str=OO at *;simp[R,S,T,X,Y,Z,J]) rfl rfl V]
    unfold vm;rw[N5];rfl
   have s:(y.2.2.length:Int)<4:=by omega
   generalize vm (y.1,y.2.1,y.2.2++[E])=ew2,y.2.2.map jF=RR,vm y=ew,C.map D.str=CC,P.map D.str=PP,O.map D.str=OO,N.map D.str=N2 at *;simp(disch:=omega) [jr,u,L,w,s,Q,a]
  ·refine⟨y,o12,?_,b.mono<|Nat.le_succ _⟩;have s:¬ (y.2.2.length:Int)<4:=by omega
   generalize y.2.2.map jF=RR,vm y=ew,C.map D.str=CC,P.map D.str=PP,O.map D.str=OO,N.map D.str=N2 at *;simp(disch:=omega) [jr,u,L,w,s,Q]
def oQ:PTf:=(YC (jh<|p2 vy (p2 js (pV 8)<|pI 10)<|pI 7)<|jh<|p2 je9 (pCB yE #[pV 5])<|pCB yE #[pV 4])
def oA:FS:=(wd 5<|Ji #[pF<|p2 jq (pV 4)<|pCB yE #[pV 5],Ji pN,Ji pN])
def oB:FS:=(sIf (dPT<|jh<|p2 V5 (p2 js (pV 8)<|pI 10)<|pI 7) (jv (jX (dP<|p2 jz (pI 1)<|p2 js (p2 jC (pV 9)<|pI 3)<|pI 3)<|jd [5,11] 12)<|jv (sIf (dPT<|jh<|p2 vy (p2 js (p2 jC (pV 9)<|pI 9)<|pI 4)<|pI 0) (jX (dP<|p2 jz (pI 1)<|p2 js (p2 jC (pV 9)<|pI 36)<|pI 10)<|jd [5,11] 12)
 jR)<|sIf (dPT<|jh<|p2 (V6 true) (pV 10)<|yB (JD<|p2 jq (pV 11)<|pI 1) (gT 2<|gC (jd [] 0)<|gC (jd [] 1) gN) qT (pF<|pV 0) [none,none]) (Jm 11 1<|vN #[pF<|pV 10,pF<|pV 12])
 jR)<|sIf (dPT<|jh<|p2 je9 (pCB yE #[p2 jq (pV 11)<|pI 2])<|pI 4) (Jm 11 2<|jL jy #[pV 9,pV 1,pV 2,pV 3])
 jR)
def wS:yA=jv (jX (dP<|jL jT #[pV 7,p2 jz (pV 6)<|pI 3])<|jd [] 8) (jv (jX (dP<|p2 jC (pV 8)<|pI 10)<|jd [] 9)<|jv (jX (dP<|pF<|p2 jq (pV 1)<|p2 js (pV 9)<|pCB yE #[pV 1])<|jd [] 10)<|jcj 5 11 [] oQ oA oB):=rfl
def Q1{C P O N:W2}(h:Ctx C P O N){z:Int}(G:Builtin.Int.intBits z<=2 ^ 20){i:Nat}(hi:i<=100){Y:List Od}{y:Od}(j:∀ x∈Y++[y],OdOk C P i x)(hl:(Y++[y]).length<=N.length){a0 o8 o9 o10 o11 o12:Option D}:
  ∃(X:List Od) (r8 r9 r10 r11 r12:Option D),yA [a0,‹C.map D.str›,‹P.map D.str›,‹O.map D.str›,‹N.map D.str›,↑((Y++[y]).map vm),some<|.int (i:Int),some<|.int z,o8,o9,o10,o11,o12] =
   some (.nx [a0,‹C.map D.str›,‹P.map D.str›,‹O.map D.str›,‹N.map D.str›,↑(X.map vm),some<|.int (i:Int),some<|.int z,r8,r9,r10,r11,r12])/\X≠[]/\X.length<=N.length/\∀ x∈X,OdOk C P (i+1) x:=by
 obtain⟨m,H,p,I⟩:=kZ (k:=(i:Int)+3) G ∅ ∅;have J:=h.c1;have c1:=U0 (m/10) (show(C.length:Int)≠0 by omega);have K:=N9 (m/10) (show 0<(C.length:Int) by omega);have L:=vb (o:=false) (l:=C) c1 K;have M:Nm (C.getD (m/10%(C.length:Int)).toNat []):=vq h.nC ∅;have s:js (.int<|m/10) (.int (C.length:Int))=some (.int<|m/10%(C.length:Int)):=jr ∅;generalize m/10%(C.length:Int)=rc at *;generalize C.getD rc.toNat []=cl at *;have t:(((C.map D.str).length:Nat):Int)=(C.length:Int):=by rw[L1]
 have pre:yA [a0,‹C.map D.str›,‹P.map D.str›,‹O.map D.str›,‹N.map D.str›,↑((Y++[y]).map vm),some<|.int (i:Int),some<|.int z,o8,o9,o10,o11,o12] =
   jcj 5 11 [] oQ oA oB [a0,‹C.map D.str›,‹P.map D.str›,‹O.map D.str›,‹N.map D.str›,↑((Y++[y]).map vm),some<|.int (i:Int),some<|.int z,some<|.int m,some<|.int<|m/10,some<|.str cl,o11,o12]:=by
  generalize(Y++[y]).map vm=YY at *;generalize C.map D.str=CC at *;simp(disch:=omega) [wS,H,jJ,t,s,L]
 rw[pre];have b:((Y++[y]).map vm).length=Y.length+1:=by simp
 have e:((Y++[y]).map vm)[((Y++[y]).map vm).length-1]?=some (vm y):=by
  rw[b,Nat.add_sub_cancel,N5,List.getElem?_append_right<|by simp];simp
 have E:(((N.map D.str).length:Nat):Int)=(N.length:Int):=by rw[L1]
 by_cases u:m%10=7/\Y.length+1<N.length
 ·have c:oQ [a0,‹C.map D.str›,‹P.map D.str›,‹O.map D.str›,‹N.map D.str›,↑((Y++[y]).map vm),some<|.int (i:Int),some<|.int z,some<|.int m,some<|.int<|m/10,some<|.str cl,some .dead,o12]=some true:=by
   have v:((Y.length:Int)+1)<(N.length:Int):=by omega
   generalize(Y++[y]).map vm=YY at *;generalize N.map D.str=NN at *;simp(disch:=omega) [oQ,jr,u.1,E,b,v,u.2]
  have Q:=vb (o:=false) (l:=N) (i:=(Y.length:Int)+1) ∅ ∅;have nn:Nm (N.getD ((Y.length:Int)+1).toNat []):=vq h.nN ∅;generalize N.getD ((Y.length:Int)+1).toNat []=nw at *;refine⟨Y++[y]++[(nw,[],[])],some<|.int m,some<|.int<|m/10,some<|.str cl,some .dead,o12,?_,by simp,by simp;omega,λx a=>(N1.mp a).elim (λa=>(j x a).mono (Nat.le_succ _)) λa=>by rw[M7.mp a];exact⟨nn,U5 _,λq c=>(nomatch c),U5 _,λq c=>(nomatch c)⟩⟩;rw[jaF (l:=(Y++[y]).map vm) (it:=vm y) rfl e rfl c];have F:lim ((Y++[y]).map vm).length=true:=jc (by rw[b];have:=h.n;omega);rw[N5 (l₂:=[(nw,[],[])])];show oA [a0,‹C.map D.str›,‹P.map D.str›,‹O.map D.str›,‹N.map D.str›,↑((Y++[y]).map vm),some<|.int (i:Int),some<|.int z,some<|.int m,some<|.int<|m/10,some<|.str cl,some .dead,o12]=some (Out.nx [_,_,_,_,_,↑((Y++[y]).map vm++[.lst true [.str nw,.lst true [],.lst true []]]),_,_,_,_,_,_,_]);generalize(Y++[y]).map vm=YY at *;generalize N.map D.str=NN at *;rw[b] at F;simp[oA,b,Q,F,jc]
 ·have c:oQ [a0,‹C.map D.str›,‹P.map D.str›,‹O.map D.str›,‹N.map D.str›,↑((Y++[y]).map vm),some<|.int (i:Int),some<|.int z,some<|.int m,some<|.int<|m/10,some<|.str cl,some .dead,o12]=some false:=by
   generalize(Y++[y]).map vm=YY at *;generalize N.map D.str=NN at *;by_cases w:m%10=7
   ·have v:¬ ((Y.length:Int)+1)<(N.length:Int):=λz=>u ⟨w,by omega⟩;have R:N.length<=Y.length+1:=by omega
    simp(disch:=omega) [oQ,jr,w,E,b,v,R]
   ·simp(disch:=omega) [oQ,jr,w]
  have A:OdOk C P i y:=j y (by simp);obtain⟨g,r12,S,B⟩:=jaA h (m:=m) (r:=m/10) p ∅ ∅ M (n:=i) ∅ A (a0:=a0) (a6:=some<|.int (i:Int)) (a7:=some<|.int z) (o12:=o12);refine⟨Y++[g],some<|.int m,some<|.int<|m/10,some<|.str cl,some .dead,r12,?_,by simp,by simpa using hl,λx a=>(N1.mp a).elim (λa=>(j x<|List.mem_append_left _ a).mono (Nat.le_succ _)) λa=>by rw[M7.mp a];exact B⟩;rw[wR (l:=(Y++[y]).map vm) (it:=vm y) (d:=vm g) rfl e rfl c S rfl rfl];have f:((Y++[y]).map vm).set (((Y++[y]).map vm).length-1) (vm g)=(Y++[g]).map vm:=by
   rw[b,Nat.add_sub_cancel,N5,N5,List.set_append_right _ _<|by simp];simp
  rw[f];rfl
def jY(o:Bool)(x:Od):D:=.tup [.str x.1,.lst false<|x.2.1.map jI,.lst o<|x.2.2.map jF]
structure OrOk(C P:W2)(x:Od):Prop where
 nm:Nm x.1
 p:x.2.1.length<=200
 q:∀ q∈x.2.1,Nm q.1
 r:x.2.2.length<=5
 k:∀ r∈x.2.2,xB C P r
def jfI(x:Od):fz (vm x)=.lst false [.str x.1,.lst false<|x.2.1.map jI,.lst false<|x.2.2.map jF]:=by
 have a:=jf _<|jG x.2.1;have b:=jf _<|va x.2.2;show D.lst false [.str x.1,.lst false<|fzs<|x.2.1.map jI,.lst false<|fzs<|x.2.2.map jF]=_;rw[a,b]
def uh(x:Od):D:=.lst false [.str x.1,.lst false<|x.2.1.map jI,.lst false<|x.2.2.map jF]
def jcx(X:List Od):fzs (X.map vm)=X.map uh:=by
 rw[v8,U1];exact List.map_congr_left λx _=>jfI x
def jdO(x:Od):frz (uh x)=true:=by
 have a:=jG x.2.1;have b:=va x.2.2;show frz (D.lst false [.str x.1,.lst false<|x.2.1.map jI,.lst false<|x.2.2.map jF])=true;simp[a,b]
def uR(X:List Od):frzs (X.map uh)=true:=yy λd hd=>by obtain⟨x,_,rfl⟩:=M5.mp hd;exact jdO x
def jbn{ns:List Int}(V:jgA ns)(W:ns.length<=63){C P O N:W2}(h:Ctx C P O N)(Z:1<=N.length):
  ∃ X:List Od,vG [.lst false<|ns.map D.int,.lst false<|C.map D.str,.lst false<|P.map D.str,.lst false<|O.map D.str,.lst false<|N.map D.str]=↑(X.map<|jY true)/\1<=X.length/\X.length<=N.length/\∀ x∈X,OrOk C P x:=by
 have n0:=vb (o:=false) (l:=N) (i:=0) ∅ ∅;have nn:Nm (N.getD (0:Int).toNat []):=vq h.nN (by show 0<N.length;omega);generalize N.getD (0:Int).toNat []=nw at *;have F:=v7 ns;have H:=Jg ns;obtain⟨ρ',e1,X,A,B,j,m,a,b,c,rfl,g,s,E⟩:=yS (G:=gT 2<|gC (jd [] 6)<|gC (jd [] 7) gN) (f:=yA) (xs:=yC 0<|ns.map D.int) (λi ρ=>∃(X:List Od) (A B j m a b c:Option D),ρ=[‹ns.map D.int›,‹C.map D.str›,‹P.map D.str›,‹O.map D.str›,‹N.map D.str›,↑(X.map vm),A,B,j,m,a,b,c]/\X≠[]/\X.length<=N.length/\∀ x∈X,OdOk C P i x) (by
  rintro i x ρ t ⟨X,A,B,j,m,a,b,c,rfl,g,s,E⟩;obtain⟨d,hd,rfl⟩:=kO 0 _ i x t;rw[List.getElem?_map] at hd;cases hz:ns[i]? with
  | none=>rw[hz] at hd;cases hd
  | some z=>
   rw[hz] at hd;cases hd;have hi:i<ns.length:=(L9.mp hz).1;obtain⟨Y,y,rfl⟩:∃ Y y,X=Y++[y]:=⟨X.dropLast,X.getLast g,(List.dropLast_concat_getLast g).symm⟩;obtain⟨X',r8,r9,I,J,K,e,h0,hl,hk⟩:=Q1 h (V z<|List.mem_of_getElem? hz) (i:=i) ∅ E s (a0:=‹ns.map D.int›) (o8:=j) (o9:=m) (o10:=a) (o11:=b) (o12:=c);refine⟨_,_,?_,.inl e,X',some<|.int (i:Int),some<|.int z,r8,r9,I,J,K,rfl,h0,hl,hk⟩;rw[Nat.zero_add];rfl) (ρ:=[‹ns.map D.int›,‹C.map D.str›,‹P.map D.str›,‹O.map D.str›,‹N.map D.str›,some<|.lst true [.lst true [.str nw,.lst true [],.lst true []]],none,none,none,none,none,none,none]) ⟨[(nw,[],[])],none,none,none,none,none,none,none,rfl,by simp,Z,λx t=>by rw[M7.mp t];exact⟨nn,U5 _,λq L=>(nomatch L),U5 _,λq L=>(nomatch L)⟩⟩
 rw[vO,L1] at E;have hC1:=h.c1;have M:(((C.map D.str).length:Nat):Int)=(C.length:Int):=by rw[L1]
 have T:=h.n;have fV:=uR X;have zW:=jcx X;have lV:lim (X.map uh).length=true:=jc (by rw[L1];omega);obtain⟨ys,ec,hl,hg⟩:=JK (G:=jd [] 0) (p:=vN #[pF<|p2 jq (pV 0)<|pI 0,pF<|p2 jq (pV 0)<|pI 1,p2 jz (p2 jq (pV 0)<|pI 2)<|Ji #[vN #[pS [114,101,115,116],pF<|p2 jq (pV 1)<|p2 js (pCB yE #[p2 jq (pV 0)<|pI 2])<|pCB yE #[pV 1]]]]) (Good:=λd=>∃ x:Od,d=jY true x/\OrOk C P x) (P:=λρ=>∃ o,ρ=[o,‹C.map D.str›]) (xs:=X.map uh) (by
  rintro v hv ρ ⟨o,rfl⟩;obtain⟨x,t,rfl⟩:=M5.mp hv;have u:=E x t;have f1:=U0 (x.2.2.length:Int) (show(C.length:Int)≠0 by omega);have f2:=N9 (x.2.2.length:Int) (show 0<(C.length:Int) by omega);have ic:=vb (o:=false) (l:=C) f1 f2;have nc:Nm (C.getD ((x.2.2.length:Int)%(C.length:Int)).toNat []):=vq h.nC ∅;have hm:js (.int (x.2.2.length:Int)) (.int (C.length:Int))=some (.int<|(x.2.2.length:Int)%(C.length:Int)):=jr ∅;generalize(x.2.2.length:Int)%(C.length:Int)=q at *;generalize C.getD q.toNat []=w at *;have oxp:=u.p;have oxr:=u.r;refine⟨[some<|uh x,‹C.map D.str›],jY true (x.1,x.2.1,x.2.2++[.two K6 w]),rfl,?_,⟨_,rfl,u.nm,by show x.2.1.length<=200;omega,u.q,by show(x.2.2++[Rl.two K6 w]).length<=5;rw[N4];show x.2.2.length+1<=5;omega,λr R=>(N1.mp R).elim (u.k r) λR=>by rw[M7.mp R];exact⟨by decide,by decide,nc,.inr<|.inr<|.inr rfl⟩⟩,_,rfl⟩;have j0:jq (uh x) (.int 0)=some (.str x.1):=rfl;have j1:jq (uh x) (.int 1)=‹x.2.1.map jI›:=rfl;have j2:jq (uh x) (.int 2)=‹x.2.2.map jF›:=rfl;have fq:=jG x.2.1;have fr:=va x.2.2;have lr:(((x.2.2.map jF).length:Nat):Int)=(x.2.2.length:Int):=by rw[L1]
  have ad:jz (.lst false<|x.2.2.map jF) (.lst true [.tup [.str K6,.str w]])=↑(x.2.2.map jF++[.tup [.str K6,.str w]]):=by
   show(bif lim ((x.2.2.map jF).length+1)&&(frzs (x.2.2.map jF)&&frzs [.tup [.str K6,.str w]]) then some (D.lst true<|x.2.2.map jF++[.tup [.str K6,.str w]]) else none)=_;rw[fr,jc<|by rw[L1];omega];rfl
  unfold jY;rw[N5];show _=some (D.tup [.str x.1,.lst false<|x.2.1.map jI,.lst true<|x.2.2.map jF++[.tup [.str K6,.str w]]]);generalize x.2.1.map jI=QQ,x.2.2.map jF=RR,uh x=ev,C.map D.str=CC at *;simp(disch:=omega) [j0,j1,j2,fq,lr,M,hm,ic,ad,jc]) (ρ:=jO [none,some 1] [‹ns.map D.int›,‹C.map D.str›,‹P.map D.str›,‹O.map D.str›,‹N.map D.str›,‹X.map uh›,A,B,j,m,a,b,c]) ⟨none,rfl⟩
 rw[L1] at hl;obtain⟨U,rfl,S⟩:=JI (f:=jY true) (Q:=OrOk C P) hg;rw[L1] at hl;refine⟨U,?_,by rw[hl];exact Nat.pos_of_ne_zero λz=>g<|List.eq_nil_of_length_eq_zero z,by omega,S⟩;have en:J9 [.lst false<|ns.map D.int]=some (yC 0<|ns.map D.int):=by
  show some (yC 0<|fzs<|ns.map D.int)=_;rw[H]
 generalize U.map (jY true)=X3,X.map uh=XV,X.map vm=XW,ns.map D.int=NS,C.map D.str=CC,P.map D.str=PP,O.map D.str=OO,N.map D.str=NN at *;simp[vG,jE,Jr,n0,jc,F,en,e1,zW,fV,lV,ec]
noncomputable abbrev Lk:=List Nat×Int×List Nat
noncomputable def vH(x:Lk):D:=.tup [.str x.1,.int x.2.1,.str x.2.2]
structure LkOk(C:W2)(X:List Od)(x:Lk):Prop where
 m:x.1∈C
 c:Nm x.1
 d:1<=x.2.1
 n:∃ y∈X,y.1=x.2.2
def jmd{o:Bool}{X:List Od}{i:Int}(h0:0<=i)(h:i<X.length):∃ x∈X,jq (.lst o<|X.map<|jY false) (.int i)=some (jY false x):=by
 have a:i.toNat<X.length:=by omega
 exact⟨X[i.toNat],List.getElem_mem a,by rw[jf4 h0<|by rw[L1];exact h,List.getElem?_map,X7 a];rfl⟩
def O0(o:Bool)(x:Od):jq (jY o x) (.int 0)=some (.str x.1):=rfl
def wn{m mo:Int}(h0:0<=m)(h1:m<10 ^ 10)(I:1<=mo)(J:mo<=9){C:W2}(K:1<=C.length)(nC:∀ w∈C,Nm w){X:List Od}(M:1<=X.length){L:List Lk}(N:L.length<=100){i:Nat}(hi:i<=2){o6:Option D}:
  ∃(l:Lk) (r6:Option D),vj [some<|.int m,‹C.map D.str›,‹X.map (jY false)›,some<|.int mo,↑(L.map vH),some<|.int<|0+(i:Int),o6] =
   some (.nx [some<|.int m,‹C.map D.str›,‹X.map (jY false)›,some<|.int mo,↑((L++[l]).map vH),some<|.int<|0+(i:Int),r6])/\LkOk C X l/\l.2.1<=mo:=by
 have a:jhR [.int 2,.int (C.length:Int)]=some (.int<|if(C.length:Int)<2 then(C.length:Int) else 2):=rfl;have g:1<=(if(C.length:Int)<2 then(C.length:Int) else 2):=by split<;>omega
 have h:(if(C.length:Int)<2 then(C.length:Int) else 2)<=(C.length:Int):=by split<;>omega
 generalize(if(C.length:Int)<2 then(C.length:Int) else 2)=k at a g h;have O:0<=7*(0+(i:Int))*(m/50):=Int.mul_nonneg ∅ ∅;have j:yP (.int<|0+(i:Int)) (.int 40)=some (.int<|(0+(i:Int))*40):=vS ∅ ∅;have p:yP (.int 7) (.int<|0+(i:Int))=some (.int<|7*(0+(i:Int))):=vS ∅ ∅;have q:yP (.int<|7*(0+(i:Int))) (.int<|m/50)=some (.int<|7*(0+(i:Int))*(m/50)):=vS ∅ ∅;generalize 7*(0+(i:Int))*(m/50)=t at *;generalize r:m/3+(0+(i:Int))*40+t=n at *;have s:0<=n:=by omega
 have u:=U0 n (show k≠0 by omega);have P:=N9 n (show 0<k by omega);have v:=vb (o:=false) (l:=C) (i:=n%k) u ∅;have f:C.getD (n%k).toNat []∈C:=vF ∅;have y:Nm (C.getD (n%k).toNat []):=nC _ f;have mk:js (.int n) (.int k)=some (.int<|n%k):=jr ∅;generalize n%k=nk at *;generalize C.getD nk.toNat []=cl at *;have Q:=U0 (n/2) (show mo≠0 by omega);have R:=N9 (n/2) (show 0<mo by omega);have z:js (.int<|n/2) (.int mo)=some (.int<|n/2%mo):=jr ∅;generalize n/2%mo=dy at *;have A:yP (.int 2) (.int mo)=some (.int<|2*mo):=vS ∅ ∅;have B:jC (.int n) (.int<|2*mo)=some (.int<|n/(2*mo)):=jJ ∅ ∅;generalize n/(2*mo)=nd at *;have E:=U0 nd (show(X.length:Int)≠0 by omega);have F:=N9 nd (show 0<(X.length:Int) by omega);obtain⟨x,G,ix⟩:=jmd (o:=false) (X:=X) E F;have H:=O0 false x;have c:js (.int nd) (.int (X.length:Int))=some (.int<|nd%(X.length:Int)):=jr ∅;generalize nd%(X.length:Int)=nx at *;have d:(((X.map<|jY false).length:Nat):Int)=(X.length:Int):=by rw[L1]
 have e:(((C.map D.str).length:Nat):Int)=(C.length:Int):=by rw[L1]
 have b:lim (L.map vH).length=true:=jc (by rw[L1];omega);refine⟨(cl,1+dy,x.1),some<|.int n,?_,⟨f,y,by show 1<=1+dy;omega,x,G,rfl⟩,by show 1+dy<=mo;omega⟩;rw[N5];show _=some (Out.nx [_,_,_,_,↑(L.map vH++[.tup [.str cl,.int<|1+dy,.str x.1]]),_,_]);generalize C.map D.str=CC,X.map (jY false)=XX,L.map vH=LL at *;simp(disch:=omega) [vj,jJ,j,p,q,r,e,a,mk,v,z,A,B,d,c,ix,H,b,jc,-Int.zero_add]
def zT{m mo:Int}(h0:0<=m)(h1:m<10 ^ 10)(k:1<=mo)(n:mo<=9){C:W2}(o:1<=C.length)(nC:∀ w∈C,Nm w){X:List Od}(p:1<=X.length):
  ∃ L:List Lk,y8 [.int m,.lst false<|C.map D.str,.lst false<|X.map<|jY false,.int mo]=↑(L.map vH)/\L.length<=2/\∀ l∈L,LkOk C X l/\l.2.1<=mo:=by
 have c:=kU (j:=m%3) ∅ ∅;obtain⟨t,q,L,d,a,rfl,g,h⟩:=yS (G:=jd [] 5) (f:=vj) (xs:=YN 0 (m%3).toNat) (λi ρ=>∃(L:List Lk) (d a:Option D),ρ=[some<|.int m,‹C.map D.str›,‹X.map (jY false)›,some<|.int mo,↑(L.map vH),d,a]/\L.length=i/\∀ l∈L,LkOk C X l/\l.2.1<=mo) (by
  rintro i x ρ r ⟨L,d,a,rfl,g,h⟩;obtain⟨rfl,u⟩:=JJ r;obtain⟨l,s,e,hl⟩:=wn h0 h1 k n o nC p (L:=L) ∅ (i:=i) ∅ (o6:=a);exact⟨_,_,rfl,.inl e,L++[l],some<|.int<|0+(i:Int),s,rfl,by simp[g],λv b=>(N1.mp b).elim (h v) λb=>by rw[M7.mp b];exact hl⟩) (ρ:=[some<|.int m,‹C.map D.str›,‹X.map (jY false)›,some<|.int mo,some<|.lst true [],none,none]) ⟨[],none,none,rfl,rfl,λv b=>(nomatch b)⟩
 rw[vE] at g;refine⟨L,?_,by omega,h⟩;generalize C.map D.str=CC,X.map (jY false)=XX,L.map vH=LL at *;simp(disch:=omega) [y8,jE,Yh,jr,c,q,jc]
def jea{i:Nat}{p:PF}{ρ:Rh}{e:D}{m l:List D}(h1:p ρ=some e)(h2:jjM e=some m)(a:ρ[i]?=some (↑l))(b:l.length+m.length<=1000):jhZ i p ρ=some (.nx<|ρ.set i<|↑(l++m)):=by
 unfold jhZ;rw[h1,L4,h2,L4,show pV i ρ=↑l by simp[pV,a]];show(bif _ then _ else _)=_;rw[jc ∅];rfl
def jc5{ws:W2}:∀{o:Option D},jS (jd [] 0) qT (pF<|pV 0) (ws.map D.str) [o]=some (ws.map D.str):=by
 induction ws with
 | nil=>intro o;rfl
 | cons w ws a=>
  intro o;have:=a (o:=some<|.str w);rw[L5,jD];simp[this]
def jam{a0 a1 a2 a3 a5 a6 a7 a9 b0 b1:Option D}{C P:W2}{r:Rl}(f:xB C P r){N:W2}(z:N.length<=960):∃ T:List (List Nat),T.length<=8/\jZ [a0,a1,a2,a3,↑(N.map D.str),a5,a6,a7,some<|jF r,a9,b0,b1]=some (.nx [a0,a1,a2,a3,↑((N++T).map D.str),a5,a6,a7,some<|jF r,a9,b0,b1]):=by
 have d:lim (N.map D.str).length=true:=jc (by rw[L1];omega);cases r with
 | two b x=>
  have c:jq (jF<|.two b x) (.int 0)=some (.str b):=rfl;have g:jq (jF<|.two b x) (.int 1)=some (.str x):=rfl;have s:(b==vg)=false:=U2.mpr f.1;by_cases n:b=ko
  ·subst n;refine⟨[x],by simp,?_⟩;rw[N5];show _=some (Out.nx [_,_,_,_,↑(N.map D.str++[.str x]),_,_,_,_,_,_,_]);generalize N.map D.str=NN,jF (.two ko x)=rr at *;simp[jZ,c,g,d]
  ·have h:(b==[114,101,112,97,121])=false:=U2.mpr n;have j:(b==[115,104,97,114,101])=false:=s;refine⟨[],by simp,?_⟩;rw[M9];generalize N.map D.str=NN,jF (.two b x)=rr at *;simp[jZ,c,g,h,j]
 | many a=>
  have k:a.length<=8:=f.1;have c:jq (jF<|.many a) (.int 0)=some (.str vg):=rfl;have g:jq (jF<|.many a) (.int 1)=some (.tup<|a.map D.str):=rfl;have q:=jn a;have t:=jV a;have u:lim (a.map D.str).length=true:=jc (by rw[L1];omega);refine⟨a,k,?_⟩;rw[N5];have w:jS (jd [] 0) qT (pF<|pV 0) (a.map D.str) (jO [none] [a0,a1,a2,a3,↑(N.map D.str),a5,a6,a7,some<|jF<|.many a,a9,b0,b1])=some (a.map D.str):=jc5 (ws:=a) (o:=none);have y:=jea (i:=4) (p:=yB (JD<|p2 jq (pV 8)<|pI 1) (jd [] 0) qT (pF<|pV 0) [none]) (ρ:=[a0,a1,a2,a3,↑(N.map D.str),a5,a6,a7,some<|jF<|.many a,a9,b0,b1]) (e:=.lst true<|a.map D.str) (m:=a.map D.str) (l:=N.map D.str) (by
   generalize a.map D.str=WW,jF (.many a)=rr at *;simp[g,q,t,u,w]) (by show(bif frzs (a.map D.str) then _ else _)=_;rw[q];rfl) rfl (by rw[L1,L1];omega)
  generalize N.map D.str++a.map D.str=NW at *;generalize N.map D.str=NN,jF (.many a)=rr at *;simp[jZ,c,y]
 | lend b x v=>
  have c:jq (jF<|.lend b x v) (.int 0)=some (.str b):=rfl;have h:(b==[114,101,112,97,121])=false:=U2.mpr f.1.2;have j:(b==[115,104,97,114,101])=false:=U2.mpr f.1.1;refine⟨[],by simp,?_⟩;rw[M9];generalize N.map D.str=NN,jF (.lend b x v)=rr at *;simp[jZ,c,h,j]
def qQ(x:Od):frz (jY false x)=true:=by
 have a:=jG x.2.1;have b:=va x.2.2;show frz (D.tup [.str x.1,.lst false<|x.2.1.map jI,.lst false<|x.2.2.map jF])=true;simp[a,b]
def qF(X:List Od):frzs (X.map<|jY false)=true:=yy λd hd=>by obtain⟨x,_,rfl⟩:=M5.mp hd;exact qQ x
noncomputable abbrev Gd:=List Nat×List Nat
noncomputable abbrev qP(q:Gd):D:=.tup [.str q.1,.str q.2]
def QX{m:Int}(h0:0<=m){C P N:W2}{a3 a5 a6 a7 a8:Option D}{G:List Gd}(A:G.length<=100){i:Nat}(hi:i<=50){c:List Nat}(p:Nm c)(nP:∀ w∈P,Nm w):
  ∃ T:List Gd,T.length<=1/\(∀ g∈T,(Nm g.1/\Nm g.2)/\g.1∈P/\g.2=c)/\yD [some<|.int m,‹C.map D.str›,‹P.map D.str›,a3,↑(N.map D.str),a5,a6,a7,a8,↑(G.map qP),some<|.int (i:Int),some<|.str c] =
   some (.nx [some<|.int m,‹C.map D.str›,‹P.map D.str›,a3,↑(N.map D.str),a5,a6,a7,a8,↑((G++T).map qP),some<|.int (i:Int),some<|.str c]):=by
 have a:=jak c true N;have d:(((P.map D.str).length:Nat):Int)=(P.length:Int):=by rw[L1]
 have e:lim (G.map qP).length=true:=jc (by rw[L1];omega);have k:yP (.int 5) (.int (i:Int))=some (.int<|5*(i:Int)):=vS ∅ ∅;have r:yP (.int 7) (.int (i:Int))=some (.int<|7*(i:Int)):=vS ∅ ∅;have n:jC (.int m) (.int<|5*(i:Int)+3)=some (.int<|m/(5*(i:Int)+3)):=jJ ∅ ∅;have s:jC (.int m) (.int<|7*(i:Int)+2)=some (.int<|m/(7*(i:Int)+2)):=jJ ∅ ∅;generalize m/(5*(i:Int)+3)=t1,m/(7*(i:Int)+2)=t2 at *;by_cases w:¬ c∈N/\0<P.length/\0<t1%4
 ·obtain⟨w1,w2,f⟩:=w;have p1:=U0 t2 (show(P.length:Int)≠0 by omega);have p2:=N9 t2 (show 0<(P.length:Int) by omega);have u:=vb (o:=false) (l:=P) p1 p2;have v:Nm (P.getD (t2%(P.length:Int)).toNat []):=vq nP ∅;have x:P.getD (t2%(P.length:Int)).toNat []∈P:=vF ∅;have h:js (.int t2) (.int (P.length:Int))=some (.int<|t2%(P.length:Int)):=jr ∅;generalize t2%(P.length:Int)=q at *;generalize P.getD q.toNat []=pq at *;have b:(0:Int)<(P.length:Int):=by omega
  refine⟨[(pq,c)],by simp,λg j=>by rw[M7.mp j];exact⟨⟨v,p⟩,x,rfl⟩,?_⟩;rw[N5];show _=some (Out.nx [_,_,_,_,_,_,_,_,_,↑(G.map qP++[.tup [.str pq,.str c]]),_,_]);generalize C.map D.str=CC,P.map D.str=PP,N.map D.str=NN,G.map qP=GG at *;simp(disch:=omega) [yD,a,w1,d,b,w2,k,r,n,s,jr,f,h,u,e,jc]
 ·refine⟨[],by simp,λg j=>(nomatch j),?_⟩;rw[M9];have t:(YC (jh<|p2 (V6 true) (pV 11)<|pV 4)<|YC (jh<|p2 V5 (pCB yE #[pV 2])<|pI 0)<|jh<|p2 V5 (p2 js (p2 jC (pV 0)<|p2 jz (p2 yP (pI 5)<|pV 10)<|pI 3)<|pI 4)<|pI 0) [some<|.int m,‹C.map D.str›,‹P.map D.str›,a3,↑(N.map D.str),a5,a6,a7,a8,↑(G.map qP),some<|.int (i:Int),some<|.str c]=some false:=by
   by_cases w1:c∈N
   ·generalize N.map D.str=NN at *;simp[a,w1]
   by_cases w2:0<P.length
   ·have f:¬ 0<t1%4:=λz=>w ⟨w1,w2,z⟩;have b:(0:Int)<(P.length:Int):=by omega
    generalize N.map D.str=NN,P.map D.str=PP at *;simp(disch:=omega) [a,w1,d,b,w2,k,n,jr,f]
    try omega
   ·have y:P=[]:=List.eq_nil_of_length_eq_zero ∅;subst y;generalize N.map D.str=NN at *;simp[a,w1]
  generalize C.map D.str=CC,P.map D.str=PP,N.map D.str=NN,G.map qP=GG at *;simp[yD,-YC,t]
def jbM{m:Int}(h0:0<=m){C P:W2}(S:C.length<=6)(nC:∀ w∈C,Nm w)(nP:∀ w∈P,Nm w){X:List Od}(U:X.length<=5)(L:∀ x∈X,OrOk C P x):
  ∃ G:List Gd,vC [.int m,.lst false<|C.map D.str,.lst false<|P.map D.str,.lst false<|X.map<|jY false]=↑(G.map qP)/\G.length<=6/\∀ g∈G,(Nm g.1/\Nm g.2)/\g.1∈P/\g.2∈C:=by
 have q:=qF X;have t:=jf _ q;obtain⟨V,N,e,⟨n,o,p,b,rfl⟩,hl,_⟩:=Kz (G:=gT 3<|gC (jd [] 5)<|gC (jd [] 6)<|gC (jd [] 7) gN) (f:=vL) (λ(a:W2) ρ=>∃ n o p b,ρ=[some<|.int m,‹C.map D.str›,‹P.map D.str›,‹X.map (jY false)›,↑(a.map D.str),n,o,p,b,none,none,none]) (λ_=>True) 40 200 (xs:=X.map<|jY false) (acc:=[]) (ρ:=[some<|.int m,‹C.map D.str›,‹P.map D.str›,‹X.map (jY false)›,some<|.lst true [],none,none,none,none,none,none,none]) (by
  rintro d hd a ρ I _ ⟨n,o,p,b,rfl⟩;obtain⟨x,u,rfl⟩:=M5.mp hd;have y:=L x u;have s:=va x.2.2;have A:=jf _ s;obtain⟨W,T,e,⟨B,rfl⟩,hl,_⟩:=Kz (G:=jd [] 8) (f:=jZ) (λ(a:W2) ρ=>∃ b,ρ=[some<|.int m,‹C.map D.str›,‹P.map D.str›,‹X.map (jY false)›,↑(a.map D.str),some<|.str x.1,‹x.2.1.map jI›,‹x.2.2.map jF›,b,none,none,none]) (λ_=>True) 8 960 (xs:=x.2.2.map jF) (acc:=a) (ρ:=[some<|.int m,‹C.map D.str›,‹P.map D.str›,‹X.map (jY false)›,↑(a.map D.str),some<|.str x.1,‹x.2.1.map jI›,‹x.2.2.map jF›,b,none,none,none]) (by
   rintro d hd a ρ I _ ⟨b,rfl⟩;obtain⟨r,M,rfl⟩:=M5.mp hd;obtain⟨T,J,O⟩:=jam (a0:=some<|.int m) (a1:=‹C.map D.str›) (a2:=‹P.map D.str›) (a3:=‹X.map (jY false)›) (a5:=some<|.str x.1) (a6:=‹x.2.1.map jI›) (a7:=‹x.2.2.map jF›) (a9:=none) (b0:=none) (b1:=none) (y.k r M) I;exact⟨_,_,T,rfl,O,J,λ_ _=>trivial,_,rfl⟩) (by rw[L1];have:=y.r;omega) (λ_ _=>trivial) ⟨b,rfl⟩
  rw[L1] at hl;refine⟨[some<|.int m,‹C.map D.str›,‹P.map D.str›,‹X.map (jY false)›,↑(a.map D.str),some<|.str x.1,‹x.2.1.map jI›,‹x.2.2.map jF›,b,none,none,none],_,T,rfl,?_,by have:=y.r;omega,λ_ _=>trivial,some<|.str x.1,‹x.2.1.map jI›,‹x.2.2.map jF›,B,rfl⟩;generalize X.map (jY false)=XX,x.2.2.map jF=RR,a.map D.str=AA at *;simp[vL,s,A,e]) (by rw[L1];simp;omega) (λ_ _=>trivial) ⟨none,none,none,none,rfl⟩
 rw[X6] at e;have E:=jn C;have F:=jV C;obtain⟨Y,Q,G,c,h,rfl,K,H⟩:=yS (G:=gT 2<|gC (jd [] 10)<|gC (jd [] 11) gN) (f:=yD) (xs:=yC 0<|C.map D.str) (λi ρ=>∃(G:List Gd) (c h:Option D),ρ=[some<|.int m,‹C.map D.str›,‹P.map D.str›,‹X.map (jY false)›,↑(N.map D.str),n,o,p,b,↑(G.map qP),c,h]/\G.length<=i/\∀ g∈G,(Nm g.1/\Nm g.2)/\g.1∈P/\g.2∈C) (by
  rintro i x ρ u ⟨G,c,h,rfl,K,H⟩;obtain⟨d,hd,rfl⟩:=kO 0 _ i x u;rw[List.getElem?_map] at hd;cases hz:C[i]? with
  | none=>rw[hz] at hd;cases hd
  | some z=>
   rw[hz] at hd;cases hd;have Z:i<C.length:=(L9.mp hz).1;obtain⟨T,J,j,e⟩:=QX h0 (C:=C) (P:=P) (N:=N) (a3:=‹X.map (jY false)›) (a5:=n) (a6:=o) (a7:=p) (a8:=b) (G:=G) ∅ (i:=i) ∅ (nC z<|List.mem_of_getElem? hz) nP;refine⟨_,_,?_,.inl e,G++T,some<|.int (i:Int),some<|.str z,rfl,by rw[N4];omega,λv l=>(N1.mp l).elim (H v) λl=>⟨(j v l).1,(j v l).2.1,(j v l).2.2▸List.mem_of_getElem? hz⟩⟩;rw[Nat.zero_add];rfl) (ρ:=[some<|.int m,‹C.map D.str›,‹P.map D.str›,‹X.map (jY false)›,↑(N.map D.str),n,o,p,b,some<|.lst true [],none,none]) ⟨[],none,none,rfl,by simp,λv l=>(nomatch l)⟩
 rw[vO,L1] at K;have R:J9 [.lst false<|C.map D.str]=some (yC 0<|C.map D.str):=by
  show some (yC 0<|fzs<|C.map D.str)=_;rw[F]
 refine⟨G,?_,by omega,H⟩;generalize C.map D.str=CC,P.map D.str=PP,X.map (jY false)=XX,N.map D.str=NN,G.map qP=GG at *;simp[vC,jE,Jp,q,t,e,E,R,Q,jc]
noncomputable abbrev Cl:=List Nat×Int×Int
noncomputable abbrev kq(x:Cl):D:=.tup [.str x.1,.int x.2.1,.int x.2.2]
def kY(l:List Cl):frzs (l.map kq)=true:=yy λd hd=>by obtain⟨x,_,rfl⟩:=M5.mp hd;rfl
def kf(L:List Lk):frzs (L.map vH)=true:=yy λd hd=>by obtain⟨x,_,rfl⟩:=M5.mp hd;rfl
def qX(L:List Gd):frzs (L.map qP)=true:=yy λd hd=>by obtain⟨x,_,rfl⟩:=M5.mp hd;rfl
def uO(X:List Od):fzs (X.map<|jY true)=X.map (jY false):=by
 rw[v8,U1];refine List.map_congr_left λx _=>?_;have a:=jf _<|jG x.2.1;have b:=jf _<|va x.2.2;show D.tup [.str x.1,.lst false<|fzs<|x.2.1.map jI,.lst false<|fzs<|x.2.2.map jF]=_;rw[a,b];rfl
structure Pl where
 nm:List Nat
 C:List Cl
 P:List Qt
 E:List (List Nat)
 X:List Od
 L:List Lk
 G:List Gd
def jb(o:Bool)(p:Pl):D:=.tup [.str p.nm,.lst false<|p.C.map kq,.lst false<|p.P.map jI,.lst false<|p.E.map D.str,.lst false<|p.X.map<|jY false,.lst false<|p.L.map vH,.lst o<|p.G.map qP]
def Few(L:List Lk):Prop:=(∀ l∈L,l.2.1<=2)\/(L.length<=1/\∀ l∈L,l.2.1<=9)
structure PlOk(p:Pl):Prop where
 nm:Nm p.nm
 c:p.C.length<=6
 nC:∀ c∈p.C,Nm c.1
 p6:p.P.length<=6
 nP:∀ c∈p.P,Nm c.1
 e:p.E.length<=6
 nE:∀ c∈p.E,Nm c
 x1:1<=p.X.length
 x5:p.X.length<=5
 x:∀ x∈p.X,OrOk (p.C.map (·.1)) (p.P.map (·.1)) x
 l2:p.L.length<=2
 l:∀ l∈p.L,LkOk (p.C.map (·.1)) p.X l
 cN:(p.C.map (·.1)).Nodup
 c1:∀ c∈p.C,1<=c.2.1
 pN:(p.P.map (·.1)).Nodup
 p1:∀ c∈p.P,1<=c.2
 g6:p.G.length<=6
 g:∀ g∈p.G,(Nm g.1/\Nm g.2)/\g.1∈p.P.map (·.1)/\g.2∈p.C.map (·.1)
 me:∀ c∈p.E,c∈p.C.map (·.1)
 c3:p.C.length<=3
 p2:p.P.length<=2
 few:Few p.L
 c0:1<=p.C.length
def QA{e:Int}(k:0<=e)(u:e<2147483587){C:W2}(y:C.length<=6)(nC:∀ w∈C,Nm w){a0 a1 a2 a3 a4 a5 a8 a9:Option D}:
  ∃(K:List Cl) (o11 o12:Option D),yU (gT 2<|gC (jd [] 11)<|gC (jd [] 12) gN) vI (yC 0<|C.map D.str) [a0,a1,a2,a3,a4,a5,some<|.int e,‹C.map D.str›,a8,a9,some<|.lst true [],none,none,none,none,none] =
   some (.nx [a0,a1,a2,a3,a4,a5,some<|.int e,‹C.map D.str›,a8,a9,↑(K.map kq),o11,o12,none,none,none])/\K.map (·.1)=C/\∀ c∈K,1<=c.2.1:=by
 obtain⟨A,l,K,o11,o12,rfl,g,n⟩:=yS (G:=gT 2<|gC (jd [] 11)<|gC (jd [] 12) gN) (f:=vI) (xs:=yC 0<|C.map D.str) (λi ρ=>∃(K:List Cl) (o11 o12:Option D),ρ=[a0,a1,a2,a3,a4,a5,some<|.int e,‹C.map D.str›,a8,a9,↑(K.map kq),o11,o12,none,none,none]/\K.map (·.1)=C.take i/\∀ c∈K,1<=c.2.1) (by
  rintro i x ρ q ⟨K,o11,o12,rfl,g,n⟩;obtain⟨d,hd,rfl⟩:=kO 0 _ i x q;rw[List.getElem?_map] at hd;cases hz:C[i]? with
  | none=>rw[hz] at hd;cases hd
  | some z=>
   rw[hz] at hd;cases hd;have B:i<C.length:=(L9.mp hz).1;have nz:=nC z<|List.mem_of_getElem? hz;have E:=Int.ediv_nonneg (a:=e) (b:=(i:Int)+1) k ∅;have F:=Int.ediv_le_self (a:=e) ((i:Int)+1) k;have H:=Int.ediv_nonneg (a:=e) (b:=(i:Int)+5) k ∅;have I:=Int.ediv_le_self (a:=e) ((i:Int)+5) k;obtain⟨o,l,r⟩:=qH (m:=e/((i:Int)+1)) ∅ ∅;obtain⟨p,s,_⟩:=qH (m:=e/((i:Int)+5)+(i:Int)) ∅ ∅;have t:K.length<=i:=by
    have:(K.map (·.1)).length=(C.take i).length:=by rw[g]
    rw[L1,X8] at this;omega
   have h:lim (K.map kq).length=true:=jc (by rw[L1];omega);refine⟨[a0,a1,a2,a3,a4,a5,some<|.int e,‹C.map D.str›,a8,a9,↑(K.map kq),some<|.int (i:Int),some<|.str z,none,none,none],[a0,a1,a2,a3,a4,a5,some<|.int e,‹C.map D.str›,a8,a9,↑((K++[(z,o,p)]).map kq),some<|.int (i:Int),some<|.str z,none,none,none],?_,.inl ?_,K++[(z,o,p)],some<|.int (i:Int),some<|.str z,rfl,by rw[N5,g,List.take_add_one,hz];rfl,λv j=>(N1.mp j).elim (n v) λj=>by rw[M7.mp j];exact r⟩
   ·rw[Nat.zero_add];rfl
   ·rw[N5];show _=some (Out.nx [_,_,_,_,_,_,_,_,_,_,↑(K.map kq++[.tup [.str z,.int o,.int p]]),_,_,_,_,_]);generalize C.map D.str=CC,K.map kq=KK at *;simp(disch:=omega) [vI,jJ,l,s,h,jc]) (ρ:=[a0,a1,a2,a3,a4,a5,some<|.int e,‹C.map D.str›,a8,a9,some<|.lst true [],none,none,none,none,none]) ⟨[],none,none,rfl,rfl,λv j=>(nomatch j)⟩
 rw[vO,L1,List.take_length] at g;exact⟨K,o11,o12,l,g,n⟩
theorem zU{a:Int}(d:0<=a)(f:a<2147483587):∀{P:W2}{j:Nat}{o0 o1:Option D},j+P.length<=100 ->
  ∃ K:List Qt,jS (gT 2<|gC (jd [] 0)<|gC (jd [] 1) gN) qT (vN #[pF<|pV 1,jL jP #[p2 jz (p2 jC (pV 2)<|pI 13)<|pV 0]]) (yC j<|P.map D.str) [o0,o1,some<|.int a]=some (K.map jI)/\K.map (·.1)=P/\∀ c∈K,1<=c.2
 | [],_,_,_,_=>⟨[],rfl,rfl,λc b=>(nomatch b)⟩
 | w::P,j,o0,o1,g=>by
  rw[M1] at g;obtain⟨K,e,h,i⟩:=zU d f (P:=P) (j:=j+1) (o0:=some<|.int (j:Int)) (o1:=some<|.str w) ∅;obtain⟨v,k,l⟩:=qH (m:=a/13+(j:Int)) ∅ ∅;refine⟨(w,v)::K,?_,by rw[L5,h],λc b=>?_⟩
  ·have n:(gT 2<|gC (jd [] 0)<|gC (jd [] 1) gN) (.tup [.int (j:Int),.str w]) [o0,o1,some<|.int a]=some [some<|.int (j:Int),some<|.str w,some<|.int a]:=rfl;rw[L5,yC,jD,n,L5];generalize K.map jI=KK at *;simp(disch:=omega) [jJ,k,e,jc]
  ·rcases M4.mp b with rfl | b
   ·exact l
   ·exact i c b
def jh7{C:W2}(u:1<=C.length)(nC:∀ w∈C,Nm w){m:Int}{k:Nat}:
  ∃ E:List (List Nat),jS (jd [] 0) qT (pF<|p2 jq (pV 1)<|p2 js (p2 jz (p2 jC (pV 2)<|pI 12)<|pV 0)<|pCB yE #[pV 1]) (YN 0 k) [none,‹C.map D.str›,some<|.int m]=some (E.map D.str)/\E.length=k/\∀ w∈E,Nm w/\w∈C:=by
 have a:(((C.map D.str).length:Nat):Int)=(C.length:Int):=by rw[L1]
 obtain⟨v,c,hl,e⟩:=JK (G:=jd [] 0) (p:=pF<|p2 jq (pV 1)<|p2 js (p2 jz (p2 jC (pV 2)<|pI 12)<|pV 0)<|pCB yE #[pV 1]) (Good:=λd=>∃ w,d=.str w/\Nm w/\w∈C) (P:=λρ=>∃ o,ρ=[o,‹C.map D.str›,some<|.int m]) (xs:=YN 0 k) (by
  rintro x g ρ ⟨o,rfl⟩;obtain⟨i,y,rfl⟩:=M5.mp g;have h:=U0 (m/12+(0+(i:Int))) (show(C.length:Int)≠0 by omega);have j:=N9 (m/12+(0+(i:Int))) (show 0<(C.length:Int) by omega);have n:=vb (o:=false) (l:=C) h j;have r:=vq nC (i:=((m/12+(0+(i:Int)))%(C.length:Int)).toNat) ∅;have s:C.getD ((m/12+(0+(i:Int)))%(C.length:Int)).toNat []∈C:=vF ∅;have b:js (.int<|m/12+(0+(i:Int))) (.int (C.length:Int))=some (.int<|(m/12+(0+(i:Int)))%(C.length:Int)):=jr ∅;generalize(m/12+(0+(i:Int)))%(C.length:Int)=q at *;generalize C.getD q.toNat []=w at *;refine⟨[some<|.int<|0+(i:Int),‹C.map D.str›,some<|.int m],.str w,rfl,?_,⟨_,rfl,r,s⟩,_,rfl⟩;generalize C.map D.str=CC at *;simp(disch:=omega) [jJ,a,b,n,-Int.zero_add]) (ρ:=[none,‹C.map D.str›,some<|.int m]) ⟨none,rfl⟩
 rw[vE] at hl;obtain⟨W,rfl,t⟩:=JI (f:=D.str) (Q:=λw=>Nm w/\w∈C) e;rw[L1] at hl;exact⟨W,c,hl,t⟩
def jh8{W:W2}(h:W.length=7):∃ a b c d e f g,W=[a,b,c,d,e,f,g]:=by
 match W,h with
 | [a,b,c,d,e,f,g],_=>exact⟨a,b,c,d,e,f,g,rfl⟩
def jaE{W:W2}(h:W.length=7){q:Int}(h0:0<=q)(h1:q<=2):1<=(yz W (some 1)<|some<|2+q).length/\(yz W (some 1)<|some<|2+q).length<=3:=by
 obtain⟨a,b,c,d,e,f,g,rfl⟩:=jh8 h;rcases(by omega:q=0\/q=1\/q=2) with rfl | rfl | rfl<;>exact⟨Nat.le_of_ble_eq_true rfl,Nat.le_of_ble_eq_true rfl⟩
def jco{W:W2}(h:W.length=7){q:Int}(h0:0<=q)(h1:q<=2):(yz W (some 4)<|some<|4+q).length<=2:=by
 obtain⟨a,b,c,d,e,f,g,rfl⟩:=jh8 h;rcases(by omega:q=0\/q=1\/q=2) with rfl | rfl | rfl<;>exact Nat.le_of_ble_eq_true rfl
def jes{l:W2}{lo hi:Option Int}(h:l.Nodup):(yz l lo hi).Nodup:=by
 unfold yz;exact h.sublist<|(List.take_sublist _ _).trans (List.drop_sublist _ _)
def jbs(o:Bool)(l:List Int)(lo hi:Option Int):jhT lo hi (.lst o<|l.map D.int)=↑((yz l lo hi).map D.int):=by
 rw[jk2<|v7 l,xC]
def LKS:FS:=(sIf (dPT<|YC (jh<|p2 vy (pCB yE #[pV 8])<|pI 0)<|jh<|p2 vy (p2 js (p2 jC (pV 6)<|pI 7)<|pI 4)<|pI 0) (jX (dP<|pSl (jL y8 #[p2 jC (pV 6)<|pI 11,pV 7,pV 9,pI 9]) oN<|oS<|pI 1)<|jd [] 14)
 jR)
def uH{c:Int}(u:0<=c)(v:c<2147483587){C P:W2}(y:P.length<=2)(e:1<=C.length)(nC:∀ w∈C,Nm w){X:List Od}(f:1<=X.length){L:List Lk}(p:L.length<=2)(k:∀ l∈L,LkOk C X l/\l.2.1<=2){a0 a1 a2 a3 a4 a5 a10 a11 a12 a13:Option D}:
  ∃ M:List Lk,M.length<=2/\(∀ l∈M,LkOk C X l)/\Few M/\LKS [a0,a1,a2,a3,a4,a5,some<|.int c,‹C.map D.str›,‹P.map D.str›,↑(X.map<|jY true),a10,a11,a12,a13,↑(L.map vH),none]=some (.nx [a0,a1,a2,a3,a4,a5,some<|.int c,‹C.map D.str›,‹P.map D.str›,↑(X.map<|jY true),a10,a11,a12,a13,↑(M.map vH),none]):=by
 have a:(((P.map D.str).length:Nat):Int)=(P.length:Int):=by rw[L1]
 by_cases n:(P.length:Int)=0/\c/7%4=0
 ·obtain⟨b,d⟩:=n;obtain⟨K,q,A,o⟩:=zT (m:=c/11) (mo:=9) ∅ ∅ (by decide) (by decide) e nC (X:=X) f;have r:jhT none (some 1) (.lst true<|K.map vH)=↑((K.take 1).map vH):=by
   rw[jk2<|kf K,xI _<|by decide,<- List.map_take];rfl
  refine⟨K.take 1,by rw[X8];omega,λl hl=>(o l<|List.mem_of_mem_take hl).1,.inr ⟨by rw[X8];omega,λl hl=>(o l<|List.mem_of_mem_take hl).2⟩,?_⟩;have g:=jV C;have h:=uO X;have i:=jn C;have j:jw (K.map vH)=true:=by rw[jU,List.all_map,List.all_eq_true];intro x _;rfl
  generalize C.map D.str=CC,P.map D.str=PP,X.map (jY true)=XX,X.map (jY false)=XF at *;generalize(K.take 1).map vH=KT at *;generalize K.map vH=KK,L.map vH=LL at *;simp(disch:=omega) [LKS,a,b,d,jJ,jr,g,i,h,q,r,j]
 ·refine⟨L,p,λl hl=>(k l hl).1,.inl λl hl=>(k l hl).2,?_⟩;have t:(YC (jh<|p2 vy (pCB yE #[pV 8])<|pI 0)<|jh<|p2 vy (p2 js (p2 jC (pV 6)<|pI 7)<|pI 4)<|pI 0) [a0,a1,a2,a3,a4,a5,some<|.int c,‹C.map D.str›,‹P.map D.str›,↑(X.map<|jY true),a10,a11,a12,a13,↑(L.map vH),none]=some false:=by
   by_cases b:(P.length:Int)=0
   ·have d:¬ c/7%4=0:=λz=>n ⟨b,z⟩;generalize P.map D.str=PP at *;simp(disch:=omega) [a,b,d,jJ,jr]
   ·generalize P.map D.str=PP at *;have s:¬ PP=[]:=λz=>by rw[z] at a;simp at a;omega
    simp(disch:=omega) [s]
  generalize C.map D.str=CC,P.map D.str=PP,X.map (jY true)=XX,L.map vH=LL at *;simp[LKS,-YC,t]
def jgS{ns:List Int}(Q:jgA ns)(R:ns.length<=63){W N O:W2}(hW:W.length=7)(S:∀ w∈W,Nm w)(dW:W.Nodup)(T:1<=N.length)(hN5:N.length<=5)(nN:∀ w∈N,Nm w)(hO:O.length<=50)(nO:∀ w∈O,Nm w):
  ∃ p:Pl,k9 [.lst false<|ns.map D.int,.lst false<|W.map D.str,.lst false<|N.map D.str,.lst false<|O.map D.str,.int 2]=some (jb true p)/\PlOk p:=by
 obtain⟨z0,U,V⟩:=VF Q (k:=0) (by decide);obtain⟨z1,Y,Z⟩:=VF Q (k:=1) (by decide);obtain⟨f,ef,f0,f1⟩:=kZ V (k:=1) (by decide) (by decide);obtain⟨sc,es,s0,s1⟩:=kZ Z (k:=2) (by decide) (by decide);obtain⟨d,hC3⟩:=jaE hW (q:=f%3) ∅ ∅;have hP2:=jco hW (q:=f/3%3) ∅ ∅;have nC:∀ w∈yz W (some 1) (some<|2+f%3),Nm w:=λw hw=>S w<|Jl hw;have nP:∀ w∈yz W (some 4) (some<|4+f/3%3),Nm w:=λw hw=>S w<|Jl hw;have dC:=jes (lo:=some 1) (hi:=some<|2+f%3) dW;have dP:=jes (lo:=some 4) (hi:=some<|4+f/3%3) dW;have sC:=VY false W (some 1)<|some<|2+f%3;have sP:=VY false W (some 4)<|some<|4+f/3%3;generalize yz W (some 1) (some<|2+f%3)=C,yz W (some 4) (some<|4+f/3%3)=P at *;have hbc:jgA (yz ns (some 2) none):=λx hx=>Q x<|Jl hx;have hlc:(yz ns (some 2) none).length<=63:=N7 (ku _ _ _) R;have sN:=jbs false ns (some 2) none;generalize yz ns (some 2) none=cs at *;obtain⟨X,eX,h,hX5,hX⟩:=jbn hbc hlc (C:=C) (P:=P) (O:=O) (N:=N) ⟨d,by omega,by omega,hO,nC,nP,nO,nN,by omega⟩ T;obtain⟨K,n,r,eK,a,gK⟩:=QA s0 s1 (C:=C) ∅ nC (a0:=‹ns.map D.int›) (a1:=‹W.map D.str›) (a2:=‹N.map D.str›) (a3:=‹O.map D.str›) (a4:=some<|.int 2) (a5:=some<|.int f) (a8:=‹P.map D.str›) (a9:=↑(X.map<|jY true));have hK:K.length=C.length:=by rw[<- a,L1]
 have nK:∀ c∈K,Nm c.1:=λc hc=>nC _ (by rw[<- a];exact M5.mpr ⟨c,hc,rfl⟩);have a1:=U0 (f/36) (show(C.length:Int)+1≠0 by omega);have a2:=N9 (f/36) (show 0<(C.length:Int)+1 by omega);have s:js (.int<|f/36) (.int<|(C.length:Int)+1)=some (.int<|f/36%((C.length:Int)+1)):=jr ∅;generalize f/36%((C.length:Int)+1)=q at a1 a2 s;have hrg:=kU (j:=q) ∅ ∅;have hlq:lim (YN 0 q.toNat).length=true:=jc (by rw[vE];omega);obtain⟨E,eE,hE,nE⟩:=jh7 d nC (m:=f) (k:=q.toNat);have e:jhX [.int 1,.int (P.length:Int)]=some (.int<|if(P.length:Int)>1 then(P.length:Int) else 1):=rfl;have k0:1<=(if(P.length:Int)>1 then(P.length:Int) else 1)/\(if(P.length:Int)>1 then(P.length:Int) else 1)<=2:=by split<;>omega
 generalize(if(P.length:Int)>1 then(P.length:Int) else 1)=k at e k0;have hmo:1<=2/k/\2/k<=2:=by
  rcases(by omega:k=1\/k=2) with rfl | rfl<;>decide
 have dk:jC (.int 2) (.int k)=some (.int<|2/k):=jJ ∅ ∅;obtain⟨L0,eL,hL0,t⟩:=zT (m:=sc/11) (mo:=2/k) ∅ ∅ hmo.1 ∅ d nC (X:=X) h;generalize 2/k=mo at *;obtain⟨L,hL,nL,fL,eT⟩:=uH s0 s1 hP2 d nC h hL0 (λl hl=>⟨(t l hl).1,by have:=(t l hl).2;omega⟩) (a0:=‹ns.map D.int›) (a1:=‹W.map D.str›) (a2:=‹N.map D.str›) (a3:=‹O.map D.str›) (a4:=some<|.int 2) (a5:=some<|.int f) (a10:=↑(K.map kq)) (a11:=n) (a12:=r) (a13:=↑(E.map D.str));unfold LKS at eT;obtain⟨M,eM,b,gM⟩:=zU s0 s1 (P:=P) (j:=0) (o0:=none) (o1:=none) ∅;have hM:M.length=P.length:=by rw[<- b,L1]
 have nM:∀ c∈M,Nm c.1:=λc hc=>nP _ (by rw[<- b];exact M5.mpr ⟨c,hc,rfl⟩);obtain⟨G,eG,hG,nG⟩:=jbM (m:=f/200) ∅ (C:=C) (P:=P) ∅ nC nP (X:=X) ∅ hX;have iw:=vb (o:=false) (l:=W) (i:=0) ∅ ∅;have nw:Nm (W.getD (0:Int).toNat []):=vq S (by show 0<W.length;omega);generalize W.getD (0:Int).toNat []=nm at *;refine⟨⟨nm,K,M,E,X,L,G⟩,?_,⟨nw,by show K.length<=6;omega,nK,by show M.length<=6;omega,nM,by show E.length<=6;omega,λw hw=>(nE w hw).1,h,by show X.length<=5;omega,by show ∀ x∈X,OrOk (K.map (·.1)) (M.map (·.1)) x;rw[a,b];exact hX,hL,by show ∀ l∈L,LkOk (K.map (·.1)) X l;rw[a];exact nL,by show(K.map (·.1)).Nodup;rw[a];exact dC,gK,by show(M.map (·.1)).Nodup;rw[b];exact dP,gM,hG,by show ∀ g∈G,(Nm g.1/\Nm g.2)/\g.1∈M.map (·.1)/\g.2∈K.map (·.1);rw[a,b];exact nG,by show ∀ c∈E,c∈K.map (·.1);rw[a];exact λw hw=>(nE w hw).2,by show K.length<=3;omega,by show M.length<=2;omega,fL,by show 1<=K.length;omega⟩⟩;show _=some (D.tup [.str nm,.lst false<|K.map kq,.lst false<|M.map jI,.lst false<|E.map D.str,.lst false<|X.map<|jY false,.lst false<|L.map vH,.lst true<|G.map qP]);have frN:=v7 ns;have frc:=v7 cs;have fzc:=Jg cs;have frC:=jn C;have u:=jV C;have frP:=jn P;have v:=jV P;have frE:=jn E;have fzE:=jV E;have y:=kY K;have fzK:=jf _ y;have z:=jG M;have fzM:=jf _ z;have A:=kf L;have fzL:=jf _ A;have clL:jw (L.map vH)=true:=by rw[jU,List.all_map,List.all_eq_true];intro x _;rfl
 have B:=qF X;have fzX:=uO X;have F:=jf _ B;have frO:=jn O;have fzO:=jV O;have H:=jn N;have I:=jV N;have fzN:=Jg ns;have hlC:(((C.map D.str).length:Nat):Int)=(C.length:Int):=by rw[L1]
 have hlP:(((P.map D.str).length:Nat):Int)=(P.length:Int):=by rw[L1]
 have lP:lim (yC 0<|P.map D.str).length=true:=jc (by rw[vO,L1];omega);have enC:J9 [.lst false<|C.map D.str]=some (yC 0<|C.map D.str):=by
  show some (yC 0<|fzs<|C.map D.str)=_;rw[u]
 have enP:J9 [.lst false<|P.map D.str]=some (yC 0<|P.map D.str):=by
  show some (yC 0<|fzs<|P.map D.str)=_;rw[v]
 have eE':jS (jd [] 0) qT (pF<|p2 jq (pV 1)<|p2 js (p2 jz (p2 jC (pV 2)<|pI 12)<|pV 0)<|pCB yE #[pV 1]) (YN 0 q.toNat) (jO [none,some 7,some 5] [‹ns.map D.int›,‹W.map D.str›,‹N.map D.str›,‹O.map D.str›,some<|.int 2,some<|.int f,some<|.int sc,‹C.map D.str›,‹P.map D.str›,↑(X.map<|jY true),↑(K.map kq),n,r,none,none,none])=some (E.map D.str):=eE;have eM':jS (gT 2<|gC (jd [] 0)<|gC (jd [] 1) gN) qT (vN #[pF<|pV 1,jL jP #[p2 jz (p2 jC (pV 2)<|pI 13)<|pV 0]]) (yC 0<|P.map D.str) (jO [none,none,some 6] [‹ns.map D.int›,‹W.map D.str›,‹N.map D.str›,‹O.map D.str›,some<|.int 2,some<|.int f,some<|.int sc,‹C.map D.str›,‹P.map D.str›,↑(X.map<|jY true),↑(K.map kq),n,r,↑(E.map D.str),↑(L.map vH),none])=some (M.map jI):=eM;generalize ns.map D.int=NS,cs.map D.int=CS,W.map D.str=WW,N.map D.str=NN,O.map D.str=OO,C.map D.str=CC,P.map D.str=PP,E.map D.str=EE,K.map kq=KK,M.map jI=MM at *;have J:jw (L0.map vH)=true:=by rw[jU,List.all_map,List.all_eq_true];intro x _;rfl
 generalize L.map vH=LL,L0.map vH=LL0,G.map qP=GG,X.map (jY false)=XF,X.map (jY true)=XX at *;simp(maxSteps:=400000) (disch:=omega) [k9,jE,Y1,frN,fzN,U,Y,ef,es,jr,jJ,sC,sP,sN,u,v,fzc,frc,frC,frP,frO,fzO,H,I,eX,enC,eK,hlC,hlP,s,hrg,hlq,eE',e,dk,fzX,F,B,eL,J,clL,↓eT,enP,lP,eM',fzK,y,fzM,z,fzE,frE,fzL,A,iw,eG,jc]
def jld(ns:List Int):(yz ns none<|some 16).length<=63:=by
 have:=ku ns none<|some 16;unfold yz at *;rw[X8];have:HT.sIx ns.length ns.length (some 16)<=16:=by
  unfold HT.sIx;simp;omega
 omega
def jjv{ns:List Int}(c:jgA ns):∃ p:Pl,kJ [.lst false<|ns.map D.int,.int 2]=some (jb true p)/\PlOk p:=by
 obtain⟨y,d,e⟩:=VF c (k:=0) (by decide);obtain⟨z,f,g⟩:=VF c (k:=1) (by decide);obtain⟨W,A,B,v,C⟩:=zk e (many:=7) (by decide);obtain⟨N,E,L,nN,_⟩:=zk g (many:=3) (by decide);have h:jgA (yz ns none<|some 16):=λx F=>c x<|Jl F;have i:=jld ns;have G:=jbs false ns none<|some 16;generalize yz ns none (some 16)=cs at *;have nO:∀ w∈yz W (some 6) none,Nm w:=λw hw=>v w<|Jl hw;have H:(yz W (some 6) none).length<=50:=N7 (ku _ _ _) ∅;have I:=VY false W (some 6) none;generalize yz W (some 6) none=O at *;obtain⟨p,J,K⟩:=jgS h i B v C (N:=N) ∅ ∅ nN H nO;refine⟨p,?_,K⟩;have j:yq [.int y,.int 7,.int 8]=↑(W.map D.str):=A;have l:yq [.int z,.int 3,.int 8]=↑(N.map D.str):=E;have m:=v7 ns;have n:=Jg ns;have o:=v7 cs;have q:=Jg cs;have r:=jn W;have s:=jV W;have t:=jn O;have u:=jV O;have a:=jn N;have b:=jV N;generalize jb true p=PP,ns.map D.int=NS,cs.map D.int=CS,W.map D.str=WW,N.map D.str=NN,O.map D.str=OO at *;simp(maxSteps:=400000) (disch:=omega) [kJ,jE,Ke,m,n,d,f,j,l,r,s,a,b,G,o,q,I,t,u,J,jc]
def jcL(p:Pl):fz (jb true p)=jb false p:=by
 have a:=jf _<|kY p.C;have b:=jf _<|jG p.P;have c:=jV p.E;have d:=jf _<|qF p.X;have e:=jf _<|kf p.L;have f:=jf _<|qX p.G;show D.tup [.str p.nm,.lst false<|fzs<|p.C.map kq,.lst false<|fzs<|p.P.map jI,.lst false<|fzs<|p.E.map D.str,.lst false<|fzs<|p.X.map<|jY false,.lst false<|fzs<|p.L.map vH,.lst false<|fzs<|p.G.map qP]=_;rw[a,b,c,d,e,f];rfl
def yi(p:Pl):frz (jb false p)=true:=by
 have a:=kY p.C;have b:=jG p.P;have c:=jn p.E;have d:=qF p.X;have e:=kf p.L;have f:=qX p.G;show frz (D.tup [.str p.nm,.lst false<|p.C.map kq,.lst false<|p.P.map jI,.lst false<|p.E.map D.str,.lst false<|p.X.map<|jY false,.lst false<|p.L.map vH,.lst false<|p.G.map qP])=true;simp only[frz,qY,frzs,a,b,c,d,e,f];rfl
def okw{n:Nat}{w:List Nat}(h:Lt w):okE n (.str w)=true:=jhj λc a=>by have:=h c a;omega
def jmj{C P:W2}{r:Rl}(h:xB C P r)(n:Nat):okE (n+2) (jF r)=true:=by
 cases r with
 | two b x=>
  show yX (n+1) [.str b,.str x]=true;simp[yX,okw h.2.1,okw h.2.2.1.r]
 | many c=>
  have a:okE (n+1) (.tup<|c.map D.str)=true:=ve λd hd=>by
   obtain⟨w,hw,rfl⟩:=M5.mp hd;exact okw (h.2.1 w hw).r
  show yX (n+1) [.str vg,.tup<|c.map D.str]=true;simp only[yX,a,okw (n:=n+1) (w:=vg)<|by decide];rfl
 | lend b x v=>
  have a:okE (n+1) (.int v)=true:=rfl;show yX (n+1) [.str b,.str x,.int v]=true;simp[yX,okw h.2.1,okw h.2.2.1.r,a]
def jiw{o:Bool}{p:Pl}(h:PlOk p):okE 20 (jb o p)=true:=by
 have i (n:Nat) (v:Int):okE (n+1) (.int v)=true:=rfl;have f:okE 19 (.lst false<|p.C.map kq)=true:=ve λd hd=>by
  obtain⟨x,a,rfl⟩:=M5.mp hd;show yX 17 [.str x.1,.int x.2.1,.int x.2.2]=true;simp[yX,okw (h.nC x a).r,i 16]
 have q (l:List Qt) (hl:∀ q∈l,Nm q.1) (n:Nat):okE (n+3) (.lst false<|l.map jI)=true:=ve λd hd=>by
  obtain⟨x,a,rfl⟩:=M5.mp hd;show yX (n+1) [.str x.1,.int x.2]=true;simp[yX,okw (hl x a).r,i n]
 have j:=q p.P h.nP 16;have m:okE 19 (.lst false<|p.E.map D.str)=true:=ve λd hd=>by
  obtain⟨x,a,rfl⟩:=M5.mp hd;exact okw (h.nE x a).r
 have s:okE 19 (.lst false<|p.X.map<|jY false)=true:=ve λd hd=>by
  obtain⟨x,a,rfl⟩:=M5.mp hd;have b:=h.x x a;have t:=q x.2.1 b.q 14;have u:okE 17 (.lst false<|x.2.2.map jF)=true:=ve λd hd=>by
   obtain⟨r,w,rfl⟩:=M5.mp hd;exact jmj (b.k r w) 14
  show yX 17 [.str x.1,.lst false<|x.2.1.map jI,.lst false<|x.2.2.map jF]=true;simp[yX,okw b.nm.r,t,u]
 have z:okE 19 (.lst false<|p.L.map vH)=true:=ve λd hd=>by
  obtain⟨x,a,rfl⟩:=M5.mp hd;have b:=h.l x a;obtain⟨y,A,e⟩:=b.n;show yX 17 [.str x.1,.int x.2.1,.str x.2.2]=true;rw[<- e];simp[yX,okw b.c.r,okw (h.x y A).nm.r,i 16]
 have B:okE 19 (.lst o<|p.G.map qP)=true:=ve λd hd=>by
  obtain⟨x,a,rfl⟩:=M5.mp hd;show yX 17 [.str x.1,.str x.2]=true;simp[yX,okw (h.g x a).1.1.r,okw (h.g x a).1.2.r]
 show yX 19 [.str p.nm,.lst false<|p.C.map kq,.lst false<|p.P.map jI,.lst false<|p.E.map D.str,.lst false<|p.X.map<|jY false,.lst false<|p.L.map vH,.lst o<|p.G.map qP]=true;simp only[yX,okw h.nm.r,f,j,m,s,z,B];rfl
noncomputable abbrev Gw:=List (List Nat)×(List Nat->Int)
noncomputable def now(S:Gw)(c:List Nat):Int:=if c∈S.1 then S.2 c else 0
noncomputable def big(d g:Int):Int:=if d>g then d else g
def grow(S:Gw)(x:Lk):Gw:=(if x.1∈S.1 then S.1 else S.1++[x.1],λn=>if n=x.1 then big x.2.1 (now S x.1) else S.2 n)
def jdf{o:Bool}{S:Gw}{c:List Nat}:KQ (dct o S.1 S.2) (.str c) (.int 0)=some (.int<|now S c):=by
 unfold dct now;rw[jcS,jbk,L4];by_cases h:c∈S.1
 ·rw[VD S.2 h,if_pos h];rfl
 ·have:∀{N:W2},¬ c∈N->JQ (N.map KA.str) (N.map λn=>D.int<|S.2 n) (.str c)=none:=by
   intro N
   induction N with
   | nil=>intro _;rw[List.map_nil,List.map_nil,JQ];intro _ _ _ _ h;cases h
   | cons n N a=>
    intro h;rw[L5,L5,JQ,if_neg<|λe=>h (by injection e with e;rw[e];exact L7),a<|λz=>h<|L6 _ z]
  rw[this h,if_neg h];rfl
def jg4{S:Gw}{x:Lk}:vT (S.1.map KA.str) (S.1.map λn=>D.int<|S.2 n) (.str x.1) (.int<|big x.2.1<|now S x.1)=((grow S x).1.map KA.str,(grow S x).1.map λn=>D.int<|(grow S x).2 n):=by
 unfold grow;generalize big x.2.1 (now S x.1)=v;by_cases h:x.1∈S.1
 ·rw[jdg h,if_pos h]
 ·unfold vT;rw[if_neg<|λz=>h (by obtain⟨n,a,e⟩:=M5.mp z;injection e with e;rw[<- e];exact a),if_neg h,N5,N5];congr 1;show _=_++[D.int<|if x.1=x.1 then v else S.2 x.1];rw[if_pos rfl];congr 1;exact List.map_congr_left λn a=>by
   show _=D.int (if n=x.1 then v else S.2 n);rw[if_neg<|λz=>h<|by rw[<- z];exact a]
structure GrOk(L:List Lk)(m:Nat)(S:Gw):Prop where
 n:S.1.Nodup
 l:S.1.length<=m
 i:∀ c∈S.1,∃ x∈L,x.1=c
theorem GrOk.grow{L:List Lk}{m:Nat}{S:Gw}(h:GrOk L m S){x:Lk}(j:x∈L):GrOk L (m+1) (grow S x):=by
 unfold K45.grow;by_cases d:x.1∈S.1
 ·rw[if_pos d];exact⟨h.n,Nat.le_succ_of_le h.l,h.i⟩
 ·rw[if_neg d];refine⟨?_,by have:=h.l;simp;omega,λc f=>?_⟩
  ·show(S.1++[x.1]).Nodup;rw[U9];exact⟨h.n,by simp,λa k b o e=>d<|by rw[<- M7.mp o,<- e];exact k⟩
  ·rcases N1.mp f with g | g
   ·exact h.i c g
   ·exact⟨x,j,(M7.mp g).symm⟩
def wB{a0 a4:Option D}{S:Gw}(hl:S.1.length<=1000){x:Lk}:j9 [a0,some<|dct true S.1 S.2,some<|.str x.1,some<|.int x.2.1,a4]=some (.nx [a0,some<|dct true (grow S x).1 (grow S x).2,some<|.str x.1,some<|.int x.2.1,a4]):=by
 have d:lim (S.1.map KA.str).length=true:=jc (by rw[L1];omega);have e:=jdf (o:=true) (S:=S) (c:=x.1);have a:jhX [.int<|now S x.1,.int x.2.1]=some (.int<|big x.2.1<|now S x.1):=rfl;have b:jen (dct true S.1 S.2)=some (S.1.map KA.str,S.1.map λn=>D.int<|S.2 n):=rfl;have f:=jg4 (S:=S) (x:=x);show _=some (Out.nx [a0,some<|.dK true ((grow S x).1.map KA.str)<|(grow S x).1.map λn=>D.int<|(grow S x).2 n,_,_,_]);generalize(grow S x).1.map KA.str=k2 at *;generalize((grow S x).1.map λn=>D.int<|(grow S x).2 n)=v2 at *;generalize big x.2.1 (now S x.1)=v at *;generalize now S x.1=g,dct true S.1 S.2=dd,S.1.map KA.str=ks at *;generalize(S.1.map λn=>D.int<|S.2 n)=vs at *;simp[j9,e,a,b,d,f]
theorem Jf{A:List Lk}{a0:Option D}:∀{L:List Lk}{S:Gw}{m:Nat}{o2 o3 o4:Option D},m+L.length<=1000->(∀ x∈L,x∈A)->GrOk A m S ->
  ∃ r2 r3 r4:Option D,yU (gT 3<|gC (jd [] 2)<|gC (jd [] 3)<|gC (jd [] 4) gN) j9 (L.map vH) [a0,some<|dct true S.1 S.2,o2,o3,o4]=some (.nx [a0,some<|dct true (L.foldl grow S).1 (L.foldl grow S).2,r2,r3,r4])/\GrOk A (m+L.length) (L.foldl grow S)
 | [],S,m,o2,o3,o4,_,_,h=>⟨o2,o3,o4,rfl,h⟩
 | x::L,S,m,o2,o3,o4,hl,a,h=>by
  rw[M1] at hl;obtain⟨r2,r3,r4,b,c⟩:=Jf (A:=A) (a0:=a0) (L:=L) (S:=grow S x) (m:=m+1) (o2:=some<|.str x.1) (o3:=some<|.int x.2.1) (o4:=some<|.str x.2.2) ∅ (λy d=>a y<|by simp[d]) (h.grow<|a x<|by simp);refine⟨r2,r3,r4,?_,by rw[M1,show m+(L.length+1)=m+1+L.length by omega];exact c⟩;have e:(gT 3<|gC (jd [] 2)<|gC (jd [] 3)<|gC (jd [] 4) gN) (vH x) [a0,some<|dct true S.1 S.2,o2,o3,o4]=some [a0,some<|dct true S.1 S.2,some<|.str x.1,some<|.int x.2.1,some<|.str x.2.2]:=rfl;rw[L5,yb,e,L4,wB<|by have:=h.l;omega,L4,vn,b,X0]
def P5(o:Bool)(p:Pl):jq (jb o p) (.int 5)=‹p.L.map vH›:=rfl
def P4(o:Bool)(p:Pl):jq (jb o p) (.int 4)=‹p.X.map (jY false)›:=rfl
def P1(o:Bool)(p:Pl):jq (jb o p) (.int 1)=‹p.C.map kq›:=rfl
def P2(o:Bool)(p:Pl):jq (jb o p) (.int 2)=‹p.P.map jI›:=rfl
def jdn(N:W2):(N.map KA.str).map kaD=N.map D.str:=by rw[U1];rfl
def gr(p:Pl):Gw:=p.L.foldl grow ([],λ_=>0)
def wj{p:Pl}(h:PlOk p):GrOk p.L 2 (gr p):=by
 obtain⟨_,_,_,_,g⟩:=Jf (A:=p.L) (a0:=none) (L:=p.L) (S:=([],λ_=>0)) (m:=0) (o2:=none) (o3:=none) (o4:=none) (by have:=h.l2;omega) (λx a=>a) ⟨List.nodup_nil,U5 _,λc b=>(nomatch b)⟩;exact⟨g.n,by have:=g.l;have:=h.l2;unfold gr;omega,g.i⟩
def JX{p:Pl}(h:PlOk p):ya [jb false p]=some (dct true (gr p).1 (gr p).2):=by
 obtain⟨b,d,f,e,_⟩:=Jf (A:=p.L) (a0:=some<|jb false p) (L:=p.L) (S:=([],λ_=>0)) (m:=0) (o2:=none) (o3:=none) (o4:=none) (by have:=h.l2;omega) (λx g=>g) ⟨List.nodup_nil,U5 _,λc i=>(nomatch i)⟩;have j:yU (gT 3<|gC (jd [] 2)<|gC (jd [] 3)<|gC (jd [] 4) gN) j9 (p.L.map vH) [some<|jb false p,some<|.dK true [] [],none,none,none]=some (.nx [some<|jb false p,some<|dct true (gr p).1 (gr p).2,b,d,f]):=e;have k:=P5 false p;have a:=kf p.L;have l:=jf _ a;generalize jb false p=pp,p.L.map vH=LL,dct true (gr p).1 (gr p).2=dd at *;simp[ya,jE,kE,k,a,l,j]
noncomputable abbrev WN:=List Nat
noncomputable def gd(o:Bool)(N:List WN)(f:WN->D):D:=.dK o (N.map KA.str)<|N.map f
theorem ja5(f:WN->D)(c:WN):∀ N:List WN,JQ (N.map KA.str) (N.map f) (.str c)=if c∈N then some (f c) else none
 | []=>rfl
 | n::N=>by
  rw[L5,L5,JQ];by_cases h:n=c
  ·subst h;simp
  ·rw[if_neg<|λz=>h<|KA.str.inj z,ja5 f c N];by_cases q:c∈N
   ·rw[if_pos q,if_pos<|L6 _ q]
   ·rw[if_neg q,if_neg λz=>(M4.mp z).elim (λz=>h z.symm) q]
def Vq{o:Bool}{N:List WN}{f:WN->D}{c:WN}(h:c∈N):vU (gd o N f) (.str c)=some (f c):=by
 show JQ _ _ _=_;rw[ja5,if_pos h]
def jbG{o neg:Bool}{N:List WN}{f:WN->D}{c:WN}:YK neg (.str c) (gd o N f)=some (.bl<|neg != decide (c∈N)):=by
 show some (D.bl<|neg != (JQ _ _ _).isSome)=_;rw[ja5];by_cases h:c∈N<;>simp[h]
theorem jep(f:WN->D)(c:WN)(v:D):∀ N:List WN,jbi (N.map KA.str) (N.map f) (.str c) v=N.map λn=>if n=c then v else f n
 | []=>rfl
 | n::N=>by
  rw[L5,L5,jbi,jep f c v N,L5];by_cases h:n=c
  ·simp[h]
  ·rw[if_neg h,if_neg<|λz=>h<|KA.str.inj z]
noncomputable def qe(l:List WN)(c:WN):List WN:=if c∈l then l else l++[c]
def JG(l:List WN)(c:WN):(qe l c).length<=l.length+1:=by unfold qe;split<;>simp
def jjs(f:WN->D)(c:WN)(v:D)(N:List WN):vT (N.map KA.str) (N.map f) (.str c) v=((qe N c).map KA.str,(qe N c).map λn=>if n=c then v else f n):=by
 have hm:(KA.str c∈N.map KA.str)↔c∈N:=by simp
 unfold vT qe;by_cases h:c∈N
 ·rw[if_pos h,if_pos<|hm.mpr h,jep]
 ·rw[if_neg h,if_neg λz=>h<|hm.mp z,N5,N5];refine congrArg (Prod.mk _) ?_;rw[List.map_congr_left (g:=λn=>if n=c then v else f n) λn a=>(if_neg<|show ¬ n=c from λz=>h<|by rw[<- z];exact a).symm];simp
structure Sy where
 al:WN->Bool
 fu:WN->Bool
 sv:List WN
 rp:List WN
noncomputable def mis(y:Sy)(c:WN):Bool:=y.al c&&!decide (c∈y.sv)
def nd(y:Sy):Rl->Bool
 | .two kw x=>if kw=jhY then mis y x else if kw=ko then y.al x&&!decide (x∈y.rp) else if kw=jbR then !y.fu x else false
 | .many ws=>ws.any<|mis y
 | .lend _ _ _=>false
def fl(y:Sy):Rl->Sy
 | .two kw x=>if kw=jbR then{y with fu:=λq=>if q=x then true else y.fu q} else{y with sv:=qe y.sv x,rp:=if kw=ko then qe y.rp x else y.rp}
 | .many ws=>{y with sv:=ws.foldl qe y.sv}
 | .lend _ _ _=>y
noncomputable def FN:List Str:=["claims","pots","guards","greatest","runs","alive","full","served","repaid"]
abbrev I9(o:Bool)(a0 a1 a2 a3 a4 a5 a6 a7 a8:D):D:=.ins o 0 FN [a0,a1,a2,a3,a4,a5,a6,a7,a8]
noncomputable abbrev nC(p:Pl):List WN:=p.C.map (·.1)
noncomputable abbrev nP(p:Pl):List WN:=p.P.map (·.1)
abbrev bd(o:Bool)(N:List WN)(f:WN->Bool):D:=gd o N λn=>.bl<|f n
abbrev td(o:Bool)(N:List WN):D:=gd o N λ_=>.bl true
def jB(o:Bool)(p:Pl)(R:List Qt)(y:Sy):D:=I9 o (.lst o<|(nC p).map D.str) (.lst o<|(nP p).map D.str) (.lst false<|p.G.map qP) (dct o (gr p).1 (gr p).2) (.tup<|R.map jI) (bd o (nC p) y.al) (bd o (nP p) y.fu) (td o y.sv)<|td o y.rp
def yZ(N:List WN)(f:WN->Bool):frzs (N.map λn=>D.bl<|f n)=true:=yy λd hd=>by obtain⟨x,_,rfl⟩:=M5.mp hd;rfl
def jgk(o:Bool)(p:Pl)(R:List Qt)(y:Sy):fz (jB o p R y)=jB false p R y:=by
 have a:=jV<|nC p;have b:=jV<|nP p;have c:=jf _<|qX p.G;have d:=jf _<|V0 (gr p).1 (gr p).2;have e:=jf _<|jG R;have f:=jf _<|yZ (nC p) y.al;have g:=jf _<|yZ (nP p) y.fu;have h:=jf _<|yZ y.sv λ_=>true;have i:=jf _<|yZ y.rp λ_=>true;show D.ins false 0 FN [.lst false<|fzs<|(nC p).map D.str,.lst false<|fzs<|(nP p).map D.str,.lst false<|fzs<|p.G.map qP,.dK false _<|fzs<|(gr p).1.map λn=>D.int<|(gr p).2 n,.tup<|fzs<|R.map jI,.dK false _<|fzs<|(nC p).map λn=>D.bl<|y.al n,.dK false _<|fzs<|(nP p).map λn=>D.bl<|y.fu n,.dK false _<|fzs<|y.sv.map λ_=>D.bl true,.dK false _<|fzs<|y.rp.map λ_=>D.bl true]=_;rw[a,b,c,d,e,f,g,h,i];rfl
section
variable {o:Bool}{a0 a1 a2 a3 a4 a5 a6 a7 a8:D}
def g6:YG 0 "full" Jc (I9 true a0 a1 a2 a3 a4 a5 a6 a7 a8)=some (a6,λz=>I9 true a0 a1 a2 a3 a4 a5 z a7 a8):=rfl
def g7:YG 0 "served" Jc (I9 true a0 a1 a2 a3 a4 a5 a6 a7 a8)=some (a7,λz=>I9 true a0 a1 a2 a3 a4 a5 a6 z a8):=rfl
def g8:YG 0 "repaid" Jc (I9 true a0 a1 a2 a3 a4 a5 a6 a7 a8)=some (a8,λz=>I9 true a0 a1 a2 a3 a4 a5 a6 a7 z):=rfl
def zy{ρ:Rh}{i:Nat}{L:Ln}{pk:PF}{t:D}{N:List WN}{f:WN->D}{kk:D->D}{w:WN}{b:Bool}(h0:pV i ρ=some t)(a:L t=some (gd true N f,kk))(c:pk ρ=some (.str w))(d:N.length<=1000):
  vD i L pk (pC<|.bl b) ρ=some (.nx<|ρ.set i<|some<|kk<|gd true (qe N w) λn=>if n=w then .bl b else f n):=by
 unfold vD;rw[show(pC<|D.bl b) ρ=some (.bl b) from rfl,L4,h0,L4,a,L4];show((pk ρ).bind λq=>_)=_;rw[c,L4];show(bif lim (N.map KA.str).length&&(true||_) then some (Out.nx<|ρ.set i<|some<|kk<|.dK true (vT (N.map KA.str) (N.map f) (.str w)<|.bl b).1 (vT (N.map KA.str) (N.map f) (.str w)<|.bl b).2) else none)=_;rw[jc<|by rw[L1];omega,jjs];rfl
def jd6{m:List D->Option (D×D)}{mn:Str}{pa:PAf}{ρ:Rh}{i:Nat}{ds:List D}(h0:pV i ρ=some (I9 true a0 a1 a2 a3 a4 a5 a6 a7 a8))(a:pa ρ=some ds)(b:frzs ds=true)
  (hn:YZ FN [a0,a1,a2,a3,a4,a5,a6,a7,a8] mn=none):kz m i 0 mn pa ρ=(m<|I9 true a0 a1 a2 a3 a4 a5 a6 a7 a8::ds).bind λr=>some (r.1,ρ.set i<|some r.2):=by
 unfold kz;rw[a,L4,h0,L4];show(bif true&&(frzs ds&&(YZ FN [a0,a1,a2,a3,a4,a5,a6,a7,a8] mn).isNone) then _ else _)=_;rw[hn,b];rfl
end
def VR{p:Pl}{R:List Qt}{y:Sy}{m:List D->Option D}{mn:Str}{po:PF}{pa:PAf}{ρ:Rh}{ds:List D}{o:Bool}{r:D}(h0:po ρ=some (jB o p R y))(c:pa ρ=some ds)
  (hn:∀ a0 a1 a2 a3 a4 a5 a6 a7 a8:D,YZ FN [a0,a1,a2,a3,a4,a5,a6,a7,a8] mn=none) (hm:m (jB false p R y::fzs ds)=some r) (d:yx r=true):jQ m 0 mn po pa ρ=some r:=by
 unfold jQ;rw[h0,L4];have b:fzs (jB o p R y::ds)=jB false p R y::fzs ds:=by rw[fzs,jgk]
 have a:∃ a0 a1 a2 a3 a4 a5 a6 a7 a8,jB o p R y=.ins o 0 FN [a0,a1,a2,a3,a4,a5,a6,a7,a8]:=⟨_,_,_,_,_,_,_,_,_,rfl⟩;obtain⟨a0,a1,a2,a3,a4,a5,a6,a7,a8,a⟩:=a;rw[a] at b ⊢;show(bif true&&(YZ FN [a0,a1,a2,a3,a4,a5,a6,a7,a8] mn).isNone then _ else none)=_;rw[c,L4,b,hm,L4,hn];simp[d]
section
variable {p:Pl}{R:List Qt}{y:Sy}{o:Bool}
def fo0:qu 0 "claims" (jB o p R y)=some (.lst o<|(nC p).map D.str):=rfl
def fo1:qu 0 "pots" (jB o p R y)=some (.lst o<|(nP p).map D.str):=rfl
def fo2:qu 0 "guards" (jB o p R y)=‹p.G.map qP›:=rfl
def fo3:qu 0 "greatest" (jB o p R y)=some (dct o (gr p).1 (gr p).2):=rfl
def fo4:qu 0 "runs" (jB o p R y)=some (.tup<|R.map jI):=rfl
def fo5:qu 0 "alive" (jB o p R y)=some (bd o (nC p) y.al):=rfl
def fo6:qu 0 "full" (jB o p R y)=some (bd o (nP p) y.fu):=rfl
def fo8:qu 0 "repaid" (jB o p R y)=some (td o y.rp):=rfl
def fo7:qu 0 "served" (jB o p R y)=some (td o y.sv):=rfl
end
section
variable {p:Pl}{R:List Qt}{y:Sy}{c:WN}
def jbp(a:c∈nC p):je [jB false p R y,.str c]=some (.bl<|mis y c):=by
 have b:=Vq (o:=false) (f:=λn=>D.bl<|y.al n) a;have d:=jbG (o:=false) (neg:=true) (N:=y.sv) (f:=λ_=>D.bl true) (c:=c);have e:=fo5 (p:=p) (R:=R) (y:=y) (o:=false);have g:=fo7 (p:=p) (R:=R) (y:=y) (o:=false);unfold mis;generalize jB false p R y=I at *;unfold bd td at *;generalize gd false (nC p) (λn=>D.bl<|y.al n)=A,gd false y.sv (λ_=>D.bl true)=S at *;cases h:y.al c<;>simp[je,jE,yY,e,g,b,d,h]
def qA{po pa:PF}{ρ:Rh}{o:Bool}(a:c∈nC p)(h0:po ρ=some (jB o p R y))(h1:pa ρ=some (.str c)):jQ je 0 "is_missed" po #[pa] ρ=some (.bl<|mis y c):=
 VR h0 (ds:=[.str c]) (by simp[h1]) (λ_ _ _ _ _ _ _ _ _=>rfl) (jbp a) rfl
theorem zG{o:Bool}:∀{ws:List WN}{o0:Option D},(∀ w∈ws,w∈nC p)->jS (jd [] 0) qT (jQ je 0 "is_missed" (pV 1) #[pV 0]) (ws.map D.str) [o0,some<|jB o p R y]=some (ws.map λw=>D.bl<|mis y w)
 | [],_,_=>rfl
 | w::ws,o0,h=>by
  have e:=zG (o:=o) (ws:=ws) (o0:=some<|.str w) λw hw=>h w<|L6 _ hw;have a:jd [] 0 (.str w) [o0,some<|jB o p R y]=some [some<|.str w,some<|jB o p R y]:=rfl;have m:=qA (p:=p) (R:=R) (y:=y) (po:=pV 1) (pa:=pV 0) (ρ:=[some<|.str w,some<|jB o p R y]) (o:=o) (h w L7) rfl rfl;rw[L5,jD,a,L4];show((jQ _ _ _ _ _ _).bind λy=>_)=_;rw[m,L4,e];rfl
def jaB(l:List WN)(f:WN->Bool):kj (l.map λw=>D.bl<|f w)=some (l.map f):=by
 induction l with
 | nil=>rfl
 | cons a l b=>rw[L5,kj,b];rfl
def jcR{r:Rl}(d:xB (nC p) (nP p) r):jm [jB false p R y,jF r]=some (.bl<|nd y r):=by
 cases r with
 | two i x=>
  obtain⟨_,_,_,j⟩:=d;rcases j with⟨rfl | rfl,g⟩ | ⟨rfl,g⟩ | rfl | rfl
  ·have m:=qA (p:=p) (R:=R) (y:=y) (po:=pV 0) (pa:=p2 jq (pV 1)<|pI 1) (ρ:=[some<|jB false p R y,some<|jF<|.two jhY x,some<|.str jhY]) (o:=false) g rfl rfl;unfold jF at *;generalize jB false p R y=I at *;simp[jm,jE,jx,m,ue,nd,-jQ]
  ·have k:=Vq (o:=false) (f:=λn=>D.bl<|y.al n) g;have l:=jbG (o:=false) (neg:=true) (N:=y.rp) (f:=λ_=>D.bl true) (c:=x);have q:=fo5 (p:=p) (R:=R) (y:=y) (o:=false);have s:=fo8 (p:=p) (R:=R) (y:=y) (o:=false);unfold jF;generalize jB false p R y=I at *;unfold bd td at *;generalize gd false (nC p) (λn=>D.bl<|y.al n)=A,gd false y.rp (λ_=>D.bl true)=S at *;cases h:y.al x<;>simp[jm,jE,jx,ue,nd,q,s,k,l,h]
  ·have t:=Vq (o:=false) (f:=λn=>D.bl<|y.fu n) g;have u:=fo6 (p:=p) (R:=R) (y:=y) (o:=false);unfold jF;generalize jB false p R y=I at *;unfold bd at *;generalize gd false (nP p) (λn=>D.bl<|y.fu n)=A at *;cases h:y.fu x<;>simp[jm,jE,jx,ue,nd,u,t,h]
  ·unfold jF;generalize jB false p R y=I at *;simp[jm,jE,jx,ue,nd]
  ·unfold jF;generalize jB false p R y=I at *;simp[jm,jE,jx,ue,nd]
 | many a=>
  have e:=zG (p:=p) (R:=R) (y:=y) (o:=false) (o0:=none) d.2.2;have z:=jaB a<|mis y;have hl:lim (a.map D.str).length=true:=jc (by rw[L1];have:=d.1;omega);have B:=jn a;rw[show jF (.many a)=.tup [.str vg,.tup<|a.map D.str] from rfl];unfold nd;generalize jB false p R y=I,a.map D.str=WW at *;generalize(a.map λw=>D.bl<|mis y w)=BB at *;have C:jS (jd [] 0) qT (jQ je 0 "is_missed" (pV 1) #[pV 0]) WW (jO [none,some 0] [some I,some<|D.tup [D.str vg,D.tup WW],some<|D.str vg])=some BB:=e;have E:ji4 [.lst true BB]=some (.bl<|a.any<|mis y):=by
   show(kj BB).bind (λns=>some<|D.bl<|ns.any λb=>b)=_;rw[z];simp[List.any_map,Function.comp_def]
  simp[jm,jE,jx,ue,C,E,hl,B,List.any_map,Function.comp_def,-jQ]
 | lend i x v=>
  obtain⟨_,_,_,rfl⟩:=d;unfold jF;generalize jB false p R y=I at *;simp[jm,jE,jx,ue,nd]
def jlq(w:WN)(f:WN->Bool):(λn=>if n=w then D.bl true else D.bl (f n))=λn=>D.bl (if n=w then true else f n):=by
 funext n;split<;>rfl
def jit(w:WN):(λn:WN=>if n=w then D.bl true else D.bl true)=λ_=>D.bl true:=by
 funext n;split<;>rfl
def jfm{ρ:Rh}{i:Nat}{pk:PF}(h0:pV i ρ=some (jB true p R y))(a:pk ρ=some (.str c))(hl:y.sv.length<=1000):
  vD i (YG 0 "served" Jc) pk (pC<|.bl true) ρ=some (.nx<|ρ.set i<|some<|jB true p R {y with sv:=qe y.sv c}):=by
 rw[zy h0 (g7 ..) a hl,jit];rfl
def jlu{ρ:Rh}{i:Nat}{pk:PF}(h0:pV i ρ=some (jB true p R y))(a:pk ρ=some (.str c))(hl:y.rp.length<=1000):
  vD i (YG 0 "repaid" Jc) pk (pC<|.bl true) ρ=some (.nx<|ρ.set i<|some<|jB true p R {y with rp:=qe y.rp c}):=by
 rw[zy h0 (g8 ..) a hl,jit];rfl
def jlb{ρ:Rh}{i:Nat}{pk:PF}(h0:pV i ρ=some (jB true p R y))(a:pk ρ=some (.str c))(b:c∈nP p)(hl:p.P.length<=6):
  vD i (YG 0 "full" Jc) pk (pC<|.bl true) ρ=some (.nx<|ρ.set i<|some<|jB true p R {y with fu:=λq=>if q=c then true else y.fu q}):=by
 rw[zy h0 (g6 ..) a<|by rw[L1];omega,jlq,show qe (nP p) c=nP p from if_pos b];rfl
theorem KW{a1 a2:Option D}:∀{ws:List WN}{y:Sy}{o3:Option D},y.sv.length+ws.length<=1000 ->
  ∃ o3',yU (jd [0] 3) yH (ws.map D.str) [some<|jB true p R y,a1,a2,o3]=some (.nx [some<|jB true p R {y with sv:=ws.foldl qe y.sv},a1,a2,o3'])
 | [],y,o3,_=>⟨o3,rfl⟩
 | w::ws,y,o3,h=>by
  rw[M1] at h;have c:=JG y.sv w;obtain⟨o3',e⟩:=KW (a1:=a1) (a2:=a2) (ws:=ws) (y:={y with sv:=qe y.sv w}) (o3:=some<|.str w) (by show(qe y.sv w).length+_<=_;omega);have a:jd [0] 3 (.str w) [some<|jB true p R y,a1,a2,o3]=some [some<|jB true p R y,a1,a2,some<|.str w]:=rfl;have b:yH [some<|jB true p R y,a1,a2,some<|.str w]=some (.nx [some<|jB true p R {y with sv:=qe y.sv w},a1,a2,some<|.str w]):=jfm rfl rfl ∅;exact⟨o3',by rw[L5,yb,a,L4,b,L4,vn,e];rfl⟩
def jc0(ws:List WN):∀ l:List WN,(ws.foldl qe l).length<=l.length+ws.length:=by
 induction ws with
 | nil=>intro l;simp
 | cons w ws a=>
  intro l;have:=a<|qe l w;have:=JG l w;rw[X0,M1];omega
def jfR(f:p.P.length<=6){r:Rl}(b:xB (nC p) (nP p) r)(hn:nd y r=true)(h1:y.sv.length<=900)(h2:y.rp.length<=900):
  ju [jB true p R y,jF r]=some (.non,jB true p R<|fl y r):=by
 cases r with
 | two g x=>
  obtain⟨_,_,_,h⟩:=b;rcases h with⟨rfl | rfl,d⟩ | ⟨rfl,d⟩ | rfl | rfl
  ·have s:=jfm (p:=p) (R:=R) (y:=y) (c:=x) (ρ:=[some<|jB true p R y,some<|jF<|.two jhY x,some<|.str jhY,none]) (i:=0) (pk:=p2 jq (pV 1)<|pI 1) rfl rfl ∅;unfold jF at *;show _=some (D.non,jB true p R {y with sv:=qe y.sv x});generalize jB true p R {y with sv:=qe y.sv x}=J,jB true p R y=I at *;simp[ju,x6,j8,ue,s,jdI]
  ·have s:=jfm (p:=p) (R:=R) (y:=y) (c:=x) (ρ:=[some<|jB true p R y,some<|jF<|.two ko x,some<|.str ko,none]) (i:=0) (pk:=p2 jq (pV 1)<|pI 1) rfl rfl ∅;have t:=jlu (p:=p) (R:=R) (y:={y with sv:=qe y.sv x}) (c:=x) (ρ:=[some<|jB true p R {y with sv:=qe y.sv x},some<|jF<|.two ko x,some<|.str ko,none]) (i:=0) (pk:=p2 jq (pV 1)<|pI 1) rfl rfl (by show y.rp.length<=1000;omega);unfold jF at *;show _=some (D.non,jB true p R { {y with sv:=qe y.sv x} with rp:=qe y.rp x });generalize jB true p R { {y with sv:=qe y.sv x} with rp:=qe y.rp x }=J2,jB true p R {y with sv:=qe y.sv x}=J,jB true p R y=I at *;simp[ju,x6,j8,ue,s,t,jdI]
  ·have s:=jlb (p:=p) (R:=R) (y:=y) (c:=x) (ρ:=[some<|jB true p R y,some<|jF<|.two jbR x,some<|.str jbR,none]) (i:=0) (pk:=p2 jq (pV 1)<|pI 1) rfl rfl d f;unfold jF at *;show _=some (D.non,jB true p R {y with fu:=λq=>if q=x then true else y.fu q});generalize jB true p R {y with fu:=λq=>if q=x then true else y.fu q}=J,jB true p R y=I at *;simp[ju,x6,j8,ue,s,jdI]
  ·exact absurd hn (by simp[nd])
  ·exact absurd hn (by simp[nd])
 | many a=>
  have:=b.1;obtain⟨j,e⟩:=KW (p:=p) (R:=R) (a1:=some<|.tup [.str vg,.tup<|a.map D.str]) (a2:=some<|.str vg) (ws:=a) (y:=y) (o3:=none) ∅;have k:=jn a;have l:=jV a;rw[show jF (.many a)=.tup [.str vg,.tup<|a.map D.str] from rfl];show _=some (D.non,jB true p R {y with sv:=a.foldl qe y.sv});generalize jB true p R {y with sv:=a.foldl qe y.sv}=J,jB true p R y=I,a.map D.str=WW at *;simp[ju,x6,j8,ue,e,k,l,jdI]
 | lend g x v=>exact absurd hn (by simp[nd])
end
noncomputable def mn(a b:Int):Int:=if b<a then b else a
def jkt(p:Pl)(y:Sy)(q:Qt):Qt:=(q.1,if mis y q.1 then mn (q.2+1) ((gr p).2 q.1) else 0)
def drn(G:List Gd)(y:Sy):List WN:=(G.filter λg=>mis y g.2).map (·.1)
def obR(p:Pl)(R:List Qt)(y:Sy):List D:=(R.map<|jkt p y).map jI
def obA(p:Pl)(y:Sy):List D:=(nC p).map λn=>.bl<|y.al n&&!decide (n∈y.rp)
def obF(p:Pl)(y:Sy):List D:=(nP p).map λn=>.bl<|y.fu n&&!decide (n∈drn p.G y)
def ob(p:Pl)(R:List Qt)(y:Sy):D:=.tup [.tup<|obR p R y,.tup<|obA p y,.tup<|obF p y]
section
variable {p:Pl}{R:List Qt}{y:Sy}{c:WN}{o:Bool}
def jgo(a:c∈nC p)(b:c∈(gr p).1){d:Int}:jo [jB false p R y,.str c,.int d]=some (.int<|if mis y c then mn (d+1) ((gr p).2 c) else 0):=by
 have m:=qA (p:=p) (R:=R) (y:=y) (po:=pV 0) (pa:=pV 1) (ρ:=[some<|jB false p R y,some<|.str c,some<|.int d]) a rfl rfl;have e:=jbX (o:=false) (f:=(gr p).2) b;have g:=fo3 (p:=p) (R:=R) (y:=y) (o:=false);have hm:jhR [.int<|d+1,.int<|(gr p).2 c]=some (.int<|mn (d+1)<|(gr p).2 c):=rfl;generalize jB false p R y=I,dct false (gr p).1 (gr p).2=G at *;cases h:mis y c<;>simp[jo,jE,yL,m,g,e,hm,h,-jQ,-ji8]
theorem Va:∀{G:List Gd}{o0 o1:Option D},(∀ g∈G,g.2∈nC p)->jS (gT 2<|gC (jd [] 0)<|gC (jd [] 1) gN) (jh<|jQ je 0 "is_missed" (pV 2) #[pV 1]) (pF<|pV 0) (G.map qP) [o0,o1,some<|jB o p R y]=some ((drn G y).map D.str)
 | [],_,_,_=>rfl
 | g::G,o0,o1,h=>by
  have e:=Va (G:=G) (o0:=some<|.str g.1) (o1:=some<|.str g.2) λg a=>h g<|L6 _ a;have a:(gT 2<|gC (jd [] 0)<|gC (jd [] 1) gN) (qP g) [o0,o1,some<|jB o p R y]=some [some<|.str g.1,some<|.str g.2,some<|jB o p R y]:=rfl;have m:=qA (p:=p) (R:=R) (y:=y) (po:=pV 2) (pa:=pV 1) (ρ:=[some<|.str g.1,some<|.str g.2,some<|jB o p R y]) (o:=o) (h g L7) rfl rfl;have q:jh (jQ je 0 "is_missed" (pV 2) #[pV 1]) [some<|.str g.1,some<|.str g.2,some<|jB o p R y]=some (mis y g.2):=by
   rw[jh,m];rfl
  rw[L5,jD,a,L4,q,L4,e];unfold drn;rw[List.filter_cons];cases h:mis y g.2<;>simp[h]
theorem K5:∀{S:List Qt}{o0 o1:Option D},(∀ q∈S,q.1∈nC p/\q.1∈(gr p).1)->jS (gT 2<|gC (jd [] 0)<|gC (jd [] 1) gN) qT (vN #[pF<|pV 0,jQ jo 0 "days_behind" (pV 2) #[pV 0,pV 1]]) (S.map jI) [o0,o1,some<|jB o p R y]=some (obR p S y)
 | [],_,_,_=>rfl
 | q::S,o0,o1,h=>by
  have e:=K5 (S:=S) (o0:=some<|.str q.1) (o1:=some<|.int q.2) λg a=>h g<|L6 _ a;have a:(gT 2<|gC (jd [] 0)<|gC (jd [] 1) gN) (jI q) [o0,o1,some<|jB o p R y]=some [some<|.str q.1,some<|.int q.2,some<|jB o p R y]:=rfl;have m:jQ jo 0 "days_behind" (pV 2) #[pV 0,pV 1] [some<|.str q.1,some<|.int q.2,some<|jB o p R y]=some (.int<|if mis y q.1 then mn (q.2+1) ((gr p).2 q.1) else 0):=
   VR rfl (ds:=[.str q.1,.int q.2]) rfl (λ_ _ _ _ _ _ _ _ _=>rfl) (jgo (h q L7).1 (h q L7).2) rfl
  rw[L5,jD,a,L4];unfold obR at *;rw[L5,L5];generalize(S.map<|jkt p y).map jI=SS at *;generalize jB o p R y=I at *;simp[m,e,jkt,jI,jc,-jQ]
theorem Vd:∀{N:List WN}{o0:Option D},(∀ n∈N,n∈nC p)->jS (jd [] 0) qT (zQ (p2 vU (vP 0 "alive"<|pV 1)<|pV 0)<|p2 (YK true) (pV 0)<|vP 0 "repaid"<|pV 1) (N.map D.str) [o0,some<|jB o p R y]=some (N.map λn=>D.bl<|y.al n&&!decide (n∈y.rp))
 | [],_,_=>rfl
 | n::N,o0,h=>by
  have e:=Vd (N:=N) (o0:=some<|.str n) λg a=>h g<|L6 _ a;have a:jd [] 0 (.str n) [o0,some<|jB o p R y]=some [some<|.str n,some<|jB o p R y]:=rfl;have b:=Vq (o:=o) (f:=λn=>D.bl<|y.al n)<|h n L7;have d:=jbG (o:=o) (neg:=true) (N:=y.rp) (f:=λ_=>D.bl true) (c:=n);have i:=fo5 (p:=p) (R:=R) (y:=y) (o:=o);have j:=fo8 (p:=p) (R:=R) (y:=y) (o:=o);rw[L5,jD,a,L4,L5];generalize(N.map λn=>D.bl<|y.al n&&!decide (n∈y.rp))=NN at *;generalize jB o p R y=I at *;unfold bd td at *;generalize gd o (nC p) (λn=>D.bl<|y.al n)=A,gd o y.rp (λ_=>D.bl true)=S at *;cases q:y.al n<;>simp[i,j,b,d,e,q]
theorem K0{T:List WN}{o':Bool}:∀{N:List WN}{o0:Option D},(∀ n∈N,n∈nP p)->jS (jd [] 0) qT (zQ (p2 vU (vP 0 "full"<|pV 1)<|pV 0)<|p2 (V6 true) (pV 0)<|pV 2) (N.map D.str) [o0,some<|jB o p R y,some<|.lst o'<|T.map D.str]=some (N.map λn=>D.bl<|y.fu n&&!decide (n∈T))
 | [],_,_=>rfl
 | n::N,o0,h=>by
  have e:=K0 (o':=o') (T:=T) (N:=N) (o0:=some<|.str n) λg a=>h g<|L6 _ a;have a:jd [] 0 (.str n) [o0,some<|jB o p R y,some<|.lst o'<|T.map D.str]=some [some<|.str n,some<|jB o p R y,some<|.lst o'<|T.map D.str]:=rfl;have b:=Vq (o:=o) (f:=λn=>D.bl<|y.fu n)<|h n L7;have c:=jge true o' n T;have d:=fo6 (p:=p) (R:=R) (y:=y) (o:=o);rw[L5,jD,a,L4,L5];generalize(N.map λn=>D.bl<|y.fu n&&!decide (n∈T))=NN at *;generalize jB o p R y=I,T.map D.str=TT at *;unfold bd at *;generalize gd o (nP p) (λn=>D.bl<|y.fu n)=A at *;cases q:y.fu n<;>simp[d,b,c,e,q]
def jcb(h:PlOk p)(s:R.map (·.1)=(gr p).1):jp [jB false p R y]=some (ob p R y):=by
 have a:=wj h;have v:R.length<=2:=by
  have:=congrArg List.length s;rw[L1] at this;have:=a.l;omega
 have g6:=h.g6;have c6:=h.c;have p6:=h.p6;have b:∀ q∈R,q.1∈nC p/\q.1∈(gr p).1:=λq w=>by
  have m:q.1∈(gr p).1:=by rw[<- s];exact M5.mpr ⟨q,w,rfl⟩
  obtain⟨l,hl,e⟩:=a.i q.1 m;exact⟨e▸(h.l l hl).m,m⟩
 have x:=Va (p:=p) (R:=R) (y:=y) (o:=false) (G:=p.G) (o0:=none) (o1:=none) λg z=>(h.g g z).2.2;have A:=K5 (p:=p) (R:=R) (y:=y) (o:=false) (S:=R) (o0:=none) (o1:=none) b;have t:=Vd (p:=p) (R:=R) (y:=y) (o:=false) (N:=nC p) (o0:=none) λn d=>d;have u:=K0 (p:=p) (R:=R) (y:=y) (o:=false) (o':=true) (T:=drn p.G y) (N:=nP p) (o0:=none) λn d=>d;have B:frzs (obR p R y)=true:=jG _;have C:frzs (obA p y)=true:=yZ (nC p) λn=>y.al n&&!decide (n∈y.rp);have E:frzs (obF p y)=true:=yZ (nP p) λn=>y.fu n&&!decide (n∈drn p.G y);have F:lim (p.G.map qP).length=true:=jc (by rw[L1];omega);have l2:lim (R.map jI).length=true:=jc (by rw[L1];omega);have H:lim ((nC p).map D.str).length=true:=jc (by rw[L1,L1];omega);have J:lim ((nP p).map D.str).length=true:=jc (by rw[L1,L1];omega);have K:=qX p.G;have L:=jG R;have M:=jn<|nC p;have O:=jn<|nP p;have P:=fo0 (p:=p) (R:=R) (y:=y) (o:=false);have Q:=fo1 (p:=p) (R:=R) (y:=y) (o:=false);have U:=fo2 (p:=p) (R:=R) (y:=y) (o:=false);have V:=fo4 (p:=p) (R:=R) (y:=y) (o:=false);unfold ob;change jS _ _ _ _ _=some (obA p y) at t;change jS _ _ _ _ _=some (obF p y) at u;generalize jB false p R y=I at *;generalize(drn p.G y).map D.str=DR at *;generalize obR p R y=RR,obA p y=AA,obF p y=FF,p.G.map qP=GG,R.map jI=QQ at *;generalize(nC p).map D.str=CC at *;generalize(nP p).map D.str=PP at *;have f:jS (gT 2<|gC (jd [] 0)<|gC (jd [] 1) gN) (jh<|jQ je 0 "is_missed" (pV 2) #[pV 1]) (pF<|pV 0) GG (jO [none,none,some 0] [some I,none,none,none,none])=some DR:=x;have j:jS (gT 2<|gC (jd [] 0)<|gC (jd [] 1) gN) qT (vN #[pF<|pV 0,jQ jo 0 "days_behind" (pV 2) #[pV 0,pV 1]]) QQ (jO [none,none,some 0] [some I,↑DR,none,none,none])=some RR:=A;have k:jS (jd [] 0) qT (zQ (p2 vU (vP 0 "alive"<|pV 1)<|pV 0)<|p2 (YK true) (pV 0)<|vP 0 "repaid"<|pV 1) CC (jO [none,some 0] [some I,↑DR,↑RR,none,none])=some AA:=t;have r:jS (jd [] 0) qT (zQ (p2 vU (vP 0 "full"<|pV 1)<|pV 0)<|p2 (V6 true) (pV 0)<|pV 2) PP (jO [none,some 0,some 1] [some I,↑DR,↑RR,↑AA,none])=some FF:=u;simp[jp,jE,yr,P,Q,U,V,f,j,k,r,B,C,E,F,l2,H,J,K,L,M,O,jc,-jQ]
end
structure Ol where
 R:List Qt
 al:WN->Bool
 fu:WN->Bool
def jK(p:Pl)(o:Ol):D:=.tup [.tup<|o.R.map jI,.tup<|(nC p).map λn=>.bl<|o.al n,.tup<|(nP p).map λn=>.bl<|o.fu n]
def J0(p:Pl)(o:Ol):jq (jK p o) (.int 0)=some (.tup<|o.R.map jI):=rfl
def J1(p:Pl)(o:Ol):jq (jK p o) (.int 1)=some (.tup<|(nC p).map λn=>.bl<|o.al n):=rfl
def J2(p:Pl)(o:Ol):jq (jK p o) (.int 2)=some (.tup<|(nP p).map λn=>.bl<|o.fu n):=rfl
def P3(o:Bool)(p:Pl):jq (jb o p) (.int 3)=‹p.E.map D.str›:=rfl
def P6(p:Pl):jq (jb false p) (.int 6)=‹p.G.map qP›:=rfl
def jah(p:Pl)(o:Ol):frz (jK p o)=true:=by
 have a:=jG o.R;have b:=yZ (nC p) o.al;have c:=yZ (nP p) o.fu;show frz (D.tup [.tup<|o.R.map jI,.tup _,.tup _])=true;simp only[frz,frzs,a,b,c,Bool.and_self]
theorem jal(g:WN->D):∀ N:List WN,zpD (N.map D.str) (N.map g)=some (N.map λn=>(KA.str n,g n))
 | []=>rfl
 | n::N=>by rw[L5,L5,zpD,jal g N];rfl
def jg3{N:List WN}(h:N.Nodup):(N.map KA.str).Nodup:=by
 induction N with
 | nil=>exact List.nodup_nil
 | cons n N a=>
  obtain⟨b,c⟩:=List.nodup_cons.mp h;rw[L5];refine List.nodup_cons.mpr ⟨λz=>?_,a c⟩;obtain⟨m,hm,e⟩:=M5.mp z;exact b<|KA.str.inj e▸hm
def jcw{N:List WN}(h:N.Nodup)(g:WN->D):kx (N.map λn=>(KA.str n,g n))=(N.map KA.str,N.map g):=by
 have:=qv (N.map λn=>(KA.str n,g n)) [] [] (by rw[X6,U1];exact jg3 h);unfold kx;rw[this,X6,X6,U1,U1];rfl
def jbO{o:Bool}{N:List WN}(h:N.Nodup)(hl:N.length<=1000)(f:WN->Bool):Yd [.lst o<|N.map D.str,.tup<|N.map λn=>.bl<|f n]=some (bd true N f):=by
 have a:=yZ N f;have e:(N.map λn=>(KA.str n,D.bl<|f n)).map (·.2)=N.map λn=>D.bl (f n):=by rw[U1];rfl
 rw[jbS,jal,L4,e,a,jc<|by rw[L1];omega,jcw h];rfl
section
variable {p:Pl}{R:List Qt}{y:Sy}{c:WN}{o:Ol}
theorem Qy:∀{C:List Cl}{o0:Option D},jS (jd [] 0) qT (pF<|p2 jq (pV 0)<|pI 0) (C.map kq) [o0]=some ((C.map (·.1)).map D.str)
 | [],_=>rfl
 | c::C,o0=>by
  have e:=Qy (C:=C) (o0:=some<|kq c);have a:jd [] 0 (kq c) [o0]=some [some<|kq c]:=rfl;have b:jq (kq c) (.int 0)=some (.str c.1):=rfl;rw[L5,jD,a,L4,L5,L5];generalize kq c=cc at *;simp[e,b]
theorem jbJ:∀{C:List Qt}{o0:Option D},jS (jd [] 0) qT (pF<|p2 jq (pV 0)<|pI 0) (C.map jI) [o0]=some ((C.map (·.1)).map D.str)
 | [],_=>rfl
 | c::C,o0=>by
  have e:=jbJ (C:=C) (o0:=some<|jI c);have a:jd [] 0 (jI c) [o0]=some [some<|jI c]:=rfl;have b:jq (jI c) (.int 0)=some (.str c.1):=rfl;rw[L5,jD,a,L4,L5,L5];generalize jI c=cc at *;simp[e,b]
def vZ{f:Str}{pv:PF}{r:Rh}{ns ns':List Str}{l l':List D}{v:D}(a:pv (some (.ins true 0 ns l)::r)=some v)(h:kF ns l f v=(ns',l'))(hn:ns.length<=900):vM 0 0 f pv (some (.ins true 0 ns l)::r)=some (.nx<|some (.ins true 0 ns' l')::r):=by
 rw[vM,a,L4];show(bif (0==0)&&decide (ns.length<=900) then some (Out.nx<|some (D.ins true 0 (kF ns l f v).1 (kF ns l f v).2)::r) else none)=_;rw[h,X1 hn];rfl
noncomputable abbrev I6(a0 a1 a2 a3 a4 a5:D):D:=.ins true 0 ["claims","pots","guards","greatest","runs","alive"] [a0,a1,a2,a3,a4,a5]
def jfM(w:WN)(f:WN->Bool):(λn=>if n=w then D.bl false else D.bl (f n))=λn=>D.bl (if n=w then false else f n):=by
 funext n;split<;>rfl
noncomputable def kil(al:WN->Bool)(K:List WN)(n:WN):Bool:=al n&&!decide (n∈K)
theorem K9{a0 a1 a2 a3 a4:D}{b1 b2 b3:Option D}{N:List WN}(a:N.length<=1000):∀{K:List WN}{al:WN->Bool}{o4:Option D},(∀ k∈K,k∈N) ->
  ∃ o4',yU (jd [0] 4) jN (K.map D.str) [some<|I6 a0 a1 a2 a3 a4<|bd true N al,b1,b2,b3,o4]=some (.nx [some<|I6 a0 a1 a2 a3 a4<|bd true N<|kil al K,b1,b2,b3,o4'])
 | [],al,o4,_=>⟨o4,by rw[show kil al []=al by funext n;simp[kil]];rfl⟩
 | k::K,al,o4,h=>by
  obtain⟨o4',e⟩:=K9 (a0:=a0) (a1:=a1) (a2:=a2) (a3:=a3) (a4:=a4) (b1:=b1) (b2:=b2) (b3:=b3) a (K:=K) (al:=λn=>if n=k then false else al n) (o4:=some<|.str k) λx c=>h x<|L6 _ c;have d:jd [0] 4 (.str k) [some<|I6 a0 a1 a2 a3 a4<|bd true N al,b1,b2,b3,o4]=some [some<|I6 a0 a1 a2 a3 a4<|bd true N al,b1,b2,b3,some<|.str k]:=rfl;have g:jN [some<|I6 a0 a1 a2 a3 a4<|bd true N al,b1,b2,b3,some<|.str k]=some (.nx [some<|I6 a0 a1 a2 a3 a4<|bd true N λn=>if n=k then false else al n,b1,b2,b3,some<|.str k]):=by
   have:=zy (ρ:=[some<|I6 a0 a1 a2 a3 a4<|bd true N al,b1,b2,b3,some<|.str k]) (i:=0) (L:=YG 0 "alive" Jc) (pk:=pV 4) (t:=I6 a0 a1 a2 a3 a4<|bd true N al) (N:=N) (f:=λn=>.bl<|al n) (kk:=λz=>I6 a0 a1 a2 a3 a4 z) (w:=k) (b:=false) rfl rfl rfl a;rw[jfM,show qe N k=N from if_pos (h k L7)] at this;exact this
  refine⟨o4',?_⟩;rw[L5,yb,d,L4,g,L4,vn,e];have:kil (λn=>if n=k then false else al n) K=kil al (k::K):=by
   funext n
   unfold kil;by_cases q:n=k<;>simp[q]
  rw[this]
def jba(N:List WN)(f:WN->Int):yx (dct true N f)=true:=by
 have:jw (N.map λn=>D.int<|f n)=true:=by rw[jU,List.all_map,List.all_eq_true];intro x _;rfl
 show(true&&jw _)=true;rw[this];rfl
def jhp(h:PlOk p){K:List WN}(q:∀ k∈K,k∈nC p):jH [.ins true 0 [] [],jb false p,jK p o,.lst false<|K.map D.str]=some (.non,jB true p o.R ⟨kil o.al K,o.fu,[],[]⟩):=by
 have c6:=h.c;have p6:=h.p6;have s:lim (p.C.map kq).length=true:=jc (by rw[L1];omega);have t:lim (p.P.map jI).length=true:=jc (by rw[L1];omega);have u:=kY p.C;have w:=jG p.P;have y:=qX p.G;have z:=jG o.R;have A:=jn K;have B:=jV K;have E:=JX h;have F:=jba (gr p).1 (gr p).2;have H:=jbO (o:=true) h.cN (by rw[L1];omega) o.al;have J:=jbO (o:=true) h.pN (by rw[L1];omega) o.fu;have L:=Qy (C:=p.C) (o0:=none);have M:=jbJ (C:=p.P) (o0:=none);have O:=P1 false p;have Q:=P2 false p;have S:=P6 p;have T:=J0 p o;have U:=J1 p o;have V:=J2 p o;have W:=yi p;have e:=vh _ W;obtain⟨g,X⟩:=K9 (a0:=.lst true<|(nC p).map D.str) (a1:=.lst true<|(nP p).map D.str) (a2:=.lst false<|p.G.map qP) (a3:=dct true (gr p).1 (gr p).2) (a4:=.tup<|o.R.map jI) (b1:=some<|jb false p) (b2:=some<|jK p o) (b3:=‹K.map D.str›) (N:=nC p) (by rw[L1];omega) (K:=K) (al:=o.al) (o4:=none) q;show _=some (D.non,D.ins true 0 FN [.lst true<|(nC p).map D.str,.lst true<|(nP p).map D.str,.lst false<|p.G.map qP,dct true (gr p).1 (gr p).2,.tup<|o.R.map jI,bd true (nC p)<|kil o.al K,bd true (nP p) o.fu,.dK true [] [],.dK true [] []]);generalize bd true (nC p) (kil o.al K)=aK,bd true (nC p) o.al=a5,bd true (nP p) o.fu=a6,dct true (gr p).1 (gr p).2=a3 at *;generalize((nC p).map λn=>D.bl<|o.al n)=B1 at *;generalize((nP p).map λn=>D.bl<|o.fu n)=B2 at *;generalize Y:(nC p).map D.str=CC at *;generalize Z:(nP p).map D.str=PP,jb false p=EP,jK p o=EO,p.G.map qP=GG,o.R.map jI=RR,p.C.map kq=XC,p.P.map jI=XP,K.map D.str=KK at *;have i:jS (jd [] 0) qT (pF<|p2 jq (pV 0)<|pI 0) XC [none]=some CC:=L;have j:jS (jd [] 0) qT (pF<|p2 jq (pV 0)<|pI 0) XP [none]=some PP:=M
 let r:Rh:=[some EP,some EO,‹KK›,none]
 let b:Rh:=[some EP,some EO,‹KK›,g]
 have a:r=[some EP,some EO,‹KK›,none]:=rfl;have d:b=[some EP,some EO,‹KK›,g]:=rfl;have m:∀ x:Option D,jO [none] (x::r)=[none]:=λ_=>rfl;have s0:=vZ (f:="claims") (pv:=yB (JD<|p2 jq (pV 1)<|pI 1) (jd [] 0) qT (pF<|p2 jq (pV 0)<|pI 0) [none]) (r:=r) (ns:=[]) (l:=[]) (ns':=["claims"]) (l':=[.lst true CC]) (v:=.lst true CC) (by rw[yB,m];rw[a];simp[O,u,s,i]) rfl (by decide);have s1:=vZ (f:="pots") (pv:=yB (JD<|p2 jq (pV 1)<|pI 2) (jd [] 0) qT (pF<|p2 jq (pV 0)<|pI 0) [none]) (r:=r) (ns:=["claims"]) (l:=[.lst true CC]) (ns':=["claims","pots"]) (l':=[.lst true CC,.lst true PP]) (v:=.lst true PP) (by rw[yB,m];rw[a];simp[Q,w,t,j]) rfl (by decide);have s2:=vZ (f:="guards") (pv:=pF<|p2 jq (pV 1)<|pI 6) (r:=r) (ns:=["claims","pots"]) (l:=[.lst true CC,.lst true PP]) (ns':=["claims","pots","guards"]) (l':=[.lst true CC,.lst true PP,.lst false GG]) (v:=.lst false GG) (by rw[a];simp[S,y]) rfl (by decide);have s3:=vZ (f:="greatest") (pv:=jL ya #[pV 1]) (r:=r) (ns:=["claims","pots","guards"]) (l:=[.lst true CC,.lst true PP,.lst false GG]) (ns':=["claims","pots","guards","greatest"]) (l':=[.lst true CC,.lst true PP,.lst false GG,a3]) (v:=a3) (by rw[a];simp[E,F,e]) rfl (by decide);have s4:=vZ (f:="runs") (pv:=pF<|p2 jq (pV 2)<|pI 0) (r:=r) (ns:=["claims","pots","guards","greatest"]) (l:=[.lst true CC,.lst true PP,.lst false GG,a3]) (ns':=["claims","pots","guards","greatest","runs"]) (l':=[.lst true CC,.lst true PP,.lst false GG,a3,.tup RR]) (v:=.tup RR) (by rw[a];simp[T,z]) rfl (by decide);have s5:=vZ (f:="alive") (pv:=pCB Yd #[vP 0 "claims"<|pV 0,p2 jq (pV 2)<|pI 1]) (r:=r) (ns:=["claims","pots","guards","greatest","runs"]) (l:=[.lst true CC,.lst true PP,.lst false GG,a3,.tup RR]) (ns':=["claims","pots","guards","greatest","runs","alive"]) (l':=[.lst true CC,.lst true PP,.lst false GG,a3,.tup RR,a5]) (v:=a5) (by rw[a];simp[U,H,show YZ ["claims","pots","guards","greatest","runs"] [D.lst true CC,D.lst true PP,D.lst false GG,a3,D.tup RR] "claims" = ↑CC from rfl]) rfl (by decide);have s6:YE (pIt<|pF<|pV 3) (jd [0] 4) jN (some (I6 (.lst true CC) (.lst true PP) (.lst false GG) a3 (.tup RR) a5)::r)=some (.nx<|some (I6 (.lst true CC) (.lst true PP) (.lst false GG) a3 (.tup RR) aK)::b):=by
  rw[a,d];generalize hI:I6 (.lst true CC) (.lst true PP) (.lst false GG) a3 (.tup RR) a5=I at *;simp[A,B,X]
 have s7:=vZ (f:="full") (pv:=pCB Yd #[vP 0 "pots"<|pV 0,p2 jq (pV 2)<|pI 2]) (r:=b) (ns:=["claims","pots","guards","greatest","runs","alive"]) (l:=[.lst true CC,.lst true PP,.lst false GG,a3,.tup RR,aK]) (ns':=["claims","pots","guards","greatest","runs","alive","full"]) (l':=[.lst true CC,.lst true PP,.lst false GG,a3,.tup RR,aK,a6]) (v:=a6) (by rw[d];simp[V,J,show YZ ["claims","pots","guards","greatest","runs","alive"] [D.lst true CC,D.lst true PP,D.lst false GG,a3,D.tup RR,aK] "pots" = ↑PP from rfl]) rfl (by decide);have s8:=vZ (f:="served") (pv:=pC<|.dK true [] []) (r:=b) (ns:=["claims","pots","guards","greatest","runs","alive","full"]) (l:=[.lst true CC,.lst true PP,.lst false GG,a3,.tup RR,aK,a6]) (ns':=["claims","pots","guards","greatest","runs","alive","full","served"]) (l':=[.lst true CC,.lst true PP,.lst false GG,a3,.tup RR,aK,a6,.dK true [] []]) (v:=.dK true [] []) rfl rfl (by decide);have s9:=vZ (f:="repaid") (pv:=pC<|.dK true [] []) (r:=b) (ns:=["claims","pots","guards","greatest","runs","alive","full","served"]) (l:=[.lst true CC,.lst true PP,.lst false GG,a3,.tup RR,aK,a6,.dK true [] []]) (ns':=FN) (l':=[.lst true CC,.lst true PP,.lst false GG,a3,.tup RR,aK,a6,.dK true [] [],.dK true [] []]) (v:=.dK true [] []) rfl rfl (by decide);have e0:jH [.ins true 0 [] [],EP,EO,.lst false KK]=(yo<|some (.ins true 0 [] [])::r).bind (jdI 0):=rfl;rw[e0];unfold yo;simp only[Jt,s0,s1,s2,s3,s4,s5,s6,s7,s8,s9,L4,je5];rfl
end
noncomputable def stp(k c:Int)(d:D):D:=.tup [.int k,.int c,d]
def run(p:Pl)(R:List Qt)(kl:Int):List Rl->Nat->Sy->List D×Sy
 | [],_,y=>([],y)
 | r::rs,k,y=>bif nd y r then(stp kl (k:Int) (ob p R y)::(run p R kl rs (k+1)<|fl y r).1,(run p R kl rs (k+1)<|fl y r).2) else run p R kl rs (k+1) y
def fst(y:Sy):List Rl->Nat->Option Nat
 | [],_=>none
 | r::rs,k=>bif nd y r then some k else fst y rs (k+1)
def stW(p:Pl)(R:List Qt)(ten:Bool)(kl:Int)(rs:List Rl)(y:Sy):List D:=
 bif ten then [stp kl (((fst y rs 0).getD rs.length:Nat):Int)<|ob p R y] else(run p R kl rs 0 y).1++[stp kl (rs.length:Int)<|ob p R (run p R kl rs 0 y).2]
def kT(N:List WN)(f:WN->Bool):jw (N.map λn=>D.bl<|f n)=true:=by rw[jU,List.all_map,List.all_eq_true];intro x _;rfl
def xH(N:List Qt):jw (N.map jI)=true:=by rw[jU,List.all_map,List.all_eq_true];intro x _;rfl
def z9(p:Pl)(R:List Qt)(y:Sy):yx (ob p R y)=true:=by
 have a:jw (obR p R y)=true:=xH _;have b:jw (obA p y)=true:=kT _ _;have c:jw (obF p y)=true:=kT _ _;unfold ob;simp only[yx,jw,a,b,c,Bool.and_self]
def jh5(p:Pl)(R:List Qt)(y:Sy):frz (ob p R y)=true:=by
 have a:frzs (obR p R y)=true:=jG _;have b:frzs (obA p y)=true:=yZ (nC p) λn=>y.al n&&!decide (n∈y.rp);have c:frzs (obF p y)=true:=yZ (nP p) λn=>y.fu n&&!decide (n∈drn p.G y);unfold ob;simp only[frz,frzs,a,b,c,Bool.and_self]
theorem xK:∀{Q:List Qt}{o0:Option D},jS (jd [] 0) qT (pF<|p2 jq (pV 0)<|pI 1) (Q.map jI) [o0]=some ((Q.map (·.2)).map D.int)
 | [],_=>rfl
 | c::C,o0=>by
  have e:=xK (Q:=C) (o0:=some<|jI c);have a:jd [] 0 (jI c) [o0]=some [some<|jI c]:=rfl;have b:jq (jI c) (.int 1)=some (.int c.2):=rfl;rw[L5,jD,a,L4,L5,L5];generalize jI c=cc at *;simp[e,b]
def jdq(l:List Int):Kf (l.map D.int)=some l:=by
 induction l with
 | nil=>rfl
 | cons a l b=>simp[Kf,b]
noncomputable def jci(Q:List Qt):Int:=(Q.map (·.2)).sum
def KJ{Q:List Qt}(h:Q.length<=1000):vY [.lst false<|Q.map jI]=some (.int<|jci Q):=by
 have e:=xK (Q:=Q) (o0:=none);have a:=jdq (Q.map (·.2));have f:=jG Q;have l:lim (Q.map jI).length=true:=jc (by rw[L1];omega);unfold jci;generalize Q.map jI=QQ at *;generalize c:(Q.map (·.2)).map D.int=NN at *;have b:jS (jd [] 0) qT (pF<|p2 jq (pV 0)<|pI 1) QQ (jO [none] [‹QQ›])=some NN:=e;simp[vY,jE,J7,b,f,l,a]
section
variable {p:Pl}{R:List Qt}{y:Sy}{a0 a2 a4:Option D}{x:Od}{kl:Int}
def Vy{r:Rl}(a:xB (nC p) (nP p) r){ρ:Rh}{po pa:PF}{o:Bool}(h0:po ρ=some (jB o p R y))(h1:pa ρ=some (jF r)):jQ jm 0 "needs" po #[pa] ρ=some (.bl<|nd y r):=
 VR h0 (ds:=[jF r]) (by simp[h1]) (λ_ _ _ _ _ _ _ _ _=>rfl) (by rw[show fzs [jF r]=[jF r] by rw[fzs,vh _<|JN r];rfl];exact jcR a) rfl
def qC(h:PlOk p)(a:R.map (·.1)=(gr p).1){ρ:Rh}{po:PF}{o:Bool}(h0:po ρ=some (jB o p R y)):jQ jp 0 "outline_behind" po pN ρ=some (ob p R y):=
 VR h0 (ds:=[]) rfl (λ_ _ _ _ _ _ _ _ _=>rfl) (jcb h a) (z9 p R y)
abbrev fr(a0:Option D)(x:Od)(a2:Option D)(kl:Int)(a4:Option D)(I:D)(S:List D)(o7 o8:Option D):Rh:=[a0,some<|jY false x,a2,some<|.int kl,a4,some I,↑S,o7,o8]
def O1(o:Bool)(x:Od):jq (jY o x) (.int 1)=‹x.2.1.map jI›:=rfl
def O2(o:Bool)(x:Od):jq (jY o x) (.int 2)=some (.lst o<|x.2.2.map jF):=rfl
def jcc{r:Rl}(a:xB (nC p) (nP p) r)(hn:nd y r=false){S:List D}{k:Int}:
  jA (fr a0 x a2 kl a4 (jB true p R y) S (some<|.int k)<|some<|jF r)=some (.nx<|fr a0 x a2 kl a4 (jB true p R y) S (some<|.int k)<|some<|jF r):=by
 have m:=Vy (p:=p) (R:=R) (y:=y) a (ρ:=fr a0 x a2 kl a4 (jB true p R y) S (some<|.int k)<|some<|jF r) (po:=pV 5) (pa:=pV 8) rfl rfl;rw[hn] at m;unfold fr at *;generalize jB true p R y=I,jY false x=X,jF r=Y at *;simp[jA,m,-jQ]
def jcF(h:PlOk p)(j:R.map (·.1)=(gr p).1)(l:OrOk (nC p) (nP p) x)(s:jci x.2.1<10){r:Rl}(d:xB (nC p) (nP p) r)(hn:nd y r=true){S:List D}(u:S.length<=900){k:Int}(h1:y.sv.length<=900)(h2:y.rp.length<=900):
  jA (fr a0 x a2 kl a4 (jB true p R y) S (some<|.int k)<|some<|jF r)=some (.nx<|fr a0 x a2 kl a4 (jB true p R<|fl y r) (S++[stp kl k<|ob p R y]) (some<|.int k)<|some<|jF r):=by
 have m:=Vy (p:=p) (R:=R) (y:=y) d (ρ:=fr a0 x a2 kl a4 (jB true p R y) S (some<|.int k)<|some<|jF r) (po:=pV 5) (pa:=pV 8) rfl rfl;rw[hn] at m;have b:=qC (p:=p) (R:=R) (y:=y) h j (ρ:=fr a0 x a2 kl a4 (jB true p R y) S (some<|.int k)<|some<|jF r) (po:=pV 5) rfl;have t:=KJ (Q:=x.2.1) (by have:=l.p;omega);have n:=O1 false x;have e:=jG x.2.1;have o:=jf _ e;have f:=jfR (p:=p) (R:=R) (y:=y) h.p6 d hn h1 h2;have g:=jd6 (m:=ju) (mn:="fill") (pa:=#[pF<|pV 8]) (ρ:=fr a0 x a2 kl a4 (jB true p R y) (S++[stp kl k<|ob p R y]) (some<|.int k)<|some<|jF r) (i:=5) (ds:=[jF r]) (h0:=rfl) (by simp[JN r]) (by simp[JN r]) rfl;have q:kz ju 5 0 "fill" #[pF<|pV 8] (fr a0 x a2 kl a4 (jB true p R y) (S++[stp kl k<|ob p R y]) (some<|.int k)<|some<|jF r)=some (.non,fr a0 x a2 kl a4 (jB true p R<|fl y r) (S++[stp kl k<|ob p R y]) (some<|.int k)<|some<|jF r):=by
  refine g.trans ?_;show(ju [jB true p R y,jF r]).bind _=_;rw[f];rfl
 have a:lim S.length=true:=jc ∅;have c:¬ (10<=jci x.2.1):=by omega
 clear g;unfold fr stp at *;generalize jB true p R (fl y r)=I2,jB true p R y=I,jY false x=X,jF r=Y,ob p R y=B,x.2.1.map jI=QQ at *;simp[jA,m,b,n,e,o,t,c,a,q,jc,-jQ,-kz]
def jdA(h:PlOk p)(d:R.map (·.1)=(gr p).1)(e:OrOk (nC p) (nP p) x)(f:10<=jci x.2.1){r:Rl}(g:xB (nC p) (nP p) r)(hn:nd y r=true){S:List D}(l:S.length<=900){k:Int}:
  ∃ ρ',jA (fr a0 x a2 kl a4 (jB true p R y) S (some<|.int k)<|some<|jF r)=some (.rt (.lst true<|S++[stp kl k<|ob p R y]) ρ'):=by
 have m:=Vy (p:=p) (R:=R) (y:=y) g (ρ:=fr a0 x a2 kl a4 (jB true p R y) S (some<|.int k)<|some<|jF r) (po:=pV 5) (pa:=pV 8) rfl rfl;rw[hn] at m;have b:=qC (p:=p) (R:=R) (y:=y) h d (ρ:=fr a0 x a2 kl a4 (jB true p R y) S (some<|.int k)<|some<|jF r) (po:=pV 5) rfl;have t:=KJ (Q:=x.2.1) (by have:=e.p;omega);have i:=O1 false x;have c:=jG x.2.1;have j:=jf _ c;have a:lim S.length=true:=jc ∅;unfold fr stp at *;generalize jB true p R y=I,jY false x=X,jF r=Y,ob p R y=B,x.2.1.map jI=QQ at *;refine⟨[a0,some X,a2,some<|.int kl,a4,some I,none,some<|.int k,some Y],?_⟩;simp[jA,m,b,i,c,j,t,f,a,jc,-jQ]
def jj8{r:Rl}(c:xB (nC p) (nP p) r)(y:Sy):(fl y r).sv.length<=y.sv.length+8/\(fl y r).rp.length<=y.rp.length+8:=by
 cases r with
 | two a x=>
  unfold fl;dsimp only;have:=JG y.sv x;have:=JG y.rp x;split
  ·exact⟨by show y.sv.length<=_;omega,by show y.rp.length<=_;omega⟩
  ·refine⟨by show(qe y.sv x).length<=_;omega,?_⟩;show(if a=ko then qe y.rp x else y.rp).length<=_;split<;>omega
 | many b=>
  have:=jc0 b y.sv;have:=c.1;exact⟨by show(b.foldl qe y.sv).length<=_;omega,by show y.rp.length<=_;omega⟩
 | lend a x v=>exact⟨by show y.sv.length<=_;omega,by show y.rp.length<=_;omega⟩
def hgE(k:Nat)(d:D)(I:D)(S:List D)(o7 o8:Option D):(gT 2<|gC (jd [] 7)<|gC (jd [] 8) gN) (.tup [.int (k:Int),d]) (fr a0 x a2 kl a4 I S o7 o8)=some (fr a0 x a2 kl a4 I S (some<|.int (k:Int))<|some d):=rfl
theorem VE(h:PlOk p)(b:R.map (·.1)=(gr p).1)(c:OrOk (nC p) (nP p) x)(d:jci x.2.1<10):∀{rs:List Rl}{k:Nat}{y:Sy}{S:List D}{o7 o8:Option D},(∀ r∈rs,xB (nC p) (nP p) r)->S.length+rs.length<=900->y.sv.length+8*rs.length<=900->y.rp.length+8*rs.length<=900 ->
  ∃ o7' o8',yU (gT 2<|gC (jd [] 7)<|gC (jd [] 8) gN) jA (yC k<|rs.map jF) (fr a0 x a2 kl a4 (jB true p R y) S o7 o8)=some (.nx<|fr a0 x a2 kl a4 (jB true p R (run p R kl rs k y).2) (S++(run p R kl rs k y).1) o7' o8')
 | [],k,y,S,o7,o8,_,_,_,_=>⟨o7,o8,by rw[show S++(run p R kl [] k y).1=S from M9 _];rfl⟩
 | r::rs,k,y,S,o7,o8,f,i,j,l=>by
  have a:=f r L7;rw[M1] at i j l;rw[L5,yC,yb,hgE,L4];cases hn:nd y r with
  | false=>
   obtain⟨o7',o8',e⟩:=VE h b c d (rs:=rs) (k:=k+1) (y:=y) (S:=S) (o7:=some<|.int (k:Int)) (o8:=some<|jF r) (λq g=>f q<|L6 _ g) ∅ ∅ ∅;refine⟨o7',o8',?_⟩;rw[jcc a hn,L4,vn,e,run,hn];rfl
  | true=>
   have:=jj8 a y;obtain⟨o7',o8',e⟩:=VE h b c d (rs:=rs) (k:=k+1) (y:=fl y r) (S:=S++[stp kl (k:Int)<|ob p R y]) (o7:=some<|.int (k:Int)) (o8:=some<|jF r) (λq g=>f q<|L6 _ g) (by simp;omega) ∅ ∅;refine⟨o7',o8',?_⟩;rw[jcF h b c d a hn ∅ ∅ ∅,L4,vn,e,run,hn,List.append_assoc];rfl
theorem Vo(h:PlOk p)(b:R.map (·.1)=(gr p).1)(c:OrOk (nC p) (nP p) x)(d:10<=jci x.2.1){S:List D}(f:S.length<=900):∀{rs:List Rl}{k:Nat}{o7 o8:Option D},(∀ r∈rs,xB (nC p) (nP p) r) ->
  (fst y rs k=none/\∃ o7' o8',yU (gT 2<|gC (jd [] 7)<|gC (jd [] 8) gN) jA (yC k<|rs.map jF) (fr a0 x a2 kl a4 (jB true p R y) S o7 o8)=some (.nx<|fr a0 x a2 kl a4 (jB true p R y) S o7' o8')) \/
  ∃ j ρ',fst y rs k=some j/\yU (gT 2<|gC (jd [] 7)<|gC (jd [] 8) gN) jA (yC k<|rs.map jF) (fr a0 x a2 kl a4 (jB true p R y) S o7 o8)=some (.rt (.lst true<|S++[stp kl (j:Int)<|ob p R y]) ρ')
 | [],k,o7,o8,_=>.inl ⟨rfl,o7,o8,rfl⟩
 | r::rs,k,o7,o8,g=>by
  have a:=g r L7;rw[L5,yC,yb,hgE,L4,fst];cases hn:nd y r with
  | false=>
   rw[jcc a hn,L4,vn];exact Vo h b c d f (rs:=rs) (k:=k+1)<|λq i=>g q<|L6 _ i
  | true=>
   obtain⟨ρ',e⟩:=jdA (a0:=a0) (a2:=a2) (a4:=a4) (kl:=kl) h b c d a hn f (k:=(k:Int));exact .inr ⟨k,ρ',rfl,by rw[e];rfl⟩
end
structure OlOk(p:Pl)(o:Ol):Prop where
 r:o.R.map (·.1)=(gr p).1
def Vm{a b:List D}(h1:jw a=true)(h2:jw b=true):jw (a++b)=true:=by
 rw[jU] at *;rw[List.all_append,h1,h2];rfl
def VS{a b:List D}(h1:frzs a=true)(h2:frzs b=true):frzs (a++b)=true:=by
 rw[qN] at *;rw[List.all_append,h1,h2];rfl
def jbb(p:Pl)(R:List Qt)(y:Sy)(k c:Int):yx (stp k c<|ob p R y)=true/\frz (stp k c<|ob p R y)=true:=by
 unfold stp;simp only[yx,jw,frz,frzs,z9,jh5,Bool.and_self,and_self]
theorem zE(p:Pl)(R:List Qt)(kl:Int):∀(rs:List Rl) (k:Nat) (y:Sy),jw (run p R kl rs k y).1=true/\frzs (run p R kl rs k y).1=true/\(run p R kl rs k y).1.length<=rs.length
 | [],_,_=>⟨rfl,rfl,M8 _⟩
 | r::rs,k,y=>by
  rw[run];cases nd y r with
  | true=>
   have:=zE p R kl rs (k+1)<|fl y r;have q:=jbb p R y kl (k:Int);simp only[cond_true,jw,frzs,this.1,this.2.1,q.1,q.2,Bool.and_self,M1,true_and];omega
  | false=>
   have:=zE p R kl rs (k+1) y;exact⟨this.1,this.2.1,by simp only[cond_false,M1];omega⟩
def jeI(p:Pl)(R:List Qt)(ten:Bool)(kl:Int)(rs:List Rl)(y:Sy):jw (stW p R ten kl rs y)=true/\frzs (stW p R ten kl rs y)=true/\(stW p R ten kl rs y).length<=rs.length+1:=by
 unfold stW;cases ten with
 | true=>
  have q:=jbb p R y kl (((fst y rs 0).getD rs.length:Nat):Int);simp only[cond_true,jw,frzs,q.1,q.2,Bool.and_self,M1,List.length_nil,true_and];omega
 | false=>
  have:=zE p R kl rs 0 y;have q:=jbb p R (run p R kl rs 0 y).2 kl (rs.length:Int);refine⟨Vm this.1<|by simp only[jw,q.1,Bool.and_self],VS this.2.1<|by simp only[frzs,q.2,Bool.and_self],?_⟩;simp only[cond_false,N4,M1,List.length_nil];omega
def ten(x:Od):Bool:=decide<|10<=jci x.2.1
section
variable {p:Pl}{o:Ol}{x:Od}{kl:Int}{K:List WN}
def jdD(l:List Rl):J9 [.lst false<|l.map jF]=some (yC 0<|l.map jF):=by
 show some (yC 0<|fzs<|l.map jF)=_;rw[jf _<|va l]
def VB(h:PlOk p)(m:OlOk p o)(d:OrOk (nC p) (nP p) x)(z:∀ k∈K,k∈nC p):
  ym [jb false p,jY false x,jK p o,.int kl,.lst false<|K.map D.str]=↑(stW p o.R (ten x) kl x.2.2 ⟨kil o.al K,o.fu,[],[]⟩):=by
 have A:=jhp (o:=o) h z;have u:=yi p;have v:=jah p o;have w:=jn K;have E:=qQ x;have n:=jdD x.2.2;have q:=va x.2.2;have s:=O2 false x;have C:=d.r;have f:(((x.2.2.map jF).length:Nat):Int)=(x.2.2.length:Int):=by rw[L1]
 have a:YI jH 0 #[pF<|pV 0,pF<|pV 2,pF<|pV 4] [some<|jb false p,some<|jY false x,some<|jK p o,some<|.int kl,‹K.map D.str›,none,none,none,none]=some (jB true p o.R ⟨kil o.al K,o.fu,[],[]⟩):=by
  rw[YI];have:#[pF<|pV 0,pF<|pV 2,pF<|pV 4] [some<|jb false p,some<|jY false x,some<|jK p o,some<|.int kl,‹K.map D.str›,none,none,none,none]=some [jb false p,jK p o,.lst false<|K.map D.str]:=by simp[u,v,w]
  rw[this,L4,A];simp[u,v,w]
 have g:∀ S:List D,S.length<=900->lim S.length=true:=λS F=>jc ∅;cases ht:ten x with
 | false=>
  have c:jci x.2.1<10:=by have:=of_decide_eq_false ht;omega
  obtain⟨i,l,e⟩:=VE (a0:=some<|jb false p) (a2:=some<|jK p o) (a4:=‹K.map D.str›) (kl:=kl) h m.r d c (rs:=x.2.2) (k:=0) (y:=⟨kil o.al K,o.fu,[],[]⟩) (S:=[]) (o7:=none) (o8:=none) d.k (by simp;omega) (by simp;omega) (by simp;omega);rw[X6] at e;have hl:=g _<|N7 (zE p o.R kl x.2.2 0 ⟨kil o.al K,o.fu,[],[]⟩).2.2 ∅;have b:=qC (p:=p) (R:=o.R) (y:=(run p o.R kl x.2.2 0 ⟨kil o.al K,o.fu,[],[]⟩).2) h m.r (ρ:=fr (some<|jb false p) x (some<|jK p o) kl (‹K.map D.str›) (jB true p o.R (run p o.R kl x.2.2 0 ⟨kil o.al K,o.fu,[],[]⟩).2) (run p o.R kl x.2.2 0 ⟨kil o.al K,o.fu,[],[]⟩).1 i l) (po:=pV 5) rfl;unfold stW stp;unfold fr at *;rw[cond_false];generalize run p o.R kl x.2.2 0 ⟨kil o.al K,o.fu,[],[]⟩=Z at *;generalize jB true p o.R Z.2=I2,jB true p o.R ⟨kil o.al K,o.fu,[],[]⟩=I,ob p o.R Z.2=B,jb false p=EP,jK p o=EO,jY false x=EX,K.map D.str=KK,x.2.2.map jF=RR at *;simp[ym,jE,vB,a,s,q,n,e,f,b,hl,jc,-YI,-jQ]
 | true=>
  have c:10<=jci x.2.1:=X4 ht;rcases Vo (a0:=some<|jb false p) (a2:=some<|jK p o) (a4:=‹K.map D.str›) (kl:=kl) h m.r d c (S:=[]) (by simp) (rs:=x.2.2) (k:=0) (y:=⟨kil o.al K,o.fu,[],[]⟩) (o7:=none) (o8:=none) d.k with⟨t,i,l,e⟩ | ⟨j,G,t,e⟩
  ·have b:=qC (p:=p) (R:=o.R) (y:=⟨kil o.al K,o.fu,[],[]⟩) h m.r (ρ:=fr (some<|jb false p) x (some<|jK p o) kl (‹K.map D.str›) (jB true p o.R ⟨kil o.al K,o.fu,[],[]⟩) [] i l) (po:=pV 5) rfl;unfold stW stp;unfold fr at *;rw[cond_true,t];generalize jB true p o.R ⟨kil o.al K,o.fu,[],[]⟩=I,ob p o.R ⟨kil o.al K,o.fu,[],[]⟩=B,jb false p=EP,jK p o=EO,jY false x=EX,K.map D.str=KK,x.2.2.map jF=RR at *;simp[ym,jE,vB,a,s,q,n,e,f,b,jc,-YI,-jQ]
  ·unfold stW stp;unfold fr stp at e;rw[cond_true,t];generalize jB true p o.R ⟨kil o.al K,o.fu,[],[]⟩=I,ob p o.R ⟨kil o.al K,o.fu,[],[]⟩=B,jb false p=EP,jK p o=EO,jY false x=EX,K.map D.str=KK,x.2.2.map jF=RR at *;simp[ym,jE,vB,a,s,q,n,e,jc,-YI,-jQ]
theorem Vb{a0:Option D}{nm:WN}:∀{X:List Od}{o2:Option D}{x:Od}{t:List Od},X.filter (λx=>x.1==nm)=x::t ->
  ∃ r,yU (jd [] 2) yk (X.map<|jY false) [a0,some<|.str nm,o2]=some (.rt (jY false x) r)
 | [],_,_,_,h=>by cases h
 | z::X,o2,x,t,h=>by
  have a:=O0 false z;have b:=qQ z;have c:jd [] 2 (jY false z) [a0,some<|.str nm,o2]=some [a0,some<|.str nm,some<|jY false z]:=rfl;rw[List.filter_cons] at h;rw[L5,yb,c,L4];cases q:z.1==nm with
  | true=>
   rw[q] at h;cases h;refine⟨[a0,some<|.str nm,some<|jY false z],?_⟩;generalize jY false z=X at *;simp[yk,a,q,b]
  | false=>
   rw[q] at h;obtain⟨r,e⟩:=Vb (a0:=a0) (nm:=nm) (X:=X) (o2:=some<|jY false z) h;refine⟨r,?_⟩;have d:yk [a0,some<|.str nm,some<|jY false z]=some (.nx [a0,some<|.str nm,some<|jY false z]):=by
    generalize jY false z=Z at *;simp[yk,a,q]
   rw[d,L4,vn,e]
def zZ{nm:WN}{t:List Od}(h:p.X.filter (λx=>x.1==nm)=x::t):yt [jb false p,.str nm]=some (jY false x):=by
 obtain⟨r,e⟩:=Vb (a0:=some<|jb false p) (o2:=none) h;have b:=P4 false p;have a:=qF p.X;have c:=jf _ a;generalize jb false p=PP,jY false x=XX,p.X.map (jY false)=XS at *;simp[yt,jE,qK,b,a,c,e]
theorem K7{N:List WN}{f:WN->Int}{b0:Option D}:∀{L:List Lk}{q2 q3 q4:Option D},(∀ l∈L,l.1∈N/\∃ y∈p.X,y.1=l.2.2) ->
  (∃ q2' q3' q4',yU (gT 3<|gC (jd [] 2)<|gC (jd [] 3)<|gC (jd [] 4) gN) yj (L.map vH) [b0,some<|dct false N f,q2,q3,q4]=some (.nx [b0,some<|dct false N f,q2',q3',q4'])) \/
  ∃ nm x t r,p.X.filter (λx=>x.1==nm)=x::t/\yU (gT 3<|gC (jd [] 2)<|gC (jd [] 3)<|gC (jd [] 4) gN) yj (L.map vH) [b0,some<|dct false N f,q2,q3,q4]=some (.rt (.str nm) r)
 | [],q2,q3,q4,_=>.inl ⟨q2,q3,q4,rfl⟩
 | l::L,q2,q3,q4,h=>by
  obtain⟨hm,z,c,d⟩:=h l L7;have b:=jbX (o:=false) (f:=f) hm;have a:(gT 3<|gC (jd [] 2)<|gC (jd [] 3)<|gC (jd [] 4) gN) (vH l) [b0,some<|dct false N f,q2,q3,q4]=some [b0,some<|dct false N f,some<|.str l.1,some<|.int l.2.1,some<|.str l.2.2]:=rfl;rw[L5,yb,a,L4];by_cases q:l.2.1<=f l.1
  ·right
   obtain⟨x,t,e⟩:∃ x t,p.X.filter (λx=>x.1==l.2.2)=x::t:=by
    cases hh:p.X.filter (λx=>x.1==l.2.2) with
    | nil=>
     have m:z∈p.X.filter (λx=>x.1==l.2.2):=List.mem_filter.mpr ⟨c,by simp[d]⟩;rw[hh] at m;cases m
    | cons x t=>exact⟨x,t,rfl⟩
   refine⟨l.2.2,x,t,[b0,some<|dct false N f,some<|.str l.1,some<|.int l.2.1,some<|.str l.2.2],e,?_⟩;generalize dct false N f=A at *;simp[yj,b,q]
  ·have g:yj [b0,some<|dct false N f,some<|.str l.1,some<|.int l.2.1,some<|.str l.2.2]=some (.nx [b0,some<|dct false N f,some<|.str l.1,some<|.int l.2.1,some<|.str l.2.2]):=by
    generalize dct false N f=A at *;simp[yj,b,q]
   rw[g,L4,vn];exact K7 λl hl=>h l<|L6 _ hl
end
section
variable {p:Pl}{o:Ol}
def jhn{S:List Qt}(hn:(S.map (·.1)).Nodup)(hl:S.length<=1000):YV [.tup<|S.map jI]=some (dct true (S.map (·.1))<|fnOf S):=by
 have:=uz (o:=true) (S:=S) hn ∅;rw[jfV] at this;rw[VC];exact this
def jf6(h:PlOk p)(a:OlOk p o):(o.R.map (·.1)).Nodup/\o.R.length<=2:=by
 have b:=wj h;refine⟨by rw[a.r];exact b.n,?_⟩;have:=congrArg List.length a.r;rw[L1] at this;have:=b.l;omega
def jgi(h:PlOk p):∀ l∈p.L,l.1∈(gr p).1:=by
 have b:∀(L:List Lk) (S:Gw),(∀ c∈S.1,c∈(L.foldl grow S).1)/\∀ l∈L,l.1∈(L.foldl grow S).1:=by
  intro L
  induction L with
  | nil=>intro S;exact⟨λc a=>a,λl hl=>nomatch hl⟩
  | cons x L d=>
   intro S;have k:=d<|grow S x;have m:∀ c,c∈S.1\/c=x.1->c∈(grow S x).1:=λc a=>by
    unfold grow;dsimp only;by_cases q:x.1∈S.1
    ·rw[if_pos q];rcases a with a | rfl
     ·exact a
     ·exact q
    ·rw[if_neg q];simpa using a
   rw[X0];refine⟨λc a=>k.1 c<|m c<|.inl a,λl hl=>?_⟩;rcases M4.mp hl with rfl | hl
   ·exact k.1 _<|m _<|.inr rfl
   ·exact k.2 l hl
 exact(b p.L _).2
def jdr(h:PlOk p)(j:OlOk p o):∃ x∈p.X,∃ nm,yN [jb false p,jK p o]=some (.str nm)/\yt [jb false p,.str nm]=some (jY false x):=by
 obtain⟨u,G⟩:=jf6 h j;have hd:=jhn u ∅;have k:=J0 p o;have v:=P4 false p;have m:=P5 false p;have d:=kf p.L;have q:=jf _ d;have w:=yi p;have s:=vh _ w;have zd:fz (dct true (o.R.map (·.1))<|fnOf o.R)=dct false (o.R.map (·.1)) (fnOf o.R):=by
  show D.dK false _ (fzs _)=_;rw[jf _<|V0 _ _];rfl
 have hm:∀ l∈p.L,l.1∈o.R.map (·.1)/\∃ y∈p.X,y.1=l.2.2:=λl hl=>⟨by rw[j.r];exact jgi h l hl,(h.l l hl).n⟩;have x5:=h.x5;obtain⟨a,b,e⟩:∃ x b,p.X=x::b:=by
  cases hh:p.X with
  | nil=>have:=h.x1;rw[hh] at this;simp at this
  | cons x b=>exact⟨x,b,rfl⟩
 rcases K7 (p:=p) (f:=fnOf o.R) (b0:=some<|jb false p) (q2:=none) (q3:=none) (q4:=none) hm with⟨z,B,C,g⟩ | ⟨nm,x,t,r,c,g⟩
 ·have c:p.X.filter (λx=>x.1==a.1)=a::b.filter (λx=>x.1==a.1):=by rw[e,List.filter_cons,if_pos<|by simp]
  have E:jq (.lst false<|p.X.map<|jY false) (.int 0)=some (jY false a):=by rw[e,L5,jf4 (by decide)<|by rw[M1];omega];rfl
  have F:=O0 false a;have H:=qQ a;refine⟨a,by rw[e];exact L7,a.1,?_,zZ c⟩
  ·have i:yK [jb false p,dct false (o.R.map (·.1))<|fnOf o.R]=some (.str a.1):=by
    generalize jb false p=PP,jY false a=XX,p.X.map (jY false)=XS,p.L.map vH=LS,dct false (o.R.map (·.1)) (fnOf o.R)=A at *;simp[yK,jE,kL,m,d,q,g,v,E,F]
   generalize jb false p=PP,jK p o=OO,o.R.map jI=RR,dct true (o.R.map (·.1)) (fnOf o.R)=A at *;simp[yN,jE,Jn,k,hd,s,zd,i,-VC]
 ·refine⟨x,?_,nm,?_,zZ c⟩
  ·exact(List.mem_filter.mp (by rw[c];exact L7:x∈p.X.filter (λx=>x.1==nm))).1
  ·have i:yK [jb false p,dct false (o.R.map (·.1))<|fnOf o.R]=some (.str nm):=by
    generalize jb false p=PP,p.L.map vH=LS,dct false (o.R.map (·.1)) (fnOf o.R)=A at *;simp[yK,jE,kL,m,d,q,g]
   generalize jb false p=PP,jK p o=OO,o.R.map jI=RR,dct true (o.R.map (·.1)) (fnOf o.R)=A at *;simp[yN,jE,Jn,k,hd,s,zd,i,-VC]
noncomputable def die(p:Pl)(o:Ol):List WN:=p.E.filter o.al
def sy0(p:Pl)(o:Ol)(k:Nat):Sy:=⟨kil o.al<|(die p o).take k,o.fu,[],[]⟩
def Qa(p:Pl)(o:Ol)(x:Od)(n:Nat):List D:=(List.range n).flatMap λ(k:Nat)=>stW p o.R (ten x) (k:Int) x.2.2<|sy0 p o k
theorem zX{b:Bool}{N:List WN}{al:WN->Bool}:∀{E:List WN}{o0:Option D},(∀ n∈E,n∈N)->jS (jd [] 0) (jh<|p2 vU (pV 1)<|pV 0) (pF<|pV 0) (E.map D.str) [o0,some<|bd b N al]=some ((E.filter al).map D.str)
 | [],_,_=>rfl
 | n::E,o0,h=>by
  have e:=zX (b:=b) (N:=N) (al:=al) (E:=E) (o0:=some<|.str n) λg a=>h g<|L6 _ a;have a:jd [] 0 (.str n) [o0,some<|bd b N al]=some [some<|.str n,some<|bd b N al]:=rfl;have c:=Vq (o:=b) (f:=λn=>D.bl<|al n)<|h n L7;rw[L5,jD,a,L4,List.filter_cons];unfold bd at *;generalize gd b N (λn=>D.bl<|al n)=A at *;cases q:al n with
  | true=>
   rw[if_pos rfl,L5];generalize(E.filter al).map D.str=NN at *;simp[c,e,q]
  | false=>
   rw[if_neg<|by exact M3];generalize(E.filter al).map D.str=NN at *;simp[c,e,q]
theorem Qx(p:Pl)(o:Ol)(x:Od)(a:x.2.2.length<=5):∀ n,jw (Qa p o x n)=true/\frzs (Qa p o x n)=true/\(Qa p o x n).length<=6*n
 | 0=>⟨rfl,rfl,M8 _⟩
 | n+1=>by
  have i:=Qx p o x a n;have q:=jeI p o.R (ten x) (n:Int) x.2.2<|sy0 p o n;have e:Qa p o x (n+1)=Qa p o x n++stW p o.R (ten x) (n:Int) x.2.2 (sy0 p o n):=by
   unfold Qa;rw[List.range_succ,List.flatMap_append];simp
  rw[e];exact⟨Vm i.1 q.1,VS i.2.1 q.2.1,by rw[N4];omega⟩
def jbd(p:Pl)(o:Ol)(x:Od)(n:Nat):Qa p o x (n+1)=Qa p o x n++stW p o.R (ten x) (n:Int) x.2.2 (sy0 p o n):=by
 unfold Qa;rw[List.range_succ,List.flatMap_append];simp
def QF(h:PlOk p)(M:OlOk p o){x:Od}{nm:WN}(O:x∈p.X)(P:yN [jb false p,jK p o]=some (.str nm))(Q:yt [jb false p,.str nm]=some (jY false x)):
  yM [jb false p,jK p o]=↑(Qa p o x<|(die p o).length+1):=by
 have d:=h.x x O;have c6:=h.c;have T:=h.e;have dl:(die p o).length<=6:=N7 (List.length_filter_le ..) T;have g:=yi p;have z:=vh _ g;have l:=jah p o;have B:=vh _ l;have m:=qQ x;have U:=vh _ m;have V:lim (p.C.map kq).length=true:=jc (by rw[L1];omega);have W:lim (p.E.map D.str).length=true:=jc (by rw[L1];omega);have Y:=kY p.C;have Z:=jn p.E;have ec:=Qy (C:=p.C) (o0:=none);have zA:=jbO (o:=true) h.cN (by rw[L1];omega) o.al;have F:=zX (b:=true) (N:=nC p) (al:=o.al) (E:=p.E) (o0:=none) h.me;have j1:=P1 false p;have j3:=P3 false p;have k1:=J1 p o;have a:=kU (j:=((die p o).length:Int)+1) ∅ ∅;have s:((((die p o).map D.str).length:Nat):Int)=((die p o).length:Int):=by rw[L1]
 obtain⟨ρ',H,S,t,rfl,I⟩:=yS (G:=jd [] 6) (f:=Jq) (xs:=YN 0 (((die p o).length:Int)+1).toNat) (λi ρ=>∃(S:List D) (t:Option D),ρ=[some<|jb false p,some<|jK p o,some<|jY false x,some<|bd true (nC p) o.al,↑((die p o).map D.str),↑S,t]/\S=Qa p o x i) (by
  rintro i v ρ hv ⟨S,t,rfl,rfl⟩;obtain⟨rfl,hi⟩:=JJ hv;have u:=VY true (die p o) none<|some<|0+(i:Int);have ct:yz (die p o) none (some<|0+(i:Int))=(die p o).take i:=by rw[xI _ ∅];congr 1;omega
  rw[ct] at u;have J:=VB (o:=o) (x:=x) (kl:=(i:Int)) (K:=(die p o).take i) h M d λk hk=>h.me k (List.mem_filter.mp<|List.mem_of_mem_take hk).1;have q:=jeI p o.R (ten x) (i:Int) x.2.2<|sy0 p o i;have qa:=Qx p o x d.r i;have o5:=d.r;have zK:=jV<|(die p o).take i;refine⟨_,[some<|jb false p,some<|jK p o,some<|jY false x,some<|bd true (nC p) o.al,↑((die p o).map D.str),↑(Qa p o x<|i+1),some<|.int<|0+(i:Int)],rfl,.inl ?_,Qa p o x<|i+1,_,rfl,rfl⟩;rw[jbd];have L:(0:Int)+(i:Int)=(i:Int):=by omega
  rw[L] at u;change ym _=↑(stW p o.R (ten x) (i:Int) x.2.2<|sy0 p o i) at J;refine jea (e:=.lst true<|stW p o.R (ten x) (i:Int) x.2.2<|sy0 p o i) ?_ (by show(bif frzs _ then _ else _)=_;rw[q.2.1];rfl) rfl ∅;have qc:=q.1;generalize stW p o.R (ten x) (i:Int) x.2.2 (sy0 p o i)=ST at *;generalize((die p o).take i).map D.str=TK at *;generalize(die p o).map D.str=DD at *;generalize jb false p=EP,jK p o=EO,jY false x=EX,Qa p o x i=AS at *;simp[u,z,B,U,g,l,m,zK,J,qc,L]) (ρ:=[some<|jb false p,some<|jK p o,some<|jY false x,some<|bd true (nC p) o.al,↑((die p o).map D.str),some<|.lst true [],none]) ⟨[],none,rfl,rfl⟩
 rw[vE,show(((die p o).length:Int)+1).toNat=(die p o).length+1 by omega] at I;rw[show(((die p o).length:Int)+1).toNat=(die p o).length+1 by omega] at H a;subst I;change jS _ _ _ _ _=some ((die p o).map D.str) at F;generalize Qa p o x ((die p o).length+1)=AS,jb false p=EP,jK p o=EO,jY false x=EX at *;generalize((nC p).map λn=>D.bl<|o.al n)=B1 at *;generalize bd true (nC p) o.al=A at *;generalize hDD:(die p o).map D.str=DD at *;generalize hCC:(nC p).map D.str=CC,p.C.map kq=XC,p.E.map D.str=XE at *;have w:jS (jd [] 0) qT (pF<|p2 jq (pV 0)<|pI 0) XC (jO [none] [some EP,some EO,some EX,none,none,none,none])=some CC:=ec;have y:jS (jd [] 0) (jh<|p2 vU (pV 1)<|pV 0) (pF<|pV 0) XE (jO [none,some 3] [some EP,some EO,some EX,some A,none,none,none])=some DD:=F;simp[yM,jE,Vj,g,l,z,B,P,Q,m,j1,Y,V,w,k1,zA,j3,Z,W,y,s,a,H,jc,-jbS]
end
structure OlB(p:Pl)(o:Ol):Prop where
 r:o.R.map (·.1)=(gr p).1
 b:∀ q∈o.R,0<=q.2/\q.2<=(gr p).2 q.1
def OlB.ok{p:Pl}{o:Ol}(h:OlB p o):OlOk p o:=⟨h.r⟩
def Olg(p:Pl)(d:D):Prop:=∃ o,OlB p o/\d=jK p o
def st0(p:Pl):D:=jK p ⟨(gr p).1.map λc=>(c,0),λ_=>true,λ_=>false⟩
theorem jgy{M:Int}(h0:0<=M):∀(L:List Lk) (S:Gw),(∀ l∈L,1<=l.2.1/\l.2.1<=M)->(∀ c,c∈S.1->1<=S.2 c/\S.2 c<=M)->∀ c∈(L.foldl grow S).1,1<=(L.foldl grow S).2 c/\(L.foldl grow S).2 c<=M
 | [],_,_,h=>h
 | l::L,S,hl,h=>by
  rw[X0];refine jgy h0 L _ (λx b=>hl x<|L6 _ b) λc a=>?_;have d:=hl l L7;have f:0<=now S l.1/\now S l.1<=M:=by
   unfold now;by_cases z:l.1∈S.1
   ·have:=h _ z;rw[if_pos z];omega
   ·rw[if_neg z];omega
  unfold grow at a ⊢;dsimp only at a ⊢;by_cases e:c=l.1
  ·rw[if_pos e];unfold big;split<;>omega
  ·rw[if_neg e];by_cases z:l.1∈S.1
   ·rw[if_pos z] at a;exact h c a
   ·rw[if_neg z] at a;rcases N1.mp a with a | a
    ·exact h c a
    ·exact absurd (M7.mp a) e
def u8{p:Pl}(h:PlOk p):∀ c∈(gr p).1,1<=(gr p).2 c/\(gr p).2 c<=9:=by
 refine jgy (by decide) p.L _ (λl hl=>⟨(h.l l hl).d,?_⟩) λc a=>nomatch a
 rcases h.few with f | ⟨_,f⟩
 ·have:=f l hl;omega
 ·exact f l hl
def jiK{p:Pl}(h:PlOk p):(∀ c∈(gr p).1,(gr p).2 c<=2)\/(gr p).1.length<=1:=by
 rcases h.few with f | ⟨f,_⟩
 ·exact .inl λc a=>(jgy (M:=2) (by decide) p.L _ (λl hl=>⟨(h.l l hl).d,f l hl⟩) (λc a=>by cases a) c a).2
 ·right
  have b:∀(L:List Lk) (S:Gw),(L.foldl grow S).1.length<=S.1.length+L.length:=by
   intro L
   induction L with
   | nil=>intro S;exact M8 _
   | cons l L e=>
    intro S;rw[X0,M1];refine N7 (e _) ?_;have:(grow S l).1.length<=S.1.length+1:=by
     unfold grow;dsimp only;split
     ·omega
     ·rw[N4];exact M8 _
    omega
  have:=b p.L ([],λ_=>0);rw[List.length_nil] at this;unfold gr;omega
def ja3{p:Pl}(h:PlOk p):Olg p (st0 p):=by
 refine⟨_,⟨?_,λq a=>?_⟩,rfl⟩
 ·rw[U1];exact List.map_id' _
 ·obtain⟨c,b,rfl⟩:=M5.mp a;exact⟨Int.le_refl _,by have:=u8 h c b;show(0:Int)<=(gr p).2 c;omega⟩
def jgn{p:Pl}(h:PlOk p){o:Ol}(a:OlB p o)(y:Sy):Olg p (ob p o.R y):=by
 refine⟨⟨o.R.map<|jkt p y,λn=>y.al n&&!decide (n∈y.rp),λn=>y.fu n&&!decide (n∈drn p.G y)⟩,⟨?_,λq d=>?_⟩,rfl⟩
 ·rw[U1];exact a.r
 ·obtain⟨r,c,rfl⟩:=M5.mp d;have g:=u8 h r.1 (by rw[<- a.r];exact M5.mpr ⟨r,c,rfl⟩);have b:=a.b r c;show 0<=(if mis y r.1 then mn (r.2+1) ((gr p).2 r.1) else 0)/\(if mis y r.1 then mn (r.2+1) ((gr p).2 r.1) else 0)<=(gr p).2 r.1;unfold mn;split
  ·split<;>omega
  ·omega
def IsS(p:Pl)(t:D):Prop:=∃(a b:Int) (d:D),t=.tup [.int a,.int b,d]/\Olg p d
theorem Qd{p:Pl}(h:PlOk p){o:Ol}(b:OlB p o){kl:Int}:∀(rs:List Rl) (k:Nat) (y:Sy),∀ t∈(run p o.R kl rs k y).1,IsS p t
 | [],_,_,t,a=>nomatch a
 | r::rs,k,y,t,a=>by
  unfold run at a;cases q:nd y r with
  | true=>
   rw[q,cond_true] at a;rcases M4.mp a with rfl | a
   ·exact⟨kl,k,_,rfl,jgn h b y⟩
   ·exact Qd h b rs _ _ t a
  | false=>
   rw[q,cond_false] at a;exact Qd h b rs _ _ t a
def jhy{p:Pl}(h:PlOk p){o:Ol}(b:OlB p o){ten:Bool}{kl:Int}{rs:List Rl}{y:Sy}:∀ t∈stW p o.R ten kl rs y,IsS p t:=by
 intro t a;unfold stW at a;cases ten with
 | true=>
  rw[cond_true] at a;rw[M7.mp a];exact⟨_,_,_,rfl,jgn h b y⟩
 | false=>
  rw[cond_false] at a;rcases N1.mp a with a | a
  ·exact Qd h b _ _ _ t a
  ·rw[M7.mp a];exact⟨_,_,_,rfl,jgn h b _⟩
def xw{p:Pl}(h:PlOk p){d:D}(hd:Olg p d):∃(S:List D) (nm:WN),yN [jb false p,d]=some (.str nm)/\yM [jb false p,d]=↑S/\jw S=true/\frzs S=true/\S.length<=42/\∀ t∈S,IsS p t:=by
 obtain⟨o,b,rfl⟩:=hd;obtain⟨x,c,nm,f,g⟩:=jdr h b.ok;have q:=Qx p o x (h.x x c).r ((die p o).length+1);have i:(die p o).length<=6:=N7 (List.length_filter_le ..) h.e;refine⟨_,nm,f,QF h b.ok c f g,q.1,q.2.1,by omega,λt a=>?_⟩;unfold Qa at a;obtain⟨k,_,a⟩:=List.mem_flatMap.mp a;exact jhy h b t a
def vV{p:Pl}{d:D}(h:Olg p d):frz d=true:=by obtain⟨o,_,rfl⟩:=h;exact jah p o
theorem jdK{α:Type}:∀{a b:List α},a.Nodup->(∀ x∈a,x∈b)->a.length<=b.length
 | [],_,_,_=>U5 _
 | x::a,b,d,h=>by
  obtain⟨s,t,rfl⟩:=List.append_of_mem<|h x L7;obtain⟨e,f⟩:=List.nodup_cons.mp d;have:=jdK (b:=s++t) f λy c=>by
   have m:=h y<|L6 _ c;rcases N1.mp m with m | m
   ·exact N1.mpr<|.inl m
   ·rcases M4.mp m with rfl | m
    ·exact absurd c e
    ·exact N1.mpr<|.inr m
  rw[N4] at this;rw[N4,M1,M1];omega
theorem jb6{α β:Type}{f:α->List β}{m:Nat}:∀{l:List α},(∀ x∈l,(f x).length<=m)->(l.flatMap f).length<=l.length*m
 | [],_=>by simp
 | x::l,h=>by
  rw[List.flatMap_cons,N4,M1,Nat.succ_mul];have b:=h x L7;have c:=jb6 (l:=l) λy a=>h y<|L6 _ a;omega
noncomputable def bls:Nat->List (List D)
 | 0=>[[]]
 | n+1=>(bls n).flatMap λl=>[.bl true::l,.bl false::l]
theorem Qf(f:WN->Bool):∀ N:List WN,(N.map λn=>D.bl<|f n)∈bls N.length
 | []=>M7.mpr rfl
 | n::N=>by
  rw[M1,bls,L5];refine List.mem_flatMap.mpr ⟨_,Qf f N,?_⟩;cases f n<;>simp
theorem QY:∀ n,(bls n).length<=2 ^ n
 | 0=>M8 _
 | n+1=>by
  have:=jb6 (l:=bls n) (f:=λl=>[D.bl true::l,.bl false::l]) (m:=2) λx _=>M8 _;have:=QY n;rw[bls,Nat.pow_succ];omega
noncomputable def rns(g:WN->Int):List WN->List (List D)
 | []=>[[]]
 | c::cs=>(List.range<|(g c).toNat+1).flatMap λ(k:Nat)=>(rns g cs).map λl=>D.tup [.str c,.int (k:Int)]::l
theorem ui(g:WN->Int):∀ R:List Qt,(∀ q∈R,0<=q.2/\q.2<=g q.1)->R.map jI∈rns g (R.map (·.1))
 | [],_=>M7.mpr rfl
 | q::R,h=>by
  rw[L5,L5,rns];have a:=h q L7;refine List.mem_flatMap.mpr ⟨q.2.toNat,List.mem_range.mpr ∅,M5.mpr ⟨_,ui g R λr b=>h r<|L6 _ b,?_⟩⟩;rw[Int.toNat_of_nonneg a.1]
def jgw{g:WN->Int}{N:List WN}(h2:N.length<=2)(h:∀ c∈N,1<=g c/\g c<=9)(d:(∀ c∈N,g c<=2)\/N.length<=1):(rns g N).length<=10:=by
 have one:∀(c:WN) (i:List WN) (a b:Nat),(g c).toNat+1<=a->(rns g i).length<=b->(rns g<|c::i).length<=a*b:=by
  intro c i a b j n;have:=jb6 (l:=List.range<|(g c).toNat+1) (f:=λ(k:Nat)=>(rns g i).map λl=>D.tup [.str c,.int (k:Int)]::l) (m:=b) λx _=>by rw[L1];exact n
  rw[List.length_range] at this;rw[rns];exact N7 this (Nat.mul_le_mul_right _ j)
 match N,h2,h,d with
 | [],_,_,_=>exact(by decide:1<=10)
 | [c],_,h,_=>
  have:=(h c L7).2;exact one c [] 10 1 ∅ (M8 _)
 | [c,e],_,h,d=>
  rcases d with d | d
  ·have o:=d c L7;have h2:=d e<|L6 _ L7;exact N7 (one c [e] 3 3 ∅ (one e [] 3 1 ∅ (M8 _))) (by decide)
  ·simp at d
 | _::_::_::_,h2,_,_=>simp at h2
def unv(p:Pl):List D:=(rns (gr p).2 (gr p).1).flatMap λR=>(bls (nC p).length).flatMap λa=>(bls (nP p).length).map λb=>.tup [.tup R,.tup a,.tup b]
def jfQ{p:Pl}{d:D}(h:Olg p d):d∈unv p:=by
 obtain⟨o,a,rfl⟩:=h;have:=ui (gr p).2 o.R a.b;rw[a.r] at this;exact List.mem_flatMap.mpr ⟨_,this,List.mem_flatMap.mpr ⟨_,Qf o.al _,M5.mpr ⟨_,Qf o.fu _,rfl⟩⟩⟩
def jfJ{p:Pl}(h:PlOk p):(unv p).length<=320:=by
 have c3:(nC p).length<=3:=by have:=h.c3;unfold nC;rw[L1];exact this
 have p2:(nP p).length<=2:=by have:=h.p2;unfold nP;rw[L1];exact this
 have d:(bls (nC p).length).length<=8:=N7 (QY _)<|Nat.pow_le_pow_right (by decide) c3;have c:(bls (nP p).length).length<=4:=N7 (QY _)<|Nat.pow_le_pow_right (by decide) p2;have r:=jgw (wj h).l (u8 h) (jiK h);have q:∀ R:List D,((bls (nC p).length).flatMap λa=>(bls (nP p).length).map λb=>D.tup [.tup R,.tup a,.tup b]).length<=32:=λR=>by
  have:=jb6 (l:=bls (nC p).length) (f:=λa=>(bls (nP p).length).map λb=>D.tup [.tup R,.tup a,.tup b]) (m:=4) λx _=>by rw[L1];exact c
  omega
 have:=jb6 (l:=rns (gr p).2 (gr p).1) (m:=32) λR _=>q R;unfold unv;omega
def kK{p:Pl}(h:PlOk p){l:List D}(hn:l.Nodup)(hl:∀ d∈l,Olg p d):l.length<=320:=N7 (jdK hn λd hd=>jfQ<|hl d hd)<|jfJ h
noncomputable def ky:List D->List D
 | k::_::l=>k::ky l
 | _=>[]
theorem Kh{k v:D}:∀{l:List D},l.length=2*(ky l).length->ky (l++[k,v])=ky l++[k]
 | [],_=>rfl
 | [_],h=>by simp[ky] at h
 | a::b::l,h=>by
  show a::ky (l++[k,v])=a::(ky l++[k]);rw[Kh (l:=l)<|by simp[ky] at h;omega]
theorem jaG(f g:WN->Bool):∀ N:List WN,YH (ye<|N.map λn=>D.bl<|f n)=YH (ye<|N.map λn=>D.bl<|g n)->(N.map λn=>D.bl<|f n)=N.map λn=>D.bl<|g n
 | [],_=>rfl
 | n::N,h=>by
  simp only[L5,ye,yu,YH,nkP,List.cons.injEq,PyData.int.injEq] at h;obtain⟨b,a⟩:=h;rw[L5,L5,jaG f g N a];cases e1:f n<;>cases e2:g n<;>simp_all
theorem jl7:∀ A B:List Qt,YH (ye<|A.map jI)=YH (ye<|B.map jI)->A=B
 | [],[],_=>rfl
 | [],_::_,h=>by simp[ye,YH] at h
 | _::_,[],h=>by simp[ye,YH] at h
 | a::A,b::B,h=>by
  simp only[L5,ye,yu,YH,nkP,List.cons.injEq,PyData.int.injEq,PyData.tuple.injEq,PyData.str.injEq,and_true] at h;obtain⟨⟨c,d⟩,e⟩:=h;rw[jl7 A B e];congr 1;exact Prod.ext (jhz c) d
def ji2{p:Pl}{o o':Ol}(e:nkP (yu<|jK p o)=nkP (yu<|jK p o')):jK p o=jK p o':=by
 simp only[jK,yu,ye,nkP,YH,PyData.tuple.injEq,List.cons.injEq,and_true] at e;obtain⟨a,b,c⟩:=e;unfold jK;rw[jl7 _ _ a,jaG _ _ _ b,jaG _ _ _ c]
theorem um(n:Nat)(f:WN->Bool):∀ N:List WN,YL n (ye<|N.map λn=>D.bl<|f n)=true
 | []=>rfl
 | m::N=>by
  rw[L5,ye,YL,um n f N];cases n<;>rfl
theorem jlT(n:Nat):∀ R:List Qt,(∀ q∈R,Nm q.1)->YL (n+1) (ye<|R.map jI)=true
 | [],_=>rfl
 | q::R,h=>by
  have s:PyData.strOk (S q.1)=true:=by
   have:=(h q L7);unfold PyData.strOk S;rw[Array.all_eq_true'];intro c a;have:=this.r c ⇑a;have:c<1114112:=by omega
   simpa using this
  rw[L5,ye,YL,jlT n R λr b=>h r<|L6 _ b];cases n<;>simp[yu,ye,hkP,YL,s]
def Yi{p:Pl}(h:PlOk p){d:D}(hd:Olg p d):hkD d=true:=by
 obtain⟨o,a,rfl⟩:=hd;have b:∀ q∈o.R,Nm q.1:=λq f=>by
  have m:q.1∈(gr p).1:=by rw[<- a.r];exact M5.mpr ⟨q,f,rfl⟩
  obtain⟨x,g,e⟩:=(wj h).i _ m;rw[<- e];exact(h.l x g).c
 have j:=jlT 3 o.R b;have k:=um 4 o.al<|nC p;have n:=um 4 o.fu<|nP p;show(true&&hkP 6 (yu<|jK p o))=true;simp only[jK,yu,ye,hkP,YL,j,k,n,Bool.and_self]
theorem Yv{p:Pl}(h:PlOk p){d:D}(hd:Olg p d):∀{l:List D},(∀ k∈ky l,Olg p k)->(kr d l=true↔d∈ky l)
 | [],_=>by simp[kr,ky]
 | [_],_=>by simp[kr,ky]
 | k::v::l,f=>by
  have a:=f k L7;have i:=Yv h hd (l:=l) λx g=>f x<|L6 _ g;have e:PyData.eqv (yu k) (yu d)=true↔k=d:=by
   have b:=Yi h a;have c:=Yi h hd;unfold hkD at b c;rw[M0] at b c;rw[xM 6 6 _ _ b.2 c.2];obtain⟨o,_,rfl⟩:=a;obtain⟨j,_,rfl⟩:=hd;exact⟨ji2,λe=>by rw[e]⟩
  show(PyData.eqv (yu k) (yu d)||kr d l)=true↔d∈k::ky l;rw[Bool.or_eq_true,e,i,M4];exact⟨λz=>z.imp Eq.symm _root_.id,λz=>z.imp Eq.symm _root_.id⟩
noncomputable def WF:List Str:=["pool","outlines","come_by","orders","cuts","at"]
def W6(o:Bool)(a0 a1 a2 a3 a4 a5:D):D:=.ins o 1 WF [a0,a1,a2,a3,a4,a5]
section
variable {o:Bool}{a0 a1 a2 a3 a4 a5:D}
def w0:qu 1 "pool" (W6 o a0 a1 a2 a3 a4 a5)=some a0:=rfl
def w1:qu 1 "outlines" (W6 o a0 a1 a2 a3 a4 a5)=some a1:=rfl
def w2:qu 1 "come_by" (W6 o a0 a1 a2 a3 a4 a5)=some a2:=rfl
def w5:qu 1 "at" (W6 o a0 a1 a2 a3 a4 a5)=some a5:=rfl
end
def jdT(ks:List<|List KA)(l:List D)(a:List KA)(d:D):(uc ks l a d).1.length<=ks.length+1:=by
 unfold uc;split
 ·exact Nat.le_succ _
 ·rw[N4];exact M8 _
def jdv(ks:List KA)(l:List D)(a:KA)(d:D):(vT ks l a d).1.length<=ks.length+1:=by
 unfold vT;split
 ·exact Nat.le_succ _
 ·rw[N4];exact M8 _
def ki{n:Nat}(h:n<=100000):lim n=true:=X1 h
def jff{p:Pl}(h:PlOk p){L c tv:List D}{tk:List (List KA)}{a0 a3 a5 ah d:D}{nm:WN}{a b:Int}(hd:Olg p d)(q:∀ x∈L,Olg p x)(f:ky c=L)(h2:c.length=2*L.length)(hl:L.length<=320)(t:tk.length<=90000)(fa:frz ah=true):
  ∃ L' cb' tk' tv',y9 [some<|W6 true a0 (.lst true L) (.dN true c) a3 (.dT true tk tv) a5,some ah,some<|.str nm,some<|.int a,some<|.int b,some d]=some (.nx [some<|W6 true a0 (.lst true L') (.dN true cb') a3 (.dT true tk' tv') a5,some ah,some<|.str nm,some<|.int a,some<|.int b,some d])
   /\ ky cb'=L'/\cb'.length=2*L'.length/\tk'.length<=tk.length+1/\((d∈L/\L'=L)\/(¬ d∈L/\L'=L++[d])):=by
 have fd:=vV hd;have i:=Yi h hd;have j:=Yv h hd (l:=c) (by rw[f];exact q);rw[f] at j;have n:zC 0 (YG 1 "cuts" Jc) (pV 2) (pV 4) (pC<|.bl true) [some<|W6 true a0 (.lst true L) (.dN true c) a3 (.dT true tk tv) a5,some ah,some<|.str nm,some<|.int a,some<|.int b,some d]=some (.nx [some<|W6 true a0 (.lst true L) (.dN true c) a3 (.dT true (uc tk tv [.str nm,.int b]<|.bl true).1 (uc tk tv [.str nm,.int b]<|.bl true).2) a5,some ah,some<|.str nm,some<|.int a,some<|.int b,some d]):=by
  show(bif frz (.bl true)&&lim tk.length then _ else _)=_;rw[ki ∅];rfl
 have k:=jdT tk tv [.str nm,.int b]<|.bl true;generalize uc tk tv [.str nm,.int b] (.bl true)=T at n k;unfold y9;rw[Jt,n];by_cases m:d∈L
 ·refine⟨L,c,T.1,T.2,?_,f,h2,k,.inl ⟨m,rfl⟩⟩;have g:=j.mpr m;show(sIf _ _ jR) _=_;have w:=w2 (o:=true) (a0:=a0) (a1:=.lst true L) (a2:=.dN true c) (a3:=a3) (a4:=.dT true T.1 T.2) (a5:=a5);generalize W6 true a0 (.lst true L) (.dN true c) a3 (.dT true T.1 T.2) a5=I at *;simp[w,VX,i,g]
 ·refine⟨L++[d],c++[d,.tup [ah,.int a,.int b]],T.1,T.2,?_,by rw[Kh<|by rw[f];exact h2,f],by simp;omega,k,.inr ⟨m,rfl⟩⟩;have g:kr d c=false:=by
   cases e:kr d c with
   | true=>exact absurd (j.mp e) m
   | false=>rfl
  show(sIf _ _ jR) _=_;have w:=w2 (o:=true) (a0:=a0) (a1:=.lst true L) (a2:=.dN true c) (a3:=a3) (a4:=.dT true T.1 T.2) (a5:=a5);have r:Vt 0 (YG 1 "come_by" Jc) (pV 5) (vN #[pF<|pV 1,pF<|pV 3,pF<|pV 4]) [some<|W6 true a0 (.lst true L) (.dN true c) a3 (.dT true T.1 T.2) a5,some ah,some<|.str nm,some<|.int a,some<|.int b,some d]=some (.nx [some<|W6 true a0 (.lst true L) (.dN true<|c++[d,.tup [ah,.int a,.int b]]) a3 (.dT true T.1 T.2) a5,some ah,some<|.str nm,some<|.int a,some<|.int b,some d]):=by
   have e:vN #[pF<|pV 1,pF<|pV 3,pF<|pV 4] [some<|W6 true a0 (.lst true L) (.dN true c) a3 (.dT true T.1 T.2) a5,some ah,some<|.str nm,some<|.int a,some<|.int b,some d]=some (.tup [ah,.int a,.int b]):=by
    simp[fa,lim]
   unfold Vt;rw[e,L4];show(bif (frz (.tup [ah,.int a,.int b])&&frz d)&&(hkD d&&!kr d c)&&lim c.length then _ else _)=_;rw[fd,i,g,ki ∅,show frz (.tup [ah,.int a,.int b])=true by simp[frz,frzs,fa]];rfl
  have s:ww 0 (YG 1 "outlines" Jc) (pF<|pV 5) [some<|W6 true a0 (.lst true L) (.dN true<|c++[d,.tup [ah,.int a,.int b]]) a3 (.dT true T.1 T.2) a5,some ah,some<|.str nm,some<|.int a,some<|.int b,some d]=some (.nx [some<|W6 true a0 (.lst true<|L++[d]) (.dN true<|c++[d,.tup [ah,.int a,.int b]]) a3 (.dT true T.1 T.2) a5,some ah,some<|.str nm,some<|.int a,some<|.int b,some d]):=by
   have e:pF (pV 5) [some<|W6 true a0 (.lst true L) (.dN true<|c++[d,.tup [ah,.int a,.int b]]) a3 (.dT true T.1 T.2) a5,some ah,some<|.str nm,some<|.int a,some<|.int b,some d]=some d:=by simp[fd]
   unfold ww;rw[e,L4];show(bif lim L.length then _ else _)=_;rw[ki ∅];rfl
  generalize W6 true a0 (.lst true<|L++[d]) (.dN true<|c++[d,.tup [ah,.int a,.int b]]) a3 (.dT true T.1 T.2) a5=I3,W6 true a0 (.lst true L) (.dN true<|c++[d,.tup [ah,.int a,.int b]]) a3 (.dT true T.1 T.2) a5=I2,W6 true a0 (.lst true L) (.dN true c) a3 (.dT true T.1 T.2) a5=I at *;simp[w,VX,i,g,r,s,-ww]
def Nx(p:Pl)(d e:D):Prop:=∃(S:List D) (a b:Int),yM [jb false p,d]=↑S/\D.tup [.int a,.int b,e]∈S
inductive Rch (p:Pl):D->Prop
 | z:Rch p (st0 p)
 | s {d e:D}:Rch p d->Nx p d e->Rch p e
structure Wk(p:Pl)(L:List D)(i:Nat):Prop where
 nd:L.Nodup
 g:∀ d∈L,Olg p d
 r:∀ d∈L,Rch p d
 h:L[0]?=some (st0 p)
 c:∀ j,j<i->∀ d,L[j]?=some d->∀ e,Nx p d e->e∈L
 i:i<=L.length
def jbo{l:List D}{d:D}(h:l.Nodup)(hd:¬ d∈l):(l++[d]).Nodup:=by
 rw[U9];refine⟨h,List.nodup_cons.mpr ⟨λz=>(nomatch z),List.nodup_nil⟩,λa c b f e=>?_⟩;rw[M7.mp f] at e;exact hd<|e▸c
def vX{α:Type}{S:List α}{j:Nat}{x t:α}(a:S[j]?=some x)(h:t∈S.take (j+1)):t∈S.take j\/t=x:=by
 rw[List.take_add_one,a] at h;rcases N1.mp h with h | h
 ·exact .inl h
 ·exact .inr ⇑h
def jlc{p:Pl}(h:PlOk p){L v ov tv:List D}{ok:List KA}{tk:List (List KA)}{i:Nat}(w:Wk p L i)(hi:i<L.length)(hk:ky v=L)(h2:v.length=2*L.length)(ho:ok.length<=i)(k:tk.length<=42*i):
  ∃ L' cb' ok' ov' tk' tv',yJ [W6 true (jb false p) (.lst true L) (.dN true v) (.dK true ok ov) (.dT true tk tv)<|.int i]=some (.non,W6 true (jb false p) (.lst true L') (.dN true cb') (.dK true ok' ov') (.dT true tk' tv')<|.int ((i+1:Nat):Int))/\Wk p L' (i+1)/\ky cb'=L'/\cb'.length=2*L'.length/\ok'.length<=i+1/\tk'.length<=42*(i+1):=by
 obtain⟨d,hd⟩:∃ d,L[i]?=some d:=⟨_,X7 hi⟩;have Z:d∈L:=List.mem_of_getElem? hd;have gd:=w.g d Z;obtain⟨S,nm,e1,O,cS,fS,lS,aS⟩:=xw h gd;have l320:=kK h w.nd w.g;have fp:=yi p;have zp:=vh _ fp;have fd:=vV gd;have zd:=vh _ fd;have zS:=jf _ fS;have pl:=jdv ok ov (.str nm)<|.bl true;have s3:vD 0 (YG 1 "orders" Jc) (pV 2) (pC<|.bl true) [some<|W6 true (jb false p) (.lst true L) (.dN true v) (.dK true ok ov) (.dT true tk tv)<|.int i,some d,some<|.str nm,none,none,none]=some (.nx [some<|W6 true (jb false p) (.lst true L) (.dN true v) (.dK true (vT ok ov (.str nm)<|.bl true).1 (vT ok ov (.str nm)<|.bl true).2) (.dT true tk tv)<|.int i,some d,some<|.str nm,none,none,none]):=by
  show(bif lim ok.length&&(frz (.bl true)||_) then _ else _)=_;rw[ki ∅];rfl
 generalize vT ok ov (.str nm) (.bl true)=K at s3 pl;obtain⟨ρ',el,L',cb',tk',tv',H,I,J,rfl,Q,A,R,y,E,N,⟨T,B⟩,u⟩:=yS (G:=gT 3<|gC (jd [0] 3)<|gC (jd [0] 4)<|gC (jd [0] 5) gN) (f:=y9) (xs:=S)
  (λj ρ=>∃(L' cb':List D) (tk':List<|List KA) (tv':List D) (H I J:Option D),ρ=[some<|W6 true (jb false p) (.lst true L') (.dN true cb') (.dK true K.1 K.2) (.dT true tk' tv')<|.int i,some d,some<|.str nm,H,I,J]/\ky cb'=L'/\cb'.length=2*L'.length/\tk'.length<=42*i+j/\L'.Nodup/\(∀ d∈L',Olg p d)/\(∀ d∈L',Rch p d)/\(∃ T,L'=L++T)/\∀ t∈S.take j,∀ a b e,t=D.tup [.int a,.int b,e]->e∈L') (by
  rintro j t ρ l ⟨L',cb',tk',tv',H,I,J,rfl,Q,A,R,y,E,N,⟨T,B⟩,u⟩;have mt:t∈S:=List.mem_of_getElem? l;obtain⟨a,b,e,rfl,ge⟩:=aS t mt;have jl:j<S.length:=(L9.mp l).1;have C:=kK h y E;obtain⟨L2,U,V,W,eb,k3,k4,k5,hc⟩:=jff h (a0:=jb false p) (a3:=.dK true K.1 K.2) (a5:=.int i) (ah:=d) (nm:=nm) (a:=a) (b:=b) (tk:=tk') (tv:=tv') ge E Q A C ∅ fd;refine⟨_,_,rfl,.inl eb,L2,U,V,W,_,_,_,rfl,k3,k4,by omega,?_⟩;rcases hc with⟨m,rfl⟩ | ⟨m,rfl⟩
  ·refine⟨y,E,N,⟨T,B⟩,λt k X b' Y M=>?_⟩;rcases vX l k with k | k
   ·exact u t k X b' Y M
   ·rw[M] at k;injection k with k;injection k with _ k;injection k with _ k;injection k with k;rw[k];exact m
  ·refine⟨jbo y m,λx l=>?_,λx l=>?_,⟨T++[e],by rw[B,List.append_assoc]⟩,λt k X b' Y M=>?_⟩
   ·rcases N1.mp l with l | l
    ·exact E x l
    ·rw[M7.mp l];exact ge
   ·rcases N1.mp l with l | l
    ·exact N x l
    ·rw[M7.mp l];exact .s (w.r d Z) ⟨S,a,b,O,mt⟩
   ·rcases vX l k with k | k
    ·exact N1.mpr<|.inl<|u t k X b' Y M
    ·rw[M] at k;injection k with k;injection k with _ k;injection k with _ k;injection k with k;rw[k];exact N1.mpr<|.inr<|M7.mpr rfl) (ρ:=[some<|W6 true (jb false p) (.lst true L) (.dN true v) (.dK true K.1 K.2) (.dT true tk tv)<|.int i,some d,some<|.str nm,none,none,none])
  ⟨L,v,tk,tv,none,none,none,rfl,hk,h2,by omega,w.nd,w.g,w.r,⟨[],(M9 _).symm⟩,λt k=>by simp at k⟩
 have s5:xQ 0 Jc 1 "at" (λm n=>m+n) (pI 1) [some<|W6 true (jb false p) (.lst true L') (.dN true cb') (.dK true K.1 K.2) (.dT true tk' tv')<|.int i,some d,some<|.str nm,H,I,J]=some (.nx [some<|W6 true (jb false p) (.lst true L') (.dN true cb') (.dK true K.1 K.2) (.dT true tk' tv')<|.int<|(i:Int)+1,some d,some<|.str nm,H,I,J]):=rfl;refine⟨L',cb',K.1,K.2,tk',tv',?_,⟨y,E,N,?_,λj hj x l e hn=>?_,?_⟩,Q,A,by omega,by omega⟩
 ·have ix:jq (.lst true L) (.int (i:Int))=some d:=by rw[jf4 ∅ ∅,N8,hd]
  have q0:=w0 (o:=true) (a0:=jb false p) (a1:=.lst true L) (a2:=.dN true v) (a3:=.dK true ok ov) (a4:=.dT true tk tv) (a5:=.int i);have q1:=w1 (o:=true) (a0:=jb false p) (a1:=.lst true L) (a2:=.dN true v) (a3:=.dK true ok ov) (a4:=.dT true tk tv) (a5:=.int i);have q5:=w5 (o:=true) (a0:=jb false p) (a1:=.lst true L) (a2:=.dN true v) (a3:=.dK true ok ov) (a4:=.dT true tk tv) (a5:=.int i);have p0:=w0 (o:=true) (a0:=jb false p) (a1:=.lst true L) (a2:=.dN true v) (a3:=.dK true K.1 K.2) (a4:=.dT true tk tv) (a5:=.int i);rw[show((i+1:Nat):Int)=(i:Int)+1 by omega];generalize W6 true (jb false p) (.lst true L') (.dN true cb') (.dK true K.1 K.2) (.dT true tk' tv') (.int<|(i:Int)+1)=I3,W6 true (jb false p) (.lst true L') (.dN true cb') (.dK true K.1 K.2) (.dT true tk' tv') (.int i)=I2,W6 true (jb false p) (.lst true L) (.dN true v) (.dK true K.1 K.2) (.dT true tk tv) (.int i)=I1,W6 true (jb false p) (.lst true L) (.dN true v) (.dK true ok ov) (.dT true tk tv) (.int i)=I0 at *;generalize jb false p=P at *;simp[yJ,x6,Ju,q0,q1,q5,p0,ix,fd,fp,zp,zd,e1,s3,O,cS,fS,zS,el,s5,jdI]
 ·rw[B,List.getElem?_append_left ∅];exact w.h
 ·have z:L[j]?=some x:=by rw[B,List.getElem?_append_left ∅] at l;exact l
  rcases Nat.lt_or_ge j i with q | q
  ·rw[B];exact N1.mpr<|.inl<|w.c j q x z e hn
  ·obtain rfl:j=i:=by omega
   rw[hd] at z;injection z with z;subst z;obtain⟨S',a,b,F,ms⟩:=hn;rw[O] at F;injection F with F;injection F with _ F;subst F;exact u _ (by rw[List.take_length];exact ms) a b e rfl
 ·rw[B,N4];omega
theorem KU:∀{M:List WN}{o:Option D},jS (jd [] 0) qT (vN #[pF<|pV 0,pI 0]) (M.map D.str) [o]=some (M.map λn=>.tup [.str n,.int 0])
 | [],_=>rfl
 | n::M,o=>by
  have a:=KU (M:=M) (o:=some<|.str n);rw[L5,jD,L5];simp[a,jc]
def jbF(b:Bool){n:Nat}(h:n<=1000):Vc (.tup [.bl b]) (.int (n:Int))=some (.tup<|List.replicate n<|.bl b):=by
 rw[jeR];have:(decide ((0:Int)<=(n:Int))&&decide ((n:Int)<=1000))=true:=by simp;omega
 rw[this,N8];simp[frzs,frz]
def jcC{p:Pl}(h:PlOk p):vQ [jb false p]=some (st0 p):=by
 have e:=JX h;have B:=h.c;have E:=h.p6;have F:=(wj h).l;have b:=yi p;have i:=vh _ b;have j:=P1 false p;have k:=P2 false p;have m:st0 p=.tup [.tup<|(gr p).1.map λn=>.tup [.str n,.int 0],.tup<|List.replicate p.C.length<|.bl true,.tup<|List.replicate p.P.length<|.bl false]:=by
  unfold st0 jK nC nP;simp only[U1,Function.comp_def,List.map_const']
 rw[m];generalize(gr p).1=N at *;generalize(gr p).2=f at *;have o:jS (jd [] 0) qT (vN #[pF<|pV 0,pI 0]) (N.map D.str) (jO [none] [some<|jb false p,none])=some (N.map λn=>.tup [.str n,.int 0]):=KU;have a:jen (dct true N f)=some (N.map KA.str,N.map λn=>D.int<|f n):=rfl;have q:=V0 N f;have r:=jdn N;have s:lim (N.map D.str).length=true:=jc (by rw[L1];omega);have g:frzs (N.map λn=>D.tup [.str n,.int 0])=true:=yy λd hd=>by obtain⟨x,_,rfl⟩:=M5.mp hd;rfl
 have t:=jf _ g;have u:(p.C.map kq).length=p.C.length:=L1 ..;have v:(p.P.map jI).length=p.P.length:=L1 ..;have w:=jbF true (n:=p.C.length) ∅;have y:=jbF false (n:=p.P.length) ∅;generalize(N.map λn=>D.tup [.str n,.int 0])=ZZ at *;generalize List.replicate p.C.length (D.bl true)=RC,List.replicate p.P.length (D.bl false)=RP at *;generalize z:p.C.length=cl at *;generalize A:p.P.length=pl,p.C.map kq=CC,p.P.map jI=PP,jb false p=pp,dct true N f=dd,N.map D.str=NS,N.map KA.str=NK at *;generalize(N.map λn=>D.int<|f n)=NV at *;simp[vQ,jE,Y9,b,i,e,a,q,r,s,o,g,t,j,k,u,v,w,y,jc,-jeR]
def jhW{f:Str}{pv:PF}{ns ns':List Str}{l l':List D}{v:D}{r:Rh}(a:pv (some (.ins true 1 ns l)::r)=some v)(b:kF ns l f v=(ns',l'))(hl:ns.length<=900):vM 0 1 f pv (some (.ins true 1 ns l)::r)=some (.nx<|some (.ins true 1 ns' l')::r):=by
 unfold vM;rw[a,L4];show(bif true&&decide (ns.length<=900) then some (Out.nx<|some (.ins true 1 (kF ns l f v).1 (kF ns l f v).2)::r) else none)=_;rw[X1 hl,b];rfl
def jdl{p:Pl}(h:PlOk p):yn [.ins true 1 [] [],jb false p]=some (.non,W6 true (jb false p) (.lst true [st0 p]) (.dN true [st0 p,.non]) (.dK true [] []) (.dT true [] [])<|.int 0):=by
 have e:=jcC h;have g:=ja3 h;have fd:=vV g;have b:=Yi h g;have a:=yi p;have c:=vh _ a;generalize st0 p=d,jb false p=P at *;have i:jX (dP<|jL vQ #[pV 1]) (jd [0] 2) [some<|.ins true 1 [] [],some P,none]=some (.nx [some<|.ins true 1 [] [],some P,some d]):=by
  simp[a,c,e]
 have j:=jhW (f:="pool") (pv:=pF<|pV 1) (ns:=[]) (l:=[]) (ns':=["pool"]) (l':=[P]) (v:=P) (r:=[some P,some d]) (by simp[a]) rfl (by decide);have k:=jhW (f:="outlines") (pv:=Ji #[pF<|pV 2]) (ns:=["pool"]) (l:=[P]) (ns':=["pool","outlines"]) (l':=[P,.lst true [d]]) (v:=.lst true [d]) (r:=[some P,some d]) (by simp[fd,jc]) rfl (by decide);have m:=jhW (f:="come_by") (pv:=jiY (pV 2)<|pC .non) (ns:=["pool","outlines"]) (l:=[P,.lst true [d]]) (ns':=["pool","outlines","come_by"]) (l':=[P,.lst true [d],.dN true [d,.non]]) (v:=.dN true [d,.non]) (r:=[some P,some d]) (by simp[fd,b,frz]) rfl (by decide);have n:=jhW (f:="orders") (pv:=pC<|.dK true [] []) (ns:=["pool","outlines","come_by"]) (l:=[P,.lst true [d],.dN true [d,.non]]) (ns':=["pool","outlines","come_by","orders"]) (l':=[P,.lst true [d],.dN true [d,.non],.dK true [] []]) (v:=.dK true [] []) (r:=[some P,some d]) rfl rfl (by decide);have o:=jhW (f:="cuts") (pv:=pC<|.dT true [] []) (ns:=["pool","outlines","come_by","orders"]) (l:=[P,.lst true [d],.dN true [d,.non],.dK true [] []]) (ns':=["pool","outlines","come_by","orders","cuts"]) (l':=[P,.lst true [d],.dN true [d,.non],.dK true [] [],.dT true [] []]) (v:=.dT true [] []) (r:=[some P,some d]) rfl rfl (by decide);have q:=jhW (f:="at") (pv:=pC<|.int 0) (ns:=["pool","outlines","come_by","orders","cuts"]) (l:=[P,.lst true [d],.dN true [d,.non],.dK true [] [],.dT true [] []]) (ns':=WF) (l':=[P,.lst true [d],.dN true [d,.non],.dK true [] [],.dT true [] [],.int 0]) (v:=.int 0) (r:=[some P,some d]) rfl rfl (by decide);unfold yn;rw[x6];show(vt [some<|.ins true 1 [] [],some P,none]).bind (jdI 0)=_;unfold vt;simp only[Jt,i,j,k,m,n,o,q,L4,je5];rfl
theorem JT{q:PTf}{f:FS}{B:Nat}(P:Nat->Rh->Prop)(a:∀ k ρ,P k ρ->k<=B)(step:∀ k ρ,P k ρ->q ρ=some false\/(q ρ=some true/\∃ ρ',f ρ=some (.nx ρ')/\P (k+1) ρ')):∀(m k:Nat) (ρ:Rh),P k ρ->B<k+m->∃ k' ρ',Kp q f m ρ=some (.nx ρ')/\P k' ρ'/\q ρ'=some false
 | 0,k,ρ,h,b=>absurd (a k ρ h) ∅
 | m+1,k,ρ,h,b=>by
  rcases step k ρ h with e | ⟨e,ρ',c,d⟩
  ·exact⟨k,ρ,by rw[Kp,e];rfl,h,e⟩
  ·obtain⟨k',g,i,j⟩:=JT P a step m (k+1) ρ' d ∅;exact⟨k',g,by rw[Kp,e,L4,cond_true,c];exact i,j⟩
def jj9{L:List D}{i:Nat}{a0 a2 a3 a4:D}(a:frzs L=true)(hl:L.length<=320):ji [W6 false a0 (.lst false L) a2 a3 a4<|.int i]=some ((L[i]?).getD .non):=by
 have b:=w1 (o:=false) (a0:=a0) (a1:=.lst false L) (a2:=a2) (a3:=a3) (a4:=a4) (a5:=.int i);have c:=w5 (o:=false) (a0:=a0) (a1:=.lst false L) (a2:=a2) (a3:=a3) (a4:=a4) (a5:=.int i);generalize W6 false a0 (.lst false L) a2 a3 a4 (.int i)=I at *;by_cases h:i<L.length
 ·have ix:jq (.lst false L) (.int (i:Int))=some L[i]:=by rw[jf4 ∅ ∅,N8,X7 h]
  have fd:frz L[i]=true:=by rw[qN,List.all_eq_true] at a;exact a _<|List.getElem_mem h
  rw[X7 h,Option.getD_some];generalize L[i]=d at *;simp[ji,jE,yT,b,c,h,ix,fd]
 ·rw[List.getElem?_eq_none ∅,Option.getD_none];simp[ji,jE,yT,b,c,h]
def xU{L:List D}{i:Nat}{a0 a2 a3 a4:D}{ρ:Rh}(a:frzs L=true)(b:jw L=true)(hl:L.length<=320)(h0:pV 2 ρ=some (W6 true a0 (.lst true L) a2 a3 a4<|.int i)):jQ ji 1 "outline_now" (pV 2) pN ρ=some ((L[i]?).getD .non):=by
 unfold jQ;rw[h0,L4];show(bif true&&(YZ WF [a0,.lst true L,a2,a3,a4,.int i] "outline_now").isNone then((ji [W6 false (fz a0) (.lst false<|fzs L) (fz a2) (fz a3) (fz a4)<|.int i]).bind λd=>bif _||yx d then some d else none) else none)=_;rw[jf _ a,jj9 a hl,L4];have c:yx ((L[i]?).getD .non)=true:=by
  by_cases h:i<L.length
  ·rw[X7 h,Option.getD_some];rw[jU,List.all_eq_true] at b;exact b _<|List.getElem_mem h
  ·rw[List.getElem?_eq_none ∅];rfl
 rw[c,Bool.or_true];rfl
def JF{p:Pl}{L:List D}(h:∀ d∈L,Olg p d):frzs L=true:=yy λd hd=>vV<|h d hd
def jcv(p:Pl)(o:Ol):yx (jK p o)=true:=by
 have a:jw (o.R.map jI)=true:=xH _;have b:=kT (nC p) o.al;have c:=kT (nP p) o.fu;show yx (D.tup [.tup<|o.R.map jI,.tup _,.tup _])=true;simp only[yx,jw,a,b,c,Bool.and_self]
def YU{p:Pl}{L:List D}(h:∀ d∈L,Olg p d):jw L=true:=by
 rw[jU,List.all_eq_true];intro d hd;obtain⟨o,_,rfl⟩:=h d hd;exact jcv p o
def Olg.tup{p:Pl}{d:D}(h:Olg p d):KF d=false/\jbj d=false:=by
 obtain⟨o,_,rfl⟩:=h;exact⟨rfl,rfl⟩
def jgh{p:Pl}(h:PlOk p):∃(L cb ov tv:List D) (ok:List KA) (tk:List<|List KA),kG [jb false p,.lam]=some (W6 true (jb false p) (.lst true L) (.dN true cb) (.dK true ok ov) (.dT true tk tv)<|.int (L.length:Int))/\Wk p L L.length:=by
 have A:=ja3 h;obtain⟨k,V,C,⟨L,cb,ov,tv,ok,tk,rfl,w,u,v,x,y⟩,E⟩:=JT (B:=320) (q:=YC (jh<|p2 vo (jQ ji 1 "outline_now" (pV 2) pN)<|pC .non)<|ud<|jh<|pLC 1 #[jQ ji 1 "outline_now" (pV 2) pN]) (f:=v9)
  (λk ρ=>∃(L cb ov tv:List D) (ok:List KA) (tk:List<|List KA),ρ=[some<|jb false p,some .lam,some<|W6 true (jb false p) (.lst true L) (.dN true cb) (.dK true ok ov) (.dT true tk tv)<|.int k]/\Wk p L k/\ky cb=L/\cb.length=2*L.length/\ok.length<=k/\tk.length<=42*k)
  (by
   rintro k ρ ⟨L,cb,ov,tv,ok,tk,rfl,w,_⟩;have:=kK h w.nd w.g;have:=w.i;omega)
  (by
   rintro k ρ ⟨L,cb,ov,tv,ok,tk,rfl,w,u,v,x,y⟩;have a:=kK h w.nd w.g;have F:=JF w.g;have G:=YU w.g;have m:=xU (i:=k) (a0:=jb false p) (a2:=.dN true cb) (a3:=.dK true ok ov) (a4:=.dT true tk tv) (ρ:=[some<|jb false p,some .lam,some<|W6 true (jb false p) (.lst true L) (.dN true cb) (.dK true ok ov) (.dT true tk tv)<|.int k]) F G a rfl;rcases Nat.lt_or_ge k L.length with q | q
   ·right
    obtain⟨r,b,c,l,n,o,e,H,J,K,M,N⟩:=jlc h w q u v (ov:=ov) (tv:=tv) x y;have s:=(w.g _<|List.getElem_mem q).tup;refine⟨?_,[some<|jb false p,some .lam,some<|W6 true (jb false p) (.lst true r) (.dN true b) (.dK true c l) (.dT true n o)<|.int ((k+1:Nat):Int)],?_,r,b,l,o,c,n,rfl,H,J,K,M,N⟩
    ·rw[X7 q,Option.getD_some] at m;generalize L[k]=d,W6 true (jb false p) (.lst true L) (.dN true cb) (.dK true ok ov) (.dT true tk tv) (.int k)=I at *;simp[m,vo,s,show KF D.non=true from rfl,jdx,-jQ]
    ·have O:kz yJ 2 1 "go_on" pN [some<|jb false p,some .lam,some<|W6 true (jb false p) (.lst true L) (.dN true cb) (.dK true ok ov) (.dT true tk tv)<|.int k]=some (.non,[some<|jb false p,some .lam,some<|W6 true (jb false p) (.lst true r) (.dN true b) (.dK true c l) (.dT true n o)<|.int ((k+1:Nat):Int)]):=by
      unfold kz;show(bif true&&(frzs []&&(YZ WF [jb false p,.lst true L,.dN true cb,.dK true ok ov,.dT true tk tv,.int k] "go_on").isNone) then(yJ [W6 true (jb false p) (.lst true L) (.dN true cb) (.dK true ok ov) (.dT true tk tv)<|.int k]).bind _ else none)=_;rw[e];rfl
     unfold v9 uX;rw[O];rfl
   ·left
    rw[List.getElem?_eq_none ∅,Option.getD_none] at m;generalize W6 true (jb false p) (.lst true L) (.dN true cb) (.dK true ok ov) (.dT true tk tv) (.int k)=I at *;simp[m,vo,KF,jbj,-jQ])
  1000 0 [some<|jb false p,some .lam,some<|W6 true (jb false p) (.lst true [st0 p]) (.dN true [st0 p,.non]) (.dK true [] []) (.dT true [] [])<|.int (0:Nat)]
  ⟨[st0 p],[st0 p,.non],[],[],[],[],rfl,⟨List.nodup_cons.mpr ⟨λz=>(nomatch z),List.nodup_nil⟩,λd hd=>by rw[M7.mp hd];exact A,λd hd=>by rw[M7.mp hd];exact .z,rfl,λj Q=>absurd Q ∅,U5 _⟩,rfl,rfl,M8 _,M8 _⟩ ∅
 have R:k=L.length:=by
  have a:=kK h w.nd w.g;have m:=xU (i:=k) (a0:=jb false p) (a2:=.dN true cb) (a3:=.dK true ok ov) (a4:=.dT true tk tv) (ρ:=[some<|jb false p,some .lam,some<|W6 true (jb false p) (.lst true L) (.dN true cb) (.dK true ok ov) (.dT true tk tv)<|.int k]) (JF w.g) (YU w.g) a rfl;rcases Nat.lt_or_ge k L.length with q | q
  ·exfalso;have s:=(w.g _<|List.getElem_mem q).tup;rw[X7 q,Option.getD_some] at m;generalize L[k]=d,W6 true (jb false p) (.lst true L) (.dN true cb) (.dK true ok ov) (.dT true tk tv) (.int k)=I at *;simp[m,vo,s,show KF D.non=true from rfl,jdx,-jQ] at E
  ·have:=w.i;omega
 subst R;refine⟨L,cb,ov,tv,ok,tk,?_,w⟩;have S:=yi p;have T:=jdl h;have t:Vf 1000 (YC (jh<|p2 vo (jQ ji 1 "outline_now" (pV 2) pN)<|pC .non)<|ud<|jh<|pLC 1 #[jQ ji 1 "outline_now" (pV 2) pN]) v9 [some<|jb false p,some .lam,some<|W6 true (jb false p) (.lst true [st0 p]) (.dN true [st0 p,.non]) (.dK true [] []) (.dT true [] [])<|.int 0]=_:=C;have U:jX (dP<|YI yn 1 #[pF<|pV 0]) (jd [] 2) [some<|jb false p,some .lam,none]=some (.nx [some<|jb false p,some .lam,some<|W6 true (jb false p) (.lst true [st0 p]) (.dN true [st0 p,.non]) (.dK true [] []) (.dT true [] [])<|.int 0]):=by
  generalize W6 true (jb false p) (.lst true [st0 p]) (.dN true [st0 p,.non]) (.dK true [] []) (.dT true [] []) (.int 0)=I at *;generalize jb false p=P at *;simp[S,T]
 unfold kG;rw[jE];show(J6 [some<|jb false p,some .lam,none]).bind _=_;unfold J6;rw[Jt,U];show((jv _ _) _).bind _=_;rw[Jt,t];rfl
def u7{p:Pl}(h:PlOk p):∃ L,vx [jb false p]=↑L/\Wk p L L.length:=by
 obtain⟨L,a,b,c,ok,d,e,w⟩:=jgh h;refine⟨L,?_,w⟩;have f:=yi p;have i:=vh _ f;have j:yf [jb false p]=some (W6 true (jb false p) (.lst true L) (.dN true a) (.dK true ok b) (.dT true d c)<|.int (L.length:Int)):=by
  generalize W6 true (jb false p) (.lst true L) (.dN true a) (.dK true ok b) (.dT true d c) (.int (L.length:Int))=I at *;generalize jb false p=P at *;simp[yf,jE,Jy,f,i,e,fz,frz]
 unfold vx;rw[jE];show(qm [some<|jb false p]).bind _=_;unfold qm;have g:vP 1 "outlines" (kh yf #[pV 0]) [some<|jb false p]=↑L:=by
  have g:kh yf #[pV 0] [some<|jb false p]=some (W6 true (jb false p) (.lst true L) (.dN true a) (.dK true ok b) (.dT true d c)<|.int (L.length:Int)):=by
   generalize W6 true (jb false p) (.lst true L) (.dN true a) (.dK true ok b) (.dT true d c) (.int (L.length:Int))=I at *;generalize jb false p=P at *;simp[f,j]
  unfold vP;rw[g];rfl
 unfold yQ dP;rw[g];rfl
def jeT(n:Nat)(N:List WN)(f:WN->Bool):yX (n+1) (N.map λn=>D.bl<|f n)=true:=ve λd hd=>by obtain⟨x,_,rfl⟩:=M5.mp hd;rfl
def je3{p:Pl}(h:PlOk p){d:D}(hd:Olg p d)(n:Nat):okE (n+4) d=true:=by
 obtain⟨o,b,rfl⟩:=hd;have f:∀ q∈o.R,Nm q.1:=λq g=>by
  have m:q.1∈(gr p).1:=by rw[<- b.r];exact M5.mpr ⟨q,g,rfl⟩
  obtain⟨x,a,e⟩:=(wj h).i _ m;rw[<- e];exact(h.l x a).c
 have i (n:Nat) (v:Int):okE (n+1) (.int v)=true:=rfl;have j:okE (n+3) (.tup<|o.R.map jI)=true:=ve λd hd=>by
  obtain⟨x,a,rfl⟩:=M5.mp hd;show yX (n+1) [.str x.1,.int x.2]=true;simp[yX,okw (f x a).r,i n]
 have k:okE (n+3) (.tup<|(nC p).map λn=>.bl<|o.al n)=true:=jeT _ _ _;have s:okE (n+3) (.tup<|(nP p).map λn=>.bl<|o.fu n)=true:=jeT _ _ _;show yX (n+3) [.tup<|o.R.map jI,.tup<|(nC p).map λn=>.bl<|o.al n,.tup<|(nP p).map λn=>.bl<|o.fu n]=true;simp only[yX,j,k,s];rfl
def ja7{p:Pl}(h:PlOk p){L:List D}(a:∀ d∈L,Olg p d):okE 20 (.lst true L)=true:=ve λd hd=>je3 h (a d hd) 15
theorem two_loop{a0 a1 a2:Option D}:∀{R:List Qt}{o3:Option D},∃ r3,yU (jd [] 3) vA (R.map jI) [a0,a1,a2,o3]=some (.nx [a0,a1,a2,r3])
 | [],o3=>⟨o3,rfl⟩
 | q::R,o3=>by
  obtain⟨r3,e⟩:=two_loop (a0:=a0) (a1:=a1) (a2:=a2) (R:=R) (o3:=some<|jI q);refine⟨r3,?_⟩;have a:jd [] 3 (jI q) [a0,a1,a2,o3]=some [a0,a1,a2,some<|jI q]:=rfl;have b:vA [a0,a1,a2,some<|jI q]=some (.nx [a0,a1,a2,some<|jI q]):=by
   simp[vA,ue,tyD,QZ]
  rw[L5,yb,a,L4,b,L4,vn];exact e
theorem Ky:∀{l:List D}{o0:Option D},(∀ d∈l,∃ b,d=.bl b)->jS (jd [] 0) qT (YF "bool"<|pV 0) l [o0]=some (l.map λ_=>.bl true)
 | [],_,_=>rfl
 | d::l,o0,h=>by
  obtain⟨b,rfl⟩:=h d L7;have e:=Ky (l:=l) (o0:=some<|.bl b) λx a=>h x<|L6 _ a;have c:jd [] 0 (.bl b) [o0]=some [some<|.bl b]:=rfl;rw[jD,c,L4,L5];simp[e,tyD,QZ]
def wg(l:List D):kj (l.map λ_=>D.bl true)=some (l.map λ_=>true):=by
 induction l with
 | nil=>rfl
 | cons d l a=>rw[L5,L5];simp[kj,a]
def jgX{p:Pl}(h:PlOk p){d:D}(hd:Olg p d):kS [jb false p,d]=some (.bl true):=by
 have fd:=vV hd;obtain⟨o,J,rfl⟩:=hd;have c3:=h.c3;have g:=h.p2;have l:=J0 p o;have q:=J1 p o;have r:=J2 p o;have s:=P1 false p;have t:=P2 false p;have a:=jG o.R;have i:=jf _ a;have u:∀ d∈((nC p).map λn=>D.bl<|o.al n)++(nP p).map λn=>D.bl<|o.fu n,∃ b,d=.bl b:=λd hd=>by
  rcases N1.mp hd with hd | hd<;>obtain⟨x,_,rfl⟩:=M5.mp hd<;>exact⟨_,rfl⟩
 have v:=Ky (o0:=none) u;have w:=wg<|((nC p).map λn=>D.bl<|o.al n)++(nP p).map λn=>D.bl<|o.fu n;have e:=yZ (nC p) o.al;have f:=yZ (nP p) o.fu;have m:((nC p).map λn=>D.bl<|o.al n).length=(p.C.map kq).length:=by unfold nC;simp
 have l2:((nP p).map λn=>D.bl<|o.fu n).length=(p.P.map jI).length:=by unfold nP;simp
 have K:(p.C.map kq).length<=3:=by rw[L1];exact c3
 have L:(p.P.map jI).length<=2:=by rw[L1];exact g
 obtain⟨y,A⟩:=two_loop (a0:=some<|jb false p) (a1:=some<|jK p o) (a2:=some<|.tup<|(nP p).map λn=>.bl<|o.fu n) (R:=o.R) (o3:=none);have B:yU (jd [] 2) Jx [.tup<|o.R.map jI,.tup<|(nC p).map λn=>.bl<|o.al n,.tup<|(nP p).map λn=>.bl<|o.fu n] [some<|jb false p,some<|jK p o,none,none]=some (.nx [some<|jb false p,some<|jK p o,some<|.tup<|(nP p).map λn=>.bl<|o.fu n,none]):=rfl;have F:tyD (jK p o)=some "tuple":=rfl;have len:yE [jK p o]=some (.int 3):=rfl;have j:pIt (pF<|pV 1) [some<|jb false p,some<|jK p o,none,none]=some [.tup<|o.R.map jI,.tup<|(nC p).map λn=>.bl<|o.al n,.tup<|(nP p).map λn=>.bl<|o.fu n]:=by
  show(bif frz (jK p o) then some (jK p o) else none).bind _=_;rw[fd];show some (fzs [.tup<|o.R.map jI,.tup<|(nC p).map λn=>.bl<|o.al n,.tup<|(nP p).map λn=>.bl<|o.fu n])=_;simp only[fzs,fz,jf _ a,jf _ e,jf _ f]
 have G:jz (.tup<|(nC p).map λn=>.bl<|o.al n) (.tup<|(nP p).map λn=>.bl<|o.fu n)=some (.tup<|((nC p).map λn=>.bl<|o.al n)++(nP p).map λn=>.bl<|o.fu n):=by
  have ne:((nC p).map λn=>D.bl<|o.al n).isEmpty=false:=by
   rw[List.isEmpty_eq_false_iff];intro z;have:=congrArg List.length z;rw[m,L1] at this;have:=h.c0;rw[List.length_nil] at *;omega
  show(bif lim (_+_)&&(frzs _&&frzs _)&&!List.isEmpty _ then some (D.tup<|_++_) else none)=_;rw[e,f,ne,ki ∅];rfl
 generalize((nC p).map λn=>D.bl<|o.al n)=B1 at *;generalize((nP p).map λn=>D.bl<|o.fu n)=B2 at *;generalize jK p o=E,jb false p=PP,o.R.map jI=RR,p.C.map kq=CC,p.P.map jI=PQ at *;have k:jS (jd [] 0) qT (YF "bool"<|pV 0) (B1++B2) (jO [none] [some PP,some E,some<|D.tup B2,y])=some ((B1++B2).map λ_=>.bl true):=v;have H:lim (B1++B2).length=true:=ki (by rw[N4];omega);have I:frzs (B1++B2)=true:=VS e f;generalize B1++B2=BB at *;have c:pIt (pF<|p2 jq (pV 1)<|pI 0) [some PP,some E,some<|.tup B2,none]=some RR:=by
  have i:fzs RR=RR:=jf _ a;simp[l,a,Je,i]
 simp[kS,c,jE,Y8,QZ,F,len,j,B,l,a,i,A,q,r,s,t,m,l2,e,f,G,k,H,I,w,jhV,itB,-pIt]
noncomputable abbrev zr(c:WN):D:=.tup [.str c,.int 0]
def ji6(N:List WN):frzs (N.map zr)=true:=yy λd hd=>by obtain⟨x,_,rfl⟩:=M5.mp hd;rfl
def jk8{c:WN}{N:List WN}(a:Lt c)(g:∀ n∈N,Lt n):Vh (zr c) (.lst true<|N.map zr)=some (.bl<|!decide (c∈N)):=by
 have ok:∀ n,Lt n->okE 20 (zr n)=true:=λn b=>by
  show yX 19 [.str n,.int 0]=true;simp[yX,okw b,show okE 19 (.int 0)=true from rfl]
 have f:yX 20 (N.map zr)=true:=ve λd hd=>by obtain⟨x,h,rfl⟩:=M5.mp hd;exact ok x<|g x h
 have e:((N.map zr).any λy=>eqD y<|zr c)=decide (c∈N):=by
  rw[Bool.eq_iff_iff,List.any_eq_true,decide_eq_true_iff];constructor
  ·rintro⟨y,i,j⟩;obtain⟨n,b,rfl⟩:=M5.mp i;have:n=c:=by simpa [eqD,QH] using j
   rw[<- this];exact b
  ·intro a;exact⟨zr c,M5.mpr ⟨c,a,rfl⟩,by simp[eqD,QH]⟩
 show(bif okE 20 (zr c)&&yX 20 (N.map zr) then some (D.bl<|!((N.map zr).any λy=>eqD y<|zr c)) else none)=_;rw[ok c a,f,e];rfl
theorem Yk{a0 a1 a2:Option D}{tl:Rh}:∀{L:List Lk}{S:Gw}{o4 o5 o6:Option D},S.1.length+L.length<=100->(∀ l∈L,Lt l.1)->(∀ n∈S.1,Lt n) ->
  ∃ r4 r5 r6,yU (gT 3<|gC (jd [] 4)<|gC (jd [] 5)<|gC (jd [] 6) gN) Yg (L.map vH) (a0::a1::a2::↑(S.1.map zr)::o4::o5::o6::tl)=some (.nx<|a0::a1::a2::↑((L.foldl grow S).1.map zr)::r4::r5::r6::tl)
 | [],S,o4,o5,o6,_,_,_=>⟨o4,o5,o6,rfl⟩
 | l::L,S,o4,o5,o6,hl,g,f=>by
  have b:=g l L7;have h:(gT 3<|gC (jd [] 4)<|gC (jd [] 5)<|gC (jd [] 6) gN) (vH l) (a0::a1::a2::↑(S.1.map zr)::o4::o5::o6::tl)=some (a0::a1::a2::↑(S.1.map zr)::some (.str l.1)::some (.int l.2.1)::some (.str l.2.2)::tl):=rfl;have d:=jk8 b f;have i:Yg (a0::a1::a2::↑(S.1.map zr)::some (.str l.1)::some (.int l.2.1)::some (.str l.2.2)::tl)=some (.nx<|a0::a1::a2::↑((grow S l).1.map zr)::some (.str l.1)::some (.int l.2.1)::some (.str l.2.2)::tl):=by
   have j:lim (S.1.map zr).length=true:=ki (by rw[L1,M1] at *;omega);by_cases c:l.1∈S.1
   ·have e:(grow S l).1=S.1:=by unfold grow;dsimp only;rw[if_pos c]
    rw[e];rw[X1 c] at d;generalize S.1.map zr=Z at *;simp[Yg,d,jc,-Vh,pV]
   ·have e:(grow S l).1=S.1++[l.1]:=by unfold grow;dsimp only;rw[if_neg c]
    rw[e,N5,List.map_singleton];rw[X2 c] at d;generalize S.1.map zr=Z at *;simp[Yg,d,jc,j,-Vh,pV]
  have m:(grow S l).1.length<=S.1.length+1:=by
   unfold grow;dsimp only;split
   ·omega
   ·rw[N4];exact M8 _
  obtain⟨r4,r5,r6,e⟩:=Yk (a0:=a0) (a1:=a1) (a2:=a2) (tl:=tl) (L:=L) (S:=grow S l) (o4:=some<|.str l.1) (o5:=some<|.int l.2.1) (o6:=some<|.str l.2.2) (by rw[M1] at hl;omega) (λx k=>g x<|L6 _ k) (λn a=>by
   unfold grow at a;dsimp only at a;split at a
   ·exact f n a
   ·rcases N1.mp a with a | a
    ·exact f n a
    ·rw[M7.mp a];exact b)
  exact⟨r4,r5,r6,by rw[L5,yb,h,L4,i,L4,vn,X0];exact e⟩
def wX{p:Pl}(h:PlOk p){L:List D}(hn:L.Nodup)(r:∀ d∈L,Olg p d){a0 a3 a4 a5 a6 a7 o9:Option D}{tl:Rh}:
  ∃ kn r9,QM 2 (jd [2] 9) JW (a0::some (jb false p)::↑L::a3::a4::a5::a6::a7::some (.dN true [])::o9::tl)=some (.nx<|a0::some (jb false p)::↑L::a3::a4::a5::a6::a7::some (.dN true kn)::r9::tl)/\ky kn=L/\kn.length=2*L.length:=by
 have t:=kK h hn r;obtain⟨J,e,kn,r9,rfl,a,b⟩:=jbQ (i:=2) (o:=true) (l:=L) (G:=jd [2] 9) (f:=JW) (λj ρ=>∃(kn:List D) (r9:Option D),ρ=(a0::some (jb false p)::↑L::a3::a4::a5::a6::a7::some (.dN true kn)::r9::tl)/\ky kn=L.take j/\kn.length=2*(ky kn).length)
  (by rintro j ρ ⟨kn,r9,rfl,_⟩;rfl)
  (by
   rintro j x ρ c ⟨kn,r9,rfl,a,b⟩;have z:x∈L:=List.mem_of_getElem? c;have A:j<L.length:=(L9.mp c).1;have g:=r x z;have n:=vV g;have u:=Yi h g;have B:=jgX h g;have v:=yi p;have C:=vh _ v;have E:=vh _ n;have F:=Yv h g (l:=kn) (by rw[a];exact λk H=>r k<|List.mem_of_mem_take H);have w:kr x kn=false:=by
    cases e:kr x kn with
    | false=>rfl
    | true=>
     exfalso;have m:=F.mp e;rw[a] at m;obtain⟨i,I,y⟩:=List.getElem_of_mem m;rw[X8] at I;rw[List.getElem_take] at y;have:=(L9.mp c).2;have q:=(List.getElem_inj (h₀:=by omega) (h₁:=A) hn).mp (y.trans this.symm);omega
   have K:kn.length<=640:=by rw[b,a,X8];omega
   refine⟨n,_,(a0::some (jb false p)::↑L::a3::a4::a5::a6::a7::some (.dN true<|kn++[x,.bl true])::some x::tl),rfl,.inl ?_,kn++[x,.bl true],some x,rfl,?_,?_⟩
   ·have s:Vt 8 Jc (pV 9) (pC<|.bl true) (a0::some (jb false p)::↑L::a3::a4::a5::a6::a7::some (.dN true kn)::some x::tl)=some (.nx<|a0::some (jb false p)::↑L::a3::a4::a5::a6::a7::some (.dN true<|kn++[x,.bl true])::some x::tl):=by
     show(bif (frz (.bl true)&&frz x)&&(hkD x&&!kr x kn)&&lim kn.length then _ else _)=_;rw[n,u,w,ki ∅];rfl
    generalize jb false p=P at *;show JW (a0::some P::↑L::a3::a4::a5::a6::a7::some (.dN true kn)::some x::tl)=_;simp[JW,v,C,E,n,B,u,w,VX,s,pV]
   ·rw[Kh b,a,List.take_add_one,c];rfl
   ·rw[Kh b];simp;omega) (ρ:=(a0::some (jb false p)::↑L::a3::a4::a5::a6::a7::some (.dN true [])::o9::tl)) ⟨[],o9,rfl,by simp[ky],rfl⟩
 rw[List.take_length] at a;exact⟨kn,r9,e,a,by rw[b,a]⟩
def jdc{p:Pl}(h:PlOk p){L kn md td:List D}{d:D}{c0 c1 c2 c3 c4 c5 c6 c7 c12 c13 c14:Option D}(hd:Olg p d)(j:∀ x∈L,Olg p x)(c:ky kn=L)(n:d∈L)(hm:∀ x∈ky md,Olg p x)(h2:md.length=2*(ky md).length)(hl:md.length<=640)(o:td.length<=320):
  ∃ md' td' new,JU [c0,c1,c2,c3,c4,c5,c6,c7,some<|.dN true kn,some d,↑td,some<|.dN true md,c12,c13,c14]=some (.nx [c0,c1,c2,c3,c4,c5,c6,c7,some<|.dN true kn,some d,↑td',some<|.dN true md',c12,c13,c14])
   /\ ky md'=ky md++new/\md'.length=2*(ky md').length/\td'=td++new/\((d∈ky md/\new=[])\/(¬ d∈ky md/\new=[d])):=by
 have fd:=vV hd;have b:=Yi h hd;have f:kr d kn=true:=(Yv h hd (l:=kn)<|by rw[c];exact j).mpr (by rw[c];exact n);have g:=Yv h hd (l:=md) hm;by_cases m:d∈ky md
 ·refine⟨md,td,[],?_,(M9 _).symm,h2,(M9 _).symm,.inl ⟨m,rfl⟩⟩;have a:=g.mpr m;simp[JU,VX,b,f,a]
 ·have a:kr d md=false:=by
   cases e:kr d md with
   | true=>exact absurd (g.mp e) m
   | false=>rfl
  have i:=Kh (k:=d) (v:=.bl true) h2;refine⟨md++[d,.bl true],td++[d],[d],?_,i,by rw[i];simp;omega,rfl,.inr ⟨m,rfl⟩⟩;have s:Vt 11 Jc (pV 9) (pC<|.bl true) [c0,c1,c2,c3,c4,c5,c6,c7,some<|.dN true kn,some d,↑td,some<|.dN true md,c12,c13,c14]=some (.nx [c0,c1,c2,c3,c4,c5,c6,c7,some<|.dN true kn,some d,↑td,some<|.dN true<|md++[d,.bl true],c12,c13,c14]):=by
   show(bif (frz (.bl true)&&frz d)&&(hkD d&&!kr d md)&&lim md.length then _ else _)=_;rw[fd,b,a,ki ∅];rfl
  have lt:lim td.length=true:=ki ∅;simp[JU,VX,b,f,a,s,fd,lt]
structure Mt(p:Pl)(L md td:List D)(k:Nat):Prop where
 nd:(ky md).Nodup
 s:∀ x∈ky md,x∈L
 t:∀ x∈td,x∈ky md
 l:md.length=2*(ky md).length
 n:k+td.length=(ky md).length
 z:st0 p∈ky md
 c:∀ x∈ky md,x∈td \/ ∀ e,Nx p x e->e∈ky md
def jgM{p:Pl}(h:PlOk p){L kn md td:List D}{k:Nat}{c0 c2 c3 c4 c5 c6 c7 c9 c12 c13 c14:Option D}(w:Wk p L L.length)(W:ky kn=L)(M:Mt p L md td k)(r:0<td.length):
  ∃ md' td' o9 o12 o13,Yx [c0,some<|jb false p,c2,c3,c4,c5,c6,c7,some<|.dN true kn,c9,↑td,some<|.dN true md,c12,c13,c14]=some (.nx [c0,some<|jb false p,c2,c3,c4,c5,c6,c7,some<|.dN true kn,o9,↑td',some<|.dN true md',o12,o13,c14])/\Mt p L md' td' (k+1):=by
 have Q:=kK h w.nd w.g;have H:∀ x∈ky md,Olg p x:=λx o=>w.g x<|M.s x o;have lM:=kK h M.nd H;obtain⟨T,d,rfl⟩:∃ T d,td=T++[d]:=⟨td.dropLast,td.getLast (by intro z;rw[z] at r;exact absurd r<|by decide),(List.dropLast_concat_getLast _).symm⟩;have B:d∈ky md:=M.t d<|N1.mpr<|.inr<|M7.mpr rfl;have gd:=H d B;have X:=M.s d B;obtain⟨S,nm,_,I,cS,fS,lS,Y⟩:=xw h gd;have J:=yi p;have Z:=vh _ J;have fT:frzs (T++[d])=true:=JF λx o=>H x<|M.t x o;have fd:=vV gd;have nL:=M.n;rw[N4,List.length_singleton] at nL;obtain⟨i,R,ei⟩:=List.getElem_of_mem X;have cl:∀ e,Nx p d e->e∈L:=λe hn=>w.c i R d (by rw[X7 R,ei]) e hn;obtain⟨ρ',el,md',new,o9,o12,o13,rfl,y,K,u,E,v⟩:=yS (G:=gT 3<|gC (jd [] 12)<|gC (jd [] 13)<|gC (jd [] 9) gN) (f:=JU) (xs:=S)
  (λj ρ=>∃(md' new:List D) (o9 o12 o13:Option D),ρ=[c0,some<|jb false p,c2,c3,c4,c5,c6,c7,some<|.dN true kn,o9,↑(T++new),some<|.dN true md',o12,o13,c14]/\ky md'=ky md++new/\md'.length=2*(ky md').length/\(ky md').Nodup/\(∀ x∈ky md',x∈L)/\∀ t∈S.take j,∀ a b e,t=D.tup [.int a,.int b,e]->e∈ky md') (by
  rintro j t ρ o ⟨md',new,o9,o12,o13,rfl,y,K,u,E,v⟩;have mt:t∈S:=List.mem_of_getElem? o;obtain⟨a,b,e,rfl,ge⟩:=Y t mt;have C:∀ x∈ky md',Olg p x:=λx o=>w.g x<|E x o;have lM':=kK h u C;have U:e∈L:=cl e ⟨S,a,b,I,mt⟩;have le:(ky md').length=(ky md).length+new.length:=by rw[y,N4]
  obtain⟨N,td2,nw,eb,F,q2,rfl,O⟩:=jdc h (L:=L) (kn:=kn) (md:=md') (td:=T++new) (d:=e) (c0:=c0) (c1:=some<|jb false p) (c2:=c2) (c3:=c3) (c4:=c4) (c5:=c5) (c6:=c6) (c7:=c7) (c12:=some<|.int a) (c13:=some<|.int b) (c14:=c14) ge w.g W U C K ∅ (by rw[N4];omega);refine⟨_,_,rfl,.inl eb,N,new++nw,some e,some<|.int a,some<|.int b,by rw[List.append_assoc],by rw[F,y,List.append_assoc],q2,?_,?_,?_⟩
  ·rw[F];rcases O with⟨_,rfl⟩ | ⟨m,rfl⟩
   ·rw[M9];exact u
   ·exact jbo u m
  ·intro x o;rw[F] at o;rcases N1.mp o with o | o
   ·exact E x o
   ·rcases O with⟨_,rfl⟩ | ⟨m,rfl⟩
    ·exact nomatch o
    ·rw[M7.mp o];exact U
  ·intro t r a' b' e' V;rw[F];rcases vX o r with r | r
   ·exact N1.mpr<|.inl<|v t r a' b' e' V
   ·rw[V] at r;injection r with r;injection r with _ r;injection r with _ r;injection r with r;rw[r];rcases O with⟨m,_⟩ | ⟨_,rfl⟩
    ·exact N1.mpr<|.inl m
    ·exact N1.mpr<|.inr<|M7.mpr rfl) (ρ:=[c0,some<|jb false p,c2,c3,c4,c5,c6,c7,some<|.dN true kn,c9,↑T,some<|.dN true md,c12,c13,c14])
  ⟨md,[],c9,c12,c13,by rw[M9],(M9 _).symm,M.l,M.nd,M.s,λt r=>by simp at r⟩
 refine⟨md',T++new,o9,o12,o13,?_,u,E,?_,K,?_,?_,?_⟩
 ·have ep:jj6 10 [c0,some<|jb false p,c2,c3,c4,c5,c6,c7,some<|.dN true kn,c9,↑(T++[d]),some<|.dN true md,c12,c13,c14]=some (d,[c0,some<|jb false p,c2,c3,c4,c5,c6,c7,some<|.dN true kn,c9,↑T,some<|.dN true md,c12,c13,c14]):=by
   show((T++[d]).getLast?).bind (λd'=>bif frzs (T++[d]) then some (d',[c0,some<|jb false p,c2,c3,c4,c5,c6,c7,some<|.dN true kn,c9,some<|.lst true (T++[d]).dropLast,some<|.dN true md,c12,c13,c14]) else none)=_;rw[fT,List.getLast?_concat,List.dropLast_concat];rfl
  have ec:YT yM (Qu (dP<|pF<|pV 1)<|Qu (jj6 10) jjZ) [c0,some<|jb false p,c2,c3,c4,c5,c6,c7,some<|.dN true kn,c9,↑(T++[d]),some<|.dN true md,c12,c13,c14]=some (.lst true S,[c0,some<|jb false p,c2,c3,c4,c5,c6,c7,some<|.dN true kn,c9,↑T,some<|.dN true md,c12,c13,c14]):=by
   have f2:frzs [jb false p,d]=true:=by simp[frzs,J,fd]
   generalize jb false p=P at *;simp[YT,J,ep,f2,I]
  unfold Yx sFz;show(wk _ _ _ [c0,some<|fz<|jb false p,c2,c3,c4,c5,c6,c7,some<|.dN true kn,c9,↑(T++[d]),some<|.dN true md,c12,c13,c14])=_;rw[Z];unfold wk;rw[ec];exact el
 ·intro x o;rw[y];rcases N1.mp o with o | o
  ·exact N1.mpr<|.inl<|M.t x<|N1.mpr<|.inl o
  ·exact N1.mpr<|.inr o
 ·rw[y,N4,N4];omega
 ·rw[y];exact N1.mpr<|.inl M.z
 ·intro x o;rw[y] at o;rcases N1.mp o with o | o
  ·rcases M.c x o with q | q
   ·rcases N1.mp q with q | q
    ·exact .inl<|N1.mpr<|.inl q
    ·right
     rw[M7.mp q];rintro e ⟨S',a,b,A,ms⟩;rw[I] at A;injection A with A;injection A with _ A;subst A;exact v _ (by rw[List.take_length];exact ms) a b e rfl
   ·exact .inr λe he=>by rw[y];exact N1.mpr<|.inl<|q e he
  ·exact .inl<|N1.mpr<|.inr o
def jcK{p:Pl}(h:PlOk p){L kn:List D}{c0 c2 c3 c4 c5 c6 c7 c9 c12 c13 c14:Option D}(w:Wk p L L.length)(u:ky kn=L):
  ∃ md o9 o12 o13,Vf 1000 (jh<|p2 V5 (pCB yE #[pV 10])<|pI 0) Yx [c0,some<|jb false p,c2,c3,c4,c5,c6,c7,some<|.dN true kn,c9,some<|.lst true [st0 p],some<|.dN true [st0 p,.bl true],c12,c13,c14]=some (.nx [c0,some<|jb false p,c2,c3,c4,c5,c6,c7,some<|.dN true kn,o9,some<|.lst true [],some<|.dN true md,o12,o13,c14])/\md.length=2*L.length:=by
 have v:st0 p∈L:=List.mem_of_getElem? w.h;obtain⟨k,J,y,⟨md,td,o9,o12,o13,rfl,M⟩,A⟩:=JT (B:=320) (q:=jh<|p2 V5 (pCB yE #[pV 10])<|pI 0) (f:=Yx)
  (λk ρ=>∃(md td:List D) (o9 o12 o13:Option D),ρ=[c0,some<|jb false p,c2,c3,c4,c5,c6,c7,some<|.dN true kn,o9,↑td,some<|.dN true md,o12,o13,c14]/\Mt p L md td k)
  (by
   rintro k ρ ⟨md,td,o9,o12,o13,rfl,M⟩;have:=kK h M.nd λx a=>w.g x<|M.s x a;have:=M.n;omega)
  (by
   rintro k ρ ⟨md,td,o9,o12,o13,rfl,M⟩;rcases Nat.eq_zero_or_pos td.length with q | q
   ·left
    have:td=[]:=List.eq_nil_of_length_eq_zero q;subst this;simp
   ·right
    obtain⟨b,i,C,j,m,e,E⟩:=jgM h (c0:=c0) (c2:=c2) (c3:=c3) (c4:=c4) (c5:=c5) (c6:=c6) (c7:=c7) (c9:=o9) (c12:=o12) (c13:=o13) (c14:=c14) w u M q;refine⟨?_,_,e,b,i,C,j,m,rfl,E⟩;have o:¬ td=[]:=λz=>by rw[z] at q;exact absurd q (by decide)
    simp[o,q])
  1000 0 [c0,some<|jb false p,c2,c3,c4,c5,c6,c7,some<|.dN true kn,c9,some<|.lst true [st0 p],some<|.dN true [st0 p,.bl true],c12,c13,c14]
  ⟨[st0 p,.bl true],[st0 p],c9,c12,c13,rfl,List.nodup_cons.mpr ⟨λz=>(nomatch z),List.nodup_nil⟩,λx a=>by rw[M7.mp a];exact v,λx a=>a,rfl,rfl,M7.mpr rfl,λx a=>.inl a⟩ ∅
 have t:td=[]:=by
  rcases Nat.eq_zero_or_pos td.length with q | q
  ·exact List.eq_nil_of_length_eq_zero q
  ·exfalso;have o:¬ td=[]:=λz=>by rw[z] at q;exact absurd q (by decide)
   simp[o,q] at A
 subst t;have F:∀ x∈ky md,∀ e,Nx p x e->e∈ky md:=λx a=>(M.c x a).resolve_left λz=>nomatch z
 have all:∀ d,Rch p d->d∈ky md:=λd G=>by
  induction G with
  | z=>exact M.z
  | s _ H I=>exact F _ I _ H
 have K:=jdK M.nd M.s;have l2:=jdK w.nd λd hd=>all d<|w.r d hd;exact⟨md,o9,o12,o13,y,by rw[M.l];omega⟩
theorem Jh{α:Type}(en:α->D)(b:Bool):∀{l:List α}{o0:Option D},jS (jd [] 0) qT (pC<|.bl b) (l.map en) [o0]=some (l.map λ_=>D.bl b)
 | [],_=>rfl
 | x::l,o0=>by
  have e:=Jh en b (l:=l) (o0:=some<|en x);have a:jd [] 0 (en x) [o0]=some [some<|en x]:=rfl;rw[L5,jD,a,L4,L5];simp[e]
def Kv{α:Type}(l:List α)(b:Bool):frzs (l.map λ_=>D.bl b)=true:=yy λd hd=>by obtain⟨x,_,rfl⟩:=M5.mp hd;rfl
def jdV{p:Pl}(h:PlOk p){c0 c2 c4 c5 c6:Option D}:vN #[pCB vi #[pV 3],pCB vi #[yB (JD<|p2 jq (pV 1)<|pI 1) (jd [] 0) qT (pC<|.bl true) [none]],pCB vi #[yB (JD<|p2 jq (pV 1)<|pI 2) (jd [] 0) qT (pC<|.bl false) [none]]] [c0,some<|jb false p,c2,↑((gr p).1.map zr),c4,c5,c6,none,none,none,none,none,none,none,none]=some (st0 p):=by
 have d:st0 p=.tup [.tup<|(gr p).1.map zr,.tup<|p.C.map λ_=>.bl true,.tup<|p.P.map λ_=>.bl false]:=by
  unfold st0 jK nC nP;simp only[U1,Function.comp_def]
 rw[d];have e:=P1 false p;have f:=P2 false p;have g:=kY p.C;have i:=jG p.P;have j:=ji6 (gr p).1;have k:lim (p.C.map kq).length=true:=ki (by rw[L1];have:=h.c;omega);have m:lim (p.P.map jI).length=true:=ki (by rw[L1];have:=h.p6;omega);have n:=Jh kq true (l:=p.C) (o0:=none);have o:=Jh jI false (l:=p.P) (o0:=none);have q:=Kv p.C true;have r:=Kv p.P false;generalize(p.C.map λ_=>D.bl true)=B1 at *;generalize(p.P.map λ_=>D.bl false)=B2 at *;generalize p.C.map kq=CC,p.P.map jI=PQ at *;generalize(gr p).1.map zr=ZZ at *;generalize jb false p=PP at *;have a:jS (jd [] 0) qT (pC<|.bl true) CC (jO [none] [c0,some PP,c2,↑ZZ,c4,c5,c6,none,none,none,none,none,none,none,none])=some B1:=n;have b:jS (jd [] 0) qT (pC<|.bl false) PQ (jO [none] [c0,some PP,c2,↑ZZ,c4,c5,c6,none,none,none,none,none,none,none,none])=some B2:=o;simp[e,f,itB,g,i,k,m,a,b,vi,jb5,q,r,j,jc]
def sq{a b:FS}{ρ ρ':Rh}{o:Option Out}(h:a ρ=some (.nx ρ'))(h2:b ρ'=o):jv a b ρ=o:=by rw[Jt,h];exact h2
def jcZ{ns:List Int}(P:jgA ns):wL [.lst false<|ns.map D.int]=some (.bl true):=by
 obtain⟨p,J,h⟩:=jjv P;obtain⟨L,K,w⟩:=u7 h;have j:=v7 ns;have k:=Jg ns;have v:=yi p;have x:=vh _ v;have M:=jcL p;have N:=kK h w.nd w.g;have y:=JF w.g;have Q:=jf _ y;have fl:=kf p.L;have R:=jf _ fl;have T:=P5 false p;generalize ns.map D.int=NS at *;obtain⟨a,b,d,U⟩:=Yk (a0:=‹NS›) (a1:=some<|jb false p) (a2:=↑L) (tl:=[none,none,none,none,none,none,none,none]) (L:=p.L) (S:=([],λ_=>0)) (o4:=none) (o5:=none) (o6:=none) (by have:=h.l2;simp;omega) (λl hl=>(h.l l hl).c.r) (λn V=>by cases V);have W:=jdV h (c0:=‹NS›) (c2:=↑L) (c4:=a) (c5:=b) (c6:=d);obtain⟨i,A,X,Y,Z⟩:=wX h w.nd w.g (a0:=‹NS›) (a3:=↑((gr p).1.map zr)) (a4:=a) (a5:=b) (a6:=d) (a7:=some<|st0 p) (o9:=none) (tl:=[none,none,none,none,none]);obtain⟨t,o,e,f,B,C⟩:=jcK h (c0:=‹NS›) (c2:=↑L) (c3:=↑((gr p).1.map zr)) (c4:=a) (c5:=b) (c6:=d) (c7:=some<|st0 p) (c9:=A) (c12:=none) (c13:=none) (c14:=none) w Y;have E:=ja3 h;have O:=vV E;have h0:=Yi h E;have m:=je3 h E 16;have F:wM (st0 p) (st0 p)=some (.bl false):=jgE m m rfl;have G:vy (jb false p) (jb true p)=some (.bl true):=uF (jiw h) (jiw h) (by rw[M,x]);have H:vy (.lst true L) (.lst true L)=some (.bl true):=uF (ja7 h w.g) (ja7 h w.g) rfl;have u:=w.h;have i0:jq (.lst true L) (.int 0)=some (st0 p):=by
  have:=(L9.mp u).1;rw[jf4 (by decide) ∅];exact u
 have Ln:¬ L=[]:=λz=>by rw[z] at u;cases u
 unfold wL;rw[jE];show(uN [‹NS›,none,none,none,none,none,none,none,none,none,none,none,none,none,none]).bind _=_
 suffices q:uN [‹NS›,none,none,none,none,none,none,none,none,none,none,none,none,none,none]=some (.rt (.bl true) [‹NS›,some<|jb false p,some<|.lst true [],↑((gr p).1.map zr),a,b,d,some<|st0 p,some<|.dN true i,o,some<|.lst true [],some<|.dN true t,e,f,↑L]) by rw[q];rfl
 unfold uN;refine sq (ρ':=[‹NS›,some<|jb true p,none,none,none,none,none,none,none,none,none,none,none,none,none]) ?_<|sq (ρ':=[‹NS›,some<|jb false p,↑L,none,none,none,none,none,none,none,none,none,none,none,none]) ?_<|sq (ρ':=[‹NS›,some<|jb false p,↑L,some<|.lst true [],none,none,none,none,none,none,none,none,none,none,none]) ?_<|sq (ρ':=[‹NS›,some<|jb false p,↑L,↑((gr p).1.map zr),a,b,d,none,none,none,none,none,none,none,none]) ?_<|sq (ρ':=[‹NS›,some<|jb false p,↑L,↑((gr p).1.map zr),a,b,d,some<|st0 p,none,none,none,none,none,none,none]) ?_<|sq (ρ':=[‹NS›,some<|jb false p,↑L,↑((gr p).1.map zr),a,b,d,some<|st0 p,none,none,none,none,none,none,none]) ?_<|sq (ρ':=[‹NS›,some<|jb false p,↑L,↑((gr p).1.map zr),a,b,d,some<|st0 p,some<|.dN true [],none,none,none,none,none,none]) ?_<|sq X<|sq (ρ':=[‹NS›,some<|jb false p,↑L,↑((gr p).1.map zr),a,b,d,some<|st0 p,some<|.dN true i,A,some<|.lst true [st0 p],none,none,none,none]) ?_<|sq (ρ':=[‹NS›,some<|jb false p,↑L,↑((gr p).1.map zr),a,b,d,some<|st0 p,some<|.dN true i,A,some<|.lst true [st0 p],some<|.dN true [st0 p,.bl true],none,none,none]) ?_<|sq B<|sq (ρ':=[‹NS›,some<|jb false p,↑L,↑((gr p).1.map zr),a,b,d,some<|st0 p,some<|.dN true i,o,some<|.lst true [],some<|.dN true t,e,f,↑L]) ?_<|sq (ρ':=[‹NS›,some<|jb false p,some<|.lst true [],↑((gr p).1.map zr),a,b,d,some<|st0 p,some<|.dN true i,o,some<|.lst true [],some<|.dN true t,e,f,↑L]) ?_ ?_
 ·generalize jb true p=PT at *;simp[j,k,J,fz,frz]
 ·unfold sFz;show jX _ _ [‹NS›,some<|fz<|jb true p,none,none,none,none,none,none,none,none,none,none,none,none,none]=_;rw[M];generalize jb false p=PP at *;simp[v,x,K]
 ·rfl
 ·generalize jb false p=PP at *;show((pIt (pF<|p2 jq (pV 1)<|pI 5) _).bind _)=_;have I:pIt (pF<|p2 jq (pV 1)<|pI 5) [‹NS›,some PP,↑L,some<|.lst true [],none,none,none,none,none,none,none,none,none,none,none]=some (p.L.map vH):=by
   generalize p.L.map vH=LL at *;simp[T,fl,R,Je,frz]
  rw[I,L4];exact U
 ·unfold jX dP;rw[W];rfl
 ·generalize st0 p=s at *;simp[tyD,QZ,Ln,i0,F]
 ·rfl
 ·generalize st0 p=s at *;simp[O,jc]
 ·generalize st0 p=s at *;simp[O,h0,frz]
 ·simp[jbW,jb5,jlY,y,Q]
 ·show(bif frzs L then _ else _)=_;rw[y];rfl
 ·have d1:Kt [.dN true t]=some (.int (L.length:Int)):=by
   rw[Q9,C,Nat.mul_div_cancel_left _<|by decide]
  have d2:Kt [.dN true i]=some (.int (L.length:Int)):=by
   rw[Q9,Z,Nat.mul_div_cancel_left _<|by decide]
  generalize jb true p=PT,jb false p=PP at *;simp[d1,d2,j,k,J,fz,frz,G,v,x,K,H,-Q9]
noncomputable def pL:Pos:=⟨133,25,133,46⟩
noncomputable def qL:Str:="whole_walk.<locals>.<lambda>"
structure TxL(K:W3)(mg:W5)(c P:Addr):Prop where
 hw:jmf K mg "whole_walk" (top 16) ["pool"] 1 c
 hs:Js K mg "states_of" (top 17) ["pool"] 1
 hl:Js K mg "law" (top 32) ["_law_script","_law_pool_here","_law_told","_law_looked","_law_claim","_law_days","_law_name","_law_start","_law_known","_law_outline","_law_todo","_law_met","_law_kills","_law_cut","_law_kept"] 1
 hd:PySem.W.codeHdIn K c P=true
 hm:mainGlobals≠P
section
variable {Pr:Program}{w:World}{K:W3}{mg:W5}{cl:Nat->Addr}{c P:Addr}(T:Txt Pr w K mg cl)(L:TxL K mg c P)
include T L
theorem jlC:OkT Pr w K mg P "whole_walk" (top 16) 8 ["pool"] (spT ⟨K,cl⟩ P pL qL yf 1):=by
 have O:=(jet T).2.2.2.2.2.2.2.2.2.2.2.2.2.2.2.2.2.2.2.2.2.2.2.2.2.2.2.2.2.2;obtain⟨S,f,fd,F,b⟩:=L.hw;refine⟨f,fd,F,λbase B=>jkb F.fn b S (λvs H Q E h=>by rw[ut h];rfl) λA outer s H vs Q E d h=>?_⟩
 suffices q:∃ a,QR cl P pL qL (ug CX0 Pr w K mg base ["pool"] "whole_walk" (jt<|top 16) f (.ref c) A outer s H E).nox (yp<|top 16) a (kh kG #[pV 0,pC .lam]) from let ⟨a,q⟩:=q;⟨_,q.sem,jbH q.den h⟩
 apply Exists.intro;apply jeC;refine jfv O d (jcr 0) rfl L.hd B L.hm rfl ?_;exact λ_ _ _=>⟨rfl,rfl,rfl,λx e=>(by cases M7.mp e;exact λh=>(nomatch h)),⟨_,_,rfl⟩,⟨"outline",rfl,λu=>rfl⟩,rfl,rfl,rfl,rfl,rfl⟩
theorem jlf:OkT Pr w K mg P "states_of" (top 17) 9 ["pool"] (spT ⟨K,cl⟩ P pL qL vx 1):=by
 have O:=jlC T L;obtain⟨S,f,fd,F⟩:=L.hs;refine⟨f,fd,F,λbase B=>F.fn.ok S (λvs H Q E h=>by rw[ut h];rfl) λa A outer s H vs Q E c h=>?_⟩
 suffices q:∃ b,QR cl P pL qL (ug CX0 Pr w K mg base ["pool"] "states_of" (jt<|top 17) f a A outer s H E).nox (yp<|top 17) b (vP 1 "outlines"<|kh yf #[pV 0]) from let ⟨b,q⟩:=q;⟨_,q.sem,jbH q.den h⟩
 apply Exists.intro;apply jeC;refine' jhH (te:=JA (spT ⟨K,cl⟩ P pL qL yf 1) [] E0<|yW (vk 0) JB) T.C1 T.N1_outlines ?_;apply zB
 all_goals first | exact O | exact B | exact c | exact rfl | exact Qm (jcr 0) uw | decide +kernel
set_option maxHeartbeats 40000000 in
theorem jiq:OkT Pr w K mg P "law" (top 32) 10 ["_law_script"] (spW ⟨K,cl⟩ P pL qL wL 1):=by
 have O:=jlf T L;obtain⟨S,f,fd,F⟩:=L.hl;obtain⟨U,V,W,X,Y,Z,o7,o8,o9,g,i,j,k,l,m,n,o,p,r,u,v,x,y,z,C,D,G,a,I,J,M⟩:=jet T;obtain⟨fS,N,FS,R⟩:=a;cases T;refine⟨f,fd,F,λbase B=>F.fn.ok S (λvs H Q E h=>by rw[jgc h];rfl) λb A outer s H vs Q E e h=>?_⟩
 suffices q:∃ c,QLs cl P pL qL (ug CX0 Pr w K mg base ["_law_script","_law_pool_here","_law_told","_law_looked","_law_claim","_law_days","_law_name","_law_start","_law_known","_law_outline","_law_todo","_law_met","_law_kills","_law_cut","_law_kept"] "law" (jt<|top 32) f b A outer s H E).nox (yp<|top 32) c uN from let ⟨c,q⟩:=q;⟨c,q.sem,jgC q.den h⟩
 apply Exists.intro;refine' yG ?_ (jbY ?_<|yG ?_<|yG ?_<|yG ?_<|yG ?_<|yG ?_<|yG ?_<|yG ?_<|yG ?_<|yG ?_<|yG ?_<|yG ?_<|jhu ?_)
 all_goals
  repeat' first | exact rfl | (show QL1 _ _ _ _ _ _ _ _;first | apply QL1.fz | apply jjJ | apply jjG) | (show QPL _ _ _ _ _ _ _ _;first | apply jfq | apply jhe | apply jfu | apply zB) | (show QB _ _ _ _ _;first | apply jcr | apply qI | apply jkP | apply jfk | apply je4 | apply QP.fzb | apply jbu | apply QK.ix | apply QK.fld | apply QP.bb) | (show QBs _ _ _ _ _;first | apply Qm | apply uw) | (show QSs _ _ _ _ _ _;first | apply jat | apply xb | apply uE | apply jaM) | (show QPs _ _ _ _ _;first | apply jaj | apply jeb) | (show QE _ _ _ _ _;first | (refine' jg9 rfl FS (R _) ?_ ?_ ?_) | apply jjh | apply jl3 | apply jaR | apply zV | apply QP.d) | (show QP _ _ _ _ _;first | ((with_reducible show QP _ _ _ _ (pCB jbW _));refine' JP KI jfH ?_ Y5 ?_) | ((with_reducible show QP _ _ _ _ (pCB Kt _));apply jjt) | ((with_reducible show QP _ _ _ _ (YF "list" _));refine' YJ (T:="list") (by decide) ?_ ?_ Y5 ?_) | ((with_reducible show QP _ _ _ _ (pCB vi _));refine' JP Ja xl ?_ ke ?_) | ((with_reducible show QP _ _ _ _ (pCB jhX _));refine' vd (Kq rfl) jd0 ?_ K4 ?_) | ((with_reducible show QP _ _ _ _ (pCB jhR _));refine' vd (Kk rfl) jd0 ?_ Kc ?_) | ((with_reducible show QP _ _ _ _ (pCB jh3 _));refine' vd (Kj rfl) jez ?_ KL ?_) | ((with_reducible show QP _ _ _ _ (pCB jhV _));refine' vd (xT rfl) jed ?_ Kb ?_) | ((with_reducible show QP _ _ _ _ (pCB Yd _));apply jev) | ((with_reducible show QP _ _ _ _ (pCB YV _));refine' JP (YS rfl) xW ?_ Y6 ?_) | ((with_reducible show QP _ _ _ _ (pCB ji4 _));refine' vd (zJ rfl) jel ?_ Ko ?_) | ((with_reducible show QP _ _ _ _ (YF "tuple" _));refine' YJ (T:="tuple") (by decide) ?_ ?_ ke ?_) | ((with_reducible show QP _ _ _ _ (YF "str" _));refine' YJ (T:="str") (by decide) ?_ ?_ Kr ?_) | ((with_reducible show QP _ _ _ _ (YF "int" _));refine' YJ (T:="int") (by decide) ?_ ?_ KN ?_) | ((with_reducible show QP _ _ _ _ (YF "bool" _));refine' YJ (T:="bool") (by decide) ?_ ?_ Vk ?_) | ((with_reducible show QP _ _ _ _ (pBM "str" Yb _ _));refine' jl0 PySem.F.plainAttrs_str PySem.F.slot_str_index PySem.F.type_str_index zD xv ?_ ?_) | apply jke | apply qS | apply jfg | apply jix | apply jad | apply jf3 | apply jig | apply jiz | apply jl9 | apply jjU | apply jl8 | apply u6 | apply jin | apply jd9 | apply jfx | apply jjV | apply jjC | apply jfy | apply jaT | apply xt | apply jh2 | apply jbr | apply jl2 | apply jeq | apply jiU | apply jja | apply jki | apply jka | apply jiO | apply jaQ | apply jeH | apply Kx | apply QK.add | apply QK.len | apply QK.meth | apply QK.isI | apply QK.call | apply jjH | apply QB.f) | (show QS _ _ _ _ _ _;first | apply jef | apply jgt | apply jgr | apply jhE | apply jiG | apply jeD | apply jei | apply QS.fz | apply jeK | apply zI | apply J3 (hsw:=by with_unfolding_all rfl) | apply je8 | apply jbg | apply jac | apply uP | apply xk | apply jb7 | apply jaq | apply V9 | apply zu | apply jeL) | (show QT _ _ _ _ _;first | apply jd7 | apply jeu | apply jer | apply QW.t) | (show QG _ _ _ _ _ _;first | apply jbm | apply jay | apply QK.g_tup) | (show QGs _ _ _ _ _ _;first | apply xS | apply jaO) | (show QO _ _ _ _ _;first | apply jb1 | apply jbB) | (show QIb _ _ _ _ _ _;first | apply jaf | apply QI.b') | (show QI _ _ _ _ _ _;first | apply jej | apply jbc | apply jaI | apply ja9) | (show QL _ _ _ _ _ _;first | apply jeM | apply jek) | (show QW _ _ _ _ _;first | apply jem | apply jbE | apply jjn | apply jeB) | apply xP | apply jl4 | apply jlZ | apply jlL | apply jlR | apply jl6 | apply jlK | apply c_notin | apply zP | apply jkN | apply jdb | (show QDs _ _ _ _ _;first | apply jgu | apply jim) | apply ul | apply QK.c_notin | apply rfl | exact Or.inl rfl | exact Or.inr rfl | exact Or.inr (Or.inl rfl) | exact Or.inr (Or.inr rfl) | exact λ_=>rfl | exact λ_ _=>rfl | exact λ_ _ _=>rfl | exact e.mono (by decide) | exact e.mono (by first | exact M8 _ | exact Nat.le_add_left _ _ | exact N7 (by decide)<|Nat.le_add_right _ _) | apply xa | exact S.nd | (show BlockOk _ _ _ _;exact bkN S) | exact PassesOwn.never | exact jec | exact je0 | (intro _ _ _ _;first | show QP _ _ _ _ _ | show QG _ _ _ _ _ _ | show QIf _ _ _ _ _ | show QT _ _ _ _ _ | show QKv _ _ _ _ _ _) | exact⟨rfl,rfl,rfl,rfl⟩ | exact ndN (by decide +kernel) | decide +kernel | with_unfolding_all rfl | apply jeG | apply Vw | apply xz | apply jb4 | assumption | apply jbt | apply jcW | apply Kn | apply xX | apply Vw | apply jio
end
end K45
set_option maxHeartbeats 0
namespace K45
open PySem L2 QD
def clF(a b:Addr):Nat->Addr
 | 0=>a
 | _=>b
def all_mk{l:PySem.W.OpenLaw}{w:World}{K:W3}{mg:W5}{fa a0 a1 c P:Addr}(hfa:mg "law" = some (.ref fa))(_:PySem.W.nsIn K mainGlobals "OutlineDay" = some (some<|.ref a0))(_:PySem.W.nsIn K mainGlobals "Walk" = some (some<|.ref a1))(T:Txt l.prog w K mg<|clF a0 a1)(L:TxL K mg c P):∃(fd:FuncData) (c:Addr),PySem.W.codeHdIn K c P=true/\(∀(s:Shared) (v:Value),BindsTo s fd ⟨[v],[]⟩ [("_law_script",v)])/\∀ base:Heap,base.BuiltinsAt mg P->FnOk l.prog w K mg base CX0 10 fa fd ["_law_script"] (λvs H Q E=>∀ cl:Nat->Addr,spW ⟨K,cl⟩ P pL qL wL 1 vs H Q E):=by
 obtain⟨f',fd',F',G'⟩:=jiq T L;cases hfa.symm.trans F'.mgf;obtain⟨⟨oc,od,kV,doc,pm,an,cdv,ct,osl,rfl,_,_⟩,_⟩:=F'.fn;exact⟨_,c,L.hd,λs v=>.of_eq rfl,λbase B=>(G' base B).imp λvs H Q E h=>h<|clF a0 a1⟩
def walk{l:PySem.W.OpenLaw}{q:Program}{loose:List Str}{XP:(Str->Option Value)->Heap->Prop}{YP:World->Heap->Prop}{d:DefRec}{K:Params->PySem.W.Frag}{P:Addr}(hn:l.most=some 63)(hdf:d.params.defaults=[])
  (hY:∀(w:World) (h:Heap),YP w h->(K w.params).In h/\h.get? P=some (PySem.W.tabObj<|List.toArray [])) (hKP:∀ w:World,(K w.params).lookup P=none)
  (F:∀(w:World) (mg:W5) (fa:Addr) (h:Heap),(K w.params).In h->h.Ns mainGlobals mg->mg d.name=some (.ref fa) ->
   ∃(fd:FuncData) (c:Addr),PySem.W.codeHdIn (K w.params) c P=true/\(∀(s:Shared) (u:Value),BindsTo s fd ⟨[u],[]⟩ [("_law_script",u)])/\∀ base:Heap,base.BuiltinsAt mg P->FnOk l.prog w (K w.params) mg base CX0 10 fa fd ["_law_script"] (λvs H Q E=>∀ cl:Nat->Addr,spW ⟨K w.params,cl⟩ P pL qL wL 1 vs H Q E)):
  PySem.W.WalkO q loose XP YP l.row.toRowW d [] (λf vs=>PySem.call f vs):=
 jd3 (n:=63) (k:=10) (x:="_law_script") (sp:=λw=>(λvs H Q E=>∀ cl:Nat->Addr,spW ⟨K w.params,cl⟩ P pL qL wL 1 vs H Q E)) hn (by decide) hdf ⟨rfl,by decide,by decide⟩ hY hKP F λ_ H a ns hl hb h1 h2 h3=>λ_=>jhD (jcZ hb) h1 h2 h3
end K45
namespace PySem.W.Fast
def tw13015503234444266249:=0
def tw579228907166649274:=0
def tw2120125144065158770:=0
def tw16907945555747749668:=0
def tw9488808275512685178:=0
def tw16431987095475966732:=0
def tw7659851791446387662:=0
def tw6084270165361098270:=0
def tw13054553202053320369:=0
def tw9386151871371355168:=0
def tw13998412658280457116:=0
def tw3975111046642894225:=0
def tw2946347318946731806:=0
def tw2966092923197029213:=0
def tw16643550487828714004:=0
def tw17086071568125640578:=0
def tw17313683246243978358:=0
def tw3012350766772444222:=0
def tw445826774449908770:=0
def tw11645791473421284582:=0
def tw347789875690591214:=0
def tw3390300556837681533:=0
def tw16376874725986719209:=0
def tw15962309007526624228:=0
def tw277170533449968724:=0
def tw12598067372209357819:=0
def tw9519420054015308559:=0
def tw9120919674888462517:=0
def tw6203954904637745937:=0
def tw9251834963774846423:=0
def tw8324873474417231060:=0
def tw17852998504275461244:=0
def tw526483956962101824:=0
def tw7982055043464987449:=0
def tw13956577883931259789:=0
def tw14415299285280898645:=0
def tw10935032964636229134:=0
def tw329781448056007706:=0
def tw17413158634285332596:=0
def tw9883907013756664717:=0
def tw6890384595826955562:=0
def tw830765424040897681:=0
def tw15052285045248832352:=0
def tw13539612652113466988:=0
def tw11057948813164622042:=0
def tw6947846381633919572:=0
def tw12400300303708209210:=0
def tw17722116518272500869:=0
def tw14985135374438335130:=0
def tw5457126668603872316:=0
def tw16994871246038239962:=0
def tw5999439614575364619:=0
def tw7708347629810074298:=0
def tw7839177298941773890:=0
def tw14915215620636242264:=0
def tw2319434487034362727:=0
def tw15904636162109645899:=0
def tw7823911803593687476:=0
def tw1540336594813476217:=0
def tw6870834985095029441:=0
def tw4710498148502917869:=0
def tw13135376788417112437:=0
def tw3517091962170627867:=0
def tw11874014004820137148:=0
def tw9938459256147256192:=0
def tw336207400422026770:=0
def tw17225514641944823316:=0
def tw5859653520680741042:=0
def tw234180748307536752:=0
def tw2828184775143159874:=0
def tw8431020642663509128:=0
def tw10024390488268805900:=0
def tw11910002807083232107:=0
def tw2152398346141998459:=0
def tw13097351875466318727:=0
def tw14962027294760920651:=0
def tw1996981554824673178:=0
def tw12322767244701464294:=0
def tw39865732404529802:=0
def tw11475109343435872220:=0
def tw12810490047958620738:=0
def tw17012699679420423819:=0
def tw8742444692366008750:=0
def tw5741209739844146517:=0
def tw12231095737321600023:=0
def tw14015435631537625844:=0
def tw15244241283537504498:=0
def tw5127918265756360575:=0
def tw15323360130824212949:=0
def tw14471241170969044441:=0
def tw1871602425453002592:=0
end PySem.W.Fast
set_option maxHeartbeats 0
open PySem PySem.W PyProof.Rows
set_option maxRecDepth 100000 in
set_option maxHeartbeats 0 in
theorem PySem.Challenge.cw_tranchefall_k45_outlines_closed_holds : PySem.Challenge.rw_tranchefall_k45_outlines_closed.Holds := by
 w_on;o_law;k_head;(case hw=>w_witness2)
 k_fill
 refine' K45.walk (l:=PySem.Challenge.rw_tranchefall_k45_outlines_closed) rfl rfl (λw h Y=>⟨km_in_of Y,km_tabs_of Y _<|List.Mem.head _⟩) ?K ?F
 case F =>
  intro w mg fa h KX G hmg;refine' K45.all_mk hmg ?c ?c1 ?t ?L
  (case c | c1=>k_is)
  case L =>
   refine' ⟨⟨QD.fsc,QD.hasC KX G (by k_is) (by k_is) (by k_is) (by k_is) ?_⟩,⟨QD.fsc,QD.hasF KX G (by k_is) (by k_is) (by k_is) (by k_is) ?_⟩,⟨QD.fsc,QD.hasF KX G (by k_is) (by k_is) (by k_is) (by k_is) ?_⟩,by kernel_rfl,by decide⟩
   all_goals (intro _ _ _ _ _ _;(repeat refine QD.uS λ_=>?_);exact QD.u0 rfl)
  case t =>
   constructor
   all_goals first
    | ((first | refine⟨QD.fsc,QD.hasF KX G (by k_is) (by k_is) (by k_is) (by k_is) ?_⟩ | refine⟨QD.fsc,QD.hasM (by k_is) (by k_is) (by k_is) (by k_is) (by k_is) ?_⟩);intro _ _ _ _ _ _;(repeat refine QD.uS λ_=>?_);exact QD.u0 rfl)
    | exact PySem.W.mg_none_of KX G (by k_is) | exact PySem.W.mg_of KX G (by k_is) | exact⟨by k_is,by k_is,by k_is,by k_is⟩ | k_is | (show PySem.W.findIn _ _ _=_;k_is)
 case K=>intro w;kernel_rfl
