import PyProof.Rows.All
import Wide.All
import OpenK.AllK
import Wide.FinOn
import Lean
import PyProof.EqAt
import PyProof.EqKinds
import PyProof.TupleCall
import KE.KItemsList
import KE.KRevIter
import PyProof.CollectIter
import PyProof.DictWalks
import PyProof.WalksMore
import PyProof.SumWalkG
import KE.KSortTup
import PyProof.Draws
import KE.KTupSum
import PyProof.DictValues
import KE.KDictList
import PyProof.Rows.SortShell
import PySem.Challenge.RW_tranchefall_k34_day_by_day
set_option Elab.async false
set_option linter.all false
set_option compiler.extract_closed false
set_option genSizeOf false
noncomputable section
local macro_rules|`(↥$x)=>`(($x).heap.objs.size)|`(⇑$x)=>`(by simpa using $x)|`(∅)=>`(by lia)
section
open PySem PySem.Spec PyProof.Rows
abbrev L1:=@List.length_map
abbrev L3:=@wpAny_bind
abbrev L4:=@Option.bind_some
abbrev L5:=@List.map_cons
abbrev L6:=@List.mem_cons_of_mem
abbrev L7:=@List.mem_cons_self
abbrev L8:=@Heap.get?_push_of_some
abbrev L9:=@List.getElem?_eq_some_iff
abbrev M0:=@Bool.and_eq_true
abbrev M1:=@List.length_cons
abbrev M3:=@Bool.false_ne_true
abbrev M4:=@List.mem_cons
abbrev M5:=@List.mem_map
abbrev M6:=@wpAny_pure
abbrev M7:=@List.mem_singleton
abbrev M8:=@Nat.le_refl
abbrev M9:=@List.append_nil
abbrev N1:=@Heap.lt_size
abbrev N2:=@List.mem_append
abbrev N3:=@List.size_toArray
abbrev N4:=@List.length_append
abbrev N5:=@List.map_append
abbrev N6:=@Nat.ne_of_lt
abbrev N7:=@Nat.le_trans
abbrev N8:=@Int.toNat_natCast
abbrev N9:=@Int.emod_lt_of_pos
abbrev U0:=@Int.emod_nonneg
abbrev U1:=@List.map_map
abbrev U2:=@beq_eq_false_iff_ne
abbrev U3:=@List.mem_append_right
abbrev U4:=@Nat.lt_of_lt_of_le
abbrev U5:=@Nat.zero_le
abbrev U6:=@wpAny_field
abbrev U7:=@List.zip_cons_cons
abbrev U8:=@List.count_append
abbrev U9:=@List.nodup_append
abbrev X0:=@List.foldl_cons
abbrev X1:=@decide_eq_true
abbrev X2:=@decide_eq_false
abbrev X3:=@of_decide_eq_true
abbrev X4:=@Option.some.inj
abbrev X5:=@List.nil_append
abbrev X6:=@List.getElem?_eq_getElem
abbrev X7:=@List.length_take
abbrev X8:=@Heap.get?_push_size
abbrev X9:=@Nat.lt_of_le_of_lt
end
abbrev J0:=PySem.Value->PySem.Shared->Prop
abbrev W0:=List (PySem.Addr×PySem.Obj)
abbrev W1:=List (List Nat)
abbrev W4:=PySem.W.Frag
abbrev W5:=List PySem.Addr
abbrev W6:=PySem.Str->Option PySem.Value
namespace L2
inductive Ex2 {α β:Type}(P:α->β->Prop):Prop | mk:∀ x0 x1,P x0 x1->Ex2 P
inductive Ex3 {α β γ:Type}(P:α->β->γ->Prop):Prop | mk:∀ x0 x1 x2,P x0 x1 x2->Ex3 P
inductive Ex4 {α β γ δ:Type}(P:α->β->γ->δ->Prop):Prop | mk:∀ x0 x1 x2 x3,P x0 x1 x2 x3->Ex4 P
inductive Ex5 {α β γ δ ε:Type}(P:α->β->γ->δ->ε->Prop):Prop | mk:∀ x0 x1 x2 x3 x4,P x0 x1 x2 x3 x4->Ex5 P
inductive Ex6 {α β γ δ ε ζ:Type}(P:α->β->γ->δ->ε->ζ->Prop):Prop | mk:∀ x0 x1 x2 x3 x4 x5,P x0 x1 x2 x3 x4 x5->Ex6 P
inductive Ex8 {α β γ δ ε ζ η θ:Type}(P:α->β->γ->δ->ε->ζ->η->θ->Prop):Prop | mk:∀ x0 x1 x2 x3 x4 x5 x6 x7,P x0 x1 x2 x3 x4 x5 x6 x7->Ex8 P
inductive Ex9 {α β γ δ ε ζ η θ ι:Type}(P:α->β->γ->δ->ε->ζ->η->θ->ι->Prop):Prop | mk:∀ x0 x1 x2 x3 x4 x5 x6 x7 x8,P x0 x1 x2 x3 x4 x5 x6 x7 x8->Ex9 P
inductive Ex11 {α β γ δ ε ζ η θ ι κ μ:Type}(P:α->β->γ->δ->ε->ζ->η->θ->ι->κ->μ->Prop):Prop | mk:∀ x0 x1 x2 x3 x4 x5 x6 x7 x8 x9 x10,P x0 x1 x2 x3 x4 x5 x6 x7 x8 x9 x10->Ex11 P
inductive An2 (a b:Prop):Prop | mk:a->b->An2 a b
inductive An3 (a b c:Prop):Prop | mk:a->b->c->An3 a b c
inductive An4 (a b c d:Prop):Prop | mk:a->b->c->d->An4 a b c d
inductive An5 (a b c d e:Prop):Prop | mk:a->b->c->d->e->An5 a b c d e
inductive An6 (a b c d e f:Prop):Prop | mk:a->b->c->d->e->f->An6 a b c d e f
inductive An7 (a b c d e f g:Prop):Prop | mk:a->b->c->d->e->f->g->An7 a b c d e f g
end L2
set_option maxRecDepth 100000
namespace L2
open PySem PySem.Spec PyProof.Rows
noncomputable abbrev Key:=Sum Int Str
noncomputable def jan:Key->Value->Bool
 | .inl k,v=>Value.isInt k v
 | .inr x,v=>Value.isStrOf x v
noncomputable def jpv(w:World):Key->Int
 | .inl k=>hashInt k
 | .inr x=>hashStr w x
def jP:∀{k}{v},jan k v=true->(∃ i t,k=Sum.inl i/\v=Value.int i t)\/(∃ x t,k=Sum.inr x/\v=Value.str x t)
 | .inl i,v,h=>by
  obtain⟨t,e⟩:=Value.isInt_shape h;exact .inl ⟨i,t,rfl,e⟩
 | .inr x,v,h=>by
  obtain⟨t,e⟩:=Value.isStrOf_shape h;exact .inr ⟨x,t,rfl,e⟩
def jbf(i)(t):jan (.inl i) (.int i t)=true:=by simp[jan,Value.isInt]
def jbg(x)(t):jan (.inr x) (.str x t)=true:=by simp[jan,Value.isStrOf]
def jj9(a b):decide ((Sum.inl a:Key)=Sum.inl b)=(a==b):=by
 by_cases e:a=b
 ·subst e;simp
 ·have h:¬ (Sum.inl a:Key)=Sum.inl b:=λq=>e<|Sum.inl.inj q;rw[X2 h];exact(U2.mpr e).symm
def jlw(a b):decide ((Sum.inr a:Key)=Sum.inr b)=decide (a=b):=by
 by_cases e:a=b
 ·subst e;simp
 ·have h:¬ (Sum.inr a:Key)=Sum.inr b:=λq=>e<|Sum.inr.inj q;rw[X2 h,X2 e]
def jkT(a)(b):decide ((Sum.inl a:Key)=Sum.inr b)=false:=X2 (λq=>nomatch q)
def jlL(a)(b):decide ((Sum.inr a:Key)=Sum.inl b)=false:=X2 (λq=>nomatch q)
def jO(prog)(w):PySem.KeyKind prog w Key where
 is:=jan
 hash:=jpv w
 inj:=λv a b ha hb=>by
  rcases jP ha with⟨i,t,rfl,rfl⟩ | ⟨x,t,rfl,rfl⟩
  ·rcases jP hb with⟨j,u,rfl,e⟩ | ⟨y,u,rfl,e⟩
   ·injection e with e1 _;rw[e1]
   ·exact nomatch e
  ·rcases jP hb with⟨j,u,rfl,e⟩ | ⟨y,u,rfl,e⟩
   ·exact nomatch e
   ·injection e with e1 _;rw[e1]
 byValue:=λk v h=>by
  rcases jP h with⟨i,t,rfl,rfl⟩ | ⟨x,t,rfl,rfl⟩<;>rfl
 pyHash:=λhv h=>by
  rcases jP hv with⟨i,t,rfl,rfl⟩ | ⟨x,t,rfl,rfl⟩
  ·exact wpAny_pyHash_int h
  ·exact wpAny_pyHash_str h
 eqBool:=λhu hv h=>by
  rcases jP hu with⟨i,t,rfl,rfl⟩ | ⟨x,t,rfl,rfl⟩
  ·rcases jP hv with⟨j,u,rfl,rfl⟩ | ⟨y,u,rfl,rfl⟩
   ·rw[jj9] at h;exact wpAny_eqBool_int h
   ·rw[jkT] at h;exact SeqAt.EqAt.int_str i t y u _ _ _ _ h
  ·rcases jP hv with⟨j,u,rfl,rfl⟩ | ⟨y,u,rfl,rfl⟩
   ·rw[jlL] at h;exact SeqAt.EqAt.str_int x t j u _ _ _ _ h
   ·rw[jlw] at h;exact wpAny_eqBool_str h
 «strs»:=λk x t v h=>by
  rcases jP h with⟨i,u,rfl,e⟩ | ⟨y,u,rfl,e⟩
  ·exact nomatch e
  ·injection e with e1 _;subst e1;cases v<;>rfl
def xa(prog)(w)(i)(t):(jO prog w).is (.inl i) (.int i t)=true:=jbf i t
def zZ(prog)(w)(x)(t):(jO prog w).is (.inr x) (.str x t)=true:=jbg x t
inductive V where
 | non | bl (b:Bool) | int (i:Int) | str (x:Str) | byt (b:Array UInt8) | flt (b:UInt64) | ref (a:Addr) | ty (n:String)
 deriving DecidableEq
def RelV:V->Value->Prop
 | .non,u=>u=Value.none
 | .bl b,u=>u=Value.bool b
 | .int i,u=>∃ t,u=Value.int i t
 | .str x,u=>∃ t,u=Value.str x t
 | .byt b,u=>∃ t,u=Value.bytes b t
 | .flt b,u=>∃ t,u=Value.float b t
 | .ref a,u=>u=Value.ref a
 | .ty n,u=>u=Value.type n
abbrev Vals:List V->List Value->Prop:=Paired RelV
def Vals.length(r:Vals xs us):xs.length=us.length:=Paired.length r
theorem Vals.get:∀{xs}{us}{i:Nat}{x},Vals xs us->xs[i]?=some x->∃ u,us[i]?=some u/\RelV x u
 | _,_,_,_,.nil,e=>by simp at e
 | _,_,0,_,.cons r _,e=>by simp at e;subst e;exact⟨_,rfl,r⟩
 | _,_,i+1,x,.cons _ t,e=>by
  obtain⟨u,a,b⟩:=Vals.get t ⇑e;exact⟨u,by simpa using a,b⟩
theorem Vals.set(r:RelV x u):∀{xs}{us} i,Vals xs us->Vals (xs.set i x) (us.set i u)
 | _,_,_,.nil=>.nil
 | _,_,0,.cons _ t=>.cons r t
 | _,_,i+1,.cons q t=>.cons q<|Vals.set r i t
theorem Vals.append:∀{xs ys}{us ws},Vals xs us->Vals ys ws->Vals (xs++ys) (us++ws)
 | _,_,_,_,.nil,s=>s
 | _,_,_,_,.cons r t,s=>.cons r<|Vals.append t s
theorem Vals.take:∀{xs}{us} n,Vals xs us->Vals (xs.take n) (us.take n)
 | _,_,0,_=>.nil
 | _,_,_+1,.nil=>.nil
 | _,_,n+1,.cons r t=>.cons r<|Vals.take n t
theorem Vals.drop:∀{xs}{us} n,Vals xs us->Vals (xs.drop n) (us.drop n)
 | _,_,0,r=>r
 | _,_,_+1,.nil=>.nil
 | _,_,n+1,.cons _ t=>Vals.drop n t
def RelO:Option V->Option Value->Prop
 | some v,some u=>RelV v u
 | none,none=>True
 | _,_=>False
def KV{κ}:List (κ×V)->List (κ×Value)->Prop:=Paired λp q=>p.1=q.1/\RelV p.2 q.2
noncomputable def kV:Key->V
 | .inl i=>.int i
 | .inr x=>.str x
inductive HO where
  | lst (xs:List V)
  | tup (xs:List V)
  | dK (kvs:List (Key×V)) | dT (kvs:List (List Key×V))
  | set (S:Int->Bool) (n:Nat)
  | ins (C dx:Addr) (fs:List (Str×V))
  | own (x:Addr)
  | xd (fs:List (Str×V))
  | met (f x:Addr)
  | rng (lo hi:Int)
  | frz (o:Obj) (u:HO)
  | tbl (ps:Array Value)
  | ext (φ:Heap->Prop)
noncomputable abbrev Hp:=Addr->Option HO
noncomputable def upd(H:Hp)(a:Addr)(o:HO):Hp:=λb=>if b=a then some o else H b
def jk:upd H a o a=some o:=by unfold upd;rw[if_pos rfl]
def jd(h:b≠a):upd H a o b=H b:=by unfold upd;rw[if_neg h]
def jdK:upd (upd H a o) a u=upd H a u:=by
 funext b;unfold upd;split<;>rfl
def joe{H:Hp}{a b}{o u}(h:H a=some o)(h':H b=some u)(d:o≠u):a≠b:=by
 intro e;subst e;rw[h] at h';exact d<|X4 h'
def kh{H:Hp}{a b}{o}(h:H a=some o)(h':H b=none):a≠b:=by
 intro e;subst e;rw[h] at h';cases h'
def IsTupN(h:Heap)(a:Addr)(its:Array Value):Prop:=IsTup h a its/\∃ o,h.get? a=some o/\o.dict=none
def IsTupN.new(h:Heap)(its):IsTupN (h.push {cls:=.type "tuple",data:=.seq its}) h.objs.size its:=⟨IsTup.new h its,_,X8 _ rfl,rfl⟩
def IsTupN.lt(x:IsTupN h a its):a<h.objs.size:=x.1.lt
section
variable (P:Program)(w:World)
def ObjOk(H:Hp)(h:Heap)(a:Addr):HO->Prop
 | .lst xs=>xs.length<=sizeLine/\∃ its n,Vals xs its/\h.get? a=some {cls:=.type "list",data:=.seq its.toArray n}
 | .tup xs=>xs.length<=sizeLine/\∃ its:List Value,Vals xs its/\IsTupN h a its.toArray
 | .dK kvs=>kvs.length<=sizeLine/\(a==sysModules)=false/\∃ vs,KV kvs vs/\h.DictOf (jO P w) a vs
 | .dT kvs=>kvs.length<=sizeLine/\(a==sysModules)=false/\∃ xs:List (List Key×Addr×Value),
   Paired (λp q=>p.1=q.1/\H q.2.1=some (.tup<|p.1.map kV)/\RelV p.2 q.2.2) kvs xs /\
   ∃ o es ep,h.get? a=some o/\o.ExactDict/\o.data=.dict es ep/\es.toList=xs.map (entryOfKey<|tupleKind<|jO P w)/\(xs.map (·.1)).Nodup
 | .set S n=>h.SetOf (intKind P w) a S n
 | .ins C dx fs=>H dx=some (.own a)/\fs.length<=1000/\dx≠a/\h.get? a=some (PySem.W.instObj C dx) /\
   ∃ mA,h.Ns1 dx mA/\(∀ f,RelO (fs.lookup f)<|mA f)/\PySem.Within mA (fs.map (·.1))
 | .own _=>∃ o,h.get? a=some o
 | .xd fs=>∃ mA,h.Ns1 a mA/\∀ f,RelO (fs.lookup f)<|mA f
 | .rng lo hi=>∃ t u v,h.get? a=some {cls:=.type "range",data:=.fields #[.int lo t,.int hi u,.int 1 v]}
 | .frz o u=>h.get? a=some o/\ObjOk H h a u
 | .tbl ps=>h.get? a=some {cls:=.none,data:=.fields ps}
 | .met f x=>h.get? a=some (PySem.W.methodObj (.ref f)<|.ref x)
 | .ext φ=>φ h/\(∃ o,h.get? a=some o)/\∀ h1 h2:Heap,φ h1->(∀ o,h1.get? a=some o->h2.get? a=some o)->φ h2
def HOk(H:Hp)(h:Heap):Prop:=∀ a o,H a=some o->ObjOk P w H h a o
end
section
variable {P:Program}{w:World}{H H':Hp}{h h':Heap}{a:Addr}{o:HO}
def ObjOk.lt(x:ObjOk P w H h a o):a<h.objs.size:=by
 cases o with
 | lst c=>obtain⟨_,_,_,_,e⟩:=x;exact N1 e
 | tup c=>obtain⟨_,_,_,p⟩:=x;exact p.lt
 | dK b=>obtain⟨_,_,_,_,o,_,_,e,_⟩:=x;exact N1 e
 | dT b=>obtain⟨_,_,_,_,o,_,_,e,_⟩:=x;exact N1 e
 | set S n=>obtain⟨o,_,_,_,e,_⟩:=x;exact N1 e
 | ins C d fs=>obtain⟨_,_,_,e,_⟩:=x;exact N1 e
 | own y=>obtain⟨_,e⟩:=x;exact N1 e
 | xd fs=>obtain⟨_,⟨_,_,_,e,_⟩,_⟩:=x;exact N1 e
 | rng lo hi=>obtain⟨_,_,_,e⟩:=x;exact N1 e
 | frz ob u=>obtain⟨e,_⟩:=x;exact N1 e
 | tbl g=>exact N1<|x
 | met f y=>exact N1<|x
 | ext φ=>obtain⟨_,⟨_,e⟩,_⟩:=x;exact N1 e
theorem Paired.mapP:∀{l₁}{l₂},Paired F l₁ l₂->(∀ a b,F a b->G a b)->Paired G l₁ l₂
 | _,_,.nil,_=>.nil
 | _,_,.cons r t,f=>.cons (f _ _ r)<|Paired.mapP t f
def ObjOk.stay(x:ObjOk P w H h a o)(k:∀ b u,(b=a\/H b=some (.own a))->h.get? b=some u->h'.get? b=some u)
  (B:∀ b,H b=some (.own a)->H' b=some (.own a)) (D:∀ b xs,H b=some (.tup xs)->H' b=some (.tup xs)):ObjOk P w H' h' a o:=by
 induction o with
 | lst xs=>obtain⟨z,j,n,r,e⟩:=x;exact⟨z,j,n,r,k _ _ (.inl rfl) e⟩
 | tup xs=>obtain⟨z,j,r,⟨ob,e,c⟩,l,e2,E⟩:=x;exact⟨z,j,r,⟨ob,k _ _ (.inl rfl) e,c⟩,l,k _ _ (.inl rfl) e2,E⟩
 | dK m=>obtain⟨z,y,vs,r,ob,g,i,e,c⟩:=x;exact⟨z,y,vs,r,ob,g,i,k _ _ (.inl rfl) e,c⟩
 | dT m=>
  obtain⟨z,y,xs,r,ob,g,i,e,c⟩:=x;exact⟨z,y,xs,Paired.mapP r λp q z=>⟨z.1,D _ _ z.2.1,z.2.2⟩,ob,g,i,k _ _ (.inl rfl) e,c⟩
 | set S n=>obtain⟨ob,g,i,t,e,c⟩:=x;exact⟨ob,g,i,t,k _ _ (.inl rfl) e,c⟩
 | ins C G fs=>
  obtain⟨d,z,ne,e,s,⟨od,g,i,e2,c⟩,r⟩:=x;exact⟨B _ d,z,ne,k _ _ (.inl rfl) e,s,⟨od,g,i,k _ _ (.inr d) e2,c⟩,r⟩
 | own y=>obtain⟨ob,e⟩:=x;exact⟨ob,k _ _ (.inl rfl) e⟩
 | xd fs=>obtain⟨s,⟨od,g,i,e,c⟩,r⟩:=x;exact⟨s,⟨od,g,i,k _ _ (.inl rfl) e,c⟩,r⟩
 | rng lo hi=>obtain⟨t,u,v,e⟩:=x;exact⟨t,u,v,k _ _ (.inl rfl) e⟩
 | frz ob u F=>obtain⟨e,q⟩:=x;exact⟨k _ _ (.inl rfl) e,F q⟩
 | tbl I=>
  have e:=x;exact k a _ (.inl rfl) e
 | met f y=>
  have e:=x;exact k a _ (.inl rfl) e
 | ext φ=>obtain⟨p,⟨o,e⟩,A⟩:=x;exact⟨A _ _ p λo q=>k _ _ (.inl rfl) q,⟨o,k _ _ (.inl rfl) e⟩,A⟩
def HOk.lt(x:HOk P w H h)(e:H a=some o):a<h.objs.size:=(x a o e).lt
def HOk.fresh(x:HOk P w H h)(e:h.objs.size<=a):H a=none:=by
 cases q:H a with
 | none=>rfl
 | some u=>exact absurd (U4 (x.lt q) e)<|Nat.lt_irrefl _
def HOk.kept(x:HOk P w H h)(k:∀ b u,h.get? b=some u->h'.get? b=some u):HOk P w H h':=λa o e=>
 (x a o e).stay (λb u _ q=>k b u q) (λ_ q=>q) λ_ _ q=>q
def HOk.laid(x:HOk P w H h)(k:∀ b u,h.get? b=some u->h'.get? b=some u)(g:h.objs.size<=a)(new:ObjOk P w (upd H a o) h' a o):HOk P w (upd H a o) h':=λb u e=>by
 have d:=x.fresh g;by_cases f:b=a
 ·subst f;rw[jk] at e;cases e;exact new
 ·rw[jd f] at e;exact(x b u e).stay (λc v _ q=>k c v q) (λc q=>by rw[jd<|kh q d];exact q) λc i q=>by rw[jd<|kh q d];exact q
end
def Rd(H:Hp)(a:Addr)(u:HO):Prop:=H a=some u \/ ∃ o,H a=some (.frz o u)
def Rd.ok(r:Rd H a u)(x:HOk P w H h):ObjOk P w H h a u:=by
 rcases r with r | ⟨o,r⟩
 ·exact x a u r
 ·obtain⟨_,q⟩:=x a _ r;exact q
def Mut:Option HO->Prop
 | some (.lst _)=>True
 | some (.dK _)=>True
 | some (.dT _)=>True
 | some (.set _ _)=>True
 | some (.ins _ _ _)=>True
 | some (.ext _)=>True
 | _=>False
section
variable {P:Program}{w:World}{H:Hp}{h h':Heap}{x e:Addr}{o':HO}
def HOk.write(ok:HOk P w H h)(g:Mut<|H x)(n:e=x\/H e=some (.own x))(k:∀ b u,b≠e->h.get? b=some u->h'.get? b=some u)(m:∃ u,h'.get? e=some u)
  (new:ObjOk P w (upd H x o') h' x o'):HOk P w (upd H x o') h':=λb u q=>by
 have d:∀ c y,H c=some (.own y)->c≠x:=λc y r z=>by subst z;rw[r] at g;exact g
 have f:∀ c i,H c=some (.tup i)->c≠x:=λc i r z=>by subst z;rw[r] at g;exact g
 by_cases j:b=x
 ·subst j;rw[jk] at q;cases q;exact new
 ·rw[jd j] at q;by_cases a:b=e
  ·have o:H b=some (.own x):=by
    rcases n with z | z
    ·exact absurd (a.trans z) j
    ·rw[a];exact z
   rw[q] at o;cases o;obtain⟨v,p⟩:=m;exact⟨v,by rw[a];exact p⟩
  ·refine(ok b u q).stay (λc v l r=>k c v ?_ r) (λc r=>by rw[jd<|d c b r];exact r) λc i r=>by rw[jd<|f c i r];exact r
   rcases l with rfl | l
   ·exact a
   ·rintro rfl;rcases n with z | z
    ·exact d c b l z
    ·rw[l] at z;cases z;exact j rfl
end
structure Un(fs ex:W5)(H H':Hp)(h h':Heap):Prop where
 keep:∀ b o,h.get? b=some o->H b=none->b∉fs->b∉ex->h'.get? b=some o
 slot:∀ b o,h.get? b=some o->H b=none->b∈fs->b∉ex->∃ sl,h'.get? b=some {o with slots:=sl}
 free:∀ b o,h.get? b=some o->H b=none->b∉ex->H' b=none
 there:∀ b o,h.get? b=some o->b∉ex->∃ o',h'.get? b=some o'
 tups:∀ b xs,H b=some (.tup xs)->H' b=some (.tup xs)
 frzs:∀ b o u,H b=some (.frz o u)->H' b=some (.frz o u)
 tbls:∀ b ps,H b=some (.tbl ps)->∃ more,H' b=some (.tbl<|ps++more)
section
variable {fs fs' ex ex':W5}{H H1 H2:Hp}{h h1 h2 h':Heap}{a x e:Addr}{o:HO}
def Un.any(u:Un fs ex H H1 h h1)  (q:h.get? b=some ob) (n:H b=none) (a:b∉ex):∃ sl,h1.get? b=some {ob with slots:=sl}:=by
 by_cases c:b∈fs
 ·exact u.slot b ob q n c a
 ·exact⟨ob.slots,u.keep b ob q n c a⟩
def Un.kept(k:∀ b u,h.get? b=some u->h'.get? b=some u):Un fs ex H H h h':=
 ⟨λb ob q _ _ _=>k b ob q,λb ob q _ _ _=>⟨ob.slots,k b ob q⟩,λ_ _ _ n _=>n,λb ob q _=>⟨ob,k b ob q⟩,λ_ _ q=>q,λ_ _ _ q=>q,λ_ a q=>⟨#[],by rw[q];simp⟩⟩
def Un.refl:Un fs ex H H h h:=Un.kept λ_ _ q=>q
def Un.laid(k:∀ b u,h.get? b=some u->h'.get? b=some u)(d:h.objs.size<=a)(c:H a=none):Un fs ex H (upd H a o) h h' where
 keep:=λb u q _ _ _=>k b u q
 slot:=λb u q _ _ _=>⟨u.slots,k b u q⟩
 free:=λb u q n _=>by rw[jd<|N6<|U4 (N1 q) d];exact n
 there:=λb u q _=>⟨u,k b u q⟩
 tups:=λb e q=>by rw[jd<|kh q c];exact q
 frzs:=λb u e q=>by rw[jd<|kh q c];exact q
 tbls:=λb f q=>⟨#[],by rw[jd<|kh q c,q];simp⟩
def Un.write(c:Mut<|H x)(j:e=x\/H e=some (.own x))(k:∀ b u,b≠e->h.get? b=some u->h'.get? b=some u)(d:∃ u,h'.get? e=some u):Un fs ex H (upd H x o) h h':=by
 have g:∀ b,H b=none->b≠x:=λb n z=>by subst z;rw[n] at c;exact c
 have i:∀ b,H b=none->b≠e:=λb n z=>by
  subst z;rcases j with r | r
  ·exact g b n r
  ·rw[n] at r;cases r
 have f:∀ b u,H b=some u->¬ Mut (some u)->b≠x:=λb u q nm z=>by subst z;rw[q] at c;exact nm c
 refine⟨λb u q n _ _=>k b u (i b n) q,λb u q n _ _=>⟨u.slots,k b u (i b n) q⟩,λb u q n _=>by rw[jd<|g b n];exact n,λb u q _=>?_,
  λb l q=>by rw[jd<|f b _ q λz=>z];exact q,λb u l q=>by rw[jd<|f b _ q λz=>z];exact q,λb m q=>⟨#[],by rw[jd<|f b _ q λz=>z,q];simp⟩⟩
 by_cases a:b=e
 ·subst a;exact d
 ·exact⟨u,k b u a q⟩
end
noncomputable def trk(h:Heap)(H:Hp):List Addr:=(List.range h.objs.size).filter λa=>(H a).isSome
def jgq(h:Heap)(H:Hp):Heap:=PySem.W.hideAll h<|trk h H
def jdP(h)(H):(jgq h H).objs.size=h.objs.size:=PySem.W.hideAll_size _ _
def je3(e:h.get? b=some o)(n:H b=none):(jgq h H).get? b=some o:=
 PySem.W.hideAll_get _ e λa=>by
  have q:=(List.mem_filter.mp a).2;rw[n] at q;simp at q
def jiA(e:(jgq h H).get? b=some o):h.get? b=some o/\H b=none:=by
 have a:=PySem.W.of_hideAll (trk h H) e;refine⟨a,?_⟩;cases q:H b with
 | none=>rfl
 | some x=>
  have c:b∈trk h H:=List.mem_filter.mpr ⟨List.mem_range.mpr<|N1 a,by simp[q]⟩;have z:(jgq h H).get? b=none:=PySem.W.hideAll_none (trk h H) c;rw[z] at e;cases e
noncomputable def jgO(g h:Heap)(L:Addr):List (Addr×Obj):=(List.range h.objs.size).filterMap λa=>if a=L\/(g.get? a).isSome=true then none else(h.get? a).map λo=>(a,o)
def JR(g h:Heap)(L d:Addr):List (Addr×Obj):=(jgO g h L).filter λp=>decide<|p.1≠d
structure Mod(K:W4)(mg:W6)(base:Heap):Prop where
 kin:K.In base
 glob:base.Ns mainGlobals mg
 blt:∃ mb,base.Ns builtinsNs mb/\∀ x:Str,x≠"__name__"->mb x=bootBuiltins x
 nolimit:base.NoLimit
structure Cx where
 prog:Program
 w:World
 K:PySem.W.Frag
 mg:Str->Option Value
 base:Heap
 A:Around
 N:List Str
 s₀:Shared
 H₀:Hp
 env:Env
 outer:List Env
 stack:List Env
 ex:List Addr
 fn:Str->Bool
 calm:Bool
 pn:List (Addr×Obj)
 xe:Value->Shared->Prop
noncomputable def frs(l:List Env):List Addr:=l.filterMap (·.frame)
abbrev Cx.fs(X:Cx):List Addr:=frs X.outer
def Vis(sc:Scope)(x:Str):Prop:=sc.names.lookup x=some .local\/sc.names.lookup x=some .cell\/sc.names.lookup x=some .free
def Loc(sc:Scope)(x:Str):Prop:=sc.names.lookup x=some .local\/sc.names.lookup x=some .cell
def jpz(env:Env)(h:Heap)(m:W6)(x:Str)(u:Value):Prop:=
 (env.kindOf x=some .local/\m x=some u)\/((env.kindOf x=some .cell\/env.kindOf x=some .free)/\∃ c,env.cells.lookup x=some c/\h.IsCell c (some u))
structure Cx.Ok(X:Cx):Prop where
 mod:Mod X.K X.mg X.base
 kind:X.env.scope.kind=.function
 glob:X.env.globals=mainGlobals
 blt:X.env.builtins=builtinsNs
 above:X.s₀.heap.objs.size<=X.env.locals
 inj:∀ x y c,X.env.cells.lookup x=some c->X.env.cells.lookup y=some c->x=y
 has:∀ x,(X.env.kindOf x=some .cell\/X.env.kindOf x=some .free)->∃ c,X.env.cells.lookup x=some c
 cab:∀ x c,X.fn x=true->X.env.cells.lookup x=some c->X.s₀.heap.objs.size<=c
 hd:X.calm=true->X.A.handled=none
 frames:X.A.frames=some X.stack
 stk:X.stack=X.outer\/(X.stack=X.env::X.outer/\X.env.frame=some X.env.locals)
 exf:∀ b∈X.ex,b≠X.env.locals/\∀ x c,X.env.cells.lookup x=some c->c≠b
 bs:∀ b o,X.base.get? b=some o->X.s₀.heap.get? b=some o/\X.H₀ b=none
 bsz:X.base.objs.size<=X.s₀.heap.objs.size
 noex:∀ b o,X.base.get? b=some o->b∉X.ex
 exfs:∀ b∈X.ex,b∉X.fs
 funs:X.s₀.heap.FunFrames X.base X.outer
 frf:∀ b∈X.fs,X.H₀ b=none
structure Inv(X:Cx)(pins:W0)(σ:List<|Option V)(H:Hp)(s:Shared):Prop where
 ok:X.Ok
 os:s.os=X.s₀.os
 bare:AllBare s.gens
 base:Un X.fs X.ex X.H₀ H X.s₀.heap s.heap
 loc:∃ m,s.heap.Ns X.env.locals m/\∀(i:Nat) (x:Str) (v:V),X.N[i]?=some x->σ[i]?=some (some v)->Vis X.env.scope x->∃ u,RelV v u/\jpz X.env s.heap m x u
 cell:∀ x c,X.env.cells.lookup x=some c->∃ v,s.heap.IsCell c v
 free:H X.env.locals=none
 freeC:∀ x c,X.env.cells.lookup x=some c->H c=none
 pin:∀ p∈X.pn++pins,s.heap.get? p.1=some p.2/\H p.1=none/\p.1≠X.env.locals/\p.1∉X.fs/\∀ v,p.2.data≠.cell v
 hok:HOk X.prog X.w H s.heap
 len:σ.length=X.N.length
section
variable {X:Cx}{pins:List (Addr×Obj)}{σ:List (Option V)}{H H':Hp}{s:Shared}{h':Heap}
def Cx.Ok.nofr(ok:X.Ok)  {o}(e:X.base.get? b=some o):b∉X.fs:=λa=>by
 have:=(ok.funs.mem a).1;rw[e] at this;cases this
def Inv.bs(I:Inv X pins σ H s):∀ b o,X.base.get? b=some o->s.heap.get? b=some o/\H b=none:=λb o e=>
 ⟨I.base.keep b o (I.ok.bs b o e).1 (I.ok.bs b o e).2 (I.ok.nofr e) (I.ok.noex b o e),I.base.free b o (I.ok.bs b o e).1 (I.ok.bs b o e).2 (I.ok.noex b o e)⟩
def Inv.bk(I:Inv X pins σ H s):∀ b o,X.base.get? b=some o->s.heap.get? b=some o:=λb o e=>(I.bs b o e).1
def Inv.mod(I:Inv X pins σ H s):Mod X.K X.mg X.base:=I.ok.mod
def Inv.kIn(I:Inv X pins σ H s):X.K.In s.heap:=I.ok.mod.kin.keeps I.bk
def Inv.lt(I:Inv X pins σ H s):X.env.locals < ↥s:=let ⟨_,hn,_⟩:=I.loc;hn.lt
def Inv.sz(I:Inv X pins σ H s):X.s₀.heap.objs.size<=↥s:=N7 I.ok.above<|Nat.le_of_lt I.lt
def Inv.nofs(I:Inv X pins σ H s)  (h:↥s<=a):a∉X.fs:=λb=>by
 obtain⟨_,o,c,_⟩:=I.ok.funs.mem b;exact absurd (U4 (N1 c)<|N7 I.sz h)<|Nat.lt_irrefl _
def Inv.cne(I:Inv X pins σ H s):∀ x c,X.env.cells.lookup x=some c->c≠X.env.locals:=λx c e z=>by
 obtain⟨v,o,d,hd⟩:=I.cell x c e;obtain⟨m,⟨f,g,h,a,b,_⟩,_⟩:=I.loc;rw[z,a] at d;cases d;rw[b] at hd;cases hd
def Inv.funs(I:Inv X pins σ H s):s.heap.FunFrames X.base X.outer:=by
 have all:∀ l,(∀ b∈frs l,b∈X.fs)->X.s₀.heap.FunFrames X.base l->s.heap.FunFrames X.base l:=by
  intro l
  induction l with
  | nil=>intro _ _;trivial
  | cons env r g=>
   intro f h;obtain⟨i,⟨L,o,a,j,k,hd⟩,m⟩:=h;have c:=f L (by unfold frs;rw[List.filterMap_cons,a];exact L7);obtain⟨sl,e⟩:=I.base.slot L o k (I.ok.frf L c) c λz=>I.ok.exfs L z c;exact⟨i,⟨L,_,a,j,e,hd⟩,g (λb d=>f b<|by unfold frs;rw[List.filterMap_cons,a];exact L6 _ d) m⟩
 exact all X.outer (λ_ d=>d) I.ok.funs
def Inv.stack(I:Inv X pins σ H s):s.heap.FunFrames X.base X.stack:=by
 rcases I.ok.stk with e | ⟨e,a⟩
 ·rw[e];exact I.funs
 ·rw[e];obtain⟨m,b,_⟩:=I.loc;refine .cons (by rw[I.ok.kind];decide) a b ?_ I.funs;exact Heap.get?_none_of_le<|N7 I.ok.bsz I.ok.above
def Inv.stkSub(I:Inv X pins σ H s):∀ b∈frs X.stack,b∈X.env.locals::X.fs:=λb a=>by
 rcases I.ok.stk with e | ⟨e,c⟩
 ·rw[e] at a;exact L6 _ a
 ·rw[e] at a;unfold frs at a;rw[List.filterMap_cons,c] at a;exact a
def Inv.stkFree(I:Inv X pins σ H s):∀ b∈frs X.stack,H b=none:=λb a=>by
 rcases M4.mp (I.stkSub b a) with e | a
 ·rw[e];exact I.free
 ·obtain⟨_,o,c,_⟩:=I.ok.funs.mem a;exact I.base.free b o c (I.ok.frf b a) λz=>I.ok.exfs b z a
def Inv.step{D}{t'}{ch:W5}(I:Inv X pins σ H s)
  (f:∀ b∈ch,(b∈X.ex\/X.s₀.heap.objs.size<=b)/\b≠X.env.locals/\(∀ x c,X.env.cells.lookup x=some c->c≠b)/\∀ p∈X.pn++pins,p.1≠b)
  (keep:∀ b o,b≠X.env.locals->b∉X.fs->b∉ch->s.heap.get? b=some o->H b=none->h'.get? b=some o)
  (slot:∀ b o,b≠X.env.locals->b∈X.fs->b∉ch->s.heap.get? b=some o->H b=none->∃ sl,h'.get? b=some {o with slots:=sl}) (free:∀ b o,b∉ch->s.heap.get? b=some o->H b=none->H' b=none)
  (there:∀ b o,b∉ch->s.heap.get? b=some o->∃ o',h'.get? b=some o')
  (tups:∀ b xs,H b=some (.tup xs)->H' b=some (.tup xs)) (frzs:∀ b o u,H b=some (.frz o u)->H' b=some (.frz o u)) (tbls:∀ b ps,H b=some (.tbl ps)->∃ more,H' b=some (.tbl<|ps++more))
  (ns:∀ m,s.heap.Ns X.env.locals m->h'.Ns X.env.locals m) (hok:HOk X.prog X.w H' h') (J:AllBare D):
  Inv X pins σ H' {s with heap:=h',gens:=D,drawn:=d',toks:=t'}:=by
 have B:∀ b o,X.s₀.heap.get? b=some o->b≠X.env.locals:=λb o e=>N6<|U4 (N1 e) I.ok.above;have j:∀ b o,X.s₀.heap.get? b=some o->b∉X.ex->b∉ch:=λb o e a y=>by
  rcases(f b y).1 with z | z
  ·exact a z
  ·exact absurd (U4 (N1 e) z)<|Nat.lt_irrefl _
 have g:∀ x c,X.env.cells.lookup x=some c->∀ v,s.heap.IsCell c v->h'.IsCell c v:=λx c e v ⟨o,A,hd⟩=>by
  have h:=λz=>(f c z).2.2.1 x c e rfl;by_cases E:c∈X.fs
  ·obtain⟨sl,q⟩:=slot c o (I.cne x c e) E h A<|I.freeC x c e;exact⟨_,q,hd⟩
  ·exact⟨o,keep c o (I.cne x c e) E h A<|I.freeC x c e,hd⟩
 refine⟨I.ok,I.os,J,⟨λb o e n y a=>(keep b o (B b o e) y (j b o e a) (I.base.keep b o e n y a)<|I.base.free b o e n a),λb o e n y a=>?_,λb o e n a=>?_,λb o e a=>?_,λb xs e=>tups b xs<|I.base.tups b xs e,λb o xs e=>frzs b o xs<|I.base.frzs b o xs e,λb ps e=>?_⟩,?_,λx c e=>?_,?_,λx c e=>?_,λp F=>?_,hok,I.len⟩
 ·obtain⟨sl,t⟩:=I.base.slot b o e n y a;obtain⟨C,e2⟩:=slot b _ (B b o e) y (j b o e a) t<|I.base.free b o e n a;exact⟨C,e2⟩
 ·obtain⟨o',t⟩:=I.base.there b o e a;exact free b o' (j b o e a) t<|I.base.free b o e n a
 ·obtain⟨o',t⟩:=I.base.there b o e a;exact there b o' (j b o e a) t
 ·obtain⟨K,t⟩:=I.base.tbls b ps e;obtain⟨L,e2⟩:=tbls b _ t;exact⟨K++L,by rw[e2,Array.append_assoc]⟩
 ·obtain⟨m,M,N⟩:=I.loc;refine⟨m,ns m M,λi x v t e2 e3=>?_⟩;obtain⟨u,r,l⟩:=N i x v t e2 e3;refine⟨u,r,?_⟩;rcases l with l | ⟨k,c,e,z⟩
  ·exact .inl l
  ·exact .inr ⟨k,c,e,g x c e _ z⟩
 ·obtain⟨v,z⟩:=I.cell x c e;exact⟨v,g x c e v z⟩
 ·obtain⟨m,⟨o,_,_,A,_⟩,_⟩:=I.loc;exact free _ o (λz=>(f _ z).2.1 rfl) A I.free
 ·obtain⟨v,o,A,hd⟩:=I.cell x c e;exact free c o (λz=>(f c z).2.2.1 x c e rfl) A<|I.freeC x c e
 ·obtain⟨e,n,ne,G,d⟩:=I.pin p F;have h:=λz=>(f p.1 z).2.2.2 p F rfl;exact⟨keep p.1 p.2 ne G h e n,free p.1 p.2 h e n,ne,G,d⟩
def Inv.un{t'}(I:Inv X pins σ H s)(u:Un X.fs [] H H' s.heap h')(hok:HOk X.prog X.w H' h'):Inv X pins σ H' {s with heap:=h',toks:=t'}:=by
 obtain⟨m,⟨o,k,l,g,r⟩,_⟩:=id I.loc;obtain⟨sl,h⟩:=u.any g I.free (by simp);exact I.step (ch:=[]) (λ_ z=>nomatch z) (λb o _ c _ e n=>u.keep b o e n c<|by simp) (λb o _ c _ e n=>u.slot b o e n c<|by simp) (λb o _ e n=>u.free b o e n<|by simp) (λb o _ e=>u.there b o e<|by simp) u.tups u.frzs u.tbls (λp i=>by
  obtain⟨q,d,f,a,j⟩:=i;rw[g] at a;cases a;exact⟨_,d,f,h,j⟩) hok I.bare
def Inv.call{j}{t'}{ch}(I:Inv X pins σ H s)(u:Un (frs X.stack) ch H H' s.heap h')(hok:HOk X.prog X.w H' h')(l:AllBare j)
  (d:∀ b∈ch,(b∈X.ex\/X.s₀.heap.objs.size<=b)/\b≠X.env.locals/\(∀ x c,X.env.cells.lookup x=some c->c≠b)/\∀ p∈X.pn++pins,p.1≠b):
  Inv X pins σ H' {s with heap:=h',gens:=j,drawn:=d',toks:=t'}:=by
 obtain⟨m,⟨o,y,A,k,r⟩,_⟩:=id I.loc;obtain⟨sl,g⟩:=u.any k I.free λz=>(d _ z).2.1 rfl;exact I.step d (λb o g q a e n=>u.keep b o e n (λz=>(M4.mp<|I.stkSub b z).elim g q) a) (λb o _ _ a e n=>u.any e n a) (λb o a e n=>u.free b o e n a) (λb o a e=>u.there b o e a) u.tups u.frzs u.tbls (λB t=>by
  obtain⟨C,h,i,f,v⟩:=t;rw[k] at f;cases f;exact⟨_,h,i,g,v⟩) hok l
def Inv.turned{t'}(I:Inv X pins σ H s)(k:∀ b o,b≠it->s.heap.get? b=some o->h'.get? b=some o)(g:H it=none)(f:it≠X.env.locals)
  (h1:it∈X.ex\/X.s₀.heap.objs.size<=it) (h2:∀ x c,X.env.cells.lookup x=some c->c≠it) (h:∀ p∈X.pn++pins,p.1≠it):Inv X pins σ H {s with heap:=h',toks:=t'}:=by
 have d:∀ b u,H b=some u->b≠it:=λb u e z=>by rw[z,g] at e;cases e
 refine I.step (ch:=[it]) (λb i=>?_) (λb o _ _ a e _=>k b o (λz=>a<|by simp[z]) e) (λb o _ _ a e _=>⟨o.slots,k b o (λz=>a<|by simp[z]) e⟩) (λ_ _ _ _ n=>n)
  (λb o a e=>⟨o,k b o (λz=>a<|by simp[z]) e⟩) (λ_ _ e=>e) (λ_ _ _ e=>e) (λb y e=>⟨#[],by rw[e];simp⟩) (λm j=>?_) (λb u e=>?_) I.bare
 ·have e:b=it:=by simpa using i
  subst e;exact⟨h1,f,h2,h⟩
 ·obtain⟨o,l,t,w,r⟩:=j;exact⟨o,l,t,k _ o (Ne.symm f) w,r⟩
 ·refine(I.hok b u e).stay (λc v a q=>k c v ?_ q) (λ_ q=>q) λ_ _ q=>q;rcases a with z | z
  ·rw[z];exact d b u e
  ·exact d c _ z
def Inv.tok(I:Inv X pins σ H s)(t):Inv X pins σ H {s with toks:=t}:=I.un Un.refl I.hok
def Inv.kept(I:Inv X pins σ H s)(k:∀ b u,s.heap.get? b=some u->h'.get? b=some u):Inv X pins σ H {s with heap:=h',toks:=t'}:=I.un (Un.kept k)<|I.hok.kept k
def Inv.laid(I:Inv X pins σ H s)(k:∀ b u,s.heap.get? b=some u->h'.get? b=some u)(c:↥s<=a)(new:ObjOk X.prog X.w (upd H a o) h' a o):
  Inv X pins σ (upd H a o) {s with heap:=h',toks:=t'}:=I.un (Un.laid k c<|I.hok.fresh c)<|I.hok.laid k c new
def Inv.write(I:Inv X pins σ H s)(c:Mut<|H x)(d:e=x\/H e=some (.own x))(k:∀ b u,b≠e->s.heap.get? b=some u->h'.get? b=some u)(a:∃ u,h'.get? e=some u)
  (new:ObjOk X.prog X.w (upd H x o) h' x o):Inv X pins σ (upd H x o) {s with heap:=h',toks:=t'}:=I.un (Un.write c d k a)<|I.hok.write c d k a new
def Inv.pins_of(I:Inv X pins σ H s)(h:∀ p∈pins',s.heap.get? p.1=some p.2/\H p.1=none/\p.1≠X.env.locals/\p.1∉X.fs/\∀ v,p.2.data≠.cell v):Inv X pins' σ H s:=
 ⟨I.ok,I.os,I.bare,I.base,I.loc,I.cell,I.free,I.freeC,λp a=>(N2.mp a).elim (λz=>I.pin p<|List.mem_append_left _ z) (h p),I.hok,I.len⟩
def uA{N:List Str}(c:N.Nodup){i j:Nat}(a:N[i]?=some x)(b:N[j]?=some x):i=j:=by
 obtain⟨e,d⟩:=L9.mp a;obtain⟨f,e2⟩:=L9.mp b;exact(List.getElem_inj c).mp (d.trans e2.symm)
def jcY(I:Inv X pins σ H s)(hN:X.N.Nodup)(hi:X.N[i]?=some x)(B:Loc X.env.scope x)(r:RelV v u)
  (h:∀ s',Inv X pins (σ.set i<|some v) H s'->(∃ a,Heap.SameBut a s.heap s'.heap/\(a=X.env.locals\/X.env.cells.lookup x=some a))->Q () s') (hf:X.fn x=true\/X.env.scope.names.lookup x=some .local:=by first | exact .inl rfl | exact .inr rfl | assumption):wpAny M A (storeName X.env x u) Q E s:=by
 obtain⟨m,W,hl⟩:=id I.loc;have L:(X.env.scope.kind==.class||(X.env.scope.kind==.module&&X.env.locals != X.env.globals))=false:=by rw[I.ok.kind];rfl
 have O:i<σ.length:=by rw[I.len];exact(L9.mp hi).1
 have cne:=I.cne;have g:∀{a}{K},(∃ o,s.heap.get? a=some o/\H a=none)->Heap.SameBut a s.heap K->HOk X.prog X.w H K:=λ{a K} ha f b ob e=>by
  obtain⟨_,_,C⟩:=ha;refine(I.hok b ob e).stay (λc U t q=>(f.2 c ?_).trans q) (λ_ q=>q) λ_ _ q=>q;rintro rfl;rcases t with rfl | t
  ·rw[C] at e;cases e
  ·rw[C] at t;cases t
 rcases B with D | D
 ·refine wpAny_storeName_local D W (λK Y f=>?_) L;obtain⟨oL,_,_,Z,_⟩:=id W;refine h _ ⟨I.ok,I.os,I.bare,⟨λb o e n F B=>((f.2 b<|N6<|U4 (N1 e) I.ok.above).trans (I.base.keep b o e n F B)),λb o e n F B=>?_,I.base.free,λb o e B=>?_,I.base.tups,I.base.frzs,I.base.tbls⟩,⟨_,Y,λj y v' l e2 e3=>?_⟩,λy c e=>?_,I.free,I.freeC,λp hp=>?_,g ⟨oL,Z,I.free⟩ f,by simpa using I.len⟩ ⟨_,f,.inl rfl⟩
  ·obtain⟨sl,l⟩:=I.base.slot b o e n F B;exact⟨sl,(f.2 b<|N6<|U4 (N1 e) I.ok.above).trans l⟩
  ·obtain⟨o',l⟩:=I.base.there b o e B;exact⟨o',(f.2 b<|N6<|U4 (N1 e) I.ok.above).trans l⟩
  ·by_cases G:j=i
   ·subst G;rw[hi] at l;cases l;rw[List.getElem?_set_self O] at e2;cases e2;exact⟨u,r,.inl ⟨D,by simp⟩⟩
   ·rw[List.getElem?_set_ne<|Ne.symm G] at e2;obtain⟨u',r',q⟩:=hl j y v' l e2 e3;refine⟨u',r',?_⟩;rcases q with⟨k,e⟩ | ⟨k,c,e,z⟩
    ·refine .inl ⟨k,?_⟩;have:y≠x:=λe=>G<|uA hN l<|e▸hi;simp[this,e]
    ·exact .inr ⟨k,c,e,z.sameBut f<|cne y c e⟩
  ·obtain⟨U,z⟩:=I.cell y c e;exact⟨U,z.sameBut f<|cne y c e⟩
  ·obtain⟨e,n,ne,nf,d⟩:=I.pin p hp;exact⟨(f.2 p.1 ne).trans e,n,ne,nf,d⟩
 ·have J:X.fn x=true:=by
   rcases hf with z | z
   ·exact z
   ·rw[z] at D;cases D
  obtain⟨c,t⟩:=I.ok.has x<|.inl D;obtain⟨U,z⟩:=I.cell x c t;refine wpAny_storeName_cell I.ok.kind D t z<|λK P f=>?_;obtain⟨oc,R,S⟩:=id z;refine h {s with heap:=K} ⟨I.ok,I.os,I.bare,⟨λb o e n F B=>((f.2 b<|N6<|U4 (N1 e)<|I.ok.cab x c J t).trans (I.base.keep b o e n F B)),λb o e n F B=>?_,I.base.free,λb o e B=>?_,I.base.tups,I.base.frzs,I.base.tbls⟩,⟨m,W.sameBut f<|Ne.symm<|cne x c t,λj y v' l e2 e3=>?_⟩,λy V e=>?_,I.free,I.freeC,λp hp=>?_,g ⟨oc,R,I.freeC x c t⟩ f,by simpa using I.len⟩ ⟨c,f,.inr t⟩
  ·obtain⟨sl,l⟩:=I.base.slot b o e n F B;exact⟨sl,(f.2 b<|N6<|U4 (N1 e)<|I.ok.cab x c J t).trans l⟩
  ·obtain⟨o',l⟩:=I.base.there b o e B;exact⟨o',(f.2 b<|N6<|U4 (N1 e)<|I.ok.cab x c J t).trans l⟩
  ·by_cases G:j=i
   ·subst G;rw[hi] at l;cases l;rw[List.getElem?_set_self O] at e2;cases e2;exact⟨u,r,.inr ⟨.inl D,c,t,P⟩⟩
   ·rw[List.getElem?_set_ne<|Ne.symm G] at e2;obtain⟨u',r',q⟩:=hl j y v' l e2 e3;refine⟨u',r',?_⟩;rcases q with q | ⟨k,V,e,z'⟩
    ·exact .inl q
    ·refine .inr ⟨k,V,e,z'.sameBut f ?_⟩;rintro rfl;exact G<|uA hN l<|I.ok.inj _ _ _ e t▸hi
  ·by_cases T:V=c
   ·subst T;exact⟨_,P⟩
   ·obtain⟨w2,z2⟩:=I.cell y V e;exact⟨w2,z2.sameBut f T⟩
  ·obtain⟨e,n,ne,nf,d⟩:=I.pin p hp;refine⟨(f.2 p.1 ?_).trans e,n,ne,nf,d⟩;intro q;rw[q,R] at e;exact d U (by rw[<- (X4 e)];exact S)
def Yv(I:Inv X pins σ H s)(a:X.N.Nodup)(hi:X.N[i]?=some x)(b:Loc X.env.scope x)(r:RelV v u)
  (h:∀ s',Inv X pins (σ.set i<|some v) H s'->Q () s') (c:X.fn x=true\/X.env.scope.names.lookup x=some .local:=by first | exact .inl rfl | exact .inr rfl | assumption):wpAny M A (storeName X.env x u) Q E s:=
 jcY I a hi b r (λs' d _=>h s' d) c
end
abbrev XK:=Value->Option Addr->Hp->Prop
noncomputable abbrev St:=List<|Option V
abbrev VK:=V->Hp->Prop
abbrev TE:=St->Hp->VK->Prop
abbrev TT:=St->Hp->(Bool->Hp->Prop)->Prop
abbrev TA:=St->Hp->(List V->Hp->Prop)->Prop
structure Ends where
 nx:St->Hp->Prop
 rt:VK
 bk:St->Hp->Prop:=λ_ _=>False
 ct:St->Hp->Prop:=λ_ _=>False
abbrev TS:=Ends->St->Hp->Prop
def EP(X:Cx)(pins:W0)(σ:St)(Q:VK)(u:Value)(s':Shared):Prop:=∃ v H',Inv X pins σ H' s'/\RelV v u/\Q v H'
def TP(X:Cx)(pins:W0)(σ:St)(Q:Bool->Hp->Prop)(b:Bool)(s':Shared):Prop:=∃ H',Inv X pins σ H' s'/\Q b H'
def AP(X:Cx)(pins:W0)(σ:St)(Q:List V->Hp->Prop)(us:List Value)(s':Shared):Prop:=∃ vs H',Inv X pins σ H' s'/\Vals vs us/\Q vs H'
def SP(X:Cx)(pins:W0)(D:Ends)(f:Flow)(s':Shared):Prop:=
 match f with
 | .next=>∃ σ' H',Inv X pins σ' H' s'/\D.nx σ' H'
 | .brk=>∃ σ' H',Inv X pins σ' H' s'/\D.bk σ' H'
 | .cont=>∃ σ' H',Inv X pins σ' H' s'/\D.ct σ' H'
 | .ret u=>∃ v σ' H',Inv X pins σ' H' s'/\RelV v u/\D.rt v H'
def PE(X:Cx)(e:Expr)(t:TE):Prop:=
 ∀ pins s (σ:St) H Q,Inv X pins σ H s->t σ H Q->wpAny (model X.prog X.w) X.A (eval e X.env) (EP X pins σ Q) X.xe s
def PT(X:Cx)(e:Expr)(t:TT):Prop:=
 ∀ pins s (σ:St) H (Q:Bool->Hp->Prop),Inv X pins σ H s->t σ H Q->wpAny (model X.prog X.w) X.A (isTrue e X.env<|eval e X.env) (TP X pins σ Q) X.xe s
def PW(X:Cx)(e:Expr)(t:TT):Prop:=
 ∀ whole pins s (σ:St) H (Q:Bool->Hp->Prop),Inv X pins σ H s->t σ H Q->wpAny (model X.prog X.w) X.A (isTrue e X.env whole) (TP X pins σ Q) X.xe s
def PW.pt(h:PW X e t):PT X e t:=h _
def PA(X:Cx)(es:List Expr)(t:TA):Prop:=
 ∀ pos pins s (σ:St) H (Q:List V->Hp->Prop),Inv X pins σ H s->t σ H Q->wpAny (model X.prog X.w) X.A (spliced<|backTo pos<|starEach es X.env) (AP X pins σ Q) X.xe s
def PS(X:Cx)(st:Stmt)(t:TS):Prop:=
 ∀ pins s (σ:St) H D,Inv X pins σ H s->t D σ H->wpAny (model X.prog X.w) X.A (exec st X.env) (SP X pins D) X.xe s
def PSs(X:Cx)(st:List Stmt)(t:TS):Prop:=
 ∀ pins s (σ:St) H D,Inv X pins σ H s->t D σ H->wpAny (model X.prog X.w) X.A (execs st X.env) (SP X pins D) X.xe s
def thn(h:wpAny M A t Q E s)(b:∀ a s,Q a s->Q' a s):wpAny M A t Q' E s:=wpAny_mono h b λ_ _ x=>x
section
variable {X:Cx}
def yg(i:Nat):TE:=λσ H Q=>∃ v,σ[i]?=some (some v)/\Q v H
def tC(v:V):TE:=λ_ H Q=>Q v H
abbrev Nd(x:Str):Prop:=(x==("__debug__" : Str))=false
def jfX(k:X.N[i]?=some x)(n:Vis X.env.scope x)(hd:Nd x:=by decide)(g:(x==("__classdict__" : Str))=false:=by decide):PE X (.Name x pos) (yg i):=by
 intro f s σ H Q I h;obtain⟨v,e,h⟩:=h;obtain⟨m,o,p⟩:=I.loc;obtain⟨u,r,l⟩:=p i x v k e n;have b:EP X f σ Q u s:=⟨v,H,I,r,h⟩;rcases l with⟨d,q⟩ | ⟨d,c,j,a⟩
 ·exact wpAny_Name (wpAny_loadName_local I.ok.kind d o q b) hd
 ·rcases d with d | d
  ·exact wpAny_Name (wpAny_loadName_cell I.ok.kind d j a b) hd
  ·exact wpAny_Name (wpAny_loadName_free I.ok.kind d j a b g) hd
def jct{i j pos}:PE X (.Constant (.int i) j pos) (tC<|.int i):=λ_ _ _ H _ I h=>wpAny_Constant_int ⟨.int i,H,I.tok _,⟨_,rfl⟩,h⟩
def joj{b j pos}:PE X (.Constant (.bool b) j pos) (tC<|.bl b):=λ_ _ _ H _ I h=>Constant_bool ⟨.bl b,H,I,rfl,h⟩
def jm0{j pos}:PE X (.Constant .none j pos) (tC .non):=λ_ _ _ H _ I h=>Constant_none ⟨.non,H,I,rfl,h⟩
def jks{x j pos}:PE X (.Constant (.str x) j pos) (tC<|.str x):=λ_ _ _ H _ I h=>Calls.Constant_str ⟨.str x,H,I.tok _,⟨_,rfl⟩,h⟩
def Gl(X:Cx)(x:Str):Prop:=X.env.kindOf x=some .globalImplicit
def jc4(I:Inv X pins σ H s)(a:Gl X x)(b:X.mg x=some u)(h:Q u s)
  (hd:Nd x:=by decide):wpAny (model X.prog X.w) X.A (eval (.Name x pos) X.env) Q E s:=
 Calls.Name_function_global I.ok.kind a (Calls.loadGlobal_global (by rw[I.ok.glob];exact I.mod.glob.keeps I.bk) b h) hd
def JQ(I:Inv X pins σ H s)(a:Gl X x)(b:X.mg x=none)(c:bootBuiltins x=some u)(h:Q u s)
  (d:x≠"__name__":=by decide) (hd:Nd x:=by decide):wpAny (model X.prog X.w) X.A (eval (.Name x pos) X.env) Q E s:=by
 obtain⟨g,e,f⟩:=I.mod.blt;exact Calls.Name_function_global I.ok.kind a (Calls.loadGlobal_builtin (by rw[I.ok.glob];exact I.mod.glob.keeps I.bk) b (by rw[I.ok.blt];exact e.keeps I.bk) ((f x d).trans c) h) hd
def xH(a:Gl X x)(b:X.mg x=none)(c:bootBuiltins x=some u)(r:RelV v u)(d:x≠"__name__":=by decide)(hd:Nd x:=by decide):PE X (.Name x pos) (tC v):=
 λ_ _ _ H _ I h=>JQ I a b c ⟨v,H,I,r,h⟩ d hd
variable {a b:Expr}{ta tb:TE}{pos:Pos}
def PC(X:Cx)(op:CmpOp)(a b:Expr)(t:TE):Prop:=
 ∀ pins s (σ:St) H Q,Inv X pins σ H s->t σ H Q ->
  wpAny (model X.prog X.w) X.A (eval a X.env) (λv s₁=>wpAny (model X.prog X.w) X.A (eval b X.env) (λu s₂=>wpAny (model X.prog X.w) X.A (compareOp op v u) (EP X pins σ Q) X.xe s₂) X.xe s₁) X.xe s
def jfB(b)  (h:op≠.In) (h2:op≠.NotIn):behindInMarks op b=false:=by
 have a:(op==CmpOp.In)=false:=by cases op<;>first | rfl | exact absurd rfl h
 have e2:(op==CmpOp.NotIn)=false:=by cases op<;>first | rfl | exact absurd rfl h2
 cases b<;>simp[behindInMarks,a,e2]
def tB(t:TE):TT:=λσ H Q=>t σ H λx H1=>∃ c,x=.bl c/\Q c H1
def jmQ(h:PC X op a b t)(h1:behindInMarks op b=false:=by first | exact jfB _ (by decide) (by decide) | rfl):PE X (.Compare a [op] [b] pos) t:=λc s σ H Q I d=>wpAny_Compare1 (h c s σ H Q I d) h1
def jjP(h:PE X e t)(b:∀ whole,isTrue e X.env whole=(do let v <- whole;standAt e.pos;holding [v] (truthy v)):=by intro _;rfl):PT X e (tB t):=by
 intro a s σ H Q I c;refine isTrue_plain (thn (h a s σ H _ I c) λv s1 ⟨x,f,g,r1,i⟩=>?_)<|b _;obtain⟨d,rfl,q⟩:=i;cases r1;exact wpAny_truthy_bool ⟨f,g,q⟩
variable {tA tB':TT}{JR:List Expr}
def jnF(t u:TT):TT:=λσ H Q=>t σ H λc H1=>if c=true then u σ H1 Q else Q false H1
def tOr(t u:TT):TT:=λσ H Q=>t σ H λc H1=>if c=true then Q true H1 else u σ H1 Q
def jn6(t:TT):TT:=λσ H Q=>t σ H λc H1=>Q (!c) H1
def jic(d:PT X a tA):PW X (.BoolOp .And [a] pos) tA:=by
 intro f b s σ H Q I h;refine isTrue_and<|thn (d b s σ H Q I h) λc s1 e=>?_;cases c with
 | true=>exact isTrue_and_nil e
 | false=>exact e
def jkO(d:PT X a tA):PW X (.BoolOp .Or [a] pos) tA:=by
 intro f b s σ H Q I h;refine isTrue_or<|thn (d b s σ H Q I h) λc s1 e=>?_;cases c with
 | false=>exact isTrue_or_nil e
 | true=>exact e
def jlM(i:PT X a tA)(j:PW X (.BoolOp .And (b::JR) pos) tB'):PW X (.BoolOp .And (a::b::JR) pos) (jnF tA tB'):=by
 intro k d s σ H Q I h;refine isTrue_and<|thn (i d s σ H _ I h) λc s1 ⟨e,f,g⟩=>?_;cases c with
 | true=>exact j k d s1 σ e Q f g
 | false=>exact⟨e,f,g⟩
def jnQ(i:PT X a tA)(j:PW X (.BoolOp .Or (b::JR) pos) tB'):PW X (.BoolOp .Or (a::b::JR) pos) (tOr tA tB'):=by
 intro k d s σ H Q I h;refine isTrue_or<|thn (i d s σ H _ I h) λc s1 ⟨e,f,g⟩=>?_;cases c with
 | true=>exact⟨e,f,g⟩
 | false=>exact j k d s1 σ e Q f g
def jku(d:PT X a tA):PT X (.UnaryOp .Not a pos) (jn6 tA):=by
 intro b s σ H Q I h;exact isTrue_not<|d b s σ H (λc e=>Q (!c) e) I h
def jgM(ta tb:TE):TE:=λσ H Q=>ta σ H λx H1=>∃ c,x=.bl c/\if c=true then tb σ H1 Q else Q (.bl false) H1
def joS(ta tb:TE):TE:=λσ H Q=>ta σ H λx H1=>∃ c,x=.bl c/\if c=true then Q (.bl true) H1 else tb σ H1 Q
def jjw(ta:TE):TE:=λσ H Q=>ta σ H λx H1=>∃ c,x=.bl c/\Q (.bl<|!c) H1
def jkc{c}(h:PE X a t):PE X (.BoolOp c [a] pos) t:=λb s σ H Q I d=>BoolOp_one<|h b s σ H Q I d
def jkE(i:PE X a ta)(j:PE X (.BoolOp .And (b::JR) pos) tb):PE X (.BoolOp .And (a::b::JR) pos) (jgM ta tb):=by
 intro d s σ H Q I h;refine BoolOp_and<|thn (i d s σ H _ I h) λv s1 k=>?_;obtain⟨x,f,g,r1,e⟩:=k;obtain⟨c,rfl,e⟩:=e;cases r1;refine wpAny_truthy_bool ?_;cases c with
 | true=>exact j d s1 σ f Q g e
 | false=>exact⟨.bl false,f,g,rfl,e⟩
def joN(i:PE X a ta)(j:PE X (.BoolOp .Or (b::JR) pos) tb):PE X (.BoolOp .Or (a::b::JR) pos) (joS ta tb):=by
 intro d s σ H Q I h;refine BoolOp_or<|thn (i d s σ H _ I h) λv s1 k=>?_;obtain⟨x,f,g,r1,e⟩:=k;obtain⟨c,rfl,e⟩:=e;cases r1;refine wpAny_truthy_bool ?_;cases c with
 | false=>exact j d s1 σ f Q g e
 | true=>exact⟨.bl true,f,g,rfl,e⟩
def jkV(e:PE X a ta):PE X (.UnaryOp .Not a pos) (jjw ta):=by
 intro b s σ H Q I h;refine UnaryOp_<|thn (e b s σ H _ I h) λv s1 f=>?_;obtain⟨x,g,i,r1,d⟩:=f;obtain⟨c,rfl,d⟩:=d;cases r1;exact not_of<|wpAny_truthy_bool ⟨.bl<|!c,g,i,rfl,d⟩
def tIf(t:TT)(ta tb:TE):TE:=λσ H Q=>t σ H λc H1=>if c=true then ta σ H1 Q else tb σ H1 Q
def je2(j:PT X c tA)(k:PE X a ta)(l:PE X b tb):PE X (.IfExp c a b pos) (tIf tA ta tb):=by
 intro e s σ H Q I h;refine wpAny_IfExp<|thn (j e s σ H _ I h) λd s1 ⟨f,g,i⟩=>?_;cases d with
 | true=>exact k e s1 σ f Q g i
 | false=>exact l e s1 σ f Q g i
end
def SqL(K:W4)(H:Hp)(a:Addr)(xs:List V):Prop:=
 Rd H a (.lst xs) \/
  ∃ o its n,K.lookup a=some o/\o.cls=.type "list"/\o.dict=none/\o.data=.seq its n/\its.size<=sizeLine/\Vals xs its.toList
def SqT(K:W4)(H:Hp)(a:Addr)(xs:List V):Prop:=
 Rd H a (.tup xs) \/
  ∃ o its n,K.lookup a=some o/\o.cls=.type "tuple"/\o.data=.seq its n/\its.size<=sizeLine/\Vals xs its.toList
noncomputable def jpE:Value->Option V
 | .none=>some .non
 | .bool b=>some<|.bl b
 | .int i _=>some<|.int i
 | .str x _=>some<|.str x
 | .bytes b _=>some<|.byt b
 | .float b _=>some<|.flt b
 | .ref a=>some<|.ref a
 | .type n=>some<|.ty n
 | _=>none
def RelV.abs(r:RelV x u):jpE u=some x:=by
 cases x with
 | non=>cases r;rfl
 | bl _=>cases r;rfl
 | int _=>obtain⟨t,rfl⟩:=r;rfl
 | str _=>obtain⟨t,rfl⟩:=r;rfl
 | byt _=>obtain⟨t,rfl⟩:=r;rfl
 | flt _=>obtain⟨t,rfl⟩:=r;rfl
 | ref _=>cases r;rfl
 | ty _=>cases r;rfl
def RelV.inj(r:RelV x u)(q:RelV y u):x=y:=X4<|r.abs.symm.trans q.abs
theorem Vals.inj:∀{xs ys}{us},Vals xs us->Vals ys us->xs=ys
 | _,_,_,.nil,.nil=>rfl
 | _,_,_,.cons r t,.cons a b=>by rw[r.inj a,Vals.inj t b]
section
variable {X:Cx}{pins:List (Addr×Obj)}{σ:St}{H:Hp}{s:Shared}{a:Addr}{xs ys:List V}
def SqL.of{K}(h:H a=some (.lst xs)):SqL K H a xs:=.inl<|.inl h
def SqT.of{K}(h:H a=some (.tup xs)):SqT K H a xs:=.inl<|.inl h
def Inv.list(I:Inv X pins σ H s)(h:SqL X.K H a xs):∃(its:List Value),An3 (Vals xs its) (PlainL s.heap a its.toArray) (xs.length<=sizeLine):=by
 rcases h with h | ⟨o,its,n,b,c,hd,d,f,r⟩
 ·obtain⟨z,its,n,r,e⟩:=h.ok I.hok;exact⟨its,r,⟨_,n,e,rfl,rfl,rfl⟩,z⟩
 ·refine⟨its.toList,r,⟨o,n,I.kIn a o b,c,hd,by simpa using d⟩,?_⟩;have e:=r.length;simp only[Array.length_toList] at e
  lia
def Inv.tuple(I:Inv X pins σ H s)(h:SqT X.K H a xs):∃(its:List Value),An3 (Vals xs its) (IsTup s.heap a its.toArray) (xs.length<=sizeLine):=by
 rcases h with h | ⟨o,its,n,b,c,d,f,r⟩
 ·obtain⟨z,its,r,p⟩:=h.ok I.hok;exact⟨its,r,p.1,z⟩
 ·refine⟨its.toList,r,⟨o,I.kIn a o b,c,n,by simpa using d⟩,?_⟩;have e:=r.length;simp only[Array.length_toList] at e
  lia
def Inv.list_inj(I:Inv X pins σ H s)(h:SqL X.K H a xs)(h':SqL X.K H a ys):xs=ys:=by
 obtain⟨c,r,⟨o,n,e,_,_,d⟩,_⟩:=I.list h;obtain⟨b,i,⟨j,k,f,_,_,g⟩,_⟩:=I.list h';rw[e] at f;cases f;rw[d] at g;injection g with d1 _;have:c=b:=by simpa using congrArg Array.toList d1
 subst this;exact r.inj i
def Inv.tuple_inj(I:Inv X pins σ H s)(h:SqT X.K H a xs)(h':SqT X.K H a ys):xs=ys:=by
 obtain⟨c,r,⟨o,e,_,n,d⟩,_⟩:=I.tuple h;obtain⟨b,i,⟨j,f,_,k,g⟩,_⟩:=I.tuple h';rw[e] at f;cases f;rw[d] at g;injection g with d1 _;have:c=b:=by simpa using congrArg Array.toList d1
 subst this;exact r.inj i
end
noncomputable abbrev Cx.wish(X:Cx)(E:J0):Cx:={X with xe:=E}
noncomputable abbrev Cx.nox(X:Cx):Cx:=X.wish λ_ _=>False
def Cx.Ok.wish{X:Cx}(ok:X.Ok)(E):(X.wish E).Ok:=
 ⟨ok.mod,ok.kind,ok.glob,ok.blt,ok.above,ok.inj,ok.has,ok.cab,ok.hd,ok.frames,ok.stk,ok.exf,ok.bs,ok.bsz,ok.noex,ok.exfs,ok.funs,ok.frf⟩
def Cx.Ok.unwish{X:Cx}{E}(ok:(X.wish E).Ok):X.Ok:=
 ⟨ok.mod,ok.kind,ok.glob,ok.blt,ok.above,ok.inj,ok.has,ok.cab,ok.hd,ok.frames,ok.stk,ok.exf,ok.bs,ok.bsz,ok.noex,ok.exfs,ok.funs,ok.frf⟩
section
variable {X:Cx}{pins:List (Addr×Obj)}{σ:St}{H:Hp}{s:Shared}{E:J0}
def Inv.wish(I:Inv X pins σ H s)(E):Inv (X.wish E) pins σ H s:=⟨I.ok.wish E,I.os,I.bare,I.base,I.loc,I.cell,I.free,I.freeC,I.pin,I.hok,I.len⟩
def Inv.unwish(I:Inv (X.wish E) pins σ H s):Inv X pins σ H s:=⟨I.ok.unwish,I.os,I.bare,I.base,I.loc,I.cell,I.free,I.freeC,I.pin,I.hok,I.len⟩
def SP.unwish(h:SP (X.wish E) pins D f s'):SP X pins D f s':=by
 cases f with
 | next=>obtain⟨a,b,I,q⟩:=h;exact⟨a,b,I.unwish,q⟩
 | brk=>obtain⟨a,b,I,q⟩:=h;exact⟨a,b,I.unwish,q⟩
 | cont=>obtain⟨a,b,I,q⟩:=h;exact⟨a,b,I.unwish,q⟩
 | ret u=>obtain⟨v,a,b,I,r,q⟩:=h;exact⟨v,a,b,I.unwish,r,q⟩
def PSs.nox{st}{t}(h:PSs X.nox st t):PSs X st t:=λa s σ H D I b=>
 wpAny_mono (h a s σ H D (I.wish _) b) (λ_ _ q=>q.unwish) λ_ _ z=>False.elim z
end
section
variable {X:Cx}{st:Stmt}{JR:List Stmt}{t u:TS}{e:Expr}{te:TE}{pos:Pos}
def jjz:TS:=λD σ H=>D.nx σ H
def jiV(t u:TS):TS:=λD σ H=>t {D with nx:=u D} σ H
def jiy:PSs X [] jjz:=λ_ _ σ H _ I h=>wpAny_execs_nil ⟨σ,H,I,h⟩
def KF(h1:PS X st t)(h2:PSs X JR u):PSs X (st::JR) (jiV t u):=by
 intro a s σ H D I h;refine wpAny_execs_cons<|thn (h1 a s σ H {D with nx:=u D} I h) λf s1 q=>?_;cases f with
 | next=>
  obtain⟨b,c,d,q⟩:=q;exact h2 a s1 b c D d q
 | ret v=>exact q
 | brk=>exact q
 | cont=>exact q
def jcF(h1:PS X st t):PSs X [st] t:=by
 intro a s σ H D I h;refine wpAny_execs_cons<|thn (h1 a s σ H D I h) λf s1 q=>?_;cases f with
 | next=>exact wpAny_execs_nil q
 | ret v=>exact q
 | brk=>exact q
 | cont=>exact q
def Inv.quiet(I:Inv X pins σ H s):interactive X.env=false:=by simp[interactive,I.ok.kind]
def v8(te:TE):TS:=λD σ H=>te σ H λ_ H1=>D.nx σ H1
def Jk(b:PE X e te)(c:swapsWith e none pos.line X.env=pure false:=by rfl):PS X (.Expr e pos) (v8 te):=by
 intro a s σ H D I h;exact wpAny_Expr_any (thn (b a s σ H _ I h) λv s1 ⟨x,d,f,r1,g⟩=>⟨σ,d,f,g⟩) I.quiet c
def jn2(te:TE):TS:=λD σ H=>te σ H D.rt
def jkD(b:PE X e te):PS X (.Return (some e) pos) (jn2 te):=by
 intro a s σ H D I h;exact wpAny_Return_some<|thn (b a s σ H _ I h) λv s1 ⟨x,c,d,r1,f⟩=>⟨x,σ,c,d,r1,f⟩
def jnB(c:TT)(t u:TS):TS:=λD σ H=>c σ H λb H1=>if b=true then t D σ H1 else u D σ H1
def joQ(j:PT X c tc)(k:PSs X a t)(l:PSs X b u):PS X (.If c a b pos) (jnB tc t u):=by
 intro e s σ H D I h;refine wpAny_If<|thn (j e s σ H _ I h) λd s1 ⟨f,g,i⟩=>?_;cases d with
 | true=>exact k e s1 σ f D g i
 | false=>exact l e s1 σ f D g i
end
abbrev TG:=V->St->Hp->(St->Hp->Prop)->Prop
abbrev TGs:=List V->St->Hp->(St->Hp->Prop)->Prop
def PG(X:Cx)(target:Expr)(t:TG):Prop:=
 ∀ pins s (σ:St) H v u (Q:St->Hp->Prop),Inv X pins σ H s->RelV v u->t v σ H Q ->
  wpAny (model X.prog X.w) X.A (assign target X.env u) (λ_ s'=>∃ σ' H',Inv X pins σ' H' s'/\Q σ' H') X.xe s
def PGs(X:Cx)(ts:List Expr)(t:TGs):Prop:=
 ∀ pins s (σ:St) H vs us (Q:St->Hp->Prop),Inv X pins σ H s->Vals vs us->t vs σ H Q ->
  wpAny (model X.prog X.w) X.A (assignInOrder ((assignEach ts X.env).map (·.2)) us) (λ_ s'=>∃ σ' H',Inv X pins σ' H' s'/\Q σ' H') X.xe s
abbrev jnh:=V->V->V->Hp->(Hp->Prop)->Prop
def jnS(X:Cx)(t:jnh):Prop:=
 ∀ pins s (σ:St) H o i v ov iv u Q,Inv X pins σ H s->RelV o ov->RelV i iv->RelV v u->t o i v H Q ->
  wpAny (model X.prog X.w) X.A (setItem ov iv u) (λ_ s'=>∃ H',Inv X pins σ H' s'/\Q H') X.xe s
abbrev TIp:=V->V->Hp->VK->Prop
def PIp(X:Cx)(op:Operator)(t:TIp):Prop:=
 ∀ pins s (σ:St) H x y v u Q,Inv X pins σ H s->RelV x v->RelV y u->t x y H Q ->
  wpAny (model X.prog X.w) X.A (inplaceOp op v u) (EP X pins σ Q) X.xe s
section
variable {X:Cx}{pos:Pos}
def km(i:Nat):TG:=λv σ H Q=>Q (σ.set i<|some v) H
def jdq(b:X.N.Nodup)(hi:X.N[i]?=some x)(c:Loc X.env.scope x)(d:X.fn x=true\/X.env.scope.names.lookup x=some .local:=by first | exact .inl rfl | exact .inr rfl | assumption):PG X (.Name x pos) (km i):=by
 intro a s σ H v u Q I r h;exact wpAny_assign_Name<|Yv I b hi c r (λf e=>⟨_,H,e,h⟩) d
def jjm:TGs:=λvs σ H Q=>vs=[]/\Q σ H
def Vf(t:TG)(u:TGs):TGs:=λvs σ H Q=>∃ v r,vs=v::r/\t v σ H λσ' H'=>u r σ' H' Q
def jix:PGs X [] jjm:=by
 intro a s σ H vs b Q I r h;obtain⟨e,h⟩:=h;subst e;cases r;exact assignInOrder_nil ⟨σ,H,I,h⟩
def jfe(h1:PG X e t)(h2:PGs X es u)
  (b:(assignEach (e::es) X.env).map (·.2)=assign e X.env::(assignEach es X.env).map (·.2):=by rfl):PGs X (e::es) (Vf t u):=by
 intro a s σ H vs l Q I r h;obtain⟨v,m,c,h⟩:=h;subst c;cases r with
 | cons r d=>
  rw[b];refine assignInOrder_cons<|thn (h1 a s σ H _ _ _ I r h) λ_ s1 f=>?_;obtain⟨g,i,j,k⟩:=f;exact h2 a s1 g i _ _ Q j d k
def jgL(K:W4)(n:Nat)(t:TGs):TG:=λv σ H Q=>∃ a xs,v=.ref a/\SqT K H a xs/\xs.length=n/\t xs σ H Q
def jmG(i:X.calm=true)(h:PGs X es t)
  (j:(assignEach es X.env).length=n:=by rfl) (d:(assignEach es X.env).findIdx? (·.1)=none:=by rfl):PG X (.Tuple es k pos) (jgL X.K n t):=by
 intro c s σ H v u Q I r f;obtain⟨a,l,m,p,q,f⟩:=f;subst m;cases r;obtain⟨w,g,x,B⟩:=I.tuple p;refine assign_Tuple_tuple (I.ok.hd i) x (by simp[j,<- q,g.length]) d λy z=>?_;have A:Inv X c σ H {s with heap:=y}:=I.kept λb o e=>z b o (N6<|N1 e) e;exact h c _ σ H l _ Q A ⇑g f
def joB(to ti:TE)(t:jnh):TG:=λv σ H Q=>to σ H λo H1=>ti σ H1 λi H2=>t o i v H2 λH3=>Q σ H3
def jmK(c:PE X o to)(hi:PE X i ti)(d:jnS X t)
  (q:∀ v,assign (.Subscript o i pos) X.env v=(do
   let ov <- holding [v] (eval o X.env)
   let iv <- holding [v,ov] (eval i X.env)
   standAt pos
   holding [v,ov,iv] (setItem ov iv v)
   release [v,ov,iv] []):=by intro _;rfl):PG X (.Subscript o i pos) (joB to ti t):=by
 intro a s σ H v u Q I r h;refine L3<|wpAny_holding<|thn (c a s σ H _ I h) λov s1 b=>?_;obtain⟨x,e,f,r1,g⟩:=b;refine L3<|wpAny_holding<|thn (hi a s1 σ e _ f g) λiv s2 b=>?_;obtain⟨y,j,k,r2,l⟩:=b;exact L3<|wpAny_standAt<|L3<|wpAny_holding<|thn (d a s2 σ j x y v ov iv u _ k r1 r2 r l) λ_ w ⟨m,n,p⟩=>(wpAny_release ⟨σ,m,n,p⟩)
def jd2(te:TE)(g:TG):TS:=λD σ H=>te σ H λx H1=>g x σ H1 D.nx
def jlj(b:PE X e te)(c:PG X tg g)(d:swapsWithSole [tg] e pos.line X.env=pure false:=by rfl)(f:swappedStores [tg] e X.env=pure none:=by rfl)
  (h1:(assignEach [tg] X.env).map (·.2)=[assign tg X.env]:=by rfl):PS X (.Assign [tg] e pos) (jd2 te g):=by
 intro a s σ H D I h;refine wpAny_Assign_stores (thn (b a s σ H _ I h) λv s1 i=>?_) d f;obtain⟨x,j,k,r1,l⟩:=i;rw[h1];exact thn (c a s1 σ j x v _ k r1 l) λ_ s2 q=>q
def jl8(b:X.N.Nodup)(hi:X.N[i]?=some x)(c:Loc X.env.scope x)(d:PE X e te)(f:swapsWith e (some<|.Name x pos') pos.line X.env=pure false:=by rfl)(g:X.fn x=true\/X.env.scope.names.lookup x=some .local:=by first | exact .inl rfl | exact .inr rfl | assumption):
  PS X (.Assign [.Name x pos'] e pos) (jd2 te<|km i):=by
 intro a s σ H D I h;refine wpAny_Assign_Name (thn (d a s σ H _ I h) λv s1 j=>?_) f;obtain⟨y,k,l,r1,m⟩:=j;exact Yv l b hi c r1 (λs2 n=>⟨_,k,n,m⟩) g
def joF(i:Nat)(te:TE)(ti:TIp):TS:=λD σ H=>∃ x,σ[i]?=some (some x)/\te σ H λy H1=>ti x y H1 λz H2=>D.nx (σ.set i<|some z) H2
def jkI(n:X.N.Nodup)(hi:X.N[i]?=some x)(f:Loc X.env.scope x)(o:PE X e te)(p:PIp X op ti)(q:X.fn x=true\/X.env.scope.names.lookup x=some .local:=by first | exact .inl rfl | exact .inr rfl | assumption):
  PS X (.AugAssign (.Name x pos') op e pos) (joF i te ti):=by
 intro a s σ H D I h;obtain⟨v,t,h⟩:=h;obtain⟨m,B,C⟩:=I.loc;have g:Vis X.env.scope x:=by rcases f with k | k;exact .inl k;exact .inr<|.inl k
 obtain⟨u,r,l⟩:=C i x v hi t g;refine wpAny_AugAssign_Name ?_;have go:wpAny (model X.prog X.w) X.A (eval e X.env) (λw E=>wpAny (model X.prog X.w) X.A (inplaceOp op u w) (λr F=>wpAny (model X.prog X.w) X.A (storeName X.env x r) (λ_=>SP X a D .next) X.xe F) X.xe E) X.xe s:=by
  refine thn (o a s σ H _ I h) λw s1 j=>?_;obtain⟨y,G,J,r1,K⟩:=j;refine thn (p a s1 σ G v y u w _ J r r1 K) λz s2 j=>?_;obtain⟨S,L,M,r2,O⟩:=j;exact Yv M n hi f r2 (λT P=>⟨_,L,P,O⟩) q
 rcases l with⟨b,Q⟩ | ⟨b,c,R,d⟩
 ·exact wpAny_loadName_local I.ok.kind b B Q go
 ·rcases b with b | b
  ·exact wpAny_loadName_cell I.ok.kind b R d go
  ·rcases f with k | k
   ·have:X.env.scope.names.lookup x=some .free:=b;rw[k] at this;cases this
   ·have:X.env.scope.names.lookup x=some .free:=b;rw[k] at this;cases this
def jhA(to ti te:TE)(tget:V->V->Hp->VK->Prop)(tip:TIp)(tset:jnh):TS:=λD σ H=>to σ H λo H1=>ti σ H1 λi H2=>tget o i H2 λx H3=>te σ H3 λy H4=>tip x y H4 λz H5=>tset o i z H5 λH6=>D.nx σ H6
def jo5(X:Cx)(t:V->V->Hp->VK->Prop):Prop:=
 ∀ pins s (σ:St) H o i ov iv Q,Inv X pins σ H s->RelV o ov->RelV i iv->t o i H Q ->
  wpAny (model X.prog X.w) X.A (getItem ov iv) (EP X pins σ Q) X.xe s
def jg6(g:PE X o to)(hi:PE X i ti)(j:jo5 X tget)(k:PE X e te)(l:PIp X op tip)(m:jnS X tset)
  (n:∀ ov iv new,augStore i ov iv new=(do holding [new,ov,iv] (setItem ov iv new);release [new,ov,iv] [];pure .next):=by intros;rfl):PS X (.AugAssign (.Subscript o i tpos) op e pos) (jhA to ti te tget tip tset):=by
 intro a s σ H D I h;refine wpAny_AugAssign_SubscriptAny (thn (g a s σ H _ I h) λov s1 b=>?_) n;obtain⟨d,p,q,r1,r⟩:=b;refine thn (hi a s1 σ p _ q r) λiv s2 b=>?_;obtain⟨f,t,u,r2,w⟩:=b;refine thn (j a s2 σ t d f ov iv _ u r1 r2 w) λc x b=>?_;obtain⟨y,z,A,B,C⟩:=b;refine thn (k a x σ z _ A C) λv E b=>?_;obtain⟨F,G,J,K,L⟩:=b;refine thn (l a E σ G y F c v _ J B K L) λnew M b=>?_;obtain⟨N,O,P,Q,R⟩:=b;exact thn (m a M σ O d f N ov iv new _ P r1 r2 Q R) λ_ V ⟨S,T,U⟩=>⟨σ,S,T,U⟩
def ipI(f:Int->Int->Int):TIp:=λx y H Q=>∃ i j,x=.int i/\y=.int j/\Q (.int<|f i j) H
def jmY:PIp X .Add (ipI λi j=>i+j):=by
 intro a s σ H x y v u Q I r1 r2 h;obtain⟨i,j,b,e2,q⟩:=h;subst b;subst e2;obtain⟨t,rfl⟩:=r1;obtain⟨c,rfl⟩:=r2;exact iadd_int ⟨.int _,H,I.tok _,⟨_,rfl⟩,q⟩
def jlF:PIp X .Sub (ipI λi j=>i-j):=by
 intro a s σ H x y v u Q I r1 r2 h;obtain⟨i,j,b,e2,q⟩:=h;subst b;subst e2;obtain⟨t,rfl⟩:=r1;obtain⟨c,rfl⟩:=r2;exact isub_int ⟨.int _,H,I.tok _,⟨_,rfl⟩,q⟩
end
structure It where
 go:Nat->Hp->Prop
 yld:Nat->Hp->V->Hp->Prop
 stop:Nat->Hp->Prop
def uh(X:Cx)(pins:W0)(H:Hp)(b:Addr):Prop:=
 H b=none/\b≠X.env.locals/\b∉X.fs/\(b∈X.ex\/X.s₀.heap.objs.size<=b)/\(∀ x c,X.env.cells.lookup x=some c->c≠b)/\∀ p∈X.pn++pins,p.1≠b
def Inv.fpOk(I:Inv X pins σ H s)(a:↥s<=b)(d:H' b=none):uh X pins H' b:=by
 refine⟨d,Nat.ne_of_gt<|U4 I.lt a,I.nofs a,.inr<|N7 I.sz a,λx c e z=>?_,λp f z=>?_⟩
 ·obtain⟨v,q⟩:=I.cell x c e;exact absurd (U4 q.lt<|by rw[z];exact a)<|Nat.lt_irrefl _
 ·exact absurd (U4 (N1 (I.pin p f).1)<|by rw[z];exact a)<|Nat.lt_irrefl _
structure Turn(P:Program)(w:World)(K:W4)(tg:Expr)(J:It)(fp:W5)(it:Addr)(tn:Nat->Heap->Prop):Prop where
 mem:it∈fp
 obj:∀ i h,tn i h->∀ b∈fp,∃ o,h.get? b=some o/\∀ v,o.data≠.cell v
 keep:∀ i h h',tn i h->(∀ b∈fp,∀ o,h.get? b=some o->h'.get? b=some o)->tn i h'
 item:∀(X:Cx),X.prog=P->X.w=w->X.K=K->X.calm=true->∀(i:Nat) (pins:W0) (s:Shared) (σ:St) (H:Hp) (E:J0),Inv X pins σ H s->(∀ b∈fp,uh X pins H b)->tn i s.heap->J.go i H ->
  wpAny (model P w) X.A (pyNext<|.ref it) (λr s1=>∃ u,r=some u /\
   wpAny (model P w) X.A (letOwnedTupleGo tg (.ref it) u) (λ_ s2=>∃ x H',Inv X pins σ H' s2/\RelV x u/\J.yld i H x H'/\tn (i+1) s2.heap/\∀ b∈fp,H' b=none) E s1) E s
 done:∀(X:Cx),X.prog=P->X.w=w->X.K=K->X.calm=true->∀(i:Nat) (pins:W0) (s:Shared) (σ:St) (H:Hp) (E:J0),Inv X pins σ H s->(∀ b∈fp,uh X pins H b)->tn i s.heap->J.stop i H ->
  wpAny (model P w) X.A (pyNext<|.ref it) (λr s1=>r=none/\Inv X pins σ H s1) E s
 self:∀(A:Around) (i:Nat) (s:Shared) (Q:J0) (E:J0),tn i s.heap->Q (.ref it) s->wpAny (model P w) A (pyIter<|.ref it) Q E s
abbrev TI:=St->Hp->(It->Hp->Prop)->Prop
def PIE(X:Cx)(pins:W0)(σ:St)(tg:Expr)(R:It->Hp->Prop)(itv:Value)(s2:Shared):Prop:=
 ∃(it:Addr) (fp:W5) (tn:Nat->Heap->Prop) (J:It) (H':Hp),itv=.ref it/\Inv X pins σ H' s2/\Turn X.prog X.w X.K tg J fp it tn/\tn 0 s2.heap/\(∀ b∈fp,uh X pins H' b)/\R J H'
def PI(X:Cx)(tg iter:Expr)(wi:TI):Prop:=
 ∀ pins s (σ:St) H (R:It->Hp->Prop),Inv X pins σ H s->wi σ H R ->
  wpAny (model X.prog X.w) X.A (eval iter X.env) (λv s1=>wpAny (model X.prog X.w) X.A (pyIter v) (PIE X pins σ tg R) X.xe s1) X.xe s
def jeN(b:s.heap.get? it=some o)(c:o.cls=.type n)(hd:o.data=.fields vs)
  (d:["enumerate","zip","dict_itemiterator","dict_reverseitemiterator","odict_iterator","itertools.zip_longest","itertools.pairwise"].contains n=false) (a:Q () s):wpAny M A (letOwnedTupleGo tg (.ref it) u) Q E s:=by
 cases tg<;>first
  | exact M6 a
  | (cases u<;>first
    | exact M6 a
    | (refine L3 (wpAny_load b ?_)
       rw[c,hd];show wpAny M A (if(["enumerate","zip","dict_itemiterator","dict_reverseitemiterator","odict_iterator","itertools.zip_longest","itertools.pairwise"].contains n&&vs[0]?==some (rawInt _))=true then _ else _) Q E s;rw[if_neg<|by intro h;rw[d,Bool.false_and] at h;cases h];exact M6 a))
noncomputable def Itl(K:W4)(a:Addr):It:=
 ⟨λi H=>∃ xs x,SqL K H a xs/\xs[i]?=some x,λi H x H'=>H'=H/\∀ xs,SqL K H a xs->xs[i]?=some x,λi H=>∃ xs,SqL K H a xs/\xs.length<=i⟩
noncomputable def Itt(K:W4)(a:Addr):It:=
 ⟨λi H=>∃ xs x,SqT K H a xs/\xs[i]?=some x,λi H x H'=>H'=H/\∀ xs,SqT K H a xs->xs[i]?=some x,λi H=>∃ xs,SqT K H a xs/\xs.length<=i⟩
noncomputable def Itr(lo:Int)(n:Nat):It:=⟨λi _=>i<n,λi H x H'=>H'=H/\x=.int (lo+i),λi _=>n<=i⟩
def jde{P}{w}{K}{tg}(a j):Turn P w K tg (Itl K a) [j] j (λi h=>h.IsListIter j a i) where
 mem:=by simp
 obj:=λi h f b l=>by
  have e:b=j:=by simpa using l
  subst e;obtain⟨o,e,c,d⟩:=f;exact⟨o,e,λv z=>by rw[d] at z;cases z⟩
 keep:=λi h r f k=>f.at (k j<|by simp)
 item:=by
  intro X t y A O i g s σ H E I n f B;subst t y A;obtain⟨Q,x,q,C⟩:=B;obtain⟨D,F,p,R⟩:=I.list q;obtain⟨u,S,T⟩:=F.get C;obtain⟨G,J,U,L,M,N⟩:=n j (by simp);refine wpAny_pyNext_list_item f p.isList ⇑S λr m V=>?_;have W:Inv X g σ H {s with heap:=r}:=I.turned (λb o l e=>(V.2 b l).trans e) G J L M N;obtain⟨o,e,c,d⟩:=id m;exact⟨u,rfl,jeN e c d (by decide) ⟨x,H,W,T,⟨rfl,λys Y=>by rw[I.list_inj Y q];exact C⟩,m,λb l=>(n b l).1⟩⟩
 done:=by
  intro X t y A O i g s σ H E I n f B;subst t y A;obtain⟨Q,q,C⟩:=B;obtain⟨D,F,p,R⟩:=I.list q;obtain⟨G,J,U,L,M,N⟩:=n j (by simp);have hl:=F.length;exact wpAny_pyNext_list_end (I.ok.hd O) f p.isList (by simp;lia) λr Z=>⟨rfl,I.turned (Z) G J L M N⟩
 self:=λ_ _ _ _ _ f h=>wpAny_pyIter_listiter f h
def uU{P}{w}{K}{tg}(a j):Turn P w K tg (Itt K a) [j] j (λi h=>h.IsTupleIter j a i) where
 mem:=by simp
 obj:=λi h f b l=>by
  have e:b=j:=by simpa using l
  subst e;obtain⟨o,e,c,d⟩:=f;exact⟨o,e,λv z=>by rw[d] at z;cases z⟩
 keep:=λi h r f k=>f.at (k j<|by simp)
 item:=by
  intro X t y A O i g s σ H E I n f B;subst t y A;obtain⟨Q,x,q,C⟩:=B;obtain⟨D,F,p,R⟩:=I.tuple q;obtain⟨u,S,T⟩:=F.get C;obtain⟨G,J,U,L,M,N⟩:=n j (by simp);refine wpAny_pyNext_tuple_item f (p) ⇑S λr m V=>?_;have W:Inv X g σ H {s with heap:=r}:=I.turned (λb o l e=>(V.2 b l).trans e) G J L M N;obtain⟨o,e,c,d⟩:=id m;exact⟨u,rfl,jeN e c d (by decide) ⟨x,H,W,T,⟨rfl,λys Y=>by rw[I.tuple_inj Y q];exact C⟩,m,λb l=>(n b l).1⟩⟩
 done:=by
  intro X t y A O i g s σ H E I n f B;subst t y A;obtain⟨Q,q,C⟩:=B;obtain⟨D,F,p,R⟩:=I.tuple q;obtain⟨G,J,U,L,M,N⟩:=n j (by simp);have hl:=F.length;exact wpAny_pyNext_tuple_end (I.ok.hd O) f (p) (by simp;lia) λr Z=>⟨rfl,I.turned (Z) G J L M N⟩
 self:=λ_ _ _ _ _ f h=>wpAny_pyIter_tupleiter f h
def uY{P}{w}{K}{tg}(c)(lo)(n):Turn P w K tg (Itr lo n) [c] c (λi h=>IsRangeIter h c (lo+(i:Nat)*1) ((n:Int)-(i:Nat)) 1) where
 mem:=by simp
 obj:=λi h a b f=>by
  have e:b=c:=by simpa using f
  subst e;exact⟨_,a,λv z=>by
   cases z⟩
 keep:=λi h l a k=>k c (by simp) _ a
 item:=by
  intro X A B C m i d s σ H E I j a p;subst A B C;obtain⟨q,r,D,u,x,y⟩:=j c (by simp);refine(Walks.range (prog:=X.prog) (w:=X.w) (I.ok.hd m) c lo 1 n).item i s _ _ p a λv l F G g J=>?_;obtain⟨t,rfl⟩:=G;have L:Inv X d σ H {s with heap:=l,toks:=F}:=I.turned (λb o f e=>J b o ⇑f e) q r u x y;refine⟨_,rfl,jeN g rfl rfl (by decide) ⟨.int<|lo+i,H,L,⟨t,?_⟩,⟨rfl,rfl⟩,g,λb f=>(j b f).1⟩⟩;rw[Int.mul_one]
 done:=by
  intro X A B C m i d s σ H E I j a p;obtain⟨q,r,D,u,x,y⟩:=j c (by simp);exact wpAny_pyNext_range_end (I.ok.hd m) a (by have:n<=i:=p;lia) λl M=>⟨rfl,I.turned (M) q r u x y⟩
 self:=λ_ _ _ _ _ a h=>wpAny_pyIter_rangeiter a h
section
variable {X:Cx}{tg:Expr}
def jfL{pins}{s}{R}{E}{lo hi}{c}(I:Inv X pins σ H s)(h1:-(2 ^ 62)<=lo)(h2:lo<2 ^ 62)(d:-(2 ^ 62)<=hi)(f:hi<2 ^ 62)
  (q:R (Itr lo (hi-lo).toNat) H):wpAny (model X.prog X.w) X.A (pyIter<|.ref ↥s) (PIE X pins σ tg R) E { s with heap:=s.heap.push {cls:=.type "range",data:=.fields #[.int lo t,.int hi u,.int 1 v]},toks:=c }:=by
 refine wpAny_pyIter_range (IsRange.new ..) (small_one h1 h2 d f) ?_;have a:Inv X pins σ H { s with heap:=s.heap.push {cls:=.type "range",data:=.fields #[.int lo t,.int hi u,.int 1 v]},toks:=c }:=I.kept λb o e=>L8 _ e;refine⟨(s.heap.push {cls:=.type "range",data:=.fields #[.int lo t,.int hi u,.int 1 v]}).objs.size,[(s.heap.push {cls:=.type "range",data:=.fields #[.int lo t,.int hi u,.int 1 v]}).objs.size],_,_,H,rfl,
  a.kept λb o e=>L8 _ e,uY _ lo (hi-lo).toNat,?_,λb g=>?_,q⟩
 ·have h:lo+((0:Nat):Int)*1=lo:=by simp
  have e2:(((hi-lo).toNat:Nat):Int)-((0:Nat):Int)=Builtin.Range.rangeSize lo hi 1:=by rw[rangeSize_one];split<;>lia
  rw[h,e2];exact X8 _ rfl
 ·have e:b=(s.heap.push {cls:=.type "range",data:=.fields #[.int lo t,.int hi u,.int 1 v]}).objs.size:=by simpa using g
  subst e;exact a.fpOk (M8 _)<|a.hok.fresh<|M8 _
def jjn(ta:TA):TI:=λσ H R=>ta σ H λvs H1=>∃ j:Int,vs=[.int j]/\-(2 ^ 62)<=j/\j<2 ^ 62/\R (Itr 0 j.toNat) H1
def jcr(d:Gl X "range")(f:X.mg "range" = none)(g:PA X [a] ta)(i:starEach [a] X.env=[(false,eval a X.env)]:=by rfl):PI X tg (.Call (.Name "range" p) [a] [] pos) (jjn ta):=by
 intro b s σ H R I h;refine Call_<|JQ I d f boot_range<|PyProof.Rows.callWith_type1 (thn (g pos b s σ H _ I h) λn s1 ⟨vs,o,k,r1,c⟩=>?_) i rfl;obtain⟨j,e,c,l,q⟩:=c;subst e;cases r1 with
 | cons r m=>
  cases m;obtain⟨t,rfl⟩:=r;exact call_range_1<|jfL k ∅ ∅ c l ⇑q
def jfd(wi:TI)(g:TG)(tb:TS):TS:=λD σ H=>wi σ H λJ H1=>∃ W:Nat->Nat->St->Hp->Prop,(∃ m,W 0 m σ H1)/\∀ i m σ H,W i m σ H ->
 (J.stop i H/\D.nx σ H)\/(J.go i H/\∃ N:St->Hp->Prop,(∀ σ' H',N σ' H'->∃ m',m'<m/\W (i+1) m' σ' H')/\∀ x H',J.yld i H x H'->g x σ H' λσ2 H2=>tb {D with nx:=N,ct:=N,bk:=D.nx} σ2 H2)
noncomputable def VM(fp:W5)(h:Heap):List (Addr×Obj):=fp.filterMap λb=>(h.get? b).map λo=>(b,o)
def kf(a:b∈fp)(e:h.get? b=some o):(b,o)∈VM fp h:=List.mem_filterMap.mpr ⟨b,a,by rw[e];rfl⟩
def jbc(a:p∈VM fp h):p.1∈fp/\h.get? p.1=some p.2:=by
 obtain⟨b,c,e⟩:=List.mem_filterMap.mp a;cases q:h.get? b with
 | none=>rw[q] at e;cases e
 | some o=>
  rw[q] at e;have d:=X4 e;subst d;exact⟨c,q⟩
def Inv.pinned(I:Inv X pins σ H s)(f:∀ b∈fp,uh X pins H b)(g:∀ b∈fp,∃ o,s.heap.get? b=some o/\∀ v,o.data≠.cell v):Inv X (pins++VM fp s.heap) σ H s:=
 I.pins_of λp h=>(N2.mp h).elim (λz=>I.pin p<|U3 _ z) λz=>by
  obtain⟨a,e⟩:=jbc z;obtain⟨i,j,k,_⟩:=f p.1 a;obtain⟨o,c,d⟩:=g p.1 a;rw[e] at c;cases c;exact⟨e,i,j,k,d⟩
def Inv.unpinned(I:Inv X (pins++pl) σ H s):Inv X pins σ H s:=I.pins_of λp a=>I.pin p<|U3 _<|List.mem_append_left _ a
def wY(B:PassesOwn (model X.prog X.w) X.A X.env X.xe)(U:X.calm=true)(hi:PI X tg iter wi)(hg:PG X tg g)(c:PSs X body tb)
  (hs:∀ x,foldedSetIterable iter X.env x=pure x:=by intro _;rfl):PS X (.For tg iter body [] pos) (jfd wi g tb):=by
 intro a s σ H D I h;refine wpAny_For (thn (hi a s σ H _ I h) λv s1 h1=>thn h1 λitv s2 h2=>?_) hs;obtain⟨it,C,V,J,H2,e,I2,T,O,Y,W,⟨m0,w0⟩,turn⟩:=h2;subst e;have j:∀{t},(∀ b∈C,t b=none)->∀ b∈C,uh X a t b:=λhn b c=>⟨hn b c,(Y b c).2⟩;refine codeAny_forLoop_any (λn Z=>∃ i E t,Inv X a E t Z/\V i Z.heap/\(∀ b∈C,t b=none)/\W i n E t) ?_ m0 ⟨0,σ,H2,I2,O,λb c=>(Y b c).1,w0⟩;rintro n s3 ⟨i,F,M,I3,G,K,w3⟩;rcases turn i n F M w3 with⟨stop,qn⟩ | ⟨go,N,hN,step⟩
 ·refine wpAny_passesOwn B<|thn (T.done X rfl rfl rfl U i a s3 F M X.xe I3 (j K) G stop) λr s4 ⟨P,I4⟩=>?_;subst P;exact wpAny_execs_nil ⟨F,M,I4,qn⟩
 ·refine wpAny_passesOwn B<|thn (T.item X rfl rfl rfl U i a s3 F M X.xe I3 (j K) G go) λr s4 ⟨u,P,h4⟩=>?_;subst P;refine wpAny_passesOwn B<|thn h4 λ_ s5 Q=>?_;obtain⟨x,H5,I5,r5,y5,z,R⟩:=Q;refine wpAny_passesOwn B<|thn (hg _ s5 F H5 x u _ (I5.pinned (j R)<|T.obj _ _ z) r5<|step x H5 y5) λ_ s6 Q=>?_;obtain⟨σ6,H6,I6,q6⟩:=Q;refine wpAny_passesOwn B<|thn (c _ s6 σ6 H6 _ I6 q6) λf S y=>?_;have k:∀{l}{p},Inv X (a++VM C s5.heap) l p S->N l p->∃ m,m<n/\∃ i E t,Inv X a E t S/\V i S.heap/\(∀ b∈C,t b=none)/\W i m E t:=λ{l p} q L=>by
   obtain⟨m',hm,w7⟩:=hN l p L;refine⟨m',hm,i+1,l,p,q.unpinned,T.keep _ _ _ z λb c o e=>(q.pin (b,o)<|U3 _<|U3 _<|kf c e).1,λb c=>?_,w7⟩;obtain⟨o,e,d⟩:=T.obj _ _ z b c;exact(q.pin (b,o)<|U3 _<|U3 _<|kf c e).2.1
  cases f with
  | next=>obtain⟨l,p,q,L⟩:=y;exact k q L
  | cont=>obtain⟨l,p,q,L⟩:=y;exact k q L
  | brk=>obtain⟨l,p,q,y⟩:=y;exact⟨l,p,q.unpinned,y⟩
  | ret v=>obtain⟨x7,l,p,q,r7,y⟩:=y;exact⟨x7,l,p,q.unpinned,r7,y⟩
end
abbrev R2:=V->V->Hp->VK->Prop
def OpR(X:Cx)(f:Value->Value->Sem Value)(r:R2):Prop:=
 ∀ pins s (σ:St) H x y v u Q,Inv X pins σ H s->RelV x v->RelV y u->r x y H Q ->
  wpAny (model X.prog X.w) X.A (f v u) (EP X pins σ Q) X.xe s
def UnR(X:Cx)(f:Value->Sem Value)(r:V->Hp->VK->Prop):Prop:=
 ∀ pins s (σ:St) H x v Q,Inv X pins σ H s->RelV x v->r x H Q ->
  wpAny (model X.prog X.w) X.A (f v) (EP X pins σ Q) X.xe s
def vJ(X:Cx)(f:Value)(r:List V->Hp->VK->Prop):Prop:=
 ∀ pins s (σ:St) H xs us Q,Inv X pins σ H s->Vals xs us->r xs H Q ->
  wpAny (model X.prog X.w) X.A (call f us) (EP X pins σ Q) X.xe s
def tOp(r:R2)(ta tb:TE):TE:=λσ H Q=>ta σ H λx H1=>tb σ H1 λy H2=>r x y H2 Q
def tUn(r:V->Hp->VK->Prop)(ta:TE):TE:=λσ H Q=>ta σ H λx H1=>r x H1 Q
def rI(C:Int->Int->Prop)(g:Int->Int->V):R2:=λx y H Q=>∃ i j,x=.int i/\y=.int j/\C i j/\Q (g i j) H
def rI0(g:Int->Int->V):R2:=λx y H Q=>∃ i j,x=.int i/\y=.int j/\Q (g i j) H
def rU(g:Int->V):V->Hp->VK->Prop:=λx H Q=>∃ i,x=.int i/\Q (g i) H
section
variable {X:Cx}{a b c:Expr}{ta tb tc:TE}{pos:Pos}
def jnD(d:PE X a ta)(e:PE X b tb){pins}{s}{R:V->V->Hp->Prop}(I:Inv X pins σ H s)
  (h:ta σ H λx H1=>tb σ H1 λy H2=>R x y H2) {Q:J0}{f:Value->Value->Sem Value}
  (g:∀ v u s2 x y H2,Inv X pins σ H2 s2->RelV x v->RelV y u->R x y H2->wpAny (model X.prog X.w) X.A (f v u) Q X.xe s2):
  wpAny (model X.prog X.w) X.A (eval a X.env) (λv s₁=>wpAny (model X.prog X.w) X.A (eval b X.env) (λu s₂=>wpAny (model X.prog X.w) X.A (f v u) Q X.xe s₂) X.xe s₁) X.xe s:=by
 refine thn (d pins s σ H _ I h) λv s1 c=>?_;obtain⟨x,H1,i,r1,j⟩:=c;refine thn (e pins s1 σ H1 _ i j) λu s2 c=>?_;obtain⟨y,H2,k,r2,l⟩:=c;exact g v u s2 x y H2 k r1 r2 l
def zJ(d:OpR X (binaryOp op) r)(e:PE X a ta)(f:PE X b tb):PE X (.BinOp a op b pos) (tOp r ta tb):=by
 intro c s σ H Q I h;exact wpAny_BinOp<|jnD e f I h λv u s2 x y g i j k q=>d c s2 σ g x y v u Q i j k q
def jnN(c:UnR X (unaryOp op) r)(d:PE X a ta):PE X (.UnaryOp op a pos) (tUn r ta):=by
 intro b s σ H Q I h;exact UnaryOp_<|thn (d b s σ H _ I h) λv s1 ⟨x,e,f,r1,g⟩=>c b s1 σ e x v Q f r1 g
def opI{f}{C}{g:Int->Int->Int}
  (a:∀ i j t u s (Q:J0) (E:J0),C i j->Q (.int (g i j) s.toks) {s with toks:=s.toks+1}->wpAny (model X.prog X.w) X.A (f (.int i t)<|.int j u) Q E s):
  OpR X f (rI C λi j=>.int<|g i j):=by
 intro b s σ H x y v u Q I c d h;obtain⟨i,j,rfl,rfl,e,q⟩:=h;obtain⟨t,rfl⟩:=c;obtain⟨k,rfl⟩:=d;exact a i j t k s _ _ e ⟨.int<|g i j,H,I.tok _,⟨_,rfl⟩,q⟩
def jph{f}{g:Int->Int->Int}
  (a:∀ i j t u s (Q:J0) (E:J0),Q (.int (g i j) s.toks) {s with toks:=s.toks+1}->wpAny (model X.prog X.w) X.A (f (.int i t)<|.int j u) Q E s):
  OpR X f (rI0 λi j=>.int<|g i j):=by
 intro b s σ H x y v u Q I c d h;obtain⟨i,j,rfl,rfl,q⟩:=h;obtain⟨t,rfl⟩:=c;obtain⟨e,rfl⟩:=d;exact a i j t e s _ _ ⟨.int<|g i j,H,I.tok _,⟨_,rfl⟩,q⟩
def jnH{f}{g:Int->Int->Bool}
  (a:∀ i j t u s (Q:J0) (E:J0),Q (.bool<|g i j) s->wpAny (model X.prog X.w) X.A (f (.int i t)<|.int j u) Q E s):
  OpR X f (rI0 λi j=>.bl<|g i j):=by
 intro b s σ H x y v u Q I c d h;obtain⟨i,j,rfl,rfl,q⟩:=h;obtain⟨t,rfl⟩:=c;obtain⟨e,rfl⟩:=d;exact a i j t e s _ _ ⟨.bl<|g i j,H,I,rfl,q⟩
def jow(i j:Int):Prop:=0<=j/\j<=1000000/\i.natAbs<2 ^ 64
def jli:OpR X (binaryOp .Add) (rI0 λi j=>.int<|i+j):=jph λ_ _ _ _ _ _ _ q=>add_int q
def jkm:OpR X (binaryOp .Sub) (rI0 λi j=>.int<|i-j):=jph λ_ _ _ _ _ _ _ q=>sub_int q
def jk0:OpR X (binaryOp .Mod) (rI (λ_ j=>0<j) λi j=>.int<|i%j):=opI λi j _ _ _ _ _ a q=>by
 exact mod_int' ∅ (by rw[Int.fmod_eq_emod_of_nonneg i ∅];exact q)
def jmp:OpR X (binaryOp .Pow) (rI jow λi j=>.int<|i ^ j.toNat):=opI λ_ _ _ _ _ _ _ a q=>pow_int_small a.1 a.2.1 a.2.2 q
def unI{f}{g:Int->Int}
  (a:∀ i t s (Q:J0) (E:J0),Q (.int (g i) s.toks) {s with toks:=s.toks+1}->wpAny (model X.prog X.w) X.A (f<|.int i t) Q E s):
  UnR X f (rU λi=>.int<|g i):=by
 intro b s σ H x v Q I c h;obtain⟨i,rfl,q⟩:=h;obtain⟨t,rfl⟩:=c;exact a i t s _ _ ⟨.int<|g i,H,I.tok _,⟨_,rfl⟩,q⟩
def jjZ:UnR X (unaryOp .USub) (rU λi=>.int<|-i):=unI λ_ _ _ _ _ q=>neg_int q
end
noncomputable def jn8:V->V->Bool
 | .non,.non=>true | .non,.int _=>true | .int _,.non=>true | .non,.bl _=>true | .bl _,.non=>true | .non,.str _=>true | .str _,.non=>true
 | .int _,.int _=>true | .bl _,.bl _=>true | .str _,.str _=>true | .byt _,.byt _=>true
 | .int _,.str _=>true | .str _,.int _=>true | .bl _,.str _=>true | .str _,.bl _=>true
 | _,_=>false
def rEq:R2:=λx y H Q=>jn8 x y=true/\Q (.bl<|decide<|x=y) H
def rNe:R2:=λx y H Q=>jn8 x y=true/\Q (.bl<|!decide (x=y)) H
def zx:decide (V.int i=V.int j)=(i==j):=by
 rw[Bool.eq_iff_iff];simp
def jdj:decide (V.bl i=V.bl j)=(i==j):=by
 rw[Bool.eq_iff_iff];simp
def jbU:decide (V.str i=V.str j)=(i==j):=by
 rw[Bool.eq_iff_iff];simp
def jbh:decide (V.byt i=V.byt j)=(i.toList==j.toList):=by
 rw[Bool.eq_iff_iff];cases i;cases j;simp
section
variable {X:Cx}{a b c:Expr}{ta tb tc:TE}{pos:Pos}
def jD(I:Inv X pins σ H s)(q:Q (.bl k) H)(e:k=k'):EP X pins σ Q (.bool k') s:=by
 subst e;exact⟨.bl k,H,I,rfl,q⟩
def joL:OpR X (compareOp .Eq) rEq:=by
 intro e s σ H x y v u Q I d a h;obtain⟨c,q⟩:=h;cases x with
 | non=>
  cases d;cases y with
  | non=>cases a;exact PySem.EqNone.eq_none_none<|jD I q (by simp)
  | bl j=>cases a;exact PySem.EqNone.eq_none_bool<|jD I q (by simp)
  | int j=>obtain⟨b,rfl⟩:=a;exact PySem.EqNone.eq_none_int<|jD I q (by simp)
  | str j=>obtain⟨b,rfl⟩:=a;exact PySem.EqNone.eq_none_str<|jD I q (by simp)
  | _=>exact absurd (c) M3
 | bl i=>
  cases d;cases y with
  | non=>cases a;exact PySem.EqNone.eq_bool_none<|jD I q (by simp)
  | bl j=>cases a;exact eq_bool<|jD I q jdj
  | str j=>obtain⟨b,rfl⟩:=a;exact PySem.EqMixed.eq_bool_str<|jD I q (by simp)
  | _=>exact absurd (c) M3
 | int i=>
  obtain⟨t,rfl⟩:=d;cases y with
  | non=>cases a;exact PySem.EqNone.eq_int_none<|jD I q (by simp)
  | int j=>obtain⟨b,rfl⟩:=a;exact eq_int<|jD I q zx
  | str j=>obtain⟨b,rfl⟩:=a;exact PySem.EqMixed.eq_int_str<|jD I q (by simp)
  | _=>exact absurd (c) M3
 | str i=>
  obtain⟨t,rfl⟩:=d;cases y with
  | non=>cases a;exact PySem.EqNone.eq_str_none<|jD I q (by simp)
  | bl j=>cases a;exact PySem.EqMixed.eq_str_bool<|jD I q (by simp)
  | int j=>obtain⟨b,rfl⟩:=a;exact PySem.EqMixed.eq_str_int<|jD I q (by simp)
  | str j=>obtain⟨b,rfl⟩:=a;exact eq_str<|jD I q jbU
  | _=>exact absurd (c) M3
 | byt i=>
  obtain⟨t,rfl⟩:=d;cases y with
  | byt j=>obtain⟨b,rfl⟩:=a;exact PySem.W.eq_bytes<|jD I q jbh
  | _=>exact absurd (c) M3
 | _=>cases y<;>exact absurd (c) M3
def jnO:OpR X (compareOp .NotEq) rNe:=by
 intro e s σ H x y v u Q I d a h;obtain⟨c,q⟩:=h;cases x with
 | non=>
  cases d;cases y with
  | non=>cases a;exact PySem.EqNone.ne_none_none<|jD I q (by simp)
  | bl j=>cases a;exact PySem.EqNone.ne_none_bool<|jD I q (by simp)
  | int j=>obtain⟨b,rfl⟩:=a;exact PySem.EqNone.ne_none_int<|jD I q (by simp)
  | str j=>obtain⟨b,rfl⟩:=a;exact PySem.EqNone.ne_none_str<|jD I q (by simp)
  | _=>exact absurd (c) M3
 | bl i=>
  cases d;cases y with
  | non=>cases a;exact PySem.EqNone.ne_bool_none<|jD I q (by simp)
  | bl j=>cases a;exact ne_bool<|jD I q<|congrArg not jdj
  | str j=>obtain⟨b,rfl⟩:=a;exact PySem.EqMixed.ne_bool_str<|jD I q (by simp)
  | _=>exact absurd (c) M3
 | int i=>
  obtain⟨t,rfl⟩:=d;cases y with
  | non=>cases a;exact PySem.EqNone.ne_int_none<|jD I q (by simp)
  | int j=>obtain⟨b,rfl⟩:=a;exact ne_int<|jD I q<|congrArg not zx
  | str j=>obtain⟨b,rfl⟩:=a;exact PySem.EqMixed.ne_int_str<|jD I q (by simp)
  | _=>exact absurd (c) M3
 | str i=>
  obtain⟨t,rfl⟩:=d;cases y with
  | non=>cases a;exact PySem.EqNone.ne_str_none<|jD I q (by simp)
  | bl j=>cases a;exact PySem.EqMixed.ne_str_bool<|jD I q (by simp)
  | int j=>obtain⟨b,rfl⟩:=a;exact PySem.EqMixed.ne_str_int<|jD I q (by simp)
  | str j=>obtain⟨b,rfl⟩:=a;exact ne_str<|jD I q<|congrArg not jbU
  | _=>exact absurd (c) M3
 | byt i=>
  obtain⟨t,rfl⟩:=d;cases y with
  | byt j=>obtain⟨b,rfl⟩:=a;exact PySem.W.ne_bytes<|jD I q<|congrArg not jbh
  | _=>exact absurd (c) M3
 | _=>cases y<;>exact absurd (c) M3
def jnL:OpR X (compareOp .Lt) (rI0 λi j=>.bl<|decide<|i<j):=jnH λ_ _ _ _ _ _ _ q=>lt_int q
def jom:OpR X (compareOp .Gt) (rI0 λi j=>.bl<|decide<|j<i):=jnH λ_ _ _ _ _ _ _ q=>gt_int q
def jnn:OpR X (compareOp .GtE) (rI0 λi j=>.bl<|decide<|j<=i):=jnH λ_ _ _ _ _ _ _ q=>ge_int q
def jdG:OpR X (compareOp .In) (λx y H Q=>∃ i j,x=.str i/\y=.str j/\Q (.bl<|!(Builtin.Str.occurrences j i 0 j.length 1).isEmpty) H):=by
 intro a s σ H x y v u Q I b c h;obtain⟨i,j,rfl,rfl,q⟩:=h;obtain⟨t,rfl⟩:=b;obtain⟨d,rfl⟩:=c;exact in_str<|jD I q rfl
def QX:OpR X (compareOp .NotIn) (λx y H Q=>∃ i j,x=.str i/\y=.str j/\Q (.bl<|!(!(Builtin.Str.occurrences j i 0 j.length 1).isEmpty)) H):=by
 intro a s σ H x y v u Q I b c h;obtain⟨i,j,rfl,rfl,q⟩:=h;obtain⟨t,rfl⟩:=b;obtain⟨d,rfl⟩:=c;exact notIn_str<|jD I q rfl
def K6(b)  (h:op≠.In:=by decide) (h2:op≠.NotIn:=by decide):behindInMarks op b=false:=by
 have a:(op==CmpOp.In)=false:=by cases op<;>first | rfl | exact absurd rfl h
 have e2:(op==CmpOp.NotIn)=false:=by cases op<;>first | rfl | exact absurd rfl h2
 cases b<;>simp[behindInMarks,a,e2]
def jhj(d:OpR X (compareOp op) r)(e:PE X a ta)(f:PE X b tb)(g:behindInMarks op b=false):PE X (.Compare a [op] [b] pos) (tOp r ta tb):=by
 intro c s σ H Q I h;exact wpAny_Compare1 (jnD e f I h λv u s2 x y i j k l q=>d c s2 σ i x y v u Q j k l q) g
def uI(t:TE):TT:=λσ H Q=>t σ H λx H'=>∃ k,x=.bl k/\Q k H'
def jh0(f:OpR X (compareOp op) r)(g:PE X a ta)(i:PE X b tb)(j:behindInMarks op b=false):PT X (.Compare a [op] [b] pos) (uI<|tOp r ta tb):=by
 intro d s σ H Q I h;refine wpAny_isTrue_Compare1 (thn (g d s σ H _ I h) λv s1 ⟨x,l,m,r1,n⟩=>thn (i d s1 σ l _ m n) λu s2 ⟨y,o,p,r2,q⟩=>
  thn (f d s2 σ o x y v u _ p r1 r2 q) λc C ⟨z,t,w,A,k,e,B⟩=>?_) j
 subst e;cases A;exact wpAny_truthy_bool ⟨t,w,B⟩
def Qh:(sizeLine:Nat)<2 ^ 63:=by rw[sizeLine_eq];decide
def jal:OpR X (binaryOp .Add) (λx y H Q=>∃ i j,x=.str i/\y=.str j/\i.length+j.length<=sizeLine/\Q (.str<|i++j) H):=by
 intro a s σ H x y v u Q I b c h;obtain⟨i,j,rfl,rfl,d,q⟩:=h;obtain⟨t,rfl⟩:=b;obtain⟨e,rfl⟩:=c;exact add_str (λe f=>⟨.str<|i++j,H,I.tok _,⟨_,rfl⟩,q⟩) d
def jhD(r:Vals [x] us):∃ u,us=[u]/\RelV x u:=by
 cases r with
 | cons r1 r2=>cases r2;exact⟨_,rfl,r1⟩
def jjV(r:Vals [x,y] us):Ex2 λu w'=>An3 (us=[u,w']) (RelV x u) (RelV y w'):=by
 cases r with
 | cons r1 r2=>
  cases r2 with
  | cons a b=>cases b;exact⟨_,_,rfl,r1,a⟩
def jbL(c:X.calm=true):vJ X (.builtin "max") (λxs H Q=>∃ i j,xs=[.int i,.int j]/\Q (.int<|if j>i then j else i) H):=by
 intro b s σ H xs d Q I r h;obtain⟨i,j,rfl,q⟩:=h;obtain⟨u,e,rfl,⟨t,rfl⟩,⟨f,rfl⟩⟩:=jjV r;refine max_two_ints (I.ok.hd c) λg l k=>⟨_,H,I.kept k,?_,q⟩;by_cases a:j>i
 ·rw[if_pos a,if_pos a];exact⟨_,rfl⟩
 ·rw[if_neg a,if_neg a];exact⟨_,rfl⟩
def jaU(c:X.calm=true):vJ X (.builtin "min") (λxs H Q=>∃ i j,xs=[.int i,.int j]/\Q (.int<|if j<i then j else i) H):=by
 intro b s σ H xs d Q I r h;obtain⟨i,j,rfl,q⟩:=h;obtain⟨u,e,rfl,⟨t,rfl⟩,⟨f,rfl⟩⟩:=jjV r;refine min_two_ints (I.ok.hd c) λg l k=>⟨_,H,I.kept k,?_,q⟩;by_cases a:j<i
 ·rw[if_pos a,if_pos a];exact⟨_,rfl⟩
 ·rw[if_neg a,if_neg a];exact⟨_,rfl⟩
def jos(K:W4)(x:V)(H:Hp)(n:Nat):Prop:=
 match x with
 | .str y=>y.length<=sizeLine/\n=y.length
 | .byt y=>y.size<=sizeLine/\n=y.size
 | .ref p=>(∃ xs,SqL K H p xs/\n=xs.length) \/ ∃ xs,SqT K H p xs/\n=xs.length
 | _=>False
def jeG:vJ X (.builtin "len") (λxs H Q=>∃ x n,xs=[x]/\jos X.K x H n/\Q (.int n) H):=by
 intro i s σ H xs l Q I r h;obtain⟨x,n,rfl,e,q⟩:=h;obtain⟨u,rfl,c⟩:=jhD r;have m:=sizeLine_eq;cases x with
 | str y=>
  obtain⟨t,rfl⟩:=c;obtain⟨j,b⟩:y.length<=sizeLine/\n=y.length:=e;subst b;exact len_str ∅ ⟨.int _,H,I.tok _,⟨_,rfl⟩,q⟩
 | byt y=>
  obtain⟨t,rfl⟩:=c;obtain⟨j,b⟩:y.size<=sizeLine/\n=y.size:=e;subst b;exact PySem.W.len_bytes ∅ ⟨.int _,H,I.tok _,⟨_,rfl⟩,q⟩
 | ref p=>
  cases c;have b:=e;rcases b with⟨xs,d,b⟩ | ⟨xs,d,b⟩
  ·subst b;obtain⟨f,g,pl,k⟩:=I.list d;have a:=g.length;exact Calls.call_len_list pl.isList (by simp only[N3];lia) ⟨.int xs.length,H,I.tok _,⟨_,by simp only[N3];rw[a]⟩,q⟩
  ·subst b;obtain⟨f,g,pl,k⟩:=I.tuple d;have a:=g.length;exact len_tuple pl (by simp only[N3];lia) ⟨.int xs.length,H,I.tok _,⟨_,by simp only[N3];rw[a]⟩,q⟩
 | _=>exact(e).elim
end
structure ObjM(h:Heap)(x dx C:Addr)(mA:W6):Prop where
 obj:h.get? x=some (PySem.W.instObj C dx)
 ns:h.Ns1 dx mA
 ne:dx≠x
def jbz{h:Heap}{mA}(n:h.Ns1 dx mA):∃ od,h.get? dx=some od/\∀ name,PySem.W.lookIn name od=some (mA name):=by
 obtain⟨o,c,k,d,hd,f,_,g⟩:=n;refine⟨o,d,λname=>?_⟩;have e:=g name;unfold nsFind findBy at e;rw[<- Array.find?_toList] at e;unfold PySem.W.lookIn;rw[hd];dsimp only;split
 ·rename_i y q;rw[q] at e;exact congrArg some e
 ·rename_i q;rw[q] at e;have a:c.toList.any (·.refKey)=false:=by
   rw[List.any_eq_false];intro y i;obtain⟨z,t,b⟩:=f y<|Array.mem_toList_iff.mp i;simp[DictEntry.refKey,b]
  have j:¬ c.toList.any (·.refKey)=true:=by rw[a];exact M3
  rw[if_neg j];exact congrArg some e
def ObjM.look(I:ObjM h x dx C mA):∃ od,PySem.W.InstAt h x (PySem.W.instObj C dx) C (some od)/\∀ name,PySem.W.lookIn name od=some (mA name):=
 let ⟨od,ho,hl⟩:=jbz I.ns
 ⟨od,⟨I.obj,rfl,rfl,ho⟩,hl⟩
section
variable {prog:Program}{w:World}{A:Around}{E:J0}{s:Shared}{K:W4}{x dx C f:Addr}{mA:W6}{name:Str}{v:Value}
def jjA{a}{Q}(X:K.In s.heap)(I:ObjM s.heap x dx C mA)(c:PySem.W.plainGet K C name=true)(d:PySem.W.hasDictIn K C=true)
  (e:PySem.W.findIn K (.ref C) name=some none) (f:mA name=some v) (b:PySem.W.handedIn v=true) (h:Q v {s with toks:=s.toks+1}):
  wpAny (model prog w) A (getAttr (.ref x) name a) Q E s:=by
 obtain⟨od,J,g⟩:=I.look;exact PySem.W.get_value X J (PySem.W.plainGet_of c).1 (PySem.W.findObj_own d e rfl<|by rw[g,f]) b h
def jeX{pl}{Q}(X:K.In s.heap)(I:ObjM s.heap x dx C mA)(a:PySem.W.plainGet K C name=true)
  (b:PySem.W.findIn K (.ref C) name=some (some<|.ref f)) (c:PySem.W.isFn K (.ref f)=true) (d:mA name=none) (h:Q (.ref f,[.ref x]) s):
  wpAny (model prog w) A (getMethod (.ref x) name pl) Q E s:=by
 obtain⟨od,J,e⟩:=I.look;exact PySem.W.method_fn X J (PySem.W.plainGet_of a).1 (PySem.W.plainGet_of a).2 b (beq_iff_eq.mp c) (by show(PySem.W.lookIn name od).map (·.isSome)=some false;rw[e,d];rfl) h
def jiG{ns}{Q}(X:K.In s.heap)(I:ObjM s.heap x dx C mA)
  (i:PySem.W.findIn K (.ref C) "__setattr__" = some (some<|.builtin "object.__setattr__")) (j:PySem.W.plainOver K C=true) (k:PySem.W.takerIn K C name=some none) (l:PySem.W.hasDictIn K C=true)
  (m:PySem.Within mA ns) (hsz:ns.length<=sizeLine)
  (h:∀ h',ObjM h' x dx C (λy=>if y=name then some v else mA y)->Heap.SameBut dx s.heap h'->Q () {s with heap:=h',toks:=s.toks+2}):
  wpAny (model prog w) A (setAttr (.ref x) name v) Q E s:=by
 obtain⟨od,J,q⟩:=I.look;refine PySem.W.set_plain X J i<|PySem.W.osa_open X J j k λb=>?_;obtain⟨r,n,d⟩:=PySem.W.any_some l;refine L3<|M6<|L3<|L3<|wpAny_loadPart I.obj<|L3<|PySem.W.Looks.here (PySem.W.looks_clsIn X n) ?_;rw[d];refine M6<|L3<|M6<|L3<|wpAny_nsSet1 I.ns λh' a c=>?_;obtain⟨t,o,p,e,f,g⟩:=a.count<|PySem.Within.cons name v m;refine L3<|wpAny_lookBehind e (by rw[f];exact pastItsLine_dict<|N7 g<|by rw[M1];lia) ?_;exact M6<|h _ ⟨(c.2 _<|Ne.symm I.ne).trans I.obj,a,I.ne⟩ c
def jfI{R}{vs}{kw}(X:K.In s.heap)(a:PySem.W.makesIn K C=true)
  (hi:PySem.W.findIn K (.ref C) "__init__" = some (some<|.ref f)) (b:PySem.W.typeIn K (.ref f)=some (.type "function"))
  (h:codeAny (model prog w) (A.under<|.builtin "type.__call__" ⟨.ref C::vs,kw⟩) (.call (.ref f) ⟨.ref (↥s+1)::vs,kw⟩) (PySem.W.InitBack (↥s+1) R)
   {s with heap:=(s.heap.push PySem.W.emptyDict).push (PySem.W.instObj C ↥s)}):
  codeAny (model prog w) A (.call (.ref C) ⟨vs,kw⟩) R s:=by
 obtain⟨c,g,d,t,os⟩:=s;exact PySem.W.make_core (PySem.W.makes_of X a) (PySem.W.looks_findIn X hi) (λself=>PySem.W.bind_fn X self b) (.inl rfl) h
end
noncomputable def VI(f:Str)(v:V):List (Str×V)->List (Str×V)
 | []=>[(f,v)]
 | (g,x)::r=>if g=f then(g,v)::r else(g,x)::VI f v r
theorem YX(f g)(v):∀ fs:List (Str×V),(VI f v fs).lookup g=if g=f then some v else fs.lookup g
 | []=>by
  show List.lookup g [(f,v)]=_;by_cases h:g=f
  ·have a:=beq_iff_eq.mpr h;simp only[List.lookup,a,if_pos h]
  ·have a:=U2.mpr h;simp only[List.lookup,a,if_neg h]
 | (k,x)::r=>by
  rw[show VI f v ((k,x)::r)=(if k=f then(k,v)::r else(k,x)::VI f v r) from rfl];by_cases b:k=f
  ·rw[if_pos b];by_cases h:g=k
   ·have a:=beq_iff_eq.mpr h;simp only[List.lookup,a,if_pos<|h.trans b]
   ·have a:=U2.mpr h;simp only[List.lookup,a,if_neg<|λe:g=f=>h<|e.trans b.symm]
  ·rw[if_neg b];by_cases h:g=k
   ·have a:=beq_iff_eq.mpr h;simp only[List.lookup,a,if_neg<|λe:g=f=>b<|h.symm.trans e]
   ·have a:=U2.mpr h;simp only[List.lookup,a];exact(YX f g v r)
theorem Vg(f)(v):∀ fs:List (Str×V),f∈(VI f v fs).map (·.1)/\∀ g,g∈fs.map (·.1)->g∈(VI f v fs).map (·.1)
 | []=>⟨by simp[VI],λg h=>by simp at h⟩
 | (k,x)::r=>by
  obtain⟨b,c⟩:=Vg f v r;rw[show VI f v ((k,x)::r)=(if k=f then(k,v)::r else(k,x)::VI f v r) from rfl];by_cases a:k=f
  ·rw[if_pos a];subst a;exact⟨by simp,λg h=>by simpa using h⟩
  ·rw[if_neg a];refine⟨?_,λg h=>?_⟩
   ·rw[L5];exact L6 _ b
   ·rw[L5] at h ⊢;rcases M4.mp h with e | e
    ·exact M4.mpr<|.inl e
    ·exact L6 _<|c g e
theorem YR(f)(v):∀ fs:List (Str×V),(VI f v fs).length<=fs.length+1
 | []=>by simp[VI]
 | (k,x)::r=>by
  have b:=YR f v r;rw[show VI f v ((k,x)::r)=(if k=f then(k,v)::r else(k,x)::VI f v r) from rfl];by_cases a:k=f
  ·rw[if_pos a,M1,M1];lia
  ·rw[if_neg a,M1,M1];lia
def RelO.some_of(r:RelO (some v) o):∃ u,o=some u/\RelV v u:=by
 cases o with
 | none=>exact(r).elim
 | some u=>exact⟨u,rfl,r⟩
def RelO.none_of(r:RelO none o):o=none:=by
 cases o with
 | none=>rfl
 | some u=>exact(r).elim
def jcx(r:RelV v u):PySem.W.handedIn u=true:=by
 cases v with
 | non=>cases(r);rfl
 | bl b=>cases(r);rfl
 | int i=>obtain⟨t,e⟩:=(r);cases e;rfl
 | str x=>obtain⟨t,e⟩:=(r);cases e;rfl
 | byt b=>obtain⟨t,e⟩:=(r);cases e;rfl
 | flt b=>obtain⟨t,e⟩:=(r);cases e;rfl
 | ref a=>cases(r);rfl
 | ty n=>cases(r);rfl
section
variable {P:Program}{w:World}{H H':Hp}{h h':Heap}{a C dx:Addr}{fs fs':List (Str×V)}
def xK(hok:HOk P w H h)(e:H a=some (.ins C dx fs)):∃ mA,An5 (ObjM h a dx C mA) (∀ f,RelO (fs.lookup f)<|mA f) (PySem.Within mA (fs.map (·.1))) (fs.length<=1000) (H dx=some (.own a)):=by
 obtain⟨d,z,ne,ob,mA,n,r,q⟩:=(hok a _ e);exact⟨mA,⟨ob,n,ne⟩,r,q,z,d⟩
end
structure Cls(K:W4)(C:Addr):Prop where
 pg:PySem.W.plainGet K C Str.empty=true
 hd:PySem.W.hasDictIn K C=true
 po:PySem.W.plainOver K C=true
 sa:PySem.W.findIn K (.ref C) "__setattr__" = some (some<|.builtin "object.__setattr__")
def Cls.get{K}{C}(c:Cls K C)(f):PySem.W.plainGet K C f=true:=c.pg
def NoAttr(K:W4)(C:Addr)(f:Str):Prop:=PySem.W.findIn K (.ref C) f=some none
def NoAttr.taker{K}{C}{f}(n:NoAttr K C f):PySem.W.takerIn K C f=some none:=by
 unfold PySem.W.takerIn;rw[n];rfl
structure Meth(K:W4)(C:Addr)(m:Str)(f:Addr):Prop where
 at_:PySem.W.findIn K (.ref C) m=some (some<|.ref f)
 fn:PySem.W.isFn K (.ref f)=true
 kp:PySem.W.keepIn K (.ref f)=true
section
variable {X:Cx}{pins:List (Addr×Obj)}{σ:St}{H:Hp}{s:Shared}{a C dx:Addr}{fs:List (Str×V)}{f:Str}{v:V}{A:Around}{E:J0}
def V4(I:Inv X pins σ H s)(e:H a=some (.ins C dx fs))(c:Cls X.K C)(n:NoAttr X.K C f)(l:fs.lookup f=some v)
  (h:∀ u s',Inv X pins σ H s'->RelV v u->Q u s'):wpAny (model X.prog X.w) A (getAttr (.ref a) f b) Q E s:=by
 obtain⟨i,O,r,_,_,_⟩:=xK I.hok e;obtain⟨u,g,d⟩:=RelO.some_of (by rw[<- l];exact r f);exact jjA I.kIn O (c.get f) c.hd n g (jcx d)<|h u _ (I.tok _) d
def jaN(I:Inv X pins σ H s)(e:H a=some (.ins C dx fs))(c:Cls X.K C)(k:Meth X.K C m g)(l:fs.lookup m=none)
  (h:Q (.ref g,[.ref a]) s):wpAny (model X.prog X.w) A (getMethod (.ref a) m pl) Q E s:=by
 obtain⟨d,O,r,_,_,_⟩:=xK I.hok e;have b:=RelO.none_of (by rw[<- l];exact r m);exact jeX I.kIn O (c.get m) k.at_ k.fn b h
def V0(I:Inv X pins σ H s)(e:H a=some (.ins C dx fs))(c:Cls X.K C)(n:NoAttr X.K C f)(B:fs.length<1000)(l:RelV y u)
  (h:∀ s',Inv X pins σ (upd H a<|.ins C dx<|VI f y fs) s'->Q () s'):wpAny (model X.prog X.w) A (setAttr (.ref a) f u) Q E s:=by
 obtain⟨i,O,r,j,_,k⟩:=xK I.hok e;have m:(fs.map (·.1)).length<=sizeLine:=by rw[L1,sizeLine_eq];lia
 refine jiG I.kIn O c.sa c.po n.taker c.hd j m λp d t=>h _ ?_;have hd:∃ o,p.get? dx=some o:=let ⟨o,_,_,e',_⟩:=d.ns;⟨o,e'⟩
 refine I.write (by rw[e];exact True.intro) (.inr k) (λb q v z=>(t.2 b v).trans z) hd ?_;refine⟨by rw[jd O.ne];exact k,?_,O.ne,d.obj,_,d.ns,λg=>?_,λg x=>?_⟩
 ·have:=YR f y fs;lia
 ·show RelO ((VI f y fs).lookup g) (if g=f then some u else i g);rw[YX];by_cases q:g=f
  ·rw[if_pos q,if_pos q];exact l
  ·rw[if_neg q,if_neg q];exact r g
 ·by_cases q:g=f
  ·rw[q];exact(Vg f y fs).1
  ·refine(Vg f y fs).2 g (j g λz=>x ?_);show(if g=f then some u else i g)=none;rw[if_neg q];exact z
def Inv.made(I:Inv X pins σ H s):Inv X pins σ (upd (upd H ↥s (.own<|↥s+1)) (↥s+1)<|.ins C ↥s [])
  {s with heap:=(s.heap.push PySem.W.emptyDict).push (PySem.W.instObj C ↥s)}:=by
 have a:(s.heap.push PySem.W.emptyDict).get? ↥s=some PySem.W.emptyDict:=X8 s.heap rfl;have e2:((s.heap.push PySem.W.emptyDict).push (PySem.W.instObj C ↥s)).get? (↥s+1)=some (PySem.W.instObj C ↥s):=by
  have:=X8 (s.heap.push PySem.W.emptyDict) (o:=PySem.W.instObj C ↥s) rfl
  rwa [Heap.size_push] at this
 have e3:(s.heap.push PySem.W.emptyDict).Ns ↥s (λ_=>none):=⟨PySem.W.emptyDict,#[],_,a,rfl,(λe c=>absurd c<|by simp),λ_=>rfl⟩;refine(I.laid (o:=.own<|↥s+1) (t':=s.toks) (λb u q=>L8 _ q) (M8 _) ⟨_,a⟩).laid (λb u q=>L8 _ q) (Nat.le_of_eq<|Heap.size_push _ _) ?_;have ne:↥s≠↥s+1:=N6<|Nat.lt_succ_self _;refine⟨by rw[jd ne,jk],U5 _,ne,e2,λ_=>none,(Heap.Ns1.of_empty e3).at λo q=>L8 _ q,λ_=>True.intro,λy d=>absurd rfl d⟩
def jhu(a:attributeBase e f env (eval e env)=eval e env)
  (h:wpAny (model prog w) A (eval e env) (λo s₁=>wpAny (model prog w) A (getAttr o f true) Q E s₁) E s):wpAny (model prog w) A (eval (.Attribute e f pos) env) Q E s:=
 Attribute_any_ h (by rw[arm_eval_Attribute,a])
end
def jdV(K:W4)(ta:TE)(f:Str):TE:=λσ H Q=>ta σ H λx H1=>∃ a C dx fs v,x=.ref a/\H1 a=some (.ins C dx fs)/\Cls K C/\NoAttr K C f/\fs.lookup f=some v/\Q v H1
def jnc(K:W4)(ta tv:TE)(f:Str):TS:=λD σ H=>tv σ H λy H1=>ta σ H1 λx H2=>∃ a C dx fs,x=.ref a/\H2 a=some (.ins C dx fs)/\Cls K C/\NoAttr K C f/\fs.length<1000 /\
 D.nx σ (upd H2 a<|.ins C dx<|VI f y fs)
def jm3(X:Cx)(op:Operator)(rd:V->V->Hp->VK->Prop):Prop:=
 ∀ pins s (σ:St) H x y u v Q,Inv X pins σ H s->RelV x u->RelV y v->rd x y H Q->wpAny (model X.prog X.w) X.A (inplaceOp op u v) (EP X pins σ Q) X.xe s
def xz(K:W4)(ta tv:TE)(rd:V->V->Hp->VK->Prop)(f:Str):TS:=λD σ H=>ta σ H λx H1=>∃ a C dx fs v,x=.ref a/\H1 a=some (.ins C dx fs)/\Cls K C/\NoAttr K C f/\fs.lookup f=some v /\
 tv σ H1 λy H2=>rd v y H2 λz H3=>∃ dx' fs',H3 a=some (.ins C dx' fs')/\fs'.length<1000/\D.nx σ (upd H3 a<|.ins C dx'<|VI f z fs')
section
variable {X:Cx}{o e value:Expr}{f:Str}{pos pos' tpos:Pos}{ta tv:TE}
def wZ(d:PE X e ta)(g:attributeBase e f X.env (eval e X.env)=eval e X.env):PE X (.Attribute e f pos) (jdV X.K ta f):=by
 intro b s σ H Q I h;refine jhu g<|thn (d b s σ H _ I h) λu s1 i=>?_;obtain⟨x,j,k,m,a,C,t,fs,v,ex,o,c,n,l,q⟩:=i;subst ex;obtain rfl:u=Value.ref a:=m;exact V4 k o c n l λw s2 p r=>⟨v,j,p,r,q⟩
def jkt(d:PE X o ta)(e:PE X value tv)(g:swapsWith value (some<|.Attribute o f pos') pos.line X.env=pure false):PS X (.Assign [.Attribute o f pos'] value pos) (jnc X.K ta tv f):=by
 intro b s σ H D I h;refine plainObj_wpAny_Assign_Attribute (thn (e b s σ H _ I h) λu s1 ⟨y,i,j,k,q⟩=>thn (d b s1 σ i _ j q) λm s2 p=>?_) g;obtain⟨x,A,r,t,a,C,B,fs,ex,v,c,n,l,w⟩:=p;subst ex;obtain rfl:m=Value.ref a:=t;exact V0 r v c n l k λE z=>⟨σ,_,z,w⟩
def jdo(i:PE X o ta)(j:PE X value tv)(d:jm3 X op rd):PS X (.AugAssign (.Attribute o f tpos) op value pos) (xz X.K ta tv rd f):=by
 intro b s σ H D I h;refine wpAny_AugAssign_AttributeAny<|thn (i b s σ H _ I h) λk s1 e=>?_;obtain⟨x,m,p,r,a,C,T,fs,v,ex,t,c,n,l,q⟩:=e;subst ex;obtain rfl:k=Value.ref a:=r;refine V4 p t c n l λu s2 w A=>thn (j b s2 σ m _ w q) λB E ⟨y,F,G,J,L⟩=>thn (d b E σ F v y u B _ G A J L) λU V e=>?_;obtain⟨z,W,M,N,O,P,g,Q,R⟩:=e;exact V0 M g c n Q N λY S=>⟨σ,_,S,R⟩
def jpf:V->V->Hp->VK->Prop:=λx y H Q=>∃ i j,x=.int i/\y=.int j/\Q (.int<|i+j) H
def jlx:V->V->Hp->VK->Prop:=λx y H Q=>∃ i j,x=.int i/\y=.int j/\Q (.int<|i-j) H
def jmf:jm3 X .Add jpf:=by
 rintro a s σ H x y u v Q I b c ⟨i,j,rfl,rfl,q⟩;obtain⟨t,rfl⟩:=(b);obtain⟨d,rfl⟩:=(c);exact PyProof.Rows.iadd_int ⟨.int<|i+j,H,I.tok _,⟨_,rfl⟩,q⟩
def xW:jm3 X .Sub jlx:=by
 rintro a s σ H x y u v Q I b c ⟨i,j,rfl,rfl,q⟩;obtain⟨t,rfl⟩:=(b);obtain⟨d,rfl⟩:=(c);exact PyProof.Rows.isub_int ⟨.int<|i-j,H,I.tok _,⟨_,rfl⟩,q⟩
end
structure Room(k:Nat)(A:Around):Prop where
 hd:A.handled=none
 dp:A.depth+3*k+5<recursionLimit
 un:A.units+16*k+200<cLine
def Room.mono(r:Room k A)(h:j<=k):Room j A:=⟨r.hd,by have:=r.dp;lia,by have:=r.un;lia⟩
def Room.deeper(r:Room (k+1) A)(env):Room k (A.deeper env):=
 ⟨r.hd,by have:=r.dp;show A.depth+1+3*k+5<_;lia,by have:=r.un;show A.units+3+16*k+200<_;lia⟩
def uW{A:Around}{us}{kw}:(A.under<|.builtin "type.__call__" ⟨.ref C::us,kw⟩).depth=A.depth+1:=by
 first | rfl | simp[Around.under,Code.weight,Code.isCreation,Code.isGuard,Code.isCaller,Code.frames,Code.isFrame,guardIds]
def jaI{A:Around}{us}{kw}:(A.under<|.builtin "type.__call__" ⟨.ref C::us,kw⟩).units=A.units+1:=by
 first | rfl | simp[Around.under,Code.cUnits,Code.frames,Code.isFrame]
def Room.make(r:Room (k+1) A)(C)(us)(kw):Room k (A.under<|.builtin "type.__call__" ⟨.ref C::us,kw⟩):=
 ⟨r.hd,by have:=r.dp;rw[uW];lia,by have:=r.un;rw[jaI];lia⟩
def Room.depth(r:Room k A):A.depth<recursionLimit:=by have:=r.dp;lia
def Room.units(r:Room k A):A.units+64<cLine:=by have:=r.un;lia
def JO:TA:=λ_ H Q=>Q [] H
def jC(ta:TE)(tr:TA):TA:=λσ H Q=>ta σ H λx H1=>tr σ H1 λxs H2=>Q (x::xs) H2
section
variable {X:Cx}{e:Expr}{es:List Expr}{te:TE}{t:TA}{pos:Pos}
def vF:PA X [] JO:=λ_ _ _ _ H Q I h=>Calls.spliced_nil ⟨[],H,I,.nil,h⟩
abbrev SEq(X:Cx)(e:Expr)(es:List Expr):Prop:=starEach (e::es) X.env=(false,eval e X.env)::starEach es X.env
def jy(b:PE X e te)(c:PA X es t)(d:SEq X e es:=by rfl):PA X (e::es) (jC te t):=by
 intro pos a s σ H Q I h;rw[d];refine Calls.spliced_cons<|thn (b a s σ H _ I h) λu s1 f=>?_;obtain⟨x,g,i,r1,j⟩:=f;exact thn (c pos a s1 σ g _ i j) λo s2 ⟨k,l,m,r2,n⟩=>⟨x::k,l,m,.cons r1 r2,n⟩
def ut(t:TA):TE:=λσ H Q=>t σ H λxs H1=>xs.length<=sizeLine/\∀ p,H1 p=none->Q (.ref p) (upd H1 p<|.tup xs)
def joo(t:TA):TE:=λσ H Q=>t σ H λxs H1=>xs.length<=sizeLine/\∀ p,H1 p=none->Q (.ref p) (upd H1 p<|.lst xs)
def JA{d}(h:PA X es t):PE X (.Tuple es d pos) (ut t):=by
 intro a s σ H Q I f;refine wpAny_Tuple_spliced<|thn (h pos a s σ H _ I f) λg s1 ⟨i,j,c,r,z,q⟩=>⟨by rw[<- r.length];exact z,?_⟩;refine⟨.ref ↥s1,upd j ↥s1 (.tup i),c.laid (λb u e=>L8 _ e) (M8 _) ?_,rfl,q _<|c.hok.fresh<|M8 _⟩;exact⟨z,g,r,⟨_,X8 _ rfl,rfl,_,rfl⟩,_,X8 _ rfl,rfl⟩
def jlA(h:PA X es t):PE X (.List es pos) (joo t):=by
 intro a s σ H Q I d;refine wpAny_List_spliced<|thn (h pos a s σ H _ I d) λf s1 ⟨g,i,c,r,z,q⟩=>⟨by rw[<- r.length];exact z,?_⟩;refine⟨.ref ↥s1,upd i ↥s1 (.lst g),c.laid (λb u e=>L8 _ e) (M8 _) ?_,rfl,q _<|c.hok.fresh<|M8 _⟩;exact⟨z,f,0,r,X8 _ rfl⟩
end
abbrev Sp:=List V->Hp->VK->XK->Prop
abbrev CXT:=List Env->Hp->Shared->XK->Value->Shared->Prop
structure Env0(P:Program)(w:World)(K:W4)(mg:W6)(base:Heap)(A:Around)(outer:List Env)(s:Shared)(H:Hp):Prop where
 frames:A.frames=some outer
 mod:Mod K mg base
 bs:∀ b o,base.get? b=some o->s.heap.get? b=some o/\H b=none
 bsz:base.objs.size<=↥s
 funs:s.heap.FunFrames base outer
 frf:∀ b∈frs outer,H b=none
 hok:HOk P w H s.heap
 bare:AllBare s.gens
def CE(outer:List Env)(P:Program)(w:World)(H:Hp)(s:Shared)(Q:VK)(u:Value)(s':Shared):Prop:=
 ∃ v H',s'.os=s.os/\AllBare s'.gens/\Un (frs outer) [] H H' s.heap s'.heap/\HOk P w H' s'.heap/\RelV v u/\Q v H'
def CR(CX:CXT)(outer:List Env)(P:Program)(w:World)(H:Hp)(s:Shared)(Q:VK)(E:XK)(r:Result)(s':Shared):Prop:=
 match r with
 | .ok (.ret u)=>CE outer P w H s Q u s'
 | .ok _=>False
 | .error e=>CX outer H s E e s'
structure FnOk(P:Program)(w:World)(K:W4)(mg:W6)(base:Heap)(CX:CXT)(k:Nat)(f:Addr)(fd:FuncData)(ps:List Str)(sp:Sp):Prop where
 len:∀ vs H Q E,sp vs H Q E->vs.length=ps.length
 run:∀(A:Around) (outer:List Env) (s:Shared) (H:Hp) (args:Args) (us:List Value) (vs:List V) (Q:VK) (E:XK),Room k A->Env0 P w K mg base A outer s H->BindsTo s fd args (ps.zip us)->Vals vs us->sp vs H Q E ->
  codeAny (model P w) A (.call (.ref f) args) (CR CX outer P w H s Q E) s
def FnOk.imp{P}{w}{K}{mg}{base}{CX}{k}{f}{fd}{ps}{sp a}(F:FnOk P w K mg base CX k f fd ps sp)
  (h:∀ vs H Q E,a vs H Q E->sp vs H Q E):FnOk P w K mg base CX k f fd ps a:=
 ⟨λvs H Q E q=>F.len vs H Q E<|h _ _ _ _ q,λA outer s H b c vs Q E d e g i j=>F.run A outer s H b c vs Q E d e g i<|h _ _ _ _ j⟩
def Env0.make{P}{w}{K}{mg}{base}{A}{outer}{s}{H}(e:Env0 P w K mg base A outer s H)(C)(us)(kw):
  Env0 P w K mg base (A.under<|.builtin "type.__call__" ⟨.ref C::us,kw⟩) outer s H:=⟨by first | exact e.frames | (simpa [Around.under,Code.envs,Code.isFrame,pushEnvs] using e.frames),e.mod,e.bs,e.bsz,e.funs,e.frf,e.hok,e.bare⟩
section
variable {X:Cx}{pins:List (Addr×Obj)}{σ:St}{H:Hp}{s s':Shared}
def Inv.env0(I:Inv X pins σ H s):Env0 X.prog X.w X.K X.mg X.base X.A X.stack s H:=
 ⟨I.ok.frames,I.ok.mod,I.bs,N7 I.ok.bsz I.sz,I.stack,I.stkFree,I.hok,I.bare⟩
def Inv.after(I:Inv X pins σ H s)(h:CE X.stack X.prog X.w H s Q u s'):EP X pins σ Q u s':=by
 obtain⟨v,c,os,bare,un,hok,r,q⟩:=h;obtain⟨e,g,d,t,a⟩:=s';obtain rfl:a=s.os:=os;exact⟨v,c,I.call un hok bare<|λb z=>absurd z<|by simp,r,q⟩
end
def zY(sp:Sp)(dvs:List V)(E:XK)(t:TA):TE:=λσ H Q=>t σ H λvs H1=>sp (vs++dvs) H1 Q E
def jcG(C:Addr)(m:Str)(sp:Sp)(dvs:List V)(E:XK)(ta:TE)(t:TA):TE:=λσ H Q=>ta σ H λx H1=>∃ a dx fs,x=.ref a/\H1 a=some (.ins C dx fs)/\fs.lookup m=none /\
 t σ H1 λvs H2=>sp (x::(vs++dvs)) H2 Q E
def jhK(C:Addr)(sp:Sp)(dvs:List V)(E:XK)(t:TA):TE:=λσ H Q=>t σ H λvs H1=>∀ x dx,H1 x=none->H1 dx=none->dx≠x ->
 sp (.ref x::(vs++dvs)) (upd (upd H1 dx<|.own x) x<|.ins C dx []) (λv H2=>v=.non/\Q (.ref x) H2) E
def Binds(K:W4)(fd:FuncData)(ps:List Str)(ds:List Value):Prop:=
 ∀ s us,K.In s.heap->(us++ds).length=ps.length->BindsTo s fd ⟨us,[]⟩ (ps.zip<|us++ds)
def Binds.all{K}{fd}{ps}(h:∀ us:List Value,us.length=ps.length->bindArgs fd ⟨us,[]⟩=pure (ps.zip us)):Binds K fd ps []:=λs us _ a=>by
 rw[M9] at a ⊢;exact .of_eq<|h us a
def VX(CX:CXT)(X:Cx)(E:XK):Prop:=∀ pins (σ:St) H s e s',Inv X pins σ H s->CX X.stack H s E e s'->X.xe e s'
section
variable {X:Cx}{CX:CXT}{k:Nat}{f C:Addr}{fd:FuncData}{ps:List Str}{sp:Sp}{dvs:List V}{ds:List Value}{E:XK}{x m:Str}{p pos apos:Pos}{e o:Expr}{es:List Expr}{ta:TE}{t:TA}
def jgJ(F:FnOk X.prog X.w X.K X.mg X.base CX k f fd ps sp)(b:Room k X.A)(c:Binds X.K fd ps ds)(hd:Vals dvs ds)(d:VX CX X E)
  (I:Inv X pins σ H s) (r:Vals vs us) (h:sp (vs++dvs) H Q E):wpAny (model X.prog X.w) X.A (call (.ref f) us) (EP X pins σ Q) X.xe s:=by
 have r2:=r.append hd;have g:(us++ds).length=ps.length:=by rw[<- r2.length];exact F.len _ _ _ _ h
 refine wpAny_call<|codeAny_mono (F.run X.A X.stack s H ⟨us,[]⟩ (us++ds) (vs++dvs) Q E b I.env0 (c s us I.kIn g) r2 h) λr i a=>?_;cases r with
 | error e=>exact d pins σ H s e i I a
 | ok j=>
  cases j with
  | ret u=>exact I.after a
  | next=>exact False.elim a
  | brk=>exact False.elim a
  | cont=>exact False.elim a
abbrev BkE(X:Cx)(p:Pos)(l:List Expr):Prop:=(backTo p<|starEach l X.env).any (·.1)=false
def jhE(F:FnOk X.prog X.w X.K X.mg X.base CX k f fd ps sp)(g:Room k X.A)(i:Gl X x)(j:X.mg x=some (.ref f))(l:PySem.W.keepIn X.K (.ref f)=true)(m:Binds X.K fd ps ds)(hd:Vals dvs ds)(n:VX CX X E)
  (o:PA X (e::es) t) (b:Nd x:=by decide) (u:SEq X e es:=by rfl) (c:BkE X pos es:=by rfl):
  PE X (.Call (.Name x p) (e::es) [] pos) (zY sp dvs E t):=by
 intro a s σ H Q I h;exact wpAny_Call_Name_kw<|jc4 I i j (PySem.W.callWith_K I.ok.mod.kin l (thn (o pos a s σ H _ I h) λv s1 ⟨vs,y,d,r,q⟩=>⟨d.kIn,(jgJ F g m hd n d r q)⟩) u c) b
def jds(p:PE X o ta)(c:Cls X.K C)(i:Meth X.K C m f)(F:FnOk X.prog X.w X.K X.mg X.base CX k f fd ps sp)(v:Room k X.A)(y:Binds X.K fd ps ds)(hd:Vals dvs ds)(z:VX CX X E)(B:PA X (e::es) t)
  (d:SEq X e es:=by rfl) (g:BkE X pos es:=by rfl)
  (D:eval (.Call (.Attribute o m apos) (e::es) [] pos) X.env=(do
   let ov <- eval o X.env
   standAt apos.atName
   let (f,first) <- holding [ov] (getMethod ov m pl)
   callWith pos f first (backTo pos<|starEach (e::es) X.env) (backToKw pos<|keywordEach [] X.env)):=by rfl):
  PE X (.Call (.Attribute o m apos) (e::es) [] pos) (jcG C m sp dvs E ta t):=by
 intro b s σ H Q I h;refine PySem.W.methodCall_KW (thn (p b s σ H _ I h) λu s1 G=>?_) D;obtain⟨x,J,j,L,a,O,fs,ex,M,l,q⟩:=G;subst ex;obtain rfl:u=Value.ref a:=L;exact jaN j M c i l<|PySem.W.callWith_K I.ok.mod.kin i.kp (thn (B pos b s1 σ J _ j q) λP s2 ⟨vs,R,n,r,N⟩=>⟨n.kIn,(jgJ (vs:=.ref a::vs) F v y hd z n (.cons rfl r) N)⟩) d g
structure Mk(K:W4)(C f:Addr):Prop where
 makes:PySem.W.makesIn K C=true
 init:PySem.W.findIn K (.ref C) "__init__" = some (some<|.ref f)
 fn:PySem.W.isFn K (.ref f)=true
 kp:PySem.W.keepIn K (.ref C)=true
def jeg(M:Mk X.K C f)(F:FnOk X.prog X.w X.K X.mg X.base CX k f fd ps sp)(d:Room (k+1) X.A)(g:Binds X.K fd ps ds)(hd:Vals dvs ds)
  (i:VX CX X E) (I:Inv X pins σ H s) (r:Vals vs us)
  (h:∀ x dx,H x=none->H dx=none->dx≠x->sp (.ref x::(vs++dvs)) (upd (upd H dx<|.own x) x<|.ins C dx []) (λv H2=>v=.non/\Q (.ref x) H2) E):
  wpAny (model X.prog X.w) X.A (call (.ref C) us) (EP X pins σ Q) X.xe s:=by
 have c:=h (↥s+1) ↥s (I.hok.fresh<|Nat.le_succ _) (I.hok.fresh<|M8 _) (N6<|Nat.lt_succ_self _);have b:=Inv.made (C:=C) I;have r2:Vals (V.ref (↥s+1)::(vs++dvs)) (Value.ref (↥s+1)::(us++ds)):=.cons rfl<|r.append hd;have j:(Value.ref (↥s+1)::us++ds).length=ps.length:=by
  have e:=r2.length;rw[F.len _ _ _ _ c] at e;exact e.symm
 refine wpAny_call<|jfI I.kIn M.makes M.init (beq_iff_eq.mp M.fn)<|codeAny_mono (F.run _ X.stack _ _ ⟨Value.ref (↥s+1)::us,[]⟩ (Value.ref (↥s+1)::(us++ds)) _ _ E (d.make C us [])
  (b.env0.make C us []) (g _ (Value.ref (↥s+1)::us) b.kIn j) r2 c) λr l a=>?_
 cases r with
 | error e=>exact i pins σ _ _ e l b a
 | ok m=>
  cases m with
  | ret u=>
   obtain⟨v,n,o,p,q,t⟩:=b.after a;subst q;exact⟨p,⟨V.ref<|↥s+1,n,o,rfl,t⟩⟩
  | next=>exact False.elim a
  | brk=>exact False.elim a
  | cont=>exact False.elim a
def jii(M:Mk X.K C f)(F:FnOk X.prog X.w X.K X.mg X.base CX k f fd ps sp)(g:Room (k+1) X.A)(i:Gl X x)(j:X.mg x=some (.ref C))(l:Binds X.K fd ps ds)(hd:Vals dvs ds)(m:VX CX X E)
  (n:PA X (e::es) t) (b:Nd x:=by decide) (o:SEq X e es:=by rfl) (c:BkE X pos es:=by rfl):
  PE X (.Call (.Name x p) (e::es) [] pos) (jhK C sp dvs E t):=by
 intro a s σ H Q I h;exact wpAny_Call_Name_kw<|jc4 I i j (PySem.W.callWith_K I.ok.mod.kin M.kp (thn (n pos a s σ H _ I h) λu s1 ⟨vs,v,d,r,q⟩=>⟨d.kIn,(jeg M F g l hd m d r q)⟩) o c) b
end
def PK(X:Cx)(kws:List Keyword)(t:TA):Prop:=
 ∀ pos pins s (σ:St) H (Q:List V->Hp->Prop),Inv X pins σ H s->t σ H Q->wpAny (model X.prog X.w) X.A (evalAll ((backToKw pos<|keywordEach kws X.env).map (·.2))) (AP X pins σ Q) X.xe s
structure FnScope(N P:List Str)(sc:Scope):Prop where
 kind:sc.kind=.function
 co:sc.isCoroutine=false
 gen:sc.isGenerator=false
 nd:N.Nodup
 pre:N.take P.length=P
 par:∀ x∈P,sc.names.lookup x=some .local\/sc.names.lookup x=some .cell
 nofree:∀ y∈sc.names,y.2≠.free
theorem Q0{kindOf}  : ∀{binds}{m},(∀ v,(x,v)∉binds)->bindL kindOf binds m x=m x
 | [],_,_=>rfl
 | (n,v)::r,m,h=>by
  unfold bindL;rw[Q0 λw a=>h w<|L6 _ a];split
  ·have:x≠n:=by rintro rfl;exact h v L7
   simp[this]
  ·rfl
theorem QM{kindOf}  : ∀{binds}{m},(∀ v,(x,v)∉binds)->bindC kindOf binds m x=m x
 | [],_,_=>rfl
 | (n,v)::r,m,h=>by
  unfold bindC;rw[QM λw a=>h w<|L6 _ a];split
  ·rfl
  ·have:x≠n:=by rintro rfl;exact h v L7
   simp[this]
theorem Qm{kindOf}  : ∀{P:List Str}{vs}{i:Nat}{m},P.Nodup->P[i]?=some x->vs[i]?=some v->kindOf x=some .local ->
  bindL kindOf (P.zip vs) m x=some v
 | [],_,_,_,_,h,_,_=>by simp at h
 | _::_,[],_,_,_,_,h,_=>by simp at h
 | p::P,w::vs,0,m,nd,a,b,c=>by
  simp at a b;subst a;subst b;show bindL kindOf ((p,w)::P.zip vs) m p=_;unfold bindL;rw[Q0 λv d=>(List.nodup_cons.mp nd).1 (List.of_mem_zip d).1,if_pos c];simp
 | p::P,w::vs,i+1,m,nd,a,b,c=>by
  unfold bindL;exact Qm (List.nodup_cons.mp nd).2 ⇑a ⇑b c
theorem QN{kindOf}  : ∀{P:List Str}{vs}{i:Nat}{m},P.Nodup->P[i]?=some x->vs[i]?=some v->kindOf x≠some .local ->
  bindC kindOf (P.zip vs) m x=some v
 | [],_,_,_,_,h,_,_=>by simp at h
 | _::_,[],_,_,_,_,h,_=>by simp at h
 | p::P,w::vs,0,m,nd,a,b,c=>by
  simp at a b;subst a;subst b;show bindC kindOf ((p,w)::P.zip vs) m p=_;unfold bindC;rw[QM λv d=>(List.nodup_cons.mp nd).1 (List.of_mem_zip d).1,if_neg c];simp
 | p::P,w::vs,i+1,m,nd,a,b,c=>by
  unfold bindC;exact QN (List.nodup_cons.mp nd).2 ⇑a ⇑b c
noncomputable def start(N:List Str)(vs:List V):St:=vs.map some++List.replicate (N.length-vs.length) none
noncomputable def jgE(CX:CXT)(P:Program)(w:World)(K:W4)(mg:W6)(base:Heap)(N:List Str)(qual:Str)(scope:Scope)(f:Addr)(cd:Value)(A:Around)(outer:List Env)(s:Shared)(H:Hp)(E:XK):Cx where
 prog:=P
 w:=w
 K:=K
 mg:=mg
 base:=base
 A:=A.deeper (envOfC qual scope ↥s f cd)
 N:=N
 s₀:=s
 H₀:=H
 env:=envOfC qual scope ↥s f cd
 outer:=outer
 stack:=envOfC qual scope ↥s f cd::outer
 ex:=[]
 calm:=true
 fn:=λ_=>true
 pn:=[]
 xe:=λe s'=>wpAny (model P w) (A.deeper<|envOfC qual scope ↥s f cd) (leaving (envOfC qual scope ↥s f cd) e) (λ_ s''=>CX outer H s E e s'') (λe' s''=>CX outer H s E e' s'') s'
def xS{sc:Scope}{n}(h:sc.names.lookup x=some .cell):∃ c,(cellsFrom n sc.names []).lookup x=some c:=by
 exact Option.isSome_iff_exists.mp<|PySem.W.cellsFrom_some sc.names n []<|.inl h
def jbb{CX}{P}{w}{K}{mg}{base}{N ps}{qual}{scope}{f}{cd}{A}{outer}{s s1}{H}{E}{us}{vs}
  (S:FnScope N ps scope) (hd:A.handled=none) (g:Env0 P w K mg base A outer s H) (G:vs.length=ps.length) (r:Vals vs us)
  (x:InCallC s ↥s (bindL (envOfC qual scope ↥s f cd).kindOf (ps.zip us) λ_=>none) (cellsFrom (↥s+1) scope.names []) (bindC (envOfC qual scope ↥s f cd).kindOf (ps.zip us) λ_=>none) s1):
  Inv (jgE CX P w K mg base N qual scope f cd A outer s H E) [] (start N vs) H s1:=by
 have C:ps.length<=N.length:=by have:=congrArg List.length S.pre;rw[X7] at this;lia
 obtain⟨o,I,rfl,t⟩:=x.done;have j:∀ b:Addr,b∉(jgE CX P w K mg base N qual scope f cd A outer s H E).ex:=λb z=>absurd (show b∈([]:W5) from z) (by simp);refine⟨⟨g.mod,S.kind,rfl,rfl,M8 _,λy z c o d=>?_,λy l=>?_,λy c _ h=>?_,λ_=>hd,Around.frames_deeper g.frames,.inr ⟨rfl,rfl⟩,λb z=>absurd z<|j b,g.bs,g.bsz,λb _ _=>j b,λb z=>absurd z<|j b,g.funs,g.frf⟩,
  rfl,g.bare,Un.kept t,⟨_,x.toInCall.ns,λi y v o d J=>?_⟩,λy c h=>⟨_,x.cell y c h⟩,g.hok.fresh<|M8 _,λy c h=>?_,λp m=>absurd (show p∈([]:W0) from m)<|by simp,g.hok.kept t,?_⟩
 ·exact name_of_addr x.apart (PySem.mem_of_lookup o)<|PySem.mem_of_lookup d
 ·have l:=l;rcases l with l | l
  ·exact xS l
  ·exact absurd rfl<|S.nofree _<|PySem.mem_of_lookup l
 ·exact Nat.le_of_lt<|x.above y c<|PySem.mem_of_lookup h
 ·have hi:i<vs.length:=by
   unfold start at d;by_cases hi:i<vs.length
   ·exact hi
   ·rw[List.getElem?_append_right ⇑hi,List.getElem?_replicate] at d;split at d<;>cases d
  have D:vs[i]?=some v:=by
   unfold start at d;rw[List.getElem?_append_left ⇑hi,List.getElem?_map] at d;cases e:vs[i]? with
   | none=>rw[e] at d;cases d
   | some a=>rw[e] at d;cases d;rfl
  obtain⟨u,B,F⟩:=r.get D;have m:ps[i]?=some y:=by
   rw[<- S.pre,List.getElem?_take_of_lt ∅];exact o
  have n:ps.Nodup:=by rw[<- S.pre];exact S.nd.sublist<|List.take_sublist _ _
  refine⟨u,F,?_⟩;rcases S.par y (List.mem_of_getElem? m) with k | k
  ·exact .inl ⟨k,Qm n m B k⟩
  ·obtain⟨c,e⟩:=xS k;refine .inr ⟨.inl k,c,e,?_⟩;have q:=x.cell y c e;rw[QN n m B<|by show scope.names.lookup y≠_;rw[k];decide] at q;exact q
 ·exact g.hok.fresh<|Nat.le_of_lt<|x.above y c<|PySem.mem_of_lookup h
 ·unfold start;show _=N.length;rw[N4,L1,List.length_replicate]
  lia
def jnj{CX}{P}{w}{K}{mg}{base}{k}{f}{name qual}{params}{body}{scope}{F kV h pm a ct oc}{an od}
  {p:Array (Option Value)}{N ps:List Str}{sp:Sp}(M:K.lookup f=some ⟨oc,od,.func<|PySem.W.fnOf name qual params body scope F kV h pm an a ct,p⟩) (z:PySem.W.codeIn K a qual=true) (S:FnScope N ps scope)
  (len:∀ vs H Q E,sp vs H Q E->vs.length=ps.length)
  (c:∀ A outer s H vs Q E,Room k (A.deeper<|envOfC qual scope ↥s f a)->sp vs H Q E ->
   ∃ t,PSs (jgE CX P w K mg base N qual scope f a A outer s H E) body t/\t {nx:=λ_ H'=>Q .non H',rt:=Q} (start N vs) H):
  FnOk P w K mg base CX (k+1) f (PySem.W.fnOf name qual params body scope F kV h pm an a ct) ps sp:=by
 refine⟨len,λA outer s H G O vs Q E B i R r j=>?_⟩;have L:=i.mod.kin.keeps λb o e=>(i.bs b o e).1;have d:∀ y∈ps.zip O,scope.names.lookup y.1=some .local\/(scope.names.lookup y.1=some .cell/\((cellsFrom (↥s+1) scope.names []).lookup y.1).isSome=true):=λ⟨n,v⟩ T=>by
  rcases S.par n (List.of_mem_zip T).1 with q | q
  ·exact .inl q
  ·exact .inr ⟨q,PySem.W.cellsFrom_some _ _ _<|.inl q⟩
 refine codeAny_call_function B.depth (L _ _ M) rfl S.co S.gen rfl (PySem.W.codeRec_of L z)<|R _ _ _ _<|wpAny_newFunctionEnv_cells S.kind d λenv U s1 x=>?_;subst U;refine⟨(i.mod.nolimit.keeps λb o e=>(i.bs b o e).1).keeps x.toInCall.keep,codeAny_func ?_⟩;obtain⟨t,X,Y⟩:=c A outer s H vs Q E (B.deeper _) j;have I:Inv (jgE CX P w K mg base N qual scope f a A outer s H E) [] (start N vs) H s1:=jbb S B.hd i (len _ _ _ _ j) r x;refine wpAny_mono (X [] s1 (start N vs) H _ I Y) (λZ C g=>?_) λe C g=>g;have l:∀{m}{H'}{v}{u},Inv (jgE CX P w K mg base N qual scope f a A outer s H E) [] m H' C->RelV v u->Q v H'->CE outer P w H s Q u C:=
  λ{m H' v u} J D q=>⟨v,H',J.os,J.bare,J.base,J.hok,D,q⟩
 cases Z with
 | ret u=>
  obtain⟨v,m,H',J,D,q⟩:=g;exact l J D q
 | next=>
  obtain⟨m,H',J,q⟩:=g;exact l (v:=V.non) J rfl q
 | brk=>
  obtain⟨_,_,_,q⟩:=g;exact False.elim q
 | cont=>
  obtain⟨_,_,_,q⟩:=g;exact False.elim q
section
variable {X:Cx}{x:Str}{p pos:Pos}{e:Expr}{es:List Expr}{t:TA}{id T:String}{r:List V->Hp->VK->Prop}
def tCB(r:List V->Hp->VK->Prop)(t:TA):TE:=λσ H Q=>t σ H λvs H1=>r vs H1 Q
def Yw(d:vJ X (.builtin id) r)(f:Gl X x)(g:X.mg x=none)(i:bootBuiltins x=some (.builtin id))(j:PA X (e::es) t)(k:x≠"__name__":=by decide)(b:Nd x:=by decide)
  (l:SEq X e es:=by rfl) (c:BkE X pos es:=by rfl):PE X (.Call (.Name x p) (e::es) [] pos) (tCB r t):=by
 intro a s σ H Q I h;exact wpAny_Call_Name_kw<|JQ I f g i (PyProof.Rows.callWith_builtin1 (thn (j pos a s σ H _ I h) λm s1 ⟨vs,n,o,r1,q⟩=>d a s1 σ n vs m Q o r1 q) l c) k b
def YE(d:vJ X (.type T) r)(f:Gl X x)(g:X.mg x=none)(i:bootBuiltins x=some (.type T))(j:PA X (e::es) t)(k:x≠"__name__":=by decide)(b:Nd x:=by decide)
  (l:SEq X e es:=by rfl) (c:BkE X pos es:=by rfl):PE X (.Call (.Name x p) (e::es) [] pos) (tCB r t):=by
 intro a s σ H Q I h;exact wpAny_Call_Name_kw<|JQ I f g i (PyProof.Rows.callWith_type1 (thn (j pos a s σ H _ I h) λm s1 ⟨vs,n,o,r1,q⟩=>d a s1 σ n vs m Q o r1 q) l c) k b
end
end L2
namespace HT
open PySem PyProof.Rows
section
open PySem.SeqAt
open PySem.AutoSeq1 (wpAny_loadPart')
open PySem.MeetsSeq PySem.MeetsSeq2 PySem.MeetsSeq3
end
section
variable {prog:Program}{w:World}{A:Around}{E:J0}{s:Shared}
def cat_tup(p:IsTup s.heap t vs.toArray)(q:IsTup s.heap b ws.toArray)(k:vs≠[])
  (h1:ws=[]->Q (.ref t) s) (h2:ws≠[]->Q (.ref ↥s) { s with heap:=s.heap.push {cls:=.type "tuple",data:=.seq (vs++ws).toArray} })
  (hsz:vs.length+ws.length<=sizeLine):wpAny (model prog w) A (binaryOp .Add (.ref t)<|.ref b) Q E s:=by
 obtain⟨⟨cls,l,data,sl⟩,f,r,n,hd⟩:=id p;obtain⟨⟨m,c,h,d⟩,a,i,o,j⟩:=id q;subst r hd i j;have e:vs.toArray++ws.toArray=(vs++ws).toArray:=by simp
 by_cases g:ws=[]
 ·exact concat_meets ⟨_,f,rfl⟩ ⟨_,a,rfl⟩ noFill_tuple_add seq_tuple_add PySem.F.slot_tuple_add PySem.F.entry_tuple_add (PySem.F.args_tuple_add_2 _ _)
   (tuple_addW1 t b vs.toArray ws.toArray n o l c sl d ⇑k (by simp[g])) ⟨f,a,h1 g⟩
 ·refine concat_meets ⟨_,f,rfl⟩ ⟨_,a,rfl⟩ noFill_tuple_add seq_tuple_add PySem.F.slot_tuple_add PySem.F.entry_tuple_add (PySem.F.args_tuple_add_2 _ _)
   (tuple_addW2 t b vs.toArray ws.toArray n o l c sl d ⇑k ⇑g (by rw[N3,N3];exact hsz)) ⟨f,a,?_⟩
  rw[e];exact h2 g
noncomputable def sIx(n d:Nat):Option Int->Nat
 | none=>d
 | some v=>if v<0 then(v+(n:Int)).toNat else min v.toNat n
def sIx_none(n d):sIx n d none=d:=rfl
def sIx_nat(n d k:Nat):sIx n d (some (k:Int))=min k n:=by
 show(if k<0 then(k+(n:Int)).toNat else min (k:Int).toNat n)=min k n;rw[if_neg ∅,N8]
def sIx_le(n d)(hd:d<=n)(o):sIx n d o<=n:=by
 cases o with
 | none=>exact hd
 | some v=>
  show(if v<0 then(v+n).toNat else min v.toNat n)<=n;by_cases a:v<0
  ·rw[if_pos a];lia
  ·rw[if_neg a];exact Nat.min_le_right _ _
def jb9(v)(n d:Nat):(if v<0 then max (v+(n:Int)) 0 else min v (n:Int))=((sIx n d (some v):Nat):Int):=by
 show(if v<0 then max (v+n) 0 else min v n)=(((if v<0 then(v+n).toNat else min v.toNat n):Nat):Int);by_cases a:v<0
 ·simp only[if_pos a];lia
 ·simp only[if_neg a];lia
def uR(lo hi)(n:Nat):Builtin.Slice.sliceAdjust lo hi 1 (n:Int)=(((sIx n 0 lo:Nat):Int),((sIx n n hi:Nat):Int)):=by
 refine Prod.ext ?_ ?_
 ·cases lo with
  | none=>rfl
  | some v=>exact jb9 v n 0
 ·cases hi with
  | none=>rfl
  | some v=>exact jb9 v n n
def uL(i j:Nat):Builtin.Slice.slicePlaces (i:Int) (j:Int) 1=j-i:=by
 unfold Builtin.Slice.slicePlaces;split<;>lia
def VB(p:IsPart v o)(h:Q o s):wpAny (model prog w) A (Builtin.Slice.slicePartIndex v) Q E s:=by
 cases p with
 | none=>exact slicePart_none h
 | int i t=>exact slicePart_int h
def Yl{lo hi}{n}{Q:Int×Int×Nat->Shared->Prop}(c:s.heap.IsSliceOf sl vl vu .none)(pl:IsPart vl lo)(d:IsPart vu hi)
  (h:Q (((sIx n 0 lo:Nat):Int),1,sIx n n hi-sIx n 0 lo) s):wpAny (model prog w) A (Builtin.Slice.sliceApplied (.ref sl)<|pure (n:Int)) Q E s:=by
 obtain⟨os,a,e,b⟩:=id c;refine L3<|L3<|U6 a b rfl<|L3<|U6 a b rfl<|L3<|U6 a b rfl<|M6<|L3<|slicePart_none<|L3<|VB pl<|L3<|VB d<|L3<|M6 ?_;show wpAny _ _ (match Builtin.Slice.sliceAdjust lo hi 1 n with | (lo,hi)=>pure (lo,(1:Int),Builtin.Slice.slicePlaces lo hi 1)) _ _ s;rw[uR lo hi n];show wpAny _ _ (pure (((sIx n 0 lo:Nat):Int),1,Builtin.Slice.slicePlaces ((sIx n 0 lo:Nat):Int) ((sIx n n hi:Nat):Int) 1)) _ _ s;rw[uL];exact M6 h
def jfi(xs:Array Value)(i k:Nat):((List.range k).filterMap λ(m:Nat)=>xs[((i:Int)+(m:Int)*1).toNat]?).toArray=((xs.toList.drop i).take k).toArray:=by
 have e:(λ(m:Nat)=>xs[(i+(m:Int)*1).toNat]?)=λm=>xs[i+m]?:=by
  funext m
  have:(i+(m:Int)*1).toNat=i+m:=by lia
  rw[this]
 rw[e];have:=pick_run xs i k;rw[List.filterMap_map] at this;have e2:((λx=>xs[x]?) ∘ λx=>i+x)=λm=>xs[i+m]?:=rfl;rw[e2] at this;rw[this]
def getItem_tuple_cut{items}{lo hi}{Q}(b:IsTup s.heap t items)(g:s.heap.IsSliceOf sl vl vu .none)(pl:IsPart vl lo)(i:IsPart vu hi)
  (j:¬ (sIx items.size 0 lo=0/\sIx items.size items.size hi=items.size))
  (h:Q (.ref ↥s) { s with heap:=s.heap.push {cls:=.type "tuple",data:=.seq ((items.toList.drop<|sIx items.size 0 lo).take (sIx items.size items.size hi-sIx items.size 0 lo)).toArray} })
  (hsz:items.size<=sizeLine):wpAny (model prog w) A (getItem (.ref t)<|.ref sl) Q E s:=by
 have a:sizeOk (.seq ((items.toList.drop<|sIx items.size 0 lo).take (sIx items.size items.size hi-sIx items.size 0 lo)).toArray):=by
  show((items.toList.drop<|sIx items.size 0 lo).take (sIx items.size items.size hi-sIx items.size 0 lo)).toArray.size<=sizeLine;rw[N3,X7,List.length_drop,Array.length_toList]
  lia
 obtain⟨os,c,d,k⟩:=id g;have e:s.TypeIs (.ref sl) "slice":=⟨os,c,d⟩;unfold getItem
 try with_reducible refine wpAny_holding ?_
 first | refine L3 (M6 ?_) | skip
 refine L3<|wpAny_sequenceKey b.typeIs (by decide) ?_;refine L3<|wpAny_callSpecial?_slot b.typeIs PyProof.Rows.slot_tuple_getitem<|wpAny_call_entry PyProof.Rows.slot_tuple_getitem b.typeIs entry_tuple_getitem ?_<|args_tuple_getitem _ _
 show wpAny _ _ (Builtin.Tuple.tupleItemsOf (.ref t) >>= _) _ _ s;refine L3<|tupleItemsOf_ b<|L3<|wpAny_typeOf e<|L3<|Yl g pl i ?_;have f:¬ ((((sIx items.size 0 lo:Nat):Int)==0&&(1:Int)==1&&(sIx items.size items.size hi-sIx items.size 0 lo)==items.size)=true):=by
  intro q;rw[M0,M0] at q;have l:=eq_of_beq q.1.1;have m:=eq_of_beq q.2;exact j ⟨by lia,by lia⟩
 show wpAny _ _ (if(((sIx items.size 0 lo:Nat):Int)==0&&1==1&&(sIx items.size items.size hi-sIx items.size 0 lo)==items.size)=true then _ else _) _ _ s;rw[if_neg f,jfi]
 first
  | exact L3 (wpAny_newObj_type (M6 ⟨_,rfl,M6 h⟩) a)
  | exact L3 (wpAny_newObj_type (L3 (M6 (M6 ⟨_,rfl,M6 h⟩))) a)
  | exact L3 (L3 (wpAny_newObj_type (M6 (M6 ⟨_,rfl,M6 h⟩)) a))
  | exact L3 (L3 (wpAny_newObj_type (M6 ⟨_,rfl,M6 h⟩) a))
end
end HT
namespace L2
open PySem PySem.Spec PyProof.Rows
abbrev TO:=St->Hp->(Option Int->Hp->Prop)->Prop
def PO(X:Cx)(e:Option Expr)(t:TO):Prop:=
 ∀ pins s (σ:St) H (Q:Option Int->Hp->Prop),Inv X pins σ H s->t σ H Q ->
  wpAny (model X.prog X.w) X.A (evalPart e X.env) (λu s'=>∃ o H',Inv X pins σ H' s'/\IsPart u o/\Q o H') X.xe s
def YV:TO:=λ_ H Q=>Q none H
def jbe(t:TE):TO:=λσ H Q=>t σ H λx H1=>∃ i,x=.int i/\Q (some i) H1
def VC:∀{us},Vals (ns.map V.int) us->IntsAre us ns:=by
 induction ns with
 | nil=>intro us r;rw[List.map_nil] at r;cases r;exact .nil
 | cons n ns a=>
  intro us r;cases r with
  | cons r1 r2=>
   obtain⟨t,e⟩:=r1;subst e;exact .cons n t<|a r2
section
variable {X:Cx}{e:Expr}{te:TE}{lo hi:Option Expr}{tl th:TO}{pos p2:Pos}
def jdU:PO X none YV:=by
 intro a s σ H Q I h;exact M6 ⟨none,H,I,.none,h⟩
def jb3(h:PE X e te):PO X (some e) (jbe te):=by
 intro a s σ H Q I b;refine thn (h a s σ H _ I b) λu s1 c=>?_;obtain⟨x,d,f,r1,g⟩:=c;obtain⟨i,rfl,q⟩:=g;obtain⟨t,rfl⟩:=r1;exact⟨some i,d,f,.int i t,q⟩
def SlR(X:Cx)(r:V->Option Int->Option Int->Hp->VK->Prop):Prop:=
 ∀ pins s (σ:St) H x v vl vu lo hi sl Q,Inv X pins σ H s->RelV x v->s.heap.IsSliceOf sl vl vu .none->IsPart vl lo->IsPart vu hi->r x lo hi H Q ->
  ∃ T id,typeLookup (.type T) "__getitem__" = pure (some<|.builtin id)/\s.TypeIs v T/\wpAny (model X.prog X.w) X.A (getItem v<|.ref sl) (EP X pins σ Q) X.xe s
def SlR.or(h:SlR X r)(h':SlR X r'):SlR X (λx lo hi H Q=>r x lo hi H Q\/r' x lo hi H Q):=by
 intro a s σ H x v b c lo hi sl Q I d e pl f q;rcases q with q | q
 ·exact h a s σ H x v b c lo hi sl Q I d e pl f q
 ·exact h' a s σ H x v b c lo hi sl Q I d e pl f q
def tSl(r:V->Option Int->Option Int->Hp->VK->Prop)(te:TE)(tl th:TO):TE:=λσ H Q=>te σ H λx H1=>tl σ H1 λl H2=>th σ H2 λu H3=>r x l u H3 Q
def ur{r}(j:SlR X r)(k:PE X e te)(m:PO X lo tl)(n:PO X hi th):PE X (.Subscript e (.Slice lo hi none p2) pos) (tSl r te tl th):=by
 intro a s σ H Q I h;refine Subscript_<|thn (k a s σ H _ I h) λv s1 d=>?_;obtain⟨x,o,p,r1,t⟩:=d;refine wpAny_Slice<|thn (m a s1 σ o _ p t) λf s2 ⟨l,w,y,pl,z⟩=>thn (n a s2 σ w _ y z) λg c d=>?_;obtain⟨u,i,A,B,C⟩:=d;refine M6 ?_;have D:Inv X a σ i { c with heap:=c.heap.push {cls:=.type "slice",data:=.fields #[f,g,.none]} }:=A.kept λb ob q=>L8 _ q;obtain⟨T,id,E,F,G⟩:=j a { c with heap:=c.heap.push {cls:=.type "slice",data:=.fields #[f,g,.none]} } σ i x v f g l u ↥c Q D r1 (Heap.IsSliceOf.new ..) pl B C;exact tail_any F E G (by with_unfolding_all rfl)
def jhd(xs:List V)(lo hi:Option Int):List V:=(xs.drop<|HT.sIx xs.length 0 lo).take (HT.sIx xs.length xs.length hi-HT.sIx xs.length 0 lo)
def YN(xs)(lo hi):(jhd xs lo hi).length<=xs.length:=by
 unfold jhd;rw[X7,List.length_drop]
 lia
def jo6(K:W4):V->Option Int->Option Int->Hp->VK->Prop:=λx lo hi H Q=>∃ a xs,x=.ref a/\SqT K H a xs /\
 ¬ (HT.sIx xs.length 0 lo=0/\HT.sIx xs.length xs.length hi=xs.length)/\∀ p,H p=none->Q (.ref p) (upd H p<|.tup<|jhd xs lo hi)
def jj3:SlR X (jo6 X.K):=by
 intro f s σ H x v o p lo hi sl Q I j k pl l h;obtain⟨a,d,rfl,m,n,q⟩:=h;cases j;obtain⟨e,r,g,i⟩:=I.tuple m;have c:e.toArray.size=d.length:=by rw[N3];exact r.length.symm
 refine⟨"tuple",_,PyProof.Rows.slot_tuple_getitem.lookup,g.typeIs,?_⟩;refine HT.getItem_tuple_cut g k pl l (by rw[c];exact n) ?_ (by rw[c];exact i);rw[c];refine⟨.ref ↥s,_,I.laid (λb ob q=>L8 _ q) (M8 _) ?_,rfl,q _<|I.hok.fresh<|M8 _⟩;exact⟨N7 (YN d lo hi) i,_,(r.drop<|HT.sIx d.length 0 lo).take (HT.sIx d.length d.length hi-HT.sIx d.length 0 lo),IsTupN.new _ _⟩
def jkN(K:W4):R2:=λx y H Q=>∃ a b xs ys,x=.ref a/\y=.ref b/\SqT K H a xs/\SqT K H b ys/\xs≠[]/\xs.length+ys.length<=sizeLine /\
 (ys=[]->Q (.ref a) H)/\(ys≠[]->∀ p,H p=none->Q (.ref p) (upd H p<|.tup<|xs++ys))
def Vals.nil_iff(r:Vals xs us):us=[]↔xs=[]:=by
 cases r with
 | nil=>simp
 | cons _ _=>simp
def jif:OpR X (binaryOp .Add) (jkN X.K):=by
 intro c s σ H x y v u Q I f g h;obtain⟨a,b,o,p,rfl,rfl,i,j,k,d,l,m⟩:=h;cases f;cases g;obtain⟨n,r1,p1,_⟩:=I.tuple i;obtain⟨e,r2,p2,_⟩:=I.tuple j;refine HT.cat_tup p1 p2 (λz=>k<|r1.nil_iff.mp z) (λz=>⟨.ref a,H,I,rfl,l<|r2.nil_iff.mp z⟩) (λz=>?_) (by rw[<- r1.length,<- r2.length];exact d);refine⟨.ref ↥s,_,I.laid (λb ob q=>L8 _ q) (M8 _) ?_,rfl,m (λw=>z<|r2.nil_iff.mpr w) _<|I.hok.fresh<|M8 _⟩;exact⟨by rw[N4];exact d,_,r1.append r2,IsTupN.new _ _⟩
end
noncomputable def ixN(n:Nat)(i:Int):Option Nat:=if 0<=i then(if i<n then some i.toNat else none) else if -(n:Int)<=i then some (i+n).toNat else none
def atI{α:Type}(xs:List α)(i:Int):Option α:=(ixN xs.length i).bind λj=>xs[j]?
def xv(h:ixN n i=some j):seqIndex? i n=some j/\j<n/\-(n:Int)<=i/\i<n:=by
 unfold ixN at h;by_cases b:0<=i
 ·rw[if_pos b] at h;by_cases a:i<n
  ·rw[if_pos a] at h;have e:=X4 h;exact⟨by rw[seqIndex_of b a,e],by lia,by lia,a⟩
  ·rw[if_neg a] at h;cases h
 ·rw[if_neg b] at h;by_cases a:-n<=i
  ·rw[if_pos a] at h;exact⟨by rw[seqIndex_neg ∅ a,X4 h],by lia,a,by lia⟩
  ·rw[if_neg a] at h;cases h
def Kn(h:atI xs i=some v):∃ j,An5 (seqIndex? i xs.length=some j) (xs[j]?=some v) (j<xs.length) (-(xs.length:Int)<=i) (i<xs.length):=by
 unfold atI at h;cases e:ixN xs.length i with
 | none=>rw[e] at h;cases h
 | some j=>
  rw[e] at h;obtain⟨a,b,c,d⟩:=xv e;exact⟨j,a,h,b,c,d⟩
def Kt(b:Expr):Prop:=∀ o i,subscripted b false o i=operate [o,i] (getItem o i)
def IxR(X:Cx)(r:R2):Prop:=
 ∀ value slice pins s (σ:St) H x y v u Q,Inv X pins σ H s->RelV x v->RelV y u->r x y H Q ->
  subscripted slice false v u=operate [v,u] (getItem v u)->wpAny (model X.prog X.w) X.A (subscriptTail value slice v u) (EP X pins σ Q) X.xe s
def MtR(X:Cx)(id:String)(r:V->List V->Hp->VK->Prop):Prop:=
 ∀ pins s (σ:St) H x xs v us Q,Inv X pins σ H s->RelV x v->Vals xs us->r x xs H Q ->
  wpAny (model X.prog X.w) X.A (call (.builtin id)<|v::us) (EP X pins σ Q) X.xe s
section
variable {X:Cx}{a b:Expr}{ta tb:TE}{pos:Pos}
def IxR.or(h:IxR X r)(h':IxR X r'):IxR X (λx y H Q=>r x y H Q\/r' x y H Q):=by
 intro a slice b s σ H x y v u Q I c d q e;rcases q with q | q
 ·exact h a slice b s σ H x y v u Q I c d q e
 ·exact h' a slice b s σ H x y v u Q I c d q e
def jkY(d:IxR X r)(e:PE X a ta)(f:PE X b tb)(g:Kt b):PE X (.Subscript a b pos) (tOp r ta tb):=by
 intro c s σ H Q I h;exact Subscript_<|jnD e f I h λv u s2 x y i j k l q=>d a b c s2 σ i x y v u Q j k l q<|g _ _
def jj6(K:W4):R2:=λx y H Q=>∃ p xs i v,x=.ref p/\y=.int i/\SqL K H p xs/\atI xs i=some v/\Q v H
def joV(K:W4):R2:=λx y H Q=>∃ p xs i v,x=.ref p/\y=.int i/\SqT K H p xs/\atI xs i=some v/\Q v H
def jo9:R2:=λx y H Q=>∃ z i c,x=.str z/\y=.int i/\z.length<=sizeLine/\atI z.cps.toList i=some c/\Q (.str ⟨#[c]⟩) H
def ix_list:IxR X (jj6 X.K):=by
 intro d slice a s σ H x y v u Q I n o h k;obtain⟨p,G,i,z,rfl,rfl,A,B,q⟩:=h;cases n;obtain⟨t,rfl⟩:=o;obtain⟨e,r,pl,J⟩:=I.list A;obtain⟨j,c,C,L,D,E⟩:=Kn B;obtain⟨w,l,f⟩:=r.get C;have F:=r.length;have M:=Qh;have b:EP X a σ Q w s:=⟨z,H,I,f,q⟩;by_cases m:0<=i
 ·have g:i.toNat=j:=by
   rw[seqIndex_of m E] at c;exact X4 c
  exact item_listR pl.isList m ∅ (by rw[g];simpa using l) b k
 ·have g:(i+e.toArray.size).toNat=j:=by
   rw[seqIndex_neg ∅ D] at c;rw[N3,<- F];exact X4 c
  exact subscriptTail_builtinR pl.isList.typeIs slot_list_getitem.lookup
   (wpAny_getItem_list_neg pl.isList ∅ (by rw[N3]<;>lia) ∅ (by rw[g];simpa using l) ⟨rfl,b⟩) k
def ix_tup:IxR X (joV X.K):=by
 intro b slice a s σ H x y v u Q I e f h g;obtain⟨p,B,i,z,rfl,rfl,k,l,q⟩:=h;cases e;obtain⟨t,rfl⟩:=f;obtain⟨m,r,pl,C⟩:=I.tuple k;obtain⟨j,n,o,D,E,F⟩:=Kn l;obtain⟨w,A,c⟩:=r.get o;have G:=Qh;have d:EP X a σ Q w s:=⟨z,H,I,c,q⟩;exact subscriptTail_builtinR pl.typeIs slot_tuple_getitem.lookup
  (getItem_tuple pl ∅ ∅ (by rw[N3,<- r.length];exact n) ⇑A ⟨rfl,d⟩) g
def jkb:IxR X jo9:=by
 intro a slice b s σ H x y v u Q I e f h g;obtain⟨z,i,c,rfl,rfl,r,k,q⟩:=h;obtain⟨t,rfl⟩:=e;obtain⟨w,rfl⟩:=f;obtain⟨j,d,l,A,m,n⟩:=Kn k;have o:z.cps.toList.length=z.length:=by simp[Str.length]
 rw[o] at d m n;have B:=Qh;exact tail_any (typeIs_str s z t) slot_str_getitem.lookup (getItem_str (by
  have p:decide (i < -(2 ^ 63:Int))=false:=X2 ∅;have e2:decide (i ≥ 2 ^ 63)=false:=X2 ∅;rw[p,e2,Bool.or_false]) (by rw[d];simpa using l) ⟨.str ⟨#[c]⟩,H,I.tok _,⟨_,rfl⟩,q⟩) g
def rIx(K:W4):R2:=λx y H Q=>jj6 K x y H Q\/joV K x y H Q\/jo9 x y H Q
def jgc:IxR X (rIx X.K):=ix_list.or<|ix_tup.or jkb
def jam(its:List Value)(n j)(u):Obj.mapSeq (·.setIfInBounds j u) {cls:=.type "list",data:=.seq its.toArray n}={cls:=.type "list",data:=.seq (its.set j u).toArray n}:=by
 simp[Obj.mapSeq]
def Inv.lst(I:Inv X pins σ H s)(h:H p=some (.lst xs)):
  Ex2 λits n=>An3 (Vals xs its) (s.heap.get? p=some {cls:=.type "list",data:=.seq its.toArray n}) (xs.length<=sizeLine):=by
 obtain⟨z,its,n,r,e⟩:=I.hok p _ h;exact⟨its,n,r,e,z⟩
def Inv.lstUpd{pins}{s}{xs ys}{its a:List Value}{n c}{f}(I:Inv X pins σ H s)(h:H p=some (.lst xs))
  (g:s.heap.get? p=some {cls:=.type "list",data:=.seq its.toArray n}) (d:f {cls:=.type "list",data:=.seq its.toArray n}={cls:=.type "list",data:=.seq a.toArray c}) (r:Vals ys a) (i:ys.length<=sizeLine) (t:Nat):
  Inv X pins σ (upd H p<|.lst ys) {s with heap:=s.heap.update p f,toks:=t}:=by
 have e:(s.heap.update p f).get? p=some {cls:=.type "list",data:=.seq a.toArray c}:=by
  rw[Heap.get?_update_self f g<|by rw[d]<;>rfl,d]
 refine I.write (by rw[h];trivial) (.inl rfl) (λb u j q=>(Heap.get?_update_other _ _<|Ne.symm j).trans q) ⟨_,e⟩ ?_;exact⟨i,a,c,r,e⟩
def jbM:V->V->V->Hp->(Hp->Prop)->Prop:=λo i v H Q=>∃ p xs k j,o=.ref p/\i=.int k/\H p=some (.lst xs)/\ixN xs.length k=some j/\Q (upd H p<|.lst<|xs.set j v)
def wG:jnS X jbM:=by
 intro a s σ H o i v E F u Q I y z A h;obtain⟨p,B,k,j,rfl,rfl,g,C,q⟩:=h;cases y;obtain⟨t,rfl⟩:=z;obtain⟨b,n,r,d,D⟩:=I.lst g;obtain⟨c,G,l,m⟩:=xv C;have e:=r.length;have J:=Qh;have w:Inv X a σ (upd H p<|.lst<|B.set j v) {s with heap:=s.heap.update p (Obj.mapSeq (·.setIfInBounds j u))}:=
  I.lstUpd g d (jam b n j u) (r.set A j) (by rw[List.length_set];exact D) s.toks
 by_cases x:0<=k
 ·have f:k.toNat=j:=by
   rw[seqIndex_of x m] at c;exact X4 c
  exact PySem.W.ki_setAt d x ∅ (by rw[N3,<- e];exact m) (by rw[f];exact⟨_,w,q⟩)
 ·have f:(k+b.toArray.size).toNat=j:=by
   rw[seqIndex_neg ∅ l] at c;rw[N3,<- e];exact X4 c
  exact PySem.W.ki_setBack d ∅ (by rw[N3,<- e];exact l) ∅ (by rw[f];exact⟨_,w,q⟩)
def zc(lo hi)(n):(sliceBounds lo hi none n).1=((HT.sIx n 0 lo:Nat):Int)/\(sliceBounds lo hi none n).2.1=((HT.sIx n n hi:Nat):Int)/\(sliceBounds lo hi none n).2.2=1:=by
 refine⟨?_,?_,rfl⟩
 ·cases lo with
  | none=>simp[sliceBounds,HT.sIx]
  | some i=>
   simp only[sliceBounds,HT.sIx,Option.getD_none,show 1>0 by decide,if_true];by_cases h:i<0
   ·simp only[h,if_true]<;>lia
   ·simp only[h,if_false]<;>lia
 ·cases hi with
  | none=>simp[sliceBounds,HT.sIx]
  | some i=>
   simp only[sliceBounds,HT.sIx,Option.getD_none,show 1>0 by decide,if_true];by_cases h:i<0
   ·simp only[h,if_true]<;>lia
   ·simp only[h,if_false]<;>lia
def Kp(its:List Value)(lo hi):slicePick its.toArray lo hi none=((its.drop<|HT.sIx its.length 0 lo).take (HT.sIx its.length its.length hi-HT.sIx its.length 0 lo)).toArray:=by
 obtain⟨a,b,c⟩:=zc lo hi its.toArray.size;unfold slicePick;rw[a,b,c];simp only[sliceRange_one,pick_run,N3]<;>rfl
def jpa(K:W4):V->Option Int->Option Int->Hp->VK->Prop:=λx lo hi H Q=>∃ a xs,x=.ref a/\SqL K H a xs/\∀ p,H p=none->Q (.ref p) (upd H p<|.lst<|jhd xs lo hi)
def jhf:SlR X (jpa X.K):=by
 intro e s σ H x v n o lo hi sl Q I g i pl j h;obtain⟨a,c,rfl,k,q⟩:=h;cases g;obtain⟨l,r,f,m⟩:=I.list k;have d:=r.length;refine⟨"list",_,slot_list_getitem.lookup,f.isList.typeIs,?_⟩;refine wpAny_getItem_list_slice f.isList i pl j .none (by simp) ?_ (by rw[N3]<;>lia);rw[Kp,<- d];refine⟨.ref ↥s,_,I.laid (λb ob q=>L8 _ q) (M8 _) ?_,rfl,q _<|I.hok.fresh<|M8 _⟩;exact⟨N7 (YN c lo hi) m,_,0,(r.drop<|HT.sIx c.length 0 lo).take (HT.sIx c.length c.length hi-HT.sIx c.length 0 lo),X8 _ rfl⟩
noncomputable def Y6:V->Bool
 | .non=>true
 | .bl _=>true
 | .int _=>true
 | .str _=>true
 | _=>false
noncomputable def eqV:V->V->Bool
 | .non,.non=>true
 | .bl a,.bl b=>a==b
 | .bl a,.int b=>(if a then 1 else 0)==b
 | .int a,.bl b=>a==(if b then 1 else 0)
 | .int a,.int b=>a==b
 | .str a,.str b=>a==b
 | _,_=>false
def jlK(e:RelV y u)(c:RelV x v)(g:Y6 y=true)(f:Y6 x=true):SeqAt.EqAt A s u v (eqV y x):=by
 cases y with
 | non=>
  cases e;cases x with
  | non=>cases c;exact SeqAt.EqAt.same _
  | bl b=>cases c;exact SeqAt.EqAt.none_bool b
  | int b=>obtain⟨t,rfl⟩:=c;exact SeqAt.EqAt.none_int b t
  | str b=>obtain⟨t,rfl⟩:=c;exact SeqAt.EqAt.none_str b t
  | _=>exact absurd (f) M3
 | bl a=>
  cases e;cases x with
  | non=>cases c;exact SeqAt.EqAt.bool_none a
  | bl b=>cases c;exact SeqAt.EqAt.bool_bool a b
  | int b=>obtain⟨t,rfl⟩:=c;exact SeqAt.EqAt.bool_int a b t
  | str b=>obtain⟨t,rfl⟩:=c;exact SeqAt.EqAt.bool_str a b t
  | _=>exact absurd (f) M3
 | int a=>
  obtain⟨d,rfl⟩:=e;cases x with
  | non=>cases c;exact SeqAt.EqAt.int_none a d
  | bl b=>cases c;exact SeqAt.EqAt.int_bool a d b
  | int b=>obtain⟨t,rfl⟩:=c;exact SeqAt.EqAt.int_int a d b t
  | str b=>obtain⟨t,rfl⟩:=c;exact SeqAt.EqAt.int_str a d b t
  | _=>exact absurd (f) M3
 | str a=>
  obtain⟨d,rfl⟩:=e;cases x with
  | non=>cases c;exact SeqAt.EqAt.str_none a d
  | bl b=>cases c;exact SeqAt.EqAt.str_bool a d b
  | int b=>obtain⟨t,rfl⟩:=c;exact SeqAt.EqAt.str_int a d b t
  | str b=>obtain⟨t,rfl⟩:=c;exact SeqAt.EqAt.str_str a d b t
  | _=>exact absurd (f) M3
 | _=>exact absurd (g) M3
def eqU(x:V)(u:Value):Bool:=match u with
 | .none=>eqV .non x
 | .bool b=>eqV (.bl b) x
 | .int i _=>eqV (.int i) x
 | .str z _=>eqV (.str z) x
 | _=>false
def jgB(r:RelV y u)(f:Y6 y=true):eqU x u=eqV y x:=by
 cases y with
 | non=>cases r;rfl
 | bl b=>cases r;rfl
 | int i=>obtain⟨t,rfl⟩:=r;rfl
 | str z=>obtain⟨t,rfl⟩:=r;rfl
 | _=>exact absurd (f) M3
theorem Y4:∀{xs}{us},Vals xs us->xs.all Y6=true->us.any (eqU x)=xs.any λy=>eqV y x
 | _,_,.nil,_=>rfl
 | y::xs,u::us,.cons r t,f=>by
  rw[List.all_cons,M0] at f;rw[List.any_cons,List.any_cons,jgB r f.1,Y4 t f.2]
theorem JE(b:RelV x v)(c:Y6 x=true):∀{xs}{us},Vals xs us->xs.all Y6=true->∀ u∈us,SeqAt.EqAt A s u v<|eqU x u
 | _,_,.nil,_=>λu a=>by cases a
 | y::xs,u::us,.cons r t,f=>λd a=>by
  rw[List.all_cons,M0] at f;rcases M4.mp a with rfl | a
  ·rw[jgB r f.1];exact jlK r b f.1 c
  ·exact JE b c t f.2 d a
def inV(x:V)(xs:List V):Bool:=xs.any λy=>eqV y x
def rIn(K:W4)(neg:Bool):R2:=λx y H Q=>∃ p xs,y=.ref p/\(SqL K H p xs\/SqT K H p xs)/\Y6 x=true/\xs.all Y6=true/\Q (.bl<|if neg then !inV x xs else inV x xs) H
def jcz:OpR X (compareOp .In) (rIn X.K false):=by
 intro d s σ H x y v u Q I e g h;obtain⟨p,j,rfl,b,f,fs,q⟩:=h;cases g;rcases b with b | b
 ·obtain⟨a,r,pl,i⟩:=I.list b;refine SeqAt.in_listAt (eqU x) pl.isList (λw c=>JE e f r fs w ⇑c) ⟨.bl _,H,I,rfl,?_⟩;rw[show a.toArray.any (eqU x)=a.any (eqU x) by simp,Y4 r fs];exact q
 ·obtain⟨a,r,pl,i⟩:=I.tuple b;refine SeqAt.in_tupleAt (eqU x) pl (λw c=>JE e f r fs w ⇑c) ⟨.bl _,H,I,rfl,?_⟩;rw[show a.toArray.any (eqU x)=a.any (eqU x) by simp,Y4 r fs];exact q
def Q4:OpR X (compareOp .NotIn) (rIn X.K true):=by
 intro d s σ H x y v u Q I e g h;obtain⟨p,j,rfl,b,f,fs,q⟩:=h;cases g;rcases b with b | b
 ·obtain⟨a,r,pl,i⟩:=I.list b;refine SeqAt.notIn_listAt (eqU x) pl.isList (λw c=>JE e f r fs w ⇑c) ⟨.bl _,H,I,rfl,?_⟩;rw[show a.toArray.any (eqU x)=a.any (eqU x) by simp,Y4 r fs];exact q
 ·obtain⟨a,r,pl,i⟩:=I.tuple b;refine SeqAt.notIn_tupleAt (eqU x) pl (λw c=>JE e f r fs w ⇑c) ⟨.bl _,H,I,rfl,?_⟩;rw[show a.toArray.any (eqU x)=a.any (eqU x) by simp,Y4 r fs];exact q
def Yi:vJ X (.type "list") (λxs H Q=>∃ p ys,xs=[.ref p]/\(SqL X.K H p ys\/SqT X.K H p ys)/\∀ l,H l=none->Q (.ref l) (upd H l<|.lst ys)):=by
 intro d s σ H xs z Q I r h;obtain⟨p,ys,rfl,f,q⟩:=h;obtain⟨u,rfl,y⟩:=jhD r;cases y;have g:∀ a,Vals ys a->ys.length<=sizeLine->∀ i m,(∀ b x,s.heap.get? b=some x->i.get? b=some x) ->
   i.get? ↥s=some {cls:=.type "list",dict:=none,data:=.seq a.toArray m,slots:=#[]}->EP X d σ Q (.ref ↥s) {s with heap:=i}:=λa c j i m kp e=>
  ⟨.ref ↥s,_,I.laid kp (M8 _)<|show ObjOk X.prog X.w _ i _ (.lst ys) from⟨j,a,m,c,e⟩,rfl,q _<|I.hok.fresh<|M8 _⟩
 rcases f with f | f
 ·obtain⟨a,c,pl,j⟩:=I.list f;have k:=c.length;obtain⟨o,t,v,n,hd⟩:=pl.isList;exact call_list_seq p (.inl rfl) t v hd (g a c j) (by simp only[N3]<;>lia)
 ·obtain⟨a,c,pl,j⟩:=I.tuple f;have k:=c.length;obtain⟨o,t,v,n,hd⟩:=pl;exact call_list_seq p (.inr rfl) t v hd (g a c j) (by simp only[N3]<;>lia)
def JH:vJ X (.type "tuple") (λxs H Q=>∃ p ys,xs=[.ref p]/\((SqL X.K H p ys/\∀ l,H l=none->Q (.ref l) (upd H l<|.tup ys))\/(SqT X.K H p ys/\Q (.ref p) H))):=by
 intro a s σ H xs t Q I r h;obtain⟨p,ys,rfl,h⟩:=h;obtain⟨u,rfl,m⟩:=jhD r;cases m;rcases h with⟨f,q⟩ | ⟨f,q⟩
 ·obtain⟨c,g,pl,i⟩:=I.list f;have j:=g.length;refine call_tuple_list pl.isList (λd kp=>?_) (by simp only[N3]<;>lia);have k:Inv X a σ H {s with heap:=d}:=I.kept kp;have n:Inv X a σ (upd H d.objs.size<|.tup ys) { s with heap:=d.push {cls:=.type "tuple",data:=.seq c.toArray} }:=
   k.laid (λb o e=>L8 _ e) (M8 _) (⟨i,c,g,IsTupN.new _ _⟩)
  exact⟨.ref d.objs.size,_,n,rfl,q _<|k.hok.fresh<|M8 _⟩
 ·obtain⟨c,g,pl,i⟩:=I.tuple f;exact call_tuple_same pl ⟨.ref p,H,I,rfl,q⟩
def tyV(K:W4)(T:String)(x:V)(H:Hp):Prop:=match x with
 | .str _=>T = "str"
 | .int _=>T = "int"
 | .ref p=>(T = "list"/\∃ xs,SqL K H p xs)\/(T = "tuple"/\∃ o,K.lookup p=some o/\o.cls=.type "tuple"/\o.dict=none) \/
   (T = "dict"/\((∃ kvs,H p=some (.dK kvs)) \/ ∃ kvs,H p=some (.dT kvs)))\/(T = "set"/\∃ S n,H p=some (.set S n))
 | _=>False
def jf9(I:Inv X pins σ H s)(r:RelV x v)(ty:tyV X.K T x H):
  s.TypeIs v T/\∀ a,v=.ref a->∃ ob,s.heap.get? a=some ob/\ob.dict=none:=by
 cases x with
 | str z=>
  obtain⟨t,rfl⟩:=r;cases(ty);exact⟨typeIs_str s z t,λ_ e=>nomatch e⟩
 | int i=>
  obtain⟨t,rfl⟩:=r;cases(ty);exact⟨typeIs_int s i t,λ_ e=>nomatch e⟩
 | ref p=>
  cases r;rcases ty with⟨rfl,j,f⟩ | ⟨rfl,o,b,g,hd⟩ | ⟨rfl,b⟩ | ⟨rfl,S,n,b⟩
  ·obtain⟨h,_,pl,_⟩:=I.list f;refine⟨pl.isList.typeIs,λa e=>?_⟩;cases e;obtain⟨o,n,e,c,hd,_⟩:=pl;exact⟨o,e,hd⟩
  ·refine⟨⟨o,I.kIn p o b,g⟩,λa e=>?_⟩;cases e;exact⟨o,I.kIn _ o b,hd⟩
  ·have z:∃ o,s.heap.get? p=some o/\o.ExactDict:=by
    rcases b with⟨d,b⟩ | ⟨d,b⟩
    ·obtain⟨_,_,_,_,o,_,_,e,ex,_⟩:=I.hok p _ b;exact⟨o,e,ex⟩
    ·obtain⟨_,_,_,_,o,_,_,e,ex,_⟩:=I.hok p _ b;exact⟨o,e,ex⟩
   obtain⟨o,e,ex⟩:=z;refine⟨⟨o,e,ex.1⟩,λa e2=>?_⟩;cases e2;exact⟨o,e,ex.2.1⟩
  ·obtain⟨o,_,_,_,e,ex,_⟩:=I.hok p _ b;refine⟨⟨o,e,ex.1⟩,λa e2=>?_⟩;cases e2;exact⟨o,e,ex.2.1⟩
 | _=>exact False.elim ty
def jjN(K:W4)(T:String)(r:V->List V->Hp->VK->Prop)(to:TE):TE:=λσ H Q=>to σ H λx H1=>tyV K T x H1/\r x [] H1 Q
def tBM(K:W4)(T:String)(r:V->List V->Hp->VK->Prop)(to:TE)(t:TA):TE:=λσ H Q=>to σ H λx H1=>tyV K T x H1/\t σ H1 λxs H2=>r x xs H2 Q
variable {o e:Expr}{es:List Expr}{to:TE}{t:TA}{name:Str}{apos cpos:Pos}{T id:String}{r:V->List V->Hp->VK->Prop}
def jgd(pa:PlainAttrs T)(slot:Slot T name id)(d:typeOf (.builtin id)=pure (.type "method_descriptor"))(f:MtR X id r)(g:PE X o to)
  (b:attributeBase o name X.env (eval o X.env)=eval o X.env:=by rfl) (c:(apos.endLine==cpos.line)=true:=by rfl):PE X (.Call (.Attribute o name apos) [] [] cpos) (jjN X.K T r to):=by
 intro a s σ H Q I h;refine wpAny_Call_method0_late b c<|thn (g a s σ H _ I h) λv s1 i=>?_;obtain⟨x,j,e,r1,ty,k⟩:=i;obtain⟨l,m⟩:=jf9 e r1 ty;exact⟨T,id,pa,slot,d,l,m,Calls.callWith_builtin rfl<|PySem.evalArgs_none<|f a s1 σ j x [] v [] Q e r1 .nil k⟩
def jbS(pa:PlainAttrs T)(slot:Slot T name id)(g:typeOf (.builtin id)=pure (.type "method_descriptor"))(k:MtR X id r)(l:PE X o to)(m:PA X (e::es) t)
  (c:attributeBase o name X.env (eval o X.env)=eval o X.env:=by rfl)
  (f:((backTo cpos<|starEach (e::es) X.env).all (λx=>!x.1)&&(backToKw cpos<|keywordEach [] X.env).all (λx=>x.1.isSome)
   && decide ((e::es).length+([]:List Keyword).length+(if([]:List Keyword).isEmpty then 0 else 1)<30))=true:=by rfl)
  (d:(apos.endLine==cpos.line)=true:=by rfl) (n:SEq X e es:=by rfl) (b:BkE X cpos es:=by rfl):
  PE X (.Call (.Attribute o name apos) (e::es) [] cpos) (tBM X.K T r to t):=by
 intro a s σ H Q I h;refine wpAny_Call_method_late c f d rfl<|thn (l a s σ H _ I h) λv s1 p=>?_;obtain⟨x,q,i,r1,ty,u⟩:=p;obtain⟨w,y⟩:=jf9 i r1 ty;refine⟨T,id,pa,slot,g,w,y,?_⟩;have j:=m cpos a s1 σ q _ i u;rw[n] at j ⊢;refine Calls.callWith_builtin (by show(false||(backTo cpos<|starEach es X.env).any (·.1))=false;rw[b]<;>rfl)<|Calls.evalArgs_plain ?_;exact thn j λz s2 ⟨vs,A,B,r2,C⟩=>k a s2 σ A x vs v z Q B r1 r2 C
end
def MtM(X:Cx)(id:String)(r:V->List V->Hp->VK->Prop):Prop:=
 ∀ pins s (σ:St) H x xs v us Q,Inv X pins σ H s->RelV x v->Vals xs us->r x xs H Q ->
  wpAny (model X.prog X.w) X.A (call (.builtin id)<|v::us) (EP X pins σ Q) X.xe s
def Vals.one(h:Vals [x] us):∃ u,us=[u]/\RelV x u:=by
 cases h with | cons r t=>cases t;exact⟨_,rfl,r⟩
def Vals.two(h:Vals [x,y] us):Ex2 λu v=>An3 (us=[u,v]) (RelV x u) (RelV y v):=by
 cases h with | cons r t=>cases t with | cons q t=>cases t;exact⟨_,_,rfl,r,q⟩
def Vals.zero:∀{us},Vals [] us->us=[]
 | _,.nil=>rfl
def Vals.reverse(h:Vals xs us):Vals xs.reverse us.reverse:=by
 induction h with
 | nil=>exact .nil
 | cons r t a=>rw[List.reverse_cons,List.reverse_cons];exact Vals.append a<|.cons r .nil
section
variable {X:Cx}{pins:List (Addr×Obj)}{σ:St}{H:Hp}{s:Shared}{l b:Addr}{xs ys zs:List V}
def Inv.lset{its a:List Value}{n}{f}{t'}(I:Inv X pins σ H s)(b:H l=some (.lst xs))
  (e:s.heap.get? l=some {cls:=.type "list",data:=.seq its.toArray n}) (c:f its.toArray=a.toArray) (d:Vals ys a) (g:ys.length<=sizeLine):
  Inv X pins σ (upd H l<|.lst ys) {s with heap:=s.heap.update l<|Obj.mapSeq f,toks:=t'}:=by
 have q:=PySem.IsL.update e f;rw[c] at q;refine I.write (by rw[b];exact trivial) (.inl rfl) (λb' u h i=>(Heap.get?_update_other s.heap (Obj.mapSeq f)<|Ne.symm h).trans i) ⟨_,q⟩ ?_;exact⟨g,a,_,d,q⟩
def Inv.lnew(I:Inv X pins σ H s)(a:Vals ys its)(b:ys.length<=sizeLine):
  Inv X pins σ (upd H ↥s (.lst ys)) { s with heap:=s.heap.push {cls:=.type "list",data:=.seq its.toArray},toks:=t' }:=
 I.laid (λ_ _ q=>L8 _ q) (M8 _) ⟨b,its,0,a,X8 _ rfl⟩
def Inv.fresh(I:Inv X pins σ H s):H ↥s=none:=I.hok.fresh<|M8 _
def Inv.lstM(I:Inv X pins σ H s)(a:H l=some (.lst xs)):xs.length<=sizeLine/\∃ its n,Vals xs its/\xs.length=its.length/\s.heap.get? l=some {cls:=.type "list",data:=.seq its.toArray n}:=by
 obtain⟨z,its,n,r,e⟩:=I.hok l _ a;exact⟨z,its,n,r,r.length,e⟩
def uv(h:n<=sizeLine):Builtin.List.listTooLong n=false:=by
 exact X2 ∅
end
section
variable {X:Cx}
def v5:V->List V->Hp->VK->Prop:=λx vs H Q=>∃ l xs y,x=.ref l/\vs=[y]/\H l=some (.lst xs)/\xs.length<sizeLine/\Q .non (upd H l<|.lst<|xs++[y])
def JI:MtM X "list.append" v5:=by
 intro b s σ H x vs v i Q I d f h;obtain⟨l,j,y,rfl,rfl,c,k,q⟩:=h;cases d;obtain⟨u,rfl,g⟩:=f.one;obtain⟨z,a,n,r,m,e⟩:=I.lstM c;refine call_meets F.slot_list_append ⟨_,e,rfl⟩ F.entry_list_append (F.args_list_append_2 _ _) (PySem.list_append l a.toArray n u<|by rw[N3];lia) ⟨e,?_⟩;refine⟨.non,_,I.lset c e (by simp) (r.append<|.cons g .nil) ?_,rfl,q⟩;rw[N4,List.length_singleton]
 lia
def KG:V->List V->Hp->VK->Prop:=λx vs H Q=>∃ l xs,x=.ref l/\vs=[]/\H l=some (.lst xs)/\Q .non (upd H l<|.lst xs.reverse)
def jax:MtM X "list.reverse" KG:=by
 intro c s σ H x vs v i Q I f g h;obtain⟨l,j,rfl,rfl,d,q⟩:=h;cases f;have a:=g.zero;subst a;obtain⟨z,b,n,r,k,e⟩:=I.lstM d;refine call_meets F.slot_list_reverse ⟨_,e,rfl⟩ F.entry_list_reverse (F.args_list_reverse_1 _) (AutoSeq1.list_reverse_list_0 l b.toArray n<|by rw[N3];lia) ⟨e,?_⟩;refine⟨.non,_,I.lset d e (by simp) r.reverse ?_,rfl,q⟩;rw[List.length_reverse]
 lia
def jcX:V->List V->Hp->VK->Prop:=λx vs H Q=>∃ l xs,x=.ref l/\vs=[]/\H l=some (.lst xs)/\Q .non (upd H l<|.lst [])
def jeL:MtM X "list.clear" jcX:=by
 intro c s σ H x vs v i Q I f g h;obtain⟨l,j,rfl,rfl,d,q⟩:=h;cases f;have a:=g.zero;subst a;obtain⟨z,b,n,r,k,e⟩:=I.lstM d;refine call_meets F.slot_list_clear ⟨_,e,rfl⟩ F.entry_list_clear (F.args_list_clear_1 _) (AutoSeq1.list_clear_list_0 l b.toArray n<|by rw[N3];lia) ⟨e,?_⟩;exact⟨.non,_,I.lset d e rfl .nil<|U5 _,rfl,q⟩
end
end L2
namespace Att
open PySem PySem.W PySem.Calls PyProof.Rows
def Vh:∀ ns vs,WellAll P h vs (ns.map WData.int)->IntsAre vs ns:=by
 intro ns
 induction ns with
 | nil=>
  intro vs w;cases w;exact .nil
 | cons n ns c=>
  intro vs w;cases w with
  | cons a b=>
   cases a;exact .cons _ _<|c _ b
def script_of{l:OpenLaw}{n}(m:l.most=some n)  {h}{b}{c}
  (e:l.row.toRowW.claim.pre b=true) (j:WellAll P h c b):
  ∃ a vs ns,c=[Value.ref a]/\b=[WData.list<|ns.map WData.int]/\h.get? a=some {cls:=.type "list",data:=.seq vs.toArray}/\IntsAre vs ns/\ns.length<=n:=by
 obtain⟨d,r,rfl,o,p⟩:=hasAllW_cons<|(pre_splitW e).1;obtain rfl:=hasAllW_nil p;obtain⟨u,rfl,s⟩:=hasW_list o;obtain⟨ns,rfl⟩:=items_int s;have f:ns.length<=n:=by
  have i:(WTm.not<|.lt (.lit<|.int n)<|.len<|.arg 0).holds [] {args:=[.list<|ns.map .int]}=true:=by
   have i:=(holds_andW<|(pre_splitW e).2).1;rw[m] at i;exact i
  have k:=condW_of i<|w_not<|w_lt w_lit<|w_len_list<|w_arg rfl;refine Nat.le_of_not_lt λq=>?_
  first
   | (rw[X1 q'] at k;exact absurd k (by decide))
   | (simp at k;lia)
 cases j with
 | cons w1 w2=>
  cases w2;cases w1 with
  | list t g=>exact⟨_,_,ns,rfl,rfl,t,Vh ns _ g,f⟩
def post_true(l:OpenLaw)(a):l.row.toRowW.claim.post a (.bool true) a=true:=
 postW_of
  (by first | rfl | decide | simp[WShape.has,WShape.arms,WShape.armsAll])
  (w_eq_bool (w_res rfl) w_lit) rfl
end Att
namespace L2
open PySem PySem.Spec PyProof.Rows
theorem Qk:∀{vs}{ns},IntsAre vs ns->Vals (ns.map V.int) vs
 | _,_,.nil=>.nil
 | _,_,.cons n t h=>.cons ⟨t,rfl⟩<|Qk h
def jns(H:Hp):Prop:=∀ b,H b=none \/ ∃ o xs,H b=some (.frz o<|.lst xs)
def jfP{P}{w}{K}{mg E}{CX}{k}{fa a}{fd}{x}{sp}{c}{vs}{ns}
  (N:K.In c.heap) (n:c.heap.Ns mainGlobals mg) (g:c.heap.Ns builtinsNs E) (G:∀ x:Str,x≠"__name__"->E x=bootBuiltins x) (p:c.heap.NoLimit) (U:c.gens = #[])
  (B:c.heap.get? a=some {cls:=.type "list",data:=.seq vs.toArray}) (hi:IntsAre vs ns) (O:ns.length<=sizeLine) (W:Room k callerA)
  (F:∀ base:Heap,K.In base->base.Ns mainGlobals mg->FnOk P w K mg base CX k fa fd [x] sp) (l:∀ s u,BindsTo s fd ⟨[u],[]⟩ [(x,u)])
  (I:∀ H:Hp,jns H->SqL K H a (ns.map V.int)->sp [.ref a] H (λv _=>v=.bl true) λ_ _ _=>False)
  (J:∀ H e s',CX [] H c (λ_ _ _=>False) e s'->False):
  codeAny (model P w) callerA (.call (.ref fa) ⟨[.ref a],[]⟩) (λr s'=>r=.ok (.ret<|.bool true)/\OldK c.heap s'.heap/\s'.os=c.os/\AllBare s'.gens) c:=by
 have Q:=Qk hi;have j:∀ H:Hp,jns H->SqL K H a (ns.map V.int)->HOk P w H c.heap->(∀ b,H b≠none->b=a)->(H a≠none->K.lookup a=none) ->
   codeAny (model P w) callerA (.call (.ref fa) ⟨[.ref a],[]⟩) (λr s'=>r=.ok (.ret<|.bool true)/\OldK c.heap s'.heap/\s'.os=c.os/\AllBare s'.gens) c:=by
  intro H R X hok S Y;have f:∀{b}{o},c.heap.get? b=some o->H b=none->(jgq c.heap H).get? b=some o:=je3;have L:∀{b}{o}{C}{D},c.heap.get? b=some o->o.data=.dict C D->H b=none:=λ{b o C D} e d=>by
   cases q:H b with
   | none=>rfl
   | some u=>
    have M:=S b (by rw[q];simp);subst M;rw[B] at e;cases e;cases d
  have i:∀{b}{m},c.heap.Ns b m->(jgq c.heap H).Ns b m:=λ{b m} ⟨o,C,D,e,d,r⟩=>⟨o,C,D,f e<|L e d,d,r⟩;have t:=λb o e=>f (N b o e) (by
   cases q:H b with
   | none=>rfl
   | some u=>
    have M:=S b (by rw[q];simp);subst M;rw[Y<|by rw[q];simp] at e;cases e)
  have Z:Mod K mg (jgq c.heap H):=⟨t,i n,⟨E,i g,G⟩,let ⟨mc,h1,h2⟩:=p;⟨mc,i h1,h2⟩⟩;have e0:Env0 P w K mg (jgq c.heap H) callerA [] c H:=⟨rfl,Z,λb o e=>jiA e,Nat.le_of_eq<|jdP _ _,trivial,λb g=>absurd (show b∈([]:W5) from g)<|by simp,hok,.of_eq U⟩;refine codeAny_mono ((F _ t<|i n).run callerA [] c H ⟨[.ref a],[]⟩ [.ref a] [.ref a] _ _ W e0 (l c<|.ref a) (.cons rfl .nil) (I H R X)) λr s' h=>?_;cases r with
  | error e=>exact(J H e s' h).elim
  | ok fl=>
   cases fl with
   | next=>exact False.elim h
   | brk=>exact False.elim h
   | cont=>exact False.elim h
   | ret u=>
    obtain⟨v,H',os,bare,un,y,r',q⟩:=h;subst q;obtain rfl:u=Value.bool true:=r';refine⟨rfl,OldK.of_keep λb o e=>?_,os,bare⟩;cases q:H b with
    | none=>exact un.keep b o e q (by intro z;exact absurd (show b∈([]:W5) from z)<|by simp) (by simp)
    | some u=>
     rcases R b with z | ⟨ob,xs,z⟩
     ·rw[q] at z;cases z
     ·have z2:=un.frzs b ob _ z;obtain⟨T,_⟩:=hok b _ z;obtain⟨e2,_⟩:=y b _ z2;rw[e] at T;cases T;exact e2
 cases hk:K.lookup a with
 | some o=>
  have e:=N a o hk;rw[B] at e;cases e;refine j (λ_=>none) (λ_=>.inl rfl) (.inr ⟨_,vs.toArray,_,hk,rfl,rfl,rfl,by rw[N3,hi.length];exact O,by simpa using Q⟩) (λb u z=>by have A:=z;cases A) (λb z=>absurd rfl z)<|absurd rfl
 | none=>
  refine j (λb=>if b=a then some (.frz {cls:=.type "list",data:=.seq vs.toArray} (.lst<|ns.map V.int)) else none) (λb=>?_) (.inl<|.inr ⟨{cls:=.type "list",data:=.seq vs.toArray},if_pos rfl⟩) (λb u z=>?_) (λb z=>?_) λ_=>hk
  ·by_cases g:b=a
   ·exact .inr ⟨_,_,if_pos g⟩
   ·exact .inl<|if_neg g
  ·by_cases g:b=a
   ·have A:=(if_pos g).symm.trans z;cases A;subst g;exact⟨B,by rw[L1];exact O,vs,_,Q,B⟩
   ·have A:=(if_neg g).symm.trans z;cases A
  ·by_cases g:b=a
   ·exact g
   ·exact absurd (if_neg g) z
noncomputable def qh(s:Stmt)(j:Nat):Stmt:=match s with
 | .ClassDef _ _ _ body _ _ _ _ _ _ _=>body.getD j<|.Pass ⟨0,0,0,0⟩
 | _=>.Pass ⟨0,0,0,0⟩
noncomputable def qB(s:Stmt):Arguments:=match s with
 | .FunctionDef _ a _ _ _ _ _ _ _ _=>a
 | _=>{posonlyargs:=[],args:=[],vararg:=none,kwonlyargs:=[],kw_defaults:=[],kwarg:=none,defaults:=[]}
noncomputable def vI(s:Stmt):List Stmt:=match s with
 | .FunctionDef _ _ b _ _ _ _ _ _ _=>b
 | _=>[]
noncomputable def ju(s:Stmt):Scope:=match s with
 | .FunctionDef _ _ _ _ _ _ sc _ _ _=>sc
 | _=>{kind:=.function,names:=[],isGenerator:=false,isCoroutine:=false}
noncomputable abbrev CX0:CXT:=λ_ _ _ _ _ _=>False
noncomputable abbrev E0:XK:=λ_ _ _=>False
def jfs:VX CX0 X E0:=λ_ _ _ _ _ _ _ h=>h.elim
structure Fun(K:W4)(x qual:Str)(st:Stmt)(f:Addr)(fd:FuncData):Prop where
 ex:∃(oc:Value) (od:Option Addr) (kV doc pm:Value) (an:Option Addr) (cdv ct:Value) (osl:Array<|Option Value),
  fd=PySem.W.fnOf x qual (qB st) (vI st) (ju st) .none kV doc pm an cdv ct/\K.lookup f=some ⟨oc,od,.func fd,osl⟩/\PySem.W.codeIn K cdv qual=true
 kp:PySem.W.keepIn K (.ref f)=true
section
variable {P:Program}{w:World}{K:W4}{mg:W6}{base:Heap}
def Fun.ok{x qual}{st}{f}{fd}{N ps}{k}{sp}(F:Fun K x qual st f fd)(S:FnScope N ps<|ju st)(len:∀ vs H Q E,sp vs H Q E->vs.length=ps.length)
  (a:∀ cdv A outer s H vs Q E,Room k (A.deeper<|envOfC qual (ju st) ↥s f cdv)->sp vs H Q E ->
   ∃ t,PSs (jgE CX0 P w K mg base N qual (ju st) f cdv A outer s H E).nox (vI st) t/\t {nx:=λ_ H'=>Q .non H',rt:=Q} (start N vs) H):FnOk P w K mg base CX0 (k+1) f fd ps sp:=by
 obtain⟨oc,od,kV,d,j,l,cdv,ct,e,rfl,g,b⟩:=F.ex;refine jnj g b S len λA outer s H vs Q E i c=>?_;obtain⟨t,h,q⟩:=a cdv A outer s H vs Q E i c;exact⟨t,h.nox,q⟩
def Fun.binds{x qual}{st}{f}{fd}{ps}(F:Fun K x qual st f fd)
  (h:∀ kV doc pm an cdv ct us,us.length=ps.length->bindArgs (PySem.W.fnOf x qual (qB st) (vI st) (ju st) .none kV doc pm an cdv ct) ⟨us,[]⟩=pure (ps.zip us)):Binds K fd ps []:=by
 obtain⟨oc,od,kV,doc,pm,an,cdv,ct,a,rfl,c,b⟩:=F.ex;exact .all<|h kV doc pm an cdv ct
def wH{x qual}{st}{f}{oc}{od an}{d}{kV b pm a ct}(l:K.lookup f=some ⟨oc,od,.func<|PySem.W.fnOf x qual (qB st) (vI st) (ju st) .none kV b pm an a ct,d⟩)
  (c:PySem.W.codeIn K a qual=true) (k:PySem.W.keepIn K (.ref f)=true):Fun K x qual st f (PySem.W.fnOf x qual (qB st) (vI st) (ju st) .none kV b pm an a ct):=⟨⟨oc,od,kV,b,pm,an,a,ct,d,rfl,l,c⟩,k⟩
end
def KQ(a:Room k A):A.units+1<cLine:=X9 (Nat.add_le_add_left (by decide:1<=64) _) a.units
def jcU(h:n<=1000):n<sizeLine:=X9 h (by decide)
def jgD{A B:Prop}(h:B):if false=true then A else B:=by
 exact h
def jgv{A B:Prop}(h:A):if true=true then A else B:=by
 exact h
def K5(I:Nat->Shared->Prop)
  (turn:∀ n s,I n s->wpAny (model prog w) A (pyNext it) (λr s₁=>match r with
   | none=>R (.ok .next) s₁
   | some v=>wpAny (model prog w) A (letOwnedTupleGo target it v) (λ_ s₁'=>wpAny (model prog w) A (assign target env v) (λ_ s₂=>
     wpAny (model prog w) A (forIn ifs true λc r=>if r=true then do let ok <- isTrue c env (eval c env);pure (ForInStep.yield ok) else pure (ForInStep.yield r)) (λok s₃=>
      if ok=true then wpAny (model prog w) A (eval elt env) (λx s₄=>
       wpAny (model prog w) A (call (.builtin "list.append") [acc,x]) (λ_ s₅=>∃ m,m<n/\I m s₅) (λ_ _=>False) s₄) (λ_ _=>False) s₃
      else ∃ m,m<n/\I m s₃) (λ_ _=>False) s₂) (λ_ _=>False) s₁') (λ_ _=>False) s₁) (λ_ _=>False) s)
  (n:Nat) (h:I n s):
  codeAny (model prog w) A (.compLoop (.ListComp elt [⟨target,iter,ifs,0⟩] scope pos) 0 it acc env) R s:=by
 have up:∀{α}{t}{Q:α->Shared->Prop}{E:J0}{s},wpAny (model prog w) A t Q (λ_ _=>False) s->wpAny (model prog w) A t Q E s:=
  λh=>wpAny_mono h (λ_ _ x=>x) λ_ _ z=>z.elim
 refine codeAny_loop rfl I (λn s e=>(wpAny_noted<|L3<|wpAny_standAt<|L3<|thn (up<|turn n s e) λr s₁ b=>?_)) n h;cases r with
 | none=>exact M6 b
 | some v=>
  refine L3<|thn (up b) λ_ s₁' a=>L3<|thn (up a) λ_ s₂ f=>L3<|thn (up f) λok s₃ d=>?_;cases ok with
  | false=>exact M6 ⟨rfl,d⟩
  | true=>
   exact L3<|L3<|thn (up d) λx s₄ g=>L3<|thn (up g) λ_ s₅ i=>M6<|M6 ⟨rfl,i⟩
noncomputable def je7(env:Env):List (Str×NameKind)->List (Str×Addr)->List (Str×Addr)
 | [],cs=>cs
 | (n,k)::r,cs=>je7 env r (if k==NameKind.free then(match env.cells.lookup n with | some a=>(n,a)::cs | none=>cs) else cs)
def xr(scope:Scope)(env:Env):List (Str×Addr):=je7 env scope.names []
theorem jgT:∀ l cs,(∀ n k,(n,k)∈l->k=NameKind.free->∃ c,env.cells.lookup n=some c) ->
  (forIn (m:=Sem) l cs λx r=>match x with | (n,k)=>if k==NameKind.free then do let a <- cellOf env n;pure (ForInStep.yield<|(n,a)::r) else pure (ForInStep.yield r))=pure (je7 env l cs)
 | [],cs,_=>rfl
 | (n,k)::r,cs,h=>by
  rw[List.forIn_cons];by_cases b:(k==NameKind.free)=true
  ·obtain⟨c,j⟩:=h n k L7 ∅;have o:cellOf env n=pure c:=by unfold cellOf;rw[j]
   have d:=jgT r ((n,c)::cs) λe f g i=>h e f (L6 _ g) i;simp only[b,if_true,o,pure_bind];rw[d]
   conv=>rhs;unfold je7
   simp only[b,if_true,j]
  ·have d:=jgT r cs λe f g i=>h e f (L6 _ g) i;simp only[b,if_false,pure_bind,Bool.false_eq_true];rw[d]
   conv=>rhs;unfold je7
   simp only[b,if_false,Bool.false_eq_true]
def jao(h:∀ n k,(n,k)∈scope.names->k=NameKind.free->∃ c,env.cells.lookup n=some c):closureFor scope env=pure (xr scope env):=by
 unfold closureFor xr;show(forIn scope.names [] λx r=>match x with | (n,k)=>if k==NameKind.free then do let a <- cellOf env n;pure (ForInStep.yield<|(n,a)::r) else pure (ForInStep.yield r)) >>= (pure)=_;rw[jgT scope.names [] h,pure_bind]
theorem jf3:∀ l cs,(x,c)∈je7 env l cs->(x,c)∈cs\/env.cells.lookup x=some c
 | [],_,h=>.inl h
 | (n,k)::r,cs,h=>by
  rcases jf3 r _ h with z | z
  ·grind
  ·lia
theorem jcj:∀ l cs,(x,c)∈cs->(x,c)∈je7 env l cs
 | [],_,h=>h
 | (n,k)::r,cs,h=>by
  refine jcj r _ ?_;split
  ·split
   ·exact L6 _ h
   ·exact h
  ·exact h
theorem jf7(a:env.cells.lookup x=some c):∀ l cs,(x,NameKind.free)∈l->(x,c)∈je7 env l cs
 | [],_,h=>nomatch h
 | (n,k)::r,cs,h=>by
  rcases M4.mp h with e | e
  ·cases e;refine jcj r _ ?_;simp only[ a];exact L7
  ·exact jf7 a r _ e
theorem Jn:∀{l:List (Str×β)}{c},(x,c)∈l->∃ d,l.lookup x=some d
 | (n,a)::r,c,h=>by
  rw[List.lookup_cons];cases e:x==n with
  | true=>exact⟨a,rfl⟩
  | false=>
   rcases M4.mp h with z | z
   ·lia
   ·exact Jn z
def Y0(h:(xr scope env).lookup x=some c):env.cells.lookup x=some c:=by
 rcases jf3 scope.names [] (PySem.mem_of_lookup h) with z | z
 ·exact nomatch z
 ·exact z
def jaT(a:env.cells.lookup x=some c)(f:(x,NameKind.free)∈scope.names):(xr scope env).lookup x=some c:=by
 obtain⟨d,e⟩:=Jn<|jf7 a scope.names [] f;have b:(xr scope env).lookup x=some d:=e;rw[b,<- Y0 b,a]
def Jc(h:(n,k)∈(relabel scope env).names):(n,k)∈scope.names\/(k=.cell/\(n,NameKind.free)∈scope.names):=by
 obtain⟨⟨a,b⟩,c,e⟩:=M5.mp h;dsimp only at e;split at e
 ·lia
 ·lia
def vW(scope:Scope)(env:Env)(C:Addr):List (Str×Addr):=cellsFrom (C+1) scope.names<|xr scope env
theorem jaZ:∀{names}{n:Nat}{acc:List (Str×Addr)},(∀ x y c,acc.lookup x=some c->acc.lookup y=some c->x=y)->(∀ x c,acc.lookup x=some c->c<n)->∀ x y c,(cellsFrom n names acc).lookup x=some c->(cellsFrom n names acc).lookup y=some c->x=y
 | [],n,acc,h,_=>h
 | (a,k)::r,n,acc,h,b=>by
  unfold cellsFrom;split
  ·refine jaZ (λx y c d e=>?_)<|λx c d=>?_
   ·grind
   ·grind
  ·exact jaZ h b
def jmt(h:∀ x y c,(xr scope env).lookup x=some c->(xr scope env).lookup y=some c->x=y)(a:∀ x c,(xr scope env).lookup x=some c->c<C+1)(x y)(c)(h1:(vW scope env C).lookup x=some c)(h2:(vW scope env C).lookup y=some c):x=y:=jaZ h a x y c h1 h2
theorem zL:∀{names}{n}{acc},(∃ c,acc.lookup x=some c)->∃ c,(cellsFrom n names acc).lookup x=some c
 | [],_,_,h=>h
 | (a,k)::r,n,acc,h=>by
  unfold cellsFrom;split
  ·refine zL ?_;rw[List.lookup_cons];cases x==a with
   | true=>exact⟨n,rfl⟩
   | false=>exact h
  ·exact zL h
theorem jbq:∀{names}{n}{acc},(x,NameKind.cell)∈names->∃ c,(cellsFrom n names acc).lookup x=some c
 | [],_,_,h=>nomatch h
 | (a,k)::r,n,acc,h=>by
  unfold cellsFrom;rcases M4.mp h with e | e
  ·cases e;refine zL ⟨n,?_⟩;rw[List.lookup_cons,beq_self_eq_true]
  ·split
   ·exact jbq e
   ·exact jbq e
def jm1(h:(x,NameKind.cell)∈scope.names):∃ c,(vW scope env C).lookup x=some c:=jbq h
theorem z7:∀{names}{n}{acc},(x,NameKind.cell)∉names->(cellsFrom n names acc).lookup x=acc.lookup x
 | [],_,_,_=>rfl
 | (a,k)::r,n,acc,h=>by
  unfold cellsFrom;split
  ·rename_i b;have b:=eq_of_beq b;subst b;rw[z7 λz=>h<|L6 _ z,List.lookup_cons];have:(x==a)=false:=U2.mpr λz=>h (by rw[z];exact L7);rw[this]
  ·exact z7 λz=>h<|L6 _ z
theorem xE:∀ names (h:Heap) acc x c,(cellsFrom h.objs.size names acc).lookup x=some c->(h.objs.size<=c/\(pushCells h names).IsCell c none)\/acc.lookup x=some c
 | [],_,_,_,_,e=>.inr e
 | (a,k)::r,h,acc,x,c,e=>by
  unfold cellsFrom at e;unfold pushCells;split at e
  ·rename_i b;rw[if_pos b];rcases xE r (h.push {cls:=.type "cell",data:=.cell none}) ((a,h.objs.size)::acc) x c (by rw[Heap.size_push];exact e) with q | q
   ·rw[Heap.size_push] at q;exact .inl ⟨Nat.le_of_succ_le q.1,q.2⟩
   ·rw[List.lookup_cons] at q;cases e1:x==a with
    | true=>
     rw[e1] at q;cases q;exact .inl ⟨M8 _,⟨_,pushCells_keeps r _ _ _<|X8 _ rfl,rfl⟩⟩
    | false=>rw[e1] at q;exact .inr q
  ·rename_i b;rw[if_neg b];exact xE r h acc x c e
theorem VW:∀ l cs,(x,c)∈je7 env l cs->(x,c)∈cs\/(x,NameKind.free)∈l
 | [],_,h=>.inl h
 | (n,k)::r,cs,h=>by
  rcases VW r _ h with z | z
  ·grind
  ·exact .inr<|L6 _ z
def jdM(h:(xr scope env).lookup x=some c):(x,NameKind.free)∈scope.names:=by
 rcases VW scope.names [] (PySem.mem_of_lookup h) with z | z
 ·exact nomatch z
 ·exact z
def V7 
  (h:Q (newEnv scope ↥s globals (cellsFrom (↥s+1) scope.names cl) qual none .none (some env) builtinsNs) { s with heap:=pushCells (s.heap.push {cls:=.type "dict",data:=.dict #[]}) scope.names }):
  wpAny M A (newFunctionEnv scope globals cl [] qual none .none<|some env) Q E s:=by
 simp only[newFunctionEnv,Option.isSome_some];refine L3<|wpAny_alloc ?_;refine L3<|wpAny_layCells _ (λnm kd a=>by cases hq:kd==NameKind.cell<;>simp[hq]) _ _ _ _ ?_;rw[Heap.size_push ..];exact L3<|M6<|M6 h
def jX(X:Cx)(scope:Scope)(N':List Str)(C:Addr)(s₃:Shared)(H₃:Hp)(fp:W5):Cx:=
 {X with N:=N',s₀:=s₃,H₀:=H₃,env:=compEnvC scope (vW scope X.env C) C X.env,outer:=X.stack,stack:=X.stack,ex:=fp,fn:=λx=>scope.names.lookup x==some NameKind.cell,pn:=[],xe:=λ_ _=>False}
structure BlockOk(X:Cx)(scope:Scope)(N':List Str)(ix:List<|Option Nat):Prop where
 kind:scope.kind=.function
 names:∀ y∈scope.names,y.2=.local->scope.names.lookup y.1=some .local
 cells:∀ y∈scope.names,y.2=.cell->scope.names.lookup y.1=some .cell
 uniq:∀ y∈scope.names,y.2=.free->scope.names.lookup y.1=some .free
 outer:∀ y∈scope.names,y.2=.free->X.env.kindOf y.1=some .cell\/X.env.kindOf y.1=some .free
 nd:N'.Nodup
 len:ix.length=N'.length
 at_:∀(i j:Nat) (x:Str),ix[i]?=some (some j)->N'[i]?=some x->X.N[j]?=some x/\(x,NameKind.free)∈scope.names
 func:X.env.scope.kind=.function
def BlockOk.free(B:BlockOk X scope N' ix)  (h:(x,NameKind.free)∈scope.names):(vW scope X.env C).lookup x=(xr scope X.env).lookup x:=
 z7 λz=>by
  have a:=B.cells _ z rfl;rw[B.uniq _ h rfl] at a;cases a
noncomputable def vm(ix:List<|Option Nat)(σ:St):St:=ix.map λo=>o.bind λj=>(σ[j]?).join
abbrev BW:=Nat->Nat->St->Hp->Prop
def wL(tc:TT)(te:TE)(g:TG)(J:It)(p:Addr)(σ':St)(H1:Hp)(Q:Hp->Prop):Prop:=
 ∃ W:BW,(∃ m,W 0 m σ' H1)/\∀ i m σ2 H2,W i m σ2 H2->(J.stop i H2/\Q H2) \/
  (J.go i H2/\∀ x H3,J.yld i H2 x H3->g x σ2 H3 λσ4 H4=>tc σ4 H4 λb H5=>if b=true then
   te σ4 H5 λy H6=>∃ ys,H6 p=some (.lst ys)/\ys.length<sizeLine/\∃ m',m'<m/\W (i+1) m' σ4 (upd H6 p<|.lst<|ys++[y])
   else ∃ m',m'<m/\W (i+1) m' σ4 H5)
def zu(wi:TI)(g:TG)(tc:TT)(te:TE)(ix:List<|Option Nat):TE:=λσ H Q=>wi σ H λJ H1=>∀ p,H1 p=none->wL tc te g J p (vm ix σ) (upd H1 p<|.lst []) λH2=>Q (.ref p) H2
def PIf(X:Cx)(ifs:List Expr)(tc:TT):Prop:=(ifs=[]/\tc=λ_ H Q=>Q true H) \/ ∃ c,ifs=[c]/\PT X c tc
def jda(B:BlockOk X scope N' ix)(I:Inv X pins σ H s)(n:∀ b∈fp,uh X pins H b)(w:∀ b∈fp,b < ↥s)
  (G:h₁.Ns ↥s (λ_=>none)) (F:∀ b o,s.heap.get? b=some o->h₁.get? b=some o)
  (g:∀ x c,(vW scope X.env ↥s).lookup x=some c->(↥s+1<=c/\h₁.IsCell c none)\/(xr scope X.env).lookup x=some c):
  Inv (jX X scope N' ↥s s H fp) [] (vm ix σ) H {s with heap:=h₁,toks:=t}:=by
 have d:∀ x c,(xr scope X.env).lookup x=some c->X.env.cells.lookup x=some c:=λx c e=>Y0 e;have J:∀ x c,X.env.cells.lookup x=some c->c < ↥s:=λx c e=>by
  obtain⟨v,o,A,_⟩:=I.cell x c e;exact N1 A
 refine⟨⟨I.ok.mod,B.kind,I.ok.glob,I.ok.blt,M8 _,jmt (λx y c C D=>I.ok.inj x y c (d x c C)<|d y c D)<|λx c e=>Nat.lt_succ_of_lt<|J x c<|d x c e,λx K=>?_,(λx c C D=>?_),I.ok.hd,I.ok.frames,.inl rfl,λb h=>⟨N6<|w b h,λx c e=>?_⟩,
  I.bs,N7 I.ok.bsz I.sz,λb o e h=>?_,λb h z=>?_,I.stack,I.stkFree⟩,rfl,I.bare,Un.kept F,⟨_,G,λi x v C D Q=>?_⟩,λx c e=>?_,I.hok.fresh<|M8 _,λx c e=>?_,(λp R=>nomatch (R)),I.hok.kept F,?_⟩
 ·have L:=K;have f:(x,NameKind.free)∈scope.names\/(x,NameKind.cell)∈scope.names:=by
   rcases L with q | q
   ·rcases Jc (PySem.mem_of_lookup q) with z | z
    ·lia
    ·lia
   ·rcases Jc (PySem.mem_of_lookup q) with z | z
    ·lia
    ·lia
  rcases f with f | f
  ·obtain⟨c,M⟩:=I.ok.has x<|B.outer _ f rfl;exact⟨c,by show(vW scope X.env ↥s).lookup x=some c;rw[B.free f];exact jaT M f⟩
  ·exact jm1 f
 ·-- the block's own cells are new
  have K:=C;rcases g x c D with⟨q,_⟩ | q
  ·exact Nat.le_of_succ_le q
  ·exfalso;have n:=jdM q;have E:=B.uniq _ n rfl;rw[eq_of_beq K] at E;cases E
 ·rcases g x c e with⟨q,_⟩ | q
  ·exact Nat.ne_of_gt<|U4 (w b h)<|Nat.le_of_succ_le q
  ·exact(n b h).2.2.2.2.1 x c (d x c q)
 ·rcases(n b h).2.2.2.1 with z | z
  ·exact I.ok.noex b o e z
  ·exact absurd (U4 (N1 e)<|N7 I.ok.bsz z)<|Nat.lt_irrefl _
 ·rcases M4.mp (I.stkSub b z) with q | q
  ·exact(n b h).2.1 q
  ·exact(n b h).2.2.1 q
 ·have a:=D;unfold vm at a;rw[List.getElem?_map] at a;cases e:ix[i]? with
  | none=>rw[e] at a;cases a
  | some o=>
   rw[e] at a;cases o with
   | none=>cases a
   | some j=>
    have O:(σ[j]?).join=some v:=X4 a;have S:σ[j]?=some (some v):=by grind
    obtain⟨T,f⟩:=B.at_ i j x e C;have N:=B.outer _ f rfl;obtain⟨m,V,U⟩:=I.loc;obtain⟨u,r,l⟩:=U j x v T S<|N.elim (λz=>.inr<|.inl z) λz=>.inr<|.inr z;refine⟨u,r,.inr ?_⟩;rcases l with⟨k,_⟩ | ⟨_,c,M,z⟩
    ·lia
    ·refine⟨?_,c,by show(vW scope X.env ↥s).lookup x=some c;rw[B.free f];exact jaT M f,?_⟩
     ·rcases Q with y | y | y
      ·have:=PySem.mem_of_lookup y;rcases Jc this with P | P
       ·have E:=B.names _ P rfl;rw[B.uniq _ f rfl] at E;cases E
       ·lia
      ·exact .inl y
      ·exact .inr y
     ·obtain⟨o,A,hd⟩:=z;exact⟨o,F c o A,hd⟩
 ·rcases g x c e with⟨_,q⟩ | q
  ·exact⟨none,q⟩
  ·obtain⟨v,o,A,hd⟩:=I.cell x c<|d x c q;exact⟨v,o,F c o A,hd⟩
 ·rcases g x c e with⟨q,_⟩ | q
  ·exact I.hok.fresh<|Nat.le_of_succ_le q
  ·exact I.freeC x c<|d x c q
 ·show(vm ix σ).length=N'.length;unfold vm;rw[L1,B.len]
def Inv.other(I:Inv X pins σ H s)(f:uh X pins H C)(a:Heap.SameBut C s.heap h'):Inv X pins σ H {s with heap:=h'}:=
 I.turned (a.extBut) f.1 f.2.1 f.2.2.2.1 f.2.2.2.2.1 f.2.2.2.2.2
def JD{X:Cx}{ifs:List Expr}{N':List Str}{ix:List (Option Nat)}{pins:List (Addr×Obj)}{s:Shared}{Q:Addr->Hp->Prop}{E:Option (Value->Sem Unit)}{QQ:J0}(B:BlockOk X scope N' ix)(hc:X.calm=true)(hi:PI X tg iter wi)
  (hg:∀ C s H fp,PG (jX X scope N' C s H fp) tg g) (hif:∀ C s H fp,PIf (jX X scope N' C s H fp) ifs tc) (he:∀ C s H fp,PE (jX X scope N' C s H fp) elt te)
  (hs:∀ x,foldedSetIterable iter X.env x=pure x) (I:Inv X pins σ H s)
  (h:wi σ H λJ H1=>∀ p,H1 p=none->wL tc te g J p (vm ix σ) (upd H1 p<|.lst []) (Q p))
  (hend:∀ p C s' H',Q p H'->Inv X pins σ H' s'->uh X pins H' C->(∃ m,s'.heap.Ns C m)->compPost (model X.prog X.w) X.A X.xe E QQ (.ref p) C (.ok .next) s'):
  wpAny (model X.prog X.w) X.A (comprehension (.ListComp elt [⟨tg,iter,ifs,0⟩] scope pos) scope X.env pos' (newList []) false (eval iter X.env) E) QQ X.xe s:=by
 refine wpAny_comprehension_free rfl hs (jao λn k hm hk=>I.ok.has n<|B.outer _ hm hk) B.kind B.names<|thn (hi pins s σ H _ I h) λv s1 h1=>thn h1 λitv s2 h2=>?_;obtain⟨it,fp,tn,J,M,rfl,I2,T,Y,f2,h2⟩:=h2;refine wpAny_newObj_type<|V7 ?_;dsimp only;have I3:Inv X pins σ (upd M ↥s2 (.lst [])) { s2 with heap:=s2.heap.push {cls:=.type "list",data:=.seq ([]:List Value).toArray} }:=I2.lnew .nil<|U5 _;generalize hs3:({ s2 with heap:=s2.heap.push {cls:=.type "list",data:=.seq ([]:List Value).toArray} }:Shared)=s3 at I3;have e3:s3.heap=s2.heap.push {cls:=.type "list",data:=.seq ([]:List Value).toArray}:=by lia
 have hk3:∀ b o,s2.heap.get? b=some o->s3.heap.get? b=some o:=λb o e=>by rw[e3];exact L8 _ e
 have Z:∀ b∈fp,b < ↥s3:=λb a=>by
  obtain⟨o,e,_⟩:=T.obj _ _ Y b a;exact N1<|hk3 b o e
 have nep:∀ b∈fp,b≠↥s2:=λb a z=>by
  obtain⟨o,e,_⟩:=T.obj _ _ Y b a;exact absurd (N1 e) ∅
 have N:∀ b∈fp,uh X pins (upd M ↥s2 (.lst [])) b:=λb a=>⟨by rw[jd<|nep b a];exact(f2 b a).1,(f2 b a).2⟩;have hh₁:∃ O,O=pushCells (s3.heap.push {cls:=.type "dict",data:=.dict #[]}) scope.names:=⟨_,rfl⟩;obtain⟨O,P⟩:=hh₁;rw[<- e3,<- P];have hk4:∀ b o,s3.heap.get? b=some o->O.get? b=some o:=λb o e=>by
  rw[P];exact pushCells_keeps _ _ b o<|L8 _ e
 have hns4:O.Ns ↥s3 (λ_=>none):=by
  rw[P];exact(Heap.Ns.new s3.heap<|.type "dict").keeps (pushCells_keeps _ _)
 have R:∀ x c,(vW scope X.env ↥s3).lookup x=some c->(↥s3+1<=c/\O.IsCell c none)\/(xr scope X.env).lookup x=some c:=λx c e=>by
  have q:=xE scope.names (s3.heap.push {cls:=.type "dict",data:=.dict #[]}) (xr scope X.env) x c (by rw[Heap.size_push];exact e);rw[Heap.size_push,<- P] at q;exact q
 have I4:Inv (jX X scope N' ↥s3 s3 (upd M ↥s2 (.lst [])) fp) [] (vm ix σ) (upd M ↥s2 (.lst [])) {s3 with heap:=O,toks:=s2.toks}:=jda B I3 N Z hns4 hk4 R;have st4:tn 0 O:=T.keep _ _ _ Y λb a o e=>hk4 b o<|hk3 b o e;obtain⟨W,⟨m0,w0⟩,turn⟩:=h2 _ I2.fresh;have hg':=hg ↥s3 s3 (upd M ↥s2 (.lst [])) fp;have S:=hif ↥s3 s3 (upd M ↥s2 (.lst [])) fp;have he':=he ↥s3 s3 (upd M ↥s2 (.lst [])) fp;generalize f:jX X scope N' ↥s3 s3 (upd M ↥s2 (.lst [])) fp=X' at I4 hg' S he';have eP:X'.prog=X.prog:=by rw[<- f];rfl
 have eW:X'.w=X.w:=by rw[<- f];rfl
 have eK:X'.K=X.K:=by rw[<- f];rfl
 have eA:X'.A=X.A:=by rw[<- f];rfl
 have eC:X'.calm=true:=by rw[<- f];exact hc
 have eE:X'.env=compEnvC scope (vW scope X.env ↥s3) ↥s3 X.env:=by rw[<- f];rfl
 have eX:X'.xe=λ_ _=>False:=by rw[<- f];rfl
 have F:∀{H':Hp},(∀ b∈fp,H' b=none)->∀ b∈fp,uh X' [] H' b:=λhn b a=>by
  refine⟨hn b a,?_,?_,?_,?_,?_⟩
  ·rw[eE];exact N6<|Z b a
  ·rw[<- f];intro z;rcases M4.mp (I3.stkSub b z) with q | q
   ·exact(N b a).2.1 q
   ·exact(N b a).2.2.1 q
  ·rw[<- f];exact .inl a
  ·rw[eE];intro x c e;rcases R x c e with⟨q,_⟩ | q
   ·exact Nat.ne_of_gt<|U4 (Z b a)<|Nat.le_of_succ_le q
   ·exact(N b a).2.2.2.2.1 x c (Y0 q)
  ·rw[<- f];exact(λp hp=>nomatch (hp))
 have fin:∀{j:St}{H':Hp}{s':Shared},Inv X' [] j H' s'->Q ↥s2 H'->compPost (model X.prog X.w) X.A X.xe E QQ (.ref ↥s2) ↥s3 (.ok .next) s':=λ{j H' s'} J q=>by
  have hL:X'.env.locals=↥s3:=by rw[eE];rfl
  have un:Un (frs X.stack) fp (upd M ↥s2 (.lst [])) H' s3.heap s'.heap:=by
   have z:=J.base;rw[<- f] at z;exact z
  have hos:s'.os=s3.os:=by
   have z:=J.os;rw[<- f] at z;exact z
  have hok:HOk X.prog X.w H' s'.heap:=by
   have z:=J.hok;rw[eP,eW] at z;exact z
  have fc:H' ↥s3=none:=by
   have z:=J.free;rw[hL] at z;exact z
  have I5:Inv X pins σ H' s':=by
   obtain⟨hh,gg,dd,tt,oo⟩:=s';obtain rfl:oo=s3.os:=hos;exact I3.call un hok J.bare λb a=>⟨(N b a).2.2.2.1,(N b a).2.1,(N b a).2.2.2.2.1,(N b a).2.2.2.2.2⟩
  obtain⟨m,hn,_⟩:=J.loc;rw[hL] at hn;exact hend _ _ s' H' q I5 (I3.fpOk (M8 _) fc) ⟨m,hn⟩
 have loop:∀ s',s'=({s3 with heap:=O,toks:=s2.toks}:Shared)->codeAny (model X.prog X.w) X.A (.compLoop (.ListComp elt [⟨tg,iter,ifs,0⟩] scope pos) 0 (.ref it) (.ref ↥s2) X'.env) (compPost (model X.prog X.w) X.A X.xe E QQ (.ref ↥s2) ↥s3) s':=by
  rintro s' rfl;refine K5 (λn s'=>∃ i j H',Inv X' [] j H' s'/\tn i s'.heap/\(∀ b∈fp,H' b=none)/\W i n j H') ?_ m0 ⟨0,_,_,I4,st4,λb a=>(N b a).1,w0⟩;rintro n s5 ⟨i,σ5,H5,I5,st5,fr5,w5⟩;have it5:=T.item X' eP eW eK eC i [] s5 σ5 H5 (λ_ _=>False) I5 (F fr5) st5;have dn5:=T.done X' eP eW eK eC i [] s5 σ5 H5 (λ_ _=>False) I5 (F fr5) st5;rw[eA] at it5 dn5;rcases turn i n σ5 H5 w5 with⟨stop,qn⟩ | ⟨go,step⟩
  ·refine thn (dn5 stop) λr s6 ⟨hr,I6⟩=>?_;subst hr;exact fin I6 qn
  ·refine thn (it5 go) λr s6 ⟨u,hr,h6⟩=>?_;subst hr;refine thn h6 λ_ s7 hh=>?_;obtain⟨x,H7,I7,r7,y7,st7,fr7⟩:=hh;have a7:=hg' _ s7 σ5 H7 x u _ (I7.pinned (F fr7)<|T.obj _ _ st7) r7<|step x H7 y7;rw[eP,eW,eA,eX] at a7;refine thn a7 λ_ s8 hh=>?_;obtain⟨G,H8,I8,q8⟩:=hh;have L:∀{l:Shared}{D:Hp},Inv X' ([]++VM fp s7.heap) G D l->(∃ t,t<n/\W (i+1) t G D)->∃ m,m<n/\∃ i j H',Inv X' [] j H' l/\tn i l.heap/\(∀ b∈fp,H' b=none)/\W i m j H':=λ{l D} U ⟨t,hm,w9⟩=>by
    refine⟨t,hm,i+1,G,D,U.unpinned,T.keep _ _ _ st7 λb a o e=>(U.pin (b,o)<|U3 _<|U3 _<|kf a e).1,λb a=>?_,w9⟩;obtain⟨o,e,d⟩:=T.obj _ _ st7 b a;exact(U.pin (b,o)<|U3 _<|U3 _<|kf a e).2.1
   have JR:∀(b:Bool) (l:Shared) (D:Hp),Inv X' ([]++VM fp s7.heap) G D l->(if b=true then te G D λy H6=>∃ ys,H6 ↥s2=some (.lst ys)/\ys.length<sizeLine/\∃ t,t<n/\W (i+1) t G (upd H6 ↥s2 (.lst<|ys++[y]))
     else ∃ t,t<n/\W (i+1) t G D) ->
     if b=true then wpAny (model X.prog X.w) X.A (eval elt X'.env) (λx s₄=>wpAny (model X.prog X.w) X.A (call (.builtin "list.append") [.ref ↥s2,x]) (λ_ s₅=>∃ m,m<n/\∃ i j H',Inv X' [] j H' s₅/\tn i s₅.heap/\(∀ b∈fp,H' b=none)/\W i m j H') (λ_ _=>False) s₄) (λ_ _=>False) l
     else ∃ m,m<n/\∃ i j H',Inv X' [] j H' l/\tn i l.heap/\(∀ b∈fp,H' b=none)/\W i m j H':=λb l D U q9=>by
    cases b with
    | false=>
     exact L U q9
    | true=>
     have a9:=he' _ l G D _ U q9;rw[eP,eW,eA,eX] at a9;refine thn a9 λyv s10 hh=>?_;obtain⟨y,H10,I10,r10,ys,e10,l10,q10⟩:=hh;have a10:=JI _ s10 G H10 (.ref ↥s2) [y] (.ref ↥s2) [yv] (λ_ H'=>∃ t,t<n/\W (i+1) t G H') I10 rfl (.cons r10 .nil) ⟨_,ys,y,rfl,rfl,e10,l10,q10⟩;rw[eP,eW,eA,eX] at a10;exact thn a10 λ_ s11 ⟨_,H11,I11,_,q11⟩=>L I11 q11
   rcases S with⟨e1,e2⟩ | ⟨c,e1,e2⟩
   ·subst e1;rw[e2] at q8;exact wpAny_tests_nil<|JR true s8 H8 I8 q8
   ·subst e1;have a8:=e2 _ s8 G H8 _ I8 q8;rw[eP,eW,eA,eX] at a8;exact wpAny_tests_one<|thn a8 λb l ⟨D,U,q9⟩=>JR b l D U q9
 have V:codeAny (model X.prog X.w) X.A (.compStart (.ListComp elt [⟨tg,iter,ifs,0⟩] scope pos) 0 (.ref it) (.ref ↥s2) X'.env) (compPost (model X.prog X.w) X.A X.xe E QQ (.ref ↥s2) ↥s3) {s3 with heap:=O,toks:=s2.toks}:=
  codeAny_compStart_list (loop _ rfl) (T.self _ 0 _ _ _ st4<|loop _ rfl)
 rw[eE] at V;subst hs3;exact V
def jc6(B:BlockOk X scope N' ix)(c:X.calm=true)(hi:PI X tg iter wi)
  (d:∀ C s H fp,PG (jX X scope N' C s H fp) tg g) (a:∀ C s H fp,PIf (jX X scope N' C s H fp) ifs tc) (e:∀ C s H fp,PE (jX X scope N' C s H fp) elt te)
  (i:∀ x,foldedSetIterable iter X.env x=pure x:=by intro _;rfl):PE X (.ListComp elt [⟨tg,iter,ifs,0⟩] scope pos) (zu wi g tc te ix):=by
 intro b s σ H Q I h;exact JD B c hi d a e i I h λp C o j q k f ⟨m,l⟩=>⟨m,l,λr n=>⟨.ref p,j,k.other f n,rfl,q⟩⟩
def jar(B:BlockOk X scope N' ix)(y:X.calm=true)(hi:PI X tg iter wi)
  (A:∀ C s H fp,PG (jX X scope N' C s H fp) tg g) (b:∀ C s H fp,PIf (jX X scope N' C s H fp) ifs tc) (E:∀ C s H fp,PE (jX X scope N' C s H fp) elt te)
  (F:X.N.Nodup) (c:X.N[i]?=some x) (G:Loc X.env.scope x)
  (hsw:swapsWith (.ListComp elt [⟨tg,iter,ifs,0⟩] scope pos) (some<|.Name x pos') spos.line X.env=pure true)
  (J:∀ x,foldedSetIterable iter X.env x=pure x:=by intro _;rfl)
  (K:X.fn x=true\/X.env.scope.names.lookup x=some .local:=by first | exact .inl rfl | exact .inr rfl | assumption):
  PS X (.Assign [.Name x pos'] (.ListComp elt [⟨tg,iter,ifs,0⟩] scope pos) spos) (jd2 (zu wi g tc te ix)<|km i):=by
 intro a s σ H D I h;rw[exec_Assign_Name_used _ _ _ _ hsw];refine L3<|wpAny_standAt<|L3<|L3<|thn (JD B y hi A b E J I h λp C k l q n f ⟨m,L⟩=>?_) λ_ k M=>M6<|M6 M;obtain⟨o,O,P,Q,r⟩:=id L;have hd:∀ v,o.data≠.cell v:=λv z=>by
  obtain⟨d,_⟩:=r;rw[d] at z;cases z
 have R:Inv X (a++[(C,o)]) σ l k:=n.pins_of λt j=>by
  rcases N2.mp j with z | z
  ·exact n.pin t<|U3 _ z
  ·have e:t=(C,o):=by simpa using z
   subst e;exact⟨Q,f.1,f.2.1,f.2.2.1,hd⟩
 refine wpAny_assign_Name<|Yv R F c G (v:=.ref p) rfl (λs2 u=>?_) K;have w:=u.pin (C,o)<|U3 _<|U3 _<|M7.mpr rfl;refine⟨m,⟨o,O,P,w.1,r⟩,λT S=>⟨_,l,(u.unpinned).other ⟨w.2.1,f.2⟩ S,q⟩⟩
noncomputable def S(l:List Nat):Str:=⟨l.toArray⟩
def qU(l):(S l).cps.toList=l:=by simp[S]
def Y1(l):(S l).length=l.length:=by simp[S,Str.length]
def jg4(h:S a=S b):a=b:=by
 rw[<- qU a,<- qU b,h]
def jnR(a b):(S a=S b)=(a=b):=propext ⟨jg4,λh=>by rw[h]⟩
def jot(a b):S a++S b=S (a++b):=by
 apply PyProof.Rows.ext_toList;rw[PySem.W.KT.app_list,qU,qU,qU]
def jlU(c):(⟨#[c]⟩:Str)=S [c]:=rfl
def j9{α:Type}(xs:List α)(lo hi:Option Int):List α:=(xs.drop<|HT.sIx xs.length 0 lo).take (HT.sIx xs.length xs.length hi-HT.sIx xs.length 0 lo)
def jhS(xs)(lo hi):jhd xs lo hi=j9 xs lo hi:=rfl
def jcW(xs:List α)(k:Nat):j9 xs none (some (k:Int))=xs.take k:=by
 unfold j9;rw[HT.sIx_none,HT.sIx_nat];simp[List.take_eq_take_iff]
def jdN(xs:List α)(k:Nat):j9 xs (some (k:Int)) none=xs.drop k:=by
 unfold j9;rw[HT.sIx_none,HT.sIx_nat];by_cases h:k<=xs.length
 ·rw[Nat.min_eq_left h,List.take_of_length_le];rw[List.length_drop]
  lia
 ·have e:xs.drop k=[]:=List.drop_eq_nil_of_le ∅;rw[e,Nat.min_eq_right ∅];simp
def jbA(lo hi)(n):Builtin.Str.strSliceIndices lo hi 1 n=(List.range<|HT.sIx n n hi-HT.sIx n 0 lo).map (HT.sIx n 0 lo+·):=by
 have a:∀ o d,(match o with | none=>d | some i=>(let i:=if i<0 then i+n else i;if 1>0 then max 0 (min i n) else max (-1) (min i<|n-1)))=((HT.sIx n d o:Nat):Int):=by
  intro o d;cases o with
  | none=>rfl
  | some v=>
   show(if 1>0 then max 0 (min (if v<0 then v+n else v) n) else _)=(((if v<0 then(v+n).toNat else min v.toNat n):Nat):Int);by_cases b:v<0
   ·lia
   ·lia
 rw[<- sliceRange_one,<- a lo 0,<- a hi n];rfl
def jgY(l)(lo hi):Txt.slice (S l) lo hi=S (j9 l lo hi):=by
 have g:HT.sIx l.length l.length hi<=l.length:=HT.sIx_le _ _ (M8 _) _;have e:(Builtin.Str.strSliceIndices lo hi 1 (S l).length).filterMap ((S l).cps[·]?)=j9 l lo hi:=by
  rw[Y1,jbA];by_cases b:HT.sIx l.length 0 lo<=HT.sIx l.length l.length hi
  ·have c:=(StrLaws.picks l (HT.sIx l.length l.length hi-HT.sIx l.length 0 lo)<|HT.sIx l.length 0 lo) ∅;unfold j9;rw[<- c];simp[S]
  ·have z:HT.sIx l.length l.length hi-HT.sIx l.length 0 lo=0:=by lia
   unfold j9;rw[z];simp
 unfold Txt.slice;split
 ·rename_i h;have d:(Builtin.Str.strSliceIndices lo hi 1 (S l).length).length=(S l).length:=by lia
  rw[Y1,jbA,L1,List.length_range] at d;unfold j9;by_cases a:l.length=0
  ·have:=List.length_eq_zero_iff.mp a;subst this;simp
  ·have f:HT.sIx l.length 0 lo=0:=by lia
   rw[f,List.drop_zero,List.take_of_length_le ∅]
 ·rw[e];rfl
def joW:V->Option Int->Option Int->Hp->VK->Prop:=λx lo hi H Q=>∃ l,x=.str (S l)/\l.length<=sizeLine/\Q (.str<|S<|j9 l lo hi) H
def jge(p:IsPart v o):∃ q:Option (Int×Tok),v=partValue q/\q.map (·.1)=o:=by
 cases p with
 | none=>exact⟨none,rfl,rfl⟩
 | int i t=>exact⟨some (i,t),rfl,rfl⟩
def jl5:SlR X joW:=by
 intro a s σ H x v n o lo hi sl Q I e f pl g h;obtain⟨l,rfl,i,q⟩:=h;obtain⟨t,rfl⟩:=e;obtain⟨b,rfl,j⟩:=jge pl;obtain⟨c,rfl,m⟩:=jge g;refine⟨"str",_,F.slot_str_getitem.lookup,typeIs_str _ _ _,wpAny_getItem_str_slice (st:=none) f rfl ?_⟩;have key:∀ d k,EP X a σ Q (.str (Txt.slice (S l) lo hi) d) {s with toks:=k}:=λd k=>by
  rw[jgY l lo hi];exact⟨.str<|S<|j9 l lo hi,H,I.tok k,⟨d,rfl⟩,q⟩
 have e2:sliceMade (S l) t b c none=(if(1==1&&(Builtin.Str.strSliceIndices lo hi 1 (S l).length).length==(S l).length)=true then Made.val (.str (S l) t) else Made.str ⟨((Builtin.Str.strSliceIndices lo hi 1 (S l).length).filterMap ((S l).cps[·]?)).toArray⟩):=by
  unfold sliceMade slicePicked;rw[j,m];rfl
 rw[e2];refine post_val_or_str ⟨?_,key⟩;exact N7 (Txt.slice_le (S l) lo hi) (by rw[Y1];exact i)
def Its(l:List Nat):It:=⟨λi _=>i<l.length,λi H x H'=>H'=H/\∃ c,l[i]?=some c/\x=.str (S [c]),λi _=>l.length<=i⟩
def jed{tg}{P}{w}{K}(a)(l)(t)(ty)(j:ty = "str_ascii_iterator" \/ ty = "str_iterator")
  (W:∀ A:Around,A.handled=none->Walks P w A a [a] [a] (S l).cps.size (SignAt<|S l) (λi h=>h.IsStrIter a ty (S l) t i)):Turn P w K tg (Its l) [a] a (λi h=>h.IsStrIter a ty (S l) t i) where
 mem:=by simp
 obj:=λi h f b m=>by
  have e:b=a:=by simpa using m
  subst e;obtain⟨o,e,c,d⟩:=f;exact⟨o,e,λv z=>by rw[d] at z;cases z⟩
 keep:=λi h p f k=>by
  obtain⟨o,e,r⟩:=f;exact⟨o,k a (by simp) o e,r⟩
 item:=by
  intro X O Q R q i g s σ H E I x f G;obtain⟨y,B,T,C,D,F⟩:=x a (by simp);have J:(S l).cps.size=l.length:=by rfl
  refine(W X.A<|I.ok.hd q).item i s _ _ (by rw[J];exact G) f λv p U V n Y=>?_;obtain⟨c,u,L,rfl⟩:=V;have Z:Inv X g σ H {s with heap:=p,toks:=U}:=I.turned (λb o m e=>Y b o ⇑m e) y B C D F;obtain⟨o,e,ct,d⟩:=id n;refine⟨_,rfl,jeN e ct d (by rcases j with z | z<;>subst z<;>decide) ⟨.str<|S [c],H,Z,⟨u,rfl⟩,⟨rfl,c,by simpa [S] using L,rfl⟩,n,λb m=>(x b m).1⟩⟩
 done:=by
  intro X O Q R q i g s σ H E I x f G;obtain⟨y,B,T,C,D,F⟩:=x a (by simp);have N:(S l).cps[i]?=none:=by
   have:l.length<=i:=G;simp[S,this]
  rcases j with z | z
  ·subst z;exact wpAny_pyNext_ascii_end (I.ok.hd q) f N λp M=>⟨rfl,I.turned (M) y B C D F⟩
  ·subst z;exact wpAny_pyNext_wide_end (I.ok.hd q) f N λp M=>⟨rfl,I.turned (M) y B C D F⟩
 self:=λ_ _ _ _ _ f h=>by
  rcases j with z | z
  ·subst z;exact wpAny_pyIter_striter_ascii f h
  ·subst z;exact wpAny_pyIter_striter_wide f h
def jkf:OpR X (compareOp .In) (λx y H Q=>∃ c l,x=.str (S [c])/\y=.str (S l)/\Q (.bl<|decide<|c∈l) H):=by
 intro a s σ H x y v u Q I b d h;obtain⟨c,l,rfl,rfl,q⟩:=h;refine jdG a s σ H _ _ v u Q I b d ⟨_,_,rfl,rfl,?_⟩;rw[<- jlU,StrLaws.found_one,qU];exact q
def jdd:OpR X (compareOp .NotIn) (λx y H Q=>∃ c l,x=.str (S [c])/\y=.str (S l)/\Q (.bl<|!decide (c∈l)) H):=by
 intro a s σ H x y v u Q I b d h;obtain⟨c,l,rfl,rfl,q⟩:=h;refine QX a s σ H _ _ v u Q I b d ⟨_,_,rfl,rfl,?_⟩;rw[<- jlU,StrLaws.found_one,qU];exact q
def jhm:OpR X (binaryOp .Add) (λx y H Q=>∃ a b,x=.str (S a)/\y=.str (S b)/\a.length+b.length<=sizeLine/\Q (.str<|S<|a++b) H):=by
 intro c s σ H x y v u Q I d e h;obtain⟨a,b,rfl,rfl,f,q⟩:=h;refine jal c s σ H _ _ v u Q I d e ⟨_,_,rfl,rfl,by rw[Y1,Y1];exact f,?_⟩;rw[jot];exact q
def jiS:OpR X (binaryOp .Mult) (rI (λi j=>Builtin.Int.intBits i<=2 ^ 20/\Builtin.Int.intBits j<=2 ^ 20) λi j=>.int<|i*j):=opI λ_ _ _ _ _ _ _ a q=>mul_int q<|IntMulOk.of_bits a.1 a.2
def jaJ(h:i.natAbs<2 ^ m)(a:m<=2 ^ 20):Builtin.Int.intBits i<=2 ^ 20:=N7 (PySem.intBits_le_iff.mpr h) a
def zN{A}{bs:List Bool}{its}(r:Vals (bs.map V.bl) its):TruthOf P w A (λi v=>its.toArray[i]?=some v) (λi=>bs.getD i false):=by
 intro i v s Q E c d;have a:its[i]?=some v:=by simpa using c
 have hi:=(L9.mp a).1;have e:=r.length;rw[L1] at e;have f:(bs.map V.bl)[i]?=some (V.bl<|bs.getD i false):=by grind
 obtain⟨u,b,g⟩:=r.get f;rw[a] at b;cases b;cases g;exact M6 d
def jaX:∀(bs:List Bool),(List.range bs.length).all (λi=>bs.getD i false)=bs.all (λb=>b):=by
 intro bs;rw[Bool.eq_iff_iff,List.all_eq_true,List.all_eq_true];constructor
 ·intro h b c;obtain⟨i,hi,e⟩:=List.mem_iff_getElem.mp c;have:=h i<|List.mem_range.mpr hi;rw[List.getD_eq_getElem?_getD,X6 hi,e] at this;exact this
 ·intro h i hi;have a:=List.mem_range.mp hi;rw[List.getD_eq_getElem?_getD,X6 a];exact h _<|List.getElem_mem a
def jeS(j:X.calm=true):vJ X (.builtin "all") (λxs H Q=>∃(p:Addr) (bs:List Bool),xs=[.ref p]/\SqL X.K H p (bs.map V.bl)/\Q (.bl<|bs.all λb=>b) H):=by
 intro d s σ H xs v Q I r h;obtain⟨p,bs,rfl,k,q⟩:=h;obtain⟨u,rfl,l⟩:=r.one;cases l;obtain⟨a,f,pl,w⟩:=I.list k;have c:p < ↥s:=by
  obtain⟨o,n,e,_⟩:=pl;exact N1 e
 have g:=f.length;rw[L1] at g;refine call_all_walk<|wpAny_pyIter_list pl.isList ⟨↥s,_,_,_,_,_,λi=>bs.getD i false,rfl,Walks.list (by exact I.ok.hd j) ↥s p (N6 c) a.toArray,⟨⟨_,X8 _ rfl,rfl,rfl⟩,?_⟩,zN f,λx y m=>?_⟩
 ·obtain⟨o,e,r⟩:=pl.isList;exact⟨o,L8 _ e,r⟩
 ·rw[N3,<- g,jaX];refine⟨.bl<|bs.all λb=>b,H,I.kept λb o e=>m b o ?_<|L8 _ e,rfl,q⟩;intro t;have:b=↥s:=by simpa using t
  exact absurd (N1 e) ∅
def SqX(K:W4)(H:Hp)(a:Addr)(xs:List V):Prop:=
 Rd H a (.lst xs) \/ ∃ its n,K.lookup a=some {cls:=.type "list",data:=.seq its n}/\its.size<=sizeLine/\Vals xs its.toList
def SqX.sq{K}{H}{a}{xs}(h:SqX K H a xs):SqL K H a xs:=by
 rcases h with h | ⟨b,n,c,d,r⟩
 ·exact .inl h
 ·exact .inr ⟨_,b,n,c,rfl,rfl,rfl,d,r⟩
def SqX.of{K}{H}{a}{xs}(h:H a=some (.lst xs)):SqX K H a xs:=.inl<|.inl h
def Inv.listX(I:Inv X pins σ H s)(h:SqX X.K H a xs):Ex2 λits n=>An3 (Vals xs its) (s.heap.get? a=some {cls:=.type "list",data:=.seq its.toArray n}) (xs.length<=sizeLine):=by
 rcases h with h | ⟨its,n,b,c,r⟩
 ·obtain⟨z,its,n,r,e⟩:=h.ok I.hok;exact⟨its,n,r,e,z⟩
 ·refine⟨its.toList,n,r,by simpa using I.kIn a _ b,?_⟩;have e:=r.length;simp only[Array.length_toList] at e
  lia
def jll(K:W4):R2:=λx y H Q=>∃ l b xs zs,x=.ref l/\y=.ref b/\SqX K H l xs/\SqX K H b zs/\xs.length+zs.length<=sizeLine/\∀ p,H p=none->Q (.ref p) (upd H p<|.lst<|xs++zs)
def jg8:OpR X (binaryOp .Add) (jll X.K):=by
 intro d s σ H x y v u Q I f g h;obtain⟨l,b,o,zs,rfl,rfl,i,j,p,q⟩:=h;cases f;cases g;obtain⟨c,n,r,e,_⟩:=I.listX i;obtain⟨a,t,r2,e2,_⟩:=I.listX j;have w:=r.length;have k:=r2.length;refine PySem.P.add_list e e2 ?_ (by rw[N3,N3];lia);have m:c.toArray++a.toArray=(c++a).toArray:=by simp
 rw[m];exact⟨.ref _,_,I.lnew (r.append r2)<|by rw[N4];lia,rfl,q _ I.fresh⟩
def zV{ns:List Int}(h:PySem.W.WData.layableAll [PySem.W.WData.list<|ns.map PySem.W.WData.int]=true):∀ x∈ns,Builtin.Int.intBits x<=2 ^ 20:=by
 intro x c;have e:PySem.W.ofPy (.list<|ns.map .int)=PySem.W.WData.list (ns.map PySem.W.WData.int):=by
  have f:∀ a:List Int,PySem.W.ofPys (a.map PyData.int)=a.map PySem.W.WData.int:=by
   intro a
   induction a with
   | nil=>rfl
   | cons m a g=>simp[PySem.W.ofPys,PySem.W.ofPy,g]
  simp[PySem.W.ofPy,f]
 have b:=PySem.W.lay0_ofPy (s:=.list .int) (d:=.list<|ns.map .int) rfl (by simp[Shape.has]) (by rw[e];exact((PySem.W.layW_cons h).1));have i:PyData.layable0 (.list<|ns.map .int)=true:=by
  simp[PyData.layableAll0] at b;exact b
 exact PyData.bits_item_of_ints i c
def walk_ofB{l:PySem.W.OpenLaw}{n k}{j}{Q}{L}{d}{K:Params->PySem.W.Frag}{CX:World->CXT}{sp:World->Sp} 
  (R:l.most=some n) (z:n<=sizeLine) (A:d.params.defaults=[]) (S:Room k callerA)
  (U:∀ w h,L w h->(K w.params).In h)
  (F:∀ w mg fa h,(K w.params).In h->h.Ns mainGlobals mg->mg d.name=some (.ref fa) ->
   ∃ fd:FuncData,(∀ s u,BindsTo s fd ⟨[u],[]⟩ [(x,u)]) /\
    ∀ base:Heap,(K w.params).In base->base.Ns mainGlobals mg->FnOk l.prog w (K w.params) mg base (CX w) k fa fd [x] (sp w))
  (B:∀ w H a (ns:List Int),ns.length<=n->(∀ x∈ns,Builtin.Int.intBits x<=2 ^ 20)->jns H->SqX (K w.params) H a (ns.map V.int)->sp w [.ref a] H (λv _=>v=.bl true) λ_ _ _=>False)
  (C:∀ w H s e s',CX w [] H s (λ_ _ _=>False) e s'->False):
  PySem.W.WalkO q j Q L l.row.toRowW d [] (λf vs=>PySem.call f vs):=by
 intro w s₀ X mg mb G Y fa o pm cd Z dV kV ho hd hcd M D hg N O as t y hrd E hlo;obtain rfl:dV=.none:=PySem.W.Dflts.none M A;obtain rfl:kV=.none:=PySem.W.Dflts.noKw M;obtain⟨a,vs,ns,rfl,rfl,c,p,i⟩:=Att.script_of R t E;have I:=U w _ Y;obtain⟨fd,hb,hF⟩:=F w mg fa _ I G.T.g D;refine PySem.W.enter_call<|codeAny_mono (jfP I G.T.g G.T.b G.T.builtins G.T.nolimit hg c p (N7 i z) S hF hb (λH hO hS=>B w H a ns i (zV y) hO ?_) λH e s'=>C w H X e s') λr s' hq=>?_
 ·rcases hS with h | ⟨o,its,m,P,_,_,J,hz,r⟩
  ·exact .inl h
  ·have e:=I a o P;rw[c] at e;cases e;cases J;exact .inr ⟨_,_,P,hz,r⟩
 ·obtain⟨rfl,h2,h3,h4⟩:=hq;exact⟨.inl ⟨.bool true,.bool true,[],rfl,λ_=>rfl,.bool true,Att.post_true l _,λ_=>⟨List.Pairwise.nil,λ_ hm=>(nomatch hm)⟩⟩,h2,h3,h4⟩
noncomputable def JG(sc:Scope)(N:List Str)(scope:Scope)(N':List Str)(ix:List<|Option Nat):Bool:=
 decide (scope.kind=.function)&&decide (sc.kind=.function)&&scope.names.all (λy=>!decide (y.2=.cell)||decide (scope.names.lookup y.1=some .cell))&&scope.names.all (λy=>!decide (y.2=.local)||decide (scope.names.lookup y.1=some .local)) &&
 scope.names.all (λy=>!decide (y.2=.free)||(decide (scope.names.lookup y.1=some .free)&&(decide (sc.names.lookup y.1=some .cell)||decide (sc.names.lookup y.1=some .free))))&&decide N'.Nodup&&decide (ix.length=N'.length) &&
 (List.range ix.length).all (λi=>match ix[i]? with | some (some j)=>(match N'[i]? with | some x=>decide (N[j]?=some x)&&decide ((x,NameKind.free)∈scope.names) | none=>true) | _=>true)
def jcL{X}{scope}{N'}{ix}(sc)(N)(h1:X.env.scope=sc)(h2:X.N=N)(h:JG sc N scope N' ix=true):BlockOk X scope N' ix:=by
 subst h1;subst h2;unfold JG at h;simp only[M0,decide_eq_true_eq,List.all_eq_true,Bool.or_eq_true,Bool.not_eq_true',decide_eq_false_iff_not] at h;obtain⟨⟨⟨⟨⟨⟨⟨c,d⟩,f⟩,g⟩,b⟩,k⟩,l⟩,m⟩:=h;refine⟨c,λy a e=>((g y a).elim (absurd e) id),λy a e=>((f y a).elim (absurd e) id),λy a e=>((b y a).elim (absurd e) λz=>z.1),λy a e=>((b y a).elim (absurd e) λz=>z.2),k,l,λi j x h1 h2=>?_,d⟩
 ·have hi:=(L9.mp h1).1;have z:=m i<|List.mem_range.mpr hi;rw[h1,h2] at z;simp only[M0,decide_eq_true_eq] at z;exact z
structure FnFact(K:W4)(mg:W6)(x qual:Str)(st:Stmt)(f:Addr)(fd:FuncData)(ps:List Str):Prop where
 fn:Fun K x qual st f fd
 mgf:mg x=some (.ref f)
 bd:Binds K fd ps []
section
variable {X:Cx}{k:Nat}{f:Addr}{fd:FuncData}{ps:List Str}{sp:Sp}{x qual:Str}{st:Stmt}{p pos:Pos}{e:Expr}{es:List Expr}{t:TA}
def jlh(F:FnFact X.K X.mg x qual st f fd ps)(G:FnOk X.prog X.w X.K X.mg X.base CX0 k f fd ps sp)(c:Room k X.A)(d:PA X (e::es) t)(g:Gl X x:=by rfl)(a:Nd x:=by decide)
  (h:SEq X e es:=by rfl) (b:BkE X pos es:=by rfl):PE X (.Call (.Name x p) (e::es) [] pos) (zY sp [] E0 t):=
 jhE G c g F.mgf F.fn.kp F.bd .nil jfs d a h b
end
def ji8:OpR X (binaryOp .Mult) (λx y H Q=>∃ a n,x=.str (S a)/\y=.int n/\a.length<=1000/\0<=n/\n<=1000/\Q (.str<|S (List.replicate n.toNat a).flatten) H):=by
 intro f s σ H x y v u Q I g i h;obtain⟨a,n,rfl,rfl,j,w,l,q⟩:=h;obtain⟨k,rfl⟩:∃ k:Nat,n=k:=⟨n.toNat,by lia⟩;have m:k<=1000:=by lia
 obtain⟨t,rfl⟩:=g;obtain⟨o,rfl⟩:=i;have hok:MulOk (S a) k:=by
  refine⟨by simp;lia,λd c=>?_,λd c=>?_⟩
  ·rw[Y1];have A:1000<=(2 ^ 63-1)/(k:Int):=by
    rw[Int.le_ediv_iff_mul_le ∅]
    lia
   lia
  ·rw[Y1,N8];have B:a.length*k<=sizeLine:=N7 (Nat.mul_le_mul j m) (by decide);exact X2 ∅
 have e:Txt.mul (S a) k=S (List.replicate k a).flatten:=by
  have p:∀ n b,((List.replicate n a.toArray).foldl (·++·) b).toList=b.toList++(List.replicate n a).flatten:=by
   intro n
   induction n with
   | zero=>intro b;simp
   | succ n r=>intro b;rw[List.replicate_succ,X0,r];simp[List.replicate_succ]
  unfold Txt.mul;apply PyProof.Rows.ext_toList;rw[qU];by_cases d:(k:Int)<1
  ·have:k=0:=by lia
   subst this;simp[Str.empty]
  ·rw[if_neg d];by_cases c:((k:Int)==1||(S a).length==0)=true
   ·rw[if_pos c,qU];rw[Y1] at c;simp at c;rcases c with z | z
    ·have:k=1:=by lia
     subst this;simp
    ·subst z;simp
   ·rw[if_neg c,N8];exact(p k #[])
 refine SB.mul hok λo C=>?_;rw[e];exact⟨.str _,H,I.tok _,⟨_,rfl⟩,q⟩
section
variable {X:Cx}{pins:List (Addr×Obj)}{σ:St}{H:Hp}{s:Shared}{h':Heap}
def Inv.turnedNew{t'}{g:W5}{T:Addr}{xs}{its}(I:Inv X pins σ H s)(k:∀ b o,b∉g->s.heap.get? b=some o->h'.get? b=some o)(h:∀ b∈g,uh X pins H b)
  (i:↥s<=T) (l:IsTupN h' T its) (p:Vals xs its.toList) (t:xs.length<=sizeLine):Inv X pins σ (upd H T<|.tup xs) {s with heap:=h',toks:=t'}:=by
 have j:∀ b u,H b=some u->b∉g:=λb u e z=>by rw[(h b z).1] at e;cases e
 have d:∀ b u,H b=some u->b≠T:=λb u e z=>by rw[z,I.hok.fresh i] at e;cases e
 refine I.step (λb f=>?_) (λb o _ _ a e _=>k b o a e) (λb o _ _ a e _=>⟨o.slots,k b o a e⟩) (λb o _ e n=>?_)
  (λb o a e=>⟨o,k b o a e⟩) (λb w e=>by rw[jd<|d b _ e];exact e) (λb o u e=>by rw[jd<|d b _ e];exact e) (λb G e=>⟨#[],by rw[jd<|d b _ e,e];simp⟩) (λm x=>?_) (λb u e=>?_) I.bare
 ·obtain⟨_,y,_,A,B,C⟩:=h b f;exact⟨A,y,B,C⟩
 ·rw[jd<|λz=>absurd (N1 e)<|by rw[z];exact Nat.not_lt.mpr i];exact n
 ·obtain⟨o,D,E,F,r⟩:=x;refine⟨o,D,E,k _ o (λz=>(h _ z).2.1 rfl) F,r⟩
 ·by_cases f:b=T
  ·subst f;rw[jk] at e;cases e;exact⟨t,its.toList,p,by simpa using l⟩
  ·rw[jd f] at e;refine(I.hok b u e).stay (λc v a q=>k c v ?_ q) (λc q=>by rw[jd<|d c _ q];exact q) λc w q=>by rw[jd<|d c _ q];exact q
   rcases a with z | z
   ·rw[z];exact j b u e
   ·exact j c _ z
def Inv.turnedL{t'}{d:W5}(I:Inv X pins σ H s)(k:∀ b o,b∉d->s.heap.get? b=some o->h'.get? b=some o)(f:∀ b∈d,uh X pins H b):Inv X pins σ H {s with heap:=h',toks:=t'}:=by
 have g:∀ b u,H b=some u->b∉d:=λb u e z=>by rw[(f b z).1] at e;cases e
 refine I.step (λb h=>?_) (λb o _ _ a e _=>k b o a e) (λb o _ _ a e _=>⟨o.slots,k b o a e⟩) (λb o _ e n=>n)
  (λb o a e=>⟨o,k b o a e⟩) (λb A e=>e) (λb o u e=>e) (λb B e=>⟨#[],by rw[e];simp⟩) (λm i=>?_) (λb u e=>?_) I.bare
 ·obtain⟨_,j,_,l,p,t⟩:=f b h;exact⟨l,j,p,t⟩
 ·obtain⟨o,w,x,y,r⟩:=i;refine⟨o,w,x,k _ o (λz=>(f _ z).2.1 rfl) y,r⟩
 ·refine(I.hok b u e).stay (λc v a q=>k c v ?_ q) (λ_ q=>q) λ_ _ q=>q;rcases a with z | z
  ·rw[z];exact g b u e
  ·exact g c _ z
end
def jiu{A}{E}{s:Shared}{i}{n}{us}{C:J0}
  (h:IsEnum s.heap e it n was) (hi:s.heap.IsListIter it l i) (I:s.heap.IsList l us) (J:us[i]?=some x) (ne:e≠it)
  (go:∀ k,IsEnumOut k e it (n+1) x ↥s->k.IsListIter it l (i+1)->k.get? ↥s=some {cls:=.type "tuple",data:=.seq #[.int n s.toks,x]} ->
   (∀ b o,b≠e->b≠it->s.heap.get? b=some o->k.get? b=some o)->C (.ref ↥s) {s with heap:=k,toks:=s.toks+1}):
  wpAny (model prog w) A (Builtin.«enumerate.__next__» ⟨[.ref e],[]⟩) (λfin s'=>∃ v,fin=.done (.ret v)/\C v s') E s:=by
 obtain⟨j,g,d,c,os⟩:=s;show wpAny _ _ (field (.ref e) 2 >>= _) _ _ _;refine L3<|U6 h rfl rfl<|L3<|wpAny_nextOf_list_item hi I J λQ K m=>?_;have p:=(m.2 e ne).trans h;refine L3<|U6 p rfl rfl<|L3<|U6 p rfl rfl<|L3<|wpAny_mkInt<|L3<|wpAny_setField_rec p (by simp) λR e2 q=>(L3<|wpAny_setField_rec e2 (by simp) λt e3 u=>(L3<|wpAny_newTuple ?_));have f:IsEnum (t.push {cls:=.type "tuple",data:=.seq #[.int n c,x]}) e it (n+1) was:=L8 _ e3;generalize y:t.push {cls:=.type "tuple",data:=.seq #[.int n c,x]}=k4 at f;have H:t.objs.size=j.objs.size:=by rw[u.1,q.1,m.1]
 have lt:=N1 h;have L:k4.get? j.objs.size=some {cls:=.type "tuple",data:=.seq #[.int n c,x]}:=by rw[<- y,<- H];exact X8 _ rfl
 have kp:∀ b o,b≠e->b≠it->j.get? b=some o->k4.get? b=some o:=λb o a z B=>by
  rw[<- y];exact L8 _<|u.extBut b o a<|q.extBut b o a<|m.extBut b o z B
 have M:k4.IsListIter it l (i+1):=by
  rw[<- y];obtain⟨o,N,r⟩:=(K.extBut q.extBut ne.symm).extBut u.extBut ne.symm;exact⟨o,L8 _ N,r⟩
 show wpAny _ _ (Builtin.SmallTypes.ownedTupleIsFree (.ref e) >>= _) _ _ ⟨k4,g,d,c+1,os⟩;rw[H];refine L3<|L3<|U6 f rfl rfl<|M6<|L3<|wpAny_rule<|L3<|U6 f rfl rfl<|L3<|wpAny_setField_rec f (by simp) λS e5 D=>(L3<|L3<|wpAny_setField_rec e5 (by simp) λT O F=>(wpAny_setField_rec O (by simp) λP e7 G=>(L3<|wpAny_letGo<|M6 ⟨_,rfl,go P e7 (((M.extBut D.extBut ne.symm).extBut F.extBut ne.symm).extBut G.extBut ne.symm) (G.extBut _ _ (Nat.ne_of_gt lt)<|F.extBut _ _ (Nat.ne_of_gt lt)<|D.extBut _ _ (Nat.ne_of_gt lt) L)<|λb o a z B=>G.extBut b o a<|F.extBut b o a<|D.extBut b o a<|kp b o a z B⟩)))
def jjp 
  (a:IsEnum s.heap e it n was) (hi:s.heap.IsListIter it l i) (c:s.heap.IsList l us) (d:us[i]?=some x) (ne:e≠it)
  (go:∀ k,IsEnumOut k e it (n+1) x ↥s->k.IsListIter it l (i+1)->k.get? ↥s=some {cls:=.type "tuple",data:=.seq #[.int n s.toks,x]} ->
   (∀ b o,b≠e->b≠it->s.heap.get? b=some o->k.get? b=some o)->C (some<|.ref ↥s) {s with heap:=k,toks:=s.toks+1}):wpAny (model prog w) A (pyNext<|.ref e) C E s:=by
 have ty:s.TypeIs (.ref e) "enumerate":=⟨_,a,rfl⟩;exact L3<|wpAny_attempt<|wpAny_callSpecial?_slot ty F.slot_enumerate_next<|wpAny_call_entry F.slot_enumerate_next ty F.entry_enumerate_next (jiu a hi c d ne λk c1 f g h=>M6<|go k c1 f g h)<|F.args_enumerate_next_1 _
def jit(d:A.handled=none)
  (c:IsEnum s.heap e it n was) (hi:s.heap.IsListIter it l i) (f:s.heap.IsList l us) (a:us[i]?=none)
  (go:∀ k,Heap.ExtBut it s.heap k->C none {s with heap:=k}):wpAny (model prog w) A (pyNext<|.ref e) C E s:=by
 have ty:s.TypeIs (.ref e) "enumerate":=⟨_,c,rfl⟩;refine L3<|wpAny_attempt<|wpAny_callSpecial?_slot ty F.slot_enumerate_next<|wpAny_call_entry F.slot_enumerate_next ty F.entry_enumerate_next ?_<|F.args_enumerate_next_1 _;show wpAny _ _ (field (.ref e) 2 >>= _) _ _ _;refine L3<|U6 c rfl rfl<|L3<|wpAny_nextOf_list_end d hi f a λk x b a=>?_;obtain⟨o,g,h⟩:=a;exact L3<|wpAny_isInstance ⟨o,g,h⟩ isSubtype_stop<|M6<|go _ b
def Itn(K:W4)(l:Addr)(n:Int):It:=
 ⟨λi H=>∃ xs x,SqL K H l xs/\xs[i]?=some x,λi H x H'=>∃ p v,(∀ xs,SqL K H l xs->xs[i]?=some v)/\x=.ref p/\H p=none/\H'=upd H p (.tup [.int<|n+i,v]),λi H=>∃ xs,SqL K H l xs/\xs.length<=i⟩
def jbG{P}{w}{K}{elts}{m}{pos}(e a l)(n)(t:e≠a)(Y:l≠e)(Z:l≠a):
  Turn P w K (.Tuple elts m pos) (Itn K l n) [e,a] e (λi h=>(∃ old,IsEnum h e a (n+i) old)/\h.IsListIter a l i) where
 mem:=by simp
 obj:=λi h c b d=>by
  obtain⟨⟨old,f⟩,o,F,G,hd⟩:=c;rcases(⇑d:b=e\/b=a) with z | z
  ·subst z;exact⟨_,f,λv q=>by cases q⟩
  ·subst z;exact⟨o,F,λv q=>by rw[hd] at q;cases q⟩
 keep:=λi h h' c k=>by
  obtain⟨⟨old,f⟩,hit⟩:=c;exact⟨⟨old,k e (by simp) _ f⟩,hit.at<|k a<|by simp⟩
 item:=by
  intro X J L M G i y s σ H E I C c N;subst J L M;obtain⟨V,x,D,O⟩:=N;obtain⟨Q,R,p,hz⟩:=I.list D;obtain⟨u,hu,ru⟩:=R.get O;obtain⟨⟨old,f⟩,hit⟩:=c;refine jjp f hit p.isList ⇑hu t λh1 F A hT hk=>⟨_,rfl,wpAny_letOwnedTupleGo_enum F λW S j=>?_⟩;have g:=N1 f;have B:=(j.2 _<|Nat.ne_of_gt g).trans hT;have kk:∀ b o,b∉[e,a]->s.heap.get? b=some o->W.get? b=some o:=λb o d q=>by
   have r:b≠e/\b≠a:=by simpa using d
   exact(j.2 b r.1).trans (hk b o r.1 r.2 q)
  have I1:=I.turnedNew (t':=s.toks+1) (xs:=[.int<|n+i,x]) kk C (M8 _) ⟨⟨_,B,rfl,_,rfl⟩,_,B,rfl⟩ (.cons ⟨_,rfl⟩<|.cons ru .nil) (by show 2<=sizeLine;decide);have T:IsEnum W e a (n+((i+1:Nat):Int)) u:=by
   have q:=S;rw[show n+((i+1:Nat):Int)=n+i+1 by lia];exact q
  refine⟨.ref ↥s,_,I1,rfl,⟨_,x,(λys hy=>by rw[I.list_inj hy D];exact O),rfl,I.hok.fresh<|M8 _,rfl⟩,⟨⟨_,T⟩,A.at λo q=>(j.2 a t.symm).trans q⟩,λb d=>?_⟩;rw[jd]
  ·exact(C b d).1
  ·intro z;have:b < ↥s:=by
    obtain⟨oi,U,_⟩:=id hit;rcases(⇑d:b=e\/b=a) with q | q
    ·rw[q];exact g
    ·rw[q];exact N1 U
   exact absurd this (by rw[z];exact Nat.lt_irrefl _)
 done:=by
  intro X J L M G i y s σ H E I C c N;subst J L M;obtain⟨V,D,O⟩:=N;obtain⟨Q,R,p,hz⟩:=I.list D;obtain⟨⟨old,f⟩,hit⟩:=c;have hl:=R.length;exact jit (I.ok.hd G) f hit p.isList (by simp;lia) λh1 eb=>⟨rfl,I.turnedL (λb o d q=>eb b o (by simp at d;exact d.2) q) C⟩
 self:=λ_ _ _ _ _ c h=>wpAny_pyIter_enum c.1.choose_spec h
def jib(K:W4)(tl:TA):TI:=λσ H R=>tl σ H λvs H1=>∃ a xs,vs=[.ref a]/\SqL K H1 a xs/\R (Itn K a 0) H1
section
variable {X:Cx}
def jji{elts}{n}{tpos p pos}{a}{ta}(k:Gl X "enumerate")(m:X.mg "enumerate" = none)(r:PA X [a] ta)(t:starEach [a] X.env=[(false,eval a X.env)]:=by rfl):
  PI X (.Tuple elts n tpos) (.Call (.Name "enumerate" p) [a] [] pos) (jib X.K ta):=by
 intro c s σ H R I h;refine Call_<|JQ I k m (show bootBuiltins "enumerate" = some (.type "enumerate") by decide +kernel)<|PyProof.Rows.callWith_type1 (thn (r pos c s σ H _ I h) λF s1 ⟨vs,i,g,r1,v⟩=>?_) t rfl;obtain⟨l,G,rfl,w,q⟩:=v;obtain⟨u,rfl,x⟩:=r1.one;cases x;obtain⟨y,J,pl,L⟩:=g.list w;have d:l < ↥s1:=by
  obtain⟨o,_,e,_⟩:=pl;exact N1 e
 refine call_enumerate_list pl.isList λA j hit B C=>?_;have D:Inv X c σ i {s1 with heap:=A}:=g.kept C;refine PySem.wpAny_pyIter_enum j ⟨↥s1+1,[↥s1+1,↥s1],_,_,i,rfl,D,jbG _ _ l 0 (Nat.succ_ne_self _) (N6<|Nat.lt_succ_of_lt d)<|N6 d,⟨⟨_,by simpa using j⟩,hit⟩,λb E=>?_,q⟩;have f:↥s1<=b:=by
  rcases(⇑E:b=↥s1+1\/b=↥s1) with z | z
  ·rw[z];exact Nat.le_succ _
  ·rw[z];exact M8 _
 exact g.fpOk f<|g.hok.fresh f
end
section
variable {X:Cx}
def jdn(c:X.calm=true):vJ X (.builtin "sum") (λxs H Q=>∃(p:Addr) (ns:List Int),xs=[.ref p]/\SqL X.K H p (ns.map V.int)/\Q (.int ns.sum) H):=by
 intro a s σ H xs k Q I r h;obtain⟨p,ns,rfl,d,q⟩:=h;obtain⟨u,rfl,e⟩:=r.one;cases e;obtain⟨f,g,pl,l⟩:=I.list d;have hi:=VC g;obtain⟨zs,b⟩:=hi.allInts.items;refine sum_intListG (I.ok.hd c) (b▸pl.isList) λm n o i=>?_;have j:ns=zs.toList.map (·.1):=by
  rw[<- nums_intItems,<- b];exact(hi.numsOf).symm
 have e2:preSum (numAt zs) zs.size=ns.sum:=by
  rw[preSum_eq,List.take_of_length_le<|by simp,j]
 rw[e2];exact⟨.int ns.sum,H,I.kept i,⟨_,rfl⟩,q⟩
inductive TyQ (K:W4) (H:Hp):V->String->Prop where
 | non:TyQ K H .non "NoneType"
 | bl (x:Bool):TyQ K H (.bl x) "bool"
 | int (i:Int):TyQ K H (.int i) "int"
 | str (x:Str):TyQ K H (.str x) "str"
 | lst {a:Addr}{xs:List V}(e:SqL K H a xs):TyQ K H (.ref a) "list"
 | tup {a:Addr}{xs:List V}(e:SqT K H a xs):TyQ K H (.ref a) "tuple"
 | dK {a:Addr}{kvs:List (Key×V)}(e:H a=some (.dK kvs)):TyQ K H (.ref a) "dict"
def Q2:vJ X (.builtin "isinstance") (λxs H Q=>∃ x T t b,xs=[x,.ty T]/\TyQ X.K H x t/\PySem.W.kitOne X.K (.type t) (.type T)=some b/\Q (.bl b) H):=by
 intro d s σ H xs w Q I r h;obtain⟨x,T,t,b,rfl,ty,e,q⟩:=h;obtain⟨u,v,rfl,r1,r2⟩:=r.two;cases r2;have c:∀ k,EP X d σ Q (.bool b) {s with toks:=k}:=λk=>⟨.bl b,H,I.tok k,rfl,q⟩;cases ty with
 | non=>cases(r1);exact PySem.W.kia_one PySem.W.kitx_none I.kIn True.intro e (λz=>nomatch z) c
 | bl y=>cases(r1);exact PySem.W.kia_one PySem.W.kitx_bool I.kIn True.intro e (λz=>nomatch z) c
 | int i=>obtain⟨t,q⟩:=(r1);cases q;exact PySem.W.kia_one PySem.W.kitx_int I.kIn True.intro e (λz=>nomatch z) c
 | str y=>obtain⟨t,q⟩:=(r1);cases q;exact PySem.W.kia_one PySem.W.kitx_str I.kIn True.intro e (λz=>nomatch z) c
 | @lst a xs f=>
  cases(r1);obtain⟨l,_,⟨o,n,g,j,_,_⟩,_⟩:=I.list f;exact PySem.W.kia_one PySem.W.kitx_list I.kIn ⟨o,g,j⟩ e (λz=>nomatch z) c
 | @tup a xs f=>
  cases(r1);obtain⟨l,_,⟨o,g,j,_⟩,_⟩:=I.tuple f;exact PySem.W.kia_one PySem.W.kitx_tuple I.kIn ⟨o,g,j⟩ e (λz=>nomatch z) c
 | @dK a m f=>
  cases(r1);obtain⟨_,_,vs,_,p⟩:=(I.hok a _ f);obtain⟨o,A,B,g,j,_⟩:=p;exact PySem.W.kia_one PySem.W.kitx_dict I.kIn ⟨o,g,j.1⟩ e (λz=>nomatch z) c
end
section
variable {κ:Type} [DecidableEq κ]
noncomputable def Vr(kvs:List<|κ×V)(k:κ):Option V:=(kvs.find? λkv=>decide<|kv.1=k).map (·.2)
noncomputable def Jl(kvs:List<|κ×V)(k:κ)(v:V):List (κ×V):=
 if(kvs.any λkv=>decide<|kv.1=k)=true then kvs.map (λkv=>if kv.1=k then(kv.1,v) else kv) else kvs++[(k,v)]
def Ju{p}{r:List (κ×V)}(e:p.1=k):Vr (p::r) k=some p.2:=by simp[Vr,List.find?_cons,e]
def JL{p}{r:List (κ×V)}(e:¬ p.1=k):Vr (p::r) k=Vr r k:=by simp[Vr,List.find?_cons,e]
theorem xT(k):∀ kvs:List (κ×V),(kvs.any λkv=>decide<|kv.1=k)=(Vr kvs k).isSome
 | []=>rfl
 | p::r=>by
  rw[List.any_cons];by_cases e:p.1=k
  ·simp only[Ju e,X1 e,Bool.true_or,Option.isSome_some]
  ·rw[JL e,X2 e,Bool.false_or];exact xT k r
def Jd(a)(k:κ)(v):(Jl a k v).length<=a.length+1:=by
 unfold Jl;split
 ·rw[L1];lia
 ·rw[N4,M1,List.length_nil];lia
def RelO.isSome_eq(r:RelO o u):o.isSome=u.isSome:=by
 cases o with
 | none=>cases u with
  | none=>rfl
  | some _=>exact(r).elim
 | some _=>cases u with
  | none=>exact(r).elim
  | some _=>rfl
def RelO.getD(r:RelO o u)(rd:RelV d d'):RelV (o.getD d) (u.getD d'):=by
 cases o with
 | none=>cases u with
  | none=>exact rd
  | some _=>exact(r).elim
 | some _=>cases u with
  | none=>exact(r).elim
  | some _=>exact r
def KV.val(r:KV kvs vs)(k:κ):RelO (Vr kvs k) (valueAt vs k):=by
 induction r with
 | nil=>exact True.intro
 | @cons p q i a h t f=>
  obtain⟨d,g⟩:=h;by_cases e:p.1=k
  ·have c:=d.symm.trans e;have b:valueAt (q::a) k=some q.2:=by simp[valueAt,List.find?_cons,c]
   rw[Ju e,b];exact g
  ·have c:¬ q.1=k:=λz=>e<|d.trans z;have b:valueAt (q::a) k=valueAt a k:=by simp[valueAt,List.find?_cons,c]
   rw[JL e,b];exact f
def KV.any(r:KV kvs vs)(k:κ):(kvs.any λkv=>decide<|kv.1=k)=vs.any λkv=>decide (kv.1=k):=by
 induction r with
 | nil=>rfl
 | cons h t a=>rw[List.any_cons,List.any_cons,a,h.1]
def KV.repl(r:KV kvs vs)(k:κ)  (b:RelV y u):
  KV (kvs.map λkv=>if kv.1=k then(kv.1,y) else kv) (vs.map λkv=>if kv.1=k then(kv.1,u) else kv):=by
 induction r with
 | nil=>exact .nil
 | @cons p q f g h t c=>
  rw[L5,L5];refine .cons ?_ c;obtain⟨a,d⟩:=h;by_cases e:p.1=k
  ·rw[if_pos e,if_pos<|a.symm.trans e];exact⟨a,b⟩
  ·rw[if_neg e,if_neg<|λz=>e<|a.trans z];exact⟨a,d⟩
def KV.put(r:KV kvs vs)(k:κ)  (a:RelV y u):KV (Jl kvs k y) (stored vs k u):=by
 unfold Jl stored;rw[r.any k];by_cases e:(vs.any λb=>decide<|b.1=k)=true
 ·rw[if_pos e,if_pos e];exact r.repl k a
 ·rw[if_neg e,if_neg e];exact Paired.snoc r ⟨rfl,a⟩
def KV.length(r:KV kvs vs):kvs.length=vs.length:=Paired.length r
end
def jdE(r:RelV (kV k) u):(jO P w).is k u=true:=by
 cases k with
 | inl i=>obtain⟨t,e⟩:=(r);subst e;exact xa P w i t
 | inr x=>obtain⟨t,e⟩:=(r);subst e;exact zZ P w x t
theorem Qp:∀{ks}{us},Vals (ks.map kV) us->ItemsAre (jO P w) ks us
 | [],_,r=>by rw[List.map_nil] at r;cases r;exact .nil
 | k::ks,_,r=>by
  cases r with
  | cons h t=>exact .cons (jdE h)<|Qp t
abbrev KT(H:Hp):List (List Key×V)->List (List Key×Addr×Value)->Prop:=Paired λp q=>p.1=q.1/\H q.2.1=some (.tup<|p.1.map kV)/\RelV p.2 q.2.2
def KT.val(r:KT H kvs xs)(k):RelO (Vr kvs k) ((atKey xs k).map (·.2)):=by
 induction r with
 | nil=>exact True.intro
 | @cons p q i a h t f=>
  obtain⟨d,_,g⟩:=h;by_cases e:p.1=k
  ·have c:=d.symm.trans e;have b:atKey (q::a) k=some q.2:=by simp[atKey,List.find?_cons,c]
   rw[Ju e,b];exact g
  ·have c:¬ q.1=k:=λz=>e<|d.trans z;have b:atKey (q::a) k=atKey a k:=by simp[atKey,List.find?_cons,c]
   rw[JL e,b];exact f
def KT.repl(r:KT H kvs xs)(k)  (c:RelV y u):
  KT H (kvs.map λkv=>if kv.1=k then(kv.1,y) else kv) (xs.map<|putAt k u):=by
 induction r with
 | nil=>exact .nil
 | @cons p q g i h t d=>
  rw[L5,L5];refine .cons ?_ d;obtain⟨a,b,f⟩:=h;unfold putAt;by_cases e:p.1=k
  ·rw[if_pos e,if_pos<|a.symm.trans e];exact⟨a,b,c⟩
  ·rw[if_neg e,if_neg<|λz=>e<|a.trans z];exact⟨a,b,f⟩
def KT.put(r:KT H kvs xs)(k)  (c:H b=some (.tup<|k.map kV)) (a:RelV y u):
  KT H (Jl kvs k y) (storedH xs k b u):=by
 have e:(kvs.any λd=>decide<|d.1=k)=(atKey xs k).isSome:=by
  rw[xT,(r.val k).isSome_eq,Option.isSome_map]
 unfold Jl storedH;rw[e];by_cases q:(atKey xs k).isSome=true
 ·rw[if_pos q,if_pos q];exact r.repl k a
 ·rw[if_neg q,if_neg q];exact Paired.snoc r ⟨rfl,c,a⟩
def KT.keeps(r:KT H kvs xs)(a:∀ b ys,H b=some (.tup ys)->H' b=some (.tup ys)):KT H' kvs xs:=
 Paired.mapP r λ_ _ z=>⟨z.1,a _ _ z.2.1,z.2.2⟩
def jme(ok:HOk P w H h)(e:Rd H a u):ObjOk P w H h a u:=e.ok ok
def zm(ok:HOk P w H h)(e:Rd H a<|.dK kvs):kvs.length<=sizeLine/\(a==sysModules)=false/\∃ vs,KV kvs vs/\h.DictOf (jO P w) a vs:=
 jme ok e
def jmA(ok:HOk P w H h)(e:H a=some (.dK kvs)):kvs.length<=sizeLine/\(a==sysModules)=false/\∃ vs,KV kvs vs/\h.DictOf (jO P w) a vs:=zm ok<|.inl e
def QA(ok:HOk P w H h)(e:H a=some (.tup<|ks.map kV)):(tupleKind<|jO P w).is h ks a:=by
 obtain⟨_,b,r,⟨o,c,d,n,f⟩,_⟩:=(ok a _ e);exact⟨o,b.toArray,n,c,d,f,by simpa using Qp r⟩
def jap(ok:HOk P w H h)(e:Rd H a<|.dT kvs):kvs.length<=sizeLine/\(a==sysModules)=false /\
  ∃ xs,KT H kvs xs/\h.DictOfH (tupleKind<|jO P w) a xs:=by
 obtain⟨z,y,xs,r,o,d,f,g,i,j,k,n⟩:=(jme ok e);refine⟨z,y,xs,r,o,d,f,g,i,j,k,λx b=>?_,n⟩;have all:∀{l}{m},KT H l m->∀ x∈m,(tupleKind<|jO P w).is h x.1 x.2.1:=by
  intro l m q
  induction q with
  | nil=>intro x b;exact nomatch b
  | @cons p q u v c t s=>
   intro x b;rcases M4.mp b with e | b
   ·subst e;exact QA ok (by rw[<- c.1];exact c.2.1)
   ·exact s x b
 exact all r x b
def jkp(ok:HOk P w H h)(e:H a=some (.dT kvs)):kvs.length<=sizeLine/\(a==sysModules)=false /\
  ∃ xs,KT H kvs xs/\h.DictOfH (tupleKind<|jO P w) a xs:=jap ok<|.inl e
def DGet(H:Hp)(a:Addr)(y:V)(r:Option V):Prop:=
 (∃ kvs k,Rd H a (.dK kvs)/\y=kV k/\r=Vr kvs k) \/ ∃ kvs k b,Rd H a (.dT kvs)/\y=.ref b/\H b=some (.tup<|k.map kV)/\r=Vr kvs k
def DPut(H:Hp)(a:Addr)(y v:V)(H':Hp):Prop:=
 (∃ kvs k,H a=some (.dK kvs)/\y=kV k/\kvs.length<sizeLine/\H'=upd H a (.dK<|Jl kvs k v)) \/
 ∃ kvs k b,H a=some (.dT kvs)/\y=.ref b/\H b=some (.tup<|k.map kV)/\kvs.length<sizeLine/\H'=upd H a (.dT<|Jl kvs k v)
theorem DGet.k{H}{a}{b}{k}(e:H a=some (.dK b)):DGet H a (kV k) (Vr b k):=.inl ⟨b,k,.inl e,rfl,rfl⟩
def DGet.t{c}{k}(e:H a=some (.dT c))(d:H b=some (.tup<|k.map kV)):DGet H a (.ref b) (Vr c k):=.inr ⟨c,k,b,.inl e,rfl,d,rfl⟩
theorem DPut.k{H}{a}{b}{k}{v}(e:H a=some (.dK b))(c:b.length<sizeLine):DPut H a (kV k) v (upd H a<|.dK<|Jl b k v):=.inl ⟨b,k,e,rfl,c,rfl⟩
def DPut.t{c}{k}(e:H a=some (.dT c))(d:H b=some (.tup<|k.map kV))(f:c.length<sizeLine):
  DPut H a (.ref b) v (upd H a<|.dT<|Jl c k v):=.inr ⟨c,k,b,e,rfl,d,f,rfl⟩
def Inv.big(I:Inv X pins σ H s):sysModules < ↥s:=by
 have h:=(I.mod.glob.keeps I.bk).lt;exact Nat.lt_trans (by decide) h
def Q6(q:A.units+1<cLine)(I:Inv X pins σ H s)(g:DGet H a y<|some v)(o:RelV y u)(h:∀ w' s',Inv X pins σ H s'->RelV v w'->Q w' s'):
  wpAny (model X.prog X.w) A (getItem (.ref a) u) Q E s:=by
 rcases g with⟨f,k,e,i,l⟩ | ⟨f,k,b,e,i,r,l⟩
 ·subst i;obtain⟨z,hd,vs,c,j⟩:=zm I.hok e;obtain⟨w',m,d⟩:=RelO.some_of (by rw[l];exact c.val k);exact wpAny_getItem_of (jdE o) j.mapOf m<|h w' _ (I.tok _) d
 ·subst i;cases(o);obtain⟨z,hd,x,c,j⟩:=jap I.hok e;obtain⟨w',m,d⟩:=RelO.some_of (by rw[l];exact c.val k);obtain⟨p,t,n⟩:=Option.map_eq_some_iff.mp m;refine wpAny_getItem_heap (tupleKind_room_in1 q) (QA I.hok r) j t ?_;rw[n];exact h w' _ (I.tok _) d
def jiI(m:A.units+1<cLine)(I:Inv X pins σ H s)(g:DGet H a y o)(j:RelV y u)(h:∀ s',Inv X pins σ H s'->Q (.bool<|!o.isSome) s'):
  wpAny (model X.prog X.w) A (compareOp .NotIn u<|.ref a) Q E s:=by
 rcases g with⟨d,k,e,f,l⟩ | ⟨d,k,b,e,f,n,l⟩
 ·subst f;obtain⟨z,hd,vs,c,i⟩:=zm I.hok e;refine wpAny_notIn_of (jdE j) hd i.mapOf ?_;rw[<- (c.val k).isSome_eq,<- l];exact h _<|I.tok _
 ·subst f;cases(j);obtain⟨z,hd,p,c,i⟩:=jap I.hok e;refine wpAny_notIn_heap (tupleKind_room_in1 m) (QA I.hok n) hd i ?_;have q:=(c.val k).isSome_eq;rw[Option.isSome_map] at q;rw[<- q,<- l];exact h _<|I.tok _
def xB(I:Inv X pins σ H s)(c:Mut<|H a)(d:Heap.SameBut a s.heap h')(e:∃ q,h'.get? a=some q)(new:ObjOk X.prog X.w (upd H a ob) h' a ob):
  Inv X pins σ (upd H a ob) {s with heap:=h',toks:=t'}:=
 I.write c (.inl rfl) (λb q f z=>(d.2 b f).trans z) e new
def jmI(z:kvs.length<=sizeLine)(hd:(a==sysModules)=false)(b:KV kvs vs)(c:h'.DictOf (jO P w) a vs):
  ObjOk P w H' h' a (.dK kvs):=⟨z,hd,vs,b,c⟩
def jma{A:Around}(G:∀ kvs,H a=some (.dT kvs)->A.units+1<cLine)(I:Inv X pins σ H s)(g:DPut H a y v H')(x:RelV y u)(B:RelV v r)(h:∀ s',Inv X pins σ H' s'->Q () s'):
  wpAny (model X.prog X.w) A.in1 (dictSet a u r) Q E s:=by
 rcases g with⟨kvs,k,e,j,l,m⟩ | ⟨kvs,k,b,e,j,C,l,m⟩
 ·subst j m;obtain⟨z,hd,vs,d,n⟩:=jmA I.hok e;have o:vs.length<=sizeLine:=by rw[<- d.length];exact z
  have p:(Jl kvs k v).length<=sizeLine:=by have:=Jd kvs k v;lia
  refine wpAny_dictSet_pairs (hsz:=o) (jdE x) n λD f t=>h _ ?_;have J:∃ q,D.get? a=some q:=let ⟨q,_,_,i,_⟩:=f;⟨q,i⟩
  exact xB I (by rw[e];exact True.intro) t J<|jmI p hd (d.put k B) f
 ·subst j m;cases(x);obtain⟨z,hd,K,d,n⟩:=jkp I.hok e;have o:K.length<=sizeLine:=by rw[<- Paired.length d];exact z
  have p:(Jl kvs k v).length<=sizeLine:=by have:=Jd kvs k v;lia
  refine wpAny_dictSet_heap (hsz:=o) (tupleKind_room_in1<|G _ e) (QA I.hok C) n λD f t=>h _ ?_;obtain⟨q,L,M,i,N,O,P,_,R⟩:=f;refine xB I (by rw[e];exact True.intro) t ⟨q,i⟩ ⟨p,hd,_,(d.put k C B).keeps λc S F=>?_,q,L,M,i,N,O,P,R⟩;rw[jd<|joe F e<|λz=>nomatch z];exact F
def K8(c:A.units+1<cLine)(I:Inv X pins σ H s)(g:DPut H a y v H')(f:RelV y u)(i:RelV v r)(h:∀ s',Inv X pins σ H' s'->Q () s'):
  wpAny (model X.prog X.w) A (setItem (.ref a) u r) Q E s:=by
 have b:s.TypeIs (.ref a) "dict":=by
  rcases g with⟨_,_,e,_⟩ | ⟨_,_,_,e,_⟩
  ·obtain⟨_,_,_,_,d⟩:=jmA I.hok e;exact d.typeIs
  ·obtain⟨_,_,_,_,d⟩:=jkp I.hok e;exact d.typeIs
 unfold setItem;refine wpAny_holding<|L3<|wpAny_sequenceKey b (by decide) ?_;refine L3<|wpAny_callSpecial?_slot (name:=Str.ofString "__setitem__") b PySem.F.slot_dict_setitem<|wpAny_call_entry PySem.F.slot_dict_setitem b PySem.F.entry_dict_setitem ?_<|PySem.F.args_dict_setitem_3 _ _ _;refine L3<|wpAny_notOrdered_dict b ?_;show wpAny _ _ (dictSet a u r >>= _) _ _ s;exact L3<|jma (λ_ _=>c) I g f i λs1 J=>M6 ⟨.none,rfl,M6<|h s1 J⟩
def jnp(i:Expr):Prop:=∀ ov iv,subscripted i false ov iv=operate [ov,iv] (getItem ov iv)
def jhY{prog}{w}{A}{E}{s}{env}{value slice}{pos}{T id}{Q}
  (d:typeLookup (.type T) "__getitem__" = pure (some<|.builtin id)) (e:jnp slice)
  (h:wpAny (model prog w) A (eval value env) (λo s₁=>wpAny (model prog w) A (eval slice env) (λi s₂=>s₂.TypeIs o T/\wpAny (model prog w) A (getItem o i) Q E s₂) E s₁) E s):
  wpAny (model prog w) A (eval (.Subscript value slice pos) env) Q E s:=by
 refine Subscript_<|wpAny_mono h (λo s₁ f=>wpAny_mono f (λi s₂ b=>?_) λ_ _ x=>x) λ_ _ x=>x;obtain⟨g,b⟩:=b;refine L3 ?_;refine L3<|wpAny_specialOf g d ?_;have a:wpAny (model prog w) A (subscripted slice false o i) (λr c=>wpAny (model prog w) A (letTemporaryGo value o r >>= λ_=>pure r) Q E c) E s₂:=by
  rw[e o i];exact wpAny_operating<|wpAny_mono b (λr c j=>L3<|wpAny_letTemporaryGo<|M6 j) λ_ _ x=>x
 first
  | exact M6 (L3 a)
  | exact L3 (M6 (L3 a))
  | exact L3 a
def zF(I:Inv X pins σ H s)(g:DGet H a y o):s.TypeIs (.ref a) "dict":=by
 rcases g with⟨c,k,e,_,_⟩ | ⟨c,k,b,e,_,_,_⟩
 ·obtain⟨_,_,vs,_,d⟩:=zm I.hok e;exact d.typeIs
 ·obtain⟨_,_,f,_,d⟩:=jap I.hok e;exact d.typeIs
def jhP(td ty:TE):TE:=λσ H Q=>td σ H λx H1=>ty σ H1 λy H2=>∃ a v,x=.ref a/\DGet H2 a y (some v)/\Q v H2
def Ke(ty td:TE):TE:=λσ H Q=>ty σ H λy H1=>td σ H1 λx H2=>∃ a o,x=.ref a/\DGet H2 a y o/\Q (.bl<|!o.isSome) H2
def jdL(td ty tv:TE):TS:=λD σ H=>tv σ H λv H1=>td σ H1 λx H2=>ty σ H2 λy H3=>∃ a H4,x=.ref a/\DPut H3 a y v H4/\D.nx σ H4
def Qi(td ty tv:TE)(rd:V->V->Hp->VK->Prop):TS:=λD σ H=>td σ H λx H1=>ty σ H1 λy H2=>∃ a v,x=.ref a/\DGet H2 a y (some v) /\
 tv σ H2 λy2 H3=>rd v y2 H3 λz H4=>∃ H5,DPut H4 a y z H5/\D.nx σ H5
def jiv(e:X.A.units+1<cLine)(f:PE X o td)(hi:PE X i ty)(j:jnp i):PE X (.Subscript o i pos) (jhP td ty):=by
 intro b s σ H Q I h;refine jhY PySem.F.slot_dict_getitem.lookup j<|thn (f b s σ H _ I h) λu s1 ⟨x,k,l,m,n⟩=>thn (hi b s1 σ k _ l n) λz s2 p=>?_;obtain⟨y,q,d,r,a,v,ex,g,t⟩:=p;subst ex;obtain rfl:u=Value.ref a:=m;exact⟨zF d g,Q6 e d g r λB C w c=>⟨v,q,w,c,t⟩⟩
def jdf(c:X.A.units+1<cLine)(hi:PE X i ty)(d:PE X o td):PC X .NotIn i o (Ke ty td):=by
 intro b s σ H Q I h;refine thn (hi b s σ H _ I h) λv s1 ⟨y,e,f,j,k⟩=>thn (d b s1 σ e _ f k) λu s2 l=>?_;obtain⟨x,m,n,p,a,q,ex,g,r⟩:=l;subst ex;obtain rfl:u=Value.ref a:=p;exact jiI c n g j λw t=>⟨.bl<|!q.isSome,m,t,rfl,r⟩
def ja8(c:X.A.units+1<cLine)(d:PE X o td)(hi:PE X i ty)(e:PE X value tv)(f:swapsWith value (some<|.Subscript o i pos') pos.line X.env=pure false):
  PS X (.Assign [.Subscript o i pos'] value pos) (jdL td ty tv):=by
 intro b s σ H D I h;refine wpAny_Assign_Subscript (thn (e b s σ H _ I h) λr s1 ⟨v,j,k,l,m⟩=>thn (d b s1 σ j _ k m) λu s2 ⟨x,n,p,q,t⟩=>thn (hi b s2 σ n _ p t) λG J w=>?_) f;obtain⟨y,K,z,B,a,C,ex,g,E⟩:=w;subst ex;obtain rfl:u=Value.ref a:=q;exact K8 c z g B l λL F=>⟨σ,C,F,E⟩
def Kb(j:X.A.units+1<cLine)(l:PE X o td)(hi:PE X i ty)(m:PE X value tv)(c:jm3 X op rd)
  (n:∀ ov iv new,augStore i ov iv new=(do holding [new,ov,iv] (setItem ov iv new);release [new,ov,iv] [];pure .next)):PS X (.AugAssign (.Subscript o i tpos) op value pos) (Qi td ty tv rd):=by
 intro b s σ H D I h;refine wpAny_AugAssign_SubscriptAny (thn (l b s σ H _ I h) λu s1 ⟨x,p,q,r,t⟩=>thn (hi b s1 σ p _ q t) λiv s2 d=>?_) n;obtain⟨y,w,B,k,a,v,ex,g,C⟩:=d;subst ex;obtain rfl:u=Value.ref a:=r;refine Q6 j B g k λE F G e=>thn (m b F σ w _ G C) λw2 J ⟨K,L,M,f,N⟩=>thn (c b J σ L v K E w2 _ M e f N) λU V d=>?_;obtain⟨z,W,O,P,Q,R,S⟩:=d;exact K8 j O R k P λY T=>⟨σ,Q,T,S⟩
def ud(h:Heap)(a:sysModules<h.objs.size):ObjOk P w H (h.push {cls:=.type "dict",data:=.dict #[]}) h.objs.size (.dK []):=
 ⟨U5 _,U2.mpr<|Ne.symm<|N6 a,[],.nil,Heap.DictOf.new h⟩
def jeT(h:Heap)(a:sysModules<h.objs.size):ObjOk P w H (h.push {cls:=.type "dict",data:=.dict #[]}) h.objs.size (.dT []):=
 ⟨U5 _,U2.mpr<|Ne.symm<|N6 a,[],.nil,_,#[],0,X8 _ rfl,⟨rfl,rfl,rfl⟩,rfl,rfl,List.nodup_nil⟩
def jb7:TE:=λ_ H Q=>∀ p,H p=none->Q (.ref p) (upd H p<|.dK [])
def je6:PE X (.Dict [] [] pos) jb7:=λa s σ H Q I h=>
 wpAny_Dict_empty ⟨.ref ↥s,_,I.laid (λ_ _ q=>L8 _ q) (M8 _)<|ud s.heap I.big,rfl,h _<|I.hok.fresh<|M8 _⟩
structure M2(X:Cx)(o:Expr)(m:Str)(apos:Pos)(e f:Expr)(cpos:Pos):Prop where
 base:attributeBase o m X.env (eval o X.env)=eval o X.env
 few:((backTo cpos<|starEach [e,f] X.env).all (λx=>!x.1)&&(backToKw cpos<|keywordEach [] X.env).all (λx=>x.1.isSome)
  && decide (([e,f]:List Expr).length+([]:List Keyword).length+(if([]:List Keyword).isEmpty then 0 else 1)<30))=true
 line:(apos.endLine==cpos.line)=true
 trees:backTo cpos (starEach [e,f] X.env)=[(false,eval e X.env),(false,eval f X.env)]
def IsD(H:Hp)(a:Addr):Prop:=(∃ kvs,Rd H a<|.dK kvs) \/ ∃ kvs,Rd H a<|.dT kvs
def jdi(I:Inv X pins σ H s)(d:IsD H a):
  s.TypeIs (.ref a) "dict"/\(∀ b,Value.ref a=.ref b->∃ ob,s.heap.get? b=some ob/\ob.dict=none)/\(a==sysModules)=false:=by
 rcases d with⟨f,e⟩ | ⟨f,e⟩
 ·obtain⟨_,hd,vs,_,c⟩:=zm I.hok e;refine⟨c.typeIs,λb q=>?_,hd⟩;cases q;obtain⟨ob,_,_,g,h,_⟩:=c;exact⟨ob,g,h.2.1⟩
 ·obtain⟨_,hd,i,_,c⟩:=jap I.hok e;refine⟨c.typeIs,λb q=>?_,hd⟩;cases q;obtain⟨ob,_,_,g,h,_⟩:=c;exact⟨ob,g,h.2.1⟩
def jl9(n:A.units+1<cLine)(I:Inv X pins σ H s)(g:DGet H a y o)(m:RelV y u)(rd:RelV d r)(h:∀ w' s',Inv X pins σ H s'->RelV (o.getD d) w'->Q w' s'):
  wpAny (model X.prog X.w) A (call (.builtin "dict.get") [.ref a,u,r]) Q E s:=by
 rcases g with⟨i,k,e,j,l⟩ | ⟨i,k,b,e,j,p,l⟩
 ·subst j;obtain⟨z,hd,vs,c,f⟩:=zm I.hok e;refine call_meetsIn PySem.F.slot_dict_get f.typeIs PySem.F.entry_dict_get (PySem.F.args_dict_get_3 _ _ _) (meets_dict_get_default (jO X.prog X.w) a (jdE m) hd r) ⟨_,f.mapOf,h _ _ (I.tok _) ?_⟩;rw[l];exact(c.val k).getD rd
 ·subst j;cases(m);obtain⟨z,hd,q,c,f⟩:=jap I.hok e;refine call_meetsIn PySem.F.slot_dict_get f.typeIs PySem.F.entry_dict_get (PySem.F.args_dict_get_3 _ _ _) (meetsH_dict_get_default (tupleKind<|jO X.prog X.w) a b hd r) ⟨tupleKind_room_in1 n,k,q,QA I.hok p,f,h _ _ (I.tok _) ?_⟩;rw[l];exact(c.val k).getD rd
def jb4(td ty tx:TE):TE:=λσ H Q=>td σ H λx H1=>∃ a,x=.ref a/\IsD H1 a/\ty σ H1 λy H2=>tx σ H2 λz H3=>∃ o,DGet H3 a y o/\Q (o.getD z) H3
def jfU(j:X.A.units+1<cLine)(k:PE X o td)(l:PE X e ty)(n:PE X f tx)(m:M2 X o "get" apos e f cpos):PE X (.Call (.Attribute o "get" apos) [e,f] [] cpos) (jb4 td ty tx):=by
 intro b s σ H Q I h;refine wpAny_Call_method m.base m.few m.line PySem.F.plainAttrs_dict PySem.F.slot_dict_get PySem.F.type_dict_get<|thn (k b s σ H _ I h) λu s1 p=>?_;obtain⟨x,q,i,r,a,ex,d,t⟩:=p;subst ex;obtain rfl:u=Value.ref a:=r;obtain⟨v,w,_⟩:=jdi i d;refine⟨v,w,?_⟩;rw[m.trees];refine Calls.callWith_builtin rfl<|Calls.evalArgs_plain<|Calls.spliced_cons<|thn (l b s1 σ q _ i t) λN s2 ⟨y,B,C,D,E⟩=>
  Calls.spliced_cons (thn (n b s2 σ B _ C E) λO P ⟨z,G,J,K,R,g,L⟩=>Calls.spliced_nil ?_)
 exact jl9 j J g D K λS T M c=>⟨_,G,M,c,L⟩
end L2
namespace PySem
open Sem (wp)
namespace F
def lk_list_keys:typeLookup (.type "list") "keys" = pure none:=by rw[typeLookup_type,builtinLookup_eq_fast];kernel_rfl
def lk_list_getattr:typeLookup (.type "list") "__getattr__" = pure none:=by rw[typeLookup_type,builtinLookup_eq_fast];kernel_rfl
def plain_dict_loop:plainId "dict.update.loop" = true:=by decide +kernel
def entry_dict_loop:entryFor table "dict.update.loop" = some Builtin.«dict.update.loop»:=entryFor_of_fast (by kernel_rfl)
end F
section
variable {prog:Program}{w:World}{A:Around}{E:J0}{h:Heap}{g:Array GenState}{d:Drawn}{t:Nat}{os:OsState}{a:Addr}{o:Obj}
def F.sub_attrErr:isSubtype (.type "AttributeError") (.type "AttributeError")=pure true:=by rw[isSubtype_type];kernel_rfl
def jeZ{x nm}{e}{y}{Q}(a:h.get? e=some {cls:=.type "AttributeError",data:=.fields #[y,.none,.none,.none,.bool false,.none,unsetMember,unsetMember]})
  (c:∀ h',(∀ b o,b≠e->h.get? b=some o->h'.get? b=some o)->(∃ ob,h'.get? e=some ob/\ob.cls=.type "AttributeError")->Q () ⟨h',g,d,t,os⟩):
  wpAny (model prog w) A (noteAttr (.ref e) x nm) Q E ⟨h,g,d,t,os⟩:=by
 have j:=F.sub_attrErr
 repeat (any_goals (first | assumption | wp_step))
 refine c _ (λb o f i=>?_) ⟨_,Heap.get?_update_self _ a rfl,rfl⟩
 ·rw[Heap.get?_update_ne _ _ _ _ f];exact i
def uX{α}{x}{nm a}{Q}(k:a.length<=sizeLine)(l:A.handled=none)
  (m:∀ h' e t',(∀ b o,h.get? b=some o->h'.get? b=some o)->h.get? e=none->(∃ ob,h'.get? e=some ob/\ob.cls=.type "AttributeError")->E (.ref e) ⟨h',g,d,t',os⟩):
  wpAny (model prog w) A (raiseAttrError x nm a:Sem α) Q E ⟨h,g,d,t,os⟩:=by
 refine L3<|wpAny_mkStr (L3<|L3<|wpAny_newObj_type ?_) k;refine L3<|wpAny_of_eq (by simp only[firstArgMember];rfl) ?_;refine wpAny_newObj_type<|L3<|wpAny_mkText<|L3<|jeZ (X8 _ rfl) λh' n p=>?_;refine L3<|wpAny_handled ?_;rw[l];have c:∀ f,E (.ref (h.push {cls:=.type "tuple",data:=.seq #[Value.str a t]}).objs.size) ⟨h',g,d,f,os⟩:=λf=>m h' _ _ (λb o i=>n b o (λz=>by
  have j:=N1 i;rw[z] at j;exact absurd j<|Nat.not_lt.mpr<|by simp)<|L8 _<|L8 _ i) (Heap.get?_none_of_le<|by simp) p
 first
  | exact wpAny_throw (c _)
  | exact L3 (M6 (wpAny_throw (c _)))
def jaM{its}{n}{sl}{c}{Q}(f:A.handled=none)(j:h.get? a=some {cls:=.type "list",data:=.seq its n,slots:=sl})
  (i:∀ h' e t',(∀ b o,h.get? b=some o->h'.get? b=some o)->h.get? e=none->(∃ ob,h'.get? e=some ob/\ob.cls=.type "AttributeError")->E (.ref e) ⟨h',g,d,t',os⟩):
  wpAny (model prog w) A (Builtin.«object.__getattribute__» ⟨[.ref a,.str "keys" c],[]⟩) Q E ⟨h,g,d,t,os⟩:=by
 have k:=F.lk_list_keys
 repeat (any_goals (first | assumption | wp_step))
 exact uX (by decide +kernel) f i
def jbH{its}{n}{sl}{f}{R}(i:A.handled=none)(c:h.get? a=some {cls:=.type "list",data:=.seq its n,slots:=sl})
  (j:∀ h' e t',(∀ b o,h.get? b=some o->h'.get? b=some o)->h.get? e=none->(∃ ob,h'.get? e=some ob/\ob.cls=.type "AttributeError")->R (.error<|.ref e) ⟨h',g,d,t',os⟩):
  codeAny (model prog w) A (.call (.builtin "list.__getattribute__") ⟨[.ref a,.str "keys" f],[]⟩) R ⟨h,g,d,t,os⟩:=by
 exact codeAny_call_builtin F.slot_list_getattribute.plain F.entry_list_ga<|F.slot_list_getattribute.check _ _ _ _ _ _ _ _ (⟨_,c,rfl⟩) (F.args_list_getattribute_2 _ _)<|jaM (i) c j
def jjh{its}{n}{sl}{j}{Q}(k:A.handled=none)(l:h.get? a=some {cls:=.type "list",data:=.seq its n,slots:=sl})
  (m:∀ h' e t',(∀ b o,h.get? b=some o->h'.get? b=some o)->h.get? e=none->(∃ ob,h'.get? e=some ob/\ob.cls=.type "AttributeError")->E (.ref e) ⟨h',g,d,t',os⟩):
  wpAny (model prog w) A (getAttrBy (.ref a) (.str "keys" j) false) Q E ⟨h,g,d,t,os⟩:=by
 have v:=F.sub_attrErr;have x:=F.slot_list_getattribute.lookup;have y:=F.slot_list_getattribute.bind<|.ref a;have z:=F.lk_list_getattr
 repeat (any_goals (first | assumption | wp_step))
 refine jbH k l λh' e t' p q i=>?_;have c:=i;obtain⟨ob,f,r⟩:=i;have s:(⟨h',g,d,t',os⟩:Shared).TypeIs (.ref e) "AttributeError":=⟨_,f,r⟩;have u:=m h' e t' p q c
 repeat (any_goals (first | assumption | wp_step))
def ja2{its}{n}{sl}{Q}(f:A.handled=none)(i:h.get? a=some {cls:=.type "list",data:=.seq its n,slots:=sl})
  (j:∀ h' t',(∀ b o,h.get? b=some o->h'.get? b=some o)->Q none ⟨h',g,d,t',os⟩):wpAny (model prog w) A (getAttr? (.ref a) "keys") Q E ⟨h,g,d,t,os⟩:=by
 refine L3<|wpAny_mkText<|L3<|wpAny_attempt<|jjh f i λh' e t' k r l=>?_;obtain⟨ob,c,m⟩:=l;have p:(⟨h',g,d,t',os⟩:Shared).TypeIs (.ref e) "AttributeError":=⟨_,c,m⟩;have s:=F.sub_attrErr;have q:=j h' t' k
 repeat (any_goals (first | assumption | wp_step))
end
section
variable {prog:Program}{w:World}{K:Type} [DecidableEq K] {knd:KeyKind prog w K}{A:Around}{E:J0}{s:Shared}
def jaf(d:s.heap.get? p=some o)(b:o.cls=.type "tuple")(hd:o.data=.seq #[key,x] m)(e:Q [key,x] s):wpAny (model prog w) A (Builtin.Dict.pairItems<|.ref p) Q E s:=by
 obtain⟨oc,od,a,c⟩:=o;subst b;subst hd
 repeat (any_goals (first | assumption | wp_step))
end
end PySem
namespace L2
open PySem PySem.Spec PyProof.Rows
def Jz{D}{o u}(b:H D=none)(e:H a=some u):upd H D o a=some u:=by rw[jd λz=>by rw[z,b] at e;cases e];exact e
def wI{K}{D}{o}(b:H D=none)(h:SqL K H a xs):SqL K (upd H D o) a xs:=Or.imp_left (Or.imp (Jz b) λ⟨q,h⟩=>⟨q,Jz b h⟩) h
def jep{K}{D}{o}(b:H D=none)(h:SqT K H a xs):SqT K (upd H D o) a xs:=Or.imp_left (Or.imp (Jz b) λ⟨q,h⟩=>⟨q,Jz b h⟩) h
def jjC{X}{A:Around}{R}{Hs:Nat->Hp}{ys:List V}{d N D}(T:A.handled=none)(U:∀ i kvs,Hs i D=some (.dT kvs)->A.units+1<cLine)
  (f:∀ i,SqL X.K (Hs i) N ys/\uh X pins (Hs i) d)
  (W:∀(j:Nat) y,ys[j]?=some y->∃ t a b,y=.ref t/\SqT X.K (Hs j) t [a,b]/\DPut (Hs j) D a b (Hs<|j+1))
  (Y:∀ s',Inv X pins σ (Hs ys.length) s'->R (.ok<|.ret .none) s'):∀ k i s,i+k=ys.length->Inv X pins σ (Hs i) s->s.heap.IsListIter d N i ->
  codeAny (model X.prog X.w) A (.builtin "dict.update.loop" ⟨[.ref D,.ref d,rawInt i,.none],[]⟩) R s:=by
 intro k
 induction k with
 | zero=>
  intro i s O I q;obtain⟨r,x,p,_⟩:=I.list (f i).1;obtain⟨B,C,Z,E,G,H⟩:=(f i).2;refine codeAny_builtin F.entry_dict_loop<|L3<|wpAny_pyNext_list_end (A:=A.in1) T q p.isList (by have:=x.length;simp;lia) λL eb=>?_;have m:Inv X pins σ (Hs i) {s with heap:=L}:=I.turned (λb o c e=>eb b o c e) B C E G H;have fin:=Y _ (by rw[<- O];exact m)
  repeat (any_goals (first | assumption | wp_step))
 | succ k ih=>
  intro i s O I q;obtain⟨r,x,p,_⟩:=I.list (f i).1;have hf:=(f i).2;obtain⟨B,C,Z,E,G,H⟩:=hf;have P:=X6 (l:=ys) (i:=i) ∅;obtain⟨t,a,b,ey,hT,g⟩:=W i _ P;obtain⟨u,M,Q⟩:=x.get P;rw[ey] at Q;cases(Q);refine codeAny_builtin F.entry_dict_loop<|L3<|wpAny_pyNext_list_item q p.isList ⇑M λL h sb=>?_;have m:Inv X pins σ (Hs i) {s with heap:=L}:=I.turned (λb o c e=>(sb.2 b c).trans e) B C E G H;obtain⟨S,tv,⟨o,e,hc,n,hd⟩,_⟩:=m.tuple hT;obtain⟨u1,u2,rfl,r1,r2⟩:=tv.two;obtain⟨oi,ei,ci,di⟩:=id h;have I2:=m.pinned (fp:=[d]) (λb c=>by rw[M7.mp c];exact(f i).2) λb c=>⟨oi,by rw[M7.mp c];exact ei,λv z=>by rw[di] at z;cases z⟩;refine L3<|wpAny_holding<|L3<|wpAny_tryCatch<|jaf e hc hd<|wpAny_holding<|jma (U i) I2 g r1 r2 λs' J=>M6 ⟨plainId_quiet F.plain_dict_loop _,?_⟩;exact ih (i+1) s' ∅ J.unpinned (h.at λo e=>(J.pin (d,o)<|U3 _<|U3 _<|kf (by simp) e).1)
def jkk{α κ} [DecidableEq κ] {f:α->κ}{g:α->V}{ps:List α}:∀{qs},(ps.foldl (λa x=>Jl a (f x)<|g x) qs).length<=qs.length+ps.length:=by
 induction ps with
 | nil=>intro qs;simp
 | cons p ps b=>
  intro qs;have c:=b (qs:=Jl qs (f p)<|g p);have d:=Jd qs (f p)<|g p;rw[X0,M1]
  lia
def VR{X α κ} [DecidableEq κ] (L:X.calm=true) {f:α->κ}{g ky:α->V}{ob:List (κ×V)->HO}{ok:Hp->α->Prop}(S:∀ l m,ob l=.dT m->X.A.units+10<cLine)
  (T:∀(h:Heap) H,sysModules<h.objs.size->ObjOk X.prog X.w H (h.push {cls:=.type "dict",data:=.dict #[]}) h.objs.size (ob []))
  (U:∀ H D l x,H D=none->ok H x->l.length<sizeLine->DPut (upd H D<|ob l) D (ky x) (g x) (upd H D<|ob<|Jl l (f x)<|g x)):
  vJ X (.type "dict") (λxs H Q=>∃(p:Addr) (ys:List V) (ps:List α),xs=[.ref p]/\SqL X.K H p ys/\ys.length=ps.length/\ps.length<=100000 /\
  (∀(j:Nat) y,ys[j]?=some y->∃ kv t,ps[j]?=some kv/\y=.ref t/\SqT X.K H t [ky kv,g kv]/\ok H kv)/\∀ D,H D=none->Q (.ref D) (upd H D<|ob<|ps.foldl (λa kv=>Jl a (f kv)<|g kv) [])):=by
 intro c s σ H xs us Q I r h;obtain⟨p,ys,ps,rfl,M,W,hz,Y,q⟩:=h;obtain⟨u,rfl,Z⟩:=r.one;cases Z;have k:=I.hok.fresh<|M8 ↥s;have N:Inv X c σ (upd H ↥s (ob [])) { s with heap:=s.heap.push {cls:=.type "dict",data:=.dict #[]} }:=I.laid (λb o e=>L8 _ e) (M8 _)<|T _ _ I.big;obtain⟨its,rv,⟨o,n,e,v,B,C⟩,_⟩:=N.list<|wI k M;obtain⟨oc,od,E,osl⟩:=o;subst v B C;refine callType_codes (Q₁:=λobj O=>obj=.ref ↥s/\O={ s with heap:=s.heap.push {cls:=.type "dict",data:=.dict #[]} }) F.kt_called_dict (F.kt_typeCall_dict_1 _) F.entry_dict_init (kt_code_dict_new _ ⟨rfl,rfl⟩) ?_;rintro obj O ⟨rfl,rfl⟩;have P:=Heap.DictOf.typeIs (s:={ s with heap:=s.heap.push {cls:=.type "dict",data:=.dict #[]} })<|Heap.DictOf.new (knd:=jO X.prog X.w) s.heap;refine⟨P,F.args_dict_init_2 _ _,L3<|L3<|wpAny_notOrdered_dict P<|M6<|L3<|wpAny_typeOf ⟨_,e,rfl⟩<|L3<|ja2 (I.ok.hd L) e λh2 t2 d=>?_⟩;rw[if_pos<|show(Option.isNone none)=true from rfl];refine L3<|wpAny_rule<|L3<|wpAny_pyIter_list (l:=p) ⟨_,d _ _ e,rfl,n,rfl⟩<|M6 ⟨plainId_quiet F.plain_dict_loop _,?_⟩;have R:Inv X c σ (upd H ↥s (ob [])) {s with heap:=h2,toks:=t2}:=N.kept d;have G:=N1<|d _ _<|X8 _ rfl;refine jjC (A:=X.A.in1) (Hs:=λi=>upd H ↥s (ob<|(ps.take i).foldl (λa kv=>Jl a (f kv)<|g kv) [])) (I.ok.hd L) (λi m z=>?_) (λi=>⟨wI k M,R.fpOk (M8 _) ?_⟩) (λj y hy=>?_) (λs' J=>?_) ys.length 0 _ (Nat.zero_add _) (R.kept λb o e=>L8 _ e) ⟨_,X8 _ rfl,rfl,rfl⟩
 ·rw[jk] at z;have:=S _ _<|X4 z;show X.A.units+1+1<_
  lia
 ·rw[jd<|Ne.symm<|N6 G];exact I.hok.fresh ∅
 ·obtain⟨kv,t,e1,rfl,h3,h4⟩:=Y j y hy;refine⟨t,_,_,rfl,jep k h3,?_⟩;rw[List.take_add_one,e1,List.foldl_append];exact U _ _ _ _ k h4 (by have:=jkk (f:=f) (g:=g) (ps:=ps.take j) (qs:=[]);have:sizeLine=16777216:=rfl;simp at *;lia)
 ·rw[W,List.take_length] at J;exact⟨rfl,.ref _,_,J,rfl,q _ k⟩
def jaD{X}(i:X.calm=true):vJ X (.type "dict") (λxs H Q=>∃(p:Addr) (ys:List V) (ps:List<|Key×V),xs=[.ref p]/\SqL X.K H p ys/\ys.length=ps.length/\ps.length<=100000 /\
  (∀(j:Nat) y,ys[j]?=some y->∃ kv t,ps[j]?=some kv/\y=.ref t/\SqT X.K H t [kV kv.1,kv.2])/\∀ D,H D=none->Q (.ref D) (upd H D<|.dK<|ps.foldl (λa kv=>Jl a kv.1 kv.2) [])):=
 λd s σ H xs m Q I r ⟨p,ys,ps,n,q,u,w,z,A⟩=>VR (ok:=λ_ _=>True) (ky:=λx=>kV x.1) (f:=(·.1)) (g:=(·.2)) (ob:=.dK) i (λ_ _ e=>nomatch e) (λh H b=>ud h b)
  (λH D l x E _ B=>by have:=DPut.k (k:=x.1) (v:=x.2) (jk (H:=H) (a:=D) (o:=.dK l)) B;rw[jdK] at this;exact this) d s σ H xs m Q I r
  ⟨p,ys,ps,n,q,u,w,λj y C=>let ⟨kv,t,a,b,c⟩:=z j y C;⟨kv,t,a,b,c,trivial⟩,A⟩
def xG{X}(c:X.calm=true)(d:X.A.units+10<cLine):vJ X (.type "dict") (λxs H Q=>∃(p:Addr) (ys:List V) (ps:List<|List Key×Addr×V),xs=[.ref p]/\SqL X.K H p ys/\ys.length=ps.length/\ps.length<=100000 /\
  (∀(j:Nat) y,ys[j]?=some y->∃ kv t,ps[j]?=some kv/\y=.ref t/\SqT X.K H t [.ref kv.2.1,kv.2.2]/\H kv.2.1=some (.tup<|kv.1.map kV))/\∀ D,H D=none->Q (.ref D) (upd H D<|.dT<|ps.foldl (λa kv=>Jl a kv.1 kv.2.2) [])):=
 VR (ok:=λH (x:List Key×Addr×V)=>H x.2.1=some (.tup<|x.1.map kV)) c (λ_ _ _=>d) (λh H b=>jeT h b)
  λH D l (x:List Key×Addr×V) e f g=>by have:=DPut.t (k:=x.1) (b:=x.2.1) (v:=x.2.2) (jk (H:=H) (a:=D) (o:=.dT l)) (Jz e f) g;rw[jdK] at this;exact this
def Inv.layAll(I:Inv X pins σ H s)(k:∀ b u,s.heap.get? b=some u->h'.get? b=some u)(a:∀ b,H b≠none->H' b=H b)
  (new:∀ b o,H b=none->H' b=some o->↥s<=b/\ObjOk X.prog X.w H' h' b o):Inv X pins σ H' {s with heap:=h',toks:=t'}:=by
 refine I.un ⟨λb u q _ _ _=>k b u q,λb u q _ _ _=>⟨u.slots,k b u q⟩,λb u q n _=>?_,λb u q _=>⟨u,k b u q⟩,λb f q=>?_,λb o u q=>?_,λb g q=>⟨#[],?_⟩⟩ λb o e=>?_
 ·cases e:H' b with
  | none=>rfl
  | some o=>exact absurd (N1 q)<|Nat.not_lt.mpr (new b o n e).1
 ·rw[a b<|by rw[q];exact λz=>nomatch z];exact q
 ·rw[a b<|by rw[q];exact λz=>nomatch z];exact q
 ·rw[a b (by rw[q];exact λz=>nomatch z),q];simp
 ·by_cases n:H b=none
  ·exact(new b o n e).2
  ·have d:=e;rw[a b n] at d;exact(I.hok b o d).stay (λc u _ q=>k c u q) (λc q=>by rw[a c<|by rw[q];exact λz=>nomatch z];exact q) λc f q=>by rw[a c<|by rw[q];exact λz=>nomatch z];exact q
def jnW(h:(jO P w).is k u=true):RelV (kV k) u:=by
 rcases jP h with⟨i,t,rfl,rfl⟩ | ⟨x,t,rfl,rfl⟩
 ·exact⟨t,rfl⟩
 ·exact⟨t,rfl⟩
def jR(H:Hp)(as:W5)(kvs:List<|Key×V)(l:Addr):Hp:=λb=>if b=l then some (.lst<|as.map V.ref) else
 match (as.zip kvs).find? (λp=>p.1==b) with
 | some p=>some<|.tup [kV p.2.1,p.2.2]
 | none=>H b
def KI{as:W5}{a}(d:as.Nodup){j:Nat}{p:Key×V}(h1:as[j]?=some b)(h2:a[j]?=some p):(as.zip a).find? (λq=>q.1==b)=some (b,p):=by
 induction as generalizing a j with
 | nil=>simp at h1
 | cons c as e=>
  cases a with
  | nil=>simp at h2
  | cons q a=>
   rw[U7,List.find?_cons];cases j with
   | zero=>
    simp at h1 h2;subst h1;subst h2;simp
   | succ j=>
    simp at h1 h2;have f:c≠b:=λz=>(List.nodup_cons.mp d).1 (z▸List.mem_of_getElem? h1);have:=U2.mpr f;simp only[this];exact e (List.nodup_cons.mp d).2 h1 h2
def kC{as:W5}{a:List (Key×V)}(h:b∉as):(as.zip a).find? (λq=>q.1==b)=none:=by
 rw[List.find?_eq_none];intro q c z;have:q.1=b:=by simpa using z
 exact h<|this▸(List.of_mem_zip c).1
theorem jmL:∀{A}{B:List (Key×Value)}{j:Nat},KV A B->B[j]?=some (kk,x)->∃ y,A[j]?=some (kk,y)/\RelV y x
 | [],_,j,.nil,e=>by simp at e
 | p0::A,c::B,0,.cons a b,e=>by
  simp at e;subst e;refine⟨p0.2,?_,a.2⟩;have:p0.1=kk:=a.1;simp[<- this]
 | p0::A,c::B,j+1,.cons a b,e=>by
  obtain⟨y,d,e2⟩:=jmL b ⇑e;exact⟨y,by simpa using d,e2⟩
def xL(td:TE):TE:=λσ H Q=>td σ H λx H1=>∃ a kvs,x=.ref a/\Rd H1 a (.dK kvs)/\∀ l as,H1 l=none->as.length=kvs.length->(l::as).Nodup->(∀ b∈as,H1 b=none)->Q (.ref l) (jR H1 as kvs l)
def jcP(T:X.calm=true)(U:Gl X "list")(V:X.mg "list" = none)(Y:bootBuiltins "list" = some (.type "list"))(Z:PE X o td)
  (m:attributeBase o "items" X.env (eval o X.env)=eval o X.env:=by rfl) (n:(apos.endLine==cpos.line)=true:=by rfl)
  (he:starEach [.Call (.Attribute o "items" apos) [] [] cpos] X.env=(false,eval (.Call (.Attribute o "items" apos) [] [] cpos) X.env)::starEach [] X.env:=by rfl)
  (G:(backTo pos<|starEach [] X.env).any (·.1)=false:=by rfl)
  (hbt:backTo pos (starEach [.Call (.Attribute o "items" apos) [] [] cpos] X.env)=[(false,eval (.Call (.Attribute o "items" apos) [] [] cpos) X.env)]:=by rfl):
  PE X (.Call (.Name "list" p) [.Call (.Attribute o "items" apos) [] [] cpos] [] pos) (xL td):=by
 intro C s σ H Q I h;refine wpAny_Call_Name_kw<|JQ I U V Y (PyProof.Rows.callWith_type1 (Calls.spliced_cons<|wpAny_Call_method0_late m n<|thn (Z C s σ H _ I h) λv s1 hh=>?_) he G) (by decide) (by decide);obtain⟨x,H1,i,r1,a,r,ex,M,N⟩:=hh;subst ex;obtain rfl:v=Value.ref a:=r1;obtain⟨O,hd,vs,J,K⟩:=zm i.hok M;obtain⟨t1,t2,_⟩:=jdi i<|.inl ⟨r,M⟩;refine⟨"dict","dict.items",PySem.F.plainAttrs_dict,PySem.F.slot_dict_items,PySem.F.type_dict_items,t1,t2,Calls.callWith_builtin rfl<|PySem.evalArgs_none<|call_meetsIn PySem.F.slot_dict_items K.typeIs PySem.F.entry_dict_items (PySem.F.args_dict_items_1 _) (meets_dict_items (jO X.prog X.w) a hd) ⟨⟨vs,K⟩,(Calls.spliced_nil ?_)⟩⟩;obtain⟨ob,es,ep,d1,d2⟩:=K;have L:(s1.heap.push {cls:=.type "dict_items",data:=.fields #[.ref a]}).DictAt (jO X.prog X.w) a vs ep:=⟨ob,es,L8 _ d1,d2⟩;refine PySem.W.kdx_call (i.ok.hd T) ⟨_,X8 _ rfl,rfl,rfl⟩ L (by rw[<- J.length];exact O) λh' tk acc c k hk P R D l=>?_;have f:(s1.heap.push ({cls:=.type "dict_items",data:=.fields #[.ref a]}:Obj)).objs.size=↥s1+1:=Heap.size_push _ _;have nd:=D.rise.imp N6;have t:k.length=r.length:=by rw[R,J.length]
 have g:∀ b∈k,↥s1<=b:=λb d=>by have q:=D.above b d;rw[f] at q;lia
 have E:=λb d=>Nat.ne_of_gt<|D.above b d;refine⟨.ref _,jR H1 k r (s1.heap.push ({cls:=.type "dict_items",data:=.fields #[.ref a]}:Obj)).objs.size,i.layAll (λb u e=>hk b u<|L8 _ e) (λb d=>?_)<|λb u d e=>?_,rfl,N _ k (i.hok.fresh<|by rw[f];lia) t (List.nodup_cons.mpr ⟨λz=>E _ z rfl,nd⟩) λb d=>i.hok.fresh<|g b d⟩
 ·unfold jR;rw[if_neg<|λz=>d<|by rw[z];exact i.hok.fresh<|by rw[f];lia,kC λz=>d<|i.hok.fresh<|g b z]
 ·unfold jR at e;by_cases A:b=(s1.heap.push ({cls:=.type "dict_items",data:=.fields #[.ref a]}:Obj)).objs.size
  ·rw[if_pos A] at e;cases e;subst A;refine⟨by rw[f];lia,by rw[L1,t];exact O,k.map Value.ref,c,?_,?_⟩
   ·clear P l D R nd t g E N
    induction k with
    | nil=>exact .nil
    | cons x k ih=>exact .cons rfl ih
   ·rw[P,<- l]
  ·rw[if_neg A] at e;by_cases B:b∈k
   ·obtain⟨j,S⟩:=List.mem_iff_getElem?.mp B;obtain⟨key,kk,x,e1,e2,e3⟩:=D.pairs j b S;obtain⟨y,ey,r1⟩:=jmL J e1;rw[KI nd S ey] at e;cases e;exact⟨g b B,show 2<=sizeLine by decide,[key,x],.cons (jnW e2)<|.cons r1 .nil,⟨_,e3,rfl,0,rfl⟩,_,e3,rfl⟩
   ·rw[kC B] at e;exact absurd e (by rw[d];exact λz=>nomatch z)
abbrev jh1:=@jX
section
variable {prog:Program}{w:World}{A:Around}{E:J0}{s:Shared}
def jeK{j t}{n}{a}{y}{C}(d:s.heap.IsTupleIter j t n)(e:s.heap.IsTuple t a)(f:a[n]?=some y)
  (go:∀ k,k.IsTupleIter j t (n+1)->Heap.SameBut j s.heap k->C y {s with heap:=k}):wpAny (model prog w) A (Builtin.SmallTypes.nextOf<|.ref j) C E s:=by
 obtain⟨i,c,g,b⟩:=id d;obtain⟨ot,gt,_,mt,h⟩:=e;refine L3<|wpAny_callSpecial?_slot d.typeIs F.slot_tuple_iterator_next<|wpAny_call_entry F.slot_tuple_iterator_next d.typeIs F.entry_tuple_iterator_next ?_<|F.args_tuple_iterator_next_1 _;show wpAny _ _ (field (.ref j) 0 >>= _) _ _ s;refine L3<|U6 c b rfl<|L3<|U6 c b rfl<|L3<|wpAny_seqItems gt h ?_;simp only[N8,f];refine L3<|wpAny_setField c b (by simp)<|M6 ⟨y,rfl,M6<|go _ ⟨_,Heap.get?_update_self _ c<|Obj.isFreed_of_fields<|Obj.data_mapFields b _,(Obj.cls_mapFields ..).trans g,?_⟩<|Heap.SameBut.update ..⟩;rw[Obj.data_mapFields b];simp[rawInt]
variable {z TI TO j1 j2 l t:Addr}{m:Nat}{us vs:Array Value}{u v a b:Value}
end
def joM(l)(items)(n)(b)(a)(d)(e)(sl)(g:¬(!items.isEmpty&&Builtin.List.listTooLong (items.size+a.size))=true)(h1:items.size<=sizeLine)(h2:items.size+a.size<=sizeLine+1):
  Meets (Builtin.«list.extend» ⟨[.ref l,.ref b],[]⟩) (λ_ R s=>s.heap.get? l=some {cls:=.type "list",dict:=none,data:=.seq items n,slots:=#[]}/\s.heap.get? b=some {cls:=.type "list",dict:=e,data:=.seq a d,slots:=sl}/\R (.ok<|.ret Value.none) {s with heap:=s.heap.update l (Obj.mapSeq λx=>x++a)}):=
 .of_wp λprog w A R s h=>by
  rcases s with⟨i,j,k,m,os⟩;obtain⟨c,f,q⟩:=h;have o:(items++a).size<=sizeLine+1:=by rw[Array.size_append];exact h2
  wp_walk using(wpAny_updateSeq c rfl),wpAny_loadPart' c,wpAny_loadPart' f
  exact⟨_,rfl,q⟩
def joD(l)(items)(n)(b)(a)(d)(e)(sl)(g:¬(!items.isEmpty&&Builtin.List.listTooLong (items.size+a.size))=true)(h1:items.size<=sizeLine)(h2:items.size+a.size<=sizeLine+1):
  Meets (Builtin.«list.extend» ⟨[.ref l,.ref b],[]⟩) (λ_ R s=>s.heap.get? l=some {cls:=.type "list",dict:=none,data:=.seq items n,slots:=#[]}/\s.heap.get? b=some {cls:=.type "tuple",dict:=e,data:=.seq a d,slots:=sl}/\R (.ok<|.ret Value.none) {s with heap:=s.heap.update l (Obj.mapSeq λx=>x++a)}):=
 .of_wp λprog w A R s h=>by
  rcases s with⟨i,j,k,m,os⟩;obtain⟨c,f,q⟩:=h;have o:(items++a).size<=sizeLine+1:=by rw[Array.size_append];exact h2
  wp_walk using(wpAny_updateSeq c rfl),wpAny_loadPart' c,wpAny_loadPart' f
  exact⟨_,rfl,q⟩
def jjx(K:W4):V->List V->Hp->VK->Prop:=λx vs H Q=>∃ l b xs zs,x=.ref l/\vs=[.ref b]/\H l=some (.lst xs)/\(SqL K H b zs\/SqT K H b zs)/\xs.length+zs.length<=sizeLine/\Q .non (upd H l<|.lst<|xs++zs)
def jjo:MtM X "list.extend" (jjx X.K):=by
 intro p s σ H x vs v C Q I w y h;obtain⟨l,b,D,zs,rfl,rfl,k,g,t,q⟩:=h;cases w;obtain⟨u,rfl,A⟩:=y.one;cases A;obtain⟨z,c,n,r,E,e⟩:=I.lstM k;rcases g with g | g
 ·obtain⟨a,r2,p2,_⟩:=I.list g;obtain⟨⟨cls,i,data,sl⟩,j,e2,m,hd,B⟩:=p2
  first | subst m | skip
  have f:c.toArray.size+a.toArray.size<=sizeLine:=by rw[N3,N3,<- r.length,<- r2.length];exact t
  have d:¬ (!c.toArray.isEmpty&&Builtin.List.listTooLong (c.toArray.size+a.toArray.size))=true:=by
   rw[uv f,Bool.and_false];exact M3
  have o:s.heap.get? b=some {cls:=.type "list",dict:=i,data:=.seq a.toArray j,slots:=sl}:=by
   rw[e2];simp_all
  refine call_meets PySem.F.slot_list_extend ⟨_,e,rfl⟩ PySem.F.entry_list_extend (PySem.F.args_list_extend_2 _ _) (joM l c.toArray n b a.toArray j i sl d ∅ ∅) ⟨e,o,⟨.non,_,I.lset k e (by simp) (r.append r2) ?_,rfl,q⟩⟩;rw[N4]
  lia
 ·obtain⟨a,r2,p2,_⟩:=I.tuple g;obtain⟨⟨cls,i,data,sl⟩,e2,m,j,hd⟩:=p2;subst m hd;have f:c.toArray.size+a.toArray.size<=sizeLine:=by rw[N3,N3,<- r.length,<- r2.length];exact t
  have d:¬ (!c.toArray.isEmpty&&Builtin.List.listTooLong (c.toArray.size+a.toArray.size))=true:=by
   rw[uv f,Bool.and_false];exact M3
  refine call_meets PySem.F.slot_list_extend ⟨_,e,rfl⟩ PySem.F.entry_list_extend (PySem.F.args_list_extend_2 _ _) (joD l c.toArray n b a.toArray j i sl d ∅ ∅) ⟨e,e2,⟨.non,_,I.lset k e (by simp) (r.append r2) ?_,rfl,q⟩⟩;rw[N4]
  lia
def jdr:vJ X (.type "int") (λxs H Q=>∃ b:Bool,xs=[.bl b]/\Q (.int<|if b then 1 else 0) H):=by
 intro a s σ H xs d Q I r h;obtain⟨b,rfl,q⟩:=h;obtain⟨u,rfl,c⟩:=r.one;cases c;exact call_int_bool ⟨.int<|if b then 1 else 0,H,I.tok _,⟨_,rfl⟩,q⟩
section
def jmS(ft:TypeCalled T nw it)
  (c1:checkTypeCall T ⟨xs,kw⟩=pure ()) (d:checkBuiltinCall nw ⟨.type T::xs,kw⟩=pure ()) (f:entryFor table nw=some Bn) (i:entryFor table it=some Bi)
  (g:Meets (Bn ⟨.type T::xs,kw⟩) Sn) (h:Sn A.in1 (wants Q1 E) s)
  (nx:∀ obj s1,Q1 obj s1->s1.TypeIs obj T/\argsOk it ⟨obj::xs,kw⟩/\∃ Si,MeetsIn prog w (Bi ⟨obj::xs,kw⟩) Si/\Si A.in1 (wants (λr s2=>r=.none/\Q obj s2) E) s1):
  wpAny (model prog w) A (call (.type T) xs kw) Q E s:=by
 obtain⟨c,p,q⟩:=ft.mro;have t:=ft.made;have u:=ft.sub;refine wpAny_call<|codeAny_of_tree<|M6 ⟨Code.quiet_builtin _<|by decide +kernel,codeAny_builtin F.entry_type_call ?_⟩;have v:=ft.notType;have x:=ft.canCreate
 repeat (any_goals (first | assumption | wp_step))
 refine codeAny_mono (codeAny_call_builtin ft.plain f<|wpAny_of_eq d<|g prog w A.in1 _ s h) λr s1 b=>?_;cases r with
 | error e=>exact b
 | ok j=>
  cases j with
  | ret obj=>
   obtain⟨k,l,Si,m,n⟩:=nx _ _ b;have y:=ft.init.lookup;have z:=ft.init.bind obj
   repeat (any_goals (first | assumption | wp_step))
   refine codeAny_mono (codeAny_call_builtin ft.init.plain i<|ft.init.check _ _ _ _ _ _ _ _ k l<|m A.in1 _ s1 n) λr2 s2 a=>?_;cases r2 with
   | error e=>exact a
   | ok o=>
    cases o with
    | ret r=>
     obtain⟨rfl,B⟩:=a
     repeat (any_goals (first | assumption | wp_step))
    | _=>exact a.elim
  | _=>exact b.elim
def jlC(c:typeLookup (.type T) "__init__" = pure (some<|.builtin "object.__init__"))
  (d:Bind.madeBy (.type T)=pure (some nw)) (e:(some nw != some "object.__new__")=true):
  Meets (Builtin.«object.__init__» ⟨self::x::xs,kw⟩) (λ_ R s=>s.TypeIs self T/\R (.ok<|.ret .none) s):=by
 refine Meets.of_wp λprog w A R s a=>?_;obtain⟨f,b⟩:=a
 repeat (any_goals (first | assumption | wp_step))
 exact⟨_,rfl,b⟩
def jn5(a b):checkTypeCall "enumerate" ⟨[a],[("start",b)]⟩=pure ():=by kernel_rfl
def jod(a b):checkBuiltinCall "enumerate.__new__" ⟨[.type "enumerate",a],[("start",b)]⟩=pure ():=by kernel_rfl
def joy(a b c):argsOk "object.__init__" ⟨[a,b],[("start",c)]⟩:=by
 unfold argsOk;rw[signature?_of (n:=['_','_','t','i','n','i','_','_']) (by kernel_rfl) F.owner_object];kernel_rfl
open AutoSeq1 (wpAny_loadPart') in
def jjc(l)(us)(m)(dc)(sl)(n)(t)(j:Builtin.SmallTypes.fitsIndex n=true):
  Meets (Builtin.«enumerate.__new__» ⟨[.type "enumerate",.ref l],[("start",.int n t)]⟩) (λ_ R s=>s.heap.get? l=some {cls:=.type "list",dict:=dc,data:=.seq us m,slots:=sl} /\
   R (.ok<|.ret<|.ref (s.heap.push {cls:=.type "list_iterator",data:=.fields #[.ref l,.int 0 0]}).objs.size)
    { s with heap:=(s.heap.push {cls:=.type "list_iterator",data:=.fields #[.ref l,.int 0 0]}).push {cls:=.type "enumerate",data:=.fields #[.none,.bool false,.ref ↥s,rawInt n,.none,.none]} }):=
 .of_wp λprog w A R s h=>by
  obtain⟨f,g,d,i,os⟩:=s;obtain⟨a,h⟩:=h;have e:=sub_enumerate;have b:Heap.IsList (Shared.heap ⟨f,g,d,i,os⟩) l us:=⟨_,a,rfl,m,rfl⟩
  wp_walk using wpAny_loadPart' a
  refine wpAny_stack_any λk=>M6 ?_;split
  ·rename_i c _ _ _ _ _;cases(c==Value.type "enumerate")
   ·wp_walk using wpAny_loadPart' a,wpAny_pyIter_list b
    exact⟨_,rfl,h⟩
   ·wp_walk using wpAny_loadPart' a,wpAny_pyIter_list b
    exact⟨_,rfl,h⟩
  ·wp_walk using wpAny_loadPart' a,wpAny_pyIter_list b
   exact⟨_,rfl,h⟩
def jjB(e:s.heap.IsList l us)(f:Builtin.SmallTypes.fitsIndex n=true)
  (go:∀ k,IsEnum k (↥s+1) ↥s n .none->k.IsListIter ↥s l 0->(∀ b o,s.heap.get? b=some o->k.get? b=some o)->C (.ref<|↥s+1) {s with heap:=k}):
  wpAny (model prog w) A (call (.type "enumerate") [.ref l] [("start",.int n t)]) C E s:=by
 obtain⟨⟨c,g,j,sl⟩,h,i,m,hd⟩:=e;subst i hd;refine jmS (Q1:=λobj s1=>s1.TypeIs obj "enumerate"/\C obj s1) F.called_enumerate (jn5 _ _) (jod _ _) F.entry_enumerate_new F.entry_object_init (jjc l us m g sl n t f) ⟨h,?_⟩
  λobj _ q=>⟨q.1,joy _ _ _,_,(jlC F.called_enumerate.init.lookup F.called_enumerate.made<|by decide).inModel _ _,q.1,rfl,q.2⟩
 have a:(s.heap.push {cls:=.type "list_iterator",data:=.fields #[.ref l,.int 0 0]}).objs.size=↥s+1:=Heap.size_push ..;rw[a];have d:IsEnum ((s.heap.push {cls:=.type "list_iterator",data:=.fields #[.ref l,.int 0 0]}).push {cls:=.type "enumerate",data:=.fields #[.none,.bool false,.ref ↥s,rawInt n,.none,.none]}) (↥s+1) ↥s n .none:=by
  have q:=X8 (s.heap.push {cls:=.type "list_iterator",data:=.fields #[.ref l,.int 0 0]}) (o:={cls:=.type "enumerate",data:=.fields #[.none,.bool false,.ref ↥s,rawInt n,.none,.none]}) rfl;rw[a] at q;exact q
 exact⟨⟨_,d,rfl⟩,go _ d ⟨_,L8 _<|X8 _ rfl,rfl,rfl⟩ λb o x=>L8 _<|L8 _ x⟩
end
def jnm(K:W4)(tl:TA)(tb:TE):TI:=λσ H R=>tl σ H λvs H1=>tb σ H1 λv H2=>∃ a xs n,vs=[.ref a]/\v=.int n/\Builtin.SmallTypes.fitsIndex n=true/\SqL K H2 a xs/\R (Itn K a n) H2
def joR{X}{elts}{m}{tpos p pos d}{a b}{ta}{tb}(E:Gl X "enumerate")(F:X.mg "enumerate" = none)(G:PA X [a] ta)(j:PE X b tb)(J:starEach [a] X.env=[(false,eval a X.env)]:=by rfl):
  PI X (.Tuple elts m tpos) (.Call (.Name "enumerate" p) [a] [⟨some "start",b,d⟩] pos) (jnm X.K ta tb):=by
 intro c s σ H R I h;refine wpAny_Call_Name_kw<|JQ I E F (show bootBuiltins "enumerate" = some (.type "enumerate") by decide +kernel)<|L3<|wpAny_holding ?_;have B:=G pos c s σ H _ I h;rw[J] at B ⊢;refine wpAny_mono (evalArgs_kw (Q:=λx s1=>wpAny (model X.prog X.w) X.A (call (.type "enumerate") x.pos x.kw) (λv s1=>wpAny (model X.prog X.w) X.A (pyIter v) (PIE X c σ (.Tuple elts m tpos) R) X.xe s1) X.xe s1) rfl<|thn B λZ s1 ⟨vs,L,M,r1,N⟩=>?_) (λx s1 k=>L3<|wpAny_standAt ?_) λ_ _ x=>x
 ·refine wpAny_evalAll_cons<|L3<|thn (j c s1 σ L _ M N) λv s2 ⟨y,C,i,r2,O⟩=>L3<|wpAny_standAt<|M6<|wpAny_evalAll_nil ?_;obtain⟨l,xs,n,rfl,rfl,P,S,q⟩:=O;obtain⟨u,rfl,T⟩:=r1.one;cases T;obtain⟨t,rfl⟩:=r2;obtain⟨U,rv,pl,hz⟩:=i.list S;have f:l < ↥s2:=by
   obtain⟨o,_,e,_⟩:=pl;exact N1 e
  refine jjB pl.isList P λk D hit V=>?_;have W:Inv X c σ C {s2 with heap:=k}:=i.kept V;refine PySem.wpAny_pyIter_enum D ⟨↥s2+1,[↥s2+1,↥s2],_,_,C,rfl,W,jbG _ _ l n (Nat.succ_ne_self _) (N6<|Nat.lt_succ_of_lt f)<|N6 f,⟨⟨_,by simpa using D⟩,hit⟩,λb j=>?_,q⟩;have g:↥s2<=b:=by
   rcases(⇑j:b=↥s2+1\/b=↥s2) with z | z
   ·rw[z];exact Nat.le_succ _
   ·rw[z];exact M8 _
  exact i.fpOk g<|i.hok.fresh g
 ·exact L3<|M6<|L3<|wpAny_mono k (λr s2 Y=>L3<|wpAny_holding<|wpAny_point<|M6 Y) λ_ _ x=>x
section
variable {prog:Program}{w:World}{A:Around}{E:J0}{s:Shared}
def jiJ{j t}{n}{a}{C}(f:A.handled=none)(b:s.heap.IsTupleIter j t n)(g:s.heap.IsTuple t a)(h:a[n]?=none)
  (go:∀ k e,Heap.ExtBut j s.heap k->(∃ o,k.get? e=some o/\o.cls=.type "StopIteration")->E (.ref e) {s with heap:=k}):wpAny (model prog w) A (Builtin.SmallTypes.nextOf<|.ref j) C E s:=by
 obtain⟨l,c,m,d⟩:=id b;obtain⟨ot,gt,_,mt,i⟩:=g;refine L3<|wpAny_callSpecial?_slot b.typeIs F.slot_tuple_iterator_next<|wpAny_call_entry F.slot_tuple_iterator_next b.typeIs F.entry_tuple_iterator_next ?_<|F.args_tuple_iterator_next_1 _;show wpAny _ _ (field (.ref j) 0 >>= _) _ _ s;refine L3<|U6 c d rfl<|L3<|U6 c d rfl<|L3<|wpAny_seqItems gt i ?_;simp only[N8,h];refine L3<|wpAny_rule<|L3<|wpAny_setField c d (by simp)<|L3<|L3<|wpAny_newObj_type ?_ (by size_fits);refine L3<|wpAny_of_eq (by first | rfl | (simp only[firstArgMember];rfl)) ?_;refine wpAny_newObj_type (L3<|wpAny_handled ?_) (by size_fits)
 first | rw[f] | rw[f]
 exact L3<|M6<|wpAny_throw<|go _ _ (((Heap.SameBut.update ..).extBut.push _).push _) ⟨_,X8 _ rfl,rfl⟩
variable {z TI TO j1 j2 l t:Addr}{m:Nat}{us vs:Array Value}{u v a b:Value}
end
end L2
namespace PySem
open Sem (wp)
namespace F
end F
end PySem
namespace L2
open PySem PySem.Spec PyProof.Rows
def Je:entryFor table "dict_itemiterator.__iter__" = some Builtin.«dict_keyiterator.__iter__» :=
 entryFor_alias (id':="dict_keyiterator.__iter__") (by kernel_rfl) rfl (by decide +kernel) (by kernel_rfl)
def KP(hit:IsItemIter s.heap it d i n ep ok ov)(h:Q (.ref it) s):wpAny (model prog w) A (pyIter<|.ref it) Q E s:=by
 have a:s.TypeIs (.ref it) "dict_itemiterator":=⟨_,hit,rfl⟩;exact wpAny_pyIter_slot a PySem.F.slot_dict_itemiterator_iter<|wpAny_call_entry PySem.F.slot_dict_itemiterator_iter a Je (M6 ⟨_,rfl,"dict_itemiterator",_,a,PySem.F.slot_dict_itemiterator_next.lookup,h⟩)<|PySem.F.args_dict_itemiterator_iter_1 _
end L2
namespace PySem
open Sem (wp)
end PySem
namespace L2
open PySem PySem.Spec PyProof.Rows
end L2
namespace PySem
open PySem.W PyProof.Rows PySem.Calls
noncomputable def kEv{α}(lt:Nat->Nat->Bool):KasT α->α
 | .ret a=>a
 | .ask i j k=>kEv lt<|k<|lt i j
def kOk{α}(lt:Nat->Nat->Bool)(n:Nat):KasT α->Prop
 | .ret _=>True
 | .ask i j k=>i<n/\j<n/\kOk lt n (k<|lt i j)
theorem qN:∀ t:KasT α,kEv lt (t.bind f)=kEv lt (f<|kEv lt t)
 | .ret a=>rfl
 | .ask i j k=>qN<|k<|lt i j
theorem qH:∀ t:KasT α,kOk lt n t->kOk lt n (f<|kEv lt t)->kOk lt n (t.bind f)
 | .ret a,_,h=>h
 | .ask i j k,b,c=>⟨b.1,b.2.1,qH (k<|lt i j) b.2.2 c⟩
theorem jgf(c:∀ i j C,i<n->j<n->C (lt i j) s->cmp i j C s):∀ t:KasT α,kOk lt n t->Q (kEv lt t) s->t.kasWp cmp Q s
 | .ret a,_,h=>h
 | .ask i j k,b,h=>c i j _ b.1 b.2.1<|jgf c (k<|lt i j) b.2.2 h
def Pm(n:Nat)(p:Array Nat):Prop:=p.toList.Perm<|List.range n
def Pm.lt(h:Pm n p)(a:0<n)(i):p.getD i 0<n:=by
 by_cases hi:i<p.size
 ·have e:p.getD i 0=p[i]:=by simp[Array.getD,hi]
  rw[e];have b:p[i]∈p.toList:=by simp
  exact List.mem_range.mp<|h.mem_iff.mp b
 ·have e:p.getD i 0=0:=by simp[Array.getD,hi]
  rw[e];exact a
def Pm.swap(h:Pm n p)(i j:Nat):Pm n (p.swapIfInBounds i j):=by
 refine List.Perm.trans ?_ h;rw[Array.swapIfInBounds_def];split
 ·split
  ·exact(Array.perm_iff_toList_perm.mp<|Array.swap_perm _ _)
  ·exact List.Perm.refl _
 ·exact List.Perm.refl _
theorem Pm.swaps(u v:Nat->Nat):∀(l:List Nat) {p},Pm n p->Pm n (l.foldl (λa k=>a.swapIfInBounds (u k)<|v k) p)
 | [],_,h=>h
 | k::l,p,h=>Pm.swaps u v l<|h.swap _ _
def Pm.rev(h:Pm n p)(i j):Pm n (kas_rev p i j):=Pm.swaps _ _ _ h
def Pm.bub(h:Pm n p)(k m):Pm n (bubble p k m):=Pm.swaps _ _ _ h
section
variable {lt:Nat->Nat->Bool}{n:Nat}
theorem jbW(a:0<n)  (h:Pm n p):∀ f m,kOk lt n<|kas_asc p f m
 | 0,_=>trivial
 | f+1,m=>by
  refine⟨h.lt a _,h.lt a _,?_⟩;dsimp only;split
  ·trivial
  ·exact jbW a h f<|m+1
theorem K0(b:0<n):∀ f {p} m q,Pm n p->kOk lt n (kas_desc f p m q)/\Pm n (kEv lt<|kas_desc f p m q).1
 | 0,_,_,_,h=>⟨trivial,h⟩
 | f+1,p,m,q,h=>by
  have a:=h.lt b;cases hc:lt (p.getD m 0) (p.getD (m-1) 0) with
  | true=>
   by_cases e:q>0
   ·have c:=K0 b f (p:=kas_rev p (m-(q+1)) m) (m+1) 0<|h.rev _ _;have d:=e;simp only[kas_desc,kOk,kEv,hc,if_true,gt_iff_lt,d,a,true_and];exact c
   ·have c:=K0 b f (m+1) 0 h;simp only[kas_desc,kOk,kEv,hc,if_true,gt_iff_lt,e,if_false,a,true_and];exact c
  | false=>
   cases hd:lt (p.getD (m-1) 0) (p.getD m 0) with
   | true=>
    simp only[kas_desc,kOk,kEv,hc,hd,if_true,Bool.false_eq_true,if_false,a,true_and];exact h
   | false=>
    simp only[kas_desc,kOk,kEv,hc,hd,Bool.false_eq_true,if_false,a,true_and];exact(K0 b f (m+1) (q+1) h)
def Ys(a:0<n)  (h:Pm n p) (m k):kOk lt n (kas_tail3 m k p)/\Pm n (kEv lt<|kas_tail3 m k p).2:=by
 unfold kas_tail3;exact⟨qH _ (jbW a (h.rev _ _) _ _) trivial,by rw[qN];exact h.rev _ _⟩
def kQ(a:0<n)  (h:Pm n p) (m k):kOk lt n (kas_descPart m k p)/\Pm n (kEv lt<|kas_descPart m k p).2:=by
 unfold kas_descPart;have hd:=K0 (lt:=lt) a (k-(m+1)) (m+1) 0 h;refine⟨qH _ hd.1 ?_,?_⟩
 ·split
  ·exact(Ys a (hd.2.rev _ _) _ _).1
  ·exact(Ys a hd.2 _ _).1
 ·rw[qN];split
  ·exact(Ys a (hd.2.rev _ _) _ _).2
  ·exact(Ys a hd.2 _ _).2
def jfO(a:0<n)  (h:Pm n p) (k):kOk lt n (kas_count k p)/\Pm n (kEv lt<|kas_count k p).2:=by
 unfold kas_count;refine⟨qH _ (jbW (lt:=lt) a h (k-1) 1) ?_,?_⟩
 ·generalize kEv lt (kas_asc p (k-1) 1)=m;split
  ·trivial
  ·split
   ·refine⟨h.lt a _,h.lt a _,?_⟩;dsimp only;split
    ·trivial
    ·exact(kQ a (h.rev _ _) _ _).1
   ·exact(kQ a h _ _).1
 ·rw[qN];split
  ·exact h
  ·split
   ·dsimp only[kEv];split
    ·exact h
    ·exact(kQ a (h.rev _ _) _ _).2
   ·exact(kQ a h _ _).2
theorem V9(a:0<n)  (h:Pm n p) (k):∀ f l r,kOk lt n<|kas_place p k f l r
 | 0,_,_=>trivial
 | f+1,l,r=>by
  unfold kas_place;split
  ·trivial
  ·refine⟨h.lt a _,h.lt a _,?_⟩;dsimp only;split
   ·exact V9 a h k f _ _
   ·exact V9 a h k f _ _
theorem jch(a:0<n):∀ f {p} k,Pm n p->kOk lt n (kas_bin f p k)/\Pm n (kEv lt<|kas_bin f p k)
 | 0,_,_,h=>⟨trivial,h⟩
 | f+1,p,k,h=>by
  unfold kas_bin;have b:=jch a f (p:=bubble p k<|k-kEv lt (kas_place p k k 0 k)) (k+1)<|h.bub _ _;exact⟨qH _ (V9 (lt:=lt) a h k k 0 k) b.1,by rw[qN];exact b.2⟩
def xb(b:0<n):kOk lt n (kas_sort n)/\Pm n (kEv lt<|kas_sort n):=by
 unfold kas_sort;have c:Pm n (List.toArray<|List.range n):=List.Perm.refl _;have a:=jfO (lt:=lt) b c n;refine⟨qH _ a.1 ?_,?_⟩
 ·split
  ·exact(jch b _ _ a.2).1
  ·trivial
 ·rw[qN];split
  ·exact(jch b _ _ a.2).2
  ·exact a.2
end
end PySem
set_option maxHeartbeats 4000000
namespace PySem
open PySem.W PyProof.Rows PySem.Calls
def Vx{α:Type}(lt:Nat->Nat->Bool)(vs:List α)(d:α):List α:=if vs.length<2 then vs else(kEv lt<|kas_sort vs.length).toList.map λi=>vs.getD i d
def wE(lt)(vs)(d:α):(Vx lt vs d).length=vs.length:=by
 unfold Vx;split
 ·rfl
 ·rename_i h;rw[L1];have:=((xb (lt:=lt) (n:=vs.length) ∅).2).length_eq;rw[this,List.length_range]
def QU(m:s.heap.get? a=some (seqObj "list" vs.toArray n))(r:vs.length<64)
  (H:2<=vs.length->∀ s':Shared,(∀ b o,b≠a->s.heap.get? b=some o->s'.heap.get? b=some o)->∀{Q:SortKind->Shared->Prop},Q κ s'->wpAny (model prog w) A (keyKind' vs.toArray) Q (λ_ _=>False) s')
  (t:∀ s':Shared,(∀ b o,b≠a->s.heap.get? b=some o->s'.heap.get? b=some o)->∀ i j,i<vs.length->j<vs.length->∀{C:Bool->Shared->Prop},C (lt i j) s'->wpAny (model prog w) A (keyLt' κ (vs.getD i Value.none)<|vs.getD j Value.none) C (λ_ _=>False) s')
  (h:P (.done<|.ret .none) {s with heap:=sortedHeap s.heap a vs (Vx lt vs Value.none).toArray}):
  wpAny (model prog w) A (Builtin.«list.sort» ⟨[.ref a],[]⟩) P E s:=by
 rw[list_sort_plain];have z:=N1 m;refine L3<|listItems_at m rfl<|L3<|listUpdate_at m rfl ?_;obtain⟨u,g⟩:∃ u,(s.heap.update a<|Obj.mapSeq λ_=>#[]).get? a=some (seqObj "list" #[] u):=⟨_,get?_update_seq m<|λ_=>#[]⟩;refine L3<|seqEpoch_at g rfl<|L3<|wpAny_newTuple<|L3<|wpAny_newList<|wpAny_holding ?_;have d:(((s.heap.update a<|Obj.mapSeq λ_=>#[]).push (seqObj "tuple" vs.toArray 0)).push (seqObj "list" #[] 0)).get? a=some (seqObj "list" #[] u):=by
  rw[Heap.get?_push_ne _ _ _<|by rw[size_push',Heap.size_update];exact N6<|Nat.lt_succ_of_lt z,Heap.get?_push_ne _ _ _<|by rw[Heap.size_update];exact N6 z];exact g
 have keep:∀ b o,b≠a->s.heap.get? b=some o->(((s.heap.update a<|Obj.mapSeq λ_=>#[]).push (seqObj "tuple" vs.toArray 0)).push (seqObj "list" #[] 0)).get? b=some o:=λb o I e=>
  L8 _ (L8 _<|by rw[Heap.get?_update_ne _ _ _ _ I];exact e)
 dsimp only;have v:vs.toArray.size=vs.length:=by simp
 by_cases q:vs.toArray.size<2
 ·have c:Vx lt vs Value.none=vs:=by unfold Vx;rw[if_pos ∅]
  rw[c] at h;rw[if_pos q,if_pos q];refine L3<|M6<|L3<|M6 ?_;have J:(arrOf<|SortSt.mk' general' (vs.toArray.zip vs.toArray) #[] 7 none).map (·.2)=vs.toArray:=by
   apply Array.toList_inj.mp;simp;exact List.map_snd_zip<|M8 _
  rw[J];refine L3<|seqEpoch_at d rfl ?_;refine L3<|listUpdate_at d rfl ?_ (hsz2:=by rw[v,sizeLine_eq];lia);simp only[bne_self_eq_false,Bool.false_eq_true,if_false];exact M6 h
 ·have k:2<=vs.length:=by lia
  have c:Vx lt vs Value.none=(kEv lt<|kas_sort vs.length).toList.map λi=>vs.getD i Value.none:=by unfold Vx;rw[if_neg ∅]
  rw[if_neg q,if_neg q];refine L3<|wpAny_mono (H k {s with heap:=((s.heap.update a<|Obj.mapSeq λ_=>#[]).push (seqObj "tuple" vs.toArray 0)).push (seqObj "list" #[] 0)} keep (Q:=λB D=>B=κ/\D={s with heap:=((s.heap.update a<|Obj.mapSeq λ_=>#[]).push (seqObj "tuple" vs.toArray 0)).push (seqObj "list" #[] 0)}) ⟨rfl,rfl⟩) ?_ λ_ _ x=>x.elim;rintro B D ⟨rfl,rfl⟩;have l:=kat_run (E:=E)
   (Q:=λf s'=>s'={s with heap:=((s.heap.update a<|Obj.mapSeq λ_=>#[]).push (seqObj "tuple" vs.toArray 0)).push (seqObj "list" #[] 0)}/\arrOf f=(kEv lt<|kas_sort vs.length).map (kas_item<|vs.toArray.zip vs.toArray)/\failedOf f=none)
   (G:=λp s'=>p=kEv lt (kas_sort vs.length)/\s'={s with heap:=((s.heap.update a<|Obj.mapSeq λ_=>#[]).push (seqObj "tuple" vs.toArray 0)).push (seqObj "list" #[] 0)})
   rfl k r (λp f s' R K L F=>⟨F.2,by rw[<- F.1];exact K,L⟩)
   (jgf (λi j C hi M N=>t {s with heap:=((s.heap.update a<|Obj.mapSeq λ_=>#[]).push (seqObj "tuple" vs.toArray 0)).push (seqObj "list" #[] 0)} keep i j hi M N) _ (xb (lt:=lt) (n:=vs.length) ∅).1 ⟨rfl,rfl⟩)
  refine L3<|wpAny_mono l ?_ λ_ _ e=>e;rintro⟨⟨⟩,f⟩ s' ⟨rfl,y,O⟩;rw[kat_snds rfl y,<- c];refine L3<|seqEpoch_at d rfl ?_;refine L3<|listUpdate_at d rfl ?_ (hsz2:=by rw[N3,wE,sizeLine_eq];lia);rw[O];simp only[bne_self_eq_false,Bool.false_eq_true,if_false];exact M6 h
def Vu(t:s.heap.IsList l vs.toArray)(m:vs.length<64)
  (u:2<=vs.length->∀ A' s',(∀ b o,s.heap.get? b=some o->s'.heap.get? b=some o)->∀{Q:SortKind->Shared->Prop},Q κ s'->wpAny (model prog w) A' (keyKind' vs.toArray) Q (λ_ _=>False) s')
  (a:∀ A' s',(∀ b o,s.heap.get? b=some o->s'.heap.get? b=some o)->∀ i j,i<vs.length->j<vs.length->∀{C:Bool->Shared->Prop},C (lt i j) s'->wpAny (model prog w) A' (keyLt' κ (vs.getD i Value.none)<|vs.getD j Value.none) C (λ_ _=>False) s')
  (h:∀ h' c,(∀ b o,s.heap.get? b=some o->h'.get? b=some o)->h'.get? (↥s+1)=some (seqObj "list" (Vx lt vs Value.none).toArray c)->Q (.ref<|↥s+1) {s with heap:=h'}):
  wpAny (model prog w) A (call (.builtin "sorted") [.ref l]) Q E s:=by
 refine Calls.call_function_entry kind_sorted plain_sorted entry_sorted (args_sorted1 _)<|L3<|M6 ?_;refine L3<|collect_list t ?_ (by rw[sizeLine_eq];lia);refine L3<|wpAny_newList ?_ (by rw[sizeLine_eq];lia);have e:((s.heap.push<|seqObj "list" #[] 0).update ↥s (Obj.mapSeq (·++vs.toArray))).objs.size=↥s+1:=by
  rw[Heap.size_update,size_push']
 have f:(((s.heap.push<|seqObj "list" #[] 0).update ↥s (Obj.mapSeq (·++vs.toArray))).push (seqObj "list" vs.toArray 0)).get? (↥s+1)=some (seqObj "list" vs.toArray 0):=by
  rw[<- e];exact X8 _ rfl
 have keep:∀ b o,s.heap.get? b=some o->(((s.heap.push<|seqObj "list" #[] 0).update ↥s (Obj.mapSeq (·++vs.toArray))).push (seqObj "list" vs.toArray 0)).get? b=some o:=λb o q=>by
  have a:=N1 q;rw[Heap.get?_push_ne _ _ _<|by rw[e];exact N6<|Nat.lt_succ_of_lt a,Heap.get?_update_ne _ _ _ _<|N6 a,Heap.get?_push_ne _ _ _<|N6 a];exact q
 rw[e];have d:∀{s':Shared},(∀ b o,b≠↥s+1->(((s.heap.push<|seqObj "list" #[] 0).update ↥s (Obj.mapSeq (·++vs.toArray))).push (seqObj "list" vs.toArray 0)).get? b=some o->s'.heap.get? b=some o)->∀ b o,s.heap.get? b=some o->s'.heap.get? b=some o:=λk b o q=>
  k b o (N6<|Nat.lt_succ_of_lt<|N1 q) (keep b o q)
 refine L3<|wpAny_holding<|wpAny_call_entry slot_list_sort ⟨_,f,rfl⟩ entry_list_sort ?body (args_list_sort _)
 case body=>
  refine QU f m (λv s' k=>u v _ s'<|d k) (λs' k=>a _ s'<|d k) ?_;have g:∃ c,(sortedHeap (((s.heap.push<|seqObj "list" #[] 0).update ↥s (Obj.mapSeq (·++vs.toArray))).push (seqObj "list" vs.toArray 0)) (↥s+1) vs (Vx lt vs Value.none).toArray).get? (↥s+1)=some (seqObj "list" (Vx lt vs Value.none).toArray c):=by
   obtain⟨p,n⟩:∃ p,((((s.heap.push<|seqObj "list" #[] 0).update ↥s (Obj.mapSeq (·++vs.toArray))).push (seqObj "list" vs.toArray 0)).update (↥s+1) (Obj.mapSeq λ_=>#[])).get? (↥s+1)=some (seqObj "list" #[] p):=⟨_,get?_update_seq f<|λ_=>#[]⟩;exact⟨_,get?_update_seq (L8 _<|L8 _ n) λ_=>(Vx lt vs Value.none).toArray⟩
  obtain⟨c,x⟩:=g;refine⟨_,rfl,M6 ⟨_,rfl,h _ c (λb o q=>?_) x⟩⟩;have r:=N6<|Nat.lt_succ_of_lt<|N1 q;show(Heap.update _ _ _).get? b=some o;rw[Heap.get?_update_ne _ _ _ _ r];exact L8 _<|L8 _ (by rw[Heap.get?_update_ne _ _ _ _ r];exact keep b o q)
noncomputable abbrev jey:=Str×Str×Int
noncomputable def Qo(x y:jey):Bool:=if x.1=y.1 then(if x.2.1=y.2.1 then decide (x.2.2<y.2.2) else decide (x.2.1.cps.toList<y.2.1.cps.toList)) else decide (x.1.cps.toList<y.1.cps.toList)
def uJ(h:Heap)(v:Value)(r:jey):Prop:=∃ a o m t1 t2 t3,v=.ref a/\h.get? a=some o/\o.cls=.type "tuple"/\o.data=.seq #[.str r.1 t1,.str r.2.1 t2,.int r.2.2 t3] m
def jmO(d:uJ s.heap v x)(e:uJ s.heap u y)  (h:C (Qo x y) s):wpAny (model prog w) A (keyLt' (tuples' true) v u) C E s:=by
 obtain⟨a,o,m,k,l,n,rfl,f,p,g⟩:=d;obtain⟨b,q,r,t,z,B,rfl,i,D,j⟩:=e;refine kat_lt f g i j ?_;unfold Qo at h;refine kat_cons<|wpAny_eqBool_str ?_;by_cases c:x.1=y.1
 ·rw[if_pos c] at h;rw[X1 c];refine kat_yes<|kat_cons<|wpAny_eqBool_str ?_;by_cases e2:x.2.1=y.2.1
  ·rw[if_pos e2] at h;rw[X1 e2];refine kat_yes<|kat_cons<|wpAny_eqBool_int ?_;by_cases e3:x.2.2=y.2.2
   ·rw[show(x.2.2==y.2.2)=true by simp[e3]];refine kat_yes<|kat_nil ?_;have:decide (x.2.2<y.2.2)=decide (3<3):=by rw[e3];simp
    rw[this] at h;exact h
   ·rw[show(x.2.2==y.2.2)=false by simp[e3]];exact kat_no<|kat_one _ _<|wpAny_lt_int h
  ·rw[if_neg e2] at h;rw[X2 e2];exact kat_no<|kat_one _ _<|lt_str h
 ·rw[if_neg c] at h;rw[X2 c];exact kat_no<|oneLt_str h
def jaS{A}{E}{s}{vs:List Value}{rs:List jey}(c:vs.length=rs.length)(b:∀(j:Nat) v,vs[j]?=some v->∃ r,rs[j]?=some r/\uJ s.heap v r)(u:0<vs.length){Q}(h:Q (tuples' true) s):wpAny (model prog w) A (keyKind' vs.toArray) Q E s:=by
 have key:∀ vs (rs:List jey),vs.length=rs.length->(∀(j:Nat) v,vs[j]?=some v->∃ r,rs[j]?=some r/\uJ s.heap v r)->∃ fs:List Value,KatTups s.heap vs fs/\fs.length=vs.length/\∀ v∈fs,∃ x t,v=Value.str x t:=by
  intro vs
  induction vs with
  | nil=>intro rs _ _;exact⟨[],KatTups.nil,rfl,λv b=>(nomatch b)⟩
  | cons v vs d=>
   intro rs c b;cases rs with
   | nil=>simp at c
   | cons r rs=>
    obtain⟨fs,k,l,f⟩:=d rs ⇑c λj v e=>b (j+1) v ⇑e;obtain⟨g,e,a,o,m,i,y,z,rfl,n,p,q⟩:=b 0 v rfl;refine⟨.str g.1 i::fs,KatTups.cons n p q rfl k,by simp[l],λv b=>?_⟩;rcases M4.mp b with rfl | b
    ·exact⟨_,_,rfl⟩
    ·exact f v b
 obtain⟨fs,k,l,f⟩:=key vs rs c b;refine kat_kind (T:=.type "str") k ∅ (λv b=>?_) (by rfl) h;obtain⟨x,t,rfl⟩:=f v b;exact Looks.of_pure rfl
def Yq{A}{E}{s:Shared}{vs}{rs:List jey}{Q}(u:s.heap.IsList l vs.toArray)(n:vs.length<64)(g:vs.length=rs.length)(x:∀(j:Nat) v,vs[j]?=some v->∃ r,rs[j]?=some r/\uJ s.heap v r)
  (h:∀ h' c,(∀ b o,s.heap.get? b=some o->h'.get? b=some o)->h'.get? (↥s+1)=some (seqObj "list" (Vx (λi j=>Qo (rs.getD i ("","",0))<|rs.getD j ("","",0)) vs Value.none).toArray c)->Q (.ref<|↥s+1) {s with heap:=h'}):
  wpAny (model prog w) A (call (.builtin "sorted") [.ref l]) Q E s:=by
 have up:∀(d:Shared),(∀ b o,s.heap.get? b=some o->d.heap.get? b=some o)->∀ j v,vs[j]?=some v->∃ r,rs[j]?=some r/\uJ d.heap v r:=λd f j v k=>by
  obtain⟨r,e,a,o,m,y,z,B,p,D,q,F⟩:=x j v k;exact⟨r,e,a,o,m,y,z,B,p,f a o D,q,F⟩
 refine Vu u n (λq G d f Q H=>jaS g (up d f) ∅ H) (λG d f i j hi k C t=>?_) h;obtain⟨r1,p,I⟩:=up d f i _<|X6 hi;obtain⟨r2,e2,J⟩:=up d f j _<|X6 k;have K:vs.getD i Value.none=vs[i]:=by simp[hi]
 have g2:vs.getD j Value.none=vs[j]:=by simp[k]
 rw[K,g2];refine jmO I J ?_;have L:rs.getD i ("","",0)=r1:=by rw[List.getD_eq_getElem?_getD,p];rfl
 have M:rs.getD j ("","",0)=r2:=by rw[List.getD_eq_getElem?_getD,e2];rfl
 rw[L,M] at t;exact t
end PySem
namespace PySem
open Sem (wp)
section
variable {prog:Program}{w:World}{A:Around}{E:J0}{h:Heap}{g:Array GenState}{dr:Drawn}{t:Nat}{os:OsState}
def joc{a d:Addr}{i ep:Nat}{es:Array DictEntry}{od:Obj}{en:DictEntry}{ok l:Value}{Q:Option Value->Shared->Prop}(hit:IsItemIter h a d i es.size ep ok l)(N:h.get? d=some od)(u:od.data=.dict es ep)(O:es[i]?=some en)
  (P:∀ h',IsItemIterOut h' a d (i+1) es.size ep en.key en.val h.objs.size->h'.get? h.objs.size=some {cls:=.type "tuple",data:=.seq #[en.key,en.val]}->(∀ b o,b≠a->h.get? b=some o->h'.get? b=some o)->Q (some<|.ref h.objs.size) ⟨h',g,dr,t,os⟩):
  wpAny (model prog w) A (pyNext<|.ref a) Q E ⟨h,g,dr,t,os⟩:=by
 have r:Shared.TypeIs ⟨h,g,dr,t,os⟩ (.ref a) "dict_itemiterator":=⟨_,hit,rfl⟩;obtain⟨oc,R,S,T⟩:=od;subst u;have U:¬ ((i:Int)<0):=by lia
 refine L3<|wpAny_attempt<|wpAny_callSpecial?_slot (name:=Str.ofString "__next__") r F.slot_dict_itemiterator_next ?_;refine wpAny_call_entry F.slot_dict_itemiterator_next r F.entry_dict_itemiterator_next ?_<|F.args_dict_itemiterator_next_1 _
 repeat (any_goals (first | assumption | wp_step))
 rw[if_neg U,N8,O];refine L3 ?_;refine L3<|wpAny_typeNameOfWhole_itemiter r<|M6 ?n1
 case n1=>
  refine L3<|wpAny_isOneOf_itemiter r<|show wpAny _ _ (setField (.ref a) 3 (rawInt<|i+1) >>= _) _ _ _ from L3 (wpAny_setField_rec hit (by simp) λf V W=>?_);have m:Heap.SameBut a h f:=W;have n:IsItemIter f a d (i+1) es.size ep ok l:=by
   have e:((i+1:Nat):Int)=i+1:=by lia
   unfold IsItemIter;rw[e];simpa [rawInt] using V
  have p:Shared.TypeIs ⟨f,g,dr,t,os⟩ (.ref a) "dict_itemiterator":=⟨_,n,rfl⟩;refine L3<|wpAny_holding<|L3<|wpAny_isOneOf_itemiter p<|L3<|wpAny_isOneOf_itemiter p ?_;unfold Builtin.Dict_items.pairFromOwner;refine L3<|wpAny_newTuple ?_;have M:f.objs.size=h.objs.size:=m.1;have q:IsItemIter (f.push {cls:=.type "tuple",data:=.seq #[en.key,en.val]}) a d (i+1) es.size ep ok l:=L8 _ n;have j:(f.push {cls:=.type "tuple",data:=.seq #[en.key,en.val]}).get? h.objs.size=some {cls:=.type "tuple",data:=.seq #[en.key,en.val]}:=by rw[<- M];exact X8 _ rfl
  have k:∀ b o,b≠a->h.get? b=some o->(f.push {cls:=.type "tuple",data:=.seq #[en.key,en.val]}).get? b=some o:=λb o c e=>L8 _<|m.extBut b o c e;have v:h.objs.size≠a:=Nat.ne_of_gt<|N1 hit;rw[M];generalize f.push ({cls:=.type "tuple",data:=.seq #[en.key,en.val]}:Obj)=k2 at q j k;refine L3 ?_;unfold Builtin.Dict_items.ownedTupleIsFree;refine L3<|U6 q rfl (x:=.none) rfl<|M6 ?_;simp only[if_true];refine L3<|U6 q rfl (x:=ok) rfl<|L3<|U6 q rfl (x:=l) rfl<|L3<|wpAny_setField_rec q (by simp) λy X Y=>?_;have z:Heap.SameBut a k2 y:=Y;have B:IsItemIter y a d (i+1) es.size ep en.key l:=X;refine L3<|wpAny_setField_rec B (by simp) λC Z b4=>?_;have D:Heap.SameBut a y C:=b4;have G:IsItemIter C a d (i+1) es.size ep en.key en.val:=Z;refine L3<|wpAny_setField_rec G (by simp) λH q5 b5=>?_;have I:Heap.SameBut a C H:=b5;have J:IsItemIterOut H a d (i+1) es.size ep en.key en.val h.objs.size:=q5;refine L3<|wpAny_setField_rec J (by simp) λs q6 b6=>?_;have K:Heap.SameBut a H s:=b6;have L:IsItemIterOut s a d (i+1) es.size ep en.key en.val h.objs.size:=q6;have up:∀ b o,b≠a->k2.get? b=some o->s.get? b=some o:=λb o c e=>K.extBut b o c<|I.extBut b o c<|D.extBut b o c<|z.extBut b o c e;exact L3<|wpAny_letGo<|M6<|M6 ⟨_,rfl,M6<|P s L (up _ _ v j) λb o c e=>up b o c<|k b o c e⟩
def jpn{a d}{i ep}{es}{od}{ok e}{Q}(f:A.handled=none)(hit:IsItemIter h a d i es.size ep ok e)(j:h.get? d=some od)(b:od.data=.dict es ep)(k:es[i]?=none)
  (l:∀ h',Heap.ExtBut a h h'->Q none ⟨h',g,dr,t,os⟩):wpAny (model prog w) A (pyNext<|.ref a) Q E ⟨h,g,dr,t,os⟩:=by
 have c:Shared.TypeIs ⟨h,g,dr,t,os⟩ (.ref a) "dict_itemiterator":=⟨_,hit,rfl⟩;obtain⟨oc,m,n,o⟩:=od;subst b;have p:¬ ((i:Int)<0):=by lia
 refine L3<|wpAny_attempt<|wpAny_callSpecial?_slot c F.slot_dict_itemiterator_next ?_;refine wpAny_call_entry F.slot_dict_itemiterator_next c F.entry_dict_itemiterator_next ?_<|F.args_dict_itemiterator_next_1 _
 repeat (any_goals (first | assumption | wp_step))
 rw[if_neg p,N8,k];refine L3 ?_;refine L3<|wpAny_typeNameOfWhole_itemiter c<|M6 ?n1
 case n1=>
  refine(show wpAny _ _ (setField (.ref a) 2 .none >>= _) _ _ _ from L3 (wpAny_setField hit rfl (by simp) ?_));refine(L3 ?_);simp only[newExc,newTuple];refine L3<|wpAny_newObj_type (L3<|wpAny_of_eq (by first | rfl | (simp only[firstArgMember];rfl))<|wpAny_newObj_type ?_<|by size_fits) (by size_fits);simp only[raiseNew];refine L3<|wpAny_handled ?_;rw[f];refine L3<|M6<|wpAny_throw ?_;refine L3<|wpAny_isInstance ⟨_,X8 _ rfl,rfl⟩ isSubtype_stop<|M6<|l _ ?_;exact((Heap.SameBut.update ..).extBut.push _).push _
def zq{d}{od}{es:Array DictEntry}{ep:Nat}{Q}(a:h.get? d=some od)(c:od.ExactDict)(hd:(d==sysModules)=false)
  (e:Q (.ref h.objs.size) ⟨h.push {cls:=.type "dict_items",data:=.fields #[.ref d]},g,dr,t,os⟩):wpAny (model prog w) A (call (.builtin "dict.items") [.ref d]) Q E ⟨h,g,dr,t,os⟩:=by
 have b:Shared.TypeIs ⟨h,g,dr,t,os⟩ (.ref d) "dict":=⟨od,a,c.1⟩;refine wpAny_call_entry F.slot_dict_items b F.entry_dict_items (L3<|L3<|wpAny_notOrdered_dict b<|M6 ?_)<|F.args_dict_items_1 _;unfold Builtin.Dict.showsAll;rw[if_neg<|by rw[hd];exact M3];exact L3<|M6<|L3<|wpAny_newObj_type<|M6 ⟨_,rfl,e⟩
def jnd{v d}{od}{es}{ep}{Q}(e:h.IsItemsView v d)(a:h.get? d=some od)(b:od.data=.dict es ep)
  (i:Q (.ref h.objs.size) ⟨h.push {cls:=.type "dict_itemiterator",data:=.fields #[.none,.bool false,.ref d,.int 0 0,.int es.size 0,.int ep 0,.none,.none]},g,dr,t,os⟩):wpAny (model prog w) A (pyIter<|.ref v) Q E ⟨h,g,dr,t,os⟩:=by
 obtain⟨k,c,l,j⟩:=id e;have f:Shared.TypeIs ⟨h,g,dr,t,os⟩ (.ref v) "dict_items":=e.typeIs;refine wpAny_pyIter_slot f F.slot_dict_items_iter<|wpAny_call_entry F.slot_dict_items_iter f F.entry_dict_items_iter ?_<|F.args_dict_items_iter_1 _;unfold Builtin.«dict_items.__iter__»;refine L3<|M6<|L3 ?_;unfold Builtin.Dict_items.dictOf;refine L3<|U6 c j rfl<|M6<|L3 ?_;refine L3<|wpAny_dictEntries a b<|L3<|wpAny_dictEpoch a b ?_;have ow:Builtin.Dict_items.ownsTuple "dict_itemiterator" = true:=by decide
 simp only[ow,if_true];refine wpAny_newObj_type (M6 ⟨_,rfl,"dict_itemiterator",_,⟨_,X8 _ rfl,rfl⟩,F.slot_dict_itemiterator_next.lookup,?_⟩) (by simp only[sizeOk,Builtin.Dict_items.ownedTupleFields,N3,N4,M1,List.length_nil,sizeLine_eq];lia);simpa [rawInt,Builtin.Dict_items.ownedTupleFields] using i
end
end PySem
namespace L2
open PySem PySem.Spec PyProof.Rows
def jnI(a:Addr)(o:Obj)(kvs:List<|List Key×V):It:=
 ⟨λi H=>H a=some (.frz o<|.dT kvs)/\i<kvs.length,λi H x H'=>∃ p kv b,kvs[i]?=some kv/\x=.ref p/\H p=none/\H b=some (.tup<|kv.1.map kV)/\H'=upd H p (.tup [.ref b,kv.2]),λi H=>H a=some (.frz o<|.dT kvs)/\kvs.length<=i⟩
def jlY{P}{w}{H}{h}{a}{o}{b}(ok:HOk P w H h)(e:H a=some (.frz o<|.dT b)):
  h.get? a=some o/\(a==sysModules)=false/\o.ExactDict/\∃ xs es ep,KT H b xs/\o.data=.dict es ep/\es.toList=xs.map (entryOfKey<|tupleKind<|jO P w):=by
 obtain⟨c,f⟩:=(ok a _ e);obtain⟨_,g,xs,r,i,es,ep,d,g2,g3,g4,_⟩:=(f);rw[c] at d;cases d;exact⟨c,g,g2,xs,es,ep,r,g3,g4⟩
def jnv{H}{a}{xs}(r:KT H a xs):∀{i:Nat}{q},xs[i]?=some q->∃ v,An3 (a[i]?=some (q.1,v)) (H q.2.1=some (.tup<|q.1.map kV)) (RelV v q.2.2):=by
 induction r with
 | nil=>intro i q e;simp at e
 | @cons p q c d h _ b=>
  intro i x e;cases i with
  | zero=>cases e;exact⟨p.2,by rw[<- h.1];rfl,by rw[<- h.1];exact h.2.1,h.2.2⟩
  | succ i=>exact b ⇑e
def jeb{P}{w}{K}{elts}{m}{pos}(a g)(o)(B)(es)(ep)(y:o.data=.dict es ep):
  Turn P w K (.Tuple elts m pos) (jnI a o B) [g] g (λi h=>∃ ok ov,IsItemIter h g a i es.size ep ok ov) where
 mem:=by simp
 obj:=λi h f b c=>by
  have e:b=g:=by simpa using c
  subst e;obtain⟨ok,ov,d⟩:=f;exact⟨_,d,λv q=>by cases q⟩
 keep:=λi h W f k=>by
  obtain⟨ok,ov,d⟩:=f;exact⟨ok,ov,k g (by simp) _ d⟩
 item:=by
  intro X Y Z hK S i p s σ H E I A f C;obtain⟨D,T⟩:=C;obtain⟨F,g2,gx,t,G,J,r,g3,g4⟩:=jlY I.hok D;rw[y] at g3;cases g3;have j:=Paired.length r;obtain⟨q,U⟩:∃ q,t[i]?=some q:=⟨t[i]'∅,by simp[<- j,T]⟩;obtain⟨v,L,c,rv⟩:=jnv r U;obtain⟨ok,ov,d⟩:=f;have l:=N1 d;have M:es[i]?=some (entryOfKey (tupleKind<|jO X.prog X.w) q):=by rw[<- Array.getElem?_toList,g4,List.getElem?_map,U];rfl
  obtain⟨N,gg,dd,V,os⟩:=s;refine joc d F y M λh1 O hT hk=>⟨_,rfl,wpAny_letOwnedTupleGo_items O λh2 Q R=>?_⟩;have n:=R;have u:=(n.2 _<|Nat.ne_of_gt l).trans hT;have kk:∀ b o,b∉[g]->N.get? b=some o->h2.get? b=some o:=λb o c q=>by
   have x:b≠g:=by simpa using c
   exact(n.2 b x).trans (hk b o x q)
  have I1:=I.turnedNew (t':=V) (xs:=[.ref q.2.1,v]) kk A (M8 _) ⟨⟨_,u,rfl,_,rfl⟩,_,u,rfl⟩ (.cons rfl<|.cons rv .nil) (by show 2<=sizeLine;decide);refine⟨.ref N.objs.size,_,I1,rfl,⟨_,(q.1,v),q.2.1,L,rfl,I.hok.fresh<|M8 _,c,rfl⟩,⟨_,_,Q⟩,λb c=>?_⟩;rw[jd]
  ·exact(A b c).1
  ·intro z;have e:b=g:=by simpa using c
   exact absurd l (by rw[<- e,z];exact Nat.lt_irrefl _)
 done:=by
  intro X Y Z hK S i p s σ H E I A f C;obtain⟨D,T⟩:=C;obtain⟨F,g2,gx,t,G,J,r,g3,g4⟩:=jlY I.hok D;rw[y] at g3;cases g3;have j:=Paired.length r;have hes:es.size=t.length:=by rw[<- Array.length_toList,g4,L1]
  obtain⟨ok,ov,d⟩:=f;obtain⟨N,gg,dd,V,os⟩:=s;exact jpn (I.ok.hd S) d F y (Array.getElem?_eq_none ∅) λW eb=>⟨rfl,I.turnedL (λb o c q=>eb b o ⇑c q) A⟩
 self:=λ_ _ _ _ _ f h=>by
  obtain⟨ok,ov,d⟩:=f;exact KP d h
def jou(te:TE):TI:=λσ H R=>te σ H λx H1=>∃ a kvs,x=.ref a/\H1 a=some (.dT kvs)/\∀ o,R (jnI a o kvs)<|upd H1 a<|.frz o<|.dT kvs
section
variable {X:Cx}
def Inv.frzT{pins}{σ:St}{H}{s}{a}{c}(I:Inv X pins σ H s)(e:H a=some (.dT c)):
  Ex3 λo es ep=>An5 (o.data=.dict es ep) (s.heap.get? a=some o) o.ExactDict ((a==sysModules)=false) (Inv X pins σ (upd H a<|.frz o<|.dT c) s):=by
 obtain⟨z,hd,i,r,o,es,ep,d,g,h,j,k⟩:=(I.hok a _ e);refine⟨o,es,ep,h,d,g,hd,?_⟩;refine xB I (by rw[e];exact trivial) ⟨rfl,λ_ _=>rfl⟩ ⟨o,d⟩<|⟨d,z,hd,i,KT.keeps (r)<|λb l f=>?_,o,es,ep,d,g,h,j,k⟩;rw[jd<|λz=>by rw[z,e] at f;cases f];exact f
def jmT{elts}{m}{tpos apos cpos}{e}{te}(D:PE X e te)
  (f:attributeBase e "items" X.env (eval e X.env)=eval e X.env:=by rfl) (g:(apos.endLine==cpos.line)=true:=by rfl):PI X (.Tuple elts m tpos) (.Call (.Attribute e "items" apos) [] [] cpos) (jou te):=by
 intro d s σ H R I h;refine wpAny_Call_method0_late f g<|thn (D d s σ H _ I h) λv s1 ⟨x,E,k,r1,a,i,ex,l,q⟩=>?_;subst ex;obtain rfl:v=Value.ref a:=r1;obtain⟨G,J,_⟩:=jdi k<|.inr ⟨i,.inl l⟩;obtain⟨T,n,p,U,r,K,t,_⟩:=k.frzT l;obtain⟨c,L,M,N,os⟩:=s1;refine⟨"dict","dict.items",PySem.F.plainAttrs_dict,PySem.F.slot_dict_items,PySem.F.type_dict_items,G,J,Calls.callWith_builtin rfl<|PySem.evalArgs_none<|zq (es:=n) (ep:=p) r K t ?_⟩;have z:∀ b u,c.get? b=some u->(c.push ({cls:=.type "dict_items",data:=.fields #[.ref a]}:Obj)).get? b=some u:=λb u q=>L8 _ q;have A:Inv X d σ E ⟨c.push {cls:=.type "dict_items",data:=.fields #[.ref a]},L,M,N,os⟩:=k.kept z;have O:(c.push ({cls:=.type "dict_items",data:=.fields #[.ref a]}:Obj)).IsItemsView c.objs.size a:=⟨_,X8 _ rfl,rfl,rfl⟩;obtain⟨o,w,y,C,P,V,hd,B⟩:=A.frzT l;refine jnd O P C ?_;generalize c.push ({cls:=.type "dict_items",data:=.fields #[.ref a]}:Obj)=hp2 at *;have Q:∀ b u,hp2.get? b=some u->(hp2.push ({cls:=.type "dict_itemiterator",data:=.fields #[.none,.bool false,.ref a,.int 0 0,.int w.size 0,.int y 0,.none,.none]}:Obj)).get? b=some u:=λb u q=>L8 _ q;refine⟨hp2.objs.size,[hp2.objs.size],_,_,_,rfl,B.kept Q,jeb a _ o i w y C,⟨.none,.none,X8 _ rfl⟩,λb S=>?_,q o⟩;have j:hp2.objs.size<=b:=by
  have:b=hp2.objs.size:=by simpa using S
  rw[this];exact M8 _
 exact B.fpOk j<|B.hok.fresh j
end
end L2
set_option maxHeartbeats 1000000
namespace PySem
namespace F
end F
end PySem
namespace L2
open PySem PySem.Spec PyProof.Rows
structure Z3(z TI TO j1 j2 j3 t l m:Addr):Prop where
 TIz:TI≠z
 TOz:TO≠z
 j1z:j1≠z
 j2z:j2≠z
 j3z:j3≠z
 TITO:TI≠TO
 TIj1:TI≠j1
 TIj2:TI≠j2
 TIj3:TI≠j3
 TOj1:TO≠j1
 TOj2:TO≠j2
 TOj3:TO≠j3
 j12:j1≠j2
 j13:j1≠j3
 j23:j2≠j3
 out:∀ x,x=t\/x=l\/x=m->x≠z/\x≠TO/\x≠j1/\x≠j2/\x≠j3
end L2
namespace PySem
namespace F
end F
end PySem
namespace L2
open PySem PySem.Spec PyProof.Rows
end L2
namespace PySem
open Sem (wp)
namespace F
end F
end PySem
namespace L2
open PySem PySem.Spec PyProof.Rows
end L2
namespace PySem
open L2 PyProof.Rows
end PySem
namespace L2
open PySem PySem.Spec PyProof.Rows
abbrev V3(h:Heap)(T:Addr)(xs:List Value):Prop:=h.get? T=some {cls:=.type "tuple",data:=.seq xs.toArray}
def ItAt(h:Heap)(j c:Addr)(n:Nat)(vs:Array Value):Bool->Prop
 | true=>h.IsListIter j c n/\h.IsList c vs
 | false=>h.IsTupleIter j c n/\h.IsTuple c vs
def ItAt.ext{h k}{j c a}{n}{vs}{K}(q:ItAt h j c n vs K)(b:Heap.SameBut a h k)(d:j≠a)(e:c≠a):ItAt k j c n vs K:=by
 cases K<;>exact⟨q.1.extBut b.extBut d,q.2.extBut b.extBut e⟩
def ItAt.up{h k}{j c}{n}{vs}{K}(q:ItAt h j c n vs K)(a:∀ o,h.get? j=some o->k.get? j=some o)(b:∀ o,h.get? c=some o->k.get? c=some o):ItAt k j c n vs K:=by
 cases K <;>
 ·obtain⟨⟨d,e,f⟩,g,e2,i⟩:=q;exact⟨⟨d,a _ e,f⟩,g,b _ e2,i⟩
section
variable {prog:Program}{w:World}{A:Around}{E:J0}{s:Shared}
def jhi{j c}{n}{vs}{K}{x}{C}(q:ItAt s.heap j c n vs K)(a:c≠j)(e:vs[n]?=some x)
  (go:∀ k,ItAt k j c (n+1) vs K->Heap.SameBut j s.heap k->C x {s with heap:=k}):wpAny (model prog w) A (Builtin.SmallTypes.nextOf<|.ref j) C E s:=by
 cases K with
 | true=>exact wpAny_nextOf_list_item q.1 q.2 e λk p b=>go k ⟨p,q.2.extBut (Heap.SameBut.extBut b) a⟩ b
 | false=>exact jeK q.1 q.2 e λk p b=>go k ⟨p,q.2.extBut (Heap.SameBut.extBut b) a⟩ b
def jjY(a:V3 s.heap T xs)(b:xs.length<=1000)
  (h:∀ h',V3 h' T (xs.set k x)->Heap.SameBut T s.heap h'->Q () {s with heap:=h'}):wpAny (model prog w) A (updateSeq T (·.setIfInBounds k x)) Q E s:=by
 have l:xs.toArray.size<=1000:=by simpa using b
 exact wpAny_updateSeq a rfl (h _ (by rw[V3,Heap.get?_update_self _ a rfl];simp[Obj.mapSeq])<|Heap.SameBut.update ..) (N7 l<|by decide) (by rw[Array.size_setIfInBounds];exact N7 l<|by decide)
def jpo{α:Type}{β}{f}{b}{Q:β->Shared->Prop}(St:Nat->Heap->Prop):∀(l:List α) k {s},St k s.heap ->
  (∀ i x h,l[i]?=some x->St (k+i) h->wpAny (model prog w) A (f (x,k+i) b) (λr s'=>r=.yield b/\∃ h',s'={s with heap:=h'}/\St (k+i+1) h') E {s with heap:=h}) ->
  (∀ h,St (k+l.length) h->Q b {s with heap:=h})->wpAny (model prog w) A (forIn (l.zipIdx k) b f) Q E s:=by
 intro l
 induction l with
 | nil=>
  intro k s a _ c;exact M6<|c _ a
 | cons x l g=>
  intro k s a d c;rw[List.zipIdx_cons,List.forIn_cons];refine L3<|wpAny_mono (d 0 x s.heap rfl a) ?_<|λ_ _ z=>z
  ·rintro r s' ⟨rfl,h',rfl,j⟩;exact g (k+1) j (λi x h e q=>by have:=d (i+1) x h ⇑e (by rw[show k+(i+1)=k+1+i by lia];exact q);rw[show k+(i+1)=k+1+i by lia] at this;exact this)<|λh q=>c h (by rw[M1,show k+(l.length+1)=k+1+l.length by lia];exact q)
structure Zi where
 j:Addr
 c:Addr
 vs:Array Value
 x:Value
 k:Bool
structure ZA(z TI TO:Addr)(its:List Zi):Prop where
 TIz:TI≠z
 TOz:TO≠z
 TITO:TI≠TO
 jz:∀ q∈its,q.j≠z/\q.j≠TI/\q.j≠TO
 cz:∀ q∈its,q.c≠z/\q.c≠TO/\∀ r∈its,q.c≠r.j
 nd:(its.map (·.j)).Nodup
variable {z TI TO:Addr}{its:List Zi}{n:Nat}{os:List Value}
structure ZSn(s:Shared)(z TI TO:Addr)(its:List Zi)(n:Nat)(os:List Value)(i:Nat)(h:Heap):Prop where
 a:IsZip h z TI TO .ellipsis
 b:V3 h TO ((its.take i).map (·.x)++os.drop i)
 c:∀(m:Nat) (q:Zi),its[m]?=some q->ItAt h q.j q.c (if m<i then n+1 else n) q.vs q.k
 d:h.objs.size=↥s
 e:∀ a o,a≠z->a≠TO->(∀ q∈its,a≠q.j)->s.heap.get? a=some o->h.get? a=some o
def jh4{C:J0}(D:ZA z TI TO its)(y:IsZip s.heap z TI TO .none)(qI:V3 s.heap TI<|its.map λq=>.ref q.j)(X:V3 s.heap TO os)(Y:its≠[])(Z:os.length=its.length)(hl:its.length<=1000)
  (q:∀ r∈its,ItAt s.heap r.j r.c n r.vs r.k/\r.vs[n]?=some r.x)
  (go:∀ k,IsZip k z TI TO (rawInt ↥s)->V3 k TO (its.map (·.x))->(∀ r∈its,ItAt k r.j r.c (n+1) r.vs r.k)->V3 k ↥s (its.map (·.x)) ->
   (∀ a o,a≠z->a≠TO->(∀ r∈its,a≠r.j)->s.heap.get? a=some o->k.get? a=some o)->C (.ref ↥s) {s with heap:=k}):
  wpAny (model prog w) A (Builtin.«zip.__next__» ⟨[.ref z],[]⟩) (λfin s'=>∃ v,fin=.done (.ret v)/\C v s') E s:=by
 refine(show wpAny (model prog w) A (field (.ref z) 2 >>= _) _ _ _ from L3 (U6 y rfl rfl<|L3<|U6 y rfl rfl<|L3<|wpAny_seqItems qI rfl ?_));have he:(its.map λq=>Value.ref q.j).toArray.isEmpty=false:=by cases its<;>simp at Y ⊢
 simp only[he];refine(L3<|L3<|U6 y rfl rfl<|M6<|L3<|wpAny_rule<|L3<|U6 y rfl rfl<|L3<|wpAny_setField_rec y (by simp) λk1 z1 H=>(L3<|jpo (ZSn s z TI TO its n os) (its.map λq=>Value.ref q.j) 0 (s:={s with heap:=k1}) ⟨z1,?_,λm r e=>?_,H.1,λa o g _ _ e=>H.extBut _ _ g e⟩ (λi x h e S=>?_) λh S=>?_))
 ·rw[List.take_zero,List.drop_zero];exact H.extBut _ _ D.TOz X
 ·have f:=List.mem_of_getElem? e;exact(q r f).1.ext H (D.jz r f).1 (D.cz r f).1
 ·rw[Nat.zero_add] at S ⊢;rw[List.getElem?_map] at e;obtain⟨r,u,rfl⟩:=Option.map_eq_some_iff.mp e;have f:=List.mem_of_getElem? u;have hi:=(L9.mp u).1;have hit:=S.c i r u;rw[if_neg<|Nat.lt_irrefl _] at hit;refine L3<|wpAny_onRaise (L3<|jhi hit ((D.cz r f).2.2 r f) (q r f).2 λk2 p B=>M6 ?_)
  have P:=B.extBut _ _ (D.jz r f).2.2.symm S.b;refine L3<|wpAny_seqItems P rfl<|L3<|jjY P (by simp;lia) λk3 o3 F=>?_;refine L3<|wpAny_letGo<|M6 ⟨rfl,k3,rfl,?_⟩;have K:∀ m t,its[m]?=some t->m≠i->t.j≠r.j:=λm t l L ej=>by
   have:=(List.getElem_inj (h₀:=by simpa using((L9.mp l).1)) (h₁:=by simpa using hi) D.nd).mp (by simp[(L9.mp l).2,(L9.mp u).2,ej]);exact L this
  refine⟨F.extBut _ _ D.TOz.symm<|B.extBut _ _ (D.jz r f).1.symm S.a,?_,λm t l=>?_,by rw[F.1,B.1];exact S.d,λa o g I J e=>F.extBut _ _ I<|B.extBut _ _ (J r f)<|S.e a o g I J e⟩
  ·have ee:(List.map (·.x) (its.take i)++os.drop i).set i r.x=List.map (·.x) (its.take<|i+1)++os.drop (i+1):=by
    rw[List.take_add_one,u,Option.toList,N5,List.append_assoc,List.set_append_right _ _<|by simp;lia];have M:i<os.length:=by lia
    rw[List.drop_eq_getElem_cons M];have:i-(List.map (·.x)<|its.take i).length=0:=by simp;lia
    rw[this];rfl
   rw[<- ee];exact o3
  ·have N:=List.mem_of_getElem? l;by_cases e2:m=i
   ·subst e2;cases u.symm.trans l;rw[if_pos<|Nat.lt_succ_self _];exact p.ext F (D.jz r f).2.2 (D.cz r f).2.1
   ·have x1:=((S.c m t l).ext B (K m t l e2) ((D.cz t N).2.2 r f)).ext F (D.jz t N).2.2 (D.cz t N).2.1;have:(m<i+1)=(m<i):=by apply propext;lia
    simp only[this];exact x1
 ·rw[Nat.zero_add,L1] at S;have O:=S.b;rw[List.take_length,<- Z,List.drop_length,M9] at O;refine L3<|wpAny_seqItems O rfl<|L3<|wpAny_newTuple ?_;have Q:=N1 S.a;refine(L3 ?_);have z8:IsZip (h.push {cls:=.type "tuple",data:=.seq (its.map (·.x)).toArray}) z TI TO .ellipsis:=L8 _ S.a;refine L3<|wpAny_setField_rec z8 (by simp) λk9 z9 R=>(wpAny_setField_rec z9 (by simp) λT U V=>?_);have up:∀ c o,c≠z->h.get? c=some o->T.get? c=some o:=λc o g e=>V.extBut _ _ g<|R.extBut _ _ g<|L8 _ e;have W:=V.extBut _ _ (Nat.ne_of_gt Q)<|R.extBut _ _ (Nat.ne_of_gt Q)<|X8 _ rfl;rw[S.d] at U W;refine M6 ⟨_,rfl,?_⟩;rw[S.d];refine go T U (up _ _ D.TOz O) (λr f=>?_) W λa o g I J e=>up a o g<|S.e a o g I J e;obtain⟨m,G,rfl⟩:=List.getElem_of_mem f;have x:=S.c m _<|X6 G;rw[if_pos G] at x;refine x.up (λo e=>up _ _ (D.jz _ f).1 e)<|λo e=>up _ _ (D.cz _ f).1 e
def jjU{j c}{vs}{K}{C}(a:A.handled=none)(q:ItAt s.heap j c n vs K)(e:vs[n]?=none)
  (go:∀ k e,Heap.ExtBut j s.heap k->(∃ o,k.get? e=some o/\o.cls=.type "StopIteration")->E (.ref e) {s with heap:=k}):wpAny (model prog w) A (Builtin.SmallTypes.nextOf<|.ref j) C E s:=by
 cases K with
 | true=>exact wpAny_nextOf_list_end a q.1 q.2 e go
 | false=>exact jiJ a q.1 q.2 e go
def jkU{C}{r}(u:A.handled=none)(D:ZA z TI TO<|r::its)(b:IsZip s.heap z TI TO .none)(qI:V3 s.heap TI<|(r::its).map λq=>.ref q.j)(q:ItAt s.heap r.j r.c n r.vs r.k)(ex:r.vs[n]?=none)
  (go:∀ k e,(∀ a o,a≠z->a≠TO->(∀ t∈r::its,a≠t.j)->s.heap.get? a=some o->k.get? a=some o)->(∃ o,k.get? e=some o/\o.cls=.type "StopIteration")->E (.ref e) {s with heap:=k}):
  wpAny (model prog w) A (Builtin.«zip.__next__» ⟨[.ref z],[]⟩) C E s:=by
 have d:r∈r::its:=L7;refine(show wpAny (model prog w) A (field (.ref z) 2 >>= _) _ _ _ from L3 (U6 b rfl rfl<|L3<|U6 b rfl rfl<|L3<|wpAny_seqItems qI rfl<|L3<|L3<|U6 b rfl rfl<|M6<|L3<|wpAny_rule<|L3<|U6 b rfl rfl<|L3<|wpAny_setField_rec b (by simp) λH v g=>(L3<|L3<|L3<|wpAny_onRaise (L3<|jjU u (q.ext g (D.jz r d).1 (D.cz r d).1) ex λI e h y=>?_))));obtain⟨B,f,i⟩:=y;have l:=h _ _ (D.jz r d).1.symm v;have ne:e≠z:=λx=>by subst x;rw[l] at f;cases f;simp at i
 exact wpAny_setField_rec l (by simp) λF _ m=>go F e (λc o p _ G x=>m.extBut _ _ p<|h _ _ (G r d)<|g.extBut _ _ p x) ⟨B,m.extBut _ _ ne f,i⟩
def jiP{C}(D:ZA z TI TO its)(b:IsZip s.heap z TI TO .none)(qI:V3 s.heap TI<|its.map λq=>.ref q.j)(d:V3 s.heap TO os)(e:its≠[])(f:os.length=its.length)(g:its.length<=1000)
  (q:∀ r∈its,ItAt s.heap r.j r.c n r.vs r.k/\r.vs[n]?=some r.x)
  (go:∀ k,IsZip k z TI TO (rawInt ↥s)->V3 k TO (its.map (·.x))->(∀ r∈its,ItAt k r.j r.c (n+1) r.vs r.k)->V3 k ↥s (its.map (·.x)) ->
   (∀ a o,a≠z->a≠TO->(∀ r∈its,a≠r.j)->s.heap.get? a=some o->k.get? a=some o)->C (some<|.ref ↥s) {s with heap:=k}):wpAny (model prog w) A (pyNext<|.ref z) C E s:=by
 have ty:s.TypeIs (.ref z) "zip":=⟨_,b,rfl⟩;exact L3<|wpAny_attempt<|wpAny_callSpecial?_slot ty F.slot_zip_next<|wpAny_call_entry F.slot_zip_next ty F.entry_zip_next
  (jh4 D b qI d e f g q λk c1 h i l m=>M6<|go k c1 h i l m) (F.args_zip_next_1 _)
def jje{C}{r}(d:A.handled=none)(D:ZA z TI TO<|r::its)(b:IsZip s.heap z TI TO .none)(qI:V3 s.heap TI<|(r::its).map λq=>.ref q.j)(q:ItAt s.heap r.j r.c n r.vs r.k)(ex:r.vs[n]?=none)
  (go:∀ k,(∀ a o,a≠z->a≠TO->(∀ t∈r::its,a≠t.j)->s.heap.get? a=some o->k.get? a=some o)->C none {s with heap:=k}):wpAny (model prog w) A (pyNext<|.ref z) C E s:=by
 have ty:s.TypeIs (.ref z) "zip":=⟨_,b,rfl⟩;refine L3<|wpAny_attempt<|wpAny_callSpecial?_slot ty F.slot_zip_next<|wpAny_call_entry F.slot_zip_next ty F.entry_zip_next (jkU d D b qI q ex λk e kp f=>?_)<|F.args_zip_next_1 _;obtain⟨o,g,h⟩:=f;exact L3<|wpAny_isInstance ⟨o,g,h⟩ isSubtype_stop<|M6<|go _ kp
end
section
variable {prog:Program}{w:World}{A:Around}{E:J0}{s:Shared}
def SqH(h:Heap)(c:Addr)(vs:Array Value):Bool->Prop
 | true=>h.IsList c vs
 | false=>h.IsTuple c vs
def SqH.push{h}{c}{vs}{K}(q:SqH h c vs K)(o):SqH (h.push o) c vs K:=by
 cases K <;>
 ·obtain⟨a,e,t⟩:=q;exact⟨a,L8 _ e,t⟩
def jjg{c}{vs}{K}{Q}(q:SqH s.heap c vs K)
  (go:∀ o:Obj,ItAt (s.heap.push o) ↥s c 0 vs K->Q (.ref ↥s) {s with heap:=s.heap.push o}):wpAny (model prog w) A (pyIter<|.ref c) Q E s:=by
 cases K with
 | true=>exact wpAny_pyIter_list q<|go _ ⟨⟨_,X8 _ rfl,rfl,rfl⟩,SqH.push q _⟩
 | false=>exact wpAny_pyIter_tuple q<|go _ ⟨⟨_,X8 _ rfl,rfl,rfl⟩,SqH.push q _⟩
def jfb:∀(l:List<|Addr×Array Value×Bool) acc {s:Shared},(∀ p∈l,SqH s.heap p.1 p.2.1 p.2.2) ->
  (∀ k:Heap,k.objs.size=↥s+l.length->(∀ i p,l[i]?=some p->ItAt k (↥s+i) p.1 0 p.2.1 p.2.2)->(∀ c o,s.heap.get? c=some o->k.get? c=some o) ->
   Q (acc++((List.range' ↥s l.length).map Value.ref).toArray) {s with heap:=k}) ->
  wpAny (model prog w) A (forIn (l.map λp=>Value.ref p.1) acc λx r=>do pure (ForInStep.yield<|r.push<|<- holding r.toList (pyIter x))) Q E s:=by
 intro l
 induction l with
 | nil=>
  intro acc s _ go;exact M6 ⇑(go s.heap rfl (by simp) λ_ _ e=>e)
 | cons p l d=>
  intro acc s h go;rw[L5,List.forIn_cons];refine L3<|L3<|wpAny_holding<|jjg (h p L7) λo q=>(M6<|d _ (λr f=>(h r<|L6 _ f).push _) λk b hi a=>?_);have s1:(s.heap.push o).objs.size=↥s+1:=Heap.size_push ..;simp only[s1] at b hi ⊢;have g:=go k (by rw[b,M1];lia) (λi r e=>?_) λc j e=>a c j<|L8 _ e
  ·rw[M1,List.range'_succ,L5] at g;have e2:acc.push (.ref ↥s)++((List.range' (↥s+1) l.length).map Value.ref).toArray=acc++(Value.ref ↥s::(List.range' (↥s+1) l.length).map Value.ref).toArray:=by apply Array.ext';simp
   rw[e2];exact g
  ·cases i with
   | zero=>cases e;exact q.up (a _)<|a _
   | succ i=>rw[show ↥s+(i+1)=↥s+1+i by lia];exact hi i r ⇑e
def jaF{Q}{l:List (Addr×Array Value×Bool)}(h:∀ p∈l,SqH s.heap p.1 p.2.1 p.2.2)
  (go:∀ k:Heap,k.objs.size=↥s+l.length->(∀ i p,l[i]?=some p->ItAt k (↥s+i) p.1 0 p.2.1 p.2.2)->(∀ c o,s.heap.get? c=some o->k.get? c=some o) ->
   Q ((List.range' ↥s l.length).map Value.ref) {s with heap:=k}):wpAny (model prog w) A (Builtin.SmallTypes.iterAll<|l.map λp=>Value.ref p.1) Q E s:=by
 refine L3<|jfb l #[] h λk a b d=>M6 ?_;have:=go k a b d;simpa using this
def jie(l:List<|Addr×Array Value×Bool)(a:l.length<=1000):Meets (Builtin.«zip.__new__» ⟨.type "zip"::l.map λp=>.ref p.1,[]⟩) (λ_ R s=>(∀ p∈l,SqH s.heap p.1 p.2.1 p.2.2)/\∀ k:Heap,k.objs.size=↥s+l.length->(∀ i p,l[i]?=some p->ItAt k (↥s+i) p.1 0 p.2.1 p.2.2)->(∀ c o,s.heap.get? c=some o->k.get? c=some o) ->
   R (.ok<|.ret<|.ref<|k.objs.size+2) { s with heap:=((k.push {cls:=.type "tuple",data:=.seq ((List.range' ↥s l.length).map Value.ref).toArray}).push {cls:=.type "tuple",data:=.seq (l.map λ_=>Value.none).toArray}).push {cls:=.type "zip",data:=.fields #[.none,.bool false,.bool false,.ref k.objs.size,.ref<|k.objs.size+1]} }):=
 .of_wp λprog w A R s h=>by
  obtain⟨d,h⟩:=h;have b:=sub_zip
  wp_walk using jaF d
  intro k e e2 e3;have f:(List.map (λ_=>Value.none)<|List.map Value.ref<|List.range' ↥s l.length)=l.map λ_=>Value.none:=by
   rw[U1];apply List.ext_getElem<;>simp
  rw[f];refine L3<|wpAny_newTuple ?_ (by simp;exact N7 a<|by decide);refine L3 (wpAny_newTuple ?_<|by simp;exact N7 a<|by decide)
  wp_walk
  refine⟨_,rfl,?_⟩;rw[Heap.size_push,Heap.size_push];exact(h k e e2 e3)
def jhR{l:List (Addr×Array Value×Bool)}{C}(j:l.length<=1000)(a:checkTypeCall "zip" ⟨l.map λp=>.ref p.1,[]⟩=pure ())(b:checkBuiltinCall "zip.__new__" ⟨.type "zip"::l.map λp=>.ref p.1,[]⟩=pure ())(hok:∀ obj,argsOk "object.__init__" ⟨obj::l.map λp=>.ref p.1,[]⟩)
  (h1:∀ p∈l,SqH s.heap p.1 p.2.1 p.2.2)
  (go:∀ k N,N=↥s+l.length->IsZip k (N+2) N (N+1) .none->V3 k N ((List.range' ↥s l.length).map Value.ref)->V3 k (N+1) (l.map λ_=>.none)->(∀ i p,l[i]?=some p->ItAt k (↥s+i) p.1 0 p.2.1 p.2.2)->(∀ c o,s.heap.get? c=some o->k.get? c=some o)->C (.ref<|N+2) {s with heap:=k}):
  wpAny (model prog w) A (call (.type "zip")<|l.map λp=>.ref p.1) C E s:=by
 refine callType_new F.called_zip (by decide) a b hok F.entry_zip_new (jie l j) ⟨h1,λk m e2 e3=>?_⟩;have d:∀(h:Heap) o,(h.push o).objs.size=h.objs.size+1:=λh o=>Heap.size_push ..;have f:=X8 (((k.push {cls:=.type "tuple",data:=.seq ((List.range' ↥s l.length).map Value.ref).toArray}).push {cls:=.type "tuple",data:=.seq (l.map λ_=>Value.none).toArray})) (o:={cls:=.type "zip",data:=.fields #[.none,.bool false,.bool false,.ref k.objs.size,.ref<|k.objs.size+1]}) rfl;rw[d,d] at f;have up:∀ c o,k.get? c=some o->(((k.push {cls:=.type "tuple",data:=.seq ((List.range' ↥s l.length).map Value.ref).toArray}).push {cls:=.type "tuple",data:=.seq (l.map λ_=>Value.none).toArray}).push {cls:=.type "zip",data:=.fields #[.none,.bool false,.bool false,.ref k.objs.size,.ref<|k.objs.size+1]}).get? c=some o:=λc o x=>L8 _<|L8 _<|L8 _ x;have g:=X8 (k.push {cls:=.type "tuple",data:=.seq ((List.range' ↥s l.length).map Value.ref).toArray}) (o:={cls:=.type "tuple",data:=.seq (l.map λ_=>Value.none).toArray}) rfl;rw[d] at g;exact⟨⟨_,f,rfl⟩,go _ k.objs.size m f (L8 _<|L8 _<|X8 k rfl) (L8 _ g) (λi p e=>(e2 i p e).up (up _) (up _)) λc o x=>up c o<|e3 c o x⟩
end
def SqB(K:W4)(H:Hp)(c:Addr):Bool->List V->Prop
 | true,q=>SqL K H c q
 | false,q=>SqT K H c q
def ItB(h:Heap)(j c:Addr)(n:Nat):Bool->Prop
 | true=>h.IsListIter j c n
 | false=>h.IsTupleIter j c n
structure Zp where
 j:Addr
 c:Addr
 k:Bool
def IzN(K:W4)(as:List<|Addr×Bool):It:=
 ⟨λi H=>∀ a∈as,∃ q x,SqB K H a.1 a.2 q/\q[i]?=some x,
  λi H x H'=>∃ p xs,xs.length=as.length/\(∀(m:Nat) a,as[m]?=some a->∀ q,SqB K H a.1 a.2 q->∃ u,xs[m]?=some u/\q[i]?=some u)/\x=.ref p/\H p=none/\H'=upd H p (.tup xs),
  λi H=>∃ a r q,as=a::r/\SqB K H a.1 a.2 q/\q.length<=i⟩
def jf0(I:Inv X pins σ H s)(h:SqB X.K H c k q)(hi:ItB s.heap j c n k):∃ us:List Value,Vals q us/\ItAt s.heap j c n us.toArray k:=by
 cases k with
 | true=>
  obtain⟨us,a,p,_⟩:=I.list h;exact⟨us,a,hi,p.isList⟩
 | false=>
  obtain⟨us,a,p,_⟩:=I.tuple h;exact⟨us,a,hi,p⟩
def jh5(I:Inv X pins σ H s)(h:SqB X.K H c k q)(h':SqB X.K H c k q'):q=q':=by
 cases k with
 | true=>exact I.list_inj h h'
 | false=>exact I.tuple_inj h h'
def zis(I:Inv X pins σ H s):∀ ps:List Zp,(∀ p∈ps,∃ q x,SqB X.K H p.c p.k q/\q[i]?=some x)->(∀ p∈ps,ItB s.heap p.j p.c i p.k) ->
  Ex2 λ(its:List Zi) (xs:List V)=>An4 (its.map (λr=>(⟨r.j,r.c,r.k⟩:Zp))=ps) (Vals xs (its.map (·.x))) (∀ r∈its,ItAt s.heap r.j r.c i r.vs r.k/\r.vs[i]?=some r.x) (∀(m:Nat) p,ps[m]?=some p->∀ q,SqB X.K H p.c p.k q->∃ u,xs[m]?=some u/\q[i]?=some u):=by
 intro ps
 induction ps with
 | nil=>
  intro _ _;exact⟨[],[],rfl,.nil,by simp,by simp⟩
 | cons p ps o=>
  intro g h;obtain⟨its,xs,e,v,a,b⟩:=o (λr d=>g r<|by simp[d]) λr d=>h r (by simp[d]);obtain⟨q,x,l,n⟩:=g p (by simp);obtain⟨w,y,z⟩:=jf0 I l<|h p (by simp);obtain⟨u,A,B⟩:=y.get n;refine⟨⟨p.j,p.c,w.toArray,u,p.k⟩::its,x::xs,by rw[L5,e],.cons B v,λr d=>?_,λm t e2 C f=>?_⟩
  ·rcases M4.mp d with rfl | d
   ·exact⟨z,by simpa using A⟩
   ·exact a r d
  ·cases m with
   | zero=>cases e2;exact⟨x,rfl,by rw[jh5 I f l];exact n⟩
   | succ m=>exact b m t ⇑e2 C f
structure ZP(z TI TO:Addr)(ps:List Zp):Prop where
 TIz:TI≠z
 TOz:TO≠z
 TITO:TI≠TO
 jz:∀ q∈ps,q.j≠z/\q.j≠TI/\q.j≠TO
 cz:∀ q∈ps,q.c≠z/\q.c≠TO/\∀ r∈ps,q.c≠r.j
 nd:(ps.map (·.j)).Nodup
def ZP.za{z TI TO}{ps}{its}(D:ZP z TI TO ps)(e:its.map (λr=>(⟨r.j,r.c,r.k⟩:Zp))=ps):ZA z TI TO its:=by
 subst e;refine⟨D.TIz,D.TOz,D.TITO,λq a=>D.jz _<|List.mem_map_of_mem a,λq a=>?_,by have:=D.nd;rwa [U1] at this⟩;have:=D.cz _<|List.mem_map_of_mem a;exact⟨this.1,this.2.1,λr b=>this.2.2 _<|List.mem_map_of_mem b⟩
def ItB.obj(q:ItB h j c n k):∃ o,h.get? j=some o/\∀ v,o.data≠.cell v:=by
 cases k <;>
 ·obtain⟨o,e,_,d⟩:=q;exact⟨o,e,λv z=>by rw[d] at z;cases z⟩
def ItB.up(q:ItB h j c n b)(a:∀ o,h.get? j=some o->k.get? j=some o):ItB k j c n b:=by
 cases b <;>
 ·obtain⟨o,e,t⟩:=q;exact⟨o,a _ e,t⟩
def ItAt.itB(q:ItAt h j c n vs k):ItB h j c n k:=by
 cases k<;>exact q.1
def jjq{P}{w}{K}{elts}{n}{pos}(z TI TO)(ps)(D:ZP z TI TO ps)(hn:ps≠[])(hl:ps.length<=1000):
  Turn P w K (.Tuple elts n pos) (IzN K<|ps.map λp=>(p.c,p.k)) (z::TI::TO::ps.map (·.j)) z (λi h=>IsZip h z TI TO .none/\V3 h TI (ps.map λp=>.ref p.j)/\(∃ os,os.length=ps.length/\V3 h TO os)/\∀ p∈ps,ItB h p.j p.c i p.k) where
 mem:=by simp
 obj:=λi h l b f=>by
  obtain⟨u,y,⟨os,_,F⟩,C⟩:=l;rcases(⇑f:b=z\/b=TI\/b=TO \/ ∃ p∈ps,p.j=b) with q | q | q | ⟨p,d,q⟩<;>subst q
  ·exact⟨_,u,λv q=>by cases q⟩
  ·exact⟨_,y,λv q=>by cases q⟩
  ·exact⟨_,F,λv q=>by cases q⟩
  ·exact(C p d).obj
 keep:=λi h h' l k=>by
  obtain⟨u,y,⟨os,N,F⟩,C⟩:=l;exact⟨k z (by simp) _ u,k TI (by simp) _ y,⟨os,N,k TO (by simp) _ F⟩,λp d=>(C p d).up (k p.j<|by simp;exact .inr<|.inr<|.inr ⟨p,d,rfl⟩)⟩
 item:=by
  intro X R S T hc i G s σ H E I O l U;subst R S T;obtain⟨u,y,⟨os,N,F⟩,C⟩:=l;obtain⟨A,xs,e,J,hi,hx⟩:=zis I ps (λp d=>U (p.c,p.k)<|M5.mpr ⟨p,d,rfl⟩) C;have el:A.length=ps.length:=by rw[<- e,L1]
  have ej:(A.map λq=>Value.ref q.j)=ps.map λp=>Value.ref p.j:=by rw[<- e,U1];rfl
  have mp:∀ p∈ps,∃ r∈A,r.j=p.j/\r.c=p.c/\r.k=p.k:=λp d=>by
   rw[<- e] at d;obtain⟨r,L,rfl⟩:=M5.mp d;exact⟨r,L,rfl,rfl,rfl⟩
  refine jiP (D.za e) u (by rw[ej];exact y) F (λz=>hn<|by rw[<- e,z];rfl) (by rw[N,el]) ∅ hi λhh a1 a2 a3 a4 Q=>?_;refine⟨_,rfl,wpAny_letOwnedTupleGo_zip a1 λh7 V g=>?_⟩;have lt:∀{c o},s.heap.get? c=some o->c < ↥s:=N1;have M:=(g.2 _<|Nat.ne_of_gt<|lt u).trans a4;have nj:∀{b},(∀ p∈ps,b≠p.j)->∀ r∈A,b≠r.j:=λh r L=>by
   have:=h ⟨r.j,r.c,r.k⟩ (by rw[<- e];exact List.mem_map_of_mem L);exact this
  have kk:∀ b o,b∉z::TI::TO::ps.map (·.j)->s.heap.get? b=some o->h7.get? b=some o:=λb o f q=>by
   have B:b≠z/\b≠TI/\b≠TO/\∀ p∈ps,b≠p.j:=by
    simp at f;exact⟨f.1,f.2.1,f.2.2.1,λp d x=>f.2.2.2 p d x.symm⟩
   exact(g.2 b B.1).trans (Q b o B.1 B.2.2.1 (nj B.2.2.2) q)
  have I1:=I.turnedNew (t':=s.toks) kk O (M8 _) ⟨⟨_,M,rfl,_,rfl⟩,_,M,rfl⟩ ⇑J (by have:=J.length;simp at this;exact N7 (by lia:xs.length<=1000)<|by decide);refine⟨.ref ↥s,_,I1,rfl,⟨_,xs,by have:=J.length;simp at this;simp;lia,λm a em q W=>?_,rfl,I.hok.fresh<|M8 _,rfl⟩,⟨V,(g.2 TI D.TIz).trans (Q _ _ D.TIz D.TITO (nj λp d x=>(D.jz p d).2.1 x.symm) y),⟨_,by rw[L1,el],(g.2 TO D.TOz).trans a2⟩,λp d=>?_⟩,λb f=>?_⟩
  ·rw[List.getElem?_map] at em;obtain⟨p,ep,rfl⟩:=Option.map_eq_some_iff.mp em;exact hx m p ep q W
  ·obtain⟨r,L,rj,rc,rk⟩:=mp p d;rw[<- rj,<- rc,<- rk];refine(a3 r L).itB.up λo q=>(g.2 _ ?_).trans q;rw[rj];exact(D.jz p d).1
  ·rw[jd]
   ·exact(O b f).1
   ·intro q;have:b < ↥s:=by
     rcases(⇑f:b=z\/b=TI\/b=TO \/ ∃ p∈ps,p.j=b) with w | w | w | ⟨p,d,w⟩
     ·rw[w];exact lt u
     ·rw[w];exact lt y
     ·rw[w];exact lt F
     ·obtain⟨o,e,_⟩:=(C p d).obj;rw[<- w];exact lt e
    exact absurd this (by rw[q];exact Nat.lt_irrefl _)
 done:=by
  intro X R S T hc i G s σ H E I O l U;subst R S T;obtain⟨u,y,⟨os,N,F⟩,C⟩:=l;obtain⟨a,r,q,ea,W,hx⟩:=U;cases ps with
  | nil=>cases ea
  | cons p ps=>
   cases ea;obtain⟨us,J,it⟩:=jf0 I W<|C p (by simp);have hl1:=J.length;have ee:((⟨p.j,p.c,us.toArray,.none,p.k⟩:Zi)::ps.map λp=>⟨p.j,p.c,#[],.none,p.k⟩).map (λr=>(⟨r.j,r.c,r.k⟩:Zp))=p::ps:=by
    rw[L5,U1];exact congrArg (p::·)<|List.map_id _
   refine jje (I.ok.hd hc) (D.za ee) u (by rw[show V3 s.heap TI _=V3 s.heap TI ((p::ps).map λp=>.ref p.j) by rw[L5,U1];rfl];exact y) it (by simp;lia) λhh Q=>⟨rfl,I.turnedL (λb o f q=>?_) O⟩;simp only[M4,M5,not_or,L5] at f;refine Q b o f.1 f.2.2.1 (λt Y x=>?_) q;rcases M4.mp Y with rfl | Y
   ·exact f.2.2.2.1 x
   ·obtain⟨p',Z,rfl⟩:=M5.mp Y;exact f.2.2.2.2 ⟨p',Z,x.symm⟩
 self:=λ_ _ _ _ _ l h=>wpAny_pyIter_zip l.1 h
end L2
namespace PySem
namespace F
def typeCall_zip_N3(a b c):checkTypeCall "zip" ⟨[a,b,c],[]⟩=pure ():=by kernel_rfl
def newCall_zip_N3(a b c):checkBuiltinCall "zip.__new__" ⟨[.type "zip",a,b,c],[]⟩=pure ():=by kernel_rfl
def args_object_init_N4(a b c d):argsOk "object.__init__" ⟨[a,b,c,d],[]⟩:=by
 unfold argsOk;kernel_rfl
end F
end PySem
namespace L2
open PySem PySem.Spec PyProof.Rows
def iZN(K:W4)(m:Nat)(tl:TA):TI:=λσ H R=>tl σ H λvs H1=>∃ as:List (Addr×Bool),as.length=m/\vs=as.map (λa=>.ref a.1)/\(∀ a∈as,∃ q,SqB K H1 a.1 a.2 q)/\R (IzN K as) H1
theorem zqs(I:Inv X pins σ H s):∀ as:List (Addr×Bool),(∀ a∈as,∃ q,SqB X.K H a.1 a.2 q)->∃ l:List (Addr×Array Value×Bool),l.map (λp=>(p.1,p.2.2))=as/\∀ p∈l,SqH s.heap p.1 p.2.1 p.2.2/\p.1 < ↥s
 | [],_=>⟨[],rfl,by simp⟩
 | (a,k)::as,h=>by
  obtain⟨l,e,d⟩:=zqs I as λb f=>h b (by simp[f]);obtain⟨q,c⟩:=h (a,k) (by simp);have:∃ vs:Array Value,SqH s.heap a vs k/\a < ↥s:=by
   cases k with
   | true=>
    obtain⟨g,i,p,_⟩:=I.list c;obtain⟨o,_,e,_⟩:=id p;exact⟨_,p.isList,N1 e⟩
   | false=>
    obtain⟨g,i,p,_⟩:=I.tuple c;obtain⟨o,e,_⟩:=id p;exact⟨_,p,N1 e⟩
  obtain⟨vs,j,m⟩:=this;exact⟨(a,vs,k)::l,by rw[L5,e],λp n=>(M4.mp n).elim (λz=>by rw[z];exact⟨j,m⟩) (d p)⟩
def zps(S:Nat)(l:List<|Addr×Array Value×Bool):List Zp:=(l.zipIdx S).map λq=>⟨q.2,q.1.1,q.1.2.2⟩
def jnZ(S):∀ l:List (Addr×Array Value×Bool),(zps S l).map (·.j)=List.range' S l.length:=by
 intro l
 induction l generalizing S with
 | nil=>rfl
 | cons p l a=>have:=a<|S+1;unfold zps at this ⊢;rw[List.zipIdx_cons,L5,L5,this,M1,List.range'_succ]
def jn9(S):∀ l:List (Addr×Array Value×Bool),(zps S l).map (λp=>(p.c,p.k))=l.map λp=>(p.1,p.2.2):=by
 intro l
 induction l generalizing S with
 | nil=>rfl
 | cons p l a=>have:=a<|S+1;unfold zps at this ⊢;rw[List.zipIdx_cons,L5,L5,this,L5]
def Kv{S}:∀{l}{q},q∈zps S l->∃ i p,l[i]?=some p/\q=⟨S+i,p.1,p.2.2⟩:=by
 intro l q h;obtain⟨⟨p,m⟩,a,rfl⟩:=M5.mp h;have:=List.mem_zipIdx a;refine⟨m-S,p,?_,?_⟩
 ·rw[X6 ∅];exact congrArg some this.2.2.symm
 ·have:S+(m-S)=m:=by lia
  rw[this]
def zn1(N):N≠N+2/\N+1≠N+2/\N≠N+1:=by lia
def zn2{S L i N}(h:i<L)(e:N=S+L):S+i≠N+2/\S+i≠N/\S+i≠N+1:=by lia
def zn3{c S L N}(h:c<S)(e:N=S+L):c≠N+2/\c≠N+1/\∀ i,c≠S+i:=⟨by lia,by lia,λi=>by lia⟩
def zn4{S L N b}(e:N=S+L)(h:b=N+2\/b=N\/b=N+1):S<=b:=by lia
def jk1(I:Inv X pins σ H s)  (y:as≠[]) (S:as.length<=1000) (d:∀ a∈as,∃ q,SqB X.K H a.1 a.2 q) (q:R (IzN X.K as) H)
  (f:checkTypeCall "zip" ⟨as.map λp=>.ref p.1,[]⟩=pure ()) (g:checkBuiltinCall "zip.__new__" ⟨.type "zip"::as.map λp=>.ref p.1,[]⟩=pure ()) (hok:∀ obj,argsOk "object.__init__" ⟨obj::as.map λp=>.ref p.1,[]⟩):
  wpAny (model X.prog X.w) X.A (call (.type "zip")<|as.map λp=>.ref p.1) (λv s1=>wpAny (model X.prog X.w) X.A (pyIter v) (PIE X pins σ (.Tuple elts n tpos) R) X.xe s1) X.xe s:=by
 obtain⟨l,e,t⟩:=zqs I as d;have U:l.length=as.length:=by rw[<- e,L1]
 have B:(as.map λp=>Value.ref p.1)=l.map λp=>Value.ref p.1:=by rw[<- e,U1];rfl
 rw[B] at f g hok ⊢;refine jhR ∅ f g hok (λp C=>(t p C).1) λE N h u F G J L=>?_;have M:Inv X pins σ H {s with heap:=E}:=I.kept L;refine PySem.wpAny_pyIter_zip u ?_;have k:=jnZ ↥s l;have x:=jn9 ↥s l;have D:ZP (N+2) N (N+1) (zps ↥s l):=by
  refine⟨(zn1 N).1,(zn1 N).2.1,(zn1 N).2.2,λq d=>?_,λq d=>?_,by rw[k];exact List.nodup_range'⟩
  ·obtain⟨i,p,m,rfl⟩:=Kv d;exact zn2 (L9.mp m).1 h
  ·obtain⟨i,p,m,rfl⟩:=Kv d;have:=zn3 (t p<|List.mem_of_getElem? m).2 h;refine⟨this.1,this.2.1,λr O=>?_⟩;obtain⟨Q,V,_,rfl⟩:=Kv O;exact this.2.2 Q
 have T:=jjq (P:=X.prog) (w:=X.w) (K:=X.K) (elts:=elts) (n:=n) (pos:=tpos) (N+2) N (N+1) (zps ↥s l) D (λz=>y<|by rw[<- e,<- x,z];rfl) (by have:=congrArg List.length k;rw[L1,List.length_range'] at this;lia);rw[x,e] at T;refine⟨N+2,_,_,_,H,rfl,M,T,⟨u,?_,⟨_,?_,G⟩,λq d=>?_⟩,λb c=>?_,q⟩
 ·rw[show(zps ↥s l).map (λp=>Value.ref p.j)=((zps ↥s l).map (·.j)).map Value.ref by rw[U1];rfl,k];exact F
 ·have:=congrArg List.length k;rw[L1,List.length_range'] at this;rw[L1];lia
 ·obtain⟨i,p,m,rfl⟩:=Kv d;exact(J i p m).itB
 ·have o:↥s<=b:=by
   rw[k] at c;rcases M4.mp c with z | c
   ·exact zn4 h<|.inl z
   rcases M4.mp c with z | c
   ·exact zn4 h<|.inr<|.inl z
   rcases M4.mp c with z | c
   ·exact zn4 h<|.inr<|.inr z
   exact(List.mem_range'_1.mp c).1
  exact I.fpOk o<|I.hok.fresh o
theorem YW:∀{as:List (Addr×Bool)}{us},Vals (as.map λa=>V.ref a.1) us->us=as.map λa=>Value.ref a.1
 | [],_,h=>by cases h;rfl
 | a::as,_,h=>by
  cases h with
  | cons b c=>cases b;rw[YW c];rfl
def jlW(e:Gl X "zip")(f:X.mg "zip" = none)(g:PA X [a,b] ta)(i:starEach [a,b] X.env=[(false,eval a X.env),(false,eval b X.env)]:=by rfl)(c:starEach [b] X.env=[(false,eval b X.env)]:=by rfl):
  PI X (.Tuple elts n tpos) (.Call (.Name "zip" p) [a,b] [] pos) (iZN X.K 2 ta):=by
 intro d s σ H R I h;refine Call_<|JQ I e f (show bootBuiltins "zip" = some (.type "zip") by decide +kernel)<|PyProof.Rows.callWith_type1 (thn (g pos d s σ H _ I h) λr s1 ⟨vs,t,j,r1,k⟩=>?_) (by rw[i,c]) (by rw[c];rfl);obtain⟨l,l2,rfl,m,q⟩:=k;cases YW r1
 match l,l2 with
 | [x,y],_=>exact jk1 j (by simp) (by simp) m q (F.typeCall_zip_2 _ _) (F.newCall_zip_2 _ _) λo=>F.args_object_init_3 o _ _
def jlS(f:Gl X "zip")(g:X.mg "zip" = none)(i:PA X [a,b,c] ta)(j:starEach [a,b,c] X.env=[(false,eval a X.env),(false,eval b X.env),(false,eval c X.env)]:=by rfl)(d:starEach [b,c] X.env=[(false,eval b X.env),(false,eval c X.env)]:=by rfl):
  PI X (.Tuple elts n tpos) (.Call (.Name "zip" p) [a,b,c] [] pos) (iZN X.K 3 ta):=by
 intro e s σ H R I h;refine Call_<|JQ I f g (show bootBuiltins "zip" = some (.type "zip") by decide +kernel)<|PyProof.Rows.callWith_type1 (thn (i pos e s σ H _ I h) λt s1 ⟨vs,u,k,r1,l⟩=>?_) (by rw[j,d]) (by rw[d];rfl);obtain⟨m,l2,rfl,r,q⟩:=l;cases YW r1
 match m,l2 with
 | [x,y,z],_=>exact jk1 k (by simp) (by simp) r q (F.typeCall_zip_N3 _ _ _) (F.newCall_zip_N3 _ _ _) λo=>F.args_object_init_N4 o _ _ _
end L2
namespace PySem
open Sem (wp)
end PySem
namespace L2
open PySem PySem.Spec PyProof.Rows
end L2
namespace PyProof.Rows
open PySem
def jbv:∀ f n r,minRun' f n r<=n+r:=by
 intro f
 induction f with
 | zero=>intro n r;exact M8 _
 | succ f a=>
  intro n r;rw[minRun'_succ];split
  ·exact M8 _
  ·have:=a (n/2)<|max r<|n%2;omega
section
variable {prog:Program}{w:World}{A:Around}{E:J0}{s:Shared}{b:Array Keyed}
def jfz{st:SortSt}{Q:Option Nat->SortSt->Prop}(d:IntKeys b)(h1:1<=b.size)(f:SBase b st)(up:SortedTo (arrOf st) b.size)(h:Q (some b.size) st):wpS (model prog w) A E s (countRun' 0 b.size) Q st:=by
 rw[countRun0_eq];refine wpS_bind<|wpS_ascLoop d (M8 _) (M8 1) h1 f (λi j a o=>up i j a<|by omega) λn g k l c=>?_;have m:n=b.size:=c.elim id λz=>by
  by_cases e:n=b.size
  ·exact e
  ·have:=up (n-1) n (by omega) (by omega);omega
 subst m;dsimp only;rw[if_pos<|by simp];exact wpS_pure h
def jju{st:SortSt}{Q:Unit->SortSt->Prop}(g:IntKeys b)(e:SBase b st)(h2:2<=b.size)(up:SortedTo (arrOf st) b.size)
  (h:∀ st',(arrOf st').Perm b->failedOf st'=none->SortedTo (arrOf st') b.size->Q () st'):wpS (model prog w) A E s sortRuns' Q st:=by
 have f:¬ b.size<minRun' b.size b.size 0:=Nat.not_lt.mpr<|jbv b.size b.size 0;rw[sortRuns'_eq];refine wpS_bind<|wpS_get ?_;dsimp only;rw[e.size];generalize minRun' b.size b.size 0=mm at f;refine wpS_bind<|wpS_mono (wpS_forRange (I:=λx c st'=>(x=0/\c=(none,0)/\st'=st)\/(1<=x/\c=(none,b.size)/\SDone b st')) (Q:=λc st'=>c=(none,b.size)/\SDone b st') (λx c st' _ i d=>?_) (λc st' d=>?_)<|.inl ⟨rfl,rfl,rfl⟩) λc st' d=>?_
 ·rcases d with⟨rfl,rfl,rfl⟩ | ⟨_,rfl,a⟩
  ·dsimp only;rw[if_neg<|by omega];simp only[Nat.sub_zero,Nat.zero_add];refine wpS_bind<|jfz g (by omega) e up ?_;dsimp only;rw[if_neg f];refine wpS_bind<|wpS_get ?_;rw[show(pendingOf st').back?=none by rw[e.pend];rfl];exact wpS_bind<|wpS_modify<|wpS_pure<|.inr ⟨by omega,rfl,e.done up⟩
  ·dsimp only;rw[if_pos<|M8 _];exact wpS_pure ⟨rfl,a⟩
 ·rcases d with⟨i,_,_⟩ | ⟨_,j,a⟩
  ·omega
  ·exact⟨j,a⟩
 ·obtain⟨rfl,a⟩:=d;dsimp only;refine wpS_bind<|wpS_mono (wpS_forRange (I:=λ_ c t=>t=st'/\c=(none,())) (Q:=λc t=>t=st'/\c=(none,())) (λx c t _ _ q=>?_) (λ_ _ q=>q) ⟨rfl,rfl⟩) λc t q=>?_
  ·obtain⟨rfl,rfl⟩:=q;refine wpS_bind<|wpS_get ?_;rw[if_pos<|by rw[a.2.2.1];exact M8 1];exact wpS_pure ⟨rfl,rfl⟩
  ·obtain⟨rfl,rfl⟩:=q;exact wpS_pure<|h _ a.1 a.2.1 a.2.2.2
def jej{vs:List Value}{ns:List Int}(f:IntsAre vs ns)(up:ns.Pairwise (·<=·)):SortedTo (pairsOf vs) (pairsOf vs).size:=by
 have g:∀{vs:List Value}{ns:List Int},IntsAre vs ns->∀ i:Nat,(vs[i]?).map numOf=ns[i]?:=λh=>by
  induction h with
  | nil=>intro i;rfl
  | cons n t _ l=>intro i;cases i with
   | zero=>rfl
   | succ i=>exact l i
 have k:∀ i,i<vs.length->∃ n,ns[i]?=some n/\K (pairsOf vs) i=n:=λi hi=>by
  have e:=g f i;rw[X6 hi] at e;refine⟨_,e.symm,?_⟩;rw[K_eq<|by rw[pairsOf_size];exact hi];simp[pairsOf]
 intro i j m b;rw[pairsOf_size] at b;obtain⟨a,d,o⟩:=k i (by omega);obtain⟨c,c1,p⟩:=k j b;rw[o,p];by_cases e:i=j
 ·subst e;rw[d] at c1;cases c1;exact Int.le_refl _
 ·obtain⟨q,r⟩:=L9.mp d;obtain⟨s,e2⟩:=L9.mp c1;rw[<- r,<- e2];exact List.pairwise_iff_getElem.mp up i j q s (by omega)
def jhC{a:Addr}{vs:List Value}{ns:List Int}{n:Nat}{P:Fin->Shared->Prop}(d:s.heap.get? a=some (seqObj "list" vs.toArray n))(c:IntsAre vs ns)(up:ns.Pairwise (·<=·))(D:vs.length<=100000)
  (h:∀(out:Array Value) (ms:List Int),IntsAre out.toList ms->ms.Perm ns->ms.Pairwise (·<=·)->P (.done<|.ret .none) {s with heap:=sortedHeap s.heap a vs out}):wpAny (model prog w) A (Builtin.«list.sort» ⟨[.ref a],[]⟩) P E s:=by
 by_cases f:vs.length<64
 ·exact list_sort_tree d c f h
 rw[list_sort_plain];have sl:=sizeLine_eq;have F:=N1 d;refine L3<|listItems_at d rfl<|L3<|listUpdate_at d rfl ?_ (by simp only[N3];omega);obtain⟨j,g⟩:∃ j,(s.heap.update a<|Obj.mapSeq λ_=>#[]).get? a=some (seqObj "list" #[] j):=⟨_,get?_update_seq d λ_=>#[]⟩;refine L3<|seqEpoch_at g rfl<|L3<|wpAny_newTuple<|L3<|wpAny_newList<|wpAny_holding ?_;have i:(((s.heap.update a<|Obj.mapSeq λ_=>#[]).push (seqObj "tuple" vs.toArray 0)).push (seqObj "list" #[] 0)).get? a=some (seqObj "list" #[] j):=L8 _<|L8 _ g;have k:¬ vs.toArray.size<2:=by simp only[N3];omega
 rw[if_neg k,if_neg k];have l:=pairsOf_size vs;have o:keyKind' vs.toArray=pure oneType':=by
  match vs,c,f with
  | [],_,z=>simp at z
  | [_],_,z=>simp at z
  | _::_::_,c,_=>exact keyKind_ints c
 rw[o];refine L3 (M6 (L3 (wpAny_mono (jju (b:=pairsOf vs) (st:=SortSt.mk' oneType' (vs.toArray.zip vs.toArray) #[] 7 none) (Q:=λ_ t=>(arrOf t).Perm (pairsOf vs)/\failedOf t=none/\SortedTo (arrOf t) (pairsOf vs).size)
  c.intKeys ⟨Array.Perm.refl _,rfl,rfl,rfl⟩ (by rw[l];omega) (jej c up) λt p r u=>⟨p,r,u⟩) ?_ λ_ _ e=>e)))
 rintro⟨⟨⟩,t⟩ G ⟨rfl,m,v,x⟩;obtain⟨ms,y,B,C⟩:=sorted_out c m x;have q:(arrOf t).size=vs.length:=m.size_eq.trans l;refine L3<|seqEpoch_at i rfl<|L3<|listUpdate_at i rfl ?_ (hsz2:=by show((arrOf t).map _).size<=_;rw[Array.size_map,q];omega);rw[v];simp only[bne_self_eq_false,Bool.false_eq_true,if_false];exact M6<|h _ ms y B C
def jbF{l:Addr}{vs:List Value}{ns:List Int}{Q:J0}(b:s.heap.IsList l vs.toArray)(c:IntsAre vs ns)(up:ns.Pairwise (·<=·))(d:vs.length<=100000)
  (h:∀(out:Array Value) (ms:List Int),IntsAre out.toList ms->ms.Perm ns->ms.Pairwise (·<=·)->Q (.ref<|↥s+1) {s with heap:=sortedAll s.heap vs out}):wpAny (model prog w) A (call (.builtin "sorted") [.ref l]) Q E s:=by
 have sl:=sizeLine_eq;refine Calls.call_function_entry kind_sorted plain_sorted entry_sorted (args_sorted1 _)<|L3<|M6<|L3<|collect_list b ?_ (by omega);refine L3<|wpAny_newList ?_ (by omega);have e:((s.heap.push<|seqObj "list" #[] 0).update ↥s (Obj.mapSeq (·++vs.toArray))).objs.size=↥s+1:=by rw[Heap.size_update,size_push']
 have a:=X8 ((s.heap.push<|seqObj "list" #[] 0).update ↥s (Obj.mapSeq (·++vs.toArray))) (o:=seqObj "list" vs.toArray 0) rfl;rw[e] at a ⊢;exact L3<|wpAny_holding<|wpAny_call_entry slot_list_sort ⟨_,a,rfl⟩ entry_list_sort (jhC a c up d λout ms f g i=>⟨_,rfl,M6 ⟨_,rfl,h out ms f g i⟩⟩)<|args_list_sort _
end
end PyProof.Rows
namespace QD
open PySem L2
inductive KA where
 | int (i:Int) | str (s:List Nat)
 deriving DecidableEq
inductive D where
 | non | bl (b:Bool) | int (i:Int) | str (s:List Nat)
 | tup (l:List D) | lst (o:Bool) (l:List D)
 | dK (o:Bool) (ks:List KA) (l:List D)
 | dT (o:Bool) (ks:List (List KA)) (l:List D)
 | ins (o:Bool) (c:Nat) (ns:List Str) (l:List D)
 | dead
  | tok (a:Addr)
 | kt (k:List KA)
  | exc (c:Nat) (p:Int)
def xo(C a dx:Addr):Heap->Prop:=λh=>∃ o vs,h.get? a=some o/\o.cls=.ref C/\o.dict=some dx/\o.data=.fields vs
mutual
noncomputable def fz:D->D
 | .tup l=>.tup<|fzs l
 | .lst _ l=>.lst false<|fzs l
 | .dK _ ks l=>.dK false ks<|fzs l
 | .dT _ ks l=>.dT false ks<|fzs l
 | .ins _ c ns l=>.ins false c ns<|fzs l
 | .non=>.non | .bl b=>.bl b | .int i=>.int i | .str s=>.str s | .dead=>.dead | .tok a=>.tok a | .kt k=>.kt k | .exc c p=>.exc c p
noncomputable def fzs:List D->List D
 | []=>[]
 | d::l=>fz d::fzs l
end
mutual
noncomputable def frz:D->Bool
 | .tup l=>frzs l
 | .lst o l=>!o&&frzs l
 | .dK o _ l=>!o&&frzs l
 | .dT o _ l=>!o&&frzs l
 | .ins o _ _ l=>!o&&frzs l
 | .non=>true | .bl _=>true | .int _=>true | .str _=>true | .dead=>true | .tok _=>true | .kt _=>true | .exc _ _=>true
noncomputable def frzs:List D->Bool
 | []=>true
 | d::l=>frz d&&frzs l
end
mutual
theorem jjO:∀ d:D,frz d=true->fz d=d
 | .tup l,h=>by rw[frz] at h;rw[fz,kU l h]
 | .lst o l,h=>by rw[frz,M0] at h;rw[fz,kU l h.2];cases o<;>simp_all
 | .dK o ks l,h=>by rw[frz,M0] at h;rw[fz,kU l h.2];cases o<;>simp_all
 | .dT o ks l,h=>by rw[frz,M0] at h;rw[fz,kU l h.2];cases o<;>simp_all
 | .ins o c ns l,h=>by rw[frz,M0] at h;rw[fz,kU l h.2];cases o<;>simp_all
 | .non,_=>rfl | .bl _,_=>rfl | .int _,_=>rfl | .str _,_=>rfl | .dead,_=>rfl | .tok _,_=>rfl | .kt _,_=>rfl | .exc _ _,_=>rfl
theorem kU:∀ l:List D,frzs l=true->fzs l=l
 | [],_=>rfl
 | d::l,h=>by rw[frzs,M0] at h;rw[fzs,jjO d h.1,kU l h.2]
end
mutual
theorem jkC:∀ d:D,frz (fz d)=true
 | .tup l=>by rw[fz,frz];exact kB l
 | .lst o l=>by rw[fz,frz,kB l];rfl
 | .dK o ks l=>by rw[fz,frz,kB l];rfl
 | .dT o ks l=>by rw[fz,frz,kB l];rfl
 | .ins o c ns l=>by rw[fz,frz,kB l];rfl
 | .non=>rfl | .bl _=>rfl | .int _=>rfl | .str _=>rfl | .dead=>rfl | .tok _=>rfl | .kt _=>rfl | .exc _ _=>rfl
theorem kB:∀ l:List D,frzs (fzs l)=true
 | []=>rfl
 | d::l=>by rw[fzs,frzs,jkC d,kB l];rfl
end
theorem vG:∀ l:List D,fzs l=l.map fz
 | []=>rfl
 | d::l=>by rw[fzs,vG l];rfl
theorem Yz:∀ l:List D,frzs l=l.all frz
 | []=>rfl
 | d::l=>by rw[frzs,Yz l];rfl
structure RC where
 K:PySem.W.Frag
 cls:Nat->Addr
def kaV:KA->Key
 | .int i=>.inl i
 | .str s=>.inr<|S s
noncomputable abbrev Zn:=Addr->Prop
def FT(R:RC)(Z:Zn)(H:Hp)(a:Addr)(vs:List V):Prop:=
 (Z a/\Rd H a (.tup vs)) \/ ∃ o its n,R.K.lookup a=some o/\o.cls=.type "tuple"/\o.data=.seq its n/\its.size<=sizeLine/\Vals vs its.toList/\o.dict=none
def FL(R:RC)(Z:Zn)(H:Hp)(a:Addr)(vs:List V):Prop:=
 (Z a/\Rd H a (.lst vs)) \/ ∃ its n,R.K.lookup a=some {cls:=.type "list",data:=.seq its n}/\its.size<=sizeLine/\Vals vs its.toList
def DkA(o:Bool)(H:Hp)(a:Addr)(kvs:List<|Key×V):Prop:=bif o then H a=some (.dK kvs) else Rd H a (.dK kvs)
inductive RpC (rs:List V->List Addr->Prop) (C:Addr->List V->List Addr->Prop) (v:V):Prop
 | mk:∀(a:Addr) (vs:List V) (O':W5),v=.ref a->rs vs O'->C a vs O'->RpC rs C v
inductive RpS (rd:V->List Addr->Prop) (rs:List V->List Addr->Prop) (vs:List V) (O:W5):Prop
 | mk:∀(v:V) (vs':List V) (O1 O2:W5),vs=v::vs'->O=O1++O2->rd v O1->rs vs' O2->RpS rd rs vs O
mutual
def Rep(R:RC)(Z:Zn)(H:Hp):D->V->List Addr->Prop
 | .non,v,O=>v=.non/\O=[]
 | .bl b,v,O=>v=.bl b/\O=[]
 | .int i,v,O=>v=.int i/\O=[]
 | .str s,v,O=>v=.str (S s)/\O=[]
 | .dead,_,O=>O=[]
 | .tok a,v,O=>v=.ref a/\O=[]
 | .kt k,v,O=>∃ a,v=.ref a/\Z a/\H a=some (.tup<|(k.map kaV).map kV)/\O=[]
 | .exc c p,v,O=>∃ a dx,v=.ref a/\Z a/\Z dx/\H a=some (.ext<|xo (R.cls c) a dx)/\H dx=some (.xd [("place",.int p)])/\O=[]
 | .tup l,v,O=>∃ a vs,v=.ref a/\FT R Z H a vs/\Reps R Z H l vs O
 | .lst o l,v,O=>RpC (λvs O'=>Reps R Z H l vs O') (λa vs O'=>bif o then H a=some (.lst vs)/\O=a::O' else FL R Z H a vs/\O'=[]/\O=[]) v
 | .dK o ks l,v,O=>RpC (λvs O'=>Reps R Z H l vs O') (λa vs O'=>ks.length=l.length/\DkA o H a ((ks.map kaV).zip vs)/\bif o then O=a::O' else Z a/\O'=[]/\O=[]) v
 | .dT o ks l,v,O=>RpC (λvs O'=>Reps R Z H l vs O') (λa vs O'=>ks.length=l.length/\H a=some (.dT<|(ks.map<|List.map kaV).zip vs)/\bif o then O=a::O' else Z a/\O'=[]/\O=[]) v
 | .ins o c ns l,v,O=>∃ a dx vs O',v=.ref a/\Reps R Z H l vs O'/\ns.length=l.length/\H a=some (.ins (R.cls c) dx<|ns.zip vs)/\bif o then O=a::O' else Z a/\O'=[]/\O=[]
def Reps(R:RC)(Z:Zn)(H:Hp):List D->List V->List Addr->Prop
 | [],vs,O=>vs=[]/\O=[]
 | d::ds,vs,O=>RpS (λv O1=>Rep R Z H d v O1) (λvs' O2=>Reps R Z H ds vs' O2) vs O
end
def FT.sq(h:FT R Z H a vs):SqT R.K H a vs:=by
 rcases h with⟨_,h⟩ | ⟨o,b,n,c,d,e,f,g,_⟩
 ·exact .inl h
 ·exact .inr ⟨o,b,n,c,d,e,f,g⟩
def FL.sqx(h:FL R Z H a vs):SqX R.K H a vs:=by
 rcases h with⟨_,h⟩ | h
 ·exact .inl h
 ·exact .inr h
def FL.sq(h:FL R Z H a vs):SqL R.K H a vs:=h.sqx.sq
def Rd.agree(e:H' a=H a)(h:Rd H a u):Rd H' a u:=by
 unfold Rd at h ⊢;rw[e];exact h
def FT.frame(b:∀ a,Z a->Z' a)(c:∀ a,Z a->H' a=H a)(h:FT R Z H a vs):FT R Z' H' a vs:=by
 rcases h with⟨z,h⟩ | h
 ·exact .inl ⟨b a z,Rd.agree (c a z) h⟩
 ·exact .inr h
def FL.frame(b:∀ a,Z a->Z' a)(c:∀ a,Z a->H' a=H a)(h:FL R Z H a vs):FL R Z' H' a vs:=by
 rcases h with⟨z,h⟩ | h
 ·exact .inl ⟨b a z,Rd.agree (c a z) h⟩
 ·exact .inr h
mutual
theorem Rep.frame(hz:∀ a,Z a->Z' a)(hH:∀ a,Z a->H' a=H a):∀{d:D}{v:V}{O:W5},Rep R Z H d v O->(∀ a∈O,H' a=H a)->Rep R Z' H' d v O
 | .non,_,_,h,_=>by rw[Rep] at h ⊢;exact h
 | .bl _,_,_,h,_=>by rw[Rep] at h ⊢;exact h
 | .int _,_,_,h,_=>by rw[Rep] at h ⊢;exact h
 | .str _,_,_,h,_=>by rw[Rep] at h ⊢;exact h
 | .dead,_,_,h,_=>by rw[Rep] at h ⊢;exact h
 | .tok _,_,_,h,_=>by rw[Rep] at h ⊢;exact h
 | .kt _,_,_,h,_=>by
  rw[Rep] at h ⊢;obtain⟨a,e,z,x,o⟩:=h;exact⟨a,e,hz a z,(hH a z).trans x,o⟩
 | .exc _ _,_,_,h,_=>by
  rw[Rep] at h ⊢;obtain⟨a,dx,e,z1,z2,h1,h2,h3⟩:=h;exact⟨a,dx,e,hz a z1,hz dx z2,(hH a z1).trans h1,(hH dx z2).trans h2,h3⟩
 | .tup l,_,_,h,hO=>by
  rw[Rep] at h ⊢;obtain⟨a,vs,e,t,r⟩:=h;exact⟨a,vs,e,t.frame hz hH,Reps.frame hz hH r hO⟩
 | .lst o l,_,_,h,hO=>by
  rw[Rep] at h ⊢;obtain⟨a,vs,O',e,r,h⟩:=h;cases o with
  | true=>
   obtain⟨h1,rfl⟩:=h;exact⟨a,vs,O',e,Reps.frame hz hH r λb hb=>hO b<|L6 _ hb,by rw[cond_true,hO a L7];exact⟨h1,rfl⟩⟩
  | false=>
   obtain⟨h1,rfl,rfl⟩:=h;exact⟨a,vs,[],e,Reps.frame hz hH r (λb hb=>nomatch hb),h1.frame hz hH,rfl,rfl⟩
 | .dK o ks l,_,_,h,hO=>by
  rw[Rep] at h ⊢;obtain⟨a,vs,O',e,r,hl,hd,h⟩:=h;cases o with
  | true=>
   have h:=(show _=_ from h);subst h;exact⟨a,vs,O',e,Reps.frame hz hH r λb hb=>hO b<|L6 _ hb,hl,by show H' a=some _;rw[hO a L7];exact hd,rfl⟩
  | false=>
   obtain⟨h1,rfl,rfl⟩:=h;exact⟨a,vs,[],e,Reps.frame hz hH r (λb hb=>nomatch hb),hl,Rd.agree (hH a h1) hd,hz a h1,rfl,rfl⟩
 | .dT o ks l,_,_,h,hO=>by
  rw[Rep] at h ⊢;obtain⟨a,vs,O',e,r,hl,hd,h⟩:=h;cases o with
  | true=>
   have h:=(show _=_ from h);subst h;exact⟨a,vs,O',e,Reps.frame hz hH r λb hb=>hO b<|L6 _ hb,hl,by rw[hO a L7];exact hd,rfl⟩
  | false=>
   obtain⟨h1,rfl,rfl⟩:=h;exact⟨a,vs,[],e,Reps.frame hz hH r (λb hb=>nomatch hb),hl,by rw[hH a h1];exact hd,hz a h1,rfl,rfl⟩
 | .ins o c ns l,_,_,h,hO=>by
  rw[Rep] at h ⊢;obtain⟨a,dx,vs,O',e,r,hl,hd,h⟩:=h;cases o with
  | true=>
   have h:=(show _=_ from h);subst h;exact⟨a,dx,vs,O',e,Reps.frame hz hH r λb hb=>hO b<|L6 _ hb,hl,by rw[hO a L7];exact hd,rfl⟩
  | false=>
   obtain⟨h1,rfl,rfl⟩:=h;exact⟨a,dx,vs,[],e,Reps.frame hz hH r (λb hb=>nomatch hb),hl,by rw[hH a h1];exact hd,hz a h1,rfl,rfl⟩
theorem Reps.frame(hz:∀ a,Z a->Z' a)(hH:∀ a,Z a->H' a=H a):∀{l:List D}{vs:List V}{O:W5},Reps R Z H l vs O->(∀ a∈O,H' a=H a)->Reps R Z' H' l vs O
 | [],_,_,h,_=>by rw[Reps] at h ⊢;exact h
 | d::l,_,_,h,hO=>by
  rw[Reps] at h ⊢;obtain⟨v,vs,O1,O2,e,rfl,r1,r2⟩:=h;exact⟨v,vs,O1,O2,e,rfl,Rep.frame hz hH r1 λa ha=>hO a<|List.mem_append_left _ ha,Reps.frame hz hH r2 λa ha=>hO a<|U3 _ ha⟩
end
mutual
theorem Rep.nil:∀{d:D}{v:V}{O:W5},Rep R Z H d v O->frz d=true->O=[]
 | .non,_,_,h,_=>by rw[Rep] at h;exact h.2
 | .bl _,_,_,h,_=>by rw[Rep] at h;exact h.2
 | .int _,_,_,h,_=>by rw[Rep] at h;exact h.2
 | .str _,_,_,h,_=>by rw[Rep] at h;exact h.2
 | .dead,_,_,h,_=>by rw[Rep] at h;exact h
 | .tok _,_,_,h,_=>by rw[Rep] at h;exact h.2
 | .kt _,_,_,h,_=>by rw[Rep] at h;obtain⟨_,_,_,_,h⟩:=h;exact h
 | .exc _ _,_,_,h,_=>by rw[Rep] at h;obtain⟨_,_,_,_,_,_,_,h⟩:=h;exact h
 | .tup l,_,_,h,f=>by
  rw[Rep] at h;rw[frz] at f;obtain⟨a,vs,e,t,r⟩:=h;exact Reps.nil r f
 | .lst o l,_,_,h,f=>by
  rw[Rep] at h;rw[frz] at f;obtain⟨a,vs,O',e,r,h⟩:=h;cases o with
  | true=>exact absurd f (by simp)
  | false=>exact h.2.2
 | .dK o ks l,_,_,h,f=>by
  rw[Rep] at h;rw[frz] at f;obtain⟨a,vs,O',e,r,hl,hd,h⟩:=h;cases o with
  | true=>exact absurd f (by simp)
  | false=>exact h.2.2
 | .dT o ks l,_,_,h,f=>by
  rw[Rep] at h;rw[frz] at f;obtain⟨a,vs,O',e,r,hl,hd,h⟩:=h;cases o with
  | true=>exact absurd f (by simp)
  | false=>exact h.2.2
 | .ins o c ns l,_,_,h,f=>by
  rw[Rep] at h;rw[frz] at f;obtain⟨a,dx,vs,O',e,r,hl,hd,h⟩:=h;cases o with
  | true=>exact absurd f (by simp)
  | false=>exact h.2.2
theorem Reps.nil:∀{l:List D}{vs:List V}{O:W5},Reps R Z H l vs O->frzs l=true->O=[]
 | [],_,_,h,_=>by rw[Reps] at h;exact h.2
 | d::l,_,_,h,f=>by
  rw[Reps] at h;rw[frzs,M0] at f;obtain⟨v,vs,O1,O2,e,rfl,r1,r2⟩:=h;rw[Rep.nil r1 f.1,Reps.nil r2 f.2];rfl
end
mutual
theorem Rep.freeze:∀{d:D}{v:V}{O:W5},Rep R Z H d v O->(∀ a,Z a->Z' a)->(∀ a∈O,Z' a)->Rep R Z' H (fz d) v []
 | .non,_,_,h,_,_=>by rw[Rep] at h;rw[fz,Rep];exact⟨h.1,rfl⟩
 | .bl _,_,_,h,_,_=>by rw[Rep] at h;rw[fz,Rep];exact⟨h.1,rfl⟩
 | .int _,_,_,h,_,_=>by rw[Rep] at h;rw[fz,Rep];exact⟨h.1,rfl⟩
 | .str _,_,_,h,_,_=>by rw[Rep] at h;rw[fz,Rep];exact⟨h.1,rfl⟩
 | .dead,_,_,h,_,_=>by rw[fz,Rep]
 | .tok _,_,_,h,_,_=>by rw[Rep] at h;rw[fz,Rep];exact⟨h.1,rfl⟩
 | .kt _,_,_,h,hz,_=>by
  rw[Rep] at h;rw[fz,Rep];obtain⟨a,e,z,x,o⟩:=h;exact⟨a,e,hz a z,x,rfl⟩
 | .exc _ _,_,_,h,hz,_=>by
  rw[Rep] at h;rw[fz,Rep];obtain⟨a,dx,e,z1,z2,h1,h2,_⟩:=h;exact⟨a,dx,e,hz a z1,hz dx z2,h1,h2,rfl⟩
 | .tup l,_,_,h,hz,hO=>by
  rw[Rep] at h;rw[fz,Rep];obtain⟨a,vs,e,t,r⟩:=h;exact⟨a,vs,e,t.frame hz λ_ _=>rfl,Reps.freeze r hz hO⟩
 | .lst o l,_,_,h,hz,hO=>by
  rw[Rep] at h;rw[fz,Rep];obtain⟨a,vs,O',e,r,h⟩:=h;cases o with
  | true=>
   obtain⟨h1,rfl⟩:=h;exact⟨a,vs,[],e,Reps.freeze r hz λb hb=>hO b<|L6 _ hb,.inl ⟨hO a L7,.inl h1⟩,rfl,rfl⟩
  | false=>
   obtain⟨h1,rfl,rfl⟩:=h;exact⟨a,vs,[],e,Reps.freeze r hz (λb hb=>nomatch hb),h1.frame hz<|λ_ _=>rfl,rfl,rfl⟩
 | .dK o ks l,_,_,h,hz,hO=>by
  rw[Rep] at h;rw[fz,Rep];obtain⟨a,vs,O',e,r,hl,hd,h⟩:=h;have hl':ks.length=(fzs l).length:=by rw[vG,L1];exact hl
  cases o with
  | true=>
   have h:=(show _=_ from h);subst h;exact⟨a,vs,[],e,Reps.freeze r hz λb hb=>hO b<|L6 _ hb,hl',.inl hd,hO a L7,rfl,rfl⟩
  | false=>
   obtain⟨h1,rfl,rfl⟩:=h;exact⟨a,vs,[],e,Reps.freeze r hz (λb hb=>nomatch hb),hl',hd,hz a h1,rfl,rfl⟩
 | .dT o ks l,_,_,h,hz,hO=>by
  rw[Rep] at h;rw[fz,Rep];obtain⟨a,vs,O',e,r,hl,hd,h⟩:=h;have hl':ks.length=(fzs l).length:=by rw[vG,L1];exact hl
  cases o with
  | true=>
   have h:=(show _=_ from h);subst h;exact⟨a,vs,[],e,Reps.freeze r hz λb hb=>hO b<|L6 _ hb,hl',hd,hO a L7,rfl,rfl⟩
  | false=>
   obtain⟨h1,rfl,rfl⟩:=h;exact⟨a,vs,[],e,Reps.freeze r hz (λb hb=>nomatch hb),hl',hd,hz a h1,rfl,rfl⟩
 | .ins o c ns l,_,_,h,hz,hO=>by
  rw[Rep] at h;rw[fz,Rep];obtain⟨a,dx,vs,O',e,r,hl,hd,h⟩:=h;have hl':ns.length=(fzs l).length:=by rw[vG,L1];exact hl
  cases o with
  | true=>
   have h:=(show _=_ from h);subst h;exact⟨a,dx,vs,[],e,Reps.freeze r hz λb hb=>hO b<|L6 _ hb,hl',hd,hO a L7,rfl,rfl⟩
  | false=>
   obtain⟨h1,rfl,rfl⟩:=h;exact⟨a,dx,vs,[],e,Reps.freeze r hz (λb hb=>nomatch hb),hl',hd,hz a h1,rfl,rfl⟩
theorem Reps.freeze:∀{l:List D}{vs:List V}{O:W5},Reps R Z H l vs O->(∀ a,Z a->Z' a)->(∀ a∈O,Z' a)->Reps R Z' H (fzs l) vs []
 | [],_,_,h,_,_=>by rw[Reps] at h;rw[fzs,Reps];exact⟨h.1,rfl⟩
 | d::l,_,_,h,hz,hO=>by
  rw[Reps] at h;rw[fzs,Reps];obtain⟨v,vs,O1,O2,e,rfl,r1,r2⟩:=h;exact⟨v,vs,[],[],e,rfl,Rep.freeze r1 hz λa ha=>hO a<|List.mem_append_left _ ha,Reps.freeze r2 hz λa ha=>hO a<|U3 _ ha⟩
end
theorem Reps.length:∀{l}{vs}{O},Reps R Z H l vs O->vs.length=l.length
 | [],_,_,h=>by rw[Reps] at h;rw[h.1];rfl
 | d::l,_,_,h=>by
  obtain⟨v,vs,a,b,rfl,rfl,r1,r2⟩:=h;rw[M1,M1,Reps.length r2]
theorem Reps.append:∀{l m}{vs ws}{O P},Reps R Z H l vs O->Reps R Z H m ws P->Reps R Z H (l++m) (vs++ws) (O++P)
 | [],m,_,_,_,_,h,k=>by rw[Reps] at h;obtain⟨rfl,rfl⟩:=h;exact k
 | d::l,m,_,_,_,_,h,k=>by
  obtain⟨v,vs,a,b,rfl,rfl,r1,r2⟩:=h;exact⟨v,_,a,_,rfl,List.append_assoc ..,r1,Reps.append r2 k⟩
def Reps.one(h:Rep R Z H d v O):Reps R Z H [d] [v] O:=by
 exact⟨v,[],O,[],rfl,(M9 O).symm,h,by rw[Reps];exact⟨rfl,rfl⟩⟩
def Reps.cons(h:Rep R Z H d v O)(k:Reps R Z H l vs P):Reps R Z H (d::l) (v::vs) (O++P):=by
 exact⟨v,vs,O,P,rfl,rfl,h,k⟩
def Reps.empty:Reps R Z H [] [] []:=by rw[Reps];exact⟨rfl,rfl⟩
theorem Reps.at:∀{l}{vs}{O}{i}{d},Reps R Z H l vs O->l[i]?=some d ->
  Ex4 λv A P B=>An4 (vs[i]?=some v) (O=A++P++B) (Rep R Z H d v P)<|∀{Z'}{H'}{d'}{v'}{P'},Rep R Z' H' d' v' P'->(∀ a,Z a->Z' a)->(∀ a,Z a->H' a=H a)->(∀ a∈A,H' a=H a)->(∀ a∈B,H' a=H a)->Reps R Z' H' (l.set i d') (vs.set i v') (A++P'++B)
 | [],_,_,_,_,_,e=>by simp at e
 | c::l,_,_,0,d,h,e=>by
  obtain⟨v,vs,b,j,rfl,rfl,r1,r2⟩:=h;have e:c=d:=by simpa using e
  subst e;exact⟨v,[],b,j,rfl,rfl,r1,λr f g m n=>⟨_,vs,_,j,rfl,rfl,r,Reps.frame f g r2 n⟩⟩
 | c::l,_,_,i+1,d,h,e=>by
  obtain⟨v,vs,b,j,rfl,rfl,r1,r2⟩:=h;obtain⟨w,A,P,B,p,rfl,q,k⟩:=Reps.at r2 ⇑e;exact⟨w,b++A,P,B,by simpa using p,by simp,q,λ{Z' H' d' v' P'} r f g m n=>⟨v,_,b,A++P'++B,rfl,by simp,Rep.frame f g r1 λa o=>m a<|List.mem_append_left _ o,k r f g (λa o=>m a<|U3 _ o) n⟩⟩
def Reps.item{l}{vs}{i:Nat}(h:Reps R Z H l vs [])(e:l[i]?=some d):∃ v,vs[i]?=some v/\Rep R Z H d v []:=by
 obtain⟨v,A,P,B,a,e2,r,_⟩:=h.at e;have:P=[]:=by
  have:=congrArg List.length e2;simp at this;exact List.eq_nil_of_length_eq_zero ∅
 subst this;exact⟨v,a,r⟩
theorem Reps.take:∀{l}{vs} n,Reps R Z H l vs []->Reps R Z H (l.take n) (vs.take n) []
 | _,_,0,_=>by simp;exact .empty
 | [],_,n+1,h=>by rw[Reps] at h;rw[h.1];exact .empty
 | d::l,_,n+1,h=>by
  obtain⟨v,vs,a,b,rfl,e,r1,r2⟩:=h;obtain⟨rfl,rfl⟩:=List.append_eq_nil_iff.mp e.symm;exact .cons r1<|Reps.take n r2
theorem Reps.drop:∀{l}{vs} n,Reps R Z H l vs []->Reps R Z H (l.drop n) (vs.drop n) []
 | _,_,0,h=>h
 | [],_,n+1,h=>by rw[Reps] at h;rw[h.1];exact .empty
 | d::l,_,n+1,h=>by
  obtain⟨v,vs,a,b,rfl,e,r1,r2⟩:=h;obtain⟨rfl,rfl⟩:=List.append_eq_nil_iff.mp e.symm;exact Reps.drop n r2
theorem Reps.split:∀{l m}{vs}{O},Reps R Z H (l++m) vs O->Ex4 λv1 v2 O1 O2=>An4 (vs=v1++v2) (O=O1++O2) (Reps R Z H l v1 O1)<|Reps R Z H m v2 O2
 | [],m,vs,O,h=>⟨[],vs,[],O,rfl,rfl,.empty,h⟩
 | d::l,m,_,_,h=>by
  obtain⟨v,vs,O1,O2,rfl,rfl,r1,r2⟩:=h;obtain⟨v1,v2,a,b,rfl,rfl,c,e⟩:=Reps.split r2;exact⟨v::v1,v2,O1++a,b,rfl,(List.append_assoc ..).symm,.cons r1 c,e⟩
structure WF(Z:Zn)(H:Hp)(O:W5):Prop where
 nd:O.Nodup
 nz:∀ a∈O,¬ Z a
 od:∀ a∈O,H a≠none
 zd:∀ a,Z a->H a≠none
structure Go(Z:Zn)(H:Hp)(O:W5)(Z':Zn)(H':Hp)(O':W5):Prop where
 wf:WF Z' H' O'
 zz:∀ a,Z a->Z' a
 fr:∀ a,H a≠none->a∉O->H' a=H a
 zn:∀ a,Z' a->Z a\/a∈O\/H a=none
 sub:∀ a∈O',a∈O\/H a=none
 dm:∀ a,H a≠none->H' a≠none
def Go.refl(w:WF Z H O):Go Z H O Z H O:=⟨w,λ_ z=>z,λ_ _ _=>rfl,λ_ z=>.inl z,λ_ h=>.inl h,λ_ h=>h⟩
def Go.trans(g:Go Z H O Z' H' O')(k:Go Z' H' O' Z'' H'' O''):Go Z H O Z'' H'' O'':=by
 refine⟨k.wf,λa z=>k.zz a<|g.zz a z,λa h n=>?_,λa z=>?_,λa h=>?_,λa h=>k.dm a<|g.dm a h⟩
 ·rw[k.fr a (g.dm a h) λb=>(g.sub a b).elim n h,g.fr a h n]
 ·rcases k.zn a z with z | z | z
  ·exact g.zn a z
  ·rcases g.sub a z with q | q
   ·lia
   ·lia
  ·by_cases h:H a=none
   ·lia
   ·exact absurd z<|g.dm a h
 ·rcases k.sub a h with q | q
  ·exact g.sub a q
  ·by_cases h:H a=none
   ·lia
   ·exact absurd q<|g.dm a h
def Go.zH(w:WF Z H O)(g:Go Z H O Z' H' O'):∀ a,Z a->H' a=H a:=λa z=>g.fr a (w.zd a z) λh=>w.nz a h z
def WF.sub(w:WF Z H O)(h:∀ a∈O',a∈O)(n:O'.Nodup):WF Z H O':=⟨n,λa z=>w.nz a<|h a z,λa z=>w.od a<|h a z,w.zd⟩
def WF.mid(w:WF Z H<|A++O++B):WF Z H O:=w.sub (λa h=>by simp[h]) (by have:=w.nd;simp[U9] at this;exact this.2.1.1)
def WF.left(w:WF Z H<|A++B):WF Z H A:=w.sub (λa h=>by simp[h]) (U9.mp w.nd).1
def WF.right(w:WF Z H<|A++B):WF Z H B:=w.sub (λa h=>by simp[h]) (U9.mp w.nd).2.1
def Go.frame(w:WF Z H<|A++O++B)(g:Go Z H O Z' H' O'):Go Z H (A++O++B) Z' H' (A++O'++B):=by
 have nd:=w.nd;simp only[U9,N2] at nd;have new:∀ a∈O',a∉A/\a∉B:=λa h=>by
  rcases g.sub a h with q | q
  ·exact⟨λz=>nd.1.2.2 a z a q rfl,λz=>nd.2.2 a (.inr q) a z rfl⟩
  ·exact⟨λz=>w.od a (by simp[z]) q,λz=>w.od a (by simp[z]) q⟩
 have keep:∀ a,a∈A\/a∈B->a∉O:=λa h z=>by
  rcases h with h | h
  ·exact nd.1.2.2 a h a z rfl
  ·exact nd.2.2 a (.inr z) a h rfl
 refine⟨⟨?_,λa h z=>?_,λa h=>?_,g.wf.zd⟩,g.zz,λa h n=>?_,λa z=>?_,λa h=>?_,g.dm⟩
 ·simp only[U9,N2];exact⟨⟨nd.1.1,g.wf.nd,λa h b k e=>(new b k).1 (e▸h)⟩,nd.2.1,λa h b k e=>by
   rcases h with h | h
   ·exact nd.2.2 a (.inl h) b k e
   ·exact(new a h).2 (e▸k)⟩
 ·simp only[N2] at h;rcases h with(h | h) | h
  ·rcases g.zn a z with q | q | q
   ·exact w.nz a (by simp[h]) q
   ·exact keep a (.inl h) q
   ·exact w.od a (by simp[h]) q
  ·exact g.wf.nz a h z
  ·rcases g.zn a z with q | q | q
   ·exact w.nz a (by simp[h]) q
   ·exact keep a (.inr h) q
   ·exact w.od a (by simp[h]) q
 ·simp only[N2] at h;rcases h with(h | h) | h
  ·exact g.dm a<|w.od a (by simp[h])
  ·exact g.wf.od a h
  ·exact g.dm a<|w.od a (by simp[h])
 ·simp only[N2,not_or] at n;exact g.fr a h n.1.2
 ·rcases g.zn a z with q | q | q
  ·lia
  ·exact .inr<|.inl (by simp[q])
  ·lia
 ·simp only[N2] at h ⊢;rcases h with(h | h) | h
  ·lia
  ·rcases g.sub a h with q | q
   ·lia
   ·lia
  ·lia
def Go.keepA(w:WF Z H<|A++O++B)(g:Go Z H O Z' H' O'):(∀ a∈A,H' a=H a)/\∀ a∈B,H' a=H a:=by
 have nd:=w.nd;simp only[U9,N2] at nd;exact⟨λa h=>g.fr a (w.od a<|by simp[h]) λz=>nd.1.2.2 a h a z rfl,λa h=>g.fr a (w.od a<|by simp[h]) λz=>nd.2.2 a (.inr z) a h rfl⟩
def Go.drop(g:Go Z H O Z' H' O')(h:∀ a∈O'',a∈O')(n:O''.Nodup):Go Z H O Z' H' O'':=⟨g.wf.sub h n,g.zz,g.fr,g.zn,λa q=>g.sub a<|h a q,g.dm⟩
def Go.dropL(g:Go Z H O Z' H'<|A++B):Go Z H O Z' H' B:=g.drop (λa h=>by simp[h]) (U9.mp g.wf.nd).2.1
def Go.dropR(g:Go Z H O Z' H'<|A++B):Go Z H O Z' H' A:=g.drop (λa h=>by simp[h]) (U9.mp g.wf.nd).1
def Go.freeze(w:WF Z H O):Go Z H O (λa=>Z a\/a∈O) H []:=
 ⟨⟨List.nodup_nil,λa h=>(nomatch h),λa h=>(nomatch h),λa h=>h.elim (w.zd a)<|w.od a⟩,λa z=>.inl z,λ_ _ _=>rfl,λa z=>z.elim .inl λq=>.inr<|.inl q,λa h=>(nomatch h),λ_ h=>h⟩
def Go.newF(w:WF Z H O)(b:H p=none):Go Z H O (λa=>Z a\/a=p) (upd H p o) O:=by
 have ne:∀ a,H a≠none->a≠p:=λa h e=>h<|e▸b;refine⟨⟨w.nd,λa h z=>z.elim (w.nz a h)<|ne a<|w.od a h,λa h=>?_,λa z=>?_⟩,λa z=>.inl z,λa h _=>jd<|ne a h,λa z=>z.elim .inl λe=>.inr<|.inr<|e▸b,λa h=>.inl h,λa h=>?_⟩
 ·rw[jd<|ne a<|w.od a h];exact w.od a h
 ·by_cases e:a=p
  ·rw[e,jk];exact λh=>nomatch h
  ·rw[jd e];exact w.zd a<|z.resolve_right e
 ·rw[jd<|ne a h];exact h
def Go.newO(w:WF Z H O)(b:H p=none):Go Z H O Z (upd H p o) (p::O):=by
 have ne:∀ a,H a≠none->a≠p:=λa h e=>h<|e▸b;refine⟨⟨List.nodup_cons.mpr ⟨λh=>w.od p h b,w.nd⟩,λa h z=>?_,λa h=>?_,λa z=>?_⟩,λa z=>z,λa h _=>jd<|ne a h,λa z=>.inl z,λa h=>?_,λa h=>?_⟩
 ·rcases M4.mp h with e | e
  ·exact w.zd a z<|e▸b
  ·exact w.nz a e z
 ·rcases M4.mp h with e | e
  ·rw[e,jk];exact λh=>nomatch h
  ·rw[jd<|ne a<|w.od a e];exact w.od a e
 ·rw[jd<|ne a<|w.zd a z];exact w.zd a z
 ·grind
 ·rw[jd<|ne a h];exact h
def Go.put(w:WF Z H O)(c:p∈O):Go Z H O Z (upd H p o) O:=by
 have b:∀ a,upd H p o a=none->a≠p/\H a=none:=λa h=>by
  by_cases e:a=p
  ·rw[e,jk] at h;cases h
  ·rw[jd e] at h;exact⟨e,h⟩
 exact⟨⟨w.nd,w.nz,λa h z=>w.od a h (b a z).2,λa z e=>w.zd a z (b a e).2⟩,λa z=>z,λa h n=>jd λe=>n<|e▸c,λa z=>.inl z,λa h=>.inl h,λa h z=>h (b a z).2⟩
noncomputable def jhh:D->Option Bool
 | .bl b=>some b
 | _=>none
@[simp] def jci(b):jhh (.bl b)=some b:=rfl
def KJ(h:jhh d=some b):d=.bl b:=by cases d<;>cases h<;>rfl
noncomputable def vp:D->Option Int
 | .int i=>some i
 | _=>none
@[simp] def jbQ(i):vp (.int i)=some i:=rfl
def jB(h:vp d=some n):d=.int n:=by cases d<;>cases h<;>rfl
noncomputable def Ym:D->Option (List D)
 | .lst true l=>some l
 | _=>none
@[simp] def YS(l):Ym (.lst true l)=some l:=rfl
def vv(h:Ym d=some l):d=.lst true l:=by
 cases d with
 | lst o _=>cases o<;>cases h;rfl
 | _=>cases h
noncomputable def jeR:D->Option (List D)
 | .tup l=>some l
 | _=>none
@[simp] def tupOf_tup(l):jeR (.tup l)=some l:=rfl
noncomputable def jfZ:D->Option (List KA×List D)
 | .dK true ks l=>some (ks,l)
 | _=>none
@[simp] def dkOf_dK(ks)(l):jfZ (.dK true ks l)=some (ks,l):=rfl
def jcc(h:jfZ d=some p):d=.dK true p.1 p.2:=by
 cases d with
 | dK o _ _=>cases o<;>cases h;rfl
 | _=>cases h
noncomputable def ji0:D->Option (List KA×List D)
 | .dK _ ks l=>some (ks,l)
 | _=>none
@[simp] def dkAny_e(o)(ks)(l):ji0 (.dK o ks l)=some (ks,l):=rfl
def jen(h:ji0 d=some p):∃ o,d=.dK o p.1 p.2:=by
 cases d with
 | dK o _ _=>cases h;exact⟨o,rfl⟩
 | _=>cases h
noncomputable def jij:D->Option (List (List KA)×List D)
 | .dT true ks l=>some (ks,l)
 | _=>none
@[simp] def dtOf_dT(ks)(l):jij (.dT true ks l)=some (ks,l):=rfl
def z6(h:jij d=some p):d=.dT true p.1 p.2:=by
 cases d with
 | dT o _ _=>cases o<;>cases h;rfl
 | _=>cases h
noncomputable def ze:D->Option (Nat×List Str×List D)
 | .ins true c ns l=>some (c,ns,l)
 | _=>none
@[simp] def insOf_ins(c)(ns)(l):ze (.ins true c ns l)=some (c,ns,l):=rfl
def Jq(h:ze d=some (c,ns,l)):d=.ins true c ns l:=by
 cases d with
 | ins o _ _ _=>cases o<;>cases h;rfl
 | _=>cases h
noncomputable def jnq:D->Option (Nat×List Str×List D)
 | .ins _ c ns l=>some (c,ns,l)
 | _=>none
@[simp] def inOf_ins(o)(c)(ns)(l):jnq (.ins o c ns l)=some (c,ns,l):=rfl
def jhv(h:jnq d=some (c,ns,l)):∃ o,d=.ins o c ns l:=by
 cases d with
 | ins o _ _ _=>cases h;exact⟨o,rfl⟩
 | _=>cases h
noncomputable def jfD:D->Option (List D)
 | .lst _ l=>some l
 | _=>none
@[simp] def lsOf_lst(o)(l):jfD (.lst o l)=some l:=rfl
def Yb(h:jfD d=some l):∃ o,d=.lst o l:=by
 cases d with
 | lst o _=>cases h;exact⟨o,rfl⟩
 | _=>cases h
def wc(h:jeR d=some l):d=.tup l:=by cases d<;>cases h<;>rfl
noncomputable def jdY:List D->Option D
 | [x]=>some x
 | _=>none
def kE(h:jdY l=some x):l=[x]:=by
 match l with
 | [_]=>cases h;rfl
noncomputable def two1:List D->Option (D×D)
 | [x,y]=>some (x,y)
 | _=>none
def two1_of(h:two1 l=some p):l=[p.1,p.2]:=by
 match l with
 | [_,_]=>cases h;rfl
def ob{α β:Type}{C:Prop}{o}{f:α->Option β}{b}(e:o.bind f=some b)(k:∀ a,o=some a->f a=some b->C):C:=by
 cases o with
 | none=>cases e
 | some a=>exact k a rfl e
def oc{β:Type}{C:Prop}{c}{x}{b:β}(e:(bif c then x else none)=some b)(k:c=true->x=some b->C):C:=by
 cases c with
 | false=>cases e
 | true=>exact k rfl e
noncomputable abbrev Rh:=List<|Option D
def Slots(R:RC)(Z:Zn)(H:Hp):Rh->St->List Addr->Prop
 | [],σ,O=>σ=[]/\O=[]
 | none::ρ,σ,O=>∃ s σ',σ=s::σ'/\Slots R Z H ρ σ' O
 | some d::ρ,σ,O=>∃ v σ' O1 O2,σ=some v::σ'/\O=O1++O2/\Rep R Z H d v O1/\Slots R Z H ρ σ' O2
theorem Slots.frame(c:∀ a,Z a->Z' a)(f:∀ a,Z a->H' a=H a):∀{ρ}{σ}{O},Slots R Z H ρ σ O->(∀ a∈O,H' a=H a)->Slots R Z' H' ρ σ O
 | [],_,_,h,_=>h
 | none::ρ,_,_,h,b=>by
  obtain⟨s,g,e,r⟩:=h;exact⟨s,g,e,Slots.frame c f r b⟩
 | some d::ρ,_,_,h,b=>by
  obtain⟨v,g,j,k,e,rfl,r1,r2⟩:=h;exact⟨v,g,j,k,e,rfl,r1.frame c f λa i=>b a<|List.mem_append_left _ i,Slots.frame c f r2 λa i=>b a<|U3 _ i⟩
theorem Slots.length:∀{ρ}{σ}{O},Slots R Z H ρ σ O->σ.length=ρ.length
 | [],_,_,h=>by rw[h.1];rfl
 | none::ρ,_,_,h=>by obtain⟨s,a,rfl,r⟩:=h;rw[M1,M1,Slots.length r]
 | some d::ρ,_,_,h=>by obtain⟨v,a,b,c,rfl,rfl,r1,r2⟩:=h;rw[M1,M1,Slots.length r2]
inductive SPut (R:RC) (Z:Zn) (H:Hp) (ρ:Rh) (σ:St) (O:W5) (i:Nat):Prop
 | mk:∀(A P B:W5),O=A++P++B->(∀ d,ρ[i]?=some (some d)->∃ v,σ[i]?=some (some v)/\Rep R Z H d v P) ->
  (∀{Z':Zn}{H':Hp}{d':D}{v':V}{P':W5},Rep R Z' H' d' v' P'->(∀ a,Z a->Z' a)->(∀ a,Z a->H' a=H a)->(∀ a∈A,H' a=H a)->(∀ a∈B,H' a=H a)->Slots R Z' H' (ρ.set i<|some d') (σ.set i<|some v') (A++P'++B)) ->
  Slots R Z H (ρ.set i none) σ (A++B)->SPut R Z H ρ σ O i
theorem Slots.put:∀{ρ}{σ}{O}{i},Slots R Z H ρ σ O->i<ρ.length->SPut R Z H ρ σ O i
 | [],_,_,_,_,hi=>absurd hi<|Nat.not_lt_zero _
 | none::ρ,_,_,0,h,hi=>by
  obtain⟨s,b,rfl,r⟩:=h;refine⟨[],[],_,rfl,λd e=>by simp at e,λq f g k j=>⟨_,b,_,_,rfl,rfl,q,Slots.frame f g r j⟩,⟨s,b,rfl,r⟩⟩
 | some c::ρ,_,_,0,h,hi=>by
  obtain⟨v,b,l,t,rfl,rfl,r1,r2⟩:=h;refine⟨[],l,t,rfl,λd e=>?_,λq f g k j=>⟨_,b,_,_,rfl,rfl,q,Slots.frame f g r2 j⟩,⟨_,b,rfl,r2⟩⟩
  ·have e:c=d:=by simpa using e
   subst e;exact⟨v,rfl,r1⟩
 | none::ρ,_,_,i+1,h,hi=>by
  obtain⟨s,b,rfl,r⟩:=h;obtain⟨A,P,B,rfl,m,n,o⟩:=Slots.put r ⇑hi;refine⟨A,P,B,rfl,λd e=>m d ⇑e,λq f g k j=>⟨s,_,rfl,n q f g k j⟩,⟨s,b,rfl,o⟩⟩
 | some c::ρ,_,_,i+1,h,hi=>by
  obtain⟨v,b,l,t,rfl,rfl,r1,r2⟩:=h;obtain⟨A,P,B,rfl,m,n,o⟩:=Slots.put r2 ⇑hi;refine⟨l++A,P,B,by simp,λd e=>m d ⇑e,λ{w x y z u} q f g k j=>⟨v,_,l,A++u++B,rfl,by simp,r1.frame f g λa p=>k a<|List.mem_append_left _ p,n q f g (λa p=>k a<|U3 _ p) j⟩,⟨v,b,l,A++B,rfl,by simp,r1,o⟩⟩
theorem yF:∀{l:List α}{i}{x},l[i]?=some x->l.set i x=l
 | [],_,_,h=>by simp at h
 | y::l,0,x,h=>by simp at h;subst h;rfl
 | y::l,i+1,x,h=>by rw[List.set_cons_succ,yF ⇑h]
abbrev FE:=Rh->Option (D×Rh)
abbrev FT':=Rh->Option (Bool×Rh)
abbrev FA:=Rh->Option (List D×Rh)
def DE(R:RC)(te:TE)(f:FE):Prop:=∀{σ}{ρ ρ'}{Z}{H}{O}{d},WF Z H O->Slots R Z H ρ σ O->f ρ=some (d,ρ') ->
 ∀{Q},(∀{v}{Z'}{H'}{P O'},Go Z H O Z' H' (P++O')->Rep R Z' H' d v P->Slots R Z' H' ρ' σ O'->Q v H')->te σ H Q
def DT(R:RC)(tt:TT)(f:FT'):Prop:=∀{σ}{ρ ρ'}{Z}{H}{O}{b},WF Z H O->Slots R Z H ρ σ O->f ρ=some (b,ρ') ->
 ∀{Q:Bool->Hp->Prop},(∀{Z'}{H'}{O'},Go Z H O Z' H' O'->Slots R Z' H' ρ' σ O'->Q b H')->tt σ H Q
def DA(R:RC)(ta:TA)(f:FA):Prop:=∀{σ}{ρ ρ'}{Z}{H}{O}{ds},WF Z H O->Slots R Z H ρ σ O->f ρ=some (ds,ρ') ->
 ∀{Q:List V->Hp->Prop},(∀{vs}{Z'}{H'}{P O'},Go Z H O Z' H' (P++O')->Reps R Z' H' ds vs P->Slots R Z' H' ρ' σ O'->Q vs H')->ta σ H Q
def DO(R:RC)(r:R2)(g:D->D->Option D):Prop:=∀{Z}{H}{x y d}{v u}{O1 O2},WF Z H (O1++O2)->Rep R Z H x v O1->Rep R Z H y u O2->g x y=some d ->
 ∀{Q},(∀{w}{Z'}{H'}{P},Go Z H (O1++O2) Z' H' P->Rep R Z' H' d w P->Q w H')->r v u H Q
def DC(R:RC)(r:List V->Hp->VK->Prop)(g:List D->Option D):Prop:=∀{Z}{H}{xs}{d}{vs}{O},WF Z H O->Reps R Z H xs vs O->g xs=some d ->
 ∀{Q},(∀{w}{Z'}{H'}{P},Go Z H O Z' H' P->Rep R Z' H' d w P->Q w H')->r vs H Q
inductive Out where
 | nx (ρ:Rh) | rt (d:D) (ρ:Rh) | bk (ρ:Rh) | ct (ρ:Rh)
abbrev FS:=Rh->Option Out
noncomputable def Out.thn:Out->FS->Option Out
 | .nx ρ,g=>g ρ
 | .rt d ρ,_=>some<|.rt d ρ
 | .bk ρ,_=>some<|.bk ρ
 | .ct ρ,_=>some<|.ct ρ
@[simp] def thn_nx(ρ)(g):(Out.nx ρ).thn g=g ρ:=rfl
@[simp] def thn_rt(d)(ρ)(g):(Out.rt d ρ).thn g=some (.rt d ρ):=rfl
@[simp] def thn_bk(ρ)(g):(Out.bk ρ).thn g=some (.bk ρ):=rfl
@[simp] def thn_ct(ρ)(g):(Out.ct ρ).thn g=some (.ct ρ):=rfl
noncomputable def Out.val:Out->Option D
 | .rt d _=>some d
 | .nx _=>some .non
 | _=>none
@[simp] def val_rt(d)(ρ):(Out.rt d ρ).val=some d:=rfl
@[simp] def val_nx(ρ):(Out.nx ρ).val=some .non:=rfl
noncomputable def Out.loop:Out->FS->Option Out
 | .nx ρ,g=>g ρ
 | .ct ρ,g=>g ρ
 | .bk ρ,_=>some<|.nx ρ
 | .rt d ρ,_=>some<|.rt d ρ
@[simp] def YM(ρ)(g):(Out.nx ρ).loop g=g ρ:=rfl
@[simp] def loop_ct(ρ)(g):(Out.ct ρ).loop g=g ρ:=rfl
@[simp] def loop_bk(ρ)(g):(Out.bk ρ).loop g=some (.nx ρ):=rfl
@[simp] def loop_rt(d)(ρ)(g):(Out.rt d ρ).loop g=some (.rt d ρ):=rfl
abbrev PF:=Rh->Option D
noncomputable def pV(i:Nat):PF:=λρ=>match ρ[i]? with
 | some (some d)=>some d
 | _=>none
def qu(h:pV i ρ=some d):ρ[i]?=some (some d):=by
 unfold pV at h;split at h
 ·lia
 ·cases h
def Keep(pm:List Nat)(σ σ':St):Prop:=∀ i∈pm,σ'[i]?=σ[i]?
def OutOk(R:RC)(pm:List Nat)(Z:Zn)(H:Hp)(O:W5)(σ:St)(D':Ends):Out->Prop
 | .nx ρ'=>∀{σ'}{Z'}{H'}{O'},Go Z H O Z' H' O'->Slots R Z' H' ρ' σ' O'->Keep pm σ σ'->D'.nx σ' H'
 | .bk ρ'=>∀{σ'}{Z'}{H'}{O'},Go Z H O Z' H' O'->Slots R Z' H' ρ' σ' O'->Keep pm σ σ'->D'.bk σ' H'
 | .ct ρ'=>∀{σ'}{Z'}{H'}{O'},Go Z H O Z' H' O'->Slots R Z' H' ρ' σ' O'->Keep pm σ σ'->D'.ct σ' H'
 | .rt d ρ'=>∀{v}{σ'}{Z'}{H'}{P O'},Go Z H O Z' H' (P++O')->Rep R Z' H' d v P->Slots R Z' H' ρ' σ' O'->Keep pm σ σ'->D'.rt v H'
def DS(R:RC)(pm:List Nat)(ts:TS)(f:FS):Prop:=∀{σ}{ρ}{Z}{H}{O}{o},WF Z H O->Slots R Z H ρ σ O->f ρ=some o->∀{D'},OutOk R pm Z H O σ D' o->ts D' σ H
def DG(R:RC)(pm:List Nat)(tg:TG)(f:D->Rh->Option Rh):Prop:=∀{σ}{ρ ρ'}{Z}{H}{O P}{d}{v},WF Z H (P++O)->Rep R Z H d v P->Slots R Z H ρ σ O->f d ρ=some ρ' ->
 ∀{Q:St->Hp->Prop},(∀{σ'}{Z'}{H'}{O'},Go Z H (P++O) Z' H' O'->Slots R Z' H' ρ' σ' O'->Keep pm σ σ'->Q σ' H')->tg v σ H Q
def Keep.refl(pm)(σ):Keep pm σ σ:=λ_ _=>rfl
def Keep.trans(h:Keep pm σ σ')(k:Keep pm σ' σ''):Keep pm σ σ'':=λi hi=>(k i hi).trans (h i hi)
def Keep.set(h:i∉pm):Keep pm σ (σ.set i x):=λj a=>by
 have ne:i≠j:=λe=>h ∅;rw[List.getElem?_set,if_neg ne]
@[simp] def dMv(i:Nat)(ρ:Rh):Option (D×Rh):=(pV i ρ).bind λd=>some (d,ρ.set i none)
def jkW:DE R (yg i) (dMv i):=by
 intro σ ρ o Z H O d w h e Q k;refine ob e λc f e=>?_;have f:=qu f;obtain⟨A,P,B,rfl,l,p,m⟩:=h.put (L9.mp f).1;obtain⟨v,n,r⟩:=l c f;cases e;refine⟨v,n,k ((Go.refl w).drop (λa q=>?_) ?_) r m⟩
 ·simp at q ⊢;rcases q with q | q | q<;>simp[q]
 ·have nd:=w.nd;simp only[U9,N2] at nd ⊢;exact⟨nd.1.2.1,⟨nd.1.1,nd.2.1,λa g b j=>nd.2.2 a (.inl g) b j⟩,λa g b j e=>j.elim (λq=>nd.1.2.2 b q a g e.symm) λq=>nd.2.2 a (.inr g) b q e⟩
def jip(b:Go Z H O Z' H'<|P1++O1)(g2:Go Z' H' O1 Z'' H''<|P2++O2):Go Z H O Z'' H'' (P1++(P2++O2))/\(∀ a,Z' a->Z'' a)/\(∀ a,Z' a->H'' a=H' a)/\∀ a∈P1,H'' a=H' a:=by
 have w:WF Z' H' (P1++O1++[]):=by simpa using b.wf
 refine⟨b.trans<|by simpa using(g2.frame w),g2.zz,(g2.zH b.wf.right),(Go.keepA w g2).1⟩
@[simp] def dOp(g:D->D->Option D)(fa:FE)(fb:FE)(ρ:Rh):Option (D×Rh):=(fa ρ).bind λr=>(fb r.2).bind λt=>(g r.1 t.1).bind λz=>some (z,t.2)
@[simp] def jdW(ρ:Rh):Option (List D×Rh):=some ([],ρ)
@[simp] def yK(fa:FE)(fr:FA)(ρ:Rh):Option (List D×Rh):=(fa ρ).bind λx=>(fr x.2).bind λy=>some (x.1::y.1,y.2)
def jlv:DA R JO jdW:=by
 intro σ ρ a Z H O d w h e Q k;cases e;exact k (Go.refl w) Reps.empty h
def jhr(b:DE R ta fa)(c:DA R tr fr):DA R (jC ta tr) (yK fa fr):=by
 intro σ ρ j Z H O d w h e Q k;refine ob e λp f e=>?_;obtain⟨x,l⟩:=p;refine ob e λp e2 e=>?_;obtain⟨m,n⟩:=p;cases e;refine b w h f λ{v o q r s} a r1 s1=>(c a.wf.right s1 e2 λ{t u y z A} g2 r2 s2=>?_);obtain⟨g3,zz,g,i⟩:=jip a g2;exact k ⇑g3 (.cons (r1.frame zz g i) r2) s2
noncomputable def dCB(g:List D->Option D)(fa:FA):FE:=λρ=>(fa ρ).bind λp5=>(g p5.1).bind λz=>some (z,p5.2)
def jlz(c:DC R r g)(f:DA R ta fa):DE R (tCB r ta) (dCB g fa):=by
 intro σ ρ q Z H O d w h e Q k;refine ob e λp i e=>?_;obtain⟨x,s⟩:=p;refine ob e λz e3 e=>?_;cases e;refine f w h i λ{v j l m n} a r1 s1=>(c a.wf.left r1 e3 λ{t Z3 u y} g4 o=>?_);have b:WF j l ([]++m++n):=by simpa using a.wf
 refine k (a.trans<|by simpa using(g4.frame b)) o<|s1.frame g4.zz (g4.zH a.wf.left) (Go.keepA b g4).2
def jaR(fa:FA):FE:=dCB (λxs=>bif decide (xs.length<=1000) then some (.tup xs) else none) fa
def jln(h:n<=1000):n<=sizeLine:=Nat.le_of_lt<|jcU h
def Rep.tupNew(w:WF Z H O)(b:H p=none)(r:Reps R Z H l vs O):Rep R (λa=>Z a\/a=p) (upd H p<|.tup vs) (.tup l) (.ref p) O:=by
 have ne:∀ a,H a≠none->a≠p:=λa h e=>h<|e▸b;exact⟨p,vs,rfl,.inl ⟨.inr rfl,.inl jk⟩,r.frame (λa z=>.inl z) (λa z=>jd<|ne a<|w.zd a z) λa h=>jd<|ne a<|w.od a h⟩
def Rep.lstNew(w:WF Z H O)(b:H p=none)(r:Reps R Z H l vs O):Rep R Z (upd H p<|.lst vs) (.lst true l) (.ref p) (p::O):=by
 have ne:∀ a,H a≠none->a≠p:=λa h e=>h<|e▸b;exact⟨p,vs,O,rfl,r.frame (λa z=>z) (λa z=>jd<|ne a<|w.zd a z) λa h=>jd<|ne a<|w.od a h,jk,rfl⟩
def jkJ(c:DA R ta fa):DE R (ut ta) (jaR fa):=by
 refine jlz ?_ c;intro Z H f d vs O w r e Q k;dsimp only at e;by_cases a:f.length<=1000
 ·rw[X1 a,cond_true] at e;cases e;exact⟨by rw[r.length];exact jln a,λp b=>k (Go.newF w b)<|Rep.tupNew w b r⟩
 ·lia
def Rep.bl_of(r:Rep R Z H (.bl b) v O):v=.bl b/\O=[]:=by rw[Rep] at r;exact r
def Rep.bl_mk:Rep R Z H (.bl b) (.bl b) []:=by rw[Rep];exact⟨rfl,rfl⟩
def OutOk.pre(g:Go Z H O Z1 H1 O1)(kp:Keep pm σ σ1)(k:OutOk R pm Z H O σ D' o):OutOk R pm Z1 H1 O1 σ1 D' o:=by
 cases o with
 | nx ρ=>exact λg2 s2 a=>k (g.trans g2) s2<|kp.trans a
 | bk ρ=>exact λg2 s2 a=>k (g.trans g2) s2<|kp.trans a
 | ct ρ=>exact λg2 s2 a=>k (g.trans g2) s2<|kp.trans a
 | rt d ρ=>exact λg2 r2 s2 a=>k (g.trans g2) r2 s2<|kp.trans a
@[simp] def jQ(ρ:Rh):Option Out:=some<|.nx ρ
noncomputable def ji(f g:FS):FS:=λρ=>match f ρ with
 | some (.nx ρ1)=>g ρ1
 | o=>o
@[simp] def jgp:ji f g ρ=(f ρ).bind λo=>o.thn g:=by
 unfold ji;cases h:f ρ with
 | none=>rfl
 | some o=>cases o<;>rfl
def jiE:DS R pm jjz jQ:=by
 intro σ ρ Z H O o w h e a k;cases e;exact k (Go.refl w) h<|Keep.refl _ _
def jk4(c:DS R pm t f)(i:DS R pm u g):DS R pm (jiV t u) (ji f g):=by
 intro σ ρ Z H O o w h e n k;rw[jgp] at e;refine ob e λj l e=>c w h l ?_;cases j with
 | nx a=>exact λ{p q r s} b s1 m=>i b.wf s1 e<|k.pre b m
 | bk a=>cases e;exact k
 | ct a=>cases e;exact k
 | rt d a=>cases e;exact k
@[simp] def sBreak(ρ:Rh):Option Out:=some<|.bk ρ
@[simp] def sCont(ρ:Rh):Option Out:=some<|.ct ρ
@[simp] def JZ(fe:FE)(ρ:Rh):Option Out:=(fe ρ).bind λx=>some<|.nx x.2
def jhG(a:DE R ta fa):DS R pm (v8 ta) (JZ fa):=by
 intro σ ρ Z H O o w h e d k;refine ob e λp b e=>?_;obtain⟨x,f⟩:=p;cases e;exact a w h b λc r1 s1=>k c.dropL s1<|Keep.refl _ _
@[simp] def yy(fe:FE)(ρ:Rh):Option Out:=(fe ρ).bind λx=>some<|.rt x.1 x.2
def jkr(a:DE R ta fa):DS R pm (jn2 ta) (yy fa):=by
 intro σ ρ Z H O o w h e d k;refine ob e λp b e=>?_;obtain⟨x,f⟩:=p;cases e;exact a w h b λc r1 s1=>k c r1 s1<|Keep.refl _ _
@[simp] def sRetN(ρ:Rh):Option Out:=some<|.rt .non ρ
@[simp] def sIf(ft:FT')(f:FS)(g:FS)(ρ:Rh):Option Out:=(ft ρ).bind λx=>bif x.1 then f x.2 else g x.2
def joT(b:DT R tt ft)(d:DS R pm t f)(i:DS R pm u g):DS R pm (jnB tt t u) (sIf ft f g):=by
 intro σ ρ Z H O o w h e l k;refine ob e λp j e=>?_;obtain⟨c,m⟩:=p;refine b w h j λ{n q r} a s1=>?_;cases c with
 | true=>exact jgv<|d a.wf s1 e<|k.pre a<|Keep.refl _ _
 | false=>exact jgD<|i a.wf s1 e<|k.pre a<|Keep.refl _ _
@[simp] def sNever(ρ:Rh):Option Out:=none
@[simp] def jc(pm:List Nat)(i:Nat)(d:D)(ρ:Rh):Option Rh:=bif decide (i<ρ.length)&&!decide (i∈pm) then some (ρ.set i<|some d) else none
def Ku:DG R pm (km i) (jc pm i):=by
 intro σ ρ l Z H O P d v w r h e Q k;unfold jc at e;by_cases hi:i<ρ.length
 ·by_cases g:i∈pm
  ·lia
  ·rw[X1 hi,X2 g] at e;cases e;obtain⟨A,m,B,rfl,n,j,o⟩:=h.put hi;refine k ((Go.refl w).drop (λa q=>?_) ?_) (j r (λ_ z=>z) (λ_ _=>rfl) (λ_ _=>rfl)<|λ_ _=>rfl)<|Keep.set g
   ·simp at q ⊢;rcases q with q | q | q<;>simp[q]
   ·have nd:=w.nd;simp only[U9,N2] at nd ⊢;exact⟨⟨nd.2.1.1.1,nd.1,λa f b c e=>nd.2.2 b c a (.inl<|.inl f) e.symm⟩,nd.2.1.2.1,λa f b c e=>f.elim (λq=>nd.2.1.2.2 a (.inl q) b c e) λq=>nd.2.2 a q b (.inr c) e⟩
 ·lia
@[simp] def jx(fe:FE)(G:D->Rh->Option Rh)(ρ:Rh):Option Out:=(fe ρ).bind λx=>(G x.1 x.2).bind λr=>some<|.nx r
def jb8(b:DE R ta fa)(c:DG R pm tg g):DS R pm (jd2 ta tg) (jx fa g):=by
 intro σ ρ Z H O o w h e i k;refine ob e λp d e=>?_;obtain⟨x,j⟩:=p;refine ob e λl e2 e=>?_;cases e;exact b w h d λa r1 s1=>c a.wf r1 s1 e2 λg2 s2 f=>k (Go.trans a g2) s2 f
noncomputable def gN:List D->Rh->Option Rh:=λds ρ=>match ds with
 | []=>some ρ
 | _=>none
noncomputable def gC(g:D->Rh->Option Rh)(gs:List D->Rh->Option Rh):List D->Rh->Option Rh:=λds ρ=>match ds with
 | []=>none
 | d::r=>(g d ρ).bind λρ1=>gs r ρ1
noncomputable def gT(n:Nat)(gs:List D->Rh->Option Rh):D->Rh->Option Rh:=λd ρ=>match d with
 | .tup l=>bif decide (l.length=n) then gs l ρ else none
 | _=>none
abbrev PTf:=Rh->Option Bool
abbrev PAf:=Rh->Option (List D)
mutual
theorem Rep.dom:∀{d:D}{v:V}{O:W5},Rep R Z H d v O->∀ a∈O,H a≠none
 | .non,_,_,h,a,ha=>by rw[Rep] at h;rw[h.2] at ha;cases ha
 | .bl _,_,_,h,a,ha=>by rw[Rep] at h;rw[h.2] at ha;cases ha
 | .int _,_,_,h,a,ha=>by rw[Rep] at h;rw[h.2] at ha;cases ha
 | .str _,_,_,h,a,ha=>by rw[Rep] at h;rw[h.2] at ha;cases ha
 | .dead,_,_,h,a,ha=>by rw[Rep] at h;rw[h] at ha;cases ha
 | .tok _,_,_,h,a,ha=>by rw[Rep] at h;rw[h.2] at ha;cases ha
 | .kt _,_,_,h,a,ha=>by rw[Rep] at h;obtain⟨_,_,_,_,h⟩:=h;rw[h] at ha;cases ha
 | .exc _ _,_,_,h,a,ha=>by rw[Rep] at h;obtain⟨_,_,_,_,_,_,_,h⟩:=h;rw[h] at ha;cases ha
 | .tup l,_,_,h,a,ha=>by
  rw[Rep] at h;obtain⟨b,vs,e,t,r⟩:=h;exact Reps.dom r a ha
 | .lst o l,_,_,h,a,ha=>by
  rw[Rep] at h;obtain⟨b,vs,O',e,r,h⟩:=h;cases o with
  | true=>
   obtain⟨h1,rfl⟩:=h;rcases M4.mp ha with e | e
   ·rw[e,h1];exact λz=>(nomatch z)
   ·exact Reps.dom r a e
  | false=>rw[h.2.2] at ha;cases ha
 | .dK o ks l,_,_,h,a,ha=>by
  rw[Rep] at h;obtain⟨b,vs,O',e,r,hl,hd,h⟩:=h;cases o with
  | true=>
   have h:=(show _=_ from h);subst h;rcases M4.mp ha with e | e
   ·rw[e,hd];exact λz=>(nomatch z)
   ·exact Reps.dom r a e
  | false=>rw[h.2.2] at ha;cases ha
 | .dT o ks l,_,_,h,a,ha=>by
  rw[Rep] at h;obtain⟨b,vs,O',e,r,hl,hd,h⟩:=h;cases o with
  | true=>
   have h:=(show _=_ from h);subst h;rcases M4.mp ha with e | e
   ·rw[e,hd];exact λz=>(nomatch z)
   ·exact Reps.dom r a e
  | false=>rw[h.2.2] at ha;cases ha
 | .ins o c ns l,_,_,h,a,ha=>by
  rw[Rep] at h;obtain⟨b,dx,vs,O',e,r,hl,hd,h⟩:=h;cases o with
  | true=>
   have h:=(show _=_ from h);subst h;rcases M4.mp ha with e | e
   ·rw[e,hd];exact λz=>(nomatch z)
   ·exact Reps.dom r a e
  | false=>rw[h.2.2] at ha;cases ha
theorem Reps.dom:∀{l:List D}{vs:List V}{O:W5},Reps R Z H l vs O->∀ a∈O,H a≠none
 | [],_,_,h,a,ha=>by rw[Reps] at h;rw[h.2] at ha;cases ha
 | d::l,_,_,h,a,ha=>by
  rw[Reps] at h;obtain⟨v,vs,O1,O2,e,rfl,r1,r2⟩:=h;rcases N2.mp ha with q | q
  ·exact Rep.dom r1 a q
  ·exact Reps.dom r2 a q
end
theorem Slots.dom:∀{ρ}{σ}{O},Slots R Z H ρ σ O->∀ a∈O,H a≠none
 | [],_,_,h,a,b=>by rw[h.2] at b;cases b
 | none::ρ,_,_,h,a,b=>by obtain⟨s,c,rfl,r⟩:=h;exact Slots.dom r a b
 | some d::ρ,_,_,h,a,b=>by
  obtain⟨v,c,e,f,rfl,rfl,r1,r2⟩:=h;rcases N2.mp b with q | q
  ·exact r1.dom a q
  ·exact Slots.dom r2 a q
abbrev Zd(Z:Zn)(H:Hp):Prop:=∀ a,Z a->H a≠none
def wf0(z:Zd Z H):WF Z H []:=⟨List.nodup_nil,λa h=>(nomatch h),λa h=>(nomatch h),z⟩
def Go.id(z:Zd Z H):Go Z H [] Z H []:=Go.refl<|wf0 z
def Go.same(g:Go Z H [] Z' H' P):∀ a,H a≠none->H' a=H a:=λa h=>g.fr a h<|λz=>(nomatch z)
def Go.rep(z:Zd Z H)(g:Go Z H [] Z' H' P)(r:Rep R Z H d v O):Rep R Z' H' d v O:=r.frame g.zz (λa h=>g.same a<|z a h) λa h=>g.same a<|r.dom a h
def Go.reps(z:Zd Z H)(g:Go Z H [] Z' H' P)(r:Reps R Z H l vs O):Reps R Z' H' l vs O:=r.frame g.zz (λa h=>g.same a<|z a h) λa h=>g.same a<|r.dom a h
def Go.slots(z:Zd Z H)(g:Go Z H [] Z' H' P)(r:Slots R Z H ρ σ O):Slots R Z' H' ρ σ O:=r.frame g.zz (λa h=>g.same a<|z a h) λa h=>g.same a<|r.dom a h
def Go.pair(g:Go Z H [] Z' H' P)(k:Go Z' H' [] Z'' H'' P2):Go Z H [] Z'' H'' (P++P2):=by
 have w:WF Z' H' (P++[]++[]):=by simpa using g.wf
 exact g.trans (by simpa using(k.frame w))
def Go.to0(g:Go Z H O Z' H' P):Go Z H O Z' H' []:=g.drop (λa h=>(nomatch h)) List.nodup_nil
def Go.widen(w:WF Z H O)(g:Go Z H [] Z' H' P):Go Z H O Z' H' (P++O):=by
 simpa using(g.frame (A:=[]) ⇑w)
def PP(R:RC)(te:TE)(p:PF):Prop:=∀{σ}{ρ}{Z}{H}{O}{d},Zd Z H->Slots R Z H ρ σ O->p ρ=some d ->
 ∀{Q},(∀{v}{Z'}{H'}{P},Go Z H [] Z' H' P->Rep R Z' H' d v P->Q v H')->te σ H Q
def PB(R:RC)(te:TE)(p:PF):Prop:=∀{σ}{ρ}{Z}{H}{O}{d},Zd Z H->Slots R Z H ρ σ O->p ρ=some d ->
 ∀{Q},(∀{v}{Z'}{H'}{P},Go Z H [] Z' H' []->Rep R Z' H' d v P->Q v H')->te σ H Q
def PPs(R:RC)(ta:TA)(p:PAf):Prop:=∀{σ}{ρ}{Z}{H}{O}{ds},Zd Z H->Slots R Z H ρ σ O->p ρ=some ds ->
 ∀{Q:List V->Hp->Prop},(∀{vs}{Z'}{H'}{P},Go Z H [] Z' H' P->Reps R Z' H' ds vs P->Q vs H')->ta σ H Q
def PBs(R:RC)(ta:TA)(p:PAf):Prop:=∀{σ}{ρ}{Z}{H}{O}{ds},Zd Z H->Slots R Z H ρ σ O->p ρ=some ds ->
 ∀{Q:List V->Hp->Prop},(∀{vs}{Z'}{H'}{P},Go Z H [] Z' H' []->Reps R Z' H' ds vs P->Q vs H')->ta σ H Q
def PTt(R:RC)(tt:TT)(p:PTf):Prop:=∀{σ}{ρ}{Z}{H}{O}{b},Zd Z H->Slots R Z H ρ σ O->p ρ=some b ->
 ∀{Q:Bool->Hp->Prop},(∀{Z'}{H'},Go Z H [] Z' H' []->Q b H')->tt σ H Q
def PP.b(h:PP R te p):PB R te p:=λz s e _ k=>h z s e λg r=>k g.to0 r
def PPs.b(h:PPs R te p):PBs R te p:=λz s e _ k=>h z s e λg r=>k g.to0 r
@[simp] def pF(pa:PF)(ρ:Rh):Option D:=(pa ρ).bind λd=>bif frz d then some d else none
def PB.f(h:PB R te p):PP R te (pF p):=by
 intro σ ρ Z H O d z s e Q k;refine ob e λc a e=>oc e λb e=>?_;cases e;exact h z s a λg r=>by
  cases r.nil b;exact k g r
@[simp] def dP(pa:PF)(ρ:Rh):Option (D×Rh):=(pa ρ).bind λd=>some (d,ρ)
@[simp] def dPT(q:PTf)(ρ:Rh):Option (Bool×Rh):=(q ρ).bind λd=>some (d,ρ)
theorem PP.d(h:PP R te p):DE R te (dP p):=by
 intro σ ρ b Z H O d w s e Q k;refine ob e λc a e=>?_;cases e;exact h w.zd s a λg r=>k (g.widen w) r<|g.slots w.zd s
theorem PTt.d(h:PTt R te p):DT R te (dPT p):=by
 intro σ ρ b Z H O d w s e Q k;refine ob e λc a e=>?_;cases e;exact h w.zd s a λg=>k ⇑(g.widen w) (g.slots w.zd s)
@[simp] def pC(d:D)(ρ:Rh):Option D:=some d
abbrev pI(i:Int):PF:=pC<|.int i
abbrev pS(l:List Nat):PF:=pC<|.str l
def jka:PB R (yg i) (pV i):=by
 intro σ ρ Z H O d z s e Q k;unfold pV at e;split at e
 ·rename_i c a;cases e;obtain⟨A,P,B,rfl,b,_⟩:=s.put (L9.mp a).1;obtain⟨v,f,r⟩:=b d a;exact⟨v,f,k (Go.id z) r⟩
 ·cases e
def jm9(a:∀ Z H,Rep R Z H d v []):PP R (tC v) (pC d):=by
 intro σ ρ Z H O b z s e Q k;cases e;exact k (Go.id z)<|a Z H
def Rep.int_mk:Rep R Z H (.int i) (.int i) []:=by rw[Rep];exact⟨rfl,rfl⟩
def Rep.str_mk:Rep R Z H (.str s) (.str<|S s) []:=by rw[Rep];exact⟨rfl,rfl⟩
def Rep.non_mk:Rep R Z H .non .non []:=by rw[Rep];exact⟨rfl,rfl⟩
def Rep.int_of(r:Rep R Z H (.int i) v O):v=.int i/\O=[]:=by rw[Rep] at r;exact r
def Rep.str_of(r:Rep R Z H (.str s) v O):v=.str (S s)/\O=[]:=by rw[Rep] at r;exact r
def Rep.non_of(r:Rep R Z H .non v O):v=.non/\O=[]:=by rw[Rep] at r;exact r
def BO(R:RC)(r:R2)(g:D->D->Option D):Prop:=∀{Z}{H}{x y d}{v u}{O1 O2},Zd Z H->Rep R Z H x v O1->Rep R Z H y u O2->g x y=some d ->
 ∀{Q},(∀{w}{Z'}{H'}{P},Go Z H [] Z' H' P->Rep R Z' H' d w P->Q w H')->r v u H Q
def BO'(R:RC)(r:R2)(g:D->D->Option D):Prop:=∀{Z}{H}{x y d}{v u}{O1 O2},Zd Z H->Rep R Z H x v O1->Rep R Z H y u O2->g x y=some d ->
 ∀{Q},(∀{w}{P},Rep R Z H d w P->Q w H)->r v u H Q
def BU(R:RC)(r:V->Hp->VK->Prop)(g:D->Option D):Prop:=∀{Z}{H}{x d}{v}{O},Zd Z H->Rep R Z H x v O->g x=some d ->
 ∀{Q},(∀{w}{Z'}{H'}{P},Go Z H [] Z' H' P->Rep R Z' H' d w P->Q w H')->r v H Q
def BC(R:RC)(r:List V->Hp->VK->Prop)(g:List D->Option D):Prop:=∀{Z}{H}{xs}{d}{vs}{O},Zd Z H->Reps R Z H xs vs O->g xs=some d ->
 ∀{Q},(∀{w}{Z'}{H'}{P},Go Z H [] Z' H' P->Rep R Z' H' d w P->Q w H')->r vs H Q
@[simp] def p2(G:D->D->Option D)(pa:PF)(pb:PF)(ρ:Rh):Option D:=(pa ρ).bind λx=>(pb ρ).bind λy=>G x y
@[simp] def p1(G:D->Option D)(pa:PF)(ρ:Rh):Option D:=(pa ρ).bind G
def Qb(b:BO R r g)(c:PB R ta pa)(f:PB R tb pb):PP R (tOp r ta tb) (p2 g pa pb):=by
 intro σ ρ Z H O d z s e Q k;exact ob e λx h e=>ob e λy e2 e=>(c z s h λ{v j l m} a r1=>(f a.wf.zd (a.slots z s) e2 λ{u n o p} g2 r2=>(b g2.wf.zd (g2.rep a.wf.zd r1) r2 e λg3 i=>k ((a.pair g2).pair g3) i)))
def jno(b:BO' R r g)(c:PB R ta pa)(f:PB R tb pb):PB R (tOp r ta tb) (p2 g pa pb):=by
 intro σ ρ Z H O d z s e Q k;exact ob e λx h e=>ob e λy e2 e=>(c z s h λ{v i j l} a r1=>(f a.wf.zd (a.slots z s) e2 λ{u m n o} g2 r2=>(b g2.wf.zd (g2.rep a.wf.zd r1) r2 e<|k<|a.pair g2)))
def jnE(b:BU R r g)(c:PB R ta pa):PP R (tUn r ta) (p1 g pa):=by
 intro σ ρ Z H O d z s e Q k;exact ob e λx f e=>(c z s f λ{v i j l} a r1=>b a.wf.zd r1 e λg3 h=>k ⇑(a.pair g3) h)
@[simp] def pN(ρ:Rh):Option (List D):=some []
@[simp] def ja(pa:PF)(p:PAf)(ρ:Rh):Option (List D):=(pa ρ).bind λx=>(p ρ).bind λxs=>some<|x::xs
def pps_nil:PPs R JO pN:=by
 intro σ ρ Z H O d z s e Q k;cases e;exact k (Go.id z) Reps.empty
def jd7(b:PP R ta pa)(c:PPs R tr pr):PPs R (jC ta tr) (ja pa pr):=by
 intro σ ρ Z H O d z s e Q k;refine ob e λx f e=>ob e λg e2 e=>?_;cases e;exact b z s f λ{v h i j} a r1=>(c a.wf.zd (a.slots z s) e2 λ{u l m n} g2 r2=>(k (a.pair g2)<|.cons (g2.rep a.wf.zd r1) r2))
def jis:PBs R JO pN:=pps_nil.b
def jfh(b:PB R ta pa)(c:PBs R tr pr):PBs R (jC ta tr) (ja pa pr):=by
 intro σ ρ Z H O d z s e Q k;refine ob e λx f e=>ob e λg e2 e=>?_;cases e;exact b z s f λ{v h i j} a r1=>(c a.wf.zd (a.slots z s) e2 λ{u l m n} g2 r2=>(k (a.pair g2)<|.cons (g2.rep a.wf.zd r1) r2))
@[simp] def pCB(G:List D->Option D)(p:PAf)(ρ:Rh):Option D:=(p ρ).bind G
def jjs(b:BC R r g)(c:PBs R ta pa):PP R (tCB r ta) (pCB g pa):=by
 intro σ ρ Z H O d z s e Q k;exact ob e λx f e=>(c z s f λ{v i j l} a r1=>b a.wf.zd r1 e λg3 h=>k ⇑(a.pair g3) h)
noncomputable def lim(n:Nat):Bool:=decide<|n<=100000
def qk(h:lim n=true):n<=sizeLine:=N7 (X3 h) (by decide)
def VA(h:lim n=true):n<sizeLine:=X9 (X3 h) (by decide)
@[simp] def yb(p:PAf)(ρ:Rh):Option D:=(p ρ).bind λxs=>bif lim xs.length then some (.tup xs) else none
@[simp] def Yp(p:PAf)(ρ:Rh):Option D:=(p ρ).bind λxs=>bif lim xs.length then some (.lst true xs) else none
def jlG(c:PPs R ta pa):PP R (ut ta) (yb pa):=by
 intro σ ρ Z H O d z s e Q k;refine ob e λh f e=>oc e λg e=>?_;cases e;exact c z s f λ{v i j l} a r1=>⟨by rw[r1.length];exact qk g,λp b=>k (a.trans<|Go.newF a.wf b)<|Rep.tupNew a.wf b r1⟩
def jmi(c:PPs R ta pa):PP R (joo ta) (Yp pa):=by
 intro σ ρ Z H O d z s e Q k;refine ob e λh f e=>oc e λg e=>?_;cases e;exact c z s f λ{v i j l} a r1=>⟨by rw[r1.length];exact qk g,λp b=>k (a.trans<|Go.newO a.wf b)<|Rep.lstNew a.wf b r1⟩
@[simp] def jl(pa:PF)(ρ:Rh):Option Bool:=(pa ρ).bind jhh
@[simp] def jcu(q:PTf)(q':PTf)(ρ:Rh):Option Bool:=(q ρ).bind λb=>bif b then q' ρ else some false
@[simp] def qOr(q:PTf)(q':PTf)(ρ:Rh):Option Bool:=(q ρ).bind λb=>bif b then some true else q' ρ
@[simp] def jmk(q:PTf)(ρ:Rh):Option Bool:=(q ρ).bind λb=>some<|!b
def jcD(a:PB R ta pa):PTt R (uI ta) (jl pa):=by
 intro σ ρ Z H O b z s e Q k;refine ob e λx c e=>?_;cases KJ e;refine a z s c λ{v f g h} d r1=>?_;obtain⟨rfl,rfl⟩:=r1.bl_of;exact⟨b,rfl,k d⟩
def jmx(d:PTt R ta pa)(f:PTt R tb pb):PTt R (jnF ta tb) (jcu pa pb):=by
 intro σ ρ Z H O b z s e Q k;refine ob e λc g e=>(d z s g λ{h i} a=>?_);cases c with
 | true=>exact jgv<|f a.wf.zd (a.slots z s) e λg2=>k<|a.pair g2
 | false=>cases e;exact jgD<|k a
def joJ(d:PTt R ta pa)(f:PTt R tb pb):PTt R (tOr ta tb) (qOr pa pb):=by
 intro σ ρ Z H O b z s e Q k;refine ob e λc g e=>(d z s g λ{h i} a=>?_);cases c with
 | true=>cases e;exact jgv<|k a
 | false=>exact jgD<|f a.wf.zd (a.slots z s) e λg2=>k<|a.pair g2
def jhc(a:PTt R ta pa):PTt R (jn6 ta) (jmk pa):=by
 intro σ ρ Z H O b z s e Q k;refine ob e λc d e=>?_;cases e;exact a z s d λ{g h} f=>k f
@[simp] def jmh(pa:PF)(pb:PF)(ρ:Rh):Option D:=(pa ρ).bind λd=>(jhh d).bind λb=>bif b then pb ρ else some (.bl false)
@[simp] def pOr(pa:PF)(pb:PF)(ρ:Rh):Option D:=(pa ρ).bind λd=>(jhh d).bind λb=>bif b then some (.bl true) else pb ρ
@[simp] def jnz(pa:PF)(ρ:Rh):Option D:=(pa ρ).bind λd=>(jhh d).bind λb=>some<|.bl<|!b
def jko(b:PB R ta pa)(f:PP R tb pb):PP R (jgM ta tb) (jmh pa pb):=by
 intro σ ρ Z H O d z s e Q k;refine ob e λx g e=>ob e λc e2 e=>?_;cases KJ e2;refine b z s g λ{v h i j} a r1=>?_;obtain⟨rfl,rfl⟩:=r1.bl_of;refine⟨c,rfl,?_⟩;cases c with
 | true=>exact jgv<|f a.wf.zd (a.slots z s) e λg2 r2=>k ⇑(a.pair g2) r2
 | false=>cases e;exact jgD<|k a .bl_mk
def jog(b:PB R ta pa)(f:PP R tb pb):PP R (joS ta tb) (pOr pa pb):=by
 intro σ ρ Z H O d z s e Q k;refine ob e λx g e=>ob e λc e2 e=>?_;cases KJ e2;refine b z s g λ{v h i j} a r1=>?_;obtain⟨rfl,rfl⟩:=r1.bl_of;refine⟨c,rfl,?_⟩;cases c with
 | true=>cases e;exact jgv<|k a .bl_mk
 | false=>exact jgD<|f a.wf.zd (a.slots z s) e λg2 r2=>k ⇑(a.pair g2) r2
def jkh(a:PB R ta pa):PP R (jjw ta) (jnz pa):=by
 intro σ ρ Z H O d z s e Q k;refine ob e λx b e=>ob e λc e2 e=>?_;cases KJ e2;cases e;refine a z s b λ{v g h i} f r1=>?_;obtain⟨rfl,rfl⟩:=r1.bl_of;exact⟨c,rfl,k f .bl_mk⟩
@[simp] def pIf(q:PTf)(pa:PF)(pb:PF)(ρ:Rh):Option D:=(q ρ).bind λb=>bif b then pa ρ else pb ρ
def joH(b:PTt R tt pt)(f:PP R ta pa)(g:PP R tb pb):PP R (tIf tt ta tb) (pIf pt pa pb):=by
 intro σ ρ Z H O d z s e Q k;refine ob e λc h e=>(b z s h λ{i j} a=>?_);cases c with
 | true=>exact jgv<|f a.wf.zd (a.slots z s) e λg2 r2=>k ⇑(a.pair g2) r2
 | false=>exact jgD<|g a.wf.zd (a.slots z s) e λg2 r2=>k ⇑(a.pair g2) r2
@[simp] def pChain(G:D->D->Option D)(G':D->D->Option D)(pa:PF)(pb:PF)(pc:PF)(ρ:Rh):Option D:=(pa ρ).bind λx=>(pb ρ).bind λy=>(G x y).bind λd=>(jhh d).bind λb=>bif b then((pc ρ).bind λw=>G' y w) else some (.bl false)
def jjM(R:RC)(J:It)(Z:Zn)(H:Hp)(xs:List D):Prop:=∀{Z1}{H1},(∀ a,Z a->Z1 a)->(∀ a,Z a->H1 a=H a)->Zd Z1 H1->∀ i:Nat,
 (xs.length<=i->J.stop i H1)/\∀ x,xs[i]?=some x->J.go i H1/\∀ u H2,J.yld i H1 u H2->∃ Z2,Go Z1 H1 [] Z2 H2 []/\Rep R Z2 H2 x u []
def PIt(R:RC)(wi:TI)(p:PAf):Prop:=∀{σ}{ρ}{Z}{H}{O}{xs},Zd Z H->Slots R Z H ρ σ O->p ρ=some xs ->
 ∀{Q:It->Hp->Prop},(∀{J}{Z'}{H'},Go Z H [] Z' H' []->jjM R J Z' H' xs->Q J H')->wi σ H Q
def jd1(K:W4)(tl:TE):TI:=λσ H Q=>tl σ H λx H1=>
 (∃ a,x=.ref a/\(∃ xs,SqL K H1 a xs)/\Q (Itl K a) H1)\/(∃ a,x=.ref a/\(∃ xs,SqT K H1 a xs)/\Q (Itt K a) H1) \/ ∃ l,x=.str (S l)/\Q (Its l) H1
def uo(z:PE X l tl):PI X tg l (jd1 X.K tl):=by
 intro c s σ H Q I h;have m:∀ v s1,EP X c σ (λx f=>(∃ a,x=.ref a/\(∃ g,SqL X.K f a g)/\Q (Itl X.K a) f)\/(∃ a,x=.ref a/\(∃ g,SqT X.K f a g)/\Q (Itt X.K a) f) \/ ∃ l,x=.str (S l)/\Q (Its l) f) v s1->wpAny (model X.prog X.w) X.A (pyIter v) (PIE X c σ tg Q) X.xe s1:=by
  rintro v s1 ⟨x,f,d,r1,B⟩;rcases B with⟨a,rfl,⟨g,n⟩,q⟩ | ⟨a,rfl,⟨g,n⟩,q⟩ | ⟨l,rfl,q⟩
  ·cases r1;obtain⟨r,C,p,D⟩:=d.list n;refine wpAny_pyIter_list p.isList ⟨↥s1,[↥s1],_,_,f,rfl,d.kept λb o e=>L8 _ e,jde a _,⟨_,X8 _ rfl,rfl,rfl⟩,λb j=>?_,q⟩;have e:b=↥s1:=by simpa using j
   subst e;exact d.fpOk (M8 _)<|d.hok.fresh<|M8 _
  ·cases r1;obtain⟨r,C,p,D⟩:=d.tuple n;refine wpAny_pyIter_tuple (p) ⟨↥s1,[↥s1],_,_,f,rfl,d.kept λb o e=>L8 _ e,uU a _,⟨_,X8 _ rfl,rfl,rfl⟩,λb j=>?_,q⟩;have e:b=↥s1:=by simpa using j
   subst e;exact d.fpOk (M8 _)<|d.hok.fresh<|M8 _
  ·obtain⟨t,rfl⟩:=r1;have k:∀ ty,(ty = "str_ascii_iterator" \/ ty = "str_iterator")->(∀ A:Around,A.handled=none->Walks X.prog X.w A ↥s1 [↥s1] [↥s1] (S l).cps.size (SignAt<|S l) (λi h=>h.IsStrIter ↥s1 ty (S l) t i)) ->
     PIE X c σ tg Q (.ref ↥s1) { s1 with heap:=s1.heap.push {cls:=.type ty,data:=.fields #[.str (S l) t,.int 0 0]} }:=λty u W=>by
    refine⟨↥s1,[↥s1],_,_,f,rfl,d.kept λb o e=>L8 _ e,jed _ l t ty u W,⟨_,X8 _ rfl,rfl,rfl⟩,λb j=>?_,q⟩;have e:b=↥s1:=by simpa using j
    subst e;exact d.fpOk (M8 _)<|d.hok.fresh<|M8 _
   cases ha:(S l).cps.all (· < 128)
   ·exact wpAny_pyIter_wide ha<|k _ (.inr rfl) λE y=>Walks.strWide y _ (S l) t
   ·exact wpAny_pyIter_ascii ha<|k _ (.inl rfl) λE y=>Walks.strAscii y _ (S l) t
 exact thn (z c s σ H _ I h) m
def KK:D->Option (List D)
 | .lst _ l=>some<|fzs l
 | .tup l=>some<|fzs l
 | .str s=>some<|s.map λc=>.str [c]
 | _=>none
@[simp] def pIt(pa:PF)(ρ:Rh):Option (List D):=(pa ρ).bind KK
def jmn(h:FL R Z H a vs)(r:Reps R Z H l vs []):jjM R (Itl R.K a) Z H l:=by
 intro j o d f zd i;have b:=(h.frame d f).sq;refine⟨λhi=>⟨vs,b,by rw[r.length];exact hi⟩,λx k=>?_⟩;obtain⟨v,g,m⟩:=(r.frame d f λa n=>(nomatch n)).item k;refine⟨⟨vs,v,b,g⟩,λu p c=>?_⟩;obtain⟨rfl,c⟩:=c;have e:=c vs b;rw[g] at e;cases e;exact⟨j,Go.id zd,m⟩
def jmB(h:FT R Z H a vs)(r:Reps R Z H l vs []):jjM R (Itt R.K a) Z H l:=by
 intro j o d f zd i;have b:=(h.frame d f).sq;refine⟨λhi=>⟨vs,b,by rw[r.length];exact hi⟩,λx k=>?_⟩;obtain⟨v,g,m⟩:=(r.frame d f λa n=>(nomatch n)).item k;refine⟨⟨vs,v,b,g⟩,λu p c=>?_⟩;obtain⟨rfl,c⟩:=c;have e:=c vs b;rw[g] at e;cases e;exact⟨j,Go.id zd,m⟩
def jgz:jjM R (Its s) Z H (s.map λc=>.str [c]):=by
 intro d g h j zd i;refine⟨λhi=>by show s.length<=i;simpa using hi,λx a=>?_⟩;rw[List.getElem?_map] at a;cases e:s[i]? with
 | none=>rw[e] at a;cases a
 | some c=>
  rw[e] at a;cases a;refine⟨(L9.mp e).1,λu k f=>?_⟩;obtain⟨rfl,l,b,rfl⟩:=f;rw[e] at b;cases b;exact⟨d,Go.id zd,.str_mk⟩
def Go.fz(g:Go Z H [] Z' H' P):Go Z H [] (λa=>Z' a\/a∈P) H' []:=g.trans<|Go.freeze g.wf
def jnf(h:PP R te p):PIt R (jd1 R.K te) (pIt p):=by
 intro σ ρ Z H O m z s e Q k;refine ob e λd g e=>(h z s g λ{v i n j} c r1=>?_);have r2:=r1.freeze (Z':=λa=>i a\/a∈j) (λa z=>.inl z) λa z=>.inr z;cases d with
 | lst o l=>
  cases e;obtain⟨a,vs,q,rfl,f,b,rfl,_⟩:=r2;exact .inl ⟨a,rfl,⟨vs,FL.sq b⟩,k c.fz<|jmn b f⟩
 | tup l=>
  cases e;obtain⟨a,vs,rfl,b,f⟩:=r2;exact .inr<|.inl ⟨a,rfl,⟨vs,FT.sq b⟩,k c.fz<|jmB b f⟩
 | str t=>
  cases e;obtain⟨rfl,rfl⟩:=r1.str_of;exact .inr<|.inr ⟨t,rfl,k c jgz⟩
 | _=>cases e
noncomputable def Vt(lo:Int)(n:Nat):List D:=(List.range n).map λ(i:Nat)=>D.int<|lo+(i:Int)
def jmH:jjM R (Itr lo n) Z H (Vt lo n):=by
 intro b d e f zd i;refine⟨λhi=>by show n<=i;simpa [Vt] using hi,λx a=>?_⟩;unfold Vt at a;rw[List.getElem?_map] at a;by_cases hi:i<n
 ·rw[List.getElem?_range hi] at a;cases a;refine⟨hi,λu g c=>?_⟩;obtain⟨rfl,rfl⟩:=c;exact⟨b,Go.id zd,.int_mk⟩
 ·rw[List.getElem?_eq_none ⇑hi] at a;cases a
noncomputable def VG(i:Int):Bool:=Nat.ble i.natAbs 4611686018427387903
def Vn(h:VG i=true):-(2 ^ 62)<=i/\i<2 ^ 62:=by
 have h:=Nat.le_of_ble_eq_true h;constructor<;>lia
def jbJ(l:List D):Option (List D):=(jdY l).bind λx=>(vp x).bind λj=>bif VG j then some (Vt 0 j.toNat) else none
@[simp] def Km(p:PAf)(ρ:Rh):Option (List D):=(p ρ).bind jbJ
def Reps.one_of(r:Reps R Z H [d] vs O):∃ v,vs=[v]/\Rep R Z H d v O:=by
 obtain⟨v,a,b,c,rfl,rfl,r1,r2⟩:=r;obtain⟨rfl,rfl⟩:=r2;exact⟨v,rfl,by simpa using r1⟩
def Reps.two_of(r:Reps R Z H [d,e] vs O):Ex4 λv u O1 O2=>An4 (vs=[v,u]) (O=O1++O2) (Rep R Z H d v O1) (Rep R Z H e u O2):=by
 obtain⟨v,a,O1,O2,rfl,rfl,r1,r2⟩:=r;obtain⟨u,rfl,b⟩:=r2.one_of;exact⟨v,u,O1,O2,rfl,rfl,r1,b⟩
def ji6(h:PBs R ta p):PIt R (jjn ta) (Km p):=by
 intro σ ρ Z H O d z s e Q k;refine ob e λl b e=>ob e λx e2 e=>ob e λj e3 e=>oc e λa e=>?_;cases e;cases kE e2;cases jB e3;refine h z s b λ{v f g i} c r1=>?_;obtain⟨u,rfl,r2⟩:=r1.one_of;obtain⟨rfl,_⟩:=r2.int_of;exact⟨j,rfl,(Vn a).1,(Vn a).2,k c jmH⟩
def PGt(R:RC)(pm:List Nat)(tg:TG)(f:D->Rh->Option Rh):Prop:=∀{σ}{ρ ρ'}{Z}{H}{O}{d}{v},Rep R Z H d v []->Slots R Z H ρ σ O->f d ρ=some ρ' ->
 ∀{Q:St->Hp->Prop},(∀{σ'}{O'},(∀ a∈O',a∈O)->(O.Nodup->O'.Nodup)->Slots R Z H ρ' σ' O'->Keep pm σ σ'->Q σ' H)->tg v σ H Q
def jmo(R:RC)(pm:List Nat)(tg:TGs)(f:List D->Rh->Option Rh):Prop:=∀{σ}{ρ ρ'}{Z}{H}{O}{ds}{vs},Reps R Z H ds vs []->Slots R Z H ρ σ O->f ds ρ=some ρ' ->
 ∀{Q:St->Hp->Prop},(∀{σ'}{O'},(∀ a∈O',a∈O)->(O.Nodup->O'.Nodup)->Slots R Z H ρ' σ' O'->Keep pm σ σ'->Q σ' H)->tg vs σ H Q
def jfc:PGt R pm (km i) (jc pm i):=by
 intro σ ρ f Z H O d v r h e Q k;unfold jc at e;by_cases hi:i<ρ.length
 ·by_cases b:i∈pm
  ·lia
  ·rw[X1 hi,X2 b] at e;cases e;obtain⟨A,g,B,rfl,j,c,l⟩:=h.put hi;refine k (λa q=>?_) (λnd=>?_) (c r (λ_ z=>z) (λ_ _=>rfl) (λ_ _=>rfl)<|λ_ _=>rfl)<|Keep.set b
   ·simp at q ⊢;rcases q with q | q<;>simp[q]
   ·grind
 ·lia
def jff:jmo R pm jjm gN:=by
 intro σ ρ c Z H O b vs r h e Q k;cases b with
 | cons _ _=>cases e
 | nil=>
  cases e;obtain⟨rfl,_⟩:=r;exact⟨rfl,k (λa h=>h) (λh=>h) h<|Keep.refl _ _⟩
def jbD(f:PGt R pm t g)(i:jmo R pm u gs):jmo R pm (Vf t u) (gC g gs):=by
 intro σ ρ w Z H O c vs r h e Q k;cases c with
 | nil=>cases e
 | cons d c=>
  refine ob e λx j e=>?_;obtain⟨v,b,y,z,rfl,e3,r1,r2⟩:=r;obtain⟨rfl,rfl⟩:=List.append_eq_nil_iff.mp e3.symm;exact⟨v,b,rfl,f r1 h j λs1 l m n=>i r2 m e λs2 o p s=>k (λa q=>s1 a<|s2 a q) (λq=>o<|l q) p<|n.trans s⟩
def jiM(f:jmo R pm u gs):PGt R pm (jgL R.K n u) (gT n gs):=by
 intro σ ρ i Z H O d v r h e Q k;cases d with
 | tup l=>
  unfold gT at e;dsimp only at e;by_cases b:l.length=n
  ·rw[X1 b,cond_true] at e;obtain⟨a,vs,rfl,g,c⟩:=r;exact⟨a,vs,rfl,g.sq,by rw[c.length];exact b,f c h e k⟩
  ·lia
 | _=>cases e
noncomputable def jI(g:D->Rh->Option Rh)(f:FS):List D->FS
 | [],ρ=>some<|.nx ρ
 | x::xs,ρ=>(g x ρ).bind λr=>(f r).bind λo=>o.loop<|jI g f xs
@[simp] def JB(p:PAf)(G:D->Rh->Option Rh)(f:FS)(ρ:Rh):Option Out:=(p ρ).bind λxs=>jI G f xs ρ
def yY{l:List α}{i}(h:l[i]?=some x):l.drop i=x::l.drop (i+1):=by
 obtain⟨hi,rfl⟩:=L9.mp h;exact List.drop_eq_getElem_cons hi
inductive LpF (R:RC) (pm:List Nat) (g:D->Rh->Option Rh) (f:FS) (σ:L2.St) (Z0:Zn) (H0:Hp) (O:W5) (xs:List D) (o:Out) (i m:Nat) (σ':L2.St) (H':Hp):Prop
 | mk:m=xs.length-i->i<=xs.length->∀(ρ':Rh) (Z':Zn) (O':W5),Go Z0 H0 O Z' H' O'->Slots R Z' H' ρ' σ' O'->Keep pm σ σ'->jI g f (xs.drop i) ρ'=some o->LpF R pm g f σ Z0 H0 O xs o i m σ' H'
def jl1(hi:PIt R wi p)(M:PGt R pm tg g)(N:DS R pm tb f):DS R pm (jfd wi tg tb) (JB p g f):=by
 intro σ ρ Z H O o w s e D' k;refine ob e λc P e=>(hi w.zd s P λ{J y B} I Q=>?_);have a:Go Z H O y B O:=by simpa using I.widen w
 refine⟨LpF R pm g f σ y B O c o,
  ⟨c.length,rfl,U5 _,ρ,y,O,Go.refl a.wf,I.slots w.zd s,Keep.refl _ _,e⟩,?_⟩
 rintro i m σ' S ⟨rfl,T,ρ',U,K,h,s1,kp,e2⟩;have r:=Q h.zz (h.zH a.wf) h.wf.zd i;by_cases C:i<c.length
 ·right
  have L:c[i]?=some c[i]:=by simp
  obtain⟨go,V⟩:=r.2 _ L;rw[yY L] at e2;refine ob e2 λρ1 e3 e2=>ob e2 λW X e2=>⟨go,λD n=>∃ b q z,Go y B O q n z/\Slots R q n b D z/\Keep pm σ D/\jI g f (c.drop<|i+1) b=some o,λD n ⟨b,q,z,Y,a2,a3,a4⟩=>⟨c.length-(i+1),by lia,rfl,C,b,q,z,Y,a2,a3,a4⟩,λu n hy=>?_⟩;obtain⟨q,g2,r2⟩:=V u n hy;have t:Go U S K q n K:=by simpa using g2.widen h.wf
  refine M r2 (g2.slots h.wf.zd s1) e3 λ{σ3 O3} sub nd s3 A=>?_;have g3:=(h.trans t).drop sub (nd t.wf.nd);refine N g3.wf s3 X ?_;cases W with
  | nx b=>exact λ{E v F x} g4 j l=>⟨b,v,x,g3.trans g4,j,kp.trans<|A.trans l,e2⟩
  | ct b=>exact λ{E v F x} g4 j l=>⟨b,v,x,g3.trans g4,j,kp.trans<|A.trans l,e2⟩
  | bk b=>cases e2;exact λ{E v F x} g4 j l=>k (a.trans<|g3.trans g4) j<|kp.trans<|A.trans l
  | rt d b=>cases e2;exact λ{v4 E v F P4 x} g4 r4 j l=>k (a.trans<|g3.trans g4) r4 j<|kp.trans<|A.trans l
 ·left
  have G:i=c.length:=by lia
  refine⟨r.1 ∅,?_⟩;rw[G,List.drop_length] at e2;cases e2;exact k (a.trans h) s1 kp
noncomputable def jt(ix:List<|Option Nat)(ρ:Rh):Rh:=ix.map λo=>o.bind λj=>(ρ[j]?).join
def xl(s:Slots R Z H ρ σ O):∀ ix:List (Option Nat),∃ O',Slots R Z H (jt ix ρ) (vm ix σ) O':=by
 intro ix
 induction ix with
 | nil=>
  exact⟨[],rfl,rfl⟩
 | cons o ix a=>
  obtain⟨O',a⟩:=a;show ∃ O',Slots R Z H ((o.bind λj=>(ρ[j]?).join)::jt ix ρ) ((o.bind λj=>(σ[j]?).join)::vm ix σ) O';cases e:o.bind λj=>(ρ[j]?).join with
  | none=>exact⟨O',_,_,rfl,a⟩
  | some d=>
   cases o with
   | none=>cases e
   | some j=>
    have f:(ρ[j]?).join=some d:=e;have e2:ρ[j]?=some (some d):=by grind
    obtain⟨A,P,B,_,b,_⟩:=s.put (L9.mp e2).1;obtain⟨v,c,r⟩:=b d e2;refine⟨P++O',v,_,P,O',?_,rfl,r,a⟩;show((σ[j]?).join::vm ix σ)=some v::vm ix σ;rw[c];rfl
@[simp] def qT(ρ:Rh):Option Bool:=some true
def jin:PTt R (λ_ H Q=>Q true H) qT:=by
 intro σ ρ Z H O b z s e Q k;cases e;exact k<|Go.id z
noncomputable def jL(g:D->Rh->Option Rh)(q:PTf)(p:PF):List D->Rh->Option (List D)
 | [],_=>some []
 | x::xs,ρ=>(g x ρ).bind λρ1=>(q ρ1).bind λb=>bif b then((p ρ1).bind λy=>(jL g q p xs ρ1).bind λys=>some<|y::ys) else jL g q p xs ρ1
@[simp] def ya(pi:PAf)(G:D->Rh->Option Rh)(q:PTf)(pa:PF)(ix:List<|Option Nat)(ρ:Rh):Option D:=(pi ρ).bind λxs=>bif lim xs.length then((jL G q pa xs<|jt ix ρ).bind λys=>some<|.lst true ys) else none
noncomputable def spP(R:RC)(m:List D->Option D)(n:Nat):Sp:=λvs H Q _=>∃ Z ds d,Zd Z H/\ds.length=n/\Reps R Z H ds vs []/\m ds=some d/\∀{v}{Z'}{H'}{P},Go Z H [] Z' H' P->Rep R Z' H' d v P->Q v H'
def fnP(n:Nat)(f:FS)(ds:List D):Option D:=(f<|ds.map some++List.replicate (n-ds.length) none).bind Out.val
theorem J4:∀ n:Nat,Slots R Z H (List.replicate n none) (List.replicate n none) []
 | 0=>⟨rfl,rfl⟩
 | n+1=>⟨none,_,rfl,J4 n⟩
theorem JT:∀{ds}{vs}{O}{ρ}{σ}{P},Reps R Z H ds vs O->Slots R Z H ρ σ P->Slots R Z H (ds.map some++ρ) (vs.map some++σ) (O++P)
 | [],_,_,_,_,_,r,s=>by rw[Reps] at r;obtain⟨rfl,rfl⟩:=r;exact s
 | d::ds,_,_,_,_,_,r,s=>by
  obtain⟨v,a,b,c,rfl,rfl,r1,r2⟩:=r;exact⟨v,_,b,_,rfl,List.append_assoc ..,r1,JT r2 s⟩
def jhQ(b:DS R [] ts f)(h:spP R (fnP N.length f) n vs H Q E):ts {nx:=λ_ H'=>Q .non H',rt:=Q} (L2.start N vs) H:=by
 obtain⟨Z,a,d,z,l,r,e,k⟩:=h;have s:Slots R Z H (a.map some++List.replicate (N.length-a.length) none) (L2.start N vs) []:=by
  unfold L2.start;rw[r.length];exact(JT r<|J4<|N.length-a.length)
 refine ob e λo c e=>?_;cases o with
 | rt m i=>cases e;exact b (wf0 z) s c λg j _ _=>k g.dropR j
 | nx i=>cases e;exact b (wf0 z) s c λg _ _=>k g.to0 .non_mk
 | _=>cases e
def jhz(h:spP R m n vs H Q E):vs.length=n:=by
 obtain⟨Z,b,d,z,a,r,_⟩:=h;rw[r.length,a]
mutual
noncomputable def clean:D->Bool
 | .tup l=>jZ l
 | .lst o l=>o&&jZ l
 | .dK o _ l=>o&&jZ l
 | .dT o _ l=>o&&jZ l
 | .ins o _ _ l=>o&&jZ l
 | .non=>true | .bl _=>true | .int _=>true | .str _=>true | .dead=>true | .tok _=>true | .kt _=>false | .exc _ _=>false
noncomputable def jZ:List D->Bool
 | []=>true
 | d::l=>clean d&&jZ l
end
mutual
theorem Rep.thaw(ht:∀ a vs,Z a->Rd H a (.tup vs)->Z' a):∀{d:D}{v:V}{O:W5},Rep R Z H d v O->clean d=true->Rep R Z' H d v O
 | .non,_,_,h,_=>by rw[Rep] at h ⊢;exact h
 | .bl _,_,_,h,_=>by rw[Rep] at h ⊢;exact h
 | .int _,_,_,h,_=>by rw[Rep] at h ⊢;exact h
 | .str _,_,_,h,_=>by rw[Rep] at h ⊢;exact h
 | .dead,_,_,h,_=>by rw[Rep] at h ⊢;exact h
 | .tok _,_,_,h,_=>by rw[Rep] at h ⊢;exact h
 | .kt _,_,_,_,f=>by rw[clean] at f;cases f
 | .exc _ _,_,_,_,f=>by rw[clean] at f;cases f
 | .tup l,_,_,h,f=>by
  rw[Rep] at h ⊢;rw[clean] at f;obtain⟨a,vs,e,t,r⟩:=h;refine⟨a,vs,e,?_,Reps.thaw ht r f⟩;rcases t with⟨z,q⟩ | q
  ·exact .inl ⟨ht a vs z q,q⟩
  ·exact .inr q
 | .lst o l,_,_,h,f=>by
  rw[Rep] at h ⊢;rw[clean,M0] at f;obtain⟨a,vs,O',e,r,h⟩:=h;cases f.1;exact⟨a,vs,O',e,Reps.thaw ht r f.2,h⟩
 | .dK o ks l,_,_,h,f=>by
  rw[Rep] at h ⊢;rw[clean,M0] at f;obtain⟨a,vs,O',e,r,h⟩:=h;cases f.1;exact⟨a,vs,O',e,Reps.thaw ht r f.2,h⟩
 | .dT o ks l,_,_,h,f=>by
  rw[Rep] at h ⊢;rw[clean,M0] at f;obtain⟨a,vs,O',e,r,h⟩:=h;cases f.1;exact⟨a,vs,O',e,Reps.thaw ht r f.2,h⟩
 | .ins o c ns l,_,_,h,f=>by
  rw[Rep] at h ⊢;rw[clean,M0] at f;obtain⟨a,dx,vs,O',e,r,h⟩:=h;cases f.1;exact⟨a,dx,vs,O',e,Reps.thaw ht r f.2,h⟩
theorem Reps.thaw(ht:∀ a vs,Z a->Rd H a (.tup vs)->Z' a):∀{l:List D}{vs:List V}{O:W5},Reps R Z H l vs O->jZ l=true->Reps R Z' H l vs O
 | [],_,_,h,_=>by rw[Reps] at h ⊢;exact h
 | d::l,_,_,h,f=>by
  rw[Reps] at h ⊢;rw[jZ,M0] at f;obtain⟨v,vs,O1,O2,e,rfl,r1,r2⟩:=h;exact⟨v,vs,O1,O2,e,rfl,Rep.thaw ht r1 f.1,Reps.thaw ht r2 f.2⟩
end
mutual
theorem Rep.notTup:∀{d:D}{v:V}{O:W5},Rep R Z H d v O->∀ a∈O,∀ vs,¬ Rd H a (.tup vs)
 | .non,_,_,h,a,ha=>by rw[Rep] at h;rw[h.2] at ha;cases ha
 | .bl _,_,_,h,a,ha=>by rw[Rep] at h;rw[h.2] at ha;cases ha
 | .int _,_,_,h,a,ha=>by rw[Rep] at h;rw[h.2] at ha;cases ha
 | .str _,_,_,h,a,ha=>by rw[Rep] at h;rw[h.2] at ha;cases ha
 | .dead,_,_,h,a,ha=>by rw[Rep] at h;rw[h] at ha;cases ha
 | .tok _,_,_,h,a,ha=>by rw[Rep] at h;rw[h.2] at ha;cases ha
 | .kt _,_,_,h,a,ha=>by rw[Rep] at h;obtain⟨_,_,_,_,h⟩:=h;rw[h] at ha;cases ha
 | .exc _ _,_,_,h,a,ha=>by rw[Rep] at h;obtain⟨_,_,_,_,_,_,_,h⟩:=h;rw[h] at ha;cases ha
 | .tup l,_,_,h,a,ha=>by
  rw[Rep] at h;obtain⟨b,vs,e,t,r⟩:=h;exact Reps.notTup r a ha
 | .lst o l,_,_,h,a,ha=>by
  rw[Rep] at h;obtain⟨b,vs,O',e,r,h⟩:=h;cases o with
  | true=>
   obtain⟨h1,rfl⟩:=h;rcases M4.mp ha with e | e
   ·subst e;rintro ws (q | ⟨_,q⟩)<;>rw[h1] at q<;>cases q
   ·exact Reps.notTup r a e
  | false=>rw[h.2.2] at ha;cases ha
 | .dK o ks l,_,_,h,a,ha=>by
  rw[Rep] at h;obtain⟨b,vs,O',e,r,hl,hd,h⟩:=h;cases o with
  | true=>
   have h:=(show _=_ from h);subst h;rcases M4.mp ha with e | e
   ·subst e;rintro ws (q | ⟨_,q⟩)<;>rw[hd] at q<;>cases q
   ·exact Reps.notTup r a e
  | false=>rw[h.2.2] at ha;cases ha
 | .dT o ks l,_,_,h,a,ha=>by
  rw[Rep] at h;obtain⟨b,vs,O',e,r,hl,hd,h⟩:=h;cases o with
  | true=>
   have h:=(show _=_ from h);subst h;rcases M4.mp ha with e | e
   ·subst e;rintro ws (q | ⟨_,q⟩)<;>rw[hd] at q<;>cases q
   ·exact Reps.notTup r a e
  | false=>rw[h.2.2] at ha;cases ha
 | .ins o c ns l,_,_,h,a,ha=>by
  rw[Rep] at h;obtain⟨b,dx,vs,O',e,r,hl,hd,h⟩:=h;cases o with
  | true=>
   have h:=(show _=_ from h);subst h;rcases M4.mp ha with e | e
   ·subst e;rintro ws (q | ⟨_,q⟩)<;>rw[hd] at q<;>cases q
   ·exact Reps.notTup r a e
  | false=>rw[h.2.2] at ha;cases ha
theorem Reps.notTup:∀{l:List D}{vs:List V}{O:W5},Reps R Z H l vs O->∀ a∈O,∀ vs,¬ Rd H a (.tup vs)
 | [],_,_,h,a,ha=>by rw[Reps] at h;rw[h.2] at ha;cases ha
 | d::l,_,_,h,a,ha=>by
  rw[Reps] at h;obtain⟨v,vs,O1,O2,e,rfl,r1,r2⟩:=h;rcases N2.mp ha with q | q
  ·exact Rep.notTup r1 a q
  ·exact Reps.notTup r2 a q
end
@[simp] def jj(m:List D->Option D)(p:PAf)(ρ:Rh):Option D:=(p ρ).bind λds=>(m<|fzs ds).bind λd=>bif frzs ds||clean d then some d else none
def vC(l):(fzs l).length=l.length:=by rw[vG,L1]
def jdH(e:Zd Z H)(r1:Reps R Z H ds vs P1)(f:ds.length=n)(e2:m (fzs ds)=some d)(b:(frzs ds||clean d)=true)
  (k:∀{v}{Z'}{H'}{P},Go Z H [] Z' H' P->Rep R Z' H' d v P->Q v H'):spP R m n (vs++[]) H Q E:=by
 refine⟨λa=>Z a\/a∈P1,fzs ds,d,λa h=>h.elim (e a)<|r1.dom a,by rw[vC];exact f,by rw[M9];exact r1.freeze (λa z=>.inl z) λa z=>.inr z,e2,λ{v Z' H' P} g2 r2=>?_⟩;rw[Bool.or_eq_true] at b;rcases b with b | b
 ·cases r1.nil b;exact k ⟨g2.wf,λa z=>g2.zz a<|.inl z,g2.fr,λa z=>(g2.zn a z).imp (λq=>q.resolve_right<|λq=>(nomatch q)) id,g2.sub,g2.dm⟩ r2
 ·refine k (Z':=λa=>Z' a/\(a∉P1\/Z a)) ⟨⟨g2.wf.nd,λa h q=>g2.wf.nz a h q.1,g2.wf.od,λa q=>g2.wf.zd a q.1⟩,λa z=>⟨g2.zz a<|.inl z,.inr z⟩,g2.fr,λa z=>?_,g2.sub,g2.dm⟩<|r2.thaw (λa ws za g=>⟨za,?_⟩) b
  ·rcases g2.zn a z.1 with(q | q) | q
   ·lia
   ·lia
   ·lia
  ·by_cases c:a∈P1
   ·exact absurd (Rd.agree (g2.same a<|r1.dom a c).symm g)<|r1.notTup a c ws
   ·lia
def jiD(f:PBs R ta p)(g:∀ ρ ds,p ρ=some ds->ds.length=n):PP R (zY (spP R m n) [] E0 ta) (jj m p):=by
 intro σ ρ Z H O d z s e Q k;refine ob e λds a e=>ob e λc e2 e=>oc e λh e=>?_;cases e;exact f z s a λb r1=>jdH b.wf.zd r1 (g ρ ds a) e2 h λg2 r2=>k ⇑(b.pair g2) r2
@[simp] def sFz(i:Nat)(f:FS)(ρ:Rh):Option Out:=match pV i ρ with | some d=>f (ρ.set i<|some<|fz d) | none=>f ρ
def jnC(h:DS R pm t f):DS R pm t (sFz i f):=by
 intro σ ρ Z H O o w s e l k;unfold sFz at e;split at e
 ·rename_i d hd;have hd:=qu hd;obtain⟨A,P,B,rfl,b,c,_⟩:=s.put (L9.mp hd).1;obtain⟨v,j,r⟩:=b d hd;have g:=(Go.freeze w.mid).frame w;have s2:=c (r.freeze (Z':=λa=>Z a\/a∈P) (λa z=>.inl z) λa z=>.inr z) (λa z=>.inl z) (λ_ _=>rfl) (λ_ _=>rfl)<|λ_ _=>rfl;rw[yF j] at s2;exact h g.wf s2 e<|k.pre g<|Keep.refl _ _
 ·exact h w s e k
def vw{l m:W5}(h:∀ c,l.count c<=m.count c)(n:m.Nodup):l.Nodup:=List.nodup_iff_count.mpr λc=>N7 (h c)<|List.nodup_iff_count.mp n c
def qe{l m:W5}(h:∀ c,l.count c<=m.count c):∀ c∈l,c∈m:=λc a=>List.count_pos_iff.mp<|U4 (List.count_pos_iff.mpr a)<|h c
def Go.at(g:Go Z H O Z' H' P)(b:a∉O)(h:H a=some o):H' a=some o:=(g.fr a ∅ b).trans h
def Go.at0(g:Go Z H [] Z' H' P)(h:H a=some o):H' a=some o:=g.at (λz=>nomatch z) h
noncomputable abbrev Ln:=D->Option (D×(D->D))
inductive LnR (R:RC) (Z:Zn) (H:Hp) (ρ:Rh) (σ:L2.St) (O:W5) (tb:TE) (i:Nat) (x:D) (k:D->D):Prop
 | mk:∀(v:V) (A P B:W5),O=A++P++B->Rep R Z H x v P->(∀{Q:VK},Q v H->tb σ H Q) ->
  (∀{Z':Zn}{H':Hp}{x':D}{P':W5},Rep R Z' H' x' v P'->(∀ a,Z a->Z' a)->(∀ a,Z a->H' a=H a)->(∀ a∈A,H' a=H a)->(∀ a∈B,H' a=H a)->Slots R Z' H' (ρ.set i<|some<|k x') σ (A++P'++B))->LnR R Z H ρ σ O tb i x k
def K2(R:RC)(tb:TE)(i:Nat)(L:Ln):Prop:=∀{σ}{ρ}{Z}{H}{O}{d x}{k},Slots R Z H ρ σ O->ρ[i]?=some (some d)->L d=some (x,k)->LnR R Z H ρ σ O tb i x k
noncomputable def jU:Ln:=λd=>some (d,λx=>x)
def qX:K2 R (yg i) i jU:=by
 intro σ ρ Z H O d x k s h e;cases e;obtain⟨A,P,B,rfl,b,c,_⟩:=s.put (L9.mp h).1;obtain⟨v,a,r⟩:=b _ h;refine⟨v,A,P,B,rfl,r,λq=>⟨v,a,q⟩,λf g j l m=>?_⟩;have q:=c f g j l m;rw[yF a] at q;exact q
inductive OwR (R:RC) (Z:Zn) (H:Hp) (l:List D) (sh:Addr->List V->HO) (sd:Prop) (v:V) (O:W5):Prop
 | mk:∀(a dx:Addr) (vs:List V) (O':W5),v=.ref a->Reps R Z H l vs O'->sd->H a=some (sh dx vs)->O=a::O'->OwR R Z H l sh sd v O
def Own(R:RC)(T:D)(l:List D)(sh:Addr->List V->HO)(sd:Prop):Prop:=∀{Z}{H}{v}{O},Rep R Z H T v O↔OwR R Z H l sh sd v O
def ow_lst:Own R (.lst true l) l (λ_ vs=>.lst vs) True:=by
 intro Z H v O;exact⟨λh=>by obtain⟨a,vs,b,e,c,d,f⟩:=h;exact⟨a,0,vs,b,e,c,trivial,d,f⟩,λh=>by obtain⟨a,_,vs,b,e,c,_,d,f⟩:=h;exact⟨a,vs,b,e,c,d,f⟩⟩
def jeI:Own R (.dK true ks l) l (λ_ vs=>.dK<|(ks.map kaV).zip vs) (ks.length=l.length):=by
 intro Z H v O;exact⟨λh=>by obtain⟨a,vs,b,e,c,h,d,f⟩:=h;exact⟨a,0,vs,b,e,c,h,d,f⟩,λh=>by obtain⟨a,_,vs,b,e,c,h,d,f⟩:=h;exact⟨a,vs,b,e,c,h,d,f⟩⟩
def je4:Own R (.dT true ks l) l (λ_ vs=>.dT<|(ks.map<|List.map kaV).zip vs) (ks.length=l.length):=by
 intro Z H v O;exact⟨λh=>by obtain⟨a,vs,b,e,c,h,d,f⟩:=h;exact⟨a,0,vs,b,e,c,h,d,f⟩,λh=>by obtain⟨a,_,vs,b,e,c,h,d,f⟩:=h;exact⟨a,vs,b,e,c,h,d,f⟩⟩
def ow_ins:Own R (.ins true c ns l) l (λdx vs=>.ins (R.cls c) dx<|ns.zip vs) (ns.length=l.length):=by
 intro Z H v O;exact⟨λh=>by obtain⟨a,dx,vs,b,e,d,h,f,g⟩:=h;exact⟨a,dx,vs,b,e,d,h,f,g⟩,λh=>by obtain⟨a,dx,vs,b,e,d,h,f,g⟩:=h;exact⟨a,dx,vs,b,e,d,h,f,g⟩⟩
def kW{R}{Z}{H}{C:Prop}{σ}{ρ}{O P0}{i}{tb}{L}{t y}{o}{l}{p}{u}(F:K2 R tb i L)(w:WF Z H<|P0++O)(s:Slots R Z H ρ σ O)(hi:pV i ρ=some t)(e:L t=some (y,o))(G:Own R y l p u)
  (k:∀ a dx vs O',Reps R Z H l vs O'->u->H a=some (p dx vs)->(∀{Q},Q (.ref a) H->tb σ H Q)->(∀{O2 P1}{Z2}{H2}{x'}{l'}{vs'}{sh':Addr->List V->HO}{sd'},Own R x' l' sh' sd'->sd'->Go Z H [] Z2 H2 P1->Reps R Z2 H2 l' vs' O2->(∀ q,O2.count q<=O'.count q+P0.count q+P1.count q) ->
   ∃ O3,Go Z H (P0++O) Z2 (upd H2 a<|sh' dx vs') O3/\Slots R Z2 (upd H2 a<|sh' dx vs') (ρ.set i<|some<|o x') σ O3)->C):C:=by
 obtain⟨v,A,P,B,rfl,r,I,J⟩:=F s (qu hi) e;obtain⟨a,dx,vs,O',rfl,K,hd,M,rfl⟩:=G.mp r;refine k a dx vs O' K hd M I λ{O2 P1 Z2 H2 x' l' vs' sh' sd'} j n g N cnt=>?_;have h:=g.widen w;have nd:=h.wf.nd;have ct:=List.nodup_iff_count.mp nd a;simp only[U8,List.count_cons,if_true] at ct;have pos:∀{m:W5},a∈m->0<m.count a:=List.count_pos_iff.mpr;generalize S:sh' dx vs'=ob;have d:∀ b,Z2 b->upd H2 a ob b=H2 b:=λb c=>jd λz=>h.wf.nz a (by simp)<|z▸c;have f:∀ m:List Addr,(∀ b∈m,b∈A++(a::O')++B)->m.count a=0->∀ b∈m,upd H2 a ob b=H b:=λm T U b c=>(jd λz=>by subst z;have:=pos c;lia).trans (g.same b<|w.od b<|U3 _<|T b c);have sl:=J (j.mpr ⟨a,dx,vs',O2,rfl,N.frame (λ_ z=>z) d λb c=>jd λz=>by subst z;have:=pos c;have:=cnt b;lia,n,by rw[S];exact jk,rfl⟩) g.zz (λx D=>(d x<|g.zz x D).trans (g.same x<|w.zd x D)) (f A (λb c=>by simp[c]) ∅)<|f B (λb c=>by simp[c]) ∅;have E:∀ q,(A++(a::O2)++B).count q<=(P1++(P0++(A++(a::O')++B))).count q:=λq=>by
  have:=cnt q;simp only[U8,List.count_cons];lia
 exact⟨_,(h.trans<|Go.put h.wf<|by simp).drop (qe E) (vw E nd),sl⟩
@[simp] def vZ(i:Nat)(L:Ln)(pv:PF)(ρ:Rh):Option Out:=(pv ρ).bind λd=>(pV i ρ).bind λt=>(L t).bind λy=>(Ym y.1).bind λl=>bif lim l.length then some (.nx<|ρ.set i<|some<|y.2<|.lst true<|l++[d]) else none
def jdv{R}{pm}{i}{tb te}{L}{p}(j:K2 R tb i L)(h:PP R te p):DS R pm (v8<|tBM R.K "list" v5 tb<|jC te JO) (vZ i L p):=by
 intro σ ρ Z H O o w s e x k;refine ob e λd m e=>ob e λt hi e=>ob e λ⟨y,z⟩ e3 e=>ob e λl n e=>oc e λb e=>?_;cases e;cases vv n;refine kW (P0:=[]) j w s hi e3 ow_lst λa _ vs A f _ g r put=>r ⟨.inl ⟨rfl,vs,SqL.of g⟩,h w.zd s m λ{u B C D} c r1=>?_⟩;obtain⟨E,g3,v⟩:=put ow_lst trivial c ((c.reps w.zd f).append (.one r1)) λq=>by simp
 exact⟨a,vs,u,rfl,rfl,c.at0 g,by rw[f.length];exact VA b,k g3 v<|Keep.refl _ _⟩
@[simp] def zg(i:Nat)(pa:PF)(ρ:Rh):Option Out:=(pa ρ).bind λd=>(pV i ρ).bind λx=>(Ym x).bind λl=>bif lim l.length then some (.nx<|ρ.set i<|some<|.lst true<|l++[d]) else none
def jkB(h:PP R te p):DS R pm (v8<|tBM R.K "list" v5 (yg i)<|jC te JO) (zg i p):=jdv qX h
def Yg(h:OpR X f r)(h':OpR X f r'):OpR X f (λx y H Q=>r x y H Q\/r' x y H Q):=by
 intro a s σ H x y v u Q I b c q;rcases q with q | q
 ·exact h a s σ H x y v u Q I b c q
 ·exact h' a s σ H x y v u Q I b c q
def Rep.lst_of(r:Rep R Z H (.lst o l) v O):Ex3 λa vs O'=>An3 (v=.ref a) (SqX R.K H a vs) (Reps R Z H l vs O'):=by
 obtain⟨a,vs,O',rfl,b,h⟩:=r;cases o with
 | true=>exact⟨a,vs,O',rfl,SqX.of h.1,b⟩
 | false=>exact⟨a,vs,O',rfl,FL.sqx h.1,b⟩
def Rep.tup_of(r:Rep R Z H (.tup l) v O):Ex2 λa vs=>An3 (v=.ref a) (SqT R.K H a vs) (Reps R Z H l vs O):=by
 obtain⟨a,vs,rfl,h,b⟩:=r;exact⟨a,vs,rfl,h.sq,b⟩
def Reps.frozen(r:Reps R Z H l vs O)(f:frzs l=true):Reps R Z H l vs []:=by
 cases r.nil f;exact r
noncomputable def jm2(i:Int):Bool:=decide<|Builtin.Int.intBits i<=2 ^ 20
def jdp(h:i.natAbs<2 ^ 1000):jm2 i=true:=X1<|jaJ h (by decide)
def jg(x y:D):Option D:=match x with
 | .int i=>(match y with
  | .int j=>some<|.int<|i+j
  | _=>none)
 | .str a=>(match y with
  | .str b=>bif lim (a.length+b.length) then some (.str<|a++b) else none
  | _=>none)
 | .lst _ a=>(match y with
  | .lst _ b=>bif lim (a.length+b.length)&&(frzs a&&frzs b) then some (.lst true<|a++b) else none
  | _=>none)
 | .tup a=>(match y with
  | .tup b=>bif lim (a.length+b.length)&&(frzs a&&frzs b)&&!a.isEmpty then some (.tup<|a++b) else none
  | _=>none)
 | _=>none
def jnJ:R2:=λx y H Q=>∃ a b,x=.str (S a)/\y=.str (S b)/\a.length+b.length<=sizeLine/\Q (.str<|S<|a++b) H
def jat(K:W4):R2:=λx y H Q=>rI0 (λi j=>.int<|i+j) x y H Q\/jnJ x y H Q\/jll K x y H Q\/jkN K x y H Q
def jcZ:OpR X (binaryOp .Add) (jat X.K):=Yg jli<|Yg jhm<|Yg jg8 jif
def jlf:BO R (jat R.K) jg:=by
 intro Z H x y d v u D E z g l e Q k;cases x with
 | int i=>
  cases y with
  | int j=>
   cases e;obtain⟨rfl,_⟩:=g.int_of;obtain⟨rfl,_⟩:=l.int_of;exact .inl ⟨i,j,rfl,rfl,k (Go.id z) .int_mk⟩
  | _=>cases e
 | str a=>
  cases y with
  | str b=>
   refine oc e λc e=>?_;cases e;obtain⟨rfl,_⟩:=g.str_of;obtain⟨rfl,_⟩:=l.str_of;exact .inr<|.inl ⟨a,b,rfl,rfl,qk c,k (Go.id z) .str_mk⟩
  | _=>cases e
 | lst o a=>
  cases y with
  | lst F b=>
   refine oc e λc e=>?_;cases e;simp only[M0] at c;obtain⟨p,vs,G,rfl,m,f⟩:=g.lst_of;obtain⟨q,ws,t,rfl,n,rt⟩:=l.lst_of;have w:=(f.frozen c.2.1).append (rt.frozen c.2.2);exact .inr<|.inr<|.inl ⟨p,q,vs,ws,rfl,rfl,m,n,by rw[f.length,rt.length];exact qk c.1,λb h=>k (Go.newO (wf0 z) h)<|Rep.lstNew (wf0 z) h w⟩
  | _=>cases e
 | tup a=>
  cases y with
  | tup b=>
   refine oc e λc e=>?_;cases e;simp only[M0] at c;obtain⟨p,vs,rfl,m,f⟩:=g.tup_of;obtain⟨q,ws,rfl,n,rt⟩:=l.tup_of;have r:vs≠[]:=by
    intro A;have:=f.length;rw[A] at this;have s:=List.eq_nil_of_length_eq_zero this.symm;rw[s] at c;simp at c
   refine .inr<|.inr<|.inr ⟨p,q,vs,ws,rfl,rfl,m,n,r,by rw[f.length,rt.length];exact qk c.1.1,(λs=>?_),λ_ b h=>k (Go.newF (wf0 z) h)<|Rep.tupNew (wf0 z) h<|(f.frozen c.1.2.1).append (rt.frozen c.1.2.2)⟩;have B:=List.eq_nil_of_length_eq_zero (by rw[<- rt.length,s];rfl);subst B;rw[M9] at k;have C:=f.nil c.1.2.1;subst C;exact k (Go.id z) g
  | _=>cases e
 | _=>cases e
def two(f:Int->Int->Option D)(x y:D):Option D:=(vp x).bind λi=>(vp y).bind λj=>f i j
def two_of(e:two f x y=some d):Ex2 λi j=>An3 (x=.int i) (y=.int j) (f i j=some d):=ob e λi a e=>ob e λj e2 e=>⟨i,j,jB a,jB e2,e⟩
def Vw:D->D->Option D:=two λi j=>some<|.int<|i-j
def jlO:BO R (rI0 λi j=>.int<|i-j) Vw:=by
 intro Z H x y d v u c f z a b e Q k;replace e:=two_of e;obtain⟨i,j,rfl,rfl,e⟩:=e;cases e;obtain⟨rfl,_⟩:=a.int_of;obtain⟨rfl,_⟩:=b.int_of;exact⟨i,j,rfl,rfl,k (Go.id z) .int_mk⟩
def yj(x y:D):Option D:=match y with
 | .int n=>(match x with
  | .int i=>bif jm2 i&&jm2 n then some (.int<|i*n) else none
  | .str a=>bif decide (a.length<=1000)&&(decide (0<=n)&&decide (n<=1000)) then some (.str (List.replicate n.toNat a).flatten) else none
  | _=>none)
 | _=>none
def jhl:R2:=λx y H Q=>rI (λi j=>Builtin.Int.intBits i<=2 ^ 20/\Builtin.Int.intBits j<=2 ^ 20) (λi j=>.int<|i*j) x y H Q \/
 ∃ a n,x=.str (S a)/\y=.int n/\a.length<=1000/\0<=n/\n<=1000/\Q (.str<|S (List.replicate n.toNat a).flatten) H
def jiQ:OpR X (binaryOp .Mult) jhl:=Yg jiS ji8
def jmJ:BO R jhl yj:=by
 intro Z H x y d v u g h z c f e Q k;cases y with
 | int n=>
  cases x with
  | int i=>
   refine oc e λb e=>?_;cases e;rw[M0] at b;obtain⟨rfl,_⟩:=c.int_of;obtain⟨rfl,_⟩:=f.int_of;exact .inl ⟨i,n,rfl,rfl,⟨X3 b.1,X3 b.2⟩,k (Go.id z) .int_mk⟩
  | str a=>
   refine oc e λb e=>?_;cases e;simp only[M0,decide_eq_true_eq] at b;obtain⟨rfl,_⟩:=c.str_of;obtain⟨rfl,_⟩:=f.int_of;exact .inr ⟨a,n,rfl,rfl,b.1,b.2.1,b.2.2,k (Go.id z) .str_mk⟩
  | _=>cases e
 | _=>cases e
noncomputable def jaP(j:Int):Bool:=decide (0<j)&&decide (j<2 ^ 300)
def jdc(h:jaP j=true):0<j/\j.natAbs.log2<9000:=by
 unfold jaP at h;simp only[M0,decide_eq_true_eq] at h;refine⟨h.1,?_⟩;have a:j.natAbs<2 ^ 300:=by lia
 have b:j.natAbs≠0:=by lia
 have:=(Nat.log2_lt b).mpr a
 lia
def jfg:OpR X (binaryOp .FloorDiv) (rI (λ_ j=>jaP j=true) λi j=>.int<|i/j):=opI λi j t u s Q E a q=>by
 obtain⟨b,c⟩:=jdc a;rw[(Int.fdiv_eq_ediv_of_nonneg i<|Int.le_of_lt b).symm] at q;exact PyProof.Rows.floordiv_int ∅ q (.inl<|PyProof.noPylong_of_log2 c)
def Vc:D->D->Option D:=two λi j=>bif jaP j then some (.int<|i/j) else none
def JM:D->D->Option D:=two λi j=>bif decide (0<j) then some (.int<|i%j) else none
def Vs:D->D->Option D:=two λi j=>bif decide (0<=j)&&decide (j<=100)&&decide (i.natAbs<2 ^ 64) then some (.int<|i ^ j.toNat) else none
def jlX:BO R (rI (λ_ j=>jaP j=true) λi j=>.int<|i/j) Vc:=by
 intro Z H x y d v u f g z a b e Q k;replace e:=two_of e;obtain⟨i,j,rfl,rfl,e⟩:=e;refine oc e λc e=>?_;cases e;obtain⟨rfl,_⟩:=a.int_of;obtain⟨rfl,_⟩:=b.int_of;exact⟨i,j,rfl,rfl,c,k (Go.id z) .int_mk⟩
def jkz:BO R (rI (λ_ j=>0<j) λi j=>.int<|i%j) JM:=by
 intro Z H x y d v u f g z b c e Q k;replace e:=two_of e;obtain⟨i,j,rfl,rfl,e⟩:=e;by_cases a:0<j
 ·rw[X1 a] at e;cases e;obtain⟨rfl,_⟩:=b.int_of;obtain⟨rfl,_⟩:=c.int_of;exact⟨i,j,rfl,rfl,a,k (Go.id z) .int_mk⟩
 ·lia
def jmd:BO R (rI jow λi j=>.int<|i ^ j.toNat) Vs:=by
 intro Z H x y d v u f g z b c e Q k;replace e:=two_of e;obtain⟨i,j,rfl,rfl,e⟩:=e;refine oc e λa e=>?_;cases e;simp only[M0,decide_eq_true_eq] at a;obtain⟨rfl,_⟩:=b.int_of;obtain⟨rfl,_⟩:=c.int_of;exact⟨i,j,rfl,rfl,⟨a.1.1,by lia,a.2⟩,k (Go.id z) .int_mk⟩
noncomputable def xx:D->Option D
 | .int i=>some<|.int<|-i
 | _=>none
def jmg:BU R (rU λi=>.int<|-i) xx:=by
 intro Z H x d v O z a e Q k;cases x with
 | int i=>
  cases e;obtain⟨rfl,_⟩:=a.int_of;exact⟨i,rfl,k (Go.id z) .int_mk⟩
 | _=>cases e
def opB(g:Int->Int->Bool):D->D->Option D:=two λi j=>some<|.bl<|g i j
def jnx:BO R (rI0 λi j=>.bl<|g i j) (opB g):=by
 intro Z H x y d v u c f z a b e Q k;replace e:=two_of e;obtain⟨i,j,rfl,rfl,e⟩:=e;cases e;obtain⟨rfl,_⟩:=a.int_of;obtain⟨rfl,_⟩:=b.int_of;exact⟨i,j,rfl,rfl,k (Go.id z) .bl_mk⟩
abbrev jjK:D->D->Option D:=opB λi j=>decide<|i<j
abbrev Yo:D->D->Option D:=opB λi j=>decide<|j<i
abbrev jng:D->D->Option D:=opB λi j=>decide<|j<=i
noncomputable def qA:D->Bool
 | .non=>true | .bl _=>true | .int _=>true | .str _=>true
 | _=>false
noncomputable def eqF:D->D->Bool
 | .non,y=>match y with | .non=>true | _=>false
 | .bl a,y=>match y with | .bl b=>a==b | _=>false
 | .int a,y=>match y with | .int b=>a==b | _=>false
 | .str a,y=>match y with | .str b=>a==b | _=>false
 | _,_=>false
noncomputable def KM:D->D->Bool
 | .bl _,.int _=>false
 | .int _,.bl _=>false
 | _,_=>true
def jce(d:Rep R Z H x v O1)(c:Rep R Z H y u O2)(h:(qA x&&qA y&&KM x y)=true):jn8 v u=true/\decide (v=u)=eqF x y:=by
 cases x with
 | non=>
  obtain⟨rfl,_⟩:=d.non_of;cases y with
  | non=>obtain⟨rfl,_⟩:=c.non_of;exact⟨rfl,rfl⟩
  | bl b=>obtain⟨rfl,_⟩:=c.bl_of;exact⟨rfl,rfl⟩
  | int b=>obtain⟨rfl,_⟩:=c.int_of;exact⟨rfl,rfl⟩
  | str b=>obtain⟨rfl,_⟩:=c.str_of;exact⟨rfl,rfl⟩
  | _=>cases h
 | bl a=>
  obtain⟨rfl,_⟩:=d.bl_of;cases y with
  | non=>obtain⟨rfl,_⟩:=c.non_of;exact⟨rfl,rfl⟩
  | bl b=>obtain⟨rfl,_⟩:=c.bl_of;exact⟨rfl,by rw[jdj];rfl⟩
  | str b=>obtain⟨rfl,_⟩:=c.str_of;exact⟨rfl,rfl⟩
  | _=>cases h
 | int a=>
  obtain⟨rfl,_⟩:=d.int_of;cases y with
  | non=>obtain⟨rfl,_⟩:=c.non_of;exact⟨rfl,rfl⟩
  | int b=>obtain⟨rfl,_⟩:=c.int_of;exact⟨rfl,by rw[zx];rfl⟩
  | str b=>obtain⟨rfl,_⟩:=c.str_of;exact⟨rfl,rfl⟩
  | _=>cases h
 | str a=>
  obtain⟨rfl,_⟩:=d.str_of;cases y with
  | non=>obtain⟨rfl,_⟩:=c.non_of;exact⟨rfl,rfl⟩
  | bl b=>obtain⟨rfl,_⟩:=c.bl_of;exact⟨rfl,rfl⟩
  | int b=>obtain⟨rfl,_⟩:=c.int_of;exact⟨rfl,rfl⟩
  | str b=>
   obtain⟨rfl,_⟩:=c.str_of;refine⟨rfl,?_⟩;rw[Bool.eq_iff_iff];simp[eqF,jnR]
  | _=>cases h
 | _=>cases h
def inL(x:D)(l:List D):Bool:=l.any λy=>eqF y x
def ji3(x:D)(l:List D):Bool:=qA x&&l.all λy=>qA y&&KM y x
def jaQ(neg:Bool)(x y:D):Option D:=match y with
 | .str s=>(match x with
  | .str [c]=>some<|.bl<|neg != decide (c∈s)
  | _=>none)
 | .lst _ l=>bif ji3 x l then some (.bl<|neg != inL x l) else none
 | .tup l=>bif ji3 x l then some (.bl<|neg != inL x l) else none
 | _=>none
def Reps.flat(c:Rep R Z H x v P)(d:qA x=true):∀{l}{vs}{O},Reps R Z H l vs O->(l.all λy=>qA y&&KM y x)=true->Y6 v=true/\vs.all Y6=true/\inV v vs=inL x l:=by
 intro l
 induction l with
 | nil=>
  intro _ _ h _;obtain⟨rfl,_⟩:=h;refine⟨?_,rfl,rfl⟩;cases x with
  | non=>obtain⟨rfl,_⟩:=c.non_of;rfl
  | bl b=>obtain⟨rfl,_⟩:=c.bl_of;rfl
  | int b=>obtain⟨rfl,_⟩:=c.int_of;rfl
  | str b=>obtain⟨rfl,_⟩:=c.str_of;rfl
  | _=>cases d
 | cons y l e=>
  intro _ _ h f;obtain⟨u,vs,k,m,rfl,rfl,r1,r2⟩:=h;rw[List.all_cons,M0] at f;obtain⟨g,i,j⟩:=e r2 f.2;have key:Y6 u=true/\eqV u v=eqF y x:=by
   cases y with
   | non=>
    obtain⟨rfl,_⟩:=r1.non_of;cases x with
    | non=>obtain⟨rfl,_⟩:=c.non_of;exact⟨rfl,rfl⟩
    | bl b=>obtain⟨rfl,_⟩:=c.bl_of;exact⟨rfl,rfl⟩
    | int b=>obtain⟨rfl,_⟩:=c.int_of;exact⟨rfl,rfl⟩
    | str b=>obtain⟨rfl,_⟩:=c.str_of;exact⟨rfl,rfl⟩
    | _=>cases d
   | bl a=>
    obtain⟨rfl,_⟩:=r1.bl_of;cases x with
    | non=>obtain⟨rfl,_⟩:=c.non_of;exact⟨rfl,rfl⟩
    | bl b=>obtain⟨rfl,_⟩:=c.bl_of;exact⟨rfl,rfl⟩
    | str b=>obtain⟨rfl,_⟩:=c.str_of;exact⟨rfl,rfl⟩
    | int b=>exact absurd f.1 (by simp[KM])
    | _=>cases d
   | int a=>
    obtain⟨rfl,_⟩:=r1.int_of;cases x with
    | non=>obtain⟨rfl,_⟩:=c.non_of;exact⟨rfl,rfl⟩
    | int b=>obtain⟨rfl,_⟩:=c.int_of;exact⟨rfl,rfl⟩
    | str b=>obtain⟨rfl,_⟩:=c.str_of;exact⟨rfl,rfl⟩
    | bl b=>exact absurd f.1 (by simp[KM])
    | _=>cases d
   | str a=>
    obtain⟨rfl,_⟩:=r1.str_of;cases x with
    | non=>obtain⟨rfl,_⟩:=c.non_of;exact⟨rfl,rfl⟩
    | bl b=>obtain⟨rfl,_⟩:=c.bl_of;exact⟨rfl,rfl⟩
    | int b=>obtain⟨rfl,_⟩:=c.int_of;exact⟨rfl,rfl⟩
    | str b=>
     obtain⟨rfl,_⟩:=c.str_of;refine⟨rfl,?_⟩;rw[Bool.eq_iff_iff];simp[eqF,eqV,jnR]
    | _=>cases d
   | _=>exact absurd f.1 (by simp[qA])
  refine⟨g,by rw[List.all_cons,key.1,i];rfl,?_⟩;show(eqV u v||inV v vs)=(eqF y x||inL x l);rw[key.2,j]
def jpJ(neg:Bool):R2:=λx y H Q=>∃ c l,x=.str (S [c])/\y=.str (S l)/\Q (.bl<|if neg then !decide (c∈l) else decide (c∈l)) H
def jjI(K:W4)(neg:Bool):R2:=λx y H Q=>jpJ neg x y H Q\/rIn K neg x y H Q
def jkG:OpR X (compareOp .In) (jjI X.K false):=Yg jkf jcz
def ja9:OpR X (compareOp .NotIn) (jjI X.K true):=Yg jdd Q4
def xt(a b):(if a=true then !b else b)=(a != b):=by cases a<;>cases b<;>rfl
def jmM:BO R (jjI R.K neg) (jaQ neg):=by
 intro Z H x y d v u q r z b g e Q k;cases y with
 | str s=>
  cases x with
  | str t=>
   match t,e,b with
   | [c],e,b=>
    cases e;obtain⟨rfl,_⟩:=b.str_of;obtain⟨rfl,_⟩:=g.str_of;refine .inl ⟨c,s,rfl,rfl,?_⟩;rw[xt];exact k (Go.id z) .bl_mk
   | [],e,b=>cases e
   | _::_::_,e,b=>cases e
  | _=>cases e
 | lst o l=>
  have f:=e;refine oc f λa f=>?_;cases f;unfold ji3 at a;rw[M0] at a;obtain⟨p,vs,w,rfl,h,i⟩:=g.lst_of;obtain⟨j,m,n⟩:=i.flat b a.1 a.2;refine .inr ⟨p,vs,rfl,.inl h.sq,j,m,?_⟩;rw[n,xt];exact k (Go.id z) .bl_mk
 | tup l=>
  have f:=e;refine oc f λa f=>?_;cases f;unfold ji3 at a;rw[M0] at a;obtain⟨p,vs,rfl,h,i⟩:=g.tup_of;obtain⟨j,m,n⟩:=i.flat b a.1 a.2;refine .inr ⟨p,vs,rfl,.inr h,j,m,?_⟩;rw[n,xt];exact k (Go.id z) .bl_mk
 | _=>cases e
def jf(x y:D):Option D:=match y with
 | .int i=>(match x with
  | .lst _ l=>atI l i
  | .tup l=>atI l i
  | .str s=>bif lim s.length then(atI s i).bind λc=>some (.str [c]) else none
  | _=>none)
 | _=>none
def Reps.atI(r:Reps R Z H l vs O)(e:L2.atI l i=some d):∃ v P,L2.atI vs i=some v/\Rep R Z H d v P:=by
 unfold L2.atI at e ⊢;rw[r.length];cases h:ixN l.length i with
 | none=>rw[h] at e;cases e
 | some j=>
  rw[h] at e;obtain⟨v,A,P,B,a,_,r1,_⟩:=r.at<|e;exact⟨v,P,a,r1⟩
def jne:BO' R (rIx R.K) jf:=by
 intro Z H x y d v u n q z a j e Q k;cases y with
 | int i=>
  obtain⟨rfl,_⟩:=j.int_of;cases x with
  | lst o l=>
   obtain⟨p,vs,r,rfl,b,f⟩:=a.lst_of;obtain⟨w,P,g,r1⟩:=f.atI e;exact .inl ⟨p,vs,i,w,rfl,rfl,b.sq,g,k r1⟩
  | tup l=>
   obtain⟨p,vs,rfl,b,f⟩:=a.tup_of;obtain⟨w,P,g,r1⟩:=f.atI e;exact .inr<|.inl ⟨p,vs,i,w,rfl,rfl,b,g,k r1⟩
  | str s=>
   obtain⟨rfl,_⟩:=a.str_of;refine oc e λm e=>ob e λc h e=>?_;cases e;refine .inr<|.inr ⟨S s,i,c,rfl,rfl,by rw[Y1];exact qk m,by rw[qU];exact h,?_⟩;exact k .str_mk
  | _=>cases e
 | _=>cases e
abbrev OF:=Rh->Option (Option Int)
def PO'(R:RC)(t:TO)(p:OF):Prop:=∀{σ}{ρ}{Z}{H}{O}{i},Zd Z H->Slots R Z H ρ σ O->p ρ=some i ->
 ∀{Q:Option Int->Hp->Prop},(∀{Z'}{H'},Go Z H [] Z' H' []->Q i H')->t σ H Q
@[simp] def oN(ρ:Rh):Option (Option Int):=some none
@[simp] def oS(pa:PF)(ρ:Rh):Option (Option Int):=(pa ρ).bind λd=>(vp d).bind λi=>some<|some i
def jpj:PO' R YV oN:=by
 intro σ ρ Z H O i z s e Q k;cases e;exact k<|Go.id z
def jpK(h:PB R te p):PO' R (jbe te) (oS p):=by
 intro σ ρ Z H O i z s e Q k;refine ob e λx a e=>ob e λj e2 e=>?_;cases e;cases jB e2;refine h z s a λ{v c d f} b r1=>?_;obtain⟨rfl,_⟩:=r1.int_of;exact⟨j,rfl,k b⟩
def jdy(lo hi:Option Int):D->Option D
 | .str s=>bif lim s.length then some (.str<|j9 s lo hi) else none
 | .lst _ l=>bif frzs l then some (.lst true<|j9 l lo hi) else none
 | .tup l=>bif frzs l&&decide ((j9 l lo hi).length<l.length) then some (.tup<|j9 l lo hi) else none
 | _=>none
def jjJ(K:W4):V->Option Int->Option Int->Hp->VK->Prop:=λx lo hi H Q=>joW x lo hi H Q\/jpa K x lo hi H Q\/jo6 K x lo hi H Q
def jo4:SlR X (jjJ X.K):=SlR.or jl5<|SlR.or jhf jj3
@[simp] def pSl(pa:PF)(pl:OF)(ph:OF)(ρ:Rh):Option D:=(pa ρ).bind λx=>(pl ρ).bind λlo=>(ph ρ).bind λhi=>jdy lo hi x
def Reps.cut(r:Reps R Z H l vs [])(lo hi):Reps R Z H (j9 l lo hi) (jhd vs lo hi) []:=by
 unfold j9 jhd;rw[r.length];exact(r.drop _).take _
def jnb(r:PB R te pa)(u:PO' R tl pl)(w:PO' R th ph):PP R (tSl (jjJ R.K) te tl th) (pSl pa pl ph):=by
 intro σ ρ Z H O d z s e Q k;refine ob e λx y e=>ob e λlo e2 e=>ob e λhi e3 e=>(r z s y λ{v A B C} i r1=>(u i.wf.zd (i.slots z s) e2 λ{D E} g2=>?_));have f:=i.pair g2;refine w g2.wf.zd (f.slots z s) e3 λ{Z3 F} g3=>?_;have a:=f.pair g3;have m:=(g2.pair g3).rep i.wf.zd r1;cases x with
 | str t=>
  refine oc e λc e=>?_;cases e;obtain⟨rfl,_⟩:=m.str_of;exact .inl ⟨t,rfl,qk c,k a .str_mk⟩
 | lst o l=>
  refine oc e λc e=>?_;cases e;obtain⟨p,vs,G,rfl,n,j⟩:=m.lst_of;have g:=g3.wf.zd;exact .inr<|.inl ⟨p,vs,rfl,n.sq,λb h=>k ⇑(a.pair<|Go.newO (wf0 g) h) (Rep.lstNew (wf0 g) h<|(j.frozen c).cut lo hi)⟩
 | tup l=>
  refine oc e λc e=>?_;cases e;simp only[M0,decide_eq_true_eq] at c;obtain⟨p,vs,rfl,n,j⟩:=m.tup_of;have g:=g3.wf.zd;refine .inr<|.inr ⟨p,vs,rfl,n,?_,λb h=>k ⇑(a.pair<|Go.newF (wf0 g) h) (Rep.tupNew (wf0 g) h<|(j.frozen c.1).cut lo hi)⟩;rintro⟨w1,w2⟩;have q:=c.2;unfold j9 at q;rw[j.length] at w1 w2;rw[w1,w2,List.drop_zero,Nat.sub_zero,List.take_length] at q;exact absurd q<|Nat.lt_irrefl _
 | _=>cases e
def jpM:D->Option D
 | .lst _ l=>some<|.int l.length
 | .tup l=>some<|.int l.length
 | .str s=>bif lim s.length then some (.int s.length) else none
 | _=>none
def k8(l:List D):Option D:=(jdY l).bind jpM
def jlD:BC R (λxs H Q=>∃ x n,xs=[x]/\jos R.K x H n/\Q (.int n) H) k8:=by
 intro Z H xs d vs O z r e Q k;refine ob e λx c e=>?_;rw[kE c] at r;obtain⟨v,rfl,r1⟩:=r.one_of;cases x with
 | lst o l=>
  cases e;obtain⟨p,ws,g,rfl,a,b⟩:=r1.lst_of;exact⟨_,_,rfl,.inl ⟨ws,a.sq,rfl⟩,by rw[b.length];exact k (Go.id z) .int_mk⟩
 | tup l=>
  cases e;obtain⟨p,ws,rfl,a,b⟩:=r1.tup_of;exact⟨_,_,rfl,.inr ⟨ws,a,rfl⟩,by rw[b.length];exact k (Go.id z) .int_mk⟩
 | str s=>
  refine oc e λf e=>?_;cases e;obtain⟨rfl,_⟩:=r1.str_of;exact⟨_,_,rfl,⟨by rw[Y1];exact qk f,rfl⟩,by rw[Y1];exact k (Go.id z) .int_mk⟩
 | _=>cases e
noncomputable def Qq:List D->Option (List Int)
 | []=>some []
 | d::l=>match d with
  | .int i=>((Qq l).bind λr=>some<|i::r)
  | _=>none
def Reps.ints:∀{l}{vs}{O}{ns},Reps R Z H l vs O->Qq l=some ns->vs=ns.map V.int:=by
 intro l
 induction l with
 | nil=>intro vs O ns h e;rw[Reps] at h;cases e;exact h.1
 | cons d l a=>
  intro vs O ns h e;obtain⟨v,vs,c,f,rfl,rfl,r1,r2⟩:=h;cases d with
  | int i=>
   refine ob e λr b e=>?_;cases e;rw[a r2 b,r1.int_of.1];rfl
  | _=>cases e
noncomputable def Jw:List D->Option (List Bool)
 | []=>some []
 | d::l=>match d with
  | .bl i=>((Jw l).bind λr=>some<|i::r)
  | _=>none
def Reps.bools:∀{l}{vs}{O}{ns},Reps R Z H l vs O->Jw l=some ns->vs=ns.map V.bl:=by
 intro l
 induction l with
 | nil=>intro vs O ns h e;rw[Reps] at h;cases e;exact h.1
 | cons d l a=>
  intro vs O ns h e;obtain⟨v,vs,c,f,rfl,rfl,r1,r2⟩:=h;cases d with
  | bl i=>
   refine ob e λr b e=>?_;cases e;rw[a r2 b,r1.bl_of.1];rfl
  | _=>cases e
def jdJ(l:List D):Option D:=(jdY l).bind λx=>(jfD x).bind λl=>(Qq l).bind λns=>some<|.int ns.sum
def jjR:BC R (λxs H Q=>∃(p:Addr) (ns:List Int),xs=[.ref p]/\SqL R.K H p (ns.map V.int)/\Q (.int ns.sum) H) jdJ:=by
 intro Z H xs d vs O z r e Q k;refine ob e λx a e=>ob e λl b e=>ob e λns c e=>?_;cases e;obtain⟨o,rfl⟩:=Yb b;rw[kE a] at r;obtain⟨v,rfl,r1⟩:=r.one_of;obtain⟨p,ws,h,rfl,f,g⟩:=r1.lst_of;have:=g.ints c;subst this;exact⟨p,ns,rfl,f.sq,k (Go.id z) .int_mk⟩
def jmE:List D->Option D
 | [.lst _ l]=>(Jw l).bind λns=>some<|.bl<|ns.all λb=>b
 | _=>none
def jkd:BC R (λxs H Q=>∃(p:Addr) (bs:List Bool),xs=[.ref p]/\SqL R.K H p (bs.map V.bl)/\Q (.bl<|bs.all λb=>b) H) jmE:=by
 intro Z H xs d vs O z r e Q k
 match xs,e,r with
 | [.lst o l],e,r=>
  refine ob e λns a e=>?_;cases e;obtain⟨v,rfl,r1⟩:=r.one_of;obtain⟨p,ws,g,rfl,c,f⟩:=r1.lst_of;have:=f.bools a;subst this;exact⟨p,ns,rfl,c.sq,k (Go.id z) .bl_mk⟩
def f2I(g:Int->Int->Int)(l:List D):Option D:=(two1 l).bind λp=>two (λi j=>some<|.int<|g i j) p.1 p.2
def jlu:BC R (λxs H Q=>∃ i j,xs=[.int i,.int j]/\Q (.int<|g i j) H) (f2I g):=by
 intro Z H xs d vs O z r e Q k;refine ob e λp a e=>?_;obtain⟨i,j,e2,e3,e⟩:=two_of e;cases e;rw[two1_of a,e2,e3] at r;obtain⟨v,u,b,c,rfl,_,r1,r2⟩:=r.two_of;obtain⟨rfl,_⟩:=r1.int_of;obtain⟨rfl,_⟩:=r2.int_of;exact⟨i,j,rfl,k (Go.id z) .int_mk⟩
abbrev jkn:List D->Option D:=f2I λi j=>if j>i then j else i
abbrev jaa:List D->Option D:=f2I λi j=>if j<i then j else i
def jpB:D->Option D
 | .lst _ l=>bif frzs l then some (.lst true l) else none
 | .tup l=>bif frzs l then some (.lst true l) else none
 | _=>none
def vX(l:List D):Option D:=(jdY l).bind jpB
def Qa(l:List D):Option D:=(jdY l).bind λx=>(jfD x).bind λl=>bif frzs l then some (.tup l) else none
def jcK:BC R (λxs H Q=>∃ p ys,xs=[.ref p]/\(SqL R.K H p ys\/SqT R.K H p ys)/\∀ l,H l=none->Q (.ref l) (upd H l<|.lst ys)) vX:=by
 intro Z H xs d vs O z r e Q k;refine ob e λx h e=>?_;rw[kE h] at r;obtain⟨v,rfl,r1⟩:=r.one_of;cases x with
 | lst o l=>
  refine oc e λc e=>?_;cases e;obtain⟨p,ws,i,rfl,f,g⟩:=r1.lst_of;exact⟨p,ws,rfl,.inl f.sq,λb a=>k (Go.newO (wf0 z) a)<|Rep.lstNew (wf0 z) a<|g.frozen c⟩
 | tup l=>
  refine oc e λc e=>?_;cases e;obtain⟨p,ws,rfl,f,g⟩:=r1.tup_of;exact⟨p,ws,rfl,.inr f,λb a=>k (Go.newO (wf0 z) a)<|Rep.lstNew (wf0 z) a<|g.frozen c⟩
 | _=>cases e
def jfH:BC R (λxs H Q=>∃ p ys,xs=[.ref p]/\((SqL R.K H p ys/\∀ l,H l=none->Q (.ref l) (upd H l<|.tup ys))\/(SqT R.K H p ys/\Q (.ref p) H))) Qa:=by
 intro Z H xs d vs O z r e Q k;refine ob e λx c e=>ob e λl f e=>oc e λg e=>?_;cases e;obtain⟨o,rfl⟩:=Yb f;rw[kE c] at r;obtain⟨v,rfl,r1⟩:=r.one_of;obtain⟨p,ws,j,rfl,h,i⟩:=r1.lst_of;exact⟨p,ws,rfl,.inl ⟨h.sq,λb a=>k (Go.newF (wf0 z) a)<|Rep.tupNew (wf0 z) a<|i.frozen g⟩⟩
noncomputable def tyD:D->Option String
 | .non=>some "NoneType" | .bl _=>some "bool" | .int _=>some "int" | .str _=>some "str" | .tup _=>some "tuple" | .lst _ _=>some "list"
 | .dK true _ _=>some "dict"
 | _=>none
noncomputable def JN(t T:String):Bool:=t==T||(t=="bool"&&T=="int")
@[simp] def jdX(T:String)(pa:PF)(ρ:Rh):Option D:=(pa ρ).bind λd=>(tyD d).bind λt=>some<|.bl<|JN t T
def xA(K)  (a:t∈["NoneType","bool","int","str","tuple","list","dict"]) (b:T∈["bool","int","str","tuple","list","dict"]):PySem.W.kitOne K (.type t) (.type T)=some (JN t T):=by
 simp only[M4,List.not_mem_nil,or_false] at a b;rcases a with rfl | rfl | rfl | rfl | rfl | rfl | rfl<;>rcases b with rfl | rfl | rfl | rfl | rfl | rfl<;>rfl
def Rep.ty(r:Rep R Z H x v O)(e:tyD x=some t):TyQ R.K H v t/\t∈["NoneType","bool","int","str","tuple","list","dict"]:=by
 cases x with
 | non=>cases e;obtain⟨rfl,_⟩:=r.non_of;exact⟨.non,by simp⟩
 | bl b=>cases e;obtain⟨rfl,_⟩:=r.bl_of;exact⟨.bl _,by simp⟩
 | int i=>cases e;obtain⟨rfl,_⟩:=r.int_of;exact⟨.int _,by simp⟩
 | str s=>cases e;obtain⟨rfl,_⟩:=r.str_of;exact⟨.str _,by simp⟩
 | tup l=>cases e;obtain⟨p,ws,rfl,c,d⟩:=r.tup_of;exact⟨.tup c,by simp⟩
 | lst o l=>cases e;obtain⟨p,ws,f,rfl,c,d⟩:=r.lst_of;exact⟨.lst c.sq,by simp⟩
 | dK o g l=>cases o with
  | false=>cases e
  | true=>cases e;rw[Rep] at r;obtain⟨a,vs,f,rfl,_,_,hd,_⟩:=r;exact⟨.dK hd,by simp⟩
 | _=>cases e
def jmV(a:T∈["bool","int","str","tuple","list","dict"])  (h:PB R te p):
  PP R (tCB (λxs H Q=>∃ x T t b,xs=[x,.ty T]/\TyQ R.K H x t/\PySem.W.kitOne R.K (.type t) (.type T)=some b/\Q (.bl b) H)<|jC te<|jC (tC<|.ty T) JO) (jdX T p):=by
 intro σ ρ Z H O d z s e Q k;refine ob e λx c e=>ob e λt e2 e=>?_;cases e;refine h z s c λ{v j l m} f r1=>?_;obtain⟨g,i⟩:=r1.ty e2;exact⟨v,T,t,JN t T,rfl,g,xA _ i a,k f .bl_mk⟩
noncomputable def jM:Nat->List D->List D
 | _,[]=>[]
 | k,x::l=>.tup [.int k,x]::jM (k+1) l
theorem yC:∀ k l,(jM k l).length=l.length
 | _,[]=>rfl
 | k,x::l=>by rw[jM,M1,M1,yC]
theorem QH:∀ k l i (y:D),(jM k l)[i]?=some y->∃ x,l[i]?=some x/\y=.tup [.int ((k+i:Nat):Int),x]
 | _,[],_,_,e=>by simp[jM] at e
 | k,x::l,0,y,e=>by simp[jM] at e;exact⟨x,rfl,e.symm⟩
 | k,x::l,i+1,y,e=>by
  obtain⟨z,a,e2⟩:=QH (k+1) l i y (by simpa [jM] using e);exact⟨z,by simpa using a,by rw[e2];congr 3;lia⟩
noncomputable def jgR:List D->List D->List D
 | x::l,y::m=>.tup [x,y]::jgR l m
 | _,_=>[]
def jf2(l:List D):Option (List D):=(jdY l).bind λx=>(jfD x).bind λl=>some<|jM 0<|fzs l
@[simp] def Jf(p:PAf)(ρ:Rh):Option (List D):=(p ρ).bind jf2
def jfK(z:Zd Z H)(b:H p=none)(r1:Rep R Z H x u [])(r2:Rep R Z H y v []):Rep R (λa=>Z a\/a=p) (upd H p<|.tup [u,v]) (.tup [x,y]) (.ref p) []:=
 Rep.tupNew (wf0 z) b (.cons r1<|.cons r2 .empty)
def jaW(k:FL R Z H a ws)(rs:Reps R Z H l ws [])(m:L.length=l.length)(o:∀(i:Nat) y,L[i]?=some y->∃ x,l[i]?=some x/\y=.tup [.int<|n+i,x]):jjM R (Itn R.K a n) Z H L:=by
 intro A B d e zd i;have b:=(k.frame d e).sq;have f:=rs.frame d e λa p=>(nomatch p);refine⟨λhi=>⟨ws,b,by rw[f.length,<- m];exact hi⟩,λx r=>?_⟩;obtain⟨y,s,rfl⟩:=o i x r;obtain⟨u,g,v⟩:=f.item s;refine⟨⟨ws,u,b,g⟩,λw C c=>?_⟩;obtain⟨q,t,z,rfl,h,rfl⟩:=c;have j:=z ws b;rw[g] at j;cases j;exact⟨_,Go.newF (wf0 zd) h,jfK zd h .int_mk v⟩
def jfQ(h:PPs R ta p):PIt R (jib R.K ta) (Jf p):=by
 intro σ ρ Z H O j z s e Q k;refine ob e λx c e=>ob e λy e2 e=>ob e λl e3 e=>?_;cases e;obtain⟨o,rfl⟩:=Yb e3;cases kE e2;refine h z s c λ{vs d m f} g r1=>?_;obtain⟨v,rfl,r2⟩:=r1.one_of;obtain⟨a,ws,n,rfl,i,b,rfl,_⟩:=(r2.freeze (Z':=λa=>d a\/a∈f) (λa z=>.inl z) λa z=>.inr z);exact⟨a,ws,rfl,FL.sq b,k g.fz<|jaW b i (yC _ _) ⇑(QH 0 _)⟩
def jgG(h:ixN n i=some j):j<n:=(xv h).2.1
@[simp] def gIx(pm:List Nat)(i:Nat)(pi:PF)(d:D)(ρ:Rh):Option Rh:=(pi ρ).bind λk=>(vp k).bind λk=>(pV i ρ).bind λx=>(Ym x).bind λl=>(ixN l.length k).bind λj=>some<|ρ.set i<|some<|.lst true<|l.set j d
def jbE(rs:Reps R Z H l vs O)(a:j<l.length)(rd:Rep R Z H d u P):∃ O2,Reps R Z H (l.set j d) (vs.set j u) O2/\∀ q,O2.count q<=O.count q+P.count q:=by
 obtain⟨b,c,e,f,g,rfl,h,put⟩:=rs.at (show l[j]?=some l[j] by simp[a]);exact⟨_,put rd (λ_ z=>z) (λ_ _=>rfl) (λ_ _=>rfl)<|λ_ _=>rfl,λq=>by simp only[U8];lia⟩
def joz(h:PB R te pi):DG R pm (joB (yg i) te jbM) (gIx pm i pi):=by
 intro σ ρ A Z H O P d v w r s e Q k;refine ob e λx f e=>ob e λn e3 e=>ob e λy g e=>ob e λl m e=>ob e λj e2 e=>?_;cases e;cases jB e3;cases vv m;refine kW qX w s g rfl ow_lst λa _ vs B c _ o p put=>p<|h w.zd s f λ{u C D E} b r1=>?_;obtain⟨rfl,_⟩:=r1.int_of;obtain⟨F,r2,t⟩:=jbE (b.reps w.zd c) (jgG e2)<|b.rep w.zd r;obtain⟨G,g3,z⟩:=put ow_lst trivial b r2 λq=>by have:=t q;simp;lia
 exact⟨a,vs,n,j,rfl,rfl,b.at0 o,by rw[c.length];exact e2,k g3 z<|Keep.refl _ _⟩
@[simp] def Qj(i:Nat)(pi:PF)(g:Int->Int->Int)(pe:PF)(ρ:Rh):Option Out:=(pi ρ).bind λk=>(vp k).bind λk=>(pV i ρ).bind λx=>(Ym x).bind λl=>(ixN l.length k).bind λj=>(l[j]?).bind λy=>(vp y).bind λa=>(pe ρ).bind λz=>(vp z).bind λb=>some<|.nx<|ρ.set i<|some<|.lst true<|l.set j<|.int<|g a b
def jea(hi:PB R ti pi)(p:PB R te pe):DS R pm (jhA (yg i) ti te (jj6 R.K) (ipI g) jbM) (Qj i pi g pe):=by
 intro σ ρ Z H O o w s e F k;refine ob e λc1 r e=>ob e λn t e=>ob e λh v e=>ob e λl e5 e=>ob e λj e2 e=>ob e λG z e=>ob e λx A e=>ob e λI e3 e=>ob e λy e7 e=>?_;cases e;cases jB t;cases vv e5;cases jB A;cases jB e7;refine kW (P0:=[]) qX w s v rfl ow_lst λa _ vs J d _ m B put=>B<|hi w.zd s r λ{u L M N} c r1=>?_;obtain⟨rfl,_⟩:=r1.int_of;obtain⟨P,Q,f,r2⟩:=d.atI (by unfold L2.atI;rw[e2];exact z);obtain⟨rfl,_⟩:=r2.int_of;refine⟨a,vs,n,.int x,rfl,rfl,SqL.of<|c.at0 m,f,p c.wf.zd (c.slots w.zd s) e3 λ{S Z3 T U} g3 C=>?_⟩;obtain⟨rfl,_⟩:=C.int_of;have b:=c.pair g3;obtain⟨V,D,h⟩:=jbE (b.reps w.zd d) (jgG e2)<|Rep.int_mk;obtain⟨W,g4,E⟩:=put ow_lst trivial b D λq=>by have:=h q;simp at this ⊢;lia
 exact⟨x,y,rfl,rfl,a,vs,n,j,rfl,rfl,b.at0 m,by rw[d.length];exact e2,k g4 E<|Keep.refl _ _⟩
end QD
namespace QD
open PySem L2 PySem.Spec PyProof.Rows
section
variable (c:Nat->Addr)(pm:List Nat)(X:Cx)
structure QP(e:Expr)(te:TE)(p:PF):Prop where
 sem:PE X e te
 den:PP ⟨X.K,c⟩ te p
structure QB(e:Expr)(te:TE)(p:PF):Prop where
 sem:PE X e te
 den:PB ⟨X.K,c⟩ te p
structure QPs(es:List Expr)(ta:TA)(p:PAf):Prop where
 sem:PA X es ta
 den:PPs ⟨X.K,c⟩ ta p
structure QBs(es:List Expr)(ta:TA)(p:PAf):Prop where
 sem:PA X es ta
 den:PBs ⟨X.K,c⟩ ta p
 n:∀ ρ ds,p ρ=some ds->ds.length=es.length
structure QT(e:Expr)(tt:TT)(q:PTf):Prop where
 sem:PT X e tt
 den:PTt ⟨X.K,c⟩ tt q
structure QW(e:Expr)(tt:TT)(q:PTf):Prop where
 sem:PW X e tt
 den:PTt ⟨X.K,c⟩ tt q
structure QI(tg e:Expr)(wi:TI)(p:PAf):Prop where
 sem:PI X tg e wi
 den:PIt ⟨X.K,c⟩ wi p
structure QG(tg:Expr)(t:TG)(g:D->Rh->Option Rh):Prop where
 sem:PG X tg t
 den:PGt ⟨X.K,c⟩ pm t g
structure QGs(tg:List Expr)(t:TGs)(g:List D->Rh->Option Rh):Prop where
 sem:PGs X tg t
 den:jmo ⟨X.K,c⟩ pm t g
structure QE(e:Expr)(te:TE)(f:FE):Prop where
 sem:PE X e te
 den:DE ⟨X.K,c⟩ te f
structure QS(st:Stmt)(ts:TS)(f:FS):Prop where
 sem:PS X st ts
 den:DS ⟨X.K,c⟩ pm ts f
structure QSs(st:List Stmt)(ts:TS)(f:FS):Prop where
 sem:PSs X st ts
 den:DS ⟨X.K,c⟩ pm ts f
structure QO(e:Option Expr)(t:TO)(p:OF):Prop where
 sem:PO X e t
 den:PO' ⟨X.K,c⟩ t p
structure QIf(ifs:List Expr)(tc:TT)(q:PTf):Prop where
 sem:PIf X ifs tc
 den:PTt ⟨X.K,c⟩ tc q
end
section
variable {cl:Nat->Addr}{pm:List Nat}{X:Cx}{a b c e o:Expr}{es:List Expr}{ta tb tc te:TE}{pa pb pc pe:PF}{tA tB:TT}{qa qb:PTf}{tr:TA}{pr:PAf}{pos:Pos}
def QP.bb(h:QP cl X e te pe):QB cl X e te pe:=⟨h.sem,PP.b h.den⟩
def QB.f(h:QB cl X e te pe):QP cl X e te (pF pe):=⟨h.sem,PB.f h.den⟩
def QP.d(h:QP cl X e te pe):QE cl X e te (dP pe):=⟨h.sem,PP.d h.den⟩
def jfr(i){x}(b:X.N[i]?=some x:=by rfl)(c:Vis X.env.scope x:=by first | exact Or.inl rfl | exact Or.inr (Or.inl rfl) | exact Or.inr<|Or.inr rfl)(hd:Nd x:=by decide)
  (a:(x==("__classdict__" : Str))=false:=by decide):QB cl X (.Name x pos) (yg i) (pV i):=⟨jfX b c hd a,jka⟩
def jpP(i){x}(b:X.N[i]?=some x:=by rfl)(c:Vis X.env.scope x:=by first | exact Or.inl rfl | exact Or.inr (Or.inl rfl) | exact Or.inr<|Or.inr rfl)(hd:Nd x:=by decide)
  (a:(x==("__classdict__" : Str))=false:=by decide):QE cl X (.Name x pos) (yg i) (dMv i):=⟨jfX b c hd a,jkW⟩
def jjQ{i}{j}:QP cl X (.Constant (.int i) j pos) (tC<|.int i) (pI i):=⟨jct,jm9 λ_ _=>.int_mk⟩
def jpF{i}{j}:QP cl X (.Constant (.bool i) j pos) (tC<|.bl i) (pC<|.bl i):=⟨joj,jm9 λ_ _=>.bl_mk⟩
def jor{j}:QP cl X (.Constant .none j pos) (tC .non) (pC .non):=⟨jm0,jm9 λ_ _=>.non_mk⟩
def jnw{x}{j}(l)(h:x=S l):QP cl X (.Constant (.str x) j pos) (tC<|.str x) (pS l):=⟨jks,by subst h;exact jm9 λ_ _=>.str_mk⟩
def jld(c:QB cl X a ta pa)(d:QB cl X b tb pb):QP cl X (.BinOp a .Add b pos) (tOp (jat X.K) ta tb) (p2 jg pa pb):=⟨zJ jcZ c.sem d.sem,Qb jlf c.den d.den⟩
def joh(c:QB cl X a ta pa)(d:QB cl X b tb pb):QP cl X (.BinOp a .Sub b pos) (tOp (rI0 λi j=>.int<|i-j) ta tb) (p2 Vw pa pb):=⟨zJ jkm c.sem d.sem,Qb jlO c.den d.den⟩
def jon(c:QB cl X a ta pa)(d:QB cl X b tb pb):QP cl X (.BinOp a .Mult b pos) (tOp jhl ta tb) (p2 yj pa pb):=⟨zJ jiQ c.sem d.sem,Qb jmJ c.den d.den⟩
def jnY(c:QB cl X a ta pa)(d:QB cl X b tb pb):QP cl X (.BinOp a .FloorDiv b pos) (tOp (rI (λ_ j=>jaP j=true) λi j=>.int<|i/j) ta tb) (p2 Vc pa pb):=⟨zJ jfg c.sem d.sem,Qb jlX c.den d.den⟩
def jnV(c:QB cl X a ta pa)(d:QB cl X b tb pb):QP cl X (.BinOp a .Mod b pos) (tOp (rI (λ_ j=>0<j) λi j=>.int<|i%j) ta tb) (p2 JM pa pb):=⟨zJ jk0 c.sem d.sem,Qb jkz c.den d.den⟩
def jov(c:QB cl X a ta pa)(d:QB cl X b tb pb):QP cl X (.BinOp a .Pow b pos) (tOp (rI jow λi j=>.int<|i ^ j.toNat) ta tb) (p2 Vs pa pb):=⟨zJ jmp c.sem d.sem,Qb jmd c.den d.den⟩
def jni(b:QB cl X a ta pa):QP cl X (.UnaryOp .USub a pos) (tUn (rU λi=>.int<|-i) ta) (p1 xx pa):=⟨jnN jjZ b.sem,jnE jmg b.den⟩
def jnl(b:QB cl X a ta pa):QP cl X (.UnaryOp .Not a pos) (jjw ta) (jnz pa):=⟨jkV b.sem,jkh b.den⟩
structure CmpR(cl:Nat->Addr)(X:Cx)(op:CmpOp)(b:Expr)(r:R2)(g:D->D->Option D):Prop where
 o:OpR X (compareOp op) r
 g:BO ⟨X.K,cl⟩ r g
 m:behindInMarks op b=false
def jpp:CmpR cl X .Lt b (rI0 λi j=>.bl<|decide<|i<j) jjK:=⟨jnL,jnx,K6 _⟩
def jpN:CmpR cl X .Gt b (rI0 λi j=>.bl<|decide<|j<i) Yo:=⟨jom,jnx,K6 _⟩
def jpy:CmpR cl X .GtE b (rI0 λi j=>.bl<|decide<|j<=i) jng:=⟨jnn,jnx,K6 _⟩
def jpw(a:behindInMarks .In b=false):CmpR cl X .In b (jjI X.K false) (jaQ false):=⟨jkG,jmM,a⟩
def c_notin(a:behindInMarks .NotIn b=false):CmpR cl X .NotIn b (jjI X.K true) (jaQ true):=⟨ja9,jmM,a⟩
def jof{c}{r}{g}(h:CmpR cl X c b r g)(d:QB cl X a ta pa)(e:QB cl X b tb pb):QP cl X (.Compare a [c] [b] pos) (tOp r ta tb) (p2 g pa pb):=⟨jhj h.o d.sem e.sem h.m,Qb h.g d.den e.den⟩
def jmN{c}{r}{g}(h:CmpR cl X c b r g)(d:QB cl X a ta pa)(e:QB cl X b tb pb):QT cl X (.Compare a [c] [b] pos) (uI<|tOp r ta tb) (jl<|p2 g pa pb):=⟨jh0 h.o d.sem e.sem h.m,jcD<|PP.b<|Qb h.g d.den e.den⟩
def jls(b:QB cl X a ta pa)(c:∀ whole,isTrue a X.env whole=(do let v <- whole;standAt a.pos;holding [v] (truthy v)):=by intro _;rfl):QT cl X a (L2.tB ta) (jl pa):=⟨jjP b.sem c,jcD b.den⟩
def jmU(b:QT cl X a tA qa):QT cl X (.UnaryOp .Not a pos) (jn6 tA) (jmk qa):=⟨jku b.sem,jhc b.den⟩
def jjj(b:QT cl X a tA qa):QW cl X (.BoolOp .And [a] pos) tA qa:=⟨jic b.sem,b.den⟩
def jki(b:QT cl X a tA qa):QW cl X (.BoolOp .Or [a] pos) tA qa:=⟨jkO b.sem,b.den⟩
def jlm(c:QT cl X a tA qa)(d:QW cl X (.BoolOp .And (b::es) pos) tB qb):QW cl X (.BoolOp .And (a::b::es) pos) (jnF tA tB) (jcu qa qb):=⟨jlM c.sem d.sem,jmx c.den d.den⟩
def jnX(c:QT cl X a tA qa)(d:QW cl X (.BoolOp .Or (b::es) pos) tB qb):QW cl X (.BoolOp .Or (a::b::es) pos) (tOr tA tB) (qOr qa qb):=⟨jnQ c.sem d.sem,joJ c.den d.den⟩
def QW.t(h:QW cl X a tA qa):QT cl X a tA qa:=⟨PW.pt h.sem,h.den⟩
def jn7{b}(h:QP cl X a ta pa):QP cl X (.BoolOp b [a] pos) ta pa:=⟨jkc h.sem,h.den⟩
def jnG(c:QB cl X a ta pa)(d:QP cl X (.BoolOp .And (b::es) pos) tb pb):QP cl X (.BoolOp .And (a::b::es) pos) (jgM ta tb) (jmh pa pb):=⟨jkE c.sem d.sem,jko c.den d.den⟩
def jpG(c:QB cl X a ta pa)(d:QP cl X (.BoolOp .Or (b::es) pos) tb pb):QP cl X (.BoolOp .Or (a::b::es) pos) (joS ta tb) (pOr pa pb):=⟨joN c.sem d.sem,jog c.den d.den⟩
def jpt(d:QT cl X c tA qa)(e:QP cl X a ta pa)(f:QP cl X b tb pb):QP cl X (.IfExp c a b pos) (tIf tA ta tb) (pIf qa pa pb):=⟨je2 d.sem e.sem f.sem,joH d.den e.den f.den⟩
def jmZ:QPs cl X [] JO pN:=⟨vF,pps_nil⟩
def jgZ(a:QP cl X e te pe)(b:QPs cl X es tr pr)(c:SEq X e es:=by rfl):QPs cl X (e::es) (jC te tr) (ja pe pr):=⟨jy a.sem b.sem c,jd7 a.den b.den⟩
def jlr:QBs cl X [] JO pN:=⟨vF,jis,λρ a e=>by cases e;rfl⟩
def jh9(b:QB cl X e te pe)(a:QBs cl X es tr pr)(c:SEq X e es:=by rfl):QBs cl X (e::es) (jC te tr) (ja pe pr):=
 ⟨jy b.sem a.sem c,jfh b.den a.den,λρ f h=>by
  refine ob h λx g h=>ob h λd e2 h=>?_;cases h;rw[M1,M1,a.n ρ d e2]⟩
def joO{a}(h:QPs cl X es tr pr):QP cl X (.Tuple es a pos) (ut tr) (yb pr):=⟨JA h.sem,jlG h.den⟩
def joU(h:QPs cl X es tr pr):QP cl X (.List es pos) (joo tr) (Yp pr):=⟨jlA h.sem,jmi h.den⟩
def jo3(c:QB cl X a ta pa)(d:QB cl X b tb pb)(e:Kt b:=by exact λ_ _=>rfl):QB cl X (.Subscript a b pos) (tOp (rIx X.K) ta tb) (p2 jf pa pb):=⟨jkY jgc c.sem d.sem e,jno jne c.den d.den⟩
def jg9:QO cl X none YV oN:=⟨jdU,jpj⟩
def jiB(h:QB cl X e te pe):QO cl X (some e) (jbe te) (oS pe):=⟨jb3 h.sem,jpK h.den⟩
def jo0{lo hi}{tl th}{pl c}{b}(d:QB cl X a ta pa)(e:QO cl X lo tl pl)(f:QO cl X hi th c):QP cl X (.Subscript a (.Slice lo hi none b) pos) (tSl (jjJ X.K) ta tl th) (pSl pa pl c):=
 ⟨ur jo4 d.sem e.sem f.sem,jnb d.den e.den f.den⟩
def OkF(P:Program)(w:World)(K:W4)(mg:W6)(x:Str)(st:Stmt)(k:Nat)(ps:List Str)(sp:Sp):Prop:=∃ f fd,FnFact K mg x x st f fd ps/\∀ base,FnOk P w K mg base CX0 k f fd ps sp
def jfW{k n}{ps}{m}{x}{st}{p}(O:OkF X.prog X.w X.K X.mg x st k ps<|spP ⟨X.K,cl⟩ m n)(d:Room k X.A)
  (a:QBs cl X (e::es) tr pr) (f:(e::es).length=n:=by rfl) (g:Gl X x:=by rfl) (b:Nd x:=by decide)
  (i:SEq X e es:=by rfl) (c:BkE X pos es:=by rfl):QP cl X (.Call (.Name x p) (e::es) [] pos) (zY (spP ⟨X.K,cl⟩ m n) [] E0 tr) (jj m pr):=by
 obtain⟨_,_,F,G⟩:=O;exact⟨jlh F (G _) d a.sem g b i c,jiD a.den λρ j h=>(a.n ρ j h).trans f⟩
def J8{x}{p}{id}{r}{g}(d:vJ X (.builtin id) r)(f:BC ⟨X.K,cl⟩ r g)(h:X.mg x=none)(i:bootBuiltins x=some (.builtin id))(c:QBs cl X (e::es) tr pr)(j:Gl X x:=by rfl)
  (k:x≠"__name__":=by decide) (a:Nd x:=by decide) (l:SEq X e es:=by rfl) (b:BkE X pos es:=by rfl):
  QP cl X (.Call (.Name x p) (e::es) [] pos) (tCB r tr) (pCB g pr):=⟨Yw d j h i c.sem k a l b,jjs f c.den⟩
def Y9{x}{p}{T}{r}{g}(d:vJ X (.type T) r)(f:BC ⟨X.K,cl⟩ r g)(h:X.mg x=none)(i:bootBuiltins x=some (.type T))(c:QBs cl X (e::es) tr pr)(j:Gl X x:=by rfl)
  (k:x≠"__name__":=by decide) (a:Nd x:=by decide) (l:SEq X e es:=by rfl) (b:BkE X pos es:=by rfl):
  QP cl X (.Call (.Name x p) (e::es) [] pos) (tCB r tr) (pCB g pr):=⟨YE d j h i c.sem k a l b,jjs f c.den⟩
def jnk(b:X.mg "len" = none){p}(c:QBs cl X [e] tr pr)(d:Gl X "len":=by rfl)(f:starEach [e] X.env=(false,eval e X.env)::starEach [] X.env:=by rfl)(a:(backTo pos<|starEach [] X.env).any (·.1)=false:=by rfl):
  QP cl X (.Call (.Name "len" p) [e] [] pos) (tCB (λxs H Q=>∃ x n,xs=[x]/\jos X.K x H n/\Q (.int n) H) tr) (pCB k8 pr):=J8 jeG jlD b PySem.boot_len c d (by decide) (by decide) f a
def jbm:bootBuiltins "sum" = some (.builtin "sum"):=by decide +kernel
def jdk:bootBuiltins "all" = some (.builtin "all"):=by decide +kernel
def jbN:bootBuiltins "max" = some (.builtin "max"):=by decide +kernel
def jcM:bootBuiltins "min" = some (.builtin "min"):=by decide +kernel
def kY:bootBuiltins "isinstance" = some (.builtin "isinstance"):=by decide +kernel
def QY:bootBuiltins "int" = some (.type "int"):=by decide +kernel
def jbO:bootBuiltins "str" = some (.type "str"):=by decide +kernel
def JS:bootBuiltins "list" = some (.type "list"):=by decide +kernel
def qY:bootBuiltins "tuple" = some (.type "tuple"):=by decide +kernel
def jay:bootBuiltins "bool" = some (.type "bool"):=by decide +kernel
def jaB:bootBuiltins "dict" = some (.type "dict"):=by decide +kernel
def jfE{T}{x}{p p1}(j:T∈["bool","int","str","tuple","list","dict"])(k:X.mg "isinstance" = none)(c:X.mg x=none)(d:bootBuiltins x=some (.type T))(h:QB cl X a ta pa)(l:Gl X "isinstance":=by rfl)(e:Gl X x:=by rfl)
  (m:x≠"__name__":=by decide) (f:Nd x:=by decide) (i:starEach [a,.Name x p1] X.env=(false,eval a X.env)::starEach [.Name x p1] X.env:=by rfl) (g:(backTo pos<|starEach [.Name x p1] X.env).any (·.1)=false:=by rfl)
  (h1:starEach [.Name x p1] X.env=(false,eval (.Name x p1) X.env)::starEach [] X.env:=by rfl):
  QP cl X (.Call (.Name "isinstance" p) [a,.Name x p1] [] pos) (tCB (λxs H Q=>∃ x T t b,xs=[x,.ty T]/\TyQ X.K H x t/\PySem.W.kitOne X.K (.type t) (.type T)=some b/\Q (.bl b) H)<|jC ta<|jC (tC<|.ty T) JO) (jdX T pa):=
 ⟨Yw Q2 l k kY (jy h.sem (jy (xH e c d rfl m f) vF h1) i) (by decide) (by decide) i g,jmV j h.den⟩
variable {tg iter elt:Expr}{ifs:List Expr}{wi:TI}{pi:PAf}{t:TG}{g:D->Rh->Option Rh}
def jkH(h:QP cl X e te pe):QI cl X tg e (jd1 X.K te) (pIt pe):=⟨uo h.sem,jnf h.den⟩
def jjD{p}(b:X.mg "range" = none)(h:QBs cl X [a] tr pr)(c:Gl X "range":=by rfl)(d:starEach [a] X.env=[(false,eval a X.env)]:=by rfl):QI cl X tg (.Call (.Name "range" p) [a] [] pos) (jjn tr) (Km pr):=⟨jcr c b h.sem d,ji6 h.den⟩
def jjf{elts}{n}{tpos p}(b:X.mg "enumerate" = none)(h:QPs cl X [a] tr pr)(c:Gl X "enumerate":=by rfl)(d:starEach [a] X.env=[(false,eval a X.env)]:=by rfl):QI cl X (.Tuple elts n tpos) (.Call (.Name "enumerate" p) [a] [] pos) (jib X.K tr) (Jf pr):=⟨jji c b h.sem d,jfQ h.den⟩
def jjt{i}{x}(a:X.N.Nodup)(hi:X.N[i]?=some x:=by rfl)(b:Loc X.env.scope x:=by first | exact Or.inl rfl | exact Or.inr rfl)(c:X.fn x=true\/X.env.scope.names.lookup x=some .local:=by first | exact .inl rfl | exact .inr rfl):
  QG cl pm X (.Name x pos) (km i) (jc pm i):=⟨jdq a hi b c,jfc⟩
def jhb:QGs cl pm X [] jjm gN:=⟨jix,jff⟩
def jel{ts}{a}(h1:QG cl pm X e t g)(h2:QGs cl pm X es ts a)(b:(assignEach (e::es) X.env).map (·.2)=assign e X.env::(assignEach es X.env).map (·.2):=by rfl):QGs cl pm X (e::es) (Vf t ts) (gC g a):=⟨jfe h1.sem h2.sem b,jbD h1.den h2.den⟩
def jgn{ts}{b}{k n}(c:X.calm=true)(h:QGs cl pm X es ts b)(d:(assignEach es X.env).length=n:=by rfl)(a:(assignEach es X.env).findIdx? (·.1)=none:=by rfl):QG cl pm X (.Tuple es k pos) (jgL X.K n ts) (gT n b):=⟨jmG c h.sem d a,jiM h.den⟩
def jfu:QIf cl X [] (λ_ H Q=>Q true H) qT:=⟨.inl ⟨rfl,rfl⟩,jin⟩
def jft(h:QT cl X c tA qa):QIf cl X [c] tA qa:=⟨.inr ⟨c,rfl,h.sem⟩,h.den⟩
variable {st:Stmt}{JR:List Stmt}{ts tu:TS}{f fe:FS}{fE:FE}
def jgU:QSs cl pm X [] jjz jQ:=⟨jiy,jiE⟩
def jgP(h:QS cl pm X st ts f):QSs cl pm X [st] ts f:=⟨jcF h.sem,h.den⟩
def jfM(h:QS cl pm X st ts f)(k:QSs cl pm X JR tu fe):QSs cl pm X (st::JR) (jiV ts tu) (ji f fe):=⟨KF h.sem k.sem,jk4 h.den k.den⟩
def jhT(h:QE cl X e te fE)(a:swapsWith e none pos.line X.env=pure false:=by rfl):QS cl pm X (.Expr e pos) (v8 te) (JZ fE):=⟨Jk h.sem a,jhG h.den⟩
def jlk(h:QE cl X e te fE):QS cl pm X (.Return (some e) pos) (jn2 te) (yy fE):=⟨jkD h.sem,jkr h.den⟩
def jnT{x y}(a:QT cl X c tA qa)(b:QSs cl pm X x ts f)(e:QSs cl pm X y tu fe):QS cl pm X (.If c x y pos) (jnB tA ts tu) (sIf (dPT qa) f fe):=⟨joQ a.sem b.sem e.sem,joT (PTt.d a.den) b.den e.den⟩
def jgi{i}{x}{pos'}(a:X.N.Nodup)(h:QE cl X e te fE)(hi:X.N[i]?=some x:=by rfl)(b:Loc X.env.scope x:=by first | exact Or.inl rfl | exact Or.inr rfl)(c:swapsWith e (some<|.Name x pos') pos.line X.env=pure false:=by rfl)
  (d:X.fn x=true\/X.env.scope.names.lookup x=some .local:=by first | exact .inl rfl | exact .inr rfl):QS cl pm X (.Assign [.Name x pos'] e pos) (jd2 te<|km i) (jx fE<|jc pm i):=⟨jl8 a hi b h.sem c d,jb8 h.den Ku⟩
@[simp] def sAsgT(fe:FE)(G:D->Rh->Option Rh)(ρ:Rh):Option Out:=(fe ρ).bind λx=>(bif frz x.1 then G x.1 x.2 else none).bind λr=>some<|.nx r
def jeA{i}{x}{a c}(d:QB cl X (.Name x a) (yg i)<|pV i)(hi:QB cl X b tb pb)(h:QE cl X e te fE)
  (f:∀ v,assign (.Subscript (.Name x a) b c) X.env v=(do
   let ov <- holding [v] (eval (.Name x a) X.env)
   let iv <- holding [v,ov] (eval b X.env)
   standAt c
   holding [v,ov,iv] (setItem ov iv v)
   release [v,ov,iv] []):=by intro _;rfl)
  (g:swapsWithSole [.Subscript (.Name x a) b c] e pos.line X.env=pure false:=by rfl) (j:swappedStores [.Subscript (.Name x a) b c] e X.env=pure none:=by rfl)
  (h1:(assignEach [.Subscript (.Name x a) b c] X.env).map (·.2)=[assign (.Subscript (.Name x a) b c) X.env]:=by rfl):
  QS cl pm X (.Assign [.Subscript (.Name x a) b c] e pos) (jd2 te<|joB (yg i) tb jbM) (jx fE<|gIx pm i pb):=⟨jlj h.sem (jmK d.sem hi.sem wG f) g j h1,jb8 h.den<|joz hi.den⟩
def jfl:jo5 X (jj6 X.K):=by
 intro a s σ H o i A B Q I r1 r2 h;obtain⟨p,C,k,z,rfl,rfl,m,n,q⟩:=h;cases r1;obtain⟨t,rfl⟩:=r2;obtain⟨d,r,pl,D⟩:=I.list m;obtain⟨j,c,u,E,v,x⟩:=Kn n;obtain⟨w,g,e⟩:=r.get u;have y:=r.length;have F:=Qh;have b:EP X a σ Q w s:=⟨z,H,I,e,q⟩;by_cases l:0<=k
 ·have f:k.toNat=j:=by
   rw[seqIndex_of l x] at c;exact X4 c
  exact wpAny_getItem_list pl.isList l ∅ (by rw[f];simpa using g) b
 ·have f:(k+d.toArray.size).toNat=j:=by
   rw[seqIndex_neg ∅ v] at c;rw[N3,<- y];exact X4 c
  exact wpAny_getItem_list_neg pl.isList ∅ (by rw[N3]<;>lia) ∅ (by rw[f];simpa using g) b
def jeO{i}{x}{a c}{f}{d}(g:QB cl X (.Name x a) (yg i)<|pV i)(hi:QB cl X b tb pb)(j:PIp X f<|ipI d)(h:QB cl X e te pe)
  (k:∀ ov iv new,augStore b ov iv new=(do holding [new,ov,iv] (setItem ov iv new);release [new,ov,iv] [];pure .next):=by intros;rfl):QS cl pm X (.AugAssign (.Subscript (.Name x a) b c) f e pos) (jhA (yg i) tb te (jj6 X.K) (ipI d) jbM) (Qj i pb d pe):=
 ⟨jg6 g.sem hi.sem jfl h.sem j wG k,jea hi.den h.den⟩
@[simp] def jfp(pm:List Nat)(i:Nat)(g:Int->Int->Int)(pa:PF)(ρ:Rh):Option Out:=(pV i ρ).bind λx=>(vp x).bind λa=>(pa ρ).bind λy=>(vp y).bind λb=>(jc pm i (.int<|g a b) ρ).bind λr=>some<|.nx r
def jhB{R}{i}{b}{p}(h:PB R te p):DS R pm (joF i te<|ipI b) (jfp pm i b p):=by
 intro σ ρ Z H O o w s e n k;refine ob e λc1 a e=>ob e λx e3 e=>ob e λq f e=>ob e λy g e=>ob e λt e2 e=>?_;cases e;cases jB e3;cases jB g;have a:=qu a;obtain⟨A,P,B,rfl,j,_,_⟩:=s.put (L9.mp a).1;obtain⟨v,l,r⟩:=j _ a;obtain⟨rfl,_⟩:=r.int_of;refine⟨_,l,h w.zd s f λ{u z C D} c r1=>?_⟩;obtain⟨rfl,_⟩:=r1.int_of;have d:=c.widen w;exact⟨x,y,rfl,rfl,Ku d.wf (Rep.int_mk) (c.slots w.zd s) e2 λg2 s2 m=>k (d.trans g2) s2 m⟩
def jiL{i}{x}{pos'}{b}{a}(c:X.N.Nodup)(d:PIp X b<|ipI a)(h:QB cl X e te pe)(hi:X.N[i]?=some x:=by rfl)(f:Loc X.env.scope x:=by first | exact Or.inl rfl | exact Or.inr rfl)
  (g:X.fn x=true\/X.env.scope.names.lookup x=some .local:=by first | exact .inl rfl | exact .inr rfl):QS cl pm X (.AugAssign (.Name x pos') b e pos) (joF i te<|ipI a) (jfp pm i a pe):=⟨jkI c hi f h.sem d g,jhB h.den⟩
def jgF{i}{x}{a apos cpos}(j:QB cl X (.Name x a) (yg i)<|pV i)(h:QP cl X e te pe)(c:attributeBase (.Name x a) "append" X.env (eval (.Name x a) X.env)=eval (.Name x a) X.env:=by rfl)
  (f:((backTo cpos<|starEach [e] X.env).all (λx=>!x.1)&&(backToKw cpos<|keywordEach [] X.env).all (λx=>x.1.isSome)
   && decide ([e].length+([]:List Keyword).length+(if([]:List Keyword).isEmpty then 0 else 1)<30))=true:=by rfl)
  (d:(apos.endLine==cpos.line)=true:=by rfl) (g:starEach [e] X.env=(false,eval e X.env)::starEach [] X.env:=by rfl) (b:(backTo cpos<|starEach [] X.env).any (·.1)=false:=by rfl)
  (hsw:swapsWith (.Call (.Attribute (.Name x a) "append" apos) [e] [] cpos) none pos.line X.env=pure false:=by rfl):
  QS cl pm X (.Expr (.Call (.Attribute (.Name x a) "append" apos) [e] [] cpos) pos) (v8<|tBM X.K "list" v5 (yg i)<|jC te JO) (zg i pe):=
 ⟨Jk (jbS PySem.F.plainAttrs_list PySem.F.slot_list_append PySem.F.type_list_append JI j.sem (jy h.sem vF g) c f d g b) hsw,jkB h.den⟩
def jjX{body}(c:PassesOwn (model X.prog X.w) X.A X.env X.xe)(d:X.calm=true)(hi:QI cl X tg iter wi pi)(a:QG cl pm X tg t g)(b:QSs cl pm X body ts f)(e:∀ x,foldedSetIterable iter X.env x=pure x:=by intro _;rfl):QS cl pm X (.For tg iter body [] pos) (jfd wi t ts) (JB pi g f):=
 ⟨wY c d hi.sem a.sem b.sem e,jl1 hi.den a.den b.den⟩
def QS.fz(i)(h:QS cl pm X st ts f):QS cl pm X st ts (sFz i f):=⟨h.sem,jnC h.den⟩
def jn4{P}{w}{K}{mg}{base}{x qual}{a}{fa}{fd}{N ps}{k n}{fs}(F:Fun K x qual a fa fd)(c:FnScope N ps<|ju a)(d:ps.length=n)
  (b:∀ cdv A outer s H E,Room k (A.deeper<|envOfC qual (ju a) ↥s fa cdv) ->
   ∃ ts,QSs cl [] (jgE CX0 P w K mg base N qual (ju a) fa cdv A outer s H E).nox (vI a) ts fs):FnOk P w K mg base CX0 (k+1) fa fd ps (spP ⟨K,cl⟩ (fnP N.length fs) n):=by
 refine F.ok c (λvs H Q E h=>by rw[jhz h,d]) λcdv A outer s H vs Q E e h=>?_;obtain⟨ts,q⟩:=b cdv A outer s H E e;exact⟨ts,q.sem,jhQ q.den h⟩
end
mutual
noncomputable def jdT:D->PyData
 | .non=>.none | .bl b=>.bool b | .int i=>.int i | .str s=>.str<|S s
 | .tup l=>.tuple<|qm l
 | .lst _ l=>.list<|qm l
 | .dK _ _ _=>.none | .dT _ _ _=>.none | .ins _ _ _ _=>.none | .dead=>.none | .tok _=>.none | .kt _=>.none | .exc _ _=>.none
noncomputable def qm:List D->List PyData
 | []=>[]
 | d::l=>jdT d::qm l
end
mutual
noncomputable def okE:Nat->D->Bool
 | _,.non=>true | _,.bl _=>true | _,.int _=>true
 | _,.str s=>s.all λc=>decide<|c<1114112
 | n+1,.tup l=>yA n l
 | n+1,.lst _ l=>yA n l
 | _,_=>false
noncomputable def yA:Nat->List D->Bool
 | _,[]=>true
 | n,d::l=>okE n d&&yA n l
end
mutual
noncomputable def eqD:D->D->Bool
 | .non,y=>match y with | .non=>true | _=>false
 | .bl a,y=>match y with | .bl b=>a==b | .int j=>(if a then 1 else 0)==j | _=>false
 | .int i,y=>match y with | .bl b=>i==(if b then 1 else 0) | .int j=>i==j | _=>false
 | .str a,y=>match y with | .str b=>a==b | _=>false
 | .tup l,y=>match y with | .tup m=>zh l m | _=>false
 | .lst _ l,y=>match y with | .lst _ m=>zh l m | _=>false
 | _,_=>false
noncomputable def zh:List D->List D->Bool
 | [],[]=>true
 | x::l,y::m=>eqD x y&&zh l m
 | _,_=>false
end
noncomputable def jpA:D->Bool
 | .non=>true | .bl _=>true | .int _=>true | .str _=>true | .tup _=>true | .lst _ _=>true | _=>false
def ym{n x}{p:Prop}(h:okE n x=true)(k:jpA x=false):p:=by
 cases x<;>cases k<;>cases n<;>cases h
theorem KB:∀ n l,yA n l=l.all (okE n)
 | _,[]=>rfl
 | n,d::l=>by rw[yA,KB n l];rfl
mutual
theorem jdg:∀(n:Nat) (x y:D),okE n x=true->okE n y=true->PyData.eqv (jdT x) (jdT y)=eqD x y
 | n,.non,y,hx,hy=>by cases y<;>first | rfl | (cases n<;>simp_all [okE])
 | n,.bl a,y,hx,hy=>by cases y<;>first | rfl | (cases n<;>simp_all [okE])
 | n,.int a,y,hx,hy=>by cases y<;>first | rfl | (cases n<;>simp_all [okE])
 | n,.str a,y,hx,hy=>by
  cases y with
  | str b=>
   show(S a==S b)=(a==b);rw[Bool.eq_iff_iff];simp[jnR]
  | _=>first | rfl | (cases n<;>simp_all [okE])
 | 0,.tup l,y,hx,hy=>by simp[okE] at hx
 | n+1,.tup l,y,hx,hy=>by
  cases y with
  | tup m=>show PyData.eqvAll (qm l) (qm m)=zh l m;exact zy n l m (by simpa [okE] using hx) (by simpa [okE] using hy)
  | _=>first | rfl | (simp_all [okE])
 | 0,.lst o l,y,hx,hy=>by simp[okE] at hx
 | n+1,.lst o l,y,hx,hy=>by
  cases y with
  | lst o' m=>show PyData.eqvAll (qm l) (qm m)=zh l m;exact zy n l m (by simpa [okE] using hx) (by simpa [okE] using hy)
  | _=>first | rfl | (simp_all [okE])
 | n,.dK _ _ _,y,hx,hy=>ym hx rfl
 | n,.dT _ _ _,y,hx,hy=>ym hx rfl
 | n,.ins _ _ _ _,y,hx,hy=>ym hx rfl
 | n,.dead,y,hx,hy=>ym hx rfl
 | n,.tok _,y,hx,hy=>ym hx rfl
 | n,.kt _,y,hx,hy=>ym hx rfl
 | n,.exc _ _,y,hx,hy=>ym hx rfl
theorem zy:∀(n:Nat) (l m:List D),yA n l=true->yA n m=true->PyData.eqvAll (qm l) (qm m)=zh l m
 | n,[],[],_,_=>rfl
 | n,[],_::_,_,_=>rfl
 | n,_::_,[],_,_=>rfl
 | n,x::l,y::m,hx,hy=>by
  rw[yA,M0] at hx hy;show(PyData.eqv (jdT x) (jdT y)&&PyData.eqvAll (qm l) (qm m))=(eqD x y&&zh l m);rw[jdg n x y hx.1 hy.1,zy n l m hx.2 hy.2]
end
mutual
theorem wB:∀(n:Nat) (x:D),okE n x=true->(jdT x).canLay0=true/\(jdT x).depth<=n
 | n,.non,_=>⟨rfl,U5 _⟩
 | n,.bl _,_=>⟨rfl,U5 _⟩
 | n,.int _,_=>⟨rfl,U5 _⟩
 | n,.str s,h=>by
  refine⟨?_,U5 _⟩;have h:(s.all λc=>decide<|c<1114112)=true:=by cases n<;>simpa [okE] using h
  show PyData.strOk (S s)=true;unfold PyData.strOk S;rw[Array.all_eq_true'];intro c hc;rw[List.all_eq_true] at h;exact h c ⇑hc
 | 0,.tup l,h=>by simp[okE] at h
 | n+1,.tup l,h=>by
  obtain⟨h1,h2⟩:=YU n l (by simpa [okE] using h);exact⟨h1,Nat.succ_le_succ h2⟩
 | 0,.lst o l,h=>by simp[okE] at h
 | n+1,.lst o l,h=>by
  obtain⟨h1,h2⟩:=YU n l (by simpa [okE] using h);exact⟨h1,Nat.succ_le_succ h2⟩
 | n,.dK _ _ _,hx=>ym hx rfl
 | n,.dT _ _ _,hx=>ym hx rfl
 | n,.ins _ _ _ _,hx=>ym hx rfl
 | n,.dead,hx=>ym hx rfl
 | n,.tok _,hx=>ym hx rfl
 | n,.kt _,hx=>ym hx rfl
 | n,.exc _ _,hx=>ym hx rfl
theorem YU:∀(n:Nat) (l:List D),yA n l=true->PyData.canLayAll0 (qm l)=true/\PyData.depthAll (qm l)<=n
 | n,[],_=>⟨rfl,U5 _⟩
 | n,x::l,h=>by
  rw[yA,M0] at h;obtain⟨h1,h2⟩:=wB n x h.1;obtain⟨h3,h4⟩:=YU n l h.2;rw[qm];refine⟨?_,?_⟩
  ·show((jdT x).canLay0&&PyData.canLayAll0 (qm l))=true;rw[h1,h3];rfl
  ·show max (jdT x).depth (PyData.depthAll<|qm l)<=n;exact Nat.max_le.mpr ⟨h2,h4⟩
end
mutual
theorem Rep.reads(I:Inv X pins σ H s):∀(n:Nat) {x:D}{v:V}{u:Value}{O:W5},Rep ⟨X.K,cl⟩ Z H x v O->RelV v u->okE n x=true->∃ as,Reads s.heap u (jdT x) as
 | n,.non,_,_,_,r,q,_=>by obtain⟨rfl,_⟩:=r.non_of;cases q;exact⟨_,.none⟩
 | n,.bl b,_,_,_,r,q,_=>by obtain⟨rfl,_⟩:=r.bl_of;cases q;exact⟨_,.bool b⟩
 | n,.int i,_,_,_,r,q,_=>by obtain⟨rfl,_⟩:=r.int_of;obtain⟨t,rfl⟩:=q;exact⟨_,.int i t⟩
 | n,.str w,_,_,_,r,q,_=>by obtain⟨rfl,_⟩:=r.str_of;obtain⟨t,rfl⟩:=q;exact⟨_,.str _ t⟩
 | 0,.tup l,_,_,_,r,q,h=>by simp[okE] at h
 | n+1,.tup l,_,_,_,r,q,h=>by
  obtain⟨a,vs,rfl,hx,rs⟩:=r.tup_of;cases q;obtain⟨its,rv,⟨o,h1,h2,k,h3⟩,_⟩:=I.tuple hx;obtain⟨as,hr⟩:=Reps.reads I n rs rv (by simpa [okE] using h);exact⟨_,reads_tuple_at h1 h2 h3 ⇑hr⟩
 | 0,.lst o l,_,_,_,r,q,h=>by simp[okE] at h
 | n+1,.lst o l,_,_,_,r,q,h=>by
  obtain⟨a,vs,O',rfl,hx,rs⟩:=r.lst_of;cases q;obtain⟨its,rv,⟨o,k,h1,h2,_,h3⟩,_⟩:=I.list hx.sq;obtain⟨as,hr⟩:=Reps.reads I n rs rv (by simpa [okE] using h);exact⟨_,reads_list_at h1 h2 h3 ⇑hr⟩
 | n,.dK _ _ _,_,_,_,_,_,hx=>ym hx rfl
 | n,.dT _ _ _,_,_,_,_,_,hx=>ym hx rfl
 | n,.ins _ _ _ _,_,_,_,_,_,hx=>ym hx rfl
 | n,.dead,_,_,_,_,_,hx=>ym hx rfl
 | n,.tok _,_,_,_,_,_,hx=>ym hx rfl
 | n,.kt _,_,_,_,_,_,hx=>ym hx rfl
 | n,.exc _ _,_,_,_,_,_,hx=>ym hx rfl
theorem Reps.reads(I:Inv X pins σ H s):∀(n:Nat) {l:List D}{vs:List V}{us:List Value}{O:W5},Reps ⟨X.K,cl⟩ Z H l vs O->Vals vs us->yA n l=true->∃ as,ReadsAll s.heap us (qm l) as
 | n,[],_,_,_,r,q,_=>by rw[Reps] at r;obtain⟨rfl,_⟩:=r;cases q;exact⟨_,.nil⟩
 | n,x::l,_,_,_,r,q,h=>by
  rw[Reps] at r;obtain⟨v,vs,O1,O2,rfl,rfl,r1,r2⟩:=r;rw[yA,M0] at h;cases q with
  | cons q1 q2=>
   obtain⟨as,h1⟩:=Rep.reads I n r1 q1 h.1;obtain⟨bs,h2⟩:=Reps.reads I n r2 q2 h.2;exact⟨_,.cons h1 h2⟩
end
def jh8(R:RC)(neg:Bool):R2:=λx y H Q=>∃ Z d e O P,Rep R Z H d x O/\Rep R Z H e y P/\okE 20 d=true/\okE 20 e=true/\Q (.bl<|neg != eqD d e) H
def jm4(h:okE 20 x=true):SeqAt.shaped (jdT x)=true:=by
 obtain⟨a,b⟩:=wB 20 x h;unfold SeqAt.shaped;rw[a,Bool.true_and];exact X1<|N7 b (by decide)
def jmr(f:X.A.units+64<cLine):OpR X (compareOp .Eq) (jh8 ⟨X.K,cl⟩ false):=by
 intro c s σ H x y v u Q I g i h;obtain⟨Z,d,e,O,P,r1,r2,a,b,q⟩:=h;obtain⟨l,j⟩:=r1.reads I 20 g a;obtain⟨bs,k⟩:=r2.reads I 20 i b;refine eq_dataH j k (jm4 a) (jm4 b) f ?_;rw[jdg 20 d e a b];exact⟨.bl _,H,I,rfl,by simpa using q⟩
def jlH(f:X.A.units+64<cLine):OpR X (compareOp .NotEq) (jh8 ⟨X.K,cl⟩ true):=by
 intro c s σ H x y v u Q I g i h;obtain⟨Z,d,e,O,P,r1,r2,a,b,q⟩:=h;obtain⟨l,j⟩:=r1.reads I 20 g a;obtain⟨bs,k⟩:=r2.reads I 20 i b;refine ne_dataH j k (jm4 a) (jm4 b) f ?_;rw[jdg 20 d e a b];exact⟨.bl _,H,I,rfl,by simpa using q⟩
def kZ(x y:D):Option D:=bif qA x&&qA y&&KM x y then some (.bl<|eqF x y) else bif okE 20 x&&okE 20 y then some (.bl<|eqD x y) else none
def Vq(x y:D):Option D:=bif qA x&&qA y&&KM x y then some (.bl<|!eqF x y) else bif okE 20 x&&okE 20 y then some (.bl<|!eqD x y) else none
def joi:BO R (λx y H Q=>rEq x y H Q\/jh8 R false x y H Q) kZ:=by
 intro Z H x y d v u f g z b c e Q k;unfold kZ at e;cases hl:qA x&&qA y&&KM x y with
 | true=>
  rw[hl] at e;cases e;obtain⟨h,i⟩:=jce b c hl;exact .inl ⟨h,by rw[i];exact k (Go.id z) .bl_mk⟩
 | false=>
  rw[hl,cond_false] at e;refine oc e λa e=>?_;cases e;rw[M0] at a;exact .inr ⟨Z,x,y,f,g,b,c,a.1,a.2,by simpa using k (Go.id z) .bl_mk⟩
def jnP:BO R (λx y H Q=>rNe x y H Q\/jh8 R true x y H Q) Vq:=by
 intro Z H x y d v u f g z b c e Q k;unfold Vq at e;cases hl:qA x&&qA y&&KM x y with
 | true=>
  rw[hl] at e;cases e;obtain⟨h,i⟩:=jce b c hl;exact .inl ⟨h,by rw[i];exact k (Go.id z) .bl_mk⟩
 | false=>
  rw[hl,cond_false] at e;refine oc e λa e=>?_;cases e;rw[M0] at a;exact .inr ⟨Z,x,y,f,g,b,c,a.1,a.2,by simpa using k (Go.id z) .bl_mk⟩
def jpO(a:Room k X.A):CmpR cl X .Eq b (λx y H Q=>rEq x y H Q\/jh8 ⟨X.K,cl⟩ false x y H Q) kZ:=⟨Yg joL<|jmr a.units,joi,K6 _⟩
def c_ne(a:Room k X.A):CmpR cl X .NotEq b (λx y H Q=>rNe x y H Q\/jh8 ⟨X.K,cl⟩ true x y H Q) Vq:=⟨Yg jnO<|jlH a.units,jnP,K6 _⟩
def BM(R:RC)(T:String)(r:V->List V->Hp->VK->Prop)(g:D->List D->Option D):Prop:=∀{Z}{H}{x d}{xs}{v}{vs}{O1 O2},Zd Z H->Rep R Z H x v O1->Reps R Z H xs vs O2->g x xs=some d ->
 ∀{Q},(∀{w}{Z'}{H'}{P},Go Z H [] Z' H' P->Rep R Z' H' d w P->Q w H')->r v vs H Q
noncomputable def isT:String->D->Bool
 | "str",.str _=>true
 | _,_=>false
@[simp] def pBM(T:String)(g:D->List D->Option D)(pa:PF)(pr:PAf)(ρ:Rh):Option D:=(pa ρ).bind λx=>bif isT T x then(pr ρ).bind λxs=>g x xs else none
end QD
namespace QD
open PySem L2
section
variable {R:RC}{Z Z':Zn}{H H':Hp}{pm:List Nat}
def Keep.sub(h:∀ i∈pm,i∈pm')(k:Keep pm' σ σ'):Keep pm σ σ':=λi hi=>k i<|h i hi
def ItB(R:RC)(J:It)(Z:Zn)(H:Hp)(xs:List D):Prop:=∀{Z1}{H1},(∀ a,Z a->Z1 a)->(∀ a,H a≠none->H1 a=H a)->Zd Z1 H1->∀ i:Nat,
 (xs.length<=i->J.stop i H1)/\∀ x,xs[i]?=some x->J.go i H1/\∀ u H2,J.yld i H1 u H2->∃ Z2,Go Z1 H1 [] Z2 H2 []/\Rep R Z2 H2 x u []
def jm8(R:RC)(wi:TI)(p:PAf):Prop:=∀{σ}{ρ}{Z}{H}{O}{xs},Zd Z H->Slots R Z H ρ σ O->p ρ=some xs ->
 ∀{Q:It->Hp->Prop},(∀{J}{Z'}{H'},Go Z H [] Z' H' []->ItB R J Z' H' xs->Q J H')->wi σ H Q
def PIt.b(h:PIt R wi p):jm8 R wi p:=by
 intro σ ρ Z H O j z s e Q k;refine h z s e λg c=>k g ?_;intro l m d f zd i;exact c d (λa z=>f a<|g.wf.zd a z) zd i
def itB:D->Option (List D)
 | .lst _ l=>bif frzs l then some l else none
 | .tup l=>bif frzs l then some l else none
 | .str s=>some<|s.map λc=>.str [c]
 | _=>none
@[simp] def Jb(p:PF)(ρ:Rh):Option (List D):=(p ρ).bind itB
def jd4(b:∀ a,H a≠none->H' a=H a)(h:SqX K H a vs):SqX K H' a vs:=by
 rcases h with h | h
 ·refine .inl<|Rd.agree (b a ?_) h;rcases h with h | ⟨o,h⟩<;>rw[h]<;>exact λz=>(nomatch z)
 ·exact .inr h
def jfn(b:∀ a,H a≠none->H' a=H a)(h:SqT K H a vs):SqT K H' a vs:=by
 rcases h with h | h
 ·refine .inl<|Rd.agree (b a ?_) h;rcases h with h | ⟨o,h⟩<;>rw[h]<;>exact λz=>(nomatch z)
 ·exact .inr h
def jmC(h:PB R te p):jm8 R (jd1 R.K te) (Jb p):=by
 intro σ ρ Z H O P z s e Q k;refine ob e λc C e=>?_;cases c with
 | lst o l=>
  refine oc e λD e=>?_;cases e;refine h z s C λ{v I J L} f r1=>?_;obtain⟨a,vs,S,rfl,q,r⟩:=r1.lst_of;have E:=r.frozen D;refine .inl ⟨a,rfl,⟨vs,q.sq⟩,k f ?_⟩;intro B M y g zd i;have d:=SqX.sq<|jd4 g q;have j:=E.frame y (λb z=>g b<|f.wf.zd b z) λb F=>(nomatch F);refine⟨λhi=>⟨vs,d,by rw[r.length];exact hi⟩,λx m=>?_⟩;obtain⟨u,A,G⟩:=j.item m;refine⟨⟨vs,u,d,A⟩,λw N n=>?_⟩;obtain⟨rfl,n⟩:=n;have e2:=n vs d;rw[A] at e2;cases e2;exact⟨B,Go.id zd,G⟩
 | tup l=>
  refine oc e λD e=>?_;cases e;refine h z s C λ{v I J L} f r1=>?_;obtain⟨a,vs,rfl,q,r⟩:=r1.tup_of;refine .inr<|.inl ⟨a,rfl,⟨vs,q⟩,k f ?_⟩;intro B M y g zd i;have d:=jfn g q;have j:=(r.frozen D).frame y (λb z=>g b<|f.wf.zd b z) λb F=>(nomatch F);refine⟨λhi=>⟨vs,d,by rw[r.length];exact hi⟩,λx m=>?_⟩;obtain⟨u,A,G⟩:=j.item m;refine⟨⟨vs,u,d,A⟩,λw N n=>?_⟩;obtain⟨rfl,n⟩:=n;have e2:=n vs d;rw[A] at e2;cases e2;exact⟨B,Go.id zd,G⟩
 | str t=>
  cases e;refine h z s C λ{v I J L} f r1=>?_;obtain⟨rfl,_⟩:=r1.str_of;refine .inr<|.inr ⟨t,rfl,k f ?_⟩;intro B M y g zd i;exact jgz y (λb z=>g b<|f.wf.zd b z) zd i
 | _=>cases e
inductive CpI (R:RC) (g:D->Rh->Option Rh) (q:PTf) (p:PF) (Z0:Zn) (H0:Hp) (a:Addr) (xs all:List D) (i m:Nat) (σ2:L2.St) (H2:Hp):Prop
 | mk:m=xs.length-i->i<=xs.length->∀(ρ2:Rh) (Z2:Zn) (O2:W5) (ys:List D) (vs:List V) (Py:W5) (JR:List D),Go Z0 H0 [] Z2 H2 (a::Py)->H2 a=some (.lst vs)->Reps R Z2 H2 ys vs Py->(∀ b∈O2,b≠a)->Slots R Z2 H2 ρ2 σ2 O2->jL g q p (xs.drop i) ρ2=some JR->all=ys++JR->ys.length<=i->CpI R g q p Z0 H0 a xs all i m σ2 H2
def JD{tg}{tc}{te}{g}{q}{p}{ix}(hg:PGt R [] tg g)(hq:PTt R tc q)(he:PP R te p)
  {J:It}{h:Zn}{c:Hp}{ρ:Rh}{σ:L2.St}{O:W5}{xs all:List D}(x:Zd h c) (s:Slots R h c ρ σ O) (it:ItB R J h c xs) (hl:lim xs.length=true) (e2:jL g q p xs (jt ix ρ)=some all)
  {Q:VK}(k:∀{v}{Z'}{H'}{P},Go h c [] Z' H' P->Rep R Z' H' (.lst true all) v P->Q v H'):∀ a,c a=none->wL tc te tg J a (vm ix σ) (upd c a<|.lst []) λH2=>Q (.ref a) H2:=by
 intro a Y;obtain⟨Oi,Z⟩:=xl s ix;have gp:Go h c [] h (upd c a<|.lst []) [a]:=Go.newO (wf0 x) Y;refine⟨CpI R g q p h c a xs all,
  ⟨xs.length,rfl,U5 _,_,h,Oi,[],[],[],all,gp,jk,Reps.empty,λb d e=>Z.dom b d<|e▸Y,gp.slots x Z,e2,rfl,M8 _⟩,?_⟩
 rintro i m σ2 H2 ⟨rfl,M,ρ2,Z2,O2,ys,vs,n,JR,g2,N,G,S,s2,e3,H,o⟩;have A:=it g2.zz (g2.same) g2.wf.zd i;by_cases C:i<xs.length
 ·right
  have hx:xs[i]?=some xs[i]:=by simp
  obtain⟨go,yl⟩:=A.2 _ hx;refine⟨go,λu H3 hy=>?_⟩;obtain⟨Z3,g3,r3⟩:=yl u H3 hy;rw[yY hx] at e3;refine ob e3 λρ3 e5 e3=>(hg r3 (g3.slots g2.wf.zd s2) e5 λ{σ4 O4} sub nd I _=>(ob e3 λb e6 e3=>(hq g3.wf.zd I e6 λ{Z5 H5} E=>?_)));have j:=g3.pair E;cases b with
  | true=>
   refine jgv<|ob e3 λy e7 e3=>ob e3 λT e8 e3=>?_;cases e3;refine he E.wf.zd (E.slots g3.wf.zd I) e7 λ{K t l w} g6 r6=>?_;have r:Go Z2 H2 [] t l w:=by simpa using j.pair g6
   have U:l a=some (.lst vs):=by rw[r.same a ∅];exact N
   have V:vs.length<sizeLine:=by
    rw[G.length];exact VA<|X1<|N7 o<|N7 M<|X3 hl
   have L:Go h c [] t l (a::n++w):=by
    have f:=r.frame (B:=[]) ⇑g2.wf;exact g2.trans ⇑f
   have W:=L.wf;have gB:Go t l (a::n++w) t (upd l a<|.lst<|vs++[K]) (a::n++w):=Go.put W L7;have ne:∀ b,b∈n++w->upd l a (.lst<|vs++[K]) b=l b:=λb d=>jd λz=>(List.nodup_cons.mp W.nd).1 (z▸d);have F:∀ b,t b->upd l a (.lst<|vs++[K]) b=l b:=λb d=>jd λz=>W.nz a L7<|z▸d;refine⟨vs,U,V,xs.length-(i+1),by lia,rfl,C,ρ3,t,O4,ys++[y],vs++[K],n++w,T,L.trans gB,jk,?_,λb d=>S b<|sub b d,(((E.pair g6).slots g3.wf.zd I).frame (λb z=>z) F λb d=>jd<|S b<|sub b d),e8,by rw[H];simp,by rw[N4];exact Nat.add_le_add_right o 1⟩
   ·refine((r.reps g2.wf.zd G).append (.one r6)).frame (λb z=>z) F ne
  | false=>
   refine jgD ?_;have L:Go h c [] Z5 H5 (a::n):=by
    exact g2.trans (by simpa using(j.frame (B:=[]) ⇑g2.wf))
   exact⟨xs.length-(i+1),by lia,rfl,C,ρ3,Z5,O4,ys,vs,n,JR,L,by rw[j.same a ∅];exact N,j.reps g2.wf.zd G,λb d=>S b<|sub b d,E.slots g3.wf.zd I,e3,H,Nat.le_succ_of_le o⟩
 ·left
  have X:i=xs.length:=by lia
  refine⟨A.1 ∅,?_⟩;rw[X,List.drop_length] at e3;cases e3;rw[M9] at H;subst H;exact k g2 ⟨a,vs,n,rfl,G,N,rfl⟩
def xX{wi}{tg}{tc}{te}{pi}{g}{q}{p}{ix}(hi:jm8 R wi pi)(b:PGt R [] tg g)(c:PTt R tc q)(f:PP R te p):
  PP R (zu wi tg tc te ix) (ya pi g q p ix):=by
 intro σ ρ Z H O d z s e Q k;refine ob e λm h e=>oc e λi e=>ob e λall e2 e=>?_;cases e;exact hi z s h λ{J n o} a j=>(JD b c f a.wf.zd (a.slots z s) j i e2 λl r1=>k ⇑(a.pair l) r1)
end
section
variable {cl:Nat->Addr}{pm:List Nat}{X:Cx}{c e elt tg iter:Expr}{te:TE}{pe:PF}{ifs:List Expr}{wi:TI}{pi:PAf}{t:TG}{g:D->Rh->Option Rh}{pos:Pos}{ts:TS}{f:FS}
structure QIb(cl:Nat->Addr)(X:Cx)(tg e:Expr)(wi:TI)(p:PAf):Prop where
 sem:PI X tg e wi
 den:jm8 ⟨X.K,cl⟩ wi p
def QI.b'(h:QI cl X tg e wi pi):QIb cl X tg e wi pi:=⟨h.sem,PIt.b h.den⟩
def jbt(h:QB cl X e te pe):QIb cl X tg e (jd1 X.K te) (Jb pe):=⟨uo h.sem,jmC h.den⟩
def jhp{scope}{N'}{ix}{a}{c}(B:BlockOk X scope N' ix)(f:X.calm=true)(hi:QIb cl X tg iter wi pi)
  (d:∀ C s H fp,QG cl [] (jX X scope N' C s H fp) tg t g) (b:∀ C s H fp,QIf cl (jX X scope N' C s H fp) ifs a c) (e:∀ C s H fp,QP cl (jX X scope N' C s H fp) elt te pe)
  (h:∀ x,foldedSetIterable iter X.env x=pure x:=by intro _;rfl):QP cl X (.ListComp elt [⟨tg,iter,ifs,0⟩] scope pos) (zu wi t a te ix) (ya pi g c pe ix):=
 ⟨jc6 B f hi.sem (λC s H fp=>(d C s H fp).sem) (λC s H fp=>(b C s H fp).sem) (λC s H fp=>(e C s H fp).sem) h,
  xX hi.den (d 0 X.s₀ X.H₀ []).den (b 0 X.s₀ X.H₀ []).den (e 0 X.s₀ X.H₀ []).den⟩
def zp{i}{x}{pos' a}{scope}{N'}{ix}{b}{f}(B:BlockOk X scope N' ix)(k:X.calm=true)(hi:QIb cl X tg iter wi pi)
  (h:∀ C s H fp,QG cl [] (jX X scope N' C s H fp) tg t g) (c:∀ C s H fp,QIf cl (jX X scope N' C s H fp) ifs b f) (j:∀ C s H fp,QP cl (jX X scope N' C s H fp) elt te pe)
  (l:X.N.Nodup) (e:X.N[i]?=some x:=by rfl) (m:Loc X.env.scope x:=by first | exact Or.inl rfl | exact Or.inr rfl)
  (hsw:swapsWith (.ListComp elt [⟨tg,iter,ifs,0⟩] scope pos) (some<|.Name x pos') a.line X.env=pure true:=by with_unfolding_all rfl)
  (n:∀ x,foldedSetIterable iter X.env x=pure x:=by intro _;rfl)
  (o:X.fn x=true\/X.env.scope.names.lookup x=some .local:=by first | exact .inl rfl | exact .inr rfl):
  QS cl pm X (.Assign [.Name x pos'] (.ListComp elt [⟨tg,iter,ifs,0⟩] scope pos) a) (jd2 (zu wi t b te ix)<|km i) (jx (dP<|ya pi g f pe ix)<|jc pm i):=
 ⟨jar B k hi.sem (λC s H fp=>(h C s H fp).sem) (λC s H fp=>(c C s H fp).sem) (λC s H fp=>(j C s H fp).sem) l e m hsw n o,
  jb8 (PP.d<|xX hi.den (h 0 X.s₀ X.H₀ []).den (c 0 X.s₀ X.H₀ []).den (j 0 X.s₀ X.H₀ []).den) Ku⟩
end
@[simp] def pV0:pV 0 (o::ρ)=o:=by unfold pV;cases o<;>rfl
@[simp] def pVs:pV (i+1) (o::ρ)=pV i ρ:=rfl
@[simp] def gN_e:gN [] ρ=some ρ:=rfl
@[simp] def gC_e:gC G Gs (d::r) ρ=(G d ρ).bind λρ1=>Gs r ρ1:=rfl
@[simp] def gT_e:gT n Gs (.tup l) ρ=bif decide (l.length=n) then Gs l ρ else none:=rfl
@[simp] def itB_lst(o)(l):itB (.lst o l)=bif frzs l then some l else none:=rfl
@[simp] def itB_tup(l):itB (.tup l)=bif frzs l then some l else none:=rfl
@[simp] def itB_str(l):itB (.str l)=some (l.map λc=>D.str [c]):=rfl
@[simp] def enumOf_e(o)(l):jf2 [.lst o l]=some (jM 0<|fzs l):=rfl
def QC(h:-(2 ^ 62)<j)(k:j<2 ^ 62):VG j=true:=Nat.ble_eq_true_of_le ∅
def qE(h:-(2 ^ 62)<j)(k:j<2 ^ 62):jbJ [.int j]=some (Vt 0 j.toNat):=by
 show(bif VG j then some (Vt 0 j.toNat) else none)=_;rw[QC h k];rfl
def jH(n)(f)(ds):fnP n f ds=(f<|ds.map some++List.replicate (n-ds.length) none).bind Out.val:=rfl
@[simp] def sLoop_nil:jI G f [] ρ=some (.nx ρ):=rfl
def jK:jI G f (x::xs) ρ=(G x ρ).bind λr=>(f r).bind λo=>o.loop (jI G f xs):=rfl
@[simp] def cLoop_nil:jL G q p [] ρ=some []:=rfl
def vA:jL G q p (x::xs) ρ=(G x ρ).bind λr=>(q r).bind λb=>bif b then((p r).bind λy=>(jL G q p xs r).bind λys=>some<|y::ys) else jL G q p xs r:=rfl
def Vl(P:Nat->Rh->Prop)(step:∀ i x ρ,xs[i]?=some x->P i ρ->∃ ρ1 ρ2,G x ρ=some ρ1/\(f ρ1=some (.nx ρ2)\/f ρ1=some (.ct ρ2))/\P (i+1) ρ2)  (c:P 0 ρ):
  ∃ ρ',jI G f xs ρ=some (.nx ρ')/\P xs.length ρ':=by
 have key:∀ n i ρ,xs.length-i=n->i<=xs.length->P i ρ->∃ ρ',jI G f (xs.drop i) ρ=some (.nx ρ')/\P xs.length ρ':=by
  intro n
  induction n with
  | zero=>
   intro i ρ d hi p;have:i=xs.length:=by lia
   subst this;exact⟨ρ,by rw[List.drop_length];rfl,p⟩
  | succ n e=>
   intro i ρ d hi p;have a:i<xs.length:=by lia
   have b:xs[i]?=some xs[i]:=by simp[a]
   obtain⟨ρ1,ρ2,g,e2,p2⟩:=step i _ ρ b p;obtain⟨ρ',e3,p3⟩:=e (i+1) ρ2 ∅ a p2;refine⟨ρ',?_,p3⟩;rw[yY b,jK,g];rcases e2 with e2 | e2<;>simp[e2,e3]
 exact key _ 0 ρ rfl (U5 _) c
def jo{G}{xs}{l:List α}{en}{out}(a:xs=l.map en)(P:Rh->Prop)(step:∀ x∈l,∀ ρ,P ρ->∃ ρ1,G (en x) ρ=some ρ1/\p ρ1=some (out x)/\P ρ1){ρ}(b:P ρ):jL G qT p xs ρ=some (l.map out):=by
 subst a
 induction l generalizing ρ with
 | nil=>rfl
 | cons x l c=>
  obtain⟨ρ1,d,e2,p1⟩:=step x L7 ρ b;rw[L5,vA,d];simp[e2,c (λy e=>step y<|L6 _ e) p1]
@[simp] def cond_dec(p) [Decidable p] (x y:α):(bif decide p then x else y)=if p then x else y:=by by_cases h:p<;>simp[h]
@[simp] def cond_beq_int(i j:Int)(x y:α):(bif i==j then x else y)=if i=j then x else y:=by
 by_cases h:i=j
 ·subst h;simp
 ·rw[if_neg h,U2.mpr h];rfl
@[simp] def ite_bind(p) [Decidable p] (x y:Option α) (f:α->Option β):(if p then x else y).bind f=if p then x.bind f else y.bind f:=by by_cases h:p<;>simp[h]
@[simp] def add_ii(i j):jg (.int i) (.int j)=some (.int<|i+j):=rfl
@[simp] def sub_ii(i j):Vw (.int i) (.int j)=some (.int<|i-j):=rfl
def vt(h:i.natAbs<2 ^ 1000)(k:j.natAbs<2 ^ 1000):yj (.int i) (.int j)=some (.int<|i*j):=by
 show(bif jm2 i&&jm2 j then some (D.int<|i*j) else none)=_;rw[jdp h,jdp k];rfl
def JJ(h:0<j)(k:j<2 ^ 300):Vc (.int i) (.int j)=some (.int<|i/j):=by
 show(bif decide (0<j)&&decide (j<2 ^ 300) then some (D.int<|i/j) else none)=_;rw[X1 h,X1 k];rfl
def YC(h:0<j):JM (.int i) (.int j)=some (.int<|i%j):=by
 show(bif decide (0<j) then some (D.int<|i%j) else none)=_;rw[X1 h];rfl
@[simp] def opB_ii(g)(i j):opB g (.int i) (.int j)=some (.bl<|g i j):=rfl
@[simp] def eq_ii(i j):kZ (.int i) (.int j)=some (.bl<|i==j):=rfl
@[simp] def ne_ii(i j):Vq (.int i) (.int j)=some (.bl<|!(i==j)):=rfl
@[simp] def wR(g)(i j):f2I g [.int i,.int j]=some (.int<|g i j):=rfl
@[simp] def frz_int(i):frz (.int i)=true:=rfl
@[simp] def frz_bl(i):frz (.bl i)=true:=rfl
@[simp] def frz_str(i):frz (.str i)=true:=rfl
@[simp] def frz_non:frz .non=true:=rfl
@[simp] def fz_int(i):fz (.int i)=.int i:=rfl
@[simp] def fz_bl(i):fz (.bl i)=.bl i:=rfl
@[simp] def fz_str(i):fz (.str i)=.str i:=rfl
@[simp] def fz_non:fz .non=.non:=rfl
@[simp] def fz_lst(o)(l):fz (.lst o l)=.lst false (fzs l):=rfl
@[simp] def fz_tup(l):fz (.tup l)=.tup (fzs l):=rfl
@[simp] def jiT(o)(l):frz (.lst o l)=(!o&&frzs l):=rfl
@[simp] def frz_tup(l):frz (.tup l)=frzs l:=rfl
@[simp] def fzs_nil:fzs []=[]:=rfl
@[simp] def jec(d)(l):fzs (d::l)=fz d::fzs l:=rfl
@[simp] def frzs_nil:frzs []=true:=rfl
@[simp] def JC(d)(l):frzs (d::l)=(frz d&&frzs l):=rfl
@[simp] def clean_int(i):clean (.int i)=true:=rfl
@[simp] def clean_bl(i):clean (.bl i)=true:=rfl
@[simp] def clean_str(i):clean (.str i)=true:=rfl
@[simp] def clean_non:clean .non=true:=rfl
@[simp] def YF(o)(l):clean (.lst o l)=(o&&jZ l):=rfl
@[simp] def clean_tup(l):clean (.tup l)=jZ l:=rfl
@[simp] def cleans_nil:jZ []=true:=rfl
@[simp] def cleans_cons(d)(l):jZ (d::l)=(clean d&&jZ l):=rfl
@[simp] def fzs_ints(l:List Int):fzs (l.map D.int)=l.map D.int:=by
 rw[vG,U1];rfl
@[simp] def YI(l:List Int):frzs (l.map D.int)=true:=by
 rw[Yz,List.all_map,List.all_eq_true];intro x _;rfl
theorem yP:∀ l:List D,jZ l=l.all clean
 | []=>rfl
 | d::l=>by rw[jZ,yP l];rfl
@[simp] def cleans_ints(l:List Int):jZ (l.map D.int)=true:=by
 rw[yP,List.all_map,List.all_eq_true];intro x _;rfl
@[simp] def jaL(l):Qq (l.map D.int)=some l:=by
 induction l with
 | nil=>rfl
 | cons x l a=>show(Qq<|l.map D.int).bind _=_;rw[a];rfl
@[simp] def boolsD_bools(l):Jw (l.map D.bl)=some l:=by
 induction l with
 | nil=>rfl
 | cons x l a=>show(Jw<|l.map D.bl).bind _=_;rw[a];rfl
@[simp] def fSum_lst(o)(l):jdJ [.lst o l]=(Qq l).bind λns=>some (.int ns.sum):=rfl
@[simp] def fLen_lst(o)(l):k8 [.lst o l]=some (.int l.length):=rfl
@[simp] def fLen_tup(l):k8 [.tup l]=some (.int l.length):=rfl
@[simp] def fList_lst(o)(l):vX [.lst o l]=bif frzs l then some (.lst true l) else none:=rfl
@[simp] def xm(o)(l):KK (.lst o l)=some (fzs l):=rfl
@[simp] def itemsOf_tup(l):KK (.tup l)=some (fzs l):=rfl
@[simp] def tyD_int(i):tyD (.int i)=some "int":=rfl
@[simp] def tyD_bl(i):tyD (.bl i)=some "bool":=rfl
@[simp] def tyD_str(i):tyD (.str i)=some "str":=rfl
@[simp] def tyD_non:tyD .non=some "NoneType":=rfl
@[simp] def tyD_lst(o)(l):tyD (.lst o l)=some "list":=rfl
@[simp] def tyD_tup(l):tyD (.tup l)=some "tuple":=rfl
theorem K9:∀(l m:List Int),zh (l.map D.int) (m.map D.int)=decide (l=m)
 | [],[]=>rfl
 | [],_::_=>rfl
 | _::_,[]=>rfl
 | x::l,y::m=>by
  show((x==y)&&zh (l.map D.int) (m.map D.int))=_;rw[K9 l m];by_cases h:x=y<;>simp[h]
def ko(n)(l:List Int):yA n (l.map D.int)=true:=by
 rw[KB,List.all_map,List.all_eq_true];intro x _;cases n<;>rfl
def jjk(o o')(l m:List Int):kZ (.lst o<|l.map D.int) (.lst o'<|m.map D.int)=some (.bl<|decide<|l=m):=by
 show(bif okE 20 (.lst o<|l.map D.int)&&okE 20 (.lst o'<|m.map D.int) then some (D.bl<|zh (l.map D.int)<|m.map D.int) else none)=_;rw[K9];show(bif yA 19 (l.map D.int)&&yA 19 (m.map D.int) then _ else _)=_;rw[ko,ko];rfl
def jk3{c}{m}{ns:List Int}(h:m [.lst false<|ns.map D.int]=some (.bl true))(d:SqX K H a<|ns.map V.int):spP ⟨K,c⟩ m 1 [.ref a] H (λv _=>v=.bl true) E:=by
 refine⟨λb=>b=a/\H a≠none,[.lst false<|ns.map D.int],.bl true,λb e=>by rw[e.1];exact e.2,rfl,.one ?_,h,λg r=>r.bl_of.1⟩;have f:∀(l:List Int),Reps ⟨K,c⟩ (λb=>b=a/\H a≠none) H (l.map D.int) (l.map V.int) []:=by
  intro l
  induction l with
  | nil=>exact .empty
  | cons x l i=>exact .cons .int_mk i
 refine⟨a,ns.map V.int,[],rfl,f ns,⟨?_,rfl,rfl⟩⟩;rcases d with d | d
 ·refine .inl ⟨⟨rfl,?_⟩,d⟩;rcases d with d | ⟨o,d⟩<;>rw[d]<;>exact λz=>(nomatch z)
 ·exact .inr d
end QD
namespace L2
open PySem PySem.Spec PyProof.Rows
end L2
namespace QD
open PySem L2 PySem.Spec PyProof.Rows
noncomputable def Kw:List D->Option (List<|List Nat)
 | []=>some []
 | .str w::l=>match Kw l with
  | some ws=>some<|w::ws
  | none=>none
 | _::_=>none
@[simp] def uQ(l):Kw (l.map D.str)=some l:=by
 induction l with
 | nil=>rfl
 | cons x l a=>simp[Kw,a]
section
variable {R:RC}{Z:Zn}{H:Hp}
theorem wt:∀{l}{ws}{vs}{O},Kw l=some ws->Reps R Z H l vs O->vs=(ws.map S).map V.str
 | [],ws,vs,O,e,r=>by
  cases e;have:=r.length;exact List.length_eq_zero_iff.mp this
 | x::l,ws,vs,O,e,r=>by
  cases x with
  | str w=>
   simp only[Kw] at e;cases e1:Kw l with
   | none=>rw[e1] at e;cases e
   | some a=>
    rw[e1] at e;cases e;obtain⟨v,b,P,c,rfl,-,r1,r2⟩:=r;obtain⟨rfl,_⟩:=r1.str_of;rw[wt e1 r2];rfl
  | _=>cases e
end
@[simp] def isT_str(w):isT "str" (.str w)=true:=rfl
end QD
namespace QK
open PySem L2 QD PySem.Spec PyProof.Rows
section
variable {cl:Nat->Addr}{pm:List Nat}{X:Cx}{a b c e o:Expr}{es:List Expr}{ta tb tc te to:TE}{pa pb pc pe po:PF}{tr:TA}{pr:PAf}{pos:Pos}{K:W4}
variable {tg iter elt:Expr}{ifs:List Expr}{wi:TI}{pi:PAf}{t:TG}{g:D->Rh->Option Rh}
def add(c:X.K=K)(d:QB cl X a ta pa)(e:QB cl X b tb pb):QP cl X (.BinOp a .Add b pos) (tOp (jat K) ta tb) (p2 jg pa pb):=by subst c;exact jld d e
def ix(c:X.K=K)(d:QB cl X a ta pa)(e:QB cl X b tb pb)(f:Kt b:=by exact λ_ _=>rfl):QB cl X (.Subscript a b pos) (tOp (rIx K) ta tb) (p2 jf pa pb):=by subst c;exact jo3 d e f
def sl{lo hi}{tl th}{pl c}{b}(d:X.K=K)(e:QB cl X a ta pa)(f:QO cl X lo tl pl)(g:QO cl X hi th c):QP cl X (.Subscript a (.Slice lo hi none b) pos) (tSl (jjJ K) ta tl th) (pSl pa pl c):=by subst d;exact jo0 e f g
def call{k n}{ps}{m}{x}{st}{p}(c:X.K=K)(O:OkF X.prog X.w X.K X.mg x st k ps<|spP ⟨X.K,cl⟩ m n)(d:Room k X.A)
  (f:QBs cl X (e::es) tr pr) (g:(e::es).length=n:=by rfl) (h:Gl X x:=by rfl) (a:Nd x:=by decide)
  (i:SEq X e es:=by rfl) (b:BkE X pos es:=by rfl):QP cl X (.Call (.Name x p) (e::es) [] pos) (zY (spP ⟨K,cl⟩ m n) [] E0 tr) (jj m pr):=by
 subst c;exact jfW O d f g h a i b
theorem c_notin(a:X.K=K)(c:behindInMarks .NotIn b=false):CmpR cl X .NotIn b (jjI K true) (jaQ true):=by subst a;exact QD.c_notin c
theorem c_ne{k}(a:X.K=K)(c:Room k X.A):CmpR cl X .NotEq b (λx y H Q=>rNe x y H Q\/jh8 ⟨K,cl⟩ true x y H Q) Vq:=by subst a;exact QD.c_ne c
def list_of(a:X.K=K):vJ X (.type "list") (λxs H Q=>∃ p ys,xs=[.ref p]/\(SqL K H p ys\/SqT K H p ys)/\∀ l,H l=none->Q (.ref l) (upd H l<|.lst ys)):=by subst a;exact Yi
def tuple_of(a:X.K=K):vJ X (.type "tuple") (λxs H Q=>∃ p ys,xs=[.ref p]/\((SqL K H p ys/\∀ l,H l=none->Q (.ref l) (upd H l<|.tup ys))\/(SqT K H p ys/\Q (.ref p) H))):=by subst a;exact JH
def ib_any(a:X.K=K)(h:QB cl X e te pe):QIb cl X tg e (jd1 K te) (Jb pe):=by subst a;exact jbt h
def g_tup{ts}{b}{k n}(c:X.K=K)(d:X.calm=true)(h:QGs cl pm X es ts b)(e:(assignEach es X.env).length=n:=by rfl)(a:(assignEach es X.env).findIdx? (·.1)=none:=by rfl):QG cl pm X (.Tuple es k pos) (jgL K n ts) (gT n b):=by subst c;exact jgn d h e a
end
end QK
namespace QD
open PySem L2 PySem.Spec PyProof.Rows
@[simp] def wg(i:Nat)(p:PAf)(ρ:Rh):Option (D×Rh):=(pV i ρ).bind λd=>(p ρ).bind λds=>bif lim (ds.length+1) then some (.tup<|d::ds,ρ.set i none) else none
def jeV(t:PPs R ta p):DE R (ut<|jC (yg i) ta) (wg i p):=by
 intro σ ρ G Z H O d w h e Q k;refine ob e λc l e=>ob e λI u e=>oc e λx e=>?_;cases e;have l:=qu l;obtain⟨A,P,B,rfl,y,J,C⟩:=h.put (L9.mp l).1;obtain⟨v,D,r⟩:=y c l;refine⟨v,D,t w.zd h u λ{vs E o F} m r1=>⟨by rw[M1,r1.length];exact qk x,λq n=>?_⟩⟩;have s:=m.widen w;have f:=s.wf.nd;have g2:Go Z H (A++P++B) E o ((P++F)++(A++B)):=s.drop (λa q=>by simp at q ⊢;rcases q with q | q | q | q<;>simp[q]) (by
  simp only[U9,N2] at f ⊢;refine⟨⟨f.2.1.1.2.1,f.1,λa j b g e=>f.2.2 b g a (.inl<|.inr j) e.symm⟩,⟨f.2.1.1.1,f.2.1.2.1,λa j b g=>f.2.1.2.2 a (.inl j) b g⟩,λa j b g e=>?_⟩;rcases j with j | j
  ·rcases g with g | g
   ·exact f.2.1.1.2.2 b g a j e.symm
   ·exact f.2.1.2.2 a (.inr j) b g e
  ·rcases g with g | g
   ·exact f.2.2 a j b (.inl<|.inl g) e
   ·exact f.2.2 a j b (.inr g) e)
 have ne:∀ a,o a≠none->a≠q:=λa h e=>h<|e▸n;have s1:=m.slots w.zd C;refine k (g2.trans<|Go.newF g2.wf n) (Rep.tupNew g2.wf.left n<|Reps.cons (m.rep w.zd r) r1)<|s1.frame (λa z=>.inl z) (λa z=>jd<|ne a<|g2.wf.zd a z) λa j=>jd<|ne a<|s1.dom a j
def jhF{a}(i)  (b:QB cl X (.Name x xpos) (yg i)<|pV i) (h:QPs cl X es tr pr) (c:starEach (.Name x xpos::es) X.env=(false,eval (.Name x xpos) X.env)::starEach es X.env:=by rfl):
  QE cl X (.Tuple (.Name x xpos::es) a pos) (ut<|jC (yg i) tr) (wg i pr):=⟨JA<|jy b.sem h.sem c,jeV h.den⟩
structure QGo(cl:Nat->Addr)(pm:List Nat)(X:Cx)(tg:Expr)(t:TG)(g:D->Rh->Option Rh):Prop where
 sem:PG X tg t
 den:DG ⟨X.K,cl⟩ pm t g
def jdA(a:X.N.Nodup)(hi:X.N[i]?=some x:=by rfl)(b:Loc X.env.scope x:=by first | exact Or.inl rfl | exact Or.inr rfl)(c:X.fn x=true\/X.env.scope.names.lookup x=some .local:=by first | exact .inl rfl | exact .inr rfl):
  QGo cl pm X (.Name x pos) (km i) (jc pm i):=⟨jdq a hi b c,Ku⟩
section
variable {R:RC}{Z Z':Zn}{H H':Hp}{pm:List Nat}
noncomputable def qd:D->Option KA
 | .int i=>some<|.int i
 | .str s=>some<|.str s
 | _=>none
def vB(e:qd d=some k)(r:Rep R Z H d v O):v=kV (kaV k)/\O=[]:=by
 cases d with
 | int i=>cases e;rw[Rep] at r;exact r
 | str s=>cases e;rw[Rep] at r;exact r
 | _=>cases e
def K1(h:kaV a=kaV b):a=b:=by
 cases a<;>cases b<;>simp only[kaV] at h
 ·cases h;rfl
 ·cases h
 ·cases h
 ·have:=jg4<|Sum.inr.inj h;rw[this]
noncomputable def K3:List KA->List D->KA->Option D
 | k::ks,d::l,a=>if k=a then some d else K3 ks l a
 | _,_,_=>none
theorem JP:∀{ks}{l}{vs}{O}{a},Reps R Z H l vs O->ks.length=l.length ->
  (∀ d,K3 ks l a=some d->∃ v P,Vr ((ks.map kaV).zip vs) (kaV a)=some v/\Rep R Z H d v P)/\(K3 ks l a=none->Vr ((ks.map kaV).zip vs) (kaV a)=none)
 | [],l,vs,O,a,r,c=>⟨λd e=>(by cases l<;>cases e),λ_=>rfl⟩
 | k::ks,[],vs,O,a,r,c=>by simp at c
 | k::ks,x::l,vs,O,a,r,c=>by
  obtain⟨v,b,f,i,rfl,rfl,r1,r2⟩:=r;by_cases e:k=a
  ·subst e;refine⟨λd h=>?_,λh=>?_⟩
   ·simp only[K3,if_true] at h;cases h;exact⟨v,f,Ju rfl,r1⟩
   ·simp[K3] at h
  ·have g:=λz=>e<|K1 z;have q:Vr (((k::ks).map kaV).zip (v::b)) (kaV a)=Vr ((ks.map kaV).zip b) (kaV a):=JL g;rw[q];simp only[K3,if_neg e];exact(JP (a:=a) r2 ⇑c)
def DkA.rd(h:DkA o H a kvs):Rd H a (.dK kvs):=by
 cases o with
 | true=>exact .inl h
 | false=>exact h
def DGet.r(e:Rd H a<|.dK kvs):DGet H a (kV k) (Vr kvs k):=.inl ⟨kvs,k,e,rfl,rfl⟩
def Rep.dK_of(r:Rep R Z H (.dK o ks l) v O):Ex3 λa vs O'=>An4 (v=.ref a) (Rd H a<|.dK<|(ks.map kaV).zip vs) (Reps R Z H l vs O') (ks.length=l.length):=by
 obtain⟨a,vs,O',rfl,b,c,d,_⟩:=r;exact⟨a,vs,O',rfl,d.rd,b,c⟩
def jhq:PP R jb7 (pC<|.dK true [] []):=by
 intro σ ρ Z H O d z s e Q k;cases e;intro p a;exact k (Go.newO (wf0 z) a) ⟨p,[],[],rfl,.empty,rfl,jk,rfl⟩
def yB:D->D->Option D
 | .dK _ ks l,y=>(qd y).bind λk=>K3 ks l k
 | _,_=>none
def jjl(c:PB R td pa)(f:PB R ty pb):PB R (jhP td ty) (p2 yB pa pb):=by
 intro σ ρ Z H O d z s e Q k;refine ob e λx g e=>ob e λy e2 e=>(c z s g λ{v n q t} b r1=>(f b.wf.zd (b.slots z s) e2 λ{u A B C} g2 r2=>?_));cases x with
 | dK o D l=>
  refine ob e λa e3 e=>?_;obtain⟨p,vs,E,rfl,h,i,j⟩:=(g2.rep b.wf.zd r1).dK_of;obtain⟨rfl,_⟩:=vB e3 r2;obtain⟨w,P,m,rw⟩:=(JP i j).1 d e;exact⟨p,w,rfl,m▸DGet.r h,k (b.pair g2) rw⟩
 | _=>cases e
@[simp] def p3(g:D->D->D->Option D)(pa:PF)(pb:PF)(pc:PF)(ρ:Rh):Option D:=(pa ρ).bind λx=>(pb ρ).bind λy=>(pc ρ).bind λz=>g x y z
def uH(neg:Bool)(y x:D):Option D:=match x with
 | .dK _ ks l=>(qd y).bind λk=>some<|.bl<|neg != (K3 ks l k).isSome
 | _=>none
def jem{f ty}{pa pb}{b}(j:PB R ty pa)(m:PB R f pb){σ}{ρ}{Z}{H}{O}{d}(z:Zd Z H)(s:Slots R Z H ρ σ O)(e:p2 (uH b) pa pb ρ=some d)
  {Q:VK}(k:∀{v}{Z'}{H'}{P},Go Z H [] Z' H' P->Rep R Z' H' d v P->Q v H'):ty σ H λy H1=>f σ H1 λx H2=>∃ a o,x=.ref a/\DGet H2 a y o/\Q (.bl<|b != o.isSome) H2:=by
 refine ob e λy n e=>ob e λx e2 e=>(j z s n λ{v B H1 C} c r1=>(m c.wf.zd (c.slots z s) e2 λ{u D H2 E} g2 r2=>?_));cases x with
 | dK o q l=>
  refine ob e λa e3 e=>?_;cases e;obtain⟨p,vs,F,rfl,g,h,i⟩:=r2.dK_of;obtain⟨rfl,_⟩:=vB e3 r1;cases ev:K3 q l a with
  | none=>
   refine⟨p,none,rfl,(JP h i).2 ev▸DGet.r g,k (c.pair g2) ?_⟩;rw[ev];exact .bl_mk
  | some d=>
   obtain⟨w,P,t,A⟩:=(JP h i).1 d ev;refine⟨p,some w,rfl,t▸DGet.r g,k (c.pair g2) ?_⟩;rw[ev];exact .bl_mk
 | _=>cases e
def jbx{a ty}{pa pb}(b:PB R ty pa)(c:PB R a pb):PP R (Ke ty a) (p2 (uH true) pa pb):=λz s e _ k=>by
 have:=jem b c z s e k;simpa [Ke] using this
noncomputable def jbV:List KA->List D->KA->D->List D
 | k::ks,x::l,a,d=>(if k=a then d else x)::jbV ks l a d
 | _,_,_,_=>[]
theorem wx:∀{ks}{l} a d,ks.length=l.length->(jbV ks l a d).length=l.length
 | [],[],_,_,_=>rfl
 | [],_::_,_,_,h=>by simp at h
 | _::_,[],_,_,h=>by simp at h
 | k::ks,x::l,a,d,h=>by rw[jbV,M1,M1,wx a d ⇑h]
theorem um(rd:Rep R Z H d v [])(a):∀{ks}{l}{vs}{O},Reps R Z H l vs O->ks.length=l.length ->
  Ex2 λvs2 O2=>An3 (Reps R Z H (jbV ks l a d) vs2 O2) ((ks.map kaV).zip vs2=((ks.map kaV).zip vs).map (λkv=>if kv.1=kaV a then(kv.1,v) else kv))<|O2.Sublist O
 | [],[],vs,O,r,b=>by
  obtain⟨rfl,rfl⟩:=r;exact⟨[],[],.empty,rfl,.slnil⟩
 | [],_::_,_,_,_,h=>by simp at h
 | _::_,[],_,_,_,h=>by simp at h
 | k::ks,x::l,vs,O,r,b=>by
  obtain⟨w,i,j,O2,rfl,rfl,r1,r2⟩:=r;obtain⟨c,f,g,e3,sl⟩:=um rd a r2 ⇑b;by_cases e:k=a
  ·subst e;refine⟨v::c,[]++f,?_,?_,(sl.trans<|List.sublist_append_right _ _)⟩
   ·rw[jbV,if_pos rfl];exact Reps.cons rd g
   ·simp only[L5,U7,if_true,e3]
  ·have m:=λz=>e<|K1 z;refine⟨w::c,j++f,?_,?_,(List.Sublist.append (List.Sublist.refl _) sl)⟩
   ·rw[jbV,if_neg e];exact Reps.cons r1 g
   ·simp only[L5,U7,if_neg m,e3]
theorem zU(a):∀{ks:List KA}{vs:List V},ks.length=vs.length->(((ks.map kaV).zip vs).any λkv=>decide<|kv.1=kaV a)=decide (a∈ks)
 | [],vs,_=>by simp
 | k::ks,[],h=>by simp at h
 | k::ks,v::vs,h=>by
  rw[L5,U7,List.any_cons,zU a ⇑h];by_cases e:k=a
  ·subst e;simp
  ·have b:¬ (kaV k=kaV a):=λz=>e<|K1 z;have e2:¬ (a=k):=λz=>e z.symm;simp[b,e2]
def qc(ks:List KA)(l:List D)(a:KA)(d:D):List KA×List D:=if a∈ks then(ks,jbV ks l a d) else(ks++[a],l++[d])
def Kk(rd:Rep R Z H d v [])(a)  (r:Reps R Z H l vs O) (b:ks.length=l.length):
  Ex2 λvs2 O2=>An4 (Reps R Z H (qc ks l a d).2 vs2 O2) ((((qc ks l a d).1).map kaV).zip vs2=Jl ((ks.map kaV).zip vs) (kaV a) v) (O2.Sublist O) ((qc ks l a d).1.length=(qc ks l a d).2.length):=by
 have c:ks.length=vs.length:=by rw[r.length];exact b
 unfold qc Jl;rw[zU a c];by_cases e:a∈ks
 ·rw[if_pos e,X1 e,if_pos rfl];obtain⟨f,P,r2,e2,sl⟩:=um rd a r b;exact⟨f,P,r2,e2,sl,by rw[wx a d b];exact b⟩
 ·rw[if_neg e,X2 e,if_neg<|λz=>(nomatch z)];refine⟨vs++[v],O++[],r.append<|Reps.one rd,?_,by simp,by simp[b]⟩;rw[N5,List.zip_append ⇑c];rfl
@[simp] def sDSet(i:Nat)(pk:PF)(pv:PF)(ρ:Rh):Option Out:=(pv ρ).bind λd=>(pV i ρ).bind λx=>(jfZ x).bind λp=>(pk ρ).bind λy=>(qd y).bind λa=>bif frz d&&lim p.1.length then some (.nx<|ρ.set i<|some<|.dK true (qc p.1 p.2 a d).1 (qc p.1 p.2 a d).2) else none
def KZ{ks:List α}{vs:List V}{f:α->β}(h:lim ks.length=true):((ks.map f).zip vs).length<sizeLine:=by rw[List.length_zip,L1];exact X9 (Nat.min_le_left _ _)<|VA h
end
def jl0:QP cl X (.Dict [] [] pos) jb7 (pC<|.dK true [] []):=⟨je6,jhq⟩
def jl7(e:Room k X.A)(c:QB cl X a ta pa)(d:QB cl X b tb pb)(f:jnp b:=by exact λ_ _=>rfl):QB cl X (.Subscript a b pos) (jhP ta tb) (p2 yB pa pb):=⟨jiv (KQ e) c.sem d.sem f,jjl c.den d.den⟩
@[simp] def keyOf_int(i):qd (.int i)=some (.int i):=rfl
@[simp] def keyOf_str(s):qd (.str s)=some (.str s):=rfl
@[simp] def opDIx_e(o)(ks)(l)(y):yB (.dK o ks l) y=(qd y).bind λk=>K3 ks l k:=rfl
@[simp] def opDIn_e(a o)(ks)(l)(y):uH a y (.dK o ks l)=(qd y).bind λk=>some (.bl<|a != (K3 ks l k).isSome):=rfl
def jiH{P}{w}{K}{cl}{mg}{base}{k n}{f}{fd}{ps}:FnOk P w K mg base CX0 k f fd ps (spP ⟨K,cl⟩ (λ_=>none) n):=
 ⟨λvs H Q E ⟨_,_,_,_,_,_,h,_⟩=>(nomatch h),λA outer s H a b vs Q E _ _ _ _ ⟨_,_,_,_,_,_,h,_⟩=>(nomatch h)⟩
def Y8:List D->Option (List<|KA×D)
 | []=>some []
 | .tup [k,v]::l=>(qd k).bind λa=>(Y8 l).bind λr=>some<|(a,v)::r
 | _::_=>none
def z5(ps:List<|KA×D):List KA×List D:=ps.foldl (λacc kv=>qc acc.1 acc.2 kv.1 kv.2) ([],[])
def vh:List D->Option D
 | [.lst _ l]=>(Y8 l).bind λps=>bif frzs (ps.map (·.2))&&lim ps.length then some (.dK true (z5 ps).1 (z5 ps).2) else none
 | _=>none
def jaE:∀{l}{ps}{ys}{O},Y8 l=some ps->Reps R Z H l ys O->frzs (ps.map (·.2))=true ->
  ∃(ws:List V),An3 (Reps R Z H (ps.map (·.2)) ws []) (ys.length=ps.length) (∀(j:Nat) y,ys[j]?=some y->∃ kv t,((ps.map λp=>kaV p.1).zip ws)[j]?=some kv/\y=.ref t/\SqT R.K H t [kV kv.1,kv.2]):=by
 intro l
 induction l with
 | nil=>
  intro ps ys O e r b;cases e;obtain⟨rfl,rfl⟩:=r;exact⟨[],.empty,rfl,λj y c=>by simp at c⟩
 | cons d l h=>
  intro ps ys O e r b
  match d,e with
  | .tup [k,v],e=>
   refine ob e λa i e=>ob e λm e2 e=>?_;cases e;obtain⟨B,n,C,D,rfl,rfl,r1,r2⟩:=r;rw[L5,JC,M0] at b;obtain⟨ws,f,o,q⟩:=h e2 r2 b.2;obtain⟨t,vs,rfl,s,x⟩:=r1;obtain⟨u,w,E,F,rfl,-,z,g⟩:=x.two_of;obtain⟨rfl,_⟩:=vB i z;have A:=g.nil b.1;subst A;refine⟨w::ws,Reps.cons g f,by simp[o],λj y c=>?_⟩;cases j with
   | zero=>
    cases c;exact⟨(kaV a,w),t,rfl,rfl,s.sq⟩
   | succ j=>exact q j y ⇑c
def jdz:∀{ps:List (KA×D)}{ws}{ks}{l}{us},Reps R Z H (ps.map (·.2)) ws []->Reps R Z H l us []->ks.length=l.length ->
  ∃ us',An3 (Reps R Z H (ps.foldl (λacc kv=>qc acc.1 acc.2 kv.1 kv.2) (ks,l)).2 us' []) ((((ps.foldl (λacc kv=>qc acc.1 acc.2 kv.1 kv.2) (ks,l)).1).map kaV).zip us'=(((ps.map λp=>kaV p.1).zip ws).foldl (λa kv=>Jl a kv.1 kv.2) ((ks.map kaV).zip us))) ((ps.foldl (λacc kv=>qc acc.1 acc.2 kv.1 kv.2) (ks,l)).1.length=(ps.foldl (λacc kv=>qc acc.1 acc.2 kv.1 kv.2) (ks,l)).2.length):=by
 intro ps
 induction ps with
 | nil=>
  intro ws ks l us b r c;exact⟨us,r,by simp,c⟩
 | cons p ps g=>
  intro ws ks l us b r c;obtain⟨w,h,n,o,rfl,e,r1,r2⟩:=b;obtain⟨rfl,rfl⟩:=List.append_eq_nil_iff.mp e.symm;obtain⟨i,q,j,e3,sl,d⟩:=Kk r1 p.1 r c;have:=List.sublist_nil.mp sl;subst this;obtain⟨us',k,m,f⟩:=g r2 j d;refine⟨us',k,?_,f⟩;rw[L5,U7,X0,X0,m,e3]
def jhZ:BC R (λxs H Q=>∃(p:Addr) (ys:List V) (ps:List<|Key×V),xs=[.ref p]/\SqL R.K H p ys/\ys.length=ps.length/\ps.length<=100000 /\
  (∀(j:Nat) y,ys[j]?=some y->∃ kv t,ps[j]?=some kv/\y=.ref t/\SqT R.K H t [kV kv.1,kv.2])/\∀ D,H D=none->Q (.ref D) (upd H D<|.dK<|ps.foldl (λa kv=>Jl a kv.1 kv.2) [])) vh:=by
 intro Z H xs d vs O z r e Q k
 match xs,e,r with
 | [.lst o l],e,r=>
  refine ob e λps n e=>oc e λf e=>?_;cases e;rw[M0] at f;obtain⟨v,rfl,r1⟩:=r.one_of;obtain⟨p,ys,C,rfl,s,u⟩:=r1.lst_of;obtain⟨ws,b,w,q⟩:=jaE n u f.1;obtain⟨g,A,B,i⟩:=jdz (ks:=[]) b .empty rfl;have c:ws.length=ps.length:=by rw[b.length];simp
  refine⟨p,ys,(ps.map λp=>kaV p.1).zip ws,rfl,s.sq,by simp[w,c],by simp[c];exact X3 f.2,q,λD m=>?_⟩;refine k (Go.newO (wf0 z) m) ?_;have ne:∀ a,H a≠none->a≠D:=λa h e=>h<|e▸m;exact⟨D,g,[],rfl,A.frame (λa z=>z) (λa h=>jd<|ne a<|z a h)<|λa h=>(nomatch h),i,by show upd H D _ D=some _;rw[jk];exact congrArg (λx=>some<|HO.dK x) B.symm,rfl⟩
@[simp] def fDict_e(o)(l):vh [.lst o l]=(Y8 l).bind λps=>bif frzs (ps.map (·.2))&&lim ps.length then some (.dK true (z5 ps).1 (z5 ps).2) else none:=rfl
end QD
namespace QK
open PySem L2 QD PySem.Spec PyProof.Rows
end QK
namespace QD
open PySem L2 PySem.Spec PyProof.Rows
theorem Reps.rev:∀{l}{vs},Reps R Z H l vs []->Reps R Z H l.reverse vs.reverse []
 | [],vs,r=>by
  obtain⟨rfl,_⟩:=r;exact .empty
 | d::l,vs,r=>by
  obtain⟨v,a,b,c,rfl,e,r1,r2⟩:=r;obtain⟨rfl,rfl⟩:=List.append_eq_nil_iff.mp e.symm;rw[List.reverse_cons,List.reverse_cons];exact(Reps.rev r2).append (.one r1)
@[simp] def joa(i:Nat)(ρ:Rh):Option Out:=(pV i ρ).bind λx=>(Ym x).bind λl=>bif frzs l then some (.nx<|ρ.set i<|some<|.lst true l.reverse) else none
def jlV:DS R pm (v8<|jjN R.K "list" KG<|yg i) (joa i):=by
 intro σ ρ Z H O o w s e j k;refine ob e λx d e=>ob e λl f e=>oc e λg e=>?_;cases e;cases vv f;unfold v8 jjN;refine kW (P0:=[]) qX w s d rfl ow_lst λa _ vs m b _ c h put=>h ⟨.inl ⟨rfl,vs,SqL.of c⟩,?_⟩;cases b.nil g;obtain⟨n,g2,s2⟩:=put ow_lst trivial (Go.id w.zd) b.rev λq=>by simp
 exact⟨a,vs,rfl,rfl,c,k g2 s2<|Keep.refl _ _⟩
def jlJ(c:QB cl X (.Name x xpos) (yg i)<|pV i)
  (a:attributeBase (.Name x xpos) "reverse" X.env (eval (.Name x xpos) X.env)=eval (.Name x xpos) X.env:=by rfl) (b:(apos.endLine==cpos.line)=true:=by rfl)
  (hsw:swapsWith (.Call (.Attribute (.Name x xpos) "reverse" apos) [] [] cpos) none pos.line X.env=pure false:=by rfl):
  QS cl pm X (.Expr (.Call (.Attribute (.Name x xpos) "reverse" apos) [] [] cpos) pos) (v8<|jjN X.K "list" KG<|yg i) (joa i):=
 ⟨Jk (jgd PySem.F.plainAttrs_list PySem.F.slot_list_reverse PySem.F.type_list_reverse jax c.sem a b) hsw,jlV⟩
end QD
namespace L2
open PySem PySem.Spec PyProof.Rows
def Qz:vJ X (.builtin "isinstance") (λxs H Q=>∃ x p T1 T2 t b,xs=[x,.ref p]/\SqT X.K H p [.ty T1,.ty T2]/\TyQ X.K H x t/\PySem.W.kitAny X.K (.type t) [.type T1,.type T2]=some b/\Q (.bl b) H):=by
 intro f s σ H xs G Q I r h;obtain⟨x,p,T1,T2,t,b,rfl,sq,ty,e,q⟩:=h;obtain⟨u,v,rfl,r1,r2⟩:=r.two;cases(r2);obtain⟨g,m,⟨o,d,w,n,A⟩,_⟩:=I.tuple sq;obtain⟨w1,w2,rfl,B,C⟩:=m.two;cases B;cases C;obtain⟨oc,od,D,E⟩:=o;cases w;cases A;have c:∀ l,EP X f σ Q (.bool b) {s with toks:=l}:=λl=>⟨.bl b,H,I.tok l,rfl,q⟩;cases ty with
 | non=>cases(r1);exact PySem.W.kia_tup PySem.W.kitx_none I.kIn True.intro d e (λz=>nomatch z) c
 | bl y=>cases(r1);exact PySem.W.kia_tup PySem.W.kitx_bool I.kIn True.intro d e (λz=>nomatch z) c
 | int i=>obtain⟨t,q⟩:=(r1);cases q;exact PySem.W.kia_tup PySem.W.kitx_int I.kIn True.intro d e (λz=>nomatch z) c
 | str y=>obtain⟨t,q⟩:=(r1);cases q;exact PySem.W.kia_tup PySem.W.kitx_str I.kIn True.intro d e (λz=>nomatch z) c
 | @lst a xs j=>
  cases(r1);obtain⟨g,_,⟨o,n,k,g2,_,_⟩,_⟩:=I.list j;exact PySem.W.kia_tup PySem.W.kitx_list I.kIn ⟨o,k,g2⟩ d e (λz=>nomatch z) c
 | @tup a xs j=>
  cases(r1);obtain⟨g,_,⟨o,k,g2,_⟩,_⟩:=I.tuple j;exact PySem.W.kia_tup PySem.W.kitx_tuple I.kIn ⟨o,k,g2⟩ d e (λz=>nomatch z) c
 | @dK a F j=>
  cases(r1);obtain⟨_,_,vs,_,p⟩:=(I.hok a _ j);obtain⟨o,J,L,k,g2,_⟩:=p;exact PySem.W.kia_tup PySem.W.kitx_dict I.kIn ⟨o,k,g2.1⟩ d e (λz=>nomatch z) c
end L2
namespace QD
open PySem L2 PySem.Spec PyProof.Rows
def jaG(T1 T2:String)(p:PF):PF:=λρ=>match p ρ with
 | none=>none
 | some d=>match tyD d with
  | none=>none
  | some t=>some<|.bl<|JN t T1||JN t T2
def jg5(K)  (a:t∈["NoneType","bool","int","str","tuple","list","dict"]) (h1:T1∈["bool","int","str","tuple","list","dict"]) (h2:T2∈["bool","int","str","tuple","list","dict"]):
  PySem.W.kitAny K (.type t) [.type T1,.type T2]=some (JN t T1||JN t T2):=by
 unfold PySem.W.kitAny;rw[xA K a h1];cases JN t T1 with
 | true=>rfl
 | false=>
  unfold PySem.W.kitAny;rw[xA K a h2];cases JN t T2<;>rfl
abbrev jpc(K:W4):List V->Hp->VK->Prop:=λxs H Q=>∃ x p T1 T2 t b,xs=[x,.ref p]/\SqT K H p [.ty T1,.ty T2]/\TyQ K H x t/\PySem.W.kitAny K (.type t) [.type T1,.type T2]=some b/\Q (.bl b) H
abbrev jpe(T1 T2:String):TE:=ut<|jC (tC<|.ty T1)<|jC (tC<|.ty T2) JO
def jjE(b:T1∈["bool","int","str","tuple","list","dict"])(c:T2∈["bool","int","str","tuple","list","dict"])  (h:PB R te p):
  PP R (tCB (jpc R.K)<|jC te<|jC (jpe T1 T2) JO) (jaG T1 T2 p):=by
 intro σ ρ Z H O d z s e Q k;unfold jaG at e;cases e1:p ρ with
 | none=>rw[e1] at e;cases e
 | some x=>
  rw[e1] at e;dsimp only at e;cases e2:tyD x with
  | none=>rw[e2] at e;cases e
  | some t=>
   rw[e2] at e;cases e;refine h z s e1 λ{v j m n} a r1=>⟨show 2<=sizeLine by decide,λl f=>?_⟩;obtain⟨g,i⟩:=(Go.rep a.wf.zd (Go.newF (o:=.tup [.ty T1,.ty T2]) (wf0 a.wf.zd) f) r1).ty e2;exact⟨v,l,T1,T2,t,_,rfl,.inl<|.inl<|by simp[upd],g,jg5 _ i b c,k (a.trans<|Go.newF a.wf f) .bl_mk⟩
def jms{X}{cl}{a}{ta}{pa}{pos}{f g}{c b}{p p1 p2 p3}{n}(h:f∈["bool","int","str","tuple","list","dict"])(i:g∈["bool","int","str","tuple","list","dict"])(w:X.mg "isinstance" = none)
  (j:X.mg c=none) (k:bootBuiltins c=some (.type f)) (l:X.mg b=none) (m:bootBuiltins b=some (.type g)) (u:QB cl X a ta pa)
  (x:Gl X "isinstance":=by rfl) (o:Gl X c:=by rfl) (q:Gl X b:=by rfl)
  (r:c≠"__name__":=by decide) (d:Nd c:=by decide) (s:b≠"__name__":=by decide) (e:Nd b:=by decide)
  (v:starEach [a,.Tuple [.Name c p1,.Name b p2] n p3] X.env=(false,eval a X.env)::starEach [.Tuple [.Name c p1,.Name b p2] n p3] X.env:=by rfl)
  (t:(backTo pos<|starEach [.Tuple [.Name c p1,.Name b p2] n p3] X.env).any (·.1)=false:=by rfl)
  (y:starEach [.Tuple [.Name c p1,.Name b p2] n p3] X.env=(false,eval (.Tuple [.Name c p1,.Name b p2] n p3) X.env)::starEach [] X.env:=by rfl)
  (h1:starEach [.Name c p1,.Name b p2] X.env=(false,eval (.Name c p1) X.env)::starEach [.Name b p2] X.env:=by rfl)
  (h2:starEach [.Name b p2] X.env=(false,eval (.Name b p2) X.env)::starEach [] X.env:=by rfl):
  QP cl X (.Call (.Name "isinstance" p) [a,.Tuple [.Name c p1,.Name b p2] n p3] [] pos) (tCB (jpc X.K)<|jC ta<|jC (jpe f g) JO) (jaG f g pa):=
 ⟨Yw Qz x w kY (jy u.sem (jy (JA<|jy (xH o j k rfl r d) (jy (xH q l m rfl s e) vF h2) h1) vF y) v) (by decide) (by decide) v t,jjE h i u.den⟩
@[simp] def pIsI2_e:jaG T1 T2 pa ρ=(pa ρ).bind λd=>(tyD d).bind λt=>some (.bl<|JN t T1||JN t T2):=by
 unfold jaG;cases pa ρ with
 | none=>rfl
 | some d=>dsimp only[Option.bind];cases tyD d<;>rfl
def Go.dropS(g:Go Z H O Z' H' O')(h:O''.Sublist O'):Go Z H O Z' H' O'':=g.drop (λa b=>h.subset b)<|g.wf.nd.sublist h
def jga(h:ixN l.length j=some i)(k:l[i]?=some x):L2.atI l j=some x:=by
 unfold L2.atI;rw[h];exact k
noncomputable def jjW(fe:FE)(n:Nat):FE:=λρ=>match fe ρ with
 | some (.tup l,ρ1)=>bif decide (n<l.length) then some (.tup<|l.take n,ρ1) else none
 | _=>none
def jj7{n:Nat}(h:DE R te fe):DE R (tSl (jjJ R.K) te YV<|jbe<|tC<|.int (n:Int)) (jjW fe n):=by
 intro σ ρ D Z H O d w s e Q k;unfold jjW at e;split at e
 ·rename_i l E t;refine oc e λF e=>?_;cases e;refine h w s t λ{v u i P j} g r s1=>?_;obtain⟨a,vs,rfl,x,m⟩:=r;refine⟨n,rfl,.inr<|.inr ⟨a,vs,rfl,x.sq,?_,λp c=>?_⟩⟩
  ·rintro⟨_,q⟩;rw[HT.sIx_nat,m.length] at q
   lia
  ·rw[jhS,jcW];have f:Reps R u i (l.take n++l.drop n) vs P:=by rw[List.take_append_drop];exact m
   obtain⟨y,G,o,A,rfl,rfl,r1,r2⟩:=f.split;have l1:y.length=n:=by rw[r1.length,X7];lia
   rw[List.take_left' l1];have B:(o++j).Sublist ((o++A)++j):=List.Sublist.append (List.sublist_append_left _ _)<|List.Sublist.refl _;have g2:=g.dropS B;have ne:∀ b,i b≠none->b≠p:=λb h e=>h<|e▸c;exact k (g2.trans<|Go.newF g2.wf c) (Rep.tupNew g2.wf.left c r1)<|s1.frame (λb z=>.inl z) (λb z=>jd<|ne b<|g2.wf.zd b z) λb C=>jd<|ne b<|s1.dom b C
 ·cases e
def Go.frz1(w:WF Z H<|a::O):Go Z H (a::O) (λb=>Z b\/b=a) H O:=by
 have nd:=List.nodup_cons.mp w.nd;refine⟨⟨nd.2,λb c z=>?_,λb c=>w.od b<|L6 _ c,λb z=>?_⟩,λb z=>.inl z,λ_ _ _=>rfl,λb z=>?_,λb c=>.inl<|L6 _ c,λ_ h=>h⟩
 ·rcases z with z | rfl
  ·exact w.nz b (L6 _ c) z
  ·exact nd.1 c
 ·rcases z with z | rfl
  ·exact w.zd b z
  ·exact w.od b L7
 ·rcases z with z | rfl
  ·exact .inl z
  ·exact .inr<|.inl L7
def jdD(fe:FE)(g:D->Rh->Option Rh)(f:FS):FS:=λρ=>match fe ρ with
 | some (.tup l,ρ1)=>jI g f l ρ1
 | some (.lst true l,ρ1)=>jI g f l ρ1
 | _=>none
def jmq{pm}{g}(hg:DG R pm tg g)(hf:DS R pm tb f){J:It}{vs}{l}{O P}{ρ}{G}
  (hJ:∀{Z':Zn}{H'},(∀ a,Z a->Z' a)->(∀ a,Z a->H' a=H a)->∀ i,(l.length<=i->J.stop i H')/\(∀ x,vs[i]?=some x->J.go i H'/\∀ y H2,J.yld i H' y H2->H2=H'/\y=x))
  (w:WF Z H<|P++O) (rs:Reps R Z H l vs P) (s:Slots R Z H ρ σ O) (e:jI g f l ρ=some o) (k:OutOk R pm Z H (P++O) σ G o):
  ∃ W:Nat->Nat->L2.St->Hp->Prop,(∃ m,W 0 m σ H)/\∀ i m σ H,W i m σ H->(J.stop i H/\G.nx σ H)\/(J.go i H/\∃ N:L2.St->Hp->Prop,(∀ σ' H',N σ' H'->∃ m',m'<m/\W (i+1) m' σ' H')/\∀ x H',J.yld i H x H'->tg x σ H' λσ2 H2=>tb {G with nx:=N,ct:=N,bk:=G.nx} σ2 H2):=by
 have C:=rs.length;refine⟨λi m σ' H'=>m=l.length-i/\i<=l.length/\∃ S Z' T I,Go Z H (P++O) Z' H' (T++I)/\Reps R Z' H' (l.drop i) (vs.drop i) T/\Slots R Z' H' S σ' I/\Keep pm σ σ'/\jI g f (l.drop i) S=some o,
  ⟨l.length,rfl,U5 _,ρ,Z,P,O,Go.refl w,rs,s,Keep.refl _ _,e⟩,?_⟩
 rintro i m σ' H' ⟨rfl,hi',S,Z',T,I,D,r1,s1,kp,e2⟩;obtain⟨h1,h2⟩:=hJ D.zz (D.zH w) i;by_cases t:i<l.length
 ·right
  have hx:l[i]?=some l[i]:=by simp[t]
  have Y:vs[i]?=some (vs[i]'∅):=by simp[C,t]
  obtain⟨go,yl⟩:=h2 _ Y;rw[yY hx] at e2 r1;rw[yY Y,Reps] at r1;obtain⟨v,vs',P1,E,ev,rfl,ri,rr⟩:=r1;injection ev with ev1 ev2;subst ev1;subst ev2;refine ob e2 λρ1 e3 e2=>ob e2 λo1 e4 e2=>⟨go,λσ2 H2=>∃ h F K n,Go Z H (P++O) F H2 (n++K)/\Reps R F H2 (l.drop<|i+1) (vs.drop<|i+1) n/\Slots R F H2 h σ2 K/\Keep pm σ σ2/\jI g f (l.drop<|i+1) h=some o,λσ2 H2 ⟨h,F,K,n,a1,a2,a3,a4,a5⟩=>⟨l.length-(i+1),by lia,rfl,t,h,F,n,K,a1,a2,a3,a4,a5⟩,λu H2 hy=>?_⟩;obtain⟨rfl,rfl⟩:=yl u H2 hy;have L:Go Z H (P++O) Z' H2 (E++(P1++I)++[]):=D.drop (λa z=>by simp at z ⊢;rcases z with q | q | q<;>simp[q]) (by
   have nd:=D.wf.nd;simp only[U9,N2,M9] at nd ⊢;obtain⟨⟨n1,n2,n3⟩,n4,n5⟩:=nd;exact⟨n2,⟨n1,n4,λa z b U=>n5 a (.inl z) b U⟩,λa z b U=>U.elim (λq e=>n3 b q a z e.symm)<|n5 a (.inr z) b⟩)
  have wi:=L.wf.mid;refine hg wi ri s1 e3 λ{σ3 Z3 H3 O3} g3 s3 M=>(hf g3.wf s3 e4 ?_);have c:∀{j}{r}{p},Go Z3 H3 O3 j r p->Go Z H (P++O) j r (E++p)/\Reps R j r (l.drop<|i+1) (vs.drop<|i+1) E:=by
   intro j r p g4;have Q:=g3.trans g4;refine⟨L.trans<|by simpa using(Q.frame L.wf),rr.frame Q.zz (Q.zH wi) (Go.keepA L.wf Q).1⟩
  cases o1 with
  | nx h=>exact λ{V j r p} g4 A B=>⟨h,j,p,E,(c g4).1,(c g4).2,A,kp.trans<|M.trans B,e2⟩
  | ct h=>exact λ{V j r p} g4 A B=>⟨h,j,p,E,(c g4).1,(c g4).2,A,kp.trans<|M.trans B,e2⟩
  | bk h=>cases e2;exact λ{V j r p} g4 A B=>k ((c g4).1.dropL) A<|kp.trans<|M.trans B
  | rt d h=>cases e2;exact λ{v4 V j r P4 p} g4 r4 A B=>k ((c g4).1.dropL) r4 A<|kp.trans<|M.trans B
 ·left
  have X:i=l.length:=by lia
  refine⟨h1 ∅,?_⟩;rw[X,List.drop_length] at e2;cases e2;exact k (D.dropL) s1 kp
def jg3{pm}{g}(E:DE R te fe)(F:DG R pm tg g)(G:DS R pm tb f):DS R pm (jfd (jd1 R.K te) tg tb) (jdD fe g f):=by
 intro σ ρ Z H O o w s e Q k;unfold jdD at e;have up:∀{h}{j}{p},Go Z H O h j p->OutOk R pm h j p σ Q o:=by
  intro h j p c;cases o with
  | nx A=>exact λg4 m n=>k (c.trans g4) m n
  | ct A=>exact λg4 m n=>k (c.trans g4) m n
  | bk A=>exact λg4 m n=>k (c.trans g4) m n
  | rt d A=>exact λg4 S m n=>k (c.trans g4) S m n
 split at e
 ·rename_i l I B;refine E w s B λ{v h j P p} c r s1=>?_;obtain⟨a,vs,rfl,J,q⟩:=r;refine .inr<|.inl ⟨a,rfl,⟨vs,J.sq⟩,(jmq F G (λ{T L} M C i=>?_) c.wf q s1 e<|up c)⟩;have sq:=(J.frame M C).sq;refine⟨λhi=>⟨vs,sq,by rw[q.length];exact hi⟩,λx t=>⟨⟨vs,x,sq,t⟩,λy U u=>⟨u.1,?_⟩⟩⟩;have:=u.2 vs sq;rw[t] at this;exact(X4 this).symm
 ·rename_i l I B;refine E w s B λ{v h j P p} c r s1=>?_;obtain⟨a,vs,V,rfl,q,N,rfl⟩:=r;refine .inl ⟨a,rfl,⟨vs,SqL.of N⟩,?_⟩;have g2:=c.trans<|Go.frz1 c.wf;have D:Reps R (λb=>h b\/b=a) j l vs V:=q.frame (λb z=>.inl z) (λ_ _=>rfl) λ_ _=>rfl;have s2:Slots R (λb=>h b\/b=a) j I σ p:=s1.frame (λb z=>.inl z) (λ_ _=>rfl) λ_ _=>rfl;refine jmq F G (λ{T L} M C i=>?_) g2.wf D s2 e<|up g2;have sq:SqL R.K L a vs:=SqL.of (by rw[C a<|.inr rfl];exact N);refine⟨λhi=>⟨vs,sq,by rw[q.length];exact hi⟩,λx t=>⟨⟨vs,x,sq,t⟩,λy U u=>⟨u.1,?_⟩⟩⟩;have:=u.2 vs sq;rw[t] at this;exact(X4 this).symm
 ·cases e
structure QDs(cl:Nat->Addr)(X:Cx)(es:List Expr)(ta:TA)(f:FA):Prop where
 sem:PA X es ta
 den:DA ⟨X.K,cl⟩ ta f
def jlb:QDs cl X [] JO jdW:=⟨vF,jlv⟩
def jhJ(h1:QE cl X e te fE)(h2:QDs cl X es tr fr)(a:SEq X e es:=by rfl):QDs cl X (e::es) (jC te tr) (yK fE fr):=⟨jy h1.sem h2.sem a,jhr h1.den h2.den⟩
def jkx{a}(h:QDs cl X es tr fr):QE cl X (.Tuple es a pos) (ut tr) (jaR fr):=⟨JA h.sem,jkJ h.den⟩
def joq{cl}{X}{n:Nat}{j2}(b:QE cl X a ta fE):QE cl X (.Subscript a (.Slice none (some<|.Constant (.int (n:Int)) j2 jpos) none p2') pos) (tSl (jjJ X.K) ta YV<|jbe<|tC<|.int (n:Int)) (jjW fE n):=
 ⟨ur jo4 b.sem jdU<|jb3 jct,jj7 b.den⟩
@[simp] def dTup_e:jaR fa ρ=(fa ρ).bind λx=>bif decide (x.1.length<=1000) then some (.tup x.1,x.2) else none:=by
 unfold jaR dCB;cases fa ρ with
 | none=>rfl
 | some x=>
  obtain⟨d,r⟩:=x;dsimp only[Option.bind];cases decide (d.length<=1000)<;>rfl
section
variable {R:RC}{Z Z':Zn}{H H':Hp}{pm:List Nat}
@[simp] def jcO(i:Nat)(pk:PF)(g:Int->Int->Int)(pv:PF)(ρ:Rh):Option Out:=(pk ρ).bind λy=>(qd y).bind λc=>(pV i ρ).bind λx=>(jfZ x).bind λkl=>(K3 kl.1 kl.2 c).bind λm=>(vp m).bind λm=>(pv ρ).bind λn=>(vp n).bind λn=>
  bif lim kl.1.length then some (.nx<|ρ.set i<|some<|.dK true (qc kl.1 kl.2 c<|.int<|g m n).1 (qc kl.1 kl.2 c<|.int<|g m n).2) else none
def vq(i:Nat)(L:Ln)(pk:PF)(g:Int->Int->Int)(pv:PF)(ρ:Rh):Option Out:=(pk ρ).bind λy=>(qd y).bind λc=>(pV i ρ).bind λt=>(L t).bind λy=>(jfZ y.1).bind λkl=>(K3 kl.1 kl.2 c).bind λm=>(vp m).bind λm=>(pv ρ).bind λn=>(vp n).bind λn=>
  bif lim kl.1.length then some (.nx<|ρ.set i<|some<|y.2<|.dK true (qc kl.1 kl.2 c<|.int<|g m n).1 (qc kl.1 kl.2 c<|.int<|g m n).2) else none
def Kl{i}{L}{tb ty tv}{pk pv}{g}{rd}(j:∀{m n}{H}{Q},Q (.int<|g m n) H->rd (.int m) (.int n) H Q)(C:K2 R tb i L)(D:PB R ty pk)(E:PB R tv pv):DS R pm (Qi tb ty tv rd) (vq i L pk g pv):=by
 intro σ ρ Z H O o w s e U k;refine ob e λq F e=>ob e λc e5 e=>ob e λt hi e=>ob e λ⟨y,V⟩ e3 e=>ob e λ⟨W,l⟩ G e=>ob e λx I e=>ob e λm J e=>ob e λX K e=>ob e λn e2 e=>oc e λd e=>?_;cases e;cases jcc G;cases jB J;cases jB e2;refine kW (P0:=[]) C w s hi e3 jeI λa _ vs Y A f B M put=>M<|D w.zd s F λ{z Z1 H1 P1} h r1=>?_;obtain⟨rfl,_⟩:=vB e5 r1;obtain⟨mv,P3,p,r⟩:=(JP A f).1 _ I;obtain⟨rfl,_⟩:=r.int_of;refine⟨a,.int m,rfl,by rw[<- p];exact DGet.k<|h.at0 B,E h.wf.zd (h.slots w.zd s) K λ{u Z2 H2 P4} g2 r2=>?_⟩;obtain⟨rfl,_⟩:=r2.int_of;have b:=h.trans g2;obtain⟨N,O2,P,e7,sl,v⟩:=Kk (Rep.int_mk) c (b.reps w.zd A) f;obtain⟨O3,S,T⟩:=put jeI v b P ⇑sl.count_le;refine j ⟨_,DPut.k (b.at0 B)<|KZ d,?_⟩;rw[<- e7];exact k S T<|Keep.refl _ _
def ji5{i}{ty tv}{pk pv}{g}{rd}(a:∀{m n}{H}{Q},Q (.int<|g m n) H->rd (.int m) (.int n) H Q)(b:PB R ty pk)(c:PB R tv pv):DS R pm (Qi (yg i) ty tv rd) (jcO i pk g pv):=Kl a qX b c
noncomputable def kaD:KA->D
 | .int i=>.int i
 | .str s=>.str s
@[simp] def yr(pd:PF)(ρ:Rh):Option D:=(pd ρ).bind λd=>(ji0 d).bind λk=>bif frzs k.2 then some (.lst true<|(k.1.zip k.2).map λp=>.tup [kaD p.1,p.2]) else none
def xc(a):Rep R Z H (kaD a) (kV<|kaV a) []:=by
 cases a with
 | int i=>exact .int_mk
 | str s=>exact .str_mk
def ja1(h:PB R td pd):PP R (xL td) (yr pd):=by
 intro σ ρ Z H O d z s e Q k;refine ob e λx e1 e=>ob e λ⟨y,l⟩ e2 e=>oc e λhf e=>?_;cases e;obtain⟨o,rfl⟩:=jen e2;refine h z s e1 λ{v F A P} g r=>?_;obtain⟨a,vs,O',rfl,rs,G,ea,f⟩:=r;refine⟨a,_,rfl,(by cases o with | true=>exact .inl ea | false=>exact ea),λt m N D S has=>?_⟩;have n:=List.nodup_cons.mp S;have M:∀ b,A b≠none->jR A m ((y.map kaV).zip vs) t b=A b:=λb f=>by
  unfold jR;rw[if_neg λq=>f<|by rw[q];exact N,kC λq=>f<|has b q]
 have zd:=g.wf.zd;have I:∀ b∈m,jR A m ((y.map kaV).zip vs) t b≠none:=λb f=>by
  obtain⟨j,hj⟩:=List.mem_iff_getElem?.mp f;have T:j<((y.map kaV).zip vs).length:=by rw[<- D];exact(L9.mp hj).1
  unfold jR;rw[if_neg<|show ¬ b=t from λq=>n.1<|q▸f,KI n.2 hj<|X6 T];exact λz=>nomatch z
 have J:jR A m ((y.map kaV).zip vs) t t=some (.lst<|m.map V.ref):=by unfold jR;rw[if_pos rfl]
 have g2:Go F A [] (λb=>F b\/b∈m) (jR A m ((y.map kaV).zip vs) t) [t]:=by
  refine⟨⟨by simp,λb f q=>?_,λb f=>?_,λb q=>?_⟩,λb q=>.inl q,λb f _=>M b f,λb q=>?_,λb f=>?_,λb f=>?_⟩
  ·rw[M7.mp f] at q;rcases q with q | q
   ·exact zd _ q N
   ·exact n.1 q
  ·rw[M7.mp f,J];exact λz=>nomatch z
  ·rcases q with q | q
   ·rw[M b<|zd b q];exact zd b q
   ·exact I b q
  ·rcases q with q | q
   ·exact .inl q
   ·exact .inr<|.inr<|has b q
  ·rw[M7.mp f];exact .inr N
  ·rw[M b f];exact f
 refine k (g.trans g2) ⟨t,m.map V.ref,[],rfl,?_,J,rfl⟩;have U:Reps R (λb=>F b\/b∈m) (jR A m ((y.map kaV).zip vs) t) l vs []:=(rs.frozen hf).frame (λb q=>.inl q) (λb q=>M b<|zd b q) (λb f=>nomatch f);have key:∀(w:W5) (i:List KA) E B,Reps R (λb=>F b\/b∈m) (jR A m ((y.map kaV).zip vs) t) E B []->i.length=E.length->w.length=i.length ->
   (∀(j:Nat) b c u,w[j]?=some b->i[j]?=some c->B[j]?=some u->b∈m/\jR A m ((y.map kaV).zip vs) t b=some (.tup [kV<|kaV c,u])) ->
   Reps R (λb=>F b\/b∈m) (jR A m ((y.map kaV).zip vs) t) ((i.zip E).map λp=>.tup [kaD p.1,p.2]) (w.map V.ref) []:=by
  intro w
  induction w with
  | nil=>
   intro i E B _ W C _;have:=List.length_eq_zero_iff.mp C.symm;subst this;exact .empty
  | cons b w ih=>
   intro i E B rr W C hp;cases i with
   | nil=>simp at C
   | cons c i=>
    cases E with
    | nil=>simp at W
    | cons d E=>
     obtain⟨u,K,O1,O2,rfl,eO,r1,r2⟩:=rr;obtain⟨rfl,rfl⟩:=List.append_eq_nil_iff.mp eO.symm;obtain⟨f,eb⟩:=hp 0 b c u rfl rfl rfl;exact Reps.cons (O:=[]) ⟨b,[kV<|kaV c,u],rfl,.inl ⟨.inr f,.inl eb⟩,Reps.cons (xc c)<|.one r1⟩<|ih i E K r2 ⇑W ⇑C λj b' c' u' L X Y=>hp (j+1) b' c' u' ⇑L ⇑X ⇑Y
 refine key m y l vs U G (by rw[D,List.length_zip,L1,rs.length,G];simp) λj b c u L X Y=>⟨List.mem_of_getElem? L,?_⟩;have hz:((y.map kaV).zip vs)[j]?=some (kaV c,u):=by
  rw[List.getElem?_zip_eq_some];exact⟨by rw[List.getElem?_map,X];rfl,Y⟩
 unfold jR;rw[if_neg<|show ¬ b=t from λq=>n.1<|q▸List.mem_of_getElem? L,KI n.2 L hz]
end
section
variable {cl:Nat->Addr}{pm:List Nat}{X:Cx}{a b e o tg iter:Expr}{body:List Stmt}{ta tb te to:TE}{pa pb pe po:PF}{pos:Pos}{k:Nat}{t:TG}{g:D->Rh->Option Rh}{fE:FE}{ts:TS}{f:FS}
def jeP{i}{x}{a tpos}(f:Room k X.A)(g:QB cl X (.Name x a) (yg i)<|pV i)(c:QB cl X b tb pb)(d:QB cl X e te pe)
  (h:∀ ov iv new,augStore b ov iv new=(do holding [new,ov,iv] (setItem ov iv new);release [new,ov,iv] [];pure .next):=by intros;rfl):
  QS cl pm X (.AugAssign (.Subscript (.Name x a) b tpos) .Sub e pos) (Qi (yg i) tb te jlx) (jcO i pb (λm n=>m-n) pe):=⟨Kb (KQ f) g.sem c.sem d.sem xW h,ji5 (λq=>⟨_,_,rfl,rfl,q⟩) c.den d.den⟩
def jeW(f:X.calm=true)(g:X.mg "list" = none)(e:QB cl X o to po)(h:Gl X "list":=by rfl)
  (a:attributeBase o "items" X.env (eval o X.env)=eval o X.env:=by rfl) (b:(apos.endLine==cpos.line)=true:=by rfl)
  (i:starEach [.Call (.Attribute o "items" apos) [] [] cpos] X.env=(false,eval (.Call (.Attribute o "items" apos) [] [] cpos) X.env)::starEach [] X.env:=by rfl)
  (c:(backTo pos<|starEach [] X.env).any (·.1)=false:=by rfl)
  (d:backTo pos (starEach [.Call (.Attribute o "items" apos) [] [] cpos] X.env)=[(false,eval (.Call (.Attribute o "items" apos) [] [] cpos) X.env)]:=by rfl):
  QP cl X (.Call (.Name "list" p) [.Call (.Attribute o "items" apos) [] [] cpos] [] pos) (xL to) (yr po):=⟨jcP f h g JS e.sem a b i c d,ja1 e.den⟩
def jiU(c:PassesOwn (model X.prog X.w) X.A X.env X.xe)(d:X.calm=true)(hi:QE cl X iter te fE)(a:QGo cl pm X tg t g)(b:QSs cl pm X body ts f)(e:∀ x,foldedSetIterable iter X.env x=pure x:=by intro _;rfl):
  QS cl pm X (.For tg iter body [] pos) (jfd (jd1 X.K te) t ts) (jdD fE g f):=⟨wY c d (uo hi.sem) a.sem b.sem e,jg3 hi.den a.den b.den⟩
end
noncomputable def KY(scope sc:Scope):Scope:={scope with names:=scope.names.map λ(n,k)=>if(k==NameKind.free&&sc.kind==.function&&sc.names.lookup n==some .cell) then(n,NameKind.cell) else(n,k)}
def je5(a)(h1:X.env.scope=a)(h:JG (KY scope0 a) N0 scope N' ix=true):BlockOk (jh1 X scope0 N0 C s₃ H₃ fp) scope N' ix:=
 jcL (KY scope0 a) N0 (by subst h1;rfl) rfl h
noncomputable def spM(R:RC)(m:List D->Option (D×D))(n j:Nat):Sp:=λvs H Q _=>∃ Z ds d c O u,WF Z H O/\ds.length=n/\Reps R Z H ds vs O/\vs[j]?=some u/\m ds=some (d,c) /\
 ∀{v}{Z'}{H'}{P O'},Go Z H O Z' H' (P++O')->Rep R Z' H' d v P->Rep R Z' H' c u O'->Q v H'
def VV(j:Nat):Out->Option (D×D)
 | .rt d ρ=>(pV j ρ).bind λc=>some (d,c)
 | .nx ρ=>(pV j ρ).bind λc=>some (.non,c)
 | _=>none
def fnM(n j:Nat)(f:FS):List D->Option (D×D):=λds=>(f<|ds.map some++List.replicate (n-ds.length) none).bind (VV j)
def qr:fnM n j f ds=(f<|ds.map some++List.replicate (n-ds.length) none).bind (VV j):=rfl
def Go.pick(g:Go Z H O Z' H'<|P++(A++Q++B)):Go Z H O Z' H' (P++Q):=g.drop (λa h=>by simp at h ⊢;rcases h with h | h<;>simp[h]) (by
 have nd:=g.wf.nd;simp only[U9,N2] at nd ⊢;exact⟨nd.1,nd.2.1.1.2.1,λa c b d=>nd.2.2 a c b<|.inl<|.inr d⟩)
def jiR(y:DS R [j] ts f)(h:spM R (fnM N.length j f) n j vs H Q E):ts {nx:=λ_ H'=>Q .non H',rt:=Q} (L2.start N vs) H:=by
 obtain⟨Z,m,d,c,O,u,w,K,r,z,e,k⟩:=h;have s:Slots R Z H (m.map some++List.replicate (N.length-m.length) none) (L2.start N vs) O:=by
  have q:=JT r<|J4<|N.length-m.length;unfold L2.start;rw[r.length];rw[M9] at q;exact q
 have p:(L2.start N vs)[j]?=some (some u):=by
  unfold L2.start;rw[List.getElem?_append_left<|by simpa using((L9.mp z).1),List.getElem?_map,z];rfl
 have key:∀{a}{i}{l}{H'}{P t}{v},a[j]?=some (some c)->Go Z H O l H' (P++t)->Rep R l H' d v P->Slots R l H' a i t->Keep [j] (L2.start N vs) i->Q v H':=by
  intro a i l H' P t v b g D x kp;obtain⟨A,L,B,rfl,F,_,_⟩:=x.put (L9.mp b).1;obtain⟨M,G,I⟩:=F c b;have:i[j]?=some (some u):=by rw[kp j<|by simp,p]
  rw[G] at this;cases this;exact k g.pick D I
 refine ob e λo C e=>?_;cases o with
 | rt S a=>exact ob e λJ b e=>by cases e;exact y w s C<|key<|qu b
 | nx a=>exact ob e λJ b e=>by cases e;exact y w s C λg x kp=>key (qu b) ⇑g .non_mk x kp
 | bk a=>cases e
 | ct a=>cases e
def jhn(h:spM R m n j vs H Q E):vs.length=n:=by
 obtain⟨Z,b,d,c,O,u,w,a,r,_⟩:=h;rw[r.length,a]
@[simp] def pFs(p:PAf)(ρ:Rh):Option (List D):=(p ρ).bind λds=>bif frzs ds then some ds else none
@[simp] def dCallM(m:List D->Option (D×D))(i:Nat)(j:Nat)(p:PAf)(ρ:Rh):Option (D×Rh):=(p ρ).bind λds=>(pV i ρ).bind λc=>(m<|ds.take j++c::ds.drop j).bind λr=>some (r.1,ρ.set i<|some r.2)
def Go.turn(g:Go Z H O Z' H'<|A++(P++Q)++B):Go Z H O Z' H' (P++(A++Q++B)):=g.drop (λa h=>by simp at h ⊢;rcases h with h | h | h | h<;>simp[h]) (by
 have nd:=g.wf.nd;simp only[U9,N2] at nd ⊢;obtain⟨⟨j,⟨k,l,m⟩,f⟩,n,i⟩:=nd;refine⟨k,⟨⟨j,l,λa d b c=>f a d b<|.inr c⟩,n,λa d b c=>i a (d.elim .inl λq=>.inr<|.inr q) b c⟩,λa d b c e=>?_⟩;rcases c with(c | c) | c
 ·exact f b c a (.inl d) e.symm
 ·exact m a d b c e
 ·exact i a (.inr<|.inl d) b c e)
def jcC(i:Nat)(r:D×Rh):Option Out:=match r.2[i]? with
 | some (some (.lst true l))=>bif lim l.length then some (.nx<|r.2.set i<|some<|.lst true<|l++[r.1]) else none
 | _=>none
noncomputable def jcf:Option (Option D)->Bool
 | some (some (.lst true _))=>true
 | _=>false
def zB(i:Nat)(fe:FE):FS:=λρ=>bif jcf ρ[i]? then(fe ρ).bind (jcC i) else none
def jho(h:DE R te fe):DS R pm (v8<|tBM R.K "list" v5 (yg i)<|jC te JO) (zB i fe):=by
 intro σ ρ Z H O o w s e D' k;unfold zB at e;cases hown:jcf ρ[i]? with
 | false=>rw[hown] at e;cases e
 | true=>
 rw[hown,cond_true] at e;obtain⟨G,D⟩:∃ G,ρ[i]?=some (some<|.lst true G):=by
  unfold jcf at hown;split at hown
  ·rename_i G q;exact⟨G,q⟩
  ·lia
 refine ob e λr W e=>?_;obtain⟨d,ρ1⟩:=r;unfold jcC at e;split at e
 ·rename_i l S;refine oc e λE e=>?_;cases e;obtain⟨A0,P0,B0,_,X,_,_⟩:=s.put (L9.mp D).1;obtain⟨v0,m,Y⟩:=X _ D;obtain⟨a,I,O0,rfl,rs0,J,_⟩:=Y;refine⟨.ref a,m,.inl ⟨rfl,I,SqL.of J⟩,(h w s W λ{u p F t O1} T r1 s1=>?_)⟩;obtain⟨A,P,B,rfl,k1,k2,_⟩:=s1.put (L9.mp S).1;obtain⟨v,U,rl⟩:=k1 _ S;rw[m] at U;cases U;obtain⟨a',vs,C,L,V,ea,rfl⟩:=rl;cases L;refine⟨a,vs,u,rfl,rfl,ea,by rw[V.length];exact VA E,?_⟩;have w1:=T.wf;have nd:=w1.nd;simp only[U9,N2,List.nodup_cons,M4] at nd;obtain⟨n1,⟨⟨nA,⟨na,nO⟩,nAO⟩,nB,j⟩,M⟩:=nd;have ne:∀ b,b∈t\/b∈A\/b∈C\/b∈B\/p b->b≠a:=by
   intro b c e;subst e;rcases c with c | c | c | c | c
   ·lia
   ·lia
   ·lia
   ·exact j b (.inr<|.inl rfl) b c rfl
   ·exact w1.nz b (by simp) c
  have N:Reps R p (upd F a<|.lst<|vs++[u]) l vs C:=V.frame (λ_ z=>z) (λb z=>jd<|ne b<|.inr<|.inr<|.inr<|.inr z) λb c=>jd<|ne b<|.inr<|.inr<|.inl c;have Q:Rep R p (upd F a<|.lst<|vs++[u]) d u t:=r1.frame (λ_ z=>z) (λb z=>jd<|ne b<|.inr<|.inr<|.inr<|.inr z) λb c=>jd<|ne b<|.inl c;have r2:Rep R p (upd F a<|.lst<|vs++[u]) (.lst true<|l++[d]) (.ref a) (a::(C++t)):=by
   refine⟨a,vs++[u],C++t,rfl,?_,jk,rfl⟩;have:=N.append<|Reps.cons Q Reps.empty;simpa using this
  have s2:=k2 r2 (λ_ z=>z) (λb z=>jd<|ne b<|.inr<|.inr<|.inr<|.inr z) (λb c=>jd<|ne b<|.inr<|.inl c)<|λb c=>jd<|ne b<|.inr<|.inr<|.inr<|.inl c;rw[yF m] at s2;have g2:Go p F (t++(A++a::C++B)) p (upd F a<|.lst<|vs++[u]) (A++(a::(C++t))++B):=by
   refine⟨⟨?_,λb c=>w1.nz b (by simp at c ⊢;rcases c with c | c | c | c | c<;>simp[c]),λb c=>?_,λb c=>?_⟩,λ_ z=>z,λb c hn=>jd<|λe=>hn<|by simp[e],λ_ z=>.inl z,λb c=>.inl (by simp at c ⊢;rcases c with c | c | c | c | c<;>simp[c]),λb c=>?_⟩
   ·simp only[U9,N2,List.nodup_cons,M4];refine⟨⟨nA,⟨λz=>z.elim na λq=>M a q a (.inl<|.inr<|.inl rfl) rfl,nO,n1,λx g y n e=>M y n x (.inl<|.inr<|.inr g) e.symm⟩,λx g y n e=>?_⟩,nB,λx g y n e=>?_⟩
    ·grind
    ·rcases g with g | g | g | g
     ·exact j x (.inl g) y n e
     ·exact j x (.inr<|.inl g) y n e
     ·exact j x (.inr<|.inr g) y n e
     ·exact M x g y (.inr n) e
   ·by_cases f:b=a
    ·rw[f,jk];exact λz=>(nomatch z)
    ·rw[jd f];exact w1.od b (by simp at c ⊢;rcases c with c | c | c | c | c<;>simp[c])
   ·by_cases f:b=a
    ·rw[f,jk];exact λz=>(nomatch z)
    ·rw[jd f];exact w1.zd b c
   ·by_cases f:b=a
    ·rw[f,jk];exact λz=>(nomatch z)
    ·rw[jd f];exact c
  exact k (T.trans g2) s2<|Keep.refl _ _
 ·cases e
def jkg{cl}{P}{w}{K}{mg}{base}{x qual}{a}{fa}{fd}{N ps}{k n j}{fs}(F:Fun K x qual a fa fd)(c:FnScope N ps<|ju a)(d:ps.length=n)
  (b:∀ cdv A outer s H E,Room k (A.deeper<|envOfC qual (ju a) ↥s fa cdv) ->
   ∃ ts,QSs cl [j] (jgE CX0 P w K mg base N qual (ju a) fa cdv A outer s H E).nox (vI a) ts fs):FnOk P w K mg base CX0 (k+1) fa fd ps (spM ⟨K,cl⟩ (fnM N.length j fs) n j):=by
 refine F.ok c (λvs H Q E h=>by rw[jhn h,d]) λcdv A outer s H vs Q E e h=>?_;obtain⟨ts,q⟩:=b cdv A outer s H E e;exact⟨ts,q.sem,jiR q.den h⟩
def oF(g:D->D->Option D):D->D->Option D:=λx y=>(g x y).bind λd=>bif frz d then some d else none
def BC.o(h:BC R r g):DC R r g:=λw r1 e _ k=>h w.zd r1 e λg3 a=>k (g3.widen w).dropR a
def jeU{cl}{X}{e}{es}{tr}{fr}{pos}{K:W4}{x}{p}{id}{r}{c}(f:vJ X (.builtin id) r)(g:BC ⟨X.K,cl⟩ r c)(h:X.mg x=none)(i:bootBuiltins x=some (.builtin id))(d:QDs cl X (e::es) tr fr)(j:Gl X x:=by rfl)
  (k:x≠"__name__":=by decide) (a:Nd x:=by decide) (l:SEq X e es:=by rfl) (b:BkE X pos es:=by rfl):
  QE cl X (.Call (.Name x p) (e::es) [] pos) (tCB r tr) (dCB c fr):=⟨Yw f j h i d.sem k a l b,jlz (BC.o g) d.den⟩
def jkS(g:QB cl X (.Name x xpos) (yg i)<|pV i)(h:QE cl X e te fe)(b:attributeBase (.Name x xpos) "append" X.env (eval (.Name x xpos) X.env)=eval (.Name x xpos) X.env:=by rfl)
  (d:((backTo cpos<|starEach [e] X.env).all (λx=>!x.1)&&(backToKw cpos<|keywordEach [] X.env).all (λx=>x.1.isSome)
   && decide ([e].length+([]:List Keyword).length+(if([]:List Keyword).isEmpty then 0 else 1)<30))=true:=by rfl)
  (c:(apos.endLine==cpos.line)=true:=by rfl) (f:starEach [e] X.env=(false,eval e X.env)::starEach [] X.env:=by rfl) (a:(backTo cpos<|starEach [] X.env).any (·.1)=false:=by rfl)
  (hsw:swapsWith (.Call (.Attribute (.Name x xpos) "append" apos) [e] [] cpos) none pos.line X.env=pure false:=by rfl):
  QS cl pm X (.Expr (.Call (.Attribute (.Name x xpos) "append" apos) [e] [] cpos) pos) (v8<|tBM X.K "list" v5 (yg i)<|jC te JO) (zB i fe):=
 ⟨Jk (jbS PySem.F.plainAttrs_list PySem.F.slot_list_append PySem.F.type_list_append JI g.sem (jy h.sem vF f) b d c f a) hsw,jho h.den⟩
def jeY:∀ ρ ds,pN ρ=some ds->ds.length=0:=λρ ds h=>by cases h;rfl
def jdO(h:∀ ρ ds,pr ρ=some ds->ds.length=n):∀ ρ ds,ja p pr ρ=some ds->ds.length=n+1:=λρ ds e=>by
 refine ob e λd a e=>ob e λl e2 e=>?_;cases e;rw[M1,h ρ l e2]
def jmu:D->Option (List D)
 | .lst _ m=>bif frzs m then some m else none
 | .tup m=>bif frzs m then some m else none
 | _=>none
def jjH(i:Nat)(p:PF)(ρ:Rh):Option Out:=(p ρ).bind λe=>(jmu e).bind λm=>(pV i ρ).bind λx=>(Ym x).bind λl=>bif lim (l.length+m.length) then some (.nx<|ρ.set i<|some<|.lst true<|l++m) else none
def jlg(h:PB R te p):DS R pm (v8<|tBM R.K "list" (jjx R.K) (yg i)<|jC te JO) (jjH i p):=by
 intro σ ρ Z H O o w s e I k;refine ob e λd z e=>ob e λm e2 e=>ob e λx A e=>ob e λl e3 e=>oc e λc e=>?_;cases e;cases vv e3;unfold v8 tBM;refine kW (P0:=[]) qX w s A rfl ow_lst λa _ vs J t _ v B put=>B ⟨.inl ⟨rfl,vs,SqL.of v⟩,h w.zd s z λ{u C f L} g r1=>?_⟩;have D:∃ b zs,u=.ref b/\(SqL R.K f b zs\/SqT R.K f b zs)/\Reps R C f m zs []:=by
  cases d with
  | lst M E=>
   refine oc e2 λj e2=>?_;cases e2;obtain⟨b,zs,F,rfl,n,r⟩:=r1.lst_of;exact⟨b,zs,rfl,.inl n.sq,r.frozen j⟩
  | tup E=>
   refine oc e2 λj e2=>?_;cases e2;obtain⟨b,zs,rfl,n,r⟩:=r1.tup_of;exact⟨b,zs,rfl,.inr n,r.frozen j⟩
  | _=>cases e2
 obtain⟨b,zs,rfl,G,y⟩:=D;obtain⟨N,g2,s2⟩:=put ow_lst trivial g ((g.reps w.zd t).append y) λq=>by simp
 exact⟨a,b,vs,zs,rfl,rfl,g.at0 v,G,by rw[t.length,y.length];exact qk c,k g2 s2<|Keep.refl _ _⟩
noncomputable def zw:List D->Option D
 | [.bl b]=>some<|.int (if b then 1 else 0)
 | _=>none
def jhk:BC R (λxs H Q=>∃ b:Bool,xs=[.bl b]/\Q (.int<|if b then 1 else 0) H) zw:=by
 intro Z H xs d vs O z r e Q k;unfold zw at e;split at e
 ·rename_i b;cases e;obtain⟨v,rfl,r1⟩:=r.one_of;obtain⟨rfl,_⟩:=r1.bl_of;exact⟨b,rfl,k (Go.id z) .int_mk⟩
 ·cases e
@[simp] def fIntB_e(b):zw [.bl b]=some (.int<|if b then 1 else 0):=rfl
def jj8(g:QB cl X (.Name x xpos) (yg i)<|pV i)(h:QB cl X e te pe)(b:attributeBase (.Name x xpos) "extend" X.env (eval (.Name x xpos) X.env)=eval (.Name x xpos) X.env:=by rfl)
  (d:((backTo cpos<|starEach [e] X.env).all (λx=>!x.1)&&(backToKw cpos<|keywordEach [] X.env).all (λx=>x.1.isSome)
   && decide ([e].length+([]:List Keyword).length+(if([]:List Keyword).isEmpty then 0 else 1)<30))=true:=by rfl)
  (c:(apos.endLine==cpos.line)=true:=by rfl) (f:starEach [e] X.env=(false,eval e X.env)::starEach [] X.env:=by rfl) (a:(backTo cpos<|starEach [] X.env).any (·.1)=false:=by rfl)
  (hsw:swapsWith (.Call (.Attribute (.Name x xpos) "extend" apos) [e] [] cpos) none pos.line X.env=pure false:=by rfl):
  QS cl pm X (.Expr (.Call (.Attribute (.Name x xpos) "extend" apos) [e] [] cpos) pos) (v8<|tBM X.K "list" (jjx X.K) (yg i)<|jC te JO) (jjH i pe):=
 ⟨Jk (jbS PySem.F.plainAttrs_list PySem.F.slot_list_extend PySem.F.type_list_extend jjo g.sem (jy h.sem vF f) b d c f a) hsw,jlg h.den⟩
end QD
namespace QD
open PySem L2
def jb(h:n<=100000):lim n=true:=X1 h
def yZ{f:α->β}{l:List α}(h:l.length<=100000):lim (l.map f).length=true:=jb (by rw[L1];exact h)
def zX(a:0<=i)(h:i<l.length):atI l i=l[i.toNat]?:=by
 unfold atI ixN;rw[if_pos ∅,if_pos ∅];rfl
def KN(h:(Vt lo n)[i]?=some x):x=.int (lo+i)/\i<n:=by
 unfold Vt at h;rw[List.getElem?_map] at h;by_cases hi:i<n
 ·rw[List.getElem?_range hi] at h;cases h;exact⟨rfl,hi⟩
 ·rw[List.getElem?_eq_none ⇑hi] at h;cases h
def yS(lo)(n):(Vt lo n).length=n:=by simp[Vt]
@[simp] def eq_ss(a b):kZ (.str a) (.str b)=some (.bl<|a==b):=rfl
@[simp] def jnt(a b):Vq (.str a) (.str b)=some (.bl<|!(a==b)):=rfl
@[simp] def in_cs(a)(c)(s):jaQ a (.str [c]) (.str s)=some (.bl<|a != decide (c∈s)):=rfl
@[simp] def neg_i(i):xx (.int i)=some (.int<|-i):=rfl
def jf6(h:a.length+b.length<=100000):jg (.str a) (.str b)=some (.str<|a++b):=by
 show(bif lim (a.length+b.length) then some (D.str<|a++b) else none)=_;rw[jb h];rfl
def jmF(h:a.length<=1000)(b:0<=n)(h1:n<=1000):yj (.str a) (.int n)=some (.str (List.replicate n.toNat a).flatten):=by
 show(bif decide (a.length<=1000)&&(decide (0<=n)&&decide (n<=1000)) then some (D.str (List.replicate n.toNat a).flatten) else none)=_;rw[X1 h,X1 b,X1 h1];rfl
def jpx(a:s.length<=100000)(b:0<=i)(h:i<s.length):jf (.str s) (.int i)=some (.str [s.getD i.toNat 0]):=by
 show(bif lim s.length then((atI s i).bind λc=>some<|D.str [c]) else none)=_;rw[jb a,zX b h];have:i.toNat<s.length:=by lia
 simp[this]
def Jo(xs:List α)  (h:0<=k):j9 xs none (some k)=xs.take k.toNat:=by
 obtain⟨n,rfl⟩:∃ n:Nat,k=n:=⟨k.toNat,by lia⟩;rw[jcW];simp
def VU(xs:List α)  (h:0<=k):j9 xs (some k) none=xs.drop k.toNat:=by
 obtain⟨n,rfl⟩:∃ n:Nat,k=n:=⟨k.toNat,by lia⟩;rw[jdN];simp
def jpk(a:s.length<=100000):jdy lo hi (.str s)=some (.str<|j9 s lo hi):=by
 show(bif lim s.length then some (D.str<|j9 s lo hi) else none)=_;rw[jb a];rfl
@[simp] def itemsOf_str(s):KK (.str s)=some (s.map λc=>D.str [c]):=rfl
@[simp] def fAll_lst(o)(l):jmE [.lst o l]=(Jw l).bind λbs=>some (.bl<|bs.all λb=>b):=rfl
@[simp] def fTuple_lst(o)(l):Qa [.lst o l]=bif frzs l then some (.tup l) else none:=rfl
def jbj(w)(l:W1):ji3 (.str w) (l.map D.str)=true:=by
 unfold ji3;rw[M0];refine⟨rfl,List.all_eq_true.mpr λy a=>?_⟩;obtain⟨z,_,rfl⟩:=M5.mp a;rfl
def jfo(w)(l:W1):inL (.str w) (l.map D.str)=decide (w∈l):=by
 unfold inL;rw[Bool.eq_iff_iff,List.any_eq_true,decide_eq_true_eq];constructor
 ·rintro⟨y,a,e⟩;obtain⟨z,b,rfl⟩:=M5.mp a;have:z=w:=by
   exact eq_of_beq e
  exact this▸b
 ·intro h;exact⟨.str w,M5.mpr ⟨w,h,rfl⟩,by show(w==w)=true;simp⟩
def jh7(a o)(w)(l:W1):jaQ a (.str w) (.lst o<|l.map D.str)=some (.bl<|a != decide (w∈l)):=by
 show(bif ji3 (.str w) (l.map D.str) then some (D.bl<|a != inL (.str w) (l.map D.str)) else none)=_;rw[jbj,jfo];rfl
mutual
theorem jeu:∀(n:Nat) (d:D),okE n d=true->eqD d d=true
 | n,.non,_=>rfl
 | n,.bl _,_=>by show(_==_)=true;simp
 | n,.int _,_=>by show(_==_)=true;simp
 | n,.str _,_=>by show(_==_)=true;simp
 | n+1,.tup l,h=>by rw[eqD];exact YL n l (by simpa [okE] using h)
 | n+1,.lst _ l,h=>by rw[eqD];exact YL n l (by simpa [okE] using h)
 | 0,.tup l,h=>by simp[okE] at h
 | 0,.lst _ l,h=>by simp[okE] at h
 | n,.dK _ _ _,h=>by cases n<;>simp[okE] at h
 | n,.dT _ _ _,h=>by cases n<;>simp[okE] at h
 | n,.ins _ _ _ _,h=>by cases n<;>simp[okE] at h
 | n,.dead,h=>by cases n<;>simp[okE] at h
 | n,.tok _,h=>by cases n<;>simp[okE] at h
 | n,.kt _,h=>by cases n<;>simp[okE] at h
 | n,.exc _ _,h=>by cases n<;>simp[okE] at h
theorem YL:∀(n:Nat) (l:List D),yA n l=true->zh l l=true
 | n,[],_=>rfl
 | n,d::l,h=>by
  rw[yA,M0] at h;rw[zh,jeu n d h.1,YL n l h.2];rfl
end
def yJ(h:∀ d∈l,okE n d=true):yA n l=true:=by rw[KB];exact List.all_eq_true.mpr h
theorem yE:∀{l},(∀ d∈l,frz d=true)->frzs l=true
 | [],_=>rfl
 | d::l,h=>by rw[JC,h d<|by simp,yE λx a=>h x<|by simp[a]];rfl
theorem Jv:∀{l},(∀ d∈l,fz d=d)->fzs l=l
 | [],_=>rfl
 | d::l,h=>by rw[jec,h d<|by simp,Jv λx a=>h x<|by simp[a]]
def qg{f:α->D}(h:∀ x,frz (f x)=true)(l:List α):frzs (l.map f)=true:=yE λd hd=>by obtain⟨p,_,rfl⟩:=M5.mp hd;exact h p
def kX{f:α->D}(h:∀ x,fz (f x)=f x)(l:List α):fzs (l.map f)=l.map f:=Jv λd hd=>by obtain⟨p,_,rfl⟩:=M5.mp hd;exact h p
def jS(h:∀ c∈w,c<1114112):okE n (.str w)=true:=by
 exact List.all_eq_true.mpr λc a=>X1<|h c a
@[simp] def okE_int(n)(i):okE n (.int i)=true:=by cases n<;>rfl
def jiW{l:List Nat}{i N}(h:∀ c∈l,c<N)(a:0<N):l.getD i 0<N:=by
 rw[List.getD_eq_getElem?_getD];cases e:l[i]? with
 | none=>exact a
 | some c=>exact h c<|List.mem_of_getElem? e
theorem uB{G}{Good:D->Prop}{P:Rh->Prop}:∀{xs}(_:∀ x∈xs,∀ ρ,P ρ->∃ ρ1 y,G x ρ=some ρ1/\p ρ1=some y/\Good y/\P ρ1) {ρ}(_:P ρ),∃ ys,An3 (jL G qT p xs ρ=some ys) (ys.length=xs.length)<|∀ y∈ys,Good y
 | [],_,ρ,_=>⟨[],rfl,rfl,by simp⟩
 | x::xs,step,ρ,b=>by
  obtain⟨ρ1,y,c,e2,d,p1⟩:=step x (by simp) ρ b;obtain⟨ys,e3,e,f⟩:=uB (xs:=xs) (λz a=>step z<|by simp[a]) p1;refine⟨y::ys,?_,by simp[e],?_⟩
  ·rw[vA,c];simp[e2,e3]
  ·intro z a;rcases M4.mp a with rfl | a
   ·exact d
   ·exact f z a
theorem KO{f:α->D}{Q:α->Prop}:∀{ys},(∀ y∈ys,∃ a,y=f a/\Q a)->∃ l:List α,ys=l.map f/\∀ a∈l,Q a
 | [],_=>⟨[],rfl,by simp⟩
 | y::ys,h=>by
  obtain⟨a,e,q⟩:=h y (by simp);obtain⟨l,e2,c⟩:=KO (ys:=ys) λz d=>h z (by simp[d]);exact⟨a::l,by rw[e,e2];rfl,λb g=>(M4.mp g).elim (λz=>z▸q) (c b)⟩
def joA(a:frzs l=true):jdy lo hi (.lst o l)=some (.lst true<|j9 l lo hi):=by
 show(bif frzs l then some (D.lst true<|j9 l lo hi) else none)=_;rw[a];rfl
def jfJ(a:0<=i)(h:i<l.length):jf (.lst o l) (.int i)=l[i.toNat]?:=zX a h
def jja(a:0<=i)(h:i<l.length):jf (.tup l) (.int i)=l[i.toNat]?:=zX a h
def Wd(w:List Nat):Prop:=w.length<=30/\∀ c∈w,c<1114112
@[simp] def Ki(l:W1):fzs (l.map D.str)=l.map D.str:=by
 rw[vG,U1];rfl
@[simp] def kj(l:W1):frzs (l.map D.str)=true:=by
 rw[Yz,List.all_map,List.all_eq_true];intro x _;rfl
@[simp] def cleans_strs(l:W1):jZ (l.map D.str)=true:=by
 rw[yP,List.all_map,List.all_eq_true];intro x _;rfl
def Qd{n}{l:W1}(h:∀ w∈l,Wd w):yA n (l.map D.str)=true:=
 yJ λd hd=>by
  obtain⟨w,a,rfl⟩:=M5.mp hd;exact jS (h w a).2
def kI{l:W1}{i:Int}(a:0<=i)(h:i<l.length):jf (.lst o<|l.map D.str) (.int i)=some (.str<|l.getD i.toNat []):=by
 rw[jfJ a<|by rw[L1];exact h,List.getElem?_map,List.getD_eq_getElem?_getD,X6 ∅];rfl
def yn{l:List α}{i}(h:i<l.length):l.getD i d∈l:=by
 rw[List.getD_eq_getElem?_getD,X6 h];exact List.getElem_mem h
def KS(f:α->β)(l)(lo hi):j9 (l.map f) lo hi=(j9 l lo hi).map f:=by
 unfold j9;rw[L1,List.map_take,List.map_drop]
def j7(h:x∈j9 l lo hi):x∈l:=List.mem_of_mem_drop<|List.mem_of_mem_take h
def yW(l:List α)(lo hi):(j9 l lo hi).length<=l.length:=by
 unfold j9;rw[X7,List.length_drop]
 lia
def v9(h:l.Nodup):(j9 l lo hi).Nodup:=(h.sublist<|List.drop_sublist _ _).sublist (List.take_sublist _ _)
def kD(o)(l)(lo hi):jdy lo hi (.lst o<|l.map D.str)=some (.lst true<|(j9 l lo hi).map D.str):=by
 rw[joA<|kj l,KS]
def ui{a b:W1}(h:a.length+b.length<=100000):jg (.lst o<|a.map D.str) (.lst o'<|b.map D.str)=some (.lst true<|(a++b).map D.str):=by
 show(bif lim ((a.map D.str).length+(b.map D.str).length)&&(frzs (a.map D.str)&&frzs (b.map D.str)) then some (D.lst true<|a.map D.str++b.map D.str) else none)=_;rw[kj,kj,L1,L1,jb h,N5];rfl
def QF:∀{l:W1}{x},x∈jM s (l.map D.str)->Ex2 λ(i:Nat) (c:List Nat)=>An4 (x=.tup [.int i,.str c]) (s<=i) (i<s+l.length) (c∈l):=by
 intro l
 induction l generalizing s with
 | nil=>intro x h;cases h
 | cons c l a=>
  intro x h;rcases M4.mp h with rfl | h
  ·exact⟨s,c,rfl,M8 _,by simp,by simp⟩
  ·obtain⟨i,b,e,f,g,d⟩:=a h;exact⟨i,b,e,by lia,by rw[M1];lia,by simp[d]⟩
def kz(St:List α->Rh->Prop)(Ok:α->Prop)(b M):∀{xs}{acc}{ρ},
  (∀ x∈xs,∀ acc ρ,acc.length<=M->(∀ a∈acc,Ok a)->St acc ρ->∃ ρ1 ρ2 L,G x ρ=some ρ1/\f ρ1=some (.nx ρ2)/\L.length<=b/\(∀ a∈L,Ok a)/\St (acc++L) ρ2) ->
  acc.length+b*xs.length<=M->(∀ a∈acc,Ok a)->St acc ρ->Ex2 λρ' T=>An4 (jI G f xs ρ=some (.nx ρ')) (St (acc++T) ρ') (T.length<=b*xs.length) (∀ a∈T,Ok a):=by
 intro xs
 induction xs with
 | nil=>
  intro acc ρ step g c d;exact⟨ρ,[],rfl,by rw[M9];exact d,by simp,by simp⟩
 | cons x xs i=>
  intro acc ρ step g c d;rw[M1,Nat.mul_succ] at g;obtain⟨ρ1,ρ2,L,j,e2,n,h,k⟩:=step x (by simp) acc ρ ∅ c d;obtain⟨ρ',T,e3,l,o,e⟩:=i (λy m=>step y<|by simp[m]) (by rw[N4];lia) (λa q=>(N2.mp q).elim (c a) (h a)) k;refine⟨ρ',L++T,?_,by rw[<- List.append_assoc];exact l,by rw[N4,M1,Nat.mul_succ];lia,λa q=>(N2.mp q).elim (h a) (e a)⟩;rw[jK,j,L4,e2,L4,YM,e3]
def jcQ(en)(g:β->γ)(St:List α->Rh->Prop)(Ok:α->Prop)(b)(N):∀{C:List β}{s}{acc}{ρ},
  (∀ i c acc ρ,i<N->c∈C->acc.length<N->St acc ρ->∃ ρ1 ρ2 a,G (.tup [.int i,en c]) ρ=some ρ1/\f ρ1=some (.nx ρ2)/\b a=g c/\Ok a/\St (acc++[a]) ρ2) ->
  s+C.length<=N->acc.length+C.length<=N->St acc ρ->Ex2 λρ' T=>An4 (jI G f (jM s<|C.map en) ρ=some (.nx ρ')) (St (acc++T) ρ') (T.map b=C.map g) (∀ a∈T,Ok a):=by
 intro C
 induction C with
 | nil=>
  intro s acc ρ step h j d;exact⟨ρ,[],rfl,by rw[M9];exact d,rfl,by simp⟩
 | cons c C l=>
  intro s acc ρ step h j d;rw[M1] at h j;obtain⟨ρ1,ρ2,a,m,e2,n,o,p⟩:=step s c acc ρ ∅ (by simp) ∅ d;obtain⟨ρ',T,e3,k,r,e⟩:=l (s:=s+1) (λi y acc ρ hi t=>step i y acc ρ hi<|by simp[t]) ∅ (by rw[N4];simp only[M1,List.length_nil];lia) p;refine⟨ρ',a::T,?_,by rw[List.append_assoc] at k;exact k,by rw[L5,L5,n,r],λx q=>(M4.mp q).elim (λz=>z▸o) (e x)⟩;rw[L5,jM,jK,m,L4,e2,L4,YM,e3]
def xP(St:List α->Rh->Prop)(Ok:α->Prop)(b)(N) 
  (step:∀ i c acc ρ,i<N->c∈C->acc.length<N->St acc ρ->∃ ρ1 ρ2 a,G (.tup [.int i,.str c]) ρ=some ρ1/\f ρ1=some (.nx ρ2)/\b a=c/\Ok a/\St (acc++[a]) ρ2)
  (h1:s+C.length<=N) (h2:acc.length+C.length<=N) (d:St acc ρ):Ex2 λρ' T=>An4 (jI G f (jM s<|C.map D.str) ρ=some (.nx ρ')) (St (acc++T) ρ') (T.map b=C) (∀ a∈T,Ok a):=by
 obtain⟨ρ',T,e,h,g,j⟩:=jcQ D.str id St Ok b N step h1 h2 d;exact⟨ρ',T,e,h,by rw[g,List.map_id],j⟩
def jfx(St:List (List Nat)->Rh->Prop)(N):∀{C}{s}{acc}{ρ},
  (∀ i c acc ρ,i<N->c∈C->acc.length<N->St acc ρ->∃ ρ1 ρ2,G (.tup [.int i,.str c]) ρ=some ρ1/\f ρ1=some (.nx ρ2)/\(St (acc++[c]) ρ2\/St acc ρ2)) ->
  s+C.length<=N->acc.length+C.length<=N->St acc ρ->Ex2 λρ' T=>An3 (jI G f (jM s<|C.map D.str) ρ=some (.nx ρ')) (St (acc++T) ρ') (T.Sublist C):=by
 intro C
 induction C with
 | nil=>
  intro s acc ρ step h j d;exact⟨ρ,[],rfl,by rw[M9];exact d,.slnil⟩
 | cons c C k=>
  intro s acc ρ step h j d;rw[M1] at h j;obtain⟨ρ1,ρ2,l,e2,a⟩:=step s c acc ρ ∅ (by simp) ∅ d;rcases a with a | a
  ·obtain⟨ρ',T,e3,b,e⟩:=k (s:=s+1) (λi y acc ρ hi g=>step i y acc ρ hi<|by simp[g]) ∅ (by rw[N4];simp only[M1,List.length_nil];lia) a;refine⟨ρ',c::T,?_,by rw[List.append_assoc] at b;exact b,e.cons_cons c⟩;rw[L5,jM,jK,l,L4,e2,L4,YM,e3]
  ·obtain⟨ρ',T,e3,b,e⟩:=k (s:=s+1) (λi y acc ρ hi g=>step i y acc ρ hi<|by simp[g]) ∅ ∅ a;refine⟨ρ',T,?_,b,e.cons c⟩;rw[L5,jM,jK,l,L4,e2,L4,YM,e3]
def Vz{G}{l:List α}{en out}{b}(P:Rh->Prop)(step:∀ x∈l,∀ ρ,P ρ->∃ ρ1,G (en x) ρ=some ρ1/\q ρ1=some (b x)/\p ρ1=some (out x)/\P ρ1){ρ}(a:P ρ):jL G q p (l.map en) ρ=some ((l.filter b).map out):=by
 induction l generalizing ρ with
 | nil=>rfl
 | cons x l c=>
  obtain⟨ρ1,d,e2,e3,p1⟩:=step x L7 ρ a;have:=c (λy e=>step y<|L6 _ e) p1;rw[L5,vA,d,L4,e2,L4];cases hb:b x with
  | true=>simp[e3,this,hb]
  | false=>simp[this,hb]
mutual
theorem jkv:∀(n:Nat) (d:D),okE n d=true->eqD (fz d) d=true
 | n,.non,_=>rfl
 | n,.bl _,_=>by show(_==_)=true;simp
 | n,.int _,_=>by show(_==_)=true;simp
 | n,.str _,_=>by show(_==_)=true;simp
 | n+1,.tup l,h=>by rw[fz,eqD];exact xk n l (by simpa [okE] using h)
 | n+1,.lst _ l,h=>by rw[fz,eqD];exact xk n l (by simpa [okE] using h)
 | 0,.tup l,h=>by simp[okE] at h
 | 0,.lst _ l,h=>by simp[okE] at h
 | n,.dK _ _ _,h=>by cases n<;>simp[okE] at h
 | n,.dT _ _ _,h=>by cases n<;>simp[okE] at h
 | n,.ins _ _ _ _,h=>by cases n<;>simp[okE] at h
 | n,.dead,h=>by cases n<;>simp[okE] at h
 | n,.tok _,h=>by cases n<;>simp[okE] at h
 | n,.kt _,h=>by cases n<;>simp[okE] at h
 | n,.exc _ _,h=>by cases n<;>simp[okE] at h
theorem xk:∀(n:Nat) (l:List D),yA n l=true->zh (fzs l) l=true
 | n,[],_=>rfl
 | n,d::l,h=>by
  rw[yA,M0] at h;rw[fzs,zh,jkv n d h.1,xk n l h.2];rfl
end
mutual
theorem jba:∀(n:Nat) (d e:D),okE n d=true->fz d=fz e->eqD d e=true
 | n,.non,e,_,h=>by cases e<;>simp[fz] at h;rfl
 | n,.bl _,e,_,h=>by cases e<;>simp[fz] at h;subst h;show(_==_)=true;simp
 | n,.int _,e,_,h=>by cases e<;>simp[fz] at h;subst h;show(_==_)=true;simp
 | n,.str _,e,_,h=>by cases e<;>simp[fz] at h;subst h;show(_==_)=true;simp
 | n+1,.tup l,e,h,q=>by
  cases e<;>simp[fz] at q;rw[eqD];exact zt n l _ (by simpa [okE] using h) q
 | n+1,.lst _ l,e,h,q=>by
  cases e<;>simp[fz] at q;rw[eqD];exact zt n l _ (by simpa [okE] using h) q
 | 0,.tup l,e,h,_=>by simp[okE] at h
 | 0,.lst _ l,e,h,_=>by simp[okE] at h
 | n,.dK _ _ _,e,h,_=>by cases n<;>simp[okE] at h
 | n,.dT _ _ _,e,h,_=>by cases n<;>simp[okE] at h
 | n,.ins _ _ _ _,e,h,_=>by cases n<;>simp[okE] at h
 | n,.dead,e,h,_=>by cases n<;>simp[okE] at h
 | n,.tok _,e,h,_=>by cases n<;>simp[okE] at h
 | n,.kt _,e,h,_=>by cases n<;>simp[okE] at h
 | n,.exc _ _,e,h,_=>by cases n<;>simp[okE] at h
theorem zt:∀(n:Nat) (l m:List D),yA n l=true->fzs l=fzs m->zh l m=true
 | n,[],[],_,_=>rfl
 | n,[],_::_,_,q=>by simp[fzs] at q
 | n,_::_,[],_,q=>by simp[fzs] at q
 | n,d::l,e::m,h,q=>by
  rw[yA,M0] at h;rw[fzs,fzs] at q;injection q with q1 q2;rw[zh,jba n d e h.1 q1,zt n l m h.2 q2];rfl
end
def Vd(h:okE 20 d=true)(h':okE 20 e=true)(q:fz d=fz e)(a:qA d=false:=by rfl):Vq d e=some (.bl false):=by
 unfold Vq;rw[a,h,h',jba 20 d e h q];rfl
def jck(h:okE 20 d=true)(h':okE 20 e=true)(q:fz d=fz e)(a:qA d=false:=by rfl):kZ d e=some (.bl true):=by
 unfold kZ;rw[a,h,h',jba 20 d e h q];rfl
theorem Y2:∀ l:List (List Nat×D),Y8 (l.map λp=>.tup [.str p.1,p.2])=some (l.map λp=>(KA.str p.1,p.2))
 | []=>rfl
 | p::l=>by
  rw[L5,Y8,Y2 l];rfl
theorem Vi:∀(ps:List<|KA×D) ks vs,(ks++ps.map (·.1)).Nodup->ps.foldl (λacc kv=>qc acc.1 acc.2 kv.1 kv.2) (ks,vs)=(ks++ps.map (·.1),vs++ps.map (·.2))
 | [],ks,vs,_=>by simp
 | p::ps,ks,vs,h=>by
  have a:p.1∉ks:=by
   intro z;exact(U9.mp h).2.2 p.1 z p.1 (by simp) rfl
  have b:qc ks vs p.1 p.2=(ks++[p.1],vs++[p.2]):=by unfold qc;rw[if_neg a]
  show ps.foldl _ (qc ks vs p.1 p.2)=_;rw[b,Vi ps (ks++[p.1]) (vs++[p.2]) ⇑h];simp
def VZ{l:List (List Nat×D)}(f:(l.map (·.1)).Nodup)(g:∀ p∈l,frz p.2=true)(i:l.length<=100000):vh [.lst o<|l.map λp=>.tup [.str p.1,p.2]]=some (.dK true (l.map λp=>KA.str p.1) (l.map (·.2))):=by
 have j:((l.map λp=>(KA.str p.1,p.2)).map (·.1)).Nodup:=by
  rw[U1];have:((λx:KA×D=>x.1) ∘ λp:List Nat×D=>(KA.str p.1,p.2))=KA.str ∘ (·.1):=rfl;rw[this,<- U1];exact List.Pairwise.map _ (λa b h z=>h<|by cases z;rfl) f
 show((Y8<|l.map λp=>.tup [.str p.1,p.2]).bind λc=>bif frzs (c.map (·.2))&&lim c.length then some (D.dK true (z5 c).1 (z5 c).2) else none)=_;rw[Y2,L4];have e:((l.map λp=>(KA.str p.1,p.2)).map (·.2))=l.map (·.2):=by rw[U1];rfl
 rw[e,yE (by intro d hd;obtain⟨p,k,rfl⟩:=M5.mp hd;exact g p k),L1,jb i];unfold z5;rw[Vi (l.map λp=>(KA.str p.1,p.2)) [] [] ⇑j,e];simp[U1]
noncomputable def lkp{α:Type}(w:List Nat):List (List Nat×α)->Option α
 | []=>none
 | p::l=>if p.1=w then some p.2 else lkp w l
theorem Q9(w):∀ l:List (List Nat×D),K3 (l.map λp=>KA.str p.1) (l.map (·.2)) (.str w)=lkp w l
 | []=>rfl
 | p::l=>by
  rw[L5,L5,K3,lkp,Q9 w l];by_cases h:p.1=w
  ·rw[if_pos h,if_pos<|by rw[h]]
  ·rw[if_neg h,if_neg<|λz=>h<|by cases z;rfl]
theorem jc8(f:α->β)(w):∀ l:List (List Nat×α),lkp w (l.map λp=>(p.1,f p.2))=(lkp w l).map f
 | []=>rfl
 | p::l=>by
  rw[L5,lkp,lkp,jc8 f w l];by_cases h:p.1=w
  ·rw[if_pos h,if_pos h];rfl
  ·rw[if_neg h,if_neg h]
theorem wy:∀{l:List (List Nat×α)},w∈l.map (·.1)->∃ a,lkp w l=some a/\(w,a)∈l
 | [],h=>by cases h
 | p::l,h=>by
  rw[lkp];by_cases e:p.1=w
  ·rw[if_pos e];exact⟨p.2,rfl,by rw[<- e];simp⟩
  ·rw[if_neg e];obtain⟨a,b,c⟩:=wy<|(M4.mp h).resolve_left λz=>e z.symm;exact⟨a,b,by simp[c]⟩
noncomputable def dct(o:Bool)(N:W1)(f:List Nat->Int):D:=.dK o (N.map KA.str)<|N.map λn=>D.int<|f n
theorem Yr(f:List Nat->Int):∀{N:W1},c∈N->K3 (N.map KA.str) (N.map λn=>D.int<|f n) (.str c)=some (.int<|f c)
 | [],h=>by cases h
 | n::N,h=>by
  rw[L5,L5,K3];by_cases e:n=c
  ·rw[if_pos<|by rw[e],e]
  ·rw[if_neg λz=>e<|by cases z;rfl];exact Yr f<|(M4.mp h).resolve_left λz=>e z.symm
def yu(h:c∈N):yB (dct o N f) (.str c)=some (.int<|f c):=Yr f h
theorem xY(f:List Nat->Int)(c)(v):∀ N:List (List Nat),jbV (N.map KA.str) (N.map λn=>D.int<|f n) (.str c) (.int v)=N.map λn=>D.int (if n=c then v else f n)
 | []=>rfl
 | n::N=>by
  rw[L5,L5,jbV,xY f c v N,L5];by_cases e:n=c
  ·rw[if_pos<|by rw[e],if_pos e]
  ·rw[if_neg λz=>e (by cases z;rfl),if_neg e]
def uG{N:W1}{f:List Nat->Int}{c}{v}(h:c∈N):qc (N.map KA.str) (N.map λn=>D.int<|f n) (.str c) (.int v)=(N.map KA.str,N.map λn=>D.int<|if n=c then v else f n):=by
 unfold qc;rw[if_pos<|M5.mpr ⟨c,h,rfl⟩,xY]
theorem Q5:∀{l:List (List Nat×α)},(l.map (·.1)).Nodup->∀ p∈l,lkp p.1 l=some p.2
 | [],_,_,h=>by cases h
 | q::l,a,p,h=>by
  rw[L5,List.nodup_cons] at a;rw[lkp];rcases M4.mp h with rfl | h
  ·rw[if_pos rfl]
  ·rw[if_neg λz=>a.1<|by rw[z];exact M5.mpr ⟨p,h,rfl⟩];exact Q5 a.2 p h
def fnOf(S:List<|List Nat×Int)(n:List Nat):Int:=(lkp n S).getD 0
def jab{S}(a:(S.map (·.1)).Nodup){p}(h:p∈S):fnOf S p.1=p.2:=by
 unfold fnOf;rw[Q5 a p h];rfl
def yI{S}(b:(S.map (·.1)).Nodup)(c:S.length<=100000):vh [.lst o<|S.map λp=>.tup [.str p.1,.int p.2]]=some (dct true (S.map (·.1))<|fnOf S):=by
 have e:=VZ (o:=o) (l:=S.map λq=>(q.1,D.int q.2)) (by rw[U1];exact b) (by intro q d;obtain⟨a,_,rfl⟩:=M5.mp d;rfl) (by rw[L1];exact c);rw[U1,U1,U1] at e;refine e.trans ?_;unfold dct;rw[U1,U1];congr 2;refine List.map_congr_left λp f=>?_;show D.int p.2=D.int (fnOf S p.1);rw[jab b f]
def uF(N:W1)(f:List Nat->Int):frzs (N.map λn=>D.int<|f n)=true:=yE λd hd=>by
 obtain⟨n,_,rfl⟩:=M5.mp hd;rfl
def QZ(N:W1)(f:List Nat->Int):(((N.map KA.str).zip (N.map λn=>D.int<|f n)).map λp=>D.tup [kaD p.1,p.2])=N.map λn=>D.tup [.str n,.int<|f n]:=by
 induction N with
 | nil=>rfl
 | cons n N a=>
  rw[L5,L5,U7,L5,L5,a];rfl
@[simp] def dkOf_dct(N)(f):jfZ (dct true N f)=some (N.map KA.str,N.map λn=>D.int<|f n):=rfl
variable {ρ:Rh}{fa fb fe:FE}{ft fu:FT'}{fr:FA}{p:PAf}{pi:PAf}{g:D->D->Option D}{gl:List D->Option D}{G:D->Rh->Option Rh}{f:FS}{m:List D->Option (D×D)}{mp:List D->Option D}{i j:Nat}
@[simp] def dCBx_e:dCB gl fr ρ=(fr ρ).bind λr=>(gl r.1).bind λz=>some (z,r.2):=rfl
@[simp] def oF_e:oF g x y=(g x y).bind λd=>bif frz d then some d else none:=rfl
def jlB:pV i ρ=(ρ[i]?).join:=by
 unfold pV;cases h:ρ[i]? with
 | none=>rfl
 | some o=>cases o<;>rfl
noncomputable def jn0:Option D->Bool
 | some (.lst true _)=>true
 | _=>false
@[simp] def ownD_e:jn0 (some<|.lst true l)=true:=rfl
def joP(i:Nat)(r:D×Rh):Option D->Option Out
 | some (.lst true l)=>bif lim l.length then some (.nx<|r.2.set i<|some<|.lst true<|l++[r.1]) else none
 | _=>none
@[simp] def appD_e:joP i r (some<|.lst true l)=(bif lim l.length then some (.nx<|r.2.set i<|some<|.lst true<|l++[r.1]) else none):=rfl
@[simp] def sAppE_e:zB i fe ρ=(bif jn0 (pV i ρ) then(fe ρ).bind (λr=>joP i r<|pV i r.2) else none):=by
 have a:jcf ρ[i]?=jn0 (pV i ρ):=by
  rw[jlB];cases h:ρ[i]? with
  | none=>rfl
  | some o=>
   cases o with
   | none=>rfl
   | some d=>
    cases d with
    | lst b l=>cases b<;>rfl
    | _=>rfl
 have c:jcC i=λr=>joP i r (pV i r.2):=by
  funext r
  unfold jcC;rw[jlB];cases h:r.2[i]? with
  | none=>rfl
  | some o=>
   cases o with
   | none=>rfl
   | some d=>
    cases d with
    | lst b l=>cases b<;>rfl
    | _=>rfl
 unfold zB;rw[a,c]
end QD
namespace L2
open PySem PySem.Spec PyProof.Rows
end L2
namespace QD
open PySem L2 PySem.Spec PyProof.Rows
noncomputable def Yn:Int->List D->List D
 | _,[]=>[]
 | n,x::l=>.tup [.int n,x]::Yn (n+1) l
theorem Qn:∀ n l,(Yn n l).length=l.length
 | _,[]=>rfl
 | n,x::l=>by rw[Yn,M1,M1,Qn]
theorem Qr:∀ n l (i:Nat) y,(Yn n l)[i]?=some y->∃ x,l[i]?=some x/\y=.tup [.int<|n+i,x]
 | _,[],_,_,e=>by simp[Yn] at e
 | n,x::l,0,y,e=>by simp[Yn] at e;exact⟨x,rfl,by rw[<- e];simp⟩
 | n,x::l,i+1,y,e=>by
  obtain⟨z,a,e2⟩:=Qr (n+1) l i y (by simpa [Yn] using e);exact⟨z,by simpa using a,by rw[e2];congr 3;lia⟩
def jj0(p:PAf)(q:PF)(ρ:Rh):Option (List D):=(p ρ).bind λx=>(jdY x).bind λx=>(jfD x).bind λl=>(q ρ).bind λy=>(vp y).bind λn=>bif VG n then some (Yn n<|fzs l) else none
def jky(h:PPs R ta p)(d:PB R tb q):PIt R (jnm R.K ta tb) (jj0 p q):=by
 intro σ ρ Z H O C z s e Q k;refine ob e λx f e=>ob e λy e3 e=>ob e λl g e=>ob e λD e2 e=>ob e λn e5 e=>oc e λi e=>?_;cases e;cases jB e5;obtain⟨o,rfl⟩:=Yb g;cases kE e3;refine h z s f λ{vs j E m} r r1=>?_;obtain⟨v,rfl,r2⟩:=r1.one_of;obtain⟨a,ws,F,rfl,t,w,rfl,_⟩:=(r2.freeze (Z':=λa=>j a\/a∈m) (λa z=>.inl z) λa z=>.inr z);have b:=r.fz;refine d b.wf.zd (b.slots z s) e2 λ{u G I J} g2 A=>?_;obtain⟨rfl,_⟩:=A.int_of;have c:=w.frame g2.zz<|λa z=>g2.same a<|b.wf.zd a z;have L:=Vn i;refine⟨a,ws,n,rfl,rfl,by unfold Builtin.SmallTypes.fitsIndex;simp;lia,FL.sq c,k (b.pair g2) ?_⟩;exact jaW c (t.frame g2.zz (λa z=>g2.same a<|b.wf.zd a z)<|λa B=>(nomatch B)) (Qn _ _)<|Qr _ _
noncomputable def zO:List (List KA)->List D->List KA->Option D
 | k::ks,d::l,a=>if k=a then some d else zO ks l a
 | _,_,_=>none
def Kz{a b:List KA}(h:a.map kaV=b.map kaV):a=b:=by
 induction a generalizing b with
 | nil=>cases b with
  | nil=>rfl
  | cons y b=>simp at h
 | cons x a c=>cases b with
  | nil=>simp at h
  | cons y b=>
   simp only[L5,List.cons.injEq] at h;rw[K1 h.1,c h.2]
theorem YB:∀{ks}{l}{vs}{O}{a},Reps R Z H l vs O->ks.length=l.length ->
  (∀ d,zO ks l a=some d->∃ v P,Vr ((ks.map<|List.map kaV).zip vs) (a.map kaV)=some v/\Rep R Z H d v P)/\(zO ks l a=none->Vr ((ks.map<|List.map kaV).zip vs) (a.map kaV)=none)
 | [],l,vs,O,a,r,c=>⟨λd e=>(by cases l<;>cases e),λ_=>rfl⟩
 | k::ks,[],vs,O,a,r,c=>by simp at c
 | k::ks,x::l,vs,O,a,r,c=>by
  obtain⟨v,b,f,i,rfl,rfl,r1,r2⟩:=r;by_cases e:k=a
  ·subst e;refine⟨λd h=>?_,λh=>?_⟩
   ·simp only[zO,if_true] at h;cases h;exact⟨v,f,Ju rfl,r1⟩
   ·simp[zO] at h
  ·have g:=λz=>e<|Kz z;have q:Vr (((k::ks).map (List.map kaV)).zip (v::b)) (a.map kaV)=Vr ((ks.map<|List.map kaV).zip b) (a.map kaV):=JL g;rw[q];simp only[zO,if_neg e];exact(YB (a:=a) r2 ⇑c)
abbrev jew(ta tb:TE):TE:=ut<|jC ta<|jC tb JO
def jjL(pa pb:PF)(ρ:Rh):Option (List KA):=(pa ρ).bind λx=>(pb ρ).bind λy=>(qd x).bind λa=>(qd y).bind λb=>some [a,b]
def Yu (d : PB R ta pa) (f : PB R tb pb)  (z : Zd Z H) (s : Slots R Z H ρ σ O) (e : jjL pa pb ρ = some k)
     (go:∀{p}{Z'}{H'},Go Z H [] Z' H' []->Z' p->H' p=some (.tup<|(k.map kaV).map kV)->Q (.ref p) H'):jew ta tb σ H Q:=by
 refine ob e λx g e=>ob e λy e2 e=>ob e λa e3 e=>ob e λb h e=>?_;cases e;refine d z s g λ{v j l m} c r1=>(f c.wf.zd (c.slots z s) e2 λ{u n o q} g2 r2=>?_);obtain⟨rfl,_⟩:=vB e3 r1;obtain⟨rfl,_⟩:=vB h r2;refine⟨by show 2<=sizeLine;decide,λp i=>?_⟩;exact go ((c.pair g2).trans (Go.newF g2.wf i)) (.inr rfl) jk
def Rep.dT_of(r:Rep R Z H (.dT o ks l) v O):Ex3 λa vs O'=>An4 (v=.ref a) (H a=some (.dT<|(ks.map<|List.map kaV).zip vs)) (Reps R Z H l vs O') (ks.length=l.length):=by
 obtain⟨a,vs,O',rfl,b,c,d,_⟩:=r;exact⟨a,vs,O',rfl,d,b,c⟩
def Qg(x:D)(k:List KA)(z:D):Option D:=match x with
 | .dT _ ks l=>some<|(zO ks l k).getD z
 | _=>none
@[simp] def opTGet_e(o)(ks)(l)(k)(z):Qg (.dT o ks l) k z=some ((zO ks l k).getD z):=rfl
@[simp] def jby(pd:PF)(pa:PF)(pb:PF)(pc:PF)(ρ:Rh):Option D:=(pd ρ).bind λx=>(jjL pa pb ρ).bind λk=>(pc ρ).bind λz=>Qg x k z
@[simp] def pKey_e:jjL pa pb ρ=(pa ρ).bind λx=>(pb ρ).bind λy=>(qd x).bind λa=>(qd y).bind λb=>some [a,b]:=rfl
def jeD(hd:PB R td pd)(n:PB R ta pa)(q:PB R tb pb)(r:PB R tx pc):PB R (jb4 td (jew ta tb) tx) (jby pd pa pb pc):=by
 intro σ ρ Z H O d z s e Q k;refine ob e λx u e=>ob e λy e2 e=>ob e λc A e=>?_;cases x with
 | dT o B l=>
  cases e;refine hd z s u λ{v K L M} j r1=>?_;obtain⟨p,vs,N,rfl,C,S,T⟩:=r1.dT_of;refine⟨p,rfl,.inr ⟨_,.inl C⟩,(Yu n q j.wf.zd (j.slots z s) e2 λ{b U V} g2 W m=>?_)⟩;have a:=j.pair g2;refine r g2.wf.zd (a.slots z s) A λ{t Z3 D X} g3 E=>?_;obtain⟨Y,F,G,I,f,g,h,_⟩:=((g2.pair g3).rep j.wf.zd r1);cases I;have i:D b=some (.tup<|(y.map kaV).map kV):=by rw[g3.same b<|by rw[m];exact λz=>(nomatch z)];exact m
  cases ev:zO B l y with
  | none=>exact⟨none,(YB f g).2 ev▸DGet.t h i,k (a.pair g3)<|by rw[ev];exact E⟩
  | some d=>
   obtain⟨w,P,J,rw⟩:=(YB f g).1 d ev;exact⟨some w,J▸DGet.t h i,k (a.pair g3)<|by rw[ev];exact rw⟩
 | _=>cases e
noncomputable def jeM:List (List KA)->List D->List KA->D->List D
 | k::ks,x::l,a,d=>(if k=a then d else x)::jeM ks l a d
 | _,_,_,_=>[]
theorem wU:∀{ks}{l} a d,ks.length=l.length->(jeM ks l a d).length=l.length
 | [],[],_,_,_=>rfl
 | [],_::_,_,_,h=>by simp at h
 | _::_,[],_,_,h=>by simp at h
 | k::ks,x::l,a,d,h=>by rw[jeM,M1,M1,wU a d ⇑h]
theorem uC(rd:Rep R Z H d v [])(a):∀{ks}{l}{vs}{O},Reps R Z H l vs O->ks.length=l.length ->
  Ex2 λvs2 O2=>An3 (Reps R Z H (jeM ks l a d) vs2 O2) ((ks.map<|List.map kaV).zip vs2=((ks.map<|List.map kaV).zip vs).map (λkv=>if kv.1=a.map kaV then(kv.1,v) else kv))<|O2.Sublist O
 | [],[],vs,O,r,b=>by
  obtain⟨rfl,rfl⟩:=r;exact⟨[],[],.empty,rfl,.slnil⟩
 | [],_::_,_,_,_,h=>by simp at h
 | _::_,[],_,_,_,h=>by simp at h
 | k::ks,x::l,vs,O,r,b=>by
  obtain⟨w,i,j,O2,rfl,rfl,r1,r2⟩:=r;obtain⟨c,f,g,e3,sl⟩:=uC rd a r2 ⇑b;by_cases e:k=a
  ·subst e;refine⟨v::c,[]++f,?_,?_,(sl.trans<|List.sublist_append_right _ _)⟩
   ·rw[jeM,if_pos rfl];exact Reps.cons rd g
   ·simp only[L5,U7,if_true,e3]
  ·have m:=λz=>e<|Kz z;refine⟨w::c,j++f,?_,?_,(List.Sublist.append (List.Sublist.refl _) sl)⟩
   ·rw[jeM,if_neg e];exact Reps.cons r1 g
   ·simp only[L5,U7,if_neg m,e3]
theorem uq(a):∀{ks:List (List KA)}{vs:List V},ks.length=vs.length->(((ks.map<|List.map kaV).zip vs).any λkv=>decide<|kv.1=a.map kaV)=decide (a∈ks)
 | [],vs,_=>by simp
 | k::ks,[],h=>by simp at h
 | k::ks,v::vs,h=>by
  rw[L5,U7,List.any_cons,uq a ⇑h];by_cases e:k=a
  ·subst e;simp
  ·have b:¬ (k.map kaV=a.map kaV):=λz=>e<|Kz z;have e2:¬ (a=k):=λz=>e z.symm;simp[b,e2]
def KL(ks:List<|List KA)(l:List D)(a:List KA)(d:D):List (List KA)×List D:=if a∈ks then(ks,jeM ks l a d) else(ks++[a],l++[d])
def KH(rd:Rep R Z H d v [])(a)  (r:Reps R Z H l vs O) (b:ks.length=l.length):
  Ex2 λvs2 O2=>An4 (Reps R Z H (KL ks l a d).2 vs2 O2) ((((KL ks l a d).1).map (List.map kaV)).zip vs2=Jl ((ks.map<|List.map kaV).zip vs) (a.map kaV) v) (O2.Sublist O) ((KL ks l a d).1.length=(KL ks l a d).2.length):=by
 have c:ks.length=vs.length:=by rw[r.length];exact b
 unfold KL Jl;rw[uq a c];by_cases e:a∈ks
 ·rw[if_pos e,X1 e,if_pos rfl];obtain⟨f,P,r2,e2,sl⟩:=uC rd a r b;exact⟨f,P,r2,e2,sl,by rw[wU a d b];exact b⟩
 ·rw[if_neg e,X2 e,if_neg<|λz=>(nomatch z)];refine⟨vs++[v],O++[],r.append<|Reps.one rd,?_,by simp,by simp[b]⟩;rw[N5,List.zip_append ⇑c];rfl
@[simp] def jhX(i:Nat)(pa:PF)(pb:PF)(pv:PF)(ρ:Rh):Option Out:=(pv ρ).bind λd=>(pV i ρ).bind λx=>(jij x).bind λp=>(jjL pa pb ρ).bind λa=>bif frz d&&lim p.1.length then some (.nx<|ρ.set i<|some<|.dT true (KL p.1 p.2 a d).1 (KL p.1 p.2 a d).2) else none
def jhO{R}{pm}{i}{ta tb tv}{pa pb pv}(n:PB R ta pa)(p:PB R tb pb)(q:PB R tv pv):DS R pm (jdL (yg i) (jew ta tb) tv) (jhX i pa pb pv):=by
 intro σ ρ Z H O o w s e I k;refine ob e λd r e=>ob e λx v e=>ob e λ⟨J,l⟩ y e=>ob e λc e2 e=>oc e λg e=>?_;cases e;cases z6 y;rw[M0] at g;refine q w.zd s r λ{u K L M} f r1=>?_;cases r1.nil g.1;have m:=f.widen w;have s1:=f.slots w.zd s;refine kW qX m.wf s1 v rfl je4 λa _ vs N z h A B put=>B<|Yu n p f.wf.zd s1 e2 λ{b P Q} g2 S C=>?_;obtain⟨D,T,E,F,sl,j⟩:=KH (g2.rep f.wf.zd r1) c (g2.reps f.wf.zd z) h;obtain⟨U,g3,G⟩:=put je4 j g2 E ⇑sl.count_le;refine⟨a,_,rfl,DPut.t (g2.at0 A) C<|KZ g.2,?_⟩;rw[<- F];exact k (m.trans g3) G<|Keep.refl _ _
def joK(d:X.mg "enumerate" = none)(h:QPs cl X [a] tr pr)(c:QB cl X b tb pb)(e:Gl X "enumerate":=by rfl)(f:starEach [a] X.env=[(false,eval a X.env)]:=by rfl):
  QI cl X (.Tuple elts n tpos) (.Call (.Name "enumerate" p) [a] [⟨some "start",b,kpos⟩] pos) (jnm X.K tr tb) (jj0 pr pb):=⟨joR e d h.sem c.sem f,jky h.den c.den⟩
def jiX{d}(i:Room k X.A)(e:QB cl X o to po)(f:QB cl X a ta pa)(g:QB cl X b tb pb)(h:QB cl X c tc pc)(m:M2 X o "get" apos (.Tuple [a,b] d tpos) c cpos:=by exact⟨rfl,rfl,rfl,rfl⟩)
  (h1:starEach [a,b] X.env=(false,eval a X.env)::starEach [b] X.env:=by rfl) (h2:starEach [b] X.env=(false,eval b X.env)::starEach [] X.env:=by rfl):
  QB cl X (.Call (.Attribute o "get" apos) [.Tuple [a,b] d tpos,c] [] cpos) (jb4 to (jew ta tb) tc) (jby po pa pb pc):=
 ⟨jfU (KQ i) e.sem (JA<|jy f.sem (jy g.sem vF h2) h1) h.sem m,jeD e.den f.den g.den h.den⟩
def jgV{c}(h:Room k X.A)(j:QB cl X (.Name x xpos) (yg i)<|pV i)(d:QB cl X a ta pa)(f:QB cl X b tb pb)(g:QB cl X e te pe)
  (l:swapsWith e (some<|.Subscript (.Name x xpos) (.Tuple [a,b] c tpos) pos') pos.line X.env=pure false:=by rfl)
  (h1:starEach [a,b] X.env=(false,eval a X.env)::starEach [b] X.env:=by rfl) (h2:starEach [b] X.env=(false,eval b X.env)::starEach [] X.env:=by rfl):
  QS cl pm X (.Assign [.Subscript (.Name x xpos) (.Tuple [a,b] c tpos) pos'] e pos) (jdL (yg i) (jew ta tb) te) (jhX i pa pb pe):=
 ⟨ja8 (KQ h) j.sem (JA<|jy d.sem (jy f.sem vF h2) h1) g.sem l,jhO d.den f.den g.den⟩
end QD
namespace L2
open PySem PySem.Spec PyProof.Rows
end L2
namespace QD
open PySem L2 PySem.Spec PyProof.Rows
def Go.from(g:Go Z H O Z' H' E)(h:∀ a∈O,a∈O'):Go Z H O' Z' H' E:=
 ⟨g.wf,g.zz,λa q n=>g.fr a q λz=>n<|h a z,λa z=>(g.zn a z).elim .inl λq=>q.elim (λq=>.inr<|.inl<|h a q) λq=>.inr<|.inr q,λa q=>(g.sub a q).elim (λq=>.inl<|h a q) .inr,g.dm⟩
noncomputable def Jm:List Str->List D->Str->Option D
 | n::ns,d::l,f=>if f=n then some d else Jm ns l f
 | _,_,_=>none
theorem zR:∀{ns}{l}{vs}{O},Reps R Z H l vs O->ns.length=l.length->Jm ns l f=some d->∃ v P,(ns.zip vs).lookup f=some v/\Rep R Z H d v P
 | [],l,vs,O,_,_,h=>by cases l<;>cases h
 | n::ns,[],vs,O,_,a,_=>by simp at a
 | n::ns,x::l,vs,O,r,a,h=>by
  obtain⟨v,b,c,i,rfl,rfl,r1,r2⟩:=r;rw[Jm] at h;by_cases e:f=n
  ·rw[if_pos e] at h;cases h;exact⟨v,c,by rw[U7,List.lookup_cons,e];simp,r1⟩
  ·rw[if_neg e] at h;obtain⟨w,P,g,e2⟩:=zR r2 ⇑a h;refine⟨w,P,?_,e2⟩;rw[U7,List.lookup_cons];have:(f==n)=false:=by simp[e]
   rw[this];exact g
def z4(c:Nat)(f:Str):D->Option D
 | .ins _ c' ns l=>bif c'==c then Jm ns l f else none
 | _=>none
@[simp] def fldOf_ins:z4 c f (.ins o c' ns l)=bif c'==c then Jm ns l f else none:=rfl
@[simp] def qZ(c:Nat)(f:Str)(po:PF)(ρ:Rh):Option D:=(po ρ).bind (z4 c f)
def jlZ(g:Cls R.K<|R.cls c)(i:NoAttr R.K (R.cls c) f)(h:PB R ta p):PB R (jdV R.K ta f) (qZ c f p):=by
 intro σ ρ Z H O d z s e Q k;refine ob e λx j e=>?_;cases x with
 | ins o m ns l=>
  refine oc e λn q=>?_;obtain rfl:m=c:=by simpa using n
  refine h z s j λ{v C D E} r r1=>?_;obtain⟨a,t,vs,F,rfl,u,y,A,_⟩:=r1;obtain⟨w,P,B,b⟩:=zR u y q;exact⟨a,_,t,_,w,rfl,A,g,i,B,k r b⟩
 | _=>cases e
noncomputable def qP:List Str->List D->Str->D->List Str×List D
 | n::ns,x::l,f,d=>if n=f then(n::ns,d::l) else(n::(qP ns l f d).1,x::(qP ns l f d).2)
 | _,_,f,d=>([f],[d])
theorem YY(rd:Rep R Z H d v P):∀{ns}{l}{vs}{O},Reps R Z H l vs O->ns.length=l.length ->
  Ex2 λvs2 O2=>An4 (Reps R Z H (qP ns l f d).2 vs2 O2) ((qP ns l f d).1.zip vs2=VI f v (ns.zip vs)) ((qP ns l f d).1.length=(qP ns l f d).2.length)<|∀ c,O2.count c<=O.count c+P.count c
 | [],[],vs,O,r,_=>by
  obtain⟨rfl,rfl⟩:=r;exact⟨[v],P,.one rd,rfl,rfl,λc=>by simp⟩
 | [],_::_,_,_,_,a=>by simp at a
 | _::_,[],_,_,_,a=>by simp at a
 | n::ns,x::l,vs,O,r,a=>by
  obtain⟨u,b,g,O2,rfl,rfl,r1,r2⟩:=r;rw[qP];by_cases e:n=f
  ·rw[if_pos e];refine⟨v::b,P++O2,Reps.cons rd r2,?_,a,λc=>by simp only[U8];lia⟩;rw[U7,U7,VI,if_pos e]
  ·rw[if_neg e];obtain⟨vs2,h,i,e3,j,k⟩:=YY rd r2 ⇑a;refine⟨u::vs2,g++h,Reps.cons r1 i,?_,by simp[j],λc=>by have:=k c;simp only[U8];lia⟩;rw[U7,U7,VI,if_neg e,e3]
@[simp] def JK(i:Nat)(c:Nat)(f:Str)(pv:PF)(ρ:Rh):Option Out:=(pv ρ).bind λd=>(pV i ρ).bind λt=>(ze t).bind λy=>bif y.1==c&&decide (y.2.1.length<=900) then some (.nx<|ρ.set i<|some<|.ins true c (qP y.2.1 y.2.2 f d).1 (qP y.2.1 y.2.2 f d).2) else none
def jbY{l:List α}{m:List β}(h:decide (l.length<=900)=true):(l.zip m).length<1000:=by
 rw[List.length_zip];exact X9 (Nat.min_le_left _ _) ∅
def jmD{R}{pm}{i c}{f}{tv}{pv}(m:Cls R.K<|R.cls c)(n:NoAttr R.K (R.cls c) f)(p:PP R tv pv):DS R pm (jnc R.K (yg i) tv f) (JK i c f pv):=by
 intro σ ρ Z H O o w s e I k;refine ob e λd r e=>ob e λt v e=>ob e λ⟨x,ns,l⟩ e2 e=>oc e λb e=>?_;cases e;cases Jq e2;rw[M0] at b;obtain rfl:x=c:=by simpa using b.1
 refine p w.zd s r λ{u J L M} j r1=>?_;have g:=j.widen w;refine kW qX g.wf (j.slots w.zd s) v rfl ow_ins λa y vs N z h A B put=>B ?_;obtain⟨C,P,D,e3,E,F⟩:=YY r1 z h;obtain⟨Q,g3,G⟩:=put ow_ins E (Go.id g.wf.zd) D λq=>by have:=F q;simp;lia
 refine⟨a,_,y,_,rfl,A,m,n,jbY b.2,?_⟩;rw[<- e3];exact k (g.trans g3) G<|Keep.refl _ _
def jlN(b:Cls X.K<|cl c)(d:NoAttr X.K (cl c) f)(a:QB cl X o to po)(e:attributeBase o f X.env (eval o X.env)=eval o X.env:=by rfl):QB cl X (.Attribute o f pos) (jdV X.K to f) (qZ c f po):=⟨wZ a.sem e,jlZ b d a.den⟩
def jkR(b:Cls X.K<|cl c)(d:NoAttr X.K (cl c) f)(g:QB cl X (.Name x xpos) (yg i)<|pV i)(a:QP cl X e te pe)(h:swapsWith e (some<|.Attribute (.Name x xpos) f pos') pos.line X.env=pure false:=by rfl):
  QS cl pm X (.Assign [.Attribute (.Name x xpos) f pos'] e pos) (jnc X.K (yg i) te f) (JK i c f pe):=⟨jkt g.sem a.sem h,jmD b d a.den⟩
noncomputable def jlR:List Str->Str->Option Nat
 | [],_=>none
 | n::ns,f=>if f=n then some 0 else(jlR ns f).map (·+1)
theorem wk:∀{ns}{f}{vs}{j}{v:V},jlR ns f=some j->ns.length=vs.length->vs[j]?=some v->(ns.zip vs).lookup f=some v
 | [],_,_,_,_,h,_,_=>by cases h
 | n::ns,f,[],_,_,_,a,_=>by simp at a
 | n::ns,f,u::vs,j,v,h,a,b=>by
  rw[jlR] at h;by_cases e:f=n
  ·rw[if_pos e] at h;cases h;cases b;rw[U7,List.lookup_cons,e];simp
  ·rw[if_neg e] at h;cases hp:jlR ns f with
   | none=>rw[hp] at h;cases h
   | some i=>
    rw[hp] at h;cases h;rw[U7,List.lookup_cons,show(f==n)=false by simp[e]];exact wk hp ⇑a ⇑b
theorem Kf:∀{ns}{l}{vs:List V},ns.length=l.length->vs.length=l.length->Jm ns l f=none->(ns.zip vs).lookup f=none
 | [],_,_,_,_,_=>rfl
 | n::ns,[],_,a,_,_=>by simp at a
 | n::ns,x::l,[],_,b,_=>by simp at b
 | n::ns,x::l,v::vs,a,b,h=>by
  rw[Jm] at h;by_cases e:f=n
  ·rw[if_pos e] at h;cases h
  ·rw[if_neg e] at h;rw[U7,List.lookup_cons,show(f==n)=false by simp[e]];exact Kf ⇑a ⇑b h
@[simp] def yL(m:List D->Option (D×D))(i c:Nat)(mn:Str)(p:PAf)(ρ:Rh):Option (D×Rh):=(p ρ).bind λds=>(pV i ρ).bind λt=>(ze t).bind λy=>bif y.1==c&&(frzs ds&&(Jm y.2.1 y.2.2 mn).isNone) then(m<|t::ds).bind λr=>some (r.1,ρ.set i<|some r.2) else none
def jee(h:PPs R ta p)(K:∀ ρ ds,p ρ=some ds->ds.length+1=n):DE R (jcG (R.cls c) mn (spM R m n 0) [] E0 (yg i) ta) (yL m i c mn p):=by
 intro σ ρ ρ' Z H O d w s e Q k;refine ob e λds D e=>ob e λy b e=>ob e λ⟨j,ns,l⟩ e3 e=>oc e λE e=>ob e λ⟨L,M⟩ e2 e=>?_;cases e;cases Jq e3;have b:=qu b;rw[M0,M0] at E;obtain⟨o,q,r⟩:=E;obtain rfl:j=c:=by simpa using o
 have hi:=(L9.mp b).1;obtain⟨A0,P0,B0,_,N,_,_⟩:=s.put hi;obtain⟨u,t,S⟩:=N _ b;obtain⟨a,T,vs,O',rfl,U,x,V,_⟩:=S;refine⟨.ref a,t,a,T,_,rfl,V,Kf x U.length<|Option.isNone_iff_eq_none.mp r,(h w.zd s D λ{W z F P1} G I=>?_)⟩;cases I.nil q;have f:Go Z H O z F O:=by simpa using G.widen w
 obtain⟨A,P,B,rfl,X,Y,_⟩:=(G.slots w.zd s).put hi;obtain⟨u',g,rc⟩:=X _ b;rw[t] at g;cases g;have rr:Reps R z F (.ins true j ns l::ds) (.ref a::W) P:=by
  have:=Reps.cons rc I;simpa using this
 refine⟨z,.ins true j ns l::ds,L,M,P,.ref a,f.wf.mid,by have:=K ρ ds D;simpa using this,by rw[M9];exact rr,rfl,e2,λ{v Z2 H2 P2 O2} g2 r2 C=>?_⟩;have J:=Go.keepA f.wf g2;have s2:=Y C g2.zz (g2.zH f.wf.mid) J.1 J.2;rw[yF t] at s2;exact k (f.trans<|g2.frame f.wf).turn r2 s2
noncomputable def jmz:D×D->Option D
 | (.non,t)=>some t
 | _=>none
@[simp] def nonOf_non(t):jmz (.non,t)=some t:=rfl
@[simp] def uV(m:List D->Option (D×D))(c:Nat)(p:PAf)(ρ:Rh):Option D:=(p ρ).bind λds=>bif frzs ds then(m<|.ins true c [] []::ds).bind jmz else none
def jjr(h:PPs R ta p)(y:∀ ρ ds,p ρ=some ds->ds.length+1=n):PP R (jhK (R.cls c) (spM R m n 0) [] E0 ta) (uV m c p):=by
 intro σ ρ Z H O d z s e Q k;refine ob e λds q e=>oc e λA e=>ob e λ⟨x,t⟩ e2 e=>?_;cases x with
 | non=>
  cases e;refine h z s q λ{F B r G} f u=>?_;cases u.nil A;intro x b C g i;have w:=Go.newF (o:=.own x) (wf0 f.wf.zd) g;have j:upd r b (.own x) x=none:=by rw[jd<|λe=>i e.symm];exact C
  have g2:=w.trans<|Go.newO (o:=.ins (R.cls c) b []) w.wf j;have D:Rep R (λa=>B a\/a=b) (upd (upd r b<|.own x) x<|.ins (R.cls c) b []) (.ins true c [] []) (.ref x) [x]:=by
   exact⟨x,b,[],[],rfl,.empty,rfl,jk,rfl⟩
  refine⟨_,.ins true c [] []::ds,.non,d,[x],.ref x,g2.wf,by have:=y ρ ds q;simpa using this,by rw[M9];have:=Reps.cons D<|g2.reps f.wf.zd u;simpa using this,rfl,e2,λ{v Z3 I J K} g3 E l=>?_⟩;obtain⟨rfl,rfl⟩:=E;exact⟨rfl,k (by simpa using(f.trans g2).trans g3) l⟩
 | _=>cases e
section
variable {cl:Nat->Addr}{pm:List Nat}{X:Cx}{e:Expr}{es:List Expr}{tr:TA}{pr:PAf}{pos p apos:Pos}
structure MtFact(K:W4)(C:Addr)(x qual:Str)(st:Stmt)(f:Addr)(fd:FuncData)(ps:List Str):Prop where
 fn:Fun K x qual st f fd
 mt:Meth K C x f
 bd:Binds K fd ps []
def OkM(P:Program)(w:World)(K:W4)(mg:W6)(C:Addr)(x qual:Str)(st:Stmt)(k:Nat)(ps:List Str)(sp:Sp):Prop:=∃ f fd,MtFact K C x qual st f fd ps/\∀ base,FnOk P w K mg base CX0 k f fd ps sp
def jg1{k n i c}{ps}{m}{x mn qual}{st}{pl}(g:Cls X.K<|cl c)(O:OkM X.prog X.w X.K X.mg (cl c) mn qual st k ps<|spM ⟨X.K,cl⟩ m n 0)(h:Room k X.A)(j:QB cl X (.Name x p) (yg i)<|pV i)(d:QPs cl X (e::es) tr pr)(l:∀ ρ ds,pr ρ=some ds->ds.length+1=n)
  (a:SEq X e es:=by rfl) (b:BkE X pos es:=by rfl)
  (o:eval (.Call (.Attribute (.Name x p) mn apos) (e::es) [] pos) X.env=(do
   let ov <- eval (.Name x p) X.env
   standAt apos.atName
   let (f,first) <- holding [ov] (getMethod ov mn pl)
   callWith pos f first (backTo pos<|starEach (e::es) X.env) (backToKw pos<|keywordEach [] X.env)):=by rfl):
  QE cl X (.Call (.Attribute (.Name x p) mn apos) (e::es) [] pos) (jcG (cl c) mn (spM ⟨X.K,cl⟩ m n 0) [] E0 (yg i) tr) (yL m i c mn pr):=by
 obtain⟨_,_,F,G⟩:=O;exact⟨jds j.sem g F.mt (G _) h F.bd .nil jfs d.sem a b o,jee d.den l⟩
def jkP{k n c}{ps}{m}{x qual}{st}(f:PySem.W.makesIn X.K (cl c)=true)(g:PySem.W.keepIn X.K (.ref<|cl c)=true)(O:OkM X.prog X.w X.K X.mg (cl c) "__init__" qual st k ps<|spM ⟨X.K,cl⟩ m n 0)(h:Room (k+1) X.A)(i:X.mg x=some (.ref<|cl c))(d:QPs cl X (e::es) tr pr)(j:∀ ρ ds,pr ρ=some ds->ds.length+1=n)(l:Gl X x:=by rfl)
  (a:Nd x:=by decide) (o:SEq X e es:=by rfl) (b:BkE X pos es:=by rfl):
  QP cl X (.Call (.Name x p) (e::es) [] pos) (jhK (cl c) (spM ⟨X.K,cl⟩ m n 0) [] E0 tr) (uV m c pr):=by
 obtain⟨_,_,F,G⟩:=O;exact⟨jii ⟨f,F.mt.at_,F.mt.fn,g⟩ (G _) h l i F.bd .nil jfs d.sem a o b,jjr d.den j⟩
end
@[simp] def JU(m:List D->Option D)(c:Nat)(mn:Str)(po:PF)(p:PAf)(ρ:Rh):Option D:=(po ρ).bind λs=>(jnq s).bind λy=>bif y.1==c&&(Jm y.2.1 y.2.2 mn).isNone then(p ρ).bind λds=>(m<|fzs<|s::ds).bind λd=>bif frzs (s::ds)||clean d then some d else none else none
def jgS(r:PB R to po)(t:PBs R ta p)(u:∀ ρ ds,p ρ=some ds->ds.length+1=n):PP R (jcG (R.cls c) mn (spP R m n) [] E0 to ta) (JU m c mn po p):=by
 intro σ ρ Z H O d z s e Q k;refine ob e λE v e=>ob e λ⟨w,ns,l⟩ e3 e=>oc e λf e=>ob e λds j e=>ob e λc0 e2 e=>oc e λx e=>?_;cases e;obtain⟨o,rfl⟩:=jhv e3;rw[M0] at f;obtain rfl:w=c:=by simpa using f.1
 refine r z s v λ{F G I J} b q=>?_;have g:=q;obtain⟨a,y,A,K,rfl,B,h,C,_⟩:=g;exact⟨a,y,_,rfl,C,Kf h B.length<|Option.isNone_iff_eq_none.mp f.2,t b.wf.zd (b.slots z s) j λi D=>jdH i.wf.zd (Reps.cons (i.rep b.wf.zd q) D) (u ρ ds j) e2 x λg2 r2=>k (by simpa using(b.pair i).pair g2) r2⟩
def qC(c:Nat)(f:Str)(L:Ln)(d:D):Option (D×(D->D)):=(L d).bind λy=>(ze y.1).bind λq=>bif q.1==c then(jlR q.2.1 f).bind λj=>(q.2.2[j]?).bind λx=>some (x,λx'=>y.2<|.ins true q.1 q.2.1<|q.2.2.set j x') else none
def jl6(G:Cls R.K<|R.cls c)(I:NoAttr R.K (R.cls c) f)(h:K2 R tb i L):K2 R (jdV R.K tb f) i (qC c f L):=by
 intro σ ρ Z H O d x k s hd e;refine ob e λ⟨y,k0⟩ J e=>ob e λ⟨M,ns,l⟩ e3 e=>oc e λN e=>ob e λj Q e=>ob e λx0 e2 e=>?_;cases e;cases Jq e3;obtain rfl:M=c:=by simpa using N
 obtain⟨v,A,P,B,rfl,r,S,T⟩:=h s hd J;obtain⟨a,t,vs,O',rfl,w,n,z,rfl⟩:=r;obtain⟨u,U,V,W,C,rfl,X,o⟩:=w.at e2;refine⟨u,A++(a::U),V,W++B,by simp,X,λq=>S ⟨a,_,t,_,u,rfl,z,G,I,wk Q (by rw[w.length];exact n) C,q⟩,λ{Z' H' x' Y} r' D E p F=>?_⟩;have g:=o r' D E (λb m=>p b<|by simp[m])<|λb m=>F b (by simp[m]);rw[yF C] at g;have s2:=T (ow_ins.mpr ⟨a,t,vs,_,rfl,g,by rw[List.length_set];exact n,(p a<|by simp).trans z,rfl⟩) D E (λb m=>p b<|by simp[m])<|λb m=>F b (by simp[m]);simpa using s2
def lIx(j:Int)(L:Ln):Ln:=λd=>(L d).bind λy=>match y.1 with
 | .tup l=>(ixN l.length j).bind λn=>(l[n]?).bind λx=>some (x,λx'=>y.2<|.tup<|l.set n x')
 | .lst true l=>(ixN l.length j).bind λn=>(l[n]?).bind λx=>some (x,λx'=>y.2<|.lst true<|l.set n x')
 | _=>none
def jn3(V:∀{σ}{H}{Q:VK},Q (.int j) H->tj σ H Q)(h:K2 R tb i L):K2 R (tOp (rIx R.K) tb tj) i (lIx j L):=by
 intro σ ρ Z H O d x k s hd e;refine ob e λy W e=>?_;obtain⟨y,k0⟩:=y;dsimp only at e;split at e
 ·rename_i l;refine ob e λn F e=>ob e λx0 e2 e=>?_;cases e;obtain⟨v,A,P,B,rfl,r,G,I⟩:=h s hd W;obtain⟨a,vs,rfl,X,w⟩:=r;obtain⟨u,z,J,C,D,rfl,M,g⟩:=w.at e2;refine⟨u,A++z,J,C++B,by simp,M,λq=>G<|V<|.inr<|.inl ⟨a,vs,j,u,rfl,rfl,X.sq,jga (by rw[w.length];exact F) D,q⟩,λ{N S T m} U o p t E=>?_⟩;have c:=g U o p (λb f=>t b<|by simp[f])<|λb f=>E b (by simp[f]);rw[yF D] at c;have rt:Rep R N S (.tup<|l.set n T) (.ref a) (z++m++C):=by
   exact⟨a,vs,rfl,X.frame o p,c⟩
  have s2:=I rt o p (λb f=>t b<|by simp[f])<|λb f=>E b (by simp[f]);simpa using s2
 ·rename_i l;refine ob e λn F e=>ob e λx0 e2 e=>?_;cases e;obtain⟨v,A,P,B,rfl,r,G,I⟩:=h s hd W;obtain⟨a,vs,O',rfl,w,Y,rfl⟩:=r;obtain⟨u,z,J,C,D,rfl,M,g⟩:=w.at e2;refine⟨u,A++(a::z),J,C++B,by simp,M,λq=>G<|V<|.inl ⟨a,vs,j,u,rfl,rfl,SqL.of Y,jga (by rw[w.length];exact F) D,q⟩,λ{N S T m} U o p t E=>?_⟩;have c:=g U o p (λb f=>t b<|by simp[f])<|λb f=>E b (by simp[f]);rw[yF D] at c;have rt:Rep R N S (.lst true<|l.set n T) (.ref a) (a::(z++m++C)):=by
   exact⟨a,vs,_,rfl,c,(t a<|by simp).trans Y,rfl⟩
  simpa using(I rt o p (λb f=>t b<|by simp[f])<|λb f=>E b<|by simp[f])
 ·cases e
structure QL(cl:Nat->Addr)(X:Cx)(e:Expr)(tb:TE)(i:Nat)(L:Ln):Prop where
 sem:PE X e tb
 den:K2 ⟨X.K,cl⟩ tb i L
section
variable {cl:Nat->Addr}{pm:List Nat}{X:Cx}{o e j:Expr}{es:List Expr}{to te tb tj:TE}{po pe pj:PF}{tr:TA}{pr:PAf}{pos p apos:Pos}{L L':Ln}{i:Nat}
def jkL{k n c}{ps}{m}{mn qual}{st}{pl}(i:Cls X.K<|cl c)(O:OkM X.prog X.w X.K X.mg (cl c) mn qual st k ps<|spP ⟨X.K,cl⟩ m n)(j:Room k X.A)(g:QB cl X o to po)(a:QBs cl X (e::es) tr pr)(l:(e::es).length+1=n:=by rfl)
  (b:SEq X e es:=by rfl) (d:BkE X pos es:=by rfl)
  (p:eval (.Call (.Attribute o mn apos) (e::es) [] pos) X.env=(do
   let ov <- eval o X.env
   standAt apos.atName
   let (f,first) <- holding [ov] (getMethod ov mn pl)
   callWith pos f first (backTo pos<|starEach (e::es) X.env) (backToKw pos<|keywordEach [] X.env)):=by rfl):
  QP cl X (.Call (.Attribute o mn apos) (e::es) [] pos) (jcG (cl c) mn (spP ⟨X.K,cl⟩ m n) [] E0 to tr) (JU m c mn po pr):=by
 obtain⟨_,_,F,G⟩:=O;exact⟨jds g.sem i F.mt (G _) j F.bd .nil jfs a.sem b d p,jgS g.den a.den λρ q h=>by rw[a.n ρ q h];exact l⟩
def jfY{x}(a:QB cl X (.Name x p) (yg i)<|pV i):QL cl X (.Name x p) (yg i) i jU:=⟨a.sem,qX⟩
def jmy{c}{f}(a:Cls X.K<|cl c)(b:NoAttr X.K (cl c) f)(h:QL cl X o tb i L)(d:attributeBase o f X.env (eval o X.env)=eval o X.env:=by rfl):QL cl X (.Attribute o f pos) (jdV X.K tb f) i (qC c f L):=
 ⟨wZ h.sem d,jl6 a b h.den⟩
def jmm{z}{j2}{a}(h:QL cl X o tb i L)(b:Kt (.Constant (.int z) j2 a):=by exact λ_ _=>rfl):QL cl X (.Subscript o (.Constant (.int z) j2 a) pos) (tOp (rIx X.K) tb<|tC<|.int z) i (lIx z L):=
 ⟨jkY jgc h.sem jct b,jn3 (λq=>q) h.den⟩
def jiw{cpos}(f:QL cl X o tb i L)(h:QP cl X e te pe)(b:attributeBase o "append" X.env (eval o X.env)=eval o X.env:=by rfl)
  (d:((backTo cpos<|starEach [e] X.env).all (λx=>!x.1)&&(backToKw cpos<|keywordEach [] X.env).all (λx=>x.1.isSome)
   && decide ([e].length+([]:List Keyword).length+(if([]:List Keyword).isEmpty then 0 else 1)<30))=true:=by rfl)
  (c:(apos.endLine==cpos.line)=true:=by rfl) (g:starEach [e] X.env=(false,eval e X.env)::starEach [] X.env:=by rfl) (a:(backTo cpos<|starEach [] X.env).any (·.1)=false:=by rfl)
  (hsw:swapsWith (.Call (.Attribute o "append" apos) [e] [] cpos) none pos.line X.env=pure false:=by rfl):
  QS cl pm X (.Expr (.Call (.Attribute o "append" apos) [e] [] cpos) pos) (v8<|tBM X.K "list" v5 tb<|jC te JO) (vZ i L pe):=
 ⟨Jk (jbS PySem.F.plainAttrs_list PySem.F.slot_list_append PySem.F.type_list_append JI f.sem (jy h.sem vF g) b d c g a) hsw,jdv f.den h.den⟩
end
section
variable {R:RC}{Z Z' Z2:Zn}{H H' H2:Hp}{pm:List Nat}
def jdF(rd:Rep R Z H d v P)(a)  (r:Reps R Z H l vs O) (b:ks.length=l.length) (c:a∉ks):
  Reps R Z H (qc ks l a d).2 (vs++[v]) (O++P)/\(((qc ks l a d).1).map kaV).zip (vs++[v])=Jl ((ks.map kaV).zip vs) (kaV a) v/\(qc ks l a d).1.length=(qc ks l a d).2.length:=by
 have e:ks.length=vs.length:=by rw[r.length];exact b
 unfold qc Jl;rw[zU a e,if_neg c,X2 c,if_neg<|λz=>(nomatch z)];refine⟨r.append<|Reps.one rd,?_,by simp[b]⟩;rw[N5,List.zip_append ⇑e];rfl
def YT(i:Nat)(L:Ln)(pk pv:PF)(ρ:Rh):Option Out:=(pv ρ).bind λd=>(pV i ρ).bind λt=>(L t).bind λy=>(jfZ y.1).bind λkl=>(pk ρ).bind λq=>(qd q).bind λa=>bif lim kl.1.length&&(frz d||!decide (a∈kl.1)) then some (.nx<|ρ.set i<|some<|y.2<|.dK true (qc kl.1 kl.2 a d).1 (qc kl.1 kl.2 a d).2) else none
def jfN{i}{L}{tb ty tv}{pk pv}(B:K2 R tb i L)(C:PB R ty pk)(D:PP R tv pv):DS R pm (jdL tb ty tv) (YT i L pk pv):=by
 intro σ ρ Z H O o w s e U k;refine ob e λd E e=>ob e λt hi e=>ob e λ⟨y,V⟩ e3 e=>ob e λ⟨g,l⟩ e7 e=>ob e λq F e=>ob e λc e5 e=>oc e λx e=>?_;cases e;cases jcc e7;rw[M0] at x;refine D w.zd s E λ{u W X G} h r1=>?_;have s1:=h.slots w.zd s;have A:=h.widen w;refine kW B A.wf s1 hi e3 jeI λa _ vs I J j K M put=>M<|C h.wf.zd s1 F λ{z N P Y} g2 r2=>?_;obtain⟨rfl,_⟩:=vB e5 r2;have m:=g2.rep h.wf.zd r1;have n:=g2.reps h.wf.zd J;have key:∃ b p,Reps R N P (qc g l c d).2 b p/\(((qc g l c d).1).map kaV).zip b=Jl ((g.map kaV).zip vs) (kaV c) u/\(∀ q,p.count q<=I.count q+G.count q)/\(qc g l c d).1.length=(qc g l c d).2.length:=by
  cases hf:frz d with
  | true=>
   cases r1.nil hf;obtain⟨b,p,r,v,sl,f⟩:=Kk m c n j;exact⟨b,p,r,v,⇑sl.count_le,f⟩
  | false=>
   have Q:c∉g:=by
    have:=x.2;rw[hf] at this;simpa using this
   obtain⟨r,v,f⟩:=jdF m c n j Q;exact⟨_,_,r,v,λq=>by rw[U8];exact M8 _,f⟩
 obtain⟨b,p,r,v,S,f⟩:=key;obtain⟨O3,g3,T⟩:=put jeI f g2 r ⇑S;refine⟨a,_,rfl,DPut.k (g2.at0 K)<|KZ x.1,?_⟩;rw[<- v];exact k (A.trans g3) T<|Keep.refl _ _
def Yh(i:Nat)(L:Ln)(c:Nat)(f:Str)(g:Int->Int->Int)(pv:PF)(ρ:Rh):Option Out:=(pV i ρ).bind λt=>(L t).bind λy=>(ze y.1).bind λq=>(Jm q.2.1 q.2.2 f).bind λm=>(vp m).bind λm=>(pv ρ).bind λn=>(vp n).bind λn=>
 bif q.1==c&&decide (q.2.1.length<=900) then some (.nx<|ρ.set i<|some<|y.2<|.ins true c (qP q.2.1 q.2.2 f<|.int<|g m n).1 (qP q.2.1 q.2.2 f<|.int<|g m n).2) else none
def jfq{i c}{f}{L}{tb tv}{pv}{g}{rd}(d:∀{m n}{H}{Q},Q (.int<|g m n) H->rd (.int m) (.int n) H Q)(A:Cls R.K<|R.cls c)(B:NoAttr R.K (R.cls c) f)(C:K2 R tb i L)(D:PB R tv pv):DS R pm (xz R.K tb tv rd f) (Yh i L c f g pv):=by
 intro σ ρ Z H O o w s e U k;refine ob e λt hi e=>ob e λ⟨y,V⟩ e3 e=>ob e λ⟨E,ns,l⟩ F e=>ob e λx G e=>ob e λm I e=>ob e λW J e=>ob e λn e2 e=>oc e λh e=>?_;cases e;cases Jq F;cases jB I;cases jB e2;rw[M0] at h;obtain rfl:E=c:=by simpa using h.1
 refine kW (P0:=[]) C w s hi e3 ow_ins λa r vs X v b z M put=>?_;obtain⟨mv,Y,j,p⟩:=zR v b G;obtain⟨rfl,_⟩:=p.int_of;refine M ⟨a,_,r,_,_,rfl,z,A,B,j,D w.zd s J λ{u Z2 H2 P4} g2 r2=>?_⟩;obtain⟨rfl,_⟩:=r2.int_of;obtain⟨N,O2,P,e7,q,S⟩:=YY (Rep.int_mk) (g2.reps w.zd v) b;obtain⟨O3,g3,T⟩:=put ow_ins q g2 P ⇑S;refine d ⟨r,_,g2.at0 z,jbY h.2,?_⟩;rw[<- e7];exact k g3 T<|Keep.refl _ _
end
section
variable {cl:Nat->Addr}{pm:List Nat}{X:Cx}{o b e:Expr}{to tb te:TE}{po pb pe:PF}{pos p fp tpos:Pos}{k i:Nat}{L:Ln}
def jfR(f:Room k X.A)(a:QL cl X o to i L)(c:QB cl X b tb pb)(d:QP cl X e te pe)(g:swapsWith e (some<|.Subscript o b pos') pos.line X.env=pure false:=by rfl):
  QS cl pm X (.Assign [.Subscript o b pos'] e pos) (jdL to tb te) (YT i L pb pe):=⟨ja8 (KQ f) a.sem c.sem d.sem g,jfN a.den c.den d.den⟩
def jbu(f:Room k X.A)(a:QL cl X o to i L)(c:QB cl X b tb pb)(d:QB cl X e te pe)
  (g:∀ ov iv new,augStore b ov iv new=(do holding [new,ov,iv] (setItem ov iv new);release [new,ov,iv] [];pure .next):=by intro _ _ _;rfl):
  QS cl pm X (.AugAssign (.Subscript o b tpos) .Add e pos) (Qi to tb te jpf) (vq i L pb (λm n=>m+n) pe):=⟨Kb (KQ f) a.sem c.sem d.sem jmf g,Kl (λq=>⟨_,_,rfl,rfl,q⟩) a.den c.den d.den⟩
def jbR(f:Room k X.A)(a:QL cl X o to i L)(c:QB cl X b tb pb)(d:QB cl X e te pe)
  (g:∀ ov iv new,augStore b ov iv new=(do holding [new,ov,iv] (setItem ov iv new);release [new,ov,iv] [];pure .next):=by intro _ _ _;rfl):
  QS cl pm X (.AugAssign (.Subscript o b tpos) .Sub e pos) (Qi to tb te jlx) (vq i L pb (λm n=>m-n) pe):=⟨Kb (KQ f) a.sem c.sem d.sem xW g,Kl (λq=>⟨_,_,rfl,rfl,q⟩) a.den c.den d.den⟩
def jcb{c}{f}(d:Cls X.K<|cl c)(g:NoAttr X.K (cl c) f)(a:QL cl X o to i L)(b:QB cl X e te pe):
  QS cl pm X (.AugAssign (.Attribute o f tpos) .Sub e pos) (xz X.K to te jlx f) (Yh i L c f (λm n=>m-n) pe):=⟨jdo a.sem b.sem xW,jfq (λq=>⟨_,_,rfl,rfl,q⟩) d g a.den b.den⟩
end
namespace QK
def fld{K}{cl}{X}{o}{to}{po}{pos}{c}{f}(a:X.K=K)(b:Cls X.K<|cl c)(d:NoAttr X.K (cl c) f)(e:QB cl X o to po)(g:attributeBase o f X.env (eval o X.env)=eval o X.env:=by rfl):QB cl X (.Attribute o f pos) (jdV K to f) (qZ c f po):=by subst a;exact jlN b d e g
end QK
section
variable {R:RC}{Z Z':Zn}{H H':Hp}{pm:List Nat}
def yD(m:List D->Option (D×D))(i:Nat)(L:Ln)(p:PAf)(ρ:Rh):Option (D×Rh):=(pV i ρ).bind λt=>(L t).bind λy=>(p ρ).bind λds=>bif frzs ds then(m<|y.1::ds).bind λr=>some (r.1,ρ.set i<|some<|y.2 r.2) else none
def jbC(q:K2 R tb i L)(u:PPs R tr p)(x:∀ ρ ds,p ρ=some ds->ds.length+1=n):DE R (zY (spM R m n 0) [] E0<|jC tb tr) (yD m i L p):=by
 intro σ ρ J Z H O d w s e Q k;refine ob e λt hi e=>ob e λ⟨y,K⟩ e3 e=>ob e λds j e=>oc e λC e=>ob e λ⟨D,E⟩ e2 e=>?_;cases e;obtain⟨v,A,P,B,rfl,r,F,G⟩:=q s (qu hi) e3;refine F<|u w.zd s j λ{vs f l M} b r1=>?_;cases r1.nil C;have c:Go Z H (A++P++B) f l (A++P++B):=by simpa using b.widen w
 have I:Reps R f l (y::ds) (v::vs) P:=by
  have:=Reps.cons (b.rep w.zd r) r1;simpa using this
 refine⟨f,y::ds,D,E,P,v,c.wf.mid,by have:=x ρ ds j;simpa using this,by rw[M9];exact I,rfl,e2,λ{N S T U V} g2 r2 g=>?_⟩;have o:=Go.keepA c.wf g2;exact k (c.trans<|g2.frame c.wf).turn r2 (G g (λa z=>g2.zz a<|b.zz a z) (λa z=>(g2.zH c.wf.mid a<|b.zz a z).trans (b.same a<|w.zd a z)) (λa h=>(o.1 a h).trans (b.same a<|w.od a<|by simp[h]))<|λa h=>(o.2 a h).trans (b.same a<|w.od a<|by simp[h]))
def jfA(i:Nat)(pa pb:PF)(g:Int->Int->Int)(pv:PF):FS:=λρ=>(pV i ρ).bind λx=>(jij x).bind λp=>(jjL pa pb ρ).bind λa=>(zO p.1 p.2 a).bind λy=>(vp y).bind λm=>(pv ρ).bind λz=>(vp z).bind λn=>
 bif lim p.1.length then some (.nx<|ρ.set i<|some<|.dT true (KL p.1 p.2 a<|.int<|g m n).1 (KL p.1 p.2 a<|.int<|g m n).2) else none
def jhN{i}{ta tb tv}{pa pb pv}{g}{rd}(j:∀{m n}{H}{Q},Q (.int<|g m n) H->rd (.int m) (.int n) H Q)(D:PB R ta pa)(E:PB R tb pb)(F:PB R tv pv):DS R pm (Qi (yg i) (jew ta tb) tv rd) (jfA i pa pb g pv):=by
 intro σ ρ Z H O o w s e T k;refine ob e λx G e=>ob e λ⟨U,l⟩ I e=>ob e λc e2 e=>ob e λy e3 e=>ob e λm J e=>ob e λz e7 e=>ob e λn K e=>oc e λf e=>?_;cases e;cases z6 I;cases jB J;cases jB K;refine kW (P0:=[]) qX w s G rfl je4 λa _ vs V A h B L put=>L<|Yu D E w.zd s e2 λ{b W X} g2 Y C=>?_;obtain⟨mv,P3,p,q⟩:=(YB A h).1 _ e3;obtain⟨rfl,_⟩:=q.int_of;refine⟨a,.int m,rfl,by rw[<- p];exact DGet.t (g2.at0 B) C,F g2.wf.zd (g2.slots w.zd s) e7 λ{u Z3 H3 P4} g3 M=>?_⟩;obtain⟨rfl,_⟩:=M.int_of;have d:=g2.trans g3;obtain⟨N,O2,r,P,sl,v⟩:=KH (Rep.int_mk) c (d.reps w.zd A) h;obtain⟨O3,g4,S⟩:=put je4 v d r ⇑sl.count_le;refine j ⟨_,DPut.t (d.at0 B) (g3.at0 C)<|KZ f,?_⟩;rw[<- P];exact k g4 S<|Keep.refl _ _
end
section
variable {cl:Nat->Addr}{pm:List Nat}{X:Cx}{o e:Expr}{es:List Expr}{to te:TE}{po pe:PF}{tr:TA}{pr:PAf}{pos p:Pos}{i:Nat}{L:Ln}
def jfF{k n}{ps}{m}{x}{st}(O:OkF X.prog X.w X.K X.mg x st k ps<|spM ⟨X.K,cl⟩ m n 0)(f:Room k X.A)
  (c:QL cl X o to i L) (d:QPs cl X es tr pr) (g:∀ ρ ds,pr ρ=some ds->ds.length+1=n) (h:Gl X x:=by rfl) (a:Nd x:=by decide)
  (e:starEach (o::es) X.env=(false,eval o X.env)::starEach es X.env:=by rfl) (b:BkE X pos es:=by rfl):QE cl X (.Call (.Name x p) (o::es) [] pos) (zY (spM ⟨X.K,cl⟩ m n 0) [] E0<|jC to tr) (yD m i L pr):=by
 obtain⟨_,_,F,G⟩:=O;exact⟨jlh F (G _) f (jy c.sem d.sem e) h a e b,jbC c.den d.den g⟩
def jfk{a b}{ta tb}{pa pb}{x}{f}{k}{c d tpos}(l:Room k X.A)(o:QB cl X (.Name x c) (yg i)<|pV i)(g:QB cl X a ta pa)(h:QB cl X b tb pb)(j:QB cl X e te pe)
  (p:∀ ov iv new,augStore (.Tuple [a,b] f d) ov iv new=(do holding [new,ov,iv] (setItem ov iv new);release [new,ov,iv] [];pure .next):=by intro _ _ _;rfl)
  (h1:starEach [a,b] X.env=(false,eval a X.env)::starEach [b] X.env:=by rfl) (h2:starEach [b] X.env=(false,eval b X.env)::starEach [] X.env:=by rfl):
  QS cl pm X (.AugAssign (.Subscript (.Name x c) (.Tuple [a,b] f d) tpos) .Sub e pos) (Qi (yg i) (jew ta tb) te jlx) (jfA i pa pb (λm n=>m-n) pe):=
 ⟨Kb (KQ l) o.sem (JA<|jy g.sem (jy h.sem vF h2) h1) j.sem xW p,jhN (λq=>⟨_,_,rfl,rfl,q⟩) g.den h.den j.den⟩
def jd8(e:Room k X.A)(c:QB cl X a ta pa)(d:QB cl X b tb pb)(f:behindInMarks .NotIn b=false:=by with_unfolding_all rfl):QP cl X (.Compare a [.NotIn] [b] pos) (Ke ta tb) (p2 (uH true) pa pb):=
 ⟨jmQ (jdf (KQ e) c.sem d.sem) f,jbx c.den d.den⟩
end
section
variable {R:RC}{Z Z':Zn}{H H':Hp}{pm:List Nat}
def zE(K:W4):List V->Hp->VK->Prop:=(λxs H Q=>∃(p:Addr) (ys:List V) (ps:List<|List Key×Addr×V),xs=[.ref p]/\SqL K H p ys/\ys.length=ps.length/\ps.length<=100000 /\
  (∀(j:Nat) y,ys[j]?=some y->∃ kv t,ps[j]?=some kv/\y=.ref t/\SqT K H t [.ref kv.2.1,kv.2.2]/\H kv.2.1=some (.tup<|kv.1.map kV))/\∀ D,H D=none->Q (.ref D) (upd H D<|.dT<|ps.foldl (λa kv=>Jl a kv.1 kv.2.2) []))
def PK(R:RC)(te:TE)(pk:Rh->Option (List KA))(pv:PF):Prop:=∀{σ}{ρ}{Z}{H}{O}{c}{d},Zd Z H->Slots R Z H ρ σ O->pk ρ=some c->pv ρ=some d->frz d=true ->
 ∀{Q},(∀{t b}{u}{Z'}{H'},Go Z H [] Z' H' []->Z' t->Z' b->H' t=some (.tup [.ref b,u])->H' b=some (.tup<|(c.map kaV).map kV)->Rep R Z' H' d u []->Q (.ref t) H')->te σ H Q
def jiN(g:D->Rh->Option Rh)(q:PTf)(pk:Rh->Option (List KA))(pv:PF):List D->Rh->Option (List<|List KA×D)
 | [],_=>some []
 | x::xs,ρ=>(g x ρ).bind λρ1=>(q ρ1).bind λb=>bif b then(pk ρ1).bind λc=>(pv ρ1).bind λd=>bif frz d then(jiN g q pk pv xs ρ1).bind λr=>some ((c,d)::r) else none else jiN g q pk pv xs ρ1
def jcJ(ps:List<|List KA×D):List (List KA)×List D:=ps.foldl (λacc kv=>KL acc.1 acc.2 kv.1 kv.2) ([],[])
@[simp] def pDictP(pi:PAf)(g:D->Rh->Option Rh)(q:PTf)(pk:Rh->Option (List KA))(pv:PF)(ix:List<|Option Nat)(ρ:Rh):Option D:=(pi ρ).bind λxs=>bif lim xs.length then(jiN g q pk pv xs<|jt ix ρ).bind λall=>some (.dT true (jcJ all).1 (jcJ all).2) else none
theorem Qt:∀{ps:List (List KA×D)}{ws:List (List Key×Addr×V)}{ks}{l}{us},ws.map (·.1)=ps.map (λy=>y.1.map kaV)->Reps R Z H (ps.map (·.2)) (ws.map (·.2.2)) []->Reps R Z H l us []->ks.length=l.length ->
  ∃ us',An3 (Reps R Z H (ps.foldl (λacc kv=>KL acc.1 acc.2 kv.1 kv.2) (ks,l)).2 us' []) ((((ps.foldl (λacc kv=>KL acc.1 acc.2 kv.1 kv.2) (ks,l)).1).map (List.map kaV)).zip us'=(ws.foldl (λa kv=>Jl a kv.1 kv.2.2)<|(ks.map<|List.map kaV).zip us))<|(ps.foldl (λacc kv=>KL acc.1 acc.2 kv.1 kv.2) (ks,l)).1.length=(ps.foldl (λacc kv=>KL acc.1 acc.2 kv.1 kv.2) (ks,l)).2.length
 | [],[],ks,l,us,_,_,r,b=>⟨us,r,by simp,b⟩
 | [],w::ws,ks,l,us,h,_,_,_=>by simp at h
 | p::ps,[],ks,l,us,h,_,_,_=>by simp at h
 | p::ps,w::ws,ks,l,us,j,c,r,b=>by
  obtain⟨v,k,t,u,m,e,r1,r2⟩:=c;obtain⟨rfl,rfl⟩:=List.append_eq_nil_iff.mp e.symm;obtain⟨rfl,rfl⟩:=List.cons.inj m;rw[L5,L5] at j;obtain⟨d,f⟩:=List.cons.inj j;obtain⟨n,x,o,e3,sl,g⟩:=KH r1 p.1 r b;have:=List.sublist_nil.mp sl;subst this;obtain⟨us',q,s,i⟩:=Qt f r2 o g;refine⟨us',q,?_,i⟩;rw[X0,X0,s,e3,d]
end
section
variable {cl:Nat->Addr}{pm:List Nat}{X:Cx}{tg iter elt:Expr}{ifs:List Expr}{wi:TI}{pi:PAf}{t:TG}{g:D->Rh->Option Rh}{te:TE}{pk:Rh->Option (List KA)}{pv:PF}{pos cpos p:Pos}
structure QKv(cl:Nat->Addr)(X:Cx)(e:Expr)(te:TE)(pk:Rh->Option (List KA))(pv:PF):Prop where
 sem:PE X e te
 den:PK ⟨X.K,cl⟩ te pk pv
end
end QD
namespace L2
open PySem PySem.Spec PyProof.Rows
def jaV(h:Vals ys its):Vals (Vx lt ys .non) (Vx lt its Value.none):=by
 unfold Vx;rw[<- h.length];split
 ·exact h
 ·generalize(kEv lt<|PySem.W.kas_sort ys.length).toList=l;have get:∀ ys its,Vals ys its->∀ i,RelV (ys.getD i .non) (its.getD i Value.none):=by
   intro ys its h
   induction h with
   | nil=>intro i;simp;rfl
   | cons b _ a=>
    intro i;cases i with
    | zero=>exact b
    | succ i=>exact a i
  induction l with
  | nil=>exact .nil
  | cons i l a=>exact .cons (get ys its h i) a
def ja5(K:W4):List V->Hp->VK->Prop:=λxs H Q=>∃(p:Addr) (ys:List V) (rs:List jey),xs=[.ref p]/\SqL K H p ys/\ys.length=rs.length/\ys.length<64 /\
 (∀(j:Nat) y,ys[j]?=some y->∃ r t,rs[j]?=some r/\y=.ref t/\SqT K H t [.str r.1,.str r.2.1,.int r.2.2])/\∀ D,H D=none->Q (.ref D) (upd H D<|.lst<|Vx (λi j=>Qo (rs.getD i ("","",0))<|rs.getD j ("","",0)) ys .non)
def jev(h:Vals ys its):∀(j:Nat) v,its[j]?=some v->∃ y,ys[j]?=some y/\RelV y v:=by
 induction h with
 | nil=>intro j v e;simp at e
 | @cons y u ys c a _ b=>
  intro j v e;cases j with
  | zero=>cases e;exact⟨y,rfl,a⟩
  | succ j=>exact b j v ⇑e
def K7:vJ X (.builtin "sorted") (ja5 X.K):=by
 intro w s σ H xs us Q I r h;obtain⟨p,z,a,rfl,A,hl,hz,B,q⟩:=h;obtain⟨u,rfl,C⟩:=r.one;cases C;obtain⟨D,b,⟨o,n,e,d,E,f⟩,_⟩:=I.list A;have F:=b.length.symm;refine Yq (rs:=a) ⟨o,e,d,n,f⟩ ∅ ∅ (λj v G=>?_) λh' c J L=>?_
 ·obtain⟨y,M,N⟩:=jev b j v G;obtain⟨r,t,O,rfl,g⟩:=B j y M;cases(N);obtain⟨x,P,⟨R,e2,k,S,l⟩,_⟩:=I.tuple g;cases P with
  | cons T U=>
   cases U with
   | cons V W=>
    cases W with
    | cons Y Z=>
     cases Z;rename_i v1 v2 v3;obtain⟨t1,rfl⟩:=(T);obtain⟨t2,rfl⟩:=(V);obtain⟨t3,rfl⟩:=(Y);exact⟨r,O,t,R,S,t1,t2,t3,rfl,e2,k,l⟩
 ·have m:=I.hok.fresh<|Nat.le_succ ↥s;refine⟨.ref<|↥s+1,_,I.laid (o:=.lst<|Vx (λi j=>Qo (a.getD i ("","",0))<|a.getD j ("","",0)) z .non) J (Nat.le_succ _) ⟨?_,_,c,jaV b,L⟩,rfl,q _ m⟩;rw[wE]
  lia
end L2
namespace QD
open PySem L2 PySem.Spec PyProof.Rows
noncomputable def jhU:D->Option (List Nat)
 | .str s=>some s
 | _=>none
def uj{d}{n}(h:jhU d=some n):d=.str n:=by cases d<;>cases h<;>rfl
noncomputable def jpg:List D->Option (D×D×D)
 | [x,y,z]=>some (x,y,z)
 | _=>none
def jhg{l}{p}(h:jpg l=some p):l=[p.1,p.2.1,p.2.2]:=by
 match l with
 | [_,_,_]=>cases h;rfl
def jpQ(d:D):Option jey:=(jeR d).bind λt=>(jpg t).bind λp=>(jhU p.1).bind λa=>(jhU p.2.1).bind λb=>(vp p.2.2).bind λn=>some (S a,S b,n)
def jae:List D->Option (List jey)
 | []=>some []
 | d::l=>(jpQ d).bind λx=>(jae l).bind λr=>some<|x::r
def xy(rs:List jey)(l:List D):List D:=Vx (λi j=>Qo (rs.getD i ("","",0))<|rs.getD j ("","",0)) l .non
def KC:List D->Option D
 | [.lst _ l]=>(jae l).bind λrs=>bif decide (l.length<64) then some (.lst true<|xy rs l) else none
 | _=>none
@[simp] def fSorted_e(o)(l):KC [.lst o l]=(jae l).bind λrs=>bif decide (l.length<64) then some (.lst true<|xy rs l) else none:=rfl
def jcm:∀{l}{rs}{ys}{O},jae l=some rs->Reps R Z H l ys O->O=[]/\ys.length=rs.length/\∀(j:Nat) y,ys[j]?=some y->∃ r t,rs[j]?=some r/\y=.ref t/\SqT R.K H t [.str r.1,.str r.2.1,.int r.2.2]:=by
 intro l
 induction l with
 | nil=>
  intro rs ys O e r;cases e;obtain⟨rfl,rfl⟩:=r;exact⟨rfl,rfl,λj y f=>by simp at f⟩
 | cons d l i=>
  intro rs ys O e r;refine ob e λx c e=>ob e λk e2 e=>ob c λt m c=>ob c λq o c=>ob c λa p c=>ob c λb s c=>ob c λn u c=>?_;cases e;cases c;rw[Reps,wc m,jhg o,uj p,uj s,jB u] at r;obtain⟨G,v,I,J,rfl,rfl,r1,r2⟩:=r;obtain⟨rfl,w,q⟩:=i e2 r2;have z:=r1.nil (by rfl);subst z;obtain⟨t,vs,rfl,A,g⟩:=r1;obtain⟨L,B,M,N,rfl,P,C,h⟩:=g;obtain⟨Q,T,U,V,rfl,D,E,F⟩:=h.two_of;obtain⟨rfl,_⟩:=C.str_of;obtain⟨rfl,_⟩:=E.str_of;obtain⟨rfl,_⟩:=F.int_of;refine⟨rfl,by simp[w],λj y f=>?_⟩;cases j with
  | zero=>cases f;exact⟨(S a,S b,n),t,rfl,rfl,A.sq⟩
  | succ j=>exact q j y ⇑f
def jdh(r:Reps R Z H l vs [])(a:List Nat):Reps R Z H (a.map λi=>l.getD i .non) (a.map λi=>vs.getD i .non) []:=by
 have get:∀ l vs,Reps R Z H l vs []->∀ i,Rep R Z H (l.getD i .non) (vs.getD i .non) []:=by
  intro l
  induction l with
  | nil=>
   intro vs r i;obtain⟨rfl,_⟩:=r;simp;exact .non_mk
  | cons d l b=>
   intro vs r i;obtain⟨v,c,f,g,rfl,e,r1,r2⟩:=r;obtain⟨rfl,rfl⟩:=List.append_eq_nil_iff.mp e.symm;cases i with
   | zero=>exact r1
   | succ i=>exact b c r2 i
 induction a with
 | nil=>exact .empty
 | cons i a b=>exact Reps.cons (get l vs r i) b
def jbi:BC R (ja5 R.K) KC:=by
 intro Z H m d vs O z r e Q k
 match m,e,r with
 | [.lst o l],e,r=>
  refine ob e λc n e=>oc e λs e=>?_;cases e;obtain⟨v,rfl,r1⟩:=r.one_of;obtain⟨p,f,x,rfl,t,b⟩:=r1.lst_of;obtain⟨rfl,u,q⟩:=jcm n b;refine⟨p,f,c,rfl,t.sq,u,by rw[b.length];exact(X3 s),q,λD g=>?_⟩;refine k (Go.newO (wf0 z) g) ?_;have ne:∀ a,H a≠none->a≠D:=λa h e=>h<|e▸g;have w:Reps R Z H (xy c l) (Vx (λi j=>Qo (c.getD i ("","",0))<|c.getD j ("","",0)) f .non) []:=by
   unfold xy Vx;rw[b.length];split
   ·exact b
   ·exact jdh b _
  exact⟨D,_,[],rfl,w.frame (λa z=>z) (λa h=>jd<|ne a<|z a h)<|λa h=>(nomatch h),jk,rfl⟩
def QV:bootBuiltins "sorted" = some (.builtin "sorted"):=by boot_fast
def jaA:(xy rs l).Perm l:=by
 unfold xy Vx;split
 ·exact List.Perm.refl _
 ·rename_i h;refine(((xb (lt:=λi j=>Qo (rs.getD i ("","",0))<|rs.getD j ("","",0)) (n:=l.length) ∅).2).map λi=>l.getD i .non).trans ?_;have:(List.range l.length).map (λi=>l.getD i .non)=l:=by
   apply List.ext_getElem
   ·simp
   ·intro i b a;simp[List.getD_eq_getElem?_getD,X6 a]
  rw[this]
noncomputable def two2:List KA->Option (KA×KA)
 | [a,b]=>some (a,b)
 | _=>none
def two2_of{k}{p}(h:two2 k=some p):k=[p.1,p.2]:=by
 match k with
 | [_,_]=>cases h;rfl
def V8(q:KA->KA->Int->Option Bool)(el:KA->KA->Int->D):List (List KA)->List D->Option (List D)
 | [],[]=>some []
 | k::ks,d::l=>(two2 k).bind λp=>(vp d).bind λn=>(q p.1 p.2 n).bind λt=>(V8 q el ks l).bind λr=>some<|bif t then el p.1 p.2 n::r else r
 | _,_=>none
theorem VE{q el}:∀{ks}{l}{r},V8 q el ks l=some r->frzs l=true/\ks.length=l.length
 | [],[],_,_=>⟨rfl,rfl⟩
 | [],_::_,_,e=>by cases e
 | _::_,[],_,e=>by cases e
 | k::ks,d::l,r,e=>by
  refine ob e λp c e=>ob e λn e2 e=>ob e λt f e=>ob e λg e3 e=>?_;obtain⟨a,b⟩:=VE e3;cases jB e2;exact⟨by rw[JC,a];rfl,by simp[b]⟩
def jav{q el}{ks:List (List KA)}{l:List D}{r}{i}(e:V8 q el (ks.drop i) (l.drop i)=some r)(hi:i<ks.length):Ex5 λa b n t r'=>An5 (ks[i]?=some [a,b]) (l[i]?=some (.int n)) (q a b n=some t) (V8 q el (ks.drop<|i+1) (l.drop<|i+1)=some r') (r=bif t then el a b n::r' else r'):=by
 rw[List.drop_eq_getElem_cons hi] at e;have c:i<l.length:=by
  by_cases h:i<l.length
  ·exact h
  ·rw[List.drop_eq_nil_of_le (as:=l) ∅] at e;cases e
 rw[List.drop_eq_getElem_cons c] at e;rw[X6 hi,X6 c];refine ob e λp d e=>ob e λn e2 e=>ob e λt f e=>ob e λr' e3 e=>?_;cases e;exact⟨p.1,p.2,n,t,r',by rw[two2_of d],by rw[jB e2],f,e3,rfl⟩
section
variable {R:RC}{tc:TT}{te ts:TE}{q:KA->KA->Int->Option Bool}{el:KA->KA->Int->D}
def SpT(R:RC)(tc:TT)(q:KA->KA->Int->Option Bool):Prop:=∀{σ:L2.St}{Z:Zn}{H:Hp}{b a1 a2 n t}{Q:Bool->Hp->Prop},Zd Z H->σ[0]?=some (some<|.ref b)->σ[1]?=some (some<|.int n)->H b=some (.tup [kV<|kaV a1,kV<|kaV a2])->q a1 a2 n=some t->(∀{Z' H'},Go Z H [] Z' H' []->Q t H')->tc σ H Q
def SpE(R:RC)(te:TE)(el:KA->KA->Int->D):Prop:=∀{σ:L2.St}{Z:Zn}{H:Hp}{b a1 a2 n}{Q:VK},Zd Z H->σ[0]?=some (some<|.ref b)->σ[1]?=some (some<|.int n)->H b=some (.tup [kV<|kaV a1,kV<|kaV a2])->(∀{v Z' H'},Go Z H [] Z' H' []->Rep R Z' H' (el a1 a2 n) v []->Q v H')->te σ H Q
inductive CpQ (R:RC) (q:KA->KA->Int->Option Bool) (el:KA->KA->Int->D) (Z0:Zn) (H0:Hp) (a:Addr) (ks:List<|List KA) (l all:List D) (i m:Nat) (σ2:L2.St) (H2:Hp):Prop
 | mk:m=ks.length-i->i<=ks.length->σ2.length=2->∀(Z2:Zn) (ys:List D) (vs:List V) (JR:List D),Go Z0 H0 [] Z2 H2 [a]->H2 a=some (.lst vs)->Reps R Z2 H2 ys vs []->V8 q el (ks.drop i) (l.drop i)=some JR->all=ys++JR->ys.length<=i->CpQ R q el Z0 H0 a ks l all i m σ2 H2
def jdu(ht:SpT R tc q)(he:SpE R te el){H}{o}{g}{d}{ks}{l}{us}{all}(C:Zd g d)(hd:d H=some (.frz o<|.dT<|(ks.map<|List.map kaV).zip us))(ru:Reps R g d l us [])(D:ks.length=l.length)(hl:lim ks.length=true)(e:V8 q el ks l=some all)
  {Q:VK}(k:∀{a}{Z'}{H'}{vs},Go g d [] Z' H' [a]->H' a=some (.lst vs)->Reps R Z' H' all vs []->Q (.ref a) H'):∀ a,d a=none ->
  wL tc te (jgL R.K 2<|Vf (km 0)<|Vf (km 1) jjm) (jnI H o<|(ks.map<|List.map kaV).zip us) a [none,none] (upd d a<|.lst []) λH2=>Q (.ref a) H2:=by
 intro a ha;have M:us.length=ks.length:=by rw[ru.length];exact D.symm
 have j:((ks.map<|List.map kaV).zip us).length=ks.length:=by rw[List.length_zip,L1,M,Nat.min_self]
 have gp:Go g d [] g (upd d a<|.lst []) [a]:=Go.newO (wf0 C) ha;refine⟨CpQ R q el g d a ks l all,
  ⟨ks.length,rfl,U5 _,rfl,g,[],[],all,gp,jk,Reps.empty,e,rfl,M8 _⟩,?_⟩
 rintro i m N H2 ⟨rfl,O,hσ,Z2,ys,vs,JR,g2,E,I,e3,A,r⟩;have hJ:H2 H=some (.frz o<|.dT<|(ks.map<|List.map kaV).zip us):=by rw[g2.same H<|by rw[hd];exact λz=>(nomatch z)];exact hd
 by_cases f:i<ks.length
 ·right
  refine⟨⟨hJ,by rw[j];exact f⟩,?_⟩;rintro u H3 ⟨p,kv,b,F,rfl,hp,P,rfl⟩;obtain⟨J,L,n,t,r',hk,hn,e6,e5,rfl⟩:=jav e3 f;obtain⟨w,hw,S⟩:=(g2.reps C ru).item hn;obtain⟨rfl,_⟩:=S.int_of;have hz:((ks.map<|List.map kaV).zip us)[i]?=some ([kaV J,kaV L],.int n):=by
   rw[List.getElem?_zip_eq_some];exact⟨by rw[List.getElem?_map,hk];rfl,hw⟩
  rw[hz] at F;cases F;have T:b≠p:=λz=>by rw[z,hp] at P;cases P
  have s:upd H2 p (.tup [.ref b,.int n]) b=some (.tup [kV<|kaV J,kV<|kaV L]):=by rw[jd T];exact P
  have g3:Go Z2 H2 [] Z2 (upd H2 p<|.tup [.ref b,.int n]) []:=(Go.newO (wf0 g2.wf.zd) hp).drop (λ_ h=>(nomatch h)) List.nodup_nil;refine⟨p,[.ref b,.int n],rfl,SqT.of jk,rfl,.ref b,[.int n],rfl,.int n,[],rfl,rfl,?_⟩;have s0:((N.set 0<|some<|.ref b).set 1 (some<|.int n))[0]?=some (some<|.ref b):=by
   rw[List.getElem?_set_ne<|by decide,List.getElem?_set_self ∅]
  have s1:((N.set 0<|some<|.ref b).set 1 (some<|.int n))[1]?=some (some<|.int n):=by
   rw[List.getElem?_set_self<|by rw[List.length_set];lia]
  have G:((N.set 0<|some<|V.ref b).set 1 (some<|V.int n)).length=2:=by simp[hσ]
  refine ht g3.wf.zd s0 s1 s e6 λ{Z4 H4} g4=>?_;have c:=g3.trans g4;cases t with
  | true=>
   have U:H4 b=some (.tup [kV<|kaV J,kV<|kaV L]):=by rw[g4.same b<|by rw[s];exact λz=>(nomatch z)];exact s
   refine jgv<|he c.wf.zd s0 s1 U λ{v Z6 W} gq rq=>?_;have y:=c.trans gq;have X:W a=some (.lst vs):=by rw[y.same a<|by rw[E];exact λz=>(nomatch z)];exact E
   have Y:vs.length<sizeLine:=by
    rw[I.length];exact VA<|X1<|N7 r<|N7 O<|X3 hl
   have gA:Go g d [] Z6 W [a]:=g2.trans ⇑(y.frame (B:=[])<|by simpa using g2.wf);have w6:=gA.wf;have rr:=((y.reps g2.wf.zd I).append (.one rq)).frame (H':=upd W a<|.lst<|vs++[v]) (λ_ z=>z) (λx Z=>jd λz=>w6.nz a L7<|z▸Z) (λx Z=>(nomatch Z));rw[cond_true] at A;exact⟨vs,X,Y,ks.length-(i+1),by lia,rfl,f,G,_,ys++[el J L n],vs++[v],r',gA.trans<|Go.put (o:=.lst<|vs++[v]) w6 L7,jk,by simpa using rr,e5,by rw[A];simp,by rw[N4];exact Nat.add_le_add_right r 1⟩
  | false=>
   refine jgD ?_;rw[cond_false] at A;exact⟨ks.length-(i+1),by lia,rfl,f,G,Z4,ys,vs,r',g2.trans<|by simpa using(c.frame (B:=[]) ⇑g2.wf),by rw[c.same a<|by rw[E];exact λz=>(nomatch z)];exact E,c.reps g2.wf.zd I,e5,A,Nat.le_succ_of_le r⟩
 ·left
  have hi2:i=ks.length:=by lia
  refine⟨⟨hJ,by rw[j];lia⟩,?_⟩;rw[hi2,List.drop_length,D,List.drop_length] at e3;cases e3;rw[M9] at A;subst A;exact k g2 E I
@[simp] def jmW(fe:FE)(q:KA->KA->Int->Option Bool)(el:KA->KA->Int->D)(ρ:Rh):Option (D×Rh):=(fe ρ).bind λt=>(jij t.1).bind λp=>bif lim p.1.length then(V8 q el p.1 p.2).bind λr=>some (.lst true r,t.2) else none
def ji4{fe}(h:DE R ts fe)(C:SpT R tc q)(D:SpE R te el):DE R (zu (jou ts) (jgL R.K 2<|Vf (km 0)<|Vf (km 1) jjm) tc te [none,none]) (jmW fe q el):=by
 intro σ ρ M Z H O d w s e Q k;refine ob e λt e5 e=>ob e λp E e=>oc e λi e=>ob e λall e7 e=>?_;cases e;obtain⟨x,N⟩:=t;obtain⟨n,l⟩:=p;cases z6 E;refine h w s e5 λ{v j g P m} A r s1=>?_;obtain⟨c,u,S,rfl,B,y,F,rfl⟩:=r;cases B.nil (VE e7).1;refine⟨c,_,rfl,F,λo=>?_⟩;have w1:=A.wf;have G:Go j g ([c]++m) j (upd g c<|.frz o<|.dT<|(n.map<|List.map kaV).zip u) ([c]++m):=Go.put w1 (by simp);have nd:=w1.nd;simp only[List.singleton_append,List.nodup_cons] at nd;have g2:Go j g ([c]++m) j (upd g c<|.frz o<|.dT<|(n.map<|List.map kaV).zip u) m:=G.drop (λa h=>U3 _ h) nd.2;have nz:∀ b,j b->upd g c (.frz o<|.dT<|(n.map<|List.map kaV).zip u) b=g b:=λb f=>jd λz=>w1.nz c (by simp)<|z▸f;have I:∀ b∈m,b≠c:=λb f z=>nd.1<|z▸f;exact jdu C D g2.wf.zd jk (B.frame (λ_ z=>z) nz λb f=>(nomatch f)) y i e7 λ{a T U vs} g3 J L=>(k (A.trans<|g2.trans<|g3.widen g2.wf) ⟨a,vs,[],rfl,L,J,rfl⟩<|g3.slots g2.wf.zd<|s1.frame (λ_ z=>z) nz λb f=>jd<|I b f)
def jid:SpT R (uI<|tOp (rI0 λi j=>.bl<|decide<|j<i) (yg 1)<|tC<|.int 0) (λ_ _ n=>some<|decide<|0<n):=by
 intro σ Z H b a c n t Q z d s1 f e k;cases e;exact⟨.int n,s1,n,0,rfl,rfl,_,rfl,k<|Go.refl<|wf0 z⟩
def jg0:SpE R (ut<|jC (tOp (rIx R.K) (yg 0)<|tC<|.int 0)<|jC (tOp (rIx R.K) (yg 0)<|tC<|.int 1)<|jC (yg 1) JO) (λa b n=>.tup [kaD a,kaD b,.int n]):=by
 intro σ Z H b f g n Q z c s1 d k;refine⟨.ref b,c,.inr<|.inl ⟨b,_,0,_,rfl,rfl,SqT.of d,rfl,⟨.ref b,c,.inr<|.inl ⟨b,_,1,_,rfl,rfl,SqT.of d,rfl,?_⟩⟩⟩⟩;exact⟨.int n,s1,by show 3<=sizeLine;decide,λq e=>k (Go.newF (wf0 z) e)<|Rep.tupNew (wf0 z) e<|Reps.cons (xc f)<|Reps.cons (xc g)<|Reps.cons .int_mk .empty⟩
abbrev jbp:List (List KA)->List D->Option (List D):=V8 (λ_ _ n=>some<|decide<|0<n) λa b n=>.tup [kaD a,kaD b,.int n]
@[simp] def joX(i:Nat)(ρ:Rh):Option (D×Rh):=jmW (dMv i) (λ_ _ n=>some<|decide<|0<n) (λa b n=>.tup [kaD a,kaD b,.int n]) ρ
end
noncomputable def jas:List D->List D->List D->List D
 | a::l,b::m,c::n=>.tup [a,b,c]::jas l m n
 | _,_,_=>[]
theorem Kc:∀{ns}{l}{vs}{O},Reps R Z H l vs O->ns.length=l.length->Jm ns l f=some d->Ex2 λv P=>An3 ((ns.zip vs).lookup f=some v) (Rep R Z H d v P)<|∀ q,P.count q<=O.count q
 | [],l,vs,O,_,_,h=>by cases l<;>cases h
 | n::ns,[],vs,O,_,a,_=>by simp at a
 | n::ns,x::l,vs,O,r,a,h=>by
  obtain⟨v,b,c,i,rfl,rfl,r1,r2⟩:=r;rw[Jm] at h;by_cases e:f=n
  ·rw[if_pos e] at h;cases h;exact⟨v,c,by rw[U7,List.lookup_cons,e];simp,r1,λq=>by rw[U8];lia⟩
  ·rw[if_neg e] at h;obtain⟨w,P,g,e2,e3⟩:=Kc r2 ⇑a h;refine⟨w,P,?_,e2,λq=>by have:=e3 q;rw[U8];lia⟩;rw[U7,List.lookup_cons,show(f==n)=false by simp[e]];exact g
theorem wD(j:f≠g):∀{ns}{l}{vs}{O},Reps R Z H l vs O->ns.length=l.length->Jm ns l f=some d->Jm ns l g=some c ->
  Ex4 λv P w Q=>An5 ((ns.zip vs).lookup f=some v) ((ns.zip vs).lookup g=some w) (Rep R Z H d v P) (Rep R Z H c w Q)<|∀ q,P.count q+Q.count q<=O.count q
 | [],l,vs,O,_,_,h,_=>by cases l<;>cases h
 | n::ns,[],vs,O,_,m,_,_=>by simp at m
 | n::ns,x::l,vs,O,r,m,h,k=>by
  obtain⟨v,s,p,u,rfl,rfl,r1,r2⟩:=r;rw[Jm] at h k;by_cases e:f=n
  ·have i:g≠n:=λz=>j<|e.trans z.symm;rw[if_pos e] at h;rw[if_neg i] at k;cases h;obtain⟨w,Q,o,e2,e3⟩:=Kc r2 ⇑m k;refine⟨v,p,w,Q,by rw[U7,List.lookup_cons,e];simp,?_,r1,e2,λq=>by have:=e3 q;rw[U8];lia⟩;rw[U7,List.lookup_cons,show(g==n)=false by simp[i]];exact o
  ·rw[if_neg e] at h;by_cases i:g=n
   ·rw[if_pos i] at k;cases k;obtain⟨w,Q,o,e2,e3⟩:=Kc r2 ⇑m h;refine⟨w,Q,v,p,?_,by rw[U7,List.lookup_cons,i];simp,e2,r1,λq=>by have:=e3 q;rw[U8];lia⟩;rw[U7,List.lookup_cons,show(f==n)=false by simp[e]];exact o
   ·rw[if_neg i] at k;obtain⟨a,P,b,Q,o,e2,e3,t,e5⟩:=wD j r2 ⇑m h k;refine⟨a,P,b,Q,?_,?_,e3,t,λq=>by have:=e5 q;rw[U8];lia⟩
    ·rw[U7,List.lookup_cons,show(f==n)=false by simp[e]];exact o
    ·rw[U7,List.lookup_cons,show(g==n)=false by simp[i]];exact e2
@[simp] def jjF(i:Nat)(c:Nat)(f:Str)(g:Str)(pe:PF)(ρ:Rh):Option (D×Rh):=(pV i ρ).bind λt=>(ze t).bind λy=>bif y.1==c&&!decide (f=g) then(Jm y.2.1 y.2.2 f).bind λa=>(Jm y.2.1 y.2.2 g).bind λb=>(pe ρ).bind λr=>some (.tup [a,r,b],ρ.set i none) else none
def jke(L:Cls R.K<|R.cls c)(Y:NoAttr R.K (R.cls c) f)(hg:NoAttr R.K (R.cls c) g)(he:PP R te pe):DE R (ut<|jC (jdV R.K (yg i) f)<|jC te<|jC (jdV R.K (yg i) g) JO) (jjF i c f g pe):=by
 intro σ ρ ρ' Z H O d w s e Q k;refine ob e λt e1 e=>ob e λ⟨c',ns,l⟩ e2 e=>oc e λE e=>ob e λa e3 e=>ob e λb e4 e=>ob e λr e5 e=>?_;cases e;cases Jq e2;have M:=qu e1;rw[M0] at E;obtain rfl:c'=c:=by simpa using E.1
 have F:f≠g:=by simpa using E.2
 obtain⟨A,P,B,rfl,k1,_,k3⟩:=s.put (L9.mp M).1;obtain⟨v,N,rp⟩:=k1 _ M;obtain⟨x,S,vs,G,rfl,rs,I,T,rfl⟩:=rp;obtain⟨m,Pf,n,Pg,lf,lg,rf,rg,cn⟩:=wD F rs I e3 e4;refine⟨.ref x,N,x,_,S,_,m,rfl,T,L,Y,lf,(he w.zd s e5 λ{p o j D} u r1=>?_)⟩;refine⟨.ref x,N,x,_,S,_,n,rfl,u.at0 T,L,hg,lg,by show 3<=sizeLine;decide,λq U=>?_⟩;have J:=u.widen w;have gN:Go o j (D++(A++(x::G)++B)) (λy=>o y\/y=q) (upd j q<|.tup [m,p,n]) (D++(A++(x::G)++B)):=Go.newF J.wf U;have ne:∀ y,j y≠none->y≠q:=λy h e=>h<|e▸U;have zn:∀ y,o y->upd j q (.tup [m,p,n]) y=j y:=λy C=>jd<|ne y<|J.wf.zd y C;have up:∀{d}{v}{V},Rep R o j d v V->Rep R (λy=>o y\/y=q) (upd j q<|.tup [m,p,n]) d v V:=λW=>W.frame (λ_ z=>.inl z) zn λy C=>jd<|ne y<|W.dom y C;have s1:=(u.slots w.zd k3);have s2:Slots R (λy=>o y\/y=q) (upd j q<|.tup [m,p,n]) (ρ.set i none) σ (A++B):=s1.frame (λ_ z=>.inl z) zn λy C=>jd<|ne y<|s1.dom y C;have X:∀ y,((Pf++(D++Pg))++(A++B)).count y<=(D++(A++(x::G)++B)).count y:=λy=>by
  have:=cn y;simp only[U8,List.count_cons];lia
 refine k ((J.trans gN).drop (qe X) (vw X gN.wf.nd)) ⟨q,[m,p,n],rfl,.inl ⟨.inr rfl,.inl jk⟩,?_⟩ s2;have:=Reps.cons (up<|u.rep w.zd rf)<|Reps.cons (up r1)<|Reps.one<|up<|u.rep w.zd rg;simpa using this
def jop{cl}{X}{e}{te}{pe}{pos p}{i k}{x f g}{m}{p2 b a}(n:Cls X.K<|cl k)(o:NoAttr X.K (cl k) f)(q:NoAttr X.K (cl k) g)(r:QB cl X (.Name x p) (yg i)<|pV i)(l:QP cl X e te pe)(c:QB cl X (.Name x p2) (yg i)<|pV i)
  (s:attributeBase (.Name x p) f X.env (eval (.Name x p) X.env)=eval (.Name x p) X.env:=by rfl) (d:attributeBase (.Name x p2) g X.env (eval (.Name x p2) X.env)=eval (.Name x p2) X.env:=by rfl)
  (t:starEach [.Attribute (.Name x p) f b,e,.Attribute (.Name x p2) g a] X.env=(false,eval (.Attribute (.Name x p) f b) X.env)::starEach [e,.Attribute (.Name x p2) g a] X.env:=by rfl)
  (h:starEach [e,.Attribute (.Name x p2) g a] X.env=(false,eval e X.env)::starEach [.Attribute (.Name x p2) g a] X.env:=by rfl)
  (j:starEach [.Attribute (.Name x p2) g a] X.env=(false,eval (.Attribute (.Name x p2) g a) X.env)::starEach [] X.env:=by rfl):
  QE cl X (.Tuple [.Attribute (.Name x p) f b,e,.Attribute (.Name x p2) g a] m pos) (ut<|jC (jdV X.K (yg i) f)<|jC te<|jC (jdV X.K (yg i) g) JO) (jjF i k f g pe):=
 ⟨JA<|jy (wZ r.sem s) (jy l.sem (jy (wZ c.sem d) vF j) h) t,jke n o q l.den⟩
end QD
namespace QD
open PySem L2
def jla(B:BlockOk X scope N' [none,none])(e:X.calm=true)(f:QB cl X (.Name x p) (yg i)<|pV i)
  (h:∀ C s H fp,QG cl [] (jX X scope N' C s H fp) (.Tuple elts m tpos) (jgL X.K 2<|Vf (km 0)<|Vf (km 1) jjm) g)
  (d:∀ C s H fp,QT cl (jX X scope N' C s H fp) c (uI<|tOp (rI0 λi j=>.bl<|decide<|j<i) (yg 1)<|tC<|.int 0) q)
  (k:∀ C s H fp,QP cl (jX X scope N' C s H fp) elt (ut<|jC (tOp (rIx X.K) (yg 0)<|tC<|.int 0)<|jC (tOp (rIx X.K) (yg 0)<|tC<|.int 1)<|jC (yg 1) JO) pe)
  (a:attributeBase (.Name x p) "items" X.env (eval (.Name x p) X.env)=eval (.Name x p) X.env:=by rfl) (b:(apos.endLine==cpos.line)=true:=by rfl)
  (l:∀ z,foldedSetIterable (.Call (.Attribute (.Name x p) "items" apos) [] [] cpos) X.env z=pure z:=by intro _;rfl):
  QE cl X (.ListComp elt [⟨.Tuple elts m tpos,.Call (.Attribute (.Name x p) "items" apos) [] [] cpos,[c],0⟩] scope pos)
   (zu (jou<|yg i) (jgL X.K 2<|Vf (km 0)<|Vf (km 1) jjm) (uI<|tOp (rI0 λi j=>.bl<|decide<|j<i) (yg 1)<|tC<|.int 0) (ut<|jC (tOp (rIx X.K) (yg 0)<|tC<|.int 0)<|jC (tOp (rIx X.K) (yg 0)<|tC<|.int 1)<|jC (yg 1) JO) [none,none]) (joX i):=
 ⟨jc6 B e (jmT f.sem a b) (λC s H fp=>(h C s H fp).sem) (λC s H fp=>.inr ⟨c,rfl,(d C s H fp).sem⟩) (λC s H fp=>(k C s H fp).sem) l,ji4 jkW (@jid _)<|@jg0 _⟩
end QD
namespace L2
open PySem PySem.Spec PyProof.Rows
end L2
namespace QD
open PySem L2 PySem.Spec PyProof.Rows
mutual
noncomputable def pln:D->Bool
 | .tup l=>jm6 l
 | .non=>true | .bl _=>true | .int _=>true | .str _=>true
 | .lst _ _=>false | .dK _ _ _=>false | .dT _ _ _=>false | .ins _ _ _ _=>false | .dead=>false | .tok _=>false | .kt _=>false | .exc _ _=>false
noncomputable def jm6:List D->Bool
 | []=>true
 | d::l=>pln d&&jm6 l
end
mutual
theorem Rep.cutA{a:Addr}(ha:∀ vs,¬ Rd H a (.tup vs))(hH:∀ b,b≠a->H' b=H b):∀{d:D}{v:V}{O:W5},pln d=true->Rep R Z H d v O->Rep R (λb=>Z b/\b≠a) H' d v O
 | .non,_,_,_,r=>by rw[Rep] at r ⊢;exact r
 | .bl _,_,_,_,r=>by rw[Rep] at r ⊢;exact r
 | .int _,_,_,_,r=>by rw[Rep] at r ⊢;exact r
 | .str _,_,_,_,r=>by rw[Rep] at r ⊢;exact r
 | .tup l,_,_,h,r=>by
  rw[pln] at h;rw[Rep] at r ⊢;obtain⟨p,vs,e,t,r⟩:=r;refine⟨p,vs,e,?_,Reps.cutA ha hH h r⟩;rcases t with⟨z,t⟩ | t
  ·have ne:p≠a:=λq=>ha vs<|q▸t;exact .inl ⟨⟨z,ne⟩,Rd.agree (hH p ne) t⟩
  ·exact .inr t
 | .lst _ _,_,_,h,_=>by rw[pln] at h;cases h
 | .dK _ _ _,_,_,h,_=>by rw[pln] at h;cases h
 | .dT _ _ _,_,_,h,_=>by rw[pln] at h;cases h
 | .ins _ _ _ _,_,_,h,_=>by rw[pln] at h;cases h
 | .dead,_,_,h,_=>by rw[pln] at h;cases h
 | .tok _,_,_,h,_=>by rw[pln] at h;cases h
 | .kt _,_,_,h,_=>by rw[pln] at h;cases h
 | .exc _ _,_,_,h,_=>by rw[pln] at h;cases h
theorem Reps.cutA{a:Addr}(ha:∀ vs,¬ Rd H a (.tup vs))(hH:∀ b,b≠a->H' b=H b):∀{l:List D}{vs:List V}{O:W5},jm6 l=true->Reps R Z H l vs O->Reps R (λb=>Z b/\b≠a) H' l vs O
 | [],_,_,_,r=>by rw[Reps] at r ⊢;exact r
 | d::l,_,_,h,r=>by
  rw[jm6,M0] at h;rw[Reps] at r ⊢;obtain⟨v,vs',O1,O2,e1,e2,r1,r2⟩:=r;exact⟨v,vs',O1,O2,e1,e2,Rep.cutA ha hH h.1 r1,Reps.cutA ha hH h.2 r2⟩
end
def jpd(K:W4)(mg:W6)(x:Str)(st:Stmt)(ps:List Str):Prop:=∃ f fd,FnFact K mg x x st f fd ps
def joZ(K:W4)(C:Addr)(x qual:Str)(st:Stmt)(ps:List Str):Prop:=∃ f fd,MtFact K C x qual st f fd ps
section
variable {K:W4}{mg:W6}{h:Heap}{x qual:Str}{st:Stmt}{ps:List Str}{a C:Addr}{od an:Option Addr}{sl:Array (Option Value)}{oc kV dc pm cd ct:Value}
def hasF(X:K.In h)(G:h.Ns mainGlobals mg)(c:PySem.W.nsIn K mainGlobals x=some (some<|.ref a))(e2:K.lookup a=some ⟨oc,od,.func<|PySem.W.fnOf x x (qB st) (vI st) (ju st) .none kV dc pm an cd ct,sl⟩)(e3:PySem.W.codeIn K cd x=true)(b:PySem.W.keepIn K (.ref a)=true)
  (d:∀ kV doc pm an cdv ct us,us.length=ps.length->bindArgs (PySem.W.fnOf x x (qB st) (vI st) (ju st) .none kV doc pm an cdv ct) ⟨us,[]⟩=pure (ps.zip us)):jpd K mg x st ps:=⟨_,_,wH e2 e3 b,PySem.W.mg_of X G c,(wH e2 e3 b).binds d⟩
def hasM(c:PySem.W.findIn K (.ref C) x=some (some<|.ref a))(e5:PySem.W.isFn K (.ref a)=true)(e2:K.lookup a=some ⟨oc,od,.func<|PySem.W.fnOf x qual (qB st) (vI st) (ju st) .none kV dc pm an cd ct,sl⟩)(e3:PySem.W.codeIn K cd qual=true)(b:PySem.W.keepIn K (.ref a)=true)
  (d:∀ kV doc pm an cdv ct us,us.length=ps.length->bindArgs (PySem.W.fnOf x qual (qB st) (vI st) (ju st) .none kV doc pm an cdv ct) ⟨us,[]⟩=pure (ps.zip us)):joZ K C x qual st ps:=⟨_,_,wH e2 e3 b,⟨c,e5,b⟩,(wH e2 e3 b).binds d⟩
end
def fsc{N ps}{sc}(a:sc.kind=.function:=by rfl)(b:sc.isCoroutine=false:=by rfl)(c:sc.isGenerator=false:=by rfl)(d:N.Nodup:=by decide +kernel)(e:N.take ps.length=ps:=by rfl)
  (f:∀ x∈ps,sc.names.lookup x=some .local\/sc.names.lookup x=some .cell:=by decide +kernel) (g:∀ y∈sc.names,y.2≠.free:=by decide +kernel):FnScope N ps sc:=⟨a,b,c,d,e,f,g⟩
def jgm(K:W4)(mg:W6)(x:Str)(st:Stmt)(N:List Str)(n:Nat):Prop:=FnScope N (N.take n) (ju st)/\jpd K mg x st (N.take n)
def jml(K:W4)(C:Addr)(x qual:Str)(st:Stmt)(N:List Str)(n:Nat):Prop:=FnScope N (N.take n) (ju st)/\joZ K C x qual st (N.take n)
section
variable (P:Program)(w:World)(cl:Nat->Addr){K:W4}{mg:W6}{C:Addr}{x qual:Str}{st:Stmt}{N:List Str}{n:Nat}
abbrev NP(_:jgm K mg x st N n)(k:Nat)(m:List D->Option D):Prop:=OkF P w K mg x st k (N.take n)<|spP ⟨K,cl⟩ m n
abbrev NM(_:jgm K mg x st N n)(k:Nat)(m:List D->Option (D×D)):Prop:=OkF P w K mg x st k (N.take n)<|spM ⟨K,cl⟩ m n 0
abbrev OP(mg:W6)(_:jml K C x qual st N n)(k:Nat)(m:List D->Option D):Prop:=OkM P w K mg C x qual st k (N.take n)<|spP ⟨K,cl⟩ m n
abbrev OM(mg:W6)(_:jml K C x qual st N n)(k:Nat)(m:List D->Option (D×D)):Prop:=OkM P w K mg C x qual st k (N.take n)<|spM ⟨K,cl⟩ m n 0
end
section
variable {P:Program}{w:World}{k:Nat}{sp:Sp}{K:W4}{mg:W6}{C:Addr}{x qual:Str}{st:Stmt}{N:List Str}{n:Nat}
def okN(h:jgm K mg x st N n)(g:∀ f fd,FnScope N (N.take n) (ju st)->FnFact K mg x x st f fd (N.take n)->∀ base,FnOk P w K mg base CX0 k f fd (N.take n) sp):OkF P w K mg x st k (N.take n) sp:=by
 obtain⟨S,f,fd,F⟩:=h;exact⟨f,fd,F,g f fd S F⟩
def okO(h:jml K C x qual st N n)(g:∀ f fd,FnScope N (N.take n) (ju st)->MtFact K C x qual st f fd (N.take n)->∀ base,FnOk P w K mg base CX0 k f fd (N.take n) sp):OkM P w K mg C x qual st k (N.take n) sp:=by
 obtain⟨S,f,fd,F⟩:=h;exact⟨f,fd,F,g f fd S F⟩
end
def u0{α:Type}{P:List α->Prop}(h:P []):∀ us:List α,us.length=0->P us
 | [],_=>h
def uS{α:Type}{P:List α->Prop}{n}(h:∀ a,∀ us:List α,us.length=n->P (a::us)):∀ us:List α,us.length=n+1->P us
 | a::us,e=>h a us<|Nat.succ.inj e
def jf4{a b}(h:a)(k:a->b):a/\b:=⟨h,k h⟩
section
variable {cl:Nat->Addr}{X:Cx}{pos:Pos}{x:Str}{scope:Scope}{N':List Str}{i:Nat}
def qS{j}{l}(h:x=S l:=by decide +kernel):QP cl X (.Constant (.str x) j pos) (tC<|.str x) (pS l):=jnw l h
def qI{i}{j}:QB cl X (.Constant (.int i) j pos) (tC<|.int i) (pI i):=QP.bb jjQ
end
end QD
namespace L2
open PySem PySem.Spec PyProof.Rows
def zS(h:IntsAre its ns):Vals (ns.map V.int) its:=by
 induction h with
 | nil=>exact .nil
 | cons n t _ a=>exact .cons ⟨t,rfl⟩ a
end L2
namespace QD
open PySem L2 PySem.Spec PyProof.Rows
def jb6(ns:List Int):Reps R Z H (ns.map D.int) (ns.map V.int) []:=by
 induction ns with
 | nil=>exact .empty
 | cons n ns a=>exact Reps.cons .int_mk a
def xf:bootBuiltins "sorted" = some (.builtin "sorted"):=by boot_fast
noncomputable def blN(N:List Str):List (Option Nat)->List Str->List Str
 | [],_=>[]
 | none::l,xs=>xs.headD ""::blN N l xs.tail
 | some j::l,xs=>N.getD j ""::blN N l xs
noncomputable def jm5(sc:Scope):List Str:=(sc.names.filter λy=>decide (y.2=.local)||decide (y.2=.cell)).tail.map (·.1)
def bkN(_:FnScope N ps sc)  (h1:X.env.scope=sc:=by rfl) (h2:X.N=N:=by rfl) (h:JG sc N scope (blN N ix<|jm5 scope) ix=true:=by decide +kernel):BlockOk X scope (blN N ix<|jm5 scope) ix:=jcL sc N h1 h2 h
def joE{p:PAf}{n}(h:∀ ρ ds,p ρ=some ds->ds.length=n):∀ ρ ds,p ρ=some ds->ds.length+1=n+1:=λρ ds e=>by rw[h ρ ds e]
def ndN(h:N'.Nodup):(jX X scope N' C s H fp).N.Nodup:=h
section
open Classical in
def jfy(i:Nat)(L:Ln)(ρ:Rh):Option (D×Rh):=(pV i ρ).bind λt=>(L t).bind λy=>some (y.1,ρ.set i<|some<|y.2 .dead)
def jmw(b:K2 R tb i L):DE R tb (jfy i L):=by
 intro σ ρ h Z H O d w s e Q k;refine ob e λt hi e=>ob e λ⟨y,j⟩ e3 e=>?_;cases e;obtain⟨v,A,P,B,rfl,r,f,g⟩:=b s (qu hi) e3;have s1:=g (x':=.dead) (P':=[]) (by rw[Rep]) (λ_ z=>z) (λ_ _=>rfl) (λ_ _=>rfl)<|λ_ _=>rfl;have a:∀ c,(P++(A++[]++B)).count c<=(A++P++B).count c:=λc=>by simp only[U8,List.count_nil];omega
 exact f<|k ((Go.refl w).drop (O'':=P++(A++[]++B)) (qe a) (vw a w.nd)) r s1
end
def jmP(a:QL cl X e tb i L):QE cl X e tb (jfy i L):=⟨a.sem,jmw a.den⟩
end QD
namespace QD
open PySem L2
noncomputable def jm7:D->Option (List KA)
 | .kt k=>some k
 | _=>none
def jhV(h:jm7 d=some k):d=.kt k:=by
 cases d with
 | kt b=>cases h;rfl
 | _=>cases h
@[simp] def ktOf_kt(k):jm7 (.kt k)=some k:=rfl
@[simp] def pKt(i:Nat)(ρ:Rh):Option (List KA):=(pV i ρ).bind jm7
@[simp] def dKey(pk:Rh->Option (List KA))(ρ:Rh):Option (D×Rh):=(pk ρ).bind λk=>some (.kt k,ρ)
end QD
namespace QD
open PySem L2 PySem.Spec PyProof.Rows
noncomputable def sqD:D->Option (Bool×List D)
 | .lst _ l=>some (true,l)
 | .tup l=>some (false,l)
 | _=>none
def jgN:List D->Option (List<|Bool×List D)
 | []=>some []
 | d::ds=>(sqD d).bind λx=>(jgN ds).bind λxs=>some<|x::xs
def FB(R:RC)(Z:Zn)(H:Hp)(a:Addr):Bool->List V->Prop
 | true,w=>FL R Z H a w
 | false,w=>FT R Z H a w
def FB.frame(b:∀ a,Z a->Z' a)(c:∀ a,Z a->H' a=H a)(h:FB R Z H a k w):FB R Z' H' a k w:=by
 cases k with
 | true=>exact FL.frame b c h
 | false=>exact FT.frame b c h
def FB.sq(h:FB R Z H a k w):SqB R.K H a k w:=by
 cases k with
 | true=>exact FL.sq h
 | false=>exact FT.sq h
def jhW(e:sqD d=some x)(r:Rep R Z H (fz d) v []):Ex2 λa w=>An3 (v=.ref a) (FB R Z H a x.1 w) (Reps R Z H (fzs x.2) w []):=by
 cases d with
 | lst o l=>
  cases e;obtain⟨a,w,g,rfl,b,c,rfl,_⟩:=r;exact⟨a,w,rfl,c,b⟩
 | tup l=>
  cases e;obtain⟨a,w,rfl,f,b⟩:=r;exact⟨a,w,rfl,f,b⟩
 | _=>cases e
structure Zr where
 a:Addr
 k:Bool
 w:List V
 l:List D
theorem xZ:∀{ds}{xs}{vs},jgN ds=some xs->Reps R Z H (fzs ds) vs []->∃(zs:List Zr),An3 (zs.map (λz=>(z.k,z.l))=xs) (vs=zs.map (λz=>.ref z.a))<|∀ z∈zs,FB R Z H z.a z.k z.w/\Reps R Z H (fzs z.l) z.w []
 | [],xs,vs,e,r=>by
  cases e;exact⟨[],rfl,r.1,by simp⟩
 | d::ds,xs,vs,e,r=>by
  refine ob e λx b e=>ob e λn e2 e=>?_;cases e;obtain⟨v,c,o,p,rfl,f,r1,r2⟩:=r;obtain⟨rfl,rfl⟩:=List.append_eq_nil_iff.mp f.symm;obtain⟨a,w,rfl,g,h⟩:=jhW b r1;obtain⟨zs,i,rfl,j⟩:=xZ e2 r2;exact⟨⟨a,x.1,w,x.2⟩::zs,by rw[L5,i],rfl,λz m=>(M4.mp m).elim (λq=>by rw[q];exact⟨g,h⟩) (j z)⟩
theorem wj:∀{zs:List Zr}{us},us.length=zs.length->(∀(m:Nat) q,zs[m]?=some q->∃ u,us[m]?=some u/\Rep R Z H (g q) u [])->Reps R Z H (zs.map g) us []
 | [],[],_,_=>Reps.empty
 | [],_::_,h,_=>by simp at h
 | _::_,[],h,_=>by simp at h
 | q::zs,u::us,h,k=>by
  obtain⟨a,e,r⟩:=k 0 q rfl;cases e;exact Reps.cons r (wj ⇑h λm q e=>by have:=k (m+1) q ⇑e;simpa using this)
noncomputable def jny(ls:List<|List D)(i:Nat):D:=.tup<|ls.map λl=>l.getD i .non
def jhI(m:Nat)(ds:List D):Option (List D):=(jgN ds).bind λxs=>bif decide (xs.length=m)&&(decide (0<m)&&xs.all λx=>decide<|(xs.headD (true,[])).2.length<=x.2.length) then some ((List.range (xs.headD (true,[])).2.length).map (jny<|xs.map λx=>fzs x.2)) else none
@[simp] def pZN(m:Nat)(p:PAf)(ρ:Rh):Option (List D):=(p ρ).bind (jhI m)
def jgb(h:PPs R ta p):PIt R (iZN R.K m ta) (pZN m p):=by
 intro σ ρ Z H O W z s e Q k;refine ob e λX F e=>ob e λg e2 e=>oc e λj e=>?_;cases e;rw[M0,M0,List.all_eq_true] at j;have Y:=X3 j.2.1;refine h z s F λ{vs G H1 I} J r1=>?_;obtain⟨zs,n,rfl,r⟩:=xZ e2<|r1.freeze (Z':=λa=>G a\/a∈I) (λa z=>.inl z) λa z=>.inr z;have A:zs.length=g.length:=by rw[<- n,L1]
 refine⟨zs.map λz=>(z.a,z.k),by rw[L1,A,X3 j.1],by rw[U1];rfl,λa d=>?_,k J.fz ?_⟩
 ·obtain⟨q,b,rfl⟩:=M5.mp d;exact⟨q.w,(r q b).1.sq⟩
 intro B t f C zd i;have fr:∀ q∈zs,SqB R.K t q.a q.k q.w/\Reps R B t (fzs q.l) q.w []:=λq b=>⟨((r q b).1.frame f C).sq,(r q b).2.frame f C λa d=>(nomatch d)⟩;refine⟨λhi=>?_,λx o=>?_⟩
 ·cases zs with
  | nil=>simp at A;lia
  | cons q zs=>
   refine⟨_,_,q.w,rfl,(fr q<|by simp).1,?_⟩;rw[L1,List.length_range] at hi;rw[(fr q<|by simp).2.length,vC];rw[<- n] at hi;exact hi
 ·rw[List.getElem?_map] at o;obtain⟨c,D,rfl⟩:=Option.map_eq_some_iff.mp o;have L:i<(g.headD (true,[])).2.length:=by have:=(L9.mp D).1;simpa using this
  have:c=i:=by have:=(L9.mp D).2;simpa using this.symm
  subst this;have get:∀ q∈zs,∃ u,q.w[c]?=some u/\Rep R B t ((fzs q.l).getD c .non) u []:=λq b=>by
   have l1:c<(fzs q.l).length:=by
    rw[vC];have:(g.headD (true,[])).2.length<=q.l.length:=(λx o=>X3<|j.2.2 x o) (q.k,q.l) (by rw[<- n];exact M5.mpr ⟨q,b,rfl⟩)
    lia
   have e3:(fzs q.l)[c]?=some ((fzs q.l).getD c .non):=by rw[List.getD_eq_getElem?_getD,X6 l1];rfl
   exact(fr q b).2.item e3
  refine⟨λa d=>?_,λu H3 M=>?_⟩
  ·obtain⟨q,b,rfl⟩:=M5.mp d;obtain⟨u,v,_⟩:=get q b;exact⟨q.w,u,(fr q b).1,v⟩
  ·obtain⟨pp,us,N,v,rfl,E,rfl⟩:=M;refine⟨_,Go.newF (wf0 zd) E,Rep.tupNew (wf0 zd) E ?_⟩;have P:(g.map λx=>fzs x.2).map (λl=>l.getD c .non)=zs.map λq=>(fzs q.l).getD c .non:=by rw[<- n,U1,U1];rfl
   rw[P];refine wj (by rw[N,L1]) λm q y=>?_;obtain⟨u,S,T⟩:=v m (q.a,q.k) (by rw[List.getElem?_map,y];rfl) q.w (fr q<|List.mem_of_getElem? y).1;obtain⟨u',U,V⟩:=get q<|List.mem_of_getElem? y;cases T.symm.trans U;exact⟨u,S,V⟩
def jmb(d:X.mg "zip" = none)(h:QPs cl X [a,b] tr pr)(e:Gl X "zip":=by rfl)(f:starEach [a,b] X.env=[(false,eval a X.env),(false,eval b X.env)]:=by rfl)(c:starEach [b] X.env=[(false,eval b X.env)]:=by rfl):
  QI cl X (.Tuple elts n tpos) (.Call (.Name "zip" p) [a,b] [] pos) (iZN X.K 2 tr) (pZN 2 pr):=⟨jlW e d h.sem f c,jgb h.den⟩
def jkM(e:X.mg "zip" = none)(h:QPs cl X [a,b,c] tr pr)(f:Gl X "zip":=by rfl)(g:starEach [a,b,c] X.env=[(false,eval a X.env),(false,eval b X.env),(false,eval c X.env)]:=by rfl)(d:starEach [b,c] X.env=[(false,eval b X.env),(false,eval c X.env)]:=by rfl):
  QI cl X (.Tuple elts n tpos) (.Call (.Name "zip" p) [a,b,c] [] pos) (iZN X.K 3 tr) (pZN 3 pr):=⟨jlS f e h.sem g d,jgb h.den⟩
end QD
namespace QD
open PySem L2
theorem w8:∀{l m},l.length<=m.length->(List.range l.length).map (jny [l,m])=jgR l m
 | [],m,_=>by cases m<;>rfl
 | a::l,[],h=>by simp at h
 | a::l,b::m,h=>by
  rw[M1,List.range_succ_eq_map,L5,U1,jgR,<- w8 ⇑h];rfl
def jpu(h1:sqD d=some (k,l))(h2:sqD e=some (k',m))(h:l.length<=m.length):jhI 2 [d,e]=some (jgR (fzs l)<|fzs m):=by
 have a:jgN [d,e]=some [(k,l),(k',m)]:=by simp[jgN,h1,h2]
 have e2:=w8 (l:=fzs l) (m:=fzs m) (by rw[vC,vC];exact h);rw[vC] at e2;unfold jhI;rw[a,L4,<- e2];simp[h]
theorem QR:∀{l m n},l.length<=m.length->l.length<=n.length->(List.range l.length).map (jny [l,m,n])=jas l m n
 | [],m,n,_,_=>by cases m<;>cases n<;>rfl
 | a::l,[],_,h,_=>by simp at h
 | a::l,b::m,[],_,h=>by simp at h
 | a::l,b::m,c::n,h,d=>by
  rw[M1,List.range_succ_eq_map,L5,U1,jas,<- QR ⇑h ⇑d];rfl
def jpq(h1:sqD d=some (k,l))(h2:sqD e=some (k',m))(a:sqD f=some (k2,n))(h:l.length<=m.length)(h':l.length<=n.length):jhI 3 [d,e,f]=some (jas (fzs l) (fzs m)<|fzs n):=by
 have b:jgN [d,e,f]=some [(k,l),(k',m),(k2,n)]:=by simp[jgN,h1,h2,a]
 have e2:=QR (l:=fzs l) (m:=fzs m) (n:=fzs n) (by rw[vC,vC];exact h) (by rw[vC,vC];exact h');rw[vC] at e2;unfold jhI;rw[b,L4,<- e2];simp[h,h']
end QD
namespace QD
open PySem L2 PySem.Spec PyProof.Rows
section
variable {R:RC}{Z Z':Zn}{H H':Hp}
def jps(d:D):Option (List KA×D):=(jeR d).bind λl=>(two1 l).bind λp=>(jm7 p.1).bind λk=>bif frz p.2 then some (k,p.2) else none
def xg:List D->Option (List<|List KA×D)
 | []=>some []
 | d::l=>(jps d).bind λp=>(xg l).bind λr=>some<|p::r
def we(ds:List D):Option D:=(jdY ds).bind λd=>(jfD d).bind λl=>(xg l).bind λps=>bif lim l.length then some (.dT true (jcJ ps).1 (jcJ ps).2) else none
structure KvA(R:RC)(Z:Zn)(H:Hp)(ys:List<|List KA×D)(vs:List V)(ps:List<|List Key×Addr×V):Prop where
 l:vs.length=ps.length
 i:∀(j:Nat) (v:V),vs[j]?=some v->∃ kv t,ps[j]?=some kv/\v=.ref t/\SqT R.K H t [.ref kv.2.1,kv.2.2]/\H kv.2.1=some (.tup<|kv.1.map kV)
 k:ps.map (·.1)=ys.map λy=>y.1.map kaV
 r:Reps R Z H (ys.map (·.2)) (ps.map (·.2.2)) []
def kva:∀{l:List D}{ys:List (List KA×D)}{vs:List V}{O:W5},xg l=some ys->Reps R Z H l vs O->∃ ps,KvA R Z H ys vs ps:=by
 intro l
 induction l with
 | nil=>
  intro ys vs O e r;cases e;rw[Reps] at r;obtain⟨rfl,_⟩:=r;exact⟨[],rfl,λj v h=>by simp at h,rfl,Reps.empty⟩
 | cons d l o=>
  intro ys vs O e r;rw[xg] at e;refine ob e λp c e=>ob e λs e2 e=>?_;cases e;refine ob c λt e3 c=>ob c λq x c=>ob c λk e5 c=>oc c λy c=>?_;cases c;rw[Reps] at r;obtain⟨v,z,F,G,rfl,_,r1,r2⟩:=r;obtain⟨ps,h⟩:=o e2 r2;rw[wc e3,two1_of x,jhV e5,Rep] at r1;obtain⟨a,ws,rfl,A,f⟩:=r1;rw[Reps] at f;obtain⟨w,B,I,J,rfl,_,g,f⟩:=f;rw[Rep] at g;obtain⟨b,rfl,_,C,_⟩:=g;rw[Reps] at f;obtain⟨u,E,K,L,rfl,_,m,f⟩:=f;rw[Reps] at f;obtain⟨rfl,_⟩:=f;cases m.nil y;refine⟨(k.map kaV,b,u)::ps,by simp[h.l],λj v n=>?_,by simp[h.k],Reps.cons (O:=[]) (P:=[]) m h.r⟩;cases j with
  | zero=>cases n;exact⟨_,a,rfl,rfl,A.sq,C⟩
  | succ j=>exact h.i j v n
def jd6:BC R (zE R.K) we:=by
 intro Z H A d vs O z r e Q k;refine ob e λx q e=>ob e λl e2 e=>ob e λs e3 e=>oc e λt e=>?_;cases e;rw[kE q] at r;obtain⟨o,rfl⟩:=Yb e2;obtain⟨v,rfl,r1⟩:=r.one_of;obtain⟨p,g,B,rfl,u,j⟩:=r1.lst_of;obtain⟨m,h⟩:=kva e3 j;obtain⟨c,w,y,f⟩:=Qt (ps:=s) (ks:=[]) (l:=[]) (us:=[]) h.k h.r .empty rfl;refine⟨p,g,m,rfl,u.sq,h.l,?_,h.i,λD n=>?_⟩
 ·rw[<- h.l,j.length];exact X3 t
 ·refine k (Go.newO (wf0 z) n) ?_;rw[Rep];refine⟨D,c,[],rfl,w.frame (λa z=>z) (λb h=>jd<|by rintro rfl;exact z _ h n)<|λa h=>(nomatch h),f,?_,rfl⟩;rw[jk];exact congrArg (λx=>some<|HO.dT x) y.symm
@[simp] def pKy(pa pb:PF)(ρ:Rh):Option D:=(jjL pa pb ρ).bind λk=>some<|.kt k
def joC{ta tb:TE}{pa pb:PF}(a:PB R ta pa)(b:PB R tb pb):PP R (jew ta tb) (pKy pa pb):=by
 intro σ ρ Z H O d z s e Q k;refine ob e λc f e=>?_;cases e;exact Yu a b z s f λg h i=>k g (by rw[Rep];exact⟨_,rfl,h,i,rfl⟩)
end
section
variable {cl:Nat->Addr}{X:Cx}{a b e:Expr}{ta tb:TE}{pa pb:PF}{tr:TA}{pr:PAf}{pos:Pos}
def jpm{e}{tpos:Pos}(c:QB cl X a ta pa)(d:QB cl X b tb pb)(h1:starEach [a,b] X.env=(false,eval a X.env)::starEach [b] X.env:=by rfl)(h2:starEach [b] X.env=(false,eval b X.env)::starEach [] X.env:=by rfl):
  QP cl X (.Tuple [a,b] e tpos) (jew ta tb) (pKy pa pb):=⟨JA<|jy c.sem (jy d.sem vF h2) h1,joC (R:=⟨X.K,cl⟩) c.den d.den⟩
def jiC{k:Nat}{p:Pos}(c:Room k X.A)(d:X.calm=true)(f:X.mg "dict" = none)(g:bootBuiltins "dict" = some (.type "dict"))(b:QBs cl X [e] tr pr)(h:Gl X "dict":=by rfl)
  (i:starEach [e] X.env=(false,eval e X.env)::starEach [] X.env:=by rfl) (a:(backTo pos<|starEach [] X.env).any (·.1)=false:=by rfl):
  QP cl X (.Call (.Name "dict" p) [e] [] pos) (tCB (zE X.K) tr) (pCB we pr):=⟨YE (r:=zE X.K) (xG d<|by have:=c.un;omega) h f g b.sem (by decide) (by decide) i a,jjs jd6 b.den⟩
end
@[simp] def dCallA(m:List D->Option (D×D×D))(i0 i1:Nat)(j:Nat)(p:PAf)(ρ:Rh):Option (D×Rh):=bif decide (i0=i1) then none else(p ρ).bind λds=>(pV i0 ρ).bind λc0=>(pV i1 ρ).bind λc1=>(m<|ds.take j++c0::c1::ds.drop j).bind λr=>some (r.1,(ρ.set i0<|some r.2.1).set i1 (some r.2.2))
def jpH{P}{w}{K}{mg}{cl}{x}{st}{N}{n}{r:Nat->List D->Option D}(h:jgm K mg x st N n)(a:∀ ds,r 0 ds=none)
  (g:∀ j f fd,FnScope N (N.take n) (ju st)->FnFact K mg x x st f fd (N.take n)->OkF P w K mg x st (j+1) (N.take n) (spP ⟨K,cl⟩ (r j) n)->∀ base,FnOk P w K mg base CX0 (j+1+1) f fd (N.take n)<|spP ⟨K,cl⟩ (r<|j+1) n) (k:Nat):OkF P w K mg x st (k+1) (N.take n) (spP ⟨K,cl⟩ (r k) n):=by
 obtain⟨S,f,fd,F⟩:=h;refine⟨f,fd,F,?_⟩
 induction k with
 | zero=>exact λbase=>by rw[funext a];exact jiH
 | succ j b=>exact g j f fd S F ⟨f,fd,F,b⟩
end QD
namespace L2
open PySem PySem.Spec PyProof.Rows
end L2
namespace QD
open PySem L2 PySem.Spec PyProof.Rows
@[simp] def dPosU(i:Nat)(q:KA->KA->Int->Option Bool)(el:KA->KA->Int->D)(ρ:Rh):Option (D×Rh):=(pV i ρ).bind λt=>(jij t).bind λp=>bif lim p.1.length then(V8 q el p.1 p.2).bind λr=>some (.lst true r,ρ) else none
noncomputable def jnr(w:Str):Value->Bool
 | .str s _=>s==w
 | _=>false
def zW(K:W4):V->List V->Hp->VK->Prop:=λx xs H Q=>∃(a:Addr) (ss:List Str) (w:Str),x=.ref a/\xs=[.str w]/\SqL K H a (ss.map V.str)/\w∈ss/\Q (.int (ss.idxOf w:Nat)) H
def jcp{h:Heap}{a:Addr}{its:Array Value}(p:PlainL h a its):∃ n dd sl,h.get? a=some {cls:=.type "list",dict:=dd,data:=.seq its n,slots:=sl}:=by
 obtain⟨⟨c,dd,g,sl⟩,n,e,b,d,f⟩:=p;dsimp only at b d f;subst b d f;exact⟨n,_,sl,e⟩
theorem jc1:∀{ss:List Str}{us:List Value},Vals (ss.map V.str) us->∃ ts:List Tok,ts.length=ss.length/\us=(ss.zip ts).map λp=>Value.str p.1 p.2
 | [],_,.nil=>⟨[],rfl,rfl⟩
 | s::ss,_,.cons r t=>by
  obtain⟨ts,h,e⟩:=jc1 t;obtain⟨q,rfl⟩:=r;exact⟨q::ts,by simp[h],by rw[e];rfl⟩
def jdS{X:Cx}:MtR X "list.index" (zW X.K):=by
 intro g s σ H x u v B Q I j k q;obtain⟨a,b,w,rfl,rfl,sq,mem,q⟩:=q;obtain rfl:=j;cases k with
 | cons r1 r2=>
  cases r2;obtain⟨h,rfl⟩:=r1;obtain⟨l,o,pl,sz⟩:=I.list sq;obtain⟨ts,C,e⟩:=jc1 o;subst e;obtain⟨n,r,sl,i⟩:=jcp pl;have D:b.idxOf w<b.length:=List.idxOf_lt_length_iff.mpr mem;have E:sizeLine=16777216:=by decide
  rw[L1] at sz;have c:∀{m:Nat}(f:m<((b.zip ts).map λp=>Value.str p.1 p.2).toArray.size),jnr w (((b.zip ts).map λp=>Value.str p.1 p.2).toArray[m])=(b[m]'(by simp at f;lia)==w):=λ{m} f=>by simp[jnr]
  refine call_meets PySem.F.slot_list_index ⟨_,i,rfl⟩ PySem.F.entry_list_index (PySem.F.args_list_index_2 _ _) (SeqAt.list_indexAt a ((b.zip ts).map λp=>Value.str p.1 p.2).toArray n r sl (.str w h) (jnr w) (b.idxOf w) (by simp;lia) ∅ ?_ ?_) ⟨i,λy t=>?_,?_⟩
  ·rw[c];simp
  ·intro m f d;rw[c f];have z:b.idxOf w=b.findIdx (·==w):=rfl;rw[z] at d;have:=List.not_of_lt_findIdx d;simpa using this
  ·obtain⟨p,_,rfl⟩:=M5.mp (show y∈(b.zip ts).map λp=>Value.str p.1 p.2 by simpa only[List.mem_toArray] using t);exact SeqAt.EqAt.str_str (A:=X.A.in1) (s:=s) p.1 p.2 w h
  ·exact⟨.int _,H,I.tok _,⟨_,rfl⟩,q⟩
def J1:D->List D->Option D
 | .lst _ l,[.str w]=>(Kw l).bind λws=>bif decide (w∈ws) then some (.int (ws.idxOf w:Nat)) else none
 | _,_=>none
@[simp] def indexS_e(o l w):J1 (.lst o l) [.str w]=(Kw l).bind λws=>bif decide (w∈ws) then some (.int (ws.idxOf w:Nat)) else none:=rfl
theorem jk2{w}:∀ ws:List (List Nat),(ws.map S).idxOf (S w)=ws.idxOf w
 | []=>rfl
 | x::ws=>by
  rw[L5,List.idxOf_cons,List.idxOf_cons,jk2 ws];by_cases h:x=w
  ·subst h;rw[beq_self_eq_true,beq_self_eq_true]
  ·have:¬ S x=S w:=λz=>h<|jg4 z;rw[beq_false_of_ne h,beq_false_of_ne this]
def jbZ{R:RC}:BM R "list" (zW R.K) J1:=by
 intro Z H x d j v vs m n z r b e Q k;unfold J1 at e;split at e
 ·rename_i o l w;refine ob e λws c e=>oc e λf e=>?_;cases e;obtain⟨u,rfl,r1⟩:=b.one_of;obtain⟨rfl,_⟩:=r1.str_of;obtain⟨a,g,p,rfl,i,h⟩:=r;have sq:SqL R.K H a g:=by
   cases o with
   | true=>exact SqL.of h.1
   | false=>exact h.1.sq
  rw[wt c i] at sq;exact⟨a,ws.map S,S w,rfl,rfl,sq,M5.mpr ⟨w,X3 f,rfl⟩,by rw[jk2];exact k (Go.id z) .int_mk⟩
 ·cases e
@[simp] def pLM(g:D->List D->Option D)(pa:PF)(pr:PAf)(ρ:Rh):Option D:=(pa ρ).bind λx=>(jfD x).bind λ_=>(pr ρ).bind λxs=>g x xs
def jok{r g}(f:BM R "list" r g)(i:PB R to pa)(j:PBs R ta pr):PP R (tBM R.K "list" r to ta) (pLM g pa pr):=by
 intro σ ρ Z H O d z s e Q k;exact ob e λx m e=>ob e λl n e=>ob e λt e2 e=>(i z s m λ{v u p w} b r1=>⟨by
  obtain⟨o,rfl⟩:=Yb n;obtain⟨a,c,y,rfl,A,h⟩:=r1;have sq:SqL R.K p a c:=by
   cases o with
   | true=>exact SqL.of h.1
   | false=>exact h.1.sq
  exact .inl ⟨rfl,c,sq⟩,(j b.wf.zd (b.slots z s) e2 λ{vs B C D} g2 r2=>(f g2.wf.zd (g2.rep b.wf.zd r1) r2 e λg3 q=>k ((b.pair g2).pair g3) q))⟩)
def jpC{cl:Nat->Addr}{X:Cx}{o e es to po tr pr}{name:Str}{apos cpos:Pos}{id:String}{r g}(slot:Slot "list" name id)(f:typeOf (.builtin id)=pure (.type "method_descriptor"))(j:MtR X id r)(k:BM ⟨X.K,cl⟩ "list" r g)(h:QB cl X o to po)(i:QBs cl X (e::es) tr pr)
  (b:attributeBase o name X.env (eval o X.env)=eval o X.env:=by rfl)
  (d:((backTo cpos<|starEach (e::es) X.env).all (λx=>!x.1)&&(backToKw cpos<|keywordEach [] X.env).all (λx=>x.1.isSome)
   && decide ((e::es).length+([]:List Keyword).length+(if([]:List Keyword).isEmpty then 0 else 1)<30))=true:=by rfl)
  (c:(apos.endLine==cpos.line)=true:=by rfl) (l:SEq X e es:=by rfl) (a:BkE X cpos es:=by rfl):
  QP cl X (.Call (.Attribute o name apos) (e::es) [] cpos) (tBM X.K "list" r to tr) (pLM g po pr):=
 ⟨jbS PySem.F.plainAttrs_list slot f j h.sem i.sem b d c l a,jok k h.den i.den⟩
end QD
namespace PySem
open PySem.W PyProof.Rows PySem.Calls
end PySem
namespace QD
open PySem L2 PySem.Spec PyProof.Rows
section
variable {cl:Nat->Addr}{X:Cx}{pos:Pos}
def bkI{N ps sc}(_:FnScope N ps sc){X a b C s H fp scope ix}(h1:X.env.scope=sc:=by rfl)(h:JG (KY a sc) b scope (blN b ix<|jm5 scope) ix=true:=by decide +kernel):BlockOk (jX X a b C s H fp) scope (blN b ix<|jm5 scope) ix:=je5 sc h1 h
end
end QD
namespace L2
open PySem PySem.Spec PyProof.Rows
def jfV(K:W4):List V->Hp->VK->Prop:=λxs H Q=>∃(p:Addr) (ns:List Int),xs=[.ref p]/\SqL K H p (ns.map V.int)/\ns.Pairwise (·<=·)/\ns.length<=100000/\∀ D,H D=none->Q (.ref D) (upd H D<|.lst<|ns.map V.int)
def uM:vJ X (.builtin "sorted") (jfV X.K):=by
 intro l s σ H B C Q I r h;obtain⟨p,ns,rfl,t,up,D,q⟩:=h;obtain⟨u,rfl,v⟩:=r.one;cases v;obtain⟨d,m,⟨o,n,e,g,w,i⟩,_⟩:=I.list t;have x:d.length=ns.length:=by have:=m.length;rw[L1] at this;exact this.symm
 refine jbF ⟨o,e,g,n,i⟩ (VC m) up ∅ λout j f k y=>?_;obtain⟨c,z⟩:=sortedAll_at s.heap d out;have A:j=ns:=List.Perm.eq_of_pairwise (λa b _ _ f k=>Int.le_antisymm f k) y up k;refine⟨.ref<|↥s+1,_,I.laid (o:=.lst<|ns.map V.int) (λ_ _=>sortedAll_old) (Nat.le_succ _) ⟨?_,out.toList,c,?_,by simpa using z⟩,rfl,q _<|I.hok.fresh<|Nat.le_succ ↥s⟩
 ·rw[L1];have:sizeLine=16777216:=by decide
  lia
 ·rw[A] at f;exact zS f
end L2
namespace QD
open PySem L2 PySem.Spec PyProof.Rows
noncomputable def upI:List Int->Bool
 | a::b::l=>decide (a<=b)&&upI (b::l)
 | _=>true
theorem jf1:∀{l:List Int},upI l=true->l.Pairwise (·<=·)
 | [],_=>.nil
 | [a],_=>List.pairwise_singleton _ _
 | a::b::l,h=>by
  rw[upI,M0,decide_eq_true_eq] at h;have t:=jf1 h.2;refine List.pairwise_cons.mpr ⟨λc d=>?_,t⟩;rcases M4.mp d with rfl | d
  ·exact h.1
  ·exact Int.le_trans h.1<|(List.pairwise_cons.mp t).1 c d
def Q7:List D->Option D
 | [.lst _ l]=>(Qq l).bind λns=>bif upI ns&&lim l.length then some (.lst true<|ns.map D.int) else none
 | _=>none
@[simp] def uk(o)(l):Q7 [.lst o l]=(Qq l).bind λns=>bif upI ns&&lim l.length then some (.lst true<|ns.map D.int) else none:=rfl
def jeH:BC R (jfV R.K) Q7:=by
 intro Z H c d vs O z r e Q k
 match c,e,r with
 | [.lst o l],e,r=>
  refine ob e λns f e=>oc e λb e=>?_;cases e;rw[M0] at b;obtain⟨v,rfl,r1⟩:=r.one_of;obtain⟨p,j,m,rfl,g,a⟩:=r1.lst_of;have:=a.ints f;subst this;have h:=a.length;rw[L1] at h;exact⟨p,ns,rfl,g.sq,jf1 b.1,by have:=X3 b.2;lia,λD i=>(k (Go.newO (wf0 z) i) ⟨D,_,[],rfl,jb6 _,jk,rfl⟩)⟩
@[simp] def jdx(i:Nat)(L:Ln)(ρ:Rh):Option Out:=(pV i ρ).bind λt=>(L t).bind λy=>(Ym y.1).bind λ_=>some<|.nx<|ρ.set i<|some<|y.2<|.lst true []
def jil{R}{pm}{i}{tb}{L}(c:K2 R tb i L):DS R pm (v8<|jjN R.K "list" jcX tb) (jdx i L):=by
 intro σ ρ Z H O o w s e h k;refine ob e λt hi e=>ob e λ⟨y,j⟩ e3 e=>ob e λl d e=>?_;cases e;cases vv d;refine kW (P0:=[]) c w s hi e3 ow_lst λa _ vs m n _ b f put=>f ⟨.inl ⟨rfl,vs,SqL.of b⟩,⟨a,vs,rfl,rfl,b,?_⟩⟩;obtain⟨p,g3,g⟩:=put ow_lst trivial (Go.refl<|wf0 w.zd) .empty λq=>by simp
 exact k g3 g<|Keep.refl _ _
def jih{cpos}(c:QL cl X o tb i L)(a:attributeBase o "clear" X.env (eval o X.env)=eval o X.env:=by rfl)(b:(apos.endLine==cpos.line)=true:=by rfl)
  (hsw:swapsWith (.Call (.Attribute o "clear" apos) [] [] cpos) none pos.line X.env=pure false:=by rfl):
  QS cl pm X (.Expr (.Call (.Attribute o "clear" apos) [] [] cpos) pos) (v8<|jjN X.K "list" jcX tb) (jdx i L):=
 ⟨Jk (jgd PySem.F.plainAttrs_list PySem.F.slot_list_clear PySem.F.type_list_clear jeL c.sem a b) hsw,jil c.den⟩
def okF(o:Option D):Option D:=o.bind λd=>bif frz d then some d else none
def okC(o:Option D):Option D:=o.bind λd=>bif clean d then some d else none
def uw(kp:List Nat):Nat->Rh->Rh->Rh
 | k,a::ρ,b::ρ'=>(if k∈kp then okF a else okC b)::uw kp (k+1) ρ ρ'
 | _,_,_=>[]
section
variable {R:RC}{Z Z1 Z2:Zn}{H H1:Hp}
def uD{a:Option D}{ρ:Rh}{σ:L2.St}{O:W5}(h:Slots R Z H (a::ρ) σ O):∃ s σt Oa Ot,σ=s::σt/\O=Oa++Ot/\(∀ d,a=some d->∃ v,s=some v/\Rep R Z H d v Oa)/\Slots R Z H ρ σt Ot:=by
 cases a with
 | none=>
  obtain⟨s,σt,e,r⟩:=h;exact⟨s,σt,[],O,e,rfl,λd e=>(nomatch e),r⟩
 | some d=>
  obtain⟨v,σt,b,c,e,e2,r1,r2⟩:=h;exact⟨_,σt,b,c,e,e2,λf e=>by cases e;exact⟨v,rfl,r1⟩,r2⟩
theorem Vm{kp:List Nat}(q:∀ a,Z a->Z2 a)(t:∀ a,Z a->H1 a=H a)(u:∀ a vs,Z1 a->Rd H1 a (.tup vs)->Z2 a):∀{ρ ρ':Rh}{σ σ':L2.St}{O O1:W5}{k:Nat},Slots R Z H ρ σ O->Slots R Z1 H1 ρ' σ' O1->ρ.length=ρ'.length->(∀ j,k+j∈kp->σ'[j]?=σ[j]?) ->
  ∃ O2,Slots R Z2 H1 (uw kp k ρ ρ') σ' O2/\O2.Sublist O1
 | [],[],_,_,_,_,_,_,n,_,_=>by
  obtain⟨rfl,rfl⟩:=n;exact⟨[],⟨rfl,rfl⟩,.slnil⟩
 | [],_::_,_,_,_,_,_,_,_,e,_=>by simp at e
 | _::_,[],_,_,_,_,_,_,_,e,_=>by simp at e
 | a::ρ,b::ρ',_,_,_,_,k,h,n,e,g=>by
  obtain⟨s,D,E,F,rfl,rfl,x,r⟩:=uD h;obtain⟨o,c,w,y,rfl,rfl,z,A⟩:=uD n;obtain⟨O2,m,f⟩:=Vm (k:=k+1) q t u r A ⇑e λj B=>by
   have:=g (j+1) (by rw[show k+(j+1)=k+1+j by lia];exact B);simpa using this
  have i:Slots R Z2 H1 (none::uw kp (k+1) ρ ρ') (o::c) O2:=⟨o,c,rfl,m⟩;rw[uw];by_cases p:k∈kp
  ·rw[if_pos p];have C:o=s:=by have:=g 0 p;simpa using this
   cases a with
   | none=>exact⟨O2,i,f.trans<|List.sublist_append_right ..⟩
   | some d=>
    show ∃ O2,Slots R Z2 H1 ((bif frz d then some d else none)::_) _ O2/\_;cases hf:frz d with
    | false=>exact⟨O2,i,f.trans<|List.sublist_append_right ..⟩
    | true=>
     obtain⟨v,rfl,l⟩:=x d rfl;cases l.nil hf;subst C;exact⟨O2,⟨v,c,[],O2,rfl,rfl,l.frame q t λ_ h=>(nomatch h),m⟩,f.trans<|List.sublist_append_right ..⟩
  ·rw[if_neg p];cases b with
   | none=>exact⟨O2,i,f.trans<|List.sublist_append_right ..⟩
   | some d=>
    show ∃ O2,Slots R Z2 H1 ((bif clean d then some d else none)::_) _ O2/\_;cases hc:clean d with
    | false=>exact⟨O2,i,f.trans<|List.sublist_append_right ..⟩
    | true=>
     obtain⟨v,rfl,l⟩:=z d rfl;exact⟨w++O2,⟨v,c,w,O2,rfl,rfl,l.thaw u hc,m⟩,(List.Sublist.refl _).append f⟩
theorem wm{kp}:∀{k:Nat}{ρ ρ':Rh},ρ.length=ρ'.length->(uw kp k ρ ρ').length=ρ'.length
 | _,[],[],_=>rfl
 | _,[],_::_,h=>by simp at h
 | _,_::_,[],h=>by simp at h
 | _,_::_,_::_,h=>by rw[uw,M1,M1,wm ⇑h]
def ja4(i:Nat)(kp:List Nat)(d:D)(ρ ρ':Rh):Rh:=(uw kp 0 (ρ.set i none)<|ρ'.set i none).set i (some d)
def jiO(i:Nat)(kp:List Nat)(d:D)(ρ:Rh):Out->Option Out
 | .nx ρ'=>bif decide (ρ'.length=ρ.length) then some (.nx<|ja4 i kp d ρ ρ') else none
 | .rt c ρ'=>bif decide (ρ'.length=ρ.length)&&clean c then some (.rt c<|ja4 i kp d ρ ρ') else none
 | _=>none
def jaz(i:Nat)(kp:List Nat)(f:FS)(ρ:Rh):Option Out:=(pV i ρ).bind λd=>(f<|ρ.set i<|some<|fz d).bind (jiO i kp d ρ)
def jgW{i kp pm t f}(h:DS R (i::kp) t f)(X:∀ j∈pm,j∈i::kp):DS R pm t (jaz i kp f):=by
 intro σ ρ Z H O o w s e D' k;refine ob e λd hd e=>ob e λo1 e1 e=>?_;have hd:=qu hd;have hi:=(L9.mp hd).1;obtain⟨A,P,B,rfl,k1,k2,k3⟩:=s.put hi;obtain⟨v,Y,r⟩:=k1 d hd;have g:=(Go.freeze w.mid).frame w;have s2:=k2 (r.freeze (Z':=λa=>Z a\/a∈P) (λa z=>.inl z) λa z=>.inr z) (λa z=>.inl z) (λ_ _=>rfl) (λ_ _=>rfl)<|λ_ _=>rfl;rw[yF Y] at s2;have key:∀{G:Rh}{J:L2.St}{I:Zn}{x:Hp}{C W:W5},G.length=ρ.length->Go (λa=>Z a\/a∈P) H (A++[]++B) I x (C++W)->Slots R I x G J W->Keep (i::kp) σ J ->
   ∃ L U,(∀ a vs,I a->Rd x a (.tup vs)->L a)/\Go Z H (A++P++B) L x (C++U)/\Slots R L x (ja4 i kp d ρ G) J U:=by
  intro G J I x C W D p s1 u;have same:∀ a,(Z a\/a∈P)->x a=H a:=Go.zH g.wf p;have V:∀ a vs,I a->Rd x a (.tup vs)->I a/\(a∉P\/Z a):=λa vs za ta=>⟨za,by
   by_cases M:a∈P
   ·exact absurd (Rd.agree (same a<|.inr M).symm ta)<|r.notTup a M vs
   ·exact .inl M⟩
  obtain⟨N,Q,S,rfl,_,_,k4⟩:=s1.put (i:=i) ∅;obtain⟨O2,m,sb⟩:=Vm (kp:=kp) (k:=0) (λa z=>⟨p.zz a<|.inl z,.inr z⟩) (λa z=>same a<|.inl z) V k3 k4 (by simp[D]) λj hj=>u j<|L6 _ ⇑hj;have ml:i<(uw kp 0 (ρ.set i none)<|G.set i none).length:=by rw[wm<|by simp[D]];simp;lia
  obtain⟨E,P2,F,rfl,_,kk,_⟩:=m.put ml;have K:=kk (r.frame (Z':=λa=>I a/\(a∉P\/Z a)) (H':=x) (λa z=>⟨p.zz a<|.inl z,.inr z⟩) (λa z=>same a<|.inl z) λa l=>same a<|.inr l) (λ_ z=>z) (λ_ _=>rfl) (λ_ _=>rfl)<|λ_ _=>rfl;rw[show J.set i (some v)=J from yF (by rw[u i L7];exact Y)] at K;refine⟨_,E++P++F,V,?_,K⟩;have T:∀ a,a∈E\/a∈F->a∈N++Q++S:=λa l=>by
   have:=sb.subset (show a∈E++P2++F by simp;lia);simp at this ⊢;lia
  have pz:∀ a∈P,a∉C++(N++Q++S):=λa l z=>p.wf.nz a z<|p.zz a<|.inr l;have n:∀ a∈C++(E++P++F),a∈C++(N++Q++S)\/a∈P:=λa l=>by
   rcases N2.mp l with l | l
   ·exact .inl<|N2.mpr<|.inl l
   ·simp only[N2] at l;rcases l with(l | l) | l
    ·exact .inl<|N2.mpr<|.inr<|T a<|.inl l
    ·exact .inr l
    ·exact .inl<|N2.mpr<|.inr<|T a<|.inr l
  have wn:=w.nd;have gn:=p.wf.nd;refine⟨⟨?_,λa l z=>?_,λa l=>?_,λa z=>p.wf.zd a z.1⟩,λa z=>⟨p.zz a<|.inl z,.inr z⟩,λa M h2=>p.fr a M λz=>h2<|by simp at z ⊢;lia,λa z=>?_,λa l=>?_,p.dm⟩
  ·have sX:(C++(E++F)).Sublist (C++(N++Q++S)):=(List.Sublist.refl C).append (((List.sublist_append_left E P2).append (List.Sublist.refl F)).trans (sb.trans<|(List.sublist_append_left N Q).append (List.Sublist.refl S)));have pm:(C++(E++P++F)).Perm (P++(C++(E++F))):=by
    refine List.perm_iff_count.mpr λq=>?_;simp only[U8]
    lia
   rw[pm.nodup_iff,U9];refine⟨?_,gn.sublist sX,λa l b hb z=>pz a l<|z▸sX.subset hb⟩;simp only[U9] at wn;exact wn.1.2.1
  ·rcases n a l with q | q
   ·exact p.wf.nz a q z.1
   ·exact w.nz a (by simp[q])<|z.2.resolve_left λy=>y q
  ·rcases n a l with q | q
   ·exact p.wf.od a q
   ·rw[same a<|.inr q];exact r.dom a q
  ·rcases p.zn a z.1 with(q | q) | q | q
   ·exact .inl q
   ·exact .inr<|.inl (by simp[q])
   ·exact .inr<|.inl (by simp at q ⊢;lia)
   ·exact .inr<|.inr q
  ·rcases n a l with q | q
   ·exact(p.sub a q).imp (λz=>by simp at z ⊢;lia) id
   ·exact .inl (by simp[q])
 refine h g.wf s2 e1 ?_;cases o1 with
 | nx G=>
  refine oc e λD e=>?_;cases e;intro p s1 u;obtain⟨L,U,_,g3,K⟩:=key (C:=[]) (X3 D) p s1 u;exact k g3 K<|u.sub X
 | rt c G=>
  refine oc e λD e=>?_;cases e;rw[M0] at D;intro p ru s1 u;obtain⟨L,U,V,g3,K⟩:=key (X3 D.1) p s1 u;exact k g3 (ru.thaw V D.2) K<|u.sub X
 | bk _=>cases e
 | ct _=>cases e
def QS.lend{cl X st t f pm i kp}(h:QS cl (i::kp) X st t f)(a:∀ j∈pm,j∈i::kp:=by decide):QS cl pm X st t (jaz i kp f):=⟨h.sem,jgW h.den a⟩
end
section
variable {R:RC}{Z Z':Zn}{H H':Hp}
def jnu{pm}{g}(hg:DG R pm tg g)(hf:DS R pm tb f){J:It}{vs}{l}{O P}{ρ}{G}
  (hJ:∀{Z':Zn}{H'}{E},Go Z H (P++O) Z' H' E->∀ i,(l.length<=i->J.stop i H')/\(∀ x,vs[i]?=some x->J.go i H'/\∀ y H2,J.yld i H' y H2->H2=H'/\y=x))
  (w:WF Z H<|P++O) (rs:Reps R Z H l vs P) (s:Slots R Z H ρ σ O) (e:jI g f l ρ=some o) (k:OutOk R pm Z H (P++O) σ G o):
  ∃ W:Nat->Nat->L2.St->Hp->Prop,(∃ m,W 0 m σ H)/\∀ i m σ H,W i m σ H->(J.stop i H/\G.nx σ H)\/(J.go i H/\∃ N:L2.St->Hp->Prop,(∀ σ' H',N σ' H'->∃ m',m'<m/\W (i+1) m' σ' H')/\∀ x H',J.yld i H x H'->tg x σ H' λσ2 H2=>tb {G with nx:=N,ct:=N,bk:=G.nx} σ2 H2):=by
 have C:=rs.length;refine⟨λi m σ' H'=>m=l.length-i/\i<=l.length/\∃ T Z' U I,Go Z H (P++O) Z' H' (U++I)/\Reps R Z' H' (l.drop i) (vs.drop i) U/\Slots R Z' H' T σ' I/\Keep pm σ σ'/\jI g f (l.drop i) T=some o,
  ⟨l.length,rfl,U5 _,ρ,Z,P,O,Go.refl w,rs,s,Keep.refl _ _,e⟩,?_⟩
 rintro i m σ' H' ⟨rfl,hi',T,Z',U,I,K,r1,s1,kp,e2⟩;obtain⟨h1,h2⟩:=hJ K i;by_cases t:i<l.length
 ·right
  have hx:l[i]?=some l[i]:=by simp[t]
  have hv:vs[i]?=some (vs[i]'∅):=by simp[C,t]
  obtain⟨go,yl⟩:=h2 _ hv;rw[yY hx] at e2 r1;rw[yY hv,Reps] at r1;obtain⟨v,vs',P1,D,ev,rfl,ri,rr⟩:=r1;injection ev with ev1 ev2;subst ev1;subst ev2;refine ob e2 λρ1 e3 e2=>ob e2 λo1 e4 e2=>⟨go,λσ2 H2=>∃ h F L n,Go Z H (P++O) F H2 (n++L)/\Reps R F H2 (l.drop<|i+1) (vs.drop<|i+1) n/\Slots R F H2 h σ2 L/\Keep pm σ σ2/\jI g f (l.drop<|i+1) h=some o,λσ2 H2 ⟨h,F,L,n,a1,a2,a3,a4,a5⟩=>⟨l.length-(i+1),by lia,rfl,t,h,F,n,L,a1,a2,a3,a4,a5⟩,λu H2 hy=>?_⟩;obtain⟨rfl,rfl⟩:=yl u H2 hy;have M:Go Z H (P++O) Z' H2 (D++(P1++I)++[]):=K.drop (λa z=>by simp at z ⊢;rcases z with q | q | q<;>simp[q]) (by
   have nd:=K.wf.nd;simp only[U9,N2,M9] at nd ⊢;obtain⟨⟨n1,n2,n3⟩,n4,n5⟩:=nd;exact⟨n2,⟨n1,n4,λa z b V=>n5 a (.inl z) b V⟩,λa z b V=>V.elim (λq e=>n3 b q a z e.symm)<|n5 a (.inr z) b⟩)
  have wi:=M.wf.mid;refine hg wi ri s1 e3 λ{σ3 Z3 H3 O3} g3 s3 Q=>(hf g3.wf s3 e4 ?_);have c:∀{j}{r}{p},Go Z3 H3 O3 j r p->Go Z H (P++O) j r (D++p)/\Reps R j r (l.drop<|i+1) (vs.drop<|i+1) D:=by
   intro j r p g4;have S:=g3.trans g4;refine⟨M.trans<|by simpa using(S.frame M.wf),rr.frame S.zz (S.zH wi) (Go.keepA M.wf S).1⟩
  cases o1 with
  | nx h=>exact λ{X j r p} g4 A B=>⟨h,j,p,D,(c g4).1,(c g4).2,A,kp.trans<|Q.trans B,e2⟩
  | ct h=>exact λ{X j r p} g4 A B=>⟨h,j,p,D,(c g4).1,(c g4).2,A,kp.trans<|Q.trans B,e2⟩
  | bk h=>cases e2;exact λ{X j r p} g4 A B=>k ((c g4).1.dropL) A<|kp.trans<|Q.trans B
  | rt d h=>cases e2;exact λ{v4 X j r P4 p} g4 r4 A B=>k ((c g4).1.dropL) r4 A<|kp.trans<|Q.trans B
 ·left
  have Y:i=l.length:=by lia
  refine⟨h1 ∅,?_⟩;rw[Y,List.drop_length] at e2;cases e2;exact k (K.dropL) s1 kp
def kn{ρ σ O}{i:Nat}{d}(s:Slots R Z H ρ σ O)(a:ρ[i]?=some (some d)):∃ v P O',σ[i]?=some (some v)/\Rep R Z H d v P/\Slots R Z H (ρ.set i none) σ O'/\∀ c,O.count c=P.count c+O'.count c:=by
 obtain⟨A,P,B,rfl,b,_,e⟩:=s.put (L9.mp a).1;obtain⟨v,f,r⟩:=b _ a;exact⟨v,P,A++B,f,r,e,λc=>by simp only[U8];lia⟩
def vz{ρ σ O P}{i:Nat}{d v}(s:Slots R Z H ρ σ O)(hi:i<ρ.length)(a:σ[i]?=some (some v))(r:Rep R Z H d v P):∃ O',Slots R Z H (ρ.set i<|some d) σ O'/\∀ c,O'.count c<=P.count c+O.count c:=by
 obtain⟨A,e,B,rfl,_,b,_⟩:=s.put hi;have s2:=b r (λ_ z=>z) (λ_ _=>rfl) (λ_ _=>rfl)<|λ_ _=>rfl;rw[yF a] at s2;exact⟨_,s2,λc=>by simp only[U8];lia⟩
noncomputable def jcN(n:Nat):Rh:=List.replicate n none
theorem Ko:∀{σ:L2.St},Slots R Z H (jcN σ.length) σ []
 | []=>⟨rfl,rfl⟩
 | s::σ=>⟨s,σ,rfl,Ko⟩
theorem Ye:∀{n}{σ:L2.St}{O},Slots R Z H (jcN n) σ O->O=[]
 | 0,_,_,h=>h.2
 | n+1,_,_,h=>by
  obtain⟨s,a,_,r⟩:=h;exact Ye r
def jeo{n i:Nat}{x:Option D}:((jcN n).set i x).set i none=jcN n:=by
 rw[List.set_set,jcN];refine List.ext_getElem? λj=>?_;rw[List.getElem?_set];split<;>rename_i h
 ·subst h;by_cases q:i<n<;>simp[q]
 ·rfl
def jnK{tb}{i}{L}{ρ:Rh}{σ:L2.St}{O:W5}{t y:D}{f:D->D}(k:K2 R tb i L)(s:Slots R Z H ρ σ O)(hi:pV i ρ=some t)(e:L t=some (y,f)):
  ∃(v u:V) (P F O2:W5),σ[i]?=some (some u)/\Rep R Z H y v P/\Slots R Z H (ρ.set i none) σ O2/\(∀{Q:VK},Q v H->tb σ H Q)/\(∀ c,P.count c+F.count c+O2.count c<=O.count c) /\
   ∀{x' P'},Rep R Z H x' v P'->∃ F',Rep R Z H (f x') u F'/\∀ c,F'.count c=P'.count c+F.count c:=by
 obtain⟨u,x,O2,b,l,s2,ct⟩:=kn s<|qu hi;have g:i<σ.length:=(L9.mp b).1;obtain⟨C,s1,c1⟩:=vz (Ko (R:=R) (Z:=Z) (H:=H) (σ:=σ)) (i:=i) (by simpa [jcN] using g) b l;have m:((jcN σ.length).set i (some t))[i]?=some (some t):=by rw[List.getElem?_set_self<|by simpa [jcN] using g]
 obtain⟨v,A,P,B,rfl,r,n,o⟩:=k s1 m e;refine⟨v,u,P,A++B,O2,b,r,s2,n,λc=>?_,λ{x' P'} p=>?_⟩
 ·have:=c1 c;have:=ct c;simp only[U8,List.count_nil] at *
  lia
 ·have h:=o p (λ_ z=>z) (λ_ _=>rfl) (λ_ _=>rfl)<|λ_ _=>rfl;rw[List.set_set] at h;obtain⟨E,F',G,a,q,j,w⟩:=kn h (d:=f x') (by rw[List.getElem?_set_self<|by simpa [jcN] using g]);rw[jeo] at j;cases Ye j;rw[b] at a;cases a;refine⟨F',q,λc=>?_⟩;have:=w c;simp only[U8,List.count_nil] at *
  lia
theorem Qe:∀{l:List D}{vs O},Reps R Z H l vs O->Reps R Z H (l.map λ_=>.dead) vs []
 | [],_,_,h=>by obtain⟨rfl,rfl⟩:=h;exact .empty
 | _::_,_,_,h=>by
  rw[Reps] at h;obtain⟨v,a,b,c,rfl,rfl,_,r⟩:=h;exact Reps.cons (O:=[]) (by rw[Rep])<|Qe r
noncomputable def jk9(i:Nat)(d:D):Out->Option Out
 | .nx ρ=>bif decide (i<ρ.length) then some (.nx<|ρ.set i<|some d) else none
 | _=>none
def jfS(i:Nat)(L:Ln)(g:D->Rh->Option Rh)(f:FS)(ρ:Rh):Option Out:=(pV i ρ).bind λt=>(L t).bind λy=>(Ym y.1).bind λl=>(jI g f l<|ρ.set i none).bind (jk9 i<|y.2<|.lst true<|l.map λ_=>.dead)
def jiY{pm i}{g}(M:K2 R te i L)(N:DG R (i::pm) tg g)(Q:DS R (i::pm) tb f):DS R pm (jfd (jd1 R.K te) tg tb) (jfS i L g f):=by
 intro σ ρ Z H O o w s e D' k;refine ob e λt hi e=>ob e λ⟨y,k0⟩ e3 e=>ob e λl S e=>ob e λT e5 e=>?_;cases vv S;cases T with
 | bk _=>cases e
 | ct _=>cases e
 | rt _ _=>cases e
 | nx ρ1=>
 refine oc e λU e=>?_;cases e;obtain⟨v,u,P,F,z,V,r,s2,W,cnt,X⟩:=jnK M s hi e3;obtain⟨a,_,vs,A,rfl,n,_,p,rfl⟩:=ow_lst.mp r;obtain⟨d,Y,B⟩:=X<|ow_lst.mpr ⟨a,0,vs,[],rfl,Qe n,trivial,p,rfl⟩;have q:∀ c,(d++(A++z)++[]).count c<=O.count c:=λc=>by
  have:=cnt c;have:=B c;simp only[U8,List.count_cons,List.count_nil] at *
  lia
 have h:WF Z H (d++(A++z)++[]):=w.sub (qe q)<|vw q w.nd;have aF:a∈d:=List.count_pos_iff.mp (by have:=B a;simp at this;lia);refine W<|.inl ⟨a,rfl,⟨vs,SqL.of p⟩,jnu N Q (λ{Z' H' E} g1 j=>?_) h.mid n s2 e5 ?_⟩
 ·have sq:SqL R.K H' a vs:=SqL.of (by rw[(Go.keepA h g1).1 a aF];exact p);refine⟨λhi=>⟨vs,sq,by rw[n.length];exact hi⟩,λx C=>⟨⟨vs,x,sq,C⟩,λy H2 D=>⟨D.1,?_⟩⟩⟩;have:=D.2 vs sq;rw[C] at this;exact(X4 this).symm
 ·intro σ4 Z4 H4 G g4 s4 I;have gf:=g4.frame h;have r4:=Y.frame g4.zz (g4.zH h.mid) (Go.keepA h g4).1;obtain⟨O5,s5,c5⟩:=vz s4 (X3 U) ((I i L7).trans V) r4;have J:Go Z H O Z4 H4 (d++G++[]):=gf.from<|qe q;have m:∀ c,O5.count c<=(d++G++[]).count c:=λc=>by
   have:=c5 c;simp only[U8,List.count_nil] at *
   lia
  exact k (J.drop (qe m)<|vw m J.wf.nd) s5<|I.sub λb hb=>L6 _ hb
def jhH{cl:Nat->Addr}{pm:List Nat}{X:Cx}{tg iter:Expr}{body:List Stmt}{pos:Pos}{i:Nat}{L:Ln}{te:TE}{t:TG}{g:D->Rh->Option Rh}{ts:TS}{f:FS}(d:PassesOwn (model X.prog X.w) X.A X.env X.xe)(e:X.calm=true)(a:QL cl X iter te i L)(b:QGo cl (i::pm) X tg t g)(c:QSs cl (i::pm) X body ts f)(h:∀ x,foldedSetIterable iter X.env x=pure x:=by intro _;rfl):
  QS cl pm X (.For tg iter body [] pos) (jfd (jd1 X.K te) t ts) (jfS i L g f):=⟨wY d e (uo a.sem) b.sem c.sem h,jiY a.den b.den c.den⟩
end
section
variable {R:RC}{Z Z' Z1:Zn}{H H' H1:Hp}
def jfG{kp:List Nat}{ρ i:Rh}{σ l:L2.St}{P O n:W5}{d:D}{v:V}(w:WF Z H<|P++O)(s:Slots R Z H ρ σ O)(r:Rep R Z H d v P)(c:Go (λa=>Z a\/a∈P) H O Z1 H1 n)(s1:Slots R Z1 H1 i l n)(p:i.length=ρ.length)(o:Keep kp σ l):
  ∃ Z2 O3,Go Z H (P++O) Z2 H1 (P++O3)/\Slots R Z2 H1 (uw kp 0 ρ i) l O3/\Rep R Z2 H1 d v P:=by
 have g:Go Z H ([]++P++O) (λa=>Z a\/a∈P) H ([]++[]++O):=(Go.freeze w.left).frame ⇑w;have same:∀ a,(Z a\/a∈P)->H1 a=H a:=Go.zH ⇑g.wf c;have t:∀ a vs,Z1 a->Rd H1 a (.tup vs)->Z1 a/\(a∉P\/Z a):=λa vs za u=>⟨za,by
  by_cases f:a∈P
  ·exact absurd (Rd.agree (same a<|.inr f).symm u)<|r.notTup a f vs
  ·exact .inl f⟩
 obtain⟨O3,m,h⟩:=Vm (kp:=kp) (k:=0) (λa z=>⟨c.zz a<|.inl z,.inr z⟩) (λa z=>same a<|.inl z) t s s1 p.symm λj x=>o j ⇑x;have A:∀ a∈P,a∉n:=λa e z=>c.wf.nz a z<|c.zz a<|.inr e;refine⟨_,O3,⟨⟨?_,λa e z=>?_,λa e=>?_,λa z=>c.wf.zd a z.1⟩,λa z=>⟨c.zz a<|.inl z,.inr z⟩,λa f B=>c.fr a f λz=>B<|by simp[z],λa z=>?_,λa e=>?_,c.dm⟩,m,
  r.frame (λa z=>⟨c.zz a<|.inl z,.inr z⟩) (λa z=>same a<|.inl z) λa e=>same a<|.inr e⟩
 ·exact U9.mpr ⟨w.left.nd,c.wf.nd.sublist h,λa e b C z=>A a e<|z▸h.subset C⟩
 ·rcases N2.mp e with q | q
  ·exact w.nz a (by simp[q])<|z.2.resolve_left λy=>y q
  ·exact c.wf.nz a (h.subset q) z.1
 ·rcases N2.mp e with q | q
  ·rw[same a<|.inr q];exact r.dom a q
  ·exact c.wf.od a<|h.subset q
 ·rcases c.zn a z.1 with(q | q) | q | q
  ·exact .inl q
  ·exact .inr<|.inl (by simp[q])
  ·exact .inr<|.inl (by simp[q])
  ·exact .inr<|.inr q
 ·rcases N2.mp e with q | q
  ·exact .inl (by simp[q])
  ·exact(c.sub a<|h.subset q).imp (λz=>by simp[z]) id
noncomputable def nx1:Out->Option Rh
 | .nx ρ=>some ρ
 | _=>none
def jlT(h:nx1 o=some ρ):o=.nx ρ:=by
 cases o with
 | nx _=>cases h;rfl
 | _=>cases h
def JV(tl dn st:Nat)(kp:List Nat)(L:Ln)(g:D->Rh->Option Rh)(f:FS)(d:D)(ρ:Rh)(l:List D)(x:D):Option (Rh×List D×D):=
 (g d ρ).bind λr=>(f<|(r.set tl<|some<|fz<|.lst true l).set st (some x)).bind λo=>(nx1 o).bind λρ1=>
  bif decide (ρ1.length=r.length)&&lim l.length then(pV dn<|uw kp 0 r ρ1).bind λc=>(L c).bind λy=>some (((uw kp 0 r ρ1).set dn none).set st (some .dead),l++[c],fz y.1) else none
noncomputable def J9(F:D->Rh->List D->D->Option (Rh×List D×D)):List D->Rh->List D->D->Option (Rh×List D)
 | [],ρ,l,_=>some (ρ,l)
 | d::ds,ρ,l,x=>(F d ρ l x).bind λy=>J9 F ds y.1 y.2.1 y.2.2
def jna(p:PAf)(tl dn st:Nat)(kp:List Nat)(L:Ln)(g:D->Rh->Option Rh)(f:FS)(ρ:Rh):Option Out:=
 (p ρ).bind λxs=>(pV tl ρ).bind λt=>(Ym t).bind λl=>(pV st ρ).bind λx=>bif frz x then(J9 (JV tl dn st kp L g f) xs (ρ.set tl none) l x).bind λy=>bif decide (tl<y.1.length) then some (.nx<|y.1.set tl<|some<|.lst true y.2) else none else none
inductive RnF (R:RC) (pm:List Nat) (tl st:Nat) (F:D->Rh->List D->D->Option (Rh×List D×D)) (σ:L2.St) (Z0:Zn) (H0:Hp) (O:W5) (xs:List D) (y:Rh×List D) (σ':L2.St) (H':Hp):Prop
 | mk:∀(ρ':Rh) (l:List D) (x:D) (Z':Zn) (P O':W5) (v u:V),Go Z0 H0 O Z' H' (P++O')->Slots R Z' H' ρ' σ' O'->σ'[tl]?=some (some v)->Rep R Z' H' (.lst true l) v P->σ'[st]?=some (some u)->Rep R (λa=>Z' a\/a∈P) H' x u []->Keep pm σ σ'->J9 F xs ρ' l x=some y->RnF R pm tl st F σ Z0 H0 O xs y σ' H'
def jl2{wi p pm kp}{tl X st:Nat}{tg g t1 f tb L}(hi:PIt R wi p)(hg:PGt R kp tg g)(hf:DS R kp t1 f)(hL:K2 R tb X L)(hne:tl≠st)(h1:tl∈kp)(h2:st∈kp)(hpm:∀ j∈pm,j∈kp)(hst:st∉pm):
  DS R pm (jfd wi tg<|jiV t1<|jiV (v8<|tBM R.K "list" v5 (yg tl)<|jC (yg X) JO)<|jd2 tb<|km st) (jna p tl X st kp L g f):=by
 intro σ ρ Z H O o w s e D' k;refine ob e λG e1 e=>ob e λt ht e=>ob e λl0 e4 e=>ob e λx0 hx0 e=>oc e λhfx e=>ob e λy ey e=>oc e λhly e=>?_;cases e;cases vv e4;refine hi w.zd s e1 λ{J Z0 H0} g0 it=>?_;have I:Go Z H O Z0 H0 O:=by simpa using g0.widen w
 have s0:=g0.slots w.zd s;obtain⟨v0,P0,O0,ev0,r0,s00,c0⟩:=kn s0<|qu ht;obtain⟨u0,Pu,_,eu0,ru0,_,_⟩:=kn s0<|qu hx0;cases ru0.nil hfx;have le0:∀ c,(P0++O0).count c<=O.count c:=λc=>by have:=c0 c;simp only[U8];lia
 refine⟨λi m σ' H'=>m=G.length-i/\i<=G.length/\RnF R pm tl st (JV tl X st kp L g f) σ Z0 H0 O (G.drop i) y σ' H',
  ⟨G.length,rfl,U5 _,_,l0,x0,Z0,P0,O0,v0,u0,(Go.refl I.wf).drop (qe le0) (vw le0 I.wf.nd),s00,ev0,r0,eu0,ru0.frame (λ_ z=>.inl z) (λ_ _=>rfl)<|λ_ _=>rfl,Keep.refl _ _,ey⟩,?_⟩
 rintro i m σ' H' ⟨rfl,hi',ρ',l,x,Z',P,O',v,u,E,s1,ev,r1,eu,rx,kp0,e2⟩;have it1:=it E.zz (E.zH I.wf) E.wf.zd i;by_cases hlt:i<G.length
 ·right
  have hx:G[i]?=some G[i]:=by simp
  obtain⟨go,yl⟩:=it1.2 _ hx;rw[yY hx] at e2;refine ob e2 λ⟨ρn,ln,xn⟩ e3 e2=>ob e3 λr er e3=>ob e3 λo1 e4 e3=>ob e3 λρ1 e5 e3=>oc e3 λF e3=>ob e3 λc hc e3=>ob e3 λ⟨y1,ky⟩ eL e3=>?_;cases e3;cases jlT e5;rw[M0] at F;refine⟨go,λσ2 M=>RnF R pm tl st (JV tl X st kp L g f) σ Z0 H0 O (G.drop<|i+1) y σ2 M,λσ2 M h=>⟨G.length-(i+1),by lia,rfl,hlt,h⟩,λd M hy=>?_⟩;obtain⟨S,g2,rd⟩:=yl d M hy;have g2':Go Z' H' (P++O') S M (P++O'):=by simpa using g2.widen E.wf
  have rx2:Rep R (λa=>S a\/a∈P) M x u []:=rx.frame (λa z=>z.imp (g2.zz a) id) (λa z=>g2.same a<|z.elim (E.wf.zd a) λq=>E.wf.od a<|by simp[q])<|λ_ h=>(nomatch h);refine hg rd (g2.slots E.wf.zd s1) er λ{σ3 O3} sub nd s3 k3=>?_;have g3:Go Z0 H0 O S M (P++O3):=(E.trans g2').drop (λa ha=>by simp at ha ⊢;exact ha.imp_right<|sub a) (by
   have n:=g2'.wf.nd;rw[U9] at n ⊢;exact⟨n.1,nd n.2.1,λa ha b hb=>n.2.2 a ha b<|sub b hb⟩)
  have r3:=g2.rep E.wf.zd r1;have gz:Go S M ([]++P++O3) (λa=>S a\/a∈P) M ([]++[]++O3):=(Go.freeze g3.wf.left).frame ⇑g3.wf;have T:σ3[tl]?=some (some v):=(k3 tl h1).trans ev;have U:σ3[st]?=some (some u):=(k3 st h2).trans eu;have ln3:=s3.length;have hlt3:=(L9.mp T).1;have hls3:=(L9.mp U).1;obtain⟨O4,s4,c4⟩:=vz (s3.frame (Z':=λa=>S a\/a∈P) (λ_ z=>.inl z) (λ_ _=>rfl)<|λ_ _=>rfl) (i:=tl) ∅ T (r3.freeze (Z':=λa=>S a\/a∈P) (λ_ z=>.inl z) λ_ z=>.inr z);obtain⟨O5,s5,c5⟩:=vz s4 (i:=st) (by rw[List.length_set];lia) U rx2;have C:∀ q,O5.count q<=([]++[]++O3).count q:=λq=>by have:=c4 q;have:=c5 q;simp at *;lia
  refine hf (gz.wf.sub (qe C)<|vw C gz.wf.nd) s5 e4 ?_;intro σ6 Z5 Y O6 g6 s6 k6;obtain⟨Z6,O7,g7,s7,r7⟩:=jfG (kp:=kp) g3.wf s3 r3 (g6.from (O':=O3) ⇑(qe C)) s6 (X3 F.1) k6;obtain⟨N,Pc,O8,V,rc,s8,c8⟩:=kn s7<|qu hc;obtain⟨a,_,vs,Ol,rfl,rs,_,ea,rfl⟩:=ow_lst.mp r7;have ev6:σ6[tl]?=some (some<|.ref a):=(k6 tl h1).trans T;refine⟨.ref a,ev6,.inl ⟨rfl,vs,SqL.of ea⟩,N,V,a,vs,N,rfl,rfl,ea,by rw[rs.length];exact VA F.2,?_⟩;have nd7:=g7.wf.nd;have ne:∀ q∈Ol++Pc++O8,q≠a:=λq D z=>by
   subst z;have:=List.nodup_iff_count.mp nd7 q;have p:=List.count_pos_iff.mpr D;have:=c8 q;simp only[U8,List.count_cons,beq_self_eq_true,if_true] at *
   lia
  have W:∀ q,Z6 q->upd Y a (.lst<|vs++[N]) q=Y q:=λq D=>jd λz=>g7.wf.nz a (by simp)<|z▸D;have rc9:=rc.frame (H':=upd Y a<|.lst<|vs++[N]) (λ_ z=>z) W λq D=>jd<|ne q (by simp[D]);have rL:Rep R Z6 (upd Y a<|.lst<|vs++[N]) (.lst true<|l++[c]) (.ref a) (a::(Ol++Pc)):=ow_lst.mpr ⟨a,0,vs++[N],Ol++Pc,rfl,(rs.append<|.one rc).frame (λ_ z=>z) W λq D=>jd<|ne q<|by simp at D ⊢;exact D.imp_right .inl,trivial,jk,rfl⟩;have s9:=s8.frame (H':=upd Y a<|.lst<|vs++[N]) (λ_ z=>z) W λq D=>jd<|ne q (by simp[D]);have hdn:=(L9.mp V).1;obtain⟨F1,sF,cF⟩:=vz (Ko (R:=R) (Z:=Z6) (H:=upd Y a<|.lst<|vs++[N]) (σ:=σ6)) (i:=X) (by simpa [jcN] using hdn) V rc9;obtain⟨uy,A,Py,B,rfl,ry,hty,_⟩:=hL sF (by rw[List.getElem?_set_self<|by simpa [jcN] using hdn]) eL;refine hty ?_;have ln6:=s9.length;have hls6:st<σ6.length:=(L9.mp<|(k6 st h2).trans U).1;obtain⟨A2,P2,B2,rfl,_,kk,_⟩:=s9.put (i:=st) ∅;have s10:=kk (d':=.dead) (v':=uy) (P':=[]) (by rw[Rep]) (λ_ z=>z) (λ_ _=>rfl) (λ_ _=>rfl)<|λ_ _=>rfl;have Q:∀ q,((a::(Ol++Pc))++(A2++[]++B2)).count q<=((a::Ol)++O7).count q:=λq=>by
   have:=c8 q;simp only[U8,List.count_cons,List.count_nil] at *
   lia
  have gp:=g3.trans<|g7.trans<|Go.put g7.wf (p:=a) (o:=.lst<|vs++[N]) (by simp);refine⟨_,l++[c],fz y1,Z6,_,_,.ref a,uy,gp.drop (qe Q)<|vw Q gp.wf.nd,s10,?_,rL,?_,ry.freeze (λ_ z=>.inl z)<|λq D=>.inr ?_,?_,e2⟩
  ·rw[List.getElem?_set_ne<|λq=>hne q.symm];exact ev6
  ·rw[List.getElem?_set_self hls6]
  ·have:=cF q;have p:=List.count_pos_iff.mpr D;simp only[U8,List.count_nil] at this;exact L6 _<|U3 _<|List.count_pos_iff.mp ∅
  ·exact kp0.trans<|(k3.sub hpm).trans ((k6.sub hpm).trans (Keep.set hst))
 ·left
  have hi2:i=G.length:=by lia
  refine⟨it1.1 ∅,?_⟩;rw[hi2,List.drop_length] at e2;cases e2;obtain⟨O5,s5,c5⟩:=vz s1 (X3 hly) ev r1;have C:∀ c,O5.count c<=(P++O').count c:=λc=>by have:=c5 c;simp only[U8];lia
  exact k (I.trans<|E.drop (qe C)<|vw C E.wf.nd) s5 kp0
def jj5{cl:Nat->Addr}{pm kp:List Nat}{X:Cx}{tg iter e:Expr}{s1 s2 c:Stmt}{pos:Pos}{tl b st:Nat}{L:Ln}{wi:TI}{pi:PAf}{tb:TE}{t:TG}{g:D->Rh->Option Rh}{d:TS}{f:FS}(i:PassesOwn (model X.prog X.w) X.A X.env X.xe)(k:X.calm=true)(hi:QI cl X tg iter wi pi)(h:QG cl kp X tg t g)(h1:QS cl kp X s1 d f)(h2:PS X s2<|v8<|tBM X.K "list" v5 (yg tl)<|jC (yg b) JO)(l:QL cl X e tb b L)(m:PS X c<|jd2 tb<|km st)
  (a:(tl≠st/\tl∈kp/\st∈kp/\(∀ j∈pm,j∈kp)/\st∉pm):=by decide) (n:∀ x,foldedSetIterable iter X.env x=pure x:=by intro _;rfl):
  QS cl pm X (.For tg iter [s1,s2,c] [] pos) (jfd wi t<|jiV d<|jiV (v8<|tBM X.K "list" v5 (yg tl)<|jC (yg b) JO)<|jd2 tb<|km st) (jna pi tl b st kp L g f):=
 ⟨wY i k hi.sem h.sem (KF h1.sem<|KF h2<|jcF m) n,jl2 hi.den h.den h1.den l.den a.1 a.2.1 a.2.2.1 a.2.2.2.1 a.2.2.2.2⟩
end
def jlc(i:Nat)(L:Ln)(f:FS)(ρ:Rh):Option Out:=(pV i ρ).bind λt=>(L t).bind λy=>f<|ρ.set i<|some<|y.2<|fz y.1
def jmX{R pm i L tb t f}(b:K2 R tb i L)(h:DS R pm t f):DS R pm t (jlc i L f):=by
 intro σ ρ Z H O o w s e j k;refine ob e λd hi e=>ob e λ⟨y,l⟩ e3 e=>?_;obtain⟨v,A,P,B,rfl,r,_,c⟩:=b s (qu hi) e3;have g:=(Go.freeze w.mid).frame w;exact h g.wf (c (r.freeze (Z':=λa=>Z a\/a∈P) (λa z=>.inl z) λa z=>.inr z) (λa z=>.inl z) (λ_ _=>rfl) (λ_ _=>rfl)<|λ_ _=>rfl) e<|k.pre g<|Keep.refl _ _
def QS.fzP{cl pm X e tb i L st ts f}(a:QL cl X e tb i L)(h:QS cl pm X st ts f):QS cl pm X st ts (jlc i L f):=⟨h.sem,jmX a.den h.den⟩
section
variable {R:RC}
def jlq{r g ta tb pa pb}(b:DO R r g)(c:PP R ta pa)(f:PP R tb pb):PP R (tOp r ta tb) (p2 g pa pb):=by
 intro σ ρ Z H O d z s e Q k;exact ob e λx h e=>ob e λy e2 e=>(c z s h λ{v j l m} a r1=>(f a.wf.zd (a.slots z s) e2 λ{u n o p} g2 r2=>(b (a.pair g2).wf (g2.rep a.wf.zd r1) r2 e λg3 i=>k ((a.pair g2).trans g3) i)))
def jk5{r g ta pa}(b:DC R r g)(c:PPs R ta pa):PP R (tCB r ta) (pCB g pa):=by
 intro σ ρ Z H O d z s e Q k;exact ob e λx f e=>(c z s f λ{v i j l} a r1=>b a.wf r1 e λg3 h=>k (a.trans g3) h)
def VF(x y:D):Option D:=match x with
 | .tup a=>(match y with
  | .tup b=>bif lim (a.length+b.length)&&!a.isEmpty then some (.tup<|a++b) else none
  | _=>none)
 | _=>none
def jir:DO R (jat R.K) VF:=by
 intro Z H x y d v u s t z i l e Q k;cases x with
 | tup a=>
  cases y with
  | tup b=>
   refine oc e λc e=>?_;cases e;simp only[M0] at c;obtain⟨p,vs,rfl,m,f⟩:=i.tup_of;obtain⟨q,ws,rfl,n,rt⟩:=l.tup_of;have g:vs≠[]:=by
    intro o;have:=f.length;rw[o] at this;have h:=List.eq_nil_of_length_eq_zero this.symm;rw[h] at c;simp at c
   refine .inr<|.inr<|.inr ⟨p,q,vs,ws,rfl,rfl,m,n,g,by rw[f.length,rt.length];exact qk c.1,(λh=>?_),λ_ b j=>k (Go.newF z j)<|Rep.tupNew z j<|f.append rt⟩;have r:=List.eq_nil_of_length_eq_zero (by rw[<- rt.length,h];rfl);subst r;rw[M9] at k;exact k ((Go.refl z).dropR) i
  | _=>cases e
 | _=>cases e
def jag(l:List D):Option D:=(jdY l).bind λx=>(Ym x).bind λl=>some<|.tup l
def jht:DC R (λxs H Q=>∃ p ys,xs=[.ref p]/\((SqL R.K H p ys/\∀ l,H l=none->Q (.ref l) (upd H l<|.tup ys))\/(SqT R.K H p ys/\Q (.ref p) H))) jag:=by
 intro Z H xs d vs O w r e Q k;refine ob e λx g e=>ob e λl i e=>?_;cases e;cases vv i;rw[kE g] at r;obtain⟨v,rfl,r1⟩:=r.one_of;obtain⟨p,_,ws,j,rfl,m,_,n,rfl⟩:=ow_lst.mp r1;have c:WF Z H j:=w.sub (λa h=>L6 _ h) (List.nodup_cons.mp w.nd).2;exact⟨p,ws,rfl,.inl ⟨SqL.of n,λb f=>k (((Go.refl w).drop (λa h=>L6 _ h) (List.nodup_cons.mp w.nd).2).trans (Go.newF c f))<|Rep.tupNew c f m⟩⟩
def jl4{cl X a b ta tb pa pb pos}{K}(e:X.K=K)(c:QP cl X a ta pa)(d:QP cl X b tb pb):QP cl X (.BinOp a .Add b pos) (tOp (jat K) ta tb) (p2 VF pa pb):=by
 subst e;exact⟨zJ jcZ c.sem d.sem,jlq jir c.den d.den⟩
def jes{cl X e es tr pr pos}{x}{p}{T}{r}{g}(d:vJ X (.type T) r)(f:DC ⟨X.K,cl⟩ r g)(h:X.mg x=none)(i:bootBuiltins x=some (.type T))(c:QPs cl X (e::es) tr pr)(j:Gl X x:=by rfl)
  (k:x≠"__name__":=by decide) (a:Nd x:=by decide) (l:SEq X e es:=by rfl) (b:BkE X pos es:=by rfl):
  QP cl X (.Call (.Name x p) (e::es) [] pos) (tCB r tr) (pCB g pr):=⟨YE d j h i c.sem k a l b,jk5 f c.den⟩
end
def jmc{cl:Nat->Addr}{X:Cx}{o e es to po tr pr}{apos cpos:Pos}{K}(f:X.K=K)(g:QB cl X o to po)(h:QBs cl X (e::es) tr pr)
  (b:attributeBase o "index" X.env (eval o X.env)=eval o X.env:=by rfl)
  (d:((backTo cpos<|starEach (e::es) X.env).all (λx=>!x.1)&&(backToKw cpos<|keywordEach [] X.env).all (λx=>x.1.isSome)
   && decide ((e::es).length+([]:List Keyword).length+(if([]:List Keyword).isEmpty then 0 else 1)<30))=true:=by rfl)
  (c:(apos.endLine==cpos.line)=true:=by rfl) (i:SEq X e es:=by rfl) (a:BkE X cpos es:=by rfl):
  QP cl X (.Call (.Attribute o "index" apos) (e::es) [] cpos) (tBM K "list" (zW K) to tr) (pLM J1 po pr):=by
 subst f;exact jpC PySem.F.slot_list_index PySem.F.type_list_index jdS jbZ g h b d c i a
end QD
namespace K34
set_option hygiene false
local macro_rules|`(‹$x›)=>`(some<|.lst false $x)|`(↑$x)=>`(some<|.lst true $x)
local macro_rules|`(#[])=>`(pN)|`(#[$x])=>`(ja $x pN)|`(#[$x,$y,*])=>`(ja $x #[$y,*])
open PySem L2 QD
noncomputable def top(i:Nat):Stmt:=PySem.Challenge.pw_tranchefall_k34_day_by_day.main.body.getD i<|.Pass ⟨0,0,0,0⟩
def Vo:FS:=(yy<|dP<|pCB jdJ #[ya (Jb<|pV 0) (jc [] 0) qT (pF<|p2 jf (pV 0)<|pI 1) [none]])
def kP:List D->Option D:=fnP 1 Vo
def ye:FS:=(sIf (dPT<|jl<|p2 kZ (p2 jf (pV 2)<|pI 0)<|pV 1) (yy<|dP<|pF<|pV 2)
 jQ)
def JF:FS:=(ji (JB (pIt<|pF<|p2 jf (pV 0)<|pI 4) (jc [] 2) ye)<|yy<|dP<|pC .non)
def vx:List D->Option D:=fnP 3 JF
def yR:FS:=(sIf (dPT<|jl<|p2 jng (p2 yB (pV 1)<|pV 2)<|pV 3) (yy<|dP<|pF<|pV 4)
 jQ)
def qj:FS:=(ji (JB (pIt<|pF<|p2 jf (pV 0)<|pI 5) (gT 3<|gC (jc [] 2)<|gC (jc [] 3)<|gC (jc [] 4) gN) yR)<|yy<|dP<|pF<|p2 jf (p2 jf (p2 jf (pV 0)<|pI 4)<|pI 0)<|pI 0)
def yX:List D->Option D:=fnP 5 qj
def ql:FS:=(yy<|dP<|pCB we #[ya (Jb<|pV 0) (gT 3<|gC (jc [] 0)<|gC (jc [] 1)<|gC (jc [] 2) gN) qT (yb #[pKy (pV 0)<|pV 1,pF<|pV 2]) [none,none,none]])
def yd:List D->Option D:=fnP 1 ql
def Jj:FS:=(sIf (dPT<|jl<|p2 kZ (pV 2)<|pS [108,101,110,100]) (jhX 0 (pV 1) (pV 3)<|p2 jg (jby (pV 0) (pV 1) (pV 3)<|pI 0)<|pV 4)<|jfA 0 (pV 3) (pV 1) (λm n=>m-n)<|pV 4)
def yq:List D->Option (D×D):=fnM 5 0 Jj
def qJ:FS:=(sIf (dPT<|jcu (jl<|p2 Yo (pV 4)<|pI 0)<|jl<|p2 jjK (p2 jf (pV 3)<|pV 5)<|pV 6) (ji (Qj 3 (pV 5) (λi j=>i+j)<|pI 1)<|jfp [] 4 (λi j=>i-j)<|pI 1)
 jQ)
def KW:FS:=(ji (jx (dP<|pCB jdJ #[pV 0])<|jc [] 2)<|ji (sIf (dPT<|jl<|p2 jng (pV 1)<|pV 2) (yy<|dP<|pCB vX #[pV 0])
 jQ)<|ji (jx (dP<|ya (Jb<|pV 0) (jc [] 0) qT (p2 Vc (p2 yj (pV 1)<|pV 0)<|pV 2) [none,some 1,some 2])<|jc [] 3)<|ji (jx (dP<|p2 Vw (pV 1)<|pCB jdJ #[pV 3])<|jc [] 4)<|ji (JB (Jf #[pF<|pV 0]) (gT 2<|gC (jc [] 5)<|gC (jc [] 6) gN) qJ)<|yy<|dMv 3)
def qM:List D->Option D:=fnP 7 KW
def jN:FS:=(ji (jx (dP<|pF<|p2 jf (pV 1)<|pI 0)<|jc [] 2)<|ji (jx (dP<|pF<|p2 jf (pV 1)<|pI 1)<|jc [] 3)<|ji (sIf (dPT<|jl<|p2 kZ (pV 2)<|pS [112,97,121]) (yy<|dP<|pF<|p2 yB (qZ 0 "owed"<|pV 0)<|pV 3)
 jQ)<|ji (sIf (dPT<|jl<|p2 kZ (pV 2)<|pS [114,101,112,97,121]) (yy<|dP<|p2 jg (p2 yB (qZ 0 "owed"<|pV 0)<|pV 3)<|p2 yB (qZ 0 "sizes"<|pV 0)<|pV 3)
 jQ)<|ji (sIf (dPT<|jl<|p2 kZ (pV 2)<|pS [102,105,108,108]) (yy<|dP<|pCB jkn #[p2 Vw (p2 yB (qZ 0 "marks"<|pV 0)<|pV 3)<|p2 yB (qZ 0 "levels"<|pV 0)<|pV 3,pI 0])
 jQ)<|ji (sIf (dPT<|jl<|p2 kZ (pV 2)<|pS [108,101,110,100]) (yy<|dP<|pCB jkn #[p2 Vw (p2 jf (pV 1)<|pI 2)<|jby (qZ 0 "loans"<|pV 0) (qZ 0 "pool_name"<|pV 0) (pV 3)<|pI 0,pI 0])
 jQ)<|ji (sIf (dPT<|jl<|p2 kZ (pV 2)<|pS [98,97,99,107]) (yy<|dP<|pF<|jby (qZ 0 "loans"<|pV 0) (pV 3) (qZ 0 "pool_name"<|pV 0)<|pI 0)
 jQ)<|yy<|dP<|pF<|qZ 0 "cash"<|pV 0)
def jh:List D->Option D:=fnP 4 jN
def yQ:FS:=(ji (jx (dP<|pF<|p2 yB (qZ 0 "owed"<|pV 0)<|pV 3)<|jc [0] 4)<|ji (jx (dP<|pCB jaa #[pV 4,p2 yB (qZ 0 "levels"<|pV 0)<|pV 2])<|jc [0] 5)<|ji (vq 0 (qC 0 "levels" jU) (pV 2) (λm n=>m-n)<|pV 5)<|ji (vq 0 (qC 0 "owed" jU) (pV 3) (λm n=>m-n)<|pV 5)<|vZ 0 (qC 0 "entries" jU)<|yb #[pF<|pV 1,pS [103,117,97,114,100],pF<|pV 3,pF<|pV 4,pF<|pV 5])
def yh:List D->Option (D×D):=fnM 6 0 yQ
def jw:FS:=(ji (jx (dP<|jmh (p2 Yo (p2 yB (pV 2)<|pV 4)<|pI 0)<|p2 (uH true) (pV 4)<|qZ 0 "served"<|pV 0)<|jc [] 6)<|zg 3<|yb #[pF<|pV 4,pIf (jl<|pV 6) (p2 jg (pV 5)<|pI 1)<|pI 0])
def vO:FS:=(ji (jx (dP<|pCB vh #[p2 jf (pV 1)<|pI 0])<|jc [] 2)<|ji (jx (dP<|Yp pN)<|jc [] 3)<|ji (JB (pIt<|pF<|p2 jf (pV 1)<|pI 2) (gT 2<|gC (jc [] 4)<|gC (jc [] 5) gN) jw)<|yy<|jaR<|yK (dP<|yr<|qZ 0 "sizes"<|pV 0)<|yK (dP<|yr<|qZ 0 "owed"<|pV 0)<|yK (dMv 3)<|yK (dP<|yr<|qZ 0 "levels"<|pV 0)<|yK (dP<|pF<|p2 jf (pV 1)<|pI 4) jdW)
def jA:List D->Option D:=fnP 7 vO
def YQ:FS:=(ji (jx (dP<|pCB jaa #[pV 4,p2 yB (pV 3)<|pV 7])<|jc [] 8)<|ji (zg 5<|yb #[pF<|pV 6,pS [101,97,116],pF<|pV 7,pF<|pV 4,pF<|pV 8])<|ji (jcO 3 (pV 7) (λm n=>m-n)<|pV 8)<|jfp [] 4 (λi j=>i-j)<|pV 8)
def jcR:FS:=(ji (jx (dP<|pCB vh #[p2 jf (pV 1)<|pI 0])<|jc [] 3)<|ji (jx (dP<|pF<|pV 2)<|jc [] 4)<|ji (jx (dP<|Yp pN)<|jc [] 5)<|ji (JB (Jf #[pF<|p2 jf (pV 0)<|pI 3]) (gT 2<|gC (jc [] 6)<|gC (jc [] 7) gN) YQ)<|ji (jx (dP<|ya (Jb<|p2 jf (pV 1)<|pI 1) (gT 2<|gC (jc [] 0)<|gC (jc [] 1) gN) qT (yb #[pF<|pV 0,pIf (jl<|p2 Yo (p2 yB (pV 2)<|pV 0)<|pI 0) (pF<|pV 1)<|pI 0]) [none,none,some 3])<|jc [] 9)<|yy<|jaR<|yK (dMv 5)<|yK (jaR<|yK (dP<|yr<|pV 3)<|yK (dMv 9)<|yK (dP<|pCB vX #[p2 jf (pV 1)<|pI 2])<|yK (dP<|pCB vX #[p2 jf (pV 1)<|pI 3])<|yK (dP<|p2 jg (p2 jf (pV 1)<|pI 4)<|pV 4) jdW) jdW)
def Ks:List D->Option D:=fnP 10 jcR
def Yj:FS:=(ji (jx (dP<|ya (Jb<|p2 jf (pV 0)<|pI 1) (jc [] 0) qT (yb #[pF<|p2 jf (pV 0)<|pI 0,pF<|p2 jf (pV 0)<|pI 1]) [none])<|jc [] 1)<|ji (jx (dP<|ya (Jb<|p2 jf (pV 0)<|pI 1) (jc [] 0) qT (yb #[pF<|p2 jf (pV 0)<|pI 0,pI 0]) [none])<|jc [] 2)<|ji (jx (dP<|ya (Jb<|p2 jf (pV 0)<|pI 1) (jc [] 0) qT (yb #[pF<|p2 jf (pV 0)<|pI 0,pI 0]) [none])<|jc [] 3)<|yy<|jaR<|yK (dMv 1)<|yK (dMv 2)<|yK (dMv 3)<|yK (dP<|ya (Jb<|p2 jf (pV 0)<|pI 2) (jc [] 0) qT (yb #[pF<|p2 jf (pV 0)<|pI 0,pI 0]) [none])<|yK (dP<|pI 0) jdW)
def va:List D->Option D:=fnP 4 Yj
def Y3:FS:=(ji (jx (dP<|pCB vh #[p2 jf (pV 1)<|pI 0])<|jc [] 2)<|ji (jx (dP<|pCB vh #[ya (Jb<|p2 jf (pV 0)<|pI 1) (jc [] 0) qT (yb #[pF<|p2 jf (pV 0)<|pI 0,pF<|p2 jf (pV 0)<|pI 2]) [none]])<|jc [] 3)<|ji (jx (dP<|ya (Jb<|p2 jf (pV 1)<|pI 1) (gT 2<|gC (jc [] 0)<|gC (jc [] 1) gN) qT (yb #[pF<|pV 0,pIf (jl<|p2 Yo (p2 yB (pV 2)<|pV 0)<|pI 0) (p2 jg (pV 1)<|p2 yB (pV 3)<|pV 0)<|pF<|pV 1]) [none,none,some 2,some 3])<|jc [] 4)<|sFz 4<|yy<|dP<|yb #[pF<|p2 jf (pV 1)<|pI 0,pF<|pV 4,pF<|p2 jf (pV 1)<|pI 2,pF<|p2 jf (pV 1)<|pI 3,pF<|p2 jf (pV 1)<|pI 4])
def kN:List D->Option D:=fnP 5 Y3
def JX:FS:=(ji (jx (dP<|pI 0)<|jc [] 3)<|ji (sIf (dPT<|jl<|p2 Yo (pCB k8 #[pV 0])<|pI 0) (jx (dP<|pF<|p2 jf (pV 0)<|p2 JM (pV 1)<|pCB k8 #[pV 0])<|jc [] 3)
 jQ)<|ji (jx (dP<|p2 JM (p2 yj (p2 jg (p2 jg (p2 JM (pV 3)<|pI 2147483647)<|p2 yj (pI 7)<|pV 1)<|pI 3)<|p2 jg (pI 48271)<|p2 yj (p2 yj (pI 1103)<|pV 1)<|pV 1)<|pI 2147483629)<|jc [] 4)<|yy<|dP<|p2 JM (p2 Vc (pV 4)<|pI 64)<|pV 2)
def je:List D->Option D:=fnP 5 JX
def yf:FS:=(ji (sIf (dPT<|jl<|p2 kZ (p2 jf (pV 6)<|pI 0)<|pS [115,104,97,114,101]) (jx (dP<|p2 jg (pV 2)<|pCB vX #[p2 jf (pV 6)<|pI 1])<|jc [] 2)
 jQ)<|sIf (dPT<|jl<|p2 kZ (p2 jf (pV 6)<|pI 0)<|pS [114,101,112,97,121]) (zg 2<|pF<|p2 jf (pV 6)<|pI 1)
 jQ)
def vP:FS:=(JB (pIt<|pF<|pV 5) (jc [] 6) yf)
def VT:FS:=(ji (jx (dP<|Yp pN)<|jc [] 2)<|ji (JB (pIt<|pF<|pV 0) (gT 3<|gC (jc [] 3)<|gC (jc [] 4)<|gC (jc [] 5) gN) vP)<|yy<|dP<|ya (Jb<|pV 1) (jc [] 0) (jl<|p2 (jaQ true) (pV 0)<|pV 1) (pF<|pV 0) [none,some 2])
def qF:List D->Option D:=fnP 7 VT
def xD:FS:=(yy<|dP<|jmh (jdX "int"<|pV 0)<|jnz<|jdX "bool"<|pV 0)
def YD:List D->Option D:=fnP 1 xD
def VN:FS:=(ji (jx (dP<|ya (Jb<|p2 jf (pV 0)<|pI 0) (jc [] 0) qT (p2 VF (pCB jag #[ya (Jb<|pSl (pV 0) oN<|oS<|pI 4) (jc [] 0) qT (pCB vX #[pV 0]) [none]])<|yb #[pF<|p2 jf (pV 0)<|pI 4]) [none])<|jc [] 1)<|yy<|wg 1 #[pCB vX #[p2 jf (pV 0)<|pI 1],pCB vX #[p2 jf (pV 0)<|pI 2]])
def yx:List D->Option D:=fnP 2 VN
noncomputable def qW:FS:=(zg 2<|yb #[pS [120],pI 1])
def yT:FS:=(jdD (jjW (dMv 1) 4) (jc [0,0] 2) qW)
def Yk:FS:=(ji (jfS 0 (lIx 0 jU) (jc [0,0] 1) yT)<|ji (vZ 0 (lIx 0 jU)<|yb pN)<|ji (vZ 0 (lIx 1 jU)<|yb #[pS [120],pS [121],pI 1])<|vZ 0 (lIx 2 jU)<|pI 7)
def jV:List D->Option (D×D):=fnM 3 0 Yk
def qV:FS:=(ji (jx (dP<|ya (Jb<|pV 0) (jc [] 0) qT (pF<|p2 jf (pV 0)<|pI 0) [none])<|jc [] 2)<|ji (jx (dP<|ya (Jb<|pV 1) (jc [] 0) qT (pLM J1 (pV 1) #[p2 jf (pV 0)<|pI 0]) [none,some 2])<|jc [] 3)<|yy<|dP<|p2 kZ (pV 3)<|pCB Q7 #[pV 3])
def yV:List D->Option D:=fnP 4 qV
def zD:FS:=(ji (jx (dP<|jj kP #[pV 0])<|jc [] 2)<|ji (sIf (dPT<|jl<|p2 Yo (pV 2)<|pI 10) (ji (jx (dP<|ya (Jb<|pV 0) (jc [] 0) qT (p2 Vc (p2 jg (p2 yj (pV 1)<|p2 jf (pV 0)<|pI 1)<|pI 9)<|pI 10) [none,some 1])<|jc [] 3)<|yy<|wg 3 #[p2 Vw (pCB jdJ #[pV 3])<|pV 1])
 jQ)<|ji (jx (dP<|ya (Jb<|pV 0) (jc [] 0) qT (p2 Vc (p2 yj (pV 1)<|p2 jf (pV 0)<|pI 1)<|pI 10) [none,some 1])<|jc [] 3)<|ji (jx (dP<|p2 Vw (p2 Vc (p2 yj (pV 1)<|pV 2)<|pI 10)<|pCB jdJ #[pV 3])<|jc [] 4)<|sFz 3<|yy<|dP<|yb #[ya (Jf #[pF<|pV 3]) (gT 2<|gC (jc [] 0)<|gC (jc [] 1) gN) qT (pIf (jl<|p2 jjK (pV 0)<|pV 2) (p2 jg (pV 1)<|pI 1)<|pF<|pV 1) [none,none,some 4],pI 0])
def YK:List D->Option D:=fnP 5 zD
def vn:FS:=(JZ<|yD yq 3 jU #[pF<|pV 1,pF<|pV 4,pF<|pV 5,pF<|pV 6])
def qQ:FS:=(ji (jx (dP<|jj yd #[pV 0])<|jc [] 3)<|ji (JB (pIt<|pF<|pV 2) (gT 3<|gC (jc [] 4)<|gC (jc [] 5)<|gC (jc [] 6) gN) vn)<|yy<|dCB KC<|yK (joX 3) jdW)
def yU:List D->Option D:=fnP 7 qQ
def qf:FS:=(ji (JK 0 0 "pool_name"<|pF<|p2 jf (pV 1)<|pI 0)<|ji (JK 0 0 "marks"<|pCB vh #[p2 jf (pV 1)<|pI 2])<|ji (JK 0 0 "sizes"<|pCB vh #[p2 jf (pV 2)<|pI 0])<|ji (JK 0 0 "owed"<|pCB vh #[p2 jf (pV 2)<|pI 1])<|ji (JK 0 0 "levels"<|pCB vh #[p2 jf (pV 2)<|pI 3])<|ji (JK 0 0 "loans"<|jj yd #[pV 4])<|ji (JK 0 0 "cash"<|pF<|pV 3)<|ji (JK 0 0 "served"<|pC<|.dK true [] [])<|ji (JK 0 0 "entries"<|Yp pN)<|JK 0 0 "moves"<|Yp pN)
def yH:List D->Option (D×D):=fnM 5 0 qf
def yt:FS:=(sIf (dPT<|jl<|p2 kZ (pV 1)<|pS [112,97,121]) (vq 0 (qC 0 "owed" jU) (pV 2) (λm n=>m-n)<|pV 3)<|sIf (dPT<|jl<|p2 kZ (pV 1)<|pS [114,101,112,97,121]) (ji (jx (dP<|pCB jaa #[pV 3,p2 yB (qZ 0 "owed"<|pV 0)<|pV 2])<|jc [0] 4)<|ji (vq 0 (qC 0 "owed" jU) (pV 2) (λm n=>m-n)<|pV 4)<|vq 0 (qC 0 "sizes" jU) (pV 2) (λm n=>m-n)<|p2 Vw (pV 3)<|pV 4)<|sIf (dPT<|jl<|p2 kZ (pV 1)<|pS [102,105,108,108]) (vq 0 (qC 0 "levels" jU) (pV 2) (λm n=>m+n)<|pV 3)<|sIf (dPT<|jcu (jl<|p2 (jaQ false) (pV 1)<|yb #[pS [108,101,110,100],pS [98,97,99,107]])<|jl<|p2 Yo (pV 3)<|pI 0) (ji (JZ<|yD yq 0 (qC 0 "loans" jU) #[pF<|qZ 0 "pool_name"<|pV 0,pF<|pV 1,pF<|pV 2,pF<|pV 3])<|vZ 0 (qC 0 "moves" jU)<|yb #[pF<|pV 1,pF<|pV 2,pF<|pV 3])
 jQ)
def jq:List D->Option (D×D):=fnM 5 0 yt
def yp:FS:=(ji (Yh 0 jU 0 "cash" (λm n=>m-n)<|pV 8)<|ji (vq 0 (qC 0 "owed" jU) (pV 6) (λm n=>m-n)<|pV 8)<|ji (vZ 0 (qC 0 "entries" jU)<|yb #[pF<|pV 1,pS [115,104,97,114,101],pF<|pV 6,pF<|pV 7,pF<|pV 8])<|sIf (dPT<|jl<|pV 5) (YT 0 (qC 0 "served" jU) (pV 6)<|pC<|.bl true)
 jQ)
def yO:FS:=(ji (jx (dP<|ya (Jb<|pV 2) (jc [] 0) qT (pF<|p2 yB (qZ 0 "owed"<|pV 1)<|pV 0) [none,some 0])<|jc [0] 3)<|ji (jx (dP<|jj qM #[pV 3,qZ 0 "cash"<|pV 0])<|jc [0] 4)<|ji (jx (dP<|jmh (p2 Yo (pCB jdJ #[pV 3])<|pI 0)<|p2 kZ (pV 4)<|pV 3)<|jc [0] 5)<|sFz 3<|sFz 4<|JB (pZN 3 #[pF<|pV 2,pF<|pV 3,pF<|pV 4]) (gT 3<|gC (jc [0] 6)<|gC (jc [0] 7)<|gC (jc [0] 8) gN) yp)
def jF:List D->Option (D×D):=fnM 9 0 yO
def jcA:FS:=(yy<|dP<|yb #[ya (Jb<|pV 0) (jc [] 0) qT (jj va #[pV 0]) [none],Yp pN,ya (Jb<|pV 0) (jc [] 0) qT (pI 0) [none]])
def Va:List D->Option D:=fnP 1 jcA
def Y7:FS:=(yy<|dP<|jj yX #[pV 0,pCB vh #[p2 jf (pV 1)<|pI 2]])
def vE:List D->Option D:=fnP 2 Y7
def vD:FS:=(ji (jx (dP<|pI 0)<|jc [] 2)<|ji (sIf (dPT<|jl<|p2 Yo (pCB k8 #[pV 0])<|pI 0) (jx (dP<|pF<|p2 jf (pV 0)<|p2 JM (pV 1)<|pCB k8 #[pV 0])<|jc [] 2)
 jQ)<|ji (sIf (dPT<|jl<|p2 Yo (jj je #[pV 0,pI 900,pI 3])<|pI 0) (yy<|dP<|p2 jg (pI 1)<|jj je #[pV 0,pV 1,pI 9])
 jQ)<|yy<|dP<|p2 jg (pI 1)<|p2 JM (p2 yj (p2 jg (p2 jg (p2 JM (pV 2)<|p2 Vs (pI 10)<|pI 40)<|p2 yj (pV 1)<|pV 1)<|pI 1)<|p2 Vs (pI 48271)<|pI 5)<|p2 Vs (pI 10)<|pI 12)
def jv:List D->Option D:=fnP 3 vD
def YZ:FS:=(ji (jx (dP<|pS [98,99,100,102,103,106,107,109,110,112,113,118,119,120,121,122])<|jc [] 1)<|ji (jx (dP<|p2 yj (pS [122,113])<|jj je #[pV 0,pI 901,pI 2])<|jc [] 2)<|ji (jx (dP<|pSl (pS [118,122,98]) oN<|oS<|jj je #[pV 0,pI 902,pI 4])<|jc [] 3)<|ji (jx (dP<|jj je #[pV 0,pI 903,pI 16])<|jc [] 4)<|yy<|dP<|ya (Km #[pI 16]) (jc [] 0) qT (p2 jg (p2 jg (pV 1)<|p2 jf (pV 2)<|p2 JM (p2 jg (pV 3)<|pV 0)<|pI 16)<|pV 4) [none,some 2,some 1,some 4,some 3])
def kH:List D->Option D:=fnP 5 YZ
def vR:FS:=(sIf (dPT<|jl<|p2 Yo (jj je #[pV 0,p2 jg (pV 1)<|pV 4,pI 3])<|pI 0) (zg 3<|pF<|pV 5)
 jQ)
def Yd:FS:=(ji (jx (dP<|Yp pN)<|jc [] 3)<|ji (JB (Jf #[pF<|pV 2]) (gT 2<|gC (jc [] 4)<|gC (jc [] 5) gN) vR)<|ji (sIf (dPT<|jl<|p2 kZ (jj je #[pV 0,p2 jg (pV 1)<|pI 9,pI 2])<|pI 1) (joa 3)
 jQ)<|yy<|dMv 3)
def kq:List D->Option D:=fnP 6 Yd
def vH:FS:=(ji (jx (dP<|pF<|p2 jf (p2 jf (pV 3)<|pI 0)<|pV 4)<|jc [0] 6)<|ji (jx (dP<|pCB jaa #[pV 6,qZ 0 "cash"<|pV 0])<|jc [0] 7)<|ji (Yh 0 jU 0 "cash" (λm n=>m-n)<|pV 7)<|vZ 0 (qC 0 "entries" jU)<|yb #[pF<|pV 4,pS [112,97,114,116],pF<|p2 jf (pV 5)<|pI 0,pF<|pV 6,pF<|pV 7])
def yM:FS:=(ji (jx (dP<|pF<|qZ 0 "cash"<|pV 0)<|jc [0] 2)<|ji (jx (dP<|jj YK #[pV 1,pV 2])<|jc [0] 3)<|ji (JB (Jf #[pF<|pV 1]) (gT 2<|gC (jc [0] 4)<|gC (jc [0] 5) gN) vH)<|sIf (dPT<|jl<|p2 Yo (p2 jf (pV 3)<|pI 1)<|pI 0) (vZ 0 (qC 0 "entries" jU)<|yb #[p1 xx<|pI 1,pS [116,119,105,99,101],pS [],pCB jdJ #[p2 jf (pV 3)<|pI 0],pF<|pV 2])
 jQ)
def jG:List D->Option (D×D):=fnM 8 0 yM
def jW:FS:=(ji (jx (dP<|pF<|p2 jf (pV 2)<|pI 0)<|jc [0] 3)<|ji (jx (dP<|pF<|p2 jf (pV 2)<|pI 1)<|jc [0] 4)<|ji (jx (dP<|JU jh 0 "need_of" (pV 0) #[pV 2])<|jc [0] 5)<|ji (jx (dP<|pCB jaa #[pV 5,qZ 0 "cash"<|pV 0])<|jc [0] 6)<|ji (Yh 0 jU 0 "cash" (λm n=>m-n)<|pV 6)<|ji (vZ 0 (qC 0 "entries" jU)<|yb #[pF<|pV 1,pF<|pV 3,pF<|pV 4,pF<|pV 5,pF<|pV 6])<|ji (JZ<|yL jq 0 0 "give" #[pF<|pV 3,pF<|pV 4,pF<|pV 6])<|sIf (dPT<|jcu (jl<|p2 (jaQ false) (pV 3)<|yb #[pS [112,97,121],pS [114,101,112,97,121]])<|jcu (jl<|p2 kZ (pV 6)<|pV 5)<|jl<|p2 Yo (pV 5)<|pI 0) (YT 0 (qC 0 "served" jU) (pV 4)<|pC<|.bl true)
 jQ)
def jn:List D->Option (D×D):=fnM 7 0 jW
def J7:FS:=(ji (jx (dP<|jj je #[pV 0,pV 1,pI 9])<|jc [] 5)<|ji (jx (dP<|pF<|p2 jf (pV 2)<|jj je #[pV 0,p2 jg (pV 1)<|pI 1,pCB k8 #[pV 2]])<|jc [] 6)<|ji (sIf (dPT<|jl<|p2 jjK (pV 5)<|pI 3) (yy<|dP<|yb #[pS [112,97,121],pF<|pV 6])
 jQ)<|ji (sIf (dPT<|jcu (jl<|p2 kZ (pV 5)<|pI 3)<|jcu (jl<|p2 Yo (pCB k8 #[pV 2])<|pI 1)<|jl<|p2 kZ (jj je #[pV 0,p2 jg (pV 1)<|pI 2,pI 2])<|pI 0) (yy<|dP<|yb #[pS [115,104,97,114,101],pCB Qa #[pSl (pV 2) oN<|oS<|pI 2]])
 jQ)<|ji (sIf (dPT<|jcu (jl<|p2 kZ (pV 5)<|pI 3)<|jl<|p2 Yo (pCB k8 #[pV 2])<|pI 1) (yy<|dP<|yb #[pS [115,104,97,114,101],pCB Qa #[p2 jg (pSl (pV 2) (oS<|p1 xx<|pI 1) oN)<|pSl (pV 2) oN<|oS<|p1 xx<|pI 1]])
 jQ)<|ji (sIf (dPT<|jl<|p2 kZ (pV 5)<|pI 4) (yy<|dP<|yb #[pS [114,101,112,97,121],pF<|pV 6])
 jQ)<|ji (sIf (dPT<|jcu (jl<|p2 kZ (pV 5)<|pI 5)<|jl<|p2 Yo (pCB k8 #[pV 3])<|pI 0) (yy<|dP<|yb #[pS [102,105,108,108],pF<|p2 jf (pV 3)<|jj je #[pV 0,p2 jg (pV 1)<|pI 2,pCB k8 #[pV 3]]])
 jQ)<|ji (sIf (dPT<|jcu (jl<|p2 Yo (pV 5)<|pI 5)<|jl<|p2 Yo (pCB k8 #[pV 4])<|pI 0) (ji (jx (dP<|pF<|p2 jf (pV 4)<|jj je #[pV 0,p2 jg (pV 1)<|pI 2,pCB k8 #[pV 4]])<|jc [] 7)<|ji (sIf (dPT<|jl<|p2 kZ (pV 5)<|pI 8) (yy<|dP<|yb #[pS [98,97,99,107],pF<|pV 7])
 jQ)<|yy<|dP<|yb #[pS [108,101,110,100],pF<|pV 7,jj jv #[pV 0,p2 jg (pV 1)<|pI 3]])
 jQ)<|yy<|dP<|yb #[pS [112,97,121],pF<|pV 6])
def JW:List D->Option D:=fnP 8 J7
def kc:FS:=(ji (jx (dP<|jj je #[pV 0,pV 1,pI 6])<|jc [] 2)<|ji (sIf (dPT<|jl<|p2 kZ (pV 2)<|pI 0) (yy<|dP<|pI 0)
 jQ)<|ji (sIf (dPT<|jl<|p2 jjK (pV 2)<|pI 4) (yy<|dP<|jj je #[pV 0,p2 jg (pV 1)<|pI 1,pI 45])
 jQ)<|ji (sIf (dPT<|jl<|p2 kZ (pV 2)<|pI 4) (yy<|dP<|p2 yj (jj jv #[pV 0,p2 jg (pV 1)<|pI 2])<|jj je #[pV 0,p2 jg (pV 1)<|pI 1,pI 30])
 jQ)<|yy<|dP<|p2 JM (p2 jf (p2 jg (pV 0)<|Yp #[pI 0])<|p2 JM (pV 1)<|p2 jg (pCB k8 #[pV 0])<|pI 1)<|p2 Vs (pI 10)<|pI 30)
def yi:List D->Option D:=fnP 3 kc
def qG:FS:=(sIf (dPT<|jl<|p2 kZ (p2 jf (pV 8)<|pI 0)<|pS [115,104,97,114,101]) (JZ<|yL jF 6 0 "take_share" #[pF<|pV 7,pF<|p2 jf (pV 8)<|pI 1])<|JZ<|yL jn 6 0 "take_rule" #[pF<|pV 7,pF<|pV 8])
def Kr:FS:=(JZ<|yL yh 6 0 "take_guard" #[pF<|pV 7,pF<|p2 jf (pV 9)<|pI 0,pF<|p2 jf (pV 9)<|pI 1])
def jgK:FS:=(ji (jx (dP<|jj vx #[pV 0,pV 1])<|jc [] 5)<|ji (jx (dP<|uV yH 0 #[pF<|pV 0,pF<|pV 2,pF<|pV 3,pF<|pV 4])<|jc [] 6)<|ji (JZ<|yL jG 6 0 "take_parts" #[pF<|p2 jf (pV 5)<|pI 1])<|ji (JB (jj0 #[pF<|p2 jf (pV 5)<|pI 2] (pCB k8 #[p2 jf (pV 5)<|pI 1])) (gT 2<|gC (jc [] 7)<|gC (jc [] 8) gN) qG)<|ji (JB (Jf #[pF<|p2 jf (pV 0)<|pI 6]) (gT 2<|gC (jc [] 7)<|gC (jc [] 9) gN) Kr)<|yy<|jjF 6 0 "entries" "moves"<|JU jA 0 "book_behind" (pV 6) #[pV 2])
def wA:List D->Option D:=fnP 10 jgK
def vy:FS:=(sIf (dPT<|jl<|p2 kZ (jj je #[pV 0,p2 jg (pV 1)<|pV 7,pI 4])<|pI 0) (zg 6<|yb #[pF<|pV 8,p2 jg (pI 1)<|jj je #[pV 0,p2 jg (p2 jg (pV 1)<|pI 5)<|pV 7,pI 10]])
 jQ)
def kR:FS:=(zg 9<|jj JW #[pV 0,p2 jg (p2 jg (pV 1)<|pI 10)<|p2 yj (pI 5)<|pV 7,pV 3,pV 4,pV 5])
def YH:FS:=(ji (jx (dP<|Yp pN)<|jc [] 6)<|ji (JB (Jf #[pF<|pV 3]) (gT 2<|gC (jc [] 7)<|gC (jc [] 8) gN) vy)<|ji (jx (dP<|Yp pN)<|jc [] 9)<|ji (JB (Km #[jj je #[pV 0,p2 jg (pV 1)<|pI 8,pI 6]]) (jc [] 7) kR)<|ji (jx (dP<|pF<|p2 jf (pV 3)<|jj je #[pV 0,p2 jg (pV 1)<|pI 9,pCB k8 #[pV 3]])<|jc [] 10)<|sFz 6<|yy<|dP<|yb #[pF<|pV 2,pF<|pV 6,p2 jg (pV 9)<|Yp #[yb #[pS [114,101,115,116],pF<|pV 10]]])
def kJ:List D->Option D:=fnP 11 YH
def ve:FS:=(ji (jx (dP<|jj yi #[pV 0,p2 jg (p2 jg (pI 2000)<|p2 yj (pI 37)<|pV 3)<|p2 yj (pI 7)<|pV 6])<|jc [] 7)<|zg 5<|p2 yj (pV 7)<|pCB zw #[p2 kZ (jj je #[pV 0,p2 jg (p2 jg (pI 3000)<|p2 yj (pI 5)<|pV 3)<|pV 6,pI 4])<|pI 0])
def vN:FS:=(ji (jx (dP<|ya (Km #[pV 1]) (jc [] 0) qT (jj yi #[pV 1,p2 jg (p2 jg (pI 1000)<|p2 yj (pI 37)<|pV 2)<|p2 yj (pI 7)<|pV 0]) [none,some 0,some 3])<|jc [] 4)<|ji (jx (dP<|Yp pN)<|jc [] 5)<|ji (JB (Km #[pV 1]) (jc [] 6) ve)<|sFz 4<|sFz 5<|zg 2<|yb #[pF<|pV 4,pF<|pV 5])
def VO:FS:=(ji (jx (dP<|Yp pN)<|jc [] 2)<|ji (JB (Km #[pCB jaa #[pCB k8 #[pV 0],pI 20]]) (jc [] 3) vN)<|yy<|dMv 2)
def kg:List D->Option D:=fnP 8 VO
def V2:FS:=(ji (jx (dP<|jj Ks #[pV 0,pV 1,pV 4])<|jc [] 5)<|ji (jx (dP<|jj vE #[pV 0,pV 1])<|jc [] 6)<|ji (sFz 5<|jx (dP<|jj wA #[pV 0,pV 6,jj kN #[pV 0,p2 jf (pV 5)<|pI 1],pV 3,pV 2])<|jc [] 7)<|ji (jx (dP<|ya (Jb<|p2 jf (pV 5)<|pI 0) (jc [] 0) qT (p2 jg (yb #[pF<|p2 jf (pV 1)<|pI 0,pS []])<|pV 0) [none,some 0])<|jc [] 8)<|ji (jlc 7 (lIx 0 jU)<|jjH 8<|ya (Jb<|p2 jf (pV 7)<|pI 0) (jc [] 0) qT (p2 jg (yb #[pF<|p2 jf (pV 1)<|pI 0,pF<|pV 2])<|pV 0) [none,some 0,some 6])<|jlc 7 (lIx 2 jU)<|yy<|jaR<|yK (jfy 7<|lIx 1 jU)<|yK (dP<|jj yU #[pV 2,p2 jf (pV 0)<|pI 0,p2 jf (pV 7)<|pI 2])<|yK (jfy 7<|lIx 2 jU)<|yK (dMv 8) jdW)
def ku:List D->Option D:=fnP 9 V2
def vV:FS:=(zg 6<|yb #[pF<|pV 8,jj jv #[pV 0,p2 jg (p2 jg (pV 1)<|pI 20)<|pV 7],jj jv #[pV 0,p2 jg (p2 jg (pV 1)<|pI 24)<|pV 7]])
def vT:FS:=(zg 10<|jj kJ #[pV 0,p2 jg (p2 jg (pV 1)<|p2 yj (pI 60)<|pV 7)<|pI 30,pV 11,pV 3,pV 4,pV 5])
def vS:FS:=(ji (jx (dP<|pF<|p2 jf (pV 3)<|jj je #[pV 0,p2 jg (p2 jg (pV 1)<|pI 3)<|pV 7,pCB k8 #[pV 3]])<|jc [] 8)<|ji (jx (dP<|pF<|p2 jf (pV 9)<|jj je #[pV 0,p2 jg (p2 jg (pV 1)<|pI 5)<|pV 7,pCB k8 #[pV 9]])<|jc [] 13)<|zg 12<|yb #[pF<|pV 8,p2 jg (pI 1)<|jj je #[pV 0,p2 jg (p2 jg (pV 1)<|pI 7)<|pV 7,pI 3],pF<|pV 13])
def vg:FS:=(sIf (dPT<|jl<|p2 Yo (pCB k8 #[pV 4])<|pI 0) (zg 15<|yb #[pF<|p2 jf (pV 4)<|jj je #[pV 0,p2 jg (p2 jg (pV 1)<|pI 11)<|pV 7,pCB k8 #[pV 4]],pF<|pV 8])
 jQ)
def VS:FS:=(ji (jx (dP<|Yp pN)<|jc [] 6)<|ji (JB (Jf #[pF<|pV 3]) (gT 2<|gC (jc [] 7)<|gC (jc [] 8) gN) vV)<|ji (jx (dP<|pSl (Yp #[pS [98,98],pS [99,107],pS [100,100]]) oN<|oS<|p2 jg (pI 1)<|jj je #[pV 0,p2 jg (pV 1)<|pI 1,pI 3])<|jc [] 9)<|ji (jx (dP<|Yp pN)<|jc [] 10)<|ji (sFz 9<|JB (Jf #[pF<|pV 9]) (gT 2<|gC (jc [] 7)<|gC (jc [] 11) gN) vT)<|ji (jx (dP<|Yp pN)<|jc [] 12)<|ji (JB (Km #[jj je #[pV 0,p2 jg (pV 1)<|pI 2,pI 3]]) (jc [] 7) vS)<|ji (jx (dP<|jj qF #[pV 10,pV 3])<|jc [] 14)<|ji (jx (dP<|Yp pN)<|jc [] 15)<|ji (JB (Jf #[pSl (pV 14) oN<|oS<|jj je #[pV 0,p2 jg (pV 1)<|pI 10,pI 4]]) (gT 2<|gC (jc [] 7)<|gC (jc [] 8) gN) vg)<|ji (jx (dP<|ya (Jf #[pF<|pV 4]) (gT 2<|gC (jc [] 0)<|gC (jc [] 1) gN) qT (yb #[pF<|pV 1,jj jv #[pV 2,p2 jg (p2 jg (pV 3)<|pI 16)<|pV 0]]) [none,none,some 0,some 1])<|jc [] 16)<|sFz 6<|sFz 16<|sFz 10<|sFz 12<|sFz 15<|yy<|dP<|yb #[pF<|pV 2,pF<|pV 6,pF<|pV 16,jj kq #[pV 0,p2 jg (pV 1)<|pI 13,pV 3],pF<|pV 10,pF<|pV 12,pF<|pV 15])
def qL:List D->Option D:=fnP 17 VS
def vQ:FS:=(Qj 6 (p2 yB (pV 8)<|pV 14) (λi j=>i+j)<|pV 15)
def qw:FS:=(ji (jx (dP<|p2 jg (p2 jf (pV 2)<|pV 9)<|p2 jf (pV 6)<|pV 9)<|jc [] 11)<|ji (jx (dP<|pI 0)<|gIx [] 6<|pV 9)<|ji (sFz 5<|jx (dP<|jj ku #[pV 10,p2 jf (p2 jf (pV 1)<|pI 0)<|pV 9,pV 5,pV 11,p2 jf (pV 3)<|pV 9])<|jc [] 12)<|ji (zB 4<|jfy 12<|lIx 0 jU)<|ji (jx (jfy 12<|lIx 1 jU)<|jc [] 5)<|ji (sFz 12<|JB (pIt<|pF<|p2 jf (pV 12)<|pI 2) (gT 3<|gC (jc [] 13)<|gC (jc [] 14)<|gC (jc [] 15) gN) vQ)<|jjH 7<|p2 jf (pV 12)<|pI 3)
def VJ:FS:=(ji (jx (dP<|Yp pN)<|jc [] 4)<|ji (jx (dP<|pCB vX #[p2 jf (pV 1)<|pI 1])<|jc [] 5)<|ji (jx (dP<|pCB vX #[p2 jf (pV 1)<|pI 2])<|jc [] 6)<|ji (jx (dP<|Yp pN)<|jc [] 7)<|ji (jx (dP<|pCB vh #[ya (Jf #[pF<|pV 0]) (gT 2<|gC (jc [] 0)<|gC (jc [] 1) gN) qT (yb #[pF<|p2 jf (pV 1)<|pI 0,pF<|pV 0]) [none,none]])<|jc [] 8)<|ji (JB (Jf #[pF<|pV 0]) (gT 2<|gC (jc [] 9)<|gC (jc [] 10) gN) qw)<|yy<|jaR<|yK (jaR<|yK (dMv 4)<|yK (dMv 5)<|yK (dMv 6) jdW)<|yK (dMv 7) jdW)
def yw:List D->Option D:=fnP 16 VJ
def vU:FS:=(ji (jx (dP<|pSl (pV 2) (oS<|p2 jg (pI 3)<|p2 yj (pI 4)<|pV 5)<|oS<|p2 jg (pI 7)<|p2 yj (pI 4)<|pV 5)<|jc [] 6)<|ji (jx (dP<|pSl (pV 6) oN<|oS<|p2 jg (pI 1)<|jj je #[pV 0,p2 jg (pI 905)<|pV 5,pI 3])<|jc [] 7)<|ji (jx (dP<|pSl (Yp #[pF<|p2 jf (pV 6)<|pI 3,p2 jg (p2 jf (pV 6)<|pI 3)<|pS [104]]) oN<|oS<|jj je #[pV 0,p2 jg (pI 910)<|pV 5,pI 3])<|jc [] 8)<|ji (jx (dP<|ya (Jb<|pSl (pV 2) oN<|oS<|pV 3) (jc [] 0) (jl<|p2 Vq (pV 0)<|p2 jf (pV 1)<|pV 2) (pF<|pV 0) [none,some 2,some 5])<|jc [] 9)<|sFz 9<|sFz 8<|sFz 7<|zg 4<|jj qL #[pV 0,p2 yj (pI 200)<|pV 5,p2 jf (pV 2)<|pV 5,pV 7,pV 8,pV 9])
def VL:FS:=(ji (jx (dP<|jj kH #[pV 0])<|jc [] 2)<|ji (jx (dP<|p2 jg (pI 1)<|jj je #[pV 0,pI 904,pV 1])<|jc [] 3)<|ji (jx (dP<|Yp pN)<|jc [] 4)<|ji (JB (Km #[pV 3]) (jc [] 5) vU)<|yy<|dMv 4)
def ki:List D->Option D:=fnP 10 VL
def Kg:FS:=(jx (dP<|jj yw #[pV 0,pV 2,pV 4,pV 5])<|jc [3,2,0,1] 6)
def jkQ:FS:=(ji (jx (dP<|jj Va #[pV 0])<|jc [] 2)<|ji (jx (dP<|Yp pN)<|jc [] 3)<|ji (sFz 2<|jna (pIt<|pF<|pV 1) 3 6 2 [3,2,0,1] (lIx 0 jU) (gT 2<|gC (jc [3,2,0,1] 4)<|gC (jc [3,2,0,1] 5) gN) Kg)<|yy<|dMv 3)
def jc2:List D->Option D:=fnP 7 jkQ
def Jh(vM:List D->Option D):FS:=(ji (sIf (dPT<|jl<|jaG "list" "tuple"<|pV 0) (yy<|dP<|pCB jmE #[ya (Jb<|pV 0) (jc [] 0) qT (jj vM #[pV 0]) [none]])
 jQ)<|yy<|dP<|pOr (jdX "str"<|pV 0)<|jj YD #[pV 0])
def yo:Nat->List D->Option D
 | 0=>λ_=>none
 | n+1=>fnP 1<|Jh<|yo n
def vM:List D->Option D:=yo 8
def KR:FS:=(ji (jx (dP<|jj yx #[pV 4])<|jc [3,0,1,2] 7)<|ji (jx (dP<|jj yw #[pV 1,pV 4,p2 jf (pV 5)<|pI 0,p2 jf (pV 5)<|pI 1])<|jc [3,0,1,2] 8)<|ji (sIf (dPT<|qOr (jmk<|jl<|jdX "tuple"<|pV 8)<|qOr (jl<|p2 Vq (pCB k8 #[pV 8])<|pI 2)<|jl<|p2 Vq (pV 4)<|pV 7) (yy<|dP<|pC<|.bl false)
 jQ)<|ji (JZ<|yD jV 4 jU pN)<|ji (sIf (dPT<|jl<|p2 Vq (pV 8)<|pV 6) (yy<|dP<|pC<|.bl false)
 jQ)<|ji (sIf (dPT<|qOr (jmk<|jl<|jj vM #[pV 8])<|jmk<|jl<|jj yV #[pV 1,p2 jf (pV 8)<|pI 1]) (yy<|dP<|pC<|.bl false)
 jQ)<|ji (jx (dP<|jj yx #[p2 jf (pV 8)<|pI 0])<|jc [3,0,1,2] 4)<|ji (JZ<|yD jV 8 (lIx 0 jU) pN)<|jdx 8<|lIx 1 jU)
def jhw:FS:=(ji (jx (dP<|jj ki #[pV 0,pI 3])<|jc [] 1)<|ji (jx (dP<|jj kg #[pV 0,pCB k8 #[pV 1]])<|jc [] 2)<|ji (jx (dP<|jj jc2 #[pV 1,pV 2])<|jc [] 3)<|ji (jx (dP<|jj Va #[pV 1])<|jc [] 4)<|ji (sFz 1<|sFz 2<|jaz 3 [0,1,2]<|JB (pZN 2 #[pF<|pV 2,pF<|pV 3]) (gT 2<|gC (jc [3,0,1,2] 5)<|gC (jc [3,0,1,2] 6) gN) KR)<|ji (sIf (dPT<|qOr (jl<|p2 Vq (pCB k8 #[pV 3])<|pCB k8 #[pV 2])<|qOr (jl<|p2 Vq (pV 1)<|jj ki #[pV 0,pI 3])<|jl<|p2 Vq (pV 2)<|jj kg #[pV 0,pCB k8 #[pV 1]]) (yy<|dP<|pC<|.bl false)
 jQ)<|ji (sIf (dPT<|jl<|p2 Vq (jj jc2 #[pV 1,pV 2])<|pV 3) (yy<|dP<|pC<|.bl false)
 jQ)<|ji (jaz 3 [0,1,2]<|jx (dP<|ya (Jb<|pSl (pV 3) (oS<|pI 1) oN) (gT 2<|gC (jc [] 0)<|gC (jc [] 1) gN) qT (yb #[jj yx #[pV 0],pCB vX #[pV 1]]) [none,none])<|jc [3,0,1,2] 9)<|ji (sIf (dPT<|jl<|p2 Yo (pCB k8 #[pV 3])<|pI 0) (ji (JZ<|yD jV 3 (lIx 0<|lIx 0 jU) pN)<|jdx 3<|lIx 1<|lIx 0 jU)
 jQ)<|sFz 3<|yy<|dP<|p2 kZ (pSl (pV 3) (oS<|pI 1) oN)<|pV 9)
def jdl:List D->Option D:=fnP 10 jhw
def jo1(st:Stmt):List Str:=((ju st).names.filter λp=>decide (p.2=.local)||decide (p.2=.cell)).map (·.1)
abbrev Jg(K:W4)(mg:W6)(x:Str)(st:Stmt)(n:Nat):Prop:=jgm K mg x st (jo1 st) n
abbrev jiz(K:W4)(C:Addr)(x qual:Str)(st:Stmt)(n:Nat):Prop:=jml K C x qual st (jo1 st) n
structure Txt(P:Program)(w:World)(K:W4)(mg:W6)(cl:Nat->Addr):Prop where
 C0:Cls K (cl 0)
 mk0:PySem.W.makesIn K (cl 0)=true
 kc0:PySem.W.keepIn K (.ref<|cl 0)=true
 mg0:mg "Fall" = some (.ref<|cl 0)
 aa:NoAttr K (cl 0) "owed"
 ab:NoAttr K (cl 0) "sizes"
 ac:NoAttr K (cl 0) "marks"
 ae:NoAttr K (cl 0) "levels"
 af:NoAttr K (cl 0) "loans"
 ag:NoAttr K (cl 0) "pool_name"
 ah:NoAttr K (cl 0) "cash"
 ai:NoAttr K (cl 0) "entries"
 aj:NoAttr K (cl 0) "served"
 ak:NoAttr K (cl 0) "moves"
 al:mg "all" = none
 am:mg "bool" = none
 ao:mg "dict" = none
 ap:mg "enumerate" = none
 aq:mg "int" = none
 ar:mg "isinstance" = none
 au:mg "len" = none
 av:mg "list" = none
 aw:mg "max" = none
 ax:mg "min" = none
 ay:mg "range" = none
 az:mg "sorted" = none
 aA:mg "str" = none
 aB:mg "sum" = none
 aC:mg "tuple" = none
 aD:mg "zip" = none
 aE:Jg K mg "tenths_of" (top 2) 1
 aG:Jg K mg "order_named" (top 4) 2
 aH:Jg K mg "look_order" (top 5) 2
 aI:Jg K mg "loans_by_ends" (top 6) 1
 aJ:Jg K mg "move_loan" (top 7) 5
 aK:jgm K mg "shared" (top 10) ["needs","cash","whole","gets","left","at","need"] 2
 aL:jiz K (cl 0) "need_of" "Fall.need_of" (qh (top 13) 3) 2
 aM:jiz K (cl 0) "take_guard" "Fall.take_guard" (qh (top 13) 6) 4
 aN:jiz K (cl 0) "book_behind" "Fall.book_behind" (qh (top 13) 7) 2
 aO:Jg K mg "eaten" (top 15) 3
 aP:Jg K mg "begun_book" (top 18) 1
 aQ:Jg K mg "with_dues" (top 20) 2
 aR:Jg K mg "_law_draw" (top 25) 3
 aS:Jg K mg "_law_free" (top 31) 2
 aT:Jg K mg "_law_whole" (top 36) 1
 aU:Jg K mg "_law_copy" (top 38) 1
 aV:Jg K mg "_law_spoilt" (top 39) 1
 aW:Jg K mg "_law_in_order" (top 40) 2
 aX:Jg K mg "asked" (top 1) 2
 aY:Jg K mg "loans_behind" (top 8) 3
 aZ:jiz K (cl 0) "__init__" "Fall.__init__" (qh (top 13) 0) 5
 b0:jiz K (cl 0) "give" "Fall.give" (qh (top 13) 4) 4
 b3:jml K (cl 0) "take_share" "Fall.take_share" (qh (top 13) 5) ["self","place","names","needs","gets","full","name","need","got"] 3
 b7:Jg K mg "begun" (top 17) 1
 b8:Jg K mg "order_now" (top 19) 2
 b9:Jg K mg "_law_coins" (top 26) 2
 ba:Jg K mg "_law_names" (top 27) 1
 bc:Jg K mg "_law_some" (top 28) 3
 be:jiz K (cl 0) "take_parts" "Fall.take_parts" (qh (top 13) 1) 2
 bf:jiz K (cl 0) "take_rule" "Fall.take_rule" (qh (top 13) 2) 3
 bg:Jg K mg "_law_rule" (top 29) 5
 bh:Jg K mg "_law_flow" (top 34) 2
 bi:Jg K mg "fell" (top 12) 5
 bj:Jg K mg "_law_order" (top 30) 6
 bm:jgm K mg "_law_days" (top 35) ["_law_script","_law_many","_law_days_here","_law_k","_law_incomes","_law_losses","_law_at","_law_loss"] 2
 bn:Jg K mg "pool_day" (top 21) 5
 bo:Jg K mg "_law_pool" (top 32) 6
 bp:jgm K mg "day_done" (top 22) ["deal","state","incomes","losses","books","loans","waiting","log","at_of","at","pool","came","told","kind","other","coins"] 4
 bq:Jg K mg "_law_deal" (top 33) 2
 br:Jg K mg "ran" (top 23) 2
 bt:Jg K mg "_law_plain" (top 37) 1
 bu:Jg K mg "law" (top 41) 1
section
variable {P:Program}{w:World}{K:W4}{mg:W6}{cl:Nat->Addr}(T:Txt P w K mg cl)
include T
set_option maxHeartbeats 40000000 in
def jk8:((((NP P w cl T.aE 1 kP/\NP P w cl T.aG 1 vx)/\NP P w cl T.aH 1 yX/\NP P w cl T.aI 1 yd)/\(NM P w cl T.aJ 1 yq/\NP P w cl T.aK 1 qM)/\OP P w cl mg T.aL 1 jh/\OM P w cl mg T.aM 1 yh/\OP P w cl mg T.aN 1 jA)/\((NP P w cl T.aO 1 Ks/\NP P w cl T.aP 1 va)/\NP P w cl T.aQ 1 kN/\NP P w cl T.aR 1 je)/\(NP P w cl T.aS 1 qF/\NP P w cl T.aT 1 YD)/\NP P w cl T.aU 1 yx/\NM P w cl T.aV 1 jV/\NP P w cl T.aW 1 yV) /\
 (((NP P w cl T.aX 2 YK/\NP P w cl T.aY 2 yU)/\OM P w cl mg T.aZ 2 yH/\OM P w cl mg T.b0 2 jq/\OM P w cl mg T.b3 2 jF)/\(NP P w cl T.b7 2 Va/\NP P w cl T.b8 2 vE)/\NP P w cl T.b9 2 jv/\NP P w cl T.ba 2 kH/\NP P w cl T.bc 2 kq) /\
 ((OM P w cl mg T.be 3 jG/\OM P w cl mg T.bf 3 jn)/\NP P w cl T.bg 3 JW/\NP P w cl T.bh 3 yi) /\
 (NP P w cl T.bi 4 wA/\NP P w cl T.bj 4 kJ/\NP P w cl T.bm 4 kg) /\
 (NP P w cl T.bn 5 ku/\NP P w cl T.bo 5 qL) /\
 (NP P w cl T.bp 6 yw/\NP P w cl T.bq 6 ki) /\
 NP P w cl T.br 7 jc2 /\
 NP P w cl T.bt 9 vM /\
 NP P w cl T.bu 10 jdl:=by
 cases T;refine jf4 ?_ λa=>jf4 ?_ λb=>jf4 ?_ λc=>jf4 ?_ λe=>jf4 ?_ λi=>jf4 ?_ λk=>jf4 ?_ λl=>jf4 ?_ λm=>?_
 all_goals repeat' apply And.intro
 all_goals
  (first | refine jpH (by assumption) (λ_=>rfl) (λj f fd S F _ base=>?_) _ | refine okN (by assumption) λf fd S F base=>?_ | refine okO (by assumption) λf fd S F base=>?_)
  (first | refine' jn4 F.fn S rfl λg A outer s H E h=>?_ | refine' jkg F.fn S rfl λg A outer s H E h=>?_)
  apply Exists.intro
  repeat' first | exact rfl | (show QB _ _ _ _ _;first | apply jfr | apply qI | apply jo3 | apply jlN | apply jl7 | apply jiX | apply QK.ix | apply QK.fld | apply QP.bb) | (show QBs _ _ _ _ _;first | apply jh9 | apply jlr) | (show QSs _ _ _ _ _ _;first | apply jgP | apply jfM | apply jgU) | (show QPs _ _ _ _ _;first | apply jgZ | apply jmZ) | (show QP _ _ _ _ _;first | ((with_reducible show QP _ _ _ _ (pCB vh _));refine' Y9 (jaD rfl) jhZ ?_ jaB ?_) | ((with_reducible show QP _ _ _ _ (pCB vX _));refine' Y9 Yi jcK ?_ JS ?_) | ((with_reducible show QP _ _ _ _ (pCB jdJ _));refine' J8 (jdn rfl) jjR ?_ jbm ?_) | ((with_reducible show QP _ _ _ _ (pCB jaa _));refine' J8 (jaU rfl) jlu ?_ jcM ?_) | ((with_reducible show QP _ _ _ _ (pCB jkn _));refine' J8 (jbL rfl) jlu ?_ jbN ?_) | ((with_reducible show QP _ _ _ _ (pCB vX _));refine' Y9 (QK.list_of (K:=K) rfl) jcK ?_ JS ?_) | ((with_reducible show QP _ _ _ _ (pCB Qa _));refine' Y9 JH jfH ?_ qY ?_) | ((with_reducible show QP _ _ _ _ (pCB jag _));refine' jes (QK.tuple_of (K:=K) rfl) jht ?_ qY ?_) | ((with_reducible show QP _ _ _ _ (pCB Q7 _));refine' J8 uM jeH ?_ xf ?_) | ((with_reducible show QP _ _ _ _ (pCB zw _));refine' Y9 jdr jhk ?_ QY ?_) | ((with_reducible show QP _ _ _ _ (pCB jmE _));refine' J8 (jeS rfl) jkd ?_ jdk ?_) | ((with_reducible show QP _ _ _ _ (jdX "int" _));refine' jfE (T:="int") (by decide) ?_ ?_ QY ?_) | ((with_reducible show QP _ _ _ _ (jdX "bool" _));refine' jfE (T:="bool") (by decide) ?_ ?_ jay ?_) | ((with_reducible show QP _ _ _ _ (jdX "str" _));refine' jfE (T:="str") (by decide) ?_ ?_ jbO ?_) | ((with_reducible show QP _ _ _ _ (jdX "tuple" _));refine' jfE (T:="tuple") (by decide) ?_ ?_ qY ?_) | apply jfW | apply jld | apply joO | apply qS | apply jnk | apply jon | apply joU | apply jjQ | apply jo0 | apply jnV | apply jhp | apply jpF | apply joh | apply jnY | apply jn7 | apply jpt | apply jeW | apply jov | apply jnG | apply jni | apply jkL | apply jor | apply jpm | apply jiC | apply jd8 | apply jnl | apply jl4 | apply jmc | apply jl0 | apply jkP | apply jms | apply jpG | apply QK.add | apply QK.call | apply QK.sl | apply jof | apply QB.f) | (show QE _ _ _ _ _;first | ((with_reducible show QE _ _ _ _ (dCB KC _));refine' jeU K7 jbi ?_ QV ?_) | apply jpP | apply jkx | apply jfF | apply jg1 | apply jmP | apply jhF | apply joq | apply jla | apply jop | apply QP.d) | (show QS _ _ _ _ _ _;first | apply jlk | apply jnT | apply jjX | apply QS.fz | apply jgF | apply zp (hsw:=by with_unfolding_all rfl) | apply jhT | apply jkR | apply jiw | apply jbR | apply jcb | apply jeO | apply jiL | apply jfR | apply jj8 | apply QS.fzP | apply jih | apply QS.lend | apply jgV | apply jfk | apply jeP | apply jiU | apply jhH | apply jbu | apply jlJ | apply jeA | apply jkS | apply jj5 | apply jgi) | (show QGs _ _ _ _ _ _;first | apply jel | apply jhb) | (show QT _ _ _ _ _;first | apply jmU | apply jmN | apply jls | apply QW.t) | (show QG _ _ _ _ _ _;first | apply jjt | apply jgn | apply QK.g_tup) | (show QL _ _ _ _ _ _;first | apply jfY | apply jmy | apply jmm) | (show QDs _ _ _ _ _;first | apply jhJ | apply jlb) | (show QIb _ _ _ _ _ _;first | apply jbt | apply QK.ib_any | apply QI.b') | (show QO _ _ _ _ _;first | apply jiB | apply jg9) | (show QI _ _ _ _ _ _;first | apply jjf | apply jkH | apply jjD | apply jkM | apply joK | apply jmb) | (show QW _ _ _ _ _;first | apply jlm | apply jjj | apply jnX | apply jki) | apply jft | apply jpO | apply jpN | apply c_ne | apply jpp | apply jpy | apply jpw | apply QK.c_notin | apply QK.c_ne | apply QK.list_of | apply QK.tuple_of | exact Or.inl rfl | exact Or.inr rfl | exact Or.inr (Or.inl rfl) | exact Or.inr (Or.inr rfl) | exact λ_=>rfl | exact λ_ _=>rfl | exact λ_ _ _=>rfl | exact h.mono (by decide) | exact h.mono (by first | exact M8 _ | exact Nat.le_add_left _ _ | exact N7 (by decide)<|Nat.le_add_right _ _) | apply jfu | exact S.nd | (show BlockOk (jX _ _ _ _ _ _ _) _ _ _;exact bkI S) | (show BlockOk _ _ _ _;exact bkN S) | exact PassesOwn.never | exact jmY | exact jlF | (intro _ _ _ _;first | show QP _ _ _ _ _ | show QG _ _ _ _ _ _ | show QIf _ _ _ _ _ | show QT _ _ _ _ _ | show QKv _ _ _ _ _ _) | exact⟨rfl,rfl,rfl,rfl⟩ | exact ndN (by decide +kernel) | decide +kernel | with_unfolding_all rfl | apply jdA | assumption | exact a.1.1.1.1 | exact a.1.1.1.2 | exact a.1.1.2.1 | exact a.1.1.2.2 | exact a.1.2.1.1 | exact a.1.2.1.2 | exact a.1.2.2.1 | exact a.1.2.2.2.1 | exact a.1.2.2.2.2 | exact a.2.1.1.1 | exact a.2.1.1.2 | exact a.2.1.2.1 | exact a.2.1.2.2 | exact a.2.2.1.1 | exact a.2.2.1.2 | exact a.2.2.2.1 | exact a.2.2.2.2.1 | exact a.2.2.2.2.2 | exact b.1.1.1 | exact b.1.1.2 | exact b.1.2.1 | exact b.1.2.2.1 | exact b.1.2.2.2 | exact b.2.1.1 | exact b.2.1.2 | exact b.2.2.1 | exact b.2.2.2.1 | exact b.2.2.2.2 | exact c.1.1 | exact c.1.2 | exact c.2.1 | exact c.2.2 | exact e.1 | exact e.2.1 | exact e.2.2 | exact i.1 | exact i.2 | exact k.1 | exact k.2 | exact l | exact m | apply jdO | apply jeY | apply jdA | apply joE | exact(jgF (cl:=cl) (pm:=[]) (jfr 3)<|QB.f<|jfr 6).sem | exact(jgi (cl:=cl) (pm:=[]) S.nd<|jmP<|jmm (z:=0)<|jfY<|jfr 6).sem | (show Pos;exact⟨0,0,0,0⟩)
end
def sq(h:f ρ=some (.nx ρ'))(k:g ρ'=r):ji f g ρ=r:=by
 rw[jgp,h];exact k
def lpF(h:(G x ρ).bind f=some (.nx ρ2)):jI G f (x::xs) ρ=jI G f xs ρ2:=by
 refine ob h λr a b=>?_;rw[jK,a,L4,b];rfl
def cpE(h:G x ρ=some ρ1)(k:p ρ1=some y):jL G qT p (x::xs) ρ=(jL G qT p xs ρ1).bind λys=>some (y::ys):=by
 rw[vA,h,L4,qT,L4,cond_true,k];rfl
def lpE(h:G x ρ=some ρ1)(k:f ρ1=some (.nx ρ2)):jI G f (x::xs) ρ=jI G f xs ρ2:=by
 rw[jK,h,L4,k];rfl
noncomputable abbrev sc(ns:List Int):D:=.lst false<|ns.map D.int
noncomputable def jei(ns:List Int)(k:Int):Int:=ns.getD (k%ns.length).toNat 0
def drw(ns:List Int)(k many:Int):Int:=(jei ns k%2147483647+7*k+3)*(48271+1103*k*k)%2147483629/64%many
def j8(ns:List Int)(k:Int)  (h:0<many):0<=drw ns k many:=U0 _ ∅
def yc(ns:List Int)(k:Int)  (h:0<many):drw ns k many<many:=N9 _ h
def jb5(h:0<ns.length):jf (.lst false<|ns.map D.int) (.int<|k%(ns.length:Int))=some (.int<|jei ns k):=by
 have a:=U0 k (show(ns.length:Int)≠0 by lia);have g2:=N9 k (show 0<(ns.length:Int) by lia);have g3:(k%(ns.length:Int)).toNat<ns.length:=by lia
 rw[jfJ a<|by rw[L1];exact g2,List.getElem?_map];unfold jei;rw[List.getD_eq_getElem?_getD,X6 g3];rfl
def jlp{k:Int}(d:0<=k)(h1:k<=1000000):0<=1103*k*k/\1103*k*k<=1103*1000000*1000000/\0<=k*k/\k*k<=1000000*1000000:=by
 have a:0<=k*k:=Int.mul_nonneg d d;have b:k*k<=1000000*1000000:=Int.mul_le_mul h1 h1 d<|Int.le_trans d h1;have c:1103*k*k=1103*(k*k):=Int.mul_assoc _ _ _;exact⟨by lia,by lia,a,b⟩
def js{ns:List Int}{k many:Int}(b:0<=k)(h1:k<=1000000)(d:0<many):je [.lst false<|ns.map D.int,.int k,.int many]=some (.int<|drw ns k many):=by
 have f:=jlp b h1;by_cases h:ns=[]
 ·subst h;have e:drw [] k many=(0%2147483647+7*k+3)*(48271+1103*k*k)%2147483629/64%many:=rfl;rw[e];simp(disch:=lia) [je,jH,JX,vt,YC,JJ]
 ·have a:0<ns.length:=List.length_pos_iff.mpr h;have c:(0:Int)<(ns.length:Int):=by lia
  have e:=jb5 (ns:=ns) (k:=k) a;simp(disch:=lia) [je,jH,JX,vt,YC,JJ,e,a,drw]
def coi(ns:List Int)(k:Int):Int:=if 0<drw ns 900 3 then 1+drw ns k 9 else 1+(jei ns k%10 ^ 40+k*k+1)*48271 ^ 5%10 ^ 12
def KD(ns:List Int)(k:Int):1<=coi ns k:=by
 unfold coi;split
 ·have:=j8 ns k (many:=9) (by decide);lia
 ·lia
def ua(ns:List Int)(k:Int):coi ns k<=10 ^ 12:=by
 unfold coi;split
 ·have:=yc ns k (many:=9) (by decide);lia
 ·lia
def Jp{ns:List Int}{k:Int}(g:0<=k)(h1:k<=1000000):jv [.lst false<|ns.map D.int,.int k]=some (.int<|coi ns k):=by
 have j:=jlp g h1;have a:=js (ns:=ns) (k:=900) (many:=3) (by decide) (by decide) (by decide);have b:=js (ns:=ns) (k:=k) (many:=9) g h1 (by decide);have p1:Vs (.int 10) (.int 40)=some (.int<|10 ^ 40):=rfl;have p2:Vs (.int 48271) (.int 5)=some (.int<|48271 ^ 5):=rfl;have p3:Vs (.int 10) (.int 12)=some (.int<|10 ^ 12):=rfl;have key:∀ c:Int,0<=c%10 ^ 40/\c%10 ^ 40<10 ^ 40:=λc=>⟨by lia,by lia⟩;by_cases h:ns=[]
 ·subst h;have e:coi [] k=if 0<drw [] 900 3 then 1+drw [] k 9 else 1+(0%10 ^ 40+k*k+1)*48271 ^ 5%10 ^ 12:=rfl
  rw[e];simp only[List.map_nil] at a b;by_cases d:0<drw [] 900 3
  ·simp(disch:=lia) [jv,jH,vD,a,b,d]
  ·simp(disch:=lia) [jv,jH,vD,vt,YC,JJ,a,b,p1,p2,p3,d]
 ·have f:0<ns.length:=List.length_pos_iff.mpr h;have i:(0:Int)<(ns.length:Int):=by lia
  have e:=jb5 (ns:=ns) (k:=k) f;by_cases d:0<drw ns 900 3
  ·simp(disch:=lia) [jv,jH,vD,vt,YC,JJ,e,f,coi,a,b,d]
  ·simp(disch:=lia) [jv,jH,vD,vt,YC,JJ,e,f,coi,a,b,p1,p2,p3,d]
noncomputable def letters:List Nat:=[98,99,100,102,103,106,107,109,110,112,113,118,119,120,121,122]
def ahd(ns:List Int):List Nat:=(List.replicate (drw ns 901 2).toNat [122,113]).flatten
def bhd(ns:List Int):List Nat:=[118,122,98].take (drw ns 902 4).toNat
def VP(ns:List Int)(i:Nat):List Nat:=ahd ns++[letters.getD ((drw ns 903 16+(0+(i:Int)))%16).toNat 0]++bhd ns
def nmL(ns:List Int):List (List Nat):=(List.range 16).map (VP ns)
def jgo(ns:List Int):(ahd ns).length<=2/\∀ c∈ahd ns,c<1114112:=by
 have a:=j8 ns 901 (many:=2) (by decide);have b:=yc ns 901 (many:=2) (by decide);unfold ahd;have:drw ns 901 2=0\/drw ns 901 2=1:=by lia
 rcases this with e | e<;>rw[e]<;>decide
def jf8(ns:List Int):(bhd ns).length<=3/\∀ c∈bhd ns,c<1114112:=by
 unfold bhd;refine⟨by rw[X7];simp;lia,λc a=>?_⟩;have:=List.mem_of_mem_take a;simp only[M4,List.not_mem_nil,or_false] at this;rcases this with rfl | rfl | rfl<;>decide
def uO(i:Nat):letters.getD i 0<1114112:=jiW (by decide) (by decide)
def jh2(ns:List Int)(i:Nat):Wd (VP ns i)/\(VP ns i).length<=6:=by
 have a:=jgo ns;have b:=jf8 ns;have e:(VP ns i).length<=6:=by
  unfold VP;simp only[N4,M1,List.length_nil]
  lia
 refine⟨⟨by lia,λc d=>?_⟩,e⟩;unfold VP at d;rcases N2.mp d with d | d
 ·rcases N2.mp d with d | d
  ·exact a.2 c d
  ·rw[M7.mp d];exact uO _
 ·exact b.2 c d
def zP:∀ i j:Fin 16,letters.getD i.val 0=letters.getD j.val 0->i=j:=by decide
def wu(hi:i<16)(a:j<16)(h:VP ns i=VP ns j):i=j:=by
 unfold VP at h;have h:=List.append_cancel_right h;have h:=List.append_cancel_left h;have b:=j8 ns 903 (many:=16) (by decide);have c:=yc ns 903 (many:=16) (by decide);have q:letters.getD ((drw ns 903 16+(0+(i:Int)))%16).toNat 0=letters.getD ((drw ns 903 16+(0+(j:Int)))%16).toNat 0:=by injection h
 have:=zP ⟨((drw ns 903 16+(0+(i:Int)))%16).toNat,by lia⟩ ⟨((drw ns 903 16+(0+(j:Int)))%16).toNat,by lia⟩ q;have:=congrArg Fin.val this;simp only at this
 lia
def J6(ns:List Int):(nmL ns).length=16:=by simp[nmL]
def Q3(ns:List Int):(nmL ns).Nodup:=by
 unfold nmL;refine List.Pairwise.map _ (R:=λa b=>a∈List.range 16/\b∈List.range 16/\a≠b) ?_ ?_
 ·rintro a b ⟨c,d,e⟩ z;exact e<|wu (List.mem_range.mp c) (List.mem_range.mp d) z
 ·decide
def jbw(h:w∈nmL ns):Wd w/\w.length<=6:=by
 obtain⟨i,_,rfl⟩:=M5.mp h;exact jh2 ns i
def je0(ns:List Int):kH [.lst false<|ns.map D.int]=↑((nmL ns).map D.str):=by
 have c:=js (ns:=ns) (k:=901) (many:=2) (by decide) (by decide) (by decide);have d:=js (ns:=ns) (k:=902) (many:=4) (by decide) (by decide) (by decide);have e:=js (ns:=ns) (k:=903) (many:=16) (by decide) (by decide) (by decide);have f:=j8 ns 901 (many:=2) (by decide);have p:=yc ns 901 (many:=2) (by decide);have g:=j8 ns 902 (many:=4) (by decide);have c1:=j8 ns 903 (many:=16) (by decide);have r:=yc ns 903 (many:=16) (by decide);have h:yj (.str [122,113]) (.int<|drw ns 901 2)=some (.str<|ahd ns):=jmF (by decide) f ∅;have j:jdy none (some<|drw ns 902 4) (.str [118,122,98])=some (.str<|bhd ns):=by
  rw[jpk<|by decide,Jo _ g];rfl
 have t:=jgo ns;have u:=jf8 ns;have m:([98,99,100,102,103,106,107,109,110,112,113,118,119,120,121,122]:List Nat)=letters:=rfl;have b:jL (jc [] 0) qT (p2 jg (p2 jg (pV 1)<|p2 jf (pV 2)<|p2 JM (p2 jg (pV 3)<|pV 0)<|pI 16)<|pV 4) (Vt 0 16)
   (jt [none,some 2,some 1,some 4,some 3] [‹ns.map D.int›,some<|.str letters,some<|.str<|ahd ns,some<|.str<|bhd ns,some<|.int<|drw ns 903 16])=some ((List.range 16).map λi=>D.str<|VP ns i):=by
  refine jo (l:=List.range 16) (en:=λi=>.int<|0+(i:Int)) rfl (λρ=>∃ o,ρ=[o,some<|.str<|ahd ns,some<|.str letters,some<|.int<|drw ns 903 16,some<|.str<|bhd ns]) ?_ ⟨none,rfl⟩;rintro x v ρ ⟨o,rfl⟩;refine⟨_,rfl,?_,_,rfl⟩;have q:=jpx (s:=letters) (i:=(drw ns 903 16+(0+(x:Int)))%16) (by decide) ∅ (by have:letters.length=16:=rfl;lia);simp(disch:=first | lia | (simp;done) | (simp;lia)) [YC,q,jf6,VP,-Int.zero_add,-List.getD_eq_getElem?_getD]
 have n:jbJ [.int 16]=some (Vt 0 16):=qE (by decide) (by decide);have a:lim (Vt 0 16).length=true:=jb (by rw[yS];decide);have e7:((List.range 16).map λi=>D.str<|VP ns i)=(nmL ns).map D.str:=by unfold nmL;rw[U1];rfl
 rw[e7] at b;unfold kH;rw[jH];unfold YZ;rw[m];simp[c,d,e,h,j,n,a,b]
def ji1{ns:List Int}{k:Int}{C:W1}(q:0<=k)(h1:k<=100000)(r:C.length<=10)(p:C.Nodup):∃(S:W1),An4 (kq [.lst false<|ns.map D.int,.int k,.lst false<|C.map D.str]=↑(S.map D.str)) (∀ w∈S,w∈C) S.Nodup (S.length<=10):=by
 obtain⟨t,T,e,⟨g,j,rfl⟩,b⟩:=jfx (G:=gT 2<|gC (jc [] 4)<|gC (jc [] 5) gN) (f:=vR) (λ(a:W1) ρ=>∃ g j,ρ=[‹ns.map D.int›,some<|.int k,‹C.map D.str›,↑(a.map D.str),g,j]) 20 (C:=C) (s:=0) (acc:=[]) (ρ:=[‹ns.map D.int›,some<|.int k,‹C.map D.str›,some<|.lst true [],none,none]) (by
  rintro i c a ρ hi u v ⟨g,j,rfl⟩;have m:=js (ns:=ns) (k:=k+(i:Int)) (many:=3) ∅ ∅ (by decide);by_cases d:0<drw ns (k+(i:Int)) 3
  ·refine⟨_,_,rfl,?_,.inl ⟨some<|.int i,some<|.str c,rfl⟩⟩;simp(disch:=first | lia | (simp;done) | (simp;lia)) [vR,m,d,jb]
  ·refine⟨_,_,rfl,?_,.inr ⟨some<|.int i,some<|.str c,rfl⟩⟩;simp(disch:=first | lia | (simp;done) | (simp;lia)) [vR,m,d,jb]) ∅ (by simp;lia) ⟨none,none,rfl⟩
 rw[X5] at e;have n:=js (ns:=ns) (k:=k+9) (many:=2) ∅ ∅ (by decide);have o:T.Nodup:=p.sublist b;by_cases d:drw ns (k+9) 2=1
 ·refine⟨T.reverse,?_,λw l=>b.subset<|List.mem_reverse.mp l,(List.pairwise_reverse.mpr<|o.imp λh=>Ne.symm h),by have:=b.length_le;rw[List.length_reverse];lia⟩;rw[List.map_reverse];simp(disch:=first | lia | (simp;done) | (simp;lia)) [kq,jH,Yd,e,n,d,jb]
 ·refine⟨T,?_,λw l=>b.subset l,o,by have:=b.length_le;lia⟩;simp(disch:=first | lia | (simp;done) | (simp;lia)) [kq,jH,Yd,e,n,d,jb]
noncomputable abbrev yG:List Nat:=[115,104,97,114,101]
noncomputable abbrev qo:List Nat:=[114,101,112,97,121]
noncomputable abbrev jl3:List Nat:=[112,97,121]
noncomputable abbrev jcs:List Nat:=[102,105,108,108]
noncomputable abbrev Ja:List Nat:=[108,101,110,100]
noncomputable abbrev Vv:List Nat:=[98,97,99,107]
noncomputable abbrev jex:List Nat:=[114,101,115,116]
def jdC(C P O:W1)(kw w:List Nat):Prop:=((kw=jl3\/kw=qo\/kw=jex)/\w∈C)\/(kw=jcs/\w∈P)\/(kw=Vv/\w∈O)
inductive RuleS (C P O:W1):D->Prop where
 | two (kw w:List Nat) (hk:kw≠yG) (h1:Wd kw) (h2:Wd w) (hm:jdC C P O kw w):RuleS C P O (.tup [.str kw,.str w])
 | share (ws:W1) (hl:ws.length<=20) (h:∀ w∈ws,Wd w) (hm:∀ w∈ws,w∈C) (nd:ws.Nodup):RuleS C P O (.tup [.str yG,.tup (ws.map D.str)])
 | lend (w:List Nat) (i:Int) (h:Wd w) (hm:w∈O):RuleS C P O (.tup [.str [108,101,110,100],.str w,.int i])
def RuleS.fz(h:RuleS C P O d):QD.fz d=d:=by cases h<;>simp
def RuleS.frz(h:RuleS C P O d):QD.frz d=true:=by cases h<;>simp
def xw(h:RuleS C P O d):QD.clean d=true:=by cases h<;>simp
def RuleS.ok(h:RuleS C P O d)(n:Nat):okE (n+2) d=true:=by
 cases h with
 | two kw w e b c a=>show yA (n+1) [.str kw,.str w]=true;simp[yA,jS b.2,jS c.2]
 | share ws f h a nd=>show yA (n+1) [.str yG,.tup<|ws.map D.str]=true;simp[yA,jS (n:=n+1) (w:=yG)<|by decide,okE,Qd h]
 | lend w i h a=>show yA (n+1) [.str [108,101,110,100],.str w,.int i]=true;simp[yA,jS (n:=n+1) (w:=[108,101,110,100])<|by decide,jS h.2]
def qK(h:w.all (λc=>decide<|c<200)=true)(a:w.length<=30):Wd w:=⟨a,λc b=>by
 have:=X3<|List.all_eq_true.mp h c b;lia⟩
def jc7(h:C.Nodup):(j9 C (some<|-1) none++j9 C none (some<|-1)).Nodup:=by
 unfold j9;have e:HT.sIx C.length C.length (some<|-1)=HT.sIx C.length 0 (some<|-1):=rfl;rw[e,HT.sIx_none,HT.sIx_none];generalize HT.sIx C.length 0 (some<|-1)=m;have a:(C.drop m).take (C.length-m)=C.drop m:=List.take_of_length_le (by rw[List.length_drop];lia);rw[a,Nat.sub_zero,List.drop_zero];have p:(C.drop m++C.take m).Perm C:=List.perm_append_comm.trans (by rw[List.take_append_drop]);exact p.nodup_iff.mpr h
def sqE(h:f ρ=some (.nx ρ')):ji f g ρ=g ρ':=sq h rfl
def ji7{ns:List Int}{k:Int}{C P O:W1}(J:0<=k)(h1:k<=100000)(Y:0<C.length)(K:C.length<=10)(L:P.length<=10)(M:O.length<=10)(q:∀ w∈C,Wd w)(N:∀ w∈P,Wd w)(Q:∀ w∈O,Wd w)(A:C.Nodup):
  ∃ d,JW [.lst false<|ns.map D.int,.int k,.lst false<|C.map D.str,.lst false<|P.map D.str,.lst false<|O.map D.str]=some d/\RuleS C P O d:=by
 have B:=js (ns:=ns) (k:=k) (many:=9) J ∅ (by decide);have R:=js (ns:=ns) (k:=k+1) (many:=(C.length:Int)) ∅ ∅ ∅;have S:=j8 ns (k+1) (many:=(C.length:Int)) ∅;have T:=yc ns (k+1) (many:=(C.length:Int)) ∅;have E:=kI (o:=false) (l:=C) S T;have e:=yn (l:=C) (i:=(drw ns (k+1) (C.length:Int)).toNat) (d:=[]) ∅;have t:Wd (C.getD (drw ns (k+1) (C.length:Int)).toNat []):=q _ e;generalize C.getD (drw ns (k+1) (C.length:Int)).toNat []=w at E t e;have U:=j8 ns k (many:=9) (by decide);have V:=yc ns k (many:=9) (by decide);generalize drw ns k 9=kd at B U V;have s1:=kD false C none<|some 2;have s2:=kD false C (some<|-1) none;have W:=kD false C none<|some<|-1;have X:=ui (o:=true) (o':=true) (a:=j9 C (some<|-1) none) (b:=j9 C none<|some<|-1) (by have:=yW C (some<|-1) none;have:=yW C none<|some<|-1;lia);have f:RuleS C P O (.tup [.str [112,97,121],.str w]):=.two _ _ (by decide) (qK rfl<|by decide) t<|.inl ⟨.inl rfl,e⟩;have e2:J7 [‹ns.map D.int›,some<|.int k,‹C.map D.str›,‹P.map D.str›,‹O.map D.str›,none,none,none]=_:=(sqE (ρ':=[‹ns.map D.int›,some<|.int k,‹C.map D.str›,‹P.map D.str›,‹O.map D.str›,some<|.int kd,none,none])<|by simp[B]).trans (sqE (ρ':=[‹ns.map D.int›,some<|.int k,‹C.map D.str›,‹P.map D.str›,‹O.map D.str›,some<|.int kd,some<|.str w,none])<|by simp[R,E]);show ∃ d,(J7 [‹ns.map D.int›,some<|.int k,‹C.map D.str›,‹P.map D.str›,‹O.map D.str›,none,none,none]).bind Out.val=some d/\_;rw[e2];by_cases c:kd<3
 ·exact⟨_,by simp(disch:=lia) [c,jb],f⟩
 by_cases g:kd=3
 ·by_cases Z:1<C.length
  ·have j:(1:Int)<(C.length:Int):=by lia
   have F:=js (ns:=ns) (k:=k+2) (many:=2) ∅ ∅ (by decide);by_cases G:drw ns (k+2) 2=0
   ·refine⟨.tup [.str yG,.tup<|(j9 C none<|some 2).map D.str],?_,.share _ (by have:=yW C none<|some 2;lia) (λw h=>q w<|j7 h) (λw h=>j7 h)<|v9 A⟩;simp(disch:=lia) [F,c,g,j,G,s1,jb]
   ·refine⟨.tup [.str yG,.tup<|(j9 C (some<|-1) none++j9 C none (some<|-1)).map D.str],?_,.share _ ?_ (λw h=>(N2.mp h).elim (λz=>q w<|j7 z) (λz=>q w<|j7 z)) (λw h=>(N2.mp h).elim j7 j7)<|jc7 A⟩
    ·simp(disch:=lia) [F,c,g,j,G,s2,W,X,jb,-List.map_append]
    ·have:=yW C (some<|-1) none;have:=yW C none<|some<|-1;rw[N4];lia
  ·have j:¬ (1:Int)<(C.length:Int):=by lia
   refine⟨_,?_,f⟩;simp(disch:=lia) [c,g,j,jb]
 by_cases m:kd=4
 ·refine⟨.tup [.str qo,.str w],?_,.two _ _ (by decide) (qK rfl<|by decide) t<|.inl ⟨.inr<|.inl rfl,e⟩⟩;simp(disch:=lia) [c,g,m,jb]
 by_cases n:kd=5
 ·by_cases H:0<P.length
  ·have r:=js (ns:=ns) (k:=k+2) (many:=(P.length:Int)) ∅ ∅ ∅;have u:=j8 ns (k+2) (many:=(P.length:Int)) ∅;have v:=yc ns (k+2) (many:=(P.length:Int)) ∅;have s:=kI (o:=false) (l:=P) u v;refine⟨.tup [.str [102,105,108,108],.str<|P.getD (drw ns (k+2) (P.length:Int)).toNat []],?_,.two _ _ (by decide) (qK rfl<|by decide) (N _<|yn ∅)<|.inr<|.inl ⟨rfl,yn ∅⟩⟩;simp(disch:=lia) [r,s,c,g,m,n,H,jb,-List.getD_eq_getElem?_getD]
  ·refine⟨_,?_,f⟩;simp(disch:=lia) [c,g,m,n,H,jb]
 have x:5<kd:=by lia
 by_cases y:0<O.length
 ·have r:=js (ns:=ns) (k:=k+2) (many:=(O.length:Int)) ∅ ∅ ∅;have u:=j8 ns (k+2) (many:=(O.length:Int)) ∅;have v:=yc ns (k+2) (many:=(O.length:Int)) ∅;have s:=kI (o:=false) (l:=O) u v;have p:Wd (O.getD (drw ns (k+2) (O.length:Int)).toNat []):=Q _<|yn ∅;have c1:=Jp (ns:=ns) (k:=k+3) ∅ ∅;by_cases I:kd=8
  ·refine⟨.tup [.str [98,97,99,107],.str<|O.getD (drw ns (k+2) (O.length:Int)).toNat []],?_,.two _ _ (by decide) (qK rfl<|by decide) p<|.inr<|.inr ⟨rfl,yn ∅⟩⟩;simp(disch:=lia) [r,s,c,g,m,n,x,I,y,jb,-List.getD_eq_getElem?_getD]
  ·refine⟨.tup [.str [108,101,110,100],.str<|O.getD (drw ns (k+2) (O.length:Int)).toNat [],.int<|coi ns<|k+3],?_,.lend _ _ p<|yn ∅⟩;simp(disch:=lia) [r,s,c,g,m,n,x,I,y,c1,jb,-List.getD_eq_getElem?_getD]
 ·refine⟨_,?_,f⟩;simp(disch:=lia) [c,g,m,n,x,y,jb]
noncomputable abbrev W2:=List Nat×Int
noncomputable def e2(p:W2):D:=.tup [.str p.1,.int p.2]
def Jr(l:List W2):fzs (l.map e2)=l.map e2:=Jv λd hd=>by
 obtain⟨p,_,rfl⟩:=M5.mp hd;rfl
def jT(l:List W2):frzs (l.map e2)=true:=yE λd hd=>by
 obtain⟨p,_,rfl⟩:=M5.mp hd;rfl
def JY{l:List W2}(h:∀ p∈l,Wd p.1)(n:Nat):yA (n+1) (l.map e2)=true:=yJ λd hd=>by
 obtain⟨p,a,rfl⟩:=M5.mp hd;show yA n [.str p.1,.int p.2]=true;simp[yA,jS (h p a).2]
structure OrdS where
 nm:List Nat
 parts:List W2
 rules:List D
def vK(o:Bool)(x:OrdS):D:=.tup [.str x.nm,.lst false<|x.parts.map e2,.lst o x.rules]
structure OrdOk(C P O:W1)(x:OrdS):Prop where
 nm:Wd x.nm
 parts:∀ p∈x.parts,Wd p.1/\1<=p.2/\p.2<=10
 plen:x.parts.length<=10
 rules:∀ d∈x.rules,RuleS C P O d
 len:x.rules.length<=10
 JR:∃ R w,x.rules=R++[.tup [.str jex,.str w]]
def OrdOk.fzr(h:OrdOk C P O x):fzs x.rules=x.rules:=Jv λd hd=>(h.rules d hd).fz
def OrdOk.frzr(h:OrdOk C P O x):frzs x.rules=true:=yE λd hd=>(h.rules d hd).frz
def OrdOk.fz(h:OrdOk C P O x)(o:Bool):QD.fz (vK o x)=vK false x:=by
 simp[vK,h.fzr,Jr]
def OrdOk.frz(h:OrdOk C P O x):QD.frz (vK false x)=true:=by
 simp[vK,h.frzr,jT]
def OrdOk.ok(h:OrdOk C P O x)(o:Bool)(n:Nat):okE (n+4) (vK o x)=true:=by
 show yA (n+3) [.str x.nm,.lst false<|x.parts.map e2,.lst o x.rules]=true;have a:okE (n+3) (.lst false<|x.parts.map e2)=true:=JY (λp c=>(h.parts p c).1)<|n+1;have b:okE (n+3) (.lst o x.rules)=true:=yJ λd hd=>(h.rules d hd).ok n;simp[yA,jS h.nm.2,a,b]
def jfj{ns:List Int}{k:Int}{nm:List Nat}{C P O:W1}(h0:0<=k)(h1:k<=90000)(J:0<C.length)(m:C.length<=10)(n:P.length<=10)(q:O.length<=10)(K:Wd nm)(r:∀ w∈C,Wd w)(L:∀ w∈P,Wd w)(M:∀ w∈O,Wd w)(N:C.Nodup):
  ∃(x:OrdS),An3 (kJ [.lst false<|ns.map D.int,.int k,.str nm,.lst false<|C.map D.str,.lst false<|P.map D.str,.lst false<|O.map D.str]=some (vK true x)) (x.nm=nm) (OrdOk C P O x):=by
 obtain⟨Q,T,e,⟨g,h,rfl⟩,s,R⟩:=kz (G:=gT 2<|gC (jc [] 7)<|gC (jc [] 8) gN) (f:=vy) (λ(a:List W2) ρ=>∃ g h,ρ=[‹ns.map D.int›,some<|.int k,some<|.str nm,‹C.map D.str›,‹P.map D.str›,‹O.map D.str›,↑(a.map e2),g,h,none,none]) (λp=>Wd p.1/\1<=p.2/\p.2<=10) 1 100 (xs:=jM 0<|C.map D.str) (acc:=[]) (ρ:=[‹ns.map D.int›,some<|.int k,some<|.str nm,‹C.map D.str›,‹P.map D.str›,‹O.map D.str›,some<|.lst true [],none,none,none,none]) (by
  rintro x t a ρ S _ ⟨g,h,rfl⟩;obtain⟨i,c,rfl,V,W,X⟩:=QF t;have A:=js (ns:=ns) (k:=k+(i:Int)) (many:=4) ∅ ∅ (by decide);have u:=js (ns:=ns) (k:=k+5+(i:Int)) (many:=10) ∅ ∅ (by decide);by_cases B:drw ns (k+(i:Int)) 4=0
  ·refine⟨_,_,[(c,1+drw ns (k+5+(i:Int)) 10)],rfl,?_,by simp,by simpa using⟨r c X,by have:=j8 ns (k+5+(i:Int)) (many:=10) (by decide);lia,by have:=yc ns (k+5+(i:Int)) (many:=10) (by decide);lia⟩,some<|.int i,some<|.str c,rfl⟩;simp(disch:=first | lia | (simp;done) | (simp;lia)) [vy,A,u,B,jb,e2]
  ·refine⟨_,_,[],rfl,?_,by simp,by simp,some<|.int i,some<|.str c,rfl⟩;simp(disch:=first | lia | (simp;done) | (simp;lia)) [vy,A,B,jb]) (by rw[yC,L1];simp;lia) (by simp) ⟨none,none,rfl⟩
 rw[X5] at e;have Y:=js (ns:=ns) (k:=k+8) (many:=6) ∅ ∅ (by decide);have n1:=j8 ns (k+8) (many:=6) (by decide);have n2:=yc ns (k+8) (many:=6) (by decide);obtain⟨Q,U,E,⟨v,rfl⟩,y,F⟩:=kz (G:=jc [] 7) (f:=kR) (λ(a:List D) ρ=>∃ v,ρ=[‹ns.map D.int›,some<|.int k,some<|.str nm,‹C.map D.str›,‹P.map D.str›,‹O.map D.str›,↑(T.map e2),v,h,↑a,none]) (RuleS C P O) 1 100 (xs:=Vt 0 (drw ns (k+8) 6).toNat) (acc:=[]) (ρ:=[‹ns.map D.int›,some<|.int k,some<|.str nm,‹C.map D.str›,‹P.map D.str›,‹O.map D.str›,↑(T.map e2),g,h,some<|.lst true [],none]) (by
  rintro x t a ρ S _ ⟨v,rfl⟩;obtain⟨i,hi,rfl⟩:=M5.mp t;have hi:=List.mem_range.mp hi;obtain⟨d,Z,hd⟩:=ji7 (ns:=ns) (k:=k+10+5*(0+(i:Int))) (C:=C) (P:=P) (O:=O) ∅ ∅ J m n q r L M N;refine⟨_,_,[d],rfl,?_,by simp,by simpa using hd,some<|.int<|0+(i:Int),rfl⟩;simp(disch:=first | lia | (simp;done) | (simp;lia)) [kR,Z,vt,xw hd,jb,-Int.zero_add]) (by rw[yS];simp;lia) (by simp) ⟨g,rfl⟩
 rw[X5] at E;rw[yS] at y;have z:=qE (j:=drw ns (k+8) 6) ∅ ∅;have u:=js (ns:=ns) (k:=k+9) (many:=(C.length:Int)) ∅ ∅ ∅;have b1:=j8 ns (k+9) (many:=(C.length:Int)) ∅;have b2:=yc ns (k+9) (many:=(C.length:Int)) ∅;have H:=kI (o:=false) (l:=C) b1 b2;have b:=yn (l:=C) (i:=(drw ns (k+9) (C.length:Int)).toNat) (d:=[]) ∅;have I:Wd (C.getD (drw ns (k+9) (C.length:Int)).toNat []):=r _ b;generalize C.getD (drw ns (k+9) (C.length:Int)).toNat []=w at H I b;have hf:frzs U=true:=yE λd hd=>(F d hd).frz;have ad:jg (.lst true U) (.lst true [.tup [.str [114,101,115,116],.str w]])=↑(U++[.tup [.str [114,101,115,116],.str w]]):=by
  show(bif lim (U.length+1)&&(frzs U&&frzs [.tup [.str [114,101,115,116],.str w]]) then _ else _)=_;rw[jb ∅,hf];rfl
 refine⟨⟨nm,T,U++[.tup [.str [114,101,115,116],.str w]]⟩,?_,rfl,⟨K,R,by rw[yC,L1] at s;show T.length<=10;lia,?_,by simp;lia,U,w,rfl⟩⟩
 ·simp(disch:=first | lia | (simp;done) | (simp;lia)) [kJ,jH,YH,e,Y,z,E,u,H,ad,jb,vK,Jr,jT]
 ·intro d hd;rcases N2.mp hd with hd | hd
  ·exact F d hd
  ·rw[M7.mp hd];exact .two _ _ (by decide) (qK rfl<|by decide) I<|.inl ⟨.inr<|.inr rfl,b⟩
section
variable {C P O:W1}
def jik{a0 a1 o3 o4 o5:Option D}:∀{R:List D}{acc:W1}{o6:Option D},(∀ d∈R,RuleS C P O d)->acc.length+20*R.length<=5000 ->
  ∃(T:W1) (o6':Option D),jI (jc [] 6) yf R [a0,a1,↑(acc.map D.str),o3,o4,o5,o6]=some (.nx [a0,a1,↑((acc++T).map D.str),o3,o4,o5,o6'])/\T.length<=20*R.length:=by
 intro R acc o6 n k;obtain⟨y,T,e,⟨o6',rfl⟩,p,_⟩:=kz (G:=jc [] 6) (f:=yf) (λ(acc:W1) ρ=>∃ o6,ρ=[a0,a1,↑(acc.map D.str),o3,o4,o5,o6]) (λ_=>True) 20 5000 (xs:=R) (acc:=acc) (ρ:=[a0,a1,↑(acc.map D.str),o3,o4,o5,o6]) (by
  rintro x r acc ρ z _ ⟨o6,rfl⟩;have s:=n x r;cases s with
  | two kw w t A B m=>
   have g:(kw==yG)=false:=U2.mpr t;have c:jf (.tup [.str kw,.str w]) (.int 0)=some (.str kw):=rfl;have j:jf (.tup [.str kw,.str w]) (.int 1)=some (.str w):=rfl;by_cases q:kw=qo
   ·subst q;refine⟨_,_,[w],rfl,?_,by simp,by simp,some<|.tup [.str qo,.str w],rfl⟩;simp(disch:=first | lia | (simp;done) | (simp;lia)) [yf,c,j,g,jb]
   ·have l:(kw==qo)=false:=U2.mpr q;refine⟨_,_,[],rfl,?_,by simp,by simp,some<|.tup [.str kw,.str w],rfl⟩;simp(disch:=first | lia | (simp;done) | (simp;lia)) [yf,c,j,g,l,jb]
  | share ws k h m nd=>
   have c:jf (.tup [.str yG,.tup<|ws.map D.str]) (.int 0)=some (.str yG):=rfl;have j:jf (.tup [.str yG,.tup<|ws.map D.str]) (.int 1)=some (.tup<|ws.map D.str):=rfl;have u:vX [.tup<|ws.map D.str]=↑(ws.map D.str):=by
    show(bif frzs (ws.map D.str) then _ else _)=_;rw[kj];rfl
   have v:=ui (o:=true) (o':=true) (a:=acc) (b:=ws) ∅;have l:(yG==qo)=false:=by decide
   refine⟨_,_,ws,rfl,?_,k,by simp,some<|.tup [.str yG,.tup<|ws.map D.str],rfl⟩;simp(disch:=first | lia | (simp;done) | (simp;lia)) [yf,c,j,u,v,l,jb,-List.map_append]
  | lend w i h m=>
   have c:jf (.tup [.str [108,101,110,100],.str w,.int i]) (.int 0)=some (.str [108,101,110,100]):=rfl;refine⟨_,_,[],rfl,?_,by simp,by simp,some<|.tup [.str [108,101,110,100],.str w,.int i],rfl⟩;simp(disch:=first | lia | (simp;done) | (simp;lia)) [yf,c,jb]) k (by simp) ⟨o6,rfl⟩
 exact⟨T,o6',e,p⟩
def Yx{os:List OrdS}(h:∀ x∈os,OrdOk C P O x)(o:Bool):fzs (os.map<|vK o)=os.map (vK false):=by
 rw[vG,U1];exact List.map_congr_left λx a=>(h x a).fz o
def Jx{os:List OrdS}(h:∀ x∈os,OrdOk C P O x):frzs (os.map<|vK false)=true:=yE λd hd=>by
 obtain⟨x,a,rfl⟩:=M5.mp hd;exact(h x a).frz
def jiF{os:List OrdS}(j:∀ x∈os,OrdOk C P O x)(u:os.length<=10)(q:C.length<=10):∃(F:W1),An3 (qF [.lst false<|os.map<|vK false,.lst false<|C.map D.str]=↑(F.map D.str)) (∀ w∈F,w∈C) (F.length<=10):=by
 obtain⟨v,T,e,⟨d,g,h,b,rfl⟩,z,_⟩:=kz (G:=gT 3<|gC (jc [] 3)<|gC (jc [] 4)<|gC (jc [] 5) gN) (f:=vP) (λ(a:W1) ρ=>∃ d g h b,ρ=[‹os.map (vK false)›,‹C.map D.str›,↑(a.map D.str),d,g,h,b]) (λ_=>True) 200 4000 (xs:=os.map<|vK false) (acc:=[]) (ρ:=[‹os.map (vK false)›,‹C.map D.str›,some<|.lst true [],none,none,none,none]) (by
  rintro x m a ρ A _ ⟨d,g,h,b,rfl⟩;obtain⟨y,r,rfl⟩:=M5.mp m;have i:=j y r;have n:=i.len;obtain⟨U,k,s,B⟩:=jik (a0:=‹os.map (vK false)›) (a1:=‹C.map D.str›) (o3:=some<|.str y.nm) (o4:=‹y.parts.map e2›) (o5:=‹y.rules›) (R:=y.rules) (acc:=a) (o6:=b) i.rules ∅;refine⟨_,_,U,rfl,?_,by lia,by simp,some<|.str y.nm,‹y.parts.map e2›,‹y.rules›,k,rfl⟩;show vP [‹os.map (vK false)›,‹C.map D.str›,↑(a.map D.str),some<|.str y.nm,‹y.parts.map e2›,‹y.rules›,b]=_;simp only[vP,JB,pIt,pF,pVs,pV0,L4,jiT,i.frzr,Bool.not_false,Bool.and_self,cond_true,xm,i.fzr,s]) (by rw[L1];simp;lia) (by simp) ⟨none,none,none,none,rfl⟩
 rw[X5] at e;have p:jL (jc [] 0) (jl<|p2 (jaQ true) (pV 0)<|pV 1) (pF<|pV 0) (C.map D.str) (jt [none,some 2] [‹os.map (vK false)›,‹C.map D.str›,↑(T.map D.str),d,g,h,b])=some ((C.filter λc=>(true != decide (c∈T))).map D.str):=by
  refine Vz (λρ=>∃ o,ρ=[o,↑(T.map D.str)]) ?_ ⟨none,rfl⟩;rintro x m ρ ⟨o,rfl⟩;refine⟨[some<|.str x,↑(T.map D.str)],rfl,?_,by simp,some<|.str x,rfl⟩;have:=jh7 true true x T;simp only[jl,p2,pV0,pVs,L4,this,jci]
 refine⟨C.filter λc=>(true != decide (c∈T)),?_,λw t=>(List.mem_filter.mp t).1,N7 (List.length_filter_le _ _) q⟩;have l:lim C.length=true:=jb ∅;generalize(C.filter λc=>(true != decide (c∈T)))=F at p;simp(disch:=first | lia | (simp;done) | (simp;lia)) [qF,jH,VT,Jx j,Yx j,e,jb,p,l,-jl]
end
noncomputable abbrev W3:=List Nat×Int×Int
noncomputable def e3(p:W3):D:=.tup [.str p.1,.int p.2.1,.int p.2.2]
noncomputable abbrev WL:=List Nat×Int×List Nat
noncomputable def eL(p:WL):D:=.tup [.str p.1,.int p.2.1,.str p.2.2]
noncomputable abbrev WG:=List Nat×List Nat
noncomputable def eG(p:WG):D:=.tup [.str p.1,.str p.2]
def jdB(l:List W3):fzs (l.map e3)=l.map e3:=Jv λd hd=>by obtain⟨p,_,rfl⟩:=M5.mp hd;rfl
def YO(l:List W3):frzs (l.map e3)=true:=yE λd hd=>by obtain⟨p,_,rfl⟩:=M5.mp hd;rfl
def wz(l:List WL):fzs (l.map eL)=l.map eL:=Jv λd hd=>by obtain⟨p,_,rfl⟩:=M5.mp hd;rfl
def YG(l:List WL):frzs (l.map eL)=true:=yE λd hd=>by obtain⟨p,_,rfl⟩:=M5.mp hd;rfl
def jcw(l:List WG):fzs (l.map eG)=l.map eG:=Jv λd hd=>by obtain⟨p,_,rfl⟩:=M5.mp hd;rfl
def Ka(l:List WG):frzs (l.map eG)=true:=yE λd hd=>by obtain⟨p,_,rfl⟩:=M5.mp hd;rfl
def jhy{l:List W3}(h:∀ p∈l,Wd p.1)(n:Nat):yA (n+1) (l.map e3)=true:=yJ λd hd=>by
 obtain⟨p,a,rfl⟩:=M5.mp hd;show yA n [.str p.1,.int p.2.1,.int p.2.2]=true;simp[yA,jS (h p a).2]
def jio{l:List WL}(h:∀ p∈l,Wd p.1/\Wd p.2.2)(n:Nat):yA (n+1) (l.map eL)=true:=yJ λd hd=>by
 obtain⟨p,a,rfl⟩:=M5.mp hd;show yA n [.str p.1,.int p.2.1,.str p.2.2]=true;simp[yA,jS (h p a).1.2,jS (h p a).2.2]
def jgQ{l:List WG}(h:∀ p∈l,Wd p.1/\Wd p.2)(n:Nat):yA (n+1) (l.map eG)=true:=yJ λd hd=>by
 obtain⟨p,a,rfl⟩:=M5.mp hd;show yA n [.str p.1,.str p.2]=true;simp[yA,jS (h p a).1.2,jS (h p a).2.2]
structure PoolS where
 nm:List Nat
 told:List W3
 marks:List W2
 eats:List (List Nat)
 orders:List OrdS
 looks:List WL
 guards:List WG
def jE(o:Bool)(p:PoolS):D:=.tup [.str p.nm,.lst false<|p.told.map e3,.lst false<|p.marks.map e2,.lst o<|p.eats.map D.str,.lst false<|p.orders.map<|vK false,.lst false<|p.looks.map eL,.lst false<|p.guards.map eG]
structure PoolOk(O:W1)(p:PoolS):Prop where
 nm:Wd p.nm
 told:∀ c∈p.told,Wd c.1/\1<=c.2.1/\c.2.1<=10 ^ 12/\1<=c.2.2/\c.2.2<=10 ^ 12
 toldn:(p.told.map (·.1)).Nodup
 told1:0<p.told.length
 told2:p.told.length<=10
 marks:∀ c∈p.marks,Wd c.1/\1<=c.2/\c.2<=10 ^ 12
 marksn:(p.marks.map (·.1)).Nodup
 marks2:p.marks.length<=10
 eats:∀ w∈p.eats,Wd w
 eatsm:∀ w∈p.eats,w∈p.told.map (·.1)
 eatsn:p.eats.Nodup
 eats2:p.eats.length<=10
 orders:∀ x∈p.orders,OrdOk (p.told.map (·.1)) (p.marks.map (·.1)) O x
 ordn:(p.orders.map (·.nm)).Nodup
 orders1:0<p.orders.length
 orders2:p.orders.length<=10
 looks:∀ x∈p.looks,x.1∈p.told.map (·.1)/\Wd x.1/\Wd x.2.2
 looksm:∀ x∈p.looks,x.2.2∈p.orders.map (·.nm)
 looks2:p.looks.length<=10
 guards:∀ x∈p.guards,Wd x.1/\Wd x.2/\x.1∈p.marks.map (·.1)/\x.2∈p.told.map (·.1)
 guards2:p.guards.length<=10
section
variable {O:W1}
def PoolOk.fz{p:PoolS}(h:PoolOk O p)(o:Bool):QD.fz (jE o p)=jE false p:=by
 simp[jE,jdB,Jr,Yx h.orders,wz,jcw]
def PoolOk.frz{p:PoolS}(h:PoolOk O p):QD.frz (jE false p)=true:=by
 simp[jE,YO,jT,Jx h.orders,YG,Ka]
def PoolOk.ok{p:PoolS}(h:PoolOk O p)(o:Bool)(n:Nat):okE (n+6) (jE o p)=true:=by
 show yA (n+5) [.str p.nm,.lst false<|p.told.map e3,.lst false<|p.marks.map e2,.lst o<|p.eats.map D.str,.lst false<|p.orders.map<|vK false,.lst false<|p.looks.map eL,.lst false<|p.guards.map eG]=true;have a:okE (n+5) (.lst false<|p.told.map e3)=true:=jhy (λq g=>(h.told q g).1)<|n+3;have b:okE (n+5) (.lst false<|p.marks.map e2)=true:=JY (λq g=>(h.marks q g).1)<|n+3;have c:okE (n+5) (.lst o<|p.eats.map D.str)=true:=Qd h.eats;have d:okE (n+5) (.lst false<|p.orders.map<|vK false)=true:=yJ λd hd=>by
  obtain⟨x,i,rfl⟩:=M5.mp hd;exact(h.orders x i).ok false n
 have e:okE (n+5) (.lst false<|p.looks.map eL)=true:=jio (λq g=>(h.looks q g).2)<|n+3;have f:okE (n+5) (.lst false<|p.guards.map eG)=true:=jgQ (λq g=>⟨(h.guards q g).1,(h.guards q g).2.1⟩)<|n+3;simp[yA,jS h.nm.2,a,b,c,d,e,f]
end
section pool
variable {ns:List Int}{k:Int}{nm:List Nat}{C P O:W1}
noncomputable abbrev hdr(ns:List Int)(k:Int)(nm:List Nat)(C P O:W1)(r:Rh):Rh:=‹ns.map D.int›::some (.int k)::some (.str nm)::‹C.map D.str›::‹P.map D.str›::‹O.map D.str›::r
def jdb(m:0<=k)(h1:k<=1000)(b:C.length<=10)(d:∀ w∈C,Wd w):Ex3 λ(T:List W3) (o7 o8:Option D)=>An3 (jI (gT 2<|gC (jc [] 7)<|gC (jc [] 8) gN) vV (jM 0<|C.map D.str) (hdr ns k nm C P O [some<|.lst true [],none,none,none,none,none,none,none,none,none,none])=some (.nx<|hdr ns k nm C P O [↑(T.map e3),o7,o8,none,none,none,none,none,none,none,none])) (T.map (·.1)=C) (∀ c∈T,Wd c.1/\1<=c.2.1/\c.2.1<=10 ^ 12/\1<=c.2.2/\c.2.2<=10 ^ 12):=by
 obtain⟨n,T,e,⟨o7,o8,rfl⟩,g,h⟩:=xP (G:=gT 2<|gC (jc [] 7)<|gC (jc [] 8) gN) (f:=vV) (λ(a:List W3) ρ=>∃ o7 o8,ρ=hdr ns k nm C P O [↑(a.map e3),o7,o8,none,none,none,none,none,none,none,none]) (λc=>Wd c.1/\1<=c.2.1/\c.2.1<=10 ^ 12/\1<=c.2.2/\c.2.2<=10 ^ 12) (·.1) 20 (C:=C) (s:=0) (acc:=[]) (ρ:=hdr ns k nm C P O [some<|.lst true [],none,none,none,none,none,none,none,none,none,none]) (by
  rintro i c a ρ hi j o ⟨o7,o8,rfl⟩;have c1:=Jp (ns:=ns) (k:=k+20+(i:Int)) ∅ ∅;have l:=Jp (ns:=ns) (k:=k+24+(i:Int)) ∅ ∅;refine⟨_,_,(c,coi ns<|k+20+(i:Int),coi ns<|k+24+(i:Int)),rfl,?_,rfl,⟨d c j,KD _ _,ua _ _,KD _ _,ua _ _⟩,some<|.int i,some<|.str c,rfl⟩;simp(disch:=first | lia | (simp;done) | (simp;lia)) [vV,c1,l,jb,e3]) ∅ (by simp;lia) ⟨none,none,rfl⟩
 exact⟨T,o7,o8,e,g,h⟩
def jca{a6 o7 o8:Option D}{N:W1}(v:0<=k)(h1:k<=1000)(j:0<C.length)(b:C.length<=10)(d:P.length<=10)(g:O.length<=10)(l:∀ w∈C,Wd w)(m:∀ w∈P,Wd w)(n:∀ w∈O,Wd w)(y:N.length<=10)(o:∀ w∈N,Wd w)(p:C.Nodup):
  Ex3 λ(T:List OrdS) (o7' o11:Option D)=>An3 (jI (gT 2<|gC (jc [] 7)<|gC (jc [] 11) gN) vT (jM 0<|N.map D.str) (hdr ns k nm C P O [a6,o7,o8,‹N.map D.str›,some<|.lst true [],none,none,none,none,none,none])=some (.nx<|hdr ns k nm C P O [a6,o7',o8,‹N.map D.str›,↑(T.map<|vK true),o11,none,none,none,none,none])) (T.map (·.nm)=N) (∀ c∈T,OrdOk C P O c):=by
 obtain⟨z,T,e,⟨o7,o8,rfl⟩,q,r⟩:=xP (G:=gT 2<|gC (jc [] 7)<|gC (jc [] 11) gN) (f:=vT) (λ(a:List OrdS) ρ=>∃ o7 o11,ρ=hdr ns k nm C P O [a6,o7,o8,‹N.map D.str›,↑(a.map<|vK true),o11,none,none,none,none,none]) (OrdOk C P O) (·.nm) 20 (C:=N) (s:=0) (acc:=[]) (ρ:=hdr ns k nm C P O [a6,o7,o8,‹N.map D.str›,some<|.lst true [],none,none,none,none,none,none]) (by
  rintro i c a ρ hi t A ⟨o7,o11,rfl⟩;obtain⟨x,ex,u,h⟩:=jfj (ns:=ns) (k:=k+60*(i:Int)+30) (nm:=c) (C:=C) (P:=P) (O:=O) ∅ ∅ j b d g (o c t) l m n p;refine⟨_,_,x,rfl,?_,u,h,some<|.int i,some<|.str c,rfl⟩;simp(disch:=first | lia | (simp;done) | (simp;lia)) [vT,ex,vt,jb]) ∅ (by simp;lia) ⟨o7,none,rfl⟩
 exact⟨T,o7,o8,e,q,r⟩
def jaj{a6 o7 o8 a10 o11:Option D}{N:W1}(F:0<=k)(h1:k<=1000)(H:0<C.length)(j:C.length<=10)(m:∀ w∈C,Wd w)(I:0<N.length)(n:N.length<=10)(p:∀ w∈N,Wd w):
  Ex4 λ(T:List WL) (o7' o8' o13:Option D)=>An3 (jI (jc [] 7) vS (Vt 0 (drw ns (k+2) 3).toNat) (hdr ns k nm C P O [a6,o7,o8,‹N.map D.str›,a10,o11,some<|.lst true [],none,none,none,none])=some (.nx<|hdr ns k nm C P O [a6,o7',o8',‹N.map D.str›,a10,o11,↑(T.map eL),o13,none,none,none])) (∀ x∈T,x.1∈C/\Wd x.1/\Wd x.2.2/\x.2.2∈N) (T.length<=10):=by
 have J:=j8 ns (k+2) (many:=3) (by decide);have K:=yc ns (k+2) (many:=3) (by decide);obtain⟨L,T,e,⟨o7,o8,o13,rfl⟩,q,r⟩:=kz (G:=jc [] 7) (f:=vS) (λ(a:List WL) ρ=>∃ o7 o8 o13,ρ=hdr ns k nm C P O [a6,o7,o8,‹N.map D.str›,a10,o11,↑(a.map eL),o13,none,none,none]) (λx=>x.1∈C/\Wd x.1/\Wd x.2.2/\x.2.2∈N) 1 20 (xs:=Vt 0 (drw ns (k+2) 3).toNat) (acc:=[]) (ρ:=hdr ns k nm C P O [a6,o7,o8,‹N.map D.str›,a10,o11,some<|.lst true [],none,none,none,none]) (by
  rintro x s a ρ M _ ⟨o7,o8,o13,rfl⟩;obtain⟨i,hi,rfl⟩:=M5.mp s;have hi:=List.mem_range.mp hi;have t:=js (ns:=ns) (k:=k+3+(0+(i:Int))) (many:=(C.length:Int)) ∅ ∅ ∅;have u:=j8 ns (k+3+(0+(i:Int))) (many:=(C.length:Int)) ∅;have y:=yc ns (k+3+(0+(i:Int))) (many:=(C.length:Int)) ∅;have g:=kI (o:=false) (l:=C) u y;have b:=yn (l:=C) (i:=(drw ns (k+3+(0+(i:Int))) (C.length:Int)).toNat) (d:=[]) ∅;generalize C.getD (drw ns (k+3+(0+(i:Int))) (C.length:Int)).toNat []=w at g b;have z:=js (ns:=ns) (k:=k+5+(0+(i:Int))) (many:=(N.length:Int)) ∅ ∅ ∅;have A:=j8 ns (k+5+(0+(i:Int))) (many:=(N.length:Int)) ∅;have B:=yc ns (k+5+(0+(i:Int))) (many:=(N.length:Int)) ∅;have h:=kI (o:=false) (l:=N) A B;have c:=yn (l:=N) (i:=(drw ns (k+5+(0+(i:Int))) (N.length:Int)).toNat) (d:=[]) ∅;generalize N.getD (drw ns (k+5+(0+(i:Int))) (N.length:Int)).toNat []=v at h c;have E:=js (ns:=ns) (k:=k+7+(0+(i:Int))) (many:=3) ∅ ∅ (by decide);refine⟨_,_,[(w,1+drw ns (k+7+(0+(i:Int))) 3,v)],rfl,?_,by simp,by simpa using⟨b,m w b,p v c,c⟩,some<|.int<|0+(i:Int),some<|.str w,some<|.str v,rfl⟩;simp(disch:=first | lia | (simp;done) | (simp;lia)) [vS,t,z,E,g,h,jb,eL,-Int.zero_add]) (by rw[yS];simp;lia) (by simp) ⟨o7,o8,none,rfl⟩
 rw[yS] at q;exact⟨T,o7,o8,o13,e,r,by lia⟩
def xp{a6 o7 o8 a9 a10 o11 a12 o13 a14:Option D}{F:W1}(A:0<=k)(h1:k<=1000)(m:P.length<=10)(n:∀ w∈P,Wd w)(B:F.length<=10)(p:∀ w∈F,Wd w):
  Ex3 λ(T:List WG) (o7' o8':Option D)=>An3 (jI (gT 2<|gC (jc [] 7)<|gC (jc [] 8) gN) vg (jM 0<|F.map D.str) (hdr ns k nm C P O [a6,o7,o8,a9,a10,o11,a12,o13,a14,some<|.lst true [],none])=some (.nx<|hdr ns k nm C P O [a6,o7',o8',a9,a10,o11,a12,o13,a14,↑(T.map eG),none])) (∀ x∈T,(Wd x.1/\Wd x.2)/\x.1∈P/\x.2∈F) (T.length<=10):=by
 obtain⟨E,T,e,⟨o7,o8,rfl⟩,q,r⟩:=kz (G:=gT 2<|gC (jc [] 7)<|gC (jc [] 8) gN) (f:=vg) (λ(a:List WG) ρ=>∃ o7 o8,ρ=hdr ns k nm C P O [a6,o7,o8,a9,a10,o11,a12,o13,a14,↑(a.map eG),none]) (λx=>(Wd x.1/\Wd x.2)/\x.1∈P/\x.2∈F) 1 20 (xs:=jM 0<|F.map D.str) (acc:=[]) (ρ:=hdr ns k nm C P O [a6,o7,o8,a9,a10,o11,a12,o13,a14,some<|.lst true [],none]) (by
  rintro x s a ρ H _ ⟨o7,o8,rfl⟩;obtain⟨i,c,rfl,t,u,g⟩:=QF s;by_cases h:0<P.length
  ·have v:=js (ns:=ns) (k:=k+11+(i:Int)) (many:=(P.length:Int)) ∅ ∅ ∅;have y:=j8 ns (k+11+(i:Int)) (many:=(P.length:Int)) ∅;have z:=yc ns (k+11+(i:Int)) (many:=(P.length:Int)) ∅;have j:=kI (o:=false) (l:=P) y z;have b:=yn (l:=P) (i:=(drw ns (k+11+(i:Int)) (P.length:Int)).toNat) (d:=[]) ∅;generalize P.getD (drw ns (k+11+(i:Int)) (P.length:Int)).toNat []=w at j b;refine⟨_,_,[(w,c)],rfl,?_,by simp,by simpa using⟨⟨n w b,p c g⟩,b,g⟩,some<|.int i,some<|.str c,rfl⟩;simp(disch:=first | lia | (simp;done) | (simp;lia)) [vg,v,j,h,jb,eG]
  ·refine⟨_,_,[],rfl,?_,by simp,by simp,some<|.int i,some<|.str c,rfl⟩;simp(disch:=first | lia | (simp;done) | (simp;lia)) [vg,h,jb]) (by rw[yC,L1];simp;lia) (by simp) ⟨o7,o8,rfl⟩
 rw[yC,L1] at q;exact⟨T,o7,o8,e,r,by lia⟩
theorem wJ(b:0<=k)(h1:k<=1000):∀{Q:W1}{s:Nat}{o o':Option D},(∀ w∈Q,Wd w)->s+Q.length<=20 ->
  ∃(M:List W2),An3 (jL (gT 2<|gC (jc [] 0)<|gC (jc [] 1) gN) qT (yb #[pF<|pV 1,jj jv #[pV 2,p2 jg (p2 jg (pV 3)<|pI 16)<|pV 0]]) (jM s<|Q.map D.str) [o,o',‹ns.map D.int›,some<|.int k]=some (M.map e2)) (M.map (·.1)=Q)<|∀ c∈M,Wd c.1/\1<=c.2/\c.2<=10 ^ 12
 | [],s,o,o',_,_=>⟨[],rfl,rfl,by simp⟩
 | c::Q,s,o,o',a,f=>by
  rw[M1] at f;obtain⟨M,e,g,i⟩:=wJ b h1 (Q:=Q) (s:=s+1) (o:=some<|.int s) (o':=some<|.str c) (λw h=>a w<|by simp[h]) ∅;have c1:=Jp (ns:=ns) (k:=k+16+(s:Int)) ∅ ∅;have j:(yb #[pF<|pV 1,jj jv #[pV 2,p2 jg (p2 jg (pV 3)<|pI 16)<|pV 0]]) [some<|.int s,some<|.str c,‹ns.map D.int›,some<|.int k]=some (e2 (c,coi ns<|k+16+(s:Int))):=by
   simp(disch:=first | lia | (simp;done) | (simp;lia)) [c1,jb,e2]
  refine⟨(c,coi ns<|k+16+(s:Int))::M,?_,by rw[L5,g],λd hd=>(M4.mp hd).elim (λz=>z▸⟨a c<|by simp,KD _ _,ua _ _⟩) (i d)⟩;rw[L5,jM,cpE ?_ j,e];rfl;rfl
def jaO{r:Rh}(a:0<=k)(h1:k<=1000)(b:P.length<=10)(d:∀ w∈P,Wd w):
  ∃(M:List W2),An3 (jL (gT 2<|gC (jc [] 0)<|gC (jc [] 1) gN) qT (yb #[pF<|pV 1,jj jv #[pV 2,p2 jg (p2 jg (pV 3)<|pI 16)<|pV 0]]) (jM 0<|P.map D.str) (jt [none,none,some 0,some 1]<|hdr ns k nm C P O r)=some (M.map e2)) (M.map (·.1)=P) (∀ c∈M,Wd c.1/\1<=c.2/\c.2<=10 ^ 12):=
 wJ (ns:=ns) (k:=k) a h1 (Q:=P) (s:=0) (o:=none) (o':=none) d ∅
def ji9(i:0<=k)(h1:k<=1000)(K:0<C.length)(a:C.length<=10)(d:P.length<=10)(y:O.length<=10)(Z:Wd nm)(l:∀ w∈C,Wd w)(z:∀ w∈P,Wd w)(wO:∀ w∈O,Wd w)(A:C.Nodup)(nP:P.Nodup):
  ∃(p:PoolS),An4 (qL [.lst false<|ns.map D.int,.int k,.str nm,.lst false<|C.map D.str,.lst false<|P.map D.str,.lst false<|O.map D.str]=some (jE true p)) (PoolOk O p) (p.nm=nm) (p.marks.map (·.1)=P):=by
 obtain⟨T,t,m,eT,e,kT⟩:=jdb (ns:=ns) (nm:=nm) (P:=P) (O:=O) i h1 a l;have d1:=js (ns:=ns) (k:=k+1) (many:=3) ∅ ∅ (by decide);have b1:=j8 ns (k+1) (many:=3) (by decide);have b2:=yc ns (k+1) (many:=3) (by decide);have Q:jdy none (some<|1+drw ns (k+1) 3) (.lst true [.str [98,98],.str [99,107],.str [100,100]])=↑((j9 [[98,98],[99,107],[100,100]] none<|some<|1+drw ns (k+1) 3).map D.str):=kD true [[98,98],[99,107],[100,100]] none _;have R:0<(j9 [[98,98],[99,107],[100,100]] none<|some<|1+drw ns (k+1) 3).length:=by
  rw[Jo _ ∅,X7];simp only[M1,List.length_nil];lia
 have f:(j9 [[98,98],[99,107],[100,100]] none<|some<|1+drw ns (k+1) 3).length<=10:=N7 (yW _ _ _) (by decide);have B:∀ w∈j9 [[98,98],[99,107],[100,100]] none (some<|1+drw ns (k+1) 3),Wd w:=by
  intro w g;have:=j7 g;simp only[M4,List.not_mem_nil,or_false] at this;rcases this with rfl | rfl | rfl<;>exact qK rfl (by decide)
 have U:(j9 [[98,98],[99,107],[100,100]] none<|some<|1+drw ns (k+1) 3).Nodup:=v9 (by decide);generalize j9 [[98,98],[99,107],[100,100]] none (some<|1+drw ns (k+1) 3)=N at Q R f B U;obtain⟨os,E,b,V,H,u⟩:=jca (ns:=ns) (nm:=nm) (a6:=↑(T.map e3)) (o7:=t) (o8:=m) (N:=N) i h1 K a d y l z wO f B A;have lO:os.length=N.length:=by rw[<- H,L1]
 have d2:=js (ns:=ns) (k:=k+2) (many:=3) ∅ ∅ (by decide);have c1:=j8 ns (k+2) (many:=3) (by decide);have c2:=yc ns (k+2) (many:=3) (by decide);have I:=qE (j:=drw ns (k+2) 3) ∅ ∅;obtain⟨L,p7,p8,h,n,kL,lL⟩:=jaj (ns:=ns) (nm:=nm) (P:=P) (O:=O) (a6:=↑(T.map e3)) (o7:=E) (o8:=m) (a10:=↑(os.map<|vK true)) (o11:=b) (N:=N) i h1 K a l R f B;obtain⟨F,eF,W,lF⟩:=jiF (os:=os) (C:=C) u ∅ a;have d3:=js (ns:=ns) (k:=k+10) (many:=4) ∅ ∅ (by decide);have sF:=kD true F none<|some<|drw ns (k+10) 4;obtain⟨G,q7,q8,o,v,lG⟩:=xp (ns:=ns) (nm:=nm) (C:=C) (P:=P) (O:=O) (a6:=↑(T.map e3)) (o7:=p7) (o8:=p8) (a9:=‹N.map D.str›) (a10:=↑(os.map<|vK true)) (o11:=b) (a12:=↑(L.map eL)) (o13:=h) (a14:=↑(F.map D.str)) (F:=j9 F none<|some<|drw ns (k+10) 4) i h1 d z (N7 (yW _ _ _) lF)<|λw g=>l w<|W w<|j7 g;obtain⟨M,eM,q,kM⟩:=jaO (ns:=ns) (k:=k) (nm:=nm) (C:=C) (P:=P) (O:=O) (r:=[↑(T.map e3),q7,q8,‹N.map D.str›,↑(os.map<|vK true),b,↑(L.map eL),h,↑(F.map D.str),↑(G.map eG),none]) i h1 d z;obtain⟨S,X,Y,nS,lS⟩:=ji1 (ns:=ns) (k:=k+13) (C:=C) ∅ ∅ a A;have lT:T.length=C.length:=by rw[<- e,L1]
 have fO:=Yx u true;have s:=Jx u;have J:lim (jM 0<|P.map D.str).length=true:=jb (by rw[yC,L1];lia);have lM:M.length=P.length:=by rw[<- q,L1]
 have hTC:T.map (·.1)=C:=e;refine⟨⟨nm,T,M,S,os,L,G⟩,?_,{nm:=Z,told:=kT,toldn:=?_,told1:=?_,told2:=?_,marks:=kM,marksn:=?_,marks2:=?_,eats:=λw g=>l w<|Y w g,eatsm:=?_,eatsn:=nS,eats2:=lS,orders:=?_,ordn:=?_,orders1:=?_,orders2:=?_,looks:=?_,looksm:=?_,looks2:=lL,guards:=?_,guards2:=lG},rfl,q⟩
 rotate_left
 ·show(T.map (·.1)).Nodup;rw[e];exact A
 ·show 0<T.length;lia
 ·show T.length<=10;lia
 ·show(M.map (·.1)).Nodup;rw[q];exact nP
 ·show M.length<=10;lia
 ·intro w g;show w∈T.map (·.1);rw[e];exact Y w g
 ·show ∀ x∈os,OrdOk (T.map (·.1)) (M.map (·.1)) O x;rw[e,q];exact u
 ·show(os.map (·.nm)).Nodup;rw[H];exact U
 ·show 0<os.length;lia
 ·show os.length<=10;lia
 ·intro x c;refine⟨?_,(kL x c).2.1,(kL x c).2.2.1⟩;show x.1∈T.map (·.1);rw[e];exact(kL x c).1
 ·intro x c;show x.2.2∈os.map (·.nm);rw[H];exact(kL x c).2.2.2
 ·intro x c;refine⟨(v x c).1.1,(v x c).1.2,?_,?_⟩
  ·show x.1∈M.map (·.1);rw[q];exact(v x c).2.1
  ·show x.2∈T.map (·.1);rw[e];exact W _<|j7 (v x c).2.2
 simp only[hdr] at eT V n o eM;simp(disch:=first | lia | (simp;done) | (simp;lia)) [qL,jH,VS,eT,d1,Q,V,d2,I,n,fO,s,eF,d3,sF,o,J,eM,X,jb,jE,jdB,YO,Jr,jT,wz,YG,jcw,Ka,-yb];simp(disch:=first | lia | (simp;done) | (simp;lia)) [X,s,jb,YO,jT,YG,Ka]
end pool
def jlP{l:List α}{i}(h:i<l.length):atI l (i:Int)=l[i]?:=by
 unfold atI ixN;simp
def ux(h:i<n):ixN n (i:Int)=some i:=by
 unfold ixN;rw[if_pos ∅,if_pos ∅];simp
noncomputable def low(c T n:Int):Int:=c*n/T
def Vp(c T:Int):List Int->Int->List Int×Int
 | [],left=>([],left)
 | n::ns,left=>if 0<left/\low c T n<n then((low c T n+1)::(Vp c T ns<|left-1).1,(Vp c T ns<|left-1).2) else(low c T n::(Vp c T ns left).1,(Vp c T ns left).2)
theorem Kx(c T):∀ ns left,(Vp c T ns left).1.length=ns.length
 | [],_=>rfl
 | n::ns,left=>by
  rw[Vp];split
  ·simp[Kx c T ns]
  ·simp[Kx c T ns]
def xJ{a b w}{L}{g n left}{i:Nat}(d:atI L (i:Int)=some (.int g))(e:ixN L.length (i:Int)=some i)(c:L[i]?=some (.int g)):
  qJ [a,b,w,↑L,some<|.int left,some<|.int i,some<|.int n] =
   some (.nx<|if 0<left/\g<n then [a,b,w,↑(L.set i<|.int<|g+1),some<|.int<|left-1,some<|.int i,some<|.int n] else [a,b,w,↑L,some<|.int left,some<|.int i,some<|.int n]):=by
 by_cases f:0<left<;>by_cases h:g<n<;>simp[qJ,jf,d,f,h,e,c]
def xh(a b w)(c T):∀ ns pre left o5 o6,
  ∃ o5' o6',jI (gT 2<|gC (jc [] 5)<|gC (jc [] 6) gN) qJ (jM pre.length<|ns.map D.int) [a,b,w,↑((pre++ns.map (low c T)).map D.int),some<|.int left,o5,o6] =
   some (.nx [a,b,w,↑((pre++(Vp c T ns left).1).map D.int),some<|.int (Vp c T ns left).2,o5',o6']):=by
 intro ns
 induction ns with
 | nil=>
  intro pre left o5 o6;exact⟨o5,o6,by simp[jM,Vp]⟩
 | cons n ns k=>
  intro pre left o5 o6;have d:=xJ (a:=a) (b:=b) (w:=w) (L:=(pre++low c T n::ns.map (low c T)).map D.int) (g:=low c T n) (n:=n) (left:=left) (i:=pre.length)
   (by rw[jlP<|by simp];simp) (ux<|by simp) (by simp)
  have f:((pre++low c T n::ns.map (low c T)).map D.int).set pre.length (D.int<|low c T n+1)=(pre++(low c T n+1)::ns.map (low c T)).map D.int:=by simp
  rw[f] at d;have l:(gT 2<|gC (jc [] 5)<|gC (jc [] 6) gN) (.tup [.int pre.length,.int n]) [a,b,w,↑((pre++low c T n::ns.map (low c T)).map D.int),some<|.int left,o5,o6]=some [a,b,w,↑((pre++low c T n::ns.map (low c T)).map D.int),some<|.int left,some<|.int pre.length,some<|.int n]:=rfl;rw[L5,jM,jK,L5,l,L4,d,L4,YM];by_cases h:0<left/\low c T n<n
  ·obtain⟨o5',o6',e⟩:=k (pre++[low c T n+1]) (left-1) (some<|.int pre.length)<|some<|.int n;refine⟨o5',o6',?_⟩;have j:(pre++[low c T n+1]).length=pre.length+1:=by simp
   rw[j] at e;rw[Vp,if_pos h,if_pos h];simp only[List.append_assoc] at e;exact e
  ·obtain⟨o5',o6',e⟩:=k (pre++[low c T n]) left (some<|.int pre.length) (some<|.int n);refine⟨o5',o6',?_⟩;have j:(pre++[low c T n]).length=pre.length+1:=by simp
   rw[j] at e;rw[Vp,if_neg h,if_neg h];simp only[List.append_assoc] at e;exact e
def vk(ns:List Int)(c:Int):List Int:=if ns.sum<=c then ns else(Vp c ns.sum ns<|c-(ns.map<|low c ns.sum).sum).1
def jdI(f:ns.length<=20)(a:∀ x∈ns,0<=x/\x<=10 ^ 20)(g:0<=c)(h1:c<=2 ^ 900)(i:ns.sum<=10 ^ 30):
  qM [.lst false<|ns.map D.int,.int c]=↑((vk ns c).map D.int):=by
 by_cases h:ns.sum<=c
 ·simp[qM,jH,KW,vk,h]
 ·have b:jL (jc [] 0) qT (p2 Vc (p2 yj (pV 1)<|pV 0)<|pV 2) (ns.map D.int) (jt [none,some 1,some 2] [‹ns.map D.int›,some<|.int c,some<|.int ns.sum,none,none,none,none])=some (ns.map λn=>D.int<|low c ns.sum n):=by
   refine jo rfl (λρ=>∃ o,ρ=[o,some<|.int c,some<|.int ns.sum]) ?_ ⟨none,rfl⟩;rintro x d ρ ⟨o,rfl⟩;have:=a x d;refine⟨[some<|.int x,some<|.int c,some<|.int ns.sum],rfl,?_,some<|.int x,rfl⟩;simp(disch:=lia) [vt,JJ,low]
  obtain⟨j,k,e⟩:=xh (‹ns.map D.int›) (some<|.int c) (some<|.int ns.sum) c ns.sum ns [] (c-(ns.map<|low c ns.sum).sum) none none;simp only[X5,List.length_nil,U1] at e;have e2:(D.int ∘ low c ns.sum)=λn=>D.int (low c ns.sum n):=rfl;rw[e2] at e;have e3:ns.map (λn=>D.int<|low c ns.sum n)=(ns.map<|low c ns.sum).map D.int:=by simp
  rw[e3] at b e;simp(disch:=lia) [qM,jH,KW,vk,h,b,e,jb,-List.map_map]
theorem V6(c T):∀ ns left,(Vp c T ns left).1.sum+(Vp c T ns left).2=(ns.map<|low c T).sum+left
 | [],left=>by simp[Vp]
 | n::ns,left=>by
  rw[Vp];split
  ·have:=V6 c T ns<|left-1;simp only[List.sum_cons,L5]
   lia
  ·have:=V6 c T ns left;simp only[List.sum_cons,L5]
   lia
def cnt(c T:Int):List Int->Int
 | []=>0
 | n::ns=>(if low c T n<n then 1 else 0)+cnt c T ns
theorem jgl(c T):∀ ns:List Int,0<=cnt c T ns
 | []=>by simp[cnt]
 | n::ns=>by
  have:=jgl c T ns;rw[cnt];split<;>lia
theorem Jy(c T):∀ ns left,0<=left->left<=cnt c T ns->(Vp c T ns left).2=0
 | [],left,h,k=>by simp[Vp,cnt] at *;lia
 | n::ns,left,h,k=>by
  rw[cnt] at k;rw[Vp];have:=jgl c T ns;split
  ·next g=>
   exact Jy c T ns (left-1) ∅ ∅
  ·next g=>
   by_cases g2:low c T n<n
   ·rw[if_pos g2] at k;exact Jy c T ns left h ∅
   ·rw[if_neg g2] at k;exact Jy c T ns left h ∅
def jbK(b:0<=c)(f:c<T)(a:0<=n):T*low c T n<=c*n/\c*n<=T*low c T n+T*(if low c T n<n then 1 else 0)/\0<=low c T n/\low c T n<=n:=by
 unfold low;have e:=Int.mul_ediv_add_emod (c*n) T;have h:=U0 (c*n) (show T≠0 by lia);have r1:=N9 (c*n) (show 0<T by lia);have d:0<=c*n/T:=Int.ediv_nonneg (Int.mul_nonneg b a) ∅;have l1:c*n/T<=n:=by
  have:c*n<=T*n:=Int.mul_le_mul_of_nonneg_right ∅ a;exact Int.ediv_le_of_le_mul ∅ ∅
 refine⟨by lia,?_,d,l1⟩;split
 ·lia
 ·next g=>
  have e2:c*n/T=n:=by lia
  have:c*n<=T*n:=Int.mul_le_mul_of_nonneg_right ∅ a
  lia
theorem wS(a:0<=c)(b:c<T):∀ ns,(∀ x∈ns,0<=x)->T*(ns.map<|low c T).sum<=c*ns.sum/\c*ns.sum<=T*(ns.map<|low c T).sum+T*cnt c T ns
 | [],_=>by simp[cnt]
 | n::ns,h=>by
  have i:=wS a b ns<|λx d=>h x (by simp[d]);have j:=jbK a b<|h n (by simp);simp only[L5,List.sum_cons,cnt]
  lia
def jhL(d:0<=c)(e:c<ns.sum)(h:∀ x∈ns,0<=x):
  0<=c-(ns.map<|low c ns.sum).sum/\(Vp c ns.sum ns<|c-(ns.map<|low c ns.sum).sum).1.sum=c:=by
 have b:=wS d e ns h;have f:(ns.map<|low c ns.sum).sum<=c:=by
  refine Int.le_of_mul_le_mul_left (a:=ns.sum) ?_ ∅;rw[Int.mul_comm ns.sum c];exact b.1
 have g:c<=(ns.map<|low c ns.sum).sum+cnt c ns.sum ns:=by
  refine Int.le_of_mul_le_mul_left (a:=ns.sum) ?_ ∅;rw[Int.mul_add,Int.mul_comm ns.sum c];exact b.2
 have l:=Jy c ns.sum ns (c-(ns.map<|low c ns.sum).sum) ∅ ∅;have s:=V6 c ns.sum ns<|c-(ns.map<|low c ns.sum).sum;exact⟨by lia,by lia⟩
theorem jgk:∀(ns:List Int),(∀ x∈ns,0<=x/\x<=b)->0<=ns.sum/\ns.sum<=b*ns.length
 | [],_=>by simp
 | n::ns,h=>by
  have i:=jgk ns<|λx a=>h x (by simp[a]);have j:=h n (by simp);simp only[List.sum_cons,M1]
  lia
def xj:(vk ns c).length=ns.length:=by
 unfold vk;split
 ·rfl
 ·exact Kx _ _ _ _
structure PtOk(p:W2):Prop where
 lo:1<=p.2
 hi:p.2<=10
noncomputable def ts(P:List W2):List Int:=P.map (·.2)
noncomputable def ups(c:Int)(P:List W2):List Int:=P.map λp=>(c*p.2+9)/10
noncomputable def wq(c:Int)(P:List W2):List Int:=P.map λp=>c*p.2/10
noncomputable def jd0(odd:Int):Nat->List Int->List Int
 | _,[]=>[]
 | k,x::l=>(if(k:Int)<odd then x+1 else x)::jd0 odd (k+1) l
theorem wT(a):∀ k l,(jd0 a k l).length=l.length
 | _,[]=>rfl
 | k,x::l=>by rw[jd0,M1,M1,wT]
theorem jbl(a):∀ k l,(∀ x∈l,0<=x)->∀ x∈jd0 a k l,0<=x
 | _,[],_,x,b=>by simp[jd0] at b
 | k,y::l,h,x,b=>by
  have d:=h y (by simp);rcases M4.mp b with rfl | b
  ·lia
  ·exact jbl a (k+1) l (λz c=>h z<|by simp[c]) x b
def yz(P:List W2)(c:Int):List Int×Int:=if 10<(ts P).sum then(ups c P,(ups c P).sum-c) else(jd0 (c*(ts P).sum/10-(wq c P).sum) 0<|wq c P,0)
def jol(h:∀ p∈P,PtOk p):0<=(ts P).sum/\(ts P).sum<=10*P.length:=by
 induction P with
 | nil=>simp[ts]
 | cons p P c=>
  have a:=c λx d=>h x (by simp[d]);have b:=h p (by simp);have e:=b.lo;have f:=b.hi;simp only[ts,L5,List.sum_cons,M1] at a ⊢
  lia
def Qc(P:List W2):frzs (P.map e2)=true/\fzs (P.map e2)=P.map e2:=by
 refine⟨yE λd hd=>?_,Jv λd hd=>?_⟩
 all_goals obtain⟨p,a,rfl⟩:=M5.mp hd;rfl
def jbk(b:P.length<=10):kP [.lst false<|P.map e2]=some (.int (ts P).sum):=by
 have a:jL (jc [] 0) qT (pF<|p2 jf (pV 0)<|pI 1) (P.map e2) (jt [none] [‹P.map e2›])=some (P.map λp=>D.int p.2):=by
  refine jo rfl (λρ=>∃ o,ρ=[o]) ?_ ⟨none,rfl⟩;rintro x c ρ ⟨o,rfl⟩;exact⟨_,rfl,rfl,_,rfl⟩
 have e:(P.map λp=>D.int p.2)=(ts P).map D.int:=by unfold ts;rw[U1];rfl
 rw[e] at a;simp(disch:=lia) [kP,jH,Vo,(Qc P).1,a,jb]
theorem Qs(a):∀ l k o0 o1,jL (gT 2<|gC (jc [] 0)<|gC (jc [] 1) gN) qT (pIf (jl<|p2 jjK (pV 0)<|pV 2) (p2 jg (pV 1)<|pI 1)<|pF<|pV 1) (jM k<|l.map D.int) [o0,o1,some<|.int a]=some ((jd0 a k l).map D.int)
 | [],k,o0,o1=>rfl
 | x::l,k,o0,o1=>by
  have c:(gT 2<|gC (jc [] 0)<|gC (jc [] 1) gN) (.tup [.int k,.int x]) [o0,o1,some<|.int a]=some [some<|.int k,some<|.int x,some<|.int a]:=rfl;have b:=Qs a l (k+1) (some<|.int k)<|some<|.int x;rw[L5,jM,vA,c,L4];by_cases h:k<a
  ·simp[h,b,jd0]
  ·simp[h,b,jd0]
def jer(m:P.length<=10)(a:∀ p∈P,PtOk p)(r:0<=c)(h1:c<=2 ^ 900):YK [.lst false<|P.map e2,.int c]=some (.tup [.lst true<|(yz P c).1.map D.int,.int (yz P c).2]):=by
 have l:=jbk m;have s:=jol a;have f:=Qc P;by_cases h:10<(ts P).sum
 ·have b:jL (jc [] 0) qT (p2 Vc (p2 jg (p2 yj (pV 1)<|p2 jf (pV 0)<|pI 1)<|pI 9)<|pI 10) (P.map e2) (jt [none,some 1] [‹P.map e2›,some<|.int c,some<|.int (ts P).sum,none,none])=some (P.map λp=>D.int<|(c*p.2+9)/10):=by
   refine jo rfl (λρ=>∃ o,ρ=[o,some<|.int c]) ?_ ⟨none,rfl⟩;rintro x d ρ ⟨o,rfl⟩;refine⟨[some<|e2 x,some<|.int c],rfl,?_,_,rfl⟩;have g:jf (e2 x) (.int 1)=some (.int x.2):=rfl;have n:=(a x d).lo;have q:=(a x d).hi;simp(disch:=lia) [g,vt,JJ]
  have e:(P.map λp=>D.int<|(c*p.2+9)/10)=(ups c P).map D.int:=by unfold ups;rw[U1];rfl
  rw[e] at b;have i:yz P c=(ups c P,(ups c P).sum-c):=if_pos h;rw[i];simp(disch:=lia) [YK,jH,zD,f.1,f.2,l,h,b,jb]
 ·have b:jL (jc [] 0) qT (p2 Vc (p2 yj (pV 1)<|p2 jf (pV 0)<|pI 1)<|pI 10) (P.map e2) (jt [none,some 1] [‹P.map e2›,some<|.int c,some<|.int (ts P).sum,none,none])=some (P.map λp=>D.int<|c*p.2/10):=by
   refine jo rfl (λρ=>∃ o,ρ=[o,some<|.int c]) ?_ ⟨none,rfl⟩;rintro x d ρ ⟨o,rfl⟩;refine⟨[some<|e2 x,some<|.int c],rfl,?_,_,rfl⟩;have g:jf (e2 x) (.int 1)=some (.int x.2):=rfl;have n:=(a x d).lo;have q:=(a x d).hi;simp(disch:=lia) [g,vt,JJ]
  have e:(P.map λp=>D.int<|c*p.2/10)=(wq c P).map D.int:=by unfold wq;rw[U1];rfl
  rw[e] at b;have i:yz P c=(jd0 (c*(ts P).sum/10-(wq c P).sum) 0<|wq c P,0):=if_neg h;rw[i];have j:jt [none,none,some 4] [‹P.map e2›,some<|.int c,some<|.int (ts P).sum,‹(wq c P).map D.int›,some<|.int<|c*(ts P).sum/10-(wq c P).sum]=[none,none,some<|.int<|c*(ts P).sum/10-(wq c P).sum]:=rfl;have k:lim (jM 0<|(wq c P).map D.int).length=true:=jb (by rw[yC];simp[wq];lia);simp(disch:=lia) [YK,jH,zD,f.1,f.2,l,h,b,jb,vt,JJ,j,Qs (c*(ts P).sum/10-(wq c P).sum) (wq c P) 0 none none,k,-List.map_map]
def jfa:(yz P c).1.length=P.length:=by
 unfold yz;split
 ·simp[ups]
 ·rw[wT];simp[wq]
def jjv(d:∀ p∈P,PtOk p)(e:0<=c):∀ x∈(yz P c).1,0<=x:=by
 have b:∀ p∈P,0<=c*p.2:=λp h=>Int.mul_nonneg e (by have:=(d p h).lo;lia);unfold yz;split
 ·intro x a;obtain⟨p,h,rfl⟩:=M5.mp a;have:=b p h
  lia
 ·refine jbl _ _ _ λx a=>?_;obtain⟨p,h,rfl⟩:=M5.mp a;have:=b p h
  lia
theorem zo(a:0<=c)(d:c<T):∀ ns left,(∀ x∈ns,0<=x)->∀(i:Nat) g n,(Vp c T ns left).1[i]?=some g->ns[i]?=some n->0<=g/\g<=n
 | [],left,_,i,g,n,_,h=>by simp at h
 | m::ns,left,hp,i,g,n,h1,h2=>by
  have b:=jbK a d<|hp m (by simp);rw[Vp] at h1;cases i with
  | zero=>
   simp at h2;split at h1<;>simp at h1<;>subst h1<;>lia
  | succ i=>
   simp at h2;split at h1
   ·simp at h1;exact zo a d ns _ (λx e=>hp x<|by simp[e]) i g n h1 h2
   ·simp at h1;exact zo a d ns _ (λx e=>hp x<|by simp[e]) i g n h1 h2
def jdt{ns}{c}(a:0<=c)(h:∀ x∈ns,0<=x){i:Nat}{g n}(h1:(vk ns c)[i]?=some g)(h2:ns[i]?=some n):0<=g/\g<=n:=by
 unfold vk at h1;split at h1
 ·rw[h2] at h1;cases h1;exact⟨h _<|List.mem_of_getElem? h2,Int.le_refl _⟩
 ·exact zo a ∅ ns _ h i g n h1 h2
def jak(a:0<=c)(h:∀ x∈ns,0<=x):(vk ns c=ns/\ns.sum<=c)\/(vk ns c).sum=c:=by
 unfold vk;split
 ·lia
 ·exact .inr (jhL a ∅ h).2
def ja0(l:List W2):jZ (l.map e2)=true:=by
 rw[yP,List.all_map,List.all_eq_true];intro x _;rfl
noncomputable def got(L s:Int):Int:=if s<L then s else L
noncomputable def jlQ:List Nat:=[101,97,116]
noncomputable def put(f:List Nat->Int)(c:List Nat)(v:Int):List Nat->Int:=λn=>if n=c then v else f n
def eat:List (List Nat)->(List Nat->Int)->Int->(List Nat->Int)×Int
 | [],f,L=>(f,L)
 | c::E,f,L=>eat E (put f c<|f c-got L (f c))<|L-got L (f c)
def ji2:Nat->List (List Nat)->(List Nat->Int)->Int->List D
 | _,[],_,_=>[]
 | k,c::E,f,L=>.tup [.int k,.str jlQ,.str c,.int L,.int<|got L<|f c]::ji2 (k+1) E (put f c<|f c-got L (f c)) (L-got L (f c))
def jgu(h:0<=L)(h':0<=s):0<=got L s/\got L s<=L/\got L s<=s:=by unfold got;split<;>lia
def xQ(h:∀ n,0<=f n)(a:0<=v)(n):0<=put f c v n:=by
 unfold put;by_cases e:n=c
 ·lia
 ·rw[if_neg e];exact h n
theorem jgC:∀{E}{f}{L},(∀ n,0<=f n)->0<=L->(∀ n,0<=(eat E f L).1 n/\(eat E f L).1 n<=f n)/\0<=(eat E f L).2
 | [],f,L,h,a=>⟨λn=>⟨h n,Int.le_refl _⟩,a⟩
 | c::E,f,L,h,a=>by
  have g:=jgu a<|h c;have q:=jgC (E:=E) (f:=put f c<|f c-got L (f c)) (L:=L-got L (f c)) (xQ h ∅) ∅;refine⟨λn=>⟨(q.1 n).1,Int.le_trans (q.1 n).2 ?_⟩,q.2⟩;unfold put;split
  ·lia
  ·lia
def jk7(h:d≠c):put f c u d=f d:=if_neg h
def bkD(o:Bool)(S W Rn Lv:List W2)(x:Int):D:=.tup [.lst o<|S.map e2,.lst o<|W.map e2,.lst o<|Rn.map e2,.lst o<|Lv.map e2,.int x]
def V1(o)(S W Rn Lv)(x):fz (bkD o S W Rn Lv x)=bkD false S W Rn Lv x:=by simp[bkD,Jr]
def Ve(S W Rn Lv)(x):frz (bkD false S W Rn Lv x)=true:=by simp[bkD,jT]
def K4(S W Rn Lv)(x):clean (bkD true S W Rn Lv x)=true:=by simp[bkD,ja0]
def jkw{S W Rn Lv}{x}(h1:∀ p∈S,Wd p.1)(h2:∀ p∈W,Wd p.1)(a:∀ p∈Rn,Wd p.1)(b:∀ p∈Lv,Wd p.1)(o)(n):okE (n+3) (bkD o S W Rn Lv x)=true:=by
 show yA (n+2) [.lst o<|S.map e2,.lst o<|W.map e2,.lst o<|Rn.map e2,.lst o<|Lv.map e2,.int x]=true;have c:okE (n+2) (.lst o<|S.map e2)=true:=JY h1 n;have d:okE (n+2) (.lst o<|W.map e2)=true:=JY h2 n;have e:okE (n+2) (.lst o<|Rn.map e2)=true:=JY a n;have f:okE (n+2) (.lst o<|Lv.map e2)=true:=JY b n;simp[yA,c,d,e,f]
theorem Vy(g:N.length<=1000):∀{E}{s}{f}{L}{acc}{o6 o7 o8},(∀ c∈E,c∈N)->acc.length+E.length<=1000 ->
  Ex3 λo6' o7' o8'=>jI (gT 2<|gC (jc [] 6)<|gC (jc [] 7) gN) YQ (jM s<|E.map D.str) [a0,a1,a2,some<|dct true N f,some<|.int L,↑acc,o6,o7,o8,o9] =
   some (.nx [a0,a1,a2,some<|dct true N (eat E f L).1,some<|.int (eat E f L).2,↑(acc++ji2 s E f L),o6',o7',o8',o9])
 | [],s,f,L,acc,o6,o7,o8,_,_=>⟨o6,o7,o8,by rw[ji2,M9];rfl⟩
 | c::E,s,f,L,acc,o6,o7,o8,b,h=>by
  rw[M1] at h;have a:=b c (by simp);obtain⟨o6',o7',o8',e⟩:=Vy (a0:=a0) (a1:=a1) (a2:=a2) (o9:=o9) g (E:=E) (f:=put f c<|f c-got L (f c)) (L:=L-got L (f c)) (acc:=acc++[.tup [.int s,.str jlQ,.str c,.int L,.int<|got L<|f c]]) (o6:=some<|.int s) (o7:=some<|.str c) (o8:=some<|.int<|got L<|f c) (λd hd=>b d<|by simp[hd]) (by rw[N4];simp only[M1,List.length_nil];lia);refine⟨o6',o7',o8',?_⟩;have i:jaa [.int L,.int<|f c]=some (.int<|got L<|f c):=rfl;rw[L5,jM,lpF ?_,e,ji2,eat];simp;simp(disch:=first | lia | (simp;done) | (simp;lia)) [YQ,yu (o:=true) (f:=f) a,i,Yr f a,uG (f:=f) (v:=f c-got L (f c)) a,jb,jlQ];simp[dct,put]
noncomputable def sz'(N:W1)(f:List Nat->Int):List W2:=N.map λn=>(n,f n)
noncomputable def ow'(W:List W2)(f:List Nat->Int):List W2:=W.map λq=>(q.1,if 0<f q.1 then q.2 else 0)
def jb1(d:∀ q∈W,q.1∈N):jL (gT 2<|gC (jc [] 0)<|gC (jc [] 1) gN) qT (yb #[pF<|pV 0,pIf (jl<|p2 Yo (p2 yB (pV 2)<|pV 0)<|pI 0) (pF<|pV 1)<|pI 0]) (W.map e2) [none,none,some<|dct true N f]=some ((ow' W f).map e2):=by
 unfold ow';rw[U1];refine jo rfl (λρ=>∃ o a,ρ=[o,a,some<|dct true N f]) ?_ ⟨none,none,rfl⟩;rintro q e ρ ⟨o,a,rfl⟩;have b:=yu (o:=true) (f:=f)<|d q e;refine⟨[some<|.str q.1,some<|.int q.2,some<|dct true N f],rfl,?_,_,_,rfl⟩;by_cases c:0<f q.1
 ·simp[b,c,jb,e2]
 ·simp[b,c,jb,e2]
def jeQ{p}{S W Rn Lv}{x L}{O}(h:PoolOk O p)(a:S.map (·.1)=p.told.map (·.1))(d:W.map (·.1)=p.told.map (·.1))(F:Rn.length<=10)(G:Lv.length<=10):
  Ks [jE false p,bkD false S W Rn Lv x,.int L]=some (.tup [.lst true<|ji2 0 p.eats (fnOf S) L,bkD true (sz' (p.told.map (·.1)) (eat p.eats (fnOf S) L).1) (ow' W (eat p.eats (fnOf S) L).1) Rn Lv<|x+(eat p.eats (fnOf S) L).2]):=by
 have H:=h.told2;have nd:(S.map (·.1)).Nodup:=by rw[a];exact h.toldn
 have i:S.length<=10:=by
  have:=congrArg List.length a;rw[L1,L1] at this
  lia
 have j:W.length<=10:=by
  have:=congrArg List.length d;rw[L1,L1] at this
  lia
 have k:=h.eats2;have l:jf (bkD false S W Rn Lv x) (.int 0)=‹S.map e2›:=rfl;have m:jf (bkD false S W Rn Lv x) (.int 1)=‹W.map e2›:=rfl;have o:jf (bkD false S W Rn Lv x) (.int 2)=‹Rn.map e2›:=rfl;have r:jf (bkD false S W Rn Lv x) (.int 3)=‹Lv.map e2›:=rfl;have t:jf (bkD false S W Rn Lv x) (.int 4)=some (.int x):=rfl;have u:jf (jE false p) (.int 3)=‹p.eats.map D.str›:=rfl;have v:vh [.lst false<|S.map e2]=some (dct true (p.told.map (·.1))<|fnOf S):=by rw[<- a];exact yI nd ∅
 obtain⟨w,y,z,e⟩:=Vy (a0:=some<|jE false p) (a1:=some<|bkD false S W Rn Lv x) (a2:=some<|.int L) (o9:=none) (by rw[L1];lia) (s:=0) (f:=fnOf S) (L:=L) (acc:=[]) (o6:=none) (o7:=none) (o8:=none) h.eatsm (by simp;lia);have A:=jb1 (N:=p.told.map (·.1)) (f:=(eat p.eats (fnOf S) L).1) (λq B=>by rw[<- d];exact M5.mpr ⟨q,B,rfl⟩);have g:=QZ (p.told.map (·.1)) (eat p.eats (fnOf S) L).1;have b:((p.told.map (·.1)).map λn=>D.tup [.str n,.int<|(eat p.eats (fnOf S) L).1 n])=(sz' (p.told.map (·.1)) (eat p.eats (fnOf S) L).1).map e2:=by simp[sz',e2]
 rw[b] at g;have C:lim W.length=true:=jb ∅;have c:∀ ρ,pV 3 ρ=some (dct true (p.told.map (·.1)) (eat p.eats (fnOf S) L).1)->yr (pV 3) ρ=↑((sz' (p.told.map (·.1)) (eat p.eats (fnOf S) L).1).map e2):=by
  intro ρ E;rw[yr,E];show(bif frzs ((p.told.map (·.1)).map λn=>D.int<|(eat p.eats (fnOf S) L).1 n) then _ else _)=_;rw[uF,<- g];rfl
 generalize bkD false S W Rn Lv x=BK at *;simp(disch:=first | lia | (simp;done) | (simp;lia)) [Ks,jH,jcR,l,m,o,r,t,u,v,e,jt,jT,A,c,jb,bkD,-yr]
def J2{S:List W2}(h:∀ q∈S,0<=q.2)(n):0<=fnOf S n:=by
 unfold fnOf
 induction S with
 | nil=>exact Int.le_refl _
 | cons q S a=>
  rw[lkp];by_cases e:q.1=n
  ·rw[if_pos e];exact h q (by simp)
  ·rw[if_neg e];exact a λr b=>h r (by simp[b])
def hit(rn:List W2):List WL->Option (List Nat)
 | []=>none
 | x::l=>if x.2.1<=(lkp x.1 rn).getD 0 then some x.2.2 else hit rn l
def jbP:∀{L}{o2 o3 o4},(∀ x∈L,x.1∈rn.map (·.1)) ->
  Ex3 λo2' o3' o4'=>jI (gT 3<|gC (jc [] 2)<|gC (jc [] 3)<|gC (jc [] 4) gN) yR (L.map eL) [some<|jE false p,some<|.dK false (rn.map λq=>KA.str q.1)<|rn.map λq=>D.int q.2,o2,o3,o4] =
   match hit rn L with
   | some w=>some<|.rt (.str w) [some<|jE false p,some<|.dK false (rn.map λq=>KA.str q.1)<|rn.map λq=>D.int q.2,o2',o3',o4']
   | none=>some (.nx [some<|jE false p,some<|.dK false (rn.map λq=>KA.str q.1)<|rn.map λq=>D.int q.2,o2',o3',o4']):=by
 intro L
 induction L with
 | nil=>
  intro o2 o3 o4 _;exact⟨o2,o3,o4,rfl⟩
 | cons x L i=>
  intro o2 o3 o4 h;obtain⟨r,c,_⟩:=wy<|h x (by simp);have j:K3 (rn.map λq=>KA.str q.1) (rn.map λq=>D.int q.2) (.str x.1)=some (.int r):=by
   have a:=Q9 x.1<|rn.map λq=>(q.1,D.int q.2);rw[U1,U1,jc8 D.int x.1 rn,c] at a;exact a
  have f:=j;have g:(gT 3<|gC (jc [] 2)<|gC (jc [] 3)<|gC (jc [] 4) gN) (eL x) [some<|jE false p,some<|.dK false (rn.map λq=>KA.str q.1)<|rn.map λq=>D.int q.2,o2,o3,o4]=some [some<|jE false p,some<|.dK false (rn.map λq=>KA.str q.1)<|rn.map λq=>D.int q.2,some<|.str x.1,some<|.int x.2.1,some<|.str x.2.2]:=rfl;by_cases b:x.2.1<=r
  ·have d:hit rn (x::L)=some x.2.2:=by rw[hit,c];exact if_pos b
   refine⟨some<|.str x.1,some<|.int x.2.1,some<|.str x.2.2,?_⟩;rw[d,L5,jK,g,L4];simp[yR,f,b]
  ·have d:hit rn (x::L)=hit rn L:=by rw[hit,c];exact if_neg b
   obtain⟨o2',o3',o4',e⟩:=i (o2:=some<|.str x.1) (o3:=some<|.int x.2.1) (o4:=some<|.str x.2.2) λy k=>h y (by simp[k]);refine⟨o2',o3',o4',?_⟩;rw[d,<- e,L5,jK,g,L4];simp[yR,f,b]
noncomputable def jjG(p:PoolS):List Nat:=(p.orders.map (·.nm)).headD []
def je8(h:PoolOk O p):∃ d,jf (.lst false<|p.orders.map<|vK false) (.int 0)=some d/\jf d (.int 0)=some (.str<|jjG p):=by
 have a:=h.orders1;unfold jjG;cases e:p.orders with
 | nil=>rw[e] at a;simp at a
 | cons x l=>exact⟨vK false x,by rw[jfJ (by decide)<|by simp];rfl,rfl⟩
def jhM(h:PoolOk O p)  (b:rn.map (·.1)=p.told.map (·.1)):
  yX [jE false p,.dK false (rn.map λq=>KA.str q.1)<|rn.map λq=>D.int q.2]=some (.str<|(hit rn p.looks).getD (jjG p)):=by
 obtain⟨c,f,g,e⟩:=jbP (p:=p) (o2:=none) (o3:=none) (o4:=none) (by rw[b];exact λx i=>(h.looks x i).1);obtain⟨d,jjT,jn1⟩:=je8 h;have a:jf (jE false p) (.int 5)=‹p.looks.map eL›:=rfl;have j:jf (jE false p) (.int 4)=‹p.orders.map (vK false)›:=rfl;cases hh:hit rn p.looks with
 | none=>
  rw[hh] at e;simp[yX,jH,qj,a,j,YG,wz,e,jjT,jn1]
 | some w=>
  rw[hh] at e;simp[yX,jH,qj,a,YG,wz,e]
def jj4{O}{p}(h:PoolOk O p){sz ow b lv:List W2}{x}(c:b.map (·.1)=p.told.map (·.1)):
  vE [jE false p,.tup [.lst false<|sz.map e2,.lst false<|ow.map e2,.lst false<|b.map e2,.lst false<|lv.map e2,.int x]]=some (.str<|(hit b p.looks).getD (jjG p)):=by
 have j:b.length<=10:=by
  have:=congrArg List.length c;rw[L1,L1] at this;have:=h.told2
  lia
 have f:jf (.tup [.lst false<|sz.map e2,.lst false<|ow.map e2,.lst false<|b.map e2,.lst false<|lv.map e2,.int x]) (.int 2)=‹b.map e2›:=rfl;have g:vh [.lst false<|b.map e2]=some (.dK true (b.map λq=>KA.str q.1)<|b.map λq=>D.int q.2):=by
  have:=VZ (o:=false) (l:=b.map λq=>(q.1,D.int q.2)) (by rw[U1];have:=h.toldn;rw[<- c] at this;exact this) (by intro q i;obtain⟨a,_,rfl⟩:=M5.mp i;rfl) (by rw[L1];lia);rw[U1,U1,U1] at this;exact this
 have d:fzs (b.map λq=>D.int q.2)=b.map λq=>D.int q.2:=kX (λ_=>rfl) _;have e:fz (.dK true (b.map λq=>KA.str q.1)<|b.map λq=>D.int q.2)=.dK false (b.map λq=>KA.str q.1) (b.map λq=>D.int q.2):=by rw[fz,d]
 simp[vE,jH,Y7,f,g,h.fz false,e,jhM h c]
noncomputable def qv(p:PoolS):List W2:=p.told.map λc=>(c.1,0)
noncomputable def jad(p:PoolS):List W2:=p.told.map λc=>(c.1,c.2.1)
noncomputable def jac(p:PoolS):List W2:=p.marks.map λc=>(c.1,0)
def zI(l:List W3):jL (jc [] 0) qT (yb #[pF<|p2 jf (pV 0)<|pI 0,pI 0]) (l.map e3) [none]=some ((l.map λc=>((c.1,0):W2)).map e2):=by
 rw[U1];refine jo rfl (λρ=>∃ o,ρ=[o]) ?_ ⟨none,rfl⟩;rintro c b ρ ⟨o,rfl⟩;refine⟨[some<|e3 c],rfl,?_,_,rfl⟩;have a:jf (e3 c) (.int 0)=some (.str c.1):=rfl;simp[a,jb,e2]
def jaK(l:List W3):jL (jc [] 0) qT (yb #[pF<|p2 jf (pV 0)<|pI 0,pF<|p2 jf (pV 0)<|pI 1]) (l.map e3) [none]=some ((l.map λc=>((c.1,c.2.1):W2)).map e2):=by
 rw[U1];refine jo rfl (λρ=>∃ o,ρ=[o]) ?_ ⟨none,rfl⟩;rintro c d ρ ⟨o,rfl⟩;refine⟨[some<|e3 c],rfl,?_,_,rfl⟩;have a:jf (e3 c) (.int 0)=some (.str c.1):=rfl;have b:jf (e3 c) (.int 1)=some (.int c.2.1):=rfl;simp[a,b,jb,e2]
def jdQ(l:List W2):jL (jc [] 0) qT (yb #[pF<|p2 jf (pV 0)<|pI 0,pI 0]) (l.map e2) [none]=some ((l.map λc=>((c.1,0):W2)).map e2):=by
 rw[U1];refine jo rfl (λρ=>∃ o,ρ=[o]) ?_ ⟨none,rfl⟩;rintro c a ρ ⟨o,rfl⟩;refine⟨[some<|e2 c],rfl,?_,_,rfl⟩;have b:jf (e2 c) (.int 0)=some (.str c.1):=rfl;simp[ jb];rfl
def jg2(p:PoolS)(rn:List W2):List Nat:=(hit rn p.looks).getD (jjG p)
def jkF{O}{p}(h:PoolOk O p){S W Rn Lv}{x}(a:Rn.map (·.1)=p.told.map (·.1)):vE [jE false p,bkD false S W Rn Lv x]=some (.str<|jg2 p Rn):=jj4 h a
theorem jbo:∀{L},hit rn L=some w->∃ x∈L,x.2.2=w
 | [],h=>by simp[hit] at h
 | x::L,h=>by
  rw[hit] at h;split at h
  ·cases h;exact⟨x,by simp,rfl⟩
  ·obtain⟨y,a,e⟩:=jbo h;exact⟨y,by simp[a],e⟩
def ww(h:PoolOk O p)(a):jg2 p a∈p.orders.map (·.nm):=by
 unfold jg2;cases e:hit a p.looks with
 | some w=>
  obtain⟨x,c,rfl⟩:=jbo e;exact h.looksm x c
 | none=>
  have b:=h.orders1;unfold jjG;cases e:p.orders with
  | nil=>rw[e] at b;simp at b
  | cons x l=>simp
def Kj(h:PoolOk O p):va [jE false p]=some (bkD true (jad p) (qv p) (qv p) (jac p) 0):=by
 have a:jf (jE false p) (.int 1)=‹p.told.map e3›:=rfl;have b:jf (jE false p) (.int 2)=‹p.marks.map e2›:=rfl;have c:=h.told2;have d:=h.marks2;have l1:lim p.told.length=true:=jb ∅;have l2:lim p.marks.length=true:=jb ∅;simp[va,jH,Yj,a,b,YO,jT,l1,l2,jt,zI p.told,jaK p.told,jdQ p.marks,bkD,jad,qv,jac,-List.map_map]
def jgr(p:PoolS):List Nat->Int:=fnOf<|p.told.map λc=>(c.1,c.2.2)
def wd'(p:PoolS)(f:List Nat->Int)(W:List W2):List W2:=W.map λq=>(q.1,if 0<f q.1 then q.2+jgr p q.1 else q.2)
def jb2(l:List W3):jL (jc [] 0) qT (yb #[pF<|p2 jf (pV 0)<|pI 0,pF<|p2 jf (pV 0)<|pI 2]) (l.map e3) [none]=some ((l.map λc=>((c.1,c.2.2):W2)).map e2):=by
 rw[U1];refine jo rfl (λρ=>∃ o,ρ=[o]) ?_ ⟨none,rfl⟩;rintro c d ρ ⟨o,rfl⟩;refine⟨[some<|e3 c],rfl,?_,_,rfl⟩;have a:jf (e3 c) (.int 0)=some (.str c.1):=rfl;have b:jf (e3 c) (.int 2)=some (.int c.2.2):=rfl;simp[a,b,jb,e2]
def Qf{O}{p}(h:PoolOk O p){S W Rn Lv}{x}(b:S.map (·.1)=p.told.map (·.1))(e:W.map (·.1)=p.told.map (·.1)):
  kN [jE false p,bkD false S W Rn Lv x]=some (bkD false S (wd' p (fnOf S) W) Rn Lv x):=by
 have B:=h.told2;have nd:(S.map (·.1)).Nodup:=by rw[b];exact h.toldn
 have m:S.length<=10:=by
  have:=congrArg List.length b;rw[L1,L1] at this
  lia
 have n:W.length<=10:=by
  have:=congrArg List.length e;rw[L1,L1] at this
  lia
 have g:jf (bkD false S W Rn Lv x) (.int 0)=‹S.map e2›:=rfl;have r:jf (bkD false S W Rn Lv x) (.int 1)=‹W.map e2›:=rfl;have s:jf (bkD false S W Rn Lv x) (.int 2)=‹Rn.map e2›:=rfl;have t:jf (bkD false S W Rn Lv x) (.int 3)=‹Lv.map e2›:=rfl;have u:jf (bkD false S W Rn Lv x) (.int 4)=some (.int x):=rfl;have v:jf (jE false p) (.int 1)=‹p.told.map e3›:=rfl;have w:vh [.lst false<|S.map e2]=some (dct true (p.told.map (·.1))<|fnOf S):=by rw[<- b];exact yI nd ∅
 have a:(p.told.map λc=>((c.1,c.2.2):W2)).map (·.1)=p.told.map (·.1):=by simp
 have d:vh [.lst true<|(p.told.map λc=>((c.1,c.2.2):W2)).map e2]=some (dct true (p.told.map (·.1))<|jgr p):=by
  have:=yI (o:=true) (by rw[a];exact h.toldn) (by rw[L1];lia);rw[a] at this;exact this
 have y:jL (gT 2<|gC (jc [] 0)<|gC (jc [] 1) gN) qT (yb #[pF<|pV 0,pIf (jl<|p2 Yo (p2 yB (pV 2)<|pV 0)<|pI 0) (p2 jg (pV 1)<|p2 yB (pV 3)<|pV 0)<|pF<|pV 1]) (W.map e2) [none,none,some (dct true (p.told.map (·.1))<|fnOf S),some (dct true (p.told.map (·.1))<|jgr p)]=some ((wd' p (fnOf S) W).map e2):=by
  unfold wd';rw[U1];refine jo rfl (λρ=>∃ o i,ρ=[o,i,some (dct true (p.told.map (·.1))<|fnOf S),some (dct true (p.told.map (·.1))<|jgr p)]) ?_ ⟨none,none,rfl⟩;rintro q z ρ ⟨o,i,rfl⟩;have j:q.1∈p.told.map (·.1):=by rw[<- e];exact M5.mpr ⟨q,z,rfl⟩
  have k:=yu (o:=true) (f:=fnOf S) j;have A:=yu (o:=true) (f:=jgr p) j;refine⟨[some<|.str q.1,some<|.int q.2,some (dct true (p.told.map (·.1))<|fnOf S),some (dct true (p.told.map (·.1))<|jgr p)],rfl,?_,_,_,rfl⟩;by_cases l:0<fnOf S q.1
  ·simp[k,A,l,jb,e2]
  ·simp[k,l,jb,e2]
 have l1:lim p.told.length=true:=jb ∅;have l2:lim W.length=true:=jb ∅;generalize C:bkD false S W Rn Lv x=BK at *;simp(disch:=first | lia | (simp;done) | (simp;lia)) [kN,jH,Y3,g,r,v,w,d,jb2 p.told,y,jt,jT,Jr,YO,jdB,l1,l2,jb,bkD,-yb,-pIf,-List.map_map];simp(disch:=first | lia | (simp;done) | (simp;lia)) [g,s,t,u,jT,jb]
noncomputable abbrev EN:=List Nat×List Nat
abbrev LN:=List<|EN×Int
noncomputable def kL(r:EN×Int):List KA:=[.str r.1.1,.str r.1.2]
noncomputable def vL(r:EN×Int):D:=.int r.2
def dLn(o:Bool)(l:LN):D:=.dT o (l.map kL)<|l.map vL
noncomputable def qR:LN->EN->Option Int
 | [],_=>none
 | r::l,k=>if r.1=k then some r.2 else qR l k
noncomputable def jgh(l:LN)(k:EN)(v:Int):LN:=l.map λr=>(r.1,if r.1=k then v else r.2)
def jdZ(l:LN)(k:EN)(v:Int):LN:=if k∈l.map (·.1) then jgh l k v else l++[(k,v)]
def jk6:([KA.str a,KA.str b]=[KA.str c,KA.str d])=((a,b)=((c,d):EN)):=by simp
def jcy(r)(k):(kL r=[KA.str k.1,KA.str k.2])=(r.1=k):=by
 obtain⟨⟨a,b⟩,n⟩:=r;obtain⟨c,d⟩:=k;exact jk6
theorem Vk(k):∀ l:LN,zO (l.map kL) (l.map vL) [.str k.1,.str k.2]=(qR l k).map D.int
 | []=>rfl
 | r::l=>by
  rw[L5,L5,zO,qR];by_cases h:r.1=k
  ·rw[if_pos h,if_pos<|by rw[jcy];exact h];rfl
  ·rw[if_neg h,if_neg<|by rw[jcy];exact h,Vk k l]
theorem jcB(k)(v):∀ l:LN,jeM (l.map kL) (l.map vL) [.str k.1,.str k.2] (.int v)=(jgh l k v).map vL
 | []=>rfl
 | r::l=>by
  rw[L5,L5,jeM,jcB k v l];by_cases h:r.1=k
  ·rw[if_pos<|by rw[jcy];exact h];simp[jgh,h,vL]
  ·rw[if_neg<|by rw[jcy];exact h];simp[jgh,h]
theorem jc5(k):∀ l:LN,([KA.str k.1,KA.str k.2]∈l.map kL)↔k∈l.map (·.1)
 | []=>by simp
 | r::l=>by
  rw[L5,L5,M4,M4,jc5 k l];have:=jcy r k;constructor
  ·lia
  ·lia
def jb0(l)(k)(v):(jgh l k v).map (·.1)=l.map (·.1):=by unfold jgh;rw[U1];rfl
def jiZ(l)(k)(v):(jgh l k v).map kL=l.map kL:=by unfold jgh;rw[U1];rfl
def xi(k)(v)(l):KL (l.map kL) (l.map vL) [.str k.1,.str k.2] (.int v)=((jdZ l k v).map kL,(jdZ l k v).map vL):=by
 unfold KL jdZ;by_cases h:k∈l.map (·.1)
 ·rw[if_pos h,if_pos<|(jc5 k l).mpr h,jcB,jiZ]
 ·rw[if_neg h,if_neg λz=>h<|(jc5 k l).mp z];simp[kL,vL]
structure LnOk(N:W1)(l:LN):Prop where
 nd:(l.map (·.1)).Nodup
 mem:∀ r∈l,r.1.1∈N/\r.1.2∈N/\0<=r.2
def jcq(h:LnOk N l)  (h1:k.1∈N) (h2:k.2∈N) (f:0<=v):LnOk N (jdZ l k v):=by
 unfold jdZ;by_cases e:k∈l.map (·.1)
 ·rw[if_pos e];refine⟨by rw[jb0];exact h.nd,λr c=>?_⟩;obtain⟨q,g,rfl⟩:=M5.mp c;have:=h.mem q g;refine⟨this.1,this.2.1,?_⟩;split
  ·lia
  ·lia
 ·rw[if_neg e];refine⟨?_,λr c=>?_⟩
  ·rw[N5,U9];exact⟨h.nd,by simp,λa i b d=>by simp at d;rintro rfl;exact e<|d▸i⟩
  ·rcases N2.mp c with c | c
   ·exact h.mem r c
   ·rw[M7.mp c];exact⟨h1,h2,f⟩
theorem zQ{N:W1}  : ∀{l},(∀ r∈l,r.1.1∈N/\r.1.2∈N/\0<=r.2)->0<=(qR l k).getD 0
 | [],_=>Int.le_refl _
 | r::l,h=>by
  rw[qR];split
  ·exact(h r<|by simp).2.2
  ·exact zQ λq a=>h q (by simp[a])
theorem zf [DecidableEq α]:∀{l m:List α},l.Nodup->(∀ x∈l,x∈m)->l.length<=m.length
 | [],m,_,_=>by simp
 | a::l,m,b,d=>by
  have e:=d a (by simp);rw[List.nodup_cons] at b;have:=zf b.2 λx f=>by
   have c:x≠a:=λz=>b.1<|z▸f;exact(List.mem_erase_of_ne c).mpr (d x<|by simp[f])
  rw[List.length_erase_of_mem e] at this;have g:=List.length_pos_of_mem e;simp only[M1]
  lia
def LnOk.len(h:LnOk N l)(c:N.length<=6):l.length<=36:=by
 have:=zf (m:=N.flatMap λa=>N.map λb=>(a,b)) h.nd λx d=>by
  obtain⟨r,f,rfl⟩:=M5.mp d;have:=h.mem r f;exact List.mem_flatMap.mpr ⟨r.1.1,this.1,M5.mpr ⟨r.1.2,this.2.1,rfl⟩⟩
 rw[L1,List.length_flatMap] at this;have e:(N.map λa=>(N.map λb=>((a,b):EN)).length)=N.map λ_=>N.length:=by simp
 have e2:∀ n (M:W1),(M.map λ_=>n).sum=M.length*n:=λn M=>by
  induction M with
  | nil=>simp
  | cons a M g=>simp only[L5,List.sum_cons,M1,Nat.succ_mul];lia
 rw[e,e2] at this;have i:=Nat.mul_le_mul c c
 lia
noncomputable abbrev MV:=List Nat×List Nat×Int
noncomputable def eM(m:MV):D:=.tup [.str m.1,.str m.2.1,.int m.2.2]
def mvF(nm:List Nat)(l:LN)(m:MV):LN:=if m.1=Ja then jdZ l (nm,m.2.1) ((qR l (nm,m.2.1)).getD 0+m.2.2) else jdZ l (m.2.1,nm) ((qR l (m.2.1,nm)).getD 0-m.2.2)
structure MvOk(nm:List Nat)(N:W1)(c:Int)(l:LN)(m:MV):Prop where
 kd:m.1=Ja\/(m.1=Vv/\m.2.2<=(qR l (m.2.1,nm)).getD 0)
 ot:m.2.1∈N
 po:0<m.2.2
 hi:m.2.2<=c
def jgj(h:LnOk N l)(a:nm∈N)(k:MvOk nm N c l m):LnOk N (mvF nm l m):=by
 unfold mvF;have po:=k.po;rcases k.kd with e | ⟨e,e2⟩
 ·rw[if_pos e];have:=zQ (k:=(nm,m.2.1)) h.mem;exact jcq h a k.ot ∅
 ·rw[if_neg ∅];exact jcq h k.ot a ∅
def uZ(h:0<c)(h2:c<=(qR l k).getD 0):∃ v,qR l k=some v:=by
 cases e:qR l k with
 | some v=>exact⟨v,rfl⟩
 | none=>rw[e] at h2;simp at h2;lia
def jbB(h:l.length<=100)(k:MvOk nm N c l m):yq [dLn true l,.str nm,.str m.1,.str m.2.1,.int m.2.2]=some (.non,dLn true<|mvF nm l m):=by
 have a:lim l.length=true:=jb ∅;rcases k.kd with e | ⟨e,e2⟩
 ·have b:=Vk (nm,m.2.1) l;have p1:=xi (nm,m.2.1) ((qR l (nm,m.2.1)).getD 0+m.2.2) l;have g:Qg (dLn true l) [.str nm,.str m.2.1] (.int 0)=some (.int<|(qR l (nm,m.2.1)).getD 0):=by
   show some ((zO (l.map kL) (l.map vL) [.str nm,.str m.2.1]).getD (.int 0))=_;rw[b];cases qR l (nm,m.2.1)<;>rfl
  have d:mvF nm l m=jdZ l (nm,m.2.1) ((qR l (nm,m.2.1)).getD 0+m.2.2):=if_pos e;rw[d];simp only[dLn] at *;simp[yq,qr,Jj,e,g,p1,a,VV]
 ·obtain⟨v,f⟩:=uZ k.po e2;have b:=Vk (m.2.1,nm) l;rw[f] at b;have d:mvF nm l m=jdZ l (m.2.1,nm) (v-m.2.2):=by unfold mvF;rw[if_neg ∅,f];rfl
  rw[d];simp only[dLn] at *;simp[yq,qr,Jj,jfA,e,b,xi (m.2.1,nm) (v-m.2.2) l,a,VV]
noncomputable def eR(r:EN×Int):D:=.tup [.str r.1.1,.str r.1.2,.int r.2]
def vi(l:LN):frzs (l.map eR)=true:=qg (λ_=>rfl) _
def YJ(l:LN):fzs (l.map eR)=l.map eR:=kX (λ_=>rfl) _
def Qu(l):clean (dLn true l)=true:=by
 have:jZ (l.map vL)=true:=by rw[yP,List.all_map,List.all_eq_true];intro x _;rfl
 simp[dLn,clean,this]
theorem uu:∀(l a:LN),((a++l).map (·.1)).Nodup->(l.map λr=>(kL r,vL r)).foldl (λacc kv=>KL acc.1 acc.2 kv.1 kv.2) (a.map kL,a.map vL)=((a++l).map kL,(a++l).map vL)
 | [],a,_=>by simp
 | r::l,a,h=>by
  have b:r.1∉a.map (·.1):=by
   rw[N5,U9] at h;intro z;exact h.2.2 _ z r.1 (by simp) rfl
  have e:KL (a.map kL) (a.map vL) (kL r) (vL r)=((a++[r]).map kL,(a++[r]).map vL):=by
   have:=xi r.1 r.2 a;unfold jdZ at this;rw[if_neg b] at this;exact this
  show List.foldl _ (KL (a.map kL) (a.map vL) (kL r)<|vL r) _=_;rw[e,uu l (a++[r]) ⇑h];simp
theorem Qx:∀(l:LN) o0 o1 o2,jL (gT 3<|gC (jc [] 0)<|gC (jc [] 1)<|gC (jc [] 2) gN) qT (yb #[pKy (pV 0)<|pV 1,pF<|pV 2]) (l.map eR) [o0,o1,o2]=some (l.map λr=>.tup [.kt<|kL r,vL r])
 | [],_,_,_=>rfl
 | r::l,o0,o1,o2=>by
  have a:=Qx l (some<|.str r.1.1) (some<|.str r.1.2)<|some<|.int r.2;have b:gT 3 (gC (jc [] 0)<|gC (jc [] 1)<|gC (jc [] 2) gN) (eR r) [o0,o1,o2]=some [some<|.str r.1.1,some<|.str r.1.2,some<|.int r.2]:=rfl;rw[L5,vA,b,L4];simp[a,qT,kL,vL,qd,jb]
theorem jkq:∀ l:LN,xg (l.map λr=>.tup [.kt<|kL r,vL r])=some (l.map λr=>(kL r,vL r))
 | []=>rfl
 | r::l=>by rw[L5,xg,jkq l];rfl
def jcI(h:(l.map (·.1)).Nodup)(b:l.length<=1000):yd [.lst false<|l.map eR]=some (dLn true l):=by
 have e:=Qx l none none none;have d:jcJ (l.map λr=>(kL r,vL r))=(l.map kL,l.map vL):=uu l [] ⇑h;have a:lim l.length=true:=jb ∅;have fd:we [.lst true<|l.map λr=>.tup [.kt<|kL r,vL r]]=some (dLn true l):=by
  show(xg _).bind _=_;rw[jkq,L4,d];simp[a,dLn]
 simp[yd,jH,ql,jt,e,fd,vi,a]
def reN(nm:List Nat)(l:LN)(ms:List MV):LN:=ms.foldl (mvF nm) l
def MvsOk(nm:List Nat)(N:W1)(c:Int):LN->List MV->Prop
 | _,[]=>True
 | l,m::ms=>MvOk nm N c l m/\MvsOk nm N c (mvF nm l m) ms
theorem MvsOk.snoc:∀{ms}{l},MvsOk nm N c l ms->MvOk nm N c (reN nm l ms) m->MvsOk nm N c l (ms++[m])
 | [],l,_,h=>⟨h,trivial⟩
 | a::ms,l,h,k=>⟨h.1,MvsOk.snoc h.2 k⟩
def wo(nm)(l)(a)(m):reN nm l (a++[m])=mvF nm (reN nm l a) m:=by simp[reN]
theorem jdm(a:nm∈N):∀{ms}{l},LnOk N l->MvsOk nm N c l ms->LnOk N (reN nm l ms)
 | [],l,h,_=>h
 | m::ms,l,h,k=>jdm a (l:=mvF nm l m) (jgj h a k.1) k.2
theorem Vj(a:nm∈N)(b:N.length<=6)  : ∀{ms}{l}{o4 o5 o6},LnOk N l->MvsOk nm N c l ms ->
  Ex3 λo4' o5' o6'=>jI (gT 3<|gC (jc [] 4)<|gC (jc [] 5)<|gC (jc [] 6) gN) vn (ms.map eM) [a0,some<|.str nm,a2,some<|dLn true l,o4,o5,o6]=some (.nx [a0,some<|.str nm,a2,some<|dLn true<|reN nm l ms,o4',o5',o6'])
 | [],l,o4,o5,o6,_,_=>⟨o4,o5,o6,rfl⟩
 | m::ms,l,o4,o5,o6,h,k=>by
  obtain⟨o4',o5',o6',e⟩:=Vj a b (o4:=some<|.str m.1) (o5:=some<|.str m.2.1) (o6:=some<|.int m.2.2) (jgj h a k.1) k.2;refine⟨o4',o5',o6',?_⟩;have d:=jbB (by have:=h.len b;lia) k.1;rw[L5,lpF ?_,e];rfl;show(some _).bind _=_;simp[vn,d,yD,jU]
theorem VQ:∀ l:LN,jbp (l.map kL) (l.map vL)=some ((l.filter λr=>decide<|0<r.2).map eR)
 | []=>rfl
 | r::l=>by
  show(jbp (l.map kL)<|l.map vL).bind _=_;rw[VQ l,L4,List.filter_cons];by_cases h:0<r.2
  ·simp[h];rfl
  ·simp[h]
theorem uz:∀ l:LN,∃ rs,jae (l.map eR)=some rs
 | []=>⟨[],rfl⟩
 | r::l=>by
  obtain⟨rs,e⟩:=uz l;exact⟨(S r.1.1,S r.1.2,r.2)::rs,by show(jae<|l.map eR).bind _=_;rw[e];rfl⟩
noncomputable def jpb:D->EN
 | .tup [.str a,.str b,_]=>(a,b)
 | _=>([],[])
def jhe(h:LnOk N l)  : ∃(l':LN),An3 (xy rs (l.map eR)=l'.map eR) (LnOk N l') (l'.length=l.length):=by
 have p:=jaA (rs:=rs) (l:=l.map eR);obtain⟨l',e,b⟩:=KO λy c=>by
  obtain⟨r,a,rfl⟩:=M5.mp<|p.mem_iff.mp c;exact⟨r,rfl,a⟩
 refine⟨l',e,⟨?_,λr a=>h.mem r<|b r a⟩,?_⟩
 ·rw[e] at p;have p2:=p.map jpb;rw[U1,U1] at p2;have d:(jpb ∘ eR)=λr:EN×Int=>r.1:=by funext r;rfl
  exact p2.nodup_iff.mpr h.nd
 ·have:=p.length_eq;rw[e,L1,L1] at this;exact this
def jjd(h:LnOk N l):LnOk N (l.filter λr=>decide<|0<r.2):=
 ⟨h.nd.sublist<|List.Sublist.map _<|List.filter_sublist,λr a=>h.mem r (List.mem_filter.mp a).1⟩
def jdw(m:nm∈N)(b:N.length<=6)  (h:LnOk N l) (k:MvsOk nm N c l ms):
  ∃ l':LN,yU [.lst false<|l.map eR,.str nm,.lst false<|ms.map eM]=↑(l'.map eR)/\LnOk N l':=by
 have y:=h.len b;have p:=jcI h.nd ∅;have n:=jdm m h k;have q:=n.len b;obtain⟨s,t,u,e⟩:=Vj m b (a0:=‹l.map eR›) (a2:=‹ms.map eM›) (o4:=none) (o5:=none) (o6:=none) h k;obtain⟨o,e3⟩:=uz<|(reN nm l ms).filter λr=>decide<|0<r.2;obtain⟨l',v,w,_⟩:=jhe (rs:=o)<|jjd n;have x:=VQ<|reN nm l ms;have d:(((reN nm l ms).filter λr=>decide<|0<r.2).map eR).length<64:=by
  rw[L1];have:=List.length_filter_le (λr:EN×Int=>decide<|0<r.2)<|reN nm l ms
  lia
 have f:frzs (ms.map eM)=true:=qg (λ_=>rfl) _;have a:fzs (ms.map eM)=ms.map eM:=kX (λ_=>rfl) _;have g:jij (dLn true<|reN nm l ms)=some ((reN nm l ms).map kL,(reN nm l ms).map vL):=rfl;have i:lim ((reN nm l ms).map kL).length=true:=yZ ∅;have j:=Qu l;refine⟨l',?_,w⟩;simp[yU,jH,qQ,p,j,vi,YJ,f,a,e,g,x,e3,v,dCB,-List.length_map,i,d]
noncomputable def NS:List Str:=["pool_name","marks","sizes","owed","levels","loans","cash","served","entries","moves"]
abbrev I10(o:Bool)(a0 a1 a2 a3 a4 a5 a6 a7 a8 a9:D):D:=.ins o 0 NS [a0,a1,a2,a3,a4,a5,a6,a7,a8,a9]
def joY:Jm NS [a0,a1,a2,a3,a4,a5,a6,a7,a8,a9] "pool_name" = some a0:=rfl
def jjT:Jm NS [a0,a1,a2,a3,a4,a5,a6,a7,a8,a9] "marks" = some a1:=rfl
def jn1:Jm NS [a0,a1,a2,a3,a4,a5,a6,a7,a8,a9] "sizes" = some a2:=rfl
def jpi:Jm NS [a0,a1,a2,a3,a4,a5,a6,a7,a8,a9] "owed" = some a3:=rfl
def jpl:Jm NS [a0,a1,a2,a3,a4,a5,a6,a7,a8,a9] "levels" = some a4:=rfl
def jo8:Jm NS [a0,a1,a2,a3,a4,a5,a6,a7,a8,a9] "loans" = some a5:=rfl
def jo7:Jm NS [a0,a1,a2,a3,a4,a5,a6,a7,a8,a9] "cash" = some a6:=rfl
def jpI:Jm NS [a0,a1,a2,a3,a4,a5,a6,a7,a8,a9] "entries" = some a8:=rfl
def jpL:Jm NS [a0,a1,a2,a3,a4,a5,a6,a7,a8,a9] "moves" = some a9:=rfl
def g2:qC 0 "sizes" jU (I10 true a0 a1 a2 a3 a4 a5 a6 a7 a8 a9)=some (a2,λz=>I10 true a0 a1 z a3 a4 a5 a6 a7 a8 a9):=rfl
def g3:qC 0 "owed" jU (I10 true a0 a1 a2 a3 a4 a5 a6 a7 a8 a9)=some (a3,λz=>I10 true a0 a1 a2 z a4 a5 a6 a7 a8 a9):=rfl
def g4:qC 0 "levels" jU (I10 true a0 a1 a2 a3 a4 a5 a6 a7 a8 a9)=some (a4,λz=>I10 true a0 a1 a2 a3 z a5 a6 a7 a8 a9):=rfl
def g7:qC 0 "served" jU (I10 true a0 a1 a2 a3 a4 a5 a6 a7 a8 a9)=some (a7,λz=>I10 true a0 a1 a2 a3 a4 a5 a6 z a8 a9):=rfl
def g8:qC 0 "entries" jU (I10 true a0 a1 a2 a3 a4 a5 a6 a7 a8 a9)=some (a8,λz=>I10 true a0 a1 a2 a3 a4 a5 a6 a7 z a9):=rfl
def g9:qC 0 "moves" jU (I10 true a0 a1 a2 a3 a4 a5 a6 a7 a8 a9)=some (a9,λz=>I10 true a0 a1 a2 a3 a4 a5 a6 a7 a8 z):=rfl
def jpr:qP NS [a0,a1,a2,a3,a4,a5,a6,a7,a8,a9] "cash" z=(NS,[a0,a1,a2,a3,a4,a5,z,a7,a8,a9]):=rfl
def jfm{a0 a1 a2 a3 a4 a5 a7 a8 a9}{ρ}{i}{pv}{m n}(a:pV i ρ=some (I10 true a0 a1 a2 a3 a4 a5 (.int m) a7 a8 a9))(b:pv ρ=some (.int n)):
  Yh i jU 0 "cash" (λm n=>m-n) pv ρ=some (.nx<|ρ.set i<|some<|I10 true a0 a1 a2 a3 a4 a5 (.int<|m-n) a7 a8 a9):=by
 have e:(NS.length<=900)=True:=by simp[NS]
 unfold Yh;rw[a];simp[jU,jo7,jpr,b,e]
def Kq{ρ}{i}{w}{L}{pk pv}{t}{N}{f}{a}{g}{n}(c:pV i ρ=some t)(d:L t=some (dct true N f,a))(e:pk ρ=some (.str w))(h:pv ρ=some (.int n))(b:w∈N)(j:N.length<=1000):
  vq i L pk g pv ρ=some (.nx<|ρ.set i<|some<|a<|dct true N<|put f w<|g (f w) n):=by
 rw[vq,e,L4,show qd (.str w)=some (.str w) from rfl,L4,c,L4,d,L4,show jfZ (dct true N f,a).1=some (N.map KA.str,N.map λn=>D.int<|f n) from rfl,L4,Yr f b,L4,show vp (.int<|f w)=some (f w) from rfl,L4,h,L4,show vp (.int n)=some n from rfl,L4,yZ ∅,cond_true,uG b];rfl
noncomputable def dSv(o:Bool)(l:W1):D:=.dK o (l.map KA.str)<|l.map λ_=>D.bl true
noncomputable def J3(l:W1)(w:List Nat):List (List Nat):=if w∈l then l else l++[w]
def jlI(l)(w):qc (l.map KA.str) (l.map λ_=>D.bl true) (.str w) (.bl true)=((J3 l w).map KA.str,(J3 l w).map λ_=>D.bl true):=by
 have b:(KA.str w∈l.map KA.str)↔w∈l:=by simp
 have c:∀ l:List (List Nat),jbV (l.map KA.str) (l.map λ_=>D.bl true) (.str w) (.bl true)=l.map λ_=>D.bl true:=λl=>by
  induction l with
  | nil=>rfl
  | cons a l d=>rw[L5,L5,jbV,d];split<;>rfl
 unfold qc J3;by_cases h:w∈l
 ·rw[if_pos h,if_pos<|b.mpr h,c]
 ·rw[if_neg h,if_neg λz=>h<|b.mp z];simp
def jmj(a:pV i ρ=some (I10 true a0 a1 a2 a3 a4 a5 a6 (dSv true l) a8 a9))(b:pk ρ=some (.str w))(c:l.length<=1000):
  YT i (qC 0 "served" jU) pk (pC<|.bl true) ρ=some (.nx<|ρ.set i<|some<|I10 true a0 a1 a2 a3 a4 a5 a6 (dSv true<|J3 l w) a8 a9):=by
 unfold YT;rw[show(pC<|D.bl true) ρ=some (.bl true) from rfl,L4,a,L4,g7,L4];show((pk ρ).bind λq=>_)=_;rw[b,L4];show(bif lim (l.map KA.str).length&&(true||_) then some (Out.nx<|ρ.set i<|some<|I10 true a0 a1 a2 a3 a4 a5 a6 (.dK true (qc (l.map KA.str) (l.map λ_=>D.bl true) (.str w)<|.bl true).1 (qc (l.map KA.str) (l.map λ_=>D.bl true) (.str w)<|.bl true).2) a8 a9) else none)=_;rw[yZ ∅,jlI];rfl
def jfC(h:yB a3 (.str w)=some (.int v)):jh [I10 false a0 a1 a2 a3 a4 a5 a6 a7 a8 a9,.tup [.str jl3,.str w]]=some (.int v):=by
 simp[jh,jH,jN,jpi,h,jja]
def uP(h:yB a3 (.str w)=some (.int v))(h2:yB a2 (.str w)=some (.int u)):jh [I10 false a0 a1 a2 a3 a4 a5 a6 a7 a8 a9,.tup [.str qo,.str w]]=some (.int<|v+u):=by
 simp[jh,jH,jN,jpi,jn1,h,h2,jja]
def jcl(h:yB a1 (.str w)=some (.int v))(h2:yB a4 (.str w)=some (.int u)):∃ z,jh [I10 false a0 a1 a2 a3 a4 a5 a6 a7 a8 a9,.tup [.str jcs,.str w]]=some (.int z)/\0<=z:=by
 refine⟨if v-u<0 then 0 else v-u,?_,by split<;>lia⟩;have a:jkn [.int<|v-u,.int 0]=some (.int<|if v-u<0 then 0 else v-u):=rfl;simp[jh,jH,jN,jjT,jpl,h,h2,jja,a]
def jcv:∃ z,jh [I10 false (.str nm) a1 a2 a3 a4 (dLn false l) a6 a7 a8 a9,.tup [.str Ja,.str w,.int j]]=some (.int z)/\0<=z:=by
 have a:Qg (dLn false l) [.str nm,.str w] (.int 0)=some (.int<|(qR l (nm,w)).getD 0):=by
  show some ((zO (l.map kL) (l.map vL) [.str nm,.str w]).getD (.int 0))=_;rw[Vk (nm,w) l];cases qR l (nm,w)<;>rfl
 generalize(qR l (nm,w)).getD 0=u at a;refine⟨if j-u<0 then 0 else j-u,?_,by split<;>lia⟩;have b:jkn [.int<|j-u,.int 0]=some (.int<|if j-u<0 then 0 else j-u):=rfl;simp[jh,jH,jN,jo8,joY,a,jja,b]
def Qy:jh [I10 false (.str nm) a1 a2 a3 a4 (dLn false l) a6 a7 a8 a9,.tup [.str Vv,.str w]]=some (.int<|(qR l (w,nm)).getD 0):=by
 have a:Qg (dLn false l) [.str w,.str nm] (.int 0)=some (.int<|(qR l (w,nm)).getD 0):=by
  show some ((zO (l.map kL) (l.map vL) [.str w,.str nm]).getD (.int 0))=_;rw[Vk (w,nm) l];cases qR l (w,nm)<;>rfl
 simp[jh,jH,jN,jo8,joY,a,jja]
def jbr:jh [I10 false a0 a1 a2 a3 a4 a5 (.int v) a7 a8 a9,.tup [.str jex,.str w]]=some (.int v):=by
 simp[jh,jH,jN,jo7,jja]
structure En where
 pl:Int
 kd:List Nat
 nm:List Nat
 nd:Int
 gt:Int
noncomputable def e5(e:En):D:=.tup [.int e.pl,.str e.kd,.str e.nm,.int e.nd,.int e.gt]
structure Fl where
 sz:List Nat->Int
 ow:List Nat->Int
 lv:List Nat->Int
 ln:LN
 cash:Int
 sv:List (List Nat)
 en:List En
 mv:List MV
noncomputable abbrev PoolS.C(p:PoolS):List (List Nat):=p.told.map (·.1)
noncomputable abbrev PoolS.P(p:PoolS):List (List Nat):=p.marks.map (·.1)
def jr(p:PoolS)(o:Bool)(x:Fl):D:=I10 o (.str p.nm) (dct o p.P<|fnOf p.marks) (dct o p.C x.sz) (dct o p.C x.ow) (dct o p.P x.lv) (dLn o x.ln) (.int x.cash) (dSv o x.sv) (.lst o<|x.en.map e5)<|.lst o<|x.mv.map eM
def jkl(o)(N)(f):fz (dct o N f)=dct false N f:=by
 have:fzs (N.map λn=>D.int<|f n)=N.map λn=>D.int (f n):=kX (λ_=>rfl) _;simp[dct,fz,this]
def jlt(o)(l):fz (dLn o l)=dLn false l:=by
 have:fzs (l.map vL)=l.map vL:=kX (λ_=>rfl) _;simp[dLn,fz,this]
def jj2(o)(l):fz (dSv o l)=dSv false l:=by
 have:fzs (l.map λ_=>D.bl true)=l.map λ_=>D.bl true:=kX (λ_=>rfl) _;unfold dSv;rw[fz,this]
def jgw(l:List En):fzs (l.map e5)=l.map e5:=kX (λ_=>rfl) _
def jc9(l:List En):frzs (l.map e5)=true:=qg (λ_=>rfl) _
def wv(l:List MV):fzs (l.map eM)=l.map eM:=kX (λ_=>rfl) _
def xC(l:List MV):frzs (l.map eM)=true:=qg (λ_=>rfl) _
def jhs(p)(o)(x):fz (jr p o x)=jr p false x:=by
 unfold jr I10;simp[ jkl,jlt,jj2,fz,jgw,wv]
section
variable {p:PoolS}{x:Fl}{ρ:Rh}{w:List Nat}
def zC{i}{pv}{n}(a:pV i ρ=some (jr p true x))(b:pv ρ=some (.int n)):
  Yh i jU 0 "cash" (λm n=>m-n) pv ρ=some (.nx<|ρ.set i<|some<|jr p true {x with cash:=x.cash-n}):=jfm a b
def QJ{i}{pv}{e}(a:pV i ρ=some (jr p true x))(b:pv ρ=some (e5 e))(c:x.en.length<=1000):
  vZ i (qC 0 "entries" jU) pv ρ=some (.nx<|ρ.set i<|some<|jr p true {x with en:=x.en++[e]}):=by
 rw[vZ,b,L4,a,L4];unfold jr;rw[g8,L4,YS,L4,yZ ∅,cond_true,N5];rfl
def job{i}{pv}{m}(a:pV i ρ=some (jr p true x))(b:pv ρ=some (eM m))(c:x.mv.length<=1000):
  vZ i (qC 0 "moves" jU) pv ρ=some (.nx<|ρ.set i<|some<|jr p true {x with mv:=x.mv++[m]}):=by
 rw[vZ,b,L4,a,L4];unfold jr;rw[g9,L4,YS,L4,yZ ∅,cond_true,N5];rfl
def jeE{i}{pk pv}{n}(a:pV i ρ=some (jr p true x))(b:pk ρ=some (.str w))(c:pv ρ=some (.int n))(d:w∈p.C)(e:p.C.length<=1000):
  vq i (qC 0 "owed" jU) pk (λm n=>m-n) pv ρ=some (.nx<|ρ.set i<|some<|jr p true {x with ow:=put x.ow w (x.ow w-n)}):=Kq a g3 b c d e
def jox{i}{pk pv}{n}(a:pV i ρ=some (jr p true x))(b:pk ρ=some (.str w))(c:pv ρ=some (.int n))(d:w∈p.C)(e:p.C.length<=1000):
  vq i (qC 0 "sizes" jU) pk (λm n=>m-n) pv ρ=some (.nx<|ρ.set i<|some<|jr p true {x with sz:=put x.sz w (x.sz w-n)}):=Kq a g2 b c d e
def jnA{i}{pk pv}{n}(a:pV i ρ=some (jr p true x))(b:pk ρ=some (.str w))(c:pv ρ=some (.int n))(d:w∈p.P)(e:p.P.length<=1000):
  vq i (qC 0 "levels" jU) pk (λm n=>m+n) pv ρ=some (.nx<|ρ.set i<|some<|jr p true {x with lv:=put x.lv w (x.lv w+n)}):=Kq a g4 b c d e
def jmv{i}{pk pv}{n}(a:pV i ρ=some (jr p true x))(b:pk ρ=some (.str w))(c:pv ρ=some (.int n))(d:w∈p.P)(e:p.P.length<=1000):
  vq i (qC 0 "levels" jU) pk (λm n=>m-n) pv ρ=some (.nx<|ρ.set i<|some<|jr p true {x with lv:=put x.lv w (x.lv w-n)}):=Kq a g4 b c d e
def jj1{i}{pk}(a:pV i ρ=some (jr p true x))(b:pk ρ=some (.str w))(c:x.sv.length<=1000):
  YT i (qC 0 "served" jU) pk (pC<|.bl true) ρ=some (.nx<|ρ.set i<|some<|jr p true {x with sv:=J3 x.sv w}):=jmj a b c
def joI{o}:z4 0 "pool_name" (jr p o x)=some (.str p.nm):=rfl
def jh6{o}:z4 0 "owed" (jr p o x)=some (dct o p.C x.ow):=rfl
def joG{o}:z4 0 "levels" (jr p o x)=some (dct o p.P x.lv):=rfl
def Kd{o}:z4 0 "cash" (jr p o x)=some (.int x.cash):=rfl
def jnM{o}:z4 0 "served" (jr p o x)=some (dSv o x.sv):=rfl
def je9{c}(a:w∈p.C)(b:p.C.length<=1000):jq [jr p true x,.str jl3,.str w,.int c]=some (.non,jr p true {x with ow:=put x.ow w (x.ow w-c)}):=by
 simp[jq,qr,yt,jeE (ρ:=[some<|jr p true x,some<|.str jl3,some<|.str w,some<|.int c,none]) (i:=0) (pk:=pV 2) (pv:=pV 3) rfl rfl rfl a b,VV]
def uN{c}(a:w∈p.C)(b:p.C.length<=1000):jq [jr p true x,.str qo,.str w,.int c]=some (.non,jr p true {x with ow:=put x.ow w<|x.ow w-got c (x.ow w),sz:=put x.sz w (x.sz w-(c-got c (x.ow w)))}):=by
 have d:jaa [.int c,.int<|x.ow w]=some (.int<|got c<|x.ow w):=rfl;simp[jq,qr,yt,jeE (ρ:=[some<|jr p true x,some<|.str qo,some<|.str w,some<|.int c,some<|.int<|got c<|x.ow w]) (i:=0) (pk:=pV 2) (pv:=pV 4) rfl rfl rfl a b,jox (ρ:=[some<|jr p true {x with ow:=put x.ow w (x.ow w-got c (x.ow w))},some<|.str qo,some<|.str w,some<|.int c,some<|.int<|got c<|x.ow w]) (i:=0) (pk:=pV 2) (pv:=p2 Vw (pV 3)<|pV 4) (n:=c-got c (x.ow w)) rfl rfl (by simp) a b,jh6 (p:=p) (x:=x) (o:=true),yu (o:=true) (f:=x.ow) a,d,VV]
def jcS{c}(a:w∈p.P)(b:p.P.length<=1000):jq [jr p true x,.str jcs,.str w,.int c]=some (.non,jr p true {x with lv:=put x.lv w (x.lv w+c)}):=by
 simp[jq,qr,yt,jnA (ρ:=[some<|jr p true x,some<|.str jcs,some<|.str w,some<|.int c,none]) (i:=0) (pk:=pV 2) (pv:=pV 3) rfl rfl rfl a b,VV]
def jg7{kw}(h:kw=Ja\/kw=Vv):jaQ false (.str kw) (.tup [.str [108,101,110,100],.str [98,97,99,107]])=some (.bl true):=by
 rcases h with rfl | rfl<;>rfl
def jc3{m}{N}{c}(k:MvOk p.nm N c x.ln m)(d:x.ln.length<=100)(e:x.mv.length<=1000):jq [jr p true x,.str m.1,.str m.2.1,.int m.2.2]=some (.non,jr p true {x with ln:=mvF p.nm x.ln m,mv:=x.mv++[m]}):=by
 have b:=k.kd.imp id (·.1);have a:∀ r:Rh,yD yq 0 (qC 0 "loans" jU) #[pF<|qZ 0 "pool_name"<|pV 0,pF<|pV 1,pF<|pV 2,pF<|pV 3] (some (jr p true x)::some (.str m.1)::some (.str m.2.1)::some (.int m.2.2)::r)=some (.non,some (jr p true {x with ln:=mvF p.nm x.ln m})::some (.str m.1)::some (.str m.2.1)::some (.int m.2.2)::r):=by
  intro r;have f:qC 0 "loans" jU (jr p true x)=some (dLn true x.ln,λz=>I10 true (.str p.nm) (dct true p.P<|fnOf p.marks) (dct true p.C x.sz) (dct true p.C x.ow) (dct true p.P x.lv) z (.int x.cash) (dSv true x.sv) (.lst true<|x.en.map e5)<|.lst true<|x.mv.map eM):=rfl;have e2:jr p true {x with ln:=mvF p.nm x.ln m}=I10 true (.str p.nm) (dct true p.P<|fnOf p.marks) (dct true p.C x.sz) (dct true p.C x.ow) (dct true p.P x.lv) (dLn true<|mvF p.nm x.ln m) (.int x.cash) (dSv true x.sv) (.lst true<|x.en.map e5) (.lst true<|x.mv.map eM):=rfl;rw[e2];unfold yD;simp[joI (p:=p) (x:=x) (o:=true),f,jbB d k]
 have g:(m.1==jl3)=false:=by lia
 have h:(m.1==qo)=false:=by lia
 have j:(m.1==jcs)=false:=by lia
 simp[jq,qr,yt,a,job (ρ:=[some<|jr p true {x with ln:=mvF p.nm x.ln m},some<|.str m.1,some<|.str m.2.1,some<|.int m.2.2,none]) (i:=0) (pv:=yb #[pF<|pV 1,pF<|pV 2,pF<|pV 3]) (m:=m) rfl (by rfl) e,jg7 b,k.po,g,h,j,VV,jb,-vZ]
def Y5{kw}{c}(h:kw=jex\/((kw=Ja\/kw=Vv)/\¬ 0<c)):jq [jr p true x,.str kw,.str w,.int c]=some (.non,jr p true x):=by
 rcases h with rfl | ⟨rfl | rfl,h⟩
 ·rfl
 ·have a:=jg7<|.inl rfl;simp[jq,qr,yt,a,h,VV,jb]
 ·have a:=jg7<|.inr rfl;simp[jq,qr,yt,a,h,VV,jb]
end
def Js(a:pV i ρ=some (jr p true x))(b:pa ρ=some ds)(c:frzs ds=true)
  (d:∀ a0 a1 a2 a3 a4 a5 a6 a7 a8 a9:D,Jm NS [a0,a1,a2,a3,a4,a5,a6,a7,a8,a9] mn=none):yL m i 0 mn pa ρ=(m<|jr p true x::ds).bind λr=>some (r.1,ρ.set i<|some r.2):=by
 rw[yL,b,L4,a,L4];show(bif true&&(frzs ds&&(Jm NS _ mn).isNone) then _ else none)=_;rw[d,c];rfl
def jcd(a:po ρ=some (jr p o x))(b:pa ρ=some ds)
  (c:∀ a0 a1 a2 a3 a4 a5 a6 a7 a8 a9:D,Jm NS [a0,a1,a2,a3,a4,a5,a6,a7,a8,a9] mn=none) (e:m (jr p false x::fzs ds)=some r) (f:clean r=true):JU m 0 mn po pa ρ=some r:=by
 rw[JU,a,L4];show(bif true&&(Jm NS _ mn).isNone then(pa ρ).bind λds=>(m<|fzs<|jr p o x::ds).bind λd=>bif frzs (jr p o x::ds)||clean d then some d else none else none)=_;rw[c,b,L4,fzs,jhs,e,L4,f,Bool.or_true];rfl
def jd9(k:jf d (.int 0)=some (.str kw))(l:jf d (.int 1)=some (.str w))(fd:fz d=d)
  (j:jh [jr p false x,d]=some (.int nd))
  (give:jq [jr p true {x with cash:=x.cash-got nd x.cash,en:=x.en++[⟨pl,kw,w,nd,got nd x.cash⟩]},.str kw,.str w,.int<|got nd x.cash]=some (.non,jr p true y))
  (h:jaQ false (.str kw) (.tup [.str [112,97,121],.str [114,101,112,97,121]])=some (.bl b)) (q:x.en.length<=1000) (t:y.sv.length<=1000):
  jn [jr p true x,.int pl,d]=some (.non,jr p true<|if b=true/\got nd x.cash=nd/\0<nd then{y with sv:=J3 y.sv w} else y):=by
 have m:jaa [.int nd,.int x.cash]=some (.int<|got nd x.cash):=rfl;generalize A:got nd x.cash=g at *;have n:=Kd (p:=p) (x:=x) (o:=true);have a:∀ r:Rh,JU jh 0 "need_of" (pV 0) #[pV 2] (some (jr p true x)::some (.int pl)::some d::r)=some (.int nd):=λr=>jcd rfl (ds:=[d]) (by simp) (λ_ _ _ _ _ _ _ _ _ _=>rfl) (by rw[show fzs [d]=[d] by rw[fzs,fd];rfl];exact j) rfl;have c:=zC (ρ:=[some<|jr p true x,some<|.int pl,some d,some<|.str kw,some<|.str w,some<|.int nd,some<|.int g]) (i:=0) (pv:=pV 6) rfl rfl;have e:=QJ (ρ:=[some<|jr p true {x with cash:=x.cash-g},some<|.int pl,some d,some<|.str kw,some<|.str w,some<|.int nd,some<|.int g]) (i:=0) (pv:=yb #[pF<|pV 1,pF<|pV 3,pF<|pV 4,pF<|pV 5,pF<|pV 6]) (e:=⟨pl,kw,w,nd,g⟩) rfl (by rfl) q;have f:yL jq 0 0 "give" #[pF<|pV 3,pF<|pV 4,pF<|pV 6] [some<|jr p true {x with cash:=x.cash-g,en:=x.en++[⟨pl,kw,w,nd,g⟩]},some<|.int pl,some d,some<|.str kw,some<|.str w,some<|.int nd,some<|.int g]=some (.non,[some<|jr p true y,some<|.int pl,some d,some<|.str kw,some<|.str w,some<|.int nd,some<|.int g]):=by
  rw[Js rfl (ds:=[.str kw,.str w,.int g]) (by simp) rfl<|λ_ _ _ _ _ _ _ _ _ _=>rfl,give];rfl
 have s:=jj1 (ρ:=[some<|jr p true y,some<|.int pl,some d,some<|.str kw,some<|.str w,some<|.int nd,some<|.int g]) (i:=0) (pk:=pV 4) rfl rfl t;have z:jr p true (if b=true/\g=nd/\0<nd then{y with sv:=J3 y.sv w} else y)=if b=true/\g=nd/\0<nd then jr p true {y with sv:=J3 y.sv w} else jr p true y:=by lia
 rw[z];cases b with
 | false=>simp[jn,qr,jW,k,l,a,n,m,c,e,f,h,VV,jb,-vZ,-JU,-yL]
 | true=>
  by_cases u:g=nd
  ·subst u;by_cases v:0<g
   ·simp[jn,qr,jW,k,l,a,n,m,c,e,f,s,h,v,VV,jb,-wR,-vZ,-JU,-yL]
   ·simp[jn,qr,jW,k,l,a,n,m,c,e,f,s,h,v,VV,jb,-wR,-vZ,-JU,-yL]
  ·simp[jn,qr,jW,k,l,a,n,m,c,e,f,s,h,u,VV,jb,-wR,-vZ,-JU,-yL]
def Ch(w:List Nat):Prop:=∀ c∈w,c<1114112
structure EnOk(e:En):Prop where
 k:Ch e.kd
 n:Ch e.nm
def PoolOk.cw{O p c}(h:PoolOk O p)(a:c∈p.told.map (·.1)):Ch c:=by obtain⟨t,b,rfl⟩:=M5.mp a;exact(h.told t b).1.2
def J5{l}{a}(h:∀ e∈l,EnOk e)(b:EnOk a):∀ e∈l++[a],EnOk e:=λe c=>(N2.mp c).elim (h e) λq=>by rw[M7.mp q];exact b
structure FlOk(p:PoolS)(N:W1)(c B:Int)(L0:LN)(x:Fl):Prop where
 sz:∀ n,0<=x.sz n
 ow:∀ n,0<=x.ow n/\x.ow n<=B
 lv:∀ n,0<=x.lv n
 ln:x.ln=reN p.nm L0 x.mv
 mv:MvsOk p.nm N c L0 x.mv
 c0:0<=x.cash
 c1:x.cash<=c
 svl:x.sv.length<=x.en.length
 mvl:x.mv.length<=x.en.length
 ek:∀ e∈x.en,EnOk e
def Qw(l)(w):(J3 l w).length<=l.length+1:=by
 unfold J3;split<;>simp
def jfw [Decidable q] (ky:FlOk p N c B L0 y) (a:y.sv.length+1<=y.en.length):FlOk p N c B L0 (if q then{y with sv:=J3 y.sv w} else y)/\(if q then{y with sv:=J3 y.sv w} else y).en=y.en:=by
 split
 ·exact⟨⟨ky.sz,ky.ow,ky.lv,ky.ln,ky.mv,ky.c0,ky.c1,N7 (Qw _ _) a,ky.mvl,ky.ek⟩,rfl⟩
 ·exact⟨ky,rfl⟩
def xU(h:∀ n,0<=f n/\f n<=B)(a:0<=v)(h1:v<=B)(n):0<=put f w v n/\put f w v n<=B:=by
 unfold put;split
 ·exact⟨a,h1⟩
 ·exact h n
def jbn(h:PoolOk O p)(I:∀ w∈O,w∈N)(Q:p.nm∈N)(R:N.length<=6)(S:LnOk N L0)(k:FlOk p N c B L0 x) 
  (J:(d=.tup [.str kw,.str w]/\jdC p.C p.P O kw w)\/(∃ j,kw=Ja/\d=.tup [.str kw,.str w,.int j]/\w∈O)) (A:Ch w) (T:x.en.length<=900):
  ∃ x' e,jn [jr p true x,.int pl,d]=some (.non,jr p true x')/\FlOk p N c B L0 x'/\x'.en=x.en++[e]:=by
 have K:p.C.length<=1000:=by have:=h.told2;rw[L1];lia
 have U:p.P.length<=1000:=by have:=h.marks2;rw[L1];lia
 have c0:=k.c0;have c1:=k.c1;have svl:=k.svl;have mvl:=k.mvl;have o:LnOk N x.ln:=by rw[k.ln];exact jdm Q S k.mv
 have V:=o.len R;have D:Ch kw:=by
  rcases J with⟨_,⟨rfl | rfl | rfl,a⟩ | ⟨rfl,_⟩ | ⟨rfl,_⟩⟩ | ⟨_,rfl,_⟩<;>unfold Ch<;>decide
 have key:∀{nd:Int}{y:Fl}{b:Bool},jf d (.int 0)=some (.str kw)->jf d (.int 1)=some (.str w)->fz d=d->jh [jr p false x,d]=some (.int nd)->0<=nd ->
   (0<=got nd x.cash->got nd x.cash<=nd->got nd x.cash<=x.cash->jq [jr p true {x with cash:=x.cash-got nd x.cash,en:=x.en++[⟨pl,kw,w,nd,got nd x.cash⟩]},.str kw,.str w,.int<|got nd x.cash]=some (.non,jr p true y)/\
    y.cash=x.cash-got nd x.cash/\y.en=x.en++[⟨pl,kw,w,nd,got nd x.cash⟩]/\y.sv=x.sv/\(∀ n,0<=y.sz n)/\(∀ n,0<=y.ow n/\y.ow n<=B)/\(∀ n,0<=y.lv n)/\y.ln=reN p.nm L0 y.mv/\MvsOk p.nm N c L0 y.mv/\y.mv.length<=x.mv.length+1) ->
   jaQ false (.str kw) (.tup [.str [112,97,121],.str [114,101,112,97,121]])=some (.bl b) ->
   ∃ x' e,jn [jr p true x,.int pl,d]=some (.non,jr p true x')/\FlOk p N c B L0 x'/\x'.en=x.en++[e]:=by
  intro nd y b f g fd r W give E;have F:0<=got nd x.cash/\got nd x.cash<=nd/\got nd x.cash<=x.cash:=by unfold got;split<;>lia
  obtain⟨X,L,G,H,Y,Z,y6,y7,y8,y9⟩:=give F.1 F.2.1 F.2.2;have e:=jd9 (p:=p) (x:=x) (w:=w) (pl:=pl) (y:=y) f g fd r X E ∅ (by rw[H];lia);have M:y.en.length=x.en.length+1:=by rw[G];simp
  have ky:FlOk p N c B L0 y:=⟨Y,Z,y6,y7,y8,by rw[L];lia,by rw[L];lia,by rw[H];lia,by rw[M];exact N7 y9<|Nat.succ_le_succ mvl,by rw[G];exact J5 k.ek ⟨D,A⟩⟩;obtain⟨r1,r2⟩:=jfw (w:=w) (q:=b=true/\got nd x.cash=nd/\0<nd) ky (by rw[H,M];lia);exact⟨_,_,e,r1,r2.trans G⟩
 rcases J with⟨rfl,hk⟩ | ⟨j,rfl,rfl,a⟩
 ·have f:jf (.tup [.str kw,.str w]) (.int 0)=some (.str kw):=rfl;have g:jf (.tup [.str kw,.str w]) (.int 1)=some (.str w):=rfl;rcases hk with⟨rfl | rfl | rfl,a⟩ | ⟨rfl,a⟩ | ⟨rfl,a⟩
  ·refine key (b:=true) f g rfl (jfC<|yu a) (k.ow w).1 (λm i g2=>⟨je9 a K,rfl,rfl,rfl,k.sz,?_,k.lv,k.ln,k.mv,by simp⟩) rfl;have:=k.ow w;exact xU k.ow (by dsimp only;lia) (by dsimp only;lia)
  ·have hs:=k.sz w;have ho:=k.ow w;refine key (b:=true) f g rfl (uP (yu a)<|yu a) ∅ (λm i g2=>⟨uN a K,rfl,rfl,rfl,?_,?_,k.lv,k.ln,k.mv,by simp⟩) rfl
   ·refine xQ k.sz ?_;unfold got;split<;>lia
   ·refine xU k.ow ?_ ?_
    all_goals
     unfold got;split<;>lia
  ·refine key (b:=false) f g rfl jbr c0 (λm i g2=>⟨Y5<|.inl rfl,rfl,rfl,rfl,k.sz,k.ow,k.lv,k.ln,k.mv,by simp⟩) rfl
  ·obtain⟨z,u,v⟩:=jcl (a0:=.str p.nm) (a1:=dct false p.P<|fnOf p.marks) (a2:=dct false p.C x.sz) (a3:=dct false p.C x.ow) (a4:=dct false p.P x.lv) (a5:=dLn false x.ln) (a6:=.int x.cash) (a7:=dSv false x.sv) (a8:=.lst false<|x.en.map e5) (a9:=.lst false<|x.mv.map eM) (w:=w) (yu a)<|yu a;refine key (b:=false) f g rfl u v (λm i g2=>⟨jcS a U,rfl,rfl,rfl,k.sz,k.ow,?_,k.ln,k.mv,by simp⟩) rfl;have:=k.lv w;exact xQ k.lv (by dsimp only;lia)
  ·have s:0<=(qR x.ln (w,p.nm)).getD 0:=zQ o.mem;by_cases t:0<got ((qR x.ln (w,p.nm)).getD 0) x.cash
   ·refine key (b:=false) (y:={x with cash:=x.cash-got ((qR x.ln (w,p.nm)).getD 0) x.cash,en:=x.en++[⟨pl,Vv,w,(qR x.ln (w,p.nm)).getD 0,got ((qR x.ln (w,p.nm)).getD 0) x.cash⟩],ln:=mvF p.nm x.ln (Vv,w,got ((qR x.ln (w,p.nm)).getD 0) x.cash),mv:=x.mv++[(Vv,w,got ((qR x.ln (w,p.nm)).getD 0) x.cash)]}) f g rfl Qy s (λm i g2=>?_) rfl;have mk:MvOk p.nm N c x.ln (Vv,w,got ((qR x.ln (w,p.nm)).getD 0) x.cash):=⟨.inr ⟨rfl,i⟩,I w a,t,by dsimp only;lia⟩;refine⟨jc3 (x:={x with cash:=x.cash-got ((qR x.ln (w,p.nm)).getD 0) x.cash,en:=x.en++[⟨pl,Vv,w,(qR x.ln (w,p.nm)).getD 0,got ((qR x.ln (w,p.nm)).getD 0) x.cash⟩]}) mk ∅ ∅,rfl,rfl,rfl,k.sz,k.ow,k.lv,?_,?_,by simp⟩
    ·dsimp only;rw[wo,<- k.ln]
    ·exact MvsOk.snoc k.mv (by rw[<- k.ln];exact mk)
   ·exact key (b:=false) f g rfl Qy s (λm i g2=>⟨Y5<|.inr ⟨.inr rfl,t⟩,rfl,rfl,rfl,k.sz,k.ow,k.lv,k.ln,k.mv,by simp⟩) rfl
 ·have f:jf (.tup [.str Ja,.str w,.int j]) (.int 0)=some (.str Ja):=rfl;have g:jf (.tup [.str Ja,.str w,.int j]) (.int 1)=some (.str w):=rfl;obtain⟨z,u,v⟩:=jcv (a1:=dct false p.P<|fnOf p.marks) (a2:=dct false p.C x.sz) (a3:=dct false p.C x.ow) (a4:=dct false p.P x.lv) (l:=x.ln) (nm:=p.nm) (a6:=.int x.cash) (a7:=dSv false x.sv) (a8:=.lst false<|x.en.map e5) (a9:=.lst false<|x.mv.map eM) (w:=w) (j:=j);by_cases t:0<got z x.cash
  ·refine key (b:=false) (y:={x with cash:=x.cash-got z x.cash,en:=x.en++[⟨pl,Ja,w,z,got z x.cash⟩],ln:=mvF p.nm x.ln (Ja,w,got z x.cash),mv:=x.mv++[(Ja,w,got z x.cash)]}) f g rfl u v (λm i g2=>?_) rfl;have mk:MvOk p.nm N c x.ln (Ja,w,got z x.cash):=⟨.inl rfl,I w a,t,by dsimp only;lia⟩;refine⟨jc3 (x:={x with cash:=x.cash-got z x.cash,en:=x.en++[⟨pl,Ja,w,z,got z x.cash⟩]}) mk ∅ ∅,rfl,rfl,rfl,k.sz,k.ow,k.lv,?_,?_,by simp⟩
   ·dsimp only;rw[wo,<- k.ln]
   ·exact MvsOk.snoc k.mv (by rw[<- k.ln];exact mk)
  ·exact key (b:=false) f g rfl u v (λm i g2=>⟨Y5<|.inr ⟨.inl rfl,t⟩,rfl,rfl,rfl,k.sz,k.ow,k.lv,k.ln,k.mv,by simp⟩) rfl
noncomputable abbrev W3s:=List Nat×Int×Int
noncomputable def eT(t:W3s):D:=.tup [.str t.1,.int t.2.1,.int t.2.2]
def shE(pl:Int)(t:W3s):En:=⟨pl,yG,t.1,t.2.1,t.2.2⟩
theorem ja6:∀(ws:W1) (ns gs:List Int),jas (ws.map D.str) (ns.map D.int) (gs.map D.int)=(ws.zip<|ns.zip gs).map eT
 | [],_,_=>rfl
 | _::_,[],_=>rfl
 | _::_,_::_,[]=>rfl
 | w::ws,n::ns,g::gs=>by
  rw[L5,L5,L5,jas,ja6 ws ns gs];rfl
theorem VH(h:PoolOk O p)  : ∀{T:List W3s}{x}{o6 o7 o8},FlOk p N c B L0 x->x.en.length+T.length<=950->(T.map (·.1)).Nodup ->
  (∀ t∈T,t.1∈p.C/\t.2.1=x.ow t.1/\0<=t.2.2/\t.2.2<=t.2.1)->(T.map (·.2.2)).sum<=x.cash ->
  Ex4 λ(x':Fl) (o6' o7' o8':Option D)=>An3 (jI (gT 3<|gC (jc [0] 6)<|gC (jc [0] 7)<|gC (jc [0] 8) gN) yp (T.map eT) [some<|jr p true x,some<|.int pl,a2,a3,a4,some<|.bl b,o6,o7,o8]=some (.nx [some<|jr p true x',some<|.int pl,a2,a3,a4,some<|.bl b,o6',o7',o8'])) (FlOk p N c B L0 x')<|x'.en=x.en++T.map (shE pl)
 | [],x,o6,o7,o8,k,_,_,_,_=>⟨x,o6,o7,o8,rfl,k,by simp⟩
 | t::T,x,o6,o7,o8,k,w,nd,g,y=>by
  obtain⟨f,A,E,F⟩:=g t (by simp);rw[L5,List.nodup_cons] at nd;rw[M1] at w;rw[L5,List.sum_cons] at y;have G:0<=(T.map (·.2.2)).sum:=by
   have:∀(T:List W3s),(∀ t∈T,0<=t.2.2)->0<=(T.map (·.2.2)).sum:=λT=>by
    induction T with
    | nil=>intro _;simp
    | cons a T H=>intro q;rw[L5,List.sum_cons];have:=H<|λt g=>q t (by simp[g]);have:=q a (by simp);lia
   exact this T λj l=>(g j<|by simp[l]).2.2.1
  have I:p.C.length<=1000:=by have:=h.told2;rw[L1];lia
  have c1:=k.c1;have svl:=k.svl;have mvl:=k.mvl;have J:=k.ow t.1
  let K:Fl:={x with cash:=x.cash-t.2.2}
  let L:Fl:={K with ow:=put x.ow t.1 (x.ow t.1-t.2.2)}
  let o:Fl:={L with en:=x.en++[shE pl t]}
  let m:Fl:=if b=true then{o with sv:=J3 x.sv t.1} else o
  have M:FlOk p N c B L0 m:=by
   have P:(x.en++[shE pl t]).length=x.en.length+1:=by simp
   have u:∀ n,0<=put x.ow t.1 (x.ow t.1-t.2.2) n/\put x.ow t.1 (x.ow t.1-t.2.2) n<=B:=xU k.ow ∅ ∅;have Q:=Qw x.sv t.1;have d:0<=x.cash-t.2.2/\x.cash-t.2.2<=c:=by lia
   cases b with
   | true=>exact⟨k.sz,u,k.lv,k.ln,k.mv,d.1,d.2,by lia,by lia,J5 k.ek ⟨by show Ch yG;unfold Ch;decide,h.cw f⟩⟩
   | false=>exact⟨k.sz,u,k.lv,k.ln,k.mv,d.1,d.2,by lia,by lia,J5 k.ek ⟨by show Ch yG;unfold Ch;decide,h.cw f⟩⟩
  have v:m.en=x.en++[shE pl t]:=by lia
  have U:m.cash=x.cash-t.2.2:=by lia
  have R:m.ow=put x.ow t.1 (x.ow t.1-t.2.2):=by lia
  obtain⟨x',o6',o7',o8',e,S,r⟩:=VH h (pl:=pl) M (by rw[v];simp;lia) nd.2 (λj l=>by
   have:=g j (by simp[l]);have s:j.1≠t.1:=λz=>nd.1<|z▸M5.mpr ⟨j,l,rfl⟩;rw[R,jk7 s];exact this) ∅
  refine⟨x',o6',o7',o8',?_,S,by rw[r,v];simp⟩;rw[L5,lpF ?_,e];show yp [some<|jr p true x,some<|.int pl,a2,a3,a4,some<|.bl b,some<|.str t.1,some<|.int t.2.1,some<|.int t.2.2]=_;apply sq<|zC rfl rfl;apply sq<|jeE rfl rfl rfl f I;apply sq<|QJ (e:=shE pl t) rfl (by rfl) ∅;cases b with
  | false=>rfl
  | true=>exact jj1 (pk:=pV 6) (ρ:=[some<|jr p true o,some<|.int pl,a2,a3,a4,some<|.bl true,some<|.str t.1,some<|.int t.2.1,some<|.int t.2.2]) (i:=0) rfl rfl ∅
def qD(l:List Int):frzs (l.map D.int)=true:=qg (λ_=>rfl) _
def vY(l:List Int):fzs (l.map D.int)=l.map D.int:=kX (λ_=>rfl) _
def VD(l:List Int):jZ (l.map D.int)=true:=by
 rw[yP,List.all_map,List.all_eq_true];intro x _;rfl
theorem zG:∀{a:List α}{b:List β},a.length=b.length->(a.zip b).map (·.2)=b
 | [],[],_=>rfl
 | [],_::_,h=>by simp at h
 | _::_,[],h=>by simp at h
 | a::l,b::m,h=>by simp at h;simp[zG h]
theorem jbT:∀{a:List α}{b:List β},a.length=b.length->(a.zip b).map (·.1)=a
 | [],[],_=>rfl
 | [],_::_,h=>by simp at h
 | _::_,[],h=>by simp at h
 | a::l,b::m,h=>by simp at h;simp[jbT h]
def jah{x}{N O}{c B}(h:PoolOk O p)(k:FlOk p N c B L0 x)(hB:B<=10 ^ 20)(hc:c<=2 ^ 900){pl:Int}{ws:W1}(hl:ws.length<=20)(Q:∀ w∈ws,w∈p.C)(nd:ws.Nodup)(W:x.en.length<=900):
  Ex2 λx' es=>An4 (jF [jr p true x,.int pl,.tup<|ws.map D.str]=some (.non,jr p true x')) (FlOk p N c B L0 x') (x'.en=x.en++es) (es.length=ws.length):=by
 have c0:=k.c0;have c1:=k.c1
 let ns:=ws.map x.ow
 have d:∀ v∈ns,0<=v/\v<=10 ^ 20:=λv H=>by
  obtain⟨w,_,rfl⟩:=M5.mp H;have:=k.ow w
  lia
 have r:=λv H=>(d v H).1;have j:ns.length=ws.length:=L1 ..;have s:ns.sum<=10 ^ 30:=by
  have:=jgk ns d
  lia
 have l:(vk ns x.cash).length=ws.length:=by rw[xj,j]
 let a:=vk ns x.cash
 let T:=ws.zip<|ns.zip a
 have I:T.map (·.1)=ws:=jbT (by rw[List.length_zip,j,l];simp);have J:T.map (·.2)=ns.zip a:=zG (by rw[List.length_zip,j,l];simp);have K:T.map (·.2.2)=a:=by
  have:T.map (·.2.2)=(T.map (·.2)).map (·.2):=by simp
  rw[this,J];exact zG ∅
 have L:T.length=ws.length:=by rw[<- I,L1]
 have u:∀ t∈T,t.1∈p.C/\t.2.1=x.ow t.1/\0<=t.2.2/\t.2.2<=t.2.1:=by
  intro t M;obtain⟨i,hi⟩:=List.mem_iff_getElem?.mp M;rw[List.getElem?_zip_eq_some] at hi;obtain⟨R,y⟩:=hi;rw[List.getElem?_zip_eq_some] at y;obtain⟨y,X⟩:=y;have S:=jdt c0 r X y;have m:=y;rw[List.getElem?_map,R] at m;simp at m;exact⟨Q _<|List.mem_of_getElem? R,m.symm,S⟩
 have Y:∀ g∈a,0<=g:=λg U=>by
  rw[<- K] at U;obtain⟨t,M,rfl⟩:=M5.mp U;exact(u t M).2.2.1
 have Z:a.sum<=x.cash:=by
  rcases jak c0 r with⟨q1,q2⟩ | q
  ·lia
  ·lia
 let b:Bool:=decide (0<ns.sum)&&decide (a=ns)
 obtain⟨x',o6,o7,o8,e,k',P⟩:=VH h (a2:=some<|.tup<|ws.map D.str) (a3:=‹ns.map D.int›) (a4:=‹a.map D.int›) (b:=b) (o6:=none) (o7:=none) (o8:=none) k ∅ ∅ u ∅;refine⟨x',T.map<|shE pl,?_,k',P,by rw[L1,L]⟩;have V:jL (jc [] 0) qT (pF<|p2 yB (qZ 0 "owed"<|pV 1)<|pV 0) (ws.map D.str) [none,some<|jr p true x]=some (ns.map D.int):=by
  rw[U1];refine jo rfl (λρ=>∃ o,ρ=[o,some<|jr p true x]) ?_ ⟨none,rfl⟩;rintro q hq ρ ⟨o,rfl⟩;refine⟨[some<|.str q,some<|jr p true x],rfl,?_,_,rfl⟩;simp[jh6 (p:=p) (x:=x) (o:=true),yu (o:=true) (f:=x.ow)<|Q q hq]
 have z:=Kd (p:=p) (x:=x) (o:=true);have A:lim ws.length=true:=jb ∅;have E:=jjk true true a ns;have F:jhI 3 [.tup<|ws.map D.str,.lst false<|ns.map D.int,.lst false<|a.map D.int]=some (T.map eT):=by
  rw[jpq rfl rfl rfl (by rw[L1,L1];lia)<|by rw[L1,L1];exact Nat.le_of_eq l.symm,Ki,vY,vY,ja6 ws ns a]
 have G:qM [.lst false<|ns.map D.int,.int x.cash]=↑(a.map D.int):=(jdI ∅ d c0 ∅ s);have S:b=(decide (0<ns.sum)&&decide (a=ns)):=rfl
 clear_value T a ns b
 by_cases q:0<ns.sum
 ·have n:b=decide (a=ns):=by lia
  rw[n] at e;simp[jF,qr,yO,jt,V,z,A,G,E,qD,vY,VD,q,F,e,VV,kj,Ki]
 ·have n:b=false:=by lia
  rw[n] at e;simp[jF,qr,yO,jt,V,z,A,G,E,qD,vY,VD,q,F,e,VV,kj,Ki]
noncomputable abbrev wW:List Nat:=[103,117,97,114,100]
noncomputable abbrev jeF:List Nat:=[112,97,114,116]
noncomputable abbrev jgs:List Nat:=[116,119,105,99,101]
def jaC(h:PoolOk O p)(k:FlOk p N c B L0 x)  (h1:po∈p.P) (h2:cl∈p.C) (b:x.en.length<=900):
  Ex2 λx' e=>An3 (yh [jr p true x,.int pl,.str po,.str cl]=some (.non,jr p true x')) (FlOk p N c B L0 x') (x'.en=x.en++[e]):=by
 have d:p.C.length<=1000:=by have:=h.told2;rw[L1];lia
 have i:p.P.length<=1000:=by have:=h.marks2;rw[L1];lia
 have j:=k.ow cl;have svl:=k.svl;have mvl:=k.mvl;have l:jaa [.int<|x.ow cl,.int<|x.lv po]=some (.int<|got (x.ow cl)<|x.lv po):=rfl;have v:=jgu j.1<|k.lv po;generalize got (x.ow cl) (x.lv po)=g at *
 let m:Fl:={x with lv:=put x.lv po (x.lv po-g)}
 let n:Fl:={m with ow:=put x.ow cl (x.ow cl-g)}
 let a:Fl:={n with en:=x.en++[⟨pl,wW,cl,x.ow cl,g⟩]}
 have q:(x.en++[(⟨pl,wW,cl,x.ow cl,g⟩:En)]).length=x.en.length+1:=by simp
 refine⟨a,⟨pl,wW,cl,x.ow cl,g⟩,?_,⟨k.sz,xU k.ow ∅ ∅,xQ k.lv ∅,k.ln,k.mv,k.c0,k.c1,by lia,by lia,J5 k.ek ⟨by show Ch wW;unfold Ch;decide,h.cw h2⟩⟩,rfl⟩;have r:=jh6 (p:=p) (x:=x) (o:=true);have s:=yu (o:=true) (f:=x.ow) h2;have t:=joG (p:=p) (x:=x) (o:=true);have u:=yu (o:=true) (f:=x.lv) h1;show((yQ [some<|jr p true x,some<|.int pl,some<|.str po,some<|.str cl,none,none]).bind (VV 0))=_;have e:yQ [some<|jr p true x,some<|.int pl,some<|.str po,some<|.str cl,none,none]=some (.nx [some<|jr p true a,some<|.int pl,some<|.str po,some<|.str cl,some<|.int<|x.ow cl,some<|.int g]):=by
  apply sq (ρ':=[some<|jr p true x,some<|.int pl,some<|.str po,some<|.str cl,some<|.int<|x.ow cl,none]) (by generalize jr p true x=X at *;generalize dct true p.C x.ow=D1 at *;simp[r,s]);apply sq (ρ':=[some<|jr p true x,some<|.int pl,some<|.str po,some<|.str cl,some<|.int<|x.ow cl,some<|.int g]) (by generalize jr p true x=X at *;generalize dct true p.P x.lv=D2 at *;simp[t,u,l]);apply sq<|jmv rfl rfl rfl h1 i;apply sq<|jeE rfl rfl rfl h2 d;exact QJ rfl (by rfl) ∅
 rw[e];rfl
def uK{p}{x:Fl}{N}{c B}{f}{ts}{a1 a2}{A:List Int}(h:jf ts (.int 0)=↑(A.map D.int))(i:∀ v∈A,0<=v):∀{Q:List W2}{s}{x}{o4 o5 o6 o7},(∀ q∈Q,Ch q.1)->FlOk p N c B f x->s+Q.length=A.length->x.en.length+Q.length<=900 ->
  Ex6 λx' es o4' o5' o6' o7'=>An4 (jI (gT 2<|gC (jc [0] 4)<|gC (jc [0] 5) gN) vH (jM s<|Q.map e2) [some<|jr p true x,a1,a2,some ts,o4,o5,o6,o7]=some (.nx [some<|jr p true x',a1,a2,some ts,o4',o5',o6',o7'])) (FlOk p N c B f x') (x'.en=x.en++es) (es.length=Q.length):=by
 intro Q
 induction Q with
 | nil=>
  intro s x o4 o5 o6 o7 _ k _ _;exact⟨x,[],o4,o5,o6,o7,rfl,k,by simp,rfl⟩
 | cons q Q r=>
  intro s x o4 o5 o6 o7 n k t j;rw[M1] at t j;have a:s<A.length:=by lia
  have b:jf (.lst true<|A.map D.int) (.int s)=some (.int A[s]):=by
   rw[jfJ ∅ (by rw[L1];lia),N8,List.getElem?_map,X6 a];rfl
  have d:=i _<|List.getElem_mem a;generalize A[s]=ask at b d;have c0:=k.c0;have c1:=k.c1;have svl:=k.svl;have mvl:=k.mvl;have u:jaa [.int ask,.int x.cash]=some (.int<|got ask x.cash):=rfl;have H:0<=got ask x.cash/\got ask x.cash<=ask/\got ask x.cash<=x.cash:=by unfold got;split<;>lia
  generalize got ask x.cash=g at *
  let w:Fl:={x with cash:=x.cash-g}
  let y:Fl:={w with en:=x.en++[⟨s,jeF,q.1,ask,g⟩]}
  have z:(x.en++[(⟨s,jeF,q.1,ask,g⟩:En)]).length=x.en.length+1:=by simp
  have C:FlOk p N c B f y:=⟨k.sz,k.ow,k.lv,k.ln,k.mv,by lia,by lia,by lia,by lia,J5 k.ek ⟨by show Ch jeF;unfold Ch;decide,n q<|by simp⟩⟩;obtain⟨x',es,o4',o5',o6',o7',e,E,l,m⟩:=r (s:=s+1) (λq F=>n q<|by simp[F]) C ∅ ∅;refine⟨x',⟨s,jeF,q.1,ask,g⟩::es,o4',o5',o6',o7',?_,E,by rw[l];show(x.en++[_])++es=_;simp,by rw[M1,M1,m]⟩;have I:jf (e2 q) (.int 0)=some (.str q.1):=rfl;have G:=Kd (p:=p) (x:=x) (o:=true);rw[L5,jM,lpF ?_,e];apply sq (ρ':=[some<|jr p true x,a1,a2,some ts,some<|.int s,some<|e2 q,some<|.int ask,o7]) (by generalize jr p true x=X at *;simp[h,b]);apply sq (ρ':=[some<|jr p true x,a1,a2,some ts,some<|.int s,some<|e2 q,some<|.int ask,some<|.int g]) (by generalize jr p true x=X at *;simp[G,u]);apply sq<|zC rfl rfl;exact QJ rfl (by rfl) ∅
def jaH:∀{os:List OrdS}{o2},(∀ x∈os,OrdOk C P O x)->nm∈os.map (·.nm) ->
  ∃ o∈os,o.nm=nm/\∃ r,jI (jc [] 2) ye (os.map<|vK false) [a0,some<|.str nm,o2]=some (.rt (vK false o) r):=by
 intro os
 induction os with
 | nil=>
  intro o2 _ h;simp at h
 | cons o os f=>
  intro o2 c h;have d:jf (vK false o) (.int 0)=some (.str o.nm):=rfl;by_cases q:o.nm=nm
  ·refine⟨o,by simp,q,[a0,some<|.str nm,some<|vK false o],?_⟩;have a:(o.nm==nm)=true:=by lia
   rw[L5,jK];simp[ye,d,a,(c o<|by simp).frz]
  ·have a:=U2.mpr q;have g:nm∈os.map (·.nm):=by grind
   obtain⟨i,b,j,r,e⟩:=f (λx k=>c x<|by simp[k]) g;refine⟨i,by simp[b],j,r,?_⟩;have l:ye [a0,some<|.str nm,some<|vK false o]=some (.nx [a0,some<|.str nm,some<|vK false o]):=by
    simp[ye,d,a]
   rw[L5,lpE ?_ l,e];rfl
def jeC{p}{O}(h:PoolOk O p){nm}(a:nm∈p.orders.map (·.nm)):∃ o∈p.orders,o.nm=nm/\vx [jE false p,.str nm]=some (vK false o):=by
 obtain⟨o,b,c,r,e⟩:=jaH (a0:=some<|jE false p) (o2:=none) h.orders a;refine⟨o,b,c,?_⟩;have d:jf (jE false p) (.int 4)=‹p.orders.map (vK false)›:=rfl;simp[vx,jH,JF,d,Jx h.orders,Yx h.orders,e]
theorem Q8:∀{ns}{l},f∉ns->ns.length=l.length->qP ns l f v=(ns++[f],l++[v])
 | [],[],_,_=>rfl
 | [],_::_,_,e=>by simp at e
 | _::_,[],_,e=>by simp at e
 | n::ns,x::l,h,e=>by rw[qP,if_neg λz=>h<|by simp[z],Q8 (λz=>h<|by simp[z]) ⇑e];rfl
def v7{f}{pv}{r:Rh}{ns}{l}{v}(a:pv (some (.ins true 0 ns l)::r)=some v)(h:f∉ns/\ns.length<=900:=by decide)(e:ns.length=l.length:=by rfl):JK 0 0 f pv (some (.ins true 0 ns l)::r)=some (.nx<|some (.ins true 0 (ns++[f])<|l++[v])::r):=by
 rw[JK,a,L4];show(bif (0==0)&&decide (ns.length<=900) then some (Out.nx<|some (D.ins true 0 (qP ns l f v).1 (qP ns l f v).2)::r) else none)=_;rw[Q8 h.1 e,X1 h.2];rfl
def jim{p}{O}(h:PoolOk O p){S W Rn Lv}{z c}{ln}(a:S.map (·.1)=p.C)(b:W.map (·.1)=p.C)(d:Lv.map (·.1)=p.P)(f:(ln.map (·.1)).Nodup)(e:ln.length<=1000):
  yH [.ins true 0 [] [],jE false p,bkD false S W Rn Lv z,.int c,.lst false<|ln.map eR]=some (.non,jr p true ⟨fnOf S,fnOf W,fnOf Lv,ln,c,[],[],[]⟩):=by
 have t:=h.told2;have u:=h.marks2;have w:S.length<=10:=by have:=congrArg List.length a;rw[L1,L1] at this;lia
 have x:W.length<=10:=by have:=congrArg List.length b;rw[L1,L1] at this;lia
 have y:Lv.length<=10:=by have:=congrArg List.length d;rw[L1,L1] at this;lia
 have g:vh [.lst false<|p.marks.map e2]=some (dct true p.P<|fnOf p.marks):=yI h.marksn ∅;have i:vh [.lst false<|S.map e2]=some (dct true p.C<|fnOf S):=by rw[<- a];exact yI (by rw[a];exact h.toldn) ∅
 have j:vh [.lst false<|W.map e2]=some (dct true p.C<|fnOf W):=by rw[<- b];exact yI (by rw[b];exact h.toldn) ∅
 have k:vh [.lst false<|Lv.map e2]=some (dct true p.P<|fnOf Lv):=by rw[<- d];exact yI (by rw[d];exact h.marksn) ∅
 have eL:=jcI f e;have l:=Qu ln;have m:jf (bkD false S W Rn Lv z) (.int 0)=‹S.map e2›:=rfl;have n:jf (bkD false S W Rn Lv z) (.int 1)=‹W.map e2›:=rfl;have o:jf (bkD false S W Rn Lv z) (.int 3)=‹Lv.map e2›:=rfl;have q:jf (jE false p) (.int 0)=some (.str p.nm):=rfl;have r:jf (jE false p) (.int 2)=‹p.marks.map e2›:=rfl;generalize bkD false S W Rn Lv z=BK,jE false p=PP at *;show _=some (D.non,D.ins true 0 NS [.str p.nm,dct true p.P<|fnOf p.marks,dct true p.C<|fnOf S,dct true p.C<|fnOf W,dct true p.P<|fnOf Lv,dLn true ln,.int c,.dK true [] [],.lst true [],.lst true []]);generalize dct true p.P (fnOf p.marks)=a1,dct true p.C (fnOf S)=a2,dct true p.C (fnOf W)=a3,dct true p.P (fnOf Lv)=a4,dLn true ln=a5 at *;have s:qf [some<|.ins true 0 [] [],some PP,some BK,some<|.int c,‹ln.map eR›]=some (.nx [some<|.ins true 0 NS [.str p.nm,a1,a2,a3,a4,a5,.int c,.dK true [] [],.lst true [],.lst true []],some PP,some BK,some<|.int c,‹ln.map eR›]):=by
  apply sq<|v7 (v:=.str p.nm) (by simp[q]);apply sq<|v7 (v:=a1) (by simp[r,g]);apply sq<|v7 (v:=a2) (by simp[m,i]);apply sq<|v7 (v:=a3) (by simp[n,j]);apply sq<|v7 (v:=a4) (by simp[o,k]);apply sq<|v7 (v:=a5) (by simp[eL,l,YJ]);apply sq<|v7 (v:=.int c) (by simp);apply sq<|v7 rfl;apply sq<|v7 (v:=.lst true []) (by rfl);exact v7 (by rfl)
 exact congrArg (Option.bind · (VV 0)) s
def jnU(o)(w):∀ l:List (List Nat),∃ b,uH true (.str w) (dSv o l)=some (.bl b):=λl=>⟨_,rfl⟩
def zK(t:NC.length<=1000)  : ∀{R:List W2}{acc}{o4 o5 o6},(∀ q∈R,q.1∈NC/\0<=q.2)->acc.length+R.length<=1000 ->
  Ex4 λ(R':List W2) (o4' o5' o6':Option D)=>An3 (jI (gT 2<|gC (jc [] 4)<|gC (jc [] 5) gN) jw (R.map e2) [some<|jr p false x,a1,some<|dct true NC f,↑(acc.map e2),o4,o5,o6]=some (.nx [some<|jr p false x,a1,some<|dct true NC f,↑((acc++R').map e2),o4',o5',o6'])) (R'.map (·.1)=R.map (·.1)) (∀ q∈R',0<=q.2):=by
 intro R
 induction R with
 | nil=>
  intro acc o4 o5 o6 _ _;exact⟨[],o4,o5,o6,by simp,rfl,by simp⟩
 | cons q R u=>
  intro acc o4 o5 o6 c v;rw[M1] at v;obtain⟨b,m⟩:=jnU false q.1 x.sv;have n:=jnM (p:=p) (x:=x) (o:=false);have g:=yu (o:=true) (f:=f) (c q<|by simp).1;have key:∃ d o6',jw [some<|jr p false x,a1,some<|dct true NC f,↑(acc.map e2),some<|.str q.1,some<|.int q.2,o6]=some (.nx [some<|jr p false x,a1,some<|dct true NC f,↑((acc++[d]).map e2),some<|.str q.1,some<|.int q.2,o6'])/\d.1=q.1/\0<=d.2:=by
   by_cases s:0<f q.1
   ·cases b with
    | true=>exact⟨(q.1,q.2+1),some<|.bl true,by simp(disch:=first | lia | (simp;done) | (simp;lia)) [jw,g,n,m,s,jb,e2],rfl,by have:=(c q<|by simp).2;dsimp only;lia⟩
    | false=>exact⟨(q.1,0),some<|.bl false,by simp(disch:=first | lia | (simp;done) | (simp;lia)) [jw,g,n,m,jb,e2],rfl,Int.le_refl _⟩
   ·exact⟨(q.1,0),some<|.bl false,by simp(disch:=first | lia | (simp;done) | (simp;lia)) [jw,g,s,jb,e2],rfl,Int.le_refl _⟩
  obtain⟨d,o6',h,hd,i⟩:=key;obtain⟨R',o4',o5',a,e,j,k⟩:=u (acc:=acc++[d]) (λr l=>c r<|by simp[l]) (by simp;lia);refine⟨d::R',o4',o5',a,?_,by rw[L5,L5,j,hd],λr l=>(M4.mp l).elim (λz=>by rw[z];exact i) (k r)⟩;rw[L5,lpE ?_ h,e];simp;rfl
def Yc(h:po ρ=some (dct o M f)):yr po ρ=↑((sz' M f).map e2):=by
 unfold yr;rw[h];show(bif frzs (M.map λn=>D.int<|f n) then some (D.lst true<|((M.map KA.str).zip (M.map λn=>D.int<|f n)).map λp=>D.tup [kaD p.1,p.2]) else none)=_;rw[uF,QZ];simp[sz',e2]
def jef{x}{O}(h:PoolOk O p){S W Rn Lv}{z}(a:S.map (·.1)=p.C)(b:Rn.map (·.1)=p.C)(c:∀ q∈Rn,0<=q.2):
  ∃(R':List W2),An3 (R'.map (·.1)=p.C) (∀ q∈R',0<=q.2) (jA [jr p false x,bkD false S W Rn Lv z]=some (bkD true (sz' p.C x.sz) (sz' p.C x.ow) R' (sz' p.P x.lv) z)):=by
 have w:=h.told2;have y:S.length<=10:=by have:=congrArg List.length a;rw[L1,L1] at this;lia
 have A:Rn.length<=10:=by have:=congrArg List.length b;rw[L1,L1] at this;lia
 have j:vh [.lst false<|S.map e2]=some (dct true p.C<|fnOf S):=by rw[<- a];exact yI (by rw[a];exact h.toldn) ∅
 obtain⟨R',k,l,m,e,d,g⟩:=zK (p:=p) (x:=x) (NC:=p.C) (f:=fnOf S) (by rw[L1];lia) (a1:=some<|bkD false S W Rn Lv z) (acc:=[]) (o4:=none) (o5:=none) (o6:=none) (λq i=>⟨by rw[<- b];exact M5.mpr ⟨q,i,rfl⟩,c q i⟩) (by simp;lia);rw[X5,List.map_nil] at e;refine⟨R',by rw[d,b],g,?_⟩;have n:jf (bkD false S W Rn Lv z) (.int 0)=‹S.map e2›:=rfl;have o:jf (bkD false S W Rn Lv z) (.int 2)=‹Rn.map e2›:=rfl;have s:jf (bkD false S W Rn Lv z) (.int 4)=some (.int z):=rfl;have t:∀ r:Rh,yr (qZ 0 "sizes"<|pV 0) (some (jr p false x)::r)=↑((sz' p.C x.sz).map e2):=λr=>Yc rfl;have u:∀ r:Rh,yr (qZ 0 "owed"<|pV 0) (some (jr p false x)::r)=↑((sz' p.C x.ow).map e2):=λr=>Yc rfl;have v:∀ r:Rh,yr (qZ 0 "levels"<|pV 0) (some (jr p false x)::r)=↑((sz' p.P x.lv).map e2):=λr=>Yc rfl;show _=some (D.tup [.lst true<|(sz' p.C x.sz).map e2,.lst true<|(sz' p.C x.ow).map e2,.lst true<|R'.map e2,.lst true<|(sz' p.P x.lv).map e2,.int z]);simp(disch:=first | lia | (simp;done) | (simp;lia)) [jA,jH,vO,n,o,s,j,jT,Jr,e,t,u,v,jb,-yr]
def jai{Q:List W2}(h:PoolOk O p)(k:FlOk p N c B L0 x)(K:c<=2 ^ 900)  (l:∀ q∈Q,Wd q.1/\1<=q.2/\q.2<=10) (m:Q.length<=10) (E:x.en.length<=100):
  Ex2 λx' es=>An4 (jG [jr p true x,.lst false<|Q.map e2]=some (.non,jr p true x')) (FlOk p N c B L0 x') (x'.en=x.en++es) (es.length<=11):=by
 have c0:=k.c0;have c1:=k.c1;have t:∀ q∈Q,PtOk q:=λq j=>⟨(l q j).2.1,(l q j).2.2⟩;have u:=jer m t c0 ∅;have L:=jfa (P:=Q) (c:=x.cash);obtain⟨b,es,v,w,y,z,e,a,f,F⟩:=uK (ts:=.tup [.lst true<|(yz Q x.cash).1.map D.int,.int (yz Q x.cash).2]) (a1:=‹Q.map e2›) (a2:=some<|.int x.cash) rfl (jjv t c0) (Q:=Q) (s:=0) (x:=x) (o4:=none) (o5:=none) (o6:=none) (o7:=none) (λq j=>(l q j).1.2) k ∅ ∅;have g:=Kd (p:=p) (x:=x) (o:=true);have G:jf (.tup [.lst true<|(yz Q x.cash).1.map D.int,.int (yz Q x.cash).2]) (.int 0)=↑((yz Q x.cash).1.map D.int):=rfl;have A:jf (.tup [.lst true<|(yz Q x.cash).1.map D.int,.int (yz Q x.cash).2]) (.int 1)=some (.int (yz Q x.cash).2):=rfl;by_cases C:0<(yz Q x.cash).2
 ·let d:En:=⟨-1,jgs,[],(yz Q x.cash).1.sum,x.cash⟩
  let n:Fl:={b with en:=b.en++[d]}
  have M:(b.en++[d]).length=b.en.length+1:=by simp
  have H:=a.svl;have I:=a.mvl;refine⟨n,es++[d],?_,⟨a.sz,a.ow,a.lv,a.ln,a.mv,a.c0,a.c1,by lia,by lia,J5 a.ek ⟨by show Ch jgs;unfold Ch;decide,λ_ h=>nomatch h⟩⟩,by show b.en++[d]=_;rw[f];simp,by simp;lia⟩;have r:b.en.length<=1000:=by rw[f,N4];lia
  have s2:=QJ (ρ:=[some<|jr p true b,‹Q.map e2›,some<|.int x.cash,some<|.tup [.lst true<|(yz Q x.cash).1.map D.int,.int (yz Q x.cash).2],v,w,y,z]) (i:=0) (pv:=yb #[p1 xx<|pI 1,pS [116,119,105,99,101],pS [],pCB jdJ #[p2 jf (pV 3)<|pI 0],pF<|pV 2]) (e:=d) rfl (by simp[jb,e5,d,G]) r;have J:jr p true {b with en:=b.en++[d]}=jr p true n:=rfl;rw[J] at s2
  clear_value n d
  simp[jG,qr,yM,g,u,jT,Jr,e,A,C,s2,VV,-vZ]
 ·refine⟨b,es,?_,a,f,by lia⟩;simp[jG,qr,yM,g,u,jT,Jr,e,A,C,VV]
def jeB (h : PoolOk O p) (r : ∀ w ∈ O, w ∈ N) (s : p.nm ∈ N) (t : N.length <= 6) (u : LnOk N L0) (v : B <= 10 ^ 20) (y : c <= 2 ^ 900)  (k : FlOk p N c B L0 x)  (z : RuleS p.C p.P O d)  (A : x.en.length <= 800)
     : ∃ x' es,qG [a0,a1,a2,a3,a4,a5,some<|jr p true x,some<|.int pl,some d,a9]=some (.nx [a0,a1,a2,a3,a4,a5,some<|jr p true x',some<|.int pl,some d,a9])/\FlOk p N c B L0 x'/\x'.en=x.en++es/\es.length<=20:=by
 have a:∀{kw w},((d=.tup [.str kw,.str w]/\jdC p.C p.P O kw w)\/(∃ j,kw=Ja/\d=.tup [.str kw,.str w,.int j]/\w∈O))->(kw==yG)=false->Ch w->jf d (.int 0)=some (.str kw)->frz d=true->fz d=d ->
   ∃ x' es,qG [a0,a1,a2,a3,a4,a5,some<|jr p true x,some<|.int pl,some d,a9]=some (.nx [a0,a1,a2,a3,a4,a5,some<|jr p true x',some<|.int pl,some d,a9])/\FlOk p N c B L0 x'/\x'.en=x.en++es/\es.length<=20:=by
  intro kw w hd g l n b E;obtain⟨x',e,ex,o,F⟩:=jbn h r s t u k hd l ∅;refine⟨x',[e],?_,o,F,by simp⟩;have m:=Js (m:=jn) (mn:="take_rule") (pa:=#[pF<|pV 7,pF<|pV 8]) (ρ:=[a0,a1,a2,a3,a4,a5,some<|jr p true x,some<|.int pl,some d,a9]) (i:=6) (ds:=[.int pl,d]) rfl (by simp[b]) (by simp[b])<|λ_ _ _ _ _ _ _ _ _ _=>rfl;rw[ex,L4] at m;simp[qG,n,g,m,-yL]
 cases z with
 | two kw w g J G f=>
  exact a (.inl ⟨rfl,f⟩) (U2.mpr g) G.2 rfl rfl rfl
 | lend w i q f=>exact a (.inr ⟨i,rfl,rfl,f⟩) rfl q.2 rfl rfl rfl
 | share ws H q f nd=>
  obtain⟨x',es,ex,o,bl,I⟩:=jah h k v y (N7 H<|by decide) f nd ∅;refine⟨x',es,?_,o,bl,by lia⟩;have m:=Js (m:=jF) (mn:="take_share") (pa:=#[pF<|pV 7,pF<|p2 jf (pV 8)<|pI 1]) (ρ:=[a0,a1,a2,a3,a4,a5,some<|jr p true x,some<|.int pl,some<|.tup [.str yG,.tup<|ws.map D.str],a9]) (i:=6) (ds:=[.int pl,.tup<|ws.map D.str]) rfl (by simp[jja]) (by simp)<|λ_ _ _ _ _ _ _ _ _ _=>rfl;rw[ex,L4] at m;have n:jf (.tup [.str yG,.tup<|ws.map D.str]) (.int 0)=some (.str yG):=rfl;simp[qG,n,m,-yL]
def uT(h:PoolOk O p)(j:∀ w∈O,w∈N)(l:p.nm∈N)(m:N.length<=6)(n:LnOk N L0)(o:B<=10 ^ 20)(q:c<=2 ^ 900)  : ∀{R}{s}{x}{o7 o8},(∀ d∈R,RuleS p.C p.P O d)->FlOk p N c B L0 x->x.en.length+20*R.length<=800 ->
  Ex4 λx' es o7' o8'=>An4 (jI (gT 2<|gC (jc [] 7)<|gC (jc [] 8) gN) qG (Yn s R) [a0,a1,a2,a3,a4,a5,some<|jr p true x,o7,o8,a9]=some (.nx [a0,a1,a2,a3,a4,a5,some<|jr p true x',o7',o8',a9])) (FlOk p N c B L0 x') (x'.en=x.en++es) (es.length<=20*R.length):=by
 intro R
 induction R with
 | nil=>
  intro s x o7 o8 _ k _;exact⟨x,[],o7,o8,rfl,k,by simp,by simp⟩
 | cons d R r=>
  intro s x o7 o8 i k b;rw[M1] at b;obtain⟨y,f,t,u,a,z⟩:=jeB h j l m n o q k (i d<|by simp) ∅;obtain⟨x',es,o7',o8',e,v,g,A⟩:=r (λd hd=>i d<|by simp[hd]) u (by rw[a,N4];lia);refine⟨x',f++es,o7',o8',?_,v,by rw[g,a,List.append_assoc],by rw[N4,M1];lia⟩;rw[Yn,lpE ?_ t,e];rfl
def xq(h:PoolOk O p)  : ∀{G:List WG}{s}{x}{o7 o9},(∀ g∈G,g.1∈p.P/\g.2∈p.C)->FlOk p N c B L0 x->x.en.length+G.length<=900 ->
  Ex4 λx' es o7' o9'=>An4 (jI (gT 2<|gC (jc [] 7)<|gC (jc [] 9) gN) Kr (jM s<|G.map eG) [a0,a1,a2,a3,a4,a5,some<|jr p true x,o7,a8,o9]=some (.nx [a0,a1,a2,a3,a4,a5,some<|jr p true x',o7',a8,o9'])) (FlOk p N c B L0 x') (x'.en=x.en++es) (es.length=G.length):=by
 intro G
 induction G with
 | nil=>
  intro s x o7 o9 _ k _;exact⟨x,[],o7,o9,rfl,k,by simp,rfl⟩
 | cons g G j=>
  intro s x o7 o9 b k d;rw[M1] at d;obtain⟨t,l,ex,n,a⟩:=jaC h k (b g<|by simp).1 (b g<|by simp).2 ∅;obtain⟨x',es,o7',o9',e,o,f,q⟩:=j (o7:=some<|.int s) (o9:=some<|eG g) (λg r=>b g<|by simp[r]) n (by rw[a,N4,List.length_singleton];lia);refine⟨x',l::es,o7',o9',?_,o,by rw[f,a];simp,by rw[M1,q,M1]⟩;have u:jf (eG g) (.int 0)=some (.str g.1):=rfl;have v:jf (eG g) (.int 1)=some (.str g.2):=rfl;have m:=Js (m:=yh) (mn:="take_guard") (pa:=#[pF<|pV 7,pF<|p2 jf (pV 9)<|pI 0,pF<|p2 jf (pV 9)<|pI 1]) (ρ:=[a0,a1,a2,a3,a4,a5,some<|jr p true x,some<|.int s,a8,some<|eG g]) (i:=6) (ds:=[.int s,.str g.1,.str g.2]) rfl (by rfl) rfl<|λ_ _ _ _ _ _ _ _ _ _=>rfl;rw[ex,L4] at m;rw[L5,jM,lpF ?_,e];simp[Kr,m,-yL]
def jly(a:pV i ρ=some (jr p true x))(b:pe ρ=some r):jjF i 0 "entries" "moves" pe ρ=some (.tup [.lst true<|x.en.map e5,r,.lst true<|x.mv.map eM],ρ.set i none):=by
 rw[jjF,a,L4];have c:ze (jr p true x)=some (0,NS,[.str p.nm,dct true p.P<|fnOf p.marks,dct true p.C x.sz,dct true p.C x.ow,dct true p.P x.lv,dLn true x.ln,.int x.cash,dSv true x.sv,.lst true<|x.en.map e5,.lst true<|x.mv.map eM]):=rfl;rw[c,L4,jpI,jpL,b];rfl
structure BkOk(p:PoolS)(B:Int)(S W Rn Lv:List W2):Prop where
 s1:S.map (·.1)=p.C
 s2:∀ q∈S,0<=q.2
 w1:W.map (·.1)=p.C
 w2:∀ q∈W,0<=q.2/\q.2<=B
 r1:Rn.map (·.1)=p.C
 l1:Lv.map (·.1)=p.P
 l2:∀ q∈Lv,0<=q.2
 r2:∀ q∈Rn,0<=q.2
def xu{B}{S:List W2}(a:0<=B)(h:∀ q∈S,q.2<=B)(n):fnOf S n<=B:=by
 unfold fnOf
 induction S with
 | nil=>exact a
 | cons q S b=>
  rw[lkp];by_cases e:q.1=n
  ·rw[if_pos e];exact h q (by simp)
  ·rw[if_neg e];exact b λr c=>h r (by simp[c])
def jjy{p:PoolS}{N O:W1}{c B:Int}{a:LN}(h:PoolOk O p)(hO:∀ w∈O,w∈N)(hn:p.nm∈N)(V:N.length<=6)(E:LnOk N a)(F:0<=B)(hB:B<=10 ^ 20)(G:0<=c)(X:c<=2 ^ 900){S W Rn Lv:List W2}{z:Int}(b:BkOk p B S W Rn Lv){nm:List Nat}(hm:nm∈p.orders.map (·.nm)):
  Ex3 λ(x:Fl) (es:List En) (R':List W2)=>An7 (wA [jE false p,.str nm,bkD false S W Rn Lv z,.int c,.lst false<|a.map eR]=some (.tup [.lst true<|es.map e5,bkD true (sz' p.C x.sz) (sz' p.C x.ow) R' (sz' p.P x.lv) z,.lst true<|x.mv.map eM])) (FlOk p N c B a x) (R'.map (·.1)=p.C) (∀ q∈R',0<=q.2) (es.length<=300) (x.mv.length<=300) (∀ e∈es,EnOk e):=by
 obtain⟨o,ho,Y,en⟩:=jeC h hm;have f:=h.orders o ho;have hll:=E.len V;have Z:=jim h (c:=c) (z:=z) (Rn:=Rn) b.s1 b.w1 b.l1 E.nd ∅;have k0:FlOk p N c B a ⟨fnOf S,fnOf W,fnOf Lv,a,c,[],[],[]⟩:=⟨J2 b.s2,λn=>⟨J2 (λq H=>(b.w2 q H).1) n,xu F (λq H=>(b.w2 q H).2) n⟩,J2 b.l2,rfl,trivial,G,Int.le_refl _,by simp,by simp,by simp⟩;have d:(⟨fnOf S,fnOf W,fnOf Lv,a,c,[],[],[]⟩:Fl).en=[]:=rfl;generalize(⟨fnOf S,fnOf W,fnOf Lv,a,c,[],[],[]⟩:Fl)=x0 at Z k0 d;obtain⟨x1,es,e1,k1,t,esl⟩:=jai h k0 X f.parts f.plen (by rw[d];simp);have x1l:x1.en.length<=11:=by rw[t,d,X5];lia
 have rl:=f.len;obtain⟨x2,I,J,D,K,k2,u,n2⟩:=uT h hO hn V E hB X (a0:=some<|jE false p) (a1:=some<|.str nm) (a2:=some<|bkD false S W Rn Lv z) (a3:=some<|.int c) (a4:=‹a.map eR›) (a5:=some<|vK false o) (a9:=none) (s:=o.parts.length) (o7:=none) (o8:=none) f.rules k1 ∅;have g2:=h.guards2;obtain⟨j,L,p7,p9,M,Q,R,n3⟩:=xq h (a0:=some<|jE false p) (a1:=some<|.str nm) (a2:=some<|bkD false S W Rn Lv z) (a3:=some<|.int c) (a4:=‹a.map eR›) (a5:=some<|vK false o) (a8:=D) (s:=0) (x:=x2) (o7:=J) (o9:=none) (λg hg=>(h.guards g hg).2.2) k2 (by rw[u,N4];lia);obtain⟨R',T,U,eb⟩:=jef (x:=j) h (S:=S) (W:=W) (Rn:=Rn) (Lv:=Lv) (z:=z) b.s1 b.r1 b.r2;have v:(es++(I++L)).length<=300:=by
  simp only[N4]
  lia
 have k:j.en=es++(I++L):=by rw[R,u,t,d];simp
 have mvl:=Q.mvl;refine⟨j,es++(I++L),R',?_,Q,T,U,v,by rw[k] at mvl;lia,by rw[<- k];exact Q.ek⟩;have i1:jf (vK false o) (.int 1)=‹o.parts.map e2›:=rfl;have i2:jf (vK false o) (.int 2)=‹o.rules›:=rfl;have j6:jf (jE false p) (.int 6)=‹p.guards.map eG›:=rfl;have l:=h.frz;have y:=Ve S W Rn Lv z;have m1:=Js (p:=p) (x:=x0) (m:=jG) (mn:="take_parts") (pa:=#[pF<|p2 jf (pV 5)<|pI 1]) (ρ:=[some<|jE false p,some<|.str nm,some<|bkD false S W Rn Lv z,some<|.int c,‹a.map eR›,some<|vK false o,some<|jr p true x0,none,none,none]) (i:=6) (ds:=[.lst false<|o.parts.map e2]) rfl (by simp[i1,jT]) (by simp[jT])<|λ_ _ _ _ _ _ _ _ _ _=>rfl;rw[e1,L4] at m1;have A:∀ ρ:Rh,#[pF<|p2 jf (pV 5)<|pI 2] ρ=some [.lst false o.rules]->pCB k8 #[p2 jf (pV 5)<|pI 1] ρ=some (.int o.parts.length)->jj0 #[pF<|p2 jf (pV 5)<|pI 2] (pCB k8 #[p2 jf (pV 5)<|pI 1]) ρ=some (Yn o.parts.length o.rules):=by
  intro ρ q1 q2;unfold jj0;rw[q1,q2];have:=f.plen;show(bif VG o.parts.length then some (Yn _<|fzs o.rules) else none)=_;rw[QC ∅ ∅,f.fzr];rfl
 have h1:=A [some<|jE false p,some<|.str nm,some<|bkD false S W Rn Lv z,some<|.int c,‹a.map eR›,some<|vK false o,some<|jr p true x1,none,none,none] (by simp[i2,f.frzr]) (by simp[i1]);have mm:=jcd (p:=p) (x:=j) (o:=true) (m:=jA) (mn:="book_behind") (po:=pV 6) (pa:=#[pV 2]) (ρ:=[some<|jE false p,some<|.str nm,some<|bkD false S W Rn Lv z,some<|.int c,‹a.map eR›,some<|vK false o,some<|jr p true j,p7,D,p9]) (ds:=[bkD false S W Rn Lv z]) rfl (by simp) (λ_ _ _ _ _ _ _ _ _ _=>rfl) (by rw[show fzs [bkD false S W Rn Lv z]=[bkD false S W Rn Lv z] by rw[fzs,V1 false S W Rn Lv z];rfl];exact eb)<|K4 _ _ _ _ _;have m3:=jly (p:=p) (x:=j) (i:=6) (pe:=JU jA 0 "book_behind" (pV 6) #[pV 2]) (ρ:=[some<|jE false p,some<|.str nm,some<|bkD false S W Rn Lv z,some<|.int c,‹a.map eR›,some<|vK false o,some<|jr p true j,p7,D,p9]) rfl mm;rw[k] at m3;have r:uV yH 0 #[pF<|pV 0,pF<|pV 2,pF<|pV 3,pF<|pV 4] [some<|jE false p,some<|.str nm,some<|bkD false S W Rn Lv z,some<|.int c,‹a.map eR›,some<|vK false o,none,none,none,none]=some (jr p true x0):=by
  rw[uV];have:#[pF<|pV 0,pF<|pV 2,pF<|pV 3,pF<|pV 4] [some<|jE false p,some<|.str nm,some<|bkD false S W Rn Lv z,some<|.int c,‹a.map eR›,some<|vK false o,none,none,none,none]=some [jE false p,bkD false S W Rn Lv z,.int c,.lst false<|a.map eR]:=by simp[l,y,vi]
  rw[this,L4,Z];simp[l,y,vi]
 simp[wA,jH,jgK,en,h.fz false,l,r,m1,h1,K,j6,Ka,jcw,M,m3,-yL,-uV,-jjF,-JU]
def jgt(h1:p ρ=some e)(h2:jmu e=some m)(a:ρ[i]?=some (↑l))(c:l.length+m.length<=50000):jjH i p ρ=some (.nx<|ρ.set i<|↑(l++m)):=by
 rw[jjH,h1,L4,h2,L4,pV,a];exact congrArg (λb=>bif b then _ else none)<|jb ∅
def jh3:Nat->List (List Nat)->(List Nat->Int)->Int->List En
 | _,[],_,_=>[]
 | k,c::E,f,L=>⟨k,jlQ,c,L,got L<|f c⟩::jh3 (k+1) E (put f c<|f c-got L (f c)) (L-got L (f c))
theorem jgH:∀ E k f L,ji2 k E f L=(jh3 k E f L).map e5
 | [],_,_,_=>rfl
 | c::E,k,f,L=>by rw[ji2,jh3,jgH E,L5];rfl
theorem xR:∀ E k f L,(jh3 k E f L).length=E.length
 | [],_,_,_=>rfl
 | c::E,k,f,L=>by rw[jh3,M1,M1,xR E]
theorem jdR:∀ E k f L,(∀ w∈E,Ch w)->∀ e∈jh3 k E f L,EnOk e
 | [],_,_,_,_,_,h=>by cases h
 | c::E,k,f,L,a,e,h=>by
  rcases M4.mp h with rfl | h
  ·exact⟨by show Ch jlQ;unfold Ch;decide,a c<|by simp⟩
  ·exact jdR E _ _ _ (λw b=>a w<|by simp[b]) e h
noncomputable abbrev LG:=List Nat×List Nat×En
noncomputable def e7(q:LG):D:=.tup [.str q.1,.str q.2.1,.int q.2.2.pl,.str q.2.2.kd,.str q.2.2.nm,.int q.2.2.nd,.int q.2.2.gt]
def kK(l:List LG):frzs (l.map e7)=true:=qg (λ_=>rfl) _
def V5(l:List LG):fzs (l.map e7)=l.map e7:=kX (λ_=>rfl) _
def YA(M)(f):(sz' M f).map (·.1)=M:=by unfold sz';rw[U1];exact List.map_id _
def Ky(h:q∈sz' M f):∃ n,q.2=f n:=by
 obtain⟨n,_,rfl⟩:=M5.mp h;exact⟨n,rfl⟩
theorem Ql:∀{ms}{l},MvsOk nm N c l ms->∀ m∈ms,m.2.1∈N/\0<=m.2.2/\m.2.2<=c
 | [],_,_,m,h=>by cases h
 | a::ms,l,k,m,h=>by
  rcases M4.mp h with rfl | h
  ·exact⟨k.1.ot,Int.le_of_lt k.1.po,k.1.hi⟩
  ·exact Ql k.2 m h
def jkA(h:PoolOk O p)(n):0<=jgr p n/\jgr p n<=10 ^ 12:=by
 refine⟨J2 (λq b=>?_) n,xu (by decide) (λq b=>?_) n⟩
 all_goals
  obtain⟨a,c,rfl⟩:=M5.mp b;have:=h.told a c
  lia
def je1{nm}{PP}(j:jf PP (.int 0)=some (.str nm))(es:List En):jL (jc [] 0) qT (p2 jg (yb #[pF<|p2 jf (pV 1)<|pI 0,pS []])<|pV 0) (es.map e5) [none,some PP]=some ((es.map λe=>((nm,[],e):LG)).map e7):=by
 rw[U1];refine jo rfl (λρ=>∃ o,ρ=[o,some PP]) ?_ ⟨none,rfl⟩;rintro e b ρ ⟨o,rfl⟩;refine⟨[some<|e5 e,some PP],rfl,?_,_,rfl⟩;have a:jg (.tup [.str nm,.str []]) (e5 e)=some (e7 (nm,[],e)):=rfl;simp[j,a,jb]
def jbd{nm ord}{PP}(j:jf PP (.int 0)=some (.str nm))(es:List En):jL (jc [] 0) qT (p2 jg (yb #[pF<|p2 jf (pV 1)<|pI 0,pF<|pV 2])<|pV 0) (es.map e5) [none,some PP,some<|.str ord]=some ((es.map λe=>((nm,ord,e):LG)).map e7):=by
 rw[U1];refine jo rfl (λρ=>∃ o,ρ=[o,some PP,some<|.str ord]) ?_ ⟨none,rfl⟩;rintro e b ρ ⟨o,rfl⟩;refine⟨[some<|e5 e,some PP,some<|.str ord],rfl,?_,_,rfl⟩;have a:jg (.tup [.str nm,.str ord]) (e5 e)=some (e7 (nm,ord,e)):=rfl;simp[j,a,jb]
def zM{p:PoolS}{N O:W1}{c B:Int}{R:LN}(h:PoolOk O p)(hO:∀ w∈O,w∈N)(hn:p.nm∈N)(hN:N.length<=6)(hL:LnOk N R)(hB0:0<=B)(hB:B<=10 ^ 19)(T:0<=c)(hc:c<=2 ^ 900){S W Rn Lv:List W2}{z d:Int}(b:BkOk p B S W Rn Lv)(s:0<=d):
  Ex8 λ(S' W' R' L':List W2) (z':Int) (ln':LN) (mv:List MV) (sg:List LG)=>An7 (ku [jE false p,bkD false S W Rn Lv z,.lst false<|R.map eR,.int c,.int d] =
    some (.tup [bkD true S' W' R' L' z',.lst true<|ln'.map eR,.lst false<|mv.map eM,.lst true<|sg.map e7])) (BkOk p (B+10 ^ 12) S' W' R' L') (LnOk N ln') (∀ m∈mv,m.2.1∈N/\0<=m.2.2/\m.2.2<=c) (mv.length<=300) (sg.length<=310) (∀ x∈sg,x.1=p.nm/\Ch x.2.1/\EnOk x.2.2):=by
 have lR:Rn.length<=10:=by have:=congrArg List.length b.r1;rw[L1,L1] at this;have:=h.told2;lia
 have lV:Lv.length<=10:=by have:=congrArg List.length b.l1;rw[L1,L1] at this;have:=h.marks2;lia
 have v:=jeQ (x:=z) (L:=d) h b.s1 b.w1 lR lV;have u:=jgC (E:=p.eats) (J2 b.s2) s;generalize hF:(eat p.eats (fnOf S) d).1=F at v u;generalize(eat p.eats (fnOf S) d).2=lft at v u;rw[jgH] at v;have U:=xR p.eats 0 (fnOf S) d;have y:=jdR p.eats 0 (fnOf S) d λw hw=>(h.eats w hw).2;generalize jh3 0 p.eats (fnOf S) d=lg at v U y;have no:=jkF h (S:=S) (W:=W) (Lv:=Lv) (x:=z) b.r1;have A:(sz' p.C F).map (·.1)=p.C:=YA _ _;have G:(ow' W F).map (·.1)=p.C:=by unfold ow';rw[U1];exact b.w1
 have wd:=Qf h (Rn:=Rn) (Lv:=Lv) (x:=z+lft) A G;have b1:BkOk p (B+10 ^ 12) (sz' p.C F) (wd' p (fnOf<|sz' p.C F)<|ow' W F) Rn Lv:=by
  refine⟨A,λq f=>?_,?_,λq f=>?_,b.r1,b.l1,b.l2,b.r2⟩
  ·obtain⟨n,e⟩:=Ky f;rw[e];exact(u.1 n).1
  ·unfold wd';rw[U1];exact G
  ·unfold wd' at f;obtain⟨r,hr,rfl⟩:=M5.mp f;obtain⟨t,ht,rfl⟩:=M5.mp hr;have h1:=b.w2 t ht;have h2:=jkA h t.1;constructor
   ·lia
   ·lia
 obtain⟨x,EN,R',ef,H,V,X,hel,mvl,Y⟩:=jjy h hO hn hN hL ∅ ∅ T hc (z:=z+lft) b1 (ww h Rn);obtain⟨ln',eb,Z⟩:=jdw hn hN hL H.mv;have j:jf (jE false p) (.int 0)=some (.str p.nm):=rfl;have lc1:=je1 (PP:=jE false p) j lg;have I:=jbd (ord:=jg2 p Rn) (PP:=jE false p) j EN;refine⟨sz' p.C x.sz,sz' p.C x.ow,R',sz' p.P x.lv,z+lft,ln',x.mv,(lg.map λe=>((p.nm,[],e):LG))++EN.map λe=>((p.nm,jg2 p Rn,e):LG),?_,⟨YA _ _,λq f=>?_,YA _ _,λq f=>?_,V,YA _ _,λq f=>?_,X⟩,Z,Ql H.mv,mvl,by have:=h.eats2;simp;lia,λq f=>?_⟩
 rotate_left
 ·obtain⟨n,e⟩:=Ky f;rw[e];exact H.sz n
 ·obtain⟨n,e⟩:=Ky f;rw[e];exact H.ow n
 ·obtain⟨n,e⟩:=Ky f;rw[e];exact H.lv n
 ·rcases N2.mp f with f | f
  ·obtain⟨e,he,rfl⟩:=M5.mp f;exact⟨rfl,λ_ h=>(nomatch h),y e he⟩
  ·obtain⟨e,he,rfl⟩:=M5.mp f;exact⟨rfl,by obtain⟨o,ho,eo⟩:=M5.mp<|ww h Rn;rw[<- eo];exact(h.orders o ho).nm.2,Y e he⟩
 have fp:=h.fz false;have fpz:=h.frz;have hb1:=V1 false S W Rn Lv z;have hb2:=Ve S W Rn Lv z;have hb3:=V1 true (sz' p.C F) (ow' W F) Rn Lv<|z+lft;have hb4:=Ve (sz' p.C F) (ow' W F) Rn Lv<|z+lft;have hb5:=V1 false (sz' p.C F) (ow' W F) Rn Lv<|z+lft;have hl1:lim lg.length=true:=jb (by have:=h.eats2;lia);have J:lim EN.length=true:=jb ∅;generalize hG1:(lg.map λe=>((p.nm,[],e):LG))=G1 at *;generalize hG2:(EN.map λe=>((p.nm,jg2 p Rn,e):LG))=G2 at *;have g1l:G1.length<=1000:=by rw[<- hG1,L1];have:=h.eats2;lia
 have g2l:G2.length<=1000:=by rw[<- hG2,L1];lia
 have hl3:lim (G1.length+G2.length)=true:=jb ∅;generalize jE false p=PP,bkD false S W Rn Lv z=B0,bkD false (sz' p.C F) (ow' W F) Rn Lv (z+lft)=B2,bkD true (sz' p.C x.sz) (sz' p.C x.ow) R' (sz' p.P x.lv) (z+lft)=B4 at *;have t0:∀{a b:D},jf (.tup [a,b]) (.int 0)=some a:=rfl;have t1:∀{a b:D},jf (.tup [a,b]) (.int 1)=some b:=rfl;have g:∀{a b c:D},jf (.tup [a,b,c]) (.int 0)=some a:=rfl;have K:∀{a b c:D},jf (.tup [a,b,c]) (.int 1)=some b:=rfl;have k:∀{a b c:D},jf (.tup [a,b,c]) (.int 2)=some c:=rfl;have ha1:fzs (G1.map e7++G2.map e7)=G1.map e7++G2.map e7:=by rw[<- N5,V5]
 have ha2:frzs (G1.map e7++G2.map e7)=true:=by rw[<- N5,kK]
 have lx0:∀{a b c:D},lIx 0 jU (.tup [a,b,c])=some (a,λx=>.tup [x,b,c]):=rfl;have M:∀{a b c:D},lIx 1 jU (.tup [a,b,c])=some (b,λx=>.tup [a,x,c]):=rfl;have Q:∀{a b c:D},lIx 2 jU (.tup [a,b,c])=some (c,λx=>.tup [a,b,x]):=rfl;have hx:=jgt (i:=8) (p:=ya (Jb<|p2 jf (pV 7)<|pI 0) (jc [] 0) qT (p2 jg (yb #[pF<|p2 jf (pV 1)<|pI 0,pF<|pV 2])<|pV 0) [none,some 0,some 6]) (ρ:=[some PP,some B0,‹R.map eR›,some<|.int c,some<|.int d,some<|.tup [.lst false<|lg.map e5,B2],some<|.str<|jg2 p Rn,some<|.tup [.lst false<|EN.map e5,B4,.lst true<|x.mv.map eM],↑(G1.map e7)]) (e:=.lst true<|G2.map e7) (m:=G2.map e7) (l:=G1.map e7) (by simp[ -p2];simp[g,jc9,J,jt,I,-yb]) (by show(bif frzs (G2.map e7) then _ else _)=_;rw[kK];rfl) rfl (by rw[L1,L1];lia);simp[ku,jH,V2,jlc,lx0,M,Q,hx,v,fp,fpz,hb1,hb2,hb3,hb4,hb5,V1 false (sz' p.C F) (wd' p (fnOf<|sz' p.C F)<|ow' W F) Rn Lv<|z+lft,Ve (sz' p.C F) (wd' p (fnOf<|sz' p.C F)<|ow' W F) Rn Lv<|z+lft,no,t0,t1,wd,jgw,jc9,YJ,vi,ef,jt,lc1,I,hl1,J,g,K,k,wv,xC,j,eb,jb,V5,kK,hl3,ha1,-yb,-List.map_map];simp[k,jaR,dCB,jfy,M,Q,YJ,vi,wv,xC,j,eb,jb]
structure Bk where
 S:List W2
 W:List W2
 R:List W2
 L:List W2
 x:Int
def vf(o:Bool)(b:Bk):D:=bkD o b.S b.W b.R b.L b.x
inductive Bks (B:Int):List PoolS->List Bk->Prop where
 | nil:Bks B [] []
 | cons {p:PoolS}{b:Bk}{ps:List PoolS}{bs:List Bk}(h:BkOk p B b.S b.W b.R b.L) (t:Bks B ps bs):Bks B (p::ps) (b::bs)
structure WsOk(n:Nat)(K:Int)(ws:List Int):Prop where
 len:ws.length=n
 ok:∀ v∈ws,0<=v/\v<=K
def zT(o)(b):fz (vf o b)=vf false b:=V1 ..
def Kh(b):frz (vf false b)=true:=Ve ..
def Jt(l:List Bk):frzs (l.map<|vf false)=true:=qg (λp=>Kh p) _
def jeJ(l:List Bk):fzs (l.map<|vf false)=l.map (vf false):=kX (λp=>zT _ p) _
def WsOk.set(h:WsOk n K ws)(b:K<=K')  (c:0<=v) (h1:v<=K'):WsOk n K' (ws.set j v):=by
 refine⟨by rw[List.length_set];exact h.len,λu a=>?_⟩;rcases List.mem_or_eq_of_mem_set a with q | q
 ·have:=h.ok u q;lia
 ·lia
def jaq{N}{f:List Nat->Int}{c}{n:Nat}(p:∀ w,0<=f w/\f w<n){a0 a1 a2 a3 a4 a5 a7 a9 a10 a a12}(x:0<=c):∀{ms:List MV}{ws}{K}{o13 o14 o15},WsOk n K ws->(∀ m∈ms,m.2.1∈N/\0<=m.2.2/\m.2.2<=c) ->
  Ex4 λws' o13' o14' o15'=>An2 (jI (gT 3<|gC (jc [] 13)<|gC (jc [] 14)<|gC (jc [] 15) gN) vQ (ms.map eM) [a0,a1,a2,a3,a4,a5,↑(ws.map D.int),a7,some<|dct true N f,a9,a10,a,a12,o13,o14,o15]=some (.nx [a0,a1,a2,a3,a4,a5,↑(ws'.map D.int),a7,some<|dct true N f,a9,a10,a,a12,o13',o14',o15'])) (WsOk n (K+c*ms.length) ws'):=by
 intro ms
 induction ms with
 | nil=>
  intro ws K o13 o14 o15 h _;exact⟨ws,o13,o14,o15,rfl,by simpa using h⟩
 | cons m ms q=>
  intro ws K o13 o14 o15 h l;obtain⟨r,y,z⟩:=l m (by simp);have g:=p m.2.1;have s:(f m.2.1).toNat<ws.length:=by rw[h.len];lia
  have A:=h.ok _<|List.getElem_mem s;have j:ixN (ws.map D.int).length (f m.2.1)=some (f m.2.1).toNat:=by
   have:=ux (n:=(ws.map D.int).length) (i:=(f m.2.1).toNat) (by rw[L1];lia);rw[Int.toNat_of_nonneg g.1] at this;exact this
  have b:(ws.map D.int)[(f m.2.1).toNat]?=some (.int ws[(f m.2.1).toNat]):=by simp
  have d:(ws.map D.int).set (f m.2.1).toNat (.int<|ws[(f m.2.1).toNat]+m.2.2)=(ws.set (f m.2.1).toNat (ws[(f m.2.1).toNat]+m.2.2)).map D.int:=by simp
  obtain⟨ws',o13',o14',o15',e,k⟩:=q (ws:=ws.set (f m.2.1).toNat (ws[(f m.2.1).toNat]+m.2.2)) (K:=K+c) (h.set ∅ ∅ ∅)<|λt k=>l t (by simp[k]);refine⟨ws',o13',o14',o15',?_,?_⟩
  ·have u:vQ [a0,a1,a2,a3,a4,a5,↑(ws.map D.int),a7,some<|dct true N f,a9,a10,a,a12,some<|.str m.1,some<|.str m.2.1,some<|.int m.2.2]=some (.nx [a0,a1,a2,a3,a4,a5,↑((ws.set (f m.2.1).toNat (ws[(f m.2.1).toNat]+m.2.2)).map D.int),a7,some<|dct true N f,a9,a10,a,a12,some<|.str m.1,some<|.str m.2.1,some<|.int m.2.2]):=by
    rw[<- d];simp only[vQ,Qj,p2,pV0,pVs,L4,yu (o:=true) (f:=f) r,jbQ,YS,j,b];rfl
   rw[L5,lpE ?_ u,e];rfl
  ·have v:K+c*((m::ms).length:Int)=K+c+c*ms.length:=by rw[M1];push_cast;rw[Int.mul_add];lia
   rw[v];exact k
def Ji(bs:List Bk)(ln:LN)(ws:List Int):D:=.tup [.lst false<|bs.map<|vf false,.lst false<|ln.map eR,.lst false<|ws.map D.int]
def jd3{N}{f:List Nat->Int}{B K}{p:PoolS}{X:W1}(h:PoolOk X p)(hX:∀ w∈X,w∈N)(hn:p.nm∈N)(hN:N.length<=6){n:Nat}(hf:∀ w,0<=f w/\f w<n)(E:0<=B)(hB:B<=10 ^ 19)(hA:10 ^ 31<=K)(hK:K<=2 ^ 890)
  {bs:List Bk}{ln0:LN}{ws0:List Int}{e los:List Int}{s:Nat}{b:Bk}(hb:bs[s]?=some b) (F:BkOk p B b.S b.W b.R b.L) {g lo:Int}(hi:e[s]?=some g) (hi0:0<=g) (hi1:g<=10 ^ 31) (t:los[s]?=some lo) (G:0<=lo) (hs:s<n)
  {acc:List Bk}(hacc:acc.length<=10) {ln:LN}(hL:LnOk N ln) {ob:Bool}{ws:List Int}(H:WsOk n K ws) {log:List LG}(hlog:log.length<=2000) {a0 o11 o12 o13 o14 o15:Option D}:
  Ex9 λb' ln' ws' seg o11' o12' o13' o14' o15'=>An6 (qw [a0,some<|Ji bs ln0 ws0,‹e.map D.int›,‹los.map D.int›,↑(acc.map<|vf true),some<|.lst ob<|ln.map eR,↑(ws.map D.int),↑(log.map e7),some<|dct true N f,some<|.int s,some<|jE false p,o11,o12,o13,o14,o15] =
    some (.nx [a0,some<|Ji bs ln0 ws0,‹e.map D.int›,‹los.map D.int›,↑((acc++[b']).map (vf true)),↑(ln'.map eR),↑(ws'.map D.int),↑((log++seg).map e7),some<|dct true N f,some<|.int s,some<|jE false p,o11',o12',o13',o14',o15'])) (BkOk p (B+10 ^ 12) b'.S b'.W b'.R b'.L) (LnOk N ln') (WsOk n (1024*K) ws') (seg.length<=310) (∀ x∈seg,x.1=p.nm/\Ch x.2.1/\EnOk x.2.2):=by
 have j:s<ws.length:=by rw[H.len];exact hs
 have hwv:=H.ok _<|List.getElem_mem j;obtain⟨l,m,o,q,r,ln',mv,seg,ep,I,u,J,mvl,y,M⟩:=zM (c:=g+ws[s]) h hX hn hN hL E hB ∅ ∅ F G;have O:WsOk n K (ws.set s 0):=H.set (Int.le_refl _) ∅ ∅;obtain⟨ws',o13',o14',o15',ew,k⟩:=jaq hf (a4:=↑((acc++[(⟨l,m,o,q,r⟩:Bk)]).map (vf true))) ∅ O J;refine⟨⟨l,m,o,q,r⟩,ln',ws',seg,some<|.int<|g+ws[s],some<|.tup [.dead,.dead,.lst false<|mv.map eM,.lst false<|seg.map e7],o13',o14',o15',?_,I,u,⟨k.len,λv hv=>⟨(k.ok v hv).1,?_⟩⟩,y,M⟩
 rotate_left
 ·have h1:=(k.ok v hv).2;have h2:(g+ws[s])*mv.length<=(g+ws[s])*300:=Int.mul_le_mul_of_nonneg_left ∅ ∅
  lia
 have P:jf (.lst false<|bs.map<|vf false) (.int s)=some (vf false b):=by
  have z:=(L9.mp hb).1;rw[jfJ ∅ (by rw[L1];lia),N8,List.getElem?_map,hb];rfl
 have Q:jf (.lst false<|e.map D.int) (.int s)=some (.int g):=by
  have z:=(L9.mp hi).1;rw[jfJ ∅ (by rw[L1];lia),N8,List.getElem?_map,hi];rfl
 have T:jf (.lst false<|los.map D.int) (.int s)=some (.int lo):=by
  have z:=(L9.mp t).1;rw[jfJ ∅ (by rw[L1];lia),N8,List.getElem?_map,t];rfl
 have U:jf (.lst true<|ws.map D.int) (.int s)=some (.int ws[s]):=by
  rw[jfJ ∅ (by rw[L1];lia),N8,List.getElem?_map,X6 j];rfl
 have V:jf (Ji bs ln0 ws0) (.int 0)=‹bs.map (vf false)›:=rfl;have A:ixN (ws.map D.int).length s=some s:=ux (by rw[L1];exact j);have C:(ws.map D.int).set s (.int 0)=(ws.set s 0).map D.int:=by rw[List.map_set]
 have Y:fz (vf false b)=vf false b:=zT _ _;have Z:frz (vf false b)=true:=Kh _;have ep':ku [jE false p,vf false b,.lst false<|ln.map eR,.int<|g+ws[s],.int lo]=some (.tup [bkD true l m o q r,.lst true<|ln'.map eR,.lst false<|mv.map eM,.lst true<|seg.map e7]):=ep;have ea:(acc++[(⟨l,m,o,q,r⟩:Bk)]).map (vf true)=acc.map (vf true)++[bkD true l m o q r]:=by rw[N5];rfl
 rw[ea] at ew ⊢;have hal:lim (acc.map<|vf true).length=true:=yZ ∅;have hx:=jgt (i:=7) (p:=p2 jf (pV 12)<|pI 3) (ρ:=[a0,some<|Ji bs ln0 ws0,‹e.map D.int›,‹los.map D.int›,↑(acc.map (vf true)++[bkD true l m o q r]),↑(ln'.map eR),↑(ws'.map D.int),↑(log.map e7),some<|dct true N f,some<|.int s,some<|jE false p,some<|.int<|g+ws[s],some<|.tup [.dead,.dead,.lst false<|mv.map eM,.lst false<|seg.map e7],o13',o14',o15']) rfl (by show(bif frzs (seg.map e7) then _ else _)=_;rw[kK];rfl) rfl (by rw[L1,L1];lia);have em:(log++seg).map e7=log.map e7++seg.map e7:=N5;rw[em];have l0:∀{a b c d:D},lIx 0 jU (.tup [a,b,c,d])=some (a,λx=>.tup [x,b,c,d]):=rfl;have l1:∀{a b c d:D},lIx 1 jU (.tup [a,b,c,d])=some (b,λx=>.tup [a,x,c,d]):=rfl;have v2:∀{a b c d},jf (.tup [a,b,c,d]) (.int 2)=some c:=rfl;generalize acc.map (vf true)=AC at *;apply sq (by simp[Q,U];rfl);apply sq (by simp[A,-List.length_map];rw[C]);apply sq (by simp[V,P,T,ep',h.fz false,h.frz,Y,Z,YJ,vi,-List.map_set];rfl);apply sq (by simp[zB,jcf,jcC,jfy,l0,hal,-List.map_set];rfl);apply sq (by simp[jfy,l1,-List.map_set];rfl);apply sq (by simp only[sFz,JB];simp[v2,xC,wv,V5,fz,fzs,-List.map_set];exact ew);exact hx
def jpD(n):(1:Int)<=1024 ^ n:=by
 induction n with
 | zero=>decide
 | succ n a=>rw[Int.pow_succ];lia
def jcg{K:Int}(h:0<=K)(n):K<=K*1024 ^ n:=by
 have:=Int.mul_le_mul_of_nonneg_left (jpD n) h
 lia
inductive LgR:List PoolS->List LG->Prop
 | nil:LgR [] []
 | cons {p Q sg l}(h:∀ x∈sg,x.1=p.nm/\Ch x.2.1/\EnOk x.2.2) (t:LgR Q l):LgR (p::Q) (sg++l)
theorem xN{N}{f:List Nat->Int}{n:Nat}(V:N.length<=6)(W:∀ w,0<=f w/\f w<n){bs}{ws0 a los:List Int}(o:a.length=n)(r:los.length=n)(hi:∀ v∈a,0<=v/\v<=10 ^ 31)(h:∀ v∈los,0<=v){a0}{B}(i:0<=B)(Y:B<=10 ^ 19):
  ∀{Q}{s}{acc}{ln}{ws}{log}{K}{o9 o10 o11 o12 o13 o14 o15},(∀ p∈Q,p.nm∈N/\∃ X,PoolOk X p/\∀ w∈X,w∈N)->Bks B Q (bs.drop s)->s+Q.length=n->n<=6->acc.length=s->LnOk N ln->WsOk n K ws->log.length<=400*s->10 ^ 31<=K->K*1024 ^ Q.length<=2 ^ 890 ->
  Ex11 λbs' ln' ws' (seg:List LG) o9' o10' o11' o12' o13' o14' o15'=>An6 (jI (gT 2<|gC (jc [] 9)<|gC (jc [] 10) gN) qw (jM s<|Q.map<|jE false) [a0,some<|Ji bs ln0 ws0,‹a.map D.int›,‹los.map D.int›,↑(acc.map<|vf true),↑(ln.map eR),↑(ws.map D.int),↑(log.map e7),some<|dct true N f,o9,o10,o11,o12,o13,o14,o15] =
    some (.nx [a0,some<|Ji bs ln0 ws0,‹a.map D.int›,‹los.map D.int›,↑((acc++bs').map (vf true)),↑(ln'.map eR),↑(ws'.map D.int),↑((log++seg).map e7),some<|dct true N f,o9',o10',o11',o12',o13',o14',o15'])) (Bks (B+10 ^ 12) Q bs') (LnOk N ln') (WsOk n (K*1024 ^ Q.length) ws') (seg.length<=400*Q.length)<|LgR Q seg
 | [],s,acc,ln,ws,log,K,o9,o10,o11,o12,o13,o14,o15,_,hb,hs0,_,_,hL,hw,_,_,_=>by
  refine⟨[],ln,ws,[],o9,o10,o11,o12,o13,o14,o15,by simp[jM],.nil,hL,by simpa using hw,by simp,.nil⟩
 | p::Q,s,acc,ln,ws,log,K,o9,o10,o11,o12,o13,o14,o15,hQ,hb,hs,hn3,hacc,hL,hw,hlog,hA,hK=>by
  obtain⟨t,X,Z,hX⟩:=hQ p (by simp);rw[M1] at hs hK;rw[Int.pow_succ] at hK;have u:K*(1024 ^ Q.length*1024)=1024*K*1024 ^ Q.length:=by rw[Int.mul_comm (1024 ^ Q.length) 1024,<- Int.mul_assoc,Int.mul_comm K 1024]
  have hK2:=jcg (K:=1024*K) ∅ Q.length;generalize j:bs.drop s=bd at hb;cases hb with
  | @cons _ b _ x y c=>
   have z:bs[s]?=some b:=by
    have:=congrArg (·[0]?) j;simpa using this
   have d:bs.drop (s+1)=x:=by
    have:=congrArg (List.drop 1) j;simpa using this
   have g:s<a.length:=by lia
   have k:s<los.length:=by lia
   obtain⟨b',ln',ws',seg,o11',o12',o13',o14',o15',e,A,C,E,sl,F⟩:=jd3 Z hX t V W i Y hA ∅ z y (X6 g) (hi _<|List.getElem_mem g).1 (hi _<|List.getElem_mem g).2 (X6 k) (h _<|List.getElem_mem k) ∅ (acc:=acc) ∅ hL hw (log:=log) ∅;obtain⟨bs',G,H,l,p9,I,J,L,M,O,P,R,S,T,U,sg2,m⟩:=xN V W o r hi h (a0:=a0) i Y (ln0:=ln0) (ws0:=ws0) (Q:=Q) (acc:=acc++[b']) (log:=log++seg) (λq hq=>hQ q<|by simp[hq]) (by rw[d];exact c) ∅ hn3 (by simp;lia) C E (by simp;lia) ∅ ∅;refine⟨b'::bs',G,H,seg++l,p9,I,J,L,M,O,P,?_,.cons A S,T,?_,?_,.cons F m⟩
   ·rw[L5,jM,lpE ?_ e,R];simp only[List.append_assoc,List.singleton_append];rfl
   ·rw[M1,Int.pow_succ,u];exact U
   ·rw[N4,M1];lia
noncomputable def anm:Nat->List PoolS->List W2
 | _,[]=>[]
 | s,p::Q=>(p.nm,(s:Int))::anm (s+1) Q
theorem wQ:∀ Q s,(anm s Q).map (·.1)=Q.map (·.nm)
 | [],_=>rfl
 | p::Q,s=>by rw[anm,L5,L5,wQ Q]
theorem jgA:∀ Q s,∀ q∈anm s Q,0<=q.2/\q.2<=(s:Int)+Q.length-1
 | [],_,q,h=>by cases h
 | p::Q,s,q,h=>by
  rw[M1];rcases M4.mp h with rfl | h
  ·lia
  ·have:=jgA Q (s+1) q h;lia
theorem jcH:∀ Q s,(anm s Q).length=Q.length
 | [],_=>rfl
 | p::Q,s=>by rw[anm,M1,jcH Q,M1]
theorem wK:∀ Q s o o',jL (gT 2<|gC (jc [] 0)<|gC (jc [] 1) gN) qT (yb #[pF<|p2 jf (pV 1)<|pI 0,pF<|pV 0]) (jM s<|Q.map<|jE false) [o,o']=some ((anm s Q).map e2)
 | [],_,_,_=>rfl
 | p::Q,s,o,o'=>by
  have a:(yb #[pF<|p2 jf (pV 1)<|pI 0,pF<|pV 0]) [some<|.int s,some<|jE false p]=some (e2 (p.nm,s)):=by rfl
  rw[L5,jM,cpE ?_ a,wK Q (s+1) (some<|.int s)<|some<|jE false p];rfl;rfl
def jek{ns:List Int}{i:Nat}(hi:i<3):(j9 (nmL ns) (some<|3+4*(0+(i:Int)))<|some<|7+4*(0+(i:Int))).length=4:=by
 unfold nmL;rw[KS,L1];have:i=0\/i=1\/i=2:=by lia
 rcases this with rfl | rfl | rfl<;>rfl
def PtW(ns:List Int)(i:Nat)(w:List Nat):Prop:=w=VP ns (6+4*i)\/w=VP ns (6+4*i)++[104]
def jia(hi:i<3)(d:j<3)(h:PtW ns i w)(h':PtW ns j w):i=j:=by
 have e:∀{a b:Nat},a<16->b<16->(VP ns a).length=(VP ns b).length:=λ_ _=>by unfold VP;simp
 have l:=e (show 6+4*i<16 by lia) (show 6+4*j<16 by lia);have k:∀{a b:List Nat},a.length=b.length->a≠b++[104]:=λq z=>by have:=congrArg List.length z;rw[N4,List.length_singleton] at this;lia
 have c:VP ns (6+4*i)=VP ns (6+4*j)->i=j:=λz=>by have:=wu ∅ ∅ z;lia
 rcases h with rfl | rfl<;>rcases h' with z | z
 ·exact c z
 ·exact absurd z<|k l
 ·exact absurd z.symm<|k l.symm
 ·exact c<|List.append_cancel_right z
def jmR{ns:List Int}{i:Nat}(hi:i<3):(j9 (nmL ns) (some<|3+4*(0+(i:Int)))<|some<|7+4*(0+(i:Int))).getD (3:Int).toNat []=VP ns (6+4*i):=by
 unfold nmL;rw[KS];have:i=0\/i=1\/i=2:=by lia
 rcases this with rfl | rfl | rfl<;>rfl
def jc0{ns:List Int}{i:Nat}{most many:Int}(hi:i<3)(hm:0<many)(S:many<=3){acc:List PoolS}(ha:acc.length<=10){o6 o7 o8 o9:Option D}:
  Ex6 λ(p:PoolS) (o6' o7' o8' o9':Option D) (X:W1)=>An5 (vU [‹ns.map D.int›,some<|.int most,↑((nmL ns).map D.str),some<|.int many,↑(acc.map<|jE true),some<|.int<|0+(i:Int),o6,o7,o8,o9] =
   some (.nx [‹ns.map D.int›,some<|.int most,↑((nmL ns).map D.str),some<|.int many,↑((acc++[p]).map (jE true)),some<|.int<|0+(i:Int),o6',o7',o8',o9'])) (PoolOk X p) (p.nm=(nmL ns).getD i []) (∀ w∈X,w∈j9 (nmL ns) none (some many)) (∀ w∈p.marks.map (·.1),PtW ns i w):=by
 have f:=jek (ns:=ns) hi;have e:=jmR (ns:=ns) hi;have u:=kD true (nmL ns) (some<|3+4*(0+(i:Int)))<|some<|7+4*(0+(i:Int));have n:∀ w∈j9 (nmL ns) (some<|3+4*(0+(i:Int))) (some<|7+4*(0+(i:Int))),Wd w/\w.length<=6:=λw b=>jbw<|j7 b;have v:(j9 (nmL ns) (some<|3+4*(0+(i:Int)))<|some<|7+4*(0+(i:Int))).Nodup:=v9<|Q3 ns;generalize j9 (nmL ns) (some<|3+4*(0+(i:Int))) (some<|7+4*(0+(i:Int)))=M at f u n v e;have T:=js (ns:=ns) (k:=905+(0+(i:Int))) (many:=3) ∅ ∅ (by decide);have b1:=j8 ns (905+(0+(i:Int))) (many:=3) (by decide);have b2:=yc ns (905+(0+(i:Int))) (many:=3) (by decide);have y:=kD true M none<|some<|1+drw ns (905+(0+(i:Int))) 3;have z:0<(j9 M none<|some<|1+drw ns (905+(0+(i:Int))) 3).length:=by
  rw[Jo _ ∅,X7];lia
 have g:(j9 M none<|some<|1+drw ns (905+(0+(i:Int))) 3).length<=10:=N7 (yW _ _ _) ∅;have A:∀ w∈j9 M none (some<|1+drw ns (905+(0+(i:Int))) 3),Wd w:=λw b=>(n w<|j7 b).1;have B:(j9 M none<|some<|1+drw ns (905+(0+(i:Int))) 3).Nodup:=v9 v;generalize j9 M none (some<|1+drw ns (905+(0+(i:Int))) 3)=C at y z g A B;have E:=kI (o:=true) (l:=M) (i:=3) (by decide) ∅;have h:=n _<|yn (l:=M) (i:=(3:Int).toNat) (d:=[]) (by rw[f];decide);generalize M.getD (3:Int).toNat []=a at E h e;have U:=js (ns:=ns) (k:=910+(0+(i:Int))) (many:=3) ∅ ∅ (by decide);have F:jdy none (some<|drw ns (910+(0+(i:Int))) 3) (.lst true [.str a,.str<|a++[104]])=↑((j9 [a,a++[104]] none<|some<|drw ns (910+(0+(i:Int))) 3).map D.str):=kD true [a,a++[104]] none _;have G:(j9 [a,a++[104]] none<|some<|drw ns (910+(0+(i:Int))) 3).length<=10:=N7 (yW _ _ _) (by simp);have H:∀ w∈j9 [a,a++[104]] none (some<|drw ns (910+(0+(i:Int))) 3),Wd w:=by
  intro w b;have:=j7 b;simp only[M4,List.not_mem_nil,or_false] at this;rcases this with rfl | rfl
  ·exact h.1
  ·refine⟨by rw[N4];have:=h.2;simp only[M1,List.length_nil];lia,λc j=>?_⟩;rcases N2.mp j with j | j
   ·exact h.1.2 c j
   ·rw[M7.mp j];decide
 have I:(j9 [a,a++[104]] none<|some<|drw ns (910+(0+(i:Int))) 3).Nodup:=v9 (by simp);have J:∀ w∈j9 [a,a++[104]] none (some<|drw ns (910+(0+(i:Int))) 3),PtW ns i w:=λw b=>by
  have:=j7 b;simp only[M4,List.not_mem_nil,or_false] at this;unfold PtW;rw[<- e];exact this
 generalize j9 [a,a++[104]] none (some<|drw ns (910+(0+(i:Int))) 3)=P at F G H I J;have V:=kD true (nmL ns) none<|some many;have q:=kI (o:=true) (l:=nmL ns) (i:=0+(i:Int)) ∅ (by rw[J6];lia);have K:=jbw<|yn (l:=nmL ns) (i:=(0+(i:Int)).toNat) (d:=[]) (by rw[J6];lia);have m:(nmL ns).getD (0+(i:Int)).toNat []=(nmL ns).getD i []:=by congr 1;lia
 generalize(nmL ns).getD (0+(i:Int)).toNat []=nm at q K m;have L:jL (jc [] 0) (jl<|p2 Vq (pV 0)<|p2 jf (pV 1)<|pV 2) (pF<|pV 0) ((j9 (nmL ns) none<|some many).map D.str) [none,↑((nmL ns).map D.str),some<|.int<|0+(i:Int)]=some (((j9 (nmL ns) none<|some many).filter λc=>!(c==nm)).map D.str):=by
  refine Vz (λρ=>∃ o,ρ=[o,↑((nmL ns).map D.str),some<|.int<|0+(i:Int)]) ?_ ⟨none,rfl⟩;rintro x hx ρ ⟨o,rfl⟩;refine⟨_,rfl,?_,rfl,_,rfl⟩;simp only[jl,p2,pV0,pVs,L4,List.set,q,jnt,jci]
 have N:((j9 (nmL ns) none<|some many).filter λc=>!(c==nm)).length<=10:=by
  refine N7 (List.length_filter_le _ _) ?_;rw[Jo _ ∅,X7];lia
 have Q:∀ w∈(j9 (nmL ns) none<|some many).filter λc=>!(c==nm),Wd w:=λw b=>(jbw<|j7 (List.mem_filter.mp b).1).1;have r:lim (j9 (nmL ns) none<|some many).length=true:=jb<|N7 (yW _ _ _) (by rw[J6];decide);have R:∀ w∈(j9 (nmL ns) none<|some many).filter λc=>!(c==nm),w∈j9 (nmL ns) none (some many):=λw b=>(List.mem_filter.mp b).1;generalize((j9 (nmL ns) none<|some many).filter λc=>!(c==nm))=X at L N Q R;obtain⟨p,W,Y,s,t⟩:=ji9 (ns:=ns) (k:=200*(0+(i:Int))) (nm:=nm) (C:=C) (P:=P) (O:=X) ∅ ∅ z g G N K.1 A H Q B I;refine⟨p,↑(M.map D.str),‹C.map D.str›,‹P.map D.str›,‹X.map D.str›,X,?_,Y,s.trans m,R,t▸J⟩;have Z:a.length+[104].length<=100000:=by have:=h.2;simp only[M1,List.length_nil];lia
 simp(disch:=first | lia | (simp;done) | (simp;lia)) [vU,vt,u,T,y,E,U,jf6 Z,F,V,jt,L,r,q,W,jb,-Int.zero_add,-jl]
structure DealOk(Ps:List PoolS):Prop where
 len1:0<Ps.length
 len2:Ps.length<=3
 nmn:(Ps.map (·.nm)).Nodup
 ok:∀ p∈Ps,∃ X,PoolOk X p/\∀ w∈X,w∈Ps.map (·.nm)
 pd:Ps.Pairwise λp q=>∀ w∈p.marks.map (·.1),w∉q.marks.map (·.1)
def jjb(ns:List Int)  (h1:1<=most) (h2:most<=3):∃ Ps:List PoolS,ki [.lst false<|ns.map D.int,.int most]=↑(Ps.map<|jE true)/\DealOk Ps:=by
 have en:=je0 ns;have A:=js (ns:=ns) (k:=904) (many:=most) (by decide) (by decide) ∅;have L:=j8 ns 904 (many:=most) ∅;have M:=yc ns 904 (many:=most) ∅;obtain⟨N,e,Ps,r,c,d,g,l,rfl,b,s,o⟩:=Vl (G:=jc [] 5) (f:=vU) (xs:=Vt 0 (1+drw ns 904 most).toNat) (λi ρ=>∃(Ps:List PoolS) (r c d g l:Option D),ρ=[‹ns.map D.int›,some<|.int most,↑((nmL ns).map D.str),some<|.int<|1+drw ns 904 most,↑(Ps.map<|jE true),r,c,d,g,l]/\Ps.map (·.nm)=(nmL ns).take i/\(∀ p∈Ps,∃ X,PoolOk X p/\∀ w∈X,w∈j9 (nmL ns) none (some<|1+drw ns 904 most))/\∀ j p,Ps[j]?=some p->∀ w∈p.marks.map (·.1),PtW ns j w) (by
  rintro i x ρ B ⟨Ps,r,c,d,g,l,rfl,b,s,o⟩;obtain⟨rfl,hi⟩:=KN B;have m:Ps.length=i:=by have:=congrArg List.length b;rw[L1,X7,J6] at this;lia
  obtain⟨p,C,E,F,H,X,e,t,u,v,y⟩:=jc0 (ns:=ns) (i:=i) (most:=most) (many:=1+drw ns 904 most) ∅ ∅ ∅ (acc:=Ps) ∅ (o6:=c) (o7:=d) (o8:=g) (o9:=l);refine⟨_,_,rfl,.inl e,Ps++[p],_,_,_,_,_,rfl,?_,λq a=>?_,λj q a=>?_⟩
  ·have n:i<(nmL ns).length:=by rw[J6];lia
   rw[N5,b,List.take_succ_eq_append_getElem n,List.map_singleton,u,List.getD_eq_getElem?_getD,X6 n];rfl
  ·rcases N2.mp a with a | a
   ·exact s q a
   ·rw[M7.mp a];exact⟨X,t,v⟩
  ·rw[List.getElem?_append] at a;split at a
   ·exact o j q a
   ·have:j=i:=by
     have:=(L9.mp a).1;rw[List.length_singleton] at this
     lia
    subst this;rw[m,Nat.sub_self] at a;cases a;exact y) (ρ:=[‹ns.map D.int›,some<|.int most,↑((nmL ns).map D.str),some<|.int<|1+drw ns 904 most,some<|.lst true [],none,none,none,none,none]) ⟨[],none,none,none,none,none,rfl,rfl,by simp,by simp⟩
 rw[yS] at b;have z:=qE (j:=1+drw ns 904 most) ∅ ∅;have m:Ps.length=(1+drw ns 904 most).toNat:=by have:=congrArg List.length b;rw[L1,X7,J6] at this;lia
 refine⟨Ps,?_,by lia,by lia,by rw[b];exact(Q3 ns).sublist (List.take_sublist _ _),λp t=>?_,List.pairwise_iff_getElem.mpr λi j hi I J w h1 h2=>?_⟩
 ·simp(disch:=first | lia | (simp;done) | (simp;lia)) [ki,jH,VL,en,A,z,e,jb]
 ·obtain⟨X,h,v⟩:=s p t;refine⟨X,h,λw K=>?_⟩;have:=v w K;rw[Jo _ ∅] at this;rw[b];exact this
 ·have:=jia ∅ ∅ (o i _ (X6 hi) w h1) (o j _ (X6 I) w h2)
  lia
noncomputable abbrev vj(Ps:List PoolS):List (List Nat):=Ps.map (·.nm)
def kr(h:DealOk Ps)(o):fzs (Ps.map<|jE o)=Ps.map (jE false):=by
 rw[vG,U1];exact List.map_congr_left λx a=>by obtain⟨X,b,_⟩:=h.ok x a;exact b.fz o
def yN(h:DealOk Ps):frzs (Ps.map<|jE false)=true:=yE λd hd=>by
 obtain⟨x,a,rfl⟩:=M5.mp hd;obtain⟨X,b,_⟩:=h.ok x a;exact b.frz
structure StOk(Ps:List PoolS)(B K:Int)(bs:List Bk)(ln:LN)(ws:List Int):Prop where
 b:Bks B Ps bs
 l:LnOk (vj Ps) ln
 w:WsOk Ps.length K ws
structure FlowOk(n:Nat)(inc los:List Int):Prop where
 il:inc.length=n
 ll:los.length=n
 i:∀ v∈inc,0<=v/\v<=10 ^ 31
 l:∀ v∈los,0<=v
def jbX{K:Int}(h:0<=K){n}(a:n<=3):K*1024 ^ n<=K*2 ^ 30:=by
 refine Int.mul_le_mul_of_nonneg_left ?_ h;have:n=0\/n=1\/n=2\/n=3:=by lia
 rcases this with rfl | rfl | rfl | rfl<;>decide
def jkK{c}(h:DealOk c){B K}{bs}{ws g los}(st:StOk c B K bs ln ws)(k:FlowOk c.length g los)(m:0<=B)(J:B<=10 ^ 19)(L:10 ^ 31<=K)(R:K*2 ^ 30<=2 ^ 890):
  Ex4 λbs' ln' ws' (log:List LG)=>An4 (yw [.lst false<|c.map<|jE false,Ji bs ln ws,.lst false<|g.map D.int,.lst false<|los.map D.int]=some (.tup [.tup [.lst true<|bs'.map<|vf true,.lst true<|ln'.map eR,.lst true<|ws'.map D.int],.lst true<|log.map e7])) (StOk c (B+10 ^ 12) (K*2 ^ 30) bs' ln' ws') (log.length<=400*c.length) (LgR c log):=by
 have l1:=h.len1;have l2:=h.len2;have n:=jbX (K:=K) ∅ l2;have j:=jgA c 0;have d:=wQ c 0;have M:∀ w,0<=fnOf (anm 0 c) w/\fnOf (anm 0 c) w<c.length:=λw=>by
  have a:=J2 (λq r=>(j q r).1) w;have b:=xu (B:=c.length-1) ∅ (λq r=>by have:=(j q r).2;lia) w
  lia
 obtain⟨bs',ln',ws',log,N,t,u,x,y,z,A,e,C,E,f,O,F⟩:=xN (by rw[L1];lia) M (ln0:=ln) (ws0:=ws) k.il k.ll k.i k.l (a0:=‹c.map (jE false)›) m J (s:=0) (acc:=[]) (log:=[]) (o9:=none) (o10:=none) (o11:=none) (o12:=none) (o13:=none) (o14:=none) (o15:=none) (λp H=>⟨M5.mpr ⟨p,H,rfl⟩,h.ok p H⟩) st.b ∅ ∅ rfl st.l st.w (by simp) L ∅;rw[X5,X5,List.map_nil,List.map_nil] at e;refine⟨bs',ln',ws',log,?_,⟨C,E,⟨f.len,λv I=>⟨(f.ok v I).1,Int.le_trans (f.ok v I).2 n⟩⟩⟩,O,F⟩;have P:jf (Ji bs ln ws) (.int 1)=‹ln.map eR›:=rfl;have Q:jf (Ji bs ln ws) (.int 2)=‹ws.map D.int›:=rfl;have jjT:vX [.lst false<|ln.map eR]=↑(ln.map eR):=by
  show(bif frzs (ln.map eR) then _ else _)=_;rw[vi];rfl
 have hd:vh [.lst true<|(anm 0 c).map e2]=some (dct true (vj c)<|fnOf<|anm 0 c):=by
  have:=yI (o:=true) (by rw[d];exact h.nmn) (by rw[jcH];lia);rw[d] at this;exact this
 have G:lim (jM 0<|c.map<|jE false).length=true:=jb (by rw[yC,L1];lia);simp[yw,jH,VJ,P,Q,jjT,wK c 0 none none,hd,yN h,kr h false,G,jt,e,jb]
def jcn{ns:List Int}{k:Int}(i:0<=k)(h1:k<=100000)(o:ns.length<=63):∃(v:Int),An3 (yi [.lst false<|ns.map D.int,.int k]=some (.int v)) (0<=v) (v<=10 ^ 31):=by
 have a:=js (ns:=ns) (k:=k) (many:=6) i ∅ (by decide);have j:=j8 ns k (many:=6) (by decide);have l:=yc ns k (many:=6) (by decide);generalize drw ns k 6=w at a j l;by_cases b:w=0
 ·exact⟨0,by simp[yi,jH,kc,a,b],by decide,by decide⟩
 by_cases d:w<4
 ·have e:=js (ns:=ns) (k:=k+1) (many:=45) ∅ ∅ (by decide);exact⟨drw ns (k+1) 45,by simp[yi,jH,kc,a,b,d,e],j8 ns (k+1)<|by decide,by have:=yc ns (k+1) (many:=45) (by decide);lia⟩
 by_cases g:w=4
 ·have e:=js (ns:=ns) (k:=k+1) (many:=30) ∅ ∅ (by decide);have m:=Jp (ns:=ns) (k:=k+2) ∅ ∅;have h:=KD ns<|k+2;have g2:=ua ns<|k+2;have g3:=j8 ns (k+1) (many:=30) (by decide);have g4:=yc ns (k+1) (many:=30) (by decide);refine⟨coi ns (k+2)*drw ns (k+1) 30,?_,Int.mul_nonneg ∅ g3,Int.le_trans (Int.mul_le_mul g2 (Int.le_of_lt g4) g3<|by decide)<|by decide⟩;simp(disch:=lia) [yi,jH,kc,a,b,d,g,e,m,vt]
 have n:jg (.lst false<|ns.map D.int) (.lst true [.int 0])=↑((ns++[0]).map D.int):=by
  show(bif lim ((ns.map D.int).length+1)&&(frzs (ns.map D.int)&&frzs [.int 0]) then some (D.lst true<|ns.map D.int++[.int 0]) else none)=_;rw[jb<|by rw[L1];lia,YI,N5];rfl
 have h:=U0 k (show((ns.length:Int)+1)≠0 by lia);have g2:=N9 k (show 0<((ns.length:Int)+1) by lia);have ix:jf (.lst true<|(ns++[0]).map D.int) (.int<|k%((ns.length:Int)+1))=some (.int<|(ns++[0]).getD (k%((ns.length:Int)+1)).toNat 0):=by
  have f:(k%((ns.length:Int)+1)).toNat<(ns++[0]).length:=by rw[N4];simp only[M1,List.length_nil];lia
  rw[jfJ h<|by rw[L1,N4];simp only[M1,List.length_nil];lia,List.getElem?_map,List.getD_eq_getElem?_getD,X6 f];rfl
 have p3:Vs (.int 10) (.int 30)=some (.int<|10 ^ 30):=rfl;generalize(ns++[0]).getD (k%((ns.length:Int)+1)).toNat 0=c at ix;refine⟨c%10 ^ 30,?_,U0 _<|by decide,by have:=N9 c (show(0:Int)<10 ^ 30 by decide);lia⟩;simp(disch:=lia) [yi,jH,kc,a,b,d,g,n,ix,p3,YC,jb,-List.map_append]
noncomputable abbrev DY:=List Int×List Int
noncomputable def jY(d:DY):D:=.tup [.lst false<|d.1.map D.int,.lst false<|d.2.map D.int]
def xI(l:List DY):frzs (l.map jY)=true:=yE λd hd=>by obtain⟨p,_,rfl⟩:=M5.mp hd;simp[jY,qD]
def jgx(l:List DY):fzs (l.map jY)=l.map jY:=Jv λd hd=>by obtain⟨p,_,rfl⟩:=M5.mp hd;simp[jY,vY]
section
variable {ns:List Int}{n:Nat}
def ja7(d:ns.length<=63)(g:n<=3){t:Nat}(h:t<=20){i:Nat}(hi:i<n){los:List Int}(e:los.length<=10){a1 a2 a4 o7:Option D}:∃ v o7',ve [‹ns.map D.int›,a1,a2,some<|.int<|0+(t:Int),a4,↑(los.map D.int),some<|.int<|0+(i:Int),o7]=some (.nx [‹ns.map D.int›,a1,a2,some<|.int<|0+(t:Int),a4,↑((los++[v]).map D.int),some<|.int<|0+(i:Int),o7'])/\0<=v:=by
 obtain⟨v,b,f,j⟩:=jcn (ns:=ns) (k:=2000+37*(0+(t:Int))+7*(0+(i:Int))) ∅ ∅ d;have c:=js (ns:=ns) (k:=3000+5*(0+(t:Int))+(0+(i:Int))) (many:=4) ∅ ∅ (by decide);by_cases q:drw ns (3000+5*(0+(t:Int))+(0+(i:Int))) 4=0
 ·have a:zw [.bl<|drw ns (3000+5*(0+(t:Int))+(0+(i:Int))) 4==0]=some (.int 1):=by rw[q];rfl
  refine⟨v,some<|.int v,?_,f⟩;simp(disch:=first | lia | (simp;done) | (simp;lia)) [ve,b,c,a,vt,jb,-Int.zero_add]
 ·have a:zw [.bl<|drw ns (3000+5*(0+(t:Int))+(0+(i:Int))) 4==0]=some (.int 0):=by rw[U2.mpr q];rfl
  refine⟨0,some<|.int v,?_,by decide⟩;simp(disch:=first | lia | (simp;done) | (simp;lia)) [ve,b,c,a,vt,jb,-Int.zero_add]
def jaY(z:ns.length<=63)(B:n<=3){t:Nat}(R:t<20){acc:List DY}(A:acc.length<=100){o4 o5 o6 o7:Option D}:Ex5 λ(d:DY) (o4' o5' o6' o7':Option D)=>An2 (vN [‹ns.map D.int›,some<|.int (n:Int),↑(acc.map jY),some<|.int<|0+(t:Int),o4,o5,o6,o7]=some (.nx [‹ns.map D.int›,some<|.int (n:Int),↑((acc++[d]).map jY),some<|.int<|0+(t:Int),o4',o5',o6',o7'])) (FlowOk n d.1 d.2):=by
 obtain⟨S,C,h,E⟩:=uB (G:=jc [] 0) (p:=jj yi #[pV 1,p2 jg (p2 jg (pI 1000)<|p2 yj (pI 37)<|pV 2)<|p2 yj (pI 7)<|pV 0])
  (Good:=λy=>∃ v:Int,y=.int v/\(0<=v/\v<=10 ^ 31)) (P:=λρ=>∃ o,ρ=[o,‹ns.map D.int›,some<|.int<|0+(t:Int)]) (xs:=Vt 0 n) (by
   rintro x s ρ ⟨o,rfl⟩;obtain⟨i,hi,rfl⟩:=M5.mp s;have hi:=List.mem_range.mp hi;obtain⟨v,F,H,I⟩:=jcn (ns:=ns) (k:=1000+37*(0+(t:Int))+7*(0+(i:Int))) ∅ ∅ z;refine⟨_,.int v,rfl,?_,⟨v,rfl,H,I⟩,some<|.int<|0+(i:Int),rfl⟩;simp(disch:=first | lia | (simp;done) | (simp;lia)) [F,vt,-Int.zero_add]) (ρ:=[none,‹ns.map D.int›,some<|.int<|0+(t:Int)]) ⟨none,rfl⟩
 obtain⟨b,rfl,l⟩:=KO E;rw[L1,yS] at h;obtain⟨T,e,a,o6',o7',rfl,g,c⟩:=Vl (G:=jc [] 6) (f:=ve) (xs:=Vt 0 n) (λi ρ=>∃(a:List Int) (o6 o7:Option D),ρ=[‹ns.map D.int›,some<|.int (n:Int),↑(acc.map jY),some<|.int<|0+(t:Int),↑(b.map D.int),↑(a.map D.int),o6,o7]/\a.length=i/\∀ v∈a,0<=v) (by
  rintro i x ρ s ⟨a,o6,o7,rfl,g,c⟩;obtain⟨rfl,hi⟩:=KN s;obtain⟨v,o7',J,K⟩:=ja7 (ns:=ns) (n:=n) z B (t:=t) ∅ (i:=i) hi (los:=a) ∅ (a1:=some<|.int (n:Int)) (a2:=↑(acc.map jY)) (a4:=↑(b.map D.int)) (o7:=o7);refine⟨_,_,rfl,.inl J,a++[v],_,_,rfl,by simp[g],λu m=>?_⟩;rcases N2.mp m with m | m
  ·exact c u m
  ·rw[M7.mp m];exact K) (ρ:=[‹ns.map D.int›,some<|.int (n:Int),↑(acc.map jY),some<|.int<|0+(t:Int),↑(b.map D.int),some<|.lst true [],o6,o7]) ⟨[],o6,o7,rfl,rfl,by simp⟩
 rw[yS] at g;have q:=qE (j:=(n:Int)) ∅ ∅;rw[N8] at q;refine⟨(b,a),‹b.map D.int›,‹a.map D.int›,o6',o7',?_,⟨h,g,l,c⟩⟩;have L:(acc++[(b,a)]).map jY=acc.map jY++[.tup [.lst false<|b.map D.int,.lst false<|a.map D.int]]:=by rw[N5];rfl
 rw[L];have w:lim (Vt 0 n).length=true:=jb (by rw[yS];lia);have r:lim (acc.map jY).length=true:=jb (by rw[L1];lia);have M:=qD b;have N:=qD a;have O:=vY b;have Q:=vY a;generalize acc.map jY=AC,b.map D.int=II,a.map D.int=LL at *;simp(disch:=first | lia | (simp;done) | (simp;lia)) [vN,q,w,jt,C,e,M,N,O,Q,r,jb,-Int.zero_add,-jj]
def jiK(ns:List Int)(r:ns.length<=63){n:Nat}(s:n<=3):∃(ds:List DY),An3 (kg [.lst false<|ns.map D.int,.int (n:Int)]=↑(ds.map jY)) (ds.length<=20) (∀ d∈ds,FlowOk n d.1 d.2):=by
 obtain⟨m,v,w⟩:∃ m:Nat,jaa [.int (ns.length:Int),.int 20]=some (.int (m:Int))/\m<=20:=by
  by_cases q:(20:Int)<ns.length
  ·refine⟨20,?_,by lia⟩;show some (D.int<|if(20:Int)<ns.length then 20 else ns.length)=_;rw[if_pos q];rfl
  ·refine⟨ns.length,?_,by lia⟩;show some (D.int<|if(20:Int)<ns.length then 20 else ns.length)=_;rw[if_neg q]
 obtain⟨F,e,ds,o,b,c,g,h,rfl,a,p⟩:=Vl (G:=jc [] 3) (f:=vN) (xs:=Vt 0 m) (λi ρ=>∃(ds:List DY) (o b c g h:Option D),ρ=[‹ns.map D.int›,some<|.int (n:Int),↑(ds.map jY),o,b,c,g,h]/\ds.length=i/\∀ d∈ds,FlowOk n d.1 d.2) (by
  rintro i x ρ y ⟨ds,o,b,c,g,h,rfl,a,p⟩;obtain⟨rfl,hi⟩:=KN y;obtain⟨d,z,A,B,C,E,hd⟩:=jaY (ns:=ns) (n:=n) r s (t:=i) ∅ (acc:=ds) ∅ (o4:=b) (o5:=c) (o6:=g) (o7:=h);refine⟨_,_,rfl,.inl E,ds++[d],_,_,_,_,_,rfl,by simp[a],λu k=>?_⟩;rcases N2.mp k with k | k
  ·exact p u k
  ·rw[M7.mp k];exact hd) (ρ:=[‹ns.map D.int›,some<|.int (n:Int),some<|.lst true [],none,none,none,none,none]) ⟨[],none,none,none,none,none,rfl,rfl,by simp⟩
 rw[yS] at a;have l:=qE (j:=(m:Int)) ∅ ∅;rw[N8] at l;refine⟨ds,?_,by lia,p⟩;simp[kg,jH,VO,v,l,e,jb,-wR]
end
structure RD where
 bs:List Bk
 ln:LN
 ws:List Int
 log:List LG
def stO(bs:List Bk)(ln:LN)(ws:List Int):D:=.tup [.lst true<|bs.map<|vf true,.lst true<|ln.map eR,.lst true<|ws.map D.int]
def jJ(r:RD):D:=.tup [stO r.bs r.ln r.ws,.lst true<|r.log.map e7]
def yk(r:RD):D:=.tup [Ji r.bs r.ln r.ws,.lst false<|r.log.map e7]
def qx{α}{f:α->D}(h:∀ x,clean (f x)=true)(l:List α):jZ (l.map f)=true:=by
 rw[yP,List.all_map,List.all_eq_true];exact λx _=>h x
def jfT(l:List Bk):fzs (l.map<|vf true)=l.map (vf false):=by
 rw[vG,U1];exact List.map_congr_left λx _=>zT _ _
def Vb(bs)(ln)(ws):frz (Ji bs ln ws)=true:=by simp[Ji,Jt,vi]
def jco(bs)(ln)(ws):fz (Ji bs ln ws)=Ji bs ln ws:=by simp[Ji,jeJ,YJ]
def Qv(bs)(ln)(ws):fz (stO bs ln ws)=Ji bs ln ws:=by simp[stO,Ji,jfT,YJ]
def qp(bs)(ln)(ws):clean (stO bs ln ws)=true:=by
 have a:jZ (bs.map<|vf true)=true:=qx (λ_=>K4 ..) _;have b:jZ (ln.map eR)=true:=qx (λ_=>rfl) _;simp[stO,a,b]
def jgX(r):fz (jJ r)=yk r:=by simp[jJ,yk,Qv,V5]
def jkj(r):frz (yk r)=true:=by simp[yk,Vb,kK]
def jkZ(r):fz (yk r)=yk r:=by simp[yk,jco,V5]
def Yy(r):clean (jJ r)=true:=by
 have a:jZ (r.log.map e7)=true:=qx (λ_=>rfl) _;simp[jJ,qp,a]
def jcT(l:List RD):frzs (l.map yk)=true:=qg jkj _
def ja3(l:List RD):fzs (l.map jJ)=l.map yk:=by
 rw[vG,U1];exact List.map_congr_left λx _=>jgX x
def jgy(l:List RD):fzs (l.map yk)=l.map yk:=kX jkZ _
structure StK(Ps:List PoolS)(bs:List Bk)(ln:LN)(ws:List Int):Prop where
 b:∃ B,Bks B Ps bs
 n:LnOk (vj Ps) ln
 w:ws.length=Ps.length
structure RdOk(Ps:List PoolS)(r:RD):Prop where
 s:StK Ps r.bs r.ln r.ws
 l:r.log.length<=2400
 g:LgR Ps r.log
inductive RunR (Ps:List PoolS):List Bk->LN->List Int->List DY->List RD->Prop
 | nil {bs ln ws}:RunR Ps bs ln ws [] []
 | cons {bs ln ws d ds r rs}(e:yw [.lst false (Ps.map (jE false)),Ji bs ln ws,.lst false (d.1.map D.int),.lst false (d.2.map D.int)]=some (jJ r)) (o:RdOk Ps r) (t:RunR Ps r.bs r.ln r.ws ds rs):RunR Ps bs ln ws (d::ds) (r::rs)
theorem jgI(h:DealOk Ps):∀{ds:List DY}{bs}{ln}{ws}{B K},(∀ d∈ds,FlowOk Ps.length d.1 d.2)->StOk Ps B K bs ln ws->0<=B->B+10 ^ 12*ds.length<=10 ^ 19->10 ^ 31<=K->K*(2 ^ 30) ^ ds.length<=2 ^ 890->∃ rs,RunR Ps bs ln ws ds rs
 | [],bs,ln,ws,B,K,_,_,_,_,_,_=>⟨[],.nil⟩
 | d::ds,bs,ln,ws,B,K,hd,m,c,o,p,k=>by
  rw[M1] at o k;rw[Int.pow_succ] at k;have q:∀ n:Nat,(1:Int)<=(2 ^ 30) ^ n:=λn=>by
   induction n with
   | zero=>decide
   | succ n v=>rw[Int.pow_succ];lia
  have r:K*2 ^ 30<=K*2 ^ 30*(2 ^ 30) ^ ds.length:=by
   have:=Int.mul_le_mul_of_nonneg_left (q ds.length) (show 0<=K*2 ^ 30 by lia)
   lia
  obtain⟨f,g,i,log,e,a,s,j⟩:=jkK h m (hd d<|by simp) c ∅ p ∅;obtain⟨rs,t⟩:=jgI h (ds:=ds) (λx u=>hd x<|by simp[u]) a ∅ ∅ ∅ ∅;exact⟨⟨f,g,i,log⟩::rs,.cons e ⟨⟨⟨_,a.b⟩,a.l,a.w.len⟩,by have:=h.len2;lia,j⟩ t⟩
def RunR.len{a bs ln ws ds rs}(h:RunR a bs ln ws ds rs):rs.length=ds.length:=by
 induction h with
 | nil=>rfl
 | cons _ _ _ b=>rw[M1,M1,b]
def jez{PP a x:D}{d:DY}{r:RD}{l:List D}(h1:frz PP=true)(h2:frz a=true)(c:frz x=true)(f:fz x=x)(g:fz PP=PP)(k:l.length<=1000)(e:yw [PP,x,.lst false<|d.1.map D.int,.lst false<|d.2.map D.int]=some (jJ r)){o2 o4 o5 o6}:JV 3 6 2 [3,2,0,1] (lIx 0 jU) (gT 2<|gC (jc [3,2,0,1] 4)<|gC (jc [3,2,0,1] 5) gN) Kg (jY d) [some PP,some a,o2,none,o4,o5,o6] l x=some ([some PP,some a,some .dead,none,none,none,none],l++[jJ r],Ji r.bs r.ln r.ws):=by
 have b:lim l.length=true:=jb ∅;have h:lIx 0 jU (jJ r)=some (stO r.bs r.ln r.ws,λy=>.tup [y,.lst true<|r.log.map e7]):=rfl;have i:=Yy r;have j:=Qv r.bs r.ln r.ws;generalize jJ r=RR,stO r.bs r.ln r.ws=SS at *;simp[JV,jY,Kg,c,f,g,h1,e,nx1,b,uw,okF,okC,h2,i,h,j]
theorem wV{PP h}(h1:frz PP=true)(h2:frz h=true)(i:fz PP=PP)(g:PP=D.lst false (Ps.map<|jE false)):∀{ds:List DY}{rs bs ln ws}{l:List D}{o2 o4 o5 o6},RunR Ps bs ln ws ds rs->l.length+ds.length<=1000 ->
  Ex4 λo2' o4' o5' o6'=>J9 (JV 3 6 2 [3,2,0,1] (lIx 0 jU) (gT 2<|gC (jc [3,2,0,1] 4)<|gC (jc [3,2,0,1] 5) gN) Kg) (ds.map jY) [some PP,some h,o2,none,o4,o5,o6] l (Ji bs ln ws)=some ([some PP,some h,o2',none,o4',o5',o6'],l++rs.map jJ)
 | [],_,bs,ln,ws,l,o2,o4,o5,o6,.nil,_=>⟨o2,o4,o5,o6,by simp[J9]⟩
 | d::ds,_,bs,ln,ws,l,o2,o4,o5,o6,.cons (r:=r) (rs:=rs) e o t,hl=>by
  rw[M1] at hl;obtain⟨a,b,c,f,e2⟩:=wV h1 h2 i g (l:=l++[jJ r]) (o2:=some .dead) (o4:=none) (o5:=none) (o6:=none) t (by simp;lia);refine⟨a,b,c,f,?_⟩;rw[L5,J9,jez h1 h2 (Vb ..) (jco ..) i ∅ (g▸e),L4,e2];simp
def bk0(p:PoolS):Bk:=⟨jad p,qv p,qv p,jac p,0⟩
def jjS(h:PoolOk O p):BkOk p 0 (bk0 p).S (bk0 p).W (bk0 p).R (bk0 p).L:=by
 refine⟨?_,λq a=>?_,?_,λq a=>?_,?_,?_,λq a=>?_,λq a=>?_⟩
 ·show(jad p).map (·.1)=_;unfold jad;rw[U1];rfl
 ·obtain⟨c,b,rfl⟩:=M5.mp a;have:=h.told c b
  lia
 ·show(qv p).map (·.1)=_;unfold qv;rw[U1];rfl
 ·obtain⟨c,b,rfl⟩:=M5.mp a;exact⟨Int.le_refl _,Int.le_refl _⟩
 ·show(qv p).map (·.1)=_;unfold qv;rw[U1];rfl
 ·show(jac p).map (·.1)=_;unfold jac;rw[U1];rfl
 ·obtain⟨c,b,rfl⟩:=M5.mp a;exact Int.le_refl _
 ·obtain⟨c,b,rfl⟩:=M5.mp a;exact Int.le_refl _
theorem jo2:∀{Q},(∀ p∈Q,∃ X,PoolOk X p)->Bks 0 Q (Q.map bk0)
 | [],_=>.nil
 | p::Q,h=>by
  obtain⟨X,a⟩:=h p (by simp);exact .cons (jjS a)<|jo2 λq b=>h q (by simp[b])
noncomputable def zs(Ps:List PoolS):List Int:=Ps.map λ_=>0
def uc(h:DealOk Ps):Va [.lst false<|Ps.map<|jE false]=some (stO (Ps.map bk0) []<|zs Ps):=by
 have l2:=h.len2;have l1:lim Ps.length=true:=jb ∅;have c1:jL (jc [] 0) qT (jj va #[pV 0]) (Ps.map<|jE false) [none]=some ((Ps.map bk0).map (vf true)):=by
  rw[U1];refine jo rfl (λρ=>∃ o,ρ=[o]) ?_ ⟨none,rfl⟩;rintro p b ρ ⟨o,rfl⟩;obtain⟨X,a,_⟩:=h.ok p b;refine⟨[some<|jE false p],rfl,?_,_,rfl⟩;show _=some (bkD true (jad p) (qv p) (qv p) (jac p) 0);simp[a.fz false,a.frz,Kj a]
 have c:jL (jc [] 0) qT (pI 0) (Ps.map<|jE false) [none]=some ((zs Ps).map D.int):=by
  unfold zs;rw[U1];exact jo rfl (λρ=>∃ o,ρ=[o]) (by simp) ⟨none,rfl⟩
 have d:lim (Ps.map<|jE false).length=true:=by rw[L1];exact l1
 unfold stO;simp[Va,jH,jcA,yN h,d,jt,c1,c,jb,-List.length_map]
def jcV{c:Int}(a:1<=c)(m n)(h:m<=n):c ^ m<=c ^ n:=by
 induction n with
 | zero=>
  have:m=0:=by lia
  subst this;exact Int.le_refl _
 | succ n b=>
  by_cases q:m=n+1
  ·lia
  ·have e:=b ∅;have d:0<=c ^ n:=Int.pow_nonneg ∅;have f:=Int.mul_le_mul_of_nonneg_left a d
   lia
def jlE:(10:Int) ^ 31*(2 ^ 30) ^ 20<=2 ^ 890:=by
 have a:(10:Int) ^ 31<=2 ^ 200:=by decide
 have b:((2:Int) ^ 30) ^ 20=2 ^ 600:=by rfl
 exact Int.le_trans (Int.mul_le_mul_of_nonneg_right a<|Int.pow_nonneg<|by decide)<|jcV (by decide) 800 890 (by decide)
def jlo{g}(h:DealOk g){ds:List DY}(hd:∀ d∈ds,FlowOk g.length d.1 d.2)(k:ds.length<=20):∃ rs,An3 (StK g (g.map bk0) []<|zs g) (RunR g (g.map bk0) [] (zs g) ds rs) (jc2 [.lst false<|g.map<|jE false,.lst false<|ds.map jY]=↑(rs.map jJ)):=by
 have i:StOk g 0 (10 ^ 31) (g.map bk0) [] (zs g):=⟨jo2 λp o=>by obtain⟨X,q,_⟩:=h.ok p o;exact⟨X,q⟩,⟨by simp,by simp⟩,⟨by simp[zs],λv r=>by obtain⟨p,_,rfl⟩:=M5.mp r;exact⟨Int.le_refl _,by decide⟩⟩⟩;have s:(10:Int) ^ 31*(2 ^ 30) ^ ds.length<=2 ^ 890:=by
  have t:∀ m n:Nat,m<=n->((2:Int) ^ 30) ^ m<=(2 ^ 30) ^ n:=jcV (by decide);exact Int.le_trans (Int.mul_le_mul_of_nonneg_left (t ds.length 20 k)<|show 0<=10 ^ 31 by decide) jlE
 obtain⟨rs,j⟩:=jgI h hd i (by decide) ∅ (by decide) s;have u:frz (.lst false<|g.map<|jE false)=true:=by simp[yN h]
 have x:frz (.lst false<|ds.map jY)=true:=by simp[xI]
 have y:fz (.lst false<|g.map<|jE false)=.lst false (g.map<|jE false):=by simp[kr h]
 obtain⟨a,b,c,f,e⟩:=wV u x y rfl (l:=[]) (o2:=some<|Ji (g.map bk0) []<|zs g) (o4:=none) (o5:=none) (o6:=none) j (by simp;lia);refine⟨rs,⟨⟨_,i.b⟩,i.l,i.w.len⟩,j,?_⟩;have z:=uc h;have A:=Qv (g.map bk0) []<|zs g;have B:=Vb (g.map bk0) []<|zs g;have C:=qp (g.map bk0) []<|zs g;generalize stO (g.map bk0) [] (zs g)=S0,Ji (g.map bk0) [] (zs g)=S1 at *;simp[jc2,jH,jkQ,kr h false,yN h,xI ds,jgx ds,A,B,C,z,jna,e,jb]
def plt:Nat->D->Prop
 | 0,_=>False
 | n+1,d=>(∃ i,d=.int i)\/(∃ w,d=.str w) \/ ∃ l,(d=.tup l\/d=.lst false l)/\l.length<=3000/\frzs l=true/\∀ x∈l,plt n x
theorem xV:∀{n d},plt n d->yo n [d]=some (.bl true)
 | n+1,d,h=>by
  show fnP 1 (Jh<|yo n) [d]=_;rcases h with⟨i,rfl⟩ | ⟨w,rfl⟩ | ⟨l,hd,u,b,j⟩
  ·rfl
  ·rfl
  ·have k:itB d=some l:=by rcases hd with rfl | rfl<;>(show(bif frzs l then some l else none)=_;rw[b];rfl)
   have ty:((tyD d).bind λt=>some<|D.bl<|JN t "list"||JN t "tuple")=some (.bl true):=by rcases hd with rfl | rfl<;>rfl
   have c:jL (jc [] 0) qT (jj (yo n) #[pV 0]) l [none]=some (l.map λ_=>.bl true):=by
    refine jo (en:=id) (List.map_id l).symm (λρ=>∃ o,ρ=[o]) ?_ ⟨none,rfl⟩;rintro x f ρ ⟨o,rfl⟩;refine⟨[some x],rfl,?_,_,rfl⟩;have g:frzs [x]=true:=by
     have:=Yz l▸b;have:=List.all_eq_true.mp this x f;rw[JC,this];rfl
    have p:=kU _ g;have e:=xV<|j x f;generalize yo n=m at e;simp[g,p,e]
   have q:jmE [.lst true<|l.map λ_=>D.bl true]=some (.bl true):=by
    have:∀ l:List D,Jw (l.map λ_=>D.bl true)=some (l.map λ_=>true):=λl=>by
     induction l with
     | nil=>rfl
     | cons a l r=>show(Jw<|l.map λ_=>D.bl true).bind _=_;rw[r];rfl
    show(Jw<|l.map λ_=>D.bl true).bind _=_;rw[this];simp
   have s:lim l.length=true:=jb ∅;generalize yo n=m at c;simp[jH,Jh,ty,k,s,jt,c,q]
def jbI{n l}(a:l.length<=3000)(b:frzs l=true)(c:∀ x∈l,plt n x):plt (n+1) (.lst false l):=.inr<|.inr ⟨l,.inr rfl,a,b,c⟩
def jaw{n l}(a:l.length<=3000)(b:frzs l=true)(c:∀ x∈l,plt n x):plt (n+1) (.tup l):=.inr<|.inr ⟨l,.inl rfl,a,b,c⟩
def zr{n i}:plt (n+1) (.int i):=.inl ⟨i,rfl⟩
def zj{n w}:plt (n+1) (.str w):=.inr<|.inl ⟨w,rfl⟩
def xO{n}{S:List W2}(h:S.length<=10):plt (n+3) (.lst false<|S.map e2):=jbI (by rw[L1];lia) (jT S) λx b=>by
 obtain⟨q,_,rfl⟩:=M5.mp b;exact jaw (by simp) rfl λy a=>by
  rcases M4.mp a with rfl | a
  ·exact zj
  ·rw[M7.mp a];exact zr
theorem jf5{n B}:∀{Q bs},Bks B Q bs->(∀ p∈Q,∃ X,PoolOk X p)->∀ b∈bs,plt (n+4)<|vf false b
 | _,_,.cons h t,c,b,a=>by
  rcases M4.mp a with rfl | a
  ·obtain⟨X,d⟩:=c _ L7;have k:=d.told2;have l:=d.marks2;have f:=congrArg List.length h.s1;have g:=congrArg List.length h.w1;have i:=congrArg List.length h.r1;have ll:=congrArg List.length h.l1;rw[L1,L1] at f g i ll;refine jaw (by simp) (Kh _) λy e=>?_;simp only[M4,List.not_mem_nil,or_false] at e;rcases e with rfl | rfl | rfl | rfl | rfl
   ·exact xO ∅
   ·exact xO ∅
   ·exact xO ∅
   ·exact xO ∅
   ·exact zr
  ·exact jf5 t (λq j=>c q<|L6 _ j) b a
theorem KU{B}:∀{Q bs},Bks B Q bs->bs.length=Q.length
 | _,_,.nil=>rfl
 | _,_,.cons _ t=>by rw[M1,M1,KU t]
def jkX{e}(f:DealOk e){r:RD}(h:RdOk e r):plt 8 (yk r):=by
 have l2:=f.len2;obtain⟨B,g⟩:=h.s.b;have bl:=KU g;have j:=h.s.n.len (by rw[L1];lia);have ll:=h.l;have k:=h.s.w;refine jaw (by simp) (by simp[Vb,kK]) λy a=>?_;simp only[M4,List.not_mem_nil,or_false] at a;rcases a with rfl | rfl
 ·refine jaw (by simp) (by simp[Jt,vi]) λy a=>?_;simp only[M4,List.not_mem_nil,or_false] at a;rcases a with rfl | rfl | rfl
  ·exact jbI (by rw[L1];lia) (Jt _) λx c=>by
    obtain⟨b,d,rfl⟩:=M5.mp c;exact jf5 g (λp i=>by obtain⟨X,c,_⟩:=f.ok p i;exact⟨X,c⟩) b d
  ·exact jbI (by rw[L1];lia) (vi _) λx c=>by
    obtain⟨q,_,rfl⟩:=M5.mp c;exact jaw (by simp) rfl λy a=>by
     simp only[M4,List.not_mem_nil,or_false] at a;rcases a with rfl | rfl | rfl
     ·exact zj
     ·exact zj
     ·exact zr
  ·exact jbI (by rw[L1];lia) (qD _) λx c=>by
    obtain⟨q,_,rfl⟩:=M5.mp c;exact zr
 ·exact jbI (by rw[L1];lia) (kK _) λx c=>by
   obtain⟨q,_,rfl⟩:=M5.mp c;exact jaw (by simp) rfl λy a=>by
    simp only[M4,List.not_mem_nil,or_false] at a;rcases a with rfl | rfl | rfl | rfl | rfl | rfl | rfl
    ·exact zj
    ·exact zj
    ·exact zr
    ·exact zj
    ·exact zj
    ·exact zr
    ·exact zr
theorem jcE{B}:∀{Q bs},Bks B Q bs->(∀ p∈Q,∃ X,PoolOk X p)->∀ b∈bs,(b.S.length<=10/\b.W.length<=10/\b.R.length<=10/\b.L.length<=10)/\∀ o n,okE (n+3) (vf o b)=true
 | _,_,.cons (p:=p) h t,hQ,b,e=>by
  rcases M4.mp e with rfl | e
  ·obtain⟨X,d⟩:=hQ _ L7;have r:=d.told2;have s:=d.marks2;have j:=congrArg List.length h.s1;have k:=congrArg List.length h.w1;have l:=congrArg List.length h.r1;have ll:=congrArg List.length h.l1;rw[L1,L1] at j k l ll;have f:∀ w∈p.C,Wd w:=λw g=>by obtain⟨c,i,rfl⟩:=M5.mp g;exact(d.told c i).1
   have m:∀ w∈p.P,Wd w:=λw g=>by obtain⟨c,i,rfl⟩:=M5.mp g;exact(d.marks c i).1
   refine⟨by lia,λo n=>jkw (λq a=>f _<|h.s1▸List.mem_map_of_mem a) (λq a=>f _<|h.w1▸List.mem_map_of_mem a) (λq a=>f _<|h.r1▸List.mem_map_of_mem a) (λq a=>m _<|h.l1▸List.mem_map_of_mem a) o n⟩
  ·exact jcE t (λq a=>hQ q<|L6 _ a) b e
def jig{a}(b:DealOk a):∀ w∈vj a,Ch w:=λw c=>by obtain⟨p,d,rfl⟩:=M5.mp c;obtain⟨X,e,_⟩:=b.ok p d;exact e.nm.2
def jhx{g}(e:DealOk g){bs ln ws}(k:StK g bs ln ws)(o n):okE (n+5) (.tup [.lst o<|bs.map<|vf o,.lst o<|ln.map eR,.lst o<|ws.map D.int])=true:=by
 obtain⟨B,i⟩:=k.b;have a:yA (n+3) (bs.map<|vf o)=true:=yJ λd hd=>by
  obtain⟨b,f,rfl⟩:=M5.mp hd;exact(jcE i (λp j=>by obtain⟨X,l,_⟩:=e.ok p j;exact⟨X,l⟩) b f).2 o n
 have b:yA (n+3) (ln.map eR)=true:=yJ λd hd=>by
  obtain⟨q,m,rfl⟩:=M5.mp hd;have h:=k.n.mem q m;show yA (n+2) [.str q.1.1,.str q.1.2,.int q.2]=true;simp[yA,jS<|jig e _ h.1,jS<|jig e _ h.2.1]
 have c:=ko (n+3) ws;show yA (n+4) [.lst o<|bs.map<|vf o,.lst o<|ln.map eR,.lst o<|ws.map D.int]=true;simp[yA,okE,a,b,c]
theorem jgg:∀{Q log},LgR Q log->(∀ p∈Q,Ch p.nm)->∀ x∈log,Ch x.1/\Ch x.2.1/\EnOk x.2.2
 | _,_,.cons h t,d,x,c=>by
  rcases N2.mp c with c | c
  ·obtain⟨a,b⟩:=h x c;exact⟨by rw[a];exact d _ L7,b⟩
  ·exact jgg t (λq e=>d q<|L6 _ e) x c
def jeh{c}(e:DealOk c){r:RD}(k:RdOk c r)(o n):okE (n+6) (.tup [.tup [.lst o<|r.bs.map<|vf o,.lst o<|r.ln.map eR,.lst o<|r.ws.map D.int],.lst o<|r.log.map e7])=true:=by
 have a:=jhx e k.s o n;have b:yA (n+4) (r.log.map e7)=true:=yJ λd hd=>by
  obtain⟨q,f,rfl⟩:=M5.mp hd;obtain⟨h,i,j,l⟩:=jgg k.g (λp m=>jig e _<|List.mem_map_of_mem m) q f;show yA (n+3) [.str q.1,.str q.2.1,.int q.2.2.pl,.str q.2.2.kd,.str q.2.2.nm,.int q.2.2.nd,.int q.2.2.gt]=true;simp[yA,jS h,jS i,jS j,jS l]
 generalize D.tup [.lst o<|r.bs.map<|vf o,.lst o<|r.ln.map eR,.lst o<|r.ws.map D.int]=T at *;show yA (n+5) [T,.lst o<|r.log.map e7]=true;simp[yA,okE,a,b]
def ub{l}(h:frzs l=true)(o):vX [.lst o l]=↑l:=by
 show(bif frzs l then _ else _)=_;rw[h];rfl
def jiq:∀{ls:List (List D)},(∀ s∈ls,frzs s=true)->∀{o},jL (jc [] 0) qT (pCB vX #[pV 0]) (ls.map<|D.lst false) [o]=some (ls.map<|D.lst true):=λ{ls} h {o}=>by
 refine jo (en:=D.lst false) rfl (λρ=>∃ o,ρ=[o]) ?_ ⟨o,rfl⟩;rintro s a ρ ⟨o,rfl⟩;exact⟨[‹s›],rfl,by simp[ub<|h s a],_,rfl⟩
def jd5(b:Bk):(p2 VF (pCB jag #[ya (Jb<|pSl (pV 0) oN<|oS<|pI 4) (jc [] 0) qT (pCB vX #[pV 0]) [none]])<|yb #[pF<|p2 jf (pV 0)<|pI 4]) [some<|vf false b]=some (vf true b):=by
 have f:=jT b.S;have g:=jT b.W;have h:=jT b.R;have i:=jT b.L;have j:=jiq (ls:=[b.S.map e2,b.W.map e2,b.R.map e2,b.L.map e2]) (by simp[f,g,h,i]) (o:=none);simp only[L5,List.map_nil] at j;unfold vf bkD;generalize b.S.map e2=s,b.W.map e2=w,b.R.map e2=r,b.L.map e2=l at *;have sl:jdy none (some 4) (.tup [.lst false s,.lst false w,.lst false r,.lst false l,.int b.x])=some (.tup [.lst false s,.lst false w,.lst false r,.lst false l]):=by
  show(bif frzs [.lst false s,.lst false w,.lst false r,.lst false l,.int b.x]&&_ then _ else _)=_;simp[f,g,h,i];exact⟨(by decide:(4:Nat)<5),rfl⟩
 have k:∀{a b c d e:D},jf (.tup [a,b,c,d,e]) (.int 4)=some e:=rfl;have m:∀{a b c d e:D},VF (.tup [a,b,c,d]) (.tup [e])=some (.tup [a,b,c,d,e]):=rfl;have n:∀{a b c d:D},jag [.lst true [a,b,c,d]]=some (.tup [a,b,c,d]):=rfl;simp[sl,f,g,h,i,j,jt,k,m,n,jb]
def jha{bs ln ws}(h:bs.length<=100):yx [Ji bs ln ws]=some (stO bs ln ws):=by
 have c1:jL (jc [] 0) qT (p2 VF (pCB jag #[ya (Jb<|pSl (pV 0) oN<|oS<|pI 4) (jc [] 0) qT (pCB vX #[pV 0]) [none]])<|yb #[pF<|p2 jf (pV 0)<|pI 4]) (bs.map<|vf false) [none]=some (bs.map<|vf true):=by
  refine jo (en:=vf false) rfl (λρ=>∃ o,ρ=[o]) ?_ ⟨none,rfl⟩;rintro b j ρ ⟨o,rfl⟩;exact⟨[some<|vf false b],rfl,jd5 b,_,rfl⟩
 have a:jf (Ji bs ln ws) (.int 0)=‹bs.map (vf false)›:=rfl;have c:jf (Ji bs ln ws) (.int 1)=‹ln.map eR›:=rfl;have d:jf (Ji bs ln ws) (.int 2)=‹ws.map D.int›:=rfl;have e:=ub (vi ln) false;have f:=ub (YI ws) false;have g:lim (bs.map<|vf false).length=true:=yZ ∅;have i:=Jt bs;unfold stO;generalize Ji bs ln ws=ST,bs.map (vf false)=BF,bs.map (vf true)=BT,ln.map eR=LN,ws.map D.int=WS at *;simp[yx,jH,VN,a,c,d,e,f,i,g,jt,c1,jb]
def jau(b:Bk)(h:b.S.length<=10/\b.W.length<=10/\b.R.length<=10/\b.L.length<=10)(o2):∃ o2',yT [none,some<|vf true b,o2]=some (.nx [none,none,o2']):=by
 obtain⟨c,d,e,f⟩:=h;have a:lim (b.S.map e2).length=true:=yZ ∅;have g2:lim (b.W.map e2).length=true:=yZ ∅;have g3:lim (b.R.map e2).length=true:=yZ ∅;have g4:lim (b.L.map e2).length=true:=yZ ∅;unfold vf bkD;generalize b.S.map e2=s,b.W.map e2=w,b.R.map e2=r,b.L.map e2=l at *;simp[yT,jdD,jjW,jK,qW,a,g2,g3,g4,jb]
theorem VY:∀{bs:List Bk}{o1 o2},(∀ b∈bs,b.S.length<=10/\b.W.length<=10/\b.R.length<=10/\b.L.length<=10)->∃ o1' o2',jI (jc [0,0] 1) yT (bs.map<|vf true) [none,o1,o2]=some (.nx [none,o1',o2'])
 | [],o1,o2,_=>⟨o1,o2,rfl⟩
 | b::bs,o1,o2,h=>by
  obtain⟨p2,e⟩:=jau b (h b<|by simp) o2;obtain⟨a,c,e2⟩:=VY (bs:=bs) (o1:=none) (o2:=p2) λx d=>h x (by simp[d]);exact⟨a,c,by rw[L5,lpE rfl e,e2]⟩
def jbs{bs ln ws}(h:∀ b∈bs,b.S.length<=10/\b.W.length<=10/\b.R.length<=10/\b.L.length<=10)(h1:bs.length<=100)(h2:ln.length<=1000)(i:ws.length<=100):∃ X,jV [stO bs ln ws]=some (.non,X):=by
 obtain⟨a,b,e⟩:=VY (bs:=bs) (o1:=none) (o2:=none) h;have d:lim (List.map (λ_=>D.dead)<|bs.map<|vf true).length=true:=jb (by simp;lia);have g2:lim (ln.map eR).length=true:=yZ ∅;have g3:lim (ws.map D.int).length=true:=yZ ∅;have f:∀{a b c:D},lIx 0 jU (.tup [a,b,c])=some (a,λx=>.tup [x,b,c]):=rfl;have l1:∀{a b c:D},lIx 1 jU (.tup [a,b,c])=some (b,λx=>.tup [a,x,c]):=rfl;have l2:∀{a b c:D},lIx 2 jU (.tup [a,b,c])=some (c,λx=>.tup [a,b,x]):=rfl;unfold stO;generalize bs.map (vf true)=BT,ln.map eR=LN,ws.map D.int=WS at *;generalize g:List.map (λ_=>D.dead) BT=DD at *;simp[jV,qr,Yk,jfS,f,l1,l2,e,jk9,d,g2,g3,g,jb,-List.map_const];exact⟨_,rfl⟩
theorem jle:∀{l:List Int},l.Pairwise (·<=·)->upI l=true
 | [],_=>rfl
 | [_],_=>rfl
 | a::b::l,h=>by
  have c:=List.pairwise_cons.mp h;rw[upI,X1<|c.1 b<|by simp,jle c.2];rfl
theorem ue:∀{Q log},LgR Q log->∀ A:List (List Nat),(A++vj Q).Nodup->(log.map λx=>((A++vj Q).idxOf x.1:Int)).Pairwise (·<=·)/\∀ x∈log,A.length<=(A++vj Q).idxOf x.1/\x.1∈vj Q
 | _,_,.nil,A,_=>⟨.nil,by simp⟩
 | _,_,.cons (p:=p) (Q:=Q) (sg:=f) (l:=l) h t,A,nd=>by
  have e:A++vj (p::Q)=(A++[p.nm])++vj Q:=by simp
  rw[e] at nd ⊢;obtain⟨j,i⟩:=ue t (A++[p.nm]) nd;have k:((A++[p.nm])++vj Q).idxOf p.nm=A.length:=by
   have m:¬ p.nm∈A:=λz=>by
    rw[List.append_assoc,U9] at nd;exact nd.2.2 _ z p.nm (by simp) rfl
   rw[List.append_assoc,List.idxOf_append,if_neg m];simp
  have d:∀ x∈f,((A++[p.nm])++vj Q).idxOf x.1=A.length:=λx c=>by rw[(h x c).1,k]
  refine⟨?_,λx c=>?_⟩
  ·rw[N5,List.pairwise_append];refine⟨?_,j,λa n b o=>?_⟩
   ·rw[List.map_congr_left (g:=λ_=>(A.length:Int)) λx c=>by rw[d x c]];rw[List.map_const',List.pairwise_replicate];exact .inr<|Int.le_refl _
   ·obtain⟨x,c,rfl⟩:=M5.mp n;obtain⟨y,q,rfl⟩:=M5.mp o;have:=(i y q).1;rw[N4] at this;rw[d x c];lia
  ·rcases N2.mp c with c | c
   ·rw[d x c,(h x c).1];exact⟨M8 _,by simp⟩
   ·have:=i x c;rw[N4] at this;exact⟨by lia,L6 _ this.2⟩
def xF{a}(b:DealOk a){log}(h:LgR a log)(e:log.length<=2400):yV [.lst false<|a.map<|jE false,.lst false<|log.map e7]=some (.bl true):=by
 obtain⟨c,d⟩:=ue h [] ⇑b.nmn;rw[X5] at c d;have c1:jL (jc [] 0) qT (pF<|p2 jf (pV 0)<|pI 0) (a.map<|jE false) [none]=some ((vj a).map D.str):=by
  rw[U1];refine jo (en:=jE false) rfl (λρ=>∃ o,ρ=[o]) ?_ ⟨none,rfl⟩;rintro p r ρ ⟨o,rfl⟩;exact⟨[some<|jE false p],rfl,rfl,_,rfl⟩
 have f:Kw ((vj a).map D.str)=some (vj a):=uQ _;have g:jL (jc [] 0) qT (pLM J1 (pV 1) #[p2 jf (pV 0)<|pI 0]) (log.map e7) [none,↑((vj a).map D.str)]=some ((log.map λx=>((vj a).idxOf x.1:Int)).map D.int):=by
  rw[show((log.map λx=>((vj a).idxOf x.1:Int)).map D.int)=log.map λx=>D.int ((vj a).idxOf x.1:Int) from U1];refine jo (en:=e7) rfl (λρ=>∃ o,ρ=[o,↑((vj a).map D.str)]) ?_ ⟨none,rfl⟩;rintro x i ρ ⟨o,rfl⟩;refine⟨[some<|e7 x,↑((vj a).map D.str)],rfl,?_,_,rfl⟩;have j:jf (e7 x) (.int 0)=some (.str x.1):=rfl;have m:=(d x i).2;generalize vj a=N,e7 x=E at *;simp[j,f,m,jfD]
 have up:=jle c;have l1:lim (a.map<|jE false).length=true:=yZ (by have:=b.len2;lia);have l2:lim (log.map e7).length=true:=yZ ∅;have k:=yN b;have l:=kK log;have sl:(log.map λx=>((vj a).idxOf x.1:Int)).length<=2400:=by rw[L1];exact e
 generalize(log.map λx=>((vj a).idxOf x.1:Int))=sp at *;have n:kZ (.lst true<|sp.map D.int) (.lst true<|sp.map D.int)=some (.bl true):=jck (ko 19 sp) (ko 19 sp) rfl;have q:Q7 [.lst true<|sp.map D.int]=↑(sp.map D.int):=by
  rw[uk,jaL,L4,up,yZ ∅];rfl
 generalize a.map (jE false)=PP,log.map e7=LL,sp.map D.int=SP at *;generalize(vj a).map D.str=NN at *;simp[yV,jH,qV,k,l,l1,l2,jt,c1,g,q,n,-uk,-pLM]
def StK.spoil{c}(d:DealOk c){bs ln ws}(k:StK c bs ln ws):∃ X,jV [stO bs ln ws]=some (.non,X):=by
 have l2:=d.len2;obtain⟨B,e⟩:=k.b;have bl:=KU e;have h:=k.n.len (by rw[L1];lia);have w:=k.w;exact jbs (λb a=>(jcE e (λp f=>by obtain⟨X,g,_⟩:=d.ok p f;exact⟨X,g⟩) b a).1) ∅ ∅ ∅
def StK.copy{a}(c:DealOk a){bs ln ws}(k:StK a bs ln ws):yx [Ji bs ln ws]=some (stO bs ln ws):=by
 have l2:=c.len2;obtain⟨B,d⟩:=k.b;have bl:=KU d;exact jha ∅
def jfv{f}(c:DealOk f){bs ln ws}{d:DY}{r:RD}(k:StK f bs ln ws)(e:yw [.lst false<|f.map<|jE false,Ji bs ln ws,.lst false<|d.1.map D.int,.lst false<|d.2.map D.int]=some (jJ r))(o:RdOk f r){a0 a2 a3 o7 o8 a9}:∃ o7' o8',KR [a0,‹f.map (jE false)›,a2,a3,some<|stO bs ln ws,some<|jY d,some<|yk r,o7,o8,a9]=some (.nx [a0,‹f.map (jE false)›,a2,a3,some<|stO r.bs r.ln r.ws,some<|jY d,some<|yk r,o7',o8',a9]):=by
 obtain⟨X,p⟩:=k.spoil c;obtain⟨Y,q⟩:=o.s.spoil c;have c1:=k.copy c;have t:=o.s.copy c;have j:=Qv bs ln ws;have u:=Qv r.bs r.ln r.ws;have v:=qp bs ln ws;have w:=qp r.bs r.ln r.ws;have y:=Yy r;have z:=jgX r;have A:jf (jY d) (.int 0)=‹d.1.map D.int›:=rfl;have B:jf (jY d) (.int 1)=‹d.2.map D.int›:=rfl;have C:Vq (stO bs ln ws) (stO bs ln ws)=some (.bl false):=Vd (jhx c k true 15) (jhx c k true 15) rfl;have E:Vq (jJ r) (yk r)=some (.bl false):=Vd (jeh c o true 14) (jeh c o false 14) (by rw[jgX,jkZ]);have pl:vM [yk r]=some (.bl true):=xV (n:=8)<|jkX c o;have F:=xF c o.g o.l;have G:jf (jJ r) (.int 0)=some (stO r.bs r.ln r.ws):=rfl;have H:jf (jJ r) (.int 1)=↑(r.log.map e7):=rfl;have ty:tyD (jJ r)=some "tuple":=rfl;have I:k8 [jJ r]=some (.int 2):=rfl;have J:jU (stO bs ln ws)=some (stO bs ln ws,λx=>x):=rfl;have K:lIx 0 jU (jJ r)=some (stO r.bs r.ln r.ws,λx=>.tup [x,.lst true<|r.log.map e7]):=rfl;have L:∀{a b:D},lIx 1 jU (.tup [a,b])=some (b,λx=>.tup [a,x]):=rfl;have M:JN "tuple" "tuple" = true:=rfl;have m:=kr c false;have N:=V5 r.log;have O:=yN c;have h:=vY d.1;have i:=vY d.2;refine⟨some<|stO bs ln ws,some<|.tup [Y,.lst true []],?_⟩;generalize f.map (jE false)=PP,d.1.map D.int=I1,d.2.map D.int=I2,jY d=DD,r.log.map e7=LL,yk r=RF,jJ r=RR,stO r.bs r.ln r.ws=S2,stO bs ln ws=S1 at *;unfold KR;apply sq (by simp[j,c1,v];rfl);apply sq (by simp[j,A,B,m,h,i,e,y];rfl);apply sq (by simp[ty,M,I,C];rfl);apply sq (by simp[yD,J,p];rfl);apply sq (by simp[E];rfl);apply sq (by simp[z,pl,m,N,H,F];rfl);apply sq (by simp[G,u,t,w];rfl);apply sq (by simp[yD,K,q];rfl);simp[L]
theorem uE{a}(b:DealOk a){a0 a2 a3 a9}:∀{ds rs bs ln ws o5 o6 o7 o8},RunR a bs ln ws ds rs->StK a bs ln ws->Ex5 λo4' o5' o6' o7' o8'=>jI (gT 2<|gC (jc [3,0,1,2] 5)<|gC (jc [3,0,1,2] 6) gN) KR (jgR (ds.map jY)<|rs.map yk) [a0,‹a.map (jE false)›,a2,a3,some<|stO bs ln ws,o5,o6,o7,o8,a9]=some (.nx [a0,‹a.map (jE false)›,a2,a3,o4',o5',o6',o7',o8',a9])
 | _,_,bs,ln,ws,o5,o6,o7,o8,.nil,_=>⟨_,_,_,_,_,rfl⟩
 | _,_,bs,ln,ws,o5,o6,o7,o8,.cons (d:=d) (r:=r) e o t,k=>by
  obtain⟨c,f,g⟩:=jfv b k e o (a0:=a0) (a2:=a2) (a3:=a3) (o7:=o7) (o8:=o8) (a9:=a9);obtain⟨h,i,j,l,m,e2⟩:=uE b (a0:=a0) (a2:=a2) (a3:=a3) (a9:=a9) (o5:=some<|jY d) (o6:=some<|yk r) (o7:=c) (o8:=f) t o.s;exact⟨h,i,j,l,m,by rw[L5,L5,jgR,lpE rfl g,e2]⟩
def RunR.all{a bs ln ws ds rs}(h:RunR a bs ln ws ds rs):∀ r∈rs,RdOk a r:=by
 induction h with
 | nil=>simp
 | cons e o t b=>exact λr c=>(M4.mp c).elim (λz=>z▸o) (b r)
def jeq{a}(d:DealOk a){rs:List RD}(h:∀ r∈rs,RdOk a r):jL (gT 2<|gC (jc [] 0)<|gC (jc [] 1) gN) qT (yb #[jj yx #[pV 0],pCB vX #[pV 1]]) (rs.map yk) [none,none]=some (rs.map jJ):=by
 refine jo (en:=yk) rfl (λρ=>∃ o b,ρ=[o,b]) ?_ ⟨none,none,rfl⟩;rintro r e ρ ⟨o,b,rfl⟩;refine⟨[some<|Ji r.bs r.ln r.ws,‹r.log.map e7›],rfl,?_,_,_,rfl⟩;have c:=(h r e).s.copy d;have f:=Vb r.bs r.ln r.ws;have z:=jco r.bs r.ln r.ws;have l:=ub (kK r.log) false;unfold jJ;generalize Ji r.bs r.ln r.ws=S1,stO r.bs r.ln r.ws=S2,r.log.map e7=LL at *;simp[c,f,z,l,jb]
def xM{c}(d:DealOk c){a0 a1 a2 a4 a5 a6 a7 a8 a9}:∀{rs:List RD},(∀ r∈rs,RdOk c r)->∃ F,sIf (dPT<|jl<|p2 Yo (pCB k8 #[pV 3])<|pI 0) (ji (JZ<|yD jV 3 (lIx 0<|lIx 0 jU) pN)<|jdx 3<|lIx 1<|lIx 0 jU) jQ [a0,a1,a2,↑(rs.map jJ),a4,a5,a6,a7,a8,a9]=some (.nx [a0,a1,a2,some F,a4,a5,a6,a7,a8,a9])/\jdy (some 1) none (fz F)=↑(rs.tail.map yk)
 | [],_=>⟨.lst true [],by simp,rfl⟩
 | r::rs,h=>by
  obtain⟨X,e⟩:=(h r<|by simp).s.spoil d;have ix:∀ n:Nat,ixN (n+1) 0=some 0:=λn=>ux (i:=0) (by simp);have f:∀(T:List D),lIx 0 jU (.lst true<|jJ r::T)=some (jJ r,λx=>.lst true<|x::T):=λT=>by
   show(ixN (T.length+1) 0).bind _=_;rw[ix];rfl
  have g:∀(T:List D) (a b:D),lIx 0 jU (.lst true<|.tup [a,b]::T)=some (.tup [a,b],λx=>.lst true<|x::T):=λT a b=>by
   show(ixN (T.length+1) 0).bind _=_;rw[ix];rfl
  have j:∀ T,lIx 0 (lIx 0 jU) (.lst true<|jJ r::T)=some (stO r.bs r.ln r.ws,λx=>.lst true<|.tup [x,.lst true<|r.log.map e7]::T):=λT=>by
   show(lIx 0 jU<|.lst true<|jJ r::T).bind _=_;rw[f];rfl
  have w1:∀ T a b,lIx 1 (lIx 0 jU) (.lst true<|.tup [a,b]::T)=some (b,λx=>.lst true<|.tup [a,x]::T):=λT a b=>by
   show(lIx 0 jU<|.lst true<|.tup [a,b]::T).bind _=_;rw[g];rfl
  refine⟨.lst true<|.tup [X,.lst true []]::rs.map jJ,?_,?_⟩
  ·have k:Yo (.int ((rs.map jJ).length+1:Nat)) (.int 0)=some (.bl true):=by simp
   have l:k8 [.lst true<|jJ r::rs.map jJ]=some (.int ((rs.map jJ).length+1:Nat)):=rfl;rw[L5];generalize rs.map jJ=T,jJ r=RR,stO r.bs r.ln r.ws=SS at *;simp[l,k,yD,j,w1,e]
  ·show jdy (some 1) none (.lst false<|fzs<|.tup [X,.lst true []]::rs.map jJ)=_;rw[joA<|kB _,VU _<|by decide,fzs,ja3];rfl
def sqv{f g:FS}{ρ ρ':Rh}{r}(h:f ρ=some (.nx ρ'))(k:(g ρ').bind Out.val=r):(ji f g ρ).bind Out.val=r:=by rw[sq h rfl];exact k
def jet(ns:List Int)(U:ns.length<=63)(hb:∀ x∈ns,Builtin.Int.intBits x<=2 ^ 20):jdl [.lst false<|ns.map D.int]=some (.bl true):=by
 obtain⟨c,L,h⟩:=jjb ns (most:=3) (by decide) (by decide);obtain⟨e,t,E,hd⟩:=jiK ns U (n:=c.length) h.len2;obtain⟨b,V,f,e3⟩:=jlo h hd E;have G:=f.len;have z:=f.all;have l2:=h.len2;have W:=uc h;have A:=yN h;have B:=kr h true;have M:=kr h false;have H:=xI e;have C:=jgx e;have N:=jcT b;have O:=ja3 b;have Y:=jgy b;have u:=YI ns;have g:=vY ns;have Z:=qp (c.map bk0) []<|zs c;have n1:clean (.lst true<|b.map jJ)=true:=by simp[qx Yy]
 obtain⟨q4,q5,q6,q7,q8,e4⟩:=uE h (a0:=‹ns.map D.int›) (a2:=‹e.map jY›) (a3:=‹b.map yk›) (a9:=none) (o5:=none) (o6:=none) (o7:=none) (o8:=none) f V;have hz:jhI 2 [.lst false<|e.map jY,.lst false<|b.map yk]=some (jgR (e.map jY)<|b.map yk):=by rw[jpu rfl rfl<|by simp;lia,C,Y]
 have v:∀ o,okE 20 (.lst o<|c.map<|jE o)=true:=λo=>yJ λd hd=>by
  obtain⟨p,hp,rfl⟩:=M5.mp hd;obtain⟨X,hx,_⟩:=h.ok p hp;exact hx.ok o 13
 have t1:Vq (.lst false<|c.map<|jE false) (.lst true<|c.map<|jE true)=some (.bl false):=Vd (v _) (v _) (by rw[fz,fz,B,M]);have w:∀ o,okE 20 (.lst o<|e.map jY)=true:=λo=>yJ λd hd=>by
  obtain⟨y,_,rfl⟩:=M5.mp hd;show yA 18 [.lst false<|y.1.map D.int,.lst false<|y.2.map D.int]=true;have a:∀ l:List Int,okE 18 (.lst false<|l.map D.int)=true:=λl=>ko 17 l;simp[yA,a]
 have t2:Vq (.lst false<|e.map jY) (.lst true<|e.map jY)=some (.bl false):=Vd (w _) (w _) (by rw[fz,fz]);have i:∀ q:List RD,(∀ r∈q,RdOk c r)->okE 20 (.lst true<|q.map jJ)=true:=λq J=>yJ λd hd=>by
  obtain⟨r,f,rfl⟩:=M5.mp hd;exact jeh h (J r f) true 13
 have K:∀ q:List RD,(∀ r∈q,RdOk c r)->okE 20 (.lst true<|q.map yk)=true:=λq J=>yJ λd hd=>by
  obtain⟨r,f,rfl⟩:=M5.mp hd;exact jeh h (J r f) false 13
 have t3:Vq (.lst true<|b.map jJ) (.lst true<|b.map jJ)=some (.bl false):=Vd (i b z) (i b z) rfl;have rt:∀ r∈b.tail,RdOk c r:=λr f=>z r<|List.mem_of_mem_tail f;have lt:=jeq h rt;have sl:jdy (some 1) none (.lst false<|b.map yk)=↑(b.tail.map yk):=by
  rw[joA N,VU _<|by decide];simp
 have t4:kZ (.lst true<|b.tail.map yk) (.lst true<|b.tail.map jJ)=some (.bl true):=jck (K _ rt) (i _ rt) (by rw[fz,fz,ja3,jgy]);have n2:clean (.lst true<|b.tail.map jJ)=true:=by simp only[YF,qx Yy];rfl
 have ll:lim (b.tail.map yk).length=true:=yZ (by rw[List.length_tail];lia);have tf:=jcT b.tail;have j:k8 [.lst true<|c.map<|jE true]=some (.int (c.length:Int)):=by simp
 have k:k8 [.lst false<|c.map<|jE false]=some (.int (c.length:Int)):=by simp
 have m:k8 [.lst true<|b.map jJ]=some (.int (e.length:Int)):=by simp[G]
 have s:k8 [.lst false<|e.map jY]=some (.int (e.length:Int)):=by simp
 have sp:=λP Q R S T I=>xM h (a0:=‹ns.map D.int›) (a1:=‹c.map (jE false)›) (a2:=‹e.map jY›) (a4:=P) (a5:=Q) (a6:=R) (a7:=S) (a8:=T) (a9:=I) z;generalize c.map (jE true)=PT,c.map (jE false)=PP,e.map jY=DD,b.tail.map yk=TF,b.tail.map jJ=TT,b.map yk=RF,b.map jJ=RR,ns.map D.int=NN,stO (c.map bk0) [] (zs c)=S0 at *;show(jhw [‹NN›,none,none,none,none,none,none,none,none,none]).bind Out.val=_;unfold jhw;apply sqv (by simp[L,u,g];rfl);apply sqv (by simp[j,t,u,g];rfl);apply sqv (by simp[B,C,e3,n1,-YF];rfl);apply sqv (by simp[B,W,Z];rfl);apply sqv (by simp[B,C,jaz,O,H,N,hz,e4,jiO,ja4,uw,okF,okC,A,u];rfl);apply sqv (by simp[k,m,s,L,t,u,g,t1,t2,A];rfl);apply sqv (by simp[M,C,A,H,e3,t3];rfl);apply sqv (by simp[jaz,O,sl,tf,ll,jt,lt,jiO,ja4,uw,okF,okC,A,H,u,n2,-YF];rfl);obtain⟨F,s1,s2⟩:=sp _ _ _ _ _ _;refine sqv s1 ?_;simp[s2,t4]
end K34
set_option maxHeartbeats 0
namespace K34
open PySem L2 QD
def all_mk{l:PySem.W.OpenLaw}{w:World}{K:W4}{mg:W6}{fa a:Addr}(hfa:mg "law" = some (.ref fa))(_:PySem.W.nsIn K mainGlobals "Fall" = some (some<|.ref a))(T:Txt l.prog w K mg λ_=>a):∃ fd:FuncData,(∀(s:Shared) (v:Value),BindsTo s fd ⟨[v],[]⟩ [("_law_script",v)])/\∀ base:Heap,K.In base->base.Ns mainGlobals mg->FnOk l.prog w K mg base CX0 10 fa fd ["_law_script"] (λvs H Q E=>∀ C:Addr,spP ⟨K,λ_=>C⟩ jdl 1 vs H Q E):=by
 obtain⟨f',fd',F',G'⟩:=(jk8 T).2.2.2.2.2.2.2.2;cases hfa.symm.trans F'.mgf;obtain⟨⟨oc,od,kV,doc,pm,an,cdv,ct,osl,rfl,_,_⟩,_⟩:=F'.fn;exact⟨_,λs v=>.of_eq rfl,λbase _ _=>(G' base).imp λvs H Q E h=>h a⟩
def walk{l:PySem.W.OpenLaw}{q:Program}{loose:List Str}{XP:(Str->Option Value)->Heap->Prop}{YP:World->Heap->Prop}{d:DefRec}{K:Params->PySem.W.Frag}(hn:l.most=some 63)(hdf:d.params.defaults=[])
  (hY:∀(w:World) (h:Heap),YP w h->(K w.params).In h)
  (F:∀(w:World) (mg:W6) (fa:Addr) (h:Heap),(K w.params).In h->h.Ns mainGlobals mg->mg d.name=some (.ref fa) ->
   ∃ fd:FuncData,(∀(s:Shared) (u:Value),BindsTo s fd ⟨[u],[]⟩ [("_law_script",u)])/\∀ base:Heap,(K w.params).In base->base.Ns mainGlobals mg->FnOk l.prog w (K w.params) mg base CX0 10 fa fd ["_law_script"] (λvs H Q E=>∀ C:Addr,spP ⟨K w.params,λ_=>C⟩ jdl 1 vs H Q E)):
  PySem.W.WalkO q loose XP YP l.row.toRowW d [] (λf vs=>PySem.call f vs):=
 L2.walk_ofB (n:=63) (k:=10) (x:="_law_script") (CX:=λ_=>CX0) (sp:=λw=>(λvs H Q E=>∀ C:Addr,spP ⟨K w.params,λ_=>C⟩ jdl 1 vs H Q E)) hn (by decide) hdf ⟨rfl,by decide,by decide⟩ hY F (λ_ H a ns hl hb _ hS=>λC=>jk3 (jet ns hl hb) hS) λ_ _ _ _ _ z=>z
end K34
namespace PySem.W.Fast
def tw9487047326315300490:=0
def tw4432645264155674876:=0
def tw3953824301432160032:=0
def tw11809227553381906383:=0
def tw1956402970773876728:=0
def tw9069016604117538726:=0
def tw5034875292479414198:=0
def tw16365779645773615500:=0
def tw6201885147651904086:=0
def tw15189627450455866163:=0
def tw6083874975872189811:=0
def tw4795812386872607082:=0
def tw16842510758213586454:=0
def tw12508933921175082534:=0
def tw9251138310357363033:=0
def tw6580280362633646270:=0
def tw2306393351608480510:=0
def tw11735926819695425003:=0
def tw3793636409243158759:=0
def tw7452401172442528402:=0
def tw3499480113969247621:=0
def tw13806516028855821121:=0
def tw3389606492258977708:=0
def tw1812359357781980408:=0
def tw2437007369467947775:=0
def tw5744976177894439708:=0
def tw3809721163356891325:=0
def tw7107660283673116098:=0
def tw544682427815754273:=0
def tw2553127177626126690:=0
def tw11584725266922953773:=0
def tw8396060191904425128:=0
def tw6333600127470847892:=0
def tw16989725350451666495:=0
def tw10617490667146690234:=0
def tw11849228110076487902:=0
def tw13398584731505794151:=0
def tw68399437742518996:=0
def tw17222623206873794717:=0
def tw2215395380516567352:=0
def tw6217579469927074649:=0
def tw11679408385634959127:=0
def tw2068755484574158684:=0
def tw17454035875690393359:=0
def tw14011265469966937789:=0
def tw14478525289038666023:=0
def tw2076197244590309723:=0
def tw14732961533697921266:=0
def tw11134253227951647582:=0
def tw14536585191054345980:=0
def tw16120001475340635078:=0
def tw9830301762409055260:=0
def tw3529488754606478566:=0
def tw12422244357027647001:=0
def tw14561589898289921179:=0
def tw12520854106593434992:=0
def tw17558538297329854392:=0
def tw5272145904056029879:=0
def tw8710734677978241439:=0
def tw1585301548875620679:=0
def tw13582838149647983278:=0
def tw4477427324813604379:=0
def tw249743768932547508:=0
def tw12647239326527371795:=0
def tw14572302277209057942:=0
def tw5086352336483821331:=0
def tw4403497681917395280:=0
def tw9239738827671366173:=0
def tw13572353723364705737:=0
def tw11433382276605723121:=0
def tw2123969924653083680:=0
def tw15937764774978430197:=0
def tw5840804905668777674:=0
def tw1007107331170803819:=0
def tw7576074304981337668:=0
def tw17803536400080789913:=0
def tw11662883287860783902:=0
def tw6600522035102322995:=0
def tw672061695195017323:=0
def tw16489216533846122842:=0
def tw6988116244134364786:=0
def tw15318493601348795647:=0
def tw10050623047395899737:=0
def tw6654144670186940979:=0
def tw14887619100252685701:=0
def tw13326078159032811009:=0
def tw4815459791554562724:=0
def tw12993682769362361470:=0
def tw18425788316717485268:=0
def tw4114198124816334367:=0
def tw8725780296901648695:=0
def tw11045134871528145462:=0
def tw18233064695961168083:=0
def tw8321010581861174589:=0
def tw3174544325333475081:=0
def tw17051972165975984931:=0
def tw10007560363912915706:=0
def tw1689762139553185713:=0
def tw12598319888209118581:=0
def tw2201261684132494594:=0
def tw14350606682141868810:=0
def tw18405008178562008966:=0
def tw760580430072087589:=0
def tw4611311412995466622:=0
def tw17882338927220469772:=0
def tw10931903728573026999:=0
def tw8743000964366931984:=0
def tw7887066396940099755:=0
def tw114450653997349848:=0
def tw4227089005647385076:=0
def tw7218120945655441833:=0
end PySem.W.Fast
set_option maxHeartbeats 0
open PySem PySem.W PyProof.Rows
set_option maxRecDepth 100000 in
set_option maxHeartbeats 0 in
theorem PySem.Challenge.cw_tranchefall_k34_day_by_day_holds : PySem.Challenge.rw_tranchefall_k34_day_by_day.Holds := by
 w_on;o_law;k_head;(case hw=>w_witness2)
 k_fill
 refine K34.walk (l:=PySem.Challenge.rw_tranchefall_k34_day_by_day) rfl rfl (λw h Y=>PySem.W.kIn_of Y) ?F
 case F =>
  intro w mg fa h KX G hmg;refine' K34.all_mk hmg ?c ?t
  (case c=>k_is)
  case t =>
   constructor
   all_goals first
    | ((first | refine⟨QD.fsc,QD.hasF KX G (by k_is) (by k_is) (by k_is) (by k_is) ?_⟩ | refine⟨QD.fsc,QD.hasM (by k_is) (by k_is) (by k_is) (by k_is) (by k_is) ?_⟩);intro _ _ _ _ _ _;(repeat refine QD.uS λ_=>?_);exact QD.u0 rfl)
    | exact PySem.W.mg_none_of KX G (by k_is) | exact PySem.W.mg_of KX G (by k_is) | exact⟨by k_is,by k_is,by k_is,by k_is⟩ | k_is | (show PySem.W.findIn _ _ _=_;k_is)
