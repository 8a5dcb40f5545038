import PyProof.Rows.All
import Wide.All
import OpenK.AllK
import Wide.FinOn
import Lean
import PyProof.EqAt
import PyProof.EqKinds
import PyProof.TupleCall
import KE.KItemsList
import KE.KRevIter
import PyProof.CollectIter
import PyProof.DictWalks
import PyProof.WalksMore
import PyProof.SumWalkG
import KE.KSortTup
import PyProof.Draws
import PySem.Challenge.RW_tranchefall_k35_whole_coins_are_kept
set_option Elab.async false
set_option linter.all false
set_option maxRecDepth 100000
noncomputable section
section
open PySem PySem.Spec PyProof.Rows
abbrev L3:=@List.length_map
abbrev L4:=@wpAny_bind
abbrev L5:=@Option.bind_some
abbrev L6:=@List.map_cons
abbrev L7:=@List.mem_cons_of_mem
abbrev L8:=@List.mem_cons_self
abbrev L9:=@Heap.get?_push_of_some
abbrev M0:=@List.getElem?_eq_some_iff
abbrev M3:=@Bool.and_eq_true
abbrev M4:=@List.length_cons
abbrev M5:=@Bool.false_ne_true
abbrev M6:=@List.mem_cons
abbrev M7:=@List.mem_map
abbrev M8:=@wpAny_pure
abbrev M9:=@List.mem_singleton
abbrev N0:=@Nat.le_refl
abbrev N1:=@List.append_nil
abbrev N2:=@Heap.lt_size
abbrev N3:=@List.mem_append
abbrev N4:=@List.size_toArray
abbrev N5:=@List.length_append
abbrev N6:=@List.map_append
abbrev N7:=@Nat.ne_of_lt
abbrev N8:=@Nat.le_trans
abbrev N9:=@Int.toNat_natCast
abbrev U0:=@Int.emod_lt_of_pos
abbrev U1:=@Int.emod_nonneg
abbrev U2:=@List.map_map
abbrev U3:=@beq_eq_false_iff_ne
abbrev U4:=@List.mem_append_right
abbrev U5:=@Nat.lt_of_lt_of_le
abbrev U6:=@Nat.zero_le
abbrev U7:=@wpAny_field
abbrev U8:=@List.zip_cons_cons
abbrev U9:=@List.count_append
abbrev X6:=@List.nodup_append
abbrev X7:=@List.foldl_cons
abbrev X8:=@decide_eq_true
abbrev X9:=@decide_eq_false
abbrev E1:=@of_decide_eq_true
abbrev E2:=@Option.some.inj
abbrev E3:=@List.nil_append
abbrev E4:=@List.getElem?_eq_getElem
abbrev E5:=@List.length_take
abbrev E6:=@Heap.get?_push_size
abbrev E7:=@Nat.lt_of_le_of_lt
end
abbrev J0:=PySem.Value->PySem.Shared->Prop
abbrev W0:=List (PySem.Addr×PySem.Obj)
abbrev W1:=List (List Nat)
abbrev W4:=PySem.W.Frag
abbrev W5:=List PySem.Addr
abbrev W6:=PySem.Str->Option PySem.Value
namespace L2
open PySem PySem.Spec PyProof.Rows
noncomputable abbrev Key:=Sum Int Str
noncomputable def xF:Key->Value->Bool
 | .inl k,v=>Value.isInt k v
 | .inr x,v=>Value.isStrOf x v
noncomputable def jnt(w:World):Key->Int
 | .inl k=>hashInt k
 | .inr x=>hashStr w x
def jN:∀{k:Key}{v:Value},xF k v=true->(∃ i t,k=Sum.inl i/\v=Value.int i t) \/ (∃ x t,k=Sum.inr x/\v=Value.str x t)
 | .inl i,v,h=>by
  obtain⟨t,e⟩:=Value.isInt_shape (k:=i) (v:=v) h;exact .inl ⟨i,t,rfl,e⟩
 | .inr x,v,h=>by
  obtain⟨t,e⟩:=Value.isStrOf_shape (x:=x) (v:=v) h;exact .inr ⟨x,t,rfl,e⟩
def jb7(i:Int)(t:Tok):xF (.inl i) (.int i t)=true:=by simp[xF,Value.isInt]
def ja6(x:Str)(t:Tok):xF (.inr x) (.str x t)=true:=by simp[xF,Value.isStrOf]
def jiU(a b:Int):decide ((Sum.inl a:Key)=Sum.inl b)=(a==b):=by
 by_cases e:a=b
 ·subst e;simp
 ·have h:¬ (Sum.inl a:Key)=Sum.inl b:=λq=>e<|Sum.inl.inj q;rw[X9 h];exact(U3.mpr e).symm
def jkP(a b:Str):decide ((Sum.inr a:Key)=Sum.inr b)=decide (a=b):=by
 by_cases e:a=b
 ·subst e;simp
 ·have h:¬ (Sum.inr a:Key)=Sum.inr b:=λq=>e<|Sum.inr.inj q;rw[X9 h,X9 e]
def jkC(a:Int)(b:Str):decide ((Sum.inl a:Key)=Sum.inr b)=false:=X9 (λq=>nomatch q)
def jkR(a:Str)(b:Int):decide ((Sum.inr a:Key)=Sum.inl b)=false:=X9 (λq=>nomatch q)
def js(prog:Program)(w:World):PySem.KeyKind prog w Key where
 is:=xF
 hash:=jnt w
 inj:=λv a b ha hb=>by
  rcases jN ha with⟨i,t,rfl,rfl⟩ | ⟨x,t,rfl,rfl⟩
  ·rcases jN hb with⟨j,u,rfl,e⟩ | ⟨y,u,rfl,e⟩
   ·injection e with e1 _;rw[e1]
   ·exact nomatch e
  ·rcases jN hb with⟨j,u,rfl,e⟩ | ⟨y,u,rfl,e⟩
   ·exact nomatch e
   ·injection e with e1 _;rw[e1]
 byValue:=λk v h=>by
  rcases jN h with⟨i,t,rfl,rfl⟩ | ⟨x,t,rfl,rfl⟩<;>rfl
 pyHash:=λhv h=>by
  rcases jN hv with⟨i,t,rfl,rfl⟩ | ⟨x,t,rfl,rfl⟩
  ·exact wpAny_pyHash_int h
  ·exact wpAny_pyHash_str h
 eqBool:=λhu hv h=>by
  rcases jN hu with⟨i,t,rfl,rfl⟩ | ⟨x,t,rfl,rfl⟩
  ·rcases jN hv with⟨j,u,rfl,rfl⟩ | ⟨y,u,rfl,rfl⟩
   ·rw[jiU] at h;exact wpAny_eqBool_int h
   ·rw[jkC] at h;exact SeqAt.EqAt.int_str i t y u _ _ _ _ h
  ·rcases jN hv with⟨j,u,rfl,rfl⟩ | ⟨y,u,rfl,rfl⟩
   ·rw[jkR] at h;exact SeqAt.EqAt.str_int x t j u _ _ _ _ h
   ·rw[jkP] at h;exact wpAny_eqBool_str h
 «strs»:=λk x t v h=>by
  rcases jN h with⟨i,u,rfl,e⟩ | ⟨y,u,rfl,e⟩
  ·exact nomatch e
  ·injection e with e1 _;subst e1;cases v<;>rfl
def uY(prog:Program)(w:World)(k:Key)(v:Value):(js prog w).is k v=xF k v:=rfl
def xM(prog:Program)(w:World)(i:Int)(t:Tok):(js prog w).is (.inl i) (.int i t)=true:=jb7 i t
def xm(prog:Program)(w:World)(x:Str)(t:Tok):(js prog w).is (.inr x) (.str x t)=true:=ja6 x t
inductive V where
 | non | bl (b:Bool) | int (i:Int) | str (x:Str) | byt (b:Array UInt8) | flt (b:UInt64) | ref (a:Addr) | ty (n:String)
 deriving DecidableEq
def RelV:V->Value->Prop
 | .non,u=>u=Value.none
 | .bl b,u=>u=Value.bool b
 | .int i,u=>∃ t,u=Value.int i t
 | .str x,u=>∃ t,u=Value.str x t
 | .byt b,u=>∃ t,u=Value.bytes b t
 | .flt b,u=>∃ t,u=Value.float b t
 | .ref a,u=>u=Value.ref a
 | .ty n,u=>u=Value.type n
abbrev Vals:List V->List Value->Prop:=Paired RelV
def Vals.length(r:Vals xs us):xs.length=us.length:=Paired.length r
theorem Vals.get:∀{xs:List V}{us:List Value}{i:Nat}{x:V},Vals xs us->xs[i]?=some x->∃ u,us[i]?=some u/\RelV x u
 | _,_,_,_,.nil,e=>by simp at e
 | _,_,0,_,.cons r _,e=>by simp at e;subst e;exact⟨_,rfl,r⟩
 | _,_,i+1,x,.cons _ t,e=>by
  obtain⟨u,a,b⟩:=Vals.get (i:=i) (x:=x) t (by simpa using e);exact⟨u,by simpa using a,b⟩
theorem Vals.set(r:RelV x u):∀{xs:List V}{us:List Value}(i:Nat),Vals xs us->Vals (xs.set i x) (us.set i u)
 | _,_,_,.nil=>.nil
 | _,_,0,.cons _ t=>.cons r t
 | _,_,i+1,.cons q t=>.cons q<|Vals.set r i t
theorem Vals.append:∀{xs ys:List V}{us ws:List Value},Vals xs us->Vals ys ws->Vals (xs++ys) (us++ws)
 | _,_,_,_,.nil,s=>s
 | _,_,_,_,.cons r t,s=>.cons r<|Vals.append t s
theorem Vals.take:∀{xs:List V}{us:List Value}(n:Nat),Vals xs us->Vals (xs.take n) (us.take n)
 | _,_,0,_=>.nil
 | _,_,_+1,.nil=>.nil
 | _,_,n+1,.cons r t=>.cons r<|Vals.take n t
theorem Vals.drop:∀{xs:List V}{us:List Value}(n:Nat),Vals xs us->Vals (xs.drop n) (us.drop n)
 | _,_,0,r=>r
 | _,_,_+1,.nil=>.nil
 | _,_,n+1,.cons _ t=>Vals.drop n t
def RelO:Option V->Option Value->Prop
 | some v,some u=>RelV v u
 | none,none=>True
 | _,_=>False
def KV{κ:Type}:List (κ×V)->List (κ×Value)->Prop:=Paired λ(p:κ×V) (q:κ×Value)=>p.1=q.1/\RelV p.2 q.2
noncomputable def kV:Key->V
 | .inl i=>.int i
 | .inr x=>.str x
inductive HO where
  | lst (xs:List V)
  | tup (xs:List V)
  | dK (kvs:List (Key×V)) | dT (kvs:List (List Key×V))
  | set (S:Int->Bool) (n:Nat)
  | ins (C dx:Addr) (fs:List (Str×V))
  | own (x:Addr)
  | xd (fs:List (Str×V))
  | met (f x:Addr)
  | rng (lo hi:Int)
  | frz (o:Obj) (u:HO)
  | tbl (ps:Array Value)
  | ext (φ:Heap->Prop)
noncomputable abbrev Hp:=Addr->Option HO
noncomputable def upd(H:Hp)(a:Addr)(o:HO):Hp:=λb=>if b=a then some o else H b
def jr:upd H a o a=some o:=by unfold upd;rw[if_pos rfl]
def jg(h:b≠a):upd H a o b=H b:=by unfold upd;rw[if_neg h]
def jmb{H:Hp}{a b:Addr}{o u:HO}(h:H a=some o)(h':H b=some u)(d:o≠u):a≠b:=by
 intro e;subst e;rw[h] at h';exact d<|E2 h'
def vZ{H:Hp}{a b:Addr}{o:HO}(h:H a=some o)(h':H b=none):a≠b:=by
 intro e;subst e;rw[h] at h';cases h'
def IsTupN(h:Heap)(a:Addr)(its:Array Value):Prop:=IsTup h a its/\∃ o,h.get? a=some o/\o.dict=none
def IsTupN.new(h:Heap)(its:Array Value):IsTupN (h.push { cls:=.type "tuple",data:=.seq its }) h.objs.size its:=⟨IsTup.new h its,_,E6 _ rfl,rfl⟩
def IsTupN.lt(x:IsTupN h a its):a < h.objs.size:=x.1.lt
section
variable (P:Program)(w:World)
def ObjOk(H:Hp)(h:Heap)(a:Addr):HO->Prop
 | .lst xs=>xs.length<=sizeLine/\∃(its:List Value) (n:Nat),Vals xs its/\h.get? a=some { cls:=.type "list",data:=.seq its.toArray n }
 | .tup xs=>xs.length<=sizeLine/\∃ its:List Value,Vals xs its/\IsTupN h a its.toArray
 | .dK kvs=>kvs.length<=sizeLine/\(a==sysModules)=false/\∃ vs,KV kvs vs/\h.DictOf (js P w) a vs
 | .dT kvs=>kvs.length<=sizeLine/\(a==sysModules)=false/\∃ xs:List (List Key×Addr×Value),
   Paired (λ(p:List Key×V) (q:List Key×Addr×Value)=>p.1=q.1/\H q.2.1=some (.tup<|p.1.map kV)/\RelV p.2 q.2.2) kvs xs /\
   ∃ o es ep,h.get? a=some o/\o.ExactDict/\o.data=.dict es ep/\es.toList=xs.map (entryOfKey<|tupleKind<|js P w)/\(xs.map (·.1)).Nodup
 | .set S n=>h.SetOf (intKind P w) a S n
 | .ins C dx fs=>H dx=some (.own a)/\fs.length<=1000/\dx≠a/\h.get? a=some (PySem.W.instObj C dx) /\
   ∃ mA,h.Ns1 dx mA/\(∀ f,RelO (fs.lookup f)<|mA f)/\PySem.Within mA (fs.map (·.1))
 | .own _=>∃ o,h.get? a=some o
 | .xd fs=>∃ mA,h.Ns1 a mA/\∀ f,RelO (fs.lookup f)<|mA f
 | .rng lo hi=>∃ t u v,h.get? a=some { cls:=.type "range",data:=.fields #[.int lo t,.int hi u,.int 1 v] }
 | .frz o u=>h.get? a=some o/\ObjOk H h a u
 | .tbl ps=>h.get? a=some { cls:=.none,data:=.fields ps }
 | .met f x=>h.get? a=some (PySem.W.methodObj (.ref f)<|.ref x)
 | .ext φ=>φ h/\(∃ o,h.get? a=some o)/\∀ h1 h2:Heap,φ h1->(∀ o,h1.get? a=some o->h2.get? a=some o)->φ h2
def HOk(H:Hp)(h:Heap):Prop:=∀ a o,H a=some o->ObjOk P w H h a o
end
section
variable {P:Program}{w:World}{H H':Hp}{h h':Heap}{a:Addr}{o:HO}
def ObjOk.lt(x:ObjOk P w H h a o):a < h.objs.size:=by
 cases o with
 | lst c=>obtain⟨_,_,_,_,e⟩:=x;exact N2 e
 | tup c=>obtain⟨_,_,_,p⟩:=x;exact p.lt
 | dK b=>obtain⟨_,_,_,_,o,_,_,e,_⟩:=x;exact N2 e
 | dT b=>obtain⟨_,_,_,_,o,_,_,e,_⟩:=x;exact N2 e
 | set S n=>obtain⟨o,_,_,_,e,_⟩:=x;exact N2 e
 | ins C d fs=>obtain⟨_,_,_,e,_⟩:=x;exact N2 e
 | own y=>obtain⟨_,e⟩:=x;exact N2 e
 | xd fs=>obtain⟨_,⟨_,_,_,e,_⟩,_⟩:=x;exact N2 e
 | rng lo hi=>obtain⟨_,_,_,e⟩:=x;exact N2 e
 | frz ob u=>obtain⟨e,_⟩:=x;exact N2 e
 | tbl g=>exact N2<|show h.get? a=some _ from x
 | met f y=>exact N2<|show h.get? a=some _ from x
 | ext φ=>obtain⟨_,⟨_,e⟩,_⟩:=x;exact N2 e
theorem Paired.mapP:∀{l₁:List α}{l₂:List β},Paired F l₁ l₂->(∀ a b,F a b->G a b)->Paired G l₁ l₂
 | _,_,.nil,_=>.nil
 | _,_,.cons r t,f=>.cons (f _ _ r)<|Paired.mapP t f
def ObjOk.stay(x:ObjOk P w H h a o)(k:∀ b u,(b=a \/ H b=some (.own a))->h.get? b=some u->h'.get? b=some u)
  (D:∀ b,H b=some (.own a)->H' b=some (.own a)) (E:∀ b xs,H b=some (.tup xs)->H' b=some (.tup xs)):ObjOk P w H' h' a o:=by
 induction o with
 | lst xs=>obtain⟨z,j,n,r,e⟩:=x;exact⟨z,j,n,r,k _ _ (.inl rfl) e⟩
 | tup xs=>obtain⟨z,j,r,⟨ob,e,c⟩,l,e2,F⟩:=x;exact⟨z,j,r,⟨ob,k _ _ (.inl rfl) e,c⟩,l,k _ _ (.inl rfl) e2,F⟩
 | dK m=>obtain⟨z,y,G,r,ob,g,i,e,c⟩:=x;exact⟨z,y,G,r,ob,g,i,k _ _ (.inl rfl) e,c⟩
 | dT m =>
  obtain⟨z,y,xs,r,ob,g,i,e,c⟩:=x;exact⟨z,y,xs,Paired.mapP r λp q z=>⟨z.1,E _ _ z.2.1,z.2.2⟩,ob,g,i,k _ _ (.inl rfl) e,c⟩
 | set S n=>obtain⟨ob,g,i,t,e,c⟩:=x;exact⟨ob,g,i,t,k _ _ (.inl rfl) e,c⟩
 | ins C J fs =>
  obtain⟨d,z,ne,e,s,⟨od,g,i,e2,c⟩,r⟩:=x;exact⟨D _ d,z,ne,k _ _ (.inl rfl) e,s,⟨od,g,i,k _ _ (.inr d) e2,c⟩,r⟩
 | own y=>obtain⟨ob,e⟩:=x;exact⟨ob,k _ _ (.inl rfl) e⟩
 | xd fs=>obtain⟨s,⟨od,g,i,e,c⟩,r⟩:=x;exact⟨s,⟨od,g,i,k _ _ (.inl rfl) e,c⟩,r⟩
 | rng lo hi=>obtain⟨t,u,v,e⟩:=x;exact⟨t,u,v,k _ _ (.inl rfl) e⟩
 | frz ob u I=>obtain⟨e,q⟩:=x;exact⟨k _ _ (.inl rfl) e,I q⟩
 | tbl A =>
  have e:h.get? a=some { cls:=.none,data:=.fields A }:=x;show h'.get? a=some { cls:=.none,data:=.fields A };exact k a _ (.inl rfl) e
 | met f y =>
  have e:h.get? a=some (PySem.W.methodObj (.ref f)<|.ref y):=x;show h'.get? a=some (PySem.W.methodObj (.ref f)<|.ref y);exact k a _ (.inl rfl) e
 | ext φ=>obtain⟨p,⟨o,e⟩,B⟩:=x;exact⟨B _ _ p λo q=>k _ _ (.inl rfl) q,⟨o,k _ _ (.inl rfl) e⟩,B⟩
def HOk.lt(x:HOk P w H h)(e:H a=some o):a < h.objs.size:=(x a o e).lt
def HOk.fresh(x:HOk P w H h)(e:h.objs.size<=a):H a=none:=by
 cases q:H a with
 | none=>rfl
 | some u=>exact absurd (U5 (x.lt q) e)<|Nat.lt_irrefl _
def HOk.kept(x:HOk P w H h)(k:∀ b u,h.get? b=some u->h'.get? b=some u):HOk P w H h':=λa o e =>
 (x a o e).stay (λb u _ q=>k b u q) (λ_ q=>q) λ_ _ q=>q
def HOk.laid(x:HOk P w H h)(k:∀ b u,h.get? b=some u->h'.get? b=some u)(g:h.objs.size<=a)(new:ObjOk P w (upd H a o) h' a o):HOk P w (upd H a o) h':=λb u e=>by
 have d:=x.fresh g;by_cases f:b=a
 ·subst f;rw[jr] at e;cases e;exact new
 ·rw[jg f] at e;exact(x b u e).stay (λc v _ q=>k c v q) (λc q=>by rw[jg<|vZ q d];exact q) λc i q=>by rw[jg<|vZ q d];exact q
end
def Rd(H:Hp)(a:Addr)(u:HO):Prop:=H a=some u \/ ∃ o,H a=some (.frz o u)
def Rd.ok(r:Rd H a u)(x:HOk P w H h):ObjOk P w H h a u:=by
 rcases r with r | ⟨o,r⟩
 ·exact x a u r
 ·obtain⟨_,q⟩:=x a _ r;exact q
def Mut:Option HO->Prop
 | some (.lst _)=>True
 | some (.dK _)=>True
 | some (.dT _)=>True
 | some (.set _ _)=>True
 | some (.ins _ _ _)=>True
 | some (.ext _)=>True
 | _=>False
section
variable {P:Program}{w:World}{H:Hp}{h h':Heap}{x e:Addr}{o':HO}
def HOk.write(ok:HOk P w H h)(g:Mut<|H x)(n:e=x \/ H e=some (.own x))(k:∀ b u,b≠e->h.get? b=some u->h'.get? b=some u)(m:∃ u,h'.get? e=some u)
  (new:ObjOk P w (upd H x o') h' x o'):HOk P w (upd H x o') h':=λb u q=>by
 have d:∀ c y,H c=some (.own y)->c≠x:=λc y r z=>by subst z;rw[r] at g;exact g
 have f:∀ c i,H c=some (.tup i)->c≠x:=λc i r z=>by subst z;rw[r] at g;exact g
 by_cases j:b=x
 ·subst j;rw[jr] at q;cases q;exact new
 ·rw[jg j] at q;by_cases a:b=e
  ·have o:H b=some (.own x):=by
    rcases n with z | z
    ·exact absurd (a.trans z) j
    ·rw[a];exact z
   rw[q] at o;cases o;obtain⟨v,p⟩:=m;exact⟨v,by rw[a];exact p⟩
  ·refine(ok b u q).stay (λc v l r=>k c v ?_ r) (λc r=>by rw[jg<|d c b r];exact r) λc i r=>by rw[jg<|f c i r];exact r
   rcases l with rfl | l
   ·exact a
   ·rintro rfl;rcases n with z | z
    ·exact d c b l z
    ·rw[l] at z;cases z;exact j rfl
end
structure Un(fs ex:W5)(H H':Hp)(h h':Heap):Prop where
 keep:∀ b o,h.get? b=some o->H b=none->b∉fs->b∉ex->h'.get? b=some o
 slot:∀ b o,h.get? b=some o->H b=none->b∈fs->b∉ex->∃ sl,h'.get? b=some { o with slots:=sl }
 free:∀ b o,h.get? b=some o->H b=none->b∉ex->H' b=none
 there:∀ b o,h.get? b=some o->b∉ex->∃ o',h'.get? b=some o'
 tups:∀ b xs,H b=some (.tup xs)->H' b=some (.tup xs)
 frzs:∀ b o u,H b=some (.frz o u)->H' b=some (.frz o u)
 tbls:∀ b ps,H b=some (.tbl ps)->∃ more,H' b=some (.tbl<|ps++more)
section
variable {fs fs' ex ex':W5}{H H1 H2:Hp}{h h1 h2 h':Heap}{a x e:Addr}{o:HO}
def Un.any(u:Un fs ex H H1 h h1)  (q:h.get? b=some ob) (n:H b=none) (a:b∉ex):∃ sl,h1.get? b=some { ob with slots:=sl }:=by
 by_cases c:b∈fs
 ·exact u.slot b ob q n c a
 ·exact⟨ob.slots,u.keep b ob q n c a⟩
def Un.kept(k:∀ b u,h.get? b=some u->h'.get? b=some u):Un fs ex H H h h' :=
 ⟨λb ob q _ _ _=>k b ob q,λb ob q _ _ _=>⟨ob.slots,k b ob q⟩,λ_ _ _ n _=>n,λb ob q _=>⟨ob,k b ob q⟩,λ_ _ q=>q,λ_ _ _ q=>q,λ_ a q=>⟨#[],by rw[q];simp⟩⟩
def Un.refl:Un fs ex H H h h:=Un.kept λ_ _ q=>q
def Un.laid(k:∀ b u,h.get? b=some u->h'.get? b=some u)(d:h.objs.size<=a)(c:H a=none):Un fs ex H (upd H a o) h h' where
 keep:=λb u q _ _ _=>k b u q
 slot:=λb u q _ _ _=>⟨u.slots,k b u q⟩
 free:=λb u q n _=>by rw[jg<|N7<|U5 (N2 q) d];exact n
 there:=λb u q _=>⟨u,k b u q⟩
 tups:=λb e q=>by rw[jg<|vZ q c];exact q
 frzs:=λb u e q=>by rw[jg<|vZ q c];exact q
 tbls:=λb f q=>⟨#[],by rw[jg<|vZ q c,q];simp⟩
def Un.write(c:Mut<|H x)(j:e=x \/ H e=some (.own x))(k:∀ b u,b≠e->h.get? b=some u->h'.get? b=some u)(d:∃ u,h'.get? e=some u):Un fs ex H (upd H x o) h h':=by
 have g:∀ b,H b=none->b≠x:=λb n z=>by subst z;rw[n] at c;exact c
 have i:∀ b,H b=none->b≠e:=λb n z=>by
  subst z;rcases j with r | r
  ·exact g b n r
  ·rw[n] at r;cases r
 have f:∀ b u,H b=some u->¬ Mut (some u)->b≠x:=λb u q nm z=>by subst z;rw[q] at c;exact nm c
 refine⟨λb u q n _ _=>k b u (i b n) q,λb u q n _ _=>⟨u.slots,k b u (i b n) q⟩,λb u q n _=>by rw[jg<|g b n];exact n,λb u q _=>?_,
  λb l q=>by rw[jg<|f b _ q λz=>z];exact q,λb u l q=>by rw[jg<|f b _ q λz=>z];exact q,λb m q=>⟨#[],by rw[jg<|f b _ q λz=>z,q];simp⟩⟩
 by_cases a:b=e
 ·subst a;exact d
 ·exact⟨u,k b u a q⟩
end
noncomputable def trk(h:Heap)(H:Hp):List Addr:=(List.range h.objs.size).filter λa=>(H a).isSome
def jeh(h:Heap)(H:Hp):Heap:=PySem.W.hideAll h<|trk h H
def jcV(h:Heap)(H:Hp):(jeh h H).objs.size=h.objs.size:=PySem.W.hideAll_size _ _
def jeq(e:h.get? b=some o)(n:H b=none):(jeh h H).get? b=some o :=
 PySem.W.hideAll_get _ e λa=>by
  have q:(H b).isSome=true:=(List.mem_filter.mp a).2;rw[n] at q;simp at q
def jgw(e:(jeh h H).get? b=some o):h.get? b=some o/\H b=none:=by
 have a:h.get? b=some o:=PySem.W.of_hideAll (trk h H) e;refine⟨a,?_⟩;cases q:H b with
 | none=>rfl
 | some x =>
  have c:b∈trk h H:=List.mem_filter.mpr ⟨List.mem_range.mpr<|N2 a,by simp[q]⟩;have z:(jeh h H).get? b=none:=PySem.W.hideAll_none (trk h H) c;rw[z] at e;cases e
noncomputable def jgU(g h:Heap)(L:Addr):List (Addr×Obj):=(List.range h.objs.size).filterMap λa=>if a=L \/ (g.get? a).isSome=true then none else(h.get? a).map λo=>(a,o)
def rest(g h:Heap)(L d:Addr):List (Addr×Obj):=(jgU g h L).filter λp=>decide<|p.1≠d
structure Mod(K:W4)(mg:W6)(base:Heap):Prop where
 kin:K.In base
 glob:base.Ns mainGlobals mg
 blt:∃ mb,base.Ns builtinsNs mb/\∀ x:Str,x≠"__name__"->mb x=bootBuiltins x
 nolimit:base.NoLimit
structure Cx where
 prog:Program
 w:World
 K:PySem.W.Frag
 mg:Str->Option Value
 base:Heap
 A:Around
 N:List Str
 s₀:Shared
 H₀:Hp
 env:Env
 outer:List Env
 stack:List Env
 ex:List Addr
 fn:Str->Bool
 calm:Bool
 pn:List (Addr×Obj)
 xe:Value->Shared->Prop
noncomputable def frs(l:List Env):List Addr:=l.filterMap (·.frame)
abbrev Cx.fs(X:Cx):List Addr:=frs X.outer
def Vis(sc:Scope)(x:Str):Prop:=sc.names.lookup x=some .local \/ sc.names.lookup x=some .cell \/ sc.names.lookup x=some .free
def Loc(sc:Scope)(x:Str):Prop:=sc.names.lookup x=some .local \/ sc.names.lookup x=some .cell
def jnG(env:Env)(h:Heap)(m:W6)(x:Str)(u:Value):Prop :=
 (env.kindOf x=some .local/\m x=some u) \/ ((env.kindOf x=some .cell \/ env.kindOf x=some .free)/\∃ c,env.cells.lookup x=some c/\h.IsCell c (some u))
structure Cx.Ok(X:Cx):Prop where
 mod:Mod X.K X.mg X.base
 kind:X.env.scope.kind=.function
 glob:X.env.globals=mainGlobals
 blt:X.env.builtins=builtinsNs
 above:X.s₀.heap.objs.size<=X.env.locals
 inj:∀ x y c,X.env.cells.lookup x=some c->X.env.cells.lookup y=some c->x=y
 has:∀ x,(X.env.kindOf x=some .cell \/ X.env.kindOf x=some .free)->∃ c,X.env.cells.lookup x=some c
 cab:∀ x c,X.fn x=true->X.env.cells.lookup x=some c->X.s₀.heap.objs.size<=c
 hd:X.calm=true->X.A.handled=none
 frames:X.A.frames=some X.stack
 stk:X.stack=X.outer \/ (X.stack=X.env::X.outer/\X.env.frame=some X.env.locals)
 exf:∀ b∈X.ex,b≠X.env.locals/\∀ x c,X.env.cells.lookup x=some c->c≠b
 bs:∀ b o,X.base.get? b=some o->X.s₀.heap.get? b=some o/\X.H₀ b=none
 bsz:X.base.objs.size<=X.s₀.heap.objs.size
 noex:∀ b o,X.base.get? b=some o->b∉X.ex
 exfs:∀ b∈X.ex,b∉X.fs
 funs:X.s₀.heap.FunFrames X.base X.outer
 frf:∀ b∈X.fs,X.H₀ b=none
structure Inv(X:Cx)(pins:W0)(σ:List<|Option V)(H:Hp)(s:Shared):Prop where
 ok:X.Ok
 os:s.os=X.s₀.os
 bare:AllBare s.gens
 base:Un X.fs X.ex X.H₀ H X.s₀.heap s.heap
 loc:∃ m,s.heap.Ns X.env.locals m/\∀(i:Nat) (x:Str) (v:V),X.N[i]?=some x->σ[i]?=some (some v)->Vis X.env.scope x->∃ u,RelV v u/\jnG X.env s.heap m x u
 cell:∀ x c,X.env.cells.lookup x=some c->∃ v,s.heap.IsCell c v
 free:H X.env.locals=none
 freeC:∀ x c,X.env.cells.lookup x=some c->H c=none
 pin:∀ p∈X.pn++pins,s.heap.get? p.1=some p.2/\H p.1=none/\p.1≠X.env.locals/\p.1∉X.fs/\∀ v,p.2.data≠.cell v
 hok:HOk X.prog X.w H s.heap
 len:σ.length=X.N.length
section
variable {X:Cx}{pins:List (Addr×Obj)}{σ:List (Option V)}{H H':Hp}{s:Shared}{h':Heap}
def Cx.Ok.nofr(ok:X.Ok)  {o:Obj}(e:X.base.get? b=some o):b∉X.fs:=λa=>by
 have:=(ok.funs.mem a).1;rw[e] at this;cases this
def Inv.bs(I:Inv X pins σ H s):∀ b o,X.base.get? b=some o->s.heap.get? b=some o/\H b=none:=λb o e =>
 ⟨I.base.keep b o (I.ok.bs b o e).1 (I.ok.bs b o e).2 (I.ok.nofr e) (I.ok.noex b o e),I.base.free b o (I.ok.bs b o e).1 (I.ok.bs b o e).2 (I.ok.noex b o e)⟩
def Inv.bk(I:Inv X pins σ H s):∀ b o,X.base.get? b=some o->s.heap.get? b=some o:=λb o e=>(I.bs b o e).1
def Inv.mod(I:Inv X pins σ H s):Mod X.K X.mg X.base:=I.ok.mod
def Inv.kIn(I:Inv X pins σ H s):X.K.In s.heap:=I.ok.mod.kin.keeps I.bk
def Inv.lt(I:Inv X pins σ H s):X.env.locals < s.heap.objs.size:=let ⟨_,hn,_⟩:=I.loc;hn.lt
def Inv.sz(I:Inv X pins σ H s):X.s₀.heap.objs.size<=s.heap.objs.size:=N8 I.ok.above<|Nat.le_of_lt I.lt
def Inv.nofs(I:Inv X pins σ H s)  (h:s.heap.objs.size<=a):a∉X.fs:=λb=>by
 obtain⟨_,o,c,_⟩:=I.ok.funs.mem b;exact absurd (U5 (N2 c)<|N8 I.sz h)<|Nat.lt_irrefl _
def Inv.cne(I:Inv X pins σ H s):∀ x c,X.env.cells.lookup x=some c->c≠X.env.locals:=λx c e z=>by
 obtain⟨v,o,d,hd⟩:=I.cell x c e;obtain⟨m,⟨f,g,h,a,b,_⟩,_⟩:=I.loc;rw[z,a] at d;cases d;rw[b] at hd;cases hd
def Inv.funs(I:Inv X pins σ H s):s.heap.FunFrames X.base X.outer:=by
 have all:∀(l:List Env),(∀ b∈frs l,b∈X.fs)->X.s₀.heap.FunFrames X.base l->s.heap.FunFrames X.base l:=by
  intro l
  induction l with
  | nil=>intro _ _;trivial
  | cons env r g =>
   intro f h;obtain⟨i,⟨L,o,a,j,k,hd⟩,m⟩:=h;have c:L∈X.fs:=f L (by unfold frs;rw[List.filterMap_cons,a];exact L8);obtain⟨n,e⟩:=I.base.slot L o k (I.ok.frf L c) c λz=>I.ok.exfs L z c;exact⟨i,⟨L,_,a,j,e,hd⟩,g (λb d=>f b<|by unfold frs;rw[List.filterMap_cons,a];exact L7 _ d) m⟩
 exact all X.outer (λ_ d=>d) I.ok.funs
def Inv.stack(I:Inv X pins σ H s):s.heap.FunFrames X.base X.stack:=by
 rcases I.ok.stk with e | ⟨e,a⟩
 ·rw[e];exact I.funs
 ·rw[e];obtain⟨m,b,_⟩:=I.loc;refine .cons (by rw[I.ok.kind];decide) a b ?_ I.funs;exact Heap.get?_none_of_le<|N8 I.ok.bsz I.ok.above
def Inv.stkSub(I:Inv X pins σ H s):∀ b∈frs X.stack,b∈X.env.locals::X.fs:=λb a=>by
 rcases I.ok.stk with e | ⟨e,c⟩
 ·rw[e] at a;exact L7 _ a
 ·rw[e] at a;unfold frs at a;rw[List.filterMap_cons,c] at a;exact a
def Inv.stkFree(I:Inv X pins σ H s):∀ b∈frs X.stack,H b=none:=λb a=>by
 rcases M6.mp (I.stkSub b a) with e | a
 ·rw[e];exact I.free
 ·obtain⟨_,o,c,_⟩:=I.ok.funs.mem a;exact I.base.free b o c (I.ok.frf b a) λz=>I.ok.exfs b z a
def Inv.step{g':Array GenState}{t':Nat}{ch:W5}(I:Inv X pins σ H s)
  (f:∀ b∈ch,(b∈X.ex \/ X.s₀.heap.objs.size<=b)/\b≠X.env.locals/\(∀ x c,X.env.cells.lookup x=some c->c≠b)/\∀ p∈X.pn++pins,p.1≠b)
  (keep:∀ b o,b≠X.env.locals->b∉X.fs->b∉ch->s.heap.get? b=some o->H b=none->h'.get? b=some o)
  (slot:∀ b o,b≠X.env.locals->b∈X.fs->b∉ch->s.heap.get? b=some o->H b=none->∃ sl,h'.get? b=some { o with slots:=sl }) (free:∀ b o,b∉ch->s.heap.get? b=some o->H b=none->H' b=none)
  (there:∀ b o,b∉ch->s.heap.get? b=some o->∃ o',h'.get? b=some o')
  (tups:∀ b xs,H b=some (.tup xs)->H' b=some (.tup xs)) (frzs:∀ b o u,H b=some (.frz o u)->H' b=some (.frz o u)) (tbls:∀ b ps,H b=some (.tbl ps)->∃ more,H' b=some (.tbl<|ps++more))
  (ns:∀ m,s.heap.Ns X.env.locals m->h'.Ns X.env.locals m) (hok:HOk X.prog X.w H' h') (G:AllBare g') :
  Inv X pins σ H' { s with heap:=h',gens:=g',drawn:=d',toks:=t' }:=by
 have B:∀ b o,X.s₀.heap.get? b=some o->b≠X.env.locals:=λb o e=>N7<|U5 (N2 e) I.ok.above;have j:∀ b o,X.s₀.heap.get? b=some o->b∉X.ex->b∉ch:=λb o e a y=>by
  rcases(f b y).1 with z | z
  ·exact a z
  ·exact absurd (U5 (N2 e) z)<|Nat.lt_irrefl _
 have g:∀ x c,X.env.cells.lookup x=some c->∀ v,s.heap.IsCell c v->h'.IsCell c v:=λx c e v ⟨o,A,hd⟩=>by
  have h:c∉ch:=λz=>(f c z).2.2.1 x c e rfl;by_cases D:c∈X.fs
  ·obtain⟨sl,q⟩:=slot c o (I.cne x c e) D h A<|I.freeC x c e;exact⟨_,q,hd⟩
  ·exact⟨o,keep c o (I.cne x c e) D h A<|I.freeC x c e,hd⟩
 refine⟨I.ok,I.os,G,⟨λb o e n y a=>?_,λb o e n y a=>?_,λb o e n a=>?_,λb o e a=>?_,λb xs e=>tups b xs<|I.base.tups b xs e,λb o xs e=>frzs b o xs<|I.base.frzs b o xs e,λb ps e=>?_⟩,?_,λx c e=>?_,?_,λx c e=>?_,λp E=>?_,hok,I.len⟩
 ·exact keep b o (B b o e) y (j b o e a) (I.base.keep b o e n y a)<|I.base.free b o e n a
 ·obtain⟨sl,t⟩:=I.base.slot b o e n y a;obtain⟨C,e2⟩:=slot b _ (B b o e) y (j b o e a) t<|I.base.free b o e n a;exact⟨C,e2⟩
 ·obtain⟨o',t⟩:=I.base.there b o e a;exact free b o' (j b o e a) t<|I.base.free b o e n a
 ·obtain⟨o',t⟩:=I.base.there b o e a;exact there b o' (j b o e a) t
 ·obtain⟨J,t⟩:=I.base.tbls b ps e;obtain⟨K,e2⟩:=tbls b _ t;exact⟨J++K,by rw[e2,Array.append_assoc]⟩
 ·obtain⟨m,L,M⟩:=I.loc;refine⟨m,ns m L,λi x v t e2 e3=>?_⟩;obtain⟨u,r,l⟩:=M i x v t e2 e3;refine⟨u,r,?_⟩;rcases l with l | ⟨k,c,e,z⟩
  ·exact .inl l
  ·exact .inr ⟨k,c,e,g x c e _ z⟩
 ·obtain⟨v,z⟩:=I.cell x c e;exact⟨v,g x c e v z⟩
 ·obtain⟨m,⟨o,_,_,A,_⟩,_⟩:=I.loc;exact free _ o (λz=>(f _ z).2.1 rfl) A I.free
 ·obtain⟨v,o,A,hd⟩:=I.cell x c e;exact free c o (λz=>(f c z).2.2.1 x c e rfl) A<|I.freeC x c e
 ·obtain⟨e,n,ne,F,d⟩:=I.pin p E;have h:p.1∉ch:=λz=>(f p.1 z).2.2.2 p E rfl;exact⟨keep p.1 p.2 ne F h e n,free p.1 p.2 h e n,ne,F,d⟩
def Inv.un{t':Nat}(I:Inv X pins σ H s)(u:Un X.fs [] H H' s.heap h')(hok:HOk X.prog X.w H' h'):Inv X pins σ H' { s with heap:=h',toks:=t' }:=by
 obtain⟨m,⟨o,k,l,g,r⟩,_⟩:=id I.loc;obtain⟨p,h⟩:=u.any g I.free (by simp);exact I.step (g':=s.gens) (d':=s.drawn) (ch:=[]) (λ_ z=>nomatch z) (λb o _ c _ e n=>u.keep b o e n c<|by simp) (λb o _ c _ e n=>u.slot b o e n c<|by simp) (λb o _ e n=>u.free b o e n<|by simp) (λb o _ e=>u.there b o e<|by simp) u.tups u.frzs u.tbls (λq i=>by
  obtain⟨t,d,f,a,j⟩:=i;rw[g] at a;cases a;exact⟨_,d,f,h,j⟩) hok I.bare
def Inv.call{g':Array GenState}{t':Nat}{ch:W5}(I:Inv X pins σ H s)(u:Un (frs X.stack) ch H H' s.heap h')(hok:HOk X.prog X.w H' h')(k:AllBare g')
  (d:∀ b∈ch,(b∈X.ex \/ X.s₀.heap.objs.size<=b)/\b≠X.env.locals/\(∀ x c,X.env.cells.lookup x=some c->c≠b)/\∀ p∈X.pn++pins,p.1≠b) :
  Inv X pins σ H' { s with heap:=h',gens:=g',drawn:=d',toks:=t' }:=by
 obtain⟨m,⟨o,v,y,j,r⟩,_⟩:=id I.loc;obtain⟨A,g⟩:=u.any j I.free λz=>(d _ z).2.1 rfl;exact I.step (ch:=ch) d (λb o g l a e n=>u.keep b o e n (λz=>(M6.mp<|I.stkSub b z).elim g l) a) (λb o _ _ a e n=>u.any e n a) (λb o a e n=>u.free b o e n a) (λb o a e=>u.there b o e a) u.tups u.frzs u.tbls (λB q=>by
  obtain⟨C,h,i,f,t⟩:=q;rw[j] at f;cases f;exact⟨_,h,i,g,t⟩) hok k
def Inv.turned{t':Nat}(I:Inv X pins σ H s)(k:∀ b o,b≠it->s.heap.get? b=some o->h'.get? b=some o)(g:H it=none)(f:it≠X.env.locals)
  (h1:it∈X.ex \/ X.s₀.heap.objs.size<=it) (h2:∀ x c,X.env.cells.lookup x=some c->c≠it) (h:∀ p∈X.pn++pins,p.1≠it):Inv X pins σ H { s with heap:=h',toks:=t' }:=by
 have d:∀ b u,H b=some u->b≠it:=λb u e z=>by rw[z,g] at e;cases e
 refine I.step (g':=s.gens) (d':=s.drawn) (ch:=[it]) (λb i=>?_) (λb o _ _ a e _=>k b o (λz=>a<|by simp[z]) e) (λb o _ _ a e _=>⟨o.slots,k b o (λz=>a<|by simp[z]) e⟩) (λ_ _ _ _ n=>n)
  (λb o a e=>⟨o,k b o (λz=>a<|by simp[z]) e⟩) (λ_ _ e=>e) (λ_ _ _ e=>e) (λb y e=>⟨#[],by rw[e];simp⟩) (λm j=>?_) (λb u e=>?_) I.bare
 ·have e:b=it:=by simpa using i
  subst e;exact⟨h1,f,h2,h⟩
 ·obtain⟨o,l,t,w,r⟩:=j;exact⟨o,l,t,k _ o (Ne.symm f) w,r⟩
 ·refine(I.hok b u e).stay (λc v a q=>k c v ?_ q) (λ_ q=>q) λ_ _ q=>q;rcases a with z | z
  ·rw[z];exact d b u e
  ·exact d c _ z
def Inv.tok(I:Inv X pins σ H s)(t:Nat):Inv X pins σ H { s with toks:=t }:=I.un (h':=s.heap) (t':=t) Un.refl I.hok
def Inv.kept(I:Inv X pins σ H s)(k:∀ b u,s.heap.get? b=some u->h'.get? b=some u):Inv X pins σ H { s with heap:=h',toks:=t' }:=I.un (Un.kept k)<|I.hok.kept k
def Inv.laid(I:Inv X pins σ H s)(k:∀ b u,s.heap.get? b=some u->h'.get? b=some u)(c:s.heap.objs.size<=a)(new:ObjOk X.prog X.w (upd H a o) h' a o) :
  Inv X pins σ (upd H a o) { s with heap:=h',toks:=t' }:=I.un (Un.laid k c<|I.hok.fresh c)<|I.hok.laid k c new
def Inv.write(I:Inv X pins σ H s)(c:Mut<|H x)(d:e=x \/ H e=some (.own x))(k:∀ b u,b≠e->s.heap.get? b=some u->h'.get? b=some u)(a:∃ u,h'.get? e=some u)
  (new:ObjOk X.prog X.w (upd H x o) h' x o):Inv X pins σ (upd H x o) { s with heap:=h',toks:=t' }:=I.un (Un.write c d k a)<|I.hok.write c d k a new
def Inv.pins_of(I:Inv X pins σ H s)(h:∀ p∈pins',s.heap.get? p.1=some p.2/\H p.1=none/\p.1≠X.env.locals/\p.1∉X.fs/\∀ v,p.2.data≠.cell v):Inv X pins' σ H s :=
 ⟨I.ok,I.os,I.bare,I.base,I.loc,I.cell,I.free,I.freeC,λp a=>(N3.mp a).elim (λz=>I.pin p<|List.mem_append_left _ z) (h p),I.hok,I.len⟩
def uq{N:List Str}(c:N.Nodup){i j:Nat}(a:N[i]?=some x)(b:N[j]?=some x):i=j:=by
 obtain⟨e,d⟩:=M0.mp a;obtain⟨f,e2⟩:=M0.mp b;exact(List.getElem_inj c).mp (d.trans e2.symm)
def jbw(I:Inv X pins σ H s)(hN:X.N.Nodup)(hi:X.N[i]?=some x)(B:Loc X.env.scope x)(r:RelV v u)
  (h:∀ s',Inv X pins (σ.set i<|some v) H s'->(∃ a,Heap.SameBut a s.heap s'.heap/\(a=X.env.locals \/ X.env.cells.lookup x=some a))->Q () s') (hf:X.fn x=true \/ X.env.scope.names.lookup x=some .local:=by first | exact .inl rfl | exact .inr rfl | assumption):wpAny M A (storeName X.env x u) Q E s:=by
 obtain⟨m,W,hl⟩:=id I.loc;have L:(X.env.scope.kind==.class||(X.env.scope.kind==.module&&X.env.locals != X.env.globals))=false:=by rw[I.ok.kind];rfl
 have O:i < σ.length:=by rw[I.len];exact(M0.mp hi).1
 have cne:=I.cne;have g:∀{a:Addr}{K:Heap},(∃ o,s.heap.get? a=some o/\H a=none)->Heap.SameBut a s.heap K->HOk X.prog X.w H K:=λ{a K} ha f b ob e=>by
  obtain⟨_,_,C⟩:=ha;refine(I.hok b ob e).stay (λc U t q=>(f.2 c ?_).trans q) (λ_ q=>q) λ_ _ q=>q;rintro rfl;rcases t with rfl | t
  ·rw[C] at e;cases e
  ·rw[C] at t;cases t
 rcases B with D | D
 ·refine wpAny_storeName_local D W (λK Y f=>?_) L;obtain⟨oL,_,_,Z,_⟩:=id W;refine h _ ⟨I.ok,I.os,I.bare,⟨λb o e n F B=>?_,λb o e n F B=>?_,I.base.free,λb o e B=>?_,I.base.tups,I.base.frzs,I.base.tbls⟩,⟨_,Y,λj y v' l e2 e3=>?_⟩,λy c e=>?_,I.free,I.freeC,λp hp=>?_,g ⟨oL,Z,I.free⟩ f,by simpa using I.len⟩ ⟨_,f,.inl rfl⟩
  ·exact(f.2 b<|N7<|U5 (N2 e) I.ok.above).trans (I.base.keep b o e n F B)
  ·obtain⟨sl,l⟩:=I.base.slot b o e n F B;exact⟨sl,(f.2 b<|N7<|U5 (N2 e) I.ok.above).trans l⟩
  ·obtain⟨o',l⟩:=I.base.there b o e B;exact⟨o',(f.2 b<|N7<|U5 (N2 e) I.ok.above).trans l⟩
  ·by_cases G:j=i
   ·subst G;rw[hi] at l;cases l;rw[List.getElem?_set_self O] at e2;cases e2;exact⟨u,r,.inl ⟨D,by simp⟩⟩
   ·rw[List.getElem?_set_ne<|Ne.symm G] at e2;obtain⟨u',r',q⟩:=hl j y v' l e2 e3;refine⟨u',r',?_⟩;rcases q with⟨k,e⟩ | ⟨k,c,e,z⟩
    ·refine .inl ⟨k,?_⟩;have:y≠x:=λe=>G<|uq hN l<|e▸hi;simp[this,e]
    ·exact .inr ⟨k,c,e,z.sameBut f<|cne y c e⟩
  ·obtain⟨U,z⟩:=I.cell y c e;exact⟨U,z.sameBut f<|cne y c e⟩
  ·obtain⟨e,n,ne,nf,d⟩:=I.pin p hp;exact⟨(f.2 p.1 ne).trans e,n,ne,nf,d⟩
 ·have J:X.fn x=true:=by
   rcases hf with z | z
   ·exact z
   ·rw[z] at D;cases D
  obtain⟨c,t⟩:=I.ok.has x<|.inl D;obtain⟨U,z⟩:=I.cell x c t;refine wpAny_storeName_cell I.ok.kind D t z<|λK P f=>?_;obtain⟨oc,R,S⟩:=id z;refine h { s with heap:=K } ⟨I.ok,I.os,I.bare,⟨λb o e n F B=>?_,λb o e n F B=>?_,I.base.free,λb o e B=>?_,I.base.tups,I.base.frzs,I.base.tbls⟩,⟨m,W.sameBut f<|Ne.symm<|cne x c t,λj y v' l e2 e3=>?_⟩,λy V e=>?_,I.free,I.freeC,λp hp=>?_,g ⟨oc,R,I.freeC x c t⟩ f,by simpa using I.len⟩ ⟨c,f,.inr t⟩
  ·exact(f.2 b<|N7<|U5 (N2 e)<|I.ok.cab x c J t).trans (I.base.keep b o e n F B)
  ·obtain⟨sl,l⟩:=I.base.slot b o e n F B;exact⟨sl,(f.2 b<|N7<|U5 (N2 e)<|I.ok.cab x c J t).trans l⟩
  ·obtain⟨o',l⟩:=I.base.there b o e B;exact⟨o',(f.2 b<|N7<|U5 (N2 e)<|I.ok.cab x c J t).trans l⟩
  ·by_cases G:j=i
   ·subst G;rw[hi] at l;cases l;rw[List.getElem?_set_self O] at e2;cases e2;exact⟨u,r,.inr ⟨.inl D,c,t,P⟩⟩
   ·rw[List.getElem?_set_ne<|Ne.symm G] at e2;obtain⟨u',r',q⟩:=hl j y v' l e2 e3;refine⟨u',r',?_⟩;rcases q with q | ⟨k,V,e,z'⟩
    ·exact .inl q
    ·refine .inr ⟨k,V,e,z'.sameBut f ?_⟩;rintro rfl;exact G<|uq hN l<|I.ok.inj _ _ _ e t▸hi
  ·by_cases T:V=c
   ·subst T;exact⟨_,P⟩
   ·obtain⟨w2,z2⟩:=I.cell y V e;exact⟨w2,z2.sameBut f T⟩
  ·obtain⟨e,n,ne,nf,d⟩:=I.pin p hp;refine⟨(f.2 p.1 ?_).trans e,n,ne,nf,d⟩;intro q;rw[q,R] at e;have q':oc=p.2:=E2 e;exact d U (by rw[<- q'];exact S)
def Yd(I:Inv X pins σ H s)(a:X.N.Nodup)(hi:X.N[i]?=some x)(b:Loc X.env.scope x)(r:RelV v u)
  (h:∀ s',Inv X pins (σ.set i<|some v) H s'->Q () s') (c:X.fn x=true \/ X.env.scope.names.lookup x=some .local:=by first | exact .inl rfl | exact .inr rfl | assumption):wpAny M A (storeName X.env x u) Q E s :=
 jbw I a hi b r (λs' d _=>h s' d) c
end
abbrev XK:=Value->Option Addr->Hp->Prop
noncomputable abbrev St:=List<|Option V
abbrev VK:=V->Hp->Prop
abbrev TE:=St->Hp->VK->Prop
abbrev TT:=St->Hp->(Bool->Hp->Prop)->Prop
abbrev TA:=St->Hp->(List V->Hp->Prop)->Prop
structure Ends where
 nx:St->Hp->Prop
 rt:VK
 bk:St->Hp->Prop:=λ_ _=>False
 ct:St->Hp->Prop:=λ_ _=>False
abbrev TS:=Ends->St->Hp->Prop
def EP(X:Cx)(pins:W0)(σ:St)(Q:VK)(u:Value)(s':Shared):Prop:=∃ v H',Inv X pins σ H' s'/\RelV v u/\Q v H'
def TP(X:Cx)(pins:W0)(σ:St)(Q:Bool->Hp->Prop)(b:Bool)(s':Shared):Prop:=∃ H',Inv X pins σ H' s'/\Q b H'
def AP(X:Cx)(pins:W0)(σ:St)(Q:List V->Hp->Prop)(us:List Value)(s':Shared):Prop:=∃ vs H',Inv X pins σ H' s'/\Vals vs us/\Q vs H'
def SP(X:Cx)(pins:W0)(D:Ends)(f:Flow)(s':Shared):Prop :=
 match f with
 | .next=>∃ σ' H',Inv X pins σ' H' s'/\D.nx σ' H'
 | .brk=>∃ σ' H',Inv X pins σ' H' s'/\D.bk σ' H'
 | .cont=>∃ σ' H',Inv X pins σ' H' s'/\D.ct σ' H'
 | .ret u=>∃ v σ' H',Inv X pins σ' H' s'/\RelV v u/\D.rt v H'
def PE(X:Cx)(e:Expr)(t:TE):Prop :=
 ∀(pins:W0) (s:Shared) (σ:St) (H:Hp) (Q:VK),Inv X pins σ H s->t σ H Q->wpAny (model X.prog X.w) X.A (eval e X.env) (EP X pins σ Q) X.xe s
def PT(X:Cx)(e:Expr)(t:TT):Prop :=
 ∀(pins:W0) (s:Shared) (σ:St) (H:Hp) (Q:Bool->Hp->Prop),Inv X pins σ H s->t σ H Q->wpAny (model X.prog X.w) X.A (isTrue e X.env<|eval e X.env) (TP X pins σ Q) X.xe s
def PW(X:Cx)(e:Expr)(t:TT):Prop :=
 ∀(whole:Sem Value) (pins:W0) (s:Shared) (σ:St) (H:Hp) (Q:Bool->Hp->Prop),Inv X pins σ H s->t σ H Q->wpAny (model X.prog X.w) X.A (isTrue e X.env whole) (TP X pins σ Q) X.xe s
def PW.pt(h:PW X e t):PT X e t:=h _
def PA(X:Cx)(es:List Expr)(t:TA):Prop :=
 ∀(pos:Pos) (pins:W0) (s:Shared) (σ:St) (H:Hp) (Q:List V->Hp->Prop),Inv X pins σ H s->t σ H Q->wpAny (model X.prog X.w) X.A (spliced<|backTo pos<|starEach es X.env) (AP X pins σ Q) X.xe s
def PS(X:Cx)(st:Stmt)(t:TS):Prop :=
 ∀(pins:W0) (s:Shared) (σ:St) (H:Hp) (D:Ends),Inv X pins σ H s->t D σ H->wpAny (model X.prog X.w) X.A (exec st X.env) (SP X pins D) X.xe s
def PSs(X:Cx)(st:List Stmt)(t:TS):Prop :=
 ∀(pins:W0) (s:Shared) (σ:St) (H:Hp) (D:Ends),Inv X pins σ H s->t D σ H->wpAny (model X.prog X.w) X.A (execs st X.env) (SP X pins D) X.xe s
def thn(h:wpAny M A t Q E s)(b:∀ a s,Q a s->Q' a s):wpAny M A t Q' E s:=wpAny_mono h b λ_ _ x=>x
section
variable {X:Cx}
noncomputable def jV(i:Nat):TE:=λσ H Q=>∃ v,σ[i]?=some (some v)/\Q v H
noncomputable def tC(v:V):TE:=λ_ H Q=>Q v H
def jfB(k:X.N[i]?=some x)(n:Vis X.env.scope x)(hd:(x==("__debug__" : Str))=false:=by decide)(g:(x==("__classdict__" : Str))=false:=by decide):PE X (.Name x pos) (jV i):=by
 intro f s σ H Q I h;obtain⟨v,e,h⟩:=h;obtain⟨m,o,p⟩:=I.loc;obtain⟨u,r,l⟩:=p i x v k e n;have b:EP X f σ Q u s:=⟨v,H,I,r,h⟩;rcases l with⟨d,q⟩ | ⟨d,c,j,a⟩
 ·exact wpAny_Name (wpAny_loadName_local I.ok.kind d o q b) hd
 ·rcases d with d | d
  ·exact wpAny_Name (wpAny_loadName_cell I.ok.kind d j a b) hd
  ·exact wpAny_Name (wpAny_loadName_free I.ok.kind d j a b g) hd
def jkQ{i j pos}:PE X (.Constant (.int i) j pos) (tC<|.int i):=λ_ _ _ H _ I h=>wpAny_Constant_int ⟨.int i,H,I.tok _,⟨_,rfl⟩,h⟩
def jl2{b j pos}:PE X (.Constant (.bool b) j pos) (tC<|.bl b):=λ_ _ _ H _ I h=>Constant_bool ⟨.bl b,H,I,rfl,h⟩
def jk5{j pos}:PE X (.Constant .none j pos) (tC .non):=λ_ _ _ H _ I h=>Constant_none ⟨.non,H,I,rfl,h⟩
def jkx{x j pos}:PE X (.Constant (.str x) j pos) (tC<|.str x):=λ_ _ _ H _ I h=>Calls.Constant_str ⟨.str x,H,I.tok _,⟨_,rfl⟩,h⟩
def Gl(X:Cx)(x:Str):Prop:=X.env.kindOf x=some .globalImplicit
def jcG(I:Inv X pins σ H s)(a:Gl X x)(b:X.mg x=some u)(h:Q u s)
  (hd:(x==("__debug__" : Str))=false:=by decide):wpAny (model X.prog X.w) X.A (eval (.Name x pos) X.env) Q E s :=
 Calls.Name_function_global I.ok.kind a (Calls.loadGlobal_global (by rw[I.ok.glob];exact I.mod.glob.keeps I.bk) b h) hd
def Je(I:Inv X pins σ H s)(a:Gl X x)(b:X.mg x=none)(c:bootBuiltins x=some u)(h:Q u s)
  (d:x≠"__name__":=by decide) (hd:(x==("__debug__" : Str))=false:=by decide):wpAny (model X.prog X.w) X.A (eval (.Name x pos) X.env) Q E s:=by
 obtain⟨g,e,f⟩:=I.mod.blt;exact Calls.Name_function_global I.ok.kind a (Calls.loadGlobal_builtin (by rw[I.ok.glob];exact I.mod.glob.keeps I.bk) b (by rw[I.ok.blt];exact e.keeps I.bk) ((f x d).trans c) h) hd
variable {a b:Expr}{ta tb:TE}{pos:Pos}
def PC(X:Cx)(op:CmpOp)(a b:Expr)(t:TE):Prop :=
 ∀(pins:W0) (s:Shared) (σ:St) (H:Hp) (Q:VK),Inv X pins σ H s->t σ H Q ->
  wpAny (model X.prog X.w) X.A (eval a X.env) (λv s₁=>wpAny (model X.prog X.w) X.A (eval b X.env) (λu s₂=>wpAny (model X.prog X.w) X.A (compareOp op v u) (EP X pins σ Q) X.xe s₂) X.xe s₁) X.xe s
def jee(b:Expr)  (h:op≠.In) (h2:op≠.NotIn):behindInMarks op b=false:=by
 have a:(op==CmpOp.In)=false:=by cases op<;>first | rfl | exact absurd rfl h
 have e2:(op==CmpOp.NotIn)=false:=by cases op<;>first | rfl | exact absurd rfl h2
 cases b<;>simp[behindInMarks,a,e2]
noncomputable def tB(t:TE):TT:=λσ H Q=>t σ H λx H1=>∃ c,x=.bl c/\Q c H1
def ji9(h:PC X op a b t)(h1:behindInMarks op b=false:=by first | exact jee _ (by decide) (by decide) | rfl):PE X (.Compare a [op] [b] pos) t:=λc s σ H Q I d=>wpAny_Compare1 (h c s σ H Q I d) h1
def jjI(h:PE X e t)(b:∀ whole,isTrue e X.env whole=(do let v <- whole;standAt e.pos;holding [v] (truthy v)):=by intro _;rfl):PT X e (tB t):=by
 intro a s σ H Q I c;refine isTrue_plain (thn (h a s σ H _ I c) λv s1 ⟨x,f,g,r1,i⟩=>?_)<|b _;obtain⟨d,rfl,q⟩:=i;cases r1;exact wpAny_truthy_bool ⟨f,g,q⟩
variable {tA tB':TT}{rest:List Expr}
noncomputable def jmy(t u:TT):TT:=λσ H Q=>t σ H λc H1=>if c=true then u σ H1 Q else Q false H1
noncomputable def tOr(t u:TT):TT:=λσ H Q=>t σ H λc H1=>if c=true then Q true H1 else u σ H1 Q
noncomputable def jl1(t:TT):TT:=λσ H Q=>t σ H λc H1=>Q (!c) H1
def jgu(d:PT X a tA):PW X (.BoolOp .And [a] pos) tA:=by
 intro f b s σ H Q I h;refine isTrue_and<|thn (d b s σ H Q I h) λc s1 e=>?_;cases c with
 | true=>exact isTrue_and_nil e
 | false=>exact e
def ji0(d:PT X a tA):PW X (.BoolOp .Or [a] pos) tA:=by
 intro f b s σ H Q I h;refine isTrue_or<|thn (d b s σ H Q I h) λc s1 e=>?_;cases c with
 | false=>exact isTrue_or_nil e
 | true=>exact e
def jjO(i:PT X a tA)(j:PW X (.BoolOp .And (b::rest) pos) tB'):PW X (.BoolOp .And (a::b::rest) pos) (jmy tA tB'):=by
 intro k d s σ H Q I h;refine isTrue_and<|thn (i d s σ H _ I h) λc s1 ⟨e,f,g⟩=>?_;cases c with
 | true=>exact j k d s1 σ e Q f g
 | false=>exact⟨e,f,g⟩
def jmm(i:PT X a tA)(j:PW X (.BoolOp .Or (b::rest) pos) tB'):PW X (.BoolOp .Or (a::b::rest) pos) (tOr tA tB'):=by
 intro k d s σ H Q I h;refine isTrue_or<|thn (i d s σ H _ I h) λc s1 ⟨e,f,g⟩=>?_;cases c with
 | true=>exact⟨e,f,g⟩
 | false=>exact j k d s1 σ e Q f g
def jjd(d:PT X a tA):PT X (.UnaryOp .Not a pos) (jl1 tA):=by
 intro b s σ H Q I h;exact isTrue_not<|d b s σ H (λc e=>Q (!c) e) I h
noncomputable def jgW(ta tb:TE):TE:=λσ H Q=>ta σ H λx H1=>∃ c,x=.bl c/\if c=true then tb σ H1 Q else Q (.bl false) H1
def jky{op}(h:PE X a t):PE X (.BoolOp op [a] pos) t:=λb s σ H Q I c=>BoolOp_one<|h b s σ H Q I c
def jji(i:PE X a ta)(j:PE X (.BoolOp .And (b::rest) pos) tb):PE X (.BoolOp .And (a::b::rest) pos) (jgW ta tb):=by
 intro d s σ H Q I h;refine BoolOp_and<|thn (i d s σ H _ I h) λv s1 k=>?_;obtain⟨x,f,g,r1,e⟩:=k;obtain⟨c,rfl,e⟩:=e;cases r1;refine wpAny_truthy_bool ?_;cases c with
 | true=>exact j d s1 σ f Q g e
 | false=>exact⟨.bl false,f,g,rfl,e⟩
noncomputable def tIf(t:TT)(ta tb:TE):TE:=λσ H Q=>t σ H λc H1=>if c=true then ta σ H1 Q else tb σ H1 Q
def jd0(j:PT X c tA)(k:PE X a ta)(l:PE X b tb):PE X (.IfExp c a b pos) (tIf tA ta tb):=by
 intro e s σ H Q I h;refine wpAny_IfExp<|thn (j e s σ H _ I h) λd s1 ⟨f,g,i⟩=>?_;cases d with
 | true=>exact k e s1 σ f Q g i
 | false=>exact l e s1 σ f Q g i
end
def SqL(K:W4)(H:Hp)(a:Addr)(xs:List V):Prop :=
 Rd H a (.lst xs) \/
  ∃(o:Obj) (its:Array Value) (n:Nat),K.lookup a=some o/\o.cls=.type "list"/\o.dict=none/\o.data=.seq its n/\its.size<=sizeLine/\Vals xs its.toList
def SqT(K:W4)(H:Hp)(a:Addr)(xs:List V):Prop :=
 Rd H a (.tup xs) \/
  ∃(o:Obj) (its:Array Value) (n:Nat),K.lookup a=some o/\o.cls=.type "tuple"/\o.data=.seq its n/\its.size<=sizeLine/\Vals xs its.toList
noncomputable def jnx:Value->Option V
 | .none=>some .non
 | .bool b=>some<|.bl b
 | .int i _=>some<|.int i
 | .str x _=>some<|.str x
 | .bytes b _=>some<|.byt b
 | .float b _=>some<|.flt b
 | .ref a=>some<|.ref a
 | .type n=>some<|.ty n
 | _=>none
def RelV.abs(r:RelV x u):jnx u=some x:=by
 cases x with
 | non=>cases r;rfl
 | bl _=>cases r;rfl
 | int _=>obtain⟨t,rfl⟩:=r;rfl
 | str _=>obtain⟨t,rfl⟩:=r;rfl
 | byt _=>obtain⟨t,rfl⟩:=r;rfl
 | flt _=>obtain⟨t,rfl⟩:=r;rfl
 | ref _=>cases r;rfl
 | ty _=>cases r;rfl
def RelV.inj(r:RelV x u)(q:RelV y u):x=y:=E2<|r.abs.symm.trans q.abs
theorem Vals.inj:∀{xs ys:List V}{us:List Value},Vals xs us->Vals ys us->xs=ys
 | _,_,_,.nil,.nil=>rfl
 | _,_,_,.cons r t,.cons a b=>by rw[r.inj a,Vals.inj t b]
section
variable {X:Cx}{pins:List (Addr×Obj)}{σ:St}{H:Hp}{s:Shared}{a:Addr}{xs ys:List V}
def SqL.of{K:W4}(h:H a=some (.lst xs)):SqL K H a xs:=.inl<|.inl h
def SqT.of{K:W4}(h:H a=some (.tup xs)):SqT K H a xs:=.inl<|.inl h
def Inv.list(I:Inv X pins σ H s)(h:SqL X.K H a xs):∃ its:List Value,Vals xs its/\PlainL s.heap a its.toArray/\xs.length<=sizeLine:=by
 rcases h with h | ⟨o,its,n,b,c,hd,d,f,r⟩
 ·obtain⟨z,its,n,r,e⟩:=h.ok I.hok;exact⟨its,r,⟨_,n,e,rfl,rfl,rfl⟩,z⟩
 ·refine⟨its.toList,r,⟨o,n,I.kIn a o b,c,hd,by simpa using d⟩,?_⟩;have e:=r.length;simp only[Array.length_toList] at e
  lia
def Inv.tuple(I:Inv X pins σ H s)(h:SqT X.K H a xs):∃ its:List Value,Vals xs its/\IsTup s.heap a its.toArray/\xs.length<=sizeLine:=by
 rcases h with h | ⟨o,its,n,b,c,d,f,r⟩
 ·obtain⟨z,its,r,p⟩:=h.ok I.hok;exact⟨its,r,p.1,z⟩
 ·refine⟨its.toList,r,⟨o,I.kIn a o b,c,n,by simpa using d⟩,?_⟩;have e:=r.length;simp only[Array.length_toList] at e
  lia
def Inv.list_inj(I:Inv X pins σ H s)(h:SqL X.K H a xs)(h':SqL X.K H a ys):xs=ys:=by
 obtain⟨c,r,⟨o,n,e,_,_,d⟩,_⟩:=I.list h;obtain⟨b,i,⟨j,k,f,_,_,g⟩,_⟩:=I.list h';rw[e] at f;cases f;rw[d] at g;injection g with d1 _;have:c=b:=by simpa using congrArg Array.toList d1
 subst this;exact r.inj i
def Inv.tuple_inj(I:Inv X pins σ H s)(h:SqT X.K H a xs)(h':SqT X.K H a ys):xs=ys:=by
 obtain⟨c,r,⟨o,e,_,n,d⟩,_⟩:=I.tuple h;obtain⟨b,i,⟨j,f,_,k,g⟩,_⟩:=I.tuple h';rw[e] at f;cases f;rw[d] at g;injection g with d1 _;have:c=b:=by simpa using congrArg Array.toList d1
 subst this;exact r.inj i
end
noncomputable abbrev Cx.wish(X:Cx)(E:J0):Cx:={ X with xe:=E }
noncomputable abbrev Cx.nox(X:Cx):Cx:=X.wish λ_ _=>False
def Cx.Ok.wish{X:Cx}(ok:X.Ok)(E:J0):(X.wish E).Ok :=
 ⟨ok.mod,ok.kind,ok.glob,ok.blt,ok.above,ok.inj,ok.has,ok.cab,ok.hd,ok.frames,ok.stk,ok.exf,ok.bs,ok.bsz,ok.noex,ok.exfs,ok.funs,ok.frf⟩
def Cx.Ok.unwish{X:Cx}{E:J0}(ok:(X.wish E).Ok):X.Ok :=
 ⟨ok.mod,ok.kind,ok.glob,ok.blt,ok.above,ok.inj,ok.has,ok.cab,ok.hd,ok.frames,ok.stk,ok.exf,ok.bs,ok.bsz,ok.noex,ok.exfs,ok.funs,ok.frf⟩
section
variable {X:Cx}{pins:List (Addr×Obj)}{σ:St}{H:Hp}{s:Shared}{E:J0}
def Inv.wish(I:Inv X pins σ H s)(E:J0):Inv (X.wish E) pins σ H s:=⟨I.ok.wish E,I.os,I.bare,I.base,I.loc,I.cell,I.free,I.freeC,I.pin,I.hok,I.len⟩
def Inv.unwish(I:Inv (X.wish E) pins σ H s):Inv X pins σ H s:=⟨I.ok.unwish,I.os,I.bare,I.base,I.loc,I.cell,I.free,I.freeC,I.pin,I.hok,I.len⟩
def SP.unwish(h:SP (X.wish E) pins D f s'):SP X pins D f s':=by
 cases f with
 | next=>obtain⟨a,b,I,q⟩:=h;exact⟨a,b,I.unwish,q⟩
 | brk=>obtain⟨a,b,I,q⟩:=h;exact⟨a,b,I.unwish,q⟩
 | cont=>obtain⟨a,b,I,q⟩:=h;exact⟨a,b,I.unwish,q⟩
 | ret u=>obtain⟨v,a,b,I,r,q⟩:=h;exact⟨v,a,b,I.unwish,r,q⟩
def PSs.nox{st:List Stmt}{t:TS}(h:PSs X.nox st t):PSs X st t:=λa s σ H D I b =>
 wpAny_mono (h a s σ H D (I.wish _) b) (λ_ _ q=>q.unwish) λ_ _ z=>False.elim z
end
section
variable {X:Cx}{st:Stmt}{rest:List Stmt}{t u:TS}{e:Expr}{te:TE}{pos:Pos}
noncomputable def jhp:TS:=λD σ H=>D.nx σ H
noncomputable def jlz(t u:TS):TS:=λD σ H=>t { D with nx:=u D } σ H
def jfY:PSs X [] jhp:=λ_ _ σ H _ I h=>wpAny_execs_nil ⟨σ,H,I,h⟩
def jeB(h1:PS X st t)(h2:PSs X rest u):PSs X (st::rest) (jlz t u):=by
 intro a s σ H D I h;refine wpAny_execs_cons<|thn (h1 a s σ H { D with nx:=u D } I h) λf s1 q=>?_;cases f with
 | next =>
  obtain⟨b,c,d,q⟩:=q;exact h2 a s1 b c D d q
 | ret v=>exact q
 | brk=>exact q
 | cont=>exact q
def jhB(h1:PS X st t):PSs X [st] t:=by
 intro a s σ H D I h;refine wpAny_execs_cons<|thn (h1 a s σ H D I h) λf s1 q=>?_;cases f with
 | next=>exact wpAny_execs_nil q
 | ret v=>exact q
 | brk=>exact q
 | cont=>exact q
def Inv.quiet(I:Inv X pins σ H s):interactive X.env=false:=by simp[interactive,I.ok.kind]
noncomputable def JK(te:TE):TS:=λD σ H=>te σ H λ_ H1=>D.nx σ H1
def YV(b:PE X e te)(c:swapsWith e none pos.line X.env=pure false:=by rfl):PS X (.Expr e pos) (JK te):=by
 intro a s σ H D I h;exact wpAny_Expr_any (thn (b a s σ H _ I h) λv s1 ⟨x,d,f,r1,g⟩=>⟨σ,d,f,g⟩) I.quiet c
noncomputable def jmj(te:TE):TS:=λD σ H=>te σ H D.rt
def jlb(b:PE X e te):PS X (.Return (some e) pos) (jmj te):=by
 intro a s σ H D I h;exact wpAny_Return_some<|thn (b a s σ H _ I h) λv s1 ⟨x,c,d,r1,f⟩=>⟨x,σ,c,d,r1,f⟩
noncomputable def jlu(c:TT)(t u:TS):TS:=λD σ H=>c σ H λb H1=>if b=true then t D σ H1 else u D σ H1
def jm2(j:PT X c tc)(k:PSs X a t)(l:PSs X b u):PS X (.If c a b pos) (jlu tc t u):=by
 intro e s σ H D I h;refine wpAny_If<|thn (j e s σ H _ I h) λd s1 ⟨f,g,i⟩=>?_;cases d with
 | true=>exact k e s1 σ f D g i
 | false=>exact l e s1 σ f D g i
end
abbrev TG:=V->St->Hp->(St->Hp->Prop)->Prop
abbrev TGs:=List V->St->Hp->(St->Hp->Prop)->Prop
def PG(X:Cx)(target:Expr)(t:TG):Prop :=
 ∀(pins:W0) (s:Shared) (σ:St) (H:Hp) (v:V) (u:Value) (Q:St->Hp->Prop),Inv X pins σ H s->RelV v u->t v σ H Q ->
  wpAny (model X.prog X.w) X.A (assign target X.env u) (λ_ s'=>∃ σ' H',Inv X pins σ' H' s'/\Q σ' H') X.xe s
def PGs(X:Cx)(ts:List Expr)(t:TGs):Prop :=
 ∀(pins:W0) (s:Shared) (σ:St) (H:Hp) (vs:List V) (us:List Value) (Q:St->Hp->Prop),Inv X pins σ H s->Vals vs us->t vs σ H Q ->
  wpAny (model X.prog X.w) X.A (assignInOrder ((assignEach ts X.env).map (·.2)) us) (λ_ s'=>∃ σ' H',Inv X pins σ' H' s'/\Q σ' H') X.xe s
abbrev jmS:=V->V->V->Hp->(Hp->Prop)->Prop
def jl8(X:Cx)(t:jmS):Prop :=
 ∀(pins:W0) (s:Shared) (σ:St) (H:Hp) (o i v:V) (ov iv u:Value) (Q:Hp->Prop),Inv X pins σ H s->RelV o ov->RelV i iv->RelV v u->t o i v H Q ->
  wpAny (model X.prog X.w) X.A (setItem ov iv u) (λ_ s'=>∃ H',Inv X pins σ H' s'/\Q H') X.xe s
abbrev TIp:=V->V->Hp->VK->Prop
def PIp(X:Cx)(op:Operator)(t:TIp):Prop :=
 ∀(pins:W0) (s:Shared) (σ:St) (H:Hp) (x y:V) (v u:Value) (Q:VK),Inv X pins σ H s->RelV x v->RelV y u->t x y H Q ->
  wpAny (model X.prog X.w) X.A (inplaceOp op v u) (EP X pins σ Q) X.xe s
section
variable {X:Cx}{pos:Pos}
noncomputable def v5(i:Nat):TG:=λv σ H Q=>Q (σ.set i<|some v) H
def jhU(b:X.N.Nodup)(hi:X.N[i]?=some x)(c:Loc X.env.scope x)(d:X.fn x=true \/ X.env.scope.names.lookup x=some .local:=by first | exact .inl rfl | exact .inr rfl | assumption):PG X (.Name x pos) (v5 i):=by
 intro a s σ H v u Q I r h;exact wpAny_assign_Name<|Yd I b hi c r (λf e=>⟨_,H,e,h⟩) d
noncomputable def jei:TGs:=λvs σ H Q=>vs=[]/\Q σ H
noncomputable def qR(t:TG)(u:TGs):TGs:=λvs σ H Q=>∃ v r,vs=v::r/\t v σ H λσ' H'=>u r σ' H' Q
def jf8:PGs X [] jei:=by
 intro a s σ H b c Q I r h;obtain⟨e,h⟩:=h;subst e;cases r;exact assignInOrder_nil ⟨σ,H,I,h⟩
def jdy(h1:PG X e t)(h2:PGs X es u)
  (b:(assignEach (e::es) X.env).map (·.2)=assign e X.env::(assignEach es X.env).map (·.2):=by rfl):PGs X (e::es) (qR t u):=by
 intro a s σ H l m Q I r h;obtain⟨v,n,c,h⟩:=h;subst c;cases r with
 | cons r d =>
  rw[b];refine assignInOrder_cons<|thn (h1 a s σ H _ _ _ I r h) λ_ s1 f=>?_;obtain⟨g,i,j,k⟩:=f;exact h2 a s1 g i _ _ Q j d k
noncomputable def jc6(K:W4)(n:Nat)(t:TGs):TG:=λv σ H Q=>∃ a xs,v=.ref a/\SqT K H a xs/\xs.length=n/\t xs σ H Q
def jj1(i:X.calm=true)(h:PGs X es t)
  (j:(assignEach es X.env).length=n:=by rfl) (d:(assignEach es X.env).findIdx? (·.1)=none:=by rfl):PG X (.Tuple es k pos) (jc6 X.K n t):=by
 intro c s σ H v u Q I r f;obtain⟨a,l,m,p,q,f⟩:=f;subst m;cases r;obtain⟨w,g,x,B⟩:=I.tuple p;refine assign_Tuple_tuple (I.ok.hd i) x (by simp[j,<- q,g.length]) d λy z=>?_;have A:Inv X c σ H { s with heap:=y }:=I.kept (t':=s.toks) λb o e=>z b o (N7<|N2 e) e;exact h c _ σ H l _ Q A (by simpa using g) f
noncomputable def jme(to ti:TE)(t:jmS):TG:=λv σ H Q=>to σ H λo H1=>ti σ H1 λi H2=>t o i v H2 λH3=>Q σ H3
def jko(c:PE X o to)(hi:PE X i ti)(d:jl8 X t)
  (e:∀ v,assign (.Subscript o i pos) X.env v=(do
   let ov <- holding [v] (eval o X.env)
   let iv <- holding [v,ov] (eval i X.env)
   standAt pos
   holding [v,ov,iv] (setItem ov iv v)
   release [v,ov,iv] []):=by intro _;rfl):PG X (.Subscript o i pos) (jme to ti t):=by
 intro a s σ H v u Q I r h;rw[e];refine L4<|wpAny_holding<|thn (c a s σ H _ I h) λov s1 b=>?_;obtain⟨x,f,g,r1,j⟩:=b;refine L4<|wpAny_holding<|thn (hi a s1 σ f _ g j) λiv s2 b=>?_;obtain⟨y,k,l,r2,m⟩:=b;refine L4<|wpAny_standAt<|L4<|wpAny_holding<|thn (d a s2 σ k x y v ov iv u _ l r1 r2 r m) λ_ w ⟨n,p,q⟩=>?_;exact wpAny_release ⟨σ,n,p,q⟩
noncomputable def jfl(te:TE)(g:TG):TS:=λD σ H=>te σ H λx H1=>g x σ H1 D.nx
def jfu(b:PE X e te)(c:PG X tg g)(d:swapsWithSole [tg] e pos.line X.env=pure false:=by rfl)(f:swappedStores [tg] e X.env=pure none:=by rfl)
  (h1:(assignEach [tg] X.env).map (·.2)=[assign tg X.env]:=by rfl):PS X (.Assign [tg] e pos) (jfl te g):=by
 intro a s σ H D I h;refine wpAny_Assign_stores (thn (b a s σ H _ I h) λv s1 i=>?_) d f;obtain⟨x,j,k,r1,l⟩:=i;rw[h1];exact thn (c a s1 σ j x v _ k r1 l) λ_ s2 q=>q
def jje(b:X.N.Nodup)(hi:X.N[i]?=some x)(c:Loc X.env.scope x)(d:PE X e te)(f:swapsWith e (some<|.Name x pos') pos.line X.env=pure false:=by rfl)(g:X.fn x=true \/ X.env.scope.names.lookup x=some .local:=by first | exact .inl rfl | exact .inr rfl | assumption) :
  PS X (.Assign [.Name x pos'] e pos) (jfl te<|v5 i):=by
 intro a s σ H D I h;refine wpAny_Assign_Name (thn (d a s σ H _ I h) λv s1 j=>?_) f;obtain⟨y,k,l,r1,m⟩:=j;exact Yd l b hi c r1 (λs2 n=>⟨_,k,n,m⟩) g
noncomputable def jlX(i:Nat)(te:TE)(ti:TIp):TS:=λD σ H=>∃ x,σ[i]?=some (some x)/\te σ H λy H1=>ti x y H1 λz H2=>D.nx (σ.set i<|some z) H2
def jkL(n:X.N.Nodup)(hi:X.N[i]?=some x)(f:Loc X.env.scope x)(o:PE X e te)(p:PIp X op ti)(q:X.fn x=true \/ X.env.scope.names.lookup x=some .local:=by first | exact .inl rfl | exact .inr rfl | assumption) :
  PS X (.AugAssign (.Name x pos') op e pos) (jlX i te ti):=by
 intro a s σ H D I h;obtain⟨v,t,h⟩:=h;obtain⟨m,B,C⟩:=I.loc;have g:Vis X.env.scope x:=by rcases f with k | k;exact .inl k;exact .inr<|.inl k
 obtain⟨u,r,l⟩:=C i x v hi t g;refine wpAny_AugAssign_Name ?_;have go:wpAny (model X.prog X.w) X.A (eval e X.env) (λw E=>wpAny (model X.prog X.w) X.A (inplaceOp op u w) (λr F=>wpAny (model X.prog X.w) X.A (storeName X.env x r) (λ_=>SP X a D .next) X.xe F) X.xe E) X.xe s:=by
  refine thn (o a s σ H _ I h) λw s1 j=>?_;obtain⟨y,G,J,r1,K⟩:=j;refine thn (p a s1 σ G v y u w _ J r r1 K) λz s2 j=>?_;obtain⟨S,L,M,r2,O⟩:=j;exact Yd M n hi f r2 (λT P=>⟨_,L,P,O⟩) q
 rcases l with⟨b,Q⟩ | ⟨b,c,R,d⟩
 ·exact wpAny_loadName_local I.ok.kind b B Q go
 ·rcases b with b | b
  ·exact wpAny_loadName_cell I.ok.kind b R d go
  ·rcases f with k | k
   ·have:X.env.scope.names.lookup x=some .free:=b;rw[k] at this;cases this
   ·have:X.env.scope.names.lookup x=some .free:=b;rw[k] at this;cases this
noncomputable def jhD(to ti te:TE)(tget:V->V->Hp->VK->Prop)(tip:TIp)(tset:jmS):TS:=λD σ H=>to σ H λo H1=>ti σ H1 λi H2=>tget o i H2 λx H3=>te σ H3 λy H4=>tip x y H4 λz H5=>tset o i z H5 λH6=>D.nx σ H6
def jnn(X:Cx)(t:V->V->Hp->VK->Prop):Prop :=
 ∀(pins:W0) (s:Shared) (σ:St) (H:Hp) (o i:V) (ov iv:Value) (Q:VK),Inv X pins σ H s->RelV o ov->RelV i iv->t o i H Q ->
  wpAny (model X.prog X.w) X.A (getItem ov iv) (EP X pins σ Q) X.xe s
def jfM(g:PE X o to)(hi:PE X i ti)(j:jnn X tget)(k:PE X e te)(l:PIp X op tip)(m:jl8 X tset)
  (n:∀ ov iv new,augStore i ov iv new=(do holding [new,ov,iv] (setItem ov iv new);release [new,ov,iv] [];pure .next):=by intros;rfl):PS X (.AugAssign (.Subscript o i tpos) op e pos) (jhD to ti te tget tip tset):=by
 intro a s σ H D I h;refine wpAny_AugAssign_SubscriptAny (thn (g a s σ H _ I h) λov s1 b=>?_) n;obtain⟨d,p,q,r1,r⟩:=b;refine thn (hi a s1 σ p _ q r) λiv s2 b=>?_;obtain⟨f,t,u,r2,w⟩:=b;refine thn (j a s2 σ t d f ov iv _ u r1 r2 w) λc x b=>?_;obtain⟨y,z,A,B,C⟩:=b;refine thn (k a x σ z _ A C) λv E b=>?_;obtain⟨F,G,J,K,L⟩:=b;refine thn (l a E σ G y F c v _ J B K L) λnew M b=>?_;obtain⟨N,O,P,Q,R⟩:=b;exact thn (m a M σ O d f N ov iv new _ P r1 r2 Q R) λ_ V ⟨S,T,U⟩=>⟨σ,S,T,U⟩
noncomputable def ipI(f:Int->Int->Int):TIp:=λx y H Q=>∃ i j,x=.int i/\y=.int j/\Q (.int<|f i j) H
def jk9:PIp X .Add (ipI λi j=>i+j):=by
 intro a s σ H x y v u Q I r1 r2 h;obtain⟨i,j,b,e2,q⟩:=h;subst b;subst e2;obtain⟨t,rfl⟩:=r1;obtain⟨c,rfl⟩:=r2;exact iadd_int ⟨.int _,H,I.tok _,⟨_,rfl⟩,q⟩
def jj8:PIp X .Sub (ipI λi j=>i - j):=by
 intro a s σ H x y v u Q I r1 r2 h;obtain⟨i,j,b,e2,q⟩:=h;subst b;subst e2;obtain⟨t,rfl⟩:=r1;obtain⟨c,rfl⟩:=r2;exact isub_int ⟨.int _,H,I.tok _,⟨_,rfl⟩,q⟩
end
structure It where
 go:Nat->Hp->Prop
 yld:Nat->Hp->V->Hp->Prop
 stop:Nat->Hp->Prop
def jat(X:Cx)(pins:W0)(H:Hp)(b:Addr):Prop :=
 H b=none/\b≠X.env.locals/\b∉X.fs/\(b∈X.ex \/ X.s₀.heap.objs.size<=b)/\(∀ x c,X.env.cells.lookup x=some c->c≠b)/\∀ p∈X.pn++pins,p.1≠b
def Inv.fpOk(I:Inv X pins σ H s)(a:s.heap.objs.size<=b)(d:H' b=none):jat X pins H' b:=by
 refine⟨d,Nat.ne_of_gt<|U5 I.lt a,I.nofs a,.inr<|N8 I.sz a,λx c e z=>?_,λp f z=>?_⟩
 ·obtain⟨v,q⟩:=I.cell x c e;exact absurd (U5 q.lt<|by rw[z];exact a)<|Nat.lt_irrefl _
 ·exact absurd (U5 (N2 (I.pin p f).1)<|by rw[z];exact a)<|Nat.lt_irrefl _
structure Turn(P:Program)(w:World)(K:W4)(tg:Expr)(J:It)(fp:W5)(it:Addr)(tn:Nat->Heap->Prop):Prop where
 mem:it∈fp
 obj:∀ i h,tn i h->∀ b∈fp,∃ o,h.get? b=some o/\∀ v,o.data≠.cell v
 keep:∀ i h h',tn i h->(∀ b∈fp,∀ o,h.get? b=some o->h'.get? b=some o)->tn i h'
 item:∀(X:Cx),X.prog=P->X.w=w->X.K=K->X.calm=true->∀(i:Nat) (pins:W0) (s:Shared) (σ:St) (H:Hp) (E:J0),Inv X pins σ H s->(∀ b∈fp,jat X pins H b)->tn i s.heap->J.go i H ->
  wpAny (model P w) X.A (pyNext<|.ref it) (λr s1=>∃ u,r=some u /\
   wpAny (model P w) X.A (letOwnedTupleGo tg (.ref it) u) (λ_ s2=>∃ x H',Inv X pins σ H' s2/\RelV x u/\J.yld i H x H'/\tn (i+1) s2.heap/\∀ b∈fp,H' b=none) E s1) E s
 done:∀(X:Cx),X.prog=P->X.w=w->X.K=K->X.calm=true->∀(i:Nat) (pins:W0) (s:Shared) (σ:St) (H:Hp) (E:J0),Inv X pins σ H s->(∀ b∈fp,jat X pins H b)->tn i s.heap->J.stop i H ->
  wpAny (model P w) X.A (pyNext<|.ref it) (λr s1=>r=none/\Inv X pins σ H s1) E s
 self:∀(A:Around) (i:Nat) (s:Shared) (Q:J0) (E:J0),tn i s.heap->Q (.ref it) s->wpAny (model P w) A (pyIter<|.ref it) Q E s
abbrev TI:=St->Hp->(It->Hp->Prop)->Prop
def PIE(X:Cx)(pins:W0)(σ:St)(tg:Expr)(R:It->Hp->Prop)(itv:Value)(s2:Shared):Prop :=
 ∃(it:Addr) (fp:W5) (tn:Nat->Heap->Prop) (J:It) (H':Hp),itv=.ref it/\Inv X pins σ H' s2/\Turn X.prog X.w X.K tg J fp it tn/\tn 0 s2.heap/\(∀ b∈fp,jat X pins H' b)/\R J H'
def PI(X:Cx)(tg iter:Expr)(wi:TI):Prop :=
 ∀(pins:W0) (s:Shared) (σ:St) (H:Hp) (R:It->Hp->Prop),Inv X pins σ H s->wi σ H R ->
  wpAny (model X.prog X.w) X.A (eval iter X.env) (λv s1=>wpAny (model X.prog X.w) X.A (pyIter v) (PIE X pins σ tg R) X.xe s1) X.xe s
def jeZ(b:s.heap.get? it=some o)(c:o.cls=.type n)(hd:o.data=.fields vs)
  (d:["enumerate","zip","dict_itemiterator","dict_reverseitemiterator","odict_iterator","itertools.zip_longest","itertools.pairwise"].contains n=false) (a:Q () s):wpAny M A (letOwnedTupleGo tg (.ref it) u) Q E s:=by
 unfold letOwnedTupleGo;cases tg<;>first
  | exact M8 a
  | (cases u<;>first
    | exact M8 a
    | (refine L4 (wpAny_load b ?_)
       rw[c,hd];show wpAny M A (if(["enumerate","zip","dict_itemiterator","dict_reverseitemiterator","odict_iterator","itertools.zip_longest","itertools.pairwise"].contains n&&vs[0]?==some (rawInt _))=true then _ else _) Q E s;rw[if_neg<|by intro h;rw[d,Bool.false_and] at h;cases h];exact M8 a))
noncomputable def Itl(K:W4)(a:Addr):It :=
 ⟨λi H=>∃ xs x,SqL K H a xs/\xs[i]?=some x,λi H x H'=>H'=H/\∀ xs,SqL K H a xs->xs[i]?=some x,λi H=>∃ xs,SqL K H a xs/\xs.length<=i⟩
noncomputable def Itt(K:W4)(a:Addr):It :=
 ⟨λi H=>∃ xs x,SqT K H a xs/\xs[i]?=some x,λi H x H'=>H'=H/\∀ xs,SqT K H a xs->xs[i]?=some x,λi H=>∃ xs,SqT K H a xs/\xs.length<=i⟩
noncomputable def Itr(lo:Int)(n:Nat):It:=⟨λi _=>i < n,λi H x H'=>H'=H/\x=.int (lo+i),λi _=>n<=i⟩
def jbl{P:Program}{w:World}{K:W4}{tg:Expr}(a j:Addr):Turn P w K tg (Itl K a) [j] j (λi h=>h.IsListIter j a i) where
 mem:=by simp
 obj:=λi h f b l=>by
  have e:b=j:=by simpa using l
  subst e;obtain⟨o,e,c,d⟩:=f;exact⟨o,e,λv z=>by rw[d] at z;cases z⟩
 keep:=λi h n f k=>f.at λo e=>k j (by simp) o e
 item:=by
  intro X t y A O i g s σ H E I q f B;subst t y A;obtain⟨Q,x,r,C⟩:=B;obtain⟨D,F,p,R⟩:=I.list r;obtain⟨u,S,T⟩:=F.get C;obtain⟨G,J,U,L,M,N⟩:=q j (by simp);refine wpAny_pyNext_list_item f p.isList (x:=u) (by simpa using S) λn m V=>?_;have Y:Inv X g σ H { s with heap:=n }:=I.turned (t':=s.toks) (λb o l e=>(V.2 b l).trans e) G J L M N;obtain⟨o,e,c,d⟩:=id m;exact⟨u,rfl,jeZ (s:={ s with heap:=n }) e c d (by decide) ⟨x,H,Y,T,⟨rfl,λys Z=>by rw[I.list_inj Z r];exact C⟩,m,λb l=>(q b l).1⟩⟩
 done:=by
  intro X t y A O i g s σ H E I q f B;subst t y A;obtain⟨Q,r,C⟩:=B;obtain⟨D,F,p,R⟩:=I.list r;obtain⟨G,J,U,L,M,N⟩:=q j (by simp);have hl:=F.length;exact wpAny_pyNext_list_end (I.ok.hd O) f p.isList (by simp;lia) λn eb=>⟨rfl,I.turned (t':=s.toks) (λb o l e=>eb b o l e) G J L M N⟩
 self:=λ_ _ _ _ _ f h=>wpAny_pyIter_listiter f h
def uM{P:Program}{w:World}{K:W4}{tg:Expr}(a j:Addr):Turn P w K tg (Itt K a) [j] j (λi h=>h.IsTupleIter j a i) where
 mem:=by simp
 obj:=λi h f b l=>by
  have e:b=j:=by simpa using l
  subst e;obtain⟨o,e,c,d⟩:=f;exact⟨o,e,λv z=>by rw[d] at z;cases z⟩
 keep:=λi h q f k=>f.at λo e=>k j (by simp) o e
 item:=by
  intro X y A B O i g s σ H E I r f C;subst y A B;obtain⟨Q,x,t,D⟩:=C;obtain⟨m,F,p,R⟩:=I.tuple t;obtain⟨u,S,T⟩:=F.get D;obtain⟨G,J,U,L,M,N⟩:=r j (by simp);refine wpAny_pyNext_tuple_item f (show s.heap.IsTuple a m.toArray from p) (x:=u) (by simpa using S) λq n V=>?_;have Y:Inv X g σ H { s with heap:=q }:=I.turned (t':=s.toks) (λb o l e=>(V.2 b l).trans e) G J L M N;obtain⟨o,e,c,d⟩:=id n;exact⟨u,rfl,jeZ (s:={ s with heap:=q }) e c d (by decide) ⟨x,H,Y,T,⟨rfl,λys Z=>by rw[I.tuple_inj Z t];exact D⟩,n,λb l=>(r b l).1⟩⟩
 done:=by
  intro X y A B O i g s σ H E I r f C;subst y A B;obtain⟨Q,t,D⟩:=C;obtain⟨m,F,p,R⟩:=I.tuple t;obtain⟨G,J,U,L,M,N⟩:=r j (by simp);have hl:=F.length;exact wpAny_pyNext_tuple_end (I.ok.hd O) f (show s.heap.IsTuple a m.toArray from p) (by simp;lia) λq eb=>⟨rfl,I.turned (t':=s.toks) (λb o l e=>eb b o l e) G J L M N⟩
 self:=λ_ _ _ _ _ f h=>wpAny_pyIter_tupleiter f h
def uG{P:Program}{w:World}{K:W4}{tg:Expr}(c:Addr)(lo:Int)(n:Nat):Turn P w K tg (Itr lo n) [c] c (λi h=>IsRangeIter h c (lo+(i:Nat)*1) ((n:Int) - (i:Nat)) 1) where
 mem:=by simp
 obj:=λi h a b f=>by
  have e:b=c:=by simpa using f
  subst e;exact⟨_,a,λv z=>by
   have F:Data.fields _=Data.cell v:=z;cases F⟩
 keep:=λi h j a k=>k c (by simp) _ a
 item:=by
  intro X m p q r i d s σ H E I l a u;subst m p q;obtain⟨x,y,G,A,B,C⟩:=l c (by simp);have W:=Walks.range (prog:=X.prog) (w:=X.w) (I.ok.hd r) c lo 1 n;refine W.item i s _ _ u a λv j D J g L=>?_;obtain⟨t,rfl⟩:=J;have M:Inv X d σ H { s with heap:=j,toks:=D }:=I.turned (λb o f e=>L b o (by simpa using f) e) x y A B C;refine⟨_,rfl,jeZ (s:={ s with heap:=j,toks:=D }) (n:="range_iterator") g rfl rfl (by decide) ⟨.int<|lo+i,H,M,⟨t,?_⟩,⟨rfl,rfl⟩,g,λb f=>(l b f).1⟩⟩;rw[Int.mul_one]
 done:=by
  intro X m p q r i d s σ H E I l a u;subst m p q;obtain⟨x,y,G,A,B,C⟩:=l c (by simp);exact wpAny_pyNext_range_end (I.ok.hd r) a (by have:n<=i:=u;lia) λj N=>⟨rfl,I.turned (t':=s.toks) (λb o f e=>N b o f e) x y A B C⟩
 self:=λ_ _ _ _ _ a h=>wpAny_pyIter_rangeiter a h
section
variable {X:Cx}{tg:Expr}
def jer{pins:List (Addr×Obj)}{s:Shared}{R:It->Hp->Prop}{E:J0}{lo hi:Int}{tk:Nat}(I:Inv X pins σ H s)(h1:-(2 ^ 62)<=lo)(h2:lo < 2 ^ 62)(c:-(2 ^ 62)<=hi)(d:hi < 2 ^ 62)
  (q:R (Itr lo (hi - lo).toNat) H):wpAny (model X.prog X.w) X.A (pyIter<|.ref s.heap.objs.size) (PIE X pins σ tg R) E { s with heap:=s.heap.push { cls:=.type "range",data:=.fields #[.int lo t,.int hi u,.int 1 v] },toks:=tk }:=by
 refine wpAny_pyIter_range (IsRange.new ..) (small_one h1 h2 c d) ?_;have a:Inv X pins σ H { s with heap:=s.heap.push { cls:=.type "range",data:=.fields #[.int lo t,.int hi u,.int 1 v] },toks:=tk }:=I.kept λb o e=>L9 _ e;refine⟨(s.heap.push { cls:=.type "range",data:=.fields #[.int lo t,.int hi u,.int 1 v] }).objs.size,[(s.heap.push { cls:=.type "range",data:=.fields #[.int lo t,.int hi u,.int 1 v] }).objs.size],_,_,H,rfl,
  a.kept (t':=tk) λb o e=>L9 _ e,uG _ lo (hi - lo).toNat,?_,λb f=>?_,q⟩
 ·have g:lo+((0:Nat):Int)*1=lo:=by simp
  have e2:(((hi - lo).toNat:Nat):Int) - ((0:Nat):Int)=Builtin.Range.rangeSize lo hi 1:=by rw[rangeSize_one];split<;>lia
  show IsRangeIter _ _ (lo+((0:Nat):Int)*1) ((((hi - lo).toNat:Nat):Int) - ((0:Nat):Int)) 1;rw[g,e2];exact E6 _ rfl
 ·have e:b=(s.heap.push { cls:=.type "range",data:=.fields #[.int lo t,.int hi u,.int 1 v] }).objs.size:=by simpa using f
  subst e;exact a.fpOk (N0 _)<|a.hok.fresh<|N0 _
def jgO(ta:TA):TI:=λσ H R=>ta σ H λvs H1=>∃ j:Int,vs=[.int j]/\-(2 ^ 62)<=j/\j < 2 ^ 62/\R (Itr 0 j.toNat) H1
def ja2(d:Gl X "range")(f:X.mg "range" = none)(g:PA X [a] ta)(i:starEach [a] X.env=[(false,eval a X.env)]:=by rfl):PI X tg (.Call (.Name "range" p) [a] [] pos) (jgO ta):=by
 intro b s σ H R I h;refine Call_<|Je I d f boot_range<|PyProof.Rows.callWith_type1 (thn (g pos b s σ H _ I h) λn s1 ⟨o,u,k,r1,c⟩=>?_) i rfl;obtain⟨j,e,c,l,q⟩:=c;subst e;cases r1 with
 | cons r m =>
  cases m;obtain⟨t,rfl⟩:=r;exact call_range_1<|jer k (by lia) (by lia) c l (by simpa using q)
def jmf(wi:TI)(g:TG)(tb:TS):TS:=λD σ H=>wi σ H λJ H1=>∃ W:Nat->Nat->St->Hp->Prop,(∃ m,W 0 m σ H1)/\∀ i m σ H,W i m σ H ->
 (J.stop i H/\D.nx σ H) \/ (J.go i H/\∃ N:St->Hp->Prop,(∀ σ' H',N σ' H'->∃ m',m' < m/\W (i+1) m' σ' H')/\∀ x H',J.yld i H x H'->g x σ H' λσ2 H2=>tb { D with nx:=N,ct:=N,bk:=D.nx } σ2 H2)
noncomputable def V0(fp:W5)(h:Heap):List (Addr×Obj):=fp.filterMap λb=>(h.get? b).map λo=>(b,o)
def qw(a:b∈fp)(e:h.get? b=some o):(b,o)∈V0 fp h:=List.mem_filterMap.mpr ⟨b,a,by rw[e];rfl⟩
def jaV(a:p∈V0 fp h):p.1∈fp/\h.get? p.1=some p.2:=by
 obtain⟨b,c,e⟩:=List.mem_filterMap.mp a;cases q:h.get? b with
 | none=>rw[q] at e;cases e
 | some o =>
  rw[q] at e;have d:(b,o)=p:=E2 e;subst d;exact⟨c,q⟩
def Inv.pinned(I:Inv X pins σ H s)(f:∀ b∈fp,jat X pins H b)(g:∀ b∈fp,∃ o,s.heap.get? b=some o/\∀ v,o.data≠.cell v):Inv X (pins++V0 fp s.heap) σ H s :=
 I.pins_of λp h=>(N3.mp h).elim (λz=>I.pin p<|U4 _ z) λz=>by
  obtain⟨a,e⟩:=jaV z;obtain⟨i,j,k,_⟩:=f p.1 a;obtain⟨o,c,d⟩:=g p.1 a;rw[e] at c;cases c;exact⟨e,i,j,k,d⟩
def Inv.unpinned(I:Inv X (pins++pl) σ H s):Inv X pins σ H s:=I.pins_of λp a=>I.pin p<|U4 _<|List.mem_append_left _ a
def jiP(B:PassesOwn (model X.prog X.w) X.A X.env X.xe)(V:X.calm=true)(hi:PI X tg iter wi)(hg:PG X tg g)(c:PSs X body tb)
  (hs:∀ x,foldedSetIterable iter X.env x=pure x:=by intro _;rfl):PS X (.For tg iter body [] pos) (jmf wi g tb):=by
 intro a s σ H D I h;refine wpAny_For (thn (hi a s σ H _ I h) λv s1 h1=>thn h1 λitv s2 h2=>?_) hs;obtain⟨it,C,Y,J,H2,e,I2,T,O,Z,W,⟨m0,w0⟩,turn⟩:=h2;subst e
 -- what stays true of the iterator's objects through the loop
 have j:∀{t:Hp},(∀ b∈C,t b=none)->∀ b∈C,jat X a t b:=λhn b c=>⟨hn b c,(Z b c).2⟩;refine codeAny_forLoop_any (λn s'=>∃ i E t,Inv X a E t s'/\Y i s'.heap/\(∀ b∈C,t b=none)/\W i n E t) ?_ m0 ⟨0,σ,H2,I2,O,λb c=>(Z b c).1,w0⟩;rintro n s3 ⟨i,F,M,I3,G,K,w3⟩;rcases turn i n F M w3 with⟨stop,qn⟩ | ⟨go,N,hN,step⟩
 ·refine wpAny_passesOwn B<|thn (T.done X rfl rfl rfl V i a s3 F M X.xe I3 (j K) G stop) λr s4 ⟨P,I4⟩=>?_;subst P;exact wpAny_execs_nil ⟨F,M,I4,qn⟩
 ·refine wpAny_passesOwn B<|thn (T.item X rfl rfl rfl V i a s3 F M X.xe I3 (j K) G go) λr s4 ⟨u,P,h4⟩=>?_;subst P;refine wpAny_passesOwn B<|thn h4 λ_ s5 Q=>?_;obtain⟨x,H5,I5,r5,y5,z,R⟩:=Q;have S:=I5.pinned (j R)<|T.obj _ _ z;refine wpAny_passesOwn B<|thn (hg _ s5 F H5 x u _ S r5<|step x H5 y5) λ_ s6 Q=>?_;obtain⟨σ6,H6,I6,q6⟩:=Q;refine wpAny_passesOwn B<|thn (c _ s6 σ6 H6 _ I6 q6) λf U y=>?_;have k:∀{l:St}{p:Hp},Inv X (a++V0 C s5.heap) l p U->N l p->∃ m,m < n/\∃ i E t,Inv X a E t U/\Y i U.heap/\(∀ b∈C,t b=none)/\W i m E t:=λ{l p} q L=>by
   obtain⟨m',hm,w7⟩:=hN l p L;refine⟨m',hm,i+1,l,p,q.unpinned,T.keep _ _ _ z λb c o e=>(q.pin (b,o)<|U4 _<|U4 _<|qw c e).1,λb c=>?_,w7⟩;obtain⟨o,e,d⟩:=T.obj _ _ z b c;exact(q.pin (b,o)<|U4 _<|U4 _<|qw c e).2.1
  cases f with
  | next=>obtain⟨l,p,q,L⟩:=y;exact k q L
  | cont=>obtain⟨l,p,q,L⟩:=y;exact k q L
  | brk=>obtain⟨l,p,q,y⟩:=y;exact⟨l,p,q.unpinned,y⟩
  | ret v=>obtain⟨x7,l,p,q,r7,y⟩:=y;exact⟨x7,l,p,q.unpinned,r7,y⟩
end
abbrev R2:=V->V->Hp->VK->Prop
def OpR(X:Cx)(f:Value->Value->Sem Value)(r:R2):Prop :=
 ∀(pins:W0) (s:Shared) (σ:St) (H:Hp) (x y:V) (v u:Value) (Q:VK),Inv X pins σ H s->RelV x v->RelV y u->r x y H Q ->
  wpAny (model X.prog X.w) X.A (f v u) (EP X pins σ Q) X.xe s
def UnR(X:Cx)(f:Value->Sem Value)(r:V->Hp->VK->Prop):Prop :=
 ∀(pins:W0) (s:Shared) (σ:St) (H:Hp) (x:V) (v:Value) (Q:VK),Inv X pins σ H s->RelV x v->r x H Q ->
  wpAny (model X.prog X.w) X.A (f v) (EP X pins σ Q) X.xe s
def qZ(X:Cx)(f:Value)(r:List V->Hp->VK->Prop):Prop :=
 ∀(pins:W0) (s:Shared) (σ:St) (H:Hp) (xs:List V) (us:List Value) (Q:VK),Inv X pins σ H s->Vals xs us->r xs H Q ->
  wpAny (model X.prog X.w) X.A (call f us) (EP X pins σ Q) X.xe s
noncomputable def tOp(r:R2)(ta tb:TE):TE:=λσ H Q=>ta σ H λx H1=>tb σ H1 λy H2=>r x y H2 Q
noncomputable def tUn(r:V->Hp->VK->Prop)(ta:TE):TE:=λσ H Q=>ta σ H λx H1=>r x H1 Q
noncomputable def rI(C:Int->Int->Prop)(g:Int->Int->V):R2:=λx y H Q=>∃ i j,x=.int i/\y=.int j/\C i j/\Q (g i j) H
noncomputable def rI0(g:Int->Int->V):R2:=λx y H Q=>∃ i j,x=.int i/\y=.int j/\Q (g i j) H
def rU(g:Int->V):V->Hp->VK->Prop:=λx H Q=>∃ i,x=.int i/\Q (g i) H
section
variable {X:Cx}{a b c:Expr}{ta tb tc:TE}{pos:Pos}
def jmv(d:PE X a ta)(e:PE X b tb){pins:List (Addr×Obj)}{s:Shared}{R:V->V->Hp->Prop}(I:Inv X pins σ H s)
  (h:ta σ H λx H1=>tb σ H1 λy H2=>R x y H2) {Q:J0}{f:Value->Value->Sem Value}
  (g:∀ v u s2 x y H2,Inv X pins σ H2 s2->RelV x v->RelV y u->R x y H2->wpAny (model X.prog X.w) X.A (f v u) Q X.xe s2) :
  wpAny (model X.prog X.w) X.A (eval a X.env) (λv s₁=>wpAny (model X.prog X.w) X.A (eval b X.env) (λu s₂=>wpAny (model X.prog X.w) X.A (f v u) Q X.xe s₂) X.xe s₁) X.xe s:=by
 refine thn (d pins s σ H _ I h) λv s1 c=>?_;obtain⟨x,H1,i,r1,j⟩:=c;refine thn (e pins s1 σ H1 _ i j) λu s2 c=>?_;obtain⟨y,H2,k,r2,l⟩:=c;exact g v u s2 x y H2 k r1 r2 l
def jac(d:OpR X (binaryOp op) r)(e:PE X a ta)(f:PE X b tb):PE X (.BinOp a op b pos) (tOp r ta tb):=by
 intro c s σ H Q I h;exact wpAny_BinOp<|jmv e f I h λv u s2 x y g i rx j q=>d c s2 σ g x y v u Q i rx j q
def jmX(c:UnR X (unaryOp op) r)(d:PE X a ta):PE X (.UnaryOp op a pos) (tUn r ta):=by
 intro b s σ H Q I h;exact UnaryOp_<|thn (d b s σ H _ I h) λv s1 ⟨x,e,f,r1,g⟩=>c b s1 σ e x v Q f r1 g
def opI{f:Value->Value->Sem Value}{C:Int->Int->Prop}{g:Int->Int->Int}
  (a:∀(i j:Int) (t u:Tok) (s:Shared) (Q:J0) (E:J0),C i j->Q (.int (g i j) s.toks) { s with toks:=s.toks+1 }->wpAny (model X.prog X.w) X.A (f (.int i t)<|.int j u) Q E s) :
  OpR X f (rI C λi j=>.int<|g i j):=by
 intro b s σ H x y v u Q I rx c h;obtain⟨i,j,rfl,rfl,d,q⟩:=h;obtain⟨t,rfl⟩:=rx;obtain⟨e,rfl⟩:=c;exact a i j t e s _ _ d ⟨.int<|g i j,H,I.tok _,⟨_,rfl⟩,q⟩
def jnd{f:Value->Value->Sem Value}{g:Int->Int->Int}
  (a:∀(i j:Int) (t u:Tok) (s:Shared) (Q:J0) (E:J0),Q (.int (g i j) s.toks) { s with toks:=s.toks+1 }->wpAny (model X.prog X.w) X.A (f (.int i t)<|.int j u) Q E s) :
  OpR X f (rI0 λi j=>.int<|g i j):=by
 intro b s σ H x y v u Q I rx c h;obtain⟨i,j,rfl,rfl,q⟩:=h;obtain⟨t,rfl⟩:=rx;obtain⟨d,rfl⟩:=c;exact a i j t d s _ _ ⟨.int<|g i j,H,I.tok _,⟨_,rfl⟩,q⟩
def jlh{f:Value->Value->Sem Value}{g:Int->Int->Bool}
  (a:∀(i j:Int) (t u:Tok) (s:Shared) (Q:J0) (E:J0),Q (.bool<|g i j) s->wpAny (model X.prog X.w) X.A (f (.int i t)<|.int j u) Q E s) :
  OpR X f (rI0 λi j=>.bl<|g i j):=by
 intro b s σ H x y v u Q I rx c h;obtain⟨i,j,rfl,rfl,q⟩:=h;obtain⟨t,rfl⟩:=rx;obtain⟨d,rfl⟩:=c;exact a i j t d s _ _ ⟨.bl<|g i j,H,I,rfl,q⟩
def jma(i j:Int):Prop:=0<=j/\j<=1000000/\i.natAbs < 2 ^ 64
def jjE:OpR X (binaryOp .Add) (rI0 λi j=>.int<|i+j):=jnd λ_ _ _ _ _ _ _ q=>add_int q
def jiM:OpR X (binaryOp .Sub) (rI0 λi j=>.int<|i - j):=jnd λ_ _ _ _ _ _ _ q=>sub_int q
def jiz:OpR X (binaryOp .Mod) (rI (λ_ j=>0 < j) λi j=>.int<|i % j):=opI λi j _ _ _ _ _ a q=>by
 have b:(0:Int) < j:=a;exact mod_int' (by lia) (by rw[Int.fmod_eq_emod_of_nonneg i<|by lia];exact q)
def jjH:OpR X (binaryOp .Pow) (rI jma λi j=>.int<|i ^ j.toNat):=opI λ_ _ _ _ _ _ _ a q=>pow_int_small a.1 a.2.1 a.2.2 q
def unI{f:Value->Sem Value}{g:Int->Int}
  (a:∀(i:Int) (t:Tok) (s:Shared) (Q:J0) (E:J0),Q (.int (g i) s.toks) { s with toks:=s.toks+1 }->wpAny (model X.prog X.w) X.A (f<|.int i t) Q E s) :
  UnR X f (rU λi=>.int<|g i):=by
 intro b s σ H x v Q I rx h;obtain⟨i,rfl,q⟩:=h;obtain⟨t,rfl⟩:=rx;exact a i t s _ _ ⟨.int<|g i,H,I.tok _,⟨_,rfl⟩,q⟩
def jkX:UnR X (unaryOp .USub) (rU λi=>.int<|-i):=unI λ_ _ _ _ _ q=>neg_int q
end
noncomputable def jmg:V->V->Bool
 | .non,.non=>true | .non,.int _=>true | .int _,.non=>true | .non,.bl _=>true | .bl _,.non=>true | .non,.str _=>true | .str _,.non=>true
 | .int _,.int _=>true | .bl _,.bl _=>true | .str _,.str _=>true | .byt _,.byt _=>true
 | .int _,.str _=>true | .str _,.int _=>true | .bl _,.str _=>true | .str _,.bl _=>true
 | _,_=>false
def rEq:R2:=λx y H Q=>jmg x y=true/\Q (.bl<|decide<|x=y) H
def rNe:R2:=λx y H Q=>jmg x y=true/\Q (.bl<|!decide (x=y)) H
def zY:decide (V.int i=V.int j)=(i==j):=by
 rw[Bool.eq_iff_iff];simp
def jcr:decide (V.bl i=V.bl j)=(i==j):=by
 rw[Bool.eq_iff_iff];simp
def jch:decide (V.str i=V.str j)=(i==j):=by
 rw[Bool.eq_iff_iff];simp
def jbV:decide (V.byt i=V.byt j)=(i.toList==j.toList):=by
 rw[Bool.eq_iff_iff];cases i;cases j;simp
section
variable {X:Cx}{a b c:Expr}{ta tb tc:TE}{pos:Pos}
def jE(I:Inv X pins σ H s)(q:Q (.bl k) H)(e:k=k'):EP X pins σ Q (.bool k') s:=by
 subst e;exact⟨.bl k,H,I,rfl,q⟩
def jmL:OpR X (compareOp .Eq) rEq:=by
 intro d s σ H x y v u Q I rx a h;obtain⟨c,q⟩:=h;cases x with
 | non =>
  cases rx;cases y with
  | non=>cases a;exact PySem.EqNone.eq_none_none<|jE I q (by simp)
  | bl j=>cases a;exact PySem.EqNone.eq_none_bool<|jE I q (by simp)
  | int j=>obtain⟨b,rfl⟩:=a;exact PySem.EqNone.eq_none_int<|jE I q (by simp)
  | str j=>obtain⟨b,rfl⟩:=a;exact PySem.EqNone.eq_none_str<|jE I q (by simp)
  | _=>exact absurd (show false=true from c) M5
 | bl i =>
  cases rx;cases y with
  | non=>cases a;exact PySem.EqNone.eq_bool_none<|jE I q (by simp)
  | bl j=>cases a;exact eq_bool<|jE I q jcr
  | str j=>obtain⟨b,rfl⟩:=a;exact PySem.EqMixed.eq_bool_str<|jE I q (by simp)
  | _=>exact absurd (show false=true from c) M5
 | int i =>
  obtain⟨t,rfl⟩:=rx;cases y with
  | non=>cases a;exact PySem.EqNone.eq_int_none<|jE I q (by simp)
  | int j=>obtain⟨b,rfl⟩:=a;exact eq_int<|jE I q zY
  | str j=>obtain⟨b,rfl⟩:=a;exact PySem.EqMixed.eq_int_str<|jE I q (by simp)
  | _=>exact absurd (show false=true from c) M5
 | str i =>
  obtain⟨t,rfl⟩:=rx;cases y with
  | non=>cases a;exact PySem.EqNone.eq_str_none<|jE I q (by simp)
  | bl j=>cases a;exact PySem.EqMixed.eq_str_bool<|jE I q (by simp)
  | int j=>obtain⟨b,rfl⟩:=a;exact PySem.EqMixed.eq_str_int<|jE I q (by simp)
  | str j=>obtain⟨b,rfl⟩:=a;exact eq_str<|jE I q jch
  | _=>exact absurd (show false=true from c) M5
 | byt i =>
  obtain⟨t,rfl⟩:=rx;cases y with
  | byt j=>obtain⟨b,rfl⟩:=a;exact PySem.W.eq_bytes<|jE I q jbV
  | _=>exact absurd (show false=true from c) M5
 | _=>cases y<;>exact absurd (show false=true from c) M5
def jl0:OpR X (compareOp .NotEq) rNe:=by
 intro d s σ H x y v u Q I rx a h;obtain⟨c,q⟩:=h;cases x with
 | non =>
  cases rx;cases y with
  | non=>cases a;exact PySem.EqNone.ne_none_none<|jE I q (by simp)
  | bl j=>cases a;exact PySem.EqNone.ne_none_bool<|jE I q (by simp)
  | int j=>obtain⟨b,rfl⟩:=a;exact PySem.EqNone.ne_none_int<|jE I q (by simp)
  | str j=>obtain⟨b,rfl⟩:=a;exact PySem.EqNone.ne_none_str<|jE I q (by simp)
  | _=>exact absurd (show false=true from c) M5
 | bl i =>
  cases rx;cases y with
  | non=>cases a;exact PySem.EqNone.ne_bool_none<|jE I q (by simp)
  | bl j=>cases a;exact ne_bool<|jE I q<|congrArg not jcr
  | str j=>obtain⟨b,rfl⟩:=a;exact PySem.EqMixed.ne_bool_str<|jE I q (by simp)
  | _=>exact absurd (show false=true from c) M5
 | int i =>
  obtain⟨t,rfl⟩:=rx;cases y with
  | non=>cases a;exact PySem.EqNone.ne_int_none<|jE I q (by simp)
  | int j=>obtain⟨b,rfl⟩:=a;exact ne_int<|jE I q<|congrArg not zY
  | str j=>obtain⟨b,rfl⟩:=a;exact PySem.EqMixed.ne_int_str<|jE I q (by simp)
  | _=>exact absurd (show false=true from c) M5
 | str i =>
  obtain⟨t,rfl⟩:=rx;cases y with
  | non=>cases a;exact PySem.EqNone.ne_str_none<|jE I q (by simp)
  | bl j=>cases a;exact PySem.EqMixed.ne_str_bool<|jE I q (by simp)
  | int j=>obtain⟨b,rfl⟩:=a;exact PySem.EqMixed.ne_str_int<|jE I q (by simp)
  | str j=>obtain⟨b,rfl⟩:=a;exact ne_str<|jE I q<|congrArg not jch
  | _=>exact absurd (show false=true from c) M5
 | byt i =>
  obtain⟨t,rfl⟩:=rx;cases y with
  | byt j=>obtain⟨b,rfl⟩:=a;exact PySem.W.ne_bytes<|jE I q<|congrArg not jbV
  | _=>exact absurd (show false=true from c) M5
 | _=>cases y<;>exact absurd (show false=true from c) M5
def jmr:OpR X (compareOp .Lt) (rI0 λi j=>.bl<|decide<|i < j):=jlh λ_ _ _ _ _ _ _ q=>lt_int q
def jmJ:OpR X (compareOp .LtE) (rI0 λi j=>.bl<|decide<|i<=j):=jlh λ_ _ _ _ _ _ _ q=>le_int q
def jlx:OpR X (compareOp .Gt) (rI0 λi j=>.bl<|decide<|j < i):=jlh λ_ _ _ _ _ _ _ q=>gt_int q
def jl9:OpR X (compareOp .GtE) (rI0 λi j=>.bl<|decide<|j<=i):=jlh λ_ _ _ _ _ _ _ q=>ge_int q
def jbQ:OpR X (compareOp .In) (λx y H Q=>∃ i j,x=.str i/\y=.str j/\Q (.bl<|!(Builtin.Str.occurrences j i 0 j.length 1).isEmpty) H):=by
 intro a s σ H x y v u Q I rx b h;obtain⟨i,j,rfl,rfl,q⟩:=h;obtain⟨t,rfl⟩:=rx;obtain⟨c,rfl⟩:=b;exact in_str<|jE I q rfl
def Q9:OpR X (compareOp .NotIn) (λx y H Q=>∃ i j,x=.str i/\y=.str j/\Q (.bl<|!(!(Builtin.Str.occurrences j i 0 j.length 1).isEmpty)) H):=by
 intro a s σ H x y v u Q I rx b h;obtain⟨i,j,rfl,rfl,q⟩:=h;obtain⟨t,rfl⟩:=rx;obtain⟨c,rfl⟩:=b;exact notIn_str<|jE I q rfl
def VL(b:Expr)  (h:op≠.In:=by decide) (h2:op≠.NotIn:=by decide):behindInMarks op b=false:=by
 have a:(op==CmpOp.In)=false:=by cases op<;>first | rfl | exact absurd rfl h
 have e2:(op==CmpOp.NotIn)=false:=by cases op<;>first | rfl | exact absurd rfl h2
 cases b<;>simp[behindInMarks,a,e2]
def jfW(d:OpR X (compareOp op) r)(e:PE X a ta)(f:PE X b tb)(g:behindInMarks op b=false):PE X (.Compare a [op] [b] pos) (tOp r ta tb):=by
 intro c s σ H Q I h;exact wpAny_Compare1 (jmv e f I h λv u s2 x y i j rx k q=>d c s2 σ i x y v u Q j rx k q) g
noncomputable def YK(t:TE):TT:=λσ H Q=>t σ H λx H'=>∃ k,x=.bl k/\Q k H'
def jil(f:OpR X (compareOp op) r)(g:PE X a ta)(i:PE X b tb)(j:behindInMarks op b=false):PT X (.Compare a [op] [b] pos) (YK<|tOp r ta tb):=by
 intro d s σ H Q I h;refine wpAny_isTrue_Compare1 (thn (g d s σ H _ I h) λv s1 ⟨x,l,m,r1,n⟩=>thn (i d s1 σ l _ m n) λu s2 ⟨y,o,p,r2,q⟩ =>
  thn (f d s2 σ o x y v u _ p r1 r2 q) λc C ⟨z,t,w,A,k,e,B⟩=>?_) j
 subst e;cases A;exact wpAny_truthy_bool ⟨t,w,B⟩
noncomputable def jbZ(r r':R2)(ta tb tc:TE):TE:=λσ H Q=>ta σ H λx H1=>tb σ H1 λy H2=>r x y H2 λz H3=>∃ k,z=.bl k /\
 (if k=true then tc σ H3 λw' H4=>r' y w' H4 Q else Q (.bl false) H3)
def jdT(m:OpR X (compareOp op) r)(g:OpR X (compareOp op') r')(n:PE X a ta)(o:PE X b tb)(p:PE X c tc)
  (q:lastMarks [op,op'] [b,c]=false:=by with_unfolding_all rfl):PT X (.Compare a [op,op'] [b,c] pos) (YK<|jbZ r r' ta tb tc):=by
 intro f s σ H Q I h;refine isTrue_chain (thn (n f s σ H _ I h) λv s1 ⟨x,t,w,r1,A⟩=>test_link<|thn (o f s1 σ t _ w A) λu s2 ⟨y,B,C,r2,D⟩ =>
  thn (m f s2 σ B x y v u _ C r1 r2 D) λd E ⟨z,i,j,F,k,e,l⟩=>?_) q
 subst e;cases F;refine wpAny_truthy_bool ?_;cases k with
 | false =>
  obtain⟨Y,G,J⟩:=l;cases G;exact ite_ff ⟨i,j,J⟩
 | true =>
  refine ite_tt<|test_last<|thn (p f E σ i _ j l) λK L ⟨M,N,O,P,R⟩=>thn (g f L σ N y M u K _ O r2 P R) λZ s5 S=>?_;obtain⟨z2,T,U,V,k2,e2,W⟩:=S;subst e2;cases V;exact wpAny_truthy_bool ⟨T,U,W⟩
def VV:(sizeLine:Nat) < 2 ^ 63:=by rw[sizeLine_eq];decide
def jaD:OpR X (binaryOp .Add) (λx y H Q=>∃ i j,x=.str i/\y=.str j/\i.length+j.length<=sizeLine/\Q (.str<|i++j) H):=by
 intro a s σ H x y v u Q I rx b h;obtain⟨i,j,rfl,rfl,c,q⟩:=h;obtain⟨t,rfl⟩:=rx;obtain⟨d,rfl⟩:=b;exact add_str (λd e=>⟨.str<|i++j,H,I.tok _,⟨_,rfl⟩,q⟩) c
def jg9(r:Vals [x] us):∃ u,us=[u]/\RelV x u:=by
 cases r with
 | cons r1 r2=>cases r2;exact⟨_,rfl,r1⟩
def jle(r:Vals [x,y] us):∃ u w',us=[u,w']/\RelV x u/\RelV y w':=by
 cases r with
 | cons r1 r2 =>
  cases r2 with
  | cons a b=>cases b;exact⟨_,_,rfl,r1,a⟩
def jcp(c:X.calm=true):qZ X (.builtin "max") (λxs H Q=>∃ i j,xs=[.int i,.int j]/\Q (.int<|if j > i then j else i) H):=by
 intro b s σ H xs d Q I r h;obtain⟨i,j,rfl,q⟩:=h;obtain⟨u,e,rfl,⟨t,rfl⟩,⟨f,rfl⟩⟩:=jle r;refine max_two_ints (I.ok.hd c) λg l k=>⟨_,H,I.kept k,?_,q⟩;by_cases a:j > i
 ·rw[if_pos a,if_pos a];exact⟨_,rfl⟩
 ·rw[if_neg a,if_neg a];exact⟨_,rfl⟩
def jbs(c:X.calm=true):qZ X (.builtin "min") (λxs H Q=>∃ i j,xs=[.int i,.int j]/\Q (.int<|if j < i then j else i) H):=by
 intro b s σ H xs d Q I r h;obtain⟨i,j,rfl,q⟩:=h;obtain⟨u,e,rfl,⟨t,rfl⟩,⟨f,rfl⟩⟩:=jle r;refine min_two_ints (I.ok.hd c) λg l k=>⟨_,H,I.kept k,?_,q⟩;by_cases a:j < i
 ·rw[if_pos a,if_pos a];exact⟨_,rfl⟩
 ·rw[if_neg a,if_neg a];exact⟨_,rfl⟩
def jm6(K:W4)(x:V)(H:Hp)(n:Nat):Prop :=
 match x with
 | .str y=>y.length<=sizeLine/\n=y.length
 | .byt y=>y.size<=sizeLine/\n=y.size
 | .ref p=>(∃ xs,SqL K H p xs/\n=xs.length) \/ ∃ xs,SqT K H p xs/\n=xs.length
 | _=>False
def jeI:qZ X (.builtin "len") (λxs H Q=>∃ x n,xs=[x]/\jm6 X.K x H n/\Q (.int n) H):=by
 intro g s σ H xs k Q I r h;obtain⟨x,n,rfl,e,q⟩:=h;obtain⟨u,rfl,rx⟩:=jg9 r;have l:=VV;have m:sizeLine=16777216:=sizeLine_eq;cases x with
 | str y =>
  obtain⟨t,rfl⟩:=rx;obtain⟨i,b⟩:y.length<=sizeLine/\n=y.length:=e;subst b;exact len_str (by lia) ⟨.int _,H,I.tok _,⟨_,rfl⟩,q⟩
 | byt y =>
  obtain⟨t,rfl⟩:=rx;obtain⟨i,b⟩:y.size<=sizeLine/\n=y.size:=e;subst b;exact PySem.W.len_bytes (by lia) ⟨.int _,H,I.tok _,⟨_,rfl⟩,q⟩
 | ref p =>
  cases rx;have b:(∃ xs,SqL X.K H p xs/\n=xs.length) \/ ∃ xs,SqT X.K H p xs/\n=xs.length:=e;rcases b with⟨xs,c,b⟩ | ⟨xs,c,b⟩
  ·subst b;obtain⟨d,f,pl,j⟩:=I.list c;have a:=f.length;exact Calls.call_len_list pl.isList (by simp only[N4];lia) ⟨.int xs.length,H,I.tok _,⟨_,by simp only[N4];rw[a]⟩,q⟩
  ·subst b;obtain⟨d,f,pl,j⟩:=I.tuple c;have a:=f.length;exact len_tuple pl (by simp only[N4];lia) ⟨.int xs.length,H,I.tok _,⟨_,by simp only[N4];rw[a]⟩,q⟩
 | _=>exact(show False from e).elim
end
structure ObjM(h:Heap)(x dx C:Addr)(mA:W6):Prop where
 obj:h.get? x=some (PySem.W.instObj C dx)
 ns:h.Ns1 dx mA
 ne:dx≠x
def jcA{h:Heap}{mA:W6}(n:h.Ns1 dx mA):∃ od,h.get? dx=some od/\∀ name,PySem.W.lookIn name od=some (mA name):=by
 obtain⟨o,c,k,d,hd,f,_,g⟩:=n;refine⟨o,d,λname=>?_⟩;have e:=g name;unfold nsFind findBy at e;rw[<- Array.find?_toList] at e;unfold PySem.W.lookIn;rw[hd];dsimp only;split
 ·rename_i y q;rw[q] at e;exact congrArg some e
 ·rename_i q;rw[q] at e;have a:c.toList.any (·.refKey)=false:=by
   rw[List.any_eq_false];intro y i;obtain⟨z,t,b⟩:=f y<|Array.mem_toList_iff.mp i;simp[DictEntry.refKey,b]
  have j:¬ c.toList.any (·.refKey)=true:=by rw[a];exact M5
  rw[if_neg j];exact congrArg some e
def ObjM.look(I:ObjM h x dx C mA):∃ od,PySem.W.InstAt h x (PySem.W.instObj C dx) C (some od)/\∀ name,PySem.W.lookIn name od=some (mA name) :=
 let ⟨od,ho,hl⟩:=jcA I.ns
 ⟨od,⟨I.obj,rfl,rfl,ho⟩,hl⟩
section
variable {prog:Program}{w:World}{A:Around}{E:J0}{s:Shared}{K:W4}{x dx C f:Addr}{mA:W6}{name:Str}{v:Value}
def jgd{a:Bool}{Q:J0}(X:K.In s.heap)(I:ObjM s.heap x dx C mA)(c:PySem.W.plainGet K C name=true)(d:PySem.W.hasDictIn K C=true)
  (e:PySem.W.findIn K (.ref C) name=some none) (f:mA name=some v) (b:PySem.W.handedIn v=true) (h:Q v { s with toks:=s.toks+1 }) :
  wpAny (model prog w) A (getAttr (.ref x) name a) Q E s:=by
 obtain⟨od,J,g⟩:=I.look;exact PySem.W.get_value X J (PySem.W.plainGet_of c).1 (PySem.W.findObj_own d e rfl<|by rw[g,f]) b h
def jdB{pl:Sem Bool}{Q:Value×List Value->Shared->Prop}(X:K.In s.heap)(I:ObjM s.heap x dx C mA)(a:PySem.W.plainGet K C name=true)
  (b:PySem.W.findIn K (.ref C) name=some (some<|.ref f)) (c:PySem.W.isFn K (.ref f)=true) (d:mA name=none) (h:Q (.ref f,[.ref x]) s) :
  wpAny (model prog w) A (getMethod (.ref x) name pl) Q E s:=by
 obtain⟨od,J,e⟩:=I.look;exact PySem.W.method_fn X J (PySem.W.plainGet_of a).1 (PySem.W.plainGet_of a).2 b (beq_iff_eq.mp c) (by show(PySem.W.lookIn name od).map (·.isSome)=some false;rw[e,d];rfl) h
def jh0{ns:List Str}{Q:Unit->Shared->Prop}(X:K.In s.heap)(I:ObjM s.heap x dx C mA)
  (j:PySem.W.findIn K (.ref C) "__setattr__" = some (some<|.builtin "object.__setattr__")) (k:PySem.W.plainOver K C=true) (l:PySem.W.takerIn K C name=some none) (m:PySem.W.hasDictIn K C=true)
  (n:PySem.Within mA ns) (hsz:ns.length<=sizeLine)
  (h:∀ h',ObjM h' x dx C (λy=>if y=name then some v else mA y)->Heap.SameBut dx s.heap h'->Q () { s with heap:=h',toks:=s.toks+2 }) :
  wpAny (model prog w) A (setAttr (.ref x) name v) Q E s:=by
 obtain⟨od,J,u⟩:=I.look;refine PySem.W.set_plain X J j<|PySem.W.osa_open (s:={ s with toks:=s.toks+1 }) (r:=none) X J k l λb=>?_;obtain⟨z,o,e⟩:=PySem.W.any_some m;have p:s.heap.get? x=some ⟨.ref C,some dx,.plain,#[]⟩:=I.obj;refine L4<|M8<|L4<|L4<|wpAny_loadPart p<|L4<|PySem.W.Looks.here (s:={ s with toks:=s.toks+1 }) (PySem.W.looks_clsIn X o) ?_;rw[e];refine M8 (a:=some dx)<|L4<|M8<|L4 ?_;refine wpAny_nsSet1 (s:={ s with toks:=s.toks+1 }) I.ns λh' c d=>?_;obtain⟨B,q,t,f,g,i⟩:=c.count<|PySem.Within.cons name v n;refine L4<|wpAny_lookBehind f (by rw[g];exact pastItsLine_dict<|N8 i<|by rw[M4];lia) ?_;exact M8<|h _ ⟨(d.2 _<|Ne.symm I.ne).trans I.obj,c,I.ne⟩ d
def jeF{R:Result->Shared->Prop}{vs:List Value}{kw:List (Str×Value)}(X:K.In s.heap)(a:PySem.W.makesIn K C=true)
  (hi:PySem.W.findIn K (.ref C) "__init__" = some (some<|.ref f)) (b:PySem.W.typeIn K (.ref f)=some (.type "function"))
  (h:codeAny (model prog w) (A.under<|.builtin "type.__call__" ⟨.ref C::vs,kw⟩) (.call (.ref f) ⟨.ref (s.heap.objs.size+1)::vs,kw⟩) (PySem.W.InitBack (s.heap.objs.size+1) R)
   { s with heap:=(s.heap.push PySem.W.emptyDict).push (PySem.W.instObj C s.heap.objs.size) }) :
  codeAny (model prog w) A (.call (.ref C) ⟨vs,kw⟩) R s:=by
 obtain⟨c,g,d,t,os⟩:=s;exact PySem.W.make_core (PySem.W.makes_of X a) (PySem.W.looks_findIn X hi) (λself=>PySem.W.bind_fn X self b) (.inl rfl) h
end
noncomputable def VT(f:Str)(v:V):List (Str×V)->List (Str×V)
 | []=>[(f,v)]
 | (g,x)::r=>if g=f then(g,v)::r else(g,x)::VT f v r
theorem Y9(f g:Str)(v:V):∀ fs:List (Str×V),(VT f v fs).lookup g=if g=f then some v else fs.lookup g
 | []=>by
  show List.lookup g [(f,v)]=_;by_cases h:g=f
  ·have a:(g==f)=true:=beq_iff_eq.mpr h;simp only[List.lookup,a,if_pos h]
  ·have a:(g==f)=false:=U3.mpr h;simp only[List.lookup,a,if_neg h]
 | (k,x)::r=>by
  have c:=Y9 f g v r;rw[show VT f v ((k,x)::r)=(if k=f then(k,v)::r else(k,x)::VT f v r) from rfl];by_cases b:k=f
  ·rw[if_pos b];by_cases h:g=k
   ·have a:(g==k)=true:=beq_iff_eq.mpr h;simp only[List.lookup,a,if_pos<|h.trans b]
   ·have a:(g==k)=false:=U3.mpr h;simp only[List.lookup,a,if_neg<|λe:g=f=>h<|e.trans b.symm]
  ·rw[if_neg b];by_cases h:g=k
   ·have a:(g==k)=true:=beq_iff_eq.mpr h;simp only[List.lookup,a,if_neg<|λe:g=f=>b<|h.symm.trans e]
   ·have a:(g==k)=false:=U3.mpr h;simp only[List.lookup,a];exact c
theorem Vh(f:Str)(v:V):∀ fs:List (Str×V),f∈(VT f v fs).map (·.1)/\∀ g,g∈fs.map (·.1)->g∈(VT f v fs).map (·.1)
 | []=>⟨by simp[VT],λg h=>by simp at h⟩
 | (k,x)::r=>by
  obtain⟨b,c⟩:=Vh f v r;rw[show VT f v ((k,x)::r)=(if k=f then(k,v)::r else(k,x)::VT f v r) from rfl];by_cases a:k=f
  ·rw[if_pos a];subst a;exact⟨by simp,λg h=>by simpa using h⟩
  ·rw[if_neg a];refine⟨?_,λg h=>?_⟩
   ·rw[L6];exact L7 _ b
   ·rw[L6] at h ⊢;rcases M6.mp h with e | e
    ·exact M6.mpr<|.inl e
    ·exact L7 _<|c g e
theorem Ys(f:Str)(v:V):∀ fs:List (Str×V),(VT f v fs).length<=fs.length+1
 | []=>by simp[VT]
 | (k,x)::r=>by
  have b:=Ys f v r;rw[show VT f v ((k,x)::r)=(if k=f then(k,v)::r else(k,x)::VT f v r) from rfl];by_cases a:k=f
  ·rw[if_pos a,M4,M4];lia
  ·rw[if_neg a,M4,M4];lia
def RelO.some_of(r:RelO (some v) o):∃ u,o=some u/\RelV v u:=by
 cases o with
 | none=>exact(show False from r).elim
 | some u=>exact⟨u,rfl,r⟩
def RelO.none_of(r:RelO none o):o=none:=by
 cases o with
 | none=>rfl
 | some u=>exact(show False from r).elim
def jcQ(r:RelV v u):PySem.W.handedIn u=true:=by
 cases v with
 | non=>cases(show u=Value.none from r);rfl
 | bl b=>cases(show u=Value.bool b from r);rfl
 | int i=>obtain⟨t,e⟩:=(show ∃ t,u=Value.int i t from r);cases e;rfl
 | str x=>obtain⟨t,e⟩:=(show ∃ t,u=Value.str x t from r);cases e;rfl
 | byt b=>obtain⟨t,e⟩:=(show ∃ t,u=Value.bytes b t from r);cases e;rfl
 | flt b=>obtain⟨t,e⟩:=(show ∃ t,u=Value.float b t from r);cases e;rfl
 | ref a=>cases(show u=Value.ref a from r);rfl
 | ty n=>cases(show u=Value.type n from r);rfl
section
variable {P:Program}{w:World}{H H':Hp}{h h':Heap}{a C dx:Addr}{fs fs':List (Str×V)}
def zT(hok:HOk P w H h)(e:H a=some (.ins C dx fs)):∃ mA,ObjM h a dx C mA/\(∀ f,RelO (fs.lookup f)<|mA f)/\PySem.Within mA (fs.map (·.1))/\fs.length<=1000/\H dx=some (.own a):=by
 obtain⟨d,z,ne,ob,mA,n,r,q⟩:=(show ObjOk P w H h a (.ins C dx fs) from hok a _ e);exact⟨mA,⟨ob,n,ne⟩,r,q,z,d⟩
end
structure Cls(K:W4)(C:Addr):Prop where
 pg:PySem.W.plainGet K C Str.empty=true
 hd:PySem.W.hasDictIn K C=true
 po:PySem.W.plainOver K C=true
 sa:PySem.W.findIn K (.ref C) "__setattr__" = some (some<|.builtin "object.__setattr__")
def Cls.get{K:W4}{C:Addr}(c:Cls K C)(f:Str):PySem.W.plainGet K C f=true:=c.pg
def NoAttr(K:W4)(C:Addr)(f:Str):Prop:=PySem.W.findIn K (.ref C) f=some none
def NoAttr.taker{K:W4}{C:Addr}{f:Str}(n:NoAttr K C f):PySem.W.takerIn K C f=some none:=by
 unfold PySem.W.takerIn;rw[show PySem.W.findIn K (.ref C) f=some none from n];rfl
structure Con(K:W4)(C:Addr)(f:Str)(v:V)(u:Value):Prop where
 at_:PySem.W.findIn K (.ref C) f=some (some u)
 rel:RelV v u
 get:PySem.W.specialIn K u "__get__" = some none
 cp:PySem.W.copiedNames.contains f=false
structure Meth(K:W4)(C:Addr)(m:Str)(f:Addr):Prop where
 at_:PySem.W.findIn K (.ref C) m=some (some<|.ref f)
 fn:PySem.W.isFn K (.ref f)=true
 kp:PySem.W.keepIn K (.ref f)=true
section
variable {X:Cx}{pins:List (Addr×Obj)}{σ:St}{H:Hp}{s:Shared}{a C dx:Addr}{fs:List (Str×V)}{f:Str}{v:V}{A:Around}{E:J0}
def Vw(I:Inv X pins σ H s)(e:H a=some (.ins C dx fs))(c:Cls X.K C)(n:NoAttr X.K C f)(l:fs.lookup f=some v)
  (h:∀ u s',Inv X pins σ H s'->RelV v u->Q u s'):wpAny (model X.prog X.w) A (getAttr (.ref a) f b) Q E s:=by
 obtain⟨g,O,r,_,_,_⟩:=zT I.hok e;obtain⟨u,i,d⟩:=RelO.some_of (v:=v) (o:=g f) (by rw[<- l];exact r f);exact jgd I.kIn O (c.get f) c.hd n i (jcQ d)<|h u _ (I.tok _) d
def uW(I:Inv X pins σ H s)(e:H a=some (.ins C dx fs))(c:Cls X.K C)(k:Meth X.K C m g)(l:fs.lookup m=none)
  (h:Q (.ref g,[.ref a]) s):wpAny (model X.prog X.w) A (getMethod (.ref a) m pl) Q E s:=by
 obtain⟨b,O,r,_,_,_⟩:=zT I.hok e;have d:b m=none:=RelO.none_of (by rw[<- l];exact r m);exact jdB I.kIn O (c.get m) k.at_ k.fn d h
def VG(I:Inv X pins σ H s)(e:H a=some (.ins C dx fs))(c:Cls X.K C)(n:NoAttr X.K C f)(D:fs.length < 1000)(l:RelV y u)
  (h:∀ s',Inv X pins σ (upd H a<|.ins C dx<|VT f y fs) s'->Q () s'):wpAny (model X.prog X.w) A (setAttr (.ref a) f u) Q E s:=by
 obtain⟨i,O,r,j,_,k⟩:=zT I.hok e;have m:(fs.map (·.1)).length<=sizeLine:=by rw[L3,sizeLine_eq];lia
 refine jh0 I.kIn O c.sa c.po n.taker c.hd j m λp d t=>h _ ?_;have hd:∃ o,p.get? dx=some o:=let ⟨o,_,_,e',_⟩:=d.ns;⟨o,e'⟩
 refine I.write (x:=a) (e:=dx) (by rw[e];exact True.intro) (.inr k) (λb q v z=>(t.2 b v).trans z) hd ?_;refine⟨by rw[jg O.ne];exact k,?_,O.ne,d.obj,_,d.ns,λg=>?_,λg B=>?_⟩
 ·have:=Ys f y fs;lia
 ·show RelO ((VT f y fs).lookup g) (if g=f then some u else i g);rw[Y9];by_cases q:g=f
  ·rw[if_pos q,if_pos q];exact l
  ·rw[if_neg q,if_neg q];exact r g
 ·by_cases q:g=f
  ·rw[q];exact(Vh f y fs).1
  ·refine(Vh f y fs).2 g (j g λz=>B ?_);show(if g=f then some u else i g)=none;rw[if_neg q];exact z
def Inv.made(I:Inv X pins σ H s):Inv X pins σ (upd (upd H s.heap.objs.size<|.own<|s.heap.objs.size+1) (s.heap.objs.size+1)<|.ins C s.heap.objs.size [])
  { s with heap:=(s.heap.push PySem.W.emptyDict).push (PySem.W.instObj C s.heap.objs.size) }:=by
 have c:(s.heap.push PySem.W.emptyDict).get? s.heap.objs.size=some PySem.W.emptyDict:=E6 s.heap rfl;have e2:((s.heap.push PySem.W.emptyDict).push (PySem.W.instObj C s.heap.objs.size)).get? (s.heap.objs.size+1)=some (PySem.W.instObj C s.heap.objs.size):=by
  have:=E6 (s.heap.push PySem.W.emptyDict) (o:=PySem.W.instObj C s.heap.objs.size) rfl
  rwa [Heap.size_push] at this
 have e3:(s.heap.push PySem.W.emptyDict).Ns s.heap.objs.size (λ_=>none):=⟨PySem.W.emptyDict,#[],_,c,rfl,(λe d=>absurd d<|by simp),λ_=>rfl⟩;have f:=I.laid (a:=s.heap.objs.size) (o:=.own<|s.heap.objs.size+1) (h':=s.heap.push PySem.W.emptyDict) (t':=s.toks) (λb u q=>L9 _ q) (N0 _) ⟨_,c⟩;refine f.laid (a:=s.heap.objs.size+1) (o:=.ins C s.heap.objs.size []) (t':=s.toks) (λb u q=>L9 _ q) (Nat.le_of_eq<|Heap.size_push _ _) ?_;have ne:s.heap.objs.size≠s.heap.objs.size+1:=N7<|Nat.lt_succ_self _;refine⟨by rw[jg ne,jr],U6 _,ne,e2,λ_=>none,(Heap.Ns1.of_empty e3).at λo q=>L9 _ q,λ_=>True.intro,λy g=>absurd rfl g⟩
def jgZ(a:attributeBase e f env (eval e env)=eval e env)
  (h:wpAny (model prog w) A (eval e env) (λo s₁=>wpAny (model prog w) A (getAttr o f true) Q E s₁) E s):wpAny (model prog w) A (eval (.Attribute e f pos) env) Q E s :=
 Attribute_any_ h (by rw[arm_eval_Attribute,a])
end
noncomputable def jdf(K:W4)(ta:TE)(f:Str):TE:=λσ H Q=>ta σ H λx H1=>∃ a C dx fs v,x=.ref a/\H1 a=some (.ins C dx fs)/\Cls K C/\NoAttr K C f/\fs.lookup f=some v/\Q v H1
def jlU(K:W4)(ta tv:TE)(f:Str):TS:=λD σ H=>tv σ H λy H1=>ta σ H1 λx H2=>∃ a C dx fs,x=.ref a/\H2 a=some (.ins C dx fs)/\Cls K C/\NoAttr K C f/\fs.length < 1000 /\
 D.nx σ (upd H2 a<|.ins C dx<|VT f y fs)
def jll(X:Cx)(op:Operator)(rd:V->V->Hp->VK->Prop):Prop :=
 ∀(pins:W0) (s:Shared) (σ:St) (H:Hp) (x y:V) (u v:Value) (Q:VK),Inv X pins σ H s->RelV x u->RelV y v->rd x y H Q->wpAny (model X.prog X.w) X.A (inplaceOp op u v) (EP X pins σ Q) X.xe s
def xZ(K:W4)(ta tv:TE)(rd:V->V->Hp->VK->Prop)(f:Str):TS:=λD σ H=>ta σ H λx H1=>∃ a C dx fs v,x=.ref a/\H1 a=some (.ins C dx fs)/\Cls K C/\NoAttr K C f/\fs.lookup f=some v /\
 tv σ H1 λy H2=>rd v y H2 λz H3=>∃ dx' fs',H3 a=some (.ins C dx' fs')/\fs'.length < 1000/\D.nx σ (upd H3 a<|.ins C dx'<|VT f z fs')
section
variable {X:Cx}{o e value:Expr}{f:Str}{pos pos' tpos:Pos}{ta tv:TE}
def wG(d:PE X e ta)(g:attributeBase e f X.env (eval e X.env)=eval e X.env):PE X (.Attribute e f pos) (jdf X.K ta f):=by
 intro b s σ H Q I h;refine jgZ g<|thn (d b s σ H _ I h) λu s1 i=>?_;obtain⟨x,j,k,rx,a,C,p,fs,v,ex,ea,c,n,l,q⟩:=i;subst ex;obtain rfl:u=Value.ref a:=rx;exact Vw k ea c n l λr s2 m o=>⟨v,j,m,o,q⟩
def jk2(d:PE X o ta)(e:PE X value tv)(g:swapsWith value (some<|.Attribute o f pos') pos.line X.env=pure false):PS X (.Assign [.Attribute o f pos'] value pos) (jlU X.K ta tv f):=by
 intro b s σ H D I h;refine plainObj_wpAny_Assign_Attribute (thn (e b s σ H _ I h) λu s1 ⟨y,i,j,k,q⟩=>thn (d b s1 σ i _ j q) λm s2 p=>?_) g;obtain⟨x,w,r,rx,a,C,z,fs,ex,ea,c,n,l,t⟩:=p;subst ex;obtain rfl:m=Value.ref a:=rx;exact VG r ea c n l k λA v=>⟨σ,_,v,t⟩
def jb1(i:PE X o ta)(j:PE X value tv)(d:jll X op rd):PS X (.AugAssign (.Attribute o f tpos) op value pos) (xZ X.K ta tv rd f):=by
 intro b s σ H D I h;refine wpAny_AugAssign_AttributeAny<|thn (i b s σ H _ I h) λk s1 e=>?_;obtain⟨x,m,p,rx,a,C,R,fs,v,ex,ea,c,n,l,q⟩:=e;subst ex;obtain rfl:k=Value.ref a:=rx;refine Vw p ea c n l λu s2 r t=>thn (j b s2 σ m _ r q) λw A ⟨y,B,E,F,G⟩=>thn (d b A σ B v y u w _ E t F G) λS T e=>?_;obtain⟨z,U,J,L,M,N,g,O,P⟩:=e;exact VG J g c n O L λV Q=>⟨σ,_,Q,P⟩
def jm8:V->V->Hp->VK->Prop:=λx y H Q=>∃ i j,x=.int i/\y=.int j/\Q (.int<|i+j) H
def jjC:V->V->Hp->VK->Prop:=λx y H Q=>∃ i j,x=.int i/\y=.int j/\Q (.int<|i - j) H
def jiy:jll X .Add jm8:=by
 rintro a s σ H x y u v Q I rx c ⟨i,j,rfl,rfl,q⟩;obtain⟨t,rfl⟩:=(show ∃ t,u=Value.int i t from rx);obtain⟨b,rfl⟩:=(show ∃ b,v=Value.int j b from c);exact PyProof.Rows.iadd_int ⟨.int<|i+j,H,I.tok _,⟨_,rfl⟩,q⟩
def uE:jll X .Sub jjC:=by
 rintro a s σ H x y u v Q I rx c ⟨i,j,rfl,rfl,q⟩;obtain⟨t,rfl⟩:=(show ∃ t,u=Value.int i t from rx);obtain⟨b,rfl⟩:=(show ∃ b,v=Value.int j b from c);exact PyProof.Rows.isub_int ⟨.int<|i - j,H,I.tok _,⟨_,rfl⟩,q⟩
end
section
variable {X:Cx}{pins:List (Addr×Obj)}{σ:St}{H:Hp}{s:Shared}{A:Around}{E:J0}{Q:J0}{c:Value}{b:Bool}
inductive TyOf (K:W4) (H:Hp):V->Value->Prop where
 | non:TyOf K H .non (.type "NoneType")
 | bl (x:Bool):TyOf K H (.bl x) (.type "bool")
 | int (i:Int):TyOf K H (.int i) (.type "int")
 | str (x:Str):TyOf K H (.str x) (.type "str")
 | flt (x:UInt64):TyOf K H (.flt x) (.type "float")
 | lst {a:Addr}{xs:List V}(e:H a=some (.lst xs)):TyOf K H (.ref a) (.type "list")
 | frz {a:Addr}{o:Obj}{xs:List V}(e:H a=some (.frz o (.lst xs))):TyOf K H (.ref a) (.type "list")
 | tup {a:Addr}{xs:List V}(e:H a=some (.tup xs)):TyOf K H (.ref a) (.type "tuple")
 | dK {a:Addr}{kvs:List (Key×V)}(e:H a=some (.dK kvs)):TyOf K H (.ref a) (.type "dict")
 | dT {a:Addr}{kvs:List (List Key×V)}(e:H a=some (.dT kvs)):TyOf K H (.ref a) (.type "dict")
 | ins {a C dx:Addr}{fs:List (Str×V)}(e:H a=some (.ins C dx fs)) (cl:Cls K C) (ha:PySem.W.findIn K (.ref C) "__class__" = some (some (.builtin "object.__class__")))
   (hn:PySem.W.specialIn K (.builtin "object.__class__") "__get__" = some (some<|.builtin "getset_descriptor.__get__")) (htk:PySem.W.takesIn K (.builtin "object.__class__")=some true)
   (hm:PySem.W.mroIn K C (.type "object")=some true):TyOf K H (.ref a) (.ref C)
end
structure Room(k:Nat)(A:Around):Prop where
 hd:A.handled=none
 dp:A.depth+3*k+5 < recursionLimit
 un:A.units+16*k+200 < cLine
def Room.mono(r:Room k A)(h:j<=k):Room j A:=⟨r.hd,by have:=r.dp;lia,by have:=r.un;lia⟩
def Room.deeper(r:Room (k+1) A)(env:Env):Room k (A.deeper env) :=
 ⟨r.hd,by have:=r.dp;show A.depth+1+3*k+5 < _;lia,by have:=r.un;show A.units+3+16*k+200 < _;lia⟩
def uX{A:Around}{us:List Value}{kw:List (Str×Value)}:(A.under<|.builtin "type.__call__" ⟨.ref C::us,kw⟩).depth=A.depth+1:=by
 first | rfl | simp[Around.under,Code.weight,Code.isCreation,Code.isGuard,Code.isCaller,Code.frames,Code.isFrame,guardIds]
def jaa{A:Around}{us:List Value}{kw:List (Str×Value)}:(A.under<|.builtin "type.__call__" ⟨.ref C::us,kw⟩).units=A.units+1:=by
 first | rfl | simp[Around.under,Code.cUnits,Code.frames,Code.isFrame]
def Room.make(r:Room (k+1) A)(C:Addr)(us:List Value)(kw:List<|Str×Value):Room k (A.under<|.builtin "type.__call__" ⟨.ref C::us,kw⟩) :=
 ⟨r.hd,by have:=r.dp;rw[uX];lia,by have:=r.un;rw[jaa];lia⟩
def Room.depth(r:Room k A):A.depth < recursionLimit:=by have:=r.dp;lia
def Room.units(r:Room k A):A.units+64 < cLine:=by have:=r.un;lia
noncomputable def JY:TA:=λ_ H Q=>Q [] H
noncomputable def jB(ta:TE)(tr:TA):TA:=λσ H Q=>ta σ H λx H1=>tr σ H1 λxs H2=>Q (x::xs) H2
section
variable {X:Cx}{e:Expr}{es:List Expr}{te:TE}{t:TA}{pos:Pos}
def vX:PA X [] JY:=λ_ _ _ _ H Q I h=>Calls.spliced_nil ⟨[],H,I,.nil,h⟩
def jI(b:PE X e te)(c:PA X es t)(d:starEach (e::es) X.env=(false,eval e X.env)::starEach es X.env:=by rfl):PA X (e::es) (jB te t):=by
 intro pos a s σ H Q I h;rw[d];show wpAny _ _ (spliced<|(false,eval e X.env)::backTo pos (starEach es X.env)) _ _ s;refine Calls.spliced_cons<|thn (b a s σ H _ I h) λu s1 f=>?_;obtain⟨x,g,i,r1,j⟩:=f;exact thn (c pos a s1 σ g _ i j) λo s2 ⟨k,l,m,r2,n⟩=>⟨x::k,l,m,.cons r1 r2,n⟩
def VN(t:TA):TE:=λσ H Q=>t σ H λxs H1=>xs.length<=sizeLine/\∀ p,H1 p=none->Q (.ref p) (upd H1 p<|.tup xs)
def jlw(t:TA):TE:=λσ H Q=>t σ H λxs H1=>xs.length<=sizeLine/\∀ p,H1 p=none->Q (.ref p) (upd H1 p<|.lst xs)
def Jx{x1}(h:PA X es t):PE X (.Tuple es x1 pos) (VN t):=by
 intro a s σ H Q I f;refine wpAny_Tuple_spliced<|thn (h pos a s σ H _ I f) λg s1 ⟨i,c,d,r,z,q⟩=>⟨by rw[<- r.length];exact z,?_⟩;have j:c s1.heap.objs.size=none:=d.hok.fresh<|N0 _;refine⟨.ref s1.heap.objs.size,upd c s1.heap.objs.size<|.tup i,d.laid (t':=s1.toks) (λb u e=>L9 _ e) (N0 _) ?_,rfl,q _ j⟩;exact⟨z,g,r,⟨_,E6 _ rfl,rfl,_,rfl⟩,_,E6 _ rfl,rfl⟩
def jkq(h:PA X es t):PE X (.List es pos) (jlw t):=by
 intro a s σ H Q I f;refine wpAny_List_spliced<|thn (h pos a s σ H _ I f) λg s1 ⟨i,c,d,r,z,q⟩=>⟨by rw[<- r.length];exact z,?_⟩;have j:c s1.heap.objs.size=none:=d.hok.fresh<|N0 _;refine⟨.ref s1.heap.objs.size,upd c s1.heap.objs.size<|.lst i,d.laid (t':=s1.toks) (λb u e=>L9 _ e) (N0 _) ?_,rfl,q _ j⟩;exact⟨z,g,0,r,E6 _ rfl⟩
end
abbrev Sp:=List V->Hp->VK->XK->Prop
abbrev CXT:=List Env->Hp->Shared->XK->Value->Shared->Prop
structure Env0(P:Program)(w:World)(K:W4)(mg:W6)(base:Heap)(A:Around)(outer:List Env)(s:Shared)(H:Hp):Prop where
 frames:A.frames=some outer
 mod:Mod K mg base
 bs:∀ b o,base.get? b=some o->s.heap.get? b=some o/\H b=none
 bsz:base.objs.size<=s.heap.objs.size
 funs:s.heap.FunFrames base outer
 frf:∀ b∈frs outer,H b=none
 hok:HOk P w H s.heap
 bare:AllBare s.gens
def CE(outer:List Env)(P:Program)(w:World)(H:Hp)(s:Shared)(Q:VK)(u:Value)(s':Shared):Prop :=
 ∃ v H',s'.os=s.os/\AllBare s'.gens/\Un (frs outer) [] H H' s.heap s'.heap/\HOk P w H' s'.heap/\RelV v u/\Q v H'
def CR(CX:CXT)(outer:List Env)(P:Program)(w:World)(H:Hp)(s:Shared)(Q:VK)(E:XK)(r:Result)(s':Shared):Prop :=
 match r with
 | .ok (.ret u)=>CE outer P w H s Q u s'
 | .ok _=>False
 | .error e=>CX outer H s E e s'
structure FnOk(P:Program)(w:World)(K:W4)(mg:W6)(base:Heap)(CX:CXT)(k:Nat)(f:Addr)(fd:FuncData)(ps:List Str)(sp:Sp):Prop where
 len:∀ vs H Q E,sp vs H Q E->vs.length=ps.length
 run:∀(A:Around) (outer:List Env) (s:Shared) (H:Hp) (args:Args) (us:List Value) (vs:List V) (Q:VK) (E:XK),Room k A->Env0 P w K mg base A outer s H->BindsTo s fd args (ps.zip us)->Vals vs us->sp vs H Q E ->
  codeAny (model P w) A (.call (.ref f) args) (CR CX outer P w H s Q E) s
def FnOk.imp{P:Program}{w:World}{K:W4}{mg:W6}{base:Heap}{CX:CXT}{k:Nat}{f:Addr}{fd:FuncData}{ps:List Str}{sp a:Sp}(F:FnOk P w K mg base CX k f fd ps sp)
  (h:∀ vs H Q E,a vs H Q E->sp vs H Q E):FnOk P w K mg base CX k f fd ps a :=
 ⟨λvs H Q E q=>F.len vs H Q E<|h _ _ _ _ q,λA outer s H b c vs Q E d e g i j=>F.run A outer s H b c vs Q E d e g i<|h _ _ _ _ j⟩
def Env0.make{P:Program}{w:World}{K:W4}{mg:W6}{base:Heap}{A:Around}{outer:List Env}{s:Shared}{H:Hp}(e:Env0 P w K mg base A outer s H)(C:Addr)(us:List Value)(kw:List<|Str×Value) :
  Env0 P w K mg base (A.under<|.builtin "type.__call__" ⟨.ref C::us,kw⟩) outer s H:=⟨by first | exact e.frames | (simpa [Around.under,Code.envs,Code.isFrame,pushEnvs] using e.frames),e.mod,e.bs,e.bsz,e.funs,e.frf,e.hok,e.bare⟩
section
variable {X:Cx}{pins:List (Addr×Obj)}{σ:St}{H:Hp}{s s':Shared}
def Inv.env0(I:Inv X pins σ H s):Env0 X.prog X.w X.K X.mg X.base X.A X.stack s H :=
 ⟨I.ok.frames,I.ok.mod,I.bs,N8 I.ok.bsz I.sz,I.stack,I.stkFree,I.hok,I.bare⟩
def Inv.after(I:Inv X pins σ H s)(h:CE X.stack X.prog X.w H s Q u s'):EP X pins σ Q u s':=by
 obtain⟨v,c,os,bare,un,hok,r,q⟩:=h;obtain⟨e,g,d,t,a⟩:=s';obtain rfl:a=s.os:=os;exact⟨v,c,I.call (h':=e) (g':=g) (d':=d) (t':=t) (ch:=[]) un hok bare<|λb z=>absurd z<|by simp,r,q⟩
end
noncomputable def xj(sp:Sp)(dvs:List V)(E:XK)(t:TA):TE:=λσ H Q=>t σ H λvs H1=>sp (vs++dvs) H1 Q E
noncomputable def jcl(C:Addr)(m:Str)(sp:Sp)(dvs:List V)(E:XK)(ta:TE)(t:TA):TE:=λσ H Q=>ta σ H λx H1=>∃ a dx fs,x=.ref a/\H1 a=some (.ins C dx fs)/\fs.lookup m=none /\
 t σ H1 λvs H2=>sp (x::(vs++dvs)) H2 Q E
def jgp(C:Addr)(sp:Sp)(dvs:List V)(E:XK)(t:TA):TE:=λσ H Q=>t σ H λvs H1=>∀ x dx,H1 x=none->H1 dx=none->dx≠x ->
 sp (.ref x::(vs++dvs)) (upd (upd H1 dx<|.own x) x<|.ins C dx []) (λv H2=>v=.non/\Q (.ref x) H2) E
def Binds(K:W4)(fd:FuncData)(ps:List Str)(ds:List Value):Prop :=
 ∀(s:Shared) (us:List Value),K.In s.heap->(us++ds).length=ps.length->BindsTo s fd ⟨us,[]⟩ (ps.zip<|us++ds)
def Binds.all{K:W4}{fd:FuncData}{ps:List Str}(h:∀ us:List Value,us.length=ps.length->bindArgs fd ⟨us,[]⟩=pure (ps.zip us)):Binds K fd ps []:=λs us _ a=>by
 rw[N1] at a ⊢;exact .of_eq<|h us a
def VS(CX:CXT)(X:Cx)(E:XK):Prop:=∀(pins:W0) (σ:St) (H:Hp) (s:Shared) (e:Value) (s':Shared),Inv X pins σ H s->CX X.stack H s E e s'->X.xe e s'
section
variable {X:Cx}{CX:CXT}{k:Nat}{f C:Addr}{fd:FuncData}{ps:List Str}{sp:Sp}{dvs:List V}{ds:List Value}{E:XK}{x m:Str}{p pos apos:Pos}{e o:Expr}{es:List Expr}{ta:TE}{t:TA}
def jfF(F:FnOk X.prog X.w X.K X.mg X.base CX k f fd ps sp)(b:Room k X.A)(c:Binds X.K fd ps ds)(hd:Vals dvs ds)(d:VS CX X E)
  (I:Inv X pins σ H s) (r:Vals vs us) (h:sp (vs++dvs) H Q E):wpAny (model X.prog X.w) X.A (call (.ref f) us) (EP X pins σ Q) X.xe s:=by
 have r2:Vals (vs++dvs) (us++ds):=r.append hd;have g:(us++ds).length=ps.length:=by rw[<- r2.length];exact F.len _ _ _ _ h
 refine wpAny_call<|codeAny_mono (F.run X.A X.stack s H ⟨us,[]⟩ (us++ds) (vs++dvs) Q E b I.env0 (c s us I.kIn g) r2 h) λr i a=>?_;cases r with
 | error e=>exact d pins σ H s e i I a
 | ok j =>
  cases j with
  | ret u=>exact I.after a
  | next=>exact False.elim a
  | brk=>exact False.elim a
  | cont=>exact False.elim a
def jgI(F:FnOk X.prog X.w X.K X.mg X.base CX k f fd ps sp)(g:Room k X.A)(i:Gl X x)(j:X.mg x=some (.ref f))(l:PySem.W.keepIn X.K (.ref f)=true)(m:Binds X.K fd ps ds)(hd:Vals dvs ds)(n:VS CX X E)
  (o:PA X (e::es) t) (b:(x==("__debug__" : Str))=false:=by decide) (u:starEach (e::es) X.env=(false,eval e X.env)::starEach es X.env:=by rfl) (c:(backTo pos<|starEach es X.env).any (·.1)=false:=by rfl) :
  PE X (.Call (.Name x p) (e::es) [] pos) (xj sp dvs E t):=by
 intro a s σ H Q I h;refine wpAny_Call_Name_kw<|jcG I i j ?_ b;refine PySem.W.callWith_K (h₀:=X.base) I.ok.mod.kin l (thn (o pos a s σ H _ I h) λv s1 ⟨y,z,d,r,q⟩=>⟨d.kIn,?_⟩) u c;exact jfF F g m hd n d r q
def jcT(y:PE X o ta)(c:Cls X.K C)(i:Meth X.K C m f)(F:FnOk X.prog X.w X.K X.mg X.base CX k f fd ps sp)(z:Room k X.A)(B:Binds X.K fd ps ds)(hd:Vals dvs ds)(D:VS CX X E)(G:PA X (e::es) t)
  (d:starEach (e::es) X.env=(false,eval e X.env)::starEach es X.env:=by rfl) (g:(backTo pos<|starEach es X.env).any (·.1)=false:=by rfl)
  (J:eval (.Call (.Attribute o m apos) (e::es) [] pos) X.env=(do
   let ov <- eval o X.env
   standAt apos.atName
   let (f,first) <- holding [ov] (getMethod ov m pl)
   callWith pos f first (backTo pos<|starEach (e::es) X.env) (backToKw pos<|keywordEach [] X.env)):=by rfl) :
  PE X (.Call (.Attribute o m apos) (e::es) [] pos) (jcl C m sp dvs E ta t):=by
 intro b s σ H Q I h;refine PySem.W.methodCall_KW (pl:=pl) (thn (y b s σ H _ I h) λu s1 L=>?_) J;obtain⟨x,M,j,rx,a,O,fs,ex,ea,l,q⟩:=L;subst ex;obtain rfl:u=Value.ref a:=rx;refine uW j ea c i l ?_;refine PySem.W.callWith_K (first:=[.ref a]) (h₀:=X.base) I.ok.mod.kin i.kp (thn (G pos b s1 σ M _ j q) λn s2 ⟨p,P,v,r,N⟩=>⟨v.kIn,?_⟩) d g;exact jfF (us:=.ref a::n) (vs:=.ref a::p) F z B hd D v (.cons rfl r) N
structure Mk(K:W4)(C f:Addr):Prop where
 makes:PySem.W.makesIn K C=true
 init:PySem.W.findIn K (.ref C) "__init__" = some (some<|.ref f)
 fn:PySem.W.isFn K (.ref f)=true
 kp:PySem.W.keepIn K (.ref C)=true
def jej(M:Mk X.K C f)(F:FnOk X.prog X.w X.K X.mg X.base CX k f fd ps sp)(d:Room (k+1) X.A)(g:Binds X.K fd ps ds)(hd:Vals dvs ds)
  (i:VS CX X E) (I:Inv X pins σ H s) (r:Vals vs us)
  (h:∀ x dx,H x=none->H dx=none->dx≠x->sp (.ref x::(vs++dvs)) (upd (upd H dx<|.own x) x<|.ins C dx []) (λv H2=>v=.non/\Q (.ref x) H2) E) :
  wpAny (model X.prog X.w) X.A (call (.ref C) us) (EP X pins σ Q) X.xe s:=by
 have c:=h (s.heap.objs.size+1) s.heap.objs.size (I.hok.fresh<|Nat.le_succ _) (I.hok.fresh<|N0 _)<|N7<|Nat.lt_succ_self _;have b:=Inv.made (C:=C) I;have r2:Vals (V.ref (s.heap.objs.size+1)::(vs++dvs)) (Value.ref (s.heap.objs.size+1)::(us++ds)):=.cons rfl<|r.append hd;have j:(Value.ref (s.heap.objs.size+1)::us++ds).length=ps.length:=by
  have e:=r2.length;rw[F.len _ _ _ _ c] at e;exact e.symm
 refine wpAny_call<|jeF (f:=f) I.kIn M.makes M.init (beq_iff_eq.mp M.fn)<|codeAny_mono (F.run _ X.stack _ _ ⟨Value.ref (s.heap.objs.size+1)::us,[]⟩ (Value.ref (s.heap.objs.size+1)::(us++ds)) _ _ E (d.make C us [])
  (b.env0.make C us []) (g _ (Value.ref (s.heap.objs.size+1)::us) b.kIn j) r2 c) λr l a=>?_
 cases r with
 | error e=>exact i pins σ _ _ e l b a
 | ok m =>
  cases m with
  | ret u =>
   obtain⟨v,n,o,p,q,t⟩:=b.after a;subst q;exact⟨p,⟨V.ref<|s.heap.objs.size+1,n,o,rfl,t⟩⟩
  | next=>exact False.elim a
  | brk=>exact False.elim a
  | cont=>exact False.elim a
def jgE(M:Mk X.K C f)(F:FnOk X.prog X.w X.K X.mg X.base CX k f fd ps sp)(g:Room (k+1) X.A)(i:Gl X x)(j:X.mg x=some (.ref C))(l:Binds X.K fd ps ds)(hd:Vals dvs ds)(m:VS CX X E)
  (n:PA X (e::es) t) (b:(x==("__debug__" : Str))=false:=by decide) (o:starEach (e::es) X.env=(false,eval e X.env)::starEach es X.env:=by rfl) (c:(backTo pos<|starEach es X.env).any (·.1)=false:=by rfl) :
  PE X (.Call (.Name x p) (e::es) [] pos) (jgp C sp dvs E t):=by
 intro a s σ H Q I h;refine wpAny_Call_Name_kw<|jcG I i j ?_ b;refine PySem.W.callWith_K (h₀:=X.base) I.ok.mod.kin M.kp (thn (n pos a s σ H _ I h) λu s1 ⟨v,y,d,r,q⟩=>⟨d.kIn,?_⟩) o c;exact jej M F g l hd m d r q
end
section
variable {X:Cx}{CX:CXT}{k:Nat}{f C:Addr}{fd:FuncData}{ps ks:List Str}{sp:Sp}{E:XK}{x m:Str}{p pos apos kpos:Pos}{e o:Expr}{es:List Expr}{kws:List Keyword}{te ta:TE}{t tk:TA}{nm:Option Str}
structure KBinds(K:W4)(fd:FuncData)(ps ks:List Str)(g:List Value->List Value->List Value)(gV:List V->List V->List V):Prop where
 to:∀(s:Shared) (us ws:List Value),K.In s.heap->(g us ws).length=ps.length->BindsTo s fd ⟨us,ks.zip ws⟩ (ps.zip<|g us ws)
 rel:∀{vs:List V}{us:List Value}{zs:List V}{ws:List Value},Vals vs us->Vals zs ws->Vals (gV vs zs) (g us ws)
variable {g:List Value->List Value->List Value}{gV:List V->List V->List V}
end
structure FnScope(N P:List Str)(sc:Scope):Prop where
 kind:sc.kind=.function
 co:sc.isCoroutine=false
 gen:sc.isGenerator=false
 nd:N.Nodup
 pre:N.take P.length=P
 par:∀ x∈P,sc.names.lookup x=some .local \/ sc.names.lookup x=some .cell
 nofree:∀ y∈sc.names,y.2≠.free
theorem Q0{kindOf:Str->Option NameKind}  : ∀{binds:List (Str×Value)}{m:W6},(∀ v,(x,v)∉binds)->bindL kindOf binds m x=m x
 | [],_,_=>rfl
 | (n,v)::r,m,h=>by
  unfold bindL;rw[Q0 λw a=>h w<|L7 _ a];split
  ·have:x≠n:=by rintro rfl;exact h v L8
   simp[this]
  ·rfl
theorem Qo{kindOf:Str->Option NameKind}  : ∀{binds:List (Str×Value)}{m:W6},(∀ v,(x,v)∉binds)->bindC kindOf binds m x=m x
 | [],_,_=>rfl
 | (n,v)::r,m,h=>by
  unfold bindC;rw[Qo λw a=>h w<|L7 _ a];split
  ·rfl
  ·have:x≠n:=by rintro rfl;exact h v L8
   simp[this]
theorem Qz{kindOf:Str->Option NameKind}  : ∀{P:List Str}{vs:List Value}{i:Nat}{m:W6},P.Nodup->P[i]?=some x->vs[i]?=some v->kindOf x=some .local ->
  bindL kindOf (P.zip vs) m x=some v
 | [],_,_,_,_,h,_,_=>by simp at h
 | _::_,[],_,_,_,_,h,_=>by simp at h
 | p::P,w::vs,0,m,nd,a,b,c=>by
  simp at a b;subst a;subst b;show bindL kindOf ((p,w)::P.zip vs) m p=_;unfold bindL;rw[Q0 λv d=>(List.nodup_cons.mp nd).1 (List.of_mem_zip d).1,if_pos c];simp
 | p::P,w::vs,i+1,m,nd,a,b,c=>by
  show bindL kindOf ((p,w)::P.zip vs) m x=_;unfold bindL;exact Qz (i:=i) (List.nodup_cons.mp nd).2 (by simpa using a) (by simpa using b) c
theorem zo{kindOf:Str->Option NameKind}  : ∀{P:List Str}{vs:List Value}{i:Nat}{m:W6},P.Nodup->P[i]?=some x->vs[i]?=some v->kindOf x≠some .local ->
  bindC kindOf (P.zip vs) m x=some v
 | [],_,_,_,_,h,_,_=>by simp at h
 | _::_,[],_,_,_,_,h,_=>by simp at h
 | p::P,w::vs,0,m,nd,a,b,c=>by
  simp at a b;subst a;subst b;show bindC kindOf ((p,w)::P.zip vs) m p=_;unfold bindC;rw[Qo λv d=>(List.nodup_cons.mp nd).1 (List.of_mem_zip d).1,if_neg c];simp
 | p::P,w::vs,i+1,m,nd,a,b,c=>by
  show bindC kindOf ((p,w)::P.zip vs) m x=_;unfold bindC;exact zo (i:=i) (List.nodup_cons.mp nd).2 (by simpa using a) (by simpa using b) c
noncomputable def start(N:List Str)(vs:List V):St:=vs.map some++List.replicate (N.length - vs.length) none
noncomputable def jfz(CX:CXT)(P:Program)(w:World)(K:W4)(mg:W6)(base:Heap)(N:List Str)(qual:Str)(scope:Scope)(f:Addr)(cd:Value)(A:Around)(outer:List Env)(s:Shared)(H:Hp)(E:XK):Cx where
 prog:=P
 w:=w
 K:=K
 mg:=mg
 base:=base
 A:=A.deeper (envOfC qual scope s.heap.objs.size f cd)
 N:=N
 s₀:=s
 H₀:=H
 env:=envOfC qual scope s.heap.objs.size f cd
 outer:=outer
 stack:=envOfC qual scope s.heap.objs.size f cd::outer
 ex:=[]
 calm:=true
 fn:=λ_=>true
 pn:=[]
 xe:=λe s'=>wpAny (model P w) (A.deeper<|envOfC qual scope s.heap.objs.size f cd) (leaving (envOfC qual scope s.heap.objs.size f cd) e) (λ_ s''=>CX outer H s E e s'') (λe' s''=>CX outer H s E e' s'') s'
def uk{sc:Scope}{n:Nat}(h:sc.names.lookup x=some .cell):∃ c,(cellsFrom n sc.names []).lookup x=some c:=by
 have q:=PySem.W.cellsFrom_some sc.names n []<|.inl h;exact Option.isSome_iff_exists.mp q
def jcg{CX:CXT}{P:Program}{w:World}{K:W4}{mg:W6}{base:Heap}{N ps:List Str}{qual:Str}{scope:Scope}{f:Addr}{cd:Value}{A:Around}{outer:List Env}{s s1:Shared}{H:Hp}{E:XK}{us:List Value}{vs:List V}
  (S:FnScope N ps scope) (hd:A.handled=none) (g:Env0 P w K mg base A outer s H) (I:vs.length=ps.length) (r:Vals vs us)
  (x:InCallC s s.heap.objs.size (bindL (envOfC qual scope s.heap.objs.size f cd).kindOf (ps.zip us) λ_=>none) (cellsFrom (s.heap.objs.size+1) scope.names []) (bindC (envOfC qual scope s.heap.objs.size f cd).kindOf (ps.zip us) λ_=>none) s1) :
  Inv (jfz CX P w K mg base N qual scope f cd A outer s H E) [] (start N vs) H s1:=by
 have D:ps.length<=N.length:=by have:=congrArg List.length S.pre;rw[E5] at this;lia
 obtain⟨t,J,rfl,B⟩:=x.done;have j:∀ b:Addr,b∉(jfz CX P w K mg base N qual scope f cd A outer s H E).ex:=λb z=>absurd (show b∈([]:W5) from z) (by simp);refine⟨⟨g.mod,S.kind,rfl,rfl,N0 _,λy z c t d=>?_,λy l=>?_,λy c _ h=>?_,λ_=>hd,Around.frames_deeper g.frames,.inr ⟨rfl,rfl⟩,λb z=>absurd z<|j b,g.bs,g.bsz,λb _ _=>j b,λb z=>absurd z<|j b,g.funs,g.frf⟩,
  rfl,g.bare,Un.kept B,⟨_,x.toInCall.ns,λi y v t d L=>?_⟩,λy c h=>⟨_,x.cell y c h⟩,g.hok.fresh<|N0 _,λy c h=>?_,λp m=>absurd (show p∈([]:W0) from m)<|by simp,g.hok.kept B,?_⟩
 ·exact name_of_addr x.apart (PySem.mem_of_lookup t)<|PySem.mem_of_lookup d
 ·have l:scope.names.lookup y=some .cell \/ scope.names.lookup y=some .free:=l;rcases l with l | l
  ·exact uk l
  ·exact absurd rfl<|S.nofree _<|PySem.mem_of_lookup l
 ·exact Nat.le_of_lt<|x.above y c<|PySem.mem_of_lookup h
 ·have hi:i < vs.length:=by
   unfold start at d;by_cases hi:i < vs.length
   ·exact hi
   ·rw[List.getElem?_append_right<|by simpa using hi] at d;rw[List.getElem?_replicate] at d;split at d<;>cases d
  have F:vs[i]?=some v:=by
   unfold start at d;rw[List.getElem?_append_left<|by simpa using hi,List.getElem?_map] at d;cases e:vs[i]? with
   | none=>rw[e] at d;cases d
   | some a=>rw[e] at d;cases d;rfl
  obtain⟨u,C,G⟩:=r.get F;have m:ps[i]?=some y:=by
   rw[<- S.pre,List.getElem?_take_of_lt<|by lia];exact t
  have o:ps.Nodup:=by rw[<- S.pre];exact S.nd.sublist<|List.take_sublist _ _
  refine⟨u,G,?_⟩;rcases S.par y (List.mem_of_getElem? m) with k | k
  ·exact .inl ⟨k,Qz o m C k⟩
  ·obtain⟨c,e⟩:=uk (n:=s.heap.objs.size+1) k;refine .inr ⟨.inl k,c,e,?_⟩;have q:=x.cell y c e;rw[zo o m C<|by show scope.names.lookup y≠_;rw[k];decide] at q;exact q
 ·exact g.hok.fresh<|Nat.le_of_lt<|x.above y c<|PySem.mem_of_lookup h
 ·unfold start;show _=N.length;rw[N5,L3,List.length_replicate]
  lia
def jmc{CX:CXT}{P:Program}{w:World}{K:W4}{mg:W6}{base:Heap}{k:Nat}{f:Addr}{name qual:Str}{params:Arguments}{body:List Stmt}{scope:Scope}{F kV h pm a ct oc:Value}{an od:Option Addr}
  {p:Array (Option Value)}{N ps:List Str}{sp:Sp}(M:K.lookup f=some ⟨oc,od,.func<|PySem.W.fnOf name qual params body scope F kV h pm an a ct,p⟩) (z:PySem.W.codeIn K a qual=true) (S:FnScope N ps scope)
  (len:∀ vs H Q E,sp vs H Q E->vs.length=ps.length)
  (c:∀(A:Around) (outer:List Env) (s:Shared) (H:Hp) (vs:List V) (Q:VK) (E:XK),Room k (A.deeper<|envOfC qual scope s.heap.objs.size f a)->sp vs H Q E ->
   ∃ t,PSs (jfz CX P w K mg base N qual scope f a A outer s H E) body t/\t { nx:=λ_ H'=>Q .non H',rt:=Q } (start N vs) H) :
  FnOk P w K mg base CX (k+1) f (PySem.W.fnOf name qual params body scope F kV h pm an a ct) ps sp:=by
 refine⟨len,λA outer s H G O vs Q E B i R r j=>?_⟩;have T:=len _ _ _ _ j;have L:K.In s.heap:=i.mod.kin.keeps λb o e=>(i.bs b o e).1;have lim:s.heap.NoLimit:=i.mod.nolimit.keeps λb o e=>(i.bs b o e).1;have d:∀ y∈ps.zip O,scope.names.lookup y.1=some .local \/ (scope.names.lookup y.1=some .cell/\((cellsFrom (s.heap.objs.size+1) scope.names []).lookup y.1).isSome=true):=λ⟨n,v⟩ U=>by
  rcases S.par n (List.of_mem_zip U).1 with q | q
  ·exact .inl q
  ·exact .inr ⟨q,PySem.W.cellsFrom_some _ _ _<|.inl q⟩
 refine codeAny_call_function B.depth (L _ _ M) rfl S.co S.gen rfl (PySem.W.codeRec_of L z)<|R _ _ _ _ ?_;refine wpAny_newFunctionEnv_cells S.kind d λenv X s1 x=>?_;subst X;refine⟨lim.keeps x.toInCall.keep,codeAny_func ?_⟩;obtain⟨t,Y,Z⟩:=c A outer s H vs Q E (B.deeper _) j;have I:Inv (jfz CX P w K mg base N qual scope f a A outer s H E) [] (start N vs) H s1:=jcg S B.hd i T r x;refine wpAny_mono (Y [] s1 (start N vs) H _ I Z) (λfl C g=>?_) λe C g=>g;have l:∀{m:St}{H':Hp}{v:V}{u:Value},Inv (jfz CX P w K mg base N qual scope f a A outer s H E) [] m H' C->RelV v u->Q v H'->CE outer P w H s Q u C :=
  λ{m H' v u} J D q=>⟨v,H',J.os,J.bare,J.base,J.hok,D,q⟩
 cases fl with
 | ret u =>
  obtain⟨v,m,H',J,D,q⟩:=g;exact l J D q
 | next =>
  obtain⟨m,H',J,q⟩:=g;exact l (v:=V.non) (u:=Value.none) J rfl q
 | brk =>
  obtain⟨_,_,_,q⟩:=g;exact False.elim q
 | cont =>
  obtain⟨_,_,_,q⟩:=g;exact False.elim q
section
variable {X:Cx}{x:Str}{p pos:Pos}{e:Expr}{es:List Expr}{t:TA}{id T:String}{r:List V->Hp->VK->Prop}
noncomputable def tCB(r:List V->Hp->VK->Prop)(t:TA):TE:=λσ H Q=>t σ H λvs H1=>r vs H1 Q
def uh(d:qZ X (.builtin id) r)(f:Gl X x)(g:X.mg x=none)(i:bootBuiltins x=some (.builtin id))(j:PA X (e::es) t)(k:x≠"__name__":=by decide)(b:(x==("__debug__" : Str))=false:=by decide)
  (l:starEach (e::es) X.env=(false,eval e X.env)::starEach es X.env:=by rfl) (c:(backTo pos<|starEach es X.env).any (·.1)=false:=by rfl):PE X (.Call (.Name x p) (e::es) [] pos) (tCB r t):=by
 intro a s σ H Q I h;refine wpAny_Call_Name_kw<|Je I f g i ?_ k b;exact PyProof.Rows.callWith_builtin1 (thn (j pos a s σ H _ I h) λm s1 ⟨n,o,q,r1,u⟩=>d a s1 σ o n m Q q r1 u) l c
def zC(d:qZ X (.type T) r)(f:Gl X x)(g:X.mg x=none)(i:bootBuiltins x=some (.type T))(j:PA X (e::es) t)(k:x≠"__name__":=by decide)(b:(x==("__debug__" : Str))=false:=by decide)
  (l:starEach (e::es) X.env=(false,eval e X.env)::starEach es X.env:=by rfl) (c:(backTo pos<|starEach es X.env).any (·.1)=false:=by rfl):PE X (.Call (.Name x p) (e::es) [] pos) (tCB r t):=by
 intro a s σ H Q I h;refine wpAny_Call_Name_kw<|Je I f g i ?_ k b;exact PyProof.Rows.callWith_type1 (thn (j pos a s σ H _ I h) λm s1 ⟨n,o,q,r1,u⟩=>d a s1 σ o n m Q q r1 u) l c
end
end L2
namespace HT
open PySem PyProof.Rows
section
open PySem.SeqAt
open PySem.AutoSeq1 (wpAny_loadPart')
open PySem.MeetsSeq PySem.MeetsSeq2 PySem.MeetsSeq3
end
section
variable {prog:Program}{w:World}{A:Around}{E:J0}{s:Shared}
def cat_tup(q:IsTup s.heap t vs.toArray)(r:IsTup s.heap b ws.toArray)(k:vs≠[])
  (h1:ws=[]->Q (.ref t) s) (h2:ws≠[]->Q (.ref s.heap.objs.size) { s with heap:=s.heap.push { cls:=.type "tuple",data:=.seq (vs++ws).toArray } })
  (hsz:vs.length+ws.length<=sizeLine):wpAny (model prog w) A (binaryOp .Add (.ref t)<|.ref b) Q E s:=by
 obtain⟨⟨cls,dd,data,l⟩,h,m,n,hd⟩:=id q;obtain⟨⟨o,c,j,d⟩,a,f,p,g⟩:=id r;simp only at m hd f g;subst m hd f g;have e:vs.toArray++ws.toArray=(vs++ws).toArray:=by simp
 by_cases i:ws=[]
 ·exact concat_meets ⟨_,h,rfl⟩ ⟨_,a,rfl⟩ noFill_tuple_add seq_tuple_add PySem.F.slot_tuple_add PySem.F.entry_tuple_add (PySem.F.args_tuple_add_2 _ _)
   (tuple_addW1 t b vs.toArray ws.toArray n p dd c l d (by simpa using k)<|by simp[i]) ⟨h,a,h1 i⟩
 ·refine concat_meets ⟨_,h,rfl⟩ ⟨_,a,rfl⟩ noFill_tuple_add seq_tuple_add PySem.F.slot_tuple_add PySem.F.entry_tuple_add (PySem.F.args_tuple_add_2 _ _)
   (tuple_addW2 t b vs.toArray ws.toArray n p dd c l d (by simpa using k) (by simpa using i)<|by rw[N4,N4];exact hsz) ⟨h,a,?_⟩
  rw[e];exact h2 i
noncomputable def sIx(n d:Nat):Option Int->Nat
 | none=>d
 | some v=>if v < 0 then(v+(n:Int)).toNat else min v.toNat n
def sIx_none(n d:Nat):sIx n d none=d:=rfl
def sIx_nat(n d k:Nat):sIx n d (some (k:Int))=min k n:=by
 show(if(k:Int) < 0 then((k:Int)+(n:Int)).toNat else min (k:Int).toNat n)=min k n;rw[if_neg<|by lia,N9]
def sIx_le(n d:Nat)(hd:d<=n)(o:Option Int):sIx n d o<=n:=by
 cases o with
 | none=>exact hd
 | some v =>
  show(if v < 0 then(v+(n:Int)).toNat else min v.toNat n)<=n;by_cases a:v < 0
  ·rw[if_pos a];lia
  ·rw[if_neg a];exact Nat.min_le_right _ _
def jcU(v:Int)(n d:Nat):(if v < 0 then max (v+(n:Int)) 0 else min v (n:Int))=((sIx n d (some v):Nat):Int):=by
 show(if v < 0 then max (v+(n:Int)) 0 else min v (n:Int))=(((if v < 0 then(v+(n:Int)).toNat else min v.toNat n):Nat):Int);by_cases a:v < 0
 ·simp only[if_pos a];lia
 ·simp only[if_neg a];lia
def jaj(lo hi:Option Int)(n:Nat):Builtin.Slice.sliceAdjust lo hi 1 (n:Int)=(((sIx n 0 lo:Nat):Int),((sIx n n hi:Nat):Int)):=by
 have a:¬ ((1:Int) < 0):=by lia
 unfold Builtin.Slice.sliceAdjust;simp only[a,if_false];refine Prod.ext ?_ ?_
 ·cases lo with
  | none=>rfl
  | some v=>exact jcU v n 0
 ·cases hi with
  | none=>rfl
  | some v=>exact jcU v n n
def jag(i j:Nat):Builtin.Slice.slicePlaces (i:Int) (j:Int) 1=j - i:=by
 unfold Builtin.Slice.slicePlaces;have a:(1:Int) > 0:=by lia
 simp only[a,if_true,Int.ediv_one];split<;>lia
def VO(p:IsPart v o)(h:Q o s):wpAny (model prog w) A (Builtin.Slice.slicePartIndex v) Q E s:=by
 cases p with
 | none=>exact slicePart_none h
 | int i t=>exact slicePart_int h
def J7{lo hi:Option Int}{n:Nat}{Q:Int×Int×Nat->Shared->Prop}(c:s.heap.IsSliceOf sl vl vu .none)(pl:IsPart vl lo)(d:IsPart vu hi)
  (h:Q (((sIx n 0 lo:Nat):Int),1,sIx n n hi - sIx n 0 lo) s):wpAny (model prog w) A (Builtin.Slice.sliceApplied (.ref sl)<|pure (n:Int)) Q E s:=by
 obtain⟨os,a,e,b⟩:=id c;unfold Builtin.Slice.sliceApplied Builtin.Slice.sliceFields;refine L4<|L4<|U7 a b (x:=vl) rfl<|L4<|U7 a b (x:=vu) rfl<|L4<|U7 a b (x:=.none) rfl<|M8 ?_;refine L4<|slicePart_none ?_;show wpAny _ _ (if((1:Int)==0)=true then _ else _) _ _ s;rw[if_neg<|by decide];refine L4<|VO pl<|L4<|VO d<|L4<|M8 ?_;show wpAny _ _ (match Builtin.Slice.sliceAdjust lo hi 1 (n:Int) with | (lo,hi)=>pure (lo,(1:Int),Builtin.Slice.slicePlaces lo hi 1)) _ _ s;rw[jaj lo hi n];show wpAny _ _ (pure (((sIx n 0 lo:Nat):Int),(1:Int),Builtin.Slice.slicePlaces ((sIx n 0 lo:Nat):Int) ((sIx n n hi:Nat):Int) 1)) _ _ s;rw[jag];exact M8 h
def jdX(xs:Array Value)(i k:Nat):((List.range k).filterMap λ(m:Nat)=>xs[((i:Int)+(m:Int)*1).toNat]?).toArray=((xs.toList.drop i).take k).toArray:=by
 have e:(λ(m:Nat)=>xs[((i:Int)+(m:Int)*1).toNat]?)=λm=>xs[i+m]?:=by
  funext m
  have:((i:Int)+(m:Int)*1).toNat=i+m:=by lia
  rw[this]
 rw[e];have:=pick_run xs i k;rw[List.filterMap_map] at this;have e2:((λx=>xs[x]?) ∘ λx=>i+x)=λm=>xs[i+m]?:=rfl;rw[e2] at this;rw[this]
def getItem_tuple_cut{items:Array Value}{lo hi:Option Int}{Q:J0}(b:IsTup s.heap t items)(g:s.heap.IsSliceOf sl vl vu .none)(pl:IsPart vl lo)(i:IsPart vu hi)
  (j:¬ (sIx items.size 0 lo=0/\sIx items.size items.size hi=items.size))
  (h:Q (.ref s.heap.objs.size) { s with heap:=s.heap.push { cls:=.type "tuple",data:=.seq ((items.toList.drop<|sIx items.size 0 lo).take (sIx items.size items.size hi - sIx items.size 0 lo)).toArray } })
  (hsz:items.size<=sizeLine):wpAny (model prog w) A (getItem (.ref t)<|.ref sl) Q E s:=by
 have a:sizeOk (.seq ((items.toList.drop<|sIx items.size 0 lo).take (sIx items.size items.size hi - sIx items.size 0 lo)).toArray):=by
  show((items.toList.drop<|sIx items.size 0 lo).take (sIx items.size items.size hi - sIx items.size 0 lo)).toArray.size<=sizeLine;rw[N4,E5,List.length_drop,Array.length_toList]
  lia
 have l:sIx items.size items.size hi<=items.size:=sIx_le _ _ (N0 _) hi;obtain⟨os,c,d,k⟩:=id g;have e:s.TypeIs (.ref sl) "slice":=⟨os,c,d⟩;unfold getItem
 try with_reducible refine wpAny_holding ?_
 first | refine L4 (M8 ?_) | skip
 refine L4<|wpAny_sequenceKey b.typeIs (by decide) ?_;refine L4<|wpAny_callSpecial?_slot (name:=Str.ofString "__getitem__") b.typeIs PyProof.Rows.slot_tuple_getitem<|wpAny_call_entry PyProof.Rows.slot_tuple_getitem b.typeIs entry_tuple_getitem ?_<|args_tuple_getitem _ _
 show wpAny _ _ (Builtin.Tuple.tupleItemsOf (.ref t) >>= _) _ _ s;refine L4<|tupleItemsOf_ b ?_;refine L4<|wpAny_typeOf e ?_;rw[if_pos<|by decide];refine L4<|J7 g pl i ?_;have f:¬ ((((sIx items.size 0 lo:Nat):Int)==0&&(1:Int)==1&&(sIx items.size items.size hi - sIx items.size 0 lo)==items.size)=true):=by
  intro q;rw[M3,M3] at q;have n:((sIx items.size 0 lo:Nat):Int)=0:=eq_of_beq q.1.1;have o:sIx items.size items.size hi - sIx items.size 0 lo=items.size:=eq_of_beq q.2;exact j ⟨by lia,by lia⟩
 show wpAny _ _ (if(((sIx items.size 0 lo:Nat):Int)==0&&(1:Int)==1&&(sIx items.size items.size hi - sIx items.size 0 lo)==items.size)=true then _ else _) _ _ s;rw[if_neg f,jdX]
 first
  | exact L4 (m:=Builtin.Tuple.tupleExact _) (wpAny_newObj_type (M8 ⟨_,rfl,M8 h⟩) a)
  | exact L4 (m:=Builtin.Tuple.tupleExact _) (wpAny_newObj_type (L4 (M8 (M8 ⟨_,rfl,M8 h⟩))) a)
  | exact L4 (L4 (m:=Builtin.Tuple.tupleExact _) (wpAny_newObj_type (M8 (M8 ⟨_,rfl,M8 h⟩)) a))
  | exact L4 (L4 (m:=Builtin.Tuple.tupleExact _) (wpAny_newObj_type (M8 ⟨_,rfl,M8 h⟩) a))
end
end HT
namespace L2
open PySem PySem.Spec PyProof.Rows
abbrev TO:=St->Hp->(Option Int->Hp->Prop)->Prop
def PO(X:Cx)(e:Option Expr)(t:TO):Prop :=
 ∀(pins:W0) (s:Shared) (σ:St) (H:Hp) (Q:Option Int->Hp->Prop),Inv X pins σ H s->t σ H Q ->
  wpAny (model X.prog X.w) X.A (evalPart e X.env) (λu s'=>∃ o H',Inv X pins σ H' s'/\IsPart u o/\Q o H') X.xe s
noncomputable def xg:TO:=λ_ H Q=>Q none H
noncomputable def jf9(t:TE):TO:=λσ H Q=>t σ H λx H1=>∃ i,x=.int i/\Q (some i) H1
def jau:∀{us:List Value},Vals (ns.map V.int) us->IntsAre us ns:=by
 induction ns with
 | nil=>intro us r;rw[List.map_nil] at r;cases r;exact .nil
 | cons n ns a =>
  intro us r;rw[L6] at r;cases r with
  | cons r1 r2 =>
   obtain⟨t,e⟩:=r1;subst e;exact .cons n t<|a r2
section
variable {X:Cx}{e:Expr}{te:TE}{lo hi:Option Expr}{tl th:TO}{pos p2:Pos}
def jhh:PO X none xg:=by
 intro a s σ H Q I h;rw[evalPart_none];exact M8 ⟨none,H,I,.none,h⟩
def jho(h:PE X e te):PO X (some e) (jf9 te):=by
 intro a s σ H Q I b;rw[evalPart_some];refine thn (h a s σ H _ I b) λu s1 c=>?_;obtain⟨x,d,f,r1,g⟩:=c;obtain⟨i,rfl,q⟩:=g;obtain⟨t,rfl⟩:=r1;exact⟨some i,d,f,.int i t,q⟩
def SlR(X:Cx)(r:V->Option Int->Option Int->Hp->VK->Prop):Prop :=
 ∀(pins:W0) (s:Shared) (σ:St) (H:Hp) (x:V) (v vl vu:Value) (lo hi:Option Int) (sl:Addr) (Q:VK),Inv X pins σ H s->RelV x v->s.heap.IsSliceOf sl vl vu .none->IsPart vl lo->IsPart vu hi->r x lo hi H Q ->
  ∃ T id,typeLookup (.type T) "__getitem__" = pure (some<|.builtin id)/\s.TypeIs v T/\wpAny (model X.prog X.w) X.A (getItem v<|.ref sl) (EP X pins σ Q) X.xe s
def SlR.or(h:SlR X r)(h':SlR X r'):SlR X (λx lo hi H Q=>r x lo hi H Q \/ r' x lo hi H Q):=by
 intro a s σ H x v b c lo hi d Q I rx e pl f q;rcases q with q | q
 ·exact h a s σ H x v b c lo hi d Q I rx e pl f q
 ·exact h' a s σ H x v b c lo hi d Q I rx e pl f q
noncomputable def tSl(r:V->Option Int->Option Int->Hp->VK->Prop)(te:TE)(tl th:TO):TE:=λσ H Q=>te σ H λx H1=>tl σ H1 λl H2=>th σ H2 λu H3=>r x l u H3 Q
def jdU{r:V->Option Int->Option Int->Hp->VK->Prop}(j:SlR X r)(k:PE X e te)(m:PO X lo tl)(n:PO X hi th):PE X (.Subscript e (.Slice lo hi none p2) pos) (tSl r te tl th):=by
 intro a s σ H Q I h;refine Subscript_<|thn (k a s σ H _ I h) λv s1 g=>?_;obtain⟨x,o,p,r1,t⟩:=g;refine wpAny_Slice<|thn (m a s1 σ o _ p t) λd s2 ⟨l,y,z,pl,B⟩=>thn (n a s2 σ y _ z B) λf c g=>?_;obtain⟨u,i,C,D,E⟩:=g;rw[evalPart_none];refine M8 ?_;have F:Inv X a σ i { c with heap:=c.heap.push { cls:=.type "slice",data:=.fields #[d,f,.none] } }:=C.kept (t':=c.toks) λb ob q=>L9 _ q;obtain⟨T,id,G,J,K⟩:=j a { c with heap:=c.heap.push { cls:=.type "slice",data:=.fields #[d,f,.none] } } σ i x v d f l u c.heap.objs.size Q F r1 (Heap.IsSliceOf.new ..) pl D E;show wpAny (model X.prog X.w) X.A (subscriptTail e (.Slice lo hi none p2) v<|.ref c.heap.objs.size) (EP X a σ Q) X.xe { c with heap:=c.heap.push { cls:=.type "slice",data:=.fields #[d,f,.none] } };exact tail_any (ops:=[.ref c.heap.objs.size,v]) J G K (by with_unfolding_all rfl)
def jfo(xs:List V)(lo hi:Option Int):List V:=(xs.drop<|HT.sIx xs.length 0 lo).take (HT.sIx xs.length xs.length hi - HT.sIx xs.length 0 lo)
def Yx(xs:List V)(lo hi:Option Int):(jfo xs lo hi).length<=xs.length:=by
 unfold jfo;rw[E5,List.length_drop]
 lia
def jnc(K:W4):V->Option Int->Option Int->Hp->VK->Prop:=λx lo hi H Q=>∃ a xs,x=.ref a/\SqT K H a xs /\
 ¬ (HT.sIx xs.length 0 lo=0/\HT.sIx xs.length xs.length hi=xs.length)/\∀ p,H p=none->Q (.ref p) (upd H p<|.tup<|jfo xs lo hi)
def jjB:SlR X (jnc X.K):=by
 intro f s σ H x v n p lo hi t Q I rx j pl k h;obtain⟨a,d,rfl,l,m,q⟩:=h;cases rx;obtain⟨e,r,g,i⟩:=I.tuple l;have c:e.toArray.size=d.length:=by rw[N4];exact r.length.symm
 refine⟨"tuple",_,PyProof.Rows.slot_tuple_getitem.lookup,g.typeIs,?_⟩;refine HT.getItem_tuple_cut g j pl k (by rw[c];exact m) ?_ (by rw[c];exact i);rw[c];refine⟨.ref s.heap.objs.size,_,I.laid (t':=s.toks) (o:=.tup<|jfo d lo hi) (λb ob q=>L9 _ q) (N0 _) ?_,rfl,q _<|I.hok.fresh<|N0 _⟩;exact⟨N8 (Yx d lo hi) i,_,(r.drop<|HT.sIx d.length 0 lo).take (HT.sIx d.length d.length hi - HT.sIx d.length 0 lo),IsTupN.new _ _⟩
def jkI(K:W4):R2:=λx y H Q=>∃ a b xs ys,x=.ref a/\y=.ref b/\SqT K H a xs/\SqT K H b ys/\xs≠[]/\xs.length+ys.length<=sizeLine /\
 (ys=[]->Q (.ref a) H)/\(ys≠[]->∀ p,H p=none->Q (.ref p) (upd H p<|.tup<|xs++ys))
def Vals.nil_iff(r:Vals xs us):us=[]↔xs=[]:=by
 cases r with
 | nil=>simp
 | cons _ _=>simp
def jf5:OpR X (binaryOp .Add) (jkI X.K):=by
 intro c s σ H x y v u Q I rx f h;obtain⟨a,b,g,i,rfl,rfl,j,k,l,d,m,n⟩:=h;cases rx;cases f;obtain⟨p,r1,p1,_⟩:=I.tuple j;obtain⟨e,r2,p2,_⟩:=I.tuple k;refine HT.cat_tup p1 p2 (λz=>l<|r1.nil_iff.mp z) (λz=>⟨.ref a,H,I,rfl,m<|r2.nil_iff.mp z⟩) (λz=>?_) (by rw[<- r1.length,<- r2.length];exact d);refine⟨.ref s.heap.objs.size,_,I.laid (t':=s.toks) (o:=.tup<|g++i) (λb ob q=>L9 _ q) (N0 _) ?_,rfl,n (λw=>z<|r2.nil_iff.mpr w) _<|I.hok.fresh<|N0 _⟩;exact⟨by rw[N5];exact d,_,r1.append r2,IsTupN.new _ _⟩
end
noncomputable def ixN(n:Nat)(i:Int):Option Nat:=if 0<=i then(if i < n then some i.toNat else none) else if -(n:Int)<=i then some (i+n).toNat else none
def atI{α:Type}(xs:List α)(i:Int):Option α:=(ixN xs.length i).bind λj=>xs[j]?
def zO(h:ixN n i=some j):seqIndex? i n=some j/\j < n/\-(n:Int)<=i/\i < n:=by
 unfold ixN at h;by_cases b:0<=i
 ·rw[if_pos b] at h;by_cases a:i < n
  ·rw[if_pos a] at h;have e:i.toNat=j:=E2 h;exact⟨by rw[seqIndex_of b a,e],by lia,by lia,a⟩
  ·rw[if_neg a] at h;cases h
 ·rw[if_neg b] at h;by_cases a:-(n:Int)<=i
  ·rw[if_pos a] at h;have e:(i+n).toNat=j:=E2 h;exact⟨by rw[seqIndex_neg (by lia) a,e],by lia,a,by lia⟩
  ·rw[if_neg a] at h;cases h
def Ke(h:atI xs i=some v):∃ j,seqIndex? i xs.length=some j/\xs[j]?=some v/\j < xs.length/\-(xs.length:Int)<=i/\i < xs.length:=by
 unfold atI at h;cases e:ixN xs.length i with
 | none=>rw[e] at h;cases h
 | some j =>
  rw[e] at h;obtain⟨a,b,c,d⟩:=zO e;exact⟨j,a,h,b,c,d⟩
def xG(b:Expr):Prop:=∀ o i,subscripted b false o i=operate [o,i] (getItem o i)
def IxR(X:Cx)(r:R2):Prop :=
 ∀(value slice:Expr) (pins:W0) (s:Shared) (σ:St) (H:Hp) (x y:V) (v u:Value) (Q:VK),Inv X pins σ H s->RelV x v->RelV y u->r x y H Q ->
  subscripted slice false v u=operate [v,u] (getItem v u)->wpAny (model X.prog X.w) X.A (subscriptTail value slice v u) (EP X pins σ Q) X.xe s
def MtR(X:Cx)(id:String)(r:V->List V->Hp->VK->Prop):Prop :=
 ∀(pins:W0) (s:Shared) (σ:St) (H:Hp) (x:V) (xs:List V) (v:Value) (us:List Value) (Q:VK),Inv X pins σ H s->RelV x v->Vals xs us->r x xs H Q ->
  wpAny (model X.prog X.w) X.A (call (.builtin id)<|v::us) (EP X pins σ Q) X.xe s
section
variable {X:Cx}{a b:Expr}{ta tb:TE}{pos:Pos}
def IxR.or(h:IxR X r)(h':IxR X r'):IxR X (λx y H Q=>r x y H Q \/ r' x y H Q):=by
 intro value slice a s σ H x y v u Q I rx b q c;rcases q with q | q
 ·exact h value slice a s σ H x y v u Q I rx b q c
 ·exact h' value slice a s σ H x y v u Q I rx b q c
def jlM(d:IxR X r)(e:PE X a ta)(f:PE X b tb)(g:xG b):PE X (.Subscript a b pos) (tOp r ta tb):=by
 intro c s σ H Q I h;exact Subscript_<|jmv e f I h λv u s2 x y i j rx k q=>d a b c s2 σ i x y v u Q j rx k q<|g _ _
def jjm(K:W4):R2:=λx y H Q=>∃ p xs i v,x=.ref p/\y=.int i/\SqL K H p xs/\atI xs i=some v/\Q v H
def jm9(K:W4):R2:=λx y H Q=>∃ p xs i v,x=.ref p/\y=.int i/\SqT K H p xs/\atI xs i=some v/\Q v H
def jne:R2:=λx y H Q=>∃ z i c,x=.str z/\y=.int i/\z.length<=sizeLine/\atI z.cps.toList i=some c/\Q (.str ⟨#[c]⟩) H
def ix_list:IxR X (jjm X.K):=by
 intro value slice a s σ H x y v u Q I rx m h g;obtain⟨p,F,i,z,rfl,rfl,n,o,q⟩:=h;cases rx;obtain⟨t,rfl⟩:=m;obtain⟨d,r,pl,G⟩:=I.list n;obtain⟨j,c,A,J,B,C⟩:=Ke o;obtain⟨w,k,e⟩:=r.get A;have D:=r.length;have L:=VV;have b:EP X a σ Q w s:=⟨z,H,I,e,q⟩;by_cases l:0<=i
 ·have f:i.toNat=j:=by
   rw[seqIndex_of l C] at c;exact E2 c
  exact item_listR pl.isList l (by lia) (by rw[f];simpa using k) b g
 ·have f:(i+(d.toArray.size:Int)).toNat=j:=by
   rw[seqIndex_neg (by lia) B] at c;rw[N4,<- D];exact E2 c
  exact subscriptTail_builtinR (x:=w) pl.isList.typeIs slot_list_getitem.lookup
   (wpAny_getItem_list_neg (Q:=λr E=>r=w/\EP X a σ Q r E) pl.isList (by lia) (by rw[N4]<;>lia) (by lia) (by rw[f];simpa using k) ⟨rfl,b⟩) g
def ix_tup:IxR X (jm9 X.K):=by
 intro value slice a s σ H x y v u Q I rx d h e;obtain⟨p,B,i,z,rfl,rfl,f,g,q⟩:=h;cases rx;obtain⟨t,rfl⟩:=d;obtain⟨k,r,pl,C⟩:=I.tuple f;obtain⟨j,l,m,D,E,F⟩:=Ke g;obtain⟨w,n,b⟩:=r.get m;have o:=r.length;have G:=VV;have c:EP X a σ Q w s:=⟨z,H,I,b,q⟩;exact subscriptTail_builtinR (x:=w) pl.typeIs slot_tuple_getitem.lookup
  (getItem_tuple (j:=j) (Q:=λr A=>r=w/\EP X a σ Q r A) pl (by lia) (by lia) (by rw[N4,<- o];exact l) (by simpa using n) ⟨rfl,c⟩) e
def jjX:IxR X jne:=by
 intro value slice a s σ H x y v u Q I rx d h e;obtain⟨z,i,c,rfl,rfl,o,f,q⟩:=h;obtain⟨t,rfl⟩:=rx;obtain⟨p,rfl⟩:=d;obtain⟨j,b,g,r,k,l⟩:=Ke f;have m:z.cps.toList.length=z.length:=by simp[Str.length]
 rw[m] at b k l;have w:=VV;exact tail_any (typeIs_str s z t) slot_str_getitem.lookup (getItem_str (c:=c) (by
  have n:decide (i < -(2 ^ 63:Int))=false:=X9 (by lia);have e2:decide (i ≥ 2 ^ 63)=false:=X9 (by lia);rw[n,e2,Bool.or_false]) (by rw[b];simpa using g) ⟨.str ⟨#[c]⟩,H,I.tok _,⟨_,rfl⟩,q⟩) e
def rIx(K:W4):R2:=λx y H Q=>jjm K x y H Q \/ jm9 K x y H Q \/ jne x y H Q
def jjc:IxR X (rIx X.K):=ix_list.or<|ix_tup.or jjX
def uI(its:List Value)(n j:Nat)(u:Value):Obj.mapSeq (·.setIfInBounds j u) { cls:=.type "list",data:=.seq its.toArray n }={ cls:=.type "list",data:=.seq (its.set j u).toArray n }:=by
 simp[Obj.mapSeq]
def Inv.lst(I:Inv X pins σ H s)(h:H p=some (.lst xs)) :
  ∃(its:List Value) (n:Nat),Vals xs its/\s.heap.get? p=some { cls:=.type "list",data:=.seq its.toArray n }/\xs.length<=sizeLine:=by
 obtain⟨z,its,n,r,e⟩:=I.hok p _ h;exact⟨its,n,r,e,z⟩
def Inv.lstUpd{pins:List (Addr×Obj)}{s:Shared}{xs ys:List V}{its its':List Value}{n a:Nat}{f:Obj->Obj}(I:Inv X pins σ H s)(h:H p=some (.lst xs))
  (d:s.heap.get? p=some { cls:=.type "list",data:=.seq its.toArray n }) (c:f { cls:=.type "list",data:=.seq its.toArray n }={ cls:=.type "list",data:=.seq its'.toArray a }) (r:Vals ys its') (hz:ys.length<=sizeLine) (t:Nat) :
  Inv X pins σ (upd H p<|.lst ys) { s with heap:=s.heap.update p f,toks:=t }:=by
 have e:(s.heap.update p f).get? p=some { cls:=.type "list",data:=.seq its'.toArray a }:=by
  rw[Heap.get?_update_self f d<|by rw[c]<;>rfl,c]
 refine I.write (x:=p) (e:=p) (by rw[h];trivial) (.inl rfl) (λb u g q=>(Heap.get?_update_other _ _<|Ne.symm g).trans q) ⟨_,e⟩ ?_;exact⟨hz,its',a,r,e⟩
def jaX:V->V->V->Hp->(Hp->Prop)->Prop:=λo i v H Q=>∃ p xs k j,o=.ref p/\i=.int k/\H p=some (.lst xs)/\ixN xs.length k=some j/\Q (upd H p<|.lst<|xs.set j v)
def wt:jl8 X jaX:=by
 intro a s σ H o i v E F u Q I y z A h;obtain⟨p,B,k,j,rfl,rfl,g,C,q⟩:=h;cases y;obtain⟨t,rfl⟩:=z;obtain⟨b,n,r,d,D⟩:=I.lst g;obtain⟨c,G,l,m⟩:=zO C;have e:=r.length;have J:=VV;have w:Inv X a σ (upd H p<|.lst<|B.set j v) { s with heap:=s.heap.update p (Obj.mapSeq (·.setIfInBounds j u)) } :=
  I.lstUpd g d (uI b n j u) (r.set A j) (by rw[List.length_set];exact D) s.toks
 by_cases x:0<=k
 ·have f:k.toNat=j:=by
   rw[seqIndex_of x m] at c;exact E2 c
  exact PySem.W.ki_setAt d x (by lia) (by rw[N4,<- e];exact m) (by rw[f];exact⟨_,w,q⟩)
 ·have f:(k+(b.toArray.size:Int)).toNat=j:=by
   rw[seqIndex_neg (by lia) l] at c;rw[N4,<- e];exact E2 c
  exact PySem.W.ki_setBack d (by lia) (by rw[N4,<- e];exact l) (by lia) (by rw[f];exact⟨_,w,q⟩)
def zg(lo hi:Option Int)(n:Nat):(sliceBounds lo hi none n).1=((HT.sIx n 0 lo:Nat):Int)/\(sliceBounds lo hi none n).2.1=((HT.sIx n n hi:Nat):Int)/\(sliceBounds lo hi none n).2.2=1:=by
 refine⟨?_,?_,rfl⟩
 ·cases lo with
  | none=>simp[sliceBounds,HT.sIx]
  | some i =>
   simp only[sliceBounds,HT.sIx,Option.getD_none,show(1:Int) > 0 by decide,if_true];by_cases h:i < 0
   ·simp only[h,if_true]<;>lia
   ·simp only[h,if_false]<;>lia
 ·cases hi with
  | none=>simp[sliceBounds,HT.sIx]
  | some i =>
   simp only[sliceBounds,HT.sIx,Option.getD_none,show(1:Int) > 0 by decide,if_true];by_cases h:i < 0
   ·simp only[h,if_true]<;>lia
   ·simp only[h,if_false]<;>lia
def Kl(its:List Value)(lo hi:Option Int):slicePick its.toArray lo hi none=((its.drop<|HT.sIx its.length 0 lo).take (HT.sIx its.length its.length hi - HT.sIx its.length 0 lo)).toArray:=by
 obtain⟨a,b,c⟩:=zg lo hi its.toArray.size;unfold slicePick;rw[a,b,c];simp only[sliceRange_one,pick_run,N4]<;>rfl
def jnh(K:W4):V->Option Int->Option Int->Hp->VK->Prop:=λx lo hi H Q=>∃ a xs,x=.ref a/\SqL K H a xs/\∀ p,H p=none->Q (.ref p) (upd H p<|.lst<|jfo xs lo hi)
def jhS:SlR X (jnh X.K):=by
 intro e s σ H x v m n lo hi p Q I rx g pl i h;obtain⟨a,c,rfl,j,q⟩:=h;cases rx;obtain⟨k,r,f,l⟩:=I.list j;have d:=r.length;refine⟨"list",_,slot_list_getitem.lookup,f.isList.typeIs,?_⟩;refine wpAny_getItem_list_slice f.isList g pl i .none (by simp) ?_ (by rw[N4]<;>lia);rw[Kl,<- d];refine⟨.ref s.heap.objs.size,_,I.laid (t':=s.toks) (o:=.lst<|jfo c lo hi) (λb ob q=>L9 _ q) (N0 _) ?_,rfl,q _<|I.hok.fresh<|N0 _⟩;exact⟨N8 (Yx c lo hi) l,_,0,(r.drop<|HT.sIx c.length 0 lo).take (HT.sIx c.length c.length hi - HT.sIx c.length 0 lo),E6 _ rfl⟩
noncomputable def Yw:V->Bool
 | .non=>true
 | .bl _=>true
 | .int _=>true
 | .str _=>true
 | _=>false
noncomputable def eqV:V->V->Bool
 | .non,.non=>true
 | .bl a,.bl b=>a==b
 | .bl a,.int b=>(if a then 1 else 0)==b
 | .int a,.bl b=>a==(if b then 1 else 0)
 | .int a,.int b=>a==b
 | .str a,.str b=>a==b
 | _,_=>false
def jkT(d:RelV y u)(rx:RelV x v)(f:Yw y=true)(e:Yw x=true):SeqAt.EqAt A s u v (eqV y x):=by
 cases y with
 | non =>
  cases d;cases x with
  | non=>cases rx;exact SeqAt.EqAt.same _
  | bl b=>cases rx;exact SeqAt.EqAt.none_bool b
  | int b=>obtain⟨t,rfl⟩:=rx;exact SeqAt.EqAt.none_int b t
  | str b=>obtain⟨t,rfl⟩:=rx;exact SeqAt.EqAt.none_str b t
  | _=>exact absurd (show false=true from e) M5
 | bl a =>
  cases d;cases x with
  | non=>cases rx;exact SeqAt.EqAt.bool_none a
  | bl b=>cases rx;exact SeqAt.EqAt.bool_bool a b
  | int b=>obtain⟨t,rfl⟩:=rx;exact SeqAt.EqAt.bool_int a b t
  | str b=>obtain⟨t,rfl⟩:=rx;exact SeqAt.EqAt.bool_str a b t
  | _=>exact absurd (show false=true from e) M5
 | int a =>
  obtain⟨c,rfl⟩:=d;cases x with
  | non=>cases rx;exact SeqAt.EqAt.int_none a c
  | bl b=>cases rx;exact SeqAt.EqAt.int_bool a c b
  | int b=>obtain⟨t,rfl⟩:=rx;exact SeqAt.EqAt.int_int a c b t
  | str b=>obtain⟨t,rfl⟩:=rx;exact SeqAt.EqAt.int_str a c b t
  | _=>exact absurd (show false=true from e) M5
 | str a =>
  obtain⟨c,rfl⟩:=d;cases x with
  | non=>cases rx;exact SeqAt.EqAt.str_none a c
  | bl b=>cases rx;exact SeqAt.EqAt.str_bool a c b
  | int b=>obtain⟨t,rfl⟩:=rx;exact SeqAt.EqAt.str_int a c b t
  | str b=>obtain⟨t,rfl⟩:=rx;exact SeqAt.EqAt.str_str a c b t
  | _=>exact absurd (show false=true from e) M5
 | _=>exact absurd (show false=true from f) M5
def eqU(x:V)(u:Value):Bool:=match u with
 | .none=>eqV .non x
 | .bool b=>eqV (.bl b) x
 | .int i _=>eqV (.int i) x
 | .str z _=>eqV (.str z) x
 | _=>false
def jfA(r:RelV y u)(f:Yw y=true):eqU x u=eqV y x:=by
 cases y with
 | non=>cases r;rfl
 | bl b=>cases r;rfl
 | int i=>obtain⟨t,rfl⟩:=r;rfl
 | str z=>obtain⟨t,rfl⟩:=r;rfl
 | _=>exact absurd (show false=true from f) M5
theorem YL:∀{xs:List V}{us:List Value},Vals xs us->xs.all Yw=true->us.any (eqU x)=xs.any λy=>eqV y x
 | _,_,.nil,_=>rfl
 | y::xs,u::us,.cons r t,f=>by
  rw[List.all_cons,M3] at f;rw[List.any_cons,List.any_cons,jfA r f.1,YL t f.2]
theorem JB(rx:RelV x v)(b:Yw x=true):∀{xs:List V}{us:List Value},Vals xs us->xs.all Yw=true->∀ u∈us,SeqAt.EqAt A s u v<|eqU x u
 | _,_,.nil,_=>λu a=>by cases a
 | y::xs,u::us,.cons r t,f=>λc a=>by
  rw[List.all_cons,M3] at f;rcases M6.mp a with rfl | a
  ·rw[jfA r f.1];exact jkT r rx f.1 b
  ·exact JB rx b t f.2 c a
def inV(x:V)(xs:List V):Bool:=xs.any λy=>eqV y x
def rIn(K:W4)(neg:Bool):R2:=λx y H Q=>∃ p xs,y=.ref p/\(SqL K H p xs \/ SqT K H p xs)/\Yw x=true/\xs.all Yw=true/\Q (.bl<|if neg then !inV x xs else inV x xs) H
def jcF:OpR X (compareOp .In) (rIn X.K false):=by
 intro d s σ H x y v u Q I rx f h;obtain⟨p,i,rfl,b,e,fs,q⟩:=h;cases f;rcases b with b | b
 ·obtain⟨a,r,pl,g⟩:=I.list b;refine SeqAt.in_listAt (eqU x) pl.isList (λw c=>JB rx e r fs w<|by simpa using c) ⟨.bl _,H,I,rfl,?_⟩;rw[show a.toArray.any (eqU x)=a.any (eqU x) by simp,YL r fs];exact q
 ·obtain⟨a,r,pl,g⟩:=I.tuple b;refine SeqAt.in_tupleAt (eqU x) pl (λw c=>JB rx e r fs w<|by simpa using c) ⟨.bl _,H,I,rfl,?_⟩;rw[show a.toArray.any (eqU x)=a.any (eqU x) by simp,YL r fs];exact q
def QH:OpR X (compareOp .NotIn) (rIn X.K true):=by
 intro d s σ H x y v u Q I rx f h;obtain⟨p,i,rfl,b,e,fs,q⟩:=h;cases f;rcases b with b | b
 ·obtain⟨a,r,pl,g⟩:=I.list b;refine SeqAt.notIn_listAt (eqU x) pl.isList (λw c=>JB rx e r fs w<|by simpa using c) ⟨.bl _,H,I,rfl,?_⟩;rw[show a.toArray.any (eqU x)=a.any (eqU x) by simp,YL r fs];exact q
 ·obtain⟨a,r,pl,g⟩:=I.tuple b;refine SeqAt.notIn_tupleAt (eqU x) pl (λw c=>JB rx e r fs w<|by simpa using c) ⟨.bl _,H,I,rfl,?_⟩;rw[show a.toArray.any (eqU x)=a.any (eqU x) by simp,YL r fs];exact q
def Q7:qZ X (.type "list") (λxs H Q=>∃ p ys,xs=[.ref p]/\(SqL X.K H p ys \/ SqT X.K H p ys)/\∀ l,H l=none->Q (.ref l) (upd H l<|.lst ys)):=by
 intro g s σ H xs y Q I r h;obtain⟨p,ys,rfl,i,q⟩:=h;obtain⟨u,rfl,rx⟩:=jg9 r;cases rx;have j:∀(a:List Value),Vals ys a->ys.length<=sizeLine->∀(c:Heap) (d:Nat),(∀ b x,s.heap.get? b=some x->c.get? b=some x) ->
   c.get? s.heap.objs.size=some { cls:=.type "list",dict:=none,data:=.seq a.toArray d,slots:=#[] }->EP X g σ Q (.ref s.heap.objs.size) { s with heap:=c }:=λa f k c d kp e =>
  ⟨.ref s.heap.objs.size,_,I.laid (t':=s.toks) kp (N0 _)<|show ObjOk X.prog X.w _ c _ (.lst ys) from⟨k,a,d,f,e⟩,rfl,q _<|I.hok.fresh<|N0 _⟩
 rcases i with i | i
 ·obtain⟨a,f,pl,k⟩:=I.list i;have m:=f.length;obtain⟨o,t,v,n,hd⟩:=pl.isList;exact call_list_seq p (.inl rfl) t v hd (λc d kp e=>j a f k c d kp e) (by simp only[N4]<;>lia)
 ·obtain⟨a,f,pl,k⟩:=I.tuple i;have m:=f.length;obtain⟨o,t,v,n,hd⟩:=pl;exact call_list_seq p (.inr rfl) t v hd (λc d kp e=>j a f k c d kp e) (by simp only[N4]<;>lia)
def V5:qZ X (.type "tuple") (λxs H Q=>∃ p ys,xs=[.ref p]/\((SqL X.K H p ys/\∀ l,H l=none->Q (.ref l) (upd H l<|.tup ys)) \/ (SqT X.K H p ys/\Q (.ref p) H))):=by
 intro a s σ H xs n Q I r h;obtain⟨p,ys,rfl,h⟩:=h;obtain⟨u,rfl,rx⟩:=jg9 r;cases rx;rcases h with⟨f,q⟩ | ⟨f,q⟩
 ·obtain⟨c,g,pl,i⟩:=I.list f;have j:=g.length;refine call_tuple_list pl.isList (λd kp=>?_) (by simp only[N4]<;>lia);have k:Inv X a σ H { s with heap:=d }:=I.kept (t':=s.toks) kp;have m:Inv X a σ (upd H d.objs.size<|.tup ys) { s with heap:=d.push { cls:=.type "tuple",data:=.seq c.toArray } } :=
   k.laid (t':=s.toks) (λb o e=>L9 _ e) (N0 _) (show ObjOk X.prog X.w _ _ _ (.tup ys) from⟨i,c,g,IsTupN.new _ _⟩)
  exact⟨.ref d.objs.size,_,m,rfl,q _<|k.hok.fresh<|N0 _⟩
 ·obtain⟨c,g,pl,i⟩:=I.tuple f;exact call_tuple_same pl ⟨.ref p,H,I,rfl,q⟩
def tyV(K:W4)(T:String)(x:V)(H:Hp):Prop:=match x with
 | .str _=>T = "str"
 | .int _=>T = "int"
 | .ref p=>(T = "list"/\∃ xs,SqL K H p xs) \/ (T = "tuple"/\∃ o,K.lookup p=some o/\o.cls=.type "tuple"/\o.dict=none) \/
   (T = "dict"/\((∃ kvs,H p=some (.dK kvs)) \/ ∃ kvs,H p=some (.dT kvs))) \/ (T = "set"/\∃ S n,H p=some (.set S n))
 | _=>False
def jfc(I:Inv X pins σ H s)(r:RelV x v)(ty:tyV X.K T x H) :
  s.TypeIs v T/\∀ a,v=.ref a->∃ ob,s.heap.get? a=some ob/\ob.dict=none:=by
 cases x with
 | str z =>
  obtain⟨t,rfl⟩:=r;cases(show T = "str" from ty);exact⟨typeIs_str s z t,λ_ e=>nomatch e⟩
 | int i =>
  obtain⟨t,rfl⟩:=r;cases(show T = "int" from ty);exact⟨typeIs_int s i t,λ_ e=>nomatch e⟩
 | ref p =>
  cases r;rcases ty with⟨rfl,j,f⟩ | ⟨rfl,o,b,g,hd⟩ | ⟨rfl,b⟩ | ⟨rfl,S,n,b⟩
  ·obtain⟨h,_,pl,_⟩:=I.list f;refine⟨pl.isList.typeIs,λa e=>?_⟩;cases e;obtain⟨o,n,e,c,hd,_⟩:=pl;exact⟨o,e,hd⟩
  ·refine⟨⟨o,I.kIn p o b,g⟩,λa e=>?_⟩;cases e;exact⟨o,I.kIn _ o b,hd⟩
  ·have z:∃ o,s.heap.get? p=some o/\o.ExactDict:=by
    rcases b with⟨d,b⟩ | ⟨d,b⟩
    ·obtain⟨_,_,_,_,o,_,_,e,ex,_⟩:=I.hok p _ b;exact⟨o,e,ex⟩
    ·obtain⟨_,_,_,_,o,_,_,e,ex,_⟩:=I.hok p _ b;exact⟨o,e,ex⟩
   obtain⟨o,e,ex⟩:=z;refine⟨⟨o,e,ex.1⟩,λa e2=>?_⟩;cases e2;exact⟨o,e,ex.2.1⟩
  ·obtain⟨o,_,_,_,e,ex,_⟩:=I.hok p _ b;refine⟨⟨o,e,ex.1⟩,λa e2=>?_⟩;cases e2;exact⟨o,e,ex.2.1⟩
 | _=>exact False.elim ty
noncomputable def jli(K:W4)(T:String)(r:V->List V->Hp->VK->Prop)(to:TE):TE:=λσ H Q=>to σ H λx H1=>tyV K T x H1/\r x [] H1 Q
noncomputable def tBM(K:W4)(T:String)(r:V->List V->Hp->VK->Prop)(to:TE)(t:TA):TE:=λσ H Q=>to σ H λx H1=>tyV K T x H1/\t σ H1 λxs H2=>r x xs H2 Q
variable {o e:Expr}{es:List Expr}{to:TE}{t:TA}{name:Str}{apos cpos:Pos}{T id:String}{r:V->List V->Hp->VK->Prop}
def jiF(pa:PlainAttrs T)(slot:Slot T name id)(d:typeOf (.builtin id)=pure (.type "method_descriptor"))(f:MtR X id r)(g:PE X o to)
  (b:attributeBase o name X.env (eval o X.env)=eval o X.env:=by rfl) (c:(apos.endLine==cpos.line)=true:=by rfl):PE X (.Call (.Attribute o name apos) [] [] cpos) (jli X.K T r to):=by
 intro a s σ H Q I h;refine wpAny_Call_method0_late b c<|thn (g a s σ H _ I h) λv s1 i=>?_;obtain⟨x,j,e,r1,ty,k⟩:=i;obtain⟨l,m⟩:=jfc e r1 ty;exact⟨T,id,pa,slot,d,l,m,Calls.callWith_builtin rfl<|PySem.evalArgs_none<|f a s1 σ j x [] v [] Q e r1 .nil k⟩
def jhl(pa:PlainAttrs T)(slot:Slot T name id)(g:typeOf (.builtin id)=pure (.type "method_descriptor"))(k:MtR X id r)(l:PE X o to)(m:PA X (e::es) t)
  (c:attributeBase o name X.env (eval o X.env)=eval o X.env:=by rfl)
  (f:((backTo cpos<|starEach (e::es) X.env).all (λx=>!x.1)&&(backToKw cpos<|keywordEach [] X.env).all (λx=>x.1.isSome)
   && decide ((e::es).length+([]:List Keyword).length+(if([]:List Keyword).isEmpty then 0 else 1) < 30))=true:=by rfl)
  (d:(apos.endLine==cpos.line)=true:=by rfl) (n:starEach (e::es) X.env=(false,eval e X.env)::starEach es X.env:=by rfl) (b:(backTo cpos<|starEach es X.env).any (·.1)=false:=by rfl) :
  PE X (.Call (.Attribute o name apos) (e::es) [] cpos) (tBM X.K T r to t):=by
 intro a s σ H Q I h;refine wpAny_Call_method_late c f d rfl<|thn (l a s σ H _ I h) λv s1 p=>?_;obtain⟨x,q,i,r1,ty,u⟩:=p;obtain⟨w,y⟩:=jfc i r1 ty;refine⟨T,id,pa,slot,g,w,y,?_⟩;have j:=m cpos a s1 σ q _ i u;rw[n] at j ⊢;refine Calls.callWith_builtin (by show(false||(backTo cpos<|starEach es X.env).any (·.1))=false;rw[b]<;>rfl)<|Calls.evalArgs_plain ?_;exact thn j λz s2 ⟨A,B,C,r2,D⟩=>k a s2 σ B x A v z Q C r1 r2 D
end
def MtM(X:Cx)(id:String)(r:V->List V->Hp->VK->Prop):Prop :=
 ∀(pins:W0) (s:Shared) (σ:St) (H:Hp) (x:V) (xs:List V) (v:Value) (us:List Value) (Q:VK),Inv X pins σ H s->RelV x v->Vals xs us->r x xs H Q ->
  wpAny (model X.prog X.w) X.A (call (.builtin id)<|v::us) (EP X pins σ Q) X.xe s
def Vals.one(h:Vals [x] us):∃ u,us=[u]/\RelV x u:=by
 cases h with
 | cons r t=>cases t;exact⟨_,rfl,r⟩
def Vals.two(h:Vals [x,y] us):∃ u v,us=[u,v]/\RelV x u/\RelV y v:=by
 cases h with
 | cons r t=>cases t with
  | cons q t=>cases t;exact⟨_,_,rfl,r,q⟩
def Vals.zero:∀{us:List Value},Vals [] us->us=[]
 | _,.nil=>rfl
def Vals.reverse(h:Vals xs us):Vals xs.reverse us.reverse:=by
 induction h with
 | nil=>exact .nil
 | cons r t a=>rw[List.reverse_cons,List.reverse_cons];exact Vals.append a<|.cons r .nil
section
variable {X:Cx}{pins:List (Addr×Obj)}{σ:St}{H:Hp}{s:Shared}{l b:Addr}{xs ys zs:List V}
def Inv.lset{its its':List Value}{n:Nat}{f:Array Value->Array Value}{t':Nat}(I:Inv X pins σ H s)(a:H l=some (.lst xs))
  (e:s.heap.get? l=some { cls:=.type "list",data:=.seq its.toArray n }) (b:f its.toArray=its'.toArray) (c:Vals ys its') (hz:ys.length<=sizeLine) :
  Inv X pins σ (upd H l<|.lst ys) { s with heap:=s.heap.update l<|Obj.mapSeq f,toks:=t' }:=by
 have q:=PySem.IsL.update e f;rw[b] at q;refine I.write (x:=l) (e:=l) (by rw[a];exact trivial) (.inl rfl) (λb' u d g=>(Heap.get?_update_other s.heap (Obj.mapSeq f)<|Ne.symm d).trans g) ⟨_,q⟩ ?_;exact⟨hz,its',_,c,q⟩
def Inv.lnew(I:Inv X pins σ H s)(a:Vals ys its)(hz:ys.length<=sizeLine) :
  Inv X pins σ (upd H s.heap.objs.size<|.lst ys) { s with heap:=s.heap.push { cls:=.type "list",data:=.seq its.toArray },toks:=t' } :=
 I.laid (λ_ _ q=>L9 _ q) (N0 _) ⟨hz,its,0,a,E6 _ rfl⟩
def Inv.fresh(I:Inv X pins σ H s):H s.heap.objs.size=none:=I.hok.fresh<|N0 _
def Inv.lstM(I:Inv X pins σ H s)(a:H l=some (.lst xs)):xs.length<=sizeLine/\∃(its:List Value) (n:Nat),Vals xs its/\xs.length=its.length/\s.heap.get? l=some { cls:=.type "list",data:=.seq its.toArray n }:=by
 obtain⟨z,its,n,r,e⟩:=I.hok l _ a;exact⟨z,its,n,r,r.length,e⟩
def uc(h:n<=sizeLine):Builtin.List.listTooLong n=false:=by
 unfold Builtin.List.listTooLong;exact X9 (by lia)
end
section
variable {X:Cx}
def YW:V->List V->Hp->VK->Prop:=λx vs H Q=>∃ l xs y,x=.ref l/\vs=[y]/\H l=some (.lst xs)/\xs.length < sizeLine/\Q .non (upd H l<|.lst<|xs++[y])
def YF:MtM X "list.append" YW:=by
 intro b s σ H x g v i Q I rx d h;obtain⟨l,j,y,rfl,rfl,c,k,q⟩:=h;cases rx;obtain⟨u,rfl,f⟩:=d.one;obtain⟨z,a,n,r,m,e⟩:=I.lstM c;refine call_meets F.slot_list_append ⟨_,e,rfl⟩ F.entry_list_append (F.args_list_append_2 _ _) (PySem.list_append l a.toArray n u<|by rw[N4];lia) ⟨e,?_⟩;refine⟨.non,_,I.lset (its':=a++[u]) c e (by simp) (r.append<|.cons f .nil) ?_,rfl,q⟩;rw[N5,List.length_singleton]
 lia
def KN:V->List V->Hp->VK->Prop:=λx vs H Q=>∃ l xs,x=.ref l/\vs=[]/\H l=some (.lst xs)/\Q .non (upd H l<|.lst xs.reverse)
def jam:MtM X "list.reverse" KN:=by
 intro c s σ H x g v i Q I rx f h;obtain⟨l,j,rfl,rfl,d,q⟩:=h;cases rx;have b:=f.zero;subst b;obtain⟨z,a,n,r,k,e⟩:=I.lstM d;refine call_meets F.slot_list_reverse ⟨_,e,rfl⟩ F.entry_list_reverse (F.args_list_reverse_1 _) (AutoSeq1.list_reverse_list_0 l a.toArray n<|by rw[N4];lia) ⟨e,?_⟩;refine⟨.non,_,I.lset (its':=a.reverse) d e (by simp) r.reverse ?_,rfl,q⟩;rw[List.length_reverse]
 lia
end
end L2
namespace Att
open PySem PySem.W PySem.Calls PyProof.Rows
def Y3:∀(ns:List Int) (vs:List Value),WellAll P h vs (ns.map WData.int)->IntsAre vs ns:=by
 intro ns
 induction ns with
 | nil =>
  intro vs w;rw[List.map_nil] at w;cases w;exact .nil
 | cons n ns c =>
  intro vs w;rw[L6] at w;cases w with
  | cons a b =>
   cases a;exact .cons _ _<|c _ b
def script_of{l:OpenLaw}{n:Nat}(p:l.most=some n)  {h:Heap}{b:List WData}{c:List Value}
  (e:l.row.toRowW.claim.pre b=true) (k:WellAll P h c b) :
  ∃ a vs ns,c=[Value.ref a]/\b=[WData.list<|ns.map WData.int]/\h.get? a=some { cls:=.type "list",data:=.seq vs.toArray }/\IntsAre vs ns/\ns.length<=n:=by
 have m:WShape.hasAll [] b [.list .int]=true:=(pre_splitW e).1;have o:l.pre.holds [] { args:=b }=true:=(pre_splitW e).2;obtain⟨d,r,rfl,s,t⟩:=hasAllW_cons m;obtain rfl:=hasAllW_nil t;obtain⟨x,rfl,u⟩:=hasW_list s;obtain⟨ns,rfl⟩:=items_int u;have f:ns.length<=n:=by
  unfold OpenLaw.pre at o;have i:(WTm.not<|.lt (.lit<|.int (n:Int))<|.len<|.arg 0).holds [] { args:=[.list<|ns.map .int] }=true:=by
   have i:=(holds_andW o).1;rw[p] at i;exact i
  have j:=condW_of i<|w_not<|w_lt w_lit<|w_len_list<|w_arg rfl;rw[L3] at j;refine Nat.le_of_not_lt λq=>?_;have v:(n:Int) < ((ns.length:Nat):Int):=by lia
  first
   | (rw[X8 v] at j;exact absurd j (by decide))
   | (simp at j;lia)
 cases k with
 | cons w1 w2 =>
  cases w2;cases w1 with
  | list w g=>exact⟨_,_,ns,rfl,rfl,w,Y3 ns _ g,f⟩
def post_true(l:OpenLaw)(a:List WData):l.row.toRowW.claim.post a (.bool true) a=true :=
 postW_of (r:=l.row.toRowW) (X:=(true==true))
  (show WShape.has [] (.bool true) .bool=true by first | rfl | decide | simp[WShape.has,WShape.arms,WShape.armsAll])
  (show(WTm.eq .res<|.lit<|.bool true).value [] { args:=a,res:=some<|.bool true,after:=a }=some (.bool<|true==true) from w_eq_bool (w_res rfl) w_lit) rfl
end Att
namespace L2
open PySem PySem.Spec PyProof.Rows
theorem ze:∀{vs:List Value}{ns:List Int},IntsAre vs ns->Vals (ns.map V.int) vs
 | _,_,.nil=>.nil
 | _,_,.cons n t h=>.cons ⟨t,rfl⟩<|ze h
def jmi(H:Hp):Prop:=∀ b,H b=none \/ ∃ o xs,H b=some (.frz o<|.lst xs)
def jel{P:Program}{w:World}{K:W4}{mg I:W6}{CX:CXT}{k:Nat}{fa a:Addr}{fd:FuncData}{x:Str}{sp:Sp}{c:Shared}{vs:List Value}{ns:List Int}
  (Q:K.In c.heap) (p:c.heap.Ns mainGlobals mg) (g:c.heap.Ns builtinsNs I) (J:∀ x:Str,x≠"__name__"->I x=bootBuiltins x) (t:c.heap.NoLimit) (Y:c.gens = #[])
  (G:c.heap.get? a=some { cls:=.type "list",data:=.seq vs.toArray }) (hi:IntsAre vs ns) (R:ns.length<=sizeLine) (Z:Room k callerA)
  (F:∀ base:Heap,K.In base->base.Ns mainGlobals mg->FnOk P w K mg base CX k fa fd [x] sp) (l:∀(s:Shared) (u:Value),BindsTo s fd ⟨[u],[]⟩ [(x,u)])
  (L:∀ H:Hp,jmi H->SqL K H a (ns.map V.int)->sp [.ref a] H (λv _=>v=.bl true) λ_ _ _=>False)
  (M:∀ H e s',CX [] H c (λ_ _ _=>False) e s'->False) :
  codeAny (model P w) callerA (.call (.ref fa) ⟨[.ref a],[]⟩) (λr s'=>r=.ok (.ret<|.bool true)/\OldK c.heap s'.heap/\s'.os=c.os/\AllBare s'.gens) c:=by
 have S:=ze hi;have y:=hi.length
 -- from an abstract heap in which nothing but the script may be tracked
 have j:∀ H:Hp,jmi H->SqL K H a (ns.map V.int)->HOk P w H c.heap->(∀ b,H b≠none->b=a)->(H a≠none->K.lookup a=none) ->
   codeAny (model P w) callerA (.call (.ref fa) ⟨[.ref a],[]⟩) (λr s'=>r=.ok (.ret<|.bool true)/\OldK c.heap s'.heap/\s'.os=c.os/\AllBare s'.gens) c:=by
  intro H T hS hok U hK;have f:∀{b:Addr}{o:Obj},c.heap.get? b=some o->H b=none->(jeh c.heap H).get? b=some o:=λe n=>jeq e n;have N:∀{b:Addr}{o:Obj}{A:Array DictEntry}{B:Nat},c.heap.get? b=some o->o.data=.dict A B->H b=none:=λ{b o A B} e d=>by
   cases q:H b with
   | none=>rfl
   | some u =>
    have O:b=a:=U b (by rw[q];simp);subst O;rw[G] at e;cases e;have d':Data.seq vs.toArray _=Data.dict A B:=d;cases d'
  have i:∀{b:Addr}{m:W6},c.heap.Ns b m->(jeh c.heap H).Ns b m:=λ{b m} ⟨o,A,B,e,d,r⟩=>⟨o,A,B,f e<|N e d,d,r⟩;have C:K.In (jeh c.heap H):=λb o e=>f (Q b o e) (by
   cases q:H b with
   | none=>rfl
   | some u =>
    have O:b=a:=U b (by rw[q];simp);subst O;rw[hK<|by rw[q];simp] at e;cases e)
  have hM:Mod K mg (jeh c.heap H):=⟨C,i p,⟨I,i g,J⟩,let ⟨mc,h1,h2⟩:=t;⟨mc,i h1,h2⟩⟩;have e0:Env0 P w K mg (jeh c.heap H) callerA [] c H:=⟨rfl,hM,λb o e=>jgw e,Nat.le_of_eq<|jcV _ _,trivial,λb g=>absurd (show b∈([]:W5) from g)<|by simp,hok,.of_eq Y⟩;refine codeAny_mono ((F _ C<|i p).run callerA [] c H ⟨[.ref a],[]⟩ [.ref a] [.ref a] _ _ Z e0 (l c<|.ref a) (.cons rfl .nil) (L H T hS)) λr s' h=>?_;cases r with
  | error e=>exact(M H e s' h).elim
  | ok fl =>
   cases fl with
   | next=>exact False.elim h
   | brk=>exact False.elim h
   | cont=>exact False.elim h
   | ret u =>
    obtain⟨v,H',os,bare,un,D,r',q⟩:=h;have q':v=.bl true:=q;subst q';obtain rfl:u=Value.bool true:=r';refine⟨rfl,OldK.of_keep λb o e=>?_,os,bare⟩;cases q:H b with
    | none=>exact un.keep b o e q (by intro z;exact absurd (show b∈([]:W5) from z)<|by simp) (by simp)
    | some u =>
     rcases T b with z | ⟨ob,xs,z⟩
     ·rw[q] at z;cases z
     ·have z2:=un.frzs b ob _ z;obtain⟨X,_⟩:=hok b _ z;obtain⟨e2,_⟩:=D b _ z2;rw[e] at X;cases X;exact e2
 cases hk:K.lookup a with
 | some o =>
  -- the script is one of the module's own objects
  have e:=Q a o hk;rw[G] at e;cases e;refine j (λ_=>none) (λ_=>.inl rfl) (.inr ⟨_,vs.toArray,_,hk,rfl,rfl,rfl,by rw[N4,y];exact R,by simpa using S⟩) (λb u z=>by have E:(none:Option HO)=some u:=z;cases E) (λb z=>absurd rfl z) λz=>absurd rfl z
 | none =>
  refine j (λb=>if b=a then some (.frz { cls:=.type "list",data:=.seq vs.toArray } (.lst<|ns.map V.int)) else none) (λb=>?_) (.inl<|.inr ⟨{ cls:=.type "list",data:=.seq vs.toArray },if_pos rfl⟩) (λb u z=>?_) (λb z=>?_) λ_=>hk
  ·by_cases g:b=a
   ·exact .inr ⟨_,_,if_pos g⟩
   ·exact .inl<|if_neg g
  ·by_cases g:b=a
   ·have E:=(if_pos g).symm.trans z;cases E;subst g;exact⟨G,by rw[L3];exact R,vs,_,S,G⟩
   ·have E:=(if_neg g).symm.trans z;cases E
  ·by_cases g:b=a
   ·exact g
   ·exact absurd (if_neg g) z
noncomputable def kW(s:Stmt)(j:Nat):Stmt:=match s with
 | .ClassDef _ _ _ body _ _ _ _ _ _ _=>body.getD j<|.Pass ⟨0,0,0,0⟩
 | _=>.Pass ⟨0,0,0,0⟩
noncomputable def kX(s:Stmt):Arguments:=match s with
 | .FunctionDef _ a _ _ _ _ _ _ _ _=>a
 | _=>{ posonlyargs:=[],args:=[],vararg:=none,kwonlyargs:=[],kw_defaults:=[],kwarg:=none,defaults:=[] }
noncomputable def vw(s:Stmt):List Stmt:=match s with
 | .FunctionDef _ _ b _ _ _ _ _ _ _=>b
 | _=>[]
noncomputable def jA(s:Stmt):Scope:=match s with
 | .FunctionDef _ _ _ _ _ _ sc _ _ _=>sc
 | _=>{ kind:=.function,names:=[],isGenerator:=false,isCoroutine:=false }
noncomputable abbrev CX0:CXT:=λ_ _ _ _ _ _=>False
noncomputable abbrev E0:XK:=λ_ _ _=>False
def jdH:VS CX0 X E0:=λ_ _ _ _ _ _ _ h=>h.elim
structure Fun(K:W4)(x qual:Str)(st:Stmt)(f:Addr)(fd:FuncData):Prop where
 ex:∃(oc:Value) (od:Option Addr) (kV doc pm:Value) (an:Option Addr) (cdv ct:Value) (osl:Array<|Option Value),
  fd=PySem.W.fnOf x qual (kX st) (vw st) (jA st) .none kV doc pm an cdv ct/\K.lookup f=some ⟨oc,od,.func fd,osl⟩/\PySem.W.codeIn K cdv qual=true
 kp:PySem.W.keepIn K (.ref f)=true
section
variable {P:Program}{w:World}{K:W4}{mg:W6}{base:Heap}
def Fun.ok{x qual:Str}{st:Stmt}{f:Addr}{fd:FuncData}{N ps:List Str}{k:Nat}{sp:Sp}(F:Fun K x qual st f fd)(S:FnScope N ps<|jA st)(len:∀ vs H Q E,sp vs H Q E->vs.length=ps.length)
  (a:∀(cdv:Value) (A:Around) (outer:List Env) (s:Shared) (H:Hp) (vs:List V) (Q:VK) (E:XK),Room k (A.deeper<|envOfC qual (jA st) s.heap.objs.size f cdv)->sp vs H Q E ->
   ∃ t,PSs (jfz CX0 P w K mg base N qual (jA st) f cdv A outer s H E).nox (vw st) t/\t { nx:=λ_ H'=>Q .non H',rt:=Q } (start N vs) H):FnOk P w K mg base CX0 (k+1) f fd ps sp:=by
 obtain⟨oc,od,kV,d,j,l,cdv,ct,e,rfl,g,b⟩:=F.ex;refine jmc g b S len λA outer s H vs Q E i c=>?_;obtain⟨t,h,q⟩:=a cdv A outer s H vs Q E i c;exact⟨t,h.nox,q⟩
def Fun.binds{x qual:Str}{st:Stmt}{f:Addr}{fd:FuncData}{ps:List Str}(F:Fun K x qual st f fd)
  (h:∀(kV doc pm:Value) (an:Option Addr) (cdv ct:Value) (us:List Value),us.length=ps.length->bindArgs (PySem.W.fnOf x qual (kX st) (vw st) (jA st) .none kV doc pm an cdv ct) ⟨us,[]⟩=pure (ps.zip us)):Binds K fd ps []:=by
 obtain⟨oc,od,kV,doc,pm,an,cdv,ct,a,rfl,c,b⟩:=F.ex;exact .all<|h kV doc pm an cdv ct
def uv{x qual:Str}{st:Stmt}{f:Addr}{oc:Value}{od an:Option Addr}{d:Array (Option Value)}{kV b pm a ct:Value}(l:K.lookup f=some ⟨oc,od,.func<|PySem.W.fnOf x qual (kX st) (vw st) (jA st) .none kV b pm an a ct,d⟩)
  (c:PySem.W.codeIn K a qual=true) (k:PySem.W.keepIn K (.ref f)=true):Fun K x qual st f (PySem.W.fnOf x qual (kX st) (vw st) (jA st) .none kV b pm an a ct):=⟨⟨oc,od,kV,b,pm,an,a,ct,d,rfl,l,c⟩,k⟩
end
def YU(a:Room k A):A.units+1 < cLine:=E7 (Nat.add_le_add_left (by decide:1<=64) _) a.units
def jce(h:n<=1000):n < sizeLine:=E7 h (by decide)
def jd3{A B:Prop}(h:B):if false=true then A else B:=by
 rw[if_neg M5];exact h
def jec{A B:Prop}(h:A):if true=true then A else B:=by
 rw[if_pos rfl];exact h
def zm(I:Nat->Shared->Prop)
  (turn:∀ n s,I n s->wpAny (model prog w) A (pyNext it) (λr s₁=>match r with
   | none=>R (.ok .next) s₁
   | some v=>wpAny (model prog w) A (letOwnedTupleGo target it v) (λ_ s₁'=>wpAny (model prog w) A (assign target env v) (λ_ s₂ =>
     wpAny (model prog w) A (forIn ifs true λc r=>if r=true then do let ok <- isTrue c env (eval c env);pure (ForInStep.yield ok) else pure (ForInStep.yield r)) (λok s₃ =>
      if ok=true then wpAny (model prog w) A (eval elt env) (λx s₄ =>
       wpAny (model prog w) A (call (.builtin "list.append") [acc,x]) (λ_ s₅=>∃ m,m < n/\I m s₅) (λ_ _=>False) s₄) (λ_ _=>False) s₃
      else ∃ m,m < n/\I m s₃) (λ_ _=>False) s₂) (λ_ _=>False) s₁') (λ_ _=>False) s₁) (λ_ _=>False) s)
  (n:Nat) (h:I n s) :
  codeAny (model prog w) A (.compLoop (.ListComp elt [⟨target,iter,ifs,0⟩] scope pos) 0 it acc env) R s:=by
 have a:∀{α:Type}{t:Sem α}{Q:α->Shared->Prop}{E:J0}{s:Shared},wpAny (model prog w) A t Q (λ_ _=>False) s->wpAny (model prog w) A t Q E s :=
  λh=>wpAny_mono h (λ_ _ x=>x) λ_ _ z=>z.elim
 refine codeAny_loop rfl I (λn s f=>?_) n h;show wpAny _ A ((compTurn (.ListComp elt [⟨target,iter,ifs,0⟩] scope pos) 0 it acc env).onRaise (λx=>do noteFrame x env;theTreesLotGoes x)) _ _ s;refine wpAny_noted ?_;rw[compTurn_list];refine L4<|wpAny_standAt<|L4<|thn (a<|turn n s f) λr s₁ d=>?_;cases r with
 | none=>exact M8 d
 | some v =>
  refine L4<|thn (a d) λ_ s₁' b=>L4<|thn (a b) λ_ s₂ g=>L4<|thn (a g) λok s₃ e=>?_;cases ok with
  | false=>exact M8 ⟨rfl,e⟩
  | true =>
   exact L4<|L4<|thn (a e) λx s₄ i=>L4<|thn (a i) λ_ s₅ j=>M8<|M8 ⟨rfl,j⟩
noncomputable def uN(env:Env):List (Str×NameKind)->List (Str×Addr)->List (Str×Addr)
 | [],cs=>cs
 | (n,k)::r,cs=>uN env r (if k==NameKind.free then(match env.cells.lookup n with | some a=>(n,a)::cs | none=>cs) else cs)
def zK(scope:Scope)(env:Env):List (Str×Addr):=uN env scope.names []
theorem jgL:∀(l:List<|Str×NameKind) (cs:List<|Str×Addr),(∀ n k,(n,k)∈l->k=NameKind.free->∃ c,env.cells.lookup n=some c) ->
  (forIn (m:=Sem) l cs λx r=>match x with | (n,k)=>if k==NameKind.free then do let a <- cellOf env n;pure (ForInStep.yield<|(n,a)::r) else pure (ForInStep.yield r))=pure (uN env l cs)
 | [],cs,_=>rfl
 | (n,k)::r,cs,h=>by
  rw[List.forIn_cons];by_cases b:(k==NameKind.free)=true
  ·obtain⟨c,j⟩:=h n k L8 (by simpa using b);have o:cellOf env n=pure c:=by unfold cellOf;rw[j]
   have d:=jgL (env:=env) r ((n,c)::cs) λe f g i=>h e f (L7 _ g) i;simp only[b,if_true,o,pure_bind];rw[d]
   conv=>rhs;unfold uN
   simp only[b,if_true,j]
  ·have d:=jgL (env:=env) r cs λe f g i=>h e f (L7 _ g) i;simp only[b,if_false,pure_bind,Bool.false_eq_true];rw[d]
   conv=>rhs;unfold uN
   simp only[b,if_false,Bool.false_eq_true]
def jao(h:∀ n k,(n,k)∈scope.names->k=NameKind.free->∃ c,env.cells.lookup n=some c):closureFor scope env=pure (zK scope env):=by
 have e:=jgL (env:=env) scope.names [] h;unfold closureFor zK;show(forIn (m:=Sem) scope.names [] λx r=>match x with | (n,k)=>if k==NameKind.free then do let a <- cellOf env n;pure (ForInStep.yield<|(n,a)::r) else pure (ForInStep.yield r)) >>= (λcs=>pure cs)=_;rw[e,pure_bind]
theorem jfk:∀(l:List<|Str×NameKind) (cs:List<|Str×Addr),(x,c)∈uN env l cs->(x,c)∈cs \/ env.cells.lookup x=some c
 | [],_,h=>.inl h
 | (n,k)::r,cs,h=>by
  unfold uN at h;rcases jfk r _ h with z | z
  ·split at z
   ·split at z
    ·rename_i a b;rcases M6.mp z with e | e
     ·cases e;exact .inr b
     ·exact .inl e
    ·exact .inl z
   ·exact .inl z
  ·exact .inr z
theorem jbJ:∀(l:List<|Str×NameKind) (cs:List<|Str×Addr),(x,c)∈cs->(x,c)∈uN env l cs
 | [],_,h=>h
 | (n,k)::r,cs,h=>by
  unfold uN;refine jbJ r _ ?_;split
  ·split
   ·exact L7 _ h
   ·exact h
  ·exact h
theorem je2(a:env.cells.lookup x=some c):∀(l:List<|Str×NameKind) (cs:List<|Str×Addr),(x,NameKind.free)∈l->(x,c)∈uN env l cs
 | [],_,h=>nomatch h
 | (n,k)::r,cs,h=>by
  unfold uN;rcases M6.mp h with e | e
  ·cases e;refine jbJ r _ ?_;simp only[beq_self_eq_true,if_true,a];exact L8
  ·exact je2 a r _ e
theorem Jd:∀{l:List (Str×β)}{c:β},(x,c)∈l->∃ d,l.lookup x=some d
 | (n,a)::r,c,h=>by
  rw[List.lookup_cons];cases e:x==n with
  | true=>exact⟨a,rfl⟩
  | false =>
   rcases M6.mp h with z | z
   ·cases z;simp at e
   ·exact Jd z
def Y6(h:(zK scope env).lookup x=some c):env.cells.lookup x=some c:=by
 rcases jfk scope.names [] (PySem.mem_of_lookup h) with z | z
 ·exact nomatch z
 ·exact z
def jbD(a:env.cells.lookup x=some c)(f:(x,NameKind.free)∈scope.names):(zK scope env).lookup x=some c:=by
 obtain⟨d,e⟩:=Jd<|je2 a scope.names [] f;have b:(zK scope env).lookup x=some d:=e;rw[b,<- Y6 b,a]
def qV(h:(n,k)∈(relabel scope env).names):(n,k)∈scope.names \/ (k=.cell/\(n,NameKind.free)∈scope.names):=by
 unfold relabel at h;obtain⟨⟨a,b⟩,c,e⟩:=M7.mp h;dsimp only at e;split at e
 ·rename_i d;cases e;have:b=NameKind.free:=by
   simp only[M3,beq_iff_eq] at d;exact d.1.1
  subst this;exact .inr ⟨rfl,c⟩
 ·cases e;exact .inl c
def vS(scope:Scope)(env:Env)(C:Addr):List (Str×Addr):=cellsFrom (C+1) scope.names<|zK scope env
theorem jbB:∀{names:List (Str×NameKind)}{n:Nat}{acc:List (Str×Addr)},(∀ x y c,acc.lookup x=some c->acc.lookup y=some c->x=y)->(∀ x c,acc.lookup x=some c->c < n)->∀ x y c,(cellsFrom n names acc).lookup x=some c->(cellsFrom n names acc).lookup y=some c->x=y
 | [],n,acc,h,_=>h
 | (a,k)::r,n,acc,h,e=>by
  unfold cellsFrom;split
  ·refine jbB (λx y c b d=>?_)<|λx c b=>?_
   ·rw[List.lookup_cons] at b d;cases e1:x==a with
    | true =>
     rw[e1] at b;cases b;cases e2:y==a with
     | true=>rw[eq_of_beq e1,eq_of_beq e2]
     | false=>rw[e2] at d;exact absurd (e y _ d)<|Nat.lt_irrefl _
    | false =>
     rw[e1] at b;cases e2:y==a with
     | true=>rw[e2] at d;cases d;exact absurd (e x _ b)<|Nat.lt_irrefl _
     | false=>rw[e2] at d;exact h x y c b d
   ·rw[List.lookup_cons] at b;cases e1:x==a with
    | true=>rw[e1] at b;cases b;exact Nat.lt_succ_self _
    | false=>rw[e1] at b;exact Nat.lt_succ_of_lt<|e x c b
  ·exact jbB h e
def jiQ(h:∀ x y c,(zK scope env).lookup x=some c->(zK scope env).lookup y=some c->x=y)(a:∀ x c,(zK scope env).lookup x=some c->c < C+1)(x y:Str)(c:Addr)(h1:(vS scope env C).lookup x=some c)(h2:(vS scope env C).lookup y=some c):x=y:=jbB h a x y c h1 h2
theorem xD:∀{names:List (Str×NameKind)}{n:Nat}{acc:List (Str×Addr)},(∃ c,acc.lookup x=some c)->∃ c,(cellsFrom n names acc).lookup x=some c
 | [],_,_,h=>h
 | (a,k)::r,n,acc,h=>by
  unfold cellsFrom;split
  ·refine xD ?_;rw[List.lookup_cons];cases x==a with
   | true=>exact⟨n,rfl⟩
   | false=>exact h
  ·exact xD h
theorem jbM:∀{names:List (Str×NameKind)}{n:Nat}{acc:List (Str×Addr)},(x,NameKind.cell)∈names->∃ c,(cellsFrom n names acc).lookup x=some c
 | [],_,_,h=>nomatch h
 | (a,k)::r,n,acc,h=>by
  unfold cellsFrom;rcases M6.mp h with e | e
  ·cases e;rw[if_pos<|show(NameKind.cell==NameKind.cell)=true from rfl];refine xD ⟨n,?_⟩;rw[List.lookup_cons,beq_self_eq_true]
  ·split
   ·exact jbM e
   ·exact jbM e
def jiR(h:(x,NameKind.cell)∈scope.names):∃ c,(vS scope env C).lookup x=some c:=jbM h
theorem xP:∀{names:List (Str×NameKind)}{n:Nat}{acc:List (Str×Addr)},(x,NameKind.cell)∉names->(cellsFrom n names acc).lookup x=acc.lookup x
 | [],_,_,_=>rfl
 | (a,k)::r,n,acc,h=>by
  unfold cellsFrom;split
  ·rename_i b;have b:=eq_of_beq b;subst b;rw[xP λz=>h<|L7 _ z,List.lookup_cons];have:(x==a)=false:=U3.mpr λz=>h (by rw[z];exact L8);rw[this]
  ·exact xP λz=>h<|L7 _ z
theorem xu:∀(names:List<|Str×NameKind) (h:Heap) (acc:List<|Str×Addr) (x:Str) (c:Addr),(cellsFrom h.objs.size names acc).lookup x=some c->(h.objs.size<=c/\(pushCells h names).IsCell c none) \/ acc.lookup x=some c
 | [],_,_,_,_,e=>.inr e
 | (a,k)::r,h,acc,x,c,e=>by
  unfold cellsFrom at e;unfold pushCells;split at e
  ·rename_i b;rw[if_pos b];rcases xu r (h.push { cls:=.type "cell",data:=.cell none }) ((a,h.objs.size)::acc) x c (by rw[Heap.size_push];exact e) with q | q
   ·rw[Heap.size_push] at q;exact .inl ⟨Nat.le_of_succ_le q.1,q.2⟩
   ·rw[List.lookup_cons] at q;cases e1:x==a with
    | true =>
     rw[e1] at q;cases q;exact .inl ⟨N0 _,⟨_,pushCells_keeps r _ _ _<|E6 _ rfl,rfl⟩⟩
    | false=>rw[e1] at q;exact .inr q
  ·rename_i b;rw[if_neg b];exact xu r h acc x c e
theorem V2:∀(l:List<|Str×NameKind) (cs:List<|Str×Addr),(x,c)∈uN env l cs->(x,c)∈cs \/ (x,NameKind.free)∈l
 | [],_,h=>.inl h
 | (n,k)::r,cs,h=>by
  unfold uN at h;rcases V2 r _ h with z | z
  ·split at z
   ·rename_i a;split at z
    ·rcases M6.mp z with e | e
     ·cases e;have a:=eq_of_beq a;subst a;exact .inr L8
     ·exact .inl e
    ·exact .inl z
   ·exact .inl z
  ·exact .inr<|L7 _ z
def jbA(h:(zK scope env).lookup x=some c):(x,NameKind.free)∈scope.names:=by
 rcases V2 scope.names [] (PySem.mem_of_lookup h) with z | z
 ·exact nomatch z
 ·exact z
def Kp 
  (h:Q (newEnv scope s.heap.objs.size globals (cellsFrom (s.heap.objs.size+1) scope.names cl) qual none .none (some env) builtinsNs) { s with heap:=pushCells (s.heap.push { cls:=.type "dict",data:=.dict #[] }) scope.names }) :
  wpAny M A (newFunctionEnv scope globals cl [] qual none .none<|some env) Q E s:=by
 simp only[newFunctionEnv,if_true,Option.isSome_some];refine L4<|wpAny_alloc ?_;refine L4<|wpAny_layCells _ (λnm kd cs=>by cases hq:kd==NameKind.cell<;>simp[hq]) _ _ _ _ ?_;rw[show({ s with heap:=s.heap.push { cls:=.type "dict",data:=.dict #[] } }:Shared).heap.objs.size=s.heap.objs.size+1 from Heap.size_push ..];rw[List.forIn_nil];exact L4<|M8<|M8 h
def jQ(X:Cx)(scope:Scope)(N':List Str)(C:Addr)(s₃:Shared)(H₃:Hp)(fp:W5):Cx :=
 { X with N:=N',s₀:=s₃,H₀:=H₃,env:=compEnvC scope (vS scope X.env C) C X.env,outer:=X.stack,stack:=X.stack,ex:=fp,fn:=λx=>scope.names.lookup x==some NameKind.cell,pn:=[],xe:=λ_ _=>False }
structure BlockOk(X:Cx)(scope:Scope)(N':List Str)(ix:List<|Option Nat):Prop where
 kind:scope.kind=.function
 names:∀ y∈scope.names,y.2=.local->scope.names.lookup y.1=some .local
 cells:∀ y∈scope.names,y.2=.cell->scope.names.lookup y.1=some .cell
 uniq:∀ y∈scope.names,y.2=.free->scope.names.lookup y.1=some .free
 outer:∀ y∈scope.names,y.2=.free->X.env.kindOf y.1=some .cell \/ X.env.kindOf y.1=some .free
 nd:N'.Nodup
 len:ix.length=N'.length
 at_:∀(i j:Nat) (x:Str),ix[i]?=some (some j)->N'[i]?=some x->X.N[j]?=some x/\(x,NameKind.free)∈scope.names
 func:X.env.scope.kind=.function
def BlockOk.free(B:BlockOk X scope N' ix)  (h:(x,NameKind.free)∈scope.names):(vS scope X.env C).lookup x=(zK scope X.env).lookup x :=
 xP λz=>by
  have a:=B.cells _ z rfl;rw[B.uniq _ h rfl] at a;cases a
noncomputable def yE(ix:List<|Option Nat)(σ:St):St:=ix.map λo=>o.bind λj=>(σ[j]?).join
abbrev BW:=Nat->Nat->St->Hp->Prop
def Qt(tc:TT)(te:TE)(g:TG)(J:It)(p:Addr)(σ':St)(H1:Hp)(Q:Hp->Prop):Prop :=
 ∃ W:BW,(∃ m,W 0 m σ' H1)/\∀ i m σ2 H2,W i m σ2 H2->(J.stop i H2/\Q H2) \/
  (J.go i H2/\∀ x H3,J.yld i H2 x H3->g x σ2 H3 λσ4 H4=>tc σ4 H4 λb H5=>if b=true then
   te σ4 H5 λy H6=>∃ ys,H6 p=some (.lst ys)/\ys.length < sizeLine/\∃ m',m' < m/\W (i+1) m' σ4 (upd H6 p<|.lst<|ys++[y])
   else ∃ m',m' < m/\W (i+1) m' σ4 H5)
def Vv(wi:TI)(g:TG)(tc:TT)(te:TE)(ix:List<|Option Nat):TE:=λσ H Q=>wi σ H λJ H1=>∀ p,H1 p=none->Qt tc te g J p (yE ix σ) (upd H1 p<|.lst []) λH2=>Q (.ref p) H2
def PIf(X:Cx)(ifs:List Expr)(tc:TT):Prop:=(ifs=[]/\tc=λ_ H Q=>Q true H) \/ ∃ c,ifs=[c]/\PT X c tc
def jc1(B:BlockOk X scope N' ix)(I:Inv X pins σ H s)(w:∀ b∈fp,jat X pins H b)(A:∀ b∈fp,b < s.heap.objs.size)
  (L:h₁.Ns s.heap.objs.size<|λ_=>none) (K:∀ b o,s.heap.get? b=some o->h₁.get? b=some o)
  (h:∀ x c,(vS scope X.env s.heap.objs.size).lookup x=some c->(s.heap.objs.size+1<=c/\h₁.IsCell c none) \/ (zK scope X.env).lookup x=some c) :
  Inv (jQ X scope N' s.heap.objs.size s H fp) [] (yE ix σ) H { s with heap:=h₁,toks:=t }:=by
 have fresh:H s.heap.objs.size=none:=I.hok.fresh<|N0 _;have f:∀ x c,(zK scope X.env).lookup x=some c->X.env.cells.lookup x=some c:=λx c e=>Y6 e;have M:∀ x c,X.env.cells.lookup x=some c->c < s.heap.objs.size:=λx c e=>by
  obtain⟨v,o,C,_⟩:=I.cell x c e;exact N2 C
 refine⟨⟨I.ok.mod,B.kind,I.ok.glob,I.ok.blt,N0 _,jiQ (λx y c D E=>I.ok.inj x y c (f x c D)<|f y c E)<|λx c e=>Nat.lt_succ_of_lt<|M x c<|f x c e,λx F=>?_,(λx c D E=>?_),I.ok.hd,I.ok.frames,.inl rfl,λb n=>⟨N7<|A b n,λx c e=>?_⟩,
  λb o e=>I.bs b o e,N8 I.ok.bsz I.sz,λb o e n=>?_,λb n z=>?_,I.stack,I.stkFree⟩,rfl,I.bare,Un.kept K,⟨_,L,λi x v D E Q=>?_⟩,λx c e=>?_,fresh,λx c e=>?_,(λp R=>nomatch (show p∈([]:W0) from R)),I.hok.kept K,?_⟩
 ·have N:(relabel scope X.env).names.lookup x=some .cell \/ (relabel scope X.env).names.lookup x=some .free:=F;have g:(x,NameKind.free)∈scope.names \/ (x,NameKind.cell)∈scope.names:=by
   rcases N with q | q
   ·rcases qV (PySem.mem_of_lookup q) with z | z
    ·exact .inr z
    ·exact .inl z.2
   ·rcases qV (PySem.mem_of_lookup q) with z | z
    ·exact .inl z
    ·exact absurd z.1 (by decide)
  rcases g with g | g
  ·obtain⟨c,O⟩:=I.ok.has x<|B.outer _ g rfl;exact⟨c,by show(vS scope X.env s.heap.objs.size).lookup x=some c;rw[B.free g];exact jbD O g⟩
  ·exact jiR g
 ·-- the block's own cells are new
  have F:(scope.names.lookup x==some NameKind.cell)=true:=D;have F:=eq_of_beq F;rcases h x c E with⟨q,_⟩ | q
  ·exact Nat.le_of_succ_le q
  ·exfalso;have w:=jbA q;have G:=B.uniq _ w rfl;rw[F] at G;cases G
 ·rcases h x c e with⟨q,_⟩ | q
  ·exact Nat.ne_of_gt<|U5 (A b n)<|Nat.le_of_succ_le q
  ·exact(w b n).2.2.2.2.1 x c (f x c q)
 ·rcases(w b n).2.2.2.1 with z | z
  ·exact I.ok.noex b o e z
  ·exact absurd (U5 (N2 e)<|N8 I.ok.bsz z)<|Nat.lt_irrefl _
 ·rcases M6.mp (I.stkSub b z) with q | q
  ·exact(w b n).2.1 q
  ·exact(w b n).2.2.1 q
 ·have a:(yE ix σ)[i]?=some (some v):=E;unfold yE at a;rw[List.getElem?_map] at a;cases e:ix[i]? with
  | none=>rw[e] at a;cases a
  | some o =>
   rw[e] at a;cases o with
   | none=>cases a
   | some j =>
    have d:(σ[j]?).join=some v:=E2 a;have S:σ[j]?=some (some v):=by
     cases q:σ[j]? with
     | none=>rw[q] at d;cases d
     | some u=>rw[q] at d;rw[show u=some v from d]
    obtain⟨T,g⟩:=B.at_ i j x e D;have J:=B.outer _ g rfl;obtain⟨m,V,U⟩:=I.loc;obtain⟨u,r,l⟩:=U j x v T S<|J.elim (λz=>.inr<|.inl z) λz=>.inr<|.inr z;refine⟨u,r,.inr ?_⟩;rcases l with⟨k,_⟩ | ⟨_,c,O,z⟩
    ·rcases J with y | y<;>rw[k] at y<;>cases y
    ·refine⟨?_,c,by show(vS scope X.env s.heap.objs.size).lookup x=some c;rw[B.free g];exact jbD O g,?_⟩
     ·rcases Q with y | y | y
      ·have:(x,NameKind.local)∈(relabel scope X.env).names:=PySem.mem_of_lookup y;rcases qV this with P | P
       ·have G:=B.names _ P rfl;rw[B.uniq _ g rfl] at G;cases G
       ·exact absurd P.1 (by decide)
      ·exact .inl y
      ·exact .inr y
     ·obtain⟨o,C,hd⟩:=z;exact⟨o,K c o C,hd⟩
 ·rcases h x c e with⟨_,q⟩ | q
  ·exact⟨none,q⟩
  ·obtain⟨v,o,C,hd⟩:=I.cell x c<|f x c q;exact⟨v,o,K c o C,hd⟩
 ·rcases h x c e with⟨q,_⟩ | q
  ·exact I.hok.fresh<|Nat.le_of_succ_le q
  ·exact I.freeC x c<|f x c q
 ·show(yE ix σ).length=N'.length;unfold yE;rw[L3,B.len]
def Inv.other(I:Inv X pins σ H s)(f:jat X pins H C)(a:Heap.SameBut C s.heap h'):Inv X pins σ H { s with heap:=h' } :=
 I.turned (t':=s.toks) (λb o c e=>a.extBut b o c e) f.1 f.2.1 f.2.2.2.1 f.2.2.2.2.1 f.2.2.2.2.2
def Jh{X:Cx}{ifs:List Expr}{N':List Str}{ix:List (Option Nat)}{pins:List (Addr×Obj)}{s:Shared}{Q:Addr->Hp->Prop}{use:Option (Value->Sem Unit)}{QQ:J0}(B:BlockOk X scope N' ix)(hc:X.calm=true)(hi:PI X tg iter wi)
  (hg:∀ C s H fp,PG (jQ X scope N' C s H fp) tg g) (hif:∀ C s H fp,PIf (jQ X scope N' C s H fp) ifs tc) (he:∀ C s H fp,PE (jQ X scope N' C s H fp) elt te)
  (hs:∀ x,foldedSetIterable iter X.env x=pure x) (I:Inv X pins σ H s)
  (h:wi σ H λJ H1=>∀ p,H1 p=none->Qt tc te g J p (yE ix σ) (upd H1 p<|.lst []) (Q p))
  (hend:∀ p C s' H',Q p H'->Inv X pins σ H' s'->jat X pins H' C->(∃ m,s'.heap.Ns C m)->compPost (model X.prog X.w) X.A X.xe use QQ (.ref p) C (.ok .next) s') :
  wpAny (model X.prog X.w) X.A (comprehension (.ListComp elt [⟨tg,iter,ifs,0⟩] scope pos) scope X.env pos' (newList []) false (eval iter X.env) use) QQ X.xe s:=by
 have V:closureFor scope X.env=pure (zK scope X.env):=jao λn k hm hk=>I.ok.has n<|B.outer _ hm hk;refine wpAny_comprehension_free rfl hs V B.kind B.names<|thn (hi pins s σ H _ I h) λv s1 h1=>thn h1 λitv s2 h2=>?_;obtain⟨it,fp,tn,J,L,rfl,I2,T,Y,f2,h2⟩:=h2;refine wpAny_newObj_type<|Kp ?_;dsimp only;have fr2:L s2.heap.objs.size=none:=I2.fresh
 -- the new list
 have I3:Inv X pins σ (upd L s2.heap.objs.size<|.lst []) { s2 with heap:=s2.heap.push { cls:=.type "list",data:=.seq ([]:List Value).toArray } }:=I2.lnew (t':=s2.toks) .nil<|U6 _;generalize hs3:({ s2 with heap:=s2.heap.push { cls:=.type "list",data:=.seq ([]:List Value).toArray } }:Shared)=s3 at I3;have e3:s3.heap=s2.heap.push { cls:=.type "list",data:=.seq ([]:List Value).toArray }:=by rw[<- hs3]
 have hk3:∀ b o,s2.heap.get? b=some o->s3.heap.get? b=some o:=λb o e=>by rw[e3];exact L9 _ e
 have Z:∀ b∈fp,b < s3.heap.objs.size:=λb a=>by
  obtain⟨o,e,_⟩:=T.obj _ _ Y b a;exact N2<|hk3 b o e
 have nep:∀ b∈fp,b≠s2.heap.objs.size:=λb a z=>by
  obtain⟨o,e,_⟩:=T.obj _ _ Y b a;exact absurd (N2 e) (by rw[z];exact Nat.lt_irrefl _)
 have M:∀ b∈fp,jat X pins (upd L s2.heap.objs.size<|.lst []) b:=λb a=>⟨by rw[jg<|nep b a];exact(f2 b a).1,(f2 b a).2⟩;have sz3:s3.heap.objs.size=(s2.heap.push { cls:=.type "list",data:=.seq ([]:List Value).toArray }).objs.size:=by rw[e3]
 have hh₁:∃ N,N=pushCells (s3.heap.push { cls:=.type "dict",data:=.dict #[] }) scope.names:=⟨_,rfl⟩;obtain⟨N,O⟩:=hh₁;rw[<- e3,<- O];have hk4:∀ b o,s3.heap.get? b=some o->N.get? b=some o:=λb o e=>by
  rw[O];exact pushCells_keeps _ _ b o<|L9 _ e
 have hns4:N.Ns s3.heap.objs.size (λ_=>none):=by
  rw[O];exact(Heap.Ns.new s3.heap<|.type "dict").keeps (pushCells_keeps _ _)
 have P:∀ x c,(vS scope X.env s3.heap.objs.size).lookup x=some c->(s3.heap.objs.size+1<=c/\N.IsCell c none) \/ (zK scope X.env).lookup x=some c:=λx c e=>by
  have q:=xu scope.names (s3.heap.push { cls:=.type "dict",data:=.dict #[] }) (zK scope X.env) x c (by rw[Heap.size_push];exact e);rw[Heap.size_push,<- O] at q;exact q
 have I4:Inv (jQ X scope N' s3.heap.objs.size s3 (upd L s2.heap.objs.size<|.lst []) fp) [] (yE ix σ) (upd L s2.heap.objs.size<|.lst []) { s3 with heap:=N,toks:=s2.toks }:=jc1 B I3 M Z hns4 hk4 P;have st4:tn 0 N:=T.keep _ _ _ Y λb a o e=>hk4 b o<|hk3 b o e;obtain⟨W,⟨m0,w0⟩,turn⟩:=h2 _ fr2;have hg':=hg s3.heap.objs.size s3 (upd L s2.heap.objs.size<|.lst []) fp;have R:=hif s3.heap.objs.size s3 (upd L s2.heap.objs.size<|.lst []) fp;have he':=he s3.heap.objs.size s3 (upd L s2.heap.objs.size<|.lst []) fp;generalize f:jQ X scope N' s3.heap.objs.size s3 (upd L s2.heap.objs.size<|.lst []) fp=X' at I4 hg' R he';have eP:X'.prog=X.prog:=by rw[<- f];rfl
 have eW:X'.w=X.w:=by rw[<- f];rfl
 have eK:X'.K=X.K:=by rw[<- f];rfl
 have eA:X'.A=X.A:=by rw[<- f];rfl
 have eC:X'.calm=true:=by rw[<- f];exact hc
 have eE:X'.env=compEnvC scope (vS scope X.env s3.heap.objs.size) s3.heap.objs.size X.env:=by rw[<- f];rfl
 have eX:X'.xe=λ_ _=>False:=by rw[<- f];rfl
 have E:∀{H':Hp},(∀ b∈fp,H' b=none)->∀ b∈fp,jat X' [] H' b:=λhn b a=>by
  refine⟨hn b a,?_,?_,?_,?_,?_⟩
  ·rw[eE];exact N7<|Z b a
  ·rw[<- f];intro z;rcases M6.mp (I3.stkSub b z) with q | q
   ·exact(M b a).2.1 q
   ·exact(M b a).2.2.1 q
  ·rw[<- f];exact .inl a
  ·rw[eE];intro x c e;rcases P x c e with⟨q,_⟩ | q
   ·exact Nat.ne_of_gt<|U5 (Z b a)<|Nat.le_of_succ_le q
   ·exact(M b a).2.2.2.2.1 x c (Y6 q)
  ·rw[<- f];exact(λp hp=>nomatch (show p∈([]:W0) from hp))
 -- the end of the block
 have fin:∀{j:St}{H':Hp}{s':Shared},Inv X' [] j H' s'->Q s2.heap.objs.size H'->compPost (model X.prog X.w) X.A X.xe use QQ (.ref s2.heap.objs.size) s3.heap.objs.size (.ok .next) s':=λ{j H' s'} J q=>by
  have hL:X'.env.locals=s3.heap.objs.size:=by rw[eE];rfl
  have un:Un (frs X.stack) fp (upd L s2.heap.objs.size<|.lst []) H' s3.heap s'.heap:=by
   have z:=J.base;rw[<- f] at z;exact z
  have hos:s'.os=s3.os:=by
   have z:=J.os;rw[<- f] at z;exact z
  have hok:HOk X.prog X.w H' s'.heap:=by
   have z:=J.hok;rw[eP,eW] at z;exact z
  have fc:H' s3.heap.objs.size=none:=by
   have z:=J.free;rw[hL] at z;exact z
  have I5:Inv X pins σ H' s':=by
   obtain⟨hh,gg,dd,tt,oo⟩:=s';obtain rfl:oo=s3.os:=hos;exact I3.call (h':=hh) (g':=gg) (d':=dd) (t':=tt) (ch:=fp) un hok J.bare λb a=>⟨(M b a).2.2.2.1,(M b a).2.1,(M b a).2.2.2.2.1,(M b a).2.2.2.2.2⟩
  obtain⟨m,hn,_⟩:=J.loc;rw[hL] at hn;exact hend _ _ s' H' q I5 (I3.fpOk (N0 _) fc) ⟨m,hn⟩
 have loop:∀ s',s'=({ s3 with heap:=N,toks:=s2.toks }:Shared)->codeAny (model X.prog X.w) X.A (.compLoop (.ListComp elt [⟨tg,iter,ifs,0⟩] scope pos) 0 (.ref it) (.ref s2.heap.objs.size) X'.env) (compPost (model X.prog X.w) X.A X.xe use QQ (.ref s2.heap.objs.size) s3.heap.objs.size) s':=by
  rintro s' rfl;refine zm (λn s'=>∃ i j H',Inv X' [] j H' s'/\tn i s'.heap/\(∀ b∈fp,H' b=none)/\W i n j H') ?_ m0 ⟨0,_,_,I4,st4,λb a=>(M b a).1,w0⟩;rintro n s5 ⟨i,σ5,H5,I5,st5,fr5,w5⟩;have it5:=T.item X' eP eW eK eC i [] s5 σ5 H5 (λ_ _=>False) I5 (E fr5) st5;have dn5:=T.done X' eP eW eK eC i [] s5 σ5 H5 (λ_ _=>False) I5 (E fr5) st5;rw[eA] at it5 dn5;rcases turn i n σ5 H5 w5 with⟨stop,qn⟩ | ⟨go,step⟩
  ·refine thn (dn5 stop) λr s6 ⟨hr,I6⟩=>?_;subst hr;exact fin I6 qn
  ·refine thn (it5 go) λr s6 ⟨u,hr,h6⟩=>?_;subst hr;refine thn h6 λ_ s7 hh=>?_;obtain⟨x,H7,I7,r7,y7,st7,fr7⟩:=hh;have I7':=I7.pinned (E fr7)<|T.obj _ _ st7;have a7:=hg' _ s7 σ5 H7 x u _ I7' r7<|step x H7 y7;rw[eP,eW,eA,eX] at a7;refine thn a7 λ_ s8 hh=>?_;obtain⟨F,H8,I8,q8⟩:=hh;have G:∀{l:Shared}{D:Hp},Inv X' ([]++V0 fp s7.heap) F D l->(∃ t,t < n/\W (i+1) t F D)->∃ m,m < n/\∃ i j H',Inv X' [] j H' l/\tn i l.heap/\(∀ b∈fp,H' b=none)/\W i m j H':=λ{l D} S ⟨t,hm,w9⟩=>by
    refine⟨t,hm,i+1,F,D,S.unpinned,T.keep _ _ _ st7 λb a o e=>(S.pin (b,o)<|U4 _<|U4 _<|qw a e).1,λb a=>?_,w9⟩;obtain⟨o,e,d⟩:=T.obj _ _ st7 b a;exact(S.pin (b,o)<|U4 _<|U4 _<|qw a e).2.1
   have rest:∀(b:Bool) (l:Shared) (D:Hp),Inv X' ([]++V0 fp s7.heap) F D l->(if b=true then te F D λy H6=>∃ ys,H6 s2.heap.objs.size=some (.lst ys)/\ys.length < sizeLine/\∃ t,t < n/\W (i+1) t F (upd H6 s2.heap.objs.size<|.lst<|ys++[y])
     else ∃ t,t < n/\W (i+1) t F D) ->
     if b=true then wpAny (model X.prog X.w) X.A (eval elt X'.env) (λx s₄=>wpAny (model X.prog X.w) X.A (call (.builtin "list.append") [.ref s2.heap.objs.size,x]) (λ_ s₅=>∃ m,m < n/\∃ i j H',Inv X' [] j H' s₅/\tn i s₅.heap/\(∀ b∈fp,H' b=none)/\W i m j H') (λ_ _=>False) s₄) (λ_ _=>False) l
     else ∃ m,m < n/\∃ i j H',Inv X' [] j H' l/\tn i l.heap/\(∀ b∈fp,H' b=none)/\W i m j H':=λb l D S q9=>by
    cases b with
    | false =>
     rw[if_neg M5] at q9 ⊢;exact G S q9
    | true =>
     rw[if_pos rfl] at q9 ⊢;have a9:=he' _ l F D _ S q9;rw[eP,eW,eA,eX] at a9;refine thn a9 λyv s10 hh=>?_;obtain⟨y,H10,I10,r10,ys,e10,l10,q10⟩:=hh;have a10:=YF _ s10 F H10 (.ref s2.heap.objs.size) [y] (.ref s2.heap.objs.size) [yv] (λ_ H'=>∃ t,t < n/\W (i+1) t F H') I10 rfl (.cons r10 .nil) ⟨_,ys,y,rfl,rfl,e10,l10,q10⟩;rw[eP,eW,eA,eX] at a10;exact thn a10 λ_ s11 ⟨_,H11,I11,_,q11⟩=>G I11 q11
   rcases R with⟨e1,e2⟩ | ⟨c,e1,e2⟩
   ·subst e1;rw[e2] at q8;exact wpAny_tests_nil<|rest true s8 H8 I8 q8
   ·subst e1;have a8:=e2 _ s8 F H8 _ I8 q8;rw[eP,eW,eA,eX] at a8;exact wpAny_tests_one<|thn a8 λb l ⟨D,S,q9⟩=>rest b l D S q9
 have U:codeAny (model X.prog X.w) X.A (.compStart (.ListComp elt [⟨tg,iter,ifs,0⟩] scope pos) 0 (.ref it) (.ref s2.heap.objs.size) X'.env) (compPost (model X.prog X.w) X.A X.xe use QQ (.ref s2.heap.objs.size) s3.heap.objs.size) { s3 with heap:=N,toks:=s2.toks } :=
  codeAny_compStart_list (loop _ rfl) (T.self _ 0 _ _ _ st4<|loop _ rfl)
 rw[eE] at U;subst hs3;exact U
def xV(B:BlockOk X scope N' ix)(d:X.calm=true)(hi:PI X tg iter wi)
  (e:∀ C s H fp,PG (jQ X scope N' C s H fp) tg g) (a:∀ C s H fp,PIf (jQ X scope N' C s H fp) ifs tc) (i:∀ C s H fp,PE (jQ X scope N' C s H fp) elt te)
  (j:∀ x,foldedSetIterable iter X.env x=pure x:=by intro _;rfl):PE X (.ListComp elt [⟨tg,iter,ifs,0⟩] scope pos) (Vv wi g tc te ix):=by
 intro c s σ H Q I h;rw[eval_ListComp];exact Jh (use:=none) (Q:=λp b=>Q (.ref p) b) B d hi e a i j I h λp C o b q k f ⟨m,l⟩=>⟨m,l,λr n=>⟨.ref p,b,k.other f n,rfl,q⟩⟩
def uK(B:BlockOk X scope N' ix)(E:X.calm=true)(hi:PI X tg iter wi)
  (F:∀ C s H fp,PG (jQ X scope N' C s H fp) tg g) (d:∀ C s H fp,PIf (jQ X scope N' C s H fp) ifs tc) (G:∀ C s H fp,PE (jQ X scope N' C s H fp) elt te)
  (J:X.N.Nodup) (j:X.N[i]?=some x) (K:Loc X.env.scope x)
  (k:swapsWith (.ListComp elt [⟨tg,iter,ifs,0⟩] scope pos) (some<|.Name x pos') spos.line X.env=pure true)
  (L:∀ x,foldedSetIterable iter X.env x=pure x:=by intro _;rfl)
  (M:X.fn x=true \/ X.env.scope.names.lookup x=some .local:=by first | exact .inl rfl | exact .inr rfl | assumption) :
  PS X (.Assign [.Name x pos'] (.ListComp elt [⟨tg,iter,ifs,0⟩] scope pos) spos) (jfl (Vv wi g tc te ix)<|v5 i):=by
 intro a s σ H D I h;rw[exec_Assign_Name_used _ _ _ _ k];refine L4<|wpAny_standAt<|L4 ?_;show wpAny _ X.A (do let _ <- comprehension (.ListComp elt [⟨tg,iter,ifs,0⟩] scope pos) scope X.env _ (newList []) false (eval iter X.env) (some<|assign (.Name x pos') X.env)) _ _ s;refine L4<|thn (Jh (use:=some<|assign (.Name x pos') X.env) (QQ:=λ_ b=>SP X a D .next b) (Q:=λp c=>D.nx (σ.set i<|some<|.ref p) c) B E hi F d G L I h λp C b c q r f ⟨m,O⟩=>?_) λ_ b P=>M8<|M8 P;obtain⟨o,R,S,T,t⟩:=id O;have hd:∀ v,o.data≠.cell v:=λv z=>by
  obtain⟨l,_⟩:=t;rw[l] at z;cases z
 have U:Inv X (a++[(C,o)]) σ c b:=r.pins_of λu n=>by
  rcases N3.mp n with z | z
  ·exact r.pin u<|U4 _ z
  ·have e:u=(C,o):=by simpa using z
   subst e;exact⟨T,f.1,f.2.1,f.2.2.1,hd⟩
 refine wpAny_assign_Name<|Yd U J j K (v:=.ref p) rfl (λs2 w=>?_) M;have y:=w.pin (C,o)<|U4 _<|U4 _<|M9.mpr rfl;refine⟨m,⟨o,R,S,y.1,t⟩,λW V=>⟨_,c,(w.unpinned).other ⟨y.2.1,f.2⟩ V,q⟩⟩
noncomputable def S(l:List Nat):Str:=⟨l.toArray⟩
def qL(l:List Nat):(S l).cps.toList=l:=by simp[S]
def YT(l:List Nat):(S l).length=l.length:=by simp[S,Str.length]
def jkM(h:S a=S b):a=b:=by
 rw[<- qL a,<- qL b,h]
def jmB(a b:List Nat):(S a=S b)=(a=b):=propext ⟨jkM,λh=>by rw[h]⟩
def jl3(a b:List Nat):S a++S b=S (a++b):=by
 apply PyProof.Rows.ext_toList;rw[PySem.W.KT.app_list,qL,qL,qL]
def jhV(c:Nat):(⟨#[c]⟩:Str)=S [c]:=rfl
def j9{α:Type}(xs:List α)(lo hi:Option Int):List α:=(xs.drop<|HT.sIx xs.length 0 lo).take (HT.sIx xs.length xs.length hi - HT.sIx xs.length 0 lo)
def jgF(xs:List α)(k:Nat):j9 xs none (some (k:Int))=xs.take k:=by
 unfold j9;rw[HT.sIx_none,HT.sIx_nat];simp[List.take_eq_take_iff]
def ja1(lo hi:Option Int)(n:Nat):Builtin.Str.strSliceIndices lo hi 1 n=(List.range<|HT.sIx n n hi - HT.sIx n 0 lo).map (HT.sIx n 0 lo+·):=by
 have a:∀(o:Option Int) (d:Nat),(match o with | none=>(d:Int) | some i=>(let i:=if i < 0 then i+(n:Int) else i;if(1:Int) > 0 then max 0 (min i n) else max (-1) (min i<|n - 1)))=((HT.sIx n d o:Nat):Int):=by
  intro o d;cases o with
  | none=>rfl
  | some v =>
   show(if(1:Int) > 0 then max 0 (min (if v < 0 then v+(n:Int) else v) n) else _)=(((if v < 0 then(v+(n:Int)).toNat else min v.toNat n):Nat):Int);rw[if_pos<|by decide];by_cases b:v < 0
   ·rw[if_pos b,if_pos b];lia
   ·rw[if_neg b,if_neg b];lia
 rw[<- sliceRange_one,<- a lo 0,<- a hi n];rfl
def jid(l:List Nat)(lo hi:Option Int):Txt.slice (S l) lo hi=S (j9 l lo hi):=by
 have i:HT.sIx l.length l.length hi<=l.length:=HT.sIx_le _ _ (N0 _) _;have j:HT.sIx l.length 0 lo<=l.length:=HT.sIx_le _ _ (U6 _) _;have e:(Builtin.Str.strSliceIndices lo hi 1 (S l).length).filterMap ((S l).cps[·]?)=j9 l lo hi:=by
  rw[YT,ja1];have h:=StrLaws.picks l (HT.sIx l.length l.length hi - HT.sIx l.length 0 lo)<|HT.sIx l.length 0 lo;by_cases c:HT.sIx l.length 0 lo<=HT.sIx l.length l.length hi
  ·have d:=h (by lia);unfold j9;rw[<- d];simp[S]
  ·have z:HT.sIx l.length l.length hi - HT.sIx l.length 0 lo=0:=by lia
   unfold j9;rw[z];simp
 unfold Txt.slice;split
 ·rename_i b;have f:(Builtin.Str.strSliceIndices lo hi 1 (S l).length).length=(S l).length:=by
   simp only[beq_self_eq_true,Bool.true_and] at b;exact beq_iff_eq.mp b
  rw[YT,ja1,L3,List.length_range] at f;unfold j9;by_cases a:l.length=0
  ·have:l=[]:=List.length_eq_zero_iff.mp a;subst this;simp
  ·have g:HT.sIx l.length 0 lo=0:=by lia
   rw[g,List.drop_zero,List.take_of_length_le<|by lia]
 ·rw[e];rfl
def jnl:V->Option Int->Option Int->Hp->VK->Prop:=λx lo hi H Q=>∃ l,x=.str (S l)/\l.length<=sizeLine/\Q (.str<|S<|j9 l lo hi) H
def jfE(p:IsPart v o):∃ q:Option (Int×Tok),v=partValue q/\q.map (·.1)=o:=by
 cases p with
 | none=>exact⟨none,rfl,rfl⟩
 | int i t=>exact⟨some (i,t),rfl,rfl⟩
def jj4:SlR X jnl:=by
 intro a s σ H x v n o lo hi p Q I rx e pl f h;obtain⟨l,rfl,g,q⟩:=h;obtain⟨t,rfl⟩:=rx;obtain⟨b,rfl,i⟩:=jfE pl;obtain⟨c,rfl,j⟩:=jfE f;refine⟨"str",_,F.slot_str_getitem.lookup,typeIs_str _ _ _,wpAny_getItem_str_slice (l:=b) (u:=c) (st:=none) e rfl ?_⟩;have m:Txt.slice (S l) lo hi=S (j9 l lo hi):=jid l lo hi;have key:∀ d k,EP X a σ Q (.str (Txt.slice (S l) lo hi) d) { s with toks:=k }:=λd k=>by
  rw[m];exact⟨.str<|S<|j9 l lo hi,H,I.tok k,⟨d,rfl⟩,q⟩
 have e2:sliceMade (S l) t b c none=(if((1:Int)==1&&(Builtin.Str.strSliceIndices lo hi 1 (S l).length).length==(S l).length)=true then Made.val (.str (S l) t) else Made.str ⟨((Builtin.Str.strSliceIndices lo hi 1 (S l).length).filterMap ((S l).cps[·]?)).toArray⟩):=by
  unfold sliceMade slicePicked;rw[i,j];rfl
 rw[e2];refine post_val_or_str ⟨?_,λd k=>key d k⟩;exact N8 (Txt.slice_le (S l) lo hi) (by rw[YT];exact g)
def Its(l:List Nat):It:=⟨λi _=>i < l.length,λi H x H'=>H'=H/\∃ c,l[i]?=some c/\x=.str (S [c]),λi _=>l.length<=i⟩
def jeV{tg:Expr}{P:Program}{w:World}{K:W4}(a:Addr)(l:List Nat)(t:Tok)(ty:String)(m:ty = "str_ascii_iterator" \/ ty = "str_iterator")
  (W:∀ A:Around,A.handled=none->Walks P w A a [a] [a] (S l).cps.size (SignAt<|S l) (λi h=>h.IsStrIter a ty (S l) t i)):Turn P w K tg (Its l) [a] a (λi h=>h.IsStrIter a ty (S l) t i) where
 mem:=by simp
 obj:=λi h f b g=>by
  have e:b=a:=by simpa using g
  subst e;obtain⟨o,e,c,d⟩:=f;exact⟨o,e,λv z=>by rw[d] at z;cases z⟩
 keep:=λi h n f k=>by
  obtain⟨o,e,r⟩:=f;exact⟨o,k a (by simp) o e,r⟩
 item:=by
  intro X G J L q i j s σ H E I x f M;subst G J L;obtain⟨y,B,U,C,D,F⟩:=x a (by simp);have V:=W X.A<|I.ok.hd q;have N:(S l).cps.size=l.length:=by simp[S]
  refine V.item i s _ _ (by rw[N];exact M) f λv n R Y p Z=>?_;obtain⟨c,u,O,rfl⟩:=Y;have I1:Inv X j σ H { s with heap:=n,toks:=R }:=I.turned (λb o g e=>Z b o (by simpa using g) e) y B C D F;obtain⟨o,e,ct,d⟩:=id p;refine⟨_,rfl,jeZ (s:={ s with heap:=n,toks:=R }) e ct d (by rcases m with z | z<;>subst z<;>decide) ⟨.str<|S [c],H,I1,⟨u,rfl⟩,⟨rfl,c,by simpa [S] using O,rfl⟩,p,λb g=>(x b g).1⟩⟩
 done:=by
  intro X G J L q i j s σ H E I x f M;subst G J L;obtain⟨y,B,U,C,D,F⟩:=x a (by simp);have T:(S l).cps[i]?=none:=by
   have:l.length<=i:=M;simp[S,this]
  rcases m with z | z
  ·subst z;exact wpAny_pyNext_ascii_end (I.ok.hd q) f T λn Q=>⟨rfl,I.turned (t':=s.toks) (λb o g e=>Q b o g e) y B C D F⟩
  ·subst z;exact wpAny_pyNext_wide_end (I.ok.hd q) f T λn Q=>⟨rfl,I.turned (t':=s.toks) (λb o g e=>Q b o g e) y B C D F⟩
 self:=λ_ _ _ _ _ f h=>by
  rcases m with z | z
  ·subst z;exact wpAny_pyIter_striter_ascii f h
  ·subst z;exact wpAny_pyIter_striter_wide f h
def jjJ:OpR X (compareOp .In) (λx y H Q=>∃ c l,x=.str (S [c])/\y=.str (S l)/\Q (.bl<|decide<|c∈l) H):=by
 intro a s σ H x y v u Q I rx b h;obtain⟨c,l,rfl,rfl,q⟩:=h;refine jbQ a s σ H _ _ v u Q I rx b ⟨_,_,rfl,rfl,?_⟩;rw[<- jhV,StrLaws.found_one,qL];exact q
def jcZ:OpR X (compareOp .NotIn) (λx y H Q=>∃ c l,x=.str (S [c])/\y=.str (S l)/\Q (.bl<|!decide (c∈l)) H):=by
 intro a s σ H x y v u Q I rx b h;obtain⟨c,l,rfl,rfl,q⟩:=h;refine Q9 a s σ H _ _ v u Q I rx b ⟨_,_,rfl,rfl,?_⟩;rw[<- jhV,StrLaws.found_one,qL];exact q
def jgK:OpR X (binaryOp .Add) (λx y H Q=>∃ a b,x=.str (S a)/\y=.str (S b)/\a.length+b.length<=sizeLine/\Q (.str<|S<|a++b) H):=by
 intro c s σ H x y v u Q I rx d h;obtain⟨a,b,rfl,rfl,e,q⟩:=h;refine jaD c s σ H _ _ v u Q I rx d ⟨_,_,rfl,rfl,by rw[YT,YT];exact e,?_⟩;rw[jl3];exact q
def jhA:OpR X (binaryOp .Mult) (rI (λi j=>Builtin.Int.intBits i<=2 ^ 20/\Builtin.Int.intBits j<=2 ^ 20) λi j=>.int<|i*j):=opI λ_ _ _ _ _ _ _ a q=>mul_int q<|IntMulOk.of_bits a.1 a.2
def uF(h:i.natAbs < 2 ^ m)(a:m<=2 ^ 20):Builtin.Int.intBits i<=2 ^ 20:=N8 (PySem.intBits_le_iff.mpr h) a
def SqX(K:W4)(H:Hp)(a:Addr)(xs:List V):Prop :=
 Rd H a (.lst xs) \/ ∃(its:Array Value) (n:Nat),K.lookup a=some { cls:=.type "list",data:=.seq its n }/\its.size<=sizeLine/\Vals xs its.toList
def SqX.sq{K:W4}{H:Hp}{a:Addr}{xs:List V}(h:SqX K H a xs):SqL K H a xs:=by
 rcases h with h | ⟨b,n,c,d,r⟩
 ·exact .inl h
 ·exact .inr ⟨_,b,n,c,rfl,rfl,rfl,d,r⟩
def SqX.of{K:W4}{H:Hp}{a:Addr}{xs:List V}(h:H a=some (.lst xs)):SqX K H a xs:=.inl<|.inl h
def Inv.listX(I:Inv X pins σ H s)(h:SqX X.K H a xs):∃(its:List Value) (n:Nat),Vals xs its/\s.heap.get? a=some { cls:=.type "list",data:=.seq its.toArray n }/\xs.length<=sizeLine:=by
 rcases h with h | ⟨its,n,b,c,r⟩
 ·obtain⟨z,its,n,r,e⟩:=h.ok I.hok;exact⟨its,n,r,e,z⟩
 ·refine⟨its.toList,n,r,by simpa using I.kIn a _ b,?_⟩;have e:=r.length;simp only[Array.length_toList] at e
  lia
def jjq(K:W4):R2:=λx y H Q=>∃ l b xs zs,x=.ref l/\y=.ref b/\SqX K H l xs/\SqX K H b zs/\xs.length+zs.length<=sizeLine/\∀ p,H p=none->Q (.ref p) (upd H p<|.lst<|xs++zs)
def jgj:OpR X (binaryOp .Add) (jjq X.K):=by
 intro d s σ H x y v u Q I rx f h;obtain⟨l,b,k,zs,rfl,rfl,g,i,m,q⟩:=h;cases rx;cases f;obtain⟨c,n,r,e,_⟩:=I.listX g;obtain⟨a,o,r2,e2,_⟩:=I.listX i;have p:=r.length;have j:=r2.length;refine PySem.P.add_list e e2 ?_ (by rw[N4,N4];lia);have ea:c.toArray++a.toArray=(c++a).toArray:=by simp
 rw[ea];exact⟨.ref _,_,I.lnew (t':=s.toks) (r.append r2)<|by rw[N5];lia,rfl,q _ I.fresh⟩
def zR{ns:List Int}(h:PySem.W.WData.layableAll [PySem.W.WData.list<|ns.map PySem.W.WData.int]=true):∀ x∈ns,Builtin.Int.intBits x<=2 ^ 20:=by
 intro x b;have c:(PySem.W.WData.list<|ns.map PySem.W.WData.int).layable=true:=(PySem.W.layW_cons h).1;have e:PySem.W.ofPy (.list<|ns.map .int)=PySem.W.WData.list (ns.map PySem.W.WData.int):=by
  have f:∀ ms:List Int,PySem.W.ofPys (ms.map PyData.int)=ms.map PySem.W.WData.int:=by
   intro ms
   induction ms with
   | nil=>rfl
   | cons m ms g=>simp[PySem.W.ofPys,PySem.W.ofPy,g]
  simp[PySem.W.ofPy,f]
 have a:=PySem.W.lay0_ofPy (s:=.list .int) (d:=.list<|ns.map .int) rfl (by simp[Shape.has]) (by rw[e];exact c);have i:PyData.layable0 (.list<|ns.map .int)=true:=by
  simp[PyData.layableAll0] at a;exact a
 exact PyData.bits_item_of_ints i b
def walk_ofB{l:PySem.W.OpenLaw}{n k:Nat}{j:List Str}{R:(Str->Option Value)->Heap->Prop}{M:World->Heap->Prop}{d:DefRec}{K:Params->PySem.W.Frag}{CX:World->CXT}{sp:World->Sp} 
  (S:l.most=some n) (A:n<=sizeLine) (B:d.params.defaults=[]) (U:Room k callerA)
  (X:∀(w:World) (h:Heap),M w h->(K w.params).In h)
  (F:∀(w:World) (mg:W6) (fa:Addr) (h:Heap),(K w.params).In h->h.Ns mainGlobals mg->mg d.name=some (.ref fa) ->
   ∃ fd:FuncData,(∀(s:Shared) (u:Value),BindsTo s fd ⟨[u],[]⟩ [(x,u)]) /\
    ∀ base:Heap,(K w.params).In base->base.Ns mainGlobals mg->FnOk l.prog w (K w.params) mg base (CX w) k fa fd [x] (sp w))
  (C:∀(w:World) (H:Hp) (a:Addr) (ns:List Int),ns.length<=n->(∀ x∈ns,Builtin.Int.intBits x<=2 ^ 20)->jmi H->SqX (K w.params) H a (ns.map V.int)->sp w [.ref a] H (λv _=>v=.bl true) λ_ _ _=>False)
  (D:∀(w:World) (H:Hp) (s:Shared) (e:Value) (s':Shared),CX w [] H s (λ_ _ _=>False) e s'->False) :
  PySem.W.WalkO q j R M l.row.toRowW d [] (λf vs=>PySem.call f vs):=by
 intro w s₀ Z mg mb G Y fa o pm cd doc dV kV ho hd hcd N E hg O P as y z hrd I hlo;obtain rfl:dV=.none:=PySem.W.Dflts.none N B;obtain rfl:kV=.none:=PySem.W.Dflts.noKw N;obtain⟨a,vs,ns,rfl,rfl,c,p,i⟩:=Att.script_of S y I;have t:=zR z;have J:=X w _ Y;obtain⟨fd,hb,hF⟩:=F w mg fa _ J G.T.g E;refine PySem.W.enter_call<|codeAny_mono (jel J G.T.g G.T.b G.T.builtins G.T.nolimit hg c p (N8 i A) U hF hb (λH hO hS=>C w H a ns i t hO ?_) λH e s'=>D w H Z e s') λr s' hq=>?_
 ·rcases hS with h | ⟨o,its,m,Q,_,_,L,hz,r⟩
  ·exact .inl h
  ·have e:=J a o Q;rw[c] at e;cases e;cases L;exact .inr ⟨_,_,Q,hz,r⟩
 ·obtain⟨rfl,h2,h3,h4⟩:=hq;exact⟨.inl ⟨.bool true,.bool true,[],rfl,λ_=>rfl,.bool true,Att.post_true l _,λ_=>⟨List.Pairwise.nil,λ_ hm=>(nomatch hm)⟩⟩,h2,h3,h4⟩
noncomputable def Km(sc:Scope)(N:List Str)(scope:Scope)(N':List Str)(ix:List<|Option Nat):Bool :=
 decide (scope.kind=.function)&&decide (sc.kind=.function)&&scope.names.all (λy=>!decide (y.2=.cell)||decide (scope.names.lookup y.1=some .cell))&&scope.names.all (λy=>!decide (y.2=.local)||decide (scope.names.lookup y.1=some .local)) &&
 scope.names.all (λy=>!decide (y.2=.free)||(decide (scope.names.lookup y.1=some .free)&&(decide (sc.names.lookup y.1=some .cell)||decide (sc.names.lookup y.1=some .free))))&&decide N'.Nodup&&decide (ix.length=N'.length) &&
 (List.range ix.length).all (λi=>match ix[i]? with | some (some j)=>(match N'[i]? with | some x=>decide (N[j]?=some x)&&decide ((x,NameKind.free)∈scope.names) | none=>true) | _=>true)
def jg7{X:Cx}{scope:Scope}{N':List Str}{ix:List (Option Nat)}(sc:Scope)(N:List Str)(h1:X.env.scope=sc)(h2:X.N=N)(h:Km sc N scope N' ix=true):BlockOk X scope N' ix:=by
 subst h1;subst h2;unfold Km at h;simp only[M3,decide_eq_true_eq,List.all_eq_true,Bool.or_eq_true,Bool.not_eq_true',decide_eq_false_iff_not] at h;obtain⟨⟨⟨⟨⟨⟨⟨c,d⟩,f⟩,g⟩,b⟩,k⟩,l⟩,m⟩:=h;refine⟨c,λy a e=>?_,λy a e=>?_,λy a e=>?_,λy a e=>?_,k,l,λi j x h1 h2=>?_,d⟩
 ·exact(g y a).elim (λz=>absurd e z) id
 ·exact(f y a).elim (λz=>absurd e z) id
 ·exact(b y a).elim (λz=>absurd e z) λz=>z.1
 ·exact(b y a).elim (λz=>absurd e z) λz=>z.2
 ·have hi:i < ix.length:=(M0.mp h1).1;have z:=m i<|List.mem_range.mpr hi;rw[h1] at z;dsimp only at z;rw[h2] at z;dsimp only at z;simp only[M3,decide_eq_true_eq] at z;exact z
structure FnFact(K:W4)(mg:W6)(x qual:Str)(st:Stmt)(f:Addr)(fd:FuncData)(ps:List Str):Prop where
 fn:Fun K x qual st f fd
 mgf:mg x=some (.ref f)
 bd:Binds K fd ps []
section
variable {X:Cx}{k:Nat}{f:Addr}{fd:FuncData}{ps:List Str}{sp:Sp}{x qual:Str}{st:Stmt}{p pos:Pos}{e:Expr}{es:List Expr}{t:TA}
def jkr(F:FnFact X.K X.mg x qual st f fd ps)(G:FnOk X.prog X.w X.K X.mg X.base CX0 k f fd ps sp)(c:Room k X.A)(d:PA X (e::es) t)(g:Gl X x:=by rfl)(a:(x==("__debug__" : Str))=false:=by decide)
  (h:starEach (e::es) X.env=(false,eval e X.env)::starEach es X.env:=by rfl) (b:(backTo pos<|starEach es X.env).any (·.1)=false:=by rfl):PE X (.Call (.Name x p) (e::es) [] pos) (xj sp [] E0 t) :=
 jgI G c g F.mgf F.fn.kp F.bd .nil jdH d a h b
end
def jhz:OpR X (binaryOp .Mult) (λx y H Q=>∃(a:List Nat) (n:Int),x=.str (S a)/\y=.int n/\a.length<=1000/\0<=n/\n<=1000/\Q (.str<|S (List.replicate n.toNat a).flatten) H):=by
 intro f s σ H x y v u Q I rx g h;obtain⟨a,n,rfl,rfl,i,A,j,q⟩:=h;obtain⟨k,rfl⟩:∃ k:Nat,n=(k:Int):=⟨n.toNat,by lia⟩;have l:k<=1000:=by lia
 rw[N9] at q;obtain⟨t,rfl⟩:=rx;obtain⟨m,rfl⟩:=g;have o:a.length*k<=1000*1000:=Nat.mul_le_mul i l;have hok:MulOk (S a) (k:Int):=by
  refine⟨by simp;lia,λd c=>?_,λd c=>?_⟩
  ·rw[YT];have p:(1:Int)<=k:=by lia
   have B:(1000:Int)<=(2 ^ 63 - 1) / (k:Int):=by
    rw[Int.le_ediv_iff_mul_le<|by lia];have:(1000:Int)*k<=1000*1000:=by lia
    lia
   lia
  ·rw[YT,N9];unfold Builtin.Str.tooLong;have p:a.length*k<=sizeLine:=N8 o (by decide);exact X9 (by lia)
 have e:Txt.mul (S a) (k:Int)=S (List.replicate k a).flatten:=by
  have r:∀(n:Nat) (b:Array Nat),((List.replicate n a.toArray).foldl (·++·) b).toList=b.toList++(List.replicate n a).flatten:=by
   intro n
   induction n with
   | zero=>intro b;simp
   | succ n w=>intro b;rw[List.replicate_succ,X7,w];simp[List.replicate_succ]
  unfold Txt.mul;apply PyProof.Rows.ext_toList;rw[qL];by_cases d:(k:Int) < 1
  ·have:k=0:=by lia
   subst this;simp[Str.empty]
  ·rw[if_neg d];by_cases c:((k:Int)==1||(S a).length==0)=true
   ·rw[if_pos c,qL];rw[YT] at c;simp at c;rcases c with z | z
    ·have:k=1:=by lia
     subst this;simp
    ·subst z;simp
   ·rw[if_neg c,N9];have z:=r k #[];simp only[E3] at z;exact z
 refine SB.mul hok λm C=>?_;rw[e];exact⟨.str _,H,I.tok _,⟨_,rfl⟩,q⟩
section
variable {X:Cx}{pins:List (Addr×Obj)}{σ:St}{H:Hp}{s:Shared}{h':Heap}
def Inv.turnedNew{t':Nat}{wr:W5}{T:Addr}{xs:List V}{its:Array Value}(I:Inv X pins σ H s)(k:∀ b o,b∉wr->s.heap.get? b=some o->h'.get? b=some o)(g:∀ b∈wr,jat X pins H b)
  (h:s.heap.objs.size<=T) (j:IsTupN h' T its) (l:Vals xs its.toList) (hz:xs.length<=sizeLine):Inv X pins σ (upd H T<|.tup xs) { s with heap:=h',toks:=t' }:=by
 have p:=I.hok.fresh h;have i:∀ b u,H b=some u->b∉wr:=λb u e z=>by rw[(g b z).1] at e;cases e
 have d:∀ b u,H b=some u->b≠T:=λb u e z=>by rw[z,p] at e;cases e
 refine I.step (g':=s.gens) (d':=s.drawn) (ch:=wr) (λb f=>?_) (λb o _ _ a e _=>k b o a e) (λb o _ _ a e _=>⟨o.slots,k b o a e⟩) (λb o _ e n=>?_)
  (λb o a e=>⟨o,k b o a e⟩) (λb t e=>by rw[jg<|d b _ e];exact e) (λb o u e=>by rw[jg<|d b _ e];exact e) (λb F e=>⟨#[],by rw[jg<|d b _ e,e];simp⟩) (λm w=>?_) (λb u e=>?_) I.bare
 ·obtain⟨_,x,_,y,A,B⟩:=g b f;exact⟨y,x,A,B⟩
 ·rw[jg<|λz=>absurd (N2 e)<|by rw[z];exact Nat.not_lt.mpr h];exact n
 ·obtain⟨o,C,D,E,r⟩:=w;refine⟨o,C,D,k _ o (λz=>(g _ z).2.1 rfl) E,r⟩
 ·by_cases f:b=T
  ·subst f;rw[jr] at e;cases e;exact⟨hz,its.toList,l,by simpa using j⟩
  ·rw[jg f] at e;refine(I.hok b u e).stay (λc v a q=>k c v ?_ q) (λc q=>by rw[jg<|d c _ q];exact q) λc t q=>by rw[jg<|d c _ q];exact q
   rcases a with z | z
   ·rw[z];exact i b u e
   ·exact i c _ z
def Inv.turnedL{t':Nat}{wr:W5}(I:Inv X pins σ H s)(k:∀ b o,b∉wr->s.heap.get? b=some o->h'.get? b=some o)(d:∀ b∈wr,jat X pins H b):Inv X pins σ H { s with heap:=h',toks:=t' }:=by
 have f:∀ b u,H b=some u->b∉wr:=λb u e z=>by rw[(d b z).1] at e;cases e
 refine I.step (g':=s.gens) (d':=s.drawn) (ch:=wr) (λb g=>?_) (λb o _ _ a e _=>k b o a e) (λb o _ _ a e _=>⟨o.slots,k b o a e⟩) (λb o _ e n=>n)
  (λb o a e=>⟨o,k b o a e⟩) (λb y e=>e) (λb o u e=>e) (λb A e=>⟨#[],by rw[e];simp⟩) (λm h=>?_) (λb u e=>?_) I.bare
 ·obtain⟨_,i,_,j,l,p⟩:=d b g;exact⟨j,i,l,p⟩
 ·obtain⟨o,t,w,x,r⟩:=h;refine⟨o,t,w,k _ o (λz=>(d _ z).2.1 rfl) x,r⟩
 ·refine(I.hok b u e).stay (λc v a q=>k c v ?_ q) (λ_ q=>q) λ_ _ q=>q;rcases a with z | z
  ·rw[z];exact f b u e
  ·exact f c _ z
end
def Ite(K:W4)(l:Addr):It :=
 ⟨λi H=>∃ xs x,SqL K H l xs/\xs[i]?=some x,λi H x H'=>∃ p v,(∀ xs,SqL K H l xs->xs[i]?=some v)/\x=.ref p/\H p=none/\H'=upd H p (.tup [.int i,v]),λi H=>∃ xs,SqL K H l xs/\xs.length<=i⟩
def jbd{P:Program}{w:World}{K:W4}{r:List Expr}{n:Nat}{pos:Pos}(e a l:Addr)(t:e≠a)(hle:l≠e)(hli:l≠a) :
  Turn P w K (.Tuple r n pos) (Ite K l) [e,a] e (λi h=>(∃ old,IsEnum h e a i old)/\h.IsListIter a l i) where
 mem:=by simp
 obj:=λi h d b f=>by
  obtain⟨⟨old,g⟩,o,J,L,hd⟩:=d;rcases(by simpa using f:b=e \/ b=a) with z | z
  ·subst z;exact⟨_,g,λv q=>by cases q⟩
  ·subst z;exact⟨o,J,λv q=>by rw[hd] at q;cases q⟩
 keep:=λi h h' d k=>by
  obtain⟨⟨old,g⟩,hit⟩:=d;exact⟨⟨old,k e (by simp) _ g⟩,hit.at λo q=>k a (by simp) o q⟩
 item:=by
  intro X M N O L i y s σ H E I D d Q;subst M N O;obtain⟨Z,x,F,R⟩:=Q;obtain⟨A,S,p,hz⟩:=I.list F;obtain⟨u,hu,ru⟩:=S.get R;obtain⟨⟨old,g⟩,hit⟩:=d;refine wpAny_pyNext_enum_item g hit p.isList (x:=u) (by simpa using hu) t λU J B hT hsz hk=>?_;refine⟨_,rfl,wpAny_letOwnedTupleGo_enum (s:={ s with heap:=U,toks:=s.toks+1 }) J λG V c=>?_⟩;replace c:Heap.SameBut e U G:=c;have j:e < s.heap.objs.size:=N2 g;have C:G.get? s.heap.objs.size=_:=(c.2 _<|Nat.ne_of_gt j).trans hT;have kk:∀ b o,b∉[e,a]->s.heap.get? b=some o->G.get? b=some o:=λb o f q=>by
   have m:b≠e/\b≠a:=by simpa using f
   exact(c.2 b m.1).trans (hk b o m.1 m.2 q)
  have I1:=I.turnedNew (h':=G) (t':=s.toks+1) (wr:=[e,a]) (T:=s.heap.objs.size) (xs:=[.int i,x]) (its:=#[.int i s.toks,u]) kk D (N0 _) ⟨⟨_,C,rfl,_,rfl⟩,_,C,rfl⟩ (.cons ⟨_,rfl⟩<|.cons ru .nil) (by show 2<=sizeLine;decide);refine⟨.ref s.heap.objs.size,_,I1,rfl,⟨_,x,(λys hy=>by rw[I.list_inj hy F];exact R),rfl,I.hok.fresh<|N0 _,rfl⟩,⟨⟨_,by simpa using V⟩,B.at λo q=>(c.2 a t.symm).trans q⟩,λb f=>?_⟩;rw[jg]
  ·exact(D b f).1
  ·intro z;have:b < s.heap.objs.size:=by
    obtain⟨oi,Y,_⟩:=id hit;rcases(by simpa using f:b=e \/ b=a) with q | q
    ·rw[q];exact j
    ·rw[q];exact N2 Y
   exact absurd this (by rw[z];exact Nat.lt_irrefl _)
 done:=by
  intro X M N O L i y s σ H E I D d Q;subst M N O;obtain⟨Z,F,R⟩:=Q;obtain⟨A,S,p,hz⟩:=I.list F;obtain⟨⟨old,g⟩,hit⟩:=d;have hl:=S.length;exact wpAny_pyNext_enum_end (I.ok.hd L) g hit p.isList (by simp;lia) λU eb=>⟨rfl,I.turnedL (t':=s.toks) (wr:=[e,a]) (λb o f q=>eb b o (by simp at f;exact f.2) q) D⟩
 self:=λ_ _ _ _ _ d h=>wpAny_pyIter_enum d.1.choose_spec h
def jg8(K:W4)(tl:TA):TI:=λσ H R=>tl σ H λvs H1=>∃ a xs,vs=[.ref a]/\SqL K H1 a xs/\R (Ite K a) H1
section
variable {X:Cx}
def jgz{d:List Expr}{n:Nat}{tpos p pos:Pos}{a:Expr}{ta:TA}(r:Gl X "enumerate")(t:X.mg "enumerate" = none)(v:PA X [a] ta)(w:starEach [a] X.env=[(false,eval a X.env)]:=by rfl) :
  PI X (.Tuple d n tpos) (.Call (.Name "enumerate" p) [a] [] pos) (jg8 X.K ta):=by
 intro c s σ H R I h;refine Call_<|Je I r t (show bootBuiltins "enumerate" = some (.type "enumerate") by decide +kernel)<|PyProof.Rows.callWith_type1 (thn (v pos c s σ H _ I h) λG s1 ⟨J,j,i,r1,x⟩=>?_) w rfl;obtain⟨l,L,rfl,y,q⟩:=x;obtain⟨u,rfl,A⟩:=r1.one;cases A;obtain⟨B,M,pl,N⟩:=i.list y;have f:l < s1.heap.objs.size:=by
  obtain⟨o,_,e,_⟩:=pl;exact N2 e
 refine call_enumerate_list pl.isList λk m hit C D=>?_;have E:Inv X c σ j { s1 with heap:=k }:=i.kept (t':=s1.toks) D;refine PySem.wpAny_pyIter_enum (s:={ s1 with heap:=k }) m ?_;refine⟨s1.heap.objs.size+1,[s1.heap.objs.size+1,s1.heap.objs.size],_,_,j,rfl,E,jbd _ _ l (Nat.succ_ne_self _) (N7<|Nat.lt_succ_of_lt f)<|N7 f,⟨⟨_,m⟩,hit⟩,λb F=>?_,q⟩;have g:s1.heap.objs.size<=b:=by
  rcases(by simpa using F:b=s1.heap.objs.size+1 \/ b=s1.heap.objs.size) with z | z
  ·rw[z];exact Nat.le_succ _
  ·rw[z];exact N0 _
 exact i.fpOk g<|i.hok.fresh g
end
def Itz(K:W4)(l1 l2:Addr):It :=
 ⟨λi H=>∃ xs ys x y,SqL K H l1 xs/\SqL K H l2 ys/\xs[i]?=some x/\ys[i]?=some y,λi H x H'=>∃ p u v,(∀ xs,SqL K H l1 xs->xs[i]?=some u)/\(∀ ys,SqL K H l2 ys->ys[i]?=some v)/\x=.ref p/\H p=none/\H'=upd H p (.tup [u,v]),
  λi H=>∃ xs ys,SqL K H l1 xs/\SqL K H l2 ys/\min xs.length ys.length<=i⟩
def jdI{P:Program}{w:World}{K:W4}{N:List Expr}{n:Nat}{pos:Pos}(z TI TO g j l1 l2:Addr)(D:ZipApart z TI TO g j l1 l2) :
  Turn P w K (.Tuple N n pos) (Itz K l1 l2) [z,TI,TO,g,j] z (λi h=>IsZip h z TI TO .none/\IsPair h TI (.ref g) (.ref j)/\(∃ a b,IsPair h TO a b)/\h.IsListIter g l1 i/\h.IsListIter j l2 i) where
 mem:=by simp
 obj:=λi h l b A=>by
  obtain⟨m,p,⟨a,c,B⟩,⟨o4,C,_,d4⟩,⟨o5,F,_,d5⟩⟩:=l;rcases(by simpa using A:b=z \/ b=TI \/ b=TO \/ b=g \/ b=j) with q | q | q | q | q<;>subst q
  ·exact⟨_,m,λv q=>by cases q⟩
  ·exact⟨_,p,λv q=>by cases q⟩
  ·exact⟨_,B,λv q=>by cases q⟩
  ·exact⟨_,C,λv q=>by rw[d4] at q;cases q⟩
  ·exact⟨_,F,λv q=>by rw[d5] at q;cases q⟩
 keep:=λi h h' l k=>by
  obtain⟨m,p,⟨a,c,B⟩,C,F⟩:=l;exact⟨k z (by simp) _ m,k TI (by simp) _ p,⟨a,c,k TO (by simp) _ B⟩,C.at λo q=>k g (by simp) o q,F.at λo q=>k j (by simp) o q⟩
 item:=by
  intro X Y Z hK hc i O s σ H E I S l hg;subst Y Z hK;obtain⟨xs,ys,x,y,r,t,hx,hy⟩:=hg;obtain⟨G,L,p1,hz1⟩:=I.list r;obtain⟨J,M,p2,hz2⟩:=I.list t;obtain⟨u,hu,ru⟩:=L.get hx;obtain⟨v,hv,rv⟩:=M.get hy;obtain⟨m,p,⟨a,c,B⟩,C,F⟩:=l;refine wpAny_pyNext_zip_item D m p B C F p1.isList p2.isList (x:=u) (y:=v) (by simpa using hu) (by simpa using hv) λhh a1 a2 a3 a4 a5 a6 U=>?_;refine⟨_,rfl,wpAny_letOwnedTupleGo_zip (s:={ s with heap:=hh }) a1 λV hz6 f=>?_⟩;replace f:Heap.SameBut z hh V:=f;have lt:∀{c o},s.heap.get? c=some o->c < s.heap.objs.size:=λe=>N2 e;have Q:V.get? s.heap.objs.size=_:=(f.2 _<|Nat.ne_of_gt<|lt m).trans a5;have kk:∀ b o,b∉[z,TI,TO,g,j]->s.heap.get? b=some o->V.get? b=some o:=λb o A q=>by
   have d:b≠z/\b≠TI/\b≠TO/\b≠g/\b≠j:=by simpa using A
   exact(f.2 b d.1).trans (U b o d.1 d.2.2.1 d.2.2.2.1 d.2.2.2.2 q)
  have I1:=I.turnedNew (h':=V) (t':=s.toks) (wr:=[z,TI,TO,g,j]) (T:=s.heap.objs.size) (xs:=[x,y]) (its:=#[u,v]) kk S (N0 _) ⟨⟨_,Q,rfl,_,rfl⟩,_,Q,rfl⟩ (.cons ru<|.cons rv .nil) (by show 2<=sizeLine;decide);refine⟨.ref s.heap.objs.size,_,I1,rfl,⟨_,x,y,(λzs hs=>by rw[I.list_inj hs r];exact hx),(λzs hs=>by rw[I.list_inj hs t];exact hy),rfl,I.hok.fresh<|N0 _,rfl⟩,⟨hz6,(f.2 TI D.TIz).trans (U _ _ D.TIz D.TITO D.TIi1 D.TIi2 p),⟨_,_,(f.2 TO D.TOz).trans a2⟩,a3.at λo q=>(f.2 g D.i1z).trans q,a4.at λo q=>(f.2 j D.i2z).trans q⟩,λb A=>?_⟩;rw[jg]
  ·exact(S b A).1
  ·intro q;have:b < s.heap.objs.size:=by
    obtain⟨_,h4',_⟩:=id C;obtain⟨_,h5',_⟩:=id F;rcases(by simpa using A:b=z \/ b=TI \/ b=TO \/ b=g \/ b=j) with w | w | w | w | w<;>rw[w]
    ·exact lt m
    ·exact lt p
    ·exact lt B
    ·exact lt h4'
    ·exact lt h5'
   exact absurd this (by rw[q];exact Nat.lt_irrefl _)
 done:=by
  intro X Y Z hK hc i O s σ H E I S l hg;subst Y Z hK;obtain⟨xs,ys,r,t,hx⟩:=hg;obtain⟨G,L,p1,hz1⟩:=I.list r;obtain⟨J,M,p2,hz2⟩:=I.list t;obtain⟨m,p,⟨a,c,B⟩,C,F⟩:=l;have hl1:=L.length;have hl2:=M.length;have R:G.toArray[i]?=none \/ J.toArray[i]?=none:=by
   rcases Nat.le_total xs.length ys.length with h | h
   ·exact .inl (by simp;lia)
   ·exact .inr (by simp;lia)
  exact wpAny_pyNext_zip_end (I.ok.hd hc) D m p B C F p1.isList p2.isList R λhh U=>⟨rfl,I.turnedL (t':=s.toks) (wr:=[z,TI,TO,g,j]) (λb o A q=>by
   have d:b≠z/\b≠TI/\b≠TO/\b≠g/\b≠j:=by simpa using A
   exact U b o d.1 d.2.2.1 d.2.2.2.1 d.2.2.2.2 q) S⟩
 self:=λ_ _ _ _ _ l h=>wpAny_pyIter_zip l.1 h
def jeO(n l1 l2:Nat)(h1:l1 < n)(h2:l2 < n):ZipApart (n+4) (n+2) (n+3) n (n+1) l1 l2:=by
 constructor<;>(show @Ne Nat _ _)<;>lia
def jmO(K:W4)(tl:TA):TI:=λσ H R=>tl σ H λvs H1=>∃ a b xs ys,vs=[.ref a,.ref b]/\SqL K H1 a xs/\SqL K H1 b ys/\R (Itz K a b) H1
section
variable {X:Cx}
def jiN{d:List Expr}{n:Nat}{tpos p pos:Pos}{a b:Expr}{ta:TA}(C:Gl X "zip")(D:X.mg "zip" = none)(E:PA X [a,b] ta)(F:starEach [a,b] X.env=[(false,eval a X.env),(false,eval b X.env)]:=by rfl)(f:starEach [b] X.env=[(false,eval b X.env)]:=by rfl) :
  PI X (.Tuple d n tpos) (.Call (.Name "zip" p) [a,b] [] pos) (jmO X.K ta):=by
 intro c s σ H R I h;refine Call_<|Je I C D (show bootBuiltins "zip" = some (.type "zip") by decide +kernel)<|PyProof.Rows.callWith_type1 (thn (E pos c s σ H _ I h) λZ s1 ⟨vs,w,g,r1,G⟩=>?_) (by rw[F,f]) (by rw[f];rfl);obtain⟨l1,l2,xs,ys,rfl,r,t,q⟩:=G;obtain⟨u,v,rfl,J,L⟩:=r1.two;cases J;cases L;obtain⟨x,M,i,N⟩:=g.list r;obtain⟨y,O,j,P⟩:=g.list t;have k:l1 < s1.heap.objs.size:=by
  obtain⟨o,_,e,_⟩:=i;exact N2 e
 have l:l2 < s1.heap.objs.size:=by
  obtain⟨o,_,e,_⟩:=j;exact N2 e
 refine call_zip_2 i.isList j.isList λA B Q S T U a6 V=>?_;have W:Inv X c σ w { s1 with heap:=A }:=g.kept (t':=s1.toks) V;refine PySem.wpAny_pyIter_zip (s:={ s1 with heap:=A }) B ?_;refine⟨s1.heap.objs.size+4,[s1.heap.objs.size+4,s1.heap.objs.size+2,s1.heap.objs.size+3,s1.heap.objs.size,s1.heap.objs.size+1],_,_,w,rfl,W,jdI _ _ _ _ _ l1 l2<|jeO _ l1 l2 k l,⟨B,Q,⟨_,_,S⟩,T,U⟩,λb Y=>?_,q⟩;have m:s1.heap.objs.size<=b:=by
  rcases(by simpa using Y:b=s1.heap.objs.size+4 \/ b=s1.heap.objs.size+2 \/ b=s1.heap.objs.size+3 \/ b=s1.heap.objs.size \/ b=s1.heap.objs.size+1) with z | z | z | z | z<;>rw[z]
  ·exact Nat.le_add_right _ 4
  ·exact Nat.le_add_right _ 2
  ·exact Nat.le_add_right _ 3
  ·exact N0 _
  ·exact Nat.le_add_right _ 1
 exact g.fpOk m<|g.hok.fresh m
def jbq(e:X.calm=true):qZ X (.builtin "sum") (λxs H Q=>∃(p:Addr) (ns:List Int),xs=[.ref p]/\SqL X.K H p (ns.map V.int)/\Q (.int ns.sum) H):=by
 intro c s σ H xs l Q I r h;obtain⟨p,ns,rfl,f,q⟩:=h;obtain⟨u,rfl,g⟩:=r.one;cases g;obtain⟨a,i,pl,m⟩:=I.list f;have hi:IntsAre a ns:=jau i;obtain⟨zs,d⟩:=hi.allInts.items;have b:s.heap.IsList p (intItems zs):=d▸pl.isList;refine sum_intListG (I.ok.hd e) b λn o t j=>?_;have k:ns=zs.toList.map (·.1):=by
  rw[<- nums_intItems,<- d];exact(show numsOf a.toArray.toList=ns from hi.numsOf).symm
 have e2:preSum (numAt zs) zs.size=ns.sum:=by
  rw[preSum_eq,List.take_of_length_le<|by simp,k]
 rw[e2];exact⟨.int ns.sum,H,I.kept j,⟨_,rfl⟩,q⟩
inductive TyQ (K:W4) (H:Hp):V->String->Prop where
 | non:TyQ K H .non "NoneType"
 | bl (x:Bool):TyQ K H (.bl x) "bool"
 | int (i:Int):TyQ K H (.int i) "int"
 | str (x:Str):TyQ K H (.str x) "str"
 | lst {a:Addr}{xs:List V}(e:SqL K H a xs):TyQ K H (.ref a) "list"
 | tup {a:Addr}{xs:List V}(e:SqT K H a xs):TyQ K H (.ref a) "tuple"
 | dK {a:Addr}{kvs:List (Key×V)}(e:H a=some (.dK kvs)):TyQ K H (.ref a) "dict"
end
section
variable {κ:Type} [DecidableEq κ]
noncomputable def Vu(kvs:List<|κ×V)(k:κ):Option V:=(kvs.find? λkv=>decide<|kv.1=k).map (·.2)
noncomputable def kI(kvs:List<|κ×V)(k:κ)(v:V):List (κ×V) :=
 if(kvs.any λkv=>decide<|kv.1=k)=true then kvs.map (λkv=>if kv.1=k then(kv.1,v) else kv) else kvs++[(k,v)]
def Jl{p:κ×V}{r:List (κ×V)}(e:p.1=k):Vu (p::r) k=some p.2:=by simp[Vu,List.find?_cons,e]
def Jm{p:κ×V}{r:List (κ×V)}(e:¬ p.1=k):Vu (p::r) k=Vu r k:=by simp[Vu,List.find?_cons,e]
theorem wJ(k:κ):∀ kvs:List (κ×V),(kvs.any λkv=>decide<|kv.1=k)=(Vu kvs k).isSome
 | []=>rfl
 | p::r=>by
  rw[List.any_cons];by_cases e:p.1=k
  ·simp only[Jl e,X8 e,Bool.true_or,Option.isSome_some]
  ·rw[Jm e,X9 e,Bool.false_or];exact wJ k r
def Y4(kvs:List<|κ×V)(k:κ)(v:V):(kI kvs k v).length<=kvs.length+1:=by
 unfold kI;split
 ·rw[L3];lia
 ·rw[N5,M4,List.length_nil];lia
def RelO.isSome_eq(r:RelO o u):o.isSome=u.isSome:=by
 cases o with
 | none=>cases u with
  | none=>rfl
  | some _=>exact(show False from r).elim
 | some _=>cases u with
  | none=>exact(show False from r).elim
  | some _=>rfl
def RelO.getD(r:RelO o u)(rd:RelV d d'):RelV (o.getD d) (u.getD d'):=by
 cases o with
 | none=>cases u with
  | none=>exact rd
  | some _=>exact(show False from r).elim
 | some _=>cases u with
  | none=>exact(show False from r).elim
  | some _=>exact r
def KV.val(r:KV kvs vs)(k:κ):RelO (Vu kvs k) (valueAt vs k):=by
 unfold KV at r
 induction r with
 | nil=>exact True.intro
 | @cons p q i a h t f =>
  obtain⟨d,g⟩:=h;by_cases e:p.1=k
  ·have c:q.1=k:=d.symm.trans e;have b:valueAt (q::a) k=some q.2:=by simp[valueAt,List.find?_cons,c]
   rw[Jl e,b];exact g
  ·have c:¬ q.1=k:=λz=>e<|d.trans z;have b:valueAt (q::a) k=valueAt a k:=by simp[valueAt,List.find?_cons,c]
   rw[Jm e,b];exact f
def KV.any(r:KV kvs vs)(k:κ):(kvs.any λkv=>decide<|kv.1=k)=vs.any λkv=>decide (kv.1=k):=by
 unfold KV at r
 induction r with
 | nil=>rfl
 | cons h t a=>rw[List.any_cons,List.any_cons,a,h.1]
def KV.repl(r:KV kvs vs)(k:κ)  (b:RelV y u) :
  KV (kvs.map λkv=>if kv.1=k then(kv.1,y) else kv) (vs.map λkv=>if kv.1=k then(kv.1,u) else kv):=by
 unfold KV at r ⊢
 induction r with
 | nil=>exact .nil
 | @cons p q f g h t c =>
  rw[L6,L6];refine .cons ?_ c;obtain⟨a,d⟩:=h;by_cases e:p.1=k
  ·rw[if_pos e,if_pos<|a.symm.trans e];exact⟨a,b⟩
  ·rw[if_neg e,if_neg<|λz=>e<|a.trans z];exact⟨a,d⟩
def KV.put(r:KV kvs vs)(k:κ)  (a:RelV y u):KV (kI kvs k y) (stored vs k u):=by
 unfold kI stored;rw[r.any k];by_cases e:(vs.any λb=>decide<|b.1=k)=true
 ·rw[if_pos e,if_pos e];exact r.repl k a
 ·rw[if_neg e,if_neg e];exact Paired.snoc r ⟨rfl,a⟩
def KV.length(r:KV kvs vs):kvs.length=vs.length:=Paired.length r
end
def jax(r:RelV (kV k) u):(js P w).is k u=true:=by
 cases k with
 | inl i=>obtain⟨t,e⟩:=(show ∃ t,u=Value.int i t from r);subst e;exact xM P w i t
 | inr x=>obtain⟨t,e⟩:=(show ∃ t,u=Value.str x t from r);subst e;exact xm P w x t
theorem zf:∀{ks:List Key}{us:List Value},Vals (ks.map kV) us->ItemsAre (js P w) ks us
 | [],_,r=>by rw[List.map_nil] at r;cases r;exact .nil
 | k::ks,_,r=>by
  rw[L6] at r;cases r with
  | cons h t=>exact .cons (jax h)<|zf t
abbrev KT(H:Hp):List (List Key×V)->List (List Key×Addr×Value)->Prop:=Paired λp q=>p.1=q.1/\H q.2.1=some (.tup<|p.1.map kV)/\RelV p.2 q.2.2
def KT.val(r:KT H kvs xs)(k:List Key):RelO (Vu kvs k) ((atKey xs k).map (·.2)):=by
 induction r with
 | nil=>exact True.intro
 | @cons p q i a h t f =>
  obtain⟨d,_,g⟩:=h;by_cases e:p.1=k
  ·have c:q.1=k:=d.symm.trans e;have b:atKey (q::a) k=some q.2:=by simp[atKey,List.find?_cons,c]
   rw[Jl e,b];exact g
  ·have c:¬ q.1=k:=λz=>e<|d.trans z;have b:atKey (q::a) k=atKey a k:=by simp[atKey,List.find?_cons,c]
   rw[Jm e,b];exact f
def KT.repl(r:KT H kvs xs)(k:List Key)  (c:RelV y u) :
  KT H (kvs.map λkv=>if kv.1=k then(kv.1,y) else kv) (xs.map<|putAt k u):=by
 induction r with
 | nil=>exact .nil
 | @cons p q g i h t d =>
  rw[L6,L6];refine .cons ?_ d;obtain⟨a,b,f⟩:=h;unfold putAt;by_cases e:p.1=k
  ·rw[if_pos e,if_pos<|a.symm.trans e];exact⟨a,b,c⟩
  ·rw[if_neg e,if_neg<|λz=>e<|a.trans z];exact⟨a,b,f⟩
def KT.put(r:KT H kvs xs)(k:List Key)  (c:H b=some (.tup<|k.map kV)) (a:RelV y u) :
  KT H (kI kvs k y) (storedH xs k b u):=by
 have e:(kvs.any λd=>decide<|d.1=k)=(atKey xs k).isSome:=by
  rw[wJ,(r.val k).isSome_eq,Option.isSome_map]
 unfold kI storedH;rw[e];by_cases q:(atKey xs k).isSome=true
 ·rw[if_pos q,if_pos q];exact r.repl k a
 ·rw[if_neg q,if_neg q];exact Paired.snoc r ⟨rfl,c,a⟩
def KT.keeps(r:KT H kvs xs)(a:∀ b ys,H b=some (.tup ys)->H' b=some (.tup ys)):KT H' kvs xs :=
 Paired.mapP r λ_ _ z=>⟨z.1,a _ _ z.2.1,z.2.2⟩
def jjQ(ok:HOk P w H h)(e:Rd H a u):ObjOk P w H h a u:=e.ok ok
def Q8(ok:HOk P w H h)(e:Rd H a<|.dK kvs):kvs.length<=sizeLine/\(a==sysModules)=false/\∃ vs,KV kvs vs/\h.DictOf (js P w) a vs :=
 show ObjOk P w H h a (.dK kvs) from jjQ ok e
def jmk(ok:HOk P w H h)(e:H a=some (.dK kvs)):kvs.length<=sizeLine/\(a==sysModules)=false/\∃ vs,KV kvs vs/\h.DictOf (js P w) a vs:=Q8 ok<|.inl e
def VR(ok:HOk P w H h)(e:H a=some (.tup<|ks.map kV)):(tupleKind<|js P w).is h ks a:=by
 obtain⟨_,b,r,⟨o,c,d,n,f⟩,_⟩:=(show ObjOk P w H h a (.tup<|ks.map kV) from ok a _ e);exact⟨o,b.toArray,n,c,d,f,by simpa using zf r⟩
def uV(ok:HOk P w H h)(e:Rd H a<|.dT kvs):kvs.length<=sizeLine/\(a==sysModules)=false /\
  ∃ xs,KT H kvs xs/\h.DictOfH (tupleKind<|js P w) a xs:=by
 obtain⟨z,y,xs,r,o,d,f,g,i,j,k,n⟩:=(show ObjOk P w H h a (.dT kvs) from jjQ ok e);refine⟨z,y,xs,r,o,d,f,g,i,j,k,λx b=>?_,n⟩;have all:∀{l:List (List Key×V)}{m:List (List Key×Addr×Value)},KT H l m->∀ x∈m,(tupleKind<|js P w).is h x.1 x.2.1:=by
  intro l m q
  induction q with
  | nil=>intro x b;exact nomatch b
  | @cons p q u v c t s =>
   intro x b;rcases M6.mp b with e | b
   ·subst e;exact VR ok (by rw[<- c.1];exact c.2.1)
   ·exact s x b
 exact all r x b
def jmd(ok:HOk P w H h)(e:H a=some (.dT kvs)):kvs.length<=sizeLine/\(a==sysModules)=false /\
  ∃ xs,KT H kvs xs/\h.DictOfH (tupleKind<|js P w) a xs:=uV ok<|.inl e
def DGet(H:Hp)(a:Addr)(y:V)(r:Option V):Prop :=
 (∃ kvs k,Rd H a (.dK kvs)/\y=kV k/\r=Vu kvs k) \/ ∃ kvs k b,Rd H a (.dT kvs)/\y=.ref b/\H b=some (.tup<|k.map kV)/\r=Vu kvs k
def DPut(H:Hp)(a:Addr)(y v:V)(H':Hp):Prop :=
 (∃ kvs k,H a=some (.dK kvs)/\y=kV k/\kvs.length < sizeLine/\H'=upd H a (.dK<|kI kvs k v)) \/
 ∃ kvs k b,H a=some (.dT kvs)/\y=.ref b/\H b=some (.tup<|k.map kV)/\kvs.length < sizeLine/\H'=upd H a (.dT<|kI kvs k v)
theorem DGet.k{H:Hp}{a:Addr}{kvs:List (Key×V)}{k:Key}(e:H a=some (.dK kvs)):DGet H a (kV k) (Vu kvs k):=.inl ⟨kvs,k,.inl e,rfl,rfl⟩
def DGet.t{kvs:List (List Key×V)}{k:List Key}(e:H a=some (.dT kvs))(c:H b=some (.tup<|k.map kV)):DGet H a (.ref b) (Vu kvs k):=.inr ⟨kvs,k,b,.inl e,rfl,c,rfl⟩
theorem DPut.k{H:Hp}{a:Addr}{kvs:List (Key×V)}{k:Key}{v:V}(e:H a=some (.dK kvs))(b:kvs.length < sizeLine):DPut H a (kV k) v (upd H a<|.dK<|kI kvs k v):=.inl ⟨kvs,k,e,rfl,b,rfl⟩
def DPut.t{kvs:List (List Key×V)}{k:List Key}(e:H a=some (.dT kvs))(c:H b=some (.tup<|k.map kV))(d:kvs.length < sizeLine) :
  DPut H a (.ref b) v (upd H a<|.dT<|kI kvs k v):=.inr ⟨kvs,k,b,e,rfl,c,d,rfl⟩
def Inv.big(I:Inv X pins σ H s):sysModules < s.heap.objs.size:=by
 have h:mainGlobals < s.heap.objs.size:=(I.mod.glob.keeps I.bk).lt;exact Nat.lt_trans (by decide) h
def Qk(n:A.units+1 < cLine)(I:Inv X pins σ H s)(g:DGet H a y<|some v)(m:RelV y u)(h:∀ w' s',Inv X pins σ H s'->RelV v w'->Q w' s') :
  wpAny (model X.prog X.w) A (getItem (.ref a) u) Q E s:=by
 rcases g with⟨d,k,e,f,l⟩ | ⟨d,k,b,e,f,q,l⟩
 ·subst f;obtain⟨z,hd,r,rel,dd⟩:=Q8 I.hok e;obtain⟨w',i,c⟩:=RelO.some_of (v:=v) (o:=valueAt r k) (by rw[l];exact rel.val k);exact wpAny_getItem_of (jax m) dd.mapOf i<|h w' _ (I.tok _) c
 ·subst f;cases(show u=Value.ref b from m);obtain⟨z,hd,t,rel,dd⟩:=uV I.hok e;obtain⟨w',i,c⟩:=RelO.some_of (v:=v) (o:=(atKey t k).map (·.2)) (by rw[l];exact rel.val k);obtain⟨p,x,j⟩:=Option.map_eq_some_iff.mp i;refine wpAny_getItem_heap (tupleKind_room_in1 n) (VR I.hok q) dd x ?_;rw[j];exact h w' _ (I.tok _) c
def jf6(i:A.units+1 < cLine)(I:Inv X pins σ H s)(g:DGet H a y o)(f:RelV y u)(h:∀ s',Inv X pins σ H s'->Q (.bool<|!o.isSome) s') :
  wpAny (model X.prog X.w) A (compareOp .NotIn u<|.ref a) Q E s:=by
 rcases g with⟨c,k,e,d,l⟩ | ⟨c,k,b,e,d,j,l⟩
 ·subst d;obtain⟨z,hd,m,rel,dd⟩:=Q8 I.hok e;refine wpAny_notIn_of (jax f) hd dd.mapOf ?_;rw[<- (rel.val k).isSome_eq,<- l];exact h _<|I.tok _
 ·subst d;cases(show u=Value.ref b from f);obtain⟨z,hd,n,rel,dd⟩:=uV I.hok e;refine wpAny_notIn_heap (tupleKind_room_in1 i) (VR I.hok j) hd dd ?_;have q:=(rel.val k).isSome_eq;rw[Option.isSome_map] at q;rw[<- q,<- l];exact h _<|I.tok _
def xf(I:Inv X pins σ H s)(c:Mut<|H a)(d:Heap.SameBut a s.heap h')(f:∃ q,h'.get? a=some q)(new:ObjOk X.prog X.w (upd H a ob) h' a ob) :
  Inv X pins σ (upd H a ob) { s with heap:=h',toks:=t' } :=
 I.write (x:=a) (e:=a) c (.inl rfl) (λb q g z=>(d.2 b g).trans z) f new
def jfm(z:kvs.length<=sizeLine)(hd:(a==sysModules)=false)(rel:KV kvs vs)(dd:h'.DictOf (js P w) a vs) :
  ObjOk P w H' h' a (.dK kvs):=⟨z,hd,vs,rel,dd⟩
def Qw(F:A.units+1 < cLine)(I:Inv X pins σ H s)(g:DPut H a y v H')(t:RelV y u)(x:RelV v r)(h:∀ s',Inv X pins σ H' s'->Q () s') :
  wpAny (model X.prog X.w) A (setItem (.ref a) u r) Q E s:=by
 rcases g with⟨d,k,e,j,l,m⟩ | ⟨d,k,b,e,j,B,l,m⟩
 ·subst j m;obtain⟨z,hd,G,rel,dd⟩:=jmk I.hok e;have n:G.length<=sizeLine:=by rw[<- rel.length];exact z
  have o:(kI d k v).length<=sizeLine:=by have:=Y4 d k v;lia
  refine wpAny_setItem_pairs (hsz:=n) (jax t) dd λC f p=>h _ ?_;have J:∃ q,C.get? a=some q:=let ⟨q,_,_,i,_⟩:=f;⟨q,i⟩
  exact xf I (by rw[e];exact True.intro) p J<|jfm o hd (rel.put k x) f
 ·subst j m;cases(show u=Value.ref b from t);obtain⟨z,hd,K,rel,dd⟩:=jmd I.hok e;have n:K.length<=sizeLine:=by rw[<- Paired.length rel];exact z
  have o:(kI d k v).length<=sizeLine:=by have:=Y4 d k v;lia
  refine wpAny_setItem_heap (hsz:=n) (tupleKind_room_in1 F) (VR I.hok B) dd λC f p=>h _ ?_;obtain⟨q,L,M,i,N,O,P,_,R⟩:=f;refine xf I (by rw[e];exact True.intro) p ⟨q,i⟩ ⟨o,hd,_,(rel.put k B x).keeps λc S D=>?_,q,L,M,i,N,O,P,R⟩;rw[jg<|jmb D e<|λz=>nomatch z];exact D
def jmI(i:Expr):Prop:=∀ ov iv,subscripted i false ov iv=operate [ov,iv] (getItem ov iv)
def jhQ{prog:Program}{w:World}{A:Around}{E:J0}{s:Shared}{env:Env}{value slice:Expr}{pos:Pos}{T id:String}{Q:J0}
  (e:typeLookup (.type T) "__getitem__" = pure (some<|.builtin id)) (f:jmI slice)
  (h:wpAny (model prog w) A (eval value env) (λo s₁=>wpAny (model prog w) A (eval slice env) (λi s₂=>s₂.TypeIs o T/\wpAny (model prog w) A (getItem o i) Q E s₂) E s₁) E s) :
  wpAny (model prog w) A (eval (.Subscript value slice pos) env) Q E s:=by
 refine Subscript_<|wpAny_mono h (λo s₁ g=>wpAny_mono g (λi s₂ b=>?_) λ_ _ x=>x) λ_ _ x=>x;obtain⟨c,b⟩:=b;unfold subscriptTail;refine L4 ?_;rw[getitemInPython_of_ne c.not_modules];refine L4<|wpAny_specialOf c e ?_;have a:wpAny (model prog w) A (subscripted slice false o i) (λr d=>wpAny (model prog w) A (letTemporaryGo value o r >>= λ_=>pure r) Q E d) E s₂:=by
  rw[f o i];exact wpAny_operating<|wpAny_mono b (λr d j=>L4<|wpAny_letTemporaryGo<|M8 j) λ_ _ x=>x
 first
  | exact M8 (L4 a)
  | exact L4 (M8 (L4 a))
  | exact L4 a
def xY(I:Inv X pins σ H s)(g:DGet H a y o):s.TypeIs (.ref a) "dict":=by
 rcases g with⟨c,k,e,_,_⟩ | ⟨c,k,b,e,_,_,_⟩
 ·obtain⟨_,_,d,_,dd⟩:=Q8 I.hok e;exact dd.typeIs
 ·obtain⟨_,_,f,_,dd⟩:=uV I.hok e;exact dd.typeIs
noncomputable def jfX(td ty:TE):TE:=λσ H Q=>td σ H λx H1=>ty σ H1 λy H2=>∃ a v,x=.ref a/\DGet H2 a y (some v)/\Q v H2
noncomputable def V4(ty td:TE):TE:=λσ H Q=>ty σ H λy H1=>td σ H1 λx H2=>∃ a o,x=.ref a/\DGet H2 a y o/\Q (.bl<|!o.isSome) H2
noncomputable def xt(td ty tv:TE):TS:=λD σ H=>tv σ H λv H1=>td σ H1 λx H2=>ty σ H2 λy H3=>∃ a H4,x=.ref a/\DPut H3 a y v H4/\D.nx σ H4
noncomputable def Qh(td ty tv:TE)(rd:V->V->Hp->VK->Prop):TS:=λD σ H=>td σ H λx H1=>ty σ H1 λy H2=>∃ a v,x=.ref a/\DGet H2 a y (some v) /\
 tv σ H2 λy2 H3=>rd v y2 H3 λz H4=>∃ H5,DPut H4 a y z H5/\D.nx σ H5
def jgR(e:X.A.units+1 < cLine)(f:PE X o td)(hi:PE X i ty)(j:jmI i):PE X (.Subscript o i pos) (jfX td ty):=by
 intro b s σ H Q I h;refine jhQ PySem.F.slot_dict_getitem.lookup j<|thn (f b s σ H _ I h) λu s1 ⟨x,k,l,rx,m⟩=>thn (hi b s1 σ k _ l m) λw s2 n=>?_;obtain⟨y,p,d,q,a,v,ex,g,r⟩:=n;subst ex;obtain rfl:u=Value.ref a:=rx;exact⟨xY d g,Qk e d g q λz B t c=>⟨v,p,t,c,r⟩⟩
def jcH(c:X.A.units+1 < cLine)(hi:PE X i ty)(d:PE X o td):PC X .NotIn i o (V4 ty td):=by
 intro b s σ H Q I h;refine thn (hi b s σ H _ I h) λt s1 ⟨y,e,f,j,k⟩=>thn (d b s1 σ e _ f k) λu s2 l=>?_;obtain⟨x,m,n,rx,a,p,ex,g,q⟩:=l;subst ex;obtain rfl:u=Value.ref a:=rx;exact jf6 c n g j λv r=>⟨.bl<|!p.isSome,m,r,rfl,q⟩
def xz(c:X.A.units+1 < cLine)(d:PE X o td)(hi:PE X i ty)(e:PE X value tv)(f:swapsWith value (some<|.Subscript o i pos') pos.line X.env=pure false) :
  PS X (.Assign [.Subscript o i pos'] value pos) (xt td ty tv):=by
 intro b s σ H D I h;refine wpAny_Assign_Subscript (thn (e b s σ H _ I h) λr s1 ⟨v,j,k,l,m⟩=>thn (d b s1 σ j _ k m) λu s2 ⟨x,n,p,rx,q⟩=>thn (hi b s2 σ n _ p q) λF G t=>?_) f;obtain⟨y,J,w,z,a,B,ex,g,C⟩:=t;subst ex;obtain rfl:u=Value.ref a:=rx;exact Qw c w g z l λK E=>⟨σ,B,E,C⟩
def Kg(j:X.A.units+1 < cLine)(l:PE X o td)(hi:PE X i ty)(m:PE X value tv)(c:jll X op rd)
  (n:∀ ov iv new,augStore i ov iv new=(do holding [new,ov,iv] (setItem ov iv new);release [new,ov,iv] [];pure .next)):PS X (.AugAssign (.Subscript o i tpos) op value pos) (Qh td ty tv rd):=by
 intro b s σ H D I h;refine wpAny_AugAssign_SubscriptAny (thn (l b s σ H _ I h) λu s1 ⟨x,p,q,rx,r⟩=>thn (hi b s1 σ p _ q r) λiv s2 d=>?_) n;obtain⟨y,t,w,k,a,v,ex,g,B⟩:=d;subst ex;obtain rfl:u=Value.ref a:=rx;refine Qk j w g k λC E F e=>thn (m b E σ t _ F B) λw2 G ⟨J,K,L,f,M⟩=>thn (c b G σ K v J C w2 _ L e f M) λT U d=>?_;obtain⟨z,V,N,O,P,Q,R⟩:=d;exact Qw j N Q k O λW S=>⟨σ,P,S,R⟩
def jds(h:Heap)(a:sysModules < h.objs.size):ObjOk P w H (h.push { cls:=.type "dict",data:=.dict #[] }) h.objs.size (.dK []) :=
 ⟨U6 _,U3.mpr<|Ne.symm<|N7 a,[],.nil,Heap.DictOf.new h⟩
def jbI:TE:=λ_ H Q=>∀ p,H p=none->Q (.ref p) (upd H p<|.dK [])
def jeQ:PE X (.Dict [] [] pos) jbI:=λb s σ H Q I h =>
 wpAny_Dict_empty ⟨.ref s.heap.objs.size,_,I.laid (a:=s.heap.objs.size) (o:=.dK []) (t':=s.toks) (λ_ _ q=>L9 _ q) (N0 _)<|jds s.heap I.big,rfl,h _<|I.hok.fresh<|N0 _⟩
structure M1(X:Cx)(o:Expr)(m:Str)(apos:Pos)(e:Expr)(cpos:Pos):Prop where
 base:attributeBase o m X.env (eval o X.env)=eval o X.env
 few:((backTo cpos<|starEach [e] X.env).all (λx=>!x.1)&&(backToKw cpos<|keywordEach [] X.env).all (λx=>x.1.isSome)
  && decide (([e]:List Expr).length+([]:List Keyword).length+(if([]:List Keyword).isEmpty then 0 else 1) < 30))=true
 line:(apos.endLine==cpos.line)=true
 trees:backTo cpos (starEach [e] X.env)=[(false,eval e X.env)]
structure M2(X:Cx)(o:Expr)(m:Str)(apos:Pos)(e f:Expr)(cpos:Pos):Prop where
 base:attributeBase o m X.env (eval o X.env)=eval o X.env
 few:((backTo cpos<|starEach [e,f] X.env).all (λx=>!x.1)&&(backToKw cpos<|keywordEach [] X.env).all (λx=>x.1.isSome)
  && decide (([e,f]:List Expr).length+([]:List Keyword).length+(if([]:List Keyword).isEmpty then 0 else 1) < 30))=true
 line:(apos.endLine==cpos.line)=true
 trees:backTo cpos (starEach [e,f] X.env)=[(false,eval e X.env),(false,eval f X.env)]
def IsD(H:Hp)(a:Addr):Prop:=(∃ kvs,Rd H a<|.dK kvs) \/ ∃ kvs,Rd H a<|.dT kvs
def wS(I:Inv X pins σ H s)(d:IsD H a) :
  s.TypeIs (.ref a) "dict"/\(∀ b,Value.ref a=.ref b->∃ ob,s.heap.get? b=some ob/\ob.dict=none)/\(a==sysModules)=false:=by
 rcases d with⟨c,e⟩ | ⟨c,e⟩
 ·obtain⟨_,hd,h,_,dd⟩:=Q8 I.hok e;refine⟨dd.typeIs,λb q=>?_,hd⟩;cases q;obtain⟨ob,_,_,f,g,_⟩:=dd;exact⟨ob,f,g.2.1⟩
 ·obtain⟨_,hd,i,_,dd⟩:=uV I.hok e;refine⟨dd.typeIs,λb q=>?_,hd⟩;cases q;obtain⟨ob,_,_,f,g,_⟩:=dd;exact⟨ob,f,g.2.1⟩
def jjD(j:A.units+1 < cLine)(I:Inv X pins σ H s)(g:DGet H a y o)(i:RelV y u)(rd:RelV d r)(h:∀ w' s',Inv X pins σ H s'->RelV (o.getD d) w'->Q w' s') :
  wpAny (model X.prog X.w) A (call (.builtin "dict.get") [.ref a,u,r]) Q E s:=by
 rcases g with⟨c,k,e,f,l⟩ | ⟨c,k,b,e,f,m,l⟩
 ·subst f;obtain⟨z,hd,p,rel,dd⟩:=Q8 I.hok e;refine call_meetsIn PySem.F.slot_dict_get dd.typeIs PySem.F.entry_dict_get (PySem.F.args_dict_get_3 _ _ _) (meets_dict_get_default (js X.prog X.w) a (jax i) hd r) ⟨_,dd.mapOf,h _ _ (I.tok _) ?_⟩;rw[l];exact(rel.val k).getD rd
 ·subst f;cases(show u=Value.ref b from i);obtain⟨z,hd,n,rel,dd⟩:=uV I.hok e;refine call_meetsIn PySem.F.slot_dict_get dd.typeIs PySem.F.entry_dict_get (PySem.F.args_dict_get_3 _ _ _) (meetsH_dict_get_default (tupleKind<|js X.prog X.w) a b hd r) ⟨tupleKind_room_in1 j,k,n,VR I.hok m,dd,h _ _ (I.tok _) ?_⟩;rw[l];exact(rel.val k).getD rd
noncomputable def Q5(td ty tx:TE):TE:=λσ H Q=>td σ H λx H1=>∃ a,x=.ref a/\IsD H1 a/\ty σ H1 λy H2=>tx σ H2 λz H3=>∃ o,DGet H3 a y o/\Q (o.getD z) H3
def uz(j:X.A.units+1 < cLine)(k:PE X o td)(l:PE X e ty)(n:PE X f tx)(m:M2 X o "get" apos e f cpos):PE X (.Call (.Attribute o "get" apos) [e,f] [] cpos) (Q5 td ty tx):=by
 intro b s σ H Q I h;refine wpAny_Call_method m.base m.few m.line PySem.F.plainAttrs_dict PySem.F.slot_dict_get PySem.F.type_dict_get<|thn (k b s σ H _ I h) λu s1 p=>?_;obtain⟨x,q,i,rx,a,ex,d,r⟩:=p;subst ex;obtain rfl:u=Value.ref a:=rx;obtain⟨t,v,_⟩:=wS i d;refine⟨t,v,?_⟩;rw[m.trees];refine Calls.callWith_builtin rfl<|Calls.evalArgs_plain<|Calls.spliced_cons<|thn (l b s1 σ q _ i r) λM s2 ⟨y,w,B,C,D⟩ =>
  Calls.spliced_cons (thn (n b s2 σ w _ B D) λN O ⟨z,E,G,J,P,g,K⟩=>Calls.spliced_nil ?_)
 exact jjD j G g C J λR S L c=>⟨_,E,L,c,K⟩
end L2
namespace PySem
open Sem (wp)
namespace F
def lk_list_keys:typeLookup (.type "list") "keys" = pure none:=by rw[typeLookup_type,builtinLookup_eq_fast];kernel_rfl
def lk_list_getattr:typeLookup (.type "list") "__getattr__" = pure none:=by rw[typeLookup_type,builtinLookup_eq_fast];kernel_rfl
def plain_dict_loop:plainId "dict.update.loop" = true:=by decide +kernel
def entry_dict_loop:entryFor table "dict.update.loop" = some Builtin.«dict.update.loop»:=entryFor_of_fast (by kernel_rfl)
end F
section
variable {prog:Program}{w:World}{A:Around}{E:J0}{h:Heap}{g:Array GenState}{d:Drawn}{t:Nat}{os:OsState}{a:Addr}{o:Obj}
def F.sub_attrErr:isSubtype (.type "AttributeError") (.type "AttributeError")=pure true:=by rw[isSubtype_type];kernel_rfl
def jeu{x nm:Value}{e:Addr}{y:Value}{Q:Unit->Shared->Prop}(a:h.get? e=some { cls:=.type "AttributeError",data:=.fields #[y,.none,.none,.none,.bool false,.none,unsetMember,unsetMember] })
  (c:∀ h',(∀ b o,b≠e->h.get? b=some o->h'.get? b=some o)->(∃ ob,h'.get? e=some ob/\ob.cls=.type "AttributeError")->Q () ⟨h',g,d,t,os⟩) :
  wpAny (model prog w) A (noteAttr (.ref e) x nm) Q E ⟨h,g,d,t,os⟩:=by
 have j:(⟨h,g,d,t,os⟩:Shared).TypeIs (.ref e) "AttributeError":=⟨_,a,rfl⟩;have k:=F.sub_attrErr;unfold noteAttr
 repeat (any_goals (first | assumption | wp_step))
 refine c _ (λb o f i=>?_) ?_
 ·rw[Heap.get?_update_ne _ _ _ _ f];exact i
 ·exact⟨_,Heap.get?_update_self _ a rfl,rfl⟩
def jav{α:Type}{x:Value}{nm c:Str}{Q:α->Shared->Prop}(l:c.length<=sizeLine)(n:A.handled=none)
  (p:∀ h' e t',(∀ b o,h.get? b=some o->h'.get? b=some o)->h.get? e=none->(∃ ob,h'.get? e=some ob/\ob.cls=.type "AttributeError")->E (.ref e) ⟨h',g,d,t',os⟩) :
  wpAny (model prog w) A (raiseAttrError x nm c:Sem α) Q E ⟨h,g,d,t,os⟩:=by
 unfold raiseAttrError;refine L4<|wpAny_mkStr (L4 ?_) l;unfold newExc newTuple;refine L4<|wpAny_newObj_type ?_;refine L4 (m:=firstArgMember _ _)<|wpAny_of_eq (a:=Value.none) (by simp only[firstArgMember];rfl) ?_;refine wpAny_newObj_type ?_;refine L4<|wpAny_mkText<|L4 ?_;refine jeu (y:=.ref h.objs.size) (E6 _ rfl) λh' q r=>?_;unfold raiseNew;refine L4<|wpAny_handled ?_;rw[n];have f:∀ i,E (.ref (h.push { cls:=.type "tuple",data:=.seq #[Value.str c t] }).objs.size) ⟨h',g,d,i,os⟩:=λi=>p h' _ _ (λb o j=>q b o (λz=>by
  have k:=N2 j;rw[z] at k;exact absurd k<|Nat.not_lt.mpr<|by simp)<|L9 _<|L9 _ j) (Heap.get?_none_of_le<|by simp) r
 first
  | exact wpAny_throw (f _)
  | exact L4 (M8 (wpAny_throw (f _)))
def uJ{its:Array Value}{n:Nat}{sl:Array (Option Value)}{tk:Tok}{Q:Fin->Shared->Prop}(c:A.handled=none)(f:h.get? a=some { cls:=.type "list",data:=.seq its n,slots:=sl })
  (i:∀ h' e t',(∀ b o,h.get? b=some o->h'.get? b=some o)->h.get? e=none->(∃ ob,h'.get? e=some ob/\ob.cls=.type "AttributeError")->E (.ref e) ⟨h',g,d,t',os⟩) :
  wpAny (model prog w) A (Builtin.«object.__getattribute__» ⟨[.ref a,.str "keys" tk],[]⟩) Q E ⟨h,g,d,t,os⟩:=by
 have j:(⟨h,g,d,t,os⟩:Shared).TypeIs (.ref a) "list":=⟨_,f,rfl⟩;have k:=F.lk_list_keys
 repeat (any_goals (first | assumption | wp_step))
 exact jav (by decide +kernel) c i
def jcL{its:Array Value}{n:Nat}{sl:Array (Option Value)}{tk:Tok}{R:Result->Shared->Prop}(f:A.handled=none)(c:h.get? a=some { cls:=.type "list",data:=.seq its n,slots:=sl })
  (i:∀ h' e t',(∀ b o,h.get? b=some o->h'.get? b=some o)->h.get? e=none->(∃ ob,h'.get? e=some ob/\ob.cls=.type "AttributeError")->R (.error<|.ref e) ⟨h',g,d,t',os⟩) :
  codeAny (model prog w) A (.call (.builtin "list.__getattribute__") ⟨[.ref a,.str "keys" tk],[]⟩) R ⟨h,g,d,t,os⟩:=by
 refine codeAny_call_builtin F.slot_list_getattribute.plain F.entry_list_ga<|F.slot_list_getattribute.check _ _ _ _ _ _ _ _ (show(⟨h,g,d,t,os⟩:Shared).TypeIs (.ref a) "list" from⟨_,c,rfl⟩) (F.args_list_getattribute_2 _ _) ?_;exact uJ (show A.in1.handled=none from f) c i
def jg6{its:Array Value}{n:Nat}{sl:Array (Option Value)}{tk:Tok}{Q:J0}(k:A.handled=none)(i:h.get? a=some { cls:=.type "list",data:=.seq its n,slots:=sl })
  (l:∀ h' e t',(∀ b o,h.get? b=some o->h'.get? b=some o)->h.get? e=none->(∃ ob,h'.get? e=some ob/\ob.cls=.type "AttributeError")->E (.ref e) ⟨h',g,d,t',os⟩) :
  wpAny (model prog w) A (getAttrBy (.ref a) (.str "keys" tk) false) Q E ⟨h,g,d,t,os⟩:=by
 have u:(⟨h,g,d,t,os⟩:Shared).TypeIs (.ref a) "list":=⟨_,i,rfl⟩;have v:=F.sub_attrErr;have x:=F.slot_list_getattribute.lookup;have y:=F.slot_list_getattribute.bind<|.ref a;have z:=F.lk_list_getattr
 repeat (any_goals (first | assumption | wp_step))
 refine jcL k i λh' e t' m p j=>?_;have c:=j;obtain⟨ob,f,q⟩:=j;have r:(⟨h',g,d,t',os⟩:Shared).TypeIs (.ref e) "AttributeError":=⟨_,f,q⟩;have s:=l h' e t' m p c;show wpAny (model prog w) A (getattributeRaised (Value.ref a) (Value.str (Str.ofString "keys") tk) (Value.type "list") (.ref e) none false false) Q E _;unfold getattributeRaised
 repeat (any_goals (first | assumption | wp_step))
def zr{its:Array Value}{n:Nat}{sl:Array (Option Value)}{Q:Option Value->Shared->Prop}(f:A.handled=none)(i:h.get? a=some { cls:=.type "list",data:=.seq its n,slots:=sl })
  (j:∀ h' t',(∀ b o,h.get? b=some o->h'.get? b=some o)->Q none ⟨h',g,d,t',os⟩):wpAny (model prog w) A (getAttr? (.ref a) "keys") Q E ⟨h,g,d,t,os⟩:=by
 unfold getAttr? getAttrBy?
 refine L4<|wpAny_mkText<|L4 ?_;refine wpAny_attempt ?_;refine jg6 f i λh' e t' k r l=>?_;obtain⟨ob,c,m⟩:=l;have p:(⟨h',g,d,t',os⟩:Shared).TypeIs (.ref e) "AttributeError":=⟨_,c,m⟩;have s:=F.sub_attrErr;have q:=j h' t' k
 repeat (any_goals (first | assumption | wp_step))
end
section
variable {prog:Program}{w:World}{K:Type} [DecidableEq K] {knd:KeyKind prog w K}{A:Around}{E:J0}{s:Shared}
def VC(c:s.heap.get? p=some o)(b:o.cls=.type "tuple")(hd:o.data=.seq #[key,x] m)(e:Q [key,x] s):wpAny (model prog w) A (Builtin.Dict.pairItems<|.ref p) Q E s:=by
 obtain⟨oc,od,a,d⟩:=o;dsimp only at b hd;subst b;subst hd;have f:s.TypeIs (.ref p) "tuple":=⟨_,c,rfl⟩;unfold Builtin.Dict.pairItems
 repeat (any_goals (first | assumption | wp_step))
def jaS(knd:KeyKind prog w K)(h:Heap)(v:Value)(kv:K×Value):Prop:=∃ p key m o,v=.ref p/\h.get? p=some o/\o.cls=.type "tuple"/\o.data=.seq #[key,kv.2] m/\knd.is kv.1 key=true
def jcs{R:Result->Shared->Prop}(hh:A.handled=none)  (q:ax≠I) (h:D≠I) (O:D≠ax) {items:Array Value}{ps:List (K×Value)}(r:items.size=ps.length):∀(k i:Nat) (s:Shared) (kvs:List<|K×Value),
  items.size - i=k->i<=items.size->(s.heap.IsListIter I ax i/\s.heap.IsList ax items)->s.heap.DictOf knd D kvs ->
  (∀(j:Nat) (v:Value),items[j]?=some v->∃ kv,ps[j]?=some kv/\jaS knd s.heap v kv/\v≠.ref I/\v≠.ref D)->kvs.length+k<=100000 ->
  (∀ h' tk,h'.DictOf knd D ((ps.drop i).foldl (λa kv=>stored a kv.1 kv.2) kvs)->(∀ b o,b≠I->b≠D->s.heap.get? b=some o->h'.get? b=some o)->R (.ok<|.ret .none) { s with heap:=h',toks:=tk }) ->
  codeAny (model prog w) A (.builtin "dict.update.loop" ⟨[.ref D,.ref I,rawInt i,.none],[]⟩) R s:=by
 intro k
 induction k with
 | zero =>
  intro i s kvs hk hi l hd P hz Q;have S:i=items.size:=by lia
  subst S;have W:=Walks.list (prog:=prog) (w:=w) (A:=A.in1) (by exact hh) I ax q items;refine codeAny_builtin F.entry_dict_loop ?_;rw[Around.under_plainId F.plain_dict_loop _];show wpAny _ A.in1 (pyNext (.ref I) >>= _) _ _ s;refine L4<|W.done s _ _ l λh' tk c=>?_;have fin:=Q h' tk (by rw[r,List.drop_length];exact hd.extBut (b:=I) (λb o d e=>c b o (by simpa using d) e) h)<|λb o d _ e=>c b o (by simpa using d) e;unfold Builtin.Dict.addKeywords
  repeat (any_goals (first | assumption | wp_step))
 | succ k ih =>
  intro i s kvs hk hi l hd P hz Q;have t:i < items.size:=by lia
  have W:=Walks.list (prog:=prog) (w:=w) (A:=A.in1) (by exact hh) I ax q items;refine codeAny_builtin F.entry_dict_loop ?_;rw[Around.under_plainId F.plain_dict_loop _];show wpAny _ A.in1 (pyNext (.ref I) >>= _) _ _ s;refine L4<|W.item i s _ _ t l λv h' tk hP u c=>?_;obtain⟨kv,x,⟨p,key,m,po,rfl,T,U,V,y⟩,X,hvD⟩:=P i v hP;have B:h'.get? p=some po:=c p _ (by simpa using λz=>X<|by rw[z]) T;have Y:h'.DictOf knd D kvs:=hd.extBut (b:=I) (λb o d e=>c b o (by simpa using d) e) h;refine L4<|wpAny_holding ?_;refine L4<|wpAny_tryCatch<|VC B U V ?_;show wpAny _ _ (holding [key,kv.2]<|dictSet D key kv.2) _ _ _;have hsz:sizeLine=16777216:=by decide
  refine wpAny_holding<|wpAny_dictSet_pairs y Y (λZ C hs=>?_) (by lia);refine M8 ⟨plainId_quiet F.plain_dict_loop _,?_⟩;have hd2:ps.drop i=kv::ps.drop (i+1):=by
   have E:i < ps.length:=by lia
   rw[List.drop_eq_getElem_cons E];have:ps[i]=kv:=by
    rw[E4 E] at x;exact E2 x
   rw[this]
  refine ih (i+1) _ (stored kvs kv.1 kv.2) (by lia) t (W.frame (i+1) h' Z u λb d o e=>(hs.2 b ?_).trans e) C (λj v hv=>?_) ?_ λh3 tk3 hd3 hk3=>?_
  ·rcases M6.mp d with rfl | d
   ·exact λz=>h z.symm
   ·rw[M9.mp d];exact λz=>O z.symm
  ·obtain⟨kv',G,⟨p',H,m',po',rfl,J,L,M,n⟩,f,g⟩:=P j v hv;refine⟨kv',G,⟨p',H,m',po',rfl,?_,L,M,n⟩,f,g⟩;exact(hs.2 p' λz=>g<|by rw[z]).trans (c p' _ (by simpa using λz=>f<|by rw[z]) J)
  ·have:=stored_length_le kvs kv.1 kv.2
   lia
  ·refine Q h3 tk3 ?_ λb o d N e=>hk3 b o d N<|(hs.2 b N).trans (c b o (by simpa using d) e);rw[hd2,X7];exact hd3
end
section
variable {prog:Program}{w:World}{K:Type} [DecidableEq K] {knd:KeyKind prog w K}{A:Around}{E:J0}{s:Shared}
def Vn{its:Array Value}{n:Nat}{sl:Array (Option Value)}{ps:List (K×Value)}{Q:J0}(M:A.handled=none)(u:s.heap.get? p=some { cls:=.type "list",data:=.seq its n,slots:=sl })(k:its.size=ps.length)
  (P:∀(j:Nat) (v:Value),its[j]?=some v->∃ kv,ps[j]?=some kv/\jaS knd s.heap v kv) (hz:ps.length<=100000)
  (h:∀ h' tk,h'.DictOf knd s.heap.objs.size (ps.foldl (λa kv=>stored a kv.1 kv.2) [])->(∀ b o,s.heap.get? b=some o->h'.get? b=some o)->Q (.ref s.heap.objs.size) { s with heap:=h',toks:=tk }) :
  wpAny (model prog w) A (call (.type "dict") [.ref p]) Q E s:=by
 refine callType_codes (Q₁:=λobj N=>obj=.ref s.heap.objs.size/\N={ s with heap:=s.heap.push { cls:=.type "dict",data:=.dict #[] } }) F.kt_called_dict (F.kt_typeCall_dict_1 _) F.entry_dict_init (kt_code_dict_new _ ⟨rfl,rfl⟩) ?_;rintro obj N ⟨rfl,rfl⟩;have c:(s.heap.push { cls:=.type "dict",data:=.dict #[] }).DictOf knd s.heap.objs.size []:=Heap.DictOf.new s.heap;refine⟨c.typeIs,F.args_dict_init_2 _ _,?_⟩;have f:(s.heap.push { cls:=.type "dict",data:=.dict #[] }).get? p=some { cls:=.type "list",data:=.seq its n,slots:=sl }:=L9 _ u;have O:s.heap.get? s.heap.objs.size=none:=Heap.get?_none_of_le<|N0 _;unfold Builtin.«dict.__init__»;refine L4 ?_;unfold Builtin.Dict.selfAndRest;refine L4<|wpAny_notOrdered_dict c.typeIs ?_;show wpAny _ _ (pure (s.heap.objs.size,[Value.ref p])) _ _ _;refine M8 ?_;show wpAny _ _ (Builtin.Dict.updateFrom "dict.__init__" s.heap.objs.size (.ref p) [] .none) _ _ _;unfold Builtin.Dict.updateFrom;refine L4<|wpAny_typeOf (T:="list") ⟨_,f,rfl⟩ ?_;rw[if_pos<|by decide];refine L4 ?_;refine zr (its:=its) (n:=n) ?_ f λl V d=>?_
 ·exact M
 ·rw[if_pos<|show(Option.isNone (none:Option Value))=true from rfl];refine L4<|wpAny_rule ?_;have g:=d p _ f;have x:l.IsList p its:=⟨_,g,rfl,n,rfl⟩;refine L4<|wpAny_pyIter_list x ?_;have y:=d s.heap.objs.size _<|E6 _ rfl;have B:p≠l.objs.size:=N7<|N2 g;have q:s.heap.objs.size≠l.objs.size:=N7<|N2 y;have C:s.heap.objs.size≠p:=λz=>by rw[<- z,O] at u;cases u
  refine M8 ⟨plainId_quiet F.plain_dict_loop _,?_⟩;refine jcs (A:=A.in1) (knd:=knd) (show A.in1.handled=none from M) B q C k its.size 0 _ [] (by lia) (U6 _) ⟨⟨_,E6 _ rfl,rfl,rfl⟩,?_⟩ ?_ (λR v S=>?_) (by simp;lia) λU D G H=>?_
  ·exact⟨_,L9 _ g,rfl,n,rfl⟩
  ·exact c.extBut (b:=l.objs.size) (λb o W e=>L9 _<|d b o e) q
  ·obtain⟨kv,I,t,key,m,po,rfl,i,J,L,r⟩:=P R v S;have e2:=d t _<|L9 _ i;refine⟨kv,I,⟨t,key,m,po,rfl,L9 _ e2,J,L,r⟩,λz=>?_,λz=>?_⟩
   ·have z:t=l.objs.size:=by injection z
    exact absurd z<|N7<|N2 e2
   ·have z:t=s.heap.objs.size:=by injection z
    rw[z,O] at i;cases i
  ·refine⟨rfl,h U D G λb o e=>?_⟩;have e2:=d b o<|L9 _ e;exact H b o (N7<|N2 e2) (N7<|N2 e)<|L9 _ e2
end
end PySem
namespace L2
open PySem PySem.Spec PyProof.Rows
theorem ud(I:Inv X pins σ H s):∀{ys:List V}{its:List Value}{ps:List (Key×V)},Vals ys its->ys.length=ps.length ->
  (∀(j:Nat) (y:V),ys[j]?=some y->∃ kv t,ps[j]?=some kv/\y=.ref t/\SqT X.K H t [kV kv.1,kv.2]) ->
  ∃ qs:List (Key×Value),KV ps qs/\∀(j:Nat) (v:Value),its[j]?=some v->∃ kv,qs[j]?=some kv/\jaS (js X.prog X.w) s.heap v kv
 | [],its,ps,b,a,c=>by
  cases b;have:ps=[]:=List.length_eq_zero_iff.mp a.symm;subst this;exact⟨[],.nil,λj v e=>by simp at e⟩
 | y::ys,its,[],b,a,c=>by simp at a
 | y::ys,its,kv::ps,b,a,c=>by
  cases b with
  | cons h i =>
   rename_i u C;obtain⟨qs,r,q⟩:=ud I (ps:=ps) i (by simpa using a) λj y e=>c (j+1) y (by simpa using e);obtain⟨k,t,l,rfl,d⟩:=c 0 y rfl;cases l;cases(show u=Value.ref t from h);obtain⟨f,m,⟨o,e,p,n,hd⟩,_⟩:=I.tuple d;cases m with
   | cons x z =>
    cases z with
    | cons A B =>
     cases B;rename_i key val;refine⟨(kv.1,val)::qs,.cons ⟨rfl,A⟩ r,λj v g=>?_⟩;cases j with
     | zero =>
      cases g;exact⟨_,rfl,t,key,n,o,rfl,e,p,hd,jax x⟩
     | succ j=>exact q j v (by simpa using g)
theorem jc4:∀{ps:List (Key×V)}{qs:List (Key×Value)}{a:List (Key×V)}{b:List (Key×Value)},KV ps qs->KV a b->KV (ps.foldl (λa kv=>kI a kv.1 kv.2) a) (qs.foldl (λa kv=>stored a kv.1 kv.2) b)
 | [],_,_,_,.nil,h=>h
 | p::ps,q::qs,a,b,.cons c d,h=>by
  rw[X7,X7];refine jc4 d ?_;have:=h.put p.1 c.2;rw[c.1] at this ⊢;exact this
def jhP{ps:List (Key×V)}:∀{qs:List (Key×V)},(ps.foldl (λa kv=>kI a kv.1 kv.2) qs).length<=qs.length+ps.length:=by
 induction ps with
 | nil=>intro qs;simp
 | cons p ps b =>
  intro qs;rw[X7];have c:=b (qs:=kI qs p.1 p.2);have d:(kI qs p.1 p.2).length<=qs.length+1:=by unfold kI;split<;>simp
  rw[M4]
  lia
def jap{X:Cx}(C:X.calm=true):qZ X (.type "dict") (λxs H Q=>∃(p:Addr) (ys:List V) (ps:List<|Key×V),xs=[.ref p]/\SqL X.K H p ys/\ys.length=ps.length/\ps.length<=100000 /\
  (∀(j:Nat) (y:V),ys[j]?=some y->∃ kv t,ps[j]?=some kv/\y=.ref t/\SqT X.K H t [kV kv.1,kv.2])/\∀ D,H D=none->Q (.ref D) (upd H D<|.dK<|ps.foldl (λa kv=>kI a kv.1 kv.2) [])):=by
 intro x s σ H xs R Q I r h;obtain⟨p,ys,ps,rfl,E,z,F,G,q⟩:=h;obtain⟨u,rfl,J⟩:=r.one;cases J;obtain⟨i,A,⟨o,n,e,b,c,d⟩,_⟩:=I.list E;obtain⟨oc,od,k,L⟩:=o;dsimp only at b c d;subst b c d;obtain⟨B,rel,l⟩:=ud I A z G;have f:i.toArray.size=B.length:=by rw[N4,<- A.length,z,rel.length]
 refine Vn (knd:=js X.prog X.w) (I.ok.hd C) e f (λj v M=>l j v<|by simpa using M) (by rw[<- rel.length];exact F) λS N hd O=>?_;have g:=jc4 rel (.nil:KV ([]:List<|Key×V) []);have m:=jhP (ps:=ps) (qs:=[]);have P:sizeLine=16777216:=by decide
 exact⟨.ref s.heap.objs.size,_,I.laid (a:=s.heap.objs.size) (o:=.dK<|ps.foldl (λa kv=>kI a kv.1 kv.2) []) (t':=N) O (N0 _)<|jfm (by simp at m;lia) (U3.mpr<|Ne.symm<|N7 I.big) g hd,rfl,q _<|I.hok.fresh<|N0 _⟩
def Inv.layAll(I:Inv X pins σ H s)(k:∀ b u,s.heap.get? b=some u->h'.get? b=some u)(a:∀ b,H b≠none->H' b=H b)
  (new:∀ b o,H b=none->H' b=some o->s.heap.objs.size<=b/\ObjOk X.prog X.w H' h' b o):Inv X pins σ H' { s with heap:=h',toks:=t' }:=by
 refine I.un ⟨λb u q _ _ _=>k b u q,λb u q _ _ _=>⟨u.slots,k b u q⟩,λb u q n _=>?_,λb u q _=>⟨u,k b u q⟩,λb f q=>?_,λb o u q=>?_,λb g q=>⟨#[],?_⟩⟩ λb o e=>?_
 ·cases e:H' b with
  | none=>rfl
  | some o=>exact absurd (N2 q)<|Nat.not_lt.mpr (new b o n e).1
 ·rw[a b<|by rw[q];exact λz=>nomatch z];exact q
 ·rw[a b<|by rw[q];exact λz=>nomatch z];exact q
 ·rw[a b (by rw[q];exact λz=>nomatch z),q];simp
 ·by_cases n:H b=none
  ·exact(new b o n e).2
  ·have d:=e;rw[a b n] at d;exact(I.hok b o d).stay (λc u _ q=>k c u q) (λc q=>by rw[a c<|by rw[q];exact λz=>nomatch z];exact q) λc f q=>by rw[a c<|by rw[q];exact λz=>nomatch z];exact q
def jlO(h:(js P w).is k u=true):RelV (kV k) u:=by
 rw[uY] at h;rcases jN h with⟨i,t,rfl,rfl⟩ | ⟨x,t,rfl,rfl⟩
 ·exact⟨t,rfl⟩
 ·exact⟨t,rfl⟩
def jR(H:Hp)(as:W5)(kvs:List<|Key×V)(l:Addr):Hp:=λb=>if b=l then some (.lst<|as.map V.ref) else
 match (as.zip kvs).find? (λp=>p.1==b) with
 | some p=>some<|.tup [kV p.2.1,p.2.2]
 | none=>H b
def Kq{as:W5}{kvs:List (Key×V)}(a:as.Nodup){j:Nat}{p:Key×V}(h1:as[j]?=some b)(h2:kvs[j]?=some p):(as.zip kvs).find? (λq=>q.1==b)=some (b,p):=by
 induction as generalizing kvs j with
 | nil=>simp at h1
 | cons c as d =>
  cases kvs with
  | nil=>simp at h2
  | cons q kvs =>
   rw[U8,List.find?_cons];cases j with
   | zero =>
    simp at h1 h2;subst h1;subst h2;simp
   | succ j =>
    simp at h1 h2;have e:c≠b:=λz=>(List.nodup_cons.mp a).1 (z▸List.mem_of_getElem? h1);have:(c==b)=false:=U3.mpr e;simp only[this];exact d (List.nodup_cons.mp a).2 h1 h2
def kj{as:W5}{kvs:List (Key×V)}(h:b∉as):(as.zip kvs).find? (λq=>q.1==b)=none:=by
 rw[List.find?_eq_none];intro q a z;have:q.1=b:=by simpa using z
 exact h<|this▸(List.of_mem_zip a).1
theorem jgT:∀{A:List (Key×V)}{B:List (Key×Value)}{j:Nat},KV A B->B[j]?=some (kk,x)->∃ y,A[j]?=some (kk,y)/\RelV y x
 | [],_,j,.nil,e=>by simp at e
 | p0::A,c::B,0,.cons a b,e=>by
  simp at e;subst e;refine⟨p0.2,?_,a.2⟩;have:p0.1=kk:=a.1;simp[<- this]
 | p0::A,c::B,j+1,.cons a b,e=>by
  obtain⟨y,d,e2⟩:=jgT (j:=j) b (by simpa using e);exact⟨y,by simpa using d,e2⟩
def z5(td:TE):TE:=λσ H Q=>td σ H λx H1=>∃ a kvs,x=.ref a/\Rd H1 a (.dK kvs)/\∀(l:Addr) (as:W5),H1 l=none->as.length=kvs.length->(l::as).Nodup->(∀ b∈as,H1 b=none)->Q (.ref l) (jR H1 as kvs l)
def jaW(V:X.calm=true)(Y:Gl X "list")(Z:X.mg "list" = none)(hv:bootBuiltins "list" = some (.type "list"))(ho:PE X o td)
  (n:attributeBase o "items" X.env (eval o X.env)=eval o X.env:=by rfl) (r:(apos.endLine==cpos.line)=true:=by rfl)
  (he:starEach [.Call (.Attribute o "items" apos) [] [] cpos] X.env=(false,eval (.Call (.Attribute o "items" apos) [] [] cpos) X.env)::starEach [] X.env:=by rfl)
  (G:(backTo pos<|starEach [] X.env).any (·.1)=false:=by rfl)
  (J:backTo pos (starEach [.Call (.Attribute o "items" apos) [] [] cpos] X.env)=[(false,eval (.Call (.Attribute o "items" apos) [] [] cpos) X.env)]:=by rfl) :
  PE X (.Call (.Name "list" p) [.Call (.Attribute o "items" apos) [] [] cpos] [] pos) (z5 td):=by
 intro C s σ H Q I h;refine wpAny_Call_Name_kw<|Je I Y Z hv ?_ (by decide) (by decide);refine PyProof.Rows.callWith_type1 ?_ he G;rw[J];refine Calls.spliced_cons<|wpAny_Call_method0_late n r<|thn (ho C s σ H _ I h) λv s1 hh=>?_;obtain⟨x,H1,l,r1,a,g,ex,ea,P⟩:=hh;subst ex;obtain rfl:v=Value.ref a:=r1;obtain⟨R,hd,K,L,dd⟩:=Q8 l.hok ea;obtain⟨t1,t2,_⟩:=wS l<|.inl ⟨g,ea⟩;refine⟨"dict","dict.items",PySem.F.plainAttrs_dict,PySem.F.slot_dict_items,PySem.F.type_dict_items,t1,t2,Calls.callWith_builtin rfl<|PySem.evalArgs_none ?_⟩;refine call_meetsIn PySem.F.slot_dict_items dd.typeIs PySem.F.entry_dict_items (PySem.F.args_dict_items_1 _) (meets_dict_items (js X.prog X.w) a hd) ⟨⟨K,dd⟩,?_⟩;refine Calls.spliced_nil ?_;obtain⟨ob,es,M,d1,d2⟩:=dd;have N:(s1.heap.push { cls:=.type "dict_items",data:=.fields #[.ref a] }).DictAt (js X.prog X.w) a K M:=⟨ob,es,L9 _ d1,d2⟩;refine PySem.W.kdx_call (s:={ s1 with heap:=s1.heap.push { cls:=.type "dict_items",data:=.fields #[.ref a] } }) (knd:=js X.prog X.w) (kvs:=K) (ep:=M) (l.ok.hd V) ⟨_,E6 _ rfl,rfl,rfl⟩ N (by rw[<- L.length];exact R) λh' tk acc c d hk S T D m=>?_;have i:(s1.heap.push ({ cls:=.type "dict_items",data:=.fields #[.ref a] }:Obj)).objs.size=s1.heap.objs.size+1:=Heap.size_push _ _;have O:∀ b u,s1.heap.get? b=some u->h'.get? b=some u:=λb u e=>hk b u<|L9 _ e;have nd:d.Nodup:=D.rise.imp λh=>N7 h;have t:d.length=g.length:=by rw[T,L.length]
 have k:∀ b∈d,s1.heap.objs.size<=b:=λb f=>by have q:(s1.heap.push ({ cls:=.type "dict_items",data:=.fields #[.ref a] }:Obj)).objs.size < b:=D.above b f;rw[i] at q;lia
 have E:∀ b∈d,b≠(s1.heap.push ({ cls:=.type "dict_items",data:=.fields #[.ref a] }:Obj)).objs.size:=λb f=>Nat.ne_of_gt<|D.above b f;refine⟨.ref _,jR H1 d g (s1.heap.push ({ cls:=.type "dict_items",data:=.fields #[.ref a] }:Obj)).objs.size,l.layAll O (λb f=>?_)<|λb u f e=>?_,rfl,P _ d (l.hok.fresh<|by rw[i];lia) t (List.nodup_cons.mpr ⟨λz=>E _ z rfl,nd⟩) λb f=>l.hok.fresh<|k b f⟩
 ·unfold jR;rw[if_neg<|λz=>f<|by rw[z];exact l.hok.fresh<|by rw[i];lia,kj λz=>f<|l.hok.fresh<|k b z]
 ·unfold jR at e;by_cases A:b=(s1.heap.push ({ cls:=.type "dict_items",data:=.fields #[.ref a] }:Obj)).objs.size
  ·rw[if_pos A] at e;cases e;subst A;refine⟨by rw[i];lia,by rw[L3,t];exact R,d.map Value.ref,c,?_,?_⟩
   ·clear S m D T nd t k E P
    induction d with
    | nil=>exact .nil
    | cons x d ih=>exact .cons rfl ih
   ·rw[S,<- m]
  ·rw[if_neg A] at e;by_cases B:b∈d
   ·obtain⟨j,U⟩:=List.mem_iff_getElem?.mp B;obtain⟨key,kk,x,e1,e2,e3⟩:=D.pairs j b U;obtain⟨y,ey,r1⟩:=jgT L e1;rw[Kq nd U ey] at e;cases e;exact⟨k b B,show 2<=sizeLine by decide,[key,x],.cons (jlO e2)<|.cons r1 .nil,⟨_,e3,rfl,0,rfl⟩,_,e3,rfl⟩
   ·rw[kj B] at e;exact absurd e (by rw[f];exact λz=>nomatch z)
structure KD(P:Program)(w:World)(K:W4)(a:Addr)(kvs:List<|Key×V):Prop where
 nm:(a==sysModules)=false
 dd:∀ h:Heap,K.In h->∃ vs,KV kvs vs/\h.DictOf (js P w) a vs
section
variable {prog:Program}{w:World}{A:Around}{E:J0}{s:Shared}
def jdn{j t:Addr}{n:Nat}{a:Array Value}{y:Value}{C:J0}(d:s.heap.IsTupleIter j t n)(e:s.heap.IsTuple t a)(f:a[n]?=some y)
  (go:∀ k,k.IsTupleIter j t (n+1)->Heap.SameBut j s.heap k->C y { s with heap:=k }):wpAny (model prog w) A (Builtin.SmallTypes.nextOf<|.ref j) C E s:=by
 obtain⟨i,c,g,b⟩:=id d;obtain⟨ot,gt,_,mt,h⟩:=e;delta Builtin.SmallTypes.nextOf;refine L4<|wpAny_callSpecial?_slot (name:=Str.ofString "__next__") d.typeIs F.slot_tuple_iterator_next<|wpAny_call_entry F.slot_tuple_iterator_next d.typeIs F.entry_tuple_iterator_next ?_<|F.args_tuple_iterator_next_1 _;show wpAny _ _ (field (.ref j) 0 >>= _) _ _ s;refine L4<|U7 c b (x:=.ref t) rfl ?_;show wpAny (model prog w) _ (if(Value.ref t==Value.none)=true then _ else _) _ _ s;rw[if_neg<|by exact M5];show wpAny _ _ (field (.ref j) 1 >>= _) _ _ s;refine L4<|U7 c b (x:=.int n 0) rfl ?_;show wpAny (model prog w) _ (seqItems? (.ref t) >>= _) _ _ s;refine L4<|wpAny_seqItems gt h ?_;simp only[N9,f];refine L4<|wpAny_setField c b (by simp)<|M8 ⟨y,rfl,M8<|go _ ⟨_,Heap.get?_update_self _ c<|Obj.isFreed_of_fields<|Obj.data_mapFields b _,(Obj.cls_mapFields ..).trans g,?_⟩<|Heap.SameBut.update ..⟩;rw[Obj.data_mapFields b];simp[rawInt]
variable {z TI TO j1 j2 l t:Addr}{m:Nat}{us vs:Array Value}{u v a b:Value}
end
def jlA(l:Addr)(items:Array Value)(n:Nat)(b:Addr)(a:Array Value)(e:Nat)(dd:Option Addr)(sl:Array<|Option Value)(g:¬(!items.isEmpty&&Builtin.List.listTooLong (items.size+a.size))=true)(h1:items.size<=sizeLine)(h2:items.size+a.size<=sizeLine+1) :
  Meets (Builtin.«list.extend» ⟨[.ref l,.ref b],[]⟩) (λ_ R s=>s.heap.get? l=some { cls:=.type "list",dict:=none,data:=.seq items n,slots:=#[] }/\s.heap.get? b=some { cls:=.type "list",dict:=dd,data:=.seq a e,slots:=sl }/\R (.ok<|.ret Value.none) { s with heap:=s.heap.update l (Obj.mapSeq λx=>x++a) }) :=
 .of_wp λprog w A R s h=>by
  rcases s with⟨i,j,k,m,os⟩;obtain⟨c,f,q⟩:=h;have o:=AutoSeq1.idx_int;have p:=AutoSeq1.sub_tuple_tuple;have r:=AutoSeq1.sub_list_list;have t:=AutoSeq1.sub_tuple_list;have u:=AutoSeq1.sub_list_tuple;have d:(items++a).size<=sizeLine+1:=by rw[Array.size_append];exact h2
  wp_walk using(wpAny_updateSeq c rfl (hz:=h1) (_hz':=d)),wpAny_loadPart' c,wpAny_loadPart' f
  exact⟨_,rfl,q⟩
def jmF(l:Addr)(items:Array Value)(n:Nat)(b:Addr)(a:Array Value)(e:Nat)(dd:Option Addr)(sl:Array<|Option Value)(g:¬(!items.isEmpty&&Builtin.List.listTooLong (items.size+a.size))=true)(h1:items.size<=sizeLine)(h2:items.size+a.size<=sizeLine+1) :
  Meets (Builtin.«list.extend» ⟨[.ref l,.ref b],[]⟩) (λ_ R s=>s.heap.get? l=some { cls:=.type "list",dict:=none,data:=.seq items n,slots:=#[] }/\s.heap.get? b=some { cls:=.type "tuple",dict:=dd,data:=.seq a e,slots:=sl }/\R (.ok<|.ret Value.none) { s with heap:=s.heap.update l (Obj.mapSeq λx=>x++a) }) :=
 .of_wp λprog w A R s h=>by
  rcases s with⟨i,j,k,m,os⟩;obtain⟨c,f,q⟩:=h;have o:=AutoSeq1.idx_int;have p:=AutoSeq1.sub_tuple_tuple;have r:=AutoSeq1.sub_list_list;have t:=AutoSeq1.sub_tuple_list;have u:=AutoSeq1.sub_list_tuple;have d:(items++a).size<=sizeLine+1:=by rw[Array.size_append];exact h2
  wp_walk using(wpAny_updateSeq c rfl (hz:=h1) (_hz':=d)),wpAny_loadPart' c,wpAny_loadPart' f
  exact⟨_,rfl,q⟩
def jf0(K:W4):V->List V->Hp->VK->Prop:=λx vs H Q=>∃ l b xs zs,x=.ref l/\vs=[.ref b]/\H l=some (.lst xs)/\(SqL K H b zs \/ SqT K H b zs)/\xs.length+zs.length<=sizeLine/\Q .non (upd H l<|.lst<|xs++zs)
def jgY:MtM X "list.extend" (jf0 X.K):=by
 intro t s σ H x B v C Q I rx y h;obtain⟨l,b,D,zs,rfl,rfl,m,g,w,q⟩:=h;cases rx;obtain⟨u,rfl,A⟩:=y.one;cases A;obtain⟨z,c,n,r,E,e⟩:=I.lstM m;rcases g with g | g
 ·obtain⟨a,r2,p2,_⟩:=I.list g;obtain⟨⟨cls,dd,data,j⟩,k,e2,i,hd,o⟩:=p2;simp only at i hd o
  first | subst i | skip
  have f:c.toArray.size+a.toArray.size<=sizeLine:=by rw[N4,N4,<- r.length,<- r2.length];exact w
  have d:¬ (!c.toArray.isEmpty&&Builtin.List.listTooLong (c.toArray.size+a.toArray.size))=true:=by
   rw[uc f,Bool.and_false];exact M5
  have p:s.heap.get? b=some { cls:=.type "list",dict:=dd,data:=.seq a.toArray k,slots:=j }:=by
   rw[e2];simp_all
  refine call_meets PySem.F.slot_list_extend ⟨_,e,rfl⟩ PySem.F.entry_list_extend (PySem.F.args_list_extend_2 _ _) (jlA l c.toArray n b a.toArray k dd j d (by lia)<|by lia) ⟨e,p,?_⟩;refine⟨.non,_,I.lset (its':=c++a) m e (by simp) (r.append r2) ?_,rfl,q⟩;rw[N5]
  lia
 ·obtain⟨a,r2,p2,_⟩:=I.tuple g;obtain⟨⟨cls,dd,data,j⟩,e2,i,k,hd⟩:=p2;simp only at i hd;subst i hd;have f:c.toArray.size+a.toArray.size<=sizeLine:=by rw[N4,N4,<- r.length,<- r2.length];exact w
  have d:¬ (!c.toArray.isEmpty&&Builtin.List.listTooLong (c.toArray.size+a.toArray.size))=true:=by
   rw[uc f,Bool.and_false];exact M5
  refine call_meets PySem.F.slot_list_extend ⟨_,e,rfl⟩ PySem.F.entry_list_extend (PySem.F.args_list_extend_2 _ _) (jmF l c.toArray n b a.toArray k dd j d (by lia)<|by lia) ⟨e,e2,?_⟩;refine⟨.non,_,I.lset (its':=c++a) m e (by simp) (r.append r2) ?_,rfl,q⟩;rw[N5]
  lia
def jbN:qZ X (.type "int") (λxs H Q=>∃ b:Bool,xs=[.bl b]/\Q (.int<|if b then 1 else 0) H):=by
 intro a s σ H xs d Q I r h;obtain⟨b,rfl,q⟩:=h;obtain⟨u,rfl,c⟩:=r.one;cases c;exact call_int_bool ⟨.int<|if b then 1 else 0,H,I.tok _,⟨_,rfl⟩,q⟩
section
def jjs(ft:TypeCalled T nw it)
  (c1:checkTypeCall T ⟨xs,kw⟩=pure ()) (d:checkBuiltinCall nw ⟨.type T::xs,kw⟩=pure ()) (f:entryFor table nw=some Bn) (i:entryFor table it=some Bi)
  (g:Meets (Bn ⟨.type T::xs,kw⟩) Sn) (h:Sn A.in1 (wants Q1 E) s)
  (nx:∀ obj s1,Q1 obj s1->s1.TypeIs obj T/\argsOk it ⟨obj::xs,kw⟩/\∃ Si,MeetsIn prog w (Bi ⟨obj::xs,kw⟩) Si/\Si A.in1 (wants (λr s2=>r=.none/\Q obj s2) E) s1) :
  wpAny (model prog w) A (call (.type T) xs kw) Q E s:=by
 obtain⟨c,p,q⟩:=ft.mro;have t:=ft.made;have u:=ft.sub;refine wpAny_call<|codeAny_of_tree ?_;show wpAny _ _ (callAny (.type T) _) _ _ _;refine M8 ⟨Code.quiet_builtin _<|by decide +kernel,codeAny_builtin F.entry_type_call ?_⟩;rw[Around.under_plain (weight_type_call_type T xs kw)<|units_type_call_type T xs kw];have v:=ft.notType;have x:=ft.canCreate
 repeat (any_goals (first | assumption | wp_step))
 refine codeAny_mono (codeAny_call_builtin ft.plain f<|wpAny_of_eq d<|g prog w A.in1 _ s h) λr s1 b=>?_;cases r with
 | error e=>exact b
 | ok j =>
  cases j with
  | ret obj =>
   obtain⟨k,l,Si,m,n⟩:=nx _ _ b;have y:=ft.init.lookup;have z:=ft.init.bind obj
   repeat (any_goals (first | assumption | wp_step))
   refine codeAny_mono (codeAny_call_builtin ft.init.plain i<|ft.init.check _ _ _ _ _ _ _ _ k l<|m A.in1 _ s1 n) λr2 s2 a=>?_;cases r2 with
   | error e=>exact a
   | ok o =>
    cases o with
    | ret r =>
     obtain⟨rfl,B⟩:=a
     repeat (any_goals (first | assumption | wp_step))
    | _=>exact a.elim
  | _=>exact b.elim
def jiE(c:typeLookup (.type T) "__init__" = pure (some<|.builtin "object.__init__"))
  (d:Bind.madeBy (.type T)=pure (some nw)) (e:(some nw != some "object.__new__")=true) :
  Meets (Builtin.«object.__init__» ⟨self::x::xs,kw⟩) (λ_ R s=>s.TypeIs self T/\R (.ok<|.ret .none) s):=by
 refine Meets.of_wp λprog w A R s a=>?_;obtain⟨f,b⟩:=a
 repeat (any_goals (first | assumption | wp_step))
 exact⟨_,rfl,b⟩
def jls(a b:Value):checkTypeCall "enumerate" ⟨[a],[("start",b)]⟩=pure ():=by kernel_rfl
def jlD(a b:Value):checkBuiltinCall "enumerate.__new__" ⟨[.type "enumerate",a],[("start",b)]⟩=pure ():=by kernel_rfl
def jlH(a b c:Value):argsOk "object.__init__" ⟨[a,b],[("start",c)]⟩:=by
 unfold argsOk;rw[signature?_of (id:="object.__init__") (n:=['_','_','t','i','n','i','_','_']) (o:=['t','c','e','j','b','o']) (by kernel_rfl) F.owner_object];kernel_rfl
open AutoSeq1 (wpAny_loadPart') in
def jgx(l:Addr)(us:Array Value)(m:Nat)(dc:Option Addr)(sl:Array<|Option Value)(n:Int)(t:Tok)(j:Builtin.SmallTypes.fitsIndex n=true) :
  Meets (Builtin.«enumerate.__new__» ⟨[.type "enumerate",.ref l],[("start",.int n t)]⟩) (λ_ R s=>s.heap.get? l=some { cls:=.type "list",dict:=dc,data:=.seq us m,slots:=sl } /\
   R (.ok<|.ret<|.ref (s.heap.push { cls:=.type "list_iterator",data:=.fields #[.ref l,.int 0 0] }).objs.size)
    { s with heap:=(s.heap.push { cls:=.type "list_iterator",data:=.fields #[.ref l,.int 0 0] }).push { cls:=.type "enumerate",data:=.fields #[.none,.bool false,.ref s.heap.objs.size,rawInt n,.none,.none] } }) :=
 .of_wp λprog w A R s h=>by
  obtain⟨f,g,d,i,os⟩:=s;obtain⟨a,h⟩:=h;have e:=sub_enumerate;have b:Heap.IsList (Shared.heap ⟨f,g,d,i,os⟩) l us:=⟨_,a,rfl,m,rfl⟩
  wp_walk using wpAny_loadPart' a
  refine wpAny_stack_any λk=>M8 ?_;split
  ·rename_i c _ _ _ _ _;cases(c==Value.type "enumerate")
   ·wp_walk using wpAny_loadPart' a,wpAny_pyIter_list b
    exact⟨_,rfl,h⟩
   ·wp_walk using wpAny_loadPart' a,wpAny_pyIter_list b
    exact⟨_,rfl,h⟩
  ·wp_walk using wpAny_loadPart' a,wpAny_pyIter_list b
   exact⟨_,rfl,h⟩
def jgf(f:s.heap.IsList l us)(g:Builtin.SmallTypes.fitsIndex n=true)
  (go:∀ k,IsEnum k (s.heap.objs.size+1) s.heap.objs.size n .none->k.IsListIter s.heap.objs.size l 0->(∀ b o,s.heap.get? b=some o->k.get? b=some o)->C (.ref<|s.heap.objs.size+1) { s with heap:=k }) :
  wpAny (model prog w) A (call (.type "enumerate") [.ref l] [("start",.int n t)]) C E s:=by
 obtain⟨⟨c,h,i,j⟩,p,a,m,hd⟩:=f;replace a:c=.type "list":=a;replace hd:i=.seq us m:=hd;subst a hd;refine jjs (Q1:=λobj s1=>s1.TypeIs obj "enumerate"/\C obj s1) F.called_enumerate (jls _ _) (jlD _ _) F.entry_enumerate_new F.entry_object_init (jgx l us m h j n t g) ⟨p,?_⟩
  λobj _ q=>⟨q.1,jlH _ _ _,_,(jiE F.called_enumerate.init.lookup F.called_enumerate.made<|by decide).inModel _ _,q.1,rfl,q.2⟩
 have d:(s.heap.push { cls:=.type "list_iterator",data:=.fields #[.ref l,.int 0 0] }).objs.size=s.heap.objs.size+1:=Heap.size_push ..;show _/\_;rw[d];have e:IsEnum ((s.heap.push { cls:=.type "list_iterator",data:=.fields #[.ref l,.int 0 0] }).push { cls:=.type "enumerate",data:=.fields #[.none,.bool false,.ref s.heap.objs.size,rawInt n,.none,.none] }) (s.heap.objs.size+1) s.heap.objs.size n .none:=by
  have q:=E6 (s.heap.push { cls:=.type "list_iterator",data:=.fields #[.ref l,.int 0 0] }) (o:={ cls:=.type "enumerate",data:=.fields #[.none,.bool false,.ref s.heap.objs.size,rawInt n,.none,.none] }) rfl;rw[d] at q;exact q
 exact⟨⟨_,e,rfl⟩,go _ e ⟨_,L9 _<|E6 _ rfl,rfl,rfl⟩ λb o x=>L9 _<|L9 _ x⟩
def jgi{A:Around}{E:J0}{s:Shared}{i:Nat}{n:Int}{us:Array Value}{C:J0}
  (H:IsEnum s.heap e it n was) (hi:s.heap.IsListIter it l i) (P:s.heap.IsList l us) (Q:us[i]?=some x) (ne:e≠it)
  (go:∀ k,IsEnumOut k e it (n+1) x s.heap.objs.size->k.IsListIter it l (i+1)->k.get? s.heap.objs.size=some { cls:=.type "tuple",data:=.seq #[.int n s.toks,x] } ->
   (∀ b o,b≠e->b≠it->s.heap.get? b=some o->k.get? b=some o)->C (.ref s.heap.objs.size) { s with heap:=k,toks:=s.toks+1 }) :
  wpAny (model prog w) A (Builtin.«enumerate.__next__» ⟨[.ref e],[]⟩) (λfin s'=>∃ v,fin=.done (.ret v)/\C v s') E s:=by
 obtain⟨c,g,d,a,os⟩:=s;show wpAny _ _ (field (.ref e) 2 >>= _) _ _ _;refine L4<|U7 H rfl (x:=.ref it) rfl<|L4<|wpAny_nextOf_list_item hi P Q λf O m=>?_;replace m:Heap.SameBut it c f:=m;have B:IsEnum f e it n was:=(m.2 e ne).trans H;show wpAny _ _ (field (.ref e) 3 >>= _) _ _ ⟨f,g,d,a,os⟩;refine L4<|U7 B rfl (x:=rawInt n) rfl ?_;show wpAny _ _ (field (.ref e) 4 >>= _) _ _ ⟨f,g,d,a,os⟩;refine L4<|U7 B rfl (x:=.none) rfl ?_;show wpAny _ _ (mkInt n >>= _) _ _ ⟨f,g,d,a,os⟩;refine L4<|wpAny_mkInt ?_;show wpAny _ _ (setField (.ref e) 3 (rawInt<|n+1) >>= _) _ _ ⟨f,g,d,a+1,os⟩;refine L4<|wpAny_setField_rec B (by simp) λt e2 p=>?_;replace p:Heap.SameBut e f t:=p;replace e2:IsEnum t e it (n+1) was:=e2;show wpAny _ _ (setField (.ref e) 4 .none >>= _) _ _ ⟨t,g,d,a+1,os⟩;refine L4<|wpAny_setField_rec e2 (by simp) λh e3 q=>?_;replace q:Heap.SameBut e t h:=q;replace e3:IsEnum h e it (n+1) was:=e3;show wpAny _ _ (newTuple [.int n a,x] >>= _) _ _ ⟨h,g,d,a+1,os⟩;refine L4<|wpAny_newTuple ?_;have D:IsEnum (h.push { cls:=.type "tuple",data:=.seq #[.int n a,x] }) e it (n+1) was:=L9 _ e3;generalize F:h.push { cls:=.type "tuple",data:=.seq #[.int n a,x] }=k4 at D;have I:h.objs.size=c.objs.size:=by rw[q.1,p.1,m.1]
 have lt:e < c.objs.size:=N2 H;have R:k4.get? c.objs.size=some { cls:=.type "tuple",data:=.seq #[.int n a,x] }:=by rw[<- F,<- I];exact E6 _ rfl
 have kp:∀ b o,b≠e->b≠it->c.get? b=some o->k4.get? b=some o:=λb o j J K=>by
  rw[<- F];exact L9 _<|q.extBut b o j<|p.extBut b o j<|m.extBut b o J K
 have S:k4.IsListIter it l (i+1):=by
  rw[<- F];obtain⟨o,T,r⟩:=(O.extBut p.extBut ne.symm).extBut q.extBut ne.symm;exact⟨o,L9 _ T,r⟩
 show wpAny _ _ (Builtin.SmallTypes.ownedTupleIsFree (.ref e) >>= _) _ _ ⟨k4,g,d,a+1,os⟩;rw[I];clear F e3 q e2 p B m O I h t f;refine L4 ?_;delta Builtin.SmallTypes.ownedTupleIsFree;refine L4<|U7 D rfl (x:=.none) rfl<|M8 ?_;simp only[if_true];refine L4<|wpAny_rule<|L4<|U7 D rfl (x:=was) rfl<|L4<|wpAny_setField_rec D (by simp) λG e5 u=>?_;replace u:Heap.SameBut e k4 G:=u;replace e5:IsEnum G e it (n+1) x:=e5;show wpAny _ _ (Builtin.SmallTypes.ownedTupleHandOut (.ref e) (.ref c.objs.size) >>= _) _ _ ⟨G,g,d,a+1,os⟩;refine L4 ?_;delta Builtin.SmallTypes.ownedTupleHandOut;refine L4<|wpAny_setField_rec e5 (by simp) λL M y=>?_;replace y:Heap.SameBut e G L:=y;replace M:IsEnumOut L e it (n+1) x c.objs.size:=M;refine wpAny_setField_rec M (by simp) λN e7 z=>?_;replace z:Heap.SameBut e L N:=z;replace e7:IsEnumOut N e it (n+1) x c.objs.size:=e7;refine L4<|wpAny_letGo<|M8 ⟨_,rfl,go N e7 ?_ ?_ ?_⟩
 ·exact((S.extBut u.extBut ne.symm).extBut y.extBut ne.symm).extBut z.extBut ne.symm
 ·exact z.extBut _ _ (Nat.ne_of_gt lt)<|y.extBut _ _ (Nat.ne_of_gt lt)<|u.extBut _ _ (Nat.ne_of_gt lt) R
 ·exact λb o j J K=>z.extBut b o j<|y.extBut b o j<|u.extBut b o j<|kp b o j J K
def jgs 
  (a:IsEnum s.heap e it n was) (hi:s.heap.IsListIter it l i) (c:s.heap.IsList l us) (d:us[i]?=some x) (ne:e≠it)
  (go:∀ k,IsEnumOut k e it (n+1) x s.heap.objs.size->k.IsListIter it l (i+1)->k.get? s.heap.objs.size=some { cls:=.type "tuple",data:=.seq #[.int n s.toks,x] } ->
   (∀ b o,b≠e->b≠it->s.heap.get? b=some o->k.get? b=some o)->C (some<|.ref s.heap.objs.size) { s with heap:=k,toks:=s.toks+1 }):wpAny (model prog w) A (pyNext<|.ref e) C E s:=by
 have ty:s.TypeIs (.ref e) "enumerate":=⟨_,a,rfl⟩;unfold pyNext;exact L4<|wpAny_attempt<|wpAny_callSpecial?_slot (name:=Str.ofString "__next__") ty F.slot_enumerate_next<|wpAny_call_entry F.slot_enumerate_next ty F.entry_enumerate_next (jgi a hi c d ne λk c1 f g h=>M8<|go k c1 f g h)<|F.args_enumerate_next_1 _
def jge(d:A.handled=none)
  (c:IsEnum s.heap e it n was) (hi:s.heap.IsListIter it l i) (f:s.heap.IsList l us) (a:us[i]?=none)
  (go:∀ k,Heap.ExtBut it s.heap k->C none { s with heap:=k }):wpAny (model prog w) A (pyNext<|.ref e) C E s:=by
 have ty:s.TypeIs (.ref e) "enumerate":=⟨_,c,rfl⟩;unfold pyNext;refine L4<|wpAny_attempt<|wpAny_callSpecial?_slot (name:=Str.ofString "__next__") ty F.slot_enumerate_next<|wpAny_call_entry F.slot_enumerate_next ty F.entry_enumerate_next ?_<|F.args_enumerate_next_1 _;show wpAny _ _ (field (.ref e) 2 >>= _) _ _ _;refine L4<|U7 c rfl (x:=.ref it) rfl<|L4<|wpAny_nextOf_list_end d hi f a λk x b a=>?_;obtain⟨o,g,h⟩:=a;exact L4<|wpAny_isInstance (T:="StopIteration") (b:=true) ⟨o,g,h⟩ isSubtype_stop<|M8<|go _ b
end
def Itn(K:W4)(l:Addr)(n:Int):It :=
 ⟨λi H=>∃ xs x,SqL K H l xs/\xs[i]?=some x,λi H x H'=>∃ p v,(∀ xs,SqL K H l xs->xs[i]?=some v)/\x=.ref p/\H p=none/\H'=upd H p (.tup [.int<|n+i,v]),λi H=>∃ xs,SqL K H l xs/\xs.length<=i⟩
def jgg{P:Program}{w:World}{K:W4}{t:List Expr}{m:Nat}{pos:Pos}(e a l:Addr)(n:Int)(y:e≠a)(hle:l≠e)(hli:l≠a) :
  Turn P w K (.Tuple t m pos) (Itn K l n) [e,a] e (λi h=>(∃ old,IsEnum h e a (n+i) old)/\h.IsListIter a l i) where
 mem:=by simp
 obj:=λi h d b f=>by
  obtain⟨⟨old,g⟩,o,L,M,hd⟩:=d;rcases(by simpa using f:b=e \/ b=a) with z | z
  ·subst z;exact⟨_,g,λv q=>by cases q⟩
  ·subst z;exact⟨o,L,λv q=>by rw[hd] at q;cases q⟩
 keep:=λi h h' d k=>by
  obtain⟨⟨old,g⟩,hit⟩:=d;exact⟨⟨old,k e (by simp) _ g⟩,hit.at λo q=>k a (by simp) o q⟩
 item:=by
  intro X N O Q M i A s σ H E I G d R;subst N O Q;obtain⟨xs,x,J,S⟩:=R;obtain⟨B,U,p,hz⟩:=I.list J;obtain⟨u,hu,ru⟩:=U.get S;obtain⟨⟨old,g⟩,hit⟩:=d;refine jgs g hit p.isList (x:=u) (by simpa using hu) y λV L C hT hk=>?_;refine⟨_,rfl,wpAny_letOwnedTupleGo_enum (s:={ s with heap:=V,toks:=s.toks+1 }) L λD Y c=>?_⟩;replace c:Heap.SameBut e V D:=c;have j:e < s.heap.objs.size:=N2 g;have F:D.get? s.heap.objs.size=_:=(c.2 _<|Nat.ne_of_gt j).trans hT;have kk:∀ b o,b∉[e,a]->s.heap.get? b=some o->D.get? b=some o:=λb o f q=>by
   have r:b≠e/\b≠a:=by simpa using f
   exact(c.2 b r.1).trans (hk b o r.1 r.2 q)
  have I1:=I.turnedNew (h':=D) (t':=s.toks+1) (wr:=[e,a]) (T:=s.heap.objs.size) (xs:=[.int<|n+i,x]) (its:=#[.int (n+i) s.toks,u]) kk G (N0 _) ⟨⟨_,F,rfl,_,rfl⟩,_,F,rfl⟩ (.cons ⟨_,rfl⟩<|.cons ru .nil) (by show 2<=sizeLine;decide);have Z:IsEnum D e a (n+((i+1:Nat):Int)) u:=by
   have q:=Y;rw[show n+((i+1:Nat):Int)=n+i+1 by lia];exact q
  refine⟨.ref s.heap.objs.size,_,I1,rfl,⟨_,x,(λys hy=>by rw[I.list_inj hy J];exact S),rfl,I.hok.fresh<|N0 _,rfl⟩,⟨⟨_,Z⟩,C.at λo q=>(c.2 a y.symm).trans q⟩,λb f=>?_⟩;rw[jg]
  ·exact(G b f).1
  ·intro z;have:b < s.heap.objs.size:=by
    obtain⟨oi,hoi,_⟩:=id hit;rcases(by simpa using f:b=e \/ b=a) with q | q
    ·rw[q];exact j
    ·rw[q];exact N2 hoi
   exact absurd this (by rw[z];exact Nat.lt_irrefl _)
 done:=by
  intro X N O Q M i A s σ H E I G d R;subst N O Q;obtain⟨xs,J,S⟩:=R;obtain⟨B,U,p,hz⟩:=I.list J;obtain⟨⟨old,g⟩,hit⟩:=d;have hl:=U.length;exact jge (I.ok.hd M) g hit p.isList (by simp;lia) λV eb=>⟨rfl,I.turnedL (t':=s.toks) (wr:=[e,a]) (λb o f q=>eb b o (by simp at f;exact f.2) q) G⟩
 self:=λ_ _ _ _ _ d h=>wpAny_pyIter_enum d.1.choose_spec h
def jmx(K:W4)(tl:TA)(tb:TE):TI:=λσ H R=>tl σ H λvs H1=>tb σ H1 λv H2=>∃ a xs n,vs=[.ref a]/\v=.int n/\Builtin.SmallTypes.fitsIndex n=true/\SqL K H2 a xs/\R (Itn K a n) H2
def jl6{X:Cx}{d:List Expr}{m:Nat}{tpos p pos kpos:Pos}{a b:Expr}{ta:TA}{tb:TE}(G:Gl X "enumerate")(J:X.mg "enumerate" = none)(L:PA X [a] ta)(k:PE X b tb)(C:starEach [a] X.env=[(false,eval a X.env)]:=by rfl) :
  PI X (.Tuple d m tpos) (.Call (.Name "enumerate" p) [a] [⟨some "start",b,kpos⟩] pos) (jmx X.K ta tb):=by
 intro c s σ H R I h;refine wpAny_Call_Name_kw<|Je I G J (show bootBuiltins "enumerate" = some (.type "enumerate") by decide +kernel) ?_;unfold callWith;have B:((backTo pos<|starEach [a] X.env).any (·.1)||(backToKw pos<|keywordEach [⟨some "start",b,kpos⟩] X.env).any (·.1.isNone))=false:=by rw[C];rfl
 rw[B];refine L4<|wpAny_holding ?_;have D:=L pos c s σ H _ I h;rw[C] at D ⊢;refine wpAny_mono (evalArgs_kw (Q:=λx s1=>wpAny (model X.prog X.w) X.A (call (.type "enumerate") x.pos x.kw) (λv s1=>wpAny (model X.prog X.w) X.A (pyIter v) (PIE X c σ (.Tuple d m tpos) R) X.xe s1) X.xe s1) rfl<|thn D λus s1 ⟨vs,M,N,r1,O⟩=>?_) (λx s1 i=>L4<|wpAny_standAt ?_) λ_ _ x=>x
 ·refine wpAny_evalAll_cons ?_;show wpAny _ _ (eval b X.env >>= λv=>standAt pos >>= λ_=>pure v) _ _ _;refine L4<|thn (k c s1 σ M _ N O) λv s2 ⟨y,E,j,r2,P⟩=>L4<|wpAny_standAt<|M8<|wpAny_evalAll_nil ?_;obtain⟨l,xs,n,rfl,rfl,S,T,q⟩:=P;obtain⟨u,rfl,U⟩:=r1.one;cases U;obtain⟨t,rfl⟩:=r2;obtain⟨V,rv,pl,hz⟩:=j.list T;have f:l < s2.heap.objs.size:=by
   obtain⟨o,_,e,_⟩:=pl;exact N2 e
  refine jgf pl.isList S λi F hit W=>?_;have Y:Inv X c σ E { s2 with heap:=i }:=j.kept (t':=s2.toks) W;refine PySem.wpAny_pyIter_enum (s:={ s2 with heap:=i }) F ?_;refine⟨s2.heap.objs.size+1,[s2.heap.objs.size+1,s2.heap.objs.size],_,_,E,rfl,Y,jgg _ _ l n (Nat.succ_ne_self _) (N7<|Nat.lt_succ_of_lt f)<|N7 f,⟨⟨_,by simpa using F⟩,hit⟩,λb k=>?_,q⟩;have g:s2.heap.objs.size<=b:=by
   rcases(by simpa using k:b=s2.heap.objs.size+1 \/ b=s2.heap.objs.size) with z | z
   ·rw[z];exact Nat.le_succ _
   ·rw[z];exact N0 _
  exact j.fpOk g<|j.hok.fresh g
 ·refine L4<|M8 ?_;exact L4<|wpAny_mono i (λr s2 Z=>L4<|wpAny_holding<|wpAny_point<|M8 Z) λ_ _ x=>x
section
variable {prog:Program}{w:World}{A:Around}{E:J0}{s:Shared}
def jh3{j t:Addr}{n:Nat}{b:Array Value}{C:J0}(g:A.handled=none)(c:s.heap.IsTupleIter j t n)(h:s.heap.IsTuple t b)(i:b[n]?=none)
  (go:∀ k e,Heap.ExtBut j s.heap k->(∃ o,k.get? e=some o/\o.cls=.type "StopIteration")->E (.ref e) { s with heap:=k }):wpAny (model prog w) A (Builtin.SmallTypes.nextOf<|.ref j) C E s:=by
 obtain⟨p,d,q,f⟩:=id c;obtain⟨ot,gt,_,mt,l⟩:=h;delta Builtin.SmallTypes.nextOf;refine L4<|wpAny_callSpecial?_slot (name:=Str.ofString "__next__") c.typeIs F.slot_tuple_iterator_next<|wpAny_call_entry F.slot_tuple_iterator_next c.typeIs F.entry_tuple_iterator_next ?_<|F.args_tuple_iterator_next_1 _;show wpAny _ _ (field (.ref j) 0 >>= _) _ _ s;refine L4<|U7 d f (x:=.ref t) rfl ?_;show wpAny (model prog w) _ (if(Value.ref t==Value.none)=true then _ else _) _ _ s;rw[if_neg<|by exact M5];show wpAny _ _ (field (.ref j) 1 >>= _) _ _ s;refine L4<|U7 d f (x:=.int n 0) rfl ?_;show wpAny (model prog w) _ (seqItems? (.ref t) >>= _) _ _ s;refine L4<|wpAny_seqItems gt l ?_;simp only[N9,i];refine L4<|wpAny_rule<|L4<|wpAny_setField d f (by simp) ?_;show wpAny _ _ (newExc (.type "StopIteration") [] >>= _) _ _ _;refine L4 ?_;simp only[newExc,newTuple];refine L4<|wpAny_newObj_type ?_ (by size_fits);refine L4 (m:=firstArgMember _ _)<|wpAny_of_eq (a:=Value.none) (by first | rfl | (simp only[firstArgMember];rfl)) ?_;refine wpAny_newObj_type ?_ (by size_fits);simp only[raiseNew];refine L4<|wpAny_handled ?_
 first | rw[show A.in1.handled=none from g] | rw[g]
 refine L4<|M8<|wpAny_throw ?_;exact go _ _ (((Heap.SameBut.update ..).extBut.push _).push _) ⟨_,E6 _ rfl,rfl⟩
variable {z TI TO j1 j2 l t:Addr}{m:Nat}{us vs:Array Value}{u v a b:Value}
end
end L2
namespace PySem
open Sem (wp)
namespace F
end F
end PySem
namespace L2
open PySem PySem.Spec PyProof.Rows
def Jc:entryFor table "dict_itemiterator.__iter__" = some Builtin.«dict_keyiterator.__iter__» :=
 entryFor_alias (id':="dict_keyiterator.__iter__") (by kernel_rfl) rfl (by decide +kernel) (by kernel_rfl)
def Kn(hit:IsItemIter s.heap it d i n ep ok ov)(h:Q (.ref it) s):wpAny (model prog w) A (pyIter<|.ref it) Q E s:=by
 have a:s.TypeIs (.ref it) "dict_itemiterator":=⟨_,hit,rfl⟩;refine wpAny_pyIter_slot a PySem.F.slot_dict_itemiterator_iter<|wpAny_call_entry PySem.F.slot_dict_itemiterator_iter a Jc ?_<|PySem.F.args_dict_itemiterator_iter_1 _;show wpAny _ _ (ret<|.ref it) _ _ s;exact M8 ⟨_,rfl,"dict_itemiterator",_,a,PySem.F.slot_dict_itemiterator_next.lookup,h⟩
theorem Yn(val:Nat->Int)(ns:List Int)(h:∀ i x,ns[i]?=some x->val i=x):∀ j,j<=ns.length->preSum val j=(ns.take j).sum
 | 0,_=>by simp[preSum]
 | j+1,b=>by
  have a:ns[j]?=some ns[j]:=E4 (by lia);have e:ns.take (j+1)=ns.take j++[ns[j]]:=by rw[List.take_add_one,a];rfl
  rw[preSum,Yn val ns h j<|by lia,e,h j _ a,List.sum_append];simp
def jgc(to:TE):TE:=λσ H Q=>to σ H λx H1=>∃(a:Addr) (kvs:List<|Key×V) (ns:List Int),x=.ref a/\Rd H1 a (.dK kvs)/\kvs.map (·.2)=ns.map V.int/\Q (.int ns.sum) H1
def jgl(S:X.calm=true)(T:Gl X "sum")(U:X.mg "sum" = none)(W:bootBuiltins "sum" = some (.builtin "sum"))(Y:PE X o to)
  (f:attributeBase o "values" X.env (eval o X.env)=eval o X.env:=by rfl) (g:(apos.endLine==cpos.line)=true:=by rfl)
  (Z:starEach [.Call (.Attribute o "values" apos) [] [] cpos] X.env=(false,eval (.Call (.Attribute o "values" apos) [] [] cpos) X.env)::starEach [] X.env:=by rfl)
  (E:(backTo pos<|starEach [] X.env).any (·.1)=false:=by rfl)
  (G:backTo pos (starEach [.Call (.Attribute o "values" apos) [] [] cpos] X.env)=[(false,eval (.Call (.Attribute o "values" apos) [] [] cpos) X.env)]:=by rfl) :
  PE X (.Call (.Name "sum" p) [.Call (.Attribute o "values" apos) [] [] cpos] [] pos) (jgc to):=by
 intro m s σ H Q I h;refine wpAny_Call_Name_kw<|Je I T U W ?_ (by decide) (by decide);refine PyProof.Rows.callWith_builtin1 ?_ Z E;rw[G];refine Calls.spliced_cons<|wpAny_Call_method0_late f g<|thn (Y m s σ H _ I h) λv s1 ⟨x,H1,D,r1,a,j,ns,ex,ea,en,q1⟩=>?_;subst ex;obtain rfl:v=Value.ref a:=r1;obtain⟨hz,hd,c,N,dd⟩:=Q8 D.hok ea;obtain⟨t1,t2,_⟩:=wS D<|.inl ⟨j,ea⟩;refine⟨"dict","dict.values",PySem.F.plainAttrs_dict,PySem.F.slot_dict_values,PySem.F.type_dict_values,t1,t2,Calls.callWith_builtin rfl<|PySem.evalArgs_none ?_⟩;refine call_meetsIn PySem.F.slot_dict_values dd.typeIs PySem.F.entry_dict_values (PySem.F.args_dict_values_1 _) (meets_dict_values (js X.prog X.w) a hd) ⟨⟨c,dd⟩,?_⟩;refine Calls.spliced_nil ?_;obtain⟨ob,es,J,O,d2⟩:=id dd;have r:(s1.heap.push { cls:=.type "dict_values",data:=.fields #[.ref a] }).DictAt (js X.prog X.w) a c J:=⟨ob,es,L9 _ O,d2⟩;have K:(s1.heap.push { cls:=.type "dict_values",data:=.fields #[.ref a] }).IsValuesView s1.heap.objs.size a:=⟨_,E6 _ rfl,rfl,rfl⟩;have l:∀ b u,s1.heap.get? b=some u->(s1.heap.push ({ cls:=.type "dict_values",data:=.fields #[.ref a] }:Obj)).get? b=some u:=λb u q=>L9 _ q;have d:a < (s1.heap.push ({ cls:=.type "dict_values",data:=.fields #[.ref a] }:Obj)).objs.size:=N2<|l a ob O;refine call_sum_walkG ?_;refine wpAny_pyIter_values (s:={ s1 with heap:=s1.heap.push { cls:=.type "dict_values",data:=.fields #[.ref a] } }) (knd:=js X.prog X.w) K r ?_;generalize s1.heap.push ({ cls:=.type "dict_values",data:=.fields #[.ref a] }:Obj)=hp2 at *;have P:∀ b u,hp2.get? b=some u->(hp2.push ({ cls:=.type "dict_valueiterator",data:=.fields #[.ref a,.int 0 0,.int c.length 0,.int J 0] }:Obj)).get? b=some u:=λb u q=>L9 _ q;have R:=N.length;have B:∀ i k v,c[i]?=some (k,v)->∃ t,v=Value.int (ns.getD i 0) t:=λi k v hi=>by
  obtain⟨y,hy,ry⟩:=jgT N hi;have C:(j.map (·.2))[i]?=some y:=by rw[List.getElem?_map,hy];rfl
  rw[en,List.getElem?_map] at C;cases hn:ns[i]? with
  | none=>rw[hn] at C;cases C
  | some n =>
   rw[hn] at C;cases C;obtain⟨t,rfl⟩:=ry;exact⟨t,by rw[List.getD_eq_getElem?_getD,hn];rfl⟩
 refine⟨hp2.objs.size,[hp2.objs.size,a],[hp2.objs.size],c.length,_,_,λi=>ns.getD i 0,rfl,Walks.dictValues (A:=X.A.in1) (knd:=js X.prog X.w) (D.ok.hd S) hp2.objs.size a (N7 d) c J,⟨⟨_,E6 _ rfl,rfl,rfl⟩,r.at' λo e=>P a o e⟩,λb hb=>?_,λi v ⟨k,hi⟩=>B i k v hi,λh' tk t' L=>?_⟩
 ·rw[Heap.size_push];rcases(by simpa using hb:b=hp2.objs.size \/ b=a) with z | z
  ·rw[z];exact Nat.lt_succ_self _
  ·rw[z];exact Nat.lt_succ_of_lt d
 ·have hns:ns.length=c.length:=by
   have:(j.map (·.2)).length=(ns.map V.int).length:=by rw[en]
   rw[L3,L3] at this
   lia
  have e:preSum (λi=>ns.getD i 0) c.length=ns.sum:=by
   rw[Yn _ ns (λi x hx=>by rw[List.getD_eq_getElem?_getD,hx];rfl) c.length<|by lia,List.take_of_length_le<|by lia]
  rw[e];refine⟨.int ns.sum,H1,D.kept<|λb u q=>L b u ?_<|P b u<|l b u q,⟨_,rfl⟩,q1⟩;have M:=N2<|l b u q;simp;exact N7 M
end L2
namespace PySem
open Sem (wp)
section
variable {prog:Program}{w:World}{K:Type} [DecidableEq K] {knd:KeyKind prog w K}{A:Around}{E:J0}{s:Shared}
def qr(x:IsTupleKey knd h k a)(c:∀ o,h.get? a=some o->h'.get? a=some o):IsTupleKey knd h' k a:=by
 obtain⟨o,b,n,d,e,f,g⟩:=x;exact⟨o,b,n,c o d,e,f,g⟩
def Vb{h h':Heap}{xs:List (List K×Addr×Value)}(d:h.DictOfH (tupleKind knd) D xs)(b:∀ o,h.get? D=some o->h'.get? D=some o)(c:∀ x∈xs,∀ o,h.get? x.2.1=some o->h'.get? x.2.1=some o):h'.DictOfH (tupleKind knd) D xs:=by
 obtain⟨o,e,f,g,i,j,k,l,m⟩:=d;exact⟨o,e,f,b o g,i,j,k,λx a=>qr (l x a)<|c x a,m⟩
def wg(knd:KeyKind prog w K)(h:Heap)(v:Value)(kv:List K×Addr×Value):Prop:=∃ p m o,v=.ref p/\h.get? p=some o/\o.cls=.type "tuple"/\o.data=.seq #[.ref kv.2.1,kv.2.2] m/\IsTupleKey knd h kv.1 kv.2.1
def xL{xs:List (List K×Addr×Value)}{k:List K}{x:List K×Addr×Value}(h:x∈storedH xs k a v):x.2.1=a \/ ∃ y∈xs,x.2.1=y.2.1:=by
 unfold storedH at h;split at h
 ·obtain⟨y,b,rfl⟩:=M7.mp h;refine .inr ⟨y,b,?_⟩;unfold putAt;split<;>rfl
 ·rcases N3.mp h with h | h
  ·exact .inr ⟨x,h,rfl⟩
  ·rw[M9.mp h];exact .inl rfl
def xE(xs:List<|List K×Addr×Value)(k:List K)(a:Addr)(v:Value):(storedH xs k a v).length<=xs.length+1:=by
 unfold storedH;split<;>simp
def jai{R:Result->Shared->Prop}(hh:A.handled=none)(hu:A.units+1 < cLine)  (B:ax≠I) (q:D≠I) (Y:D≠ax) {items:Array Value}{ps:List (List K×Addr×Value)}(C:items.size=ps.length):∀(k i:Nat) (s:Shared) (xs:List<|List K×Addr×Value),
  items.size - i=k->i<=items.size->(s.heap.IsListIter I ax i/\s.heap.IsList ax items)->s.heap.DictOfH (tupleKind knd) D xs->(∀ x∈xs,x.2.1≠I) ->
  (∀(j:Nat) (v:Value),items[j]?=some v->∃ kv,ps[j]?=some kv/\wg knd s.heap v kv/\v≠.ref I/\v≠.ref D/\kv.2.1≠I/\kv.2.1≠D)->xs.length+k<=100000 ->
  (∀ h' tk,h'.DictOfH (tupleKind knd) D ((ps.drop i).foldl (λa kv=>storedH a kv.1 kv.2.1 kv.2.2) xs)->(∀ b o,b≠I->b≠D->s.heap.get? b=some o->h'.get? b=some o)->R (.ok<|.ret .none) { s with heap:=h',toks:=tk }) ->
  codeAny (model prog w) A (.builtin "dict.update.loop" ⟨[.ref D,.ref I,rawInt i,.none],[]⟩) R s:=by
 intro k
 induction k with
 | zero =>
  intro i s xs hk hi r hd d Z hz hR;have hin:i=items.size:=by lia
  subst hin;have W:=Walks.list (prog:=prog) (w:=w) (A:=A.in1) (by exact hh) I ax B items;refine codeAny_builtin F.entry_dict_loop ?_;rw[Around.under_plainId F.plain_dict_loop _];show wpAny _ A.in1 (pyNext (.ref I) >>= _) _ _ s;refine L4<|W.done s _ _ r λh' tk c=>?_;have fin:=hR h' tk (by rw[C,List.drop_length];exact Vb hd (λo e=>c D o (by simpa using q) e)<|λx E o e=>c _ o (by simpa using d x E) e)<|λb o f _ e=>c b o (by simpa using f) e;unfold Builtin.Dict.addKeywords
  repeat (any_goals (first | assumption | wp_step))
 | succ k ih =>
  intro i s xs hk hi r hd d Z hz hR;have G:i < items.size:=by lia
  have W:=Walks.list (prog:=prog) (w:=w) (A:=A.in1) (by exact hh) I ax B items;refine codeAny_builtin F.entry_dict_loop ?_;rw[Around.under_plainId F.plain_dict_loop _];show wpAny _ A.in1 (pyNext (.ref I) >>= _) _ _ s;refine L4<|W.item i s _ _ G r λv h' tk hP H c=>?_;obtain⟨kv,J,⟨p,m,po,rfl,hpo,hpc,hpd,L⟩,hvI,hvD,M,haD⟩:=Z i v hP;have N:h'.get? p=some po:=c p _ (by simpa using λz=>hvI<|by rw[z]) hpo;have t:IsTupleKey knd h' kv.1 kv.2.1:=qr L λo e=>c _ o (by simpa using M) e;have hd':h'.DictOfH (tupleKind knd) D xs:=Vb hd (λo e=>c D o (by simpa using q) e)<|λx E o e=>c _ o (by simpa using d x E) e;refine L4<|wpAny_holding ?_;refine L4<|wpAny_tryCatch<|VC N hpc hpd ?_;show wpAny _ _ (holding [.ref kv.2.1,kv.2.2]<|dictSet D (.ref kv.2.1) kv.2.2) _ _ _;have hsz:sizeLine=16777216:=by decide
  refine wpAny_holding<|wpAny_dictSet_heap (hsz:=by lia) (knd:=tupleKind knd) (tupleKind_room_in1 hu) t hd' λh'' O X=>?_;refine M8 ⟨plainId_quiet F.plain_dict_loop _,?_⟩;have hd2:ps.drop i=kv::ps.drop (i+1):=by
   have P:i < ps.length:=by lia
   rw[List.drop_eq_getElem_cons P];have:ps[i]=kv:=by
    rw[E4 P] at J;exact E2 J
   rw[this]
  refine ih (i+1) _ (storedH xs kv.1 kv.2.1 kv.2.2) (by lia) G (W.frame (i+1) h' h'' H λb f o e=>(X.2 b ?_).trans e) O (λx E=>?_) (λj v hv=>?_) ?_ λh3 tk3 hd3 hk3=>?_
  ·rcases M6.mp f with rfl | f
   ·exact λz=>q z.symm
   ·rw[M9.mp f];exact λz=>Y z.symm
  ·rcases xL E with e | ⟨y,hy,e⟩
   ·rw[e];exact M
   ·rw[e];exact d y hy
  ·obtain⟨kv',Q,⟨p',m',po',rfl,S,T,U,u⟩,g,h,l,n⟩:=Z j v hv;refine⟨kv',Q,⟨p',m',po',rfl,?_,T,U,qr u λo e=>?_⟩,g,h,l,n⟩
   ·exact(X.2 p' λz=>h<|by rw[z]).trans (c p' _ (by simpa using λz=>g<|by rw[z]) S)
   ·exact(X.2 _ n).trans (c _ o (by simpa using l) e)
  ·have:=xE xs kv.1 kv.2.1 kv.2.2
   lia
  ·refine hR h3 tk3 ?_ λb o f V e=>hk3 b o f V<|(X.2 b V).trans (c b o (by simpa using f) e);rw[hd2,X7];exact hd3
def Yp{its:Array Value}{n:Nat}{sl:Array (Option Value)}{ps:List (List K×Addr×Value)}{Q:J0}(P:A.handled=none)(Z:A.units+10 < cLine)(g:s.heap.get? p=some { cls:=.type "list",data:=.seq its n,slots:=sl })(r:its.size=ps.length)
  (U:∀(j:Nat) (v:Value),its[j]?=some v->∃ kv,ps[j]?=some kv/\wg knd s.heap v kv) (hz:ps.length<=100000)
  (h:∀ h' tk,h'.DictOfH (tupleKind knd) s.heap.objs.size (ps.foldl (λa kv=>storedH a kv.1 kv.2.1 kv.2.2) [])->(∀ b o,s.heap.get? b=some o->h'.get? b=some o)->Q (.ref s.heap.objs.size) { s with heap:=h',toks:=tk }) :
  wpAny (model prog w) A (call (.type "dict") [.ref p]) Q E s:=by
 refine callType_codes (Q₁:=λobj R=>obj=.ref s.heap.objs.size/\R={ s with heap:=s.heap.push { cls:=.type "dict",data:=.dict #[] } }) F.kt_called_dict (F.kt_typeCall_dict_1 _) F.entry_dict_init (kt_code_dict_new _ ⟨rfl,rfl⟩) ?_;rintro obj R ⟨rfl,rfl⟩;have d:(s.heap.push { cls:=.type "dict",data:=.dict #[] }).DictOfH (tupleKind knd) s.heap.objs.size []:=Heap.DictOfH.new s.heap;refine⟨d.typeIs,F.args_dict_init_2 _ _,?_⟩;have i:(s.heap.push { cls:=.type "dict",data:=.dict #[] }).get? p=some { cls:=.type "list",data:=.seq its n,slots:=sl }:=L9 _ g;have y:s.heap.get? s.heap.objs.size=none:=Heap.get?_none_of_le<|N0 _;unfold Builtin.«dict.__init__»;refine L4 ?_;unfold Builtin.Dict.selfAndRest;refine L4<|wpAny_notOrdered_dict d.typeIs ?_;show wpAny _ _ (pure (s.heap.objs.size,[Value.ref p])) _ _ _;refine M8 ?_;show wpAny _ _ (Builtin.Dict.updateFrom "dict.__init__" s.heap.objs.size (.ref p) [] .none) _ _ _;unfold Builtin.Dict.updateFrom;refine L4<|wpAny_typeOf (T:="list") ⟨_,i,rfl⟩ ?_;rw[if_pos<|by decide];refine L4 ?_;refine zr (its:=its) (n:=n) ?_ i λt t2 c=>?_
 ·exact P
 ·rw[if_pos<|show(Option.isNone (none:Option Value))=true from rfl];refine L4<|wpAny_rule ?_;have k:=c p _ i;have B:t.IsList p its:=⟨_,k,rfl,n,rfl⟩;refine L4<|wpAny_pyIter_list B ?_;have C:=c s.heap.objs.size _<|E6 _ rfl;have D:p≠t.objs.size:=N7<|N2 k;have G:s.heap.objs.size≠t.objs.size:=N7<|N2 C;have H:s.heap.objs.size≠p:=λz=>by rw[<- z,y] at g;cases g
  refine M8 ⟨plainId_quiet F.plain_dict_loop _,?_⟩;refine jai (A:=A.in1) (knd:=knd) (show A.in1.handled=none from P) (show A.units+1+1 < cLine by lia) D G H r its.size 0 _ [] (by lia) (U6 _) ⟨⟨_,E6 _ rfl,rfl,rfl⟩,?_⟩ ?_ (λx g=>(nomatch g)) (λV v W=>?_) (by simp;lia) λX I J L=>?_
  ·exact⟨_,L9 _ k,rfl,n,rfl⟩
  ·exact Vb d (λo e=>L9 _<|c _ o e)<|λx g=>(nomatch g)
  ·obtain⟨kv,M,u,m,po,rfl,l,N,O,f⟩:=U V v W;have e2:=c u _<|L9 _ l;obtain⟨ko,S,kn,q,_⟩:=id f;have Y:=c _ _<|L9 _ q;refine⟨kv,M,⟨u,m,po,rfl,L9 _ e2,N,O,qr f λo e=>L9 _<|c _ _<|L9 _ e⟩,λz=>?_,λz=>?_,N7<|N2 Y,λz=>?_⟩
   ·have z:u=t.objs.size:=by injection z
    exact absurd z<|N7<|N2 e2
   ·have z:u=s.heap.objs.size:=by injection z
    rw[z,y] at l;cases l
   ·rw[z,y] at q;cases q
  ·refine⟨rfl,h X I J λb o e=>?_⟩;have e2:=c b o<|L9 _ e;exact L b o (N7<|N2 e2) (N7<|N2 e)<|L9 _ e2
end
end PySem
namespace L2
open PySem PySem.Spec PyProof.Rows
theorem zq(I:Inv X pins σ H s):∀{ys:List V}{its:List Value}{ps:List (List Key×Addr×V)},Vals ys its->ys.length=ps.length ->
  (∀(j:Nat) (y:V),ys[j]?=some y->∃ kv t,ps[j]?=some kv/\y=.ref t/\SqT X.K H t [.ref kv.2.1,kv.2.2]/\H kv.2.1=some (.tup<|kv.1.map kV)) ->
  ∃ qs:List (List Key×Addr×Value),Paired (λ(p:List Key×Addr×V) (q:List Key×Addr×Value)=>p.1=q.1/\p.2.1=q.2.1/\RelV p.2.2 q.2.2) ps qs/\∀(j:Nat) (v:Value),its[j]?=some v->∃ kv,qs[j]?=some kv/\wg (js X.prog X.w) s.heap v kv
 | [],its,ps,b,a,c=>by
  cases b;have:ps=[]:=List.length_eq_zero_iff.mp a.symm;subst this;exact⟨[],.nil,λj v e=>by simp at e⟩
 | y::ys,its,[],b,a,c=>by simp at a
 | y::ys,its,kv::ps,b,a,c=>by
  cases b with
  | cons h i =>
   rename_i u E;obtain⟨qs,r,q⟩:=zq I (ps:=ps) i (by simpa using a) λj y e=>c (j+1) y (by simpa using e);obtain⟨k,t,l,rfl,d,m⟩:=c 0 y rfl;cases l;cases(show u=Value.ref t from h);obtain⟨f,x,⟨o,e,z,n,hd⟩,_⟩:=I.tuple d;cases x with
   | cons A B =>
    cases B with
    | cons C D =>
     cases D;rename_i key val;cases(show key=Value.ref kv.2.1 from A);refine⟨(kv.1,kv.2.1,val)::qs,.cons ⟨rfl,rfl,C⟩ r,λj v g=>?_⟩;cases j with
     | zero =>
      cases g;exact⟨_,rfl,t,n,o,rfl,e,z,hd,VR I.hok m⟩
     | succ j=>exact q j v (by simpa using g)
theorem jaN:∀{ps:List (List Key×Addr×V)}{qs:List (List Key×Addr×Value)}{a:List (List Key×V)}{b:List (List Key×Addr×Value)},Paired (λ(p:List Key×Addr×V) (q:List Key×Addr×Value)=>p.1=q.1/\p.2.1=q.2.1/\RelV p.2.2 q.2.2) ps qs->(∀ p∈ps,H p.2.1=some (.tup<|p.1.map kV))->KT H a b ->
  KT H (ps.foldl (λa kv=>kI a kv.1 kv.2.2) a) (qs.foldl (λa kv=>storedH a kv.1 kv.2.1 kv.2.2) b)
 | [],_,_,_,.nil,_,h=>h
 | p::ps,q::qs,a,b,.cons c e,d,h=>by
  rw[X7,X7];refine jaN e (λx f=>d x<|by simp[f]) ?_;have:=h.put p.1 (b:=p.2.1) (d p<|by simp) c.2.2;rw[c.1,c.2.1] at this;rw[c.1];exact this
def jdC{ps:List (List Key×Addr×V)}:∀{qs:List (List Key×V)},(ps.foldl (λa kv=>kI a kv.1 kv.2.2) qs).length<=qs.length+ps.length:=by
 induction ps with
 | nil=>intro qs;simp
 | cons p ps b =>
  intro qs;rw[X7];have c:=b (qs:=kI qs p.1 p.2.2);have d:(kI qs p.1 p.2.2).length<=qs.length+1:=by unfold kI;split<;>simp
  rw[M4]
  lia
def xB{X:Cx}(Z:X.calm=true)(hu:X.A.units+10 < cLine):qZ X (.type "dict") (λxs H Q=>∃(p:Addr) (ys:List V) (ps:List<|List Key×Addr×V),xs=[.ref p]/\SqL X.K H p ys/\ys.length=ps.length/\ps.length<=100000 /\
  (∀(j:Nat) (y:V),ys[j]?=some y->∃ kv t,ps[j]?=some kv/\y=.ref t/\SqT X.K H t [.ref kv.2.1,kv.2.2]/\H kv.2.1=some (.tup<|kv.1.map kV))/\∀ D,H D=none->Q (.ref D) (upd H D<|.dT<|ps.foldl (λa kv=>kI a kv.1 kv.2.2) [])):=by
 intro R s σ H xs us Q I r h;obtain⟨p,ys,ps,rfl,hq,m,hz,S,q⟩:=h;obtain⟨u,rfl,ru⟩:=r.one;cases ru;obtain⟨B,T,⟨o,n,e,d,f,g⟩,_⟩:=I.list hq;obtain⟨oc,od,C,osl⟩:=o;dsimp only at d f g;subst d f g;obtain⟨U,rel,E⟩:=zq I T m S;have i:B.toArray.size=U.length:=by rw[N4,<- T.length,m,rel.length]
 have hk:∀ x∈ps,H x.2.1=some (.tup<|x.1.map kV):=λx hx=>by
  obtain⟨j,W⟩:=List.mem_iff_getElem?.mp hx;have F:j < ys.length:=by rw[m];exact(M0.mp W).1
  obtain⟨kv,t,Y,_,_,e2⟩:=S j ys[j] (E4 F);rw[W] at Y;cases Y;exact e2
 refine Yp (knd:=js X.prog X.w) (I.ok.hd Z) hu e i (λj v hv=>E j v<|by simpa using hv) (by rw[<- rel.length];exact hz) λh' tk hd b=>?_;have k:=jaN (H:=H) rel hk (.nil:KT H ([]:List<|List Key×V) []);have G:=jdC (ps:=ps) (qs:=[]);have hsz:sizeLine=16777216:=by decide
 have l:=I.hok.fresh<|N0 s.heap.objs.size;obtain⟨qo,es,ep,J,L,M,N,_,O⟩:=hd;refine⟨.ref s.heap.objs.size,_,I.laid (a:=s.heap.objs.size) (o:=.dT<|ps.foldl (λa kv=>kI a kv.1 kv.2.2) []) (t':=tk) b (N0 _) ⟨by simp at G;lia,U3.mpr<|Ne.symm<|N7 I.big,_,k.keeps λc zs P=>?_,qo,es,ep,J,L,M,N,O⟩,rfl,q _ l⟩;rw[jg<|λz=>by rw[z,l] at P;cases P];exact P
end L2
namespace PySem
open PySem.W PyProof.Rows PySem.Calls
noncomputable def kEv{α:Type}(lt:Nat->Nat->Bool):KasT α->α
 | .ret a=>a
 | .ask i j k=>kEv lt<|k<|lt i j
def kOk{α:Type}(lt:Nat->Nat->Bool)(n:Nat):KasT α->Prop
 | .ret _=>True
 | .ask i j k=>i < n/\j < n/\kOk lt n (k<|lt i j)
theorem qh:∀ t:KasT α,kEv lt (t.bind f)=kEv lt (f<|kEv lt t)
 | .ret a=>rfl
 | .ask i j k=>qh<|k<|lt i j
theorem qA:∀ t:KasT α,kOk lt n t->kOk lt n (f<|kEv lt t)->kOk lt n (t.bind f)
 | .ret a,_,h=>h
 | .ask i j k,b,c=>⟨b.1,b.2.1,qA (k<|lt i j) b.2.2 c⟩
theorem je0(c:∀ i j C,i < n->j < n->C (lt i j) s->cmp i j C s):∀ t:KasT α,kOk lt n t->Q (kEv lt t) s->t.kasWp cmp Q s
 | .ret a,_,h=>h
 | .ask i j k,b,h=>c i j _ b.1 b.2.1<|je0 c (k<|lt i j) b.2.2 h
def Pm(n:Nat)(p:Array Nat):Prop:=p.toList.Perm<|List.range n
def Pm.lt(h:Pm n p)(a:0 < n)(i:Nat):p.getD i 0 < n:=by
 by_cases hi:i < p.size
 ·have e:p.getD i 0=p[i]:=by simp[Array.getD,hi]
  rw[e];have b:p[i]∈p.toList:=by simp
  exact List.mem_range.mp<|h.mem_iff.mp b
 ·have e:p.getD i 0=0:=by simp[Array.getD,hi]
  rw[e];exact a
def Pm.swap(h:Pm n p)(i j:Nat):Pm n (p.swapIfInBounds i j):=by
 unfold Pm at *;refine List.Perm.trans ?_ h;rw[Array.swapIfInBounds_def];split
 ·split
  ·exact(Array.perm_iff_toList_perm.mp<|Array.swap_perm _ _)
  ·exact List.Perm.refl _
 ·exact List.Perm.refl _
theorem Pm.swaps(u v:Nat->Nat):∀(l:List Nat) {p:Array Nat},Pm n p->Pm n (l.foldl (λa k=>a.swapIfInBounds (u k)<|v k) p)
 | [],_,h=>h
 | k::l,p,h=>Pm.swaps u v l<|h.swap _ _
def Pm.rev(h:Pm n p)(i j:Nat):Pm n (kas_rev p i j):=Pm.swaps _ _ _ h
def Pm.bub(h:Pm n p)(k m:Nat):Pm n (bubble p k m):=Pm.swaps _ _ _ h
section
variable {lt:Nat->Nat->Bool}{n:Nat}
theorem jbC(a:0 < n)  (h:Pm n p):∀ f m,kOk lt n<|kas_asc p f m
 | 0,_=>trivial
 | f+1,m=>by
  refine⟨h.lt a _,h.lt a _,?_⟩;dsimp only;split
  ·trivial
  ·exact jbC a h f<|m+1
theorem KI(d:0 < n):∀(f:Nat) {p:Array Nat}(m q:Nat),Pm n p->kOk lt n (kas_desc f p m q)/\Pm n (kEv lt<|kas_desc f p m q).1
 | 0,_,_,_,h=>⟨trivial,h⟩
 | f+1,p,m,q,h=>by
  have a:=h.lt d;cases hc:lt (p.getD m 0) (p.getD (m - 1) 0) with
  | true =>
   by_cases e:q > 0
   ·have c:=KI d f (p:=kas_rev p (m - (q+1)) m) (m+1) 0<|h.rev _ _;have b:0 < q:=e;simp only[kas_desc,kOk,kEv,hc,if_true,gt_iff_lt,b,a,true_and];exact c
   ·have c:=KI d f (p:=p) (m+1) 0 h;have b:¬ 0 < q:=e;simp only[kas_desc,kOk,kEv,hc,if_true,gt_iff_lt,b,if_false,a,true_and];exact c
  | false =>
   cases hd:lt (p.getD (m - 1) 0) (p.getD m 0) with
   | true =>
    simp only[kas_desc,kOk,kEv,hc,hd,if_true,Bool.false_eq_true,if_false,a,true_and];exact h
   | false =>
    have c:=KI d f (p:=p) (m+1) (q+1) h;simp only[kas_desc,kOk,kEv,hc,hd,Bool.false_eq_true,if_false,a,true_and];exact c
def Yi(a:0 < n)  (h:Pm n p) (m k:Nat):kOk lt n (kas_tail3 m k p)/\Pm n (kEv lt<|kas_tail3 m k p).2:=by
 unfold kas_tail3;exact⟨qA _ (jbC a (h.rev _ _) _ _) trivial,by rw[qh];exact h.rev _ _⟩
def ku(a:0 < n)  (h:Pm n p) (m k:Nat):kOk lt n (kas_descPart m k p)/\Pm n (kEv lt<|kas_descPart m k p).2:=by
 unfold kas_descPart;have hd:=KI (lt:=lt) a (k - (m+1)) (p:=p) (m+1) 0 h;refine⟨qA _ hd.1 ?_,?_⟩
 ·split
  ·exact(Yi a (hd.2.rev _ _) _ _).1
  ·exact(Yi a hd.2 _ _).1
 ·rw[qh];split
  ·exact(Yi a (hd.2.rev _ _) _ _).2
  ·exact(Yi a hd.2 _ _).2
def jep(a:0 < n)  (h:Pm n p) (k:Nat):kOk lt n (kas_count k p)/\Pm n (kEv lt<|kas_count k p).2:=by
 unfold kas_count;have b:=jbC (lt:=lt) a h (k - 1) 1;refine⟨qA _ b ?_,?_⟩
 ·generalize kEv lt (kas_asc p (k - 1) 1)=m;split
  ·trivial
  ·split
   ·refine⟨h.lt a _,h.lt a _,?_⟩;dsimp only;split
    ·trivial
    ·exact(ku a (h.rev _ _) _ _).1
   ·exact(ku a h _ _).1
 ·rw[qh];generalize kEv lt (kas_asc p (k - 1) 1)=m;split
  ·exact h
  ·split
   ·dsimp only[kEv];split
    ·exact h
    ·exact(ku a (h.rev _ _) _ _).2
   ·exact(ku a h _ _).2
theorem Kj(a:0 < n)  (h:Pm n p) (k:Nat):∀ f l r,kOk lt n<|kas_place p k f l r
 | 0,_,_=>trivial
 | f+1,l,r=>by
  unfold kas_place;split
  ·trivial
  ·refine⟨h.lt a _,h.lt a _,?_⟩;dsimp only;split
   ·exact Kj a h k f _ _
   ·exact Kj a h k f _ _
theorem jb4(a:0 < n):∀(f:Nat) {p:Array Nat}(k:Nat),Pm n p->kOk lt n (kas_bin f p k)/\Pm n (kEv lt<|kas_bin f p k)
 | 0,_,_,h=>⟨trivial,h⟩
 | f+1,p,k,h=>by
  unfold kas_bin;have c:=Kj (lt:=lt) a h k k 0 k;have b:=jb4 a f (p:=bubble p k<|k - kEv lt (kas_place p k k 0 k)) (k+1)<|h.bub _ _;exact⟨qA _ c b.1,by rw[qh];exact b.2⟩
def zN(b:0 < n):kOk lt n (kas_sort n)/\Pm n (kEv lt<|kas_sort n):=by
 unfold kas_sort;have c:Pm n (List.toArray<|List.range n):=List.Perm.refl _;have a:=jep (lt:=lt) b c n;refine⟨qA _ a.1 ?_,?_⟩
 ·split
  ·exact(jb4 b _ _ a.2).1
  ·trivial
 ·rw[qh];split
  ·exact(jb4 b _ _ a.2).2
  ·exact a.2
end
end PySem
set_option maxHeartbeats 4000000
namespace PySem
open PySem.W PyProof.Rows PySem.Calls
def Vi{α:Type}(lt:Nat->Nat->Bool)(vs:List α)(d:α):List α:=if vs.length < 2 then vs else(kEv lt<|kas_sort vs.length).toList.map λi=>vs.getD i d
def ub(lt:Nat->Nat->Bool)(vs:List α)(d:α):(Vi lt vs d).length=vs.length:=by
 unfold Vi;split
 ·rfl
 ·rename_i h;rw[L3];have:=((zN (lt:=lt) (n:=vs.length)<|by lia).2).length_eq;rw[this,List.length_range]
def Q3(m:s.heap.get? a=some (seqObj "list" vs.toArray n))(r:vs.length < 64)
  (J:2<=vs.length->∀ s':Shared,(∀ b o,b≠a->s.heap.get? b=some o->s'.heap.get? b=some o)->∀{Q:SortKind->Shared->Prop},Q κ s'->wpAny (model prog w) A (keyKind' vs.toArray) Q (λ_ _=>False) s')
  (t:∀ s':Shared,(∀ b o,b≠a->s.heap.get? b=some o->s'.heap.get? b=some o)->∀ i j,i < vs.length->j < vs.length->∀{C:Bool->Shared->Prop},C (lt i j) s'->wpAny (model prog w) A (keyLt' κ (vs.getD i Value.none)<|vs.getD j Value.none) C (λ_ _=>False) s')
  (h:P (.done<|.ret .none) { s with heap:=sortedHeap s.heap a vs (Vi lt vs Value.none).toArray }) :
  wpAny (model prog w) A (Builtin.«list.sort» ⟨[.ref a],[]⟩) P E s:=by
 rw[list_sort_plain];have F:a < s.heap.objs.size:=N2 m;refine L4<|listItems_at m rfl ?_;refine L4<|listUpdate_at m rfl ?_;obtain⟨u,g⟩:∃ u,(s.heap.update a<|Obj.mapSeq λ_=>#[]).get? a=some (seqObj "list" #[] u):=⟨_,get?_update_seq m<|λ_=>#[]⟩;refine L4<|seqEpoch_at g rfl ?_;refine L4<|wpAny_newTuple ?_;refine L4<|wpAny_newList ?_;refine wpAny_holding ?_;have d:(((s.heap.update a<|Obj.mapSeq λ_=>#[]).push (seqObj "tuple" vs.toArray 0)).push (seqObj "list" #[] 0)).get? a=some (seqObj "list" #[] u):=by
  rw[Heap.get?_push_ne _ _ _<|by rw[size_push',Heap.size_update];exact N7<|Nat.lt_succ_of_lt F,Heap.get?_push_ne _ _ _<|by rw[Heap.size_update];exact N7 F];exact g
 have keep:∀ b o,b≠a->s.heap.get? b=some o->(((s.heap.update a<|Obj.mapSeq λ_=>#[]).push (seqObj "tuple" vs.toArray 0)).push (seqObj "list" #[] 0)).get? b=some o:=λb o K e =>
  L9 _ (L9 _<|by rw[Heap.get?_update_ne _ _ _ _ K];exact e)
 show wpAny (model prog w) A _ P E { s with heap:=((s.heap.update a<|Obj.mapSeq λ_=>#[]).push (seqObj "tuple" vs.toArray 0)).push (seqObj "list" #[] 0) };dsimp only;have v:vs.toArray.size=vs.length:=by simp
 by_cases q:vs.toArray.size < 2
 ·have c:Vi lt vs Value.none=vs:=by unfold Vi;rw[if_pos<|by lia]
  rw[c] at h;rw[if_pos q,if_pos q];refine L4<|M8 ?_;rw[StateT.run_pure];refine L4<|M8 ?_;dsimp only;have L:(arrOf<|SortSt.mk' general' (vs.toArray.zip vs.toArray) #[] 7 none).map (·.2)=vs.toArray:=by
   show(vs.toArray.zip vs.toArray).map (·.2)=vs.toArray;apply Array.toList_inj.mp;simp;exact List.map_snd_zip<|N0 _
  rw[L];refine L4<|seqEpoch_at d rfl ?_;refine L4<|listUpdate_at d rfl ?_ (hsz2:=by show vs.toArray.size<=_;rw[v,sizeLine_eq];lia);simp only[bne_self_eq_false,Bool.false_eq_true,if_false];exact M8 h
 ·have k:2<=vs.length:=by lia
  have c:Vi lt vs Value.none=(kEv lt<|kas_sort vs.length).toList.map λi=>vs.getD i Value.none:=by unfold Vi;rw[if_neg<|by lia]
  rw[if_neg q,if_neg q];refine L4<|wpAny_mono (J k { s with heap:=((s.heap.update a<|Obj.mapSeq λ_=>#[]).push (seqObj "tuple" vs.toArray 0)).push (seqObj "list" #[] 0) } keep (Q:=λy H=>y=κ/\H={ s with heap:=((s.heap.update a<|Obj.mapSeq λ_=>#[]).push (seqObj "tuple" vs.toArray 0)).push (seqObj "list" #[] 0) }) ⟨rfl,rfl⟩) ?_ λ_ _ x=>x.elim;rintro y H ⟨rfl,rfl⟩;have z:=zN (lt:=lt) (n:=vs.length) (by lia);have l:=kat_run (prog:=prog) (w:=w) (A:=A) (E:=E) (κ:=y) (ks:=vs) (vs:=vs) (s:={ s with heap:=((s.heap.update a<|Obj.mapSeq λ_=>#[]).push (seqObj "tuple" vs.toArray 0)).push (seqObj "list" #[] 0) })
   (Q:=λf s'=>s'={ s with heap:=((s.heap.update a<|Obj.mapSeq λ_=>#[]).push (seqObj "tuple" vs.toArray 0)).push (seqObj "list" #[] 0) }/\arrOf f=(kEv lt<|kas_sort vs.length).map (kas_item<|vs.toArray.zip vs.toArray)/\failedOf f=none)
   (G:=λp s'=>p=kEv lt (kas_sort vs.length)/\s'={ s with heap:=((s.heap.update a<|Obj.mapSeq λ_=>#[]).push (seqObj "tuple" vs.toArray 0)).push (seqObj "list" #[] 0) })
   rfl k r (λp f s' T M N I=>⟨I.2,by rw[<- I.1];exact M,N⟩)
   (je0 (n:=vs.length) (λi j C hi O R=>t { s with heap:=((s.heap.update a<|Obj.mapSeq λ_=>#[]).push (seqObj "tuple" vs.toArray 0)).push (seqObj "list" #[] 0) } keep i j hi O R) _ z.1 ⟨rfl,rfl⟩)
  refine L4<|wpAny_mono l ?_ λ_ _ e=>e;rintro⟨⟨⟩,f⟩ s' ⟨rfl,B,S⟩;dsimp only;have D:=kat_snds (vs:=vs) (ks:=vs) rfl B;rw[D,<- c];refine L4<|seqEpoch_at d rfl ?_;refine L4<|listUpdate_at d rfl ?_ (hsz2:=by show(Vi lt vs Value.none).toArray.size<=_;rw[N4,ub,sizeLine_eq];lia);rw[S];simp only[bne_self_eq_false,Bool.false_eq_true,if_false];exact M8 h
def Vs(u:s.heap.IsList l vs.toArray)(n:vs.length < 64)
  (v:2<=vs.length->∀(A':Around) (s':Shared),(∀ b o,s.heap.get? b=some o->s'.heap.get? b=some o)->∀{Q:SortKind->Shared->Prop},Q κ s'->wpAny (model prog w) A' (keyKind' vs.toArray) Q (λ_ _=>False) s')
  (a:∀(A':Around) (s':Shared),(∀ b o,s.heap.get? b=some o->s'.heap.get? b=some o)->∀ i j,i < vs.length->j < vs.length->∀{C:Bool->Shared->Prop},C (lt i j) s'->wpAny (model prog w) A' (keyLt' κ (vs.getD i Value.none)<|vs.getD j Value.none) C (λ_ _=>False) s')
  (h:∀ h' c,(∀ b o,s.heap.get? b=some o->h'.get? b=some o)->h'.get? (s.heap.objs.size+1)=some (seqObj "list" (Vi lt vs Value.none).toArray c)->Q (.ref<|s.heap.objs.size+1) { s with heap:=h' }) :
  wpAny (model prog w) A (call (.builtin "sorted") [.ref l]) Q E s:=by
 refine Calls.call_function_entry kind_sorted plain_sorted entry_sorted (args_sorted1 _) ?_;unfold Builtin.«sorted»;refine L4 (m:=checkCount "sorted" 1 1 _)<|M8 ?_;refine L4<|collect_list u ?_ (by rw[sizeLine_eq];lia);refine L4<|wpAny_newList ?_ (by rw[sizeLine_eq];lia);have e:((s.heap.push<|seqObj "list" #[] 0).update s.heap.objs.size (Obj.mapSeq (·++vs.toArray))).objs.size=s.heap.objs.size+1:=by
  rw[Heap.size_update,size_push']
 have f:(((s.heap.push<|seqObj "list" #[] 0).update s.heap.objs.size (Obj.mapSeq (·++vs.toArray))).push (seqObj "list" vs.toArray 0)).get? (s.heap.objs.size+1)=some (seqObj "list" vs.toArray 0):=by
  rw[<- e];exact E6 _ rfl
 have keep:∀ b o,s.heap.get? b=some o->(((s.heap.push<|seqObj "list" #[] 0).update s.heap.objs.size (Obj.mapSeq (·++vs.toArray))).push (seqObj "list" vs.toArray 0)).get? b=some o:=λb o q=>by
  have a:b < s.heap.objs.size:=N2 q;rw[Heap.get?_push_ne _ _ _<|by rw[e];exact N7<|Nat.lt_succ_of_lt a,Heap.get?_update_ne _ _ _ _<|N7 a,Heap.get?_push_ne _ _ _<|N7 a];exact q
 show wpAny _ _ _ _ _ { s with heap:=((s.heap.push<|seqObj "list" #[] 0).update s.heap.objs.size (Obj.mapSeq (·++vs.toArray))).push (seqObj "list" vs.toArray 0) };rw[e];have d:∀{s':Shared},(∀ b o,b≠s.heap.objs.size+1->(((s.heap.push<|seqObj "list" #[] 0).update s.heap.objs.size (Obj.mapSeq (·++vs.toArray))).push (seqObj "list" vs.toArray 0)).get? b=some o->s'.heap.get? b=some o)->∀ b o,s.heap.get? b=some o->s'.heap.get? b=some o:=λk b o q =>
  k b o (N7<|Nat.lt_succ_of_lt<|N2 q) (keep b o q)
 refine L4<|wpAny_holding<|wpAny_call_entry slot_list_sort ⟨_,f,rfl⟩ entry_list_sort ?body (args_list_sort _)
 case body =>
  refine Q3 (lt:=lt) (κ:=κ) (s:={ s with heap:=((s.heap.push<|seqObj "list" #[] 0).update s.heap.objs.size (Obj.mapSeq (·++vs.toArray))).push (seqObj "list" vs.toArray 0) }) f n (λx s' k=>v x _ s'<|d k) (λs' k=>a _ s'<|d k) ?_;have g:∃ c,(sortedHeap (((s.heap.push<|seqObj "list" #[] 0).update s.heap.objs.size (Obj.mapSeq (·++vs.toArray))).push (seqObj "list" vs.toArray 0)) (s.heap.objs.size+1) vs (Vi lt vs Value.none).toArray).get? (s.heap.objs.size+1)=some (seqObj "list" (Vi lt vs Value.none).toArray c):=by
   obtain⟨r,p⟩:∃ r,((((s.heap.push<|seqObj "list" #[] 0).update s.heap.objs.size (Obj.mapSeq (·++vs.toArray))).push (seqObj "list" vs.toArray 0)).update (s.heap.objs.size+1) (Obj.mapSeq λ_=>#[])).get? (s.heap.objs.size+1)=some (seqObj "list" #[] r):=⟨_,get?_update_seq f<|λ_=>#[]⟩;exact⟨_,get?_update_seq (L9 _<|L9 _ p) λ_=>(Vi lt vs Value.none).toArray⟩
  obtain⟨c,y⟩:=g;refine⟨_,rfl,M8 ⟨_,rfl,h _ c (λb o q=>?_) y⟩⟩;have t:b≠s.heap.objs.size+1:=N7<|Nat.lt_succ_of_lt<|N2 q;show(Heap.update _ _ _).get? b=some o;rw[Heap.get?_update_ne _ _ _ _ t];exact L9 _<|L9 _ (by rw[Heap.get?_update_ne _ _ _ _ t];exact keep b o q)
noncomputable abbrev jda:=Str×Str×Int
noncomputable def Qa(x y:jda):Bool:=if x.1=y.1 then(if x.2.1=y.2.1 then decide (x.2.2 < y.2.2) else decide (x.2.1.cps.toList < y.2.1.cps.toList)) else decide (x.1.cps.toList < y.1.cps.toList)
def uU(h:Heap)(v:Value)(r:jda):Prop:=∃(a:Addr) (o:Obj) (m:Nat) (t1 t2 t3:Tok),v=.ref a/\h.get? a=some o/\o.cls=.type "tuple"/\o.data=.seq #[.str r.1 t1,.str r.2.1 t2,.int r.2.2 t3] m
def jjz(d:uU s.heap v x)(e:uU s.heap u y)  (h:C (Qa x y) s):wpAny (model prog w) A (keyLt' (tuples' true) v u) C E s:=by
 obtain⟨a,o,m,f,g,i,rfl,j,t,k⟩:=d;obtain⟨b,z,B,l,n,p,rfl,q,D,r⟩:=e;refine kat_lt j k q r ?_;show KatLex prog w A true _ C [(.str x.1 f,.str y.1 l),(.str x.2.1 g,.str y.2.1 n),(.int x.2.2 i,.int y.2.2 p)] 0 s;unfold Qa at h;refine kat_cons<|wpAny_eqBool_str ?_;by_cases c:x.1=y.1
 ·rw[if_pos c] at h;rw[X8 c];refine kat_yes<|kat_cons<|wpAny_eqBool_str ?_;by_cases e2:x.2.1=y.2.1
  ·rw[if_pos e2] at h;rw[X8 e2];refine kat_yes<|kat_cons<|wpAny_eqBool_int ?_;by_cases e3:x.2.2=y.2.2
   ·rw[show(x.2.2==y.2.2)=true by simp[e3]];refine kat_yes<|kat_nil ?_;have:decide (x.2.2 < y.2.2)=decide (3 < 3):=by rw[e3];simp
    rw[this] at h;exact h
   ·rw[show(x.2.2==y.2.2)=false by simp[e3]];exact kat_no<|kat_one _ _<|wpAny_lt_int h
  ·rw[if_neg e2] at h;rw[X9 e2];exact kat_no<|kat_one _ _<|lt_str h
 ·rw[if_neg c] at h;rw[X9 c];exact kat_no<|oneLt_str h
def jb2{A:Around}{E:J0}{s:Shared}{vs:List Value}{rs:List jda}(c:vs.length=rs.length)(b:∀(j:Nat) (v:Value),vs[j]?=some v->∃ r,rs[j]?=some r/\uU s.heap v r)(u:0 < vs.length){Q:SortKind->Shared->Prop}(h:Q (tuples' true) s):wpAny (model prog w) A (keyKind' vs.toArray) Q E s:=by
 have key:∀(vs:List Value) (rs:List jda),vs.length=rs.length->(∀(j:Nat) (v:Value),vs[j]?=some v->∃ r,rs[j]?=some r/\uU s.heap v r)->∃ fs:List Value,KatTups s.heap vs fs/\fs.length=vs.length/\∀ v∈fs,∃ x t,v=Value.str x t:=by
  intro vs
  induction vs with
  | nil=>intro rs _ _;exact⟨[],KatTups.nil,rfl,λv b=>(nomatch b)⟩
  | cons v vs d =>
   intro rs c b;cases rs with
   | nil=>simp at c
   | cons r rs =>
    obtain⟨fs,k,l,f⟩:=d rs (by simpa using c) λj v e=>b (j+1) v (by simpa using e);obtain⟨g,e,a,o,m,i,y,z,rfl,n,p,q⟩:=b 0 v rfl;refine⟨.str g.1 i::fs,KatTups.cons n p q rfl k,by simp[l],λv b=>?_⟩;rcases M6.mp b with rfl | b
    ·exact⟨_,_,rfl⟩
    ·exact f v b
 obtain⟨fs,k,l,f⟩:=key vs rs c b;refine kat_kind (T:=.type "str") k (by lia) (λv b=>?_) (by rfl) h;obtain⟨x,t,rfl⟩:=f v b;exact Looks.of_pure rfl
def J8{A:Around}{E:J0}{s:Shared}{vs:List Value}{rs:List jda}{Q:J0}(x:s.heap.IsList l vs.toArray)(n:vs.length < 64)(g:vs.length=rs.length)(y:∀(j:Nat) (v:Value),vs[j]?=some v->∃ r,rs[j]?=some r/\uU s.heap v r)
  (h:∀ h' c,(∀ b o,s.heap.get? b=some o->h'.get? b=some o)->h'.get? (s.heap.objs.size+1)=some (seqObj "list" (Vi (λi j=>Qa (rs.getD i ("","",0))<|rs.getD j ("","",0)) vs Value.none).toArray c)->Q (.ref<|s.heap.objs.size+1) { s with heap:=h' }) :
  wpAny (model prog w) A (call (.builtin "sorted") [.ref l]) Q E s:=by
 have p:∀(d:Shared),(∀ b o,s.heap.get? b=some o->d.heap.get? b=some o)->∀(j:Nat) (v:Value),vs[j]?=some v->∃ r,rs[j]?=some r/\uU d.heap v r:=λd f j v k=>by
  obtain⟨r,e,a,o,m,z,B,D,q,F,t,G⟩:=y j v k;exact⟨r,e,a,o,m,z,B,D,q,f a o F,t,G⟩
 refine Vs (κ:=tuples' true) x n (λt H d f Q I=>jb2 g (p d f) (by lia) I) (λH d f i j hi k C u=>?_) h;obtain⟨r1,q,J⟩:=p d f i _<|E4 hi;obtain⟨r2,e2,K⟩:=p d f j _<|E4 k;have L:vs.getD i Value.none=vs[i]:=by simp[hi]
 have g2:vs.getD j Value.none=vs[j]:=by simp[k]
 rw[L,g2];refine jjz J K ?_;have M:rs.getD i ("","",0)=r1:=by rw[List.getD_eq_getElem?_getD,q];rfl
 have N:rs.getD j ("","",0)=r2:=by rw[List.getD_eq_getElem?_getD,e2];rfl
 rw[M,N] at u;exact u
end PySem
namespace PySem
open Sem (wp)
section
variable {prog:Program}{w:World}{A:Around}{E:J0}{h:Heap}{g:Array GenState}{dr:Drawn}{t:Nat}{os:OsState}
def jmz{a d:Addr}{i ep:Nat}{es:Array DictEntry}{od:Obj}{en:DictEntry}{ok l:Value}{Q:Option Value->Shared->Prop}(hit:IsItemIter h a d i es.size ep ok l)(O:h.get? d=some od)(m:od.data=.dict es ep)(P:es[i]?=some en)
  (R:∀ h',IsItemIterOut h' a d (i+1) es.size ep en.key en.val h.objs.size->h'.get? h.objs.size=some { cls:=.type "tuple",data:=.seq #[en.key,en.val] }->(∀ b o,b≠a->h.get? b=some o->h'.get? b=some o)->Q (some<|.ref h.objs.size) ⟨h',g,dr,t,os⟩) :
  wpAny (model prog w) A (pyNext<|.ref a) Q E ⟨h,g,dr,t,os⟩:=by
 have s:Shared.TypeIs ⟨h,g,dr,t,os⟩ (.ref a) "dict_itemiterator":=⟨_,hit,rfl⟩;obtain⟨oc,S,T,U⟩:=od;dsimp only at m;subst m;have c1:¬ (((es.size:Int) != (es.size:Int))=true):=by simp
 have c2:¬ (((ep:Int) != (ep:Int))=true):=by simp
 have V:¬ ((i:Int) < 0):=by omega
 unfold pyNext;refine L4<|wpAny_attempt<|wpAny_callSpecial?_slot (name:=Str.ofString "__next__") s F.slot_dict_itemiterator_next ?_;refine wpAny_call_entry F.slot_dict_itemiterator_next s F.entry_dict_itemiterator_next ?_<|F.args_dict_itemiterator_next_1 _
 repeat (any_goals (first | assumption | wp_step))
 rw[if_neg V,N9,P];dsimp only;refine L4 ?_;refine L4<|wpAny_typeNameOfWhole_itemiter s<|M8 ?n1
 case n1 =>
  refine L4<|wpAny_isOneOf_itemiter s<|show wpAny _ _ (setField (.ref a) 3 (rawInt<|(i:Int)+1) >>= _) _ _ _ from L4 (wpAny_setField_rec hit (by simp) λc W X=>?_);have n:Heap.SameBut a h c:=X;have p:IsItemIter c a d (i+1) es.size ep ok l:=by
   have e:((i+1:Nat):Int)=(i:Int)+1:=by omega
   unfold IsItemIter;rw[e];simpa [rawInt] using W
  have q:Shared.TypeIs ⟨c,g,dr,t,os⟩ (.ref a) "dict_itemiterator":=⟨_,p,rfl⟩;refine L4<|wpAny_holding<|L4<|wpAny_isOneOf_itemiter q<|L4<|wpAny_isOneOf_itemiter q ?_;show wpAny _ _ (Builtin.Dict_items.pairFromOwner (.ref a) 6 en.key en.val) _ _ ⟨c,g,dr,t,os⟩;unfold Builtin.Dict_items.pairFromOwner;refine L4<|wpAny_newTuple ?_;have M:c.objs.size=h.objs.size:=n.1;have r:IsItemIter (c.push { cls:=.type "tuple",data:=.seq #[en.key,en.val] }) a d (i+1) es.size ep ok l:=L9 _ p;have j:(c.push { cls:=.type "tuple",data:=.seq #[en.key,en.val] }).get? h.objs.size=some { cls:=.type "tuple",data:=.seq #[en.key,en.val] }:=by rw[<- M];exact E6 _ rfl
  have k:∀ b o,b≠a->h.get? b=some o->(c.push { cls:=.type "tuple",data:=.seq #[en.key,en.val] }).get? b=some o:=λb o f e=>L9 _<|n.extBut b o f e;have v:h.objs.size≠a:=Nat.ne_of_gt<|N2 hit;show wpAny _ _ (Builtin.Dict_items.ownedTupleIsFree (.ref a) >>= _) _ _ ⟨c.push { cls:=.type "tuple",data:=.seq #[en.key,en.val] },g,dr,t,os⟩;rw[M];generalize c.push ({ cls:=.type "tuple",data:=.seq #[en.key,en.val] }:Obj)=k2 at r j k;refine L4 ?_;unfold Builtin.Dict_items.ownedTupleIsFree;refine L4<|U7 r rfl (x:=.none) rfl<|M8 ?_;simp only[if_true];refine L4<|U7 r rfl (x:=ok) rfl<|L4<|U7 r rfl (x:=l) rfl<|L4<|wpAny_setField_rec r (by simp) λy Y Z=>?_;have z:Heap.SameBut a k2 y:=Z;have B:IsItemIter y a d (i+1) es.size ep en.key l:=Y;refine L4<|wpAny_setField_rec B (by simp) λC q4 b4=>?_;have D:Heap.SameBut a y C:=b4;have G:IsItemIter C a d (i+1) es.size ep en.key en.val:=q4;refine L4<|wpAny_setField_rec G (by simp) λH q5 b5=>?_;have I:Heap.SameBut a C H:=b5;have J:IsItemIterOut H a d (i+1) es.size ep en.key en.val h.objs.size:=q5;refine L4<|wpAny_setField_rec J (by simp) λu q6 b6=>?_;have K:Heap.SameBut a H u:=b6;have L:IsItemIterOut u a d (i+1) es.size ep en.key en.val h.objs.size:=q6;have N:∀ b o,b≠a->k2.get? b=some o->u.get? b=some o:=λb o f e=>K.extBut b o f<|I.extBut b o f<|D.extBut b o f<|z.extBut b o f e;exact L4<|wpAny_letGo<|M8<|M8 ⟨_,rfl,M8<|R u L (N _ _ v j) λb o f e=>N b o f<|k b o f e⟩
def jnw{c d:Addr}{i ep:Nat}{es:Array DictEntry}{od:Obj}{ok j:Value}{Q:Option Value->Shared->Prop}(k:A.handled=none)(hit:IsItemIter h c d i es.size ep ok j)(l:h.get? d=some od)(e:od.data=.dict es ep)(n:es[i]?=none)
  (o:∀ h',Heap.ExtBut c h h'->Q none ⟨h',g,dr,t,os⟩):wpAny (model prog w) A (pyNext<|.ref c) Q E ⟨h,g,dr,t,os⟩:=by
 have f:Shared.TypeIs ⟨h,g,dr,t,os⟩ (.ref c) "dict_itemiterator":=⟨_,hit,rfl⟩;obtain⟨oc,p,q,r⟩:=od;dsimp only at e;subst e;have c1:¬ (((es.size:Int) != (es.size:Int))=true):=by simp
 have u:¬ (((ep:Int) != (ep:Int))=true):=by simp
 have s:¬ ((i:Int) < 0):=by omega
 unfold pyNext;refine L4<|wpAny_attempt<|wpAny_callSpecial?_slot (name:=Str.ofString "__next__") f F.slot_dict_itemiterator_next ?_;refine wpAny_call_entry F.slot_dict_itemiterator_next f F.entry_dict_itemiterator_next ?_<|F.args_dict_itemiterator_next_1 _
 repeat (any_goals (first | assumption | wp_step))
 rw[if_neg s,N9,n];dsimp only;refine L4 ?_;refine L4<|wpAny_typeNameOfWhole_itemiter f<|M8 ?n1
 case n1 =>
  refine(show wpAny _ _ (setField (.ref c) 2 .none >>= _) _ _ _ from L4 (wpAny_setField hit rfl (by simp) ?_));refine(show wpAny _ _ (newExc (.type "StopIteration") [] >>= _) _ _ _ from L4 ?_);simp only[newExc,newTuple];refine L4<|wpAny_newObj_type (L4 (m:=firstArgMember _ _)<|wpAny_of_eq (a:=Value.none) (by first | rfl | (simp only[firstArgMember];rfl))<|wpAny_newObj_type ?_<|by size_fits) (by size_fits);simp only[raiseNew];refine L4<|wpAny_handled ?_;rw[show A.in1.handled=none from k];refine L4<|M8<|wpAny_throw ?_;refine L4<|wpAny_isInstance (T:="StopIteration") (b:=true) ⟨_,E6 _ rfl,rfl⟩ isSubtype_stop<|M8<|o _ ?_;exact((Heap.SameBut.update ..).extBut.push _).push _
def xr{d:Addr}{od:Obj}{es:Array DictEntry}{ep:Nat}{Q:J0}(a:h.get? d=some od)(c:od.ExactDict)(hd:(d==sysModules)=false)
  (e:Q (.ref h.objs.size) ⟨h.push { cls:=.type "dict_items",data:=.fields #[.ref d] },g,dr,t,os⟩):wpAny (model prog w) A (call (.builtin "dict.items") [.ref d]) Q E ⟨h,g,dr,t,os⟩:=by
 have b:Shared.TypeIs ⟨h,g,dr,t,os⟩ (.ref d) "dict":=⟨od,a,c.1⟩;refine wpAny_call_entry F.slot_dict_items b F.entry_dict_items ?_<|F.args_dict_items_1 _;unfold Builtin.«dict.items» Builtin.Dict.noArgs;refine L4<|L4<|wpAny_notOrdered_dict b<|show wpAny _ _ (pure d) _ _ _ from M8 ?_;unfold Builtin.Dict.showsAll;rw[if_neg<|by rw[hd];exact M5];exact L4<|M8<|L4<|wpAny_newObj_type<|M8 ⟨_,rfl,e⟩
def jmq{v d:Addr}{od:Obj}{es:Array DictEntry}{ep:Nat}{Q:J0}(e:h.IsItemsView v d)(a:h.get? d=some od)(b:od.data=.dict es ep)
  (i:Q (.ref h.objs.size) ⟨h.push { cls:=.type "dict_itemiterator",data:=.fields #[.none,.bool false,.ref d,.int 0 0,.int es.size 0,.int ep 0,.none,.none] },g,dr,t,os⟩):wpAny (model prog w) A (pyIter<|.ref v) Q E ⟨h,g,dr,t,os⟩:=by
 obtain⟨k,c,l,j⟩:=id e;have f:Shared.TypeIs ⟨h,g,dr,t,os⟩ (.ref v) "dict_items":=e.typeIs (s:=⟨h,g,dr,t,os⟩);refine wpAny_pyIter_slot f F.slot_dict_items_iter<|wpAny_call_entry F.slot_dict_items_iter f F.entry_dict_items_iter ?_<|F.args_dict_items_iter_1 _;unfold Builtin.«dict_items.__iter__»;refine L4<|M8<|L4 ?_;unfold Builtin.Dict_items.dictOf;refine L4<|U7 c j (x:=.ref d) rfl<|M8<|L4 ?_;unfold Builtin.Dict_items.newIterator;refine L4<|wpAny_dictEntries a b<|L4<|wpAny_dictEpoch a b ?_;have ow:Builtin.Dict_items.ownsTuple "dict_itemiterator" = true:=by decide
 simp only[ow,if_true];refine wpAny_newObj_type (M8 ⟨_,rfl,"dict_itemiterator",_,⟨_,E6 _ rfl,rfl⟩,F.slot_dict_itemiterator_next.lookup,?_⟩) (by simp only[sizeOk,Builtin.Dict_items.ownedTupleFields,N4,N5,M4,List.length_nil,sizeLine_eq];omega);simpa [rawInt,Builtin.Dict_items.ownedTupleFields] using i
end
end PySem
namespace L2
open PySem PySem.Spec PyProof.Rows
def jlv(a:Addr)(o:Obj)(kvs:List<|List Key×V):It :=
 ⟨λi H=>H a=some (.frz o<|.dT kvs)/\i < kvs.length,λi H x H'=>∃ p kv b,kvs[i]?=some kv/\x=.ref p/\H p=none/\H b=some (.tup<|kv.1.map kV)/\H'=upd H p (.tup [.ref b,kv.2]),λi H=>H a=some (.frz o<|.dT kvs)/\kvs.length<=i⟩
def jjy{P:Program}{w:World}{H:Hp}{h:Heap}{a:Addr}{o:Obj}{kvs:List (List Key×V)}(ok:HOk P w H h)(e:H a=some (.frz o<|.dT kvs)) :
  h.get? a=some o/\(a==sysModules)=false/\o.ExactDict/\∃ xs es ep,KT H kvs xs/\o.data=.dict es ep/\es.toList=xs.map (entryOfKey<|tupleKind<|js P w):=by
 obtain⟨b,d⟩:=(show ObjOk P w H h a (.frz o<|.dT kvs) from ok a _ e);obtain⟨_,f,xs,r,g,es,ep,c,g2,g3,g4,_⟩:=(show ObjOk P w H h a (.dT kvs) from d);rw[b] at c;cases c;exact⟨b,f,g2,xs,es,ep,r,g3,g4⟩
def jmQ{H:Hp}{kvs:List (List Key×V)}{xs:List (List Key×Addr×Value)}(r:KT H kvs xs):∀{i:Nat}{q:List Key×Addr×Value},xs[i]?=some q->∃ v,kvs[i]?=some (q.1,v)/\H q.2.1=some (.tup<|q.1.map kV)/\RelV v q.2.2:=by
 induction r with
 | nil=>intro i q e;simp at e
 | @cons p q b c h _ a =>
  intro i x e;cases i with
  | zero=>cases e;exact⟨p.2,by rw[<- h.1];rfl,by rw[<- h.1];exact h.2.1,h.2.2⟩
  | succ i=>exact a (by simpa using e)
def jew{P:Program}{w:World}{K:W4}{t:List Expr}{m:Nat}{pos:Pos}(a c:Addr)(o:Obj)(kvs:List<|List Key×V)(es:Array DictEntry)(ep:Nat)(B:o.data=.dict es ep) :
  Turn P w K (.Tuple t m pos) (jlv a o kvs) [c] c (λi h=>∃ ok ov,IsItemIter h c a i es.size ep ok ov) where
 mem:=by simp
 obj:=λi h g b d=>by
  have e:b=c:=by simpa using d
  subst e;obtain⟨ok,ov,f⟩:=g;exact⟨_,f,λv q=>by cases q⟩
 keep:=λi h h' g k=>by
  obtain⟨ok,ov,f⟩:=g;exact⟨ok,ov,k c (by simp) _ f⟩
 item:=by
  intro X G J L hc i u s σ H E I C g M;subst G J L;obtain⟨N,hx⟩:=M;obtain⟨O,g2,gx,j,Q,R,r,g3,g4⟩:=jjy I.hok N;rw[B] at g3;cases g3;have l:kvs.length=j.length:=Paired.length r;have S:es.size=j.length:=by rw[<- Array.length_toList,g4,L3]
  obtain⟨q,hu⟩:∃ q,j[i]?=some q:=⟨j[i]'(by omega),by simp[<- l,hx]⟩;obtain⟨v,U,d,rv⟩:=jmQ r hu;obtain⟨ok,ov,f⟩:=g;have n:c < s.heap.objs.size:=N2 f;have Y:es[i]?=some (entryOfKey (tupleKind<|js X.prog X.w) q):=by rw[<- Array.getElem?_toList,g4,List.getElem?_map,hu];rfl
  obtain⟨x,gg,dd,D,os⟩:=s;refine jmz f O B Y λh1 Z hT hk=>?_;refine⟨_,rfl,wpAny_letOwnedTupleGo_items (s:=⟨h1,gg,dd,D,os⟩) Z λF he2 hs2=>?_⟩;have p:Heap.SameBut c h1 F:=hs2;have y:F.get? x.objs.size=_:=(p.2 _<|Nat.ne_of_gt n).trans hT;have kk:∀ b o,b∉[c]->x.get? b=some o->F.get? b=some o:=λb o d q=>by
   have A:b≠c:=by simpa using d
   exact(p.2 b A).trans (hk b o A q)
  have I1:=I.turnedNew (h':=F) (t':=D) (wr:=[c]) (T:=x.objs.size) (xs:=[.ref q.2.1,v]) (its:=#[.ref q.2.1,q.2.2]) kk C (N0 _) ⟨⟨_,y,rfl,_,rfl⟩,_,y,rfl⟩ (.cons rfl<|.cons rv .nil) (by show 2<=sizeLine;decide);refine⟨.ref x.objs.size,_,I1,rfl,⟨_,(q.1,v),q.2.1,U,rfl,I.hok.fresh<|N0 _,d,rfl⟩,⟨_,_,he2⟩,λb d=>?_⟩;rw[jg]
  ·exact(C b d).1
  ·intro z;have e:b=c:=by simpa using d
   exact absurd n (by rw[<- e,z];exact Nat.lt_irrefl _)
 done:=by
  intro X G J L hc i u s σ H E I C g M;subst G J L;obtain⟨N,hx⟩:=M;obtain⟨O,g2,gx,j,Q,R,r,g3,g4⟩:=jjy I.hok N;rw[B] at g3;cases g3;have l:kvs.length=j.length:=Paired.length r;have S:es.size=j.length:=by rw[<- Array.length_toList,g4,L3]
  obtain⟨ok,ov,f⟩:=g;obtain⟨x,gg,dd,D,os⟩:=s;exact jnw (I.ok.hd hc) f O B (Array.getElem?_eq_none<|by omega) λh' eb=>⟨rfl,I.turnedL (t':=D) (wr:=[c]) (λb o d q=>eb b o (by simpa using d) q) C⟩
 self:=λ_ _ _ _ _ g h=>by
  obtain⟨ok,ov,f⟩:=g;exact Kn f h
def jlo(te:TE):TI:=λσ H R=>te σ H λx H1=>∃ a kvs,x=.ref a/\H1 a=some (.dT kvs)/\∀ o,R (jlv a o kvs)<|upd H1 a<|.frz o<|.dT kvs
section
variable {X:Cx}
def Inv.frzT{pins:List (Addr×Obj)}{σ:St}{H:Hp}{s:Shared}{a:Addr}{kvs:List (List Key×V)}(I:Inv X pins σ H s)(ea:H a=some (.dT kvs)) :
  ∃ o es ep,o.data=.dict es ep/\s.heap.get? a=some o/\o.ExactDict/\(a==sysModules)=false/\Inv X pins σ (upd H a<|.frz o<|.dT kvs) s:=by
 obtain⟨z,hd,e,r,o,es,ep,c,f,g,h,i⟩:=(show ObjOk X.prog X.w H s.heap a (.dT kvs) from I.hok a _ ea);refine⟨o,es,ep,g,c,f,hd,?_⟩;refine xf (s:=s) (t':=s.toks) I (by rw[ea];exact trivial) ⟨rfl,λ_ _=>rfl⟩ ⟨o,c⟩<|show ObjOk X.prog X.w _ s.heap a (.frz o<|.dT kvs) from⟨c,z,hd,e,KT.keeps (show KT H kvs e from r)<|λb j d=>?_,o,es,ep,c,f,g,h,i⟩;rw[jg<|λz=>by rw[z,ea] at d;cases d];exact d
def ji3{i:List Expr}{m:Nat}{tpos apos cpos:Pos}{e:Expr}{te:TE}(E:PE X e te)
  (f:attributeBase e "items" X.env (eval e X.env)=eval e X.env:=by rfl) (g:(apos.endLine==cpos.line)=true:=by rfl):PI X (.Tuple i m tpos) (.Call (.Attribute e "items" apos) [] [] cpos) (jlo te):=by
 intro d s σ H R I h;refine wpAny_Call_method0_late f g<|thn (E d s σ H _ I h) λv s1 ⟨x,G,l,r1,a,j,ex,ea,q⟩=>?_;subst ex;obtain rfl:v=Value.ref a:=r1;obtain⟨J,K,_⟩:=wS l<|.inr ⟨j,.inl ea⟩;obtain⟨S,n,p,T,r,L,t,_⟩:=l.frzT ea;obtain⟨c,M,dd,w,os⟩:=s1;refine⟨"dict","dict.items",PySem.F.plainAttrs_dict,PySem.F.slot_dict_items,PySem.F.type_dict_items,J,K,Calls.callWith_builtin rfl<|PySem.evalArgs_none ?_⟩;refine xr (es:=n) (ep:=p) r L t ?_;have A:∀ b u,c.get? b=some u->(c.push ({ cls:=.type "dict_items",data:=.fields #[.ref a] }:Obj)).get? b=some u:=λb u q=>L9 _ q;have B:Inv X d σ G ⟨c.push { cls:=.type "dict_items",data:=.fields #[.ref a] },M,dd,w,os⟩:=l.kept (t':=w) A;have N:(c.push ({ cls:=.type "dict_items",data:=.fields #[.ref a] }:Obj)).IsItemsView c.objs.size a:=⟨_,E6 _ rfl,rfl,rfl⟩;obtain⟨o,y,z,D,O,U,hd,C⟩:=B.frzT ea;refine jmq N O D ?_;generalize c.push ({ cls:=.type "dict_items",data:=.fields #[.ref a] }:Obj)=hp2 at *;have P:∀ b u,hp2.get? b=some u->(hp2.push ({ cls:=.type "dict_itemiterator",data:=.fields #[.none,.bool false,.ref a,.int 0 0,.int y.size 0,.int z 0,.none,.none] }:Obj)).get? b=some u:=λb u q=>L9 _ q;refine⟨hp2.objs.size,[hp2.objs.size],_,_,_,rfl,C.kept (t':=w) P,jew a _ o j y z D,⟨.none,.none,E6 _ rfl⟩,λb Q=>?_,q o⟩;have k:hp2.objs.size<=b:=by
  have:b=hp2.objs.size:=by simpa using Q
  rw[this];exact N0 _
 exact C.fpOk k<|C.hok.fresh k
end
end L2
set_option maxHeartbeats 1000000
namespace PySem
namespace F
def typeCall_zip_3(a b c:Value):checkTypeCall "zip" ⟨[a,b,c],[]⟩=pure ():=by kernel_rfl
def newCall_zip_3(a b c:Value):checkBuiltinCall "zip.__new__" ⟨[.type "zip",a,b,c],[]⟩=pure ():=by kernel_rfl
end F
end PySem
namespace L2
open PySem PySem.Spec PyProof.Rows
abbrev vC(h:Heap)(T:Addr)(a b c:Value):Prop:=h.get? T=some { cls:=.type "tuple",data:=.seq #[a,b,c] }
structure Z3(z TI TO j1 j2 j3 t l m:Addr):Prop where
 TIz:TI≠z
 TOz:TO≠z
 j1z:j1≠z
 j2z:j2≠z
 j3z:j3≠z
 TITO:TI≠TO
 TIj1:TI≠j1
 TIj2:TI≠j2
 TIj3:TI≠j3
 TOj1:TO≠j1
 TOj2:TO≠j2
 TOj3:TO≠j3
 j12:j1≠j2
 j13:j1≠j3
 j23:j2≠j3
 out:∀ x,x=t \/ x=l \/ x=m->x≠z/\x≠TO/\x≠j1/\x≠j2/\x≠j3
section
variable {prog:Program}{w:World}{A:Around}{E:J0}{s:Shared}
def xH(d:vC s.heap T a b c)
  (h:∀ h',h'.get? T=some { cls:=.type "tuple",data:=.seq ((#[a,b,c]:Array Value).setIfInBounds k x) }->Heap.SameBut T s.heap h'->Q () { s with heap:=h' }):wpAny (model prog w) A (updateSeq T (·.setIfInBounds k x)) Q E s:=by
 refine wpAny_updateSeq d rfl<|h _ (by rw[Heap.get?_update_self _ d rfl];simp[Obj.mapSeq])<|Heap.SameBut.update ..
variable {z TI TO j1 j2 j3 t l m:Addr}{n:Nat}{ts us vs:Array Value}{x u v a b c:Value}
def jgN{C:J0}(D:Z3 z TI TO j1 j2 j3 t l m)(y:IsZip s.heap z TI TO .none)(qI:vC s.heap TI (.ref j1) (.ref j2)<|.ref j3)(qO:vC s.heap TO a b c)
  (q1:s.heap.IsTupleIter j1 t n) (q2:s.heap.IsListIter j2 l n) (q3:s.heap.IsListIter j3 m n) (w1:s.heap.IsTuple t ts) (w2:s.heap.IsList l us) (w3:s.heap.IsList m vs) (ex:ts[n]?=some x) (eu:us[n]?=some u) (ev:vs[n]?=some v)
  (go:∀ k,IsZip k z TI TO (rawInt s.heap.objs.size)->vC k TO x u v->k.IsTupleIter j1 t (n+1)->k.IsListIter j2 l (n+1)->k.IsListIter j3 m (n+1)->vC k s.heap.objs.size x u v ->
   (∀ c o,c≠z->c≠TO->c≠j1->c≠j2->c≠j3->s.heap.get? c=some o->k.get? c=some o)->C (.ref s.heap.objs.size) { s with heap:=k }) :
  wpAny (model prog w) A (Builtin.«zip.__next__» ⟨[.ref z],[]⟩) (λfin s'=>∃ v,fin=.done (.ret v)/\C v s') E s:=by
 have nt:=D.out t<|.inl rfl;have J:=D.out l<|.inr<|.inl rfl;have nm:=D.out m<|.inr<|.inr rfl;refine(show wpAny (model prog w) A (field (.ref z) 2 >>= _) _ _ _ from L4 (U7 y rfl (x:=.bool false) rfl ?_));refine(show wpAny (model prog w) A (field (.ref z) 3 >>= _) _ _ _ from L4 (U7 y rfl (x:=.ref TI) rfl<|L4<|wpAny_seqItems qI rfl ?_));refine(show wpAny (model prog w) A (Builtin.SmallTypes.ownedTupleIsFree (.ref z) >>= _) _ _ _ from L4 ?_);delta Builtin.SmallTypes.ownedTupleIsFree;refine L4<|U7 y rfl (x:=.none) rfl<|M8 ?_;simp only[if_true];refine L4<|wpAny_rule<|L4<|U7 y rfl (x:=.ref TO) rfl<|L4<|wpAny_setField_rec y (by simp) λK L f=>?_;replace L:IsZip K z TI TO .ellipsis:=L;replace f:Heap.SameBut z s.heap K:=f;refine L4 ?_;simp only[List.forIn_cons,List.forIn_nil,List.zipIdx_cons,List.zipIdx_nil];refine L4<|L4<|wpAny_onRaise (show wpAny _ _ (Builtin.SmallTypes.nextOf (.ref j1) >>= _) _ _ _ from L4 (jdn (q1.extBut f.extBut D.j1z) (w1.extBut f.extBut nt.1) ex λM p1 g=>M8 ?_))
 replace g:Heap.SameBut j1 K M:=g;have o2:vC M TO a b c:=g.extBut _ _ D.TOj1<|f.extBut _ _ D.TOz qO;refine L4<|wpAny_seqItems o2 rfl<|L4<|xH o2 λN O h=>?_;replace O:vC N TO x b c:=O;replace h:Heap.SameBut TO M N:=h;refine L4<|wpAny_letGo<|M8<|L4<|L4<|wpAny_onRaise ?_;refine(show wpAny _ _ (Builtin.SmallTypes.nextOf (.ref j2) >>= _) _ _ _ from L4 (wpAny_nextOf_list_item (((q2.extBut f.extBut D.j2z).extBut g.extBut D.j12.symm).extBut h.extBut D.TOj2.symm) (((w2.extBut f.extBut J.1).extBut g.extBut J.2.2.1).extBut h.extBut J.2.1) eu λP p2 i=>M8 ?_));replace i:Heap.SameBut j2 N P:=i;have o4:vC P TO x b c:=i.extBut _ _ D.TOj2 O;refine L4<|wpAny_seqItems o4 rfl<|L4<|xH o4 λQ R j=>?_;replace R:vC Q TO x u c:=R;replace j:Heap.SameBut TO P Q:=j;refine L4<|wpAny_letGo<|M8<|L4<|L4<|wpAny_onRaise ?_;refine(show wpAny _ _ (Builtin.SmallTypes.nextOf (.ref j3) >>= _) _ _ _ from L4 (wpAny_nextOf_list_item (((((q3.extBut f.extBut D.j3z).extBut g.extBut D.j13.symm).extBut h.extBut D.TOj3.symm).extBut i.extBut D.j23.symm).extBut j.extBut D.TOj3.symm) (((((w3.extBut f.extBut nm.1).extBut g.extBut nm.2.2.1).extBut h.extBut nm.2.1).extBut i.extBut nm.2.2.2.1).extBut j.extBut nm.2.1) ev λS p3 p=>M8 ?_));replace p:Heap.SameBut j3 Q S:=p;have o6:vC S TO x u c:=p.extBut _ _ D.TOj3 R;refine L4<|wpAny_seqItems o6 rfl<|L4<|xH o6 λd G q=>?_;replace G:vC d TO x u v:=G;replace q:Heap.SameBut TO S d:=q;refine L4<|wpAny_letGo<|M8<|M8<|L4<|wpAny_seqItems G rfl<|L4<|wpAny_newTuple ?_;have es:d.objs.size=s.heap.objs.size:=by rw[q.1,p.1,j.1,i.1,h.1,g.1,f.1]
 have z7:IsZip d z TI TO .ellipsis:=q.extBut _ _ D.TOz.symm<|p.extBut _ _ D.j3z.symm<|j.extBut _ _ D.TOz.symm<|i.extBut _ _ D.j2z.symm<|h.extBut _ _ D.TOz.symm<|g.extBut _ _ D.j1z.symm L;have kp:∀ c o,c≠z->c≠TO->c≠j1->c≠j2->c≠j3->s.heap.get? c=some o->d.get? c=some o:=λc o r B T U V e=>q.extBut _ _ B<|p.extBut _ _ V<|j.extBut _ _ B<|i.extBut _ _ U<|h.extBut _ _ B<|g.extBut _ _ T<|f.extBut _ _ r e;have W:d.IsTupleIter j1 t (n+1):=((((p1.extBut h.extBut D.TOj1.symm).extBut i.extBut D.j12).extBut j.extBut D.TOj1.symm).extBut p.extBut D.j13).extBut q.extBut D.TOj1.symm;have X:d.IsListIter j2 l (n+1):=((p2.extBut j.extBut D.TOj2.symm).extBut p.extBut D.j23).extBut q.extBut D.TOj2.symm;have Y:d.IsListIter j3 m (n+1):=p3.extBut q.extBut D.TOj3.symm;have zl:z < d.objs.size:=N2 z7;refine(show wpAny (model prog w) A (Builtin.SmallTypes.ownedTupleHandOut (.ref z) (.ref d.objs.size) >>= _) _ _ _ from L4 ?_);delta Builtin.SmallTypes.ownedTupleHandOut;have z8:IsZip (d.push { cls:=.type "tuple",data:=.seq #[x,u,v] }) z TI TO .ellipsis:=L9 _ z7;refine L4<|wpAny_setField_rec z8 (by simp) λk9 Z b9=>?_;replace Z:IsZip k9 z TI TO (rawInt d.objs.size):=Z;refine wpAny_setField_rec Z (by simp) λH I bA=>?_;replace I:IsZip H z TI TO (rawInt d.objs.size):=I;have F:∀ c o,c≠z->d.get? c=some o->H.get? c=some o:=λc o r e=>bA.extBut _ _ r<|b9.extBut _ _ r<|L9 _ e;have tA:vC H d.objs.size x u v:=bA.extBut _ _ (Nat.ne_of_gt zl)<|b9.extBut _ _ (Nat.ne_of_gt zl)<|E6 _ rfl;rw[es] at I tA;refine M8 ⟨_,rfl,?_⟩;show C (.ref d.objs.size) _;rw[es];obtain⟨x1,y1,r1⟩:=W;obtain⟨x2,y2,r2⟩:=X;obtain⟨x3,y3,r3⟩:=Y;exact go H I (F _ _ D.TOz G) ⟨x1,F _ _ D.j1z y1,r1⟩ ⟨x2,F _ _ D.j2z y2,r2⟩ ⟨x3,F _ _ D.j3z y3,r3⟩ tA λc o r B T U V e=>F c o r<|kp c o r B T U V e
def jkA{C:PySem.Fin->Shared->Prop}(r:A.handled=none)(D:Z3 z TI TO j1 j2 j3 t l m)(a:IsZip s.heap z TI TO .none)(qI:vC s.heap TI (.ref j1) (.ref j2)<|.ref j3)
  (u:s.heap.IsTupleIter j1 t n) (w1:s.heap.IsTuple t ts) (ex:ts[n]?=none)
  (go:∀ k e,(∀ c o,c≠z->c≠TO->c≠j1->c≠j2->c≠j3->s.heap.get? c=some o->k.get? c=some o)->(∃ o,k.get? e=some o/\o.cls=.type "StopIteration")->E (.ref e) { s with heap:=k }) :
  wpAny (model prog w) A (Builtin.«zip.__next__» ⟨[.ref z],[]⟩) C E s:=by
 have v:=D.out t<|.inl rfl;refine(show wpAny (model prog w) A (field (.ref z) 2 >>= _) _ _ _ from L4 (U7 a rfl (x:=.bool false) rfl ?_));refine(show wpAny (model prog w) A (field (.ref z) 3 >>= _) _ _ _ from L4 (U7 a rfl (x:=.ref TI) rfl<|L4<|wpAny_seqItems qI rfl ?_));refine(show wpAny (model prog w) A (Builtin.SmallTypes.ownedTupleIsFree (.ref z) >>= _) _ _ _ from L4 ?_);delta Builtin.SmallTypes.ownedTupleIsFree;refine L4<|U7 a rfl (x:=.none) rfl<|M8 ?_;simp only[if_true];refine L4<|wpAny_rule<|L4<|U7 a rfl (x:=.ref TO) rfl<|L4<|wpAny_setField_rec a (by simp) λg d b=>?_;replace d:IsZip g z TI TO .ellipsis:=d;replace b:Heap.SameBut z s.heap g:=b;refine L4 ?_;simp only[List.forIn_cons,List.forIn_nil,List.zipIdx_cons,List.zipIdx_nil];refine L4<|L4<|wpAny_onRaise (show wpAny _ _ (Builtin.SmallTypes.nextOf (.ref j1) >>= _) _ _ _ from L4 (jh3 r (u.extBut b.extBut D.j1z) (w1.extBut b.extBut v.1) ex λy e h B=>?_))
 obtain⟨F,f,i⟩:=B;have j:IsZip y z TI TO .ellipsis:=h _ _ D.j1z.symm d;have ne:e≠z:=λx=>by subst x;rw[j] at f;cases f;simp at i
 exact wpAny_setField_rec j (by simp) λG _ p=>go G e (λc o q _ H _ _ x=>p.extBut _ _ q<|h _ _ H<|b.extBut _ _ q x) ⟨F,p.extBut _ _ ne f,i⟩
def jgt{C:Option Value->Shared->Prop}(D:Z3 z TI TO j1 j2 j3 t l m)(d:IsZip s.heap z TI TO .none)(qI:vC s.heap TI (.ref j1) (.ref j2)<|.ref j3)(e:vC s.heap TO a b c)
  (f:s.heap.IsTupleIter j1 t n) (g:s.heap.IsListIter j2 l n) (h:s.heap.IsListIter j3 m n) (w1:s.heap.IsTuple t ts) (w2:s.heap.IsList l us) (i:s.heap.IsList m vs) (ex:ts[n]?=some x) (j:us[n]?=some u) (p:vs[n]?=some v)
  (go:∀ k,IsZip k z TI TO (rawInt s.heap.objs.size)->vC k TO x u v->k.IsTupleIter j1 t (n+1)->k.IsListIter j2 l (n+1)->k.IsListIter j3 m (n+1)->vC k s.heap.objs.size x u v ->
   (∀ c o,c≠z->c≠TO->c≠j1->c≠j2->c≠j3->s.heap.get? c=some o->k.get? c=some o)->C (some<|.ref s.heap.objs.size) { s with heap:=k }):wpAny (model prog w) A (pyNext<|.ref z) C E s:=by
 have ty:s.TypeIs (.ref z) "zip":=⟨_,d,rfl⟩;unfold pyNext;exact L4<|wpAny_attempt<|wpAny_callSpecial?_slot (name:=Str.ofString "__next__") ty F.slot_zip_next<|wpAny_call_entry F.slot_zip_next ty F.entry_zip_next
  (jgN D d qI e f g h w1 w2 i ex j p λk c1 q r y B G H=>M8<|go k c1 q r y B G H) (F.args_zip_next_1 _)
def jg4{C:Option Value->Shared->Prop}(d:A.handled=none)(D:Z3 z TI TO j1 j2 j3 t l m)(a:IsZip s.heap z TI TO .none)(qI:vC s.heap TI (.ref j1) (.ref j2)<|.ref j3)
  (f:s.heap.IsTupleIter j1 t n) (w1:s.heap.IsTuple t ts) (ex:ts[n]?=none)
  (go:∀ k,(∀ c o,c≠z->c≠TO->c≠j1->c≠j2->c≠j3->s.heap.get? c=some o->k.get? c=some o)->C none { s with heap:=k }):wpAny (model prog w) A (pyNext<|.ref z) C E s:=by
 have ty:s.TypeIs (.ref z) "zip":=⟨_,a,rfl⟩;unfold pyNext;refine L4<|wpAny_attempt<|wpAny_callSpecial?_slot (name:=Str.ofString "__next__") ty F.slot_zip_next<|wpAny_call_entry F.slot_zip_next ty F.entry_zip_next (jkA d D a qI f w1 ex λk e kp g=>?_)<|F.args_zip_next_1 _;obtain⟨o,h,i⟩:=g;exact L4<|wpAny_isInstance (T:="StopIteration") (b:=true) ⟨o,h,i⟩ isSubtype_stop<|M8<|go _ kp
end
noncomputable abbrev z3A(h:Heap)(t:Addr):Heap:=h.push { cls:=.type "tuple_iterator",data:=.fields #[.ref t,.int 0 0] }
abbrev z3B(h:Heap)(t l:Addr):Heap:=(z3A h t).push { cls:=.type "list_iterator",data:=.fields #[.ref l,.int 0 0] }
abbrev z3C(h:Heap)(t l m:Addr):Heap:=(z3B h t l).push { cls:=.type "list_iterator",data:=.fields #[.ref m,.int 0 0] }
abbrev z3D(h:Heap)(t l m:Addr):Heap:=(z3C h t l m).push { cls:=.type "tuple",data:=.seq #[.ref h.objs.size,.ref (z3A h t).objs.size,.ref (z3B h t l).objs.size] }
abbrev z3E(h:Heap)(t l m:Addr):Heap:=(z3D h t l m).push { cls:=.type "tuple",data:=.seq #[.none,.none,.none] }
abbrev z3F(h:Heap)(t l m:Addr):Heap:=(z3E h t l m).push { cls:=.type "zip",data:=.fields #[.none,.bool false,.bool false,.ref (z3C h t l m).objs.size,.ref (z3D h t l m).objs.size] }
def jih(t l m:Addr)(ts us vs:Array Value):Meets (Builtin.«zip.__new__» ⟨[.type "zip",.ref t,.ref l,.ref m],[]⟩) (λ_ R s=>s.heap.IsTuple t ts/\s.heap.IsList l us/\s.heap.IsList m vs/\R (.ok<|.ret<|.ref (z3E s.heap t l m).objs.size) { s with heap:=z3F s.heap t l m }) :=
 .of_wp λprog w A R s h=>by
  obtain⟨a,g,d,b,os⟩:=s;obtain⟨e,f,i,h⟩:=h;have c:=sub_zip;have j:Heap.IsTuple (Shared.heap ⟨a,g,d,b,os⟩) t ts:=e;have e2:Heap.IsList (Shared.heap ⟨z3A a t,g,d,b,os⟩) l us:=Heap.IsList.push f _;have e3:Heap.IsList (Shared.heap ⟨z3B a t l,g,d,b,os⟩) m vs:=Heap.IsList.push (Heap.IsList.push i _) _
  wp_walk using wpAny_pyIter_tuple j,wpAny_pyIter_list e2,wpAny_pyIter_list e3
  exact⟨_,rfl,h⟩
end L2
namespace PySem
namespace F
def args_object_init_4(a b c d:Value):argsOk "object.__init__" ⟨[a,b,c,d],[]⟩:=by
 unfold argsOk;kernel_rfl
end F
end PySem
namespace L2
open PySem PySem.Spec PyProof.Rows
def jhw(h1:s.heap.IsTuple t ts)(h2:s.heap.IsList l us)(p:s.heap.IsList m vs)
  (go:∀ k,IsZip k (s.heap.objs.size+5) (s.heap.objs.size+3) (s.heap.objs.size+4) .none->vC k (s.heap.objs.size+3) (.ref s.heap.objs.size) (.ref<|s.heap.objs.size+1) (.ref<|s.heap.objs.size+2)->vC k (s.heap.objs.size+4) .none .none .none ->
   k.IsTupleIter s.heap.objs.size t 0->k.IsListIter (s.heap.objs.size+1) l 0->k.IsListIter (s.heap.objs.size+2) m 0->(∀ c o,s.heap.get? c=some o->k.get? c=some o)->C (.ref<|s.heap.objs.size+5) { s with heap:=k }) :
  wpAny (model prog w) A (call (.type "zip") [.ref t,.ref l,.ref m]) C E s:=by
 refine callType_new F.called_zip (by decide) (F.typeCall_zip_3 _ _ _) (F.newCall_zip_3 _ _ _) (λobj=>F.args_object_init_4 obj _ _ _) F.entry_zip_new (jih t l m ts us vs) ⟨h1,h2,p,?_⟩;have a:(z3A s.heap t).objs.size=s.heap.objs.size+1:=Heap.size_push ..;have b:(z3B s.heap t l).objs.size=s.heap.objs.size+2:=by rw[Heap.size_push,a]
 have d:(z3C s.heap t l m).objs.size=s.heap.objs.size+3:=by rw[Heap.size_push,b]
 have e:(z3D s.heap t l m).objs.size=s.heap.objs.size+4:=by rw[Heap.size_push,d]
 have g:(z3E s.heap t l m).objs.size=s.heap.objs.size+5:=by rw[Heap.size_push,e]
 have f:(z3F s.heap t l m).get? (z3E s.heap t l m).objs.size=some _:=E6 _ rfl;have h:(z3F s.heap t l m).get? (z3D s.heap t l m).objs.size=some _:=L9 _<|E6 _ rfl;have i:(z3F s.heap t l m).get? (z3C s.heap t l m).objs.size=some _:=L9 _<|L9 _<|E6 _ rfl;have j:(z3F s.heap t l m).get? (z3B s.heap t l).objs.size=some _:=L9 _<|L9 _<|L9 _<|E6 _ rfl;have n:(z3F s.heap t l m).get? (z3A s.heap t).objs.size=some _:=L9 _<|L9 _<|L9 _<|L9 _<|E6 _ rfl;have q:(z3F s.heap t l m).get? s.heap.objs.size=some _:=L9 _<|L9 _<|L9 _<|L9 _<|L9 _<|E6 _ rfl;show _/\_;rw[d,e,g] at f;rw[a,b,d] at i;rw[e] at h;rw[b] at j;rw[a] at n;rw[g];exact⟨⟨_,f,rfl⟩,go _ f i h ⟨_,q,rfl,rfl⟩ ⟨_,n,rfl,rfl⟩ ⟨_,j,rfl,rfl⟩ λc o x=>L9 _<|L9 _<|L9 _<|L9 _<|L9 _<|L9 _ x⟩
def jf4(n t l m:Nat)(h1:t < n)(h2:l < n)(c:m < n):Z3 (n+5) (n+3) (n+4) n (n+1) (n+2) t l m:=by
 refine⟨?_,?_,?_,?_,?_,?_,?_,?_,?_,?_,?_,?_,?_,?_,?_,λx b=>?_⟩
 all_goals try (show(_:Nat)≠_;lia)
 have a:x < n:=by rcases b with rfl | rfl | rfl<;>assumption
 refine⟨?_,?_,?_,?_,?_⟩<;>(show(_:Nat)≠_;exact N7<|by first | exact a | exact U5 a<|Nat.le_add_right _ _)
def Iz3(K:W4)(t l m:Addr):It :=
 ⟨λi H=>∃ ts xs ys q x y,SqT K H t ts/\SqL K H l xs/\SqL K H m ys/\ts[i]?=some q/\xs[i]?=some x/\ys[i]?=some y,
  λi H x H'=>∃ p q u v,(∀ ts,SqT K H t ts->ts[i]?=some q)/\(∀ xs,SqL K H l xs->xs[i]?=some u)/\(∀ ys,SqL K H m ys->ys[i]?=some v)/\x=.ref p/\H p=none/\H'=upd H p (.tup [q,u,v]),
  λi H=>∃ ts,SqT K H t ts/\ts.length<=i⟩
def jie{P:Program}{w:World}{K:W4}{L:List Expr}{n:Nat}{pos:Pos}(z TI TO j1 j2 j3 t l m:Addr)(D:Z3 z TI TO j1 j2 j3 t l m) :
  Turn P w K (.Tuple L n pos) (Iz3 K t l m) [z,TI,TO,j1,j2,j3] z (λi h=>IsZip h z TI TO .none/\vC h TI (.ref j1) (.ref j2) (.ref j3)/\(∃ a b c,vC h TO a b c)/\h.IsTupleIter j1 t i/\h.IsListIter j2 l i/\h.IsListIter j3 m i) where
 mem:=by simp
 obj:=λi h g b A=>by
  obtain⟨j,p,⟨a,c,e,C⟩,⟨V,B,_,d4⟩,⟨o5,F,_,d5⟩,⟨o6,G,_,d6⟩⟩:=g;rcases(by simpa using A:b=z \/ b=TI \/ b=TO \/ b=j1 \/ b=j2 \/ b=j3) with q | q | q | q | q | q<;>subst q
  ·exact⟨_,j,λv q=>by cases q⟩
  ·exact⟨_,p,λv q=>by cases q⟩
  ·exact⟨_,C,λv q=>by cases q⟩
  ·exact⟨_,B,λv q=>by rw[d4] at q;cases q⟩
  ·exact⟨_,F,λv q=>by rw[d5] at q;cases q⟩
  ·exact⟨_,G,λv q=>by rw[d6] at q;cases q⟩
 keep:=λi h h' g k=>by
  obtain⟨j,p,⟨a,c,e,C⟩,⟨V,B,r4⟩,F,G⟩:=g;exact⟨k z (by simp) _ j,k TI (by simp) _ p,⟨a,c,e,k TO (by simp) _ C⟩,⟨V,k j1 (by simp) _ B,r4⟩,F.at λo q=>k j2 (by simp) o q,G.at λo q=>k j3 (by simp) o q⟩
 item:=by
  intro X hP hw hK hc i M s σ H E I Y g hg;subst hP hw hK;obtain⟨ts,xs,ys,q,x,y,r,N,O,hq,hx,hy⟩:=hg;obtain⟨Q,J,p0,hz0⟩:=I.tuple r;obtain⟨its1,rv1,p1,hz1⟩:=I.list N;obtain⟨its2,rv2,p2,hz2⟩:=I.list O;obtain⟨q',hq',rq⟩:=J.get hq;obtain⟨u,hu,ru⟩:=rv1.get hx;obtain⟨v,hv,rv⟩:=rv2.get hy;obtain⟨j,p,⟨a,c,e,C⟩,B,F,G⟩:=g;refine jgt D j p C B F G p0 p1.isList p2.isList (x:=q') (u:=u) (v:=v) (by simpa using hq') (by simpa using hu) (by simpa using hv) λhh a1 a2 a3 a4 a5 a6 Z=>?_;refine⟨_,rfl,wpAny_letOwnedTupleGo_zip (s:={ s with heap:=hh }) a1 λR hz7 f=>?_⟩;replace f:Heap.SameBut z hh R:=f;have lt:∀{c o},s.heap.get? c=some o->c < s.heap.objs.size:=λe=>N2 e;have S:R.get? s.heap.objs.size=_:=(f.2 _<|Nat.ne_of_gt<|lt j).trans a6;have kk:∀ b o,b∉[z,TI,TO,j1,j2,j3]->s.heap.get? b=some o->R.get? b=some o:=λb o A q=>by
   have d:b≠z/\b≠TI/\b≠TO/\b≠j1/\b≠j2/\b≠j3:=by simpa using A
   exact(f.2 b d.1).trans (Z b o d.1 d.2.2.1 d.2.2.2.1 d.2.2.2.2.1 d.2.2.2.2.2 q)
  have I1:=I.turnedNew (h':=R) (t':=s.toks) (wr:=[z,TI,TO,j1,j2,j3]) (T:=s.heap.objs.size) (xs:=[q,x,y]) (its:=#[q',u,v]) kk Y (N0 _) ⟨⟨_,S,rfl,_,rfl⟩,_,S,rfl⟩ (.cons rq<|.cons ru<|.cons rv .nil) (by show 3<=sizeLine;decide);have g4:R.IsTupleIter j1 t (i+1):=by
   obtain⟨V,e4,r4⟩:=a3;exact⟨V,(f.2 j1 D.j1z).trans e4,r4⟩
  refine⟨.ref s.heap.objs.size,_,I1,rfl,⟨_,q,x,y,(λzs U=>by rw[I.tuple_inj U r];exact hq),(λzs U=>by rw[I.list_inj U N];exact hx),(λzs U=>by rw[I.list_inj U O];exact hy),rfl,I.hok.fresh<|N0 _,rfl⟩,⟨hz7,(f.2 TI D.TIz).trans (Z _ _ D.TIz D.TITO D.TIj1 D.TIj2 D.TIj3 p),⟨_,_,_,(f.2 TO D.TOz).trans a2⟩,g4,a4.at λo q=>(f.2 j2 D.j2z).trans q,a5.at λo q=>(f.2 j3 D.j3z).trans q⟩,λb A=>?_⟩;rw[jg]
  ·exact(Y b A).1
  ·intro q;have:b < s.heap.objs.size:=by
    obtain⟨_,h4',_⟩:=id B;obtain⟨_,h5',_⟩:=id F;obtain⟨_,h6',_⟩:=id G;rcases(by simpa using A:b=z \/ b=TI \/ b=TO \/ b=j1 \/ b=j2 \/ b=j3) with w | w | w | w | w | w<;>rw[w]
    ·exact lt j
    ·exact lt p
    ·exact lt C
    ·exact lt h4'
    ·exact lt h5'
    ·exact lt h6'
   exact absurd this (by rw[q];exact Nat.lt_irrefl _)
 done:=by
  intro X hP hw hK hc i M s σ H E I Y g hg;subst hP hw hK;obtain⟨ts,r,hx⟩:=hg;obtain⟨Q,J,p0,hz0⟩:=I.tuple r;obtain⟨j,p,⟨a,c,e,C⟩,B,F,G⟩:=g;have hl1:=J.length;exact jg4 (I.ok.hd hc) D j p B p0 (by simp;lia) λhh Z=>⟨rfl,I.turnedL (t':=s.toks) (wr:=[z,TI,TO,j1,j2,j3]) (λb o A q=>by
   have d:b≠z/\b≠TI/\b≠TO/\b≠j1/\b≠j2/\b≠j3:=by simpa using A
   exact Z b o d.1 d.2.2.1 d.2.2.2.1 d.2.2.2.2.1 d.2.2.2.2.2 q) Y⟩
 self:=λ_ _ _ _ _ g h=>wpAny_pyIter_zip g.1 h
def iZ3(K:W4)(tl:TA):TI:=λσ H R=>tl σ H λvs H1=>∃ a b c ts xs ys,vs=[.ref a,.ref b,.ref c]/\SqT K H1 a ts/\SqL K H1 b xs/\SqL K H1 c ys/\R (Iz3 K a b c) H1
def jl4{X:Cx}{g:List Expr}{n:Nat}{tpos p pos:Pos}{a b c:Expr}{ta:TA}(J:Gl X "zip")(L:X.mg "zip" = none)(M:PA X [a,b,c] ta)(N:starEach [a,b,c] X.env=[(false,eval a X.env),(false,eval b X.env),(false,eval c X.env)]:=by rfl)(i:starEach [b,c] X.env=[(false,eval b X.env),(false,eval c X.env)]:=by rfl) :
  PI X (.Tuple g n tpos) (.Call (.Name "zip" p) [a,b,c] [] pos) (iZ3 X.K ta):=by
 intro d s σ H R I h;refine Call_<|Je I J L (show bootBuiltins "zip" = some (.type "zip") by decide +kernel)<|PyProof.Rows.callWith_type1 (thn (M pos d s σ H _ I h) λus s1 ⟨vs,B,f,r1,O⟩=>?_) (by rw[N,i]) (by rw[i];rfl);obtain⟨l1,l2,v,ts,xs,ys,rfl,w,x,y,q⟩:=O;cases r1 with
 | cons r1 r2 =>
  cases r2 with
  | cons r2 A =>
   cases A with
   | cons A P =>
    cases P;cases r1;cases r2;cases A;obtain⟨C,Q,j,S⟩:=f.tuple w;obtain⟨D,T,k,U⟩:=f.list x;obtain⟨E,V,l,W⟩:=f.list y;have m:l1 < s1.heap.objs.size:=by
     obtain⟨o,e,_⟩:=id j;exact N2 e
    have r:l2 < s1.heap.objs.size:=by
     obtain⟨o,_,e,_⟩:=k;exact N2 e
    have t:v < s1.heap.objs.size:=by
     obtain⟨o,_,e,_⟩:=l;exact N2 e
    refine jhw j k.isList l.isList λF G Y Z a4 a5 a6 hk=>?_;have I2:Inv X d σ B { s1 with heap:=F }:=f.kept (t':=s1.toks) hk;refine PySem.wpAny_pyIter_zip (s:={ s1 with heap:=F }) G ?_;refine⟨s1.heap.objs.size+5,[s1.heap.objs.size+5,s1.heap.objs.size+3,s1.heap.objs.size+4,s1.heap.objs.size,s1.heap.objs.size+1,s1.heap.objs.size+2],_,_,B,rfl,I2,jie _ _ _ _ _ _ l1 l2 v<|jf4 _ l1 l2 v m r t,⟨G,Y,⟨_,_,_,Z⟩,a4,a5,a6⟩,λb hb=>?_,q⟩;have u:s1.heap.objs.size<=b:=by
     rcases(by simpa using hb:b=s1.heap.objs.size+5 \/ b=s1.heap.objs.size+3 \/ b=s1.heap.objs.size+4 \/ b=s1.heap.objs.size \/ b=s1.heap.objs.size+1 \/ b=s1.heap.objs.size+2) with z | z | z | z | z | z<;>rw[z]
     ·exact Nat.le_add_right _ 5
     ·exact Nat.le_add_right _ 3
     ·exact Nat.le_add_right _ 4
     ·exact N0 _
     ·exact Nat.le_add_right _ 1
     ·exact Nat.le_add_right _ 2
    exact f.fpOk u<|f.hok.fresh u
end L2
namespace PySem
open Sem (wp)
namespace F
end F
end PySem
namespace L2
open PySem PySem.Spec PyProof.Rows
end L2
namespace PySem
open L2 PyProof.Rows
end PySem
namespace L2
open PySem PySem.Spec PyProof.Rows
end L2
namespace QD
open PySem L2
inductive KA where
 | int (i:Int) | str (s:List Nat)
 deriving DecidableEq
inductive D where
 | non | bl (b:Bool) | int (i:Int) | str (s:List Nat)
 | tup (l:List D) | lst (o:Bool) (l:List D)
 | dK (o:Bool) (ks:List KA) (l:List D)
 | dT (o:Bool) (ks:List (List KA)) (l:List D)
 | ins (o:Bool) (c:Nat) (ns:List Str) (l:List D)
 | dead
  | exc (c:Nat) (p:Int)
def xo(C a dx:Addr):Heap->Prop:=λh=>∃ o vs,h.get? a=some o/\o.cls=.ref C/\o.dict=some dx/\o.data=.fields vs
mutual
noncomputable def fz:D->D
 | .tup l=>.tup<|fzs l
 | .lst _ l=>.lst false<|fzs l
 | .dK _ ks l=>.dK false ks<|fzs l
 | .dT _ ks l=>.dT false ks<|fzs l
 | .ins _ c ns l=>.ins false c ns<|fzs l
 | .non=>.non | .bl b=>.bl b | .int i=>.int i | .str s=>.str s | .dead=>.dead | .exc c p=>.exc c p
noncomputable def fzs:List D->List D
 | []=>[]
 | d::l=>fz d::fzs l
end
mutual
noncomputable def frz:D->Bool
 | .tup l=>frzs l
 | .lst o l=>!o&&frzs l
 | .dK o _ l=>!o&&frzs l
 | .dT o _ l=>!o&&frzs l
 | .ins o _ _ l=>!o&&frzs l
 | .non=>true | .bl _=>true | .int _=>true | .str _=>true | .dead=>true | .exc _ _=>true
noncomputable def frzs:List D->Bool
 | []=>true
 | d::l=>frz d&&frzs l
end
mutual
theorem jix:∀ d:D,frz d=true->fz d=d
 | .tup l,h=>by rw[frz] at h;rw[fz,qm l h]
 | .lst o l,h=>by rw[frz,M3] at h;rw[fz,qm l h.2];cases o<;>simp_all
 | .dK o ks l,h=>by rw[frz,M3] at h;rw[fz,qm l h.2];cases o<;>simp_all
 | .dT o ks l,h=>by rw[frz,M3] at h;rw[fz,qm l h.2];cases o<;>simp_all
 | .ins o c ns l,h=>by rw[frz,M3] at h;rw[fz,qm l h.2];cases o<;>simp_all
 | .non,_=>rfl | .bl _,_=>rfl | .int _,_=>rfl | .str _,_=>rfl | .dead,_=>rfl | .exc _ _,_=>rfl
theorem qm:∀ l:List D,frzs l=true->fzs l=l
 | [],_=>rfl
 | d::l,h=>by rw[frzs,M3] at h;rw[fzs,jix d h.1,qm l h.2]
end
mutual
theorem jiL:∀ d:D,frz (fz d)=true
 | .tup l=>by rw[fz,frz];exact qk l
 | .lst o l=>by rw[fz,frz,qk l];rfl
 | .dK o ks l=>by rw[fz,frz,qk l];rfl
 | .dT o ks l=>by rw[fz,frz,qk l];rfl
 | .ins o c ns l=>by rw[fz,frz,qk l];rfl
 | .non=>rfl | .bl _=>rfl | .int _=>rfl | .str _=>rfl | .dead=>rfl | .exc _ _=>rfl
theorem qk:∀ l:List D,frzs (fzs l)=true
 | []=>rfl
 | d::l=>by rw[fzs,frzs,jiL d,qk l];rfl
end
theorem vU:∀ l:List D,fzs l=l.map fz
 | []=>rfl
 | d::l=>by rw[fzs,vU l];rfl
theorem Ku:∀ l:List D,frzs l=l.all frz
 | []=>rfl
 | d::l=>by rw[frzs,Ku l];rfl
structure RC where
 K:PySem.W.Frag
 cls:Nat->Addr
def kaV:KA->Key
 | .int i=>.inl i
 | .str s=>.inr<|S s
noncomputable abbrev Zn:=Addr->Prop
def FT(R:RC)(Z:Zn)(H:Hp)(a:Addr)(vs:List V):Prop :=
 (Z a/\Rd H a (.tup vs)) \/ ∃(o:Obj) (its:Array Value) (n:Nat),R.K.lookup a=some o/\o.cls=.type "tuple"/\o.data=.seq its n/\its.size<=sizeLine/\Vals vs its.toList/\o.dict=none
def FL(R:RC)(Z:Zn)(H:Hp)(a:Addr)(vs:List V):Prop :=
 (Z a/\Rd H a (.lst vs)) \/ ∃(its:Array Value) (n:Nat),R.K.lookup a=some { cls:=.type "list",data:=.seq its n }/\its.size<=sizeLine/\Vals vs its.toList
def DkA(o:Bool)(H:Hp)(a:Addr)(kvs:List<|Key×V):Prop:=bif o then H a=some (.dK kvs) else Rd H a (.dK kvs)
inductive RpC (rs:List V->List Addr->Prop) (C:Addr->List V->List Addr->Prop) (v:V):Prop
 | mk:∀(a:Addr) (vs:List V) (O':W5),v=.ref a->rs vs O'->C a vs O'->RpC rs C v
inductive RpS (rd:V->List Addr->Prop) (rs:List V->List Addr->Prop) (vs:List V) (O:W5):Prop
 | mk:∀(v:V) (vs':List V) (O1 O2:W5),vs=v::vs'->O=O1++O2->rd v O1->rs vs' O2->RpS rd rs vs O
mutual
def Rep(R:RC)(Z:Zn)(H:Hp):D->V->List Addr->Prop
 | .non,v,O=>v=.non/\O=[]
 | .bl b,v,O=>v=.bl b/\O=[]
 | .int i,v,O=>v=.int i/\O=[]
 | .str s,v,O=>v=.str (S s)/\O=[]
 | .dead,_,O=>O=[]
 | .exc c p,v,O=>∃ a dx,v=.ref a/\Z a/\Z dx/\H a=some (.ext<|xo (R.cls c) a dx)/\H dx=some (.xd [("place",.int p)])/\O=[]
 | .tup l,v,O=>∃ a vs,v=.ref a/\FT R Z H a vs/\Reps R Z H l vs O
 | .lst o l,v,O=>RpC (λvs O'=>Reps R Z H l vs O') (λa vs O'=>bif o then H a=some (.lst vs)/\O=a::O' else FL R Z H a vs/\O'=[]/\O=[]) v
 | .dK o ks l,v,O=>RpC (λvs O'=>Reps R Z H l vs O') (λa vs O'=>ks.length=l.length/\DkA o H a ((ks.map kaV).zip vs)/\bif o then O=a::O' else Z a/\O'=[]/\O=[]) v
 | .dT o ks l,v,O=>RpC (λvs O'=>Reps R Z H l vs O') (λa vs O'=>ks.length=l.length/\H a=some (.dT<|(ks.map<|List.map kaV).zip vs)/\bif o then O=a::O' else Z a/\O'=[]/\O=[]) v
 | .ins o c ns l,v,O=>∃ a dx vs O',v=.ref a/\Reps R Z H l vs O'/\ns.length=l.length/\H a=some (.ins (R.cls c) dx<|ns.zip vs)/\bif o then O=a::O' else Z a/\O'=[]/\O=[]
def Reps(R:RC)(Z:Zn)(H:Hp):List D->List V->List Addr->Prop
 | [],vs,O=>vs=[]/\O=[]
 | d::ds,vs,O=>RpS (λv O1=>Rep R Z H d v O1) (λvs' O2=>Reps R Z H ds vs' O2) vs O
end
def FT.sq(h:FT R Z H a vs):SqT R.K H a vs:=by
 rcases h with⟨_,h⟩ | ⟨o,b,n,c,d,e,f,g,_⟩
 ·exact .inl h
 ·exact .inr ⟨o,b,n,c,d,e,f,g⟩
def FL.sqx(h:FL R Z H a vs):SqX R.K H a vs:=by
 rcases h with⟨_,h⟩ | h
 ·exact .inl h
 ·exact .inr h
def FL.sq(h:FL R Z H a vs):SqL R.K H a vs:=h.sqx.sq
def Rd.agree(e:H' a=H a)(h:Rd H a u):Rd H' a u:=by
 unfold Rd at h ⊢;rw[e];exact h
def FT.frame(hz:∀ a,Z a->Z' a)(b:∀ a,Z a->H' a=H a)(h:FT R Z H a vs):FT R Z' H' a vs:=by
 rcases h with⟨z,h⟩ | h
 ·exact .inl ⟨hz a z,Rd.agree (b a z) h⟩
 ·exact .inr h
def FL.frame(hz:∀ a,Z a->Z' a)(b:∀ a,Z a->H' a=H a)(h:FL R Z H a vs):FL R Z' H' a vs:=by
 rcases h with⟨z,h⟩ | h
 ·exact .inl ⟨hz a z,Rd.agree (b a z) h⟩
 ·exact .inr h
mutual
theorem Rep.frame(hz:∀ a,Z a->Z' a)(hH:∀ a,Z a->H' a=H a):∀{d:D}{v:V}{O:W5},Rep R Z H d v O->(∀ a∈O,H' a=H a)->Rep R Z' H' d v O
 | .non,_,_,h,_=>by rw[Rep] at h ⊢;exact h
 | .bl _,_,_,h,_=>by rw[Rep] at h ⊢;exact h
 | .int _,_,_,h,_=>by rw[Rep] at h ⊢;exact h
 | .str _,_,_,h,_=>by rw[Rep] at h ⊢;exact h
 | .dead,_,_,h,_=>by rw[Rep] at h ⊢;exact h
 | .exc _ _,_,_,h,_=>by
  rw[Rep] at h ⊢;obtain⟨a,dx,e,z1,z2,h1,h2,h3⟩:=h;exact⟨a,dx,e,hz a z1,hz dx z2,(hH a z1).trans h1,(hH dx z2).trans h2,h3⟩
 | .tup l,_,_,h,hO=>by
  rw[Rep] at h ⊢;obtain⟨a,vs,e,t,r⟩:=h;exact⟨a,vs,e,t.frame hz hH,Reps.frame hz hH r hO⟩
 | .lst o l,_,_,h,hO=>by
  rw[Rep] at h ⊢;obtain⟨a,vs,O',e,r,h⟩:=h;cases o with
  | true =>
   obtain⟨h1,rfl⟩:=h;exact⟨a,vs,O',e,Reps.frame hz hH r λb hb=>hO b<|L7 _ hb,by rw[cond_true,hO a L8];exact⟨h1,rfl⟩⟩
  | false =>
   obtain⟨h1,rfl,rfl⟩:=h;exact⟨a,vs,[],e,Reps.frame hz hH r (λb hb=>nomatch hb),h1.frame hz hH,rfl,rfl⟩
 | .dK o ks l,_,_,h,hO=>by
  rw[Rep] at h ⊢;obtain⟨a,vs,O',e,r,hl,hd,h⟩:=h;cases o with
  | true =>
   have h:=(show _=_ from h);subst h;exact⟨a,vs,O',e,Reps.frame hz hH r λb hb=>hO b<|L7 _ hb,hl,by show H' a=some _;rw[hO a L8];exact hd,rfl⟩
  | false =>
   obtain⟨h1,rfl,rfl⟩:=h;exact⟨a,vs,[],e,Reps.frame hz hH r (λb hb=>nomatch hb),hl,Rd.agree (hH a h1) hd,hz a h1,rfl,rfl⟩
 | .dT o ks l,_,_,h,hO=>by
  rw[Rep] at h ⊢;obtain⟨a,vs,O',e,r,hl,hd,h⟩:=h;cases o with
  | true =>
   have h:=(show _=_ from h);subst h;exact⟨a,vs,O',e,Reps.frame hz hH r λb hb=>hO b<|L7 _ hb,hl,by rw[hO a L8];exact hd,rfl⟩
  | false =>
   obtain⟨h1,rfl,rfl⟩:=h;exact⟨a,vs,[],e,Reps.frame hz hH r (λb hb=>nomatch hb),hl,by rw[hH a h1];exact hd,hz a h1,rfl,rfl⟩
 | .ins o c ns l,_,_,h,hO=>by
  rw[Rep] at h ⊢;obtain⟨a,dx,vs,O',e,r,hl,hd,h⟩:=h;cases o with
  | true =>
   have h:=(show _=_ from h);subst h;exact⟨a,dx,vs,O',e,Reps.frame hz hH r λb hb=>hO b<|L7 _ hb,hl,by rw[hO a L8];exact hd,rfl⟩
  | false =>
   obtain⟨h1,rfl,rfl⟩:=h;exact⟨a,dx,vs,[],e,Reps.frame hz hH r (λb hb=>nomatch hb),hl,by rw[hH a h1];exact hd,hz a h1,rfl,rfl⟩
theorem Reps.frame(hz:∀ a,Z a->Z' a)(hH:∀ a,Z a->H' a=H a):∀{l:List D}{vs:List V}{O:W5},Reps R Z H l vs O->(∀ a∈O,H' a=H a)->Reps R Z' H' l vs O
 | [],_,_,h,_=>by rw[Reps] at h ⊢;exact h
 | d::l,_,_,h,hO=>by
  rw[Reps] at h ⊢;obtain⟨v,vs,O1,O2,e,rfl,r1,r2⟩:=h;exact⟨v,vs,O1,O2,e,rfl,Rep.frame hz hH r1 λa ha=>hO a<|List.mem_append_left _ ha,Reps.frame hz hH r2 λa ha=>hO a<|U4 _ ha⟩
end
mutual
theorem Rep.nil:∀{d:D}{v:V}{O:W5},Rep R Z H d v O->frz d=true->O=[]
 | .non,_,_,h,_=>by rw[Rep] at h;exact h.2
 | .bl _,_,_,h,_=>by rw[Rep] at h;exact h.2
 | .int _,_,_,h,_=>by rw[Rep] at h;exact h.2
 | .str _,_,_,h,_=>by rw[Rep] at h;exact h.2
 | .dead,_,_,h,_=>by rw[Rep] at h;exact h
 | .exc _ _,_,_,h,_=>by rw[Rep] at h;obtain⟨_,_,_,_,_,_,_,h⟩:=h;exact h
 | .tup l,_,_,h,f=>by
  rw[Rep] at h;rw[frz] at f;obtain⟨a,vs,e,t,r⟩:=h;exact Reps.nil r f
 | .lst o l,_,_,h,f=>by
  rw[Rep] at h;rw[frz] at f;obtain⟨a,vs,O',e,r,h⟩:=h;cases o with
  | true=>exact absurd f (by simp)
  | false=>exact h.2.2
 | .dK o ks l,_,_,h,f=>by
  rw[Rep] at h;rw[frz] at f;obtain⟨a,vs,O',e,r,hl,hd,h⟩:=h;cases o with
  | true=>exact absurd f (by simp)
  | false=>exact h.2.2
 | .dT o ks l,_,_,h,f=>by
  rw[Rep] at h;rw[frz] at f;obtain⟨a,vs,O',e,r,hl,hd,h⟩:=h;cases o with
  | true=>exact absurd f (by simp)
  | false=>exact h.2.2
 | .ins o c ns l,_,_,h,f=>by
  rw[Rep] at h;rw[frz] at f;obtain⟨a,dx,vs,O',e,r,hl,hd,h⟩:=h;cases o with
  | true=>exact absurd f (by simp)
  | false=>exact h.2.2
theorem Reps.nil:∀{l:List D}{vs:List V}{O:W5},Reps R Z H l vs O->frzs l=true->O=[]
 | [],_,_,h,_=>by rw[Reps] at h;exact h.2
 | d::l,_,_,h,f=>by
  rw[Reps] at h;rw[frzs,M3] at f;obtain⟨v,vs,O1,O2,e,rfl,r1,r2⟩:=h;rw[Rep.nil r1 f.1,Reps.nil r2 f.2];rfl
end
mutual
theorem Rep.freeze:∀{d:D}{v:V}{O:W5},Rep R Z H d v O->(∀ a,Z a->Z' a)->(∀ a∈O,Z' a)->Rep R Z' H (fz d) v []
 | .non,_,_,h,_,_=>by rw[Rep] at h;rw[fz,Rep];exact⟨h.1,rfl⟩
 | .bl _,_,_,h,_,_=>by rw[Rep] at h;rw[fz,Rep];exact⟨h.1,rfl⟩
 | .int _,_,_,h,_,_=>by rw[Rep] at h;rw[fz,Rep];exact⟨h.1,rfl⟩
 | .str _,_,_,h,_,_=>by rw[Rep] at h;rw[fz,Rep];exact⟨h.1,rfl⟩
 | .dead,_,_,h,_,_=>by rw[fz,Rep]
 | .exc _ _,_,_,h,hz,_=>by
  rw[Rep] at h;rw[fz,Rep];obtain⟨a,dx,e,z1,z2,h1,h2,_⟩:=h;exact⟨a,dx,e,hz a z1,hz dx z2,h1,h2,rfl⟩
 | .tup l,_,_,h,hz,hO=>by
  rw[Rep] at h;rw[fz,Rep];obtain⟨a,vs,e,t,r⟩:=h;exact⟨a,vs,e,t.frame hz λ_ _=>rfl,Reps.freeze r hz hO⟩
 | .lst o l,_,_,h,hz,hO=>by
  rw[Rep] at h;rw[fz,Rep];obtain⟨a,vs,O',e,r,h⟩:=h;cases o with
  | true =>
   obtain⟨h1,rfl⟩:=h;exact⟨a,vs,[],e,Reps.freeze r hz λb hb=>hO b<|L7 _ hb,.inl ⟨hO a L8,.inl h1⟩,rfl,rfl⟩
  | false =>
   obtain⟨h1,rfl,rfl⟩:=h;exact⟨a,vs,[],e,Reps.freeze r hz (λb hb=>nomatch hb),h1.frame hz<|λ_ _=>rfl,rfl,rfl⟩
 | .dK o ks l,_,_,h,hz,hO=>by
  rw[Rep] at h;rw[fz,Rep];obtain⟨a,vs,O',e,r,hl,hd,h⟩:=h;have hl':ks.length=(fzs l).length:=by rw[vU,L3];exact hl
  cases o with
  | true =>
   have h:=(show _=_ from h);subst h;exact⟨a,vs,[],e,Reps.freeze r hz λb hb=>hO b<|L7 _ hb,hl',.inl hd,hO a L8,rfl,rfl⟩
  | false =>
   obtain⟨h1,rfl,rfl⟩:=h;exact⟨a,vs,[],e,Reps.freeze r hz (λb hb=>nomatch hb),hl',hd,hz a h1,rfl,rfl⟩
 | .dT o ks l,_,_,h,hz,hO=>by
  rw[Rep] at h;rw[fz,Rep];obtain⟨a,vs,O',e,r,hl,hd,h⟩:=h;have hl':ks.length=(fzs l).length:=by rw[vU,L3];exact hl
  cases o with
  | true =>
   have h:=(show _=_ from h);subst h;exact⟨a,vs,[],e,Reps.freeze r hz λb hb=>hO b<|L7 _ hb,hl',hd,hO a L8,rfl,rfl⟩
  | false =>
   obtain⟨h1,rfl,rfl⟩:=h;exact⟨a,vs,[],e,Reps.freeze r hz (λb hb=>nomatch hb),hl',hd,hz a h1,rfl,rfl⟩
 | .ins o c ns l,_,_,h,hz,hO=>by
  rw[Rep] at h;rw[fz,Rep];obtain⟨a,dx,vs,O',e,r,hl,hd,h⟩:=h;have hl':ns.length=(fzs l).length:=by rw[vU,L3];exact hl
  cases o with
  | true =>
   have h:=(show _=_ from h);subst h;exact⟨a,dx,vs,[],e,Reps.freeze r hz λb hb=>hO b<|L7 _ hb,hl',hd,hO a L8,rfl,rfl⟩
  | false =>
   obtain⟨h1,rfl,rfl⟩:=h;exact⟨a,dx,vs,[],e,Reps.freeze r hz (λb hb=>nomatch hb),hl',hd,hz a h1,rfl,rfl⟩
theorem Reps.freeze:∀{l:List D}{vs:List V}{O:W5},Reps R Z H l vs O->(∀ a,Z a->Z' a)->(∀ a∈O,Z' a)->Reps R Z' H (fzs l) vs []
 | [],_,_,h,_,_=>by rw[Reps] at h;rw[fzs,Reps];exact⟨h.1,rfl⟩
 | d::l,_,_,h,hz,hO=>by
  rw[Reps] at h;rw[fzs,Reps];obtain⟨v,vs,O1,O2,e,rfl,r1,r2⟩:=h;exact⟨v,vs,[],[],e,rfl,Rep.freeze r1 hz λa ha=>hO a<|List.mem_append_left _ ha,Reps.freeze r2 hz λa ha=>hO a<|U4 _ ha⟩
end
theorem Reps.length:∀{l:List D}{vs:List V}{O:W5},Reps R Z H l vs O->vs.length=l.length
 | [],_,_,h=>by rw[Reps] at h;rw[h.1];rfl
 | d::l,_,_,h=>by
  rw[Reps] at h;obtain⟨v,vs,a,b,rfl,rfl,r1,r2⟩:=h;rw[M4,M4,Reps.length r2]
theorem Reps.append:∀{l m:List D}{vs ws:List V}{O P:W5},Reps R Z H l vs O->Reps R Z H m ws P->Reps R Z H (l++m) (vs++ws) (O++P)
 | [],m,_,_,_,_,h,k=>by rw[Reps] at h;obtain⟨rfl,rfl⟩:=h;exact k
 | d::l,m,_,_,_,_,h,k=>by
  rw[Reps] at h;obtain⟨v,vs,a,b,rfl,rfl,r1,r2⟩:=h;rw[List.cons_append,Reps];exact⟨v,_,a,_,rfl,List.append_assoc ..,r1,Reps.append r2 k⟩
def Reps.one(h:Rep R Z H d v O):Reps R Z H [d] [v] O:=by
 rw[Reps];exact⟨v,[],O,[],rfl,(N1 O).symm,h,by rw[Reps];exact⟨rfl,rfl⟩⟩
def Reps.cons(h:Rep R Z H d v O)(k:Reps R Z H l vs P):Reps R Z H (d::l) (v::vs) (O++P):=by
 rw[Reps];exact⟨v,vs,O,P,rfl,rfl,h,k⟩
def Reps.empty:Reps R Z H [] [] []:=by rw[Reps];exact⟨rfl,rfl⟩
theorem Reps.at:∀{l:List D}{vs:List V}{O:W5}{i:Nat}{d:D},Reps R Z H l vs O->l[i]?=some d ->
  ∃ v A P B,vs[i]?=some v/\O=A++P++B/\Rep R Z H d v P/\∀{Z':Zn}{H':Hp}{d':D}{v':V}{P':W5},Rep R Z' H' d' v' P'->(∀ a,Z a->Z' a)->(∀ a,Z a->H' a=H a)->(∀ a∈A,H' a=H a)->(∀ a∈B,H' a=H a)->Reps R Z' H' (l.set i d') (vs.set i v') (A++P'++B)
 | [],_,_,_,_,_,e=>by simp at e
 | c::l,_,_,0,d,h,e=>by
  rw[Reps] at h;obtain⟨v,vs,b,j,rfl,rfl,r1,r2⟩:=h;have e:c=d:=by simpa using e
  subst e;refine⟨v,[],b,j,rfl,rfl,r1,λr f g m n=>?_⟩;rw[List.set_cons_zero,List.set_cons_zero,Reps];exact⟨_,vs,_,j,rfl,rfl,r,Reps.frame f g r2 n⟩
 | c::l,_,_,i+1,d,h,e=>by
  rw[Reps] at h;obtain⟨v,vs,b,j,rfl,rfl,r1,r2⟩:=h;obtain⟨w,A,P,B,p,rfl,q,k⟩:=Reps.at (i:=i) (d:=d) r2 (by simpa using e);refine⟨w,b++A,P,B,by simpa using p,by simp,q,λ{Z' H' d' v' P'} r f g m n=>?_⟩;rw[List.set_cons_succ,List.set_cons_succ,Reps];exact⟨v,_,b,A++P'++B,rfl,by simp,Rep.frame f g r1 λa o=>m a<|List.mem_append_left _ o,k r f g (λa o=>m a<|U4 _ o) n⟩
def Reps.item{l:List D}{vs:List V}{i:Nat}(h:Reps R Z H l vs [])(e:l[i]?=some d):∃ v,vs[i]?=some v/\Rep R Z H d v []:=by
 obtain⟨v,A,P,B,a,e2,r,_⟩:=h.at e;have:P=[]:=by
  have:=congrArg List.length e2;simp at this;exact List.eq_nil_of_length_eq_zero (by lia)
 subst this;exact⟨v,a,r⟩
theorem Reps.take:∀{l:List D}{vs:List V}(n:Nat),Reps R Z H l vs []->Reps R Z H (l.take n) (vs.take n) []
 | _,_,0,_=>by simp;exact .empty
 | [],_,n+1,h=>by rw[Reps] at h;rw[h.1];exact .empty
 | d::l,_,n+1,h=>by
  rw[Reps] at h;obtain⟨v,vs,a,b,rfl,e,r1,r2⟩:=h;obtain⟨rfl,rfl⟩:=List.append_eq_nil_iff.mp e.symm;rw[List.take_succ_cons,List.take_succ_cons];exact .cons r1<|Reps.take n r2
theorem Reps.drop:∀{l:List D}{vs:List V}(n:Nat),Reps R Z H l vs []->Reps R Z H (l.drop n) (vs.drop n) []
 | _,_,0,h=>h
 | [],_,n+1,h=>by rw[Reps] at h;rw[h.1];exact .empty
 | d::l,_,n+1,h=>by
  rw[Reps] at h;obtain⟨v,vs,a,b,rfl,e,r1,r2⟩:=h;obtain⟨rfl,rfl⟩:=List.append_eq_nil_iff.mp e.symm;rw[List.drop_succ_cons,List.drop_succ_cons];exact Reps.drop n r2
structure WF(Z:Zn)(H:Hp)(O:W5):Prop where
 nd:O.Nodup
 nz:∀ a∈O,¬ Z a
 od:∀ a∈O,H a≠none
 zd:∀ a,Z a->H a≠none
structure Go(Z:Zn)(H:Hp)(O:W5)(Z':Zn)(H':Hp)(O':W5):Prop where
 wf:WF Z' H' O'
 zz:∀ a,Z a->Z' a
 fr:∀ a,H a≠none->a∉O->H' a=H a
 zn:∀ a,Z' a->Z a \/ a∈O \/ H a=none
 sub:∀ a∈O',a∈O \/ H a=none
 dm:∀ a,H a≠none->H' a≠none
def Go.refl(w:WF Z H O):Go Z H O Z H O:=⟨w,λ_ z=>z,λ_ _ _=>rfl,λ_ z=>.inl z,λ_ h=>.inl h,λ_ h=>h⟩
def Go.trans(g:Go Z H O Z' H' O')(k:Go Z' H' O' Z'' H'' O''):Go Z H O Z'' H'' O'':=by
 refine⟨k.wf,λa z=>k.zz a<|g.zz a z,λa h n=>?_,λa z=>?_,λa h=>?_,λa h=>k.dm a<|g.dm a h⟩
 ·rw[k.fr a (g.dm a h) λb=>(g.sub a b).elim n λe=>h e,g.fr a h n]
 ·rcases k.zn a z with z | z | z
  ·exact g.zn a z
  ·rcases g.sub a z with q | q
   ·exact .inr<|.inl q
   ·exact .inr<|.inr q
  ·by_cases h:H a=none
   ·exact .inr<|.inr h
   ·exact absurd z<|g.dm a h
 ·rcases k.sub a h with q | q
  ·exact g.sub a q
  ·by_cases h:H a=none
   ·exact .inr h
   ·exact absurd q<|g.dm a h
def Go.zH(w:WF Z H O)(g:Go Z H O Z' H' O'):∀ a,Z a->H' a=H a:=λa z=>g.fr a (w.zd a z) λh=>w.nz a h z
def WF.sub(w:WF Z H O)(h:∀ a∈O',a∈O)(n:O'.Nodup):WF Z H O':=⟨n,λa z=>w.nz a<|h a z,λa z=>w.od a<|h a z,w.zd⟩
def WF.mid(w:WF Z H<|A++O++B):WF Z H O:=w.sub (λa h=>by simp[h]) (by have:=w.nd;simp[X6] at this;exact this.2.1.1)
def WF.left(w:WF Z H<|A++B):WF Z H A:=w.sub (λa h=>by simp[h]) (X6.mp w.nd).1
def WF.right(w:WF Z H<|A++B):WF Z H B:=w.sub (λa h=>by simp[h]) (X6.mp w.nd).2.1
def Go.frame(w:WF Z H<|A++O++B)(g:Go Z H O Z' H' O'):Go Z H (A++O++B) Z' H' (A++O'++B):=by
 have nd:=w.nd;simp only[X6,N3] at nd;have new:∀ a∈O',a∉A/\a∉B:=λa h=>by
  rcases g.sub a h with q | q
  ·exact⟨λz=>nd.1.2.2 a z a q rfl,λz=>nd.2.2 a (.inr q) a z rfl⟩
  ·exact⟨λz=>w.od a (by simp[z]) q,λz=>w.od a (by simp[z]) q⟩
 have keep:∀ a,a∈A \/ a∈B->a∉O:=λa h z=>by
  rcases h with h | h
  ·exact nd.1.2.2 a h a z rfl
  ·exact nd.2.2 a (.inr z) a h rfl
 refine⟨⟨?_,λa h z=>?_,λa h=>?_,g.wf.zd⟩,g.zz,λa h n=>?_,λa z=>?_,λa h=>?_,g.dm⟩
 ·simp only[X6,N3];exact⟨⟨nd.1.1,g.wf.nd,λa h b k e=>(new b k).1 (e▸h)⟩,nd.2.1,λa h b k e=>by
   rcases h with h | h
   ·exact nd.2.2 a (.inl h) b k e
   ·exact(new a h).2 (e▸k)⟩
 ·simp only[N3] at h;rcases h with(h | h) | h
  ·rcases g.zn a z with q | q | q
   ·exact w.nz a (by simp[h]) q
   ·exact keep a (.inl h) q
   ·exact w.od a (by simp[h]) q
  ·exact g.wf.nz a h z
  ·rcases g.zn a z with q | q | q
   ·exact w.nz a (by simp[h]) q
   ·exact keep a (.inr h) q
   ·exact w.od a (by simp[h]) q
 ·simp only[N3] at h;rcases h with(h | h) | h
  ·exact g.dm a<|w.od a (by simp[h])
  ·exact g.wf.od a h
  ·exact g.dm a<|w.od a (by simp[h])
 ·simp only[N3,not_or] at n;exact g.fr a h n.1.2
 ·rcases g.zn a z with q | q | q
  ·exact .inl q
  ·exact .inr<|.inl (by simp[q])
  ·exact .inr<|.inr q
 ·simp only[N3] at h ⊢;rcases h with(h | h) | h
  ·exact .inl<|.inl<|.inl h
  ·rcases g.sub a h with q | q
   ·exact .inl<|.inl<|.inr q
   ·exact .inr q
  ·exact .inl<|.inr h
def Go.keepA(w:WF Z H<|A++O++B)(g:Go Z H O Z' H' O'):(∀ a∈A,H' a=H a)/\∀ a∈B,H' a=H a:=by
 have nd:=w.nd;simp only[X6,N3] at nd;exact⟨λa h=>g.fr a (w.od a<|by simp[h]) λz=>nd.1.2.2 a h a z rfl,λa h=>g.fr a (w.od a<|by simp[h]) λz=>nd.2.2 a (.inr z) a h rfl⟩
def Go.drop(g:Go Z H O Z' H' O')(h:∀ a∈O'',a∈O')(n:O''.Nodup):Go Z H O Z' H' O'':=⟨g.wf.sub h n,g.zz,g.fr,g.zn,λa q=>g.sub a<|h a q,g.dm⟩
def Go.dropL(g:Go Z H O Z' H'<|A++B):Go Z H O Z' H' B:=g.drop (λa h=>by simp[h]) (X6.mp g.wf.nd).2.1
def Go.dropR(g:Go Z H O Z' H'<|A++B):Go Z H O Z' H' A:=g.drop (λa h=>by simp[h]) (X6.mp g.wf.nd).1
def Go.freeze(w:WF Z H O):Go Z H O (λa=>Z a \/ a∈O) H [] :=
 ⟨⟨List.nodup_nil,λa h=>(nomatch h),λa h=>(nomatch h),λa h=>h.elim (w.zd a)<|w.od a⟩,λa z=>.inl z,λ_ _ _=>rfl,λa z=>z.elim .inl λq=>.inr<|.inl q,λa h=>(nomatch h),λ_ h=>h⟩
def Go.newF(w:WF Z H O)(b:H p=none):Go Z H O (λa=>Z a \/ a=p) (upd H p o) O:=by
 have ne:∀ a,H a≠none->a≠p:=λa h e=>h<|e▸b;refine⟨⟨w.nd,λa h z=>z.elim (w.nz a h)<|ne a<|w.od a h,λa h=>?_,λa z=>?_⟩,λa z=>.inl z,λa h _=>jg<|ne a h,λa z=>z.elim .inl λe=>.inr<|.inr<|e▸b,λa h=>.inl h,λa h=>?_⟩
 ·rw[jg<|ne a<|w.od a h];exact w.od a h
 ·by_cases e:a=p
  ·rw[e,jr];exact λh=>nomatch h
  ·rw[jg e];exact w.zd a<|z.resolve_right e
 ·rw[jg<|ne a h];exact h
def Go.newO(w:WF Z H O)(b:H p=none):Go Z H O Z (upd H p o) (p::O):=by
 have ne:∀ a,H a≠none->a≠p:=λa h e=>h<|e▸b;refine⟨⟨List.nodup_cons.mpr ⟨λh=>w.od p h b,w.nd⟩,λa h z=>?_,λa h=>?_,λa z=>?_⟩,λa z=>z,λa h _=>jg<|ne a h,λa z=>.inl z,λa h=>?_,λa h=>?_⟩
 ·rcases M6.mp h with e | e
  ·exact w.zd a z<|e▸b
  ·exact w.nz a e z
 ·rcases M6.mp h with e | e
  ·rw[e,jr];exact λh=>nomatch h
  ·rw[jg<|ne a<|w.od a e];exact w.od a e
 ·rw[jg<|ne a<|w.zd a z];exact w.zd a z
 ·rcases M6.mp h with e | e
  ·exact .inr<|e▸b
  ·exact .inl e
 ·rw[jg<|ne a h];exact h
def Go.put(w:WF Z H O)(c:p∈O):Go Z H O Z (upd H p o) O:=by
 have b:∀ a,upd H p o a=none->a≠p/\H a=none:=λa h=>by
  by_cases e:a=p
  ·rw[e,jr] at h;cases h
  ·rw[jg e] at h;exact⟨e,h⟩
 exact⟨⟨w.nd,w.nz,λa h z=>w.od a h (b a z).2,λa z e=>w.zd a z (b a e).2⟩,λa z=>z,λa h n=>jg λe=>n<|e▸c,λa z=>.inl z,λa h=>.inl h,λa h z=>h (b a z).2⟩
noncomputable def jgq:D->Option Bool
 | .bl b=>some b
 | _=>none
@[simp] def jc0(b:Bool):jgq (.bl b)=some b:=rfl
def xW(h:jgq d=some b):d=.bl b:=by cases d<;>cases h<;>rfl
noncomputable def ve:D->Option Int
 | .int i=>some i
 | _=>none
@[simp] def jaR(i:Int):ve (.int i)=some i:=rfl
def jD(h:ve d=some n):d=.int n:=by cases d<;>cases h<;>rfl
noncomputable def QZ:D->Option (List D)
 | .lst true l=>some l
 | _=>none
@[simp] def Y0(l:List D):QZ (.lst true l)=some l:=rfl
def Jr(h:QZ d=some l):d=.lst true l:=by
 cases d with
 | lst o _=>cases o<;>cases h;rfl
 | _=>cases h
noncomputable def jeo:D->Option (List D)
 | .tup l=>some l
 | _=>none
@[simp] def tupOf_tup(l:List D):jeo (.tup l)=some l:=rfl
noncomputable def jea:D->Option (List KA×List D)
 | .dK true ks l=>some (ks,l)
 | _=>none
@[simp] def dkOf_dK(ks:List KA)(l:List D):jea (.dK true ks l)=some (ks,l):=rfl
def xv(h:jea d=some p):d=.dK true p.1 p.2:=by
 cases d with
 | dK o _ _=>cases o<;>cases h;rfl
 | _=>cases h
noncomputable def jaI:D->Option (List KA×List D)
 | .dK _ ks l=>some (ks,l)
 | _=>none
@[simp] def dkAny_e(o:Bool)(ks:List KA)(l:List D):jaI (.dK o ks l)=some (ks,l):=rfl
def jd6(h:jaI d=some p):∃ o,d=.dK o p.1 p.2:=by
 cases d with
 | dK o _ _=>cases h;exact⟨o,rfl⟩
 | _=>cases h
noncomputable def jgB:D->Option (List (List KA)×List D)
 | .dT true ks l=>some (ks,l)
 | _=>none
@[simp] def dtOf_dT(ks:List<|List KA)(l:List D):jgB (.dT true ks l)=some (ks,l):=rfl
def xb(h:jgB d=some p):d=.dT true p.1 p.2:=by
 cases d with
 | dT o _ _=>cases o<;>cases h;rfl
 | _=>cases h
noncomputable def zw:D->Option (Nat×List Str×List D)
 | .ins true c ns l=>some (c,ns,l)
 | _=>none
@[simp] def insOf_ins(c:Nat)(ns:List Str)(l:List D):zw (.ins true c ns l)=some (c,ns,l):=rfl
def Jq(h:zw d=some (c,ns,l)):d=.ins true c ns l:=by
 cases d with
 | ins o _ _ _=>cases o<;>cases h;rfl
 | _=>cases h
noncomputable def jlJ:D->Option (Nat×List Str×List D)
 | .ins _ c ns l=>some (c,ns,l)
 | _=>none
@[simp] def inOf_ins(o:Bool)(c:Nat)(ns:List Str)(l:List D):jlJ (.ins o c ns l)=some (c,ns,l):=rfl
def jhL(h:jlJ d=some (c,ns,l)):∃ o,d=.ins o c ns l:=by
 cases d with
 | ins o _ _ _=>cases h;exact⟨o,rfl⟩
 | _=>cases h
noncomputable def jdd:D->Option (List D)
 | .lst _ l=>some l
 | _=>none
@[simp] def lsOf_lst(o:Bool)(l:List D):jdd (.lst o l)=some l:=rfl
def k8(h:jdd d=some l):∃ o,d=.lst o l:=by
 cases d with
 | lst o _=>cases h;exact⟨o,rfl⟩
 | _=>cases h
def wK(h:jeo d=some l):d=.tup l:=by cases d<;>cases h<;>rfl
noncomputable def je4:List D->Option D
 | [x]=>some x
 | _=>none
def qP(h:je4 l=some x):l=[x]:=by
 match l with
 | [_]=>cases h;rfl
noncomputable def two1:List D->Option (D×D)
 | [x,y]=>some (x,y)
 | _=>none
def two1_of(h:two1 l=some p):l=[p.1,p.2]:=by
 match l with
 | [_,_]=>cases h;rfl
def ob{α β:Type}{C:Prop}{o:Option α}{f:α->Option β}{b:β}(e:o.bind f=some b)(k:∀ a,o=some a->f a=some b->C):C:=by
 cases o with
 | none=>cases e
 | some a=>exact k a rfl e
def oc{β:Type}{C:Prop}{c:Bool}{x:Option β}{b:β}(e:(bif c then x else none)=some b)(k:c=true->x=some b->C):C:=by
 cases c with
 | false=>cases e
 | true=>exact k rfl e
noncomputable abbrev Rh:=List<|Option D
def Slots(R:RC)(Z:Zn)(H:Hp):Rh->St->List Addr->Prop
 | [],σ,O=>σ=[]/\O=[]
 | none::ρ,σ,O=>∃ s σ',σ=s::σ'/\Slots R Z H ρ σ' O
 | some d::ρ,σ,O=>∃ v σ' O1 O2,σ=some v::σ'/\O=O1++O2/\Rep R Z H d v O1/\Slots R Z H ρ σ' O2
theorem Slots.frame(hz:∀ a,Z a->Z' a)(c:∀ a,Z a->H' a=H a):∀{ρ:Rh}{σ:St}{O:W5},Slots R Z H ρ σ O->(∀ a∈O,H' a=H a)->Slots R Z' H' ρ σ O
 | [],_,_,h,_=>h
 | none::ρ,_,_,h,b=>by
  obtain⟨s,f,e,r⟩:=h;exact⟨s,f,e,Slots.frame hz c r b⟩
 | some d::ρ,_,_,h,b=>by
  obtain⟨v,f,i,j,e,rfl,r1,r2⟩:=h;exact⟨v,f,i,j,e,rfl,r1.frame hz c λa g=>b a<|List.mem_append_left _ g,Slots.frame hz c r2 λa g=>b a<|U4 _ g⟩
inductive SPut (R:RC) (Z:Zn) (H:Hp) (ρ:Rh) (σ:St) (O:W5) (i:Nat):Prop
 | mk:∀(A P B:W5),O=A++P++B->(∀ d,ρ[i]?=some (some d)->∃ v,σ[i]?=some (some v)/\Rep R Z H d v P) ->
  (∀{Z':Zn}{H':Hp}{d':D}{v':V}{P':W5},Rep R Z' H' d' v' P'->(∀ a,Z a->Z' a)->(∀ a,Z a->H' a=H a)->(∀ a∈A,H' a=H a)->(∀ a∈B,H' a=H a)->Slots R Z' H' (ρ.set i<|some d') (σ.set i<|some v') (A++P'++B)) ->
  Slots R Z H (ρ.set i none) σ (A++B)->SPut R Z H ρ σ O i
theorem Slots.put:∀{ρ:Rh}{σ:St}{O:W5}{i:Nat},Slots R Z H ρ σ O->i < ρ.length->SPut R Z H ρ σ O i
 | [],_,_,_,_,hi=>absurd hi<|Nat.not_lt_zero _
 | none::ρ,_,_,0,h,hi=>by
  obtain⟨s,b,rfl,r⟩:=h;refine⟨[],[],_,rfl,λd e=>by simp at e,λq f g k j=>?_,?_⟩
  ·exact⟨_,b,_,_,rfl,rfl,q,Slots.frame f g r j⟩
  ·exact⟨s,b,rfl,r⟩
 | some c::ρ,_,_,0,h,hi=>by
  obtain⟨v,b,l,t,rfl,rfl,r1,r2⟩:=h;refine⟨[],l,t,rfl,λd e=>?_,λq f g k j=>?_,?_⟩
  ·have e:c=d:=by simpa using e
   subst e;exact⟨v,rfl,r1⟩
  ·exact⟨_,b,_,_,rfl,rfl,q,Slots.frame f g r2 j⟩
  ·exact⟨_,b,rfl,r2⟩
 | none::ρ,_,_,i+1,h,hi=>by
  obtain⟨s,b,rfl,r⟩:=h;obtain⟨A,P,B,rfl,m,n,o⟩:=Slots.put (i:=i) r (by simpa using hi);refine⟨A,P,B,rfl,λd e=>m d<|by simpa using e,λq f g k j=>?_,?_⟩
  ·exact⟨s,_,rfl,n q f g k j⟩
  ·exact⟨s,b,rfl,o⟩
 | some c::ρ,_,_,i+1,h,hi=>by
  obtain⟨v,b,l,t,rfl,rfl,r1,r2⟩:=h;obtain⟨A,P,B,rfl,m,n,o⟩:=Slots.put (i:=i) r2 (by simpa using hi);refine⟨l++A,P,B,by simp,λd e=>m d<|by simpa using e,λ{w x y z u} q f g k j=>?_,?_⟩
  ·exact⟨v,_,l,A++u++B,rfl,by simp,r1.frame f g λa p=>k a<|List.mem_append_left _ p,n q f g (λa p=>k a<|U4 _ p) j⟩
  ·exact⟨v,b,l,A++B,rfl,by simp,r1,o⟩
theorem Jn:∀{l:List α}{i:Nat}{x:α},l[i]?=some x->l.set i x=l
 | [],_,_,h=>by simp at h
 | y::l,0,x,h=>by simp at h;subst h;rfl
 | y::l,i+1,x,h=>by rw[List.set_cons_succ,Jn<|by simpa using h]
abbrev FE:=Rh->Option (D×Rh)
abbrev FT':=Rh->Option (Bool×Rh)
abbrev FA:=Rh->Option (List D×Rh)
def DE(R:RC)(te:TE)(f:FE):Prop:=∀{σ:St}{ρ ρ':Rh}{Z:Zn}{H:Hp}{O:W5}{d:D},WF Z H O->Slots R Z H ρ σ O->f ρ=some (d,ρ') ->
 ∀{Q:VK},(∀{v:V}{Z':Zn}{H':Hp}{P O':W5},Go Z H O Z' H' (P++O')->Rep R Z' H' d v P->Slots R Z' H' ρ' σ O'->Q v H')->te σ H Q
def DT(R:RC)(tt:TT)(f:FT'):Prop:=∀{σ:St}{ρ ρ':Rh}{Z:Zn}{H:Hp}{O:W5}{b:Bool},WF Z H O->Slots R Z H ρ σ O->f ρ=some (b,ρ') ->
 ∀{Q:Bool->Hp->Prop},(∀{Z':Zn}{H':Hp}{O':W5},Go Z H O Z' H' O'->Slots R Z' H' ρ' σ O'->Q b H')->tt σ H Q
def DA(R:RC)(ta:TA)(f:FA):Prop:=∀{σ:St}{ρ ρ':Rh}{Z:Zn}{H:Hp}{O:W5}{ds:List D},WF Z H O->Slots R Z H ρ σ O->f ρ=some (ds,ρ') ->
 ∀{Q:List V->Hp->Prop},(∀{vs:List V}{Z':Zn}{H':Hp}{P O':W5},Go Z H O Z' H' (P++O')->Reps R Z' H' ds vs P->Slots R Z' H' ρ' σ O'->Q vs H')->ta σ H Q
def DC(R:RC)(r:List V->Hp->VK->Prop)(g:List D->Option D):Prop:=∀{Z:Zn}{H:Hp}{xs:List D}{d:D}{vs:List V}{O:W5},WF Z H O->Reps R Z H xs vs O->g xs=some d ->
 ∀{Q:VK},(∀{w:V}{Z':Zn}{H':Hp}{P:W5},Go Z H O Z' H' P->Rep R Z' H' d w P->Q w H')->r vs H Q
inductive Out where
 | nx (ρ:Rh) | rt (d:D) (ρ:Rh) | bk (ρ:Rh) | ct (ρ:Rh)
abbrev FS:=Rh->Option Out
noncomputable def Out.thn:Out->FS->Option Out
 | .nx ρ,g=>g ρ
 | .rt d ρ,_=>some<|.rt d ρ
 | .bk ρ,_=>some<|.bk ρ
 | .ct ρ,_=>some<|.ct ρ
@[simp] def thn_nx(ρ:Rh)(g:FS):(Out.nx ρ).thn g=g ρ:=rfl
@[simp] def thn_rt(d:D)(ρ:Rh)(g:FS):(Out.rt d ρ).thn g=some (.rt d ρ):=rfl
@[simp] def thn_bk(ρ:Rh)(g:FS):(Out.bk ρ).thn g=some (.bk ρ):=rfl
@[simp] def thn_ct(ρ:Rh)(g:FS):(Out.ct ρ).thn g=some (.ct ρ):=rfl
noncomputable def Out.val:Out->Option D
 | .rt d _=>some d
 | .nx _=>some .non
 | _=>none
@[simp] def val_rt(d:D)(ρ:Rh):(Out.rt d ρ).val=some d:=rfl
@[simp] def val_nx(ρ:Rh):(Out.nx ρ).val=some .non:=rfl
noncomputable def Out.loop:Out->FS->Option Out
 | .nx ρ,g=>g ρ
 | .ct ρ,g=>g ρ
 | .bk ρ,_=>some<|.nx ρ
 | .rt d ρ,_=>some<|.rt d ρ
@[simp] def YQ(ρ:Rh)(g:FS):(Out.nx ρ).loop g=g ρ:=rfl
@[simp] def loop_ct(ρ:Rh)(g:FS):(Out.ct ρ).loop g=g ρ:=rfl
@[simp] def loop_bk(ρ:Rh)(g:FS):(Out.bk ρ).loop g=some (.nx ρ):=rfl
@[simp] def loop_rt(d:D)(ρ:Rh)(g:FS):(Out.rt d ρ).loop g=some (.rt d ρ):=rfl
abbrev PF:=Rh->Option D
noncomputable def pV(i:Nat):PF:=λρ=>match ρ[i]? with
 | some (some d)=>some d
 | _=>none
def Vf(h:pV i ρ=some d):ρ[i]?=some (some d):=by
 unfold pV at h;split at h
 ·rename_i x a;rw[a];rw[E2 h]
 ·cases h
def Keep(pm:List Nat)(σ σ':St):Prop:=∀ i∈pm,σ'[i]?=σ[i]?
def OutOk(R:RC)(pm:List Nat)(Z:Zn)(H:Hp)(O:W5)(σ:St)(D':Ends):Out->Prop
 | .nx ρ'=>∀{σ':St}{Z':Zn}{H':Hp}{O':W5},Go Z H O Z' H' O'->Slots R Z' H' ρ' σ' O'->Keep pm σ σ'->D'.nx σ' H'
 | .bk ρ'=>∀{σ':St}{Z':Zn}{H':Hp}{O':W5},Go Z H O Z' H' O'->Slots R Z' H' ρ' σ' O'->Keep pm σ σ'->D'.bk σ' H'
 | .ct ρ'=>∀{σ':St}{Z':Zn}{H':Hp}{O':W5},Go Z H O Z' H' O'->Slots R Z' H' ρ' σ' O'->Keep pm σ σ'->D'.ct σ' H'
 | .rt d ρ'=>∀{v:V}{σ':St}{Z':Zn}{H':Hp}{P O':W5},Go Z H O Z' H' (P++O')->Rep R Z' H' d v P->Slots R Z' H' ρ' σ' O'->Keep pm σ σ'->D'.rt v H'
def DS(R:RC)(pm:List Nat)(ts:TS)(f:FS):Prop:=∀{σ:St}{ρ:Rh}{Z:Zn}{H:Hp}{O:W5}{o:Out},WF Z H O->Slots R Z H ρ σ O->f ρ=some o->∀{D':Ends},OutOk R pm Z H O σ D' o->ts D' σ H
def DG(R:RC)(pm:List Nat)(tg:TG)(f:D->Rh->Option Rh):Prop:=∀{σ:St}{ρ ρ':Rh}{Z:Zn}{H:Hp}{O P:W5}{d:D}{v:V},WF Z H (P++O)->Rep R Z H d v P->Slots R Z H ρ σ O->f d ρ=some ρ' ->
 ∀{Q:St->Hp->Prop},(∀{σ':St}{Z':Zn}{H':Hp}{O':W5},Go Z H (P++O) Z' H' O'->Slots R Z' H' ρ' σ' O'->Keep pm σ σ'->Q σ' H')->tg v σ H Q
def Keep.refl(pm:List Nat)(σ:St):Keep pm σ σ:=λ_ _=>rfl
def Keep.trans(h:Keep pm σ σ')(k:Keep pm σ' σ''):Keep pm σ σ'':=λi hi=>(k i hi).trans (h i hi)
def Keep.set(h:i∉pm):Keep pm σ (σ.set i x):=λj a=>by
 have ne:i≠j:=λe=>h (by rw[e];exact a);rw[List.getElem?_set,if_neg ne]
@[simp] def dMv(i:Nat)(ρ:Rh):Option (D×Rh):=(pV i ρ).bind λd=>some (d,ρ.set i none)
def jl7:DE R (jV i) (dMv i):=by
 intro σ ρ o Z H O d w h e Q k;refine ob e λc f e=>?_;have f:=Vf f;obtain⟨A,P,B,rfl,l,p,m⟩:=h.put (M0.mp f).1;obtain⟨v,n,r⟩:=l c f;cases e;refine⟨v,n,k (P:=P) ((Go.refl w).drop (λa q=>?_) ?_) r m⟩
 ·simp at q ⊢;rcases q with q | q | q<;>simp[q]
 ·have nd:=w.nd;simp only[X6,N3] at nd ⊢;exact⟨nd.1.2.1,⟨nd.1.1,nd.2.1,λa g b j=>nd.2.2 a (.inl g) b j⟩,λa g b j e=>j.elim (λq=>nd.1.2.2 b q a g e.symm) λq=>nd.2.2 a (.inr g) b q e⟩
def jgr(b:Go Z H O Z' H'<|P1++O1)(g2:Go Z' H' O1 Z'' H''<|P2++O2):Go Z H O Z'' H'' (P1++(P2++O2))/\(∀ a,Z' a->Z'' a)/\(∀ a,Z' a->H'' a=H' a)/\∀ a∈P1,H'' a=H' a:=by
 have w:WF Z' H' (P1++O1++[]):=by simpa using b.wf
 have f:=g2.frame w;refine⟨b.trans<|by simpa using f,g2.zz,λa z=>g2.zH b.wf.right a z,(Go.keepA w g2).1⟩
@[simp] def dOp(g:D->D->Option D)(fa:FE)(fb:FE)(ρ:Rh):Option (D×Rh):=(fa ρ).bind λr=>(fb r.2).bind λt=>(g r.1 t.1).bind λz=>some (z,t.2)
@[simp] def jey(ρ:Rh):Option (List D×Rh):=some ([],ρ)
@[simp] def yY(fa:FE)(fr:FA)(ρ:Rh):Option (List D×Rh):=(fa ρ).bind λx=>(fr x.2).bind λy=>some (x.1::y.1,y.2)
def jkU:DA R JY jey:=by
 intro σ ρ a Z H O d w h e Q k;cases e;exact k (P:=[]) (Go.refl w) Reps.empty h
def jh8(b:DE R ta fa)(c:DA R tr fr):DA R (jB ta tr) (yY fa fr):=by
 intro σ ρ m Z H O d w h e Q k;refine ob e λp f e=>?_;obtain⟨x,n⟩:=p;dsimp only at e;refine ob e λp e2 e=>?_;obtain⟨o,q⟩:=p;cases e;refine b w h f λ{v r s g t} a r1 s1=>?_;refine c a.wf.right s1 e2 λ{u y z i A} g2 r2 s2=>?_;obtain⟨g3,zz,j,l⟩:=jgr a g2;exact k (P:=g++i) (by simpa using g3) (.cons (r1.frame zz j l) r2) s2
noncomputable def dCB(g:List D->Option D)(fa:FA):FE:=λρ=>(fa ρ).bind λp5=>(g p5.1).bind λz=>some (z,p5.2)
def jkE(f:DC R r g)(i:DA R ta fa):DE R (tCB r ta) (dCB g fa):=by
 intro σ ρ u Z H O d w h e Q k;refine ob e λp j e=>?_;obtain⟨x,y⟩:=p;dsimp only at e;refine ob e λz e3 e=>?_;cases e;refine i w h j λ{v l m n o} b r1 s1=>?_;refine f b.wf.left r1 e3 λ{A Z3 B q} g4 s=>?_;have c:WF l m ([]++n++o):=by simpa using b.wf
 have t:=g4.frame c;refine k (P:=q) (b.trans<|by simpa using t) s<|s1.frame g4.zz (λa z=>g4.zH b.wf.left a z) (Go.keepA c g4).2
def jc7(fa:FA):FE:=dCB (λxs=>bif decide (xs.length<=1000) then some (.tup xs) else none) fa
def jkO(h:n<=1000):n<=sizeLine:=Nat.le_of_lt<|jce h
def Rep.tupNew(w:WF Z H O)(b:H p=none)(r:Reps R Z H l vs O):Rep R (λa=>Z a \/ a=p) (upd H p<|.tup vs) (.tup l) (.ref p) O:=by
 have ne:∀ a,H a≠none->a≠p:=λa h e=>h<|e▸b;rw[Rep];exact⟨p,vs,rfl,.inl ⟨.inr rfl,.inl jr⟩,r.frame (λa z=>.inl z) (λa z=>jg<|ne a<|w.zd a z) λa h=>jg<|ne a<|w.od a h⟩
def Rep.lstNew(w:WF Z H O)(b:H p=none)(r:Reps R Z H l vs O):Rep R Z (upd H p<|.lst vs) (.lst true l) (.ref p) (p::O):=by
 have ne:∀ a,H a≠none->a≠p:=λa h e=>h<|e▸b;rw[Rep];exact⟨p,vs,O,rfl,r.frame (λa z=>z) (λa z=>jg<|ne a<|w.zd a z) λa h=>jg<|ne a<|w.od a h,jr,rfl⟩
def jjL(g:DA R ta fa):DE R (VN ta) (jc7 fa):=by
 refine jkE (r:=λa c Q=>a.length<=sizeLine/\∀ p,c p=none->Q (.ref p) (upd c p<|.tup a)) ?_ g;intro Z H a d h O w r e Q k;dsimp only at e;by_cases b:a.length<=1000
 ·rw[X8 b,cond_true] at e;cases e;exact⟨by rw[r.length];exact jkO b,λp f=>k (Go.newF w f)<|Rep.tupNew w f r⟩
 ·rw[X9 b,cond_false] at e;cases e
def Rep.bl_of(r:Rep R Z H (.bl b) v O):v=.bl b/\O=[]:=by rw[Rep] at r;exact r
def Rep.bl_mk:Rep R Z H (.bl b) (.bl b) []:=by rw[Rep];exact⟨rfl,rfl⟩
def OutOk.pre(g:Go Z H O Z1 H1 O1)(kp:Keep pm σ σ1)(k:OutOk R pm Z H O σ D' o):OutOk R pm Z1 H1 O1 σ1 D' o:=by
 cases o with
 | nx ρ=>exact λg2 s2 a=>k (g.trans g2) s2<|kp.trans a
 | bk ρ=>exact λg2 s2 a=>k (g.trans g2) s2<|kp.trans a
 | ct ρ=>exact λg2 s2 a=>k (g.trans g2) s2<|kp.trans a
 | rt d ρ=>exact λg2 r2 s2 a=>k (g.trans g2) r2 s2<|kp.trans a
@[simp] def jO(ρ:Rh):Option Out:=some<|.nx ρ
noncomputable def ji(f g:FS):FS:=λρ=>match f ρ with
 | some (.nx ρ1)=>g ρ1
 | o=>o
@[simp] def je6:ji f g ρ=(f ρ).bind λo=>o.thn g:=by
 unfold ji;cases h:f ρ with
 | none=>rfl
 | some o=>cases o<;>rfl
def jgH:DS R pm jhp jO:=by
 intro σ ρ Z H O o w h e a k;cases e;exact k (Go.refl w) h<|Keep.refl _ _
def jjp(i:DS R pm t f)(j:DS R pm u g):DS R pm (jlz t u) (ji f g):=by
 intro σ ρ Z H O o w h e a k;rw[je6] at e;refine ob e λl m e=>i w h m (D':={ a with nx:=u a }) ?_;cases l with
 | nx b=>exact λ{p q r s} c s1 n=>j c.wf s1 e<|k.pre c n
 | bk b=>cases e;exact k
 | ct b=>cases e;exact k
 | rt d b=>cases e;exact k
@[simp] def sBreak(ρ:Rh):Option Out:=some<|.bk ρ
@[simp] def sCont(ρ:Rh):Option Out:=some<|.ct ρ
@[simp] def Vm(fe:FE)(ρ:Rh):Option Out:=(fe ρ).bind λx=>some<|.nx x.2
def jf1(a:DE R ta fa):DS R pm (JK ta) (Vm fa):=by
 intro σ ρ Z H O o w h e d k;refine ob e λp b e=>?_;obtain⟨x,f⟩:=p;cases e;exact a w h b λc r1 s1=>k c.dropL s1<|Keep.refl _ _
@[simp] def yB(fe:FE)(ρ:Rh):Option Out:=(fe ρ).bind λx=>some<|.rt x.1 x.2
def jjF(a:DE R ta fa):DS R pm (jmj ta) (yB fa):=by
 intro σ ρ Z H O o w h e d k;refine ob e λp b e=>?_;obtain⟨x,f⟩:=p;cases e;exact a w h b λc r1 s1=>k c r1 s1<|Keep.refl _ _
@[simp] def sRetN(ρ:Rh):Option Out:=some<|.rt .non ρ
@[simp] def sIf(ft:FT')(f:FS)(g:FS)(ρ:Rh):Option Out:=(ft ρ).bind λx=>bif x.1 then f x.2 else g x.2
def jm1(b:DT R tt ft)(d:DS R pm t f)(i:DS R pm u g):DS R pm (jlu tt t u) (sIf ft f g):=by
 intro σ ρ Z H O o w h e l k;refine ob e λp j e=>?_;obtain⟨c,m⟩:=p;dsimp only at e;refine b w h j λ{n q r} a s1=>?_;cases c with
 | true=>exact jec<|d a.wf s1 e<|k.pre a<|Keep.refl _ _
 | false=>exact jd3<|i a.wf s1 e<|k.pre a<|Keep.refl _ _
@[simp] def sNever(ρ:Rh):Option Out:=none
@[simp] def jc(pm:List Nat)(i:Nat)(d:D)(ρ:Rh):Option Rh:=bif decide (i < ρ.length)&&!decide (i∈pm) then some (ρ.set i<|some d) else none
def xN:DG R pm (v5 i) (jc pm i):=by
 intro σ ρ l Z H O P d v w r h e Q k;unfold jc at e;by_cases hi:i < ρ.length
 ·by_cases f:i∈pm
  ·rw[X8 f] at e;simp at e
  ·rw[X8 hi,X9 f] at e;cases e;obtain⟨A,m,B,rfl,n,j,o⟩:=h.put hi;refine k (O':=A++P++B) ((Go.refl w).drop (λa q=>?_) ?_) (j r (λ_ z=>z) (λ_ _=>rfl) (λ_ _=>rfl)<|λ_ _=>rfl)<|Keep.set f
   ·simp at q ⊢;rcases q with q | q | q<;>simp[q]
   ·have nd:=w.nd;simp only[X6,N3] at nd ⊢;exact⟨⟨nd.2.1.1.1,nd.1,λa g b c e=>nd.2.2 b c a (.inl<|.inl g) e.symm⟩,nd.2.1.2.1,λa g b c e=>g.elim (λq=>nd.2.1.2.2 a (.inl q) b c e) λq=>nd.2.2 a q b (.inr c) e⟩
 ·rw[X9 hi] at e;simp at e
@[simp] def jz(fe:FE)(G:D->Rh->Option Rh)(ρ:Rh):Option Out:=(fe ρ).bind λx=>(G x.1 x.2).bind λr=>some<|.nx r
def ww(b:DE R ta fa)(c:DG R pm tg g):DS R pm (jfl ta tg) (jz fa g):=by
 intro σ ρ Z H O o w h e i k;refine ob e λp d e=>?_;obtain⟨x,j⟩:=p;dsimp only at e;refine ob e λl e2 e=>?_;cases e;exact b w h d λa r1 s1=>c a.wf r1 s1 e2 λg2 s2 f=>k (Go.trans a g2) s2 f
def DGs(R:RC)(pm:List Nat)(tg:TGs)(f:List D->Rh->Option Rh):Prop:=∀{σ:St}{ρ ρ':Rh}{Z:Zn}{H:Hp}{O P:W5}{ds:List D}{vs:List V},WF Z H (P++O)->Reps R Z H ds vs P->Slots R Z H ρ σ O->f ds ρ=some ρ' ->
 ∀{Q:St->Hp->Prop},(∀{σ':St}{Z':Zn}{H':Hp}{O':W5},Go Z H (P++O) Z' H' O'->Slots R Z' H' ρ' σ' O'->Keep pm σ σ'->Q σ' H')->tg vs σ H Q
noncomputable def gN:List D->Rh->Option Rh:=λds ρ=>match ds with
 | []=>some ρ
 | _=>none
noncomputable def gC(g:D->Rh->Option Rh)(gs:List D->Rh->Option Rh):List D->Rh->Option Rh:=λds ρ=>match ds with
 | []=>none
 | d::r=>(g d ρ).bind λρ1=>gs r ρ1
noncomputable def gT(n:Nat)(gs:List D->Rh->Option Rh):D->Rh->Option Rh:=λd ρ=>match d with
 | .tup l=>bif decide (l.length=n) then gs l ρ else none
 | _=>none
abbrev PTf:=Rh->Option Bool
abbrev PAf:=Rh->Option (List D)
mutual
theorem Rep.dom:∀{d:D}{v:V}{O:W5},Rep R Z H d v O->∀ a∈O,H a≠none
 | .non,_,_,h,a,ha=>by rw[Rep] at h;rw[h.2] at ha;cases ha
 | .bl _,_,_,h,a,ha=>by rw[Rep] at h;rw[h.2] at ha;cases ha
 | .int _,_,_,h,a,ha=>by rw[Rep] at h;rw[h.2] at ha;cases ha
 | .str _,_,_,h,a,ha=>by rw[Rep] at h;rw[h.2] at ha;cases ha
 | .dead,_,_,h,a,ha=>by rw[Rep] at h;rw[h] at ha;cases ha
 | .exc _ _,_,_,h,a,ha=>by rw[Rep] at h;obtain⟨_,_,_,_,_,_,_,h⟩:=h;rw[h] at ha;cases ha
 | .tup l,_,_,h,a,ha=>by
  rw[Rep] at h;obtain⟨b,vs,e,t,r⟩:=h;exact Reps.dom r a ha
 | .lst o l,_,_,h,a,ha=>by
  rw[Rep] at h;obtain⟨b,vs,O',e,r,h⟩:=h;cases o with
  | true =>
   obtain⟨h1,rfl⟩:=h;rcases M6.mp ha with e | e
   ·rw[e,h1];exact λz=>(nomatch z)
   ·exact Reps.dom r a e
  | false=>rw[h.2.2] at ha;cases ha
 | .dK o ks l,_,_,h,a,ha=>by
  rw[Rep] at h;obtain⟨b,vs,O',e,r,hl,hd,h⟩:=h;cases o with
  | true =>
   have h:=(show _=_ from h);subst h;rcases M6.mp ha with e | e
   ·rw[e,hd];exact λz=>(nomatch z)
   ·exact Reps.dom r a e
  | false=>rw[h.2.2] at ha;cases ha
 | .dT o ks l,_,_,h,a,ha=>by
  rw[Rep] at h;obtain⟨b,vs,O',e,r,hl,hd,h⟩:=h;cases o with
  | true =>
   have h:=(show _=_ from h);subst h;rcases M6.mp ha with e | e
   ·rw[e,hd];exact λz=>(nomatch z)
   ·exact Reps.dom r a e
  | false=>rw[h.2.2] at ha;cases ha
 | .ins o c ns l,_,_,h,a,ha=>by
  rw[Rep] at h;obtain⟨b,dx,vs,O',e,r,hl,hd,h⟩:=h;cases o with
  | true =>
   have h:=(show _=_ from h);subst h;rcases M6.mp ha with e | e
   ·rw[e,hd];exact λz=>(nomatch z)
   ·exact Reps.dom r a e
  | false=>rw[h.2.2] at ha;cases ha
theorem Reps.dom:∀{l:List D}{vs:List V}{O:W5},Reps R Z H l vs O->∀ a∈O,H a≠none
 | [],_,_,h,a,ha=>by rw[Reps] at h;rw[h.2] at ha;cases ha
 | d::l,_,_,h,a,ha=>by
  rw[Reps] at h;obtain⟨v,vs,O1,O2,e,rfl,r1,r2⟩:=h;rcases N3.mp ha with q | q
  ·exact Rep.dom r1 a q
  ·exact Reps.dom r2 a q
end
theorem Slots.dom:∀{ρ:Rh}{σ:St}{O:W5},Slots R Z H ρ σ O->∀ a∈O,H a≠none
 | [],_,_,h,a,b=>by rw[h.2] at b;cases b
 | none::ρ,_,_,h,a,b=>by obtain⟨s,c,rfl,r⟩:=h;exact Slots.dom r a b
 | some d::ρ,_,_,h,a,b=>by
  obtain⟨v,c,e,f,rfl,rfl,r1,r2⟩:=h;rcases N3.mp b with q | q
  ·exact r1.dom a q
  ·exact Slots.dom r2 a q
abbrev Zd(Z:Zn)(H:Hp):Prop:=∀ a,Z a->H a≠none
def wf0(z:Zd Z H):WF Z H []:=⟨List.nodup_nil,λa h=>(nomatch h),λa h=>(nomatch h),z⟩
def Go.id(z:Zd Z H):Go Z H [] Z H []:=Go.refl<|wf0 z
def Go.same(g:Go Z H [] Z' H' P):∀ a,H a≠none->H' a=H a:=λa h=>g.fr a h<|λz=>(nomatch z)
def Go.rep(z:Zd Z H)(g:Go Z H [] Z' H' P)(r:Rep R Z H d v O):Rep R Z' H' d v O:=r.frame g.zz (λa h=>g.same a<|z a h) λa h=>g.same a<|r.dom a h
def Go.reps(z:Zd Z H)(g:Go Z H [] Z' H' P)(r:Reps R Z H l vs O):Reps R Z' H' l vs O:=r.frame g.zz (λa h=>g.same a<|z a h) λa h=>g.same a<|r.dom a h
def Go.slots(z:Zd Z H)(g:Go Z H [] Z' H' P)(r:Slots R Z H ρ σ O):Slots R Z' H' ρ σ O:=r.frame g.zz (λa h=>g.same a<|z a h) λa h=>g.same a<|r.dom a h
def Go.pair(g:Go Z H [] Z' H' P)(k:Go Z' H' [] Z'' H'' P2):Go Z H [] Z'' H'' (P++P2):=by
 have w:WF Z' H' (P++[]++[]):=by simpa using g.wf
 have f:=k.frame w;exact g.trans (by simpa using f)
def Go.to0(g:Go Z H O Z' H' P):Go Z H O Z' H' []:=g.drop (λa h=>(nomatch h)) List.nodup_nil
def Go.widen(w:WF Z H O)(g:Go Z H [] Z' H' P):Go Z H O Z' H' (P++O):=by
 have f:=g.frame (A:=[]) (B:=O) (by simpa using w);simpa using f
def PP(R:RC)(te:TE)(p:PF):Prop:=∀{σ:St}{ρ:Rh}{Z:Zn}{H:Hp}{O:W5}{d:D},Zd Z H->Slots R Z H ρ σ O->p ρ=some d ->
 ∀{Q:VK},(∀{v:V}{Z':Zn}{H':Hp}{P:W5},Go Z H [] Z' H' P->Rep R Z' H' d v P->Q v H')->te σ H Q
def PB(R:RC)(te:TE)(p:PF):Prop:=∀{σ:St}{ρ:Rh}{Z:Zn}{H:Hp}{O:W5}{d:D},Zd Z H->Slots R Z H ρ σ O->p ρ=some d ->
 ∀{Q:VK},(∀{v:V}{Z':Zn}{H':Hp}{P:W5},Go Z H [] Z' H' []->Rep R Z' H' d v P->Q v H')->te σ H Q
def PPs(R:RC)(ta:TA)(p:PAf):Prop:=∀{σ:St}{ρ:Rh}{Z:Zn}{H:Hp}{O:W5}{ds:List D},Zd Z H->Slots R Z H ρ σ O->p ρ=some ds ->
 ∀{Q:List V->Hp->Prop},(∀{vs:List V}{Z':Zn}{H':Hp}{P:W5},Go Z H [] Z' H' P->Reps R Z' H' ds vs P->Q vs H')->ta σ H Q
def PBs(R:RC)(ta:TA)(p:PAf):Prop:=∀{σ:St}{ρ:Rh}{Z:Zn}{H:Hp}{O:W5}{ds:List D},Zd Z H->Slots R Z H ρ σ O->p ρ=some ds ->
 ∀{Q:List V->Hp->Prop},(∀{vs:List V}{Z':Zn}{H':Hp}{P:W5},Go Z H [] Z' H' []->Reps R Z' H' ds vs P->Q vs H')->ta σ H Q
def PTt(R:RC)(tt:TT)(p:PTf):Prop:=∀{σ:St}{ρ:Rh}{Z:Zn}{H:Hp}{O:W5}{b:Bool},Zd Z H->Slots R Z H ρ σ O->p ρ=some b ->
 ∀{Q:Bool->Hp->Prop},(∀{Z':Zn}{H':Hp},Go Z H [] Z' H' []->Q b H')->tt σ H Q
def PP.b(h:PP R te p):PB R te p:=λz s e _ k=>h z s e λg r=>k g.to0 r
def PPs.b(h:PPs R te p):PBs R te p:=λz s e _ k=>h z s e λg r=>k g.to0 r
@[simp] def pF(pa:PF)(ρ:Rh):Option D:=(pa ρ).bind λd=>bif frz d then some d else none
def PB.f(h:PB R te p):PP R te (pF p):=by
 intro σ ρ Z H O d z s e Q k;refine ob e λc a e=>oc e λb e=>?_;cases e;exact h z s a λg r=>by
  cases r.nil b;exact k g r
@[simp] def dP(pa:PF)(ρ:Rh):Option (D×Rh):=(pa ρ).bind λd=>some (d,ρ)
@[simp] def dPT(q:PTf)(ρ:Rh):Option (Bool×Rh):=(q ρ).bind λd=>some (d,ρ)
theorem PP.d(h:PP R te p):DE R te (dP p):=by
 intro σ ρ b Z H O d w s e Q k;refine ob e λc a e=>?_;cases e;exact h w.zd s a λg r=>k (g.widen w) r<|g.slots w.zd s
theorem PTt.d(h:PTt R te p):DT R te (dPT p):=by
 intro σ ρ b Z H O d w s e Q k;refine ob e λc a e=>?_;cases e;exact h w.zd s a λg=>k (by simpa using g.widen w)<|g.slots w.zd s
@[simp] def pC(d:D)(ρ:Rh):Option D:=some d
def jka:PB R (jV i) (pV i):=by
 intro σ ρ Z H O d z s e Q k;unfold pV at e;split at e
 ·rename_i c a;cases e;obtain⟨A,P,B,rfl,b,_⟩:=s.put (M0.mp a).1;obtain⟨v,f,r⟩:=b d a;exact⟨v,f,k (Go.id z) r⟩
 ·cases e
def jlm(a:∀(Z:Zn) (H:Hp),Rep R Z H d v []):PP R (tC v) (pC d):=by
 intro σ ρ Z H O b z s e Q k;cases e;exact k (Go.id z)<|a Z H
def Rep.int_mk:Rep R Z H (.int i) (.int i) []:=by rw[Rep];exact⟨rfl,rfl⟩
def Rep.str_mk:Rep R Z H (.str s) (.str<|S s) []:=by rw[Rep];exact⟨rfl,rfl⟩
def Rep.non_mk:Rep R Z H .non .non []:=by rw[Rep];exact⟨rfl,rfl⟩
def Rep.int_of(r:Rep R Z H (.int i) v O):v=.int i/\O=[]:=by rw[Rep] at r;exact r
def Rep.str_of(r:Rep R Z H (.str s) v O):v=.str (S s)/\O=[]:=by rw[Rep] at r;exact r
def Rep.non_of(r:Rep R Z H .non v O):v=.non/\O=[]:=by rw[Rep] at r;exact r
def BO(R:RC)(r:R2)(g:D->D->Option D):Prop:=∀{Z:Zn}{H:Hp}{x y d:D}{v u:V}{O1 O2:W5},Zd Z H->Rep R Z H x v O1->Rep R Z H y u O2->g x y=some d ->
 ∀{Q:VK},(∀{w:V}{Z':Zn}{H':Hp}{P:W5},Go Z H [] Z' H' P->Rep R Z' H' d w P->Q w H')->r v u H Q
def BO'(R:RC)(r:R2)(g:D->D->Option D):Prop:=∀{Z:Zn}{H:Hp}{x y d:D}{v u:V}{O1 O2:W5},Zd Z H->Rep R Z H x v O1->Rep R Z H y u O2->g x y=some d ->
 ∀{Q:VK},(∀{w:V}{P:W5},Rep R Z H d w P->Q w H)->r v u H Q
def BU(R:RC)(r:V->Hp->VK->Prop)(g:D->Option D):Prop:=∀{Z:Zn}{H:Hp}{x d:D}{v:V}{O:W5},Zd Z H->Rep R Z H x v O->g x=some d ->
 ∀{Q:VK},(∀{w:V}{Z':Zn}{H':Hp}{P:W5},Go Z H [] Z' H' P->Rep R Z' H' d w P->Q w H')->r v H Q
def BC(R:RC)(r:List V->Hp->VK->Prop)(g:List D->Option D):Prop:=∀{Z:Zn}{H:Hp}{xs:List D}{d:D}{vs:List V}{O:W5},Zd Z H->Reps R Z H xs vs O->g xs=some d ->
 ∀{Q:VK},(∀{w:V}{Z':Zn}{H':Hp}{P:W5},Go Z H [] Z' H' P->Rep R Z' H' d w P->Q w H')->r vs H Q
@[simp] def p2(G:D->D->Option D)(pa:PF)(pb:PF)(ρ:Rh):Option D:=(pa ρ).bind λx=>(pb ρ).bind λy=>G x y
@[simp] def p1(G:D->Option D)(pa:PF)(ρ:Rh):Option D:=(pa ρ).bind G
def zB(b:BO R r g)(c:PB R ta pa)(f:PB R tb pb):PP R (tOp r ta tb) (p2 g pa pb):=by
 intro σ ρ Z H O d z s e Q k;refine ob e λx h e=>ob e λy e2 e=>?_;refine c z s h λ{v j l m} a r1=>?_;refine f a.wf.zd (a.slots z s) e2 λ{u n o p} g2 r2=>?_;exact b g2.wf.zd (g2.rep a.wf.zd r1) r2 e λg3 i=>k ((a.pair g2).pair g3) i
def jlZ(b:BO' R r g)(c:PB R ta pa)(f:PB R tb pb):PB R (tOp r ta tb) (p2 g pa pb):=by
 intro σ ρ Z H O d z s e Q k;refine ob e λx h e=>ob e λy e2 e=>?_;refine c z s h λ{v j l m} a r1=>?_;refine f a.wf.zd (a.slots z s) e2 λ{u n o p} g2 r2=>?_;exact b g2.wf.zd (g2.rep a.wf.zd r1) r2 e λi=>k (a.pair g2) i
def jmY(b:BU R r g)(c:PB R ta pa):PP R (tUn r ta) (p1 g pa):=by
 intro σ ρ Z H O d z s e Q k;refine ob e λx f e=>?_;exact c z s f λ{v i j l} a r1=>b a.wf.zd r1 e λg3 h=>k (by simpa using a.pair g3) h
@[simp] def pN(ρ:Rh):Option (List D):=some []
@[simp] def ja(pa:PF)(p:PAf)(ρ:Rh):Option (List D):=(pa ρ).bind λx=>(p ρ).bind λxs=>some<|x::xs
def pps_nil:PPs R JY pN:=by
 intro σ ρ Z H O d z s e Q k;cases e;exact k (Go.id z) Reps.empty
def jeK(b:PP R ta pa)(c:PPs R tr pr):PPs R (jB ta tr) (ja pa pr):=by
 intro σ ρ Z H O d z s e Q k;refine ob e λx f e=>ob e λg e2 e=>?_;cases e;refine b z s f λ{v h i j} a r1=>?_;refine c a.wf.zd (a.slots z s) e2 λ{u l m n} g2 r2=>?_;exact k (a.pair g2)<|.cons (g2.rep a.wf.zd r1) r2
def jfT:PBs R JY pN:=pps_nil.b
def jd1(b:PB R ta pa)(c:PBs R tr pr):PBs R (jB ta tr) (ja pa pr):=by
 intro σ ρ Z H O d z s e Q k;refine ob e λx f e=>ob e λg e2 e=>?_;cases e;refine b z s f λ{v h i j} a r1=>?_;refine c a.wf.zd (a.slots z s) e2 λ{u l m n} g2 r2=>?_;exact k (a.pair g2)<|.cons (g2.rep a.wf.zd r1) r2
@[simp] def pCB(G:List D->Option D)(p:PAf)(ρ:Rh):Option D:=(p ρ).bind G
def jkg(b:BC R r g)(c:PBs R ta pa):PP R (tCB r ta) (pCB g pa):=by
 intro σ ρ Z H O d z s e Q k;refine ob e λx f e=>?_;exact c z s f λ{v i j l} a r1=>b a.wf.zd r1 e λg3 h=>k (by simpa using a.pair g3) h
noncomputable def lim(n:Nat):Bool:=decide<|n<=100000
def qK(h:lim n=true):n<=sizeLine:=N8 (E1 h) (by decide)
def Qy(h:lim n=true):n < sizeLine:=E7 (E1 h) (by decide)
@[simp] def yg(p:PAf)(ρ:Rh):Option D:=(p ρ).bind λxs=>bif lim xs.length then some (.tup xs) else none
@[simp] def JV(p:PAf)(ρ:Rh):Option D:=(p ρ).bind λxs=>bif lim xs.length then some (.lst true xs) else none
def jjP(c:PPs R ta pa):PP R (VN ta) (yg pa):=by
 intro σ ρ Z H O d z s e Q k;refine ob e λh f e=>oc e λg e=>?_;cases e;exact c z s f λ{v i j l} a r1=>⟨by rw[r1.length];exact qK g,λp b=>k (a.trans<|Go.newF a.wf b)<|Rep.tupNew a.wf b r1⟩
def jjb(c:PPs R ta pa):PP R (jlw ta) (JV pa):=by
 intro σ ρ Z H O d z s e Q k;refine ob e λh f e=>oc e λg e=>?_;cases e;exact c z s f λ{v i j l} a r1=>⟨by rw[r1.length];exact qK g,λp b=>k (a.trans<|Go.newO a.wf b)<|Rep.lstNew a.wf b r1⟩
@[simp] def jl(pa:PF)(ρ:Rh):Option Bool:=(pa ρ).bind jgq
@[simp] def jaf(q:PTf)(q':PTf)(ρ:Rh):Option Bool:=(q ρ).bind λb=>bif b then q' ρ else some false
@[simp] def qOr(q:PTf)(q':PTf)(ρ:Rh):Option Bool:=(q ρ).bind λb=>bif b then some true else q' ρ
@[simp] def jlk(q:PTf)(ρ:Rh):Option Bool:=(q ρ).bind λb=>some<|!b
def xx(a:PB R ta pa):PTt R (YK ta) (jl pa):=by
 intro σ ρ Z H O b z s e Q k;refine ob e λx c e=>?_;cases xW e;refine a z s c λ{v f g h} d r1=>?_;obtain⟨rfl,rfl⟩:=r1.bl_of;exact⟨b,rfl,k d⟩
def jjY(d:PTt R ta pa)(f:PTt R tb pb):PTt R (jmy ta tb) (jaf pa pb):=by
 intro σ ρ Z H O b z s e Q k;refine ob e λc g e=>?_;refine d z s g λ{h i} a=>?_;cases c with
 | true=>exact jec<|f a.wf.zd (a.slots z s) e λg2=>k<|a.pair g2
 | false=>cases e;exact jd3<|k a
def jmo(d:PTt R ta pa)(f:PTt R tb pb):PTt R (tOr ta tb) (qOr pa pb):=by
 intro σ ρ Z H O b z s e Q k;refine ob e λc g e=>?_;refine d z s g λ{h i} a=>?_;cases c with
 | true=>cases e;exact jec<|k a
 | false=>exact jd3<|f a.wf.zd (a.slots z s) e λg2=>k<|a.pair g2
def jhu(a:PTt R ta pa):PTt R (jl1 ta) (jlk pa):=by
 intro σ ρ Z H O b z s e Q k;refine ob e λc d e=>?_;cases e;exact a z s d λ{g h} f=>k f
@[simp] def jlf(pa:PF)(pb:PF)(ρ:Rh):Option D:=(pa ρ).bind λd=>(jgq d).bind λb=>bif b then pb ρ else some (.bl false)
@[simp] def pOr(pa:PF)(pb:PF)(ρ:Rh):Option D:=(pa ρ).bind λd=>(jgq d).bind λb=>bif b then some (.bl true) else pb ρ
@[simp] def pNot(pa:PF)(ρ:Rh):Option D:=(pa ρ).bind λd=>(jgq d).bind λb=>some<|.bl<|!b
def jjZ(b:PB R ta pa)(f:PP R tb pb):PP R (jgW ta tb) (jlf pa pb):=by
 intro σ ρ Z H O d z s e Q k;refine ob e λx g e=>ob e λc e2 e=>?_;cases xW e2;refine b z s g λ{v h i j} a r1=>?_;obtain⟨rfl,rfl⟩:=r1.bl_of;refine⟨c,rfl,?_⟩;cases c with
 | true=>exact jec<|f a.wf.zd (a.slots z s) e λg2 r2=>k (by simpa using a.pair g2) r2
 | false=>cases e;exact jd3<|k a .bl_mk
@[simp] def pIf(q:PTf)(pa:PF)(pb:PF)(ρ:Rh):Option D:=(q ρ).bind λb=>bif b then pa ρ else pb ρ
def jlC(b:PTt R tt pt)(f:PP R ta pa)(g:PP R tb pb):PP R (tIf tt ta tb) (pIf pt pa pb):=by
 intro σ ρ Z H O d z s e Q k;refine ob e λc h e=>?_;refine b z s h λ{i j} a=>?_;cases c with
 | true=>exact jec<|f a.wf.zd (a.slots z s) e λg2 r2=>k (by simpa using a.pair g2) r2
 | false=>exact jd3<|g a.wf.zd (a.slots z s) e λg2 r2=>k (by simpa using a.pair g2) r2
@[simp] def jcy(G:D->D->Option D)(G':D->D->Option D)(pa:PF)(pb:PF)(pc:PF)(ρ:Rh):Option D:=(pa ρ).bind λx=>(pb ρ).bind λy=>(G x y).bind λd=>(jgq d).bind λb=>bif b then((pc ρ).bind λw=>G' y w) else some (.bl false)
def jeL(j:BO R r g)(f:BO R r' g')(l:PB R ta pa)(m:PB R tb pb)(n:PB R tc pc):PP R (jbZ r r' ta tb tc) (jcy g g' pa pb pc):=by
 intro σ ρ Z H O d z s e Q k;refine ob e λx o e=>ob e λy e2 e=>?_;refine l z s o λ{v C D E} c r1=>?_;refine m c.wf.zd (c.slots z s) e2 λ{u F G I} g2 r2=>?_;have h:=c.pair g2;refine ob e λq e3 e=>ob e λb e5 i=>?_;cases xW e5;refine j g2.wf.zd (g2.rep c.wf.zd r1) r2 e3 λ{J Z3 K L} g3 p=>?_;obtain⟨rfl,rfl⟩:=p.bl_of;have a:=h.pair g3;refine⟨b,rfl,?_⟩;cases b with
 | false=>cases i;exact jd3<|k (by simpa using a) .bl_mk
 | true =>
  refine jec<|ob i λM t e=>?_;refine n g3.wf.zd (a.slots z s) t λ{N P S T} g4 w=>?_;exact f g4.wf.zd (g4.rep g3.wf.zd<|g3.rep g2.wf.zd r2) w e λA B=>k (by simpa using(a.pair g4).pair A) B
def jiq(R:RC)(J:It)(Z:Zn)(H:Hp)(xs:List D):Prop:=∀{Z1:Zn}{H1:Hp},(∀ a,Z a->Z1 a)->(∀ a,Z a->H1 a=H a)->Zd Z1 H1->∀ i:Nat,
 (xs.length<=i->J.stop i H1)/\∀ x,xs[i]?=some x->J.go i H1/\∀ u H2,J.yld i H1 u H2->∃ Z2,Go Z1 H1 [] Z2 H2 []/\Rep R Z2 H2 x u []
def PIt(R:RC)(wi:TI)(p:PAf):Prop:=∀{σ:St}{ρ:Rh}{Z:Zn}{H:Hp}{O:W5}{xs:List D},Zd Z H->Slots R Z H ρ σ O->p ρ=some xs ->
 ∀{Q:It->Hp->Prop},(∀{J:It}{Z':Zn}{H':Hp},Go Z H [] Z' H' []->jiq R J Z' H' xs->Q J H')->wi σ H Q
def jkc(K:W4)(tl:TE):TI:=λσ H Q=>tl σ H λx H1 =>
 (∃ a,x=.ref a/\(∃ xs,SqL K H1 a xs)/\Q (Itl K a) H1) \/ (∃ a,x=.ref a/\(∃ xs,SqT K H1 a xs)/\Q (Itt K a) H1) \/ ∃ l,x=.str (S l)/\Q (Its l) H1
def jfq(z:PE X l tl):PI X tg l (jkc X.K tl):=by
 intro c s σ H Q I h;have n:∀ v s1,EP X c σ (λx f=>(∃ a,x=.ref a/\(∃ g,SqL X.K f a g)/\Q (Itl X.K a) f) \/ (∃ a,x=.ref a/\(∃ g,SqT X.K f a g)/\Q (Itt X.K a) f) \/ ∃ l,x=.str (S l)/\Q (Its l) f) v s1->wpAny (model X.prog X.w) X.A (pyIter v) (PIE X c σ tg Q) X.xe s1:=by
  rintro v s1 ⟨x,f,d,r1,B⟩
  -- each by the layer's own rule,at a name that holds the value
  rcases B with⟨a,rfl,⟨g,r⟩,q⟩ | ⟨a,rfl,⟨g,r⟩,q⟩ | ⟨l,rfl,q⟩
  ·cases r1;obtain⟨j,C,p,D⟩:=d.list r;refine wpAny_pyIter_list p.isList ?_;refine⟨s1.heap.objs.size,[s1.heap.objs.size],_,_,f,rfl,d.kept (t':=s1.toks) λb o e=>L9 _ e,jbl a _,⟨_,E6 _ rfl,rfl,rfl⟩,λb k=>?_,q⟩;have e:b=s1.heap.objs.size:=by simpa using k
   subst e;exact d.fpOk (N0 _)<|d.hok.fresh<|N0 _
  ·cases r1;obtain⟨j,C,p,D⟩:=d.tuple r;refine wpAny_pyIter_tuple (show s1.heap.IsTuple a j.toArray from p) ?_;refine⟨s1.heap.objs.size,[s1.heap.objs.size],_,_,f,rfl,d.kept (t':=s1.toks) λb o e=>L9 _ e,uM a _,⟨_,E6 _ rfl,rfl,rfl⟩,λb k=>?_,q⟩;have e:b=s1.heap.objs.size:=by simpa using k
   subst e;exact d.fpOk (N0 _)<|d.hok.fresh<|N0 _
  ·obtain⟨t,rfl⟩:=r1;have m:∀(ty:String),(ty = "str_ascii_iterator" \/ ty = "str_iterator")->(∀ A:Around,A.handled=none->Walks X.prog X.w A s1.heap.objs.size [s1.heap.objs.size] [s1.heap.objs.size] (S l).cps.size (SignAt<|S l) (λi h=>h.IsStrIter s1.heap.objs.size ty (S l) t i)) ->
     PIE X c σ tg Q (.ref s1.heap.objs.size) { s1 with heap:=s1.heap.push { cls:=.type ty,data:=.fields #[.str (S l) t,.int 0 0] } }:=λty u W=>by
    refine⟨s1.heap.objs.size,[s1.heap.objs.size],_,_,f,rfl,d.kept (t':=s1.toks) λb o e=>L9 _ e,jeV _ l t ty u W,⟨_,E6 _ rfl,rfl,rfl⟩,λb k=>?_,q⟩;have e:b=s1.heap.objs.size:=by simpa using k
    subst e;exact d.fpOk (N0 _)<|d.hok.fresh<|N0 _
   cases ha:(S l).cps.all (· < 128)
   ·exact wpAny_pyIter_wide ha<|m _ (.inr rfl) λE y=>Walks.strWide y _ (S l) t
   ·exact wpAny_pyIter_ascii ha<|m _ (.inl rfl) λE y=>Walks.strAscii y _ (S l) t
 exact thn (z c s σ H _ I h) n
def KU:D->Option (List D)
 | .lst _ l=>some<|fzs l
 | .tup l=>some<|fzs l
 | .str s=>some<|s.map λc=>.str [c]
 | _=>none
@[simp] def pIt(pa:PF)(ρ:Rh):Option (List D):=(pa ρ).bind KU
def jki(h:FL R Z H a vs)(r:Reps R Z H l vs []):jiq R (Itl R.K a) Z H l:=by
 intro d k f g zd i;have b:=(h.frame f g).sq;have r1:Reps R d k l vs []:=r.frame f g λa m=>(nomatch m);refine⟨λhi=>⟨vs,b,by rw[r.length];exact hi⟩,λx n=>?_⟩;obtain⟨v,j,o⟩:=r1.item n;refine⟨⟨vs,v,b,j⟩,λu p c=>?_⟩;obtain⟨rfl,c⟩:=c;have e:=c vs b;rw[j] at e;cases e;exact⟨d,Go.id zd,o⟩
def jkK(h:FT R Z H a vs)(r:Reps R Z H l vs []):jiq R (Itt R.K a) Z H l:=by
 intro d k f g zd i;have b:=(h.frame f g).sq;have r1:Reps R d k l vs []:=r.frame f g λa m=>(nomatch m);refine⟨λhi=>⟨vs,b,by rw[r.length];exact hi⟩,λx n=>?_⟩;obtain⟨v,j,o⟩:=r1.item n;refine⟨⟨vs,v,b,j⟩,λu p c=>?_⟩;obtain⟨rfl,c⟩:=c;have e:=c vs b;rw[j] at e;cases e;exact⟨d,Go.id zd,o⟩
def je9:jiq R (Its s) Z H (s.map λc=>.str [c]):=by
 intro d g h j zd i;refine⟨λhi=>by show s.length<=i;simpa using hi,λx a=>?_⟩;rw[List.getElem?_map] at a;cases e:s[i]? with
 | none=>rw[e] at a;cases a
 | some c =>
  rw[e] at a;cases a;refine⟨(M0.mp e).1,λu k f=>?_⟩;obtain⟨rfl,l,b,rfl⟩:=f;rw[e] at b;cases b;exact⟨d,Go.id zd,.str_mk⟩
def Go.fz(g:Go Z H [] Z' H' P):Go Z H [] (λa=>Z' a \/ a∈P) H' []:=g.trans<|Go.freeze g.wf
def jlt(h:PP R te p):PIt R (jkc R.K te) (pIt p):=by
 intro σ ρ Z H O n z s e Q k;refine ob e λd i e=>?_;refine h z s i λ{v j q m} c r1=>?_;have r2:=r1.freeze (Z':=λa=>j a \/ a∈m) (λa z=>.inl z) λa z=>.inr z;cases d with
 | lst o l =>
  cases e;rw[fz,Rep] at r2;obtain⟨a,f,r,rfl,g,b,rfl,_⟩:=r2;exact .inl ⟨a,rfl,⟨f,FL.sq b⟩,k c.fz<|jki b g⟩
 | tup l =>
  cases e;rw[fz,Rep] at r2;obtain⟨a,f,rfl,b,g⟩:=r2;exact .inr<|.inl ⟨a,rfl,⟨f,FT.sq b⟩,k c.fz<|jkK b g⟩
 | str t =>
  cases e;obtain⟨rfl,rfl⟩:=r1.str_of;exact .inr<|.inr ⟨t,rfl,k c je9⟩
 | _=>cases e
noncomputable def Vp(lo:Int)(n:Nat):List D:=(List.range n).map λ(i:Nat)=>D.int<|lo+(i:Int)
def ji5:jiq R (Itr lo n) Z H (Vp lo n):=by
 intro b d e f zd i;refine⟨λhi=>by show n<=i;simpa [Vp] using hi,λx a=>?_⟩;unfold Vp at a;rw[List.getElem?_map] at a;by_cases hi:i < n
 ·rw[List.getElem?_range hi] at a;cases a;refine⟨hi,λu g c=>?_⟩;obtain⟨rfl,rfl⟩:=c;exact⟨b,Go.id zd,.int_mk⟩
 ·rw[List.getElem?_eq_none<|by simpa using hi] at a;cases a
noncomputable def V1(i:Int):Bool:=Nat.ble i.natAbs 4611686018427387903
def YC(h:V1 i=true):-(2 ^ 62)<=i/\i < 2 ^ 62:=by
 have h:=Nat.le_of_ble_eq_true h;constructor<;>lia
def jbo(l:List D):Option (List D):=(je4 l).bind λx=>(ve x).bind λj=>bif V1 j then some (Vp 0 j.toNat) else none
@[simp] def Kv(p:PAf)(ρ:Rh):Option (List D):=(p ρ).bind jbo
def Reps.one_of(r:Reps R Z H [d] vs O):∃ v,vs=[v]/\Rep R Z H d v O:=by
 rw[Reps] at r;obtain⟨v,a,b,c,rfl,rfl,r1,r2⟩:=r;rw[Reps] at r2;obtain⟨rfl,rfl⟩:=r2;exact⟨v,rfl,by simpa using r1⟩
def Reps.two_of(r:Reps R Z H [d,e] vs O):∃ v u O1 O2,vs=[v,u]/\O=O1++O2/\Rep R Z H d v O1/\Rep R Z H e u O2:=by
 rw[Reps] at r;obtain⟨v,a,O1,O2,rfl,rfl,r1,r2⟩:=r;obtain⟨u,rfl,b⟩:=r2.one_of;exact⟨v,u,O1,O2,rfl,rfl,r1,b⟩
def jim(h:PBs R ta p):PIt R (jgO ta) (Kv p):=by
 intro σ ρ Z H O d z s e Q k;refine ob e λl b e=>ob e λx e2 e=>ob e λj e3 e=>oc e λa e=>?_;cases e;cases qP e2;cases jD e3;refine h z s b λ{v f g i} c r1=>?_;obtain⟨u,rfl,r2⟩:=r1.one_of;obtain⟨rfl,_⟩:=r2.int_of;exact⟨j,rfl,(YC a).1,(YC a).2,k c ji5⟩
def PGt(R:RC)(pm:List Nat)(tg:TG)(f:D->Rh->Option Rh):Prop:=∀{σ:St}{ρ ρ':Rh}{Z:Zn}{H:Hp}{O:W5}{d:D}{v:V},Rep R Z H d v []->Slots R Z H ρ σ O->f d ρ=some ρ' ->
 ∀{Q:St->Hp->Prop},(∀{σ':St}{O':W5},(∀ a∈O',a∈O)->(O.Nodup->O'.Nodup)->Slots R Z H ρ' σ' O'->Keep pm σ σ'->Q σ' H)->tg v σ H Q
def jjT(R:RC)(pm:List Nat)(tg:TGs)(f:List D->Rh->Option Rh):Prop:=∀{σ:St}{ρ ρ':Rh}{Z:Zn}{H:Hp}{O:W5}{ds:List D}{vs:List V},Reps R Z H ds vs []->Slots R Z H ρ σ O->f ds ρ=some ρ' ->
 ∀{Q:St->Hp->Prop},(∀{σ':St}{O':W5},(∀ a∈O',a∈O)->(O.Nodup->O'.Nodup)->Slots R Z H ρ' σ' O'->Keep pm σ σ'->Q σ' H)->tg vs σ H Q
def jdA:PGt R pm (v5 i) (jc pm i):=by
 intro σ ρ l Z H O d v r h e Q k;unfold jc at e;by_cases hi:i < ρ.length
 ·by_cases c:i∈pm
  ·rw[X8 c] at e;simp at e
  ·rw[X8 hi,X9 c] at e;cases e;obtain⟨A,m,B,rfl,n,f,o⟩:=h.put hi;refine k (O':=A++[]++B) (λa q=>?_) (λnd=>?_) (f r (λ_ z=>z) (λ_ _=>rfl) (λ_ _=>rfl)<|λ_ _=>rfl)<|Keep.set c
   ·simp at q ⊢;rcases q with q | q<;>simp[q]
   ·simp only[X6,N3] at nd;simp only[N1,X6];exact⟨nd.1.1,nd.2.1,λa g b j e=>nd.2.2 a (.inl g) b j e⟩
 ·rw[X9 hi] at e;simp at e
def jdq:jjT R pm jei gN:=by
 intro σ ρ c Z H O b d r h e Q k;unfold gN at e;cases b with
 | cons _ _=>cases e
 | nil =>
  cases e;rw[Reps] at r;obtain⟨rfl,_⟩:=r;exact⟨rfl,k (λa h=>h) (λh=>h) h<|Keep.refl _ _⟩
def jct(f:PGt R pm t g)(i:jjT R pm u gs):jjT R pm (qR t u) (gC g gs):=by
 intro σ ρ w Z H O c x r h e Q k;unfold gC at e;cases c with
 | nil=>cases e
 | cons d c =>
  dsimp only at e;refine ob e λy j e=>?_;rw[Reps] at r;obtain⟨v,b,z,A,rfl,e3,r1,r2⟩:=r;obtain⟨rfl,rfl⟩:=List.append_eq_nil_iff.mp e3.symm;exact⟨v,b,rfl,f r1 h j λs1 l m n=>i r2 m e λs2 o p s=>k (λa q=>s1 a<|s2 a q) (λq=>o<|l q) p<|n.trans s⟩
def jgv(f:jjT R pm u gs):PGt R pm (jc6 R.K n u) (gT n gs):=by
 intro σ ρ j Z H O d v r h e Q k;cases d with
 | tup l =>
  unfold gT at e;dsimp only at e;by_cases b:l.length=n
  ·rw[X8 b,cond_true] at e;rw[Rep] at r;obtain⟨a,g,rfl,i,c⟩:=r;exact⟨a,g,rfl,i.sq,by rw[c.length];exact b,f c h e k⟩
  ·rw[X9 b,cond_false] at e;cases e
 | _=>cases e
noncomputable def jL(g:D->Rh->Option Rh)(f:FS):List D->FS
 | [],ρ=>some<|.nx ρ
 | x::xs,ρ=>(g x ρ).bind λr=>(f r).bind λo=>o.loop<|jL g f xs
@[simp] def kK(p:PAf)(G:D->Rh->Option Rh)(f:FS)(ρ:Rh):Option Out:=(p ρ).bind λxs=>jL G f xs ρ
def Jj{l:List α}{i:Nat}(h:l[i]?=some x):l.drop i=x::l.drop (i+1):=by
 obtain⟨hi,rfl⟩:=M0.mp h;exact List.drop_eq_getElem_cons hi
inductive LpF (R:RC) (pm:List Nat) (g:D->Rh->Option Rh) (f:FS) (σ:L2.St) (Z0:Zn) (H0:Hp) (O:W5) (xs:List D) (o:Out) (i m:Nat) (σ':L2.St) (H':Hp):Prop
 | mk:m=xs.length - i->i<=xs.length->∀(ρ':Rh) (Z':Zn) (O':W5),Go Z0 H0 O Z' H' O'->Slots R Z' H' ρ' σ' O'->Keep pm σ σ'->jL g f (xs.drop i) ρ'=some o->LpF R pm g f σ Z0 H0 O xs o i m σ' H'
def jiV(hi:PIt R wi p)(P:PGt R pm tg g)(Q:DS R pm tb f):DS R pm (jmf wi tg tb) (kK p g f):=by
 intro σ ρ Z H O o w s e D' k;refine ob e λh S e=>?_;refine hi w.zd s S λ{J t B} g0 T=>?_;have b:Go Z H O t B O:=by simpa using g0.widen w
 refine⟨LpF R pm g f σ t B O h o,
  ⟨h.length,rfl,U6 _,ρ,t,O,Go.refl b.wf,g0.slots w.zd s,Keep.refl _ _,e⟩,?_⟩
 rintro i m σ' K ⟨rfl,U,ρ',L,M,j,s1,kp,e2⟩;have v:=T (Z1:=L) (H1:=K) j.zz (λa z=>j.zH b.wf a z) j.wf.zd i;by_cases x:i < h.length
 ·right
  have N:h[i]?=some h[i]:=by simp[x]
  obtain⟨go,V⟩:=v.2 _ N;rw[Jj N] at e2;refine ob e2 λρ1 e3 e2=>ob e2 λW X e2=>?_;refine⟨go,λE l=>∃ c n C,Go t B O n l C/\Slots R n l c E C/\Keep pm σ E/\jL g f (h.drop<|i+1) c=some o,λE l ⟨c,n,C,Y,a2,a3,a4⟩=>⟨h.length - (i+1),by lia,rfl,x,c,n,C,Y,a2,a3,a4⟩,λu l hy=>?_⟩;obtain⟨n,g2,r2⟩:=V u l hy;have g2':Go L K M n l M:=by simpa using g2.widen j.wf
  refine P r2 (g2.slots j.wf.zd s1) e3 λ{σ3 O3} sub nd s3 D=>?_;have g3:Go t B O n l O3:=(j.trans g2').drop sub (nd g2'.wf.nd);refine Q g3.wf s3 X ?_;cases W with
  | nx c=>exact λ{F y G A} g4 q r=>⟨c,y,A,g3.trans g4,q,kp.trans<|D.trans r,e2⟩
  | ct c=>exact λ{F y G A} g4 q r=>⟨c,y,A,g3.trans g4,q,kp.trans<|D.trans r,e2⟩
  | bk c=>cases e2;exact λ{F y G A} g4 q r=>k (b.trans<|g3.trans g4) q<|kp.trans<|D.trans r
  | rt d c=>cases e2;exact λ{v4 F y G P4 A} g4 r4 q r=>k (b.trans<|g3.trans g4) r4 q<|kp.trans<|D.trans r
 ·left
  have I:i=h.length:=by lia
  refine⟨v.1<|by lia,?_⟩;rw[I,List.drop_length] at e2;cases e2;exact k (b.trans j) s1 kp
noncomputable def jv(ix:List<|Option Nat)(ρ:Rh):Rh:=ix.map λo=>o.bind λj=>(ρ[j]?).join
theorem qQ(s:Slots R Z H ρ σ O):∀ ix:List (Option Nat),∃ O',Slots R Z H (jv ix ρ) (yE ix σ) O'
 | []=>⟨[],rfl,rfl⟩
 | o::ix=>by
  obtain⟨O',b⟩:=qQ s ix;show ∃ O',Slots R Z H ((o.bind λj=>(ρ[j]?).join)::jv ix ρ) ((o.bind λj=>(σ[j]?).join)::yE ix σ) O';cases e:o.bind λj=>(ρ[j]?).join with
  | none=>exact⟨O',_,_,rfl,b⟩
  | some d =>
   cases o with
   | none=>cases e
   | some j =>
    have a:(ρ[j]?).join=some d:=e;have e2:ρ[j]?=some (some d):=by
     cases q:ρ[j]? with
     | none=>rw[q] at a;cases a
     | some u=>rw[q] at a;rw[show u=some d from a]
    obtain⟨A,P,B,_,c,_⟩:=s.put (M0.mp e2).1;obtain⟨v,f,r⟩:=c d e2;refine⟨P++O',v,_,P,O',?_,rfl,r,b⟩;show((σ[j]?).join::yE ix σ)=some v::yE ix σ;rw[f];rfl
@[simp] def qT(ρ:Rh):Option Bool:=some true
def jhb:PTt R (λ_ H Q=>Q true H) qT:=by
 intro σ ρ Z H O b z s e Q k;cases e;exact k<|Go.id z
noncomputable def jW(g:D->Rh->Option Rh)(q:PTf)(p:PF):List D->Rh->Option (List D)
 | [],_=>some []
 | x::xs,ρ=>(g x ρ).bind λρ1=>(q ρ1).bind λb=>bif b then((p ρ1).bind λy=>(jW g q p xs ρ1).bind λys=>some<|y::ys) else jW g q p xs ρ1
@[simp] def yy(pi:PAf)(G:D->Rh->Option Rh)(q:PTf)(pa:PF)(ix:List<|Option Nat)(ρ:Rh):Option D:=(pi ρ).bind λxs=>bif lim xs.length then((jW G q pa xs<|jv ix ρ).bind λys=>some<|.lst true ys) else none
def spP(R:RC)(m:List D->Option D)(n:Nat):Sp:=λvs H Q _=>∃ Z ds d,Zd Z H/\ds.length=n/\Reps R Z H ds vs []/\m ds=some d/\∀{v:V}{Z':Zn}{H':Hp}{P:W5},Go Z H [] Z' H' P->Rep R Z' H' d v P->Q v H'
def fnP(n:Nat)(f:FS)(ds:List D):Option D:=(f<|ds.map some++List.replicate (n - ds.length) none).bind Out.val
theorem JS:∀ n:Nat,Slots R Z H (List.replicate n none) (List.replicate n none) []
 | 0=>⟨rfl,rfl⟩
 | n+1=>⟨none,_,rfl,JS n⟩
theorem JE:∀{ds:List D}{vs:List V}{O:W5}{ρ:Rh}{σ:St}{P:W5},Reps R Z H ds vs O->Slots R Z H ρ σ P->Slots R Z H (ds.map some++ρ) (vs.map some++σ) (O++P)
 | [],_,_,_,_,_,r,s=>by rw[Reps] at r;obtain⟨rfl,rfl⟩:=r;exact s
 | d::ds,_,_,_,_,_,r,s=>by
  rw[Reps] at r;obtain⟨v,a,b,c,rfl,rfl,r1,r2⟩:=r;exact⟨v,_,b,_,rfl,List.append_assoc ..,r1,JE r2 s⟩
def jif(b:DS R [] ts f)(h:spP R (fnP N.length f) n vs H Q E):ts { nx:=λ_ H'=>Q .non H',rt:=Q } (L2.start N vs) H:=by
 obtain⟨Z,a,d,z,l,r,e,k⟩:=h;unfold fnP at e;have s:Slots R Z H (a.map some++List.replicate (N.length - a.length) none) (L2.start N vs) []:=by
  have q:=JE r<|JS (R:=R) (Z:=Z) (H:=H)<|N.length - a.length;unfold L2.start;rw[r.length];exact q
 refine ob e λo c e=>?_;cases o with
 | rt m i=>cases e;exact b (wf0 z) s c λg j _ _=>k g.dropR j
 | nx i=>cases e;exact b (wf0 z) s c λg _ _=>k (P:=[]) g.to0 .non_mk
 | _=>cases e
def jgh(h:spP R m n vs H Q E):vs.length=n:=by
 obtain⟨Z,b,d,z,a,r,_⟩:=h;rw[r.length,a]
mutual
noncomputable def clean:D->Bool
 | .tup l=>ym l
 | .lst o l=>o&&ym l
 | .dK o _ l=>o&&ym l
 | .dT o _ l=>o&&ym l
 | .ins o _ _ l=>o&&ym l
 | .non=>true | .bl _=>true | .int _=>true | .str _=>true | .dead=>true | .exc _ _=>false
noncomputable def ym:List D->Bool
 | []=>true
 | d::l=>clean d&&ym l
end
mutual
theorem Rep.thaw(ht:∀ a vs,Z a->Rd H a (.tup vs)->Z' a):∀{d:D}{v:V}{O:W5},Rep R Z H d v O->clean d=true->Rep R Z' H d v O
 | .non,_,_,h,_=>by rw[Rep] at h ⊢;exact h
 | .bl _,_,_,h,_=>by rw[Rep] at h ⊢;exact h
 | .int _,_,_,h,_=>by rw[Rep] at h ⊢;exact h
 | .str _,_,_,h,_=>by rw[Rep] at h ⊢;exact h
 | .dead,_,_,h,_=>by rw[Rep] at h ⊢;exact h
 | .exc _ _,_,_,_,f=>by rw[clean] at f;cases f
 | .tup l,_,_,h,f=>by
  rw[Rep] at h ⊢;rw[clean] at f;obtain⟨a,vs,e,t,r⟩:=h;refine⟨a,vs,e,?_,Reps.thaw ht r f⟩;rcases t with⟨z,q⟩ | q
  ·exact .inl ⟨ht a vs z q,q⟩
  ·exact .inr q
 | .lst o l,_,_,h,f=>by
  rw[Rep] at h ⊢;rw[clean,M3] at f;obtain⟨a,vs,O',e,r,h⟩:=h;cases f.1;exact⟨a,vs,O',e,Reps.thaw ht r f.2,h⟩
 | .dK o ks l,_,_,h,f=>by
  rw[Rep] at h ⊢;rw[clean,M3] at f;obtain⟨a,vs,O',e,r,h⟩:=h;cases f.1;exact⟨a,vs,O',e,Reps.thaw ht r f.2,h⟩
 | .dT o ks l,_,_,h,f=>by
  rw[Rep] at h ⊢;rw[clean,M3] at f;obtain⟨a,vs,O',e,r,h⟩:=h;cases f.1;exact⟨a,vs,O',e,Reps.thaw ht r f.2,h⟩
 | .ins o c ns l,_,_,h,f=>by
  rw[Rep] at h ⊢;rw[clean,M3] at f;obtain⟨a,dx,vs,O',e,r,h⟩:=h;cases f.1;exact⟨a,dx,vs,O',e,Reps.thaw ht r f.2,h⟩
theorem Reps.thaw(ht:∀ a vs,Z a->Rd H a (.tup vs)->Z' a):∀{l:List D}{vs:List V}{O:W5},Reps R Z H l vs O->ym l=true->Reps R Z' H l vs O
 | [],_,_,h,_=>by rw[Reps] at h ⊢;exact h
 | d::l,_,_,h,f=>by
  rw[Reps] at h ⊢;rw[ym,M3] at f;obtain⟨v,vs,O1,O2,e,rfl,r1,r2⟩:=h;exact⟨v,vs,O1,O2,e,rfl,Rep.thaw ht r1 f.1,Reps.thaw ht r2 f.2⟩
end
mutual
theorem Rep.notTup:∀{d:D}{v:V}{O:W5},Rep R Z H d v O->∀ a∈O,∀ vs,¬ Rd H a (.tup vs)
 | .non,_,_,h,a,ha=>by rw[Rep] at h;rw[h.2] at ha;cases ha
 | .bl _,_,_,h,a,ha=>by rw[Rep] at h;rw[h.2] at ha;cases ha
 | .int _,_,_,h,a,ha=>by rw[Rep] at h;rw[h.2] at ha;cases ha
 | .str _,_,_,h,a,ha=>by rw[Rep] at h;rw[h.2] at ha;cases ha
 | .dead,_,_,h,a,ha=>by rw[Rep] at h;rw[h] at ha;cases ha
 | .exc _ _,_,_,h,a,ha=>by rw[Rep] at h;obtain⟨_,_,_,_,_,_,_,h⟩:=h;rw[h] at ha;cases ha
 | .tup l,_,_,h,a,ha=>by
  rw[Rep] at h;obtain⟨b,vs,e,t,r⟩:=h;exact Reps.notTup r a ha
 | .lst o l,_,_,h,a,ha=>by
  rw[Rep] at h;obtain⟨b,vs,O',e,r,h⟩:=h;cases o with
  | true =>
   obtain⟨h1,rfl⟩:=h;rcases M6.mp ha with e | e
   ·subst e;rintro ws (q | ⟨_,q⟩)<;>rw[h1] at q<;>cases q
   ·exact Reps.notTup r a e
  | false=>rw[h.2.2] at ha;cases ha
 | .dK o ks l,_,_,h,a,ha=>by
  rw[Rep] at h;obtain⟨b,vs,O',e,r,hl,hd,h⟩:=h;cases o with
  | true =>
   have h:=(show _=_ from h);subst h;rcases M6.mp ha with e | e
   ·subst e;rintro ws (q | ⟨_,q⟩)<;>rw[hd] at q<;>cases q
   ·exact Reps.notTup r a e
  | false=>rw[h.2.2] at ha;cases ha
 | .dT o ks l,_,_,h,a,ha=>by
  rw[Rep] at h;obtain⟨b,vs,O',e,r,hl,hd,h⟩:=h;cases o with
  | true =>
   have h:=(show _=_ from h);subst h;rcases M6.mp ha with e | e
   ·subst e;rintro ws (q | ⟨_,q⟩)<;>rw[hd] at q<;>cases q
   ·exact Reps.notTup r a e
  | false=>rw[h.2.2] at ha;cases ha
 | .ins o c ns l,_,_,h,a,ha=>by
  rw[Rep] at h;obtain⟨b,dx,vs,O',e,r,hl,hd,h⟩:=h;cases o with
  | true =>
   have h:=(show _=_ from h);subst h;rcases M6.mp ha with e | e
   ·subst e;rintro ws (q | ⟨_,q⟩)<;>rw[hd] at q<;>cases q
   ·exact Reps.notTup r a e
  | false=>rw[h.2.2] at ha;cases ha
theorem Reps.notTup:∀{l:List D}{vs:List V}{O:W5},Reps R Z H l vs O->∀ a∈O,∀ vs,¬ Rd H a (.tup vs)
 | [],_,_,h,a,ha=>by rw[Reps] at h;rw[h.2] at ha;cases ha
 | d::l,_,_,h,a,ha=>by
  rw[Reps] at h;obtain⟨v,vs,O1,O2,e,rfl,r1,r2⟩:=h;rcases N3.mp ha with q | q
  ·exact Rep.notTup r1 a q
  ·exact Reps.notTup r2 a q
end
@[simp] def jn(m:List D->Option D)(p:PAf)(ρ:Rh):Option D:=(p ρ).bind λds=>(m<|fzs ds).bind λd=>bif frzs ds||clean d then some d else none
def Vc(l:List D):(fzs l).length=l.length:=by rw[vU,L3]
def jc2(e:Zd Z H)(r1:Reps R Z H ds vs P1)(f:ds.length=n)(e2:m (fzs ds)=some d)(b:(frzs ds||clean d)=true)
  (k:∀{v:V}{Z':Zn}{H':Hp}{P:W5},Go Z H [] Z' H' P->Rep R Z' H' d v P->Q v H'):spP R m n (vs++[]) H Q E:=by
 refine⟨λa=>Z a \/ a∈P1,fzs ds,d,λa h=>h.elim (e a)<|r1.dom a,by rw[Vc];exact f,by rw[N1];exact r1.freeze (λa z=>.inl z) λa z=>.inr z,e2,λ{v Z' H' P} g2 r2=>?_⟩;rw[Bool.or_eq_true] at b;rcases b with b | b
 ·cases r1.nil b;exact k ⟨g2.wf,λa z=>g2.zz a<|.inl z,g2.fr,λa z=>(g2.zn a z).imp (λq=>q.resolve_right<|λq=>(nomatch q)) id,g2.sub,g2.dm⟩ r2
 ·refine k (Z':=λa=>Z' a/\(a∉P1 \/ Z a)) ⟨⟨g2.wf.nd,λa h q=>g2.wf.nz a h q.1,g2.wf.od,λa q=>g2.wf.zd a q.1⟩,λa z=>⟨g2.zz a<|.inl z,.inr z⟩,g2.fr,λa z=>?_,g2.sub,g2.dm⟩<|r2.thaw (λa ws g i=>⟨g,?_⟩) b
  ·rcases g2.zn a z.1 with(q | q) | q
   ·exact .inl q
   ·exact .inl<|z.2.resolve_left λn=>n q
   ·exact .inr q
  ·by_cases c:a∈P1
   ·exact absurd (Rd.agree (g2.same a<|r1.dom a c).symm i)<|r1.notTup a c ws
   ·exact .inl c
def jhg(f:PBs R ta p)(g:∀ ρ ds,p ρ=some ds->ds.length=n):PP R (xj (spP R m n) [] E0 ta) (jn m p):=by
 intro σ ρ Z H O d z s e Q k;refine ob e λds a e=>ob e λc e2 e=>oc e λh e=>?_;cases e;exact f z s a λb r1=>jc2 b.wf.zd r1 (g ρ ds a) e2 h λg2 r2=>k (by simpa using b.pair g2) r2
@[simp] def sFz(i:Nat)(f:FS)(ρ:Rh):Option Out:=match pV i ρ with | some d=>f (ρ.set i<|some<|fz d) | none=>f ρ
def jmC(h:DS R pm t f):DS R pm t (sFz i f):=by
 intro σ ρ Z H O o w s e l k;unfold sFz at e;split at e
 ·rename_i d hd;have hd:=Vf hd;obtain⟨A,P,B,rfl,b,c,_⟩:=s.put (M0.mp hd).1;obtain⟨v,j,r⟩:=b d hd;have g:Go Z H (A++P++B) (λa=>Z a \/ a∈P) H (A++[]++B):=(Go.freeze w.mid).frame w;have s2:=c (r.freeze (Z':=λa=>Z a \/ a∈P) (λa z=>.inl z) λa z=>.inr z) (λa z=>.inl z) (λ_ _=>rfl) (λ_ _=>rfl)<|λ_ _=>rfl;rw[Jn j] at s2;exact h g.wf s2 e<|k.pre g<|Keep.refl _ _
 ·exact h w s e k
def KR{l m:W5}(h:∀ c,l.count c<=m.count c)(n:m.Nodup):l.Nodup:=List.nodup_iff_count.mpr λc=>N8 (h c)<|List.nodup_iff_count.mp n c
def ja0{l m:W5}(h:∀ c,l.count c<=m.count c):∀ c∈l,c∈m:=λc a=>List.count_pos_iff.mp<|U5 (List.count_pos_iff.mpr a)<|h c
def Go.at(g:Go Z H O Z' H' P)(b:a∉O)(h:H a=some o):H' a=some o:=(g.fr a (by rw[h];exact λz=>nomatch z) b).trans h
def Go.at0(g:Go Z H [] Z' H' P)(h:H a=some o):H' a=some o:=g.at (λz=>nomatch z) h
noncomputable abbrev Ln:=D->Option (D×(D->D))
inductive LnR (R:RC) (Z:Zn) (H:Hp) (ρ:Rh) (σ:L2.St) (O:W5) (tb:TE) (i:Nat) (x:D) (k:D->D):Prop
 | mk:∀(v:V) (A P B:W5),O=A++P++B->Rep R Z H x v P->(∀{Q:VK},Q v H->tb σ H Q) ->
  (∀{Z':Zn}{H':Hp}{x':D}{P':W5},Rep R Z' H' x' v P'->(∀ a,Z a->Z' a)->(∀ a,Z a->H' a=H a)->(∀ a∈A,H' a=H a)->(∀ a∈B,H' a=H a)->Slots R Z' H' (ρ.set i<|some<|k x') σ (A++P'++B))->LnR R Z H ρ σ O tb i x k
def jc5(R:RC)(tb:TE)(i:Nat)(L:Ln):Prop:=∀{σ:L2.St}{ρ:Rh}{Z:Zn}{H:Hp}{O:W5}{d x:D}{k:D->D},Slots R Z H ρ σ O->ρ[i]?=some (some d)->L d=some (x,k)->LnR R Z H ρ σ O tb i x k
noncomputable def vQ:Ln:=λd=>some (d,λx=>x)
def kQ:jc5 R (jV i) i vQ:=by
 intro σ ρ Z H O d x k s h e;cases e;obtain⟨A,P,B,rfl,b,c,_⟩:=s.put (M0.mp h).1;obtain⟨v,a,r⟩:=b _ h;refine⟨v,A,P,B,rfl,r,λq=>⟨v,a,q⟩,λf g j l m=>?_⟩;have q:=c f g j l m;rw[Jn a] at q;exact q
inductive OwR (R:RC) (Z:Zn) (H:Hp) (l:List D) (sh:Addr->List V->HO) (sd:Prop) (v:V) (O:W5):Prop
 | mk:∀(a dx:Addr) (vs:List V) (O':W5),v=.ref a->Reps R Z H l vs O'->sd->H a=some (sh dx vs)->O=a::O'->OwR R Z H l sh sd v O
def Own(R:RC)(T:D)(l:List D)(sh:Addr->List V->HO)(sd:Prop):Prop:=∀{Z:Zn}{H:Hp}{v:V}{O:W5},Rep R Z H T v O↔OwR R Z H l sh sd v O
def qH:Own R (.lst true l) l (λ_ vs=>.lst vs) True:=by
 intro Z H v O;rw[Rep];exact⟨λh=>by obtain⟨a,vs,b,e,c,ea,d⟩:=h;exact⟨a,0,vs,b,e,c,trivial,ea,d⟩,λh=>by obtain⟨a,_,vs,b,e,c,_,ea,d⟩:=h;exact⟨a,vs,b,e,c,ea,d⟩⟩
def jar:Own R (.dK true ks l) l (λ_ vs=>.dK<|(ks.map kaV).zip vs) (ks.length=l.length):=by
 intro Z H v O;rw[Rep];exact⟨λh=>by obtain⟨a,vs,b,e,c,h,ea,d⟩:=h;exact⟨a,0,vs,b,e,c,h,ea,d⟩,λh=>by obtain⟨a,_,vs,b,e,c,h,ea,d⟩:=h;exact⟨a,vs,b,e,c,h,ea,d⟩⟩
def jdG:Own R (.dT true ks l) l (λ_ vs=>.dT<|(ks.map<|List.map kaV).zip vs) (ks.length=l.length):=by
 intro Z H v O;rw[Rep];exact⟨λh=>by obtain⟨a,vs,b,e,c,h,ea,d⟩:=h;exact⟨a,0,vs,b,e,c,h,ea,d⟩,λh=>by obtain⟨a,_,vs,b,e,c,h,ea,d⟩:=h;exact⟨a,vs,b,e,c,h,ea,d⟩⟩
def ow_ins:Own R (.ins true c ns l) l (λdx vs=>.ins (R.cls c) dx<|ns.zip vs) (ns.length=l.length):=by
 intro Z H v O;rw[Rep];exact⟨λh=>by obtain⟨a,dx,vs,b,e,d,h,ea,f⟩:=h;exact⟨a,dx,vs,b,e,d,h,ea,f⟩,λh=>by obtain⟨a,dx,vs,b,e,d,h,ea,f⟩:=h;exact⟨a,dx,vs,b,e,d,h,ea,f⟩⟩
def kE{R:RC}{Z:Zn}{H:Hp}{C:Prop}{σ:L2.St}{ρ:Rh}{O P0:W5}{i:Nat}{tb:TE}{L:Ln}{t y:D}{p:D->D}{l:List D}{u:Addr->List V->HO}{E:Prop}(I:jc5 R tb i L)(w:WF Z H<|P0++O)(s:Slots R Z H ρ σ O)(hi:pV i ρ=some t)(e:L t=some (y,p))(J:Own R y l u E)
  (k:∀ a dx vs O',Reps R Z H l vs O'->E->H a=some (u dx vs)->(∀{Q:VK},Q (.ref a) H->tb σ H Q)->(∀{O2 P1:W5}{Z2:Zn}{H2:Hp}{x':D}{l':List D}{vs':List V}{sh':Addr->List V->HO}{sd':Prop},Own R x' l' sh' sd'->sd'->Go Z H [] Z2 H2 P1->Reps R Z2 H2 l' vs' O2->(∀ q,O2.count q<=O'.count q+P0.count q+P1.count q) ->
   ∃ O3,Go Z H (P0++O) Z2 (upd H2 a<|sh' dx vs') O3/\Slots R Z2 (upd H2 a<|sh' dx vs') (ρ.set i<|some<|p x') σ O3)->C):C:=by
 obtain⟨v,A,P,B,rfl,r,K,M⟩:=I s (Vf hi) e;obtain⟨a,dx,vs,O',rfl,N,hd,ea,rfl⟩:=J.mp r;refine k a dx vs O' N hd ea K λ{O2 P1 Z2 H2 x' l' vs' sh' sd'} n o g S cnt=>?_;have j:=g.widen w;have nd:=j.wf.nd;have ct:=List.nodup_iff_count.mp nd a;simp only[U9,List.count_cons,beq_self_eq_true,if_true] at ct;have pos:∀{m:W5},a∈m->0 < m.count a:=λh=>List.count_pos_iff.mpr h;generalize T:sh' dx vs'=ob;have d:∀ b,Z2 b->upd H2 a ob b=H2 b:=λb c=>jg λz=>j.wf.nz a (by simp)<|z▸c;have f:∀ m:List Addr,(∀ b∈m,b∈A++(a::O')++B)->m.count a=0->∀ b∈m,upd H2 a ob b=H b:=λm U X b c=>(jg λz=>by subst z;have:=pos c;lia).trans (g.same b<|w.od b<|U4 _<|U b c);have W:=M (n.mpr ⟨a,dx,vs',O2,rfl,S.frame (λ_ z=>z) d λb c=>jg λz=>by subst z;have:=pos c;have:=cnt b;lia,o,by rw[T];exact jr,rfl⟩) g.zz (λx F=>(d x<|g.zz x F).trans (g.same x<|w.zd x F)) (f A (λb c=>by simp[c])<|by lia)<|f B (λb c=>by simp[c]) (by lia);have G:∀ q,(A++(a::O2)++B).count q<=(P1++(P0++(A++(a::O')++B))).count q:=λq=>by
  have:=cnt q;simp only[U9,List.count_cons];lia
 exact⟨_,(j.trans<|Go.put j.wf<|by simp).drop (ja0 G) (KR G nd),W⟩
@[simp] def kD(i:Nat)(L:Ln)(pv:PF)(ρ:Rh):Option Out:=(pv ρ).bind λd=>(pV i ρ).bind λt=>(L t).bind λy=>(QZ y.1).bind λl=>bif lim l.length then some (.nx<|ρ.set i<|some<|y.2<|.lst true<|l++[d]) else none
def jcb{R:RC}{pm:List Nat}{i:Nat}{tb te:TE}{L:Ln}{p:PF}(j:jc5 R tb i L)(h:PP R te p):DS R pm (JK<|tBM R.K "list" YW tb<|jB te JY) (kD i L p):=by
 intro σ ρ Z H O o w s e x k;refine ob e λd m e=>ob e λt hi e=>ob e λ⟨y,z⟩ e3 e=>ob e λl n e=>oc e λb e=>?_;cases e;cases Jr n;refine kE (P0:=[]) j w s hi e3 qH λa _ f A g _ ea r put=>r ⟨.inl ⟨rfl,f,SqL.of ea⟩,h w.zd s m λ{u B C D} c r1=>?_⟩;obtain⟨E,g3,v⟩:=put qH trivial c ((c.reps w.zd g).append (.one r1)) λq=>by simp
 exact⟨a,f,u,rfl,rfl,c.at0 ea,by rw[g.length];exact Qy b,k g3 v<|Keep.refl _ _⟩
@[simp] def Qs(i:Nat)(pa:PF)(ρ:Rh):Option Out:=(pa ρ).bind λd=>(pV i ρ).bind λx=>(QZ x).bind λl=>bif lim l.length then some (.nx<|ρ.set i<|some<|.lst true<|l++[d]) else none
def jjt(h:PP R te p):DS R pm (JK<|tBM R.K "list" YW (jV i)<|jB te JY) (Qs i p):=jcb kQ h
def J5(h:OpR X f r)(h':OpR X f r'):OpR X f (λx y H Q=>r x y H Q \/ r' x y H Q):=by
 intro a s σ H x y v u Q I rx b q;rcases q with q | q
 ·exact h a s σ H x y v u Q I rx b q
 ·exact h' a s σ H x y v u Q I rx b q
def Rep.lst_of(r:Rep R Z H (.lst o l) v O):∃ a vs O',v=.ref a/\SqX R.K H a vs/\Reps R Z H l vs O':=by
 rw[Rep] at r;obtain⟨a,vs,O',rfl,b,h⟩:=r;cases o with
 | true=>exact⟨a,vs,O',rfl,SqX.of h.1,b⟩
 | false=>exact⟨a,vs,O',rfl,FL.sqx h.1,b⟩
def Rep.tup_of(r:Rep R Z H (.tup l) v O):∃ a vs,v=.ref a/\SqT R.K H a vs/\Reps R Z H l vs O:=by
 rw[Rep] at r;obtain⟨a,vs,rfl,h,b⟩:=r;exact⟨a,vs,rfl,h.sq,b⟩
def Reps.frozen(r:Reps R Z H l vs O)(f:frzs l=true):Reps R Z H l vs []:=by
 cases r.nil f;exact r
noncomputable def jkk(i:Int):Bool:=decide<|Builtin.Int.intBits i<=2 ^ 20
def jcP(h:i.natAbs < 2 ^ 1000):jkk i=true:=X8<|uF h (by decide)
def jf(x y:D):Option D:=match x with
 | .int i=>(match y with
  | .int j=>some<|.int<|i+j
  | _=>none)
 | .str a=>(match y with
  | .str b=>bif lim (a.length+b.length) then some (.str<|a++b) else none
  | _=>none)
 | .lst _ a=>(match y with
  | .lst _ b=>bif lim (a.length+b.length)&&(frzs a&&frzs b) then some (.lst true<|a++b) else none
  | _=>none)
 | .tup a=>(match y with
  | .tup b=>bif lim (a.length+b.length)&&(frzs a&&frzs b)&&!a.isEmpty then some (.tup<|a++b) else none
  | _=>none)
 | _=>none
def jl5:R2:=λx y H Q=>∃ a b,x=.str (S a)/\y=.str (S b)/\a.length+b.length<=sizeLine/\Q (.str<|S<|a++b) H
def jdh(K:W4):R2:=λx y H Q=>rI0 (λi j=>.int<|i+j) x y H Q \/ jl5 x y H Q \/ jjq K x y H Q \/ jkI K x y H Q
def jht:OpR X (binaryOp .Add) (jdh X.K):=J5 jjE<|J5 jgK<|J5 jgj jf5
def jjx:BO R (jdh R.K) jf:=by
 intro Z H x y d v u C D z rx h e Q k;cases x with
 | int i =>
  cases y with
  | int j =>
   cases e;obtain⟨rfl,_⟩:=rx.int_of;obtain⟨rfl,_⟩:=h.int_of;exact .inl ⟨i,j,rfl,rfl,k (Go.id z) .int_mk⟩
  | _=>cases e
 | str a =>
  cases y with
  | str b =>
   simp only[jf] at e;refine oc e λc e=>?_;cases e;obtain⟨rfl,_⟩:=rx.str_of;obtain⟨rfl,_⟩:=h.str_of;exact .inr<|.inl ⟨a,b,rfl,rfl,qK c,k (Go.id z) .str_mk⟩
  | _=>cases e
 | lst o a =>
  cases y with
  | lst E b =>
   simp only[jf] at e;refine oc e λc e=>?_;cases e;simp only[M3] at c;obtain⟨p,l,F,rfl,m,f⟩:=rx.lst_of;obtain⟨q,ws,w,rfl,n,rt⟩:=h.lst_of;have r:=(f.frozen c.2.1).append (rt.frozen c.2.2);exact .inr<|.inr<|.inl ⟨p,q,l,ws,rfl,rfl,m,n,by rw[f.length,rt.length];exact qK c.1,λb g=>k (Go.newO (wf0 z) g)<|Rep.lstNew (wf0 z) g r⟩
  | _=>cases e
 | tup a =>
  cases y with
  | tup b =>
   simp only[jf] at e;refine oc e λc e=>?_;cases e;simp only[M3] at c;obtain⟨p,l,rfl,m,f⟩:=rx.tup_of;obtain⟨q,ws,rfl,n,rt⟩:=h.tup_of;have r:=(f.frozen c.1.2.1).append (rt.frozen c.1.2.2);have s:l≠[]:=by
    intro A;have:=f.length;rw[A] at this;have t:a=[]:=List.eq_nil_of_length_eq_zero this.symm;rw[t] at c;simp at c
   refine .inr<|.inr<|.inr ⟨p,q,l,ws,rfl,rfl,m,n,s,by rw[f.length,rt.length];exact qK c.1.1,(λt=>?_),λ_ b g=>k (Go.newF (wf0 z) g)<|Rep.tupNew (wf0 z) g r⟩;have B:b=[]:=List.eq_nil_of_length_eq_zero (by rw[<- rt.length,t];rfl);subst B;rw[N1] at k;have ea:=f.nil c.1.2.1;subst ea;exact k (Go.id z) rx
  | _=>cases e
 | _=>cases e
def two(f:Int->Int->Option D)(x y:D):Option D:=(ve x).bind λi=>(ve y).bind λj=>f i j
def two_of(e:two f x y=some d):∃ i j,x=.int i/\y=.int j/\f i j=some d:=ob e λi a e=>ob e λj e2 e=>⟨i,j,jD a,jD e2,e⟩
def JO:D->D->Option D:=two λi j=>some<|.int<|i - j
def jkZ:BO R (rI0 λi j=>.int<|i - j) JO:=by
 intro Z H x y d v u b c z rx a e Q k;replace e:=two_of e;obtain⟨i,j,rfl,rfl,e⟩:=e;cases e;obtain⟨rfl,_⟩:=rx.int_of;obtain⟨rfl,_⟩:=a.int_of;exact⟨i,j,rfl,rfl,k (Go.id z) .int_mk⟩
def yb(x y:D):Option D:=match y with
 | .int n=>(match x with
  | .int i=>bif jkk i&&jkk n then some (.int<|i*n) else none
  | .str a=>bif decide (a.length<=1000)&&(decide (0<=n)&&decide (n<=1000)) then some (.str (List.replicate n.toNat a).flatten) else none
  | _=>none)
 | _=>none
def jhc:R2:=λx y H Q=>rI (λi j=>Builtin.Int.intBits i<=2 ^ 20/\Builtin.Int.intBits j<=2 ^ 20) (λi j=>.int<|i*j) x y H Q \/
 ∃(a:List Nat) (n:Int),x=.str (S a)/\y=.int n/\a.length<=1000/\0<=n/\n<=1000/\Q (.str<|S (List.replicate n.toNat a).flatten) H
def jfS:OpR X (binaryOp .Mult) jhc:=J5 jhA jhz
def jjM:BO R jhc yb:=by
 intro Z H x y d v u f g z rx c e Q k;cases y with
 | int n =>
  cases x with
  | int i =>
   simp only[yb] at e;refine oc e λb e=>?_;cases e;rw[M3] at b;obtain⟨rfl,_⟩:=rx.int_of;obtain⟨rfl,_⟩:=c.int_of;exact .inl ⟨i,n,rfl,rfl,⟨E1 b.1,E1 b.2⟩,k (Go.id z) .int_mk⟩
  | str a =>
   simp only[yb] at e;refine oc e λb e=>?_;cases e;simp only[M3,decide_eq_true_eq] at b;obtain⟨rfl,_⟩:=rx.str_of;obtain⟨rfl,_⟩:=c.int_of;exact .inr ⟨a,n,rfl,rfl,b.1,b.2.1,b.2.2,k (Go.id z) .str_mk⟩
  | _=>cases e
 | _=>cases e
noncomputable def uP(j:Int):Bool:=decide (0 < j)&&decide (j < 2 ^ 300)
def jcq(h:uP j=true):0 < j/\j.natAbs.log2 < 9000:=by
 unfold uP at h;simp only[M3,decide_eq_true_eq] at h;refine⟨h.1,?_⟩;have a:j.natAbs < 2 ^ 300:=by lia
 have b:j.natAbs≠0:=by lia
 have:=(Nat.log2_lt b (k:=300)).mpr a
 lia
def jeS:OpR X (binaryOp .FloorDiv) (rI (λ_ j=>uP j=true) λi j=>.int<|i / j):=opI λi j t u s Q E a q=>by
 obtain⟨b,c⟩:=jcq a;have e:i / j=i.fdiv j:=(Int.fdiv_eq_ediv_of_nonneg i<|Int.le_of_lt b).symm;rw[e] at q;exact PyProof.Rows.floordiv_int (by lia) q<|.inl<|PyProof.noPylong_of_log2 c
def Yo:D->D->Option D:=two λi j=>bif uP j then some (.int<|i / j) else none
def Ji:D->D->Option D:=two λi j=>bif decide (0 < j) then some (.int<|i % j) else none
def Vr:D->D->Option D:=two λi j=>bif decide (0<=j)&&decide (j<=100)&&decide (i.natAbs < 2 ^ 64) then some (.int<|i ^ j.toNat) else none
def jk4:BO R (rI (λ_ j=>uP j=true) λi j=>.int<|i / j) Yo:=by
 intro Z H x y d v u c f z rx a e Q k;replace e:=two_of e;obtain⟨i,j,rfl,rfl,e⟩:=e;refine oc e λb e=>?_;cases e;obtain⟨rfl,_⟩:=rx.int_of;obtain⟨rfl,_⟩:=a.int_of;exact⟨i,j,rfl,rfl,b,k (Go.id z) .int_mk⟩
def jkN:BO R (rI (λ_ j=>0 < j) λi j=>.int<|i % j) Ji:=by
 intro Z H x y d v u c f z rx b e Q k;replace e:=two_of e;obtain⟨i,j,rfl,rfl,e⟩:=e;by_cases a:0 < j
 ·rw[X8 a] at e;cases e;obtain⟨rfl,_⟩:=rx.int_of;obtain⟨rfl,_⟩:=b.int_of;exact⟨i,j,rfl,rfl,a,k (Go.id z) .int_mk⟩
 ·rw[X9 a] at e;cases e
def jiD:BO R (rI jma λi j=>.int<|i ^ j.toNat) Vr:=by
 intro Z H x y d v u c f z rx b e Q k;replace e:=two_of e;obtain⟨i,j,rfl,rfl,e⟩:=e;refine oc e λa e=>?_;cases e;simp only[M3,decide_eq_true_eq] at a;obtain⟨rfl,_⟩:=rx.int_of;obtain⟨rfl,_⟩:=b.int_of;exact⟨i,j,rfl,rfl,⟨a.1.1,by lia,a.2⟩,k (Go.id z) .int_mk⟩
noncomputable def xK:D->Option D
 | .int i=>some<|.int<|-i
 | _=>none
def jkS:BU R (rU λi=>.int<|-i) xK:=by
 intro Z H x d v O z rx e Q k;cases x with
 | int i =>
  cases e;obtain⟨rfl,_⟩:=rx.int_of;exact⟨i,rfl,k (Go.id z) .int_mk⟩
 | _=>cases e
def opB(g:Int->Int->Bool):D->D->Option D:=two λi j=>some<|.bl<|g i j
def jlj:BO R (rI0 λi j=>.bl<|g i j) (opB g):=by
 intro Z H x y d v u b c z rx a e Q k;replace e:=two_of e;obtain⟨i,j,rfl,rfl,e⟩:=e;cases e;obtain⟨rfl,_⟩:=rx.int_of;obtain⟨rfl,_⟩:=a.int_of;exact⟨i,j,rfl,rfl,k (Go.id z) .bl_mk⟩
abbrev jfO:D->D->Option D:=opB λi j=>decide<|i < j
abbrev jlS:D->D->Option D:=opB λi j=>decide<|i<=j
abbrev Vk:D->D->Option D:=opB λi j=>decide<|j < i
abbrev jlW:D->D->Option D:=opB λi j=>decide<|j<=i
noncomputable def qD:D->Bool
 | .non=>true | .bl _=>true | .int _=>true | .str _=>true
 | _=>false
noncomputable def eqF:D->D->Bool
 | .non,.non=>true
 | .bl a,.bl b=>a==b
 | .int a,.int b=>a==b
 | .str a,.str b=>a==b
 | _,_=>false
noncomputable def Kt:D->D->Bool
 | .bl _,.int _=>false
 | .int _,.bl _=>false
 | _,_=>true
def jcz(rx:Rep R Z H x v O1)(c:Rep R Z H y u O2)(h:(qD x&&qD y&&Kt x y)=true):jmg v u=true/\decide (v=u)=eqF x y:=by
 cases x with
 | non =>
  obtain⟨rfl,_⟩:=rx.non_of;cases y with
  | non=>obtain⟨rfl,_⟩:=c.non_of;exact⟨rfl,rfl⟩
  | bl b=>obtain⟨rfl,_⟩:=c.bl_of;exact⟨rfl,rfl⟩
  | int b=>obtain⟨rfl,_⟩:=c.int_of;exact⟨rfl,rfl⟩
  | str b=>obtain⟨rfl,_⟩:=c.str_of;exact⟨rfl,rfl⟩
  | _=>cases h
 | bl a =>
  obtain⟨rfl,_⟩:=rx.bl_of;cases y with
  | non=>obtain⟨rfl,_⟩:=c.non_of;exact⟨rfl,rfl⟩
  | bl b=>obtain⟨rfl,_⟩:=c.bl_of;exact⟨rfl,by rw[jcr];rfl⟩
  | str b=>obtain⟨rfl,_⟩:=c.str_of;exact⟨rfl,rfl⟩
  | _=>cases h
 | int a =>
  obtain⟨rfl,_⟩:=rx.int_of;cases y with
  | non=>obtain⟨rfl,_⟩:=c.non_of;exact⟨rfl,rfl⟩
  | int b=>obtain⟨rfl,_⟩:=c.int_of;exact⟨rfl,by rw[zY];rfl⟩
  | str b=>obtain⟨rfl,_⟩:=c.str_of;exact⟨rfl,rfl⟩
  | _=>cases h
 | str a =>
  obtain⟨rfl,_⟩:=rx.str_of;cases y with
  | non=>obtain⟨rfl,_⟩:=c.non_of;exact⟨rfl,rfl⟩
  | bl b=>obtain⟨rfl,_⟩:=c.bl_of;exact⟨rfl,rfl⟩
  | int b=>obtain⟨rfl,_⟩:=c.int_of;exact⟨rfl,rfl⟩
  | str b =>
   obtain⟨rfl,_⟩:=c.str_of;refine⟨rfl,?_⟩;rw[Bool.eq_iff_iff];simp[eqF,jmB]
  | _=>cases h
 | _=>cases h
def inL(x:D)(l:List D):Bool:=l.any λy=>eqF y x
def jdm(x:D)(l:List D):Bool:=qD x&&l.all λy=>qD y&&Kt y x
def zI(neg:Bool)(x y:D):Option D:=match y with
 | .str s=>(match x with
  | .str [c]=>some<|.bl<|neg != decide (c∈s)
  | _=>none)
 | .lst _ l=>bif jdm x l then some (.bl<|neg != inL x l) else none
 | .tup l=>bif jdm x l then some (.bl<|neg != inL x l) else none
 | _=>none
theorem Reps.flat(rx:Rep R Z H x v P)(c:qD x=true):∀{l:List D}{vs:List V}{O:W5},Reps R Z H l vs O->(l.all λy=>qD y&&Kt y x)=true->Yw v=true/\vs.all Yw=true/\inV v vs=inL x l
 | [],_,_,h,_=>by
  rw[Reps] at h;obtain⟨rfl,_⟩:=h;refine⟨?_,rfl,rfl⟩;cases x with
  | non=>obtain⟨rfl,_⟩:=rx.non_of;rfl
  | bl b=>obtain⟨rfl,_⟩:=rx.bl_of;rfl
  | int b=>obtain⟨rfl,_⟩:=rx.int_of;rfl
  | str b=>obtain⟨rfl,_⟩:=rx.str_of;rfl
  | _=>cases c
 | y::l,_,_,h,f=>by
  rw[Reps] at h;obtain⟨u,vs,i,j,rfl,rfl,r1,r2⟩:=h;rw[List.all_cons,M3] at f;obtain⟨d,e,g⟩:=Reps.flat rx c r2 f.2;have key:Yw u=true/\eqV u v=eqF y x:=by
   cases y with
   | non =>
    obtain⟨rfl,_⟩:=r1.non_of;cases x with
    | non=>obtain⟨rfl,_⟩:=rx.non_of;exact⟨rfl,rfl⟩
    | bl b=>obtain⟨rfl,_⟩:=rx.bl_of;exact⟨rfl,rfl⟩
    | int b=>obtain⟨rfl,_⟩:=rx.int_of;exact⟨rfl,rfl⟩
    | str b=>obtain⟨rfl,_⟩:=rx.str_of;exact⟨rfl,rfl⟩
    | _=>cases c
   | bl a =>
    obtain⟨rfl,_⟩:=r1.bl_of;cases x with
    | non=>obtain⟨rfl,_⟩:=rx.non_of;exact⟨rfl,rfl⟩
    | bl b=>obtain⟨rfl,_⟩:=rx.bl_of;exact⟨rfl,rfl⟩
    | str b=>obtain⟨rfl,_⟩:=rx.str_of;exact⟨rfl,rfl⟩
    | int b=>exact absurd f.1 (by simp[Kt])
    | _=>cases c
   | int a =>
    obtain⟨rfl,_⟩:=r1.int_of;cases x with
    | non=>obtain⟨rfl,_⟩:=rx.non_of;exact⟨rfl,rfl⟩
    | int b=>obtain⟨rfl,_⟩:=rx.int_of;exact⟨rfl,rfl⟩
    | str b=>obtain⟨rfl,_⟩:=rx.str_of;exact⟨rfl,rfl⟩
    | bl b=>exact absurd f.1 (by simp[Kt])
    | _=>cases c
   | str a =>
    obtain⟨rfl,_⟩:=r1.str_of;cases x with
    | non=>obtain⟨rfl,_⟩:=rx.non_of;exact⟨rfl,rfl⟩
    | bl b=>obtain⟨rfl,_⟩:=rx.bl_of;exact⟨rfl,rfl⟩
    | int b=>obtain⟨rfl,_⟩:=rx.int_of;exact⟨rfl,rfl⟩
    | str b =>
     obtain⟨rfl,_⟩:=rx.str_of;refine⟨rfl,?_⟩;rw[Bool.eq_iff_iff];simp[eqF,eqV,jmB]
    | _=>cases c
   | _=>exact absurd f.1 (by simp[qD])
  refine⟨d,by rw[List.all_cons,key.1,e];rfl,?_⟩;show(eqV u v||inV v vs)=(eqF y x||inL x l);rw[key.2,g]
def jnz(neg:Bool):R2:=λx y H Q=>∃ c l,x=.str (S [c])/\y=.str (S l)/\Q (.bl<|if neg then !decide (c∈l) else decide (c∈l)) H
def jiv(K:W4)(neg:Bool):R2:=λx y H Q=>jnz neg x y H Q \/ rIn K neg x y H Q
def jj7:OpR X (compareOp .In) (jiv X.K false):=J5 jjJ jcF
def jaM:OpR X (compareOp .NotIn) (jiv X.K true):=J5 jcZ QH
def we(neg b:Bool):(if neg=true then !b else b)=(neg != b):=by cases neg<;>cases b<;>rfl
def jj2:BO R (jiv R.K neg) (zI neg):=by
 intro Z H x y d v u q r z rx f e Q k;cases y with
 | str s =>
  cases x with
  | str t =>
   match t,e,rx with
   | [c],e,rx =>
    cases e;obtain⟨rfl,_⟩:=rx.str_of;obtain⟨rfl,_⟩:=f.str_of;refine .inl ⟨c,s,rfl,rfl,?_⟩;rw[we];exact k (Go.id z) .bl_mk
   | [],e,rx=>cases e
   | _::_::_,e,rx=>cases e
  | _=>cases e
 | lst o l =>
  have b:(bif jdm x l then some (D.bl<|neg != inL x l) else none)=some d:=e;refine oc b λa b=>?_;cases b;unfold jdm at a;rw[M3] at a;obtain⟨p,g,w,rfl,h,i⟩:=f.lst_of;obtain⟨j,m,n⟩:=i.flat rx a.1 a.2;refine .inr ⟨p,g,rfl,.inl h.sq,j,m,?_⟩;rw[n,we];exact k (Go.id z) .bl_mk
 | tup l =>
  have b:(bif jdm x l then some (D.bl<|neg != inL x l) else none)=some d:=e;refine oc b λa b=>?_;cases b;unfold jdm at a;rw[M3] at a;obtain⟨p,g,rfl,h,i⟩:=f.tup_of;obtain⟨j,m,n⟩:=i.flat rx a.1 a.2;refine .inr ⟨p,g,rfl,.inr h,j,m,?_⟩;rw[n,we];exact k (Go.id z) .bl_mk
 | _=>cases e
def jd(x y:D):Option D:=match y with
 | .int i=>(match x with
  | .lst _ l=>atI l i
  | .tup l=>atI l i
  | .str s=>bif lim s.length then(atI s i).bind λc=>some (.str [c]) else none
  | _=>none)
 | _=>none
def Reps.atI(r:Reps R Z H l vs O)(e:L2.atI l i=some d):∃ v P,L2.atI vs i=some v/\Rep R Z H d v P:=by
 unfold L2.atI at e ⊢;rw[r.length];cases h:ixN l.length i with
 | none=>rw[h] at e;cases e
 | some j =>
  rw[h] at e;obtain⟨v,A,P,B,a,_,r1,_⟩:=r.at<|show l[j]?=some d from e;exact⟨v,P,a,r1⟩
def jmA:BO' R (rIx R.K) jd:=by
 intro Z H x y d v u n q z rx j e Q k;cases y with
 | int i =>
  obtain⟨rfl,_⟩:=j.int_of;cases x with
  | lst o l =>
   obtain⟨p,a,r,rfl,b,f⟩:=rx.lst_of;obtain⟨w,P,g,r1⟩:=f.atI e;exact .inl ⟨p,a,i,w,rfl,rfl,b.sq,g,k r1⟩
  | tup l =>
   obtain⟨p,a,rfl,b,f⟩:=rx.tup_of;obtain⟨w,P,g,r1⟩:=f.atI e;exact .inr<|.inl ⟨p,a,i,w,rfl,rfl,b,g,k r1⟩
  | str s =>
   obtain⟨rfl,_⟩:=rx.str_of;simp only[jd] at e;refine oc e λm e=>ob e λc h e=>?_;cases e;refine .inr<|.inr ⟨S s,i,c,rfl,rfl,by rw[YT];exact qK m,by rw[qL];exact h,?_⟩;rw[jhV];exact k .str_mk
  | _=>cases e
 | _=>cases e
abbrev OF:=Rh->Option (Option Int)
def PO'(R:RC)(t:TO)(p:OF):Prop:=∀{σ:St}{ρ:Rh}{Z:Zn}{H:Hp}{O:W5}{i:Option Int},Zd Z H->Slots R Z H ρ σ O->p ρ=some i ->
 ∀{Q:Option Int->Hp->Prop},(∀{Z':Zn}{H':Hp},Go Z H [] Z' H' []->Q i H')->t σ H Q
@[simp] def oN(ρ:Rh):Option (Option Int):=some none
@[simp] def oS(pa:PF)(ρ:Rh):Option (Option Int):=(pa ρ).bind λd=>(ve d).bind λi=>some<|some i
def jnJ:PO' R xg oN:=by
 intro σ ρ Z H O i z s e Q k;cases e;exact k<|Go.id z
def jnF(h:PB R te p):PO' R (jf9 te) (oS p):=by
 intro σ ρ Z H O i z s e Q k;refine ob e λx a e=>ob e λj e2 e=>?_;cases e;cases jD e2;refine h z s a λ{v c d f} b r1=>?_;obtain⟨rfl,_⟩:=r1.int_of;exact⟨j,rfl,k b⟩
def jc8(lo hi:Option Int):D->Option D
 | .str s=>bif lim s.length then some (.str<|j9 s lo hi) else none
 | .lst _ l=>bif frzs l then some (.lst true<|j9 l lo hi) else none
 | .tup l=>bif frzs l&&decide ((j9 l lo hi).length < l.length) then some (.tup<|j9 l lo hi) else none
 | _=>none
def jlY(K:W4):V->Option Int->Option Int->Hp->VK->Prop:=λx lo hi H Q=>jnl x lo hi H Q \/ jnh K x lo hi H Q \/ jnc K x lo hi H Q
def jno:SlR X (jlY X.K):=SlR.or jj4<|SlR.or jhS jjB
@[simp] def pSl(pa:PF)(pl:OF)(ph:OF)(ρ:Rh):Option D:=(pa ρ).bind λx=>(pl ρ).bind λlo=>(ph ρ).bind λhi=>jc8 lo hi x
def Reps.cut(r:Reps R Z H l vs [])(lo hi:Option Int):Reps R Z H (j9 l lo hi) (jfo vs lo hi) []:=by
 unfold j9 jfo;rw[r.length];exact(r.drop _).take _
def jlE(u:PB R te pa)(w:PO' R tl pl)(y:PO' R th ph):PP R (tSl (jlY R.K) te tl th) (pSl pa pl ph):=by
 intro σ ρ Z H O d z s e Q k;refine ob e λx A e=>ob e λlo e2 e=>ob e λhi e3 e=>?_;refine u z s A λ{v C D E} i r1=>?_;refine w i.wf.zd (i.slots z s) e2 λ{F G} g2=>?_;have f:=i.pair g2;refine y g2.wf.zd (f.slots z s) e3 λ{Z3 B} g3=>?_;have a:Go Z H [] Z3 B []:=f.pair g3;have m:=(g2.pair g3).rep i.wf.zd r1;cases x with
 | str t =>
  simp only[jc8] at e;refine oc e λc e=>?_;cases e;obtain⟨rfl,_⟩:=m.str_of;exact .inl ⟨t,rfl,qK c,k a .str_mk⟩
 | lst o l =>
  simp only[jc8] at e;refine oc e λc e=>?_;cases e;obtain⟨p,n,I,rfl,q,j⟩:=m.lst_of;have g:=g3.wf.zd;exact .inr<|.inl ⟨p,n,rfl,q.sq,λb h=>k (by simpa using a.pair (Go.newO (wf0 g) h))<|Rep.lstNew (wf0 g) h<|(j.frozen c).cut lo hi⟩
 | tup l =>
  simp only[jc8] at e;refine oc e λc e=>?_;cases e;simp only[M3,decide_eq_true_eq] at c;obtain⟨p,n,rfl,q,j⟩:=m.tup_of;have g:=g3.wf.zd;refine .inr<|.inr ⟨p,n,rfl,q,?_,λb h=>k (by simpa using a.pair (Go.newF (wf0 g) h))<|Rep.tupNew (wf0 g) h<|(j.frozen c.1).cut lo hi⟩;rintro⟨w1,w2⟩;have r:=c.2;unfold j9 at r;rw[j.length] at w1 w2;rw[w1,w2,List.drop_zero,Nat.sub_zero,List.take_length] at r;exact absurd r<|Nat.lt_irrefl _
 | _=>cases e
def jns:D->Option D
 | .lst _ l=>some<|.int l.length
 | .tup l=>some<|.int l.length
 | .str s=>bif lim s.length then some (.int s.length) else none
 | _=>none
def JJ(l:List D):Option D:=(je4 l).bind jns
def jjh:BC R (λxs H Q=>∃ x n,xs=[x]/\jm6 R.K x H n/\Q (.int n) H) JJ:=by
 intro Z H xs d g O z r e Q k;refine ob e λx c e=>?_;rw[qP c] at r;obtain⟨v,rfl,r1⟩:=r.one_of;cases x with
 | lst o l =>
  cases e;obtain⟨p,ws,h,rfl,a,b⟩:=r1.lst_of;exact⟨_,_,rfl,.inl ⟨ws,a.sq,rfl⟩,by rw[b.length];exact k (Go.id z) .int_mk⟩
 | tup l =>
  cases e;obtain⟨p,ws,rfl,a,b⟩:=r1.tup_of;exact⟨_,_,rfl,.inr ⟨ws,a,rfl⟩,by rw[b.length];exact k (Go.id z) .int_mk⟩
 | str s =>
  refine oc e λf e=>?_;cases e;obtain⟨rfl,_⟩:=r1.str_of;exact⟨_,_,rfl,⟨by rw[YT];exact qK f,rfl⟩,by rw[YT];exact k (Go.id z) .int_mk⟩
 | _=>cases e
noncomputable def Jt:List D->Option (List Int)
 | []=>some []
 | d::l=>match d with
  | .int i=>((Jt l).bind λr=>some<|i::r)
  | _=>none
def Reps.ints:∀{l:List D}{vs:List V}{O:W5}{ns:List Int},Reps R Z H l vs O->Jt l=some ns->vs=ns.map V.int:=by
 intro l
 induction l with
 | nil=>intro vs O ns h e;rw[Reps] at h;cases e;exact h.1
 | cons d l a =>
  intro vs O ns h e;rw[Reps] at h;obtain⟨v,vs,c,f,rfl,rfl,r1,r2⟩:=h;cases d with
  | int i =>
   refine ob e λr b e=>?_;cases e;rw[a r2 b,r1.int_of.1];rfl
  | _=>cases e
def K2(l:List D):Option D:=(je4 l).bind λx=>(jdd x).bind λl=>(Jt l).bind λns=>some<|.int ns.sum
def jkn:BC R (λxs H Q=>∃(p:Addr) (ns:List Int),xs=[.ref p]/\SqL R.K H p (ns.map V.int)/\Q (.int ns.sum) H) K2:=by
 intro Z H xs d h O z r e Q k;refine ob e λx a e=>ob e λl b e=>ob e λns c e=>?_;cases e;obtain⟨o,rfl⟩:=k8 b;rw[qP a] at r;obtain⟨v,rfl,r1⟩:=r.one_of;obtain⟨p,ws,i,rfl,f,g⟩:=r1.lst_of;have:=g.ints c;subst this;exact⟨p,ns,rfl,f.sq,k (Go.id z) .int_mk⟩
def f2I(g:Int->Int->Int)(l:List D):Option D:=(two1 l).bind λp=>two (λi j=>some<|.int<|g i j) p.1 p.2
def jla:BC R (λxs H Q=>∃ i j,xs=[.int i,.int j]/\Q (.int<|g i j) H) (f2I g):=by
 intro Z H xs d b O z r e Q k;refine ob e λp a e=>?_;obtain⟨i,j,e2,e3,e⟩:=two_of e;cases e;rw[two1_of a,e2,e3] at r;obtain⟨v,u,c,f,rfl,_,r1,r2⟩:=r.two_of;obtain⟨rfl,_⟩:=r1.int_of;obtain⟨rfl,_⟩:=r2.int_of;exact⟨i,j,rfl,k (Go.id z) .int_mk⟩
abbrev jkF:List D->Option D:=f2I λi j=>if j > i then j else i
abbrev uR:List D->Option D:=f2I λi j=>if j < i then j else i
def jnr:D->Option D
 | .lst _ l=>bif frzs l then some (.lst true l) else none
 | .tup l=>bif frzs l then some (.lst true l) else none
 | _=>none
def J9(l:List D):Option D:=(je4 l).bind jnr
def zp(l:List D):Option D:=(je4 l).bind λx=>(jdd x).bind λl=>bif frzs l then some (.tup l) else none
def jgQ:BC R (λxs H Q=>∃ p ys,xs=[.ref p]/\(SqL R.K H p ys \/ SqT R.K H p ys)/\∀ l,H l=none->Q (.ref l) (upd H l<|.lst ys)) J9:=by
 intro Z H xs d i O z r e Q k;refine ob e λx h e=>?_;rw[qP h] at r;obtain⟨v,rfl,r1⟩:=r.one_of;cases x with
 | lst o l =>
  refine oc e λc e=>?_;cases e;obtain⟨p,ws,j,rfl,f,g⟩:=r1.lst_of;exact⟨p,ws,rfl,.inl f.sq,λb a=>k (Go.newO (wf0 z) a)<|Rep.lstNew (wf0 z) a<|g.frozen c⟩
 | tup l =>
  refine oc e λc e=>?_;cases e;obtain⟨p,ws,rfl,f,g⟩:=r1.tup_of;exact⟨p,ws,rfl,.inr f,λb a=>k (Go.newO (wf0 z) a)<|Rep.lstNew (wf0 z) a<|g.frozen c⟩
 | _=>cases e
def jdZ:BC R (λxs H Q=>∃ p ys,xs=[.ref p]/\((SqL R.K H p ys/\∀ l,H l=none->Q (.ref l) (upd H l<|.tup ys)) \/ (SqT R.K H p ys/\Q (.ref p) H))) zp:=by
 intro Z H xs d j O z r e Q k;refine ob e λx c e=>ob e λl f e=>oc e λg e=>?_;cases e;obtain⟨o,rfl⟩:=k8 f;rw[qP c] at r;obtain⟨v,rfl,r1⟩:=r.one_of;obtain⟨p,ws,m,rfl,h,i⟩:=r1.lst_of;exact⟨p,ws,rfl,.inl ⟨h.sq,λb a=>k (Go.newF (wf0 z) a)<|Rep.tupNew (wf0 z) a<|i.frozen g⟩⟩
noncomputable def tyD:D->Option String
 | .non=>some "NoneType" | .bl _=>some "bool" | .int _=>some "int" | .str _=>some "str" | .tup _=>some "tuple" | .lst _ _=>some "list"
 | .dK true _ _=>some "dict"
 | _=>none
noncomputable def jmK(t T:String):Bool:=t==T||(t=="bool"&&T=="int")
@[simp] def pIsI(T:String)(pa:PF)(ρ:Rh):Option D:=(pa ρ).bind λd=>(tyD d).bind λt=>some<|.bl<|jmK t T
noncomputable def jJ:Nat->List D->List D
 | _,[]=>[]
 | k,x::l=>.tup [.int k,x]::jJ (k+1) l
theorem yC:∀(k:Nat) (l:List D),(jJ k l).length=l.length
 | _,[]=>rfl
 | k,x::l=>by rw[jJ,M4,M4,yC]
theorem QX:∀(k:Nat) (l:List D) (i:Nat) (y:D),(jJ k l)[i]?=some y->∃ x,l[i]?=some x/\y=.tup [.int ((k+i:Nat):Int),x]
 | _,[],_,_,e=>by simp[jJ] at e
 | k,x::l,0,y,e=>by simp[jJ] at e;exact⟨x,rfl,e.symm⟩
 | k,x::l,i+1,y,e=>by
  obtain⟨z,a,e2⟩:=QX (k+1) l i y (by simpa [jJ] using e);exact⟨z,by simpa using a,by rw[e2];congr 3;lia⟩
noncomputable def Vo:List D->List D->List D
 | x::l,y::m=>.tup [x,y]::Vo l m
 | _,_=>[]
theorem um:∀(l m:List D),(Vo l m).length=min l.length m.length
 | [],_=>by simp[Vo]
 | _::_,[]=>by simp[Vo]
 | x::l,y::m=>by rw[Vo,M4,um];simp
theorem uj:∀(l m:List D) (i:Nat) (y:D),(Vo l m)[i]?=some y->∃ a b,l[i]?=some a/\m[i]?=some b/\y=.tup [a,b]
 | [],_,_,_,e=>by simp[Vo] at e
 | _::_,[],_,_,e=>by simp[Vo] at e
 | x::l,z::m,0,y,e=>by simp[Vo] at e;exact⟨x,z,rfl,rfl,e.symm⟩
 | x::l,z::m,i+1,y,e=>by
  obtain⟨a,b,c,e2,e3⟩:=uj l m i y (by simpa [Vo] using e);exact⟨a,b,by simpa using c,by simpa using e2,e3⟩
def je8(l:List D):Option (List D):=(je4 l).bind λx=>(jdd x).bind λl=>some<|jJ 0<|fzs l
def jiw(l:List D):Option (List D):=(two1 l).bind λx=>(jdd x.1).bind λl=>(jdd x.2).bind λm=>some<|Vo (fzs l)<|fzs m
@[simp] def Jb(p:PAf)(ρ:Rh):Option (List D):=(p ρ).bind je8
@[simp] def jir(p:PAf)(ρ:Rh):Option (List D):=(p ρ).bind jiw
def Kx(z:Zd Z H)(b:H p=none)(r1:Rep R Z H x u [])(r2:Rep R Z H y v []):Rep R (λa=>Z a \/ a=p) (upd H p<|.tup [u,v]) (.tup [x,y]) (.ref p) [] :=
 Rep.tupNew (wf0 z) b (.cons r1<|.cons r2 .empty)
def jeR(h:PPs R ta p):PIt R (jg8 R.K ta) (Jb p):=by
 intro σ ρ Z H O N z s e Q k;refine ob e λx A e=>ob e λy e2 e=>ob e λl e3 e=>?_;cases e;obtain⟨o,rfl⟩:=k8 e3;cases qP e2;refine h z s A λ{P B S C} D r1=>?_;obtain⟨v,rfl,r2⟩:=r1.one_of;have f:=r2.freeze (Z':=λa=>B a \/ a∈C) (λa z=>.inl z) λa z=>.inr z;rw[fz,Rep] at f;obtain⟨a,ws,T,rfl,E,g,rfl,_⟩:=f;refine⟨a,ws,rfl,FL.sq g,k D.fz ?_⟩;intro F G j m zd i;have b:=(g.frame j m).sq;have n:Reps R F G (fzs l) ws []:=E.frame j m λa I=>(nomatch I);refine⟨λhi=>⟨ws,b,by rw[n.length];rw[yC] at hi;exact hi⟩,λx J=>?_⟩;obtain⟨y,L,rfl⟩:=QX 0 _ i x J;obtain⟨u,r,M⟩:=n.item L;refine⟨⟨ws,u,b,r⟩,λw U c=>?_⟩;obtain⟨q,V,d,rfl,t,rfl⟩:=c;have:=d ws b;rw[r] at this;cases this;refine⟨_,Go.newF (wf0 zd) t,?_⟩;have:=Kx (R:=R) (x:=.int i) (u:=.int i) zd t .int_mk M;simpa using this
def jhJ(h:PPs R ta p):PIt R (jmO R.K ta) (jir p):=by
 intro σ ρ Z H O xs z s e Q k;refine ob e λx n e=>ob e λ⟨y,Y⟩ e2 e=>ob e λl e3 e=>ob e λm e4 e=>?_;cases e;obtain⟨o,rfl⟩:=k8 e3;obtain⟨o2,rfl⟩:=k8 e4;cases two1_of e2;refine h z s n λ{vs L H1 P1} g1 r1=>?_;obtain⟨v,v2,M,N,rfl,rfl,r2,B⟩:=r1.two_of;have P:=r2.freeze (Z':=λa=>L a \/ a∈M++N) (λa z=>.inl z) λa z=>.inr<|List.mem_append_left _ z;have d:=B.freeze (Z':=λa=>L a \/ a∈M++N) (λa z=>.inl z) λa z=>.inr<|U4 _ z;rw[fz,Rep] at P d;obtain⟨a,ws,O',rfl,rs,S,rfl,_⟩:=P;obtain⟨a',b,O'',rfl,C,f,rfl,_⟩:=d;refine⟨a,a',ws,b,rfl,FL.sq S,FL.sq f,k g1.fz ?_⟩;intro T U r A zd i;have D:=(S.frame r A).sq;have c:=(f.frame r A).sq;have V:Reps R T U (fzs l) ws []:=rs.frame r A λa E=>(nomatch E);have g:Reps R T U (fzs m) b []:=C.frame r A λa E=>(nomatch E);refine⟨λhi=>⟨ws,b,D,c,by rw[V.length,g.length];rw[um] at hi;exact hi⟩,λx hx=>?_⟩;obtain⟨y,Y,hy,F,rfl⟩:=uj _ _ i x hx;obtain⟨u,W,ru⟩:=V.item hy;obtain⟨u',j,G⟩:=g.item F;refine⟨⟨ws,b,u,u',D,c,W,j⟩,λw H3 I=>?_⟩;obtain⟨q,t,t',ht,J,rfl,X,rfl⟩:=I;have n:=ht ws D;rw[W] at n;cases n;have e2:=J b c;rw[j] at e2;cases e2;exact⟨_,Go.newF (wf0 zd) X,Kx zd X ru G⟩
def jfr(h:ixN n i=some j):j < n:=(zO h).2.1
@[simp] def gIx(pm:List Nat)(i:Nat)(pi:PF)(d:D)(ρ:Rh):Option Rh:=(pi ρ).bind λk=>(ve k).bind λk=>(pV i ρ).bind λx=>(QZ x).bind λl=>(ixN l.length k).bind λj=>some<|ρ.set i<|some<|.lst true<|l.set j d
def jcS(rs:Reps R Z H l vs O)(a:j < l.length)(rd:Rep R Z H d u P):∃ O2,Reps R Z H (l.set j d) (vs.set j u) O2/\∀ q,O2.count q<=O.count q+P.count q:=by
 obtain⟨b,c,e,f,g,rfl,h,put⟩:=rs.at (show l[j]?=some l[j] by simp[a]);exact⟨_,put rd (λ_ z=>z) (λ_ _=>rfl) (λ_ _=>rfl)<|λ_ _=>rfl,λq=>by simp only[U9];lia⟩
def jlL(h:PB R te pi):DG R pm (jme (jV i) te jaX) (gIx pm i pi):=by
 intro σ ρ A Z H O P d v w r s e Q k;refine ob e λx f e=>ob e λn e3 e=>ob e λy g e=>ob e λl m e=>ob e λj e2 e=>?_;cases e;cases jD e3;cases Jr m;refine kE kQ w s g rfl qH λa _ o B c _ ea p put=>p<|h w.zd s f λ{u C D E} b r1=>?_;obtain⟨rfl,_⟩:=r1.int_of;obtain⟨F,r2,t⟩:=jcS (b.reps w.zd c) (jfr e2)<|b.rep w.zd r;obtain⟨G,g3,z⟩:=put qH trivial b r2 λq=>by have:=t q;simp;lia
 exact⟨a,o,n,j,rfl,rfl,b.at0 ea,by rw[c.length];exact e2,k g3 z<|Keep.refl _ _⟩
@[simp] def zc(i:Nat)(pi:PF)(g:Int->Int->Int)(pe:PF)(ρ:Rh):Option Out:=(pi ρ).bind λk=>(ve k).bind λk=>(pV i ρ).bind λx=>(QZ x).bind λl=>(ixN l.length k).bind λj=>(l[j]?).bind λy=>(ve y).bind λa=>(pe ρ).bind λz=>(ve z).bind λb=>some<|.nx<|ρ.set i<|some<|.lst true<|l.set j<|.int<|g a b
def jeN(hi:PB R ti pi)(p:PB R te pe):DS R pm (jhD (jV i) ti te (jjm R.K) (ipI g) jaX) (zc i pi g pe):=by
 intro σ ρ Z H O o w s e F k;refine ob e λc1 r e=>ob e λn t e=>ob e λh v e=>ob e λl e5 e=>ob e λj e2 e=>ob e λG z e=>ob e λx A e=>ob e λI e3 e=>ob e λy e7 e=>?_;cases e;cases jD t;cases Jr e5;cases jD A;cases jD e7;refine kE (P0:=[]) kQ w s v rfl qH λa _ m J d _ ea B put=>B<|hi w.zd s r λ{u L M N} c r1=>?_;obtain⟨rfl,_⟩:=r1.int_of;obtain⟨P,Q,f,r2⟩:=d.atI (show L2.atI l n=some (.int x) by unfold L2.atI;rw[e2];exact z);obtain⟨rfl,_⟩:=r2.int_of;refine⟨a,m,n,.int x,rfl,rfl,SqL.of<|c.at0 ea,f,p c.wf.zd (c.slots w.zd s) e3 λ{S Z3 T U} g3 C=>?_⟩;obtain⟨rfl,_⟩:=C.int_of;have b:=c.pair g3;obtain⟨V,D,h⟩:=jcS (b.reps w.zd d) (jfr e2)<|Rep.int_mk (i:=g x y);obtain⟨W,g4,E⟩:=put qH trivial b D λq=>by have:=h q;simp at this ⊢;lia
 exact⟨x,y,rfl,rfl,a,m,n,j,rfl,rfl,b.at0 ea,by rw[d.length];exact e2,k g4 E<|Keep.refl _ _⟩
end QD
namespace QD
open PySem L2 PySem.Spec PyProof.Rows
section
variable (c:Nat->Addr)(pm:List Nat)(X:Cx)
structure QP(e:Expr)(te:TE)(p:PF):Prop where
 sem:PE X e te
 den:PP ⟨X.K,c⟩ te p
structure QB(e:Expr)(te:TE)(p:PF):Prop where
 sem:PE X e te
 den:PB ⟨X.K,c⟩ te p
structure QPs(es:List Expr)(ta:TA)(p:PAf):Prop where
 sem:PA X es ta
 den:PPs ⟨X.K,c⟩ ta p
structure QBs(es:List Expr)(ta:TA)(p:PAf):Prop where
 sem:PA X es ta
 den:PBs ⟨X.K,c⟩ ta p
 n:∀ ρ ds,p ρ=some ds->ds.length=es.length
structure QT(e:Expr)(tt:TT)(q:PTf):Prop where
 sem:PT X e tt
 den:PTt ⟨X.K,c⟩ tt q
structure QW(e:Expr)(tt:TT)(q:PTf):Prop where
 sem:PW X e tt
 den:PTt ⟨X.K,c⟩ tt q
structure QI(tg e:Expr)(wi:TI)(p:PAf):Prop where
 sem:PI X tg e wi
 den:PIt ⟨X.K,c⟩ wi p
structure QG(tg:Expr)(t:TG)(g:D->Rh->Option Rh):Prop where
 sem:PG X tg t
 den:PGt ⟨X.K,c⟩ pm t g
structure QGs(tg:List Expr)(t:TGs)(g:List D->Rh->Option Rh):Prop where
 sem:PGs X tg t
 den:jjT ⟨X.K,c⟩ pm t g
structure QE(e:Expr)(te:TE)(f:FE):Prop where
 sem:PE X e te
 den:DE ⟨X.K,c⟩ te f
structure QS(st:Stmt)(ts:TS)(f:FS):Prop where
 sem:PS X st ts
 den:DS ⟨X.K,c⟩ pm ts f
structure QSs(st:List Stmt)(ts:TS)(f:FS):Prop where
 sem:PSs X st ts
 den:DS ⟨X.K,c⟩ pm ts f
structure QO(e:Option Expr)(t:TO)(p:OF):Prop where
 sem:PO X e t
 den:PO' ⟨X.K,c⟩ t p
structure QIf(ifs:List Expr)(tc:TT)(q:PTf):Prop where
 sem:PIf X ifs tc
 den:PTt ⟨X.K,c⟩ tc q
end
section
variable {cl:Nat->Addr}{pm:List Nat}{X:Cx}{a b c e o:Expr}{es:List Expr}{ta tb tc te:TE}{pa pb pc pe:PF}{tA tB:TT}{qa qb:PTf}{tr:TA}{pr:PAf}{pos:Pos}
def QP.bb(h:QP cl X e te pe):QB cl X e te pe:=⟨h.sem,PP.b h.den⟩
def QB.f(h:QB cl X e te pe):QP cl X e te (pF pe):=⟨h.sem,PB.f h.den⟩
def QP.d(h:QP cl X e te pe):QE cl X e te (dP pe):=⟨h.sem,PP.d h.den⟩
def jmT(i:Nat){x:Str}(b:X.N[i]?=some x:=by rfl)(c:Vis X.env.scope x:=by first | exact Or.inl rfl | exact Or.inr (Or.inl rfl) | exact Or.inr<|Or.inr rfl)(hd:(x==("__debug__" : Str))=false:=by decide)
  (a:(x==("__classdict__" : Str))=false:=by decide):QB cl X (.Name x pos) (jV i) (pV i):=⟨jfB b c hd a,jka⟩
def jnu(i:Nat){x:Str}(b:X.N[i]?=some x:=by rfl)(c:Vis X.env.scope x:=by first | exact Or.inl rfl | exact Or.inr (Or.inl rfl) | exact Or.inr<|Or.inr rfl)(hd:(x==("__debug__" : Str))=false:=by decide)
  (a:(x==("__classdict__" : Str))=false:=by decide):QE cl X (.Name x pos) (jV i) (dMv i):=⟨jfB b c hd a,jl7⟩
def jlc{i:Int}{j}:QP cl X (.Constant (.int i) j pos) (tC<|.int i) (pC<|.int i):=⟨jkQ,jlm λ_ _=>.int_mk⟩
def jnD{i:Bool}{j}:QP cl X (.Constant (.bool i) j pos) (tC<|.bl i) (pC<|.bl i):=⟨jl2,jlm λ_ _=>.bl_mk⟩
def jlq{j}:QP cl X (.Constant .none j pos) (tC .non) (pC .non):=⟨jk5,jlm λ_ _=>.non_mk⟩
def jlr{x:Str}{j}(l:List Nat)(h:x=S l):QP cl X (.Constant (.str x) j pos) (tC<|.str x) (pC<|.str l):=⟨jkx,by subst h;exact jlm λ_ _=>.str_mk⟩
def jkv(c:QB cl X a ta pa)(d:QB cl X b tb pb):QP cl X (.BinOp a .Add b pos) (tOp (jdh X.K) ta tb) (p2 jf pa pb):=⟨jac jht c.sem d.sem,zB jjx c.den d.den⟩
def jlG(c:QB cl X a ta pa)(d:QB cl X b tb pb):QP cl X (.BinOp a .Sub b pos) (tOp (rI0 λi j=>.int<|i - j) ta tb) (p2 JO pa pb):=⟨jac jiM c.sem d.sem,zB jkZ c.den d.den⟩
def jm0(c:QB cl X a ta pa)(d:QB cl X b tb pb):QP cl X (.BinOp a .Mult b pos) (tOp jhc ta tb) (p2 yb pa pb):=⟨jac jfS c.sem d.sem,zB jjM c.den d.den⟩
def jmt(c:QB cl X a ta pa)(d:QB cl X b tb pb):QP cl X (.BinOp a .FloorDiv b pos) (tOp (rI (λ_ j=>uP j=true) λi j=>.int<|i / j) ta tb) (p2 Yo pa pb):=⟨jac jeS c.sem d.sem,zB jk4 c.den d.den⟩
def jmM(c:QB cl X a ta pa)(d:QB cl X b tb pb):QP cl X (.BinOp a .Mod b pos) (tOp (rI (λ_ j=>0 < j) λi j=>.int<|i % j) ta tb) (p2 Ji pa pb):=⟨jac jiz c.sem d.sem,zB jkN c.den d.den⟩
def jmn(c:QB cl X a ta pa)(d:QB cl X b tb pb):QP cl X (.BinOp a .Pow b pos) (tOp (rI jma λi j=>.int<|i ^ j.toNat) ta tb) (p2 Vr pa pb):=⟨jac jjH c.sem d.sem,zB jiD c.den d.den⟩
def jlB(b:QB cl X a ta pa):QP cl X (.UnaryOp .USub a pos) (tUn (rU λi=>.int<|-i) ta) (p1 xK pa):=⟨jmX jkX b.sem,jmY jkS b.den⟩
structure CmpR(cl:Nat->Addr)(X:Cx)(op:CmpOp)(b:Expr)(r:R2)(g:D->D->Option D):Prop where
 o:OpR X (compareOp op) r
 g:BO ⟨X.K,cl⟩ r g
 m:behindInMarks op b=false
def jnA:CmpR cl X .Lt b (rI0 λi j=>.bl<|decide<|i < j) jfO:=⟨jmr,jlj,VL _⟩
def jnN:CmpR cl X .LtE b (rI0 λi j=>.bl<|decide<|i<=j) jlS:=⟨jmJ,jlj,VL _⟩
def jnH:CmpR cl X .Gt b (rI0 λi j=>.bl<|decide<|j < i) Vk:=⟨jlx,jlj,VL _⟩
def jnp:CmpR cl X .GtE b (rI0 λi j=>.bl<|decide<|j<=i) jlW:=⟨jl9,jlj,VL _⟩
def jnI(a:behindInMarks .In b=false):CmpR cl X .In b (jiv X.K false) (zI false):=⟨jj7,jj2,a⟩
def c_notin(a:behindInMarks .NotIn b=false):CmpR cl X .NotIn b (jiv X.K true) (zI true):=⟨jaM,jj2,a⟩
def jlI{c:CmpOp}{r:R2}{g:D->D->Option D}(h:CmpR cl X c b r g)(d:QB cl X a ta pa)(e:QB cl X b tb pb):QP cl X (.Compare a [c] [b] pos) (tOp r ta tb) (p2 g pa pb):=⟨jfW h.o d.sem e.sem h.m,zB h.g d.den e.den⟩
def jjS{c:CmpOp}{r:R2}{g:D->D->Option D}(h:CmpR cl X c b r g)(d:QB cl X a ta pa)(e:QB cl X b tb pb):QT cl X (.Compare a [c] [b] pos) (YK<|tOp r ta tb) (jl<|p2 g pa pb):=⟨jil h.o d.sem e.sem h.m,xx<|PP.b<|zB h.g d.den e.den⟩
def jdz{e d:CmpOp}{r f:R2}{g g':D->D->Option D}(h:CmpR cl X e b r g)(h':CmpR cl X d c f g')(i:QB cl X a ta pa)(j:QB cl X b tb pb)(k:QB cl X c tc pc)(l:lastMarks [e,d] [b,c]=false:=by with_unfolding_all rfl) :
  QT cl X (.Compare a [e,d] [b,c] pos) (YK<|jbZ r f ta tb tc) (jl<|jcy g g' pa pb pc):=⟨jdT h.o h'.o i.sem j.sem k.sem l,xx<|PP.b<|jeL h.g h'.g i.den j.den k.den⟩
def jkD(b:QB cl X a ta pa)(c:∀ whole,isTrue a X.env whole=(do let v <- whole;standAt a.pos;holding [v] (truthy v)):=by intro _;rfl):QT cl X a (L2.tB ta) (jl pa):=⟨jjI b.sem c,xx b.den⟩
def jk6(b:QT cl X a tA qa):QT cl X (.UnaryOp .Not a pos) (jl1 tA) (jlk qa):=⟨jjd b.sem,jhu b.den⟩
def jhe(b:QT cl X a tA qa):QW cl X (.BoolOp .And [a] pos) tA qa:=⟨jgu b.sem,b.den⟩
def jjR(b:QT cl X a tA qa):QW cl X (.BoolOp .Or [a] pos) tA qa:=⟨ji0 b.sem,b.den⟩
def jj5(c:QT cl X a tA qa)(d:QW cl X (.BoolOp .And (b::es) pos) tB qb):QW cl X (.BoolOp .And (a::b::es) pos) (jmy tA tB) (jaf qa qb):=⟨jjO c.sem d.sem,jjY c.den d.den⟩
def jlF(c:QT cl X a tA qa)(d:QW cl X (.BoolOp .Or (b::es) pos) tB qb):QW cl X (.BoolOp .Or (a::b::es) pos) (tOr tA tB) (qOr qa qb):=⟨jmm c.sem d.sem,jmo c.den d.den⟩
def QW.t(h:QW cl X a tA qa):QT cl X a tA qa:=⟨PW.pt h.sem,h.den⟩
def jmH{op}(h:QP cl X a ta pa):QP cl X (.BoolOp op [a] pos) ta pa:=⟨jky h.sem,h.den⟩
def jmV(c:QB cl X a ta pa)(d:QP cl X (.BoolOp .And (b::es) pos) tb pb):QP cl X (.BoolOp .And (a::b::es) pos) (jgW ta tb) (jlf pa pb):=⟨jji c.sem d.sem,jjZ c.den d.den⟩
def jnP(d:QT cl X c tA qa)(e:QP cl X a ta pa)(f:QP cl X b tb pb):QP cl X (.IfExp c a b pos) (tIf tA ta tb) (pIf qa pa pb):=⟨jd0 d.sem e.sem f.sem,jlC d.den e.den f.den⟩
def jk1:QPs cl X [] JY pN:=⟨vX,pps_nil⟩
def jhk(a:QP cl X e te pe)(b:QPs cl X es tr pr)(c:starEach (e::es) X.env=(false,eval e X.env)::starEach es X.env:=by rfl):QPs cl X (e::es) (jB te tr) (ja pe pr):=⟨jI a.sem b.sem c,jeK a.den b.den⟩
def jk8:QBs cl X [] JY pN:=⟨vX,jfT,λρ a e=>by cases e;rfl⟩
def jgA(b:QB cl X e te pe)(a:QBs cl X es tr pr)(c:starEach (e::es) X.env=(false,eval e X.env)::starEach es X.env:=by rfl):QBs cl X (e::es) (jB te tr) (ja pe pr) :=
 ⟨jI b.sem a.sem c,jd1 b.den a.den,λρ f h=>by
  refine ob h λx g h=>ob h λd e2 h=>?_;cases h;rw[M4,M4,a.n ρ d e2]⟩
def jmW{x1}(h:QPs cl X es tr pr):QP cl X (.Tuple es x1 pos) (VN tr) (yg pr):=⟨Jx h.sem,jjP h.den⟩
def jms(h:QPs cl X es tr pr):QP cl X (.List es pos) (jlw tr) (JV pr):=⟨jkq h.sem,jjb h.den⟩
def jnj(c:QB cl X a ta pa)(d:QB cl X b tb pb)(e:xG b:=by exact λ_ _=>rfl):QB cl X (.Subscript a b pos) (tOp (rIx X.K) ta tb) (p2 jd pa pb):=⟨jlM jjc c.sem d.sem e,jlZ jmA c.den d.den⟩
def jf3:QO cl X none xg oN:=⟨jhh,jnJ⟩
def jhM(h:QB cl X e te pe):QO cl X (some e) (jf9 te) (oS pe):=⟨jho h.sem,jnF h.den⟩
def jnO{lo hi:Option Expr}{tl th:TO}{pl c:OF}{b:Pos}(d:QB cl X a ta pa)(e:QO cl X lo tl pl)(f:QO cl X hi th c):QP cl X (.Subscript a (.Slice lo hi none b) pos) (tSl (jlY X.K) ta tl th) (pSl pa pl c) :=
 ⟨jdU jno d.sem e.sem f.sem,jlE d.den e.den f.den⟩
def OkF(P:Program)(w:World)(K:W4)(mg:W6)(x:Str)(st:Stmt)(k:Nat)(ps:List Str)(sp:Sp):Prop:=∃ f fd,FnFact K mg x x st f fd ps/\∀ base,FnOk P w K mg base CX0 k f fd ps sp
def jfj{k n:Nat}{ps:List Str}{m:List D->Option D}{x:Str}{st:Stmt}{p:Pos}(O:OkF X.prog X.w X.K X.mg x st k ps<|spP ⟨X.K,cl⟩ m n)(d:Room k X.A)
  (a:QBs cl X (e::es) tr pr) (f:(e::es).length=n:=by rfl) (g:Gl X x:=by rfl) (b:(x==("__debug__" : Str))=false:=by decide)
  (i:starEach (e::es) X.env=(false,eval e X.env)::starEach es X.env:=by rfl) (c:(backTo pos<|starEach es X.env).any (·.1)=false:=by rfl):QP cl X (.Call (.Name x p) (e::es) [] pos) (xj (spP ⟨X.K,cl⟩ m n) [] E0 tr) (jn m pr):=by
 obtain⟨_,_,F,G⟩:=O;exact⟨jkr F (G _) d a.sem g b i c,jhg a.den λρ j h=>(a.n ρ j h).trans f⟩
def K0{x:Str}{p:Pos}{id:String}{r:List V->Hp->VK->Prop}{g:List D->Option D}(d:qZ X (.builtin id) r)(f:BC ⟨X.K,cl⟩ r g)(h:X.mg x=none)(i:bootBuiltins x=some (.builtin id))(c:QBs cl X (e::es) tr pr)(j:Gl X x:=by rfl)
  (k:x≠"__name__":=by decide) (a:(x==("__debug__" : Str))=false:=by decide) (l:starEach (e::es) X.env=(false,eval e X.env)::starEach es X.env:=by rfl) (b:(backTo pos<|starEach es X.env).any (·.1)=false:=by rfl) :
  QP cl X (.Call (.Name x p) (e::es) [] pos) (tCB r tr) (pCB g pr):=⟨uh d j h i c.sem k a l b,jkg f c.den⟩
def KO{x:Str}{p:Pos}{T:String}{r:List V->Hp->VK->Prop}{g:List D->Option D}(d:qZ X (.type T) r)(f:BC ⟨X.K,cl⟩ r g)(h:X.mg x=none)(i:bootBuiltins x=some (.type T))(c:QBs cl X (e::es) tr pr)(j:Gl X x:=by rfl)
  (k:x≠"__name__":=by decide) (a:(x==("__debug__" : Str))=false:=by decide) (l:starEach (e::es) X.env=(false,eval e X.env)::starEach es X.env:=by rfl) (b:(backTo pos<|starEach es X.env).any (·.1)=false:=by rfl) :
  QP cl X (.Call (.Name x p) (e::es) [] pos) (tCB r tr) (pCB g pr):=⟨zC d j h i c.sem k a l b,jkg f c.den⟩
def jmU(b:X.mg "len" = none){p:Pos}(c:QBs cl X [e] tr pr)(d:Gl X "len":=by rfl)(f:starEach [e] X.env=(false,eval e X.env)::starEach [] X.env:=by rfl)(a:(backTo pos<|starEach [] X.env).any (·.1)=false:=by rfl) :
  QP cl X (.Call (.Name "len" p) [e] [] pos) (tCB (λxs H Q=>∃ x n,xs=[x]/\jm6 X.K x H n/\Q (.int n) H) tr) (pCB JJ pr):=K0 jeI jjh b PySem.boot_len c d (by decide) (by decide) f a
def Qf:bootBuiltins "sum" = some (.builtin "sum"):=by decide +kernel
def jbh:bootBuiltins "max" = some (.builtin "max"):=by decide +kernel
def jbS:bootBuiltins "min" = some (.builtin "min"):=by decide +kernel
def jb3:bootBuiltins "int" = some (.type "int"):=by decide +kernel
def Vy:bootBuiltins "list" = some (.type "list"):=by decide +kernel
def xl:bootBuiltins "tuple" = some (.type "tuple"):=by decide +kernel
def uL:bootBuiltins "dict" = some (.type "dict"):=by decide +kernel
variable {tg iter elt:Expr}{ifs:List Expr}{wi:TI}{pi:PAf}{t:TG}{g:D->Rh->Option Rh}
def jkd(h:QP cl X e te pe):QI cl X tg e (jkc X.K te) (pIt pe):=⟨jfq h.sem,jlt h.den⟩
def jhZ{p:Pos}(b:X.mg "range" = none)(h:QBs cl X [a] tr pr)(c:Gl X "range":=by rfl)(d:starEach [a] X.env=[(false,eval a X.env)]:=by rfl):QI cl X tg (.Call (.Name "range" p) [a] [] pos) (jgO tr) (Kv pr):=⟨ja2 c b h.sem d,jim h.den⟩
def jhy{b:List Expr}{n:Nat}{tpos p:Pos}(c:X.mg "enumerate" = none)(h:QPs cl X [a] tr pr)(d:Gl X "enumerate":=by rfl)(e:starEach [a] X.env=[(false,eval a X.env)]:=by rfl):QI cl X (.Tuple b n tpos) (.Call (.Name "enumerate" p) [a] [] pos) (jg8 X.K tr) (Jb pr):=⟨jgz d c h.sem e,jeR h.den⟩
def jj3{c:List Expr}{n:Nat}{tpos p:Pos}(e:X.mg "zip" = none)(h:QPs cl X [a,b] tr pr)(f:Gl X "zip":=by rfl)(g:starEach [a,b] X.env=[(false,eval a X.env),(false,eval b X.env)]:=by rfl)(d:starEach [b] X.env=[(false,eval b X.env)]:=by rfl) :
  QI cl X (.Tuple c n tpos) (.Call (.Name "zip" p) [a,b] [] pos) (jmO X.K tr) (jir pr):=⟨jiN f e h.sem g d,jhJ h.den⟩
def jgC{i:Nat}{x:Str}(a:X.N.Nodup)(hi:X.N[i]?=some x:=by rfl)(b:Loc X.env.scope x:=by first | exact Or.inl rfl | exact Or.inr rfl)(c:X.fn x=true \/ X.env.scope.names.lookup x=some .local:=by first | exact .inl rfl | exact .inr rfl) :
  QG cl pm X (.Name x pos) (v5 i) (jc pm i):=⟨jhU a hi b c,jdA⟩
def jhI:QGs cl pm X [] jei gN:=⟨jf8,jdq⟩
def jdQ{ts:TGs}{a:List D->Rh->Option Rh}(h1:QG cl pm X e t g)(h2:QGs cl pm X es ts a)(b:(assignEach (e::es) X.env).map (·.2)=assign e X.env::(assignEach es X.env).map (·.2):=by rfl):QGs cl pm X (e::es) (qR t ts) (gC g a):=⟨jdy h1.sem h2.sem b,jct h1.den h2.den⟩
def jfw{ts:TGs}{b:List D->Rh->Option Rh}{k n:Nat}(c:X.calm=true)(h:QGs cl pm X es ts b)(d:(assignEach es X.env).length=n:=by rfl)(a:(assignEach es X.env).findIdx? (·.1)=none:=by rfl):QG cl pm X (.Tuple es k pos) (jc6 X.K n ts) (gT n b):=⟨jj1 c h.sem d a,jgv h.den⟩
def jeE:QIf cl X [] (λ_ H Q=>Q true H) qT:=⟨.inl ⟨rfl,rfl⟩,jhb⟩
def jeA(h:QT cl X c tA qa):QIf cl X [c] tA qa:=⟨.inr ⟨c,rfl,h.sem⟩,h.den⟩
variable {st:Stmt}{rest:List Stmt}{ts tu:TS}{f fe:FS}{fE:FE}
def jf7:QSs cl pm X [] jhp jO:=⟨jfY,jgH⟩
def jfR(h:QS cl pm X st ts f):QSs cl pm X [st] ts f:=⟨jhB h.sem,h.den⟩
def jdK(h:QS cl pm X st ts f)(k:QSs cl pm X rest tu fe):QSs cl pm X (st::rest) (jlz ts tu) (ji f fe):=⟨jeB h.sem k.sem,jjp h.den k.den⟩
def jgo(h:QE cl X e te fE)(a:swapsWith e none pos.line X.env=pure false:=by rfl):QS cl pm X (.Expr e pos) (JK te) (Vm fE):=⟨YV h.sem a,jf1 h.den⟩
def jkH(h:QE cl X e te fE):QS cl pm X (.Return (some e) pos) (jmj te) (yB fE):=⟨jlb h.sem,jjF h.den⟩
def jm3{x y:List Stmt}(a:QT cl X c tA qa)(b:QSs cl pm X x ts f)(e:QSs cl pm X y tu fe):QS cl pm X (.If c x y pos) (jlu tA ts tu) (sIf (dPT qa) f fe):=⟨jm2 a.sem b.sem e.sem,jm1 (PTt.d a.den) b.den e.den⟩
def jjA{i:Nat}{x:Str}{pos':Pos}(a:X.N.Nodup)(h:QE cl X e te fE)(hi:X.N[i]?=some x:=by rfl)(b:Loc X.env.scope x:=by first | exact Or.inl rfl | exact Or.inr rfl)(c:swapsWith e (some<|.Name x pos') pos.line X.env=pure false:=by rfl)
  (d:X.fn x=true \/ X.env.scope.names.lookup x=some .local:=by first | exact .inl rfl | exact .inr rfl):QS cl pm X (.Assign [.Name x pos'] e pos) (jfl te<|v5 i) (jz fE<|jc pm i):=⟨jje a hi b h.sem c d,ww h.den xN⟩
def jkl{tg:TG}{g:D->Rh->Option Rh}{R:RC}(h:PGt R pm tg g):DG R pm tg (λd ρ=>bif frz d then g d ρ else none):=by
 intro σ ρ c Z H O P d v w r s e Q k;dsimp only at e;refine oc e λa e=>?_;cases r.nil a;exact h r s e λsub nd b kp=>k ((Go.refl w).drop sub (nd w.nd)) b kp
@[simp] def jkY(fe:FE)(G:D->Rh->Option Rh)(ρ:Rh):Option Out:=(fe ρ).bind λx=>(bif frz x.1 then G x.1 x.2 else none).bind λr=>some<|.nx r
def jh1{a:Expr}(h:QE cl X e te fE)(b:QG cl pm X a t g)(c:swapsWithSole [a] e pos.line X.env=pure false:=by rfl)(d:swappedStores [a] e X.env=pure none:=by rfl)
  (h1:(assignEach [a] X.env).map (·.2)=[assign a X.env]:=by rfl):QS cl pm X (.Assign [a] e pos) (jfl te t) (jkY fE g):=⟨jfu h.sem b.sem c d h1,ww h.den<|jkl b.den⟩
def jes{i:Nat}{x:Str}{a c:Pos}(d:QB cl X (.Name x a) (jV i)<|pV i)(hi:QB cl X b tb pb)(h:QE cl X e te fE)
  (f:∀ v,assign (.Subscript (.Name x a) b c) X.env v=(do
   let ov <- holding [v] (eval (.Name x a) X.env)
   let iv <- holding [v,ov] (eval b X.env)
   standAt c
   holding [v,ov,iv] (setItem ov iv v)
   release [v,ov,iv] []):=by intro _;rfl)
  (g:swapsWithSole [.Subscript (.Name x a) b c] e pos.line X.env=pure false:=by rfl) (j:swappedStores [.Subscript (.Name x a) b c] e X.env=pure none:=by rfl)
  (h1:(assignEach [.Subscript (.Name x a) b c] X.env).map (·.2)=[assign (.Subscript (.Name x a) b c) X.env]:=by rfl) :
  QS cl pm X (.Assign [.Subscript (.Name x a) b c] e pos) (jfl te<|jme (jV i) tb jaX) (jz fE<|gIx pm i pb):=⟨jfu h.sem (jko d.sem hi.sem wt f) g j h1,ww h.den<|jlL hi.den⟩
def jeX:jnn X (jjm X.K):=by
 intro a s σ H o i A B Q I r1 r2 h;obtain⟨p,C,k,z,rfl,rfl,m,n,q⟩:=h;cases r1;obtain⟨t,rfl⟩:=r2;obtain⟨d,r,pl,D⟩:=I.list m;obtain⟨j,c,u,E,v,x⟩:=Ke n;obtain⟨w,g,e⟩:=r.get u;have y:=r.length;have F:=VV;have b:EP X a σ Q w s:=⟨z,H,I,e,q⟩;by_cases l:0<=k
 ·have f:k.toNat=j:=by
   rw[seqIndex_of l x] at c;exact E2 c
  exact wpAny_getItem_list pl.isList l (by omega) (by rw[f];simpa using g) b
 ·have f:(k+(d.toArray.size:Int)).toNat=j:=by
   rw[seqIndex_neg (by omega) v] at c;rw[N4,<- y];exact E2 c
  exact wpAny_getItem_list_neg pl.isList (by omega) (by rw[N4]<;>omega) (by omega) (by rw[f];simpa using g) b
def jez{i:Nat}{x:Str}{a c:Pos}{f:Operator}{d:Int->Int->Int}(g:QB cl X (.Name x a) (jV i)<|pV i)(hi:QB cl X b tb pb)(j:PIp X f<|ipI d)(h:QB cl X e te pe)
  (k:∀ ov iv new,augStore b ov iv new=(do holding [new,ov,iv] (setItem ov iv new);release [new,ov,iv] [];pure .next):=by intros;rfl):QS cl pm X (.AugAssign (.Subscript (.Name x a) b c) f e pos) (jhD (jV i) tb te (jjm X.K) (ipI d) jaX) (zc i pb d pe) :=
 ⟨jfM g.sem hi.sem jeX h.sem j wt k,jeN hi.den h.den⟩
@[simp] def jek(pm:List Nat)(i:Nat)(g:Int->Int->Int)(pa:PF)(ρ:Rh):Option Out:=(pV i ρ).bind λx=>(ve x).bind λa=>(pa ρ).bind λy=>(ve y).bind λb=>(jc pm i (.int<|g a b) ρ).bind λr=>some<|.nx r
def jfP{R:RC}{i:Nat}{b:Int->Int->Int}{p:PF}(h:PB R te p):DS R pm (jlX i te<|ipI b) (jek pm i b p):=by
 intro σ ρ Z H O o w s e n k;refine ob e λc1 a e=>ob e λx e3 e=>ob e λq f e=>ob e λy g e=>ob e λt e2 e=>?_;cases e;cases jD e3;cases jD g;have a:=Vf a;obtain⟨A,P,B,rfl,j,_,_⟩:=s.put (M0.mp a).1;obtain⟨v,l,r⟩:=j _ a;obtain⟨rfl,_⟩:=r.int_of;refine⟨_,l,h w.zd s f λ{u z C D} c r1=>?_⟩;obtain⟨rfl,_⟩:=r1.int_of;have d:=c.widen w;exact⟨x,y,rfl,rfl,xN (P:=[]) d.wf (Rep.int_mk (i:=b x y)) (c.slots w.zd s) e2 λg2 s2 m=>k (d.trans g2) s2 m⟩
def jh9{i:Nat}{x:Str}{pos':Pos}{b:Operator}{a:Int->Int->Int}(c:X.N.Nodup)(d:PIp X b<|ipI a)(h:QB cl X e te pe)(hi:X.N[i]?=some x:=by rfl)(f:Loc X.env.scope x:=by first | exact Or.inl rfl | exact Or.inr rfl)
  (g:X.fn x=true \/ X.env.scope.names.lookup x=some .local:=by first | exact .inl rfl | exact .inr rfl):QS cl pm X (.AugAssign (.Name x pos') b e pos) (jlX i te<|ipI a) (jek pm i a pe):=⟨jkL c hi f h.sem d g,jfP h.den⟩
def jiT{i:Nat}{x:Str}{a apos cpos:Pos}(k:QB cl X (.Name x a) (jV i)<|pV i)(h:QP cl X e te pe)(c:attributeBase (.Name x a) "append" X.env (eval (.Name x a) X.env)=eval (.Name x a) X.env:=by rfl)
  (f:((backTo cpos<|starEach [e] X.env).all (λx=>!x.1)&&(backToKw cpos<|keywordEach [] X.env).all (λx=>x.1.isSome)
   && decide ([e].length+([]:List Keyword).length+(if([]:List Keyword).isEmpty then 0 else 1) < 30))=true:=by rfl)
  (d:(apos.endLine==cpos.line)=true:=by rfl) (j:starEach [e] X.env=(false,eval e X.env)::starEach [] X.env:=by rfl) (b:(backTo cpos<|starEach [] X.env).any (·.1)=false:=by rfl)
  (g:swapsWith (.Call (.Attribute (.Name x a) "append" apos) [e] [] cpos) none pos.line X.env=pure false:=by rfl) :
  QS cl pm X (.Expr (.Call (.Attribute (.Name x a) "append" apos) [e] [] cpos) pos) (JK<|tBM X.K "list" YW (jV i)<|jB te JY) (Qs i pe) :=
 ⟨YV (jhl PySem.F.plainAttrs_list PySem.F.slot_list_append PySem.F.type_list_append YF k.sem (jI h.sem vX j) c f d j b) g,jjt h.den⟩
def jju{body:List Stmt}(c:PassesOwn (model X.prog X.w) X.A X.env X.xe)(d:X.calm=true)(hi:QI cl X tg iter wi pi)(a:QG cl pm X tg t g)(b:QSs cl pm X body ts f)(e:∀ x,foldedSetIterable iter X.env x=pure x:=by intro _;rfl):QS cl pm X (.For tg iter body [] pos) (jmf wi t ts) (kK pi g f) :=
 ⟨jiP c d hi.sem a.sem b.sem e,jiV hi.den a.den b.den⟩
def QS.fz(i:Nat)(h:QS cl pm X st ts f):QS cl pm X st ts (sFz i f):=⟨h.sem,jmC h.den⟩
def jlP{P:Program}{w:World}{K:W4}{mg:W6}{base:Heap}{x qual:Str}{a:Stmt}{fa:Addr}{fd:FuncData}{N ps:List Str}{k n:Nat}{fs:FS}(F:Fun K x qual a fa fd)(c:FnScope N ps<|jA a)(d:ps.length=n)
  (b:∀(cdv:Value) (A:Around) (outer:List Env) (s:Shared) (H:Hp) (E:XK),Room k (A.deeper<|envOfC qual (jA a) s.heap.objs.size fa cdv) ->
   ∃ ts,QSs cl [] (jfz CX0 P w K mg base N qual (jA a) fa cdv A outer s H E).nox (vw a) ts fs):FnOk P w K mg base CX0 (k+1) fa fd ps (spP ⟨K,cl⟩ (fnP N.length fs) n):=by
 refine F.ok c (λe H Q E h=>by rw[jgh h,d]) λcdv A outer s H e Q E f h=>?_;obtain⟨ts,q⟩:=b cdv A outer s H E f;exact⟨ts,q.sem,jif q.den h⟩
end
mutual
noncomputable def jbF:D->PyData
 | .non=>.none | .bl b=>.bool b | .int i=>.int i | .str s=>.str<|S s
 | .tup l=>.tuple<|kP l
 | .lst _ l=>.list<|kP l
 | .dK _ _ _=>.none | .dT _ _ _=>.none | .ins _ _ _ _=>.none | .dead=>.none | .exc _ _=>.none
noncomputable def kP:List D->List PyData
 | []=>[]
 | d::l=>jbF d::kP l
end
mutual
noncomputable def okE:Nat->D->Bool
 | _,.non=>true | _,.bl _=>true | _,.int _=>true
 | _,.str s=>s.all λc=>decide<|c < 1114112
 | n+1,.tup l=>JX n l
 | n+1,.lst _ l=>JX n l
 | _,_=>false
noncomputable def JX:Nat->List D->Bool
 | _,[]=>true
 | n,d::l=>okE n d&&JX n l
end
mutual
noncomputable def eqD:D->D->Bool
 | .non,.non=>true
 | .bl a,.bl b=>a==b
 | .bl a,.int j=>(if a then 1 else 0)==j
 | .int i,.bl b=>i==(if b then 1 else 0)
 | .int i,.int j=>i==j
 | .str a,.str b=>a==b
 | .tup l,.tup m=>zG l m
 | .lst _ l,.lst _ m=>zG l m
 | _,_=>false
noncomputable def zG:List D->List D->Bool
 | [],[]=>true
 | x::l,y::m=>eqD x y&&zG l m
 | _,_=>false
end
theorem V7:∀(n:Nat) (l:List D),JX n l=l.all (okE n)
 | _,[]=>rfl
 | n,d::l=>by rw[JX,V7 n l];rfl
mutual
theorem jaL:∀(n:Nat) (x y:D),okE n x=true->okE n y=true->PyData.eqv (jbF x) (jbF y)=eqD x y
 | n,.non,y,hx,hy=>by cases y<;>first | rfl | (cases n<;>simp_all [okE])
 | n,.bl a,y,hx,hy=>by cases y<;>first | rfl | (cases n<;>simp_all [okE])
 | n,.int a,y,hx,hy=>by cases y<;>first | rfl | (cases n<;>simp_all [okE])
 | n,.str a,y,hx,hy=>by
  cases y with
  | str b =>
   show(S a==S b)=(a==b);rw[Bool.eq_iff_iff];simp[jmB]
  | _=>first | rfl | (cases n<;>simp_all [okE])
 | 0,.tup l,y,hx,hy=>by simp[okE] at hx
 | n+1,.tup l,y,hx,hy=>by
  cases y with
  | tup m=>show PyData.eqvAll (kP l) (kP m)=zG l m;exact xw n l m (by simpa [okE] using hx) (by simpa [okE] using hy)
  | _=>first | rfl | (simp_all [okE])
 | 0,.lst o l,y,hx,hy=>by simp[okE] at hx
 | n+1,.lst o l,y,hx,hy=>by
  cases y with
  | lst o' m=>show PyData.eqvAll (kP l) (kP m)=zG l m;exact xw n l m (by simpa [okE] using hx) (by simpa [okE] using hy)
  | _=>first | rfl | (simp_all [okE])
 | n,.dK _ _ _,y,hx,hy=>by cases n<;>simp[okE] at hx
 | n,.dT _ _ _,y,hx,hy=>by cases n<;>simp[okE] at hx
 | n,.ins _ _ _ _,y,hx,hy=>by cases n<;>simp[okE] at hx
 | n,.dead,y,hx,hy=>by cases n<;>simp[okE] at hx
 | n,.exc _ _,y,hx,hy=>by cases n<;>simp[okE] at hx
theorem xw:∀(n:Nat) (l m:List D),JX n l=true->JX n m=true->PyData.eqvAll (kP l) (kP m)=zG l m
 | n,[],[],_,_=>rfl
 | n,[],_::_,_,_=>rfl
 | n,_::_,[],_,_=>rfl
 | n,x::l,y::m,hx,hy=>by
  rw[JX,M3] at hx hy;show(PyData.eqv (jbF x) (jbF y)&&PyData.eqvAll (kP l) (kP m))=(eqD x y&&zG l m);rw[jaL n x y hx.1 hy.1,xw n l m hx.2 hy.2]
end
mutual
theorem wm:∀(n:Nat) (x:D),okE n x=true->(jbF x).canLay0=true/\(jbF x).depth<=n
 | n,.non,_=>⟨rfl,U6 _⟩
 | n,.bl _,_=>⟨rfl,U6 _⟩
 | n,.int _,_=>⟨rfl,U6 _⟩
 | n,.str s,h=>by
  refine⟨?_,U6 _⟩;have h:(s.all λc=>decide<|c < 1114112)=true:=by cases n<;>simpa [okE] using h
  show PyData.strOk (S s)=true;unfold PyData.strOk S;rw[Array.all_eq_true'];intro c hc;rw[List.all_eq_true] at h;exact h c (by simpa using hc)
 | 0,.tup l,h=>by simp[okE] at h
 | n+1,.tup l,h=>by
  obtain⟨h1,h2⟩:=YJ n l (by simpa [okE] using h);exact⟨h1,Nat.succ_le_succ h2⟩
 | 0,.lst o l,h=>by simp[okE] at h
 | n+1,.lst o l,h=>by
  obtain⟨h1,h2⟩:=YJ n l (by simpa [okE] using h);exact⟨h1,Nat.succ_le_succ h2⟩
 | n,.dK _ _ _,hx=>by cases n<;>simp[okE] at hx
 | n,.dT _ _ _,hx=>by cases n<;>simp[okE] at hx
 | n,.ins _ _ _ _,hx=>by cases n<;>simp[okE] at hx
 | n,.dead,hx=>by cases n<;>simp[okE] at hx
 | n,.exc _ _,hx=>by cases n<;>simp[okE] at hx
theorem YJ:∀(n:Nat) (l:List D),JX n l=true->PyData.canLayAll0 (kP l)=true/\PyData.depthAll (kP l)<=n
 | n,[],_=>⟨rfl,U6 _⟩
 | n,x::l,h=>by
  rw[JX,M3] at h;obtain⟨h1,h2⟩:=wm n x h.1;obtain⟨h3,h4⟩:=YJ n l h.2;rw[kP];refine⟨?_,?_⟩
  ·show((jbF x).canLay0&&PyData.canLayAll0 (kP l))=true;rw[h1,h3];rfl
  ·show max (jbF x).depth (PyData.depthAll<|kP l)<=n;exact Nat.max_le.mpr ⟨h2,h4⟩
end
mutual
theorem Rep.reads(I:Inv X pins σ H s):∀(n:Nat) {x:D}{v:V}{u:Value}{O:W5},Rep ⟨X.K,cl⟩ Z H x v O->RelV v u->okE n x=true->∃ as,Reads s.heap u (jbF x) as
 | n,.non,_,_,_,r,q,_=>by obtain⟨rfl,_⟩:=r.non_of;cases q;exact⟨_,.none⟩
 | n,.bl b,_,_,_,r,q,_=>by obtain⟨rfl,_⟩:=r.bl_of;cases q;exact⟨_,.bool b⟩
 | n,.int i,_,_,_,r,q,_=>by obtain⟨rfl,_⟩:=r.int_of;obtain⟨t,rfl⟩:=q;exact⟨_,.int i t⟩
 | n,.str w,_,_,_,r,q,_=>by obtain⟨rfl,_⟩:=r.str_of;obtain⟨t,rfl⟩:=q;exact⟨_,.str _ t⟩
 | 0,.tup l,_,_,_,r,q,h=>by simp[okE] at h
 | n+1,.tup l,_,_,_,r,q,h=>by
  obtain⟨a,vs,rfl,hx,rs⟩:=r.tup_of;cases q;obtain⟨its,rv,⟨o,h1,h2,k,h3⟩,_⟩:=I.tuple hx;obtain⟨as,hr⟩:=Reps.reads I n rs rv (by simpa [okE] using h);exact⟨_,reads_tuple_at h1 h2 h3<|by simpa using hr⟩
 | 0,.lst o l,_,_,_,r,q,h=>by simp[okE] at h
 | n+1,.lst o l,_,_,_,r,q,h=>by
  obtain⟨a,vs,O',rfl,hx,rs⟩:=r.lst_of;cases q;obtain⟨its,rv,⟨o,k,h1,h2,_,h3⟩,_⟩:=I.list hx.sq;obtain⟨as,hr⟩:=Reps.reads I n rs rv (by simpa [okE] using h);exact⟨_,reads_list_at h1 h2 h3<|by simpa using hr⟩
 | n,.dK _ _ _,_,_,_,_,_,hx=>by cases n<;>simp[okE] at hx
 | n,.dT _ _ _,_,_,_,_,_,hx=>by cases n<;>simp[okE] at hx
 | n,.ins _ _ _ _,_,_,_,_,_,hx=>by cases n<;>simp[okE] at hx
 | n,.dead,_,_,_,_,_,hx=>by cases n<;>simp[okE] at hx
 | n,.exc _ _,_,_,_,_,_,hx=>by cases n<;>simp[okE] at hx
theorem Reps.reads(I:Inv X pins σ H s):∀(n:Nat) {l:List D}{vs:List V}{us:List Value}{O:W5},Reps ⟨X.K,cl⟩ Z H l vs O->Vals vs us->JX n l=true->∃ as,ReadsAll s.heap us (kP l) as
 | n,[],_,_,_,r,q,_=>by rw[Reps] at r;obtain⟨rfl,_⟩:=r;cases q;exact⟨_,.nil⟩
 | n,x::l,_,_,_,r,q,h=>by
  rw[Reps] at r;obtain⟨v,vs,O1,O2,rfl,rfl,r1,r2⟩:=r;rw[JX,M3] at h;cases q with
  | cons q1 q2 =>
   obtain⟨as,h1⟩:=Rep.reads I n r1 q1 h.1;obtain⟨bs,h2⟩:=Reps.reads I n r2 q2 h.2;exact⟨_,.cons h1 h2⟩
end
def je5(R:RC)(neg:Bool):R2:=λx y H Q=>∃ Z d e O P,Rep R Z H d x O/\Rep R Z H e y P/\okE 20 d=true/\okE 20 e=true/\Q (.bl<|neg != eqD d e) H
def jlg(h:okE 20 x=true):SeqAt.shaped (jbF x)=true:=by
 obtain⟨a,b⟩:=wm 20 x h;unfold SeqAt.shaped;rw[a,Bool.true_and];exact X8<|N8 b (by decide)
def jiH(f:X.A.units+64 < cLine):OpR X (compareOp .Eq) (je5 ⟨X.K,cl⟩ false):=by
 intro c s σ H x y v u Q I rx g h;obtain⟨Z,d,e,O,P,r1,r2,a,b,q⟩:=h;obtain⟨k,i⟩:=r1.reads I 20 rx a;obtain⟨bs,j⟩:=r2.reads I 20 g b;refine eq_dataH i j (jlg a) (jlg b) f ?_;rw[jaL 20 d e a b];exact⟨.bl _,H,I,rfl,by simpa using q⟩
def ji8(f:X.A.units+64 < cLine):OpR X (compareOp .NotEq) (je5 ⟨X.K,cl⟩ true):=by
 intro c s σ H x y v u Q I rx g h;obtain⟨Z,d,e,O,P,r1,r2,a,b,q⟩:=h;obtain⟨k,i⟩:=r1.reads I 20 rx a;obtain⟨bs,j⟩:=r2.reads I 20 g b;refine ne_dataH i j (jlg a) (jlg b) f ?_;rw[jaL 20 d e a b];exact⟨.bl _,H,I,rfl,by simpa using q⟩
def ki(x y:D):Option D:=bif qD x&&qD y&&Kt x y then some (.bl<|eqF x y) else bif okE 20 x&&okE 20 y then some (.bl<|eqD x y) else none
def xC(x y:D):Option D:=bif qD x&&qD y&&Kt x y then some (.bl<|!eqF x y) else bif okE 20 x&&okE 20 y then some (.bl<|!eqD x y) else none
def jmG:BO R (λx y H Q=>rEq x y H Q \/ je5 R false x y H Q) ki:=by
 intro Z H x y d v u c f z rx b e Q k;unfold ki at e;cases hl:qD x&&qD y&&Kt x y with
 | true =>
  rw[hl] at e;cases e;obtain⟨g,h⟩:=jcz rx b hl;exact .inl ⟨g,by rw[h];exact k (Go.id z) .bl_mk⟩
 | false =>
  rw[hl,cond_false] at e;refine oc e λa e=>?_;cases e;rw[M3] at a;exact .inr ⟨Z,x,y,c,f,rx,b,a.1,a.2,by simpa using k (Go.id z) .bl_mk⟩
def jm4:BO R (λx y H Q=>rNe x y H Q \/ je5 R true x y H Q) xC:=by
 intro Z H x y d v u c f z rx b e Q k;unfold xC at e;cases hl:qD x&&qD y&&Kt x y with
 | true =>
  rw[hl] at e;cases e;obtain⟨g,h⟩:=jcz rx b hl;exact .inl ⟨g,by rw[h];exact k (Go.id z) .bl_mk⟩
 | false =>
  rw[hl,cond_false] at e;refine oc e λa e=>?_;cases e;rw[M3] at a;exact .inr ⟨Z,x,y,c,f,rx,b,a.1,a.2,by simpa using k (Go.id z) .bl_mk⟩
def c_eq(a:Room k X.A):CmpR cl X .Eq b (λx y H Q=>rEq x y H Q \/ je5 ⟨X.K,cl⟩ false x y H Q) ki:=⟨J5 jmL<|jiH a.units,jmG,VL _⟩
def c_ne(a:Room k X.A):CmpR cl X .NotEq b (λx y H Q=>rNe x y H Q \/ je5 ⟨X.K,cl⟩ true x y H Q) xC:=⟨J5 jl0<|ji8 a.units,jm4,VL _⟩
noncomputable def isT:String->D->Bool
 | "str",.str _=>true
 | _,_=>false
@[simp] def pBM(T:String)(g:D->List D->Option D)(pa:PF)(pr:PAf)(ρ:Rh):Option D:=(pa ρ).bind λx=>bif isT T x then(pr ρ).bind λxs=>g x xs else none
end QD
namespace QD
open PySem L2
section
variable {R:RC}{Z Z':Zn}{H H':Hp}{pm:List Nat}
def ItB(R:RC)(J:It)(Z:Zn)(H:Hp)(xs:List D):Prop:=∀{Z1:Zn}{H1:Hp},(∀ a,Z a->Z1 a)->(∀ a,H a≠none->H1 a=H a)->Zd Z1 H1->∀ i:Nat,
 (xs.length<=i->J.stop i H1)/\∀ x,xs[i]?=some x->J.go i H1/\∀ u H2,J.yld i H1 u H2->∃ Z2,Go Z1 H1 [] Z2 H2 []/\Rep R Z2 H2 x u []
def jj9(R:RC)(wi:TI)(p:PAf):Prop:=∀{σ:St}{ρ:Rh}{Z:Zn}{H:Hp}{O:W5}{xs:List D},Zd Z H->Slots R Z H ρ σ O->p ρ=some xs ->
 ∀{Q:It->Hp->Prop},(∀{J:It}{Z':Zn}{H':Hp},Go Z H [] Z' H' []->ItB R J Z' H' xs->Q J H')->wi σ H Q
def PIt.b(h:PIt R wi p):jj9 R wi p:=by
 intro σ ρ Z H O j z s e Q k;refine h z s e λg c=>k g ?_;intro l m d f zd i;exact c d (λa z=>f a<|g.wf.zd a z) zd i
def itB:D->Option (List D)
 | .lst _ l=>bif frzs l then some l else none
 | .tup l=>bif frzs l then some l else none
 | .str s=>some<|s.map λc=>.str [c]
 | _=>none
@[simp] def J6(p:PF)(ρ:Rh):Option (List D):=(p ρ).bind itB
def jen(b:∀ a,H a≠none->H' a=H a)(h:SqX K H a vs):SqX K H' a vs:=by
 rcases h with h | h
 ·refine .inl<|Rd.agree (b a ?_) h;rcases h with h | ⟨o,h⟩<;>rw[h]<;>exact λz=>(nomatch z)
 ·exact .inr h
def jdY(b:∀ a,H a≠none->H' a=H a)(h:SqT K H a vs):SqT K H' a vs:=by
 rcases h with h | h
 ·refine .inl<|Rd.agree (b a ?_) h;rcases h with h | ⟨o,h⟩<;>rw[h]<;>exact λz=>(nomatch z)
 ·exact .inr h
def jjU(h:PB R te p):jj9 R (jkc R.K te) (J6 p):=by
 intro σ ρ Z H O N z s e Q k;refine ob e λc F e=>?_;cases c with
 | lst o l =>
  refine oc e λG e=>?_;cases e;refine h z s F λ{v I J P} g r1=>?_;obtain⟨a,f,T,rfl,A,B⟩:=r1.lst_of;have j:=B.frozen G;refine .inl ⟨a,rfl,⟨f,A.sq⟩,k g ?_⟩;intro y E C m zd i;have d:=SqX.sq<|jen m A;have n:Reps R y E N f []:=j.frame C (λb z=>m b<|g.wf.zd b z) λb L=>(nomatch L);refine⟨λhi=>⟨f,d,by rw[B.length];exact hi⟩,λx q=>?_⟩;obtain⟨u,D,M⟩:=n.item q;refine⟨⟨f,u,d,D⟩,λw S r=>?_⟩;obtain⟨rfl,r⟩:=r;have e2:=r f d;rw[D] at e2;cases e2;exact⟨y,Go.id zd,M⟩
 | tup l =>
  refine oc e λG e=>?_;cases e;refine h z s F λ{v I J P} g r1=>?_;obtain⟨a,f,rfl,A,B⟩:=r1.tup_of;have j:=B.frozen G;refine .inr<|.inl ⟨a,rfl,⟨f,A⟩,k g ?_⟩;intro y E C m zd i;have d:=jdY m A;have n:Reps R y E N f []:=j.frame C (λb z=>m b<|g.wf.zd b z) λb L=>(nomatch L);refine⟨λhi=>⟨f,d,by rw[B.length];exact hi⟩,λx q=>?_⟩;obtain⟨u,D,M⟩:=n.item q;refine⟨⟨f,u,d,D⟩,λw S r=>?_⟩;obtain⟨rfl,r⟩:=r;have e2:=r f d;rw[D] at e2;cases e2;exact⟨y,Go.id zd,M⟩
 | str t =>
  cases e;refine h z s F λ{v I J P} g r1=>?_;obtain⟨rfl,_⟩:=r1.str_of;refine .inr<|.inr ⟨t,rfl,k g ?_⟩;intro y E C m zd i;exact je9 (Z:=I) (H:=J) C (λb z=>m b<|g.wf.zd b z) zd i
 | _=>cases e
inductive CpI (R:RC) (g:D->Rh->Option Rh) (q:PTf) (p:PF) (Z0:Zn) (H0:Hp) (a:Addr) (xs all:List D) (i m:Nat) (σ2:L2.St) (H2:Hp):Prop
 | mk:m=xs.length - i->i<=xs.length->∀(ρ2:Rh) (Z2:Zn) (O2:W5) (ys:List D) (vs:List V) (Py:W5) (rest:List D),Go Z0 H0 [] Z2 H2 (a::Py)->H2 a=some (.lst vs)->Reps R Z2 H2 ys vs Py->(∀ b∈O2,b≠a)->Slots R Z2 H2 ρ2 σ2 O2->jW g q p (xs.drop i) ρ2=some rest->all=ys++rest->ys.length<=i->CpI R g q p Z0 H0 a xs all i m σ2 H2
def Jh{tg:TG}{tc:TT}{te:TE}{g:D->Rh->Option Rh}{q:PTf}{p:PF}{ix:List (Option Nat)}(hg:PGt R [] tg g)(hq:PTt R tc q)(he:PP R te p)
  {J:It}{j:Zn}{c:Hp}{ρ:Rh}{σ:L2.St}{O:W5}{xs all:List D}(F:Zd j c) (s:Slots R j c ρ σ O) (it:ItB R J j c xs) (hl:lim xs.length=true) (e2:jW g q p xs (jv ix ρ)=some all)
  {Q:VK}(k:∀{v:V}{Z':Zn}{H':Hp}{P:W5},Go j c [] Z' H' P->Rep R Z' H' (.lst true all) v P->Q v H'):∀ a,c a=none->Qt tc te tg J a (yE ix σ) (upd c a<|.lst []) λH2=>Q (.ref a) H2:=by
 intro a ha;obtain⟨Oi,si⟩:=qQ s ix;have gp:Go j c [] j (upd c a<|.lst []) [a]:=Go.newO (wf0 F) ha;refine⟨CpI R g q p j c a xs all,
  ⟨xs.length,rfl,U6 _,_,j,Oi,[],[],[],all,gp,jr,Reps.empty,λb d e=>si.dom b d<|e▸ha,gp.slots F si,e2,rfl,N0 _⟩,?_⟩
 rintro i m σ2 H2 ⟨rfl,T,ρ2,Z2,O2,U,l,h,rest,g2,ea,K,W,s2,e3,L,t⟩;have G:=it (Z1:=Z2) (H1:=H2) g2.zz (λb z=>g2.same b z) g2.wf.zd i;by_cases w:i < xs.length
 ·right
  have hx:xs[i]?=some xs[i]:=by simp[w]
  obtain⟨go,yl⟩:=G.2 _ hx;refine⟨go,λu H3 hy=>?_⟩;obtain⟨Z3,g3,r3⟩:=yl u H3 hy;rw[Jj hx] at e3;refine ob e3 λρ3 e5 e3=>?_;refine hg r3 (g3.slots g2.wf.zd s2) e5 λ{σ4 O4} sub nd M _=>?_;refine ob e3 λb e6 e3=>?_;refine hq g3.wf.zd M e6 λ{Z5 H5} H=>?_;have o:=g3.pair H;cases b with
  | true =>
   refine jec ?_;rw[cond_true] at e3;refine ob e3 λy e7 e3=>ob e3 λX e8 e3=>?_;cases e3;refine he H.wf.zd (H.slots g3.wf.zd M) e7 λ{N C r E} g6 r6=>?_;have x:Go Z2 H2 [] C r E:=by simpa using o.pair g6
   have Y:r a=some (.lst l):=by rw[x.same a<|by rw[ea];exact λz=>(nomatch z)];exact ea
   have Z:l.length < sizeLine:=by
    rw[K.length];exact Qy (n:=U.length)<|X8<|N8 t<|N8 T<|E1 hl
   have S:Go j c [] C r (a::h++E):=by
    have f:=x.frame (A:=a::h) (B:=[]) (by simpa using g2.wf);exact g2.trans (by simpa using f)
   have w6:=S.wf;have gB:Go C r (a::h++E) C (upd r a<|.lst<|l++[N]) (a::h++E):=Go.put w6 L8;have nd6:=List.nodup_cons.mp w6.nd;have ne:∀ b,b∈h++E->upd r a (.lst<|l++[N]) b=r b:=λb d=>jg λz=>nd6.1<|z▸d;have I:∀ b,C b->upd r a (.lst<|l++[N]) b=r b:=λb d=>jg λz=>w6.nz a L8<|z▸d;refine⟨l,Y,Z,xs.length - (i+1),by lia,rfl,w,ρ3,C,O4,U++[y],l++[N],h++E,X,S.trans gB,jr,?_,λb d=>W b<|sub b d,?_,e8,by rw[L];simp,by rw[N5];exact Nat.add_le_add_right t 1⟩
   ·refine((x.reps g2.wf.zd K).append (.one r6)).frame (λb z=>z) I ne
   ·exact((H.pair g6).slots g3.wf.zd M).frame (λb z=>z) I λb d=>jg<|W b<|sub b d
  | false =>
   refine jd3 ?_;rw[cond_false] at e3;have S:Go j c [] Z5 H5 (a::h):=by
    have f:=o.frame (A:=a::h) (B:=[]) (by simpa using g2.wf);exact g2.trans (by simpa using f)
   exact⟨xs.length - (i+1),by lia,rfl,w,ρ3,Z5,O4,U,l,h,rest,S,by rw[o.same a<|by rw[ea];exact λz=>(nomatch z)];exact ea,o.reps g2.wf.zd K,λb d=>W b<|sub b d,H.slots g3.wf.zd M,e3,L,Nat.le_succ_of_le t⟩
 ·left
  have hi2:i=xs.length:=by lia
  refine⟨G.1<|by lia,?_⟩;rw[hi2,List.drop_length] at e3;cases e3;rw[N1] at L;subst L;refine k (P:=a::h) g2 ?_;rw[Rep];exact⟨a,l,h,rfl,K,ea,rfl⟩
def w8{wi:TI}{tg:TG}{tc:TT}{te:TE}{pi:PAf}{g:D->Rh->Option Rh}{q:PTf}{p:PF}{ix:List (Option Nat)}(hi:jj9 R wi pi)(a:PGt R [] tg g)(b:PTt R tc q)(c:PP R te p) :
  PP R (Vv wi tg tc te ix) (yy pi g q p ix):=by
 intro σ ρ Z H O d z s e Q k;refine ob e λl f e=>oc e λh e=>ob e λall e2 e=>?_;cases e;refine hi z s f λ{J m n} g0 i=>?_;exact Jh a b c g0.wf.zd (g0.slots z s) i h e2 λj r1=>k (by simpa using g0.pair j) r1
end
section
variable {cl:Nat->Addr}{pm:List Nat}{X:Cx}{c e elt tg iter:Expr}{te:TE}{pe:PF}{ifs:List Expr}{wi:TI}{pi:PAf}{t:TG}{g:D->Rh->Option Rh}{pos:Pos}{ts:TS}{f:FS}
structure QIb(cl:Nat->Addr)(X:Cx)(tg e:Expr)(wi:TI)(p:PAf):Prop where
 sem:PI X tg e wi
 den:jj9 ⟨X.K,cl⟩ wi p
def QI.b'(h:QI cl X tg e wi pi):QIb cl X tg e wi pi:=⟨h.sem,PIt.b h.den⟩
def jgD(h:QB cl X e te pe):QIb cl X tg e (jkc X.K te) (J6 pe):=⟨jfq h.sem,jjU h.den⟩
def jhf{scope:Scope}{N':List Str}{ix:List (Option Nat)}{a:TT}{c:PTf}(B:BlockOk X scope N' ix)(f:X.calm=true)(hi:QIb cl X tg iter wi pi)
  (d:∀ C s H fp,QG cl [] (jQ X scope N' C s H fp) tg t g) (b:∀ C s H fp,QIf cl (jQ X scope N' C s H fp) ifs a c) (e:∀ C s H fp,QP cl (jQ X scope N' C s H fp) elt te pe)
  (h:∀ x,foldedSetIterable iter X.env x=pure x:=by intro _;rfl):QP cl X (.ListComp elt [⟨tg,iter,ifs,0⟩] scope pos) (Vv wi t a te ix) (yy pi g c pe ix) :=
 ⟨xV B f hi.sem (λC s H fp=>(d C s H fp).sem) (λC s H fp=>(b C s H fp).sem) (λC s H fp=>(e C s H fp).sem) h,
  w8 hi.den (d 0 X.s₀ X.H₀ []).den (b 0 X.s₀ X.H₀ []).den (e 0 X.s₀ X.H₀ []).den⟩
def zZ{i:Nat}{x:Str}{pos' a:Pos}{scope:Scope}{N':List Str}{ix:List (Option Nat)}{b:TT}{h:PTf}(B:BlockOk X scope N' ix)(l:X.calm=true)(hi:QIb cl X tg iter wi pi)
  (j:∀ C s H fp,QG cl [] (jQ X scope N' C s H fp) tg t g) (c:∀ C s H fp,QIf cl (jQ X scope N' C s H fp) ifs b h) (k:∀ C s H fp,QP cl (jQ X scope N' C s H fp) elt te pe)
  (m:X.N.Nodup) (e:X.N[i]?=some x:=by rfl) (n:Loc X.env.scope x:=by first | exact Or.inl rfl | exact Or.inr rfl)
  (f:swapsWith (.ListComp elt [⟨tg,iter,ifs,0⟩] scope pos) (some<|.Name x pos') a.line X.env=pure true:=by with_unfolding_all rfl)
  (o:∀ x,foldedSetIterable iter X.env x=pure x:=by intro _;rfl)
  (p:X.fn x=true \/ X.env.scope.names.lookup x=some .local:=by first | exact .inl rfl | exact .inr rfl) :
  QS cl pm X (.Assign [.Name x pos'] (.ListComp elt [⟨tg,iter,ifs,0⟩] scope pos) a) (jfl (Vv wi t b te ix)<|v5 i) (jz (dP<|yy pi g h pe ix)<|jc pm i) :=
 ⟨uK B l hi.sem (λC s H fp=>(j C s H fp).sem) (λC s H fp=>(c C s H fp).sem) (λC s H fp=>(k C s H fp).sem) m e n f o p,
  ww (PP.d<|w8 hi.den (j 0 X.s₀ X.H₀ []).den (c 0 X.s₀ X.H₀ []).den (k 0 X.s₀ X.H₀ []).den) xN⟩
end
@[simp] def pV0:pV 0 (o::ρ)=o:=by unfold pV;cases o<;>rfl
@[simp] def pVs:pV (i+1) (o::ρ)=pV i ρ:=rfl
@[simp] def gN_e:gN [] ρ=some ρ:=rfl
@[simp] def gC_e:gC G Gs (d::r) ρ=(G d ρ).bind λρ1=>Gs r ρ1:=rfl
@[simp] def gT_e:gT n Gs (.tup l) ρ=bif decide (l.length=n) then Gs l ρ else none:=rfl
@[simp] def itB_lst(o:Bool)(l:List D):itB (.lst o l)=bif frzs l then some l else none:=rfl
@[simp] def itB_tup(l:List D):itB (.tup l)=bif frzs l then some l else none:=rfl
@[simp] def itB_str(l:List Nat):itB (.str l)=some (l.map λc=>D.str [c]):=rfl
@[simp] def enumOf_e(o:Bool)(l:List D):je8 [.lst o l]=some (jJ 0<|fzs l):=rfl
@[simp] def zipOf_e(o o':Bool)(l m:List D):jiw [.lst o l,.lst o' m]=some (Vo (fzs l)<|fzs m):=rfl
def zD(h:-(2 ^ 62) < j)(k:j < 2 ^ 62):V1 j=true:=Nat.ble_eq_true_of_le (by lia)
def qp(h:-(2 ^ 62) < j)(k:j < 2 ^ 62):jbo [.int j]=some (Vp 0 j.toNat):=by
 show(bif V1 j then some (Vp 0 j.toNat) else none)=_;rw[zD h k];rfl
def jH(n:Nat)(f:FS)(ds:List D):fnP n f ds=(f<|ds.map some++List.replicate (n - ds.length) none).bind Out.val:=rfl
@[simp] def sLoop_nil:jL G f [] ρ=some (.nx ρ):=rfl
def jS:jL G f (x::xs) ρ=(G x ρ).bind λr=>(f r).bind λo=>o.loop (jL G f xs):=rfl
@[simp] def cLoop_nil:jW G q p [] ρ=some []:=rfl
def vV:jW G q p (x::xs) ρ=(G x ρ).bind λr=>(q r).bind λb=>bif b then((p r).bind λy=>(jW G q p xs r).bind λys=>some<|y::ys) else jW G q p xs r:=rfl
def YR(P:Nat->Rh->Prop)(step:∀ i x ρ,xs[i]?=some x->P i ρ->∃ ρ1 ρ2,G x ρ=some ρ1/\(f ρ1=some (.nx ρ2) \/ f ρ1=some (.ct ρ2))/\P (i+1) ρ2)  (c:P 0 ρ) :
  ∃ ρ',jL G f xs ρ=some (.nx ρ')/\P xs.length ρ':=by
 have key:∀(n i:Nat) (ρ:Rh),xs.length - i=n->i<=xs.length->P i ρ->∃ ρ',jL G f (xs.drop i) ρ=some (.nx ρ')/\P xs.length ρ':=by
  intro n
  induction n with
  | zero =>
   intro i ρ d hi p;have:i=xs.length:=by lia
   subst this;exact⟨ρ,by rw[List.drop_length];rfl,p⟩
  | succ n e =>
   intro i ρ d hi p;have a:i < xs.length:=by lia
   have b:xs[i]?=some xs[i]:=by simp[a]
   obtain⟨ρ1,ρ2,g,e2,p2⟩:=step i _ ρ b p;obtain⟨ρ',e3,p3⟩:=e (i+1) ρ2 (by lia) a p2;refine⟨ρ',?_,p3⟩;rw[Jj b,jS,g];rcases e2 with e2 | e2<;>simp[e2,e3]
 exact key _ 0 ρ rfl (U6 _) c
def jy{G:D->Rh->Option Rh}{xs:List D}{l:List α}{en:α->D}{out:α->D}(a:xs=l.map en)(P:Rh->Prop)(step:∀ x∈l,∀ ρ,P ρ->∃ ρ1,G (en x) ρ=some ρ1/\p ρ1=some (out x)/\P ρ1){ρ:Rh}(b:P ρ):jW G qT p xs ρ=some (l.map out):=by
 subst a
 induction l generalizing ρ with
 | nil=>rfl
 | cons x l c =>
  obtain⟨ρ1,d,e2,p1⟩:=step x L8 ρ b;rw[L6,vV,d];simp[e2,c (λy e=>step y<|L7 _ e) p1]
@[simp] def cond_dec(p:Prop) [Decidable p] (x y:α):(bif decide p then x else y)=if p then x else y:=by by_cases h:p<;>simp[h]
@[simp] def cond_beq_int(i j:Int)(x y:α):(bif i==j then x else y)=if i=j then x else y:=by
 by_cases h:i=j
 ·subst h;simp
 ·rw[if_neg h,U3.mpr h];rfl
@[simp] def ite_bind(p:Prop) [Decidable p] (x y:Option α) (f:α->Option β):(if p then x else y).bind f=if p then x.bind f else y.bind f:=by by_cases h:p<;>simp[h]
@[simp] def add_ii(i j:Int):jf (.int i) (.int j)=some (.int<|i+j):=rfl
@[simp] def sub_ii(i j:Int):JO (.int i) (.int j)=some (.int<|i - j):=rfl
def vg(h:i.natAbs < 2 ^ 1000)(k:j.natAbs < 2 ^ 1000):yb (.int i) (.int j)=some (.int<|i*j):=by
 show(bif jkk i&&jkk j then some (D.int<|i*j) else none)=_;rw[jcP h,jcP k];rfl
def Jw(h:0 < j)(k:j < 2 ^ 300):Yo (.int i) (.int j)=some (.int<|i / j):=by
 show(bif decide (0 < j)&&decide (j < 2 ^ 300) then some (D.int<|i / j) else none)=_;rw[X8 h,X8 k];rfl
def Ve(h:0 < j):Ji (.int i) (.int j)=some (.int<|i % j):=by
 show(bif decide (0 < j) then some (D.int<|i % j) else none)=_;rw[X8 h];rfl
@[simp] def opB_ii(g:Int->Int->Bool)(i j:Int):opB g (.int i) (.int j)=some (.bl<|g i j):=rfl
@[simp] def eq_ii(i j:Int):ki (.int i) (.int j)=some (.bl<|i==j):=rfl
@[simp] def ne_ii(i j:Int):xC (.int i) (.int j)=some (.bl<|!(i==j)):=rfl
@[simp] def qc(g:Int->Int->Int)(i j:Int):f2I g [.int i,.int j]=some (.int<|g i j):=rfl
@[simp] def frz_int(i:Int):frz (.int i)=true:=rfl
@[simp] def frz_bl(i:Bool):frz (.bl i)=true:=rfl
@[simp] def frz_str(i:List Nat):frz (.str i)=true:=rfl
@[simp] def frz_non:frz .non=true:=rfl
@[simp] def fz_int(i:Int):fz (.int i)=.int i:=rfl
@[simp] def fz_bl(i:Bool):fz (.bl i)=.bl i:=rfl
@[simp] def fz_str(i:List Nat):fz (.str i)=.str i:=rfl
@[simp] def fz_non:fz .non=.non:=rfl
@[simp] def fz_lst(o:Bool)(l:List D):fz (.lst o l)=.lst false (fzs l):=rfl
@[simp] def fz_tup(l:List D):fz (.tup l)=.tup (fzs l):=rfl
@[simp] def jhE(o:Bool)(l:List D):frz (.lst o l)=(!o&&frzs l):=rfl
@[simp] def frz_tup(l:List D):frz (.tup l)=frzs l:=rfl
@[simp] def fzs_nil:fzs []=[]:=rfl
@[simp] def jd5(d:D)(l:List D):fzs (d::l)=fz d::fzs l:=rfl
@[simp] def frzs_nil:frzs []=true:=rfl
@[simp] def Y1(d:D)(l:List D):frzs (d::l)=(frz d&&frzs l):=rfl
@[simp] def clean_int(i:Int):clean (.int i)=true:=rfl
@[simp] def clean_bl(i:Bool):clean (.bl i)=true:=rfl
@[simp] def clean_str(i:List Nat):clean (.str i)=true:=rfl
@[simp] def clean_non:clean .non=true:=rfl
@[simp] def clean_lst(o:Bool)(l:List D):clean (.lst o l)=(o&&ym l):=rfl
@[simp] def clean_tup(l:List D):clean (.tup l)=ym l:=rfl
@[simp] def cleans_nil:ym []=true:=rfl
@[simp] def cleans_cons(d:D)(l:List D):ym (d::l)=(clean d&&ym l):=rfl
@[simp] def fzs_ints(l:List Int):fzs (l.map D.int)=l.map D.int:=by
 rw[vU,U2];rfl
@[simp] def K9(l:List Int):frzs (l.map D.int)=true:=by
 rw[Ku,List.all_map,List.all_eq_true];intro x _;rfl
theorem yM:∀ l:List D,ym l=l.all clean
 | []=>rfl
 | d::l=>by rw[ym,yM l];rfl
@[simp] def cleans_ints(l:List Int):ym (l.map D.int)=true:=by
 rw[yM,List.all_map,List.all_eq_true];intro x _;rfl
@[simp] def intsD_ints(l:List Int):Jt (l.map D.int)=some l:=by
 induction l with
 | nil=>rfl
 | cons x l a=>show(Jt<|l.map D.int).bind _=_;rw[a];rfl
@[simp] def Yc(o:Bool)(l:List D):K2 [.lst o l]=(Jt l).bind λns=>some (.int ns.sum):=rfl
@[simp] def fLen_lst(o:Bool)(l:List D):JJ [.lst o l]=some (.int l.length):=rfl
@[simp] def fLen_tup(l:List D):JJ [.tup l]=some (.int l.length):=rfl
@[simp] def fList_lst(o:Bool)(l:List D):J9 [.lst o l]=bif frzs l then some (.lst true l) else none:=rfl
@[simp] def xA(o:Bool)(l:List D):KU (.lst o l)=some (fzs l):=rfl
@[simp] def itemsOf_tup(l:List D):KU (.tup l)=some (fzs l):=rfl
@[simp] def tyD_int(i:Int):tyD (.int i)=some "int":=rfl
@[simp] def tyD_bl(i:Bool):tyD (.bl i)=some "bool":=rfl
@[simp] def tyD_str(i:List Nat):tyD (.str i)=some "str":=rfl
@[simp] def tyD_non:tyD .non=some "NoneType":=rfl
@[simp] def tyD_lst(o:Bool)(l:List D):tyD (.lst o l)=some "list":=rfl
@[simp] def tyD_tup(l:List D):tyD (.tup l)=some "tuple":=rfl
theorem Qr:∀(l m:List Int),zG (l.map D.int) (m.map D.int)=decide (l=m)
 | [],[]=>rfl
 | [],_::_=>rfl
 | _::_,[]=>rfl
 | x::l,y::m=>by
  show((x==y)&&zG (l.map D.int) (m.map D.int))=_;rw[Qr l m];by_cases h:x=y<;>simp[h]
def zy(n:Nat)(l:List Int):JX n (l.map D.int)=true:=by
 rw[V7,List.all_map,List.all_eq_true];intro x _;cases n<;>rfl
def jg1(o o':Bool)(l m:List Int):ki (.lst o<|l.map D.int) (.lst o'<|m.map D.int)=some (.bl<|decide<|l=m):=by
 show(bif okE 20 (.lst o<|l.map D.int)&&okE 20 (.lst o'<|m.map D.int) then some (D.bl<|zG (l.map D.int)<|m.map D.int) else none)=_;rw[Qr];show(bif JX 19 (l.map D.int)&&JX 19 (m.map D.int) then _ else _)=_;rw[zy,zy];rfl
def jkm{c:Nat->Addr}{m:List D->Option D}{ns:List Int}(h:m [.lst false<|ns.map D.int]=some (.bl true))(d:SqX K H a<|ns.map V.int):spP ⟨K,c⟩ m 1 [.ref a] H (λv _=>v=.bl true) E:=by
 refine⟨λb=>b=a/\H a≠none,[.lst false<|ns.map D.int],.bl true,λb e=>by rw[e.1];exact e.2,rfl,.one ?_,h,λg r=>r.bl_of.1⟩;rw[Rep];have f:∀(l:List Int),Reps ⟨K,c⟩ (λb=>b=a/\H a≠none) H (l.map D.int) (l.map V.int) []:=by
  intro l
  induction l with
  | nil=>exact .empty
  | cons x l i=>exact .cons (O:=[]) (P:=[]) .int_mk i
 refine⟨a,ns.map V.int,[],rfl,f ns,?_⟩;show FL _ _ _ _ _/\_;refine⟨?_,rfl,rfl⟩;rcases d with d | d
 ·refine .inl ⟨⟨rfl,?_⟩,d⟩;rcases d with d | ⟨o,d⟩<;>rw[d]<;>exact λz=>(nomatch z)
 ·exact .inr d
end QD
namespace L2
open PySem PySem.Spec PyProof.Rows
end L2
namespace QD
open PySem L2 PySem.Spec PyProof.Rows
@[simp] def isT_str(w:List Nat):isT "str" (.str w)=true:=rfl
end QD
namespace QK
open PySem L2 QD PySem.Spec PyProof.Rows
section
variable {cl:Nat->Addr}{pm:List Nat}{X:Cx}{a b c e o:Expr}{es:List Expr}{ta tb tc te to:TE}{pa pb pc pe po:PF}{tr:TA}{pr:PAf}{pos:Pos}{K:W4}
variable {tg iter elt:Expr}{ifs:List Expr}{wi:TI}{pi:PAf}{t:TG}{g:D->Rh->Option Rh}
def add(c:X.K=K)(d:QB cl X a ta pa)(e:QB cl X b tb pb):QP cl X (.BinOp a .Add b pos) (tOp (jdh K) ta tb) (p2 jf pa pb):=by subst c;exact jkv d e
def ix(c:X.K=K)(d:QB cl X a ta pa)(e:QB cl X b tb pb)(f:xG b:=by exact λ_ _=>rfl):QB cl X (.Subscript a b pos) (tOp (rIx K) ta tb) (p2 jd pa pb):=by subst c;exact jnj d e f
def call{k n:Nat}{ps:List Str}{m:List D->Option D}{x:Str}{st:Stmt}{p:Pos}(c:X.K=K)(O:OkF X.prog X.w X.K X.mg x st k ps<|spP ⟨X.K,cl⟩ m n)(d:Room k X.A)
  (f:QBs cl X (e::es) tr pr) (g:(e::es).length=n:=by rfl) (h:Gl X x:=by rfl) (a:(x==("__debug__" : Str))=false:=by decide)
  (i:starEach (e::es) X.env=(false,eval e X.env)::starEach es X.env:=by rfl) (b:(backTo pos<|starEach es X.env).any (·.1)=false:=by rfl):QP cl X (.Call (.Name x p) (e::es) [] pos) (xj (spP ⟨K,cl⟩ m n) [] E0 tr) (jn m pr):=by
 subst c;exact jfj O d f g h a i b
theorem c_notin(a:X.K=K)(c:behindInMarks .NotIn b=false):CmpR cl X .NotIn b (jiv K true) (zI true):=by subst a;exact QD.c_notin c
theorem c_eq{k:Nat}(a:X.K=K)(c:Room k X.A):CmpR cl X .Eq b (λx y H Q=>rEq x y H Q \/ je5 ⟨K,cl⟩ false x y H Q) ki:=by subst a;exact QD.c_eq c
theorem c_ne{k:Nat}(a:X.K=K)(c:Room k X.A):CmpR cl X .NotEq b (λx y H Q=>rNe x y H Q \/ je5 ⟨K,cl⟩ true x y H Q) xC:=by subst a;exact QD.c_ne c
def g_tup{ts:TGs}{b:List D->Rh->Option Rh}{k n:Nat}(c:X.K=K)(d:X.calm=true)(h:QGs cl pm X es ts b)(e:(assignEach es X.env).length=n:=by rfl)(a:(assignEach es X.env).findIdx? (·.1)=none:=by rfl):QG cl pm X (.Tuple es k pos) (jc6 K n ts) (gT n b):=by subst c;exact jfw d h e a
end
end QK
namespace QD
open PySem L2 PySem.Spec PyProof.Rows
@[simp] def jbm(i:Nat)(p:PAf)(ρ:Rh):Option (D×Rh):=(pV i ρ).bind λd=>(p ρ).bind λds=>bif lim (ds.length+1) then some (.tup<|d::ds,ρ.set i none) else none
def jdr(u:PPs R ta p):DE R (VN<|jB (jV i) ta) (jbm i p):=by
 intro σ ρ G Z H O d w h e Q k;refine ob e λc l e=>ob e λI x e=>oc e λy e=>?_;cases e;have l:=Vf l;obtain⟨A,P,B,rfl,C,J,D⟩:=h.put (M0.mp l).1;obtain⟨v,E,r⟩:=C c l;refine⟨v,E,u w.zd h x λ{K s m F} n r1=>⟨by rw[M4,r1.length];exact qK y,λq o=>?_⟩⟩;have t:=n.widen w;have f:=t.wf.nd;have g2:Go Z H (A++P++B) s m ((P++F)++(A++B)):=t.drop (λa q=>by simp at q ⊢;rcases q with q | q | q | q<;>simp[q]) (by
  simp only[X6,N3] at f ⊢;refine⟨⟨f.2.1.1.2.1,f.1,λa j b g e=>f.2.2 b g a (.inl<|.inr j) e.symm⟩,⟨f.2.1.1.1,f.2.1.2.1,λa j b g=>f.2.1.2.2 a (.inl j) b g⟩,λa j b g e=>?_⟩;rcases j with j | j
  ·rcases g with g | g
   ·exact f.2.1.1.2.2 b g a j e.symm
   ·exact f.2.1.2.2 a (.inr j) b g e
  ·rcases g with g | g
   ·exact f.2.2 a j b (.inl<|.inl g) e
   ·exact f.2.2 a j b (.inr g) e)
 have ne:∀ a,m a≠none->a≠q:=λa h e=>h<|e▸o;have s1:Slots R s m (ρ.set i none) σ (A++B):=n.slots w.zd D;refine k (g2.trans<|Go.newF g2.wf o) (Rep.tupNew g2.wf.left o<|Reps.cons (n.rep w.zd r) r1)<|s1.frame (λa z=>.inl z) (λa z=>jg<|ne a<|g2.wf.zd a z) λa j=>jg<|ne a<|s1.dom a j
def jgn{x1}(i:Nat)  (a:QB cl X (.Name x xpos) (jV i)<|pV i) (h:QPs cl X es tr pr) (b:starEach (.Name x xpos::es) X.env=(false,eval (.Name x xpos) X.env)::starEach es X.env:=by rfl) :
  QE cl X (.Tuple (.Name x xpos::es) x1 pos) (VN<|jB (jV i) tr) (jbm i pr):=⟨Jx<|jI a.sem h.sem b,jdr h.den⟩
structure QGo(cl:Nat->Addr)(pm:List Nat)(X:Cx)(tg:Expr)(t:TG)(g:D->Rh->Option Rh):Prop where
 sem:PG X tg t
 den:DG ⟨X.K,cl⟩ pm t g
structure QGos(cl:Nat->Addr)(pm:List Nat)(X:Cx)(tg:List Expr)(t:TGs)(g:List D->Rh->Option Rh):Prop where
 sem:PGs X tg t
 den:DGs ⟨X.K,cl⟩ pm t g
section
variable {R:RC}{Z Z':Zn}{H H':Hp}{pm:List Nat}
noncomputable def vB:D->Option KA
 | .int i=>some<|.int i
 | .str s=>some<|.str s
 | _=>none
def yz(e:vB d=some k)(r:Rep R Z H d v O):v=kV (kaV k)/\O=[]:=by
 cases d with
 | int i=>cases e;rw[Rep] at r;exact r
 | str s=>cases e;rw[Rep] at r;exact r
 | _=>cases e
def Ko(h:kaV a=kaV b):a=b:=by
 cases a<;>cases b<;>simp only[kaV] at h
 ·cases h;rfl
 ·cases h
 ·cases h
 ·have:=jkM<|Sum.inr.inj h;rw[this]
noncomputable def JZ:List KA->List D->KA->Option D
 | k::ks,d::l,a=>if k=a then some d else JZ ks l a
 | _,_,_=>none
theorem kt:∀{ks:List KA}{l:List D}{vs:List V}{O:W5}{a:KA},Reps R Z H l vs O->ks.length=l.length ->
  (∀ d,JZ ks l a=some d->∃ v P,Vu ((ks.map kaV).zip vs) (kaV a)=some v/\Rep R Z H d v P)/\(JZ ks l a=none->Vu ((ks.map kaV).zip vs) (kaV a)=none)
 | [],l,vs,O,a,r,c=>⟨λd e=>(by cases l<;>cases e),λ_=>rfl⟩
 | k::ks,[],vs,O,a,r,c=>by simp at c
 | k::ks,x::l,vs,O,a,r,c=>by
  rw[Reps] at r;obtain⟨v,b,f,j,rfl,rfl,r1,r2⟩:=r;have g:=kt (a:=a) r2 (by simpa using c);by_cases e:k=a
  ·subst e;refine⟨λd h=>?_,λh=>?_⟩
   ·simp only[JZ,if_true] at h;cases h;exact⟨v,f,Jl rfl,r1⟩
   ·simp[JZ] at h
  ·have i:¬ (kaV k=kaV a):=λz=>e<|Ko z;have q:Vu (((k::ks).map kaV).zip (v::b)) (kaV a)=Vu ((ks.map kaV).zip b) (kaV a):=Jm i;rw[q];simp only[JZ,if_neg e];exact g
def DkA.rd(h:DkA o H a kvs):Rd H a (.dK kvs):=by
 cases o with
 | true=>exact .inl h
 | false=>exact h
def DGet.r(e:Rd H a<|.dK kvs):DGet H a (kV k) (Vu kvs k):=.inl ⟨kvs,k,e,rfl,rfl⟩
def Rep.dK_of(r:Rep R Z H (.dK o ks l) v O):∃ a vs O',v=.ref a/\Rd H a (.dK<|(ks.map kaV).zip vs)/\Reps R Z H l vs O'/\ks.length=l.length:=by
 rw[Rep] at r;obtain⟨a,vs,O',rfl,b,c,ea,_⟩:=r;exact⟨a,vs,O',rfl,ea.rd,b,c⟩
def jhR:PP R jbI (pC<|.dK true [] []):=by
 intro σ ρ Z H O d z s e Q k;cases e;intro p a;refine k (Go.newO (wf0 z) a) ?_;rw[Rep];exact⟨p,[],[],rfl,.empty,rfl,jr,rfl⟩
def yr:D->D->Option D
 | .dK _ ks l,y=>(vB y).bind λk=>JZ ks l k
 | _,_=>none
def jhx(c:PB R td pa)(f:PB R ty pb):PB R (jfX td ty) (p2 yr pa pb):=by
 intro σ ρ Z H O d z s e Q k;unfold p2 at e;refine ob e λx g e=>ob e λy e2 e=>?_;refine c z s g λ{v n q t} b r1=>?_;refine f b.wf.zd (b.slots z s) e2 λ{u A B C} g2 r2=>?_;have h:=g2.rep b.wf.zd r1;cases x with
 | dK o D l =>
  simp only[yr] at e;refine ob e λa e3 e=>?_;obtain⟨p,E,F,rfl,ea,i,j⟩:=h.dK_of;obtain⟨rfl,_⟩:=yz e3 r2;obtain⟨w,P,m,rw⟩:=(kt i j).1 d e;exact⟨p,w,rfl,m▸DGet.r ea,k (b.pair g2) rw⟩
 | _=>cases e
def kU(x y z:D):Option D:=match x with
 | .dK _ ks l=>(vB y).bind λk=>some<|(JZ ks l k).getD z
 | _=>none
@[simp] def p3(g:D->D->D->Option D)(pa:PF)(pb:PF)(pc:PF)(ρ:Rh):Option D:=(pa ρ).bind λx=>(pb ρ).bind λy=>(pc ρ).bind λz=>g x y z
def jdW(q:PB R td pa)(A:PB R ty pb)(B:PB R tx pc):PB R (Q5 td ty tx) (p3 kU pa pb pc):=by
 intro σ ρ Z H O d z s e Q k;unfold p3 at e;refine ob e λx C e=>ob e λy e2 e=>ob e λc D e=>?_;cases x with
 | dK o j l =>
  simp only[kU] at e;refine ob e λa e3 e=>?_;cases e;refine q z s C λ{v L M N} i r1=>?_;obtain⟨p,S,T,rfl,ea,U,V⟩:=r1.dK_of;refine⟨p,rfl,.inl ⟨_,ea⟩,?_⟩;refine A i.wf.zd (i.slots z s) e2 λ{u W X Y} g2 r2=>?_;have b:=i.pair g2;refine B g2.wf.zd (b.slots z s) D λ{t Z3 m E} g3 F=>?_;have n:=(g2.pair g3).rep i.wf.zd r1;rw[Rep] at n;obtain⟨p',G,I,J,f,g,h,_⟩:=n;cases J;obtain⟨rfl,_⟩:=yz e3 r2;cases ev:JZ j l a with
  | none=>exact⟨none,(kt f g).2 ev▸DGet.r h.rd,k (b.pair g3)<|show Rep R Z3 m ((JZ j l a).getD c) t E by rw[ev];exact F⟩
  | some d =>
   obtain⟨w,P,K,rw⟩:=(kt f g).1 d ev;exact⟨some w,K▸DGet.r h.rd,k (b.pair g3)<|show Rep R Z3 m ((JZ j l a).getD c) w P by rw[ev];exact rw⟩
 | _=>cases e
def zV(neg:Bool)(y x:D):Option D:=match x with
 | .dK _ ks l=>(vB y).bind λk=>some<|.bl<|neg != (JZ ks l k).isSome
 | _=>none
def jex{c ty:TE}{pa pb:PF}{neg:Bool}(h:PB R ty pa)(i:PB R c pb){σ:L2.St}{ρ:Rh}{Z:Zn}{H:Hp}{O:W5}{d:D}(z:Zd Z H)(s:Slots R Z H ρ σ O)(e:p2 (zV neg) pa pb ρ=some d)
  {Q:VK}(k:∀{v:V}{Z':Zn}{H':Hp}{P:W5},Go Z H [] Z' H' P->Rep R Z' H' d v P->Q v H'):ty σ H λy H1=>c σ H1 λx H2=>∃ a o,x=.ref a/\DGet H2 a y o/\Q (.bl<|neg != o.isSome) H2:=by
 unfold p2 at e;refine ob e λy j e=>ob e λx e2 e=>?_;refine h z s j λ{v t H1 A} b r1=>?_;refine i b.wf.zd (b.slots z s) e2 λ{u B H2 C} g2 r2=>?_;cases x with
 | dK o m l =>
  simp only[zV] at e;refine ob e λa e3 e=>?_;cases e;obtain⟨p,E,F,rfl,ea,f,g⟩:=r2.dK_of;obtain⟨rfl,_⟩:=yz e3 r1;cases ev:JZ m l a with
  | none =>
   refine⟨p,none,rfl,(kt f g).2 ev▸DGet.r ea,k (b.pair g2) ?_⟩;rw[ev];exact .bl_mk
  | some d =>
   obtain⟨w,P,n,q⟩:=(kt f g).1 d ev;refine⟨p,some w,rfl,n▸DGet.r ea,k (b.pair g2) ?_⟩;rw[ev];exact .bl_mk
 | _=>cases e
def jbg{a ty:TE}{pa pb:PF}(b:PB R ty pa)(c:PB R a pb):PP R (V4 ty a) (p2 (zV true) pa pb):=λz s e _ k=>by
 have:=jex (neg:=true) b c z s e k;simpa [V4] using this
noncomputable def jbX:List KA->List D->KA->D->List D
 | k::ks,x::l,a,d=>(if k=a then d else x)::jbX ks l a d
 | _,_,_,_=>[]
theorem wY:∀{ks:List KA}{l:List D}(a:KA) (d:D),ks.length=l.length->(jbX ks l a d).length=l.length
 | [],[],_,_,_=>rfl
 | [],_::_,_,_,h=>by simp at h
 | _::_,[],_,_,h=>by simp at h
 | k::ks,x::l,a,d,h=>by rw[jbX,M4,M4,wY a d<|by simpa using h]
theorem ut(rd:Rep R Z H d v [])(a:KA):∀{ks:List KA}{l:List D}{vs:List V}{O:W5},Reps R Z H l vs O->ks.length=l.length ->
  ∃ vs2 O2,Reps R Z H (jbX ks l a d) vs2 O2/\(ks.map kaV).zip vs2=((ks.map kaV).zip vs).map (λkv=>if kv.1=kaV a then(kv.1,v) else kv)/\O2.Sublist O
 | [],[],vs,O,r,b=>by
  rw[Reps] at r;obtain⟨rfl,rfl⟩:=r;exact⟨[],[],.empty,rfl,.slnil⟩
 | [],_::_,_,_,_,h=>by simp at h
 | _::_,[],_,_,_,h=>by simp at h
 | k::ks,x::l,vs,O,r,b=>by
  rw[Reps] at r;obtain⟨w,j,m,O2,rfl,rfl,r1,r2⟩:=r;obtain⟨c,f,g,e3,i⟩:=ut rd a r2 (by simpa using b);by_cases e:k=a
  ·subst e;refine⟨v::c,[]++f,?_,?_,?_⟩
   ·rw[jbX,if_pos rfl];exact Reps.cons rd g
   ·simp only[L6,U8,if_true,e3]
   ·exact i.trans<|List.sublist_append_right _ _
  ·have n:¬ (kaV k=kaV a):=λz=>e<|Ko z;refine⟨w::c,m++f,?_,?_,?_⟩
   ·rw[jbX,if_neg e];exact Reps.cons r1 g
   ·simp only[L6,U8,if_neg n,e3]
   ·exact List.Sublist.append (List.Sublist.refl _) i
theorem x6(a:KA):∀{ks:List KA}{vs:List V},ks.length=vs.length->(((ks.map kaV).zip vs).any λkv=>decide<|kv.1=kaV a)=decide (a∈ks)
 | [],vs,_=>by simp
 | k::ks,[],h=>by simp at h
 | k::ks,v::vs,h=>by
  rw[L6,U8,List.any_cons,x6 a<|by simpa using h];by_cases e:k=a
  ·subst e;simp
  ·have b:¬ (kaV k=kaV a):=λz=>e<|Ko z;have e2:¬ (a=k):=λz=>e z.symm;simp[b,e2]
def v9(ks:List KA)(l:List D)(a:KA)(d:D):List KA×List D:=if a∈ks then(ks,jbX ks l a d) else(ks++[a],l++[d])
def Ye(rd:Rep R Z H d v [])(a:KA)  (r:Reps R Z H l vs O) (b:ks.length=l.length) :
  ∃ vs2 O2,Reps R Z H (v9 ks l a d).2 vs2 O2/\(((v9 ks l a d).1).map kaV).zip vs2=kI ((ks.map kaV).zip vs) (kaV a) v/\O2.Sublist O/\(v9 ks l a d).1.length=(v9 ks l a d).2.length:=by
 have c:ks.length=vs.length:=by rw[r.length];exact b
 unfold v9 kI;rw[x6 a c];by_cases e:a∈ks
 ·rw[if_pos e,X8 e,if_pos rfl];obtain⟨f,P,r2,e2,g⟩:=ut rd a r b;exact⟨f,P,r2,e2,g,by rw[wY a d b];exact b⟩
 ·rw[if_neg e,X9 e,if_neg<|λz=>(nomatch z)];refine⟨vs++[v],O++[],r.append<|Reps.one rd,?_,by simp,by simp[b]⟩;rw[N6,List.zip_append<|by simpa using c];rfl
@[simp] def Ky(i:Nat)(pk:PF)(pv:PF)(ρ:Rh):Option Out:=(pv ρ).bind λd=>(pV i ρ).bind λx=>(jea x).bind λp=>(pk ρ).bind λy=>(vB y).bind λa=>bif frz d&&lim p.1.length then some (.nx<|ρ.set i<|some<|.dK true (v9 p.1 p.2 a d).1 (v9 p.1 p.2 a d).2) else none
def YY{ks:List α}{vs:List V}{f:α->β}(h:lim ks.length=true):((ks.map f).zip vs).length < sizeLine:=by rw[List.length_zip,L3];exact E7 (Nat.min_le_left _ _)<|Qy h
def jfQ{i:Nat}{ty tv:TE}{pk pv:PF}(n:PB R ty pk)(p:PB R tv pv):DS R pm (xt (jV i) ty tv) (Ky i pk pv):=by
 intro σ ρ Z H O o w s e F k;refine ob e λd r e=>ob e λx v e=>ob e λ⟨G,l⟩ f e=>ob e λy e2 e=>ob e λc e3 e=>oc e λg e=>?_;cases e;cases xv f;rw[M3] at g;refine p w.zd s r λ{u I J K} b r1=>?_;cases r1.nil g.1;have s1:=b.slots w.zd s;have m:=b.widen w;refine kE (P0:=[]) kQ m.wf s1 v rfl jar λa _ L M z h ea A put=>A<|n b.wf.zd s1 e2 λ{t N P Q} g2 r2=>?_;obtain⟨rfl,_⟩:=yz e3 r2;obtain⟨B,S,C,f,D,j⟩:=Ye (g2.rep b.wf.zd r1) c (g2.reps b.wf.zd z) h;obtain⟨T,g3,E⟩:=put jar j g2 C λq=>by simpa using D.count_le q
 refine⟨a,_,rfl,DPut.k (g2.at0 ea)<|YY g.2,?_⟩;rw[<- f];exact k (m.trans g3) E<|Keep.refl _ _
end
def jkp:QP cl X (.Dict [] [] pos) jbI (pC<|.dK true [] []):=⟨jeQ,jhR⟩
def jiI(e:Room k X.A)(c:QB cl X a ta pa)(d:QB cl X b tb pb)(f:jmI b:=by exact λ_ _=>rfl):QB cl X (.Subscript a b pos) (jfX ta tb) (p2 yr pa pb):=⟨jgR (YU e) c.sem d.sem f,jhx c.den d.den⟩
def jhi(d:Room k X.A)(a:QB cl X o to po)(b:QB cl X e te pe)(c:QB cl X f tf pf)(m:M2 X o "get" apos e f cpos:=by exact⟨rfl,rfl,rfl,rfl⟩) :
  QB cl X (.Call (.Attribute o "get" apos) [e,f] [] cpos) (Q5 to te tf) (p3 kU po pe pf):=⟨uz (YU d) a.sem b.sem c.sem m,jdW a.den b.den c.den⟩
def jhq(d:Room k X.A)(f:QB cl X (.Name x xpos) (jV i)<|pV i)(a:QB cl X b tb pb)(c:QB cl X e te pe)(g:swapsWith e (some<|.Subscript (.Name x xpos) b pos') pos.line X.env=pure false:=by rfl) :
  QS cl pm X (.Assign [.Subscript (.Name x xpos) b pos'] e pos) (xt (jV i) tb te) (Ky i pb pe):=⟨xz (YU d) f.sem a.sem c.sem g,jfQ a.den c.den⟩
@[simp] def keyOf_int(i:Int):vB (.int i)=some (.int i):=rfl
@[simp] def keyOf_str(s:List Nat):vB (.str s)=some (.str s):=rfl
@[simp] def opDIx_e(o:Bool)(ks:List KA)(l:List D)(y:D):yr (.dK o ks l) y=(vB y).bind λk=>JZ ks l k:=rfl
@[simp] def opDGet_e(o:Bool)(ks:List KA)(l:List D)(y z:D):kU (.dK o ks l) y z=(vB y).bind λk=>some ((JZ ks l k).getD z):=rfl
@[simp] def opDIn_e(neg o:Bool)(ks:List KA)(l:List D)(y:D):zV neg y (.dK o ks l)=(vB y).bind λk=>some (.bl<|neg != (JZ ks l k).isSome):=rfl
def JW:List D->Option (List<|KA×D)
 | []=>some []
 | .tup [k,v]::l=>(vB k).bind λa=>(JW l).bind λr=>some<|(a,v)::r
 | _::_=>none
def zX(ps:List<|KA×D):List KA×List D:=ps.foldl (λacc kv=>v9 acc.1 acc.2 kv.1 kv.2) ([],[])
def yW:List D->Option D
 | [.lst _ l]=>(JW l).bind λps=>bif frzs (ps.map (·.2))&&lim ps.length then some (.dK true (zX ps).1 (zX ps).2) else none
 | _=>none
theorem VQ:∀{l:List D}{ps:List (KA×D)}{ys:List V}{O:W5},JW l=some ps->Reps R Z H l ys O->frzs (ps.map (·.2))=true ->
  ∃ ws:List V,Reps R Z H (ps.map (·.2)) ws []/\ys.length=ps.length/\∀(j:Nat) (y:V),ys[j]?=some y->∃ kv t,((ps.map λp=>kaV p.1).zip ws)[j]?=some kv/\y=.ref t/\SqT R.K H t [kV kv.1,kv.2]
 | [],ps,ys,O,e,r,b=>by
  cases e;rw[Reps] at r;obtain⟨rfl,rfl⟩:=r;exact⟨[],.empty,rfl,λj y c=>by simp at c⟩
 | d::l,ps,ys,O,e,r,b=>by
  match d,e with
  | .tup [k,v],e =>
   simp only[JW] at e;refine ob e λa h e=>ob e λi e2 e=>?_;cases e;rw[Reps] at r;obtain⟨A,m,B,C,rfl,rfl,r1,r2⟩:=r;rw[L6,Y1,M3] at b;obtain⟨ws,f,n,q⟩:=VQ e2 r2 b.2;rw[Rep] at r1;obtain⟨t,E,rfl,o,s⟩:=r1;obtain⟨u,w,F,G,rfl,-,x,g⟩:=s.two_of;obtain⟨rfl,_⟩:=yz h x;have z:=g.nil b.1;subst z;refine⟨w::ws,Reps.cons (O:=[]) (P:=[]) g f,by simp[n],λj y c=>?_⟩;cases j with
   | zero =>
    cases c;exact⟨(kaV a,w),t,rfl,rfl,o.sq⟩
   | succ j=>exact q j y (by simpa using c)
theorem Qi:∀{ps:List (KA×D)}{ws:List V}{ks:List KA}{l:List D}{us:List V},Reps R Z H (ps.map (·.2)) ws []->Reps R Z H l us []->ks.length=l.length ->
  ∃ us',Reps R Z H (ps.foldl (λacc kv=>v9 acc.1 acc.2 kv.1 kv.2) (ks,l)).2 us' []/\(((ps.foldl (λacc kv=>v9 acc.1 acc.2 kv.1 kv.2) (ks,l)).1).map kaV).zip us'=(((ps.map λp=>kaV p.1).zip ws).foldl (λa kv=>kI a kv.1 kv.2) ((ks.map kaV).zip us)) /\
   (ps.foldl (λacc kv=>v9 acc.1 acc.2 kv.1 kv.2) (ks,l)).1.length=(ps.foldl (λacc kv=>v9 acc.1 acc.2 kv.1 kv.2) (ks,l)).2.length
 | [],ws,ks,l,us,b,r,c=>⟨us,r,by simp,c⟩
 | p::ps,ws,ks,l,us,b,r,c=>by
  rw[L6,Reps] at b;obtain⟨w,g,o,q,rfl,e,r1,r2⟩:=b;obtain⟨rfl,rfl⟩:=List.append_eq_nil_iff.mp e.symm;obtain⟨h,i,j,e3,k,d⟩:=Ye r1 p.1 r c;have:i=[]:=List.sublist_nil.mp k;subst this;obtain⟨us',m,n,f⟩:=Qi (ps:=ps) r2 j d;refine⟨us',m,?_,f⟩;rw[L6,U8,X7,X7,n,e3]
def jg3:BC R (λxs H Q=>∃(p:Addr) (ys:List V) (ps:List<|Key×V),xs=[.ref p]/\SqL R.K H p ys/\ys.length=ps.length/\ps.length<=100000 /\
  (∀(j:Nat) (y:V),ys[j]?=some y->∃ kv t,ps[j]?=some kv/\y=.ref t/\SqT R.K H t [kV kv.1,kv.2])/\∀ D,H D=none->Q (.ref D) (upd H D<|.dK<|ps.foldl (λa kv=>kI a kv.1 kv.2) [])) yW:=by
 intro Z H xs d C O z r e Q k
 match xs,e,r with
 | [.lst o l],e,r =>
  simp only[yW] at e;refine ob e λps n e=>oc e λf e=>?_;cases e;rw[M3] at f;obtain⟨v,rfl,r1⟩:=r.one_of;obtain⟨p,ys,E,rfl,s,u⟩:=r1.lst_of;obtain⟨ws,b,w,q⟩:=VQ n u f.1;obtain⟨g,A,B,i⟩:=Qi (ks:=[]) (l:=[]) (us:=[]) b .empty rfl;have c:ws.length=ps.length:=by rw[b.length];simp
  refine⟨p,ys,(ps.map λp=>kaV p.1).zip ws,rfl,s.sq,by simp[w,c],by simp[c];exact E1 f.2,q,λD m=>?_⟩;refine k (Go.newO (wf0 z) m) ?_;have ne:∀ a,H a≠none->a≠D:=λa h e=>h<|e▸m;rw[Rep];exact⟨D,g,[],rfl,A.frame (λa z=>z) (λa h=>jg<|ne a<|z a h)<|λa h=>(nomatch h),i,by show upd H D _ D=some _;rw[jr];exact congrArg (λx=>some<|HO.dK x) B.symm,rfl⟩
@[simp] def fDict_e(o:Bool)(l:List D):yW [.lst o l]=(JW l).bind λps=>bif frzs (ps.map (·.2))&&lim ps.length then some (.dK true (zX ps).1 (zX ps).2) else none:=rfl
end QD
namespace QK
open PySem L2 QD PySem.Spec PyProof.Rows
end QK
namespace QD
open PySem L2 PySem.Spec PyProof.Rows
theorem Reps.rev:∀{l:List D}{vs:List V},Reps R Z H l vs []->Reps R Z H l.reverse vs.reverse []
 | [],vs,r=>by
  rw[Reps] at r;obtain⟨rfl,_⟩:=r;exact .empty
 | d::l,vs,r=>by
  rw[Reps] at r;obtain⟨v,a,b,c,rfl,e,r1,r2⟩:=r;obtain⟨rfl,rfl⟩:=List.append_eq_nil_iff.mp e.symm;rw[List.reverse_cons,List.reverse_cons];exact(Reps.rev r2).append (.one r1)
@[simp] def jlK(i:Nat)(ρ:Rh):Option Out:=(pV i ρ).bind λx=>(QZ x).bind λl=>bif frzs l then some (.nx<|ρ.set i<|some<|.lst true l.reverse) else none
def jks:DS R pm (JK<|jli R.K "list" KN<|jV i) (jlK i):=by
 intro σ ρ Z H O o w s e j k;refine ob e λx d e=>ob e λl f e=>oc e λg e=>?_;cases e;cases Jr f;unfold JK jli;refine kE (P0:=[]) kQ w s d rfl qH λa _ b m c _ ea h put=>h ⟨.inl ⟨rfl,b,SqL.of ea⟩,?_⟩;cases c.nil g;obtain⟨n,g2,s2⟩:=put qH trivial (Go.id w.zd) c.rev λq=>by simp
 exact⟨a,b,rfl,rfl,ea,k g2 s2<|Keep.refl _ _⟩
def ji1(d:QB cl X (.Name x xpos) (jV i)<|pV i)
  (a:attributeBase (.Name x xpos) "reverse" X.env (eval (.Name x xpos) X.env)=eval (.Name x xpos) X.env:=by rfl) (b:(apos.endLine==cpos.line)=true:=by rfl)
  (c:swapsWith (.Call (.Attribute (.Name x xpos) "reverse" apos) [] [] cpos) none pos.line X.env=pure false:=by rfl) :
  QS cl pm X (.Expr (.Call (.Attribute (.Name x xpos) "reverse" apos) [] [] cpos) pos) (JK<|jli X.K "list" KN<|jV i) (jlK i) :=
 ⟨YV (jiF PySem.F.plainAttrs_list PySem.F.slot_list_reverse PySem.F.type_list_reverse jam d.sem a b) c,jks⟩
end QD
namespace L2
open PySem PySem.Spec PyProof.Rows
end L2
namespace QD
open PySem L2 PySem.Spec PyProof.Rows
structure QDs(cl:Nat->Addr)(X:Cx)(es:List Expr)(ta:TA)(f:FA):Prop where
 sem:PA X es ta
 den:DA ⟨X.K,cl⟩ ta f
def jke:QDs cl X [] JY jey:=⟨vX,jkU⟩
def jhN(h1:QE cl X e te fE)(h2:QDs cl X es tr fr)(a:starEach (e::es) X.env=(false,eval e X.env)::starEach es X.env:=by rfl):QDs cl X (e::es) (jB te tr) (yY fE fr):=⟨jI h1.sem h2.sem a,jh8 h1.den h2.den⟩
def jjV{x1}(h:QDs cl X es tr fr):QE cl X (.Tuple es x1 pos) (VN tr) (jc7 fr):=⟨Jx h.sem,jjL h.den⟩
@[simp] def dTup_e:jc7 fa ρ=(fa ρ).bind λx=>bif decide (x.1.length<=1000) then some (.tup x.1,x.2) else none:=by
 unfold jc7 dCB;cases fa ρ with
 | none=>rfl
 | some x =>
  obtain⟨d,r⟩:=x;dsimp only[Option.bind];cases decide (d.length<=1000)<;>rfl
section
variable {R:RC}{Z Z':Zn}{H H':Hp}{pm:List Nat}
@[simp] def jcj(i:Nat)(pk:PF)(g:Int->Int->Int)(pv:PF)(ρ:Rh):Option Out:=(pk ρ).bind λy=>(vB y).bind λc=>(pV i ρ).bind λx=>(jea x).bind λkl=>(JZ kl.1 kl.2 c).bind λm=>(ve m).bind λm=>(pv ρ).bind λn=>(ve n).bind λn =>
  bif lim kl.1.length then some (.nx<|ρ.set i<|some<|.dK true (v9 kl.1 kl.2 c<|.int<|g m n).1 (v9 kl.1 kl.2 c<|.int<|g m n).2) else none
def vf(i:Nat)(L:Ln)(pk:PF)(g:Int->Int->Int)(pv:PF)(ρ:Rh):Option Out:=(pk ρ).bind λy=>(vB y).bind λc=>(pV i ρ).bind λt=>(L t).bind λy=>(jea y.1).bind λkl=>(JZ kl.1 kl.2 c).bind λm=>(ve m).bind λm=>(pv ρ).bind λn=>(ve n).bind λn =>
  bif lim kl.1.length then some (.nx<|ρ.set i<|some<|y.2<|.dK true (v9 kl.1 kl.2 c<|.int<|g m n).1 (v9 kl.1 kl.2 c<|.int<|g m n).2) else none
def Kr{i:Nat}{L:Ln}{tb ty tv:TE}{pk pv:PF}{g:Int->Int->Int}{rd:V->V->Hp->VK->Prop}(j:∀{m n:Int}{H:Hp}{Q:VK},Q (.int<|g m n) H->rd (.int m) (.int n) H Q)(B:jc5 R tb i L)(C:PB R ty pk)(D:PB R tv pv):DS R pm (Qh tb ty tv rd) (vf i L pk g pv):=by
 intro σ ρ Z H O o w s e U k;refine ob e λq E e=>ob e λc e5 e=>ob e λt hi e=>ob e λ⟨y,W⟩ e3 e=>ob e λ⟨X,l⟩ F e=>ob e λx G e=>ob e λm I e=>ob e λY J e=>ob e λn e2 e=>oc e λd e=>?_;cases e;cases xv F;cases jD I;cases jD e2;refine kE (P0:=[]) B w s hi e3 jar λa _ vs O' A f ea K put=>K<|C w.zd s E λ{z Z1 H1 P1} h r1=>?_;obtain⟨rfl,_⟩:=yz e5 r1;obtain⟨mv,P3,p,r⟩:=(kt (a:=c) A f).1 _ G;obtain⟨rfl,_⟩:=r.int_of;refine⟨a,.int m,rfl,by rw[<- p];exact DGet.k<|h.at0 ea,D h.wf.zd (h.slots w.zd s) J λ{u Z2 H2 P4} g2 r2=>?_⟩;obtain⟨rfl,_⟩:=r2.int_of;have b:=h.trans g2;obtain⟨M,O2,N,e7,P,v⟩:=Ye (Rep.int_mk (i:=g m n)) c (b.reps w.zd A) f;obtain⟨O3,S,T⟩:=put jar v b N λq=>by simpa using P.count_le q
 refine j ⟨_,DPut.k (b.at0 ea)<|YY d,?_⟩;rw[<- e7];exact k S T<|Keep.refl _ _
def jfZ{i:Nat}{ty tv:TE}{pk pv:PF}{g:Int->Int->Int}{rd:V->V->Hp->VK->Prop}(a:∀{m n:Int}{H:Hp}{Q:VK},Q (.int<|g m n) H->rd (.int m) (.int n) H Q)(b:PB R ty pk)(c:PB R tv pv):DS R pm (Qh (jV i) ty tv rd) (jcj i pk g pv):=Kr a kQ b c
noncomputable def kaD:KA->D
 | .int i=>.int i
 | .str s=>.str s
@[simp] def yo(pd:PF)(ρ:Rh):Option D:=(pd ρ).bind λd=>(jaI d).bind λk=>bif frzs k.2 then some (.lst true<|(k.1.zip k.2).map λp=>.tup [kaD p.1,p.2]) else none
def z6(a:KA):Rep R Z H (kaD a) (kV<|kaV a) []:=by
 cases a with
 | int i=>exact .int_mk
 | str s=>exact .str_mk
def jcn(h:PB R td pd):PP R (z5 td) (yo pd):=by
 intro σ ρ Z H O d z s e Q k;refine ob e λx e1 e=>ob e λ⟨B,l⟩ e2 e=>oc e λhf e=>?_;cases e;obtain⟨o,rfl⟩:=jd6 e2;refine h z s e1 λ{v I y P} g r=>?_;rw[Rep] at r;obtain⟨a,A,O',rfl,rs,J,ea,f⟩:=r;refine⟨a,_,rfl,(show Rd y a _ by cases o with | true=>exact .inl ea | false=>exact ea),λt m T F U has=>?_⟩;have n:=List.nodup_cons.mp U;have W:=rs.frozen hf;have X:=rs.length;have S:∀ b,y b≠none->jR y m ((B.map kaV).zip A) t b=y b:=λb f=>by
  unfold jR;rw[if_neg λq=>f<|by rw[q];exact T,kj λq=>f<|has b q]
 have zd:=g.wf.zd;have K:∀ b∈m,jR y m ((B.map kaV).zip A) t b≠none:=λb f=>by
  obtain⟨j,hj⟩:=List.mem_iff_getElem?.mp f;have Y:j < ((B.map kaV).zip A).length:=by rw[<- F];exact(M0.mp hj).1
  unfold jR;rw[if_neg<|show ¬ b=t from λq=>n.1<|q▸f,Kq n.2 hj<|E4 Y];exact λz=>nomatch z
 have L:jR y m ((B.map kaV).zip A) t t=some (.lst<|m.map V.ref):=by unfold jR;rw[if_pos rfl]
 have g2:Go I y [] (λb=>I b \/ b∈m) (jR y m ((B.map kaV).zip A) t) [t]:=by
  refine⟨⟨by simp,λb f q=>?_,λb f=>?_,λb q=>?_⟩,λb q=>.inl q,λb f _=>S b f,λb q=>?_,λb f=>?_,λb f=>?_⟩
  ·rw[M9.mp f] at q;rcases q with q | q
   ·exact zd _ q T
   ·exact n.1 q
  ·rw[M9.mp f,L];exact λz=>nomatch z
  ·rcases q with q | q
   ·rw[S b<|zd b q];exact zd b q
   ·exact K b q
  ·rcases q with q | q
   ·exact .inl q
   ·exact .inr<|.inr<|has b q
  ·rw[M9.mp f];exact .inr T
  ·rw[S b f];exact f
 refine k (g.trans g2) ?_;rw[Rep];refine⟨t,m.map V.ref,[],rfl,?_,L,rfl⟩;have rs2:Reps R (λb=>I b \/ b∈m) (jR y m ((B.map kaV).zip A) t) l A []:=W.frame (λb q=>.inl q) (λb q=>S b<|zd b q) (λb f=>nomatch f);have key:∀(w:W5) (i:List KA) (G:List D) (C:List V),Reps R (λb=>I b \/ b∈m) (jR y m ((B.map kaV).zip A) t) G C []->i.length=G.length->w.length=i.length ->
   (∀(j:Nat) (b:Addr) (c:KA) (u:V),w[j]?=some b->i[j]?=some c->C[j]?=some u->b∈m/\jR y m ((B.map kaV).zip A) t b=some (.tup [kV<|kaV c,u])) ->
   Reps R (λb=>I b \/ b∈m) (jR y m ((B.map kaV).zip A) t) ((i.zip G).map λp=>.tup [kaD p.1,p.2]) (w.map V.ref) []:=by
  intro w
  induction w with
  | nil =>
   intro i G C _ hk E _;have:i=[]:=List.length_eq_zero_iff.mp E.symm;subst this;exact .empty
  | cons b w ih =>
   intro i G C rr hk E hp;cases i with
   | nil=>simp at E
   | cons c i =>
    cases G with
    | nil=>simp at hk
    | cons d G =>
     rw[Reps] at rr;obtain⟨u,M,O1,O2,rfl,eO,r1,r2⟩:=rr;obtain⟨rfl,rfl⟩:=List.append_eq_nil_iff.mp eO.symm;obtain⟨f,eb⟩:=hp 0 b c u rfl rfl rfl;refine Reps.cons (O:=[]) (P:=[]) ?_<|ih i G M r2 (by simpa using hk) (by simpa using E) λj b' c' u' N h2 h3=>hp (j+1) b' c' u' (by simpa using N) (by simpa using h2) (by simpa using h3);rw[Rep];exact⟨b,[kV<|kaV c,u],rfl,.inl ⟨.inr f,.inl eb⟩,Reps.cons (O:=[]) (P:=[]) (z6 c)<|.one r1⟩
 refine key m B l A rs2 J (by rw[F,List.length_zip,L3,X,J];simp) λj b c u N h2 h3=>⟨List.mem_of_getElem? N,?_⟩;have hz:((B.map kaV).zip A)[j]?=some (kaV c,u):=by
  rw[List.getElem?_zip_eq_some];exact⟨by rw[List.getElem?_map,h2];rfl,h3⟩
 unfold jR;rw[if_neg<|show ¬ b=t from λq=>n.1<|q▸List.mem_of_getElem? N,Kq n.2 N hz]
end
section
variable {cl:Nat->Addr}{pm:List Nat}{X:Cx}{a b e o tg iter:Expr}{body:List Stmt}{ta tb te to:TE}{pa pb pe po:PF}{pos:Pos}{k:Nat}{t:TG}{g:D->Rh->Option Rh}{fE:FE}{ts:TS}{f:FS}
def jeM{i:Nat}{x:Str}{a tpos:Pos}(f:Room k X.A)(g:QB cl X (.Name x a) (jV i)<|pV i)(c:QB cl X b tb pb)(d:QB cl X e te pe)
  (h:∀ ov iv new,augStore b ov iv new=(do holding [new,ov,iv] (setItem ov iv new);release [new,ov,iv] [];pure .next):=by intros;rfl) :
  QS cl pm X (.AugAssign (.Subscript (.Name x a) b tpos) .Sub e pos) (Qh (jV i) tb te jjC) (jcj i pb (λm n=>m - n) pe):=⟨Kg (YU f) g.sem c.sem d.sem uE h,jfZ (λq=>⟨_,_,rfl,rfl,q⟩) c.den d.den⟩
def jeb(f:X.calm=true)(g:X.mg "list" = none)(e:QB cl X o to po)(h:Gl X "list":=by rfl)
  (a:attributeBase o "items" X.env (eval o X.env)=eval o X.env:=by rfl) (b:(apos.endLine==cpos.line)=true:=by rfl)
  (i:starEach [.Call (.Attribute o "items" apos) [] [] cpos] X.env=(false,eval (.Call (.Attribute o "items" apos) [] [] cpos) X.env)::starEach [] X.env:=by rfl)
  (c:(backTo pos<|starEach [] X.env).any (·.1)=false:=by rfl)
  (d:backTo pos (starEach [.Call (.Attribute o "items" apos) [] [] cpos] X.env)=[(false,eval (.Call (.Attribute o "items" apos) [] [] cpos) X.env)]:=by rfl) :
  QP cl X (.Call (.Name "list" p) [.Call (.Attribute o "items" apos) [] [] cpos] [] pos) (z5 to) (yo po):=⟨jaW f h g Vy e.sem a b i c d,jcn e.den⟩
end
def spM(R:RC)(m:List D->Option (D×D))(n j:Nat):Sp:=λvs H Q _=>∃ Z ds d c O u,WF Z H O/\ds.length=n/\Reps R Z H ds vs O/\vs[j]?=some u/\m ds=some (d,c) /\
 ∀{v:V}{Z':Zn}{H':Hp}{P O':W5},Go Z H O Z' H' (P++O')->Rep R Z' H' d v P->Rep R Z' H' c u O'->Q v H'
def Vl(j:Nat):Out->Option (D×D)
 | .rt d ρ=>(pV j ρ).bind λc=>some (d,c)
 | .nx ρ=>(pV j ρ).bind λc=>some (.non,c)
 | _=>none
def fnM(n j:Nat)(f:FS):List D->Option (D×D):=λds=>(f<|ds.map some++List.replicate (n - ds.length) none).bind (Vl j)
def kh:fnM n j f ds=(f<|ds.map some++List.replicate (n - ds.length) none).bind (Vl j):=rfl
def Go.pick(g:Go Z H O Z' H'<|P++(A++Q++B)):Go Z H O Z' H' (P++Q):=g.drop (λa h=>by simp at h ⊢;rcases h with h | h<;>simp[h]) (by
 have nd:=g.wf.nd;simp only[X6,N3] at nd ⊢;exact⟨nd.1,nd.2.1.1.2.1,λa c b d=>nd.2.2 a c b<|.inl<|.inr d⟩)
def jh4(z:DS R [j] ts f)(h:spM R (fnM N.length j f) n j vs H Q E):ts { nx:=λ_ H'=>Q .non H',rt:=Q } (L2.start N vs) H:=by
 obtain⟨Z,p,d,c,O,u,w,L,r,C,e,k⟩:=h;rw[kh] at e;have s:Slots R Z H (p.map some++List.replicate (N.length - p.length) none) (L2.start N vs) O:=by
  have q:=JE r<|JS (R:=R) (Z:=Z) (H:=H)<|N.length - p.length;unfold L2.start;rw[r.length];rw[N1] at q;exact q
 have t:(L2.start N vs)[j]?=some (some u):=by
  unfold L2.start;have F:j < vs.length:=(M0.mp C).1;rw[List.getElem?_append_left<|by simpa using F,List.getElem?_map,C];rfl
 have key:∀{a:Rh}{l:L2.St}{m:Zn}{H':Hp}{P x:W5}{v:V},a[j]?=some (some c)->Go Z H O m H' (P++x)->Rep R m H' d v P->Slots R m H' a l x->Keep [j] (L2.start N vs) l->Q v H':=by
  intro a l m H' P x v b g y i kp;obtain⟨A,M,B,rfl,G,_,_⟩:=i.put (M0.mp b).1;obtain⟨S,I,J⟩:=G c b;have:l[j]?=some (some u):=by rw[kp j<|by simp,t]
  rw[I] at this;cases this;exact k g.pick y J
 refine ob e λo D e=>?_;cases o with
 | rt T a=>exact ob e λK b e=>by cases e;exact z w s D λg y i kp=>key (Vf b) g y i kp
 | nx a=>exact ob e λK b e=>by cases e;exact z w s D λg i kp=>key (P:=[]) (Vf b) (by simpa using g) .non_mk i kp
 | bk a=>cases e
 | ct a=>cases e
def jg2(h:spM R m n j vs H Q E):vs.length=n:=by
 obtain⟨Z,b,d,c,O,u,w,a,r,_⟩:=h;rw[r.length,a]
def PJ(R:RC)(i j:Nat)(ta:TA)(p:PAf):Prop:=∀{σ:L2.St}{ρ:Rh}{Z:Zn}{H:Hp}{O:W5}{ds:List D},Zd Z H->Slots R Z H ρ σ O->p ρ=some ds->∀{u:V},σ[i]?=some (some u) ->
 ∀{Q:List V->Hp->Prop},(∀{v1 v2:List V}{Z':Zn}{H':Hp},Go Z H [] Z' H' []->v1.length=j->Reps R Z' H' (ds.take j) v1 []->Reps R Z' H' (ds.drop j) v2 []->Q (v1++u::v2) H')->ta σ H Q
@[simp] def pFs(p:PAf)(ρ:Rh):Option (List D):=(p ρ).bind λds=>bif frzs ds then some ds else none
@[simp] def dCallM(m:List D->Option (D×D))(i:Nat)(j:Nat)(p:PAf)(ρ:Rh):Option (D×Rh):=(p ρ).bind λds=>(pV i ρ).bind λc=>(m<|ds.take j++c::ds.drop j).bind λr=>some (r.1,ρ.set i<|some r.2)
def Go.turn(g:Go Z H O Z' H'<|A++(P++Q)++B):Go Z H O Z' H' (P++(A++Q++B)):=g.drop (λa h=>by simp at h ⊢;rcases h with h | h | h | h<;>simp[h]) (by
 have nd:=g.wf.nd;simp only[X6,N3] at nd ⊢;obtain⟨⟨j,⟨k,l,m⟩,f⟩,n,i⟩:=nd;refine⟨k,⟨⟨j,l,λa d b c=>f a d b<|.inr c⟩,n,λa d b c=>i a (d.elim .inl λq=>.inr<|.inr q) b c⟩,λa d b c e=>?_⟩;rcases c with(c | c) | c
 ·exact f b c a (.inl d) e.symm
 ·exact m a d b c e
 ·exact i a (.inr<|.inl d) b c e)
structure QJ(cl:Nat->Addr)(X:Cx)(i j:Nat)(es:List Expr)(ta:TA)(p:PAf):Prop where
 sem:PA X es ta
 den:PJ ⟨X.K,cl⟩ i j ta p
 n:∀ ρ ds,p ρ=some ds->ds.length+1=es.length/\j<=ds.length
def jiB{cl:Nat->Addr}{P:Program}{w:World}{K:W4}{mg:W6}{base:Heap}{x qual:Str}{a:Stmt}{fa:Addr}{fd:FuncData}{N ps:List Str}{k n j:Nat}{fs:FS}(F:Fun K x qual a fa fd)(c:FnScope N ps<|jA a)(d:ps.length=n)
  (b:∀(cdv:Value) (A:Around) (outer:List Env) (s:Shared) (H:Hp) (E:XK),Room k (A.deeper<|envOfC qual (jA a) s.heap.objs.size fa cdv) ->
   ∃ ts,QSs cl [j] (jfz CX0 P w K mg base N qual (jA a) fa cdv A outer s H E).nox (vw a) ts fs):FnOk P w K mg base CX0 (k+1) fa fd ps (spM ⟨K,cl⟩ (fnM N.length j fs) n j):=by
 refine F.ok c (λe H Q E h=>by rw[jg2 h,d]) λcdv A outer s H e Q E f h=>?_;obtain⟨ts,q⟩:=b cdv A outer s H E f;exact⟨ts,q.sem,jh4 q.den h⟩
def oF(g:D->D->Option D):D->D->Option D:=λx y=>(g x y).bind λd=>bif frz d then some d else none
def BC.o(h:BC R r g):DC R r g:=λw r1 e _ k=>h w.zd r1 e λg3 a=>k (g3.widen w).dropR a
def DIt(R:RC)(wi:TI)(fi:FA):Prop:=∀{σ:L2.St}{ρ ρ':Rh}{Z:Zn}{H:Hp}{O:W5}{xs:List D},WF Z H O->Slots R Z H ρ σ O->fi ρ=some (xs,ρ') ->
 ∀{Q:It->Hp->Prop},(∀{J:It}{Z':Zn}{H':Hp}{O':W5},Go Z H O Z' H' O'->Slots R Z' H' ρ' σ O'->jiq R J Z' H' xs->Q J H')->wi σ H Q
structure QTE(cl:Nat->Addr)(X:Cx)(e:Expr)(tt:TT)(f:FT'):Prop where
 sem:PT X e tt
 den:DT ⟨X.K,cl⟩ tt f
structure QWE(cl:Nat->Addr)(X:Cx)(e:Expr)(tt:TT)(f:FT'):Prop where
 sem:PW X e tt
 den:DT ⟨X.K,cl⟩ tt f
def jdP{cl:Nat->Addr}{X:Cx}{e:Expr}{es:List Expr}{tr:TA}{fr:FA}{pos:Pos}{K:W4}{x:Str}{p:Pos}{id:String}{r:List V->Hp->VK->Prop}{c:List D->Option D}(f:qZ X (.builtin id) r)(g:BC ⟨X.K,cl⟩ r c)(h:X.mg x=none)(i:bootBuiltins x=some (.builtin id))(d:QDs cl X (e::es) tr fr)(j:Gl X x:=by rfl)
  (k:x≠"__name__":=by decide) (a:(x==("__debug__" : Str))=false:=by decide) (l:starEach (e::es) X.env=(false,eval e X.env)::starEach es X.env:=by rfl) (b:(backTo pos<|starEach es X.env).any (·.1)=false:=by rfl) :
  QE cl X (.Call (.Name x p) (e::es) [] pos) (tCB r tr) (dCB c fr):=⟨uh f j h i d.sem k a l b,jkE (BC.o g) d.den⟩
structure QIE(cl:Nat->Addr)(X:Cx)(tg e:Expr)(wi:TI)(p:FA):Prop where
 sem:PI X tg e wi
 den:DIt ⟨X.K,cl⟩ wi p
def jdM:∀(ρ:Rh) (ds:List D),pN ρ=some ds->ds.length=0:=λρ ds h=>by cases h;rfl
def jbc(h:∀(ρ:Rh) (ds:List D),pr ρ=some ds->ds.length=n):∀(ρ:Rh) (ds:List D),ja p pr ρ=some ds->ds.length=n+1:=λρ ds e=>by
 rw[ja] at e;refine ob e λd a e=>ob e λl e2 e=>?_;cases e;rw[M4,h ρ l e2]
def jiG:D->Option (List D)
 | .lst _ m=>bif frzs m then some m else none
 | .tup m=>bif frzs m then some m else none
 | _=>none
def jit(i:Nat)(p:PF)(ρ:Rh):Option Out:=(p ρ).bind λe=>(jiG e).bind λm=>(pV i ρ).bind λx=>(QZ x).bind λl=>bif lim (l.length+m.length) then some (.nx<|ρ.set i<|some<|.lst true<|l++m) else none
def jkW(h:PB R te p):DS R pm (JK<|tBM R.K "list" (jf0 R.K) (jV i)<|jB te JY) (jit i p):=by
 intro σ ρ Z H O o w s e I k;refine ob e λd z e=>ob e λm e2 e=>ob e λx A e=>ob e λl e3 e=>oc e λc e=>?_;cases e;cases Jr e3;unfold JK tBM;refine kE (P0:=[]) kQ w s A rfl qH λa _ t J v _ ea B put=>B ⟨.inl ⟨rfl,t,SqL.of ea⟩,h w.zd s z λ{u C f L} g r1=>?_⟩;have D:∃ b zs,u=.ref b/\(SqL R.K f b zs \/ SqT R.K f b zs)/\Reps R C f m zs []:=by
  cases d with
  | lst M E =>
   refine oc e2 λj e2=>?_;cases e2;obtain⟨b,zs,F,rfl,n,r⟩:=r1.lst_of;exact⟨b,zs,rfl,.inl n.sq,r.frozen j⟩
  | tup E =>
   refine oc e2 λj e2=>?_;cases e2;obtain⟨b,zs,rfl,n,r⟩:=r1.tup_of;exact⟨b,zs,rfl,.inr n,r.frozen j⟩
  | _=>cases e2
 obtain⟨b,zs,rfl,G,y⟩:=D;obtain⟨N,g2,s2⟩:=put qH trivial g ((g.reps w.zd v).append y) λq=>by simp
 exact⟨a,b,t,zs,rfl,rfl,g.at0 ea,G,by rw[v.length,y.length];exact qK c,k g2 s2<|Keep.refl _ _⟩
noncomputable def zW:List D->Option D
 | [.bl b]=>some<|.int (if b then 1 else 0)
 | _=>none
def jh2:BC R (λxs H Q=>∃ b:Bool,xs=[.bl b]/\Q (.int<|if b then 1 else 0) H) zW:=by
 intro Z H xs d a O z r e Q k;unfold zW at e;split at e
 ·rename_i b;cases e;obtain⟨v,rfl,r1⟩:=r.one_of;obtain⟨rfl,_⟩:=r1.bl_of;exact⟨b,rfl,k (Go.id z) .int_mk⟩
 ·cases e
@[simp] def fIntB_e(b:Bool):zW [.bl b]=some (.int<|if b then 1 else 0):=rfl
def ji2(j:QB cl X (.Name x xpos) (jV i)<|pV i)(h:QB cl X e te pe)(b:attributeBase (.Name x xpos) "extend" X.env (eval (.Name x xpos) X.env)=eval (.Name x xpos) X.env:=by rfl)
  (d:((backTo cpos<|starEach [e] X.env).all (λx=>!x.1)&&(backToKw cpos<|keywordEach [] X.env).all (λx=>x.1.isSome)
   && decide ([e].length+([]:List Keyword).length+(if([]:List Keyword).isEmpty then 0 else 1) < 30))=true:=by rfl)
  (c:(apos.endLine==cpos.line)=true:=by rfl) (g:starEach [e] X.env=(false,eval e X.env)::starEach [] X.env:=by rfl) (a:(backTo cpos<|starEach [] X.env).any (·.1)=false:=by rfl)
  (f:swapsWith (.Call (.Attribute (.Name x xpos) "extend" apos) [e] [] cpos) none pos.line X.env=pure false:=by rfl) :
  QS cl pm X (.Expr (.Call (.Attribute (.Name x xpos) "extend" apos) [e] [] cpos) pos) (JK<|tBM X.K "list" (jf0 X.K) (jV i)<|jB te JY) (jit i pe) :=
 ⟨YV (jhl PySem.F.plainAttrs_list PySem.F.slot_list_extend PySem.F.type_list_extend jgY j.sem (jI h.sem vX g) b d c g a) f,jkW h.den⟩
end QD
namespace QD
open PySem L2
def jb(h:n<=100000):lim n=true:=X8 h
def zQ(a:0<=i)(h:i < l.length):atI l i=l[i.toNat]?:=by
 unfold atI ixN;rw[if_pos<|by lia,if_pos<|by lia];rfl
def Kc(h:(Vp lo n)[i]?=some x):x=.int (lo+i)/\i < n:=by
 unfold Vp at h;rw[List.getElem?_map] at h;by_cases hi:i < n
 ·rw[List.getElem?_range hi] at h;cases h;exact⟨rfl,hi⟩
 ·rw[List.getElem?_eq_none<|by simpa using hi] at h;cases h
def yQ(lo:Int)(n:Nat):(Vp lo n).length=n:=by simp[Vp]
@[simp] def eq_ss(a b:List Nat):ki (.str a) (.str b)=some (.bl<|a==b):=rfl
@[simp] def jmZ(a b:List Nat):xC (.str a) (.str b)=some (.bl<|!(a==b)):=rfl
@[simp] def in_cs(neg:Bool)(c:Nat)(s:List Nat):zI neg (.str [c]) (.str s)=some (.bl<|neg != decide (c∈s)):=rfl
@[simp] def neg_i(i:Int):xK (.int i)=some (.int<|-i):=rfl
def jfL(h:a.length+b.length<=100000):jf (.str a) (.str b)=some (.str<|a++b):=by
 show(bif lim (a.length+b.length) then some (D.str<|a++b) else none)=_;rw[jb h];rfl
def jjN(h:a.length<=1000)(b:0<=n)(h1:n<=1000):yb (.str a) (.int n)=some (.str (List.replicate n.toNat a).flatten):=by
 show(bif decide (a.length<=1000)&&(decide (0<=n)&&decide (n<=1000)) then some (D.str (List.replicate n.toNat a).flatten) else none)=_;rw[X8 h,X8 b,X8 h1];rfl
def jnB(a:s.length<=100000)(b:0<=i)(h:i < s.length):jd (.str s) (.int i)=some (.str [s.getD i.toNat 0]):=by
 show(bif lim s.length then((atI s i).bind λc=>some<|D.str [c]) else none)=_;rw[jb a,zQ b h];have:i.toNat < s.length:=by lia
 simp[this]
def Jg(xs:List α)  (h:0<=k):j9 xs none (some k)=xs.take k.toNat:=by
 obtain⟨n,rfl⟩:∃ n:Nat,k=(n:Int):=⟨k.toNat,by lia⟩;rw[jgF];simp
def jnv(a:s.length<=100000):jc8 lo hi (.str s)=some (.str<|j9 s lo hi):=by
 show(bif lim s.length then some (D.str<|j9 s lo hi) else none)=_;rw[jb a];rfl
@[simp] def itemsOf_str(s:List Nat):KU (.str s)=some (s.map λc=>D.str [c]):=rfl
@[simp] def fTuple_lst(o:Bool)(l:List D):zp [.lst o l]=bif frzs l then some (.tup l) else none:=rfl
def jbH(w:List Nat)(l:W1):jdm (.str w) (l.map D.str)=true:=by
 unfold jdm;rw[M3];refine⟨rfl,List.all_eq_true.mpr λy a=>?_⟩;obtain⟨z,_,rfl⟩:=M7.mp a;rfl
def jd4(w:List Nat)(l:W1):inL (.str w) (l.map D.str)=decide (w∈l):=by
 unfold inL;rw[Bool.eq_iff_iff,List.any_eq_true,decide_eq_true_eq];constructor
 ·rintro⟨y,a,e⟩;obtain⟨z,b,rfl⟩:=M7.mp a;have:z=w:=by
   have e:(z==w)=true:=e;exact eq_of_beq e
  exact this▸b
 ·intro h;exact⟨.str w,M7.mpr ⟨w,h,rfl⟩,by show(w==w)=true;simp⟩
def jcv(neg o:Bool)(w:List Nat)(l:W1):zI neg (.str w) (.lst o<|l.map D.str)=some (.bl<|neg != decide (w∈l)):=by
 show(bif jdm (.str w) (l.map D.str) then some (D.bl<|neg != inL (.str w) (l.map D.str)) else none)=_;rw[jbH,jd4];rfl
mutual
theorem jdJ:∀(n:Nat) (d:D),okE n d=true->eqD d d=true
 | n,.non,_=>rfl
 | n,.bl _,_=>by show(_==_)=true;simp
 | n,.int _,_=>by show(_==_)=true;simp
 | n,.str _,_=>by show(_==_)=true;simp
 | n+1,.tup l,h=>by rw[eqD];exact Ym n l (by simpa [okE] using h)
 | n+1,.lst _ l,h=>by rw[eqD];exact Ym n l (by simpa [okE] using h)
 | 0,.tup l,h=>by simp[okE] at h
 | 0,.lst _ l,h=>by simp[okE] at h
 | n,.dK _ _ _,h=>by cases n<;>simp[okE] at h
 | n,.dT _ _ _,h=>by cases n<;>simp[okE] at h
 | n,.ins _ _ _ _,h=>by cases n<;>simp[okE] at h
 | n,.dead,h=>by cases n<;>simp[okE] at h
 | n,.exc _ _,h=>by cases n<;>simp[okE] at h
theorem Ym:∀(n:Nat) (l:List D),JX n l=true->zG l l=true
 | n,[],_=>rfl
 | n,d::l,h=>by
  rw[JX,M3] at h;rw[zG,jdJ n d h.1,Ym n l h.2];rfl
end
def jgX(h:∀ d∈l,okE n d=true):JX n l=true:=by rw[V7];exact List.all_eq_true.mpr h
theorem jK:∀{l:List D},(∀ d∈l,frz d=true)->frzs l=true
 | [],_=>rfl
 | d::l,h=>by rw[Y1,h d<|by simp,jK λx a=>h x<|by simp[a]];rfl
theorem yw:∀{l:List D},(∀ d∈l,fz d=d)->fzs l=l
 | [],_=>rfl
 | d::l,h=>by rw[jd5,h d<|by simp,yw λx a=>h x<|by simp[a]]
def jhj(h:∀ c∈w,c < 1114112):okE n (.str w)=true:=by
 have:okE n (.str w)=w.all λc=>decide (c < 1114112):=by cases n<;>rfl
 rw[this];exact List.all_eq_true.mpr λc a=>X8<|h c a
@[simp] def okE_int(n:Nat)(i:Int):okE n (.int i)=true:=by cases n<;>rfl
def jg0{l:List Nat}{i N:Nat}(h:∀ c∈l,c < N)(a:0 < N):l.getD i 0 < N:=by
 rw[List.getD_eq_getElem?_getD];cases e:l[i]? with
 | none=>exact a
 | some c=>exact h c<|List.mem_of_getElem? e
theorem wx{G:D->Rh->Option Rh}{Good:D->Prop}{P:Rh->Prop}:∀{xs:List D}(_:∀ x∈xs,∀ ρ,P ρ->∃ ρ1 y,G x ρ=some ρ1/\p ρ1=some y/\Good y/\P ρ1) {ρ:Rh}(_:P ρ),∃ ys,jW G qT p xs ρ=some ys/\ys.length=xs.length/\∀ y∈ys,Good y
 | [],_,ρ,_=>⟨[],rfl,rfl,by simp⟩
 | x::xs,step,ρ,b=>by
  obtain⟨ρ1,y,c,e2,d,p1⟩:=step x (by simp) ρ b;obtain⟨ys,e3,e,f⟩:=wx (xs:=xs) (λz a=>step z<|by simp[a]) p1;refine⟨y::ys,?_,by simp[e],?_⟩
  ·rw[vV,c];simp[e2,e3]
  ·intro z a;rcases M6.mp a with rfl | a
   ·exact d
   ·exact f z a
theorem KM{f:α->D}{Q:α->Prop}:∀{ys:List D},(∀ y∈ys,∃ a,y=f a/\Q a)->∃ l:List α,ys=l.map f/\∀ a∈l,Q a
 | [],_=>⟨[],rfl,by simp⟩
 | y::ys,h=>by
  obtain⟨a,e,q⟩:=h y (by simp);obtain⟨l,e2,c⟩:=KM (ys:=ys) λz d=>h z (by simp[d]);exact⟨a::l,by rw[e,e2];rfl,λb g=>(M6.mp g).elim (λz=>z▸q) (c b)⟩
def jnE(a:frzs l=true):jc8 lo hi (.lst o l)=some (.lst true<|j9 l lo hi):=by
 show(bif frzs l then some (D.lst true<|j9 l lo hi) else none)=_;rw[a];rfl
def jde(a:0<=i)(h:i < l.length):jd (.lst o l) (.int i)=l[i.toNat]?:=zQ a h
def jgS(a:0<=i)(h:i < l.length):jd (.tup l) (.int i)=l[i.toNat]?:=zQ a h
def Wd(w:List Nat):Prop:=w.length<=30/\∀ c∈w,c < 1114112
@[simp] def Kd(l:W1):fzs (l.map D.str)=l.map D.str:=by
 rw[vU,U2];rfl
@[simp] def yS(l:W1):frzs (l.map D.str)=true:=by
 rw[Ku,List.all_map,List.all_eq_true];intro x _;rfl
@[simp] def cleans_strs(l:W1):ym (l.map D.str)=true:=by
 rw[yM,List.all_map,List.all_eq_true];intro x _;rfl
def kf{l:W1}{i:Int}(a:0<=i)(h:i < l.length):jd (.lst o<|l.map D.str) (.int i)=some (.str<|l.getD i.toNat []):=by
 rw[jde a<|by rw[L3];exact h,List.getElem?_map,List.getD_eq_getElem?_getD,E4<|by lia];rfl
def yn{l:List α}{i:Nat}(h:i < l.length):l.getD i d∈l:=by
 rw[List.getD_eq_getElem?_getD,E4 h];exact List.getElem_mem h
def KP(f:α->β)(l:List α)(lo hi:Option Int):j9 (l.map f) lo hi=(j9 l lo hi).map f:=by
 unfold j9;rw[L3,List.map_take,List.map_drop]
def jZ(h:x∈j9 l lo hi):x∈l:=List.mem_of_mem_drop<|List.mem_of_mem_take h
def yO(l:List α)(lo hi:Option Int):(j9 l lo hi).length<=l.length:=by
 unfold j9;rw[E5,List.length_drop]
 lia
def vY(h:l.Nodup):(j9 l lo hi).Nodup:=(h.sublist<|List.drop_sublist _ _).sublist (List.take_sublist _ _)
def ky(o:Bool)(l:W1)(lo hi:Option Int):jc8 lo hi (.lst o<|l.map D.str)=some (.lst true<|(j9 l lo hi).map D.str):=by
 rw[jnE<|yS l,KP]
def ux{a b:W1}(h:a.length+b.length<=100000):jf (.lst o<|a.map D.str) (.lst o'<|b.map D.str)=some (.lst true<|(a++b).map D.str):=by
 show(bif lim ((a.map D.str).length+(b.map D.str).length)&&(frzs (a.map D.str)&&frzs (b.map D.str)) then some (D.lst true<|a.map D.str++b.map D.str) else none)=_;rw[yS,yS,L3,L3,jb h,N6];rfl
def Ql:∀{l:W1}{x:D},x∈jJ s (l.map D.str)->∃(i:Nat) (c:List Nat),x=.tup [.int i,.str c]/\s<=i/\i < s+l.length/\c∈l:=by
 intro l
 induction l generalizing s with
 | nil=>intro x h;cases h
 | cons c l a =>
  intro x h;rw[L6,jJ] at h;rcases M6.mp h with rfl | h
  ·exact⟨s,c,rfl,N0 _,by simp,by simp⟩
  ·obtain⟨i,b,e,f,g,d⟩:=a h;exact⟨i,b,e,by lia,by rw[M4];lia,by simp[d]⟩
theorem vz(St:List α->Rh->Prop)(Ok:α->Prop)(b M:Nat):∀{xs:List D}{acc:List α}{ρ:Rh},
  (∀ x∈xs,∀(acc:List α) (ρ:Rh),acc.length<=M->(∀ a∈acc,Ok a)->St acc ρ->∃(ρ1 ρ2:Rh) (L:List α),G x ρ=some ρ1/\f ρ1=some (.nx ρ2)/\L.length<=b/\(∀ a∈L,Ok a)/\St (acc++L) ρ2) ->
  acc.length+b*xs.length<=M->(∀ a∈acc,Ok a)->St acc ρ->∃(ρ':Rh) (T:List α),jL G f xs ρ=some (.nx ρ')/\St (acc++T) ρ'/\T.length<=b*xs.length/\∀ a∈T,Ok a
 | [],acc,ρ,step,g,c,d=>⟨ρ,[],rfl,by rw[N1];exact d,by simp,by simp⟩
 | x::xs,acc,ρ,step,g,c,d=>by
  rw[M4,Nat.mul_succ] at g;obtain⟨ρ1,ρ2,L,i,e2,m,h,j⟩:=step x (by simp) acc ρ (by lia) c d;obtain⟨ρ',T,e3,k,n,e⟩:=vz St Ok b M (xs:=xs) (acc:=acc++L) (ρ:=ρ2) (λy l=>step y<|by simp[l]) (by rw[N5];lia) (λa q=>(N3.mp q).elim (c a) (h a)) j;refine⟨ρ',L++T,?_,by rw[<- List.append_assoc];exact k,by rw[N5,M4,Nat.mul_succ];lia,λa q=>(N3.mp q).elim (h a) (e a)⟩;rw[jS,i,L5,e2,L5,YQ,e3]
theorem Qb(en:β->D)(g:β->γ)(St:List α->Rh->Prop)(Ok:α->Prop)(b:α->γ)(N:Nat):∀{C:List β}{s:Nat}{acc:List α}{ρ:Rh},
  (∀(i:Nat) (c:β) (acc:List α) (ρ:Rh),i < N->c∈C->acc.length < N->St acc ρ->∃(ρ1 ρ2:Rh) (a:α),G (.tup [.int i,en c]) ρ=some ρ1/\f ρ1=some (.nx ρ2)/\b a=g c/\Ok a/\St (acc++[a]) ρ2) ->
  s+C.length<=N->acc.length+C.length<=N->St acc ρ->∃(ρ':Rh) (T:List α),jL G f (jJ s<|C.map en) ρ=some (.nx ρ')/\St (acc++T) ρ'/\T.map b=C.map g/\∀ a∈T,Ok a
 | [],s,acc,ρ,step,h,j,d=>⟨ρ,[],rfl,by rw[N1];exact d,rfl,by simp⟩
 | c::C,s,acc,ρ,step,h,j,d=>by
  rw[M4] at h j;obtain⟨ρ1,ρ2,a,l,e2,m,n,o⟩:=step s c acc ρ (by lia) (by simp) (by lia) d;obtain⟨ρ',T,e3,k,p,e⟩:=Qb en g St Ok b N (C:=C) (s:=s+1) (acc:=acc++[a]) (ρ:=ρ2) (λi y acc ρ hi r=>step i y acc ρ hi<|by simp[r]) (by lia) (by rw[N5];simp only[M4,List.length_nil];lia) o;refine⟨ρ',a::T,?_,by rw[List.append_assoc] at k;exact k,by rw[L6,L6,m,p],λx q=>(M6.mp q).elim (λz=>z▸n) (e x)⟩;rw[L6,jJ,jS,l,L5,e2,L5,YQ,e3]
def ui(St:List α->Rh->Prop)(Ok:α->Prop)(b:α->List Nat)(N:Nat) 
  (step:∀(i:Nat) (c:List Nat) (acc:List α) (ρ:Rh),i < N->c∈C->acc.length < N->St acc ρ->∃(ρ1 ρ2:Rh) (a:α),G (.tup [.int i,.str c]) ρ=some ρ1/\f ρ1=some (.nx ρ2)/\b a=c/\Ok a/\St (acc++[a]) ρ2)
  (h1:s+C.length<=N) (h2:acc.length+C.length<=N) (d:St acc ρ):∃(ρ':Rh) (T:List α),jL G f (jJ s<|C.map D.str) ρ=some (.nx ρ')/\St (acc++T) ρ'/\T.map b=C/\∀ a∈T,Ok a:=by
 obtain⟨ρ',T,e,h,g,j⟩:=Qb D.str id St Ok b N step h1 h2 d;exact⟨ρ',T,e,h,by rw[g,List.map_id],j⟩
theorem KZ(St:List (List Nat)->Rh->Prop)(N:Nat):∀{C:W1}{s:Nat}{acc:W1}{ρ:Rh},
  (∀(i:Nat) (c:List Nat) (acc:W1) (ρ:Rh),i < N->c∈C->acc.length < N->St acc ρ->∃(ρ1 ρ2:Rh),G (.tup [.int i,.str c]) ρ=some ρ1/\f ρ1=some (.nx ρ2)/\(St (acc++[c]) ρ2 \/ St acc ρ2)) ->
  s+C.length<=N->acc.length+C.length<=N->St acc ρ->∃(ρ':Rh) (T:W1),jL G f (jJ s<|C.map D.str) ρ=some (.nx ρ')/\St (acc++T) ρ'/\T.Sublist C
 | [],s,acc,ρ,step,h,j,d=>⟨ρ,[],rfl,by rw[N1];exact d,.slnil⟩
 | c::C,s,acc,ρ,step,h,j,d=>by
  rw[M4] at h j;obtain⟨ρ1,ρ2,k,e2,a⟩:=step s c acc ρ (by lia) (by simp) (by lia) d;rcases a with a | a
  ·obtain⟨ρ',T,e3,b,e⟩:=KZ St N (C:=C) (s:=s+1) (acc:=acc++[c]) (ρ:=ρ2) (λi y acc ρ hi g=>step i y acc ρ hi<|by simp[g]) (by lia) (by rw[N5];simp only[M4,List.length_nil];lia) a;refine⟨ρ',c::T,?_,by rw[List.append_assoc] at b;exact b,e.cons_cons c⟩;rw[L6,jJ,jS,k,L5,e2,L5,YQ,e3]
  ·obtain⟨ρ',T,e3,b,e⟩:=KZ St N (C:=C) (s:=s+1) (acc:=acc) (ρ:=ρ2) (λi y acc ρ hi g=>step i y acc ρ hi<|by simp[g]) (by lia) (by lia) a;refine⟨ρ',T,?_,b,e.cons c⟩;rw[L6,jJ,jS,k,L5,e2,L5,YQ,e3]
def JQ{G:D->Rh->Option Rh}{l:List α}{en out:α->D}{b:α->Bool}(P:Rh->Prop)(step:∀ x∈l,∀ ρ,P ρ->∃ ρ1,G (en x) ρ=some ρ1/\q ρ1=some (b x)/\p ρ1=some (out x)/\P ρ1){ρ:Rh}(a:P ρ):jW G q p (l.map en) ρ=some ((l.filter b).map out):=by
 induction l generalizing ρ with
 | nil=>rfl
 | cons x l c =>
  obtain⟨ρ1,d,e2,e3,p1⟩:=step x L8 ρ a;have:=c (λy e=>step y<|L7 _ e) p1;rw[L6,vV,d,L5,e2,L5];cases hb:b x with
  | true=>simp[e3,this,hb]
  | false=>simp[this,hb]
mutual
theorem jku:∀(n:Nat) (d:D),okE n d=true->eqD (fz d) d=true
 | n,.non,_=>rfl
 | n,.bl _,_=>by show(_==_)=true;simp
 | n,.int _,_=>by show(_==_)=true;simp
 | n,.str _,_=>by show(_==_)=true;simp
 | n+1,.tup l,h=>by rw[fz,eqD];exact x9 n l (by simpa [okE] using h)
 | n+1,.lst _ l,h=>by rw[fz,eqD];exact x9 n l (by simpa [okE] using h)
 | 0,.tup l,h=>by simp[okE] at h
 | 0,.lst _ l,h=>by simp[okE] at h
 | n,.dK _ _ _,h=>by cases n<;>simp[okE] at h
 | n,.dT _ _ _,h=>by cases n<;>simp[okE] at h
 | n,.ins _ _ _ _,h=>by cases n<;>simp[okE] at h
 | n,.dead,h=>by cases n<;>simp[okE] at h
 | n,.exc _ _,h=>by cases n<;>simp[okE] at h
theorem x9:∀(n:Nat) (l:List D),JX n l=true->zG (fzs l) l=true
 | n,[],_=>rfl
 | n,d::l,h=>by
  rw[JX,M3] at h;rw[fzs,zG,jku n d h.1,x9 n l h.2];rfl
end
mutual
theorem je1:∀(n:Nat) (d e:D),okE n d=true->fz d=fz e->eqD d e=true
 | n,.non,e,_,h=>by cases e<;>simp[fz] at h;rfl
 | n,.bl _,e,_,h=>by cases e<;>simp[fz] at h;subst h;show(_==_)=true;simp
 | n,.int _,e,_,h=>by cases e<;>simp[fz] at h;subst h;show(_==_)=true;simp
 | n,.str _,e,_,h=>by cases e<;>simp[fz] at h;subst h;show(_==_)=true;simp
 | n+1,.tup l,e,h,q=>by
  cases e<;>simp[fz] at q;rw[eqD];exact xS n l _ (by simpa [okE] using h) q
 | n+1,.lst _ l,e,h,q=>by
  cases e<;>simp[fz] at q;rw[eqD];exact xS n l _ (by simpa [okE] using h) q
 | 0,.tup l,e,h,_=>by simp[okE] at h
 | 0,.lst _ l,e,h,_=>by simp[okE] at h
 | n,.dK _ _ _,e,h,_=>by cases n<;>simp[okE] at h
 | n,.dT _ _ _,e,h,_=>by cases n<;>simp[okE] at h
 | n,.ins _ _ _ _,e,h,_=>by cases n<;>simp[okE] at h
 | n,.dead,e,h,_=>by cases n<;>simp[okE] at h
 | n,.exc _ _,e,h,_=>by cases n<;>simp[okE] at h
theorem xS:∀(n:Nat) (l m:List D),JX n l=true->fzs l=fzs m->zG l m=true
 | n,[],[],_,_=>rfl
 | n,[],_::_,_,q=>by simp[fzs] at q
 | n,_::_,[],_,q=>by simp[fzs] at q
 | n,d::l,e::m,h,q=>by
  rw[JX,M3] at h;rw[fzs,fzs] at q;injection q with q1 q2;rw[zG,je1 n d e h.1 q1,xS n l m h.2 q2];rfl
end
def jgk(h:okE 20 d=true)(h':okE 20 e=true)(q:fz d=fz e)(a:qD d=false:=by rfl):xC d e=some (.bl false):=by
 unfold xC;rw[a,h,h',je1 20 d e h q];rfl
theorem Y5:∀ l:List (List Nat×D),JW (l.map λp=>.tup [.str p.1,p.2])=some (l.map λp=>(KA.str p.1,p.2))
 | []=>rfl
 | p::l=>by
  rw[L6,JW,Y5 l];rfl
theorem Yy:∀(ps:List<|KA×D) (ks:List KA) (vs:List D),(ks++ps.map (·.1)).Nodup->ps.foldl (λacc kv=>v9 acc.1 acc.2 kv.1 kv.2) (ks,vs)=(ks++ps.map (·.1),vs++ps.map (·.2))
 | [],ks,vs,_=>by simp
 | p::ps,ks,vs,h=>by
  have a:p.1∉ks:=by
   rw[L6] at h;intro z;exact(X6.mp h).2.2 p.1 z p.1 (by simp) rfl
  rw[X7];have b:v9 ks vs p.1 p.2=(ks++[p.1],vs++[p.2]):=by unfold v9;rw[if_neg a]
  show ps.foldl _ (v9 ks vs p.1 p.2)=_;rw[b,Yy ps (ks++[p.1]) (vs++[p.2])<|by simpa using h];simp
def VJ{l:List (List Nat×D)}(g:(l.map (·.1)).Nodup)(i:∀ p∈l,frz p.2=true)(j:l.length<=100000):yW [.lst o<|l.map λp=>.tup [.str p.1,p.2]]=some (.dK true (l.map λp=>KA.str p.1) (l.map (·.2))):=by
 have k:((l.map λp=>(KA.str p.1,p.2)).map (·.1)).Nodup:=by
  rw[U2];have:((λx:KA×D=>x.1) ∘ λp:List Nat×D=>(KA.str p.1,p.2))=KA.str ∘ (·.1):=rfl;rw[this,<- U2];exact List.Pairwise.map _ (λa b h z=>h<|by cases z;rfl) g
 have e:=Yy (l.map λp=>(KA.str p.1,p.2)) [] [] (by simpa using k);show((JW<|l.map λp=>.tup [.str p.1,p.2]).bind λc=>bif frzs (c.map (·.2))&&lim c.length then some (D.dK true (zX c).1 (zX c).2) else none)=_;rw[Y5,L5];have f:((l.map λp=>(KA.str p.1,p.2)).map (·.2))=l.map (·.2):=by rw[U2];rfl
 rw[f,jK (by intro d hd;obtain⟨p,m,rfl⟩:=M7.mp hd;exact i p m),L3,jb j];unfold zX;rw[e,f];simp[U2]
noncomputable def lkp{α:Type}(w:List Nat):List (List Nat×α)->Option α
 | []=>none
 | p::l=>if p.1=w then some p.2 else lkp w l
theorem K3(w:List Nat):∀ l:List (List Nat×D),JZ (l.map λp=>KA.str p.1) (l.map (·.2)) (.str w)=lkp w l
 | []=>rfl
 | p::l=>by
  rw[L6,L6,JZ,lkp,K3 w l];by_cases h:p.1=w
  ·rw[if_pos h,if_pos<|by rw[h]]
  ·rw[if_neg h,if_neg<|λz=>h<|by cases z;rfl]
theorem jbP(f:α->β)(w:List Nat):∀ l:List (List Nat×α),lkp w (l.map λp=>(p.1,f p.2))=(lkp w l).map f
 | []=>rfl
 | p::l=>by
  rw[L6,lkp,lkp,jbP f w l];by_cases h:p.1=w
  ·rw[if_pos h,if_pos h];rfl
  ·rw[if_neg h,if_neg h]
theorem uA:∀{l:List (List Nat×α)},w∈l.map (·.1)->∃ a,lkp w l=some a/\(w,a)∈l
 | [],h=>by cases h
 | p::l,h=>by
  rw[lkp];by_cases e:p.1=w
  ·rw[if_pos e];exact⟨p.2,rfl,by rw[<- e];simp⟩
  ·rw[if_neg e];rw[L6] at h;obtain⟨a,b,c⟩:=uA<|(M6.mp h).resolve_left λz=>e z.symm;exact⟨a,b,by simp[c]⟩
noncomputable def dct(o:Bool)(N:W1)(f:List Nat->Int):D:=.dK o (N.map KA.str)<|N.map λn=>D.int<|f n
theorem Jp(f:List Nat->Int):∀{N:W1},c∈N->JZ (N.map KA.str) (N.map λn=>D.int<|f n) (.str c)=some (.int<|f c)
 | [],h=>by cases h
 | n::N,h=>by
  rw[L6,L6,JZ];by_cases e:n=c
  ·rw[if_pos<|by rw[e],e]
  ·rw[if_neg λz=>e<|by cases z;rfl];exact Jp f<|(M6.mp h).resolve_left λz=>e z.symm
def yp(h:c∈N):yr (dct o N f) (.str c)=some (.int<|f c):=Jp f h
theorem ua(f:List Nat->Int)(c:List Nat)(v:Int):∀ N:List (List Nat),jbX (N.map KA.str) (N.map λn=>D.int<|f n) (.str c) (.int v)=N.map λn=>D.int (if n=c then v else f n)
 | []=>rfl
 | n::N=>by
  rw[L6,L6,jbX,ua f c v N,L6];by_cases e:n=c
  ·rw[if_pos<|by rw[e],if_pos e]
  ·rw[if_neg λz=>e (by cases z;rfl),if_neg e]
def Kf{N:W1}{f:List Nat->Int}{c:List Nat}{v:Int}(h:c∈N):v9 (N.map KA.str) (N.map λn=>D.int<|f n) (.str c) (.int v)=(N.map KA.str,N.map λn=>D.int<|if n=c then v else f n):=by
 unfold v9;rw[if_pos<|M7.mpr ⟨c,h,rfl⟩,ua]
theorem K4:∀{l:List (List Nat×α)},(l.map (·.1)).Nodup->∀ p∈l,lkp p.1 l=some p.2
 | [],_,_,h=>by cases h
 | q::l,a,p,h=>by
  rw[L6,List.nodup_cons] at a;rw[lkp];rcases M6.mp h with rfl | h
  ·rw[if_pos rfl]
  ·rw[if_neg λz=>a.1<|by rw[z];exact M7.mpr ⟨p,h,rfl⟩];exact K4 a.2 p h
def fnOf(S:List<|List Nat×Int)(n:List Nat):Int:=(lkp n S).getD 0
def JG{S:List (List Nat×Int)}(a:(S.map (·.1)).Nodup){p:List Nat×Int}(h:p∈S):fnOf S p.1=p.2:=by
 unfold fnOf;rw[K4 a p h];rfl
def jdo(N:W1)(g:List Nat->Int)  (h:n∈N):fnOf (N.map λn=>(n,g n)) n=g n:=by
 unfold fnOf
 induction N with
 | nil=>cases h
 | cons m N a =>
  rw[L6,lkp];by_cases e:m=n
  ·rw[if_pos e,<- e];rfl
  ·rw[if_neg e];exact a<|(M6.mp h).resolve_left λz=>e z.symm
def yG{S:List (List Nat×Int)}(b:(S.map (·.1)).Nodup)(c:S.length<=100000):yW [.lst o<|S.map λp=>.tup [.str p.1,.int p.2]]=some (dct true (S.map (·.1))<|fnOf S):=by
 have e:=VJ (o:=o) (l:=S.map λq=>(q.1,D.int q.2)) (by rw[U2];exact b) (by intro q d;obtain⟨a,_,rfl⟩:=M7.mp d;rfl) (by rw[L3];exact c);rw[U2,U2,U2] at e;refine e.trans ?_;unfold dct;rw[U2,U2];congr 2;refine List.map_congr_left λp f=>?_;show D.int p.2=D.int (fnOf S p.1);rw[JG b f]
def uw(N:W1)(f:List Nat->Int):frzs (N.map λn=>D.int<|f n)=true:=jK λd hd=>by
 obtain⟨n,_,rfl⟩:=M7.mp hd;rfl
def Qd(N:W1)(f:List Nat->Int):(((N.map KA.str).zip (N.map λn=>D.int<|f n)).map λp=>D.tup [kaD p.1,p.2])=N.map λn=>D.tup [.str n,.int<|f n]:=by
 induction N with
 | nil=>rfl
 | cons n N a =>
  rw[L6,L6,U8,L6,L6,a];rfl
@[simp] def dkOf_dct(N:W1)(f:List Nat->Int):jea (dct true N f)=some (N.map KA.str,N.map λn=>D.int<|f n):=rfl
variable {ρ:Rh}{fa fb fe:FE}{ft fu:FT'}{fr:FA}{p:PAf}{pi:PAf}{g:D->D->Option D}{gl:List D->Option D}{G:D->Rh->Option Rh}{f:FS}{m:List D->Option (D×D)}{mp:List D->Option D}{i j:Nat}
@[simp] def dCBx_e:dCB gl fr ρ=(fr ρ).bind λr=>(gl r.1).bind λz=>some (z,r.2):=rfl
@[simp] def oF_e:oF g x y=(g x y).bind λd=>bif frz d then some d else none:=rfl
end QD
namespace L2
open PySem PySem.Spec PyProof.Rows
end L2
namespace QD
open PySem L2 PySem.Spec PyProof.Rows
noncomputable def Yb:Int->List D->List D
 | _,[]=>[]
 | n,x::l=>.tup [.int n,x]::Yb (n+1) l
theorem Qg:∀(n:Int) (l:List D),(Yb n l).length=l.length
 | _,[]=>rfl
 | n,x::l=>by rw[Yb,M4,M4,Qg]
theorem Qe:∀(n:Int) (l:List D) (i:Nat) (y:D),(Yb n l)[i]?=some y->∃ x,l[i]?=some x/\y=.tup [.int<|n+i,x]
 | _,[],_,_,e=>by simp[Yb] at e
 | n,x::l,0,y,e=>by simp[Yb] at e;exact⟨x,rfl,by rw[<- e];simp⟩
 | n,x::l,i+1,y,e=>by
  obtain⟨z,a,e2⟩:=Qe (n+1) l i y (by simpa [Yb] using e);exact⟨z,by simpa using a,by rw[e2];congr 3;lia⟩
def ji7(p:PAf)(q:PF)(ρ:Rh):Option (List D):=(p ρ).bind λx=>(je4 x).bind λx=>(jdd x).bind λl=>(q ρ).bind λy=>(ve y).bind λn=>bif V1 n then some (Yb n<|fzs l) else none
def jjK(h:PPs R ta p)(d:PB R tb q):PIt R (jmx R.K ta tb) (ji7 p q):=by
 intro σ ρ Z H O W z s e Q k;refine ob e λx f e=>ob e λy e3 e=>ob e λl F e=>ob e λX e2 e=>ob e λn e5 e=>oc e λG e=>?_;cases e;cases jD e5;obtain⟨o,rfl⟩:=k8 F;cases qP e3;refine h z s f λ{Y I H1 J} L r1=>?_;obtain⟨v,rfl,r2⟩:=r1.one_of;have B:=r2.freeze (Z':=λa=>I a \/ a∈J) (λa z=>.inl z) λa z=>.inr z;rw[fz,Rep] at B;obtain⟨a,ws,O',rfl,M,N,rfl,_⟩:=B;have b:=L.fz;refine d b.wf.zd (b.slots z s) e2 λ{u Z2 H2 P2} g2 g=>?_;obtain⟨rfl,_⟩:=g.int_of;have c:=N.frame g2.zz<|λa z=>g2.same a<|b.wf.zd a z;have j:=M.frame g2.zz (λa z=>g2.same a<|b.wf.zd a z)<|λa m=>(nomatch m);have hb:=YC G;refine⟨a,ws,n,rfl,rfl,by unfold Builtin.SmallTypes.fitsIndex;simp;lia,FL.sq c,k (b.pair g2) ?_⟩;intro Z3 P C D zd i;have r:=(c.frame C D).sq;have g:Reps R Z3 P (fzs l) ws []:=j.frame C D λa m=>(nomatch m);refine⟨λhi=>⟨ws,r,by rw[g.length];rw[Qg] at hi;exact hi⟩,λx S=>?_⟩;obtain⟨y,T,rfl⟩:=Qe _ _ i x S;obtain⟨u,E,U⟩:=g.item T;refine⟨⟨ws,u,r,E⟩,λw H4 A=>?_⟩;obtain⟨q,t,V,rfl,d,rfl⟩:=A;have f:=V ws r;rw[E] at f;cases f;exact⟨_,Go.newF (wf0 zd) d,Kx zd d .int_mk U⟩
noncomputable def QA:List (List KA)->List D->List KA->Option D
 | k::ks,d::l,a=>if k=a then some d else QA ks l a
 | _,_,_=>none
def KS{a b:List KA}(h:a.map kaV=b.map kaV):a=b:=by
 induction a generalizing b with
 | nil=>cases b with
  | nil=>rfl
  | cons y b=>simp at h
 | cons x a c=>cases b with
  | nil=>simp at h
  | cons y b =>
   simp only[L6,List.cons.injEq] at h;rw[Ko h.1,c h.2]
theorem Yg:∀{ks:List (List KA)}{l:List D}{vs:List V}{O:W5}{a:List KA},Reps R Z H l vs O->ks.length=l.length ->
  (∀ d,QA ks l a=some d->∃ v P,Vu ((ks.map<|List.map kaV).zip vs) (a.map kaV)=some v/\Rep R Z H d v P)/\(QA ks l a=none->Vu ((ks.map<|List.map kaV).zip vs) (a.map kaV)=none)
 | [],l,vs,O,a,r,c=>⟨λd e=>(by cases l<;>cases e),λ_=>rfl⟩
 | k::ks,[],vs,O,a,r,c=>by simp at c
 | k::ks,x::l,vs,O,a,r,c=>by
  rw[Reps] at r;obtain⟨v,b,f,j,rfl,rfl,r1,r2⟩:=r;have g:=Yg (a:=a) r2 (by simpa using c);by_cases e:k=a
  ·subst e;refine⟨λd h=>?_,λh=>?_⟩
   ·simp only[QA,if_true] at h;cases h;exact⟨v,f,Jl rfl,r1⟩
   ·simp[QA] at h
  ·have i:¬ (k.map kaV=a.map kaV):=λz=>e<|KS z;have q:Vu (((k::ks).map (List.map kaV)).zip (v::b)) (a.map kaV)=Vu ((ks.map<|List.map kaV).zip b) (a.map kaV):=Jm i;rw[q];simp only[QA,if_neg e];exact g
abbrev jd7(ta tb:TE):TE:=VN<|jB ta<|jB tb JY
def jc9(pa pb:PF)(ρ:Rh):Option (List KA):=(pa ρ).bind λx=>(pb ρ).bind λy=>(vB x).bind λa=>(vB y).bind λb=>some [a,b]
def Yk (d : PB R ta pa) (f : PB R tb pb)  (z : Zd Z H) (s : Slots R Z H ρ σ O) (e : jc9 pa pb ρ = some k)
     (go:∀{p:Addr}{Z':Zn}{H':Hp},Go Z H [] Z' H' []->Z' p->H' p=some (.tup<|(k.map kaV).map kV)->Q (.ref p) H'):jd7 ta tb σ H Q:=by
 unfold jc9 at e;refine ob e λx g e=>ob e λy e2 e=>ob e λa e3 e=>ob e λb h e=>?_;cases e;refine d z s g λ{v j l m} c r1=>?_;refine f c.wf.zd (c.slots z s) e2 λ{u n o q} g2 r2=>?_;obtain⟨rfl,_⟩:=yz e3 r1;obtain⟨rfl,_⟩:=yz h r2;refine⟨by show 2<=sizeLine;decide,λp i=>?_⟩;exact go ((c.pair g2).trans (Go.newF g2.wf i)) (.inr rfl) jr
def Rep.dT_of(r:Rep R Z H (.dT o ks l) v O):∃ a vs O',v=.ref a/\H a=some (.dT<|(ks.map<|List.map kaV).zip vs)/\Reps R Z H l vs O'/\ks.length=l.length:=by
 rw[Rep] at r;obtain⟨a,vs,O',rfl,b,c,ea,_⟩:=r;exact⟨a,vs,O',rfl,ea,b,c⟩
def K5(x:D)(k:List KA)(z:D):Option D:=match x with
 | .dT _ ks l=>some<|(QA ks l k).getD z
 | _=>none
@[simp] def opTGet_e(o:Bool)(ks:List<|List KA)(l:List D)(k:List KA)(z:D):K5 (.dT o ks l) k z=some ((QA ks l k).getD z):=rfl
@[simp] def jan(pd:PF)(pa:PF)(pb:PF)(pc:PF)(ρ:Rh):Option D:=(pd ρ).bind λx=>(jc9 pa pb ρ).bind λk=>(pc ρ).bind λz=>K5 x k z
@[simp] def jk3:jc9 pa pb ρ=(pa ρ).bind λx=>(pb ρ).bind λy=>(vB x).bind λa=>(vB y).bind λb=>some [a,b]:=rfl
def jdS(hd:PB R td pd)(u:PB R ta pa)(A:PB R tb pb)(B:PB R tx pc):PB R (Q5 td (jd7 ta tb) tx) (jan pd pa pb pc):=by
 intro σ ρ Z H O d z s e Q k;unfold jan at e;refine ob e λx C e=>ob e λy e2 e=>ob e λc D e=>?_;cases x with
 | dT o m l =>
  cases e;refine hd z s C λ{v L M N} j r1=>?_;obtain⟨p,S,T,rfl,ea,U,V⟩:=r1.dT_of;refine⟨p,rfl,.inr ⟨_,.inl ea⟩,?_⟩;refine Yk u A j.wf.zd (j.slots z s) e2 λ{b W X} g2 Y q=>?_;have a:=j.pair g2;refine B g2.wf.zd (a.slots z s) D λ{t Z3 n E} g3 F=>?_;have r:=(g2.pair g3).rep j.wf.zd r1;rw[Rep] at r;obtain⟨p',G,I,J,f,g,h,_⟩:=r;cases J;have i:n b=some (.tup<|(y.map kaV).map kV):=by rw[g3.same b<|by rw[q];exact λz=>(nomatch z)];exact q
  cases ev:QA m l y with
  | none=>exact⟨none,(Yg f g).2 ev▸DGet.t h i,k (a.pair g3)<|show Rep R Z3 n ((QA m l y).getD c) t E by rw[ev];exact F⟩
  | some d =>
   obtain⟨w,P,K,rw⟩:=(Yg f g).1 d ev;exact⟨some w,K▸DGet.t h i,k (a.pair g3)<|show Rep R Z3 n ((QA m l y).getD c) w P by rw[ev];exact rw⟩
 | _=>cases e
noncomputable def jed:List (List KA)->List D->List KA->D->List D
 | k::ks,x::l,a,d=>(if k=a then d else x)::jed ks l a d
 | _,_,_,_=>[]
theorem wQ:∀{ks:List (List KA)}{l:List D}(a:List KA) (d:D),ks.length=l.length->(jed ks l a d).length=l.length
 | [],[],_,_,_=>rfl
 | [],_::_,_,_,h=>by simp at h
 | _::_,[],_,_,h=>by simp at h
 | k::ks,x::l,a,d,h=>by rw[jed,M4,M4,wQ a d<|by simpa using h]
theorem uo(rd:Rep R Z H d v [])(a:List KA):∀{ks:List (List KA)}{l:List D}{vs:List V}{O:W5},Reps R Z H l vs O->ks.length=l.length ->
  ∃ vs2 O2,Reps R Z H (jed ks l a d) vs2 O2/\(ks.map<|List.map kaV).zip vs2=((ks.map<|List.map kaV).zip vs).map (λkv=>if kv.1=a.map kaV then(kv.1,v) else kv)/\O2.Sublist O
 | [],[],vs,O,r,b=>by
  rw[Reps] at r;obtain⟨rfl,rfl⟩:=r;exact⟨[],[],.empty,rfl,.slnil⟩
 | [],_::_,_,_,_,h=>by simp at h
 | _::_,[],_,_,_,h=>by simp at h
 | k::ks,x::l,vs,O,r,b=>by
  rw[Reps] at r;obtain⟨w,j,m,O2,rfl,rfl,r1,r2⟩:=r;obtain⟨c,f,g,e3,i⟩:=uo rd a r2 (by simpa using b);by_cases e:k=a
  ·subst e;refine⟨v::c,[]++f,?_,?_,?_⟩
   ·rw[jed,if_pos rfl];exact Reps.cons rd g
   ·simp only[L6,U8,if_true,e3]
   ·exact i.trans<|List.sublist_append_right _ _
  ·have n:¬ (k.map kaV=a.map kaV):=λz=>e<|KS z;refine⟨w::c,m++f,?_,?_,?_⟩
   ·rw[jed,if_neg e];exact Reps.cons r1 g
   ·simp only[L6,U8,if_neg n,e3]
   ·exact List.Sublist.append (List.Sublist.refl _) i
theorem uu(a:List KA):∀{ks:List (List KA)}{vs:List V},ks.length=vs.length->(((ks.map<|List.map kaV).zip vs).any λkv=>decide<|kv.1=a.map kaV)=decide (a∈ks)
 | [],vs,_=>by simp
 | k::ks,[],h=>by simp at h
 | k::ks,v::vs,h=>by
  rw[L6,U8,List.any_cons,uu a<|by simpa using h];by_cases e:k=a
  ·subst e;simp
  ·have b:¬ (k.map kaV=a.map kaV):=λz=>e<|KS z;have e2:¬ (a=k):=λz=>e z.symm;simp[b,e2]
def KC(ks:List<|List KA)(l:List D)(a:List KA)(d:D):List (List KA)×List D:=if a∈ks then(ks,jed ks l a d) else(ks++[a],l++[d])
def Kh(rd:Rep R Z H d v [])(a:List KA)  (r:Reps R Z H l vs O) (b:ks.length=l.length) :
  ∃ vs2 O2,Reps R Z H (KC ks l a d).2 vs2 O2/\(((KC ks l a d).1).map (List.map kaV)).zip vs2=kI ((ks.map<|List.map kaV).zip vs) (a.map kaV) v/\O2.Sublist O/\(KC ks l a d).1.length=(KC ks l a d).2.length:=by
 have c:ks.length=vs.length:=by rw[r.length];exact b
 unfold KC kI;rw[uu a c];by_cases e:a∈ks
 ·rw[if_pos e,X8 e,if_pos rfl];obtain⟨f,P,r2,e2,g⟩:=uo rd a r b;exact⟨f,P,r2,e2,g,by rw[wQ a d b];exact b⟩
 ·rw[if_neg e,X9 e,if_neg<|λz=>(nomatch z)];refine⟨vs++[v],O++[],r.append<|Reps.one rd,?_,by simp,by simp[b]⟩;rw[N6,List.zip_append<|by simpa using c];rfl
@[simp] def jh7(i:Nat)(pa:PF)(pb:PF)(pv:PF)(ρ:Rh):Option Out:=(pv ρ).bind λd=>(pV i ρ).bind λx=>(jgB x).bind λp=>(jc9 pa pb ρ).bind λa=>bif frz d&&lim p.1.length then some (.nx<|ρ.set i<|some<|.dT true (KC p.1 p.2 a d).1 (KC p.1 p.2 a d).2) else none
def jhr{R:RC}{pm:List Nat}{i:Nat}{ta tb tv:TE}{pa pb pv:PF}(n:PB R ta pa)(p:PB R tb pb)(r:PB R tv pv):DS R pm (xt (jV i) (jd7 ta tb) tv) (jh7 i pa pb pv):=by
 intro σ ρ Z H O o w s e J k;refine ob e λd v e=>ob e λx y e=>ob e λ⟨K,l⟩ z e=>ob e λc e2 e=>oc e λg e=>?_;cases e;cases xb z;rw[M3] at g;refine r w.zd s v λ{u L M N} f r1=>?_;cases r1.nil g.1;have m:=f.widen w;have s1:=f.slots w.zd s;refine kE (P0:=[]) kQ m.wf s1 y rfl jdG λa _ P Q A h ea B put=>B<|Yk n p f.wf.zd s1 e2 λ{b S T} g2 U C=>?_;obtain⟨D,V,E,F,G,j⟩:=Kh (g2.rep f.wf.zd r1) c (g2.reps f.wf.zd A) h;obtain⟨W,g3,I⟩:=put jdG j g2 E λq=>by simpa using G.count_le q
 refine⟨a,_,rfl,DPut.t (g2.at0 ea) C<|YY g.2,?_⟩;rw[<- F];exact k (m.trans g3) I<|Keep.refl _ _
def jmD(d:X.mg "enumerate" = none)(h:QPs cl X [a] tr pr)(c:QB cl X b tb pb)(e:Gl X "enumerate":=by rfl)(f:starEach [a] X.env=[(false,eval a X.env)]:=by rfl) :
  QI cl X (.Tuple elts n tpos) (.Call (.Name "enumerate" p) [a] [⟨some "start",b,kpos⟩] pos) (jmx X.K tr tb) (ji7 pr pb):=⟨jl6 e d h.sem c.sem f,jjK h.den c.den⟩
def jhn{x1}(h:Room k X.A)(d:QB cl X o to po)(e:QB cl X a ta pa)(f:QB cl X b tb pb)(g:QB cl X c tc pc)(m:M2 X o "get" apos (.Tuple [a,b] x1 tpos) c cpos:=by exact⟨rfl,rfl,rfl,rfl⟩)
  (h1:starEach [a,b] X.env=(false,eval a X.env)::starEach [b] X.env:=by rfl) (h2:starEach [b] X.env=(false,eval b X.env)::starEach [] X.env:=by rfl) :
  QB cl X (.Call (.Attribute o "get" apos) [.Tuple [a,b] x1 tpos,c] [] cpos) (Q5 to (jd7 ta tb) tc) (jan po pa pb pc) :=
 ⟨uz (YU h) d.sem (Jx<|jI e.sem (jI f.sem vX h2) h1) g.sem m,jdS d.den e.den f.den g.den⟩
def jhF{x1}(g:Room k X.A)(h:QB cl X (.Name x xpos) (jV i)<|pV i)(c:QB cl X a ta pa)(d:QB cl X b tb pb)(f:QB cl X e te pe)
  (j:swapsWith e (some<|.Subscript (.Name x xpos) (.Tuple [a,b] x1 tpos) pos') pos.line X.env=pure false:=by rfl)
  (h1:starEach [a,b] X.env=(false,eval a X.env)::starEach [b] X.env:=by rfl) (h2:starEach [b] X.env=(false,eval b X.env)::starEach [] X.env:=by rfl) :
  QS cl pm X (.Assign [.Subscript (.Name x xpos) (.Tuple [a,b] x1 tpos) pos'] e pos) (xt (jV i) (jd7 ta tb) te) (jh7 i pa pb pe) :=
 ⟨xz (YU g) h.sem (Jx<|jI c.sem (jI d.sem vX h2) h1) f.sem j,jhr c.den d.den f.den⟩
end QD
namespace L2
open PySem PySem.Spec PyProof.Rows
end L2
namespace QD
open PySem L2 PySem.Spec PyProof.Rows
def uZ(p:PF):PF:=λρ=>match p ρ with
 | some (.dK _ ks l)=>(Jt l).map λns=>.int ns.sum
 | _=>none
def jfN(h:PB R to p):PP R (jgc to) (uZ p):=by
 intro σ ρ Z H O d z s e Q k;unfold uZ at e;split at e
 ·rename_i o c l f;cases e2:Jt l with
  | none=>rw[e2] at e;cases e
  | some ns =>
   rw[e2] at e;cases e;refine h z s f λ{v n q r} g r1=>?_;obtain⟨a,i,t,rfl,ea,b,j⟩:=r1.dK_of;have m:=b.ints e2;refine⟨a,_,ns,rfl,ea,?_,k g .int_mk⟩;rw[<- m];have:(c.map kaV).length=i.length:=by rw[L3,b.length];exact j
   exact List.map_snd_zip (by lia)
 ·cases e
@[simp] def pSumV_e:uZ p ρ=(p ρ).bind λd=>(jaI d).bind λk=>(Jt k.2).bind λns=>some (.int ns.sum):=by
 unfold uZ;cases p ρ with
 | none=>rfl
 | some d=>cases d with
  | dK o a l =>
   show(Jt l).map _=(Jt l).bind _;cases Jt l<;>rfl
  | _=>rfl
def jiA(f:X.calm=true)(g:X.mg "sum" = none)(e:QB cl X o to po)(h:Gl X "sum":=by rfl)
  (a:attributeBase o "values" X.env (eval o X.env)=eval o X.env:=by rfl) (b:(apos.endLine==cpos.line)=true:=by rfl)
  (i:starEach [.Call (.Attribute o "values" apos) [] [] cpos] X.env=(false,eval (.Call (.Attribute o "values" apos) [] [] cpos) X.env)::starEach [] X.env:=by rfl)
  (c:(backTo pos<|starEach [] X.env).any (·.1)=false:=by rfl)
  (d:backTo pos (starEach [.Call (.Attribute o "values" apos) [] [] cpos] X.env)=[(false,eval (.Call (.Attribute o "values" apos) [] [] cpos) X.env)]:=by rfl) :
  QP cl X (.Call (.Name "sum" p) [.Call (.Attribute o "values" apos) [] [] cpos] [] pos) (jgc to) (uZ po):=⟨jgl f h g Qf e.sem a b i c d,jfN e.den⟩
noncomputable def qY:List Str->List D->Str->Option D
 | n::ns,d::l,f=>if f=n then some d else qY ns l f
 | _,_,_=>none
theorem zP:∀{ns:List Str}{l:List D}{vs:List V}{O:W5},Reps R Z H l vs O->ns.length=l.length->qY ns l f=some d->∃ v P,(ns.zip vs).lookup f=some v/\Rep R Z H d v P
 | [],l,vs,O,_,_,h=>by cases l<;>cases h
 | n::ns,[],vs,O,_,a,_=>by simp at a
 | n::ns,x::l,vs,O,r,a,h=>by
  rw[Reps] at r;obtain⟨v,b,c,i,rfl,rfl,r1,r2⟩:=r;rw[qY] at h;by_cases e:f=n
  ·rw[if_pos e] at h;cases h;exact⟨v,c,by rw[U8,List.lookup_cons,e];simp,r1⟩
  ·rw[if_neg e] at h;obtain⟨w,P,g,e2⟩:=zP r2 (by simpa using a) h;refine⟨w,P,?_,e2⟩;rw[U8,List.lookup_cons];have:(f==n)=false:=by simp[e]
   rw[this];exact g
def Ks(c:Nat)(f:Str):D->Option D
 | .ins _ c' ns l=>bif c'==c then qY ns l f else none
 | _=>none
@[simp] def fldOf_ins:Ks c f (.ins o c' ns l)=bif c'==c then qY ns l f else none:=rfl
@[simp] def qN(c:Nat)(f:Str)(po:PF)(ρ:Rh):Option D:=(po ρ).bind (Ks c f)
def jkV(g:Cls R.K<|R.cls c)(i:NoAttr R.K (R.cls c) f)(h:PB R ta p):PB R (jdf R.K ta f) (qN c f p):=by
 intro σ ρ Z H O d z s e Q k;refine ob e λx j e=>?_;cases x with
 | ins o m ns l =>
  refine oc e λn q=>?_;obtain rfl:m=c:=by simpa using n
  refine h z s j λ{v B C D} r r1=>?_;rw[Rep] at r1;obtain⟨a,t,E,F,rfl,u,y,ea,_⟩:=r1;obtain⟨w,P,A,b⟩:=zP u y q;exact⟨a,_,t,_,w,rfl,ea,g,i,A,k r b⟩
 | _=>cases e
noncomputable def qE:List Str->List D->Str->D->List Str×List D
 | n::ns,x::l,f,d=>if n=f then(n::ns,d::l) else(n::(qE ns l f d).1,x::(qE ns l f d).2)
 | _,_,f,d=>([f],[d])
theorem Vg(rd:Rep R Z H d v P):∀{ns:List Str}{l:List D}{vs:List V}{O:W5},Reps R Z H l vs O->ns.length=l.length ->
  ∃ vs2 O2,Reps R Z H (qE ns l f d).2 vs2 O2/\(qE ns l f d).1.zip vs2=VT f v (ns.zip vs)/\(qE ns l f d).1.length=(qE ns l f d).2.length/\∀ c,O2.count c<=O.count c+P.count c
 | [],[],vs,O,r,_=>by
  rw[Reps] at r;obtain⟨rfl,rfl⟩:=r;exact⟨[v],P,.one rd,rfl,rfl,λc=>by simp⟩
 | [],_::_,_,_,_,a=>by simp at a
 | _::_,[],_,_,_,a=>by simp at a
 | n::ns,x::l,vs,O,r,a=>by
  rw[Reps] at r;obtain⟨u,b,g,O2,rfl,rfl,r1,r2⟩:=r;rw[qE];by_cases e:n=f
  ·rw[if_pos e];refine⟨v::b,P++O2,Reps.cons rd r2,?_,a,λc=>by simp only[U9];lia⟩;rw[U8,U8,VT,if_pos e]
  ·rw[if_neg e];obtain⟨vs2,h,i,e3,j,k⟩:=Vg (f:=f) rd r2 (by simpa using a);refine⟨u::vs2,g++h,Reps.cons r1 i,?_,by simp[j],λc=>by have:=k c;simp only[U9];lia⟩;rw[U8,U8,VT,if_neg e,e3]
@[simp] def JA(i:Nat)(c:Nat)(f:Str)(pv:PF)(ρ:Rh):Option Out:=(pv ρ).bind λd=>(pV i ρ).bind λt=>(zw t).bind λy=>bif y.1==c&&decide (y.2.1.length<=900) then some (.nx<|ρ.set i<|some<|.ins true c (qE y.2.1 y.2.2 f d).1 (qE y.2.1 y.2.2 f d).2) else none
def jcf{l:List α}{m:List β}(h:decide (l.length<=900)=true):(l.zip m).length < 1000:=by
 rw[List.length_zip];have:=E1 h;exact E7 (Nat.min_le_left _ _) (by lia)
def ji6{R:RC}{pm:List Nat}{i c:Nat}{f:Str}{tv:TE}{pv:PF}(m:Cls R.K<|R.cls c)(n:NoAttr R.K (R.cls c) f)(p:PP R tv pv):DS R pm (jlU R.K (jV i) tv f) (JA i c f pv):=by
 intro σ ρ Z H O o w s e G k;refine ob e λd r e=>ob e λt v e=>ob e λ⟨x,ns,l⟩ e2 e=>oc e λb e=>?_;cases e;cases Jq e2;rw[M3] at b;obtain rfl:x=c:=by simpa using b.1
 refine p w.zd s r λ{u I J L} j r1=>?_;have g:=j.widen w;refine kE kQ g.wf (j.slots w.zd s) v rfl ow_ins λa y M N z h ea A put=>A ?_;obtain⟨B,P,C,e3,D,E⟩:=Vg (f:=f) r1 z h;obtain⟨Q,g3,F⟩:=put ow_ins D (Go.id g.wf.zd) C λq=>by have:=E q;simp;lia
 refine⟨a,_,y,_,rfl,ea,m,n,jcf b.2,?_⟩;rw[<- e3];exact k (g.trans g3) F<|Keep.refl _ _
def jkb(b:Cls X.K<|cl c)(d:NoAttr X.K (cl c) f)(a:QB cl X o to po)(e:attributeBase o f X.env (eval o X.env)=eval o X.env:=by rfl):QB cl X (.Attribute o f pos) (jdf X.K to f) (qN c f po):=⟨wG a.sem e,jkV (R:=⟨X.K,cl⟩) b d a.den⟩
def jkB(b:Cls X.K<|cl c)(d:NoAttr X.K (cl c) f)(g:QB cl X (.Name x xpos) (jV i)<|pV i)(a:QP cl X e te pe)(h:swapsWith e (some<|.Attribute (.Name x xpos) f pos') pos.line X.env=pure false:=by rfl) :
  QS cl pm X (.Assign [.Attribute (.Name x xpos) f pos'] e pos) (jlU X.K (jV i) te f) (JA i c f pe):=⟨jk2 g.sem a.sem h,ji6 (R:=⟨X.K,cl⟩) b d a.den⟩
noncomputable def jkh:List Str->Str->Option Nat
 | [],_=>none
 | n::ns,f=>if f=n then some 0 else(jkh ns f).map (·+1)
theorem wI:∀{ns:List Str}{f:Str}{vs:List V}{j:Nat}{v:V},jkh ns f=some j->ns.length=vs.length->vs[j]?=some v->(ns.zip vs).lookup f=some v
 | [],_,_,_,_,h,_,_=>by cases h
 | n::ns,f,[],_,_,_,a,_=>by simp at a
 | n::ns,f,u::vs,j,v,h,a,b=>by
  rw[jkh] at h;by_cases e:f=n
  ·rw[if_pos e] at h;cases h;cases b;rw[U8,List.lookup_cons,e];simp
  ·rw[if_neg e] at h;cases hp:jkh ns f with
   | none=>rw[hp] at h;cases h
   | some i =>
    rw[hp] at h;cases h;rw[U8,List.lookup_cons,show(f==n)=false by simp[e]];exact wI hp (by simpa using a) (by simpa using b)
theorem Kw:∀{ns:List Str}{l:List D}{vs:List V},ns.length=l.length->vs.length=l.length->qY ns l f=none->(ns.zip vs).lookup f=none
 | [],_,_,_,_,_=>rfl
 | n::ns,[],_,a,_,_=>by simp at a
 | n::ns,x::l,[],_,b,_=>by simp at b
 | n::ns,x::l,v::vs,a,b,h=>by
  rw[qY] at h;by_cases e:f=n
  ·rw[if_pos e] at h;cases h
  ·rw[if_neg e] at h;rw[U8,List.lookup_cons,show(f==n)=false by simp[e]];exact Kw (by simpa using a) (by simpa using b) h
@[simp] def yH(m:List D->Option (D×D))(i c:Nat)(mn:Str)(p:PAf)(ρ:Rh):Option (D×Rh):=(p ρ).bind λds=>(pV i ρ).bind λt=>(zw t).bind λy=>bif y.1==c&&(frzs ds&&(qY y.2.1 y.2.2 mn).isNone) then(m<|t::ds).bind λr=>some (r.1,ρ.set i<|some r.2) else none
def jd8(h:PPs R ta p)(M:∀ ρ ds,p ρ=some ds->ds.length+1=n):DE R (jcl (R.cls c) mn (spM R m n 0) [] E0 (jV i) ta) (yH m i c mn p):=by
 intro σ ρ ρ' Z H O d w s e Q k;refine ob e λds E e=>ob e λy b e=>ob e λ⟨j,ns,l⟩ e3 e=>oc e λF e=>ob e λ⟨N,S⟩ e2 e=>?_;cases e;cases Jq e3;have b:=Vf b;rw[M3,M3] at F;obtain⟨o,q,r⟩:=F;obtain rfl:j=c:=by simpa using o
 have hi:=(M0.mp b).1;obtain⟨A0,P0,B0,_,T,_,_⟩:=s.put hi;obtain⟨u,t,G⟩:=T _ b;rw[Rep] at G;obtain⟨a,U,vs,O',rfl,V,x,ea,_⟩:=G;refine⟨.ref a,t,a,U,_,rfl,ea,Kw x V.length<|Option.isNone_iff_eq_none.mp r,?_⟩;refine h w.zd s E λ{W C I P1} J K=>?_;cases K.nil q;have f:Go Z H O C I O:=by simpa using J.widen w
 obtain⟨A,P,B,rfl,X,Y,_⟩:=(J.slots w.zd s).put hi;obtain⟨u',g,rc⟩:=X _ b;rw[t] at g;cases g;have rr:Reps R C I (.ins true j ns l::ds) (.ref a::W) P:=by
  have:=Reps.cons rc K;simpa using this
 refine⟨C,.ins true j ns l::ds,N,S,P,.ref a,f.wf.mid,by have:=M ρ ds E;simpa using this,by rw[N1];exact rr,rfl,e2,λ{v Z2 H2 P2 O2} g2 r2 D=>?_⟩;have g3:=g2.frame f.wf;have L:=Go.keepA f.wf g2;have s2:=Y D g2.zz (λa z=>g2.zH f.wf.mid a z) L.1 L.2;rw[Jn t] at s2;exact k (P:=P2) (f.trans g3).turn r2 s2
noncomputable def jiS:D×D->Option D
 | (.non,t)=>some t
 | _=>none
@[simp] def nonOf_non(t:D):jiS (.non,t)=some t:=rfl
@[simp] def jaC(m:List D->Option (D×D))(c:Nat)(p:PAf)(ρ:Rh):Option D:=(p ρ).bind λds=>bif frzs ds then(m<|.ins true c [] []::ds).bind jiS else none
def jib(h:PPs R ta p)(A:∀ ρ ds,p ρ=some ds->ds.length+1=n):PP R (jgp (R.cls c) (spM R m n 0) [] E0 ta) (jaC m c p):=by
 intro σ ρ Z H O d z s e Q k;refine ob e λds q e=>oc e λB e=>ob e λ⟨x,t⟩ e2 e=>?_;cases x with
 | non =>
  cases e;refine h z s q λ{I C r J} f u=>?_;cases u.nil B;intro x b D g i;have w:=Go.newF (o:=.own x) (wf0 f.wf.zd) g;have j:upd r b (.own x) x=none:=by rw[jg<|λe=>i e.symm];exact D
  have E:=Go.newO (o:=.ins (R.cls c) b []) w.wf j;have g2:=w.trans E;have F:=g2.reps f.wf.zd u;have G:Rep R (λa=>C a \/ a=b) (upd (upd r b<|.own x) x<|.ins (R.cls c) b []) (.ins true c [] []) (.ref x) [x]:=by
   rw[Rep];exact⟨x,b,[],[],rfl,.empty,rfl,jr,rfl⟩
  refine⟨_,.ins true c [] []::ds,.non,d,[x],.ref x,g2.wf,by have:=A ρ ds q;simpa using this,by rw[N1];have:=Reps.cons G F;simpa using this,rfl,e2,λ{v Z3 K L M} g3 y l=>?_⟩;rw[Rep] at y;obtain⟨rfl,rfl⟩:=y;exact⟨rfl,k (by simpa using(f.trans g2).trans g3) l⟩
 | _=>cases e
section
variable {cl:Nat->Addr}{pm:List Nat}{X:Cx}{e:Expr}{es:List Expr}{tr:TA}{pr:PAf}{pos p apos:Pos}
structure MtFact(K:W4)(C:Addr)(x qual:Str)(st:Stmt)(f:Addr)(fd:FuncData)(ps:List Str):Prop where
 fn:Fun K x qual st f fd
 mt:Meth K C x f
 bd:Binds K fd ps []
def OkM(P:Program)(w:World)(K:W4)(mg:W6)(C:Addr)(x qual:Str)(st:Stmt)(k:Nat)(ps:List Str)(sp:Sp):Prop:=∃ f fd,MtFact K C x qual st f fd ps/\∀ base,FnOk P w K mg base CX0 k f fd ps sp
def jin{k n i c:Nat}{ps:List Str}{m:List D->Option (D×D)}{x mn qual:Str}{st:Stmt}{pl:Sem Bool}(g:Cls X.K<|cl c)(O:OkM X.prog X.w X.K X.mg (cl c) mn qual st k ps<|spM ⟨X.K,cl⟩ m n 0)(h:Room k X.A)(j:QB cl X (.Name x p) (jV i)<|pV i)(d:QPs cl X (e::es) tr pr)(l:∀ ρ ds,pr ρ=some ds->ds.length+1=n)
  (a:starEach (e::es) X.env=(false,eval e X.env)::starEach es X.env:=by rfl) (b:(backTo pos<|starEach es X.env).any (·.1)=false:=by rfl)
  (o:eval (.Call (.Attribute (.Name x p) mn apos) (e::es) [] pos) X.env=(do
   let ov <- eval (.Name x p) X.env
   standAt apos.atName
   let (f,first) <- holding [ov] (getMethod ov mn pl)
   callWith pos f first (backTo pos<|starEach (e::es) X.env) (backToKw pos<|keywordEach [] X.env)):=by rfl) :
  QE cl X (.Call (.Attribute (.Name x p) mn apos) (e::es) [] pos) (jcl (cl c) mn (spM ⟨X.K,cl⟩ m n 0) [] E0 (jV i) tr) (yH m i c mn pr):=by
 obtain⟨_,_,F,G⟩:=O;exact⟨jcT j.sem g F.mt (G _) h F.bd .nil jdH d.sem a b o,jd8 (R:=⟨X.K,cl⟩) d.den l⟩
def jkj{k n c:Nat}{ps:List Str}{m:List D->Option (D×D)}{x qual:Str}{st:Stmt}(f:PySem.W.makesIn X.K (cl c)=true)(g:PySem.W.keepIn X.K (.ref<|cl c)=true)(O:OkM X.prog X.w X.K X.mg (cl c) "__init__" qual st k ps<|spM ⟨X.K,cl⟩ m n 0)(h:Room (k+1) X.A)(i:X.mg x=some (.ref<|cl c))(d:QPs cl X (e::es) tr pr)(j:∀ ρ ds,pr ρ=some ds->ds.length+1=n)(l:Gl X x:=by rfl)
  (a:(x==("__debug__" : Str))=false:=by decide) (o:starEach (e::es) X.env=(false,eval e X.env)::starEach es X.env:=by rfl) (b:(backTo pos<|starEach es X.env).any (·.1)=false:=by rfl) :
  QP cl X (.Call (.Name x p) (e::es) [] pos) (jgp (cl c) (spM ⟨X.K,cl⟩ m n 0) [] E0 tr) (jaC m c pr):=by
 obtain⟨_,_,F,G⟩:=O;exact⟨jgE ⟨f,F.mt.at_,F.mt.fn,g⟩ (G _) h l i F.bd .nil jdH d.sem a o b,jib (R:=⟨X.K,cl⟩) d.den j⟩
end
@[simp] def JL(m:List D->Option D)(c:Nat)(mn:Str)(po:PF)(p:PAf)(ρ:Rh):Option D:=(po ρ).bind λs=>(jlJ s).bind λy=>bif y.1==c&&(qY y.2.1 y.2.2 mn).isNone then(p ρ).bind λds=>(m<|fzs<|s::ds).bind λd=>bif frzs (s::ds)||clean d then some d else none else none
def jhK(q:PB R to po)(r:PBs R ta p)(t:∀ ρ ds,p ρ=some ds->ds.length+1=n):PP R (jcl (R.cls c) mn (spP R m n) [] E0 to ta) (JL m c mn po p):=by
 intro σ ρ Z H O d z s e Q k;refine ob e λC u e=>ob e λ⟨v,ns,l⟩ e3 e=>oc e λf e=>ob e λds i e=>ob e λc0 e2 e=>oc e λw e=>?_;cases e;obtain⟨o,rfl⟩:=jhL e3;rw[M3] at f;obtain rfl:v=c:=by simpa using f.1
 refine q z s u λ{D E F G} g0 j=>?_;have b:=j;rw[Rep] at b;obtain⟨a,x,y,I,rfl,A,g,ea,_⟩:=b;exact⟨a,x,_,rfl,ea,Kw g A.length<|Option.isNone_iff_eq_none.mp f.2,r g0.wf.zd (g0.slots z s) i λh B=>jc2 h.wf.zd (Reps.cons (h.rep g0.wf.zd j) B) (t ρ ds i) e2 w λg2 r2=>k (by simpa using(g0.pair h).pair g2) r2⟩
def ql(c:Nat)(f:Str)(L:Ln)(d:D):Option (D×(D->D)):=(L d).bind λy=>(zw y.1).bind λq=>bif q.1==c then(jkh q.2.1 f).bind λj=>(q.2.2[j]?).bind λx=>some (x,λx'=>y.2<|.ins true q.1 q.2.1<|q.2.2.set j x') else none
def jkz(F:Cls R.K<|R.cls c)(G:NoAttr R.K (R.cls c) f)(h:jc5 R tb i L):jc5 R (jdf R.K tb f) i (ql c f L):=by
 intro σ ρ Z H O d x k s hd e;refine ob e λ⟨y,k0⟩ I e=>ob e λ⟨J,ns,l⟩ e3 e=>oc e λM e=>ob e λj N e=>ob e λx0 e2 e=>?_;cases e;cases Jq e3;obtain rfl:J=c:=by simpa using M
 obtain⟨v,A,P,B,rfl,r,Q,S⟩:=h s hd I;rw[Rep] at r;obtain⟨a,t,T,O',rfl,w,n,ea,rfl⟩:=r;obtain⟨u,U,V,W,z,rfl,X,o⟩:=w.at e2;refine⟨u,A++(a::U),V,W++B,by simp,X,λq=>Q ⟨a,_,t,_,u,rfl,ea,F,G,wI N (by rw[w.length];exact n) z,q⟩,λ{Z' H' x' Y} r' C D p E=>?_⟩;have g:=o r' C D (λb m=>p b<|by simp[m])<|λb m=>E b (by simp[m]);rw[Jn z] at g;have s2:=S (ow_ins.mpr ⟨a,t,T,_,rfl,g,by rw[List.length_set];exact n,(p a<|by simp).trans ea,rfl⟩) C D (λb m=>p b<|by simp[m])<|λb m=>E b (by simp[m]);simpa using s2
structure QL(cl:Nat->Addr)(X:Cx)(e:Expr)(tb:TE)(i:Nat)(L:Ln):Prop where
 sem:PE X e tb
 den:jc5 ⟨X.K,cl⟩ tb i L
section
variable {cl:Nat->Addr}{pm:List Nat}{X:Cx}{o e j:Expr}{es:List Expr}{to te tb tj:TE}{po pe pj:PF}{tr:TA}{pr:PAf}{pos p apos:Pos}{L L':Ln}{i:Nat}
def jja{k n c:Nat}{ps:List Str}{m:List D->Option D}{mn qual:Str}{st:Stmt}{pl:Sem Bool}(i:Cls X.K<|cl c)(O:OkM X.prog X.w X.K X.mg (cl c) mn qual st k ps<|spP ⟨X.K,cl⟩ m n)(j:Room k X.A)(g:QB cl X o to po)(a:QBs cl X (e::es) tr pr)(l:(e::es).length+1=n:=by rfl)
  (b:starEach (e::es) X.env=(false,eval e X.env)::starEach es X.env:=by rfl) (d:(backTo pos<|starEach es X.env).any (·.1)=false:=by rfl)
  (p:eval (.Call (.Attribute o mn apos) (e::es) [] pos) X.env=(do
   let ov <- eval o X.env
   standAt apos.atName
   let (f,first) <- holding [ov] (getMethod ov mn pl)
   callWith pos f first (backTo pos<|starEach (e::es) X.env) (backToKw pos<|keywordEach [] X.env)):=by rfl) :
  QP cl X (.Call (.Attribute o mn apos) (e::es) [] pos) (jcl (cl c) mn (spP ⟨X.K,cl⟩ m n) [] E0 to tr) (JL m c mn po pr):=by
 obtain⟨_,_,F,G⟩:=O;exact⟨jcT g.sem i F.mt (G _) j F.bd .nil jdH a.sem b d p,jhK (R:=⟨X.K,cl⟩) g.den a.den λρ q h=>by rw[a.n ρ q h];exact l⟩
def jkG{x:Str}(a:QB cl X (.Name x p) (jV i)<|pV i):QL cl X (.Name x p) (jV i) i vQ:=⟨a.sem,kQ⟩
def jld{c:Nat}{f:Str}(a:Cls X.K<|cl c)(b:NoAttr X.K (cl c) f)(h:QL cl X o tb i L)(d:attributeBase o f X.env (eval o X.env)=eval o X.env:=by rfl):QL cl X (.Attribute o f pos) (jdf X.K tb f) i (ql c f L) :=
 ⟨wG h.sem d,jkz (R:=⟨X.K,cl⟩) a b h.den⟩
def jii{cpos:Pos}(g:QL cl X o tb i L)(h:QP cl X e te pe)(b:attributeBase o "append" X.env (eval o X.env)=eval o X.env:=by rfl)
  (d:((backTo cpos<|starEach [e] X.env).all (λx=>!x.1)&&(backToKw cpos<|keywordEach [] X.env).all (λx=>x.1.isSome)
   && decide ([e].length+([]:List Keyword).length+(if([]:List Keyword).isEmpty then 0 else 1) < 30))=true:=by rfl)
  (c:(apos.endLine==cpos.line)=true:=by rfl) (j:starEach [e] X.env=(false,eval e X.env)::starEach [] X.env:=by rfl) (a:(backTo cpos<|starEach [] X.env).any (·.1)=false:=by rfl)
  (f:swapsWith (.Call (.Attribute o "append" apos) [e] [] cpos) none pos.line X.env=pure false:=by rfl) :
  QS cl pm X (.Expr (.Call (.Attribute o "append" apos) [e] [] cpos) pos) (JK<|tBM X.K "list" YW tb<|jB te JY) (kD i L pe) :=
 ⟨YV (jhl PySem.F.plainAttrs_list PySem.F.slot_list_append PySem.F.type_list_append YF g.sem (jI h.sem vX j) b d c j a) f,jcb (R:=⟨X.K,cl⟩) g.den h.den⟩
end
def jnM(R:RC)(tk:TE)(pk:Rh->Option (List KA)):Prop:=∀{σ:L2.St}{ρ:Rh}{Z:Zn}{H:Hp}{O:W5}{k:List KA},Zd Z H->Slots R Z H ρ σ O->pk ρ=some k ->
 ∀{Q:VK},(∀{p:Addr}{Z':Zn}{H':Hp},Go Z H [] Z' H' []->Z' p->H' p=some (.tup<|(k.map kaV).map kV)->Q (.ref p) H')->tk σ H Q
structure QK3(cl:Nat->Addr)(X:Cx)(e:Expr)(tk:TE)(pk:Rh->Option (List KA)):Prop where
 sem:PE X e tk
 den:jnM ⟨X.K,cl⟩ tk pk
section
variable {R:RC}{Z Z' Z2:Zn}{H H' H2:Hp}{pm:List Nat}
def jb6(rd:Rep R Z H d v P)(a:KA)  (r:Reps R Z H l vs O) (b:ks.length=l.length) (c:a∉ks) :
  Reps R Z H (v9 ks l a d).2 (vs++[v]) (O++P)/\(((v9 ks l a d).1).map kaV).zip (vs++[v])=kI ((ks.map kaV).zip vs) (kaV a) v/\(v9 ks l a d).1.length=(v9 ks l a d).2.length:=by
 have e:ks.length=vs.length:=by rw[r.length];exact b
 unfold v9 kI;rw[x6 a e,if_neg c,X9 c,if_neg<|λz=>(nomatch z)];refine⟨r.append<|Reps.one rd,?_,by simp[b]⟩;rw[N6,List.zip_append<|by simpa using e];rfl
def YI(i:Nat)(L:Ln)(pk pv:PF)(ρ:Rh):Option Out:=(pv ρ).bind λd=>(pV i ρ).bind λt=>(L t).bind λy=>(jea y.1).bind λkl=>(pk ρ).bind λq=>(vB q).bind λa=>bif lim kl.1.length&&(frz d||!decide (a∈kl.1)) then some (.nx<|ρ.set i<|some<|y.2<|.dK true (v9 kl.1 kl.2 a d).1 (v9 kl.1 kl.2 a d).2) else none
def jdE{i:Nat}{L:Ln}{tb ty tv:TE}{pk pv:PF}(B:jc5 R tb i L)(C:PB R ty pk)(D:PP R tv pv):DS R pm (xt tb ty tv) (YI i L pk pv):=by
 intro σ ρ Z H O o w s e V k;refine ob e λd E e=>ob e λt hi e=>ob e λ⟨y,W⟩ e3 e=>ob e λ⟨g,l⟩ e7 e=>ob e λq F e=>ob e λc e5 e=>oc e λx e=>?_;cases e;cases xv e7;rw[M3] at x;refine D w.zd s E λ{u X Y G} h r1=>?_;have s1:=h.slots w.zd s;have A:=h.widen w;refine kE B A.wf s1 hi e3 jar λa _ I J K j ea M put=>M<|C h.wf.zd s1 F λ{z N P P2} g2 r2=>?_;obtain⟨rfl,_⟩:=yz e5 r2;have m:=g2.rep h.wf.zd r1;have n:=g2.reps h.wf.zd K;have key:∃ b p,Reps R N P (v9 g l c d).2 b p/\(((v9 g l c d).1).map kaV).zip b=kI ((g.map kaV).zip I) (kaV c) u/\(∀ q,p.count q<=J.count q+G.count q)/\(v9 g l c d).1.length=(v9 g l c d).2.length:=by
  cases hf:frz d with
  | true =>
   cases r1.nil hf;obtain⟨b,p,r,v,Q,f⟩:=Ye m c n j;exact⟨b,p,r,v,λq=>by simpa using Q.count_le q,f⟩
  | false =>
   have S:c∉g:=by
    have:=x.2;rw[hf] at this;simpa using this
   obtain⟨r,v,f⟩:=jb6 m c n j S;exact⟨_,_,r,v,λq=>by rw[U9];exact N0 _,f⟩
 obtain⟨b,p,r,v,T,f⟩:=key;obtain⟨O3,g3,U⟩:=put jar f g2 r λq=>by simpa using T q
 refine⟨a,_,rfl,DPut.k (g2.at0 ea)<|YY x.1,?_⟩;rw[<- v];exact k (A.trans g3) U<|Keep.refl _ _
def J3(i:Nat)(L:Ln)(c:Nat)(f:Str)(g:Int->Int->Int)(pv:PF)(ρ:Rh):Option Out:=(pV i ρ).bind λt=>(L t).bind λy=>(zw y.1).bind λq=>(qY q.2.1 q.2.2 f).bind λm=>(ve m).bind λm=>(pv ρ).bind λn=>(ve n).bind λn =>
 bif q.1==c&&decide (q.2.1.length<=900) then some (.nx<|ρ.set i<|some<|y.2<|.ins true c (qE q.2.1 q.2.2 f<|.int<|g m n).1 (qE q.2.1 q.2.2 f<|.int<|g m n).2) else none
def jeH{i c:Nat}{f:Str}{L:Ln}{tb tv:TE}{pv:PF}{g:Int->Int->Int}{rd:V->V->Hp->VK->Prop}(d:∀{m n:Int}{H:Hp}{Q:VK},Q (.int<|g m n) H->rd (.int m) (.int n) H Q)(A:Cls R.K<|R.cls c)(B:NoAttr R.K (R.cls c) f)(C:jc5 R tb i L)(D:PB R tv pv):DS R pm (xZ R.K tb tv rd f) (J3 i L c f g pv):=by
 intro σ ρ Z H O o w s e U k;refine ob e λt hi e=>ob e λ⟨y,W⟩ e3 e=>ob e λ⟨E,ns,l⟩ F e=>ob e λx G e=>ob e λm I e=>ob e λX J e=>ob e λn e2 e=>oc e λh e=>?_;cases e;cases Jq F;cases jD I;cases jD e2;rw[M3] at h;obtain rfl:E=c:=by simpa using h.1
 refine kE (P0:=[]) C w s hi e3 ow_ins λa v Y O' z b ea M put=>?_;obtain⟨mv,P3,j,p⟩:=zP z b G;obtain⟨rfl,_⟩:=p.int_of;refine M ⟨a,_,v,_,_,rfl,ea,A,B,j,D w.zd s J λ{u Z2 H2 P4} g2 r2=>?_⟩;obtain⟨rfl,_⟩:=r2.int_of;obtain⟨N,O2,P,e7,r,S⟩:=Vg (f:=f) (Rep.int_mk (i:=g m n)) (g2.reps w.zd z) b;obtain⟨O3,g3,T⟩:=put ow_ins r g2 P λq=>by simpa using S q
 refine d ⟨v,_,g2.at0 ea,jcf h.2,?_⟩;rw[<- e7];exact k g3 T<|Keep.refl _ _
end
section
variable {cl:Nat->Addr}{pm:List Nat}{X:Cx}{o b e:Expr}{to tb te:TE}{po pb pe:PF}{pos p fp tpos:Pos}{k i:Nat}{L:Ln}
def jeJ(f:Room k X.A)(a:QL cl X o to i L)(c:QB cl X b tb pb)(d:QP cl X e te pe)(g:swapsWith e (some<|.Subscript o b pos') pos.line X.env=pure false:=by rfl) :
  QS cl pm X (.Assign [.Subscript o b pos'] e pos) (xt to tb te) (YI i L pb pe):=⟨xz (YU f) a.sem c.sem d.sem g,jdE (R:=⟨X.K,cl⟩) a.den c.den d.den⟩
def jaP(f:Room k X.A)(a:QL cl X o to i L)(c:QB cl X b tb pb)(d:QB cl X e te pe)
  (g:∀ ov iv new,augStore b ov iv new=(do holding [new,ov,iv] (setItem ov iv new);release [new,ov,iv] [];pure .next):=by intro _ _ _;rfl) :
  QS cl pm X (.AugAssign (.Subscript o b tpos) .Add e pos) (Qh to tb te jm8) (vf i L pb (λm n=>m+n) pe):=⟨Kg (YU f) a.sem c.sem d.sem jiy g,Kr (R:=⟨X.K,cl⟩) (λq=>⟨_,_,rfl,rfl,q⟩) a.den c.den d.den⟩
def jcC(f:Room k X.A)(a:QL cl X o to i L)(c:QB cl X b tb pb)(d:QB cl X e te pe)
  (g:∀ ov iv new,augStore b ov iv new=(do holding [new,ov,iv] (setItem ov iv new);release [new,ov,iv] [];pure .next):=by intro _ _ _;rfl) :
  QS cl pm X (.AugAssign (.Subscript o b tpos) .Sub e pos) (Qh to tb te jjC) (vf i L pb (λm n=>m - n) pe):=⟨Kg (YU f) a.sem c.sem d.sem uE g,Kr (R:=⟨X.K,cl⟩) (λq=>⟨_,_,rfl,rfl,q⟩) a.den c.den d.den⟩
def jcW{c:Nat}{f:Str}(d:Cls X.K<|cl c)(g:NoAttr X.K (cl c) f)(a:QL cl X o to i L)(b:QB cl X e te pe) :
  QS cl pm X (.AugAssign (.Attribute o f tpos) .Sub e pos) (xZ X.K to te jjC f) (J3 i L c f (λm n=>m - n) pe):=⟨jb1 a.sem b.sem uE,jeH (R:=⟨X.K,cl⟩) (λq=>⟨_,_,rfl,rfl,q⟩) d g a.den b.den⟩
end
namespace QK
def fld{K:W4}{cl:Nat->Addr}{X:Cx}{o:Expr}{to:TE}{po:PF}{pos:Pos}{c:Nat}{f:Str}(a:X.K=K)(b:Cls X.K<|cl c)(d:NoAttr X.K (cl c) f)(e:QB cl X o to po)(g:attributeBase o f X.env (eval o X.env)=eval o X.env:=by rfl):QB cl X (.Attribute o f pos) (jdf K to f) (qN c f po):=by subst a;exact jkb b d e g
end QK
section
variable {R:RC}{Z Z':Zn}{H H':Hp}{pm:List Nat}
def kC(m:List D->Option (D×D))(i:Nat)(L:Ln)(p:PAf)(ρ:Rh):Option (D×Rh):=(pV i ρ).bind λt=>(L t).bind λy=>(p ρ).bind λds=>bif frzs ds then(m<|y.1::ds).bind λr=>some (r.1,ρ.set i<|some<|y.2 r.2) else none
def jbz(q:jc5 R tb i L)(u:PPs R tr p)(x:∀ ρ ds,p ρ=some ds->ds.length+1=n):DE R (xj (spM R m n 0) [] E0<|jB tb tr) (kC m i L p):=by
 intro σ ρ N Z H O d w s e Q k;refine ob e λt hi e=>ob e λ⟨y,S⟩ e3 e=>ob e λds j e=>oc e λC e=>ob e λ⟨D,E⟩ e2 e=>?_;cases e;obtain⟨v,A,P,B,rfl,r,F,G⟩:=q s (Vf hi) e3;refine F ?_;refine u w.zd s j λ{I f l T} b r1=>?_;cases r1.nil C;have c:Go Z H (A++P++B) f l (A++P++B):=by simpa using b.widen w
 have J:=b.rep w.zd r;have K:Reps R f l (y::ds) (v::I) P:=by
  have:=Reps.cons J r1;simpa using this
 refine⟨f,y::ds,D,E,P,v,c.wf.mid,by have:=x ρ ds j;simpa using this,by rw[N1];exact K,rfl,e2,λ{U V W M X} g2 r2 g=>?_⟩;have g3:=g2.frame c.wf;have o:=Go.keepA c.wf g2;have s2:=G g (λa z=>g2.zz a<|b.zz a z) (λa z=>(g2.zH c.wf.mid a<|b.zz a z).trans (b.same a<|w.zd a z)) (λa h=>(o.1 a h).trans (b.same a<|w.od a<|by simp[h]))<|λa h=>(o.2 a h).trans (b.same a<|w.od a<|by simp[h]);exact k (P:=M) (c.trans g3).turn r2 s2
def jeD(i:Nat)(pa pb:PF)(g:Int->Int->Int)(pv:PF):FS:=λρ=>(pV i ρ).bind λx=>(jgB x).bind λp=>(jc9 pa pb ρ).bind λa=>(QA p.1 p.2 a).bind λy=>(ve y).bind λm=>(pv ρ).bind λz=>(ve z).bind λn =>
 bif lim p.1.length then some (.nx<|ρ.set i<|some<|.dT true (KC p.1 p.2 a<|.int<|g m n).1 (KC p.1 p.2 a<|.int<|g m n).2) else none
def jhY{i:Nat}{ta tb tv:TE}{pa pb pv:PF}{g:Int->Int->Int}{rd:V->V->Hp->VK->Prop}(j:∀{m n:Int}{H:Hp}{Q:VK},Q (.int<|g m n) H->rd (.int m) (.int n) H Q)(D:PB R ta pa)(E:PB R tb pb)(F:PB R tv pv):DS R pm (Qh (jV i) (jd7 ta tb) tv rd) (jeD i pa pb g pv):=by
 intro σ ρ Z H O o w s e U k;refine ob e λx G e=>ob e λ⟨W,l⟩ I e=>ob e λc e2 e=>ob e λy e3 e=>ob e λm J e=>ob e λz e7 e=>ob e λn K e=>oc e λf e=>?_;cases e;cases xb I;cases jD J;cases jD K;refine kE (P0:=[]) kQ w s G rfl jdG λa _ X Y B h ea L put=>L<|Yk D E w.zd s e2 λ{b Z2 H2} g2 zb C=>?_;obtain⟨mv,P3,p,r⟩:=(Yg (a:=c) B h).1 _ e3;obtain⟨rfl,_⟩:=r.int_of;refine⟨a,.int m,rfl,by rw[<- p];exact DGet.t (g2.at0 ea) C,F g2.wf.zd (g2.slots w.zd s) e7 λ{u Z3 H3 P4} g3 M=>?_⟩;obtain⟨rfl,_⟩:=M.int_of;have d:=g2.trans g3;obtain⟨N,O2,v,P,S,A⟩:=Kh (Rep.int_mk (i:=g m n)) c (d.reps w.zd B) h;obtain⟨O3,g4,T⟩:=put jdG A d v λq=>by simpa using S.count_le q
 refine j ⟨_,DPut.t (d.at0 ea) (g3.at0 C)<|YY f,?_⟩;rw[<- P];exact k g4 T<|Keep.refl _ _
end
section
variable {cl:Nat->Addr}{pm:List Nat}{X:Cx}{o e:Expr}{es:List Expr}{to te:TE}{po pe:PF}{tr:TA}{pr:PAf}{pos p:Pos}{i:Nat}{L:Ln}
def jdD{k n:Nat}{ps:List Str}{m:List D->Option (D×D)}{x:Str}{st:Stmt}(O:OkF X.prog X.w X.K X.mg x st k ps<|spM ⟨X.K,cl⟩ m n 0)(f:Room k X.A)
  (c:QL cl X o to i L) (d:QPs cl X es tr pr) (g:∀ ρ ds,pr ρ=some ds->ds.length+1=n) (h:Gl X x:=by rfl) (a:(x==("__debug__" : Str))=false:=by decide)
  (e:starEach (o::es) X.env=(false,eval o X.env)::starEach es X.env:=by rfl) (b:(backTo pos<|starEach es X.env).any (·.1)=false:=by rfl):QE cl X (.Call (.Name x p) (o::es) [] pos) (xj (spM ⟨X.K,cl⟩ m n 0) [] E0<|jB to tr) (kC m i L pr):=by
 obtain⟨_,_,F,G⟩:=O;exact⟨jkr F (G _) f (jI c.sem d.sem e) h a e b,jbz (R:=⟨X.K,cl⟩) c.den d.den g⟩
def jeg{a b:Expr}{ta tb:TE}{pa pb:PF}{x:Str}{x1}{k:Nat}{c kpos tpos:Pos}(h:Room k X.A)(j:QB cl X (.Name x c) (jV i)<|pV i)(d:QB cl X a ta pa)(f:QB cl X b tb pb)(g:QB cl X e te pe)
  (l:∀ ov iv new,augStore (.Tuple [a,b] x1 kpos) ov iv new=(do holding [new,ov,iv] (setItem ov iv new);release [new,ov,iv] [];pure .next):=by intro _ _ _;rfl)
  (h1:starEach [a,b] X.env=(false,eval a X.env)::starEach [b] X.env:=by rfl) (h2:starEach [b] X.env=(false,eval b X.env)::starEach [] X.env:=by rfl) :
  QS cl pm X (.AugAssign (.Subscript (.Name x c) (.Tuple [a,b] x1 kpos) tpos) .Sub e pos) (Qh (jV i) (jd7 ta tb) te jjC) (jeD i pa pb (λm n=>m - n) pe) :=
 ⟨Kg (YU h) j.sem (Jx<|jI d.sem (jI f.sem vX h2) h1) g.sem uE l,jhY (R:=⟨X.K,cl⟩) (λq=>⟨_,_,rfl,rfl,q⟩) d.den f.den g.den⟩
def jem(e:Room k X.A)(c:QB cl X a ta pa)(d:QB cl X b tb pb)(f:behindInMarks .NotIn b=false:=by with_unfolding_all rfl):QP cl X (.Compare a [.NotIn] [b] pos) (V4 ta tb) (p2 (zV true) pa pb) :=
 ⟨ji9 (jcH (YU e) c.sem d.sem) f,jbg c.den d.den⟩
end
section
variable {R:RC}{Z Z':Zn}{H H':Hp}{pm:List Nat}
def KW(K:W4):List V->Hp->VK->Prop:=(λxs H Q=>∃(p:Addr) (ys:List V) (ps:List<|List Key×Addr×V),xs=[.ref p]/\SqL K H p ys/\ys.length=ps.length/\ps.length<=100000 /\
  (∀(j:Nat) (y:V),ys[j]?=some y->∃ kv t,ps[j]?=some kv/\y=.ref t/\SqT K H t [.ref kv.2.1,kv.2.2]/\H kv.2.1=some (.tup<|kv.1.map kV))/\∀ D,H D=none->Q (.ref D) (upd H D<|.dT<|ps.foldl (λa kv=>kI a kv.1 kv.2.2) []))
def PK(R:RC)(te:TE)(pk:Rh->Option (List KA))(pv:PF):Prop:=∀{σ:L2.St}{ρ:Rh}{Z:Zn}{H:Hp}{O:W5}{c:List KA}{d:D},Zd Z H->Slots R Z H ρ σ O->pk ρ=some c->pv ρ=some d->frz d=true ->
 ∀{Q:VK},(∀{t b:Addr}{u:V}{Z':Zn}{H':Hp},Go Z H [] Z' H' []->Z' t->Z' b->H' t=some (.tup [.ref b,u])->H' b=some (.tup<|(c.map kaV).map kV)->Rep R Z' H' d u []->Q (.ref t) H')->te σ H Q
def jmh{ta tb tv:TE}{pa pb pv:PF}(o:PB R ta pa)(p:PB R tb pb)(q:PB R tv pv):PK R (VN<|jB (jd7 ta tb)<|jB tv JY) (jc9 pa pb) pv:=by
 intro σ ρ Z H O c d z s r e2 v Q k;unfold VN jB;refine Yk o p z s r λ{b x y} i w l=>?_;refine q i.wf.zd (i.slots z s) e2 λ{u m g A} g2 r2=>?_;cases r2.nil v;refine⟨by show 2<=sizeLine;decide,λt n=>?_⟩;have j:=i.trans g2;have f:g b=some (.tup<|(c.map kaV).map kV):=by rw[g2.same b<|by rw[l];exact λz=>(nomatch z)];exact l
 have gN:Go m g [] (λa=>m a \/ a=t) (upd g t<|.tup [.ref b,u]) []:=Go.newF (wf0 g2.wf.zd) n;have ne:∀ a,g a≠none->a≠t:=λa h e=>h<|e▸n;refine k (j.trans gN) (.inr rfl) (.inl<|g2.zz b w) jr ?_<|gN.rep g2.wf.zd r2;rw[jg<|ne b<|by rw[f];exact λz=>(nomatch z)];exact f
def K8(g:D->Rh->Option Rh)(q:PTf)(pk:Rh->Option (List KA))(pv:PF):List D->Rh->Option (List<|List KA×D)
 | [],_=>some []
 | x::xs,ρ=>(g x ρ).bind λρ1=>(q ρ1).bind λb=>bif b then(pk ρ1).bind λc=>(pv ρ1).bind λd=>bif frz d then(K8 g q pk pv xs ρ1).bind λr=>some ((c,d)::r) else none else K8 g q pk pv xs ρ1
def jik(ps:List<|List KA×D):List (List KA)×List D:=ps.foldl (λacc kv=>KC acc.1 acc.2 kv.1 kv.2) ([],[])
@[simp] def wj(pi:PAf)(g:D->Rh->Option Rh)(q:PTf)(pk:Rh->Option (List KA))(pv:PF)(ix:List<|Option Nat)(ρ:Rh):Option D:=(pi ρ).bind λxs=>bif lim xs.length then(K8 g q pk pv xs<|jv ix ρ).bind λall=>some (.dT true (jik all).1 (jik all).2) else none
structure KvAt(R:RC)(Z:Zn)(H:Hp)(ys:List<|List KA×D)(vs:List V)(ps:List<|List Key×Addr×V):Prop where
 l:vs.length=ps.length
 i:∀(j:Nat) (v:V),vs[j]?=some v->∃ kv t,ps[j]?=some kv/\v=.ref t/\H t=some (.tup [.ref kv.2.1,kv.2.2])/\H kv.2.1=some (.tup<|kv.1.map kV)
 k:ps.map (·.1)=ys.map λy=>y.1.map kaV
 r:Reps R Z H (ys.map (·.2)) (ps.map (·.2.2)) []
def KvAt.mono(h:KvAt R Z H ys vs ps)(zz:∀ a,Z a->Z' a)(e:∀ a,Z a->H' a=H a)(th:∀ a xs,H a=some (.tup xs)->H' a=some (.tup xs)):KvAt R Z' H' ys vs ps :=
 ⟨h.l,λj v f=>by obtain⟨g,t,a,b,c,d⟩:=h.i j v f;exact⟨g,t,a,b,th _ _ c,th _ _ d⟩,h.k,h.r.frame zz e λa m=>(nomatch m)⟩
def KvAt.snoc(h:KvAt R Z H ys vs ps)  (m:H t=some (.tup [.ref b,u])) (n:H b=some (.tup<|(c.map kaV).map kV)) (r:Rep R Z H d u []) :
  KvAt R Z H (ys++[(c,d)]) (vs++[.ref t]) (ps++[(c.map kaV,b,u)]):=by
 refine⟨by simp[h.l],λj v e=>?_,by simp[h.k],?_⟩
 ·by_cases g:j < vs.length
  ·rw[List.getElem?_append_left g] at e;obtain⟨o,p,a,b',q,s⟩:=h.i j v e;exact⟨o,p,by rw[List.getElem?_append_left<|by rw[<- h.l];exact g];exact a,b',q,s⟩
  ·have f:=(M0.mp e).1;have:j=vs.length:=by simp at f;lia
   subst this;rw[List.getElem?_concat_length] at e;cases e;exact⟨(c.map kaV,b,u),t,by rw[h.l,List.getElem?_concat_length],rfl,m,n⟩
 ·rw[N6,N6];have:=h.r.append<|Reps.one r;simpa using this
inductive CpK (R:RC) (g:D->Rh->Option Rh) (q:PTf) (pk:Rh->Option (List KA)) (pv:PF) (Z0:Zn) (H0:Hp) (a:Addr) (xs:List D) (all:List<|List KA×D) (i m:Nat) (σ2:L2.St) (H2:Hp):Prop
 | mk:m=xs.length - i->i<=xs.length->∀(ρ2:Rh) (Z2:Zn) (O2:W5) (ys:List (List KA×D)) (vs:List V) (ps:List (List Key×Addr×V)) (rest:List (List KA×D)),Go Z0 H0 [] Z2 H2 [a]->H2 a=some (.lst vs)->KvAt R Z2 H2 ys vs ps->(∀ b∈O2,b≠a)->Slots R Z2 H2 ρ2 σ2 O2->K8 g q pk pv (xs.drop i) ρ2=some rest->all=ys++rest->ys.length<=i->CpK R g q pk pv Z0 H0 a xs all i m σ2 H2
def jaA{tg:TG}{tc:TT}{te:TE}{g:D->Rh->Option Rh}{q:PTf}{pk:Rh->Option (List KA)}{pv:PF}{ix:List (Option Nat)}(hg:PGt R [] tg g)(hq:PTt R tc q)(he:PK R te pk pv)
  {J:It}{r:Zn}{o:Hp}{ρ:Rh}{σ:L2.St}{O:W5}{xs:List D}{all:List (List KA×D)}(H:Zd r o) (s:Slots R r o ρ σ O) (it:ItB R J r o xs) (hl:lim xs.length=true) (e2:K8 g q pk pv xs (jv ix ρ)=some all)
  {Q:VK}(k:∀{a:Addr}{Z':Zn}{H':Hp}{vs:List V}{ps:List (List Key×Addr×V)},Go r o [] Z' H' [a]->H' a=some (.lst vs)->KvAt R Z' H' all vs ps->all.length<=xs.length->Q (.ref a) H'):∀ a,o a=none->Qt tc te tg J a (yE ix σ) (upd o a<|.lst []) λH2=>Q (.ref a) H2:=by
 intro a ha;obtain⟨Oi,si⟩:=qQ s ix;have gp:Go r o [] r (upd o a<|.lst []) [a]:=Go.newO (wf0 H) ha;refine⟨CpK R g q pk pv r o a xs all,
  ⟨xs.length,rfl,U6 _,_,r,Oi,[],[],[],all,gp,jr,⟨rfl,λj v hv=>by simp at hv,rfl,Reps.empty⟩,λb w e=>si.dom b w<|e▸ha,gp.slots H si,e2,rfl,N0 _⟩,?_⟩
 rintro i m σ2 H2 ⟨rfl,W,ρ2,Z2,O2,P,vs,ps,rest,g2,ea,I,X,s2,e3,S,C⟩;have K:=it (Z1:=Z2) (H1:=H2) g2.zz (λb z=>g2.same b z) g2.wf.zd i;by_cases E:i < xs.length
 ·right
  have G:xs[i]?=some xs[i]:=by simp[E]
  obtain⟨go,yl⟩:=K.2 _ G;refine⟨go,λu H3 hy=>?_⟩;obtain⟨Z3,g3,r3⟩:=yl u H3 hy;rw[Jj G] at e3;unfold K8 at e3;refine ob e3 λρ3 e5 e3=>?_;refine hg r3 (g3.slots g2.wf.zd s2) e5 λ{σ4 O4} sub nd T _=>?_;refine ob e3 λb e6 e3=>?_;refine hq g3.wf.zd T e6 λ{Z5 H5} L=>?_;have h:=g3.pair L;cases b with
  | true =>
   refine jec ?_;rw[cond_true] at e3;refine ob e3 λc e7 e3=>ob e3 λd e8 e3=>oc e3 λhf e3=>ob e3 λY e9 e3=>?_;cases e3;refine he L.wf.zd (L.slots g3.wf.zd T) e7 e8 hf λ{t b u F y} g6 zt zb et eb r6=>?_;have p:Go Z2 H2 [] F y []:=by simpa using h.pair g6
   have M:y a=some (.lst vs):=by rw[p.same a<|by rw[ea];exact λz=>(nomatch z)];exact ea
   have Z:KvAt R F y P vs ps:=I.mono p.zz (λx G=>p.same x<|g2.wf.zd x G) λx zs ex=>by rw[p.same x<|by rw[ex];exact λz=>(nomatch z)];exact ex
   have hvl:vs.length < sizeLine:=by
    have h1:=congrArg List.length I.k;rw[L3,L3] at h1;rw[I.l,h1];exact Qy (n:=P.length)<|X8<|N8 C<|N8 W<|E1 hl
   have U:Go r o [] F y [a]:=by
    have f:=p.frame (A:=[a]) (B:=[]) (by simpa using g2.wf);exact g2.trans (by simpa using f)
   have w6:=U.wf;have gB:Go F y [a] F (upd y a<|.lst<|vs++[.ref t]) [a]:=Go.put w6 L8;have N:∀ b,F b->upd y a (.lst<|vs++[.ref t]) b=y b:=λb w=>jg λz=>w6.nz a L8<|z▸w;refine⟨vs,M,hvl,xs.length - (i+1),by lia,rfl,E,ρ3,F,O4,P++[(c,d)],vs++[.ref t],ps++[(c.map kaV,b,u)],Y,U.trans gB,jr,?_,λb w=>X b<|sub b w,?_,e9,by rw[S];simp,by rw[N5];exact Nat.add_le_add_right C 1⟩
   ·exact(Z.snoc et eb r6).mono (λ_ z=>z) N λx zs ex=>by rw[jg<|λz=>by rw[z,M] at ex;cases ex];exact ex
   ·exact((L.pair g6).slots g3.wf.zd T).frame (λb z=>z) N λb w=>jg<|X b<|sub b w
  | false =>
   refine jd3 ?_;rw[cond_false] at e3;have U:Go r o [] Z5 H5 [a]:=by
    have f:=h.frame (A:=[a]) (B:=[]) (by simpa using g2.wf);exact g2.trans (by simpa using f)
   exact⟨xs.length - (i+1),by lia,rfl,E,ρ3,Z5,O4,P,vs,ps,rest,U,by rw[h.same a<|by rw[ea];exact λz=>(nomatch z)];exact ea,I.mono h.zz (λx G=>h.same x<|g2.wf.zd x G)<|λx zs ex=>by rw[h.same x<|by rw[ex];exact λz=>(nomatch z)];exact ex,λb w=>X b<|sub b w,L.slots g3.wf.zd T,e3,S,Nat.le_succ_of_le C⟩
 ·left
  have hi2:i=xs.length:=by lia
  refine⟨K.1<|by lia,?_⟩;rw[hi2,List.drop_length] at e3;cases e3;rw[N1] at S;subst S;exact k g2 ea I (by lia)
theorem Qx:∀{ps:List (List KA×D)}{ws:List (List Key×Addr×V)}{ks:List (List KA)}{l:List D}{us:List V},ws.map (·.1)=ps.map (λy=>y.1.map kaV)->Reps R Z H (ps.map (·.2)) (ws.map (·.2.2)) []->Reps R Z H l us []->ks.length=l.length ->
  ∃ us',Reps R Z H (ps.foldl (λacc kv=>KC acc.1 acc.2 kv.1 kv.2) (ks,l)).2 us' []/\(((ps.foldl (λacc kv=>KC acc.1 acc.2 kv.1 kv.2) (ks,l)).1).map (List.map kaV)).zip us'=(ws.foldl (λa kv=>kI a kv.1 kv.2.2)<|(ks.map<|List.map kaV).zip us) /\
   (ps.foldl (λacc kv=>KC acc.1 acc.2 kv.1 kv.2) (ks,l)).1.length=(ps.foldl (λacc kv=>KC acc.1 acc.2 kv.1 kv.2) (ks,l)).2.length
 | [],[],ks,l,us,_,_,r,c=>⟨us,r,by simp,c⟩
 | [],w::ws,ks,l,us,h,_,_,_=>by simp at h
 | p::ps,[],ks,l,us,h,_,_,_=>by simp at h
 | p::ps,w::ws,ks,l,us,j,b,r,c=>by
  rw[L6,L6,Reps] at b;obtain⟨v,k,x,z,m,e,r1,r2⟩:=b;obtain⟨rfl,rfl⟩:=List.append_eq_nil_iff.mp e.symm;obtain⟨rfl,rfl⟩:=List.cons.inj m;rw[L6,L6] at j;obtain⟨d,f⟩:=List.cons.inj j;obtain⟨n,o,q,e3,s,g⟩:=Kh r1 p.1 r c;have:o=[]:=List.sublist_nil.mp s;subst this;obtain⟨us',t,u,i⟩:=Qx (ps:=ps) f r2 q g;refine⟨us',t,?_,i⟩;rw[X7,X7,u,e3,d]
def jdj{wi:TI}{tg:TG}{tc:TT}{te:TE}{pi:PAf}{g:D->Rh->Option Rh}{q:PTf}{pk:Rh->Option (List KA)}{pv:PF}{ix:List (Option Nat)}(hi:jj9 R wi pi)(F:PGt R [] tg g)(G:PTt R tc q)(I:PK R te pk pv) :
  PP R (tCB (KW R.K)<|jB (Vv wi tg tc te ix) JY) (wj pi g q pk pv ix):=by
 intro σ ρ Z H O d z s e Q k;rw[wj] at e;refine ob e λxs L e=>oc e λC e=>ob e λall e2 e=>?_;cases e;unfold tCB jB;refine hi z s L λ{J M N} g0 P=>?_;refine jaA (Q:=λv f=>KW R.K [v] f Q) F G I g0.wf.zd (g0.slots z s) P C e2 λ{a S f T m} n ea c o=>?_;obtain⟨p,U,V,u⟩:=Qx (ps:=all) (ks:=[]) (l:=[]) (us:=[]) c.k c.r .empty rfl;have A:m.length=all.length:=by have:=congrArg List.length c.k;simpa using this
 refine⟨a,T,m,rfl,SqL.of ea,c.l,?_,λj y W=>?_,λD E=>?_⟩
 ·rw[A];exact N8 o<|E1 C
 ·obtain⟨w,t,e5,X,e7,Y⟩:=c.i j y W;exact⟨w,t,e5,X,SqT.of e7,Y⟩
 ·have B:Go M N [] S f []:=n.drop (λ_ h=>(nomatch h)) List.nodup_nil;refine k ((g0.trans B).trans (Go.newO (wf0 n.wf.zd) E)) ?_;have ne:∀ b,f b≠none->b≠D:=λb h e=>h<|e▸E;rw[Rep];refine⟨D,p,[],rfl,U.frame (λa z=>z) (λb h=>jg<|ne b<|n.wf.zd b h)<|λa h=>(nomatch h),u,?_,rfl⟩;rw[jr];exact congrArg (λx=>some<|HO.dT x) V.symm
end
section
variable {cl:Nat->Addr}{pm:List Nat}{X:Cx}{tg iter elt:Expr}{ifs:List Expr}{wi:TI}{pi:PAf}{t:TG}{g:D->Rh->Option Rh}{te:TE}{pk:Rh->Option (List KA)}{pv:PF}{pos cpos p:Pos}
structure QKv(cl:Nat->Addr)(X:Cx)(e:Expr)(te:TE)(pk:Rh->Option (List KA))(pv:PF):Prop where
 sem:PE X e te
 den:PK ⟨X.K,cl⟩ te pk pv
def qkv{a b v:Expr}{ta tb tv:TE}{pa pb pv:PF}{x1 x2}{p1 p2:Pos}(c:QB cl X a ta pa)(d:QB cl X b tb pb)(e:QB cl X v tv pv)
  (h1:starEach [a,b] X.env=(false,eval a X.env)::starEach [b] X.env:=by rfl) (h2:starEach [b] X.env=(false,eval b X.env)::starEach [] X.env:=by rfl)
  (f:starEach [.Tuple [a,b] x1 p1,v] X.env=(false,eval (.Tuple [a,b] x1 p1) X.env)::starEach [v] X.env:=by rfl) (g:starEach [v] X.env=(false,eval v X.env)::starEach [] X.env:=by rfl) :
  QKv cl X (.Tuple [.Tuple [a,b] x1 p1,v] x2 p2) (VN<|jB (jd7 ta tb)<|jB tv JY) (jc9 pa pb) pv :=
 ⟨Jx<|jI (Jx<|jI c.sem (jI d.sem vX h2) h1) (jI e.sem vX g) f,jmh (R:=⟨X.K,cl⟩) c.den d.den e.den⟩
def jic{k:Nat}{scope:Scope}{N':List Str}{ix:List (Option Nat)}{a:TT}{f:PTf}(l:Room k X.A)(m:X.mg "dict" = none)(n:bootBuiltins "dict" = some (.type "dict"))(B:BlockOk X scope N' ix)(h:X.calm=true)(hi:QIb cl X tg iter wi pi)
  (i:∀ C s H fp,QG cl [] (jQ X scope N' C s H fp) tg t g) (b:∀ C s H fp,QIf cl (jQ X scope N' C s H fp) ifs a f) (j:∀ C s H fp,QKv cl (jQ X scope N' C s H fp) elt te pk pv)
  (d:Gl X "dict":=by rfl) (o:∀ x,foldedSetIterable iter X.env x=pure x:=by intro _;rfl)
  (c:starEach [.ListComp elt [⟨tg,iter,ifs,0⟩] scope cpos] X.env=(false,eval (.ListComp elt [⟨tg,iter,ifs,0⟩] scope cpos) X.env)::starEach [] X.env:=by rfl) (e:(backTo pos<|starEach [] X.env).any (·.1)=false:=by rfl) :
  QP cl X (.Call (.Name "dict" p) [.ListComp elt [⟨tg,iter,ifs,0⟩] scope cpos] [] pos) (tCB (KW X.K)<|jB (Vv wi t a te ix) JY) (wj pi g f pk pv ix) :=
 ⟨zC (r:=KW X.K) (xB h<|by have:=l.un;lia) d m n (jI (xV B h hi.sem (λC s H fp=>(i C s H fp).sem) (λC s H fp=>(b C s H fp).sem) (λC s H fp=>(j C s H fp).sem) o) vX c) (by decide) (by decide) c e,
  jdj (R:=⟨X.K,cl⟩) hi.den (i 0 X.s₀ X.H₀ []).den (b 0 X.s₀ X.H₀ []).den (j 0 X.s₀ X.H₀ []).den⟩
end
end QD
namespace L2
open PySem PySem.Spec PyProof.Rows
def ja4(h:Vals ys its):Vals (Vi lt ys .non) (Vi lt its Value.none):=by
 have b:=h.length;unfold Vi;rw[<- b];split
 ·exact h
 ·generalize(kEv lt<|PySem.W.kas_sort ys.length).toList=l;have get:∀(ys:List V) (its:List Value),Vals ys its->∀ i,RelV (ys.getD i .non) (its.getD i Value.none):=by
   intro ys its h
   induction h with
   | nil=>intro i;simp;rfl
   | cons c _ a =>
    intro i;cases i with
    | zero=>exact c
    | succ i=>exact a i
  induction l with
  | nil=>exact .nil
  | cons i l a=>exact .cons (get ys its h i) a
def jaU(K:W4):List V->Hp->VK->Prop:=λxs H Q=>∃(p:Addr) (ys:List V) (rs:List jda),xs=[.ref p]/\SqL K H p ys/\ys.length=rs.length/\ys.length < 64 /\
 (∀(j:Nat) (y:V),ys[j]?=some y->∃ r t,rs[j]?=some r/\y=.ref t/\SqT K H t [.str r.1,.str r.2.1,.int r.2.2])/\∀ D,H D=none->Q (.ref D) (upd H D<|.lst<|Vi (λi j=>Qa (rs.getD i ("","",0))<|rs.getD j ("","",0)) ys .non)
def jdR(h:Vals ys its):∀(j:Nat) (v:Value),its[j]?=some v->∃ y,ys[j]?=some y/\RelV y v:=by
 induction h with
 | nil=>intro j v e;simp at e
 | @cons y u ys c a _ b =>
  intro j v e;cases j with
  | zero=>cases e;exact⟨y,rfl,a⟩
  | succ j=>exact b j v (by simpa using e)
def Qm:qZ X (.builtin "sorted") (jaU X.K):=by
 intro C s σ H xs us Q I r h;obtain⟨p,D,d,rfl,F,hl,hz,G,q⟩:=h;obtain⟨u,rfl,J⟩:=r.one;cases J;obtain⟨b,f,⟨o,n,e,g,L,k⟩,_⟩:=I.list F;have M:b.length=D.length:=f.length.symm;refine J8 (rs:=d) (vs:=b) ⟨o,e,g,n,k⟩ (by lia) (by lia) (λj v N=>?_) λh' c O P=>?_
 ·obtain⟨y,R,S⟩:=jdR f j v N;obtain⟨r,t,T,rfl,l⟩:=G j y R;cases(show v=Value.ref t from S);obtain⟨E,U,⟨V,e2,m,W,w⟩,_⟩:=I.tuple l;cases U with
  | cons Y Z =>
   cases Z with
   | cons k3 k4 =>
    cases k4 with
    | cons k5 k6 =>
     cases k6;rename_i v1 v2 v3;obtain⟨x,rfl⟩:=(show ∃ x,v1=Value.str r.1 x from Y);obtain⟨z,rfl⟩:=(show ∃ z,v2=Value.str r.2.1 z from k3);obtain⟨A,rfl⟩:=(show ∃ A,v3=Value.int r.2.2 A from k5);exact⟨r,T,t,V,W,x,z,A,rfl,e2,m,w⟩
 ·have B:=I.hok.fresh<|Nat.le_succ s.heap.objs.size;refine⟨.ref<|s.heap.objs.size+1,_,I.laid (a:=s.heap.objs.size+1) (o:=.lst<|Vi (λi j=>Qa (d.getD i ("","",0))<|d.getD j ("","",0)) D .non) (t':=s.toks) O (Nat.le_succ _) ⟨?_,_,c,ja4 f,P⟩,rfl,q _ B⟩;rw[ub];have:sizeLine=16777216:=by decide
  lia
end L2
namespace QD
open PySem L2 PySem.Spec PyProof.Rows
noncomputable def jhH:D->Option (List Nat)
 | .str s=>some s
 | _=>none
def wq{d:D}{n:List Nat}(h:jhH d=some n):d=.str n:=by cases d<;>cases h<;>rfl
noncomputable def jmu:List D->Option (D×D×D)
 | [x,y,z]=>some (x,y,z)
 | _=>none
def jbR{l:List D}{p:D×D×D}(h:jmu l=some p):l=[p.1,p.2.1,p.2.2]:=by
 match l with
 | [_,_,_]=>cases h;rfl
def jnL(d:D):Option jda:=(jeo d).bind λt=>(jmu t).bind λp=>(jhH p.1).bind λa=>(jhH p.2.1).bind λb=>(ve p.2.2).bind λn=>some (S a,S b,n)
def uO:List D->Option (List jda)
 | []=>some []
 | d::l=>(jnL d).bind λx=>(uO l).bind λr=>some<|x::r
def zx(rs:List jda)(l:List D):List D:=Vi (λi j=>Qa (rs.getD i ("","",0))<|rs.getD j ("","",0)) l .non
def YO:List D->Option D
 | [.lst _ l]=>(uO l).bind λrs=>bif decide (l.length < 64) then some (.lst true<|zx rs l) else none
 | _=>none
@[simp] def fSorted_e(o:Bool)(l:List D):YO [.lst o l]=(uO l).bind λrs=>bif decide (l.length < 64) then some (.lst true<|zx rs l) else none:=rfl
theorem Qj:∀{l:List D}{rs:List jda}{ys:List V}{O:W5},uO l=some rs->Reps R Z H l ys O->O=[]/\ys.length=rs.length/\∀(j:Nat) (y:V),ys[j]?=some y->∃ r t,rs[j]?=some r/\y=.ref t/\SqT R.K H t [.str r.1,.str r.2.1,.int r.2.2]
 | [],rs,ys,O,e,r=>by
  cases e;rw[Reps] at r;obtain⟨rfl,rfl⟩:=r;exact⟨rfl,rfl,λj y g=>by simp at g⟩
 | d::l,rs,ys,O,e,r=>by
  refine ob e λx c e=>ob e λi e2 e=>ob c λt k c=>ob c λq m c=>ob c λa o c=>ob c λb p c=>ob c λn s c=>?_;cases e;cases c;rw[Reps,wK k,jbR m,wq o,wq p,jD s] at r;obtain⟨G,u,I,J,rfl,rfl,r1,r2⟩:=r;obtain⟨rfl,v,q⟩:=Qj e2 r2;have w:=r1.nil (by rfl);subst w;rw[Rep] at r1;obtain⟨t,L,rfl,z,f⟩:=r1;rw[Reps] at f;obtain⟨M,A,N,P,rfl,Q,B,h⟩:=f;obtain⟨T,U,W,X,rfl,C,E,F⟩:=h.two_of;obtain⟨rfl,_⟩:=B.str_of;obtain⟨rfl,_⟩:=E.str_of;obtain⟨rfl,_⟩:=F.int_of;refine⟨rfl,by simp[v],λj y g=>?_⟩;cases j with
  | zero=>cases g;exact⟨(S a,S b,n),t,rfl,rfl,z.sq⟩
  | succ j=>exact q j y (by simpa using g)
def jca(r:Reps R Z H l vs [])(a:List Nat):Reps R Z H (a.map λi=>l.getD i .non) (a.map λi=>vs.getD i .non) []:=by
 have get:∀(l:List D) (vs:List V),Reps R Z H l vs []->∀ i,Rep R Z H (l.getD i .non) (vs.getD i .non) []:=by
  intro l
  induction l with
  | nil =>
   intro vs r i;rw[Reps] at r;obtain⟨rfl,_⟩:=r;simp;exact .non_mk
  | cons d l b =>
   intro vs r i;rw[Reps] at r;obtain⟨v,c,f,g,rfl,e,r1,r2⟩:=r;obtain⟨rfl,rfl⟩:=List.append_eq_nil_iff.mp e.symm;cases i with
   | zero=>exact r1
   | succ i=>exact b c r2 i
 induction a with
 | nil=>exact .empty
 | cons i a b=>exact Reps.cons (O:=[]) (P:=[]) (get l vs r i) b
def jaT:BC R (jaU R.K) YO:=by
 intro Z H n d x O z r e Q k
 match n,e,r with
 | [.lst o l],e,r =>
  simp only[YO] at e;refine ob e λc s e=>oc e λf e=>?_;cases e;have f:=E1 f;obtain⟨v,rfl,r1⟩:=r.one_of;obtain⟨p,g,y,rfl,t,b⟩:=r1.lst_of;obtain⟨rfl,u,q⟩:=Qj s b;refine⟨p,g,c,rfl,t.sq,u,by rw[b.length];exact f,q,λD m=>?_⟩;refine k (Go.newO (wf0 z) m) ?_;have ne:∀ a,H a≠none->a≠D:=λa h e=>h<|e▸m;have w:Reps R Z H (zx c l) (Vi (λi j=>Qa (c.getD i ("","",0))<|c.getD j ("","",0)) g .non) []:=by
   unfold zx Vi;rw[b.length];split
   ·exact b
   ·exact jca b _
  rw[Rep];exact⟨D,_,[],rfl,w.frame (λa z=>z) (λa h=>jg<|ne a<|z a h)<|λa h=>(nomatch h),jr,rfl⟩
def Qq:bootBuiltins "sorted" = some (.builtin "sorted"):=by boot_fast
def jaz:(zx rs l).Perm l:=by
 unfold zx Vi;split
 ·exact List.Perm.refl _
 ·rename_i h;have a:=(zN (lt:=λi j=>Qa (rs.getD i ("","",0))<|rs.getD j ("","",0)) (n:=l.length)<|by lia).2;refine(a.map λi=>l.getD i .non).trans ?_;have:(List.range l.length).map (λi=>l.getD i .non)=l:=by
   apply List.ext_getElem
   ·simp
   ·intro i c b;simp[List.getD_eq_getElem?_getD,E4 b]
  rw[this]
noncomputable def two2:List KA->Option (KA×KA)
 | [a,b]=>some (a,b)
 | _=>none
def two2_of{k:List KA}{p:KA×KA}(h:two2 k=some p):k=[p.1,p.2]:=by
 match k with
 | [_,_]=>cases h;rfl
def kB:List (List KA)->List D->Option (List D)
 | [],[]=>some []
 | k::ks,d::l=>(two2 k).bind λp=>(ve d).bind λn=>(kB ks l).bind λr=>some<|bif decide (0 < n) then .tup [kaD p.1,kaD p.2,.int n]::r else r
 | _,_=>none
@[simp] def jjf(i:Nat)(ρ:Rh):Option (D×Rh):=(pV i ρ).bind λt=>(jgB t).bind λp=>bif lim p.1.length then(kB p.1 p.2).bind λr=>some (.lst true r,ρ.set i none) else none
theorem JU:∀{ks:List (List KA)}{l:List D}{r:List D},kB ks l=some r->frzs l=true/\ks.length=l.length
 | [],[],_,_=>⟨rfl,rfl⟩
 | [],_::_,_,e=>by cases e
 | _::_,[],_,e=>by cases e
 | k::ks,d::l,r,e=>by
  refine ob e λp c e=>ob e λn e2 e=>ob e λf e3 e=>?_;obtain⟨a,b⟩:=JU e3;cases jD e2;exact⟨by rw[Y1,a];rfl,by simp[b]⟩
def Qp:∀{ks:List (List KA)}{l:List D}{r:List D}{i:Nat},kB (ks.drop i) (l.drop i)=some r->i < ks.length->∃ a b n r',ks[i]?=some [a,b]/\l[i]?=some (.int n)/\kB (ks.drop<|i+1) (l.drop<|i+1)=some r'/\r=bif decide (0 < n) then .tup [kaD a,kaD b,.int n]::r' else r':=by
 intro ks l r i e hi;rw[List.drop_eq_getElem_cons hi] at e;have c:i < l.length:=by
  by_cases h:i < l.length
  ·exact h
  ·rw[List.drop_eq_nil_of_le (as:=l)<|by lia] at e;cases e
 rw[List.drop_eq_getElem_cons c] at e;rw[E4 hi,E4 c];refine ob e λp d e=>ob e λn e2 e=>ob e λr' e3 e=>?_;cases e;exact⟨p.1,p.2,n,r',by rw[two2_of d],by rw[jD e2],e3,rfl⟩
section
variable {R:RC}{Z Z':Zn}{H H':Hp}{pm:List Nat}
inductive CpP (R:RC) (Z0:Zn) (H0:Hp) (a:Addr) (ks:List<|List KA) (l all:List D) (i m:Nat) (σ2:L2.St) (H2:Hp):Prop
 | mk:m=ks.length - i->i<=ks.length->σ2.length=2->∀(Z2:Zn) (ys:List D) (vs:List V) (rest:List D),Go Z0 H0 [] Z2 H2 [a]->H2 a=some (.lst vs)->Reps R Z2 H2 ys vs []->kB (ks.drop i) (l.drop i)=some rest->all=ys++rest->ys.length<=i->CpP R Z0 H0 a ks l all i m σ2 H2
def jef{M:Addr}{o:Obj}{s:Zn}{g:Hp}{ks:List (List KA)}{l:List D}{us:List V}{all:List D}(F:Zd s g)(hd:g M=some (.frz o<|.dT<|(ks.map<|List.map kaV).zip us))(ru:Reps R s g l us [])(G:ks.length=l.length)(hl:lim ks.length=true)(e:kB ks l=some all)
  {Q:VK}(k:∀{a:Addr}{Z':Zn}{H':Hp}{vs:List V},Go s g [] Z' H' [a]->H' a=some (.lst vs)->Reps R Z' H' all vs []->Q (.ref a) H'):∀ a,g a=none ->
  Qt (YK<|tOp (rI0 λi j=>.bl<|decide<|j < i) (jV 1)<|tC<|.int 0) (VN<|jB (tOp (rIx R.K) (jV 0)<|tC<|.int 0)<|jB (tOp (rIx R.K) (jV 0)<|tC<|.int 1)<|jB (jV 1) JY) (jc6 R.K 2<|qR (v5 0)<|qR (v5 1) jei) (jlv M o<|(ks.map<|List.map kaV).zip us) a [none,none] (upd g a<|.lst []) λH2=>Q (.ref a) H2:=by
 intro a ha;have U:us.length=ks.length:=by rw[ru.length];exact G.symm
 have v:((ks.map<|List.map kaV).zip us).length=ks.length:=by rw[List.length_zip,L3,U,Nat.min_self]
 have gp:Go s g [] s (upd g a<|.lst []) [a]:=Go.newO (wf0 F) ha;refine⟨CpP R s g a ks l all,
  ⟨ks.length,rfl,U6 _,rfl,s,[],[],all,gp,jr,Reps.empty,e,rfl,N0 _⟩,?_⟩
 rintro i m W H2 ⟨rfl,X,hσ,r,N,vs,rest,g2,ea,S,e3,E,y⟩;have hJ:H2 M=some (.frz o<|.dT<|(ks.map<|List.map kaV).zip us):=by rw[g2.same M<|by rw[hd];exact λz=>(nomatch z)];exact hd
 by_cases t:i < ks.length
 ·right
  refine⟨⟨hJ,by rw[v];exact t⟩,?_⟩;rintro u H3 ⟨p,kv,b,H,rfl,hp,I,rfl⟩;obtain⟨c,d,n,r',hk,hn,e5,rfl⟩:=Qp e3 t;have Y:=g2.reps F ru;obtain⟨w,hw,Z⟩:=Y.item hn;obtain⟨rfl,_⟩:=Z.int_of;have hz:((ks.map<|List.map kaV).zip us)[i]?=some ([kaV c,kaV d],.int n):=by
   rw[List.getElem?_zip_eq_some];exact⟨by rw[List.getElem?_map,hk];rfl,hw⟩
  rw[hz] at H;cases H;have I:H2 b=some (.tup [kV<|kaV c,kV<|kaV d]):=I;have nbp:b≠p:=λz=>by rw[z,hp] at I;cases I
  have J:upd H2 p (.tup [.ref b,.int n]) b=some (.tup [kV<|kaV c,kV<|kaV d]):=by rw[jg nbp];exact I
  have g3:Go r H2 [] r (upd H2 p<|.tup [.ref b,.int n]) []:=(Go.newO (o:=.tup [.ref b,.int n]) (wf0 g2.wf.zd) hp).drop (λ_ h=>(nomatch h)) List.nodup_nil;refine⟨p,[.ref b,.int n],rfl,SqT.of jr,rfl,.ref b,[.int n],rfl,.int n,[],rfl,rfl,?_⟩;have s0:((W.set 0<|some<|.ref b).set 1 (some<|.int n))[0]?=some (some<|.ref b):=by
   rw[List.getElem?_set_ne<|by decide,List.getElem?_set_self<|by lia]
  have s1:((W.set 0<|some<|.ref b).set 1 (some<|.int n))[1]?=some (some<|.int n):=by
   rw[List.getElem?_set_self<|by rw[List.length_set];lia]
  have L:((W.set 0<|some<|V.ref b).set 1 (some<|V.int n)).length=2:=by simp[hσ]
  refine⟨.int n,s1,n,0,rfl,rfl,decide<|0 < n,rfl,?_⟩;cases hpos:decide (0 < n) with
  | true =>
   refine jec ?_;rw[hpos,cond_true] at E;refine⟨.ref b,s0,.inr<|.inl ⟨b,_,0,_,rfl,rfl,SqT.of J,rfl,?_⟩⟩;refine⟨.ref b,s0,.inr<|.inl ⟨b,_,1,_,rfl,rfl,SqT.of J,rfl,?_⟩⟩;refine⟨.int n,s1,by show 3<=sizeLine;decide,λq hq=>?_⟩;have gq:Go r (upd H2 p<|.tup [.ref b,.int n]) [] (λx=>r x \/ x=q) (upd (upd H2 p<|.tup [.ref b,.int n]) q<|.tup [kV<|kaV c,kV<|kaV d,.int n]) []:=Go.newF (wf0 g3.wf.zd) hq;have C:=g3.trans gq;have ea6:upd (upd H2 p<|.tup [.ref b,.int n]) q (.tup [kV<|kaV c,kV<|kaV d,.int n]) a=some (.lst vs):=by rw[C.same a<|by rw[ea];exact λz=>(nomatch z)];exact ea
   have hvl:vs.length < sizeLine:=by
    rw[S.length];exact Qy (n:=N.length)<|X8<|N8 y<|N8 X<|E1 hl
   have T:Go s g [] (λx=>r x \/ x=q) (upd (upd H2 p<|.tup [.ref b,.int n]) q<|.tup [kV<|kaV c,kV<|kaV d,.int n]) [a]:=by
    have f:=C.frame (A:=[a]) (B:=[]) (by simpa using g2.wf);exact g2.trans (by simpa using f)
   have w6:=T.wf;have gB:=Go.put (o:=.lst<|vs++[.ref q]) w6 L8;have zne:∀ x,(r x \/ x=q)->upd (upd (upd H2 p<|.tup [.ref b,.int n]) q<|.tup [kV<|kaV c,kV<|kaV d,.int n]) a (.lst<|vs++[.ref q]) x=upd (upd H2 p<|.tup [.ref b,.int n]) q (.tup [kV<|kaV c,kV<|kaV d,.int n]) x:=λx hx=>jg λz=>w6.nz a L8<|z▸hx;have rq:Rep R (λx=>r x \/ x=q) (upd (upd H2 p<|.tup [.ref b,.int n]) q<|.tup [kV<|kaV c,kV<|kaV d,.int n]) (.tup [kaD c,kaD d,.int n]) (.ref q) [] :=
    Rep.tupNew (wf0 g3.wf.zd) hq (Reps.cons (O:=[]) (P:=[]) (z6 c)<|Reps.cons (O:=[]) (P:=[]) (z6 d)<|Reps.cons (O:=[]) (P:=[]) .int_mk .empty)
   have ry6:Reps R (λx=>r x \/ x=q) (upd (upd H2 p<|.tup [.ref b,.int n]) q<|.tup [kV<|kaV c,kV<|kaV d,.int n]) N vs []:=C.reps g2.wf.zd S;have rr:=(ry6.append<|.one rq).frame (λ_ z=>z) zne (λx hx=>(nomatch hx));exact⟨vs,ea6,hvl,ks.length - (i+1),by lia,rfl,t,L,_,N++[.tup [kaD c,kaD d,.int n]],vs++[.ref q],r',T.trans gB,jr,by simpa using rr,e5,by rw[E];simp,by rw[N5];exact Nat.add_le_add_right y 1⟩
  | false =>
   refine jd3 ?_;rw[hpos,cond_false] at E;have T:Go s g [] r (upd H2 p<|.tup [.ref b,.int n]) [a]:=by
    have f:=g3.frame (A:=[a]) (B:=[]) (by simpa using g2.wf);exact g2.trans (by simpa using f)
   exact⟨ks.length - (i+1),by lia,rfl,t,L,r,N,vs,r',T,by rw[g3.same a<|by rw[ea];exact λz=>(nomatch z)];exact ea,g3.reps g2.wf.zd S,e5,E,Nat.le_succ_of_le y⟩
 ·left
  have hi2:i=ks.length:=by lia
  refine⟨⟨hJ,by rw[v];lia⟩,?_⟩;rw[hi2,List.drop_length,G,List.drop_length] at e3;cases e3;rw[N1] at E;subst E;exact k g2 ea S
def jjW{i:Nat}:DE R (Vv (jlo<|jV i) (jc6 R.K 2<|qR (v5 0)<|qR (v5 1) jei) (YK<|tOp (rI0 λi j=>.bl<|decide<|j < i) (jV 1)<|tC<|.int 0) (VN<|jB (tOp (rIx R.K) (jV 0)<|tC<|.int 0)<|jB (tOp (rIx R.K) (jV 0)<|tC<|.int 1)<|jB (jV 1) JY) [none,none]) (jjf i):=by
 intro σ ρ V Z H O d w s e Q k;rw[jjf] at e;refine ob e λx e5 e=>ob e λq I e=>?_;obtain⟨n,l⟩:=q;cases xb I;have E:=Vf e5;refine oc e λp e=>ob e λall e7 e=>?_;cases e;obtain⟨A,P,B,rfl,J,_,L⟩:=s.put (M0.mp E).1;obtain⟨v,M,r⟩:=J _ E;rw[Rep] at r;obtain⟨c,g,W,rfl,F,y,N,rfl⟩:=r;cases F.nil (JU e7).1;refine⟨.ref c,M,c,_,rfl,N,λo=>?_⟩;have g0:Go Z H (A++[c]++B) Z (upd H c<|.frz o<|.dT<|(n.map<|List.map kaV).zip g) (A++[c]++B):=Go.put w (by simp);have nd:=w.nd;have ct:=List.nodup_iff_count.mp nd c;simp only[U9,List.count_cons,List.count_nil,beq_self_eq_true,if_true] at ct;have pos:∀{m:W5},c∈m->0 < m.count c:=λh=>List.count_pos_iff.mpr h;have S:∀ b∈A++B,b≠c:=λb f z=>by subst z;have:=pos f;rw[U9] at this;lia
 have G:∀ q,(A++B).count q<=(A++[c]++B).count q:=λq=>by simp only[U9];lia
 have u:Go Z H (A++[c]++B) Z (upd H c<|.frz o<|.dT<|(n.map<|List.map kaV).zip g) (A++B):=g0.drop (ja0 G)<|KR G nd;have t:∀ b,Z b->upd H c (.frz o<|.dT<|(n.map<|List.map kaV).zip g) b=H b:=λb f=>jg λz=>w.nz c (by simp)<|z▸f;have s1:Slots R Z (upd H c<|.frz o<|.dT<|(n.map<|List.map kaV).zip g) (ρ.set i none) σ (A++B):=L.frame (λ_ z=>z) t λb f=>jg<|S b f;have C:Reps R Z (upd H c<|.frz o<|.dT<|(n.map<|List.map kaV).zip g) l g []:=F.frame (λ_ z=>z) t λb f=>(nomatch f);refine jef u.wf.zd jr C y p e7 λ{a X Y T} g2 ea U=>?_;have D:=g2.widen u.wf;refine k (P:=[a]) (u.trans D) ?_<|g2.slots u.wf.zd s1;rw[Rep];exact⟨a,T,[],rfl,U,ea,rfl⟩
end
section
variable {cl:Nat->Addr}{pm:List Nat}{X:Cx}{pos p:Pos}
def jlV{i:Nat}{x:Str}{scope:Scope}{N':List Str}{elt tg c:Expr}{a:List Expr}{m:Nat}{tpos apos cpos:Pos}(B:BlockOk X scope N' [none,none])(f:X.calm=true)(g:QB cl X (.Name x p) (jV i)<|pV i)
  (h:∀ C s H fp,PG (jQ X scope N' C s H fp) (.Tuple a m tpos)<|jc6 X.K 2<|qR (v5 0)<|qR (v5 1) jei)
  (e:∀ C s H fp,PT (jQ X scope N' C s H fp) c<|YK<|tOp (rI0 λi j=>.bl<|decide<|j < i) (jV 1)<|tC<|.int 0)
  (k:∀ C s H fp,PE (jQ X scope N' C s H fp) elt<|VN<|jB (tOp (rIx X.K) (jV 0)<|tC<|.int 0)<|jB (tOp (rIx X.K) (jV 0)<|tC<|.int 1)<|jB (jV 1) JY)
  (b:attributeBase (.Name x p) "items" X.env (eval (.Name x p) X.env)=eval (.Name x p) X.env:=by rfl) (d:(apos.endLine==cpos.line)=true:=by rfl)
  (l:∀ z,foldedSetIterable (.Call (.Attribute (.Name x p) "items" apos) [] [] cpos) X.env z=pure z:=by intro _;rfl) :
  QE cl X (.ListComp elt [⟨.Tuple a m tpos,.Call (.Attribute (.Name x p) "items" apos) [] [] cpos,[c],0⟩] scope pos)
   (Vv (jlo<|jV i) (jc6 X.K 2<|qR (v5 0)<|qR (v5 1) jei) (YK<|tOp (rI0 λi j=>.bl<|decide<|j < i) (jV 1)<|tC<|.int 0) (VN<|jB (tOp (rIx X.K) (jV 0)<|tC<|.int 0)<|jB (tOp (rIx X.K) (jV 0)<|tC<|.int 1)<|jB (jV 1) JY) [none,none]) (jjf i) :=
 ⟨xV B f (ji3 g.sem b d) h (λC s H fp=>.inr ⟨c,rfl,e C s H fp⟩) k l,jjW (R:=⟨X.K,cl⟩)⟩
end
noncomputable def Ju:List D->List D->List D->List D
 | a::l,b::m,c::n=>.tup [a,b,c]::Ju l m n
 | _,_,_=>[]
theorem K6:∀ l m n:List D,l.length<=m.length->l.length<=n.length->(Ju l m n).length=l.length
 | [],_,_,_,_=>by simp[Ju]
 | a::l,[],_,h,_=>by simp at h
 | a::l,b::m,[],_,h=>by simp at h
 | a::l,b::m,c::n,d,e=>by simp[Ju,K6 l m n (by simpa using d)<|by simpa using e]
theorem zu:∀(l m n:List D) (i:Nat) (x:D),(Ju l m n)[i]?=some x->∃ a b c,l[i]?=some a/\m[i]?=some b/\n[i]?=some c/\x=.tup [a,b,c]
 | [],_,_,i,x,e=>by simp[Ju] at e
 | a::l,[],_,i,x,e=>by simp[Ju] at e
 | a::l,b::m,[],i,x,e=>by simp[Ju] at e
 | a::l,b::m,c::n,i,x,e=>by
  cases i with
  | zero=>simp[Ju] at e;exact⟨a,b,c,rfl,rfl,rfl,e.symm⟩
  | succ i =>
   obtain⟨d,b',f,g,h,j,k⟩:=zu l m n i x (by simpa [Ju] using e);exact⟨d,b',f,by simpa using g,by simpa using h,by simpa using j,k⟩
def jnf(l:List D):Option (List D):=(jmu l).bind λp=>(jeo p.1).bind λt=>(jdd p.2.1).bind λl=>(jdd p.2.2).bind λm=>bif decide (t.length<=l.length)&&decide (t.length<=m.length) then some (Ju (fzs t) (fzs l)<|fzs m) else none
@[simp] def pZ3(p:PAf)(ρ:Rh):Option (List D):=(p ρ).bind jnf
def jiZ(h:PPs R ta p):PIt R (iZ3 R.K ta) (pZ3 p):=by
 intro σ ρ Z H O xs z s e Q k;refine ob e λds y e=>ob e λ⟨p0,p1,p2⟩ e2 e=>ob e λt e3 e=>ob e λl e4 e=>ob e λm e5 e=>oc e λb e=>?_;cases e;cases wK e3;obtain⟨o,rfl⟩:=k8 e4;obtain⟨o2,rfl⟩:=k8 e5;cases jbR e2;rw[M3] at b;have A:=E1 b.1;have B:=E1 b.2;refine h z s y λ{vs C H1 P1} g1 r1=>?_;rw[Reps] at r1;obtain⟨v0,vs0,D,P2,rfl,rfl,q0,r1⟩:=r1;rw[Reps] at r1;obtain⟨v1,vs1,E,P3,rfl,rfl,q1,r1⟩:=r1;rw[Reps] at r1;obtain⟨v2,vs2,F,P4,rfl,rfl,q2,r1⟩:=r1;rw[Reps] at r1;obtain⟨rfl,rfl⟩:=r1;have f0:=q0.freeze (Z':=λa=>C a \/ a∈D++(E++(F++[]))) (λa z=>.inl z) λa z=>.inr (by simp[z]);have f1:=q1.freeze (Z':=λa=>C a \/ a∈D++(E++(F++[]))) (λa z=>.inl z) λa z=>.inr (by simp[z]);have f2:=q2.freeze (Z':=λa=>C a \/ a∈D++(E++(F++[]))) (λa z=>.inl z) λa z=>.inr (by simp[z]);rw[show fz (.tup t)=.tup (fzs t) from rfl,Rep] at f0;rw[show fz (.lst o l)=.lst false (fzs l) from rfl,Rep] at f1;rw[show fz (.lst o2 m)=.lst false (fzs m) from rfl,Rep] at f2;obtain⟨a0,f,rfl,ft,G⟩:=f0;obtain⟨a1,w1,O',rfl,I,g,rfl,_⟩:=f1;obtain⟨a2,w2,O'',rfl,J,j,rfl,_⟩:=f2;refine⟨a0,a1,a2,f,w1,w2,rfl,ft.sq,FL.sq g,FL.sq j,k g1.fz ?_⟩;intro L M c d zd i;have N:=(ft.frame c d).sq;have h1:=(g.frame c d).sq;have h2:=(j.frame c d).sq;have r0:Reps R L M (fzs t) f []:=G.frame c d λa n=>(nomatch n);have r1:Reps R L M (fzs l) w1 []:=I.frame c d λa n=>(nomatch n);have r2:Reps R L M (fzs m) w2 []:=J.frame c d λa n=>(nomatch n);refine⟨λhi=>⟨f,N,?_⟩,λx hx=>?_⟩
 ·rw[K6 _ _ _ (by rw[Vc,Vc];exact A)<|by rw[Vc,Vc];exact B] at hi;rw[r0.length];exact hi
 obtain⟨y0,y1,y2,S,T,U,rfl⟩:=zu _ _ _ i x hx;obtain⟨u0,r,V⟩:=r0.item S;obtain⟨u1,u,W⟩:=r1.item T;obtain⟨u2,v,X⟩:=r2.item U;refine⟨⟨f,w1,w2,u0,u1,u2,N,h1,h2,r,u,v⟩,λw H3 Y=>?_⟩;obtain⟨q,t0,t1,t2,ht0,ht1,ht2,rfl,hq,rfl⟩:=Y;have y:=ht0 f N;rw[r] at y;cases y;have e2:=ht1 w1 h1;rw[u] at e2;cases e2;have e3:=ht2 w2 h2;rw[v] at e3;cases e3;exact⟨_,Go.newF (wf0 zd) hq,Rep.tupNew (wf0 zd) hq<|.cons (O:=[]) (P:=[]) V<|.cons (O:=[]) (P:=[]) W<|.one X⟩
theorem KH:∀{ns:List Str}{l:List D}{vs:List V}{O:W5},Reps R Z H l vs O->ns.length=l.length->qY ns l f=some d->∃ v P,(ns.zip vs).lookup f=some v/\Rep R Z H d v P/\∀ q,P.count q<=O.count q
 | [],l,vs,O,_,_,h=>by cases l<;>cases h
 | n::ns,[],vs,O,_,a,_=>by simp at a
 | n::ns,x::l,vs,O,r,a,h=>by
  rw[Reps] at r;obtain⟨v,b,c,i,rfl,rfl,r1,r2⟩:=r;rw[qY] at h;by_cases e:f=n
  ·rw[if_pos e] at h;cases h;exact⟨v,c,by rw[U8,List.lookup_cons,e];simp,r1,λq=>by rw[U9];lia⟩
  ·rw[if_neg e] at h;obtain⟨w,P,g,e2,e3⟩:=KH r2 (by simpa using a) h;refine⟨w,P,?_,e2,λq=>by have:=e3 q;rw[U9];lia⟩;rw[U8,List.lookup_cons,show(f==n)=false by simp[e]];exact g
theorem uB(j:f≠g):∀{ns:List Str}{l:List D}{vs:List V}{O:W5},Reps R Z H l vs O->ns.length=l.length->qY ns l f=some d->qY ns l g=some c ->
  ∃ v P w Q,(ns.zip vs).lookup f=some v/\(ns.zip vs).lookup g=some w/\Rep R Z H d v P/\Rep R Z H c w Q/\∀ q,P.count q+Q.count q<=O.count q
 | [],l,vs,O,_,_,h,_=>by cases l<;>cases h
 | n::ns,[],vs,O,_,m,_,_=>by simp at m
 | n::ns,x::l,vs,O,r,m,h,k=>by
  rw[Reps] at r;obtain⟨v,s,p,u,rfl,rfl,r1,r2⟩:=r;rw[qY] at h k;by_cases e:f=n
  ·have i:g≠n:=λz=>j<|e.trans z.symm;rw[if_pos e] at h;rw[if_neg i] at k;cases h;obtain⟨w,Q,o,e2,e3⟩:=KH r2 (by simpa using m) k;refine⟨v,p,w,Q,by rw[U8,List.lookup_cons,e];simp,?_,r1,e2,λq=>by have:=e3 q;rw[U9];lia⟩;rw[U8,List.lookup_cons,show(g==n)=false by simp[i]];exact o
  ·rw[if_neg e] at h;by_cases i:g=n
   ·rw[if_pos i] at k;cases k;obtain⟨w,Q,o,e2,e3⟩:=KH r2 (by simpa using m) h;refine⟨w,Q,v,p,?_,by rw[U8,List.lookup_cons,i];simp,e2,r1,λq=>by have:=e3 q;rw[U9];lia⟩;rw[U8,List.lookup_cons,show(f==n)=false by simp[e]];exact o
   ·rw[if_neg i] at k;obtain⟨a,P,b,Q,o,e2,e3,t,e5⟩:=uB j r2 (by simpa using m) h k;refine⟨a,P,b,Q,?_,?_,e3,t,λq=>by have:=e5 q;rw[U9];lia⟩
    ·rw[U8,List.lookup_cons,show(f==n)=false by simp[e]];exact o
    ·rw[U8,List.lookup_cons,show(g==n)=false by simp[i]];exact e2
@[simp] def jiu(i:Nat)(c:Nat)(f:Str)(g:Str)(pe:PF)(ρ:Rh):Option (D×Rh):=(pV i ρ).bind λt=>(zw t).bind λy=>bif y.1==c&&!decide (f=g) then(qY y.2.1 y.2.2 f).bind λa=>(qY y.2.1 y.2.2 g).bind λb=>(pe ρ).bind λr=>some (.tup [a,r,b],ρ.set i none) else none
def jiY(U:Cls R.K<|R.cls c)(hf:NoAttr R.K (R.cls c) f)(hg:NoAttr R.K (R.cls c) g)(he:PP R te pe):DE R (VN<|jB (jdf R.K (jV i) f)<|jB te<|jB (jdf R.K (jV i) g) JY) (jiu i c f g pe):=by
 intro σ ρ ρ' Z H O d w s e Q k;refine ob e λt e1 e=>ob e λ⟨c',ns,l⟩ e2 e=>oc e λF e=>ob e λa e3 e=>ob e λb e4 e=>ob e λr e5 e=>?_;cases e;cases Jq e2;have W:=Vf e1;rw[M3] at F;obtain rfl:c'=c:=by simpa using F.1
 have G:f≠g:=by simpa using F.2
 obtain⟨A,P,B,rfl,k1,_,k3⟩:=s.put (M0.mp W).1;obtain⟨v,X,Y⟩:=k1 _ W;rw[Rep] at Y;obtain⟨x,dx,vs,I,rfl,rs,J,ea,rfl⟩:=Y;obtain⟨m,Pf,n,Pg,lf,lg,rf,rg,cn⟩:=uB G rs J e3 e4;unfold VN jB;refine⟨.ref x,X,x,_,dx,_,m,rfl,ea,U,hf,lf,?_⟩;refine he w.zd s e5 λ{p o j u} C r1=>?_;have L:=C.at0 ea;refine⟨.ref x,X,x,_,dx,_,n,rfl,L,U,hg,lg,by show 3<=sizeLine;decide,λq hq=>?_⟩;have M:=C.widen w;have gN:Go o j (u++(A++(x::I)++B)) (λy=>o y \/ y=q) (upd j q<|.tup [m,p,n]) (u++(A++(x::I)++B)):=Go.newF M.wf hq;have ne:∀ y,j y≠none->y≠q:=λy h e=>h<|e▸hq;have zn:∀ y,o y->upd j q (.tup [m,p,n]) y=j y:=λy E=>jg<|ne y<|M.wf.zd y E;have N:=C.rep w.zd rf;have S:=C.rep w.zd rg;have T:∀{d:D}{v:V}{Pd:W5},Rep R o j d v Pd->Rep R (λy=>o y \/ y=q) (upd j q<|.tup [m,p,n]) d v Pd:=λrr=>rr.frame (λ_ z=>.inl z) zn λy E=>jg<|ne y<|rr.dom y E;have s1:=(C.slots w.zd k3);have s2:Slots R (λy=>o y \/ y=q) (upd j q<|.tup [m,p,n]) (ρ.set i none) σ (A++B):=s1.frame (λ_ z=>.inl z) zn λy E=>jg<|ne y<|s1.dom y E;have le:∀ y,((Pf++(u++Pg))++(A++B)).count y<=(u++(A++(x::I)++B)).count y:=λy=>by
  have:=cn y;simp only[U9,List.count_cons];lia
 refine k (P:=Pf++(u++Pg)) ((M.trans gN).drop (ja0 le) (KR le gN.wf.nd)) ?_ s2;rw[Rep];refine⟨q,[m,p,n],rfl,.inl ⟨.inr rfl,.inl jr⟩,?_⟩;have:=Reps.cons (T N)<|Reps.cons (T r1)<|Reps.one<|T S;simpa using this
def jmR(e:X.mg "zip" = none)(h:QPs cl X [a,b,c] tr pr)(f:Gl X "zip":=by rfl)(g:starEach [a,b,c] X.env=[(false,eval a X.env),(false,eval b X.env),(false,eval c X.env)]:=by rfl)(d:starEach [b,c] X.env=[(false,eval b X.env),(false,eval c X.env)]:=by rfl) :
  QI cl X (.Tuple elts n tpos) (.Call (.Name "zip" p) [a,b,c] [] pos) (iZ3 X.K tr) (pZ3 pr):=⟨jl4 f e h.sem g d,jiZ h.den⟩
def jmp{cl:Nat->Addr}{X:Cx}{e:Expr}{te:TE}{pe:PF}{pos p:Pos}{i k:Nat}{x f g:Str}{x1}{p2 b a:Pos}(m:Cls X.K<|cl k)(n:NoAttr X.K (cl k) f)(o:NoAttr X.K (cl k) g)(q:QB cl X (.Name x p) (jV i)<|pV i)(l:QP cl X e te pe)(c:QB cl X (.Name x p2) (jV i)<|pV i)
  (r:attributeBase (.Name x p) f X.env (eval (.Name x p) X.env)=eval (.Name x p) X.env:=by rfl) (d:attributeBase (.Name x p2) g X.env (eval (.Name x p2) X.env)=eval (.Name x p2) X.env:=by rfl)
  (s:starEach [.Attribute (.Name x p) f b,e,.Attribute (.Name x p2) g a] X.env=(false,eval (.Attribute (.Name x p) f b) X.env)::starEach [e,.Attribute (.Name x p2) g a] X.env:=by rfl)
  (h:starEach [e,.Attribute (.Name x p2) g a] X.env=(false,eval e X.env)::starEach [.Attribute (.Name x p2) g a] X.env:=by rfl)
  (j:starEach [.Attribute (.Name x p2) g a] X.env=(false,eval (.Attribute (.Name x p2) g a) X.env)::starEach [] X.env:=by rfl) :
  QE cl X (.Tuple [.Attribute (.Name x p) f b,e,.Attribute (.Name x p2) g a] x1 pos) (VN<|jB (jdf X.K (jV i) f)<|jB te<|jB (jdf X.K (jV i) g) JY) (jiu i k f g pe) :=
 ⟨Jx<|jI (wG q.sem r) (jI l.sem (jI (wG c.sem d) vX j) h) s,jiY (R:=⟨X.K,cl⟩) m n o l.den⟩
end QD
namespace QD
open PySem L2
def jj6(B:BlockOk X scope N' [none,none])(e:X.calm=true)(f:QB cl X (.Name x p) (jV i)<|pV i)
  (h:∀ C s H fp,QG cl [] (jQ X scope N' C s H fp) (.Tuple elts m tpos) (jc6 X.K 2<|qR (v5 0)<|qR (v5 1) jei) g)
  (d:∀ C s H fp,QT cl (jQ X scope N' C s H fp) c (YK<|tOp (rI0 λi j=>.bl<|decide<|j < i) (jV 1)<|tC<|.int 0) q)
  (k:∀ C s H fp,QP cl (jQ X scope N' C s H fp) elt (VN<|jB (tOp (rIx X.K) (jV 0)<|tC<|.int 0)<|jB (tOp (rIx X.K) (jV 0)<|tC<|.int 1)<|jB (jV 1) JY) pe)
  (a:attributeBase (.Name x p) "items" X.env (eval (.Name x p) X.env)=eval (.Name x p) X.env:=by rfl) (b:(apos.endLine==cpos.line)=true:=by rfl)
  (l:∀ z,foldedSetIterable (.Call (.Attribute (.Name x p) "items" apos) [] [] cpos) X.env z=pure z:=by intro _;rfl) :
  QE cl X (.ListComp elt [⟨.Tuple elts m tpos,.Call (.Attribute (.Name x p) "items" apos) [] [] cpos,[c],0⟩] scope pos)
   (Vv (jlo<|jV i) (jc6 X.K 2<|qR (v5 0)<|qR (v5 1) jei) (YK<|tOp (rI0 λi j=>.bl<|decide<|j < i) (jV 1)<|tC<|.int 0) (VN<|jB (tOp (rIx X.K) (jV 0)<|tC<|.int 0)<|jB (tOp (rIx X.K) (jV 0)<|tC<|.int 1)<|jB (jV 1) JY) [none,none]) (jjf i) :=
 jlV (tg:=elt) B e f (λC s H fp=>(h C s H fp).sem) (λC s H fp=>(d C s H fp).sem) (λC s H fp=>(k C s H fp).sem) a b l
end QD
namespace L2
open PySem PySem.Spec PyProof.Rows
end L2
namespace QD
open PySem L2 PySem.Spec PyProof.Rows
mutual
noncomputable def pln:D->Bool
 | .tup l=>jlp l
 | .non=>true | .bl _=>true | .int _=>true | .str _=>true
 | .lst _ _=>false | .dK _ _ _=>false | .dT _ _ _=>false | .ins _ _ _ _=>false | .dead=>false | .exc _ _=>false
noncomputable def jlp:List D->Bool
 | []=>true
 | d::l=>pln d&&jlp l
end
mutual
theorem Rep.cutA{a:Addr}(ha:∀ vs,¬ Rd H a (.tup vs))(hH:∀ b,b≠a->H' b=H b):∀{d:D}{v:V}{O:W5},pln d=true->Rep R Z H d v O->Rep R (λb=>Z b/\b≠a) H' d v O
 | .non,_,_,_,r=>by rw[Rep] at r ⊢;exact r
 | .bl _,_,_,_,r=>by rw[Rep] at r ⊢;exact r
 | .int _,_,_,_,r=>by rw[Rep] at r ⊢;exact r
 | .str _,_,_,_,r=>by rw[Rep] at r ⊢;exact r
 | .tup l,_,_,h,r=>by
  rw[pln] at h;rw[Rep] at r ⊢;obtain⟨p,vs,e,t,r⟩:=r;refine⟨p,vs,e,?_,Reps.cutA ha hH h r⟩;rcases t with⟨z,t⟩ | t
  ·have ne:p≠a:=λq=>ha vs<|q▸t;exact .inl ⟨⟨z,ne⟩,Rd.agree (hH p ne) t⟩
  ·exact .inr t
 | .lst _ _,_,_,h,_=>by rw[pln] at h;cases h
 | .dK _ _ _,_,_,h,_=>by rw[pln] at h;cases h
 | .dT _ _ _,_,_,h,_=>by rw[pln] at h;cases h
 | .ins _ _ _ _,_,_,h,_=>by rw[pln] at h;cases h
 | .dead,_,_,h,_=>by rw[pln] at h;cases h
 | .exc _ _,_,_,h,_=>by rw[pln] at h;cases h
theorem Reps.cutA{a:Addr}(ha:∀ vs,¬ Rd H a (.tup vs))(hH:∀ b,b≠a->H' b=H b):∀{l:List D}{vs:List V}{O:W5},jlp l=true->Reps R Z H l vs O->Reps R (λb=>Z b/\b≠a) H' l vs O
 | [],_,_,_,r=>by rw[Reps] at r ⊢;exact r
 | d::l,_,_,h,r=>by
  rw[jlp,M3] at h;rw[Reps] at r ⊢;obtain⟨v,vs',O1,O2,e1,e2,r1,r2⟩:=r;exact⟨v,vs',O1,O2,e1,e2,Rep.cutA ha hH h.1 r1,Reps.cutA ha hH h.2 r2⟩
end
def jm7(K:W4)(mg:W6)(x:Str)(st:Stmt)(ps:List Str):Prop:=∃ f fd,FnFact K mg x x st f fd ps
def jnk(K:W4)(C:Addr)(x qual:Str)(st:Stmt)(ps:List Str):Prop:=∃ f fd,MtFact K C x qual st f fd ps
section
variable {K:W4}{mg:W6}{h:Heap}{x qual:Str}{st:Stmt}{ps:List Str}{a C:Addr}{od an:Option Addr}{sl:Array (Option Value)}{oc kV dc pm cd ct:Value}
def hasF(X:K.In h)(G:h.Ns mainGlobals mg)(c:PySem.W.nsIn K mainGlobals x=some (some<|.ref a))(e2:K.lookup a=some ⟨oc,od,.func<|PySem.W.fnOf x x (kX st) (vw st) (jA st) .none kV dc pm an cd ct,sl⟩)(e3:PySem.W.codeIn K cd x=true)(b:PySem.W.keepIn K (.ref a)=true)
  (d:∀(kV doc pm:Value) (an:Option Addr) (cdv ct:Value) (us:List Value),us.length=ps.length->bindArgs (PySem.W.fnOf x x (kX st) (vw st) (jA st) .none kV doc pm an cdv ct) ⟨us,[]⟩=pure (ps.zip us)):jm7 K mg x st ps:=⟨_,_,uv e2 e3 b,PySem.W.mg_of X G c,(uv e2 e3 b).binds d⟩
def hasM(c:PySem.W.findIn K (.ref C) x=some (some<|.ref a))(e5:PySem.W.isFn K (.ref a)=true)(e2:K.lookup a=some ⟨oc,od,.func<|PySem.W.fnOf x qual (kX st) (vw st) (jA st) .none kV dc pm an cd ct,sl⟩)(e3:PySem.W.codeIn K cd qual=true)(b:PySem.W.keepIn K (.ref a)=true)
  (d:∀(kV doc pm:Value) (an:Option Addr) (cdv ct:Value) (us:List Value),us.length=ps.length->bindArgs (PySem.W.fnOf x qual (kX st) (vw st) (jA st) .none kV doc pm an cdv ct) ⟨us,[]⟩=pure (ps.zip us)):jnk K C x qual st ps:=⟨_,_,uv e2 e3 b,⟨c,e5,b⟩,(uv e2 e3 b).binds d⟩
end
def fsc{N ps:List Str}{sc:Scope}(a:sc.kind=.function:=by rfl)(b:sc.isCoroutine=false:=by rfl)(c:sc.isGenerator=false:=by rfl)(d:N.Nodup:=by decide +kernel)(e:N.take ps.length=ps:=by rfl)
  (f:∀ x∈ps,sc.names.lookup x=some .local \/ sc.names.lookup x=some .cell:=by decide +kernel) (g:∀ y∈sc.names,y.2≠.free:=by decide +kernel):FnScope N ps sc:=⟨a,b,c,d,e,f,g⟩
def kY(K:W4)(mg:W6)(x:Str)(st:Stmt)(N:List Str)(n:Nat):Prop:=FnScope N (N.take n) (jA st)/\jm7 K mg x st (N.take n)
def jb8(K:W4)(C:Addr)(x qual:Str)(st:Stmt)(N:List Str)(n:Nat):Prop:=FnScope N (N.take n) (jA st)/\jnk K C x qual st (N.take n)
section
variable (P:Program)(w:World)(cl:Nat->Addr){K:W4}{mg:W6}{C:Addr}{x qual:Str}{st:Stmt}{N:List Str}{n:Nat}
abbrev NP(_:kY K mg x st N n)(k:Nat)(m:List D->Option D):Prop:=OkF P w K mg x st k (N.take n)<|spP ⟨K,cl⟩ m n
abbrev NM(_:kY K mg x st N n)(k:Nat)(m:List D->Option (D×D)):Prop:=OkF P w K mg x st k (N.take n)<|spM ⟨K,cl⟩ m n 0
abbrev OP(mg:W6)(_:jb8 K C x qual st N n)(k:Nat)(m:List D->Option D):Prop:=OkM P w K mg C x qual st k (N.take n)<|spP ⟨K,cl⟩ m n
abbrev OM(mg:W6)(_:jb8 K C x qual st N n)(k:Nat)(m:List D->Option (D×D)):Prop:=OkM P w K mg C x qual st k (N.take n)<|spM ⟨K,cl⟩ m n 0
end
section
variable {P:Program}{w:World}{k:Nat}{sp:Sp}{K:W4}{mg:W6}{C:Addr}{x qual:Str}{st:Stmt}{N:List Str}{n:Nat}
def okN(h:kY K mg x st N n)(g:∀ f fd,FnScope N (N.take n) (jA st)->FnFact K mg x x st f fd (N.take n)->∀ base,FnOk P w K mg base CX0 k f fd (N.take n) sp):OkF P w K mg x st k (N.take n) sp:=by
 obtain⟨S,f,fd,F⟩:=h;exact⟨f,fd,F,g f fd S F⟩
def okO(h:jb8 K C x qual st N n)(g:∀ f fd,FnScope N (N.take n) (jA st)->MtFact K C x qual st f fd (N.take n)->∀ base,FnOk P w K mg base CX0 k f fd (N.take n) sp):OkM P w K mg C x qual st k (N.take n) sp:=by
 obtain⟨S,f,fd,F⟩:=h;exact⟨f,fd,F,g f fd S F⟩
end
def jnq{a b:Prop}(h:a)(k:a->b):a/\b:=⟨h,k h⟩
section
variable {cl:Nat->Addr}{X:Cx}{pos:Pos}{x:Str}{scope:Scope}{N':List Str}{i:Nat}
def qS{j}{l:List Nat}(h:x=S l:=by decide +kernel):QP cl X (.Constant (.str x) j pos) (tC<|.str x) (pC<|.str l):=jlr l h
def qI{i:Int}{j}:QB cl X (.Constant (.int i) j pos) (tC<|.int i) (pC<|.int i):=QP.bb jlc
end
end QD
namespace L2
open PySem PySem.Spec PyProof.Rows
end L2
namespace QD
open PySem L2 PySem.Spec PyProof.Rows
noncomputable def blN(N:List Str):List (Option Nat)->List Str->List Str
 | [],_=>[]
 | none::l,xs=>xs.headD ""::blN N l xs.tail
 | some j::l,xs=>N.getD j ""::blN N l xs
noncomputable def jnb(sc:Scope):List Str:=(sc.names.filter λy=>decide (y.2=.local)||decide (y.2=.cell)).tail.map (·.1)
def bkN(_:FnScope N ps sc)  (h1:X.env.scope=sc:=by rfl) (h2:X.N=N:=by rfl) (h:Km sc N scope (blN N ix<|jnb scope) ix=true:=by decide +kernel):BlockOk X scope (blN N ix<|jnb scope) ix:=jg7 sc N h1 h2 h
def jmw{p:PAf}{n:Nat}(h:∀(ρ:Rh) (ds:List D),p ρ=some ds->ds.length=n):∀(ρ:Rh) (ds:List D),p ρ=some ds->ds.length+1=n+1:=λρ ds e=>by rw[h ρ ds e]
def ndN(h:N'.Nodup):(jQ X scope N' C s H fp).N.Nodup:=h
end QD
namespace K35
set_option hygiene false
local macro_rules|`(‹$x›)=>`(some<|.lst false $x)|`(↑$x)=>`(some<|.lst true $x)
open PySem L2 QD
noncomputable def top(i:Nat):Stmt:=PySem.Challenge.pw_tranchefall_k35_whole_coins_are_kept.main.body.getD i<|.Pass ⟨0,0,0,0⟩
def Va:FS:=(yB<|dP<|pCB K2<|ja (yy (J6<|pV 0) (jc [] 0) qT (pF<|p2 jd (pV 0)<|pC<|.int 1) [none]) pN)
def kc:List D->Option D:=fnP 1 Va
def yd:FS:=(sIf (dPT<|jl<|p2 ki (p2 jd (pV 2)<|pC<|.int 0)<|pV 1) (yB<|dP<|pF<|pV 2)
 jO)
def Js:FS:=(ji (kK (pIt<|pF<|p2 jd (pV 0)<|pC<|.int 4) (jc [] 2) yd)<|yB<|dP<|pC .non)
def vh:List D->Option D:=fnP 3 Js
def yP:FS:=(sIf (dPT<|jl<|p2 jlW (p2 yr (pV 1)<|pV 2)<|pV 3) (yB<|dP<|pF<|pV 4)
 jO)
def kN:FS:=(ji (kK (pIt<|pF<|p2 jd (pV 0)<|pC<|.int 5) (gT 3<|gC (jc [] 2)<|gC (jc [] 3)<|gC (jc [] 4) gN) yP)<|yB<|dP<|pF<|p2 jd (p2 jd (p2 jd (pV 0)<|pC<|.int 4)<|pC<|.int 0)<|pC<|.int 0)
def yT:List D->Option D:=fnP 5 kN
def kR:FS:=(yB<|dP<|wj (J6<|pV 0) (gT 3<|gC (jc [] 0)<|gC (jc [] 1)<|gC (jc [] 2) gN) qT (jc9 (pV 0)<|pV 1) (pV 2) [none,none,none])
def ye:List D->Option D:=fnP 1 kR
def qX:FS:=(sIf (dPT<|jl<|p2 ki (pV 2)<|pC<|.str [108,101,110,100]) (jh7 0 (pV 1) (pV 3)<|p2 jf (jan (pV 0) (pV 1) (pV 3)<|pC<|.int 0)<|pV 4)<|jeD 0 (pV 3) (pV 1) (λm n=>m - n)<|pV 4)
def yq:List D->Option (D×D):=fnM 5 0 qX
def qC:FS:=(sIf (dPT<|jaf (jl<|p2 Vk (pV 4)<|pC<|.int 0)<|jl<|p2 jfO (p2 jd (pV 3)<|pV 5)<|pV 6) (ji (zc 3 (pV 5) (λi j=>i+j)<|pC<|.int 1)<|jek [] 4 (λi j=>i - j)<|pC<|.int 1)
 jO)
def Kz:FS:=(ji (jz (dP<|pCB K2<|ja (pV 0) pN)<|jc [] 2)<|ji (sIf (dPT<|jl<|p2 jlW (pV 1)<|pV 2) (yB<|dP<|pCB J9<|ja (pV 0) pN)
 jO)<|ji (jz (dP<|yy (J6<|pV 0) (jc [] 0) qT (p2 Yo (p2 yb (pV 1)<|pV 0)<|pV 2) [none,some 1,some 2])<|jc [] 3)<|ji (jz (dP<|p2 JO (pV 1)<|pCB K2<|ja (pV 3) pN)<|jc [] 4)<|ji (kK (Jb<|ja (pF<|pV 0) pN) (gT 2<|gC (jc [] 5)<|gC (jc [] 6) gN) qC)<|yB<|dMv 3)
def qB:List D->Option D:=fnP 7 Kz
def jM:FS:=(ji (jz (dP<|pF<|p2 jd (pV 1)<|pC<|.int 0)<|jc [] 2)<|ji (jz (dP<|pF<|p2 jd (pV 1)<|pC<|.int 1)<|jc [] 3)<|ji (sIf (dPT<|jl<|p2 ki (pV 2)<|pC<|.str [112,97,121]) (yB<|dP<|pF<|p2 yr (qN 0 "owed"<|pV 0)<|pV 3)
 jO)<|ji (sIf (dPT<|jl<|p2 ki (pV 2)<|pC<|.str [114,101,112,97,121]) (yB<|dP<|p2 jf (p2 yr (qN 0 "owed"<|pV 0)<|pV 3)<|p2 yr (qN 0 "sizes"<|pV 0)<|pV 3)
 jO)<|ji (sIf (dPT<|jl<|p2 ki (pV 2)<|pC<|.str [102,105,108,108]) (yB<|dP<|pCB jkF<|ja (p2 JO (p2 yr (qN 0 "marks"<|pV 0)<|pV 3)<|p2 yr (qN 0 "levels"<|pV 0)<|pV 3)<|ja (pC<|.int 0) pN)
 jO)<|ji (sIf (dPT<|jl<|p2 ki (pV 2)<|pC<|.str [108,101,110,100]) (yB<|dP<|pCB jkF<|ja (p2 JO (p2 jd (pV 1)<|pC<|.int 2)<|jan (qN 0 "loans"<|pV 0) (qN 0 "pool_name"<|pV 0) (pV 3)<|pC<|.int 0)<|ja (pC<|.int 0) pN)
 jO)<|ji (sIf (dPT<|jl<|p2 ki (pV 2)<|pC<|.str [98,97,99,107]) (yB<|dP<|pF<|jan (qN 0 "loans"<|pV 0) (pV 3) (qN 0 "pool_name"<|pV 0)<|pC<|.int 0)
 jO)<|yB<|dP<|pF<|qN 0 "cash"<|pV 0)
def jh:List D->Option D:=fnP 4 jM
def yL:FS:=(ji (jz (dP<|pF<|p2 yr (qN 0 "owed"<|pV 0)<|pV 3)<|jc [0] 4)<|ji (jz (dP<|pCB uR<|ja (pV 4)<|ja (p2 yr (qN 0 "levels"<|pV 0)<|pV 2) pN)<|jc [0] 5)<|ji (vf 0 (ql 0 "levels" vQ) (pV 2) (λm n=>m - n)<|pV 5)<|ji (vf 0 (ql 0 "owed" vQ) (pV 3) (λm n=>m - n)<|pV 5)<|kD 0 (ql 0 "entries" vQ)<|yg<|ja (pF<|pV 1)<|ja (pC<|.str [103,117,97,114,100])<|ja (pF<|pV 3)<|ja (pF<|pV 4)<|ja (pF<|pV 5) pN)
def yi:List D->Option (D×D):=fnM 6 0 yL
def jx:FS:=(ji (jz (dP<|jlf (p2 Vk (p2 yr (pV 2)<|pV 4)<|pC<|.int 0)<|p2 (zV true) (pV 4)<|qN 0 "served"<|pV 0)<|jc [] 6)<|Qs 3<|yg<|ja (pF<|pV 4)<|ja (pIf (jl<|pV 6) (p2 jf (pV 5)<|pC<|.int 1)<|pC<|.int 0) pN)
def vG:FS:=(ji (jz (dP<|pCB yW<|ja (p2 jd (pV 1)<|pC<|.int 0) pN)<|jc [] 2)<|ji (jz (dP<|JV pN)<|jc [] 3)<|ji (kK (pIt<|pF<|p2 jd (pV 1)<|pC<|.int 2) (gT 2<|gC (jc [] 4)<|gC (jc [] 5) gN) jx)<|yB<|jc7<|yY (dP<|yo<|qN 0 "sizes"<|pV 0)<|yY (dP<|yo<|qN 0 "owed"<|pV 0)<|yY (dMv 3)<|yY (dP<|yo<|qN 0 "levels"<|pV 0)<|yY (dP<|pF<|p2 jd (pV 1)<|pC<|.int 4) jey)
def jC:List D->Option D:=fnP 7 vG
def Yz:FS:=(ji (jz (dP<|pCB uR<|ja (pV 4)<|ja (p2 yr (pV 3)<|pV 7) pN)<|jc [] 8)<|ji (Qs 5<|yg<|ja (pF<|pV 6)<|ja (pC<|.str [101,97,116])<|ja (pF<|pV 7)<|ja (pF<|pV 4)<|ja (pF<|pV 8) pN)<|ji (jcj 3 (pV 7) (λm n=>m - n)<|pV 8)<|jek [] 4 (λi j=>i - j)<|pV 8)
def jcc:FS:=(ji (jz (dP<|pCB yW<|ja (p2 jd (pV 1)<|pC<|.int 0) pN)<|jc [] 3)<|ji (jz (dP<|pF<|pV 2)<|jc [] 4)<|ji (jz (dP<|JV pN)<|jc [] 5)<|ji (kK (Jb<|ja (pF<|p2 jd (pV 0)<|pC<|.int 3) pN) (gT 2<|gC (jc [] 6)<|gC (jc [] 7) gN) Yz)<|ji (jz (dP<|yy (J6<|p2 jd (pV 1)<|pC<|.int 1) (gT 2<|gC (jc [] 0)<|gC (jc [] 1) gN) qT (yg<|ja (pF<|pV 0)<|ja (pIf (jl<|p2 Vk (p2 yr (pV 2)<|pV 0)<|pC<|.int 0) (pF<|pV 1)<|pC<|.int 0) pN) [none,none,some 3])<|jc [] 9)<|yB<|jc7<|yY (dMv 5)<|yY (jc7<|yY (dP<|yo<|pV 3)<|yY (dMv 9)<|yY (dP<|pCB J9<|ja (p2 jd (pV 1)<|pC<|.int 2) pN)<|yY (dP<|pCB J9<|ja (p2 jd (pV 1)<|pC<|.int 3) pN)<|yY (dP<|p2 jf (p2 jd (pV 1)<|pC<|.int 4)<|pV 4) jey) jey)
def Kb:List D->Option D:=fnP 10 jcc
def J1:FS:=(ji (jz (dP<|yy (J6<|p2 jd (pV 0)<|pC<|.int 1) (jc [] 0) qT (yg<|ja (pF<|p2 jd (pV 0)<|pC<|.int 0)<|ja (pF<|p2 jd (pV 0)<|pC<|.int 1) pN) [none])<|jc [] 1)<|ji (jz (dP<|yy (J6<|p2 jd (pV 0)<|pC<|.int 1) (jc [] 0) qT (yg<|ja (pF<|p2 jd (pV 0)<|pC<|.int 0)<|ja (pC<|.int 0) pN) [none])<|jc [] 2)<|ji (jz (dP<|yy (J6<|p2 jd (pV 0)<|pC<|.int 1) (jc [] 0) qT (yg<|ja (pF<|p2 jd (pV 0)<|pC<|.int 0)<|ja (pC<|.int 0) pN) [none])<|jc [] 3)<|yB<|jc7<|yY (dMv 1)<|yY (dMv 2)<|yY (dMv 3)<|yY (dP<|yy (J6<|p2 jd (pV 0)<|pC<|.int 2) (jc [] 0) qT (yg<|ja (pF<|p2 jd (pV 0)<|pC<|.int 0)<|ja (pC<|.int 0) pN) [none])<|yY (dP<|pC<|.int 0) jey)
def yV:List D->Option D:=fnP 4 J1
def Yu:FS:=(ji (jz (dP<|pCB yW<|ja (p2 jd (pV 1)<|pC<|.int 0) pN)<|jc [] 2)<|ji (jz (dP<|pCB yW<|ja (yy (J6<|p2 jd (pV 0)<|pC<|.int 1) (jc [] 0) qT (yg<|ja (pF<|p2 jd (pV 0)<|pC<|.int 0)<|ja (pF<|p2 jd (pV 0)<|pC<|.int 2) pN) [none]) pN)<|jc [] 3)<|ji (jz (dP<|yy (J6<|p2 jd (pV 1)<|pC<|.int 1) (gT 2<|gC (jc [] 0)<|gC (jc [] 1) gN) qT (yg<|ja (pF<|pV 0)<|ja (pIf (jl<|p2 Vk (p2 yr (pV 2)<|pV 0)<|pC<|.int 0) (p2 jf (pV 1)<|p2 yr (pV 3)<|pV 0)<|pF<|pV 1) pN) [none,none,some 2,some 3])<|jc [] 4)<|sFz 4<|yB<|dP<|yg<|ja (pF<|p2 jd (pV 1)<|pC<|.int 0)<|ja (pF<|pV 4)<|ja (pF<|p2 jd (pV 1)<|pC<|.int 2)<|ja (pF<|p2 jd (pV 1)<|pC<|.int 3)<|ja (pF<|p2 jd (pV 1)<|pC<|.int 4) pN)
def kg:List D->Option D:=fnP 5 Yu
def JD:FS:=(ji (jz (dP<|pC<|.int 0)<|jc [] 3)<|ji (sIf (dPT<|jl<|p2 Vk (pCB JJ<|ja (pV 0) pN)<|pC<|.int 0) (jz (dP<|pF<|p2 jd (pV 0)<|p2 Ji (pV 1)<|pCB JJ<|ja (pV 0) pN)<|jc [] 3)
 jO)<|ji (jz (dP<|p2 Ji (p2 yb (p2 jf (p2 jf (p2 Ji (pV 3)<|pC<|.int 2147483647)<|p2 yb (pC<|.int 7)<|pV 1)<|pC<|.int 3)<|p2 jf (pC<|.int 48271)<|p2 yb (p2 yb (pC<|.int 1103)<|pV 1)<|pV 1)<|pC<|.int 2147483629)<|jc [] 4)<|yB<|dP<|p2 Ji (p2 Yo (pV 4)<|pC<|.int 64)<|pV 2)
def je:List D->Option D:=fnP 5 JD
def yc:FS:=(ji (sIf (dPT<|jl<|p2 ki (p2 jd (pV 6)<|pC<|.int 0)<|pC<|.str [115,104,97,114,101]) (jz (dP<|p2 jf (pV 2)<|pCB J9<|ja (p2 jd (pV 6)<|pC<|.int 1) pN)<|jc [] 2)
 jO)<|sIf (dPT<|jl<|p2 ki (p2 jd (pV 6)<|pC<|.int 0)<|pC<|.str [114,101,112,97,121]) (Qs 2<|pF<|p2 jd (pV 6)<|pC<|.int 1)
 jO)
def vF:FS:=(kK (pIt<|pF<|pV 5) (jc [] 6) yc)
def VM:FS:=(ji (jz (dP<|JV pN)<|jc [] 2)<|ji (kK (pIt<|pF<|pV 0) (gT 3<|gC (jc [] 3)<|gC (jc [] 4)<|gC (jc [] 5) gN) vF)<|yB<|dP<|yy (J6<|pV 1) (jc [] 0) (jl<|p2 (zI true) (pV 0)<|pV 1) (pF<|pV 0) [none,some 2])
def qv:List D->Option D:=fnP 7 VM
def vM:FS:=(sIf (dPT<|jl<|p2 (zI false) (p2 jd (pV 2)<|pC<|.int 3)<|JV<|ja (pC<|.str [112,97,114,116])<|ja (pC<|.str [112,97,121])<|ja (pC<|.str [115,104,97,114,101])<|ja (pC<|.str [114,101,112,97,121])<|ja (pC<|.str [114,101,115,116])<|ja (pC<|.str [103,117,97,114,100]) pN) (jz (dP<|p2 jf (pV 1)<|p2 jd (pV 2)<|pC<|.int 6)<|jc [] 1)
 jO)
def VE:FS:=(ji (jz (dP<|pC<|.int 0)<|jc [] 1)<|ji (kK (pIt<|pF<|pV 0) (jc [] 2) vM)<|yB<|dP<|pF<|pV 1)
def qg:List D->Option D:=fnP 3 VE
def vn:FS:=(sIf (dPT<|qOr (jl<|p2 xC (p2 jd (pV 4)<|pC<|.int 0)<|p2 jd (pV 5)<|pC<|.int 0)<|jlk<|jl<|jcy jlS jlS (pC<|.int 0) (p2 jd (pV 4)<|pC<|.int 1)<|p2 jd (pV 5)<|pC<|.int 1) (yB<|dP<|pC<|.bl false)
 jO)
def vy:FS:=(sIf (dPT<|jl<|p2 jfO (p2 jd (pV 4)<|pC<|.int 1)<|pC<|.int 0) (yB<|dP<|pC<|.bl false)
 jO)
def vx:FS:=(ji (kK (jir<|ja (pF<|p2 jd (pV 3)<|pC<|.int 3)<|ja (pF<|p2 jd (pV 2)<|pC<|.int 2) pN) (gT 2<|gC (jc [] 4)<|gC (jc [] 5) gN) vn)<|kK (pIt<|p2 jf (p2 jf (p2 jd (pV 3)<|pC<|.int 0)<|p2 jd (pV 3)<|pC<|.int 1)<|p2 jd (pV 3)<|pC<|.int 2) (jc [] 4) vy)
def Jo:FS:=(ji (kK (jir<|ja (pF<|pV 0)<|ja (pF<|pV 1) pN) (gT 2<|gC (jc [] 2)<|gC (jc [] 3) gN) vx)<|yB<|dP<|pC<|.bl true)
def vk:List D->Option D:=fnP 6 Jo
def jP:FS:=(ji (sIf (dPT<|jaf (jl<|p2 ki (p2 jd (pV 3)<|pC<|.int 0)<|p2 jd (pV 1)<|pC<|.int 0)<|jl<|p2 ki (p2 jd (pV 3)<|pC<|.int 3)<|pC<|.str [102,105,108,108]) (Ky 0 (p2 jd (pV 3)<|pC<|.int 4)<|p2 jf (p3 kU (pV 0) (p2 jd (pV 3)<|pC<|.int 4)<|pC<|.int 0)<|p2 jd (pV 3)<|pC<|.int 6)
 jO)<|sIf (dPT<|jaf (jl<|p2 ki (p2 jd (pV 3)<|pC<|.int 0)<|p2 jd (pV 1)<|pC<|.int 0)<|jl<|p2 ki (p2 jd (pV 3)<|pC<|.int 3)<|pC<|.str [103,117,97,114,100]) (ji (jz (dP<|pF<|p2 jd (p2 jd (p2 jd (pV 1)<|pC<|.int 6)<|p2 jd (pV 3)<|pC<|.int 2)<|pC<|.int 0)<|jc [0] 4)<|Ky 0 (pV 4)<|p2 JO (p3 kU (pV 0) (pV 4)<|pC<|.int 0)<|p2 jd (pV 3)<|pC<|.int 6)
 jO)
def J4:FS:=(kK (pIt<|pF<|pV 2) (jc [0] 3) jP)
def vJ:List D->Option (D×D):=fnM 5 0 J4
def zU:FS:=(ji (jz (dP<|jn kc<|ja (pV 0) pN)<|jc [] 2)<|ji (sIf (dPT<|jl<|p2 Vk (pV 2)<|pC<|.int 10) (ji (jz (dP<|yy (J6<|pV 0) (jc [] 0) qT (p2 Yo (p2 jf (p2 yb (pV 1)<|p2 jd (pV 0)<|pC<|.int 1)<|pC<|.int 9)<|pC<|.int 10) [none,some 1])<|jc [] 3)<|yB<|jbm 3<|ja (p2 JO (pCB K2<|ja (pV 3) pN)<|pV 1) pN)
 jO)<|ji (jz (dP<|yy (J6<|pV 0) (jc [] 0) qT (p2 Yo (p2 yb (pV 1)<|p2 jd (pV 0)<|pC<|.int 1)<|pC<|.int 10) [none,some 1])<|jc [] 3)<|ji (jz (dP<|p2 JO (p2 Yo (p2 yb (pV 1)<|pV 2)<|pC<|.int 10)<|pCB K2<|ja (pV 3) pN)<|jc [] 4)<|sFz 3<|yB<|dP<|yg<|ja (yy (Jb<|ja (pF<|pV 3) pN) (gT 2<|gC (jc [] 0)<|gC (jc [] 1) gN) qT (pIf (jl<|p2 jfO (pV 0)<|pV 2) (p2 jf (pV 1)<|pC<|.int 1)<|pF<|pV 1) [none,none,some 4])<|ja (pC<|.int 0) pN)
def YA:List D->Option D:=fnP 5 zU
def va:FS:=(Vm<|kC yq 3 vQ<|ja (pF<|pV 1)<|ja (pF<|pV 4)<|ja (pF<|pV 5)<|ja (pF<|pV 6) pN)
def qJ:FS:=(ji (jz (dP<|jn ye<|ja (pV 0) pN)<|jc [] 3)<|ji (kK (pIt<|pF<|pV 2) (gT 3<|gC (jc [] 4)<|gC (jc [] 5)<|gC (jc [] 6) gN) va)<|yB<|dCB YO<|yY (jjf 3) jey)
def yN:List D->Option D:=fnP 7 qJ
def vv:FS:=(ji (JA 0 0 "pool_name"<|pF<|p2 jd (pV 1)<|pC<|.int 0)<|ji (JA 0 0 "marks"<|pCB yW<|ja (p2 jd (pV 1)<|pC<|.int 2) pN)<|ji (JA 0 0 "sizes"<|pCB yW<|ja (p2 jd (pV 2)<|pC<|.int 0) pN)<|ji (JA 0 0 "owed"<|pCB yW<|ja (p2 jd (pV 2)<|pC<|.int 1) pN)<|ji (JA 0 0 "levels"<|pCB yW<|ja (p2 jd (pV 2)<|pC<|.int 3) pN)<|ji (JA 0 0 "loans"<|jn ye<|ja (pV 4) pN)<|ji (JA 0 0 "cash"<|pF<|pV 3)<|ji (JA 0 0 "served"<|pC<|.dK true [] [])<|ji (JA 0 0 "entries"<|JV pN)<|JA 0 0 "moves"<|JV pN)
def yf:List D->Option (D×D):=fnM 5 0 vv
def j7:FS:=(sIf (dPT<|jl<|p2 ki (pV 1)<|pC<|.str [112,97,121]) (vf 0 (ql 0 "owed" vQ) (pV 2) (λm n=>m - n)<|pV 3)<|sIf (dPT<|jl<|p2 ki (pV 1)<|pC<|.str [114,101,112,97,121]) (ji (jz (dP<|pCB uR<|ja (pV 3)<|ja (p2 yr (qN 0 "owed"<|pV 0)<|pV 2) pN)<|jc [0] 4)<|ji (vf 0 (ql 0 "owed" vQ) (pV 2) (λm n=>m - n)<|pV 4)<|vf 0 (ql 0 "sizes" vQ) (pV 2) (λm n=>m - n)<|p2 JO (pV 3)<|pV 4)<|sIf (dPT<|jl<|p2 ki (pV 1)<|pC<|.str [102,105,108,108]) (vf 0 (ql 0 "levels" vQ) (pV 2) (λm n=>m+n)<|pV 3)<|sIf (dPT<|jaf (jl<|p2 (zI false) (pV 1)<|yg<|ja (pC<|.str [108,101,110,100])<|ja (pC<|.str [98,97,99,107]) pN)<|jl<|p2 Vk (pV 3)<|pC<|.int 0) (ji (Vm<|kC yq 0 (ql 0 "loans" vQ)<|ja (pF<|qN 0 "pool_name"<|pV 0)<|ja (pF<|pV 1)<|ja (pF<|pV 2)<|ja (pF<|pV 3) pN)<|kD 0 (ql 0 "moves" vQ)<|yg<|ja (pF<|pV 1)<|ja (pF<|pV 2)<|ja (pF<|pV 3) pN)
 jO)
def jo:List D->Option (D×D):=fnM 5 0 j7
def yt:FS:=(ji (J3 0 vQ 0 "cash" (λm n=>m - n)<|pV 8)<|ji (vf 0 (ql 0 "owed" vQ) (pV 6) (λm n=>m - n)<|pV 8)<|ji (kD 0 (ql 0 "entries" vQ)<|yg<|ja (pF<|pV 1)<|ja (pC<|.str [115,104,97,114,101])<|ja (pF<|pV 6)<|ja (pF<|pV 7)<|ja (pF<|pV 8) pN)<|sIf (dPT<|jl<|pV 5) (YI 0 (ql 0 "served" vQ) (pV 6)<|pC<|.bl true)
 jO)
def yK:FS:=(ji (jz (dP<|yy (J6<|pV 2) (jc [] 0) qT (pF<|p2 yr (qN 0 "owed"<|pV 1)<|pV 0) [none,some 0])<|jc [0] 3)<|ji (jz (dP<|jn qB<|ja (pV 3)<|ja (qN 0 "cash"<|pV 0) pN)<|jc [0] 4)<|ji (jz (dP<|jlf (p2 Vk (pCB K2<|ja (pV 3) pN)<|pC<|.int 0)<|p2 ki (pV 4)<|pV 3)<|jc [0] 5)<|sFz 3<|sFz 4<|kK (pZ3<|ja (pF<|pV 2)<|ja (pF<|pV 3)<|ja (pF<|pV 4) pN) (gT 3<|gC (jc [0] 6)<|gC (jc [0] 7)<|gC (jc [0] 8) gN) yt)
def jG:List D->Option (D×D):=fnM 9 0 yK
def jcJ:FS:=(yB<|dP<|yg<|ja (yy (J6<|pV 0) (jc [] 0) qT (jn yV<|ja (pV 0) pN) [none])<|ja (JV pN)<|ja (yy (J6<|pV 0) (jc [] 0) qT (pC<|.int 0) [none]) pN)
def KJ:List D->Option D:=fnP 1 jcJ
def YD:FS:=(yB<|dP<|jn yT<|ja (pV 0)<|ja (pCB yW<|ja (p2 jd (pV 1)<|pC<|.int 2) pN) pN)
def vA:List D->Option D:=fnP 2 YD
def vq:FS:=(ji (jz (dP<|pC<|.int 0)<|jc [] 2)<|ji (sIf (dPT<|jl<|p2 Vk (pCB JJ<|ja (pV 0) pN)<|pC<|.int 0) (jz (dP<|pF<|p2 jd (pV 0)<|p2 Ji (pV 1)<|pCB JJ<|ja (pV 0) pN)<|jc [] 2)
 jO)<|ji (sIf (dPT<|jl<|p2 Vk (jn je<|ja (pV 0)<|ja (pC<|.int 900)<|ja (pC<|.int 3) pN)<|pC<|.int 0) (yB<|dP<|p2 jf (pC<|.int 1)<|jn je<|ja (pV 0)<|ja (pV 1)<|ja (pC<|.int 9) pN)
 jO)<|yB<|dP<|p2 jf (pC<|.int 1)<|p2 Ji (p2 yb (p2 jf (p2 jf (p2 Ji (pV 2)<|p2 Vr (pC<|.int 10)<|pC<|.int 40)<|p2 yb (pV 1)<|pV 1)<|pC<|.int 1)<|p2 Vr (pC<|.int 48271)<|pC<|.int 5)<|p2 Vr (pC<|.int 10)<|pC<|.int 12)
def jw:List D->Option D:=fnP 3 vq
def Y7:FS:=(ji (jz (dP<|pC<|.str [98,99,100,102,103,106,107,109,110,112,113,118,119,120,121,122])<|jc [] 1)<|ji (jz (dP<|p2 yb (pC<|.str [122,113])<|jn je<|ja (pV 0)<|ja (pC<|.int 901)<|ja (pC<|.int 2) pN)<|jc [] 2)<|ji (jz (dP<|pSl (pC<|.str [118,122,98]) oN<|oS<|jn je<|ja (pV 0)<|ja (pC<|.int 902)<|ja (pC<|.int 4) pN)<|jc [] 3)<|ji (jz (dP<|jn je<|ja (pV 0)<|ja (pC<|.int 903)<|ja (pC<|.int 16) pN)<|jc [] 4)<|yB<|dP<|yy (Kv<|ja (pC<|.int 16) pN) (jc [] 0) qT (p2 jf (p2 jf (pV 1)<|p2 jd (pV 2)<|p2 Ji (p2 jf (pV 3)<|pV 0)<|pC<|.int 16)<|pV 4) [none,some 2,some 1,some 4,some 3])
def kq:List D->Option D:=fnP 5 Y7
def vK:FS:=(sIf (dPT<|jl<|p2 Vk (jn je<|ja (pV 0)<|ja (p2 jf (pV 1)<|pV 4)<|ja (pC<|.int 3) pN)<|pC<|.int 0) (Qs 3<|pF<|pV 5)
 jO)
def JH:FS:=(ji (jz (dP<|JV pN)<|jc [] 3)<|ji (kK (Jb<|ja (pF<|pV 2) pN) (gT 2<|gC (jc [] 4)<|gC (jc [] 5) gN) vK)<|ji (sIf (dPT<|jl<|p2 ki (jn je<|ja (pV 0)<|ja (p2 jf (pV 1)<|pC<|.int 9)<|ja (pC<|.int 2) pN)<|pC<|.int 1) (jlK 3)
 jO)<|yB<|dMv 3)
def vW:List D->Option D:=fnP 6 JH
def yu:FS:=(ji (jz (dP<|pF<|p2 jd (p2 jd (pV 3)<|pC<|.int 0)<|pV 4)<|jc [0] 6)<|ji (jz (dP<|pCB uR<|ja (pV 6)<|ja (qN 0 "cash"<|pV 0) pN)<|jc [0] 7)<|ji (J3 0 vQ 0 "cash" (λm n=>m - n)<|pV 7)<|kD 0 (ql 0 "entries" vQ)<|yg<|ja (pF<|pV 4)<|ja (pC<|.str [112,97,114,116])<|ja (pF<|p2 jd (pV 5)<|pC<|.int 0)<|ja (pF<|pV 6)<|ja (pF<|pV 7) pN)
def yI:FS:=(ji (jz (dP<|pF<|qN 0 "cash"<|pV 0)<|jc [0] 2)<|ji (jz (dP<|jn YA<|ja (pV 1)<|ja (pV 2) pN)<|jc [0] 3)<|ji (kK (Jb<|ja (pF<|pV 1) pN) (gT 2<|gC (jc [0] 4)<|gC (jc [0] 5) gN) yu)<|sIf (dPT<|jl<|p2 Vk (p2 jd (pV 3)<|pC<|.int 1)<|pC<|.int 0) (kD 0 (ql 0 "entries" vQ)<|yg<|ja (p1 xK<|pC<|.int 1)<|ja (pC<|.str [116,119,105,99,101])<|ja (pC<|.str [])<|ja (pCB K2<|ja (p2 jd (pV 3)<|pC<|.int 0) pN)<|ja (pF<|pV 2) pN)
 jO)
def jF:List D->Option (D×D):=fnM 8 0 yI
def jX:FS:=(ji (jz (dP<|pF<|p2 jd (pV 2)<|pC<|.int 0)<|jc [0] 3)<|ji (jz (dP<|pF<|p2 jd (pV 2)<|pC<|.int 1)<|jc [0] 4)<|ji (jz (dP<|JL jh 0 "need_of" (pV 0)<|ja (pV 2) pN)<|jc [0] 5)<|ji (jz (dP<|pCB uR<|ja (pV 5)<|ja (qN 0 "cash"<|pV 0) pN)<|jc [0] 6)<|ji (J3 0 vQ 0 "cash" (λm n=>m - n)<|pV 6)<|ji (kD 0 (ql 0 "entries" vQ)<|yg<|ja (pF<|pV 1)<|ja (pF<|pV 3)<|ja (pF<|pV 4)<|ja (pF<|pV 5)<|ja (pF<|pV 6) pN)<|ji (Vm<|yH jo 0 0 "give"<|ja (pF<|pV 3)<|ja (pF<|pV 4)<|ja (pF<|pV 6) pN)<|sIf (dPT<|jaf (jl<|p2 (zI false) (pV 3)<|yg<|ja (pC<|.str [112,97,121])<|ja (pC<|.str [114,101,112,97,121]) pN)<|jaf (jl<|p2 ki (pV 6)<|pV 5)<|jl<|p2 Vk (pV 5)<|pC<|.int 0) (YI 0 (ql 0 "served" vQ) (pV 4)<|pC<|.bl true)
 jO)
def jq:List D->Option (D×D):=fnM 7 0 jX
def JI:FS:=(ji (jz (dP<|jn je<|ja (pV 0)<|ja (pV 1)<|ja (pC<|.int 9) pN)<|jc [] 5)<|ji (jz (dP<|pF<|p2 jd (pV 2)<|jn je<|ja (pV 0)<|ja (p2 jf (pV 1)<|pC<|.int 1)<|ja (pCB JJ<|ja (pV 2) pN) pN)<|jc [] 6)<|ji (sIf (dPT<|jl<|p2 jfO (pV 5)<|pC<|.int 3) (yB<|dP<|yg<|ja (pC<|.str [112,97,121])<|ja (pF<|pV 6) pN)
 jO)<|ji (sIf (dPT<|jaf (jl<|p2 ki (pV 5)<|pC<|.int 3)<|jaf (jl<|p2 Vk (pCB JJ<|ja (pV 2) pN)<|pC<|.int 1)<|jl<|p2 ki (jn je<|ja (pV 0)<|ja (p2 jf (pV 1)<|pC<|.int 2)<|ja (pC<|.int 2) pN)<|pC<|.int 0) (yB<|dP<|yg<|ja (pC<|.str [115,104,97,114,101])<|ja (pCB zp<|ja (pSl (pV 2) oN<|oS<|pC<|.int 2) pN) pN)
 jO)<|ji (sIf (dPT<|jaf (jl<|p2 ki (pV 5)<|pC<|.int 3)<|jl<|p2 Vk (pCB JJ<|ja (pV 2) pN)<|pC<|.int 1) (yB<|dP<|yg<|ja (pC<|.str [115,104,97,114,101])<|ja (pCB zp<|ja (p2 jf (pSl (pV 2) (oS<|p1 xK<|pC<|.int 1) oN)<|pSl (pV 2) oN<|oS<|p1 xK<|pC<|.int 1) pN) pN)
 jO)<|ji (sIf (dPT<|jl<|p2 ki (pV 5)<|pC<|.int 4) (yB<|dP<|yg<|ja (pC<|.str [114,101,112,97,121])<|ja (pF<|pV 6) pN)
 jO)<|ji (sIf (dPT<|jaf (jl<|p2 ki (pV 5)<|pC<|.int 5)<|jl<|p2 Vk (pCB JJ<|ja (pV 3) pN)<|pC<|.int 0) (yB<|dP<|yg<|ja (pC<|.str [102,105,108,108])<|ja (pF<|p2 jd (pV 3)<|jn je<|ja (pV 0)<|ja (p2 jf (pV 1)<|pC<|.int 2)<|ja (pCB JJ<|ja (pV 3) pN) pN) pN)
 jO)<|ji (sIf (dPT<|jaf (jl<|p2 Vk (pV 5)<|pC<|.int 5)<|jl<|p2 Vk (pCB JJ<|ja (pV 4) pN)<|pC<|.int 0) (ji (jz (dP<|pF<|p2 jd (pV 4)<|jn je<|ja (pV 0)<|ja (p2 jf (pV 1)<|pC<|.int 2)<|ja (pCB JJ<|ja (pV 4) pN) pN)<|jc [] 7)<|ji (sIf (dPT<|jl<|p2 ki (pV 5)<|pC<|.int 8) (yB<|dP<|yg<|ja (pC<|.str [98,97,99,107])<|ja (pF<|pV 7) pN)
 jO)<|yB<|dP<|yg<|ja (pC<|.str [108,101,110,100])<|ja (pF<|pV 7)<|ja (jn jw<|ja (pV 0)<|ja (p2 jf (pV 1)<|pC<|.int 3) pN) pN)
 jO)<|yB<|dP<|yg<|ja (pC<|.str [112,97,121])<|ja (pF<|pV 6) pN)
def JM:List D->Option D:=fnP 8 JI
def v7:FS:=(ji (jz (dP<|jn je<|ja (pV 0)<|ja (pV 1)<|ja (pC<|.int 6) pN)<|jc [] 2)<|ji (sIf (dPT<|jl<|p2 ki (pV 2)<|pC<|.int 0) (yB<|dP<|pC<|.int 0)
 jO)<|ji (sIf (dPT<|jl<|p2 jfO (pV 2)<|pC<|.int 4) (yB<|dP<|jn je<|ja (pV 0)<|ja (p2 jf (pV 1)<|pC<|.int 1)<|ja (pC<|.int 45) pN)
 jO)<|ji (sIf (dPT<|jl<|p2 ki (pV 2)<|pC<|.int 4) (yB<|dP<|p2 yb (jn jw<|ja (pV 0)<|ja (p2 jf (pV 1)<|pC<|.int 2) pN)<|jn je<|ja (pV 0)<|ja (p2 jf (pV 1)<|pC<|.int 1)<|ja (pC<|.int 30) pN)
 jO)<|yB<|dP<|p2 Ji (p2 jd (p2 jf (pV 0)<|JV<|ja (pC<|.int 0) pN)<|p2 Ji (pV 1)<|p2 jf (pCB JJ<|ja (pV 0) pN)<|pC<|.int 1)<|p2 Vr (pC<|.int 10)<|pC<|.int 30)
def yj:List D->Option D:=fnP 3 v7
def qe:FS:=(sIf (dPT<|jl<|p2 ki (p2 jd (pV 8)<|pC<|.int 0)<|pC<|.str [115,104,97,114,101]) (Vm<|yH jG 6 0 "take_share"<|ja (pF<|pV 7)<|ja (pF<|p2 jd (pV 8)<|pC<|.int 1) pN)<|Vm<|yH jq 6 0 "take_rule"<|ja (pF<|pV 7)<|ja (pF<|pV 8) pN)
def Ki:FS:=(Vm<|yH yi 6 0 "take_guard"<|ja (pF<|pV 7)<|ja (pF<|p2 jd (pV 9)<|pC<|.int 0)<|ja (pF<|p2 jd (pV 9)<|pC<|.int 1) pN)
def jfv:FS:=(ji (jz (dP<|jn vh<|ja (pV 0)<|ja (pV 1) pN)<|jc [] 5)<|ji (jz (dP<|jaC yf 0<|ja (pF<|pV 0)<|ja (pF<|pV 2)<|ja (pF<|pV 3)<|ja (pF<|pV 4) pN)<|jc [] 6)<|ji (Vm<|yH jF 6 0 "take_parts"<|ja (pF<|p2 jd (pV 5)<|pC<|.int 1) pN)<|ji (kK (ji7 (ja (pF<|p2 jd (pV 5)<|pC<|.int 2) pN)<|pCB JJ<|ja (p2 jd (pV 5)<|pC<|.int 1) pN) (gT 2<|gC (jc [] 7)<|gC (jc [] 8) gN) qe)<|ji (kK (Jb<|ja (pF<|p2 jd (pV 0)<|pC<|.int 6) pN) (gT 2<|gC (jc [] 7)<|gC (jc [] 9) gN) Ki)<|yB<|jiu 6 0 "entries" "moves"<|JL jC 0 "book_behind" (pV 6)<|ja (pV 2) pN)
def wT:List D->Option D:=fnP 10 jfv
def vj:FS:=(sIf (dPT<|jl<|p2 ki (jn je<|ja (pV 0)<|ja (p2 jf (pV 1)<|pV 7)<|ja (pC<|.int 4) pN)<|pC<|.int 0) (Qs 6<|yg<|ja (pF<|pV 8)<|ja (p2 jf (pC<|.int 1)<|jn je<|ja (pV 0)<|ja (p2 jf (p2 jf (pV 1)<|pC<|.int 5)<|pV 7)<|ja (pC<|.int 10) pN) pN)
 jO)
def kz:FS:=(Qs 9<|jn JM<|ja (pV 0)<|ja (p2 jf (p2 jf (pV 1)<|pC<|.int 10)<|p2 yb (pC<|.int 5)<|pV 7)<|ja (pV 3)<|ja (pV 4)<|ja (pV 5) pN)
def Yr:FS:=(ji (jz (dP<|JV pN)<|jc [] 6)<|ji (kK (Jb<|ja (pF<|pV 3) pN) (gT 2<|gC (jc [] 7)<|gC (jc [] 8) gN) vj)<|ji (jz (dP<|JV pN)<|jc [] 9)<|ji (kK (Kv<|ja (jn je<|ja (pV 0)<|ja (p2 jf (pV 1)<|pC<|.int 8)<|ja (pC<|.int 6) pN) pN) (jc [] 7) kz)<|ji (jz (dP<|pF<|p2 jd (pV 3)<|jn je<|ja (pV 0)<|ja (p2 jf (pV 1)<|pC<|.int 9)<|ja (pCB JJ<|ja (pV 3) pN) pN)<|jc [] 10)<|sFz 6<|yB<|dP<|yg<|ja (pF<|pV 2)<|ja (pF<|pV 6)<|ja (p2 jf (pV 9)<|JV<|ja (yg<|ja (pC<|.str [114,101,115,116])<|ja (pF<|pV 10) pN) pN) pN)
def km:List D->Option D:=fnP 11 Yr
def yX:FS:=(ji (jz (dP<|jn yj<|ja (pV 0)<|ja (p2 jf (p2 jf (pC<|.int 2000)<|p2 yb (pC<|.int 37)<|pV 3)<|p2 yb (pC<|.int 7)<|pV 6) pN)<|jc [] 7)<|Qs 5<|p2 yb (pV 7)<|pCB zW<|ja (p2 ki (jn je<|ja (pV 0)<|ja (p2 jf (p2 jf (pC<|.int 3000)<|p2 yb (pC<|.int 5)<|pV 3)<|pV 6)<|ja (pC<|.int 4) pN)<|pC<|.int 0) pN)
def vE:FS:=(ji (jz (dP<|yy (Kv<|ja (pV 1) pN) (jc [] 0) qT (jn yj<|ja (pV 1)<|ja (p2 jf (p2 jf (pC<|.int 1000)<|p2 yb (pC<|.int 37)<|pV 2)<|p2 yb (pC<|.int 7)<|pV 0) pN) [none,some 0,some 3])<|jc [] 4)<|ji (jz (dP<|JV pN)<|jc [] 5)<|ji (kK (Kv<|ja (pV 1) pN) (jc [] 6) yX)<|sFz 4<|sFz 5<|Qs 2<|yg<|ja (pF<|pV 4)<|ja (pF<|pV 5) pN)
def VI:FS:=(ji (jz (dP<|JV pN)<|jc [] 2)<|ji (kK (Kv<|ja (pCB uR<|ja (pCB JJ<|ja (pV 0) pN)<|ja (pC<|.int 20) pN) pN) (jc [] 3) vE)<|yB<|dMv 2)
def qd:List D->Option D:=fnP 8 VI
def VZ:FS:=(ji (jz (dP<|jn Kb<|ja (pV 0)<|ja (pV 1)<|ja (pV 4) pN)<|jc [] 5)<|ji (jz (dP<|jn vA<|ja (pV 0)<|ja (pV 1) pN)<|jc [] 6)<|ji (sFz 5<|jz (dP<|jn wT<|ja (pV 0)<|ja (pV 6)<|ja (jn kg<|ja (pV 0)<|ja (p2 jd (pV 5)<|pC<|.int 1) pN)<|ja (pV 3)<|ja (pV 2) pN)<|jc [] 7)<|ji (jz (dP<|yy (J6<|p2 jd (pV 5)<|pC<|.int 0) (jc [] 0) qT (p2 jf (yg<|ja (pF<|p2 jd (pV 1)<|pC<|.int 0)<|ja (pC<|.str []) pN)<|pV 0) [none,some 0])<|jc [] 8)<|ji (jit 8<|yy (J6<|p2 jd (pV 7)<|pC<|.int 0) (jc [] 0) qT (p2 jf (yg<|ja (pF<|p2 jd (pV 1)<|pC<|.int 0)<|ja (pF<|pV 2) pN)<|pV 0) [none,some 0,some 6])<|sFz 7<|sFz 8<|yB<|dP<|yg<|ja (pF<|p2 jd (pV 7)<|pC<|.int 1)<|ja (jn yN<|ja (pV 2)<|ja (p2 jd (pV 0)<|pC<|.int 0)<|ja (p2 jd (pV 7)<|pC<|.int 2) pN)<|ja (pF<|p2 jd (pV 7)<|pC<|.int 2)<|ja (pF<|pV 8) pN)
def v8:List D->Option D:=fnP 9 VZ
def vH:FS:=(Qs 6<|yg<|ja (pF<|pV 8)<|ja (jn jw<|ja (pV 0)<|ja (p2 jf (p2 jf (pV 1)<|pC<|.int 20)<|pV 7) pN)<|ja (jn jw<|ja (pV 0)<|ja (p2 jf (p2 jf (pV 1)<|pC<|.int 24)<|pV 7) pN) pN)
def vI:FS:=(Qs 10<|jn km<|ja (pV 0)<|ja (p2 jf (p2 jf (pV 1)<|p2 yb (pC<|.int 60)<|pV 7)<|pC<|.int 30)<|ja (pV 11)<|ja (pV 3)<|ja (pV 4)<|ja (pV 5) pN)
def vP:FS:=(ji (jz (dP<|pF<|p2 jd (pV 3)<|jn je<|ja (pV 0)<|ja (p2 jf (p2 jf (pV 1)<|pC<|.int 3)<|pV 7)<|ja (pCB JJ<|ja (pV 3) pN) pN)<|jc [] 8)<|ji (jz (dP<|pF<|p2 jd (pV 9)<|jn je<|ja (pV 0)<|ja (p2 jf (p2 jf (pV 1)<|pC<|.int 5)<|pV 7)<|ja (pCB JJ<|ja (pV 9) pN) pN)<|jc [] 13)<|Qs 12<|yg<|ja (pF<|pV 8)<|ja (p2 jf (pC<|.int 1)<|jn je<|ja (pV 0)<|ja (p2 jf (p2 jf (pV 1)<|pC<|.int 7)<|pV 7)<|ja (pC<|.int 3) pN)<|ja (pF<|pV 13) pN)
def yU:FS:=(sIf (dPT<|jl<|p2 Vk (pCB JJ<|ja (pV 4) pN)<|pC<|.int 0) (Qs 15<|yg<|ja (pF<|p2 jd (pV 4)<|jn je<|ja (pV 0)<|ja (p2 jf (p2 jf (pV 1)<|pC<|.int 11)<|pV 7)<|ja (pCB JJ<|ja (pV 4) pN) pN)<|ja (pF<|pV 8) pN)
 jO)
def VH:FS:=(ji (jz (dP<|JV pN)<|jc [] 6)<|ji (kK (Jb<|ja (pF<|pV 3) pN) (gT 2<|gC (jc [] 7)<|gC (jc [] 8) gN) vH)<|ji (jz (dP<|pSl (JV<|ja (pC<|.str [98,98])<|ja (pC<|.str [99,107])<|ja (pC<|.str [100,100]) pN) oN<|oS<|p2 jf (pC<|.int 1)<|jn je<|ja (pV 0)<|ja (p2 jf (pV 1)<|pC<|.int 1)<|ja (pC<|.int 3) pN)<|jc [] 9)<|ji (jz (dP<|JV pN)<|jc [] 10)<|ji (sFz 9<|kK (Jb<|ja (pF<|pV 9) pN) (gT 2<|gC (jc [] 7)<|gC (jc [] 11) gN) vI)<|ji (jz (dP<|JV pN)<|jc [] 12)<|ji (kK (Kv<|ja (jn je<|ja (pV 0)<|ja (p2 jf (pV 1)<|pC<|.int 2)<|ja (pC<|.int 3) pN) pN) (jc [] 7) vP)<|ji (jz (dP<|jn qv<|ja (pV 10)<|ja (pV 3) pN)<|jc [] 14)<|ji (jz (dP<|JV pN)<|jc [] 15)<|ji (kK (Jb<|ja (pSl (pV 14) oN<|oS<|jn je<|ja (pV 0)<|ja (p2 jf (pV 1)<|pC<|.int 10)<|ja (pC<|.int 4) pN) pN) (gT 2<|gC (jc [] 7)<|gC (jc [] 8) gN) yU)<|ji (jz (dP<|yy (Jb<|ja (pF<|pV 4) pN) (gT 2<|gC (jc [] 0)<|gC (jc [] 1) gN) qT (yg<|ja (pF<|pV 1)<|ja (jn jw<|ja (pV 2)<|ja (p2 jf (p2 jf (pV 3)<|pC<|.int 16)<|pV 0) pN) pN) [none,none,some 0,some 1])<|jc [] 16)<|sFz 6<|sFz 16<|sFz 10<|sFz 12<|sFz 15<|yB<|dP<|yg<|ja (pF<|pV 2)<|ja (pF<|pV 6)<|ja (pF<|pV 16)<|ja (jn vW<|ja (pV 0)<|ja (p2 jf (pV 1)<|pC<|.int 13)<|ja (pV 3) pN)<|ja (pF<|pV 10)<|ja (pF<|pV 12)<|ja (pF<|pV 15) pN)
def qx:List D->Option D:=fnP 17 VH
def vO:FS:=(zc 6 (p2 yr (pV 8)<|pV 14) (λi j=>i+j)<|pV 15)
def vN:FS:=(ji (jz (dP<|p2 jf (p2 jd (pV 2)<|pV 9)<|p2 jd (pV 6)<|pV 9)<|jc [] 11)<|ji (jz (dP<|pC<|.int 0)<|gIx [] 6<|pV 9)<|ji (sFz 5<|jz (dP<|jn v8<|ja (pV 10)<|ja (p2 jd (p2 jd (pV 1)<|pC<|.int 0)<|pV 9)<|ja (pV 5)<|ja (pV 11)<|ja (p2 jd (pV 3)<|pV 9) pN)<|jc [] 12)<|ji (sFz 12<|Qs 4<|pF<|p2 jd (pV 12)<|pC<|.int 0)<|ji (jz (dP<|pF<|p2 jd (pV 12)<|pC<|.int 1)<|jc [] 5)<|ji (kK (pIt<|pF<|p2 jd (pV 12)<|pC<|.int 2) (gT 3<|gC (jc [] 13)<|gC (jc [] 14)<|gC (jc [] 15) gN) vO)<|jit 7<|p2 jd (pV 12)<|pC<|.int 3)
def VF:FS:=(ji (jz (dP<|JV pN)<|jc [] 4)<|ji (jz (dP<|pCB J9<|ja (p2 jd (pV 1)<|pC<|.int 1) pN)<|jc [] 5)<|ji (jz (dP<|pCB J9<|ja (p2 jd (pV 1)<|pC<|.int 2) pN)<|jc [] 6)<|ji (jz (dP<|JV pN)<|jc [] 7)<|ji (jz (dP<|pCB yW<|ja (yy (Jb<|ja (pF<|pV 0) pN) (gT 2<|gC (jc [] 0)<|gC (jc [] 1) gN) qT (yg<|ja (pF<|p2 jd (pV 1)<|pC<|.int 0)<|ja (pF<|pV 0) pN) [none,none]) pN)<|jc [] 8)<|ji (kK (Jb<|ja (pF<|pV 0) pN) (gT 2<|gC (jc [] 9)<|gC (jc [] 10) gN) vN)<|yB<|jc7<|yY (jc7<|yY (dMv 4)<|yY (dMv 5)<|yY (dMv 6) jey)<|yY (dMv 7) jey)
def qu:List D->Option D:=fnP 16 VF
def vD:FS:=(ji (jz (dP<|pSl (pV 2) (oS<|p2 jf (pC<|.int 3)<|p2 yb (pC<|.int 4)<|pV 5)<|oS<|p2 jf (pC<|.int 7)<|p2 yb (pC<|.int 4)<|pV 5)<|jc [] 6)<|ji (jz (dP<|pSl (pV 6) oN<|oS<|p2 jf (pC<|.int 1)<|jn je<|ja (pV 0)<|ja (p2 jf (pC<|.int 905)<|pV 5)<|ja (pC<|.int 3) pN)<|jc [] 7)<|ji (jz (dP<|pSl (JV<|ja (pF<|p2 jd (pV 6)<|pC<|.int 3)<|ja (p2 jf (p2 jd (pV 6)<|pC<|.int 3)<|pC<|.str [104]) pN) oN<|oS<|jn je<|ja (pV 0)<|ja (p2 jf (pC<|.int 910)<|pV 5)<|ja (pC<|.int 3) pN)<|jc [] 8)<|ji (jz (dP<|yy (J6<|pSl (pV 2) oN<|oS<|pV 3) (jc [] 0) (jl<|p2 xC (pV 0)<|p2 jd (pV 1)<|pV 2) (pF<|pV 0) [none,some 2,some 5])<|jc [] 9)<|sFz 9<|sFz 8<|sFz 7<|Qs 4<|jn qx<|ja (pV 0)<|ja (p2 yb (pC<|.int 200)<|pV 5)<|ja (p2 jd (pV 2)<|pV 5)<|ja (pV 7)<|ja (pV 8)<|ja (pV 9) pN)
def VW:FS:=(ji (jz (dP<|jn kq<|ja (pV 0) pN)<|jc [] 2)<|ji (jz (dP<|p2 jf (pC<|.int 1)<|jn je<|ja (pV 0)<|ja (pC<|.int 904)<|ja (pV 1) pN)<|jc [] 3)<|ji (jz (dP<|JV pN)<|jc [] 4)<|ji (kK (Kv<|ja (pV 3) pN) (jc [] 5) vD)<|yB<|dMv 4)
def qj:List D->Option D:=fnP 10 VW
def zM:FS:=(ji (sFz 2<|jz (dP<|jn qu<|ja (pV 0)<|ja (pV 2)<|ja (pV 4)<|ja (pV 5) pN)<|jc [] 6)<|ji (sFz 6<|Qs 3<|pF<|pV 6)<|jz (dP<|pF<|p2 jd (pV 6)<|pC<|.int 0)<|jc [] 2)
def ji4:FS:=(ji (jz (dP<|jn KJ<|ja (pV 0) pN)<|jc [] 2)<|ji (jz (dP<|JV pN)<|jc [] 3)<|ji (kK (pIt<|pF<|pV 1) (gT 2<|gC (jc [] 4)<|gC (jc [] 5) gN) zM)<|yB<|dMv 3)
def jdl:List D->Option D:=fnP 7 ji4
def xR:FS:=(ji (Vm<|kC vJ 6 vQ<|ja (pF<|pV 11)<|ja (pF<|pV 10) pN)<|sIf (dPT<|jl<|p2 xC (p2 jd (pV 12)<|pC<|.int 3)<|yy (J6<|p2 jd (pV 11)<|pC<|.int 2) (gT 2<|gC (jc [] 0)<|gC (jc [] 1) gN) qT (yg<|ja (pF<|pV 0)<|ja (pF<|p3 kU (pV 2) (pV 0)<|pC<|.int 0) pN) [none,none,some 6]) (yB<|dP<|pC<|.bl false)
 jO)
def KL:FS:=(ji (jkY (dP<|pF<|pV 8)<|gT 2<|gC (jc [] 9)<|gC (jc [] 10) gN)<|ji (jz (dP<|p2 jf (pV 3)<|pCB K2<|ja (p2 jd (pV 7)<|pC<|.int 0) pN)<|jc [] 3)<|ji (jz (dP<|p2 jf (pV 4)<|jn qg<|ja (pV 10) pN)<|jc [] 4)<|ji (jz (dP<|p2 JO (p2 jf (pV 5)<|pCB K2<|ja (p2 jd (pV 7)<|pC<|.int 1) pN)<|pCB K2<|ja (yy (J6<|pV 10) (jc [] 0) (jl<|p2 ki (p2 jd (pV 0)<|pC<|.int 3)<|pC<|.str [101,97,116]) (pF<|p2 jd (pV 0)<|pC<|.int 6) [none]) pN)<|jc [] 5)<|ji (sIf (dPT<|qOr (jlk<|jl<|jn vk<|ja (pV 1)<|ja (p2 jd (pV 9)<|pC<|.int 0) pN)<|jl<|p2 xC (pV 5)<|pCB K2<|ja (yy (J6<|p2 jd (pV 9)<|pC<|.int 0) (jc [] 0) qT (pF<|p2 jd (pV 0)<|pC<|.int 4) [none]) pN) (yB<|dP<|pC<|.bl false)
 jO)<|ji (sFz 1<|kK (jir<|ja (pF<|pV 1)<|ja (pF<|p2 jd (pV 9)<|pC<|.int 0) pN) (gT 2<|gC (jc [] 11)<|gC (jc [] 12) gN) xR)<|sIf (dPT<|jl<|p2 xC (pV 3)<|p2 jf (p2 jf (pV 4)<|uZ<|pV 6)<|pCB K2<|ja (p2 jd (pV 9)<|pC<|.int 2) pN) (yB<|dP<|pC<|.bl false)
 jO)
def jjw:FS:=(ji (jz (dP<|jn qj<|ja (pV 0)<|ja (pC<|.int 3) pN)<|jc [] 1)<|ji (jz (dP<|jn qd<|ja (pV 0)<|ja (pCB JJ<|ja (pV 1) pN) pN)<|jc [] 2)<|ji (jz (dP<|pC<|.int 0)<|jc [] 3)<|ji (jz (dP<|pC<|.int 0)<|jc [] 4)<|ji (jz (dP<|pC<|.int 0)<|jc [] 5)<|ji (jz (dP<|pC<|.dK true [] [])<|jc [] 6)<|ji (sFz 1<|sFz 2<|kK (jir<|ja (pF<|pV 2)<|ja (jn jdl<|ja (pV 1)<|ja (pV 2) pN) pN) (gT 2<|gC (jc [] 7)<|gC (jc [] 8) gN) KL)<|yB<|dP<|pC<|.bl true)
def jad:List D->Option D:=fnP 13 jjw
structure Txt(P:Program)(w:World)(K:W4)(mg:W6)(cl:Nat->Addr):Prop where
 C0:Cls K (cl 0)
 mk0:PySem.W.makesIn K (cl 0)=true
 kc0:PySem.W.keepIn K (.ref<|cl 0)=true
 mg0:mg "Fall" = some (.ref<|cl 0)
 N_owed:NoAttr K (cl 0) "owed"
 N_sizes:NoAttr K (cl 0) "sizes"
 N_marks:NoAttr K (cl 0) "marks"
 N_levels:NoAttr K (cl 0) "levels"
 N_loans:NoAttr K (cl 0) "loans"
 N_pool_name:NoAttr K (cl 0) "pool_name"
 N_cash:NoAttr K (cl 0) "cash"
 N_entries:NoAttr K (cl 0) "entries"
 N_served:NoAttr K (cl 0) "served"
 N_moves:NoAttr K (cl 0) "moves"
 n_dict:mg "dict" = none
 n_enumerate:mg "enumerate" = none
 n_int:mg "int" = none
 n_len:mg "len" = none
 n_list:mg "list" = none
 n_max:mg "max" = none
 n_min:mg "min" = none
 n_range:mg "range" = none
 n_sorted:mg "sorted" = none
 n_sum:mg "sum" = none
 n_tuple:mg "tuple" = none
 n_zip:mg "zip" = none
 h_tenths_of:kY K mg "tenths_of" (top 2) ["parts"] 1
 h_order_named:kY K mg "order_named" (top 4) ["pool","name","order"] 2
 h_look_order:kY K mg "look_order" (top 5) ["pool","days_of","claim","days","order"] 2
 h_loans_by_ends:kY K mg "loans_by_ends" (top 6) ["loans"] 1
 h_move_loan:kY K mg "move_loan" (top 7) ["coins_of","pool_name","kind","other","coins"] 5
 h_shared:kY K mg "shared" (top 10) ["needs","cash","whole","gets","left","at","need"] 2
 h_Fall_need_of:jb8 K (cl 0) "need_of" "Fall.need_of" (kW (top 13) 3) ["self","rule","kind","name"] 2
 h_Fall_take_guard:jb8 K (cl 0) "take_guard" "Fall.take_guard" (kW (top 13) 6) ["self","place","pot","claim","need","got"] 4
 h_Fall_book_behind:jb8 K (cl 0) "book_behind" "Fall.book_behind" (kW (top 13) 7) ["self","book","sizes_ahead","runs","claim","days","missed"] 2
 h_eaten:kY K mg "eaten" (top 15) ["pool","book","loss","sizes","left","entries","place","claim","got","owed"] 3
 h_begun_book:kY K mg "begun_book" (top 18) ["pool","sizes","owed","runs"] 1
 h_with_dues:kY K mg "with_dues" (top 20) ["pool","book","sizes","dues","owed"] 2
 h_law_draw:kY K mg "_law_draw" (top 25) ["_law_script","_law_k","_law_many","_law_cell","_law_number"] 3
 h_law_free:kY K mg "_law_free" (top 31) ["_law_orders","_law_claims","_law_held","_law_name","_law_parts","_law_rules","_law_rule_here"] 2
 h_law_paid:kY K mg "_law_paid" (top 36) ["_law_log","_law_paid_here","_law_entry"] 1
 h_law_bounded:kY K mg "_law_bounded" (top 37) ["_law_deal_here","_law_books","_law_pool_here","_law_book","_law_pair","_law_told"] 2
 h_law_poured:kY K mg "_law_poured" (top 38) ["_law_levels","_law_pool_here","_law_log","_law_entry","_law_pot"] 3
 h_asked:kY K mg "asked" (top 1) ["parts","came","whole","asks","odd"] 2
 h_loans_behind:kY K mg "loans_behind" (top 8) ["loans","pool_name","moves","coins_of","kind","other","coins"] 3
 h_Fall___init__:jb8 K (cl 0) "__init__" "Fall.__init__" (kW (top 13) 0) ["self","pool","book","came","loans"] 5
 h_Fall_give:jb8 K (cl 0) "give" "Fall.give" (kW (top 13) 4) ["self","kind","name","coins","from_owed"] 4
 h_Fall_take_share:jb8 K (cl 0) "take_share" "Fall.take_share" (kW (top 13) 5) ["self","place","names","needs","gets","full","name","need","got"] 3
 h_begun:kY K mg "begun" (top 17) ["deal"] 1
 h_order_now:kY K mg "order_now" (top 19) ["pool","book"] 2
 h_law_coins:kY K mg "_law_coins" (top 26) ["_law_script","_law_k","_law_cell"] 2
 h_law_names:kY K mg "_law_names" (top 27) ["_law_script","_law_letters","_law_ahead","_law_behind","_law_first"] 1
 h_law_some:kY K mg "_law_some" (top 28) ["_law_script","_law_k","_law_names_here","_law_row","_law_at","_law_x"] 3
 h_Fall_take_parts:jb8 K (cl 0) "take_parts" "Fall.take_parts" (kW (top 13) 1) ["self","parts","came","told","place","part","ask","got"] 2
 h_Fall_take_rule:jb8 K (cl 0) "take_rule" "Fall.take_rule" (kW (top 13) 2) ["self","place","rule","kind","name","need","got"] 3
 h_law_rule:kY K mg "_law_rule" (top 29) ["_law_script","_law_k","_law_claims","_law_pots","_law_others","_law_kind","_law_claim","_law_other"] 5
 h_law_flow:kY K mg "_law_flow" (top 34) ["_law_script","_law_k","_law_way"] 2
 h_fell:kY K mg "fell" (top 12) ["pool","order","book","came","loans","rows","fall","place","rule","guard"] 5
 h_law_order:kY K mg "_law_order" (top 30) ["_law_script","_law_k","_law_name","_law_claims","_law_pots","_law_others","_law_parts","_law_at","_law_claim","_law_rules","_law_last"] 6
 h_law_days:kY K mg "_law_days" (top 35) ["_law_script","_law_many","_law_days_here","_law_k","_law_incomes","_law_losses","_law_at","_law_loss"] 2
 h_pool_day:kY K mg "pool_day" (top 21) ["pool","book","loans","came","loss","told_loss","order","told_fall","log"] 5
 h_law_pool:kY K mg "_law_pool" (top 32) ["_law_script","_law_k","_law_name","_law_claims","_law_pots","_law_others","_law_told","_law_at","_law_claim","_law_names_here","_law_orders","_law_x","_law_looks","_law_order_here","_law_free_here","_law_guards","_law_marks"] 6
 h_day_done:kY K mg "day_done" (top 22) ["deal","state","incomes","losses","books","loans","waiting","log","at_of","at","pool","came","told","kind","other","coins"] 4
 h_law_deal:kY K mg "_law_deal" (top 33) ["_law_script","_law_most","_law_names_here","_law_many","_law_deal_here","_law_k","_law_mine","_law_claims","_law_pots","_law_others"] 2
 h_ran:kY K mg "ran" (top 23) ["deal","days","state","told","incomes","losses","done"] 2
 h_law:kY K mg "law" (top 39) ["_law_script","_law_deal_here","_law_days_here","_law_came","_law_paid_here","_law_left","_law_levels","_law_day","_law_told","_law_state","_law_log","_law_pool_here","_law_book"] 1
section
variable {P:Program}{w:World}{K:W4}{mg:W6}{cl:Nat->Addr}(T:Txt P w K mg cl)
include T
set_option maxHeartbeats 40000000 in
def jjr:NP P w cl T.h_tenths_of 1 kc /\
 NP P w cl T.h_order_named 1 vh /\
 NP P w cl T.h_look_order 1 yT /\
 NP P w cl T.h_loans_by_ends 1 ye /\
 NM P w cl T.h_move_loan 1 yq /\
 NP P w cl T.h_shared 1 qB /\
 OP P w cl mg T.h_Fall_need_of 1 jh /\
 OM P w cl mg T.h_Fall_take_guard 1 yi /\
 OP P w cl mg T.h_Fall_book_behind 1 jC /\
 NP P w cl T.h_eaten 1 Kb /\
 NP P w cl T.h_begun_book 1 yV /\
 NP P w cl T.h_with_dues 1 kg /\
 NP P w cl T.h_law_draw 1 je /\
 NP P w cl T.h_law_free 1 qv /\
 NP P w cl T.h_law_paid 1 qg /\
 NP P w cl T.h_law_bounded 1 vk /\
 NM P w cl T.h_law_poured 1 vJ /\
 NP P w cl T.h_asked 2 YA /\
 NP P w cl T.h_loans_behind 2 yN /\
 OM P w cl mg T.h_Fall___init__ 2 yf /\
 OM P w cl mg T.h_Fall_give 2 jo /\
 OM P w cl mg T.h_Fall_take_share 2 jG /\
 NP P w cl T.h_begun 2 KJ /\
 NP P w cl T.h_order_now 2 vA /\
 NP P w cl T.h_law_coins 2 jw /\
 NP P w cl T.h_law_names 2 kq /\
 NP P w cl T.h_law_some 2 vW /\
 OM P w cl mg T.h_Fall_take_parts 3 jF /\
 OM P w cl mg T.h_Fall_take_rule 3 jq /\
 NP P w cl T.h_law_rule 3 JM /\
 NP P w cl T.h_law_flow 3 yj /\
 NP P w cl T.h_fell 4 wT /\
 NP P w cl T.h_law_order 4 km /\
 NP P w cl T.h_law_days 4 qd /\
 NP P w cl T.h_pool_day 5 v8 /\
 NP P w cl T.h_law_pool 5 qx /\
 NP P w cl T.h_day_done 6 qu /\
 NP P w cl T.h_law_deal 6 qj /\
 NP P w cl T.h_ran 7 jdl /\
 NP P w cl T.h_law 8 jad:=by
 cases T
 repeat' refine jnq ?_ λ_=>?_
 all_goals
  (first | refine okN (by assumption) λf fd S F base=>?_ | refine okO (by assumption) λf fd S F base=>?_)
  (first | refine' jlP F.fn S rfl λa A outer s H E b=>?_ | refine' jiB F.fn S rfl λa A outer s H E b=>?_)
  apply Exists.intro
  repeat' first | exact rfl | (show QB _ _ _ _ _;first | apply jmT | apply qI | apply jnj | apply jkb | apply jiI | apply jhn | apply jhi | apply QK.ix | apply QK.fld | apply QP.bb) | (show QBs _ _ _ _ _;first | apply jgA | apply jk8) | (show QPs _ _ _ _ _;first | apply jhk | apply jk1) | (show QSs _ _ _ _ _ _;first | apply jfR | apply jdK | apply jf7) | (show QP _ _ _ _ _;first | ((with_reducible show QP _ _ _ _ (pCB K2 _));refine' K0 (jbq rfl) jkn ?_ Qf ?_) | ((with_reducible show QP _ _ _ _ (pCB yW _));refine' KO (jap rfl) jg3 ?_ uL ?_) | ((with_reducible show QP _ _ _ _ (pCB J9 _));refine' KO Q7 jgQ ?_ Vy ?_) | ((with_reducible show QP _ _ _ _ (pCB uR _));refine' K0 (jbs rfl) jla ?_ jbS ?_) | ((with_reducible show QP _ _ _ _ (pCB jkF _));refine' K0 (jcp rfl) jla ?_ jbh ?_) | ((with_reducible show QP _ _ _ _ (pCB zp _));refine' KO V5 jdZ ?_ xl ?_) | ((with_reducible show QP _ _ _ _ (pCB zW _));refine' KO jbN jh2 ?_ jb3 ?_) | apply jkv | apply jfj | apply qS | apply jmW | apply jms | apply jm0 | apply jmU | apply jlc | apply jmM | apply jnO | apply jnD | apply jhf | apply jlG | apply jmt | apply jnP | apply jeb | apply jmn | apply jlB | apply jmH | apply jmV | apply jkp | apply jja | apply jlq | apply jic | apply jem | apply jkj | apply jiA | apply QK.add | apply QK.call | apply jlI | apply QB.f) | (show QE _ _ _ _ _;first | ((with_reducible show QE _ _ _ _ (dCB YO _));refine' jdP Qm jaT ?_ Qq ?_) | apply jnu | apply jjV | apply jin | apply jgn | apply jj6 | apply jdD | apply jmp | apply QP.d) | (show QS _ _ _ _ _ _;first | apply jkH | apply jm3 | apply jju | apply QS.fz | apply jiT | apply jkB | apply zZ | apply jgo | apply jcC | apply jii | apply jcW | apply jez | apply jh9 | apply jhq | apply jeJ | apply ji2 | apply jhF | apply jeg | apply jeM | apply jaP | apply ji1 | apply jes | apply jh1 | apply jjA) | (show QGs _ _ _ _ _ _;first | apply jdQ | apply jhI) | (show QT _ _ _ _ _;first | apply jk6 | apply jdz | apply jjS | apply jkD | apply QW.t) | (show QG _ _ _ _ _ _;first | apply jgC | apply jfw | apply QK.g_tup) | (show QDs _ _ _ _ _;first | apply jhN | apply jke) | (show QIb _ _ _ _ _ _;first | apply jgD | apply QI.b') | (show QL _ _ _ _ _ _;first | apply jkG | apply jld) | (show QI _ _ _ _ _ _;first | apply jhy | apply jkd | apply jhZ | apply jj3 | apply jmR | apply jmD) | (show QW _ _ _ _ _;first | apply jj5 | apply jhe | apply jjR | apply jlF) | (show QO _ _ _ _ _;first | apply jhM | apply jf3) | apply jeA | apply qkv | apply c_eq | apply jnH | apply jnA | apply c_ne | apply jnI | apply jnp | apply jnN | apply QK.c_notin | apply QK.c_ne | apply QK.c_eq | apply jbc | apply jdM | exact Or.inl rfl | exact Or.inr rfl | exact Or.inr (Or.inl rfl) | exact Or.inr (Or.inr rfl) | exact λ_=>rfl | exact λ_ _=>rfl | exact λ_ _ _=>rfl | exact b.mono (by decide) | apply jeE | exact S.nd | (show BlockOk _ _ _ _;exact bkN S) | exact PassesOwn.never | exact jk9 | exact jj8 | (intro _ _ _ _;first | show QP _ _ _ _ _ | show QG _ _ _ _ _ _ | show QIf _ _ _ _ _ | show QT _ _ _ _ _ | show QKv _ _ _ _ _ _) | exact⟨rfl,rfl,rfl,rfl⟩ | exact ndN (by decide +kernel) | decide +kernel | with_unfolding_all rfl | assumption | apply jmw
end
def sq(h:f ρ=some (.nx ρ'))(k:g ρ'=r):ji f g ρ=r:=by
 rw[je6,h];exact k
def lpF(h:(G x ρ).bind f=some (.nx ρ2)):jL G f (x::xs) ρ=jL G f xs ρ2:=by
 refine ob h λr a b=>?_;rw[jS,a,L5,b];rfl
def cpE(h:G x ρ=some ρ1)(k:p ρ1=some y):jW G qT p (x::xs) ρ=(jW G qT p xs ρ1).bind λys=>some (y::ys):=by
 rw[vV,h,L5,qT,L5,cond_true,k];rfl
def lpE(h:G x ρ=some ρ1)(k:f ρ1=some (.nx ρ2)):jL G f (x::xs) ρ=jL G f xs ρ2:=by
 rw[jS,h,L5,k];rfl
noncomputable abbrev sc(ns:List Int):D:=.lst false<|ns.map D.int
noncomputable def jdV(ns:List Int)(k:Int):Int:=ns.getD (k % ns.length).toNat 0
def drw(ns:List Int)(k many:Int):Int:=(jdV ns k % 2147483647+7*k+3)*(48271+1103*k*k) % 2147483629 / 64 % many
def jY(ns:List Int)(k:Int)  (h:0 < many):0<=drw ns k many:=U1 _ (by lia)
def ya(ns:List Int)(k:Int)  (h:0 < many):drw ns k many < many:=U0 _ h
def jbE(h:0 < ns.length):jd (.lst false<|ns.map D.int) (.int<|k % (ns.length:Int))=some (.int<|jdV ns k):=by
 have a:=U1 k (show(ns.length:Int)≠0 by lia);have g2:=U0 k (show 0 < (ns.length:Int) by lia);have g3:(k % (ns.length:Int)).toNat < ns.length:=by lia
 rw[jde a<|by rw[L3];exact g2,List.getElem?_map];unfold jdV;rw[List.getD_eq_getElem?_getD,E4 g3];rfl
def jjG{k:Int}(d:0<=k)(h1:k<=1000000):0<=1103*k*k/\1103*k*k<=1103*1000000*1000000/\0<=k*k/\k*k<=1000000*1000000:=by
 have a:0<=k*k:=Int.mul_nonneg d d;have b:k*k<=1000000*1000000:=Int.mul_le_mul h1 h1 d<|Int.le_trans d h1;have c:1103*k*k=1103*(k*k):=Int.mul_assoc _ _ _;exact⟨by lia,by lia,a,b⟩
def ju{ns:List Int}{k many:Int}(b:0<=k)(h1:k<=1000000)(d:0 < many):je [.lst false<|ns.map D.int,.int k,.int many]=some (.int<|drw ns k many):=by
 have f:=jjG b h1;by_cases h:ns=[]
 ·subst h;have e:drw [] k many=(0 % 2147483647+7*k+3)*(48271+1103*k*k) % 2147483629 / 64 % many:=rfl;rw[e];simp(disch:=lia) [je,jH,JD,vg,Ve,Jw]
 ·have a:0 < ns.length:=List.length_pos_iff.mpr h;have c:(0:Int) < (ns.length:Int):=by lia
  have e:=jbE (ns:=ns) (k:=k) a;simp(disch:=lia) [je,jH,JD,vg,Ve,Jw,e,a,drw]
def coi(ns:List Int)(k:Int):Int:=if 0 < drw ns 900 3 then 1+drw ns k 9 else 1+(jdV ns k % 10 ^ 40+k*k+1)*48271 ^ 5 % 10 ^ 12
def KK(ns:List Int)(k:Int):1<=coi ns k:=by
 unfold coi;split
 ·have:=jY ns k (many:=9) (by decide);lia
 ·lia
def wk(ns:List Int)(k:Int):coi ns k<=10 ^ 12:=by
 unfold coi;split
 ·have:=ya ns k (many:=9) (by decide);lia
 ·lia
def Jy{ns:List Int}{k:Int}(g:0<=k)(h1:k<=1000000):jw [.lst false<|ns.map D.int,.int k]=some (.int<|coi ns k):=by
 have j:=jjG g h1;have a:=ju (ns:=ns) (k:=900) (many:=3) (by decide) (by decide) (by decide);have b:=ju (ns:=ns) (k:=k) (many:=9) g h1 (by decide);have p1:Vr (.int 10) (.int 40)=some (.int<|10 ^ 40):=rfl;have p2:Vr (.int 48271) (.int 5)=some (.int<|48271 ^ 5):=rfl;have p3:Vr (.int 10) (.int 12)=some (.int<|10 ^ 12):=rfl;have key:∀ c:Int,0<=c % 10 ^ 40/\c % 10 ^ 40 < 10 ^ 40:=λc=>⟨by lia,by lia⟩;by_cases h:ns=[]
 ·subst h;have e:coi [] k=if 0 < drw [] 900 3 then 1+drw [] k 9 else 1+(0 % 10 ^ 40+k*k+1)*48271 ^ 5 % 10 ^ 12:=rfl
  rw[e];simp only[List.map_nil] at a b;by_cases d:0 < drw [] 900 3
  ·simp(disch:=lia) [jw,jH,vq,a,b,d]
  ·simp(disch:=lia) [jw,jH,vq,vg,Ve,Jw,a,b,p1,p2,p3,d]
 ·have f:0 < ns.length:=List.length_pos_iff.mpr h;have i:(0:Int) < (ns.length:Int):=by lia
  have e:=jbE (ns:=ns) (k:=k) f;by_cases d:0 < drw ns 900 3
  ·simp(disch:=lia) [jw,jH,vq,vg,Ve,Jw,e,f,coi,a,b,d]
  ·simp(disch:=lia) [jw,jH,vq,vg,Ve,Jw,e,f,coi,a,b,p1,p2,p3,d]
noncomputable def letters:List Nat:=[98,99,100,102,103,106,107,109,110,112,113,118,119,120,121,122]
def ahd(ns:List Int):List Nat:=(List.replicate (drw ns 901 2).toNat [122,113]).flatten
def bhd(ns:List Int):List Nat:=[118,122,98].take (drw ns 902 4).toNat
def VY(ns:List Int)(i:Nat):List Nat:=ahd ns++[letters.getD ((drw ns 903 16+(0+(i:Int))) % 16).toNat 0]++bhd ns
def nmL(ns:List Int):List (List Nat):=(List.range 16).map (VY ns)
def jfn(ns:List Int):(ahd ns).length<=2/\∀ c∈ahd ns,c < 1114112:=by
 have a:=jY ns 901 (many:=2) (by decide);have b:=ya ns 901 (many:=2) (by decide);unfold ahd;have:drw ns 901 2=0 \/ drw ns 901 2=1:=by lia
 rcases this with e | e<;>rw[e]<;>decide
def je7(ns:List Int):(bhd ns).length<=3/\∀ c∈bhd ns,c < 1114112:=by
 unfold bhd;refine⟨by rw[E5];simp;lia,λc a=>?_⟩;have:=List.mem_of_mem_take a;simp only[M6,List.not_mem_nil,or_false] at this;rcases this with rfl | rfl | rfl<;>decide
def uH(i:Nat):letters.getD i 0 < 1114112:=jg0 (by decide) (by decide)
def jha(ns:List Int)(i:Nat):Wd (VY ns i)/\(VY ns i).length<=6:=by
 have a:=jfn ns;have b:=je7 ns;have e:(VY ns i).length<=6:=by
  unfold VY;simp only[N5,M4,List.length_nil]
  lia
 refine⟨⟨by lia,λc d=>?_⟩,e⟩;unfold VY at d;rcases N3.mp d with d | d
 ·rcases N3.mp d with d | d
  ·exact a.2 c d
  ·rw[M9.mp d];exact uH _
 ·exact b.2 c d
def xT:∀ i j:Fin 16,letters.getD i.val 0=letters.getD j.val 0->i=j:=by decide
def wE(hi:i < 16)(a:j < 16)(h:VY ns i=VY ns j):i=j:=by
 unfold VY at h;have h:=List.append_cancel_right h;have h:=List.append_cancel_left h;have b:=jY ns 903 (many:=16) (by decide);have c:=ya ns 903 (many:=16) (by decide);have q:letters.getD ((drw ns 903 16+(0+(i:Int))) % 16).toNat 0=letters.getD ((drw ns 903 16+(0+(j:Int))) % 16).toNat 0:=by injection h
 have:=xT ⟨((drw ns 903 16+(0+(i:Int))) % 16).toNat,by lia⟩ ⟨((drw ns 903 16+(0+(j:Int))) % 16).toNat,by lia⟩ q;have:=congrArg Fin.val this;simp only at this
 lia
def JR(ns:List Int):(nmL ns).length=16:=by simp[nmL]
def Qu(ns:List Int):(nmL ns).Nodup:=by
 unfold nmL;refine List.Pairwise.map _ (R:=λa b=>a∈List.range 16/\b∈List.range 16/\a≠b) ?_ ?_
 ·rintro a b ⟨c,d,e⟩ z;exact e<|wE (List.mem_range.mp c) (List.mem_range.mp d) z
 ·decide
def jaK(h:w∈nmL ns):Wd w/\w.length<=6:=by
 obtain⟨i,_,rfl⟩:=M7.mp h;exact jha ns i
def jdt(ns:List Int):kq [.lst false<|ns.map D.int]=↑((nmL ns).map D.str):=by
 have c:=ju (ns:=ns) (k:=901) (many:=2) (by decide) (by decide) (by decide);have d:=ju (ns:=ns) (k:=902) (many:=4) (by decide) (by decide) (by decide);have e:=ju (ns:=ns) (k:=903) (many:=16) (by decide) (by decide) (by decide);have f:=jY ns 901 (many:=2) (by decide);have p:=ya ns 901 (many:=2) (by decide);have g:=jY ns 902 (many:=4) (by decide);have c1:=jY ns 903 (many:=16) (by decide);have r:=ya ns 903 (many:=16) (by decide);have h:yb (.str [122,113]) (.int<|drw ns 901 2)=some (.str<|ahd ns):=jjN (by decide) f (by lia);have j:jc8 none (some<|drw ns 902 4) (.str [118,122,98])=some (.str<|bhd ns):=by
  rw[jnv<|by decide,Jg _ g];rfl
 have t:=jfn ns;have u:=je7 ns;have m:([98,99,100,102,103,106,107,109,110,112,113,118,119,120,121,122]:List Nat)=letters:=rfl;have b:jW (jc [] 0) qT (p2 jf (p2 jf (pV 1)<|p2 jd (pV 2)<|p2 Ji (p2 jf (pV 3)<|pV 0)<|pC<|.int 16)<|pV 4) (Vp 0 16)
   (jv [none,some 2,some 1,some 4,some 3] [‹ns.map D.int›,some<|.str letters,some<|.str<|ahd ns,some<|.str<|bhd ns,some<|.int<|drw ns 903 16])=some ((List.range 16).map λi=>D.str<|VY ns i):=by
  refine jy (l:=List.range 16) (en:=λi=>.int<|0+(i:Int)) rfl (λρ=>∃ o,ρ=[o,some<|.str<|ahd ns,some<|.str letters,some<|.int<|drw ns 903 16,some<|.str<|bhd ns]) ?_ ⟨none,rfl⟩;rintro x v ρ ⟨o,rfl⟩;refine⟨_,rfl,?_,_,rfl⟩;have q:=jnB (s:=letters) (i:=(drw ns 903 16+(0+(x:Int))) % 16) (by decide) (by lia) (by have:letters.length=16:=rfl;lia);simp(disch:=first | lia | (simp;done) | (simp;lia)) [Ve,q,jfL,VY,-Int.zero_add,-List.getD_eq_getElem?_getD]
 have n:jbo [.int 16]=some (Vp 0 16):=qp (by decide) (by decide);have a:lim (Vp 0 16).length=true:=jb (by rw[yQ];decide);have e7:((List.range 16).map λi=>D.str<|VY ns i)=(nmL ns).map D.str:=by unfold nmL;rw[U2];rfl
 rw[e7] at b;unfold kq;rw[jH];unfold Y7;rw[m];simp[c,d,e,h,j,n,a,b]
def jhm{ns:List Int}{k:Int}{C:W1}(q:0<=k)(h1:k<=100000)(r:C.length<=10)(p:C.Nodup):∃ S:List (List Nat),vW [.lst false<|ns.map D.int,.int k,.lst false<|C.map D.str]=↑(S.map D.str)/\(∀ w∈S,w∈C)/\S.Nodup/\S.length<=10:=by
 obtain⟨t,T,e,⟨g,j,rfl⟩,b⟩:=KZ (G:=gT 2<|gC (jc [] 4)<|gC (jc [] 5) gN) (f:=vK) (λ(a:W1) ρ=>∃ g j,ρ=[‹ns.map D.int›,some<|.int k,‹C.map D.str›,↑(a.map D.str),g,j]) 20 (C:=C) (s:=0) (acc:=[]) (ρ:=[‹ns.map D.int›,some<|.int k,‹C.map D.str›,some<|.lst true [],none,none]) (by
  rintro i c a ρ hi u v ⟨g,j,rfl⟩;have m:=ju (ns:=ns) (k:=k+(i:Int)) (many:=3) (by lia) (by lia) (by decide);by_cases d:0 < drw ns (k+(i:Int)) 3
  ·refine⟨_,_,rfl,?_,.inl ⟨some<|.int i,some<|.str c,rfl⟩⟩;simp(disch:=first | lia | (simp;done) | (simp;lia)) [vK,m,d,jb]
  ·refine⟨_,_,rfl,?_,.inr ⟨some<|.int i,some<|.str c,rfl⟩⟩;simp(disch:=first | lia | (simp;done) | (simp;lia)) [vK,m,d,jb]) (by lia) (by simp;lia) ⟨none,none,rfl⟩
 rw[E3] at e;have n:=ju (ns:=ns) (k:=k+9) (many:=2) (by lia) (by lia) (by decide);have o:T.Nodup:=p.sublist b;by_cases d:drw ns (k+9) 2=1
 ·refine⟨T.reverse,?_,λw l=>b.subset<|List.mem_reverse.mp l,(List.pairwise_reverse.mpr<|o.imp λh=>Ne.symm h),by have:=b.length_le;rw[List.length_reverse];lia⟩;rw[List.map_reverse];simp(disch:=first | lia | (simp;done) | (simp;lia)) [vW,jH,JH,e,n,d,jb]
 ·refine⟨T,?_,λw l=>b.subset l,o,by have:=b.length_le;lia⟩;simp(disch:=first | lia | (simp;done) | (simp;lia)) [vW,jH,JH,e,n,d,jb]
noncomputable abbrev j8:List Nat:=[115,104,97,114,101]
noncomputable abbrev yA:List Nat:=[114,101,112,97,121]
noncomputable abbrev jaB:List Nat:=[112,97,121]
noncomputable abbrev kJ:List Nat:=[102,105,108,108]
noncomputable abbrev vR:List Nat:=[108,101,110,100]
noncomputable abbrev qF:List Nat:=[98,97,99,107]
noncomputable abbrev kr:List Nat:=[114,101,115,116]
def jcN(C P O:W1)(kw w:List Nat):Prop:=((kw=jaB \/ kw=yA \/ kw=kr)/\w∈C) \/ (kw=kJ/\w∈P) \/ (kw=qF/\w∈O)
inductive RuleS (C P O:W1):D->Prop where
 | two (kw w:List Nat) (hk:kw≠j8) (h1:Wd kw) (h2:Wd w) (hm:jcN C P O kw w):RuleS C P O (.tup [.str kw,.str w])
 | share (ws:W1) (hl:ws.length<=20) (h:∀ w∈ws,Wd w) (hm:∀ w∈ws,w∈C) (nd:ws.Nodup):RuleS C P O (.tup [.str j8,.tup (ws.map D.str)])
 | lend (w:List Nat) (i:Int) (h:Wd w) (hm:w∈O):RuleS C P O (.tup [.str [108,101,110,100],.str w,.int i])
def RuleS.fz(h:RuleS C P O d):QD.fz d=d:=by cases h<;>simp
def RuleS.frz(h:RuleS C P O d):QD.frz d=true:=by cases h<;>simp
def xX(h:RuleS C P O d):QD.clean d=true:=by cases h<;>simp
def qf(h:w.all (λc=>decide<|c < 200)=true)(a:w.length<=30):Wd w:=⟨a,λc b=>by
 have:=E1<|List.all_eq_true.mp h c b;lia⟩
def jcY(h:C.Nodup):(j9 C (some<|-1) none++j9 C none (some<|-1)).Nodup:=by
 unfold j9;have e:HT.sIx C.length C.length (some<|-1)=HT.sIx C.length 0 (some<|-1):=rfl;rw[e,HT.sIx_none,HT.sIx_none];generalize HT.sIx C.length 0 (some<|-1)=m;have a:(C.drop m).take (C.length - m)=C.drop m:=List.take_of_length_le (by rw[List.length_drop];lia);rw[a,Nat.sub_zero,List.drop_zero];have p:(C.drop m++C.take m).Perm C:=List.perm_append_comm.trans (by rw[List.take_append_drop]);exact p.nodup_iff.mpr h
def sqE(h:f ρ=some (.nx ρ')):ji f g ρ=g ρ':=sq h rfl
def jfU{ns:List Int}{k:Int}{C P O:W1}(J:0<=k)(h1:k<=100000)(Y:0 < C.length)(K:C.length<=10)(L:P.length<=10)(M:O.length<=10)(q:∀ w∈C,Wd w)(N:∀ w∈P,Wd w)(Q:∀ w∈O,Wd w)(A:C.Nodup) :
  ∃ d,JM [.lst false<|ns.map D.int,.int k,.lst false<|C.map D.str,.lst false<|P.map D.str,.lst false<|O.map D.str]=some d/\RuleS C P O d:=by
 have B:=ju (ns:=ns) (k:=k) (many:=9) J (by lia) (by decide);have R:=ju (ns:=ns) (k:=k+1) (many:=(C.length:Int)) (by lia) (by lia) (by lia);have S:=jY ns (k+1) (many:=(C.length:Int)) (by lia);have T:=ya ns (k+1) (many:=(C.length:Int)) (by lia);have E:=kf (o:=false) (l:=C) S T;have e:=yn (l:=C) (i:=(drw ns (k+1) (C.length:Int)).toNat) (d:=[]) (by lia);have t:Wd (C.getD (drw ns (k+1) (C.length:Int)).toNat []):=q _ e;generalize C.getD (drw ns (k+1) (C.length:Int)).toNat []=w at E t e;have U:=jY ns k (many:=9) (by decide);have V:=ya ns k (many:=9) (by decide);generalize drw ns k 9=kd at B U V;have s1:=ky false C none<|some 2;have s2:=ky false C (some<|-1) none;have W:=ky false C none<|some<|-1;have X:=ux (o:=true) (o':=true) (a:=j9 C (some<|-1) none) (b:=j9 C none<|some<|-1) (by have:=yO C (some<|-1) none;have:=yO C none<|some<|-1;lia);have f:RuleS C P O (.tup [.str [112,97,121],.str w]):=.two _ _ (by decide) (qf rfl<|by decide) t<|.inl ⟨.inl rfl,e⟩;have e2:JI [‹ns.map D.int›,some<|.int k,‹C.map D.str›,‹P.map D.str›,‹O.map D.str›,none,none,none]=_:=(sqE (ρ':=[‹ns.map D.int›,some<|.int k,‹C.map D.str›,‹P.map D.str›,‹O.map D.str›,some<|.int kd,none,none])<|by simp[B]).trans (sqE (ρ':=[‹ns.map D.int›,some<|.int k,‹C.map D.str›,‹P.map D.str›,‹O.map D.str›,some<|.int kd,some<|.str w,none])<|by simp[R,E]);show ∃ d,(JI [‹ns.map D.int›,some<|.int k,‹C.map D.str›,‹P.map D.str›,‹O.map D.str›,none,none,none]).bind Out.val=some d/\_;rw[e2];by_cases c:kd < 3
 ·exact⟨_,by simp(disch:=lia) [c,jb],f⟩
 by_cases g:kd=3
 ·by_cases Z:1 < C.length
  ·have j:(1:Int) < (C.length:Int):=by lia
   have F:=ju (ns:=ns) (k:=k+2) (many:=2) (by lia) (by lia) (by decide);by_cases G:drw ns (k+2) 2=0
   ·refine⟨.tup [.str j8,.tup<|(j9 C none<|some 2).map D.str],?_,.share _ (by have:=yO C none<|some 2;lia) (λw h=>q w<|jZ h) (λw h=>jZ h)<|vY A⟩;simp(disch:=lia) [F,c,g,j,G,s1,jb]
   ·refine⟨.tup [.str j8,.tup<|(j9 C (some<|-1) none++j9 C none (some<|-1)).map D.str],?_,.share _ ?_ (λw h=>(N3.mp h).elim (λz=>q w<|jZ z) (λz=>q w<|jZ z)) (λw h=>(N3.mp h).elim jZ jZ)<|jcY A⟩
    ·simp(disch:=lia) [F,c,g,j,G,s2,W,X,jb,-List.map_append]
    ·have:=yO C (some<|-1) none;have:=yO C none<|some<|-1;rw[N5];lia
  ·have j:¬ (1:Int) < (C.length:Int):=by lia
   refine⟨_,?_,f⟩;simp(disch:=lia) [c,g,j,jb]
 by_cases m:kd=4
 ·refine⟨.tup [.str yA,.str w],?_,.two _ _ (by decide) (qf rfl<|by decide) t<|.inl ⟨.inr<|.inl rfl,e⟩⟩;simp(disch:=lia) [c,g,m,jb]
 by_cases n:kd=5
 ·by_cases H:0 < P.length
  ·have r:=ju (ns:=ns) (k:=k+2) (many:=(P.length:Int)) (by lia) (by lia) (by lia);have u:=jY ns (k+2) (many:=(P.length:Int)) (by lia);have v:=ya ns (k+2) (many:=(P.length:Int)) (by lia);have s:=kf (o:=false) (l:=P) u v;refine⟨.tup [.str [102,105,108,108],.str<|P.getD (drw ns (k+2) (P.length:Int)).toNat []],?_,.two _ _ (by decide) (qf rfl<|by decide) (N _<|yn<|by lia)<|.inr<|.inl ⟨rfl,yn<|by lia⟩⟩;simp(disch:=lia) [r,s,c,g,m,n,H,jb,-List.getD_eq_getElem?_getD]
  ·refine⟨_,?_,f⟩;simp(disch:=lia) [c,g,m,n,H,jb]
 have x:5 < kd:=by lia
 by_cases y:0 < O.length
 ·have r:=ju (ns:=ns) (k:=k+2) (many:=(O.length:Int)) (by lia) (by lia) (by lia);have u:=jY ns (k+2) (many:=(O.length:Int)) (by lia);have v:=ya ns (k+2) (many:=(O.length:Int)) (by lia);have s:=kf (o:=false) (l:=O) u v;have p:Wd (O.getD (drw ns (k+2) (O.length:Int)).toNat []):=Q _<|yn (by lia);have c1:=Jy (ns:=ns) (k:=k+3) (by lia) (by lia);by_cases I:kd=8
  ·refine⟨.tup [.str [98,97,99,107],.str<|O.getD (drw ns (k+2) (O.length:Int)).toNat []],?_,.two _ _ (by decide) (qf rfl<|by decide) p<|.inr<|.inr ⟨rfl,yn<|by lia⟩⟩;simp(disch:=lia) [r,s,c,g,m,n,x,I,y,jb,-List.getD_eq_getElem?_getD]
  ·refine⟨.tup [.str [108,101,110,100],.str<|O.getD (drw ns (k+2) (O.length:Int)).toNat [],.int<|coi ns<|k+3],?_,.lend _ _ p<|yn<|by lia⟩;simp(disch:=lia) [r,s,c,g,m,n,x,I,y,c1,jb,-List.getD_eq_getElem?_getD]
 ·refine⟨_,?_,f⟩;simp(disch:=lia) [c,g,m,n,x,y,jb]
noncomputable abbrev W2:=List Nat×Int
noncomputable def e2(p:W2):D:=.tup [.str p.1,.int p.2]
def kH(l:List W2):fzs (l.map e2)=l.map e2:=yw λd hd=>by
 obtain⟨p,_,rfl⟩:=M7.mp hd;rfl
def jU(l:List W2):frzs (l.map e2)=true:=jK λd hd=>by
 obtain⟨p,_,rfl⟩:=M7.mp hd;rfl
def jgP{l:List W2}(h:∀ p∈l,Wd p.1)(n:Nat):JX (n+1) (l.map e2)=true:=jgX λd hd=>by
 obtain⟨p,a,rfl⟩:=M7.mp hd;show JX n [.str p.1,.int p.2]=true;simp[JX,jhj (h p a).2]
structure OrdS where
 nm:List Nat
 parts:List W2
 rules:List D
def vm(o:Bool)(x:OrdS):D:=.tup [.str x.nm,.lst false<|x.parts.map e2,.lst o x.rules]
structure OrdOk(C P O:W1)(x:OrdS):Prop where
 nm:Wd x.nm
 parts:∀ p∈x.parts,Wd p.1/\1<=p.2/\p.2<=10
 plen:x.parts.length<=10
 rules:∀ d∈x.rules,RuleS C P O d
 len:x.rules.length<=10
 rest:∃ w,D.tup [.str kr,.str w]∈x.rules
def OrdOk.fzr(h:OrdOk C P O x):fzs x.rules=x.rules:=yw λd hd=>(h.rules d hd).fz
def OrdOk.frzr(h:OrdOk C P O x):frzs x.rules=true:=jK λd hd=>(h.rules d hd).frz
def OrdOk.fz(h:OrdOk C P O x)(o:Bool):QD.fz (vm o x)=vm false x:=by
 simp[vm,h.fzr,kH]
def OrdOk.frz(h:OrdOk C P O x):QD.frz (vm false x)=true:=by
 simp[vm,h.frzr,jU]
def jeT{ns:List Int}{k:Int}{nm:List Nat}{C P O:W1}(h0:0<=k)(h1:k<=90000)(J:0 < C.length)(m:C.length<=10)(n:P.length<=10)(q:O.length<=10)(K:Wd nm)(r:∀ w∈C,Wd w)(L:∀ w∈P,Wd w)(M:∀ w∈O,Wd w)(N:C.Nodup) :
  ∃ x:OrdS,km [.lst false<|ns.map D.int,.int k,.str nm,.lst false<|C.map D.str,.lst false<|P.map D.str,.lst false<|O.map D.str]=some (vm true x)/\x.nm=nm/\OrdOk C P O x:=by
 obtain⟨Q,T,e,⟨g,h,rfl⟩,s,R⟩:=vz (G:=gT 2<|gC (jc [] 7)<|gC (jc [] 8) gN) (f:=vj) (λ(a:List W2) ρ=>∃ g h,ρ=[‹ns.map D.int›,some<|.int k,some<|.str nm,‹C.map D.str›,‹P.map D.str›,‹O.map D.str›,↑(a.map e2),g,h,none,none]) (λp=>Wd p.1/\1<=p.2/\p.2<=10) 1 100 (xs:=jJ 0<|C.map D.str) (acc:=[]) (ρ:=[‹ns.map D.int›,some<|.int k,some<|.str nm,‹C.map D.str›,‹P.map D.str›,‹O.map D.str›,some<|.lst true [],none,none,none,none]) (by
  rintro x t a ρ S _ ⟨g,h,rfl⟩;obtain⟨i,c,rfl,V,W,X⟩:=Ql t;have A:=ju (ns:=ns) (k:=k+(i:Int)) (many:=4) (by lia) (by lia) (by decide);have u:=ju (ns:=ns) (k:=k+5+(i:Int)) (many:=10) (by lia) (by lia) (by decide);by_cases B:drw ns (k+(i:Int)) 4=0
  ·refine⟨_,_,[(c,1+drw ns (k+5+(i:Int)) 10)],rfl,?_,by simp,by simpa using⟨r c X,by have:=jY ns (k+5+(i:Int)) (many:=10) (by decide);lia,by have:=ya ns (k+5+(i:Int)) (many:=10) (by decide);lia⟩,some<|.int i,some<|.str c,rfl⟩;simp(disch:=first | lia | (simp;done) | (simp;lia)) [vj,A,u,B,jb,e2]
  ·refine⟨_,_,[],rfl,?_,by simp,by simp,some<|.int i,some<|.str c,rfl⟩;simp(disch:=first | lia | (simp;done) | (simp;lia)) [vj,A,B,jb]) (by rw[yC,L3];simp;lia) (by simp) ⟨none,none,rfl⟩
 rw[E3] at e;have Y:=ju (ns:=ns) (k:=k+8) (many:=6) (by lia) (by lia) (by decide);have n1:=jY ns (k+8) (many:=6) (by decide);have n2:=ya ns (k+8) (many:=6) (by decide);obtain⟨Q,U,E,⟨v,rfl⟩,y,F⟩:=vz (G:=jc [] 7) (f:=kz) (λ(a:List D) ρ=>∃ v,ρ=[‹ns.map D.int›,some<|.int k,some<|.str nm,‹C.map D.str›,‹P.map D.str›,‹O.map D.str›,↑(T.map e2),v,h,↑a,none]) (RuleS C P O) 1 100 (xs:=Vp 0 (drw ns (k+8) 6).toNat) (acc:=[]) (ρ:=[‹ns.map D.int›,some<|.int k,some<|.str nm,‹C.map D.str›,‹P.map D.str›,‹O.map D.str›,↑(T.map e2),g,h,some<|.lst true [],none]) (by
  rintro x t a ρ S _ ⟨v,rfl⟩;obtain⟨i,hi,rfl⟩:=M7.mp t;have hi:=List.mem_range.mp hi;obtain⟨d,Z,hd⟩:=jfU (ns:=ns) (k:=k+10+5*(0+(i:Int))) (C:=C) (P:=P) (O:=O) (by lia) (by lia) J m n q r L M N;refine⟨_,_,[d],rfl,?_,by simp,by simpa using hd,some<|.int<|0+(i:Int),rfl⟩;simp(disch:=first | lia | (simp;done) | (simp;lia)) [kz,Z,vg,xX hd,jb,-Int.zero_add]) (by rw[yQ];simp;lia) (by simp) ⟨g,rfl⟩
 rw[E3] at E;rw[yQ] at y;have z:=qp (j:=drw ns (k+8) 6) (by lia) (by lia);have u:=ju (ns:=ns) (k:=k+9) (many:=(C.length:Int)) (by lia) (by lia) (by lia);have b1:=jY ns (k+9) (many:=(C.length:Int)) (by lia);have b2:=ya ns (k+9) (many:=(C.length:Int)) (by lia);have H:=kf (o:=false) (l:=C) b1 b2;have b:=yn (l:=C) (i:=(drw ns (k+9) (C.length:Int)).toNat) (d:=[]) (by lia);have I:Wd (C.getD (drw ns (k+9) (C.length:Int)).toNat []):=r _ b;generalize C.getD (drw ns (k+9) (C.length:Int)).toNat []=w at H I b;have hf:frzs U=true:=jK λd hd=>(F d hd).frz;have ad:jf (.lst true U) (.lst true [.tup [.str [114,101,115,116],.str w]])=↑(U++[.tup [.str [114,101,115,116],.str w]]):=by
  show(bif lim (U.length+1)&&(frzs U&&frzs [.tup [.str [114,101,115,116],.str w]]) then _ else _)=_;rw[jb<|by lia,hf];rfl
 refine⟨⟨nm,T,U++[.tup [.str [114,101,115,116],.str w]]⟩,?_,rfl,⟨K,R,by rw[yC,L3] at s;show T.length<=10;lia,?_,by simp;lia,w,by simp⟩⟩
 ·simp(disch:=first | lia | (simp;done) | (simp;lia)) [km,jH,Yr,e,Y,z,E,u,H,ad,jb,vm,kH,jU]
 ·intro d hd;rcases N3.mp hd with hd | hd
  ·exact F d hd
  ·rw[M9.mp hd];exact .two _ _ (by decide) (qf rfl<|by decide) I<|.inl ⟨.inr<|.inr rfl,b⟩
section
variable {C P O:W1}
def jhT{a0 a1 o3 o4 o5:Option D}:∀{R:List D}{acc:W1}{o6:Option D},(∀ d∈R,RuleS C P O d)->acc.length+20*R.length<=5000 ->
  ∃(T:W1) (o6':Option D),jL (jc [] 6) yc R [a0,a1,↑(acc.map D.str),o3,o4,o5,o6]=some (.nx [a0,a1,↑((acc++T).map D.str),o3,o4,o5,o6'])/\T.length<=20*R.length:=by
 intro R acc o6 n k;obtain⟨y,T,e,⟨o6',rfl⟩,p,_⟩:=vz (G:=jc [] 6) (f:=yc) (λ(acc:W1) ρ=>∃ o6,ρ=[a0,a1,↑(acc.map D.str),o3,o4,o5,o6]) (λ_=>True) 20 5000 (xs:=R) (acc:=acc) (ρ:=[a0,a1,↑(acc.map D.str),o3,o4,o5,o6]) (by
  rintro x r acc ρ z _ ⟨o6,rfl⟩;have s:=n x r;cases s with
  | two kw w t A B m =>
   have g:(kw==j8)=false:=U3.mpr t;have c:jd (.tup [.str kw,.str w]) (.int 0)=some (.str kw):=rfl;have j:jd (.tup [.str kw,.str w]) (.int 1)=some (.str w):=rfl;by_cases q:kw=yA
   ·subst q;refine⟨_,_,[w],rfl,?_,by simp,by simp,some<|.tup [.str yA,.str w],rfl⟩;simp(disch:=first | lia | (simp;done) | (simp;lia)) [yc,c,j,g,jb]
   ·have l:(kw==yA)=false:=U3.mpr q;refine⟨_,_,[],rfl,?_,by simp,by simp,some<|.tup [.str kw,.str w],rfl⟩;simp(disch:=first | lia | (simp;done) | (simp;lia)) [yc,c,j,g,l,jb]
  | share ws k h m nd =>
   have c:jd (.tup [.str j8,.tup<|ws.map D.str]) (.int 0)=some (.str j8):=rfl;have j:jd (.tup [.str j8,.tup<|ws.map D.str]) (.int 1)=some (.tup<|ws.map D.str):=rfl;have u:J9 [.tup<|ws.map D.str]=↑(ws.map D.str):=by
    show(bif frzs (ws.map D.str) then _ else _)=_;rw[yS];rfl
   have v:=ux (o:=true) (o':=true) (a:=acc) (b:=ws) (by lia);have l:(j8==yA)=false:=by decide
   refine⟨_,_,ws,rfl,?_,k,by simp,some<|.tup [.str j8,.tup<|ws.map D.str],rfl⟩;simp(disch:=first | lia | (simp;done) | (simp;lia)) [yc,c,j,u,v,l,jb,-List.map_append]
  | lend w i h m =>
   have c:jd (.tup [.str [108,101,110,100],.str w,.int i]) (.int 0)=some (.str [108,101,110,100]):=rfl;refine⟨_,_,[],rfl,?_,by simp,by simp,some<|.tup [.str [108,101,110,100],.str w,.int i],rfl⟩;simp(disch:=first | lia | (simp;done) | (simp;lia)) [yc,c,jb]) k (by simp) ⟨o6,rfl⟩
 exact⟨T,o6',e,p⟩
def Yh{os:List OrdS}(h:∀ x∈os,OrdOk C P O x)(o:Bool):fzs (os.map<|vm o)=os.map (vm false):=by
 rw[vU,U2];exact List.map_congr_left λx a=>(h x a).fz o
def Jf{os:List OrdS}(h:∀ x∈os,OrdOk C P O x):frzs (os.map<|vm false)=true:=jK λd hd=>by
 obtain⟨x,a,rfl⟩:=M7.mp hd;exact(h x a).frz
def jhO{os:List OrdS}(j:∀ x∈os,OrdOk C P O x)(u:os.length<=10)(q:C.length<=10):∃ F:List (List Nat),qv [.lst false<|os.map<|vm false,.lst false<|C.map D.str]=↑(F.map D.str)/\(∀ w∈F,w∈C)/\F.length<=10:=by
 obtain⟨v,T,e,⟨d,g,h,b,rfl⟩,z,_⟩:=vz (G:=gT 3<|gC (jc [] 3)<|gC (jc [] 4)<|gC (jc [] 5) gN) (f:=vF) (λ(a:W1) ρ=>∃ d g h b,ρ=[‹os.map (vm false)›,‹C.map D.str›,↑(a.map D.str),d,g,h,b]) (λ_=>True) 200 4000 (xs:=os.map<|vm false) (acc:=[]) (ρ:=[‹os.map (vm false)›,‹C.map D.str›,some<|.lst true [],none,none,none,none]) (by
  rintro x m a ρ A _ ⟨d,g,h,b,rfl⟩;obtain⟨y,r,rfl⟩:=M7.mp m;have i:=j y r;have n:=i.len;obtain⟨U,k,s,B⟩:=jhT (a0:=‹os.map (vm false)›) (a1:=‹C.map D.str›) (o3:=some<|.str y.nm) (o4:=‹y.parts.map e2›) (o5:=‹y.rules›) (R:=y.rules) (acc:=a) (o6:=b) i.rules (by lia);refine⟨_,_,U,rfl,?_,by lia,by simp,some<|.str y.nm,‹y.parts.map e2›,‹y.rules›,k,rfl⟩;show vF [‹os.map (vm false)›,‹C.map D.str›,↑(a.map D.str),some<|.str y.nm,‹y.parts.map e2›,‹y.rules›,b]=_;simp only[vF,kK,pIt,pF,pVs,pV0,L5,jhE,i.frzr,Bool.not_false,Bool.and_self,cond_true,xA,i.fzr,s]) (by rw[L3];simp;lia) (by simp) ⟨none,none,none,none,rfl⟩
 rw[E3] at e;have p:jW (jc [] 0) (jl<|p2 (zI true) (pV 0)<|pV 1) (pF<|pV 0) (C.map D.str) (jv [none,some 2] [‹os.map (vm false)›,‹C.map D.str›,↑(T.map D.str),d,g,h,b])=some ((C.filter λc=>(true != decide (c∈T))).map D.str):=by
  refine JQ (λρ=>∃ o,ρ=[o,↑(T.map D.str)]) ?_ ⟨none,rfl⟩;rintro x m ρ ⟨o,rfl⟩;refine⟨[some<|.str x,↑(T.map D.str)],rfl,?_,by simp,some<|.str x,rfl⟩;have:=jcv true true x T;simp only[jl,p2,pV0,pVs,L5,this,jc0]
 refine⟨C.filter λc=>(true != decide (c∈T)),?_,λw t=>(List.mem_filter.mp t).1,N8 (List.length_filter_le _ _) q⟩;have l:lim C.length=true:=jb (by lia);generalize(C.filter λc=>(true != decide (c∈T)))=F at p;simp(disch:=first | lia | (simp;done) | (simp;lia)) [qv,jH,VM,Jf j,Yh j,e,jb,p,l,-jl]
end
noncomputable abbrev W3:=List Nat×Int×Int
noncomputable def e3(p:W3):D:=.tup [.str p.1,.int p.2.1,.int p.2.2]
noncomputable abbrev WL:=List Nat×Int×List Nat
noncomputable def eL(p:WL):D:=.tup [.str p.1,.int p.2.1,.str p.2.2]
noncomputable abbrev WG:=List Nat×List Nat
noncomputable def eG(p:WG):D:=.tup [.str p.1,.str p.2]
def ja3(l:List W3):fzs (l.map e3)=l.map e3:=yw λd hd=>by obtain⟨p,_,rfl⟩:=M7.mp hd;rfl
def Vd(l:List W3):frzs (l.map e3)=true:=jK λd hd=>by obtain⟨p,_,rfl⟩:=M7.mp hd;rfl
def uD(l:List WL):fzs (l.map eL)=l.map eL:=yw λd hd=>by obtain⟨p,_,rfl⟩:=M7.mp hd;rfl
def YM(l:List WL):frzs (l.map eL)=true:=jK λd hd=>by obtain⟨p,_,rfl⟩:=M7.mp hd;rfl
def jaZ(l:List WG):fzs (l.map eG)=l.map eG:=yw λd hd=>by obtain⟨p,_,rfl⟩:=M7.mp hd;rfl
def V8(l:List WG):frzs (l.map eG)=true:=jK λd hd=>by obtain⟨p,_,rfl⟩:=M7.mp hd;rfl
structure PoolS where
 nm:List Nat
 told:List W3
 marks:List W2
 eats:List (List Nat)
 orders:List OrdS
 looks:List WL
 guards:List WG
def jt(o:Bool)(p:PoolS):D:=.tup [.str p.nm,.lst false<|p.told.map e3,.lst false<|p.marks.map e2,.lst o<|p.eats.map D.str,.lst false<|p.orders.map<|vm false,.lst false<|p.looks.map eL,.lst false<|p.guards.map eG]
structure PoolOk(O:W1)(p:PoolS):Prop where
 nm:Wd p.nm
 told:∀ c∈p.told,Wd c.1/\1<=c.2.1/\c.2.1<=10 ^ 12/\1<=c.2.2/\c.2.2<=10 ^ 12
 toldn:(p.told.map (·.1)).Nodup
 told1:0 < p.told.length
 told2:p.told.length<=10
 marks:∀ c∈p.marks,Wd c.1/\1<=c.2/\c.2<=10 ^ 12
 marksn:(p.marks.map (·.1)).Nodup
 marks2:p.marks.length<=10
 eats:∀ w∈p.eats,Wd w
 eatsm:∀ w∈p.eats,w∈p.told.map (·.1)
 eatsn:p.eats.Nodup
 eats2:p.eats.length<=10
 orders:∀ x∈p.orders,OrdOk (p.told.map (·.1)) (p.marks.map (·.1)) O x
 ordn:(p.orders.map (·.nm)).Nodup
 orders1:0 < p.orders.length
 orders2:p.orders.length<=10
 looks:∀ x∈p.looks,x.1∈p.told.map (·.1)/\Wd x.1/\Wd x.2.2
 looksm:∀ x∈p.looks,x.2.2∈p.orders.map (·.nm)
 looks2:p.looks.length<=10
 guards:∀ x∈p.guards,Wd x.1/\Wd x.2/\x.1∈p.marks.map (·.1)/\x.2∈p.told.map (·.1)
 guards2:p.guards.length<=10
section
variable {O:W1}
def PoolOk.fz{p:PoolS}(h:PoolOk O p)(o:Bool):QD.fz (jt o p)=jt false p:=by
 simp[jt,ja3,kH,Yh h.orders,uD,jaZ]
def PoolOk.frz{p:PoolS}(h:PoolOk O p):QD.frz (jt false p)=true:=by
 simp[jt,Vd,jU,Jf h.orders,YM,V8]
end
section pool
variable {ns:List Int}{k:Int}{nm:List Nat}{C P O:W1}
noncomputable abbrev hdr(ns:List Int)(k:Int)(nm:List Nat)(C P O:W1)(r:Rh):Rh:=‹ns.map D.int›::some (.int k)::some (.str nm)::‹C.map D.str›::‹P.map D.str›::‹O.map D.str›::r
def jb0(m:0<=k)(h1:k<=1000)(b:C.length<=10)(d:∀ w∈C,Wd w):∃(T:List W3) (o7 o8:Option D),jL (gT 2<|gC (jc [] 7)<|gC (jc [] 8) gN) vH (jJ 0<|C.map D.str) (hdr ns k nm C P O [some<|.lst true [],none,none,none,none,none,none,none,none,none,none])=some (.nx<|hdr ns k nm C P O [↑(T.map e3),o7,o8,none,none,none,none,none,none,none,none]) /\
  T.map (·.1)=C/\∀ c∈T,Wd c.1/\1<=c.2.1/\c.2.1<=10 ^ 12/\1<=c.2.2/\c.2.2<=10 ^ 12:=by
 obtain⟨n,T,e,⟨o7,o8,rfl⟩,g,h⟩:=ui (G:=gT 2<|gC (jc [] 7)<|gC (jc [] 8) gN) (f:=vH) (λ(a:List W3) ρ=>∃ o7 o8,ρ=hdr ns k nm C P O [↑(a.map e3),o7,o8,none,none,none,none,none,none,none,none]) (λc=>Wd c.1/\1<=c.2.1/\c.2.1<=10 ^ 12/\1<=c.2.2/\c.2.2<=10 ^ 12) (·.1) 20 (C:=C) (s:=0) (acc:=[]) (ρ:=hdr ns k nm C P O [some<|.lst true [],none,none,none,none,none,none,none,none,none,none]) (by
  rintro i c a ρ hi j o ⟨o7,o8,rfl⟩;have c1:=Jy (ns:=ns) (k:=k+20+(i:Int)) (by lia) (by lia);have l:=Jy (ns:=ns) (k:=k+24+(i:Int)) (by lia) (by lia);refine⟨_,_,(c,coi ns<|k+20+(i:Int),coi ns<|k+24+(i:Int)),rfl,?_,rfl,⟨d c j,KK _ _,wk _ _,KK _ _,wk _ _⟩,some<|.int i,some<|.str c,rfl⟩;simp(disch:=first | lia | (simp;done) | (simp;lia)) [vH,c1,l,jb,e3]) (by lia) (by simp;lia) ⟨none,none,rfl⟩
 exact⟨T,o7,o8,e,g,h⟩
def jc3{a6 o7 o8:Option D}{N:W1}(v:0<=k)(h1:k<=1000)(j:0 < C.length)(b:C.length<=10)(d:P.length<=10)(g:O.length<=10)(l:∀ w∈C,Wd w)(m:∀ w∈P,Wd w)(n:∀ w∈O,Wd w)(y:N.length<=10)(o:∀ w∈N,Wd w)(p:C.Nodup) :
  ∃(T:List OrdS) (o7' o11:Option D),jL (gT 2<|gC (jc [] 7)<|gC (jc [] 11) gN) vI (jJ 0<|N.map D.str) (hdr ns k nm C P O [a6,o7,o8,‹N.map D.str›,some<|.lst true [],none,none,none,none,none,none])=some (.nx<|hdr ns k nm C P O [a6,o7',o8,‹N.map D.str›,↑(T.map<|vm true),o11,none,none,none,none,none]) /\
  T.map (·.nm)=N/\∀ c∈T,OrdOk C P O c:=by
 obtain⟨z,T,e,⟨o7,o8,rfl⟩,q,r⟩:=ui (G:=gT 2<|gC (jc [] 7)<|gC (jc [] 11) gN) (f:=vI) (λ(a:List OrdS) ρ=>∃ o7 o11,ρ=hdr ns k nm C P O [a6,o7,o8,‹N.map D.str›,↑(a.map<|vm true),o11,none,none,none,none,none]) (OrdOk C P O) (·.nm) 20 (C:=N) (s:=0) (acc:=[]) (ρ:=hdr ns k nm C P O [a6,o7,o8,‹N.map D.str›,some<|.lst true [],none,none,none,none,none,none]) (by
  rintro i c a ρ hi t A ⟨o7,o11,rfl⟩;obtain⟨x,ex,u,h⟩:=jeT (ns:=ns) (k:=k+60*(i:Int)+30) (nm:=c) (C:=C) (P:=P) (O:=O) (by lia) (by lia) j b d g (o c t) l m n p;refine⟨_,_,x,rfl,?_,u,h,some<|.int i,some<|.str c,rfl⟩;simp(disch:=first | lia | (simp;done) | (simp;lia)) [vI,ex,vg,jb]) (by lia) (by simp;lia) ⟨o7,none,rfl⟩
 exact⟨T,o7,o8,e,q,r⟩
def uS{a6 o7 o8 a10 o11:Option D}{N:W1}(F:0<=k)(h1:k<=1000)(H:0 < C.length)(j:C.length<=10)(m:∀ w∈C,Wd w)(I:0 < N.length)(n:N.length<=10)(p:∀ w∈N,Wd w) :
  ∃(T:List WL) (o7' o8' o13:Option D),jL (jc [] 7) vP (Vp 0 (drw ns (k+2) 3).toNat) (hdr ns k nm C P O [a6,o7,o8,‹N.map D.str›,a10,o11,some<|.lst true [],none,none,none,none])=some (.nx<|hdr ns k nm C P O [a6,o7',o8',‹N.map D.str›,a10,o11,↑(T.map eL),o13,none,none,none]) /\
  (∀ x∈T,x.1∈C/\Wd x.1/\Wd x.2.2/\x.2.2∈N)/\T.length<=10:=by
 have J:=jY ns (k+2) (many:=3) (by decide);have K:=ya ns (k+2) (many:=3) (by decide);obtain⟨L,T,e,⟨o7,o8,o13,rfl⟩,q,r⟩:=vz (G:=jc [] 7) (f:=vP) (λ(a:List WL) ρ=>∃ o7 o8 o13,ρ=hdr ns k nm C P O [a6,o7,o8,‹N.map D.str›,a10,o11,↑(a.map eL),o13,none,none,none]) (λx=>x.1∈C/\Wd x.1/\Wd x.2.2/\x.2.2∈N) 1 20 (xs:=Vp 0 (drw ns (k+2) 3).toNat) (acc:=[]) (ρ:=hdr ns k nm C P O [a6,o7,o8,‹N.map D.str›,a10,o11,some<|.lst true [],none,none,none,none]) (by
  rintro x s a ρ M _ ⟨o7,o8,o13,rfl⟩;obtain⟨i,hi,rfl⟩:=M7.mp s;have hi:=List.mem_range.mp hi;have t:=ju (ns:=ns) (k:=k+3+(0+(i:Int))) (many:=(C.length:Int)) (by lia) (by lia) (by lia);have u:=jY ns (k+3+(0+(i:Int))) (many:=(C.length:Int)) (by lia);have y:=ya ns (k+3+(0+(i:Int))) (many:=(C.length:Int)) (by lia);have g:=kf (o:=false) (l:=C) u y;have b:=yn (l:=C) (i:=(drw ns (k+3+(0+(i:Int))) (C.length:Int)).toNat) (d:=[]) (by lia);generalize C.getD (drw ns (k+3+(0+(i:Int))) (C.length:Int)).toNat []=w at g b;have z:=ju (ns:=ns) (k:=k+5+(0+(i:Int))) (many:=(N.length:Int)) (by lia) (by lia) (by lia);have A:=jY ns (k+5+(0+(i:Int))) (many:=(N.length:Int)) (by lia);have B:=ya ns (k+5+(0+(i:Int))) (many:=(N.length:Int)) (by lia);have h:=kf (o:=false) (l:=N) A B;have c:=yn (l:=N) (i:=(drw ns (k+5+(0+(i:Int))) (N.length:Int)).toNat) (d:=[]) (by lia);generalize N.getD (drw ns (k+5+(0+(i:Int))) (N.length:Int)).toNat []=v at h c;have E:=ju (ns:=ns) (k:=k+7+(0+(i:Int))) (many:=3) (by lia) (by lia) (by decide);refine⟨_,_,[(w,1+drw ns (k+7+(0+(i:Int))) 3,v)],rfl,?_,by simp,by simpa using⟨b,m w b,p v c,c⟩,some<|.int<|0+(i:Int),some<|.str w,some<|.str v,rfl⟩;simp(disch:=first | lia | (simp;done) | (simp;lia)) [vP,t,z,E,g,h,jb,eL,-Int.zero_add]) (by rw[yQ];simp;lia) (by simp) ⟨o7,o8,none,rfl⟩
 rw[yQ] at q;exact⟨T,o7,o8,o13,e,r,by lia⟩
def xc{a6 o7 o8 a9 a10 o11 a12 o13 a14:Option D}{F:W1}(A:0<=k)(h1:k<=1000)(m:P.length<=10)(n:∀ w∈P,Wd w)(B:F.length<=10)(p:∀ w∈F,Wd w) :
  ∃(T:List WG) (o7' o8':Option D),jL (gT 2<|gC (jc [] 7)<|gC (jc [] 8) gN) yU (jJ 0<|F.map D.str) (hdr ns k nm C P O [a6,o7,o8,a9,a10,o11,a12,o13,a14,some<|.lst true [],none])=some (.nx<|hdr ns k nm C P O [a6,o7',o8',a9,a10,o11,a12,o13,a14,↑(T.map eG),none]) /\
  (∀ x∈T,(Wd x.1/\Wd x.2)/\x.1∈P/\x.2∈F)/\T.length<=10:=by
 obtain⟨E,T,e,⟨o7,o8,rfl⟩,q,r⟩:=vz (G:=gT 2<|gC (jc [] 7)<|gC (jc [] 8) gN) (f:=yU) (λ(a:List WG) ρ=>∃ o7 o8,ρ=hdr ns k nm C P O [a6,o7,o8,a9,a10,o11,a12,o13,a14,↑(a.map eG),none]) (λx=>(Wd x.1/\Wd x.2)/\x.1∈P/\x.2∈F) 1 20 (xs:=jJ 0<|F.map D.str) (acc:=[]) (ρ:=hdr ns k nm C P O [a6,o7,o8,a9,a10,o11,a12,o13,a14,some<|.lst true [],none]) (by
  rintro x s a ρ H _ ⟨o7,o8,rfl⟩;obtain⟨i,c,rfl,t,u,g⟩:=Ql s;by_cases h:0 < P.length
  ·have v:=ju (ns:=ns) (k:=k+11+(i:Int)) (many:=(P.length:Int)) (by lia) (by lia) (by lia);have y:=jY ns (k+11+(i:Int)) (many:=(P.length:Int)) (by lia);have z:=ya ns (k+11+(i:Int)) (many:=(P.length:Int)) (by lia);have j:=kf (o:=false) (l:=P) y z;have b:=yn (l:=P) (i:=(drw ns (k+11+(i:Int)) (P.length:Int)).toNat) (d:=[]) (by lia);generalize P.getD (drw ns (k+11+(i:Int)) (P.length:Int)).toNat []=w at j b;refine⟨_,_,[(w,c)],rfl,?_,by simp,by simpa using⟨⟨n w b,p c g⟩,b,g⟩,some<|.int i,some<|.str c,rfl⟩;simp(disch:=first | lia | (simp;done) | (simp;lia)) [yU,v,j,h,jb,eG]
  ·refine⟨_,_,[],rfl,?_,by simp,by simp,some<|.int i,some<|.str c,rfl⟩;simp(disch:=first | lia | (simp;done) | (simp;lia)) [yU,h,jb]) (by rw[yC,L3];simp;lia) (by simp) ⟨o7,o8,rfl⟩
 rw[yC,L3] at q;exact⟨T,o7,o8,e,r,by lia⟩
theorem ur(b:0<=k)(h1:k<=1000):∀{Q:W1}{s:Nat}{o o':Option D},(∀ w∈Q,Wd w)->s+Q.length<=20 ->
  ∃ M:List W2,jW (gT 2<|gC (jc [] 0)<|gC (jc [] 1) gN) qT (yg<|ja (pF<|pV 1)<|ja (jn jw<|ja (pV 2)<|ja (p2 jf (p2 jf (pV 3)<|pC<|.int 16)<|pV 0) pN) pN) (jJ s<|Q.map D.str) [o,o',‹ns.map D.int›,some<|.int k]=some (M.map e2)/\M.map (·.1)=Q/\∀ c∈M,Wd c.1/\1<=c.2/\c.2<=10 ^ 12
 | [],s,o,o',_,_=>⟨[],rfl,rfl,by simp⟩
 | c::Q,s,o,o',a,f=>by
  rw[M4] at f;obtain⟨M,e,g,i⟩:=ur b h1 (Q:=Q) (s:=s+1) (o:=some<|.int s) (o':=some<|.str c) (λw h=>a w<|by simp[h]) (by lia);have c1:=Jy (ns:=ns) (k:=k+16+(s:Int)) (by lia) (by lia);have j:(yg<|ja (pF<|pV 1)<|ja (jn jw<|ja (pV 2)<|ja (p2 jf (p2 jf (pV 3)<|pC<|.int 16)<|pV 0) pN) pN) [some<|.int s,some<|.str c,‹ns.map D.int›,some<|.int k]=some (e2 (c,coi ns<|k+16+(s:Int))):=by
   simp(disch:=first | lia | (simp;done) | (simp;lia)) [c1,jb,e2]
  refine⟨(c,coi ns<|k+16+(s:Int))::M,?_,by rw[L6,g],λd hd=>(M6.mp hd).elim (λz=>z▸⟨a c<|by simp,KK _ _,wk _ _⟩) (i d)⟩;rw[L6,jJ,cpE ?_ j,e];rfl;rfl
def jaq{r:Rh}(a:0<=k)(h1:k<=1000)(b:P.length<=10)(d:∀ w∈P,Wd w) :
  ∃ M:List W2,jW (gT 2<|gC (jc [] 0)<|gC (jc [] 1) gN) qT (yg<|ja (pF<|pV 1)<|ja (jn jw<|ja (pV 2)<|ja (p2 jf (p2 jf (pV 3)<|pC<|.int 16)<|pV 0) pN) pN) (jJ 0<|P.map D.str) (jv [none,none,some 0,some 1]<|hdr ns k nm C P O r)=some (M.map e2)/\M.map (·.1)=P/\∀ c∈M,Wd c.1/\1<=c.2/\c.2<=10 ^ 12 :=
 ur (ns:=ns) (k:=k) a h1 (Q:=P) (s:=0) (o:=none) (o':=none) d (by lia)
def jgG(i:0<=k)(h1:k<=1000)(K:0 < C.length)(a:C.length<=10)(d:P.length<=10)(y:O.length<=10)(Z:Wd nm)(l:∀ w∈C,Wd w)(z:∀ w∈P,Wd w)(wO:∀ w∈O,Wd w)(A:C.Nodup)(nP:P.Nodup) :
  ∃ p:PoolS,qx [.lst false<|ns.map D.int,.int k,.str nm,.lst false<|C.map D.str,.lst false<|P.map D.str,.lst false<|O.map D.str]=some (jt true p)/\PoolOk O p/\p.nm=nm/\p.marks.map (·.1)=P:=by
 obtain⟨T,t,m,eT,e,kT⟩:=jb0 (ns:=ns) (nm:=nm) (P:=P) (O:=O) i h1 a l;have d1:=ju (ns:=ns) (k:=k+1) (many:=3) (by lia) (by lia) (by decide);have b1:=jY ns (k+1) (many:=3) (by decide);have b2:=ya ns (k+1) (many:=3) (by decide);have Q:jc8 none (some<|1+drw ns (k+1) 3) (.lst true [.str [98,98],.str [99,107],.str [100,100]])=↑((j9 [[98,98],[99,107],[100,100]] none<|some<|1+drw ns (k+1) 3).map D.str):=ky true [[98,98],[99,107],[100,100]] none _;have R:0 < (j9 [[98,98],[99,107],[100,100]] none<|some<|1+drw ns (k+1) 3).length:=by
  rw[Jg _<|by lia,E5];simp only[M4,List.length_nil];lia
 have f:(j9 [[98,98],[99,107],[100,100]] none<|some<|1+drw ns (k+1) 3).length<=10:=N8 (yO _ _ _) (by decide);have B:∀ w∈j9 [[98,98],[99,107],[100,100]] none (some<|1+drw ns (k+1) 3),Wd w:=by
  intro w g;have:=jZ g;simp only[M6,List.not_mem_nil,or_false] at this;rcases this with rfl | rfl | rfl<;>exact qf rfl (by decide)
 have U:(j9 [[98,98],[99,107],[100,100]] none<|some<|1+drw ns (k+1) 3).Nodup:=vY (by decide);generalize j9 [[98,98],[99,107],[100,100]] none (some<|1+drw ns (k+1) 3)=N at Q R f B U;obtain⟨os,E,b,V,H,u⟩:=jc3 (ns:=ns) (nm:=nm) (a6:=↑(T.map e3)) (o7:=t) (o8:=m) (N:=N) i h1 K a d y l z wO f B A;have lO:os.length=N.length:=by rw[<- H,L3]
 have d2:=ju (ns:=ns) (k:=k+2) (many:=3) (by lia) (by lia) (by decide);have c1:=jY ns (k+2) (many:=3) (by decide);have c2:=ya ns (k+2) (many:=3) (by decide);have I:=qp (j:=drw ns (k+2) 3) (by lia) (by lia);obtain⟨L,p7,p8,h,n,kL,lL⟩:=uS (ns:=ns) (nm:=nm) (P:=P) (O:=O) (a6:=↑(T.map e3)) (o7:=E) (o8:=m) (a10:=↑(os.map<|vm true)) (o11:=b) (N:=N) i h1 K a l R f B;obtain⟨F,eF,W,lF⟩:=jhO (os:=os) (C:=C) u (by lia) a;have d3:=ju (ns:=ns) (k:=k+10) (many:=4) (by lia) (by lia) (by decide);have sF:=ky true F none<|some<|drw ns (k+10) 4;obtain⟨G,q7,q8,o,v,lG⟩:=xc (ns:=ns) (nm:=nm) (C:=C) (P:=P) (O:=O) (a6:=↑(T.map e3)) (o7:=p7) (o8:=p8) (a9:=‹N.map D.str›) (a10:=↑(os.map<|vm true)) (o11:=b) (a12:=↑(L.map eL)) (o13:=h) (a14:=↑(F.map D.str)) (F:=j9 F none<|some<|drw ns (k+10) 4) i h1 d z (N8 (yO _ _ _) lF)<|λw g=>l w<|W w<|jZ g;obtain⟨M,eM,q,kM⟩:=jaq (ns:=ns) (k:=k) (nm:=nm) (C:=C) (P:=P) (O:=O) (r:=[↑(T.map e3),q7,q8,‹N.map D.str›,↑(os.map<|vm true),b,↑(L.map eL),h,↑(F.map D.str),↑(G.map eG),none]) i h1 d z;obtain⟨S,X,Y,nS,lS⟩:=jhm (ns:=ns) (k:=k+13) (C:=C) (by lia) (by lia) a A;have lT:T.length=C.length:=by rw[<- e,L3]
 have fO:=Yh u true;have s:=Jf u;have J:lim (jJ 0<|P.map D.str).length=true:=jb (by rw[yC,L3];lia);have lM:M.length=P.length:=by rw[<- q,L3]
 have hTC:T.map (·.1)=C:=e;refine⟨⟨nm,T,M,S,os,L,G⟩,?_,{ nm:=Z,told:=kT,toldn:=?_,told1:=?_,told2:=?_,marks:=kM,marksn:=?_,marks2:=?_,eats:=λw g=>l w<|Y w g,eatsm:=?_,eatsn:=nS,eats2:=lS,orders:=?_,ordn:=?_,orders1:=?_,orders2:=?_,looks:=?_,looksm:=?_,looks2:=lL,guards:=?_,guards2:=lG },rfl,q⟩
 rotate_left
 ·show(T.map (·.1)).Nodup;rw[e];exact A
 ·show 0 < T.length;lia
 ·show T.length<=10;lia
 ·show(M.map (·.1)).Nodup;rw[q];exact nP
 ·show M.length<=10;lia
 ·intro w g;show w∈T.map (·.1);rw[e];exact Y w g
 ·show ∀ x∈os,OrdOk (T.map (·.1)) (M.map (·.1)) O x;rw[e,q];exact u
 ·show(os.map (·.nm)).Nodup;rw[H];exact U
 ·show 0 < os.length;lia
 ·show os.length<=10;lia
 ·intro x c;refine⟨?_,(kL x c).2.1,(kL x c).2.2.1⟩;show x.1∈T.map (·.1);rw[e];exact(kL x c).1
 ·intro x c;show x.2.2∈os.map (·.nm);rw[H];exact(kL x c).2.2.2
 ·intro x c;refine⟨(v x c).1.1,(v x c).1.2,?_,?_⟩
  ·show x.1∈M.map (·.1);rw[q];exact(v x c).2.1
  ·show x.2∈T.map (·.1);rw[e];exact W _<|jZ (v x c).2.2
 simp only[hdr] at eT V n o eM;simp(disch:=first | lia | (simp;done) | (simp;lia)) [qx,jH,VH,eT,d1,Q,V,d2,I,n,fO,s,eF,d3,sF,o,J,eM,X,jb,jt,ja3,Vd,kH,jU,uD,YM,jaZ,V8,-yg];simp(disch:=first | lia | (simp;done) | (simp;lia)) [X,s,jb,Vd,jU,YM,V8]
end pool
def jiC{l:List α}{i:Nat}(h:i < l.length):atI l (i:Int)=l[i]?:=by
 unfold atI ixN;rw[if_pos<|by lia,if_pos<|by lia];simp
def jaH(h:i < n):ixN n (i:Int)=some i:=by
 unfold ixN;rw[if_pos<|by lia,if_pos<|by lia];simp
noncomputable def low(c T n:Int):Int:=c*n / T
def Vj(c T:Int):List Int->Int->List Int×Int
 | [],left=>([],left)
 | n::ns,left=>if 0 < left/\low c T n < n then((low c T n+1)::(Vj c T ns<|left - 1).1,(Vj c T ns<|left - 1).2) else(low c T n::(Vj c T ns left).1,(Vj c T ns left).2)
theorem KG(c T:Int):∀(ns:List Int) (left:Int),(Vj c T ns left).1.length=ns.length
 | [],_=>rfl
 | n::ns,left=>by
  rw[Vj];split
  ·simp[KG c T ns]
  ·simp[KG c T ns]
def jhX(pre:List α)(g x:α)(a:List α):(pre++g::a).set pre.length x=pre++x::a:=by
 rw[List.set_append_right _ _<|N0 _];simp
def xO{a b w:Option D}{L:List D}{g n left:Int}{i:Nat}(d:atI L (i:Int)=some (.int g))(e:ixN L.length (i:Int)=some i)(c:L[i]?=some (.int g)) :
  qC [a,b,w,↑L,some<|.int left,some<|.int i,some<|.int n] =
   some (.nx<|if 0 < left/\g < n then [a,b,w,↑(L.set i<|.int<|g+1),some<|.int<|left - 1,some<|.int i,some<|.int n] else [a,b,w,↑L,some<|.int left,some<|.int i,some<|.int n]):=by
 by_cases f:0 < left<;>by_cases h:g < n<;>simp[qC,jd,d,f,h,e,c]
theorem qW(a b w:Option D)(c T:Int):∀(ns:List Int) (pre:List Int) (left:Int) (o5 o6:Option D),
  ∃ o5' o6',jL (gT 2<|gC (jc [] 5)<|gC (jc [] 6) gN) qC (jJ pre.length<|ns.map D.int) [a,b,w,↑((pre++ns.map (low c T)).map D.int),some<|.int left,o5,o6] =
   some (.nx [a,b,w,↑((pre++(Vj c T ns left).1).map D.int),some<|.int (Vj c T ns left).2,o5',o6'])
 | [],pre,left,o5,o6=>⟨o5,o6,by simp[jJ,Vj]⟩
 | n::ns,pre,left,o5,o6=>by
  have d:=xO (a:=a) (b:=b) (w:=w) (L:=(pre++low c T n::ns.map (low c T)).map D.int) (g:=low c T n) (n:=n) (left:=left) (i:=pre.length)
   (by rw[jiC<|by simp];simp) (jaH<|by simp) (by simp)
  have f:((pre++low c T n::ns.map (low c T)).map D.int).set pre.length (D.int<|low c T n+1)=(pre++(low c T n+1)::ns.map (low c T)).map D.int:=by
   have:=jhX (pre.map D.int) (D.int<|low c T n) (D.int<|low c T n+1)<|(ns.map<|low c T).map D.int;simpa using this
  rw[f] at d;have k:(gT 2<|gC (jc [] 5)<|gC (jc [] 6) gN) (.tup [.int (pre.length:Int),.int n]) [a,b,w,↑((pre++low c T n::ns.map (low c T)).map D.int),some<|.int left,o5,o6]=some [a,b,w,↑((pre++low c T n::ns.map (low c T)).map D.int),some<|.int left,some<|.int pre.length,some<|.int n]:=rfl;rw[L6,jJ,jS,L6,k,L5,d,L5,YQ];by_cases h:0 < left/\low c T n < n
  ·obtain⟨o5',o6',e⟩:=qW a b w c T ns (pre++[low c T n+1]) (left - 1) (some<|.int pre.length)<|some<|.int n;refine⟨o5',o6',?_⟩;have j:(pre++[low c T n+1]).length=pre.length+1:=by simp
   rw[j] at e;rw[Vj,if_pos h,if_pos h];simp only[List.append_assoc,List.singleton_append] at e;exact e
  ·obtain⟨o5',o6',e⟩:=qW a b w c T ns (pre++[low c T n]) left (some<|.int pre.length) (some<|.int n);refine⟨o5',o6',?_⟩;have j:(pre++[low c T n]).length=pre.length+1:=by simp
   rw[j] at e;rw[Vj,if_neg h,if_neg h];simp only[List.append_assoc,List.singleton_append] at e;exact e
def yD(ns:List Int)(c:Int):List Int:=if ns.sum<=c then ns else(Vj c ns.sum ns<|c - (ns.map<|low c ns.sum).sum).1
def jbO(f:ns.length<=20)(a:∀ x∈ns,0<=x/\x<=10 ^ 20)(g:0<=c)(h1:c<=2 ^ 900)(i:ns.sum<=10 ^ 30) :
  qB [.lst false<|ns.map D.int,.int c]=↑((yD ns c).map D.int):=by
 by_cases h:ns.sum<=c
 ·simp[qB,jH,Kz,yD,h]
 ·have b:jW (jc [] 0) qT (p2 Yo (p2 yb (pV 1)<|pV 0)<|pV 2) (ns.map D.int) (jv [none,some 1,some 2] [‹ns.map D.int›,some<|.int c,some<|.int ns.sum,none,none,none,none])=some (ns.map λn=>D.int<|low c ns.sum n):=by
   refine jy rfl (λρ=>∃ o,ρ=[o,some<|.int c,some<|.int ns.sum]) ?_ ⟨none,rfl⟩;rintro x d ρ ⟨o,rfl⟩;have:=a x d;refine⟨[some<|.int x,some<|.int c,some<|.int ns.sum],rfl,?_,some<|.int x,rfl⟩;simp(disch:=lia) [vg,Jw,low]
  obtain⟨j,k,e⟩:=qW (‹ns.map D.int›) (some<|.int c) (some<|.int ns.sum) c ns.sum ns [] (c - (ns.map<|low c ns.sum).sum) none none;simp only[E3,List.length_nil,U2] at e;have e2:(D.int ∘ low c ns.sum)=λn=>D.int (low c ns.sum n):=rfl;rw[e2] at e;have e3:ns.map (λn=>D.int<|low c ns.sum n)=(ns.map<|low c ns.sum).map D.int:=by rw[U2];rfl
  rw[e3] at b e;simp(disch:=lia) [qB,jH,Kz,yD,h,b,e,jb,-List.map_map]
theorem KY(c T:Int):∀(ns:List Int) (left:Int),(Vj c T ns left).1.sum+(Vj c T ns left).2=(ns.map<|low c T).sum+left
 | [],left=>by simp[Vj]
 | n::ns,left=>by
  rw[Vj];split
  ·have:=KY c T ns<|left - 1;simp only[List.sum_cons,L6]
   lia
  ·have:=KY c T ns left;simp only[List.sum_cons,L6]
   lia
def cnt(c T:Int):List Int->Int
 | []=>0
 | n::ns=>(if low c T n < n then 1 else 0)+cnt c T ns
theorem jfI(c T:Int):∀ ns:List Int,0<=cnt c T ns
 | []=>by simp[cnt]
 | n::ns=>by
  have:=jfI c T ns;rw[cnt];split<;>lia
theorem Jk(c T:Int):∀(ns:List Int) (left:Int),0<=left->left<=cnt c T ns->(Vj c T ns left).2=0
 | [],left,h,k=>by simp[Vj,cnt] at *;lia
 | n::ns,left,h,k=>by
  rw[cnt] at k;rw[Vj];have:=jfI c T ns;split
  ·next g =>
   rw[if_pos g.2] at k;exact Jk c T ns (left - 1) (by lia) (by lia)
  ·next g =>
   by_cases g2:low c T n < n
   ·rw[if_pos g2] at k;exact Jk c T ns left h (by lia)
   ·rw[if_neg g2] at k;exact Jk c T ns left h (by lia)
def jbU(b:0<=c)(f:c < T)(a:0<=n):T*low c T n<=c*n/\c*n<=T*low c T n+T*(if low c T n < n then 1 else 0)/\0<=low c T n/\low c T n<=n:=by
 unfold low;have e:=Int.mul_ediv_add_emod (c*n) T;have h:=U1 (c*n) (show T≠0 by lia);have r1:=U0 (c*n) (show 0 < T by lia);have p:0<=c*n:=Int.mul_nonneg b a;have d:0<=c*n / T:=Int.ediv_nonneg p (by lia);have l1:c*n / T<=n:=by
  have:c*n<=T*n:=Int.mul_le_mul_of_nonneg_right (by lia) a;exact Int.ediv_le_of_le_mul (by lia) (by rw[Int.mul_comm n T];exact this)
 refine⟨by lia,?_,d,l1⟩;split
 ·lia
 ·next g =>
  have e2:c*n / T=n:=by lia
  rw[e2];have:c*n<=T*n:=Int.mul_le_mul_of_nonneg_right (by lia) a
  lia
theorem wD(a:0<=c)(b:c < T):∀(ns:List Int),(∀ x∈ns,0<=x)->T*(ns.map<|low c T).sum<=c*ns.sum/\c*ns.sum<=T*(ns.map<|low c T).sum+T*cnt c T ns
 | [],_=>by simp[cnt]
 | n::ns,h=>by
  have i:=wD a b ns<|λx d=>h x (by simp[d]);have j:=jbU a b<|h n (by simp);simp only[L6,List.sum_cons,cnt,Int.mul_add]
  lia
def jhs(d:0<=c)(e:c < ns.sum)(h:∀ x∈ns,0<=x) :
  0<=c - (ns.map<|low c ns.sum).sum/\(Vj c ns.sum ns<|c - (ns.map<|low c ns.sum).sum).1.sum=c:=by
 have b:=wD d e ns h;have f:(ns.map<|low c ns.sum).sum<=c:=by
  refine Int.le_of_mul_le_mul_left (a:=ns.sum) ?_ (by lia);rw[Int.mul_comm ns.sum c];exact b.1
 have g:c<=(ns.map<|low c ns.sum).sum+cnt c ns.sum ns:=by
  refine Int.le_of_mul_le_mul_left (a:=ns.sum) ?_ (show 0 < ns.sum by lia);rw[Int.mul_add,Int.mul_comm ns.sum c];exact b.2
 have l:=Jk c ns.sum ns (c - (ns.map<|low c ns.sum).sum) (by lia) (by lia);have s:=KY c ns.sum ns<|c - (ns.map<|low c ns.sum).sum;exact⟨by lia,by lia⟩
theorem jfK:∀(ns:List Int),(∀ x∈ns,0<=x/\x<=b)->0<=ns.sum/\ns.sum<=b*ns.length
 | [],_=>by simp
 | n::ns,h=>by
  have i:=jfK ns<|λx a=>h x (by simp[a]);have j:=h n (by simp);simp only[List.sum_cons,M4];have:b*((ns.length+1:Nat):Int)=b*ns.length+b:=by push_cast;rw[Int.mul_add];lia
  lia
def xI:(yD ns c).length=ns.length:=by
 unfold yD;split
 ·rfl
 ·exact KG _ _ _ _
structure PtOk(p:W2):Prop where
 lo:1<=p.2
 hi:p.2<=10
noncomputable def ts(P:List W2):List Int:=P.map (·.2)
noncomputable def ups(c:Int)(P:List W2):List Int:=P.map λp=>(c*p.2+9) / 10
noncomputable def wB(c:Int)(P:List W2):List Int:=P.map λp=>c*p.2 / 10
noncomputable def jcx(odd:Int):Nat->List Int->List Int
 | _,[]=>[]
 | k,x::l=>(if(k:Int) < odd then x+1 else x)::jcx odd (k+1) l
theorem wu(a:Int):∀(k:Nat) (l:List Int),(jcx a k l).length=l.length
 | _,[]=>rfl
 | k,x::l=>by rw[jcx,M4,M4,wu]
theorem ja7(b:Int):∀(k:Nat) (l:List Int),(∀ x∈l,0<=x)->∀ x∈jcx b k l,0<=x
 | _,[],_,x,a=>by simp[jcx] at a
 | k,y::l,h,x,a=>by
  rw[jcx] at a;have d:=h y (by simp);rcases M6.mp a with rfl | a
  ·split<;>lia
  ·exact ja7 b (k+1) l (λz c=>h z<|by simp[c]) x a
def jT(P:List W2)(c:Int):List Int×Int:=if 10 < (ts P).sum then(ups c P,(ups c P).sum - c) else(jcx (c*(ts P).sum / 10 - (wB c P).sum) 0<|wB c P,0)
def jml(h:∀ p∈P,PtOk p):0<=(ts P).sum/\(ts P).sum<=10*P.length:=by
 induction P with
 | nil=>simp[ts]
 | cons p P c =>
  have a:=c λx d=>h x (by simp[d]);have b:=h p (by simp);have e:=b.lo;have f:=b.hi;simp only[ts,L6,List.sum_cons,M4] at a ⊢
  lia
def QR(P:List W2):frzs (P.map e2)=true/\fzs (P.map e2)=P.map e2:=by
 refine⟨jK λd hd=>?_,yw λd hd=>?_⟩
 all_goals obtain⟨p,a,rfl⟩:=M7.mp hd;rfl
def jaF(b:P.length<=10):kc [.lst false<|P.map e2]=some (.int (ts P).sum):=by
 have a:jW (jc [] 0) qT (pF<|p2 jd (pV 0)<|pC<|.int 1) (P.map e2) (jv [none] [‹P.map e2›])=some (P.map λp=>D.int p.2):=by
  refine jy rfl (λρ=>∃ o,ρ=[o]) ?_ ⟨none,rfl⟩;rintro x c ρ ⟨o,rfl⟩;exact⟨_,rfl,rfl,_,rfl⟩
 have e:(P.map λp=>D.int p.2)=(ts P).map D.int:=by unfold ts;rw[U2];rfl
 rw[e] at a;simp(disch:=lia) [kc,jH,Va,(QR P).1,a,jb,-List.map_map]
theorem Q6(a:Int):∀(l:List Int) (k:Nat) (o0 o1:Option D),jW (gT 2<|gC (jc [] 0)<|gC (jc [] 1) gN) qT (pIf (jl<|p2 jfO (pV 0)<|pV 2) (p2 jf (pV 1)<|pC<|.int 1)<|pF<|pV 1) (jJ k<|l.map D.int) [o0,o1,some<|.int a]=some ((jcx a k l).map D.int)
 | [],k,o0,o1=>rfl
 | x::l,k,o0,o1=>by
  have c:(gT 2<|gC (jc [] 0)<|gC (jc [] 1) gN) (.tup [.int (k:Int),.int x]) [o0,o1,some<|.int a]=some [some<|.int k,some<|.int x,some<|.int a]:=rfl;have b:=Q6 a l (k+1) (some<|.int k)<|some<|.int x;rw[L6,jJ,vV,c,L5];by_cases h:(k:Int) < a
  ·simp[h,b,jcx]
  ·simp[h,b,jcx]
def jdk(m:P.length<=10)(a:∀ p∈P,PtOk p)(s:0<=c)(h1:c<=2 ^ 900):YA [.lst false<|P.map e2,.int c]=some (.tup [.lst true<|(jT P c).1.map D.int,.int (jT P c).2]):=by
 have l:=jaF m;have t:=jml a;have f:=QR P;have n:lim (P.map e2).length=true:=jb (by simp;lia);by_cases h:10 < (ts P).sum
 ·have b:jW (jc [] 0) qT (p2 Yo (p2 jf (p2 yb (pV 1)<|p2 jd (pV 0)<|pC<|.int 1)<|pC<|.int 9)<|pC<|.int 10) (P.map e2) (jv [none,some 1] [‹P.map e2›,some<|.int c,some<|.int (ts P).sum,none,none])=some (P.map λp=>D.int<|(c*p.2+9) / 10):=by
   refine jy rfl (λρ=>∃ o,ρ=[o,some<|.int c]) ?_ ⟨none,rfl⟩;rintro x d ρ ⟨o,rfl⟩;refine⟨[some<|e2 x,some<|.int c],rfl,?_,_,rfl⟩;have g:jd (e2 x) (.int 1)=some (.int x.2):=rfl;have q:=(a x d).lo;have r:=(a x d).hi;simp(disch:=lia) [g,vg,Jw]
  have e:(P.map λp=>D.int<|(c*p.2+9) / 10)=(ups c P).map D.int:=by unfold ups;rw[U2];rfl
  rw[e] at b;have ea:jT P c=(ups c P,(ups c P).sum - c):=if_pos h;rw[ea];simp(disch:=lia) [YA,jH,zU,f.1,f.2,l,h,b,jb,-List.map_map]
 ·have b:jW (jc [] 0) qT (p2 Yo (p2 yb (pV 1)<|p2 jd (pV 0)<|pC<|.int 1)<|pC<|.int 10) (P.map e2) (jv [none,some 1] [‹P.map e2›,some<|.int c,some<|.int (ts P).sum,none,none])=some (P.map λp=>D.int<|c*p.2 / 10):=by
   refine jy rfl (λρ=>∃ o,ρ=[o,some<|.int c]) ?_ ⟨none,rfl⟩;rintro x d ρ ⟨o,rfl⟩;refine⟨[some<|e2 x,some<|.int c],rfl,?_,_,rfl⟩;have g:jd (e2 x) (.int 1)=some (.int x.2):=rfl;have q:=(a x d).lo;have r:=(a x d).hi;simp(disch:=lia) [g,vg,Jw]
  have e:(P.map λp=>D.int<|c*p.2 / 10)=(wB c P).map D.int:=by unfold wB;rw[U2];rfl
  rw[e] at b;have ea:jT P c=(jcx (c*(ts P).sum / 10 - (wB c P).sum) 0<|wB c P,0):=if_neg h;rw[ea];have i:=Q6 (c*(ts P).sum / 10 - (wB c P).sum) (wB c P) 0 none none;have j:jv [none,none,some 4] [‹P.map e2›,some<|.int c,some<|.int (ts P).sum,‹(wB c P).map D.int›,some<|.int<|c*(ts P).sum / 10 - (wB c P).sum]=[none,none,some<|.int<|c*(ts P).sum / 10 - (wB c P).sum]:=rfl;have k:lim (jJ 0<|(wB c P).map D.int).length=true:=jb (by rw[yC];simp[wB];lia);simp(disch:=lia) [YA,jH,zU,f.1,f.2,l,h,b,jb,vg,Jw,j,i,k,-List.map_map]
def jd9:(jT P c).1.length=P.length:=by
 unfold jT;split
 ·simp[ups]
 ·rw[wu];simp[wB]
def jf2(d:∀ p∈P,PtOk p)(e:0<=c):∀ x∈(jT P c).1,0<=x:=by
 have b:∀ p∈P,0<=c*p.2:=λp h=>Int.mul_nonneg e (by have:=(d p h).lo;lia);unfold jT;split
 ·intro x a;obtain⟨p,h,rfl⟩:=M7.mp a;have:=b p h
  lia
 ·refine ja7 _ _ _ λx a=>?_;obtain⟨p,h,rfl⟩:=M7.mp a;have:=b p h;show 0<=c*p.2 / 10
  lia
theorem xU(a:0<=c)(d:c < T):∀(ns:List Int) (left:Int),(∀ x∈ns,0<=x)->∀(i:Nat) (g n:Int),(Vj c T ns left).1[i]?=some g->ns[i]?=some n->0<=g/\g<=n
 | [],left,_,i,g,n,_,h=>by simp at h
 | m::ns,left,hp,i,g,n,h1,h2=>by
  have b:=jbU a d<|hp m (by simp);rw[Vj] at h1;cases i with
  | zero =>
   simp at h2;subst h2;split at h1<;>simp at h1<;>subst h1<;>lia
  | succ i =>
   simp at h2;split at h1
   ·simp at h1;exact xU a d ns _ (λx e=>hp x<|by simp[e]) i g n h1 h2
   ·simp at h1;exact xU a d ns _ (λx e=>hp x<|by simp[e]) i g n h1 h2
def jbt{ns:List Int}{c:Int}(a:0<=c)(h:∀ x∈ns,0<=x){i:Nat}{g n:Int}(h1:(yD ns c)[i]?=some g)(h2:ns[i]?=some n):0<=g/\g<=n:=by
 unfold yD at h1;split at h1
 ·rw[h2] at h1;cases h1;exact⟨h _<|List.mem_of_getElem? h2,Int.le_refl _⟩
 ·exact xU a (by lia) ns _ h i g n h1 h2
def jah(a:0<=c)(h:∀ x∈ns,0<=x):(yD ns c=ns/\ns.sum<=c) \/ (yD ns c).sum=c:=by
 unfold yD;split
 ·rename_i q;exact .inl ⟨rfl,q⟩
 ·exact .inr (jhs a (by lia) h).2
def jbn(l:List W2):ym (l.map e2)=true:=by
 rw[yM,List.all_map,List.all_eq_true];intro x _;rfl
noncomputable def got(L s:Int):Int:=if s < L then s else L
noncomputable def JC:List Nat:=[101,97,116]
noncomputable def put(f:List Nat->Int)(c:List Nat)(v:Int):List Nat->Int:=λn=>if n=c then v else f n
def eat:List (List Nat)->(List Nat->Int)->Int->(List Nat->Int)×Int
 | [],f,L=>(f,L)
 | c::E,f,L=>eat E (put f c<|f c - got L (f c))<|L - got L (f c)
def jfy:Nat->List (List Nat)->(List Nat->Int)->Int->List D
 | _,[],_,_=>[]
 | k,c::E,f,L=>.tup [.int k,.str JC,.str c,.int L,.int<|got L<|f c]::jfy (k+1) E (put f c<|f c - got L (f c)) (L - got L (f c))
def jfb{L s:Int}(h:0<=L)(h':0<=s):0<=got L s/\got L s<=L/\got L s<=s:=by unfold got;split<;>lia
def jfg{f:List Nat->Int}{c:List Nat}{v:Int}(h:∀ n,0<=f n)(a:0<=v)(n:List Nat):0<=put f c v n:=by
 unfold put;by_cases e:n=c
 ·rw[if_pos e];exact a
 ·rw[if_neg e];exact h n
theorem jfC:∀{E:W1}{f:List Nat->Int}{L:Int},(∀ n,0<=f n)->0<=L->(∀ n,0<=(eat E f L).1 n/\(eat E f L).1 n<=f n)/\0<=(eat E f L).2
 | [],f,L,h,a=>⟨λn=>⟨h n,Int.le_refl _⟩,a⟩
 | c::E,f,L,h,a=>by
  have g:=jfb a<|h c;have q:=jfC (E:=E) (f:=put f c<|f c - got L (f c)) (L:=L - got L (f c)) (jfg h<|by lia) (by lia);refine⟨λn=>⟨(q.1 n).1,Int.le_trans (q.1 n).2 ?_⟩,q.2⟩;unfold put;split
  ·rename_i e;rw[e];lia
  ·exact Int.le_refl _
def jcX{f:List Nat->Int}{c:List Nat}{u:Int}:put f c u c=u:=if_pos rfl
def VP{f:List Nat->Int}{c d:List Nat}{u:Int}(h:d≠c):put f c u d=f d:=if_neg h
def bkD(o:Bool)(S W Rn Lv:List W2)(x:Int):D:=.tup [.lst o<|S.map e2,.lst o<|W.map e2,.lst o<|Rn.map e2,.lst o<|Lv.map e2,.int x]
def YZ(o:Bool)(S W Rn Lv:List W2)(x:Int):fz (bkD o S W Rn Lv x)=bkD false S W Rn Lv x:=by simp[bkD,kH]
def JN(S W Rn Lv:List W2)(x:Int):frz (bkD false S W Rn Lv x)=true:=by simp[bkD,jU]
def K7(S W Rn Lv:List W2)(x:Int):clean (bkD true S W Rn Lv x)=true:=by simp[bkD,jbn]
theorem VB{N:W1}{a0 a1 a2 o9:Option D}(g:N.length<=1000):∀{E:W1}{s:Nat}{f:List Nat->Int}{L:Int}{acc:List D}{o6 o7 o8:Option D},(∀ c∈E,c∈N)->acc.length+E.length<=1000 ->
  ∃ o6' o7' o8',jL (gT 2<|gC (jc [] 6)<|gC (jc [] 7) gN) Yz (jJ s<|E.map D.str) [a0,a1,a2,some<|dct true N f,some<|.int L,↑acc,o6,o7,o8,o9] =
   some (.nx [a0,a1,a2,some<|dct true N (eat E f L).1,some<|.int (eat E f L).2,↑(acc++jfy s E f L),o6',o7',o8',o9])
 | [],s,f,L,acc,o6,o7,o8,_,_=>⟨o6,o7,o8,by rw[jfy,N1];rfl⟩
 | c::E,s,f,L,acc,o6,o7,o8,b,h=>by
  rw[M4] at h;have a:=b c (by simp);obtain⟨o6',o7',o8',e⟩:=VB (a0:=a0) (a1:=a1) (a2:=a2) (o9:=o9) g (E:=E) (s:=s+1) (f:=put f c<|f c - got L (f c)) (L:=L - got L (f c)) (acc:=acc++[.tup [.int s,.str JC,.str c,.int L,.int<|got L<|f c]]) (o6:=some<|.int s) (o7:=some<|.str c) (o8:=some<|.int<|got L<|f c) (λd hd=>b d<|by simp[hd]) (by rw[N5];simp only[M4,List.length_nil];lia);refine⟨o6',o7',o8',?_⟩;have i:=yp (o:=true) (f:=f) a;have j:=Jp f a;have k:uR [.int L,.int<|f c]=some (.int<|got L<|f c):=rfl;have l:=Kf (f:=f) (v:=f c - got L (f c)) a;have m:lim (N.map KA.str).length=true:=jb (by rw[L3];lia);rw[L6,jJ,lpF ?_,e,jfy,eat];simp;simp(disch:=first | lia | (simp;done) | (simp;lia)) [Yz,i,k,j,l,jb,JC,-qc];simp[dct,put]
noncomputable def sz'(N:W1)(f:List Nat->Int):List W2:=N.map λn=>(n,f n)
noncomputable def ow'(W:List W2)(f:List Nat->Int):List W2:=W.map λq=>(q.1,if 0 < f q.1 then q.2 else 0)
section
variable {p:PoolS}{S W Rn Lv:List W2}{x L:Int}
def jb5{N:W1}{f:List Nat->Int}(d:∀ q∈W,q.1∈N):jW (gT 2<|gC (jc [] 0)<|gC (jc [] 1) gN) qT (yg<|ja (pF<|pV 0)<|ja (pIf (jl<|p2 Vk (p2 yr (pV 2)<|pV 0)<|pC<|.int 0) (pF<|pV 1)<|pC<|.int 0) pN) (W.map e2) [none,none,some<|dct true N f]=some ((ow' W f).map e2):=by
 unfold ow';rw[U2];refine jy (en:=e2) rfl (λρ=>∃ o a,ρ=[o,a,some<|dct true N f]) ?_ ⟨none,none,rfl⟩;rintro q e ρ ⟨o,a,rfl⟩;have b:=yp (o:=true) (f:=f)<|d q e;refine⟨[some<|.str q.1,some<|.int q.2,some<|dct true N f],rfl,?_,_,_,rfl⟩;by_cases c:0 < f q.1
 ·simp[b,c,jb,e2]
 ·simp[b,c,jb,e2]
def jeY{O:W1}(h:PoolOk O p)(a:S.map (·.1)=p.told.map (·.1))(g:W.map (·.1)=p.told.map (·.1))(H:Rn.length<=10)(I:Lv.length<=10) :
  Kb [jt false p,bkD false S W Rn Lv x,.int L]=some (.tup [.lst true<|jfy 0 p.eats (fnOf S) L,bkD true (sz' (p.told.map (·.1)) (eat p.eats (fnOf S) L).1) (ow' W (eat p.eats (fnOf S) L).1) Rn Lv<|x+(eat p.eats (fnOf S) L).2]):=by
 have J:=h.told2;have nd:(S.map (·.1)).Nodup:=by rw[a];exact h.toldn
 have j:S.length<=10:=by
  have:=congrArg List.length a;rw[L3,L3] at this
  lia
 have k:W.length<=10:=by
  have:=congrArg List.length g;rw[L3,L3] at this
  lia
 have l:=h.eats2;have m:jd (bkD false S W Rn Lv x) (.int 0)=‹S.map e2›:=rfl;have o:jd (bkD false S W Rn Lv x) (.int 1)=‹W.map e2›:=rfl;have r:jd (bkD false S W Rn Lv x) (.int 2)=‹Rn.map e2›:=rfl;have t:jd (bkD false S W Rn Lv x) (.int 3)=‹Lv.map e2›:=rfl;have u:jd (bkD false S W Rn Lv x) (.int 4)=some (.int x):=rfl;have v:jd (jt false p) (.int 3)=‹p.eats.map D.str›:=rfl;have w:yW [.lst false<|S.map e2]=some (dct true (p.told.map (·.1))<|fnOf S):=by rw[<- a];exact yG nd (by lia)
 obtain⟨y,z,A,e⟩:=VB (N:=p.told.map (·.1)) (a0:=some<|jt false p) (a1:=some<|bkD false S W Rn Lv x) (a2:=some<|.int L) (o9:=none) (by rw[L3];lia) (E:=p.eats) (s:=0) (f:=fnOf S) (L:=L) (acc:=[]) (o6:=none) (o7:=none) (o8:=none) h.eatsm (by simp;lia);rw[E3] at e;have B:=jb5 (W:=W) (N:=p.told.map (·.1)) (f:=(eat p.eats (fnOf S) L).1) (λq C=>by rw[<- g];exact M7.mpr ⟨q,C,rfl⟩);have i:=Qd (p.told.map (·.1)) (eat p.eats (fnOf S) L).1;have b:((p.told.map (·.1)).map λn=>D.tup [.str n,.int<|(eat p.eats (fnOf S) L).1 n])=(sz' (p.told.map (·.1)) (eat p.eats (fnOf S) L).1).map e2:=by simp[sz',U2,Function.comp_def,e2]
 rw[b] at i;have c:lim W.length=true:=jb (by lia);have d:∀ ρ,pV 3 ρ=some (dct true (p.told.map (·.1)) (eat p.eats (fnOf S) L).1)->yo (pV 3) ρ=↑((sz' (p.told.map (·.1)) (eat p.eats (fnOf S) L).1).map e2):=by
  intro ρ F;rw[yo,F];show(bif frzs ((p.told.map (·.1)).map λn=>D.int<|(eat p.eats (fnOf S) L).1 n) then _ else _)=_;rw[uw,<- i];rfl
 generalize bkD false S W Rn Lv x=BK at *;generalize G:jt false p=PP,dct true (p.told.map (·.1)) (eat p.eats (fnOf S) L).1=DD at *;generalize(sz' (p.told.map (·.1)) (eat p.eats (fnOf S) L).1)=SS at *;generalize ow' W (eat p.eats (fnOf S) L).1=WW at *;generalize(eat p.eats (fnOf S) L).2=LL at *;generalize jfy 0 p.eats (fnOf S) L=EE at *;simp(disch:=first | lia | (simp;done) | (simp;lia)) [Kb,jH,jcc,m,o,r,t,u,v,w,e,jv,jU,c,B,d,jb,bkD,-yg,-pIf,-yo,-List.map_map]
def Ja(h:∀ q∈S,0<=q.2)(n:List Nat):0<=fnOf S n:=by
 unfold fnOf
 induction S with
 | nil=>exact Int.le_refl _
 | cons q S a =>
  rw[lkp];by_cases e:q.1=n
  ·rw[if_pos e];exact h q (by simp)
  ·rw[if_neg e];exact a λr b=>h r (by simp[b])
end
def hit(rn:List W2):List WL->Option (List Nat)
 | []=>none
 | x::l=>if x.2.1<=(lkp x.1 rn).getD 0 then some x.2.2 else hit rn l
theorem QM:∀{L:List WL}{o2 o3 o4:Option D},(∀ x∈L,x.1∈rn.map (·.1)) ->
  ∃ o2' o3' o4',jL (gT 3<|gC (jc [] 2)<|gC (jc [] 3)<|gC (jc [] 4) gN) yP (L.map eL) [some<|jt false p,some<|.dK false (rn.map λq=>KA.str q.1)<|rn.map λq=>D.int q.2,o2,o3,o4] =
   match hit rn L with
   | some w=>some<|.rt (.str w) [some<|jt false p,some<|.dK false (rn.map λq=>KA.str q.1)<|rn.map λq=>D.int q.2,o2',o3',o4']
   | none=>some<|.nx [some<|jt false p,some<|.dK false (rn.map λq=>KA.str q.1)<|rn.map λq=>D.int q.2,o2',o3',o4']
 | [],o2,o3,o4,_=>⟨o2,o3,o4,rfl⟩
 | x::L,o2,o3,o4,h=>by
  obtain⟨r,d,_⟩:=uA<|h x (by simp);have j:JZ (rn.map λq=>KA.str q.1) (rn.map λq=>D.int q.2) (.str x.1)=some (.int r):=by
   have a:=K3 x.1<|rn.map λq=>(q.1,D.int q.2);rw[U2,U2] at a;have b:=jbP D.int x.1 rn;rw[b,d] at a;exact a
  have g:yr (.dK false (rn.map λq=>KA.str q.1)<|rn.map λq=>D.int q.2) (.str x.1)=some (.int r):=j;have i:(gT 3<|gC (jc [] 2)<|gC (jc [] 3)<|gC (jc [] 4) gN) (eL x) [some<|jt false p,some<|.dK false (rn.map λq=>KA.str q.1)<|rn.map λq=>D.int q.2,o2,o3,o4]=some [some<|jt false p,some<|.dK false (rn.map λq=>KA.str q.1)<|rn.map λq=>D.int q.2,some<|.str x.1,some<|.int x.2.1,some<|.str x.2.2]:=rfl;by_cases c:x.2.1<=r
  ·have f:hit rn (x::L)=some x.2.2:=by rw[hit,d];exact if_pos c
   refine⟨some<|.str x.1,some<|.int x.2.1,some<|.str x.2.2,?_⟩;rw[f,L6,jS,i,L5];simp[yP,g,c]
  ·have f:hit rn (x::L)=hit rn L:=by rw[hit,d];exact if_neg c
   obtain⟨o2',o3',o4',e⟩:=QM (p:=p) (rn:=rn) (L:=L) (o2:=some<|.str x.1) (o3:=some<|.int x.2.1) (o4:=some<|.str x.2.2) λy k=>h y (by simp[k]);refine⟨o2',o3',o4',?_⟩;rw[f,<- e,L6,jS,i,L5];simp[yP,g,c]
noncomputable def jip(p:PoolS):List Nat:=(p.orders.map (·.nm)).headD []
def jdN(h:PoolOk O p):∃ d,jd (.lst false<|p.orders.map<|vm false) (.int 0)=some d/\jd d (.int 0)=some (.str<|jip p):=by
 have a:=h.orders1;unfold jip;cases e:p.orders with
 | nil=>rw[e] at a;simp at a
 | cons x l=>exact⟨vm false x,by rw[jde (by decide)<|by simp];rfl,rfl⟩
def jh5(h:PoolOk O p)  (b:rn.map (·.1)=p.told.map (·.1)) :
  yT [jt false p,.dK false (rn.map λq=>KA.str q.1)<|rn.map λq=>D.int q.2]=some (.str<|(hit rn p.looks).getD (jip p)):=by
 obtain⟨c,f,g,e⟩:=QM (p:=p) (rn:=rn) (L:=p.looks) (o2:=none) (o3:=none) (o4:=none) (by rw[b];exact λx i=>(h.looks x i).1);obtain⟨d,xn,jaw⟩:=jdN h;have a:jd (jt false p) (.int 5)=‹p.looks.map eL›:=rfl;have j:jd (jt false p) (.int 4)=‹p.orders.map (vm false)›:=rfl;cases hh:hit rn p.looks with
 | none =>
  rw[hh] at e;simp[yT,jH,kN,a,j,YM,uD,e,xn,jaw]
 | some w =>
  rw[hh] at e;simp[yT,jH,kN,a,YM,uD,e]
def jiO{O:W1}{p:PoolS}(h:PoolOk O p){sz ow rn lv:List W2}{x:Int}(b:rn.map (·.1)=p.told.map (·.1)) :
  vA [jt false p,.tup [.lst false<|sz.map e2,.lst false<|ow.map e2,.lst false<|rn.map e2,.lst false<|lv.map e2,.int x]]=some (.str<|(hit rn p.looks).getD (jip p)):=by
 have m:rn.length<=10:=by
  have:=congrArg List.length b;rw[L3,L3] at this;have:=h.told2
  lia
 have g:jd (.tup [.lst false<|sz.map e2,.lst false<|ow.map e2,.lst false<|rn.map e2,.lst false<|lv.map e2,.int x]) (.int 2)=‹rn.map e2›:=rfl;have i:yW [.lst false<|rn.map e2]=some (.dK true (rn.map λq=>KA.str q.1)<|rn.map λq=>D.int q.2):=by
  have:=VJ (o:=false) (l:=rn.map λq=>(q.1,D.int q.2)) (by rw[U2];have:=h.toldn;rw[<- b] at this;exact this) (by intro q j;obtain⟨a,_,rfl⟩:=M7.mp j;rfl) (by rw[L3];lia);rw[U2,U2,U2] at this;exact this
 have e:=jh5 h b;have c:fzs (rn.map λq=>D.int q.2)=rn.map λq=>D.int q.2:=yw λd hd=>by obtain⟨q,_,rfl⟩:=M7.mp hd;rfl
 have k:=h.fz false;have f:fz (.dK true (rn.map λq=>KA.str q.1)<|rn.map λq=>D.int q.2)=.dK false (rn.map λq=>KA.str q.1) (rn.map λq=>D.int q.2):=by rw[fz,c]
 simp[vA,jH,YD,g,i,k,f,e]
noncomputable def kZ(p:PoolS):List W2:=p.told.map λc=>(c.1,0)
noncomputable def jae(p:PoolS):List W2:=p.told.map λc=>(c.1,c.2.1)
noncomputable def xJ(p:PoolS):List W2:=p.marks.map λc=>(c.1,0)
def xp(l:List W3):jW (jc [] 0) qT (yg<|ja (pF<|p2 jd (pV 0)<|pC<|.int 0)<|ja (pC<|.int 0) pN) (l.map e3) [none]=some ((l.map λc=>((c.1,0):W2)).map e2):=by
 rw[U2];refine jy (en:=e3) rfl (λρ=>∃ o,ρ=[o]) ?_ ⟨none,rfl⟩;rintro c b ρ ⟨o,rfl⟩;refine⟨[some<|e3 c],rfl,?_,_,rfl⟩;have a:jd (e3 c) (.int 0)=some (.str c.1):=rfl;simp[a,jb,e2]
def u9(l:List W3):jW (jc [] 0) qT (yg<|ja (pF<|p2 jd (pV 0)<|pC<|.int 0)<|ja (pF<|p2 jd (pV 0)<|pC<|.int 1) pN) (l.map e3) [none]=some ((l.map λc=>((c.1,c.2.1):W2)).map e2):=by
 rw[U2];refine jy (en:=e3) rfl (λρ=>∃ o,ρ=[o]) ?_ ⟨none,rfl⟩;rintro c d ρ ⟨o,rfl⟩;refine⟨[some<|e3 c],rfl,?_,_,rfl⟩;have a:jd (e3 c) (.int 0)=some (.str c.1):=rfl;have b:jd (e3 c) (.int 1)=some (.int c.2.1):=rfl;simp[a,b,jb,e2]
def jcw(l:List W2):jW (jc [] 0) qT (yg<|ja (pF<|p2 jd (pV 0)<|pC<|.int 0)<|ja (pC<|.int 0) pN) (l.map e2) [none]=some ((l.map λc=>((c.1,0):W2)).map e2):=by
 rw[U2];refine jy (en:=e2) rfl (λρ=>∃ o,ρ=[o]) ?_ ⟨none,rfl⟩;rintro c b ρ ⟨o,rfl⟩;refine⟨[some<|e2 c],rfl,?_,_,rfl⟩;have a:jd (e2 c) (.int 0)=some (.str c.1):=rfl;simp[a,jb];rfl
def jfV(p:PoolS)(rn:List W2):List Nat:=(hit rn p.looks).getD (jip p)
def jjn{O:W1}{p:PoolS}(h:PoolOk O p){S W Rn Lv:List W2}{x:Int}(a:Rn.map (·.1)=p.told.map (·.1)):vA [jt false p,bkD false S W Rn Lv x]=some (.str<|jfV p Rn):=jiO h a
theorem jbv:∀{L:List WL},hit rn L=some w->∃ x∈L,x.2.2=w
 | [],h=>by simp[hit] at h
 | x::L,h=>by
  rw[hit] at h;split at h
  ·cases h;exact⟨x,by simp,rfl⟩
  ·obtain⟨y,a,e⟩:=jbv h;exact⟨y,by simp[a],e⟩
def jeW(h:PoolOk O p)(rn:List W2):jfV p rn∈p.orders.map (·.nm):=by
 unfold jfV;cases e:hit rn p.looks with
 | some w =>
  obtain⟨x,b,rfl⟩:=jbv e;exact h.looksm x b
 | none =>
  have a:=h.orders1;unfold jip;cases e:p.orders with
  | nil=>rw[e] at a;simp at a
  | cons x l=>simp
def Ka(h:PoolOk O p):yV [jt false p]=some (bkD true (jae p) (kZ p) (kZ p) (xJ p) 0):=by
 have a:jd (jt false p) (.int 1)=‹p.told.map e3›:=rfl;have b:jd (jt false p) (.int 2)=‹p.marks.map e2›:=rfl;have e:=h.told2;have f:=h.marks2;have l1:lim p.told.length=true:=jb (by lia);have l2:lim p.marks.length=true:=jb (by lia);have c1:=xp p.told;have c:=u9 p.told;have d:=jcw p.marks;simp[yV,jH,J1,a,b,Vd,jU,kH,l1,l2,jv,c1,c,d,jb,bkD,jae,kZ,xJ,-yg,-List.map_map]
def jdc(p:PoolS):List Nat->Int:=fnOf<|p.told.map λc=>(c.1,c.2.2)
def wd'(p:PoolS)(f:List Nat->Int)(W:List W2):List W2:=W.map λq=>(q.1,if 0 < f q.1 then q.2+jdc p q.1 else q.2)
def jbx(l:List W3):jW (jc [] 0) qT (yg<|ja (pF<|p2 jd (pV 0)<|pC<|.int 0)<|ja (pF<|p2 jd (pV 0)<|pC<|.int 2) pN) (l.map e3) [none]=some ((l.map λc=>((c.1,c.2.2):W2)).map e2):=by
 rw[U2];refine jy (en:=e3) rfl (λρ=>∃ o,ρ=[o]) ?_ ⟨none,rfl⟩;rintro c d ρ ⟨o,rfl⟩;refine⟨[some<|e3 c],rfl,?_,_,rfl⟩;have a:jd (e3 c) (.int 0)=some (.str c.1):=rfl;have b:jd (e3 c) (.int 2)=some (.int c.2.2):=rfl;simp[a,b,jb,e2]
def QV{O:W1}{p:PoolS}(h:PoolOk O p){S W Rn Lv:List W2}{x:Int}(b:S.map (·.1)=p.told.map (·.1))(e:W.map (·.1)=p.told.map (·.1)) :
  kg [jt false p,bkD false S W Rn Lv x]=some (bkD false S (wd' p (fnOf S) W) Rn Lv x):=by
 have C:=h.told2;have nd:(S.map (·.1)).Nodup:=by rw[b];exact h.toldn
 have t:S.length<=10:=by
  have:=congrArg List.length b;rw[L3,L3] at this
  lia
 have u:W.length<=10:=by
  have:=congrArg List.length e;rw[L3,L3] at this
  lia
 have g:jd (bkD false S W Rn Lv x) (.int 0)=‹S.map e2›:=rfl;have v:jd (bkD false S W Rn Lv x) (.int 1)=‹W.map e2›:=rfl;have i:jd (bkD false S W Rn Lv x) (.int 2)=‹Rn.map e2›:=rfl;have j:jd (bkD false S W Rn Lv x) (.int 3)=‹Lv.map e2›:=rfl;have k:jd (bkD false S W Rn Lv x) (.int 4)=some (.int x):=rfl;have w:jd (jt false p) (.int 1)=‹p.told.map e3›:=rfl;have y:yW [.lst false<|S.map e2]=some (dct true (p.told.map (·.1))<|fnOf S):=by rw[<- b];exact yG nd (by lia)
 have a:(p.told.map λc=>((c.1,c.2.2):W2)).map (·.1)=p.told.map (·.1):=by rw[U2];rfl
 have d:yW [.lst true<|(p.told.map λc=>((c.1,c.2.2):W2)).map e2]=some (dct true (p.told.map (·.1))<|jdc p):=by
  have:=yG (o:=true) (S:=p.told.map λc=>((c.1,c.2.2):W2)) (by rw[a];exact h.toldn) (by rw[L3];lia);rw[a] at this;exact this
 have c1:=jbx p.told;have z:jW (gT 2<|gC (jc [] 0)<|gC (jc [] 1) gN) qT (yg<|ja (pF<|pV 0)<|ja (pIf (jl<|p2 Vk (p2 yr (pV 2)<|pV 0)<|pC<|.int 0) (p2 jf (pV 1)<|p2 yr (pV 3)<|pV 0)<|pF<|pV 1) pN) (W.map e2) [none,none,some (dct true (p.told.map (·.1))<|fnOf S),some (dct true (p.told.map (·.1))<|jdc p)]=some ((wd' p (fnOf S) W).map e2):=by
  unfold wd';rw[U2];refine jy (en:=e2) rfl (λρ=>∃ o l,ρ=[o,l,some (dct true (p.told.map (·.1))<|fnOf S),some (dct true (p.told.map (·.1))<|jdc p)]) ?_ ⟨none,none,rfl⟩;rintro q A ρ ⟨o,l,rfl⟩;have m:q.1∈p.told.map (·.1):=by rw[<- e];exact M7.mpr ⟨q,A,rfl⟩
  have n:=yp (o:=true) (f:=fnOf S) m;have r:=yp (o:=true) (f:=jdc p) m;refine⟨[some<|.str q.1,some<|.int q.2,some (dct true (p.told.map (·.1))<|fnOf S),some (dct true (p.told.map (·.1))<|jdc p)],rfl,?_,_,_,rfl⟩;by_cases s:0 < fnOf S q.1
  ·simp[n,r,s,jb,e2]
  ·simp[n,r,s,jb,e2]
 have l1:lim p.told.length=true:=jb (by lia);have l2:lim W.length=true:=jb (by lia);generalize D:bkD false S W Rn Lv x=BK at *;generalize B:jt false p=PP,dct true (p.told.map (·.1)) (fnOf S)=D1,dct true (p.told.map (·.1)) (jdc p)=D2,wd' p (fnOf S) W=WW at *;simp(disch:=first | lia | (simp;done) | (simp;lia)) [kg,jH,Yu,g,v,i,j,k,w,y,d,c1,z,jv,jU,kH,Vd,ja3,l1,l2,jb,bkD,-yg,-pIf,-List.map_map];simp(disch:=first | lia | (simp;done) | (simp;lia)) [g,i,j,k,jU,jb]
noncomputable abbrev EN:=List Nat×List Nat
abbrev LN:=List<|EN×Int
noncomputable def kL(r:EN×Int):List KA:=[.str r.1.1,.str r.1.2]
noncomputable def vL(r:EN×Int):D:=.int r.2
def dLn(o:Bool)(l:LN):D:=.dT o (l.map kL)<|l.map vL
noncomputable def qG:LN->EN->Option Int
 | [],_=>none
 | r::l,k=>if r.1=k then some r.2 else qG l k
noncomputable def jfh(l:LN)(k:EN)(v:Int):LN:=l.map λr=>(r.1,if r.1=k then v else r.2)
def jdb(l:LN)(k:EN)(v:Int):LN:=if k∈l.map (·.1) then jfh l k v else l++[(k,v)]
def jjk:([KA.str a,KA.str b]=[KA.str c,KA.str d])=((a,b)=((c,d):EN)):=by simp
def jbe(r:EN×Int)(k:EN):(kL r=[KA.str k.1,KA.str k.2])=(r.1=k):=by
 obtain⟨⟨a,b⟩,n⟩:=r;obtain⟨c,d⟩:=k;exact jjk
theorem Yv(k:EN):∀ l:LN,QA (l.map kL) (l.map vL) [.str k.1,.str k.2]=(qG l k).map D.int
 | []=>rfl
 | r::l=>by
  rw[L6,L6,QA,qG];by_cases h:r.1=k
  ·rw[if_pos h,if_pos<|by rw[jbe];exact h];rfl
  ·rw[if_neg h,if_neg<|by rw[jbe];exact h,Yv k l]
theorem jci(k:EN)(v:Int):∀ l:LN,jed (l.map kL) (l.map vL) [.str k.1,.str k.2] (.int v)=(jfh l k v).map vL
 | []=>rfl
 | r::l=>by
  rw[L6,L6,jed,jci k v l];by_cases h:r.1=k
  ·rw[if_pos<|by rw[jbe];exact h];simp[jfh,h,vL]
  ·rw[if_neg<|by rw[jbe];exact h];simp[jfh,h,vL]
theorem jaY(k:EN):∀ l:LN,([KA.str k.1,KA.str k.2]∈l.map kL)↔k∈l.map (·.1)
 | []=>by simp
 | r::l=>by
  rw[L6,L6,M6,M6,jaY k l];have:=jbe r k;constructor
  ·rintro(h | h)
   ·exact .inl (this▸h.symm).symm
   ·exact .inr h
  ·rintro(h | h)
   ·exact .inl (this.symm▸h.symm:kL r=_).symm
   ·exact .inr h
def jbb(l:LN)(k:EN)(v:Int):(jfh l k v).map (·.1)=l.map (·.1):=by unfold jfh;rw[U2];rfl
def jhv(l:LN)(k:EN)(v:Int):(jfh l k v).map kL=l.map kL:=by unfold jfh;rw[U2];rfl
def xQ(k:EN)(v:Int)(l:LN):KC (l.map kL) (l.map vL) [.str k.1,.str k.2] (.int v)=((jdb l k v).map kL,(jdb l k v).map vL):=by
 unfold KC jdb;by_cases h:k∈l.map (·.1)
 ·rw[if_pos h,if_pos<|(jaY k l).mpr h,jci,jhv]
 ·rw[if_neg h,if_neg λz=>h<|(jaY k l).mp z];simp[kL,vL]
structure LnOk(N:W1)(l:LN):Prop where
 nd:(l.map (·.1)).Nodup
 mem:∀ r∈l,r.1.1∈N/\r.1.2∈N/\0<=r.2
def jcO(h:LnOk N l)  (h1:k.1∈N) (h2:k.2∈N) (d:0<=v):LnOk N (jdb l k v):=by
 unfold jdb;by_cases e:k∈l.map (·.1)
 ·rw[if_pos e];refine⟨by rw[jbb];exact h.nd,λr c=>?_⟩;obtain⟨q,g,rfl⟩:=M7.mp c;have:=h.mem q g;refine⟨this.1,this.2.1,?_⟩;show 0<=(if q.1=k then v else q.2);split
  ·exact d
  ·exact this.2.2
 ·rw[if_neg e];refine⟨?_,λr c=>?_⟩
  ·rw[N6,X6];exact⟨h.nd,by simp,λa i b f=>by simp at f;rintro rfl;exact e<|f▸i⟩
  ·rcases N3.mp c with c | c
   ·exact h.mem r c
   ·rw[M9.mp c];exact⟨h1,h2,d⟩
theorem xq{N:W1}  : ∀{l:LN},(∀ r∈l,r.1.1∈N/\r.1.2∈N/\0<=r.2)->0<=(qG l k).getD 0
 | [],_=>Int.le_refl _
 | r::l,h=>by
  rw[qG];split
  ·exact(h r<|by simp).2.2
  ·exact xq λq a=>h q (by simp[a])
theorem YG [DecidableEq α]:∀{l m:List α},l.Nodup->(∀ x∈l,x∈m)->l.length<=m.length
 | [],m,_,_=>by simp
 | a::l,m,b,d=>by
  have e:=d a (by simp);rw[List.nodup_cons] at b;have:=YG (l:=l) (m:=m.erase a) b.2 λx f=>by
   have c:x≠a:=λz=>b.1<|z▸f;exact(List.mem_erase_of_ne c).mpr (d x<|by simp[f])
  rw[List.length_erase_of_mem e] at this;have g:0 < m.length:=List.length_pos_of_mem e;simp only[M4]
  lia
def LnOk.len(h:LnOk N l)(c:N.length<=3):l.length<=9:=by
 have:=YG (m:=N.flatMap λa=>N.map λb=>(a,b)) h.nd λx d=>by
  obtain⟨r,f,rfl⟩:=M7.mp d;have:=h.mem r f;exact List.mem_flatMap.mpr ⟨r.1.1,this.1,M7.mpr ⟨r.1.2,this.2.1,rfl⟩⟩
 rw[L3,List.length_flatMap] at this;have e:(N.map λa=>(N.map λb=>((a,b):EN)).length)=N.map λ_=>N.length:=by simp
 have e2:∀(n:Nat) (M:W1),(M.map λ_=>n).sum=M.length*n:=λn M=>by
  induction M with
  | nil=>simp
  | cons a M g=>simp only[L6,List.sum_cons,M4,g,Nat.succ_mul];lia
 rw[e,e2] at this;have i:N.length*N.length<=3*3:=Nat.mul_le_mul c c
 lia
noncomputable abbrev MV:=List Nat×List Nat×Int
noncomputable def eM(m:MV):D:=.tup [.str m.1,.str m.2.1,.int m.2.2]
def mvF(nm:List Nat)(l:LN)(m:MV):LN:=if m.1=vR then jdb l (nm,m.2.1) ((qG l (nm,m.2.1)).getD 0+m.2.2) else jdb l (m.2.1,nm) ((qG l (m.2.1,nm)).getD 0 - m.2.2)
structure MvOk(nm:List Nat)(N:W1)(c:Int)(l:LN)(m:MV):Prop where
 kd:m.1=vR \/ (m.1=qF/\m.2.2<=(qG l (m.2.1,nm)).getD 0)
 ot:m.2.1∈N
 po:0 < m.2.2
 hi:m.2.2<=c
def jft(h:LnOk N l)(a:nm∈N)(k:MvOk nm N c l m):LnOk N (mvF nm l m):=by
 unfold mvF;have po:=k.po;rcases k.kd with e | ⟨e,e2⟩
 ·rw[if_pos e];have:=xq (k:=(nm,m.2.1)) h.mem;exact jcO h a k.ot (by lia)
 ·rw[if_neg<|by rw[e];decide];exact jcO h k.ot a (by lia)
def jas(h:0 < c)(h2:c<=(qG l k).getD 0):∃ v,qG l k=some v:=by
 cases e:qG l k with
 | some v=>exact⟨v,rfl⟩
 | none=>rw[e] at h2;simp at h2;lia
def jcR(i:l.length<=100)(k:MvOk nm N c l m):yq [dLn true l,.str nm,.str m.1,.str m.2.1,.int m.2.2]=some (.non,dLn true<|mvF nm l m):=by
 have a:lim l.length=true:=jb (by lia);rcases k.kd with e | ⟨e,e2⟩
 ·have b:=Yv (nm,m.2.1) l;have p1:=xQ (nm,m.2.1) ((qG l (nm,m.2.1)).getD 0+m.2.2) l;have g:K5 (dLn true l) [.str nm,.str m.2.1] (.int 0)=some (.int<|(qG l (nm,m.2.1)).getD 0):=by
   show some ((QA (l.map kL) (l.map vL) [.str nm,.str m.2.1]).getD (.int 0))=_;rw[b];cases qG l (nm,m.2.1)<;>rfl
  have d:mvF nm l m=jdb l (nm,m.2.1) ((qG l (nm,m.2.1)).getD 0+m.2.2):=if_pos e;rw[d];have j:vB (.str nm)=some (.str nm):=rfl;have h:vB (.str m.2.1)=some (.str m.2.1):=rfl;have hd:jgB (dLn true l)=some (l.map kL,l.map vL):=rfl;simp only[dLn] at *;simp[yq,kh,qX,e,g,p1,a,Vl]
 ·obtain⟨v,f⟩:=jas k.po e2;have b:=Yv (m.2.1,nm) l;rw[f] at b;have p1:=xQ (m.2.1,nm) (v - m.2.2) l;have d:mvF nm l m=jdb l (m.2.1,nm) (v - m.2.2):=by unfold mvF;rw[if_neg<|by rw[e];decide,f];rfl
  rw[d];simp only[dLn] at *;simp[yq,kh,qX,jeD,e,b,p1,a,Vl]
noncomputable def eR(r:EN×Int):D:=.tup [.str r.1.1,.str r.1.2,.int r.2]
def vt(l:LN):frzs (l.map eR)=true:=jK λd hd=>by obtain⟨p,_,rfl⟩:=M7.mp hd;rfl
def J2(l:LN):fzs (l.map eR)=l.map eR:=yw λd hd=>by obtain⟨p,_,rfl⟩:=M7.mp hd;rfl
def Qn(l:LN):clean (dLn true l)=true:=by
 have:ym (l.map vL)=true:=by rw[yM,List.all_map,List.all_eq_true];intro x _;rfl
 simp[dLn,clean,this]
theorem wL:∀(l a:LN),((a++l).map (·.1)).Nodup->(l.map λr=>(kL r,vL r)).foldl (λacc kv=>KC acc.1 acc.2 kv.1 kv.2) (a.map kL,a.map vL)=((a++l).map kL,(a++l).map vL)
 | [],a,_=>by simp
 | r::l,a,h=>by
  have b:r.1∉a.map (·.1):=by
   rw[N6,X6] at h;intro z;exact h.2.2 _ z r.1 (by simp) rfl
  have e:KC (a.map kL) (a.map vL) (kL r) (vL r)=((a++[r]).map kL,(a++[r]).map vL):=by
   have:=xQ r.1 r.2 a;unfold jdb at this;rw[if_neg b] at this;exact this
  rw[L6,X7];show List.foldl _ (KC (a.map kL) (a.map vL) (kL r)<|vL r) _=_;rw[e,wL l (a++[r])<|by simpa using h];simp
theorem QC:∀(l:LN) (o0 o1 o2:Option D),K8 (gT 3<|gC (jc [] 0)<|gC (jc [] 1)<|gC (jc [] 2) gN) qT (jc9 (pV 0)<|pV 1) (pV 2) (l.map eR) [o0,o1,o2]=some (l.map λr=>(kL r,vL r))
 | [],_,_,_=>rfl
 | r::l,o0,o1,o2=>by
  have a:=QC l (some<|.str r.1.1) (some<|.str r.1.2)<|some<|.int r.2;have b:gT 3 (gC (jc [] 0)<|gC (jc [] 1)<|gC (jc [] 2) gN) (eR r) [o0,o1,o2]=some [some<|.str r.1.1,some<|.str r.1.2,some<|.int r.2]:=rfl;rw[L6,K8,b,L5];simp[a,qT,kL,vL,vB]
def jcm(h:(l.map (·.1)).Nodup)(b:l.length<=1000):ye [.lst false<|l.map eR]=some (dLn true l):=by
 have e:=QC l none none none;have d:jik (l.map λr=>(kL r,vL r))=(l.map kL,l.map vL):=wL l [] (by simpa using h);have a:lim l.length=true:=jb (by lia);simp[ye,jH,kR,jv,e,d,vt,a,dLn,-jk3]
def reN(nm:List Nat)(l:LN)(ms:List MV):LN:=ms.foldl (mvF nm) l
def MvsOk(nm:List Nat)(N:W1)(c:Int):LN->List MV->Prop
 | _,[]=>True
 | l,m::ms=>MvOk nm N c l m/\MvsOk nm N c (mvF nm l m) ms
theorem MvsOk.snoc:∀{ms:List MV}{l:LN},MvsOk nm N c l ms->MvOk nm N c (reN nm l ms) m->MvsOk nm N c l (ms++[m])
 | [],l,_,h=>⟨h,trivial⟩
 | a::ms,l,h,k=>⟨h.1,MvsOk.snoc h.2 k⟩
def wV(nm:List Nat)(l:LN)(ms:List MV)(m:MV):reN nm l (ms++[m])=mvF nm (reN nm l ms) m:=by simp[reN]
theorem jcK(a:nm∈N):∀{ms:List MV}{l:LN},LnOk N l->MvsOk nm N c l ms->LnOk N (reN nm l ms)
 | [],l,h,_=>h
 | m::ms,l,h,k=>jcK (c:=c) a (ms:=ms) (l:=mvF nm l m) (jft h a k.1) k.2
theorem YS(a:nm∈N)(b:N.length<=3)  : ∀{ms:List MV}{l:LN}{o4 o5 o6:Option D},LnOk N l->MvsOk nm N c l ms ->
  ∃ o4' o5' o6',jL (gT 3<|gC (jc [] 4)<|gC (jc [] 5)<|gC (jc [] 6) gN) va (ms.map eM) [a0,some<|.str nm,a2,some<|dLn true l,o4,o5,o6]=some (.nx [a0,some<|.str nm,a2,some<|dLn true<|reN nm l ms,o4',o5',o6'])
 | [],l,o4,o5,o6,_,_=>⟨o4,o5,o6,rfl⟩
 | m::ms,l,o4,o5,o6,h,k=>by
  obtain⟨o4',o5',o6',e⟩:=YS a b (a0:=a0) (a2:=a2) (ms:=ms) (l:=mvF nm l m) (o4:=some<|.str m.1) (o5:=some<|.str m.2.1) (o6:=some<|.int m.2.2) (jft h a k.1) k.2;refine⟨o4',o5',o6',?_⟩;have d:=jcR (nm:=nm) (N:=N) (l:=l) (m:=m) (c:=c) (by have:=h.len b;lia) k.1;rw[L6,lpF ?_,e];rfl;show(some _).bind _=_;generalize dLn true l=X,dLn true (mvF nm l m)=Y at *;simp[va,d,kC,vQ]
theorem VX:∀ l:LN,kB (l.map kL) (l.map vL)=some ((l.filter λr=>decide<|0 < r.2).map eR)
 | []=>rfl
 | r::l=>by
  rw[L6,L6];show(kB (l.map kL)<|l.map vL).bind _=_;rw[VX l,L5,List.filter_cons];by_cases h:0 < r.2
  ·simp[h];rfl
  ·simp[h]
theorem wZ:∀ l:LN,∃ rs,uO (l.map eR)=some rs
 | []=>⟨[],rfl⟩
 | r::l=>by
  obtain⟨rs,e⟩:=wZ l;exact⟨(S r.1.1,S r.1.2,r.2)::rs,by show(uO<|l.map eR).bind _=_;rw[e];rfl⟩
noncomputable def jna:D->EN
 | .tup [.str a,.str b,_]=>(a,b)
 | _=>([],[])
def jhW(h:LnOk N l)  : ∃ l':LN,zx rs (l.map eR)=l'.map eR/\LnOk N l'/\l'.length=l.length:=by
 have p:=jaz (rs:=rs) (l:=l.map eR);obtain⟨l',e,b⟩:=KM (f:=eR) (Q:=λr=>r∈l) (ys:=zx rs<|l.map eR) λy c=>by
  obtain⟨r,a,rfl⟩:=M7.mp<|p.mem_iff.mp c;exact⟨r,rfl,a⟩
 refine⟨l',e,⟨?_,λr a=>h.mem r<|b r a⟩,?_⟩
 ·rw[e] at p;have p2:=p.map jna;rw[U2,U2] at p2;have d:(jna ∘ eR)=λr:EN×Int=>r.1:=by funext r;rfl
  rw[d] at p2;exact p2.nodup_iff.mpr h.nd
 ·have:=p.length_eq;rw[e,L3,L3] at this;exact this
def jgb(h:LnOk N l):LnOk N (l.filter λr=>decide<|0 < r.2) :=
 ⟨h.nd.sublist<|List.Sublist.map _<|List.filter_sublist,λr a=>h.mem r (List.mem_filter.mp a).1⟩
def jbu(n:nm∈N)(b:N.length<=3)  (h:LnOk N l) (k:MvsOk nm N c l ms) :
  ∃ l':LN,yN [.lst false<|l.map eR,.str nm,.lst false<|ms.map eM]=↑(l'.map eR)/\LnOk N l':=by
 have B:=h.len b;have t:=jcm h.nd (by lia);have o:=jcK n h k;have u:=o.len b;obtain⟨v,w,x,e⟩:=YS n b (a0:=‹l.map eR›) (a2:=‹ms.map eM›) (o4:=none) (o5:=none) (o6:=none) h k;obtain⟨q,e3⟩:=wZ<|(reN nm l ms).filter λr=>decide<|0 < r.2;obtain⟨l',y,z,_⟩:=jhW (rs:=q)<|jgb o;have A:=VX<|reN nm l ms;have f:(((reN nm l ms).filter λr=>decide<|0 < r.2).map eR).length < 64:=by
  rw[L3];have:=List.length_filter_le (λr:EN×Int=>decide<|0 < r.2)<|reN nm l ms
  lia
 have g:frzs (ms.map eM)=true:=jK λd hd=>by obtain⟨p,_,rfl⟩:=M7.mp hd;rfl
 have a:fzs (ms.map eM)=ms.map eM:=yw λd hd=>by obtain⟨p,_,rfl⟩:=M7.mp hd;rfl
 have i:jgB (dLn true<|reN nm l ms)=some ((reN nm l ms).map kL,(reN nm l ms).map vL):=rfl;have j:lim ((reN nm l ms).map kL).length=true:=jb (by rw[L3];lia);have m:=Qn l;have s:lim ((((reN nm l ms).filter λr=>decide<|0 < r.2).map eR)).length=true:=jb (by lia);refine⟨l',?_,z⟩;generalize((reN nm l ms).filter λr=>decide<|0 < r.2)=FF at *;generalize dLn true (reN nm l ms)=Y,dLn true l=X at *;simp[yN,jH,qJ,t,m,vt,J2,g,a,e,i,A,e3,y,dCB,-List.length_map,j,f]
noncomputable def NS:List Str:=["pool_name","marks","sizes","owed","levels","loans","cash","served","entries","moves"]
abbrev I10(o:Bool)(a0 a1 a2 a3 a4 a5 a6 a7 a8 a9:D):D:=.ins o 0 NS [a0,a1,a2,a3,a4,a5,a6,a7,a8,a9]
def jni:qY NS [a0,a1,a2,a3,a4,a5,a6,a7,a8,a9] "pool_name" = some a0:=rfl
def xn:qY NS [a0,a1,a2,a3,a4,a5,a6,a7,a8,a9] "marks" = some a1:=rfl
def jaw:qY NS [a0,a1,a2,a3,a4,a5,a6,a7,a8,a9] "sizes" = some a2:=rfl
def jio:qY NS [a0,a1,a2,a3,a4,a5,a6,a7,a8,a9] "owed" = some a3:=rfl
def jiX:qY NS [a0,a1,a2,a3,a4,a5,a6,a7,a8,a9] "levels" = some a4:=rfl
def jis:qY NS [a0,a1,a2,a3,a4,a5,a6,a7,a8,a9] "loans" = some a5:=rfl
def jln:qY NS [a0,a1,a2,a3,a4,a5,a6,a7,a8,a9] "cash" = some a6:=rfl
def jng:qY NS [a0,a1,a2,a3,a4,a5,a6,a7,a8,a9] "served" = some a7:=rfl
def jly:qY NS [a0,a1,a2,a3,a4,a5,a6,a7,a8,a9] "entries" = some a8:=rfl
def jnC:qY NS [a0,a1,a2,a3,a4,a5,a6,a7,a8,a9] "moves" = some a9:=rfl
def g2:ql 0 "sizes" vQ (I10 true a0 a1 a2 a3 a4 a5 a6 a7 a8 a9)=some (a2,λz=>I10 true a0 a1 z a3 a4 a5 a6 a7 a8 a9):=rfl
def g3:ql 0 "owed" vQ (I10 true a0 a1 a2 a3 a4 a5 a6 a7 a8 a9)=some (a3,λz=>I10 true a0 a1 a2 z a4 a5 a6 a7 a8 a9):=rfl
def g4:ql 0 "levels" vQ (I10 true a0 a1 a2 a3 a4 a5 a6 a7 a8 a9)=some (a4,λz=>I10 true a0 a1 a2 a3 z a5 a6 a7 a8 a9):=rfl
def g7:ql 0 "served" vQ (I10 true a0 a1 a2 a3 a4 a5 a6 a7 a8 a9)=some (a7,λz=>I10 true a0 a1 a2 a3 a4 a5 a6 z a8 a9):=rfl
def g8:ql 0 "entries" vQ (I10 true a0 a1 a2 a3 a4 a5 a6 a7 a8 a9)=some (a8,λz=>I10 true a0 a1 a2 a3 a4 a5 a6 a7 z a9):=rfl
def g9:ql 0 "moves" vQ (I10 true a0 a1 a2 a3 a4 a5 a6 a7 a8 a9)=some (a9,λz=>I10 true a0 a1 a2 a3 a4 a5 a6 a7 a8 z):=rfl
def jny:qE NS [a0,a1,a2,a3,a4,a5,a6,a7,a8,a9] "cash" z=(NS,[a0,a1,a2,a3,a4,a5,z,a7,a8,a9]):=rfl
def jdi{a0 a1 a2 a3 a4 a5 a7 a8 a9:D}{ρ:Rh}{i:Nat}{pv:PF}{m n:Int}(a:pV i ρ=some (I10 true a0 a1 a2 a3 a4 a5 (.int m) a7 a8 a9))(b:pv ρ=some (.int n)) :
  J3 i vQ 0 "cash" (λm n=>m - n) pv ρ=some (.nx<|ρ.set i<|some<|I10 true a0 a1 a2 a3 a4 a5 (.int<|m - n) a7 a8 a9):=by
 have e:(NS.length<=900)=True:=by simp[NS]
 unfold J3;rw[a];simp[vQ,jln,jny,b,e]
def KF{ρ:Rh}{i:Nat}{w:List Nat}{L:Ln}{pk pv:PF}{t:D}{N:W1}{f:List Nat->Int}{a:D->D}{g:Int->Int->Int}{n:Int}(c:pV i ρ=some t)(d:L t=some (dct true N f,a))(e:pk ρ=some (.str w))(h:pv ρ=some (.int n))(b:w∈N)(j:N.length<=1000) :
  vf i L pk g pv ρ=some (.nx<|ρ.set i<|some<|a<|dct true N<|put f w<|g (f w) n):=by
 rw[vf,e,L5,show vB (.str w)=some (.str w) from rfl,L5,c,L5,d,L5,show jea (dct true N f,a).1=some (N.map KA.str,N.map λn=>D.int<|f n) from rfl,L5,Jp f b,L5,show ve (.int<|f w)=some (f w) from rfl,L5,h,L5,show ve (.int n)=some n from rfl,L5,jb<|by rw[L3];lia,cond_true,Kf b];rfl
noncomputable def dSv(o:Bool)(l:W1):D:=.dK o (l.map KA.str)<|l.map λ_=>D.bl true
noncomputable def qU(l:W1)(w:List Nat):List (List Nat):=if w∈l then l else l++[w]
def jkw(l:W1)(w:List Nat):v9 (l.map KA.str) (l.map λ_=>D.bl true) (.str w) (.bl true)=((qU l w).map KA.str,(qU l w).map λ_=>D.bl true):=by
 have b:(KA.str w∈l.map KA.str)↔w∈l:=by simp
 have c:∀ l:List (List Nat),jbX (l.map KA.str) (l.map λ_=>D.bl true) (.str w) (.bl true)=l.map λ_=>D.bl true:=λl=>by
  induction l with
  | nil=>rfl
  | cons a l d=>rw[L6,L6,jbX,d];split<;>rfl
 unfold v9 qU;by_cases h:w∈l
 ·rw[if_pos h,if_pos<|b.mpr h,c]
 ·rw[if_neg h,if_neg λz=>h<|b.mp z];simp
def jk0(a:pV i ρ=some (I10 true a0 a1 a2 a3 a4 a5 a6 (dSv true l) a8 a9))(b:pk ρ=some (.str w))(c:l.length<=1000) :
  YI i (ql 0 "served" vQ) pk (pC<|.bl true) ρ=some (.nx<|ρ.set i<|some<|I10 true a0 a1 a2 a3 a4 a5 a6 (dSv true<|qU l w) a8 a9):=by
 unfold YI;rw[show(pC<|D.bl true) ρ=some (.bl true) from rfl,L5,a,L5,g7,L5];show((pk ρ).bind λq=>_)=_;rw[b,L5];show(bif lim (l.map KA.str).length&&(true||_) then some (Out.nx<|ρ.set i<|some<|I10 true a0 a1 a2 a3 a4 a5 a6 (.dK true (v9 (l.map KA.str) (l.map λ_=>D.bl true) (.str w)<|.bl true).1 (v9 (l.map KA.str) (l.map λ_=>D.bl true) (.str w)<|.bl true).2) a8 a9) else none)=_;rw[jb<|by rw[L3];lia,jkw];rfl
def jdw(h:yr a3 (.str w)=some (.int v)):jh [I10 false a0 a1 a2 a3 a4 a5 a6 a7 a8 a9,.tup [.str jaB,.str w]]=some (.int v):=by
 simp[jh,jH,jM,jio,h,jgS]
def jal(h:yr a3 (.str w)=some (.int v))(h2:yr a2 (.str w)=some (.int u)):jh [I10 false a0 a1 a2 a3 a4 a5 a6 a7 a8 a9,.tup [.str yA,.str w]]=some (.int<|v+u):=by
 simp[jh,jH,jM,jio,jaw,h,h2,jgS]
def jcd(h:yr a1 (.str w)=some (.int v))(h2:yr a4 (.str w)=some (.int u)):jh [I10 false a0 a1 a2 a3 a4 a5 a6 a7 a8 a9,.tup [.str kJ,.str w]]=some (.int<|if v - u < 0 then 0 else v - u):=by
 have a:jkF [.int<|v - u,.int 0]=some (.int<|if v - u < 0 then 0 else v - u):=rfl;simp[jh,jH,jM,xn,jiX,h,h2,jgS,a,-qc]
def jbr:∃ z,jh [I10 false (.str nm) a1 a2 a3 a4 (dLn false l) a6 a7 a8 a9,.tup [.str vR,.str w,.int j]]=some (.int z)/\0<=z:=by
 have a:K5 (dLn false l) [.str nm,.str w] (.int 0)=some (.int<|(qG l (nm,w)).getD 0):=by
  show some ((QA (l.map kL) (l.map vL) [.str nm,.str w]).getD (.int 0))=_;rw[Yv (nm,w) l];cases qG l (nm,w)<;>rfl
 generalize(qG l (nm,w)).getD 0=u at a;refine⟨if j - u < 0 then 0 else j - u,?_,by split<;>lia⟩;have b:jkF [.int<|j - u,.int 0]=some (.int<|if j - u < 0 then 0 else j - u):=rfl;generalize dLn false l=X at a;simp[jh,jH,jM,jis,jni,a,jgS,b,-qc]
def QU:jh [I10 false (.str nm) a1 a2 a3 a4 (dLn false l) a6 a7 a8 a9,.tup [.str qF,.str w]]=some (.int<|(qG l (w,nm)).getD 0):=by
 have a:K5 (dLn false l) [.str w,.str nm] (.int 0)=some (.int<|(qG l (w,nm)).getD 0):=by
  show some ((QA (l.map kL) (l.map vL) [.str w,.str nm]).getD (.int 0))=_;rw[Yv (w,nm) l];cases qG l (w,nm)<;>rfl
 generalize(qG l (w,nm)).getD 0=u at a;generalize dLn false l=X at a;simp[jh,jH,jM,jis,jni,a,jgS]
def jck:jh [I10 false a0 a1 a2 a3 a4 a5 (.int v) a7 a8 a9,.tup [.str kr,.str w]]=some (.int v):=by
 simp[jh,jH,jM,jln,jgS]
structure En where
 pl:Int
 kd:List Nat
 nm:List Nat
 nd:Int
 gt:Int
noncomputable def e5(e:En):D:=.tup [.int e.pl,.str e.kd,.str e.nm,.int e.nd,.int e.gt]
structure Fl where
 sz:List Nat->Int
 ow:List Nat->Int
 lv:List Nat->Int
 ln:LN
 cash:Int
 sv:List (List Nat)
 en:List En
 mv:List MV
noncomputable abbrev PoolS.C(p:PoolS):List (List Nat):=p.told.map (·.1)
noncomputable abbrev PoolS.P(p:PoolS):List (List Nat):=p.marks.map (·.1)
def jk(p:PoolS)(o:Bool)(x:Fl):D:=I10 o (.str p.nm) (dct o p.P<|fnOf p.marks) (dct o p.C x.sz) (dct o p.C x.ow) (dct o p.P x.lv) (dLn o x.ln) (.int x.cash) (dSv o x.sv) (.lst o<|x.en.map e5)<|.lst o<|x.mv.map eM
def jj0(o:Bool)(N:W1)(f:List Nat->Int):fz (dct o N f)=dct false N f:=by
 have:fzs (N.map λn=>D.int<|f n)=N.map λn=>D.int (f n):=yw λd hd=>by obtain⟨p,_,rfl⟩:=M7.mp hd;rfl
 simp[dct,fz,this]
def jkJ(o:Bool)(l:LN):fz (dLn o l)=dLn false l:=by
 have:fzs (l.map vL)=l.map vL:=yw λd hd=>by obtain⟨p,_,rfl⟩:=M7.mp hd;rfl
 simp[dLn,fz,this]
def jjg(o:Bool)(l:W1):fz (dSv o l)=dSv false l:=by
 have:fzs (l.map λ_=>D.bl true)=l.map λ_=>D.bl true:=yw λd hd=>by obtain⟨p,_,rfl⟩:=M7.mp hd;rfl
 unfold dSv;rw[fz,this]
def jfe(l:List En):fzs (l.map e5)=l.map e5:=yw λd hd=>by obtain⟨p,_,rfl⟩:=M7.mp hd;rfl
def xh(l:List En):frzs (l.map e5)=true:=jK λd hd=>by obtain⟨p,_,rfl⟩:=M7.mp hd;rfl
def QY(l:List MV):fzs (l.map eM)=l.map eM:=yw λd hd=>by obtain⟨p,_,rfl⟩:=M7.mp hd;rfl
def Kk(l:List MV):frzs (l.map eM)=true:=jK λd hd=>by obtain⟨p,_,rfl⟩:=M7.mp hd;rfl
def jig(p:PoolS)(o:Bool)(x:Fl):fz (jk p o x)=jk p false x:=by
 unfold jk I10;rw[fz];simp[fzs,jj0,jkJ,jjg,fz,jfe,QY]
section
variable {p:PoolS}{x:Fl}{ρ:Rh}{w:List Nat}
def xi{i:Nat}{pv:PF}{n:Int}(a:pV i ρ=some (jk p true x))(b:pv ρ=some (.int n)) :
  J3 i vQ 0 "cash" (λm n=>m - n) pv ρ=some (.nx<|ρ.set i<|some<|jk p true { x with cash:=x.cash - n }):=jdi a b
def Qv{i:Nat}{pv:PF}{e:En}(a:pV i ρ=some (jk p true x))(b:pv ρ=some (e5 e))(c:x.en.length<=1000) :
  kD i (ql 0 "entries" vQ) pv ρ=some (.nx<|ρ.set i<|some<|jk p true { x with en:=x.en++[e] }):=by
 rw[kD,b,L5,a,L5];unfold jk;rw[g8,L5];rw[Y0,L5,jb<|by rw[L3];lia,cond_true,N6];rfl
def jlQ{i:Nat}{pv:PF}{m:MV}(a:pV i ρ=some (jk p true x))(b:pv ρ=some (eM m))(c:x.mv.length<=1000) :
  kD i (ql 0 "moves" vQ) pv ρ=some (.nx<|ρ.set i<|some<|jk p true { x with mv:=x.mv++[m] }):=by
 rw[kD,b,L5,a,L5];unfold jk;rw[g9,L5];rw[Y0,L5,jb<|by rw[L3];lia,cond_true,N6];rfl
def jeC{i:Nat}{pk pv:PF}{n:Int}(a:pV i ρ=some (jk p true x))(b:pk ρ=some (.str w))(c:pv ρ=some (.int n))(d:w∈p.C)(e:p.C.length<=1000) :
  vf i (ql 0 "owed" vQ) pk (λm n=>m - n) pv ρ=some (.nx<|ρ.set i<|some<|jk p true { x with ow:=put x.ow w (x.ow w - n) }):=KF (g:=λm n=>m - n) a g3 b c d e
def jlT{i:Nat}{pk pv:PF}{n:Int}(a:pV i ρ=some (jk p true x))(b:pk ρ=some (.str w))(c:pv ρ=some (.int n))(d:w∈p.C)(e:p.C.length<=1000) :
  vf i (ql 0 "sizes" vQ) pk (λm n=>m - n) pv ρ=some (.nx<|ρ.set i<|some<|jk p true { x with sz:=put x.sz w (x.sz w - n) }):=KF (g:=λm n=>m - n) a g2 b c d e
def jlR{i:Nat}{pk pv:PF}{n:Int}(a:pV i ρ=some (jk p true x))(b:pk ρ=some (.str w))(c:pv ρ=some (.int n))(d:w∈p.P)(e:p.P.length<=1000) :
  vf i (ql 0 "levels" vQ) pk (λm n=>m+n) pv ρ=some (.nx<|ρ.set i<|some<|jk p true { x with lv:=put x.lv w (x.lv w+n) }):=KF (g:=λm n=>m+n) a g4 b c d e
def jjv{i:Nat}{pk pv:PF}{n:Int}(a:pV i ρ=some (jk p true x))(b:pk ρ=some (.str w))(c:pv ρ=some (.int n))(d:w∈p.P)(e:p.P.length<=1000) :
  vf i (ql 0 "levels" vQ) pk (λm n=>m - n) pv ρ=some (.nx<|ρ.set i<|some<|jk p true { x with lv:=put x.lv w (x.lv w - n) }):=KF (g:=λm n=>m - n) a g4 b c d e
def jk7{i:Nat}{pk:PF}(a:pV i ρ=some (jk p true x))(b:pk ρ=some (.str w))(c:x.sv.length<=1000) :
  YI i (ql 0 "served" vQ) pk (pC<|.bl true) ρ=some (.nx<|ρ.set i<|some<|jk p true { x with sv:=qU x.sv w }):=jk0 a b c
def jm5{o:Bool}:Ks 0 "pool_name" (jk p o x)=some (.str p.nm):=rfl
def jga{o:Bool}:Ks 0 "owed" (jk p o x)=some (dct o p.C x.ow):=rfl
def jmP{o:Bool}:Ks 0 "levels" (jk p o x)=some (dct o p.P x.lv):=rfl
def KQ{o:Bool}:Ks 0 "cash" (jk p o x)=some (.int x.cash):=rfl
def jmE{o:Bool}:Ks 0 "served" (jk p o x)=some (dSv o x.sv):=rfl
def jdu{c:Int}(b:w∈p.C)(d:p.C.length<=1000):jo [jk p true x,.str jaB,.str w,.int c]=some (.non,jk p true { x with ow:=put x.ow w (x.ow w - c) }):=by
 have a:=jeC (p:=p) (x:=x) (ρ:=[some<|jk p true x,some<|.str jaB,some<|.str w,some<|.int c,none]) (i:=0) (pk:=pV 2) (pv:=pV 3) rfl rfl rfl b d;generalize jk p true { x with ow:=put x.ow w (x.ow w - c) }=Y,jk p true x=X at *;simp[jo,kh,j7,a,Vl]
def uQ{c:Int}(d:w∈p.C)(e:p.C.length<=1000):jo [jk p true x,.str yA,.str w,.int c]=some (.non,jk p true { x with ow:=put x.ow w<|x.ow w - got c (x.ow w),sz:=put x.sz w (x.sz w - (c - got c (x.ow w))) }):=by
 have g:uR [.int c,.int<|x.ow w]=some (.int<|got c<|x.ow w):=rfl;have h:=jga (p:=p) (x:=x) (o:=true);have j:=yp (o:=true) (f:=x.ow) d;have a:=jeC (p:=p) (x:=x) (ρ:=[some<|jk p true x,some<|.str yA,some<|.str w,some<|.int c,some<|.int<|got c<|x.ow w]) (i:=0) (pk:=pV 2) (pv:=pV 4) rfl rfl rfl d e;have b:=jlT (p:=p) (x:={ x with ow:=put x.ow w (x.ow w - got c (x.ow w)) }) (ρ:=[some<|jk p true { x with ow:=put x.ow w (x.ow w - got c (x.ow w)) },some<|.str yA,some<|.str w,some<|.int c,some<|.int<|got c<|x.ow w]) (i:=0) (pk:=pV 2) (pv:=p2 JO (pV 3)<|pV 4) (n:=c - got c (x.ow w)) rfl rfl (by simp) d e;dsimp only at b;generalize jk p true { x with ow:=put x.ow w<|x.ow w - got c (x.ow w),sz:=put x.sz w (x.sz w - (c - got c (x.ow w))) }=Y2,jk p true { x with ow:=put x.ow w (x.ow w - got c (x.ow w)) }=Y,jk p true x=X,dct true p.C x.ow=DD at *;simp[jo,kh,j7,a,b,h,j,g,Vl,-qc]
def jbf{c:Int}(b:w∈p.P)(d:p.P.length<=1000):jo [jk p true x,.str kJ,.str w,.int c]=some (.non,jk p true { x with lv:=put x.lv w (x.lv w+c) }):=by
 have a:=jlR (p:=p) (x:=x) (ρ:=[some<|jk p true x,some<|.str kJ,some<|.str w,some<|.int c,none]) (i:=0) (pk:=pV 2) (pv:=pV 3) rfl rfl rfl b d;generalize jk p true { x with lv:=put x.lv w (x.lv w+c) }=Y,jk p true x=X at *;simp[jo,kh,j7,a,Vl]
def jgM{kw:List Nat}(h:kw=vR \/ kw=qF):zI false (.str kw) (.tup [.str [108,101,110,100],.str [98,97,99,107]])=some (.bl true):=by
 rcases h with rfl | rfl<;>rfl
def jbT{m:MV}{N:W1}{c:Int}(k:MvOk p.nm N c x.ln m)(h:x.ln.length<=100)(j:x.mv.length<=1000):jo [jk p true x,.str m.1,.str m.2.1,.int m.2.2]=some (.non,jk p true { x with ln:=mvF p.nm x.ln m,mv:=x.mv++[m] }):=by
 have l:=jm5 (p:=p) (x:=x) (o:=true);have f:=jcR h k;have d:m.1=vR \/ m.1=qF:=k.kd.imp id (·.1);have po:=k.po;have a:∀ r:Rh,kC yq 0 (ql 0 "loans" vQ) (ja (pF<|qN 0 "pool_name"<|pV 0)<|ja (pF<|pV 1)<|ja (pF<|pV 2)<|ja (pF<|pV 3) pN) (some (jk p true x)::some (.str m.1)::some (.str m.2.1)::some (.int m.2.2)::r)=some (.non,some (jk p true { x with ln:=mvF p.nm x.ln m })::some (.str m.1)::some (.str m.2.1)::some (.int m.2.2)::r):=by
  intro r;have n:ql 0 "loans" vQ (jk p true x)=some (dLn true x.ln,λz=>I10 true (.str p.nm) (dct true p.P<|fnOf p.marks) (dct true p.C x.sz) (dct true p.C x.ow) (dct true p.P x.lv) z (.int x.cash) (dSv true x.sv) (.lst true<|x.en.map e5)<|.lst true<|x.mv.map eM):=rfl;have e2:jk p true { x with ln:=mvF p.nm x.ln m }=I10 true (.str p.nm) (dct true p.P<|fnOf p.marks) (dct true p.C x.sz) (dct true p.C x.ow) (dct true p.P x.lv) (dLn true<|mvF p.nm x.ln m) (.int x.cash) (dSv true x.sv) (.lst true<|x.en.map e5) (.lst true<|x.mv.map eM):=rfl;rw[e2];generalize jk p true x=X,dLn true x.ln=A,dLn true (mvF p.nm x.ln m)=B at *;unfold kC;simp[l,n,f]
 have b:=jlQ (p:=p) (x:={ x with ln:=mvF p.nm x.ln m }) (ρ:=[some<|jk p true { x with ln:=mvF p.nm x.ln m },some<|.str m.1,some<|.str m.2.1,some<|.int m.2.2,none]) (i:=0) (pv:=yg<|ja (pF<|pV 1)<|ja (pF<|pV 2)<|ja (pF<|pV 3) pN) (m:=m) rfl (by simp[jb,eM]) j;dsimp only at b;have g:=jgM d;have q:(m.1==jaB)=false:=by rcases d with e | e<;>rw[e]<;>rfl
 have s:(m.1==yA)=false:=by rcases d with e | e<;>rw[e]<;>rfl
 have t:(m.1==kJ)=false:=by rcases d with e | e<;>rw[e]<;>rfl
 generalize jk p true { x with ln:=mvF p.nm x.ln m,mv:=x.mv++[m] }=Y2,jk p true { x with ln:=mvF p.nm x.ln m }=Y,jk p true x=X,m.1=kw at *;simp[jo,kh,j7,a,b,g,po,q,s,t,Vl,jb,-kD]
def YN{kw:List Nat}{c:Int}(h:kw=kr \/ ((kw=vR \/ kw=qF)/\¬ 0 < c)):jo [jk p true x,.str kw,.str w,.int c]=some (.non,jk p true x):=by
 generalize jk p true x=X;rcases h with rfl | ⟨rfl | rfl,h⟩
 ·have a:zI false (.str kr) (.tup [.str [108,101,110,100],.str [98,97,99,107]])=some (.bl false):=rfl;simp[jo,kh,j7,a,Vl,jb]
 ·have a:=jgM (kw:=vR)<|.inl rfl;simp[jo,kh,j7,a,h,Vl,jb]
 ·have a:=jgM (kw:=qF)<|.inr rfl;simp[jo,kh,j7,a,h,Vl,jb]
end
def Jz(a:pV i ρ=some (jk p true x))(b:pa ρ=some ds)(c:frzs ds=true)
  (d:∀ a0 a1 a2 a3 a4 a5 a6 a7 a8 a9:D,qY NS [a0,a1,a2,a3,a4,a5,a6,a7,a8,a9] mn=none):yH m i 0 mn pa ρ=(m<|jk p true x::ds).bind λr=>some (r.1,ρ.set i<|some r.2):=by
 rw[yH,b,L5,a,L5];show(bif true&&(frzs ds&&(qY NS _ mn).isNone) then _ else none)=_;rw[d,c];rfl
def jcE(a:po ρ=some (jk p o x))(b:pa ρ=some ds)
  (c:∀ a0 a1 a2 a3 a4 a5 a6 a7 a8 a9:D,qY NS [a0,a1,a2,a3,a4,a5,a6,a7,a8,a9] mn=none) (e:m (jk p false x::fzs ds)=some r) (f:clean r=true):JL m 0 mn po pa ρ=some r:=by
 rw[JL,a,L5];show(bif true&&(qY NS _ mn).isNone then(pa ρ).bind λds=>(m<|fzs<|jk p o x::ds).bind λd=>bif frzs (jk p o x::ds)||clean d then some d else none else none)=_;rw[c,b,L5,fzs,jig,e,L5,f,Bool.or_true];rfl
def jeP(k:jd d (.int 0)=some (.str kw))(l:jd d (.int 1)=some (.str w))(fd:fz d=d)
  (j:jh [jk p false x,d]=some (.int nd))
  (give:jo [jk p true { x with cash:=x.cash - got nd x.cash,en:=x.en++[⟨pl,kw,w,nd,got nd x.cash⟩] },.str kw,.str w,.int<|got nd x.cash]=some (.non,jk p true y))
  (h:zI false (.str kw) (.tup [.str [112,97,121],.str [114,101,112,97,121]])=some (.bl b)) (t:x.en.length<=1000) (u:y.sv.length<=1000) :
  jq [jk p true x,.int pl,d]=some (.non,jk p true<|if b=true/\got nd x.cash=nd/\0 < nd then{ y with sv:=qU y.sv w } else y):=by
 have m:uR [.int nd,.int x.cash]=some (.int<|got nd x.cash):=rfl;generalize B:got nd x.cash=g at *;have q:=KQ (p:=p) (x:=x) (o:=true);have a:∀ r:Rh,JL jh 0 "need_of" (pV 0) (ja (pV 2) pN) (some (jk p true x)::some (.int pl)::some d::r)=some (.int nd):=λr=>jcE (x:=x) rfl (ds:=[d]) (by simp) (λ_ _ _ _ _ _ _ _ _ _=>rfl) (by rw[show fzs [d]=[d] by rw[fzs,fd];rfl];exact j) rfl;have c:=xi (p:=p) (x:=x) (ρ:=[some<|jk p true x,some<|.int pl,some d,some<|.str kw,some<|.str w,some<|.int nd,some<|.int g]) (i:=0) (pv:=pV 6) (n:=g) rfl rfl;have e:=Qv (p:=p) (x:={ x with cash:=x.cash - g }) (ρ:=[some<|jk p true { x with cash:=x.cash - g },some<|.int pl,some d,some<|.str kw,some<|.str w,some<|.int nd,some<|.int g]) (i:=0) (pv:=yg<|ja (pF<|pV 1)<|ja (pF<|pV 3)<|ja (pF<|pV 4)<|ja (pF<|pV 5)<|ja (pF<|pV 6) pN) (e:=⟨pl,kw,w,nd,g⟩) rfl (by simp[jb,e5]) t;dsimp only at e;have f:yH jo 0 0 "give" (ja (pF<|pV 3)<|ja (pF<|pV 4)<|ja (pF<|pV 6) pN) [some<|jk p true { x with cash:=x.cash - g,en:=x.en++[⟨pl,kw,w,nd,g⟩] },some<|.int pl,some d,some<|.str kw,some<|.str w,some<|.int nd,some<|.int g]=some (.non,[some<|jk p true y,some<|.int pl,some d,some<|.str kw,some<|.str w,some<|.int nd,some<|.int g]):=by
  rw[Jz (x:={ x with cash:=x.cash - g,en:=x.en++[⟨pl,kw,w,nd,g⟩] }) rfl (ds:=[.str kw,.str w,.int g]) (by simp) rfl<|λ_ _ _ _ _ _ _ _ _ _=>rfl,give];rfl
 have s:=jk7 (p:=p) (x:=y) (ρ:=[some<|jk p true y,some<|.int pl,some d,some<|.str kw,some<|.str w,some<|.int nd,some<|.int g]) (i:=0) (pk:=pV 4) (w:=w) rfl rfl u;have A:jk p true (if b=true/\g=nd/\0 < nd then{ y with sv:=qU y.sv w } else y)=if b=true/\g=nd/\0 < nd then jk p true { y with sv:=qU y.sv w } else jk p true y:=by split<;>rfl
 rw[A];generalize jk p true { y with sv:=qU y.sv w }=Y2,jk p true y=Y,jk p true { x with cash:=x.cash - g,en:=x.en++[⟨pl,kw,w,nd,g⟩] }=X3,jk p true { x with cash:=x.cash - g }=X2,jk p true x=X at *;cases b with
 | false=>simp[jq,kh,jX,k,l,a,q,m,c,e,f,s,h,Vl,jb,-qc,-kD,-JL,-yH]
 | true =>
  by_cases v:g=nd
  ·subst v;by_cases z:0 < g
   ·simp[jq,kh,jX,k,l,a,q,m,c,e,f,s,h,z,Vl,jb,-qc,-kD,-JL,-yH]
   ·simp[jq,kh,jX,k,l,a,q,m,c,e,f,s,h,z,Vl,jb,-qc,-kD,-JL,-yH]
  ·simp[jq,kh,jX,k,l,a,q,m,c,e,f,s,h,v,Vl,jb,-qc,-kD,-JL,-yH]
abbrev rx(x:Fl)(pl:Int)(kw w:List Nat)(nd:Int):Fl:={ x with cash:=x.cash - got nd x.cash,en:=x.en++[⟨pl,kw,w,nd,got nd x.cash⟩] }
noncomputable abbrev yk:List Nat:=[103,117,97,114,100]
noncomputable abbrev YX:List Nat:=[112,97,114,116]
def wtk(kw:List Nat)(g:Int):Int:=if kw∈[YX,jaB,j8,yA,kr,kJ,vR,qF] then g else 0
def lbk(kw:List Nat)(g:Int):Int:=if kw∈[vR,qF] then g else 0
def tot(es:List En):Int:=(es.map λe=>wtk e.kd e.gt).sum
def lbs(es:List En):Int:=(es.map λe=>lbk e.kd e.gt).sum
noncomputable def wU(ms:List MV):Int:=(ms.map (·.2.2)).sum
noncomputable def jfx(p:PoolS)(i:Int):List Nat:=(p.guards.getD i.toNat ([],[])).1
def Vq(p:PoolS)(f:List Nat->Int)(e:En):List Nat->Int:=if e.kd=kJ then put f e.nm (f e.nm+e.gt) else if e.kd=yk then put f (jfx p e.pl) (f (jfx p e.pl) - e.gt) else f
def yR(p:PoolS)(f:List Nat->Int)(es:List En):List Nat->Int:=es.foldl (Vq p) f
structure PtOk2(p:PoolS)(e:En):Prop where
 ea:e.kd≠JC
 fi:e.kd=kJ->e.nm∈p.P
 gu:e.kd=yk->∃(i:Nat) (g:WG),e.pl=i/\p.guards[i]?=some g/\g.1∈p.P
structure FlOk(p:PoolS)(N:W1)(c B:Int)(L0:LN)(l0:List Nat->Int)(x:Fl):Prop where
 sz:∀ n,0<=x.sz n
 ow:∀ n,0<=x.ow n/\x.ow n<=B
 lv:∀ n,0<=x.lv n/\x.lv n<=fnOf p.marks n
 ln:x.ln=reN p.nm L0 x.mv
 mv:MvsOk p.nm N c L0 x.mv
 c0:0<=x.cash
 c1:x.cash<=c
 svl:x.sv.length<=x.en.length
 mvl:x.mv.length<=x.en.length
 cs:x.cash+tot x.en=c
 ms:wU x.mv=lbs x.en
 pv:x.lv=yR p l0 x.en
 po:∀ e∈x.en,PtOk2 p e
def zF(l:W1)(w:List Nat):(qU l w).length<=l.length+1:=by
 unfold qU;split<;>simp
def wA(es:List En)(e:En):tot (es++[e])=tot es+wtk e.kd e.gt:=by simp[tot]
def uC(es:List En)(e:En):lbs (es++[e])=lbs es+lbk e.kd e.gt:=by simp[lbs]
def QF(p:PoolS)(f:List Nat->Int)(es:List En)(e:En):yR p f (es++[e])=Vq p (yR p f es) e:=by simp[yR]
def jcI(h:∀ e∈es,PtOk2 p e)(k:PtOk2 p e):∀ a∈es++[e],PtOk2 p a:=λa b=>(N3.mp b).elim (h a) λz=>by rw[M9.mp z];exact k
def jij(h:kw≠JC/\kw≠kJ/\kw≠yk):PtOk2 p ⟨pl,kw,w,nd,g⟩:=⟨h.1,λz=>absurd z h.2.1,λz=>absurd z h.2.2⟩
def fl4(k:FlOk p N c B L0 l0 x)(e:En)  (g:v+wtk e.kd e.gt=x.cash) (h:lbk e.kd e.gt=0) (b:f=Vq p x.lv e) (d:PtOk2 p e):v+tot (x.en++[e])=c/\wU x.mv=lbs (x.en++[e])/\f=yR p l0 (x.en++[e])/\∀ a∈x.en++[e],PtOk2 p a:=by
 have:=k.cs;exact⟨by rw[wA];lia,by rw[uC,k.ms];lia,by rw[QF,<- k.pv];exact b,jcI k.po d⟩
def wz(h:∀ n,0<=f n/\f n<=B)(a:0<=v)(h1:v<=B)(n:List Nat):0<=put f w v n/\put f w v n<=B:=by
 unfold put;split
 ·exact⟨a,h1⟩
 ·exact h n
def jfD{w:List Nat}{f m:List Nat->Int}{v:Int}(h:∀ n,0<=f n/\f n<=m n)(a:0<=v)(h1:v<=m w)(n:List Nat):0<=put f w v n/\put f w v n<=m n:=by
 unfold put;split
 ·rename_i e;subst e;exact⟨a,h1⟩
 ·exact h n
def jcu(h:PoolOk O p)(L:∀ w∈O,w∈N)(hn:p.nm∈N)(hN:N.length<=3)(hL:LnOk N L0)(k:FlOk p N c B L0 l0 x) 
  (hr:(d=.tup [.str kw,.str w]/\jcN p.C p.P O kw w) \/ (∃ j,kw=vR/\d=.tup [.str kw,.str w,.int j]/\w∈O)) (hel:x.en.length<=900) :
  ∃ x',jq [jk p true x,.int pl,d]=some (.non,jk p true x')/\FlOk p N c B L0 l0 x'/\x'.en.length=x.en.length+1/\x'.cash<=x.cash/\(kw=kr->x'.cash=0):=by
 have M:p.C.length<=1000:=by have:=h.told2;rw[L3];lia
 have m2:p.P.length<=1000:=by have:=h.marks2;rw[L3];lia
 have c0:=k.c0;have c1:=k.c1;have svl:=k.svl;have mvl:=k.mvl;have cs:=k.cs;have o:LnOk N x.ln:=by rw[k.ln];exact jcK hn hL k.mv
 have hll:=o.len hN;have key:∀{nd:Int}{y:Fl}{b:Bool},jd d (.int 0)=some (.str kw)->jd d (.int 1)=some (.str w)->fz d=d->jh [jk p false x,d]=some (.int nd)->0<=nd ->
   (∀ g,wtk kw g=g)->(kw≠JC/\kw≠yk/\(kw=kJ->w∈p.P)/\(kw=kr->nd=x.cash)) ->
   (0<=got nd x.cash->got nd x.cash<=nd->got nd x.cash<=x.cash->jo [jk p true<|rx x pl kw w nd,.str kw,.str w,.int<|got nd x.cash]=some (.non,jk p true y)/\
    y.cash=x.cash - got nd x.cash/\y.en=x.en++[⟨pl,kw,w,nd,got nd x.cash⟩]/\y.sv=x.sv/\(∀ n,0<=y.sz n)/\(∀ n,0<=y.ow n/\y.ow n<=B)/\(∀ n,0<=y.lv n/\y.lv n<=fnOf p.marks n)/\y.ln=reN p.nm L0 y.mv/\MvsOk p.nm N c L0 y.mv/\y.mv.length<=x.mv.length+1/\wU y.mv=wU x.mv+lbk kw (got nd x.cash)/\y.lv=Vq p x.lv ⟨pl,kw,w,nd,got nd x.cash⟩) ->
   zI false (.str kw) (.tup [.str [112,97,121],.str [114,101,112,97,121]])=some (.bl b) ->
   ∃ x',jq [jk p true x,.int pl,d]=some (.non,jk p true x')/\FlOk p N c B L0 l0 x'/\x'.en.length=x.en.length+1/\x'.cash<=x.cash/\(kw=kr->x'.cash=0):=by
  intro nd y b f i fd q hnd E ⟨F,G,H,r⟩ give I;have s:0<=got nd x.cash/\got nd x.cash<=nd/\got nd x.cash<=x.cash/\(nd=x.cash->got nd x.cash=x.cash):=by unfold got;split<;>lia
  obtain⟨gv,y1,t,A,Q,R,S,T,U,y9,J,K⟩:=give s.1 s.2.1 s.2.2.1;have V:y.en.length=x.en.length+1:=by rw[t];simp
  have sp:=zF y.sv w;have W:y.cash+tot y.en=c:=by rw[y1,t,wA];show _+(_+wtk kw (got nd x.cash))=c;rw[E];lia
  have X:wU y.mv=lbs y.en:=by rw[t,uC,J,k.ms]
  have Y:y.lv=yR p l0 y.en:=by rw[t,QF,<- k.pv,K]
  have Z:∀ e∈y.en,PtOk2 p e:=by rw[t];exact jcI k.po ⟨F,H,λz=>absurd z G⟩
  refine⟨if b=true/\got nd x.cash=nd/\0 < nd then{ y with sv:=qU y.sv w } else y,jeP (p:=p) (x:=x) (w:=w) (pl:=pl) (y:=y) f i fd q gv I (by lia)<|by rw[A];lia,?_⟩;rw[A] at sp;split
  ·exact⟨⟨Q,R,S,T,U,by show 0<=y.cash;lia,by show y.cash<=c;lia,by show(qU y.sv w).length<=y.en.length;rw[A];lia,by show y.mv.length<=y.en.length;lia,W,X,Y,Z⟩,V,by show y.cash<=x.cash;lia,λz=>by show y.cash=0;have:=s.2.2.2<|r z;lia⟩
  ·exact⟨⟨Q,R,S,T,U,by lia,by lia,by rw[A];lia,by lia,W,X,Y,Z⟩,V,by lia,λz=>by have:=s.2.2.2<|r z;lia⟩
 rcases hr with⟨rfl,hk⟩ | ⟨j,rfl,rfl,a⟩
 ·have f:jd (.tup [.str kw,.str w]) (.int 0)=some (.str kw):=rfl;have i:jd (.tup [.str kw,.str w]) (.int 1)=some (.str w):=rfl;rcases hk with⟨rfl | rfl | rfl,a⟩ | ⟨rfl,a⟩ | ⟨rfl,a⟩
  ·refine key (b:=true) (nd:=x.ow w) (y:={ rx x pl jaB w (x.ow w) with ow:=put x.ow w (x.ow w - got (x.ow w) x.cash) }) f i rfl (jdw<|yp a) (k.ow w).1 (λ_=>rfl) (by simp[JC]) (λg0 m g2=>⟨jdu a M,rfl,rfl,rfl,k.sz,?_,k.lv,k.ln,k.mv,by simp,(Int.add_zero _).symm,rfl⟩) rfl;have:=k.ow w;exact wz k.ow (by lia) (by lia)
  ·have hs:=k.sz w;have ho:=k.ow w;refine key (b:=true) (nd:=x.ow w+x.sz w) (y:={ rx x pl yA w (x.ow w+x.sz w) with ow:=put x.ow w<|x.ow w - got (got (x.ow w+x.sz w) x.cash) (x.ow w),sz:=put x.sz w (x.sz w - (got (x.ow w+x.sz w) x.cash - got (got (x.ow w+x.sz w) x.cash) (x.ow w))) }) f i rfl (jal (yp a)<|yp a) (by lia) (λ_=>rfl) (by simp[JC]) (λg0 m g2=>⟨uQ a M,rfl,rfl,rfl,?_,?_,k.lv,k.ln,k.mv,by simp,(Int.add_zero _).symm,rfl⟩) rfl
   ·refine jfg k.sz ?_;generalize got (x.ow w+x.sz w) x.cash=g at *;unfold got;split<;>lia
   ·refine wz k.ow ?_ ?_
    all_goals
     generalize got (x.ow w+x.sz w) x.cash=g at *;unfold got;split<;>lia
  ·refine key (b:=false) (nd:=x.cash) (y:=rx x pl kr w x.cash) f i rfl jck c0 (λ_=>rfl) (by simp[JC]) (λg0 m g2=>⟨YN<|.inl rfl,rfl,rfl,rfl,k.sz,k.ow,k.lv,k.ln,k.mv,by simp,(Int.add_zero _).symm,rfl⟩) rfl
  ·have hb:=k.lv w;have D:0<=(if fnOf p.marks w - x.lv w < 0 then 0 else fnOf p.marks w - x.lv w)/\x.lv w+(if fnOf p.marks w - x.lv w < 0 then 0 else fnOf p.marks w - x.lv w)<=fnOf p.marks w:=by split<;>lia
   refine key (b:=false) (nd:=if fnOf p.marks w - x.lv w < 0 then 0 else fnOf p.marks w - x.lv w) (y:={ rx x pl kJ w (if fnOf p.marks w - x.lv w < 0 then 0 else fnOf p.marks w - x.lv w) with lv:=put x.lv w (x.lv w+got (if fnOf p.marks w - x.lv w < 0 then 0 else fnOf p.marks w - x.lv w) x.cash) }) f i rfl (jcd (yp a)<|yp a) D.1 (λ_=>rfl) (by simpa [JC] using a) (λg0 m g2=>⟨jbf a m2,rfl,rfl,rfl,k.sz,k.ow,?_,k.ln,k.mv,by simp,(Int.add_zero _).symm,rfl⟩) rfl;exact jfD k.lv (by lia) (by lia)
  ·have u:0<=(qG x.ln (w,p.nm)).getD 0:=xq o.mem;by_cases v:0 < got ((qG x.ln (w,p.nm)).getD 0) x.cash
   ·refine key (b:=false) (nd:=(qG x.ln (w,p.nm)).getD 0) (y:={ rx x pl qF w ((qG x.ln (w,p.nm)).getD 0) with ln:=mvF p.nm x.ln (qF,w,got ((qG x.ln (w,p.nm)).getD 0) x.cash),mv:=x.mv++[(qF,w,got ((qG x.ln (w,p.nm)).getD 0) x.cash)] }) f i rfl QU u (λ_=>rfl) (by simp[JC]) (λg0 m g2=>?_) rfl;have mk:MvOk p.nm N c x.ln (qF,w,got ((qG x.ln (w,p.nm)).getD 0) x.cash):=⟨.inr ⟨rfl,m⟩,L w a,v,by dsimp only;lia⟩;refine⟨jbT (x:=rx x pl qF w<|(qG x.ln (w,p.nm)).getD 0) mk (by show x.ln.length<=100;lia)<|by show x.mv.length<=1000;lia,rfl,rfl,rfl,k.sz,k.ow,k.lv,?_,?_,by simp,by simp[wU];rfl,rfl⟩
    ·dsimp only;rw[wV,<- k.ln]
    ·exact MvsOk.snoc k.mv (by rw[<- k.ln];exact mk)
   ·exact key (b:=false) (nd:=(qG x.ln (w,p.nm)).getD 0) (y:=rx x pl qF w<|(qG x.ln (w,p.nm)).getD 0) f i rfl QU u (λ_=>rfl) (by simp[JC]) (λg0 m g2=>⟨YN<|.inr ⟨.inr rfl,v⟩,rfl,rfl,rfl,k.sz,k.ow,k.lv,k.ln,k.mv,by simp,(by show wU x.mv=wU x.mv+got _ _;lia),rfl⟩) rfl
 ·have f:jd (.tup [.str vR,.str w,.int j]) (.int 0)=some (.str vR):=rfl;have i:jd (.tup [.str vR,.str w,.int j]) (.int 1)=some (.str w):=rfl;obtain⟨z,ez,D⟩:=jbr (a1:=dct false p.P<|fnOf p.marks) (a2:=dct false p.C x.sz) (a3:=dct false p.C x.ow) (a4:=dct false p.P x.lv) (l:=x.ln) (nm:=p.nm) (a6:=.int x.cash) (a7:=dSv false x.sv) (a8:=.lst false<|x.en.map e5) (a9:=.lst false<|x.mv.map eM) (w:=w) (j:=j);by_cases v:0 < got z x.cash
  ·refine key (b:=false) (nd:=z) (y:={ rx x pl vR w z with ln:=mvF p.nm x.ln (vR,w,got z x.cash),mv:=x.mv++[(vR,w,got z x.cash)] }) f i rfl ez D (λ_=>rfl) (by simp[JC]) (λg0 m g2=>?_) rfl;have mk:MvOk p.nm N c x.ln (vR,w,got z x.cash):=⟨.inl rfl,L w a,v,by dsimp only;lia⟩;refine⟨jbT (x:=rx x pl vR w z) mk (by show x.ln.length<=100;lia)<|by show x.mv.length<=1000;lia,rfl,rfl,rfl,k.sz,k.ow,k.lv,?_,?_,by simp,by simp[wU];rfl,rfl⟩
   ·dsimp only;rw[wV,<- k.ln]
   ·exact MvsOk.snoc k.mv (by rw[<- k.ln];exact mk)
  ·exact key (b:=false) (nd:=z) (y:=rx x pl vR w z) f i rfl ez D (λ_=>rfl) (by simp[JC]) (λg0 m g2=>⟨YN<|.inr ⟨.inl rfl,v⟩,rfl,rfl,rfl,k.sz,k.ow,k.lv,k.ln,k.mv,by simp,(by show wU x.mv=wU x.mv+got _ _;lia),rfl⟩) rfl
noncomputable abbrev W3s:=List Nat×Int×Int
noncomputable def eT(t:W3s):D:=.tup [.str t.1,.int t.2.1,.int t.2.2]
def shE(pl:Int)(t:W3s):En:=⟨pl,j8,t.1,t.2.1,t.2.2⟩
theorem jb9:∀(ws:W1) (ns gs:List Int),Ju (ws.map D.str) (ns.map D.int) (gs.map D.int)=(ws.zip<|ns.zip gs).map eT
 | [],_,_=>rfl
 | _::_,[],_=>rfl
 | _::_,_::_,[]=>rfl
 | w::ws,n::ns,g::gs=>by
  rw[L6,L6,L6,Ju,jb9 ws ns gs];rfl
theorem Vx(h:PoolOk O p)  : ∀{T:List W3s}{x:Fl}{o6 o7 o8:Option D},FlOk p N c B L0 l0 x->x.en.length+T.length<=950->(T.map (·.1)).Nodup ->
  (∀ t∈T,t.1∈p.C/\t.2.1=x.ow t.1/\0<=t.2.2/\t.2.2<=t.2.1)->(T.map (·.2.2)).sum<=x.cash ->
  ∃ x':Fl,(∃ o6' o7' o8':Option D,jL (gT 3<|gC (jc [0] 6)<|gC (jc [0] 7)<|gC (jc [0] 8) gN) yt (T.map eT) [some<|jk p true x,some<|.int pl,a2,a3,a4,some<|.bl b,o6,o7,o8]=some (.nx [some<|jk p true x',some<|.int pl,a2,a3,a4,some<|.bl b,o6',o7',o8'])) /\
   FlOk p N c B L0 l0 x'/\x'.en.length=x.en.length+T.length/\x'.cash<=x.cash
 | [],x,o6,o7,o8,k,_,_,_,_=>⟨x,⟨o6,o7,o8,rfl⟩,k,rfl,Int.le_refl _⟩
 | t::T,x,o6,o7,o8,k,J,nd,f,K=>by
  obtain⟨o,L,M,P⟩:=f t (by simp);rw[L6,List.nodup_cons] at nd;rw[M4] at J;rw[L6,List.sum_cons] at K;have Q:0<=(T.map (·.2.2)).sum:=by
   have:∀(T:List W3s),(∀ t∈T,0<=t.2.2)->0<=(T.map (·.2.2)).sum:=λT=>by
    induction T with
    | nil=>intro _;simp
    | cons a T R=>intro q;rw[L6,List.sum_cons];have:=R<|λt f=>q t (by simp[f]);have:=q a (by simp);lia
   exact this T λg l=>(f g<|by simp[l]).2.2.1
  have S:p.C.length<=1000:=by have:=h.told2;rw[L3];lia
  have c0:=k.c0;have c1:=k.c1;have svl:=k.svl;have mvl:=k.mvl;have U:=k.ow t.1
  let u:Fl:={ x with cash:=x.cash - t.2.2 }
  let y:Fl:={ u with ow:=put x.ow t.1 (x.ow t.1 - t.2.2) }
  let m:Fl:={ y with en:=x.en++[shE pl t] }
  let j:Fl:=if b=true then{ m with sv:=qU x.sv t.1 } else m
  have V:FlOk p N c B L0 l0 j:=by
   have W:(x.en++[shE pl t]).length=x.en.length+1:=by simp
   have A:∀ n,0<=put x.ow t.1 (x.ow t.1 - t.2.2) n/\put x.ow t.1 (x.ow t.1 - t.2.2) n<=B:=wz k.ow (by lia) (by lia);have X:=zF x.sv t.1;have d:0<=x.cash - t.2.2/\x.cash - t.2.2<=c:=by lia
   obtain⟨E,F,G,H⟩:=fl4 k (shE pl t) (v:=x.cash - t.2.2) (Int.sub_add_cancel ..) rfl rfl<|jij (by decide);cases b with
   | true=>exact⟨k.sz,A,k.lv,k.ln,k.mv,d.1,d.2,by show(qU x.sv t.1).length<=(x.en++[shE pl t]).length;lia,by show x.mv.length<=(x.en++[shE pl t]).length;lia,E,F,G,H⟩
   | false=>exact⟨k.sz,A,k.lv,k.ln,k.mv,d.1,d.2,by show x.sv.length<=(x.en++[shE pl t]).length;lia,by show x.mv.length<=(x.en++[shE pl t]).length;lia,E,F,G,H⟩
  have I:j.en=x.en++[shE pl t]:=by cases b<;>rfl
  have Y:j.cash=x.cash - t.2.2:=by cases b<;>rfl
  have Z:j.ow=put x.ow t.1 (x.ow t.1 - t.2.2):=by cases b<;>rfl
  obtain⟨x',⟨o6',o7',o8',e⟩,k',r,cl'⟩:=Vx h (pl:=pl) (a2:=a2) (a3:=a3) (a4:=a4) (b:=b) (T:=T) (x:=j) (o6:=some<|.str t.1) (o7:=some<|.int t.2.1) (o8:=some<|.int t.2.2) V (by rw[I];simp;lia) nd.2 (λg l=>by
   have:=f g (by simp[l]);have s:g.1≠t.1:=λz=>nd.1<|z▸M7.mpr ⟨g,l,rfl⟩;rw[Z,VP s];exact this) (by rw[Y];lia)
  refine⟨x',⟨o6',o7',o8',?_⟩,k',by rw[r,I];simp;lia,by lia⟩;rw[L6,lpF ?_,e];show yt [some<|jk p true x,some<|.int pl,a2,a3,a4,some<|.bl b,some<|.str t.1,some<|.int t.2.1,some<|.int t.2.2]=_;apply sq (by exact xi (x:=x) rfl rfl);apply sq (by exact jeC (x:=u) rfl rfl rfl o S);apply sq (by exact Qv (x:=y) (e:=shE pl t) rfl (by simp[jb,e5,shE])<|by show x.en.length<=1000;lia);cases b with
  | false=>rfl
  | true=>exact jk7 (x:=m) (pk:=pV 6) (ρ:=[some<|jk p true m,some<|.int pl,a2,a3,a4,some<|.bl true,some<|.str t.1,some<|.int t.2.1,some<|.int t.2.2]) (i:=0) (w:=t.1) rfl rfl (by show x.sv.length<=1000;lia)
def vi(l:List Int):frzs (l.map D.int)=true:=jK λd hd=>by obtain⟨p,_,rfl⟩:=M7.mp hd;rfl
def yZ(l:List Int):fzs (l.map D.int)=l.map D.int:=yw λd hd=>by obtain⟨p,_,rfl⟩:=M7.mp hd;rfl
def JT(l:List Int):ym (l.map D.int)=true:=by
 rw[yM,List.all_map,List.all_eq_true];intro x _;rfl
theorem x8:∀{a:List α}{b:List β},a.length=b.length->(a.zip b).map (·.2)=b
 | [],[],_=>rfl
 | [],_::_,h=>by simp at h
 | _::_,[],h=>by simp at h
 | a::l,b::m,h=>by simp at h;simp[x8 h]
theorem jbY:∀{a:List α}{b:List β},a.length=b.length->(a.zip b).map (·.1)=a
 | [],[],_=>rfl
 | [],_::_,h=>by simp at h
 | _::_,[],h=>by simp at h
 | a::l,b::m,h=>by simp at h;simp[jbY h]
def uT{x:Fl}{N O:W1}{c B:Int}{l0:List Nat->Int}(h:PoolOk O p)(k:FlOk p N c B L0 l0 x)(hB:B<=10 ^ 20)(hc:c<=2 ^ 900){pl:Int}{ws:W1}(hl:ws.length<=20)(S:∀ w∈ws,w∈p.C)(nd:ws.Nodup)(V:x.en.length<=900) :
  ∃ x',jG [jk p true x,.int pl,.tup<|ws.map D.str]=some (.non,jk p true x')/\FlOk p N c B L0 l0 x'/\x'.en.length<=x.en.length+20/\x'.cash<=x.cash:=by
 have c0:=k.c0;have c1:=k.c1
 let ns:=ws.map x.ow
 have j:∀ v∈ns,0<=v/\v<=10 ^ 20:=λv K=>by
  obtain⟨w,_,rfl⟩:=M7.mp K;have:=k.ow w
  lia
 have s:∀ v∈ns,0<=v:=λv K=>(j v K).1;have d:ns.length=ws.length:=L3 ..;have u:ns.sum<=10 ^ 30:=by
  have:=jfK ns j;have n:(10:Int) ^ 20*ns.length<=10 ^ 20*20:=Int.mul_le_mul_of_nonneg_left (by lia) (by decide)
  lia
 have W:=jbO (ns:=ns) (c:=x.cash) (by lia) j c0 (by lia) u;have g:(yD ns x.cash).length=ws.length:=by rw[xI,d]
 let a:=yD ns x.cash
 let T:=ws.zip<|ns.zip a
 have y:T.map (·.1)=ws:=jbY (by rw[List.length_zip,d,g];simp);have L:T.map (·.2)=ns.zip a:=x8 (by rw[List.length_zip,d,g];simp);have M:T.map (·.2.2)=a:=by
  have:T.map (·.2.2)=(T.map (·.2)).map (·.2):=by rw[U2];rfl
  rw[this,L];exact x8 (by rw[d,g])
 have Y:T.length=ws.length:=by rw[<- y,L3]
 have P:∀ t∈T,t.1∈p.C/\t.2.1=x.ow t.1/\0<=t.2.2/\t.2.2<=t.2.1:=by
  intro t Z;obtain⟨i,hi⟩:=List.mem_iff_getElem?.mp Z;rw[List.getElem?_zip_eq_some] at hi;obtain⟨H,n⟩:=hi;rw[List.getElem?_zip_eq_some] at n;obtain⟨n,h3⟩:=n;have I:=jbt c0 s h3 n;have l:(ws.map x.ow)[i]?=some t.2.1:=n;rw[List.getElem?_map,H] at l;simp at l;exact⟨S _<|List.mem_of_getElem? H,l.symm,I⟩
 have Q:a.sum<=x.cash:=by
  rcases jah c0 s with⟨q1,q2⟩ | q
  ·show(yD ns x.cash).sum<=_;rw[q1];exact q2
  ·show(yD ns x.cash).sum<=_;lia
 let b:Bool:=decide (0 < ns.sum)&&decide (a=ns)
 obtain⟨x',⟨o6,o7,o8,e⟩,k',en',R⟩:=Vx h (pl:=pl) (a2:=some<|.tup<|ws.map D.str) (a3:=‹ns.map D.int›) (a4:=‹a.map D.int›) (b:=b) (T:=T) (x:=x) (o6:=none) (o7:=none) (o8:=none) k (by lia) (by rw[y];exact nd) P (by rw[M];exact Q);refine⟨x',?_,k',by lia,R⟩;have hz:=jb9 ws ns a;have U:jW (jc [] 0) qT (pF<|p2 yr (qN 0 "owed"<|pV 1)<|pV 0) (ws.map D.str) [none,some<|jk p true x]=some (ns.map D.int):=by
  show _=some ((ws.map x.ow).map D.int);rw[U2];refine jy (en:=D.str) rfl (λρ=>∃ o,ρ=[o,some<|jk p true x]) ?_ ⟨none,rfl⟩;rintro r hr ρ ⟨o,rfl⟩;have h0:=jga (p:=p) (x:=x) (o:=true);have H:=yp (o:=true) (f:=x.ow)<|S r hr;refine⟨[some<|.str r,some<|jk p true x],rfl,?_,_,rfl⟩;generalize jk p true x=X,dct true p.C x.ow=DD at *;simp[h0,H]
 have z:=KQ (p:=p) (x:=x) (o:=true);have A:lim ws.length=true:=jb (by lia);have E:=jg1 true true a ns;have F:jnf [.tup<|ws.map D.str,.lst false<|ns.map D.int,.lst false<|a.map D.int]=some (T.map eT):=by
  show(bif decide ((ws.map D.str).length<=(ns.map D.int).length)&&decide ((ws.map D.str).length<=(a.map D.int).length) then some (Ju (fzs<|ws.map D.str) (fzs<|ns.map D.int)<|fzs<|a.map D.int) else none)=_;have l1:(ws.map D.str).length=ws.length:=L3 ..;have l2:(ns.map D.int).length=ns.length:=L3 ..;have l3:(a.map D.int).length=a.length:=L3 ..;have l4:a.length=ws.length:=g;have d1:decide ((ws.map D.str).length<=(ns.map D.int).length)=true:=X8 (by lia);have d2:decide ((ws.map D.str).length<=(a.map D.int).length)=true:=X8 (by lia);rw[d1,d2,Kd,yZ,yZ,hz];rfl
 have G:qB [.lst false<|ns.map D.int,.int x.cash]=↑(a.map D.int):=W;have I:b=(decide (0 < ns.sum)&&decide (a=ns)):=rfl
 clear_value T a ns b
 generalize jk p true x'=X' at *;generalize jk p true x=X at *;by_cases J:0 < ns.sum
 ·have m:b=decide (a=ns):=by rw[I,X8 J,Bool.true_and]
  rw[m] at e;simp[jG,kh,yK,jv,U,z,A,G,E,vi,yZ,JT,J,F,e,Vl,yS,Kd]
 ·have m:b=false:=by rw[I,X9 J,Bool.false_and]
  rw[m] at e;simp[jG,kh,yK,jv,U,z,A,G,E,vi,yZ,JT,J,F,e,Vl,yS,Kd]
section
variable {p:PoolS}{x:Fl}{N O:W1}{c B:Int}{L0:LN}{l0:List Nat->Int}
def jak(h:PoolOk O p)(k:FlOk p N c B L0 l0 x){pl:Nat}{po cl:List Nat}(a:p.guards[pl]?=some (po,cl))(h1:po∈p.P)(h2:cl∈p.C)(m:x.en.length<=900) :
  ∃ x',yi [jk p true x,.int pl,.str po,.str cl]=some (.non,jk p true x')/\FlOk p N c B L0 l0 x'/\x'.en.length=x.en.length+1/\x'.cash=x.cash:=by
 have n:p.C.length<=1000:=by have:=h.told2;rw[L3];lia
 have q:p.P.length<=1000:=by have:=h.marks2;rw[L3];lia
 have r:=k.ow cl;have t:=k.lv po;have svl:=k.svl;have mvl:=k.mvl;have u:uR [.int<|x.ow cl,.int<|x.lv po]=some (.int<|got (x.ow cl)<|x.lv po):=rfl;have I:=jfb (L:=x.ow cl) (s:=x.lv po) r.1 t.1;generalize got (x.ow cl) (x.lv po)=g at *
 let i:Fl:={ x with lv:=put x.lv po (x.lv po - g) }
 let j:Fl:={ i with ow:=put x.ow cl (x.ow cl - g) }
 let l:Fl:={ j with en:=x.en++[⟨pl,yk,cl,x.ow cl,g⟩] }
 have b:(x.en++[(⟨pl,yk,cl,x.ow cl,g⟩:En)]).length=x.en.length+1:=by simp
 have d:jfx p pl=po:=by unfold jfx;rw[N9,List.getD_eq_getElem?_getD,a];rfl
 obtain⟨w,y,A,D⟩:=fl4 k ⟨pl,yk,cl,x.ow cl,g⟩ (v:=x.cash) (f:=put x.lv po<|x.lv po - g) (Int.add_zero _) rfl (by rw[<- d];rfl) ⟨show yk≠JC by decide,λz=>absurd (show yk=kJ from z)<|by decide,λ_=>⟨pl,_,rfl,a,h1⟩⟩;refine⟨l,?_,⟨k.sz,wz k.ow (by lia)<|by lia,jfD k.lv (by lia)<|by lia,k.ln,k.mv,k.c0,k.c1,by show x.sv.length<=(x.en++[_]).length;lia,by show x.mv.length<=(x.en++[_]).length;lia,w,y,A,D⟩,b,rfl⟩;have E:=jga (p:=p) (x:=x) (o:=true);have F:=yp (o:=true) (f:=x.ow) h2;have G:=jmP (p:=p) (x:=x) (o:=true);have H:=yp (o:=true) (f:=x.lv) h1;show((yL [some<|jk p true x,some<|.int pl,some<|.str po,some<|.str cl,none,none]).bind (Vl 0))=_;have e:yL [some<|jk p true x,some<|.int pl,some<|.str po,some<|.str cl,none,none]=some (.nx [some<|jk p true l,some<|.int pl,some<|.str po,some<|.str cl,some<|.int<|x.ow cl,some<|.int g]):=by
  apply sq (ρ':=[some<|jk p true x,some<|.int pl,some<|.str po,some<|.str cl,some<|.int<|x.ow cl,none]) (by generalize jk p true x=X at *;generalize dct true p.C x.ow=D1 at *;simp[E,F]);apply sq (ρ':=[some<|jk p true x,some<|.int pl,some<|.str po,some<|.str cl,some<|.int<|x.ow cl,some<|.int g]) (by generalize jk p true x=X at *;generalize dct true p.P x.lv=D2 at *;simp[G,H,u,-qc]);apply sq (by exact jjv (x:=x) rfl rfl rfl h1 q);apply sq (by exact jeC (x:=i) rfl rfl rfl h2 n);exact Qv (x:=j) (e:=⟨pl,yk,cl,x.ow cl,g⟩) rfl (by simp[jb,e5]) (by show x.en.length<=1000;lia)
 rw[e];rfl
theorem VU{ts:D}{a1 a2:Option D}{A:List Int}(a:jd ts (.int 0)=↑(A.map D.int))(b:∀ v∈A,0<=v):∀{Q:List W2}{s:Nat}{x:Fl}{o4 o5 o6 o7:Option D},FlOk p N c B L0 l0 x->s+Q.length=A.length->x.en.length+Q.length<=900 ->
  ∃ x':Fl,(∃ o4' o5' o6' o7':Option D,jL (gT 2<|gC (jc [0] 4)<|gC (jc [0] 5) gN) yu (jJ s<|Q.map e2) [some<|jk p true x,a1,a2,some ts,o4,o5,o6,o7]=some (.nx [some<|jk p true x',a1,a2,some ts,o4',o5',o6',o7'])) /\
   FlOk p N c B L0 l0 x'/\x'.en.length=x.en.length+Q.length
 | [],s,x,o4,o5,o6,o7,k,_,_=>⟨x,⟨o4,o5,o6,o7,rfl⟩,k,rfl⟩
 | r::Q,s,x,o4,o5,o6,o7,k,n,i=>by
  rw[M4] at n i;have d:s < A.length:=by lia
  have f:jd (.lst true<|A.map D.int) (.int (s:Int))=some (.int A[s]):=by
   rw[jde (by lia)<|by rw[L3];lia,N9,List.getElem?_map,E4 d];rfl
  have h:0<=A[s]:=b _<|List.getElem_mem d;generalize A[s]=ask at f h;have c0:=k.c0;have c1:=k.c1;have svl:=k.svl;have mvl:=k.mvl;have q:uR [.int ask,.int x.cash]=some (.int<|got ask x.cash):=rfl;have H:0<=got ask x.cash/\got ask x.cash<=ask/\got ask x.cash<=x.cash:=by unfold got;split<;>lia
  generalize got ask x.cash=g at *
  let l:Fl:={ x with cash:=x.cash - g }
  let m:Fl:={ l with en:=x.en++[⟨s,YX,r.1,ask,g⟩] }
  have t:(x.en++[(⟨s,YX,r.1,ask,g⟩:En)]).length=x.en.length+1:=by simp
  obtain⟨u,w,y,z⟩:=fl4 k ⟨s,YX,r.1,ask,g⟩ (v:=x.cash - g) (Int.sub_add_cancel ..) rfl rfl<|jij (by decide);have C:FlOk p N c B L0 l0 m:=⟨k.sz,k.ow,k.lv,k.ln,k.mv,by show 0<=x.cash - g;lia,by show x.cash - g<=c;lia,by show x.sv.length<=(x.en++[_]).length;lia,by show x.mv.length<=(x.en++[_]).length;lia,u,w,y,z⟩;obtain⟨x',⟨o4',o5',o6',o7',e⟩,E,j⟩:=VU a b (a1:=a1) (a2:=a2) (Q:=Q) (s:=s+1) (x:=m) (o4:=some<|.int s) (o5:=some<|e2 r) (o6:=some<|.int ask) (o7:=some<|.int g) C (by lia) (by show(x.en++[_]).length+Q.length<=900;lia);refine⟨x',⟨o4',o5',o6',o7',?_⟩,E,by rw[j,M4];show(x.en++[_]).length+_=_;lia⟩;have F:jd (e2 r) (.int 0)=some (.str r.1):=rfl;have G:=KQ (p:=p) (x:=x) (o:=true);rw[L6,jJ,lpF ?_,e];show yu [some<|jk p true x,a1,a2,some ts,some<|.int s,some<|e2 r,o6,o7]=_;apply sq (ρ':=[some<|jk p true x,a1,a2,some ts,some<|.int s,some<|e2 r,some<|.int ask,o7]) (by generalize jk p true x=X at *;simp[a,f]);apply sq (ρ':=[some<|jk p true x,a1,a2,some ts,some<|.int s,some<|e2 r,some<|.int ask,some<|.int g]) (by generalize jk p true x=X at *;simp[G,q,-qc]);apply sq (by exact xi (x:=x) rfl rfl);exact Qv (x:=l) (e:=⟨s,YX,r.1,ask,g⟩) rfl (by simp[jb,e5,F]) (by show x.en.length<=1000;lia)
end
section
variable {p:PoolS}{x:Fl}{w:List Nat}{N O:W1}{c B:Int}{L0:LN}
theorem VD{C P:W1}{a0:Option D}{nm:List Nat}:∀{os:List OrdS}{o2:Option D},(∀ x∈os,OrdOk C P O x)->nm∈os.map (·.nm) ->
  ∃ o∈os,o.nm=nm/\∃ r,jL (jc [] 2) yd (os.map<|vm false) [a0,some<|.str nm,o2]=some (.rt (vm false o) r)
 | [],o2,_,h=>by simp at h
 | o::os,o2,a,h=>by
  have d:jd (vm false o) (.int 0)=some (.str o.nm):=rfl;have f:=(a o<|by simp).frz;have m:=(a o<|by simp).fz false;by_cases q:o.nm=nm
  ·refine⟨o,by simp,q,[a0,some<|.str nm,some<|vm false o],?_⟩;have b:(o.nm==nm)=true:=by simp[q]
   rw[L6,jS];generalize vm false o=X at *;simp[yd,d,b,f]
  ·have b:(o.nm==nm)=false:=U3.mpr q;have g:nm∈os.map (·.nm):=by
    rw[L6,M6] at h;exact h.resolve_left λz=>q z.symm
   obtain⟨i,c,j,r,e⟩:=VD (a0:=a0) (nm:=nm) (os:=os) (o2:=some<|vm false o) (λx k=>a x<|by simp[k]) g;refine⟨i,by simp[c],j,r,?_⟩;have l:yd [a0,some<|.str nm,some<|vm false o]=some (.nx [a0,some<|.str nm,some<|vm false o]):=by
    generalize vm false o=X at *;simp[yd,d,b]
   rw[L6,lpE ?_ l,e];rfl
def jd2(h:PoolOk O p){nm:List Nat}(a:nm∈p.orders.map (·.nm)):∃ o∈p.orders,o.nm=nm/\vh [jt false p,.str nm]=some (vm false o):=by
 obtain⟨o,b,c,r,e⟩:=VD (a0:=some<|jt false p) (nm:=nm) (os:=p.orders) (o2:=none) h.orders a;refine⟨o,b,c,?_⟩;have d:jd (jt false p) (.int 4)=‹p.orders.map (vm false)›:=rfl;have xn:=Jf h.orders;have jaw:=Yh h.orders false;generalize jt false p=PP at *;simp[vh,jH,Js,d,xn,jaw,e]
theorem Q2{f:Str}{v:D}:∀{ns:List Str}{l:List D},f∉ns->ns.length=l.length->qE ns l f v=(ns++[f],l++[v])
 | [],[],_,_=>rfl
 | [],_::_,_,e=>by simp at e
 | _::_,[],_,e=>by simp at e
 | n::ns,x::l,h,e=>by rw[qE,if_neg λz=>h<|by simp[z],Q2 (λz=>h<|by simp[z])<|by simpa using e];rfl
def vT{f:Str}{pv:PF}{r:Rh}{ns:List Str}{l:List D}{v:D}(a:pv (some (.ins true 0 ns l)::r)=some v)(h:f∉ns/\ns.length<=900:=by decide)(e:ns.length=l.length:=by rfl):JA 0 0 f pv (some (.ins true 0 ns l)::r)=some (.nx<|some (.ins true 0 (ns++[f])<|l++[v])::r):=by
 rw[JA,a,L5];show(bif (0==0)&&decide (ns.length<=900) then some (Out.nx<|some (D.ins true 0 (qE ns l f v).1 (qE ns l f v).2)::r) else none)=_;rw[Q2 h.1 e,X8 h.2];rfl
def jgy(h:PoolOk O p){S W Rn Lv:List W2}{z c:Int}{ln:LN}(a:S.map (·.1)=p.C)(b:W.map (·.1)=p.C)(d:Lv.map (·.1)=p.P)(f:(ln.map (·.1)).Nodup)(e:ln.length<=1000) :
  yf [.ins true 0 [] [],jt false p,bkD false S W Rn Lv z,.int c,.lst false<|ln.map eR]=some (.non,jk p true ⟨fnOf S,fnOf W,fnOf Lv,ln,c,[],[],[]⟩):=by
 have t:=h.told2;have u:=h.marks2;have w:S.length<=10:=by have:=congrArg List.length a;rw[L3,L3] at this;lia
 have x:W.length<=10:=by have:=congrArg List.length b;rw[L3,L3] at this;lia
 have y:Lv.length<=10:=by have:=congrArg List.length d;rw[L3,L3] at this;lia
 have g:yW [.lst false<|p.marks.map e2]=some (dct true p.P<|fnOf p.marks):=yG h.marksn (by lia);have i:yW [.lst false<|S.map e2]=some (dct true p.C<|fnOf S):=by rw[<- a];exact yG (by rw[a];exact h.toldn) (by lia)
 have j:yW [.lst false<|W.map e2]=some (dct true p.C<|fnOf W):=by rw[<- b];exact yG (by rw[b];exact h.toldn) (by lia)
 have k:yW [.lst false<|Lv.map e2]=some (dct true p.P<|fnOf Lv):=by rw[<- d];exact yG (by rw[d];exact h.marksn) (by lia)
 have eL:=jcm f e;have l:=Qn ln;have m:jd (bkD false S W Rn Lv z) (.int 0)=‹S.map e2›:=rfl;have n:jd (bkD false S W Rn Lv z) (.int 1)=‹W.map e2›:=rfl;have o:jd (bkD false S W Rn Lv z) (.int 3)=‹Lv.map e2›:=rfl;have q:jd (jt false p) (.int 0)=some (.str p.nm):=rfl;have r:jd (jt false p) (.int 2)=‹p.marks.map e2›:=rfl;unfold jk;generalize bkD false S W Rn Lv z=BK,jt false p=PP at *;show _=some (D.non,D.ins true 0 NS [.str p.nm,dct true p.P<|fnOf p.marks,dct true p.C<|fnOf S,dct true p.C<|fnOf W,dct true p.P<|fnOf Lv,dLn true ln,.int c,.dK true [] [],.lst true [],.lst true []]);generalize dct true p.P (fnOf p.marks)=a1,dct true p.C (fnOf S)=a2,dct true p.C (fnOf W)=a3,dct true p.P (fnOf Lv)=a4,dLn true ln=a5 at *;have s:vv [some<|.ins true 0 [] [],some PP,some BK,some<|.int c,‹ln.map eR›]=some (.nx [some<|.ins true 0 NS [.str p.nm,a1,a2,a3,a4,a5,.int c,.dK true [] [],.lst true [],.lst true []],some PP,some BK,some<|.int c,‹ln.map eR›]):=by
  unfold vv;apply sq (by exact vT (v:=.str p.nm)<|by simp[q]);apply sq (by exact vT (v:=a1)<|by simp[r,g]);apply sq (by exact vT (v:=a2)<|by simp[m,i]);apply sq (by exact vT (v:=a3)<|by simp[n,j]);apply sq (by exact vT (v:=a4)<|by simp[o,k]);apply sq (by exact vT (v:=a5)<|by simp[eL,l,J2]);apply sq (by exact vT (v:=.int c)<|by simp);apply sq (by exact vT (v:=.dK true [] []) rfl);apply sq (by exact vT (v:=.lst true [])<|by simp[lim]);exact vT (v:=.lst true []) (by simp[lim])
 exact congrArg (Option.bind · (Vl 0)) s
end
def jmN(o:Bool)(w:List Nat):∀ l:List (List Nat),∃ b,zV true (.str w) (dSv o l)=some (.bl b):=λl=>⟨_,rfl⟩
theorem YH{x:Fl}{NC:W1}{f:List Nat->Int}(i:NC.length<=1000){a1:Option D}:∀{R:List W2}{acc:List W2}{o4 o5 o6:Option D},(∀ q∈R,q.1∈NC)->(∀ q∈R,0<=q.2)->acc.length+R.length<=1000 ->
  ∃ R':List W2,R'.map (·.1)=R.map (·.1)/\(∀ q∈R',0<=q.2)/\∀ X,Ks 0 "served" X=some (dSv false x.sv)->∃ o4' o5' o6':Option D,jL (gT 2<|gC (jc [] 4)<|gC (jc [] 5) gN) jx (R.map e2) [some X,a1,some<|dct true NC f,↑(acc.map e2),o4,o5,o6]=some (.nx [some X,a1,some<|dct true NC f,↑((acc++R').map e2),o4',o5',o6'])
 | [],acc,o4,o5,o6,_,_,_=>⟨[],rfl,by simp,λX _=>⟨o4,o5,o6,by simp⟩⟩
 | q::R,acc,o4,o5,o6,t,c,u=>by
  have v:=c q (by simp);rw[M4] at u;obtain⟨b,j⟩:=jmN false q.1 x.sv;have k:=yp (o:=true) (f:=f)<|t q (by simp);have key:∃(d:W2) (o6':Option D),d.1=q.1/\0<=d.2/\∀ X,Ks 0 "served" X=some (dSv false x.sv)->jx [some X,a1,some<|dct true NC f,↑(acc.map e2),some<|.str q.1,some<|.int q.2,o6]=some (.nx [some X,a1,some<|dct true NC f,↑((acc++[d]).map e2),some<|.str q.1,some<|.int q.2,o6']):=by
   generalize dct true NC f=DD,dSv false x.sv=SS at *;by_cases l:0 < f q.1
   ·cases b with
    | true=>exact⟨(q.1,q.2+1),some<|.bl true,rfl,by show 0<=q.2+1;lia,λX a=>by simp(disch:=first | lia | (simp;done) | (simp;lia)) [jx,k,a,j,l,jb,e2]⟩
    | false=>exact⟨(q.1,0),some<|.bl false,rfl,Int.le_refl _,λX a=>by simp(disch:=first | lia | (simp;done) | (simp;lia)) [jx,k,a,j,l,jb,e2]⟩
   ·exact⟨(q.1,0),some<|.bl false,rfl,Int.le_refl _,λX a=>by simp(disch:=first | lia | (simp;done) | (simp;lia)) [jx,k,a,j,l,jb,e2]⟩
  obtain⟨d,o6',hd,m,n⟩:=key;obtain⟨R',p,s,e⟩:=YH i (a1:=a1) (R:=R) (acc:=acc++[d]) (o4:=some<|.str q.1) (o5:=some<|.int q.2) (o6:=o6') (λr g=>t r<|by simp[g]) (λr g=>c r<|by simp[g]) (by simp;lia);refine⟨d::R',by rw[L6,L6,p,hd],λr g=>(M6.mp g).elim (λz=>z▸m) (s r),λX a=>?_⟩;obtain⟨o4',o5',h,e⟩:=e X a;refine⟨o4',o5',h,?_⟩;rw[L6,lpE ?_<|n X a,e];simp;rfl
def JF(h:po ρ=some (dct o M f)):yo po ρ=↑((sz' M f).map e2):=by
 unfold yo;rw[h];show(bif frzs (M.map λn=>D.int<|f n) then some (D.lst true<|((M.map KA.str).zip (M.map λn=>D.int<|f n)).map λp=>D.tup [kaD p.1,p.2]) else none)=_;rw[uw,Qd];simp[sz',e2]
def jeU{x:Fl}{O:W1}(h:PoolOk O p){S W Rn Lv:List W2}{z:Int}(a:S.map (·.1)=p.C)(b:Rn.map (·.1)=p.C)(c:∀ q∈Rn,0<=q.2) :
  ∃ R':List W2,R'.map (·.1)=p.C/\(∀ q∈R',0<=q.2)/\jC [jk p false x,bkD false S W Rn Lv z]=some (bkD true (sz' p.C x.sz) (sz' p.C x.ow) R' (sz' p.P x.lv) z):=by
 have y:=h.told2;have A:S.length<=10:=by have:=congrArg List.length a;rw[L3,L3] at this;lia
 have B:Rn.length<=10:=by have:=congrArg List.length b;rw[L3,L3] at this;lia
 have i:yW [.lst false<|S.map e2]=some (dct true p.C<|fnOf S):=by rw[<- a];exact yG (by rw[a];exact h.toldn) (by lia)
 obtain⟨R',d,g,e⟩:=YH (x:=x) (NC:=p.C) (f:=fnOf S) (by rw[L3];lia) (a1:=some<|bkD false S W Rn Lv z) (R:=Rn) (acc:=[]) (o4:=none) (o5:=none) (o6:=none) (λq m=>by rw[<- b];exact M7.mpr ⟨q,m,rfl⟩) c (by simp;lia);refine⟨R',by rw[d,b],g,?_⟩;obtain⟨j,k,l,e⟩:=e (jk p false x) jmE;rw[E3,List.map_nil] at e;have n:jd (bkD false S W Rn Lv z) (.int 0)=‹S.map e2›:=rfl;have s:jd (bkD false S W Rn Lv z) (.int 2)=‹Rn.map e2›:=rfl;have t:jd (bkD false S W Rn Lv z) (.int 4)=some (.int z):=rfl;have u:∀ r:Rh,yo (qN 0 "sizes"<|pV 0) (some (jk p false x)::r)=↑((sz' p.C x.sz).map e2):=λr=>JF (o:=false) rfl;have v:∀ r:Rh,yo (qN 0 "owed"<|pV 0) (some (jk p false x)::r)=↑((sz' p.C x.ow).map e2):=λr=>JF (o:=false) rfl;have w:∀ r:Rh,yo (qN 0 "levels"<|pV 0) (some (jk p false x)::r)=↑((sz' p.P x.lv).map e2):=λr=>JF (o:=false) rfl;show _=some (D.tup [.lst true<|(sz' p.C x.sz).map e2,.lst true<|(sz' p.C x.ow).map e2,.lst true<|R'.map e2,.lst true<|(sz' p.P x.lv).map e2,.int z]);generalize bkD false S W Rn Lv z=BK,jk p false x=X,dct true p.C (fnOf S)=DD at *;simp(disch:=first | lia | (simp;done) | (simp;lia)) [jC,jH,vG,n,s,t,i,jU,kH,e,u,v,w,jb,-yo]
def jay{x:Fl}{N O:W1}{c B:Int}{l0:List Nat->Int}(h:PoolOk O p)(k:FlOk p N c B L0 l0 x)(V:c<=2 ^ 900){Q:List W2}(n:∀ q∈Q,Wd q.1/\1<=q.2/\q.2<=10)(j:Q.length<=10)(G:x.en.length<=100) :
  ∃ x':Fl,jF [jk p true x,.lst false<|Q.map e2]=some (.non,jk p true x')/\FlOk p N c B L0 l0 x'/\x'.en.length<=x.en.length+Q.length+1:=by
 have c0:=k.c0;have c1:=k.c1;have r:∀ q∈Q,PtOk q:=λq t=>⟨(n q t).2.1,(n q t).2.2⟩;have ea:=jdk (P:=Q) (c:=x.cash) j r c0 (by lia);have W:=jd9 (P:=Q) (c:=x.cash);have H:=jf2 (P:=Q) (c:=x.cash) r c0;obtain⟨a,⟨u,w,y,z,e⟩,b,I⟩:=VU (p:=p) (ts:=.tup [.lst true<|(jT Q x.cash).1.map D.int,.int (jT Q x.cash).2]) (a1:=‹Q.map e2›) (a2:=some<|.int x.cash) (A:=(jT Q x.cash).1) rfl H (Q:=Q) (s:=0) (x:=x) (o4:=none) (o5:=none) (o6:=none) (o7:=none) k (by lia) (by lia);have f:=KQ (p:=p) (x:=x) (o:=true);have J:jd (.tup [.lst true<|(jT Q x.cash).1.map D.int,.int (jT Q x.cash).2]) (.int 0)=↑((jT Q x.cash).1.map D.int):=rfl;have C:jd (.tup [.lst true<|(jT Q x.cash).1.map D.int,.int (jT Q x.cash).2]) (.int 1)=some (.int (jT Q x.cash).2):=rfl;by_cases E:0 < (jT Q x.cash).2
 ·let d:En:=⟨-1,[116,119,105,99,101],[],(jT Q x.cash).1.sum,x.cash⟩
  let g:Fl:={ a with en:=a.en++[d] }
  have Y:(a.en++[d]).length=a.en.length+1:=by simp
  have K:=b.svl;obtain⟨L,M,R,S⟩:=fl4 b d (v:=a.cash) (Int.add_zero _) rfl rfl<|jij (by decide);have T:=b.mvl;refine⟨g,?_,⟨b.sz,b.ow,b.lv,b.ln,b.mv,b.c0,b.c1,by show a.sv.length<=(a.en++[d]).length;lia,by show a.mv.length<=(a.en++[d]).length;lia,L,M,R,S⟩,by show(a.en++[d]).length<=_;lia⟩;have l:a.en.length<=1000:=by lia
  have F:K2 [.lst true<|(jT Q x.cash).1.map D.int]=some (.int (jT Q x.cash).1.sum):=by simp
  have s2:=Qv (p:=p) (x:=a) (ρ:=[some<|jk p true a,‹Q.map e2›,some<|.int x.cash,some<|.tup [.lst true<|(jT Q x.cash).1.map D.int,.int (jT Q x.cash).2],u,w,y,z]) (i:=0) (pv:=yg<|ja (p1 xK<|pC<|.int 1)<|ja (pC<|.str [116,119,105,99,101])<|ja (pC<|.str [])<|ja (pCB K2<|ja (p2 jd (pV 3)<|pC<|.int 0) pN)<|ja (pF<|pV 2) pN) (e:=d) rfl (by simp[jb,e5,d,J]) l;have U:jk p true { a with en:=a.en++[d] }=jk p true g:=rfl;rw[U] at s2;generalize jk p true g=X2,jk p true a=X1,jk p true x=X at *
  clear_value g d
  generalize m:D.tup [.lst true<|(jT Q x.cash).1.map D.int,.int (jT Q x.cash).2]=TT at *;simp[jF,kh,yI,f,ea,jU,kH,e,C,E,s2,Vl,-kD]
 ·refine⟨a,?_,b,by lia⟩;generalize jk p true a=X1,jk p true x=X at *;generalize m:D.tup [.lst true<|(jT Q x.cash).1.map D.int,.int (jT Q x.cash).2]=TT at *;simp[jF,kh,yI,f,ea,jU,kH,e,C,E,Vl,-kD]
def jet (h : PoolOk O p) (q : ∀ w ∈ O, w ∈ N) (r : p.nm ∈ N) (s : N.length <= 3) (t : LnOk N L0) (u : B <= 10 ^ 20) (v : c <= 2 ^ 900)  (k : FlOk p N c B L0 l0 x)  (y : RuleS p.C p.P O d)  (A : x.en.length <= 800)
     : ∃ x':Fl,(qe [a0,a1,a2,a3,a4,a5,some<|jk p true x,some<|.int pl,some d,a9]=some (.nx [a0,a1,a2,a3,a4,a5,some<|jk p true x',some<|.int pl,some d,a9]))/\FlOk p N c B L0 l0 x'/\x'.en.length<=x.en.length+20/\x'.cash<=x.cash/\((∃ w,d=.tup [.str kr,.str w])->x'.cash=0):=by
 have a:∀{kw w:List Nat},((d=.tup [.str kw,.str w]/\jcN p.C p.P O kw w) \/ (∃ j,kw=vR/\d=.tup [.str kw,.str w,.int j]/\w∈O))->(kw==j8)=false->jd d (.int 0)=some (.str kw)->frz d=true ->
   ∃ x':Fl,(qe [a0,a1,a2,a3,a4,a5,some<|jk p true x,some<|.int pl,some d,a9]=some (.nx [a0,a1,a2,a3,a4,a5,some<|jk p true x',some<|.int pl,some d,a9]))/\FlOk p N c B L0 l0 x'/\x'.en.length<=x.en.length+20/\x'.cash<=x.cash/\((∃ w,d=.tup [.str kr,.str w])->x'.cash=0):=by
  intro kw w hd g b e;obtain⟨x',ex,l,o,n,E⟩:=jcu h q r s t k (pl:=pl) hd (by lia);refine⟨x',?_,l,by lia,n,λ⟨F,z⟩=>E<|by rw[z] at b;cases b;rfl⟩;have m:=Jz (p:=p) (x:=x) (m:=jq) (mn:="take_rule") (pa:=ja (pF<|pV 7)<|ja (pF<|pV 8) pN) (ρ:=[a0,a1,a2,a3,a4,a5,some<|jk p true x,some<|.int pl,some d,a9]) (i:=6) (ds:=[.int pl,d]) rfl (by simp[e]) (by simp[e])<|λ_ _ _ _ _ _ _ _ _ _=>rfl;rw[ex,L5] at m;generalize jk p true x'=X' at *;generalize jk p true x=X at *;simp[qe,b,g,m,-yH]
 cases y with
 | two kw w g I J f=>exact a (.inl ⟨rfl,f⟩) (U3.mpr g) rfl rfl
 | lend w i G f=>exact a (.inr ⟨i,rfl,rfl,f⟩) rfl rfl rfl
 | share ws H G f nd =>
  obtain⟨x',ex,l,o,n⟩:=uT h k u v (pl:=pl) H f nd (by lia);refine⟨x',?_,l,o,n,λ⟨F,z⟩=>by cases z⟩;have m:=Jz (p:=p) (x:=x) (m:=jG) (mn:="take_share") (pa:=ja (pF<|pV 7)<|ja (pF<|p2 jd (pV 8)<|pC<|.int 1) pN) (ρ:=[a0,a1,a2,a3,a4,a5,some<|jk p true x,some<|.int pl,some<|.tup [.str j8,.tup<|ws.map D.str],a9]) (i:=6) (ds:=[.int pl,.tup<|ws.map D.str]) rfl (by simp[jgS,yS]) (by simp[yS])<|λ_ _ _ _ _ _ _ _ _ _=>rfl;rw[ex,L5] at m;have b:jd (.tup [.str j8,.tup<|ws.map D.str]) (.int 0)=some (.str j8):=rfl;generalize D.tup [.str j8,.tup<|ws.map D.str]=dd,jk p true x'=X' at *;generalize jk p true x=X at *;simp[qe,b,m,-yH]
theorem V3(h:PoolOk O p)(b:∀ w∈O,w∈N)(f:p.nm∈N)(g:N.length<=3)(i:LnOk N L0)(j:B<=10 ^ 20)(l:c<=2 ^ 900)  : ∀{R:List D}{s:Int}{x:Fl}{o7 o8:Option D},(∀ d∈R,RuleS p.C p.P O d)->FlOk p N c B L0 l0 x->x.en.length+20*R.length<=800 ->
  ∃ x':Fl,(∃ o7' o8':Option D,jL (gT 2<|gC (jc [] 7)<|gC (jc [] 8) gN) qe (Yb s R) [a0,a1,a2,a3,a4,a5,some<|jk p true x,o7,o8,a9]=some (.nx [a0,a1,a2,a3,a4,a5,some<|jk p true x',o7',o8',a9])) /\
   FlOk p N c B L0 l0 x'/\x'.en.length<=x.en.length+20*R.length/\x'.cash<=x.cash/\((∃ w,D.tup [.str kr,.str w]∈R)->x'.cash=0)
 | [],s,x,o7,o8,_,k,_=>⟨x,⟨o7,o8,rfl⟩,k,N0 _,Int.le_refl _,λ⟨w,z⟩=>by cases z⟩
 | d::R,s,x,o7,o8,m,k,a=>by
  rw[M4] at a;obtain⟨o,q,r,l1,c1,r1⟩:=jet h b f g i j l k (m d<|by simp) (pl:=s) (by lia) (a0:=a0) (a1:=a1) (a2:=a2) (a3:=a3) (a4:=a4) (a5:=a5) (a9:=a9);obtain⟨x',⟨o7',o8',e⟩,n,u,v,r2⟩:=V3 h b f g i j l (a0:=a0) (a1:=a1) (a2:=a2) (a3:=a3) (a4:=a4) (a5:=a5) (a9:=a9) (R:=R) (s:=s+1) (x:=o) (o7:=some<|.int s) (o8:=some d) (λd hd=>m d<|by simp[hd]) r (by lia);have c0:=n.c0;refine⟨x',⟨o7',o8',?_⟩,n,by rw[M4];lia,by lia,λ⟨w,t⟩=>?_⟩
  rotate_left
  ·rcases M6.mp t with z | z
   ·have:=r1 ⟨w,z.symm⟩;lia
   ·exact r2 ⟨w,z⟩
  rw[Yb,lpE ?_ q,e];rfl
theorem Y8(h:PoolOk O p)  : ∀{G:List WG}{s:Nat}{x:Fl}{o7 o9:Option D},(∀ j g,G[j]?=some g->p.guards[s+j]?=some g)->FlOk p N c B L0 l0 x->x.en.length+G.length<=900 ->
  ∃ x':Fl,(∃ o7' o9':Option D,jL (gT 2<|gC (jc [] 7)<|gC (jc [] 9) gN) Ki (jJ s<|G.map eG) [a0,a1,a2,a3,a4,a5,some<|jk p true x,o7,a8,o9]=some (.nx [a0,a1,a2,a3,a4,a5,some<|jk p true x',o7',a8,o9'])) /\
   FlOk p N c B L0 l0 x'/\x'.en.length=x.en.length+G.length/\x'.cash=x.cash
 | [],s,x,o7,o9,_,k,_=>⟨x,⟨o7,o9,rfl⟩,k,rfl,rfl⟩
 | g::G,s,x,o7,o9,f,k,d=>by
  have a:=f 0 g rfl;have b:=(h.guards g<|List.mem_of_getElem? a).2.2;rw[M4] at d;obtain⟨l,ex,n,l1,c1⟩:=jak h k (pl:=s) a b.1 b.2 (by lia);obtain⟨x',⟨o7',o9',e⟩,o,v,w⟩:=Y8 h (a8:=a8) (a0:=a0) (a1:=a1) (a2:=a2) (a3:=a3) (a4:=a4) (a5:=a5) (G:=G) (s:=s+1) (x:=l) (o7:=some<|.int s) (o9:=some<|eG g) (λj q r=>by have:=f (j+1) q r;rwa [show s+(j+1)=s+1+j by lia] at this) n (by lia);refine⟨x',⟨o7',o9',?_⟩,o,by rw[M4];lia,by lia⟩;have t:jd (eG g) (.int 0)=some (.str g.1):=rfl;have u:jd (eG g) (.int 1)=some (.str g.2):=rfl;have m:=Jz (p:=p) (x:=x) (m:=yi) (mn:="take_guard") (pa:=ja (pF<|pV 7)<|ja (pF<|p2 jd (pV 9)<|pC<|.int 0)<|ja (pF<|p2 jd (pV 9)<|pC<|.int 1) pN) (ρ:=[a0,a1,a2,a3,a4,a5,some<|jk p true x,some<|.int s,a8,some<|eG g]) (i:=6) (ds:=[.int s,.str g.1,.str g.2]) rfl (by simp[t,u]) rfl<|λ_ _ _ _ _ _ _ _ _ _=>rfl;rw[ex,L5] at m;rw[L6,jJ,lpF ?_,e];show(some _).bind _=_;generalize jk p true l=X1,jk p true x=X at *;simp[Ki,m,-yH]
def jkf(a:pV i ρ=some (jk p true x))(b:pe ρ=some r):jiu i 0 "entries" "moves" pe ρ=some (.tup [.lst true<|x.en.map e5,r,.lst true<|x.mv.map eM],ρ.set i none):=by
 rw[jiu,a,L5];have c:zw (jk p true x)=some (0,NS,[.str p.nm,dct true p.P<|fnOf p.marks,dct true p.C x.sz,dct true p.C x.ow,dct true p.P x.lv,dLn true x.ln,.int x.cash,dSv true x.sv,.lst true<|x.en.map e5,.lst true<|x.mv.map eM]):=rfl;rw[c,L5];dsimp only;rw[jly,jnC,b];rfl
structure BkOk(p:PoolS)(B:Int)(S W Rn Lv:List W2):Prop where
 s1:S.map (·.1)=p.C
 s2:∀ q∈S,0<=q.2
 w1:W.map (·.1)=p.C
 w2:∀ q∈W,0<=q.2/\q.2<=B
 r1:Rn.map (·.1)=p.C
 r2:∀ q∈Rn,0<=q.2
 l1:Lv.map (·.1)=p.P
 l2:∀ q∈Lv,0<=q.2/\q.2<=fnOf p.marks q.1
def xy{B:Int}{S:List W2}(a:0<=B)(h:∀ q∈S,q.2<=B)(n:List Nat):fnOf S n<=B:=by
 unfold fnOf
 induction S with
 | nil=>exact a
 | cons q S b =>
  rw[lkp];by_cases e:q.1=n
  ·rw[if_pos e];exact h q (by simp)
  ·rw[if_neg e];exact b λr c=>h r (by simp[c])
def jlN(h:PoolOk O p)  (k:∀ q∈L,0<=q.2/\q.2<=fnOf p.marks q.1) (n:List Nat):0<=fnOf L n/\fnOf L n<=fnOf p.marks n:=by
 have a:=Ja (S:=p.marks) (λq b=>by have:=(h.marks q b).2;lia) n;unfold fnOf at *
 induction L with
 | nil=>exact⟨Int.le_refl _,a⟩
 | cons q L c =>
  rw[lkp];by_cases e:q.1=n
  ·rw[if_pos e,<- e];exact k q (by simp)
  ·rw[if_neg e];exact c λr d=>k r (by simp[d])
def jgJ{p:PoolS}{N O:W1}{c B:Int}{L0:LN}(h:PoolOk O p)(hO:∀ w∈O,w∈N)(hn:p.nm∈N)(T:N.length<=3)(t:LnOk N L0)(u:0<=B)(hB:B<=10 ^ 20)(v:0<=c)(U:c<=2 ^ 900){S W Rn Lv:List W2}{z:Int}(b:BkOk p B S W Rn Lv){nm:List Nat}(hm:nm∈p.orders.map (·.nm)) :
  ∃(x:Fl) (R':List W2),(wT [jt false p,.str nm,bkD false S W Rn Lv z,.int c,.lst false<|L0.map eR]=some (.tup [.lst true<|x.en.map e5,bkD true (sz' p.C x.sz) (sz' p.C x.ow) R' (sz' p.P x.lv) z,.lst true<|x.mv.map eM])) /\
   FlOk p N c B L0 (fnOf Lv) x/\R'.map (·.1)=p.C/\(∀ q∈R',0<=q.2)/\x.en.length<=300/\x.cash=0:=by
 obtain⟨o,ho,V,en⟩:=jd2 h hm;have a:=h.orders o ho;have X:FlOk p N c B L0 (fnOf Lv) ⟨fnOf S,fnOf W,fnOf Lv,L0,c,[],[],[]⟩:=⟨Ja b.s2,λn=>⟨Ja (λq y=>(b.w2 q y).1) n,xy u (λq y=>(b.w2 q y).2) n⟩,jlN h b.l2,rfl,trivial,v,Int.le_refl _,by simp,by simp,Int.add_zero c,rfl,rfl,by simp⟩;have Y:yf [.ins true 0 [] [],jt false p,bkD false S W Rn Lv z,.int c,.lst false<|L0.map eR]=some (.non,jk p true ⟨fnOf S,fnOf W,fnOf Lv,L0,c,[],[],[]⟩):=jgy h b.s1 b.w1 b.l1 t.nd (by have:=t.len T;lia);have A:(⟨fnOf S,fnOf W,fnOf Lv,L0,c,[],[],[]⟩:Fl).en.length=0:=rfl;generalize(⟨fnOf S,fnOf W,fnOf Lv,L0,c,[],[],[]⟩:Fl)=x0 at Y X A;obtain⟨D,e1,k1,l1⟩:=jay h X U a.parts a.plen (by lia);have pl:=a.plen;have rl:=a.len;obtain⟨Z,⟨E,r,F⟩,k2,l2,_,hz⟩:=V3 h hO hn T t hB U (a0:=some<|jt false p) (a1:=some<|.str nm) (a2:=some<|bkD false S W Rn Lv z) (a3:=some<|.int c) (a4:=‹L0.map eR›) (a5:=some<|vm false o) (a9:=none) (R:=o.rules) (s:=(o.parts.length:Int)) (x:=D) (o7:=none) (o8:=none) a.rules k1 (by lia);have g2:=h.guards2;obtain⟨d,⟨p7,p9,H⟩,k3,l3,I⟩:=Y8 h (a8:=r) (a0:=some<|jt false p) (a1:=some<|.str nm) (a2:=some<|bkD false S W Rn Lv z) (a3:=some<|.int c) (a4:=‹L0.map eR›) (a5:=some<|vm false o) (G:=p.guards) (s:=0) (x:=Z) (o7:=E) (o9:=none) (λj g hg=>by rwa [Nat.zero_add]) k2 (by lia);obtain⟨R',J,K,eb⟩:=jeU (x:=d) h (S:=S) (W:=W) (Rn:=Rn) (Lv:=Lv) (z:=z) b.s1 b.r1 b.r2;refine⟨d,R',?_,k3,J,K,by lia,by rw[I,hz a.rest]⟩;have i1:jd (vm false o) (.int 1)=‹o.parts.map e2›:=rfl;have i2:jd (vm false o) (.int 2)=‹o.rules›:=rfl;have j6:jd (jt false p) (.int 6)=‹p.guards.map eG›:=rfl;have fp:=h.fz false;have e:=h.frz;have fo:=a.frz;have L:=a.frzr;have M:=a.fzr;have k:=JN S W Rn Lv z;have Q:=YZ false S W Rn Lv z;have m1:=Jz (p:=p) (x:=x0) (m:=jF) (mn:="take_parts") (pa:=ja (pF<|p2 jd (pV 5)<|pC<|.int 1) pN) (ρ:=[some<|jt false p,some<|.str nm,some<|bkD false S W Rn Lv z,some<|.int c,‹L0.map eR›,some<|vm false o,some<|jk p true x0,none,none,none]) (i:=6) (ds:=[.lst false<|o.parts.map e2]) rfl (by simp[i1,jU]) (by simp[jU])<|λ_ _ _ _ _ _ _ _ _ _=>rfl;rw[e1,L5] at m1;have l:∀ ρ:Rh,ja (pF<|p2 jd (pV 5)<|pC<|.int 2) pN ρ=some [.lst false o.rules]->pCB JJ (ja (p2 jd (pV 5)<|pC<|.int 1) pN) ρ=some (.int (o.parts.length:Int))->ji7 (ja (pF<|p2 jd (pV 5)<|pC<|.int 2) pN) (pCB JJ<|ja (p2 jd (pV 5)<|pC<|.int 1) pN) ρ=some (Yb (o.parts.length:Int) o.rules):=by
  intro ρ q1 q2;unfold ji7;rw[q1,q2];have:=a.plen;show(bif V1 (o.parts.length:Int) then some (Yb _<|fzs o.rules) else none)=_;rw[zD (by lia)<|by lia,M];rfl
 have h1:=l [some<|jt false p,some<|.str nm,some<|bkD false S W Rn Lv z,some<|.int c,‹L0.map eR›,some<|vm false o,some<|jk p true D,none,none,none] (by simp[i2,L]) (by simp[i1]);have mm:=jcE (p:=p) (x:=d) (o:=true) (m:=jC) (mn:="book_behind") (po:=pV 6) (pa:=ja (pV 2) pN) (ρ:=[some<|jt false p,some<|.str nm,some<|bkD false S W Rn Lv z,some<|.int c,‹L0.map eR›,some<|vm false o,some<|jk p true d,p7,r,p9]) (ds:=[bkD false S W Rn Lv z]) rfl (by simp) (λ_ _ _ _ _ _ _ _ _ _=>rfl) (by rw[show fzs [bkD false S W Rn Lv z]=[bkD false S W Rn Lv z] by rw[fzs,Q];rfl];exact eb)<|K7 _ _ _ _ _;have m3:=jkf (p:=p) (x:=d) (i:=6) (pe:=JL jC 0 "book_behind" (pV 6)<|ja (pV 2) pN) (ρ:=[some<|jt false p,some<|.str nm,some<|bkD false S W Rn Lv z,some<|.int c,‹L0.map eR›,some<|vm false o,some<|jk p true d,p7,r,p9]) rfl mm;have f:jaC yf 0 (ja (pF<|pV 0)<|ja (pF<|pV 2)<|ja (pF<|pV 3)<|ja (pF<|pV 4) pN) [some<|jt false p,some<|.str nm,some<|bkD false S W Rn Lv z,some<|.int c,‹L0.map eR›,some<|vm false o,none,none,none,none]=some (jk p true x0):=by
  rw[jaC];have:ja (pF<|pV 0) (ja (pF<|pV 2)<|ja (pF<|pV 3)<|ja (pF<|pV 4) pN) [some<|jt false p,some<|.str nm,some<|bkD false S W Rn Lv z,some<|.int c,‹L0.map eR›,some<|vm false o,none,none,none,none]=some [jt false p,bkD false S W Rn Lv z,.int c,.lst false<|L0.map eR]:=by simp[e,k,vt]
  rw[this,L5,Y];simp[e,k,vt]
 generalize bkD true (sz' p.C d.sz) (sz' p.C d.ow) R' (sz' p.P d.lv) z=BR,bkD false S W Rn Lv z=BK,jk p true d=X3,jk p true Z=X2,jk p true D=X1,jk p true x0=X0,jt false p=PP,vm false o=OO at *;simp[wT,jH,jfv,en,fp,e,fo,f,m1,h1,F,j6,V8,jaZ,H,m3,-yH,-jaC,-jiu,-JL]
structure Bk where
 S:List W2
 W:List W2
 R:List W2
 L:List W2
 x:Int
def yh(o:Bool)(b:Bk):D:=bkD o b.S b.W b.R b.L b.x
structure PtOk3(p:PoolS)(e:En):Prop where
 fi:e.kd=kJ->e.nm∈p.P
 gu:e.kd=yk->∃(i:Nat) (g:WG),e.pl=i/\p.guards[i]?=some g/\g.1∈p.P
def jfJ(h1:p ρ=some e)(h2:jiG e=some m)(a:ρ[i]?=some (↑l))(c:l.length+m.length<=50000):jit i p ρ=some (.nx<|ρ.set i<|↑(l++m)):=by
 rw[jit,h1,L5,h2,L5,pV,a];exact congrArg (λb=>bif b then _ else none)<|jb (by lia)
def jdg:Nat->List (List Nat)->(List Nat->Int)->Int->List En
 | _,[],_,_=>[]
 | k,c::E,f,L=>⟨k,JC,c,L,got L<|f c⟩::jdg (k+1) E (put f c<|f c - got L (f c)) (L - got L (f c))
theorem jfd:∀(E:W1) (k:Nat) (f:List Nat->Int) (L:Int),jfy k E f L=(jdg k E f L).map e5
 | [],_,_,_=>rfl
 | c::E,k,f,L=>by rw[jfy,jdg,jfd E,L6];rfl
theorem jbW:∀(E:W1) (k:Nat) (f:List Nat->Int) (L:Int),∀ e∈jdg k E f L,e.kd=JC
 | c::E,k,f,L,e,h=>by
  rw[jdg] at h;rcases M6.mp h with rfl | h
  ·rfl
  ·exact jbW E _ _ _ e h
theorem wR:∀(E:W1) (k:Nat) (f:List Nat->Int) (L:Int),(jdg k E f L).length=E.length
 | [],_,_,_=>rfl
 | c::E,k,f,L=>by rw[jdg,M4,M4,wR E]
noncomputable abbrev LG:=List Nat×List Nat×En
noncomputable def e7(q:LG):D:=.tup [.str q.1,.str q.2.1,.int q.2.2.pl,.str q.2.2.kd,.str q.2.2.nm,.int q.2.2.nd,.int q.2.2.gt]
structure PdOk(p:PoolS)(b b':Bk)(sg:List LG):Prop where
 nm:∀ q∈sg,q.1=p.nm
 pt:∀ q∈sg,PtOk3 p q.2.2
 lv:∀ n∈p.P,fnOf b'.L n=yR p (fnOf b.L) (sg.map (·.2.2)) n
def vb(l:List LG):frzs (l.map e7)=true:=jK λd hd=>by obtain⟨p,_,rfl⟩:=M7.mp hd;rfl
def Jv(l:List LG):fzs (l.map e7)=l.map e7:=yw λd hd=>by obtain⟨p,_,rfl⟩:=M7.mp hd;rfl
def Yl(M:W1)(f:List Nat->Int):(sz' M f).map (·.1)=M:=by unfold sz';rw[U2];exact List.map_id _
def xa(h:q∈sz' M f):∃ n,q.2=f n:=by
 obtain⟨n,_,rfl⟩:=M7.mp h;exact⟨n,rfl⟩
theorem Q4:∀{ms:List MV}{l:LN},MvsOk nm N c l ms->∀ m∈ms,m.2.1∈N/\0<=m.2.2/\m.2.2<=c
 | [],_,_,m,h=>by cases h
 | a::ms,l,k,m,h=>by
  rcases M6.mp h with rfl | h
  ·exact⟨k.1.ot,Int.le_of_lt k.1.po,k.1.hi⟩
  ·exact Q4 k.2 m h
def eak(kw:List Nat)(g:Int):Int:=if kw=JC then g else 0
def eas(es:List En):Int:=(es.map λe=>eak e.kd e.gt).sum
def jbj(a b:List En):eas (a++b)=eas a+eas b:=by simp[eas]
def jbL(a b:List En):tot (a++b)=tot a+tot b:=by simp[tot]
def jba(a b:List En):lbs (a++b)=lbs a+lbs b:=by simp[lbs]
def jdL(p:PoolS)(f:List Nat->Int)(a b:List En):yR p f (a++b)=yR p (yR p f a) b:=by simp[yR]
theorem jfG:∀{es:List En},(∀ e∈es,e.kd≠JC)->eas es=0
 | [],_=>rfl
 | e::es,h=>by
  have:=jfG (es:=es) λa b=>h a (by simp[b]);show eak e.kd e.gt+eas es=0;rw[this,eak,if_neg<|h e<|by simp];rfl
theorem jco:∀(E:W1) (k:Nat) (f:List Nat->Int) (L:Int),(eat E f L).2+eas (jdg k E f L)=L
 | [],_,_,_=>Int.add_zero _
 | c::E,k,f,L=>by
  have:=jco E (k+1) (put f c<|f c - got L (f c))<|L - got L (f c);show(eat E _ _).2+(got L (f c)+eas (jdg (k+1) E _ _))=L
  lia
theorem jfp:∀{es:List En},(∀ e∈es,e.kd=JC)->tot es=0/\lbs es=0/\yR p f es=f/\∀ e∈es,PtOk3 p e
 | [],_=>⟨rfl,rfl,rfl,by simp⟩
 | ⟨pl,kd,nm,nd,gt⟩::es,h=>by
  obtain⟨g,i,c,d⟩:=jfp (p:=p) (f:=f) (es:=es) λa b=>h a (by simp[b]);have e:kd=JC:=h ⟨pl,kd,nm,nd,gt⟩ (by simp);subst e;refine⟨by show 0+tot es=0;lia,by show 0+lbs es=0;lia,c,λa b=>?_⟩;rcases M6.mp b with rfl | b
  ·exact⟨λz=>absurd (show JC=kJ from z)<|by decide,λz=>absurd (show JC=yk from z)<|by decide⟩
  ·exact d a b
def jkt(h:PoolOk O p)(n:List Nat):0<=jdc p n/\jdc p n<=10 ^ 12:=by
 unfold jdc;refine⟨Ja (λq b=>?_) n,xy (by decide) (λq b=>?_) n⟩
 all_goals
  obtain⟨a,c,rfl⟩:=M7.mp b;have:=h.told a c;dsimp only
  lia
def jdO{nm:List Nat}{PP:D}(j:jd PP (.int 0)=some (.str nm))(es:List En):jW (jc [] 0) qT (p2 jf (yg<|ja (pF<|p2 jd (pV 1)<|pC<|.int 0)<|ja (pC<|.str []) pN)<|pV 0) (es.map e5) [none,some PP]=some ((es.map λe=>((nm,[],e):LG)).map e7):=by
 rw[U2];refine jy (en:=e5) rfl (λρ=>∃ o,ρ=[o,some PP]) ?_ ⟨none,rfl⟩;rintro e b ρ ⟨o,rfl⟩;refine⟨[some<|e5 e,some PP],rfl,?_,_,rfl⟩;have a:jf (.tup [.str nm,.str []]) (e5 e)=some (e7 (nm,[],e)):=rfl;simp[j,a,jb]
def jbi{nm ord:List Nat}{PP:D}(j:jd PP (.int 0)=some (.str nm))(es:List En):jW (jc [] 0) qT (p2 jf (yg<|ja (pF<|p2 jd (pV 1)<|pC<|.int 0)<|ja (pF<|pV 2) pN)<|pV 0) (es.map e5) [none,some PP,some<|.str ord]=some ((es.map λe=>((nm,ord,e):LG)).map e7):=by
 rw[U2];refine jy (en:=e5) rfl (λρ=>∃ o,ρ=[o,some PP,some<|.str ord]) ?_ ⟨none,rfl⟩;rintro e b ρ ⟨o,rfl⟩;refine⟨[some<|e5 e,some PP,some<|.str ord],rfl,?_,_,rfl⟩;have a:jf (.tup [.str nm,.str ord]) (e5 e)=some (e7 (nm,ord,e)):=rfl;simp[j,a,jb]
def zS{p:PoolS}{N O:W1}{c B:Int}{L0:LN}(h:PoolOk O p)(hO:∀ w∈O,w∈N)(V:p.nm∈N)(hN:N.length<=3)(hL:LnOk N L0)(hB0:0<=B)(hB:B<=10 ^ 19)(Y:0<=c)(hc:c<=2 ^ 900){S W Rn Lv:List W2}{z loss:Int}(b:BkOk p B S W Rn Lv)(y:0<=loss) :
  ∃(b':Bk) (ln':LN) (mv:List MV) (lg:List LG),v8 [jt false p,bkD false S W Rn Lv z,.lst false<|L0.map eR,.int c,.int loss] =
    some (.tup [yh false b',.lst true<|ln'.map eR,.lst false<|mv.map eM,.lst false<|lg.map e7])/\LnOk N ln' /\
   BkOk p (B+10 ^ 12) b'.S b'.W b'.R b'.L/\(∀ m∈mv,m.2.1∈N/\0<=m.2.2/\m.2.2<=c)/\mv.length<=300/\lg.length<=310/\PdOk p ⟨S,W,Rn,Lv,z⟩ b' lg /\
   tot (lg.map (·.2.2))=c/\wU mv=lbs (lg.map (·.2.2))/\b'.x+eas (lg.map (·.2.2))=z+loss:=by
 have lR:Rn.length<=10:=by have:=congrArg List.length b.r1;rw[L3,L3] at this;have:=h.told2;lia
 have lV:Lv.length<=10:=by have:=congrArg List.length b.l1;rw[L3,L3] at this;have:=h.marks2;lia
 have J:=jeY (x:=z) (L:=loss) h b.s1 b.w1 lR lV;have A:=jfC (E:=p.eats) (f:=fnOf S) (L:=loss) (Ja b.s2) y;generalize hF:(eat p.eats (fnOf S) loss).1=F at J A;have K:=jco p.eats 0 (fnOf S) loss;generalize(eat p.eats (fnOf S) loss).2=lft at J A K;rw[jfd] at J;have Z:=wR p.eats 0 (fnOf S) loss;have M:=jbW p.eats 0 (fnOf S) loss;generalize jdg 0 p.eats (fnOf S) loss=lg at J Z K M;have no:=jjn (p:=p) h (S:=S) (W:=W) (Lv:=Lv) (x:=z) b.r1;have Q:(sz' p.C F).map (·.1)=p.C:=Yl _ _;have T:(ow' W F).map (·.1)=p.C:=by unfold ow';rw[U2];exact b.w1
 have wd:=QV (p:=p) h (S:=sz' p.C F) (W:=ow' W F) (Rn:=Rn) (Lv:=Lv) (x:=z+lft) Q T;have b1:BkOk p (B+10 ^ 12) (sz' p.C F) (wd' p (fnOf<|sz' p.C F)<|ow' W F) Rn Lv:=by
  refine⟨Q,λq g=>?_,?_,λq g=>?_,b.r1,b.r2,b.l1,b.l2⟩
  ·obtain⟨n,e⟩:=xa g;rw[e];exact(A.1 n).1
  ·unfold wd';rw[U2];exact T
  ·unfold wd' at g;obtain⟨r,hr,rfl⟩:=M7.mp g;unfold ow' at hr;obtain⟨t,ht,rfl⟩:=M7.mp hr;have h1:=b.w2 t ht;have h2:=jkt h t.1;dsimp only;constructor
   ·split<;>split<;>lia
   ·split<;>split<;>lia
 obtain⟨x,I,ef,o,hR',hR2,hel,hx0⟩:=jgJ (p:=p) h hO V hN hL (B:=B+10 ^ 12) (by lia) (by lia) Y hc (z:=z+lft) b1<|jeW h Rn;have mvl:=o.mvl;have j:jd (jt false p) (.int 0)=some (.str p.nm):=rfl;have lc1:=jdO (PP:=jt false p) j lg;have G:=jbi (ord:=jfV p Rn) (PP:=jt false p) j x.en;have hee:=h.eats2;obtain⟨ln',eb,hln⟩:=jbu V hN hL o.mv;have hcs:=o.cs;obtain⟨q1,q2,q3,q4⟩:=jfp (p:=p) (f:=fnOf Lv) M;have d:∀(es:List En) (nm od:List Nat),(es.map λe=>((nm,od,e):LG)).map (·.2.2)=es:=λes nm od=>by rw[U2];exact List.map_id _
 have hxe:eas x.en=0:=jfG λe s=>(o.po e s).ea;refine⟨⟨sz' p.C x.sz,sz' p.C x.ow,I,sz' p.P x.lv,z+lft⟩,ln',x.mv,(lg.map λe=>((p.nm,[],e):LG))++x.en.map λe=>((p.nm,jfV p Rn,e):LG),?_,hln,⟨Yl _ _,λq g=>?_,Yl _ _,λq g=>?_,hR',hR2,Yl _ _,λq g=>?_⟩,Q4 o.mv,by lia,by rw[N5,L3,L3];lia,⟨λq g=>?_,λq g=>?_,λn V=>?_⟩,?_,?_,?_⟩
 rotate_left
 ·obtain⟨n,e⟩:=xa g;rw[e];exact o.sz n
 ·obtain⟨n,e⟩:=xa g;rw[e];exact o.ow n
 ·obtain⟨n,_,rfl⟩:=M7.mp g;exact o.lv n
 ·rcases N3.mp g with s | s
  ·obtain⟨a,_,rfl⟩:=M7.mp s;rfl
  ·obtain⟨a,_,rfl⟩:=M7.mp s;rfl
 ·rcases N3.mp g with s | s
  ·obtain⟨a,X,rfl⟩:=M7.mp s;exact q4 a X
  ·obtain⟨a,X,rfl⟩:=M7.mp s;exact⟨(o.po a X).fi,(o.po a X).gu⟩
 ·rw[N6,d,d,jdL,q3,<- o.pv];exact jdo _ _ V
 ·rw[N6,d,d,jbL,q1];lia
 ·rw[N6,d,d,jba,q2,o.ms];lia
 ·rw[N6,d,d,jbj,hxe];show z+lft+_=_;lia
 show _=some (D.tup [bkD false (sz' p.C x.sz) (sz' p.C x.ow) I (sz' p.P x.lv)<|z+lft,_,_,_]);have fp:=h.fz false;have fpz:=h.frz;have hb1:=YZ false S W Rn Lv z;have hb2:=JN S W Rn Lv z;have hb3:=YZ true (sz' p.C F) (ow' W F) Rn Lv<|z+lft;have hb4:=JN (sz' p.C F) (ow' W F) Rn Lv<|z+lft;have hb5:=YZ false (sz' p.C F) (ow' W F) Rn Lv<|z+lft;have hb6:=YZ false (sz' p.C F) (wd' p (fnOf<|sz' p.C F)<|ow' W F) Rn Lv<|z+lft;have hb7:=JN (sz' p.C F) (wd' p (fnOf<|sz' p.C F)<|ow' W F) Rn Lv<|z+lft;have hb8:=YZ true (sz' p.C x.sz) (sz' p.C x.ow) I (sz' p.P x.lv)<|z+lft;have U:=JN (sz' p.C x.sz) (sz' p.C x.ow) I (sz' p.P x.lv)<|z+lft;have hl1:lim lg.length=true:=jb (by lia);have H:lim x.en.length=true:=jb (by lia);rw[N6];generalize hG1:(lg.map λe=>((p.nm,[],e):LG))=G1 at *;generalize hG2:(x.en.map λe=>((p.nm,jfV p Rn,e):LG))=G2 at *;have g1l:G1.length<=1000:=by rw[<- hG1,L3];lia
 have g2l:G2.length<=1000:=by rw[<- hG2,L3];lia
 have hl3:lim (G1.length+G2.length)=true:=jb (by lia);generalize jt false p=PP,bkD false S W Rn Lv z=B0,bkD true (sz' p.C F) (ow' W F) Rn Lv (z+lft)=B1,bkD false (sz' p.C F) (ow' W F) Rn Lv (z+lft)=B2,bkD false (sz' p.C F) (wd' p (fnOf<|sz' p.C F)<|ow' W F) Rn Lv (z+lft)=B3,bkD true (sz' p.C x.sz) (sz' p.C x.ow) I (sz' p.P x.lv) (z+lft)=B4,bkD false (sz' p.C x.sz) (sz' p.C x.ow) I (sz' p.P x.lv) (z+lft)=B5 at *;have t0:∀{a b:D},jd (.tup [a,b]) (.int 0)=some a:=rfl;have t1:∀{a b:D},jd (.tup [a,b]) (.int 1)=some b:=rfl;have k:∀{a b c:D},jd (.tup [a,b,c]) (.int 0)=some a:=rfl;have u:∀{a b c:D},jd (.tup [a,b,c]) (.int 1)=some b:=rfl;have v:∀{a b c:D},jd (.tup [a,b,c]) (.int 2)=some c:=rfl;have ha1:fzs (G1.map e7++G2.map e7)=G1.map e7++G2.map e7:=by rw[<- N6,Jv]
 have ha2:frzs (G1.map e7++G2.map e7)=true:=by rw[<- N6,vb]
 have hx:=jfJ (i:=8) (p:=yy (J6<|p2 jd (pV 7)<|pC<|.int 0) (jc [] 0) qT (p2 jf (yg<|ja (pF<|p2 jd (pV 1)<|pC<|.int 0)<|ja (pF<|pV 2) pN)<|pV 0) [none,some 0,some 6]) (ρ:=[some PP,some B0,‹L0.map eR›,some<|.int c,some<|.int loss,some<|.tup [.lst false<|lg.map e5,B2],some<|.str<|jfV p Rn,some<|.tup [.lst true<|x.en.map e5,B4,.lst true<|x.mv.map eM],↑(G1.map e7)]) (e:=.lst true<|G2.map e7) (m:=G2.map e7) (l:=G1.map e7) (by simp[k,xh,H,jv,G,-yg,-p2];simp[k,xh,H,jv,G,-yg]) (by show(bif frzs (G2.map e7) then _ else _)=_;rw[vb];rfl) rfl (by rw[L3,L3];lia);simp[v8,jH,VZ,hx,J,fp,fpz,hb1,hb2,hb3,hb4,hb5,hb6,hb7,hb8,U,no,t0,t1,wd,jfe,xh,J2,vt,ef,jv,lc1,G,hl1,H,k,u,v,QY,Kk,j,eb,jb,Jv,vb,hl3,ha1,-yg,-List.map_map];simp[k,u,v,U,J2,vt,QY,Kk,j,eb,ha2,jb]
inductive Bks (B:Int):List PoolS->List Bk->Prop where
 | nil:Bks B [] []
 | cons {p:PoolS}{b:Bk}{ps:List PoolS}{bs:List Bk}(h:BkOk p B b.S b.W b.R b.L) (t:Bks B ps bs):Bks B (p::ps) (b::bs)
inductive DayR:List PoolS->List Bk->List Bk->List LG->Prop where
 | nil:DayR [] [] [] []
 | cons {p:PoolS}{b b':Bk}{ps:List PoolS}{bs bs':List Bk}{sg lg:List LG}(h:PdOk p b b' sg) (t:DayR ps bs bs' lg):DayR (p::ps) (b::bs) (b'::bs') (sg++lg)
theorem xk:∀{l:List Int}{j:Nat}{v:Int}(h:j < l.length),(l.set j v).sum=l.sum - l[j]+v
 | a::l,0,v,_=>by simp;lia
 | a::l,j+1,v,h=>by
  have:=xk (l:=l) (j:=j) (v:=v) (by simpa using h);simp only[List.set_cons_succ,List.sum_cons,List.getElem_cons_succ,this]
  lia
structure WsOk(n:Nat)(K:Int)(ws:List Int):Prop where
 len:ws.length=n
 ok:∀ v∈ws,0<=v/\v<=K
def K1(o:Bool)(b:Bk):fz (yh o b)=yh false b:=YZ ..
def V6(b:Bk):frz (yh false b)=true:=JN ..
def YB(l:List Bk):frzs (l.map<|yh false)=true:=jK λd hd=>by obtain⟨p,_,rfl⟩:=M7.mp hd;exact V6 p
def Yj(l:List Bk):fzs (l.map<|yh false)=l.map (yh false):=yw λd hd=>by obtain⟨p,_,rfl⟩:=M7.mp hd;exact K1 _ p
def WsOk.set(h:WsOk n K ws)(b:K<=K')  (c:0<=v) (h1:v<=K'):WsOk n K' (ws.set j v):=by
 refine⟨by rw[List.length_set];exact h.len,λu a=>?_⟩;rcases List.mem_or_eq_of_mem_set a with q | q
 ·have:=h.ok u q;lia
 ·lia
theorem VA{N:W1}{f:List Nat->Int}{c:Int}{n:Nat}(l:∀ w,0<=f w/\f w < n){a0 a1 a2 a3 a4 a5 a7 a9 a10 a11 a12:Option D}(q:0<=c):∀{ms:List MV}{ws:List Int}{K:Int}{o13 o14 o15:Option D},WsOk n K ws->(∀ m∈ms,m.2.1∈N/\0<=m.2.2/\m.2.2<=c) ->
  ∃(ws':List Int) (o13' o14' o15':Option D),jL (gT 3<|gC (jc [] 13)<|gC (jc [] 14)<|gC (jc [] 15) gN) vO (ms.map eM) [a0,a1,a2,a3,a4,a5,↑(ws.map D.int),a7,some<|dct true N f,a9,a10,a11,a12,o13,o14,o15]=some (.nx [a0,a1,a2,a3,a4,a5,↑(ws'.map D.int),a7,some<|dct true N f,a9,a10,a11,a12,o13',o14',o15'])/\WsOk n (K+c*ms.length) ws'/\ws'.sum=ws.sum+wU ms
 | [],ws,K,o13,o14,o15,h,_=>⟨ws,o13,o14,o15,rfl,by simpa using h,(Int.add_zero _).symm⟩
 | m::ms,ws,K,o13,o14,o15,h,p=>by
  obtain⟨r,y,z⟩:=p m (by simp);have d:=l m.2.1;have s:=yp (o:=true) (f:=f) r;have g:(f m.2.1).toNat < ws.length:=by rw[h.len];lia
  have A:=h.ok _<|List.getElem_mem g;have j:ixN (ws.map D.int).length (f m.2.1)=some (f m.2.1).toNat:=by
   have:=jaH (n:=(ws.map D.int).length) (i:=(f m.2.1).toNat) (by rw[L3];lia);rw[Int.toNat_of_nonneg d.1] at this;exact this
  have a:(ws.map D.int)[(f m.2.1).toNat]?=some (.int ws[(f m.2.1).toNat]):=by rw[List.getElem?_map,E4 g];rfl
  have b:(ws.map D.int).set (f m.2.1).toNat (.int<|ws[(f m.2.1).toNat]+m.2.2)=(ws.set (f m.2.1).toNat (ws[(f m.2.1).toNat]+m.2.2)).map D.int:=by rw[List.map_set]
  obtain⟨ws',o13',o14',o15',e,k,t⟩:=VA l (a0:=a0) (a1:=a1) (a2:=a2) (a3:=a3) (a4:=a4) (a5:=a5) (a7:=a7) (a9:=a9) (a10:=a10) (a11:=a11) (a12:=a12) q (ms:=ms) (ws:=ws.set (f m.2.1).toNat (ws[(f m.2.1).toNat]+m.2.2)) (K:=K+c) (o13:=some<|.str m.1) (o14:=some<|.str m.2.1) (o15:=some<|.int m.2.2) (h.set (by lia) (by lia)<|by lia)<|λu k=>p u (by simp[k]);refine⟨ws',o13',o14',o15',?_,?_,by rw[t,xk g];show _=_+(m.2.2+wU ms);lia⟩
  ·have v:vO [a0,a1,a2,a3,a4,a5,↑(ws.map D.int),a7,some<|dct true N f,a9,a10,a11,a12,some<|.str m.1,some<|.str m.2.1,some<|.int m.2.2]=some (.nx [a0,a1,a2,a3,a4,a5,↑((ws.set (f m.2.1).toNat (ws[(f m.2.1).toNat]+m.2.2)).map D.int),a7,some<|dct true N f,a9,a10,a11,a12,some<|.str m.1,some<|.str m.2.1,some<|.int m.2.2]):=by
    rw[<- b];generalize dct true N f=DD,ws.map D.int=WW at *;simp only[vO,zc,p2,pV0,pVs,L5,s,jaR,Y0,j,a];rfl
   rw[L6,lpE ?_ v,e];rfl
  ·have x:K+c*((m::ms).length:Int)=K+c+c*(ms.length:Int):=by rw[M4];push_cast;rw[Int.mul_add];lia
   rw[x];exact k
def qM(bs:List Bk)(ln:LN)(ws:List Int):D:=.tup [.lst false<|bs.map<|yh false,.lst false<|ln.map eR,.lst false<|ws.map D.int]
def jdx{N:W1}{f:List Nat->Int}{B K:Int}{p:PoolS}{X:W1}(h:PoolOk X p)(hX:∀ w∈X,w∈N)(hn:p.nm∈N)(hN:N.length<=3){n:Nat}(hf:∀ w,0<=f w/\f w < n)(A:0<=B)(hB:B<=10 ^ 19)(hA:10 ^ 31<=K)(hK:K<=2 ^ 890)
  {bs:List Bk}{ln0:LN}{ws0:List Int}{inc los:List Int}{s:Nat}{b:Bk}(hb:bs[s]?=some b) (C:BkOk p B b.S b.W b.R b.L) {g lo:Int}(hi:inc[s]?=some g) (hi0:0<=g) (hi1:g<=10 ^ 31) (o:los[s]?=some lo) (E:0<=lo) (hs:s < n)
  {acc:List Bk}(hacc:acc.length<=10) {ln:LN}(hL:LnOk N ln) {ob:Bool}{ws:List Int}(F:WsOk n K ws) {log:List LG}(hlog:log.length<=2000) {a0 o11 o12 o13 o14 o15:Option D} :
  ∃(b':Bk) (ln':LN) (ws':List Int) (seg:List LG) (o11' o12' o13' o14' o15':Option D),
   vN [a0,some<|qM bs ln0 ws0,‹inc.map D.int›,‹los.map D.int›,↑(acc.map<|yh false),some<|.lst ob<|ln.map eR,↑(ws.map D.int),↑(log.map e7),some<|dct true N f,some<|.int s,some<|jt false p,o11,o12,o13,o14,o15] =
    some (.nx [a0,some<|qM bs ln0 ws0,‹inc.map D.int›,‹los.map D.int›,↑((acc++[b']).map (yh false)),‹ln'.map eR›,↑(ws'.map D.int),↑((log++seg).map e7),some<|dct true N f,some<|.int s,some<|jt false p,o11',o12',o13',o14',o15']) /\
   BkOk p (B+10 ^ 12) b'.S b'.W b'.R b'.L/\LnOk N ln'/\WsOk n (1024*K) ws'/\seg.length<=310/\PdOk p b b' seg/\ws'.sum+tot (seg.map (·.2.2))=ws.sum+g+lbs (seg.map (·.2.2))/\b'.x+eas (seg.map (·.2.2))=b.x+lo:=by
 have j:s < ws.length:=by rw[F.len];exact hs
 have hwv:=F.ok _<|List.getElem_mem j;have hll:=hL.len hN;obtain⟨b',ln',mv,seg,ep,q,G,H,mvl,r,pd,ht,hm,I⟩:=zS (p:=p) (L0:=ln) (B:=B) (c:=g+ws[s]) h hX hn hN hL A hB (by lia) (by lia) (S:=b.S) (W:=b.W) (Rn:=b.R) (Lv:=b.L) (z:=b.x) (loss:=lo) C E;have J:WsOk n K (ws.set s 0):=F.set (Int.le_refl _) (by lia) (by lia);obtain⟨ws',o13',o14',o15',ew,k,M⟩:=VA (N:=N) (f:=f) (c:=g+ws[s]) hf (a0:=a0) (a1:=some<|qM bs ln0 ws0) (a2:=‹inc.map D.int›) (a3:=‹los.map D.int›) (a4:=↑((acc++[b']).map (yh false))) (a5:=‹ln'.map eR›) (a7:=↑(log.map e7)) (a9:=some<|.int s) (a10:=some<|jt false p) (a11:=some<|.int<|g+ws[s]) (a12:=some<|.tup [yh false b',.lst false<|ln'.map eR,.lst false<|mv.map eM,.lst false<|seg.map e7]) (by lia) (ms:=mv) (ws:=ws.set s 0) (o13:=o13) (o14:=o14) (o15:=o15) J H;refine⟨b',ln',ws',seg,some<|.int<|g+ws[s],some<|.tup [yh false b',.lst false<|ln'.map eR,.lst false<|mv.map eM,.lst false<|seg.map e7],o13',o14',o15',?_,G,q,⟨k.len,λv hv=>⟨(k.ok v hv).1,?_⟩⟩,r,pd,by rw[M,xk j];lia,I⟩
 rotate_left
 ·have h1:=(k.ok v hv).2;have h2:(g+ws[s])*(mv.length:Int)<=(g+ws[s])*300:=Int.mul_le_mul_of_nonneg_left (by lia) (by lia)
  lia
 have O:jd (.lst false<|bs.map<|yh false) (.int (s:Int))=some (yh false b):=by
  have t:=(M0.mp hb).1;rw[jde (by lia)<|by rw[L3];lia,N9,List.getElem?_map,hb];rfl
 have P:jd (.lst false<|inc.map D.int) (.int (s:Int))=some (.int g):=by
  have t:=(M0.mp hi).1;rw[jde (by lia)<|by rw[L3];lia,N9,List.getElem?_map,hi];rfl
 have Q:jd (.lst false<|los.map D.int) (.int (s:Int))=some (.int lo):=by
  have t:=(M0.mp o).1;rw[jde (by lia)<|by rw[L3];lia,N9,List.getElem?_map,o];rfl
 have T:jd (.lst true<|ws.map D.int) (.int (s:Int))=some (.int ws[s]):=by
  rw[jde (by lia)<|by rw[L3];lia,N9,List.getElem?_map,E4 j];rfl
 have U:jd (qM bs ln0 ws0) (.int 0)=‹bs.map (yh false)›:=rfl;have u:ixN (ws.map D.int).length (s:Int)=some s:=jaH (by rw[L3];exact j);have y:(ws.map D.int).set s (.int 0)=(ws.set s 0).map D.int:=by rw[List.map_set]
 have fp:=h.fz false;have V:=h.frz;have Y:fz (yh false b)=yh false b:=K1 _ _;have Z:frz (yh false b)=true:=V6 _;have hb3:fz (yh false b')=yh false b':=K1 ..;have hb4:frz (yh false b')=true:=V6 _;have ep':v8 [jt false p,yh false b,.lst false<|ln.map eR,.int<|g+ws[s],.int lo]=some (.tup [yh false b',.lst true<|ln'.map eR,.lst false<|mv.map eM,.lst false<|seg.map e7]):=ep;have ea:(acc++[b']).map (yh false)=acc.map (yh false)++[yh false b']:=by rw[N6];rfl
 rw[ea] at ew ⊢;have hal:lim (acc.map<|yh false).length=true:=jb (by rw[L3];lia);have I:=jfJ (i:=7) (p:=p2 jd (pV 12)<|pC<|.int 3) (ρ:=[a0,some<|qM bs ln0 ws0,‹inc.map D.int›,‹los.map D.int›,↑(acc.map (yh false)++[yh false b']),‹ln'.map eR›,↑(ws'.map D.int),↑(log.map e7),some<|dct true N f,some<|.int s,some<|jt false p,some<|.int<|g+ws[s],some<|.tup [yh false b',.lst false<|ln'.map eR,.lst false<|mv.map eM,.lst false<|seg.map e7],o13',o14',o15']) (e:=.lst false<|seg.map e7) (m:=seg.map e7) (l:=log.map e7) rfl (by show(bif frzs (seg.map e7) then _ else _)=_;rw[vb];rfl) rfl (by rw[L3,L3];lia);have em:(log++seg).map e7=log.map e7++seg.map e7:=N6;rw[em];have v0:∀{a b c d:D},jd (.tup [a,b,c,d]) (.int 0)=some a:=rfl;have v1:∀{a b c d:D},jd (.tup [a,b,c,d]) (.int 1)=some b:=rfl;have v2:∀{a b c d:D},jd (.tup [a,b,c,d]) (.int 2)=some c:=rfl;generalize ws[s]=wv,qM bs ln0 ws0=ST,jt false p=PP,yh false b=B0 at *;generalize yh false b'=B1,dct true N f=DD,bs.map (yh false)=BS,acc.map (yh false)=AC,inc.map D.int=II,los.map D.int=LL at *;unfold vN;apply sq (by simp[P,T];rfl);apply sq (by simp[u,-List.length_map];rw[y]);apply sq (by simp[U,O,Q,ep',fp,V,Y,Z,J2,vt,-List.map_set];rfl);apply sq (by simp[hb3,hb4,v0,J2,vt,QY,Kk,Jv,vb,hal,-List.map_set];rfl);apply sq (by simp[v1,vt,-List.map_set];rfl);apply sq (by rw[kK];simp[v2,Kk,QY,-List.map_set];exact ew);exact I
def jnK(n:Nat):(1:Int)<=1024 ^ n:=by
 induction n with
 | zero=>decide
 | succ n a=>rw[Int.pow_succ];lia
def Qc{K:Int}(h:0<=K)(n:Nat):K<=K*1024 ^ n:=by
 have:=Int.mul_le_mul_of_nonneg_left (jnK n) h
 lia
theorem wy{N:W1}{f:List Nat->Int}{n:Nat}(V:N.length<=3)(W:∀ w,0<=f w/\f w < n){bs:List Bk}{ws0 inc los:List Int}(o:inc.length=n)(r:los.length=n)(hi:∀ v∈inc,0<=v/\v<=10 ^ 31)(h:∀ v∈los,0<=v){a0:Option D}{B:Int}(i:0<=B)(Y:B<=10 ^ 19) :
  ∀{Q:List PoolS}{s:Nat}{acc:List Bk}{ln:LN}{ob:Bool}{ws:List Int}{log:List LG}{K:Int}{o9 o10 o11 o12 o13 o14 o15:Option D},(∀ p∈Q,p.nm∈N/\∃ X,PoolOk X p/\∀ w∈X,w∈N)->Bks B Q (bs.drop s)->s+Q.length=n->n<=3->acc.length=s->LnOk N ln->WsOk n K ws->log.length<=400*s->10 ^ 31<=K->K*1024 ^ Q.length<=2 ^ 890 ->
  ∃(bs':List Bk) (ln':LN) (ob':Bool) (ws':List Int) (seg:List LG) (o9' o10' o11' o12' o13' o14' o15':Option D),
   jL (gT 2<|gC (jc [] 9)<|gC (jc [] 10) gN) vN (jJ s<|Q.map<|jt false) [a0,some<|qM bs ln0 ws0,‹inc.map D.int›,‹los.map D.int›,↑(acc.map<|yh false),some<|.lst ob<|ln.map eR,↑(ws.map D.int),↑(log.map e7),some<|dct true N f,o9,o10,o11,o12,o13,o14,o15] =
    some (.nx [a0,some<|qM bs ln0 ws0,‹inc.map D.int›,‹los.map D.int›,↑((acc++bs').map (yh false)),some<|.lst ob'<|ln'.map eR,↑(ws'.map D.int),↑((log++seg).map e7),some<|dct true N f,o9',o10',o11',o12',o13',o14',o15']) /\
   Bks (B+10 ^ 12) Q bs'/\LnOk N ln'/\WsOk n (K*1024 ^ Q.length) ws'/\DayR Q (bs.drop s) bs' seg/\seg.length<=310*Q.length/\ws'.sum+tot (seg.map (·.2.2))=ws.sum+(inc.drop s).sum+lbs (seg.map (·.2.2))/\(bs'.map (·.x)).sum+eas (seg.map (·.2.2))=((bs.drop s).map (·.x)).sum+(los.drop s).sum
 | [],s,acc,ln,ob,ws,log,K,o9,o10,o11,o12,o13,o14,o15,_,hb,hs,_,_,hL,hw,_,_,_=>by
  refine⟨[],ln,ob,ws,[],o9,o10,o11,o12,o13,o14,o15,by simp[jJ],.nil,hL,by simpa using hw,?_⟩;generalize bs.drop s=bd at hb;cases hb;rw[List.length_nil,Nat.add_zero] at hs;rw[List.drop_eq_nil_of_le<|show inc.length<=s by lia,List.drop_eq_nil_of_le<|show los.length<=s by lia];exact⟨.nil,by simp,by simp[tot,lbs],by simp[eas]⟩
 | p::Q,s,acc,ln,ob,ws,log,K,o9,o10,o11,o12,o13,o14,o15,hQ,hb,hs,hn3,hacc,hL,hw,hlog,hA,hK=>by
  obtain⟨t,X,Z,hX⟩:=hQ p (by simp);rw[M4] at hs hK;rw[Int.pow_succ] at hK;have hK1:=Qc (K:=K) (by lia) Q.length;have j:K*(1024 ^ Q.length*1024)=1024*K*1024 ^ Q.length:=by rw[Int.mul_comm (1024 ^ Q.length) 1024,<- Int.mul_assoc,Int.mul_comm K 1024]
  have hK2:=Qc (K:=1024*K) (by lia) Q.length;generalize k:bs.drop s=bd at hb;cases hb with
  | @cons _ b _ u y d =>
   have z:bs[s]?=some b:=by
    have:=congrArg (·[0]?) k;simpa using this
   have a:bs.drop (s+1)=u:=by
    have:=congrArg (List.drop 1) k;rw[List.drop_drop] at this;simpa using this
   have c:s < inc.length:=by lia
   have g:s < los.length:=by lia
   obtain⟨b',ln',ws',seg,o11',o12',o13',o14',o15',e,A,C,E,sl,pd,sm1,sm2⟩:=jdx (N:=N) (f:=f) (B:=B) (K:=K) Z hX t V W i Y hA (by lia) (bs:=bs) (ln0:=ln0) (ws0:=ws0) (inc:=inc) (los:=los) (s:=s) z y (E4 c) (hi _<|List.getElem_mem c).1 (hi _<|List.getElem_mem c).2 (E4 g) (h _<|List.getElem_mem g) (by lia) (acc:=acc) (by lia) hL (ob:=ob) hw (log:=log) (by lia) (a0:=a0) (o11:=o11) (o12:=o12) (o13:=o13) (o14:=o14) (o15:=o15);obtain⟨bs',F,ob',G,l,p9,H,I,J,L,M,O,P,R,S,T,m,sl2,sn1,U⟩:=wy V W o r hi h (a0:=a0) i Y (bs:=bs) (ln0:=ln0) (ws0:=ws0) (Q:=Q) (s:=s+1) (acc:=acc++[b']) (ln:=ln') (ob:=false) (ws:=ws') (log:=log++seg) (K:=1024*K) (o9:=some<|.int s) (o10:=some<|jt false p) (o11:=o11') (o12:=o12') (o13:=o13') (o14:=o14') (o15:=o15') (λq hq=>hQ q<|by simp[hq]) (by rw[a];exact d) (by lia) hn3 (by simp;lia) C E (by simp;lia) (by lia) (by rw[<- j];exact hK);refine⟨b'::bs',F,ob',G,seg++l,p9,H,I,J,L,M,O,?_,.cons A R,S,?_,?_⟩
   ·rw[L6,jJ,lpE ?_ e,P];simp only[List.append_assoc,List.singleton_append];rfl
   ·rw[M4,Int.pow_succ,j];exact T
   ·rw[a] at m;rw[a] at U;refine⟨.cons pd m,by rw[N5,M4];lia,?_,?_⟩
    ·rw[N6,jbL,jba,List.drop_eq_getElem_cons c,List.sum_cons];lia
    ·rw[N6,jbj,List.drop_eq_getElem_cons g,List.sum_cons,L6,List.sum_cons,L6,List.sum_cons];lia
noncomputable def anm:Nat->List PoolS->List W2
 | _,[]=>[]
 | s,p::Q=>(p.nm,(s:Int))::anm (s+1) Q
theorem wH:∀(Q:List PoolS) (s:Nat),(anm s Q).map (·.1)=Q.map (·.nm)
 | [],_=>rfl
 | p::Q,s=>by rw[anm,L6,L6,wH Q]
theorem jfi:∀(Q:List PoolS) (s:Nat),∀ q∈anm s Q,0<=q.2/\q.2<=(s:Int)+Q.length - 1
 | [],_,q,h=>by cases h
 | p::Q,s,q,h=>by
  rw[anm] at h;rw[M4];rcases M6.mp h with rfl | h
  ·dsimp only;lia
  ·have:=jfi Q (s+1) q h;lia
theorem jcB:∀(Q:List PoolS) (s:Nat),(anm s Q).length=Q.length
 | [],_=>rfl
 | p::Q,s=>by rw[anm,M4,jcB Q,M4]
theorem ul:∀(Q:List PoolS) (s:Nat) (o o':Option D),jW (gT 2<|gC (jc [] 0)<|gC (jc [] 1) gN) qT (yg<|ja (pF<|p2 jd (pV 1)<|pC<|.int 0)<|ja (pF<|pV 0) pN) (jJ s<|Q.map<|jt false) [o,o']=some ((anm s Q).map e2)
 | [],_,_,_=>rfl
 | p::Q,s,o,o'=>by
  have a:=ul Q (s+1) (some<|.int s)<|some<|jt false p;have j:jd (jt false p) (.int 0)=some (.str p.nm):=rfl;have b:(yg<|ja (pF<|p2 jd (pV 1)<|pC<|.int 0)<|ja (pF<|pV 0) pN) [some<|.int s,some<|jt false p]=some (e2 (p.nm,(s:Int))):=by
   generalize jt false p=PP at *;simp[j,jb,e2]
  rw[L6,jJ,cpE ?_ b,a];rfl;rfl
def jeG{ns:List Int}{i:Nat}(hi:i < 3):(j9 (nmL ns) (some<|3+4*(0+(i:Int)))<|some<|7+4*(0+(i:Int))).length=4:=by
 unfold nmL;rw[KP,L3];have:i=0 \/ i=1 \/ i=2:=by lia
 rcases this with rfl | rfl | rfl<;>rfl
def PtW(ns:List Int)(i:Nat)(w:List Nat):Prop:=w=VY ns (6+4*i) \/ w=VY ns (6+4*i)++[104]
def jh6(hi:i < 3)(d:j < 3)(h:PtW ns i w)(h':PtW ns j w):i=j:=by
 have e:∀{a b:Nat},a < 16->b < 16->(VY ns a).length=(VY ns b).length:=λ_ _=>by unfold VY;simp
 have l:=e (show 6+4*i < 16 by lia) (show 6+4*j < 16 by lia);have k:∀{a b:List Nat},a.length=b.length->a≠b++[104]:=λq z=>by have:=congrArg List.length z;rw[N5,List.length_singleton] at this;lia
 have c:VY ns (6+4*i)=VY ns (6+4*j)->i=j:=λz=>by have:=wE (by lia) (by lia) z;lia
 rcases h with rfl | rfl<;>rcases h' with z | z
 ·exact c z
 ·exact absurd z<|k l
 ·exact absurd z.symm<|k l.symm
 ·exact c<|List.append_cancel_right z
def jiJ{ns:List Int}{i:Nat}(hi:i < 3):(j9 (nmL ns) (some<|3+4*(0+(i:Int)))<|some<|7+4*(0+(i:Int))).getD (3:Int).toNat []=VY ns (6+4*i):=by
 unfold nmL;rw[KP];have:i=0 \/ i=1 \/ i=2:=by lia
 rcases this with rfl | rfl | rfl<;>rfl
def jaO{ns:List Int}{i:Nat}{most many:Int}(hi:i < 3)(hm:0 < many)(S:many<=3){acc:List PoolS}(ha:acc.length<=10){o6 o7 o8 o9:Option D} :
  ∃(p:PoolS) (o6' o7' o8' o9':Option D) (X:W1),vD [‹ns.map D.int›,some<|.int most,↑((nmL ns).map D.str),some<|.int many,↑(acc.map<|jt true),some<|.int<|0+(i:Int),o6,o7,o8,o9] =
   some (.nx [‹ns.map D.int›,some<|.int most,↑((nmL ns).map D.str),some<|.int many,↑((acc++[p]).map (jt true)),some<|.int<|0+(i:Int),o6',o7',o8',o9'])/\PoolOk X p/\p.nm=(nmL ns).getD i []/\(∀ w∈X,w∈j9 (nmL ns) none (some many))/\∀ w∈p.marks.map (·.1),PtW ns i w:=by
 have f:=jeG (ns:=ns) hi;have e:=jiJ (ns:=ns) hi;have u:=ky true (nmL ns) (some<|3+4*(0+(i:Int)))<|some<|7+4*(0+(i:Int));have n:∀ w∈j9 (nmL ns) (some<|3+4*(0+(i:Int))) (some<|7+4*(0+(i:Int))),Wd w/\w.length<=6:=λw b=>jaK<|jZ b;have v:(j9 (nmL ns) (some<|3+4*(0+(i:Int)))<|some<|7+4*(0+(i:Int))).Nodup:=vY<|Qu ns;generalize j9 (nmL ns) (some<|3+4*(0+(i:Int))) (some<|7+4*(0+(i:Int)))=M at f u n v e;have T:=ju (ns:=ns) (k:=905+(0+(i:Int))) (many:=3) (by lia) (by lia) (by decide);have b1:=jY ns (905+(0+(i:Int))) (many:=3) (by decide);have b2:=ya ns (905+(0+(i:Int))) (many:=3) (by decide);have y:=ky true M none<|some<|1+drw ns (905+(0+(i:Int))) 3;have z:0 < (j9 M none<|some<|1+drw ns (905+(0+(i:Int))) 3).length:=by
  rw[Jg _<|by lia,E5];lia
 have g:(j9 M none<|some<|1+drw ns (905+(0+(i:Int))) 3).length<=10:=N8 (yO _ _ _) (by lia);have A:∀ w∈j9 M none (some<|1+drw ns (905+(0+(i:Int))) 3),Wd w:=λw b=>(n w<|jZ b).1;have B:(j9 M none<|some<|1+drw ns (905+(0+(i:Int))) 3).Nodup:=vY v;generalize j9 M none (some<|1+drw ns (905+(0+(i:Int))) 3)=C at y z g A B;have E:=kf (o:=true) (l:=M) (i:=3) (by decide) (by lia);have h:=n _<|yn (l:=M) (i:=(3:Int).toNat) (d:=[]) (by rw[f];decide);generalize M.getD (3:Int).toNat []=a at E h e;have U:=ju (ns:=ns) (k:=910+(0+(i:Int))) (many:=3) (by lia) (by lia) (by decide);have F:jc8 none (some<|drw ns (910+(0+(i:Int))) 3) (.lst true [.str a,.str<|a++[104]])=↑((j9 [a,a++[104]] none<|some<|drw ns (910+(0+(i:Int))) 3).map D.str):=ky true [a,a++[104]] none _;have G:(j9 [a,a++[104]] none<|some<|drw ns (910+(0+(i:Int))) 3).length<=10:=N8 (yO _ _ _) (by simp);have H:∀ w∈j9 [a,a++[104]] none (some<|drw ns (910+(0+(i:Int))) 3),Wd w:=by
  intro w b;have:=jZ b;simp only[M6,List.not_mem_nil,or_false] at this;rcases this with rfl | rfl
  ·exact h.1
  ·refine⟨by rw[N5];have:=h.2;simp only[M4,List.length_nil];lia,λc j=>?_⟩;rcases N3.mp j with j | j
   ·exact h.1.2 c j
   ·rw[M9.mp j];decide
 have I:(j9 [a,a++[104]] none<|some<|drw ns (910+(0+(i:Int))) 3).Nodup:=vY (by simp);have J:∀ w∈j9 [a,a++[104]] none (some<|drw ns (910+(0+(i:Int))) 3),PtW ns i w:=λw b=>by
  have:=jZ b;simp only[M6,List.not_mem_nil,or_false] at this;unfold PtW;rw[<- e];exact this
 generalize j9 [a,a++[104]] none (some<|drw ns (910+(0+(i:Int))) 3)=P at F G H I J;have V:=ky true (nmL ns) none<|some many;have q:=kf (o:=true) (l:=nmL ns) (i:=0+(i:Int)) (by lia) (by rw[JR];lia);have K:=jaK<|yn (l:=nmL ns) (i:=(0+(i:Int)).toNat) (d:=[]) (by rw[JR];lia);have m:(nmL ns).getD (0+(i:Int)).toNat []=(nmL ns).getD i []:=by congr 1;lia
 generalize(nmL ns).getD (0+(i:Int)).toNat []=nm at q K m;have L:jW (jc [] 0) (jl<|p2 xC (pV 0)<|p2 jd (pV 1)<|pV 2) (pF<|pV 0) ((j9 (nmL ns) none<|some many).map D.str) [none,↑((nmL ns).map D.str),some<|.int<|0+(i:Int)]=some (((j9 (nmL ns) none<|some many).filter λc=>!(c==nm)).map D.str):=by
  refine JQ (λρ=>∃ o,ρ=[o,↑((nmL ns).map D.str),some<|.int<|0+(i:Int)]) ?_ ⟨none,rfl⟩;rintro x hx ρ ⟨o,rfl⟩;refine⟨_,rfl,?_,rfl,_,rfl⟩;simp only[jl,p2,pV0,pVs,L5,List.set,q,jmZ,jc0]
 have N:((j9 (nmL ns) none<|some many).filter λc=>!(c==nm)).length<=10:=by
  refine N8 (List.length_filter_le _ _) ?_;rw[Jg _<|by lia,E5];lia
 have Q:∀ w∈(j9 (nmL ns) none<|some many).filter λc=>!(c==nm),Wd w:=λw b=>(jaK<|jZ (List.mem_filter.mp b).1).1;have r:lim (j9 (nmL ns) none<|some many).length=true:=jb<|N8 (yO _ _ _) (by rw[JR];decide);have R:∀ w∈(j9 (nmL ns) none<|some many).filter λc=>!(c==nm),w∈j9 (nmL ns) none (some many):=λw b=>(List.mem_filter.mp b).1;generalize((j9 (nmL ns) none<|some many).filter λc=>!(c==nm))=X at L N Q R;obtain⟨p,W,Y,s,t⟩:=jgG (ns:=ns) (k:=200*(0+(i:Int))) (nm:=nm) (C:=C) (P:=P) (O:=X) (by lia) (by lia) z g G N K.1 A H Q B I;refine⟨p,↑(M.map D.str),‹C.map D.str›,‹P.map D.str›,‹X.map D.str›,X,?_,Y,s.trans m,R,t▸J⟩;have Z:a.length+[104].length<=100000:=by have:=h.2;simp only[M4,List.length_nil];lia
 simp(disch:=first | lia | (simp;done) | (simp;lia)) [vD,vg,u,T,y,E,U,jfL Z,F,V,jv,L,r,q,W,jb,-Int.zero_add,-jl]
structure DealOk(Ps:List PoolS):Prop where
 len1:0 < Ps.length
 len2:Ps.length<=3
 nmn:(Ps.map (·.nm)).Nodup
 ok:∀ p∈Ps,∃ X,PoolOk X p/\∀ w∈X,w∈Ps.map (·.nm)
 pd:Ps.Pairwise λp q=>∀ w∈p.marks.map (·.1),w∉q.marks.map (·.1)
def jhC(ns:List Int)  (h1:1<=most) (h2:most<=3):∃ Ps:List PoolS,qj [.lst false<|ns.map D.int,.int most]=↑(Ps.map<|jt true)/\DealOk Ps:=by
 have en:=jdt ns;have A:=ju (ns:=ns) (k:=904) (many:=most) (by decide) (by decide) (by lia);have L:=jY ns 904 (many:=most) (by lia);have M:=ya ns 904 (many:=most) (by lia);obtain⟨N,e,Ps,r,c,d,g,l,rfl,b,s,o⟩:=YR (G:=jc [] 5) (f:=vD) (xs:=Vp 0 (1+drw ns 904 most).toNat) (λi ρ=>∃(Ps:List PoolS) (r c d g l:Option D),ρ=[‹ns.map D.int›,some<|.int most,↑((nmL ns).map D.str),some<|.int<|1+drw ns 904 most,↑(Ps.map<|jt true),r,c,d,g,l]/\Ps.map (·.nm)=(nmL ns).take i/\(∀ p∈Ps,∃ X,PoolOk X p/\∀ w∈X,w∈j9 (nmL ns) none (some<|1+drw ns 904 most))/\∀ j p,Ps[j]?=some p->∀ w∈p.marks.map (·.1),PtW ns j w) (by
  rintro i x ρ B ⟨Ps,r,c,d,g,l,rfl,b,s,o⟩;obtain⟨rfl,hi⟩:=Kc B;have m:Ps.length=i:=by have:=congrArg List.length b;rw[L3,E5,JR] at this;lia
  obtain⟨p,C,E,F,H,X,e,t,u,v,y⟩:=jaO (ns:=ns) (i:=i) (most:=most) (many:=1+drw ns 904 most) (by lia) (by lia) (by lia) (acc:=Ps) (by lia) (o6:=c) (o7:=d) (o8:=g) (o9:=l);refine⟨_,_,rfl,.inl e,Ps++[p],_,_,_,_,_,rfl,?_,λq a=>?_,λj q a=>?_⟩
  ·have n:i < (nmL ns).length:=by rw[JR];lia
   rw[N6,b,List.take_succ_eq_append_getElem n,List.map_singleton,u,List.getD_eq_getElem?_getD,E4 n];rfl
  ·rcases N3.mp a with a | a
   ·exact s q a
   ·rw[M9.mp a];exact⟨X,t,v⟩
  ·rw[List.getElem?_append] at a;split at a
   ·exact o j q a
   ·have:j=i:=by
     have:=(M0.mp a).1;rw[List.length_singleton] at this
     lia
    subst this;rw[m,Nat.sub_self] at a;cases a;exact y) (ρ:=[‹ns.map D.int›,some<|.int most,↑((nmL ns).map D.str),some<|.int<|1+drw ns 904 most,some<|.lst true [],none,none,none,none,none]) ⟨[],none,none,none,none,none,rfl,rfl,by simp,by simp⟩
 rw[yQ] at b;have z:=qp (j:=1+drw ns 904 most) (by lia) (by lia);have m:Ps.length=(1+drw ns 904 most).toNat:=by have:=congrArg List.length b;rw[L3,E5,JR] at this;lia
 refine⟨Ps,?_,by lia,by lia,by rw[b];exact(Qu ns).sublist (List.take_sublist _ _),λp t=>?_,List.pairwise_iff_getElem.mpr λi j hi I J w h1 h2=>?_⟩
 ·simp(disch:=first | lia | (simp;done) | (simp;lia)) [qj,jH,VW,en,A,z,e,jb]
 ·obtain⟨X,h,v⟩:=s p t;refine⟨X,h,λw K=>?_⟩;have:=v w K;rw[Jg _<|by lia] at this;rw[b];exact this
 ·have:=jh6 (by lia) (by lia) (o i _ (E4 hi) w h1)<|o j _ (E4 I) w h2
  lia
noncomputable abbrev jdp(Ps:List PoolS):List (List Nat):=Ps.map (·.nm)
def vp(h:DealOk Ps)(o:Bool):fzs (Ps.map<|jt o)=Ps.map (jt false):=by
 rw[vU,U2];exact List.map_congr_left λx a=>by obtain⟨X,b,_⟩:=h.ok x a;exact b.fz o
def yJ(h:DealOk Ps):frzs (Ps.map<|jt false)=true:=jK λd hd=>by
 obtain⟨x,a,rfl⟩:=M7.mp hd;obtain⟨X,b,_⟩:=h.ok x a;exact b.frz
structure StOk(Ps:List PoolS)(B K:Int)(bs:List Bk)(ln:LN)(ws:List Int):Prop where
 b:Bks B Ps bs
 l:LnOk (jdp Ps) ln
 w:WsOk Ps.length K ws
structure FlowOk(n:Nat)(inc los:List Int):Prop where
 il:inc.length=n
 ll:los.length=n
 i:∀ v∈inc,0<=v/\v<=10 ^ 31
 l:∀ v∈los,0<=v
def jaJ{K:Int}(h:0<=K){n:Nat}(a:n<=3):K*1024 ^ n<=K*2 ^ 30:=by
 refine Int.mul_le_mul_of_nonneg_left ?_ h;have:n=0 \/ n=1 \/ n=2 \/ n=3:=by lia
 rcases this with rfl | rfl | rfl | rfl<;>decide
def jjl{c:List PoolS}(h:DealOk c){B K:Int}{bs:List Bk}{ws inc los:List Int}(st:StOk c B K bs ln ws)(k:FlowOk c.length inc los)(m:0<=B)(R:B<=10 ^ 19)(T:10 ^ 31<=K)(hK:K*2 ^ 30<=2 ^ 890) :
  ∃(bs':List Bk) (ln':LN) (ob:Bool) (ws':List Int) (log:List LG),qu [.lst false<|c.map<|jt false,qM bs ln ws,.lst false<|inc.map D.int,.lst false<|los.map D.int]=some (.tup [.tup [.lst true<|bs'.map<|yh false,.lst ob<|ln'.map eR,.lst true<|ws'.map D.int],.lst true<|log.map e7]) /\
   StOk c (B+10 ^ 12) (K*2 ^ 30) bs' ln' ws'/\DayR c bs bs' log/\log.length<=1200/\ws'.sum+tot (log.map (·.2.2))=ws.sum+inc.sum+lbs (log.map (·.2.2))/\(bs'.map (·.x)).sum+eas (log.map (·.2.2))=(bs.map (·.x)).sum+los.sum:=by
 have l1:=h.len1;have l2:=h.len2;have r:=jaJ (K:=K) (by lia) l2;have j:=jfi c 0;have d:=wH c 0;have U:∀ w,0<=fnOf (anm 0 c) w/\fnOf (anm 0 c) w < c.length:=λw=>by
  have a:=Ja (S:=anm 0 c) (λq t=>(j q t).1) w;have b:=xy (S:=anm 0 c) (B:=(c.length:Int) - 1) (by lia) (λq t=>by have:=(j q t).2;lia) w
  lia
 obtain⟨bs',ln',ob,ws',log,V,u,y,z,A,C,E,e,F,G,g,W,sl,H,I⟩:=wy (N:=jdp c) (f:=fnOf<|anm 0 c) (n:=c.length) (by rw[L3];exact l2) U (bs:=bs) (ln0:=ln) (ws0:=ws) k.il k.ll k.i k.l (a0:=‹c.map (jt false)›) m R (Q:=c) (s:=0) (acc:=[]) (ln:=ln) (ob:=true) (ws:=ws) (log:=[]) (K:=K) (o9:=none) (o10:=none) (o11:=none) (o12:=none) (o13:=none) (o14:=none) (o15:=none) (λp O=>⟨M7.mpr ⟨p,O,rfl⟩,h.ok p O⟩) st.b (by lia) l2 rfl st.l st.w (by simp) T (by lia);rw[E3,E3,List.map_nil,List.map_nil] at e;refine⟨bs',ln',ob,ws',log,?_,⟨F,G,⟨g.len,λv P=>⟨(g.ok v P).1,Int.le_trans (g.ok v P).2 r⟩⟩⟩,W,by lia,H,I⟩;have X:jd (qM bs ln ws) (.int 1)=‹ln.map eR›:=rfl;have Y:jd (qM bs ln ws) (.int 2)=‹ws.map D.int›:=rfl;have xn:J9 [.lst false<|ln.map eR]=↑(ln.map eR):=by
  show(bif frzs (ln.map eR) then _ else _)=_;rw[vt];rfl
 have jaw:J9 [.lst false<|ws.map D.int]=↑(ws.map D.int):=by
  show(bif frzs (ws.map D.int) then _ else _)=_;rw[vi];rfl
 have Z:=ul c 0 none none;have hd:yW [.lst true<|(anm 0 c).map e2]=some (dct true (jdp c)<|fnOf<|anm 0 c):=by
  have:=yG (o:=true) (S:=anm 0 c) (by rw[d];exact h.nmn) (by rw[jcB];lia);rw[d] at this;exact this
 have J:=yJ h;have L:=vp h false;have M:lim (jJ 0<|c.map<|jt false).length=true:=jb (by rw[yC,L3];lia);generalize qM bs ln ws=ST,dct true (jdp c) (fnOf<|anm 0 c)=DD,c.map (jt false)=PP,bs'.map (yh false)=BS,inc.map D.int=II,los.map D.int=LL at *;simp[qu,jH,VF,X,Y,xn,jaw,Z,hd,J,L,M,jv,e,jb,-yg]
def ja9{ns:List Int}{k:Int}(i:0<=k)(h1:k<=100000)(o:ns.length<=63):∃ v:Int,yj [.lst false<|ns.map D.int,.int k]=some (.int v)/\0<=v/\v<=10 ^ 31:=by
 have a:=ju (ns:=ns) (k:=k) (many:=6) i (by lia) (by decide);have j:=jY ns k (many:=6) (by decide);have l:=ya ns k (many:=6) (by decide);generalize drw ns k 6=w at a j l;by_cases b:w=0
 ·exact⟨0,by simp[yj,jH,v7,a,b],by decide,by decide⟩
 by_cases d:w < 4
 ·have e:=ju (ns:=ns) (k:=k+1) (many:=45) (by lia) (by lia) (by decide);exact⟨drw ns (k+1) 45,by simp[yj,jH,v7,a,b,d,e],jY ns (k+1)<|by decide,by have:=ya ns (k+1) (many:=45) (by decide);lia⟩
 by_cases g:w=4
 ·have e:=ju (ns:=ns) (k:=k+1) (many:=30) (by lia) (by lia) (by decide);have m:=Jy (ns:=ns) (k:=k+2) (by lia) (by lia);have h:=KK ns<|k+2;have g2:=wk ns<|k+2;have g3:=jY ns (k+1) (many:=30) (by decide);have g4:=ya ns (k+1) (many:=30) (by decide);refine⟨coi ns (k+2)*drw ns (k+1) 30,?_,Int.mul_nonneg (by lia) g3,Int.le_trans (Int.mul_le_mul g2 (Int.le_of_lt g4) g3<|by decide)<|by decide⟩;simp(disch:=lia) [yj,jH,v7,a,b,d,g,e,m,vg]
 have n:jf (.lst false<|ns.map D.int) (.lst true [.int 0])=↑((ns++[0]).map D.int):=by
  show(bif lim ((ns.map D.int).length+1)&&(frzs (ns.map D.int)&&frzs [.int 0]) then some (D.lst true<|ns.map D.int++[.int 0]) else none)=_;rw[jb<|by rw[L3];lia,K9,N6];rfl
 have h:=U1 k (show((ns.length:Int)+1)≠0 by lia);have g2:=U0 k (show 0 < ((ns.length:Int)+1) by lia);have ix:jd (.lst true<|(ns++[0]).map D.int) (.int<|k % ((ns.length:Int)+1))=some (.int<|(ns++[0]).getD (k % ((ns.length:Int)+1)).toNat 0):=by
  have f:(k % ((ns.length:Int)+1)).toNat < (ns++[0]).length:=by rw[N5];simp only[M4,List.length_nil];lia
  rw[jde h<|by rw[L3,N5];simp only[M4,List.length_nil];lia,List.getElem?_map,List.getD_eq_getElem?_getD,E4 f];rfl
 have p3:Vr (.int 10) (.int 30)=some (.int<|10 ^ 30):=rfl;generalize(ns++[0]).getD (k % ((ns.length:Int)+1)).toNat 0=c at ix;refine⟨c % 10 ^ 30,?_,U1 _<|by decide,by have:=U0 c (show(0:Int) < 10 ^ 30 by decide);lia⟩;simp(disch:=lia) [yj,jH,v7,a,b,d,g,n,ix,p3,Ve,jb,-List.map_append]
noncomputable abbrev DY:=List Int×List Int
noncomputable def yx(d:DY):D:=.tup [.lst false<|d.1.map D.int,.lst false<|d.2.map D.int]
def jbp(l:List DY):frzs (l.map yx)=true:=jK λd hd=>by obtain⟨p,_,rfl⟩:=M7.mp hd;simp[yx,vi]
def jfa(l:List DY):fzs (l.map yx)=l.map yx:=yw λd hd=>by obtain⟨p,_,rfl⟩:=M7.mp hd;simp[yx,yZ]
section
variable {ns:List Int}{n:Nat}
def jcM(d:ns.length<=63)(g:n<=3){t:Nat}(h:t<=20){i:Nat}(hi:i < n){los:List Int}(e:los.length<=10){a1 a2 a4 o7:Option D}:∃ v o7',yX [‹ns.map D.int›,a1,a2,some<|.int<|0+(t:Int),a4,↑(los.map D.int),some<|.int<|0+(i:Int),o7]=some (.nx [‹ns.map D.int›,a1,a2,some<|.int<|0+(t:Int),a4,↑((los++[v]).map D.int),some<|.int<|0+(i:Int),o7'])/\0<=v:=by
 obtain⟨v,b,f,j⟩:=ja9 (ns:=ns) (k:=2000+37*(0+(t:Int))+7*(0+(i:Int))) (by lia) (by lia) d;have c:=ju (ns:=ns) (k:=3000+5*(0+(t:Int))+(0+(i:Int))) (many:=4) (by lia) (by lia) (by decide);by_cases q:drw ns (3000+5*(0+(t:Int))+(0+(i:Int))) 4=0
 ·have a:zW [.bl<|drw ns (3000+5*(0+(t:Int))+(0+(i:Int))) 4==0]=some (.int 1):=by rw[q];rfl
  refine⟨v,some<|.int v,?_,f⟩;simp(disch:=first | lia | (simp;done) | (simp;lia)) [yX,b,c,a,vg,jb,-Int.zero_add]
 ·have a:zW [.bl<|drw ns (3000+5*(0+(t:Int))+(0+(i:Int))) 4==0]=some (.int 0):=by rw[U3.mpr q];rfl
  refine⟨0,some<|.int v,?_,by decide⟩;simp(disch:=first | lia | (simp;done) | (simp;lia)) [yX,b,c,a,vg,jb,-Int.zero_add]
def jbK(z:ns.length<=63)(B:n<=3){t:Nat}(Q:t < 20){acc:List DY}(A:acc.length<=100){o4 o5 o6 o7:Option D}:∃(d:DY) (o4' o5' o6' o7':Option D),vE [‹ns.map D.int›,some<|.int (n:Int),↑(acc.map yx),some<|.int<|0+(t:Int),o4,o5,o6,o7]=some (.nx [‹ns.map D.int›,some<|.int (n:Int),↑((acc++[d]).map yx),some<|.int<|0+(t:Int),o4',o5',o6',o7'])/\FlowOk n d.1 d.2:=by
 obtain⟨R,C,h,E⟩:=wx (G:=jc [] 0) (p:=jn yj<|ja (pV 1)<|ja (p2 jf (p2 jf (pC<|.int 1000)<|p2 yb (pC<|.int 37)<|pV 2)<|p2 yb (pC<|.int 7)<|pV 0) pN)
  (Good:=λy=>∃ v:Int,y=.int v/\(0<=v/\v<=10 ^ 31)) (P:=λρ=>∃ o,ρ=[o,‹ns.map D.int›,some<|.int<|0+(t:Int)]) (xs:=Vp 0 n) (by
   rintro x s ρ ⟨o,rfl⟩;obtain⟨i,hi,rfl⟩:=M7.mp s;have hi:=List.mem_range.mp hi;obtain⟨v,F,H,I⟩:=ja9 (ns:=ns) (k:=1000+37*(0+(t:Int))+7*(0+(i:Int))) (by lia) (by lia) z;refine⟨_,.int v,rfl,?_,⟨v,rfl,H,I⟩,some<|.int<|0+(i:Int),rfl⟩;simp(disch:=first | lia | (simp;done) | (simp;lia)) [F,vg,-Int.zero_add]) (ρ:=[none,‹ns.map D.int›,some<|.int<|0+(t:Int)]) ⟨none,rfl⟩
 obtain⟨b,rfl,l⟩:=KM E;rw[L3,yQ] at h;obtain⟨S,e,a,o6',o7',rfl,g,c⟩:=YR (G:=jc [] 6) (f:=yX) (xs:=Vp 0 n) (λi ρ=>∃(a:List Int) (o6 o7:Option D),ρ=[‹ns.map D.int›,some<|.int (n:Int),↑(acc.map yx),some<|.int<|0+(t:Int),↑(b.map D.int),↑(a.map D.int),o6,o7]/\a.length=i/\∀ v∈a,0<=v) (by
  rintro i x ρ s ⟨a,o6,o7,rfl,g,c⟩;obtain⟨rfl,hi⟩:=Kc s;obtain⟨v,o7',J,K⟩:=jcM (ns:=ns) (n:=n) z B (t:=t) (by lia) (i:=i) hi (los:=a) (by lia) (a1:=some<|.int (n:Int)) (a2:=↑(acc.map yx)) (a4:=↑(b.map D.int)) (o7:=o7);refine⟨_,_,rfl,.inl J,a++[v],_,_,rfl,by simp[g],λu m=>?_⟩;rcases N3.mp m with m | m
  ·exact c u m
  ·rw[M9.mp m];exact K) (ρ:=[‹ns.map D.int›,some<|.int (n:Int),↑(acc.map yx),some<|.int<|0+(t:Int),↑(b.map D.int),some<|.lst true [],o6,o7]) ⟨[],o6,o7,rfl,rfl,by simp⟩
 rw[yQ] at g;have q:=qp (j:=(n:Int)) (by lia) (by lia);rw[N9] at q;refine⟨(b,a),‹b.map D.int›,‹a.map D.int›,o6',o7',?_,⟨h,g,l,c⟩⟩;have L:(acc++[(b,a)]).map yx=acc.map yx++[.tup [.lst false<|b.map D.int,.lst false<|a.map D.int]]:=by rw[N6];rfl
 rw[L];have w:lim (Vp 0 n).length=true:=jb (by rw[yQ];lia);have r:lim (acc.map yx).length=true:=jb (by rw[L3];lia);have fi:=vi b;have M:=vi a;have N:=yZ b;have O:=yZ a;generalize acc.map yx=AC,b.map D.int=II,a.map D.int=LL at *;simp(disch:=first | lia | (simp;done) | (simp;lia)) [vE,q,w,jv,C,e,fi,M,N,O,r,jb,-Int.zero_add,-jn]
def jg5(ns:List Int)(r:ns.length<=63){n:Nat}(s:n<=3):∃ ds:List DY,qd [.lst false<|ns.map D.int,.int (n:Int)]=↑(ds.map yx)/\ds.length<=20/\∀ d∈ds,FlowOk n d.1 d.2:=by
 obtain⟨m,v,w⟩:∃ m:Nat,uR [.int (ns.length:Int),.int 20]=some (.int (m:Int))/\m<=20:=by
  by_cases q:(20:Int) < ns.length
  ·refine⟨20,?_,by lia⟩;show some (D.int<|if(20:Int) < ns.length then 20 else ns.length)=_;rw[if_pos q];rfl
  ·refine⟨ns.length,?_,by lia⟩;show some (D.int<|if(20:Int) < ns.length then 20 else ns.length)=_;rw[if_neg q]
 obtain⟨F,e,ds,o,b,c,g,h,rfl,a,p⟩:=YR (G:=jc [] 3) (f:=vE) (xs:=Vp 0 m) (λi ρ=>∃(ds:List DY) (o b c g h:Option D),ρ=[‹ns.map D.int›,some<|.int (n:Int),↑(ds.map yx),o,b,c,g,h]/\ds.length=i/\∀ d∈ds,FlowOk n d.1 d.2) (by
  rintro i x ρ y ⟨ds,o,b,c,g,h,rfl,a,p⟩;obtain⟨rfl,hi⟩:=Kc y;obtain⟨d,z,A,B,C,E,hd⟩:=jbK (ns:=ns) (n:=n) r s (t:=i) (by lia) (acc:=ds) (by lia) (o4:=b) (o5:=c) (o6:=g) (o7:=h);refine⟨_,_,rfl,.inl E,ds++[d],_,_,_,_,_,rfl,by simp[a],λu k=>?_⟩;rcases N3.mp k with k | k
  ·exact p u k
  ·rw[M9.mp k];exact hd) (ρ:=[‹ns.map D.int›,some<|.int (n:Int),some<|.lst true [],none,none,none,none,none]) ⟨[],none,none,none,none,none,rfl,rfl,by simp⟩
 rw[yQ] at a;have l:=qp (j:=(m:Int)) (by lia) (by lia);rw[N9] at l;refine⟨ds,?_,by lia,p⟩;simp[qd,jH,VI,v,l,e,jb,-qc]
end
def pdk(kw:List Nat)(g:Int):Int:=if kw∈[YX,jaB,j8,yA,kr,yk] then g else 0
def lvk(kw:List Nat)(g:Int):Int:=if kw=kJ then g else if kw=yk then -g else 0
def pds(es:List En):Int:=(es.map λe=>pdk e.kd e.gt).sum
def lvs(es:List En):Int:=(es.map λe=>lvk e.kd e.gt).sum
def jdv(kw:List Nat)(g:Int):wtk kw g=pdk kw g+lvk kw g+lbk kw g:=by
 by_cases h:kw∈[YX,jaB,j8,yA,kr,kJ,vR,qF,yk]
 ·simp only[M6,List.not_mem_nil,or_false] at h;rcases h with rfl | rfl | rfl | rfl | rfl | rfl | rfl | rfl | rfl<;>simp[wtk,pdk,lvk,lbk]<;>lia
 ·simp only[M6,List.not_mem_nil,or_false,not_or] at h;simp[wtk,pdk,lvk,lbk,h]
theorem QN:∀ es:List En,tot es=pds es+lvs es+lbs es
 | []=>rfl
 | e::es=>by
  have:=QN es;have:=jdv e.kd e.gt;show wtk e.kd e.gt+tot es=pdk e.kd e.gt+pds es+(lvk e.kd e.gt+lvs es)+(lbk e.kd e.gt+lbs es)
  lia
def g0:jd (e7 q) (.int 0)=some (.str q.1):=rfl
def g2':jd (e7 q) (.int 2)=some (.int q.2.2.pl):=rfl
def g3':jd (e7 q) (.int 3)=some (.str q.2.2.kd):=rfl
def g4':jd (e7 q) (.int 4)=some (.str q.2.2.nm):=rfl
def g6:jd (e7 q) (.int 6)=some (.int q.2.2.gt):=rfl
theorem zE:∀{log:List LG}{v:Int}{o2:Option D},∃ o2',jL (jc [] 2) vM (log.map e7) [a0,some<|.int v,o2]=some (.nx [a0,some (.int (v+pds (log.map (·.2.2)))),o2'])
 | [],v,o2=>⟨o2,by simp[pds]⟩
 | q::log,v,o2=>by
  obtain⟨o2',e⟩:=zE (a0:=a0) (log:=log) (v:=v+pdk q.2.2.kd q.2.2.gt) (o2:=some<|e7 q);refine⟨o2',?_⟩;have a:zI false (.str q.2.2.kd) (.lst true [.str YX,.str jaB,.str j8,.str yA,.str kr,.str yk])=some (.bl<|false != decide (q.2.2.kd∈[YX,jaB,j8,yA,kr,yk])):=jcv false true q.2.2.kd [YX,jaB,j8,yA,kr,yk];have c:=g3' (q:=q);have d:=g6 (q:=q);have f:v+pds ((q::log).map (·.2.2))=v+pdk q.2.2.kd q.2.2.gt+pds (log.map (·.2.2)):=(Int.add_assoc ..).symm;rw[f,L6,lpF ?_,e];show(some _).bind _=_;unfold pdk;generalize e7 q=E at *;by_cases b:q.2.2.kd∈[YX,jaB,j8,yA,kr,yk]
  ·rw[X8 b] at a;rw[if_pos b];simp[vM,c,d,a,jb]
  ·rw[X9 b] at a;rw[if_neg b];simp[vM,c,a,jb]
def jgV(log:List LG):qg [.lst false<|log.map e7]=some (.int (pds (log.map (·.2.2)))):=by
 obtain⟨o,e⟩:=zE (a0:=‹log.map e7›) (log:=log) (v:=0) (o2:=none);rw[Int.zero_add] at e;have a:=vb log;have b:=Jv log;generalize log.map e7=LL at *;simp[qg,jH,VE,a,b,e]
structure LvOk(A N:W1)(f:List Nat->Int):Prop where
 nd:N.Nodup
 z:∀ n,n∉N->f n=0
 a:∀ n∈N,n∈A
noncomputable def Vt(N:W1)(f:List Nat->Int):Int:=(N.map f).sum
theorem jaG{c:List Nat}{f:List Nat->Int}:∀{N:W1},c∉N->JZ (N.map KA.str) (N.map λn=>D.int<|f n) (.str c)=none
 | [],_=>rfl
 | n::N,h=>by
  rw[M6,not_or] at h;rw[L6,L6,JZ,if_neg λz=>h.1<|by cases z;rfl];exact jaG h.2
theorem KB:∀{N:W1},N.Nodup->Vt N (put f k v)=Vt N f+if k∈N then v - f k else 0
 | [],_=>by simp[Vt]
 | n::N,h=>by
  rw[List.nodup_cons] at h;have:=KB (k:=k) (v:=v) (f:=f) h.2;show put f k v n+Vt N (put f k v)=f n+Vt N f+_;rw[this];by_cases e:n=k
  ·subst e;rw[jcX,if_neg h.1,if_pos<|by simp];lia
  ·rw[VP e];by_cases a:k∈N
   ·rw[if_pos a,if_pos<|by simp[a]];lia
   ·rw[if_neg a,if_neg<|by simp[a,Ne.symm e]];lia
def wc(h:LvOk A N f):kU (dct true N f) (.str k) (.int 0)=some (.int<|f k):=by
 show some ((JZ (N.map KA.str) (N.map λn=>D.int<|f n)<|.str k).getD (.int 0))=_;by_cases a:k∈N
 ·rw[Jp f a];rfl
 ·rw[jaG a,h.z k a];rfl
def jbk{A N:W1}{f:List Nat->Int}{k:List Nat}{v:Int}(h:LvOk A N f)(r:A.length<=100)(g:k∈A){ρ:Rh}{pk pv:PF}(m:pV 0 ρ=some (dct true N f))(o:pk ρ=some (.str k))(p:pv ρ=some (.int v)) :
  ∃ N',Ky 0 pk pv ρ=some (.nx<|ρ.set 0<|some<|dct true N'<|put f k v)/\LvOk A N' (put f k v)/\Vt N' (put f k v)=Vt N f+(v - f k):=by
 have s:=YG h.nd h.a;have i:lim (N.map KA.str).length=true:=jb (by rw[L3];lia);have l:Ky 0 pk pv ρ=some (.nx<|ρ.set 0<|some<|.dK true (v9 (N.map KA.str) (N.map λn=>D.int<|f n) (.str k)<|.int v).1 (v9 (N.map KA.str) (N.map λn=>D.int<|f n) (.str k)<|.int v).2):=by
  rw[Ky,p,L5,m,L5,show jea (dct true N f)=some (N.map KA.str,N.map λn=>D.int<|f n) from rfl,L5,o,L5];show(bif true&&lim (N.map KA.str).length then _ else none)=_;rw[i];rfl
 by_cases d:k∈N
 ·refine⟨N,?_,⟨h.nd,λn c=>?_,h.a⟩,by rw[KB h.nd,if_pos d]⟩
  ·rw[l,Kf d];rfl
  ·rw[VP<|show n≠k from λz=>c<|z▸d];exact h.z n c
 ·have j:KA.str k∉N.map KA.str:=λz=>by obtain⟨a,g,e⟩:=M7.mp z;cases e;exact d g
  refine⟨N++[k],?_,⟨X6.mpr ⟨h.nd,by simp,λa g b q=>by rw[M9.mp q];exact λz=>d<|z▸g⟩,λn c=>?_,λn c=>?_⟩,?_⟩
  ·rw[l,v9,if_neg j];have:(N++[k]).map (λn=>D.int<|put f k v n)=N.map (λn=>D.int<|f n)++[.int v]:=by
    rw[N6,List.map_singleton,jcX];congr 1;exact List.map_congr_left λn c=>by rw[VP<|show n≠k from λz=>d<|z▸c]
   rw[dct,this,N6];rfl
  ·simp only[N3,M9,not_or] at c;rw[VP c.2];exact h.z n c.1
  ·rcases N3.mp c with c | c
   ·exact h.a n c
   ·rw[M9.mp c];exact g
  ·have:=KB (k:=k) (v:=v) (f:=f) h.nd;rw[if_neg d] at this;have e:Vt (N++[k]) (put f k v)=Vt N (put f k v)+v:=by unfold Vt;rw[N6,List.sum_append,List.map_singleton,jcX];simp
   rw[e,this,h.z k d];lia
def jgm(p:PoolS)(f:List Nat->Int)(q:LG):List Nat->Int:=if q.1=p.nm then Vq p f q.2.2 else f
def zL{A N:W1}{f:List Nat->Int}{p:PoolS}{q:LG}(h:LvOk A N f)(y:A.length<=100)(z:∀ w∈p.P,w∈A)(G:q.1=p.nm->PtOk3 p q.2.2){a2 o4:Option D} :
  ∃ N' o4',jP [some<|dct true N f,some<|jt false p,a2,some<|e7 q,o4]=some (.nx [some<|dct true N'<|jgm p f q,some<|jt false p,a2,some<|e7 q,o4'])/\LvOk A N' (jgm p f q)/\Vt N' (jgm p f q)=Vt N f+if q.1=p.nm then lvk q.2.2.kd q.2.2.gt else 0:=by
 have b:=g0 (q:=q);have H:=g2' (q:=q);have j:=g3' (q:=q);have B:=g4' (q:=q);have C:=g6 (q:=q);have c:jd (jt false p) (.int 0)=some (.str p.nm):=rfl;have I:jd (jt false p) (.int 6)=‹p.guards.map eG›:=rfl;unfold jgm lvk Vq;by_cases k:q.1=p.nm
 ·have pt:=G k;have a:(q.1==p.nm)=true:=by rw[k];simp
  simp only[if_pos k];by_cases d:q.2.2.kd=kJ
  ·simp only[if_pos d];obtain⟨N',e,o,r⟩:=jbk h y (z _<|pt.fi d) (v:=f q.2.2.nm+q.2.2.gt) (ρ:=[some<|dct true N f,some<|jt false p,a2,some<|e7 q,o4]) (pk:=p2 jd (pV 3)<|pC<|.int 4) (pv:=p2 jf (p3 kU (pV 0) (p2 jd (pV 3)<|pC<|.int 4)<|pC<|.int 0)<|p2 jd (pV 3)<|pC<|.int 6) rfl (by simp[B]) (by simp[B,C,wc h]);refine⟨N',o4,?_,o,by rw[r];lia⟩;have n:(q.2.2.kd==[102,105,108,108])=true:=by rw[d];rfl
   have l:(q.2.2.kd==[103,117,97,114,100])=false:=by rw[d];rfl
   generalize dct true N' (put f q.2.2.nm<|f q.2.2.nm+q.2.2.gt)=D1,dct true N f=D0,jt false p=PP,e7 q=E at *;unfold jP;apply sq (by simp[b,j,c,a,n,-Ky];exact e);simp[b,j,c,a,l]
  ·have n:(q.2.2.kd==[102,105,108,108])=false:=U3.mpr d;simp only[if_neg d];by_cases m:q.2.2.kd=yk
   ·simp only[if_pos m];obtain⟨i,g,F,s,t⟩:=pt.gu m;have u:jfx p q.2.2.pl=g.1:=by unfold jfx;rw[F,N9,List.getD_eq_getElem?_getD,s];rfl
    rw[u];have l:(q.2.2.kd==[103,117,97,114,100])=true:=by rw[m];rfl
    have J:jd (.lst false<|p.guards.map eG) (.int q.2.2.pl)=some (eG g):=by
     have K:=(M0.mp s).1;rw[F,jde (by lia)<|by rw[L3];lia,N9,List.getElem?_map,s];rfl
    have x:jd (eG g) (.int 0)=some (.str g.1):=rfl;obtain⟨N',e,o,r⟩:=jbk h y (z _ t) (v:=f g.1 - q.2.2.gt) (ρ:=[some<|dct true N f,some<|jt false p,a2,some<|e7 q,some<|.str g.1]) (pk:=pV 4) (pv:=p2 JO (p3 kU (pV 0) (pV 4)<|pC<|.int 0)<|p2 jd (pV 3)<|pC<|.int 6) rfl rfl (by simp[C,wc h]);refine⟨N',some<|.str g.1,?_,o,by rw[r];lia⟩;generalize dct true N' (put f g.1<|f g.1 - q.2.2.gt)=D1,dct true N f=D0,jt false p=PP,e7 q=E,eG g=GG at *;unfold jP;apply sq (by simp[b,j,c,a,n];rfl);simp[b,H,j,c,I,J,x,a,l,-Ky];exact e
   ·simp only[if_neg m];have l:(q.2.2.kd==[103,117,97,114,100])=false:=U3.mpr m;refine⟨N,o4,?_,h,by lia⟩;generalize dct true N f=D0,jt false p=PP,e7 q=E at *;simp[jP,b,j,c,a,n,l]
 ·have a:(q.1==p.nm)=false:=U3.mpr k;simp only[if_neg k];refine⟨N,o4,?_,h,by lia⟩;generalize dct true N f=D0,jt false p=PP,e7 q=E at *;simp[jP,b,c,a]
noncomputable def zJ(p:PoolS)(log:List LG):List En:=(log.filter λq=>q.1==p.nm).map (·.2.2)
theorem Yq(b:A.length<=100)(c:∀ w∈p.P,w∈A)  : ∀{log:List LG}{N:W1}{f:List Nat->Int}{o3 o4:Option D},LvOk A N f->(∀ q∈log,q.1=p.nm->PtOk3 p q.2.2) ->
  ∃ N' o3' o4',jL (jc [0] 3) jP (log.map e7) [some<|dct true N f,some<|jt false p,a2,o3,o4]=some (.nx [some<|dct true N'<|yR p f<|zJ p log,some<|jt false p,a2,o3',o4'])/\LvOk A N' (yR p f<|zJ p log)/\Vt N' (yR p f<|zJ p log)=Vt N f+lvs (zJ p log)
 | [],N,f,o3,o4,h,_=>⟨N,o3,o4,rfl,h,(Int.add_zero _).symm⟩
 | q::log,N,f,o3,o4,h,d=>by
  obtain⟨i,j,k,l,s1⟩:=zL h b c (d q<|by simp) (a2:=a2) (o4:=o4);obtain⟨N',o3',o4',e,m,n⟩:=Yq b c (a2:=a2) (log:=log) (N:=i) (f:=jgm p f q) (o3:=some<|e7 q) (o4:=j) l λr o=>d r (by simp[o]);have g:yR p f (zJ p<|q::log)=yR p (jgm p f q) (zJ p log)/\lvs (zJ p<|q::log)=(if q.1=p.nm then lvk q.2.2.kd q.2.2.gt else 0)+lvs (zJ p log):=by
   unfold zJ jgm;rw[List.filter_cons];by_cases a:q.1=p.nm
   ·rw[if_pos<|by rw[a];simp,if_pos a,if_pos a];exact⟨rfl,rfl⟩
   ·rw[if_neg<|by simp[a],if_neg a,if_neg a];exact⟨rfl,(Int.zero_add _).symm⟩
  rw[g.1,g.2];refine⟨N',o3',o4',?_,m,by rw[n,s1];lia⟩;rw[L6,lpE ?_ k,e];rfl
def jcD(a:A.length<=100)(b:∀ w∈p.P,w∈A)  (h:LvOk A N f) (c:∀ q∈log,q.1=p.nm->PtOk3 p q.2.2) :
  ∃ N',vJ [dct true N f,jt false p,.lst false<|log.map e7]=some (.non,dct true N'<|yR p f<|zJ p log)/\LvOk A N' (yR p f<|zJ p log)/\Vt N' (yR p f<|zJ p log)=Vt N f+lvs (zJ p log):=by
 obtain⟨N',d,g,e,i,s⟩:=Yq a b (a2:=‹log.map e7›) (o3:=none) (o4:=none) h c;refine⟨N',?_,i,s⟩;have j:=vb log;have k:=Jv log;generalize log.map e7=LL,dct true N' (yR p f<|zJ p log)=D1,dct true N f=D0,jt false p=PP at *;simp[vJ,kh,J4,j,k,e,Vl]
theorem ja5:∀{es:List En}{f g:List Nat->Int},(∀ n∈p.P,f n=g n)->(∀ e∈es,PtOk3 p e)->(∀ n∈p.P,yR p f es n=yR p g es n)/\∀ n,n∉p.P->yR p f es n=f n
 | [],f,g,h,_=>⟨h,λ_ _=>rfl⟩
 | e::es,f,g,h,k=>by
  have j:=k e (by simp);have key:(∀ n∈p.P,Vq p f e n=Vq p g e n)/\∀ n,n∉p.P->Vq p f e n=f n:=by
   have pt:∀{w:List Nat}{v u:Int},w∈p.P->v=u->(∀ n∈p.P,put f w v n=put g w u n)/\∀ n,n∉p.P->put f w v n=f n:=λ{w v u} o q=>⟨λn b=>by unfold put;split;exact q;exact h n b,λn b=>VP λz=>b<|z▸o⟩;unfold Vq;by_cases d:e.kd=kJ
   ·simp only[if_pos d];exact pt (j.fi d) (by rw[h _<|j.fi d])
   ·simp only[if_neg d];by_cases l:e.kd=yk
    ·simp only[if_pos l];obtain⟨i,r,s,t,c⟩:=j.gu l;have m:jfx p e.pl=r.1:=by unfold jfx;rw[s,N9,List.getD_eq_getElem?_getD,t];rfl
     rw[m];exact pt c (by rw[h _ c])
    ·simp only[if_neg l];exact⟨h,λ_ _=>trivial⟩
  obtain⟨x,y⟩:=ja5 (es:=es) key.1 λa A=>k a (by simp[A]);exact⟨x,λn b=>(y n b).trans (key.2 n b)⟩
theorem je3:∀{L M:List W2}{o4 o5:Option D},(∀ t∈L.zip M,t.1.1=t.2.1/\0<=t.1.2/\t.1.2<=t.2.2)->∃ o4' o5',jL (gT 2<|gC (jc [] 4)<|gC (jc [] 5) gN) vn (Vo (L.map e2)<|M.map e2) [a0,a1,a2,a3,o4,o5]=some (.nx [a0,a1,a2,a3,o4',o5'])
 | [],_,o4,o5,_=>⟨o4,o5,rfl⟩
 | _::_,[],o4,o5,_=>⟨o4,o5,rfl⟩
 | q::L,m::M,o4,o5,h=>by
  obtain⟨o4',o5',e⟩:=je3 (a0:=a0) (a1:=a1) (a2:=a2) (a3:=a3) (L:=L) (M:=M) (o4:=some<|e2 q) (o5:=some<|e2 m) λt d=>h t (by rw[U8];exact L7 _ d);obtain⟨a,b,c⟩:=h (q,m) (by simp);dsimp only at a b c;refine⟨o4',o5',?_⟩;rw[L6,L6,Vo,lpF ?_,e];show(some _).bind _=_;have f:jd (e2 q) (.int 0)=some (.str q.1):=rfl;have g:jd (e2 q) (.int 1)=some (.int q.2):=rfl;have i:jd (e2 m) (.int 0)=some (.str m.1):=rfl;have j:jd (e2 m) (.int 1)=some (.int m.2):=rfl;generalize e2 q=Q,e2 m=M at *;simp[vn,f,g,i,j,a,b,c]
theorem jfs:∀{L:List W2}{o4:Option D},(∀ q∈L,0<=q.2)->∃ o4',jL (jc [] 4) vy (L.map e2) [a0,a1,a2,a3,o4,a5]=some (.nx [a0,a1,a2,a3,o4',a5])
 | [],o4,_=>⟨o4,rfl⟩
 | q::L,o4,h=>by
  obtain⟨o4',e⟩:=jfs (a0:=a0) (a1:=a1) (a2:=a2) (a3:=a3) (a5:=a5) (L:=L) (o4:=some<|e2 q) λt a=>h t (by simp[a]);refine⟨o4',?_⟩;have c:=h q (by simp);have b:jd (e2 q) (.int 1)=some (.int q.2):=rfl;rw[L6,lpF ?_,e];show(some _).bind _=_;generalize e2 q=Q at *;simp[vy,b,show ¬ q.2 < 0 by lia]
def jfH{a b:List W2}(h:a.length+b.length<=1000):jf (.lst o<|a.map e2) (.lst o'<|b.map e2)=↑((a++b).map e2):=by
 show(bif lim ((a.map e2).length+(b.map e2).length)&&(frzs (a.map e2)&&frzs (b.map e2)) then some (D.lst true<|a.map e2++b.map e2) else none)=_;rw[jb<|by rw[L3,L3];lia,jU,jU,N6];rfl
theorem Vz{a0 a1:Option D}{B:Int}:∀{Ps:List PoolS}{bs:List Bk}{o2 o3 o4 o5:Option D},Bks B Ps bs->(∀ p∈Ps,∃ X,PoolOk X p)->∃ o2' o3' o4' o5',jL (gT 2<|gC (jc [] 2)<|gC (jc [] 3) gN) vx (Vo (Ps.map<|jt false)<|bs.map<|yh false) [a0,a1,o2,o3,o4,o5]=some (.nx [a0,a1,o2',o3',o4',o5'])
 | _,_,o2,o3,o4,o5,.nil,_=>⟨o2,o3,o4,o5,rfl⟩
 | _,_,o2,o3,o4,o5,@Bks.cons _ p b C bs h t,j=>by
  obtain⟨X,k⟩:=j p (by simp);have E:=k.told2;have l1:b.S.length<=10:=by have:=congrArg List.length h.s1;rw[L3,L3] at this;lia
  have l2:b.W.length<=10:=by have:=congrArg List.length h.w1;rw[L3,L3] at this;lia
  have F:b.R.length<=10:=by have:=congrArg List.length h.r1;rw[L3,L3] at this;lia
  obtain⟨r,l,s⟩:=je3 (a0:=a0) (a1:=a1) (a2:=some<|jt false p) (a3:=some<|yh false b) (L:=b.L) (M:=p.marks) (o4:=o4) (o5:=o5) λt u=>by
   obtain⟨i,hi⟩:=List.mem_iff_getElem?.mp u;rw[List.getElem?_zip_eq_some] at hi;have m:t.1.1=t.2.1:=by
    have:=congrArg (·[i]?) h.l1;simp only[List.getElem?_map,hi.1,hi.2,Option.map_some] at this;exact E2 this
   have n:=h.l2 t.1<|List.mem_of_getElem? hi.1;rw[m,JG k.marksn<|List.mem_of_getElem? hi.2] at n;exact⟨m,n⟩
  obtain⟨v,d⟩:=jfs (a0:=a0) (a1:=a1) (a2:=some<|jt false p) (a3:=some<|yh false b) (a5:=l) (L:=b.S++b.W++b.R) (o4:=r) λq c=>by
   simp only[N3] at c;rcases c with(c | c) | c
   ·exact h.s2 q c
   ·exact(h.w2 q c).1
   ·exact h.r2 q c
  obtain⟨o2',o3',o4',o5',e⟩:=Vz (a0:=a0) (a1:=a1) (o2:=some<|jt false p) (o3:=some<|yh false b) (o4:=v) (o5:=l) t λq c=>j q (by simp[c]);refine⟨o2',o3',o4',o5',?_⟩;rw[L6,L6,Vo,lpF ?_,e];show(some _).bind _=_;have w:jd (jt false p) (.int 2)=‹p.marks.map e2›:=rfl;have x:jd (yh false b) (.int 0)=‹b.S.map e2›:=rfl;have y:jd (yh false b) (.int 1)=‹b.W.map e2›:=rfl;have z:jd (yh false b) (.int 2)=‹b.R.map e2›:=rfl;have A:jd (yh false b) (.int 3)=‹b.L.map e2›:=rfl;have f:=jfH (o:=false) (o':=false) (a:=b.S) (b:=b.W) (by lia);have g:=jfH (o:=true) (o':=false) (a:=b.S++b.W) (b:=b.R) (by rw[N5];lia);generalize jt false p=PP,yh false b=BB at *;unfold vx;apply sq (by simp[w,A,jU,kH];exact s);simp[x,y,z,f,g,jU,kH,-List.map_append,-List.append_assoc];exact d
def jab(h:Bks B Ps bs)(a:DealOk Ps):vk [.lst false<|Ps.map<|jt false,.lst false<|bs.map<|yh false]=some (.bl true):=by
 obtain⟨c,d,f,g,e⟩:=Vz (a0:=‹Ps.map (jt false)›) (a1:=‹bs.map (yh false)›) (o2:=none) (o3:=none) (o4:=none) (o5:=none) h λp b=>by obtain⟨X,i,_⟩:=a.ok p b;exact⟨X,i⟩
 have j:=yJ a;have k:=vp a false;have l:=YB bs;have m:=Yj bs;generalize Ps.map (jt false)=PP,bs.map (yh false)=BB at *;simp[vk,jH,Jo,j,k,l,m,e]
structure RD where
 bs:List Bk
 ln:LN
 ws:List Int
 log:List LG
def yF(r:RD):D:=.tup [qM r.bs r.ln r.ws,.lst false<|r.log.map e7]
def JP(bs:List Bk)(ln:LN)(ws:List Int):frz (qM bs ln ws)=true:=by simp[qM,YB,vt,vi]
def jby(bs:List Bk)(ln:LN)(ws:List Int):fz (qM bs ln ws)=qM bs ln ws:=by simp[qM,Yj,J2,yZ]
def jhd(l:List RD):frzs (l.map yF)=true:=jK λd hd=>by obtain⟨p,_,rfl⟩:=M7.mp hd;simp[yF,JP,vb]
def jjj(l:List RD):fzs (l.map yF)=l.map yF:=yw λd hd=>by obtain⟨p,_,rfl⟩:=M7.mp hd;simp[yF,jby,Jv]
inductive Run (Ps:List PoolS):List Bk->List Int->List DY->List RD->Prop where
 | nil {bs:List Bk}{ws:List Int}:Run Ps bs ws [] []
 | cons {bs:List Bk}{ws:List Int}{d:DY}{ds:List DY}{r:RD}{rs:List RD}{B:Int}(dr:DayR Ps bs r.bs r.log) (hb:Bks B Ps r.bs) (s1:r.ws.sum+tot (r.log.map (·.2.2))=ws.sum+d.1.sum+lbs (r.log.map (·.2.2))) (s2:(r.bs.map (·.x)).sum+eas (r.log.map (·.2.2))=(bs.map (·.x)).sum+d.2.sum) (hl:r.log.length<=1200) (t:Run Ps r.bs r.ws ds rs):Run Ps bs ws (d::ds) (r::rs)
theorem uy(h:DealOk Ps)  : ∀{ds:List DY}{bs:List Bk}{ln:LN}{ws:List Int}{B K:Int}{st:D}{acc:List RD}{o4 o5 o6:Option D},(∀ d∈ds,FlowOk Ps.length d.1 d.2)->StOk Ps B K bs ln ws->fz st=qM bs ln ws->0<=B->B+10 ^ 12*ds.length<=10 ^ 19->10 ^ 31<=K->K*(2 ^ 30) ^ ds.length<=2 ^ 890->acc.length+ds.length<=1000 ->
  ∃(rs:List RD) (st':D) (o4' o5' o6':Option D),jL (gT 2<|gC (jc [] 4)<|gC (jc [] 5) gN) zM (ds.map yx) [‹Ps.map (jt false)›,a1,some st,↑(acc.map yF),o4,o5,o6]=some (.nx [‹Ps.map (jt false)›,a1,some st',↑((acc++rs).map yF),o4',o5',o6'])/\Run Ps bs ws ds rs
 | [],bs,ln,ws,B,K,st,acc,o4,o5,o6,_,_,_,_,_,_,_,_=>⟨[],st,o4,o5,o6,by simp,.nil⟩
 | d::ds,bs,ln,ws,B,K,st,acc,o4,o5,o6,hd,v,k,l,w,y,m,z=>by
  rw[M4] at w m z;rw[Int.pow_succ] at m;have A:∀ n:Nat,(1:Int)<=(2 ^ 30) ^ n:=λn=>by
   induction n with
   | zero=>decide
   | succ n J=>rw[Int.pow_succ];lia
  have o:K*((2 ^ 30) ^ ds.length*2 ^ 30)=K*2 ^ 30*(2 ^ 30) ^ ds.length:=by rw[Int.mul_comm ((2 ^ 30) ^ ds.length)<|2 ^ 30,<- Int.mul_assoc]
  have C:K*2 ^ 30<=K*2 ^ 30*(2 ^ 30) ^ ds.length:=by
   have:=Int.mul_le_mul_of_nonneg_left (A ds.length) (show 0<=K*2 ^ 30 by lia)
   lia
  obtain⟨a,c,ob,f,log,e,g,E,p,q,r⟩:=jjl h v (hd d<|by simp) l (by lia) y (by lia);obtain⟨rs,st',o4',o5',o6',i,j⟩:=uy h (a1:=a1) (ds:=ds) (bs:=a) (ln:=c) (ws:=f) (B:=B+10 ^ 12) (K:=K*2 ^ 30) (st:=qM a c f) (acc:=acc++[⟨a,c,f,log⟩]) (o4:=‹d.1.map D.int›) (o5:=‹d.2.map D.int›) (o6:=some<|yF ⟨a,c,f,log⟩) (λx F=>hd x<|by simp[F]) g (jby _ _ _) (by lia) (by lia) (by lia) (by rw[<- o];exact m) (by simp;lia);refine⟨⟨a,c,f,log⟩::rs,st',o4',o5',o6',?_,.cons E g.b q r p j⟩;have G:(acc++[(⟨a,c,f,log⟩:RD)]).map yF=acc.map yF++[yF ⟨a,c,f,log⟩]:=by rw[N6];rfl
  rw[G] at i;rw[L6,lpF ?_,i];simp only[List.append_assoc,List.singleton_append];show(some _).bind _=_;have xn:=yJ h;have jaw:=vp h false;have jio:=JP bs ln ws;have s:=jby bs ln ws;have jiX:=vi d.1;have jis:=yZ d.1;have jln:=vi d.2;have jng:=yZ d.2;have H:fz (.tup [.tup [.lst true<|a.map<|yh false,.lst ob<|c.map eR,.lst true<|f.map D.int],.lst true<|log.map e7])=yF ⟨a,c,f,log⟩:=by simp[yF,qM,Yj,J2,yZ,Jv]
  have t:frz (yF ⟨a,c,f,log⟩)=true:=by simp[yF,JP,vb]
  have I:jd (yF ⟨a,c,f,log⟩) (.int 0)=some (qM a c f):=rfl;have jly:=JP a c f;have u:lim (acc.map yF).length=true:=jb (by rw[L3];lia);generalize D.tup [.tup [.lst true<|a.map<|yh false,.lst ob<|c.map eR,.lst true<|f.map D.int],.lst true<|log.map e7]=TT,yF ⟨a,c,f,log⟩=RR,qM a c f=S2,qM bs ln ws=S1,acc.map yF=AC,Ps.map (jt false)=PP,d.1.map D.int=I1,d.2.map D.int=I2 at *;simp[zM,k,xn,jaw,jio,s,jiX,jis,jln,jng,e,H,t,I,jly,u]
def bk0(p:PoolS):Bk:=⟨jae p,kZ p,kZ p,xJ p,0⟩
def jiW(h:PoolOk O p):BkOk p 0 (bk0 p).S (bk0 p).W (bk0 p).R (bk0 p).L:=by
 refine⟨?_,λq a=>?_,?_,λq a=>?_,?_,λq a=>?_,?_,λq a=>?_⟩
 ·show(jae p).map (·.1)=_;unfold jae;rw[U2];rfl
 ·obtain⟨c,b,rfl⟩:=M7.mp a;have:=h.told c b;show 0<=c.2.1
  lia
 ·show(kZ p).map (·.1)=_;unfold kZ;rw[U2];rfl
 ·obtain⟨c,b,rfl⟩:=M7.mp a;exact⟨Int.le_refl _,Int.le_refl _⟩
 ·show(kZ p).map (·.1)=_;unfold kZ;rw[U2];rfl
 ·obtain⟨c,b,rfl⟩:=M7.mp a;exact Int.le_refl _
 ·show(xJ p).map (·.1)=_;unfold xJ;rw[U2];rfl
 ·obtain⟨c,b,rfl⟩:=M7.mp a;exact⟨Int.le_refl _,Ja (λq a=>by have:=(h.marks q a).2;lia) _⟩
theorem jnm:∀{Q:List PoolS},(∀ p∈Q,∃ X,PoolOk X p)->Bks 0 Q (Q.map bk0)
 | [],_=>.nil
 | p::Q,h=>by
  obtain⟨X,a⟩:=h p (by simp);exact .cons (jiW a)<|jnm λq b=>h q (by simp[b])
noncomputable def zs(Ps:List PoolS):List Int:=Ps.map λ_=>0
def jff(Ps:List PoolS):D:=.tup [.lst true<|(Ps.map bk0).map (yh true),.lst true [],.lst true<|(zs Ps).map D.int]
def jhG(a:List PoolS):fz (jff a)=qM (a.map bk0) [] (zs a):=by
 have:fzs ((a.map bk0).map (yh true))=(a.map bk0).map (yh false):=by
  rw[vU,U2];exact List.map_congr_left λx _=>K1 _ _
 simp[jff,qM,this,yZ,-List.map_map]
def jaE(b:List PoolS):clean (jff b)=true:=by
 have a:ym ((b.map bk0).map (yh true))=true:=by
  rw[yM,List.all_map,List.all_eq_true];intro x _;exact K7 ..
 simp[jff,a,JT,-List.map_map]
def jdF(h:DealOk Ps):KJ [.lst false<|Ps.map<|jt false]=some (jff Ps):=by
 have l2:=h.len2;have l1:lim Ps.length=true:=jb (by lia);have c1:jW (jc [] 0) qT (jn yV<|ja (pV 0) pN) (Ps.map<|jt false) [none]=some ((Ps.map bk0).map (yh true)):=by
  rw[U2];refine jy (en:=jt false) rfl (λρ=>∃ o,ρ=[o]) ?_ ⟨none,rfl⟩;rintro p b ρ ⟨o,rfl⟩;obtain⟨X,a,_⟩:=h.ok p b;refine⟨[some<|jt false p],rfl,?_,_,rfl⟩;have e:=Ka a;have xn:=a.fz false;have jaw:=a.frz;show _=some (bkD true (jae p) (kZ p) (kZ p) (xJ p) 0);generalize jt false p=PP at *;simp[xn,jaw,e]
 have c:jW (jc [] 0) qT (pC<|.int 0) (Ps.map<|jt false) [none]=some ((zs Ps).map D.int):=by
  unfold zs;rw[U2];exact jy (en:=jt false) rfl (λρ=>∃ o,ρ=[o]) (by rintro x f ρ ⟨o,rfl⟩;exact⟨_,rfl,rfl,_,rfl⟩) ⟨none,rfl⟩
 have xn:=yJ h;have d:lim (Ps.map<|jt false).length=true:=by rw[L3];exact l1
 unfold jff;generalize(Ps.map bk0).map (yh true)=BB at *;generalize(zs Ps).map D.int=ZZ at *;generalize Ps.map (jt false)=PP at *;simp[KJ,jH,jcJ,xn,d,jv,c1,c,jb,-jn,-List.length_map]
def ja8{c:Int}(a:1<=c)(m n:Nat)(h:m<=n):c ^ m<=c ^ n:=by
 induction n with
 | zero =>
  have:m=0:=by lia
  subst this;exact Int.le_refl _
 | succ n b =>
  by_cases q:m=n+1
  ·subst q;exact Int.le_refl _
  ·have e:=b (by lia);have d:(0:Int)<=c ^ n:=Int.pow_nonneg (by lia);have f:=Int.mul_le_mul_of_nonneg_left a d;rw[Int.pow_succ]
   lia
def jjo:(10:Int) ^ 31*(2 ^ 30) ^ 20<=2 ^ 890:=by
 have a:(10:Int) ^ 31<=2 ^ 200:=by decide
 have b:((2:Int) ^ 30) ^ 20=2 ^ 600:=by rw[<- Int.pow_mul]
 have c:(2:Int) ^ 200*2 ^ 600=2 ^ 800:=(Int.pow_add 2 200 600).symm;rw[b];refine Int.le_trans (Int.mul_le_mul_of_nonneg_right a<|Int.pow_nonneg<|by decide) ?_;rw[c];exact ja8 (by decide) 800 890 (by decide)
def jiK{a:List PoolS}(h:DealOk a){ds:List DY}(hd:∀ d∈ds,FlowOk a.length d.1 d.2)(b:ds.length<=20):∃ rs:List RD,jdl [.lst false<|a.map<|jt false,.lst false<|ds.map yx]=↑(rs.map yF)/\Run a (a.map bk0) (zs a) ds rs:=by
 have c:StOk a 0 (10 ^ 31) (a.map bk0) [] (zs a):=⟨jnm λp f=>by obtain⟨X,g,_⟩:=h.ok p f;exact⟨X,g⟩,⟨by simp,by simp⟩,⟨by simp[zs],λv i=>by obtain⟨p,_,rfl⟩:=M7.mp i;exact⟨Int.le_refl _,by decide⟩⟩⟩;have j:(10:Int) ^ 31*(2 ^ 30) ^ ds.length<=2 ^ 890:=by
  have k:∀ m n:Nat,m<=n->((2:Int) ^ 30) ^ m<=(2 ^ 30) ^ n:=ja8 (by decide);have l:=Int.mul_le_mul_of_nonneg_left (k ds.length 20 b) (show(0:Int)<=10 ^ 31 by decide);exact Int.le_trans l jjo
 obtain⟨rs,o,q,r,s,e,t⟩:=uy h (a1:=‹ds.map yx›) (ds:=ds) (bs:=a.map bk0) (ln:=[]) (ws:=zs a) (B:=0) (K:=10 ^ 31) (st:=jff a) (acc:=[]) (o4:=none) (o5:=none) (o6:=none) hd c (jhG a) (by decide) (by lia) (by decide) j (by simp;lia);rw[E3,List.map_nil] at e;refine⟨rs,?_,t⟩;have u:=jdF h;have xn:=yJ h;have jaw:=vp h false;have jio:=jbp ds;have jiX:=jfa ds;have jis:=jaE a;generalize jff a=S0,a.map (jt false)=PP,ds.map yx=DD at *;simp[jdl,jH,ji4,xn,jaw,jio,jiX,jis,u,e,jb]
def DayR.nms(h:DayR Ps bs bs' lg):∀ q∈lg,q.1∈Ps.map (·.nm):=by
 induction h with
 | nil=>intro q a;cases a
 | cons h t b =>
  intro q a;rw[L6];rcases N3.mp a with a | a
  ·exact M6.mpr<|.inl<|h.nm q a
  ·exact L7 _<|b q a
def jbG{nm:List Nat}{l:List LG}(h:∀ q∈l,q.1≠nm):l.filter (λq=>q.1==nm)=[]:=List.filter_eq_nil_iff.mpr λq a=>by simp[h q a]
def jia{N:W1}{L:List W2}{f:List Nat->Int}(h:L.map (·.1)=N)(nd:N.Nodup)(k:∀ n∈N,f n=fnOf L n):L=N.map λn=>(n,f n):=by
 subst h;rw[U2];refine(List.map_id L).symm.trans (List.map_congr_left λq a=>?_);show q=(q.1,f q.1);rw[k _<|M7.mpr ⟨q,a,rfl⟩,JG nd a]
theorem zj{A:W1}(K:A.length<=100){log:List LG}{B:Int}{a0 a1 a2 a3 a4 a5 a7 a8 a9:Option D}:∀{Q:List PoolS}{bs bs':List Bk}{lg:List LG}{N:W1}{f:List Nat->Int}{o11 o12:Option D},DayR Q bs bs' lg->Bks B Q bs'->(Q.map (·.nm)).Nodup->(Q.Pairwise λp q=>∀ w∈p.marks.map (·.1),w∉q.marks.map (·.1))->(∀ p∈Q,∃ X,PoolOk X p/\∀ w∈p.P,w∈A) ->
  (∀ p∈Q,(log.filter λq=>q.1==p.nm)=lg.filter λq=>q.1==p.nm)->LvOk A N f->(∀ pb∈Q.zip bs,∀ n∈pb.1.P,f n=fnOf pb.2.L n) ->
  ∃ N' f' o11' o12',jL (gT 2<|gC (jc [] 11)<|gC (jc [] 12) gN) xR (Vo (Q.map<|jt false)<|bs'.map<|yh false) [a0,a1,a2,a3,a4,a5,some<|dct true N f,a7,a8,a9,‹log.map e7›,o11,o12]=some (.nx [a0,a1,a2,a3,a4,a5,some<|dct true N' f',a7,a8,a9,‹log.map e7›,o11',o12']) /\
   LvOk A N' f'/\Vt N' f'=Vt N f+lvs (lg.map (·.2.2))/\(∀ pb∈Q.zip bs',∀ n∈pb.1.P,f' n=fnOf pb.2.L n)/\∀ n,(∀ p∈Q,n∉p.P)->f' n=f n
 | _,_,_,_,N,f,o11,o12,.nil,_,_,_,_,_,h,_=>⟨N,f,o11,o12,rfl,h,(Int.add_zero _).symm,by simp,λ_ _=>rfl⟩
 | _,_,_,_,N,f,o11,o12,@DayR.cons p b b' ps bs bs' s lg pd t,.cons hbk tb,nd,pw,hp,hlog,h,hag=>by
  rw[L6,List.nodup_cons] at nd;rw[List.pairwise_cons] at pw;obtain⟨X,u,y⟩:=hp p (by simp);have v:(log.filter λq=>q.1==p.nm)=s:=by
   rw[hlog p<|by simp,List.filter_append,List.filter_eq_self.mpr<|λq c=>by simp[pd.nm q c],jbG (nm:=p.nm) λq c z=>nd.1<|z▸t.nms q c,N1]
  have C:zJ p log=s.map (·.2.2):=by unfold zJ;rw[v]
  obtain⟨l,M,E,s1⟩:=jcD K y h (log:=log) λq c d=>pd.pt q (by rw[<- v];exact List.mem_filter.mpr ⟨c,by simp[d]⟩);rw[C] at M E s1;have F:∀ e∈s.map (·.2.2),PtOk3 p e:=λe S=>by obtain⟨q,c,rfl⟩:=M7.mp S;exact pd.pt q c
  obtain⟨G,x⟩:=ja5 (p:=p) (f:=f) (g:=fnOf b.L) (λn d=>hag (p,b) (by simp) n d) F;have O:∀ n∈p.P,yR p f (s.map (·.2.2)) n=fnOf b'.L n:=λn d=>(G n d).trans (pd.lv n d).symm;generalize yR p f (s.map (·.2.2))=f1 at *;obtain⟨N',f',o11',o12',e,T,U,H,j⟩:=zj K (log:=log) (a0:=a0) (a1:=a1) (a2:=a2) (a3:=a3) (a4:=a4) (a5:=a5) (a7:=a7) (a8:=a8) (a9:=a9) (N:=l) (f:=f1) (o11:=some<|jt false p) (o12:=some<|yh false b') t tb nd.2 pw.2 (λq c=>hp q<|by simp[c]) (λq c=>by
   rw[hlog q<|by simp[c],List.filter_append,jbG (nm:=q.nm) λr V z=>nd.1<|by rw[<- pd.nm r V,z];exact M7.mpr ⟨q,c,rfl⟩,E3]) E (λpb i n d=>by
   rw[x n λz=>pw.1 pb.1 (List.of_mem_zip i).1 n z d];exact hag pb (by rw[U8];exact L7 _ i) n d)
  refine⟨N',f',o11',o12',?_,T,?_,λpb i n d=>?_,λn d=>?_⟩
  rotate_left
  ·rw[U,s1,N6];unfold lvs;rw[N6,List.sum_append];lia
  ·rw[U8] at i;rcases M6.mp i with rfl | i
   ·rw[j n λq c=>pw.1 q c n d];exact O n d
   ·exact H pb i n d
  ·rw[j n λq c=>d q<|by simp[c],x n<|d p<|by simp]
  rw[L6,L6,Vo,lpF ?_,e];show(some _).bind _=_;have eL:b'.L=p.marks.map λm=>(m.1,f1 m.1):=by
   have:=jia hbk.l1 u.marksn O;rw[U2] at this;exact this
  have W:jW (gT 2<|gC (jc [] 0)<|gC (jc [] 1) gN) qT (yg<|ja (pF<|pV 0)<|ja (pF<|p3 kU (pV 2) (pV 0)<|pC<|.int 0) pN) (p.marks.map e2) [none,none,some<|dct true l f1]=some (b'.L.map e2):=by
   rw[eL,U2];refine jy (en:=e2) rfl (λρ=>∃ o R,ρ=[o,R,some<|dct true l f1]) ?_ ⟨none,none,rfl⟩;rintro m hm ρ ⟨o,R,rfl⟩;refine⟨[some<|.str m.1,some<|.int m.2,some<|dct true l f1],rfl,?_,_,_,rfl⟩;have Y:=wc (k:=m.1) E;generalize dct true l f1=D1 at *;simp[Y,jb,e2]
  have I:xC (.lst false<|b'.L.map e2) (.lst true<|b'.L.map e2)=some (.bl false):=by
   have ok:JX 19 (b'.L.map e2)=true:=jgP (λq c=>by
    have:q.1∈p.P:=hbk.l1▸M7.mpr ⟨q,c,rfl⟩;obtain⟨a,Z,ea⟩:=M7.mp this;rw[<- ea];exact(u.marks a Z).1) 18
   exact jgk ok ok (by rw[fz,fz])
  have i2:jd (jt false p) (.int 2)=‹p.marks.map e2›:=rfl;have j3:jd (yh false b') (.int 3)=‹b'.L.map e2›:=rfl;have u1:=u.fz false;have u2:=u.frz;have u3:=Jv log;have u4:=vb log;have J:lim p.marks.length=true:=jb (by have:=u.marks2;lia);generalize dct true l f1=D1,dct true N f=D0,jt false p=PP,yh false b'=BB,log.map e7=LL,b'.L.map e2=L1 at *;unfold xR;apply sq (by simp[kC,vQ,M,u1,u2,u3,u4];rfl);simp[i2,j3,jU,J,jv,W,I]
theorem ue:∀ log:List LG,((log.filter λq=>q.2.2.kd==JC).map λq=>q.2.2.gt).sum=eas (log.map (·.2.2))
 | []=>rfl
 | q::log=>by
  have:=ue log;show _=eak q.2.2.kd q.2.2.gt+eas (log.map (·.2.2));rw[List.filter_cons,eak];by_cases h:q.2.2.kd=JC
  ·rw[if_pos<|by rw[h];rfl,if_pos h,L6,List.sum_cons,this]
  ·rw[if_neg<|by simp[h],if_neg h,this];lia
theorem wW(f:List Nat->Int):∀ N:List (List Nat),Jt (N.map λn=>D.int<|f n)=some (N.map f)
 | []=>rfl
 | n::N=>by show(Jt<|N.map λn=>D.int<|f n).bind _=_;rw[wW f N];rfl
def YE(o:Bool)(l:List Int):K2 [.lst o<|l.map D.int]=some (.int l.sum):=by simp
theorem jaQ:∀{Ps:List PoolS}{bs:List Bk},Bks B Ps bs->bs.length=Ps.length
 | _,_,.nil=>rfl
 | _,_,.cons _ t=>by rw[M4,M4,jaQ t]
theorem wo(h:DealOk Ps)  (v:A.length<=100) (g:∀ p∈Ps,∀ w∈p.P,w∈A)  : ∀{ds:List DY}{rs:List RD}{bs:List Bk}{ws:List Int}{cm pd lf:Int}{N:W1}{f:List Nat->Int}{o7 o8 o9 o10 o11 o12:Option D},Run Ps bs ws ds rs->LvOk A N f->(∀ pb∈Ps.zip bs,∀ n∈pb.1.P,f n=fnOf pb.2.L n)->cm=pd+Vt N f+ws.sum->lf=(bs.map (·.x)).sum ->
  ∃(cm' pd' lf':Int) (d':D) (o7' o8' o9' o10' o11' o12':Option D),jL (gT 2<|gC (jc [] 7)<|gC (jc [] 8) gN) KL (Vo (ds.map yx)<|rs.map yF) [a0,‹Ps.map (jt false)›,a2,some<|.int cm,some<|.int pd,some<|.int lf,some<|dct true N f,o7,o8,o9,o10,o11,o12]=some (.nx [a0,‹Ps.map (jt false)›,a2,some<|.int cm',some<|.int pd',some<|.int lf',some d',o7',o8',o9',o10',o11',o12'])
 | _,_,bs,ws,cm,pd,lf,N,f,o7,o8,o9,o10,o11,o12,.nil,_,_,_,_=>⟨cm,pd,lf,_,o7,o8,o9,o10,o11,o12,rfl⟩
 | _,_,bs,ws,cm,pd,lf,N,f,o7,o8,o9,o10,o11,o12,@Run.cons _ _ _ d ds r rs B dr hb s1 s2 hl t,hv,hag,hcm,hlf=>by
  obtain⟨c,i,l,m,y,s,I,u,_⟩:=zj v (log:=r.log) (a0:=a0) (a1:=‹Ps.map (jt false)›) (a2:=a2) (a3:=some<|.int<|cm+d.1.sum) (a4:=some (.int (pd+pds (r.log.map (·.2.2))))) (a5:=some (.int (lf+d.2.sum - eas (r.log.map (·.2.2))))) (a7:=some<|yx d) (a8:=some<|yF r) (a9:=some<|qM r.bs r.ln r.ws) (o11:=o11) (o12:=o12) dr hb h.nmn h.pd (λp z=>by obtain⟨X,J,_⟩:=h.ok p z;exact⟨X,J,g p z⟩) (λ_ _=>rfl) hv hag;have ts:=QN (r.log.map (·.2.2));have b:cm+d.1.sum=pd+pds (r.log.map (·.2.2))+Vt c i+r.ws.sum:=by lia
  have a:lf+d.2.sum - eas (r.log.map (·.2.2))=(r.bs.map (·.x)).sum:=by lia
  obtain⟨cm',pd',lf',d',o7',o8',o9',o10',o11',o12',e⟩:=wo h v g (a0:=a0) (a2:=a2) (o7:=some<|yx d) (o8:=some<|yF r) (o9:=some<|qM r.bs r.ln r.ws) (o10:=‹r.log.map e7›) (o11:=l) (o12:=m) t s u b a;refine⟨cm',pd',lf',d',o7',o8',o9',o10',o11',o12',?_⟩;rw[L6,L6,Vo,lpF ?_,e];show(some _).bind _=_;have bd:=jab hb h;have K:=jgV r.log;have j:=yJ h;have k:=vp h false;have C:=YB r.bs;have E:=Yj r.bs;have F:=vb r.log;have M:=Jv r.log;have f7:=JP r.bs r.ln r.ws;have O:frz (yF r)=true:=by simp[yF,JP,vb]
  have Q:jd (yx d) (.int 0)=‹d.1.map D.int›:=rfl;have R:jd (yx d) (.int 1)=‹d.2.map D.int›:=rfl;have G:jd (qM r.bs r.ln r.ws) (.int 0)=‹r.bs.map (yh false)›:=rfl;have S:jd (qM r.bs r.ln r.ws) (.int 2)=‹r.ws.map D.int›:=rfl;have T:=YE false d.1;have U:=YE false d.2;have V:=YE false r.ws;have c1:jW (jc [] 0) (jl<|p2 ki (p2 jd (pV 0)<|pC<|.int 3)<|pC<|.str [101,97,116]) (pF<|p2 jd (pV 0)<|pC<|.int 6) (r.log.map e7) [none]=some (((r.log.filter λq=>q.2.2.kd==JC).map λq=>q.2.2.gt).map D.int):=by
   rw[U2];refine JQ (λρ=>∃ o,ρ=[o]) ?_ ⟨none,rfl⟩;rintro q W ρ ⟨o,rfl⟩;exact⟨[some<|e7 q],rfl,rfl,rfl,_,rfl⟩
  have H:=YE true<|(r.log.filter λq=>q.2.2.kd==JC).map λq=>q.2.2.gt;rw[ue] at H;have Y:jW (jc [] 0) qT (pF<|p2 jd (pV 0)<|pC<|.int 4) (r.bs.map<|yh false) [none]=some ((r.bs.map (·.x)).map D.int):=by
   rw[U2];exact jy (en:=yh false) rfl (λρ=>∃ o,ρ=[o]) (by rintro q W ρ ⟨o,rfl⟩;exact⟨[some<|yh false q],rfl,rfl,_,rfl⟩) ⟨none,rfl⟩
  have Z:=YE true (r.bs.map (·.x));have l1:lim (r.log.map e7).length=true:=jb (by rw[L3];lia);have l2:lim (r.bs.map<|yh false).length=true:=jb (by have:=jaQ hb;rw[L3,this];have:=h.len2;lia);have dk:jaI (dct true c i)=some (c.map KA.str,c.map λn=>D.int<|i n):=rfl;have si:=wW i c;have gt:∀ ρ:Rh,gT 2 (gC (jc [] 9)<|gC (jc [] 10) gN) (yF r) ρ=gT 2 (gC (jc [] 9)<|gC (jc [] 10) gN) (.tup [qM r.bs r.ln r.ws,.lst false<|r.log.map e7]) ρ:=λ_=>rfl;generalize yF r=RR,qM r.bs r.ln r.ws=ST,yx d=DD,dct true c i=D1,dct true N f=D0,Ps.map (jt false)=PP,r.log.map e7=LL,r.bs.map (yh false)=BS,pds (r.log.map (·.2.2))=pd1,eas (r.log.map (·.2.2))=ea1 at *;generalize(r.bs.map (·.x)).map D.int=X1 at *;generalize((r.log.filter λq=>q.2.2.kd==JC).map λq=>q.2.2.gt).map D.int=X2 at *;generalize d.1.map D.int=X3,d.2.map D.int=X4,r.ws.map D.int=X5 at *;unfold KL;apply sq (by simp[O,gt];rfl);apply sq (by simp[Q,T,-Yc];rfl);apply sq (by simp[K,F,M];rfl);apply sq (by simp[R,U,F,l1,jv,c1,H,-Yc,-jl];rfl);apply sq (by simp[G,bd,j,k,C,E,l2,jv,Y,Z,a,-Yc];rfl);apply sq (by simp[G,j,k,C,E];rw[a] at y;exact y);unfold Vt at b;simp[S,dk,si,V,b,a,-Yc]
theorem V9:∀ Ps:List PoolS,(Ps.map λ_=>(0:Int)).sum=0
 | []=>rfl
 | _::Ps=>by rw[L6,List.sum_cons,V9 Ps];rfl
def jev(ns:List Int)(C:ns.length<=63)(hb:∀ x∈ns,Builtin.Int.intBits x<=2 ^ 20):jad [.lst false<|ns.map D.int]=some (.bl true):=by
 obtain⟨b,E,h⟩:=jhC ns (most:=3) (by decide) (by decide);obtain⟨e,m,o,hd⟩:=jg5 ns C (n:=b.length) h.len2;obtain⟨j,r,F⟩:=jiK h hd o;have G:((b.map λp=>p.P).flatten).length<=100:=by
  have:∀{Q:List PoolS},(∀ p∈Q,∃ X,PoolOk X p)->((Q.map λp=>p.P).flatten).length<=10*Q.length:=λ{Q}=>by
   induction Q with
   | nil=>intro _;simp
   | cons p Q g =>
    intro k;obtain⟨X,s⟩:=k p (by simp);have:=g λq l=>k q (by simp[l]);have:=s.marks2;rw[L6,List.flatten_cons,N5,L3,M4]
    lia
  have:=this λp t=>by obtain⟨X,s,_⟩:=h.ok p t;exact⟨X,s⟩
  have:=h.len2
  lia
 have H:∀ d∈b.zip (b.map bk0),∀ n∈d.1.P,(0:Int)=fnOf d.2.L n:=by
  intro d u n hn;have I:∀{Q:List PoolS},d∈Q.zip (Q.map bk0)->d.2=bk0 d.1:=λ{Q} l=>by
   rw[List.zip_map_right] at l;obtain⟨a,J,rfl⟩:=M7.mp l;have:∀{Q:List PoolS},a∈Q.zip Q->a.1=a.2:=λ{Q}=>by
    induction Q with
    | nil=>intro z;cases z
    | cons x Q g=>intro z;rw[U8] at z;rcases M6.mp z with rfl | z;rfl;exact g z
   show bk0 a.2=bk0 a.1;rw[this J]
  rw[I u];show 0=fnOf (xJ d.1) n;have:∀ M:List W2,fnOf (M.map λc=>(c.1,0)) n=0:=λM=>by
   unfold fnOf
   induction M with
   | nil=>rfl
   | cons c M g=>rw[L6,lkp];split;rfl;exact g
  exact(this d.1.marks).symm
 obtain⟨K,pd,O,d',R,S,T,v,y,A,U⟩:=wo h G (λp t w V=>List.mem_flatten.mpr ⟨_,M7.mpr ⟨p,t,rfl⟩,V⟩) (a0:=‹ns.map D.int›) (a2:=‹e.map yx›) (cm:=0) (pd:=0) (lf:=0) (N:=[]) (f:=λ_=>0) (o7:=none) (o8:=none) (o9:=none) (o10:=none) (o11:=none) (o12:=none) F ⟨by simp,λ_ _=>rfl,by simp⟩ H (by show(0:Int)=0+0+(b.map λ_=>(0:Int)).sum;rw[V9];rfl) (by rw[U2];exact(V9 b).symm);have W:=yJ h;have Y:=vp h true;have Z:=vp h false;have u4:=jbp e;have u5:=jfa e;have u6:=jhd j;have u7:=jjj j;have u8:=K9 ns;have i:JJ [.lst true<|b.map<|jt true]=some (.int (b.length:Int)):=by simp
 have B:jL (gT 2<|gC (jc [] 7)<|gC (jc [] 8) gN) KL (Vo (e.map yx)<|j.map yF) [‹ns.map D.int›,‹b.map (jt false)›,‹e.map yx›,some<|.int 0,some<|.int 0,some<|.int 0,some<|.dK true [] [],none,none,none,none,none,none]=_:=U;generalize b.map (jt true)=PT,b.map (jt false)=PP,e.map yx=DD,j.map yF=RR at *;simp[jad,jH,jjw,E,m,r,i,W,Y,Z,u4,u5,u6,u7,u8,B]
end K35
set_option maxHeartbeats 0
namespace K35
open PySem L2 QD
def all_mk{l:PySem.W.OpenLaw}{w:World}{K:W4}{mg:W6}{fa a:Addr}(hfa:mg "law" = some (.ref fa))(_:PySem.W.nsIn K mainGlobals "Fall" = some (some<|.ref a))(T:Txt l.prog w K mg λ_=>a):∃ fd:FuncData,(∀(s:Shared) (v:Value),BindsTo s fd ⟨[v],[]⟩ [("_law_script",v)])/\∀ base:Heap,K.In base->base.Ns mainGlobals mg->FnOk l.prog w K mg base CX0 8 fa fd ["_law_script"] (λvs H Q E=>∀ C:Addr,spP ⟨K,λ_=>C⟩ jad 1 vs H Q E):=by
 obtain⟨f',fd',F',G'⟩:=(jjr T).2.2.2.2.2.2.2.2.2.2.2.2.2.2.2.2.2.2.2.2.2.2.2.2.2.2.2.2.2.2.2.2.2.2.2.2.2.2.2;cases hfa.symm.trans F'.mgf;obtain⟨⟨oc,od,kV,doc,pm,an,cdv,ct,osl,rfl,_,_⟩,_⟩:=F'.fn;exact⟨_,λs v=>.of_eq rfl,λbase _ _=>(G' base).imp λvs H Q E h=>h a⟩
def walk{l:PySem.W.OpenLaw}{q:Program}{loose:List Str}{XP:(Str->Option Value)->Heap->Prop}{YP:World->Heap->Prop}{d:DefRec}{K:Params->PySem.W.Frag}(hn:l.most=some 63)(hdf:d.params.defaults=[])
  (hY:∀(w:World) (h:Heap),YP w h->(K w.params).In h)
  (F:∀(w:World) (mg:W6) (fa:Addr) (h:Heap),(K w.params).In h->h.Ns mainGlobals mg->mg d.name=some (.ref fa) ->
   ∃ fd:FuncData,(∀(s:Shared) (u:Value),BindsTo s fd ⟨[u],[]⟩ [("_law_script",u)])/\∀ base:Heap,(K w.params).In base->base.Ns mainGlobals mg->FnOk l.prog w (K w.params) mg base CX0 8 fa fd ["_law_script"] (λvs H Q E=>∀ C:Addr,spP ⟨K w.params,λ_=>C⟩ jad 1 vs H Q E)) :
  PySem.W.WalkO q loose XP YP l.row.toRowW d [] (λf vs=>PySem.call f vs) :=
 L2.walk_ofB (n:=63) (k:=8) (x:="_law_script") (CX:=λ_=>CX0) (sp:=λw=>(λvs H Q E=>∀ C:Addr,spP ⟨K w.params,λ_=>C⟩ jad 1 vs H Q E)) hn (by decide) hdf ⟨rfl,by decide,by decide⟩ hY F (λ_ H a ns hl hb _ hS=>λC=>jkm (jev ns hl hb) hS) λ_ _ _ _ _ z=>z
end K35
namespace PySem.W.Fast
def tw13737961355394389844:=0
def tw1220188712878304729:=0
def tw3212383027107734895:=0
def tw239055134986470545:=0
def tw3005319110599588911:=0
def tw12956976984608344968:=0
def tw5661401142802587160:=0
def tw11217272464785962562:=0
def tw7799340213265591160:=0
def tw13347594241386858965:=0
def tw3406505246702569877:=0
def tw9708747916338547828:=0
def tw4543080191302693304:=0
def tw14548645895518591689:=0
def tw14553422635743965943:=0
def tw2261248279594000136:=0
def tw2877882394205686819:=0
def tw10258731090849680823:=0
def tw17315141173499799264:=0
def tw10028168453366353677:=0
def tw13605349831237208433:=0
def tw13250640166277525660:=0
def tw12601003645894988908:=0
def tw10503785826243195426:=0
def tw4389493946417213654:=0
def tw15420189332682641307:=0
def tw7210345425767366505:=0
def tw5231494848317519369:=0
def tw15396220672113389586:=0
def tw9822179491150081548:=0
def tw1888089331790667479:=0
def tw10807644635218932427:=0
def tw15306983327256928390:=0
def tw4354577312772824777:=0
def tw3748281558901550154:=0
def tw3908772318793484740:=0
def tw1414686573227191552:=0
def tw15100429127673491953:=0
def tw2775164821876755722:=0
def tw11159566324170806683:=0
def tw8076448474066501563:=0
def tw445181465746500246:=0
def tw8932910557623042127:=0
def tw13047473305392336865:=0
def tw4878574208252164562:=0
def tw2105785270650700953:=0
def tw17471014181015708925:=0
def tw11546475324118257457:=0
def tw3041750627797331004:=0
def tw7082149572850052968:=0
def tw8586165546716624434:=0
def tw18100455266166457472:=0
def tw5271828562517276946:=0
def tw8889974608316108175:=0
def tw542391664523285949:=0
def tw5419595380593794830:=0
def tw15958113590224061462:=0
def tw325775232702490689:=0
def tw17437658751257085713:=0
def tw10901354448871160784:=0
def tw18440777820843375165:=0
def tw1197546930402944554:=0
def tw4062359241140716277:=0
def tw12448246871531469112:=0
def tw14305393521254510581:=0
def tw6372711200555566399:=0
def tw7145038753818752571:=0
def tw5273854526901387753:=0
def tw10736018367443807335:=0
def tw7074164139689838104:=0
def tw1738051732922686483:=0
def tw13730038070434613257:=0
def tw8056144362059977107:=0
def tw10771022226379259464:=0
def tw12554401851436747791:=0
def tw8694361137802557956:=0
def tw9664532876547559104:=0
def tw7882882040713399208:=0
def tw17390707911967976344:=0
def tw12623327174717256845:=0
def tw1980383819597645604:=0
def tw10131370210419899694:=0
def tw16485475390708086460:=0
def tw8228870313458036303:=0
def tw4117261863925135573:=0
def tw13843673174524566563:=0
def tw6466145601502198234:=0
def tw12036288880684295520:=0
def tw4159129857579230986:=0
def tw14368763652011565505:=0
def tw3154932022268384255:=0
def tw7442951291393790517:=0
def tw16461565330369546523:=0
def tw4899568985212974213:=0
def tw1387454504038413699:=0
def tw2539451111115207847:=0
def tw17746554336157969284:=0
def tw17721521830803628748:=0
def tw11734829240828782657:=0
end PySem.W.Fast
set_option maxHeartbeats 0
open PySem PySem.W PyProof.Rows
set_option maxRecDepth 100000 in
set_option maxHeartbeats 0 in
theorem PySem.Challenge.cw_tranchefall_k35_whole_coins_are_kept_holds : PySem.Challenge.rw_tranchefall_k35_whole_coins_are_kept.Holds := by
 w_on;o_law;k_head;(case hw=>w_witness2)
 k_fill
 refine K35.walk (l:=PySem.Challenge.rw_tranchefall_k35_whole_coins_are_kept) rfl rfl (λw h Y=>PySem.W.kIn_of Y) ?F
 case F =>
  intro w mg fa h KX G hmg;refine' K35.all_mk hmg ?c ?t
  (case c=>k_is)
  case t =>
   constructor
   all_goals first
    | ((first | refine⟨QD.fsc,QD.hasF KX G (by k_is) (by k_is) (by k_is) (by k_is) ?_⟩ | refine⟨QD.fsc,QD.hasM (by k_is) (by k_is) (by k_is) (by k_is) (by k_is) ?_⟩);first | exact λ_ _ _ _ _ _ us hl=>(match us,hl with | [_],_=>rfl) | exact λ_ _ _ _ _ _ us hl=>(match us,hl with | [_,_],_=>rfl) | exact λ_ _ _ _ _ _ us hl=>(match us,hl with | [_,_,_],_=>rfl) | exact λ_ _ _ _ _ _ us hl=>(match us,hl with | [_,_,_,_],_=>rfl) | exact λ_ _ _ _ _ _ us hl=>(match us,hl with | [_,_,_,_,_],_=>rfl) | exact λ_ _ _ _ _ _ us hl=>(match us,hl with | [_,_,_,_,_,_],_=>rfl))
    | exact PySem.W.mg_none_of KX G (by k_is) | exact PySem.W.mg_of KX G (by k_is) | exact⟨by k_is,by k_is,by k_is,by k_is⟩ | k_is | (show PySem.W.findIn _ _ _=_;k_is)
