import PyProof.Rows.All
import Wide.All
import OpenK.AllK
import Wide.FinOn
import Lean
import PyProof.EqAt
import PyProof.EqKinds
import PyProof.TupleCall
import KE.KItemsList
import KE.KRevIter
import PyProof.CollectIter
import PyProof.DictWalks
import PyProof.WalksMore
import PyProof.SumWalkG
import KE.KSortTup
import PyProof.Draws
import KE.KTupSum
import PyProof.DictValues
import KE.KDictList
import PySem.Challenge.RW_tranchefall_k32_a_pool_alone
set_option Elab.async false
set_option linter.all false
set_option compiler.extract_closed false
set_option genSizeOf false
noncomputable section
local macro_rules|`(↥$x)=>`(($x).heap.objs.size)|`(⇑$x)=>`(by simpa using $x)|`(∅)=>`(by lia)
section
open PySem PySem.Spec PyProof.Rows
abbrev L1:=@List.length_map
abbrev L3:=@wpAny_bind
abbrev L4:=@Option.bind_some
abbrev L5:=@List.map_cons
abbrev L6:=@List.mem_cons_of_mem
abbrev L7:=@List.mem_cons_self
abbrev L8:=@Heap.get?_push_of_some
abbrev L9:=@List.getElem?_eq_some_iff
abbrev M0:=@Bool.and_eq_true
abbrev M1:=@List.length_cons
abbrev M3:=@Bool.false_ne_true
abbrev M4:=@List.mem_cons
abbrev M5:=@List.mem_map
abbrev M6:=@wpAny_pure
abbrev M7:=@List.mem_singleton
abbrev M8:=@Nat.le_refl
abbrev M9:=@List.append_nil
abbrev N0:=@Heap.lt_size
abbrev N1:=@List.mem_append
abbrev N2:=@List.size_toArray
abbrev N3:=@List.length_append
abbrev N4:=@List.map_append
abbrev N5:=@Nat.ne_of_lt
abbrev N6:=@Nat.le_trans
abbrev N7:=@Int.toNat_natCast
abbrev N8:=@Int.emod_lt_of_pos
abbrev N9:=@Int.emod_nonneg
abbrev U0:=@List.map_map
abbrev U1:=@beq_eq_false_iff_ne
abbrev U2:=@List.mem_append_right
abbrev U3:=@Nat.lt_of_lt_of_le
abbrev U4:=@Nat.zero_le
abbrev U5:=@wpAny_field
abbrev U6:=@List.zip_cons_cons
abbrev U7:=@List.count_append
abbrev U8:=@List.nodup_append
abbrev U9:=@List.foldl_cons
abbrev X0:=@decide_eq_true
abbrev X1:=@decide_eq_false
abbrev X2:=@of_decide_eq_true
abbrev X3:=@Option.some.inj
abbrev X4:=@List.nil_append
abbrev X5:=@List.getElem?_eq_getElem
abbrev X6:=@List.length_take
abbrev X7:=@Heap.get?_push_size
abbrev X8:=@Nat.lt_of_le_of_lt
end
abbrev J0:=PySem.Value->PySem.Shared->Prop
abbrev W0:=List (PySem.Addr×PySem.Obj)
abbrev W4:=List (List Nat)
abbrev W5:=PySem.W.Frag
abbrev W6:=List PySem.Addr
abbrev W7:=PySem.Str->Option PySem.Value
namespace L2
inductive Ex2 {α β:Type}(P:α->β->Prop):Prop | mk:∀ x0 x1,P x0 x1->Ex2 P
inductive Ex3 {α β γ:Type}(P:α->β->γ->Prop):Prop | mk:∀ x0 x1 x2,P x0 x1 x2->Ex3 P
inductive Ex4 {α β γ δ:Type}(P:α->β->γ->δ->Prop):Prop | mk:∀ x0 x1 x2 x3,P x0 x1 x2 x3->Ex4 P
inductive Ex5 {α β γ δ ε:Type}(P:α->β->γ->δ->ε->Prop):Prop | mk:∀ x0 x1 x2 x3 x4,P x0 x1 x2 x3 x4->Ex5 P
inductive Ex6 {α β γ δ ε ζ:Type}(P:α->β->γ->δ->ε->ζ->Prop):Prop | mk:∀ x0 x1 x2 x3 x4 x5,P x0 x1 x2 x3 x4 x5->Ex6 P
inductive Ex8 {α β γ δ ε ζ η θ:Type}(P:α->β->γ->δ->ε->ζ->η->θ->Prop):Prop | mk:∀ x0 x1 x2 x3 x4 x5 x6 x7,P x0 x1 x2 x3 x4 x5 x6 x7->Ex8 P
inductive An2 (a b:Prop):Prop | mk:a->b->An2 a b
inductive An3 (a b c:Prop):Prop | mk:a->b->c->An3 a b c
inductive An4 (a b c d:Prop):Prop | mk:a->b->c->d->An4 a b c d
inductive An5 (a b c d e:Prop):Prop | mk:a->b->c->d->e->An5 a b c d e
inductive An6 (a b c d e f:Prop):Prop | mk:a->b->c->d->e->f->An6 a b c d e f
inductive An7 (a b c d e f g:Prop):Prop | mk:a->b->c->d->e->f->g->An7 a b c d e f g
end L2
set_option maxRecDepth 100000
namespace L2
open PySem PySem.Spec PyProof.Rows
noncomputable abbrev Key:=Sum Int Str
noncomputable def jaV:Key->Value->Bool
 | .inl k,v=>Value.isInt k v
 | .inr x,v=>Value.isStrOf x v
noncomputable def jpU(w:World):Key->Int
 | .inl k=>hashInt k
 | .inr x=>hashStr w x
def jT:∀{k}{v},jaV k v=true->(∃ i t,k=Sum.inl i/\v=Value.int i t)\/(∃ x t,k=Sum.inr x/\v=Value.str x t)
 | .inl i,v,h=>by
  obtain⟨t,e⟩:=Value.isInt_shape h;exact .inl ⟨i,t,rfl,e⟩
 | .inr x,v,h=>by
  obtain⟨t,e⟩:=Value.isStrOf_shape h;exact .inr ⟨x,t,rfl,e⟩
def jcA(i)(t):jaV (.inl i) (.int i t)=true:=by simp[jaV,Value.isInt]
def jcR(x)(t):jaV (.inr x) (.str x t)=true:=by simp[jaV,Value.isStrOf]
def jkV(a b):decide ((Sum.inl a:Key)=Sum.inl b)=(a==b):=by
 by_cases e:a=b
 ·subst e;simp
 ·have h:¬ (Sum.inl a:Key)=Sum.inl b:=λq=>e<|Sum.inl.inj q;rw[X1 h];exact(U1.mpr e).symm
def jls(a b):decide ((Sum.inr a:Key)=Sum.inr b)=decide (a=b):=by
 by_cases e:a=b
 ·subst e;simp
 ·have h:¬ (Sum.inr a:Key)=Sum.inr b:=λq=>e<|Sum.inr.inj q;rw[X1 h,X1 e]
def jkj(a)(b):decide ((Sum.inl a:Key)=Sum.inr b)=false:=X1 (λq=>nomatch q)
def jmW(a)(b):decide ((Sum.inr a:Key)=Sum.inl b)=false:=X1 (λq=>nomatch q)
def jL(prog)(w):PySem.KeyKind prog w Key where
 is:=jaV
 hash:=jpU w
 inj:=λv a b ha hb=>by
  rcases jT ha with⟨i,t,rfl,rfl⟩ | ⟨x,t,rfl,rfl⟩
  ·rcases jT hb with⟨j,u,rfl,e⟩ | ⟨y,u,rfl,e⟩
   ·injection e with e1 _;rw[e1]
   ·exact nomatch e
  ·rcases jT hb with⟨j,u,rfl,e⟩ | ⟨y,u,rfl,e⟩
   ·exact nomatch e
   ·injection e with e1 _;rw[e1]
 byValue:=λk v h=>by
  rcases jT h with⟨i,t,rfl,rfl⟩ | ⟨x,t,rfl,rfl⟩<;>rfl
 pyHash:=λhv h=>by
  rcases jT hv with⟨i,t,rfl,rfl⟩ | ⟨x,t,rfl,rfl⟩
  ·exact wpAny_pyHash_int h
  ·exact wpAny_pyHash_str h
 eqBool:=λhu hv h=>by
  rcases jT hu with⟨i,t,rfl,rfl⟩ | ⟨x,t,rfl,rfl⟩
  ·rcases jT hv with⟨j,u,rfl,rfl⟩ | ⟨y,u,rfl,rfl⟩
   ·rw[jkV] at h;exact wpAny_eqBool_int h
   ·rw[jkj] at h;exact SeqAt.EqAt.int_str i t y u _ _ _ _ h
  ·rcases jT hv with⟨j,u,rfl,rfl⟩ | ⟨y,u,rfl,rfl⟩
   ·rw[jmW] at h;exact SeqAt.EqAt.str_int x t j u _ _ _ _ h
   ·rw[jls] at h;exact wpAny_eqBool_str h
 «strs»:=λk x t v h=>by
  rcases jT h with⟨i,u,rfl,e⟩ | ⟨y,u,rfl,e⟩
  ·exact nomatch e
  ·injection e with e1 _;subst e1;cases v<;>rfl
def xX(prog)(w)(i)(t):(jL prog w).is (.inl i) (.int i t)=true:=jcA i t
def xM(prog)(w)(x)(t):(jL prog w).is (.inr x) (.str x t)=true:=jcR x t
inductive V where
 | non | bl (b:Bool) | int (i:Int) | str (x:Str) | byt (b:Array UInt8) | flt (b:UInt64) | ref (a:Addr) | ty (n:String)
 deriving DecidableEq
def RelV:V->Value->Prop
 | .non,u=>u=Value.none
 | .bl b,u=>u=Value.bool b
 | .int i,u=>∃ t,u=Value.int i t
 | .str x,u=>∃ t,u=Value.str x t
 | .byt b,u=>∃ t,u=Value.bytes b t
 | .flt b,u=>∃ t,u=Value.float b t
 | .ref a,u=>u=Value.ref a
 | .ty n,u=>u=Value.type n
abbrev Vals:List V->List Value->Prop:=Paired RelV
def Vals.length(r:Vals xs us):xs.length=us.length:=Paired.length r
theorem Vals.get:∀{xs}{us}{i:Nat}{x},Vals xs us->xs[i]?=some x->∃ u,us[i]?=some u/\RelV x u
 | _,_,_,_,.nil,e=>by simp at e
 | _,_,0,_,.cons r _,e=>by simp at e;subst e;exact⟨_,rfl,r⟩
 | _,_,i+1,x,.cons _ t,e=>by
  obtain⟨u,a,b⟩:=Vals.get t ⇑e;exact⟨u,by simpa using a,b⟩
theorem Vals.set(r:RelV x u):∀{xs}{us} i,Vals xs us->Vals (xs.set i x) (us.set i u)
 | _,_,_,.nil=>.nil
 | _,_,0,.cons _ t=>.cons r t
 | _,_,i+1,.cons q t=>.cons q<|Vals.set r i t
theorem Vals.append:∀{xs ys}{us ws},Vals xs us->Vals ys ws->Vals (xs++ys) (us++ws)
 | _,_,_,_,.nil,s=>s
 | _,_,_,_,.cons r t,s=>.cons r<|Vals.append t s
theorem Vals.take:∀{xs}{us} n,Vals xs us->Vals (xs.take n) (us.take n)
 | _,_,0,_=>.nil
 | _,_,_+1,.nil=>.nil
 | _,_,n+1,.cons r t=>.cons r<|Vals.take n t
theorem Vals.drop:∀{xs}{us} n,Vals xs us->Vals (xs.drop n) (us.drop n)
 | _,_,0,r=>r
 | _,_,_+1,.nil=>.nil
 | _,_,n+1,.cons _ t=>Vals.drop n t
def RelO:Option V->Option Value->Prop
 | some v,some u=>RelV v u
 | none,none=>True
 | _,_=>False
def KV{κ}:List (κ×V)->List (κ×Value)->Prop:=Paired λp q=>p.1=q.1/\RelV p.2 q.2
noncomputable def kV:Key->V
 | .inl i=>.int i
 | .inr x=>.str x
inductive HO where
  | lst (xs:List V)
  | tup (xs:List V)
  | dK (kvs:List (Key×V)) | dT (kvs:List (List Key×V))
  | set (S:Int->Bool) (n:Nat)
  | ins (C dx:Addr) (fs:List (Str×V))
  | own (x:Addr)
  | xd (fs:List (Str×V))
  | met (f x:Addr)
  | rng (lo hi:Int)
  | frz (o:Obj) (u:HO)
  | tbl (ps:Array Value)
  | ext (φ:Heap->Prop)
noncomputable abbrev Hp:=Addr->Option HO
noncomputable def upd(H:Hp)(a:Addr)(o:HO):Hp:=λb=>if b=a then some o else H b
def jk:upd H a o a=some o:=by unfold upd;rw[if_pos rfl]
def je(h:b≠a):upd H a o b=H b:=by unfold upd;rw[if_neg h]
def jdj:upd (upd H a o) a u=upd H a u:=by
 funext b;unfold upd;split<;>rfl
def joO{H:Hp}{a b}{o u}(h:H a=some o)(h':H b=some u)(d:o≠u):a≠b:=by
 intro e;subst e;rw[h] at h';exact d<|X3 h'
def kC{H:Hp}{a b}{o}(h:H a=some o)(h':H b=none):a≠b:=by
 intro e;subst e;rw[h] at h';cases h'
def IsTupN(h:Heap)(a:Addr)(its:Array Value):Prop:=IsTup h a its/\∃ o,h.get? a=some o/\o.dict=none
def IsTupN.new(h:Heap)(its):IsTupN (h.push {cls:=.type "tuple",data:=.seq its}) h.objs.size its:=⟨IsTup.new h its,_,X7 _ rfl,rfl⟩
def IsTupN.lt(x:IsTupN h a its):a<h.objs.size:=x.1.lt
section
variable (P:Program)(w:World)
def ObjOk(H:Hp)(h:Heap)(a:Addr):HO->Prop
 | .lst xs=>xs.length<=sizeLine/\∃ its n,Vals xs its/\h.get? a=some {cls:=.type "list",data:=.seq its.toArray n}
 | .tup xs=>xs.length<=sizeLine/\∃ its:List Value,Vals xs its/\IsTupN h a its.toArray
 | .dK kvs=>kvs.length<=sizeLine/\(a==sysModules)=false/\∃ vs,KV kvs vs/\h.DictOf (jL P w) a vs
 | .dT kvs=>kvs.length<=sizeLine/\(a==sysModules)=false/\∃ xs:List (List Key×Addr×Value),
   Paired (λp q=>p.1=q.1/\H q.2.1=some (.tup<|p.1.map kV)/\RelV p.2 q.2.2) kvs xs /\
   ∃ o es ep,h.get? a=some o/\o.ExactDict/\o.data=.dict es ep/\es.toList=xs.map (entryOfKey<|tupleKind<|jL P w)/\(xs.map (·.1)).Nodup
 | .set S n=>h.SetOf (intKind P w) a S n
 | .ins C dx fs=>H dx=some (.own a)/\fs.length<=1000/\dx≠a/\h.get? a=some (PySem.W.instObj C dx) /\
   ∃ mA,h.Ns1 dx mA/\(∀ f,RelO (fs.lookup f)<|mA f)/\PySem.Within mA (fs.map (·.1))
 | .own _=>∃ o,h.get? a=some o
 | .xd fs=>∃ mA,h.Ns1 a mA/\∀ f,RelO (fs.lookup f)<|mA f
 | .rng lo hi=>∃ t u v,h.get? a=some {cls:=.type "range",data:=.fields #[.int lo t,.int hi u,.int 1 v]}
 | .frz o u=>h.get? a=some o/\ObjOk H h a u
 | .tbl ps=>h.get? a=some {cls:=.none,data:=.fields ps}
 | .met f x=>h.get? a=some (PySem.W.methodObj (.ref f)<|.ref x)
 | .ext φ=>φ h/\(∃ o,h.get? a=some o)/\∀ h1 h2:Heap,φ h1->(∀ o,h1.get? a=some o->h2.get? a=some o)->φ h2
def HOk(H:Hp)(h:Heap):Prop:=∀ a o,H a=some o->ObjOk P w H h a o
end
section
variable {P:Program}{w:World}{H H':Hp}{h h':Heap}{a:Addr}{o:HO}
def ObjOk.lt(x:ObjOk P w H h a o):a<h.objs.size:=by
 cases o with
 | lst c=>obtain⟨_,_,_,_,e⟩:=x;exact N0 e
 | tup c=>obtain⟨_,_,_,p⟩:=x;exact p.lt
 | dK b=>obtain⟨_,_,_,_,o,_,_,e,_⟩:=x;exact N0 e
 | dT b=>obtain⟨_,_,_,_,o,_,_,e,_⟩:=x;exact N0 e
 | set S n=>obtain⟨o,_,_,_,e,_⟩:=x;exact N0 e
 | ins C d fs=>obtain⟨_,_,_,e,_⟩:=x;exact N0 e
 | own y=>obtain⟨_,e⟩:=x;exact N0 e
 | xd fs=>obtain⟨_,⟨_,_,_,e,_⟩,_⟩:=x;exact N0 e
 | rng lo hi=>obtain⟨_,_,_,e⟩:=x;exact N0 e
 | frz ob u=>obtain⟨e,_⟩:=x;exact N0 e
 | tbl g=>exact N0<|x
 | met f y=>exact N0<|x
 | ext φ=>obtain⟨_,⟨_,e⟩,_⟩:=x;exact N0 e
theorem Paired.mapP:∀{l₁}{l₂},Paired F l₁ l₂->(∀ a b,F a b->G a b)->Paired G l₁ l₂
 | _,_,.nil,_=>.nil
 | _,_,.cons r t,f=>.cons (f _ _ r)<|Paired.mapP t f
def ObjOk.stay(x:ObjOk P w H h a o)(k:∀ b u,(b=a\/H b=some (.own a))->h.get? b=some u->h'.get? b=some u)
  (B:∀ b,H b=some (.own a)->H' b=some (.own a)) (D:∀ b xs,H b=some (.tup xs)->H' b=some (.tup xs)):ObjOk P w H' h' a o:=by
 induction o with
 | lst xs=>obtain⟨z,j,n,r,e⟩:=x;exact⟨z,j,n,r,k _ _ (.inl rfl) e⟩
 | tup xs=>obtain⟨z,j,r,⟨ob,e,c⟩,l,e2,E⟩:=x;exact⟨z,j,r,⟨ob,k _ _ (.inl rfl) e,c⟩,l,k _ _ (.inl rfl) e2,E⟩
 | dK m=>obtain⟨z,y,vs,r,ob,g,i,e,c⟩:=x;exact⟨z,y,vs,r,ob,g,i,k _ _ (.inl rfl) e,c⟩
 | dT m=>
  obtain⟨z,y,xs,r,ob,g,i,e,c⟩:=x;exact⟨z,y,xs,Paired.mapP r λp q z=>⟨z.1,D _ _ z.2.1,z.2.2⟩,ob,g,i,k _ _ (.inl rfl) e,c⟩
 | set S n=>obtain⟨ob,g,i,t,e,c⟩:=x;exact⟨ob,g,i,t,k _ _ (.inl rfl) e,c⟩
 | ins C G fs=>
  obtain⟨d,z,ne,e,s,⟨od,g,i,e2,c⟩,r⟩:=x;exact⟨B _ d,z,ne,k _ _ (.inl rfl) e,s,⟨od,g,i,k _ _ (.inr d) e2,c⟩,r⟩
 | own y=>obtain⟨ob,e⟩:=x;exact⟨ob,k _ _ (.inl rfl) e⟩
 | xd fs=>obtain⟨s,⟨od,g,i,e,c⟩,r⟩:=x;exact⟨s,⟨od,g,i,k _ _ (.inl rfl) e,c⟩,r⟩
 | rng lo hi=>obtain⟨t,u,v,e⟩:=x;exact⟨t,u,v,k _ _ (.inl rfl) e⟩
 | frz ob u F=>obtain⟨e,q⟩:=x;exact⟨k _ _ (.inl rfl) e,F q⟩
 | tbl I=>
  have e:=x;exact k a _ (.inl rfl) e
 | met f y=>
  have e:=x;exact k a _ (.inl rfl) e
 | ext φ=>obtain⟨p,⟨o,e⟩,A⟩:=x;exact⟨A _ _ p λo q=>k _ _ (.inl rfl) q,⟨o,k _ _ (.inl rfl) e⟩,A⟩
def HOk.lt(x:HOk P w H h)(e:H a=some o):a<h.objs.size:=(x a o e).lt
def HOk.fresh(x:HOk P w H h)(e:h.objs.size<=a):H a=none:=by
 cases q:H a with
 | none=>rfl
 | some u=>exact absurd (U3 (x.lt q) e)<|Nat.lt_irrefl _
def HOk.kept(x:HOk P w H h)(k:∀ b u,h.get? b=some u->h'.get? b=some u):HOk P w H h':=λa o e=>
 (x a o e).stay (λb u _ q=>k b u q) (λ_ q=>q) λ_ _ q=>q
def HOk.laid(x:HOk P w H h)(k:∀ b u,h.get? b=some u->h'.get? b=some u)(g:h.objs.size<=a)(new:ObjOk P w (upd H a o) h' a o):HOk P w (upd H a o) h':=λb u e=>by
 have d:=x.fresh g;by_cases f:b=a
 ·subst f;rw[jk] at e;cases e;exact new
 ·rw[je f] at e;exact(x b u e).stay (λc v _ q=>k c v q) (λc q=>by rw[je<|kC q d];exact q) λc i q=>by rw[je<|kC q d];exact q
end
def Rd(H:Hp)(a:Addr)(u:HO):Prop:=H a=some u \/ ∃ o,H a=some (.frz o u)
def Rd.ok(r:Rd H a u)(x:HOk P w H h):ObjOk P w H h a u:=by
 rcases r with r | ⟨o,r⟩
 ·exact x a u r
 ·obtain⟨_,q⟩:=x a _ r;exact q
def Mut:Option HO->Prop
 | some (.lst _)=>True
 | some (.dK _)=>True
 | some (.dT _)=>True
 | some (.set _ _)=>True
 | some (.ins _ _ _)=>True
 | some (.ext _)=>True
 | _=>False
section
variable {P:Program}{w:World}{H:Hp}{h h':Heap}{x e:Addr}{o':HO}
def HOk.write(ok:HOk P w H h)(g:Mut<|H x)(n:e=x\/H e=some (.own x))(k:∀ b u,b≠e->h.get? b=some u->h'.get? b=some u)(m:∃ u,h'.get? e=some u)
  (new:ObjOk P w (upd H x o') h' x o'):HOk P w (upd H x o') h':=λb u q=>by
 have d:∀ c y,H c=some (.own y)->c≠x:=λc y r z=>by subst z;rw[r] at g;exact g
 have f:∀ c i,H c=some (.tup i)->c≠x:=λc i r z=>by subst z;rw[r] at g;exact g
 by_cases j:b=x
 ·subst j;rw[jk] at q;cases q;exact new
 ·rw[je j] at q;by_cases a:b=e
  ·have o:H b=some (.own x):=by
    rcases n with z | z
    ·exact absurd (a.trans z) j
    ·rw[a];exact z
   rw[q] at o;cases o;obtain⟨v,p⟩:=m;exact⟨v,by rw[a];exact p⟩
  ·refine(ok b u q).stay (λc v l r=>k c v ?_ r) (λc r=>by rw[je<|d c b r];exact r) λc i r=>by rw[je<|f c i r];exact r
   rcases l with rfl | l
   ·exact a
   ·rintro rfl;rcases n with z | z
    ·exact d c b l z
    ·rw[l] at z;cases z;exact j rfl
end
structure Un(fs ex:W6)(H H':Hp)(h h':Heap):Prop where
 keep:∀ b o,h.get? b=some o->H b=none->b∉fs->b∉ex->h'.get? b=some o
 slot:∀ b o,h.get? b=some o->H b=none->b∈fs->b∉ex->∃ sl,h'.get? b=some {o with slots:=sl}
 free:∀ b o,h.get? b=some o->H b=none->b∉ex->H' b=none
 there:∀ b o,h.get? b=some o->b∉ex->∃ o',h'.get? b=some o'
 tups:∀ b xs,H b=some (.tup xs)->H' b=some (.tup xs)
 frzs:∀ b o u,H b=some (.frz o u)->H' b=some (.frz o u)
 tbls:∀ b ps,H b=some (.tbl ps)->∃ more,H' b=some (.tbl<|ps++more)
section
variable {fs fs' ex ex':W6}{H H1 H2:Hp}{h h1 h2 h':Heap}{a x e:Addr}{o:HO}
def Un.any(u:Un fs ex H H1 h h1)  (q:h.get? b=some ob) (n:H b=none) (a:b∉ex):∃ sl,h1.get? b=some {ob with slots:=sl}:=by
 by_cases c:b∈fs
 ·exact u.slot b ob q n c a
 ·exact⟨ob.slots,u.keep b ob q n c a⟩
def Un.kept(k:∀ b u,h.get? b=some u->h'.get? b=some u):Un fs ex H H h h':=
 ⟨λb ob q _ _ _=>k b ob q,λb ob q _ _ _=>⟨ob.slots,k b ob q⟩,λ_ _ _ n _=>n,λb ob q _=>⟨ob,k b ob q⟩,λ_ _ q=>q,λ_ _ _ q=>q,λ_ a q=>⟨#[],by rw[q];simp⟩⟩
def Un.refl:Un fs ex H H h h:=Un.kept λ_ _ q=>q
def Un.laid(k:∀ b u,h.get? b=some u->h'.get? b=some u)(d:h.objs.size<=a)(c:H a=none):Un fs ex H (upd H a o) h h' where
 keep:=λb u q _ _ _=>k b u q
 slot:=λb u q _ _ _=>⟨u.slots,k b u q⟩
 free:=λb u q n _=>by rw[je<|N5<|U3 (N0 q) d];exact n
 there:=λb u q _=>⟨u,k b u q⟩
 tups:=λb e q=>by rw[je<|kC q c];exact q
 frzs:=λb u e q=>by rw[je<|kC q c];exact q
 tbls:=λb f q=>⟨#[],by rw[je<|kC q c,q];simp⟩
def Un.write(c:Mut<|H x)(j:e=x\/H e=some (.own x))(k:∀ b u,b≠e->h.get? b=some u->h'.get? b=some u)(d:∃ u,h'.get? e=some u):Un fs ex H (upd H x o) h h':=by
 have g:∀ b,H b=none->b≠x:=λb n z=>by subst z;rw[n] at c;exact c
 have i:∀ b,H b=none->b≠e:=λb n z=>by
  subst z;rcases j with r | r
  ·exact g b n r
  ·rw[n] at r;cases r
 have f:∀ b u,H b=some u->¬ Mut (some u)->b≠x:=λb u q nm z=>by subst z;rw[q] at c;exact nm c
 refine⟨λb u q n _ _=>k b u (i b n) q,λb u q n _ _=>⟨u.slots,k b u (i b n) q⟩,λb u q n _=>by rw[je<|g b n];exact n,λb u q _=>?_,
  λb l q=>by rw[je<|f b _ q λz=>z];exact q,λb u l q=>by rw[je<|f b _ q λz=>z];exact q,λb m q=>⟨#[],by rw[je<|f b _ q λz=>z,q];simp⟩⟩
 by_cases a:b=e
 ·subst a;exact d
 ·exact⟨u,k b u a q⟩
end
noncomputable def trk(h:Heap)(H:Hp):List Addr:=(List.range h.objs.size).filter λa=>(H a).isSome
def jgF(h:Heap)(H:Hp):Heap:=PySem.W.hideAll h<|trk h H
def jdS(h)(H):(jgF h H).objs.size=h.objs.size:=PySem.W.hideAll_size _ _
def jfN(e:h.get? b=some o)(n:H b=none):(jgF h H).get? b=some o:=
 PySem.W.hideAll_get _ e λa=>by
  have q:=(List.mem_filter.mp a).2;rw[n] at q;simp at q
def jg0(e:(jgF h H).get? b=some o):h.get? b=some o/\H b=none:=by
 have a:=PySem.W.of_hideAll (trk h H) e;refine⟨a,?_⟩;cases q:H b with
 | none=>rfl
 | some x=>
  have c:b∈trk h H:=List.mem_filter.mpr ⟨List.mem_range.mpr<|N0 a,by simp[q]⟩;have z:(jgF h H).get? b=none:=PySem.W.hideAll_none (trk h H) c;rw[z] at e;cases e
noncomputable def jhb(g h:Heap)(L:Addr):List (Addr×Obj):=(List.range h.objs.size).filterMap λa=>if a=L\/(g.get? a).isSome=true then none else(h.get? a).map λo=>(a,o)
def rest(g h:Heap)(L d:Addr):List (Addr×Obj):=(jhb g h L).filter λp=>decide<|p.1≠d
structure Mod(K:W5)(mg:W7)(base:Heap):Prop where
 kin:K.In base
 glob:base.Ns mainGlobals mg
 blt:∃ mb,base.Ns builtinsNs mb/\∀ x:Str,x≠"__name__"->mb x=bootBuiltins x
 nolimit:base.NoLimit
structure Cx where
 prog:Program
 w:World
 K:PySem.W.Frag
 mg:Str->Option Value
 base:Heap
 A:Around
 N:List Str
 s₀:Shared
 H₀:Hp
 env:Env
 outer:List Env
 stack:List Env
 ex:List Addr
 fn:Str->Bool
 calm:Bool
 pn:List (Addr×Obj)
 xe:Value->Shared->Prop
noncomputable def frs(l:List Env):List Addr:=l.filterMap (·.frame)
abbrev Cx.fs(X:Cx):List Addr:=frs X.outer
def Vis(sc:Scope)(x:Str):Prop:=sc.names.lookup x=some .local\/sc.names.lookup x=some .cell\/sc.names.lookup x=some .free
def Loc(sc:Scope)(x:Str):Prop:=sc.names.lookup x=some .local\/sc.names.lookup x=some .cell
def jpP(env:Env)(h:Heap)(m:W7)(x:Str)(u:Value):Prop:=
 (env.kindOf x=some .local/\m x=some u)\/((env.kindOf x=some .cell\/env.kindOf x=some .free)/\∃ c,env.cells.lookup x=some c/\h.IsCell c (some u))
structure Cx.Ok(X:Cx):Prop where
 mod:Mod X.K X.mg X.base
 kind:X.env.scope.kind=.function
 glob:X.env.globals=mainGlobals
 blt:X.env.builtins=builtinsNs
 above:X.s₀.heap.objs.size<=X.env.locals
 inj:∀ x y c,X.env.cells.lookup x=some c->X.env.cells.lookup y=some c->x=y
 has:∀ x,(X.env.kindOf x=some .cell\/X.env.kindOf x=some .free)->∃ c,X.env.cells.lookup x=some c
 cab:∀ x c,X.fn x=true->X.env.cells.lookup x=some c->X.s₀.heap.objs.size<=c
 hd:X.calm=true->X.A.handled=none
 frames:X.A.frames=some X.stack
 stk:X.stack=X.outer\/(X.stack=X.env::X.outer/\X.env.frame=some X.env.locals)
 exf:∀ b∈X.ex,b≠X.env.locals/\∀ x c,X.env.cells.lookup x=some c->c≠b
 bs:∀ b o,X.base.get? b=some o->X.s₀.heap.get? b=some o/\X.H₀ b=none
 bsz:X.base.objs.size<=X.s₀.heap.objs.size
 noex:∀ b o,X.base.get? b=some o->b∉X.ex
 exfs:∀ b∈X.ex,b∉X.fs
 funs:X.s₀.heap.FunFrames X.base X.outer
 frf:∀ b∈X.fs,X.H₀ b=none
structure Inv(X:Cx)(pins:W0)(σ:List<|Option V)(H:Hp)(s:Shared):Prop where
 ok:X.Ok
 os:s.os=X.s₀.os
 bare:AllBare s.gens
 base:Un X.fs X.ex X.H₀ H X.s₀.heap s.heap
 loc:∃ m,s.heap.Ns X.env.locals m/\∀(i:Nat) (x:Str) (v:V),X.N[i]?=some x->σ[i]?=some (some v)->Vis X.env.scope x->∃ u,RelV v u/\jpP X.env s.heap m x u
 cell:∀ x c,X.env.cells.lookup x=some c->∃ v,s.heap.IsCell c v
 free:H X.env.locals=none
 freeC:∀ x c,X.env.cells.lookup x=some c->H c=none
 pin:∀ p∈X.pn++pins,s.heap.get? p.1=some p.2/\H p.1=none/\p.1≠X.env.locals/\p.1∉X.fs/\∀ v,p.2.data≠.cell v
 hok:HOk X.prog X.w H s.heap
 len:σ.length=X.N.length
section
variable {X:Cx}{pins:List (Addr×Obj)}{σ:List (Option V)}{H H':Hp}{s:Shared}{h':Heap}
def Cx.Ok.nofr(ok:X.Ok)  {o}(e:X.base.get? b=some o):b∉X.fs:=λa=>by
 have:=(ok.funs.mem a).1;rw[e] at this;cases this
def Inv.bs(I:Inv X pins σ H s):∀ b o,X.base.get? b=some o->s.heap.get? b=some o/\H b=none:=λb o e=>
 ⟨I.base.keep b o (I.ok.bs b o e).1 (I.ok.bs b o e).2 (I.ok.nofr e) (I.ok.noex b o e),I.base.free b o (I.ok.bs b o e).1 (I.ok.bs b o e).2 (I.ok.noex b o e)⟩
def Inv.bk(I:Inv X pins σ H s):∀ b o,X.base.get? b=some o->s.heap.get? b=some o:=λb o e=>(I.bs b o e).1
def Inv.mod(I:Inv X pins σ H s):Mod X.K X.mg X.base:=I.ok.mod
def Inv.kIn(I:Inv X pins σ H s):X.K.In s.heap:=I.ok.mod.kin.keeps I.bk
def Inv.lt(I:Inv X pins σ H s):X.env.locals < ↥s:=let ⟨_,hn,_⟩:=I.loc;hn.lt
def Inv.sz(I:Inv X pins σ H s):X.s₀.heap.objs.size<=↥s:=N6 I.ok.above<|Nat.le_of_lt I.lt
def Inv.nofs(I:Inv X pins σ H s)  (h:↥s<=a):a∉X.fs:=λb=>by
 obtain⟨_,o,c,_⟩:=I.ok.funs.mem b;exact absurd (U3 (N0 c)<|N6 I.sz h)<|Nat.lt_irrefl _
def Inv.cne(I:Inv X pins σ H s):∀ x c,X.env.cells.lookup x=some c->c≠X.env.locals:=λx c e z=>by
 obtain⟨v,o,d,hd⟩:=I.cell x c e;obtain⟨m,⟨f,g,h,a,b,_⟩,_⟩:=I.loc;rw[z,a] at d;cases d;rw[b] at hd;cases hd
def Inv.funs(I:Inv X pins σ H s):s.heap.FunFrames X.base X.outer:=by
 have all:∀ l,(∀ b∈frs l,b∈X.fs)->X.s₀.heap.FunFrames X.base l->s.heap.FunFrames X.base l:=by
  intro l
  induction l with
  | nil=>intro _ _;trivial
  | cons env r g=>
   intro f h;obtain⟨i,⟨L,o,a,j,k,hd⟩,m⟩:=h;have c:=f L (by unfold frs;rw[List.filterMap_cons,a];exact L7);obtain⟨sl,e⟩:=I.base.slot L o k (I.ok.frf L c) c λz=>I.ok.exfs L z c;exact⟨i,⟨L,_,a,j,e,hd⟩,g (λb d=>f b<|by unfold frs;rw[List.filterMap_cons,a];exact L6 _ d) m⟩
 exact all X.outer (λ_ d=>d) I.ok.funs
def Inv.stack(I:Inv X pins σ H s):s.heap.FunFrames X.base X.stack:=by
 rcases I.ok.stk with e | ⟨e,a⟩
 ·rw[e];exact I.funs
 ·rw[e];obtain⟨m,b,_⟩:=I.loc;refine .cons (by rw[I.ok.kind];decide) a b ?_ I.funs;exact Heap.get?_none_of_le<|N6 I.ok.bsz I.ok.above
def Inv.stkSub(I:Inv X pins σ H s):∀ b∈frs X.stack,b∈X.env.locals::X.fs:=λb a=>by
 rcases I.ok.stk with e | ⟨e,c⟩
 ·rw[e] at a;exact L6 _ a
 ·rw[e] at a;unfold frs at a;rw[List.filterMap_cons,c] at a;exact a
def Inv.stkFree(I:Inv X pins σ H s):∀ b∈frs X.stack,H b=none:=λb a=>by
 rcases M4.mp (I.stkSub b a) with e | a
 ·rw[e];exact I.free
 ·obtain⟨_,o,c,_⟩:=I.ok.funs.mem a;exact I.base.free b o c (I.ok.frf b a) λz=>I.ok.exfs b z a
def Inv.step{D}{t'}{ch:W6}(I:Inv X pins σ H s)
  (f:∀ b∈ch,(b∈X.ex\/X.s₀.heap.objs.size<=b)/\b≠X.env.locals/\(∀ x c,X.env.cells.lookup x=some c->c≠b)/\∀ p∈X.pn++pins,p.1≠b)
  (keep:∀ b o,b≠X.env.locals->b∉X.fs->b∉ch->s.heap.get? b=some o->H b=none->h'.get? b=some o)
  (slot:∀ b o,b≠X.env.locals->b∈X.fs->b∉ch->s.heap.get? b=some o->H b=none->∃ sl,h'.get? b=some {o with slots:=sl}) (free:∀ b o,b∉ch->s.heap.get? b=some o->H b=none->H' b=none)
  (there:∀ b o,b∉ch->s.heap.get? b=some o->∃ o',h'.get? b=some o')
  (tups:∀ b xs,H b=some (.tup xs)->H' b=some (.tup xs)) (frzs:∀ b o u,H b=some (.frz o u)->H' b=some (.frz o u)) (tbls:∀ b ps,H b=some (.tbl ps)->∃ more,H' b=some (.tbl<|ps++more))
  (ns:∀ m,s.heap.Ns X.env.locals m->h'.Ns X.env.locals m) (hok:HOk X.prog X.w H' h') (J:AllBare D):
  Inv X pins σ H' {s with heap:=h',gens:=D,drawn:=d',toks:=t'}:=by
 have B:∀ b o,X.s₀.heap.get? b=some o->b≠X.env.locals:=λb o e=>N5<|U3 (N0 e) I.ok.above;have j:∀ b o,X.s₀.heap.get? b=some o->b∉X.ex->b∉ch:=λb o e a y=>by
  rcases(f b y).1 with z | z
  ·exact a z
  ·exact absurd (U3 (N0 e) z)<|Nat.lt_irrefl _
 have g:∀ x c,X.env.cells.lookup x=some c->∀ v,s.heap.IsCell c v->h'.IsCell c v:=λx c e v ⟨o,A,hd⟩=>by
  have h:=λz=>(f c z).2.2.1 x c e rfl;by_cases E:c∈X.fs
  ·obtain⟨sl,q⟩:=slot c o (I.cne x c e) E h A<|I.freeC x c e;exact⟨_,q,hd⟩
  ·exact⟨o,keep c o (I.cne x c e) E h A<|I.freeC x c e,hd⟩
 refine⟨I.ok,I.os,J,⟨λb o e n y a=>(keep b o (B b o e) y (j b o e a) (I.base.keep b o e n y a)<|I.base.free b o e n a),λb o e n y a=>?_,λb o e n a=>?_,λb o e a=>?_,λb xs e=>tups b xs<|I.base.tups b xs e,λb o xs e=>frzs b o xs<|I.base.frzs b o xs e,λb ps e=>?_⟩,?_,λx c e=>?_,?_,λx c e=>?_,λp F=>?_,hok,I.len⟩
 ·obtain⟨sl,t⟩:=I.base.slot b o e n y a;obtain⟨C,e2⟩:=slot b _ (B b o e) y (j b o e a) t<|I.base.free b o e n a;exact⟨C,e2⟩
 ·obtain⟨o',t⟩:=I.base.there b o e a;exact free b o' (j b o e a) t<|I.base.free b o e n a
 ·obtain⟨o',t⟩:=I.base.there b o e a;exact there b o' (j b o e a) t
 ·obtain⟨K,t⟩:=I.base.tbls b ps e;obtain⟨L,e2⟩:=tbls b _ t;exact⟨K++L,by rw[e2,Array.append_assoc]⟩
 ·obtain⟨m,M,N⟩:=I.loc;refine⟨m,ns m M,λi x v t e2 e3=>?_⟩;obtain⟨u,r,l⟩:=N i x v t e2 e3;refine⟨u,r,?_⟩;rcases l with l | ⟨k,c,e,z⟩
  ·exact .inl l
  ·exact .inr ⟨k,c,e,g x c e _ z⟩
 ·obtain⟨v,z⟩:=I.cell x c e;exact⟨v,g x c e v z⟩
 ·obtain⟨m,⟨o,_,_,A,_⟩,_⟩:=I.loc;exact free _ o (λz=>(f _ z).2.1 rfl) A I.free
 ·obtain⟨v,o,A,hd⟩:=I.cell x c e;exact free c o (λz=>(f c z).2.2.1 x c e rfl) A<|I.freeC x c e
 ·obtain⟨e,n,ne,G,d⟩:=I.pin p F;have h:=λz=>(f p.1 z).2.2.2 p F rfl;exact⟨keep p.1 p.2 ne G h e n,free p.1 p.2 h e n,ne,G,d⟩
def Inv.un{t'}(I:Inv X pins σ H s)(u:Un X.fs [] H H' s.heap h')(hok:HOk X.prog X.w H' h'):Inv X pins σ H' {s with heap:=h',toks:=t'}:=by
 obtain⟨m,⟨o,k,l,g,r⟩,_⟩:=id I.loc;obtain⟨sl,h⟩:=u.any g I.free (by simp);exact I.step (ch:=[]) (λ_ z=>nomatch z) (λb o _ c _ e n=>u.keep b o e n c<|by simp) (λb o _ c _ e n=>u.slot b o e n c<|by simp) (λb o _ e n=>u.free b o e n<|by simp) (λb o _ e=>u.there b o e<|by simp) u.tups u.frzs u.tbls (λp i=>by
  obtain⟨q,d,f,a,j⟩:=i;rw[g] at a;cases a;exact⟨_,d,f,h,j⟩) hok I.bare
def Inv.call{j}{t'}{ch}(I:Inv X pins σ H s)(u:Un (frs X.stack) ch H H' s.heap h')(hok:HOk X.prog X.w H' h')(l:AllBare j)
  (d:∀ b∈ch,(b∈X.ex\/X.s₀.heap.objs.size<=b)/\b≠X.env.locals/\(∀ x c,X.env.cells.lookup x=some c->c≠b)/\∀ p∈X.pn++pins,p.1≠b):
  Inv X pins σ H' {s with heap:=h',gens:=j,drawn:=d',toks:=t'}:=by
 obtain⟨m,⟨o,y,A,k,r⟩,_⟩:=id I.loc;obtain⟨sl,g⟩:=u.any k I.free λz=>(d _ z).2.1 rfl;exact I.step d (λb o g q a e n=>u.keep b o e n (λz=>(M4.mp<|I.stkSub b z).elim g q) a) (λb o _ _ a e n=>u.any e n a) (λb o a e n=>u.free b o e n a) (λb o a e=>u.there b o e a) u.tups u.frzs u.tbls (λB t=>by
  obtain⟨C,h,i,f,v⟩:=t;rw[k] at f;cases f;exact⟨_,h,i,g,v⟩) hok l
def Inv.turned{t'}(I:Inv X pins σ H s)(k:∀ b o,b≠it->s.heap.get? b=some o->h'.get? b=some o)(g:H it=none)(f:it≠X.env.locals)
  (h1:it∈X.ex\/X.s₀.heap.objs.size<=it) (h2:∀ x c,X.env.cells.lookup x=some c->c≠it) (h:∀ p∈X.pn++pins,p.1≠it):Inv X pins σ H {s with heap:=h',toks:=t'}:=by
 have d:∀ b u,H b=some u->b≠it:=λb u e z=>by rw[z,g] at e;cases e
 refine I.step (ch:=[it]) (λb i=>?_) (λb o _ _ a e _=>k b o (λz=>a<|by simp[z]) e) (λb o _ _ a e _=>⟨o.slots,k b o (λz=>a<|by simp[z]) e⟩) (λ_ _ _ _ n=>n)
  (λb o a e=>⟨o,k b o (λz=>a<|by simp[z]) e⟩) (λ_ _ e=>e) (λ_ _ _ e=>e) (λb y e=>⟨#[],by rw[e];simp⟩) (λm j=>?_) (λb u e=>?_) I.bare
 ·have e:b=it:=by simpa using i
  subst e;exact⟨h1,f,h2,h⟩
 ·obtain⟨o,l,t,w,r⟩:=j;exact⟨o,l,t,k _ o (Ne.symm f) w,r⟩
 ·refine(I.hok b u e).stay (λc v a q=>k c v ?_ q) (λ_ q=>q) λ_ _ q=>q;rcases a with z | z
  ·rw[z];exact d b u e
  ·exact d c _ z
def Inv.tok(I:Inv X pins σ H s)(t):Inv X pins σ H {s with toks:=t}:=I.un Un.refl I.hok
def Inv.kept(I:Inv X pins σ H s)(k:∀ b u,s.heap.get? b=some u->h'.get? b=some u):Inv X pins σ H {s with heap:=h',toks:=t'}:=I.un (Un.kept k)<|I.hok.kept k
def Inv.laid(I:Inv X pins σ H s)(k:∀ b u,s.heap.get? b=some u->h'.get? b=some u)(c:↥s<=a)(new:ObjOk X.prog X.w (upd H a o) h' a o):
  Inv X pins σ (upd H a o) {s with heap:=h',toks:=t'}:=I.un (Un.laid k c<|I.hok.fresh c)<|I.hok.laid k c new
def Inv.write(I:Inv X pins σ H s)(c:Mut<|H x)(d:e=x\/H e=some (.own x))(k:∀ b u,b≠e->s.heap.get? b=some u->h'.get? b=some u)(a:∃ u,h'.get? e=some u)
  (new:ObjOk X.prog X.w (upd H x o) h' x o):Inv X pins σ (upd H x o) {s with heap:=h',toks:=t'}:=I.un (Un.write c d k a)<|I.hok.write c d k a new
def Inv.pins_of(I:Inv X pins σ H s)(h:∀ p∈pins',s.heap.get? p.1=some p.2/\H p.1=none/\p.1≠X.env.locals/\p.1∉X.fs/\∀ v,p.2.data≠.cell v):Inv X pins' σ H s:=
 ⟨I.ok,I.os,I.bare,I.base,I.loc,I.cell,I.free,I.freeC,λp a=>(N1.mp a).elim (λz=>I.pin p<|List.mem_append_left _ z) (h p),I.hok,I.len⟩
def jaH{N:List Str}(c:N.Nodup){i j:Nat}(a:N[i]?=some x)(b:N[j]?=some x):i=j:=by
 obtain⟨e,d⟩:=L9.mp a;obtain⟨f,e2⟩:=L9.mp b;exact(List.getElem_inj c).mp (d.trans e2.symm)
def jd1(I:Inv X pins σ H s)(hN:X.N.Nodup)(hi:X.N[i]?=some x)(B:Loc X.env.scope x)(r:RelV v u)
  (h:∀ s',Inv X pins (σ.set i<|some v) H s'->(∃ a,Heap.SameBut a s.heap s'.heap/\(a=X.env.locals\/X.env.cells.lookup x=some a))->Q () s') (hf:X.fn x=true\/X.env.scope.names.lookup x=some .local:=by first | exact .inl rfl | exact .inr rfl | assumption):wpAny M A (storeName X.env x u) Q E s:=by
 obtain⟨m,W,hl⟩:=id I.loc;have L:(X.env.scope.kind==.class||(X.env.scope.kind==.module&&X.env.locals != X.env.globals))=false:=by rw[I.ok.kind];rfl
 have O:i<σ.length:=by rw[I.len];exact(L9.mp hi).1
 have cne:=I.cne;have g:∀{a}{K},(∃ o,s.heap.get? a=some o/\H a=none)->Heap.SameBut a s.heap K->HOk X.prog X.w H K:=λ{a K} ha f b ob e=>by
  obtain⟨_,_,C⟩:=ha;refine(I.hok b ob e).stay (λc U t q=>(f.2 c ?_).trans q) (λ_ q=>q) λ_ _ q=>q;rintro rfl;rcases t with rfl | t
  ·rw[C] at e;cases e
  ·rw[C] at t;cases t
 rcases B with D | D
 ·refine wpAny_storeName_local D W (λK Y f=>?_) L;obtain⟨oL,_,_,Z,_⟩:=id W;refine h _ ⟨I.ok,I.os,I.bare,⟨λb o e n F B=>((f.2 b<|N5<|U3 (N0 e) I.ok.above).trans (I.base.keep b o e n F B)),λb o e n F B=>?_,I.base.free,λb o e B=>?_,I.base.tups,I.base.frzs,I.base.tbls⟩,⟨_,Y,λj y v' l e2 e3=>?_⟩,λy c e=>?_,I.free,I.freeC,λp hp=>?_,g ⟨oL,Z,I.free⟩ f,by simpa using I.len⟩ ⟨_,f,.inl rfl⟩
  ·obtain⟨sl,l⟩:=I.base.slot b o e n F B;exact⟨sl,(f.2 b<|N5<|U3 (N0 e) I.ok.above).trans l⟩
  ·obtain⟨o',l⟩:=I.base.there b o e B;exact⟨o',(f.2 b<|N5<|U3 (N0 e) I.ok.above).trans l⟩
  ·by_cases G:j=i
   ·subst G;rw[hi] at l;cases l;rw[List.getElem?_set_self O] at e2;cases e2;exact⟨u,r,.inl ⟨D,by simp⟩⟩
   ·rw[List.getElem?_set_ne<|Ne.symm G] at e2;obtain⟨u',r',q⟩:=hl j y v' l e2 e3;refine⟨u',r',?_⟩;rcases q with⟨k,e⟩ | ⟨k,c,e,z⟩
    ·refine .inl ⟨k,?_⟩;have:y≠x:=λe=>G<|jaH hN l<|e▸hi;simp[this,e]
    ·exact .inr ⟨k,c,e,z.sameBut f<|cne y c e⟩
  ·obtain⟨U,z⟩:=I.cell y c e;exact⟨U,z.sameBut f<|cne y c e⟩
  ·obtain⟨e,n,ne,nf,d⟩:=I.pin p hp;exact⟨(f.2 p.1 ne).trans e,n,ne,nf,d⟩
 ·have J:X.fn x=true:=by
   rcases hf with z | z
   ·exact z
   ·rw[z] at D;cases D
  obtain⟨c,t⟩:=I.ok.has x<|.inl D;obtain⟨U,z⟩:=I.cell x c t;refine wpAny_storeName_cell I.ok.kind D t z<|λK P f=>?_;obtain⟨oc,R,S⟩:=id z;refine h {s with heap:=K} ⟨I.ok,I.os,I.bare,⟨λb o e n F B=>((f.2 b<|N5<|U3 (N0 e)<|I.ok.cab x c J t).trans (I.base.keep b o e n F B)),λb o e n F B=>?_,I.base.free,λb o e B=>?_,I.base.tups,I.base.frzs,I.base.tbls⟩,⟨m,W.sameBut f<|Ne.symm<|cne x c t,λj y v' l e2 e3=>?_⟩,λy V e=>?_,I.free,I.freeC,λp hp=>?_,g ⟨oc,R,I.freeC x c t⟩ f,by simpa using I.len⟩ ⟨c,f,.inr t⟩
  ·obtain⟨sl,l⟩:=I.base.slot b o e n F B;exact⟨sl,(f.2 b<|N5<|U3 (N0 e)<|I.ok.cab x c J t).trans l⟩
  ·obtain⟨o',l⟩:=I.base.there b o e B;exact⟨o',(f.2 b<|N5<|U3 (N0 e)<|I.ok.cab x c J t).trans l⟩
  ·by_cases G:j=i
   ·subst G;rw[hi] at l;cases l;rw[List.getElem?_set_self O] at e2;cases e2;exact⟨u,r,.inr ⟨.inl D,c,t,P⟩⟩
   ·rw[List.getElem?_set_ne<|Ne.symm G] at e2;obtain⟨u',r',q⟩:=hl j y v' l e2 e3;refine⟨u',r',?_⟩;rcases q with q | ⟨k,V,e,z'⟩
    ·exact .inl q
    ·refine .inr ⟨k,V,e,z'.sameBut f ?_⟩;rintro rfl;exact G<|jaH hN l<|I.ok.inj _ _ _ e t▸hi
  ·by_cases T:V=c
   ·subst T;exact⟨_,P⟩
   ·obtain⟨w2,z2⟩:=I.cell y V e;exact⟨w2,z2.sameBut f T⟩
  ·obtain⟨e,n,ne,nf,d⟩:=I.pin p hp;refine⟨(f.2 p.1 ?_).trans e,n,ne,nf,d⟩;intro q;rw[q,R] at e;exact d U (by rw[<- (X3 e)];exact S)
def Y7(I:Inv X pins σ H s)(a:X.N.Nodup)(hi:X.N[i]?=some x)(b:Loc X.env.scope x)(r:RelV v u)
  (h:∀ s',Inv X pins (σ.set i<|some v) H s'->Q () s') (c:X.fn x=true\/X.env.scope.names.lookup x=some .local:=by first | exact .inl rfl | exact .inr rfl | assumption):wpAny M A (storeName X.env x u) Q E s:=
 jd1 I a hi b r (λs' d _=>h s' d) c
end
abbrev XK:=Value->Option Addr->Hp->Prop
noncomputable abbrev St:=List<|Option V
abbrev VK:=V->Hp->Prop
abbrev TE:=St->Hp->VK->Prop
abbrev TT:=St->Hp->(Bool->Hp->Prop)->Prop
abbrev TA:=St->Hp->(List V->Hp->Prop)->Prop
structure Ends where
 nx:St->Hp->Prop
 rt:VK
 bk:St->Hp->Prop:=λ_ _=>False
 ct:St->Hp->Prop:=λ_ _=>False
abbrev TS:=Ends->St->Hp->Prop
def EP(X:Cx)(pins:W0)(σ:St)(Q:VK)(u:Value)(s':Shared):Prop:=∃ v H',Inv X pins σ H' s'/\RelV v u/\Q v H'
def TP(X:Cx)(pins:W0)(σ:St)(Q:Bool->Hp->Prop)(b:Bool)(s':Shared):Prop:=∃ H',Inv X pins σ H' s'/\Q b H'
def AP(X:Cx)(pins:W0)(σ:St)(Q:List V->Hp->Prop)(us:List Value)(s':Shared):Prop:=∃ vs H',Inv X pins σ H' s'/\Vals vs us/\Q vs H'
def SP(X:Cx)(pins:W0)(D:Ends)(f:Flow)(s':Shared):Prop:=
 match f with
 | .next=>∃ σ' H',Inv X pins σ' H' s'/\D.nx σ' H'
 | .brk=>∃ σ' H',Inv X pins σ' H' s'/\D.bk σ' H'
 | .cont=>∃ σ' H',Inv X pins σ' H' s'/\D.ct σ' H'
 | .ret u=>∃ v σ' H',Inv X pins σ' H' s'/\RelV v u/\D.rt v H'
def PE(X:Cx)(e:Expr)(t:TE):Prop:=
 ∀ pins s (σ:St) H Q,Inv X pins σ H s->t σ H Q->wpAny (model X.prog X.w) X.A (eval e X.env) (EP X pins σ Q) X.xe s
def PT(X:Cx)(e:Expr)(t:TT):Prop:=
 ∀ pins s (σ:St) H (Q:Bool->Hp->Prop),Inv X pins σ H s->t σ H Q->wpAny (model X.prog X.w) X.A (isTrue e X.env<|eval e X.env) (TP X pins σ Q) X.xe s
def PW(X:Cx)(e:Expr)(t:TT):Prop:=
 ∀ whole pins s (σ:St) H (Q:Bool->Hp->Prop),Inv X pins σ H s->t σ H Q->wpAny (model X.prog X.w) X.A (isTrue e X.env whole) (TP X pins σ Q) X.xe s
def PW.pt(h:PW X e t):PT X e t:=h _
def PA(X:Cx)(es:List Expr)(t:TA):Prop:=
 ∀ pos pins s (σ:St) H (Q:List V->Hp->Prop),Inv X pins σ H s->t σ H Q->wpAny (model X.prog X.w) X.A (spliced<|backTo pos<|starEach es X.env) (AP X pins σ Q) X.xe s
def PS(X:Cx)(st:Stmt)(t:TS):Prop:=
 ∀ pins s (σ:St) H D,Inv X pins σ H s->t D σ H->wpAny (model X.prog X.w) X.A (exec st X.env) (SP X pins D) X.xe s
def PSs(X:Cx)(st:List Stmt)(t:TS):Prop:=
 ∀ pins s (σ:St) H D,Inv X pins σ H s->t D σ H->wpAny (model X.prog X.w) X.A (execs st X.env) (SP X pins D) X.xe s
def thn(h:wpAny M A t Q E s)(b:∀ a s,Q a s->Q' a s):wpAny M A t Q' E s:=wpAny_mono h b λ_ _ x=>x
section
variable {X:Cx}
def j7(i:Nat):TE:=λσ H Q=>∃ v,σ[i]?=some (some v)/\Q v H
def tC(v:V):TE:=λ_ H Q=>Q v H
abbrev Nd(x:Str):Prop:=(x==("__debug__" : Str))=false
def jgB(k:X.N[i]?=some x)(n:Vis X.env.scope x)(hd:Nd x:=by decide)(g:(x==("__classdict__" : Str))=false:=by decide):PE X (.Name x pos) (j7 i):=by
 intro f s σ H Q I h;obtain⟨v,e,h⟩:=h;obtain⟨m,o,p⟩:=I.loc;obtain⟨u,r,l⟩:=p i x v k e n;have b:EP X f σ Q u s:=⟨v,H,I,r,h⟩;rcases l with⟨d,q⟩ | ⟨d,c,j,a⟩
 ·exact wpAny_Name (wpAny_loadName_local I.ok.kind d o q b) hd
 ·rcases d with d | d
  ·exact wpAny_Name (wpAny_loadName_cell I.ok.kind d j a b) hd
  ·exact wpAny_Name (wpAny_loadName_free I.ok.kind d j a b g) hd
def jlb{i j pos}:PE X (.Constant (.int i) j pos) (tC<|.int i):=λ_ _ _ H _ I h=>wpAny_Constant_int ⟨.int i,H,I.tok _,⟨_,rfl⟩,h⟩
def jov{b j pos}:PE X (.Constant (.bool b) j pos) (tC<|.bl b):=λ_ _ _ H _ I h=>Constant_bool ⟨.bl b,H,I,rfl,h⟩
def jmn{j pos}:PE X (.Constant .none j pos) (tC .non):=λ_ _ _ H _ I h=>Constant_none ⟨.non,H,I,rfl,h⟩
def jlh{x j pos}:PE X (.Constant (.str x) j pos) (tC<|.str x):=λ_ _ _ H _ I h=>Calls.Constant_str ⟨.str x,H,I.tok _,⟨_,rfl⟩,h⟩
def Gl(X:Cx)(x:Str):Prop:=X.env.kindOf x=some .globalImplicit
def jbP(I:Inv X pins σ H s)(a:Gl X x)(b:X.mg x=some u)(h:Q u s)
  (hd:Nd x:=by decide):wpAny (model X.prog X.w) X.A (eval (.Name x pos) X.env) Q E s:=
 Calls.Name_function_global I.ok.kind a (Calls.loadGlobal_global (by rw[I.ok.glob];exact I.mod.glob.keeps I.bk) b h) hd
def JV(I:Inv X pins σ H s)(a:Gl X x)(b:X.mg x=none)(c:bootBuiltins x=some u)(h:Q u s)
  (d:x≠"__name__":=by decide) (hd:Nd x:=by decide):wpAny (model X.prog X.w) X.A (eval (.Name x pos) X.env) Q E s:=by
 obtain⟨g,e,f⟩:=I.mod.blt;exact Calls.Name_function_global I.ok.kind a (Calls.loadGlobal_builtin (by rw[I.ok.glob];exact I.mod.glob.keeps I.bk) b (by rw[I.ok.blt];exact e.keeps I.bk) ((f x d).trans c) h) hd
def xZ(a:Gl X x)(b:X.mg x=none)(c:bootBuiltins x=some u)(r:RelV v u)(d:x≠"__name__":=by decide)(hd:Nd x:=by decide):PE X (.Name x pos) (tC v):=
 λ_ _ _ H _ I h=>JV I a b c ⟨v,H,I,r,h⟩ d hd
variable {a b:Expr}{ta tb:TE}{pos:Pos}
def PC(X:Cx)(op:CmpOp)(a b:Expr)(t:TE):Prop:=
 ∀ pins s (σ:St) H Q,Inv X pins σ H s->t σ H Q ->
  wpAny (model X.prog X.w) X.A (eval a X.env) (λv s₁=>wpAny (model X.prog X.w) X.A (eval b X.env) (λu s₂=>wpAny (model X.prog X.w) X.A (compareOp op v u) (EP X pins σ Q) X.xe s₂) X.xe s₁) X.xe s
def jen(b)  (h:op≠.In) (h2:op≠.NotIn):behindInMarks op b=false:=by
 have a:(op==CmpOp.In)=false:=by cases op<;>first | rfl | exact absurd rfl h
 have e2:(op==CmpOp.NotIn)=false:=by cases op<;>first | rfl | exact absurd rfl h2
 cases b<;>simp[behindInMarks,a,e2]
def tB(t:TE):TT:=λσ H Q=>t σ H λx H1=>∃ c,x=.bl c/\Q c H1
def jlm(h:PC X op a b t)(h1:behindInMarks op b=false:=by first | exact jen _ (by decide) (by decide) | rfl):PE X (.Compare a [op] [b] pos) t:=λc s σ H Q I d=>wpAny_Compare1 (h c s σ H Q I d) h1
def jmF(h:PE X e t)(b:∀ whole,isTrue e X.env whole=(do let v <- whole;standAt e.pos;holding [v] (truthy v)):=by intro _;rfl):PT X e (tB t):=by
 intro a s σ H Q I c;refine isTrue_plain (thn (h a s σ H _ I c) λv s1 ⟨x,f,g,r1,i⟩=>?_)<|b _;obtain⟨d,rfl,q⟩:=i;cases r1;exact wpAny_truthy_bool ⟨f,g,q⟩
variable {tA tB':TT}{rest:List Expr}
def jnE(t u:TT):TT:=λσ H Q=>t σ H λc H1=>if c=true then u σ H1 Q else Q false H1
def tOr(t u:TT):TT:=λσ H Q=>t σ H λc H1=>if c=true then Q true H1 else u σ H1 Q
def joq(t:TT):TT:=λσ H Q=>t σ H λc H1=>Q (!c) H1
def jiX(d:PT X a tA):PW X (.BoolOp .And [a] pos) tA:=by
 intro f b s σ H Q I h;refine isTrue_and<|thn (d b s σ H Q I h) λc s1 e=>?_;cases c with
 | true=>exact isTrue_and_nil e
 | false=>exact e
def jkm(d:PT X a tA):PW X (.BoolOp .Or [a] pos) tA:=by
 intro f b s σ H Q I h;refine isTrue_or<|thn (d b s σ H Q I h) λc s1 e=>?_;cases c with
 | false=>exact isTrue_or_nil e
 | true=>exact e
def jkN(i:PT X a tA)(j:PW X (.BoolOp .And (b::rest) pos) tB'):PW X (.BoolOp .And (a::b::rest) pos) (jnE tA tB'):=by
 intro k d s σ H Q I h;refine isTrue_and<|thn (i d s σ H _ I h) λc s1 ⟨e,f,g⟩=>?_;cases c with
 | true=>exact j k d s1 σ e Q f g
 | false=>exact⟨e,f,g⟩
def jny(i:PT X a tA)(j:PW X (.BoolOp .Or (b::rest) pos) tB'):PW X (.BoolOp .Or (a::b::rest) pos) (tOr tA tB'):=by
 intro k d s σ H Q I h;refine isTrue_or<|thn (i d s σ H _ I h) λc s1 ⟨e,f,g⟩=>?_;cases c with
 | true=>exact⟨e,f,g⟩
 | false=>exact j k d s1 σ e Q f g
def jl8(d:PT X a tA):PT X (.UnaryOp .Not a pos) (joq tA):=by
 intro b s σ H Q I h;exact isTrue_not<|d b s σ H (λc e=>Q (!c) e) I h
def jhm(ta tb:TE):TE:=λσ H Q=>ta σ H λx H1=>∃ c,x=.bl c/\if c=true then tb σ H1 Q else Q (.bl false) H1
def jo8(ta tb:TE):TE:=λσ H Q=>ta σ H λx H1=>∃ c,x=.bl c/\if c=true then Q (.bl true) H1 else tb σ H1 Q
def jiY(ta:TE):TE:=λσ H Q=>ta σ H λx H1=>∃ c,x=.bl c/\Q (.bl<|!c) H1
def jlW{c}(h:PE X a t):PE X (.BoolOp c [a] pos) t:=λb s σ H Q I d=>BoolOp_one<|h b s σ H Q I d
def jlK(i:PE X a ta)(j:PE X (.BoolOp .And (b::rest) pos) tb):PE X (.BoolOp .And (a::b::rest) pos) (jhm ta tb):=by
 intro d s σ H Q I h;refine BoolOp_and<|thn (i d s σ H _ I h) λv s1 k=>?_;obtain⟨x,f,g,r1,e⟩:=k;obtain⟨c,rfl,e⟩:=e;cases r1;refine wpAny_truthy_bool ?_;cases c with
 | true=>exact j d s1 σ f Q g e
 | false=>exact⟨.bl false,f,g,rfl,e⟩
def joR(i:PE X a ta)(j:PE X (.BoolOp .Or (b::rest) pos) tb):PE X (.BoolOp .Or (a::b::rest) pos) (jo8 ta tb):=by
 intro d s σ H Q I h;refine BoolOp_or<|thn (i d s σ H _ I h) λv s1 k=>?_;obtain⟨x,f,g,r1,e⟩:=k;obtain⟨c,rfl,e⟩:=e;cases r1;refine wpAny_truthy_bool ?_;cases c with
 | false=>exact j d s1 σ f Q g e
 | true=>exact⟨.bl true,f,g,rfl,e⟩
def jlM(e:PE X a ta):PE X (.UnaryOp .Not a pos) (jiY ta):=by
 intro b s σ H Q I h;refine UnaryOp_<|thn (e b s σ H _ I h) λv s1 f=>?_;obtain⟨x,g,i,r1,d⟩:=f;obtain⟨c,rfl,d⟩:=d;cases r1;exact not_of<|wpAny_truthy_bool ⟨.bl<|!c,g,i,rfl,d⟩
def tIf(t:TT)(ta tb:TE):TE:=λσ H Q=>t σ H λc H1=>if c=true then ta σ H1 Q else tb σ H1 Q
def jeU(j:PT X c tA)(k:PE X a ta)(l:PE X b tb):PE X (.IfExp c a b pos) (tIf tA ta tb):=by
 intro e s σ H Q I h;refine wpAny_IfExp<|thn (j e s σ H _ I h) λd s1 ⟨f,g,i⟩=>?_;cases d with
 | true=>exact k e s1 σ f Q g i
 | false=>exact l e s1 σ f Q g i
end
def SqL(K:W5)(H:Hp)(a:Addr)(xs:List V):Prop:=
 Rd H a (.lst xs) \/
  ∃ o its n,K.lookup a=some o/\o.cls=.type "list"/\o.dict=none/\o.data=.seq its n/\its.size<=sizeLine/\Vals xs its.toList
def SqT(K:W5)(H:Hp)(a:Addr)(xs:List V):Prop:=
 Rd H a (.tup xs) \/
  ∃ o its n,K.lookup a=some o/\o.cls=.type "tuple"/\o.data=.seq its n/\its.size<=sizeLine/\Vals xs its.toList
noncomputable def jpX:Value->Option V
 | .none=>some .non
 | .bool b=>some<|.bl b
 | .int i _=>some<|.int i
 | .str x _=>some<|.str x
 | .bytes b _=>some<|.byt b
 | .float b _=>some<|.flt b
 | .ref a=>some<|.ref a
 | .type n=>some<|.ty n
 | _=>none
def RelV.abs(r:RelV x u):jpX u=some x:=by
 cases x with
 | non=>cases r;rfl
 | bl _=>cases r;rfl
 | int _=>obtain⟨t,rfl⟩:=r;rfl
 | str _=>obtain⟨t,rfl⟩:=r;rfl
 | byt _=>obtain⟨t,rfl⟩:=r;rfl
 | flt _=>obtain⟨t,rfl⟩:=r;rfl
 | ref _=>cases r;rfl
 | ty _=>cases r;rfl
def RelV.inj(r:RelV x u)(q:RelV y u):x=y:=X3<|r.abs.symm.trans q.abs
theorem Vals.inj:∀{xs ys}{us},Vals xs us->Vals ys us->xs=ys
 | _,_,_,.nil,.nil=>rfl
 | _,_,_,.cons r t,.cons a b=>by rw[r.inj a,Vals.inj t b]
section
variable {X:Cx}{pins:List (Addr×Obj)}{σ:St}{H:Hp}{s:Shared}{a:Addr}{xs ys:List V}
def SqL.of{K}(h:H a=some (.lst xs)):SqL K H a xs:=.inl<|.inl h
def SqT.of{K}(h:H a=some (.tup xs)):SqT K H a xs:=.inl<|.inl h
def Inv.list(I:Inv X pins σ H s)(h:SqL X.K H a xs):∃(its:List Value),An3 (Vals xs its) (PlainL s.heap a its.toArray) (xs.length<=sizeLine):=by
 rcases h with h | ⟨o,its,n,b,c,hd,d,f,r⟩
 ·obtain⟨z,its,n,r,e⟩:=h.ok I.hok;exact⟨its,r,⟨_,n,e,rfl,rfl,rfl⟩,z⟩
 ·refine⟨its.toList,r,⟨o,n,I.kIn a o b,c,hd,by simpa using d⟩,?_⟩;have e:=r.length;simp only[Array.length_toList] at e
  lia
def Inv.tuple(I:Inv X pins σ H s)(h:SqT X.K H a xs):∃(its:List Value),An3 (Vals xs its) (IsTup s.heap a its.toArray) (xs.length<=sizeLine):=by
 rcases h with h | ⟨o,its,n,b,c,d,f,r⟩
 ·obtain⟨z,its,r,p⟩:=h.ok I.hok;exact⟨its,r,p.1,z⟩
 ·refine⟨its.toList,r,⟨o,I.kIn a o b,c,n,by simpa using d⟩,?_⟩;have e:=r.length;simp only[Array.length_toList] at e
  lia
def Inv.list_inj(I:Inv X pins σ H s)(h:SqL X.K H a xs)(h':SqL X.K H a ys):xs=ys:=by
 obtain⟨c,r,⟨o,n,e,_,_,d⟩,_⟩:=I.list h;obtain⟨b,i,⟨j,k,f,_,_,g⟩,_⟩:=I.list h';rw[e] at f;cases f;rw[d] at g;injection g with d1 _;have:c=b:=by simpa using congrArg Array.toList d1
 subst this;exact r.inj i
def Inv.tuple_inj(I:Inv X pins σ H s)(h:SqT X.K H a xs)(h':SqT X.K H a ys):xs=ys:=by
 obtain⟨c,r,⟨o,e,_,n,d⟩,_⟩:=I.tuple h;obtain⟨b,i,⟨j,f,_,k,g⟩,_⟩:=I.tuple h';rw[e] at f;cases f;rw[d] at g;injection g with d1 _;have:c=b:=by simpa using congrArg Array.toList d1
 subst this;exact r.inj i
end
noncomputable abbrev Cx.wish(X:Cx)(E:J0):Cx:={X with xe:=E}
noncomputable abbrev Cx.nox(X:Cx):Cx:=X.wish λ_ _=>False
def Cx.Ok.wish{X:Cx}(ok:X.Ok)(E):(X.wish E).Ok:=
 ⟨ok.mod,ok.kind,ok.glob,ok.blt,ok.above,ok.inj,ok.has,ok.cab,ok.hd,ok.frames,ok.stk,ok.exf,ok.bs,ok.bsz,ok.noex,ok.exfs,ok.funs,ok.frf⟩
def Cx.Ok.unwish{X:Cx}{E}(ok:(X.wish E).Ok):X.Ok:=
 ⟨ok.mod,ok.kind,ok.glob,ok.blt,ok.above,ok.inj,ok.has,ok.cab,ok.hd,ok.frames,ok.stk,ok.exf,ok.bs,ok.bsz,ok.noex,ok.exfs,ok.funs,ok.frf⟩
section
variable {X:Cx}{pins:List (Addr×Obj)}{σ:St}{H:Hp}{s:Shared}{E:J0}
def Inv.wish(I:Inv X pins σ H s)(E):Inv (X.wish E) pins σ H s:=⟨I.ok.wish E,I.os,I.bare,I.base,I.loc,I.cell,I.free,I.freeC,I.pin,I.hok,I.len⟩
def Inv.unwish(I:Inv (X.wish E) pins σ H s):Inv X pins σ H s:=⟨I.ok.unwish,I.os,I.bare,I.base,I.loc,I.cell,I.free,I.freeC,I.pin,I.hok,I.len⟩
def SP.unwish(h:SP (X.wish E) pins D f s'):SP X pins D f s':=by
 cases f with
 | next=>obtain⟨a,b,I,q⟩:=h;exact⟨a,b,I.unwish,q⟩
 | brk=>obtain⟨a,b,I,q⟩:=h;exact⟨a,b,I.unwish,q⟩
 | cont=>obtain⟨a,b,I,q⟩:=h;exact⟨a,b,I.unwish,q⟩
 | ret u=>obtain⟨v,a,b,I,r,q⟩:=h;exact⟨v,a,b,I.unwish,r,q⟩
def PSs.nox{st}{t}(h:PSs X.nox st t):PSs X st t:=λa s σ H D I b=>
 wpAny_mono (h a s σ H D (I.wish _) b) (λ_ _ q=>q.unwish) λ_ _ z=>False.elim z
end
section
variable {X:Cx}{st:Stmt}{rest:List Stmt}{t u:TS}{e:Expr}{te:TE}{pos:Pos}
def jhL:TS:=λD σ H=>D.nx σ H
def jnt(t u:TS):TS:=λD σ H=>t {D with nx:=u D} σ H
def jh9:PSs X [] jhL:=λ_ _ σ H _ I h=>wpAny_execs_nil ⟨σ,H,I,h⟩
def jam(h1:PS X st t)(h2:PSs X rest u):PSs X (st::rest) (jnt t u):=by
 intro a s σ H D I h;refine wpAny_execs_cons<|thn (h1 a s σ H {D with nx:=u D} I h) λf s1 q=>?_;cases f with
 | next=>
  obtain⟨b,c,d,q⟩:=q;exact h2 a s1 b c D d q
 | ret v=>exact q
 | brk=>exact q
 | cont=>exact q
def ji0(h1:PS X st t):PSs X [st] t:=by
 intro a s σ H D I h;refine wpAny_execs_cons<|thn (h1 a s σ H D I h) λf s1 q=>?_;cases f with
 | next=>exact wpAny_execs_nil q
 | ret v=>exact q
 | brk=>exact q
 | cont=>exact q
def Inv.quiet(I:Inv X pins σ H s):interactive X.env=false:=by simp[interactive,I.ok.kind]
def Ys(te:TE):TS:=λD σ H=>te σ H λ_ H1=>D.nx σ H1
def Vs(b:PE X e te)(c:swapsWith e none pos.line X.env=pure false:=by rfl):PS X (.Expr e pos) (Ys te):=by
 intro a s σ H D I h;exact wpAny_Expr_any (thn (b a s σ H _ I h) λv s1 ⟨x,d,f,r1,g⟩=>⟨σ,d,f,g⟩) I.quiet c
def jnZ(te:TE):TS:=λD σ H=>te σ H D.rt
def jky(b:PE X e te):PS X (.Return (some e) pos) (jnZ te):=by
 intro a s σ H D I h;exact wpAny_Return_some<|thn (b a s σ H _ I h) λv s1 ⟨x,c,d,r1,f⟩=>⟨x,σ,c,d,r1,f⟩
def jn3(c:TT)(t u:TS):TS:=λD σ H=>c σ H λb H1=>if b=true then t D σ H1 else u D σ H1
def joU(j:PT X c tc)(k:PSs X a t)(l:PSs X b u):PS X (.If c a b pos) (jn3 tc t u):=by
 intro e s σ H D I h;refine wpAny_If<|thn (j e s σ H _ I h) λd s1 ⟨f,g,i⟩=>?_;cases d with
 | true=>exact k e s1 σ f D g i
 | false=>exact l e s1 σ f D g i
end
abbrev TG:=V->St->Hp->(St->Hp->Prop)->Prop
abbrev TGs:=List V->St->Hp->(St->Hp->Prop)->Prop
def PG(X:Cx)(target:Expr)(t:TG):Prop:=
 ∀ pins s (σ:St) H v u (Q:St->Hp->Prop),Inv X pins σ H s->RelV v u->t v σ H Q ->
  wpAny (model X.prog X.w) X.A (assign target X.env u) (λ_ s'=>∃ σ' H',Inv X pins σ' H' s'/\Q σ' H') X.xe s
def PGs(X:Cx)(ts:List Expr)(t:TGs):Prop:=
 ∀ pins s (σ:St) H vs us (Q:St->Hp->Prop),Inv X pins σ H s->Vals vs us->t vs σ H Q ->
  wpAny (model X.prog X.w) X.A (assignInOrder ((assignEach ts X.env).map (·.2)) us) (λ_ s'=>∃ σ' H',Inv X pins σ' H' s'/\Q σ' H') X.xe s
abbrev jpp:=V->V->V->Hp->(Hp->Prop)->Prop
def jpg(X:Cx)(t:jpp):Prop:=
 ∀ pins s (σ:St) H o i v ov iv u Q,Inv X pins σ H s->RelV o ov->RelV i iv->RelV v u->t o i v H Q ->
  wpAny (model X.prog X.w) X.A (setItem ov iv u) (λ_ s'=>∃ H',Inv X pins σ H' s'/\Q H') X.xe s
abbrev TIp:=V->V->Hp->VK->Prop
def PIp(X:Cx)(op:Operator)(t:TIp):Prop:=
 ∀ pins s (σ:St) H x y v u Q,Inv X pins σ H s->RelV x v->RelV y u->t x y H Q ->
  wpAny (model X.prog X.w) X.A (inplaceOp op v u) (EP X pins σ Q) X.xe s
section
variable {X:Cx}{pos:Pos}
def vD(i:Nat):TG:=λv σ H Q=>Q (σ.set i<|some v) H
def YA(b:X.N.Nodup)(hi:X.N[i]?=some x)(c:Loc X.env.scope x)(d:X.fn x=true\/X.env.scope.names.lookup x=some .local:=by first | exact .inl rfl | exact .inr rfl | assumption):PG X (.Name x pos) (vD i):=by
 intro a s σ H v u Q I r h;exact wpAny_assign_Name<|Y7 I b hi c r (λf e=>⟨_,H,e,h⟩) d
def jd9:TGs:=λvs σ H Q=>vs=[]/\Q σ H
def qG(t:TG)(u:TGs):TGs:=λvs σ H Q=>∃ v r,vs=v::r/\t v σ H λσ' H'=>u r σ' H' Q
def ua:PGs X [] jd9:=by
 intro a s σ H vs b Q I r h;obtain⟨e,h⟩:=h;subst e;cases r;exact assignInOrder_nil ⟨σ,H,I,h⟩
def Jg(h1:PG X e t)(h2:PGs X es u)
  (b:(assignEach (e::es) X.env).map (·.2)=assign e X.env::(assignEach es X.env).map (·.2):=by rfl):PGs X (e::es) (qG t u):=by
 intro a s σ H vs l Q I r h;obtain⟨v,m,c,h⟩:=h;subst c;cases r with
 | cons r d=>
  rw[b];refine assignInOrder_cons<|thn (h1 a s σ H _ _ _ I r h) λ_ s1 f=>?_;obtain⟨g,i,j,k⟩:=f;exact h2 a s1 g i _ _ Q j d k
def jed(K:W5)(n:Nat)(t:TGs):TG:=λv σ H Q=>∃ a xs,v=.ref a/\SqT K H a xs/\xs.length=n/\t xs σ H Q
def jgQ(i:X.calm=true)(h:PGs X es t)
  (j:(assignEach es X.env).length=n:=by rfl) (d:(assignEach es X.env).findIdx? (·.1)=none:=by rfl):PG X (.Tuple es k pos) (jed X.K n t):=by
 intro c s σ H v u Q I r f;obtain⟨a,l,m,p,q,f⟩:=f;subst m;cases r;obtain⟨w,g,x,B⟩:=I.tuple p;refine assign_Tuple_tuple (I.ok.hd i) x (by simp[j,<- q,g.length]) d λy z=>?_;have A:Inv X c σ H {s with heap:=y}:=I.kept λb o e=>z b o (N5<|N0 e) e;exact h c _ σ H l _ Q A ⇑g f
def jbt(te:TE)(g:TG):TS:=λD σ H=>te σ H λx H1=>g x σ H1 D.nx
def jdn(b:PE X e te)(c:PG X tg g)(d:swapsWithSole [tg] e pos.line X.env=pure false:=by rfl)(f:swappedStores [tg] e X.env=pure none:=by rfl)
  (h1:(assignEach [tg] X.env).map (·.2)=[assign tg X.env]:=by rfl):PS X (.Assign [tg] e pos) (jbt te g):=by
 intro a s σ H D I h;refine wpAny_Assign_stores (thn (b a s σ H _ I h) λv s1 i=>?_) d f;obtain⟨x,j,k,r1,l⟩:=i;rw[h1];exact thn (c a s1 σ j x v _ k r1 l) λ_ s2 q=>q
def jlE(b:X.N.Nodup)(hi:X.N[i]?=some x)(c:Loc X.env.scope x)(d:PE X e te)(f:swapsWith e (some<|.Name x pos') pos.line X.env=pure false:=by rfl)(g:X.fn x=true\/X.env.scope.names.lookup x=some .local:=by first | exact .inl rfl | exact .inr rfl | assumption):
  PS X (.Assign [.Name x pos'] e pos) (jbt te<|vD i):=by
 intro a s σ H D I h;refine wpAny_Assign_Name (thn (d a s σ H _ I h) λv s1 j=>?_) f;obtain⟨y,k,l,r1,m⟩:=j;exact Y7 l b hi c r1 (λs2 n=>⟨_,k,n,m⟩) g
def joy(i:Nat)(te:TE)(ti:TIp):TS:=λD σ H=>∃ x,σ[i]?=some (some x)/\te σ H λy H1=>ti x y H1 λz H2=>D.nx (σ.set i<|some z) H2
def jnc(n:X.N.Nodup)(hi:X.N[i]?=some x)(f:Loc X.env.scope x)(o:PE X e te)(p:PIp X op ti)(q:X.fn x=true\/X.env.scope.names.lookup x=some .local:=by first | exact .inl rfl | exact .inr rfl | assumption):
  PS X (.AugAssign (.Name x pos') op e pos) (joy i te ti):=by
 intro a s σ H D I h;obtain⟨v,t,h⟩:=h;obtain⟨m,B,C⟩:=I.loc;have g:Vis X.env.scope x:=by rcases f with k | k;exact .inl k;exact .inr<|.inl k
 obtain⟨u,r,l⟩:=C i x v hi t g;refine wpAny_AugAssign_Name ?_;have go:wpAny (model X.prog X.w) X.A (eval e X.env) (λw E=>wpAny (model X.prog X.w) X.A (inplaceOp op u w) (λr F=>wpAny (model X.prog X.w) X.A (storeName X.env x r) (λ_=>SP X a D .next) X.xe F) X.xe E) X.xe s:=by
  refine thn (o a s σ H _ I h) λw s1 j=>?_;obtain⟨y,G,J,r1,K⟩:=j;refine thn (p a s1 σ G v y u w _ J r r1 K) λz s2 j=>?_;obtain⟨S,L,M,r2,O⟩:=j;exact Y7 M n hi f r2 (λT P=>⟨_,L,P,O⟩) q
 rcases l with⟨b,Q⟩ | ⟨b,c,R,d⟩
 ·exact wpAny_loadName_local I.ok.kind b B Q go
 ·rcases b with b | b
  ·exact wpAny_loadName_cell I.ok.kind b R d go
  ·rcases f with k | k
   ·have:X.env.scope.names.lookup x=some .free:=b;rw[k] at this;cases this
   ·have:X.env.scope.names.lookup x=some .free:=b;rw[k] at this;cases this
def jjK(to ti te:TE)(tget:V->V->Hp->VK->Prop)(tip:TIp)(tset:jpp):TS:=λD σ H=>to σ H λo H1=>ti σ H1 λi H2=>tget o i H2 λx H3=>te σ H3 λy H4=>tip x y H4 λz H5=>tset o i z H5 λH6=>D.nx σ H6
def jpx(X:Cx)(t:V->V->Hp->VK->Prop):Prop:=
 ∀ pins s (σ:St) H o i ov iv Q,Inv X pins σ H s->RelV o ov->RelV i iv->t o i H Q ->
  wpAny (model X.prog X.w) X.A (getItem ov iv) (EP X pins σ Q) X.xe s
def jg3(g:PE X o to)(hi:PE X i ti)(j:jpx X tget)(k:PE X e te)(l:PIp X op tip)(m:jpg X tset)
  (n:∀ ov iv new,augStore i ov iv new=(do holding [new,ov,iv] (setItem ov iv new);release [new,ov,iv] [];pure .next):=by intros;rfl):PS X (.AugAssign (.Subscript o i tpos) op e pos) (jjK to ti te tget tip tset):=by
 intro a s σ H D I h;refine wpAny_AugAssign_SubscriptAny (thn (g a s σ H _ I h) λov s1 b=>?_) n;obtain⟨d,p,q,r1,r⟩:=b;refine thn (hi a s1 σ p _ q r) λiv s2 b=>?_;obtain⟨f,t,u,r2,w⟩:=b;refine thn (j a s2 σ t d f ov iv _ u r1 r2 w) λc x b=>?_;obtain⟨y,z,A,r3,B⟩:=b;refine thn (k a x σ z _ A B) λv C b=>?_;obtain⟨E,F,G,J,K⟩:=b;refine thn (l a C σ F y E c v _ G r3 J K) λnew L b=>?_;obtain⟨M,N,O,P,Q⟩:=b;exact thn (m a L σ N d f M ov iv new _ O r1 r2 P Q) λ_ U ⟨R,S,T⟩=>⟨σ,R,S,T⟩
def ipI(f:Int->Int->Int):TIp:=λx y H Q=>∃ i j,x=.int i/\y=.int j/\Q (.int<|f i j) H
def jmB:PIp X .Add (ipI λi j=>i+j):=by
 intro a s σ H x y v u Q I r1 r2 h;obtain⟨i,j,b,e2,q⟩:=h;subst b;subst e2;obtain⟨t,rfl⟩:=r1;obtain⟨c,rfl⟩:=r2;exact iadd_int ⟨.int _,H,I.tok _,⟨_,rfl⟩,q⟩
def jld:PIp X .Sub (ipI λi j=>i-j):=by
 intro a s σ H x y v u Q I r1 r2 h;obtain⟨i,j,b,e2,q⟩:=h;subst b;subst e2;obtain⟨t,rfl⟩:=r1;obtain⟨c,rfl⟩:=r2;exact isub_int ⟨.int _,H,I.tok _,⟨_,rfl⟩,q⟩
end
structure It where
 go:Nat->Hp->Prop
 yld:Nat->Hp->V->Hp->Prop
 stop:Nat->Hp->Prop
def jaI(X:Cx)(pins:W0)(H:Hp)(b:Addr):Prop:=
 H b=none/\b≠X.env.locals/\b∉X.fs/\(b∈X.ex\/X.s₀.heap.objs.size<=b)/\(∀ x c,X.env.cells.lookup x=some c->c≠b)/\∀ p∈X.pn++pins,p.1≠b
def Inv.fpOk(I:Inv X pins σ H s)(a:↥s<=b)(d:H' b=none):jaI X pins H' b:=by
 refine⟨d,Nat.ne_of_gt<|U3 I.lt a,I.nofs a,.inr<|N6 I.sz a,λx c e z=>?_,λp f z=>?_⟩
 ·obtain⟨v,q⟩:=I.cell x c e;exact absurd (U3 q.lt<|by rw[z];exact a)<|Nat.lt_irrefl _
 ·exact absurd (U3 (N0 (I.pin p f).1)<|by rw[z];exact a)<|Nat.lt_irrefl _
structure Turn(P:Program)(w:World)(K:W5)(tg:Expr)(J:It)(fp:W6)(it:Addr)(tn:Nat->Heap->Prop):Prop where
 mem:it∈fp
 obj:∀ i h,tn i h->∀ b∈fp,∃ o,h.get? b=some o/\∀ v,o.data≠.cell v
 keep:∀ i h h',tn i h->(∀ b∈fp,∀ o,h.get? b=some o->h'.get? b=some o)->tn i h'
 item:∀(X:Cx),X.prog=P->X.w=w->X.K=K->X.calm=true->∀(i:Nat) (pins:W0) (s:Shared) (σ:St) (H:Hp) (E:J0),Inv X pins σ H s->(∀ b∈fp,jaI X pins H b)->tn i s.heap->J.go i H ->
  wpAny (model P w) X.A (pyNext<|.ref it) (λr s1=>∃ u,r=some u /\
   wpAny (model P w) X.A (letOwnedTupleGo tg (.ref it) u) (λ_ s2=>∃ x H',Inv X pins σ H' s2/\RelV x u/\J.yld i H x H'/\tn (i+1) s2.heap/\∀ b∈fp,H' b=none) E s1) E s
 done:∀(X:Cx),X.prog=P->X.w=w->X.K=K->X.calm=true->∀(i:Nat) (pins:W0) (s:Shared) (σ:St) (H:Hp) (E:J0),Inv X pins σ H s->(∀ b∈fp,jaI X pins H b)->tn i s.heap->J.stop i H ->
  wpAny (model P w) X.A (pyNext<|.ref it) (λr s1=>r=none/\Inv X pins σ H s1) E s
 self:∀(A:Around) (i:Nat) (s:Shared) (Q:J0) (E:J0),tn i s.heap->Q (.ref it) s->wpAny (model P w) A (pyIter<|.ref it) Q E s
abbrev TI:=St->Hp->(It->Hp->Prop)->Prop
def PIE(X:Cx)(pins:W0)(σ:St)(tg:Expr)(R:It->Hp->Prop)(itv:Value)(s2:Shared):Prop:=
 ∃(it:Addr) (fp:W6) (tn:Nat->Heap->Prop) (J:It) (H':Hp),itv=.ref it/\Inv X pins σ H' s2/\Turn X.prog X.w X.K tg J fp it tn/\tn 0 s2.heap/\(∀ b∈fp,jaI X pins H' b)/\R J H'
def PI(X:Cx)(tg iter:Expr)(wi:TI):Prop:=
 ∀ pins s (σ:St) H (R:It->Hp->Prop),Inv X pins σ H s->wi σ H R ->
  wpAny (model X.prog X.w) X.A (eval iter X.env) (λv s1=>wpAny (model X.prog X.w) X.A (pyIter v) (PIE X pins σ tg R) X.xe s1) X.xe s
def jaS(b:s.heap.get? it=some o)(c:o.cls=.type n)(hd:o.data=.fields vs)
  (d:["enumerate","zip","dict_itemiterator","dict_reverseitemiterator","odict_iterator","itertools.zip_longest","itertools.pairwise"].contains n=false) (a:Q () s):wpAny M A (letOwnedTupleGo tg (.ref it) u) Q E s:=by
 cases tg<;>first
  | exact M6 a
  | (cases u<;>first
    | exact M6 a
    | (refine L3 (wpAny_load b ?_)
       rw[c,hd];show wpAny M A (if(["enumerate","zip","dict_itemiterator","dict_reverseitemiterator","odict_iterator","itertools.zip_longest","itertools.pairwise"].contains n&&vs[0]?==some (rawInt _))=true then _ else _) Q E s;rw[if_neg<|by intro h;rw[d,Bool.false_and] at h;cases h];exact M6 a))
noncomputable def Itl(K:W5)(a:Addr):It:=
 ⟨λi H=>∃ xs x,SqL K H a xs/\xs[i]?=some x,λi H x H'=>H'=H/\∀ xs,SqL K H a xs->xs[i]?=some x,λi H=>∃ xs,SqL K H a xs/\xs.length<=i⟩
noncomputable def Itt(K:W5)(a:Addr):It:=
 ⟨λi H=>∃ xs x,SqT K H a xs/\xs[i]?=some x,λi H x H'=>H'=H/\∀ xs,SqT K H a xs->xs[i]?=some x,λi H=>∃ xs,SqT K H a xs/\xs.length<=i⟩
noncomputable def Itr(lo:Int)(n:Nat):It:=⟨λi _=>i<n,λi H x H'=>H'=H/\x=.int (lo+i),λi _=>n<=i⟩
def jb1{P}{w}{K}{tg}(a j):Turn P w K tg (Itl K a) [j] j (λi h=>h.IsListIter j a i) where
 mem:=by simp
 obj:=λi h f b l=>by
  have e:b=j:=by simpa using l
  subst e;obtain⟨o,e,c,d⟩:=f;exact⟨o,e,λv z=>by rw[d] at z;cases z⟩
 keep:=λi h r f k=>f.at (k j<|by simp)
 item:=by
  intro X t y A O i g s σ H E I n f B;subst t y A;obtain⟨Q,x,q,C⟩:=B;obtain⟨D,F,p,R⟩:=I.list q;obtain⟨u,S,T⟩:=F.get C;obtain⟨G,J,U,L,M,N⟩:=n j (by simp);refine wpAny_pyNext_list_item f p.isList ⇑S λr m V=>?_;have W:Inv X g σ H {s with heap:=r}:=I.turned (λb o l e=>(V.2 b l).trans e) G J L M N;obtain⟨o,e,c,d⟩:=id m;exact⟨u,rfl,jaS e c d (by decide) ⟨x,H,W,T,⟨rfl,λys Y=>by rw[I.list_inj Y q];exact C⟩,m,λb l=>(n b l).1⟩⟩
 done:=by
  intro X t y A O i g s σ H E I n f B;subst t y A;obtain⟨Q,q,C⟩:=B;obtain⟨D,F,p,R⟩:=I.list q;obtain⟨G,J,U,L,M,N⟩:=n j (by simp);have hl:=F.length;exact wpAny_pyNext_list_end (I.ok.hd O) f p.isList (by simp;lia) λr Z=>⟨rfl,I.turned (Z) G J L M N⟩
 self:=λ_ _ _ _ _ f h=>wpAny_pyIter_listiter f h
def ja7{P}{w}{K}{tg}(a j):Turn P w K tg (Itt K a) [j] j (λi h=>h.IsTupleIter j a i) where
 mem:=by simp
 obj:=λi h f b l=>by
  have e:b=j:=by simpa using l
  subst e;obtain⟨o,e,c,d⟩:=f;exact⟨o,e,λv z=>by rw[d] at z;cases z⟩
 keep:=λi h r f k=>f.at (k j<|by simp)
 item:=by
  intro X t y A O i g s σ H E I n f B;subst t y A;obtain⟨Q,x,q,C⟩:=B;obtain⟨D,F,p,R⟩:=I.tuple q;obtain⟨u,S,T⟩:=F.get C;obtain⟨G,J,U,L,M,N⟩:=n j (by simp);refine wpAny_pyNext_tuple_item f (p) ⇑S λr m V=>?_;have W:Inv X g σ H {s with heap:=r}:=I.turned (λb o l e=>(V.2 b l).trans e) G J L M N;obtain⟨o,e,c,d⟩:=id m;exact⟨u,rfl,jaS e c d (by decide) ⟨x,H,W,T,⟨rfl,λys Y=>by rw[I.tuple_inj Y q];exact C⟩,m,λb l=>(n b l).1⟩⟩
 done:=by
  intro X t y A O i g s σ H E I n f B;subst t y A;obtain⟨Q,q,C⟩:=B;obtain⟨D,F,p,R⟩:=I.tuple q;obtain⟨G,J,U,L,M,N⟩:=n j (by simp);have hl:=F.length;exact wpAny_pyNext_tuple_end (I.ok.hd O) f (p) (by simp;lia) λr Z=>⟨rfl,I.turned (Z) G J L M N⟩
 self:=λ_ _ _ _ _ f h=>wpAny_pyIter_tupleiter f h
def jaT{P}{w}{K}{tg}(c)(lo)(n):Turn P w K tg (Itr lo n) [c] c (λi h=>IsRangeIter h c (lo+(i:Nat)*1) ((n:Int)-(i:Nat)) 1) where
 mem:=by simp
 obj:=λi h a b f=>by
  have e:b=c:=by simpa using f
  subst e;exact⟨_,a,λv z=>by
   cases z⟩
 keep:=λi h l a k=>k c (by simp) _ a
 item:=by
  intro X A B C m i d s σ H E I j a p;subst A B C;obtain⟨q,r,D,u,x,y⟩:=j c (by simp);refine(Walks.range (prog:=X.prog) (w:=X.w) (I.ok.hd m) c lo 1 n).item i s _ _ p a λv l F G g J=>?_;obtain⟨t,rfl⟩:=G;have L:Inv X d σ H {s with heap:=l,toks:=F}:=I.turned (λb o f e=>J b o ⇑f e) q r u x y;refine⟨_,rfl,jaS g rfl rfl (by decide) ⟨.int<|lo+i,H,L,⟨t,?_⟩,⟨rfl,rfl⟩,g,λb f=>(j b f).1⟩⟩;rw[Int.mul_one]
 done:=by
  intro X A B C m i d s σ H E I j a p;obtain⟨q,r,D,u,x,y⟩:=j c (by simp);exact wpAny_pyNext_range_end (I.ok.hd m) a (by have:n<=i:=p;lia) λl M=>⟨rfl,I.turned (M) q r u x y⟩
 self:=λ_ _ _ _ _ a h=>wpAny_pyIter_rangeiter a h
section
variable {X:Cx}{tg:Expr}
def jex{pins}{s}{R}{E}{lo hi}{c}(I:Inv X pins σ H s)(h1:-(2 ^ 62)<=lo)(h2:lo<2 ^ 62)(d:-(2 ^ 62)<=hi)(f:hi<2 ^ 62)
  (q:R (Itr lo (hi-lo).toNat) H):wpAny (model X.prog X.w) X.A (pyIter<|.ref ↥s) (PIE X pins σ tg R) E { s with heap:=s.heap.push {cls:=.type "range",data:=.fields #[.int lo t,.int hi u,.int 1 v]},toks:=c }:=by
 refine wpAny_pyIter_range (IsRange.new ..) (small_one h1 h2 d f) ?_;have a:Inv X pins σ H { s with heap:=s.heap.push {cls:=.type "range",data:=.fields #[.int lo t,.int hi u,.int 1 v]},toks:=c }:=I.kept λb o e=>L8 _ e;refine⟨(s.heap.push {cls:=.type "range",data:=.fields #[.int lo t,.int hi u,.int 1 v]}).objs.size,[(s.heap.push {cls:=.type "range",data:=.fields #[.int lo t,.int hi u,.int 1 v]}).objs.size],_,_,H,rfl,
  a.kept λb o e=>L8 _ e,jaT _ lo (hi-lo).toNat,?_,λb g=>?_,q⟩
 ·have h:lo+((0:Nat):Int)*1=lo:=by simp
  have e2:(((hi-lo).toNat:Nat):Int)-((0:Nat):Int)=Builtin.Range.rangeSize lo hi 1:=by rw[rangeSize_one];split<;>lia
  rw[h,e2];exact X7 _ rfl
 ·have e:b=(s.heap.push {cls:=.type "range",data:=.fields #[.int lo t,.int hi u,.int 1 v]}).objs.size:=by simpa using g
  subst e;exact a.fpOk (M8 _)<|a.hok.fresh<|M8 _
def jjh(ta:TA):TI:=λσ H R=>ta σ H λvs H1=>∃ j:Int,vs=[.int j]/\-(2 ^ 62)<=j/\j<2 ^ 62/\R (Itr 0 j.toNat) H1
def jd8(d:Gl X "range")(f:X.mg "range" = none)(g:PA X [a] ta)(i:starEach [a] X.env=[(false,eval a X.env)]:=by rfl):PI X tg (.Call (.Name "range" p) [a] [] pos) (jjh ta):=by
 intro b s σ H R I h;refine Call_<|JV I d f boot_range<|PyProof.Rows.callWith_type1 (thn (g pos b s σ H _ I h) λn s1 ⟨vs,o,k,r1,c⟩=>?_) i rfl;obtain⟨j,e,c,l,q⟩:=c;subst e;cases r1 with
 | cons r m=>
  cases m;obtain⟨t,rfl⟩:=r;exact call_range_1<|jex k ∅ ∅ c l ⇑q
def jkP(wi:TI)(g:TG)(tb:TS):TS:=λD σ H=>wi σ H λJ H1=>∃ W:Nat->Nat->St->Hp->Prop,(∃ m,W 0 m σ H1)/\∀ i m σ H,W i m σ H ->
 (J.stop i H/\D.nx σ H)\/(J.go i H/\∃ N:St->Hp->Prop,(∀ σ' H',N σ' H'->∃ m',m'<m/\W (i+1) m' σ' H')/\∀ x H',J.yld i H x H'->g x σ H' λσ2 H2=>tb {D with nx:=N,ct:=N,bk:=D.nx} σ2 H2)
noncomputable def Ky(fp:W6)(h:Heap):List (Addr×Obj):=fp.filterMap λb=>(h.get? b).map λo=>(b,o)
def ko(a:b∈fp)(e:h.get? b=some o):(b,o)∈Ky fp h:=List.mem_filterMap.mpr ⟨b,a,by rw[e];rfl⟩
def jdl(a:p∈Ky fp h):p.1∈fp/\h.get? p.1=some p.2:=by
 obtain⟨b,c,e⟩:=List.mem_filterMap.mp a;cases q:h.get? b with
 | none=>rw[q] at e;cases e
 | some o=>
  rw[q] at e;have d:=X3 e;subst d;exact⟨c,q⟩
def Inv.pinned(I:Inv X pins σ H s)(f:∀ b∈fp,jaI X pins H b)(g:∀ b∈fp,∃ o,s.heap.get? b=some o/\∀ v,o.data≠.cell v):Inv X (pins++Ky fp s.heap) σ H s:=
 I.pins_of λp h=>(N1.mp h).elim (λz=>I.pin p<|U2 _ z) λz=>by
  obtain⟨a,e⟩:=jdl z;obtain⟨i,j,k,_⟩:=f p.1 a;obtain⟨o,c,d⟩:=g p.1 a;rw[e] at c;cases c;exact⟨e,i,j,k,d⟩
def Inv.unpinned(I:Inv X (pins++pl) σ H s):Inv X pins σ H s:=I.pins_of λp a=>I.pin p<|U2 _<|List.mem_append_left _ a
def jgM(B:PassesOwn (model X.prog X.w) X.A X.env X.xe)(U:X.calm=true)(hi:PI X tg iter wi)(hg:PG X tg g)(c:PSs X body tb)
  (hs:∀ x,foldedSetIterable iter X.env x=pure x:=by intro _;rfl):PS X (.For tg iter body [] pos) (jkP wi g tb):=by
 intro a s σ H D I h;refine wpAny_For (thn (hi a s σ H _ I h) λv s1 h1=>thn h1 λitv s2 h2=>?_) hs;obtain⟨it,C,V,J,H2,e,I2,T,O,Y,W,⟨m0,w0⟩,turn⟩:=h2;subst e;have j:∀{t},(∀ b∈C,t b=none)->∀ b∈C,jaI X a t b:=λhn b c=>⟨hn b c,(Y b c).2⟩;refine codeAny_forLoop_any (λn Z=>∃ i E t,Inv X a E t Z/\V i Z.heap/\(∀ b∈C,t b=none)/\W i n E t) ?_ m0 ⟨0,σ,H2,I2,O,λb c=>(Y b c).1,w0⟩;rintro n s3 ⟨i,F,M,I3,G,K,w3⟩;rcases turn i n F M w3 with⟨stop,qn⟩ | ⟨go,N,hN,step⟩
 ·refine wpAny_passesOwn B<|thn (T.done X rfl rfl rfl U i a s3 F M X.xe I3 (j K) G stop) λr s4 ⟨P,I4⟩=>?_;subst P;exact wpAny_execs_nil ⟨F,M,I4,qn⟩
 ·refine wpAny_passesOwn B<|thn (T.item X rfl rfl rfl U i a s3 F M X.xe I3 (j K) G go) λr s4 ⟨u,P,h4⟩=>?_;subst P;refine wpAny_passesOwn B<|thn h4 λ_ s5 Q=>?_;obtain⟨x,H5,I5,r5,y5,z,R⟩:=Q;refine wpAny_passesOwn B<|thn (hg _ s5 F H5 x u _ (I5.pinned (j R)<|T.obj _ _ z) r5<|step x H5 y5) λ_ s6 Q=>?_;obtain⟨σ6,H6,I6,q6⟩:=Q;refine wpAny_passesOwn B<|thn (c _ s6 σ6 H6 _ I6 q6) λf S y=>?_;have k:∀{l}{p},Inv X (a++Ky C s5.heap) l p S->N l p->∃ m,m<n/\∃ i E t,Inv X a E t S/\V i S.heap/\(∀ b∈C,t b=none)/\W i m E t:=λ{l p} q L=>by
   obtain⟨m',hm,w7⟩:=hN l p L;refine⟨m',hm,i+1,l,p,q.unpinned,T.keep _ _ _ z λb c o e=>(q.pin (b,o)<|U2 _<|U2 _<|ko c e).1,λb c=>?_,w7⟩;obtain⟨o,e,d⟩:=T.obj _ _ z b c;exact(q.pin (b,o)<|U2 _<|U2 _<|ko c e).2.1
  cases f with
  | next=>obtain⟨l,p,q,L⟩:=y;exact k q L
  | cont=>obtain⟨l,p,q,L⟩:=y;exact k q L
  | brk=>obtain⟨l,p,q,y⟩:=y;exact⟨l,p,q.unpinned,y⟩
  | ret v=>obtain⟨x7,l,p,q,r7,y⟩:=y;exact⟨x7,l,p,q.unpinned,r7,y⟩
end
abbrev R2:=V->V->Hp->VK->Prop
def OpR(X:Cx)(f:Value->Value->Sem Value)(r:R2):Prop:=
 ∀ pins s (σ:St) H x y v u Q,Inv X pins σ H s->RelV x v->RelV y u->r x y H Q ->
  wpAny (model X.prog X.w) X.A (f v u) (EP X pins σ Q) X.xe s
def UnR(X:Cx)(f:Value->Sem Value)(r:V->Hp->VK->Prop):Prop:=
 ∀ pins s (σ:St) H x v Q,Inv X pins σ H s->RelV x v->r x H Q ->
  wpAny (model X.prog X.w) X.A (f v) (EP X pins σ Q) X.xe s
def kD(X:Cx)(f:Value)(r:List V->Hp->VK->Prop):Prop:=
 ∀ pins s (σ:St) H xs us Q,Inv X pins σ H s->Vals xs us->r xs H Q ->
  wpAny (model X.prog X.w) X.A (call f us) (EP X pins σ Q) X.xe s
def tOp(r:R2)(ta tb:TE):TE:=λσ H Q=>ta σ H λx H1=>tb σ H1 λy H2=>r x y H2 Q
def tUn(r:V->Hp->VK->Prop)(ta:TE):TE:=λσ H Q=>ta σ H λx H1=>r x H1 Q
def rI(C:Int->Int->Prop)(g:Int->Int->V):R2:=λx y H Q=>∃ i j,x=.int i/\y=.int j/\C i j/\Q (g i j) H
def rI0(g:Int->Int->V):R2:=λx y H Q=>∃ i j,x=.int i/\y=.int j/\Q (g i j) H
def rU(g:Int->V):V->Hp->VK->Prop:=λx H Q=>∃ i,x=.int i/\Q (g i) H
section
variable {X:Cx}{a b c:Expr}{ta tb tc:TE}{pos:Pos}
def jnM(d:PE X a ta)(e:PE X b tb){pins}{s}{R:V->V->Hp->Prop}(I:Inv X pins σ H s)
  (h:ta σ H λx H1=>tb σ H1 λy H2=>R x y H2) {Q:J0}{f:Value->Value->Sem Value}
  (g:∀ v u s2 x y H2,Inv X pins σ H2 s2->RelV x v->RelV y u->R x y H2->wpAny (model X.prog X.w) X.A (f v u) Q X.xe s2):
  wpAny (model X.prog X.w) X.A (eval a X.env) (λv s₁=>wpAny (model X.prog X.w) X.A (eval b X.env) (λu s₂=>wpAny (model X.prog X.w) X.A (f v u) Q X.xe s₂) X.xe s₁) X.xe s:=by
 refine thn (d pins s σ H _ I h) λv s1 c=>?_;obtain⟨x,H1,i,r1,j⟩:=c;refine thn (e pins s1 σ H1 _ i j) λu s2 c=>?_;obtain⟨y,H2,k,r2,l⟩:=c;exact g v u s2 x y H2 k r1 r2 l
def ja5(d:OpR X (binaryOp op) r)(e:PE X a ta)(f:PE X b tb):PE X (.BinOp a op b pos) (tOp r ta tb):=by
 intro c s σ H Q I h;exact wpAny_BinOp<|jnM e f I h λv u s2 x y g i j k q=>d c s2 σ g x y v u Q i j k q
def joA(c:UnR X (unaryOp op) r)(d:PE X a ta):PE X (.UnaryOp op a pos) (tUn r ta):=by
 intro b s σ H Q I h;exact UnaryOp_<|thn (d b s σ H _ I h) λv s1 ⟨x,e,f,r1,g⟩=>c b s1 σ e x v Q f r1 g
def opI{f}{C}{g:Int->Int->Int}
  (a:∀ i j t u s (Q:J0) (E:J0),C i j->Q (.int (g i j) s.toks) {s with toks:=s.toks+1}->wpAny (model X.prog X.w) X.A (f (.int i t)<|.int j u) Q E s):
  OpR X f (rI C λi j=>.int<|g i j):=by
 intro b s σ H x y v u Q I c d h;obtain⟨i,j,rfl,rfl,e,q⟩:=h;obtain⟨t,rfl⟩:=c;obtain⟨k,rfl⟩:=d;exact a i j t k s _ _ e ⟨.int<|g i j,H,I.tok _,⟨_,rfl⟩,q⟩
def jpw{f}{g:Int->Int->Int}
  (a:∀ i j t u s (Q:J0) (E:J0),Q (.int (g i j) s.toks) {s with toks:=s.toks+1}->wpAny (model X.prog X.w) X.A (f (.int i t)<|.int j u) Q E s):
  OpR X f (rI0 λi j=>.int<|g i j):=by
 intro b s σ H x y v u Q I c d h;obtain⟨i,j,rfl,rfl,q⟩:=h;obtain⟨t,rfl⟩:=c;obtain⟨e,rfl⟩:=d;exact a i j t e s _ _ ⟨.int<|g i j,H,I.tok _,⟨_,rfl⟩,q⟩
def joW{f}{g:Int->Int->Bool}
  (a:∀ i j t u s (Q:J0) (E:J0),Q (.bool<|g i j) s->wpAny (model X.prog X.w) X.A (f (.int i t)<|.int j u) Q E s):
  OpR X f (rI0 λi j=>.bl<|g i j):=by
 intro b s σ H x y v u Q I c d h;obtain⟨i,j,rfl,rfl,q⟩:=h;obtain⟨t,rfl⟩:=c;obtain⟨e,rfl⟩:=d;exact a i j t e s _ _ ⟨.bl<|g i j,H,I,rfl,q⟩
def joV(i j:Int):Prop:=0<=j/\j<=1000000/\i.natAbs<2 ^ 64
def jmx:OpR X (binaryOp .Add) (rI0 λi j=>.int<|i+j):=jpw λ_ _ _ _ _ _ _ q=>add_int q
def jne:OpR X (binaryOp .Sub) (rI0 λi j=>.int<|i-j):=jpw λ_ _ _ _ _ _ _ q=>sub_int q
def jkx:OpR X (binaryOp .Mod) (rI (λ_ j=>0<j) λi j=>.int<|i%j):=opI λi j _ _ _ _ _ a q=>by
 exact mod_int' ∅ (by rw[Int.fmod_eq_emod_of_nonneg i ∅];exact q)
def jlP:OpR X (binaryOp .Pow) (rI joV λi j=>.int<|i ^ j.toNat):=opI λ_ _ _ _ _ _ _ a q=>pow_int_small a.1 a.2.1 a.2.2 q
def unI{f}{g:Int->Int}
  (a:∀ i t s (Q:J0) (E:J0),Q (.int (g i) s.toks) {s with toks:=s.toks+1}->wpAny (model X.prog X.w) X.A (f<|.int i t) Q E s):
  UnR X f (rU λi=>.int<|g i):=by
 intro b s σ H x v Q I c h;obtain⟨i,rfl,q⟩:=h;obtain⟨t,rfl⟩:=c;exact a i t s _ _ ⟨.int<|g i,H,I.tok _,⟨_,rfl⟩,q⟩
def jmi:UnR X (unaryOp .USub) (rU λi=>.int<|-i):=unI λ_ _ _ _ _ q=>neg_int q
end
noncomputable def jog:V->V->Bool
 | .non,.non=>true | .non,.int _=>true | .int _,.non=>true | .non,.bl _=>true | .bl _,.non=>true | .non,.str _=>true | .str _,.non=>true
 | .int _,.int _=>true | .bl _,.bl _=>true | .str _,.str _=>true | .byt _,.byt _=>true
 | .int _,.str _=>true | .str _,.int _=>true | .bl _,.str _=>true | .str _,.bl _=>true
 | _,_=>false
def rEq:R2:=λx y H Q=>jog x y=true/\Q (.bl<|decide<|x=y) H
def rNe:R2:=λx y H Q=>jog x y=true/\Q (.bl<|!decide (x=y)) H
def ub:decide (V.int i=V.int j)=(i==j):=by
 rw[Bool.eq_iff_iff];simp
def jct:decide (V.bl i=V.bl j)=(i==j):=by
 rw[Bool.eq_iff_iff];simp
def jb8:decide (V.str i=V.str j)=(i==j):=by
 rw[Bool.eq_iff_iff];simp
def jci:decide (V.byt i=V.byt j)=(i.toList==j.toList):=by
 rw[Bool.eq_iff_iff];cases i;cases j;simp
section
variable {X:Cx}{a b c:Expr}{ta tb tc:TE}{pos:Pos}
def jO(I:Inv X pins σ H s)(q:Q (.bl k) H)(e:k=k'):EP X pins σ Q (.bool k') s:=by
 subst e;exact⟨.bl k,H,I,rfl,q⟩
def jnA:OpR X (compareOp .Eq) rEq:=by
 intro e s σ H x y v u Q I d a h;obtain⟨c,q⟩:=h;cases x with
 | non=>
  cases d;cases y with
  | non=>cases a;exact PySem.EqNone.eq_none_none<|jO I q (by simp)
  | bl j=>cases a;exact PySem.EqNone.eq_none_bool<|jO I q (by simp)
  | int j=>obtain⟨b,rfl⟩:=a;exact PySem.EqNone.eq_none_int<|jO I q (by simp)
  | str j=>obtain⟨b,rfl⟩:=a;exact PySem.EqNone.eq_none_str<|jO I q (by simp)
  | _=>exact absurd (c) M3
 | bl i=>
  cases d;cases y with
  | non=>cases a;exact PySem.EqNone.eq_bool_none<|jO I q (by simp)
  | bl j=>cases a;exact eq_bool<|jO I q jct
  | str j=>obtain⟨b,rfl⟩:=a;exact PySem.EqMixed.eq_bool_str<|jO I q (by simp)
  | _=>exact absurd (c) M3
 | int i=>
  obtain⟨t,rfl⟩:=d;cases y with
  | non=>cases a;exact PySem.EqNone.eq_int_none<|jO I q (by simp)
  | int j=>obtain⟨b,rfl⟩:=a;exact eq_int<|jO I q ub
  | str j=>obtain⟨b,rfl⟩:=a;exact PySem.EqMixed.eq_int_str<|jO I q (by simp)
  | _=>exact absurd (c) M3
 | str i=>
  obtain⟨t,rfl⟩:=d;cases y with
  | non=>cases a;exact PySem.EqNone.eq_str_none<|jO I q (by simp)
  | bl j=>cases a;exact PySem.EqMixed.eq_str_bool<|jO I q (by simp)
  | int j=>obtain⟨b,rfl⟩:=a;exact PySem.EqMixed.eq_str_int<|jO I q (by simp)
  | str j=>obtain⟨b,rfl⟩:=a;exact eq_str<|jO I q jb8
  | _=>exact absurd (c) M3
 | byt i=>
  obtain⟨t,rfl⟩:=d;cases y with
  | byt j=>obtain⟨b,rfl⟩:=a;exact PySem.W.eq_bytes<|jO I q jci
  | _=>exact absurd (c) M3
 | _=>cases y<;>exact absurd (c) M3
def joa:OpR X (compareOp .NotEq) rNe:=by
 intro e s σ H x y v u Q I d a h;obtain⟨c,q⟩:=h;cases x with
 | non=>
  cases d;cases y with
  | non=>cases a;exact PySem.EqNone.ne_none_none<|jO I q (by simp)
  | bl j=>cases a;exact PySem.EqNone.ne_none_bool<|jO I q (by simp)
  | int j=>obtain⟨b,rfl⟩:=a;exact PySem.EqNone.ne_none_int<|jO I q (by simp)
  | str j=>obtain⟨b,rfl⟩:=a;exact PySem.EqNone.ne_none_str<|jO I q (by simp)
  | _=>exact absurd (c) M3
 | bl i=>
  cases d;cases y with
  | non=>cases a;exact PySem.EqNone.ne_bool_none<|jO I q (by simp)
  | bl j=>cases a;exact ne_bool<|jO I q<|congrArg not jct
  | str j=>obtain⟨b,rfl⟩:=a;exact PySem.EqMixed.ne_bool_str<|jO I q (by simp)
  | _=>exact absurd (c) M3
 | int i=>
  obtain⟨t,rfl⟩:=d;cases y with
  | non=>cases a;exact PySem.EqNone.ne_int_none<|jO I q (by simp)
  | int j=>obtain⟨b,rfl⟩:=a;exact ne_int<|jO I q<|congrArg not ub
  | str j=>obtain⟨b,rfl⟩:=a;exact PySem.EqMixed.ne_int_str<|jO I q (by simp)
  | _=>exact absurd (c) M3
 | str i=>
  obtain⟨t,rfl⟩:=d;cases y with
  | non=>cases a;exact PySem.EqNone.ne_str_none<|jO I q (by simp)
  | bl j=>cases a;exact PySem.EqMixed.ne_str_bool<|jO I q (by simp)
  | int j=>obtain⟨b,rfl⟩:=a;exact PySem.EqMixed.ne_str_int<|jO I q (by simp)
  | str j=>obtain⟨b,rfl⟩:=a;exact ne_str<|jO I q<|congrArg not jb8
  | _=>exact absurd (c) M3
 | byt i=>
  obtain⟨t,rfl⟩:=d;cases y with
  | byt j=>obtain⟨b,rfl⟩:=a;exact PySem.W.ne_bytes<|jO I q<|congrArg not jci
  | _=>exact absurd (c) M3
 | _=>cases y<;>exact absurd (c) M3
def jo2:OpR X (compareOp .Lt) (rI0 λi j=>.bl<|decide<|i<j):=joW λ_ _ _ _ _ _ _ q=>lt_int q
def jo6:OpR X (compareOp .Gt) (rI0 λi j=>.bl<|decide<|j<i):=joW λ_ _ _ _ _ _ _ q=>gt_int q
def joM:OpR X (compareOp .GtE) (rI0 λi j=>.bl<|decide<|j<=i):=joW λ_ _ _ _ _ _ _ q=>ge_int q
def jdF:OpR X (compareOp .In) (λx y H Q=>∃ i j,x=.str i/\y=.str j/\Q (.bl<|!(Builtin.Str.occurrences j i 0 j.length 1).isEmpty) H):=by
 intro a s σ H x y v u Q I b c h;obtain⟨i,j,rfl,rfl,q⟩:=h;obtain⟨t,rfl⟩:=b;obtain⟨d,rfl⟩:=c;exact in_str<|jO I q rfl
def zu:OpR X (compareOp .NotIn) (λx y H Q=>∃ i j,x=.str i/\y=.str j/\Q (.bl<|!(!(Builtin.Str.occurrences j i 0 j.length 1).isEmpty)) H):=by
 intro a s σ H x y v u Q I b c h;obtain⟨i,j,rfl,rfl,q⟩:=h;obtain⟨t,rfl⟩:=b;obtain⟨d,rfl⟩:=c;exact notIn_str<|jO I q rfl
def zS(b)  (h:op≠.In:=by decide) (h2:op≠.NotIn:=by decide):behindInMarks op b=false:=by
 have a:(op==CmpOp.In)=false:=by cases op<;>first | rfl | exact absurd rfl h
 have e2:(op==CmpOp.NotIn)=false:=by cases op<;>first | rfl | exact absurd rfl h2
 cases b<;>simp[behindInMarks,a,e2]
def jh4(d:OpR X (compareOp op) r)(e:PE X a ta)(f:PE X b tb)(g:behindInMarks op b=false):PE X (.Compare a [op] [b] pos) (tOp r ta tb):=by
 intro c s σ H Q I h;exact wpAny_Compare1 (jnM e f I h λv u s2 x y i j k l q=>d c s2 σ i x y v u Q j k l q) g
def ja1(t:TE):TT:=λσ H Q=>t σ H λx H'=>∃ k,x=.bl k/\Q k H'
def jhR(f:OpR X (compareOp op) r)(g:PE X a ta)(i:PE X b tb)(j:behindInMarks op b=false):PT X (.Compare a [op] [b] pos) (ja1<|tOp r ta tb):=by
 intro d s σ H Q I h;refine wpAny_isTrue_Compare1 (thn (g d s σ H _ I h) λv s1 ⟨x,l,m,r1,n⟩=>thn (i d s1 σ l _ m n) λu s2 ⟨y,o,p,r2,q⟩=>
  thn (f d s2 σ o x y v u _ p r1 r2 q) λc B ⟨z,t,w,r3,k,e,A⟩=>?_) j
 subst e;cases r3;exact wpAny_truthy_bool ⟨t,w,A⟩
def Q7:(sizeLine:Nat)<2 ^ 63:=by rw[sizeLine_eq];decide
def jaN:OpR X (binaryOp .Add) (λx y H Q=>∃ i j,x=.str i/\y=.str j/\i.length+j.length<=sizeLine/\Q (.str<|i++j) H):=by
 intro a s σ H x y v u Q I b c h;obtain⟨i,j,rfl,rfl,d,q⟩:=h;obtain⟨t,rfl⟩:=b;obtain⟨e,rfl⟩:=c;exact add_str (λe f=>⟨.str<|i++j,H,I.tok _,⟨_,rfl⟩,q⟩) d
def jf8(r:Vals [x] us):∃ u,us=[u]/\RelV x u:=by
 cases r with
 | cons r1 r2=>cases r2;exact⟨_,rfl,r1⟩
def jk2(r:Vals [x,y] us):Ex2 λu w'=>An3 (us=[u,w']) (RelV x u) (RelV y w'):=by
 cases r with
 | cons r1 r2=>
  cases r2 with
  | cons r3 a=>cases a;exact⟨_,_,rfl,r1,r3⟩
def jdX(c:X.calm=true):kD X (.builtin "max") (λxs H Q=>∃ i j,xs=[.int i,.int j]/\Q (.int<|if j>i then j else i) H):=by
 intro b s σ H xs d Q I r h;obtain⟨i,j,rfl,q⟩:=h;obtain⟨u,e,rfl,⟨t,rfl⟩,⟨f,rfl⟩⟩:=jk2 r;refine max_two_ints (I.ok.hd c) λg l k=>⟨_,H,I.kept k,?_,q⟩;by_cases a:j>i
 ·rw[if_pos a,if_pos a];exact⟨_,rfl⟩
 ·rw[if_neg a,if_neg a];exact⟨_,rfl⟩
def jdc(c:X.calm=true):kD X (.builtin "min") (λxs H Q=>∃ i j,xs=[.int i,.int j]/\Q (.int<|if j<i then j else i) H):=by
 intro b s σ H xs d Q I r h;obtain⟨i,j,rfl,q⟩:=h;obtain⟨u,e,rfl,⟨t,rfl⟩,⟨f,rfl⟩⟩:=jk2 r;refine min_two_ints (I.ok.hd c) λg l k=>⟨_,H,I.kept k,?_,q⟩;by_cases a:j<i
 ·rw[if_pos a,if_pos a];exact⟨_,rfl⟩
 ·rw[if_neg a,if_neg a];exact⟨_,rfl⟩
def joT(K:W5)(x:V)(H:Hp)(n:Nat):Prop:=
 match x with
 | .str y=>y.length<=sizeLine/\n=y.length
 | .byt y=>y.size<=sizeLine/\n=y.size
 | .ref p=>(∃ xs,SqL K H p xs/\n=xs.length) \/ ∃ xs,SqT K H p xs/\n=xs.length
 | _=>False
def jeI:kD X (.builtin "len") (λxs H Q=>∃ x n,xs=[x]/\joT X.K x H n/\Q (.int n) H):=by
 intro i s σ H xs l Q I r h;obtain⟨x,n,rfl,e,q⟩:=h;obtain⟨u,rfl,c⟩:=jf8 r;have m:=sizeLine_eq;cases x with
 | str y=>
  obtain⟨t,rfl⟩:=c;obtain⟨j,b⟩:y.length<=sizeLine/\n=y.length:=e;subst b;exact len_str ∅ ⟨.int _,H,I.tok _,⟨_,rfl⟩,q⟩
 | byt y=>
  obtain⟨t,rfl⟩:=c;obtain⟨j,b⟩:y.size<=sizeLine/\n=y.size:=e;subst b;exact PySem.W.len_bytes ∅ ⟨.int _,H,I.tok _,⟨_,rfl⟩,q⟩
 | ref p=>
  cases c;have b:=e;rcases b with⟨xs,d,b⟩ | ⟨xs,d,b⟩
  ·subst b;obtain⟨f,g,pl,k⟩:=I.list d;have a:=g.length;exact Calls.call_len_list pl.isList (by simp only[N2];lia) ⟨.int xs.length,H,I.tok _,⟨_,by simp only[N2];rw[a]⟩,q⟩
  ·subst b;obtain⟨f,g,pl,k⟩:=I.tuple d;have a:=g.length;exact len_tuple pl (by simp only[N2];lia) ⟨.int xs.length,H,I.tok _,⟨_,by simp only[N2];rw[a]⟩,q⟩
 | _=>exact(e).elim
end
structure ObjM(h:Heap)(x dx C:Addr)(mA:W7):Prop where
 obj:h.get? x=some (PySem.W.instObj C dx)
 ns:h.Ns1 dx mA
 ne:dx≠x
def jbI{h:Heap}{mA}(n:h.Ns1 dx mA):∃ od,h.get? dx=some od/\∀ name,PySem.W.lookIn name od=some (mA name):=by
 obtain⟨o,c,k,d,hd,f,_,g⟩:=n;refine⟨o,d,λname=>?_⟩;have e:=g name;unfold nsFind findBy at e;rw[<- Array.find?_toList] at e;unfold PySem.W.lookIn;rw[hd];dsimp only;split
 ·rename_i y q;rw[q] at e;exact congrArg some e
 ·rename_i q;rw[q] at e;have a:c.toList.any (·.refKey)=false:=by
   rw[List.any_eq_false];intro y i;obtain⟨z,t,b⟩:=f y<|Array.mem_toList_iff.mp i;simp[DictEntry.refKey,b]
  have j:¬ c.toList.any (·.refKey)=true:=by rw[a];exact M3
  rw[if_neg j];exact congrArg some e
def ObjM.look(I:ObjM h x dx C mA):∃ od,PySem.W.InstAt h x (PySem.W.instObj C dx) C (some od)/\∀ name,PySem.W.lookIn name od=some (mA name):=
 let ⟨od,ho,hl⟩:=jbI I.ns
 ⟨od,⟨I.obj,rfl,rfl,ho⟩,hl⟩
section
variable {prog:Program}{w:World}{A:Around}{E:J0}{s:Shared}{K:W5}{x dx C f:Addr}{mA:W7}{name:Str}{v:Value}
def jjC{a}{Q}(X:K.In s.heap)(I:ObjM s.heap x dx C mA)(c:PySem.W.plainGet K C name=true)(d:PySem.W.hasDictIn K C=true)
  (e:PySem.W.findIn K (.ref C) name=some none) (f:mA name=some v) (b:PySem.W.handedIn v=true) (h:Q v {s with toks:=s.toks+1}):
  wpAny (model prog w) A (getAttr (.ref x) name a) Q E s:=by
 obtain⟨od,J,g⟩:=I.look;exact PySem.W.get_value X J (PySem.W.plainGet_of c).1 (PySem.W.findObj_own d e rfl<|by rw[g,f]) b h
def je9{pl}{Q}(X:K.In s.heap)(I:ObjM s.heap x dx C mA)(a:PySem.W.plainGet K C name=true)
  (b:PySem.W.findIn K (.ref C) name=some (some<|.ref f)) (c:PySem.W.isFn K (.ref f)=true) (d:mA name=none) (h:Q (.ref f,[.ref x]) s):
  wpAny (model prog w) A (getMethod (.ref x) name pl) Q E s:=by
 obtain⟨od,J,e⟩:=I.look;exact PySem.W.method_fn X J (PySem.W.plainGet_of a).1 (PySem.W.plainGet_of a).2 b (beq_iff_eq.mp c) (by show(PySem.W.lookIn name od).map (·.isSome)=some false;rw[e,d];rfl) h
def jhd{ns}{Q}(X:K.In s.heap)(I:ObjM s.heap x dx C mA)
  (i:PySem.W.findIn K (.ref C) "__setattr__" = some (some<|.builtin "object.__setattr__")) (j:PySem.W.plainOver K C=true) (k:PySem.W.takerIn K C name=some none) (l:PySem.W.hasDictIn K C=true)
  (m:PySem.Within mA ns) (hsz:ns.length<=sizeLine)
  (h:∀ h',ObjM h' x dx C (λy=>if y=name then some v else mA y)->Heap.SameBut dx s.heap h'->Q () {s with heap:=h',toks:=s.toks+2}):
  wpAny (model prog w) A (setAttr (.ref x) name v) Q E s:=by
 obtain⟨od,J,q⟩:=I.look;refine PySem.W.set_plain X J i<|PySem.W.osa_open X J j k λb=>?_;obtain⟨r,n,d⟩:=PySem.W.any_some l;refine L3<|M6<|L3<|L3<|wpAny_loadPart I.obj<|L3<|PySem.W.Looks.here (PySem.W.looks_clsIn X n) ?_;rw[d];refine M6<|L3<|M6<|L3<|wpAny_nsSet1 I.ns λh' a c=>?_;obtain⟨t,o,p,e,f,g⟩:=a.count<|PySem.Within.cons name v m;refine L3<|wpAny_lookBehind e (by rw[f];exact pastItsLine_dict<|N6 g<|by rw[M1];lia) ?_;exact M6<|h _ ⟨(c.2 _<|Ne.symm I.ne).trans I.obj,a,I.ne⟩ c
def jfa{R}{vs}{kw}(X:K.In s.heap)(a:PySem.W.makesIn K C=true)
  (hi:PySem.W.findIn K (.ref C) "__init__" = some (some<|.ref f)) (b:PySem.W.typeIn K (.ref f)=some (.type "function"))
  (h:codeAny (model prog w) (A.under<|.builtin "type.__call__" ⟨.ref C::vs,kw⟩) (.call (.ref f) ⟨.ref (↥s+1)::vs,kw⟩) (PySem.W.InitBack (↥s+1) R)
   {s with heap:=(s.heap.push PySem.W.emptyDict).push (PySem.W.instObj C ↥s)}):
  codeAny (model prog w) A (.call (.ref C) ⟨vs,kw⟩) R s:=by
 obtain⟨c,g,d,t,os⟩:=s;exact PySem.W.make_core (PySem.W.makes_of X a) (PySem.W.looks_findIn X hi) (λself=>PySem.W.bind_fn X self b) (.inl rfl) h
end
noncomputable def Kk(f:Str)(v:V):List (Str×V)->List (Str×V)
 | []=>[(f,v)]
 | (g,x)::r=>if g=f then(g,v)::r else(g,x)::Kk f v r
theorem VU(f g)(v):∀ fs:List (Str×V),(Kk f v fs).lookup g=if g=f then some v else fs.lookup g
 | []=>by
  show List.lookup g [(f,v)]=_;by_cases h:g=f
  ·have a:=beq_iff_eq.mpr h;simp only[List.lookup,a,if_pos h]
  ·have a:=U1.mpr h;simp only[List.lookup,a,if_neg h]
 | (k,x)::r=>by
  rw[show Kk f v ((k,x)::r)=(if k=f then(k,v)::r else(k,x)::Kk f v r) from rfl];by_cases b:k=f
  ·rw[if_pos b];by_cases h:g=k
   ·have a:=beq_iff_eq.mpr h;simp only[List.lookup,a,if_pos<|h.trans b]
   ·have a:=U1.mpr h;simp only[List.lookup,a,if_neg<|λe:g=f=>h<|e.trans b.symm]
  ·rw[if_neg b];by_cases h:g=k
   ·have a:=beq_iff_eq.mpr h;simp only[List.lookup,a,if_neg<|λe:g=f=>b<|h.symm.trans e]
   ·have a:=U1.mpr h;simp only[List.lookup,a];exact(VU f g v r)
theorem Vd(f)(v):∀ fs:List (Str×V),f∈(Kk f v fs).map (·.1)/\∀ g,g∈fs.map (·.1)->g∈(Kk f v fs).map (·.1)
 | []=>⟨by simp[Kk],λg h=>by simp at h⟩
 | (k,x)::r=>by
  obtain⟨b,c⟩:=Vd f v r;rw[show Kk f v ((k,x)::r)=(if k=f then(k,v)::r else(k,x)::Kk f v r) from rfl];by_cases a:k=f
  ·rw[if_pos a];subst a;exact⟨by simp,λg h=>by simpa using h⟩
  ·rw[if_neg a];refine⟨?_,λg h=>?_⟩
   ·rw[L5];exact L6 _ b
   ·rw[L5] at h ⊢;rcases M4.mp h with e | e
    ·exact M4.mpr<|.inl e
    ·exact L6 _<|c g e
theorem Vi(f)(v):∀ fs:List (Str×V),(Kk f v fs).length<=fs.length+1
 | []=>by simp[Kk]
 | (k,x)::r=>by
  have b:=Vi f v r;rw[show Kk f v ((k,x)::r)=(if k=f then(k,v)::r else(k,x)::Kk f v r) from rfl];by_cases a:k=f
  ·rw[if_pos a,M1,M1];lia
  ·rw[if_neg a,M1,M1];lia
def RelO.some_of(r:RelO (some v) o):∃ u,o=some u/\RelV v u:=by
 cases o with
 | none=>exact(r).elim
 | some u=>exact⟨u,rfl,r⟩
def RelO.none_of(r:RelO none o):o=none:=by
 cases o with
 | none=>rfl
 | some u=>exact(r).elim
def jbX(r:RelV v u):PySem.W.handedIn u=true:=by
 cases v with
 | non=>cases(r);rfl
 | bl b=>cases(r);rfl
 | int i=>obtain⟨t,e⟩:=(r);cases e;rfl
 | str x=>obtain⟨t,e⟩:=(r);cases e;rfl
 | byt b=>obtain⟨t,e⟩:=(r);cases e;rfl
 | flt b=>obtain⟨t,e⟩:=(r);cases e;rfl
 | ref a=>cases(r);rfl
 | ty n=>cases(r);rfl
section
variable {P:Program}{w:World}{H H':Hp}{h h':Heap}{a C dx:Addr}{fs fs':List (Str×V)}
def wS(hok:HOk P w H h)(e:H a=some (.ins C dx fs)):∃ mA,An5 (ObjM h a dx C mA) (∀ f,RelO (fs.lookup f)<|mA f) (PySem.Within mA (fs.map (·.1))) (fs.length<=1000) (H dx=some (.own a)):=by
 obtain⟨d,z,ne,ob,mA,n,r,q⟩:=(hok a _ e);exact⟨mA,⟨ob,n,ne⟩,r,q,z,d⟩
end
structure Cls(K:W5)(C:Addr):Prop where
 pg:PySem.W.plainGet K C Str.empty=true
 hd:PySem.W.hasDictIn K C=true
 po:PySem.W.plainOver K C=true
 sa:PySem.W.findIn K (.ref C) "__setattr__" = some (some<|.builtin "object.__setattr__")
def Cls.get{K}{C}(c:Cls K C)(f):PySem.W.plainGet K C f=true:=c.pg
def NoAttr(K:W5)(C:Addr)(f:Str):Prop:=PySem.W.findIn K (.ref C) f=some none
def NoAttr.taker{K}{C}{f}(n:NoAttr K C f):PySem.W.takerIn K C f=some none:=by
 unfold PySem.W.takerIn;rw[n];rfl
structure Meth(K:W5)(C:Addr)(m:Str)(f:Addr):Prop where
 at_:PySem.W.findIn K (.ref C) m=some (some<|.ref f)
 fn:PySem.W.isFn K (.ref f)=true
 kp:PySem.W.keepIn K (.ref f)=true
section
variable {X:Cx}{pins:List (Addr×Obj)}{σ:St}{H:Hp}{s:Shared}{a C dx:Addr}{fs:List (Str×V)}{f:Str}{v:V}{A:Around}{E:J0}
def Kp(I:Inv X pins σ H s)(e:H a=some (.ins C dx fs))(c:Cls X.K C)(n:NoAttr X.K C f)(l:fs.lookup f=some v)
  (h:∀ u s',Inv X pins σ H s'->RelV v u->Q u s'):wpAny (model X.prog X.w) A (getAttr (.ref a) f b) Q E s:=by
 obtain⟨i,O,r,_,_,_⟩:=wS I.hok e;obtain⟨u,g,d⟩:=RelO.some_of (by rw[<- l];exact r f);exact jjC I.kIn O (c.get f) c.hd n g (jbX d)<|h u _ (I.tok _) d
def jbB(I:Inv X pins σ H s)(e:H a=some (.ins C dx fs))(c:Cls X.K C)(k:Meth X.K C m g)(l:fs.lookup m=none)
  (h:Q (.ref g,[.ref a]) s):wpAny (model X.prog X.w) A (getMethod (.ref a) m pl) Q E s:=by
 obtain⟨d,O,r,_,_,_⟩:=wS I.hok e;have b:=RelO.none_of (by rw[<- l];exact r m);exact je9 I.kIn O (c.get m) k.at_ k.fn b h
def Kw(I:Inv X pins σ H s)(e:H a=some (.ins C dx fs))(c:Cls X.K C)(n:NoAttr X.K C f)(B:fs.length<1000)(l:RelV y u)
  (h:∀ s',Inv X pins σ (upd H a<|.ins C dx<|Kk f y fs) s'->Q () s'):wpAny (model X.prog X.w) A (setAttr (.ref a) f u) Q E s:=by
 obtain⟨i,O,r,j,_,k⟩:=wS I.hok e;have m:(fs.map (·.1)).length<=sizeLine:=by rw[L1,sizeLine_eq];lia
 refine jhd I.kIn O c.sa c.po n.taker c.hd j m λp d t=>h _ ?_;have hd:∃ o,p.get? dx=some o:=let ⟨o,_,_,e',_⟩:=d.ns;⟨o,e'⟩
 refine I.write (by rw[e];exact True.intro) (.inr k) (λb q v z=>(t.2 b v).trans z) hd ?_;refine⟨by rw[je O.ne];exact k,?_,O.ne,d.obj,_,d.ns,λg=>?_,λg x=>?_⟩
 ·have:=Vi f y fs;lia
 ·show RelO ((Kk f y fs).lookup g) (if g=f then some u else i g);rw[VU];by_cases q:g=f
  ·rw[if_pos q,if_pos q];exact l
  ·rw[if_neg q,if_neg q];exact r g
 ·by_cases q:g=f
  ·rw[q];exact(Vd f y fs).1
  ·refine(Vd f y fs).2 g (j g λz=>x ?_);show(if g=f then some u else i g)=none;rw[if_neg q];exact z
def Inv.made(I:Inv X pins σ H s):Inv X pins σ (upd (upd H ↥s (.own<|↥s+1)) (↥s+1)<|.ins C ↥s [])
  {s with heap:=(s.heap.push PySem.W.emptyDict).push (PySem.W.instObj C ↥s)}:=by
 have a:(s.heap.push PySem.W.emptyDict).get? ↥s=some PySem.W.emptyDict:=X7 s.heap rfl;have e2:((s.heap.push PySem.W.emptyDict).push (PySem.W.instObj C ↥s)).get? (↥s+1)=some (PySem.W.instObj C ↥s):=by
  have:=X7 (s.heap.push PySem.W.emptyDict) (o:=PySem.W.instObj C ↥s) rfl
  rwa [Heap.size_push] at this
 have e3:(s.heap.push PySem.W.emptyDict).Ns ↥s (λ_=>none):=⟨PySem.W.emptyDict,#[],_,a,rfl,(λe c=>absurd c<|by simp),λ_=>rfl⟩;refine(I.laid (o:=.own<|↥s+1) (t':=s.toks) (λb u q=>L8 _ q) (M8 _) ⟨_,a⟩).laid (λb u q=>L8 _ q) (Nat.le_of_eq<|Heap.size_push _ _) ?_;have ne:↥s≠↥s+1:=N5<|Nat.lt_succ_self _;refine⟨by rw[je ne,jk],U4 _,ne,e2,λ_=>none,(Heap.Ns1.of_empty e3).at λo q=>L8 _ q,λ_=>True.intro,λy d=>absurd rfl d⟩
def jg9(a:attributeBase e f env (eval e env)=eval e env)
  (h:wpAny (model prog w) A (eval e env) (λo s₁=>wpAny (model prog w) A (getAttr o f true) Q E s₁) E s):wpAny (model prog w) A (eval (.Attribute e f pos) env) Q E s:=
 Attribute_any_ h (by rw[arm_eval_Attribute,a])
end
def jee(K:W5)(ta:TE)(f:Str):TE:=λσ H Q=>ta σ H λx H1=>∃ a C dx fs v,x=.ref a/\H1 a=some (.ins C dx fs)/\Cls K C/\NoAttr K C f/\fs.lookup f=some v/\Q v H1
def job(K:W5)(ta tv:TE)(f:Str):TS:=λD σ H=>tv σ H λy H1=>ta σ H1 λx H2=>∃ a C dx fs,x=.ref a/\H2 a=some (.ins C dx fs)/\Cls K C/\NoAttr K C f/\fs.length<1000 /\
 D.nx σ (upd H2 a<|.ins C dx<|Kk f y fs)
def jnp(X:Cx)(op:Operator)(rd:V->V->Hp->VK->Prop):Prop:=
 ∀ pins s (σ:St) H x y u v Q,Inv X pins σ H s->RelV x u->RelV y v->rd x y H Q->wpAny (model X.prog X.w) X.A (inplaceOp op u v) (EP X pins σ Q) X.xe s
def ut(K:W5)(ta tv:TE)(rd:V->V->Hp->VK->Prop)(f:Str):TS:=λD σ H=>ta σ H λx H1=>∃ a C dx fs v,x=.ref a/\H1 a=some (.ins C dx fs)/\Cls K C/\NoAttr K C f/\fs.lookup f=some v /\
 tv σ H1 λy H2=>rd v y H2 λz H3=>∃ dx' fs',H3 a=some (.ins C dx' fs')/\fs'.length<1000/\D.nx σ (upd H3 a<|.ins C dx'<|Kk f z fs')
section
variable {X:Cx}{o e value:Expr}{f:Str}{pos pos' tpos:Pos}{ta tv:TE}
def jaz(d:PE X e ta)(g:attributeBase e f X.env (eval e X.env)=eval e X.env):PE X (.Attribute e f pos) (jee X.K ta f):=by
 intro b s σ H Q I h;refine jg9 g<|thn (d b s σ H _ I h) λu s1 i=>?_;obtain⟨x,j,k,m,a,C,t,fs,v,ex,o,c,n,l,q⟩:=i;subst ex;obtain rfl:u=Value.ref a:=m;exact Kp k o c n l λw s2 p r=>⟨v,j,p,r,q⟩
def jkT(d:PE X o ta)(e:PE X value tv)(g:swapsWith value (some<|.Attribute o f pos') pos.line X.env=pure false):PS X (.Assign [.Attribute o f pos'] value pos) (job X.K ta tv f):=by
 intro b s σ H D I h;refine plainObj_wpAny_Assign_Attribute (thn (e b s σ H _ I h) λu s1 ⟨y,i,j,k,q⟩=>thn (d b s1 σ i _ j q) λm s2 p=>?_) g;obtain⟨x,A,r,t,a,C,B,fs,ex,v,c,n,l,w⟩:=p;subst ex;obtain rfl:m=Value.ref a:=t;exact Kw r v c n l k λE z=>⟨σ,_,z,w⟩
def jd2(i:PE X o ta)(j:PE X value tv)(d:jnp X op rd):PS X (.AugAssign (.Attribute o f tpos) op value pos) (ut X.K ta tv rd f):=by
 intro b s σ H D I h;refine wpAny_AugAssign_AttributeAny<|thn (i b s σ H _ I h) λk s1 e=>?_;obtain⟨x,m,p,r,a,C,T,fs,v,ex,t,c,n,l,q⟩:=e;subst ex;obtain rfl:k=Value.ref a:=r;refine Kp p t c n l λu s2 w A=>thn (j b s2 σ m _ w q) λB E ⟨y,F,G,J,L⟩=>thn (d b E σ F v y u B _ G A J L) λU V e=>?_;obtain⟨z,W,M,N,O,P,g,Q,R⟩:=e;exact Kw M g c n Q N λY S=>⟨σ,_,S,R⟩
def jpc:V->V->Hp->VK->Prop:=λx y H Q=>∃ i j,x=.int i/\y=.int j/\Q (.int<|i+j) H
def jlx:V->V->Hp->VK->Prop:=λx y H Q=>∃ i j,x=.int i/\y=.int j/\Q (.int<|i-j) H
def jmZ:jnp X .Add jpc:=by
 rintro a s σ H x y u v Q I b c ⟨i,j,rfl,rfl,q⟩;obtain⟨t,rfl⟩:=(b);obtain⟨d,rfl⟩:=(c);exact PyProof.Rows.iadd_int ⟨.int<|i+j,H,I.tok _,⟨_,rfl⟩,q⟩
def uJ:jnp X .Sub jlx:=by
 rintro a s σ H x y u v Q I b c ⟨i,j,rfl,rfl,q⟩;obtain⟨t,rfl⟩:=(b);obtain⟨d,rfl⟩:=(c);exact PyProof.Rows.isub_int ⟨.int<|i-j,H,I.tok _,⟨_,rfl⟩,q⟩
end
structure Room(k:Nat)(A:Around):Prop where
 hd:A.handled=none
 dp:A.depth+3*k+5<recursionLimit
 un:A.units+16*k+200<cLine
def Room.mono(r:Room k A)(h:j<=k):Room j A:=⟨r.hd,by have:=r.dp;lia,by have:=r.un;lia⟩
def Room.deeper(r:Room (k+1) A)(env):Room k (A.deeper env):=
 ⟨r.hd,by have:=r.dp;show A.depth+1+3*k+5<_;lia,by have:=r.un;show A.units+3+16*k+200<_;lia⟩
def jbj{A:Around}{us}{kw}:(A.under<|.builtin "type.__call__" ⟨.ref C::us,kw⟩).depth=A.depth+1:=by
 first | rfl | simp[Around.under,Code.weight,Code.isCreation,Code.isGuard,Code.isCaller,Code.frames,Code.isFrame,guardIds]
def jbs{A:Around}{us}{kw}:(A.under<|.builtin "type.__call__" ⟨.ref C::us,kw⟩).units=A.units+1:=by
 first | rfl | simp[Around.under,Code.cUnits,Code.frames,Code.isFrame]
def Room.make(r:Room (k+1) A)(C)(us)(kw):Room k (A.under<|.builtin "type.__call__" ⟨.ref C::us,kw⟩):=
 ⟨r.hd,by have:=r.dp;rw[jbj];lia,by have:=r.un;rw[jbs];lia⟩
def Room.depth(r:Room k A):A.depth<recursionLimit:=by have:=r.dp;lia
def Room.units(r:Room k A):A.units+64<cLine:=by have:=r.un;lia
def Yi:TA:=λ_ H Q=>Q [] H
def jE(ta:TE)(tr:TA):TA:=λσ H Q=>ta σ H λx H1=>tr σ H1 λxs H2=>Q (x::xs) H2
section
variable {X:Cx}{e:Expr}{es:List Expr}{te:TE}{t:TA}{pos:Pos}
def vA:PA X [] Yi:=λ_ _ _ _ H Q I h=>Calls.spliced_nil ⟨[],H,I,.nil,h⟩
abbrev SEq(X:Cx)(e:Expr)(es:List Expr):Prop:=starEach (e::es) X.env=(false,eval e X.env)::starEach es X.env
def jt(b:PE X e te)(c:PA X es t)(d:SEq X e es:=by rfl):PA X (e::es) (jE te t):=by
 intro pos a s σ H Q I h;rw[d];refine Calls.spliced_cons<|thn (b a s σ H _ I h) λu s1 f=>?_;obtain⟨x,g,i,r1,j⟩:=f;exact thn (c pos a s1 σ g _ i j) λo s2 ⟨k,l,m,r2,n⟩=>⟨x::k,l,m,.cons r1 r2,n⟩
def uA(t:TA):TE:=λσ H Q=>t σ H λxs H1=>xs.length<=sizeLine/\∀ p,H1 p=none->Q (.ref p) (upd H1 p<|.tup xs)
def jm5(t:TA):TE:=λσ H Q=>t σ H λxs H1=>xs.length<=sizeLine/\∀ p,H1 p=none->Q (.ref p) (upd H1 p<|.lst xs)
def Yb{d}(h:PA X es t):PE X (.Tuple es d pos) (uA t):=by
 intro a s σ H Q I f;refine wpAny_Tuple_spliced<|thn (h pos a s σ H _ I f) λg s1 ⟨i,j,c,r,z,q⟩=>⟨by rw[<- r.length];exact z,?_⟩;refine⟨.ref ↥s1,upd j ↥s1 (.tup i),c.laid (λb u e=>L8 _ e) (M8 _) ?_,rfl,q _<|c.hok.fresh<|M8 _⟩;exact⟨z,g,r,⟨_,X7 _ rfl,rfl,_,rfl⟩,_,X7 _ rfl,rfl⟩
def jgW(h:PA X es t):PE X (.List es pos) (jm5 t):=by
 intro a s σ H Q I d;refine wpAny_List_spliced<|thn (h pos a s σ H _ I d) λf s1 ⟨g,i,c,r,z,q⟩=>⟨by rw[<- r.length];exact z,?_⟩;refine⟨.ref ↥s1,upd i ↥s1 (.lst g),c.laid (λb u e=>L8 _ e) (M8 _) ?_,rfl,q _<|c.hok.fresh<|M8 _⟩;exact⟨z,f,0,r,X7 _ rfl⟩
end
abbrev Sp:=List V->Hp->VK->XK->Prop
abbrev CXT:=List Env->Hp->Shared->XK->Value->Shared->Prop
structure Env0(P:Program)(w:World)(K:W5)(mg:W7)(base:Heap)(A:Around)(outer:List Env)(s:Shared)(H:Hp):Prop where
 frames:A.frames=some outer
 mod:Mod K mg base
 bs:∀ b o,base.get? b=some o->s.heap.get? b=some o/\H b=none
 bsz:base.objs.size<=↥s
 funs:s.heap.FunFrames base outer
 frf:∀ b∈frs outer,H b=none
 hok:HOk P w H s.heap
 bare:AllBare s.gens
def CE(outer:List Env)(P:Program)(w:World)(H:Hp)(s:Shared)(Q:VK)(u:Value)(s':Shared):Prop:=
 ∃ v H',s'.os=s.os/\AllBare s'.gens/\Un (frs outer) [] H H' s.heap s'.heap/\HOk P w H' s'.heap/\RelV v u/\Q v H'
def CR(CX:CXT)(outer:List Env)(P:Program)(w:World)(H:Hp)(s:Shared)(Q:VK)(E:XK)(r:Result)(s':Shared):Prop:=
 match r with
 | .ok (.ret u)=>CE outer P w H s Q u s'
 | .ok _=>False
 | .error e=>CX outer H s E e s'
structure FnOk(P:Program)(w:World)(K:W5)(mg:W7)(base:Heap)(CX:CXT)(k:Nat)(f:Addr)(fd:FuncData)(ps:List Str)(sp:Sp):Prop where
 len:∀ vs H Q E,sp vs H Q E->vs.length=ps.length
 run:∀(A:Around) (outer:List Env) (s:Shared) (H:Hp) (args:Args) (us:List Value) (vs:List V) (Q:VK) (E:XK),Room k A->Env0 P w K mg base A outer s H->BindsTo s fd args (ps.zip us)->Vals vs us->sp vs H Q E ->
  codeAny (model P w) A (.call (.ref f) args) (CR CX outer P w H s Q E) s
def FnOk.imp{P}{w}{K}{mg}{base}{CX}{k}{f}{fd}{ps}{sp a}(F:FnOk P w K mg base CX k f fd ps sp)
  (h:∀ vs H Q E,a vs H Q E->sp vs H Q E):FnOk P w K mg base CX k f fd ps a:=
 ⟨λvs H Q E q=>F.len vs H Q E<|h _ _ _ _ q,λA outer s H b c vs Q E d e g i j=>F.run A outer s H b c vs Q E d e g i<|h _ _ _ _ j⟩
def Env0.make{P}{w}{K}{mg}{base}{A}{outer}{s}{H}(e:Env0 P w K mg base A outer s H)(C)(us)(kw):
  Env0 P w K mg base (A.under<|.builtin "type.__call__" ⟨.ref C::us,kw⟩) outer s H:=⟨by first | exact e.frames | (simpa [Around.under,Code.envs,Code.isFrame,pushEnvs] using e.frames),e.mod,e.bs,e.bsz,e.funs,e.frf,e.hok,e.bare⟩
section
variable {X:Cx}{pins:List (Addr×Obj)}{σ:St}{H:Hp}{s s':Shared}
def Inv.env0(I:Inv X pins σ H s):Env0 X.prog X.w X.K X.mg X.base X.A X.stack s H:=
 ⟨I.ok.frames,I.ok.mod,I.bs,N6 I.ok.bsz I.sz,I.stack,I.stkFree,I.hok,I.bare⟩
def Inv.after(I:Inv X pins σ H s)(h:CE X.stack X.prog X.w H s Q u s'):EP X pins σ Q u s':=by
 obtain⟨v,c,os,bare,un,hok,r,q⟩:=h;obtain⟨e,g,d,t,a⟩:=s';obtain rfl:a=s.os:=os;exact⟨v,c,I.call un hok bare<|λb z=>absurd z<|by simp,r,q⟩
end
def Qt(sp:Sp)(dvs:List V)(E:XK)(t:TA):TE:=λσ H Q=>t σ H λvs H1=>sp (vs++dvs) H1 Q E
def jdt(C:Addr)(m:Str)(sp:Sp)(dvs:List V)(E:XK)(ta:TE)(t:TA):TE:=λσ H Q=>ta σ H λx H1=>∃ a dx fs,x=.ref a/\H1 a=some (.ins C dx fs)/\fs.lookup m=none /\
 t σ H1 λvs H2=>sp (x::(vs++dvs)) H2 Q E
def jie(C:Addr)(sp:Sp)(dvs:List V)(E:XK)(t:TA):TE:=λσ H Q=>t σ H λvs H1=>∀ x dx,H1 x=none->H1 dx=none->dx≠x ->
 sp (.ref x::(vs++dvs)) (upd (upd H1 dx<|.own x) x<|.ins C dx []) (λv H2=>v=.non/\Q (.ref x) H2) E
def Binds(K:W5)(fd:FuncData)(ps:List Str)(ds:List Value):Prop:=
 ∀ s us,K.In s.heap->(us++ds).length=ps.length->BindsTo s fd ⟨us,[]⟩ (ps.zip<|us++ds)
def Binds.all{K}{fd}{ps}(h:∀ us:List Value,us.length=ps.length->bindArgs fd ⟨us,[]⟩=pure (ps.zip us)):Binds K fd ps []:=λs us _ a=>by
 rw[M9] at a ⊢;exact .of_eq<|h us a
def Ko(CX:CXT)(X:Cx)(E:XK):Prop:=∀ pins (σ:St) H s e s',Inv X pins σ H s->CX X.stack H s E e s'->X.xe e s'
section
variable {X:Cx}{CX:CXT}{k:Nat}{f C:Addr}{fd:FuncData}{ps:List Str}{sp:Sp}{dvs:List V}{ds:List Value}{E:XK}{x m:Str}{p pos apos:Pos}{e o:Expr}{es:List Expr}{ta:TE}{t:TA}
def jgj(F:FnOk X.prog X.w X.K X.mg X.base CX k f fd ps sp)(b:Room k X.A)(c:Binds X.K fd ps ds)(hd:Vals dvs ds)(d:Ko CX X E)
  (I:Inv X pins σ H s) (r:Vals vs us) (h:sp (vs++dvs) H Q E):wpAny (model X.prog X.w) X.A (call (.ref f) us) (EP X pins σ Q) X.xe s:=by
 have r2:=r.append hd;have g:(us++ds).length=ps.length:=by rw[<- r2.length];exact F.len _ _ _ _ h
 refine wpAny_call<|codeAny_mono (F.run X.A X.stack s H ⟨us,[]⟩ (us++ds) (vs++dvs) Q E b I.env0 (c s us I.kIn g) r2 h) λr i a=>?_;cases r with
 | error e=>exact d pins σ H s e i I a
 | ok j=>
  cases j with
  | ret u=>exact I.after a
  | next=>exact False.elim a
  | brk=>exact False.elim a
  | cont=>exact False.elim a
abbrev BkE(X:Cx)(p:Pos)(l:List Expr):Prop:=(backTo p<|starEach l X.env).any (·.1)=false
def jjp(F:FnOk X.prog X.w X.K X.mg X.base CX k f fd ps sp)(g:Room k X.A)(i:Gl X x)(j:X.mg x=some (.ref f))(l:PySem.W.keepIn X.K (.ref f)=true)(m:Binds X.K fd ps ds)(hd:Vals dvs ds)(n:Ko CX X E)
  (o:PA X (e::es) t) (b:Nd x:=by decide) (u:SEq X e es:=by rfl) (c:BkE X pos es:=by rfl):
  PE X (.Call (.Name x p) (e::es) [] pos) (Qt sp dvs E t):=by
 intro a s σ H Q I h;exact wpAny_Call_Name_kw<|jbP I i j (PySem.W.callWith_K I.ok.mod.kin l (thn (o pos a s σ H _ I h) λv s1 ⟨vs,y,d,r,q⟩=>⟨d.kIn,(jgj F g m hd n d r q)⟩) u c) b
def jcg(p:PE X o ta)(c:Cls X.K C)(i:Meth X.K C m f)(F:FnOk X.prog X.w X.K X.mg X.base CX k f fd ps sp)(v:Room k X.A)(y:Binds X.K fd ps ds)(hd:Vals dvs ds)(z:Ko CX X E)(B:PA X (e::es) t)
  (d:SEq X e es:=by rfl) (g:BkE X pos es:=by rfl)
  (D:eval (.Call (.Attribute o m apos) (e::es) [] pos) X.env=(do
   let ov <- eval o X.env
   standAt apos.atName
   let (f,first) <- holding [ov] (getMethod ov m pl)
   callWith pos f first (backTo pos<|starEach (e::es) X.env) (backToKw pos<|keywordEach [] X.env)):=by rfl):
  PE X (.Call (.Attribute o m apos) (e::es) [] pos) (jdt C m sp dvs E ta t):=by
 intro b s σ H Q I h;refine PySem.W.methodCall_KW (thn (p b s σ H _ I h) λu s1 G=>?_) D;obtain⟨x,J,j,L,a,O,fs,ex,M,l,q⟩:=G;subst ex;obtain rfl:u=Value.ref a:=L;exact jbB j M c i l<|PySem.W.callWith_K I.ok.mod.kin i.kp (thn (B pos b s1 σ J _ j q) λP s2 ⟨vs,R,n,r,N⟩=>⟨n.kIn,(jgj (vs:=.ref a::vs) F v y hd z n (.cons rfl r) N)⟩) d g
structure Mk(K:W5)(C f:Addr):Prop where
 makes:PySem.W.makesIn K C=true
 init:PySem.W.findIn K (.ref C) "__init__" = some (some<|.ref f)
 fn:PySem.W.isFn K (.ref f)=true
 kp:PySem.W.keepIn K (.ref C)=true
def jfM(M:Mk X.K C f)(F:FnOk X.prog X.w X.K X.mg X.base CX k f fd ps sp)(d:Room (k+1) X.A)(g:Binds X.K fd ps ds)(hd:Vals dvs ds)
  (i:Ko CX X E) (I:Inv X pins σ H s) (r:Vals vs us)
  (h:∀ x dx,H x=none->H dx=none->dx≠x->sp (.ref x::(vs++dvs)) (upd (upd H dx<|.own x) x<|.ins C dx []) (λv H2=>v=.non/\Q (.ref x) H2) E):
  wpAny (model X.prog X.w) X.A (call (.ref C) us) (EP X pins σ Q) X.xe s:=by
 have c:=h (↥s+1) ↥s (I.hok.fresh<|Nat.le_succ _) (I.hok.fresh<|M8 _) (N5<|Nat.lt_succ_self _);have b:=Inv.made (C:=C) I;have r2:Vals (V.ref (↥s+1)::(vs++dvs)) (Value.ref (↥s+1)::(us++ds)):=.cons rfl<|r.append hd;have j:(Value.ref (↥s+1)::us++ds).length=ps.length:=by
  have e:=r2.length;rw[F.len _ _ _ _ c] at e;exact e.symm
 refine wpAny_call<|jfa I.kIn M.makes M.init (beq_iff_eq.mp M.fn)<|codeAny_mono (F.run _ X.stack _ _ ⟨Value.ref (↥s+1)::us,[]⟩ (Value.ref (↥s+1)::(us++ds)) _ _ E (d.make C us [])
  (b.env0.make C us []) (g _ (Value.ref (↥s+1)::us) b.kIn j) r2 c) λr l a=>?_
 cases r with
 | error e=>exact i pins σ _ _ e l b a
 | ok m=>
  cases m with
  | ret u=>
   obtain⟨v,n,o,p,q,t⟩:=b.after a;subst q;exact⟨p,⟨V.ref<|↥s+1,n,o,rfl,t⟩⟩
  | next=>exact False.elim a
  | brk=>exact False.elim a
  | cont=>exact False.elim a
def jhg(M:Mk X.K C f)(F:FnOk X.prog X.w X.K X.mg X.base CX k f fd ps sp)(g:Room (k+1) X.A)(i:Gl X x)(j:X.mg x=some (.ref C))(l:Binds X.K fd ps ds)(hd:Vals dvs ds)(m:Ko CX X E)
  (n:PA X (e::es) t) (b:Nd x:=by decide) (o:SEq X e es:=by rfl) (c:BkE X pos es:=by rfl):
  PE X (.Call (.Name x p) (e::es) [] pos) (jie C sp dvs E t):=by
 intro a s σ H Q I h;exact wpAny_Call_Name_kw<|jbP I i j (PySem.W.callWith_K I.ok.mod.kin M.kp (thn (n pos a s σ H _ I h) λu s1 ⟨vs,v,d,r,q⟩=>⟨d.kIn,(jfM M F g l hd m d r q)⟩) o c) b
end
def PK(X:Cx)(kws:List Keyword)(t:TA):Prop:=
 ∀ pos pins s (σ:St) H (Q:List V->Hp->Prop),Inv X pins σ H s->t σ H Q->wpAny (model X.prog X.w) X.A (evalAll ((backToKw pos<|keywordEach kws X.env).map (·.2))) (AP X pins σ Q) X.xe s
structure FnScope(N P:List Str)(sc:Scope):Prop where
 kind:sc.kind=.function
 co:sc.isCoroutine=false
 gen:sc.isGenerator=false
 nd:N.Nodup
 pre:N.take P.length=P
 par:∀ x∈P,sc.names.lookup x=some .local\/sc.names.lookup x=some .cell
 nofree:∀ y∈sc.names,y.2≠.free
theorem xf{kindOf}  : ∀{binds}{m},(∀ v,(x,v)∉binds)->bindL kindOf binds m x=m x
 | [],_,_=>rfl
 | (n,v)::r,m,h=>by
  unfold bindL;rw[xf λw a=>h w<|L6 _ a];split
  ·have:x≠n:=by rintro rfl;exact h v L7
   simp[this]
  ·rfl
theorem zJ{kindOf}  : ∀{binds}{m},(∀ v,(x,v)∉binds)->bindC kindOf binds m x=m x
 | [],_,_=>rfl
 | (n,v)::r,m,h=>by
  unfold bindC;rw[zJ λw a=>h w<|L6 _ a];split
  ·rfl
  ·have:x≠n:=by rintro rfl;exact h v L7
   simp[this]
theorem Q6{kindOf}  : ∀{P:List Str}{vs}{i:Nat}{m},P.Nodup->P[i]?=some x->vs[i]?=some v->kindOf x=some .local ->
  bindL kindOf (P.zip vs) m x=some v
 | [],_,_,_,_,h,_,_=>by simp at h
 | _::_,[],_,_,_,_,h,_=>by simp at h
 | p::P,w::vs,0,m,nd,a,b,c=>by
  simp at a b;subst a;subst b;show bindL kindOf ((p,w)::P.zip vs) m p=_;unfold bindL;rw[xf λv d=>(List.nodup_cons.mp nd).1 (List.of_mem_zip d).1,if_pos c];simp
 | p::P,w::vs,i+1,m,nd,a,b,c=>by
  unfold bindL;exact Q6 (List.nodup_cons.mp nd).2 ⇑a ⇑b c
theorem zT{kindOf}  : ∀{P:List Str}{vs}{i:Nat}{m},P.Nodup->P[i]?=some x->vs[i]?=some v->kindOf x≠some .local ->
  bindC kindOf (P.zip vs) m x=some v
 | [],_,_,_,_,h,_,_=>by simp at h
 | _::_,[],_,_,_,_,h,_=>by simp at h
 | p::P,w::vs,0,m,nd,a,b,c=>by
  simp at a b;subst a;subst b;show bindC kindOf ((p,w)::P.zip vs) m p=_;unfold bindC;rw[zJ λv d=>(List.nodup_cons.mp nd).1 (List.of_mem_zip d).1,if_neg c];simp
 | p::P,w::vs,i+1,m,nd,a,b,c=>by
  unfold bindC;exact zT (List.nodup_cons.mp nd).2 ⇑a ⇑b c
noncomputable def start(N:List Str)(vs:List V):St:=vs.map some++List.replicate (N.length-vs.length) none
noncomputable def jcX(CX:CXT)(P:Program)(w:World)(K:W5)(mg:W7)(base:Heap)(N:List Str)(qual:Str)(scope:Scope)(f:Addr)(cd:Value)(A:Around)(outer:List Env)(s:Shared)(H:Hp)(E:XK):Cx where
 prog:=P
 w:=w
 K:=K
 mg:=mg
 base:=base
 A:=A.deeper (envOfC qual scope ↥s f cd)
 N:=N
 s₀:=s
 H₀:=H
 env:=envOfC qual scope ↥s f cd
 outer:=outer
 stack:=envOfC qual scope ↥s f cd::outer
 ex:=[]
 calm:=true
 fn:=λ_=>true
 pn:=[]
 xe:=λe s'=>wpAny (model P w) (A.deeper<|envOfC qual scope ↥s f cd) (leaving (envOfC qual scope ↥s f cd) e) (λ_ s''=>CX outer H s E e s'') (λe' s''=>CX outer H s E e' s'') s'
def uy{sc:Scope}{n}(h:sc.names.lookup x=some .cell):∃ c,(cellsFrom n sc.names []).lookup x=some c:=by
 exact Option.isSome_iff_exists.mp<|PySem.W.cellsFrom_some sc.names n []<|.inl h
def jck{CX}{P}{w}{K}{mg}{base}{N ps}{qual}{scope}{f}{cd}{A}{outer}{s s1}{H}{E}{us}{vs}
  (S:FnScope N ps scope) (hd:A.handled=none) (g:Env0 P w K mg base A outer s H) (G:vs.length=ps.length) (r:Vals vs us)
  (x:InCallC s ↥s (bindL (envOfC qual scope ↥s f cd).kindOf (ps.zip us) λ_=>none) (cellsFrom (↥s+1) scope.names []) (bindC (envOfC qual scope ↥s f cd).kindOf (ps.zip us) λ_=>none) s1):
  Inv (jcX CX P w K mg base N qual scope f cd A outer s H E) [] (start N vs) H s1:=by
 have C:ps.length<=N.length:=by have:=congrArg List.length S.pre;rw[X6] at this;lia
 obtain⟨o,I,rfl,t⟩:=x.done;have j:∀ b:Addr,b∉(jcX CX P w K mg base N qual scope f cd A outer s H E).ex:=λb z=>absurd (show b∈([]:W6) from z) (by simp);refine⟨⟨g.mod,S.kind,rfl,rfl,M8 _,λy z c o d=>?_,λy l=>?_,λy c _ h=>?_,λ_=>hd,Around.frames_deeper g.frames,.inr ⟨rfl,rfl⟩,λb z=>absurd z<|j b,g.bs,g.bsz,λb _ _=>j b,λb z=>absurd z<|j b,g.funs,g.frf⟩,
  rfl,g.bare,Un.kept t,⟨_,x.toInCall.ns,λi y v o d J=>?_⟩,λy c h=>⟨_,x.cell y c h⟩,g.hok.fresh<|M8 _,λy c h=>?_,λp m=>absurd (show p∈([]:W0) from m)<|by simp,g.hok.kept t,?_⟩
 ·exact name_of_addr x.apart (PySem.mem_of_lookup o)<|PySem.mem_of_lookup d
 ·have l:=l;rcases l with l | l
  ·exact uy l
  ·exact absurd rfl<|S.nofree _<|PySem.mem_of_lookup l
 ·exact Nat.le_of_lt<|x.above y c<|PySem.mem_of_lookup h
 ·have hi:i<vs.length:=by
   unfold start at d;by_cases hi:i<vs.length
   ·exact hi
   ·rw[List.getElem?_append_right ⇑hi,List.getElem?_replicate] at d;split at d<;>cases d
  have D:vs[i]?=some v:=by
   unfold start at d;rw[List.getElem?_append_left ⇑hi,List.getElem?_map] at d;cases e:vs[i]? with
   | none=>rw[e] at d;cases d
   | some a=>rw[e] at d;cases d;rfl
  obtain⟨u,B,F⟩:=r.get D;have m:ps[i]?=some y:=by
   rw[<- S.pre,List.getElem?_take_of_lt ∅];exact o
  have n:ps.Nodup:=by rw[<- S.pre];exact S.nd.sublist<|List.take_sublist _ _
  refine⟨u,F,?_⟩;rcases S.par y (List.mem_of_getElem? m) with k | k
  ·exact .inl ⟨k,Q6 n m B k⟩
  ·obtain⟨c,e⟩:=uy k;refine .inr ⟨.inl k,c,e,?_⟩;have q:=x.cell y c e;rw[zT n m B<|by show scope.names.lookup y≠_;rw[k];decide] at q;exact q
 ·exact g.hok.fresh<|Nat.le_of_lt<|x.above y c<|PySem.mem_of_lookup h
 ·unfold start;show _=N.length;rw[N3,L1,List.length_replicate]
  lia
def jn8{CX}{P}{w}{K}{mg}{base}{k}{f}{name qual}{params}{body}{scope}{F kV h pm a ct oc}{an od}
  {p:Array (Option Value)}{N ps:List Str}{sp:Sp}(M:K.lookup f=some ⟨oc,od,.func<|PySem.W.fnOf name qual params body scope F kV h pm an a ct,p⟩) (z:PySem.W.codeIn K a qual=true) (S:FnScope N ps scope)
  (len:∀ vs H Q E,sp vs H Q E->vs.length=ps.length)
  (c:∀ A outer s H vs Q E,Room k (A.deeper<|envOfC qual scope ↥s f a)->sp vs H Q E ->
   ∃ t,PSs (jcX CX P w K mg base N qual scope f a A outer s H E) body t/\t {nx:=λ_ H'=>Q .non H',rt:=Q} (start N vs) H):
  FnOk P w K mg base CX (k+1) f (PySem.W.fnOf name qual params body scope F kV h pm an a ct) ps sp:=by
 refine⟨len,λA outer s H G O vs Q E B i R r j=>?_⟩;have L:=i.mod.kin.keeps λb o e=>(i.bs b o e).1;have d:∀ y∈ps.zip O,scope.names.lookup y.1=some .local\/(scope.names.lookup y.1=some .cell/\((cellsFrom (↥s+1) scope.names []).lookup y.1).isSome=true):=λ⟨n,v⟩ T=>by
  rcases S.par n (List.of_mem_zip T).1 with q | q
  ·exact .inl q
  ·exact .inr ⟨q,PySem.W.cellsFrom_some _ _ _<|.inl q⟩
 refine codeAny_call_function B.depth (L _ _ M) rfl S.co S.gen rfl (PySem.W.codeRec_of L z)<|R _ _ _ _<|wpAny_newFunctionEnv_cells S.kind d λenv U s1 x=>?_;subst U;refine⟨(i.mod.nolimit.keeps λb o e=>(i.bs b o e).1).keeps x.toInCall.keep,codeAny_func ?_⟩;obtain⟨t,X,Y⟩:=c A outer s H vs Q E (B.deeper _) j;have I:Inv (jcX CX P w K mg base N qual scope f a A outer s H E) [] (start N vs) H s1:=jck S B.hd i (len _ _ _ _ j) r x;refine wpAny_mono (X [] s1 (start N vs) H _ I Y) (λZ C g=>?_) λe C g=>g;have l:∀{m}{H'}{v}{u},Inv (jcX CX P w K mg base N qual scope f a A outer s H E) [] m H' C->RelV v u->Q v H'->CE outer P w H s Q u C:=
  λ{m H' v u} J D q=>⟨v,H',J.os,J.bare,J.base,J.hok,D,q⟩
 cases Z with
 | ret u=>
  obtain⟨v,m,H',J,D,q⟩:=g;exact l J D q
 | next=>
  obtain⟨m,H',J,q⟩:=g;exact l (v:=V.non) J rfl q
 | brk=>
  obtain⟨_,_,_,q⟩:=g;exact False.elim q
 | cont=>
  obtain⟨_,_,_,q⟩:=g;exact False.elim q
section
variable {X:Cx}{x:Str}{p pos:Pos}{e:Expr}{es:List Expr}{t:TA}{id T:String}{r:List V->Hp->VK->Prop}
def tCB(r:List V->Hp->VK->Prop)(t:TA):TE:=λσ H Q=>t σ H λvs H1=>r vs H1 Q
def YW(d:kD X (.builtin id) r)(f:Gl X x)(g:X.mg x=none)(i:bootBuiltins x=some (.builtin id))(j:PA X (e::es) t)(k:x≠"__name__":=by decide)(b:Nd x:=by decide)
  (l:SEq X e es:=by rfl) (c:BkE X pos es:=by rfl):PE X (.Call (.Name x p) (e::es) [] pos) (tCB r t):=by
 intro a s σ H Q I h;exact wpAny_Call_Name_kw<|JV I f g i (PyProof.Rows.callWith_builtin1 (thn (j pos a s σ H _ I h) λm s1 ⟨vs,n,o,r1,q⟩=>d a s1 σ n vs m Q o r1 q) l c) k b
def xB(d:kD X (.type T) r)(f:Gl X x)(g:X.mg x=none)(i:bootBuiltins x=some (.type T))(j:PA X (e::es) t)(k:x≠"__name__":=by decide)(b:Nd x:=by decide)
  (l:SEq X e es:=by rfl) (c:BkE X pos es:=by rfl):PE X (.Call (.Name x p) (e::es) [] pos) (tCB r t):=by
 intro a s σ H Q I h;exact wpAny_Call_Name_kw<|JV I f g i (PyProof.Rows.callWith_type1 (thn (j pos a s σ H _ I h) λm s1 ⟨vs,n,o,r1,q⟩=>d a s1 σ n vs m Q o r1 q) l c) k b
end
end L2
namespace HT
open PySem PyProof.Rows
section
open PySem.SeqAt
open PySem.AutoSeq1 (wpAny_loadPart')
open PySem.MeetsSeq PySem.MeetsSeq2 PySem.MeetsSeq3
end
section
variable {prog:Program}{w:World}{A:Around}{E:J0}{s:Shared}
def cat_tup(p:IsTup s.heap t vs.toArray)(q:IsTup s.heap b ws.toArray)(k:vs≠[])
  (h1:ws=[]->Q (.ref t) s) (h2:ws≠[]->Q (.ref ↥s) { s with heap:=s.heap.push {cls:=.type "tuple",data:=.seq (vs++ws).toArray} })
  (hsz:vs.length+ws.length<=sizeLine):wpAny (model prog w) A (binaryOp .Add (.ref t)<|.ref b) Q E s:=by
 obtain⟨⟨cls,l,data,sl⟩,f,r,n,hd⟩:=id p;obtain⟨⟨m,c,h,d⟩,a,i,o,j⟩:=id q;subst r hd i j;have e:vs.toArray++ws.toArray=(vs++ws).toArray:=by simp
 by_cases g:ws=[]
 ·exact concat_meets ⟨_,f,rfl⟩ ⟨_,a,rfl⟩ noFill_tuple_add seq_tuple_add PySem.F.slot_tuple_add PySem.F.entry_tuple_add (PySem.F.args_tuple_add_2 _ _)
   (tuple_addW1 t b vs.toArray ws.toArray n o l c sl d ⇑k (by simp[g])) ⟨f,a,h1 g⟩
 ·refine concat_meets ⟨_,f,rfl⟩ ⟨_,a,rfl⟩ noFill_tuple_add seq_tuple_add PySem.F.slot_tuple_add PySem.F.entry_tuple_add (PySem.F.args_tuple_add_2 _ _)
   (tuple_addW2 t b vs.toArray ws.toArray n o l c sl d ⇑k ⇑g (by rw[N2,N2];exact hsz)) ⟨f,a,?_⟩
  rw[e];exact h2 g
noncomputable def sIx(n d:Nat):Option Int->Nat
 | none=>d
 | some v=>if v<0 then(v+(n:Int)).toNat else min v.toNat n
def sIx_none(n d):sIx n d none=d:=rfl
def sIx_nat(n d k:Nat):sIx n d (some (k:Int))=min k n:=by
 show(if k<0 then(k+(n:Int)).toNat else min (k:Int).toNat n)=min k n;rw[if_neg ∅,N7]
def sIx_le(n d)(hd:d<=n)(o):sIx n d o<=n:=by
 cases o with
 | none=>exact hd
 | some v=>
  show(if v<0 then(v+n).toNat else min v.toNat n)<=n;by_cases a:v<0
  ·rw[if_pos a];lia
  ·rw[if_neg a];exact Nat.min_le_right _ _
def jdV(v)(n d:Nat):(if v<0 then max (v+(n:Int)) 0 else min v (n:Int))=((sIx n d (some v):Nat):Int):=by
 show(if v<0 then max (v+n) 0 else min v n)=(((if v<0 then(v+n).toNat else min v.toNat n):Nat):Int);by_cases a:v<0
 ·simp only[if_pos a];lia
 ·simp only[if_neg a];lia
def jbk(lo hi)(n:Nat):Builtin.Slice.sliceAdjust lo hi 1 (n:Int)=(((sIx n 0 lo:Nat):Int),((sIx n n hi:Nat):Int)):=by
 refine Prod.ext ?_ ?_
 ·cases lo with
  | none=>rfl
  | some v=>exact jdV v n 0
 ·cases hi with
  | none=>rfl
  | some v=>exact jdV v n n
def ja3(i j:Nat):Builtin.Slice.slicePlaces (i:Int) (j:Int) 1=j-i:=by
 unfold Builtin.Slice.slicePlaces;split<;>lia
def Kl(p:IsPart v o)(h:Q o s):wpAny (model prog w) A (Builtin.Slice.slicePartIndex v) Q E s:=by
 cases p with
 | none=>exact slicePart_none h
 | int i t=>exact slicePart_int h
def YT{lo hi}{n}{Q:Int×Int×Nat->Shared->Prop}(c:s.heap.IsSliceOf sl vl vu .none)(pl:IsPart vl lo)(d:IsPart vu hi)
  (h:Q (((sIx n 0 lo:Nat):Int),1,sIx n n hi-sIx n 0 lo) s):wpAny (model prog w) A (Builtin.Slice.sliceApplied (.ref sl)<|pure (n:Int)) Q E s:=by
 obtain⟨os,a,e,b⟩:=id c;refine L3<|L3<|U5 a b rfl<|L3<|U5 a b rfl<|L3<|U5 a b rfl<|M6<|L3<|slicePart_none<|L3<|Kl pl<|L3<|Kl d<|L3<|M6 ?_;show wpAny _ _ (match Builtin.Slice.sliceAdjust lo hi 1 n with | (lo,hi)=>pure (lo,(1:Int),Builtin.Slice.slicePlaces lo hi 1)) _ _ s;rw[jbk lo hi n];show wpAny _ _ (pure (((sIx n 0 lo:Nat):Int),1,Builtin.Slice.slicePlaces ((sIx n 0 lo:Nat):Int) ((sIx n n hi:Nat):Int) 1)) _ _ s;rw[ja3];exact M6 h
def jfD(xs:Array Value)(i k:Nat):((List.range k).filterMap λ(m:Nat)=>xs[((i:Int)+(m:Int)*1).toNat]?).toArray=((xs.toList.drop i).take k).toArray:=by
 have e:(λ(m:Nat)=>xs[(i+(m:Int)*1).toNat]?)=λm=>xs[i+m]?:=by
  funext m
  have:(i+(m:Int)*1).toNat=i+m:=by lia
  rw[this]
 rw[e];have:=pick_run xs i k;rw[List.filterMap_map] at this;have e2:((λx=>xs[x]?) ∘ λx=>i+x)=λm=>xs[i+m]?:=rfl;rw[e2] at this;rw[this]
def getItem_tuple_cut{items}{lo hi}{Q}(b:IsTup s.heap t items)(g:s.heap.IsSliceOf sl vl vu .none)(pl:IsPart vl lo)(i:IsPart vu hi)
  (j:¬ (sIx items.size 0 lo=0/\sIx items.size items.size hi=items.size))
  (h:Q (.ref ↥s) { s with heap:=s.heap.push {cls:=.type "tuple",data:=.seq ((items.toList.drop<|sIx items.size 0 lo).take (sIx items.size items.size hi-sIx items.size 0 lo)).toArray} })
  (hsz:items.size<=sizeLine):wpAny (model prog w) A (getItem (.ref t)<|.ref sl) Q E s:=by
 have a:sizeOk (.seq ((items.toList.drop<|sIx items.size 0 lo).take (sIx items.size items.size hi-sIx items.size 0 lo)).toArray):=by
  show((items.toList.drop<|sIx items.size 0 lo).take (sIx items.size items.size hi-sIx items.size 0 lo)).toArray.size<=sizeLine;rw[N2,X6,List.length_drop,Array.length_toList]
  lia
 obtain⟨os,c,d,k⟩:=id g;have e:s.TypeIs (.ref sl) "slice":=⟨os,c,d⟩;unfold getItem
 try with_reducible refine wpAny_holding ?_
 first | refine L3 (M6 ?_) | skip
 refine L3<|wpAny_sequenceKey b.typeIs (by decide) ?_;refine L3<|wpAny_callSpecial?_slot b.typeIs PyProof.Rows.slot_tuple_getitem<|wpAny_call_entry PyProof.Rows.slot_tuple_getitem b.typeIs entry_tuple_getitem ?_<|args_tuple_getitem _ _
 show wpAny _ _ (Builtin.Tuple.tupleItemsOf (.ref t) >>= _) _ _ s;refine L3<|tupleItemsOf_ b<|L3<|wpAny_typeOf e<|L3<|YT g pl i ?_;have f:¬ ((((sIx items.size 0 lo:Nat):Int)==0&&(1:Int)==1&&(sIx items.size items.size hi-sIx items.size 0 lo)==items.size)=true):=by
  intro q;rw[M0,M0] at q;have l:=eq_of_beq q.1.1;have m:=eq_of_beq q.2;exact j ⟨by lia,by lia⟩
 show wpAny _ _ (if(((sIx items.size 0 lo:Nat):Int)==0&&1==1&&(sIx items.size items.size hi-sIx items.size 0 lo)==items.size)=true then _ else _) _ _ s;rw[if_neg f,jfD]
 first
  | exact L3 (wpAny_newObj_type (M6 ⟨_,rfl,M6 h⟩) a)
  | exact L3 (wpAny_newObj_type (L3 (M6 (M6 ⟨_,rfl,M6 h⟩))) a)
  | exact L3 (L3 (wpAny_newObj_type (M6 (M6 ⟨_,rfl,M6 h⟩)) a))
  | exact L3 (L3 (wpAny_newObj_type (M6 ⟨_,rfl,M6 h⟩) a))
end
end HT
namespace L2
open PySem PySem.Spec PyProof.Rows
abbrev TO:=St->Hp->(Option Int->Hp->Prop)->Prop
def PO(X:Cx)(e:Option Expr)(t:TO):Prop:=
 ∀ pins s (σ:St) H (Q:Option Int->Hp->Prop),Inv X pins σ H s->t σ H Q ->
  wpAny (model X.prog X.w) X.A (evalPart e X.env) (λu s'=>∃ o H',Inv X pins σ H' s'/\IsPart u o/\Q o H') X.xe s
def x9:TO:=λ_ H Q=>Q none H
def jiy(t:TE):TO:=λσ H Q=>t σ H λx H1=>∃ i,x=.int i/\Q (some i) H1
def jbh:∀{us},Vals (ns.map V.int) us->IntsAre us ns:=by
 induction ns with
 | nil=>intro us r;rw[List.map_nil] at r;cases r;exact .nil
 | cons n ns a=>
  intro us r;cases r with
  | cons r1 r2=>
   obtain⟨t,e⟩:=r1;subst e;exact .cons n t<|a r2
section
variable {X:Cx}{e:Expr}{te:TE}{lo hi:Option Expr}{tl th:TO}{pos p2:Pos}
def jhA:PO X none x9:=by
 intro a s σ H Q I h;exact M6 ⟨none,H,I,.none,h⟩
def jjL(h:PE X e te):PO X (some e) (jiy te):=by
 intro a s σ H Q I b;refine thn (h a s σ H _ I b) λu s1 c=>?_;obtain⟨x,d,f,r1,g⟩:=c;obtain⟨i,rfl,q⟩:=g;obtain⟨t,rfl⟩:=r1;exact⟨some i,d,f,.int i t,q⟩
def SlR(X:Cx)(r:V->Option Int->Option Int->Hp->VK->Prop):Prop:=
 ∀ pins s (σ:St) H x v vl vu lo hi sl Q,Inv X pins σ H s->RelV x v->s.heap.IsSliceOf sl vl vu .none->IsPart vl lo->IsPart vu hi->r x lo hi H Q ->
  ∃ T id,typeLookup (.type T) "__getitem__" = pure (some<|.builtin id)/\s.TypeIs v T/\wpAny (model X.prog X.w) X.A (getItem v<|.ref sl) (EP X pins σ Q) X.xe s
def SlR.or(h:SlR X r)(h':SlR X r'):SlR X (λx lo hi H Q=>r x lo hi H Q\/r' x lo hi H Q):=by
 intro a s σ H x v b c lo hi sl Q I d e pl f q;rcases q with q | q
 ·exact h a s σ H x v b c lo hi sl Q I d e pl f q
 ·exact h' a s σ H x v b c lo hi sl Q I d e pl f q
def tSl(r:V->Option Int->Option Int->Hp->VK->Prop)(te:TE)(tl th:TO):TE:=λσ H Q=>te σ H λx H1=>tl σ H1 λl H2=>th σ H2 λu H3=>r x l u H3 Q
def je8{r}(j:SlR X r)(k:PE X e te)(m:PO X lo tl)(n:PO X hi th):PE X (.Subscript e (.Slice lo hi none p2) pos) (tSl r te tl th):=by
 intro a s σ H Q I h;refine Subscript_<|thn (k a s σ H _ I h) λv s1 d=>?_;obtain⟨x,o,p,r1,t⟩:=d;refine wpAny_Slice<|thn (m a s1 σ o _ p t) λf s2 ⟨l,w,y,pl,z⟩=>thn (n a s2 σ w _ y z) λg c d=>?_;obtain⟨u,i,A,B,C⟩:=d;refine M6 ?_;have D:Inv X a σ i { c with heap:=c.heap.push {cls:=.type "slice",data:=.fields #[f,g,.none]} }:=A.kept λb ob q=>L8 _ q;obtain⟨T,id,E,F,G⟩:=j a { c with heap:=c.heap.push {cls:=.type "slice",data:=.fields #[f,g,.none]} } σ i x v f g l u ↥c Q D r1 (Heap.IsSliceOf.new ..) pl B C;exact tail_any F E G (by with_unfolding_all rfl)
def jkb(xs:List V)(lo hi:Option Int):List V:=(xs.drop<|HT.sIx xs.length 0 lo).take (HT.sIx xs.length xs.length hi-HT.sIx xs.length 0 lo)
def Vo(xs)(lo hi):(jkb xs lo hi).length<=xs.length:=by
 unfold jkb;rw[X6,List.length_drop]
 lia
def jpj(K:W5):V->Option Int->Option Int->Hp->VK->Prop:=λx lo hi H Q=>∃ a xs,x=.ref a/\SqT K H a xs /\
 ¬ (HT.sIx xs.length 0 lo=0/\HT.sIx xs.length xs.length hi=xs.length)/\∀ p,H p=none->Q (.ref p) (upd H p<|.tup<|jkb xs lo hi)
def jmD:SlR X (jpj X.K):=by
 intro f s σ H x v o p lo hi sl Q I j k pl l h;obtain⟨a,d,rfl,m,n,q⟩:=h;cases j;obtain⟨e,r,g,i⟩:=I.tuple m;have c:e.toArray.size=d.length:=by rw[N2];exact r.length.symm
 refine⟨"tuple",_,PyProof.Rows.slot_tuple_getitem.lookup,g.typeIs,?_⟩;refine HT.getItem_tuple_cut g k pl l (by rw[c];exact n) ?_ (by rw[c];exact i);rw[c];refine⟨.ref ↥s,_,I.laid (λb ob q=>L8 _ q) (M8 _) ?_,rfl,q _<|I.hok.fresh<|M8 _⟩;exact⟨N6 (Vo d lo hi) i,_,(r.drop<|HT.sIx d.length 0 lo).take (HT.sIx d.length d.length hi-HT.sIx d.length 0 lo),IsTupN.new _ _⟩
def jk4(K:W5):R2:=λx y H Q=>∃ a b xs ys,x=.ref a/\y=.ref b/\SqT K H a xs/\SqT K H b ys/\xs≠[]/\xs.length+ys.length<=sizeLine /\
 (ys=[]->Q (.ref a) H)/\(ys≠[]->∀ p,H p=none->Q (.ref p) (upd H p<|.tup<|xs++ys))
def Vals.nil_iff(r:Vals xs us):us=[]↔xs=[]:=by
 cases r with
 | nil=>simp
 | cons _ _=>simp
def jhP:OpR X (binaryOp .Add) (jk4 X.K):=by
 intro c s σ H x y v u Q I f g h;obtain⟨a,b,o,p,rfl,rfl,i,j,k,d,l,m⟩:=h;cases f;cases g;obtain⟨n,r1,p1,_⟩:=I.tuple i;obtain⟨e,r2,p2,_⟩:=I.tuple j;refine HT.cat_tup p1 p2 (λz=>k<|r1.nil_iff.mp z) (λz=>⟨.ref a,H,I,rfl,l<|r2.nil_iff.mp z⟩) (λz=>?_) (by rw[<- r1.length,<- r2.length];exact d);refine⟨.ref ↥s,_,I.laid (λb ob q=>L8 _ q) (M8 _) ?_,rfl,m (λw=>z<|r2.nil_iff.mpr w) _<|I.hok.fresh<|M8 _⟩;exact⟨by rw[N3];exact d,_,r1.append r2,IsTupN.new _ _⟩
end
noncomputable def ixN(n:Nat)(i:Int):Option Nat:=if 0<=i then(if i<n then some i.toNat else none) else if -(n:Int)<=i then some (i+n).toNat else none
def atI{α:Type}(xs:List α)(i:Int):Option α:=(ixN xs.length i).bind λj=>xs[j]?
def wu(h:ixN n i=some j):seqIndex? i n=some j/\j<n/\-(n:Int)<=i/\i<n:=by
 unfold ixN at h;by_cases b:0<=i
 ·rw[if_pos b] at h;by_cases a:i<n
  ·rw[if_pos a] at h;have e:=X3 h;exact⟨by rw[seqIndex_of b a,e],by lia,by lia,a⟩
  ·rw[if_neg a] at h;cases h
 ·rw[if_neg b] at h;by_cases a:-n<=i
  ·rw[if_pos a] at h;exact⟨by rw[seqIndex_neg ∅ a,X3 h],by lia,a,by lia⟩
  ·rw[if_neg a] at h;cases h
def KS(h:atI xs i=some v):∃ j,An5 (seqIndex? i xs.length=some j) (xs[j]?=some v) (j<xs.length) (-(xs.length:Int)<=i) (i<xs.length):=by
 unfold atI at h;cases e:ixN xs.length i with
 | none=>rw[e] at h;cases h
 | some j=>
  rw[e] at h;obtain⟨a,b,c,d⟩:=wu e;exact⟨j,a,h,b,c,d⟩
def wA(b:Expr):Prop:=∀ o i,subscripted b false o i=operate [o,i] (getItem o i)
def IxR(X:Cx)(r:R2):Prop:=
 ∀ value slice pins s (σ:St) H x y v u Q,Inv X pins σ H s->RelV x v->RelV y u->r x y H Q ->
  subscripted slice false v u=operate [v,u] (getItem v u)->wpAny (model X.prog X.w) X.A (subscriptTail value slice v u) (EP X pins σ Q) X.xe s
def MtR(X:Cx)(id:String)(r:V->List V->Hp->VK->Prop):Prop:=
 ∀ pins s (σ:St) H x xs v us Q,Inv X pins σ H s->RelV x v->Vals xs us->r x xs H Q ->
  wpAny (model X.prog X.w) X.A (call (.builtin id)<|v::us) (EP X pins σ Q) X.xe s
section
variable {X:Cx}{a b:Expr}{ta tb:TE}{pos:Pos}
def IxR.or(h:IxR X r)(h':IxR X r'):IxR X (λx y H Q=>r x y H Q\/r' x y H Q):=by
 intro a slice b s σ H x y v u Q I c d q e;rcases q with q | q
 ·exact h a slice b s σ H x y v u Q I c d q e
 ·exact h' a slice b s σ H x y v u Q I c d q e
def jnw(d:IxR X r)(e:PE X a ta)(f:PE X b tb)(g:wA b):PE X (.Subscript a b pos) (tOp r ta tb):=by
 intro c s σ H Q I h;exact Subscript_<|jnM e f I h λv u s2 x y i j k l q=>d a b c s2 σ i x y v u Q j k l q<|g _ _
def jmj(K:W5):R2:=λx y H Q=>∃ p xs i v,x=.ref p/\y=.int i/\SqL K H p xs/\atI xs i=some v/\Q v H
def jpu(K:W5):R2:=λx y H Q=>∃ p xs i v,x=.ref p/\y=.int i/\SqT K H p xs/\atI xs i=some v/\Q v H
def jpn:R2:=λx y H Q=>∃ z i c,x=.str z/\y=.int i/\z.length<=sizeLine/\atI z.cps.toList i=some c/\Q (.str ⟨#[c]⟩) H
def ix_list:IxR X (jmj X.K):=by
 intro d slice a s σ H x y v u Q I m n h k;obtain⟨p,F,i,z,rfl,rfl,o,A,q⟩:=h;cases m;obtain⟨t,rfl⟩:=n;obtain⟨e,r,pl,G⟩:=I.list o;obtain⟨j,c,B,J,C,D⟩:=KS A;obtain⟨w,ew,f⟩:=r.get B;have E:=r.length;have L:=Q7;have b:EP X a σ Q w s:=⟨z,H,I,f,q⟩;by_cases l:0<=i
 ·have g:i.toNat=j:=by
   rw[seqIndex_of l D] at c;exact X3 c
  exact item_listR pl.isList l ∅ (by rw[g];simpa using ew) b k
 ·have g:(i+e.toArray.size).toNat=j:=by
   rw[seqIndex_neg ∅ C] at c;rw[N2,<- E];exact X3 c
  exact subscriptTail_builtinR pl.isList.typeIs slot_list_getitem.lookup
   (wpAny_getItem_list_neg pl.isList ∅ (by rw[N2]<;>lia) ∅ (by rw[g];simpa using ew) ⟨rfl,b⟩) k
def ix_tup:IxR X (jpu X.K):=by
 intro b slice a s σ H x y v u Q I e f h g;obtain⟨p,A,i,z,rfl,rfl,k,l,q⟩:=h;cases e;obtain⟨t,rfl⟩:=f;obtain⟨m,r,pl,B⟩:=I.tuple k;obtain⟨j,n,o,C,D,E⟩:=KS l;obtain⟨w,ew,c⟩:=r.get o;have F:=Q7;have d:EP X a σ Q w s:=⟨z,H,I,c,q⟩;exact subscriptTail_builtinR pl.typeIs slot_tuple_getitem.lookup
  (getItem_tuple pl ∅ ∅ (by rw[N2,<- r.length];exact n) ⇑ew ⟨rfl,d⟩) g
def jk9:IxR X jpn:=by
 intro a slice b s σ H x y v u Q I e f h g;obtain⟨z,i,c,rfl,rfl,r,k,q⟩:=h;obtain⟨t,rfl⟩:=e;obtain⟨w,rfl⟩:=f;obtain⟨j,d,l,A,m,n⟩:=KS k;have o:z.cps.toList.length=z.length:=by simp[Str.length]
 rw[o] at d m n;have B:=Q7;exact tail_any (typeIs_str s z t) slot_str_getitem.lookup (getItem_str (by
  have p:decide (i < -(2 ^ 63:Int))=false:=X1 ∅;have e2:decide (i ≥ 2 ^ 63)=false:=X1 ∅;rw[p,e2,Bool.or_false]) (by rw[d];simpa using l) ⟨.str ⟨#[c]⟩,H,I.tok _,⟨_,rfl⟩,q⟩) g
def rIx(K:W5):R2:=λx y H Q=>jmj K x y H Q\/jpu K x y H Q\/jpn x y H Q
def jlO:IxR X (rIx X.K):=ix_list.or<|ix_tup.or jk9
def jbi(its:List Value)(n j)(u):Obj.mapSeq (·.setIfInBounds j u) {cls:=.type "list",data:=.seq its.toArray n}={cls:=.type "list",data:=.seq (its.set j u).toArray n}:=by
 simp[Obj.mapSeq]
def Inv.lst(I:Inv X pins σ H s)(h:H p=some (.lst xs)):
  Ex2 λits n=>An3 (Vals xs its) (s.heap.get? p=some {cls:=.type "list",data:=.seq its.toArray n}) (xs.length<=sizeLine):=by
 obtain⟨z,its,n,r,e⟩:=I.hok p _ h;exact⟨its,n,r,e,z⟩
def Inv.lstUpd{pins}{s}{xs ys}{its a:List Value}{n c}{f}(I:Inv X pins σ H s)(h:H p=some (.lst xs))
  (g:s.heap.get? p=some {cls:=.type "list",data:=.seq its.toArray n}) (d:f {cls:=.type "list",data:=.seq its.toArray n}={cls:=.type "list",data:=.seq a.toArray c}) (r:Vals ys a) (i:ys.length<=sizeLine) (t:Nat):
  Inv X pins σ (upd H p<|.lst ys) {s with heap:=s.heap.update p f,toks:=t}:=by
 have e:(s.heap.update p f).get? p=some {cls:=.type "list",data:=.seq a.toArray c}:=by
  rw[Heap.get?_update_self f g<|by rw[d]<;>rfl,d]
 refine I.write (by rw[h];trivial) (.inl rfl) (λb u j q=>(Heap.get?_update_other _ _<|Ne.symm j).trans q) ⟨_,e⟩ ?_;exact⟨i,a,c,r,e⟩
def jht:V->V->V->Hp->(Hp->Prop)->Prop:=λo i v H Q=>∃ p xs k j,o=.ref p/\i=.int k/\H p=some (.lst xs)/\ixN xs.length k=some j/\Q (upd H p<|.lst<|xs.set j v)
def jfp:jpg X jht:=by
 intro a s σ H o i v E F u Q I y z A h;obtain⟨p,B,k,j,rfl,rfl,g,C,q⟩:=h;cases y;obtain⟨t,rfl⟩:=z;obtain⟨b,n,r,d,D⟩:=I.lst g;obtain⟨c,G,l,m⟩:=wu C;have e:=r.length;have J:=Q7;have w:Inv X a σ (upd H p<|.lst<|B.set j v) {s with heap:=s.heap.update p (Obj.mapSeq (·.setIfInBounds j u))}:=
  I.lstUpd g d (jbi b n j u) (r.set A j) (by rw[List.length_set];exact D) s.toks
 by_cases x:0<=k
 ·have f:k.toNat=j:=by
   rw[seqIndex_of x m] at c;exact X3 c
  exact PySem.W.ki_setAt d x ∅ (by rw[N2,<- e];exact m) (by rw[f];exact⟨_,w,q⟩)
 ·have f:(k+b.toArray.size).toNat=j:=by
   rw[seqIndex_neg ∅ l] at c;rw[N2,<- e];exact X3 c
  exact PySem.W.ki_setBack d ∅ (by rw[N2,<- e];exact l) ∅ (by rw[f];exact⟨_,w,q⟩)
def zy(lo hi)(n):(sliceBounds lo hi none n).1=((HT.sIx n 0 lo:Nat):Int)/\(sliceBounds lo hi none n).2.1=((HT.sIx n n hi:Nat):Int)/\(sliceBounds lo hi none n).2.2=1:=by
 refine⟨?_,?_,rfl⟩
 ·cases lo with
  | none=>simp[sliceBounds,HT.sIx]
  | some i=>
   simp only[sliceBounds,HT.sIx,Option.getD_none,show 1>0 by decide,if_true];by_cases h:i<0
   ·simp only[h,if_true]<;>lia
   ·simp only[h,if_false]<;>lia
 ·cases hi with
  | none=>simp[sliceBounds,HT.sIx]
  | some i=>
   simp only[sliceBounds,HT.sIx,Option.getD_none,show 1>0 by decide,if_true];by_cases h:i<0
   ·simp only[h,if_true]<;>lia
   ·simp only[h,if_false]<;>lia
def Qs(its:List Value)(lo hi):slicePick its.toArray lo hi none=((its.drop<|HT.sIx its.length 0 lo).take (HT.sIx its.length its.length hi-HT.sIx its.length 0 lo)).toArray:=by
 obtain⟨a,b,c⟩:=zy lo hi its.toArray.size;unfold slicePick;rw[a,b,c];simp only[sliceRange_one,pick_run,N2]<;>rfl
def jpd(K:W5):V->Option Int->Option Int->Hp->VK->Prop:=λx lo hi H Q=>∃ a xs,x=.ref a/\SqL K H a xs/\∀ p,H p=none->Q (.ref p) (upd H p<|.lst<|jkb xs lo hi)
def jj2:SlR X (jpd X.K):=by
 intro e s σ H x v n o lo hi sl Q I g i pl j h;obtain⟨a,c,rfl,k,q⟩:=h;cases g;obtain⟨l,r,f,m⟩:=I.list k;have d:=r.length;refine⟨"list",_,slot_list_getitem.lookup,f.isList.typeIs,?_⟩;refine wpAny_getItem_list_slice f.isList i pl j .none (by simp) ?_ (by rw[N2]<;>lia);rw[Qs,<- d];refine⟨.ref ↥s,_,I.laid (λb ob q=>L8 _ q) (M8 _) ?_,rfl,q _<|I.hok.fresh<|M8 _⟩;exact⟨N6 (Vo c lo hi) m,_,0,(r.drop<|HT.sIx c.length 0 lo).take (HT.sIx c.length c.length hi-HT.sIx c.length 0 lo),X7 _ rfl⟩
noncomputable def Vk:V->Bool
 | .non=>true
 | .bl _=>true
 | .int _=>true
 | .str _=>true
 | _=>false
noncomputable def eqV:V->V->Bool
 | .non,.non=>true
 | .bl a,.bl b=>a==b
 | .bl a,.int b=>(if a then 1 else 0)==b
 | .int a,.bl b=>a==(if b then 1 else 0)
 | .int a,.int b=>a==b
 | .str a,.str b=>a==b
 | _,_=>false
def jmE(e:RelV y u)(c:RelV x v)(g:Vk y=true)(f:Vk x=true):SeqAt.EqAt A s u v (eqV y x):=by
 cases y with
 | non=>
  cases e;cases x with
  | non=>cases c;exact SeqAt.EqAt.same _
  | bl b=>cases c;exact SeqAt.EqAt.none_bool b
  | int b=>obtain⟨t,rfl⟩:=c;exact SeqAt.EqAt.none_int b t
  | str b=>obtain⟨t,rfl⟩:=c;exact SeqAt.EqAt.none_str b t
  | _=>exact absurd (f) M3
 | bl a=>
  cases e;cases x with
  | non=>cases c;exact SeqAt.EqAt.bool_none a
  | bl b=>cases c;exact SeqAt.EqAt.bool_bool a b
  | int b=>obtain⟨t,rfl⟩:=c;exact SeqAt.EqAt.bool_int a b t
  | str b=>obtain⟨t,rfl⟩:=c;exact SeqAt.EqAt.bool_str a b t
  | _=>exact absurd (f) M3
 | int a=>
  obtain⟨d,rfl⟩:=e;cases x with
  | non=>cases c;exact SeqAt.EqAt.int_none a d
  | bl b=>cases c;exact SeqAt.EqAt.int_bool a d b
  | int b=>obtain⟨t,rfl⟩:=c;exact SeqAt.EqAt.int_int a d b t
  | str b=>obtain⟨t,rfl⟩:=c;exact SeqAt.EqAt.int_str a d b t
  | _=>exact absurd (f) M3
 | str a=>
  obtain⟨d,rfl⟩:=e;cases x with
  | non=>cases c;exact SeqAt.EqAt.str_none a d
  | bl b=>cases c;exact SeqAt.EqAt.str_bool a d b
  | int b=>obtain⟨t,rfl⟩:=c;exact SeqAt.EqAt.str_int a d b t
  | str b=>obtain⟨t,rfl⟩:=c;exact SeqAt.EqAt.str_str a d b t
  | _=>exact absurd (f) M3
 | _=>exact absurd (g) M3
def eqU(x:V)(u:Value):Bool:=match u with
 | .none=>eqV .non x
 | .bool b=>eqV (.bl b) x
 | .int i _=>eqV (.int i) x
 | .str z _=>eqV (.str z) x
 | _=>false
def jgV(r:RelV y u)(f:Vk y=true):eqU x u=eqV y x:=by
 cases y with
 | non=>cases r;rfl
 | bl b=>cases r;rfl
 | int i=>obtain⟨t,rfl⟩:=r;rfl
 | str z=>obtain⟨t,rfl⟩:=r;rfl
 | _=>exact absurd (f) M3
theorem VM:∀{xs}{us},Vals xs us->xs.all Vk=true->us.any (eqU x)=xs.any λy=>eqV y x
 | _,_,.nil,_=>rfl
 | y::xs,u::us,.cons r t,f=>by
  rw[List.all_cons,M0] at f;rw[List.any_cons,List.any_cons,jgV r f.1,VM t f.2]
theorem J1(b:RelV x v)(c:Vk x=true):∀{xs}{us},Vals xs us->xs.all Vk=true->∀ u∈us,SeqAt.EqAt A s u v<|eqU x u
 | _,_,.nil,_=>λu a=>by cases a
 | y::xs,u::us,.cons r t,f=>λd a=>by
  rw[List.all_cons,M0] at f;rcases M4.mp a with rfl | a
  ·rw[jgV r f.1];exact jmE r b f.1 c
  ·exact J1 b c t f.2 d a
def inV(x:V)(xs:List V):Bool:=xs.any λy=>eqV y x
def rIn(K:W5)(neg:Bool):R2:=λx y H Q=>∃ p xs,y=.ref p/\(SqL K H p xs\/SqT K H p xs)/\Vk x=true/\xs.all Vk=true/\Q (.bl<|if neg then !inV x xs else inV x xs) H
def jcc:OpR X (compareOp .In) (rIn X.K false):=by
 intro d s σ H x y v u Q I e g h;obtain⟨p,j,rfl,b,f,fs,q⟩:=h;cases g;rcases b with b | b
 ·obtain⟨a,r,pl,i⟩:=I.list b;refine SeqAt.in_listAt (eqU x) pl.isList (λw c=>J1 e f r fs w ⇑c) ⟨.bl _,H,I,rfl,?_⟩;rw[show a.toArray.any (eqU x)=a.any (eqU x) by simp,VM r fs];exact q
 ·obtain⟨a,r,pl,i⟩:=I.tuple b;refine SeqAt.in_tupleAt (eqU x) pl (λw c=>J1 e f r fs w ⇑c) ⟨.bl _,H,I,rfl,?_⟩;rw[show a.toArray.any (eqU x)=a.any (eqU x) by simp,VM r fs];exact q
def xu:OpR X (compareOp .NotIn) (rIn X.K true):=by
 intro d s σ H x y v u Q I e g h;obtain⟨p,j,rfl,b,f,fs,q⟩:=h;cases g;rcases b with b | b
 ·obtain⟨a,r,pl,i⟩:=I.list b;refine SeqAt.notIn_listAt (eqU x) pl.isList (λw c=>J1 e f r fs w ⇑c) ⟨.bl _,H,I,rfl,?_⟩;rw[show a.toArray.any (eqU x)=a.any (eqU x) by simp,VM r fs];exact q
 ·obtain⟨a,r,pl,i⟩:=I.tuple b;refine SeqAt.notIn_tupleAt (eqU x) pl (λw c=>J1 e f r fs w ⇑c) ⟨.bl _,H,I,rfl,?_⟩;rw[show a.toArray.any (eqU x)=a.any (eqU x) by simp,VM r fs];exact q
def zo:kD X (.type "list") (λxs H Q=>∃ p ys,xs=[.ref p]/\(SqL X.K H p ys\/SqT X.K H p ys)/\∀ l,H l=none->Q (.ref l) (upd H l<|.lst ys)):=by
 intro d s σ H xs z Q I r h;obtain⟨p,ys,rfl,f,q⟩:=h;obtain⟨u,rfl,y⟩:=jf8 r;cases y;have g:∀ a,Vals ys a->ys.length<=sizeLine->∀ i m,(∀ b x,s.heap.get? b=some x->i.get? b=some x) ->
   i.get? ↥s=some {cls:=.type "list",dict:=none,data:=.seq a.toArray m,slots:=#[]}->EP X d σ Q (.ref ↥s) {s with heap:=i}:=λa c j i m kp e=>
  ⟨.ref ↥s,_,I.laid kp (M8 _)<|show ObjOk X.prog X.w _ i _ (.lst ys) from⟨j,a,m,c,e⟩,rfl,q _<|I.hok.fresh<|M8 _⟩
 rcases f with f | f
 ·obtain⟨a,c,pl,j⟩:=I.list f;have k:=c.length;obtain⟨o,t,v,n,hd⟩:=pl.isList;exact call_list_seq p (.inl rfl) t v hd (g a c j) (by simp only[N2]<;>lia)
 ·obtain⟨a,c,pl,j⟩:=I.tuple f;have k:=c.length;obtain⟨o,t,v,n,hd⟩:=pl;exact call_list_seq p (.inr rfl) t v hd (g a c j) (by simp only[N2]<;>lia)
def Qk:kD X (.type "tuple") (λxs H Q=>∃ p ys,xs=[.ref p]/\((SqL X.K H p ys/\∀ l,H l=none->Q (.ref l) (upd H l<|.tup ys))\/(SqT X.K H p ys/\Q (.ref p) H))):=by
 intro a s σ H xs t Q I r h;obtain⟨p,ys,rfl,h⟩:=h;obtain⟨u,rfl,m⟩:=jf8 r;cases m;rcases h with⟨f,q⟩ | ⟨f,q⟩
 ·obtain⟨c,g,pl,i⟩:=I.list f;have j:=g.length;refine call_tuple_list pl.isList (λd kp=>?_) (by simp only[N2]<;>lia);have k:Inv X a σ H {s with heap:=d}:=I.kept kp;have n:Inv X a σ (upd H d.objs.size<|.tup ys) { s with heap:=d.push {cls:=.type "tuple",data:=.seq c.toArray} }:=
   k.laid (λb o e=>L8 _ e) (M8 _) (⟨i,c,g,IsTupN.new _ _⟩)
  exact⟨.ref d.objs.size,_,n,rfl,q _<|k.hok.fresh<|M8 _⟩
 ·obtain⟨c,g,pl,i⟩:=I.tuple f;exact call_tuple_same pl ⟨.ref p,H,I,rfl,q⟩
def tyV(K:W5)(T:String)(x:V)(H:Hp):Prop:=match x with
 | .str _=>T = "str"
 | .int _=>T = "int"
 | .ref p=>(T = "list"/\∃ xs,SqL K H p xs)\/(T = "tuple"/\∃ o,K.lookup p=some o/\o.cls=.type "tuple"/\o.dict=none) \/
   (T = "dict"/\((∃ kvs,H p=some (.dK kvs)) \/ ∃ kvs,H p=some (.dT kvs)))\/(T = "set"/\∃ S n,H p=some (.set S n))
 | _=>False
def jgg(I:Inv X pins σ H s)(r:RelV x v)(ty:tyV X.K T x H):
  s.TypeIs v T/\∀ a,v=.ref a->∃ ob,s.heap.get? a=some ob/\ob.dict=none:=by
 cases x with
 | str z=>
  obtain⟨t,rfl⟩:=r;cases(ty);exact⟨typeIs_str s z t,λ_ e=>nomatch e⟩
 | int i=>
  obtain⟨t,rfl⟩:=r;cases(ty);exact⟨typeIs_int s i t,λ_ e=>nomatch e⟩
 | ref p=>
  cases r;rcases ty with⟨rfl,j,f⟩ | ⟨rfl,o,b,g,hd⟩ | ⟨rfl,b⟩ | ⟨rfl,S,n,b⟩
  ·obtain⟨h,_,pl,_⟩:=I.list f;refine⟨pl.isList.typeIs,λa e=>?_⟩;cases e;obtain⟨o,n,e,c,hd,_⟩:=pl;exact⟨o,e,hd⟩
  ·refine⟨⟨o,I.kIn p o b,g⟩,λa e=>?_⟩;cases e;exact⟨o,I.kIn _ o b,hd⟩
  ·have z:∃ o,s.heap.get? p=some o/\o.ExactDict:=by
    rcases b with⟨d,b⟩ | ⟨d,b⟩
    ·obtain⟨_,_,_,_,o,_,_,e,ex,_⟩:=I.hok p _ b;exact⟨o,e,ex⟩
    ·obtain⟨_,_,_,_,o,_,_,e,ex,_⟩:=I.hok p _ b;exact⟨o,e,ex⟩
   obtain⟨o,e,ex⟩:=z;refine⟨⟨o,e,ex.1⟩,λa e2=>?_⟩;cases e2;exact⟨o,e,ex.2.1⟩
  ·obtain⟨o,_,_,_,e,ex,_⟩:=I.hok p _ b;refine⟨⟨o,e,ex.1⟩,λa e2=>?_⟩;cases e2;exact⟨o,e,ex.2.1⟩
 | _=>exact False.elim ty
def jns(K:W5)(T:String)(r:V->List V->Hp->VK->Prop)(to:TE):TE:=λσ H Q=>to σ H λx H1=>tyV K T x H1/\r x [] H1 Q
def tBM(K:W5)(T:String)(r:V->List V->Hp->VK->Prop)(to:TE)(t:TA):TE:=λσ H Q=>to σ H λx H1=>tyV K T x H1/\t σ H1 λxs H2=>r x xs H2 Q
variable {o e:Expr}{es:List Expr}{to:TE}{t:TA}{name:Str}{apos cpos:Pos}{T id:String}{r:V->List V->Hp->VK->Prop}
def jlV(pa:PlainAttrs T)(slot:Slot T name id)(d:typeOf (.builtin id)=pure (.type "method_descriptor"))(f:MtR X id r)(g:PE X o to)
  (b:attributeBase o name X.env (eval o X.env)=eval o X.env:=by rfl) (c:(apos.endLine==cpos.line)=true:=by rfl):PE X (.Call (.Attribute o name apos) [] [] cpos) (jns X.K T r to):=by
 intro a s σ H Q I h;refine wpAny_Call_method0_late b c<|thn (g a s σ H _ I h) λv s1 i=>?_;obtain⟨x,j,e,r1,ty,k⟩:=i;obtain⟨l,m⟩:=jgg e r1 ty;exact⟨T,id,pa,slot,d,l,m,Calls.callWith_builtin rfl<|PySem.evalArgs_none<|f a s1 σ j x [] v [] Q e r1 .nil k⟩
def jiW(pa:PlainAttrs T)(slot:Slot T name id)(g:typeOf (.builtin id)=pure (.type "method_descriptor"))(k:MtR X id r)(l:PE X o to)(m:PA X (e::es) t)
  (c:attributeBase o name X.env (eval o X.env)=eval o X.env:=by rfl)
  (f:((backTo cpos<|starEach (e::es) X.env).all (λx=>!x.1)&&(backToKw cpos<|keywordEach [] X.env).all (λx=>x.1.isSome)
   && decide ((e::es).length+([]:List Keyword).length+(if([]:List Keyword).isEmpty then 0 else 1)<30))=true:=by rfl)
  (d:(apos.endLine==cpos.line)=true:=by rfl) (n:SEq X e es:=by rfl) (b:BkE X cpos es:=by rfl):
  PE X (.Call (.Attribute o name apos) (e::es) [] cpos) (tBM X.K T r to t):=by
 intro a s σ H Q I h;refine wpAny_Call_method_late c f d rfl<|thn (l a s σ H _ I h) λv s1 p=>?_;obtain⟨x,q,i,r1,ty,u⟩:=p;obtain⟨w,y⟩:=jgg i r1 ty;refine⟨T,id,pa,slot,g,w,y,?_⟩;have j:=m cpos a s1 σ q _ i u;rw[n] at j ⊢;refine Calls.callWith_builtin (by show(false||(backTo cpos<|starEach es X.env).any (·.1))=false;rw[b]<;>rfl)<|Calls.evalArgs_plain ?_;exact thn j λz s2 ⟨vs,A,B,r2,C⟩=>k a s2 σ A x vs v z Q B r1 r2 C
end
def MtM(X:Cx)(id:String)(r:V->List V->Hp->VK->Prop):Prop:=
 ∀ pins s (σ:St) H x xs v us Q,Inv X pins σ H s->RelV x v->Vals xs us->r x xs H Q ->
  wpAny (model X.prog X.w) X.A (call (.builtin id)<|v::us) (EP X pins σ Q) X.xe s
def Vals.one(h:Vals [x] us):∃ u,us=[u]/\RelV x u:=by
 cases h with | cons r t=>cases t;exact⟨_,rfl,r⟩
def Vals.two(h:Vals [x,y] us):Ex2 λu v=>An3 (us=[u,v]) (RelV x u) (RelV y v):=by
 cases h with | cons r t=>cases t with | cons q t=>cases t;exact⟨_,_,rfl,r,q⟩
def Vals.zero:∀{us},Vals [] us->us=[]
 | _,.nil=>rfl
def Vals.reverse(h:Vals xs us):Vals xs.reverse us.reverse:=by
 induction h with
 | nil=>exact .nil
 | cons r t a=>rw[List.reverse_cons,List.reverse_cons];exact Vals.append a<|.cons r .nil
section
variable {X:Cx}{pins:List (Addr×Obj)}{σ:St}{H:Hp}{s:Shared}{l b:Addr}{xs ys zs:List V}
def Inv.lset{its a:List Value}{n}{f}{t'}(I:Inv X pins σ H s)(b:H l=some (.lst xs))
  (e:s.heap.get? l=some {cls:=.type "list",data:=.seq its.toArray n}) (c:f its.toArray=a.toArray) (d:Vals ys a) (g:ys.length<=sizeLine):
  Inv X pins σ (upd H l<|.lst ys) {s with heap:=s.heap.update l<|Obj.mapSeq f,toks:=t'}:=by
 have q:=PySem.IsL.update e f;rw[c] at q;refine I.write (by rw[b];exact trivial) (.inl rfl) (λb' u h i=>(Heap.get?_update_other s.heap (Obj.mapSeq f)<|Ne.symm h).trans i) ⟨_,q⟩ ?_;exact⟨g,a,_,d,q⟩
def Inv.lnew(I:Inv X pins σ H s)(a:Vals ys its)(b:ys.length<=sizeLine):
  Inv X pins σ (upd H ↥s (.lst ys)) { s with heap:=s.heap.push {cls:=.type "list",data:=.seq its.toArray},toks:=t' }:=
 I.laid (λ_ _ q=>L8 _ q) (M8 _) ⟨b,its,0,a,X7 _ rfl⟩
def Inv.fresh(I:Inv X pins σ H s):H ↥s=none:=I.hok.fresh<|M8 _
def Inv.lstM(I:Inv X pins σ H s)(a:H l=some (.lst xs)):xs.length<=sizeLine/\∃ its n,Vals xs its/\xs.length=its.length/\s.heap.get? l=some {cls:=.type "list",data:=.seq its.toArray n}:=by
 obtain⟨z,its,n,r,e⟩:=I.hok l _ a;exact⟨z,its,n,r,r.length,e⟩
def uG(h:n<=sizeLine):Builtin.List.listTooLong n=false:=by
 exact X1 ∅
end
section
variable {X:Cx}
def Vn:V->List V->Hp->VK->Prop:=λx vs H Q=>∃ l xs y,x=.ref l/\vs=[y]/\H l=some (.lst xs)/\xs.length<sizeLine/\Q .non (upd H l<|.lst<|xs++[y])
def VD:MtM X "list.append" Vn:=by
 intro b s σ H x vs v i Q I d f h;obtain⟨l,j,y,rfl,rfl,c,k,q⟩:=h;cases d;obtain⟨u,rfl,g⟩:=f.one;obtain⟨z,a,n,r,m,e⟩:=I.lstM c;refine call_meets F.slot_list_append ⟨_,e,rfl⟩ F.entry_list_append (F.args_list_append_2 _ _) (PySem.list_append l a.toArray n u<|by rw[N2];lia) ⟨e,?_⟩;refine⟨.non,_,I.lset c e (by simp) (r.append<|.cons g .nil) ?_,rfl,q⟩;rw[N3,List.length_singleton]
 lia
def QH:V->List V->Hp->VK->Prop:=λx vs H Q=>∃ l xs,x=.ref l/\vs=[]/\H l=some (.lst xs)/\Q .non (upd H l<|.lst xs.reverse)
def jbD:MtM X "list.reverse" QH:=by
 intro c s σ H x vs v i Q I f g h;obtain⟨l,j,rfl,rfl,d,q⟩:=h;cases f;have a:=g.zero;subst a;obtain⟨z,b,n,r,k,e⟩:=I.lstM d;refine call_meets F.slot_list_reverse ⟨_,e,rfl⟩ F.entry_list_reverse (F.args_list_reverse_1 _) (AutoSeq1.list_reverse_list_0 l b.toArray n<|by rw[N2];lia) ⟨e,?_⟩;refine⟨.non,_,I.lset d e (by simp) r.reverse ?_,rfl,q⟩;rw[List.length_reverse]
 lia
end
end L2
namespace Att
open PySem PySem.W PySem.Calls PyProof.Rows
def Vf:∀ ns vs,WellAll P h vs (ns.map WData.int)->IntsAre vs ns:=by
 intro ns
 induction ns with
 | nil=>
  intro vs w;cases w;exact .nil
 | cons n ns c=>
  intro vs w;cases w with
  | cons a b=>
   cases a;exact .cons _ _<|c _ b
def script_of{l:OpenLaw}{n}(m:l.most=some n)  {h}{b}{c}
  (e:l.row.toRowW.claim.pre b=true) (j:WellAll P h c b):
  ∃ a vs ns,c=[Value.ref a]/\b=[WData.list<|ns.map WData.int]/\h.get? a=some {cls:=.type "list",data:=.seq vs.toArray}/\IntsAre vs ns/\ns.length<=n:=by
 obtain⟨d,r,rfl,o,p⟩:=hasAllW_cons<|(pre_splitW e).1;obtain rfl:=hasAllW_nil p;obtain⟨u,rfl,s⟩:=hasW_list o;obtain⟨ns,rfl⟩:=items_int s;have f:ns.length<=n:=by
  have i:(WTm.not<|.lt (.lit<|.int n)<|.len<|.arg 0).holds [] {args:=[.list<|ns.map .int]}=true:=by
   have i:=(holds_andW<|(pre_splitW e).2).1;rw[m] at i;exact i
  have k:=condW_of i<|w_not<|w_lt w_lit<|w_len_list<|w_arg rfl;refine Nat.le_of_not_lt λq=>?_
  first
   | (rw[X0 q'] at k;exact absurd k (by decide))
   | (simp at k;lia)
 cases j with
 | cons w1 w2=>
  cases w2;cases w1 with
  | list t g=>exact⟨_,_,ns,rfl,rfl,t,Vf ns _ g,f⟩
def post_true(l:OpenLaw)(a):l.row.toRowW.claim.post a (.bool true) a=true:=
 postW_of
  (by first | rfl | decide | simp[WShape.has,WShape.arms,WShape.armsAll])
  (w_eq_bool (w_res rfl) w_lit) rfl
end Att
namespace L2
open PySem PySem.Spec PyProof.Rows
theorem Q3:∀{vs}{ns},IntsAre vs ns->Vals (ns.map V.int) vs
 | _,_,.nil=>.nil
 | _,_,.cons n t h=>.cons ⟨t,rfl⟩<|Q3 h
def jn9(H:Hp):Prop:=∀ b,H b=none \/ ∃ o xs,H b=some (.frz o<|.lst xs)
def jgb{P}{w}{K}{mg E}{CX}{k}{fa a}{fd}{x}{sp}{c}{vs}{ns}
  (N:K.In c.heap) (n:c.heap.Ns mainGlobals mg) (g:c.heap.Ns builtinsNs E) (G:∀ x:Str,x≠"__name__"->E x=bootBuiltins x) (p:c.heap.NoLimit) (U:c.gens = #[])
  (B:c.heap.get? a=some {cls:=.type "list",data:=.seq vs.toArray}) (hi:IntsAre vs ns) (O:ns.length<=sizeLine) (W:Room k callerA)
  (F:∀ base:Heap,K.In base->base.Ns mainGlobals mg->FnOk P w K mg base CX k fa fd [x] sp) (l:∀ s u,BindsTo s fd ⟨[u],[]⟩ [(x,u)])
  (I:∀ H:Hp,jn9 H->SqL K H a (ns.map V.int)->sp [.ref a] H (λv _=>v=.bl true) λ_ _ _=>False)
  (J:∀ H e s',CX [] H c (λ_ _ _=>False) e s'->False):
  codeAny (model P w) callerA (.call (.ref fa) ⟨[.ref a],[]⟩) (λr s'=>r=.ok (.ret<|.bool true)/\OldK c.heap s'.heap/\s'.os=c.os/\AllBare s'.gens) c:=by
 have Q:=Q3 hi;have j:∀ H:Hp,jn9 H->SqL K H a (ns.map V.int)->HOk P w H c.heap->(∀ b,H b≠none->b=a)->(H a≠none->K.lookup a=none) ->
   codeAny (model P w) callerA (.call (.ref fa) ⟨[.ref a],[]⟩) (λr s'=>r=.ok (.ret<|.bool true)/\OldK c.heap s'.heap/\s'.os=c.os/\AllBare s'.gens) c:=by
  intro H R X hok S Y;have f:∀{b}{o},c.heap.get? b=some o->H b=none->(jgF c.heap H).get? b=some o:=jfN;have L:∀{b}{o}{C}{D},c.heap.get? b=some o->o.data=.dict C D->H b=none:=λ{b o C D} e d=>by
   cases q:H b with
   | none=>rfl
   | some u=>
    have M:=S b (by rw[q];simp);subst M;rw[B] at e;cases e;cases d
  have i:∀{b}{m},c.heap.Ns b m->(jgF c.heap H).Ns b m:=λ{b m} ⟨o,C,D,e,d,r⟩=>⟨o,C,D,f e<|L e d,d,r⟩;have t:=λb o e=>f (N b o e) (by
   cases q:H b with
   | none=>rfl
   | some u=>
    have M:=S b (by rw[q];simp);subst M;rw[Y<|by rw[q];simp] at e;cases e)
  have Z:Mod K mg (jgF c.heap H):=⟨t,i n,⟨E,i g,G⟩,let ⟨mc,h1,h2⟩:=p;⟨mc,i h1,h2⟩⟩;have e0:Env0 P w K mg (jgF c.heap H) callerA [] c H:=⟨rfl,Z,λb o e=>jg0 e,Nat.le_of_eq<|jdS _ _,trivial,λb g=>absurd (show b∈([]:W6) from g)<|by simp,hok,.of_eq U⟩;refine codeAny_mono ((F _ t<|i n).run callerA [] c H ⟨[.ref a],[]⟩ [.ref a] [.ref a] _ _ W e0 (l c<|.ref a) (.cons rfl .nil) (I H R X)) λr s' h=>?_;cases r with
  | error e=>exact(J H e s' h).elim
  | ok fl=>
   cases fl with
   | next=>exact False.elim h
   | brk=>exact False.elim h
   | cont=>exact False.elim h
   | ret u=>
    obtain⟨v,H',os,bare,un,y,r',q⟩:=h;subst q;obtain rfl:u=Value.bool true:=r';refine⟨rfl,OldK.of_keep λb o e=>?_,os,bare⟩;cases q:H b with
    | none=>exact un.keep b o e q (by intro z;exact absurd (show b∈([]:W6) from z)<|by simp) (by simp)
    | some u=>
     rcases R b with z | ⟨ob,xs,z⟩
     ·rw[q] at z;cases z
     ·have z2:=un.frzs b ob _ z;obtain⟨T,_⟩:=hok b _ z;obtain⟨e2,_⟩:=y b _ z2;rw[e] at T;cases T;exact e2
 cases hk:K.lookup a with
 | some o=>
  have e:=N a o hk;rw[B] at e;cases e;refine j (λ_=>none) (λ_=>.inl rfl) (.inr ⟨_,vs.toArray,_,hk,rfl,rfl,rfl,by rw[N2,hi.length];exact O,by simpa using Q⟩) (λb u z=>by have A:=z;cases A) (λb z=>absurd rfl z)<|absurd rfl
 | none=>
  refine j (λb=>if b=a then some (.frz {cls:=.type "list",data:=.seq vs.toArray} (.lst<|ns.map V.int)) else none) (λb=>?_) (.inl<|.inr ⟨{cls:=.type "list",data:=.seq vs.toArray},if_pos rfl⟩) (λb u z=>?_) (λb z=>?_) λ_=>hk
  ·by_cases g:b=a
   ·exact .inr ⟨_,_,if_pos g⟩
   ·exact .inl<|if_neg g
  ·by_cases g:b=a
   ·have A:=(if_pos g).symm.trans z;cases A;subst g;exact⟨B,by rw[L1];exact O,vs,_,Q,B⟩
   ·have A:=(if_neg g).symm.trans z;cases A
  ·by_cases g:b=a
   ·exact g
   ·exact absurd (if_neg g) z
noncomputable def qv(s:Stmt)(j:Nat):Stmt:=match s with
 | .ClassDef _ _ _ body _ _ _ _ _ _ _=>body.getD j<|.Pass ⟨0,0,0,0⟩
 | _=>.Pass ⟨0,0,0,0⟩
noncomputable def qC(s:Stmt):Arguments:=match s with
 | .FunctionDef _ a _ _ _ _ _ _ _ _=>a
 | _=>{posonlyargs:=[],args:=[],vararg:=none,kwonlyargs:=[],kw_defaults:=[],kwarg:=none,defaults:=[]}
noncomputable def yX(s:Stmt):List Stmt:=match s with
 | .FunctionDef _ _ b _ _ _ _ _ _ _=>b
 | _=>[]
noncomputable def jn(s:Stmt):Scope:=match s with
 | .FunctionDef _ _ _ _ _ _ sc _ _ _=>sc
 | _=>{kind:=.function,names:=[],isGenerator:=false,isCoroutine:=false}
noncomputable abbrev CX0:CXT:=λ_ _ _ _ _ _=>False
noncomputable abbrev E0:XK:=λ_ _ _=>False
def je4:Ko CX0 X E0:=λ_ _ _ _ _ _ _ h=>h.elim
structure Fun(K:W5)(x qual:Str)(st:Stmt)(f:Addr)(fd:FuncData):Prop where
 ex:∃(oc:Value) (od:Option Addr) (kV doc pm:Value) (an:Option Addr) (cdv ct:Value) (osl:Array<|Option Value),
  fd=PySem.W.fnOf x qual (qC st) (yX st) (jn st) .none kV doc pm an cdv ct/\K.lookup f=some ⟨oc,od,.func fd,osl⟩/\PySem.W.codeIn K cdv qual=true
 kp:PySem.W.keepIn K (.ref f)=true
section
variable {P:Program}{w:World}{K:W5}{mg:W7}{base:Heap}
def Fun.ok{x qual}{st}{f}{fd}{N ps}{k}{sp}(F:Fun K x qual st f fd)(S:FnScope N ps<|jn st)(len:∀ vs H Q E,sp vs H Q E->vs.length=ps.length)
  (a:∀ cdv A outer s H vs Q E,Room k (A.deeper<|envOfC qual (jn st) ↥s f cdv)->sp vs H Q E ->
   ∃ t,PSs (jcX CX0 P w K mg base N qual (jn st) f cdv A outer s H E).nox (yX st) t/\t {nx:=λ_ H'=>Q .non H',rt:=Q} (start N vs) H):FnOk P w K mg base CX0 (k+1) f fd ps sp:=by
 obtain⟨oc,od,kV,d,pm,j,cdv,ct,e,rfl,g,b⟩:=F.ex;refine jn8 g b S len λA outer s H vs Q E i c=>?_;obtain⟨t,h,q⟩:=a cdv A outer s H vs Q E i c;exact⟨t,h.nox,q⟩
def Fun.binds{x qual}{st}{f}{fd}{ps}(F:Fun K x qual st f fd)
  (h:∀ kV doc pm an cdv ct us,us.length=ps.length->bindArgs (PySem.W.fnOf x qual (qC st) (yX st) (jn st) .none kV doc pm an cdv ct) ⟨us,[]⟩=pure (ps.zip us)):Binds K fd ps []:=by
 obtain⟨oc,od,kV,doc,pm,an,cdv,ct,a,rfl,c,b⟩:=F.ex;exact .all<|h kV doc pm an cdv ct
def uR{x qual}{st}{f}{oc}{od an}{d}{kV b pm a ct}(l:K.lookup f=some ⟨oc,od,.func<|PySem.W.fnOf x qual (qC st) (yX st) (jn st) .none kV b pm an a ct,d⟩)
  (c:PySem.W.codeIn K a qual=true) (k:PySem.W.keepIn K (.ref f)=true):Fun K x qual st f (PySem.W.fnOf x qual (qC st) (yX st) (jn st) .none kV b pm an a ct):=⟨⟨oc,od,kV,b,pm,an,a,ct,d,rfl,l,c⟩,k⟩
end
def VO(a:Room k A):A.units+1<cLine:=X8 (Nat.add_le_add_left (by decide:1<=64) _) a.units
def jdH(h:n<=1000):n<sizeLine:=X8 h (by decide)
def jgH{A B:Prop}(h:B):if false=true then A else B:=by
 exact h
def jgm{A B:Prop}(h:A):if true=true then A else B:=by
 exact h
theorem xt(I:Nat->Shared->Prop)
  (turn:∀ n s,I n s->wpAny (model prog w) A (pyNext it) (λr s₁=>match r with
   | none=>R (.ok .next) s₁
   | some v=>wpAny (model prog w) A (letOwnedTupleGo target it v) (λ_ s₁'=>wpAny (model prog w) A (assign target env v) (λ_ s₂=>
     wpAny (model prog w) A (forIn ifs true λc r=>if r=true then do let ok <- isTrue c env (eval c env);pure (ForInStep.yield ok) else pure (ForInStep.yield r)) (λok s₃=>
      if ok=true then wpAny (model prog w) A (eval elt env) (λx s₄=>
       wpAny (model prog w) A (call (.builtin "list.append") [acc,x]) (λ_ s₅=>∃ m,m<n/\I m s₅) (λ_ _=>False) s₄) (λ_ _=>False) s₃
      else ∃ m,m<n/\I m s₃) (λ_ _=>False) s₂) (λ_ _=>False) s₁') (λ_ _=>False) s₁) (λ_ _=>False) s)
  (n:Nat) (h:I n s):
  codeAny (model prog w) A (.compLoop (.ListComp elt [⟨target,iter,ifs,0⟩] scope pos) 0 it acc env) R s:=by
 have up:∀{α}{t}{Q:α->Shared->Prop}{E:J0}{s},wpAny (model prog w) A t Q (λ_ _=>False) s->wpAny (model prog w) A t Q E s:=
  λh=>wpAny_mono h (λ_ _ x=>x) λ_ _ z=>z.elim
 refine codeAny_loop rfl I (λn s e=>(wpAny_noted<|L3<|wpAny_standAt<|L3<|thn (up<|turn n s e) λr s₁ b=>?_)) n h;cases r with
 | none=>exact M6 b
 | some v=>
  refine L3<|thn (up b) λ_ s₁' a=>L3<|thn (up a) λ_ s₂ f=>L3<|thn (up f) λok s₃ d=>?_;cases ok with
  | false=>exact M6 ⟨rfl,d⟩
  | true=>
   exact L3<|L3<|thn (up d) λx s₄ g=>L3<|thn (up g) λ_ s₅ i=>M6<|M6 ⟨rfl,i⟩
noncomputable def jfF(env:Env):List (Str×NameKind)->List (Str×Addr)->List (Str×Addr)
 | [],cs=>cs
 | (n,k)::r,cs=>jfF env r (if k==NameKind.free then(match env.cells.lookup n with | some a=>(n,a)::cs | none=>cs) else cs)
def xQ(scope:Scope)(env:Env):List (Str×Addr):=jfF env scope.names []
theorem ji5:∀ l cs,(∀ n k,(n,k)∈l->k=NameKind.free->∃ c,env.cells.lookup n=some c) ->
  (forIn (m:=Sem) l cs λx r=>match x with | (n,k)=>if k==NameKind.free then do let a <- cellOf env n;pure (ForInStep.yield<|(n,a)::r) else pure (ForInStep.yield r))=pure (jfF env l cs)
 | [],cs,_=>rfl
 | (n,k)::r,cs,h=>by
  rw[List.forIn_cons];by_cases b:(k==NameKind.free)=true
  ·obtain⟨c,j⟩:=h n k L7 ∅;have o:cellOf env n=pure c:=by unfold cellOf;rw[j]
   have d:=ji5 r ((n,c)::cs) λe f g i=>h e f (L6 _ g) i;simp only[b,if_true,o,pure_bind];rw[d]
   conv=>rhs;unfold jfF
   simp only[b,if_true,j]
  ·have d:=ji5 r cs λe f g i=>h e f (L6 _ g) i;simp only[b,if_false,pure_bind,Bool.false_eq_true];rw[d]
   conv=>rhs;unfold jfF
   simp only[b,if_false,Bool.false_eq_true]
def jbA(h:∀ n k,(n,k)∈scope.names->k=NameKind.free->∃ c,env.cells.lookup n=some c):closureFor scope env=pure (xQ scope env):=by
 unfold closureFor xQ;show(forIn scope.names [] λx r=>match x with | (n,k)=>if k==NameKind.free then do let a <- cellOf env n;pure (ForInStep.yield<|(n,a)::r) else pure (ForInStep.yield r)) >>= (pure)=_;rw[ji5 scope.names [] h,pure_bind]
theorem jgh:∀ l cs,(x,c)∈jfF env l cs->(x,c)∈cs\/env.cells.lookup x=some c
 | [],_,h=>.inl h
 | (n,k)::r,cs,h=>by
  rcases jgh r _ h with z | z
  ·grind
  ·lia
theorem jcG:∀ l cs,(x,c)∈cs->(x,c)∈jfF env l cs
 | [],_,h=>h
 | (n,k)::r,cs,h=>by
  refine jcG r _ ?_;split
  ·split
   ·exact L6 _ h
   ·exact h
  ·exact h
theorem jge(a:env.cells.lookup x=some c):∀ l cs,(x,NameKind.free)∈l->(x,c)∈jfF env l cs
 | [],_,h=>nomatch h
 | (n,k)::r,cs,h=>by
  rcases M4.mp h with e | e
  ·cases e;refine jcG r _ ?_;simp only[ a];exact L7
  ·exact jge a r _ e
theorem JZ:∀{l:List (Str×β)}{c},(x,c)∈l->∃ d,l.lookup x=some d
 | (n,a)::r,c,h=>by
  rw[List.lookup_cons];cases e:x==n with
  | true=>exact⟨a,rfl⟩
  | false=>
   rcases M4.mp h with z | z
   ·lia
   ·exact JZ z
def V8(h:(xQ scope env).lookup x=some c):env.cells.lookup x=some c:=by
 rcases jgh scope.names [] (PySem.mem_of_lookup h) with z | z
 ·exact nomatch z
 ·exact z
def jbQ(a:env.cells.lookup x=some c)(f:(x,NameKind.free)∈scope.names):(xQ scope env).lookup x=some c:=by
 obtain⟨d,e⟩:=JZ<|jge a scope.names [] f;have b:(xQ scope env).lookup x=some d:=e;rw[b,<- V8 b,a]
def JA(h:(n,k)∈(relabel scope env).names):(n,k)∈scope.names\/(k=.cell/\(n,NameKind.free)∈scope.names):=by
 obtain⟨⟨a,b⟩,c,e⟩:=M5.mp h;dsimp only at e;split at e
 ·lia
 ·lia
def kj(scope:Scope)(env:Env)(C:Addr):List (Str×Addr):=cellsFrom (C+1) scope.names<|xQ scope env
theorem jbM:∀{names}{n:Nat}{acc:List (Str×Addr)},(∀ x y c,acc.lookup x=some c->acc.lookup y=some c->x=y)->(∀ x c,acc.lookup x=some c->c<n)->∀ x y c,(cellsFrom n names acc).lookup x=some c->(cellsFrom n names acc).lookup y=some c->x=y
 | [],n,acc,h,_=>h
 | (a,k)::r,n,acc,h,b=>by
  unfold cellsFrom;split
  ·refine jbM (λx y c d e=>?_)<|λx c d=>?_
   ·grind
   ·grind
  ·exact jbM h b
def jkr(h:∀ x y c,(xQ scope env).lookup x=some c->(xQ scope env).lookup y=some c->x=y)(a:∀ x c,(xQ scope env).lookup x=some c->c<C+1)(x y)(c)(h1:(kj scope env C).lookup x=some c)(h2:(kj scope env C).lookup y=some c):x=y:=jbM h a x y c h1 h2
theorem wW:∀{names}{n}{acc},(∃ c,acc.lookup x=some c)->∃ c,(cellsFrom n names acc).lookup x=some c
 | [],_,_,h=>h
 | (a,k)::r,n,acc,h=>by
  unfold cellsFrom;split
  ·refine wW ?_;rw[List.lookup_cons];cases x==a with
   | true=>exact⟨n,rfl⟩
   | false=>exact h
  ·exact wW h
theorem jcy:∀{names}{n}{acc},(x,NameKind.cell)∈names->∃ c,(cellsFrom n names acc).lookup x=some c
 | [],_,_,h=>nomatch h
 | (a,k)::r,n,acc,h=>by
  unfold cellsFrom;rcases M4.mp h with e | e
  ·cases e;refine wW ⟨n,?_⟩;rw[List.lookup_cons,beq_self_eq_true]
  ·split
   ·exact jcy e
   ·exact jcy e
def jm6(h:(x,NameKind.cell)∈scope.names):∃ c,(kj scope env C).lookup x=some c:=jcy h
theorem uk:∀{names}{n}{acc},(x,NameKind.cell)∉names->(cellsFrom n names acc).lookup x=acc.lookup x
 | [],_,_,_=>rfl
 | (a,k)::r,n,acc,h=>by
  unfold cellsFrom;split
  ·rename_i b;have b:=eq_of_beq b;subst b;rw[uk λz=>h<|L6 _ z,List.lookup_cons];have:(x==a)=false:=U1.mpr λz=>h (by rw[z];exact L7);rw[this]
  ·exact uk λz=>h<|L6 _ z
theorem xO:∀ names (h:Heap) acc x c,(cellsFrom h.objs.size names acc).lookup x=some c->(h.objs.size<=c/\(pushCells h names).IsCell c none)\/acc.lookup x=some c
 | [],_,_,_,_,e=>.inr e
 | (a,k)::r,h,acc,x,c,e=>by
  unfold cellsFrom at e;unfold pushCells;split at e
  ·rename_i b;rw[if_pos b];rcases xO r (h.push {cls:=.type "cell",data:=.cell none}) ((a,h.objs.size)::acc) x c (by rw[Heap.size_push];exact e) with q | q
   ·rw[Heap.size_push] at q;exact .inl ⟨Nat.le_of_succ_le q.1,q.2⟩
   ·rw[List.lookup_cons] at q;cases e1:x==a with
    | true=>
     rw[e1] at q;cases q;exact .inl ⟨M8 _,⟨_,pushCells_keeps r _ _ _<|X7 _ rfl,rfl⟩⟩
    | false=>rw[e1] at q;exact .inr q
  ·rename_i b;rw[if_neg b];exact xO r h acc x c e
theorem Kj:∀ l cs,(x,c)∈jfF env l cs->(x,c)∈cs\/(x,NameKind.free)∈l
 | [],_,h=>.inl h
 | (n,k)::r,cs,h=>by
  rcases Kj r _ h with z | z
  ·grind
  ·exact .inr<|L6 _ z
def jbR(h:(xQ scope env).lookup x=some c):(x,NameKind.free)∈scope.names:=by
 rcases Kj scope.names [] (PySem.mem_of_lookup h) with z | z
 ·exact nomatch z
 ·exact z
def Qj 
  (h:Q (newEnv scope ↥s globals (cellsFrom (↥s+1) scope.names cl) qual none .none (some env) builtinsNs) { s with heap:=pushCells (s.heap.push {cls:=.type "dict",data:=.dict #[]}) scope.names }):
  wpAny M A (newFunctionEnv scope globals cl [] qual none .none<|some env) Q E s:=by
 simp only[newFunctionEnv,Option.isSome_some];refine L3<|wpAny_alloc ?_;refine L3<|wpAny_layCells _ (λnm kd cs=>by cases hq:kd==NameKind.cell<;>simp[hq]) _ _ _ _ ?_;rw[Heap.size_push ..];exact L3<|M6<|M6 h
def j8(X:Cx)(scope:Scope)(N':List Str)(C:Addr)(s₃:Shared)(H₃:Hp)(fp:W6):Cx:=
 {X with N:=N',s₀:=s₃,H₀:=H₃,env:=compEnvC scope (kj scope X.env C) C X.env,outer:=X.stack,stack:=X.stack,ex:=fp,fn:=λx=>scope.names.lookup x==some NameKind.cell,pn:=[],xe:=λ_ _=>False}
structure BlockOk(X:Cx)(scope:Scope)(N':List Str)(ix:List<|Option Nat):Prop where
 kind:scope.kind=.function
 names:∀ y∈scope.names,y.2=.local->scope.names.lookup y.1=some .local
 cells:∀ y∈scope.names,y.2=.cell->scope.names.lookup y.1=some .cell
 uniq:∀ y∈scope.names,y.2=.free->scope.names.lookup y.1=some .free
 outer:∀ y∈scope.names,y.2=.free->X.env.kindOf y.1=some .cell\/X.env.kindOf y.1=some .free
 nd:N'.Nodup
 len:ix.length=N'.length
 at_:∀(i j:Nat) (x:Str),ix[i]?=some (some j)->N'[i]?=some x->X.N[j]?=some x/\(x,NameKind.free)∈scope.names
 func:X.env.scope.kind=.function
def BlockOk.free(B:BlockOk X scope N' ix)  (h:(x,NameKind.free)∈scope.names):(kj scope X.env C).lookup x=(xQ scope X.env).lookup x:=
 uk λz=>by
  have a:=B.cells _ z rfl;rw[B.uniq _ h rfl] at a;cases a
noncomputable def vq(ix:List<|Option Nat)(σ:St):St:=ix.map λo=>o.bind λj=>(σ[j]?).join
abbrev BW:=Nat->Nat->St->Hp->Prop
def jaF(tc:TT)(te:TE)(g:TG)(J:It)(p:Addr)(σ':St)(H1:Hp)(Q:Hp->Prop):Prop:=
 ∃ W:BW,(∃ m,W 0 m σ' H1)/\∀ i m σ2 H2,W i m σ2 H2->(J.stop i H2/\Q H2) \/
  (J.go i H2/\∀ x H3,J.yld i H2 x H3->g x σ2 H3 λσ4 H4=>tc σ4 H4 λb H5=>if b=true then
   te σ4 H5 λy H6=>∃ ys,H6 p=some (.lst ys)/\ys.length<sizeLine/\∃ m',m'<m/\W (i+1) m' σ4 (upd H6 p<|.lst<|ys++[y])
   else ∃ m',m'<m/\W (i+1) m' σ4 H5)
def QA(wi:TI)(g:TG)(tc:TT)(te:TE)(ix:List<|Option Nat):TE:=λσ H Q=>wi σ H λJ H1=>∀ p,H1 p=none->jaF tc te g J p (vq ix σ) (upd H1 p<|.lst []) λH2=>Q (.ref p) H2
def PIf(X:Cx)(ifs:List Expr)(tc:TT):Prop:=(ifs=[]/\tc=λ_ H Q=>Q true H) \/ ∃ c,ifs=[c]/\PT X c tc
def jb9(B:BlockOk X scope N' ix)(I:Inv X pins σ H s)(n:∀ b∈fp,jaI X pins H b)(w:∀ b∈fp,b < ↥s)
  (G:h₁.Ns ↥s (λ_=>none)) (F:∀ b o,s.heap.get? b=some o->h₁.get? b=some o)
  (g:∀ x c,(kj scope X.env ↥s).lookup x=some c->(↥s+1<=c/\h₁.IsCell c none)\/(xQ scope X.env).lookup x=some c):
  Inv (j8 X scope N' ↥s s H fp) [] (vq ix σ) H {s with heap:=h₁,toks:=t}:=by
 have d:∀ x c,(xQ scope X.env).lookup x=some c->X.env.cells.lookup x=some c:=λx c e=>V8 e;have J:∀ x c,X.env.cells.lookup x=some c->c < ↥s:=λx c e=>by
  obtain⟨v,o,A,_⟩:=I.cell x c e;exact N0 A
 refine⟨⟨I.ok.mod,B.kind,I.ok.glob,I.ok.blt,M8 _,jkr (λx y c C D=>I.ok.inj x y c (d x c C)<|d y c D)<|λx c e=>Nat.lt_succ_of_lt<|J x c<|d x c e,λx K=>?_,(λx c C D=>?_),I.ok.hd,I.ok.frames,.inl rfl,λb h=>⟨N5<|w b h,λx c e=>?_⟩,
  I.bs,N6 I.ok.bsz I.sz,λb o e h=>?_,λb h z=>?_,I.stack,I.stkFree⟩,rfl,I.bare,Un.kept F,⟨_,G,λi x v C D P=>?_⟩,λx c e=>?_,I.hok.fresh<|M8 _,λx c e=>?_,(λp Q=>nomatch (Q)),I.hok.kept F,?_⟩
 ·have L:=K;have f:(x,NameKind.free)∈scope.names\/(x,NameKind.cell)∈scope.names:=by
   rcases L with q | q
   ·rcases JA (PySem.mem_of_lookup q) with z | z
    ·lia
    ·lia
   ·rcases JA (PySem.mem_of_lookup q) with z | z
    ·lia
    ·lia
  rcases f with f | f
  ·obtain⟨c,M⟩:=I.ok.has x<|B.outer _ f rfl;exact⟨c,by show(kj scope X.env ↥s).lookup x=some c;rw[B.free f];exact jbQ M f⟩
  ·exact jm6 f
 ·-- the block's own cells are new
  have K:=C;rcases g x c D with⟨q,_⟩ | q
  ·exact Nat.le_of_succ_le q
  ·exfalso;have n:=jbR q;have E:=B.uniq _ n rfl;rw[eq_of_beq K] at E;cases E
 ·rcases g x c e with⟨q,_⟩ | q
  ·exact Nat.ne_of_gt<|U3 (w b h)<|Nat.le_of_succ_le q
  ·exact(n b h).2.2.2.2.1 x c (d x c q)
 ·rcases(n b h).2.2.2.1 with z | z
  ·exact I.ok.noex b o e z
  ·exact absurd (U3 (N0 e)<|N6 I.ok.bsz z)<|Nat.lt_irrefl _
 ·rcases M4.mp (I.stkSub b z) with q | q
  ·exact(n b h).2.1 q
  ·exact(n b h).2.2.1 q
 ·have a:=D;unfold vq at a;rw[List.getElem?_map] at a;cases e:ix[i]? with
  | none=>rw[e] at a;cases a
  | some o=>
   rw[e] at a;cases o with
   | none=>cases a
   | some j=>
    have O:(σ[j]?).join=some v:=X3 a;have R:σ[j]?=some (some v):=by grind
    obtain⟨S,f⟩:=B.at_ i j x e C;have N:=B.outer _ f rfl;obtain⟨m,U,T⟩:=I.loc;obtain⟨u,r,l⟩:=T j x v S R<|N.elim (λz=>.inr<|.inl z) λz=>.inr<|.inr z;refine⟨u,r,.inr ?_⟩;rcases l with⟨k,_⟩ | ⟨_,c,M,z⟩
    ·lia
    ·refine⟨?_,c,by show(kj scope X.env ↥s).lookup x=some c;rw[B.free f];exact jbQ M f,?_⟩
     ·rcases P with y | y | y
      ·have:=PySem.mem_of_lookup y;rcases JA this with z1 | z1
       ·have E:=B.names _ z1 rfl;rw[B.uniq _ f rfl] at E;cases E
       ·lia
      ·exact .inl y
      ·exact .inr y
     ·obtain⟨o,A,hd⟩:=z;exact⟨o,F c o A,hd⟩
 ·rcases g x c e with⟨_,q⟩ | q
  ·exact⟨none,q⟩
  ·obtain⟨v,o,A,hd⟩:=I.cell x c<|d x c q;exact⟨v,o,F c o A,hd⟩
 ·rcases g x c e with⟨q,_⟩ | q
  ·exact I.hok.fresh<|Nat.le_of_succ_le q
  ·exact I.freeC x c<|d x c q
 ·show(vq ix σ).length=N'.length;unfold vq;rw[L1,B.len]
def Inv.other(I:Inv X pins σ H s)(f:jaI X pins H C)(a:Heap.SameBut C s.heap h'):Inv X pins σ H {s with heap:=h'}:=
 I.turned (a.extBut) f.1 f.2.1 f.2.2.2.1 f.2.2.2.2.1 f.2.2.2.2.2
def qL{X:Cx}{ifs:List Expr}{N':List Str}{ix:List (Option Nat)}{pins:List (Addr×Obj)}{s:Shared}{Q:Addr->Hp->Prop}{E:Option (Value->Sem Unit)}{QQ:J0}(B:BlockOk X scope N' ix)(hc:X.calm=true)(hi:PI X tg iter wi)
  (hg:∀ C s H fp,PG (j8 X scope N' C s H fp) tg g) (hif:∀ C s H fp,PIf (j8 X scope N' C s H fp) ifs tc) (he:∀ C s H fp,PE (j8 X scope N' C s H fp) elt te)
  (hs:∀ x,foldedSetIterable iter X.env x=pure x) (I:Inv X pins σ H s)
  (h:wi σ H λJ H1=>∀ p,H1 p=none->jaF tc te g J p (vq ix σ) (upd H1 p<|.lst []) (Q p))
  (hend:∀ p C s' H',Q p H'->Inv X pins σ H' s'->jaI X pins H' C->(∃ m,s'.heap.Ns C m)->compPost (model X.prog X.w) X.A X.xe E QQ (.ref p) C (.ok .next) s'):
  wpAny (model X.prog X.w) X.A (comprehension (.ListComp elt [⟨tg,iter,ifs,0⟩] scope pos) scope X.env pos' (newList []) false (eval iter X.env) E) QQ X.xe s:=by
 refine wpAny_comprehension_free rfl hs (jbA λn k hm hk=>I.ok.has n<|B.outer _ hm hk) B.kind B.names<|thn (hi pins s σ H _ I h) λv s1 h1=>thn h1 λitv s2 h2=>?_;obtain⟨it,fp,tn,J,M,rfl,I2,T,Y,f2,h2⟩:=h2;refine wpAny_newObj_type<|Qj ?_;dsimp only;have I3:Inv X pins σ (upd M ↥s2 (.lst [])) { s2 with heap:=s2.heap.push {cls:=.type "list",data:=.seq ([]:List Value).toArray} }:=I2.lnew .nil<|U4 _;generalize hs3:({ s2 with heap:=s2.heap.push {cls:=.type "list",data:=.seq ([]:List Value).toArray} }:Shared)=s3 at I3;have e3:s3.heap=s2.heap.push {cls:=.type "list",data:=.seq ([]:List Value).toArray}:=by lia
 have hk3:∀ b o,s2.heap.get? b=some o->s3.heap.get? b=some o:=λb o e=>by rw[e3];exact L8 _ e
 have Z:∀ b∈fp,b < ↥s3:=λb a=>by
  obtain⟨o,e,_⟩:=T.obj _ _ Y b a;exact N0<|hk3 b o e
 have nep:∀ b∈fp,b≠↥s2:=λb a z=>by
  obtain⟨o,e,_⟩:=T.obj _ _ Y b a;exact absurd (N0 e) ∅
 have N:∀ b∈fp,jaI X pins (upd M ↥s2 (.lst [])) b:=λb a=>⟨by rw[je<|nep b a];exact(f2 b a).1,(f2 b a).2⟩;have hh₁:∃ O,O=pushCells (s3.heap.push {cls:=.type "dict",data:=.dict #[]}) scope.names:=⟨_,rfl⟩;obtain⟨O,P⟩:=hh₁;rw[<- e3,<- P];have hk4:∀ b o,s3.heap.get? b=some o->O.get? b=some o:=λb o e=>by
  rw[P];exact pushCells_keeps _ _ b o<|L8 _ e
 have hns4:O.Ns ↥s3 (λ_=>none):=by
  rw[P];exact(Heap.Ns.new s3.heap<|.type "dict").keeps (pushCells_keeps _ _)
 have R:∀ x c,(kj scope X.env ↥s3).lookup x=some c->(↥s3+1<=c/\O.IsCell c none)\/(xQ scope X.env).lookup x=some c:=λx c e=>by
  have q:=xO scope.names (s3.heap.push {cls:=.type "dict",data:=.dict #[]}) (xQ scope X.env) x c (by rw[Heap.size_push];exact e);rw[Heap.size_push,<- P] at q;exact q
 have I4:Inv (j8 X scope N' ↥s3 s3 (upd M ↥s2 (.lst [])) fp) [] (vq ix σ) (upd M ↥s2 (.lst [])) {s3 with heap:=O,toks:=s2.toks}:=jb9 B I3 N Z hns4 hk4 R;have st4:tn 0 O:=T.keep _ _ _ Y λb a o e=>hk4 b o<|hk3 b o e;obtain⟨W,⟨m0,w0⟩,turn⟩:=h2 _ I2.fresh;have hg':=hg ↥s3 s3 (upd M ↥s2 (.lst [])) fp;have S:=hif ↥s3 s3 (upd M ↥s2 (.lst [])) fp;have he':=he ↥s3 s3 (upd M ↥s2 (.lst [])) fp;generalize f:j8 X scope N' ↥s3 s3 (upd M ↥s2 (.lst [])) fp=X' at I4 hg' S he';have eP:X'.prog=X.prog:=by rw[<- f];rfl
 have eW:X'.w=X.w:=by rw[<- f];rfl
 have eK:X'.K=X.K:=by rw[<- f];rfl
 have eA:X'.A=X.A:=by rw[<- f];rfl
 have eC:X'.calm=true:=by rw[<- f];exact hc
 have eE:X'.env=compEnvC scope (kj scope X.env ↥s3) ↥s3 X.env:=by rw[<- f];rfl
 have eX:X'.xe=λ_ _=>False:=by rw[<- f];rfl
 have F:∀{H':Hp},(∀ b∈fp,H' b=none)->∀ b∈fp,jaI X' [] H' b:=λhn b a=>by
  refine⟨hn b a,?_,?_,?_,?_,?_⟩
  ·rw[eE];exact N5<|Z b a
  ·rw[<- f];intro z;rcases M4.mp (I3.stkSub b z) with q | q
   ·exact(N b a).2.1 q
   ·exact(N b a).2.2.1 q
  ·rw[<- f];exact .inl a
  ·rw[eE];intro x c e;rcases R x c e with⟨q,_⟩ | q
   ·exact Nat.ne_of_gt<|U3 (Z b a)<|Nat.le_of_succ_le q
   ·exact(N b a).2.2.2.2.1 x c (V8 q)
  ·rw[<- f];exact(λp hp=>nomatch (hp))
 have fin:∀{j:St}{H':Hp}{s':Shared},Inv X' [] j H' s'->Q ↥s2 H'->compPost (model X.prog X.w) X.A X.xe E QQ (.ref ↥s2) ↥s3 (.ok .next) s':=λ{j H' s'} J q=>by
  have hL:X'.env.locals=↥s3:=by rw[eE];rfl
  have un:Un (frs X.stack) fp (upd M ↥s2 (.lst [])) H' s3.heap s'.heap:=by
   have z:=J.base;rw[<- f] at z;exact z
  have hos:s'.os=s3.os:=by
   have z:=J.os;rw[<- f] at z;exact z
  have hok:HOk X.prog X.w H' s'.heap:=by
   have z:=J.hok;rw[eP,eW] at z;exact z
  have fc:H' ↥s3=none:=by
   have z:=J.free;rw[hL] at z;exact z
  have I5:Inv X pins σ H' s':=by
   obtain⟨hh,gg,dd,tt,oo⟩:=s';obtain rfl:oo=s3.os:=hos;exact I3.call un hok J.bare λb a=>⟨(N b a).2.2.2.1,(N b a).2.1,(N b a).2.2.2.2.1,(N b a).2.2.2.2.2⟩
  obtain⟨m,hn,_⟩:=J.loc;rw[hL] at hn;exact hend _ _ s' H' q I5 (I3.fpOk (M8 _) fc) ⟨m,hn⟩
 have loop:∀ s',s'=({s3 with heap:=O,toks:=s2.toks}:Shared)->codeAny (model X.prog X.w) X.A (.compLoop (.ListComp elt [⟨tg,iter,ifs,0⟩] scope pos) 0 (.ref it) (.ref ↥s2) X'.env) (compPost (model X.prog X.w) X.A X.xe E QQ (.ref ↥s2) ↥s3) s':=by
  rintro s' rfl;refine xt (λn s'=>∃ i j H',Inv X' [] j H' s'/\tn i s'.heap/\(∀ b∈fp,H' b=none)/\W i n j H') ?_ m0 ⟨0,_,_,I4,st4,λb a=>(N b a).1,w0⟩;rintro n s5 ⟨i,σ5,H5,I5,st5,fr5,w5⟩;have it5:=T.item X' eP eW eK eC i [] s5 σ5 H5 (λ_ _=>False) I5 (F fr5) st5;have dn5:=T.done X' eP eW eK eC i [] s5 σ5 H5 (λ_ _=>False) I5 (F fr5) st5;rw[eA] at it5 dn5;rcases turn i n σ5 H5 w5 with⟨stop,qn⟩ | ⟨go,step⟩
  ·refine thn (dn5 stop) λr s6 ⟨hr,I6⟩=>?_;subst hr;exact fin I6 qn
  ·refine thn (it5 go) λr s6 ⟨u,hr,h6⟩=>?_;subst hr;refine thn h6 λ_ s7 hh=>?_;obtain⟨x,H7,I7,r7,y7,st7,fr7⟩:=hh;have a7:=hg' _ s7 σ5 H7 x u _ (I7.pinned (F fr7)<|T.obj _ _ st7) r7<|step x H7 y7;rw[eP,eW,eA,eX] at a7;refine thn a7 λ_ s8 hh=>?_;obtain⟨G,H8,I8,q8⟩:=hh;have L:∀{l:Shared}{D:Hp},Inv X' ([]++Ky fp s7.heap) G D l->(∃ t,t<n/\W (i+1) t G D)->∃ m,m<n/\∃ i j H',Inv X' [] j H' l/\tn i l.heap/\(∀ b∈fp,H' b=none)/\W i m j H':=λ{l D} U ⟨t,hm,w9⟩=>by
    refine⟨t,hm,i+1,G,D,U.unpinned,T.keep _ _ _ st7 λb a o e=>(U.pin (b,o)<|U2 _<|U2 _<|ko a e).1,λb a=>?_,w9⟩;obtain⟨o,e,d⟩:=T.obj _ _ st7 b a;exact(U.pin (b,o)<|U2 _<|U2 _<|ko a e).2.1
   have rest:∀(b:Bool) (l:Shared) (D:Hp),Inv X' ([]++Ky fp s7.heap) G D l->(if b=true then te G D λy H6=>∃ ys,H6 ↥s2=some (.lst ys)/\ys.length<sizeLine/\∃ t,t<n/\W (i+1) t G (upd H6 ↥s2 (.lst<|ys++[y]))
     else ∃ t,t<n/\W (i+1) t G D) ->
     if b=true then wpAny (model X.prog X.w) X.A (eval elt X'.env) (λx s₄=>wpAny (model X.prog X.w) X.A (call (.builtin "list.append") [.ref ↥s2,x]) (λ_ s₅=>∃ m,m<n/\∃ i j H',Inv X' [] j H' s₅/\tn i s₅.heap/\(∀ b∈fp,H' b=none)/\W i m j H') (λ_ _=>False) s₄) (λ_ _=>False) l
     else ∃ m,m<n/\∃ i j H',Inv X' [] j H' l/\tn i l.heap/\(∀ b∈fp,H' b=none)/\W i m j H':=λb l D U q9=>by
    cases b with
    | false=>
     exact L U q9
    | true=>
     have a9:=he' _ l G D _ U q9;rw[eP,eW,eA,eX] at a9;refine thn a9 λyv s10 hh=>?_;obtain⟨y,H10,I10,r10,ys,e10,l10,q10⟩:=hh;have a10:=VD _ s10 G H10 (.ref ↥s2) [y] (.ref ↥s2) [yv] (λ_ H'=>∃ t,t<n/\W (i+1) t G H') I10 rfl (.cons r10 .nil) ⟨_,ys,y,rfl,rfl,e10,l10,q10⟩;rw[eP,eW,eA,eX] at a10;exact thn a10 λ_ s11 ⟨_,H11,I11,_,q11⟩=>L I11 q11
   rcases S with⟨e1,e2⟩ | ⟨c,e1,e2⟩
   ·subst e1;rw[e2] at q8;exact wpAny_tests_nil<|rest true s8 H8 I8 q8
   ·subst e1;have a8:=e2 _ s8 G H8 _ I8 q8;rw[eP,eW,eA,eX] at a8;exact wpAny_tests_one<|thn a8 λb l ⟨D,U,q9⟩=>rest b l D U q9
 have V:codeAny (model X.prog X.w) X.A (.compStart (.ListComp elt [⟨tg,iter,ifs,0⟩] scope pos) 0 (.ref it) (.ref ↥s2) X'.env) (compPost (model X.prog X.w) X.A X.xe E QQ (.ref ↥s2) ↥s3) {s3 with heap:=O,toks:=s2.toks}:=
  codeAny_compStart_list (loop _ rfl) (T.self _ 0 _ _ _ st4<|loop _ rfl)
 rw[eE] at V;subst hs3;exact V
def jbL(B:BlockOk X scope N' ix)(c:X.calm=true)(hi:PI X tg iter wi)
  (d:∀ C s H fp,PG (j8 X scope N' C s H fp) tg g) (a:∀ C s H fp,PIf (j8 X scope N' C s H fp) ifs tc) (e:∀ C s H fp,PE (j8 X scope N' C s H fp) elt te)
  (i:∀ x,foldedSetIterable iter X.env x=pure x:=by intro _;rfl):PE X (.ListComp elt [⟨tg,iter,ifs,0⟩] scope pos) (QA wi g tc te ix):=by
 intro b s σ H Q I h;exact qL B c hi d a e i I h λp C o j q k f ⟨m,l⟩=>⟨m,l,λr n=>⟨.ref p,j,k.other f n,rfl,q⟩⟩
def Km(B:BlockOk X scope N' ix)(y:X.calm=true)(hi:PI X tg iter wi)
  (A:∀ C s H fp,PG (j8 X scope N' C s H fp) tg g) (b:∀ C s H fp,PIf (j8 X scope N' C s H fp) ifs tc) (E:∀ C s H fp,PE (j8 X scope N' C s H fp) elt te)
  (F:X.N.Nodup) (c:X.N[i]?=some x) (G:Loc X.env.scope x)
  (hsw:swapsWith (.ListComp elt [⟨tg,iter,ifs,0⟩] scope pos) (some<|.Name x pos') spos.line X.env=pure true)
  (J:∀ x,foldedSetIterable iter X.env x=pure x:=by intro _;rfl)
  (K:X.fn x=true\/X.env.scope.names.lookup x=some .local:=by first | exact .inl rfl | exact .inr rfl | assumption):
  PS X (.Assign [.Name x pos'] (.ListComp elt [⟨tg,iter,ifs,0⟩] scope pos) spos) (jbt (QA wi g tc te ix)<|vD i):=by
 intro a s σ H D I h;rw[exec_Assign_Name_used _ _ _ _ hsw];refine L3<|wpAny_standAt<|L3<|L3<|thn (qL B y hi A b E J I h λp C k l q n f ⟨m,L⟩=>?_) λ_ k M=>M6<|M6 M;obtain⟨o,O,P,Q,r⟩:=id L;have hd:∀ v,o.data≠.cell v:=λv z=>by
  obtain⟨d,_⟩:=r;rw[d] at z;cases z
 have R:Inv X (a++[(C,o)]) σ l k:=n.pins_of λt j=>by
  rcases N1.mp j with z | z
  ·exact n.pin t<|U2 _ z
  ·have e:t=(C,o):=by simpa using z
   subst e;exact⟨Q,f.1,f.2.1,f.2.2.1,hd⟩
 refine wpAny_assign_Name<|Y7 R F c G (v:=.ref p) rfl (λs2 u=>?_) K;have w:=u.pin (C,o)<|U2 _<|U2 _<|M7.mpr rfl;refine⟨m,⟨o,O,P,w.1,r⟩,λT S=>⟨_,l,(u.unpinned).other ⟨w.2.1,f.2⟩ S,q⟩⟩
noncomputable def S(l:List Nat):Str:=⟨l.toArray⟩
def Jt(l):(S l).cps.toList=l:=by simp[S]
def V0(l):(S l).length=l.length:=by simp[S,Str.length]
def jjw(h:S a=S b):a=b:=by
 rw[<- Jt a,<- Jt b,h]
def jnO(a b):(S a=S b)=(a=b):=propext ⟨jjw,λh=>by rw[h]⟩
def jnD(a b):S a++S b=S (a++b):=by
 apply PyProof.Rows.ext_toList;rw[PySem.W.KT.app_list,Jt,Jt,Jt]
def jnj(c):(⟨#[c]⟩:Str)=S [c]:=rfl
def yK{α:Type}(xs:List α)(lo hi:Option Int):List α:=(xs.drop<|HT.sIx xs.length 0 lo).take (HT.sIx xs.length xs.length hi-HT.sIx xs.length 0 lo)
def jcu(xs:List α)(k:Nat):yK xs none (some (k:Int))=xs.take k:=by
 unfold yK;rw[HT.sIx_none,HT.sIx_nat];simp[List.take_eq_take_iff]
def jcP(lo hi)(n):Builtin.Str.strSliceIndices lo hi 1 n=(List.range<|HT.sIx n n hi-HT.sIx n 0 lo).map (HT.sIx n 0 lo+·):=by
 have a:∀ o d,(match o with | none=>d | some i=>(let i:=if i<0 then i+n else i;if 1>0 then max 0 (min i n) else max (-1) (min i<|n-1)))=((HT.sIx n d o:Nat):Int):=by
  intro o d;cases o with
  | none=>rfl
  | some v=>
   show(if 1>0 then max 0 (min (if v<0 then v+n else v) n) else _)=(((if v<0 then(v+n).toNat else min v.toNat n):Nat):Int);by_cases b:v<0
   ·lia
   ·lia
 rw[<- sliceRange_one,<- a lo 0,<- a hi n];rfl
def ji1(l)(lo hi):Txt.slice (S l) lo hi=S (yK l lo hi):=by
 have g:HT.sIx l.length l.length hi<=l.length:=HT.sIx_le _ _ (M8 _) _;have e:(Builtin.Str.strSliceIndices lo hi 1 (S l).length).filterMap ((S l).cps[·]?)=yK l lo hi:=by
  rw[V0,jcP];by_cases b:HT.sIx l.length 0 lo<=HT.sIx l.length l.length hi
  ·have c:=(StrLaws.picks l (HT.sIx l.length l.length hi-HT.sIx l.length 0 lo)<|HT.sIx l.length 0 lo) ∅;unfold yK;rw[<- c];simp[S]
  ·have z:HT.sIx l.length l.length hi-HT.sIx l.length 0 lo=0:=by lia
   unfold yK;rw[z];simp
 unfold Txt.slice;split
 ·rename_i h;have d:(Builtin.Str.strSliceIndices lo hi 1 (S l).length).length=(S l).length:=by lia
  rw[V0,jcP,L1,List.length_range] at d;unfold yK;by_cases a:l.length=0
  ·have:=List.length_eq_zero_iff.mp a;subst this;simp
  ·have f:HT.sIx l.length 0 lo=0:=by lia
   rw[f,List.drop_zero,List.take_of_length_le ∅]
 ·rw[e];rfl
def jpv:V->Option Int->Option Int->Hp->VK->Prop:=λx lo hi H Q=>∃ l,x=.str (S l)/\l.length<=sizeLine/\Q (.str<|S<|yK l lo hi) H
def jgp(p:IsPart v o):∃ q:Option (Int×Tok),v=partValue q/\q.map (·.1)=o:=by
 cases p with
 | none=>exact⟨none,rfl,rfl⟩
 | int i t=>exact⟨some (i,t),rfl,rfl⟩
def jkZ:SlR X jpv:=by
 intro a s σ H x v n o lo hi sl Q I e f pl g h;obtain⟨l,rfl,i,q⟩:=h;obtain⟨t,rfl⟩:=e;obtain⟨b,rfl,j⟩:=jgp pl;obtain⟨c,rfl,m⟩:=jgp g;refine⟨"str",_,F.slot_str_getitem.lookup,typeIs_str _ _ _,wpAny_getItem_str_slice (st:=none) f rfl ?_⟩;have key:∀ d k,EP X a σ Q (.str (Txt.slice (S l) lo hi) d) {s with toks:=k}:=λd k=>by
  rw[ji1 l lo hi];exact⟨.str<|S<|yK l lo hi,H,I.tok k,⟨d,rfl⟩,q⟩
 have e2:sliceMade (S l) t b c none=(if(1==1&&(Builtin.Str.strSliceIndices lo hi 1 (S l).length).length==(S l).length)=true then Made.val (.str (S l) t) else Made.str ⟨((Builtin.Str.strSliceIndices lo hi 1 (S l).length).filterMap ((S l).cps[·]?)).toArray⟩):=by
  unfold sliceMade slicePicked;rw[j,m];rfl
 rw[e2];refine post_val_or_str ⟨?_,key⟩;exact N6 (Txt.slice_le (S l) lo hi) (by rw[V0];exact i)
def Its(l:List Nat):It:=⟨λi _=>i<l.length,λi H x H'=>H'=H/\∃ c,l[i]?=some c/\x=.str (S [c]),λi _=>l.length<=i⟩
def jfI{tg}{P}{w}{K}(a)(l)(t)(ty)(j:ty = "str_ascii_iterator" \/ ty = "str_iterator")
  (W:∀ A:Around,A.handled=none->Walks P w A a [a] [a] (S l).cps.size (SignAt<|S l) (λi h=>h.IsStrIter a ty (S l) t i)):Turn P w K tg (Its l) [a] a (λi h=>h.IsStrIter a ty (S l) t i) where
 mem:=by simp
 obj:=λi h f b m=>by
  have e:b=a:=by simpa using m
  subst e;obtain⟨o,e,c,d⟩:=f;exact⟨o,e,λv z=>by rw[d] at z;cases z⟩
 keep:=λi h p f k=>by
  obtain⟨o,e,r⟩:=f;exact⟨o,k a (by simp) o e,r⟩
 item:=by
  intro X O Q R q i g s σ H E I x f G;obtain⟨y,B,T,C,D,F⟩:=x a (by simp);have J:(S l).cps.size=l.length:=by rfl
  refine(W X.A<|I.ok.hd q).item i s _ _ (by rw[J];exact G) f λv p U V n Y=>?_;obtain⟨c,u,L,rfl⟩:=V;have Z:Inv X g σ H {s with heap:=p,toks:=U}:=I.turned (λb o m e=>Y b o ⇑m e) y B C D F;obtain⟨o,e,ct,d⟩:=id n;refine⟨_,rfl,jaS e ct d (by rcases j with z | z<;>subst z<;>decide) ⟨.str<|S [c],H,Z,⟨u,rfl⟩,⟨rfl,c,by simpa [S] using L,rfl⟩,n,λb m=>(x b m).1⟩⟩
 done:=by
  intro X O Q R q i g s σ H E I x f G;obtain⟨y,B,T,C,D,F⟩:=x a (by simp);have N:(S l).cps[i]?=none:=by
   have:l.length<=i:=G;simp[S,this]
  rcases j with z | z
  ·subst z;exact wpAny_pyNext_ascii_end (I.ok.hd q) f N λp M=>⟨rfl,I.turned (M) y B C D F⟩
  ·subst z;exact wpAny_pyNext_wide_end (I.ok.hd q) f N λp M=>⟨rfl,I.turned (M) y B C D F⟩
 self:=λ_ _ _ _ _ f h=>by
  rcases j with z | z
  ·subst z;exact wpAny_pyIter_striter_ascii f h
  ·subst z;exact wpAny_pyIter_striter_wide f h
def jmO:OpR X (compareOp .In) (λx y H Q=>∃ c l,x=.str (S [c])/\y=.str (S l)/\Q (.bl<|decide<|c∈l) H):=by
 intro a s σ H x y v u Q I b d h;obtain⟨c,l,rfl,rfl,q⟩:=h;refine jdF a s σ H _ _ v u Q I b d ⟨_,_,rfl,rfl,?_⟩;rw[<- jnj,StrLaws.found_one,Jt];exact q
def jdZ:OpR X (compareOp .NotIn) (λx y H Q=>∃ c l,x=.str (S [c])/\y=.str (S l)/\Q (.bl<|!decide (c∈l)) H):=by
 intro a s σ H x y v u Q I b d h;obtain⟨c,l,rfl,rfl,q⟩:=h;refine zu a s σ H _ _ v u Q I b d ⟨_,_,rfl,rfl,?_⟩;rw[<- jnj,StrLaws.found_one,Jt];exact q
def jha:OpR X (binaryOp .Add) (λx y H Q=>∃ a b,x=.str (S a)/\y=.str (S b)/\a.length+b.length<=sizeLine/\Q (.str<|S<|a++b) H):=by
 intro c s σ H x y v u Q I d e h;obtain⟨a,b,rfl,rfl,f,q⟩:=h;refine jaN c s σ H _ _ v u Q I d e ⟨_,_,rfl,rfl,by rw[V0,V0];exact f,?_⟩;rw[jnD];exact q
def ji3:OpR X (binaryOp .Mult) (rI (λi j=>Builtin.Int.intBits i<=2 ^ 20/\Builtin.Int.intBits j<=2 ^ 20) λi j=>.int<|i*j):=opI λ_ _ _ _ _ _ _ a q=>mul_int q<|IntMulOk.of_bits a.1 a.2
def jaQ(h:i.natAbs<2 ^ m)(a:m<=2 ^ 20):Builtin.Int.intBits i<=2 ^ 20:=N6 (PySem.intBits_le_iff.mpr h) a
def xT{A}{bs:List Bool}{its}(r:Vals (bs.map V.bl) its):TruthOf P w A (λi v=>its.toArray[i]?=some v) (λi=>bs.getD i false):=by
 intro i v s Q E c d;have a:its[i]?=some v:=by simpa using c
 have hi:=(L9.mp a).1;have e:=r.length;rw[L1] at e;have f:(bs.map V.bl)[i]?=some (V.bl<|bs.getD i false):=by grind
 obtain⟨u,b,g⟩:=r.get f;rw[a] at b;cases b;cases g;exact M6 d
def jcs:∀(bs:List Bool),(List.range bs.length).all (λi=>bs.getD i false)=bs.all (λb=>b):=by
 intro bs;rw[Bool.eq_iff_iff,List.all_eq_true,List.all_eq_true];constructor
 ·intro h b c;obtain⟨i,hi,e⟩:=List.mem_iff_getElem.mp c;have:=h i<|List.mem_range.mpr hi;rw[List.getD_eq_getElem?_getD,X5 hi,e] at this;exact this
 ·intro h i hi;have a:=List.mem_range.mp hi;rw[List.getD_eq_getElem?_getD,X5 a];exact h _<|List.getElem_mem a
def jet(j:X.calm=true):kD X (.builtin "all") (λxs H Q=>∃(p:Addr) (bs:List Bool),xs=[.ref p]/\SqL X.K H p (bs.map V.bl)/\Q (.bl<|bs.all λb=>b) H):=by
 intro d s σ H xs v Q I r h;obtain⟨p,bs,rfl,k,q⟩:=h;obtain⟨u,rfl,l⟩:=r.one;cases l;obtain⟨a,f,pl,w⟩:=I.list k;have c:p < ↥s:=by
  obtain⟨o,n,e,_⟩:=pl;exact N0 e
 have g:=f.length;rw[L1] at g;refine call_all_walk<|wpAny_pyIter_list pl.isList ⟨↥s,_,_,_,_,_,λi=>bs.getD i false,rfl,Walks.list (by exact I.ok.hd j) ↥s p (N5 c) a.toArray,⟨⟨_,X7 _ rfl,rfl,rfl⟩,?_⟩,xT f,λx y m=>?_⟩
 ·obtain⟨o,e,r⟩:=pl.isList;exact⟨o,L8 _ e,r⟩
 ·rw[N2,<- g,jcs];refine⟨.bl<|bs.all λb=>b,H,I.kept λb o e=>m b o ?_<|L8 _ e,rfl,q⟩;intro t;have:b=↥s:=by simpa using t
  exact absurd (N0 e) ∅
def SqX(K:W5)(H:Hp)(a:Addr)(xs:List V):Prop:=
 Rd H a (.lst xs) \/ ∃ its n,K.lookup a=some {cls:=.type "list",data:=.seq its n}/\its.size<=sizeLine/\Vals xs its.toList
def SqX.sq{K}{H}{a}{xs}(h:SqX K H a xs):SqL K H a xs:=by
 rcases h with h | ⟨b,n,c,d,r⟩
 ·exact .inl h
 ·exact .inr ⟨_,b,n,c,rfl,rfl,rfl,d,r⟩
def SqX.of{K}{H}{a}{xs}(h:H a=some (.lst xs)):SqX K H a xs:=.inl<|.inl h
def Inv.listX(I:Inv X pins σ H s)(h:SqX X.K H a xs):Ex2 λits n=>An3 (Vals xs its) (s.heap.get? a=some {cls:=.type "list",data:=.seq its.toArray n}) (xs.length<=sizeLine):=by
 rcases h with h | ⟨its,n,b,c,r⟩
 ·obtain⟨z,its,n,r,e⟩:=h.ok I.hok;exact⟨its,n,r,e,z⟩
 ·refine⟨its.toList,n,r,by simpa using I.kIn a _ b,?_⟩;have e:=r.length;simp only[Array.length_toList] at e
  lia
def jlk(K:W5):R2:=λx y H Q=>∃ l b xs zs,x=.ref l/\y=.ref b/\SqX K H l xs/\SqX K H b zs/\xs.length+zs.length<=sizeLine/\∀ p,H p=none->Q (.ref p) (upd H p<|.lst<|xs++zs)
def jhX:OpR X (binaryOp .Add) (jlk X.K):=by
 intro d s σ H x y v u Q I f g h;obtain⟨l,b,o,p,rfl,rfl,i,j,t,q⟩:=h;cases f;cases g;obtain⟨c,n,r,e,_⟩:=I.listX i;obtain⟨a,w,r2,e2,_⟩:=I.listX j;have z:=r.length;have k:=r2.length;refine PySem.P.add_list e e2 ?_ (by rw[N2,N2];lia);have m:c.toArray++a.toArray=(c++a).toArray:=by simp
 rw[m];exact⟨.ref _,_,I.lnew (r.append r2)<|by rw[N3];lia,rfl,q _ I.fresh⟩
def w8{ns:List Int}(h:PySem.W.WData.layableAll [PySem.W.WData.list<|ns.map PySem.W.WData.int]=true):∀ x∈ns,Builtin.Int.intBits x<=2 ^ 20:=by
 intro x c;have e:PySem.W.ofPy (.list<|ns.map .int)=PySem.W.WData.list (ns.map PySem.W.WData.int):=by
  have f:∀ a:List Int,PySem.W.ofPys (a.map PyData.int)=a.map PySem.W.WData.int:=by
   intro a
   induction a with
   | nil=>rfl
   | cons m a g=>simp[PySem.W.ofPys,PySem.W.ofPy,g]
  simp[PySem.W.ofPy,f]
 have b:=PySem.W.lay0_ofPy (s:=.list .int) (d:=.list<|ns.map .int) rfl (by simp[Shape.has]) (by rw[e];exact((PySem.W.layW_cons h).1));have i:PyData.layable0 (.list<|ns.map .int)=true:=by
  simp[PyData.layableAll0] at b;exact b
 exact PyData.bits_item_of_ints i c
def walk_ofB{l:PySem.W.OpenLaw}{n k}{j}{Q}{L}{d}{K:Params->PySem.W.Frag}{CX:World->CXT}{sp:World->Sp} 
  (R:l.most=some n) (z:n<=sizeLine) (A:d.params.defaults=[]) (S:Room k callerA)
  (U:∀ w h,L w h->(K w.params).In h)
  (F:∀ w mg fa h,(K w.params).In h->h.Ns mainGlobals mg->mg d.name=some (.ref fa) ->
   ∃ fd:FuncData,(∀ s u,BindsTo s fd ⟨[u],[]⟩ [(x,u)]) /\
    ∀ base:Heap,(K w.params).In base->base.Ns mainGlobals mg->FnOk l.prog w (K w.params) mg base (CX w) k fa fd [x] (sp w))
  (B:∀ w H a (ns:List Int),ns.length<=n->(∀ x∈ns,Builtin.Int.intBits x<=2 ^ 20)->jn9 H->SqX (K w.params) H a (ns.map V.int)->sp w [.ref a] H (λv _=>v=.bl true) λ_ _ _=>False)
  (C:∀ w H s e s',CX w [] H s (λ_ _ _=>False) e s'->False):
  PySem.W.WalkO q j Q L l.row.toRowW d [] (λf vs=>PySem.call f vs):=by
 intro w s₀ X mg mb G Y fa o pm cd Z dV kV ho hd hcd M D hg N O as t y hrd E hlo;obtain rfl:dV=.none:=PySem.W.Dflts.none M A;obtain rfl:kV=.none:=PySem.W.Dflts.noKw M;obtain⟨a,vs,ns,rfl,rfl,c,p,i⟩:=Att.script_of R t E;have I:=U w _ Y;obtain⟨fd,hb,hF⟩:=F w mg fa _ I G.T.g D;refine PySem.W.enter_call<|codeAny_mono (jgb I G.T.g G.T.b G.T.builtins G.T.nolimit hg c p (N6 i z) S hF hb (λH hO hS=>B w H a ns i (w8 y) hO ?_) λH e s'=>C w H X e s') λr s' hq=>?_
 ·rcases hS with h | ⟨o,its,m,P,_,_,J,hz,r⟩
  ·exact .inl h
  ·have e:=I a o P;rw[c] at e;cases e;cases J;exact .inr ⟨_,_,P,hz,r⟩
 ·obtain⟨rfl,h2,h3,h4⟩:=hq;exact⟨.inl ⟨.bool true,.bool true,[],rfl,λ_=>rfl,.bool true,Att.post_true l _,λ_=>⟨List.Pairwise.nil,λ_ hm=>(nomatch hm)⟩⟩,h2,h3,h4⟩
noncomputable def QC(sc:Scope)(N:List Str)(scope:Scope)(N':List Str)(ix:List<|Option Nat):Bool:=
 decide (scope.kind=.function)&&decide (sc.kind=.function)&&scope.names.all (λy=>!decide (y.2=.cell)||decide (scope.names.lookup y.1=some .cell))&&scope.names.all (λy=>!decide (y.2=.local)||decide (scope.names.lookup y.1=some .local)) &&
 scope.names.all (λy=>!decide (y.2=.free)||(decide (scope.names.lookup y.1=some .free)&&(decide (sc.names.lookup y.1=some .cell)||decide (sc.names.lookup y.1=some .free))))&&decide N'.Nodup&&decide (ix.length=N'.length) &&
 (List.range ix.length).all (λi=>match ix[i]? with | some (some j)=>(match N'[i]? with | some x=>decide (N[j]?=some x)&&decide ((x,NameKind.free)∈scope.names) | none=>true) | _=>true)
def jiw{X}{scope}{N'}{ix}(sc)(N)(h1:X.env.scope=sc)(h2:X.N=N)(h:QC sc N scope N' ix=true):BlockOk X scope N' ix:=by
 subst h1;subst h2;unfold QC at h;simp only[M0,decide_eq_true_eq,List.all_eq_true,Bool.or_eq_true,Bool.not_eq_true',decide_eq_false_iff_not] at h;obtain⟨⟨⟨⟨⟨⟨⟨c,d⟩,f⟩,g⟩,b⟩,k⟩,l⟩,m⟩:=h;refine⟨c,λy a e=>((g y a).elim (absurd e) id),λy a e=>((f y a).elim (absurd e) id),λy a e=>((b y a).elim (absurd e) λz=>z.1),λy a e=>((b y a).elim (absurd e) λz=>z.2),k,l,λi j x h1 h2=>?_,d⟩
 ·have hi:=(L9.mp h1).1;have z:=m i<|List.mem_range.mpr hi;rw[h1,h2] at z;simp only[M0,decide_eq_true_eq] at z;exact z
structure FnFact(K:W5)(mg:W7)(x qual:Str)(st:Stmt)(f:Addr)(fd:FuncData)(ps:List Str):Prop where
 fn:Fun K x qual st f fd
 mgf:mg x=some (.ref f)
 bd:Binds K fd ps []
section
variable {X:Cx}{k:Nat}{f:Addr}{fd:FuncData}{ps:List Str}{sp:Sp}{x qual:Str}{st:Stmt}{p pos:Pos}{e:Expr}{es:List Expr}{t:TA}
def jhx(F:FnFact X.K X.mg x qual st f fd ps)(G:FnOk X.prog X.w X.K X.mg X.base CX0 k f fd ps sp)(c:Room k X.A)(d:PA X (e::es) t)(g:Gl X x:=by rfl)(a:Nd x:=by decide)
  (h:SEq X e es:=by rfl) (b:BkE X pos es:=by rfl):PE X (.Call (.Name x p) (e::es) [] pos) (Qt sp [] E0 t):=
 jjp G c g F.mgf F.fn.kp F.bd .nil je4 d a h b
end
def jjj:OpR X (binaryOp .Mult) (λx y H Q=>∃ a n,x=.str (S a)/\y=.int n/\a.length<=1000/\0<=n/\n<=1000/\Q (.str<|S (List.replicate n.toNat a).flatten) H):=by
 intro f s σ H x y v u Q I g i h;obtain⟨a,n,rfl,rfl,j,w,l,q⟩:=h;obtain⟨k,rfl⟩:∃ k:Nat,n=k:=⟨n.toNat,by lia⟩;have m:k<=1000:=by lia
 obtain⟨t,rfl⟩:=g;obtain⟨o,rfl⟩:=i;have hok:MulOk (S a) k:=by
  refine⟨by simp;lia,λd c=>?_,λd c=>?_⟩
  ·rw[V0];have A:1000<=(2 ^ 63-1)/(k:Int):=by
    rw[Int.le_ediv_iff_mul_le ∅]
    lia
   lia
  ·rw[V0,N7];have B:a.length*k<=sizeLine:=N6 (Nat.mul_le_mul j m) (by decide);exact X1 ∅
 have e:Txt.mul (S a) k=S (List.replicate k a).flatten:=by
  have p:∀ n b,((List.replicate n a.toArray).foldl (·++·) b).toList=b.toList++(List.replicate n a).flatten:=by
   intro n
   induction n with
   | zero=>intro b;simp
   | succ n r=>intro b;rw[List.replicate_succ,U9,r];simp[List.replicate_succ]
  unfold Txt.mul;apply PyProof.Rows.ext_toList;rw[Jt];by_cases d:(k:Int)<1
  ·have:k=0:=by lia
   subst this;simp[Str.empty]
  ·rw[if_neg d];by_cases c:((k:Int)==1||(S a).length==0)=true
   ·rw[if_pos c,Jt];rw[V0] at c;simp at c;rcases c with z | z
    ·have:k=1:=by lia
     subst this;simp
    ·subst z;simp
   ·rw[if_neg c,N7];exact(p k #[])
 refine SB.mul hok λo C=>?_;rw[e];exact⟨.str _,H,I.tok _,⟨_,rfl⟩,q⟩
section
variable {X:Cx}{pins:List (Addr×Obj)}{σ:St}{H:Hp}{s:Shared}{h':Heap}
def Inv.turnedNew{t'}{g:W6}{T:Addr}{xs}{its}(I:Inv X pins σ H s)(k:∀ b o,b∉g->s.heap.get? b=some o->h'.get? b=some o)(h:∀ b∈g,jaI X pins H b)
  (i:↥s<=T) (l:IsTupN h' T its) (p:Vals xs its.toList) (t:xs.length<=sizeLine):Inv X pins σ (upd H T<|.tup xs) {s with heap:=h',toks:=t'}:=by
 have j:∀ b u,H b=some u->b∉g:=λb u e z=>by rw[(h b z).1] at e;cases e
 have d:∀ b u,H b=some u->b≠T:=λb u e z=>by rw[z,I.hok.fresh i] at e;cases e
 refine I.step (λb f=>?_) (λb o _ _ a e _=>k b o a e) (λb o _ _ a e _=>⟨o.slots,k b o a e⟩) (λb o _ e n=>?_)
  (λb o a e=>⟨o,k b o a e⟩) (λb w e=>by rw[je<|d b _ e];exact e) (λb o u e=>by rw[je<|d b _ e];exact e) (λb G e=>⟨#[],by rw[je<|d b _ e,e];simp⟩) (λm x=>?_) (λb u e=>?_) I.bare
 ·obtain⟨_,y,_,A,B,C⟩:=h b f;exact⟨A,y,B,C⟩
 ·rw[je<|λz=>absurd (N0 e)<|by rw[z];exact Nat.not_lt.mpr i];exact n
 ·obtain⟨o,D,E,F,r⟩:=x;refine⟨o,D,E,k _ o (λz=>(h _ z).2.1 rfl) F,r⟩
 ·by_cases f:b=T
  ·subst f;rw[jk] at e;cases e;exact⟨t,its.toList,p,by simpa using l⟩
  ·rw[je f] at e;refine(I.hok b u e).stay (λc v a q=>k c v ?_ q) (λc q=>by rw[je<|d c _ q];exact q) λc w q=>by rw[je<|d c _ q];exact q
   rcases a with z | z
   ·rw[z];exact j b u e
   ·exact j c _ z
def Inv.turnedL{t'}{d:W6}(I:Inv X pins σ H s)(k:∀ b o,b∉d->s.heap.get? b=some o->h'.get? b=some o)(f:∀ b∈d,jaI X pins H b):Inv X pins σ H {s with heap:=h',toks:=t'}:=by
 have g:∀ b u,H b=some u->b∉d:=λb u e z=>by rw[(f b z).1] at e;cases e
 refine I.step (λb h=>?_) (λb o _ _ a e _=>k b o a e) (λb o _ _ a e _=>⟨o.slots,k b o a e⟩) (λb o _ e n=>n)
  (λb o a e=>⟨o,k b o a e⟩) (λb A e=>e) (λb o u e=>e) (λb B e=>⟨#[],by rw[e];simp⟩) (λm i=>?_) (λb u e=>?_) I.bare
 ·obtain⟨_,j,_,l,p,t⟩:=f b h;exact⟨l,j,p,t⟩
 ·obtain⟨o,w,x,y,r⟩:=i;refine⟨o,w,x,k _ o (λz=>(f _ z).2.1 rfl) y,r⟩
 ·refine(I.hok b u e).stay (λc v a q=>k c v ?_ q) (λ_ q=>q) λ_ _ q=>q;rcases a with z | z
  ·rw[z];exact g b u e
  ·exact g c _ z
end
def jiF{A}{E}{s:Shared}{i}{n}{us}{C:J0}
  (h:IsEnum s.heap e it n was) (hi:s.heap.IsListIter it l i) (I:s.heap.IsList l us) (J:us[i]?=some x) (ne:e≠it)
  (go:∀ k,IsEnumOut k e it (n+1) x ↥s->k.IsListIter it l (i+1)->k.get? ↥s=some {cls:=.type "tuple",data:=.seq #[.int n s.toks,x]} ->
   (∀ b o,b≠e->b≠it->s.heap.get? b=some o->k.get? b=some o)->C (.ref ↥s) {s with heap:=k,toks:=s.toks+1}):
  wpAny (model prog w) A (Builtin.«enumerate.__next__» ⟨[.ref e],[]⟩) (λfin s'=>∃ v,fin=.done (.ret v)/\C v s') E s:=by
 obtain⟨j,g,d,c,os⟩:=s;show wpAny _ _ (field (.ref e) 2 >>= _) _ _ _;refine L3<|U5 h rfl rfl<|L3<|wpAny_nextOf_list_item hi I J λQ K m=>?_;have p:=(m.2 e ne).trans h;refine L3<|U5 p rfl rfl<|L3<|U5 p rfl rfl<|L3<|wpAny_mkInt<|L3<|wpAny_setField_rec p (by simp) λR e2 q=>(L3<|wpAny_setField_rec e2 (by simp) λt e3 u=>(L3<|wpAny_newTuple ?_));have f:IsEnum (t.push {cls:=.type "tuple",data:=.seq #[.int n c,x]}) e it (n+1) was:=L8 _ e3;generalize y:t.push {cls:=.type "tuple",data:=.seq #[.int n c,x]}=k4 at f;have H:t.objs.size=j.objs.size:=by rw[u.1,q.1,m.1]
 have lt:=N0 h;have L:k4.get? j.objs.size=some {cls:=.type "tuple",data:=.seq #[.int n c,x]}:=by rw[<- y,<- H];exact X7 _ rfl
 have kp:∀ b o,b≠e->b≠it->j.get? b=some o->k4.get? b=some o:=λb o a z B=>by
  rw[<- y];exact L8 _<|u.extBut b o a<|q.extBut b o a<|m.extBut b o z B
 have M:k4.IsListIter it l (i+1):=by
  rw[<- y];obtain⟨o,N,r⟩:=(K.extBut q.extBut ne.symm).extBut u.extBut ne.symm;exact⟨o,L8 _ N,r⟩
 show wpAny _ _ (Builtin.SmallTypes.ownedTupleIsFree (.ref e) >>= _) _ _ ⟨k4,g,d,c+1,os⟩;rw[H];refine L3<|L3<|U5 f rfl rfl<|M6<|L3<|wpAny_rule<|L3<|U5 f rfl rfl<|L3<|wpAny_setField_rec f (by simp) λS e5 D=>(L3<|L3<|wpAny_setField_rec e5 (by simp) λT O F=>(wpAny_setField_rec O (by simp) λP e7 G=>(L3<|wpAny_letGo<|M6 ⟨_,rfl,go P e7 (((M.extBut D.extBut ne.symm).extBut F.extBut ne.symm).extBut G.extBut ne.symm) (G.extBut _ _ (Nat.ne_of_gt lt)<|F.extBut _ _ (Nat.ne_of_gt lt)<|D.extBut _ _ (Nat.ne_of_gt lt) L)<|λb o a z B=>G.extBut b o a<|F.extBut b o a<|D.extBut b o a<|kp b o a z B⟩)))
def jiE 
  (a:IsEnum s.heap e it n was) (hi:s.heap.IsListIter it l i) (c:s.heap.IsList l us) (d:us[i]?=some x) (ne:e≠it)
  (go:∀ k,IsEnumOut k e it (n+1) x ↥s->k.IsListIter it l (i+1)->k.get? ↥s=some {cls:=.type "tuple",data:=.seq #[.int n s.toks,x]} ->
   (∀ b o,b≠e->b≠it->s.heap.get? b=some o->k.get? b=some o)->C (some<|.ref ↥s) {s with heap:=k,toks:=s.toks+1}):wpAny (model prog w) A (pyNext<|.ref e) C E s:=by
 have ty:s.TypeIs (.ref e) "enumerate":=⟨_,a,rfl⟩;exact L3<|wpAny_attempt<|wpAny_callSpecial?_slot ty F.slot_enumerate_next<|wpAny_call_entry F.slot_enumerate_next ty F.entry_enumerate_next (jiF a hi c d ne λk c1 f g h=>M6<|go k c1 f g h)<|F.args_enumerate_next_1 _
def jju(d:A.handled=none)
  (c:IsEnum s.heap e it n was) (hi:s.heap.IsListIter it l i) (f:s.heap.IsList l us) (a:us[i]?=none)
  (go:∀ k,Heap.ExtBut it s.heap k->C none {s with heap:=k}):wpAny (model prog w) A (pyNext<|.ref e) C E s:=by
 have ty:s.TypeIs (.ref e) "enumerate":=⟨_,c,rfl⟩;refine L3<|wpAny_attempt<|wpAny_callSpecial?_slot ty F.slot_enumerate_next<|wpAny_call_entry F.slot_enumerate_next ty F.entry_enumerate_next ?_<|F.args_enumerate_next_1 _;show wpAny _ _ (field (.ref e) 2 >>= _) _ _ _;refine L3<|U5 c rfl rfl<|L3<|wpAny_nextOf_list_end d hi f a λk x b a=>?_;obtain⟨o,g,h⟩:=a;exact L3<|wpAny_isInstance ⟨o,g,h⟩ isSubtype_stop<|M6<|go _ b
def Itn(K:W5)(l:Addr)(n:Int):It:=
 ⟨λi H=>∃ xs x,SqL K H l xs/\xs[i]?=some x,λi H x H'=>∃ p v,(∀ xs,SqL K H l xs->xs[i]?=some v)/\x=.ref p/\H p=none/\H'=upd H p (.tup [.int<|n+i,v]),λi H=>∃ xs,SqL K H l xs/\xs.length<=i⟩
def jcU{P}{w}{K}{elts}{m}{pos}(e a l)(n)(t:e≠a)(Y:l≠e)(Z:l≠a):
  Turn P w K (.Tuple elts m pos) (Itn K l n) [e,a] e (λi h=>(∃ old,IsEnum h e a (n+i) old)/\h.IsListIter a l i) where
 mem:=by simp
 obj:=λi h c b d=>by
  obtain⟨⟨old,f⟩,o,F,G,hd⟩:=c;rcases(⇑d:b=e\/b=a) with z | z
  ·subst z;exact⟨_,f,λv q=>by cases q⟩
  ·subst z;exact⟨o,F,λv q=>by rw[hd] at q;cases q⟩
 keep:=λi h h' c k=>by
  obtain⟨⟨old,f⟩,hit⟩:=c;exact⟨⟨old,k e (by simp) _ f⟩,hit.at<|k a<|by simp⟩
 item:=by
  intro X J L M G i y s σ H E I C c N;subst J L M;obtain⟨V,x,D,O⟩:=N;obtain⟨Q,R,p,hz⟩:=I.list D;obtain⟨u,hu,ru⟩:=R.get O;obtain⟨⟨old,f⟩,hit⟩:=c;refine jiE f hit p.isList ⇑hu t λh1 F A hT hk=>⟨_,rfl,wpAny_letOwnedTupleGo_enum F λW S j=>?_⟩;have g:=N0 f;have B:=(j.2 _<|Nat.ne_of_gt g).trans hT;have kk:∀ b o,b∉[e,a]->s.heap.get? b=some o->W.get? b=some o:=λb o d q=>by
   have r:b≠e/\b≠a:=by simpa using d
   exact(j.2 b r.1).trans (hk b o r.1 r.2 q)
  have I1:=I.turnedNew (t':=s.toks+1) (xs:=[.int<|n+i,x]) kk C (M8 _) ⟨⟨_,B,rfl,_,rfl⟩,_,B,rfl⟩ (.cons ⟨_,rfl⟩<|.cons ru .nil) (by show 2<=sizeLine;decide);have T:IsEnum W e a (n+((i+1:Nat):Int)) u:=by
   have q:=S;rw[show n+((i+1:Nat):Int)=n+i+1 by lia];exact q
  refine⟨.ref ↥s,_,I1,rfl,⟨_,x,(λys hy=>by rw[I.list_inj hy D];exact O),rfl,I.hok.fresh<|M8 _,rfl⟩,⟨⟨_,T⟩,A.at λo q=>(j.2 a t.symm).trans q⟩,λb d=>?_⟩;rw[je]
  ·exact(C b d).1
  ·intro z;have:b < ↥s:=by
    obtain⟨oi,U,_⟩:=id hit;rcases(⇑d:b=e\/b=a) with q | q
    ·rw[q];exact g
    ·rw[q];exact N0 U
   exact absurd this (by rw[z];exact Nat.lt_irrefl _)
 done:=by
  intro X J L M G i y s σ H E I C c N;subst J L M;obtain⟨V,D,O⟩:=N;obtain⟨Q,R,p,hz⟩:=I.list D;obtain⟨⟨old,f⟩,hit⟩:=c;have hl:=R.length;exact jju (I.ok.hd G) f hit p.isList (by simp;lia) λh1 eb=>⟨rfl,I.turnedL (λb o d q=>eb b o (by simp at d;exact d.2) q) C⟩
 self:=λ_ _ _ _ _ c h=>wpAny_pyIter_enum c.1.choose_spec h
def jjF(K:W5)(tl:TA):TI:=λσ H R=>tl σ H λvs H1=>∃ a xs,vs=[.ref a]/\SqL K H1 a xs/\R (Itn K a 0) H1
section
variable {X:Cx}
def ji4{elts}{n}{tpos p pos}{a}{ta}(k:Gl X "enumerate")(m:X.mg "enumerate" = none)(r:PA X [a] ta)(t:starEach [a] X.env=[(false,eval a X.env)]:=by rfl):
  PI X (.Tuple elts n tpos) (.Call (.Name "enumerate" p) [a] [] pos) (jjF X.K ta):=by
 intro c s σ H R I h;refine Call_<|JV I k m (show bootBuiltins "enumerate" = some (.type "enumerate") by decide +kernel)<|PyProof.Rows.callWith_type1 (thn (r pos c s σ H _ I h) λF s1 ⟨vs,i,g,r1,v⟩=>?_) t rfl;obtain⟨l,G,rfl,w,q⟩:=v;obtain⟨u,rfl,x⟩:=r1.one;cases x;obtain⟨y,J,pl,L⟩:=g.list w;have d:l < ↥s1:=by
  obtain⟨o,_,e,_⟩:=pl;exact N0 e
 refine call_enumerate_list pl.isList λA j hit B C=>?_;have D:Inv X c σ i {s1 with heap:=A}:=g.kept C;refine PySem.wpAny_pyIter_enum j ⟨↥s1+1,[↥s1+1,↥s1],_,_,i,rfl,D,jcU _ _ l 0 (Nat.succ_ne_self _) (N5<|Nat.lt_succ_of_lt d)<|N5 d,⟨⟨_,by simpa using j⟩,hit⟩,λb E=>?_,q⟩;have f:↥s1<=b:=by
  rcases(⇑E:b=↥s1+1\/b=↥s1) with z | z
  ·rw[z];exact Nat.le_succ _
  ·rw[z];exact M8 _
 exact g.fpOk f<|g.hok.fresh f
end
section
variable {X:Cx}
def jd0(d:X.calm=true):kD X (.builtin "sum") (λxs H Q=>∃(p:Addr) (ns:List Int),xs=[.ref p]/\SqL X.K H p (ns.map V.int)/\Q (.int ns.sum) H):=by
 intro b s σ H xs l Q I r h;obtain⟨p,ns,rfl,e,q⟩:=h;obtain⟨u,rfl,f⟩:=r.one;cases f;obtain⟨g,i,pl,m⟩:=I.list e;have hi:=jbh i;obtain⟨a,c⟩:=hi.allInts.items;refine sum_intListG (I.ok.hd d) (c▸pl.isList) λn o t j=>?_;have k:ns=a.toList.map (·.1):=by
  rw[<- nums_intItems,<- c];exact(hi.numsOf).symm
 have e2:preSum (numAt a) a.size=ns.sum:=by
  rw[preSum_eq,List.take_of_length_le<|by simp,k]
 rw[e2];exact⟨.int ns.sum,H,I.kept j,⟨_,rfl⟩,q⟩
inductive TyQ (K:W5) (H:Hp):V->String->Prop where
 | non:TyQ K H .non "NoneType"
 | bl (x:Bool):TyQ K H (.bl x) "bool"
 | int (i:Int):TyQ K H (.int i) "int"
 | str (x:Str):TyQ K H (.str x) "str"
 | lst {a:Addr}{xs:List V}(e:SqL K H a xs):TyQ K H (.ref a) "list"
 | tup {a:Addr}{xs:List V}(e:SqT K H a xs):TyQ K H (.ref a) "tuple"
 | dK {a:Addr}{kvs:List (Key×V)}(e:H a=some (.dK kvs)):TyQ K H (.ref a) "dict"
def zZ:kD X (.builtin "isinstance") (λxs H Q=>∃ x T t b,xs=[x,.ty T]/\TyQ X.K H x t/\PySem.W.kitOne X.K (.type t) (.type T)=some b/\Q (.bl b) H):=by
 intro d s σ H xs w Q I r h;obtain⟨x,T,t,b,rfl,ty,e,q⟩:=h;obtain⟨u,v,rfl,r1,r2⟩:=r.two;cases r2;have c:∀ k,EP X d σ Q (.bool b) {s with toks:=k}:=λk=>⟨.bl b,H,I.tok k,rfl,q⟩;cases ty with
 | non=>cases(r1);exact PySem.W.kia_one PySem.W.kitx_none I.kIn True.intro e (λz=>nomatch z) c
 | bl y=>cases(r1);exact PySem.W.kia_one PySem.W.kitx_bool I.kIn True.intro e (λz=>nomatch z) c
 | int i=>obtain⟨t,q⟩:=(r1);cases q;exact PySem.W.kia_one PySem.W.kitx_int I.kIn True.intro e (λz=>nomatch z) c
 | str y=>obtain⟨t,q⟩:=(r1);cases q;exact PySem.W.kia_one PySem.W.kitx_str I.kIn True.intro e (λz=>nomatch z) c
 | @lst a xs f=>
  cases(r1);obtain⟨l,_,⟨o,n,g,j,_,_⟩,_⟩:=I.list f;exact PySem.W.kia_one PySem.W.kitx_list I.kIn ⟨o,g,j⟩ e (λz=>nomatch z) c
 | @tup a xs f=>
  cases(r1);obtain⟨l,_,⟨o,g,j,_⟩,_⟩:=I.tuple f;exact PySem.W.kia_one PySem.W.kitx_tuple I.kIn ⟨o,g,j⟩ e (λz=>nomatch z) c
 | @dK a m f=>
  cases(r1);obtain⟨_,_,vs,_,p⟩:=(I.hok a _ f);obtain⟨o,A,B,g,j,_⟩:=p;exact PySem.W.kia_one PySem.W.kitx_dict I.kIn ⟨o,g,j.1⟩ e (λz=>nomatch z) c
end
section
variable {κ:Type} [DecidableEq κ]
noncomputable def Kf(kvs:List<|κ×V)(k:κ):Option V:=(kvs.find? λkv=>decide<|kv.1=k).map (·.2)
noncomputable def JM(kvs:List<|κ×V)(k:κ)(v:V):List (κ×V):=
 if(kvs.any λkv=>decide<|kv.1=k)=true then kvs.map (λkv=>if kv.1=k then(kv.1,v) else kv) else kvs++[(k,v)]
def JN{p}{r:List (κ×V)}(e:p.1=k):Kf (p::r) k=some p.2:=by simp[Kf,List.find?_cons,e]
def Ye{p}{r:List (κ×V)}(e:¬ p.1=k):Kf (p::r) k=Kf r k:=by simp[Kf,List.find?_cons,e]
theorem jae(k):∀ kvs:List (κ×V),(kvs.any λkv=>decide<|kv.1=k)=(Kf kvs k).isSome
 | []=>rfl
 | p::r=>by
  rw[List.any_cons];by_cases e:p.1=k
  ·simp only[JN e,X0 e,Bool.true_or,Option.isSome_some]
  ·rw[Ye e,X1 e,Bool.false_or];exact jae k r
def JH(a)(k:κ)(v):(JM a k v).length<=a.length+1:=by
 unfold JM;split
 ·rw[L1];lia
 ·rw[N3,M1,List.length_nil];lia
def RelO.isSome_eq(r:RelO o u):o.isSome=u.isSome:=by
 cases o with
 | none=>cases u with
  | none=>rfl
  | some _=>exact(r).elim
 | some _=>cases u with
  | none=>exact(r).elim
  | some _=>rfl
def RelO.getD(r:RelO o u)(rd:RelV d d'):RelV (o.getD d) (u.getD d'):=by
 cases o with
 | none=>cases u with
  | none=>exact rd
  | some _=>exact(r).elim
 | some _=>cases u with
  | none=>exact(r).elim
  | some _=>exact r
def KV.val(r:KV kvs vs)(k:κ):RelO (Kf kvs k) (valueAt vs k):=by
 induction r with
 | nil=>exact True.intro
 | @cons p q i a h t f=>
  obtain⟨d,g⟩:=h;by_cases e:p.1=k
  ·have c:=d.symm.trans e;have b:valueAt (q::a) k=some q.2:=by simp[valueAt,List.find?_cons,c]
   rw[JN e,b];exact g
  ·have c:¬ q.1=k:=λz=>e<|d.trans z;have b:valueAt (q::a) k=valueAt a k:=by simp[valueAt,List.find?_cons,c]
   rw[Ye e,b];exact f
def KV.any(r:KV kvs vs)(k:κ):(kvs.any λkv=>decide<|kv.1=k)=vs.any λkv=>decide (kv.1=k):=by
 induction r with
 | nil=>rfl
 | cons h t a=>rw[List.any_cons,List.any_cons,a,h.1]
def KV.repl(r:KV kvs vs)(k:κ)  (b:RelV y u):
  KV (kvs.map λkv=>if kv.1=k then(kv.1,y) else kv) (vs.map λkv=>if kv.1=k then(kv.1,u) else kv):=by
 induction r with
 | nil=>exact .nil
 | @cons p q f g h t c=>
  rw[L5,L5];refine .cons ?_ c;obtain⟨a,d⟩:=h;by_cases e:p.1=k
  ·rw[if_pos e,if_pos<|a.symm.trans e];exact⟨a,b⟩
  ·rw[if_neg e,if_neg<|λz=>e<|a.trans z];exact⟨a,d⟩
def KV.put(r:KV kvs vs)(k:κ)  (a:RelV y u):KV (JM kvs k y) (stored vs k u):=by
 unfold JM stored;rw[r.any k];by_cases e:(vs.any λb=>decide<|b.1=k)=true
 ·rw[if_pos e,if_pos e];exact r.repl k a
 ·rw[if_neg e,if_neg e];exact Paired.snoc r ⟨rfl,a⟩
def KV.keys{a}{vs:List (κ×Value)}(r:KV a vs):a.map (·.1)=vs.map (·.1):=by
 induction r with
 | nil=>rfl
 | cons h t b=>rw[L5,L5,b,h.1]
def KV.length(r:KV kvs vs):kvs.length=vs.length:=Paired.length r
end
def jc5(r:RelV (kV k) u):(jL P w).is k u=true:=by
 cases k with
 | inl i=>obtain⟨t,e⟩:=(r);subst e;exact xX P w i t
 | inr x=>obtain⟨t,e⟩:=(r);subst e;exact xM P w x t
theorem xi:∀{ks}{us},Vals (ks.map kV) us->ItemsAre (jL P w) ks us
 | [],_,r=>by rw[List.map_nil] at r;cases r;exact .nil
 | k::ks,_,r=>by
  cases r with
  | cons h t=>exact .cons (jc5 h)<|xi t
abbrev KT(H:Hp):List (List Key×V)->List (List Key×Addr×Value)->Prop:=Paired λp q=>p.1=q.1/\H q.2.1=some (.tup<|p.1.map kV)/\RelV p.2 q.2.2
def KT.val(r:KT H kvs xs)(k):RelO (Kf kvs k) ((atKey xs k).map (·.2)):=by
 induction r with
 | nil=>exact True.intro
 | @cons p q i a h t f=>
  obtain⟨d,_,g⟩:=h;by_cases e:p.1=k
  ·have c:=d.symm.trans e;have b:atKey (q::a) k=some q.2:=by simp[atKey,List.find?_cons,c]
   rw[JN e,b];exact g
  ·have c:¬ q.1=k:=λz=>e<|d.trans z;have b:atKey (q::a) k=atKey a k:=by simp[atKey,List.find?_cons,c]
   rw[Ye e,b];exact f
def KT.repl(r:KT H kvs xs)(k)  (c:RelV y u):
  KT H (kvs.map λkv=>if kv.1=k then(kv.1,y) else kv) (xs.map<|putAt k u):=by
 induction r with
 | nil=>exact .nil
 | @cons p q g i h t d=>
  rw[L5,L5];refine .cons ?_ d;obtain⟨a,b,f⟩:=h;unfold putAt;by_cases e:p.1=k
  ·rw[if_pos e,if_pos<|a.symm.trans e];exact⟨a,b,c⟩
  ·rw[if_neg e,if_neg<|λz=>e<|a.trans z];exact⟨a,b,f⟩
def KT.put(r:KT H kvs xs)(k)  (c:H b=some (.tup<|k.map kV)) (a:RelV y u):
  KT H (JM kvs k y) (storedH xs k b u):=by
 have e:(kvs.any λd=>decide<|d.1=k)=(atKey xs k).isSome:=by
  rw[jae,(r.val k).isSome_eq,Option.isSome_map]
 unfold JM storedH;rw[e];by_cases q:(atKey xs k).isSome=true
 ·rw[if_pos q,if_pos q];exact r.repl k a
 ·rw[if_neg q,if_neg q];exact Paired.snoc r ⟨rfl,c,a⟩
def KT.keeps(r:KT H kvs xs)(a:∀ b ys,H b=some (.tup ys)->H' b=some (.tup ys)):KT H' kvs xs:=
 Paired.mapP r λ_ _ z=>⟨z.1,a _ _ z.2.1,z.2.2⟩
def jlu(ok:HOk P w H h)(e:Rd H a u):ObjOk P w H h a u:=e.ok ok
def zc(ok:HOk P w H h)(e:Rd H a<|.dK kvs):kvs.length<=sizeLine/\(a==sysModules)=false/\∃ vs,KV kvs vs/\h.DictOf (jL P w) a vs:=
 jlu ok e
def jem(ok:HOk P w H h)(e:H a=some (.dK kvs)):kvs.length<=sizeLine/\(a==sysModules)=false/\∃ vs,KV kvs vs/\h.DictOf (jL P w) a vs:=zc ok<|.inl e
def zM(ok:HOk P w H h)(e:H a=some (.tup<|ks.map kV)):(tupleKind<|jL P w).is h ks a:=by
 obtain⟨_,b,r,⟨o,c,d,n,f⟩,_⟩:=(ok a _ e);exact⟨o,b.toArray,n,c,d,f,by simpa using xi r⟩
def jaM(ok:HOk P w H h)(e:Rd H a<|.dT kvs):kvs.length<=sizeLine/\(a==sysModules)=false /\
  ∃ xs,KT H kvs xs/\h.DictOfH (tupleKind<|jL P w) a xs:=by
 obtain⟨z,y,xs,r,o,d,f,g,i,j,k,n⟩:=(jlu ok e);refine⟨z,y,xs,r,o,d,f,g,i,j,k,λx b=>?_,n⟩;have all:∀{l}{m},KT H l m->∀ x∈m,(tupleKind<|jL P w).is h x.1 x.2.1:=by
  intro l m q
  induction q with
  | nil=>intro x b;exact nomatch b
  | @cons p q u v c t s=>
   intro x b;rcases M4.mp b with e | b
   ·subst e;exact zM ok (by rw[<- c.1];exact c.2.1)
   ·exact s x b
 exact all r x b
def jk8(ok:HOk P w H h)(e:H a=some (.dT kvs)):kvs.length<=sizeLine/\(a==sysModules)=false /\
  ∃ xs,KT H kvs xs/\h.DictOfH (tupleKind<|jL P w) a xs:=jaM ok<|.inl e
def DGet(H:Hp)(a:Addr)(y:V)(r:Option V):Prop:=
 (∃ kvs k,Rd H a (.dK kvs)/\y=kV k/\r=Kf kvs k) \/ ∃ kvs k b,Rd H a (.dT kvs)/\y=.ref b/\H b=some (.tup<|k.map kV)/\r=Kf kvs k
def DPut(H:Hp)(a:Addr)(y v:V)(H':Hp):Prop:=
 (∃ kvs k,H a=some (.dK kvs)/\y=kV k/\kvs.length<sizeLine/\H'=upd H a (.dK<|JM kvs k v)) \/
 ∃ kvs k b,H a=some (.dT kvs)/\y=.ref b/\H b=some (.tup<|k.map kV)/\kvs.length<sizeLine/\H'=upd H a (.dT<|JM kvs k v)
theorem DGet.k{H}{a}{b}{k}(e:H a=some (.dK b)):DGet H a (kV k) (Kf b k):=.inl ⟨b,k,.inl e,rfl,rfl⟩
def DGet.t{c}{k}(e:H a=some (.dT c))(d:H b=some (.tup<|k.map kV)):DGet H a (.ref b) (Kf c k):=.inr ⟨c,k,b,.inl e,rfl,d,rfl⟩
theorem DPut.k{H}{a}{b}{k}{v}(e:H a=some (.dK b))(c:b.length<sizeLine):DPut H a (kV k) v (upd H a<|.dK<|JM b k v):=.inl ⟨b,k,e,rfl,c,rfl⟩
def DPut.t{c}{k}(e:H a=some (.dT c))(d:H b=some (.tup<|k.map kV))(f:c.length<sizeLine):
  DPut H a (.ref b) v (upd H a<|.dT<|JM c k v):=.inr ⟨c,k,b,e,rfl,d,f,rfl⟩
def Inv.big(I:Inv X pins σ H s):sysModules < ↥s:=by
 have h:=(I.mod.glob.keeps I.bk).lt;exact Nat.lt_trans (by decide) h
def xn(q:A.units+1<cLine)(I:Inv X pins σ H s)(g:DGet H a y<|some v)(o:RelV y u)(h:∀ w' s',Inv X pins σ H s'->RelV v w'->Q w' s'):
  wpAny (model X.prog X.w) A (getItem (.ref a) u) Q E s:=by
 rcases g with⟨f,k,e,i,l⟩ | ⟨f,k,b,e,i,r,l⟩
 ·subst i;obtain⟨z,hd,vs,c,j⟩:=zc I.hok e;obtain⟨w',m,d⟩:=RelO.some_of (by rw[l];exact c.val k);exact wpAny_getItem_of (jc5 o) j.mapOf m<|h w' _ (I.tok _) d
 ·subst i;cases(o);obtain⟨z,hd,x,c,j⟩:=jaM I.hok e;obtain⟨w',m,d⟩:=RelO.some_of (by rw[l];exact c.val k);obtain⟨p,t,n⟩:=Option.map_eq_some_iff.mp m;refine wpAny_getItem_heap (tupleKind_room_in1 q) (zM I.hok r) j t ?_;rw[n];exact h w' _ (I.tok _) d
def jjX(m:A.units+1<cLine)(I:Inv X pins σ H s)(g:DGet H a y o)(j:RelV y u)(h:∀ s',Inv X pins σ H s'->Q (.bool<|!o.isSome) s'):
  wpAny (model X.prog X.w) A (compareOp .NotIn u<|.ref a) Q E s:=by
 rcases g with⟨d,k,e,f,l⟩ | ⟨d,k,b,e,f,n,l⟩
 ·subst f;obtain⟨z,hd,vs,c,i⟩:=zc I.hok e;refine wpAny_notIn_of (jc5 j) hd i.mapOf ?_;rw[<- (c.val k).isSome_eq,<- l];exact h _<|I.tok _
 ·subst f;cases(j);obtain⟨z,hd,p,c,i⟩:=jaM I.hok e;refine wpAny_notIn_heap (tupleKind_room_in1 m) (zM I.hok n) hd i ?_;have q:=(c.val k).isSome_eq;rw[Option.isSome_map] at q;rw[<- q,<- l];exact h _<|I.tok _
def K7(I:Inv X pins σ H s)(c:Mut<|H a)(d:Heap.SameBut a s.heap h')(e:∃ q,h'.get? a=some q)(new:ObjOk X.prog X.w (upd H a ob) h' a ob):
  Inv X pins σ (upd H a ob) {s with heap:=h',toks:=t'}:=
 I.write c (.inl rfl) (λb q f z=>(d.2 b f).trans z) e new
def jmc(z:kvs.length<=sizeLine)(hd:(a==sysModules)=false)(b:KV kvs vs)(c:h'.DictOf (jL P w) a vs):
  ObjOk P w H' h' a (.dK kvs):=⟨z,hd,vs,b,c⟩
def jm1{A:Around}(G:∀ kvs,H a=some (.dT kvs)->A.units+1<cLine)(I:Inv X pins σ H s)(g:DPut H a y v H')(x:RelV y u)(B:RelV v r)(h:∀ s',Inv X pins σ H' s'->Q () s'):
  wpAny (model X.prog X.w) A.in1 (dictSet a u r) Q E s:=by
 rcases g with⟨kvs,k,e,j,l,m⟩ | ⟨kvs,k,b,e,j,C,l,m⟩
 ·subst j m;obtain⟨z,hd,vs,d,n⟩:=jem I.hok e;have o:vs.length<=sizeLine:=by rw[<- d.length];exact z
  have p:(JM kvs k v).length<=sizeLine:=by have:=JH kvs k v;lia
  refine wpAny_dictSet_pairs (hsz:=o) (jc5 x) n λD f t=>h _ ?_;have J:∃ q,D.get? a=some q:=let ⟨q,_,_,i,_⟩:=f;⟨q,i⟩
  exact K7 I (by rw[e];exact True.intro) t J<|jmc p hd (d.put k B) f
 ·subst j m;cases(x);obtain⟨z,hd,K,d,n⟩:=jk8 I.hok e;have o:K.length<=sizeLine:=by rw[<- Paired.length d];exact z
  have p:(JM kvs k v).length<=sizeLine:=by have:=JH kvs k v;lia
  refine wpAny_dictSet_heap (hsz:=o) (tupleKind_room_in1<|G _ e) (zM I.hok C) n λD f t=>h _ ?_;obtain⟨q,L,M,i,N,O,P,_,R⟩:=f;refine K7 I (by rw[e];exact True.intro) t ⟨q,i⟩ ⟨p,hd,_,(d.put k C B).keeps λc S F=>?_,q,L,M,i,N,O,P,R⟩;rw[je<|joO F e<|λz=>nomatch z];exact F
def zW(c:A.units+1<cLine)(I:Inv X pins σ H s)(g:DPut H a y v H')(f:RelV y u)(i:RelV v r)(h:∀ s',Inv X pins σ H' s'->Q () s'):
  wpAny (model X.prog X.w) A (setItem (.ref a) u r) Q E s:=by
 have b:s.TypeIs (.ref a) "dict":=by
  rcases g with⟨_,_,e,_⟩ | ⟨_,_,_,e,_⟩
  ·obtain⟨_,_,_,_,d⟩:=jem I.hok e;exact d.typeIs
  ·obtain⟨_,_,_,_,d⟩:=jk8 I.hok e;exact d.typeIs
 unfold setItem;refine wpAny_holding<|L3<|wpAny_sequenceKey b (by decide) ?_;refine L3<|wpAny_callSpecial?_slot (name:=Str.ofString "__setitem__") b PySem.F.slot_dict_setitem<|wpAny_call_entry PySem.F.slot_dict_setitem b PySem.F.entry_dict_setitem ?_<|PySem.F.args_dict_setitem_3 _ _ _;refine L3<|wpAny_notOrdered_dict b ?_;show wpAny _ _ (dictSet a u r >>= _) _ _ s;exact L3<|jm1 (λ_ _=>c) I g f i λs1 J=>M6 ⟨.none,rfl,M6<|h s1 J⟩
def jok(i:Expr):Prop:=∀ ov iv,subscripted i false ov iv=operate [ov,iv] (getItem ov iv)
def jjW{prog}{w}{A}{E}{s}{env}{value slice}{pos}{T id}{Q}
  (d:typeLookup (.type T) "__getitem__" = pure (some<|.builtin id)) (e:jok slice)
  (h:wpAny (model prog w) A (eval value env) (λo s₁=>wpAny (model prog w) A (eval slice env) (λi s₂=>s₂.TypeIs o T/\wpAny (model prog w) A (getItem o i) Q E s₂) E s₁) E s):
  wpAny (model prog w) A (eval (.Subscript value slice pos) env) Q E s:=by
 refine Subscript_<|wpAny_mono h (λo s₁ f=>wpAny_mono f (λi s₂ b=>?_) λ_ _ x=>x) λ_ _ x=>x;obtain⟨g,b⟩:=b;refine L3 ?_;refine L3<|wpAny_specialOf g d ?_;have a:wpAny (model prog w) A (subscripted slice false o i) (λr c=>wpAny (model prog w) A (letTemporaryGo value o r >>= λ_=>pure r) Q E c) E s₂:=by
  rw[e o i];exact wpAny_operating<|wpAny_mono b (λr c j=>L3<|wpAny_letTemporaryGo<|M6 j) λ_ _ x=>x
 first
  | exact M6 (L3 a)
  | exact L3 (M6 (L3 a))
  | exact L3 a
def ur(I:Inv X pins σ H s)(g:DGet H a y o):s.TypeIs (.ref a) "dict":=by
 rcases g with⟨c,k,e,_,_⟩ | ⟨c,k,b,e,_,_,_⟩
 ·obtain⟨_,_,vs,_,d⟩:=zc I.hok e;exact d.typeIs
 ·obtain⟨_,_,f,_,d⟩:=jaM I.hok e;exact d.typeIs
def jhY(td ty:TE):TE:=λσ H Q=>td σ H λx H1=>ty σ H1 λy H2=>∃ a v,x=.ref a/\DGet H2 a y (some v)/\Q v H2
def QX(ty td:TE):TE:=λσ H Q=>ty σ H λy H1=>td σ H1 λx H2=>∃ a o,x=.ref a/\DGet H2 a y o/\Q (.bl<|!o.isSome) H2
def wq(td ty tv:TE):TS:=λD σ H=>tv σ H λv H1=>td σ H1 λx H2=>ty σ H2 λy H3=>∃ a H4,x=.ref a/\DPut H3 a y v H4/\D.nx σ H4
def xg(td ty tv:TE)(rd:V->V->Hp->VK->Prop):TS:=λD σ H=>td σ H λx H1=>ty σ H1 λy H2=>∃ a v,x=.ref a/\DGet H2 a y (some v) /\
 tv σ H2 λy2 H3=>rd v y2 H3 λz H4=>∃ H5,DPut H4 a y z H5/\D.nx σ H5
def jig(e:X.A.units+1<cLine)(f:PE X o td)(hi:PE X i ty)(j:jok i):PE X (.Subscript o i pos) (jhY td ty):=by
 intro b s σ H Q I h;refine jjW PySem.F.slot_dict_getitem.lookup j<|thn (f b s σ H _ I h) λu s1 ⟨x,k,l,m,n⟩=>thn (hi b s1 σ k _ l n) λz s2 p=>?_;obtain⟨y,q,d,r,a,v,ex,g,t⟩:=p;subst ex;obtain rfl:u=Value.ref a:=m;exact⟨ur d g,xn e d g r λB C w c=>⟨v,q,w,c,t⟩⟩
def jcI(c:X.A.units+1<cLine)(hi:PE X i ty)(d:PE X o td):PC X .NotIn i o (QX ty td):=by
 intro b s σ H Q I h;refine thn (hi b s σ H _ I h) λv s1 ⟨y,e,f,j,k⟩=>thn (d b s1 σ e _ f k) λu s2 l=>?_;obtain⟨x,m,n,p,a,q,ex,g,r⟩:=l;subst ex;obtain rfl:u=Value.ref a:=p;exact jjX c n g j λw t=>⟨.bl<|!q.isSome,m,t,rfl,r⟩
def wy(c:X.A.units+1<cLine)(d:PE X o td)(hi:PE X i ty)(e:PE X value tv)(f:swapsWith value (some<|.Subscript o i pos') pos.line X.env=pure false):
  PS X (.Assign [.Subscript o i pos'] value pos) (wq td ty tv):=by
 intro b s σ H D I h;refine wpAny_Assign_Subscript (thn (e b s σ H _ I h) λr s1 ⟨v,j,k,l,m⟩=>thn (d b s1 σ j _ k m) λu s2 ⟨x,n,p,q,t⟩=>thn (hi b s2 σ n _ p t) λG J w=>?_) f;obtain⟨y,K,z,B,a,C,ex,g,E⟩:=w;subst ex;obtain rfl:u=Value.ref a:=q;exact zW c z g B l λL F=>⟨σ,C,F,E⟩
def KY(j:X.A.units+1<cLine)(l:PE X o td)(hi:PE X i ty)(m:PE X value tv)(c:jnp X op rd)
  (n:∀ ov iv new,augStore i ov iv new=(do holding [new,ov,iv] (setItem ov iv new);release [new,ov,iv] [];pure .next)):PS X (.AugAssign (.Subscript o i tpos) op value pos) (xg td ty tv rd):=by
 intro b s σ H D I h;refine wpAny_AugAssign_SubscriptAny (thn (l b s σ H _ I h) λu s1 ⟨x,p,q,r,t⟩=>thn (hi b s1 σ p _ q t) λiv s2 d=>?_) n;obtain⟨y,w,B,k,a,v,ex,g,C⟩:=d;subst ex;obtain rfl:u=Value.ref a:=r;refine xn j B g k λE F G e=>thn (m b F σ w _ G C) λw2 J ⟨K,L,M,f,N⟩=>thn (c b J σ L v K E w2 _ M e f N) λU V d=>?_;obtain⟨z,W,O,P,Q,R,S⟩:=d;exact zW j O R k P λY T=>⟨σ,Q,T,S⟩
def jaA(h:Heap)(a:sysModules<h.objs.size):ObjOk P w H (h.push {cls:=.type "dict",data:=.dict #[]}) h.objs.size (.dK []):=
 ⟨U4 _,U1.mpr<|Ne.symm<|N5 a,[],.nil,Heap.DictOf.new h⟩
def jak(h:Heap)(a:sysModules<h.objs.size):ObjOk P w H (h.push {cls:=.type "dict",data:=.dict #[]}) h.objs.size (.dT []):=
 ⟨U4 _,U1.mpr<|Ne.symm<|N5 a,[],.nil,_,#[],0,X7 _ rfl,⟨rfl,rfl,rfl⟩,rfl,rfl,List.nodup_nil⟩
def jdO:TE:=λ_ H Q=>∀ p,H p=none->Q (.ref p) (upd H p<|.dK [])
def jcN:TE:=λ_ H Q=>∀ p,H p=none->Q (.ref p) (upd H p<|.dT [])
def jfW:PE X (.Dict [] [] pos) jdO:=λa s σ H Q I h=>
 wpAny_Dict_empty ⟨.ref ↥s,_,I.laid (λ_ _ q=>L8 _ q) (M8 _)<|jaA s.heap I.big,rfl,h _<|I.hok.fresh<|M8 _⟩
def jfh:PE X (.Dict [] [] pos) jcN:=λa s σ H Q I h=>
 wpAny_Dict_empty ⟨.ref ↥s,_,I.laid (λ_ _ q=>L8 _ q) (M8 _)<|jak s.heap I.big,rfl,h _<|I.hok.fresh<|M8 _⟩
abbrev VV:List (V×V)->List (Value×Value)->Prop:=Paired λp q=>RelV p.1 q.1/\RelV p.2 q.2
structure M2(X:Cx)(o:Expr)(m:Str)(apos:Pos)(e f:Expr)(cpos:Pos):Prop where
 base:attributeBase o m X.env (eval o X.env)=eval o X.env
 few:((backTo cpos<|starEach [e,f] X.env).all (λx=>!x.1)&&(backToKw cpos<|keywordEach [] X.env).all (λx=>x.1.isSome)
  && decide (([e,f]:List Expr).length+([]:List Keyword).length+(if([]:List Keyword).isEmpty then 0 else 1)<30))=true
 line:(apos.endLine==cpos.line)=true
 trees:backTo cpos (starEach [e,f] X.env)=[(false,eval e X.env),(false,eval f X.env)]
def IsD(H:Hp)(a:Addr):Prop:=(∃ kvs,Rd H a<|.dK kvs) \/ ∃ kvs,Rd H a<|.dT kvs
def zh(I:Inv X pins σ H s)(d:IsD H a):
  s.TypeIs (.ref a) "dict"/\(∀ b,Value.ref a=.ref b->∃ ob,s.heap.get? b=some ob/\ob.dict=none)/\(a==sysModules)=false:=by
 rcases d with⟨f,e⟩ | ⟨f,e⟩
 ·obtain⟨_,hd,vs,_,c⟩:=zc I.hok e;refine⟨c.typeIs,λb q=>?_,hd⟩;cases q;obtain⟨ob,_,_,g,h,_⟩:=c;exact⟨ob,g,h.2.1⟩
 ·obtain⟨_,hd,i,_,c⟩:=jaM I.hok e;refine⟨c.typeIs,λb q=>?_,hd⟩;cases q;obtain⟨ob,_,_,g,h,_⟩:=c;exact⟨ob,g,h.2.1⟩
def jkk(n:A.units+1<cLine)(I:Inv X pins σ H s)(g:DGet H a y o)(m:RelV y u)(rd:RelV d r)(h:∀ w' s',Inv X pins σ H s'->RelV (o.getD d) w'->Q w' s'):
  wpAny (model X.prog X.w) A (call (.builtin "dict.get") [.ref a,u,r]) Q E s:=by
 rcases g with⟨i,k,e,j,l⟩ | ⟨i,k,b,e,j,p,l⟩
 ·subst j;obtain⟨z,hd,vs,c,f⟩:=zc I.hok e;refine call_meetsIn PySem.F.slot_dict_get f.typeIs PySem.F.entry_dict_get (PySem.F.args_dict_get_3 _ _ _) (meets_dict_get_default (jL X.prog X.w) a (jc5 m) hd r) ⟨_,f.mapOf,h _ _ (I.tok _) ?_⟩;rw[l];exact(c.val k).getD rd
 ·subst j;cases(m);obtain⟨z,hd,q,c,f⟩:=jaM I.hok e;refine call_meetsIn PySem.F.slot_dict_get f.typeIs PySem.F.entry_dict_get (PySem.F.args_dict_get_3 _ _ _) (meetsH_dict_get_default (tupleKind<|jL X.prog X.w) a b hd r) ⟨tupleKind_room_in1 n,k,q,zM I.hok p,f,h _ _ (I.tok _) ?_⟩;rw[l];exact(c.val k).getD rd
def zX(td ty tx:TE):TE:=λσ H Q=>td σ H λx H1=>∃ a,x=.ref a/\IsD H1 a/\ty σ H1 λy H2=>tx σ H2 λz H3=>∃ o,DGet H3 a y o/\Q (o.getD z) H3
def uD(j:X.A.units+1<cLine)(k:PE X o td)(l:PE X e ty)(n:PE X f tx)(m:M2 X o "get" apos e f cpos):PE X (.Call (.Attribute o "get" apos) [e,f] [] cpos) (zX td ty tx):=by
 intro b s σ H Q I h;refine wpAny_Call_method m.base m.few m.line PySem.F.plainAttrs_dict PySem.F.slot_dict_get PySem.F.type_dict_get<|thn (k b s σ H _ I h) λu s1 p=>?_;obtain⟨x,q,i,r,a,ex,d,t⟩:=p;subst ex;obtain rfl:u=Value.ref a:=r;obtain⟨v,w,_⟩:=zh i d;refine⟨v,w,?_⟩;rw[m.trees];refine Calls.callWith_builtin rfl<|Calls.evalArgs_plain<|Calls.spliced_cons<|thn (l b s1 σ q _ i t) λN s2 ⟨y,B,C,D,E⟩=>
  Calls.spliced_cons (thn (n b s2 σ B _ C E) λO P ⟨z,G,J,K,R,g,L⟩=>Calls.spliced_nil ?_)
 exact jkk j J g D K λS T M c=>⟨_,G,M,c,L⟩
end L2
namespace PySem
open Sem (wp)
namespace F
def lk_list_keys:typeLookup (.type "list") "keys" = pure none:=by rw[typeLookup_type,builtinLookup_eq_fast];kernel_rfl
def lk_list_getattr:typeLookup (.type "list") "__getattr__" = pure none:=by rw[typeLookup_type,builtinLookup_eq_fast];kernel_rfl
def plain_dict_loop:plainId "dict.update.loop" = true:=by decide +kernel
def entry_dict_loop:entryFor table "dict.update.loop" = some Builtin.«dict.update.loop»:=entryFor_of_fast (by kernel_rfl)
end F
section
variable {prog:Program}{w:World}{A:Around}{E:J0}{h:Heap}{g:Array GenState}{d:Drawn}{t:Nat}{os:OsState}{a:Addr}{o:Obj}
def F.sub_attrErr:isSubtype (.type "AttributeError") (.type "AttributeError")=pure true:=by rw[isSubtype_type];kernel_rfl
def jeQ{x nm}{e}{y}{Q}(a:h.get? e=some {cls:=.type "AttributeError",data:=.fields #[y,.none,.none,.none,.bool false,.none,unsetMember,unsetMember]})
  (c:∀ h',(∀ b o,b≠e->h.get? b=some o->h'.get? b=some o)->(∃ ob,h'.get? e=some ob/\ob.cls=.type "AttributeError")->Q () ⟨h',g,d,t,os⟩):
  wpAny (model prog w) A (noteAttr (.ref e) x nm) Q E ⟨h,g,d,t,os⟩:=by
 have j:=F.sub_attrErr
 repeat (any_goals (first | assumption | wp_step))
 refine c _ (λb o f i=>?_) ⟨_,Heap.get?_update_self _ a rfl,rfl⟩
 ·rw[Heap.get?_update_ne _ _ _ _ f];exact i
def jbf{α}{x}{nm a}{Q}(k:a.length<=sizeLine)(l:A.handled=none)
  (m:∀ h' e t',(∀ b o,h.get? b=some o->h'.get? b=some o)->h.get? e=none->(∃ ob,h'.get? e=some ob/\ob.cls=.type "AttributeError")->E (.ref e) ⟨h',g,d,t',os⟩):
  wpAny (model prog w) A (raiseAttrError x nm a:Sem α) Q E ⟨h,g,d,t,os⟩:=by
 refine L3<|wpAny_mkStr (L3<|L3<|wpAny_newObj_type ?_) k;refine L3<|wpAny_of_eq (by simp only[firstArgMember];rfl) ?_;refine wpAny_newObj_type<|L3<|wpAny_mkText<|L3<|jeQ (X7 _ rfl) λh' n p=>?_;refine L3<|wpAny_handled ?_;rw[l];have c:∀ f,E (.ref (h.push {cls:=.type "tuple",data:=.seq #[Value.str a t]}).objs.size) ⟨h',g,d,f,os⟩:=λf=>m h' _ _ (λb o i=>n b o (λz=>by
  have j:=N0 i;rw[z] at j;exact absurd j<|Nat.not_lt.mpr<|by simp)<|L8 _<|L8 _ i) (Heap.get?_none_of_le<|by simp) p
 first
  | exact wpAny_throw (c _)
  | exact L3 (M6 (wpAny_throw (c _)))
def jbg{its}{n}{sl}{c}{Q}(f:A.handled=none)(j:h.get? a=some {cls:=.type "list",data:=.seq its n,slots:=sl})
  (i:∀ h' e t',(∀ b o,h.get? b=some o->h'.get? b=some o)->h.get? e=none->(∃ ob,h'.get? e=some ob/\ob.cls=.type "AttributeError")->E (.ref e) ⟨h',g,d,t',os⟩):
  wpAny (model prog w) A (Builtin.«object.__getattribute__» ⟨[.ref a,.str "keys" c],[]⟩) Q E ⟨h,g,d,t,os⟩:=by
 have k:=F.lk_list_keys
 repeat (any_goals (first | assumption | wp_step))
 exact jbf (by decide +kernel) f i
def jcx{its}{n}{sl}{f}{R}(i:A.handled=none)(c:h.get? a=some {cls:=.type "list",data:=.seq its n,slots:=sl})
  (j:∀ h' e t',(∀ b o,h.get? b=some o->h'.get? b=some o)->h.get? e=none->(∃ ob,h'.get? e=some ob/\ob.cls=.type "AttributeError")->R (.error<|.ref e) ⟨h',g,d,t',os⟩):
  codeAny (model prog w) A (.call (.builtin "list.__getattribute__") ⟨[.ref a,.str "keys" f],[]⟩) R ⟨h,g,d,t,os⟩:=by
 exact codeAny_call_builtin F.slot_list_getattribute.plain F.entry_list_ga<|F.slot_list_getattribute.check _ _ _ _ _ _ _ _ (⟨_,c,rfl⟩) (F.args_list_getattribute_2 _ _)<|jbg (i) c j
def jjd{its}{n}{sl}{j}{Q}(k:A.handled=none)(l:h.get? a=some {cls:=.type "list",data:=.seq its n,slots:=sl})
  (m:∀ h' e t',(∀ b o,h.get? b=some o->h'.get? b=some o)->h.get? e=none->(∃ ob,h'.get? e=some ob/\ob.cls=.type "AttributeError")->E (.ref e) ⟨h',g,d,t',os⟩):
  wpAny (model prog w) A (getAttrBy (.ref a) (.str "keys" j) false) Q E ⟨h,g,d,t,os⟩:=by
 have v:=F.sub_attrErr;have x:=F.slot_list_getattribute.lookup;have y:=F.slot_list_getattribute.bind<|.ref a;have z:=F.lk_list_getattr
 repeat (any_goals (first | assumption | wp_step))
 refine jcx k l λh' e t' p q i=>?_;have c:=i;obtain⟨ob,f,r⟩:=i;have s:(⟨h',g,d,t',os⟩:Shared).TypeIs (.ref e) "AttributeError":=⟨_,f,r⟩;have u:=m h' e t' p q c
 repeat (any_goals (first | assumption | wp_step))
def jcr{its}{n}{sl}{Q}(f:A.handled=none)(i:h.get? a=some {cls:=.type "list",data:=.seq its n,slots:=sl})
  (j:∀ h' t',(∀ b o,h.get? b=some o->h'.get? b=some o)->Q none ⟨h',g,d,t',os⟩):wpAny (model prog w) A (getAttr? (.ref a) "keys") Q E ⟨h,g,d,t,os⟩:=by
 refine L3<|wpAny_mkText<|L3<|wpAny_attempt<|jjd f i λh' e t' k r l=>?_;obtain⟨ob,c,m⟩:=l;have p:(⟨h',g,d,t',os⟩:Shared).TypeIs (.ref e) "AttributeError":=⟨_,c,m⟩;have s:=F.sub_attrErr;have q:=j h' t' k
 repeat (any_goals (first | assumption | wp_step))
end
section
variable {prog:Program}{w:World}{K:Type} [DecidableEq K] {knd:KeyKind prog w K}{A:Around}{E:J0}{s:Shared}
def jaK(d:s.heap.get? p=some o)(b:o.cls=.type "tuple")(hd:o.data=.seq #[key,x] m)(e:Q [key,x] s):wpAny (model prog w) A (Builtin.Dict.pairItems<|.ref p) Q E s:=by
 obtain⟨oc,od,a,c⟩:=o;subst b;subst hd
 repeat (any_goals (first | assumption | wp_step))
end
end PySem
namespace L2
open PySem PySem.Spec PyProof.Rows
def J3{D}{o u}(b:H D=none)(e:H a=some u):upd H D o a=some u:=by rw[je λz=>by rw[z,b] at e;cases e];exact e
def u9{K}{D}{o}(b:H D=none)(h:SqL K H a xs):SqL K (upd H D o) a xs:=Or.imp_left (Or.imp (J3 b) λ⟨q,h⟩=>⟨q,J3 b h⟩) h
def jfk{K}{D}{o}(b:H D=none)(h:SqT K H a xs):SqT K (upd H D o) a xs:=Or.imp_left (Or.imp (J3 b) λ⟨q,h⟩=>⟨q,J3 b h⟩) h
def jhC{X}{A:Around}{R}{Hs:Nat->Hp}{ys:List V}{d N D}(T:A.handled=none)(U:∀ i kvs,Hs i D=some (.dT kvs)->A.units+1<cLine)
  (f:∀ i,SqL X.K (Hs i) N ys/\jaI X pins (Hs i) d)
  (W:∀(j:Nat) y,ys[j]?=some y->∃ t a b,y=.ref t/\SqT X.K (Hs j) t [a,b]/\DPut (Hs j) D a b (Hs<|j+1))
  (Y:∀ s',Inv X pins σ (Hs ys.length) s'->R (.ok<|.ret .none) s'):∀ k i s,i+k=ys.length->Inv X pins σ (Hs i) s->s.heap.IsListIter d N i ->
  codeAny (model X.prog X.w) A (.builtin "dict.update.loop" ⟨[.ref D,.ref d,rawInt i,.none],[]⟩) R s:=by
 intro k
 induction k with
 | zero=>
  intro i s O I q;obtain⟨r,x,p,_⟩:=I.list (f i).1;obtain⟨B,C,Z,E,G,H⟩:=(f i).2;refine codeAny_builtin F.entry_dict_loop<|L3<|wpAny_pyNext_list_end (A:=A.in1) T q p.isList (by have:=x.length;simp;lia) λL eb=>?_;have m:Inv X pins σ (Hs i) {s with heap:=L}:=I.turned (λb o c e=>eb b o c e) B C E G H;have fin:=Y _ (by rw[<- O];exact m)
  repeat (any_goals (first | assumption | wp_step))
 | succ k ih=>
  intro i s O I q;obtain⟨r,x,p,_⟩:=I.list (f i).1;have hf:=(f i).2;obtain⟨B,C,Z,E,G,H⟩:=hf;have P:=X5 (l:=ys) (i:=i) ∅;obtain⟨t,a,b,ey,hT,g⟩:=W i _ P;obtain⟨u,M,Q⟩:=x.get P;rw[ey] at Q;cases(Q);refine codeAny_builtin F.entry_dict_loop<|L3<|wpAny_pyNext_list_item q p.isList ⇑M λL h sb=>?_;have m:Inv X pins σ (Hs i) {s with heap:=L}:=I.turned (λb o c e=>(sb.2 b c).trans e) B C E G H;obtain⟨S,tv,⟨o,e,hc,n,hd⟩,_⟩:=m.tuple hT;obtain⟨u1,u2,rfl,r1,r2⟩:=tv.two;obtain⟨oi,ei,ci,di⟩:=id h;have I2:=m.pinned (fp:=[d]) (λb c=>by rw[M7.mp c];exact(f i).2) λb c=>⟨oi,by rw[M7.mp c];exact ei,λv z=>by rw[di] at z;cases z⟩;refine L3<|wpAny_holding<|L3<|wpAny_tryCatch<|jaK e hc hd<|wpAny_holding<|jm1 (U i) I2 g r1 r2 λs' J=>M6 ⟨plainId_quiet F.plain_dict_loop _,?_⟩;exact ih (i+1) s' ∅ J.unpinned (h.at λo e=>(J.pin (d,o)<|U2 _<|U2 _<|ko (by simp) e).1)
def jm9{α κ} [DecidableEq κ] {f:α->κ}{g:α->V}{ps:List α}:∀{qs},(ps.foldl (λa x=>JM a (f x)<|g x) qs).length<=qs.length+ps.length:=by
 induction ps with
 | nil=>intro qs;simp
 | cons p ps b=>
  intro qs;have c:=b (qs:=JM qs (f p)<|g p);have d:=JH qs (f p)<|g p;rw[U9,M1]
  lia
def Ki{X α κ} [DecidableEq κ] (L:X.calm=true) {f:α->κ}{g ky:α->V}{ob:List (κ×V)->HO}{ok:Hp->α->Prop}(S:∀ l m,ob l=.dT m->X.A.units+10<cLine)
  (T:∀(h:Heap) H,sysModules<h.objs.size->ObjOk X.prog X.w H (h.push {cls:=.type "dict",data:=.dict #[]}) h.objs.size (ob []))
  (U:∀ H D l x,H D=none->ok H x->l.length<sizeLine->DPut (upd H D<|ob l) D (ky x) (g x) (upd H D<|ob<|JM l (f x)<|g x)):
  kD X (.type "dict") (λxs H Q=>∃(p:Addr) (ys:List V) (ps:List α),xs=[.ref p]/\SqL X.K H p ys/\ys.length=ps.length/\ps.length<=100000 /\
  (∀(j:Nat) y,ys[j]?=some y->∃ kv t,ps[j]?=some kv/\y=.ref t/\SqT X.K H t [ky kv,g kv]/\ok H kv)/\∀ D,H D=none->Q (.ref D) (upd H D<|ob<|ps.foldl (λa kv=>JM a (f kv)<|g kv) [])):=by
 intro c s σ H xs us Q I r h;obtain⟨p,ys,ps,rfl,M,W,hz,Y,q⟩:=h;obtain⟨u,rfl,Z⟩:=r.one;cases Z;have k:=I.hok.fresh<|M8 ↥s;have N:Inv X c σ (upd H ↥s (ob [])) { s with heap:=s.heap.push {cls:=.type "dict",data:=.dict #[]} }:=I.laid (λb o e=>L8 _ e) (M8 _)<|T _ _ I.big;obtain⟨its,rv,⟨o,n,e,v,B,C⟩,_⟩:=N.list<|u9 k M;obtain⟨oc,od,E,osl⟩:=o;subst v B C;refine callType_codes (Q₁:=λobj O=>obj=.ref ↥s/\O={ s with heap:=s.heap.push {cls:=.type "dict",data:=.dict #[]} }) F.kt_called_dict (F.kt_typeCall_dict_1 _) F.entry_dict_init (kt_code_dict_new _ ⟨rfl,rfl⟩) ?_;rintro obj O ⟨rfl,rfl⟩;have P:=Heap.DictOf.typeIs (s:={ s with heap:=s.heap.push {cls:=.type "dict",data:=.dict #[]} })<|Heap.DictOf.new (knd:=jL X.prog X.w) s.heap;refine⟨P,F.args_dict_init_2 _ _,L3<|L3<|wpAny_notOrdered_dict P<|M6<|L3<|wpAny_typeOf ⟨_,e,rfl⟩<|L3<|jcr (I.ok.hd L) e λh2 t2 d=>?_⟩;rw[if_pos<|show(Option.isNone none)=true from rfl];refine L3<|wpAny_rule<|L3<|wpAny_pyIter_list (l:=p) ⟨_,d _ _ e,rfl,n,rfl⟩<|M6 ⟨plainId_quiet F.plain_dict_loop _,?_⟩;have R:Inv X c σ (upd H ↥s (ob [])) {s with heap:=h2,toks:=t2}:=N.kept d;have G:=N0<|d _ _<|X7 _ rfl;refine jhC (A:=X.A.in1) (Hs:=λi=>upd H ↥s (ob<|(ps.take i).foldl (λa kv=>JM a (f kv)<|g kv) [])) (I.ok.hd L) (λi m z=>?_) (λi=>⟨u9 k M,R.fpOk (M8 _) ?_⟩) (λj y hy=>?_) (λs' J=>?_) ys.length 0 _ (Nat.zero_add _) (R.kept λb o e=>L8 _ e) ⟨_,X7 _ rfl,rfl,rfl⟩
 ·rw[jk] at z;have:=S _ _<|X3 z;show X.A.units+1+1<_
  lia
 ·rw[je<|Ne.symm<|N5 G];exact I.hok.fresh ∅
 ·obtain⟨kv,t,e1,rfl,h3,h4⟩:=Y j y hy;refine⟨t,_,_,rfl,jfk k h3,?_⟩;rw[List.take_add_one,e1,List.foldl_append];exact U _ _ _ _ k h4 (by have:=jm9 (f:=f) (g:=g) (ps:=ps.take j) (qs:=[]);have:sizeLine=16777216:=rfl;simp at *;lia)
 ·rw[W,List.take_length] at J;exact⟨rfl,.ref _,_,J,rfl,q _ k⟩
def jbe{X}(i:X.calm=true):kD X (.type "dict") (λxs H Q=>∃(p:Addr) (ys:List V) (ps:List<|Key×V),xs=[.ref p]/\SqL X.K H p ys/\ys.length=ps.length/\ps.length<=100000 /\
  (∀(j:Nat) y,ys[j]?=some y->∃ kv t,ps[j]?=some kv/\y=.ref t/\SqT X.K H t [kV kv.1,kv.2])/\∀ D,H D=none->Q (.ref D) (upd H D<|.dK<|ps.foldl (λa kv=>JM a kv.1 kv.2) [])):=
 λd s σ H xs m Q I r ⟨p,ys,ps,n,q,u,w,z,A⟩=>Ki (ok:=λ_ _=>True) (ky:=λx=>kV x.1) (f:=(·.1)) (g:=(·.2)) (ob:=.dK) i (λ_ _ e=>nomatch e) (λh H b=>jaA h b)
  (λH D l x E _ B=>by have:=DPut.k (k:=x.1) (v:=x.2) (jk (H:=H) (a:=D) (o:=.dK l)) B;rw[jdj] at this;exact this) d s σ H xs m Q I r
  ⟨p,ys,ps,n,q,u,w,λj y C=>let ⟨kv,t,a,b,c⟩:=z j y C;⟨kv,t,a,b,c,trivial⟩,A⟩
def wQ{X}(c:X.calm=true)(d:X.A.units+10<cLine):kD X (.type "dict") (λxs H Q=>∃(p:Addr) (ys:List V) (ps:List<|List Key×Addr×V),xs=[.ref p]/\SqL X.K H p ys/\ys.length=ps.length/\ps.length<=100000 /\
  (∀(j:Nat) y,ys[j]?=some y->∃ kv t,ps[j]?=some kv/\y=.ref t/\SqT X.K H t [.ref kv.2.1,kv.2.2]/\H kv.2.1=some (.tup<|kv.1.map kV))/\∀ D,H D=none->Q (.ref D) (upd H D<|.dT<|ps.foldl (λa kv=>JM a kv.1 kv.2.2) [])):=
 Ki (ok:=λH (x:List Key×Addr×V)=>H x.2.1=some (.tup<|x.1.map kV)) c (λ_ _ _=>d) (λh H b=>jak h b)
  λH D l (x:List Key×Addr×V) e f g=>by have:=DPut.t (k:=x.1) (b:=x.2.1) (v:=x.2.2) (jk (H:=H) (a:=D) (o:=.dT l)) (J3 e f) g;rw[jdj] at this;exact this
def Inv.layAll(I:Inv X pins σ H s)(k:∀ b u,s.heap.get? b=some u->h'.get? b=some u)(a:∀ b,H b≠none->H' b=H b)
  (new:∀ b o,H b=none->H' b=some o->↥s<=b/\ObjOk X.prog X.w H' h' b o):Inv X pins σ H' {s with heap:=h',toks:=t'}:=by
 refine I.un ⟨λb u q _ _ _=>k b u q,λb u q _ _ _=>⟨u.slots,k b u q⟩,λb u q n _=>?_,λb u q _=>⟨u,k b u q⟩,λb f q=>?_,λb o u q=>?_,λb g q=>⟨#[],?_⟩⟩ λb o e=>?_
 ·cases e:H' b with
  | none=>rfl
  | some o=>exact absurd (N0 q)<|Nat.not_lt.mpr (new b o n e).1
 ·rw[a b<|by rw[q];exact λz=>nomatch z];exact q
 ·rw[a b<|by rw[q];exact λz=>nomatch z];exact q
 ·rw[a b (by rw[q];exact λz=>nomatch z),q];simp
 ·by_cases n:H b=none
  ·exact(new b o n e).2
  ·have d:=e;rw[a b n] at d;exact(I.hok b o d).stay (λc u _ q=>k c u q) (λc q=>by rw[a c<|by rw[q];exact λz=>nomatch z];exact q) λc f q=>by rw[a c<|by rw[q];exact λz=>nomatch z];exact q
def jhG(h:(jL P w).is k u=true):RelV (kV k) u:=by
 rcases jT h with⟨i,t,rfl,rfl⟩ | ⟨x,t,rfl,rfl⟩
 ·exact⟨t,rfl⟩
 ·exact⟨t,rfl⟩
def jW(H:Hp)(as:W6)(kvs:List<|Key×V)(l:Addr):Hp:=λb=>if b=l then some (.lst<|as.map V.ref) else
 match (as.zip kvs).find? (λp=>p.1==b) with
 | some p=>some<|.tup [kV p.2.1,p.2.2]
 | none=>H b
def Qc{as:W6}{a}(d:as.Nodup){j:Nat}{p:Key×V}(h1:as[j]?=some b)(h2:a[j]?=some p):(as.zip a).find? (λq=>q.1==b)=some (b,p):=by
 induction as generalizing a j with
 | nil=>simp at h1
 | cons c as e=>
  cases a with
  | nil=>simp at h2
  | cons q a=>
   rw[U6,List.find?_cons];cases j with
   | zero=>
    simp at h1 h2;subst h1;subst h2;simp
   | succ j=>
    simp at h1 h2;have f:c≠b:=λz=>(List.nodup_cons.mp d).1 (z▸List.mem_of_getElem? h1);have:=U1.mpr f;simp only[this];exact e (List.nodup_cons.mp d).2 h1 h2
def qg{as:W6}{a:List (Key×V)}(h:b∉as):(as.zip a).find? (λq=>q.1==b)=none:=by
 rw[List.find?_eq_none];intro q c z;have:q.1=b:=by simpa using z
 exact h<|this▸(List.of_mem_zip c).1
theorem jif:∀{A}{B:List (Key×Value)}{j:Nat},KV A B->B[j]?=some (kk,x)->∃ y,A[j]?=some (kk,y)/\RelV y x
 | [],_,j,.nil,e=>by simp at e
 | p0::A,c::B,0,.cons a b,e=>by
  simp at e;subst e;refine⟨p0.2,?_,a.2⟩;have:p0.1=kk:=a.1;simp[<- this]
 | p0::A,c::B,j+1,.cons a b,e=>by
  obtain⟨y,d,e2⟩:=jif b ⇑e;exact⟨y,by simpa using d,e2⟩
def wG(td:TE):TE:=λσ H Q=>td σ H λx H1=>∃ a kvs,x=.ref a/\Rd H1 a (.dK kvs)/\∀ l as,H1 l=none->as.length=kvs.length->(l::as).Nodup->(∀ b∈as,H1 b=none)->Q (.ref l) (jW H1 as kvs l)
def jcS(T:X.calm=true)(U:Gl X "list")(V:X.mg "list" = none)(Y:bootBuiltins "list" = some (.type "list"))(Z:PE X o td)
  (m:attributeBase o "items" X.env (eval o X.env)=eval o X.env:=by rfl) (n:(apos.endLine==cpos.line)=true:=by rfl)
  (he:starEach [.Call (.Attribute o "items" apos) [] [] cpos] X.env=(false,eval (.Call (.Attribute o "items" apos) [] [] cpos) X.env)::starEach [] X.env:=by rfl)
  (G:(backTo pos<|starEach [] X.env).any (·.1)=false:=by rfl)
  (hbt:backTo pos (starEach [.Call (.Attribute o "items" apos) [] [] cpos] X.env)=[(false,eval (.Call (.Attribute o "items" apos) [] [] cpos) X.env)]:=by rfl):
  PE X (.Call (.Name "list" p) [.Call (.Attribute o "items" apos) [] [] cpos] [] pos) (wG td):=by
 intro C s σ H Q I h;refine wpAny_Call_Name_kw<|JV I U V Y (PyProof.Rows.callWith_type1 (Calls.spliced_cons<|wpAny_Call_method0_late m n<|thn (Z C s σ H _ I h) λv s1 hh=>?_) he G) (by decide) (by decide);obtain⟨x,H1,i,r1,a,r,ex,M,N⟩:=hh;subst ex;obtain rfl:v=Value.ref a:=r1;obtain⟨O,hd,vs,J,K⟩:=zc i.hok M;obtain⟨t1,t2,_⟩:=zh i<|.inl ⟨r,M⟩;refine⟨"dict","dict.items",PySem.F.plainAttrs_dict,PySem.F.slot_dict_items,PySem.F.type_dict_items,t1,t2,Calls.callWith_builtin rfl<|PySem.evalArgs_none<|call_meetsIn PySem.F.slot_dict_items K.typeIs PySem.F.entry_dict_items (PySem.F.args_dict_items_1 _) (meets_dict_items (jL X.prog X.w) a hd) ⟨⟨vs,K⟩,(Calls.spliced_nil ?_)⟩⟩;obtain⟨ob,es,ep,d1,d2⟩:=K;have L:(s1.heap.push {cls:=.type "dict_items",data:=.fields #[.ref a]}).DictAt (jL X.prog X.w) a vs ep:=⟨ob,es,L8 _ d1,d2⟩;refine PySem.W.kdx_call (i.ok.hd T) ⟨_,X7 _ rfl,rfl,rfl⟩ L (by rw[<- J.length];exact O) λh' tk acc c k hk P R D l=>?_;have f:(s1.heap.push ({cls:=.type "dict_items",data:=.fields #[.ref a]}:Obj)).objs.size=↥s1+1:=Heap.size_push _ _;have nd:=D.rise.imp N5;have t:k.length=r.length:=by rw[R,J.length]
 have g:∀ b∈k,↥s1<=b:=λb d=>by have q:=D.above b d;rw[f] at q;lia
 have E:=λb d=>Nat.ne_of_gt<|D.above b d;refine⟨.ref _,jW H1 k r (s1.heap.push ({cls:=.type "dict_items",data:=.fields #[.ref a]}:Obj)).objs.size,i.layAll (λb u e=>hk b u<|L8 _ e) (λb d=>?_)<|λb u d e=>?_,rfl,N _ k (i.hok.fresh<|by rw[f];lia) t (List.nodup_cons.mpr ⟨λz=>E _ z rfl,nd⟩) λb d=>i.hok.fresh<|g b d⟩
 ·unfold jW;rw[if_neg<|λz=>d<|by rw[z];exact i.hok.fresh<|by rw[f];lia,qg λz=>d<|i.hok.fresh<|g b z]
 ·unfold jW at e;by_cases A:b=(s1.heap.push ({cls:=.type "dict_items",data:=.fields #[.ref a]}:Obj)).objs.size
  ·rw[if_pos A] at e;cases e;subst A;refine⟨by rw[f];lia,by rw[L1,t];exact O,k.map Value.ref,c,?_,?_⟩
   ·clear P l D R nd t g E N
    induction k with
    | nil=>exact .nil
    | cons x k ih=>exact .cons rfl ih
   ·rw[P,<- l]
  ·rw[if_neg A] at e;by_cases B:b∈k
   ·obtain⟨j,S⟩:=List.mem_iff_getElem?.mp B;obtain⟨key,kk,x,e1,e2,e3⟩:=D.pairs j b S;obtain⟨y,ey,r1⟩:=jif J e1;rw[Qc nd S ey] at e;cases e;exact⟨g b B,show 2<=sizeLine by decide,[key,x],.cons (jhG e2)<|.cons r1 .nil,⟨_,e3,rfl,0,rfl⟩,_,e3,rfl⟩
   ·rw[qg B] at e;exact absurd e (by rw[d];exact λz=>nomatch z)
section
variable {prog:Program}{w:World}{A:Around}{E:J0}{s:Shared}
def jeJ{j t}{n}{a}{y}{C}(d:s.heap.IsTupleIter j t n)(e:s.heap.IsTuple t a)(f:a[n]?=some y)
  (go:∀ k,k.IsTupleIter j t (n+1)->Heap.SameBut j s.heap k->C y {s with heap:=k}):wpAny (model prog w) A (Builtin.SmallTypes.nextOf<|.ref j) C E s:=by
 obtain⟨i,c,g,b⟩:=id d;obtain⟨l,gt,_,mt,h⟩:=e;refine L3<|wpAny_callSpecial?_slot d.typeIs F.slot_tuple_iterator_next<|wpAny_call_entry F.slot_tuple_iterator_next d.typeIs F.entry_tuple_iterator_next ?_<|F.args_tuple_iterator_next_1 _;show wpAny _ _ (field (.ref j) 0 >>= _) _ _ s;refine L3<|U5 c b rfl<|L3<|U5 c b rfl<|L3<|wpAny_seqItems gt h ?_;simp only[N7,f];refine L3<|wpAny_setField c b (by simp)<|M6 ⟨y,rfl,M6<|go _ ⟨_,Heap.get?_update_self _ c<|Obj.isFreed_of_fields<|Obj.data_mapFields b _,(Obj.cls_mapFields ..).trans g,?_⟩<|Heap.SameBut.update ..⟩;rw[Obj.data_mapFields b];simp[rawInt]
variable {z TI TO j1 j2 l t:Addr}{m:Nat}{us vs:Array Value}{u v a b:Value}
end
def jnx(l)(items)(n)(b)(a)(d)(e)(sl)(g:¬(!items.isEmpty&&Builtin.List.listTooLong (items.size+a.size))=true)(h1:items.size<=sizeLine)(h2:items.size+a.size<=sizeLine+1):
  Meets (Builtin.«list.extend» ⟨[.ref l,.ref b],[]⟩) (λ_ R s=>s.heap.get? l=some {cls:=.type "list",dict:=none,data:=.seq items n,slots:=#[]}/\s.heap.get? b=some {cls:=.type "list",dict:=e,data:=.seq a d,slots:=sl}/\R (.ok<|.ret Value.none) {s with heap:=s.heap.update l (Obj.mapSeq λx=>x++a)}):=
 .of_wp λprog w A R s h=>by
  rcases s with⟨i,j,k,m,os⟩;obtain⟨c,f,q⟩:=h;have o:(items++a).size<=sizeLine+1:=by rw[Array.size_append];exact h2
  wp_walk using(wpAny_updateSeq c rfl),wpAny_loadPart' c,wpAny_loadPart' f
  exact⟨_,rfl,q⟩
def jnI(l)(items)(n)(b)(a)(d)(e)(sl)(g:¬(!items.isEmpty&&Builtin.List.listTooLong (items.size+a.size))=true)(h1:items.size<=sizeLine)(h2:items.size+a.size<=sizeLine+1):
  Meets (Builtin.«list.extend» ⟨[.ref l,.ref b],[]⟩) (λ_ R s=>s.heap.get? l=some {cls:=.type "list",dict:=none,data:=.seq items n,slots:=#[]}/\s.heap.get? b=some {cls:=.type "tuple",dict:=e,data:=.seq a d,slots:=sl}/\R (.ok<|.ret Value.none) {s with heap:=s.heap.update l (Obj.mapSeq λx=>x++a)}):=
 .of_wp λprog w A R s h=>by
  rcases s with⟨i,j,k,m,os⟩;obtain⟨c,f,q⟩:=h;have o:(items++a).size<=sizeLine+1:=by rw[Array.size_append];exact h2
  wp_walk using(wpAny_updateSeq c rfl),wpAny_loadPart' c,wpAny_loadPart' f
  exact⟨_,rfl,q⟩
def jjo(K:W5):V->List V->Hp->VK->Prop:=λx vs H Q=>∃ l b xs zs,x=.ref l/\vs=[.ref b]/\H l=some (.lst xs)/\(SqL K H b zs\/SqT K H b zs)/\xs.length+zs.length<=sizeLine/\Q .non (upd H l<|.lst<|xs++zs)
def jjz:MtM X "list.extend" (jjo X.K):=by
 intro p s σ H x vs v C Q I w y h;obtain⟨l,b,D,E,rfl,rfl,k,g,t,q⟩:=h;cases w;obtain⟨u,rfl,A⟩:=y.one;cases A;obtain⟨z,c,n,r,G,e⟩:=I.lstM k;rcases g with g | g
 ·obtain⟨a,r2,p2,_⟩:=I.list g;obtain⟨⟨cls,i,data,sl⟩,j,e2,m,hd,B⟩:=p2
  first | subst m | skip
  have f:c.toArray.size+a.toArray.size<=sizeLine:=by rw[N2,N2,<- r.length,<- r2.length];exact t
  have d:¬ (!c.toArray.isEmpty&&Builtin.List.listTooLong (c.toArray.size+a.toArray.size))=true:=by
   rw[uG f,Bool.and_false];exact M3
  have o:s.heap.get? b=some {cls:=.type "list",dict:=i,data:=.seq a.toArray j,slots:=sl}:=by
   rw[e2];simp_all
  refine call_meets PySem.F.slot_list_extend ⟨_,e,rfl⟩ PySem.F.entry_list_extend (PySem.F.args_list_extend_2 _ _) (jnx l c.toArray n b a.toArray j i sl d ∅ ∅) ⟨e,o,⟨.non,_,I.lset k e (by simp) (r.append r2) ?_,rfl,q⟩⟩;rw[N3]
  lia
 ·obtain⟨a,r2,p2,_⟩:=I.tuple g;obtain⟨⟨cls,i,data,sl⟩,e2,m,j,hd⟩:=p2;subst m hd;have f:c.toArray.size+a.toArray.size<=sizeLine:=by rw[N2,N2,<- r.length,<- r2.length];exact t
  have d:¬ (!c.toArray.isEmpty&&Builtin.List.listTooLong (c.toArray.size+a.toArray.size))=true:=by
   rw[uG f,Bool.and_false];exact M3
  refine call_meets PySem.F.slot_list_extend ⟨_,e,rfl⟩ PySem.F.entry_list_extend (PySem.F.args_list_extend_2 _ _) (jnI l c.toArray n b a.toArray j i sl d ∅ ∅) ⟨e,e2,⟨.non,_,I.lset k e (by simp) (r.append r2) ?_,rfl,q⟩⟩;rw[N3]
  lia
def jcE:kD X (.type "int") (λxs H Q=>∃ b:Bool,xs=[.bl b]/\Q (.int<|if b then 1 else 0) H):=by
 intro a s σ H xs d Q I r h;obtain⟨b,rfl,q⟩:=h;obtain⟨u,rfl,c⟩:=r.one;cases c;exact call_int_bool ⟨.int<|if b then 1 else 0,H,I.tok _,⟨_,rfl⟩,q⟩
section
def jkY(ft:TypeCalled T nw it)
  (c1:checkTypeCall T ⟨xs,kw⟩=pure ()) (d:checkBuiltinCall nw ⟨.type T::xs,kw⟩=pure ()) (f:entryFor table nw=some Bn) (i:entryFor table it=some Bi)
  (g:Meets (Bn ⟨.type T::xs,kw⟩) Sn) (h:Sn A.in1 (wants Q1 E) s)
  (nx:∀ obj s1,Q1 obj s1->s1.TypeIs obj T/\argsOk it ⟨obj::xs,kw⟩/\∃ Si,MeetsIn prog w (Bi ⟨obj::xs,kw⟩) Si/\Si A.in1 (wants (λr s2=>r=.none/\Q obj s2) E) s1):
  wpAny (model prog w) A (call (.type T) xs kw) Q E s:=by
 obtain⟨c,p,q⟩:=ft.mro;have t:=ft.made;have u:=ft.sub;refine wpAny_call<|codeAny_of_tree<|M6 ⟨Code.quiet_builtin _<|by decide +kernel,codeAny_builtin F.entry_type_call ?_⟩;have v:=ft.notType;have x:=ft.canCreate
 repeat (any_goals (first | assumption | wp_step))
 refine codeAny_mono (codeAny_call_builtin ft.plain f<|wpAny_of_eq d<|g prog w A.in1 _ s h) λr s1 b=>?_;cases r with
 | error e=>exact b
 | ok j=>
  cases j with
  | ret obj=>
   obtain⟨k,l,Si,m,n⟩:=nx _ _ b;have y:=ft.init.lookup;have z:=ft.init.bind obj
   repeat (any_goals (first | assumption | wp_step))
   refine codeAny_mono (codeAny_call_builtin ft.init.plain i<|ft.init.check _ _ _ _ _ _ _ _ k l<|m A.in1 _ s1 n) λr2 s2 a=>?_;cases r2 with
   | error e=>exact a
   | ok o=>
    cases o with
    | ret r=>
     obtain⟨rfl,B⟩:=a
     repeat (any_goals (first | assumption | wp_step))
    | _=>exact a.elim
  | _=>exact b.elim
def jna(c:typeLookup (.type T) "__init__" = pure (some<|.builtin "object.__init__"))
  (d:Bind.madeBy (.type T)=pure (some nw)) (e:(some nw != some "object.__new__")=true):
  Meets (Builtin.«object.__init__» ⟨self::x::xs,kw⟩) (λ_ R s=>s.TypeIs self T/\R (.ok<|.ret .none) s):=by
 refine Meets.of_wp λprog w A R s a=>?_;obtain⟨f,b⟩:=a
 repeat (any_goals (first | assumption | wp_step))
 exact⟨_,rfl,b⟩
def jnQ(a b):checkTypeCall "enumerate" ⟨[a],[("start",b)]⟩=pure ():=by kernel_rfl
def jnF(a b):checkBuiltinCall "enumerate.__new__" ⟨[.type "enumerate",a],[("start",b)]⟩=pure ():=by kernel_rfl
def jo4(a b c):argsOk "object.__init__" ⟨[a,b],[("start",c)]⟩:=by
 unfold argsOk;rw[signature?_of (n:=['_','_','t','i','n','i','_','_']) (by kernel_rfl) F.owner_object];kernel_rfl
open AutoSeq1 (wpAny_loadPart') in
def jhj(l)(us)(m)(dc)(sl)(n)(t)(j:Builtin.SmallTypes.fitsIndex n=true):
  Meets (Builtin.«enumerate.__new__» ⟨[.type "enumerate",.ref l],[("start",.int n t)]⟩) (λ_ R s=>s.heap.get? l=some {cls:=.type "list",dict:=dc,data:=.seq us m,slots:=sl} /\
   R (.ok<|.ret<|.ref (s.heap.push {cls:=.type "list_iterator",data:=.fields #[.ref l,.int 0 0]}).objs.size)
    { s with heap:=(s.heap.push {cls:=.type "list_iterator",data:=.fields #[.ref l,.int 0 0]}).push {cls:=.type "enumerate",data:=.fields #[.none,.bool false,.ref ↥s,rawInt n,.none,.none]} }):=
 .of_wp λprog w A R s h=>by
  obtain⟨f,g,d,i,os⟩:=s;obtain⟨a,h⟩:=h;have e:=sub_enumerate;have b:Heap.IsList (Shared.heap ⟨f,g,d,i,os⟩) l us:=⟨_,a,rfl,m,rfl⟩
  wp_walk using wpAny_loadPart' a
  refine wpAny_stack_any λk=>M6 ?_;split
  ·rename_i c _ _ _ _ _;cases(c==Value.type "enumerate")
   ·wp_walk using wpAny_loadPart' a,wpAny_pyIter_list b
    exact⟨_,rfl,h⟩
   ·wp_walk using wpAny_loadPart' a,wpAny_pyIter_list b
    exact⟨_,rfl,h⟩
  ·wp_walk using wpAny_loadPart' a,wpAny_pyIter_list b
   exact⟨_,rfl,h⟩
def jhD(d:s.heap.IsList l us)(e:Builtin.SmallTypes.fitsIndex n=true)
  (go:∀ k,IsEnum k (↥s+1) ↥s n .none->k.IsListIter ↥s l 0->(∀ b o,s.heap.get? b=some o->k.get? b=some o)->C (.ref<|↥s+1) {s with heap:=k}):
  wpAny (model prog w) A (call (.type "enumerate") [.ref l] [("start",.int n t)]) C E s:=by
 obtain⟨⟨c,f,i,sl⟩,g,h,m,hd⟩:=d;subst h hd;refine jkY (Q1:=λobj s1=>s1.TypeIs obj "enumerate"/\C obj s1) F.called_enumerate (jnQ _ _) (jnF _ _) F.entry_enumerate_new F.entry_object_init (jhj l us m f sl n t e) ⟨g,?_⟩
  λobj _ q=>⟨q.1,jo4 _ _ _,_,(jna F.called_enumerate.init.lookup F.called_enumerate.made<|by decide).inModel _ _,q.1,rfl,q.2⟩
 have z1:(s.heap.push {cls:=.type "list_iterator",data:=.fields #[.ref l,.int 0 0]}).objs.size=↥s+1:=Heap.size_push ..;rw[z1];have a:IsEnum ((s.heap.push {cls:=.type "list_iterator",data:=.fields #[.ref l,.int 0 0]}).push {cls:=.type "enumerate",data:=.fields #[.none,.bool false,.ref ↥s,rawInt n,.none,.none]}) (↥s+1) ↥s n .none:=by
  have q:=X7 (s.heap.push {cls:=.type "list_iterator",data:=.fields #[.ref l,.int 0 0]}) (o:={cls:=.type "enumerate",data:=.fields #[.none,.bool false,.ref ↥s,rawInt n,.none,.none]}) rfl;rw[z1] at q;exact q
 exact⟨⟨_,a,rfl⟩,go _ a ⟨_,L8 _<|X7 _ rfl,rfl,rfl⟩ λb o x=>L8 _<|L8 _ x⟩
end
def jop(K:W5)(tl:TA)(tb:TE):TI:=λσ H R=>tl σ H λvs H1=>tb σ H1 λv H2=>∃ a xs n,vs=[.ref a]/\v=.int n/\Builtin.SmallTypes.fitsIndex n=true/\SqL K H2 a xs/\R (Itn K a n) H2
def joH{X}{elts}{m}{tpos p pos d}{a b}{ta}{tb}(E:Gl X "enumerate")(F:X.mg "enumerate" = none)(G:PA X [a] ta)(j:PE X b tb)(J:starEach [a] X.env=[(false,eval a X.env)]:=by rfl):
  PI X (.Tuple elts m tpos) (.Call (.Name "enumerate" p) [a] [⟨some "start",b,d⟩] pos) (jop X.K ta tb):=by
 intro c s σ H R I h;refine wpAny_Call_Name_kw<|JV I E F (show bootBuiltins "enumerate" = some (.type "enumerate") by decide +kernel)<|L3<|wpAny_holding ?_;have B:=G pos c s σ H _ I h;rw[J] at B ⊢;refine wpAny_mono (evalArgs_kw (Q:=λx s1=>wpAny (model X.prog X.w) X.A (call (.type "enumerate") x.pos x.kw) (λv s1=>wpAny (model X.prog X.w) X.A (pyIter v) (PIE X c σ (.Tuple elts m tpos) R) X.xe s1) X.xe s1) rfl<|thn B λZ s1 ⟨vs,L,M,r1,N⟩=>?_) (λx s1 k=>L3<|wpAny_standAt ?_) λ_ _ x=>x
 ·refine wpAny_evalAll_cons<|L3<|thn (j c s1 σ L _ M N) λv s2 ⟨y,C,i,r2,O⟩=>L3<|wpAny_standAt<|M6<|wpAny_evalAll_nil ?_;obtain⟨l,xs,n,rfl,rfl,P,S,q⟩:=O;obtain⟨u,rfl,T⟩:=r1.one;cases T;obtain⟨t,rfl⟩:=r2;obtain⟨U,rv,pl,hz⟩:=i.list S;have f:l < ↥s2:=by
   obtain⟨o,_,e,_⟩:=pl;exact N0 e
  refine jhD pl.isList P λk D hit V=>?_;have W:Inv X c σ C {s2 with heap:=k}:=i.kept V;refine PySem.wpAny_pyIter_enum D ⟨↥s2+1,[↥s2+1,↥s2],_,_,C,rfl,W,jcU _ _ l n (Nat.succ_ne_self _) (N5<|Nat.lt_succ_of_lt f)<|N5 f,⟨⟨_,by simpa using D⟩,hit⟩,λb j=>?_,q⟩;have g:↥s2<=b:=by
   rcases(⇑j:b=↥s2+1\/b=↥s2) with z | z
   ·rw[z];exact Nat.le_succ _
   ·rw[z];exact M8 _
  exact i.fpOk g<|i.hok.fresh g
 ·exact L3<|M6<|L3<|wpAny_mono k (λr s2 Y=>L3<|wpAny_holding<|wpAny_point<|M6 Y) λ_ _ x=>x
section
variable {prog:Program}{w:World}{A:Around}{E:J0}{s:Shared}
def jhy{j t}{n}{a}{C}(f:A.handled=none)(b:s.heap.IsTupleIter j t n)(g:s.heap.IsTuple t a)(h:a[n]?=none)
  (go:∀ k e,Heap.ExtBut j s.heap k->(∃ o,k.get? e=some o/\o.cls=.type "StopIteration")->E (.ref e) {s with heap:=k}):wpAny (model prog w) A (Builtin.SmallTypes.nextOf<|.ref j) C E s:=by
 obtain⟨l,c,m,d⟩:=id b;obtain⟨p,gt,_,mt,i⟩:=g;refine L3<|wpAny_callSpecial?_slot b.typeIs F.slot_tuple_iterator_next<|wpAny_call_entry F.slot_tuple_iterator_next b.typeIs F.entry_tuple_iterator_next ?_<|F.args_tuple_iterator_next_1 _;show wpAny _ _ (field (.ref j) 0 >>= _) _ _ s;refine L3<|U5 c d rfl<|L3<|U5 c d rfl<|L3<|wpAny_seqItems gt i ?_;simp only[N7,h];refine L3<|wpAny_rule<|L3<|wpAny_setField c d (by simp)<|L3<|L3<|wpAny_newObj_type ?_ (by size_fits);refine L3<|wpAny_of_eq (by first | rfl | (simp only[firstArgMember];rfl)) ?_;refine wpAny_newObj_type (L3<|wpAny_handled ?_) (by size_fits)
 first | rw[f] | rw[f]
 exact L3<|M6<|wpAny_throw<|go _ _ (((Heap.SameBut.update ..).extBut.push _).push _) ⟨_,X7 _ rfl,rfl⟩
variable {z TI TO j1 j2 l t:Addr}{m:Nat}{us vs:Array Value}{u v a b:Value}
end
def Itk(a:Addr)(o:Obj)(kvs:List<|Key×V):It:=
 ⟨λi H=>H a=some (.frz o<|.dK kvs)/\i<kvs.length,λi H x H'=>H'=H/\∃ kv,kvs[i]?=some kv/\x=kV kv.1,λi H=>H a=some (.frz o<|.dK kvs)/\kvs.length<=i⟩
def jiN(ok:HOk P w H h)(e:H a=some (.frz o<|.dK kvs)):
  h.get? a=some o/\(a==sysModules)=false/\∃ vs,KV kvs vs/\h.DictOf (jL P w) a vs:=by
 obtain⟨b,c⟩:=(ok a _ e);obtain⟨_,d,f⟩:=(c);exact⟨b,d,f⟩
def jjV{P}{w}{K}{tg}(a n)(o)(g)(es)(ep)(ho:o.data=.dict es ep):Turn P w K tg (Itk a o g) [n] n (λi h=>h.IsKeyIter n a i g.length ep) where
 mem:=by simp
 obj:=λi h j b y=>by
  have e:b=n:=by simpa using y
  subst e;obtain⟨q,e,c,d⟩:=j;exact⟨q,e,λv z=>by rw[d] at z;cases z⟩
 keep:=λi h J j k=>j.at (k n<|by simp)
 item:=by
  intro X L M N hc i m s σ H E I F j O;subst L M N;obtain⟨Q,hx⟩:=O;obtain⟨R,g2,vs,G,S⟩:=jiN I.hok Q;obtain⟨r,l⟩:=S.dictAt;have t:r=ep:=by
   obtain⟨o',T,A,_,B,_⟩:=id l;rw[R] at A;cases A;rw[ho] at B;cases B;rfl
  subst t;have f:=G.length;obtain⟨⟨k,u⟩,hu⟩:∃ p,vs[i]?=some p:=⟨vs[i]'∅,by simp[<- f,hx]⟩;have hk:∃ v,g[i]?=some (k,v):=by
   have C:(g.map (·.1))[i]?=(vs.map (·.1))[i]?:=by rw[G.keys]
   rw[List.getElem?_map,List.getElem?_map,hu] at C;cases q:g[i]? with
   | none=>rw[q] at C;cases C
   | some p=>
    rw[q] at C;obtain⟨k',v⟩:=p;cases C;exact⟨v,rfl⟩
  obtain⟨v,U⟩:=hk;obtain⟨V,W,f2,Y,Z,f5⟩:=F n (by simp);rw[f] at j;refine wpAny_pyNext_dict_item j l hu λkey J D x sb=>?_;rw[<- f] at x;have I1:Inv X m σ H {s with heap:=J}:=I.turned (λb o y e=>(sb.2 b y).trans e) V W Y Z f5;obtain⟨o2,e,c,d⟩:=id x;exact⟨key,rfl,jaS e c d (by decide) ⟨kV k,H,I1,jhG D,⟨rfl,(k,v),U,rfl⟩,x,λb y=>(F b y).1⟩⟩
 done:=by
  intro X L M N hc i m s σ H E I F j O;subst L M N;obtain⟨Q,hx⟩:=O;obtain⟨R,g2,vs,G,S⟩:=jiN I.hok Q;obtain⟨r,l⟩:=S.dictAt;have t:r=ep:=by
   obtain⟨o',T,A,_,B,_⟩:=id l;rw[R] at A;cases A;rw[ho] at B;cases B;rfl
  subst t;have f:=G.length;obtain⟨V,W,f2,Y,Z,f5⟩:=F n (by simp);rw[f] at j;exact wpAny_pyNext_dict_end (I.ok.hd hc) j l (List.getElem?_eq_none ∅) λJ eb=>⟨rfl,I.turned (eb) V W Y Z f5⟩
 self:=λ_ _ _ _ _ j h=>wpAny_pyIter_keyiter j h
def iDK(te:TE):TI:=λσ H R=>te σ H λx H1=>∃ a kvs,x=.ref a/\H1 a=some (.dK kvs)/\∀ o,R (Itk a o kvs)<|upd H1 a<|.frz o<|.dK kvs
def Inv.frzD(I:Inv X pins σ H s)(c:H a=some (.dK kvs)):
  Ex3 λo es ep=>An3 (o.data=.dict es ep) (s.heap.get? a=some o) (Inv X pins σ (upd H a<|.frz o<|.dK kvs) s):=by
 obtain⟨z,hd,vs,e,d⟩:=jem I.hok c;obtain⟨o,es,ep,b,g,f,h,i,j⟩:=id d;refine⟨o,es,ep,f,b,?_⟩;exact K7 I (by rw[c];exact trivial) ⟨rfl,λ_ _=>rfl⟩ ⟨o,b⟩<|⟨b,z,hd,vs,e,d⟩
end L2
namespace PySem
open Sem (wp)
namespace F
end F
end PySem
namespace L2
open PySem PySem.Spec PyProof.Rows
def JF:entryFor table "dict_itemiterator.__iter__" = some Builtin.«dict_keyiterator.__iter__» :=
 entryFor_alias (id':="dict_keyiterator.__iter__") (by kernel_rfl) rfl (by decide +kernel) (by kernel_rfl)
def Qb(hit:IsItemIter s.heap it d i n ep ok ov)(h:Q (.ref it) s):wpAny (model prog w) A (pyIter<|.ref it) Q E s:=by
 have a:s.TypeIs (.ref it) "dict_itemiterator":=⟨_,hit,rfl⟩;exact wpAny_pyIter_slot a PySem.F.slot_dict_itemiterator_iter<|wpAny_call_entry PySem.F.slot_dict_itemiterator_iter a JF (M6 ⟨_,rfl,"dict_itemiterator",_,a,PySem.F.slot_dict_itemiterator_next.lookup,h⟩)<|PySem.F.args_dict_itemiterator_iter_1 _
theorem xc(a:l≠it):∀{n i}{s:Shared}{Q:List Value->Shared->Prop},i+n=items.size->s.heap.IsListIter it l i->s.heap.IsList l items ->
  (∀ h':Heap,h'.IsListIter it l items.size->Heap.SameBut it s.heap h'->Q (items.toList.drop i) {s with heap:=h'})->wpAny (model prog w) A (PySem.draw (.ref it) n) Q E s
 | 0,i,s,Q,r,f,g,h=>by
  refine M6 ?_;have e:items.toList.drop i=[]:=by apply List.drop_eq_nil_of_le;simp;lia
  have hi:i=items.size:=by lia
  subst hi;have:=h s.heap f ⟨rfl,λ_ _=>rfl⟩;rw[e] at this;exact this
 | n+1,i,s,Q,r,f,g,h=>by
  have hi:i<items.size:=by lia
  refine L3<|wpAny_pyNext_list_item f g (x:=items[i]) (by simp[hi]) λh' j k=>?_;have m:h'.IsList l items:=by
   obtain⟨o,e,c⟩:=g;exact⟨o,(k.2 l a).trans e,c⟩
  refine L3<|wpAny_holding<|xc a ∅ j m λt p d=>M6 ?_;have e:items.toList.drop i=items[i]::items.toList.drop (i+1):=by
   rw[List.drop_eq_getElem_cons ⇑hi];simp
  rw[<- e];exact h t p ⟨d.1.trans k.1,λb q=>(d.2 b q).trans (k.2 b q)⟩
def ud(n:A.handled=none)(k:s.heap.IsList l items)
  (h:∀ h':Heap,Heap.ExtBut ↥s s.heap h'->Q items.toList {s with heap:=h'}):wpAny (model prog w) A (unpackItems (.ref l) items.size none) Q E s:=by
 refine L3 ?_;obtain⟨o,g,co,p⟩:=id k;refine L3<|wpAny_specialOf ⟨o,g,co⟩ slot_list_iter.lookup<|M6 ?_;show wpAny _ _ (do
  let it <- holding [Value.ref l] (pyIter<|.ref l)
  _) _ _ _
 refine L3<|wpAny_holding<|wpAny_pyIter_list k ?_;have a:=N5<|N0 g;have q:(s.heap.push {cls:=.type "list_iterator",data:=.fields #[.ref l,.int 0 0]}).IsListIter ↥s l 0:=⟨_,X7 s.heap rfl,rfl,rfl⟩;have c:(s.heap.push {cls:=.type "list_iterator",data:=.fields #[.ref l,.int 0 0]}).IsList l items:=⟨o,L8 _ g,co,p⟩;refine L3<|wpAny_holding<|xc a ∅ q c λr i d=>?_;rw[List.drop_zero];have f:¬ (items.toList.length<items.size):=by simp
 have j:r.IsList l items:=by
  obtain⟨t,v,x⟩:=c;exact⟨t,(d.2 l a).trans v,x⟩
 rw[if_neg f];exact L3<|wpAny_holding<|wpAny_pyNext_list_end n i j (by simp) λy z=>(M6<|h y λb u m e=>(z b u m<|(d.2 b m).trans (L8 _ e)))
def Yx(b:A.handled=none)(c:s.heap.IsList l items)
  (d:(assignEach elts env).length=items.size) (a:(assignEach elts env).findIdx? (·.1)=none)
  (h:∀ h':Heap,Heap.ExtBut ↥s s.heap h'->wpAny (model prog w) A (assignInOrder ((assignEach elts env).map (·.2)) items.toList) Q E {s with heap:=h'}):wpAny (model prog w) A (assign (.Tuple elts k pos) env<|.ref l) Q E s:=by
 refine L3<|wpAny_standAt ?_;unfold unpack;rw[a,d];exact L3<|wpAny_holding<|ud b c h
def jkF(K:W5)(n:Nat)(t:TGs):TG:=λv σ H Q=>∃ a xs,v=.ref a/\SqL K H a xs/\xs.length=n/\t xs σ H Q
def jhl(i:X.calm=true)(h:PGs X es t)
  (j:(assignEach es X.env).length=n:=by rfl) (d:(assignEach es X.env).findIdx? (·.1)=none:=by rfl):PG X (.Tuple es k pos) (jkF X.K n t):=by
 intro c s σ H v u Q I r f;obtain⟨a,l,m,p,q,f⟩:=f;subst m;cases r;obtain⟨w,g,x,B⟩:=I.list p;refine Yx (I.ok.hd i) x.isList (by simp[j,<- q,g.length]) d λy z=>?_;have A:Inv X c σ H {s with heap:=y}:=I.kept λb o e=>z b o (N5<|N0 e) e;exact h c _ σ H l _ Q A ⇑g f
end L2
namespace PySem
open Sem (wp)
end PySem
namespace L2
open PySem PySem.Spec PyProof.Rows
end L2
namespace PySem
open PySem.W PyProof.Rows PySem.Calls
noncomputable def kEv{α}(lt:Nat->Nat->Bool):KasT α->α
 | .ret a=>a
 | .ask i j k=>kEv lt<|k<|lt i j
def kOk{α}(lt:Nat->Nat->Bool)(n:Nat):KasT α->Prop
 | .ret _=>True
 | .ask i j k=>i<n/\j<n/\kOk lt n (k<|lt i j)
theorem Jf:∀ t:KasT α,kEv lt (t.bind f)=kEv lt (f<|kEv lt t)
 | .ret a=>rfl
 | .ask i j k=>Jf<|k<|lt i j
theorem Jh:∀ t:KasT α,kOk lt n t->kOk lt n (f<|kEv lt t)->kOk lt n (t.bind f)
 | .ret a,_,h=>h
 | .ask i j k,b,c=>⟨b.1,b.2.1,Jh (k<|lt i j) b.2.2 c⟩
theorem jgo(c:∀ i j C,i<n->j<n->C (lt i j) s->cmp i j C s):∀ t:KasT α,kOk lt n t->Q (kEv lt t) s->t.kasWp cmp Q s
 | .ret a,_,h=>h
 | .ask i j k,b,h=>c i j _ b.1 b.2.1<|jgo c (k<|lt i j) b.2.2 h
def Pm(n:Nat)(p:Array Nat):Prop:=p.toList.Perm<|List.range n
def Pm.lt(h:Pm n p)(a:0<n)(i):p.getD i 0<n:=by
 by_cases hi:i<p.size
 ·have e:p.getD i 0=p[i]:=by simp[Array.getD,hi]
  rw[e];have b:p[i]∈p.toList:=by simp
  exact List.mem_range.mp<|h.mem_iff.mp b
 ·have e:p.getD i 0=0:=by simp[Array.getD,hi]
  rw[e];exact a
def Pm.swap(h:Pm n p)(i j:Nat):Pm n (p.swapIfInBounds i j):=by
 refine List.Perm.trans ?_ h;rw[Array.swapIfInBounds_def];split
 ·split
  ·exact(Array.perm_iff_toList_perm.mp<|Array.swap_perm _ _)
  ·exact List.Perm.refl _
 ·exact List.Perm.refl _
theorem Pm.swaps(u v:Nat->Nat):∀(l:List Nat) {p},Pm n p->Pm n (l.foldl (λa k=>a.swapIfInBounds (u k)<|v k) p)
 | [],_,h=>h
 | k::l,p,h=>Pm.swaps u v l<|h.swap _ _
def Pm.rev(h:Pm n p)(i j):Pm n (kas_rev p i j):=Pm.swaps _ _ _ h
def Pm.bub(h:Pm n p)(k m):Pm n (bubble p k m):=Pm.swaps _ _ _ h
section
variable {lt:Nat->Nat->Bool}{n:Nat}
theorem jdu(a:0<n)  (h:Pm n p):∀ f m,kOk lt n<|kas_asc p f m
 | 0,_=>trivial
 | f+1,m=>by
  refine⟨h.lt a _,h.lt a _,?_⟩;dsimp only;split
  ·trivial
  ·exact jdu a h f<|m+1
theorem Qg(b:0<n):∀ f {p} m q,Pm n p->kOk lt n (kas_desc f p m q)/\Pm n (kEv lt<|kas_desc f p m q).1
 | 0,_,_,_,h=>⟨trivial,h⟩
 | f+1,p,m,q,h=>by
  have a:=h.lt b;cases hc:lt (p.getD m 0) (p.getD (m-1) 0) with
  | true=>
   by_cases e:q>0
   ·have c:=Qg b f (p:=kas_rev p (m-(q+1)) m) (m+1) 0<|h.rev _ _;have d:=e;simp only[kas_desc,kOk,kEv,hc,if_true,gt_iff_lt,d,a,true_and];exact c
   ·have c:=Qg b f (m+1) 0 h;simp only[kas_desc,kOk,kEv,hc,if_true,gt_iff_lt,e,if_false,a,true_and];exact c
  | false=>
   cases hd:lt (p.getD (m-1) 0) (p.getD m 0) with
   | true=>
    simp only[kas_desc,kOk,kEv,hc,hd,if_true,Bool.false_eq_true,if_false,a,true_and];exact h
   | false=>
    simp only[kas_desc,kOk,kEv,hc,hd,Bool.false_eq_true,if_false,a,true_and];exact(Qg b f (m+1) (q+1) h)
def Y0(a:0<n)  (h:Pm n p) (m k):kOk lt n (kas_tail3 m k p)/\Pm n (kEv lt<|kas_tail3 m k p).2:=by
 unfold kas_tail3;exact⟨Jh _ (jdu a (h.rev _ _) _ _) trivial,by rw[Jf];exact h.rev _ _⟩
def kP(a:0<n)  (h:Pm n p) (m k):kOk lt n (kas_descPart m k p)/\Pm n (kEv lt<|kas_descPart m k p).2:=by
 unfold kas_descPart;have hd:=Qg (lt:=lt) a (k-(m+1)) (m+1) 0 h;refine⟨Jh _ hd.1 ?_,?_⟩
 ·split
  ·exact(Y0 a (hd.2.rev _ _) _ _).1
  ·exact(Y0 a hd.2 _ _).1
 ·rw[Jf];split
  ·exact(Y0 a (hd.2.rev _ _) _ _).2
  ·exact(Y0 a hd.2 _ _).2
def jfT(a:0<n)  (h:Pm n p) (k):kOk lt n (kas_count k p)/\Pm n (kEv lt<|kas_count k p).2:=by
 unfold kas_count;refine⟨Jh _ (jdu (lt:=lt) a h (k-1) 1) ?_,?_⟩
 ·generalize kEv lt (kas_asc p (k-1) 1)=m;split
  ·trivial
  ·split
   ·refine⟨h.lt a _,h.lt a _,?_⟩;dsimp only;split
    ·trivial
    ·exact(kP a (h.rev _ _) _ _).1
   ·exact(kP a h _ _).1
 ·rw[Jf];split
  ·exact h
  ·split
   ·dsimp only[kEv];split
    ·exact h
    ·exact(kP a (h.rev _ _) _ _).2
   ·exact(kP a h _ _).2
theorem K9(a:0<n)  (h:Pm n p) (k):∀ f l r,kOk lt n<|kas_place p k f l r
 | 0,_,_=>trivial
 | f+1,l,r=>by
  unfold kas_place;split
  ·trivial
  ·refine⟨h.lt a _,h.lt a _,?_⟩;dsimp only;split
   ·exact K9 a h k f _ _
   ·exact K9 a h k f _ _
theorem jda(a:0<n):∀ f {p} k,Pm n p->kOk lt n (kas_bin f p k)/\Pm n (kEv lt<|kas_bin f p k)
 | 0,_,_,h=>⟨trivial,h⟩
 | f+1,p,k,h=>by
  unfold kas_bin;have b:=jda a f (p:=bubble p k<|k-kEv lt (kas_place p k k 0 k)) (k+1)<|h.bub _ _;exact⟨Jh _ (K9 (lt:=lt) a h k k 0 k) b.1,by rw[Jf];exact b.2⟩
def jdk(b:0<n):kOk lt n (kas_sort n)/\Pm n (kEv lt<|kas_sort n):=by
 unfold kas_sort;have c:Pm n (List.toArray<|List.range n):=List.Perm.refl _;have a:=jfT (lt:=lt) b c n;refine⟨Jh _ a.1 ?_,?_⟩
 ·split
  ·exact(jda b _ _ a.2).1
  ·trivial
 ·rw[Jf];split
  ·exact(jda b _ _ a.2).2
  ·exact a.2
end
end PySem
set_option maxHeartbeats 4000000
namespace PySem
open PySem.W PyProof.Rows PySem.Calls
def Kb{α:Type}(lt:Nat->Nat->Bool)(vs:List α)(d:α):List α:=if vs.length<2 then vs else(kEv lt<|kas_sort vs.length).toList.map λi=>vs.getD i d
def jas(lt)(vs)(d:α):(Kb lt vs d).length=vs.length:=by
 unfold Kb;split
 ·rfl
 ·rename_i h;rw[L1];have:=((jdk (lt:=lt) (n:=vs.length) ∅).2).length_eq;rw[this,List.length_range]
def zm(m:s.heap.get? a=some (seqObj "list" vs.toArray n))(r:vs.length<64)
  (H:2<=vs.length->∀ s':Shared,(∀ b o,b≠a->s.heap.get? b=some o->s'.heap.get? b=some o)->∀{Q:SortKind->Shared->Prop},Q κ s'->wpAny (model prog w) A (keyKind' vs.toArray) Q (λ_ _=>False) s')
  (t:∀ s':Shared,(∀ b o,b≠a->s.heap.get? b=some o->s'.heap.get? b=some o)->∀ i j,i<vs.length->j<vs.length->∀{C:Bool->Shared->Prop},C (lt i j) s'->wpAny (model prog w) A (keyLt' κ (vs.getD i Value.none)<|vs.getD j Value.none) C (λ_ _=>False) s')
  (h:P (.done<|.ret .none) {s with heap:=sortedHeap s.heap a vs (Kb lt vs Value.none).toArray}):
  wpAny (model prog w) A (Builtin.«list.sort» ⟨[.ref a],[]⟩) P E s:=by
 rw[list_sort_plain];have z:=N0 m;refine L3<|listItems_at m rfl<|L3<|listUpdate_at m rfl ?_;obtain⟨u,g⟩:∃ u,(s.heap.update a<|Obj.mapSeq λ_=>#[]).get? a=some (seqObj "list" #[] u):=⟨_,get?_update_seq m<|λ_=>#[]⟩;refine L3<|seqEpoch_at g rfl<|L3<|wpAny_newTuple<|L3<|wpAny_newList<|wpAny_holding ?_;have d:(((s.heap.update a<|Obj.mapSeq λ_=>#[]).push (seqObj "tuple" vs.toArray 0)).push (seqObj "list" #[] 0)).get? a=some (seqObj "list" #[] u):=by
  rw[Heap.get?_push_ne _ _ _<|by rw[size_push',Heap.size_update];exact N5<|Nat.lt_succ_of_lt z,Heap.get?_push_ne _ _ _<|by rw[Heap.size_update];exact N5 z];exact g
 have keep:∀ b o,b≠a->s.heap.get? b=some o->(((s.heap.update a<|Obj.mapSeq λ_=>#[]).push (seqObj "tuple" vs.toArray 0)).push (seqObj "list" #[] 0)).get? b=some o:=λb o I e=>
  L8 _ (L8 _<|by rw[Heap.get?_update_ne _ _ _ _ I];exact e)
 dsimp only;have v:vs.toArray.size=vs.length:=by simp
 by_cases q:vs.toArray.size<2
 ·have c:Kb lt vs Value.none=vs:=by unfold Kb;rw[if_pos ∅]
  rw[c] at h;rw[if_pos q,if_pos q];refine L3<|M6<|L3<|M6 ?_;have J:(arrOf<|SortSt.mk' general' (vs.toArray.zip vs.toArray) #[] 7 none).map (·.2)=vs.toArray:=by
   apply Array.toList_inj.mp;simp;exact List.map_snd_zip<|M8 _
  rw[J];refine L3<|seqEpoch_at d rfl ?_;refine L3<|listUpdate_at d rfl ?_ (hsz2:=by rw[v,sizeLine_eq];lia);simp only[bne_self_eq_false,Bool.false_eq_true,if_false];exact M6 h
 ·have k:2<=vs.length:=by lia
  have c:Kb lt vs Value.none=(kEv lt<|kas_sort vs.length).toList.map λi=>vs.getD i Value.none:=by unfold Kb;rw[if_neg ∅]
  rw[if_neg q,if_neg q];refine L3<|wpAny_mono (H k {s with heap:=((s.heap.update a<|Obj.mapSeq λ_=>#[]).push (seqObj "tuple" vs.toArray 0)).push (seqObj "list" #[] 0)} keep (Q:=λB D=>B=κ/\D={s with heap:=((s.heap.update a<|Obj.mapSeq λ_=>#[]).push (seqObj "tuple" vs.toArray 0)).push (seqObj "list" #[] 0)}) ⟨rfl,rfl⟩) ?_ λ_ _ x=>x.elim;rintro B D ⟨rfl,rfl⟩;have l:=kat_run (E:=E)
   (Q:=λf s'=>s'={s with heap:=((s.heap.update a<|Obj.mapSeq λ_=>#[]).push (seqObj "tuple" vs.toArray 0)).push (seqObj "list" #[] 0)}/\arrOf f=(kEv lt<|kas_sort vs.length).map (kas_item<|vs.toArray.zip vs.toArray)/\failedOf f=none)
   (G:=λp s'=>p=kEv lt (kas_sort vs.length)/\s'={s with heap:=((s.heap.update a<|Obj.mapSeq λ_=>#[]).push (seqObj "tuple" vs.toArray 0)).push (seqObj "list" #[] 0)})
   rfl k r (λp f s' R K L F=>⟨F.2,by rw[<- F.1];exact K,L⟩)
   (jgo (λi j C hi M N=>t {s with heap:=((s.heap.update a<|Obj.mapSeq λ_=>#[]).push (seqObj "tuple" vs.toArray 0)).push (seqObj "list" #[] 0)} keep i j hi M N) _ (jdk (lt:=lt) (n:=vs.length) ∅).1 ⟨rfl,rfl⟩)
  refine L3<|wpAny_mono l ?_ λ_ _ e=>e;rintro⟨⟨⟩,f⟩ s' ⟨rfl,y,O⟩;rw[kat_snds rfl y,<- c];refine L3<|seqEpoch_at d rfl ?_;refine L3<|listUpdate_at d rfl ?_ (hsz2:=by rw[N2,jas,sizeLine_eq];lia);rw[O];simp only[bne_self_eq_false,Bool.false_eq_true,if_false];exact M6 h
def Kg(t:s.heap.IsList l vs.toArray)(m:vs.length<64)
  (u:2<=vs.length->∀ A' s',(∀ b o,s.heap.get? b=some o->s'.heap.get? b=some o)->∀{Q:SortKind->Shared->Prop},Q κ s'->wpAny (model prog w) A' (keyKind' vs.toArray) Q (λ_ _=>False) s')
  (a:∀ A' s',(∀ b o,s.heap.get? b=some o->s'.heap.get? b=some o)->∀ i j,i<vs.length->j<vs.length->∀{C:Bool->Shared->Prop},C (lt i j) s'->wpAny (model prog w) A' (keyLt' κ (vs.getD i Value.none)<|vs.getD j Value.none) C (λ_ _=>False) s')
  (h:∀ h' c,(∀ b o,s.heap.get? b=some o->h'.get? b=some o)->h'.get? (↥s+1)=some (seqObj "list" (Kb lt vs Value.none).toArray c)->Q (.ref<|↥s+1) {s with heap:=h'}):
  wpAny (model prog w) A (call (.builtin "sorted") [.ref l]) Q E s:=by
 refine Calls.call_function_entry kind_sorted plain_sorted entry_sorted (args_sorted1 _)<|L3<|M6 ?_;refine L3<|collect_list t ?_ (by rw[sizeLine_eq];lia);refine L3<|wpAny_newList ?_ (by rw[sizeLine_eq];lia);have e:((s.heap.push<|seqObj "list" #[] 0).update ↥s (Obj.mapSeq (·++vs.toArray))).objs.size=↥s+1:=by
  rw[Heap.size_update,size_push']
 have f:(((s.heap.push<|seqObj "list" #[] 0).update ↥s (Obj.mapSeq (·++vs.toArray))).push (seqObj "list" vs.toArray 0)).get? (↥s+1)=some (seqObj "list" vs.toArray 0):=by
  rw[<- e];exact X7 _ rfl
 have keep:∀ b o,s.heap.get? b=some o->(((s.heap.push<|seqObj "list" #[] 0).update ↥s (Obj.mapSeq (·++vs.toArray))).push (seqObj "list" vs.toArray 0)).get? b=some o:=λb o q=>by
  have a:=N0 q;rw[Heap.get?_push_ne _ _ _<|by rw[e];exact N5<|Nat.lt_succ_of_lt a,Heap.get?_update_ne _ _ _ _<|N5 a,Heap.get?_push_ne _ _ _<|N5 a];exact q
 rw[e];have d:∀{s':Shared},(∀ b o,b≠↥s+1->(((s.heap.push<|seqObj "list" #[] 0).update ↥s (Obj.mapSeq (·++vs.toArray))).push (seqObj "list" vs.toArray 0)).get? b=some o->s'.heap.get? b=some o)->∀ b o,s.heap.get? b=some o->s'.heap.get? b=some o:=λk b o q=>
  k b o (N5<|Nat.lt_succ_of_lt<|N0 q) (keep b o q)
 refine L3<|wpAny_holding<|wpAny_call_entry slot_list_sort ⟨_,f,rfl⟩ entry_list_sort ?body (args_list_sort _)
 case body=>
  refine zm f m (λv s' k=>u v _ s'<|d k) (λs' k=>a _ s'<|d k) ?_;have g:∃ c,(sortedHeap (((s.heap.push<|seqObj "list" #[] 0).update ↥s (Obj.mapSeq (·++vs.toArray))).push (seqObj "list" vs.toArray 0)) (↥s+1) vs (Kb lt vs Value.none).toArray).get? (↥s+1)=some (seqObj "list" (Kb lt vs Value.none).toArray c):=by
   obtain⟨p,n⟩:∃ p,((((s.heap.push<|seqObj "list" #[] 0).update ↥s (Obj.mapSeq (·++vs.toArray))).push (seqObj "list" vs.toArray 0)).update (↥s+1) (Obj.mapSeq λ_=>#[])).get? (↥s+1)=some (seqObj "list" #[] p):=⟨_,get?_update_seq f<|λ_=>#[]⟩;exact⟨_,get?_update_seq (L8 _<|L8 _ n) λ_=>(Kb lt vs Value.none).toArray⟩
  obtain⟨c,x⟩:=g;refine⟨_,rfl,M6 ⟨_,rfl,h _ c (λb o q=>?_) x⟩⟩;have r:=N5<|Nat.lt_succ_of_lt<|N0 q;show(Heap.update _ _ _).get? b=some o;rw[Heap.get?_update_ne _ _ _ _ r];exact L8 _<|L8 _ (by rw[Heap.get?_update_ne _ _ _ _ r];exact keep b o q)
noncomputable abbrev jeh:=Str×Str×Int
noncomputable def Kc(x y:jeh):Bool:=if x.1=y.1 then(if x.2.1=y.2.1 then decide (x.2.2<y.2.2) else decide (x.2.1.cps.toList<y.2.1.cps.toList)) else decide (x.1.cps.toList<y.1.cps.toList)
def jbm(h:Heap)(v:Value)(r:jeh):Prop:=∃ a o m t1 t2 t3,v=.ref a/\h.get? a=some o/\o.cls=.type "tuple"/\o.data=.seq #[.str r.1 t1,.str r.2.1 t2,.int r.2.2 t3] m
def jnl(d:jbm s.heap v x)(e:jbm s.heap u y)  (h:C (Kc x y) s):wpAny (model prog w) A (keyLt' (tuples' true) v u) C E s:=by
 obtain⟨a,o,m,k,l,n,rfl,f,p,g⟩:=d;obtain⟨b,q,r,t,z,B,rfl,i,D,j⟩:=e;refine kat_lt f g i j ?_;unfold Kc at h;refine kat_cons<|wpAny_eqBool_str ?_;by_cases c:x.1=y.1
 ·rw[if_pos c] at h;rw[X0 c];refine kat_yes<|kat_cons<|wpAny_eqBool_str ?_;by_cases e2:x.2.1=y.2.1
  ·rw[if_pos e2] at h;rw[X0 e2];refine kat_yes<|kat_cons<|wpAny_eqBool_int ?_;by_cases e3:x.2.2=y.2.2
   ·rw[show(x.2.2==y.2.2)=true by simp[e3]];refine kat_yes<|kat_nil ?_;have:decide (x.2.2<y.2.2)=decide (3<3):=by rw[e3];simp
    rw[this] at h;exact h
   ·rw[show(x.2.2==y.2.2)=false by simp[e3]];exact kat_no<|kat_one _ _<|wpAny_lt_int h
  ·rw[if_neg e2] at h;rw[X1 e2];exact kat_no<|kat_one _ _<|lt_str h
 ·rw[if_neg c] at h;rw[X1 c];exact kat_no<|oneLt_str h
def jdm{A}{E}{s}{vs:List Value}{rs:List jeh}(c:vs.length=rs.length)(b:∀(j:Nat) v,vs[j]?=some v->∃ r,rs[j]?=some r/\jbm s.heap v r)(u:0<vs.length){Q}(h:Q (tuples' true) s):wpAny (model prog w) A (keyKind' vs.toArray) Q E s:=by
 have key:∀ vs (rs:List jeh),vs.length=rs.length->(∀(j:Nat) v,vs[j]?=some v->∃ r,rs[j]?=some r/\jbm s.heap v r)->∃ fs:List Value,KatTups s.heap vs fs/\fs.length=vs.length/\∀ v∈fs,∃ x t,v=Value.str x t:=by
  intro vs
  induction vs with
  | nil=>intro rs _ _;exact⟨[],KatTups.nil,rfl,λv b=>(nomatch b)⟩
  | cons v vs d=>
   intro rs c b;cases rs with
   | nil=>simp at c
   | cons r rs=>
    obtain⟨fs,k,l,f⟩:=d rs ⇑c λj v e=>b (j+1) v ⇑e;obtain⟨g,e,a,o,m,i,y,z,rfl,n,p,q⟩:=b 0 v rfl;refine⟨.str g.1 i::fs,KatTups.cons n p q rfl k,by simp[l],λv b=>?_⟩;rcases M4.mp b with rfl | b
    ·exact⟨_,_,rfl⟩
    ·exact f v b
 obtain⟨fs,k,l,f⟩:=key vs rs c b;refine kat_kind (T:=.type "str") k ∅ (λv b=>?_) (by rfl) h;obtain⟨x,t,rfl⟩:=f v b;exact Looks.of_pure rfl
def YV{A}{E}{s:Shared}{vs}{rs:List jeh}{Q}(u:s.heap.IsList l vs.toArray)(n:vs.length<64)(g:vs.length=rs.length)(x:∀(j:Nat) v,vs[j]?=some v->∃ r,rs[j]?=some r/\jbm s.heap v r)
  (h:∀ h' c,(∀ b o,s.heap.get? b=some o->h'.get? b=some o)->h'.get? (↥s+1)=some (seqObj "list" (Kb (λi j=>Kc (rs.getD i ("","",0))<|rs.getD j ("","",0)) vs Value.none).toArray c)->Q (.ref<|↥s+1) {s with heap:=h'}):
  wpAny (model prog w) A (call (.builtin "sorted") [.ref l]) Q E s:=by
 have up:∀(d:Shared),(∀ b o,s.heap.get? b=some o->d.heap.get? b=some o)->∀ j v,vs[j]?=some v->∃ r,rs[j]?=some r/\jbm d.heap v r:=λd f j v k=>by
  obtain⟨r,e,a,o,m,y,z,B,p,D,q,F⟩:=x j v k;exact⟨r,e,a,o,m,y,z,B,p,f a o D,q,F⟩
 refine Kg u n (λq G d f Q H=>jdm g (up d f) ∅ H) (λG d f i j hi k C t=>?_) h;obtain⟨r1,p,I⟩:=up d f i _<|X5 hi;obtain⟨r2,e2,J⟩:=up d f j _<|X5 k;have K:vs.getD i Value.none=vs[i]:=by simp[hi]
 have g2:vs.getD j Value.none=vs[j]:=by simp[k]
 rw[K,g2];refine jnl I J ?_;have L:rs.getD i ("","",0)=r1:=by rw[List.getD_eq_getElem?_getD,p];rfl
 have M:rs.getD j ("","",0)=r2:=by rw[List.getD_eq_getElem?_getD,e2];rfl
 rw[L,M] at t;exact t
end PySem
namespace PySem
open Sem (wp)
section
variable {prog:Program}{w:World}{A:Around}{E:J0}{h:Heap}{g:Array GenState}{dr:Drawn}{t:Nat}{os:OsState}
def jnV{a d:Addr}{i ep:Nat}{es:Array DictEntry}{od:Obj}{en:DictEntry}{ok l:Value}{Q:Option Value->Shared->Prop}(hit:IsItemIter h a d i es.size ep ok l)(N:h.get? d=some od)(u:od.data=.dict es ep)(O:es[i]?=some en)
  (P:∀ h',IsItemIterOut h' a d (i+1) es.size ep en.key en.val h.objs.size->h'.get? h.objs.size=some {cls:=.type "tuple",data:=.seq #[en.key,en.val]}->(∀ b o,b≠a->h.get? b=some o->h'.get? b=some o)->Q (some<|.ref h.objs.size) ⟨h',g,dr,t,os⟩):
  wpAny (model prog w) A (pyNext<|.ref a) Q E ⟨h,g,dr,t,os⟩:=by
 have r:Shared.TypeIs ⟨h,g,dr,t,os⟩ (.ref a) "dict_itemiterator":=⟨_,hit,rfl⟩;obtain⟨oc,R,S,T⟩:=od;subst u;have U:¬ ((i:Int)<0):=by lia
 refine L3<|wpAny_attempt<|wpAny_callSpecial?_slot (name:=Str.ofString "__next__") r F.slot_dict_itemiterator_next ?_;refine wpAny_call_entry F.slot_dict_itemiterator_next r F.entry_dict_itemiterator_next ?_<|F.args_dict_itemiterator_next_1 _
 repeat (any_goals (first | assumption | wp_step))
 rw[if_neg U,N7,O];refine L3 ?_;refine L3<|wpAny_typeNameOfWhole_itemiter r<|M6 ?n1
 case n1=>
  refine L3<|wpAny_isOneOf_itemiter r<|show wpAny _ _ (setField (.ref a) 3 (rawInt<|i+1) >>= _) _ _ _ from L3 (wpAny_setField_rec hit (by simp) λf V W=>?_);have m:Heap.SameBut a h f:=W;have n:IsItemIter f a d (i+1) es.size ep ok l:=by
   have e:((i+1:Nat):Int)=i+1:=by lia
   unfold IsItemIter;rw[e];simpa [rawInt] using V
  have p:Shared.TypeIs ⟨f,g,dr,t,os⟩ (.ref a) "dict_itemiterator":=⟨_,n,rfl⟩;refine L3<|wpAny_holding<|L3<|wpAny_isOneOf_itemiter p<|L3<|wpAny_isOneOf_itemiter p ?_;unfold Builtin.Dict_items.pairFromOwner;refine L3<|wpAny_newTuple ?_;have M:f.objs.size=h.objs.size:=m.1;have q:IsItemIter (f.push {cls:=.type "tuple",data:=.seq #[en.key,en.val]}) a d (i+1) es.size ep ok l:=L8 _ n;have j:(f.push {cls:=.type "tuple",data:=.seq #[en.key,en.val]}).get? h.objs.size=some {cls:=.type "tuple",data:=.seq #[en.key,en.val]}:=by rw[<- M];exact X7 _ rfl
  have k:∀ b o,b≠a->h.get? b=some o->(f.push {cls:=.type "tuple",data:=.seq #[en.key,en.val]}).get? b=some o:=λb o c e=>L8 _<|m.extBut b o c e;have v:h.objs.size≠a:=Nat.ne_of_gt<|N0 hit;rw[M];generalize f.push ({cls:=.type "tuple",data:=.seq #[en.key,en.val]}:Obj)=k2 at q j k;refine L3 ?_;unfold Builtin.Dict_items.ownedTupleIsFree;refine L3<|U5 q rfl (x:=.none) rfl<|M6 ?_;simp only[if_true];refine L3<|U5 q rfl (x:=ok) rfl<|L3<|U5 q rfl (x:=l) rfl<|L3<|wpAny_setField_rec q (by simp) λy X Y=>?_;have z:Heap.SameBut a k2 y:=Y;have B:IsItemIter y a d (i+1) es.size ep en.key l:=X;refine L3<|wpAny_setField_rec B (by simp) λC Z b4=>?_;have D:Heap.SameBut a y C:=b4;have G:IsItemIter C a d (i+1) es.size ep en.key en.val:=Z;refine L3<|wpAny_setField_rec G (by simp) λH q5 b5=>?_;have I:Heap.SameBut a C H:=b5;have J:IsItemIterOut H a d (i+1) es.size ep en.key en.val h.objs.size:=q5;refine L3<|wpAny_setField_rec J (by simp) λs q6 b6=>?_;have K:Heap.SameBut a H s:=b6;have L:IsItemIterOut s a d (i+1) es.size ep en.key en.val h.objs.size:=q6;have up:∀ b o,b≠a->k2.get? b=some o->s.get? b=some o:=λb o c e=>K.extBut b o c<|I.extBut b o c<|D.extBut b o c<|z.extBut b o c e;exact L3<|wpAny_letGo<|M6<|M6 ⟨_,rfl,M6<|P s L (up _ _ v j) λb o c e=>up b o c<|k b o c e⟩
def jpT{a d}{i ep}{es}{od}{ok e}{Q}(f:A.handled=none)(hit:IsItemIter h a d i es.size ep ok e)(j:h.get? d=some od)(b:od.data=.dict es ep)(k:es[i]?=none)
  (l:∀ h',Heap.ExtBut a h h'->Q none ⟨h',g,dr,t,os⟩):wpAny (model prog w) A (pyNext<|.ref a) Q E ⟨h,g,dr,t,os⟩:=by
 have c:Shared.TypeIs ⟨h,g,dr,t,os⟩ (.ref a) "dict_itemiterator":=⟨_,hit,rfl⟩;obtain⟨oc,m,n,o⟩:=od;subst b;have p:¬ ((i:Int)<0):=by lia
 refine L3<|wpAny_attempt<|wpAny_callSpecial?_slot c F.slot_dict_itemiterator_next ?_;refine wpAny_call_entry F.slot_dict_itemiterator_next c F.entry_dict_itemiterator_next ?_<|F.args_dict_itemiterator_next_1 _
 repeat (any_goals (first | assumption | wp_step))
 rw[if_neg p,N7,k];refine L3 ?_;refine L3<|wpAny_typeNameOfWhole_itemiter c<|M6 ?n1
 case n1=>
  refine(show wpAny _ _ (setField (.ref a) 2 .none >>= _) _ _ _ from L3 (wpAny_setField hit rfl (by simp) ?_));refine(L3 ?_);simp only[newExc,newTuple];refine L3<|wpAny_newObj_type (L3<|wpAny_of_eq (by first | rfl | (simp only[firstArgMember];rfl))<|wpAny_newObj_type ?_<|by size_fits) (by size_fits);simp only[raiseNew];refine L3<|wpAny_handled ?_;rw[f];refine L3<|M6<|wpAny_throw ?_;refine L3<|wpAny_isInstance ⟨_,X7 _ rfl,rfl⟩ isSubtype_stop<|M6<|l _ ?_;exact((Heap.SameBut.update ..).extBut.push _).push _
def wT{d}{od}{es:Array DictEntry}{ep:Nat}{Q}(a:h.get? d=some od)(c:od.ExactDict)(hd:(d==sysModules)=false)
  (e:Q (.ref h.objs.size) ⟨h.push {cls:=.type "dict_items",data:=.fields #[.ref d]},g,dr,t,os⟩):wpAny (model prog w) A (call (.builtin "dict.items") [.ref d]) Q E ⟨h,g,dr,t,os⟩:=by
 have b:Shared.TypeIs ⟨h,g,dr,t,os⟩ (.ref d) "dict":=⟨od,a,c.1⟩;refine wpAny_call_entry F.slot_dict_items b F.entry_dict_items (L3<|L3<|wpAny_notOrdered_dict b<|M6 ?_)<|F.args_dict_items_1 _;unfold Builtin.Dict.showsAll;rw[if_neg<|by rw[hd];exact M3];exact L3<|M6<|L3<|wpAny_newObj_type<|M6 ⟨_,rfl,e⟩
def joc{v d}{od}{es}{ep}{Q}(e:h.IsItemsView v d)(a:h.get? d=some od)(b:od.data=.dict es ep)
  (i:Q (.ref h.objs.size) ⟨h.push {cls:=.type "dict_itemiterator",data:=.fields #[.none,.bool false,.ref d,.int 0 0,.int es.size 0,.int ep 0,.none,.none]},g,dr,t,os⟩):wpAny (model prog w) A (pyIter<|.ref v) Q E ⟨h,g,dr,t,os⟩:=by
 obtain⟨k,c,l,j⟩:=id e;have f:Shared.TypeIs ⟨h,g,dr,t,os⟩ (.ref v) "dict_items":=e.typeIs;refine wpAny_pyIter_slot f F.slot_dict_items_iter<|wpAny_call_entry F.slot_dict_items_iter f F.entry_dict_items_iter ?_<|F.args_dict_items_iter_1 _;unfold Builtin.«dict_items.__iter__»;refine L3<|M6<|L3 ?_;unfold Builtin.Dict_items.dictOf;refine L3<|U5 c j rfl<|M6<|L3 ?_;refine L3<|wpAny_dictEntries a b<|L3<|wpAny_dictEpoch a b ?_;have ow:Builtin.Dict_items.ownsTuple "dict_itemiterator" = true:=by decide
 simp only[ow,if_true];refine wpAny_newObj_type (M6 ⟨_,rfl,"dict_itemiterator",_,⟨_,X7 _ rfl,rfl⟩,F.slot_dict_itemiterator_next.lookup,?_⟩) (by simp only[sizeOk,Builtin.Dict_items.ownedTupleFields,N2,N3,M1,List.length_nil,sizeLine_eq];lia);simpa [rawInt,Builtin.Dict_items.ownedTupleFields] using i
end
end PySem
namespace L2
open PySem PySem.Spec PyProof.Rows
def joQ(a:Addr)(o:Obj)(kvs:List<|List Key×V):It:=
 ⟨λi H=>H a=some (.frz o<|.dT kvs)/\i<kvs.length,λi H x H'=>∃ p kv b,kvs[i]?=some kv/\x=.ref p/\H p=none/\H b=some (.tup<|kv.1.map kV)/\H'=upd H p (.tup [.ref b,kv.2]),λi H=>H a=some (.frz o<|.dT kvs)/\kvs.length<=i⟩
def jeZ{P}{w}{H}{h}{a}{o}{b}(ok:HOk P w H h)(e:H a=some (.frz o<|.dT b)):
  h.get? a=some o/\(a==sysModules)=false/\o.ExactDict/\∃ xs es ep,KT H b xs/\o.data=.dict es ep/\es.toList=xs.map (entryOfKey<|tupleKind<|jL P w):=by
 obtain⟨c,f⟩:=(ok a _ e);obtain⟨_,g,xs,r,i,es,ep,d,g2,g3,g4,_⟩:=(f);rw[c] at d;cases d;exact⟨c,g,g2,xs,es,ep,r,g3,g4⟩
def jlq{H}{a}{xs}(r:KT H a xs):∀{i:Nat}{q},xs[i]?=some q->∃ v,An3 (a[i]?=some (q.1,v)) (H q.2.1=some (.tup<|q.1.map kV)) (RelV v q.2.2):=by
 induction r with
 | nil=>intro i q e;simp at e
 | @cons p q c d h _ b=>
  intro i x e;cases i with
  | zero=>cases e;exact⟨p.2,by rw[<- h.1];rfl,by rw[<- h.1];exact h.2.1,h.2.2⟩
  | succ i=>exact b ⇑e
def jfd{P}{w}{K}{elts}{m}{pos}(a g)(o)(B)(es)(ep)(y:o.data=.dict es ep):
  Turn P w K (.Tuple elts m pos) (joQ a o B) [g] g (λi h=>∃ ok ov,IsItemIter h g a i es.size ep ok ov) where
 mem:=by simp
 obj:=λi h f b c=>by
  have e:b=g:=by simpa using c
  subst e;obtain⟨ok,ov,d⟩:=f;exact⟨_,d,λv q=>by cases q⟩
 keep:=λi h W f k=>by
  obtain⟨ok,ov,d⟩:=f;exact⟨ok,ov,k g (by simp) _ d⟩
 item:=by
  intro X Y Z hK S i p s σ H E I A f C;obtain⟨D,T⟩:=C;obtain⟨F,g2,gx,t,G,J,r,g3,g4⟩:=jeZ I.hok D;rw[y] at g3;cases g3;have j:=Paired.length r;obtain⟨q,U⟩:∃ q,t[i]?=some q:=⟨t[i]'∅,by simp[<- j,T]⟩;obtain⟨v,L,c,rv⟩:=jlq r U;obtain⟨ok,ov,d⟩:=f;have l:=N0 d;have M:es[i]?=some (entryOfKey (tupleKind<|jL X.prog X.w) q):=by rw[<- Array.getElem?_toList,g4,List.getElem?_map,U];rfl
  obtain⟨N,gg,dd,V,os⟩:=s;refine jnV d F y M λh1 O hT hk=>⟨_,rfl,wpAny_letOwnedTupleGo_items O λh2 Q R=>?_⟩;have n:=R;have u:=(n.2 _<|Nat.ne_of_gt l).trans hT;have kk:∀ b o,b∉[g]->N.get? b=some o->h2.get? b=some o:=λb o c q=>by
   have x:b≠g:=by simpa using c
   exact(n.2 b x).trans (hk b o x q)
  have I1:=I.turnedNew (t':=V) (xs:=[.ref q.2.1,v]) kk A (M8 _) ⟨⟨_,u,rfl,_,rfl⟩,_,u,rfl⟩ (.cons rfl<|.cons rv .nil) (by show 2<=sizeLine;decide);refine⟨.ref N.objs.size,_,I1,rfl,⟨_,(q.1,v),q.2.1,L,rfl,I.hok.fresh<|M8 _,c,rfl⟩,⟨_,_,Q⟩,λb c=>?_⟩;rw[je]
  ·exact(A b c).1
  ·intro z;have e:b=g:=by simpa using c
   exact absurd l (by rw[<- e,z];exact Nat.lt_irrefl _)
 done:=by
  intro X Y Z hK S i p s σ H E I A f C;obtain⟨D,T⟩:=C;obtain⟨F,g2,gx,t,G,J,r,g3,g4⟩:=jeZ I.hok D;rw[y] at g3;cases g3;have j:=Paired.length r;have hes:es.size=t.length:=by rw[<- Array.length_toList,g4,L1]
  obtain⟨ok,ov,d⟩:=f;obtain⟨N,gg,dd,V,os⟩:=s;exact jpT (I.ok.hd S) d F y (Array.getElem?_eq_none ∅) λW eb=>⟨rfl,I.turnedL (λb o c q=>eb b o ⇑c q) A⟩
 self:=λ_ _ _ _ _ f h=>by
  obtain⟨ok,ov,d⟩:=f;exact Qb d h
def jnY(te:TE):TI:=λσ H R=>te σ H λx H1=>∃ a kvs,x=.ref a/\H1 a=some (.dT kvs)/\∀ o,R (joQ a o kvs)<|upd H1 a<|.frz o<|.dT kvs
section
variable {X:Cx}
def Inv.frzT{pins}{σ:St}{H}{s}{a}{c}(I:Inv X pins σ H s)(e:H a=some (.dT c)):
  Ex3 λo es ep=>An5 (o.data=.dict es ep) (s.heap.get? a=some o) o.ExactDict ((a==sysModules)=false) (Inv X pins σ (upd H a<|.frz o<|.dT c) s):=by
 obtain⟨z,hd,i,r,o,es,ep,d,g,h,j,k⟩:=(I.hok a _ e);refine⟨o,es,ep,h,d,g,hd,?_⟩;refine K7 I (by rw[e];exact trivial) ⟨rfl,λ_ _=>rfl⟩ ⟨o,d⟩<|⟨d,z,hd,i,KT.keeps (r)<|λb l f=>?_,o,es,ep,d,g,h,j,k⟩;rw[je<|λz=>by rw[z,e] at f;cases f];exact f
def jkn{elts}{m}{tpos apos cpos}{e}{te}(D:PE X e te)
  (f:attributeBase e "items" X.env (eval e X.env)=eval e X.env:=by rfl) (g:(apos.endLine==cpos.line)=true:=by rfl):PI X (.Tuple elts m tpos) (.Call (.Attribute e "items" apos) [] [] cpos) (jnY te):=by
 intro d s σ H R I h;refine wpAny_Call_method0_late f g<|thn (D d s σ H _ I h) λv s1 ⟨x,E,k,r1,a,i,ex,l,q⟩=>?_;subst ex;obtain rfl:v=Value.ref a:=r1;obtain⟨G,J,_⟩:=zh k<|.inr ⟨i,.inl l⟩;obtain⟨T,n,p,U,r,K,t,_⟩:=k.frzT l;obtain⟨c,L,M,N,os⟩:=s1;refine⟨"dict","dict.items",PySem.F.plainAttrs_dict,PySem.F.slot_dict_items,PySem.F.type_dict_items,G,J,Calls.callWith_builtin rfl<|PySem.evalArgs_none<|wT (es:=n) (ep:=p) r K t ?_⟩;have z:∀ b u,c.get? b=some u->(c.push ({cls:=.type "dict_items",data:=.fields #[.ref a]}:Obj)).get? b=some u:=λb u q=>L8 _ q;have A:Inv X d σ E ⟨c.push {cls:=.type "dict_items",data:=.fields #[.ref a]},L,M,N,os⟩:=k.kept z;have O:(c.push ({cls:=.type "dict_items",data:=.fields #[.ref a]}:Obj)).IsItemsView c.objs.size a:=⟨_,X7 _ rfl,rfl,rfl⟩;obtain⟨o,w,y,C,P,V,hd,B⟩:=A.frzT l;refine joc O P C ?_;generalize c.push ({cls:=.type "dict_items",data:=.fields #[.ref a]}:Obj)=hp2 at *;have Q:∀ b u,hp2.get? b=some u->(hp2.push ({cls:=.type "dict_itemiterator",data:=.fields #[.none,.bool false,.ref a,.int 0 0,.int w.size 0,.int y 0,.none,.none]}:Obj)).get? b=some u:=λb u q=>L8 _ q;refine⟨hp2.objs.size,[hp2.objs.size],_,_,_,rfl,B.kept Q,jfd a _ o i w y C,⟨.none,.none,X7 _ rfl⟩,λb S=>?_,q o⟩;have j:hp2.objs.size<=b:=by
  have:b=hp2.objs.size:=by simpa using S
  rw[this];exact M8 _
 exact B.fpOk j<|B.hok.fresh j
end
end L2
set_option maxHeartbeats 1000000
namespace PySem
namespace F
end F
end PySem
namespace L2
open PySem PySem.Spec PyProof.Rows
structure Z3(z TI TO j1 j2 j3 t l m:Addr):Prop where
 TIz:TI≠z
 TOz:TO≠z
 j1z:j1≠z
 j2z:j2≠z
 j3z:j3≠z
 TITO:TI≠TO
 TIj1:TI≠j1
 TIj2:TI≠j2
 TIj3:TI≠j3
 TOj1:TO≠j1
 TOj2:TO≠j2
 TOj3:TO≠j3
 j12:j1≠j2
 j13:j1≠j3
 j23:j2≠j3
 out:∀ x,x=t\/x=l\/x=m->x≠z/\x≠TO/\x≠j1/\x≠j2/\x≠j3
end L2
namespace PySem
namespace F
end F
end PySem
namespace L2
open PySem PySem.Spec PyProof.Rows
end L2
namespace PySem
open Sem (wp)
namespace F
end F
end PySem
namespace L2
open PySem PySem.Spec PyProof.Rows
end L2
namespace PySem
open L2 PyProof.Rows
end PySem
namespace L2
open PySem PySem.Spec PyProof.Rows
abbrev Kn(h:Heap)(T:Addr)(xs:List Value):Prop:=h.get? T=some {cls:=.type "tuple",data:=.seq xs.toArray}
def ItAt(h:Heap)(j c:Addr)(n:Nat)(vs:Array Value):Bool->Prop
 | true=>h.IsListIter j c n/\h.IsList c vs
 | false=>h.IsTupleIter j c n/\h.IsTuple c vs
def ItAt.ext{h k}{j c a}{n}{vs}{K}(q:ItAt h j c n vs K)(b:Heap.SameBut a h k)(d:j≠a)(e:c≠a):ItAt k j c n vs K:=by
 cases K<;>exact⟨q.1.extBut b.extBut d,q.2.extBut b.extBut e⟩
def ItAt.up{h k}{j c}{n}{vs}{K}(q:ItAt h j c n vs K)(a:∀ o,h.get? j=some o->k.get? j=some o)(b:∀ o,h.get? c=some o->k.get? c=some o):ItAt k j c n vs K:=by
 cases K <;>
 ·obtain⟨⟨d,e,f⟩,g,e2,i⟩:=q;exact⟨⟨d,a _ e,f⟩,g,b _ e2,i⟩
section
variable {prog:Program}{w:World}{A:Around}{E:J0}{s:Shared}
def jid{j c}{n}{vs}{K}{x}{C}(q:ItAt s.heap j c n vs K)(a:c≠j)(e:vs[n]?=some x)
  (go:∀ k,ItAt k j c (n+1) vs K->Heap.SameBut j s.heap k->C x {s with heap:=k}):wpAny (model prog w) A (Builtin.SmallTypes.nextOf<|.ref j) C E s:=by
 cases K with
 | true=>exact wpAny_nextOf_list_item q.1 q.2 e λk p b=>go k ⟨p,q.2.extBut (Heap.SameBut.extBut b) a⟩ b
 | false=>exact jeJ q.1 q.2 e λk p b=>go k ⟨p,q.2.extBut (Heap.SameBut.extBut b) a⟩ b
def jlt(a:Kn s.heap T xs)(b:xs.length<=1000)
  (h:∀ h',Kn h' T (xs.set k x)->Heap.SameBut T s.heap h'->Q () {s with heap:=h'}):wpAny (model prog w) A (updateSeq T (·.setIfInBounds k x)) Q E s:=by
 have l:xs.toArray.size<=1000:=by simpa using b
 exact wpAny_updateSeq a rfl (h _ (by rw[Kn,Heap.get?_update_self _ a rfl];simp[Obj.mapSeq])<|Heap.SameBut.update ..) (N6 l<|by decide) (by rw[Array.size_setIfInBounds];exact N6 l<|by decide)
def jpO{α:Type}{β}{f}{b}{Q:β->Shared->Prop}(St:Nat->Heap->Prop):∀(l:List α) k {s},St k s.heap ->
  (∀ i x h,l[i]?=some x->St (k+i) h->wpAny (model prog w) A (f (x,k+i) b) (λr s'=>r=.yield b/\∃ h',s'={s with heap:=h'}/\St (k+i+1) h') E {s with heap:=h}) ->
  (∀ h,St (k+l.length) h->Q b {s with heap:=h})->wpAny (model prog w) A (forIn (l.zipIdx k) b f) Q E s:=by
 intro l
 induction l with
 | nil=>
  intro k s a _ c;exact M6<|c _ a
 | cons x l g=>
  intro k s a d c;rw[List.zipIdx_cons,List.forIn_cons];refine L3<|wpAny_mono (d 0 x s.heap rfl a) ?_<|λ_ _ z=>z
  ·rintro r s' ⟨rfl,h',rfl,j⟩;exact g (k+1) j (λi x h e q=>by have:=d (i+1) x h ⇑e (by rw[show k+(i+1)=k+1+i by lia];exact q);rw[show k+(i+1)=k+1+i by lia] at this;exact this)<|λh q=>c h (by rw[M1,show k+(l.length+1)=k+1+l.length by lia];exact q)
structure Zi where
 j:Addr
 c:Addr
 vs:Array Value
 x:Value
 k:Bool
structure ZA(z TI TO:Addr)(its:List Zi):Prop where
 TIz:TI≠z
 TOz:TO≠z
 TITO:TI≠TO
 jz:∀ q∈its,q.j≠z/\q.j≠TI/\q.j≠TO
 cz:∀ q∈its,q.c≠z/\q.c≠TO/\∀ r∈its,q.c≠r.j
 nd:(its.map (·.j)).Nodup
variable {z TI TO:Addr}{its:List Zi}{n:Nat}{os:List Value}
structure ZSn(s:Shared)(z TI TO:Addr)(its:List Zi)(n:Nat)(os:List Value)(i:Nat)(h:Heap):Prop where
 a:IsZip h z TI TO .ellipsis
 b:Kn h TO ((its.take i).map (·.x)++os.drop i)
 c:∀(m:Nat) (q:Zi),its[m]?=some q->ItAt h q.j q.c (if m<i then n+1 else n) q.vs q.k
 d:h.objs.size=↥s
 e:∀ a o,a≠z->a≠TO->(∀ q∈its,a≠q.j)->s.heap.get? a=some o->h.get? a=some o
def jg6{C:J0}(D:ZA z TI TO its)(y:IsZip s.heap z TI TO .none)(qI:Kn s.heap TI<|its.map λq=>.ref q.j)(X:Kn s.heap TO os)(Y:its≠[])(Z:os.length=its.length)(hl:its.length<=1000)
  (q:∀ r∈its,ItAt s.heap r.j r.c n r.vs r.k/\r.vs[n]?=some r.x)
  (go:∀ k,IsZip k z TI TO (rawInt ↥s)->Kn k TO (its.map (·.x))->(∀ r∈its,ItAt k r.j r.c (n+1) r.vs r.k)->Kn k ↥s (its.map (·.x)) ->
   (∀ a o,a≠z->a≠TO->(∀ r∈its,a≠r.j)->s.heap.get? a=some o->k.get? a=some o)->C (.ref ↥s) {s with heap:=k}):
  wpAny (model prog w) A (Builtin.«zip.__next__» ⟨[.ref z],[]⟩) (λfin s'=>∃ v,fin=.done (.ret v)/\C v s') E s:=by
 refine(show wpAny (model prog w) A (field (.ref z) 2 >>= _) _ _ _ from L3 (U5 y rfl rfl<|L3<|U5 y rfl rfl<|L3<|wpAny_seqItems qI rfl ?_));have he:(its.map λq=>Value.ref q.j).toArray.isEmpty=false:=by cases its<;>simp at Y ⊢
 simp only[he];refine(L3<|L3<|U5 y rfl rfl<|M6<|L3<|wpAny_rule<|L3<|U5 y rfl rfl<|L3<|wpAny_setField_rec y (by simp) λk1 z1 H=>(L3<|jpO (ZSn s z TI TO its n os) (its.map λq=>Value.ref q.j) 0 (s:={s with heap:=k1}) ⟨z1,?_,λm r e=>?_,H.1,λa o g _ _ e=>H.extBut _ _ g e⟩ (λi x h e S=>?_) λh S=>?_))
 ·rw[List.take_zero,List.drop_zero];exact H.extBut _ _ D.TOz X
 ·have f:=List.mem_of_getElem? e;exact(q r f).1.ext H (D.jz r f).1 (D.cz r f).1
 ·rw[Nat.zero_add] at S ⊢;rw[List.getElem?_map] at e;obtain⟨r,u,rfl⟩:=Option.map_eq_some_iff.mp e;have f:=List.mem_of_getElem? u;have hi:=(L9.mp u).1;have hit:=S.c i r u;rw[if_neg<|Nat.lt_irrefl _] at hit;refine L3<|wpAny_onRaise (L3<|jid hit ((D.cz r f).2.2 r f) (q r f).2 λk2 p B=>M6 ?_)
  have P:=B.extBut _ _ (D.jz r f).2.2.symm S.b;refine L3<|wpAny_seqItems P rfl<|L3<|jlt P (by simp;lia) λk3 o3 F=>?_;refine L3<|wpAny_letGo<|M6 ⟨rfl,k3,rfl,?_⟩;have K:∀ m t,its[m]?=some t->m≠i->t.j≠r.j:=λm t l L ej=>by
   have:=(List.getElem_inj (h₀:=by simpa using((L9.mp l).1)) (h₁:=by simpa using hi) D.nd).mp (by simp[(L9.mp l).2,(L9.mp u).2,ej]);exact L this
  refine⟨F.extBut _ _ D.TOz.symm<|B.extBut _ _ (D.jz r f).1.symm S.a,?_,λm t l=>?_,by rw[F.1,B.1];exact S.d,λa o g I J e=>F.extBut _ _ I<|B.extBut _ _ (J r f)<|S.e a o g I J e⟩
  ·have ee:(List.map (·.x) (its.take i)++os.drop i).set i r.x=List.map (·.x) (its.take<|i+1)++os.drop (i+1):=by
    rw[List.take_add_one,u,Option.toList,N4,List.append_assoc,List.set_append_right _ _<|by simp;lia];have M:i<os.length:=by lia
    rw[List.drop_eq_getElem_cons M];have:i-(List.map (·.x)<|its.take i).length=0:=by simp;lia
    rw[this];rfl
   rw[<- ee];exact o3
  ·have N:=List.mem_of_getElem? l;by_cases e2:m=i
   ·subst e2;cases u.symm.trans l;rw[if_pos<|Nat.lt_succ_self _];exact p.ext F (D.jz r f).2.2 (D.cz r f).2.1
   ·have x1:=((S.c m t l).ext B (K m t l e2) ((D.cz t N).2.2 r f)).ext F (D.jz t N).2.2 (D.cz t N).2.1;have:(m<i+1)=(m<i):=by apply propext;lia
    simp only[this];exact x1
 ·rw[Nat.zero_add,L1] at S;have O:=S.b;rw[List.take_length,<- Z,List.drop_length,M9] at O;refine L3<|wpAny_seqItems O rfl<|L3<|wpAny_newTuple ?_;have Q:=N0 S.a;refine(L3 ?_);have z8:IsZip (h.push {cls:=.type "tuple",data:=.seq (its.map (·.x)).toArray}) z TI TO .ellipsis:=L8 _ S.a;refine L3<|wpAny_setField_rec z8 (by simp) λk9 z9 R=>(wpAny_setField_rec z9 (by simp) λT U V=>?_);have up:∀ c o,c≠z->h.get? c=some o->T.get? c=some o:=λc o g e=>V.extBut _ _ g<|R.extBut _ _ g<|L8 _ e;have W:=V.extBut _ _ (Nat.ne_of_gt Q)<|R.extBut _ _ (Nat.ne_of_gt Q)<|X7 _ rfl;rw[S.d] at U W;refine M6 ⟨_,rfl,?_⟩;rw[S.d];refine go T U (up _ _ D.TOz O) (λr f=>?_) W λa o g I J e=>up a o g<|S.e a o g I J e;obtain⟨m,G,rfl⟩:=List.getElem_of_mem f;have x:=S.c m _<|X5 G;rw[if_pos G] at x;refine x.up (λo e=>up _ _ (D.jz _ f).1 e)<|λo e=>up _ _ (D.cz _ f).1 e
def jlA{j c}{vs}{K}{C}(a:A.handled=none)(q:ItAt s.heap j c n vs K)(e:vs[n]?=none)
  (go:∀ k e,Heap.ExtBut j s.heap k->(∃ o,k.get? e=some o/\o.cls=.type "StopIteration")->E (.ref e) {s with heap:=k}):wpAny (model prog w) A (Builtin.SmallTypes.nextOf<|.ref j) C E s:=by
 cases K with
 | true=>exact wpAny_nextOf_list_end a q.1 q.2 e go
 | false=>exact jhy a q.1 q.2 e go
def jk3{C}{r}(u:A.handled=none)(D:ZA z TI TO<|r::its)(b:IsZip s.heap z TI TO .none)(qI:Kn s.heap TI<|(r::its).map λq=>.ref q.j)(q:ItAt s.heap r.j r.c n r.vs r.k)(ex:r.vs[n]?=none)
  (go:∀ k e,(∀ a o,a≠z->a≠TO->(∀ t∈r::its,a≠t.j)->s.heap.get? a=some o->k.get? a=some o)->(∃ o,k.get? e=some o/\o.cls=.type "StopIteration")->E (.ref e) {s with heap:=k}):
  wpAny (model prog w) A (Builtin.«zip.__next__» ⟨[.ref z],[]⟩) C E s:=by
 have d:r∈r::its:=L7;refine(show wpAny (model prog w) A (field (.ref z) 2 >>= _) _ _ _ from L3 (U5 b rfl rfl<|L3<|U5 b rfl rfl<|L3<|wpAny_seqItems qI rfl<|L3<|L3<|U5 b rfl rfl<|M6<|L3<|wpAny_rule<|L3<|U5 b rfl rfl<|L3<|wpAny_setField_rec b (by simp) λG z1 g=>(L3<|L3<|L3<|wpAny_onRaise (L3<|jlA u (q.ext g (D.jz r d).1 (D.cz r d).1) ex λH e h v=>?_))));obtain⟨y,f,i⟩:=v;have l:=h _ _ (D.jz r d).1.symm z1;have ne:e≠z:=λx=>by subst x;rw[l] at f;cases f;simp at i
 exact wpAny_setField_rec l (by simp) λB _ m=>go B e (λc o p _ F x=>m.extBut _ _ p<|h _ _ (F r d)<|g.extBut _ _ p x) ⟨y,m.extBut _ _ ne f,i⟩
def jiM{C}(D:ZA z TI TO its)(b:IsZip s.heap z TI TO .none)(qI:Kn s.heap TI<|its.map λq=>.ref q.j)(d:Kn s.heap TO os)(e:its≠[])(f:os.length=its.length)(g:its.length<=1000)
  (q:∀ r∈its,ItAt s.heap r.j r.c n r.vs r.k/\r.vs[n]?=some r.x)
  (go:∀ k,IsZip k z TI TO (rawInt ↥s)->Kn k TO (its.map (·.x))->(∀ r∈its,ItAt k r.j r.c (n+1) r.vs r.k)->Kn k ↥s (its.map (·.x)) ->
   (∀ a o,a≠z->a≠TO->(∀ r∈its,a≠r.j)->s.heap.get? a=some o->k.get? a=some o)->C (some<|.ref ↥s) {s with heap:=k}):wpAny (model prog w) A (pyNext<|.ref z) C E s:=by
 have ty:s.TypeIs (.ref z) "zip":=⟨_,b,rfl⟩;exact L3<|wpAny_attempt<|wpAny_callSpecial?_slot ty F.slot_zip_next<|wpAny_call_entry F.slot_zip_next ty F.entry_zip_next
  (jg6 D b qI d e f g q λk c1 h i l m=>M6<|go k c1 h i l m) (F.args_zip_next_1 _)
def jhF{C}{r}(d:A.handled=none)(D:ZA z TI TO<|r::its)(b:IsZip s.heap z TI TO .none)(qI:Kn s.heap TI<|(r::its).map λq=>.ref q.j)(q:ItAt s.heap r.j r.c n r.vs r.k)(ex:r.vs[n]?=none)
  (go:∀ k,(∀ a o,a≠z->a≠TO->(∀ t∈r::its,a≠t.j)->s.heap.get? a=some o->k.get? a=some o)->C none {s with heap:=k}):wpAny (model prog w) A (pyNext<|.ref z) C E s:=by
 have ty:s.TypeIs (.ref z) "zip":=⟨_,b,rfl⟩;refine L3<|wpAny_attempt<|wpAny_callSpecial?_slot ty F.slot_zip_next<|wpAny_call_entry F.slot_zip_next ty F.entry_zip_next (jk3 d D b qI q ex λk e kp f=>?_)<|F.args_zip_next_1 _;obtain⟨o,g,h⟩:=f;exact L3<|wpAny_isInstance ⟨o,g,h⟩ isSubtype_stop<|M6<|go _ kp
end
section
variable {prog:Program}{w:World}{A:Around}{E:J0}{s:Shared}
def SqH(h:Heap)(c:Addr)(vs:Array Value):Bool->Prop
 | true=>h.IsList c vs
 | false=>h.IsTuple c vs
def SqH.push{h}{c}{vs}{K}(q:SqH h c vs K)(o):SqH (h.push o) c vs K:=by
 cases K <;>
 ·obtain⟨a,e,t⟩:=q;exact⟨a,L8 _ e,t⟩
def jg2{c}{vs}{K}{Q}(q:SqH s.heap c vs K)
  (go:∀ o:Obj,ItAt (s.heap.push o) ↥s c 0 vs K->Q (.ref ↥s) {s with heap:=s.heap.push o}):wpAny (model prog w) A (pyIter<|.ref c) Q E s:=by
 cases K with
 | true=>exact wpAny_pyIter_list q<|go _ ⟨⟨_,X7 _ rfl,rfl,rfl⟩,SqH.push q _⟩
 | false=>exact wpAny_pyIter_tuple q<|go _ ⟨⟨_,X7 _ rfl,rfl,rfl⟩,SqH.push q _⟩
def jeF:∀(l:List<|Addr×Array Value×Bool) acc {s:Shared},(∀ p∈l,SqH s.heap p.1 p.2.1 p.2.2) ->
  (∀ k:Heap,k.objs.size=↥s+l.length->(∀ i p,l[i]?=some p->ItAt k (↥s+i) p.1 0 p.2.1 p.2.2)->(∀ c o,s.heap.get? c=some o->k.get? c=some o) ->
   Q (acc++((List.range' ↥s l.length).map Value.ref).toArray) {s with heap:=k}) ->
  wpAny (model prog w) A (forIn (l.map λp=>Value.ref p.1) acc λx r=>do pure (ForInStep.yield<|r.push<|<- holding r.toList (pyIter x))) Q E s:=by
 intro l
 induction l with
 | nil=>
  intro acc s _ go;exact M6 ⇑(go s.heap rfl (by simp) λ_ _ e=>e)
 | cons p l d=>
  intro acc s h go;rw[L5,List.forIn_cons];refine L3<|L3<|wpAny_holding<|jg2 (h p L7) λo q=>(M6<|d _ (λr f=>(h r<|L6 _ f).push _) λk b hi a=>?_);have s1:(s.heap.push o).objs.size=↥s+1:=Heap.size_push ..;simp only[s1] at b hi ⊢;have g:=go k (by rw[b,M1];lia) (λi r e=>?_) λc j e=>a c j<|L8 _ e
  ·rw[M1,List.range'_succ,L5] at g;have e2:acc.push (.ref ↥s)++((List.range' (↥s+1) l.length).map Value.ref).toArray=acc++(Value.ref ↥s::(List.range' (↥s+1) l.length).map Value.ref).toArray:=by apply Array.ext';simp
   rw[e2];exact g
  ·cases i with
   | zero=>cases e;exact q.up (a _)<|a _
   | succ i=>rw[show ↥s+(i+1)=↥s+1+i by lia];exact hi i r ⇑e
def jaO{Q}{l:List (Addr×Array Value×Bool)}(h:∀ p∈l,SqH s.heap p.1 p.2.1 p.2.2)
  (go:∀ k:Heap,k.objs.size=↥s+l.length->(∀ i p,l[i]?=some p->ItAt k (↥s+i) p.1 0 p.2.1 p.2.2)->(∀ c o,s.heap.get? c=some o->k.get? c=some o) ->
   Q ((List.range' ↥s l.length).map Value.ref) {s with heap:=k}):wpAny (model prog w) A (Builtin.SmallTypes.iterAll<|l.map λp=>Value.ref p.1) Q E s:=by
 refine L3<|jeF l #[] h λk a b d=>M6 ?_;have:=go k a b d;simpa using this
def jjA(l:List<|Addr×Array Value×Bool)(a:l.length<=1000):Meets (Builtin.«zip.__new__» ⟨.type "zip"::l.map λp=>.ref p.1,[]⟩) (λ_ R s=>(∀ p∈l,SqH s.heap p.1 p.2.1 p.2.2)/\∀ k:Heap,k.objs.size=↥s+l.length->(∀ i p,l[i]?=some p->ItAt k (↥s+i) p.1 0 p.2.1 p.2.2)->(∀ c o,s.heap.get? c=some o->k.get? c=some o) ->
   R (.ok<|.ret<|.ref<|k.objs.size+2) { s with heap:=((k.push {cls:=.type "tuple",data:=.seq ((List.range' ↥s l.length).map Value.ref).toArray}).push {cls:=.type "tuple",data:=.seq (l.map λ_=>Value.none).toArray}).push {cls:=.type "zip",data:=.fields #[.none,.bool false,.bool false,.ref k.objs.size,.ref<|k.objs.size+1]} }):=
 .of_wp λprog w A R s h=>by
  obtain⟨d,h⟩:=h;have b:=sub_zip
  wp_walk using jaO d
  intro k e e2 e3;have f:(List.map (λ_=>Value.none)<|List.map Value.ref<|List.range' ↥s l.length)=l.map λ_=>Value.none:=by
   rw[U0];apply List.ext_getElem<;>simp
  rw[f];refine L3<|wpAny_newTuple ?_ (by simp;exact N6 a<|by decide);refine L3 (wpAny_newTuple ?_<|by simp;exact N6 a<|by decide)
  wp_walk
  refine⟨_,rfl,?_⟩;rw[Heap.size_push,Heap.size_push];exact(h k e e2 e3)
def jhH{l:List (Addr×Array Value×Bool)}{C}(j:l.length<=1000)(a:checkTypeCall "zip" ⟨l.map λp=>.ref p.1,[]⟩=pure ())(b:checkBuiltinCall "zip.__new__" ⟨.type "zip"::l.map λp=>.ref p.1,[]⟩=pure ())(hok:∀ obj,argsOk "object.__init__" ⟨obj::l.map λp=>.ref p.1,[]⟩)
  (h1:∀ p∈l,SqH s.heap p.1 p.2.1 p.2.2)
  (go:∀ k N,N=↥s+l.length->IsZip k (N+2) N (N+1) .none->Kn k N ((List.range' ↥s l.length).map Value.ref)->Kn k (N+1) (l.map λ_=>.none)->(∀ i p,l[i]?=some p->ItAt k (↥s+i) p.1 0 p.2.1 p.2.2)->(∀ c o,s.heap.get? c=some o->k.get? c=some o)->C (.ref<|N+2) {s with heap:=k}):
  wpAny (model prog w) A (call (.type "zip")<|l.map λp=>.ref p.1) C E s:=by
 refine callType_new F.called_zip (by decide) a b hok F.entry_zip_new (jjA l j) ⟨h1,λk m e2 e3=>?_⟩;have d:∀(h:Heap) o,(h.push o).objs.size=h.objs.size+1:=λh o=>Heap.size_push ..;have f:=X7 (((k.push {cls:=.type "tuple",data:=.seq ((List.range' ↥s l.length).map Value.ref).toArray}).push {cls:=.type "tuple",data:=.seq (l.map λ_=>Value.none).toArray})) (o:={cls:=.type "zip",data:=.fields #[.none,.bool false,.bool false,.ref k.objs.size,.ref<|k.objs.size+1]}) rfl;rw[d,d] at f;have up:∀ c o,k.get? c=some o->(((k.push {cls:=.type "tuple",data:=.seq ((List.range' ↥s l.length).map Value.ref).toArray}).push {cls:=.type "tuple",data:=.seq (l.map λ_=>Value.none).toArray}).push {cls:=.type "zip",data:=.fields #[.none,.bool false,.bool false,.ref k.objs.size,.ref<|k.objs.size+1]}).get? c=some o:=λc o x=>L8 _<|L8 _<|L8 _ x;have g:=X7 (k.push {cls:=.type "tuple",data:=.seq ((List.range' ↥s l.length).map Value.ref).toArray}) (o:={cls:=.type "tuple",data:=.seq (l.map λ_=>Value.none).toArray}) rfl;rw[d] at g;exact⟨⟨_,f,rfl⟩,go _ k.objs.size m f (L8 _<|L8 _<|X7 k rfl) (L8 _ g) (λi p e=>(e2 i p e).up (up _) (up _)) λc o x=>up c o<|e3 c o x⟩
end
def SqB(K:W5)(H:Hp)(c:Addr):Bool->List V->Prop
 | true,q=>SqL K H c q
 | false,q=>SqT K H c q
def ItB(h:Heap)(j c:Addr)(n:Nat):Bool->Prop
 | true=>h.IsListIter j c n
 | false=>h.IsTupleIter j c n
structure Zp where
 j:Addr
 c:Addr
 k:Bool
def IzN(K:W5)(as:List<|Addr×Bool):It:=
 ⟨λi H=>∀ a∈as,∃ q x,SqB K H a.1 a.2 q/\q[i]?=some x,
  λi H x H'=>∃ p xs,xs.length=as.length/\(∀(m:Nat) a,as[m]?=some a->∀ q,SqB K H a.1 a.2 q->∃ u,xs[m]?=some u/\q[i]?=some u)/\x=.ref p/\H p=none/\H'=upd H p (.tup xs),
  λi H=>∃ a r q,as=a::r/\SqB K H a.1 a.2 q/\q.length<=i⟩
def jgK(I:Inv X pins σ H s)(h:SqB X.K H c k q)(hi:ItB s.heap j c n k):∃ us:List Value,Vals q us/\ItAt s.heap j c n us.toArray k:=by
 cases k with
 | true=>
  obtain⟨us,a,p,_⟩:=I.list h;exact⟨us,a,hi,p.isList⟩
 | false=>
  obtain⟨us,a,p,_⟩:=I.tuple h;exact⟨us,a,hi,p⟩
def jjP(I:Inv X pins σ H s)(h:SqB X.K H c k q)(h':SqB X.K H c k q'):q=q':=by
 cases k with
 | true=>exact I.list_inj h h'
 | false=>exact I.tuple_inj h h'
def zis(I:Inv X pins σ H s):∀ ps:List Zp,(∀ p∈ps,∃ q x,SqB X.K H p.c p.k q/\q[i]?=some x)->(∀ p∈ps,ItB s.heap p.j p.c i p.k) ->
  Ex2 λ(its:List Zi) (xs:List V)=>An4 (its.map (λr=>(⟨r.j,r.c,r.k⟩:Zp))=ps) (Vals xs (its.map (·.x))) (∀ r∈its,ItAt s.heap r.j r.c i r.vs r.k/\r.vs[i]?=some r.x) (∀(m:Nat) p,ps[m]?=some p->∀ q,SqB X.K H p.c p.k q->∃ u,xs[m]?=some u/\q[i]?=some u):=by
 intro ps
 induction ps with
 | nil=>
  intro _ _;exact⟨[],[],rfl,.nil,by simp,by simp⟩
 | cons p ps o=>
  intro g h;obtain⟨its,xs,e,v,a,b⟩:=o (λr d=>g r<|by simp[d]) λr d=>h r (by simp[d]);obtain⟨q,x,l,n⟩:=g p (by simp);obtain⟨w,y,z⟩:=jgK I l<|h p (by simp);obtain⟨u,A,B⟩:=y.get n;refine⟨⟨p.j,p.c,w.toArray,u,p.k⟩::its,x::xs,by rw[L5,e],.cons B v,λr d=>?_,λm t e2 C f=>?_⟩
  ·rcases M4.mp d with rfl | d
   ·exact⟨z,by simpa using A⟩
   ·exact a r d
  ·cases m with
   | zero=>cases e2;exact⟨x,rfl,by rw[jjP I f l];exact n⟩
   | succ m=>exact b m t ⇑e2 C f
structure ZP(z TI TO:Addr)(ps:List Zp):Prop where
 TIz:TI≠z
 TOz:TO≠z
 TITO:TI≠TO
 jz:∀ q∈ps,q.j≠z/\q.j≠TI/\q.j≠TO
 cz:∀ q∈ps,q.c≠z/\q.c≠TO/\∀ r∈ps,q.c≠r.j
 nd:(ps.map (·.j)).Nodup
def ZP.za{z TI TO}{ps}{its}(D:ZP z TI TO ps)(e:its.map (λr=>(⟨r.j,r.c,r.k⟩:Zp))=ps):ZA z TI TO its:=by
 subst e;refine⟨D.TIz,D.TOz,D.TITO,λq a=>D.jz _<|List.mem_map_of_mem a,λq a=>?_,by have:=D.nd;rwa [U0] at this⟩;have:=D.cz _<|List.mem_map_of_mem a;exact⟨this.1,this.2.1,λr b=>this.2.2 _<|List.mem_map_of_mem b⟩
def ItB.obj(q:ItB h j c n k):∃ o,h.get? j=some o/\∀ v,o.data≠.cell v:=by
 cases k <;>
 ·obtain⟨o,e,_,d⟩:=q;exact⟨o,e,λv z=>by rw[d] at z;cases z⟩
def ItB.up(q:ItB h j c n b)(a:∀ o,h.get? j=some o->k.get? j=some o):ItB k j c n b:=by
 cases b <;>
 ·obtain⟨o,e,t⟩:=q;exact⟨o,a _ e,t⟩
def ItAt.itB(q:ItAt h j c n vs k):ItB h j c n k:=by
 cases k<;>exact q.1
def jiq{P}{w}{K}{elts}{n}{pos}(z TI TO)(ps)(D:ZP z TI TO ps)(hn:ps≠[])(hl:ps.length<=1000):
  Turn P w K (.Tuple elts n pos) (IzN K<|ps.map λp=>(p.c,p.k)) (z::TI::TO::ps.map (·.j)) z (λi h=>IsZip h z TI TO .none/\Kn h TI (ps.map λp=>.ref p.j)/\(∃ os,os.length=ps.length/\Kn h TO os)/\∀ p∈ps,ItB h p.j p.c i p.k) where
 mem:=by simp
 obj:=λi h l b f=>by
  obtain⟨u,y,⟨os,_,F⟩,C⟩:=l;rcases(⇑f:b=z\/b=TI\/b=TO \/ ∃ p∈ps,p.j=b) with q | q | q | ⟨p,d,q⟩<;>subst q
  ·exact⟨_,u,λv q=>by cases q⟩
  ·exact⟨_,y,λv q=>by cases q⟩
  ·exact⟨_,F,λv q=>by cases q⟩
  ·exact(C p d).obj
 keep:=λi h h' l k=>by
  obtain⟨u,y,⟨os,N,F⟩,C⟩:=l;exact⟨k z (by simp) _ u,k TI (by simp) _ y,⟨os,N,k TO (by simp) _ F⟩,λp d=>(C p d).up (k p.j<|by simp;exact .inr<|.inr<|.inr ⟨p,d,rfl⟩)⟩
 item:=by
  intro X R S T hc i G s σ H E I O l U;subst R S T;obtain⟨u,y,⟨os,N,F⟩,C⟩:=l;obtain⟨A,xs,e,J,hi,hx⟩:=zis I ps (λp d=>U (p.c,p.k)<|M5.mpr ⟨p,d,rfl⟩) C;have el:A.length=ps.length:=by rw[<- e,L1]
  have ej:(A.map λq=>Value.ref q.j)=ps.map λp=>Value.ref p.j:=by rw[<- e,U0];rfl
  have mp:∀ p∈ps,∃ r∈A,r.j=p.j/\r.c=p.c/\r.k=p.k:=λp d=>by
   rw[<- e] at d;obtain⟨r,L,rfl⟩:=M5.mp d;exact⟨r,L,rfl,rfl,rfl⟩
  refine jiM (D.za e) u (by rw[ej];exact y) F (λz=>hn<|by rw[<- e,z];rfl) (by rw[N,el]) ∅ hi λhh a1 a2 a3 a4 Q=>?_;refine⟨_,rfl,wpAny_letOwnedTupleGo_zip a1 λh7 V g=>?_⟩;have lt:∀{c o},s.heap.get? c=some o->c < ↥s:=N0;have M:=(g.2 _<|Nat.ne_of_gt<|lt u).trans a4;have nj:∀{b},(∀ p∈ps,b≠p.j)->∀ r∈A,b≠r.j:=λh r L=>by
   have:=h ⟨r.j,r.c,r.k⟩ (by rw[<- e];exact List.mem_map_of_mem L);exact this
  have kk:∀ b o,b∉z::TI::TO::ps.map (·.j)->s.heap.get? b=some o->h7.get? b=some o:=λb o f q=>by
   have B:b≠z/\b≠TI/\b≠TO/\∀ p∈ps,b≠p.j:=by
    simp at f;exact⟨f.1,f.2.1,f.2.2.1,λp d x=>f.2.2.2 p d x.symm⟩
   exact(g.2 b B.1).trans (Q b o B.1 B.2.2.1 (nj B.2.2.2) q)
  have I1:=I.turnedNew (t':=s.toks) kk O (M8 _) ⟨⟨_,M,rfl,_,rfl⟩,_,M,rfl⟩ ⇑J (by have:=J.length;simp at this;exact N6 (by lia:xs.length<=1000)<|by decide);refine⟨.ref ↥s,_,I1,rfl,⟨_,xs,by have:=J.length;simp at this;simp;lia,λm a em q W=>?_,rfl,I.hok.fresh<|M8 _,rfl⟩,⟨V,(g.2 TI D.TIz).trans (Q _ _ D.TIz D.TITO (nj λp d x=>(D.jz p d).2.1 x.symm) y),⟨_,by rw[L1,el],(g.2 TO D.TOz).trans a2⟩,λp d=>?_⟩,λb f=>?_⟩
  ·rw[List.getElem?_map] at em;obtain⟨p,ep,rfl⟩:=Option.map_eq_some_iff.mp em;exact hx m p ep q W
  ·obtain⟨r,L,rj,rc,rk⟩:=mp p d;rw[<- rj,<- rc,<- rk];refine(a3 r L).itB.up λo q=>(g.2 _ ?_).trans q;rw[rj];exact(D.jz p d).1
  ·rw[je]
   ·exact(O b f).1
   ·intro q;have:b < ↥s:=by
     rcases(⇑f:b=z\/b=TI\/b=TO \/ ∃ p∈ps,p.j=b) with w | w | w | ⟨p,d,w⟩
     ·rw[w];exact lt u
     ·rw[w];exact lt y
     ·rw[w];exact lt F
     ·obtain⟨o,e,_⟩:=(C p d).obj;rw[<- w];exact lt e
    exact absurd this (by rw[q];exact Nat.lt_irrefl _)
 done:=by
  intro X R S T hc i G s σ H E I O l U;subst R S T;obtain⟨u,y,⟨os,N,F⟩,C⟩:=l;obtain⟨a,r,q,ea,W,hx⟩:=U;cases ps with
  | nil=>cases ea
  | cons p ps=>
   cases ea;obtain⟨us,J,it⟩:=jgK I W<|C p (by simp);have hl1:=J.length;have ee:((⟨p.j,p.c,us.toArray,.none,p.k⟩:Zi)::ps.map λp=>⟨p.j,p.c,#[],.none,p.k⟩).map (λr=>(⟨r.j,r.c,r.k⟩:Zp))=p::ps:=by
    rw[L5,U0];exact congrArg (p::·)<|List.map_id _
   refine jhF (I.ok.hd hc) (D.za ee) u (by rw[show Kn s.heap TI _=Kn s.heap TI ((p::ps).map λp=>.ref p.j) by rw[L5,U0];rfl];exact y) it (by simp;lia) λhh Q=>⟨rfl,I.turnedL (λb o f q=>?_) O⟩;simp only[M4,M5,not_or,L5] at f;refine Q b o f.1 f.2.2.1 (λt Y x=>?_) q;rcases M4.mp Y with rfl | Y
   ·exact f.2.2.2.1 x
   ·obtain⟨p',Z,rfl⟩:=M5.mp Y;exact f.2.2.2.2 ⟨p',Z,x.symm⟩
 self:=λ_ _ _ _ _ l h=>wpAny_pyIter_zip l.1 h
end L2
namespace PySem
namespace F
def typeCall_zip_N3(a b c):checkTypeCall "zip" ⟨[a,b,c],[]⟩=pure ():=by kernel_rfl
def newCall_zip_N3(a b c):checkBuiltinCall "zip.__new__" ⟨[.type "zip",a,b,c],[]⟩=pure ():=by kernel_rfl
def args_object_init_N4(a b c d):argsOk "object.__init__" ⟨[a,b,c,d],[]⟩:=by
 unfold argsOk;kernel_rfl
end F
end PySem
namespace L2
open PySem PySem.Spec PyProof.Rows
def iZN(K:W5)(m:Nat)(tl:TA):TI:=λσ H R=>tl σ H λvs H1=>∃ as:List (Addr×Bool),as.length=m/\vs=as.map (λa=>.ref a.1)/\(∀ a∈as,∃ q,SqB K H1 a.1 a.2 q)/\R (IzN K as) H1
theorem zqs(I:Inv X pins σ H s):∀ as:List (Addr×Bool),(∀ a∈as,∃ q,SqB X.K H a.1 a.2 q)->∃ l:List (Addr×Array Value×Bool),l.map (λp=>(p.1,p.2.2))=as/\∀ p∈l,SqH s.heap p.1 p.2.1 p.2.2/\p.1 < ↥s
 | [],_=>⟨[],rfl,by simp⟩
 | (a,k)::as,h=>by
  obtain⟨l,e,d⟩:=zqs I as λb f=>h b (by simp[f]);obtain⟨q,c⟩:=h (a,k) (by simp);have:∃ vs:Array Value,SqH s.heap a vs k/\a < ↥s:=by
   cases k with
   | true=>
    obtain⟨g,i,p,_⟩:=I.list c;obtain⟨o,_,e,_⟩:=id p;exact⟨_,p.isList,N0 e⟩
   | false=>
    obtain⟨g,i,p,_⟩:=I.tuple c;obtain⟨o,e,_⟩:=id p;exact⟨_,p,N0 e⟩
  obtain⟨vs,j,m⟩:=this;exact⟨(a,vs,k)::l,by rw[L5,e],λp n=>(M4.mp n).elim (λz=>by rw[z];exact⟨j,m⟩) (d p)⟩
def zps(S:Nat)(l:List<|Addr×Array Value×Bool):List Zp:=(l.zipIdx S).map λq=>⟨q.2,q.1.1,q.1.2.2⟩
def jnC(S):∀ l:List (Addr×Array Value×Bool),(zps S l).map (·.j)=List.range' S l.length:=by
 intro l
 induction l generalizing S with
 | nil=>rfl
 | cons p l a=>have:=a<|S+1;unfold zps at this ⊢;rw[List.zipIdx_cons,L5,L5,this,M1,List.range'_succ]
def joP(S):∀ l:List (Addr×Array Value×Bool),(zps S l).map (λp=>(p.c,p.k))=l.map λp=>(p.1,p.2.2):=by
 intro l
 induction l generalizing S with
 | nil=>rfl
 | cons p l a=>have:=a<|S+1;unfold zps at this ⊢;rw[List.zipIdx_cons,L5,L5,this,L5]
def Qr{S}:∀{l}{q},q∈zps S l->∃ i p,l[i]?=some p/\q=⟨S+i,p.1,p.2.2⟩:=by
 intro l q h;obtain⟨⟨p,m⟩,a,rfl⟩:=M5.mp h;have:=List.mem_zipIdx a;refine⟨m-S,p,?_,?_⟩
 ·rw[X5 ∅];exact congrArg some this.2.2.symm
 ·have:S+(m-S)=m:=by lia
  rw[this]
def zn1(N):N≠N+2/\N+1≠N+2/\N≠N+1:=by lia
def zn2{S L i N}(h:i<L)(e:N=S+L):S+i≠N+2/\S+i≠N/\S+i≠N+1:=by lia
def zn3{c S L N}(h:c<S)(e:N=S+L):c≠N+2/\c≠N+1/\∀ i,c≠S+i:=⟨by lia,by lia,λi=>by lia⟩
def zn4{S L N b}(e:N=S+L)(h:b=N+2\/b=N\/b=N+1):S<=b:=by lia
def jkA(I:Inv X pins σ H s)  (y:as≠[]) (S:as.length<=1000) (d:∀ a∈as,∃ q,SqB X.K H a.1 a.2 q) (q:R (IzN X.K as) H)
  (f:checkTypeCall "zip" ⟨as.map λp=>.ref p.1,[]⟩=pure ()) (g:checkBuiltinCall "zip.__new__" ⟨.type "zip"::as.map λp=>.ref p.1,[]⟩=pure ()) (hok:∀ obj,argsOk "object.__init__" ⟨obj::as.map λp=>.ref p.1,[]⟩):
  wpAny (model X.prog X.w) X.A (call (.type "zip")<|as.map λp=>.ref p.1) (λv s1=>wpAny (model X.prog X.w) X.A (pyIter v) (PIE X pins σ (.Tuple elts n tpos) R) X.xe s1) X.xe s:=by
 obtain⟨l,e,t⟩:=zqs I as d;have U:l.length=as.length:=by rw[<- e,L1]
 have B:(as.map λp=>Value.ref p.1)=l.map λp=>Value.ref p.1:=by rw[<- e,U0];rfl
 rw[B] at f g hok ⊢;refine jhH ∅ f g hok (λp C=>(t p C).1) λE N h u F G J L=>?_;have M:Inv X pins σ H {s with heap:=E}:=I.kept L;refine PySem.wpAny_pyIter_zip u ?_;have k:=jnC ↥s l;have x:=joP ↥s l;have D:ZP (N+2) N (N+1) (zps ↥s l):=by
  refine⟨(zn1 N).1,(zn1 N).2.1,(zn1 N).2.2,λq d=>?_,λq d=>?_,by rw[k];exact List.nodup_range'⟩
  ·obtain⟨i,p,m,rfl⟩:=Qr d;exact zn2 (L9.mp m).1 h
  ·obtain⟨i,p,m,rfl⟩:=Qr d;have:=zn3 (t p<|List.mem_of_getElem? m).2 h;refine⟨this.1,this.2.1,λr O=>?_⟩;obtain⟨Q,V,_,rfl⟩:=Qr O;exact this.2.2 Q
 have T:=jiq (P:=X.prog) (w:=X.w) (K:=X.K) (elts:=elts) (n:=n) (pos:=tpos) (N+2) N (N+1) (zps ↥s l) D (λz=>y<|by rw[<- e,<- x,z];rfl) (by have:=congrArg List.length k;rw[L1,List.length_range'] at this;lia);rw[x,e] at T;refine⟨N+2,_,_,_,H,rfl,M,T,⟨u,?_,⟨_,?_,G⟩,λq d=>?_⟩,λb c=>?_,q⟩
 ·rw[show(zps ↥s l).map (λp=>Value.ref p.j)=((zps ↥s l).map (·.j)).map Value.ref by rw[U0];rfl,k];exact F
 ·have:=congrArg List.length k;rw[L1,List.length_range'] at this;rw[L1];lia
 ·obtain⟨i,p,m,rfl⟩:=Qr d;exact(J i p m).itB
 ·have o:↥s<=b:=by
   rw[k] at c;rcases M4.mp c with z | c
   ·exact zn4 h<|.inl z
   rcases M4.mp c with z | c
   ·exact zn4 h<|.inr<|.inl z
   rcases M4.mp c with z | c
   ·exact zn4 h<|.inr<|.inr z
   exact(List.mem_range'_1.mp c).1
  exact I.fpOk o<|I.hok.fresh o
theorem Vy:∀{as:List (Addr×Bool)}{us},Vals (as.map λa=>V.ref a.1) us->us=as.map λa=>Value.ref a.1
 | [],_,h=>by cases h;rfl
 | a::as,_,h=>by
  cases h with
  | cons b c=>cases b;rw[Vy c];rfl
def jl0(e:Gl X "zip")(f:X.mg "zip" = none)(g:PA X [a,b] ta)(i:starEach [a,b] X.env=[(false,eval a X.env),(false,eval b X.env)]:=by rfl)(c:starEach [b] X.env=[(false,eval b X.env)]:=by rfl):
  PI X (.Tuple elts n tpos) (.Call (.Name "zip" p) [a,b] [] pos) (iZN X.K 2 ta):=by
 intro d s σ H R I h;refine Call_<|JV I e f (show bootBuiltins "zip" = some (.type "zip") by decide +kernel)<|PyProof.Rows.callWith_type1 (thn (g pos d s σ H _ I h) λr s1 ⟨vs,t,j,r1,k⟩=>?_) (by rw[i,c]) (by rw[c];rfl);obtain⟨l,l2,rfl,m,q⟩:=k;cases Vy r1
 match l,l2 with
 | [x,y],_=>exact jkA j (by simp) (by simp) m q (F.typeCall_zip_2 _ _) (F.newCall_zip_2 _ _) λo=>F.args_object_init_3 o _ _
def jl1(f:Gl X "zip")(g:X.mg "zip" = none)(i:PA X [a,b,c] ta)(j:starEach [a,b,c] X.env=[(false,eval a X.env),(false,eval b X.env),(false,eval c X.env)]:=by rfl)(d:starEach [b,c] X.env=[(false,eval b X.env),(false,eval c X.env)]:=by rfl):
  PI X (.Tuple elts n tpos) (.Call (.Name "zip" p) [a,b,c] [] pos) (iZN X.K 3 ta):=by
 intro e s σ H R I h;refine Call_<|JV I f g (show bootBuiltins "zip" = some (.type "zip") by decide +kernel)<|PyProof.Rows.callWith_type1 (thn (i pos e s σ H _ I h) λt s1 ⟨vs,u,k,r1,l⟩=>?_) (by rw[j,d]) (by rw[d];rfl);obtain⟨m,l2,rfl,r,q⟩:=l;cases Vy r1
 match m,l2 with
 | [x,y,z],_=>exact jkA k (by simp) (by simp) r q (F.typeCall_zip_N3 _ _ _) (F.newCall_zip_N3 _ _ _) λo=>F.args_object_init_N4 o _ _ _
end L2
namespace PySem
open Sem (wp)
section
variable {prog:Program}{w:World}{A:Around}{E:J0}{s:Shared}
def jmb{b d}{i ep}{es}{od}{en}{Q}(hit:s.heap.IsValIter b d i es.size ep)(g:s.heap.get? d=some od)(e:od.data=.dict es ep)(h:es[i]?=some en)
  (j:∀ h',h'.IsValIter b d (i+1) es.size ep->Heap.SameBut b s.heap h'->Q (some en.val) {s with heap:=h'}):wpAny (model prog w) A (pyNext<|.ref b) Q E s:=by
 obtain⟨o,f,k,hd⟩:=id hit;have c:=hit.typeIs;obtain⟨oc,l,m,n⟩:=od;obtain⟨t,p,q,r⟩:=o;subst e k hd;refine L3<|wpAny_attempt<|wpAny_callSpecial?_slot c F.slot_dict_valueiterator_next ?_;refine wpAny_call_entry F.slot_dict_valueiterator_next c F.entry_dict_valueiterator_next ?_<|F.args_dict_valueiterator_next_1 _
 repeat (any_goals (first | assumption | wp_step))
 rw[if_neg ∅,N7,h];refine L3 ?_;refine L3<|wpAny_typeNameOfWhole_valiter c<|M6 ?_;refine L3<|wpAny_isOneOf_valiter c ?_;show wpAny _ _ (setField (.ref b) 1 (rawInt<|(i:Int)+1) >>= _) _ _ s;refine L3<|wpAny_setField f rfl (by simp) ?_;have a:(s.heap.update b (Obj.mapFields (·.setIfInBounds 1 (rawInt<|(i:Int)+1)))).IsValIter b d (i+1) es.size ep:=
  ⟨_,Heap.get?_update_self _ f<|Obj.isFreed_of_fields<|Obj.data_mapFields rfl _,(Obj.cls_mapFields ..).trans rfl,by rw[Obj.data_mapFields rfl];simp[rawInt]⟩
 refine L3<|wpAny_holding ?_;refine L3<|wpAny_isOneOf_valiter a.typeIs ?_;refine L3<|wpAny_isOneOf_valiter a.typeIs ?_;exact M6<|M6 ⟨_,rfl,M6<|j _ a<|Heap.SameBut.update ..⟩
def jn0{a d}{i ep}{es}{od}{Q}(e:A.handled=none)(hit:s.heap.IsValIter a d i es.size ep)(f:s.heap.get? d=some od)(b:od.data=.dict es ep)(g:es[i]?=none)
  (h:∀ h',Heap.ExtBut a s.heap h'->Q none {s with heap:=h'}):wpAny (model prog w) A (pyNext<|.ref a) Q E s:=by
 obtain⟨o,j,k,hd⟩:=id hit;have c:=hit.typeIs;obtain⟨oc,l,m,n⟩:=od;obtain⟨t,p,q,r⟩:=o;subst b k hd;refine L3<|wpAny_attempt<|wpAny_callSpecial?_slot c F.slot_dict_valueiterator_next ?_;refine wpAny_call_entry F.slot_dict_valueiterator_next c F.entry_dict_valueiterator_next ?_<|F.args_dict_valueiterator_next_1 _
 repeat (any_goals (first | assumption | wp_step))
 rw[if_neg ∅,N7,g];refine L3 ?_;refine L3<|wpAny_typeNameOfWhole_valiter c<|M6 ?_;show wpAny _ _ (setField (.ref a) 0 .none >>= _) _ _ s;refine L3<|wpAny_setField j rfl (by simp) ?_;refine L3 ?_;refine L3<|wpAny_newObj_type ?_ (by size_fits);refine L3<|wpAny_of_eq (by first | rfl | (simp only[firstArgMember];rfl)) ?_;refine wpAny_newObj_type ?_ (by size_fits);refine L3<|wpAny_handled ?_;rw[e];refine L3<|M6<|wpAny_throw ?_;refine L3<|wpAny_isInstance ⟨_,X7 _ rfl,rfl⟩ isSubtype_stop ?_;exact M6<|h _<|((Heap.SameBut.update ..).extBut.push _).push _
def zN{d}{od}{Q}(a:s.heap.get? d=some od)(c:od.ExactDict)(hd:(d==sysModules)=false)
  (e:Q (.ref ↥s) { s with heap:=s.heap.push {cls:=.type "dict_values",data:=.fields #[.ref d]} }):wpAny (model prog w) A (call (.builtin "dict.values") [.ref d]) Q E s:=by
 have b:Shared.TypeIs s (.ref d) "dict":=⟨od,a,c.1⟩;refine wpAny_call_entry F.slot_dict_values b F.entry_dict_values (L3<|L3<|wpAny_notOrdered_dict b<|M6 ?_)<|F.args_dict_values_1 _;unfold Builtin.Dict.showsAll;rw[if_neg<|by rw[hd];exact M3];exact L3<|M6<|L3<|wpAny_newObj_type<|M6 ⟨_,rfl,e⟩
def jni{v d}{od}{es}{ep}{Q}(e:s.heap.IsValuesView v d)(a:s.heap.get? d=some od)(b:od.data=.dict es ep)
  (h:Q (.ref ↥s) { s with heap:=s.heap.push {cls:=.type "dict_valueiterator",data:=.fields #[.ref d,.int 0 0,.int es.size 0,.int ep 0]} }):wpAny (model prog w) A (pyIter<|.ref v) Q E s:=by
 obtain⟨j,f,i,g⟩:=id e;refine wpAny_pyIter_slot e.typeIs F.slot_dict_values_iter<|wpAny_call_entry F.slot_dict_values_iter e.typeIs F.entry_dict_values_iter ?_<|F.args_dict_values_iter_1 _;refine L3<|M6 ?_;refine L3 ?_;refine L3<|U5 f g rfl<|M6 ?_;refine L3 ?_;refine L3<|wpAny_dictEntries a b ?_;refine L3<|wpAny_dictEpoch a b ?_;have c:Builtin.Dict_items.ownsTuple "dict_valueiterator" = false:=by decide
 simp only[c,Bool.false_eq_true,if_false];refine wpAny_newObj_type<|M6 ⟨_,rfl,"dict_valueiterator",_,⟨_,X7 _ rfl,rfl⟩,F.slot_dict_valueiterator_next.lookup,?_⟩;simpa [rawInt] using h
end
end PySem
namespace L2
open PySem PySem.Spec PyProof.Rows
noncomputable def jot(a:Addr)(o:Obj)(kvs:List<|List Key×V):It:=
 ⟨λi H=>H a=some (.frz o<|.dT kvs)/\i<kvs.length,λi H x H'=>H'=H/\∃ kv,kvs[i]?=some kv/\x=kv.2,λi H=>H a=some (.frz o<|.dT kvs)/\kvs.length<=i⟩
def jfm{P}{w}{K}{tg}(a g)(o)(t)(es)(ep)(m:o.data=.dict es ep):
  Turn P w K tg (jot a o t) [g] g (λi h=>h.IsValIter g a i es.size ep) where
 mem:=by simp
 obj:=λi h c b d=>by
  have e:b=g:=by simpa using d
  subst e;obtain⟨o,u,_,hd⟩:=c;exact⟨_,u,λv q=>by rw[hd] at q;cases q⟩
 keep:=λi h R c k=>by
  obtain⟨o,u,r⟩:=c;exact⟨o,k g (by simp) _ u,r⟩
 item:=by
  intro X L M S N i j s σ H E I n c x;obtain⟨y,O⟩:=x;obtain⟨z,g2,T,p,A,B,r,g3,g4⟩:=jeZ I.hok y;rw[m] at g3;cases g3;have f:=Paired.length r;obtain⟨q,Q⟩:∃ q,p[i]?=some q:=⟨p[i]'∅,by simp[<- f,O]⟩;obtain⟨v,C,d,U⟩:=jlq r Q;have D:es[i]?=some (entryOfKey (tupleKind<|jL X.prog X.w) q):=by subst L M;rw[<- Array.getElem?_toList,g4,List.getElem?_map,Q];rfl
  refine jmb c z m D λZ l V=>⟨_,rfl,?_⟩;obtain⟨o1,F,G,J⟩:=id l;refine jaS F G J (by decide) ⟨v,H,I.turnedL (λb o d q=>(V.extBut b o ⇑d q)) n,U,⟨rfl,_,C,rfl⟩,l,λb d=>(n b d).1⟩
 done:=by
  intro X L M S N i j s σ H E I n c x;obtain⟨y,O⟩:=x;obtain⟨z,g2,T,p,A,B,r,g3,g4⟩:=jeZ I.hok y;rw[m] at g3;cases g3;have f:=Paired.length r;have W:es.size=p.length:=by rw[<- Array.length_toList,g4,L1]
  exact jn0 (I.ok.hd N) c z m (Array.getElem?_eq_none ∅) λR Y=>⟨rfl,I.turnedL (λb o d q=>Y b o ⇑d q) n⟩
 self:=λ_ _ _ _ _ c h=>wpAny_pyIter_valiter c h
def jnK(te:TE):TI:=λσ H R=>te σ H λx H1=>∃ a kvs,x=.ref a/\H1 a=some (.dT kvs)/\∀ o,R (jot a o kvs)<|upd H1 a<|.frz o<|.dT kvs
section
variable {X:Cx}
def jmq{tg}{apos cpos}{e}{te}(z:PE X e te)
  (d:attributeBase e "values" X.env (eval e X.env)=eval e X.env:=by rfl) (f:(apos.endLine==cpos.line)=true:=by rfl):PI X tg (.Call (.Attribute e "values" apos) [] [] cpos) (jnK te):=by
 intro c s σ H R I h;refine wpAny_Call_method0_late d f<|thn (z c s σ H _ I h) λv s1 ⟨x,A,j,r1,a,g,ex,k,q⟩=>?_;subst ex;obtain rfl:v=Value.ref a:=r1;obtain⟨B,C,_⟩:=zh j<|.inr ⟨g,.inl k⟩;obtain⟨N,D,E,O,l,G,m,_⟩:=j.frzT k;refine⟨"dict","dict.values",PySem.F.plainAttrs_dict,PySem.F.slot_dict_values,PySem.F.type_dict_values,B,C,Calls.callWith_builtin rfl<|PySem.evalArgs_none<|zN l G m ?_⟩;have n:∀ b u,s1.heap.get? b=some u->(s1.heap.push ({cls:=.type "dict_values",data:=.fields #[.ref a]}:Obj)).get? b=some u:=λb u q=>L8 _ q;have p:Inv X c σ A { s1 with heap:=s1.heap.push {cls:=.type "dict_values",data:=.fields #[.ref a]} }:=j.kept n;have J:(s1.heap.push ({cls:=.type "dict_values",data:=.fields #[.ref a]}:Obj)).IsValuesView ↥s1 a:=⟨_,X7 _ rfl,rfl,rfl⟩;obtain⟨o,t,w,y,K,P,hd,r⟩:=p.frzT k;refine jni J K y ?_;generalize s1.heap.push ({cls:=.type "dict_values",data:=.fields #[.ref a]}:Obj)=hp2 at *;have L:∀ b u,hp2.get? b=some u->(hp2.push ({cls:=.type "dict_valueiterator",data:=.fields #[.ref a,.int 0 0,.int t.size 0,.int w 0]}:Obj)).get? b=some u:=λb u q=>L8 _ q;refine⟨hp2.objs.size,[hp2.objs.size],_,_,_,rfl,r.kept L,jfm a _ o g t w y,⟨_,X7 _ rfl,rfl,rfl⟩,λb M=>?_,q o⟩;have i:hp2.objs.size<=b:=by
  have:b=hp2.objs.size:=by simpa using M
  rw[this];exact M8 _
 exact r.fpOk i<|r.hok.fresh i
end
def jmu{X}{tg}{apos cpos}{e}{te}(G:PE X e te)
  (f:attributeBase e "keys" X.env (eval e X.env)=eval e X.env:=by rfl) (g:(apos.endLine==cpos.line)=true:=by rfl):PI X tg (.Call (.Attribute e "keys" apos) [] [] cpos) (iDK te):=by
 intro d s σ H R I h;refine wpAny_Call_method0_late f g<|thn (G d s σ H _ I h) λv s1 J=>?_;obtain⟨x,B,n,r1,a,c,ex,p,q⟩:=J;subst ex;obtain rfl:v=Value.ref a:=r1;obtain⟨Z,r,t,K,j⟩:=jem n.hok p;obtain⟨L,M,_⟩:=zh n<|.inl ⟨c,.inl p⟩;refine⟨"dict","dict.keys",PySem.F.plainAttrs_dict,PySem.F.slot_dict_keys,PySem.F.type_dict_keys,L,M,Calls.callWith_builtin rfl<|PySem.evalArgs_none<|call_meetsIn PySem.F.slot_dict_keys j.typeIs PySem.F.entry_dict_keys (PySem.F.args_dict_keys_1 _) (PySem.W.kdl_meets_keys (jL X.prog X.w) a r) ⟨⟨t,j⟩,?_⟩⟩;have y:∀ b u,s1.heap.get? b=some u->(s1.heap.push ({cls:=.type "dict_keys",data:=.fields #[.ref a]}:Obj)).get? b=some u:=λb u q=>L8 _ q;have z:Inv X d σ B { s1 with heap:=s1.heap.push {cls:=.type "dict_keys",data:=.fields #[.ref a]} }:=n.kept y;have N:PySem.W.KdlKeysView (s1.heap.push ({cls:=.type "dict_keys",data:=.fields #[.ref a]}:Obj)) ↥s1 a:=⟨_,X7 _ rfl,rfl,rfl⟩;obtain⟨o,O,P,C,Q,m⟩:=z.frzD p;have e2:upd B a (.frz o<|.dK c) a=some (.frz o<|.dK c):=jk;obtain⟨_,hd,vs,S,T⟩:=jiN m.hok e2;obtain⟨i,k⟩:=T.dictAt;have A:i=P:=by
  obtain⟨o',U,D,_,E,_⟩:=id k;rw[Q] at D;cases D;rw[C] at E;cases E;rfl
 subst A;refine PySem.W.kdl_pyIter_keys N k ?_;generalize s1.heap.push ({cls:=.type "dict_keys",data:=.fields #[.ref a]}:Obj)=hp2 at *;have V:∀ b u,hp2.get? b=some u->(hp2.push ({cls:=.type "dict_keyiterator",data:=.fields #[.ref a,.int 0 0,.int vs.length 0,.int i 0]}:Obj)).get? b=some u:=λb u q=>L8 _ q;refine⟨hp2.objs.size,[hp2.objs.size],_,_,_,rfl,m.kept V,jjV a _ o c O i C,⟨_,X7 _ rfl,rfl,by rw[S.length];rfl⟩,λb Y=>?_,q o⟩;have l:hp2.objs.size<=b:=by
  have:b=hp2.objs.size:=by simpa using Y
  rw[this];exact M8 _
 exact m.fpOk l<|m.hok.fresh l
theorem Kr:∀{xs}{us},xs.length=us.length->(∀(j:Nat) x u,xs[j]?=some x->us[j]?=some u->RelV x u)->Vals xs us
 | [],[],_,_=>.nil
 | [],_::_,h,_=>by cases h
 | _::_,[],h,_=>by cases h
 | x::xs,u::us,h,k=>.cons (k 0 x u rfl rfl)<|Kr ⇑h λj y w a e2=>k (j+1) y w ⇑a ⇑e2
def wI{X}(g:X.calm=true):kD X (.type "list") (λxs H Q=>∃ p kvs,xs=[.ref p]/\Rd H p (.dK kvs)/\∀ l,H l=none->Q (.ref l) (upd H l<|.lst<|kvs.map λkv=>kV kv.1)):=by
 intro d s σ H xs D Q I r h;obtain⟨p,kvs,rfl,i,q⟩:=h;obtain⟨u,rfl,m⟩:=jf8 r;cases m;obtain⟨n,hd,vs,kv,o⟩:=zc I.hok i;obtain⟨E,c⟩:=o.dictAt;have a:=kv.length;refine PySem.W.kdl_call (PySem.W.kdl_dict hd) (I.ok.hd g) c ∅ λt F b v kp e hi=>?_;have A:Vals (kvs.map λkv=>kV kv.1) b.toList:=by
  refine Kr (by have B:=hi.1;rw[L1,a,<- B];rfl) λj x u f e2=>?_;obtain⟨k,y,e3,C⟩:=hi.2 j u (by rw[<- Array.getElem?_toList];exact e2);obtain⟨z,e5,_⟩:=jif kv e3;rw[List.getElem?_map,e5] at f;cases f;exact jhG C
 exact⟨.ref ↥s,_,I.laid kp (M8 _)<|show ObjOk X.prog X.w _ t _ (.lst<|kvs.map λkv=>kV kv.1) from⟨by rw[L1];exact n,b.toList,v,A,by simpa using e⟩,rfl,q _<|I.hok.fresh<|M8 _⟩
end L2
namespace QD
open PySem L2
inductive KA where
 | int (i:Int) | str (s:List Nat)
 deriving DecidableEq
inductive D where
 | non | bl (b:Bool) | int (i:Int) | str (s:List Nat)
 | tup (l:List D) | lst (o:Bool) (l:List D)
 | dK (o:Bool) (ks:List KA) (l:List D)
 | dT (o:Bool) (ks:List (List KA)) (l:List D)
 | ins (o:Bool) (c:Nat) (ns:List Str) (l:List D)
 | dead
  | tok (a:Addr)
 | kt (k:List KA)
  | exc (c:Nat) (p:Int)
def xo(C a dx:Addr):Heap->Prop:=λh=>∃ o vs,h.get? a=some o/\o.cls=.ref C/\o.dict=some dx/\o.data=.fields vs
mutual
noncomputable def fz:D->D
 | .tup l=>.tup<|fzs l
 | .lst _ l=>.lst false<|fzs l
 | .dK _ ks l=>.dK false ks<|fzs l
 | .dT _ ks l=>.dT false ks<|fzs l
 | .ins _ c ns l=>.ins false c ns<|fzs l
 | .non=>.non | .bl b=>.bl b | .int i=>.int i | .str s=>.str s | .dead=>.dead | .tok a=>.tok a | .kt k=>.kt k | .exc c p=>.exc c p
noncomputable def fzs:List D->List D
 | []=>[]
 | d::l=>fz d::fzs l
end
mutual
noncomputable def frz:D->Bool
 | .tup l=>frzs l
 | .lst o l=>!o&&frzs l
 | .dK o _ l=>!o&&frzs l
 | .dT o _ l=>!o&&frzs l
 | .ins o _ _ l=>!o&&frzs l
 | .non=>true | .bl _=>true | .int _=>true | .str _=>true | .dead=>true | .tok _=>true | .kt _=>true | .exc _ _=>true
noncomputable def frzs:List D->Bool
 | []=>true
 | d::l=>frz d&&frzs l
end
mutual
theorem jkh:∀ d:D,frz d=true->fz d=d
 | .tup l,h=>by rw[frz] at h;rw[fz,vV l h]
 | .lst o l,h=>by rw[frz,M0] at h;rw[fz,vV l h.2];cases o<;>simp_all
 | .dK o ks l,h=>by rw[frz,M0] at h;rw[fz,vV l h.2];cases o<;>simp_all
 | .dT o ks l,h=>by rw[frz,M0] at h;rw[fz,vV l h.2];cases o<;>simp_all
 | .ins o c ns l,h=>by rw[frz,M0] at h;rw[fz,vV l h.2];cases o<;>simp_all
 | .non,_=>rfl | .bl _,_=>rfl | .int _,_=>rfl | .str _,_=>rfl | .dead,_=>rfl | .tok _,_=>rfl | .kt _,_=>rfl | .exc _ _,_=>rfl
theorem vV:∀ l:List D,frzs l=true->fzs l=l
 | [],_=>rfl
 | d::l,h=>by rw[frzs,M0] at h;rw[fzs,jkh d h.1,vV l h.2]
end
mutual
theorem jkp:∀ d:D,frz (fz d)=true
 | .tup l=>by rw[fz,frz];exact Jb l
 | .lst o l=>by rw[fz,frz,Jb l];rfl
 | .dK o ks l=>by rw[fz,frz,Jb l];rfl
 | .dT o ks l=>by rw[fz,frz,Jb l];rfl
 | .ins o c ns l=>by rw[fz,frz,Jb l];rfl
 | .non=>rfl | .bl _=>rfl | .int _=>rfl | .str _=>rfl | .dead=>rfl | .tok _=>rfl | .kt _=>rfl | .exc _ _=>rfl
theorem Jb:∀ l:List D,frzs (fzs l)=true
 | []=>rfl
 | d::l=>by rw[fzs,frzs,jkp d,Jb l];rfl
end
theorem qJ:∀ l:List D,fzs l=l.map fz
 | []=>rfl
 | d::l=>by rw[fzs,qJ l];rfl
theorem Va:∀ l:List D,frzs l=l.all frz
 | []=>rfl
 | d::l=>by rw[frzs,Va l];rfl
structure RC where
 K:PySem.W.Frag
 cls:Nat->Addr
def kaV:KA->Key
 | .int i=>.inl i
 | .str s=>.inr<|S s
noncomputable abbrev Zn:=Addr->Prop
def FT(R:RC)(Z:Zn)(H:Hp)(a:Addr)(vs:List V):Prop:=
 (Z a/\Rd H a (.tup vs)) \/ ∃ o its n,R.K.lookup a=some o/\o.cls=.type "tuple"/\o.data=.seq its n/\its.size<=sizeLine/\Vals vs its.toList/\o.dict=none
def FL(R:RC)(Z:Zn)(H:Hp)(a:Addr)(vs:List V):Prop:=
 (Z a/\Rd H a (.lst vs)) \/ ∃ its n,R.K.lookup a=some {cls:=.type "list",data:=.seq its n}/\its.size<=sizeLine/\Vals vs its.toList
def DkA(o:Bool)(H:Hp)(a:Addr)(kvs:List<|Key×V):Prop:=bif o then H a=some (.dK kvs) else Rd H a (.dK kvs)
inductive RpC (rs:List V->List Addr->Prop) (C:Addr->List V->List Addr->Prop) (v:V):Prop
 | mk:∀(a:Addr) (vs:List V) (O':W6),v=.ref a->rs vs O'->C a vs O'->RpC rs C v
inductive RpS (rd:V->List Addr->Prop) (rs:List V->List Addr->Prop) (vs:List V) (O:W6):Prop
 | mk:∀(v:V) (vs':List V) (O1 O2:W6),vs=v::vs'->O=O1++O2->rd v O1->rs vs' O2->RpS rd rs vs O
mutual
def Rep(R:RC)(Z:Zn)(H:Hp):D->V->List Addr->Prop
 | .non,v,O=>v=.non/\O=[]
 | .bl b,v,O=>v=.bl b/\O=[]
 | .int i,v,O=>v=.int i/\O=[]
 | .str s,v,O=>v=.str (S s)/\O=[]
 | .dead,_,O=>O=[]
 | .tok a,v,O=>v=.ref a/\O=[]
 | .kt k,v,O=>∃ a,v=.ref a/\Z a/\H a=some (.tup<|(k.map kaV).map kV)/\O=[]
 | .exc c p,v,O=>∃ a dx,v=.ref a/\Z a/\Z dx/\H a=some (.ext<|xo (R.cls c) a dx)/\H dx=some (.xd [("place",.int p)])/\O=[]
 | .tup l,v,O=>∃ a vs,v=.ref a/\FT R Z H a vs/\Reps R Z H l vs O
 | .lst o l,v,O=>RpC (λvs O'=>Reps R Z H l vs O') (λa vs O'=>bif o then H a=some (.lst vs)/\O=a::O' else FL R Z H a vs/\O'=[]/\O=[]) v
 | .dK o ks l,v,O=>RpC (λvs O'=>Reps R Z H l vs O') (λa vs O'=>ks.length=l.length/\DkA o H a ((ks.map kaV).zip vs)/\bif o then O=a::O' else Z a/\O'=[]/\O=[]) v
 | .dT o ks l,v,O=>RpC (λvs O'=>Reps R Z H l vs O') (λa vs O'=>ks.length=l.length/\H a=some (.dT<|(ks.map<|List.map kaV).zip vs)/\bif o then O=a::O' else Z a/\O'=[]/\O=[]) v
 | .ins o c ns l,v,O=>∃ a dx vs O',v=.ref a/\Reps R Z H l vs O'/\ns.length=l.length/\H a=some (.ins (R.cls c) dx<|ns.zip vs)/\bif o then O=a::O' else Z a/\O'=[]/\O=[]
def Reps(R:RC)(Z:Zn)(H:Hp):List D->List V->List Addr->Prop
 | [],vs,O=>vs=[]/\O=[]
 | d::ds,vs,O=>RpS (λv O1=>Rep R Z H d v O1) (λvs' O2=>Reps R Z H ds vs' O2) vs O
end
def FT.sq(h:FT R Z H a vs):SqT R.K H a vs:=by
 rcases h with⟨_,h⟩ | ⟨o,b,n,c,d,e,f,g,_⟩
 ·exact .inl h
 ·exact .inr ⟨o,b,n,c,d,e,f,g⟩
def FL.sqx(h:FL R Z H a vs):SqX R.K H a vs:=by
 rcases h with⟨_,h⟩ | h
 ·exact .inl h
 ·exact .inr h
def FL.sq(h:FL R Z H a vs):SqL R.K H a vs:=h.sqx.sq
def Rd.agree(e:H' a=H a)(h:Rd H a u):Rd H' a u:=by
 unfold Rd at h ⊢;rw[e];exact h
def FT.frame(b:∀ a,Z a->Z' a)(c:∀ a,Z a->H' a=H a)(h:FT R Z H a vs):FT R Z' H' a vs:=by
 rcases h with⟨z,h⟩ | h
 ·exact .inl ⟨b a z,Rd.agree (c a z) h⟩
 ·exact .inr h
def FL.frame(b:∀ a,Z a->Z' a)(c:∀ a,Z a->H' a=H a)(h:FL R Z H a vs):FL R Z' H' a vs:=by
 rcases h with⟨z,h⟩ | h
 ·exact .inl ⟨b a z,Rd.agree (c a z) h⟩
 ·exact .inr h
mutual
theorem Rep.frame(hz:∀ a,Z a->Z' a)(hH:∀ a,Z a->H' a=H a):∀{d:D}{v:V}{O:W6},Rep R Z H d v O->(∀ a∈O,H' a=H a)->Rep R Z' H' d v O
 | .non,_,_,h,_=>by rw[Rep] at h ⊢;exact h
 | .bl _,_,_,h,_=>by rw[Rep] at h ⊢;exact h
 | .int _,_,_,h,_=>by rw[Rep] at h ⊢;exact h
 | .str _,_,_,h,_=>by rw[Rep] at h ⊢;exact h
 | .dead,_,_,h,_=>by rw[Rep] at h ⊢;exact h
 | .tok _,_,_,h,_=>by rw[Rep] at h ⊢;exact h
 | .kt _,_,_,h,_=>by
  rw[Rep] at h ⊢;obtain⟨a,e,z,x,o⟩:=h;exact⟨a,e,hz a z,(hH a z).trans x,o⟩
 | .exc _ _,_,_,h,_=>by
  rw[Rep] at h ⊢;obtain⟨a,dx,e,z1,z2,h1,h2,h3⟩:=h;exact⟨a,dx,e,hz a z1,hz dx z2,(hH a z1).trans h1,(hH dx z2).trans h2,h3⟩
 | .tup l,_,_,h,hO=>by
  rw[Rep] at h ⊢;obtain⟨a,vs,e,t,r⟩:=h;exact⟨a,vs,e,t.frame hz hH,Reps.frame hz hH r hO⟩
 | .lst o l,_,_,h,hO=>by
  rw[Rep] at h ⊢;obtain⟨a,vs,O',e,r,h⟩:=h;cases o with
  | true=>
   obtain⟨h1,rfl⟩:=h;exact⟨a,vs,O',e,Reps.frame hz hH r λb hb=>hO b<|L6 _ hb,by rw[cond_true,hO a L7];exact⟨h1,rfl⟩⟩
  | false=>
   obtain⟨h1,rfl,rfl⟩:=h;exact⟨a,vs,[],e,Reps.frame hz hH r (λb hb=>nomatch hb),h1.frame hz hH,rfl,rfl⟩
 | .dK o ks l,_,_,h,hO=>by
  rw[Rep] at h ⊢;obtain⟨a,vs,O',e,r,hl,hd,h⟩:=h;cases o with
  | true=>
   have h:=(show _=_ from h);subst h;exact⟨a,vs,O',e,Reps.frame hz hH r λb hb=>hO b<|L6 _ hb,hl,by show H' a=some _;rw[hO a L7];exact hd,rfl⟩
  | false=>
   obtain⟨h1,rfl,rfl⟩:=h;exact⟨a,vs,[],e,Reps.frame hz hH r (λb hb=>nomatch hb),hl,Rd.agree (hH a h1) hd,hz a h1,rfl,rfl⟩
 | .dT o ks l,_,_,h,hO=>by
  rw[Rep] at h ⊢;obtain⟨a,vs,O',e,r,hl,hd,h⟩:=h;cases o with
  | true=>
   have h:=(show _=_ from h);subst h;exact⟨a,vs,O',e,Reps.frame hz hH r λb hb=>hO b<|L6 _ hb,hl,by rw[hO a L7];exact hd,rfl⟩
  | false=>
   obtain⟨h1,rfl,rfl⟩:=h;exact⟨a,vs,[],e,Reps.frame hz hH r (λb hb=>nomatch hb),hl,by rw[hH a h1];exact hd,hz a h1,rfl,rfl⟩
 | .ins o c ns l,_,_,h,hO=>by
  rw[Rep] at h ⊢;obtain⟨a,dx,vs,O',e,r,hl,hd,h⟩:=h;cases o with
  | true=>
   have h:=(show _=_ from h);subst h;exact⟨a,dx,vs,O',e,Reps.frame hz hH r λb hb=>hO b<|L6 _ hb,hl,by rw[hO a L7];exact hd,rfl⟩
  | false=>
   obtain⟨h1,rfl,rfl⟩:=h;exact⟨a,dx,vs,[],e,Reps.frame hz hH r (λb hb=>nomatch hb),hl,by rw[hH a h1];exact hd,hz a h1,rfl,rfl⟩
theorem Reps.frame(hz:∀ a,Z a->Z' a)(hH:∀ a,Z a->H' a=H a):∀{l:List D}{vs:List V}{O:W6},Reps R Z H l vs O->(∀ a∈O,H' a=H a)->Reps R Z' H' l vs O
 | [],_,_,h,_=>by rw[Reps] at h ⊢;exact h
 | d::l,_,_,h,hO=>by
  rw[Reps] at h ⊢;obtain⟨v,vs,O1,O2,e,rfl,r1,r2⟩:=h;exact⟨v,vs,O1,O2,e,rfl,Rep.frame hz hH r1 λa ha=>hO a<|List.mem_append_left _ ha,Reps.frame hz hH r2 λa ha=>hO a<|U2 _ ha⟩
end
mutual
theorem Rep.nil:∀{d:D}{v:V}{O:W6},Rep R Z H d v O->frz d=true->O=[]
 | .non,_,_,h,_=>by rw[Rep] at h;exact h.2
 | .bl _,_,_,h,_=>by rw[Rep] at h;exact h.2
 | .int _,_,_,h,_=>by rw[Rep] at h;exact h.2
 | .str _,_,_,h,_=>by rw[Rep] at h;exact h.2
 | .dead,_,_,h,_=>by rw[Rep] at h;exact h
 | .tok _,_,_,h,_=>by rw[Rep] at h;exact h.2
 | .kt _,_,_,h,_=>by rw[Rep] at h;obtain⟨_,_,_,_,h⟩:=h;exact h
 | .exc _ _,_,_,h,_=>by rw[Rep] at h;obtain⟨_,_,_,_,_,_,_,h⟩:=h;exact h
 | .tup l,_,_,h,f=>by
  rw[Rep] at h;rw[frz] at f;obtain⟨a,vs,e,t,r⟩:=h;exact Reps.nil r f
 | .lst o l,_,_,h,f=>by
  rw[Rep] at h;rw[frz] at f;obtain⟨a,vs,O',e,r,h⟩:=h;cases o with
  | true=>exact absurd f (by simp)
  | false=>exact h.2.2
 | .dK o ks l,_,_,h,f=>by
  rw[Rep] at h;rw[frz] at f;obtain⟨a,vs,O',e,r,hl,hd,h⟩:=h;cases o with
  | true=>exact absurd f (by simp)
  | false=>exact h.2.2
 | .dT o ks l,_,_,h,f=>by
  rw[Rep] at h;rw[frz] at f;obtain⟨a,vs,O',e,r,hl,hd,h⟩:=h;cases o with
  | true=>exact absurd f (by simp)
  | false=>exact h.2.2
 | .ins o c ns l,_,_,h,f=>by
  rw[Rep] at h;rw[frz] at f;obtain⟨a,dx,vs,O',e,r,hl,hd,h⟩:=h;cases o with
  | true=>exact absurd f (by simp)
  | false=>exact h.2.2
theorem Reps.nil:∀{l:List D}{vs:List V}{O:W6},Reps R Z H l vs O->frzs l=true->O=[]
 | [],_,_,h,_=>by rw[Reps] at h;exact h.2
 | d::l,_,_,h,f=>by
  rw[Reps] at h;rw[frzs,M0] at f;obtain⟨v,vs,O1,O2,e,rfl,r1,r2⟩:=h;rw[Rep.nil r1 f.1,Reps.nil r2 f.2];rfl
end
mutual
theorem Rep.freeze:∀{d:D}{v:V}{O:W6},Rep R Z H d v O->(∀ a,Z a->Z' a)->(∀ a∈O,Z' a)->Rep R Z' H (fz d) v []
 | .non,_,_,h,_,_=>by rw[Rep] at h;rw[fz,Rep];exact⟨h.1,rfl⟩
 | .bl _,_,_,h,_,_=>by rw[Rep] at h;rw[fz,Rep];exact⟨h.1,rfl⟩
 | .int _,_,_,h,_,_=>by rw[Rep] at h;rw[fz,Rep];exact⟨h.1,rfl⟩
 | .str _,_,_,h,_,_=>by rw[Rep] at h;rw[fz,Rep];exact⟨h.1,rfl⟩
 | .dead,_,_,h,_,_=>by rw[fz,Rep]
 | .tok _,_,_,h,_,_=>by rw[Rep] at h;rw[fz,Rep];exact⟨h.1,rfl⟩
 | .kt _,_,_,h,hz,_=>by
  rw[Rep] at h;rw[fz,Rep];obtain⟨a,e,z,x,o⟩:=h;exact⟨a,e,hz a z,x,rfl⟩
 | .exc _ _,_,_,h,hz,_=>by
  rw[Rep] at h;rw[fz,Rep];obtain⟨a,dx,e,z1,z2,h1,h2,_⟩:=h;exact⟨a,dx,e,hz a z1,hz dx z2,h1,h2,rfl⟩
 | .tup l,_,_,h,hz,hO=>by
  rw[Rep] at h;rw[fz,Rep];obtain⟨a,vs,e,t,r⟩:=h;exact⟨a,vs,e,t.frame hz λ_ _=>rfl,Reps.freeze r hz hO⟩
 | .lst o l,_,_,h,hz,hO=>by
  rw[Rep] at h;rw[fz,Rep];obtain⟨a,vs,O',e,r,h⟩:=h;cases o with
  | true=>
   obtain⟨h1,rfl⟩:=h;exact⟨a,vs,[],e,Reps.freeze r hz λb hb=>hO b<|L6 _ hb,.inl ⟨hO a L7,.inl h1⟩,rfl,rfl⟩
  | false=>
   obtain⟨h1,rfl,rfl⟩:=h;exact⟨a,vs,[],e,Reps.freeze r hz (λb hb=>nomatch hb),h1.frame hz<|λ_ _=>rfl,rfl,rfl⟩
 | .dK o ks l,_,_,h,hz,hO=>by
  rw[Rep] at h;rw[fz,Rep];obtain⟨a,vs,O',e,r,hl,hd,h⟩:=h;have hl':ks.length=(fzs l).length:=by rw[qJ,L1];exact hl
  cases o with
  | true=>
   have h:=(show _=_ from h);subst h;exact⟨a,vs,[],e,Reps.freeze r hz λb hb=>hO b<|L6 _ hb,hl',.inl hd,hO a L7,rfl,rfl⟩
  | false=>
   obtain⟨h1,rfl,rfl⟩:=h;exact⟨a,vs,[],e,Reps.freeze r hz (λb hb=>nomatch hb),hl',hd,hz a h1,rfl,rfl⟩
 | .dT o ks l,_,_,h,hz,hO=>by
  rw[Rep] at h;rw[fz,Rep];obtain⟨a,vs,O',e,r,hl,hd,h⟩:=h;have hl':ks.length=(fzs l).length:=by rw[qJ,L1];exact hl
  cases o with
  | true=>
   have h:=(show _=_ from h);subst h;exact⟨a,vs,[],e,Reps.freeze r hz λb hb=>hO b<|L6 _ hb,hl',hd,hO a L7,rfl,rfl⟩
  | false=>
   obtain⟨h1,rfl,rfl⟩:=h;exact⟨a,vs,[],e,Reps.freeze r hz (λb hb=>nomatch hb),hl',hd,hz a h1,rfl,rfl⟩
 | .ins o c ns l,_,_,h,hz,hO=>by
  rw[Rep] at h;rw[fz,Rep];obtain⟨a,dx,vs,O',e,r,hl,hd,h⟩:=h;have hl':ns.length=(fzs l).length:=by rw[qJ,L1];exact hl
  cases o with
  | true=>
   have h:=(show _=_ from h);subst h;exact⟨a,dx,vs,[],e,Reps.freeze r hz λb hb=>hO b<|L6 _ hb,hl',hd,hO a L7,rfl,rfl⟩
  | false=>
   obtain⟨h1,rfl,rfl⟩:=h;exact⟨a,dx,vs,[],e,Reps.freeze r hz (λb hb=>nomatch hb),hl',hd,hz a h1,rfl,rfl⟩
theorem Reps.freeze:∀{l:List D}{vs:List V}{O:W6},Reps R Z H l vs O->(∀ a,Z a->Z' a)->(∀ a∈O,Z' a)->Reps R Z' H (fzs l) vs []
 | [],_,_,h,_,_=>by rw[Reps] at h;rw[fzs,Reps];exact⟨h.1,rfl⟩
 | d::l,_,_,h,hz,hO=>by
  rw[Reps] at h;rw[fzs,Reps];obtain⟨v,vs,O1,O2,e,rfl,r1,r2⟩:=h;exact⟨v,vs,[],[],e,rfl,Rep.freeze r1 hz λa ha=>hO a<|List.mem_append_left _ ha,Reps.freeze r2 hz λa ha=>hO a<|U2 _ ha⟩
end
theorem Reps.length:∀{l}{vs}{O},Reps R Z H l vs O->vs.length=l.length
 | [],_,_,h=>by rw[Reps] at h;rw[h.1];rfl
 | d::l,_,_,h=>by
  obtain⟨v,vs,a,b,rfl,rfl,r1,r2⟩:=h;rw[M1,M1,Reps.length r2]
theorem Reps.append:∀{l m}{vs ws}{O P},Reps R Z H l vs O->Reps R Z H m ws P->Reps R Z H (l++m) (vs++ws) (O++P)
 | [],m,_,_,_,_,h,k=>by rw[Reps] at h;obtain⟨rfl,rfl⟩:=h;exact k
 | d::l,m,_,_,_,_,h,k=>by
  obtain⟨v,vs,a,b,rfl,rfl,r1,r2⟩:=h;exact⟨v,_,a,_,rfl,List.append_assoc ..,r1,Reps.append r2 k⟩
def Reps.one(h:Rep R Z H d v O):Reps R Z H [d] [v] O:=by
 exact⟨v,[],O,[],rfl,(M9 O).symm,h,by rw[Reps];exact⟨rfl,rfl⟩⟩
def Reps.cons(h:Rep R Z H d v O)(k:Reps R Z H l vs P):Reps R Z H (d::l) (v::vs) (O++P):=by
 exact⟨v,vs,O,P,rfl,rfl,h,k⟩
def Reps.empty:Reps R Z H [] [] []:=by rw[Reps];exact⟨rfl,rfl⟩
theorem Reps.at:∀{l}{vs}{O}{i}{d},Reps R Z H l vs O->l[i]?=some d ->
  Ex4 λv A P B=>An4 (vs[i]?=some v) (O=A++P++B) (Rep R Z H d v P)<|∀{Z'}{H'}{d'}{v'}{P'},Rep R Z' H' d' v' P'->(∀ a,Z a->Z' a)->(∀ a,Z a->H' a=H a)->(∀ a∈A,H' a=H a)->(∀ a∈B,H' a=H a)->Reps R Z' H' (l.set i d') (vs.set i v') (A++P'++B)
 | [],_,_,_,_,_,e=>by simp at e
 | c::l,_,_,0,d,h,e=>by
  obtain⟨v,vs,b,j,rfl,rfl,r1,r2⟩:=h;have e:c=d:=by simpa using e
  subst e;exact⟨v,[],b,j,rfl,rfl,r1,λr f g m n=>⟨_,vs,_,j,rfl,rfl,r,Reps.frame f g r2 n⟩⟩
 | c::l,_,_,i+1,d,h,e=>by
  obtain⟨v,vs,b,j,rfl,rfl,r1,r2⟩:=h;obtain⟨w,A,P,B,p,rfl,r3,k⟩:=Reps.at r2 ⇑e;exact⟨w,b++A,P,B,by simpa using p,by simp,r3,λ{Z' H' d' v' P'} r f g m n=>⟨v,_,b,A++P'++B,rfl,by simp,Rep.frame f g r1 λa o=>m a<|List.mem_append_left _ o,k r f g (λa o=>m a<|U2 _ o) n⟩⟩
def Reps.item{l}{vs}{i:Nat}(h:Reps R Z H l vs [])(e:l[i]?=some d):∃ v,vs[i]?=some v/\Rep R Z H d v []:=by
 obtain⟨v,A,P,B,a,e2,r,_⟩:=h.at e;have:P=[]:=by
  have:=congrArg List.length e2;simp at this;exact List.eq_nil_of_length_eq_zero ∅
 subst this;exact⟨v,a,r⟩
theorem Reps.take:∀{l}{vs} n,Reps R Z H l vs []->Reps R Z H (l.take n) (vs.take n) []
 | _,_,0,_=>by simp;exact .empty
 | [],_,n+1,h=>by rw[Reps] at h;rw[h.1];exact .empty
 | d::l,_,n+1,h=>by
  obtain⟨v,vs,a,b,rfl,e,r1,r2⟩:=h;obtain⟨rfl,rfl⟩:=List.append_eq_nil_iff.mp e.symm;exact .cons r1<|Reps.take n r2
theorem Reps.drop:∀{l}{vs} n,Reps R Z H l vs []->Reps R Z H (l.drop n) (vs.drop n) []
 | _,_,0,h=>h
 | [],_,n+1,h=>by rw[Reps] at h;rw[h.1];exact .empty
 | d::l,_,n+1,h=>by
  obtain⟨v,vs,a,b,rfl,e,r1,r2⟩:=h;obtain⟨rfl,rfl⟩:=List.append_eq_nil_iff.mp e.symm;exact Reps.drop n r2
structure WF(Z:Zn)(H:Hp)(O:W6):Prop where
 nd:O.Nodup
 nz:∀ a∈O,¬ Z a
 od:∀ a∈O,H a≠none
 zd:∀ a,Z a->H a≠none
structure Go(Z:Zn)(H:Hp)(O:W6)(Z':Zn)(H':Hp)(O':W6):Prop where
 wf:WF Z' H' O'
 zz:∀ a,Z a->Z' a
 fr:∀ a,H a≠none->a∉O->H' a=H a
 zn:∀ a,Z' a->Z a\/a∈O\/H a=none
 sub:∀ a∈O',a∈O\/H a=none
 dm:∀ a,H a≠none->H' a≠none
def Go.refl(w:WF Z H O):Go Z H O Z H O:=⟨w,λ_ z=>z,λ_ _ _=>rfl,λ_ z=>.inl z,λ_ h=>.inl h,λ_ h=>h⟩
def Go.trans(g:Go Z H O Z' H' O')(k:Go Z' H' O' Z'' H'' O''):Go Z H O Z'' H'' O'':=by
 refine⟨k.wf,λa z=>k.zz a<|g.zz a z,λa h n=>?_,λa z=>?_,λa h=>?_,λa h=>k.dm a<|g.dm a h⟩
 ·rw[k.fr a (g.dm a h) λb=>(g.sub a b).elim n h,g.fr a h n]
 ·rcases k.zn a z with z | z | z
  ·exact g.zn a z
  ·rcases g.sub a z with q | q
   ·lia
   ·lia
  ·by_cases h:H a=none
   ·lia
   ·exact absurd z<|g.dm a h
 ·rcases k.sub a h with q | q
  ·exact g.sub a q
  ·by_cases h:H a=none
   ·lia
   ·exact absurd q<|g.dm a h
def Go.zH(w:WF Z H O)(g:Go Z H O Z' H' O'):∀ a,Z a->H' a=H a:=λa z=>g.fr a (w.zd a z) λh=>w.nz a h z
def WF.sub(w:WF Z H O)(h:∀ a∈O',a∈O)(n:O'.Nodup):WF Z H O':=⟨n,λa z=>w.nz a<|h a z,λa z=>w.od a<|h a z,w.zd⟩
def WF.mid(w:WF Z H<|A++O++B):WF Z H O:=w.sub (λa h=>by simp[h]) (by have:=w.nd;simp[U8] at this;exact this.2.1.1)
def WF.left(w:WF Z H<|A++B):WF Z H A:=w.sub (λa h=>by simp[h]) (U8.mp w.nd).1
def WF.right(w:WF Z H<|A++B):WF Z H B:=w.sub (λa h=>by simp[h]) (U8.mp w.nd).2.1
def Go.frame(w:WF Z H<|A++O++B)(g:Go Z H O Z' H' O'):Go Z H (A++O++B) Z' H' (A++O'++B):=by
 have nd:=w.nd;simp only[U8,N1] at nd;have new:∀ a∈O',a∉A/\a∉B:=λa h=>by
  rcases g.sub a h with q | q
  ·exact⟨λz=>nd.1.2.2 a z a q rfl,λz=>nd.2.2 a (.inr q) a z rfl⟩
  ·exact⟨λz=>w.od a (by simp[z]) q,λz=>w.od a (by simp[z]) q⟩
 have keep:∀ a,a∈A\/a∈B->a∉O:=λa h z=>by
  rcases h with h | h
  ·exact nd.1.2.2 a h a z rfl
  ·exact nd.2.2 a (.inr z) a h rfl
 refine⟨⟨?_,λa h z=>?_,λa h=>?_,g.wf.zd⟩,g.zz,λa h n=>?_,λa z=>?_,λa h=>?_,g.dm⟩
 ·simp only[U8,N1];exact⟨⟨nd.1.1,g.wf.nd,λa h b k e=>(new b k).1 (e▸h)⟩,nd.2.1,λa h b k e=>by
   rcases h with h | h
   ·exact nd.2.2 a (.inl h) b k e
   ·exact(new a h).2 (e▸k)⟩
 ·simp only[N1] at h;rcases h with(h | h) | h
  ·rcases g.zn a z with q | q | q
   ·exact w.nz a (by simp[h]) q
   ·exact keep a (.inl h) q
   ·exact w.od a (by simp[h]) q
  ·exact g.wf.nz a h z
  ·rcases g.zn a z with q | q | q
   ·exact w.nz a (by simp[h]) q
   ·exact keep a (.inr h) q
   ·exact w.od a (by simp[h]) q
 ·simp only[N1] at h;rcases h with(h | h) | h
  ·exact g.dm a<|w.od a (by simp[h])
  ·exact g.wf.od a h
  ·exact g.dm a<|w.od a (by simp[h])
 ·simp only[N1,not_or] at n;exact g.fr a h n.1.2
 ·rcases g.zn a z with q | q | q
  ·lia
  ·exact .inr<|.inl (by simp[q])
  ·lia
 ·simp only[N1] at h ⊢;rcases h with(h | h) | h
  ·lia
  ·rcases g.sub a h with q | q
   ·lia
   ·lia
  ·lia
def Go.keepA(w:WF Z H<|A++O++B)(g:Go Z H O Z' H' O'):(∀ a∈A,H' a=H a)/\∀ a∈B,H' a=H a:=by
 have nd:=w.nd;simp only[U8,N1] at nd;exact⟨λa h=>g.fr a (w.od a<|by simp[h]) λz=>nd.1.2.2 a h a z rfl,λa h=>g.fr a (w.od a<|by simp[h]) λz=>nd.2.2 a (.inr z) a h rfl⟩
def Go.drop(g:Go Z H O Z' H' O')(h:∀ a∈O'',a∈O')(n:O''.Nodup):Go Z H O Z' H' O'':=⟨g.wf.sub h n,g.zz,g.fr,g.zn,λa q=>g.sub a<|h a q,g.dm⟩
def Go.dropL(g:Go Z H O Z' H'<|A++B):Go Z H O Z' H' B:=g.drop (λa h=>by simp[h]) (U8.mp g.wf.nd).2.1
def Go.dropR(g:Go Z H O Z' H'<|A++B):Go Z H O Z' H' A:=g.drop (λa h=>by simp[h]) (U8.mp g.wf.nd).1
def Go.freeze(w:WF Z H O):Go Z H O (λa=>Z a\/a∈O) H []:=
 ⟨⟨List.nodup_nil,λa h=>(nomatch h),λa h=>(nomatch h),λa h=>h.elim (w.zd a)<|w.od a⟩,λa z=>.inl z,λ_ _ _=>rfl,λa z=>z.elim .inl λq=>.inr<|.inl q,λa h=>(nomatch h),λ_ h=>h⟩
def Go.newF(w:WF Z H O)(b:H p=none):Go Z H O (λa=>Z a\/a=p) (upd H p o) O:=by
 have ne:∀ a,H a≠none->a≠p:=λa h e=>h<|e▸b;refine⟨⟨w.nd,λa h z=>z.elim (w.nz a h)<|ne a<|w.od a h,λa h=>?_,λa z=>?_⟩,λa z=>.inl z,λa h _=>je<|ne a h,λa z=>z.elim .inl λe=>.inr<|.inr<|e▸b,λa h=>.inl h,λa h=>?_⟩
 ·rw[je<|ne a<|w.od a h];exact w.od a h
 ·by_cases e:a=p
  ·rw[e,jk];exact λh=>nomatch h
  ·rw[je e];exact w.zd a<|z.resolve_right e
 ·rw[je<|ne a h];exact h
def Go.newO(w:WF Z H O)(b:H p=none):Go Z H O Z (upd H p o) (p::O):=by
 have ne:∀ a,H a≠none->a≠p:=λa h e=>h<|e▸b;refine⟨⟨List.nodup_cons.mpr ⟨λh=>w.od p h b,w.nd⟩,λa h z=>?_,λa h=>?_,λa z=>?_⟩,λa z=>z,λa h _=>je<|ne a h,λa z=>.inl z,λa h=>?_,λa h=>?_⟩
 ·rcases M4.mp h with e | e
  ·exact w.zd a z<|e▸b
  ·exact w.nz a e z
 ·rcases M4.mp h with e | e
  ·rw[e,jk];exact λh=>nomatch h
  ·rw[je<|ne a<|w.od a e];exact w.od a e
 ·rw[je<|ne a<|w.zd a z];exact w.zd a z
 ·grind
 ·rw[je<|ne a h];exact h
def Go.put(w:WF Z H O)(b:p∈O):Go Z H O Z (upd H p o) O:=by
 have nn:∀ a,upd H p o a=none->a≠p/\H a=none:=λa h=>by
  by_cases e:a=p
  ·rw[e,jk] at h;cases h
  ·rw[je e] at h;exact⟨e,h⟩
 exact⟨⟨w.nd,w.nz,λa h z=>w.od a h (nn a z).2,λa z e=>w.zd a z (nn a e).2⟩,λa z=>z,λa h n=>je λe=>n<|e▸b,λa z=>.inl z,λa h=>.inl h,λa h z=>h (nn a z).2⟩
noncomputable def jhs:D->Option Bool
 | .bl b=>some b
 | _=>none
@[simp] def jiS(b):jhs (.bl b)=some b:=rfl
def KZ(h:jhs d=some b):d=.bl b:=by cases d<;>cases h<;>rfl
noncomputable def vn:D->Option Int
 | .int i=>some i
 | _=>none
@[simp] def intOf_int(i):vn (.int i)=some i:=rfl
def jM(h:vn d=some n):d=.int n:=by cases d<;>cases h<;>rfl
noncomputable def zC:D->Option (List D)
 | .lst true l=>some l
 | _=>none
@[simp] def zU(l):zC (.lst true l)=some l:=rfl
def Y1(h:zC d=some l):d=.lst true l:=by
 cases d with
 | lst o _=>cases o<;>cases h;rfl
 | _=>cases h
noncomputable def jeM:D->Option (List D)
 | .tup l=>some l
 | _=>none
@[simp] def tupOf_tup(l):jeM (.tup l)=some l:=rfl
noncomputable def jeb:D->Option (List KA×List D)
 | .dK true ks l=>some (ks,l)
 | _=>none
@[simp] def dkOf_dK(ks)(l):jeb (.dK true ks l)=some (ks,l):=rfl
def x8(h:jeb d=some p):d=.dK true p.1 p.2:=by
 cases d with
 | dK o _ _=>cases o<;>cases h;rfl
 | _=>cases h
noncomputable def jeB:D->Option (List KA×List D)
 | .dK _ ks l=>some (ks,l)
 | _=>none
@[simp] def dkAny_e(o)(ks)(l):jeB (.dK o ks l)=some (ks,l):=rfl
def uE(h:jeB d=some p):∃ o,d=.dK o p.1 p.2:=by
 cases d with
 | dK o _ _=>cases h;exact⟨o,rfl⟩
 | _=>cases h
noncomputable def jgT:D->Option (List (List KA)×List D)
 | .dT true ks l=>some (ks,l)
 | _=>none
@[simp] def dtOf_dT(ks)(l):jgT (.dT true ks l)=some (ks,l):=rfl
def ui(h:jgT d=some p):d=.dT true p.1 p.2:=by
 cases d with
 | dT o _ _=>cases o<;>cases h;rfl
 | _=>cases h
noncomputable def zr:D->Option (Nat×List Str×List D)
 | .ins true c ns l=>some (c,ns,l)
 | _=>none
@[simp] def insOf_ins(c)(ns)(l):zr (.ins true c ns l)=some (c,ns,l):=rfl
def Yd(h:zr d=some (c,ns,l)):d=.ins true c ns l:=by
 cases d with
 | ins o _ _ _=>cases o<;>cases h;rfl
 | _=>cases h
noncomputable def joe:D->Option (Nat×List Str×List D)
 | .ins _ c ns l=>some (c,ns,l)
 | _=>none
@[simp] def inOf_ins(o)(c)(ns)(l):joe (.ins o c ns l)=some (c,ns,l):=rfl
def jim(h:joe d=some (c,ns,l)):∃ o,d=.ins o c ns l:=by
 cases d with
 | ins o _ _ _=>cases h;exact⟨o,rfl⟩
 | _=>cases h
noncomputable def jgu:D->Option (List D)
 | .lst _ l=>some l
 | _=>none
@[simp] def lsOf_lst(o)(l):jgu (.lst o l)=some l:=rfl
def VR(h:jgu d=some l):∃ o,d=.lst o l:=by
 cases d with
 | lst o _=>cases h;exact⟨o,rfl⟩
 | _=>cases h
def jal(h:jeM d=some l):d=.tup l:=by cases d<;>cases h<;>rfl
noncomputable def jef:List D->Option D
 | [x]=>some x
 | _=>none
def qk(h:jef l=some x):l=[x]:=by
 match l with
 | [_]=>cases h;rfl
noncomputable def two1:List D->Option (D×D)
 | [x,y]=>some (x,y)
 | _=>none
def two1_of(h:two1 l=some p):l=[p.1,p.2]:=by
 match l with
 | [_,_]=>cases h;rfl
def ob{α β:Type}{C:Prop}{o}{f:α->Option β}{b}(e:o.bind f=some b)(k:∀ a,o=some a->f a=some b->C):C:=by
 cases o with
 | none=>cases e
 | some a=>exact k a rfl e
def oc{β:Type}{C:Prop}{c}{x}{b:β}(e:(bif c then x else none)=some b)(k:c=true->x=some b->C):C:=by
 cases c with
 | false=>cases e
 | true=>exact k rfl e
noncomputable abbrev Rh:=List<|Option D
def Slots(R:RC)(Z:Zn)(H:Hp):Rh->St->List Addr->Prop
 | [],σ,O=>σ=[]/\O=[]
 | none::ρ,σ,O=>∃ s σ',σ=s::σ'/\Slots R Z H ρ σ' O
 | some d::ρ,σ,O=>∃ v σ' O1 O2,σ=some v::σ'/\O=O1++O2/\Rep R Z H d v O1/\Slots R Z H ρ σ' O2
theorem Slots.frame(c:∀ a,Z a->Z' a)(f:∀ a,Z a->H' a=H a):∀{ρ}{σ}{O},Slots R Z H ρ σ O->(∀ a∈O,H' a=H a)->Slots R Z' H' ρ σ O
 | [],_,_,h,_=>h
 | none::ρ,_,_,h,b=>by
  obtain⟨s,g,e,r⟩:=h;exact⟨s,g,e,Slots.frame c f r b⟩
 | some d::ρ,_,_,h,b=>by
  obtain⟨v,g,j,k,e,rfl,r1,r2⟩:=h;exact⟨v,g,j,k,e,rfl,r1.frame c f λa i=>b a<|List.mem_append_left _ i,Slots.frame c f r2 λa i=>b a<|U2 _ i⟩
inductive SPut (R:RC) (Z:Zn) (H:Hp) (ρ:Rh) (σ:St) (O:W6) (i:Nat):Prop
 | mk:∀(A P B:W6),O=A++P++B->(∀ d,ρ[i]?=some (some d)->∃ v,σ[i]?=some (some v)/\Rep R Z H d v P) ->
  (∀{Z':Zn}{H':Hp}{d':D}{v':V}{P':W6},Rep R Z' H' d' v' P'->(∀ a,Z a->Z' a)->(∀ a,Z a->H' a=H a)->(∀ a∈A,H' a=H a)->(∀ a∈B,H' a=H a)->Slots R Z' H' (ρ.set i<|some d') (σ.set i<|some v') (A++P'++B)) ->
  Slots R Z H (ρ.set i none) σ (A++B)->SPut R Z H ρ σ O i
theorem Slots.put:∀{ρ}{σ}{O}{i},Slots R Z H ρ σ O->i<ρ.length->SPut R Z H ρ σ O i
 | [],_,_,_,_,hi=>absurd hi<|Nat.not_lt_zero _
 | none::ρ,_,_,0,h,hi=>by
  obtain⟨s,b,rfl,r⟩:=h;refine⟨[],[],_,rfl,λd e=>by simp at e,λq f g k j=>⟨_,b,_,_,rfl,rfl,q,Slots.frame f g r j⟩,⟨s,b,rfl,r⟩⟩
 | some c::ρ,_,_,0,h,hi=>by
  obtain⟨v,b,l,t,rfl,rfl,r1,r2⟩:=h;refine⟨[],l,t,rfl,λd e=>?_,λq f g k j=>⟨_,b,_,_,rfl,rfl,q,Slots.frame f g r2 j⟩,⟨_,b,rfl,r2⟩⟩
  ·have e:c=d:=by simpa using e
   subst e;exact⟨v,rfl,r1⟩
 | none::ρ,_,_,i+1,h,hi=>by
  obtain⟨s,b,rfl,r⟩:=h;obtain⟨A,P,B,rfl,m,n,o⟩:=Slots.put r ⇑hi;refine⟨A,P,B,rfl,λd e=>m d ⇑e,λq f g k j=>⟨s,_,rfl,n q f g k j⟩,⟨s,b,rfl,o⟩⟩
 | some c::ρ,_,_,i+1,h,hi=>by
  obtain⟨v,b,l,t,rfl,rfl,r1,r2⟩:=h;obtain⟨A,P,B,rfl,m,n,o⟩:=Slots.put r2 ⇑hi;refine⟨l++A,P,B,by simp,λd e=>m d ⇑e,λ{w x y z u} q f g k j=>⟨v,_,l,A++u++B,rfl,by simp,r1.frame f g λa p=>k a<|List.mem_append_left _ p,n q f g (λa p=>k a<|U2 _ p) j⟩,⟨v,b,l,A++B,rfl,by simp,r1,o⟩⟩
theorem qc:∀{l:List α}{i}{x},l[i]?=some x->l.set i x=l
 | [],_,_,h=>by simp at h
 | y::l,0,x,h=>by simp at h;subst h;rfl
 | y::l,i+1,x,h=>by rw[List.set_cons_succ,qc ⇑h]
abbrev FE:=Rh->Option (D×Rh)
abbrev FT':=Rh->Option (Bool×Rh)
abbrev FA:=Rh->Option (List D×Rh)
def DE(R:RC)(te:TE)(f:FE):Prop:=∀{σ}{ρ ρ'}{Z}{H}{O}{d},WF Z H O->Slots R Z H ρ σ O->f ρ=some (d,ρ') ->
 ∀{Q},(∀{v}{Z'}{H'}{P O'},Go Z H O Z' H' (P++O')->Rep R Z' H' d v P->Slots R Z' H' ρ' σ O'->Q v H')->te σ H Q
def DT(R:RC)(tt:TT)(f:FT'):Prop:=∀{σ}{ρ ρ'}{Z}{H}{O}{b},WF Z H O->Slots R Z H ρ σ O->f ρ=some (b,ρ') ->
 ∀{Q:Bool->Hp->Prop},(∀{Z'}{H'}{O'},Go Z H O Z' H' O'->Slots R Z' H' ρ' σ O'->Q b H')->tt σ H Q
def DA(R:RC)(ta:TA)(f:FA):Prop:=∀{σ}{ρ ρ'}{Z}{H}{O}{ds},WF Z H O->Slots R Z H ρ σ O->f ρ=some (ds,ρ') ->
 ∀{Q:List V->Hp->Prop},(∀{vs}{Z'}{H'}{P O'},Go Z H O Z' H' (P++O')->Reps R Z' H' ds vs P->Slots R Z' H' ρ' σ O'->Q vs H')->ta σ H Q
def DC(R:RC)(r:List V->Hp->VK->Prop)(g:List D->Option D):Prop:=∀{Z}{H}{xs}{d}{vs}{O},WF Z H O->Reps R Z H xs vs O->g xs=some d ->
 ∀{Q},(∀{w}{Z'}{H'}{P},Go Z H O Z' H' P->Rep R Z' H' d w P->Q w H')->r vs H Q
inductive Out where
 | nx (ρ:Rh) | rt (d:D) (ρ:Rh) | bk (ρ:Rh) | ct (ρ:Rh)
abbrev FS:=Rh->Option Out
noncomputable def Out.thn:Out->FS->Option Out
 | .nx ρ,g=>g ρ
 | .rt d ρ,_=>some<|.rt d ρ
 | .bk ρ,_=>some<|.bk ρ
 | .ct ρ,_=>some<|.ct ρ
@[simp] def thn_nx(ρ)(g):(Out.nx ρ).thn g=g ρ:=rfl
@[simp] def thn_rt(d)(ρ)(g):(Out.rt d ρ).thn g=some (.rt d ρ):=rfl
@[simp] def thn_bk(ρ)(g):(Out.bk ρ).thn g=some (.bk ρ):=rfl
@[simp] def thn_ct(ρ)(g):(Out.ct ρ).thn g=some (.ct ρ):=rfl
noncomputable def Out.val:Out->Option D
 | .rt d _=>some d
 | .nx _=>some .non
 | _=>none
@[simp] def val_rt(d)(ρ):(Out.rt d ρ).val=some d:=rfl
@[simp] def val_nx(ρ):(Out.nx ρ).val=some .non:=rfl
noncomputable def Out.loop:Out->FS->Option Out
 | .nx ρ,g=>g ρ
 | .ct ρ,g=>g ρ
 | .bk ρ,_=>some<|.nx ρ
 | .rt d ρ,_=>some<|.rt d ρ
@[simp] def VJ(ρ)(g):(Out.nx ρ).loop g=g ρ:=rfl
@[simp] def loop_ct(ρ)(g):(Out.ct ρ).loop g=g ρ:=rfl
@[simp] def loop_bk(ρ)(g):(Out.bk ρ).loop g=some (.nx ρ):=rfl
@[simp] def loop_rt(d)(ρ)(g):(Out.rt d ρ).loop g=some (.rt d ρ):=rfl
abbrev PF:=Rh->Option D
noncomputable def pV(i:Nat):PF:=λρ=>match ρ[i]? with
 | some (some d)=>some d
 | _=>none
def qo(h:pV i ρ=some d):ρ[i]?=some (some d):=by
 unfold pV at h;split at h
 ·lia
 ·cases h
def Keep(pm:List Nat)(σ σ':St):Prop:=∀ i∈pm,σ'[i]?=σ[i]?
def OutOk(R:RC)(pm:List Nat)(Z:Zn)(H:Hp)(O:W6)(σ:St)(D':Ends):Out->Prop
 | .nx ρ'=>∀{σ'}{Z'}{H'}{O'},Go Z H O Z' H' O'->Slots R Z' H' ρ' σ' O'->Keep pm σ σ'->D'.nx σ' H'
 | .bk ρ'=>∀{σ'}{Z'}{H'}{O'},Go Z H O Z' H' O'->Slots R Z' H' ρ' σ' O'->Keep pm σ σ'->D'.bk σ' H'
 | .ct ρ'=>∀{σ'}{Z'}{H'}{O'},Go Z H O Z' H' O'->Slots R Z' H' ρ' σ' O'->Keep pm σ σ'->D'.ct σ' H'
 | .rt d ρ'=>∀{v}{σ'}{Z'}{H'}{P O'},Go Z H O Z' H' (P++O')->Rep R Z' H' d v P->Slots R Z' H' ρ' σ' O'->Keep pm σ σ'->D'.rt v H'
def DS(R:RC)(pm:List Nat)(ts:TS)(f:FS):Prop:=∀{σ}{ρ}{Z}{H}{O}{o},WF Z H O->Slots R Z H ρ σ O->f ρ=some o->∀{D'},OutOk R pm Z H O σ D' o->ts D' σ H
def DG(R:RC)(pm:List Nat)(tg:TG)(f:D->Rh->Option Rh):Prop:=∀{σ}{ρ ρ'}{Z}{H}{O P}{d}{v},WF Z H (P++O)->Rep R Z H d v P->Slots R Z H ρ σ O->f d ρ=some ρ' ->
 ∀{Q:St->Hp->Prop},(∀{σ'}{Z'}{H'}{O'},Go Z H (P++O) Z' H' O'->Slots R Z' H' ρ' σ' O'->Keep pm σ σ'->Q σ' H')->tg v σ H Q
def Keep.refl(pm)(σ):Keep pm σ σ:=λ_ _=>rfl
def Keep.trans(h:Keep pm σ σ')(k:Keep pm σ' σ''):Keep pm σ σ'':=λi hi=>(k i hi).trans (h i hi)
def Keep.set(h:i∉pm):Keep pm σ (σ.set i x):=λj a=>by
 have ne:i≠j:=λe=>h ∅;rw[List.getElem?_set,if_neg ne]
@[simp] def dMv(i:Nat)(ρ:Rh):Option (D×Rh):=(pV i ρ).bind λd=>some (d,ρ.set i none)
def jnh:DE R (j7 i) (dMv i):=by
 intro σ ρ o Z H O d w h e Q k;refine ob e λc f e=>?_;have f:=qo f;obtain⟨A,P,B,rfl,l,p,m⟩:=h.put (L9.mp f).1;obtain⟨v,n,r⟩:=l c f;cases e;refine⟨v,n,k ((Go.refl w).drop (λa q=>?_) ?_) r m⟩
 ·simp at q ⊢;rcases q with q | q | q<;>simp[q]
 ·have nd:=w.nd;simp only[U8,N1] at nd ⊢;exact⟨nd.1.2.1,⟨nd.1.1,nd.2.1,λa g b j=>nd.2.2 a (.inl g) b j⟩,λa g b j e=>j.elim (λq=>nd.1.2.2 b q a g e.symm) λq=>nd.2.2 a (.inr g) b q e⟩
def jhk(b:Go Z H O Z' H'<|P1++O1)(g2:Go Z' H' O1 Z'' H''<|P2++O2):Go Z H O Z'' H'' (P1++(P2++O2))/\(∀ a,Z' a->Z'' a)/\(∀ a,Z' a->H'' a=H' a)/\∀ a∈P1,H'' a=H' a:=by
 have w:WF Z' H' (P1++O1++[]):=by simpa using b.wf
 refine⟨b.trans<|by simpa using(g2.frame w),g2.zz,(g2.zH b.wf.right),(Go.keepA w g2).1⟩
@[simp] def dOp(g:D->D->Option D)(fa:FE)(fb:FE)(ρ:Rh):Option (D×Rh):=(fa ρ).bind λr=>(fb r.2).bind λt=>(g r.1 t.1).bind λz=>some (z,t.2)
@[simp] def jjk(ρ:Rh):Option (List D×Rh):=some ([],ρ)
@[simp] def kB(fa:FE)(fr:FA)(ρ:Rh):Option (List D×Rh):=(fa ρ).bind λx=>(fr x.2).bind λy=>some (x.1::y.1,y.2)
def jkX:DA R Yi jjk:=by
 intro σ ρ a Z H O d w h e Q k;cases e;exact k (Go.refl w) Reps.empty h
def jiQ(b:DE R ta fa)(c:DA R tr fr):DA R (jE ta tr) (kB fa fr):=by
 intro σ ρ j Z H O d w h e Q k;refine ob e λp f e=>?_;obtain⟨x,l⟩:=p;refine ob e λp e2 e=>?_;obtain⟨m,n⟩:=p;cases e;refine b w h f λ{v o q r s} a r1 s1=>(c a.wf.right s1 e2 λ{t u y z A} g2 r2 s2=>?_);obtain⟨g3,zz,g,i⟩:=jhk a g2;exact k ⇑g3 (.cons (r1.frame zz g i) r2) s2
noncomputable def dCB(g:List D->Option D)(fa:FA):FE:=λρ=>(fa ρ).bind λp5=>(g p5.1).bind λz=>some (z,p5.2)
def jnd(c:DC R r g)(f:DA R ta fa):DE R (tCB r ta) (dCB g fa):=by
 intro σ ρ q Z H O d w h e Q k;refine ob e λp i e=>?_;obtain⟨x,s⟩:=p;refine ob e λz e3 e=>?_;cases e;refine f w h i λ{v j l m n} a r1 s1=>(c a.wf.left r1 e3 λ{t Z3 u y} g4 o=>?_);have b:WF j l ([]++m++n):=by simpa using a.wf
 refine k (a.trans<|by simpa using(g4.frame b)) o<|s1.frame g4.zz (g4.zH a.wf.left) (Go.keepA b g4).2
def jgy(fa:FA):FE:=dCB (λxs=>bif decide (xs.length<=1000) then some (.tup xs) else none) fa
def jkO(h:n<=1000):n<=sizeLine:=Nat.le_of_lt<|jdH h
def Rep.tupNew(w:WF Z H O)(b:H p=none)(r:Reps R Z H l vs O):Rep R (λa=>Z a\/a=p) (upd H p<|.tup vs) (.tup l) (.ref p) O:=by
 have ne:∀ a,H a≠none->a≠p:=λa h e=>h<|e▸b;exact⟨p,vs,rfl,.inl ⟨.inr rfl,.inl jk⟩,r.frame (λa z=>.inl z) (λa z=>je<|ne a<|w.zd a z) λa h=>je<|ne a<|w.od a h⟩
def Rep.lstNew(w:WF Z H O)(b:H p=none)(r:Reps R Z H l vs O):Rep R Z (upd H p<|.lst vs) (.lst true l) (.ref p) (p::O):=by
 have ne:∀ a,H a≠none->a≠p:=λa h e=>h<|e▸b;exact⟨p,vs,O,rfl,r.frame (λa z=>z) (λa z=>je<|ne a<|w.zd a z) λa h=>je<|ne a<|w.od a h,jk,rfl⟩
def jku(c:DA R ta fa):DE R (uA ta) (jgy fa):=by
 refine jnd ?_ c;intro Z H f d vs O w r e Q k;dsimp only at e;by_cases a:f.length<=1000
 ·rw[X0 a,cond_true] at e;cases e;exact⟨by rw[r.length];exact jkO a,λp b=>k (Go.newF w b)<|Rep.tupNew w b r⟩
 ·lia
def Rep.bl_of(r:Rep R Z H (.bl b) v O):v=.bl b/\O=[]:=by rw[Rep] at r;exact r
def Rep.bl_mk:Rep R Z H (.bl b) (.bl b) []:=by rw[Rep];exact⟨rfl,rfl⟩
def OutOk.pre(g:Go Z H O Z1 H1 O1)(kp:Keep pm σ σ1)(k:OutOk R pm Z H O σ D' o):OutOk R pm Z1 H1 O1 σ1 D' o:=by
 cases o with
 | nx ρ=>exact λg2 s2 a=>k (g.trans g2) s2<|kp.trans a
 | bk ρ=>exact λg2 s2 a=>k (g.trans g2) s2<|kp.trans a
 | ct ρ=>exact λg2 s2 a=>k (g.trans g2) s2<|kp.trans a
 | rt d ρ=>exact λg2 r2 s2 a=>k (g.trans g2) r2 s2<|kp.trans a
@[simp] def jK(ρ:Rh):Option Out:=some<|.nx ρ
noncomputable def jh(f g:FS):FS:=λρ=>match f ρ with
 | some (.nx ρ1)=>g ρ1
 | o=>o
@[simp] def jgx:jh f g ρ=(f ρ).bind λo=>o.thn g:=by
 unfold jh;cases h:f ρ with
 | none=>rfl
 | some o=>cases o<;>rfl
def jhE:DS R pm jhL jK:=by
 intro σ ρ Z H O o w h e a k;cases e;exact k (Go.refl w) h<|Keep.refl _ _
def jkJ(c:DS R pm t f)(i:DS R pm u g):DS R pm (jnt t u) (jh f g):=by
 intro σ ρ Z H O o w h e n k;rw[jgx] at e;refine ob e λj l e=>c w h l ?_;cases j with
 | nx a=>exact λ{p q r s} b s1 m=>i b.wf s1 e<|k.pre b m
 | bk a=>cases e;exact k
 | ct a=>cases e;exact k
 | rt d a=>cases e;exact k
@[simp] def sBreak(ρ:Rh):Option Out:=some<|.bk ρ
@[simp] def sCont(ρ:Rh):Option Out:=some<|.ct ρ
@[simp] def YU(fe:FE)(ρ:Rh):Option Out:=(fe ρ).bind λx=>some<|.nx x.2
def jhz(a:DE R ta fa):DS R pm (Ys ta) (YU fa):=by
 intro σ ρ Z H O o w h e d k;refine ob e λp b e=>?_;obtain⟨x,f⟩:=p;cases e;exact a w h b λc r1 s1=>k c.dropL s1<|Keep.refl _ _
@[simp] def yo(fe:FE)(ρ:Rh):Option Out:=(fe ρ).bind λx=>some<|.rt x.1 x.2
def jkG(a:DE R ta fa):DS R pm (jnZ ta) (yo fa):=by
 intro σ ρ Z H O o w h e d k;refine ob e λp b e=>?_;obtain⟨x,f⟩:=p;cases e;exact a w h b λc r1 s1=>k c r1 s1<|Keep.refl _ _
@[simp] def sRetN(ρ:Rh):Option Out:=some<|.rt .non ρ
@[simp] def sIf(ft:FT')(f:FS)(g:FS)(ρ:Rh):Option Out:=(ft ρ).bind λx=>bif x.1 then f x.2 else g x.2
def jnU(b:DT R tt ft)(d:DS R pm t f)(i:DS R pm u g):DS R pm (jn3 tt t u) (sIf ft f g):=by
 intro σ ρ Z H O o w h e l k;refine ob e λp j e=>?_;obtain⟨c,m⟩:=p;refine b w h j λ{n q r} a s1=>?_;cases c with
 | true=>exact jgm<|d a.wf s1 e<|k.pre a<|Keep.refl _ _
 | false=>exact jgH<|i a.wf s1 e<|k.pre a<|Keep.refl _ _
@[simp] def sNever(ρ:Rh):Option Out:=none
@[simp] def jd(pm:List Nat)(i:Nat)(d:D)(ρ:Rh):Option Rh:=bif decide (i<ρ.length)&&!decide (i∈pm) then some (ρ.set i<|some d) else none
def Vx:DG R pm (vD i) (jd pm i):=by
 intro σ ρ l Z H O P d v w r h e Q k;unfold jd at e;by_cases hi:i<ρ.length
 ·by_cases g:i∈pm
  ·lia
  ·rw[X0 hi,X1 g] at e;cases e;obtain⟨A,m,B,rfl,n,j,o⟩:=h.put hi;refine k ((Go.refl w).drop (λa q=>?_) ?_) (j r (λ_ z=>z) (λ_ _=>rfl) (λ_ _=>rfl)<|λ_ _=>rfl)<|Keep.set g
   ·simp at q ⊢;rcases q with q | q | q<;>simp[q]
   ·have nd:=w.nd;simp only[U8,N1] at nd ⊢;exact⟨⟨nd.2.1.1.1,nd.1,λa f b c e=>nd.2.2 b c a (.inl<|.inl f) e.symm⟩,nd.2.1.2.1,λa f b c e=>f.elim (λq=>nd.2.1.2.2 a (.inl q) b c e) λq=>nd.2.2 a q b (.inr c) e⟩
 ·lia
@[simp] def ju(fe:FE)(G:D->Rh->Option Rh)(ρ:Rh):Option Out:=(fe ρ).bind λx=>(G x.1 x.2).bind λr=>some<|.nx r
def Q5(b:DE R ta fa)(c:DG R pm tg g):DS R pm (jbt ta tg) (ju fa g):=by
 intro σ ρ Z H O o w h e i k;refine ob e λp d e=>?_;obtain⟨x,j⟩:=p;refine ob e λl e2 e=>?_;cases e;exact b w h d λa r1 s1=>c a.wf r1 s1 e2 λg2 s2 f=>k (Go.trans a g2) s2 f
def DGs(R:RC)(pm:List Nat)(tg:TGs)(f:List D->Rh->Option Rh):Prop:=∀{σ}{ρ ρ'}{Z}{H}{O P}{ds}{vs},WF Z H (P++O)->Reps R Z H ds vs P->Slots R Z H ρ σ O->f ds ρ=some ρ' ->
 ∀{Q:St->Hp->Prop},(∀{σ'}{Z'}{H'}{O'},Go Z H (P++O) Z' H' O'->Slots R Z' H' ρ' σ' O'->Keep pm σ σ'->Q σ' H')->tg vs σ H Q
noncomputable def gN:List D->Rh->Option Rh:=λds ρ=>match ds with
 | []=>some ρ
 | _=>none
noncomputable def gC(g:D->Rh->Option Rh)(gs:List D->Rh->Option Rh):List D->Rh->Option Rh:=λds ρ=>match ds with
 | []=>none
 | d::r=>(g d ρ).bind λρ1=>gs r ρ1
def jiJ:DGs R pm jd9 gN:=by
 intro σ ρ b Z H O P a vs w r h e Q k;cases a with
 | cons _ _=>cases e
 | nil=>
  cases e;obtain⟨rfl,rfl⟩:=r;exact⟨rfl,k (Go.refl w) h<|Keep.refl _ _⟩
def jfQ(p:DG R pm t g)(s:DGs R pm u gs):DGs R pm (qG t u) (gC g gs):=by
 intro σ ρ E Z H O P o vs w r h e Q k;cases o with
 | nil=>cases e
 | cons d o=>
  refine ob e λF x e=>?_;obtain⟨v,j,l,c,rfl,rfl,r1,r2⟩:=r;refine⟨v,j,rfl,?_⟩;have w1:WF Z H (c++(l++O)):=w.sub (λa h=>by simp at h ⊢;rcases h with h | h | h<;>simp[h]) (by
   have nd:=w.nd;simp only[U8,N1] at nd ⊢;exact⟨nd.1.2.1,⟨nd.1.1,nd.2.1,λa f b m=>nd.2.2 a (.inl f) b m⟩,λa f b m e=>m.elim (λq=>nd.1.2.2 b q a f e.symm) λq=>nd.2.2 a (.inr f) b q e⟩)
  refine p w1.right r1 h x λ{G y z A} i s1 B=>?_;have w2:WF Z H (c++(l++O)++[]):=by simpa using w1
  have g2:=i.frame w2;simp only[M9] at g2;refine s g2.wf (r2.frame i.zz (i.zH w1.right) (Go.keepA w2 i).1) s1 e λ{I J K L} g3 C D=>?_;have g4:Go Z H (l++c++O) y z (c++A):=⟨g2.wf,g2.zz,λa h n=>g2.fr a h<|by simpa [or_left_comm] using n,(by simpa [or_left_comm] using g2.zn),(by simpa [or_left_comm,or_assoc] using g2.sub),g2.dm⟩;exact k (g4.trans g3) C<|B.trans D
noncomputable def gT(n:Nat)(gs:List D->Rh->Option Rh):D->Rh->Option Rh:=λd ρ=>match d with
 | .tup l=>bif decide (l.length=n) then gs l ρ else none
 | _=>none
def jmw(f:DGs R pm u gs):DG R pm (jed R.K n u) (gT n gs):=by
 intro σ ρ i Z H O P d v w r h e Q k;cases d with
 | tup l=>
  unfold gT at e;dsimp only at e;by_cases b:l.length=n
  ·rw[X0 b,cond_true] at e;obtain⟨a,vs,rfl,g,c⟩:=r;exact⟨a,vs,rfl,g.sq,by rw[c.length];exact b,f w c h e k⟩
  ·lia
 | _=>cases e
abbrev PTf:=Rh->Option Bool
abbrev PAf:=Rh->Option (List D)
mutual
theorem Rep.dom:∀{d:D}{v:V}{O:W6},Rep R Z H d v O->∀ a∈O,H a≠none
 | .non,_,_,h,a,ha=>by rw[Rep] at h;rw[h.2] at ha;cases ha
 | .bl _,_,_,h,a,ha=>by rw[Rep] at h;rw[h.2] at ha;cases ha
 | .int _,_,_,h,a,ha=>by rw[Rep] at h;rw[h.2] at ha;cases ha
 | .str _,_,_,h,a,ha=>by rw[Rep] at h;rw[h.2] at ha;cases ha
 | .dead,_,_,h,a,ha=>by rw[Rep] at h;rw[h] at ha;cases ha
 | .tok _,_,_,h,a,ha=>by rw[Rep] at h;rw[h.2] at ha;cases ha
 | .kt _,_,_,h,a,ha=>by rw[Rep] at h;obtain⟨_,_,_,_,h⟩:=h;rw[h] at ha;cases ha
 | .exc _ _,_,_,h,a,ha=>by rw[Rep] at h;obtain⟨_,_,_,_,_,_,_,h⟩:=h;rw[h] at ha;cases ha
 | .tup l,_,_,h,a,ha=>by
  rw[Rep] at h;obtain⟨b,vs,e,t,r⟩:=h;exact Reps.dom r a ha
 | .lst o l,_,_,h,a,ha=>by
  rw[Rep] at h;obtain⟨b,vs,O',e,r,h⟩:=h;cases o with
  | true=>
   obtain⟨h1,rfl⟩:=h;rcases M4.mp ha with e | e
   ·rw[e,h1];exact λz=>(nomatch z)
   ·exact Reps.dom r a e
  | false=>rw[h.2.2] at ha;cases ha
 | .dK o ks l,_,_,h,a,ha=>by
  rw[Rep] at h;obtain⟨b,vs,O',e,r,hl,hd,h⟩:=h;cases o with
  | true=>
   have h:=(show _=_ from h);subst h;rcases M4.mp ha with e | e
   ·rw[e,hd];exact λz=>(nomatch z)
   ·exact Reps.dom r a e
  | false=>rw[h.2.2] at ha;cases ha
 | .dT o ks l,_,_,h,a,ha=>by
  rw[Rep] at h;obtain⟨b,vs,O',e,r,hl,hd,h⟩:=h;cases o with
  | true=>
   have h:=(show _=_ from h);subst h;rcases M4.mp ha with e | e
   ·rw[e,hd];exact λz=>(nomatch z)
   ·exact Reps.dom r a e
  | false=>rw[h.2.2] at ha;cases ha
 | .ins o c ns l,_,_,h,a,ha=>by
  rw[Rep] at h;obtain⟨b,dx,vs,O',e,r,hl,hd,h⟩:=h;cases o with
  | true=>
   have h:=(show _=_ from h);subst h;rcases M4.mp ha with e | e
   ·rw[e,hd];exact λz=>(nomatch z)
   ·exact Reps.dom r a e
  | false=>rw[h.2.2] at ha;cases ha
theorem Reps.dom:∀{l:List D}{vs:List V}{O:W6},Reps R Z H l vs O->∀ a∈O,H a≠none
 | [],_,_,h,a,ha=>by rw[Reps] at h;rw[h.2] at ha;cases ha
 | d::l,_,_,h,a,ha=>by
  rw[Reps] at h;obtain⟨v,vs,O1,O2,e,rfl,r1,r2⟩:=h;rcases N1.mp ha with q | q
  ·exact Rep.dom r1 a q
  ·exact Reps.dom r2 a q
end
theorem Slots.dom:∀{ρ}{σ}{O},Slots R Z H ρ σ O->∀ a∈O,H a≠none
 | [],_,_,h,a,b=>by rw[h.2] at b;cases b
 | none::ρ,_,_,h,a,b=>by obtain⟨s,c,rfl,r⟩:=h;exact Slots.dom r a b
 | some d::ρ,_,_,h,a,b=>by
  obtain⟨v,c,e,f,rfl,rfl,r1,r2⟩:=h;rcases N1.mp b with q | q
  ·exact r1.dom a q
  ·exact Slots.dom r2 a q
abbrev Zd(Z:Zn)(H:Hp):Prop:=∀ a,Z a->H a≠none
def wf0(z:Zd Z H):WF Z H []:=⟨List.nodup_nil,λa h=>(nomatch h),λa h=>(nomatch h),z⟩
def Go.id(z:Zd Z H):Go Z H [] Z H []:=Go.refl<|wf0 z
def Go.same(g:Go Z H [] Z' H' P):∀ a,H a≠none->H' a=H a:=λa h=>g.fr a h<|λz=>(nomatch z)
def Go.rep(z:Zd Z H)(g:Go Z H [] Z' H' P)(r:Rep R Z H d v O):Rep R Z' H' d v O:=r.frame g.zz (λa h=>g.same a<|z a h) λa h=>g.same a<|r.dom a h
def Go.reps(z:Zd Z H)(g:Go Z H [] Z' H' P)(r:Reps R Z H l vs O):Reps R Z' H' l vs O:=r.frame g.zz (λa h=>g.same a<|z a h) λa h=>g.same a<|r.dom a h
def Go.slots(z:Zd Z H)(g:Go Z H [] Z' H' P)(r:Slots R Z H ρ σ O):Slots R Z' H' ρ σ O:=r.frame g.zz (λa h=>g.same a<|z a h) λa h=>g.same a<|r.dom a h
def Go.pair(g:Go Z H [] Z' H' P)(k:Go Z' H' [] Z'' H'' P2):Go Z H [] Z'' H'' (P++P2):=by
 have w:WF Z' H' (P++[]++[]):=by simpa using g.wf
 exact g.trans (by simpa using(k.frame w))
def Go.to0(g:Go Z H O Z' H' P):Go Z H O Z' H' []:=g.drop (λa h=>(nomatch h)) List.nodup_nil
def Go.widen(w:WF Z H O)(g:Go Z H [] Z' H' P):Go Z H O Z' H' (P++O):=by
 simpa using(g.frame (A:=[]) ⇑w)
def PP(R:RC)(te:TE)(p:PF):Prop:=∀{σ}{ρ}{Z}{H}{O}{d},Zd Z H->Slots R Z H ρ σ O->p ρ=some d ->
 ∀{Q},(∀{v}{Z'}{H'}{P},Go Z H [] Z' H' P->Rep R Z' H' d v P->Q v H')->te σ H Q
def PB(R:RC)(te:TE)(p:PF):Prop:=∀{σ}{ρ}{Z}{H}{O}{d},Zd Z H->Slots R Z H ρ σ O->p ρ=some d ->
 ∀{Q},(∀{v}{Z'}{H'}{P},Go Z H [] Z' H' []->Rep R Z' H' d v P->Q v H')->te σ H Q
def PPs(R:RC)(ta:TA)(p:PAf):Prop:=∀{σ}{ρ}{Z}{H}{O}{ds},Zd Z H->Slots R Z H ρ σ O->p ρ=some ds ->
 ∀{Q:List V->Hp->Prop},(∀{vs}{Z'}{H'}{P},Go Z H [] Z' H' P->Reps R Z' H' ds vs P->Q vs H')->ta σ H Q
def PBs(R:RC)(ta:TA)(p:PAf):Prop:=∀{σ}{ρ}{Z}{H}{O}{ds},Zd Z H->Slots R Z H ρ σ O->p ρ=some ds ->
 ∀{Q:List V->Hp->Prop},(∀{vs}{Z'}{H'}{P},Go Z H [] Z' H' []->Reps R Z' H' ds vs P->Q vs H')->ta σ H Q
def PTt(R:RC)(tt:TT)(p:PTf):Prop:=∀{σ}{ρ}{Z}{H}{O}{b},Zd Z H->Slots R Z H ρ σ O->p ρ=some b ->
 ∀{Q:Bool->Hp->Prop},(∀{Z'}{H'},Go Z H [] Z' H' []->Q b H')->tt σ H Q
def PP.b(h:PP R te p):PB R te p:=λz s e _ k=>h z s e λg r=>k g.to0 r
def PPs.b(h:PPs R te p):PBs R te p:=λz s e _ k=>h z s e λg r=>k g.to0 r
@[simp] def pF(pa:PF)(ρ:Rh):Option D:=(pa ρ).bind λd=>bif frz d then some d else none
def PB.f(h:PB R te p):PP R te (pF p):=by
 intro σ ρ Z H O d z s e Q k;refine ob e λc a e=>oc e λb e=>?_;cases e;exact h z s a λg r=>by
  cases r.nil b;exact k g r
@[simp] def dP(pa:PF)(ρ:Rh):Option (D×Rh):=(pa ρ).bind λd=>some (d,ρ)
@[simp] def dPT(q:PTf)(ρ:Rh):Option (Bool×Rh):=(q ρ).bind λd=>some (d,ρ)
theorem PP.d(h:PP R te p):DE R te (dP p):=by
 intro σ ρ b Z H O d w s e Q k;refine ob e λc a e=>?_;cases e;exact h w.zd s a λg r=>k (g.widen w) r<|g.slots w.zd s
theorem PTt.d(h:PTt R te p):DT R te (dPT p):=by
 intro σ ρ b Z H O d w s e Q k;refine ob e λc a e=>?_;cases e;exact h w.zd s a λg=>k ⇑(g.widen w) (g.slots w.zd s)
@[simp] def pC(d:D)(ρ:Rh):Option D:=some d
abbrev pI(i:Int):PF:=pC<|.int i
abbrev pS(l:List Nat):PF:=pC<|.str l
def jlJ:PB R (j7 i) (pV i):=by
 intro σ ρ Z H O d z s e Q k;unfold pV at e;split at e
 ·rename_i c a;cases e;obtain⟨A,P,B,rfl,b,_⟩:=s.put (L9.mp a).1;obtain⟨v,f,r⟩:=b d a;exact⟨v,f,k (Go.id z) r⟩
 ·cases e
def jno(a:∀ Z H,Rep R Z H d v []):PP R (tC v) (pC d):=by
 intro σ ρ Z H O b z s e Q k;cases e;exact k (Go.id z)<|a Z H
def Rep.int_mk:Rep R Z H (.int i) (.int i) []:=by rw[Rep];exact⟨rfl,rfl⟩
def Rep.str_mk:Rep R Z H (.str s) (.str<|S s) []:=by rw[Rep];exact⟨rfl,rfl⟩
def Rep.non_mk:Rep R Z H .non .non []:=by rw[Rep];exact⟨rfl,rfl⟩
def Rep.int_of(r:Rep R Z H (.int i) v O):v=.int i/\O=[]:=by rw[Rep] at r;exact r
def Rep.str_of(r:Rep R Z H (.str s) v O):v=.str (S s)/\O=[]:=by rw[Rep] at r;exact r
def Rep.non_of(r:Rep R Z H .non v O):v=.non/\O=[]:=by rw[Rep] at r;exact r
def BO(R:RC)(r:R2)(g:D->D->Option D):Prop:=∀{Z}{H}{x y d}{v u}{O1 O2},Zd Z H->Rep R Z H x v O1->Rep R Z H y u O2->g x y=some d ->
 ∀{Q},(∀{w}{Z'}{H'}{P},Go Z H [] Z' H' P->Rep R Z' H' d w P->Q w H')->r v u H Q
def BO'(R:RC)(r:R2)(g:D->D->Option D):Prop:=∀{Z}{H}{x y d}{v u}{O1 O2},Zd Z H->Rep R Z H x v O1->Rep R Z H y u O2->g x y=some d ->
 ∀{Q},(∀{w}{P},Rep R Z H d w P->Q w H)->r v u H Q
def BU(R:RC)(r:V->Hp->VK->Prop)(g:D->Option D):Prop:=∀{Z}{H}{x d}{v}{O},Zd Z H->Rep R Z H x v O->g x=some d ->
 ∀{Q},(∀{w}{Z'}{H'}{P},Go Z H [] Z' H' P->Rep R Z' H' d w P->Q w H')->r v H Q
def BC(R:RC)(r:List V->Hp->VK->Prop)(g:List D->Option D):Prop:=∀{Z}{H}{xs}{d}{vs}{O},Zd Z H->Reps R Z H xs vs O->g xs=some d ->
 ∀{Q},(∀{w}{Z'}{H'}{P},Go Z H [] Z' H' P->Rep R Z' H' d w P->Q w H')->r vs H Q
@[simp] def p2(G:D->D->Option D)(pa:PF)(pb:PF)(ρ:Rh):Option D:=(pa ρ).bind λx=>(pb ρ).bind λy=>G x y
@[simp] def p1(G:D->Option D)(pa:PF)(ρ:Rh):Option D:=(pa ρ).bind G
def zG(b:BO R r g)(c:PB R ta pa)(f:PB R tb pb):PP R (tOp r ta tb) (p2 g pa pb):=by
 intro σ ρ Z H O d z s e Q k;exact ob e λx h e=>ob e λy e2 e=>(c z s h λ{v i j l} a r1=>(f a.wf.zd (a.slots z s) e2 λ{u m n o} g2 r2=>(b g2.wf.zd (g2.rep a.wf.zd r1) r2 e λg3 r3=>k ((a.pair g2).pair g3) r3)))
def jol(b:BO' R r g)(c:PB R ta pa)(f:PB R tb pb):PB R (tOp r ta tb) (p2 g pa pb):=by
 intro σ ρ Z H O d z s e Q k;exact ob e λx h e=>ob e λy e2 e=>(c z s h λ{v i j l} a r1=>(f a.wf.zd (a.slots z s) e2 λ{u m n o} g2 r2=>(b g2.wf.zd (g2.rep a.wf.zd r1) r2 e<|k<|a.pair g2)))
def joD(b:BU R r g)(c:PB R ta pa):PP R (tUn r ta) (p1 g pa):=by
 intro σ ρ Z H O d z s e Q k;exact ob e λx f e=>(c z s f λ{v h i j} a r1=>b a.wf.zd r1 e λg3 r3=>k ⇑(a.pair g3) r3)
@[simp] def pN(ρ:Rh):Option (List D):=some []
@[simp] def ja(pa:PF)(p:PAf)(ρ:Rh):Option (List D):=(pa ρ).bind λx=>(p ρ).bind λxs=>some<|x::xs
def pps_nil:PPs R Yi pN:=by
 intro σ ρ Z H O d z s e Q k;cases e;exact k (Go.id z) Reps.empty
def jeD(b:PP R ta pa)(c:PPs R tr pr):PPs R (jE ta tr) (ja pa pr):=by
 intro σ ρ Z H O d z s e Q k;refine ob e λx f e=>ob e λg e2 e=>?_;cases e;exact b z s f λ{v h i j} a r1=>(c a.wf.zd (a.slots z s) e2 λ{u l m n} g2 r2=>(k (a.pair g2)<|.cons (g2.rep a.wf.zd r1) r2))
def jhp:PBs R Yi pN:=pps_nil.b
def jfc(b:PB R ta pa)(c:PBs R tr pr):PBs R (jE ta tr) (ja pa pr):=by
 intro σ ρ Z H O d z s e Q k;refine ob e λx f e=>ob e λg e2 e=>?_;cases e;exact b z s f λ{v h i j} a r1=>(c a.wf.zd (a.slots z s) e2 λ{u l m n} g2 r2=>(k (a.pair g2)<|.cons (g2.rep a.wf.zd r1) r2))
@[simp] def pCB(G:List D->Option D)(p:PAf)(ρ:Rh):Option D:=(p ρ).bind G
def jji(b:BC R r g)(c:PBs R ta pa):PP R (tCB r ta) (pCB g pa):=by
 intro σ ρ Z H O d z s e Q k;exact ob e λx f e=>(c z s f λ{v h i j} a r1=>b a.wf.zd r1 e λg3 r3=>k ⇑(a.pair g3) r3)
noncomputable def lim(n:Nat):Bool:=decide<|n<=100000
def Ju(h:lim n=true):n<=sizeLine:=N6 (X2 h) (by decide)
def uN(h:lim n=true):n<sizeLine:=X8 (X2 h) (by decide)
@[simp] def jV(p:PAf)(ρ:Rh):Option D:=(p ρ).bind λxs=>bif lim xs.length then some (.tup xs) else none
@[simp] def Jp(p:PAf)(ρ:Rh):Option D:=(p ρ).bind λxs=>bif lim xs.length then some (.lst true xs) else none
def jmH(c:PPs R ta pa):PP R (uA ta) (jV pa):=by
 intro σ ρ Z H O d z s e Q k;refine ob e λh f e=>oc e λg e=>?_;cases e;exact c z s f λ{v i j l} a r1=>⟨by rw[r1.length];exact Ju g,λp b=>k (a.trans<|Go.newF a.wf b)<|Rep.tupNew a.wf b r1⟩
def jl3(c:PPs R ta pa):PP R (jm5 ta) (Jp pa):=by
 intro σ ρ Z H O d z s e Q k;refine ob e λh f e=>oc e λg e=>?_;cases e;exact c z s f λ{v i j l} a r1=>⟨by rw[r1.length];exact Ju g,λp b=>k (a.trans<|Go.newO a.wf b)<|Rep.lstNew a.wf b r1⟩
@[simp] def jj(pa:PF)(ρ:Rh):Option Bool:=(pa ρ).bind jhs
@[simp] def jba(q:PTf)(q':PTf)(ρ:Rh):Option Bool:=(q ρ).bind λb=>bif b then q' ρ else some false
@[simp] def qOr(q:PTf)(q':PTf)(ρ:Rh):Option Bool:=(q ρ).bind λb=>bif b then some true else q' ρ
@[simp] def jmv(q:PTf)(ρ:Rh):Option Bool:=(q ρ).bind λb=>some<|!b
def jcl(a:PB R ta pa):PTt R (ja1 ta) (jj pa):=by
 intro σ ρ Z H O b z s e Q k;refine ob e λx c e=>?_;cases KZ e;refine a z s c λ{v f g h} d r1=>?_;obtain⟨rfl,rfl⟩:=r1.bl_of;exact⟨b,rfl,k d⟩
def jlC(d:PTt R ta pa)(f:PTt R tb pb):PTt R (jnE ta tb) (jba pa pb):=by
 intro σ ρ Z H O b z s e Q k;refine ob e λc g e=>(d z s g λ{h i} a=>?_);cases c with
 | true=>exact jgm<|f a.wf.zd (a.slots z s) e λg2=>k<|a.pair g2
 | false=>cases e;exact jgH<|k a
def jo7(d:PTt R ta pa)(f:PTt R tb pb):PTt R (tOr ta tb) (qOr pa pb):=by
 intro σ ρ Z H O b z s e Q k;refine ob e λc g e=>(d z s g λ{h i} a=>?_);cases c with
 | true=>cases e;exact jgm<|k a
 | false=>exact jgH<|f a.wf.zd (a.slots z s) e λg2=>k<|a.pair g2
def jib(a:PTt R ta pa):PTt R (joq ta) (jmv pa):=by
 intro σ ρ Z H O b z s e Q k;refine ob e λc d e=>?_;cases e;exact a z s d λ{g h} f=>k f
@[simp] def jg7(pa:PF)(pb:PF)(ρ:Rh):Option D:=(pa ρ).bind λd=>(jhs d).bind λb=>bif b then pb ρ else some (.bl false)
@[simp] def pOr(pa:PF)(pb:PF)(ρ:Rh):Option D:=(pa ρ).bind λd=>(jhs d).bind λb=>bif b then some (.bl true) else pb ρ
@[simp] def jnB(pa:PF)(ρ:Rh):Option D:=(pa ρ).bind λd=>(jhs d).bind λb=>some<|.bl<|!b
def jnk(b:PB R ta pa)(f:PP R tb pb):PP R (jhm ta tb) (jg7 pa pb):=by
 intro σ ρ Z H O d z s e Q k;refine ob e λx g e=>ob e λc e2 e=>?_;cases KZ e2;refine b z s g λ{v h i j} a r1=>?_;obtain⟨rfl,rfl⟩:=r1.bl_of;refine⟨c,rfl,?_⟩;cases c with
 | true=>exact jgm<|f a.wf.zd (a.slots z s) e λg2 r2=>k ⇑(a.pair g2) r2
 | false=>cases e;exact jgH<|k a .bl_mk
def jn7(b:PB R ta pa)(f:PP R tb pb):PP R (jo8 ta tb) (pOr pa pb):=by
 intro σ ρ Z H O d z s e Q k;refine ob e λx g e=>ob e λc e2 e=>?_;cases KZ e2;refine b z s g λ{v h i j} a r1=>?_;obtain⟨rfl,rfl⟩:=r1.bl_of;refine⟨c,rfl,?_⟩;cases c with
 | true=>cases e;exact jgm<|k a .bl_mk
 | false=>exact jgH<|f a.wf.zd (a.slots z s) e λg2 r2=>k ⇑(a.pair g2) r2
def jkE(a:PB R ta pa):PP R (jiY ta) (jnB pa):=by
 intro σ ρ Z H O d z s e Q k;refine ob e λx b e=>ob e λc e2 e=>?_;cases KZ e2;cases e;refine a z s b λ{v g h i} f r1=>?_;obtain⟨rfl,rfl⟩:=r1.bl_of;exact⟨c,rfl,k f .bl_mk⟩
@[simp] def pIf(q:PTf)(pa:PF)(pb:PF)(ρ:Rh):Option D:=(q ρ).bind λb=>bif b then pa ρ else pb ρ
def joz(b:PTt R tt pt)(f:PP R ta pa)(g:PP R tb pb):PP R (tIf tt ta tb) (pIf pt pa pb):=by
 intro σ ρ Z H O d z s e Q k;refine ob e λc h e=>(b z s h λ{i j} a=>?_);cases c with
 | true=>exact jgm<|f a.wf.zd (a.slots z s) e λg2 r2=>k ⇑(a.pair g2) r2
 | false=>exact jgH<|g a.wf.zd (a.slots z s) e λg2 r2=>k ⇑(a.pair g2) r2
@[simp] def pChain(G:D->D->Option D)(G':D->D->Option D)(pa:PF)(pb:PF)(pc:PF)(ρ:Rh):Option D:=(pa ρ).bind λx=>(pb ρ).bind λy=>(G x y).bind λd=>(jhs d).bind λb=>bif b then((pc ρ).bind λw=>G' y w) else some (.bl false)
def jf0(R:RC)(J:It)(Z:Zn)(H:Hp)(xs:List D):Prop:=∀{Z1}{H1},(∀ a,Z a->Z1 a)->(∀ a,Z a->H1 a=H a)->Zd Z1 H1->∀ i:Nat,
 (xs.length<=i->J.stop i H1)/\∀ x,xs[i]?=some x->J.go i H1/\∀ u H2,J.yld i H1 u H2->∃ Z2,Go Z1 H1 [] Z2 H2 []/\Rep R Z2 H2 x u []
def PIt(R:RC)(wi:TI)(p:PAf):Prop:=∀{σ}{ρ}{Z}{H}{O}{xs},Zd Z H->Slots R Z H ρ σ O->p ρ=some xs ->
 ∀{Q:It->Hp->Prop},(∀{J}{Z'}{H'},Go Z H [] Z' H' []->jf0 R J Z' H' xs->Q J H')->wi σ H Q
def jlQ(K:W5)(tl:TE):TI:=λσ H Q=>tl σ H λx H1=>
 (∃ a,x=.ref a/\(∃ xs,SqL K H1 a xs)/\Q (Itl K a) H1)\/(∃ a,x=.ref a/\(∃ xs,SqT K H1 a xs)/\Q (Itt K a) H1) \/ ∃ l,x=.str (S l)/\Q (Its l) H1
def jgP(z:PE X l tl):PI X tg l (jlQ X.K tl):=by
 intro c s σ H Q I h;have m:∀ v s1,EP X c σ (λx f=>(∃ a,x=.ref a/\(∃ g,SqL X.K f a g)/\Q (Itl X.K a) f)\/(∃ a,x=.ref a/\(∃ g,SqT X.K f a g)/\Q (Itt X.K a) f) \/ ∃ l,x=.str (S l)/\Q (Its l) f) v s1->wpAny (model X.prog X.w) X.A (pyIter v) (PIE X c σ tg Q) X.xe s1:=by
  rintro v s1 ⟨x,f,d,r1,B⟩;rcases B with⟨a,rfl,⟨g,n⟩,q⟩ | ⟨a,rfl,⟨g,n⟩,q⟩ | ⟨l,rfl,q⟩
  ·cases r1;obtain⟨r,C,p,D⟩:=d.list n;refine wpAny_pyIter_list p.isList ⟨↥s1,[↥s1],_,_,f,rfl,d.kept λb o e=>L8 _ e,jb1 a _,⟨_,X7 _ rfl,rfl,rfl⟩,λb j=>?_,q⟩;have e:b=↥s1:=by simpa using j
   subst e;exact d.fpOk (M8 _)<|d.hok.fresh<|M8 _
  ·cases r1;obtain⟨r,C,p,D⟩:=d.tuple n;refine wpAny_pyIter_tuple (p) ⟨↥s1,[↥s1],_,_,f,rfl,d.kept λb o e=>L8 _ e,ja7 a _,⟨_,X7 _ rfl,rfl,rfl⟩,λb j=>?_,q⟩;have e:b=↥s1:=by simpa using j
   subst e;exact d.fpOk (M8 _)<|d.hok.fresh<|M8 _
  ·obtain⟨t,rfl⟩:=r1;have k:∀ ty,(ty = "str_ascii_iterator" \/ ty = "str_iterator")->(∀ A:Around,A.handled=none->Walks X.prog X.w A ↥s1 [↥s1] [↥s1] (S l).cps.size (SignAt<|S l) (λi h=>h.IsStrIter ↥s1 ty (S l) t i)) ->
     PIE X c σ tg Q (.ref ↥s1) { s1 with heap:=s1.heap.push {cls:=.type ty,data:=.fields #[.str (S l) t,.int 0 0]} }:=λty u W=>by
    refine⟨↥s1,[↥s1],_,_,f,rfl,d.kept λb o e=>L8 _ e,jfI _ l t ty u W,⟨_,X7 _ rfl,rfl,rfl⟩,λb j=>?_,q⟩;have e:b=↥s1:=by simpa using j
    subst e;exact d.fpOk (M8 _)<|d.hok.fresh<|M8 _
   cases ha:(S l).cps.all (· < 128)
   ·exact wpAny_pyIter_wide ha<|k _ (.inr rfl) λE y=>Walks.strWide y _ (S l) t
   ·exact wpAny_pyIter_ascii ha<|k _ (.inl rfl) λE y=>Walks.strAscii y _ (S l) t
 exact thn (z c s σ H _ I h) m
def Qy:D->Option (List D)
 | .lst _ l=>some<|fzs l
 | .tup l=>some<|fzs l
 | .str s=>some<|s.map λc=>.str [c]
 | _=>none
@[simp] def pIt(pa:PF)(ρ:Rh):Option (List D):=(pa ρ).bind Qy
def jmI(h:FL R Z H a vs)(r:Reps R Z H l vs []):jf0 R (Itl R.K a) Z H l:=by
 intro j o d f zd i;have b:=(h.frame d f).sq;refine⟨λhi=>⟨vs,b,by rw[r.length];exact hi⟩,λx k=>?_⟩;obtain⟨v,g,m⟩:=(r.frame d f λa n=>(nomatch n)).item k;refine⟨⟨vs,v,b,g⟩,λu p c=>?_⟩;obtain⟨rfl,c⟩:=c;have e:=c vs b;rw[g] at e;cases e;exact⟨j,Go.id zd,m⟩
def jmd(h:FT R Z H a vs)(r:Reps R Z H l vs []):jf0 R (Itt R.K a) Z H l:=by
 intro j o d f zd i;have b:=(h.frame d f).sq;refine⟨λhi=>⟨vs,b,by rw[r.length];exact hi⟩,λx k=>?_⟩;obtain⟨v,g,m⟩:=(r.frame d f λa n=>(nomatch n)).item k;refine⟨⟨vs,v,b,g⟩,λu p c=>?_⟩;obtain⟨rfl,c⟩:=c;have e:=c vs b;rw[g] at e;cases e;exact⟨j,Go.id zd,m⟩
def jgO:jf0 R (Its s) Z H (s.map λc=>.str [c]):=by
 intro d g h j zd i;refine⟨λhi=>by show s.length<=i;simpa using hi,λx a=>?_⟩;rw[List.getElem?_map] at a;cases e:s[i]? with
 | none=>rw[e] at a;cases a
 | some c=>
  rw[e] at a;cases a;refine⟨(L9.mp e).1,λu k f=>?_⟩;obtain⟨rfl,l,b,rfl⟩:=f;rw[e] at b;cases b;exact⟨d,Go.id zd,.str_mk⟩
def Go.fz(g:Go Z H [] Z' H' P):Go Z H [] (λa=>Z' a\/a∈P) H' []:=g.trans<|Go.freeze g.wf
def joN(h:PP R te p):PIt R (jlQ R.K te) (pIt p):=by
 intro σ ρ Z H O m z s e Q k;refine ob e λd g e=>(h z s g λ{v i n j} c r1=>?_);have r2:=r1.freeze (Z':=λa=>i a\/a∈j) (λa z=>.inl z) λa z=>.inr z;cases d with
 | lst o l=>
  cases e;obtain⟨a,vs,q,rfl,f,b,rfl,_⟩:=r2;exact .inl ⟨a,rfl,⟨vs,FL.sq b⟩,k c.fz<|jmI b f⟩
 | tup l=>
  cases e;obtain⟨a,vs,rfl,b,f⟩:=r2;exact .inr<|.inl ⟨a,rfl,⟨vs,FT.sq b⟩,k c.fz<|jmd b f⟩
 | str t=>
  cases e;obtain⟨rfl,rfl⟩:=r1.str_of;exact .inr<|.inr ⟨t,rfl,k c jgO⟩
 | _=>cases e
noncomputable def xv(lo:Int)(n:Nat):List D:=(List.range n).map λ(i:Nat)=>D.int<|lo+(i:Int)
def jmC:jf0 R (Itr lo n) Z H (xv lo n):=by
 intro b d e f zd i;refine⟨λhi=>by show n<=i;simpa [xv] using hi,λx a=>?_⟩;unfold xv at a;rw[List.getElem?_map] at a;by_cases hi:i<n
 ·rw[List.getElem?_range hi] at a;cases a;refine⟨hi,λu g c=>?_⟩;obtain⟨rfl,rfl⟩:=c;exact⟨b,Go.id zd,.int_mk⟩
 ·rw[List.getElem?_eq_none ⇑hi] at a;cases a
noncomputable def KQ(i:Int):Bool:=Nat.ble i.natAbs 4611686018427387903
def VP(h:KQ i=true):-(2 ^ 62)<=i/\i<2 ^ 62:=by
 have h:=Nat.le_of_ble_eq_true h;constructor<;>lia
def uu(l:List D):Option (List D):=(jef l).bind λx=>(vn x).bind λj=>bif KQ j then some (xv 0 j.toNat) else none
@[simp] def zR(p:PAf)(ρ:Rh):Option (List D):=(p ρ).bind uu
def Reps.one_of(r:Reps R Z H [d] vs O):∃ v,vs=[v]/\Rep R Z H d v O:=by
 obtain⟨v,a,b,c,rfl,rfl,r1,r2⟩:=r;obtain⟨rfl,rfl⟩:=r2;exact⟨v,rfl,by simpa using r1⟩
def Reps.two_of(r:Reps R Z H [d,e] vs O):Ex4 λv u O1 O2=>An4 (vs=[v,u]) (O=O1++O2) (Rep R Z H d v O1) (Rep R Z H e u O2):=by
 obtain⟨v,a,O1,O2,rfl,rfl,r1,r2⟩:=r;obtain⟨u,rfl,r3⟩:=r2.one_of;exact⟨v,u,O1,O2,rfl,rfl,r1,r3⟩
def jiG(h:PBs R ta p):PIt R (jjh ta) (zR p):=by
 intro σ ρ Z H O d z s e Q k;refine ob e λl b e=>ob e λx e2 e=>ob e λj e3 e=>oc e λa e=>?_;cases e;cases qk e2;cases jM e3;refine h z s b λ{v f g i} c r1=>?_;obtain⟨u,rfl,r2⟩:=r1.one_of;obtain⟨rfl,_⟩:=r2.int_of;exact⟨j,rfl,(VP a).1,(VP a).2,k c jmC⟩
def PGt(R:RC)(pm:List Nat)(tg:TG)(f:D->Rh->Option Rh):Prop:=∀{σ}{ρ ρ'}{Z}{H}{O}{d}{v},Rep R Z H d v []->Slots R Z H ρ σ O->f d ρ=some ρ' ->
 ∀{Q:St->Hp->Prop},(∀{σ'}{O'},(∀ a∈O',a∈O)->(O.Nodup->O'.Nodup)->Slots R Z H ρ' σ' O'->Keep pm σ σ'->Q σ' H)->tg v σ H Q
def jln(R:RC)(pm:List Nat)(tg:TGs)(f:List D->Rh->Option Rh):Prop:=∀{σ}{ρ ρ'}{Z}{H}{O}{ds}{vs},Reps R Z H ds vs []->Slots R Z H ρ σ O->f ds ρ=some ρ' ->
 ∀{Q:St->Hp->Prop},(∀{σ'}{O'},(∀ a∈O',a∈O)->(O.Nodup->O'.Nodup)->Slots R Z H ρ' σ' O'->Keep pm σ σ'->Q σ' H)->tg vs σ H Q
def jfj:PGt R pm (vD i) (jd pm i):=by
 intro σ ρ f Z H O d v r h e Q k;unfold jd at e;by_cases hi:i<ρ.length
 ·by_cases b:i∈pm
  ·lia
  ·rw[X0 hi,X1 b] at e;cases e;obtain⟨A,g,B,rfl,j,c,l⟩:=h.put hi;refine k (λa q=>?_) (λnd=>?_) (c r (λ_ z=>z) (λ_ _=>rfl) (λ_ _=>rfl)<|λ_ _=>rfl)<|Keep.set b
   ·simp at q ⊢;rcases q with q | q<;>simp[q]
   ·grind
 ·lia
def jeS:jln R pm jd9 gN:=by
 intro σ ρ c Z H O b vs r h e Q k;cases b with
 | cons _ _=>cases e
 | nil=>
  cases e;obtain⟨rfl,_⟩:=r;exact⟨rfl,k (λa h=>h) (λh=>h) h<|Keep.refl _ _⟩
def jcm(f:PGt R pm t g)(i:jln R pm u gs):jln R pm (qG t u) (gC g gs):=by
 intro σ ρ w Z H O c vs r h e Q k;cases c with
 | nil=>cases e
 | cons d c=>
  refine ob e λx j e=>?_;obtain⟨v,b,y,z,rfl,e3,r1,r2⟩:=r;obtain⟨rfl,rfl⟩:=List.append_eq_nil_iff.mp e3.symm;exact⟨v,b,rfl,f r1 h j λs1 l m n=>i r2 m e λs2 o p s=>k (λa q=>s1 a<|s2 a q) (λq=>o<|l q) p<|n.trans s⟩
def jj0(f:jln R pm u gs):PGt R pm (jed R.K n u) (gT n gs):=by
 intro σ ρ i Z H O d v r h e Q k;cases d with
 | tup l=>
  unfold gT at e;dsimp only at e;by_cases b:l.length=n
  ·rw[X0 b,cond_true] at e;obtain⟨a,vs,rfl,g,c⟩:=r;exact⟨a,vs,rfl,g.sq,by rw[c.length];exact b,f c h e k⟩
  ·lia
 | _=>cases e
noncomputable def jB(g:D->Rh->Option Rh)(f:FS):List D->FS
 | [],ρ=>some<|.nx ρ
 | x::xs,ρ=>(g x ρ).bind λr=>(f r).bind λo=>o.loop<|jB g f xs
@[simp] def qu(p:PAf)(G:D->Rh->Option Rh)(f:FS)(ρ:Rh):Option Out:=(p ρ).bind λxs=>jB G f xs ρ
def J9{l:List α}{i}(h:l[i]?=some x):l.drop i=x::l.drop (i+1):=by
 obtain⟨hi,rfl⟩:=L9.mp h;exact List.drop_eq_getElem_cons hi
inductive LpF (R:RC) (pm:List Nat) (g:D->Rh->Option Rh) (f:FS) (σ:L2.St) (Z0:Zn) (H0:Hp) (O:W6) (xs:List D) (o:Out) (i m:Nat) (σ':L2.St) (H':Hp):Prop
 | mk:m=xs.length-i->i<=xs.length->∀(ρ':Rh) (Z':Zn) (O':W6),Go Z0 H0 O Z' H' O'->Slots R Z' H' ρ' σ' O'->Keep pm σ σ'->jB g f (xs.drop i) ρ'=some o->LpF R pm g f σ Z0 H0 O xs o i m σ' H'
def jma(hi:PIt R wi p)(M:PGt R pm tg g)(N:DS R pm tb f):DS R pm (jkP wi tg tb) (qu p g f):=by
 intro σ ρ Z H O o w s e D' k;refine ob e λc P e=>(hi w.zd s P λ{J y B} I Q=>?_);have a:Go Z H O y B O:=by simpa using I.widen w
 refine⟨LpF R pm g f σ y B O c o,
  ⟨c.length,rfl,U4 _,ρ,y,O,Go.refl a.wf,I.slots w.zd s,Keep.refl _ _,e⟩,?_⟩
 rintro i m σ' S ⟨rfl,T,ρ',U,K,h,s1,kp,e2⟩;have r:=Q h.zz (h.zH a.wf) h.wf.zd i;by_cases C:i<c.length
 ·right
  have L:c[i]?=some c[i]:=by simp
  obtain⟨go,V⟩:=r.2 _ L;rw[J9 L] at e2;refine ob e2 λρ1 e3 e2=>ob e2 λW X e2=>⟨go,λD n=>∃ b q z,Go y B O q n z/\Slots R q n b D z/\Keep pm σ D/\jB g f (c.drop<|i+1) b=some o,λD n ⟨b,q,z,Y,a2,a3,a4⟩=>⟨c.length-(i+1),by lia,rfl,C,b,q,z,Y,a2,a3,a4⟩,λu n hy=>?_⟩;obtain⟨q,g2,r2⟩:=V u n hy;have t:Go U S K q n K:=by simpa using g2.widen h.wf
  refine M r2 (g2.slots h.wf.zd s1) e3 λ{σ3 O3} sub nd s3 A=>?_;have g3:=(h.trans t).drop sub (nd t.wf.nd);refine N g3.wf s3 X ?_;cases W with
  | nx b=>exact λ{E v F x} g4 j l=>⟨b,v,x,g3.trans g4,j,kp.trans<|A.trans l,e2⟩
  | ct b=>exact λ{E v F x} g4 j l=>⟨b,v,x,g3.trans g4,j,kp.trans<|A.trans l,e2⟩
  | bk b=>cases e2;exact λ{E v F x} g4 j l=>k (a.trans<|g3.trans g4) j<|kp.trans<|A.trans l
  | rt d b=>cases e2;exact λ{v4 E v F P4 x} g4 r4 j l=>k (a.trans<|g3.trans g4) r4 j<|kp.trans<|A.trans l
 ·left
  have G:i=c.length:=by lia
  refine⟨r.1 ∅,?_⟩;rw[G,List.drop_length] at e2;cases e2;exact k (a.trans h) s1 kp
noncomputable def jr(ix:List<|Option Nat)(ρ:Rh):Rh:=ix.map λo=>o.bind λj=>(ρ[j]?).join
def xI(s:Slots R Z H ρ σ O):∀ ix:List (Option Nat),∃ O',Slots R Z H (jr ix ρ) (vq ix σ) O':=by
 intro ix
 induction ix with
 | nil=>
  exact⟨[],rfl,rfl⟩
 | cons o ix a=>
  obtain⟨O',a⟩:=a;show ∃ O',Slots R Z H ((o.bind λj=>(ρ[j]?).join)::jr ix ρ) ((o.bind λj=>(σ[j]?).join)::vq ix σ) O';cases e:o.bind λj=>(ρ[j]?).join with
  | none=>exact⟨O',_,_,rfl,a⟩
  | some d=>
   cases o with
   | none=>cases e
   | some j=>
    have f:(ρ[j]?).join=some d:=e;have e2:ρ[j]?=some (some d):=by grind
    obtain⟨A,P,B,_,b,_⟩:=s.put (L9.mp e2).1;obtain⟨v,c,r⟩:=b d e2;refine⟨P++O',v,_,P,O',?_,rfl,r,a⟩;show((σ[j]?).join::vq ix σ)=some v::vq ix σ;rw[c];rfl
@[simp] def qT(ρ:Rh):Option Bool:=some true
def jiU:PTt R (λ_ H Q=>Q true H) qT:=by
 intro σ ρ Z H O b z s e Q k;cases e;exact k<|Go.id z
noncomputable def jS(g:D->Rh->Option Rh)(q:PTf)(p:PF):List D->Rh->Option (List D)
 | [],_=>some []
 | x::xs,ρ=>(g x ρ).bind λρ1=>(q ρ1).bind λb=>bif b then((p ρ1).bind λy=>(jS g q p xs ρ1).bind λys=>some<|y::ys) else jS g q p xs ρ1
@[simp] def jY(pi:PAf)(G:D->Rh->Option Rh)(q:PTf)(pa:PF)(ix:List<|Option Nat)(ρ:Rh):Option D:=(pi ρ).bind λxs=>bif lim xs.length then((jS G q pa xs<|jr ix ρ).bind λys=>some<|.lst true ys) else none
noncomputable def spP(R:RC)(m:List D->Option D)(n:Nat):Sp:=λvs H Q _=>∃ Z ds d,Zd Z H/\ds.length=n/\Reps R Z H ds vs []/\m ds=some d/\∀{v}{Z'}{H'}{P},Go Z H [] Z' H' P->Rep R Z' H' d v P->Q v H'
def fnP(n:Nat)(f:FS)(ds:List D):Option D:=(f<|ds.map some++List.replicate (n-ds.length) none).bind Out.val
theorem kI:∀ n:Nat,Slots R Z H (List.replicate n none) (List.replicate n none) []
 | 0=>⟨rfl,rfl⟩
 | n+1=>⟨none,_,rfl,kI n⟩
theorem qX:∀{ds}{vs}{O}{ρ}{σ}{P},Reps R Z H ds vs O->Slots R Z H ρ σ P->Slots R Z H (ds.map some++ρ) (vs.map some++σ) (O++P)
 | [],_,_,_,_,_,r,s=>by rw[Reps] at r;obtain⟨rfl,rfl⟩:=r;exact s
 | d::ds,_,_,_,_,_,r,s=>by
  obtain⟨v,a,b,c,rfl,rfl,r1,r2⟩:=r;exact⟨v,_,b,_,rfl,List.append_assoc ..,r1,qX r2 s⟩
def jg5(b:DS R [] ts f)(h:spP R (fnP N.length f) n vs H Q E):ts {nx:=λ_ H'=>Q .non H',rt:=Q} (L2.start N vs) H:=by
 obtain⟨Z,a,d,z,l,r,e,k⟩:=h;have s:Slots R Z H (a.map some++List.replicate (N.length-a.length) none) (L2.start N vs) []:=by
  unfold L2.start;rw[r.length];exact(qX r<|kI<|N.length-a.length)
 refine ob e λo c e=>?_;cases o with
 | rt m i=>cases e;exact b (wf0 z) s c λg j _ _=>k g.dropR j
 | nx i=>cases e;exact b (wf0 z) s c λg _ _=>k g.to0 .non_mk
 | _=>cases e
def jiV(h:spP R m n vs H Q E):vs.length=n:=by
 obtain⟨Z,b,d,z,a,r,_⟩:=h;rw[r.length,a]
mutual
noncomputable def clean:D->Bool
 | .tup l=>yq l
 | .lst o l=>o&&yq l
 | .dK o _ l=>o&&yq l
 | .dT o _ l=>o&&yq l
 | .ins o _ _ l=>o&&yq l
 | .non=>true | .bl _=>true | .int _=>true | .str _=>true | .dead=>true | .tok _=>true | .kt _=>false | .exc _ _=>false
noncomputable def yq:List D->Bool
 | []=>true
 | d::l=>clean d&&yq l
end
mutual
theorem Rep.thaw(ht:∀ a vs,Z a->Rd H a (.tup vs)->Z' a):∀{d:D}{v:V}{O:W6},Rep R Z H d v O->clean d=true->Rep R Z' H d v O
 | .non,_,_,h,_=>by rw[Rep] at h ⊢;exact h
 | .bl _,_,_,h,_=>by rw[Rep] at h ⊢;exact h
 | .int _,_,_,h,_=>by rw[Rep] at h ⊢;exact h
 | .str _,_,_,h,_=>by rw[Rep] at h ⊢;exact h
 | .dead,_,_,h,_=>by rw[Rep] at h ⊢;exact h
 | .tok _,_,_,h,_=>by rw[Rep] at h ⊢;exact h
 | .kt _,_,_,_,f=>by rw[clean] at f;cases f
 | .exc _ _,_,_,_,f=>by rw[clean] at f;cases f
 | .tup l,_,_,h,f=>by
  rw[Rep] at h ⊢;rw[clean] at f;obtain⟨a,vs,e,t,r⟩:=h;refine⟨a,vs,e,?_,Reps.thaw ht r f⟩;rcases t with⟨z,q⟩ | q
  ·exact .inl ⟨ht a vs z q,q⟩
  ·exact .inr q
 | .lst o l,_,_,h,f=>by
  rw[Rep] at h ⊢;rw[clean,M0] at f;obtain⟨a,vs,O',e,r,h⟩:=h;cases f.1;exact⟨a,vs,O',e,Reps.thaw ht r f.2,h⟩
 | .dK o ks l,_,_,h,f=>by
  rw[Rep] at h ⊢;rw[clean,M0] at f;obtain⟨a,vs,O',e,r,h⟩:=h;cases f.1;exact⟨a,vs,O',e,Reps.thaw ht r f.2,h⟩
 | .dT o ks l,_,_,h,f=>by
  rw[Rep] at h ⊢;rw[clean,M0] at f;obtain⟨a,vs,O',e,r,h⟩:=h;cases f.1;exact⟨a,vs,O',e,Reps.thaw ht r f.2,h⟩
 | .ins o c ns l,_,_,h,f=>by
  rw[Rep] at h ⊢;rw[clean,M0] at f;obtain⟨a,dx,vs,O',e,r,h⟩:=h;cases f.1;exact⟨a,dx,vs,O',e,Reps.thaw ht r f.2,h⟩
theorem Reps.thaw(ht:∀ a vs,Z a->Rd H a (.tup vs)->Z' a):∀{l:List D}{vs:List V}{O:W6},Reps R Z H l vs O->yq l=true->Reps R Z' H l vs O
 | [],_,_,h,_=>by rw[Reps] at h ⊢;exact h
 | d::l,_,_,h,f=>by
  rw[Reps] at h ⊢;rw[yq,M0] at f;obtain⟨v,vs,O1,O2,e,rfl,r1,r2⟩:=h;exact⟨v,vs,O1,O2,e,rfl,Rep.thaw ht r1 f.1,Reps.thaw ht r2 f.2⟩
end
mutual
theorem Rep.notTup:∀{d:D}{v:V}{O:W6},Rep R Z H d v O->∀ a∈O,∀ vs,¬ Rd H a (.tup vs)
 | .non,_,_,h,a,ha=>by rw[Rep] at h;rw[h.2] at ha;cases ha
 | .bl _,_,_,h,a,ha=>by rw[Rep] at h;rw[h.2] at ha;cases ha
 | .int _,_,_,h,a,ha=>by rw[Rep] at h;rw[h.2] at ha;cases ha
 | .str _,_,_,h,a,ha=>by rw[Rep] at h;rw[h.2] at ha;cases ha
 | .dead,_,_,h,a,ha=>by rw[Rep] at h;rw[h] at ha;cases ha
 | .tok _,_,_,h,a,ha=>by rw[Rep] at h;rw[h.2] at ha;cases ha
 | .kt _,_,_,h,a,ha=>by rw[Rep] at h;obtain⟨_,_,_,_,h⟩:=h;rw[h] at ha;cases ha
 | .exc _ _,_,_,h,a,ha=>by rw[Rep] at h;obtain⟨_,_,_,_,_,_,_,h⟩:=h;rw[h] at ha;cases ha
 | .tup l,_,_,h,a,ha=>by
  rw[Rep] at h;obtain⟨b,vs,e,t,r⟩:=h;exact Reps.notTup r a ha
 | .lst o l,_,_,h,a,ha=>by
  rw[Rep] at h;obtain⟨b,vs,O',e,r,h⟩:=h;cases o with
  | true=>
   obtain⟨h1,rfl⟩:=h;rcases M4.mp ha with e | e
   ·subst e;rintro ws (q | ⟨_,q⟩)<;>rw[h1] at q<;>cases q
   ·exact Reps.notTup r a e
  | false=>rw[h.2.2] at ha;cases ha
 | .dK o ks l,_,_,h,a,ha=>by
  rw[Rep] at h;obtain⟨b,vs,O',e,r,hl,hd,h⟩:=h;cases o with
  | true=>
   have h:=(show _=_ from h);subst h;rcases M4.mp ha with e | e
   ·subst e;rintro ws (q | ⟨_,q⟩)<;>rw[hd] at q<;>cases q
   ·exact Reps.notTup r a e
  | false=>rw[h.2.2] at ha;cases ha
 | .dT o ks l,_,_,h,a,ha=>by
  rw[Rep] at h;obtain⟨b,vs,O',e,r,hl,hd,h⟩:=h;cases o with
  | true=>
   have h:=(show _=_ from h);subst h;rcases M4.mp ha with e | e
   ·subst e;rintro ws (q | ⟨_,q⟩)<;>rw[hd] at q<;>cases q
   ·exact Reps.notTup r a e
  | false=>rw[h.2.2] at ha;cases ha
 | .ins o c ns l,_,_,h,a,ha=>by
  rw[Rep] at h;obtain⟨b,dx,vs,O',e,r,hl,hd,h⟩:=h;cases o with
  | true=>
   have h:=(show _=_ from h);subst h;rcases M4.mp ha with e | e
   ·subst e;rintro ws (q | ⟨_,q⟩)<;>rw[hd] at q<;>cases q
   ·exact Reps.notTup r a e
  | false=>rw[h.2.2] at ha;cases ha
theorem Reps.notTup:∀{l:List D}{vs:List V}{O:W6},Reps R Z H l vs O->∀ a∈O,∀ vs,¬ Rd H a (.tup vs)
 | [],_,_,h,a,ha=>by rw[Reps] at h;rw[h.2] at ha;cases ha
 | d::l,_,_,h,a,ha=>by
  rw[Reps] at h;obtain⟨v,vs,O1,O2,e,rfl,r1,r2⟩:=h;rcases N1.mp ha with q | q
  ·exact Rep.notTup r1 a q
  ·exact Reps.notTup r2 a q
end
@[simp] def jl(m:List D->Option D)(p:PAf)(ρ:Rh):Option D:=(p ρ).bind λds=>(m<|fzs ds).bind λd=>bif frzs ds||clean d then some d else none
def vw(l):(fzs l).length=l.length:=by rw[qJ,L1]
def jdp(z1:Zd Z H)(r1:Reps R Z H ds vs P1)(e:ds.length=n)(e2:m (fzs ds)=some d)(b:(frzs ds||clean d)=true)
  (k:∀{v}{Z'}{H'}{P},Go Z H [] Z' H' P->Rep R Z' H' d v P->Q v H'):spP R m n (vs++[]) H Q E:=by
 refine⟨λa=>Z a\/a∈P1,fzs ds,d,λa h=>h.elim (z1 a)<|r1.dom a,by rw[vw];exact e,by rw[M9];exact r1.freeze (λa z=>.inl z) λa z=>.inr z,e2,λ{v Z' H' P} g2 r2=>?_⟩;rw[Bool.or_eq_true] at b;rcases b with b | b
 ·cases r1.nil b;exact k ⟨g2.wf,λa z=>g2.zz a<|.inl z,g2.fr,λa z=>(g2.zn a z).imp (λq=>q.resolve_right<|λq=>(nomatch q)) id,g2.sub,g2.dm⟩ r2
 ·refine k (Z':=λa=>Z' a/\(a∉P1\/Z a)) ⟨⟨g2.wf.nd,λa h q=>g2.wf.nz a h q.1,g2.wf.od,λa q=>g2.wf.zd a q.1⟩,λa z=>⟨g2.zz a<|.inl z,.inr z⟩,g2.fr,λa z=>?_,g2.sub,g2.dm⟩<|r2.thaw (λa f za g=>⟨za,?_⟩) b
  ·rcases g2.zn a z.1 with(q | q) | q
   ·lia
   ·lia
   ·lia
  ·by_cases c:a∈P1
   ·exact absurd (Rd.agree (g2.same a<|r1.dom a c).symm g)<|r1.notTup a c f
   ·lia
def jjb(f:PBs R ta p)(g:∀ ρ ds,p ρ=some ds->ds.length=n):PP R (Qt (spP R m n) [] E0 ta) (jl m p):=by
 intro σ ρ Z H O d z s e Q k;refine ob e λds a e=>ob e λc e2 e=>oc e λh e=>?_;cases e;exact f z s a λb r1=>jdp b.wf.zd r1 (g ρ ds a) e2 h λg2 r2=>k ⇑(b.pair g2) r2
@[simp] def sFz(i:Nat)(f:FS)(ρ:Rh):Option Out:=match pV i ρ with | some d=>f (ρ.set i<|some<|fz d) | none=>f ρ
def jnz(h:DS R pm t f):DS R pm t (sFz i f):=by
 intro σ ρ Z H O o w s e l k;unfold sFz at e;split at e
 ·rename_i d hd;have hd:=qo hd;obtain⟨A,P,B,rfl,b,c,_⟩:=s.put (L9.mp hd).1;obtain⟨v,j,r⟩:=b d hd;have g:=(Go.freeze w.mid).frame w;have s2:=c (r.freeze (Z':=λa=>Z a\/a∈P) (λa z=>.inl z) λa z=>.inr z) (λa z=>.inl z) (λ_ _=>rfl) (λ_ _=>rfl)<|λ_ _=>rfl;rw[qc j] at s2;exact h g.wf s2 e<|k.pre g<|Keep.refl _ _
 ·exact h w s e k
def Ja{l m:W6}(h:∀ c,l.count c<=m.count c)(n:m.Nodup):l.Nodup:=List.nodup_iff_count.mpr λc=>N6 (h c)<|List.nodup_iff_count.mp n c
def Vt{l m:W6}(h:∀ c,l.count c<=m.count c):∀ c∈l,c∈m:=λc a=>List.count_pos_iff.mp<|U3 (List.count_pos_iff.mpr a)<|h c
def Go.at(g:Go Z H O Z' H' P)(b:a∉O)(h:H a=some o):H' a=some o:=(g.fr a ∅ b).trans h
def Go.at0(g:Go Z H [] Z' H' P)(h:H a=some o):H' a=some o:=g.at (λz=>nomatch z) h
noncomputable abbrev Ln:=D->Option (D×(D->D))
inductive LnR (R:RC) (Z:Zn) (H:Hp) (ρ:Rh) (σ:L2.St) (O:W6) (tb:TE) (i:Nat) (x:D) (k:D->D):Prop
 | mk:∀(v:V) (A P B:W6),O=A++P++B->Rep R Z H x v P->(∀{Q:VK},Q v H->tb σ H Q) ->
  (∀{Z':Zn}{H':Hp}{x':D}{P':W6},Rep R Z' H' x' v P'->(∀ a,Z a->Z' a)->(∀ a,Z a->H' a=H a)->(∀ a∈A,H' a=H a)->(∀ a∈B,H' a=H a)->Slots R Z' H' (ρ.set i<|some<|k x') σ (A++P'++B))->LnR R Z H ρ σ O tb i x k
def jeg(R:RC)(tb:TE)(i:Nat)(L:Ln):Prop:=∀{σ}{ρ}{Z}{H}{O}{d x}{k},Slots R Z H ρ σ O->ρ[i]?=some (some d)->L d=some (x,k)->LnR R Z H ρ σ O tb i x k
noncomputable def km:Ln:=λd=>some (d,λx=>x)
def Jz:jeg R (j7 i) i km:=by
 intro σ ρ Z H O d x k s h e;cases e;obtain⟨A,P,B,rfl,b,c,_⟩:=s.put (L9.mp h).1;obtain⟨v,a,r⟩:=b _ h;refine⟨v,A,P,B,rfl,r,λq=>⟨v,a,q⟩,λf g j l m=>?_⟩;have q:=c f g j l m;rw[qc a] at q;exact q
inductive OwR (R:RC) (Z:Zn) (H:Hp) (l:List D) (sh:Addr->List V->HO) (sd:Prop) (v:V) (O:W6):Prop
 | mk:∀(a dx:Addr) (vs:List V) (O':W6),v=.ref a->Reps R Z H l vs O'->sd->H a=some (sh dx vs)->O=a::O'->OwR R Z H l sh sd v O
def Own(R:RC)(T:D)(l:List D)(sh:Addr->List V->HO)(sd:Prop):Prop:=∀{Z}{H}{v}{O},Rep R Z H T v O↔OwR R Z H l sh sd v O
def YQ:Own R (.lst true l) l (λ_ vs=>.lst vs) True:=by
 intro Z H v O;exact⟨λh=>by obtain⟨a,vs,b,e,c,d,f⟩:=h;exact⟨a,0,vs,b,e,c,trivial,d,f⟩,λh=>by obtain⟨a,_,vs,b,e,c,_,d,f⟩:=h;exact⟨a,vs,b,e,c,d,f⟩⟩
def jby:Own R (.dK true ks l) l (λ_ vs=>.dK<|(ks.map kaV).zip vs) (ks.length=l.length):=by
 intro Z H v O;exact⟨λh=>by obtain⟨a,vs,b,e,c,h,d,f⟩:=h;exact⟨a,0,vs,b,e,c,h,d,f⟩,λh=>by obtain⟨a,_,vs,b,e,c,h,d,f⟩:=h;exact⟨a,vs,b,e,c,h,d,f⟩⟩
def jfR:Own R (.dT true ks l) l (λ_ vs=>.dT<|(ks.map<|List.map kaV).zip vs) (ks.length=l.length):=by
 intro Z H v O;exact⟨λh=>by obtain⟨a,vs,b,e,c,h,d,f⟩:=h;exact⟨a,0,vs,b,e,c,h,d,f⟩,λh=>by obtain⟨a,_,vs,b,e,c,h,d,f⟩:=h;exact⟨a,vs,b,e,c,h,d,f⟩⟩
def ow_ins:Own R (.ins true c ns l) l (λdx vs=>.ins (R.cls c) dx<|ns.zip vs) (ns.length=l.length):=by
 intro Z H v O;exact⟨λh=>by obtain⟨a,dx,vs,b,e,d,h,f,g⟩:=h;exact⟨a,dx,vs,b,e,d,h,f,g⟩,λh=>by obtain⟨a,dx,vs,b,e,d,h,f,g⟩:=h;exact⟨a,dx,vs,b,e,d,h,f,g⟩⟩
def qN{R}{Z}{H}{C:Prop}{σ}{ρ}{O P0}{i}{tb}{L}{t y}{o}{l}{p}{u}(F:jeg R tb i L)(w:WF Z H<|P0++O)(s:Slots R Z H ρ σ O)(hi:pV i ρ=some t)(e:L t=some (y,o))(G:Own R y l p u)
  (k:∀ a dx vs O',Reps R Z H l vs O'->u->H a=some (p dx vs)->(∀{Q},Q (.ref a) H->tb σ H Q)->(∀{O2 P1}{Z2}{H2}{x'}{l'}{vs'}{sh':Addr->List V->HO}{sd'},Own R x' l' sh' sd'->sd'->Go Z H [] Z2 H2 P1->Reps R Z2 H2 l' vs' O2->(∀ q,O2.count q<=O'.count q+P0.count q+P1.count q) ->
   ∃ O3,Go Z H (P0++O) Z2 (upd H2 a<|sh' dx vs') O3/\Slots R Z2 (upd H2 a<|sh' dx vs') (ρ.set i<|some<|o x') σ O3)->C):C:=by
 obtain⟨v,A,P,B,rfl,r,I,J⟩:=F s (qo hi) e;obtain⟨a,dx,vs,O',rfl,K,hd,M,rfl⟩:=G.mp r;refine k a dx vs O' K hd M I λ{O2 P1 Z2 H2 x' l' vs' sh' sd'} j n g N cnt=>?_;have h:=g.widen w;have nd:=h.wf.nd;have ct:=List.nodup_iff_count.mp nd a;simp only[U7,List.count_cons,if_true] at ct;have pos:∀{m:W6},a∈m->0<m.count a:=List.count_pos_iff.mpr;generalize S:sh' dx vs'=ob;have d:∀ b,Z2 b->upd H2 a ob b=H2 b:=λb c=>je λz=>h.wf.nz a (by simp)<|z▸c;have f:∀ m:List Addr,(∀ b∈m,b∈A++(a::O')++B)->m.count a=0->∀ b∈m,upd H2 a ob b=H b:=λm T U b c=>(je λz=>by subst z;have:=pos c;lia).trans (g.same b<|w.od b<|U2 _<|T b c);have sl:=J (j.mpr ⟨a,dx,vs',O2,rfl,N.frame (λ_ z=>z) d λb c=>je λz=>by subst z;have:=pos c;have:=cnt b;lia,n,by rw[S];exact jk,rfl⟩) g.zz (λx D=>(d x<|g.zz x D).trans (g.same x<|w.zd x D)) (f A (λb c=>by simp[c]) ∅)<|f B (λb c=>by simp[c]) ∅;have E:∀ q,(A++(a::O2)++B).count q<=(P1++(P0++(A++(a::O')++B))).count q:=λq=>by
  have:=cnt q;simp only[U7,List.count_cons];lia
 exact⟨_,(h.trans<|Go.put h.wf<|by simp).drop (Vt E) (Ja E nd),sl⟩
@[simp] def qr(i:Nat)(L:Ln)(pv:PF)(ρ:Rh):Option Out:=(pv ρ).bind λd=>(pV i ρ).bind λt=>(L t).bind λy=>(zC y.1).bind λl=>bif lim l.length then some (.nx<|ρ.set i<|some<|y.2<|.lst true<|l++[d]) else none
def jdA{R}{pm}{i}{tb te}{L}{p}(j:jeg R tb i L)(h:PP R te p):DS R pm (Ys<|tBM R.K "list" Vn tb<|jE te Yi) (qr i L p):=by
 intro σ ρ Z H O o w s e x k;refine ob e λd m e=>ob e λt hi e=>ob e λ⟨y,z⟩ e3 e=>ob e λl n e=>oc e λb e=>?_;cases e;cases Y1 n;refine qN (P0:=[]) j w s hi e3 YQ λa _ vs A f _ g r put=>r ⟨.inl ⟨rfl,vs,SqL.of g⟩,h w.zd s m λ{u B C D} c r1=>?_⟩;obtain⟨E,g3,v⟩:=put YQ trivial c ((c.reps w.zd f).append (.one r1)) λq=>by simp
 exact⟨a,vs,u,rfl,rfl,c.at0 g,by rw[f.length];exact uN b,k g3 v<|Keep.refl _ _⟩
@[simp] def xC(i:Nat)(pa:PF)(ρ:Rh):Option Out:=(pa ρ).bind λd=>(pV i ρ).bind λx=>(zC x).bind λl=>bif lim l.length then some (.nx<|ρ.set i<|some<|.lst true<|l++[d]) else none
def jkL(h:PP R te p):DS R pm (Ys<|tBM R.K "list" Vn (j7 i)<|jE te Yi) (xC i p):=jdA Jz h
def YF(h:OpR X f r)(h':OpR X f r'):OpR X f (λx y H Q=>r x y H Q\/r' x y H Q):=by
 intro a s σ H x y v u Q I b c q;rcases q with q | q
 ·exact h a s σ H x y v u Q I b c q
 ·exact h' a s σ H x y v u Q I b c q
def Rep.lst_of(r:Rep R Z H (.lst o l) v O):Ex3 λa vs O'=>An3 (v=.ref a) (SqX R.K H a vs) (Reps R Z H l vs O'):=by
 obtain⟨a,vs,O',rfl,b,h⟩:=r;cases o with
 | true=>exact⟨a,vs,O',rfl,SqX.of h.1,b⟩
 | false=>exact⟨a,vs,O',rfl,FL.sqx h.1,b⟩
def Rep.tup_of(r:Rep R Z H (.tup l) v O):Ex2 λa vs=>An3 (v=.ref a) (SqT R.K H a vs) (Reps R Z H l vs O):=by
 obtain⟨a,vs,rfl,h,b⟩:=r;exact⟨a,vs,rfl,h.sq,b⟩
def Reps.frozen(r:Reps R Z H l vs O)(f:frzs l=true):Reps R Z H l vs []:=by
 cases r.nil f;exact r
noncomputable def jmJ(i:Int):Bool:=decide<|Builtin.Int.intBits i<=2 ^ 20
def jdY(h:i.natAbs<2 ^ 1000):jmJ i=true:=X0<|jaQ h (by decide)
def jg(x y:D):Option D:=match x with
 | .int i=>(match y with
  | .int j=>some<|.int<|i+j
  | _=>none)
 | .str a=>(match y with
  | .str b=>bif lim (a.length+b.length) then some (.str<|a++b) else none
  | _=>none)
 | .lst _ a=>(match y with
  | .lst _ b=>bif lim (a.length+b.length)&&(frzs a&&frzs b) then some (.lst true<|a++b) else none
  | _=>none)
 | .tup a=>(match y with
  | .tup b=>bif lim (a.length+b.length)&&(frzs a&&frzs b)&&!a.isEmpty then some (.tup<|a++b) else none
  | _=>none)
 | _=>none
def jnP:R2:=λx y H Q=>∃ a b,x=.str (S a)/\y=.str (S b)/\a.length+b.length<=sizeLine/\Q (.str<|S<|a++b) H
def jev(K:W5):R2:=λx y H Q=>rI0 (λi j=>.int<|i+j) x y H Q\/jnP x y H Q\/jlk K x y H Q\/jk4 K x y H Q
def jiz:OpR X (binaryOp .Add) (jev X.K):=YF jmx<|YF jha<|YF jhX jhP
def jmt:BO R (jev R.K) jg:=by
 intro Z H x y d v u E F z g l e Q k;cases x with
 | int i=>
  cases y with
  | int j=>
   cases e;obtain⟨rfl,_⟩:=g.int_of;obtain⟨rfl,_⟩:=l.int_of;exact .inl ⟨i,j,rfl,rfl,k (Go.id z) .int_mk⟩
  | _=>cases e
 | str a=>
  cases y with
  | str b=>
   refine oc e λc e=>?_;cases e;obtain⟨rfl,_⟩:=g.str_of;obtain⟨rfl,_⟩:=l.str_of;exact .inr<|.inl ⟨a,b,rfl,rfl,Ju c,k (Go.id z) .str_mk⟩
  | _=>cases e
 | lst o a=>
  cases y with
  | lst G b=>
   refine oc e λc e=>?_;cases e;simp only[M0] at c;obtain⟨p,vs,I,rfl,m,f⟩:=g.lst_of;obtain⟨q,n,w,rfl,r,rt⟩:=l.lst_of;have A:=(f.frozen c.2.1).append (rt.frozen c.2.2);exact .inr<|.inr<|.inl ⟨p,q,vs,n,rfl,rfl,m,r,by rw[f.length,rt.length];exact Ju c.1,λb h=>k (Go.newO (wf0 z) h)<|Rep.lstNew (wf0 z) h A⟩
  | _=>cases e
 | tup a=>
  cases y with
  | tup b=>
   refine oc e λc e=>?_;cases e;simp only[M0] at c;obtain⟨p,vs,rfl,m,f⟩:=g.tup_of;obtain⟨q,n,rfl,r,rt⟩:=l.tup_of;have s:vs≠[]:=by
    intro B;have:=f.length;rw[B] at this;have t:=List.eq_nil_of_length_eq_zero this.symm;rw[t] at c;simp at c
   refine .inr<|.inr<|.inr ⟨p,q,vs,n,rfl,rfl,m,r,s,by rw[f.length,rt.length];exact Ju c.1.1,(λt=>?_),λ_ b h=>k (Go.newF (wf0 z) h)<|Rep.tupNew (wf0 z) h<|(f.frozen c.1.2.1).append (rt.frozen c.1.2.2)⟩;have C:=List.eq_nil_of_length_eq_zero (by rw[<- rt.length,t];rfl);subst C;rw[M9] at k;have D:=f.nil c.1.2.1;subst D;exact k (Go.id z) g
  | _=>cases e
 | _=>cases e
def two(f:Int->Int->Option D)(x y:D):Option D:=(vn x).bind λi=>(vn y).bind λj=>f i j
def two_of(e:two f x y=some d):Ex2 λi j=>An3 (x=.int i) (y=.int j) (f i j=some d):=ob e λi a e=>ob e λj e2 e=>⟨i,j,jM a,jM e2,e⟩
def qp:D->D->Option D:=two λi j=>some<|.int<|i-j
def jmQ:BO R (rI0 λi j=>.int<|i-j) qp:=by
 intro Z H x y d v u c f z a b e Q k;replace e:=two_of e;obtain⟨i,j,rfl,rfl,e⟩:=e;cases e;obtain⟨rfl,_⟩:=a.int_of;obtain⟨rfl,_⟩:=b.int_of;exact⟨i,j,rfl,rfl,k (Go.id z) .int_mk⟩
def yk(x y:D):Option D:=match y with
 | .int n=>(match x with
  | .int i=>bif jmJ i&&jmJ n then some (.int<|i*n) else none
  | .str a=>bif decide (a.length<=1000)&&(decide (0<=n)&&decide (n<=1000)) then some (.str (List.replicate n.toNat a).flatten) else none
  | _=>none)
 | _=>none
def jjM:R2:=λx y H Q=>rI (λi j=>Builtin.Int.intBits i<=2 ^ 20/\Builtin.Int.intBits j<=2 ^ 20) (λi j=>.int<|i*j) x y H Q \/
 ∃ a n,x=.str (S a)/\y=.int n/\a.length<=1000/\0<=n/\n<=1000/\Q (.str<|S (List.replicate n.toNat a).flatten) H
def jhn:OpR X (binaryOp .Mult) jjM:=YF ji3 jjj
def jlD:BO R jjM yk:=by
 intro Z H x y d v u g h z c f e Q k;cases y with
 | int n=>
  cases x with
  | int i=>
   refine oc e λb e=>?_;cases e;rw[M0] at b;obtain⟨rfl,_⟩:=c.int_of;obtain⟨rfl,_⟩:=f.int_of;exact .inl ⟨i,n,rfl,rfl,⟨X2 b.1,X2 b.2⟩,k (Go.id z) .int_mk⟩
  | str a=>
   refine oc e λb e=>?_;cases e;simp only[M0,decide_eq_true_eq] at b;obtain⟨rfl,_⟩:=c.str_of;obtain⟨rfl,_⟩:=f.int_of;exact .inr ⟨a,n,rfl,rfl,b.1,b.2.1,b.2.2,k (Go.id z) .str_mk⟩
  | _=>cases e
 | _=>cases e
noncomputable def jbl(j:Int):Bool:=decide (0<j)&&decide (j<2 ^ 300)
def jdE(h:jbl j=true):0<j/\j.natAbs.log2<9000:=by
 unfold jbl at h;simp only[M0,decide_eq_true_eq] at h;refine⟨h.1,?_⟩;have a:j.natAbs<2 ^ 300:=by lia
 have b:j.natAbs≠0:=by lia
 have:=(Nat.log2_lt b).mpr a
 lia
def jeE:OpR X (binaryOp .FloorDiv) (rI (λ_ j=>jbl j=true) λi j=>.int<|i/j):=opI λi j t u s Q E a q=>by
 obtain⟨b,c⟩:=jdE a;rw[(Int.fdiv_eq_ediv_of_nonneg i<|Int.le_of_lt b).symm] at q;exact PyProof.Rows.floordiv_int ∅ q (.inl<|PyProof.noPylong_of_log2 c)
def V6:D->D->Option D:=two λi j=>bif jbl j then some (.int<|i/j) else none
def J8:D->D->Option D:=two λi j=>bif decide (0<j) then some (.int<|i%j) else none
def Kh:D->D->Option D:=two λi j=>bif decide (0<=j)&&decide (j<=100)&&decide (i.natAbs<2 ^ 64) then some (.int<|i ^ j.toNat) else none
def jmh:BO R (rI (λ_ j=>jbl j=true) λi j=>.int<|i/j) V6:=by
 intro Z H x y d v u f g z a b e Q k;replace e:=two_of e;obtain⟨i,j,rfl,rfl,e⟩:=e;refine oc e λc e=>?_;cases e;obtain⟨rfl,_⟩:=a.int_of;obtain⟨rfl,_⟩:=b.int_of;exact⟨i,j,rfl,rfl,c,k (Go.id z) .int_mk⟩
def jmf:BO R (rI (λ_ j=>0<j) λi j=>.int<|i%j) J8:=by
 intro Z H x y d v u f g z b c e Q k;replace e:=two_of e;obtain⟨i,j,rfl,rfl,e⟩:=e;by_cases a:0<j
 ·rw[X0 a] at e;cases e;obtain⟨rfl,_⟩:=b.int_of;obtain⟨rfl,_⟩:=c.int_of;exact⟨i,j,rfl,rfl,a,k (Go.id z) .int_mk⟩
 ·lia
def jlR:BO R (rI joV λi j=>.int<|i ^ j.toNat) Kh:=by
 intro Z H x y d v u f g z b c e Q k;replace e:=two_of e;obtain⟨i,j,rfl,rfl,e⟩:=e;refine oc e λa e=>?_;cases e;simp only[M0,decide_eq_true_eq] at a;obtain⟨rfl,_⟩:=b.int_of;obtain⟨rfl,_⟩:=c.int_of;exact⟨i,j,rfl,rfl,⟨a.1.1,by lia,a.2⟩,k (Go.id z) .int_mk⟩
noncomputable def wK:D->Option D
 | .int i=>some<|.int<|-i
 | _=>none
def jk6:BU R (rU λi=>.int<|-i) wK:=by
 intro Z H x d v O z a e Q k;cases x with
 | int i=>
  cases e;obtain⟨rfl,_⟩:=a.int_of;exact⟨i,rfl,k (Go.id z) .int_mk⟩
 | _=>cases e
def opB(g:Int->Int->Bool):D->D->Option D:=two λi j=>some<|.bl<|g i j
def joS:BO R (rI0 λi j=>.bl<|g i j) (opB g):=by
 intro Z H x y d v u c f z a b e Q k;replace e:=two_of e;obtain⟨i,j,rfl,rfl,e⟩:=e;cases e;obtain⟨rfl,_⟩:=a.int_of;obtain⟨rfl,_⟩:=b.int_of;exact⟨i,j,rfl,rfl,k (Go.id z) .bl_mk⟩
abbrev jj8:D->D->Option D:=opB λi j=>decide<|i<j
abbrev Yj:D->D->Option D:=opB λi j=>decide<|j<i
abbrev jnq:D->D->Option D:=opB λi j=>decide<|j<=i
noncomputable def qF:D->Bool
 | .non=>true | .bl _=>true | .int _=>true | .str _=>true
 | _=>false
noncomputable def eqF:D->D->Bool
 | .non,y=>match y with | .non=>true | _=>false
 | .bl a,y=>match y with | .bl b=>a==b | _=>false
 | .int a,y=>match y with | .int b=>a==b | _=>false
 | .str a,y=>match y with | .str b=>a==b | _=>false
 | _,_=>false
noncomputable def QJ:D->D->Bool
 | .bl _,.int _=>false
 | .int _,.bl _=>false
 | _,_=>true
def jdh(d:Rep R Z H x v O1)(c:Rep R Z H y u O2)(h:(qF x&&qF y&&QJ x y)=true):jog v u=true/\decide (v=u)=eqF x y:=by
 cases x with
 | non=>
  obtain⟨rfl,_⟩:=d.non_of;cases y with
  | non=>obtain⟨rfl,_⟩:=c.non_of;exact⟨rfl,rfl⟩
  | bl b=>obtain⟨rfl,_⟩:=c.bl_of;exact⟨rfl,rfl⟩
  | int b=>obtain⟨rfl,_⟩:=c.int_of;exact⟨rfl,rfl⟩
  | str b=>obtain⟨rfl,_⟩:=c.str_of;exact⟨rfl,rfl⟩
  | _=>cases h
 | bl a=>
  obtain⟨rfl,_⟩:=d.bl_of;cases y with
  | non=>obtain⟨rfl,_⟩:=c.non_of;exact⟨rfl,rfl⟩
  | bl b=>obtain⟨rfl,_⟩:=c.bl_of;exact⟨rfl,by rw[jct];rfl⟩
  | str b=>obtain⟨rfl,_⟩:=c.str_of;exact⟨rfl,rfl⟩
  | _=>cases h
 | int a=>
  obtain⟨rfl,_⟩:=d.int_of;cases y with
  | non=>obtain⟨rfl,_⟩:=c.non_of;exact⟨rfl,rfl⟩
  | int b=>obtain⟨rfl,_⟩:=c.int_of;exact⟨rfl,by rw[ub];rfl⟩
  | str b=>obtain⟨rfl,_⟩:=c.str_of;exact⟨rfl,rfl⟩
  | _=>cases h
 | str a=>
  obtain⟨rfl,_⟩:=d.str_of;cases y with
  | non=>obtain⟨rfl,_⟩:=c.non_of;exact⟨rfl,rfl⟩
  | bl b=>obtain⟨rfl,_⟩:=c.bl_of;exact⟨rfl,rfl⟩
  | int b=>obtain⟨rfl,_⟩:=c.int_of;exact⟨rfl,rfl⟩
  | str b=>
   obtain⟨rfl,_⟩:=c.str_of;refine⟨rfl,?_⟩;rw[Bool.eq_iff_iff];simp[eqF,jnO]
  | _=>cases h
 | _=>cases h
def inL(x:D)(l:List D):Bool:=l.any λy=>eqF y x
def jhc(x:D)(l:List D):Bool:=qF x&&l.all λy=>qF y&&QJ y x
def Y2(neg:Bool)(x y:D):Option D:=match y with
 | .str s=>(match x with
  | .str [c]=>some<|.bl<|neg != decide (c∈s)
  | _=>none)
 | .lst _ l=>bif jhc x l then some (.bl<|neg != inL x l) else none
 | .tup l=>bif jhc x l then some (.bl<|neg != inL x l) else none
 | _=>none
def Reps.flat(c:Rep R Z H x v P)(d:qF x=true):∀{l}{vs}{O},Reps R Z H l vs O->(l.all λy=>qF y&&QJ y x)=true->Vk v=true/\vs.all Vk=true/\inV v vs=inL x l:=by
 intro l
 induction l with
 | nil=>
  intro _ _ h _;obtain⟨rfl,_⟩:=h;refine⟨?_,rfl,rfl⟩;cases x with
  | non=>obtain⟨rfl,_⟩:=c.non_of;rfl
  | bl b=>obtain⟨rfl,_⟩:=c.bl_of;rfl
  | int b=>obtain⟨rfl,_⟩:=c.int_of;rfl
  | str b=>obtain⟨rfl,_⟩:=c.str_of;rfl
  | _=>cases d
 | cons y l e=>
  intro _ _ h f;obtain⟨u,vs,k,m,rfl,rfl,r1,r2⟩:=h;rw[List.all_cons,M0] at f;obtain⟨g,i,j⟩:=e r2 f.2;have key:Vk u=true/\eqV u v=eqF y x:=by
   cases y with
   | non=>
    obtain⟨rfl,_⟩:=r1.non_of;cases x with
    | non=>obtain⟨rfl,_⟩:=c.non_of;exact⟨rfl,rfl⟩
    | bl b=>obtain⟨rfl,_⟩:=c.bl_of;exact⟨rfl,rfl⟩
    | int b=>obtain⟨rfl,_⟩:=c.int_of;exact⟨rfl,rfl⟩
    | str b=>obtain⟨rfl,_⟩:=c.str_of;exact⟨rfl,rfl⟩
    | _=>cases d
   | bl a=>
    obtain⟨rfl,_⟩:=r1.bl_of;cases x with
    | non=>obtain⟨rfl,_⟩:=c.non_of;exact⟨rfl,rfl⟩
    | bl b=>obtain⟨rfl,_⟩:=c.bl_of;exact⟨rfl,rfl⟩
    | str b=>obtain⟨rfl,_⟩:=c.str_of;exact⟨rfl,rfl⟩
    | int b=>exact absurd f.1 (by simp[QJ])
    | _=>cases d
   | int a=>
    obtain⟨rfl,_⟩:=r1.int_of;cases x with
    | non=>obtain⟨rfl,_⟩:=c.non_of;exact⟨rfl,rfl⟩
    | int b=>obtain⟨rfl,_⟩:=c.int_of;exact⟨rfl,rfl⟩
    | str b=>obtain⟨rfl,_⟩:=c.str_of;exact⟨rfl,rfl⟩
    | bl b=>exact absurd f.1 (by simp[QJ])
    | _=>cases d
   | str a=>
    obtain⟨rfl,_⟩:=r1.str_of;cases x with
    | non=>obtain⟨rfl,_⟩:=c.non_of;exact⟨rfl,rfl⟩
    | bl b=>obtain⟨rfl,_⟩:=c.bl_of;exact⟨rfl,rfl⟩
    | int b=>obtain⟨rfl,_⟩:=c.int_of;exact⟨rfl,rfl⟩
    | str b=>
     obtain⟨rfl,_⟩:=c.str_of;refine⟨rfl,?_⟩;rw[Bool.eq_iff_iff];simp[eqF,eqV,jnO]
    | _=>cases d
   | _=>exact absurd f.1 (by simp[qF])
  refine⟨g,by rw[List.all_cons,key.1,i];rfl,?_⟩;show(eqV u v||inV v vs)=(eqF y x||inL x l);rw[key.2,j]
def jpS(neg:Bool):R2:=λx y H Q=>∃ c l,x=.str (S [c])/\y=.str (S l)/\Q (.bl<|if neg then !decide (c∈l) else decide (c∈l)) H
def jj9(K:W5)(neg:Bool):R2:=λx y H Q=>jpS neg x y H Q\/rIn K neg x y H Q
def jlc:OpR X (compareOp .In) (jj9 X.K false):=YF jmO jcc
def jcB:OpR X (compareOp .NotIn) (jj9 X.K true):=YF jdZ xu
def wH(a b):(if a=true then !b else b)=(a != b):=by cases a<;>cases b<;>rfl
def jkW:BO R (jj9 R.K neg) (Y2 neg):=by
 intro Z H x y d v u q r z b g e Q k;cases y with
 | str s=>
  cases x with
  | str t=>
   match t,e,b with
   | [c],e,b=>
    cases e;obtain⟨rfl,_⟩:=b.str_of;obtain⟨rfl,_⟩:=g.str_of;refine .inl ⟨c,s,rfl,rfl,?_⟩;rw[wH];exact k (Go.id z) .bl_mk
   | [],e,b=>cases e
   | _::_::_,e,b=>cases e
  | _=>cases e
 | lst o l=>
  have f:=e;refine oc f λa f=>?_;cases f;unfold jhc at a;rw[M0] at a;obtain⟨p,vs,w,rfl,h,i⟩:=g.lst_of;obtain⟨j,m,n⟩:=i.flat b a.1 a.2;refine .inr ⟨p,vs,rfl,.inl h.sq,j,m,?_⟩;rw[n,wH];exact k (Go.id z) .bl_mk
 | tup l=>
  have f:=e;refine oc f λa f=>?_;cases f;unfold jhc at a;rw[M0] at a;obtain⟨p,vs,rfl,h,i⟩:=g.tup_of;obtain⟨j,m,n⟩:=i.flat b a.1 a.2;refine .inr ⟨p,vs,rfl,.inr h,j,m,?_⟩;rw[n,wH];exact k (Go.id z) .bl_mk
 | _=>cases e
def jc(x y:D):Option D:=match y with
 | .int i=>(match x with
  | .lst _ l=>atI l i
  | .tup l=>atI l i
  | .str s=>bif lim s.length then(atI s i).bind λc=>some (.str [c]) else none
  | _=>none)
 | _=>none
def Reps.atI(r:Reps R Z H l vs O)(e:L2.atI l i=some d):∃ v P,L2.atI vs i=some v/\Rep R Z H d v P:=by
 unfold L2.atI at e ⊢;rw[r.length];cases h:ixN l.length i with
 | none=>rw[h] at e;cases e
 | some j=>
  rw[h] at e;obtain⟨v,A,P,B,a,_,r1,_⟩:=r.at<|e;exact⟨v,P,a,r1⟩
def joB:BO' R (rIx R.K) jc:=by
 intro Z H x y d v u n q z a j e Q k;cases y with
 | int i=>
  obtain⟨rfl,_⟩:=j.int_of;cases x with
  | lst o l=>
   obtain⟨p,vs,r,rfl,b,f⟩:=a.lst_of;obtain⟨w,P,g,r1⟩:=f.atI e;exact .inl ⟨p,vs,i,w,rfl,rfl,b.sq,g,k r1⟩
  | tup l=>
   obtain⟨p,vs,rfl,b,f⟩:=a.tup_of;obtain⟨w,P,g,r1⟩:=f.atI e;exact .inr<|.inl ⟨p,vs,i,w,rfl,rfl,b,g,k r1⟩
  | str s=>
   obtain⟨rfl,_⟩:=a.str_of;refine oc e λm e=>ob e λc h e=>?_;cases e;refine .inr<|.inr ⟨S s,i,c,rfl,rfl,by rw[V0];exact Ju m,by rw[Jt];exact h,?_⟩;exact k .str_mk
  | _=>cases e
 | _=>cases e
abbrev OF:=Rh->Option (Option Int)
def PO'(R:RC)(t:TO)(p:OF):Prop:=∀{σ}{ρ}{Z}{H}{O}{i},Zd Z H->Slots R Z H ρ σ O->p ρ=some i ->
 ∀{Q:Option Int->Hp->Prop},(∀{Z'}{H'},Go Z H [] Z' H' []->Q i H')->t σ H Q
@[simp] def oN(ρ:Rh):Option (Option Int):=some none
@[simp] def oS(pa:PF)(ρ:Rh):Option (Option Int):=(pa ρ).bind λd=>(vn d).bind λi=>some<|some i
def jpZ:PO' R x9 oN:=by
 intro σ ρ Z H O i z s e Q k;cases e;exact k<|Go.id z
def jpC(h:PB R te p):PO' R (jiy te) (oS p):=by
 intro σ ρ Z H O i z s e Q k;refine ob e λx a e=>ob e λj e2 e=>?_;cases e;cases jM e2;refine h z s a λ{v c d f} b r1=>?_;obtain⟨rfl,_⟩:=r1.int_of;exact⟨j,rfl,k b⟩
def jej(lo hi:Option Int):D->Option D
 | .str s=>bif lim s.length then some (.str<|yK s lo hi) else none
 | .lst _ l=>bif frzs l then some (.lst true<|yK l lo hi) else none
 | .tup l=>bif frzs l&&decide ((yK l lo hi).length<l.length) then some (.tup<|yK l lo hi) else none
 | _=>none
def jnn(K:W5):V->Option Int->Option Int->Hp->VK->Prop:=λx lo hi H Q=>jpv x lo hi H Q\/jpd K x lo hi H Q\/jpj K x lo hi H Q
def jp0:SlR X (jnn X.K):=SlR.or jkZ<|SlR.or jj2 jmD
@[simp] def pSl(pa:PF)(pl:OF)(ph:OF)(ρ:Rh):Option D:=(pa ρ).bind λx=>(pl ρ).bind λlo=>(ph ρ).bind λhi=>jej lo hi x
def Reps.cut(r:Reps R Z H l vs [])(lo hi):Reps R Z H (yK l lo hi) (jkb vs lo hi) []:=by
 unfold yK jkb;rw[r.length];exact(r.drop _).take _
def jn6(q:PB R te pa)(r:PO' R tl pl)(u:PO' R th ph):PP R (tSl (jnn R.K) te tl th) (pSl pa pl ph):=by
 intro σ ρ Z H O d z s e Q k;refine ob e λx w e=>ob e λlo e2 e=>ob e λhi e3 e=>(q z s w λ{v y A B} i r1=>(r i.wf.zd (i.slots z s) e2 λ{C D} g2=>?_));have f:=i.pair g2;refine u g2.wf.zd (f.slots z s) e3 λ{Z3 E} g3=>?_;have a:=f.pair g3;have r3:=(g2.pair g3).rep i.wf.zd r1;cases x with
 | str t=>
  refine oc e λc e=>?_;cases e;obtain⟨rfl,_⟩:=r3.str_of;exact .inl ⟨t,rfl,Ju c,k a .str_mk⟩
 | lst o l=>
  refine oc e λc e=>?_;cases e;obtain⟨p,vs,F,rfl,m,j⟩:=r3.lst_of;have g:=g3.wf.zd;exact .inr<|.inl ⟨p,vs,rfl,m.sq,λb h=>k ⇑(a.pair<|Go.newO (wf0 g) h) (Rep.lstNew (wf0 g) h<|(j.frozen c).cut lo hi)⟩
 | tup l=>
  refine oc e λc e=>?_;cases e;simp only[M0,decide_eq_true_eq] at c;obtain⟨p,vs,rfl,m,j⟩:=r3.tup_of;have g:=g3.wf.zd;refine .inr<|.inr ⟨p,vs,rfl,m,?_,λb h=>k ⇑(a.pair<|Go.newF (wf0 g) h) (Rep.tupNew (wf0 g) h<|(j.frozen c.1).cut lo hi)⟩;rintro⟨w1,w2⟩;have n:=c.2;unfold yK at n;rw[j.length] at w1 w2;rw[w1,w2,List.drop_zero,Nat.sub_zero,List.take_length] at n;exact absurd n<|Nat.lt_irrefl _
 | _=>cases e
def jpV:D->Option D
 | .lst _ l=>some<|.int l.length
 | .tup l=>some<|.int l.length
 | .str s=>bif lim s.length then some (.int s.length) else none
 | _=>none
def JB(l:List D):Option D:=(jef l).bind jpV
def jlj:BC R (λxs H Q=>∃ x n,xs=[x]/\joT R.K x H n/\Q (.int n) H) JB:=by
 intro Z H xs d vs O z r e Q k;refine ob e λx f e=>?_;rw[qk f] at r;obtain⟨v,rfl,r1⟩:=r.one_of;cases x with
 | lst o l=>
  cases e;obtain⟨p,a,h,rfl,b,c⟩:=r1.lst_of;exact⟨_,_,rfl,.inl ⟨a,b.sq,rfl⟩,by rw[c.length];exact k (Go.id z) .int_mk⟩
 | tup l=>
  cases e;obtain⟨p,a,rfl,b,c⟩:=r1.tup_of;exact⟨_,_,rfl,.inr ⟨a,b,rfl⟩,by rw[c.length];exact k (Go.id z) .int_mk⟩
 | str s=>
  refine oc e λg e=>?_;cases e;obtain⟨rfl,_⟩:=r1.str_of;exact⟨_,_,rfl,⟨by rw[V0];exact Ju g,rfl⟩,by rw[V0];exact k (Go.id z) .int_mk⟩
 | _=>cases e
noncomputable def jaL:List D->Option (List Int)
 | []=>some []
 | d::l=>match d with
  | .int i=>((jaL l).bind λr=>some<|i::r)
  | _=>none
def Reps.ints:∀{l}{vs}{O}{ns},Reps R Z H l vs O->jaL l=some ns->vs=ns.map V.int:=by
 intro l
 induction l with
 | nil=>intro vs O ns h e;rw[Reps] at h;cases e;exact h.1
 | cons d l a=>
  intro vs O ns h e;obtain⟨v,vs,c,f,rfl,rfl,r1,r2⟩:=h;cases d with
  | int i=>
   refine ob e λr b e=>?_;cases e;rw[a r2 b,r1.int_of.1];rfl
  | _=>cases e
noncomputable def Jy:List D->Option (List Bool)
 | []=>some []
 | d::l=>match d with
  | .bl i=>((Jy l).bind λr=>some<|i::r)
  | _=>none
def Reps.bools:∀{l}{vs}{O}{ns},Reps R Z H l vs O->Jy l=some ns->vs=ns.map V.bl:=by
 intro l
 induction l with
 | nil=>intro vs O ns h e;rw[Reps] at h;cases e;exact h.1
 | cons d l a=>
  intro vs O ns h e;obtain⟨v,vs,c,f,rfl,rfl,r1,r2⟩:=h;cases d with
  | bl i=>
   refine ob e λr b e=>?_;cases e;rw[a r2 b,r1.bl_of.1];rfl
  | _=>cases e
def jch(l:List D):Option D:=(jef l).bind λx=>(jgu x).bind λl=>(jaL l).bind λns=>some<|.int ns.sum
def jkK:BC R (λxs H Q=>∃(p:Addr) (ns:List Int),xs=[.ref p]/\SqL R.K H p (ns.map V.int)/\Q (.int ns.sum) H) jch:=by
 intro Z H xs d vs O z r e Q k;refine ob e λx a e=>ob e λl b e=>ob e λns c e=>?_;cases e;obtain⟨o,rfl⟩:=VR b;rw[qk a] at r;obtain⟨v,rfl,r1⟩:=r.one_of;obtain⟨p,h,i,rfl,f,g⟩:=r1.lst_of;have:=g.ints c;subst this;exact⟨p,ns,rfl,f.sq,k (Go.id z) .int_mk⟩
def jjg:List D->Option D
 | [.lst _ l]=>(Jy l).bind λns=>some<|.bl<|ns.all λb=>b
 | _=>none
def jkI:BC R (λxs H Q=>∃(p:Addr) (bs:List Bool),xs=[.ref p]/\SqL R.K H p (bs.map V.bl)/\Q (.bl<|bs.all λb=>b) H) jjg:=by
 intro Z H xs d vs O z r e Q k
 match xs,e,r with
 | [.lst o l],e,r=>
  refine ob e λns a e=>?_;cases e;obtain⟨v,rfl,r1⟩:=r.one_of;obtain⟨p,g,h,rfl,c,f⟩:=r1.lst_of;have:=f.bools a;subst this;exact⟨p,ns,rfl,c.sq,k (Go.id z) .bl_mk⟩
def f2I(g:Int->Int->Int)(l:List D):Option D:=(two1 l).bind λp=>two (λi j=>some<|.int<|g i j) p.1 p.2
def jlN:BC R (λxs H Q=>∃ i j,xs=[.int i,.int j]/\Q (.int<|g i j) H) (f2I g):=by
 intro Z H xs d vs O z r e Q k;refine ob e λp a e=>?_;obtain⟨i,j,e2,e3,e⟩:=two_of e;cases e;rw[two1_of a,e2,e3] at r;obtain⟨v,u,b,c,rfl,_,r1,r2⟩:=r.two_of;obtain⟨rfl,_⟩:=r1.int_of;obtain⟨rfl,_⟩:=r2.int_of;exact⟨i,j,rfl,k (Go.id z) .int_mk⟩
abbrev jip:List D->Option D:=f2I λi j=>if j>i then j else i
abbrev jaj:List D->Option D:=f2I λi j=>if j<i then j else i
def jpI:D->Option D
 | .lst _ l=>bif frzs l then some (.lst true l) else none
 | .tup l=>bif frzs l then some (.lst true l) else none
 | _=>none
def xz(l:List D):Option D:=(jef l).bind jpI
def xA(l:List D):Option D:=(jef l).bind λx=>(jgu x).bind λl=>bif frzs l then some (.tup l) else none
def jhU:BC R (λxs H Q=>∃ p ys,xs=[.ref p]/\(SqL R.K H p ys\/SqT R.K H p ys)/\∀ l,H l=none->Q (.ref l) (upd H l<|.lst ys)) xz:=by
 intro Z H xs d vs O z r e Q k;refine ob e λx i e=>?_;rw[qk i] at r;obtain⟨v,rfl,r1⟩:=r.one_of;cases x with
 | lst o l=>
  refine oc e λc e=>?_;cases e;obtain⟨p,f,j,rfl,g,h⟩:=r1.lst_of;exact⟨p,f,rfl,.inl g.sq,λb a=>k (Go.newO (wf0 z) a)<|Rep.lstNew (wf0 z) a<|h.frozen c⟩
 | tup l=>
  refine oc e λc e=>?_;cases e;obtain⟨p,f,rfl,g,h⟩:=r1.tup_of;exact⟨p,f,rfl,.inr g,λb a=>k (Go.newO (wf0 z) a)<|Rep.lstNew (wf0 z) a<|h.frozen c⟩
 | _=>cases e
def jeO:BC R (λxs H Q=>∃ p ys,xs=[.ref p]/\((SqL R.K H p ys/\∀ l,H l=none->Q (.ref l) (upd H l<|.tup ys))\/(SqT R.K H p ys/\Q (.ref p) H))) xA:=by
 intro Z H xs d vs O z r e Q k;refine ob e λx c e=>ob e λl f e=>oc e λg e=>?_;cases e;obtain⟨o,rfl⟩:=VR f;rw[qk c] at r;obtain⟨v,rfl,r1⟩:=r.one_of;obtain⟨p,h,m,rfl,i,j⟩:=r1.lst_of;exact⟨p,h,rfl,.inl ⟨i.sq,λb a=>k (Go.newF (wf0 z) a)<|Rep.tupNew (wf0 z) a<|j.frozen g⟩⟩
noncomputable def tyD:D->Option String
 | .non=>some "NoneType" | .bl _=>some "bool" | .int _=>some "int" | .str _=>some "str" | .tup _=>some "tuple" | .lst _ _=>some "list"
 | .dK true _ _=>some "dict"
 | _=>none
noncomputable def JQ(t T:String):Bool:=t==T||(t=="bool"&&T=="int")
@[simp] def jea(T:String)(pa:PF)(ρ:Rh):Option D:=(pa ρ).bind λd=>(tyD d).bind λt=>some<|.bl<|JQ t T
def uj(K)  (a:t∈["NoneType","bool","int","str","tuple","list","dict"]) (b:T∈["bool","int","str","tuple","list","dict"]):PySem.W.kitOne K (.type t) (.type T)=some (JQ t T):=by
 simp only[M4,List.not_mem_nil,or_false] at a b;rcases a with rfl | rfl | rfl | rfl | rfl | rfl | rfl<;>rcases b with rfl | rfl | rfl | rfl | rfl | rfl<;>rfl
def Rep.ty(r:Rep R Z H x v O)(e:tyD x=some t):TyQ R.K H v t/\t∈["NoneType","bool","int","str","tuple","list","dict"]:=by
 cases x with
 | non=>cases e;obtain⟨rfl,_⟩:=r.non_of;exact⟨.non,by simp⟩
 | bl b=>cases e;obtain⟨rfl,_⟩:=r.bl_of;exact⟨.bl _,by simp⟩
 | int i=>cases e;obtain⟨rfl,_⟩:=r.int_of;exact⟨.int _,by simp⟩
 | str s=>cases e;obtain⟨rfl,_⟩:=r.str_of;exact⟨.str _,by simp⟩
 | tup l=>cases e;obtain⟨p,d,rfl,c,f⟩:=r.tup_of;exact⟨.tup c,by simp⟩
 | lst o l=>cases e;obtain⟨p,d,g,rfl,c,f⟩:=r.lst_of;exact⟨.lst c.sq,by simp⟩
 | dK o h l=>cases o with
  | false=>cases e
  | true=>cases e;rw[Rep] at r;obtain⟨a,vs,g,rfl,_,_,hd,_⟩:=r;exact⟨.dK hd,by simp⟩
 | _=>cases e
def jlG(a:T∈["bool","int","str","tuple","list","dict"])  (h:PB R te p):
  PP R (tCB (λxs H Q=>∃ x T t b,xs=[x,.ty T]/\TyQ R.K H x t/\PySem.W.kitOne R.K (.type t) (.type T)=some b/\Q (.bl b) H)<|jE te<|jE (tC<|.ty T) Yi) (jea T p):=by
 intro σ ρ Z H O d z s e Q k;refine ob e λx c e=>ob e λt e2 e=>?_;cases e;refine h z s c λ{v j l m} f r1=>?_;obtain⟨g,i⟩:=r1.ty e2;exact⟨v,T,t,JQ t T,rfl,g,uj _ i a,k f .bl_mk⟩
noncomputable def yc:Nat->List D->List D
 | _,[]=>[]
 | k,x::l=>.tup [.int k,x]::yc (k+1) l
theorem vh:∀ k l,(yc k l).length=l.length
 | _,[]=>rfl
 | k,x::l=>by rw[yc,M1,M1,vh]
theorem zj:∀ k l i (y:D),(yc k l)[i]?=some y->∃ x,l[i]?=some x/\y=.tup [.int ((k+i:Nat):Int),x]
 | _,[],_,_,e=>by simp[yc] at e
 | k,x::l,0,y,e=>by simp[yc] at e;exact⟨x,rfl,e.symm⟩
 | k,x::l,i+1,y,e=>by
  obtain⟨z,a,e2⟩:=zj (k+1) l i y (by simpa [yc] using e);exact⟨z,by simpa using a,by rw[e2];congr 3;lia⟩
noncomputable def jgJ:List D->List D->List D
 | x::l,y::m=>.tup [x,y]::jgJ l m
 | _,_=>[]
def jgf(l:List D):Option (List D):=(jef l).bind λx=>(jgu x).bind λl=>some<|yc 0<|fzs l
@[simp] def Yz(p:PAf)(ρ:Rh):Option (List D):=(p ρ).bind jgf
def je7(z:Zd Z H)(b:H p=none)(r1:Rep R Z H x u [])(r2:Rep R Z H y v []):Rep R (λa=>Z a\/a=p) (upd H p<|.tup [u,v]) (.tup [x,y]) (.ref p) []:=
 Rep.tupNew (wf0 z) b (.cons r1<|.cons r2 .empty)
def jcb(k:FL R Z H a ws)(rs:Reps R Z H l ws [])(m:L.length=l.length)(o:∀(i:Nat) y,L[i]?=some y->∃ x,l[i]?=some x/\y=.tup [.int<|n+i,x]):jf0 R (Itn R.K a n) Z H L:=by
 intro A B d e zd i;have b:=(k.frame d e).sq;have f:=rs.frame d e λa p=>(nomatch p);refine⟨λhi=>⟨ws,b,by rw[f.length,<- m];exact hi⟩,λx r=>?_⟩;obtain⟨y,s,rfl⟩:=o i x r;obtain⟨u,g,v⟩:=f.item s;refine⟨⟨ws,u,b,g⟩,λw C c=>?_⟩;obtain⟨q,t,z,rfl,h,rfl⟩:=c;have j:=z ws b;rw[g] at j;cases j;exact⟨_,Go.newF (wf0 zd) h,je7 zd h .int_mk v⟩
def jeG(h:PPs R ta p):PIt R (jjF R.K ta) (Yz p):=by
 intro σ ρ Z H O m z s e Q k;refine ob e λx c e=>ob e λy e2 e=>ob e λl e3 e=>?_;cases e;obtain⟨o,rfl⟩:=VR e3;cases qk e2;refine h z s c λ{vs d n f} g r1=>?_;obtain⟨v,rfl,r2⟩:=r1.one_of;obtain⟨a,i,q,rfl,j,b,rfl,_⟩:=(r2.freeze (Z':=λa=>d a\/a∈f) (λa z=>.inl z) λa z=>.inr z);exact⟨a,i,rfl,FL.sq b,k g.fz<|jcb b j (vh _ _) ⇑(zj 0 _)⟩
def jli(h:ixN n i=some j):j<n:=(wu h).2.1
@[simp] def gIx(pm:List Nat)(i:Nat)(pi:PF)(d:D)(ρ:Rh):Option Rh:=(pi ρ).bind λk=>(vn k).bind λk=>(pV i ρ).bind λx=>(zC x).bind λl=>(ixN l.length k).bind λj=>some<|ρ.set i<|some<|.lst true<|l.set j d
def jh7(rs:Reps R Z H l vs O)(a:j<l.length)(rd:Rep R Z H d u P):∃ O2,Reps R Z H (l.set j d) (vs.set j u) O2/\∀ q,O2.count q<=O.count q+P.count q:=by
 obtain⟨b,c,e,f,g,rfl,h,put⟩:=rs.at (show l[j]?=some l[j] by simp[a]);exact⟨_,put rd (λ_ z=>z) (λ_ _=>rfl) (λ_ _=>rfl)<|λ_ _=>rfl,λq=>by simp only[U7];lia⟩
@[simp] def jcO(i:Nat)(pi:PF)(g:Int->Int->Int)(pe:PF)(ρ:Rh):Option Out:=(pi ρ).bind λk=>(vn k).bind λk=>(pV i ρ).bind λx=>(zC x).bind λl=>(ixN l.length k).bind λj=>(l[j]?).bind λy=>(vn y).bind λa=>(pe ρ).bind λz=>(vn z).bind λb=>some<|.nx<|ρ.set i<|some<|.lst true<|l.set j<|.int<|g a b
def jfo(hi:PB R ti pi)(p:PB R te pe):DS R pm (jjK (j7 i) ti te (jmj R.K) (ipI g) jht) (jcO i pi g pe):=by
 intro σ ρ Z H O o w s e E k;refine ob e λc1 r e=>ob e λn t e=>ob e λh v e=>ob e λl e5 e=>ob e λj e2 e=>ob e λF z e=>ob e λx A e=>ob e λG e3 e=>ob e λy e7 e=>?_;cases e;cases jM t;cases Y1 e5;cases jM A;cases jM e7;refine qN (P0:=[]) Jz w s v rfl YQ λa _ vs I d _ m B put=>B<|hi w.zd s r λ{u J L M} c r1=>?_;obtain⟨rfl,_⟩:=r1.int_of;obtain⟨N,P,f,r2⟩:=d.atI (by unfold L2.atI;rw[e2];exact z);obtain⟨rfl,_⟩:=r2.int_of;refine⟨a,vs,n,.int x,rfl,rfl,SqL.of<|c.at0 m,f,p c.wf.zd (c.slots w.zd s) e3 λ{Q Z3 S T} g3 r3=>?_⟩;obtain⟨rfl,_⟩:=r3.int_of;have b:=c.pair g3;obtain⟨U,C,h⟩:=jh7 (b.reps w.zd d) (jli e2)<|Rep.int_mk;obtain⟨V,g4,D⟩:=put YQ trivial b C λq=>by have:=h q;simp at this ⊢;lia
 exact⟨x,y,rfl,rfl,a,vs,n,j,rfl,rfl,b.at0 m,by rw[d.length];exact e2,k g4 D<|Keep.refl _ _⟩
end QD
namespace QD
open PySem L2 PySem.Spec PyProof.Rows
section
variable (c:Nat->Addr)(pm:List Nat)(X:Cx)
structure QP(e:Expr)(te:TE)(p:PF):Prop where
 sem:PE X e te
 den:PP ⟨X.K,c⟩ te p
structure QB(e:Expr)(te:TE)(p:PF):Prop where
 sem:PE X e te
 den:PB ⟨X.K,c⟩ te p
structure QPs(es:List Expr)(ta:TA)(p:PAf):Prop where
 sem:PA X es ta
 den:PPs ⟨X.K,c⟩ ta p
structure QBs(es:List Expr)(ta:TA)(p:PAf):Prop where
 sem:PA X es ta
 den:PBs ⟨X.K,c⟩ ta p
 n:∀ ρ ds,p ρ=some ds->ds.length=es.length
structure QT(e:Expr)(tt:TT)(q:PTf):Prop where
 sem:PT X e tt
 den:PTt ⟨X.K,c⟩ tt q
structure QW(e:Expr)(tt:TT)(q:PTf):Prop where
 sem:PW X e tt
 den:PTt ⟨X.K,c⟩ tt q
structure QI(tg e:Expr)(wi:TI)(p:PAf):Prop where
 sem:PI X tg e wi
 den:PIt ⟨X.K,c⟩ wi p
structure QG(tg:Expr)(t:TG)(g:D->Rh->Option Rh):Prop where
 sem:PG X tg t
 den:PGt ⟨X.K,c⟩ pm t g
structure QGs(tg:List Expr)(t:TGs)(g:List D->Rh->Option Rh):Prop where
 sem:PGs X tg t
 den:jln ⟨X.K,c⟩ pm t g
structure QE(e:Expr)(te:TE)(f:FE):Prop where
 sem:PE X e te
 den:DE ⟨X.K,c⟩ te f
structure QS(st:Stmt)(ts:TS)(f:FS):Prop where
 sem:PS X st ts
 den:DS ⟨X.K,c⟩ pm ts f
structure QSs(st:List Stmt)(ts:TS)(f:FS):Prop where
 sem:PSs X st ts
 den:DS ⟨X.K,c⟩ pm ts f
structure QO(e:Option Expr)(t:TO)(p:OF):Prop where
 sem:PO X e t
 den:PO' ⟨X.K,c⟩ t p
structure QIf(ifs:List Expr)(tc:TT)(q:PTf):Prop where
 sem:PIf X ifs tc
 den:PTt ⟨X.K,c⟩ tc q
end
section
variable {cl:Nat->Addr}{pm:List Nat}{X:Cx}{a b c e o:Expr}{es:List Expr}{ta tb tc te:TE}{pa pb pc pe:PF}{tA tB:TT}{qa qb:PTf}{tr:TA}{pr:PAf}{pos:Pos}
def QP.bb(h:QP cl X e te pe):QB cl X e te pe:=⟨h.sem,PP.b h.den⟩
def QB.f(h:QB cl X e te pe):QP cl X e te (pF pe):=⟨h.sem,PB.f h.den⟩
def QP.d(h:QP cl X e te pe):QE cl X e te (dP pe):=⟨h.sem,PP.d h.den⟩
def jmy(i){x}(b:X.N[i]?=some x:=by rfl)(c:Vis X.env.scope x:=by first | exact Or.inl rfl | exact Or.inr (Or.inl rfl) | exact Or.inr<|Or.inr rfl)(hd:Nd x:=by decide)
  (a:(x==("__classdict__" : Str))=false:=by decide):QB cl X (.Name x pos) (j7 i) (pV i):=⟨jgB b c hd a,jlJ⟩
def jpE(i){x}(b:X.N[i]?=some x:=by rfl)(c:Vis X.env.scope x:=by first | exact Or.inl rfl | exact Or.inr (Or.inl rfl) | exact Or.inr<|Or.inr rfl)(hd:Nd x:=by decide)
  (a:(x==("__classdict__" : Str))=false:=by decide):QE cl X (.Name x pos) (j7 i) (dMv i):=⟨jgB b c hd a,jnh⟩
def jlI{i}{j}:QP cl X (.Constant (.int i) j pos) (tC<|.int i) (pI i):=⟨jlb,jno λ_ _=>.int_mk⟩
def jpD{i}{j}:QP cl X (.Constant (.bool i) j pos) (tC<|.bl i) (pC<|.bl i):=⟨jov,jno λ_ _=>.bl_mk⟩
def joK{j}:QP cl X (.Constant .none j pos) (tC .non) (pC .non):=⟨jmn,jno λ_ _=>.non_mk⟩
def joJ{x}{j}(l)(h:x=S l):QP cl X (.Constant (.str x) j pos) (tC<|.str x) (pS l):=⟨jlh,by subst h;exact jno λ_ _=>.str_mk⟩
def jmV(c:QB cl X a ta pa)(d:QB cl X b tb pb):QP cl X (.BinOp a .Add b pos) (tOp (jev X.K) ta tb) (p2 jg pa pb):=⟨ja5 jiz c.sem d.sem,zG jmt c.den d.den⟩
def jn2(c:QB cl X a ta pa)(d:QB cl X b tb pb):QP cl X (.BinOp a .Sub b pos) (tOp (rI0 λi j=>.int<|i-j) ta tb) (p2 qp pa pb):=⟨ja5 jne c.sem d.sem,zG jmQ c.den d.den⟩
def jn4(c:QB cl X a ta pa)(d:QB cl X b tb pb):QP cl X (.BinOp a .Mult b pos) (tOp jjM ta tb) (p2 yk pa pb):=⟨ja5 jhn c.sem d.sem,zG jlD c.den d.den⟩
def jnX(c:QB cl X a ta pa)(d:QB cl X b tb pb):QP cl X (.BinOp a .FloorDiv b pos) (tOp (rI (λ_ j=>jbl j=true) λi j=>.int<|i/j) ta tb) (p2 V6 pa pb):=⟨ja5 jeE c.sem d.sem,zG jmh c.den d.den⟩
def jnH(c:QB cl X a ta pa)(d:QB cl X b tb pb):QP cl X (.BinOp a .Mod b pos) (tOp (rI (λ_ j=>0<j) λi j=>.int<|i%j) ta tb) (p2 J8 pa pb):=⟨ja5 jkx c.sem d.sem,zG jmf c.den d.den⟩
def jow(c:QB cl X a ta pa)(d:QB cl X b tb pb):QP cl X (.BinOp a .Pow b pos) (tOp (rI joV λi j=>.int<|i ^ j.toNat) ta tb) (p2 Kh pa pb):=⟨ja5 jlP c.sem d.sem,zG jlR c.den d.den⟩
def joj(b:QB cl X a ta pa):QP cl X (.UnaryOp .USub a pos) (tUn (rU λi=>.int<|-i) ta) (p1 wK pa):=⟨joA jmi b.sem,joD jk6 b.den⟩
def joZ(b:QB cl X a ta pa):QP cl X (.UnaryOp .Not a pos) (jiY ta) (jnB pa):=⟨jlM b.sem,jkE b.den⟩
structure CmpR(cl:Nat->Addr)(X:Cx)(op:CmpOp)(b:Expr)(r:R2)(g:D->D->Option D):Prop where
 o:OpR X (compareOp op) r
 g:BO ⟨X.K,cl⟩ r g
 m:behindInMarks op b=false
def jpF:CmpR cl X .Lt b (rI0 λi j=>.bl<|decide<|i<j) jj8:=⟨jo2,joS,zS _⟩
def jpR:CmpR cl X .Gt b (rI0 λi j=>.bl<|decide<|j<i) Yj:=⟨jo6,joS,zS _⟩
def jpY:CmpR cl X .GtE b (rI0 λi j=>.bl<|decide<|j<=i) jnq:=⟨joM,joS,zS _⟩
def jp1(a:behindInMarks .In b=false):CmpR cl X .In b (jj9 X.K false) (Y2 false):=⟨jlc,jkW,a⟩
def c_notin(a:behindInMarks .NotIn b=false):CmpR cl X .NotIn b (jj9 X.K true) (Y2 true):=⟨jcB,jkW,a⟩
def jod{c}{r}{g}(h:CmpR cl X c b r g)(d:QB cl X a ta pa)(e:QB cl X b tb pb):QP cl X (.Compare a [c] [b] pos) (tOp r ta tb) (p2 g pa pb):=⟨jh4 h.o d.sem e.sem h.m,zG h.g d.den e.den⟩
def jkl{c}{r}{g}(h:CmpR cl X c b r g)(d:QB cl X a ta pa)(e:QB cl X b tb pb):QT cl X (.Compare a [c] [b] pos) (ja1<|tOp r ta tb) (jj<|p2 g pa pb):=⟨jhR h.o d.sem e.sem h.m,jcl<|PP.b<|zG h.g d.den e.den⟩
def jmg(b:QB cl X a ta pa)(c:∀ whole,isTrue a X.env whole=(do let v <- whole;standAt a.pos;holding [v] (truthy v)):=by intro _;rfl):QT cl X a (L2.tB ta) (jj pa):=⟨jmF b.sem c,jcl b.den⟩
def jkg(b:QT cl X a tA qa):QT cl X (.UnaryOp .Not a pos) (joq tA) (jmv qa):=⟨jl8 b.sem,jib b.den⟩
def jiZ(b:QT cl X a tA qa):QW cl X (.BoolOp .And [a] pos) tA qa:=⟨jiX b.sem,b.den⟩
def jkQ(b:QT cl X a tA qa):QW cl X (.BoolOp .Or [a] pos) tA qa:=⟨jkm b.sem,b.den⟩
def jkR(c:QT cl X a tA qa)(d:QW cl X (.BoolOp .And (b::es) pos) tB qb):QW cl X (.BoolOp .And (a::b::es) pos) (jnE tA tB) (jba qa qb):=⟨jkN c.sem d.sem,jlC c.den d.den⟩
def jos(c:QT cl X a tA qa)(d:QW cl X (.BoolOp .Or (b::es) pos) tB qb):QW cl X (.BoolOp .Or (a::b::es) pos) (tOr tA tB) (qOr qa qb):=⟨jny c.sem d.sem,jo7 c.den d.den⟩
def QW.t(h:QW cl X a tA qa):QT cl X a tA qa:=⟨PW.pt h.sem,h.den⟩
def jn1{b}(h:QP cl X a ta pa):QP cl X (.BoolOp b [a] pos) ta pa:=⟨jlW h.sem,h.den⟩
def jom(c:QB cl X a ta pa)(d:QP cl X (.BoolOp .And (b::es) pos) tb pb):QP cl X (.BoolOp .And (a::b::es) pos) (jhm ta tb) (jg7 pa pb):=⟨jlK c.sem d.sem,jnk c.den d.den⟩
def jpH(c:QB cl X a ta pa)(d:QP cl X (.BoolOp .Or (b::es) pos) tb pb):QP cl X (.BoolOp .Or (a::b::es) pos) (jo8 ta tb) (pOr pa pb):=⟨joR c.sem d.sem,jn7 c.den d.den⟩
def jpL(d:QT cl X c tA qa)(e:QP cl X a ta pa)(f:QP cl X b tb pb):QP cl X (.IfExp c a b pos) (tIf tA ta tb) (pIf qa pa pb):=⟨jeU d.sem e.sem f.sem,joz d.den e.den f.den⟩
def jll:QPs cl X [] Yi pN:=⟨vA,pps_nil⟩
def ji6(a:QP cl X e te pe)(b:QPs cl X es tr pr)(c:SEq X e es:=by rfl):QPs cl X (e::es) (jE te tr) (ja pe pr):=⟨jt a.sem b.sem c,jeD a.den b.den⟩
def jmk:QBs cl X [] Yi pN:=⟨vA,jhp,λρ a e=>by cases e;rfl⟩
def jj1(b:QB cl X e te pe)(a:QBs cl X es tr pr)(c:SEq X e es:=by rfl):QBs cl X (e::es) (jE te tr) (ja pe pr):=
 ⟨jt b.sem a.sem c,jfc b.den a.den,λρ f h=>by
  refine ob h λx g h=>ob h λd e2 h=>?_;cases h;rw[M1,M1,a.n ρ d e2]⟩
def jnS{a}(h:QPs cl X es tr pr):QP cl X (.Tuple es a pos) (uA tr) (jV pr):=⟨Yb h.sem,jmH h.den⟩
def jnL(h:QPs cl X es tr pr):QP cl X (.List es pos) (jm5 tr) (Jp pr):=⟨jgW h.sem,jl3 h.den⟩
def jps(c:QB cl X a ta pa)(d:QB cl X b tb pb)(e:wA b:=by exact λ_ _=>rfl):QB cl X (.Subscript a b pos) (tOp (rIx X.K) ta tb) (p2 jc pa pb):=⟨jnw jlO c.sem d.sem e,jol joB c.den d.den⟩
def jjZ:QO cl X none x9 oN:=⟨jhA,jpZ⟩
def jjG(h:QB cl X e te pe):QO cl X (some e) (jiy te) (oS pe):=⟨jjL h.sem,jpC h.den⟩
def jpf{lo hi}{tl th}{pl c}{b}(d:QB cl X a ta pa)(e:QO cl X lo tl pl)(f:QO cl X hi th c):QP cl X (.Subscript a (.Slice lo hi none b) pos) (tSl (jnn X.K) ta tl th) (pSl pa pl c):=
 ⟨je8 jp0 d.sem e.sem f.sem,jn6 d.den e.den f.den⟩
def OkF(P:Program)(w:World)(K:W5)(mg:W7)(x:Str)(st:Stmt)(k:Nat)(ps:List Str)(sp:Sp):Prop:=∃ f fd,FnFact K mg x x st f fd ps/\∀ base,FnOk P w K mg base CX0 k f fd ps sp
def jgd{k n}{ps}{m}{x}{st}{p}(O:OkF X.prog X.w X.K X.mg x st k ps<|spP ⟨X.K,cl⟩ m n)(d:Room k X.A)
  (a:QBs cl X (e::es) tr pr) (f:(e::es).length=n:=by rfl) (g:Gl X x:=by rfl) (b:Nd x:=by decide)
  (i:SEq X e es:=by rfl) (c:BkE X pos es:=by rfl):QP cl X (.Call (.Name x p) (e::es) [] pos) (Qt (spP ⟨X.K,cl⟩ m n) [] E0 tr) (jl m pr):=by
 obtain⟨_,_,F,G⟩:=O;exact⟨jhx F (G _) d a.sem g b i c,jjb a.den λρ j h=>(a.n ρ j h).trans f⟩
def YB{x}{p}{id}{r}{g}(d:kD X (.builtin id) r)(f:BC ⟨X.K,cl⟩ r g)(h:X.mg x=none)(i:bootBuiltins x=some (.builtin id))(c:QBs cl X (e::es) tr pr)(j:Gl X x:=by rfl)
  (k:x≠"__name__":=by decide) (a:Nd x:=by decide) (l:SEq X e es:=by rfl) (b:BkE X pos es:=by rfl):
  QP cl X (.Call (.Name x p) (e::es) [] pos) (tCB r tr) (pCB g pr):=⟨YW d j h i c.sem k a l b,jji f c.den⟩
def VZ{x}{p}{T}{r}{g}(d:kD X (.type T) r)(f:BC ⟨X.K,cl⟩ r g)(h:X.mg x=none)(i:bootBuiltins x=some (.type T))(c:QBs cl X (e::es) tr pr)(j:Gl X x:=by rfl)
  (k:x≠"__name__":=by decide) (a:Nd x:=by decide) (l:SEq X e es:=by rfl) (b:BkE X pos es:=by rfl):
  QP cl X (.Call (.Name x p) (e::es) [] pos) (tCB r tr) (pCB g pr):=⟨xB d j h i c.sem k a l b,jji f c.den⟩
def joY(b:X.mg "len" = none){p}(c:QBs cl X [e] tr pr)(d:Gl X "len":=by rfl)(f:starEach [e] X.env=(false,eval e X.env)::starEach [] X.env:=by rfl)(a:(backTo pos<|starEach [] X.env).any (·.1)=false:=by rfl):
  QP cl X (.Call (.Name "len" p) [e] [] pos) (tCB (λxs H Q=>∃ x n,xs=[x]/\joT X.K x H n/\Q (.int n) H) tr) (pCB JB pr):=YB jeI jlj b PySem.boot_len c d (by decide) (by decide) f a
def jbU:bootBuiltins "sum" = some (.builtin "sum"):=by decide +kernel
def jbN:bootBuiltins "all" = some (.builtin "all"):=by decide +kernel
def jdJ:bootBuiltins "max" = some (.builtin "max"):=by decide +kernel
def jcj:bootBuiltins "min" = some (.builtin "min"):=by decide +kernel
def qm:bootBuiltins "isinstance" = some (.builtin "isinstance"):=by decide +kernel
def z7:bootBuiltins "int" = some (.type "int"):=by decide +kernel
def jdo:bootBuiltins "str" = some (.type "str"):=by decide +kernel
def Je:bootBuiltins "list" = some (.type "list"):=by decide +kernel
def uq:bootBuiltins "tuple" = some (.type "tuple"):=by decide +kernel
def jbu:bootBuiltins "bool" = some (.type "bool"):=by decide +kernel
def ja8:bootBuiltins "dict" = some (.type "dict"):=by decide +kernel
def jga{T}{x}{p p1}(j:T∈["bool","int","str","tuple","list","dict"])(k:X.mg "isinstance" = none)(c:X.mg x=none)(d:bootBuiltins x=some (.type T))(h:QB cl X a ta pa)(l:Gl X "isinstance":=by rfl)(e:Gl X x:=by rfl)
  (m:x≠"__name__":=by decide) (f:Nd x:=by decide) (i:starEach [a,.Name x p1] X.env=(false,eval a X.env)::starEach [.Name x p1] X.env:=by rfl) (g:(backTo pos<|starEach [.Name x p1] X.env).any (·.1)=false:=by rfl)
  (h1:starEach [.Name x p1] X.env=(false,eval (.Name x p1) X.env)::starEach [] X.env:=by rfl):
  QP cl X (.Call (.Name "isinstance" p) [a,.Name x p1] [] pos) (tCB (λxs H Q=>∃ x T t b,xs=[x,.ty T]/\TyQ X.K H x t/\PySem.W.kitOne X.K (.type t) (.type T)=some b/\Q (.bl b) H)<|jE ta<|jE (tC<|.ty T) Yi) (jea T pa):=
 ⟨YW zZ l k qm (jt h.sem (jt (xZ e c d rfl m f) vA h1) i) (by decide) (by decide) i g,jlG j h.den⟩
variable {tg iter elt:Expr}{ifs:List Expr}{wi:TI}{pi:PAf}{t:TG}{g:D->Rh->Option Rh}
def jlL(h:QP cl X e te pe):QI cl X tg e (jlQ X.K te) (pIt pe):=⟨jgP h.sem,joN h.den⟩
def jg4{p}(b:X.mg "range" = none)(h:QBs cl X [a] tr pr)(c:Gl X "range":=by rfl)(d:starEach [a] X.env=[(false,eval a X.env)]:=by rfl):QI cl X tg (.Call (.Name "range" p) [a] [] pos) (jjh tr) (zR pr):=⟨jd8 c b h.sem d,jiG h.den⟩
def jhu{elts}{n}{tpos p}(b:X.mg "enumerate" = none)(h:QPs cl X [a] tr pr)(c:Gl X "enumerate":=by rfl)(d:starEach [a] X.env=[(false,eval a X.env)]:=by rfl):QI cl X (.Tuple elts n tpos) (.Call (.Name "enumerate" p) [a] [] pos) (jjF X.K tr) (Yz pr):=⟨ji4 c b h.sem d,jeG h.den⟩
def jjY{i}{x}(a:X.N.Nodup)(hi:X.N[i]?=some x:=by rfl)(b:Loc X.env.scope x:=by first | exact Or.inl rfl | exact Or.inr rfl)(c:X.fn x=true\/X.env.scope.names.lookup x=some .local:=by first | exact .inl rfl | exact .inr rfl):
  QG cl pm X (.Name x pos) (vD i) (jd pm i):=⟨YA a hi b c,jfj⟩
def jii:QGs cl pm X [] jd9 gN:=⟨ua,jeS⟩
def jfL{ts}{a}(h1:QG cl pm X e t g)(h2:QGs cl pm X es ts a)(b:(assignEach (e::es) X.env).map (·.2)=assign e X.env::(assignEach es X.env).map (·.2):=by rfl):QGs cl pm X (e::es) (qG t ts) (gC g a):=⟨Jg h1.sem h2.sem b,jcm h1.den h2.den⟩
def jgk{ts}{b}{k n}(c:X.calm=true)(h:QGs cl pm X es ts b)(d:(assignEach es X.env).length=n:=by rfl)(a:(assignEach es X.env).findIdx? (·.1)=none:=by rfl):QG cl pm X (.Tuple es k pos) (jed X.K n ts) (gT n b):=⟨jgQ c h.sem d a,jj0 h.den⟩
def jff:QIf cl X [] (λ_ H Q=>Q true H) qT:=⟨.inl ⟨rfl,rfl⟩,jiU⟩
def jf9(h:QT cl X c tA qa):QIf cl X [c] tA qa:=⟨.inr ⟨c,rfl,h.sem⟩,h.den⟩
variable {st:Stmt}{rest:List Stmt}{ts tu:TS}{f fe:FS}{fE:FE}
def ji7:QSs cl pm X [] jhL jK:=⟨jh9,jhE⟩
def jiR(h:QS cl pm X st ts f):QSs cl pm X [st] ts f:=⟨ji0 h.sem,h.den⟩
def jfJ(h:QS cl pm X st ts f)(k:QSs cl pm X rest tu fe):QSs cl pm X (st::rest) (jnt ts tu) (jh f fe):=⟨jam h.sem k.sem,jkJ h.den k.den⟩
def jix(h:QE cl X e te fE)(a:swapsWith e none pos.line X.env=pure false:=by rfl):QS cl pm X (.Expr e pos) (Ys te) (YU fE):=⟨Vs h.sem a,jhz h.den⟩
def jlS(h:QE cl X e te fE):QS cl pm X (.Return (some e) pos) (jnZ te) (yo fE):=⟨jky h.sem,jkG h.den⟩
def joh{x y}(a:QT cl X c tA qa)(b:QSs cl pm X x ts f)(e:QSs cl pm X y tu fe):QS cl pm X (.If c x y pos) (jn3 tA ts tu) (sIf (dPT qa) f fe):=⟨joU a.sem b.sem e.sem,jnU (PTt.d a.den) b.den e.den⟩
def jml{i}{x}{pos'}(a:X.N.Nodup)(h:QE cl X e te fE)(hi:X.N[i]?=some x:=by rfl)(b:Loc X.env.scope x:=by first | exact Or.inl rfl | exact Or.inr rfl)(c:swapsWith e (some<|.Name x pos') pos.line X.env=pure false:=by rfl)
  (d:X.fn x=true\/X.env.scope.names.lookup x=some .local:=by first | exact .inl rfl | exact .inr rfl):QS cl pm X (.Assign [.Name x pos'] e pos) (jbt te<|vD i) (ju fE<|jd pm i):=⟨jlE a hi b h.sem c d,Q5 h.den Vx⟩
def jlo{tg}{g}{R}(h:PGt R pm tg g):DG R pm tg (λd ρ=>bif frz d then g d ρ else none):=by
 intro σ ρ c Z H O P d v w r s e Q k;refine oc e λa e=>?_;cases r.nil a;exact h r s e λsub nd b kp=>k ((Go.refl w).drop sub (nd w.nd)) b kp
@[simp] def jeK(fe:FE)(G:D->Rh->Option Rh)(ρ:Rh):Option Out:=(fe ρ).bind λx=>(bif frz x.1 then G x.1 x.2 else none).bind λr=>some<|.nx r
def jjx{a}(h:QE cl X e te fE)(b:QG cl pm X a t g)(c:swapsWithSole [a] e pos.line X.env=pure false:=by rfl)(d:swappedStores [a] e X.env=pure none:=by rfl)
  (h1:(assignEach [a] X.env).map (·.2)=[assign a X.env]:=by rfl):QS cl pm X (.Assign [a] e pos) (jbt te t) (jeK fE g):=⟨jdn h.sem b.sem c d h1,Q5 h.den<|jlo b.den⟩
def jfV:jpx X (jmj X.K):=by
 intro a s σ H o i y A Q I r1 r2 h;obtain⟨p,B,k,z,rfl,rfl,l,m,q⟩:=h;cases r1;obtain⟨t,rfl⟩:=r2;obtain⟨d,r,pl,C⟩:=I.list l;obtain⟨j,c,n,D,u,v⟩:=KS m;obtain⟨w,ew,e⟩:=r.get n;have x:=r.length;have E:=Q7;have b:EP X a σ Q w s:=⟨z,H,I,e,q⟩;by_cases g:0<=k
 ·have f:k.toNat=j:=by
   rw[seqIndex_of g v] at c;exact X3 c
  exact wpAny_getItem_list pl.isList g ∅ (by rw[f];simpa using ew) b
 ·have f:(k+d.toArray.size).toNat=j:=by
   rw[seqIndex_neg ∅ u] at c;rw[N2,<- x];exact X3 c
  exact wpAny_getItem_list_neg pl.isList ∅ (by rw[N2]<;>lia) ∅ (by rw[f];simpa using ew) b
def jfO{i}{x}{a c}{f}{d}(g:QB cl X (.Name x a) (j7 i)<|pV i)(hi:QB cl X b tb pb)(j:PIp X f<|ipI d)(h:QB cl X e te pe)
  (k:∀ ov iv new,augStore b ov iv new=(do holding [new,ov,iv] (setItem ov iv new);release [new,ov,iv] [];pure .next):=by intros;rfl):QS cl pm X (.AugAssign (.Subscript (.Name x a) b c) f e pos) (jjK (j7 i) tb te (jmj X.K) (ipI d) jht) (jcO i pb d pe):=
 ⟨jg3 g.sem hi.sem jfV h.sem j jfp k,jfo hi.den h.den⟩
@[simp] def jes(pm:List Nat)(i:Nat)(g:Int->Int->Int)(pa:PF)(ρ:Rh):Option Out:=(pV i ρ).bind λx=>(vn x).bind λa=>(pa ρ).bind λy=>(vn y).bind λb=>(jd pm i (.int<|g a b) ρ).bind λr=>some<|.nx r
def jje{R}{i}{b}{p}(h:PB R te p):DS R pm (joy i te<|ipI b) (jes pm i b p):=by
 intro σ ρ Z H O o w s e n k;refine ob e λc1 a e=>ob e λx e3 e=>ob e λq f e=>ob e λy g e=>ob e λt e2 e=>?_;cases e;cases jM e3;cases jM g;have a:=qo a;obtain⟨A,P,B,rfl,j,_,_⟩:=s.put (L9.mp a).1;obtain⟨v,l,r⟩:=j _ a;obtain⟨rfl,_⟩:=r.int_of;refine⟨_,l,h w.zd s f λ{u z C D} c r1=>?_⟩;obtain⟨rfl,_⟩:=r1.int_of;have d:=c.widen w;exact⟨x,y,rfl,rfl,Vx d.wf (Rep.int_mk) (c.slots w.zd s) e2 λg2 s2 m=>k (d.trans g2) s2 m⟩
def jjI{i}{x}{pos'}{b}{a}(c:X.N.Nodup)(d:PIp X b<|ipI a)(h:QB cl X e te pe)(hi:X.N[i]?=some x:=by rfl)(f:Loc X.env.scope x:=by first | exact Or.inl rfl | exact Or.inr rfl)
  (g:X.fn x=true\/X.env.scope.names.lookup x=some .local:=by first | exact .inl rfl | exact .inr rfl):QS cl pm X (.AugAssign (.Name x pos') b e pos) (joy i te<|ipI a) (jes pm i a pe):=⟨jnc c hi f h.sem d g,jje h.den⟩
def jkD{i}{x}{a apos cpos}(j:QB cl X (.Name x a) (j7 i)<|pV i)(h:QP cl X e te pe)(c:attributeBase (.Name x a) "append" X.env (eval (.Name x a) X.env)=eval (.Name x a) X.env:=by rfl)
  (f:((backTo cpos<|starEach [e] X.env).all (λx=>!x.1)&&(backToKw cpos<|keywordEach [] X.env).all (λx=>x.1.isSome)
   && decide ([e].length+([]:List Keyword).length+(if([]:List Keyword).isEmpty then 0 else 1)<30))=true:=by rfl)
  (d:(apos.endLine==cpos.line)=true:=by rfl) (g:starEach [e] X.env=(false,eval e X.env)::starEach [] X.env:=by rfl) (b:(backTo cpos<|starEach [] X.env).any (·.1)=false:=by rfl)
  (hsw:swapsWith (.Call (.Attribute (.Name x a) "append" apos) [e] [] cpos) none pos.line X.env=pure false:=by rfl):
  QS cl pm X (.Expr (.Call (.Attribute (.Name x a) "append" apos) [e] [] cpos) pos) (Ys<|tBM X.K "list" Vn (j7 i)<|jE te Yi) (xC i pe):=
 ⟨Vs (jiW PySem.F.plainAttrs_list PySem.F.slot_list_append PySem.F.type_list_append VD j.sem (jt h.sem vA g) c f d g b) hsw,jkL h.den⟩
def jmA{body}(c:PassesOwn (model X.prog X.w) X.A X.env X.xe)(d:X.calm=true)(hi:QI cl X tg iter wi pi)(a:QG cl pm X tg t g)(b:QSs cl pm X body ts f)(e:∀ x,foldedSetIterable iter X.env x=pure x:=by intro _;rfl):QS cl pm X (.For tg iter body [] pos) (jkP wi t ts) (qu pi g f):=
 ⟨jgM c d hi.sem a.sem b.sem e,jma hi.den a.den b.den⟩
def QS.fz(i)(h:QS cl pm X st ts f):QS cl pm X st ts (sFz i f):=⟨h.sem,jnz h.den⟩
def jnv{P}{w}{K}{mg}{base}{x qual}{fst}{fa}{fd}{N ps}{k n}{fs}(F:Fun K x qual fst fa fd)(b:FnScope N ps<|jn fst)(c:ps.length=n)
  (a:∀ cdv A outer s H E,Room k (A.deeper<|envOfC qual (jn fst) ↥s fa cdv) ->
   ∃ ts,QSs cl [] (jcX CX0 P w K mg base N qual (jn fst) fa cdv A outer s H E).nox (yX fst) ts fs):FnOk P w K mg base CX0 (k+1) fa fd ps (spP ⟨K,cl⟩ (fnP N.length fs) n):=by
 refine F.ok b (λvs H Q E h=>by rw[jiV h,c]) λcdv A outer s H vs Q E d h=>?_;obtain⟨ts,q⟩:=a cdv A outer s H E d;exact⟨ts,q.sem,jg5 q.den h⟩
end
mutual
noncomputable def jca:D->PyData
 | .non=>.none | .bl b=>.bool b | .int i=>.int i | .str s=>.str<|S s
 | .tup l=>.tuple<|qP l
 | .lst _ l=>.list<|qP l
 | .dK _ _ _=>.none | .dT _ _ _=>.none | .ins _ _ _ _=>.none | .dead=>.none | .tok _=>.none | .kt _=>.none | .exc _ _=>.none
noncomputable def qP:List D->List PyData
 | []=>[]
 | d::l=>jca d::qP l
end
mutual
noncomputable def okE:Nat->D->Bool
 | _,.non=>true | _,.bl _=>true | _,.int _=>true
 | _,.str s=>s.all λc=>decide<|c<1114112
 | n+1,.tup l=>yI n l
 | n+1,.lst _ l=>yI n l
 | _,_=>false
noncomputable def yI:Nat->List D->Bool
 | _,[]=>true
 | n,d::l=>okE n d&&yI n l
end
mutual
noncomputable def eqD:D->D->Bool
 | .non,y=>match y with | .non=>true | _=>false
 | .bl a,y=>match y with | .bl b=>a==b | .int j=>(if a then 1 else 0)==j | _=>false
 | .int i,y=>match y with | .bl b=>i==(if b then 1 else 0) | .int j=>i==j | _=>false
 | .str a,y=>match y with | .str b=>a==b | _=>false
 | .tup l,y=>match y with | .tup m=>xD l m | _=>false
 | .lst _ l,y=>match y with | .lst _ m=>xD l m | _=>false
 | _,_=>false
noncomputable def xD:List D->List D->Bool
 | [],[]=>true
 | x::l,y::m=>eqD x y&&xD l m
 | _,_=>false
end
noncomputable def jp4:D->Bool
 | .non=>true | .bl _=>true | .int _=>true | .str _=>true | .tup _=>true | .lst _ _=>true | _=>false
def yp{n x}{p:Prop}(h:okE n x=true)(k:jp4 x=false):p:=by
 cases x<;>cases k<;>cases n<;>cases h
theorem Qo:∀ n l,yI n l=l.all (okE n)
 | _,[]=>rfl
 | n,d::l=>by rw[yI,Qo n l];rfl
mutual
theorem jb2:∀(n:Nat) (x y:D),okE n x=true->okE n y=true->PyData.eqv (jca x) (jca y)=eqD x y
 | n,.non,y,hx,hy=>by cases y<;>first | rfl | (cases n<;>simp_all [okE])
 | n,.bl a,y,hx,hy=>by cases y<;>first | rfl | (cases n<;>simp_all [okE])
 | n,.int a,y,hx,hy=>by cases y<;>first | rfl | (cases n<;>simp_all [okE])
 | n,.str a,y,hx,hy=>by
  cases y with
  | str b=>
   show(S a==S b)=(a==b);rw[Bool.eq_iff_iff];simp[jnO]
  | _=>first | rfl | (cases n<;>simp_all [okE])
 | 0,.tup l,y,hx,hy=>by simp[okE] at hx
 | n+1,.tup l,y,hx,hy=>by
  cases y with
  | tup m=>show PyData.eqvAll (qP l) (qP m)=xD l m;exact uh n l m (by simpa [okE] using hx) (by simpa [okE] using hy)
  | _=>first | rfl | (simp_all [okE])
 | 0,.lst o l,y,hx,hy=>by simp[okE] at hx
 | n+1,.lst o l,y,hx,hy=>by
  cases y with
  | lst o' m=>show PyData.eqvAll (qP l) (qP m)=xD l m;exact uh n l m (by simpa [okE] using hx) (by simpa [okE] using hy)
  | _=>first | rfl | (simp_all [okE])
 | n,.dK _ _ _,y,hx,hy=>yp hx rfl
 | n,.dT _ _ _,y,hx,hy=>yp hx rfl
 | n,.ins _ _ _ _,y,hx,hy=>yp hx rfl
 | n,.dead,y,hx,hy=>yp hx rfl
 | n,.tok _,y,hx,hy=>yp hx rfl
 | n,.kt _,y,hx,hy=>yp hx rfl
 | n,.exc _ _,y,hx,hy=>yp hx rfl
theorem uh:∀(n:Nat) (l m:List D),yI n l=true->yI n m=true->PyData.eqvAll (qP l) (qP m)=xD l m
 | n,[],[],_,_=>rfl
 | n,[],_::_,_,_=>rfl
 | n,_::_,[],_,_=>rfl
 | n,x::l,y::m,hx,hy=>by
  rw[yI,M0] at hx hy;show(PyData.eqv (jca x) (jca y)&&PyData.eqvAll (qP l) (qP m))=(eqD x y&&xD l m);rw[jb2 n x y hx.1 hy.1,uh n l m hx.2 hy.2]
end
mutual
theorem uH:∀(n:Nat) (x:D),okE n x=true->(jca x).canLay0=true/\(jca x).depth<=n
 | n,.non,_=>⟨rfl,U4 _⟩
 | n,.bl _,_=>⟨rfl,U4 _⟩
 | n,.int _,_=>⟨rfl,U4 _⟩
 | n,.str s,h=>by
  refine⟨?_,U4 _⟩;have h:(s.all λc=>decide<|c<1114112)=true:=by cases n<;>simpa [okE] using h
  show PyData.strOk (S s)=true;unfold PyData.strOk S;rw[Array.all_eq_true'];intro c hc;rw[List.all_eq_true] at h;exact h c ⇑hc
 | 0,.tup l,h=>by simp[okE] at h
 | n+1,.tup l,h=>by
  obtain⟨h1,h2⟩:=Vq n l (by simpa [okE] using h);exact⟨h1,Nat.succ_le_succ h2⟩
 | 0,.lst o l,h=>by simp[okE] at h
 | n+1,.lst o l,h=>by
  obtain⟨h1,h2⟩:=Vq n l (by simpa [okE] using h);exact⟨h1,Nat.succ_le_succ h2⟩
 | n,.dK _ _ _,hx=>yp hx rfl
 | n,.dT _ _ _,hx=>yp hx rfl
 | n,.ins _ _ _ _,hx=>yp hx rfl
 | n,.dead,hx=>yp hx rfl
 | n,.tok _,hx=>yp hx rfl
 | n,.kt _,hx=>yp hx rfl
 | n,.exc _ _,hx=>yp hx rfl
theorem Vq:∀(n:Nat) (l:List D),yI n l=true->PyData.canLayAll0 (qP l)=true/\PyData.depthAll (qP l)<=n
 | n,[],_=>⟨rfl,U4 _⟩
 | n,x::l,h=>by
  rw[yI,M0] at h;obtain⟨h1,h2⟩:=uH n x h.1;obtain⟨h3,h4⟩:=Vq n l h.2;rw[qP];refine⟨?_,?_⟩
  ·show((jca x).canLay0&&PyData.canLayAll0 (qP l))=true;rw[h1,h3];rfl
  ·show max (jca x).depth (PyData.depthAll<|qP l)<=n;exact Nat.max_le.mpr ⟨h2,h4⟩
end
mutual
theorem Rep.reads(I:Inv X pins σ H s):∀(n:Nat) {x:D}{v:V}{u:Value}{O:W6},Rep ⟨X.K,cl⟩ Z H x v O->RelV v u->okE n x=true->∃ as,Reads s.heap u (jca x) as
 | n,.non,_,_,_,r,q,_=>by obtain⟨rfl,_⟩:=r.non_of;cases q;exact⟨_,.none⟩
 | n,.bl b,_,_,_,r,q,_=>by obtain⟨rfl,_⟩:=r.bl_of;cases q;exact⟨_,.bool b⟩
 | n,.int i,_,_,_,r,q,_=>by obtain⟨rfl,_⟩:=r.int_of;obtain⟨t,rfl⟩:=q;exact⟨_,.int i t⟩
 | n,.str w,_,_,_,r,q,_=>by obtain⟨rfl,_⟩:=r.str_of;obtain⟨t,rfl⟩:=q;exact⟨_,.str _ t⟩
 | 0,.tup l,_,_,_,r,q,h=>by simp[okE] at h
 | n+1,.tup l,_,_,_,r,q,h=>by
  obtain⟨a,vs,rfl,hx,rs⟩:=r.tup_of;cases q;obtain⟨its,rv,⟨o,h1,h2,k,h3⟩,_⟩:=I.tuple hx;obtain⟨as,hr⟩:=Reps.reads I n rs rv (by simpa [okE] using h);exact⟨_,reads_tuple_at h1 h2 h3 ⇑hr⟩
 | 0,.lst o l,_,_,_,r,q,h=>by simp[okE] at h
 | n+1,.lst o l,_,_,_,r,q,h=>by
  obtain⟨a,vs,O',rfl,hx,rs⟩:=r.lst_of;cases q;obtain⟨its,rv,⟨o,k,h1,h2,_,h3⟩,_⟩:=I.list hx.sq;obtain⟨as,hr⟩:=Reps.reads I n rs rv (by simpa [okE] using h);exact⟨_,reads_list_at h1 h2 h3 ⇑hr⟩
 | n,.dK _ _ _,_,_,_,_,_,hx=>yp hx rfl
 | n,.dT _ _ _,_,_,_,_,_,hx=>yp hx rfl
 | n,.ins _ _ _ _,_,_,_,_,_,hx=>yp hx rfl
 | n,.dead,_,_,_,_,_,hx=>yp hx rfl
 | n,.tok _,_,_,_,_,_,hx=>yp hx rfl
 | n,.kt _,_,_,_,_,_,hx=>yp hx rfl
 | n,.exc _ _,_,_,_,_,_,hx=>yp hx rfl
theorem Reps.reads(I:Inv X pins σ H s):∀(n:Nat) {l:List D}{vs:List V}{us:List Value}{O:W6},Reps ⟨X.K,cl⟩ Z H l vs O->Vals vs us->yI n l=true->∃ as,ReadsAll s.heap us (qP l) as
 | n,[],_,_,_,r,q,_=>by rw[Reps] at r;obtain⟨rfl,_⟩:=r;cases q;exact⟨_,.nil⟩
 | n,x::l,_,_,_,r,q,h=>by
  rw[Reps] at r;obtain⟨v,vs,O1,O2,rfl,rfl,r1,r2⟩:=r;rw[yI,M0] at h;cases q with
  | cons q1 q2=>
   obtain⟨as,h1⟩:=Rep.reads I n r1 q1 h.1;obtain⟨bs,h2⟩:=Reps.reads I n r2 q2 h.2;exact⟨_,.cons h1 h2⟩
end
def jgn(R:RC)(neg:Bool):R2:=λx y H Q=>∃ Z d e O P,Rep R Z H d x O/\Rep R Z H e y P/\okE 20 d=true/\okE 20 e=true/\Q (.bl<|neg != eqD d e) H
def jnu(h:okE 20 x=true):SeqAt.shaped (jca x)=true:=by
 obtain⟨a,b⟩:=uH 20 x h;unfold SeqAt.shaped;rw[a,Bool.true_and];exact X0<|N6 b (by decide)
def jk1(f:X.A.units+64<cLine):OpR X (compareOp .Eq) (jgn ⟨X.K,cl⟩ false):=by
 intro c s σ H x y v u Q I g i h;obtain⟨Z,d,e,O,P,r1,r2,a,b,q⟩:=h;obtain⟨l,j⟩:=r1.reads I 20 g a;obtain⟨bs,k⟩:=r2.reads I 20 i b;refine eq_dataH j k (jnu a) (jnu b) f ?_;rw[jb2 20 d e a b];exact⟨.bl _,H,I,rfl,by simpa using q⟩
def jla(f:X.A.units+64<cLine):OpR X (compareOp .NotEq) (jgn ⟨X.K,cl⟩ true):=by
 intro c s σ H x y v u Q I g i h;obtain⟨Z,d,e,O,P,r1,r2,a,b,q⟩:=h;obtain⟨l,j⟩:=r1.reads I 20 g a;obtain⟨bs,k⟩:=r2.reads I 20 i b;refine ne_dataH j k (jnu a) (jnu b) f ?_;rw[jb2 20 d e a b];exact⟨.bl _,H,I,rfl,by simpa using q⟩
def vm(x y:D):Option D:=bif qF x&&qF y&&QJ x y then some (.bl<|eqF x y) else bif okE 20 x&&okE 20 y then some (.bl<|eqD x y) else none
def Y3(x y:D):Option D:=bif qF x&&qF y&&QJ x y then some (.bl<|!eqF x y) else bif okE 20 x&&okE 20 y then some (.bl<|!eqD x y) else none
def jo5:BO R (λx y H Q=>rEq x y H Q\/jgn R false x y H Q) vm:=by
 intro Z H x y d v u f g z b c e Q k;unfold vm at e;cases hl:qF x&&qF y&&QJ x y with
 | true=>
  rw[hl] at e;cases e;obtain⟨h,i⟩:=jdh b c hl;exact .inl ⟨h,by rw[i];exact k (Go.id z) .bl_mk⟩
 | false=>
  rw[hl,cond_false] at e;refine oc e λa e=>?_;cases e;rw[M0] at a;exact .inr ⟨Z,x,y,f,g,b,c,a.1,a.2,by simpa using k (Go.id z) .bl_mk⟩
def jnT:BO R (λx y H Q=>rNe x y H Q\/jgn R true x y H Q) Y3:=by
 intro Z H x y d v u f g z b c e Q k;unfold Y3 at e;cases hl:qF x&&qF y&&QJ x y with
 | true=>
  rw[hl] at e;cases e;obtain⟨h,i⟩:=jdh b c hl;exact .inl ⟨h,by rw[i];exact k (Go.id z) .bl_mk⟩
 | false=>
  rw[hl,cond_false] at e;refine oc e λa e=>?_;cases e;rw[M0] at a;exact .inr ⟨Z,x,y,f,g,b,c,a.1,a.2,by simpa using k (Go.id z) .bl_mk⟩
def c_eq(a:Room k X.A):CmpR cl X .Eq b (λx y H Q=>rEq x y H Q\/jgn ⟨X.K,cl⟩ false x y H Q) vm:=⟨YF jnA<|jk1 a.units,jo5,zS _⟩
def c_ne(a:Room k X.A):CmpR cl X .NotEq b (λx y H Q=>rNe x y H Q\/jgn ⟨X.K,cl⟩ true x y H Q) Y3:=⟨YF joa<|jla a.units,jnT,zS _⟩
noncomputable def isT:String->D->Bool
 | "str",.str _=>true
 | _,_=>false
@[simp] def pBM(T:String)(g:D->List D->Option D)(pa:PF)(pr:PAf)(ρ:Rh):Option D:=(pa ρ).bind λx=>bif isT T x then(pr ρ).bind λxs=>g x xs else none
end QD
namespace QD
open PySem L2
section
variable {R:RC}{Z Z':Zn}{H H':Hp}{pm:List Nat}
def ItB(R:RC)(J:It)(Z:Zn)(H:Hp)(xs:List D):Prop:=∀{Z1}{H1},(∀ a,Z a->Z1 a)->(∀ a,H a≠none->H1 a=H a)->Zd Z1 H1->∀ i:Nat,
 (xs.length<=i->J.stop i H1)/\∀ x,xs[i]?=some x->J.go i H1/\∀ u H2,J.yld i H1 u H2->∃ Z2,Go Z1 H1 [] Z2 H2 []/\Rep R Z2 H2 x u []
def jnr(R:RC)(wi:TI)(p:PAf):Prop:=∀{σ}{ρ}{Z}{H}{O}{xs},Zd Z H->Slots R Z H ρ σ O->p ρ=some xs ->
 ∀{Q:It->Hp->Prop},(∀{J}{Z'}{H'},Go Z H [] Z' H' []->ItB R J Z' H' xs->Q J H')->wi σ H Q
def PIt.b(h:PIt R wi p):jnr R wi p:=by
 intro σ ρ Z H O j z s e Q k;refine h z s e λg c=>k g ?_;intro l m d f zd i;exact c d (λa z=>f a<|g.wf.zd a z) zd i
def itB:D->Option (List D)
 | .lst _ l=>bif frzs l then some l else none
 | .tup l=>bif frzs l then some l else none
 | .str s=>some<|s.map λc=>.str [c]
 | _=>none
@[simp] def qB(p:PF)(ρ:Rh):Option (List D):=(p ρ).bind itB
def jeW(b:∀ a,H a≠none->H' a=H a)(h:SqX K H a vs):SqX K H' a vs:=by
 rcases h with h | h
 ·refine .inl<|Rd.agree (b a ?_) h;rcases h with h | ⟨o,h⟩<;>rw[h]<;>exact λz=>(nomatch z)
 ·exact .inr h
def jfr(b:∀ a,H a≠none->H' a=H a)(h:SqT K H a vs):SqT K H' a vs:=by
 rcases h with h | h
 ·refine .inl<|Rd.agree (b a ?_) h;rcases h with h | ⟨o,h⟩<;>rw[h]<;>exact λz=>(nomatch z)
 ·exact .inr h
def jlw(h:PB R te p):jnr R (jlQ R.K te) (qB p):=by
 intro σ ρ Z H O P z s e Q k;refine ob e λc C e=>?_;cases c with
 | lst o l=>
  refine oc e λD e=>?_;cases e;refine h z s C λ{v I J L} f r1=>?_;obtain⟨a,vs,S,rfl,q,r⟩:=r1.lst_of;have E:=r.frozen D;refine .inl ⟨a,rfl,⟨vs,q.sq⟩,k f ?_⟩;intro B M y g zd i;have d:=SqX.sq<|jeW g q;have j:=E.frame y (λb z=>g b<|f.wf.zd b z) λb F=>(nomatch F);refine⟨λhi=>⟨vs,d,by rw[r.length];exact hi⟩,λx m=>?_⟩;obtain⟨u,A,G⟩:=j.item m;refine⟨⟨vs,u,d,A⟩,λw N n=>?_⟩;obtain⟨rfl,n⟩:=n;have e2:=n vs d;rw[A] at e2;cases e2;exact⟨B,Go.id zd,G⟩
 | tup l=>
  refine oc e λD e=>?_;cases e;refine h z s C λ{v I J L} f r1=>?_;obtain⟨a,vs,rfl,q,r⟩:=r1.tup_of;refine .inr<|.inl ⟨a,rfl,⟨vs,q⟩,k f ?_⟩;intro B M y g zd i;have d:=jfr g q;have j:=(r.frozen D).frame y (λb z=>g b<|f.wf.zd b z) λb F=>(nomatch F);refine⟨λhi=>⟨vs,d,by rw[r.length];exact hi⟩,λx m=>?_⟩;obtain⟨u,A,G⟩:=j.item m;refine⟨⟨vs,u,d,A⟩,λw N n=>?_⟩;obtain⟨rfl,n⟩:=n;have e2:=n vs d;rw[A] at e2;cases e2;exact⟨B,Go.id zd,G⟩
 | str t=>
  cases e;refine h z s C λ{v I J L} f r1=>?_;obtain⟨rfl,_⟩:=r1.str_of;refine .inr<|.inr ⟨t,rfl,k f ?_⟩;intro B M y g zd i;exact jgO y (λb z=>g b<|f.wf.zd b z) zd i
 | _=>cases e
inductive CpI (R:RC) (g:D->Rh->Option Rh) (q:PTf) (p:PF) (Z0:Zn) (H0:Hp) (a:Addr) (xs all:List D) (i m:Nat) (σ2:L2.St) (H2:Hp):Prop
 | mk:m=xs.length-i->i<=xs.length->∀(ρ2:Rh) (Z2:Zn) (O2:W6) (ys:List D) (vs:List V) (Py:W6) (rest:List D),Go Z0 H0 [] Z2 H2 (a::Py)->H2 a=some (.lst vs)->Reps R Z2 H2 ys vs Py->(∀ b∈O2,b≠a)->Slots R Z2 H2 ρ2 σ2 O2->jS g q p (xs.drop i) ρ2=some rest->all=ys++rest->ys.length<=i->CpI R g q p Z0 H0 a xs all i m σ2 H2
def qL{tg}{tc}{te}{g}{q}{p}{ix}(hg:PGt R [] tg g)(hq:PTt R tc q)(he:PP R te p)
  {J:It}{h:Zn}{c:Hp}{ρ:Rh}{σ:L2.St}{O:W6}{xs all:List D}(x:Zd h c) (s:Slots R h c ρ σ O) (it:ItB R J h c xs) (hl:lim xs.length=true) (e2:jS g q p xs (jr ix ρ)=some all)
  {Q:VK}(k:∀{v}{Z'}{H'}{P},Go h c [] Z' H' P->Rep R Z' H' (.lst true all) v P->Q v H'):∀ a,c a=none->jaF tc te tg J a (vq ix σ) (upd c a<|.lst []) λH2=>Q (.ref a) H2:=by
 intro a Y;obtain⟨Oi,Z⟩:=xI s ix;have gp:Go h c [] h (upd c a<|.lst []) [a]:=Go.newO (wf0 x) Y;refine⟨CpI R g q p h c a xs all,
  ⟨xs.length,rfl,U4 _,_,h,Oi,[],[],[],all,gp,jk,Reps.empty,λb d e=>Z.dom b d<|e▸Y,gp.slots x Z,e2,rfl,M8 _⟩,?_⟩
 rintro i m σ2 H2 ⟨rfl,M,ρ2,Z2,O2,ys,vs,n,rest,g2,N,G,S,s2,e3,H,o⟩;have A:=it g2.zz (g2.same) g2.wf.zd i;by_cases C:i<xs.length
 ·right
  have hx:xs[i]?=some xs[i]:=by simp
  obtain⟨go,yl⟩:=A.2 _ hx;refine⟨go,λu H3 hy=>?_⟩;obtain⟨Z3,g3,r3⟩:=yl u H3 hy;rw[J9 hx] at e3;refine ob e3 λρ3 e5 e3=>(hg r3 (g3.slots g2.wf.zd s2) e5 λ{σ4 O4} sub nd I _=>(ob e3 λb e6 e3=>(hq g3.wf.zd I e6 λ{Z5 H5} E=>?_)));have j:=g3.pair E;cases b with
  | true=>
   refine jgm<|ob e3 λy e7 e3=>ob e3 λT e8 e3=>?_;cases e3;refine he E.wf.zd (E.slots g3.wf.zd I) e7 λ{K t l w} g6 r6=>?_;have r:Go Z2 H2 [] t l w:=by simpa using j.pair g6
   have U:l a=some (.lst vs):=by rw[r.same a ∅];exact N
   have V:vs.length<sizeLine:=by
    rw[G.length];exact uN<|X0<|N6 o<|N6 M<|X2 hl
   have L:Go h c [] t l (a::n++w):=by
    have f:=r.frame (B:=[]) ⇑g2.wf;exact g2.trans ⇑f
   have W:=L.wf;have gB:Go t l (a::n++w) t (upd l a<|.lst<|vs++[K]) (a::n++w):=Go.put W L7;have ne:∀ b,b∈n++w->upd l a (.lst<|vs++[K]) b=l b:=λb d=>je λz=>(List.nodup_cons.mp W.nd).1 (z▸d);have F:∀ b,t b->upd l a (.lst<|vs++[K]) b=l b:=λb d=>je λz=>W.nz a L7<|z▸d;refine⟨vs,U,V,xs.length-(i+1),by lia,rfl,C,ρ3,t,O4,ys++[y],vs++[K],n++w,T,L.trans gB,jk,?_,λb d=>S b<|sub b d,(((E.pair g6).slots g3.wf.zd I).frame (λb z=>z) F λb d=>je<|S b<|sub b d),e8,by rw[H];simp,by rw[N3];exact Nat.add_le_add_right o 1⟩
   ·refine((r.reps g2.wf.zd G).append (.one r6)).frame (λb z=>z) F ne
  | false=>
   refine jgH ?_;have L:Go h c [] Z5 H5 (a::n):=by
    exact g2.trans (by simpa using(j.frame (B:=[]) ⇑g2.wf))
   exact⟨xs.length-(i+1),by lia,rfl,C,ρ3,Z5,O4,ys,vs,n,rest,L,by rw[j.same a ∅];exact N,j.reps g2.wf.zd G,λb d=>S b<|sub b d,E.slots g3.wf.zd I,e3,H,Nat.le_succ_of_le o⟩
 ·left
  have X:i=xs.length:=by lia
  refine⟨A.1 ∅,?_⟩;rw[X,List.drop_length] at e3;cases e3;rw[M9] at H;subst H;exact k g2 ⟨a,vs,n,rfl,G,N,rfl⟩
def uM{wi}{tg}{tc}{te}{pi}{g}{q}{p}{ix}(hi:jnr R wi pi)(b:PGt R [] tg g)(c:PTt R tc q)(f:PP R te p):
  PP R (QA wi tg tc te ix) (jY pi g q p ix):=by
 intro σ ρ Z H O d z s e Q k;refine ob e λm h e=>oc e λi e=>ob e λall e2 e=>?_;cases e;exact hi z s h λ{J n o} a j=>(qL b c f a.wf.zd (a.slots z s) j i e2 λl r1=>k ⇑(a.pair l) r1)
end
section
variable {cl:Nat->Addr}{pm:List Nat}{X:Cx}{c e elt tg iter:Expr}{te:TE}{pe:PF}{ifs:List Expr}{wi:TI}{pi:PAf}{t:TG}{g:D->Rh->Option Rh}{pos:Pos}{ts:TS}{f:FS}
structure QIb(cl:Nat->Addr)(X:Cx)(tg e:Expr)(wi:TI)(p:PAf):Prop where
 sem:PI X tg e wi
 den:jnr ⟨X.K,cl⟩ wi p
def QI.b'(h:QI cl X tg e wi pi):QIb cl X tg e wi pi:=⟨h.sem,PIt.b h.den⟩
def jjU(h:QB cl X e te pe):QIb cl X tg e (jlQ X.K te) (qB pe):=⟨jgP h.sem,jlw h.den⟩
def jij{scope}{N'}{ix}{a}{c}(B:BlockOk X scope N' ix)(f:X.calm=true)(hi:QIb cl X tg iter wi pi)
  (d:∀ C s H fp,QG cl [] (j8 X scope N' C s H fp) tg t g) (b:∀ C s H fp,QIf cl (j8 X scope N' C s H fp) ifs a c) (e:∀ C s H fp,QP cl (j8 X scope N' C s H fp) elt te pe)
  (h:∀ x,foldedSetIterable iter X.env x=pure x:=by intro _;rfl):QP cl X (.ListComp elt [⟨tg,iter,ifs,0⟩] scope pos) (QA wi t a te ix) (jY pi g c pe ix):=
 ⟨jbL B f hi.sem (λC s H fp=>(d C s H fp).sem) (λC s H fp=>(b C s H fp).sem) (λC s H fp=>(e C s H fp).sem) h,
  uM hi.den (d 0 X.s₀ X.H₀ []).den (b 0 X.s₀ X.H₀ []).den (e 0 X.s₀ X.H₀ []).den⟩
def uc{i}{x}{pos' a}{scope}{N'}{ix}{b}{f}(B:BlockOk X scope N' ix)(k:X.calm=true)(hi:QIb cl X tg iter wi pi)
  (h:∀ C s H fp,QG cl [] (j8 X scope N' C s H fp) tg t g) (c:∀ C s H fp,QIf cl (j8 X scope N' C s H fp) ifs b f) (j:∀ C s H fp,QP cl (j8 X scope N' C s H fp) elt te pe)
  (l:X.N.Nodup) (e:X.N[i]?=some x:=by rfl) (m:Loc X.env.scope x:=by first | exact Or.inl rfl | exact Or.inr rfl)
  (hsw:swapsWith (.ListComp elt [⟨tg,iter,ifs,0⟩] scope pos) (some<|.Name x pos') a.line X.env=pure true:=by with_unfolding_all rfl)
  (n:∀ x,foldedSetIterable iter X.env x=pure x:=by intro _;rfl)
  (o:X.fn x=true\/X.env.scope.names.lookup x=some .local:=by first | exact .inl rfl | exact .inr rfl):
  QS cl pm X (.Assign [.Name x pos'] (.ListComp elt [⟨tg,iter,ifs,0⟩] scope pos) a) (jbt (QA wi t b te ix)<|vD i) (ju (dP<|jY pi g f pe ix)<|jd pm i):=
 ⟨Km B k hi.sem (λC s H fp=>(h C s H fp).sem) (λC s H fp=>(c C s H fp).sem) (λC s H fp=>(j C s H fp).sem) l e m hsw n o,
  Q5 (PP.d<|uM hi.den (h 0 X.s₀ X.H₀ []).den (c 0 X.s₀ X.H₀ []).den (j 0 X.s₀ X.H₀ []).den) Vx⟩
end
@[simp] def pV0:pV 0 (o::ρ)=o:=by unfold pV;cases o<;>rfl
@[simp] def pVs:pV (i+1) (o::ρ)=pV i ρ:=rfl
@[simp] def gN_e:gN [] ρ=some ρ:=rfl
@[simp] def gC_e:gC G Gs (d::r) ρ=(G d ρ).bind λρ1=>Gs r ρ1:=rfl
@[simp] def gT_e:gT n Gs (.tup l) ρ=bif decide (l.length=n) then Gs l ρ else none:=rfl
@[simp] def itB_lst(o)(l):itB (.lst o l)=bif frzs l then some l else none:=rfl
@[simp] def itB_tup(l):itB (.tup l)=bif frzs l then some l else none:=rfl
@[simp] def itB_str(l):itB (.str l)=some (l.map λc=>D.str [c]):=rfl
@[simp] def enumOf_e(o)(l):jgf [.lst o l]=some (yc 0<|fzs l):=rfl
def zB(h:-(2 ^ 62)<j)(k:j<2 ^ 62):KQ j=true:=Nat.ble_eq_true_of_le ∅
def YZ(h:-(2 ^ 62)<j)(k:j<2 ^ 62):uu [.int j]=some (xv 0 j.toNat):=by
 show(bif KQ j then some (xv 0 j.toNat) else none)=_;rw[zB h k];rfl
def jH(n)(f)(ds):fnP n f ds=(f<|ds.map some++List.replicate (n-ds.length) none).bind Out.val:=rfl
@[simp] def sLoop_nil:jB G f [] ρ=some (.nx ρ):=rfl
def ya:jB G f (x::xs) ρ=(G x ρ).bind λr=>(f r).bind λo=>o.loop (jB G f xs):=rfl
@[simp] def cLoop_nil:jS G q p [] ρ=some []:=rfl
def kz:jS G q p (x::xs) ρ=(G x ρ).bind λr=>(q r).bind λb=>bif b then((p r).bind λy=>(jS G q p xs r).bind λys=>some<|y::ys) else jS G q p xs r:=rfl
def jdq(P:Nat->Rh->Prop)(step:∀ i x ρ,xs[i]?=some x->P i ρ->∃ ρ1 ρ2,G x ρ=some ρ1/\(f ρ1=some (.nx ρ2)\/f ρ1=some (.ct ρ2))/\P (i+1) ρ2)  (c:P 0 ρ):
  ∃ ρ',jB G f xs ρ=some (.nx ρ')/\P xs.length ρ':=by
 have key:∀ n i ρ,xs.length-i=n->i<=xs.length->P i ρ->∃ ρ',jB G f (xs.drop i) ρ=some (.nx ρ')/\P xs.length ρ':=by
  intro n
  induction n with
  | zero=>
   intro i ρ d hi p;have:i=xs.length:=by lia
   subst this;exact⟨ρ,by rw[List.drop_length];rfl,p⟩
  | succ n e=>
   intro i ρ d hi p;have a:i<xs.length:=by lia
   have b:xs[i]?=some xs[i]:=by simp[a]
   obtain⟨ρ1,ρ2,g,e2,p2⟩:=step i _ ρ b p;obtain⟨ρ',e3,p3⟩:=e (i+1) ρ2 ∅ a p2;refine⟨ρ',?_,p3⟩;rw[J9 b,ya,g];rcases e2 with e2 | e2<;>simp[e2,e3]
 exact key _ 0 ρ rfl (U4 _) c
def jv{G}{xs}{l:List α}{en}{out}(a:xs=l.map en)(P:Rh->Prop)(step:∀ x∈l,∀ ρ,P ρ->∃ ρ1,G (en x) ρ=some ρ1/\p ρ1=some (out x)/\P ρ1){ρ}(b:P ρ):jS G qT p xs ρ=some (l.map out):=by
 subst a
 induction l generalizing ρ with
 | nil=>rfl
 | cons x l c=>
  obtain⟨ρ1,d,e2,p1⟩:=step x L7 ρ b;rw[L5,kz,d];simp[e2,c (λy e=>step y<|L6 _ e) p1]
@[simp] def cond_dec(p) [Decidable p] (x y:α):(bif decide p then x else y)=if p then x else y:=by by_cases h:p<;>simp[h]
@[simp] def cond_beq_int(i j:Int)(x y:α):(bif i==j then x else y)=if i=j then x else y:=by
 by_cases h:i=j
 ·subst h;simp
 ·rw[if_neg h,U1.mpr h];rfl
@[simp] def ite_bind(p) [Decidable p] (x y:Option α) (f:α->Option β):(if p then x else y).bind f=if p then x.bind f else y.bind f:=by by_cases h:p<;>simp[h]
@[simp] def add_ii(i j):jg (.int i) (.int j)=some (.int<|i+j):=rfl
@[simp] def sub_ii(i j):qp (.int i) (.int j)=some (.int<|i-j):=rfl
def yu(h:i.natAbs<2 ^ 1000)(k:j.natAbs<2 ^ 1000):yk (.int i) (.int j)=some (.int<|i*j):=by
 show(bif jmJ i&&jmJ j then some (D.int<|i*j) else none)=_;rw[jdY h,jdY k];rfl
def JR(h:0<j)(k:j<2 ^ 300):V6 (.int i) (.int j)=some (.int<|i/j):=by
 show(bif decide (0<j)&&decide (j<2 ^ 300) then some (D.int<|i/j) else none)=_;rw[X0 h,X0 k];rfl
def VH(h:0<j):J8 (.int i) (.int j)=some (.int<|i%j):=by
 show(bif decide (0<j) then some (D.int<|i%j) else none)=_;rw[X0 h];rfl
@[simp] def opB_ii(g)(i j):opB g (.int i) (.int j)=some (.bl<|g i j):=rfl
@[simp] def eq_ii(i j):vm (.int i) (.int j)=some (.bl<|i==j):=rfl
@[simp] def ne_ii(i j):Y3 (.int i) (.int j)=some (.bl<|!(i==j)):=rfl
@[simp] def jaq(g)(i j):f2I g [.int i,.int j]=some (.int<|g i j):=rfl
@[simp] def frz_int(i):frz (.int i)=true:=rfl
@[simp] def frz_bl(i):frz (.bl i)=true:=rfl
@[simp] def frz_str(i):frz (.str i)=true:=rfl
@[simp] def frz_non:frz .non=true:=rfl
@[simp] def fz_int(i):fz (.int i)=.int i:=rfl
@[simp] def fz_bl(i):fz (.bl i)=.bl i:=rfl
@[simp] def fz_str(i):fz (.str i)=.str i:=rfl
@[simp] def fz_non:fz .non=.non:=rfl
@[simp] def fz_lst(o)(l):fz (.lst o l)=.lst false (fzs l):=rfl
@[simp] def fz_tup(l):fz (.tup l)=.tup (fzs l):=rfl
@[simp] def jhi(o)(l):frz (.lst o l)=(!o&&frzs l):=rfl
@[simp] def frz_tup(l):frz (.tup l)=frzs l:=rfl
@[simp] def fzs_nil:fzs []=[]:=rfl
@[simp] def jfY(d)(l):fzs (d::l)=fz d::fzs l:=rfl
@[simp] def frzs_nil:frzs []=true:=rfl
@[simp] def Yc(d)(l):frzs (d::l)=(frz d&&frzs l):=rfl
@[simp] def clean_int(i):clean (.int i)=true:=rfl
@[simp] def clean_bl(i):clean (.bl i)=true:=rfl
@[simp] def clean_str(i):clean (.str i)=true:=rfl
@[simp] def clean_non:clean .non=true:=rfl
@[simp] def clean_lst(o)(l):clean (.lst o l)=(o&&yq l):=rfl
@[simp] def clean_tup(l):clean (.tup l)=yq l:=rfl
@[simp] def cleans_nil:yq []=true:=rfl
@[simp] def cleans_cons(d)(l):yq (d::l)=(clean d&&yq l):=rfl
@[simp] def fzs_ints(l:List Int):fzs (l.map D.int)=l.map D.int:=by
 rw[qJ,U0];rfl
@[simp] def VY(l:List Int):frzs (l.map D.int)=true:=by
 rw[Va,List.all_map,List.all_eq_true];intro x _;rfl
theorem yQ:∀ l:List D,yq l=l.all clean
 | []=>rfl
 | d::l=>by rw[yq,yQ l];rfl
@[simp] def cleans_ints(l:List Int):yq (l.map D.int)=true:=by
 rw[yQ,List.all_map,List.all_eq_true];intro x _;rfl
@[simp] def intsD_ints(l):jaL (l.map D.int)=some l:=by
 induction l with
 | nil=>rfl
 | cons x l a=>show(jaL<|l.map D.int).bind _=_;rw[a];rfl
@[simp] def zp(l):Jy (l.map D.bl)=some l:=by
 induction l with
 | nil=>rfl
 | cons x l a=>show(Jy<|l.map D.bl).bind _=_;rw[a];rfl
@[simp] def fSum_lst(o)(l):jch [.lst o l]=(jaL l).bind λns=>some (.int ns.sum):=rfl
@[simp] def fLen_lst(o)(l):JB [.lst o l]=some (.int l.length):=rfl
@[simp] def fLen_tup(l):JB [.tup l]=some (.int l.length):=rfl
@[simp] def fList_lst(o)(l):xz [.lst o l]=bif frzs l then some (.lst true l) else none:=rfl
@[simp] def wD(o)(l):Qy (.lst o l)=some (fzs l):=rfl
@[simp] def itemsOf_tup(l):Qy (.tup l)=some (fzs l):=rfl
@[simp] def tyD_int(i):tyD (.int i)=some "int":=rfl
@[simp] def tyD_bl(i):tyD (.bl i)=some "bool":=rfl
@[simp] def tyD_str(i):tyD (.str i)=some "str":=rfl
@[simp] def tyD_non:tyD .non=some "NoneType":=rfl
@[simp] def tyD_lst(o)(l):tyD (.lst o l)=some "list":=rfl
@[simp] def tyD_tup(l):tyD (.tup l)=some "tuple":=rfl
theorem xq:∀(l m:List Int),xD (l.map D.int) (m.map D.int)=decide (l=m)
 | [],[]=>rfl
 | [],_::_=>rfl
 | _::_,[]=>rfl
 | x::l,y::m=>by
  show((x==y)&&xD (l.map D.int) (m.map D.int))=_;rw[xq l m];by_cases h:x=y<;>simp[h]
def zf(n)(l:List Int):yI n (l.map D.int)=true:=by
 rw[Qo,List.all_map,List.all_eq_true];intro x _;cases n<;>rfl
def jjs(o o')(l m:List Int):vm (.lst o<|l.map D.int) (.lst o'<|m.map D.int)=some (.bl<|decide<|l=m):=by
 show(bif okE 20 (.lst o<|l.map D.int)&&okE 20 (.lst o'<|m.map D.int) then some (D.bl<|xD (l.map D.int)<|m.map D.int) else none)=_;rw[xq];show(bif yI 19 (l.map D.int)&&yI 19 (m.map D.int) then _ else _)=_;rw[zf,zf];rfl
def jm3{c}{m}{ns:List Int}(h:m [.lst false<|ns.map D.int]=some (.bl true))(d:SqX K H a<|ns.map V.int):spP ⟨K,c⟩ m 1 [.ref a] H (λv _=>v=.bl true) E:=by
 refine⟨λb=>b=a/\H a≠none,[.lst false<|ns.map D.int],.bl true,λb e=>by rw[e.1];exact e.2,rfl,.one ?_,h,λg r=>r.bl_of.1⟩;have f:∀(l:List Int),Reps ⟨K,c⟩ (λb=>b=a/\H a≠none) H (l.map D.int) (l.map V.int) []:=by
  intro l
  induction l with
  | nil=>exact .empty
  | cons x l i=>exact .cons .int_mk i
 refine⟨a,ns.map V.int,[],rfl,f ns,⟨?_,rfl,rfl⟩⟩;rcases d with d | d
 ·refine .inl ⟨⟨rfl,?_⟩,d⟩;rcases d with d | ⟨o,d⟩<;>rw[d]<;>exact λz=>(nomatch z)
 ·exact .inr d
end QD
namespace L2
open PySem PySem.Spec PyProof.Rows
end L2
namespace QD
open PySem L2 PySem.Spec PyProof.Rows
@[simp] def isT_str(w):isT "str" (.str w)=true:=rfl
end QD
namespace QK
open PySem L2 QD PySem.Spec PyProof.Rows
section
variable {cl:Nat->Addr}{pm:List Nat}{X:Cx}{a b c e o:Expr}{es:List Expr}{ta tb tc te to:TE}{pa pb pc pe po:PF}{tr:TA}{pr:PAf}{pos:Pos}{K:W5}
variable {tg iter elt:Expr}{ifs:List Expr}{wi:TI}{pi:PAf}{t:TG}{g:D->Rh->Option Rh}
def add(c:X.K=K)(d:QB cl X a ta pa)(e:QB cl X b tb pb):QP cl X (.BinOp a .Add b pos) (tOp (jev K) ta tb) (p2 jg pa pb):=by subst c;exact jmV d e
def ix(c:X.K=K)(d:QB cl X a ta pa)(e:QB cl X b tb pb)(f:wA b:=by exact λ_ _=>rfl):QB cl X (.Subscript a b pos) (tOp (rIx K) ta tb) (p2 jc pa pb):=by subst c;exact jps d e f
def sl{lo hi}{tl th}{pl c}{b}(d:X.K=K)(e:QB cl X a ta pa)(f:QO cl X lo tl pl)(g:QO cl X hi th c):QP cl X (.Subscript a (.Slice lo hi none b) pos) (tSl (jnn K) ta tl th) (pSl pa pl c):=by subst d;exact jpf e f g
def call{k n}{ps}{m}{x}{st}{p}(c:X.K=K)(O:OkF X.prog X.w X.K X.mg x st k ps<|spP ⟨X.K,cl⟩ m n)(d:Room k X.A)
  (f:QBs cl X (e::es) tr pr) (g:(e::es).length=n:=by rfl) (h:Gl X x:=by rfl) (a:Nd x:=by decide)
  (i:SEq X e es:=by rfl) (b:BkE X pos es:=by rfl):QP cl X (.Call (.Name x p) (e::es) [] pos) (Qt (spP ⟨K,cl⟩ m n) [] E0 tr) (jl m pr):=by
 subst c;exact jgd O d f g h a i b
theorem c_notin(a:X.K=K)(c:behindInMarks .NotIn b=false):CmpR cl X .NotIn b (jj9 K true) (Y2 true):=by subst a;exact QD.c_notin c
theorem c_eq{k}(a:X.K=K)(c:Room k X.A):CmpR cl X .Eq b (λx y H Q=>rEq x y H Q\/jgn ⟨K,cl⟩ false x y H Q) vm:=by subst a;exact QD.c_eq c
theorem c_ne{k}(a:X.K=K)(c:Room k X.A):CmpR cl X .NotEq b (λx y H Q=>rNe x y H Q\/jgn ⟨K,cl⟩ true x y H Q) Y3:=by subst a;exact QD.c_ne c
def g_tup{ts}{b}{k n}(c:X.K=K)(d:X.calm=true)(h:QGs cl pm X es ts b)(e:(assignEach es X.env).length=n:=by rfl)(a:(assignEach es X.env).findIdx? (·.1)=none:=by rfl):QG cl pm X (.Tuple es k pos) (jed K n ts) (gT n b):=by subst c;exact jgk d h e a
end
end QK
namespace QD
open PySem L2 PySem.Spec PyProof.Rows
@[simp] def jac(i:Nat)(p:PAf)(ρ:Rh):Option (D×Rh):=(pV i ρ).bind λd=>(p ρ).bind λds=>bif lim (ds.length+1) then some (.tup<|d::ds,ρ.set i none) else none
def jey(t:PPs R ta p):DE R (uA<|jE (j7 i) ta) (jac i p):=by
 intro σ ρ G Z H O d w h e Q k;refine ob e λc l e=>ob e λI u e=>oc e λx e=>?_;cases e;have l:=qo l;obtain⟨A,P,B,rfl,y,J,C⟩:=h.put (L9.mp l).1;obtain⟨v,D,r⟩:=y c l;refine⟨v,D,t w.zd h u λ{vs E o F} m r1=>⟨by rw[M1,r1.length];exact Ju x,λq n=>?_⟩⟩;have s:=m.widen w;have f:=s.wf.nd;have g2:Go Z H (A++P++B) E o ((P++F)++(A++B)):=s.drop (λa q=>by simp at q ⊢;rcases q with q | q | q | q<;>simp[q]) (by
  simp only[U8,N1] at f ⊢;refine⟨⟨f.2.1.1.2.1,f.1,λa j b g e=>f.2.2 b g a (.inl<|.inr j) e.symm⟩,⟨f.2.1.1.1,f.2.1.2.1,λa j b g=>f.2.1.2.2 a (.inl j) b g⟩,λa j b g e=>?_⟩;rcases j with j | j
  ·rcases g with g | g
   ·exact f.2.1.1.2.2 b g a j e.symm
   ·exact f.2.1.2.2 a (.inr j) b g e
  ·rcases g with g | g
   ·exact f.2.2 a j b (.inl<|.inl g) e
   ·exact f.2.2 a j b (.inr g) e)
 have ne:∀ a,o a≠none->a≠q:=λa h e=>h<|e▸n;have s1:=m.slots w.zd C;refine k (g2.trans<|Go.newF g2.wf n) (Rep.tupNew g2.wf.left n<|Reps.cons (m.rep w.zd r) r1)<|s1.frame (λa z=>.inl z) (λa z=>je<|ne a<|g2.wf.zd a z) λa j=>je<|ne a<|s1.dom a j
def jhM{a}(i)  (b:QB cl X (.Name x xpos) (j7 i)<|pV i) (h:QPs cl X es tr pr) (c:starEach (.Name x xpos::es) X.env=(false,eval (.Name x xpos) X.env)::starEach es X.env:=by rfl):
  QE cl X (.Tuple (.Name x xpos::es) a pos) (uA<|jE (j7 i) tr) (jac i pr):=⟨Yb<|jt b.sem h.sem c,jey h.den⟩
structure QGo(cl:Nat->Addr)(pm:List Nat)(X:Cx)(tg:Expr)(t:TG)(g:D->Rh->Option Rh):Prop where
 sem:PG X tg t
 den:DG ⟨X.K,cl⟩ pm t g
structure QGos(cl:Nat->Addr)(pm:List Nat)(X:Cx)(tg:List Expr)(t:TGs)(g:List D->Rh->Option Rh):Prop where
 sem:PGs X tg t
 den:DGs ⟨X.K,cl⟩ pm t g
def jb3(a:X.N.Nodup)(hi:X.N[i]?=some x:=by rfl)(b:Loc X.env.scope x:=by first | exact Or.inl rfl | exact Or.inr rfl)(c:X.fn x=true\/X.env.scope.names.lookup x=some .local:=by first | exact .inl rfl | exact .inr rfl):
  QGo cl pm X (.Name x pos) (vD i) (jd pm i):=⟨YA a hi b c,Vx⟩
def jhJ:QGos cl pm X [] jd9 gN:=⟨ua,jiJ⟩
def jeN(h1:QGo cl pm X e t g)(h2:QGos cl pm X es ts gs)(a:(assignEach (e::es) X.env).map (·.2)=assign e X.env::(assignEach es X.env).map (·.2):=by rfl):QGos cl pm X (e::es) (qG t ts) (gC g gs):=⟨Jg h1.sem h2.sem a,jfQ h1.den h2.den⟩
def jl2(b:X.calm=true)(h:QGos cl pm X es ts gs)(c:(assignEach es X.env).length=n:=by rfl)(a:(assignEach es X.env).findIdx? (·.1)=none:=by rfl):QGo cl pm X (.Tuple es k pos) (jed X.K n ts) (gT n gs):=⟨jgQ b h.sem c a,jmw h.den⟩
def jjH(h:QE cl X e te fE)(a:QGo cl pm X tgt t g)(b:swapsWithSole [tgt] e pos.line X.env=pure false:=by rfl)(c:swappedStores [tgt] e X.env=pure none:=by rfl)
  (h1:(assignEach [tgt] X.env).map (·.2)=[assign tgt X.env]:=by rfl):QS cl pm X (.Assign [tgt] e pos) (jbt te t) (ju fE g):=⟨jdn h.sem a.sem b c h1,Q5 h.den a.den⟩
section
variable {R:RC}{Z Z':Zn}{H H':Hp}{pm:List Nat}
noncomputable def vC:D->Option KA
 | .int i=>some<|.int i
 | .str s=>some<|.str s
 | _=>none
def yF(e:vC d=some k)(r:Rep R Z H d v O):v=kV (kaV k)/\O=[]:=by
 cases d with
 | int i=>cases e;rw[Rep] at r;exact r
 | str s=>cases e;rw[Rep] at r;exact r
 | _=>cases e
def K5(h:kaV a=kaV b):a=b:=by
 cases a<;>cases b<;>simp only[kaV] at h
 ·cases h;rfl
 ·cases h
 ·cases h
 ·have:=jjw<|Sum.inr.inj h;rw[this]
noncomputable def Yh:List KA->List D->KA->Option D
 | k::ks,d::l,a=>if k=a then some d else Yh ks l a
 | _,_,_=>none
theorem kU:∀{ks}{l}{vs}{O}{a},Reps R Z H l vs O->ks.length=l.length ->
  (∀ d,Yh ks l a=some d->∃ v P,Kf ((ks.map kaV).zip vs) (kaV a)=some v/\Rep R Z H d v P)/\(Yh ks l a=none->Kf ((ks.map kaV).zip vs) (kaV a)=none)
 | [],l,vs,O,a,r,c=>⟨λd e=>(by cases l<;>cases e),λ_=>rfl⟩
 | k::ks,[],vs,O,a,r,c=>by simp at c
 | k::ks,x::l,vs,O,a,r,c=>by
  obtain⟨v,b,f,i,rfl,rfl,r1,r2⟩:=r;by_cases e:k=a
  ·subst e;refine⟨λd h=>?_,λh=>?_⟩
   ·simp only[Yh,if_true] at h;cases h;exact⟨v,f,JN rfl,r1⟩
   ·simp[Yh] at h
  ·have g:=λz=>e<|K5 z;have q:Kf (((k::ks).map kaV).zip (v::b)) (kaV a)=Kf ((ks.map kaV).zip b) (kaV a):=Ye g;rw[q];simp only[Yh,if_neg e];exact(kU (a:=a) r2 ⇑c)
def DkA.rd(h:DkA o H a kvs):Rd H a (.dK kvs):=by
 cases o with
 | true=>exact .inl h
 | false=>exact h
def DGet.r(e:Rd H a<|.dK kvs):DGet H a (kV k) (Kf kvs k):=.inl ⟨kvs,k,e,rfl,rfl⟩
def Rep.dK_of(r:Rep R Z H (.dK o ks l) v O):Ex3 λa vs O'=>An4 (v=.ref a) (Rd H a<|.dK<|(ks.map kaV).zip vs) (Reps R Z H l vs O') (ks.length=l.length):=by
 obtain⟨a,vs,O',rfl,b,c,d,_⟩:=r;exact⟨a,vs,O',rfl,d.rd,b,c⟩
def jiB:PP R jdO (pC<|.dK true [] []):=by
 intro σ ρ Z H O d z s e Q k;cases e;intro p a;exact k (Go.newO (wf0 z) a) ⟨p,[],[],rfl,.empty,rfl,jk,rfl⟩
def jG:D->D->Option D
 | .dK _ ks l,y=>(vC y).bind λk=>Yh ks l k
 | _,_=>none
def jiL(c:PB R td pa)(f:PB R ty pb):PB R (jhY td ty) (p2 jG pa pb):=by
 intro σ ρ Z H O d z s e Q k;refine ob e λx g e=>ob e λy e2 e=>(c z s g λ{v m n q} b r1=>(f b.wf.zd (b.slots z s) e2 λ{u t A B} g2 r2=>?_));cases x with
 | dK o C l=>
  refine ob e λa e3 e=>?_;obtain⟨p,vs,D,rfl,h,i,j⟩:=(g2.rep b.wf.zd r1).dK_of;obtain⟨rfl,_⟩:=yF e3 r2;obtain⟨w,P,ew,rw⟩:=(kU i j).1 d e;exact⟨p,w,rfl,ew▸DGet.r h,k (b.pair g2) rw⟩
 | _=>cases e
def zP(x y z:D):Option D:=match x with
 | .dK _ ks l=>(vC y).bind λk=>some<|(Yh ks l k).getD z
 | _=>none
@[simp] def p3(g:D->D->D->Option D)(pa:PF)(pb:PF)(pc:PF)(ρ:Rh):Option D:=(pa ρ).bind λx=>(pb ρ).bind λy=>(pc ρ).bind λz=>g x y z
def jf5(j:PB R td pa)(m:PB R ty pb)(n:PB R tx pc):PB R (zX td ty tx) (p3 zP pa pb pc):=by
 intro σ ρ Z H O d z s e Q k;refine ob e λx q e=>ob e λy e2 e=>ob e λc A e=>?_;cases x with
 | dK o B l=>
  refine ob e λa e3 e=>?_;cases e;refine j z s q λ{v I J K} i r1=>?_;obtain⟨p,vs,L,rfl,C,M,N⟩:=r1.dK_of;refine⟨p,rfl,.inl ⟨_,C⟩,(m i.wf.zd (i.slots z s) e2 λ{u S T U} g2 r2=>?_)⟩;have b:=i.pair g2;refine n g2.wf.zd (b.slots z s) A λ{t Z3 V W} g3 D=>?_;obtain⟨X,E,F,G,f,g,h,_⟩:=((g2.pair g3).rep i.wf.zd r1);cases G;obtain⟨rfl,_⟩:=yF e3 r2;cases ev:Yh B l a with
  | none=>exact⟨none,(kU f g).2 ev▸DGet.r h.rd,k (b.pair g3)<|by rw[ev];exact D⟩
  | some d=>
   obtain⟨w,P,ew,rw⟩:=(kU f g).1 d ev;exact⟨some w,ew▸DGet.r h.rd,k (b.pair g3)<|by rw[ev];exact rw⟩
 | _=>cases e
def xE(neg:Bool)(y x:D):Option D:=match x with
 | .dK _ ks l=>(vC y).bind λk=>some<|.bl<|neg != (Yh ks l k).isSome
 | _=>none
def jfz{f ty}{pa pb}{b}(j:PB R ty pa)(m:PB R f pb){σ}{ρ}{Z}{H}{O}{d}(z:Zd Z H)(s:Slots R Z H ρ σ O)(e:p2 (xE b) pa pb ρ=some d)
  {Q:VK}(k:∀{v}{Z'}{H'}{P},Go Z H [] Z' H' P->Rep R Z' H' d v P->Q v H'):ty σ H λy H1=>f σ H1 λx H2=>∃ a o,x=.ref a/\DGet H2 a y o/\Q (.bl<|b != o.isSome) H2:=by
 refine ob e λy n e=>ob e λx e2 e=>(j z s n λ{v A H1 B} c r1=>(m c.wf.zd (c.slots z s) e2 λ{u C H2 D} g2 r2=>?_));cases x with
 | dK o q l=>
  refine ob e λa e3 e=>?_;cases e;obtain⟨p,vs,E,rfl,g,h,i⟩:=r2.dK_of;obtain⟨rfl,_⟩:=yF e3 r1;cases ev:Yh q l a with
  | none=>
   refine⟨p,none,rfl,(kU h i).2 ev▸DGet.r g,k (c.pair g2) ?_⟩;rw[ev];exact .bl_mk
  | some d=>
   obtain⟨w,P,ew,t⟩:=(kU h i).1 d ev;refine⟨p,some w,rfl,ew▸DGet.r g,k (c.pair g2) ?_⟩;rw[ev];exact .bl_mk
 | _=>cases e
def jc6{a ty}{pa pb}(b:PB R ty pa)(c:PB R a pb):PP R (QX ty a) (p2 (xE true) pa pb):=λz s e _ k=>by
 have:=jfz b c z s e k;simpa [QX] using this
noncomputable def ja4:List KA->List D->KA->D->List D
 | k::ks,x::l,a,d=>(if k=a then d else x)::ja4 ks l a d
 | _,_,_,_=>[]
theorem jav:∀{ks}{l} a d,ks.length=l.length->(ja4 ks l a d).length=l.length
 | [],[],_,_,_=>rfl
 | [],_::_,_,_,h=>by simp at h
 | _::_,[],_,_,h=>by simp at h
 | k::ks,x::l,a,d,h=>by rw[ja4,M1,M1,jav a d ⇑h]
theorem jat(rd:Rep R Z H d v [])(a):∀{ks}{l}{vs}{O},Reps R Z H l vs O->ks.length=l.length ->
  Ex2 λvs2 O2=>An3 (Reps R Z H (ja4 ks l a d) vs2 O2) ((ks.map kaV).zip vs2=((ks.map kaV).zip vs).map (λkv=>if kv.1=kaV a then(kv.1,v) else kv))<|O2.Sublist O
 | [],[],vs,O,r,b=>by
  obtain⟨rfl,rfl⟩:=r;exact⟨[],[],.empty,rfl,.slnil⟩
 | [],_::_,_,_,_,h=>by simp at h
 | _::_,[],_,_,_,h=>by simp at h
 | k::ks,x::l,vs,O,r,b=>by
  obtain⟨w,g,i,O2,rfl,rfl,r1,r2⟩:=r;obtain⟨c,f,r3,e3,sl⟩:=jat rd a r2 ⇑b;by_cases e:k=a
  ·subst e;refine⟨v::c,[]++f,?_,?_,(sl.trans<|List.sublist_append_right _ _)⟩
   ·rw[ja4,if_pos rfl];exact Reps.cons rd r3
   ·simp only[L5,U6,if_true,e3]
  ·have j:=λz=>e<|K5 z;refine⟨w::c,i++f,?_,?_,(List.Sublist.append (List.Sublist.refl _) sl)⟩
   ·rw[ja4,if_neg e];exact Reps.cons r1 r3
   ·simp only[L5,U6,if_neg j,e3]
theorem wL(a):∀{ks:List KA}{vs:List V},ks.length=vs.length->(((ks.map kaV).zip vs).any λkv=>decide<|kv.1=kaV a)=decide (a∈ks)
 | [],vs,_=>by simp
 | k::ks,[],h=>by simp at h
 | k::ks,v::vs,h=>by
  rw[L5,U6,List.any_cons,wL a ⇑h];by_cases e:k=a
  ·subst e;simp
  ·have b:¬ (kaV k=kaV a):=λz=>e<|K5 z;have e2:¬ (a=k):=λz=>e z.symm;simp[b,e2]
def kn(ks:List KA)(l:List D)(a:KA)(d:D):List KA×List D:=if a∈ks then(ks,ja4 ks l a d) else(ks++[a],l++[d])
def Y4(rd:Rep R Z H d v [])(a)  (r:Reps R Z H l vs O) (b:ks.length=l.length):
  Ex2 λvs2 O2=>An4 (Reps R Z H (kn ks l a d).2 vs2 O2) ((((kn ks l a d).1).map kaV).zip vs2=JM ((ks.map kaV).zip vs) (kaV a) v) (O2.Sublist O) ((kn ks l a d).1.length=(kn ks l a d).2.length):=by
 have c:ks.length=vs.length:=by rw[r.length];exact b
 unfold kn JM;rw[wL a c];by_cases e:a∈ks
 ·rw[if_pos e,X0 e,if_pos rfl];obtain⟨f,P,r2,e2,sl⟩:=jat rd a r b;exact⟨f,P,r2,e2,sl,by rw[jav a d b];exact b⟩
 ·rw[if_neg e,X1 e,if_neg<|λz=>(nomatch z)];refine⟨vs++[v],O++[],r.append<|Reps.one rd,?_,by simp,by simp[b]⟩;rw[N4,List.zip_append ⇑c];rfl
@[simp] def Jq(i:Nat)(pk:PF)(pv:PF)(ρ:Rh):Option Out:=(pv ρ).bind λd=>(pV i ρ).bind λx=>(jeb x).bind λp=>(pk ρ).bind λy=>(vC y).bind λa=>bif frz d&&lim p.1.length then some (.nx<|ρ.set i<|some<|.dK true (kn p.1 p.2 a d).1 (kn p.1 p.2 a d).2) else none
def VE{ks:List α}{vs:List V}{f:α->β}(h:lim ks.length=true):((ks.map f).zip vs).length<sizeLine:=by rw[List.length_zip,L1];exact X8 (Nat.min_le_left _ _)<|uN h
def jhT{i}{ty tv}{pk pv}(n:PB R ty pk)(p:PB R tv pv):DS R pm (wq (j7 i) ty tv) (Jq i pk pv):=by
 intro σ ρ Z H O o w s e D k;refine ob e λd q e=>ob e λx r e=>ob e λ⟨E,l⟩ f e=>ob e λy e2 e=>ob e λc e3 e=>oc e λg e=>?_;cases e;cases x8 f;rw[M0] at g;refine p w.zd s q λ{u F G I} b r1=>?_;cases r1.nil g.1;have s1:=b.slots w.zd s;have m:=b.widen w;refine qN Jz m.wf s1 r rfl jby λa _ vs J v h z A put=>A<|n b.wf.zd s1 e2 λ{t K L M} g2 r2=>?_;obtain⟨rfl,_⟩:=yF e3 r2;obtain⟨B,N,r3,f,sl,j⟩:=Y4 (g2.rep b.wf.zd r1) c (g2.reps b.wf.zd v) h;obtain⟨P,g3,C⟩:=put jby j g2 r3 ⇑sl.count_le;refine⟨a,_,rfl,DPut.k (g2.at0 z)<|VE g.2,?_⟩;rw[<- f];exact k (m.trans g3) C<|Keep.refl _ _
end
def jlT:QP cl X (.Dict [] [] pos) jdO (pC<|.dK true [] []):=⟨jfW,jiB⟩
def jmm(e:Room k X.A)(c:QB cl X a ta pa)(d:QB cl X b tb pb)(f:jok b:=by exact λ_ _=>rfl):QB cl X (.Subscript a b pos) (jhY ta tb) (p2 jG pa pb):=⟨jig (VO e) c.sem d.sem f,jiL c.den d.den⟩
def jh5(d:Room k X.A)(a:QB cl X o to po)(b:QB cl X e te pe)(c:QB cl X f tf pf)(m:M2 X o "get" apos e f cpos:=by exact⟨rfl,rfl,rfl,rfl⟩):
  QB cl X (.Call (.Attribute o "get" apos) [e,f] [] cpos) (zX to te tf) (p3 zP po pe pf):=⟨uD (VO d) a.sem b.sem c.sem m,jf5 a.den b.den c.den⟩
def jio(d:Room k X.A)(f:QB cl X (.Name x xpos) (j7 i)<|pV i)(a:QB cl X b tb pb)(c:QB cl X e te pe)(g:swapsWith e (some<|.Subscript (.Name x xpos) b pos') pos.line X.env=pure false:=by rfl):
  QS cl pm X (.Assign [.Subscript (.Name x xpos) b pos'] e pos) (wq (j7 i) tb te) (Jq i pb pe):=⟨wy (VO d) f.sem a.sem c.sem g,jhT a.den c.den⟩
@[simp] def keyOf_int(i):vC (.int i)=some (.int i):=rfl
@[simp] def keyOf_str(s):vC (.str s)=some (.str s):=rfl
@[simp] def opDIx_e(o)(ks)(l)(y):jG (.dK o ks l) y=(vC y).bind λk=>Yh ks l k:=rfl
@[simp] def opDGet_e(o)(ks)(l)(y z):zP (.dK o ks l) y z=(vC y).bind λk=>some ((Yh ks l k).getD z):=rfl
@[simp] def opDIn_e(a o)(ks)(l)(y):xE a y (.dK o ks l)=(vC y).bind λk=>some (.bl<|a != (Yh ks l k).isSome):=rfl
def jia{P}{w}{K}{cl}{mg}{base}{k n}{f}{fd}{ps}:FnOk P w K mg base CX0 k f fd ps (spP ⟨K,cl⟩ (λ_=>none) n):=
 ⟨λvs H Q E ⟨_,_,_,_,_,_,h,_⟩=>(nomatch h),λA outer s H a b vs Q E _ _ _ _ ⟨_,_,_,_,_,_,h,_⟩=>(nomatch h)⟩
def VC:List D->Option (List<|KA×D)
 | []=>some []
 | .tup [k,v]::l=>(vC k).bind λa=>(VC l).bind λr=>some<|(a,v)::r
 | _::_=>none
def uo(ps:List<|KA×D):List KA×List D:=ps.foldl (λacc kv=>kn acc.1 acc.2 kv.1 kv.2) ([],[])
def vO:List D->Option D
 | [.lst _ l]=>(VC l).bind λps=>bif frzs (ps.map (·.2))&&lim ps.length then some (.dK true (uo ps).1 (uo ps).2) else none
 | _=>none
def jaP:∀{l}{ps}{ys}{O},VC l=some ps->Reps R Z H l ys O->frzs (ps.map (·.2))=true ->
  ∃(ws:List V),An3 (Reps R Z H (ps.map (·.2)) ws []) (ys.length=ps.length) (∀(j:Nat) y,ys[j]?=some y->∃ kv t,((ps.map λp=>kaV p.1).zip ws)[j]?=some kv/\y=.ref t/\SqT R.K H t [kV kv.1,kv.2]):=by
 intro l
 induction l with
 | nil=>
  intro ps ys O e r b;cases e;obtain⟨rfl,rfl⟩:=r;exact⟨[],.empty,rfl,λj y c=>by simp at c⟩
 | cons d l h=>
  intro ps ys O e r b
  match d,e with
  | .tup [k,v],e=>
   refine ob e λa i e=>ob e λm e2 e=>?_;cases e;obtain⟨B,n,C,D,rfl,rfl,r1,r2⟩:=r;rw[L5,Yc,M0] at b;obtain⟨ws,f,o,q⟩:=h e2 r2 b.2;obtain⟨t,vs,rfl,s,x⟩:=r1;obtain⟨u,w,E,F,rfl,-,z,g⟩:=x.two_of;obtain⟨rfl,_⟩:=yF i z;have A:=g.nil b.1;subst A;refine⟨w::ws,Reps.cons g f,by simp[o],λj y c=>?_⟩;cases j with
   | zero=>
    cases c;exact⟨(kaV a,w),t,rfl,rfl,s.sq⟩
   | succ j=>exact q j y ⇑c
def jdN:∀{ps:List (KA×D)}{ws}{ks}{l}{us},Reps R Z H (ps.map (·.2)) ws []->Reps R Z H l us []->ks.length=l.length ->
  ∃ us',An3 (Reps R Z H (ps.foldl (λacc kv=>kn acc.1 acc.2 kv.1 kv.2) (ks,l)).2 us' []) ((((ps.foldl (λacc kv=>kn acc.1 acc.2 kv.1 kv.2) (ks,l)).1).map kaV).zip us'=(((ps.map λp=>kaV p.1).zip ws).foldl (λa kv=>JM a kv.1 kv.2) ((ks.map kaV).zip us))) ((ps.foldl (λacc kv=>kn acc.1 acc.2 kv.1 kv.2) (ks,l)).1.length=(ps.foldl (λacc kv=>kn acc.1 acc.2 kv.1 kv.2) (ks,l)).2.length):=by
 intro ps
 induction ps with
 | nil=>
  intro ws ks l us b r c;exact⟨us,r,by simp,c⟩
 | cons p ps g=>
  intro ws ks l us b r c;obtain⟨w,h,m,n,rfl,e,r1,r2⟩:=b;obtain⟨rfl,rfl⟩:=List.append_eq_nil_iff.mp e.symm;obtain⟨i,o,r3,e3,sl,d⟩:=Y4 r1 p.1 r c;have:=List.sublist_nil.mp sl;subst this;obtain⟨us',j,k,f⟩:=g r2 r3 d;refine⟨us',j,?_,f⟩;rw[L5,U6,U9,U9,k,e3]
def jjv:BC R (λxs H Q=>∃(p:Addr) (ys:List V) (ps:List<|Key×V),xs=[.ref p]/\SqL R.K H p ys/\ys.length=ps.length/\ps.length<=100000 /\
  (∀(j:Nat) y,ys[j]?=some y->∃ kv t,ps[j]?=some kv/\y=.ref t/\SqT R.K H t [kV kv.1,kv.2])/\∀ D,H D=none->Q (.ref D) (upd H D<|.dK<|ps.foldl (λa kv=>JM a kv.1 kv.2) [])) vO:=by
 intro Z H xs d vs O z r e Q k
 match xs,e,r with
 | [.lst o l],e,r=>
  refine ob e λps s e=>oc e λf e=>?_;cases e;rw[M0] at f;obtain⟨v,rfl,r1⟩:=r.one_of;obtain⟨p,ys,E,rfl,u,w⟩:=r1.lst_of;obtain⟨m,b,A,q⟩:=jaP s w f.1;obtain⟨g,B,C,i⟩:=jdN (ks:=[]) b .empty rfl;have c:m.length=ps.length:=by rw[b.length];simp
  refine⟨p,ys,(ps.map λp=>kaV p.1).zip m,rfl,u.sq,by simp[A,c],by simp[c];exact X2 f.2,q,λD n=>?_⟩;refine k (Go.newO (wf0 z) n) ?_;have ne:∀ a,H a≠none->a≠D:=λa h e=>h<|e▸n;exact⟨D,g,[],rfl,B.frame (λa z=>z) (λa h=>je<|ne a<|z a h)<|λa h=>(nomatch h),i,by show upd H D _ D=some _;rw[jk];exact congrArg (λx=>some<|HO.dK x) C.symm,rfl⟩
@[simp] def fDict_e(o)(l):vO [.lst o l]=(VC l).bind λps=>bif frzs (ps.map (·.2))&&lim ps.length then some (.dK true (uo ps).1 (uo ps).2) else none:=rfl
end QD
namespace QK
open PySem L2 QD PySem.Spec PyProof.Rows
end QK
namespace QD
open PySem L2 PySem.Spec PyProof.Rows
theorem Reps.rev:∀{l}{vs},Reps R Z H l vs []->Reps R Z H l.reverse vs.reverse []
 | [],vs,r=>by
  obtain⟨rfl,_⟩:=r;exact .empty
 | d::l,vs,r=>by
  obtain⟨v,a,b,c,rfl,e,r1,r2⟩:=r;obtain⟨rfl,rfl⟩:=List.append_eq_nil_iff.mp e.symm;rw[List.reverse_cons,List.reverse_cons];exact(Reps.rev r2).append (.one r1)
@[simp] def jo1(i:Nat)(ρ:Rh):Option Out:=(pV i ρ).bind λx=>(zC x).bind λl=>bif frzs l then some (.nx<|ρ.set i<|some<|.lst true l.reverse) else none
def jmz:DS R pm (Ys<|jns R.K "list" QH<|j7 i) (jo1 i):=by
 intro σ ρ Z H O o w s e j k;refine ob e λx d e=>ob e λl f e=>oc e λg e=>?_;cases e;cases Y1 f;unfold Ys jns;refine qN (P0:=[]) Jz w s d rfl YQ λa _ vs m b _ c h put=>h ⟨.inl ⟨rfl,vs,SqL.of c⟩,?_⟩;cases b.nil g;obtain⟨n,g2,s2⟩:=put YQ trivial (Go.id w.zd) b.rev λq=>by simp
 exact⟨a,vs,rfl,rfl,c,k g2 s2<|Keep.refl _ _⟩
def jmr(c:QB cl X (.Name x xpos) (j7 i)<|pV i)
  (a:attributeBase (.Name x xpos) "reverse" X.env (eval (.Name x xpos) X.env)=eval (.Name x xpos) X.env:=by rfl) (b:(apos.endLine==cpos.line)=true:=by rfl)
  (hsw:swapsWith (.Call (.Attribute (.Name x xpos) "reverse" apos) [] [] cpos) none pos.line X.env=pure false:=by rfl):
  QS cl pm X (.Expr (.Call (.Attribute (.Name x xpos) "reverse" apos) [] [] cpos) pos) (Ys<|jns X.K "list" QH<|j7 i) (jo1 i):=
 ⟨Vs (jlV PySem.F.plainAttrs_list PySem.F.slot_list_reverse PySem.F.type_list_reverse jbD c.sem a b) hsw,jmz⟩
end QD
namespace L2
open PySem PySem.Spec PyProof.Rows
def zQ:kD X (.builtin "isinstance") (λxs H Q=>∃ x p T1 T2 t b,xs=[x,.ref p]/\SqT X.K H p [.ty T1,.ty T2]/\TyQ X.K H x t/\PySem.W.kitAny X.K (.type t) [.type T1,.type T2]=some b/\Q (.bl b) H):=by
 intro f s σ H xs G Q I r h;obtain⟨x,p,T1,T2,t,b,rfl,sq,ty,e,q⟩:=h;obtain⟨u,v,rfl,r1,r2⟩:=r.two;cases(r2);obtain⟨g,m,⟨o,d,w,n,A⟩,_⟩:=I.tuple sq;obtain⟨w1,w2,rfl,B,C⟩:=m.two;cases B;cases C;obtain⟨oc,od,D,E⟩:=o;cases w;cases A;have c:∀ l,EP X f σ Q (.bool b) {s with toks:=l}:=λl=>⟨.bl b,H,I.tok l,rfl,q⟩;cases ty with
 | non=>cases(r1);exact PySem.W.kia_tup PySem.W.kitx_none I.kIn True.intro d e (λz=>nomatch z) c
 | bl y=>cases(r1);exact PySem.W.kia_tup PySem.W.kitx_bool I.kIn True.intro d e (λz=>nomatch z) c
 | int i=>obtain⟨t,q⟩:=(r1);cases q;exact PySem.W.kia_tup PySem.W.kitx_int I.kIn True.intro d e (λz=>nomatch z) c
 | str y=>obtain⟨t,q⟩:=(r1);cases q;exact PySem.W.kia_tup PySem.W.kitx_str I.kIn True.intro d e (λz=>nomatch z) c
 | @lst a xs j=>
  cases(r1);obtain⟨g,_,⟨o,n,k,g2,_,_⟩,_⟩:=I.list j;exact PySem.W.kia_tup PySem.W.kitx_list I.kIn ⟨o,k,g2⟩ d e (λz=>nomatch z) c
 | @tup a xs j=>
  cases(r1);obtain⟨g,_,⟨o,k,g2,_⟩,_⟩:=I.tuple j;exact PySem.W.kia_tup PySem.W.kitx_tuple I.kIn ⟨o,k,g2⟩ d e (λz=>nomatch z) c
 | @dK a F j=>
  cases(r1);obtain⟨_,_,vs,_,p⟩:=(I.hok a _ j);obtain⟨o,J,L,k,g2,_⟩:=p;exact PySem.W.kia_tup PySem.W.kitx_dict I.kIn ⟨o,k,g2.1⟩ d e (λz=>nomatch z) c
end L2
namespace QD
open PySem L2 PySem.Spec PyProof.Rows
def jaR(T1 T2:String)(p:PF):PF:=λρ=>match p ρ with
 | none=>none
 | some d=>match tyD d with
  | none=>none
  | some t=>some<|.bl<|JQ t T1||JQ t T2
def jhv(K)  (a:t∈["NoneType","bool","int","str","tuple","list","dict"]) (h1:T1∈["bool","int","str","tuple","list","dict"]) (h2:T2∈["bool","int","str","tuple","list","dict"]):
  PySem.W.kitAny K (.type t) [.type T1,.type T2]=some (JQ t T1||JQ t T2):=by
 unfold PySem.W.kitAny;rw[uj K a h1];cases JQ t T1 with
 | true=>rfl
 | false=>
  unfold PySem.W.kitAny;rw[uj K a h2];cases JQ t T2<;>rfl
abbrev jpy(K:W5):List V->Hp->VK->Prop:=λxs H Q=>∃ x p T1 T2 t b,xs=[x,.ref p]/\SqT K H p [.ty T1,.ty T2]/\TyQ K H x t/\PySem.W.kitAny K (.type t) [.type T1,.type T2]=some b/\Q (.bl b) H
abbrev jph(T1 T2:String):TE:=uA<|jE (tC<|.ty T1)<|jE (tC<|.ty T2) Yi
def jhS(b:T1∈["bool","int","str","tuple","list","dict"])(c:T2∈["bool","int","str","tuple","list","dict"])  (h:PB R te p):
  PP R (tCB (jpy R.K)<|jE te<|jE (jph T1 T2) Yi) (jaR T1 T2 p):=by
 intro σ ρ Z H O d z s e Q k;unfold jaR at e;cases e1:p ρ with
 | none=>rw[e1] at e;cases e
 | some x=>
  rw[e1] at e;dsimp only at e;cases e2:tyD x with
  | none=>rw[e2] at e;cases e
  | some t=>
   rw[e2] at e;cases e;refine h z s e1 λ{v j m n} a r1=>⟨show 2<=sizeLine by decide,λl f=>?_⟩;obtain⟨g,i⟩:=(Go.rep a.wf.zd (Go.newF (o:=.tup [.ty T1,.ty T2]) (wf0 a.wf.zd) f) r1).ty e2;exact⟨v,l,T1,T2,t,_,rfl,.inl<|.inl<|by simp[upd],g,jhv _ i b c,k (a.trans<|Go.newF a.wf f) .bl_mk⟩
def jke{X}{cl}{a}{ta}{pa}{pos}{f g}{c b}{p p1 p2 p3}{n}(h:f∈["bool","int","str","tuple","list","dict"])(i:g∈["bool","int","str","tuple","list","dict"])(w:X.mg "isinstance" = none)
  (j:X.mg c=none) (k:bootBuiltins c=some (.type f)) (l:X.mg b=none) (m:bootBuiltins b=some (.type g)) (u:QB cl X a ta pa)
  (x:Gl X "isinstance":=by rfl) (o:Gl X c:=by rfl) (q:Gl X b:=by rfl)
  (r:c≠"__name__":=by decide) (d:Nd c:=by decide) (s:b≠"__name__":=by decide) (e:Nd b:=by decide)
  (v:starEach [a,.Tuple [.Name c p1,.Name b p2] n p3] X.env=(false,eval a X.env)::starEach [.Tuple [.Name c p1,.Name b p2] n p3] X.env:=by rfl)
  (t:(backTo pos<|starEach [.Tuple [.Name c p1,.Name b p2] n p3] X.env).any (·.1)=false:=by rfl)
  (y:starEach [.Tuple [.Name c p1,.Name b p2] n p3] X.env=(false,eval (.Tuple [.Name c p1,.Name b p2] n p3) X.env)::starEach [] X.env:=by rfl)
  (h1:starEach [.Name c p1,.Name b p2] X.env=(false,eval (.Name c p1) X.env)::starEach [.Name b p2] X.env:=by rfl)
  (h2:starEach [.Name b p2] X.env=(false,eval (.Name b p2) X.env)::starEach [] X.env:=by rfl):
  QP cl X (.Call (.Name "isinstance" p) [a,.Tuple [.Name c p1,.Name b p2] n p3] [] pos) (tCB (jpy X.K)<|jE ta<|jE (jph f g) Yi) (jaR f g pa):=
 ⟨YW zQ x w qm (jt u.sem (jt (Yb<|jt (xZ o j k rfl r d) (jt (xZ q l m rfl s e) vA h2) h1) vA y) v) (by decide) (by decide) v t,jhS h i u.den⟩
@[simp] def pIsI2_e:jaR T1 T2 pa ρ=(pa ρ).bind λd=>(tyD d).bind λt=>some (.bl<|JQ t T1||JQ t T2):=by
 unfold jaR;cases pa ρ with
 | none=>rfl
 | some d=>dsimp only[Option.bind];cases tyD d<;>rfl
def Go.frz1(w:WF Z H<|a::O):Go Z H (a::O) (λb=>Z b\/b=a) H O:=by
 have nd:=List.nodup_cons.mp w.nd;refine⟨⟨nd.2,λb c z=>?_,λb c=>w.od b<|L6 _ c,λb z=>?_⟩,λb z=>.inl z,λ_ _ _=>rfl,λb z=>?_,λb c=>.inl<|L6 _ c,λ_ h=>h⟩
 ·rcases z with z | rfl
  ·exact w.nz b (L6 _ c) z
  ·exact nd.1 c
 ·rcases z with z | rfl
  ·exact w.zd b z
  ·exact w.od b L7
 ·rcases z with z | rfl
  ·exact .inl z
  ·exact .inr<|.inl L7
structure QDs(cl:Nat->Addr)(X:Cx)(es:List Expr)(ta:TA)(f:FA):Prop where
 sem:PA X es ta
 den:DA ⟨X.K,cl⟩ ta f
def jkS:QDs cl X [] Yi jjk:=⟨vA,jkX⟩
def jhq(h1:QE cl X e te fE)(h2:QDs cl X es tr fr)(a:SEq X e es:=by rfl):QDs cl X (e::es) (jE te tr) (kB fE fr):=⟨jt h1.sem h2.sem a,jiQ h1.den h2.den⟩
def jme{a}(h:QDs cl X es tr fr):QE cl X (.Tuple es a pos) (uA tr) (jgy fr):=⟨Yb h.sem,jku h.den⟩
@[simp] def dTup_e:jgy fa ρ=(fa ρ).bind λx=>bif decide (x.1.length<=1000) then some (.tup x.1,x.2) else none:=by
 unfold jgy dCB;cases fa ρ with
 | none=>rfl
 | some x=>
  obtain⟨d,r⟩:=x;dsimp only[Option.bind];cases decide (d.length<=1000)<;>rfl
section
variable {R:RC}{Z Z':Zn}{H H':Hp}{pm:List Nat}
@[simp] def jdg(i:Nat)(pk:PF)(g:Int->Int->Int)(pv:PF)(ρ:Rh):Option Out:=(pk ρ).bind λy=>(vC y).bind λc=>(pV i ρ).bind λx=>(jeb x).bind λkl=>(Yh kl.1 kl.2 c).bind λm=>(vn m).bind λm=>(pv ρ).bind λn=>(vn n).bind λn=>
  bif lim kl.1.length then some (.nx<|ρ.set i<|some<|.dK true (kn kl.1 kl.2 c<|.int<|g m n).1 (kn kl.1 kl.2 c<|.int<|g m n).2) else none
def vz(i:Nat)(L:Ln)(pk:PF)(g:Int->Int->Int)(pv:PF)(ρ:Rh):Option Out:=(pk ρ).bind λy=>(vC y).bind λc=>(pV i ρ).bind λt=>(L t).bind λy=>(jeb y.1).bind λkl=>(Yh kl.1 kl.2 c).bind λm=>(vn m).bind λm=>(pv ρ).bind λn=>(vn n).bind λn=>
  bif lim kl.1.length then some (.nx<|ρ.set i<|some<|y.2<|.dK true (kn kl.1 kl.2 c<|.int<|g m n).1 (kn kl.1 kl.2 c<|.int<|g m n).2) else none
def Qz{i}{L}{tb ty tv}{pk pv}{g}{rd}(j:∀{m n}{H}{Q},Q (.int<|g m n) H->rd (.int m) (.int n) H Q)(C:jeg R tb i L)(D:PB R ty pk)(E:PB R tv pv):DS R pm (xg tb ty tv rd) (vz i L pk g pv):=by
 intro σ ρ Z H O o w s e S k;refine ob e λq F e=>ob e λc e5 e=>ob e λt hi e=>ob e λ⟨y,T⟩ e3 e=>ob e λ⟨U,l⟩ G e=>ob e λx I e=>ob e λm J e=>ob e λV K e=>ob e λn e2 e=>oc e λd e=>?_;cases e;cases x8 G;cases jM J;cases jM e2;refine qN (P0:=[]) C w s hi e3 jby λa _ vs W A f B M put=>M<|D w.zd s F λ{z X Y P1} h r1=>?_;obtain⟨rfl,_⟩:=yF e5 r1;obtain⟨mv,P3,p,r⟩:=(kU A f).1 _ I;obtain⟨rfl,_⟩:=r.int_of;refine⟨a,.int m,rfl,by rw[<- p];exact DGet.k<|h.at0 B,E h.wf.zd (h.slots w.zd s) K λ{u Z2 H2 P4} g2 r2=>?_⟩;obtain⟨rfl,_⟩:=r2.int_of;have b:=h.trans g2;obtain⟨N,O2,r3,e7,sl,v⟩:=Y4 (Rep.int_mk) c (b.reps w.zd A) f;obtain⟨O3,gF,P⟩:=put jby v b r3 ⇑sl.count_le;refine j ⟨_,DPut.k (b.at0 B)<|VE d,?_⟩;rw[<- e7];exact k gF P<|Keep.refl _ _
def jhK{i}{ty tv}{pk pv}{g}{rd}(a:∀{m n}{H}{Q},Q (.int<|g m n) H->rd (.int m) (.int n) H Q)(b:PB R ty pk)(c:PB R tv pv):DS R pm (xg (j7 i) ty tv rd) (jdg i pk g pv):=Qz a Jz b c
noncomputable def kaD:KA->D
 | .int i=>.int i
 | .str s=>.str s
@[simp] def yB(pd:PF)(ρ:Rh):Option D:=(pd ρ).bind λd=>(jeB d).bind λk=>bif frzs k.2 then some (.lst true<|(k.1.zip k.2).map λp=>.tup [kaD p.1,p.2]) else none
def VG(a):Rep R Z H (kaD a) (kV<|kaV a) []:=by
 cases a with
 | int i=>exact .int_mk
 | str s=>exact .str_mk
def jcL(h:PB R td pd):PP R (wG td) (yB pd):=by
 intro σ ρ Z H O d z s e Q k;refine ob e λx e1 e=>ob e λ⟨y,l⟩ e2 e=>oc e λhf e=>?_;cases e;obtain⟨o,rfl⟩:=uE e2;refine h z s e1 λ{v F A P} g r=>?_;obtain⟨a,vs,O',rfl,rs,G,ea,f⟩:=r;refine⟨a,_,rfl,(by cases o with | true=>exact .inl ea | false=>exact ea),λt m N D S has=>?_⟩;have n:=List.nodup_cons.mp S;have M:∀ b,A b≠none->jW A m ((y.map kaV).zip vs) t b=A b:=λb f=>by
  unfold jW;rw[if_neg λq=>f<|by rw[q];exact N,qg λq=>f<|has b q]
 have zd:=g.wf.zd;have I:∀ b∈m,jW A m ((y.map kaV).zip vs) t b≠none:=λb f=>by
  obtain⟨j,hj⟩:=List.mem_iff_getElem?.mp f;have T:j<((y.map kaV).zip vs).length:=by rw[<- D];exact(L9.mp hj).1
  unfold jW;rw[if_neg<|show ¬ b=t from λq=>n.1<|q▸f,Qc n.2 hj<|X5 T];exact λz=>nomatch z
 have J:jW A m ((y.map kaV).zip vs) t t=some (.lst<|m.map V.ref):=by unfold jW;rw[if_pos rfl]
 have g2:Go F A [] (λb=>F b\/b∈m) (jW A m ((y.map kaV).zip vs) t) [t]:=by
  refine⟨⟨by simp,λb f q=>?_,λb f=>?_,λb q=>?_⟩,λb q=>.inl q,λb f _=>M b f,λb q=>?_,λb f=>?_,λb f=>?_⟩
  ·rw[M7.mp f] at q;rcases q with q | q
   ·exact zd _ q N
   ·exact n.1 q
  ·rw[M7.mp f,J];exact λz=>nomatch z
  ·rcases q with q | q
   ·rw[M b<|zd b q];exact zd b q
   ·exact I b q
  ·rcases q with q | q
   ·exact .inl q
   ·exact .inr<|.inr<|has b q
  ·rw[M7.mp f];exact .inr N
  ·rw[M b f];exact f
 refine k (g.trans g2) ⟨t,m.map V.ref,[],rfl,?_,J,rfl⟩;have U:Reps R (λb=>F b\/b∈m) (jW A m ((y.map kaV).zip vs) t) l vs []:=(rs.frozen hf).frame (λb q=>.inl q) (λb q=>M b<|zd b q) (λb f=>nomatch f);have key:∀(w:W6) (i:List KA) E B,Reps R (λb=>F b\/b∈m) (jW A m ((y.map kaV).zip vs) t) E B []->i.length=E.length->w.length=i.length ->
   (∀(j:Nat) b c u,w[j]?=some b->i[j]?=some c->B[j]?=some u->b∈m/\jW A m ((y.map kaV).zip vs) t b=some (.tup [kV<|kaV c,u])) ->
   Reps R (λb=>F b\/b∈m) (jW A m ((y.map kaV).zip vs) t) ((i.zip E).map λp=>.tup [kaD p.1,p.2]) (w.map V.ref) []:=by
  intro w
  induction w with
  | nil=>
   intro i E B _ W C _;have:=List.length_eq_zero_iff.mp C.symm;subst this;exact .empty
  | cons b w ih=>
   intro i E B rr W C hp;cases i with
   | nil=>simp at C
   | cons c i=>
    cases E with
    | nil=>simp at W
    | cons d E=>
     obtain⟨u,K,O1,O2,rfl,eO,r1,r2⟩:=rr;obtain⟨rfl,rfl⟩:=List.append_eq_nil_iff.mp eO.symm;obtain⟨f,eb⟩:=hp 0 b c u rfl rfl rfl;exact Reps.cons (O:=[]) ⟨b,[kV<|kaV c,u],rfl,.inl ⟨.inr f,.inl eb⟩,Reps.cons (VG c)<|.one r1⟩<|ih i E K r2 ⇑W ⇑C λj b' c' u' L X Y=>hp (j+1) b' c' u' ⇑L ⇑X ⇑Y
 refine key m y l vs U G (by rw[D,List.length_zip,L1,rs.length,G];simp) λj b c u L X Y=>⟨List.mem_of_getElem? L,?_⟩;have hz:((y.map kaV).zip vs)[j]?=some (kaV c,u):=by
  rw[List.getElem?_zip_eq_some];exact⟨by rw[List.getElem?_map,X];rfl,Y⟩
 unfold jW;rw[if_neg<|show ¬ b=t from λq=>n.1<|q▸List.mem_of_getElem? L,Qc n.2 L hz]
end
section
variable {cl:Nat->Addr}{pm:List Nat}{X:Cx}{a b e o tg iter:Expr}{body:List Stmt}{ta tb te to:TE}{pa pb pe po:PF}{pos:Pos}{k:Nat}{t:TG}{g:D->Rh->Option Rh}{fE:FE}{ts:TS}{f:FS}
def jep{i}{x}{a tpos}(f:Room k X.A)(g:QB cl X (.Name x a) (j7 i)<|pV i)(c:QB cl X b tb pb)(d:QB cl X e te pe)
  (h:∀ ov iv new,augStore b ov iv new=(do holding [new,ov,iv] (setItem ov iv new);release [new,ov,iv] [];pure .next):=by intros;rfl):
  QS cl pm X (.AugAssign (.Subscript (.Name x a) b tpos) .Sub e pos) (xg (j7 i) tb te jlx) (jdg i pb (λm n=>m-n) pe):=⟨KY (VO f) g.sem c.sem d.sem uJ h,jhK (λq=>⟨_,_,rfl,rfl,q⟩) c.den d.den⟩
def jek(f:X.calm=true)(g:X.mg "list" = none)(e:QB cl X o to po)(h:Gl X "list":=by rfl)
  (a:attributeBase o "items" X.env (eval o X.env)=eval o X.env:=by rfl) (b:(apos.endLine==cpos.line)=true:=by rfl)
  (i:starEach [.Call (.Attribute o "items" apos) [] [] cpos] X.env=(false,eval (.Call (.Attribute o "items" apos) [] [] cpos) X.env)::starEach [] X.env:=by rfl)
  (c:(backTo pos<|starEach [] X.env).any (·.1)=false:=by rfl)
  (d:backTo pos (starEach [.Call (.Attribute o "items" apos) [] [] cpos] X.env)=[(false,eval (.Call (.Attribute o "items" apos) [] [] cpos) X.env)]:=by rfl):
  QP cl X (.Call (.Name "list" p) [.Call (.Attribute o "items" apos) [] [] cpos] [] pos) (wG to) (yB po):=⟨jcS f h g Je e.sem a b i c d,jcL e.den⟩
end
noncomputable def spM(R:RC)(m:List D->Option (D×D))(n j:Nat):Sp:=λvs H Q _=>∃ Z ds d c O u,WF Z H O/\ds.length=n/\Reps R Z H ds vs O/\vs[j]?=some u/\m ds=some (d,c) /\
 ∀{v}{Z'}{H'}{P O'},Go Z H O Z' H' (P++O')->Rep R Z' H' d v P->Rep R Z' H' c u O'->Q v H'
def K6(j:Nat):Out->Option (D×D)
 | .rt d ρ=>(pV j ρ).bind λc=>some (d,c)
 | .nx ρ=>(pV j ρ).bind λc=>some (.non,c)
 | _=>none
def fnM(n j:Nat)(f:FS):List D->Option (D×D):=λds=>(f<|ds.map some++List.replicate (n-ds.length) none).bind (K6 j)
def JJ:fnM n j f ds=(f<|ds.map some++List.replicate (n-ds.length) none).bind (K6 j):=rfl
def Go.pick(g:Go Z H O Z' H'<|P++(A++Q++B)):Go Z H O Z' H' (P++Q):=g.drop (λa h=>by simp at h ⊢;rcases h with h | h<;>simp[h]) (by
 have nd:=g.wf.nd;simp only[U8,N1] at nd ⊢;exact⟨nd.1,nd.2.1.1.2.1,λa c b d=>nd.2.2 a c b<|.inl<|.inr d⟩)
def jh8(y:DS R [j] ts f)(h:spM R (fnM N.length j f) n j vs H Q E):ts {nx:=λ_ H'=>Q .non H',rt:=Q} (L2.start N vs) H:=by
 obtain⟨Z,m,d,c,O,u,w,K,r,z,e,k⟩:=h;have s:Slots R Z H (m.map some++List.replicate (N.length-m.length) none) (L2.start N vs) O:=by
  have q:=qX r<|kI<|N.length-m.length;unfold L2.start;rw[r.length];rw[M9] at q;exact q
 have p:(L2.start N vs)[j]?=some (some u):=by
  unfold L2.start;rw[List.getElem?_append_left<|by simpa using((L9.mp z).1),List.getElem?_map,z];rfl
 have key:∀{a}{i}{l}{H'}{P t}{v},a[j]?=some (some c)->Go Z H O l H' (P++t)->Rep R l H' d v P->Slots R l H' a i t->Keep [j] (L2.start N vs) i->Q v H':=by
  intro a i l H' P t v b g D x kp;obtain⟨A,L,B,rfl,F,_,_⟩:=x.put (L9.mp b).1;obtain⟨M,G,I⟩:=F c b;have:i[j]?=some (some u):=by rw[kp j<|by simp,p]
  rw[G] at this;cases this;exact k g.pick D I
 refine ob e λo C e=>?_;cases o with
 | rt S a=>exact ob e λJ b e=>by cases e;exact y w s C<|key<|qo b
 | nx a=>exact ob e λJ b e=>by cases e;exact y w s C λg x kp=>key (qo b) ⇑g .non_mk x kp
 | bk a=>cases e
 | ct a=>cases e
def jhe(h:spM R m n j vs H Q E):vs.length=n:=by
 obtain⟨Z,b,d,c,O,u,w,a,r,_⟩:=h;rw[r.length,a]
@[simp] def pFs(p:PAf)(ρ:Rh):Option (List D):=(p ρ).bind λds=>bif frzs ds then some ds else none
@[simp] def dCallM(m:List D->Option (D×D))(i:Nat)(j:Nat)(p:PAf)(ρ:Rh):Option (D×Rh):=(p ρ).bind λds=>(pV i ρ).bind λc=>(m<|ds.take j++c::ds.drop j).bind λr=>some (r.1,ρ.set i<|some r.2)
def Go.turn(g:Go Z H O Z' H'<|A++(P++Q)++B):Go Z H O Z' H' (P++(A++Q++B)):=g.drop (λa h=>by simp at h ⊢;rcases h with h | h | h | h<;>simp[h]) (by
 have nd:=g.wf.nd;simp only[U8,N1] at nd ⊢;obtain⟨⟨j,⟨k,l,m⟩,f⟩,n,i⟩:=nd;refine⟨k,⟨⟨j,l,λa d b c=>f a d b<|.inr c⟩,n,λa d b c=>i a (d.elim .inl λq=>.inr<|.inr q) b c⟩,λa d b c e=>?_⟩;rcases c with(c | c) | c
 ·exact f b c a (.inl d) e.symm
 ·exact m a d b c e
 ·exact i a (.inr<|.inl d) b c e)
def jmp{cl}{P}{w}{K}{mg}{base}{x qual}{fst}{fa}{fd}{N ps}{k n j}{fs}(F:Fun K x qual fst fa fd)(b:FnScope N ps<|jn fst)(c:ps.length=n)
  (a:∀ cdv A outer s H E,Room k (A.deeper<|envOfC qual (jn fst) ↥s fa cdv) ->
   ∃ ts,QSs cl [j] (jcX CX0 P w K mg base N qual (jn fst) fa cdv A outer s H E).nox (yX fst) ts fs):FnOk P w K mg base CX0 (k+1) fa fd ps (spM ⟨K,cl⟩ (fnM N.length j fs) n j):=by
 refine F.ok b (λvs H Q E h=>by rw[jhe h,c]) λcdv A outer s H vs Q E d h=>?_;obtain⟨ts,q⟩:=a cdv A outer s H E d;exact⟨ts,q.sem,jh8 q.den h⟩
def oF(g:D->D->Option D):D->D->Option D:=λx y=>(g x y).bind λd=>bif frz d then some d else none
def BC.o(h:BC R r g):DC R r g:=λw r1 e _ k=>h w.zd r1 e λg3 r3=>k (g3.widen w).dropR r3
def DIt(R:RC)(wi:TI)(fi:FA):Prop:=∀{σ}{ρ ρ'}{Z}{H}{O}{xs},WF Z H O->Slots R Z H ρ σ O->fi ρ=some (xs,ρ') ->
 ∀{Q:It->Hp->Prop},(∀{J}{Z'}{H'}{O'},Go Z H O Z' H' O'->Slots R Z' H' ρ' σ O'->jf0 R J Z' H' xs->Q J H')->wi σ H Q
def jfK(p:FA)(g:D->Rh->Option Rh)(f:FS):FS:=λρ=>(p ρ).bind λr=>jB g f r.1 r.2
def jiv(hi:DIt R wi p)(N:PGt R pm tg g)(P:DS R pm tb f):DS R pm (jkP wi tg tb) (jfK p g f):=by
 intro σ ρ Z H O o w s e D' k;refine ob e λr Q e=>?_;obtain⟨c,S⟩:=r;refine hi w s Q λ{J C K D} a T U=>?_;refine⟨LpF R pm g f σ C K D c o,
  ⟨c.length,rfl,U4 _,S,C,D,Go.refl a.wf,T,Keep.refl _ _,e⟩,?_⟩
 rintro i m σ' V ⟨rfl,W,ρ',X,L,h,s1,kp,e2⟩;have t:=U h.zz (h.zH a.wf) h.wf.zd i;by_cases v:i<c.length
 ·right
  have M:c[i]?=some c[i]:=by simp[v]
  obtain⟨go,Y⟩:=t.2 _ M;rw[J9 M] at e2;refine ob e2 λρ1 e3 e2=>ob e2 λo1 e4 e2=>⟨go,λE n=>∃ b q A,Go C K D q n A/\Slots R q n b E A/\Keep pm σ E/\jB g f (c.drop<|i+1) b=some o,λE n ⟨b,q,A,a1,a2,a3,a4⟩=>⟨c.length-(i+1),by lia,rfl,v,b,q,A,a1,a2,a3,a4⟩,λu n hy=>?_⟩;obtain⟨q,g2,r2⟩:=Y u n hy;have x:Go X V L q n L:=by simpa using g2.widen h.wf
  refine N r2 (g2.slots h.wf.zd s1) e3 λ{σ3 O3} sub nd s3 B=>?_;have g3:=(h.trans x).drop sub (nd x.wf.nd);refine P g3.wf s3 e4 ?_;cases o1 with
  | nx b=>exact λ{F y G z} g4 j l=>⟨b,y,z,g3.trans g4,j,kp.trans<|B.trans l,e2⟩
  | ct b=>exact λ{F y G z} g4 j l=>⟨b,y,z,g3.trans g4,j,kp.trans<|B.trans l,e2⟩
  | bk b=>cases e2;exact λ{F y G z} g4 j l=>k (a.trans<|g3.trans g4) j<|kp.trans<|B.trans l
  | rt d b=>cases e2;exact λ{v4 F y G P4 z} g4 r4 j l=>k (a.trans<|g3.trans g4) r4 j<|kp.trans<|B.trans l
 ·left
  have I:i=c.length:=by lia
  refine⟨t.1 ∅,?_⟩;rw[I,List.drop_length] at e2;cases e2;exact k (a.trans h) s1 kp
def jfH{cl}{X}{e}{es}{tr}{fr}{pos}{K:W5}{x}{p}{id}{r}{c}(f:kD X (.builtin id) r)(g:BC ⟨X.K,cl⟩ r c)(h:X.mg x=none)(i:bootBuiltins x=some (.builtin id))(d:QDs cl X (e::es) tr fr)(j:Gl X x:=by rfl)
  (k:x≠"__name__":=by decide) (a:Nd x:=by decide) (l:SEq X e es:=by rfl) (b:BkE X pos es:=by rfl):
  QE cl X (.Call (.Name x p) (e::es) [] pos) (tCB r tr) (dCB c fr):=⟨YW f j h i d.sem k a l b,jnd (BC.o g) d.den⟩
structure QIE(cl:Nat->Addr)(X:Cx)(tg e:Expr)(wi:TI)(p:FA):Prop where
 sem:PI X tg e wi
 den:DIt ⟨X.K,cl⟩ wi p
def jlg(c:PassesOwn (model X.prog X.w) X.A X.env X.xe)(d:X.calm=true)(hi:QIE cl X tg iter wi fi)(a:QG cl pm X tg t g)(b:QSs cl pm X body ts f)(e:∀ x,foldedSetIterable iter X.env x=pure x:=by intro _;rfl):QS cl pm X (.For tg iter body [] pos) (jkP wi t ts) (jfK fi g f):=
 ⟨jgM c d hi.sem a.sem b.sem e,jiv hi.den a.den b.den⟩
def jf2:∀ ρ ds,pN ρ=some ds->ds.length=0:=λρ ds h=>by cases h;rfl
def jcv(h:∀ ρ ds,pr ρ=some ds->ds.length=n):∀ ρ ds,ja p pr ρ=some ds->ds.length=n+1:=λρ ds e=>by
 refine ob e λd a e=>ob e λl e2 e=>?_;cases e;rw[M1,h ρ l e2]
def jki:D->Option (List D)
 | .lst _ m=>bif frzs m then some m else none
 | .tup m=>bif frzs m then some m else none
 | _=>none
def jmM(i:Nat)(p:PF)(ρ:Rh):Option Out:=(p ρ).bind λe=>(jki e).bind λm=>(pV i ρ).bind λx=>(zC x).bind λl=>bif lim (l.length+m.length) then some (.nx<|ρ.set i<|some<|.lst true<|l++m) else none
def jk5(h:PB R te p):DS R pm (Ys<|tBM R.K "list" (jjo R.K) (j7 i)<|jE te Yi) (jmM i p):=by
 intro σ ρ Z H O o w s e J k;refine ob e λd A e=>ob e λm e2 e=>ob e λx B e=>ob e λl e3 e=>oc e λf e=>?_;cases e;cases Y1 e3;unfold Ys tBM;refine qN (P0:=[]) Jz w s B rfl YQ λa _ vs L v _ y C put=>C ⟨.inl ⟨rfl,vs,SqL.of y⟩,h w.zd s A λ{u D g M} j r1=>?_⟩;have E:∃ b c,u=.ref b/\(SqL R.K g b c\/SqT R.K g b c)/\Reps R D g m c []:=by
  cases d with
  | lst N F=>
   refine oc e2 λn e2=>?_;cases e2;obtain⟨b,c,G,rfl,r,t⟩:=r1.lst_of;exact⟨b,c,rfl,.inl r.sq,t.frozen n⟩
  | tup F=>
   refine oc e2 λn e2=>?_;cases e2;obtain⟨b,c,rfl,r,t⟩:=r1.tup_of;exact⟨b,c,rfl,.inr r,t.frozen n⟩
  | _=>cases e2
 obtain⟨b,c,rfl,I,z⟩:=E;obtain⟨P,g2,s2⟩:=put YQ trivial j ((j.reps w.zd v).append z) λq=>by simp
 exact⟨a,b,vs,c,rfl,rfl,j.at0 y,I,by rw[v.length,z.length];exact Ju f,k g2 s2<|Keep.refl _ _⟩
noncomputable def qA:List D->Option D
 | [.bl b]=>some<|.int (if b then 1 else 0)
 | _=>none
def jjO:BC R (λxs H Q=>∃ b:Bool,xs=[.bl b]/\Q (.int<|if b then 1 else 0) H) qA:=by
 intro Z H xs d vs O z r e Q k;unfold qA at e;split at e
 ·rename_i b;cases e;obtain⟨v,rfl,r1⟩:=r.one_of;obtain⟨rfl,_⟩:=r1.bl_of;exact⟨b,rfl,k (Go.id z) .int_mk⟩
 ·cases e
@[simp] def xH(b):qA [.bl b]=some (.int<|if b then 1 else 0):=rfl
def jm0(g:QB cl X (.Name x xpos) (j7 i)<|pV i)(h:QB cl X e te pe)(b:attributeBase (.Name x xpos) "extend" X.env (eval (.Name x xpos) X.env)=eval (.Name x xpos) X.env:=by rfl)
  (d:((backTo cpos<|starEach [e] X.env).all (λx=>!x.1)&&(backToKw cpos<|keywordEach [] X.env).all (λx=>x.1.isSome)
   && decide ([e].length+([]:List Keyword).length+(if([]:List Keyword).isEmpty then 0 else 1)<30))=true:=by rfl)
  (c:(apos.endLine==cpos.line)=true:=by rfl) (f:starEach [e] X.env=(false,eval e X.env)::starEach [] X.env:=by rfl) (a:(backTo cpos<|starEach [] X.env).any (·.1)=false:=by rfl)
  (hsw:swapsWith (.Call (.Attribute (.Name x xpos) "extend" apos) [e] [] cpos) none pos.line X.env=pure false:=by rfl):
  QS cl pm X (.Expr (.Call (.Attribute (.Name x xpos) "extend" apos) [e] [] cpos) pos) (Ys<|tBM X.K "list" (jjo X.K) (j7 i)<|jE te Yi) (jmM i pe):=
 ⟨Vs (jiW PySem.F.plainAttrs_list PySem.F.slot_list_extend PySem.F.type_list_extend jjz g.sem (jt h.sem vA f) b d c f a) hsw,jk5 h.den⟩
end QD
namespace QD
open PySem L2
def jb(h:n<=100000):lim n=true:=X0 h
def vN{f:α->β}{l:List α}(h:l.length<=100000):lim (l.map f).length=true:=jb (by rw[L1];exact h)
def wU(a:0<=i)(h:i<l.length):atI l i=l[i.toNat]?:=by
 unfold atI ixN;rw[if_pos ∅,if_pos ∅];rfl
def je0(h:(xv lo n)[i]?=some x):x=.int (lo+i)/\i<n:=by
 unfold xv at h;rw[List.getElem?_map] at h;by_cases hi:i<n
 ·rw[List.getElem?_range hi] at h;cases h;exact⟨rfl,hi⟩
 ·rw[List.getElem?_eq_none ⇑hi] at h;cases h
def qW(lo)(n):(xv lo n).length=n:=by simp[xv]
@[simp] def eq_ss(a b):vm (.str a) (.str b)=some (.bl<|a==b):=rfl
@[simp] def ne_ss(a b):Y3 (.str a) (.str b)=some (.bl<|!(a==b)):=rfl
@[simp] def in_cs(a)(c)(s):Y2 a (.str [c]) (.str s)=some (.bl<|a != decide (c∈s)):=rfl
@[simp] def neg_i(i):wK (.int i)=some (.int<|-i):=rfl
def jgL(h:a.length+b.length<=100000):jg (.str a) (.str b)=some (.str<|a++b):=by
 show(bif lim (a.length+b.length) then some (D.str<|a++b) else none)=_;rw[jb h];rfl
def jks(h:a.length<=1000)(b:0<=n)(h1:n<=1000):yk (.str a) (.int n)=some (.str (List.replicate n.toNat a).flatten):=by
 show(bif decide (a.length<=1000)&&(decide (0<=n)&&decide (n<=1000)) then some (D.str (List.replicate n.toNat a).flatten) else none)=_;rw[X0 h,X0 b,X0 h1];rfl
def jpK(a:s.length<=100000)(b:0<=i)(h:i<s.length):jc (.str s) (.int i)=some (.str [s.getD i.toNat 0]):=by
 show(bif lim s.length then((atI s i).bind λc=>some<|D.str [c]) else none)=_;rw[jb a,wU b h];have:i.toNat<s.length:=by lia
 simp[this]
def uZ(xs:List α)  (h:0<=k):yK xs none (some k)=xs.take k.toNat:=by
 obtain⟨n,rfl⟩:∃ n:Nat,k=n:=⟨k.toNat,by lia⟩;rw[jcu];simp
def jpN(a:s.length<=100000):jej lo hi (.str s)=some (.str<|yK s lo hi):=by
 show(bif lim s.length then some (D.str<|yK s lo hi) else none)=_;rw[jb a];rfl
@[simp] def itemsOf_str(s):Qy (.str s)=some (s.map λc=>D.str [c]):=rfl
@[simp] def fAll_lst(o)(l):jjg [.lst o l]=(Jy l).bind λbs=>some (.bl<|bs.all λb=>b):=rfl
@[simp] def fTuple_lst(o)(l):xA [.lst o l]=bif frzs l then some (.tup l) else none:=rfl
def jdw(w)(l:W4):jhc (.str w) (l.map D.str)=true:=by
 unfold jhc;rw[M0];refine⟨rfl,List.all_eq_true.mpr λy a=>?_⟩;obtain⟨z,_,rfl⟩:=M5.mp a;rfl
def jeX(w)(l:W4):inL (.str w) (l.map D.str)=decide (w∈l):=by
 unfold inL;rw[Bool.eq_iff_iff,List.any_eq_true,decide_eq_true_eq];constructor
 ·rintro⟨y,a,e⟩;obtain⟨z,b,rfl⟩:=M5.mp a;have:z=w:=by
   exact eq_of_beq e
  exact this▸b
 ·intro h;exact⟨.str w,M5.mpr ⟨w,h,rfl⟩,by show(w==w)=true;simp⟩
def Ym(a o)(w)(l:W4):Y2 a (.str w) (.lst o<|l.map D.str)=some (.bl<|a != decide (w∈l)):=by
 show(bif jhc (.str w) (l.map D.str) then some (D.bl<|a != inL (.str w) (l.map D.str)) else none)=_;rw[jdw,jeX];rfl
mutual
theorem jeT:∀(n:Nat) (d:D),okE n d=true->eqD d d=true
 | n,.non,_=>rfl
 | n,.bl _,_=>by show(_==_)=true;simp
 | n,.int _,_=>by show(_==_)=true;simp
 | n,.str _,_=>by show(_==_)=true;simp
 | n+1,.tup l,h=>by rw[eqD];exact Vj n l (by simpa [okE] using h)
 | n+1,.lst _ l,h=>by rw[eqD];exact Vj n l (by simpa [okE] using h)
 | 0,.tup l,h=>by simp[okE] at h
 | 0,.lst _ l,h=>by simp[okE] at h
 | n,.dK _ _ _,h=>by cases n<;>simp[okE] at h
 | n,.dT _ _ _,h=>by cases n<;>simp[okE] at h
 | n,.ins _ _ _ _,h=>by cases n<;>simp[okE] at h
 | n,.dead,h=>by cases n<;>simp[okE] at h
 | n,.tok _,h=>by cases n<;>simp[okE] at h
 | n,.kt _,h=>by cases n<;>simp[okE] at h
 | n,.exc _ _,h=>by cases n<;>simp[okE] at h
theorem Vj:∀(n:Nat) (l:List D),yI n l=true->xD l l=true
 | n,[],_=>rfl
 | n,d::l,h=>by
  rw[yI,M0] at h;rw[xD,jeT n d h.1,Vj n l h.2];rfl
end
def vQ(h:∀ d∈l,okE n d=true):yI n l=true:=by rw[Qo];exact List.all_eq_true.mpr h
theorem yA:∀{l},(∀ d∈l,frz d=true)->frzs l=true
 | [],_=>rfl
 | d::l,h=>by rw[Yc,h d<|by simp,yA λx a=>h x<|by simp[a]];rfl
theorem J7:∀{l},(∀ d∈l,fz d=d)->fzs l=l
 | [],_=>rfl
 | d::l,h=>by rw[jfY,h d<|by simp,J7 λx a=>h x<|by simp[a]]
def kN{f:α->D}(h:∀ x,frz (f x)=true)(l:List α):frzs (l.map f)=true:=yA λd hd=>by obtain⟨p,_,rfl⟩:=M5.mp hd;exact h p
def qQ{f:α->D}(h:∀ x,fz (f x)=f x)(l:List α):fzs (l.map f)=l.map f:=J7 λd hd=>by obtain⟨p,_,rfl⟩:=M5.mp hd;exact h p
def jN(h:∀ c∈w,c<1114112):okE n (.str w)=true:=by
 exact List.all_eq_true.mpr λc a=>X0<|h c a
@[simp] def okE_int(n)(i):okE n (.int i)=true:=by cases n<;>rfl
def jh2{l:List Nat}{i N}(h:∀ c∈l,c<N)(a:0<N):l.getD i 0<N:=by
 rw[List.getD_eq_getElem?_getD];cases e:l[i]? with
 | none=>exact a
 | some c=>exact h c<|List.mem_of_getElem? e
def jpr(a:frzs l=true):jej lo hi (.lst o l)=some (.lst true<|yK l lo hi):=by
 show(bif frzs l then some (D.lst true<|yK l lo hi) else none)=_;rw[a];rfl
def jj4(a:0<=i)(h:i<l.length):jc (.lst o l) (.int i)=l[i.toNat]?:=wU a h
def jjy(a:0<=i)(h:i<l.length):jc (.tup l) (.int i)=l[i.toNat]?:=wU a h
def Wd(w:List Nat):Prop:=w.length<=30/\∀ c∈w,c<1114112
@[simp] def Y5(l:W4):fzs (l.map D.str)=l.map D.str:=by
 rw[qJ,U0];rfl
@[simp] def yH(l:W4):frzs (l.map D.str)=true:=by
 rw[Va,List.all_map,List.all_eq_true];intro x _;rfl
@[simp] def cleans_strs(l:W4):yq (l.map D.str)=true:=by
 rw[yQ,List.all_map,List.all_eq_true];intro x _;rfl
def V7{n}{l:W4}(h:∀ w∈l,Wd w):yI n (l.map D.str)=true:=
 vQ λd hd=>by
  obtain⟨w,a,rfl⟩:=M5.mp hd;exact jN (h w a).2
def kY{l:W4}{i:Int}(a:0<=i)(h:i<l.length):jc (.lst o<|l.map D.str) (.int i)=some (.str<|l.getD i.toNat []):=by
 rw[jj4 a<|by rw[L1];exact h,List.getElem?_map,List.getD_eq_getElem?_getD,X5 ∅];rfl
def yy{l:List α}{i}(h:i<l.length):l.getD i d∈l:=by
 rw[List.getD_eq_getElem?_getD,X5 h];exact List.getElem_mem h
def Y6(f:α->β)(l)(lo hi):yK (l.map f) lo hi=(yK l lo hi).map f:=by
 unfold yK;rw[L1,List.map_take,List.map_drop]
def yx(h:x∈yK l lo hi):x∈l:=List.mem_of_mem_drop<|List.mem_of_mem_take h
def v9(l:List α)(lo hi):(yK l lo hi).length<=l.length:=by
 unfold yK;rw[X6,List.length_drop]
 lia
def qY(h:l.Nodup):(yK l lo hi).Nodup:=(h.sublist<|List.drop_sublist _ _).sublist (List.take_sublist _ _)
def qR(o)(l)(lo hi):jej lo hi (.lst o<|l.map D.str)=some (.lst true<|(yK l lo hi).map D.str):=by
 rw[jpr<|yH l,Y6]
def uF{a b:W4}(h:a.length+b.length<=100000):jg (.lst o<|a.map D.str) (.lst o'<|b.map D.str)=some (.lst true<|(a++b).map D.str):=by
 show(bif lim ((a.map D.str).length+(b.map D.str).length)&&(frzs (a.map D.str)&&frzs (b.map D.str)) then some (D.lst true<|a.map D.str++b.map D.str) else none)=_;rw[yH,yH,L1,L1,jb h,N4];rfl
def zD:∀{l:W4}{x},x∈yc s (l.map D.str)->Ex2 λ(i:Nat) (c:List Nat)=>An4 (x=.tup [.int i,.str c]) (s<=i) (i<s+l.length) (c∈l):=by
 intro l
 induction l generalizing s with
 | nil=>intro x h;cases h
 | cons c l a=>
  intro x h;rcases M4.mp h with rfl | h
  ·exact⟨s,c,rfl,M8 _,by simp,by simp⟩
  ·obtain⟨i,b,e,f,g,d⟩:=a h;exact⟨i,b,e,by lia,by rw[M1];lia,by simp[d]⟩
def kK(St:List α->Rh->Prop)(Ok:α->Prop)(b M):∀{xs}{acc}{ρ},
  (∀ x∈xs,∀ acc ρ,acc.length<=M->(∀ a∈acc,Ok a)->St acc ρ->∃ ρ1 ρ2 L,G x ρ=some ρ1/\f ρ1=some (.nx ρ2)/\L.length<=b/\(∀ a∈L,Ok a)/\St (acc++L) ρ2) ->
  acc.length+b*xs.length<=M->(∀ a∈acc,Ok a)->St acc ρ->Ex2 λρ' T=>An4 (jB G f xs ρ=some (.nx ρ')) (St (acc++T) ρ') (T.length<=b*xs.length) (∀ a∈T,Ok a):=by
 intro xs
 induction xs with
 | nil=>
  intro acc ρ step g c d;exact⟨ρ,[],rfl,by rw[M9];exact d,by simp,by simp⟩
 | cons x xs i=>
  intro acc ρ step g c d;rw[M1,Nat.mul_succ] at g;obtain⟨ρ1,ρ2,L,j,e2,n,h,k⟩:=step x (by simp) acc ρ ∅ c d;obtain⟨ρ',T,e3,l,o,e⟩:=i (λy m=>step y<|by simp[m]) (by rw[N3];lia) (λa q=>(N1.mp q).elim (c a) (h a)) k;refine⟨ρ',L++T,?_,by rw[<- List.append_assoc];exact l,by rw[N3,M1,Nat.mul_succ];lia,λa q=>(N1.mp q).elim (h a) (e a)⟩;rw[ya,j,L4,e2,L4,VJ,e3]
def jc1(en)(g:β->γ)(St:List α->Rh->Prop)(Ok:α->Prop)(fst)(N):∀{C:List β}{s}{acc}{ρ},
  (∀ i c acc ρ,i<N->c∈C->acc.length<N->St acc ρ->∃ ρ1 ρ2 a,G (.tup [.int i,en c]) ρ=some ρ1/\f ρ1=some (.nx ρ2)/\fst a=g c/\Ok a/\St (acc++[a]) ρ2) ->
  s+C.length<=N->acc.length+C.length<=N->St acc ρ->Ex2 λρ' T=>An4 (jB G f (yc s<|C.map en) ρ=some (.nx ρ')) (St (acc++T) ρ') (T.map fst=C.map g) (∀ a∈T,Ok a):=by
 intro C
 induction C with
 | nil=>
  intro s acc ρ step e h b;exact⟨ρ,[],rfl,by rw[M9];exact b,rfl,by simp⟩
 | cons c C k=>
  intro s acc ρ step e h b;rw[M1] at e h;obtain⟨ρ1,ρ2,a,l,e2,m,n,o⟩:=step s c acc ρ ∅ (by simp) ∅ b;obtain⟨ρ',T,e3,j,p,d⟩:=k (s:=s+1) (λi y acc ρ hi r=>step i y acc ρ hi<|by simp[r]) ∅ (by rw[N3];simp only[M1,List.length_nil];lia) o;refine⟨ρ',a::T,?_,by rw[List.append_assoc] at j;exact j,by rw[L5,L5,m,p],λx q=>(M4.mp q).elim (λz=>z▸n) (d x)⟩;rw[L5,yc,ya,l,L4,e2,L4,VJ,e3]
def jar(St:List α->Rh->Prop)(Ok:α->Prop)(fst)(N) 
  (step:∀ i c acc ρ,i<N->c∈C->acc.length<N->St acc ρ->∃ ρ1 ρ2 a,G (.tup [.int i,.str c]) ρ=some ρ1/\f ρ1=some (.nx ρ2)/\fst a=c/\Ok a/\St (acc++[a]) ρ2)
  (h1:s+C.length<=N) (h2:acc.length+C.length<=N) (b:St acc ρ):Ex2 λρ' T=>An4 (jB G f (yc s<|C.map D.str) ρ=some (.nx ρ')) (St (acc++T) ρ') (T.map fst=C) (∀ a∈T,Ok a):=by
 obtain⟨ρ',T,e,h,d,g⟩:=jc1 D.str id St Ok fst N step h1 h2 b;exact⟨ρ',T,e,h,by rw[d,List.map_id],g⟩
def jfG(St:List (List Nat)->Rh->Prop)(N):∀{C}{s}{acc}{ρ},
  (∀ i c acc ρ,i<N->c∈C->acc.length<N->St acc ρ->∃ ρ1 ρ2,G (.tup [.int i,.str c]) ρ=some ρ1/\f ρ1=some (.nx ρ2)/\(St (acc++[c]) ρ2\/St acc ρ2)) ->
  s+C.length<=N->acc.length+C.length<=N->St acc ρ->Ex2 λρ' T=>An3 (jB G f (yc s<|C.map D.str) ρ=some (.nx ρ')) (St (acc++T) ρ') (T.Sublist C):=by
 intro C
 induction C with
 | nil=>
  intro s acc ρ step h j d;exact⟨ρ,[],rfl,by rw[M9];exact d,.slnil⟩
 | cons c C k=>
  intro s acc ρ step h j d;rw[M1] at h j;obtain⟨ρ1,ρ2,l,e2,a⟩:=step s c acc ρ ∅ (by simp) ∅ d;rcases a with a | a
  ·obtain⟨ρ',T,e3,b,e⟩:=k (s:=s+1) (λi y acc ρ hi g=>step i y acc ρ hi<|by simp[g]) ∅ (by rw[N3];simp only[M1,List.length_nil];lia) a;refine⟨ρ',c::T,?_,by rw[List.append_assoc] at b;exact b,e.cons_cons c⟩;rw[L5,yc,ya,l,L4,e2,L4,VJ,e3]
  ·obtain⟨ρ',T,e3,b,e⟩:=k (s:=s+1) (λi y acc ρ hi g=>step i y acc ρ hi<|by simp[g]) ∅ ∅ a;refine⟨ρ',T,?_,b,e.cons c⟩;rw[L5,yc,ya,l,L4,e2,L4,VJ,e3]
def Yv{G}{l:List α}{en out}{b}(P:Rh->Prop)(step:∀ x∈l,∀ ρ,P ρ->∃ ρ1,G (en x) ρ=some ρ1/\q ρ1=some (b x)/\p ρ1=some (out x)/\P ρ1){ρ}(a:P ρ):jS G q p (l.map en) ρ=some ((l.filter b).map out):=by
 induction l generalizing ρ with
 | nil=>rfl
 | cons x l c=>
  obtain⟨ρ1,d,e2,e3,p1⟩:=step x L7 ρ a;have:=c (λy e=>step y<|L6 _ e) p1;rw[L5,kz,d,L4,e2,L4];cases hb:b x with
  | true=>simp[e3,this,hb]
  | false=>simp[this,hb]
mutual
theorem jkf:∀(n:Nat) (d:D),okE n d=true->eqD (fz d) d=true
 | n,.non,_=>rfl
 | n,.bl _,_=>by show(_==_)=true;simp
 | n,.int _,_=>by show(_==_)=true;simp
 | n,.str _,_=>by show(_==_)=true;simp
 | n+1,.tup l,h=>by rw[fz,eqD];exact xL n l (by simpa [okE] using h)
 | n+1,.lst _ l,h=>by rw[fz,eqD];exact xL n l (by simpa [okE] using h)
 | 0,.tup l,h=>by simp[okE] at h
 | 0,.lst _ l,h=>by simp[okE] at h
 | n,.dK _ _ _,h=>by cases n<;>simp[okE] at h
 | n,.dT _ _ _,h=>by cases n<;>simp[okE] at h
 | n,.ins _ _ _ _,h=>by cases n<;>simp[okE] at h
 | n,.dead,h=>by cases n<;>simp[okE] at h
 | n,.tok _,h=>by cases n<;>simp[okE] at h
 | n,.kt _,h=>by cases n<;>simp[okE] at h
 | n,.exc _ _,h=>by cases n<;>simp[okE] at h
theorem xL:∀(n:Nat) (l:List D),yI n l=true->xD (fzs l) l=true
 | n,[],_=>rfl
 | n,d::l,h=>by
  rw[yI,M0] at h;rw[fzs,xD,jkf n d h.1,xL n l h.2];rfl
end
mutual
theorem jbT:∀(n:Nat) (d e:D),okE n d=true->fz d=fz e->eqD d e=true
 | n,.non,e,_,h=>by cases e<;>simp[fz] at h;rfl
 | n,.bl _,e,_,h=>by cases e<;>simp[fz] at h;subst h;show(_==_)=true;simp
 | n,.int _,e,_,h=>by cases e<;>simp[fz] at h;subst h;show(_==_)=true;simp
 | n,.str _,e,_,h=>by cases e<;>simp[fz] at h;subst h;show(_==_)=true;simp
 | n+1,.tup l,e,h,q=>by
  cases e<;>simp[fz] at q;rw[eqD];exact xS n l _ (by simpa [okE] using h) q
 | n+1,.lst _ l,e,h,q=>by
  cases e<;>simp[fz] at q;rw[eqD];exact xS n l _ (by simpa [okE] using h) q
 | 0,.tup l,e,h,_=>by simp[okE] at h
 | 0,.lst _ l,e,h,_=>by simp[okE] at h
 | n,.dK _ _ _,e,h,_=>by cases n<;>simp[okE] at h
 | n,.dT _ _ _,e,h,_=>by cases n<;>simp[okE] at h
 | n,.ins _ _ _ _,e,h,_=>by cases n<;>simp[okE] at h
 | n,.dead,e,h,_=>by cases n<;>simp[okE] at h
 | n,.tok _,e,h,_=>by cases n<;>simp[okE] at h
 | n,.kt _,e,h,_=>by cases n<;>simp[okE] at h
 | n,.exc _ _,e,h,_=>by cases n<;>simp[okE] at h
theorem xS:∀(n:Nat) (l m:List D),yI n l=true->fzs l=fzs m->xD l m=true
 | n,[],[],_,_=>rfl
 | n,[],_::_,_,q=>by simp[fzs] at q
 | n,_::_,[],_,q=>by simp[fzs] at q
 | n,d::l,e::m,h,q=>by
  rw[yI,M0] at h;rw[fzs,fzs] at q;injection q with q1 q2;rw[xD,jbT n d e h.1 q1,xS n l m h.2 q2];rfl
end
def Vr(h:okE 20 d=true)(h':okE 20 e=true)(q:fz d=fz e)(a:qF d=false:=by rfl):Y3 d e=some (.bl false):=by
 unfold Y3;rw[a,h,h',jbT 20 d e h q];rfl
def Qi(h:okE 20 d=true)(h':okE 20 e=true)(q:fz d=fz e)(a:qF d=false:=by rfl):vm d e=some (.bl true):=by
 unfold vm;rw[a,h,h',jbT 20 d e h q];rfl
theorem Vv:∀ l:List (List Nat×D),VC (l.map λp=>.tup [.str p.1,p.2])=some (l.map λp=>(KA.str p.1,p.2))
 | []=>rfl
 | p::l=>by
  rw[L5,VC,Vv l];rfl
theorem Ve:∀(ps:List<|KA×D) ks vs,(ks++ps.map (·.1)).Nodup->ps.foldl (λacc kv=>kn acc.1 acc.2 kv.1 kv.2) (ks,vs)=(ks++ps.map (·.1),vs++ps.map (·.2))
 | [],ks,vs,_=>by simp
 | p::ps,ks,vs,h=>by
  have a:p.1∉ks:=by
   intro z;exact(U8.mp h).2.2 p.1 z p.1 (by simp) rfl
  have b:kn ks vs p.1 p.2=(ks++[p.1],vs++[p.2]):=by unfold kn;rw[if_neg a]
  show ps.foldl _ (kn ks vs p.1 p.2)=_;rw[b,Ve ps (ks++[p.1]) (vs++[p.2]) ⇑h];simp
def Yq{l:List (List Nat×D)}(f:(l.map (·.1)).Nodup)(g:∀ p∈l,frz p.2=true)(i:l.length<=100000):vO [.lst o<|l.map λp=>.tup [.str p.1,p.2]]=some (.dK true (l.map λp=>KA.str p.1) (l.map (·.2))):=by
 have j:((l.map λp=>(KA.str p.1,p.2)).map (·.1)).Nodup:=by
  rw[U0];have:((λx:KA×D=>x.1) ∘ λp:List Nat×D=>(KA.str p.1,p.2))=KA.str ∘ (·.1):=rfl;rw[this,<- U0];exact List.Pairwise.map _ (λa b h z=>h<|by cases z;rfl) f
 show((VC<|l.map λp=>.tup [.str p.1,p.2]).bind λc=>bif frzs (c.map (·.2))&&lim c.length then some (D.dK true (uo c).1 (uo c).2) else none)=_;rw[Vv,L4];have e:((l.map λp=>(KA.str p.1,p.2)).map (·.2))=l.map (·.2):=by rw[U0];rfl
 rw[e,yA (by intro d hd;obtain⟨p,k,rfl⟩:=M5.mp hd;exact g p k),L1,jb i];unfold uo;rw[Ve (l.map λp=>(KA.str p.1,p.2)) [] [] ⇑j,e];simp[U0]
noncomputable def lkp{α:Type}(w:List Nat):List (List Nat×α)->Option α
 | []=>none
 | p::l=>if p.1=w then some p.2 else lkp w l
theorem JT(w):∀ l:List (List Nat×D),Yh (l.map λp=>KA.str p.1) (l.map (·.2)) (.str w)=lkp w l
 | []=>rfl
 | p::l=>by
  rw[L5,L5,Yh,lkp,JT w l];by_cases h:p.1=w
  ·rw[if_pos h,if_pos<|by rw[h]]
  ·rw[if_neg h,if_neg<|λz=>h<|by cases z;rfl]
theorem Ql(f:α->β)(w):∀ l:List (List Nat×α),lkp w (l.map λp=>(p.1,f p.2))=(lkp w l).map f
 | []=>rfl
 | p::l=>by
  rw[L5,lkp,lkp,Ql f w l];by_cases h:p.1=w
  ·rw[if_pos h,if_pos h];rfl
  ·rw[if_neg h,if_neg h]
theorem jap:∀{l:List (List Nat×α)},w∈l.map (·.1)->∃ a,lkp w l=some a/\(w,a)∈l
 | [],h=>by cases h
 | p::l,h=>by
  rw[lkp];by_cases e:p.1=w
  ·rw[if_pos e];exact⟨p.2,rfl,by rw[<- e];simp⟩
  ·rw[if_neg e];obtain⟨a,b,c⟩:=jap<|(M4.mp h).resolve_left λz=>e z.symm;exact⟨a,b,by simp[c]⟩
noncomputable def dct(o:Bool)(N:W4)(f:List Nat->Int):D:=.dK o (N.map KA.str)<|N.map λn=>D.int<|f n
theorem YY(f:List Nat->Int):∀{N:W4},c∈N->Yh (N.map KA.str) (N.map λn=>D.int<|f n) (.str c)=some (.int<|f c)
 | [],h=>by cases h
 | n::N,h=>by
  rw[L5,L5,Yh];by_cases e:n=c
  ·rw[if_pos<|by rw[e],e]
  ·rw[if_neg λz=>e<|by cases z;rfl];exact YY f<|(M4.mp h).resolve_left λz=>e z.symm
def jC(h:c∈N):jG (dct o N f) (.str c)=some (.int<|f c):=YY f h
theorem uw(f:List Nat->Int)(c)(v):∀ N:List (List Nat),ja4 (N.map KA.str) (N.map λn=>D.int<|f n) (.str c) (.int v)=N.map λn=>D.int (if n=c then v else f n)
 | []=>rfl
 | n::N=>by
  rw[L5,L5,ja4,uw f c v N,L5];by_cases e:n=c
  ·rw[if_pos<|by rw[e],if_pos e]
  ·rw[if_neg λz=>e (by cases z;rfl),if_neg e]
def Qn{N:W4}{f:List Nat->Int}{c}{v}(h:c∈N):kn (N.map KA.str) (N.map λn=>D.int<|f n) (.str c) (.int v)=(N.map KA.str,N.map λn=>D.int<|if n=c then v else f n):=by
 unfold kn;rw[if_pos<|M5.mpr ⟨c,h,rfl⟩,uw]
theorem VX:∀{l:List (List Nat×α)},(l.map (·.1)).Nodup->∀ p∈l,lkp p.1 l=some p.2
 | [],_,_,h=>by cases h
 | q::l,a,p,h=>by
  rw[L5,List.nodup_cons] at a;rw[lkp];rcases M4.mp h with rfl | h
  ·rw[if_pos rfl]
  ·rw[if_neg λz=>a.1<|by rw[z];exact M5.mpr ⟨p,h,rfl⟩];exact VX a.2 p h
def fnOf(S:List<|List Nat×Int)(n:List Nat):Int:=(lkp n S).getD 0
def yO{S}(a:(S.map (·.1)).Nodup){p}(h:p∈S):fnOf S p.1=p.2:=by
 unfold fnOf;rw[VX a p h];rfl
def uU(N:W4)(g:List Nat->Int)  (h:n∈N):fnOf (N.map λn=>(n,g n)) n=g n:=by
 unfold fnOf
 induction N with
 | nil=>cases h
 | cons m N a=>
  rw[L5,lkp];by_cases e:m=n
  ·rw[if_pos e,<- e];rfl
  ·rw[if_neg e];exact a<|(M4.mp h).resolve_left λz=>e z.symm
def jc9{S}(b:(S.map (·.1)).Nodup)(c:S.length<=100000):vO [.lst o<|S.map λp=>.tup [.str p.1,.int p.2]]=some (dct true (S.map (·.1))<|fnOf S):=by
 have e:=Yq (o:=o) (l:=S.map λq=>(q.1,D.int q.2)) (by rw[U0];exact b) (by intro q d;obtain⟨a,_,rfl⟩:=M5.mp d;rfl) (by rw[L1];exact c);rw[U0,U0,U0] at e;refine e.trans ?_;unfold dct;rw[U0,U0];congr 2;refine List.map_congr_left λp f=>?_;show D.int p.2=D.int (fnOf S p.1);rw[yO b f]
def QU(N:W4)(f:List Nat->Int):frzs (N.map λn=>D.int<|f n)=true:=yA λd hd=>by
 obtain⟨n,_,rfl⟩:=M5.mp hd;rfl
def xw(N:W4)(f:List Nat->Int):(((N.map KA.str).zip (N.map λn=>D.int<|f n)).map λp=>D.tup [kaD p.1,p.2])=N.map λn=>D.tup [.str n,.int<|f n]:=by
 induction N with
 | nil=>rfl
 | cons n N a=>
  rw[L5,L5,U6,L5,L5,a];rfl
@[simp] def jfl(N)(f):jeb (dct true N f)=some (N.map KA.str,N.map λn=>D.int<|f n):=rfl
variable {ρ:Rh}{fa fb fe:FE}{ft fu:FT'}{fr:FA}{p:PAf}{pi:PAf}{g:D->D->Option D}{gl:List D->Option D}{G:D->Rh->Option Rh}{f:FS}{m:List D->Option (D×D)}{mp:List D->Option D}{i j:Nat}
@[simp] def dCBx_e:dCB gl fr ρ=(fr ρ).bind λr=>(gl r.1).bind λz=>some (z,r.2):=rfl
@[simp] def oF_e:oF g x y=(g x y).bind λd=>bif frz d then some d else none:=rfl
@[simp] def sForE_e:jfK fr G f ρ=(fr ρ).bind λr=>jB G f r.1 r.2:=rfl
end QD
namespace L2
open PySem PySem.Spec PyProof.Rows
end L2
namespace QD
open PySem L2 PySem.Spec PyProof.Rows
noncomputable def YS:Int->List D->List D
 | _,[]=>[]
 | n,x::l=>.tup [.int n,x]::YS (n+1) l
theorem xp:∀ n l,(YS n l).length=l.length
 | _,[]=>rfl
 | n,x::l=>by rw[YS,M1,M1,xp]
theorem zt:∀ n l (i:Nat) y,(YS n l)[i]?=some y->∃ x,l[i]?=some x/\y=.tup [.int<|n+i,x]
 | _,[],_,_,e=>by simp[YS] at e
 | n,x::l,0,y,e=>by simp[YS] at e;exact⟨x,rfl,by rw[<- e];simp⟩
 | n,x::l,i+1,y,e=>by
  obtain⟨z,a,e2⟩:=zt (n+1) l i y (by simpa [YS] using e);exact⟨z,by simpa using a,by rw[e2];congr 3;lia⟩
def jmU(p:PAf)(q:PF)(ρ:Rh):Option (List D):=(p ρ).bind λx=>(jef x).bind λx=>(jgu x).bind λl=>(q ρ).bind λy=>(vn y).bind λn=>bif KQ n then some (YS n<|fzs l) else none
def jmR(h:PPs R ta p)(d:PB R tb q):PIt R (jop R.K ta tb) (jmU p q):=by
 intro σ ρ Z H O D z s e Q k;refine ob e λx f e=>ob e λy e3 e=>ob e λl g e=>ob e λE e2 e=>ob e λn e5 e=>oc e λi e=>?_;cases e;cases jM e5;obtain⟨o,rfl⟩:=VR g;cases qk e3;refine h z s f λ{vs j F m} r r1=>?_;obtain⟨v,rfl,r2⟩:=r1.one_of;obtain⟨a,t,G,rfl,w,A,rfl,_⟩:=(r2.freeze (Z':=λa=>j a\/a∈m) (λa z=>.inl z) λa z=>.inr z);have b:=r.fz;refine d b.wf.zd (b.slots z s) e2 λ{u I J L} g2 B=>?_;obtain⟨rfl,_⟩:=B.int_of;have c:=A.frame g2.zz<|λa z=>g2.same a<|b.wf.zd a z;have M:=VP i;refine⟨a,t,n,rfl,rfl,by unfold Builtin.SmallTypes.fitsIndex;simp;lia,FL.sq c,k (b.pair g2) ?_⟩;exact jcb c (w.frame g2.zz (λa z=>g2.same a<|b.wf.zd a z)<|λa C=>(nomatch C)) (xp _ _)<|zt _ _
noncomputable def KJ:List (List KA)->List D->List KA->Option D
 | k::ks,d::l,a=>if k=a then some d else KJ ks l a
 | _,_,_=>none
def K8{a b:List KA}(h:a.map kaV=b.map kaV):a=b:=by
 induction a generalizing b with
 | nil=>cases b with
  | nil=>rfl
  | cons y b=>simp at h
 | cons x a c=>cases b with
  | nil=>simp at h
  | cons y b=>
   simp only[L5,List.cons.injEq] at h;rw[K5 h.1,c h.2]
theorem Y9:∀{ks}{l}{vs}{O}{a},Reps R Z H l vs O->ks.length=l.length ->
  (∀ d,KJ ks l a=some d->∃ v P,Kf ((ks.map<|List.map kaV).zip vs) (a.map kaV)=some v/\Rep R Z H d v P)/\(KJ ks l a=none->Kf ((ks.map<|List.map kaV).zip vs) (a.map kaV)=none)
 | [],l,vs,O,a,r,c=>⟨λd e=>(by cases l<;>cases e),λ_=>rfl⟩
 | k::ks,[],vs,O,a,r,c=>by simp at c
 | k::ks,x::l,vs,O,a,r,c=>by
  obtain⟨v,b,f,i,rfl,rfl,r1,r2⟩:=r;by_cases e:k=a
  ·subst e;refine⟨λd h=>?_,λh=>?_⟩
   ·simp only[KJ,if_true] at h;cases h;exact⟨v,f,JN rfl,r1⟩
   ·simp[KJ] at h
  ·have g:=λz=>e<|K8 z;have q:Kf (((k::ks).map (List.map kaV)).zip (v::b)) (a.map kaV)=Kf ((ks.map<|List.map kaV).zip b) (a.map kaV):=Ye g;rw[q];simp only[KJ,if_neg e];exact(Y9 (a:=a) r2 ⇑c)
def jeR:PP R jcN (pC<|.dT true [] []):=by
 intro σ ρ Z H O d z s e Q k;cases e;intro p a;exact k (Go.newO (wf0 z) a) ⟨p,[],[],rfl,.empty,rfl,jk,rfl⟩
abbrev jfP(ta tb:TE):TE:=uA<|jE ta<|jE tb Yi
def jj7(pa pb:PF)(ρ:Rh):Option (List KA):=(pa ρ).bind λx=>(pb ρ).bind λy=>(vC x).bind λa=>(vC y).bind λb=>some [a,b]
def YX (d : PB R ta pa) (f : PB R tb pb)  (z : Zd Z H) (s : Slots R Z H ρ σ O) (e : jj7 pa pb ρ = some k)
     (go:∀{p}{Z'}{H'},Go Z H [] Z' H' []->Z' p->H' p=some (.tup<|(k.map kaV).map kV)->Q (.ref p) H'):jfP ta tb σ H Q:=by
 refine ob e λx g e=>ob e λy e2 e=>ob e λa e3 e=>ob e λb h e=>?_;cases e;refine d z s g λ{v j l m} c r1=>(f c.wf.zd (c.slots z s) e2 λ{u n o q} g2 r2=>?_);obtain⟨rfl,_⟩:=yF e3 r1;obtain⟨rfl,_⟩:=yF h r2;refine⟨by show 2<=sizeLine;decide,λp i=>?_⟩;exact go ((c.pair g2).trans (Go.newF g2.wf i)) (.inr rfl) jk
def Rep.dT_of(r:Rep R Z H (.dT o ks l) v O):Ex3 λa vs O'=>An4 (v=.ref a) (H a=some (.dT<|(ks.map<|List.map kaV).zip vs)) (Reps R Z H l vs O') (ks.length=l.length):=by
 obtain⟨a,vs,O',rfl,b,c,d,_⟩:=r;exact⟨a,vs,O',rfl,d,b,c⟩
def zV(x:D)(k:List KA)(z:D):Option D:=match x with
 | .dT _ ks l=>some<|(KJ ks l k).getD z
 | _=>none
@[simp] def opTGet_e(o)(ks)(l)(k)(z):zV (.dT o ks l) k z=some ((KJ ks l k).getD z):=rfl
@[simp] def jaZ(pd:PF)(pa:PF)(pb:PF)(pc:PF)(ρ:Rh):Option D:=(pd ρ).bind λx=>(jj7 pa pb ρ).bind λk=>(pc ρ).bind λz=>zV x k z
@[simp] def pKey_e:jj7 pa pb ρ=(pa ρ).bind λx=>(pb ρ).bind λy=>(vC x).bind λa=>(vC y).bind λb=>some [a,b]:=rfl
def jfy(hd:PB R td pd)(n:PB R ta pa)(q:PB R tb pb)(r:PB R tx pc):PB R (zX td (jfP ta tb) tx) (jaZ pd pa pb pc):=by
 intro σ ρ Z H O d z s e Q k;refine ob e λx u e=>ob e λy e2 e=>ob e λc A e=>?_;cases x with
 | dT o B l=>
  cases e;refine hd z s u λ{v J K L} j r1=>?_;obtain⟨p,vs,M,rfl,C,N,S⟩:=r1.dT_of;refine⟨p,rfl,.inr ⟨_,.inl C⟩,(YX n q j.wf.zd (j.slots z s) e2 λ{b T U} g2 V m=>?_)⟩;have a:=j.pair g2;refine r g2.wf.zd (a.slots z s) A λ{t Z3 D W} g3 E=>?_;obtain⟨X,F,G,I,f,g,h,_⟩:=((g2.pair g3).rep j.wf.zd r1);cases I;have i:D b=some (.tup<|(y.map kaV).map kV):=by rw[g3.same b<|by rw[m];exact λz=>(nomatch z)];exact m
  cases ev:KJ B l y with
  | none=>exact⟨none,(Y9 f g).2 ev▸DGet.t h i,k (a.pair g3)<|by rw[ev];exact E⟩
  | some d=>
   obtain⟨w,P,ew,rw⟩:=(Y9 f g).1 d ev;exact⟨some w,ew▸DGet.t h i,k (a.pair g3)<|by rw[ev];exact rw⟩
 | _=>cases e
noncomputable def jel:List (List KA)->List D->List KA->D->List D
 | k::ks,x::l,a,d=>(if k=a then d else x)::jel ks l a d
 | _,_,_,_=>[]
theorem uQ:∀{ks}{l} a d,ks.length=l.length->(jel ks l a d).length=l.length
 | [],[],_,_,_=>rfl
 | [],_::_,_,_,h=>by simp at h
 | _::_,[],_,_,h=>by simp at h
 | k::ks,x::l,a,d,h=>by rw[jel,M1,M1,uQ a d ⇑h]
theorem jag(rd:Rep R Z H d v [])(a):∀{ks}{l}{vs}{O},Reps R Z H l vs O->ks.length=l.length ->
  Ex2 λvs2 O2=>An3 (Reps R Z H (jel ks l a d) vs2 O2) ((ks.map<|List.map kaV).zip vs2=((ks.map<|List.map kaV).zip vs).map (λkv=>if kv.1=a.map kaV then(kv.1,v) else kv))<|O2.Sublist O
 | [],[],vs,O,r,b=>by
  obtain⟨rfl,rfl⟩:=r;exact⟨[],[],.empty,rfl,.slnil⟩
 | [],_::_,_,_,_,h=>by simp at h
 | _::_,[],_,_,_,h=>by simp at h
 | k::ks,x::l,vs,O,r,b=>by
  obtain⟨w,g,i,O2,rfl,rfl,r1,r2⟩:=r;obtain⟨c,f,r3,e3,sl⟩:=jag rd a r2 ⇑b;by_cases e:k=a
  ·subst e;refine⟨v::c,[]++f,?_,?_,(sl.trans<|List.sublist_append_right _ _)⟩
   ·rw[jel,if_pos rfl];exact Reps.cons rd r3
   ·simp only[L5,U6,if_true,e3]
  ·have j:=λz=>e<|K8 z;refine⟨w::c,i++f,?_,?_,(List.Sublist.append (List.Sublist.refl _) sl)⟩
   ·rw[jel,if_neg e];exact Reps.cons r1 r3
   ·simp only[L5,U6,if_neg j,e3]
theorem uL(a):∀{ks:List (List KA)}{vs:List V},ks.length=vs.length->(((ks.map<|List.map kaV).zip vs).any λkv=>decide<|kv.1=a.map kaV)=decide (a∈ks)
 | [],vs,_=>by simp
 | k::ks,[],h=>by simp at h
 | k::ks,v::vs,h=>by
  rw[L5,U6,List.any_cons,uL a ⇑h];by_cases e:k=a
  ·subst e;simp
  ·have b:¬ (k.map kaV=a.map kaV):=λz=>e<|K8 z;have e2:¬ (a=k):=λz=>e z.symm;simp[b,e2]
def Ke(ks:List<|List KA)(l:List D)(a:List KA)(d:D):List (List KA)×List D:=if a∈ks then(ks,jel ks l a d) else(ks++[a],l++[d])
def Qv(rd:Rep R Z H d v [])(a)  (r:Reps R Z H l vs O) (b:ks.length=l.length):
  Ex2 λvs2 O2=>An4 (Reps R Z H (Ke ks l a d).2 vs2 O2) ((((Ke ks l a d).1).map (List.map kaV)).zip vs2=JM ((ks.map<|List.map kaV).zip vs) (a.map kaV) v) (O2.Sublist O) ((Ke ks l a d).1.length=(Ke ks l a d).2.length):=by
 have c:ks.length=vs.length:=by rw[r.length];exact b
 unfold Ke JM;rw[uL a c];by_cases e:a∈ks
 ·rw[if_pos e,X0 e,if_pos rfl];obtain⟨f,P,r2,e2,sl⟩:=jag rd a r b;exact⟨f,P,r2,e2,sl,by rw[uQ a d b];exact b⟩
 ·rw[if_neg e,X1 e,if_neg<|λz=>(nomatch z)];refine⟨vs++[v],O++[],r.append<|Reps.one rd,?_,by simp,by simp[b]⟩;rw[N4,List.zip_append ⇑c];rfl
@[simp] def jf1(i:Nat)(pa:PF)(pb:PF)(pv:PF)(ρ:Rh):Option Out:=(pv ρ).bind λd=>(pV i ρ).bind λx=>(jgT x).bind λp=>(jj7 pa pb ρ).bind λa=>bif frz d&&lim p.1.length then some (.nx<|ρ.set i<|some<|.dT true (Ke p.1 p.2 a d).1 (Ke p.1 p.2 a d).2) else none
def jhf{R}{pm}{i}{ta tb tv}{pa pb pv}(n:PB R ta pa)(p:PB R tb pb)(q:PB R tv pv):DS R pm (wq (j7 i) (jfP ta tb) tv) (jf1 i pa pb pv):=by
 intro σ ρ Z H O o w s e G k;refine ob e λd r e=>ob e λx v e=>ob e λ⟨I,l⟩ y e=>ob e λc e2 e=>oc e λg e=>?_;cases e;cases ui y;rw[M0] at g;refine q w.zd s r λ{u J K L} f r1=>?_;cases r1.nil g.1;have m:=f.widen w;have s1:=f.slots w.zd s;refine qN Jz m.wf s1 v rfl jfR λa _ vs M z h A B put=>B<|YX n p f.wf.zd s1 e2 λ{b N P} g2 Q C=>?_;obtain⟨D,S,r3,E,sl,j⟩:=Qv (g2.rep f.wf.zd r1) c (g2.reps f.wf.zd z) h;obtain⟨T,g3,F⟩:=put jfR j g2 r3 ⇑sl.count_le;refine⟨a,_,rfl,DPut.t (g2.at0 A) C<|VE g.2,?_⟩;rw[<- E];exact k (m.trans g3) F<|Keep.refl _ _
def joC(d:X.mg "enumerate" = none)(h:QPs cl X [a] tr pr)(c:QB cl X b tb pb)(e:Gl X "enumerate":=by rfl)(f:starEach [a] X.env=[(false,eval a X.env)]:=by rfl):
  QI cl X (.Tuple elts n tpos) (.Call (.Name "enumerate" p) [a] [⟨some "start",b,kpos⟩] pos) (jop X.K tr tb) (jmU pr pb):=⟨joH e d h.sem c.sem f,jmR h.den c.den⟩
def jjq:QP cl X (.Dict [] [] pos) jcN (pC<|.dT true [] []):=⟨jfh,jeR⟩
def jjS{d}(i:Room k X.A)(e:QB cl X o to po)(f:QB cl X a ta pa)(g:QB cl X b tb pb)(h:QB cl X c tc pc)(m:M2 X o "get" apos (.Tuple [a,b] d tpos) c cpos:=by exact⟨rfl,rfl,rfl,rfl⟩)
  (h1:starEach [a,b] X.env=(false,eval a X.env)::starEach [b] X.env:=by rfl) (h2:starEach [b] X.env=(false,eval b X.env)::starEach [] X.env:=by rfl):
  QB cl X (.Call (.Attribute o "get" apos) [.Tuple [a,b] d tpos,c] [] cpos) (zX to (jfP ta tb) tc) (jaZ po pa pb pc):=
 ⟨uD (VO i) e.sem (Yb<|jt f.sem (jt g.sem vA h2) h1) h.sem m,jfy e.den f.den g.den h.den⟩
def jhw{c}(h:Room k X.A)(j:QB cl X (.Name x xpos) (j7 i)<|pV i)(d:QB cl X a ta pa)(f:QB cl X b tb pb)(g:QB cl X e te pe)
  (l:swapsWith e (some<|.Subscript (.Name x xpos) (.Tuple [a,b] c tpos) pos') pos.line X.env=pure false:=by rfl)
  (h1:starEach [a,b] X.env=(false,eval a X.env)::starEach [b] X.env:=by rfl) (h2:starEach [b] X.env=(false,eval b X.env)::starEach [] X.env:=by rfl):
  QS cl pm X (.Assign [.Subscript (.Name x xpos) (.Tuple [a,b] c tpos) pos'] e pos) (wq (j7 i) (jfP ta tb) te) (jf1 i pa pb pe):=
 ⟨wy (VO h) j.sem (Yb<|jt d.sem (jt f.sem vA h2) h1) g.sem l,jhf d.den f.den g.den⟩
def jl5{o}{ks:List KA}{vs}(f:ks.length=vs.length)(za:Z a)(g:H a=some (.frz o<|.dK<|(ks.map kaV).zip vs)):jf0 R (Itk a o<|(ks.map kaV).zip vs) Z H (ks.map kaD):=by
 intro h j m k zd i;have e:j a=some (.frz o<|.dK<|(ks.map kaV).zip vs):=by rw[k a za];exact g
 have b:((ks.map kaV).zip vs).length=ks.length:=by rw[List.length_zip,L1,f,Nat.min_self]
 refine⟨λhi=>⟨e,by rw[b];rw[L1] at hi;exact hi⟩,λx d=>?_⟩;rw[List.getElem?_map] at d;cases hk:ks[i]? with
 | none=>rw[hk] at d;cases d
 | some c=>
  rw[hk] at d;cases d;have hi:=(L9.mp hk).1;refine⟨⟨e,by rw[b];exact hi⟩,λu n l=>?_⟩;obtain⟨rfl,p,e2,rfl⟩:=l;have e3:((ks.map kaV).zip vs)[i]?=some (kaV c,vs[i]'∅):=by
   rw[List.getElem?_zip_eq_some];exact⟨by rw[List.getElem?_map,hk];rfl,by simp⟩
  rw[e3] at e2;cases e2;exact⟨h,Go.id zd,VG c⟩
def jkw(w:WF Z H<|a::O):Go Z H (a::O) (λb=>Z b\/b=a) (upd H a u) O:=
 (Go.put w L7).trans (Go.frz1 (Go.put w L7).wf)
def Ks(i:Nat):FA:=λρ=>match ρ[i]? with
 | some (some (.dK true ks l))=>bif frzs l then some (ks.map kaD,ρ.set i<|some<|.dK false ks l) else none
 | _=>none
@[simp] def dKeysV_e:Ks i ρ=(pV i ρ).bind λd=>(jeb d).bind λk=>bif frzs k.2 then some (k.1.map kaD,ρ.set i<|some<|.dK false k.1 k.2) else none:=by
 unfold Ks pV;cases ρ[i]? with
 | none=>rfl
 | some x=>cases x with
  | none=>rfl
  | some d=>cases d with
   | dK o a l=>cases o<;>rfl
   | _=>rfl
end QD
namespace L2
open PySem PySem.Spec PyProof.Rows
end L2
namespace QD
open PySem L2 PySem.Spec PyProof.Rows
def Go.from(g:Go Z H O Z' H' E)(h:∀ a∈O,a∈O'):Go Z H O' Z' H' E:=
 ⟨g.wf,g.zz,λa q n=>g.fr a q λz=>n<|h a z,λa z=>(g.zn a z).elim .inl λq=>q.elim (λq=>.inr<|.inl<|h a q) λq=>.inr<|.inr q,λa q=>(g.sub a q).elim (λq=>.inl<|h a q) .inr,g.dm⟩
def pFz(p:PF):PF:=λρ=>(p ρ).bind λd=>some<|fz d
@[simp] def pFz_e:pFz p ρ=(p ρ).bind λd=>some (fz d):=rfl
def joi(h:PP R te p):PB R te (pFz p):=by
 intro σ ρ Z H O d z s e Q k;refine ob e λx b e=>?_;cases e;exact h z s b λ{v c f P} g r=>(k g.fz<|r.freeze (λa z=>.inl z) λa z=>.inr z)
def QP.fzb(h:QP cl X e te pe):QB cl X e te (pFz pe):=⟨h.sem,joi h.den⟩
noncomputable def JL:List Str->List D->Str->Option D
 | n::ns,d::l,f=>if f=n then some d else JL ns l f
 | _,_,_=>none
theorem wt:∀{ns}{l}{vs}{O},Reps R Z H l vs O->ns.length=l.length->JL ns l f=some d->∃ v P,(ns.zip vs).lookup f=some v/\Rep R Z H d v P
 | [],l,vs,O,_,_,h=>by cases l<;>cases h
 | n::ns,[],vs,O,_,a,_=>by simp at a
 | n::ns,x::l,vs,O,r,a,h=>by
  obtain⟨v,b,c,i,rfl,rfl,r1,r2⟩:=r;rw[JL] at h;by_cases e:f=n
  ·rw[if_pos e] at h;cases h;exact⟨v,c,by rw[U6,List.lookup_cons,e];simp,r1⟩
  ·rw[if_neg e] at h;obtain⟨w,P,g,e2⟩:=wt r2 ⇑a h;refine⟨w,P,?_,e2⟩;rw[U6,List.lookup_cons];have:(f==n)=false:=by simp[e]
   rw[this];exact g
def ue(c:Nat)(f:Str):D->Option D
 | .ins _ c' ns l=>bif c'==c then JL ns l f else none
 | _=>none
@[simp] def fldOf_ins:ue c f (.ins o c' ns l)=bif c'==c then JL ns l f else none:=rfl
@[simp] def JI(c:Nat)(f:Str)(po:PF)(ρ:Rh):Option D:=(po ρ).bind (ue c f)
def jng(g:Cls R.K<|R.cls c)(i:NoAttr R.K (R.cls c) f)(h:PB R ta p):PB R (jee R.K ta f) (JI c f p):=by
 intro σ ρ Z H O d z s e Q k;refine ob e λx j e=>?_;cases x with
 | ins o m ns l=>
  refine oc e λn q=>?_;obtain rfl:m=c:=by simpa using n
  refine h z s j λ{v B C D} r r1=>?_;obtain⟨a,t,vs,E,rfl,u,y,A,_⟩:=r1;obtain⟨w,P,ew,b⟩:=wt u y q;exact⟨a,_,t,_,w,rfl,A,g,i,ew,k r b⟩
 | _=>cases e
noncomputable def Jo:List Str->List D->Str->D->List Str×List D
 | n::ns,x::l,f,d=>if n=f then(n::ns,d::l) else(n::(Jo ns l f d).1,x::(Jo ns l f d).2)
 | _,_,f,d=>([f],[d])
theorem V9(rd:Rep R Z H d v P):∀{ns}{l}{vs}{O},Reps R Z H l vs O->ns.length=l.length ->
  Ex2 λvs2 O2=>An4 (Reps R Z H (Jo ns l f d).2 vs2 O2) ((Jo ns l f d).1.zip vs2=Kk f v (ns.zip vs)) ((Jo ns l f d).1.length=(Jo ns l f d).2.length)<|∀ c,O2.count c<=O.count c+P.count c
 | [],[],vs,O,r,_=>by
  obtain⟨rfl,rfl⟩:=r;exact⟨[v],P,.one rd,rfl,rfl,λc=>by simp⟩
 | [],_::_,_,_,_,a=>by simp at a
 | _::_,[],_,_,_,a=>by simp at a
 | n::ns,x::l,vs,O,r,a=>by
  obtain⟨u,b,g,O2,rfl,rfl,r1,r2⟩:=r;rw[Jo];by_cases e:n=f
  ·rw[if_pos e];refine⟨v::b,P++O2,Reps.cons rd r2,?_,a,λc=>by simp only[U7];lia⟩;rw[U6,U6,Kk,if_pos e]
  ·rw[if_neg e];obtain⟨vs2,h,r3,e3,i,j⟩:=V9 rd r2 ⇑a;refine⟨u::vs2,g++h,Reps.cons r1 r3,?_,by simp[i],λc=>by have:=j c;simp only[U7];lia⟩;rw[U6,U6,Kk,if_neg e,e3]
@[simp] def J2(i:Nat)(c:Nat)(f:Str)(pv:PF)(ρ:Rh):Option Out:=(pv ρ).bind λd=>(pV i ρ).bind λt=>(zr t).bind λy=>bif y.1==c&&decide (y.2.1.length<=900) then some (.nx<|ρ.set i<|some<|.ins true c (Jo y.2.1 y.2.2 f d).1 (Jo y.2.1 y.2.2 f d).2) else none
def jdT{l:List α}{m:List β}(h:decide (l.length<=900)=true):(l.zip m).length<1000:=by
 rw[List.length_zip];exact X8 (Nat.min_le_left _ _) ∅
def jl7{R}{pm}{i c}{f}{tv}{pv}(m:Cls R.K<|R.cls c)(n:NoAttr R.K (R.cls c) f)(p:PP R tv pv):DS R pm (job R.K (j7 i) tv f) (J2 i c f pv):=by
 intro σ ρ Z H O o w s e G k;refine ob e λd r e=>ob e λt v e=>ob e λ⟨x,ns,l⟩ e2 e=>oc e λb e=>?_;cases e;cases Yd e2;rw[M0] at b;obtain rfl:x=c:=by simpa using b.1
 refine p w.zd s r λ{u I J L} j r1=>?_;have g:=j.widen w;refine qN Jz g.wf (j.slots w.zd s) v rfl ow_ins λa y vs M z h A B put=>B ?_;obtain⟨C,N,r3,e3,D,E⟩:=V9 r1 z h;obtain⟨P,g3,F⟩:=put ow_ins D (Go.id g.wf.zd) r3 λq=>by have:=E q;simp;lia
 refine⟨a,_,y,_,rfl,A,m,n,jdT b.2,?_⟩;rw[<- e3];exact k (g.trans g3) F<|Keep.refl _ _
def jl6(b:Cls X.K<|cl c)(d:NoAttr X.K (cl c) f)(a:QB cl X o to po)(e:attributeBase o f X.env (eval o X.env)=eval o X.env:=by rfl):QB cl X (.Attribute o f pos) (jee X.K to f) (JI c f po):=⟨jaz a.sem e,jng b d a.den⟩
def jle(b:Cls X.K<|cl c)(d:NoAttr X.K (cl c) f)(g:QB cl X (.Name x xpos) (j7 i)<|pV i)(a:QP cl X e te pe)(h:swapsWith e (some<|.Attribute (.Name x xpos) f pos') pos.line X.env=pure false:=by rfl):
  QS cl pm X (.Assign [.Attribute (.Name x xpos) f pos'] e pos) (job X.K (j7 i) te f) (J2 i c f pe):=⟨jkT g.sem a.sem h,jl7 b d a.den⟩
noncomputable def jly:List Str->Str->Option Nat
 | [],_=>none
 | n::ns,f=>if f=n then some 0 else(jly ns f).map (·+1)
theorem uP:∀{ns}{f}{vs}{j}{v:V},jly ns f=some j->ns.length=vs.length->vs[j]?=some v->(ns.zip vs).lookup f=some v
 | [],_,_,_,_,h,_,_=>by cases h
 | n::ns,f,[],_,_,_,a,_=>by simp at a
 | n::ns,f,u::vs,j,v,h,a,b=>by
  rw[jly] at h;by_cases e:f=n
  ·rw[if_pos e] at h;cases h;cases b;rw[U6,List.lookup_cons,e];simp
  ·rw[if_neg e] at h;cases hp:jly ns f with
   | none=>rw[hp] at h;cases h
   | some i=>
    rw[hp] at h;cases h;rw[U6,List.lookup_cons,show(f==n)=false by simp[e]];exact uP hp ⇑a ⇑b
theorem Qf:∀{ns}{l}{vs:List V},ns.length=l.length->vs.length=l.length->JL ns l f=none->(ns.zip vs).lookup f=none
 | [],_,_,_,_,_=>rfl
 | n::ns,[],_,a,_,_=>by simp at a
 | n::ns,x::l,[],_,b,_=>by simp at b
 | n::ns,x::l,v::vs,a,b,h=>by
  rw[JL] at h;by_cases e:f=n
  ·rw[if_pos e] at h;cases h
  ·rw[if_neg e] at h;rw[U6,List.lookup_cons,show(f==n)=false by simp[e]];exact Qf ⇑a ⇑b h
@[simp] def yL(m:List D->Option (D×D))(i c:Nat)(mn:Str)(p:PAf)(ρ:Rh):Option (D×Rh):=(p ρ).bind λds=>(pV i ρ).bind λt=>(zr t).bind λy=>bif y.1==c&&(frzs ds&&(JL y.2.1 y.2.2 mn).isNone) then(m<|t::ds).bind λr=>some (r.1,ρ.set i<|some r.2) else none
def je2(h:PPs R ta p)(K:∀ ρ ds,p ρ=some ds->ds.length+1=n):DE R (jdt (R.cls c) mn (spM R m n 0) [] E0 (j7 i) ta) (yL m i c mn p):=by
 intro σ ρ ρ' Z H O d w s e Q k;refine ob e λds D e=>ob e λy b e=>ob e λ⟨j,ns,l⟩ e3 e=>oc e λE e=>ob e λ⟨L,M⟩ e2 e=>?_;cases e;cases Yd e3;have b:=qo b;rw[M0,M0] at E;obtain⟨o,q,r⟩:=E;obtain rfl:j=c:=by simpa using o
 have hi:=(L9.mp b).1;obtain⟨A0,P0,B0,_,N,_,_⟩:=s.put hi;obtain⟨u,t,S⟩:=N _ b;obtain⟨a,T,vs,O',rfl,U,x,V,_⟩:=S;refine⟨.ref a,t,a,T,_,rfl,V,Qf x U.length<|Option.isNone_iff_eq_none.mp r,(h w.zd s D λ{W z F P1} G I=>?_)⟩;cases I.nil q;have f:Go Z H O z F O:=by simpa using G.widen w
 obtain⟨A,P,B,rfl,X,Y,_⟩:=(G.slots w.zd s).put hi;obtain⟨u',g,rc⟩:=X _ b;rw[t] at g;cases g;have rr:Reps R z F (.ins true j ns l::ds) (.ref a::W) P:=by
  have:=Reps.cons rc I;simpa using this
 refine⟨z,.ins true j ns l::ds,L,M,P,.ref a,f.wf.mid,by have:=K ρ ds D;simpa using this,by rw[M9];exact rr,rfl,e2,λ{v Z2 H2 P2 O2} g2 r2 C=>?_⟩;have J:=Go.keepA f.wf g2;have s2:=Y C g2.zz (g2.zH f.wf.mid) J.1 J.2;rw[qc t] at s2;exact k (f.trans<|g2.frame f.wf).turn r2 s2
noncomputable def jms:D×D->Option D
 | (.non,t)=>some t
 | _=>none
@[simp] def nonOf_non(t):jms (.non,t)=some t:=rfl
@[simp] def jbw(m:List D->Option (D×D))(c:Nat)(p:PAf)(ρ:Rh):Option D:=(p ρ).bind λds=>bif frzs ds then(m<|.ins true c [] []::ds).bind jms else none
def jhV(h:PPs R ta p)(y:∀ ρ ds,p ρ=some ds->ds.length+1=n):PP R (jie (R.cls c) (spM R m n 0) [] E0 ta) (jbw m c p):=by
 intro σ ρ Z H O d z s e Q k;refine ob e λds q e=>oc e λA e=>ob e λ⟨x,t⟩ e2 e=>?_;cases x with
 | non=>
  cases e;refine h z s q λ{E B r F} f u=>?_;cases u.nil A;intro x b C g i;have w:=Go.newF (o:=.own x) (wf0 f.wf.zd) g;have j:upd r b (.own x) x=none:=by rw[je<|λe=>i e.symm];exact C
  have g2:=w.trans<|Go.newO (o:=.ins (R.cls c) b []) w.wf j;have D:Rep R (λa=>B a\/a=b) (upd (upd r b<|.own x) x<|.ins (R.cls c) b []) (.ins true c [] []) (.ref x) [x]:=by
   exact⟨x,b,[],[],rfl,.empty,rfl,jk,rfl⟩
  refine⟨_,.ins true c [] []::ds,.non,d,[x],.ref x,g2.wf,by have:=y ρ ds q;simpa using this,by rw[M9];have:=Reps.cons D<|g2.reps f.wf.zd u;simpa using this,rfl,e2,λ{v Z3 G I J} g3 r3 l=>?_⟩;obtain⟨rfl,rfl⟩:=r3;exact⟨rfl,k (by simpa using(f.trans g2).trans g3) l⟩
 | _=>cases e
section
variable {cl:Nat->Addr}{pm:List Nat}{X:Cx}{e:Expr}{es:List Expr}{tr:TA}{pr:PAf}{pos p apos:Pos}
structure MtFact(K:W5)(C:Addr)(x qual:Str)(st:Stmt)(f:Addr)(fd:FuncData)(ps:List Str):Prop where
 fn:Fun K x qual st f fd
 mt:Meth K C x f
 bd:Binds K fd ps []
def OkM(P:Program)(w:World)(K:W5)(mg:W7)(C:Addr)(x qual:Str)(st:Stmt)(k:Nat)(ps:List Str)(sp:Sp):Prop:=∃ f fd,MtFact K C x qual st f fd ps/\∀ base,FnOk P w K mg base CX0 k f fd ps sp
def jiD{k n i c}{ps}{m}{x mn qual}{st}{pl}(g:Cls X.K<|cl c)(O:OkM X.prog X.w X.K X.mg (cl c) mn qual st k ps<|spM ⟨X.K,cl⟩ m n 0)(h:Room k X.A)(j:QB cl X (.Name x p) (j7 i)<|pV i)(d:QPs cl X (e::es) tr pr)(l:∀ ρ ds,pr ρ=some ds->ds.length+1=n)
  (a:SEq X e es:=by rfl) (b:BkE X pos es:=by rfl)
  (o:eval (.Call (.Attribute (.Name x p) mn apos) (e::es) [] pos) X.env=(do
   let ov <- eval (.Name x p) X.env
   standAt apos.atName
   let (f,first) <- holding [ov] (getMethod ov mn pl)
   callWith pos f first (backTo pos<|starEach (e::es) X.env) (backToKw pos<|keywordEach [] X.env)):=by rfl):
  QE cl X (.Call (.Attribute (.Name x p) mn apos) (e::es) [] pos) (jdt (cl c) mn (spM ⟨X.K,cl⟩ m n 0) [] E0 (j7 i) tr) (yL m i c mn pr):=by
 obtain⟨_,_,F,G⟩:=O;exact⟨jcg j.sem g F.mt (G _) h F.bd .nil je4 d.sem a b o,je2 d.den l⟩
def jlv{k n c}{ps}{m}{x qual}{st}(f:PySem.W.makesIn X.K (cl c)=true)(g:PySem.W.keepIn X.K (.ref<|cl c)=true)(O:OkM X.prog X.w X.K X.mg (cl c) "__init__" qual st k ps<|spM ⟨X.K,cl⟩ m n 0)(h:Room (k+1) X.A)(i:X.mg x=some (.ref<|cl c))(d:QPs cl X (e::es) tr pr)(j:∀ ρ ds,pr ρ=some ds->ds.length+1=n)(l:Gl X x:=by rfl)
  (a:Nd x:=by decide) (o:SEq X e es:=by rfl) (b:BkE X pos es:=by rfl):
  QP cl X (.Call (.Name x p) (e::es) [] pos) (jie (cl c) (spM ⟨X.K,cl⟩ m n 0) [] E0 tr) (jbw m c pr):=by
 obtain⟨_,_,F,G⟩:=O;exact⟨jhg ⟨f,F.mt.at_,F.mt.fn,g⟩ (G _) h l i F.bd .nil je4 d.sem a o b,jhV d.den j⟩
end
@[simp] def Yn(m:List D->Option D)(c:Nat)(mn:Str)(po:PF)(p:PAf)(ρ:Rh):Option D:=(po ρ).bind λs=>(joe s).bind λy=>bif y.1==c&&(JL y.2.1 y.2.2 mn).isNone then(p ρ).bind λds=>(m<|fzs<|s::ds).bind λd=>bif frzs (s::ds)||clean d then some d else none else none
def ji9(r:PB R to po)(t:PBs R ta p)(u:∀ ρ ds,p ρ=some ds->ds.length+1=n):PP R (jdt (R.cls c) mn (spP R m n) [] E0 to ta) (Yn m c mn po p):=by
 intro σ ρ Z H O d z s e Q k;refine ob e λE v e=>ob e λ⟨w,ns,l⟩ e3 e=>oc e λf e=>ob e λds j e=>ob e λc0 e2 e=>oc e λx e=>?_;cases e;obtain⟨o,rfl⟩:=jim e3;rw[M0] at f;obtain rfl:w=c:=by simpa using f.1
 refine r z s v λ{F G I J} b q=>?_;have g:=q;obtain⟨a,y,A,K,rfl,B,h,C,_⟩:=g;exact⟨a,y,_,rfl,C,Qf h B.length<|Option.isNone_iff_eq_none.mp f.2,t b.wf.zd (b.slots z s) j λi D=>jdp i.wf.zd (Reps.cons (i.rep b.wf.zd q) D) (u ρ ds j) e2 x λg2 r2=>k (by simpa using(b.pair i).pair g2) r2⟩
def Jm(c:Nat)(f:Str)(L:Ln)(d:D):Option (D×(D->D)):=(L d).bind λy=>(zr y.1).bind λq=>bif q.1==c then(jly q.2.1 f).bind λj=>(q.2.2[j]?).bind λx=>some (x,λx'=>y.2<|.ins true q.1 q.2.1<|q.2.2.set j x') else none
def jkU(G:Cls R.K<|R.cls c)(I:NoAttr R.K (R.cls c) f)(h:jeg R tb i L):jeg R (jee R.K tb f) i (Jm c f L):=by
 intro σ ρ Z H O d x k s hd e;refine ob e λ⟨y,k0⟩ J e=>ob e λ⟨M,ns,l⟩ e3 e=>oc e λN e=>ob e λj Q e=>ob e λx0 e2 e=>?_;cases e;cases Yd e3;obtain rfl:M=c:=by simpa using N
 obtain⟨v,A,P,B,rfl,r,S,T⟩:=h s hd J;obtain⟨a,t,vs,O',rfl,w,n,z,rfl⟩:=r;obtain⟨u,U,V,W,C,rfl,X,o⟩:=w.at e2;refine⟨u,A++(a::U),V,W++B,by simp,X,λq=>S ⟨a,_,t,_,u,rfl,z,G,I,uP Q (by rw[w.length];exact n) C,q⟩,λ{Z' H' x' Y} r' D E p F=>?_⟩;have g:=o r' D E (λb m=>p b<|by simp[m])<|λb m=>F b (by simp[m]);rw[qc C] at g;have s2:=T (ow_ins.mpr ⟨a,t,vs,_,rfl,g,by rw[List.length_set];exact n,(p a<|by simp).trans z,rfl⟩) D E (λb m=>p b<|by simp[m])<|λb m=>F b (by simp[m]);simpa using s2
structure QL(cl:Nat->Addr)(X:Cx)(e:Expr)(tb:TE)(i:Nat)(L:Ln):Prop where
 sem:PE X e tb
 den:jeg ⟨X.K,cl⟩ tb i L
section
variable {cl:Nat->Addr}{pm:List Nat}{X:Cx}{o e j:Expr}{es:List Expr}{to te tb tj:TE}{po pe pj:PF}{tr:TA}{pr:PAf}{pos p apos:Pos}{L L':Ln}{i:Nat}
def jkt{k n c}{ps}{m}{mn qual}{st}{pl}(i:Cls X.K<|cl c)(O:OkM X.prog X.w X.K X.mg (cl c) mn qual st k ps<|spP ⟨X.K,cl⟩ m n)(j:Room k X.A)(g:QB cl X o to po)(a:QBs cl X (e::es) tr pr)(l:(e::es).length+1=n:=by rfl)
  (b:SEq X e es:=by rfl) (d:BkE X pos es:=by rfl)
  (p:eval (.Call (.Attribute o mn apos) (e::es) [] pos) X.env=(do
   let ov <- eval o X.env
   standAt apos.atName
   let (f,first) <- holding [ov] (getMethod ov mn pl)
   callWith pos f first (backTo pos<|starEach (e::es) X.env) (backToKw pos<|keywordEach [] X.env)):=by rfl):
  QP cl X (.Call (.Attribute o mn apos) (e::es) [] pos) (jdt (cl c) mn (spP ⟨X.K,cl⟩ m n) [] E0 to tr) (Yn m c mn po pr):=by
 obtain⟨_,_,F,G⟩:=O;exact⟨jcg g.sem i F.mt (G _) j F.bd .nil je4 a.sem b d p,ji9 g.den a.den λρ q h=>by rw[a.n ρ q h];exact l⟩
def jm4{x}(a:QB cl X (.Name x p) (j7 i)<|pV i):QL cl X (.Name x p) (j7 i) i km:=⟨a.sem,Jz⟩
def jkc{c}{f}(a:Cls X.K<|cl c)(b:NoAttr X.K (cl c) f)(h:QL cl X o tb i L)(d:attributeBase o f X.env (eval o X.env)=eval o X.env:=by rfl):QL cl X (.Attribute o f pos) (jee X.K tb f) i (Jm c f L):=
 ⟨jaz h.sem d,jkU a b h.den⟩
def jih{cpos}(f:QL cl X o tb i L)(h:QP cl X e te pe)(b:attributeBase o "append" X.env (eval o X.env)=eval o X.env:=by rfl)
  (d:((backTo cpos<|starEach [e] X.env).all (λx=>!x.1)&&(backToKw cpos<|keywordEach [] X.env).all (λx=>x.1.isSome)
   && decide ([e].length+([]:List Keyword).length+(if([]:List Keyword).isEmpty then 0 else 1)<30))=true:=by rfl)
  (c:(apos.endLine==cpos.line)=true:=by rfl) (g:starEach [e] X.env=(false,eval e X.env)::starEach [] X.env:=by rfl) (a:(backTo cpos<|starEach [] X.env).any (·.1)=false:=by rfl)
  (hsw:swapsWith (.Call (.Attribute o "append" apos) [e] [] cpos) none pos.line X.env=pure false:=by rfl):
  QS cl pm X (.Expr (.Call (.Attribute o "append" apos) [e] [] cpos) pos) (Ys<|tBM X.K "list" Vn tb<|jE te Yi) (qr i L pe):=
 ⟨Vs (jiW PySem.F.plainAttrs_list PySem.F.slot_list_append PySem.F.type_list_append VD f.sem (jt h.sem vA g) b d c g a) hsw,jdA f.den h.den⟩
end
section
variable {R:RC}{Z Z' Z2:Zn}{H H' H2:Hp}{pm:List Nat}
def jcd(rd:Rep R Z H d v P)(a)  (r:Reps R Z H l vs O) (b:ks.length=l.length) (c:a∉ks):
  Reps R Z H (kn ks l a d).2 (vs++[v]) (O++P)/\(((kn ks l a d).1).map kaV).zip (vs++[v])=JM ((ks.map kaV).zip vs) (kaV a) v/\(kn ks l a d).1.length=(kn ks l a d).2.length:=by
 have e:ks.length=vs.length:=by rw[r.length];exact b
 unfold kn JM;rw[wL a e,if_neg c,X1 c,if_neg<|λz=>(nomatch z)];refine⟨r.append<|Reps.one rd,?_,by simp[b]⟩;rw[N4,List.zip_append ⇑e];rfl
def Vu(i:Nat)(L:Ln)(pk pv:PF)(ρ:Rh):Option Out:=(pv ρ).bind λd=>(pV i ρ).bind λt=>(L t).bind λy=>(jeb y.1).bind λkl=>(pk ρ).bind λq=>(vC q).bind λa=>bif lim kl.1.length&&(frz d||!decide (a∈kl.1)) then some (.nx<|ρ.set i<|some<|y.2<|.dK true (kn kl.1 kl.2 a d).1 (kn kl.1 kl.2 a d).2) else none
def jfs{i}{L}{tb ty tv}{pk pv}(A:jeg R tb i L)(B:PB R ty pk)(C:PP R tv pv):DS R pm (wq tb ty tv) (Vu i L pk pv):=by
 intro σ ρ Z H O o w s e T k;refine ob e λd D e=>ob e λt hi e=>ob e λ⟨y,U⟩ e3 e=>ob e λ⟨g,l⟩ e7 e=>ob e λq E e=>ob e λc e5 e=>oc e λv e=>?_;cases e;cases x8 e7;rw[M0] at v;refine C w.zd s D λ{u V W F} h r1=>?_;have s1:=h.slots w.zd s;have x:=h.widen w;refine qN A x.wf s1 hi e3 jby λa _ vs G I j J K put=>K<|B h.wf.zd s1 E λ{z M N X} g2 r2=>?_;obtain⟨rfl,_⟩:=yF e5 r2;have m:=g2.rep h.wf.zd r1;have n:=g2.reps h.wf.zd I;have key:∃ b p,Reps R M N (kn g l c d).2 b p/\(((kn g l c d).1).map kaV).zip b=JM ((g.map kaV).zip vs) (kaV c) u/\(∀ q,p.count q<=G.count q+F.count q)/\(kn g l c d).1.length=(kn g l c d).2.length:=by
  cases hf:frz d with
  | true=>
   cases r1.nil hf;obtain⟨b,p,r3,r,sl,f⟩:=Y4 m c n j;exact⟨b,p,r3,r,⇑sl.count_le,f⟩
  | false=>
   have P:c∉g:=by
    have:=v.2;rw[hf] at this;simpa using this
   obtain⟨r3,r,f⟩:=jcd m c n j P;exact⟨_,_,r3,r,λq=>by rw[U7];exact M8 _,f⟩
 obtain⟨b,p,r3,r,Q,f⟩:=key;obtain⟨Y,g3,S⟩:=put jby f g2 r3 ⇑Q;refine⟨a,_,rfl,DPut.k (g2.at0 J)<|VE v.1,?_⟩;rw[<- r];exact k (x.trans g3) S<|Keep.refl _ _
def YK(i:Nat)(L:Ln)(c:Nat)(f:Str)(g:Int->Int->Int)(pv:PF)(ρ:Rh):Option Out:=(pV i ρ).bind λt=>(L t).bind λy=>(zr y.1).bind λq=>(JL q.2.1 q.2.2 f).bind λm=>(vn m).bind λm=>(pv ρ).bind λn=>(vn n).bind λn=>
 bif q.1==c&&decide (q.2.1.length<=900) then some (.nx<|ρ.set i<|some<|y.2<|.ins true c (Jo q.2.1 q.2.2 f<|.int<|g m n).1 (Jo q.2.1 q.2.2 f<|.int<|g m n).2) else none
def jfv{i c}{f}{L}{tb tv}{pv}{g}{rd}(d:∀{m n}{H}{Q},Q (.int<|g m n) H->rd (.int m) (.int n) H Q)(A:Cls R.K<|R.cls c)(B:NoAttr R.K (R.cls c) f)(C:jeg R tb i L)(D:PB R tv pv):DS R pm (ut R.K tb tv rd f) (YK i L c f g pv):=by
 intro σ ρ Z H O o w s e T k;refine ob e λt hi e=>ob e λ⟨y,U⟩ e3 e=>ob e λ⟨E,ns,l⟩ F e=>ob e λx G e=>ob e λm I e=>ob e λV J e=>ob e λn e2 e=>oc e λh e=>?_;cases e;cases Yd F;cases jM I;cases jM e2;rw[M0] at h;obtain rfl:E=c:=by simpa using h.1
 refine qN (P0:=[]) C w s hi e3 ow_ins λa r vs W v b z M put=>?_;obtain⟨mv,X,j,p⟩:=wt v b G;obtain⟨rfl,_⟩:=p.int_of;refine M ⟨a,_,r,_,_,rfl,z,A,B,j,D w.zd s J λ{u Y H2 P4} g2 r2=>?_⟩;obtain⟨rfl,_⟩:=r2.int_of;obtain⟨N,O2,r3,e7,q,P⟩:=V9 (Rep.int_mk) (g2.reps w.zd v) b;obtain⟨O3,g3,S⟩:=put ow_ins q g2 r3 ⇑P;refine d ⟨r,_,g2.at0 z,jdT h.2,?_⟩;rw[<- e7];exact k g3 S<|Keep.refl _ _
end
section
variable {cl:Nat->Addr}{pm:List Nat}{X:Cx}{o b e:Expr}{to tb te:TE}{po pb pe:PF}{pos p fp tpos:Pos}{k i:Nat}{L:Ln}
def jfU(f:Room k X.A)(a:QL cl X o to i L)(c:QB cl X b tb pb)(d:QP cl X e te pe)(g:swapsWith e (some<|.Subscript o b pos') pos.line X.env=pure false:=by rfl):
  QS cl pm X (.Assign [.Subscript o b pos'] e pos) (wq to tb te) (Vu i L pb pe):=⟨wy (VO f) a.sem c.sem d.sem g,jfs a.den c.den d.den⟩
def jdW(f:Room k X.A)(a:QL cl X o to i L)(c:QB cl X b tb pb)(d:QB cl X e te pe)
  (g:∀ ov iv new,augStore b ov iv new=(do holding [new,ov,iv] (setItem ov iv new);release [new,ov,iv] [];pure .next):=by intro _ _ _;rfl):
  QS cl pm X (.AugAssign (.Subscript o b tpos) .Add e pos) (xg to tb te jpc) (vz i L pb (λm n=>m+n) pe):=⟨KY (VO f) a.sem c.sem d.sem jmZ g,Qz (λq=>⟨_,_,rfl,rfl,q⟩) a.den c.den d.den⟩
def jbH(f:Room k X.A)(a:QL cl X o to i L)(c:QB cl X b tb pb)(d:QB cl X e te pe)
  (g:∀ ov iv new,augStore b ov iv new=(do holding [new,ov,iv] (setItem ov iv new);release [new,ov,iv] [];pure .next):=by intro _ _ _;rfl):
  QS cl pm X (.AugAssign (.Subscript o b tpos) .Sub e pos) (xg to tb te jlx) (vz i L pb (λm n=>m-n) pe):=⟨KY (VO f) a.sem c.sem d.sem uJ g,Qz (λq=>⟨_,_,rfl,rfl,q⟩) a.den c.den d.den⟩
def jc7{c}{f}(d:Cls X.K<|cl c)(g:NoAttr X.K (cl c) f)(a:QL cl X o to i L)(b:QB cl X e te pe):
  QS cl pm X (.AugAssign (.Attribute o f tpos) .Sub e pos) (ut X.K to te jlx f) (YK i L c f (λm n=>m-n) pe):=⟨jd2 a.sem b.sem uJ,jfv (λq=>⟨_,_,rfl,rfl,q⟩) d g a.den b.den⟩
end
namespace QK
def fld{K}{cl}{X}{o}{to}{po}{pos}{c}{f}(a:X.K=K)(b:Cls X.K<|cl c)(d:NoAttr X.K (cl c) f)(e:QB cl X o to po)(g:attributeBase o f X.env (eval o X.env)=eval o X.env:=by rfl):QB cl X (.Attribute o f pos) (jee K to f) (JI c f po):=by subst a;exact jl6 b d e g
end QK
section
variable {R:RC}{Z Z':Zn}{H H':Hp}{pm:List Nat}
def JK(m:List D->Option (D×D))(i:Nat)(L:Ln)(p:PAf)(ρ:Rh):Option (D×Rh):=(pV i ρ).bind λt=>(L t).bind λy=>(p ρ).bind λds=>bif frzs ds then(m<|y.1::ds).bind λr=>some (r.1,ρ.set i<|some<|y.2 r.2) else none
def jcw(q:jeg R tb i L)(u:PPs R tr p)(x:∀ ρ ds,p ρ=some ds->ds.length+1=n):DE R (Qt (spM R m n 0) [] E0<|jE tb tr) (JK m i L p):=by
 intro σ ρ J Z H O d w s e Q k;refine ob e λt hi e=>ob e λ⟨y,K⟩ e3 e=>ob e λds j e=>oc e λC e=>ob e λ⟨D,E⟩ e2 e=>?_;cases e;obtain⟨v,A,P,B,rfl,r,F,G⟩:=q s (qo hi) e3;refine F<|u w.zd s j λ{vs f l M} b r1=>?_;cases r1.nil C;have c:Go Z H (A++P++B) f l (A++P++B):=by simpa using b.widen w
 have I:Reps R f l (y::ds) (v::vs) P:=by
  have:=Reps.cons (b.rep w.zd r) r1;simpa using this
 refine⟨f,y::ds,D,E,P,v,c.wf.mid,by have:=x ρ ds j;simpa using this,by rw[M9];exact I,rfl,e2,λ{N S T U V} g2 r2 g=>?_⟩;have o:=Go.keepA c.wf g2;exact k (c.trans<|g2.frame c.wf).turn r2 (G g (λa z=>g2.zz a<|b.zz a z) (λa z=>(g2.zH c.wf.mid a<|b.zz a z).trans (b.same a<|w.zd a z)) (λa h=>(o.1 a h).trans (b.same a<|w.od a<|by simp[h]))<|λa h=>(o.2 a h).trans (b.same a<|w.od a<|by simp[h]))
def jjr(i:Nat)(pa pb:PF)(g:Int->Int->Int)(pv:PF):FS:=λρ=>(pV i ρ).bind λx=>(jgT x).bind λp=>(jj7 pa pb ρ).bind λa=>(KJ p.1 p.2 a).bind λy=>(vn y).bind λm=>(pv ρ).bind λz=>(vn z).bind λn=>
 bif lim p.1.length then some (.nx<|ρ.set i<|some<|.dT true (Ke p.1 p.2 a<|.int<|g m n).1 (Ke p.1 p.2 a<|.int<|g m n).2) else none
def jjc{i}{ta tb tv}{pa pb pv}{g}{rd}(j:∀{m n}{H}{Q},Q (.int<|g m n) H->rd (.int m) (.int n) H Q)(D:PB R ta pa)(E:PB R tb pb)(F:PB R tv pv):DS R pm (xg (j7 i) (jfP ta tb) tv rd) (jjr i pa pb g pv):=by
 intro σ ρ Z H O o w s e S k;refine ob e λx G e=>ob e λ⟨T,l⟩ I e=>ob e λc e2 e=>ob e λy e3 e=>ob e λm J e=>ob e λz e7 e=>ob e λn K e=>oc e λf e=>?_;cases e;cases ui I;cases jM J;cases jM K;refine qN (P0:=[]) Jz w s G rfl jfR λa _ vs U A h B L put=>L<|YX D E w.zd s e2 λ{b V W} g2 X C=>?_;obtain⟨mv,Y,p,q⟩:=(Y9 A h).1 _ e3;obtain⟨rfl,_⟩:=q.int_of;refine⟨a,.int m,rfl,by rw[<- p];exact DGet.t (g2.at0 B) C,F g2.wf.zd (g2.slots w.zd s) e7 λ{u Z3 H3 P4} g3 r3=>?_⟩;obtain⟨rfl,_⟩:=r3.int_of;have d:=g2.trans g3;obtain⟨M,O2,r,N,sl,v⟩:=Qv (Rep.int_mk) c (d.reps w.zd A) h;obtain⟨O3,g4,P⟩:=put jfR v d r ⇑sl.count_le;refine j ⟨_,DPut.t (d.at0 B) (g3.at0 C)<|VE f,?_⟩;rw[<- N];exact k g4 P<|Keep.refl _ _
end
section
variable {cl:Nat->Addr}{pm:List Nat}{X:Cx}{o e:Expr}{es:List Expr}{to te:TE}{po pe:PF}{tr:TA}{pr:PAf}{pos p:Pos}{i:Nat}{L:Ln}
def jfC{k n}{ps}{m}{x}{st}(O:OkF X.prog X.w X.K X.mg x st k ps<|spM ⟨X.K,cl⟩ m n 0)(f:Room k X.A)
  (c:QL cl X o to i L) (d:QPs cl X es tr pr) (g:∀ ρ ds,pr ρ=some ds->ds.length+1=n) (h:Gl X x:=by rfl) (a:Nd x:=by decide)
  (e:starEach (o::es) X.env=(false,eval o X.env)::starEach es X.env:=by rfl) (b:BkE X pos es:=by rfl):QE cl X (.Call (.Name x p) (o::es) [] pos) (Qt (spM ⟨X.K,cl⟩ m n 0) [] E0<|jE to tr) (JK m i L pr):=by
 obtain⟨_,_,F,G⟩:=O;exact⟨jhx F (G _) f (jt c.sem d.sem e) h a e b,jcw c.den d.den g⟩
def jf3{a b}{ta tb}{pa pb}{x}{f}{k}{c d tpos}(l:Room k X.A)(o:QB cl X (.Name x c) (j7 i)<|pV i)(g:QB cl X a ta pa)(h:QB cl X b tb pb)(j:QB cl X e te pe)
  (p:∀ ov iv new,augStore (.Tuple [a,b] f d) ov iv new=(do holding [new,ov,iv] (setItem ov iv new);release [new,ov,iv] [];pure .next):=by intro _ _ _;rfl)
  (h1:starEach [a,b] X.env=(false,eval a X.env)::starEach [b] X.env:=by rfl) (h2:starEach [b] X.env=(false,eval b X.env)::starEach [] X.env:=by rfl):
  QS cl pm X (.AugAssign (.Subscript (.Name x c) (.Tuple [a,b] f d) tpos) .Sub e pos) (xg (j7 i) (jfP ta tb) te jlx) (jjr i pa pb (λm n=>m-n) pe):=
 ⟨KY (VO l) o.sem (Yb<|jt g.sem (jt h.sem vA h2) h1) j.sem uJ p,jjc (λq=>⟨_,_,rfl,rfl,q⟩) g.den h.den j.den⟩
def je5(e:Room k X.A)(c:QB cl X a ta pa)(d:QB cl X b tb pb)(f:behindInMarks .NotIn b=false:=by with_unfolding_all rfl):QP cl X (.Compare a [.NotIn] [b] pos) (QX ta tb) (p2 (xE true) pa pb):=
 ⟨jlm (jcI (VO e) c.sem d.sem) f,jc6 c.den d.den⟩
end
section
variable {R:RC}{Z Z':Zn}{H H':Hp}{pm:List Nat}
def we(K:W5):List V->Hp->VK->Prop:=(λxs H Q=>∃(p:Addr) (ys:List V) (ps:List<|List Key×Addr×V),xs=[.ref p]/\SqL K H p ys/\ys.length=ps.length/\ps.length<=100000 /\
  (∀(j:Nat) y,ys[j]?=some y->∃ kv t,ps[j]?=some kv/\y=.ref t/\SqT K H t [.ref kv.2.1,kv.2.2]/\H kv.2.1=some (.tup<|kv.1.map kV))/\∀ D,H D=none->Q (.ref D) (upd H D<|.dT<|ps.foldl (λa kv=>JM a kv.1 kv.2.2) []))
def PK(R:RC)(te:TE)(pk:Rh->Option (List KA))(pv:PF):Prop:=∀{σ}{ρ}{Z}{H}{O}{c}{d},Zd Z H->Slots R Z H ρ σ O->pk ρ=some c->pv ρ=some d->frz d=true ->
 ∀{Q},(∀{t b}{u}{Z'}{H'},Go Z H [] Z' H' []->Z' t->Z' b->H' t=some (.tup [.ref b,u])->H' b=some (.tup<|(c.map kaV).map kV)->Rep R Z' H' d u []->Q (.ref t) H')->te σ H Q
def jjE(g:D->Rh->Option Rh)(q:PTf)(pk:Rh->Option (List KA))(pv:PF):List D->Rh->Option (List<|List KA×D)
 | [],_=>some []
 | x::xs,ρ=>(g x ρ).bind λρ1=>(q ρ1).bind λb=>bif b then(pk ρ1).bind λc=>(pv ρ1).bind λd=>bif frz d then(jjE g q pk pv xs ρ1).bind λr=>some ((c,d)::r) else none else jjE g q pk pv xs ρ1
def jd7(ps:List<|List KA×D):List (List KA)×List D:=ps.foldl (λacc kv=>Ke acc.1 acc.2 kv.1 kv.2) ([],[])
@[simp] def pDictP(pi:PAf)(g:D->Rh->Option Rh)(q:PTf)(pk:Rh->Option (List KA))(pv:PF)(ix:List<|Option Nat)(ρ:Rh):Option D:=(pi ρ).bind λxs=>bif lim xs.length then(jjE g q pk pv xs<|jr ix ρ).bind λall=>some (.dT true (jd7 all).1 (jd7 all).2) else none
theorem zO:∀{ps:List (List KA×D)}{ws:List (List Key×Addr×V)}{ks}{l}{us},ws.map (·.1)=ps.map (λy=>y.1.map kaV)->Reps R Z H (ps.map (·.2)) (ws.map (·.2.2)) []->Reps R Z H l us []->ks.length=l.length ->
  ∃ us',An3 (Reps R Z H (ps.foldl (λacc kv=>Ke acc.1 acc.2 kv.1 kv.2) (ks,l)).2 us' []) ((((ps.foldl (λacc kv=>Ke acc.1 acc.2 kv.1 kv.2) (ks,l)).1).map (List.map kaV)).zip us'=(ws.foldl (λa kv=>JM a kv.1 kv.2.2)<|(ks.map<|List.map kaV).zip us))<|(ps.foldl (λacc kv=>Ke acc.1 acc.2 kv.1 kv.2) (ks,l)).1.length=(ps.foldl (λacc kv=>Ke acc.1 acc.2 kv.1 kv.2) (ks,l)).2.length
 | [],[],ks,l,us,_,_,r,b=>⟨us,r,by simp,b⟩
 | [],w::ws,ks,l,us,h,_,_,_=>by simp at h
 | p::ps,[],ks,l,us,h,_,_,_=>by simp at h
 | p::ps,w::ws,ks,l,us,j,c,r,b=>by
  obtain⟨v,k,s,t,m,e,r1,r2⟩:=c;obtain⟨rfl,rfl⟩:=List.append_eq_nil_iff.mp e.symm;obtain⟨rfl,rfl⟩:=List.cons.inj m;rw[L5,L5] at j;obtain⟨d,f⟩:=List.cons.inj j;obtain⟨n,u,r3,e3,sl,g⟩:=Qv r1 p.1 r b;have:=List.sublist_nil.mp sl;subst this;obtain⟨us',o,q,i⟩:=zO f r2 r3 g;refine⟨us',o,?_,i⟩;rw[U9,U9,q,e3,d]
end
section
variable {cl:Nat->Addr}{pm:List Nat}{X:Cx}{tg iter elt:Expr}{ifs:List Expr}{wi:TI}{pi:PAf}{t:TG}{g:D->Rh->Option Rh}{te:TE}{pk:Rh->Option (List KA)}{pv:PF}{pos cpos p:Pos}
structure QKv(cl:Nat->Addr)(X:Cx)(e:Expr)(te:TE)(pk:Rh->Option (List KA))(pv:PF):Prop where
 sem:PE X e te
 den:PK ⟨X.K,cl⟩ te pk pv
end
end QD
namespace L2
open PySem PySem.Spec PyProof.Rows
def jdG(h:Vals ys its):Vals (Kb lt ys .non) (Kb lt its Value.none):=by
 unfold Kb;rw[<- h.length];split
 ·exact h
 ·generalize(kEv lt<|PySem.W.kas_sort ys.length).toList=l;have get:∀ ys its,Vals ys its->∀ i,RelV (ys.getD i .non) (its.getD i Value.none):=by
   intro ys its h
   induction h with
   | nil=>intro i;simp;rfl
   | cons b _ a=>
    intro i;cases i with
    | zero=>exact b
    | succ i=>exact a i
  induction l with
  | nil=>exact .nil
  | cons i l a=>exact .cons (get ys its h i) a
def jdz(K:W5):List V->Hp->VK->Prop:=λxs H Q=>∃(p:Addr) (ys:List V) (rs:List jeh),xs=[.ref p]/\SqL K H p ys/\ys.length=rs.length/\ys.length<64 /\
 (∀(j:Nat) y,ys[j]?=some y->∃ r t,rs[j]?=some r/\y=.ref t/\SqT K H t [.str r.1,.str r.2.1,.int r.2.2])/\∀ D,H D=none->Q (.ref D) (upd H D<|.lst<|Kb (λi j=>Kc (rs.getD i ("","",0))<|rs.getD j ("","",0)) ys .non)
def jew(h:Vals ys its):∀(j:Nat) v,its[j]?=some v->∃ y,ys[j]?=some y/\RelV y v:=by
 induction h with
 | nil=>intro j v e;simp at e
 | @cons y u ys c a _ b=>
  intro j v e;cases j with
  | zero=>cases e;exact⟨y,rfl,a⟩
  | succ j=>exact b j v ⇑e
def YN:kD X (.builtin "sorted") (jdz X.K):=by
 intro w s σ H xs us Q I r h;obtain⟨p,z,a,rfl,A,hl,hz,B,q⟩:=h;obtain⟨u,rfl,C⟩:=r.one;cases C;obtain⟨D,b,⟨o,n,e,d,E,f⟩,_⟩:=I.list A;have F:=b.length.symm;refine YV (rs:=a) ⟨o,e,d,n,f⟩ ∅ ∅ (λj v G=>?_) λh' c J L=>?_
 ·obtain⟨y,M,N⟩:=jew b j v G;obtain⟨r,t,O,rfl,g⟩:=B j y M;cases(N);obtain⟨x,P,⟨R,e2,k,S,l⟩,_⟩:=I.tuple g;cases P with
  | cons T U=>
   cases U with
   | cons V W=>
    cases W with
    | cons Y Z=>
     cases Z;rename_i v1 v2 v3;obtain⟨t1,rfl⟩:=(T);obtain⟨t2,rfl⟩:=(V);obtain⟨t3,rfl⟩:=(Y);exact⟨r,O,t,R,S,t1,t2,t3,rfl,e2,k,l⟩
 ·have m:=I.hok.fresh<|Nat.le_succ ↥s;refine⟨.ref<|↥s+1,_,I.laid (o:=.lst<|Kb (λi j=>Kc (a.getD i ("","",0))<|a.getD j ("","",0)) z .non) J (Nat.le_succ _) ⟨?_,_,c,jdG b,L⟩,rfl,q _ m⟩;rw[jas]
  lia
end L2
namespace QD
open PySem L2 PySem.Spec PyProof.Rows
noncomputable def jjT:D->Option (List Nat)
 | .str s=>some s
 | _=>none
def uO{d}{n}(h:jjT d=some n):d=.str n:=by cases d<;>cases h<;>rfl
noncomputable def jpA:List D->Option (D×D×D)
 | [x,y,z]=>some (x,y,z)
 | _=>none
def jhh{l}{p}(h:jpA l=some p):l=[p.1,p.2.1,p.2.2]:=by
 match l with
 | [_,_,_]=>cases h;rfl
def jp6(d:D):Option jeh:=(jeM d).bind λt=>(jpA t).bind λp=>(jjT p.1).bind λa=>(jjT p.2.1).bind λb=>(vn p.2.2).bind λn=>some (S a,S b,n)
def jeL:List D->Option (List jeh)
 | []=>some []
 | d::l=>(jp6 d).bind λx=>(jeL l).bind λr=>some<|x::r
def je1(rs:List jeh)(l:List D):List D:=Kb (λi j=>Kc (rs.getD i ("","",0))<|rs.getD j ("","",0)) l .non
def qE:List D->Option D
 | [.lst _ l]=>(jeL l).bind λrs=>bif decide (l.length<64) then some (.lst true<|je1 rs l) else none
 | _=>none
@[simp] def zY(o)(l):qE [.lst o l]=(jeL l).bind λrs=>bif decide (l.length<64) then some (.lst true<|je1 rs l) else none:=rfl
def jcn:∀{l}{rs}{ys}{O},jeL l=some rs->Reps R Z H l ys O->O=[]/\ys.length=rs.length/\∀(j:Nat) y,ys[j]?=some y->∃ r t,rs[j]?=some r/\y=.ref t/\SqT R.K H t [.str r.1,.str r.2.1,.int r.2.2]:=by
 intro l
 induction l with
 | nil=>
  intro rs ys O e r;cases e;obtain⟨rfl,rfl⟩:=r;exact⟨rfl,rfl,λj y f=>by simp at f⟩
 | cons d l i=>
  intro rs ys O e r;refine ob e λx c e=>ob e λk e2 e=>ob c λt m c=>ob c λq o c=>ob c λa p c=>ob c λb s c=>ob c λn u c=>?_;cases e;cases c;rw[Reps,jal m,jhh o,uO p,uO s,jM u] at r;obtain⟨G,v,I,J,rfl,rfl,r1,r2⟩:=r;obtain⟨rfl,w,q⟩:=i e2 r2;have z:=r1.nil (by rfl);subst z;obtain⟨t,vs,rfl,A,g⟩:=r1;obtain⟨L,B,M,N,rfl,P,C,h⟩:=g;obtain⟨Q,T,U,V,rfl,D,E,F⟩:=h.two_of;obtain⟨rfl,_⟩:=C.str_of;obtain⟨rfl,_⟩:=E.str_of;obtain⟨rfl,_⟩:=F.int_of;refine⟨rfl,by simp[w],λj y f=>?_⟩;cases j with
  | zero=>cases f;exact⟨(S a,S b,n),t,rfl,rfl,A.sq⟩
  | succ j=>exact q j y ⇑f
def jds(r:Reps R Z H l vs [])(a:List Nat):Reps R Z H (a.map λi=>l.getD i .non) (a.map λi=>vs.getD i .non) []:=by
 have get:∀ l vs,Reps R Z H l vs []->∀ i,Rep R Z H (l.getD i .non) (vs.getD i .non) []:=by
  intro l
  induction l with
  | nil=>
   intro vs r i;obtain⟨rfl,_⟩:=r;simp;exact .non_mk
  | cons d l b=>
   intro vs r i;obtain⟨v,c,f,g,rfl,e,r1,r2⟩:=r;obtain⟨rfl,rfl⟩:=List.append_eq_nil_iff.mp e.symm;cases i with
   | zero=>exact r1
   | succ i=>exact b c r2 i
 induction a with
 | nil=>exact .empty
 | cons i a b=>exact Reps.cons (get l vs r i) b
def xx:BC R (jdz R.K) qE:=by
 intro Z H m d vs O z r e Q k
 match m,e,r with
 | [.lst o l],e,r=>
  refine ob e λc n e=>oc e λs e=>?_;cases e;obtain⟨v,rfl,r1⟩:=r.one_of;obtain⟨p,f,x,rfl,t,b⟩:=r1.lst_of;obtain⟨rfl,u,q⟩:=jcn n b;refine⟨p,f,c,rfl,t.sq,u,by rw[b.length];exact(X2 s),q,λD g=>?_⟩;refine k (Go.newO (wf0 z) g) ?_;have ne:∀ a,H a≠none->a≠D:=λa h e=>h<|e▸g;have w:Reps R Z H (je1 c l) (Kb (λi j=>Kc (c.getD i ("","",0))<|c.getD j ("","",0)) f .non) []:=by
   unfold je1 Kb;rw[b.length];split
   ·exact b
   ·exact jds b _
  exact⟨D,_,[],rfl,w.frame (λa z=>z) (λa h=>je<|ne a<|z a h)<|λa h=>(nomatch h),jk,rfl⟩
def YI:bootBuiltins "sorted" = some (.builtin "sorted"):=by boot_fast
noncomputable def two2:List KA->Option (KA×KA)
 | [a,b]=>some (a,b)
 | _=>none
def two2_of{k}{p}(h:two2 k=some p):k=[p.1,p.2]:=by
 match k with
 | [_,_]=>cases h;rfl
def Qq(q:KA->KA->Int->Option Bool)(el:KA->KA->Int->D):List (List KA)->List D->Option (List D)
 | [],[]=>some []
 | k::ks,d::l=>(two2 k).bind λp=>(vn d).bind λn=>(q p.1 p.2 n).bind λt=>(Qq q el ks l).bind λr=>some<|bif t then el p.1 p.2 n::r else r
 | _,_=>none
theorem KF{q el}:∀{ks}{l}{r},Qq q el ks l=some r->frzs l=true/\ks.length=l.length
 | [],[],_,_=>⟨rfl,rfl⟩
 | [],_::_,_,e=>by cases e
 | _::_,[],_,e=>by cases e
 | k::ks,d::l,r,e=>by
  refine ob e λp c e=>ob e λn e2 e=>ob e λt f e=>ob e λg e3 e=>?_;obtain⟨a,b⟩:=KF e3;cases jM e2;exact⟨by rw[Yc,a];rfl,by simp[b]⟩
def jbq{q el}{ks:List (List KA)}{l:List D}{r}{i}(e:Qq q el (ks.drop i) (l.drop i)=some r)(hi:i<ks.length):Ex5 λa b n t r'=>An5 (ks[i]?=some [a,b]) (l[i]?=some (.int n)) (q a b n=some t) (Qq q el (ks.drop<|i+1) (l.drop<|i+1)=some r') (r=bif t then el a b n::r' else r'):=by
 rw[List.drop_eq_getElem_cons hi] at e;have c:i<l.length:=by
  by_cases h:i<l.length
  ·exact h
  ·rw[List.drop_eq_nil_of_le (as:=l) ∅] at e;cases e
 rw[List.drop_eq_getElem_cons c] at e;rw[X5 hi,X5 c];refine ob e λp d e=>ob e λn e2 e=>ob e λt f e=>ob e λr' e3 e=>?_;cases e;exact⟨p.1,p.2,n,t,r',by rw[two2_of d],by rw[jM e2],f,e3,rfl⟩
section
variable {R:RC}{tc:TT}{te ts:TE}{q:KA->KA->Int->Option Bool}{el:KA->KA->Int->D}
def SpT(R:RC)(tc:TT)(q:KA->KA->Int->Option Bool):Prop:=∀{σ:L2.St}{Z:Zn}{H:Hp}{b a1 a2 n t}{Q:Bool->Hp->Prop},Zd Z H->σ[0]?=some (some<|.ref b)->σ[1]?=some (some<|.int n)->H b=some (.tup [kV<|kaV a1,kV<|kaV a2])->q a1 a2 n=some t->(∀{Z' H'},Go Z H [] Z' H' []->Q t H')->tc σ H Q
def SpE(R:RC)(te:TE)(el:KA->KA->Int->D):Prop:=∀{σ:L2.St}{Z:Zn}{H:Hp}{b a1 a2 n}{Q:VK},Zd Z H->σ[0]?=some (some<|.ref b)->σ[1]?=some (some<|.int n)->H b=some (.tup [kV<|kaV a1,kV<|kaV a2])->(∀{v Z' H'},Go Z H [] Z' H' []->Rep R Z' H' (el a1 a2 n) v []->Q v H')->te σ H Q
inductive CpQ (R:RC) (q:KA->KA->Int->Option Bool) (el:KA->KA->Int->D) (Z0:Zn) (H0:Hp) (a:Addr) (ks:List<|List KA) (l all:List D) (i m:Nat) (σ2:L2.St) (H2:Hp):Prop
 | mk:m=ks.length-i->i<=ks.length->σ2.length=2->∀(Z2:Zn) (ys:List D) (vs:List V) (rest:List D),Go Z0 H0 [] Z2 H2 [a]->H2 a=some (.lst vs)->Reps R Z2 H2 ys vs []->Qq q el (ks.drop i) (l.drop i)=some rest->all=ys++rest->ys.length<=i->CpQ R q el Z0 H0 a ks l all i m σ2 H2
def jcq(ht:SpT R tc q)(he:SpE R te el){H}{o}{g}{d}{ks}{l}{us}{all}(C:Zd g d)(hd:d H=some (.frz o<|.dT<|(ks.map<|List.map kaV).zip us))(ru:Reps R g d l us [])(D:ks.length=l.length)(hl:lim ks.length=true)(e:Qq q el ks l=some all)
  {Q:VK}(k:∀{a}{Z'}{H'}{vs},Go g d [] Z' H' [a]->H' a=some (.lst vs)->Reps R Z' H' all vs []->Q (.ref a) H'):∀ a,d a=none ->
  jaF tc te (jed R.K 2<|qG (vD 0)<|qG (vD 1) jd9) (joQ H o<|(ks.map<|List.map kaV).zip us) a [none,none] (upd d a<|.lst []) λH2=>Q (.ref a) H2:=by
 intro a ha;have M:us.length=ks.length:=by rw[ru.length];exact D.symm
 have j:((ks.map<|List.map kaV).zip us).length=ks.length:=by rw[List.length_zip,L1,M,Nat.min_self]
 have gp:Go g d [] g (upd d a<|.lst []) [a]:=Go.newO (wf0 C) ha;refine⟨CpQ R q el g d a ks l all,
  ⟨ks.length,rfl,U4 _,rfl,g,[],[],all,gp,jk,Reps.empty,e,rfl,M8 _⟩,?_⟩
 rintro i m N H2 ⟨rfl,O,hσ,Z2,ys,vs,rest,g2,E,I,e3,A,r⟩;have hJ:H2 H=some (.frz o<|.dT<|(ks.map<|List.map kaV).zip us):=by rw[g2.same H<|by rw[hd];exact λz=>(nomatch z)];exact hd
 by_cases f:i<ks.length
 ·right
  refine⟨⟨hJ,by rw[j];exact f⟩,?_⟩;rintro u H3 ⟨p,kv,b,F,rfl,hp,P,rfl⟩;obtain⟨J,L,n,t,r',hk,hn,e6,e5,rfl⟩:=jbq e3 f;obtain⟨w,hw,S⟩:=(g2.reps C ru).item hn;obtain⟨rfl,_⟩:=S.int_of;have hz:((ks.map<|List.map kaV).zip us)[i]?=some ([kaV J,kaV L],.int n):=by
   rw[List.getElem?_zip_eq_some];exact⟨by rw[List.getElem?_map,hk];rfl,hw⟩
  rw[hz] at F;cases F;have T:b≠p:=λz=>by rw[z,hp] at P;cases P
  have s:upd H2 p (.tup [.ref b,.int n]) b=some (.tup [kV<|kaV J,kV<|kaV L]):=by rw[je T];exact P
  have g3:Go Z2 H2 [] Z2 (upd H2 p<|.tup [.ref b,.int n]) []:=(Go.newO (wf0 g2.wf.zd) hp).drop (λ_ h=>(nomatch h)) List.nodup_nil;refine⟨p,[.ref b,.int n],rfl,SqT.of jk,rfl,.ref b,[.int n],rfl,.int n,[],rfl,rfl,?_⟩;have s0:((N.set 0<|some<|.ref b).set 1 (some<|.int n))[0]?=some (some<|.ref b):=by
   rw[List.getElem?_set_ne<|by decide,List.getElem?_set_self ∅]
  have s1:((N.set 0<|some<|.ref b).set 1 (some<|.int n))[1]?=some (some<|.int n):=by
   rw[List.getElem?_set_self<|by rw[List.length_set];lia]
  have G:((N.set 0<|some<|V.ref b).set 1 (some<|V.int n)).length=2:=by simp[hσ]
  refine ht g3.wf.zd s0 s1 s e6 λ{Z4 H4} g4=>?_;have c:=g3.trans g4;cases t with
  | true=>
   have U:H4 b=some (.tup [kV<|kaV J,kV<|kaV L]):=by rw[g4.same b<|by rw[s];exact λz=>(nomatch z)];exact s
   refine jgm<|he c.wf.zd s0 s1 U λ{v Z6 W} gq rq=>?_;have y:=c.trans gq;have X:W a=some (.lst vs):=by rw[y.same a<|by rw[E];exact λz=>(nomatch z)];exact E
   have Y:vs.length<sizeLine:=by
    rw[I.length];exact uN<|X0<|N6 r<|N6 O<|X2 hl
   have gA:Go g d [] Z6 W [a]:=g2.trans ⇑(y.frame (B:=[])<|by simpa using g2.wf);have w6:=gA.wf;have rr:=((y.reps g2.wf.zd I).append (.one rq)).frame (H':=upd W a<|.lst<|vs++[v]) (λ_ z=>z) (λx Z=>je λz=>w6.nz a L7<|z▸Z) (λx Z=>(nomatch Z));rw[cond_true] at A;exact⟨vs,X,Y,ks.length-(i+1),by lia,rfl,f,G,_,ys++[el J L n],vs++[v],r',gA.trans<|Go.put (o:=.lst<|vs++[v]) w6 L7,jk,by simpa using rr,e5,by rw[A];simp,by rw[N3];exact Nat.add_le_add_right r 1⟩
  | false=>
   refine jgH ?_;rw[cond_false] at A;exact⟨ks.length-(i+1),by lia,rfl,f,G,Z4,ys,vs,r',g2.trans<|by simpa using(c.frame (B:=[]) ⇑g2.wf),by rw[c.same a<|by rw[E];exact λz=>(nomatch z)];exact E,c.reps g2.wf.zd I,e5,A,Nat.le_succ_of_le r⟩
 ·left
  have hi2:i=ks.length:=by lia
  refine⟨⟨hJ,by rw[j];lia⟩,?_⟩;rw[hi2,List.drop_length,D,List.drop_length] at e3;cases e3;rw[M9] at A;subst A;exact k g2 E I
@[simp] def jmL(fe:FE)(q:KA->KA->Int->Option Bool)(el:KA->KA->Int->D)(ρ:Rh):Option (D×Rh):=(fe ρ).bind λt=>(jgT t.1).bind λp=>bif lim p.1.length then(Qq q el p.1 p.2).bind λr=>some (.lst true r,t.2) else none
def jiK{fe}(h:DE R ts fe)(C:SpT R tc q)(D:SpE R te el):DE R (QA (jnY ts) (jed R.K 2<|qG (vD 0)<|qG (vD 1) jd9) tc te [none,none]) (jmL fe q el):=by
 intro σ ρ M Z H O d w s e Q k;refine ob e λt e5 e=>ob e λp E e=>oc e λi e=>ob e λall e7 e=>?_;cases e;obtain⟨x,N⟩:=t;obtain⟨n,l⟩:=p;cases ui E;refine h w s e5 λ{v j g P m} A r s1=>?_;obtain⟨c,u,S,rfl,B,y,F,rfl⟩:=r;cases B.nil (KF e7).1;refine⟨c,_,rfl,F,λo=>?_⟩;have w1:=A.wf;have G:Go j g ([c]++m) j (upd g c<|.frz o<|.dT<|(n.map<|List.map kaV).zip u) ([c]++m):=Go.put w1 (by simp);have nd:=w1.nd;simp only[List.singleton_append,List.nodup_cons] at nd;have g2:Go j g ([c]++m) j (upd g c<|.frz o<|.dT<|(n.map<|List.map kaV).zip u) m:=G.drop (λa h=>U2 _ h) nd.2;have nz:∀ b,j b->upd g c (.frz o<|.dT<|(n.map<|List.map kaV).zip u) b=g b:=λb f=>je λz=>w1.nz c (by simp)<|z▸f;have I:∀ b∈m,b≠c:=λb f z=>nd.1<|z▸f;exact jcq C D g2.wf.zd jk (B.frame (λ_ z=>z) nz λb f=>(nomatch f)) y i e7 λ{a T U vs} g3 J L=>(k (A.trans<|g2.trans<|g3.widen g2.wf) ⟨a,vs,[],rfl,L,J,rfl⟩<|g3.slots g2.wf.zd<|s1.frame (λ_ z=>z) nz λb f=>je<|I b f)
def jiI:SpT R (ja1<|tOp (rI0 λi j=>.bl<|decide<|j<i) (j7 1)<|tC<|.int 0) (λ_ _ n=>some<|decide<|0<n):=by
 intro σ Z H b a c n t Q z d s1 f e k;cases e;exact⟨.int n,s1,n,0,rfl,rfl,_,rfl,k<|Go.refl<|wf0 z⟩
def jh3:SpE R (uA<|jE (tOp (rIx R.K) (j7 0)<|tC<|.int 0)<|jE (tOp (rIx R.K) (j7 0)<|tC<|.int 1)<|jE (j7 1) Yi) (λa b n=>.tup [kaD a,kaD b,.int n]):=by
 intro σ Z H b f g n Q z c s1 d k;refine⟨.ref b,c,.inr<|.inl ⟨b,_,0,_,rfl,rfl,SqT.of d,rfl,⟨.ref b,c,.inr<|.inl ⟨b,_,1,_,rfl,rfl,SqT.of d,rfl,?_⟩⟩⟩⟩;exact⟨.int n,s1,by show 3<=sizeLine;decide,λq e=>k (Go.newF (wf0 z) e)<|Rep.tupNew (wf0 z) e<|Reps.cons (VG f)<|Reps.cons (VG g)<|Reps.cons .int_mk .empty⟩
abbrev jb4:List (List KA)->List D->Option (List D):=Qq (λ_ _ n=>some<|decide<|0<n) λa b n=>.tup [kaD a,kaD b,.int n]
@[simp] def jpm(i:Nat)(ρ:Rh):Option (D×Rh):=jmL (dMv i) (λ_ _ n=>some<|decide<|0<n) (λa b n=>.tup [kaD a,kaD b,.int n]) ρ
end
noncomputable def jbC:List D->List D->List D->List D
 | a::l,b::m,c::n=>.tup [a,b,c]::jbC l m n
 | _,_,_=>[]
theorem Qx:∀{ns}{l}{vs}{O},Reps R Z H l vs O->ns.length=l.length->JL ns l f=some d->Ex2 λv P=>An3 ((ns.zip vs).lookup f=some v) (Rep R Z H d v P)<|∀ q,P.count q<=O.count q
 | [],l,vs,O,_,_,h=>by cases l<;>cases h
 | n::ns,[],vs,O,_,a,_=>by simp at a
 | n::ns,x::l,vs,O,r,a,h=>by
  obtain⟨v,b,c,i,rfl,rfl,r1,r2⟩:=r;rw[JL] at h;by_cases e:f=n
  ·rw[if_pos e] at h;cases h;exact⟨v,c,by rw[U6,List.lookup_cons,e];simp,r1,λq=>by rw[U7];lia⟩
  ·rw[if_neg e] at h;obtain⟨w,P,g,e2,e3⟩:=Qx r2 ⇑a h;refine⟨w,P,?_,e2,λq=>by have:=e3 q;rw[U7];lia⟩;rw[U6,List.lookup_cons,show(f==n)=false by simp[e]];exact g
theorem jaC(j:f≠g):∀{ns}{l}{vs}{O},Reps R Z H l vs O->ns.length=l.length->JL ns l f=some d->JL ns l g=some c ->
  Ex4 λv P w Q=>An5 ((ns.zip vs).lookup f=some v) ((ns.zip vs).lookup g=some w) (Rep R Z H d v P) (Rep R Z H c w Q)<|∀ q,P.count q+Q.count q<=O.count q
 | [],l,vs,O,_,_,h,_=>by cases l<;>cases h
 | n::ns,[],vs,O,_,m,_,_=>by simp at m
 | n::ns,x::l,vs,O,r,m,h,k=>by
  obtain⟨v,s,p,u,rfl,rfl,r1,r2⟩:=r;rw[JL] at h k;by_cases e:f=n
  ·have i:g≠n:=λz=>j<|e.trans z.symm;rw[if_pos e] at h;rw[if_neg i] at k;cases h;obtain⟨w,Q,o,e2,e3⟩:=Qx r2 ⇑m k;refine⟨v,p,w,Q,by rw[U6,List.lookup_cons,e];simp,?_,r1,e2,λq=>by have:=e3 q;rw[U7];lia⟩;rw[U6,List.lookup_cons,show(g==n)=false by simp[i]];exact o
  ·rw[if_neg e] at h;by_cases i:g=n
   ·rw[if_pos i] at k;cases k;obtain⟨w,Q,o,e2,e3⟩:=Qx r2 ⇑m h;refine⟨w,Q,v,p,?_,by rw[U6,List.lookup_cons,i];simp,e2,r1,λq=>by have:=e3 q;rw[U7];lia⟩;rw[U6,List.lookup_cons,show(f==n)=false by simp[e]];exact o
   ·rw[if_neg i] at k;obtain⟨a,P,b,Q,o,e2,e3,t,e5⟩:=jaC j r2 ⇑m h k;refine⟨a,P,b,Q,?_,?_,e3,t,λq=>by have:=e5 q;rw[U7];lia⟩
    ·rw[U6,List.lookup_cons,show(f==n)=false by simp[e]];exact o
    ·rw[U6,List.lookup_cons,show(g==n)=false by simp[i]];exact e2
@[simp] def jka(i:Nat)(c:Nat)(f:Str)(g:Str)(pe:PF)(ρ:Rh):Option (D×Rh):=(pV i ρ).bind λt=>(zr t).bind λy=>bif y.1==c&&!decide (f=g) then(JL y.2.1 y.2.2 f).bind λa=>(JL y.2.1 y.2.2 g).bind λb=>(pe ρ).bind λr=>some (.tup [a,r,b],ρ.set i none) else none
def jlf(L:Cls R.K<|R.cls c)(Y:NoAttr R.K (R.cls c) f)(hg:NoAttr R.K (R.cls c) g)(he:PP R te pe):DE R (uA<|jE (jee R.K (j7 i) f)<|jE te<|jE (jee R.K (j7 i) g) Yi) (jka i c f g pe):=by
 intro σ ρ ρ' Z H O d w s e Q k;refine ob e λt e1 e=>ob e λ⟨c',ns,l⟩ e2 e=>oc e λE e=>ob e λa e3 e=>ob e λb e4 e=>ob e λr e5 e=>?_;cases e;cases Yd e2;have M:=qo e1;rw[M0] at E;obtain rfl:c'=c:=by simpa using E.1
 have F:f≠g:=by simpa using E.2
 obtain⟨A,P,B,rfl,k1,_,k3⟩:=s.put (L9.mp M).1;obtain⟨v,N,rp⟩:=k1 _ M;obtain⟨x,S,vs,G,rfl,rs,I,T,rfl⟩:=rp;obtain⟨m,Pf,n,Pg,lf,lg,rf,rg,cn⟩:=jaC F rs I e3 e4;refine⟨.ref x,N,x,_,S,_,m,rfl,T,L,Y,lf,(he w.zd s e5 λ{p o j D} u r1=>?_)⟩;refine⟨.ref x,N,x,_,S,_,n,rfl,u.at0 T,L,hg,lg,by show 3<=sizeLine;decide,λq U=>?_⟩;have J:=u.widen w;have gN:Go o j (D++(A++(x::G)++B)) (λy=>o y\/y=q) (upd j q<|.tup [m,p,n]) (D++(A++(x::G)++B)):=Go.newF J.wf U;have ne:∀ y,j y≠none->y≠q:=λy h e=>h<|e▸U;have zn:∀ y,o y->upd j q (.tup [m,p,n]) y=j y:=λy C=>je<|ne y<|J.wf.zd y C;have up:∀{d}{v}{V},Rep R o j d v V->Rep R (λy=>o y\/y=q) (upd j q<|.tup [m,p,n]) d v V:=λW=>W.frame (λ_ z=>.inl z) zn λy C=>je<|ne y<|W.dom y C;have s1:=(u.slots w.zd k3);have s2:Slots R (λy=>o y\/y=q) (upd j q<|.tup [m,p,n]) (ρ.set i none) σ (A++B):=s1.frame (λ_ z=>.inl z) zn λy C=>je<|ne y<|s1.dom y C;have X:∀ y,((Pf++(D++Pg))++(A++B)).count y<=(D++(A++(x::G)++B)).count y:=λy=>by
  have:=cn y;simp only[U7,List.count_cons];lia
 refine k ((J.trans gN).drop (Vt X) (Ja X gN.wf.nd)) ⟨q,[m,p,n],rfl,.inl ⟨.inr rfl,.inl jk⟩,?_⟩ s2;have:=Reps.cons (up<|u.rep w.zd rf)<|Reps.cons (up r1)<|Reps.one<|up<|u.rep w.zd rg;simpa using this
def jnJ{cl}{X}{e}{te}{pe}{pos p}{i k}{x f g}{m}{p2 b a}(n:Cls X.K<|cl k)(o:NoAttr X.K (cl k) f)(q:NoAttr X.K (cl k) g)(r:QB cl X (.Name x p) (j7 i)<|pV i)(l:QP cl X e te pe)(c:QB cl X (.Name x p2) (j7 i)<|pV i)
  (s:attributeBase (.Name x p) f X.env (eval (.Name x p) X.env)=eval (.Name x p) X.env:=by rfl) (d:attributeBase (.Name x p2) g X.env (eval (.Name x p2) X.env)=eval (.Name x p2) X.env:=by rfl)
  (t:starEach [.Attribute (.Name x p) f b,e,.Attribute (.Name x p2) g a] X.env=(false,eval (.Attribute (.Name x p) f b) X.env)::starEach [e,.Attribute (.Name x p2) g a] X.env:=by rfl)
  (h:starEach [e,.Attribute (.Name x p2) g a] X.env=(false,eval e X.env)::starEach [.Attribute (.Name x p2) g a] X.env:=by rfl)
  (j:starEach [.Attribute (.Name x p2) g a] X.env=(false,eval (.Attribute (.Name x p2) g a) X.env)::starEach [] X.env:=by rfl):
  QE cl X (.Tuple [.Attribute (.Name x p) f b,e,.Attribute (.Name x p2) g a] m pos) (uA<|jE (jee X.K (j7 i) f)<|jE te<|jE (jee X.K (j7 i) g) Yi) (jka i k f g pe):=
 ⟨Yb<|jt (jaz r.sem s) (jt l.sem (jt (jaz c.sem d) vA j) h) t,jlf n o q l.den⟩
end QD
namespace QD
open PySem L2
def jk7(B:BlockOk X scope N' [none,none])(e:X.calm=true)(f:QB cl X (.Name x p) (j7 i)<|pV i)
  (h:∀ C s H fp,QG cl [] (j8 X scope N' C s H fp) (.Tuple elts m tpos) (jed X.K 2<|qG (vD 0)<|qG (vD 1) jd9) g)
  (d:∀ C s H fp,QT cl (j8 X scope N' C s H fp) c (ja1<|tOp (rI0 λi j=>.bl<|decide<|j<i) (j7 1)<|tC<|.int 0) q)
  (k:∀ C s H fp,QP cl (j8 X scope N' C s H fp) elt (uA<|jE (tOp (rIx X.K) (j7 0)<|tC<|.int 0)<|jE (tOp (rIx X.K) (j7 0)<|tC<|.int 1)<|jE (j7 1) Yi) pe)
  (a:attributeBase (.Name x p) "items" X.env (eval (.Name x p) X.env)=eval (.Name x p) X.env:=by rfl) (b:(apos.endLine==cpos.line)=true:=by rfl)
  (l:∀ z,foldedSetIterable (.Call (.Attribute (.Name x p) "items" apos) [] [] cpos) X.env z=pure z:=by intro _;rfl):
  QE cl X (.ListComp elt [⟨.Tuple elts m tpos,.Call (.Attribute (.Name x p) "items" apos) [] [] cpos,[c],0⟩] scope pos)
   (QA (jnY<|j7 i) (jed X.K 2<|qG (vD 0)<|qG (vD 1) jd9) (ja1<|tOp (rI0 λi j=>.bl<|decide<|j<i) (j7 1)<|tC<|.int 0) (uA<|jE (tOp (rIx X.K) (j7 0)<|tC<|.int 0)<|jE (tOp (rIx X.K) (j7 0)<|tC<|.int 1)<|jE (j7 1) Yi) [none,none]) (jpm i):=
 ⟨jbL B e (jkn f.sem a b) (λC s H fp=>(h C s H fp).sem) (λC s H fp=>.inr ⟨c,rfl,(d C s H fp).sem⟩) (λC s H fp=>(k C s H fp).sem) l,jiK jnh (@jiI _)<|@jh3 _⟩
end QD
namespace L2
open PySem PySem.Spec PyProof.Rows
def Inv.unfrz(I:Inv X pins σ H s)(e:H a=some (.frz o<|.dK kvs))(j:∀ o u,X.H₀ a≠some (.frz o u)):Inv X pins σ (upd H a<|.dK kvs) s:=by
 have g:∀ b,H b=none->upd H a (.dK kvs) b=none:=λb q=>by rw[je<|λz=>by rw[z,e] at q;cases q];exact q
 refine⟨I.ok,I.os,I.bare,⟨I.base.keep,I.base.slot,λb o q n k=>g b<|I.base.free b o q n k,I.base.there,λb h q=>?_,λb o u q=>?_,λb l q=>?_⟩,I.loc,I.cell,g _ I.free,λx c q=>g c<|I.freeC x c q,λp t=>?_,λb u q=>?_,I.len⟩
 ·have d:=I.base.tups b h q;rw[je<|λz=>by rw[z,e] at d;cases d];exact d
 ·rw[je<|λz=>by subst z;exact j o u q];exact I.base.frzs b o u q
 ·obtain⟨m,d⟩:=I.base.tbls b l q;exact⟨m,by rw[je<|λz=>by rw[z,e] at d;cases d];exact d⟩
 ·obtain⟨d,n,r⟩:=I.pin p t;exact⟨d,g _ n,r⟩
 ·have i:∀{c}{v},ObjOk X.prog X.w H s.heap c v->ObjOk X.prog X.w (upd H a<|.dK kvs) s.heap c v:=λx=>x.stay (λ_ _ _ q=>q) (λc q=>by rw[je<|λz=>by rw[z,e] at q;cases q];exact q) λc h q=>by rw[je<|λz=>by rw[z,e] at q;cases q];exact q
  by_cases f:b=a
  ·subst f;rw[jk] at q;cases q;obtain⟨_,y⟩:=(I.hok b _ e);exact i y
  ·rw[je f] at q;exact i<|I.hok b u q
def jnW(i:Nat)(te:TE):TE:=λσ H Q=>∃ a kvs,σ[i]?=some (some<|.ref a)/\H a=some (.dK kvs)/\te σ H λv H1=>∃ o,H1 a=some (.frz o<|.dK kvs)/\Q v (upd H1 a<|.dK kvs)
end L2
namespace QD
open PySem L2 PySem.Spec PyProof.Rows
mutual
noncomputable def pln:D->Bool
 | .tup l=>jgG l
 | .non=>true | .bl _=>true | .int _=>true | .str _=>true
 | .lst _ _=>false | .dK _ _ _=>false | .dT _ _ _=>false | .ins _ _ _ _=>false | .dead=>false | .tok _=>false | .kt _=>false | .exc _ _=>false
noncomputable def jgG:List D->Bool
 | []=>true
 | d::l=>pln d&&jgG l
end
mutual
theorem Rep.cutA{a:Addr}(ha:∀ vs,¬ Rd H a (.tup vs))(hH:∀ b,b≠a->H' b=H b):∀{d:D}{v:V}{O:W6},pln d=true->Rep R Z H d v O->Rep R (λb=>Z b/\b≠a) H' d v O
 | .non,_,_,_,r=>by rw[Rep] at r ⊢;exact r
 | .bl _,_,_,_,r=>by rw[Rep] at r ⊢;exact r
 | .int _,_,_,_,r=>by rw[Rep] at r ⊢;exact r
 | .str _,_,_,_,r=>by rw[Rep] at r ⊢;exact r
 | .tup l,_,_,h,r=>by
  rw[pln] at h;rw[Rep] at r ⊢;obtain⟨p,vs,e,t,r⟩:=r;refine⟨p,vs,e,?_,Reps.cutA ha hH h r⟩;rcases t with⟨z,t⟩ | t
  ·have ne:p≠a:=λq=>ha vs<|q▸t;exact .inl ⟨⟨z,ne⟩,Rd.agree (hH p ne) t⟩
  ·exact .inr t
 | .lst _ _,_,_,h,_=>by rw[pln] at h;cases h
 | .dK _ _ _,_,_,h,_=>by rw[pln] at h;cases h
 | .dT _ _ _,_,_,h,_=>by rw[pln] at h;cases h
 | .ins _ _ _ _,_,_,h,_=>by rw[pln] at h;cases h
 | .dead,_,_,h,_=>by rw[pln] at h;cases h
 | .tok _,_,_,h,_=>by rw[pln] at h;cases h
 | .kt _,_,_,h,_=>by rw[pln] at h;cases h
 | .exc _ _,_,_,h,_=>by rw[pln] at h;cases h
theorem Reps.cutA{a:Addr}(ha:∀ vs,¬ Rd H a (.tup vs))(hH:∀ b,b≠a->H' b=H b):∀{l:List D}{vs:List V}{O:W6},jgG l=true->Reps R Z H l vs O->Reps R (λb=>Z b/\b≠a) H' l vs O
 | [],_,_,_,r=>by rw[Reps] at r ⊢;exact r
 | d::l,_,_,h,r=>by
  rw[jgG,M0] at h;rw[Reps] at r ⊢;obtain⟨v,vs',O1,O2,e1,e2,r1,r2⟩:=r;exact⟨v,vs',O1,O2,e1,e2,Rep.cutA ha hH h.1 r1,Reps.cutA ha hH h.2 r2⟩
end
def xk(i:Nat)(g:D->Rh->Option Rh)(q:PTf)(p:PF)(ix:List<|Option Nat):FE:=λρ=>(Ks i ρ).bind λr=>bif lim r.1.length then((jS g q p r.1<|jr ix r.2).bind λys=>bif jgG ys then some (.lst true ys,ρ) else none) else none
@[simp] def uB:xk i g q p ix ρ=(Ks i ρ).bind λr=>bif lim r.1.length then((jS g q p r.1<|jr ix r.2).bind λys=>bif jgG ys then some (.lst true ys,ρ) else none) else none:=rfl
def je6(W:PGt R [] tg g)(X:PTt R tc q)(Y:PP R te p):DE R (jnW i<|QA (iDK<|j7 i) tg tc te ix) (xk i g q p ix):=by
 intro σ ρ ρ' Z H O d w s e Q k;refine ob e λr u e=>?_;obtain⟨xs,ρ1⟩:=r;refine oc e λhl e=>ob e λall e2 e=>oc e λhp e=>?_;cases e;unfold Ks at u;split at u
 ·rename_i m l D;refine oc u λhf u=>?_;cases u;obtain⟨A,P0,B,rfl,k1,k2,_⟩:=s.put (L9.mp D).1;obtain⟨v,G,r⟩:=k1 _ D;obtain⟨a,vs,O',rfl,I,E,J,rfl⟩:=r;cases I.nil hf;refine⟨a,_,G,J,.ref a,G,a,_,rfl,J,λo=>?_⟩;have M:Go Z H [a] (λb=>Z b\/b=a) (upd H a<|.frz o<|.dK<|(m.map kaV).zip vs) []:=jkw w.mid;have g2:=M.frame w;have F:∀ b,Z b->upd H a (.frz o<|.dK<|(m.map kaV).zip vs) b=H b:=λb c=>je λz=>w.nz a (by simp)<|z▸c;have N:=Go.keepA w M;have r':Rep R (λb=>Z b\/b=a) (upd H a<|.frz o<|.dK<|(m.map kaV).zip vs) (.dK false m l) (.ref a) []:=by
   exact⟨a,vs,[],rfl,I.frame (λb z=>.inl z) F<|λb c=>(nomatch c),E,.inr ⟨o,jk⟩,.inr rfl,rfl,rfl⟩
  have s2:=k2 r' (λb z=>.inl z) F N.1 N.2;rw[qc G] at s2;refine qL (Q:=λv K=>∃ o,K a=some (.frz o<|.dK<|(m.map kaV).zip vs)/\Q v (upd K a<|.dK<|(m.map kaV).zip vs)) W X Y g2.wf.zd s2 (λ{Z1 K} F hH zd i=>jl5 (by rw[I.length];exact E) (.inr rfl) jk F (λa z=>hH a<|g2.wf.zd a z) zd i) hl e2 λ{v S C P} g3 r3=>?_;have T:upd H a (.frz o<|.dK<|(m.map kaV).zip vs) a≠none:=by rw[jk];exact λz=>nomatch z
  have U:C a=some (.frz o<|.dK<|(m.map kaV).zip vs):=by rw[g3.fr a T (λz=>nomatch z),jk]
  have t:∀ b,b≠a->upd C a (.dK<|(m.map kaV).zip vs) b=C b:=λb c=>je c;have na:∀ vs,¬ Rd C a (.tup vs):=λvs z=>by
   rcases z with z | ⟨_,z⟩<;>rw[U] at z<;>cases z
  have hO:∀ b,H b≠none->b≠a->C b=H b:=λb c f=>by
   rw[g3.fr b (by rw[je f];exact c) (λz=>nomatch z),je f]
  have j:∀ b,H b≠none->upd C a (.dK<|(m.map kaV).zip vs) b=H b:=λb c=>by
   by_cases f:b=a
   ·rw[f,jk,J]
   ·rw[je f,hO b c f]
  have pn:∀ b∈P,H b=none/\b≠a:=λb c=>by
   rcases g3.sub b c with q | q
   ·cases q
   ·have:b≠a:=λz=>T<|z▸q;exact⟨by rw[je this] at q;exact q,this⟩
  have V:=w.nz a (by simp);refine⟨o,U,k (Z':=λb=>S b/\b≠a) (P:=P) (O':=A++[a]++B) ⟨⟨?_,λb c=>?_,λb c=>?_,λb c=>?_⟩,λb z=>⟨g3.zz b<|.inl z,λq=>V<|q▸z⟩,λb h n=>j b h,λb z=>?_,λb h=>?_,λb h=>?_⟩ ?_<|s.frame (λb z=>⟨g3.zz b<|.inl z,λq=>V<|q▸z⟩) (λb z=>j b<|w.zd b z) λb c=>j b<|w.od b c⟩
  ·exact U8.mpr ⟨g3.wf.nd,w.nd,λx hx y hy e=>(w.od y hy<|e▸(pn x hx).1)⟩
  ·rintro⟨z,f⟩;rcases N1.mp c with c | c
   ·exact g3.wf.nz b c z
   ·rcases g3.zn b z with(q | q) | q | q
    ·exact w.nz b c q
    ·exact f q
    ·cases q
    ·rw[je f] at q;exact w.od b c q
  ·rcases N1.mp c with c | c
   ·rw[t b (pn b c).2];exact g3.wf.od b c
   ·rw[j b<|w.od b c];exact w.od b c
  ·rw[t b c.2];exact g3.wf.zd b c.1
  ·rcases g3.zn b z.1 with(q | q) | q | q
   ·exact .inl q
   ·exact absurd q z.2
   ·cases q
   ·rw[je z.2] at q;exact .inr<|.inr q
  ·rcases N1.mp h with h | h
   ·exact .inr (pn b h).1
   ·exact .inl h
  ·rw[j b h];exact h
  ·rw[Rep] at r3 ⊢;obtain⟨L,ws,O2,rfl,r4,e4,rfl⟩:=r3;exact⟨L,ws,O2,rfl,Reps.cutA na t hp r4,by rw[t L<|(pn L L7).2];exact e4,rfl⟩
 ·cases u
def jpk(K:W5)(mg:W7)(x:Str)(st:Stmt)(ps:List Str):Prop:=∃ f fd,FnFact K mg x x st f fd ps
def jpb(K:W5)(C:Addr)(x qual:Str)(st:Stmt)(ps:List Str):Prop:=∃ f fd,MtFact K C x qual st f fd ps
section
variable {K:W5}{mg:W7}{h:Heap}{x qual:Str}{st:Stmt}{ps:List Str}{a C:Addr}{od an:Option Addr}{sl:Array (Option Value)}{oc kV dc pm cd ct:Value}
def hasF(X:K.In h)(G:h.Ns mainGlobals mg)(c:PySem.W.nsIn K mainGlobals x=some (some<|.ref a))(e2:K.lookup a=some ⟨oc,od,.func<|PySem.W.fnOf x x (qC st) (yX st) (jn st) .none kV dc pm an cd ct,sl⟩)(e3:PySem.W.codeIn K cd x=true)(b:PySem.W.keepIn K (.ref a)=true)
  (d:∀ kV doc pm an cdv ct us,us.length=ps.length->bindArgs (PySem.W.fnOf x x (qC st) (yX st) (jn st) .none kV doc pm an cdv ct) ⟨us,[]⟩=pure (ps.zip us)):jpk K mg x st ps:=⟨_,_,uR e2 e3 b,PySem.W.mg_of X G c,(uR e2 e3 b).binds d⟩
def hasM(c:PySem.W.findIn K (.ref C) x=some (some<|.ref a))(e5:PySem.W.isFn K (.ref a)=true)(e2:K.lookup a=some ⟨oc,od,.func<|PySem.W.fnOf x qual (qC st) (yX st) (jn st) .none kV dc pm an cd ct,sl⟩)(e3:PySem.W.codeIn K cd qual=true)(b:PySem.W.keepIn K (.ref a)=true)
  (d:∀ kV doc pm an cdv ct us,us.length=ps.length->bindArgs (PySem.W.fnOf x qual (qC st) (yX st) (jn st) .none kV doc pm an cdv ct) ⟨us,[]⟩=pure (ps.zip us)):jpb K C x qual st ps:=⟨_,_,uR e2 e3 b,⟨c,e5,b⟩,(uR e2 e3 b).binds d⟩
end
def fsc{N ps}{sc}(a:sc.kind=.function:=by rfl)(b:sc.isCoroutine=false:=by rfl)(c:sc.isGenerator=false:=by rfl)(d:N.Nodup:=by decide +kernel)(e:N.take ps.length=ps:=by rfl)
  (f:∀ x∈ps,sc.names.lookup x=some .local\/sc.names.lookup x=some .cell:=by decide +kernel) (g:∀ y∈sc.names,y.2≠.free:=by decide +kernel):FnScope N ps sc:=⟨a,b,c,d,e,f,g⟩
def jf7(K:W5)(mg:W7)(x:Str)(st:Stmt)(N:List Str)(n:Nat):Prop:=FnScope N (N.take n) (jn st)/\jpk K mg x st (N.take n)
def jkq(K:W5)(C:Addr)(x qual:Str)(st:Stmt)(N:List Str)(n:Nat):Prop:=FnScope N (N.take n) (jn st)/\jpb K C x qual st (N.take n)
section
variable (P:Program)(w:World)(cl:Nat->Addr){K:W5}{mg:W7}{C:Addr}{x qual:Str}{st:Stmt}{N:List Str}{n:Nat}
abbrev NP(_:jf7 K mg x st N n)(k:Nat)(m:List D->Option D):Prop:=OkF P w K mg x st k (N.take n)<|spP ⟨K,cl⟩ m n
abbrev NM(_:jf7 K mg x st N n)(k:Nat)(m:List D->Option (D×D)):Prop:=OkF P w K mg x st k (N.take n)<|spM ⟨K,cl⟩ m n 0
abbrev OP(mg:W7)(_:jkq K C x qual st N n)(k:Nat)(m:List D->Option D):Prop:=OkM P w K mg C x qual st k (N.take n)<|spP ⟨K,cl⟩ m n
abbrev OM(mg:W7)(_:jkq K C x qual st N n)(k:Nat)(m:List D->Option (D×D)):Prop:=OkM P w K mg C x qual st k (N.take n)<|spM ⟨K,cl⟩ m n 0
end
section
variable {P:Program}{w:World}{k:Nat}{sp:Sp}{K:W5}{mg:W7}{C:Addr}{x qual:Str}{st:Stmt}{N:List Str}{n:Nat}
def okN(h:jf7 K mg x st N n)(g:∀ f fd,FnScope N (N.take n) (jn st)->FnFact K mg x x st f fd (N.take n)->∀ base,FnOk P w K mg base CX0 k f fd (N.take n) sp):OkF P w K mg x st k (N.take n) sp:=by
 obtain⟨S,f,fd,F⟩:=h;exact⟨f,fd,F,g f fd S F⟩
def okO(h:jkq K C x qual st N n)(g:∀ f fd,FnScope N (N.take n) (jn st)->MtFact K C x qual st f fd (N.take n)->∀ base,FnOk P w K mg base CX0 k f fd (N.take n) sp):OkM P w K mg C x qual st k (N.take n) sp:=by
 obtain⟨S,f,fd,F⟩:=h;exact⟨f,fd,F,g f fd S F⟩
end
def u0{α:Type}{P:List α->Prop}(h:P []):∀ us:List α,us.length=0->P us
 | [],_=>h
def uS{α:Type}{P:List α->Prop}{n}(h:∀ a,∀ us:List α,us.length=n->P (a::us)):∀ us:List α,us.length=n+1->P us
 | a::us,e=>h a us<|Nat.succ.inj e
def jjB{a b}(h:a)(k:a->b):a/\b:=⟨h,k h⟩
section
variable {cl:Nat->Addr}{X:Cx}{pos:Pos}{x:Str}{scope:Scope}{N':List Str}{i:Nat}
def qS{j}{l}(h:x=S l:=by decide +kernel):QP cl X (.Constant (.str x) j pos) (tC<|.str x) (pS l):=joJ l h
def qI{i}{j}:QB cl X (.Constant (.int i) j pos) (tC<|.int i) (pI i):=QP.bb jlI
end
end QD
namespace L2
open PySem PySem.Spec PyProof.Rows
end L2
namespace QD
open PySem L2 PySem.Spec PyProof.Rows
noncomputable def blN(N:List Str):List (Option Nat)->List Str->List Str
 | [],_=>[]
 | none::l,xs=>xs.headD ""::blN N l xs.tail
 | some j::l,xs=>N.getD j ""::blN N l xs
noncomputable def jpe(sc:Scope):List Str:=(sc.names.filter λy=>decide (y.2=.local)||decide (y.2=.cell)).tail.map (·.1)
def bkN(_:FnScope N ps sc)  (h1:X.env.scope=sc:=by rfl) (h2:X.N=N:=by rfl) (h:QC sc N scope (blN N ix<|jpe scope) ix=true:=by decide +kernel):BlockOk X scope (blN N ix<|jpe scope) ix:=jiw sc N h1 h2 h
def joL{p:PAf}{n}(h:∀ ρ ds,p ρ=some ds->ds.length=n):∀ ρ ds,p ρ=some ds->ds.length+1=n+1:=λρ ds e=>by rw[h ρ ds e]
def ndN(h:N'.Nodup):(j8 X scope N' C s H fp).N.Nodup:=h
section
open Classical in
end
end QD
namespace QD
open PySem L2
noncomputable def jnm:D->Option (List KA)
 | .kt k=>some k
 | _=>none
def jjQ(h:jnm d=some k):d=.kt k:=by
 cases d with
 | kt b=>cases h;rfl
 | _=>cases h
@[simp] def ktOf_kt(k):jnm (.kt k)=some k:=rfl
@[simp] def pKt(i:Nat)(ρ:Rh):Option (List KA):=(pV i ρ).bind jnm
@[simp] def dKey(pk:Rh->Option (List KA))(ρ:Rh):Option (D×Rh):=(pk ρ).bind λk=>some (.kt k,ρ)
end QD
namespace QD
open PySem L2 PySem.Spec PyProof.Rows
noncomputable def sqD:D->Option (Bool×List D)
 | .lst _ l=>some (true,l)
 | .tup l=>some (false,l)
 | _=>none
def jic:List D->Option (List<|Bool×List D)
 | []=>some []
 | d::ds=>(sqD d).bind λx=>(jic ds).bind λxs=>some<|x::xs
def FB(R:RC)(Z:Zn)(H:Hp)(a:Addr):Bool->List V->Prop
 | true,w=>FL R Z H a w
 | false,w=>FT R Z H a w
def FB.frame(b:∀ a,Z a->Z' a)(c:∀ a,Z a->H' a=H a)(h:FB R Z H a k w):FB R Z' H' a k w:=by
 cases k with
 | true=>exact FL.frame b c h
 | false=>exact FT.frame b c h
def FB.sq(h:FB R Z H a k w):SqB R.K H a k w:=by
 cases k with
 | true=>exact FL.sq h
 | false=>exact FT.sq h
def jhQ(e:sqD d=some x)(r:Rep R Z H (fz d) v []):Ex2 λa w=>An3 (v=.ref a) (FB R Z H a x.1 w) (Reps R Z H (fzs x.2) w []):=by
 cases d with
 | lst o l=>
  cases e;obtain⟨a,w,g,rfl,b,c,rfl,_⟩:=r;exact⟨a,w,rfl,c,b⟩
 | tup l=>
  cases e;obtain⟨a,w,rfl,f,b⟩:=r;exact⟨a,w,rfl,f,b⟩
 | _=>cases e
structure Zr where
 a:Addr
 k:Bool
 w:List V
 l:List D
theorem jax:∀{ds}{xs}{vs},jic ds=some xs->Reps R Z H (fzs ds) vs []->∃(zs:List Zr),An3 (zs.map (λz=>(z.k,z.l))=xs) (vs=zs.map (λz=>.ref z.a))<|∀ z∈zs,FB R Z H z.a z.k z.w/\Reps R Z H (fzs z.l) z.w []
 | [],xs,vs,e,r=>by
  cases e;exact⟨[],rfl,r.1,by simp⟩
 | d::ds,xs,vs,e,r=>by
  refine ob e λx b e=>ob e λn e2 e=>?_;cases e;obtain⟨v,c,o,p,rfl,f,r1,r2⟩:=r;obtain⟨rfl,rfl⟩:=List.append_eq_nil_iff.mp f.symm;obtain⟨a,w,rfl,g,h⟩:=jhQ b r1;obtain⟨zs,i,rfl,j⟩:=jax e2 r2;exact⟨⟨a,x.1,w,x.2⟩::zs,by rw[L5,i],rfl,λz m=>(M4.mp m).elim (λq=>by rw[q];exact⟨g,h⟩) (j z)⟩
theorem jaa:∀{zs:List Zr}{us},us.length=zs.length->(∀(m:Nat) q,zs[m]?=some q->∃ u,us[m]?=some u/\Rep R Z H (g q) u [])->Reps R Z H (zs.map g) us []
 | [],[],_,_=>Reps.empty
 | [],_::_,h,_=>by simp at h
 | _::_,[],h,_=>by simp at h
 | q::zs,u::us,h,k=>by
  obtain⟨a,e,r⟩:=k 0 q rfl;cases e;exact Reps.cons r (jaa ⇑h λm q e=>by have:=k (m+1) q ⇑e;simpa using this)
noncomputable def jou(ls:List<|List D)(i:Nat):D:=.tup<|ls.map λl=>l.getD i .non
def jjJ(m:Nat)(ds:List D):Option (List D):=(jic ds).bind λxs=>bif decide (xs.length=m)&&(decide (0<m)&&xs.all λx=>decide<|(xs.headD (true,[])).2.length<=x.2.length) then some ((List.range (xs.headD (true,[])).2.length).map (jou<|xs.map λx=>fzs x.2)) else none
@[simp] def pZN(m:Nat)(p:PAf)(ρ:Rh):Option (List D):=(p ρ).bind (jjJ m)
def jgi(h:PPs R ta p):PIt R (iZN R.K m ta) (pZN m p):=by
 intro σ ρ Z H O X z s e Q k;refine ob e λY G e=>ob e λj e2 e=>oc e λn e=>?_;cases e;rw[M0,M0,List.all_eq_true] at n;have h0:=X2 n.2.1;refine h z s G λ{vs I H1 J} L r1=>?_;obtain⟨d,o,rfl,t⟩:=jax e2<|r1.freeze (Z':=λa=>I a\/a∈J) (λa z=>.inl z) λa z=>.inr z;have B:d.length=j.length:=by rw[<- o,L1]
 refine⟨d.map λz=>(z.a,z.k),by rw[L1,B,X2 n.1],by rw[U0];rfl,λa f=>?_,k L.fz ?_⟩
 ·obtain⟨q,b,rfl⟩:=M5.mp f;exact⟨q.w,(t q b).1.sq⟩
 intro C v g D zd i;have fr:∀ q∈d,SqB R.K v q.a q.k q.w/\Reps R C v (fzs q.l) q.w []:=λq b=>⟨((t q b).1.frame g D).sq,(t q b).2.frame g D λa f=>(nomatch f)⟩;refine⟨λhi=>?_,λx r=>?_⟩
 ·cases d with
  | nil=>simp at B;lia
  | cons q d=>
   refine⟨_,_,q.w,rfl,(fr q<|by simp).1,?_⟩;rw[L1,List.length_range] at hi;rw[(fr q<|by simp).2.length,vw];rw[<- o] at hi;exact hi
 ·rw[List.getElem?_map] at r;obtain⟨c,E,rfl⟩:=Option.map_eq_some_iff.mp r;have M:i<(j.headD (true,[])).2.length:=by have:=(L9.mp E).1;simpa using this
  have:c=i:=by have:=(L9.mp E).2;simpa using this.symm
  subst this;have get:∀ q∈d,∃ u,q.w[c]?=some u/\Rep R C v ((fzs q.l).getD c .non) u []:=λq b=>by
   have l1:c<(fzs q.l).length:=by
    rw[vw];have:(j.headD (true,[])).2.length<=q.l.length:=(λx r=>X2<|n.2.2 x r) (q.k,q.l) (by rw[<- o];exact M5.mpr ⟨q,b,rfl⟩)
    lia
   have e3:(fzs q.l)[c]?=some ((fzs q.l).getD c .non):=by rw[List.getD_eq_getElem?_getD,X5 l1];rfl
   exact(fr q b).2.item e3
  refine⟨λa f=>?_,λu H3 N=>?_⟩
  ·obtain⟨q,b,rfl⟩:=M5.mp f;obtain⟨u,y,_⟩:=get q b;exact⟨q.w,u,(fr q b).1,y⟩
  ·obtain⟨pp,us,P,y,rfl,F,rfl⟩:=N;refine⟨_,Go.newF (wf0 zd) F,Rep.tupNew (wf0 zd) F ?_⟩;have S:(j.map λx=>fzs x.2).map (λl=>l.getD c .non)=d.map λq=>(fzs q.l).getD c .non:=by rw[<- o,U0,U0];rfl
   rw[S];refine jaa (by rw[P,L1]) λm q A=>?_;obtain⟨u,T,U⟩:=y m (q.a,q.k) (by rw[List.getElem?_map,A];rfl) q.w (fr q<|List.mem_of_getElem? A).1;obtain⟨u',V,W⟩:=get q<|List.mem_of_getElem? A;cases U.symm.trans V;exact⟨u,T,W⟩
def jlU(d:X.mg "zip" = none)(h:QPs cl X [a,b] tr pr)(e:Gl X "zip":=by rfl)(f:starEach [a,b] X.env=[(false,eval a X.env),(false,eval b X.env)]:=by rfl)(c:starEach [b] X.env=[(false,eval b X.env)]:=by rfl):
  QI cl X (.Tuple elts n tpos) (.Call (.Name "zip" p) [a,b] [] pos) (iZN X.K 2 tr) (pZN 2 pr):=⟨jl0 e d h.sem f c,jgi h.den⟩
def jmo(e:X.mg "zip" = none)(h:QPs cl X [a,b,c] tr pr)(f:Gl X "zip":=by rfl)(g:starEach [a,b,c] X.env=[(false,eval a X.env),(false,eval b X.env),(false,eval c X.env)]:=by rfl)(d:starEach [b,c] X.env=[(false,eval b X.env),(false,eval c X.env)]:=by rfl):
  QI cl X (.Tuple elts n tpos) (.Call (.Name "zip" p) [a,b,c] [] pos) (iZN X.K 3 tr) (pZN 3 pr):=⟨jl1 f e h.sem g d,jgi h.den⟩
end QD
namespace QD
open PySem L2
theorem u8:∀{l m},l.length<=m.length->(List.range l.length).map (jou [l,m])=jgJ l m
 | [],m,_=>by cases m<;>rfl
 | a::l,[],h=>by simp at h
 | a::l,b::m,h=>by
  rw[M1,List.range_succ_eq_map,L5,U0,jgJ,<- u8 ⇑h];rfl
def jpB(h1:sqD d=some (k,l))(h2:sqD e=some (k',m))(h:l.length<=m.length):jjJ 2 [d,e]=some (jgJ (fzs l)<|fzs m):=by
 have a:jic [d,e]=some [(k,l),(k',m)]:=by simp[jic,h1,h2]
 have e2:=u8 (l:=fzs l) (m:=fzs m) (by rw[vw,vw];exact h);rw[vw] at e2;unfold jjJ;rw[a,L4,<- e2];simp[h]
theorem Q4:∀{l m n},l.length<=m.length->l.length<=n.length->(List.range l.length).map (jou [l,m,n])=jbC l m n
 | [],m,n,_,_=>by cases m<;>cases n<;>rfl
 | a::l,[],_,h,_=>by simp at h
 | a::l,b::m,[],_,h=>by simp at h
 | a::l,b::m,c::n,h,d=>by
  rw[M1,List.range_succ_eq_map,L5,U0,jbC,<- Q4 ⇑h ⇑d];rfl
def jpM(h1:sqD d=some (k,l))(h2:sqD e=some (k',m))(a:sqD f=some (k2,n))(h:l.length<=m.length)(h':l.length<=n.length):jjJ 3 [d,e,f]=some (jbC (fzs l) (fzs m)<|fzs n):=by
 have b:jic [d,e,f]=some [(k,l),(k',m),(k2,n)]:=by simp[jic,h1,h2,a]
 have e2:=Q4 (l:=fzs l) (m:=fzs m) (n:=fzs n) (by rw[vw,vw];exact h) (by rw[vw,vw];exact h');rw[vw] at e2;unfold jjJ;rw[b,L4,<- e2];simp[h,h']
end QD
namespace QD
open PySem L2 PySem.Spec PyProof.Rows
section
variable {R:RC}{Z Z':Zn}{H H':Hp}
def jpJ(d:D):Option (List KA×D):=(jeM d).bind λl=>(two1 l).bind λp=>(jnm p.1).bind λk=>bif frz p.2 then some (k,p.2) else none
def xV:List D->Option (List<|List KA×D)
 | []=>some []
 | d::l=>(jpJ d).bind λp=>(xV l).bind λr=>some<|p::r
def jay(ds:List D):Option D:=(jef ds).bind λd=>(jgu d).bind λl=>(xV l).bind λps=>bif lim l.length then some (.dT true (jd7 ps).1 (jd7 ps).2) else none
structure KvA(R:RC)(Z:Zn)(H:Hp)(ys:List<|List KA×D)(vs:List V)(ps:List<|List Key×Addr×V):Prop where
 l:vs.length=ps.length
 i:∀(j:Nat) (v:V),vs[j]?=some v->∃ kv t,ps[j]?=some kv/\v=.ref t/\SqT R.K H t [.ref kv.2.1,kv.2.2]/\H kv.2.1=some (.tup<|kv.1.map kV)
 k:ps.map (·.1)=ys.map λy=>y.1.map kaV
 r:Reps R Z H (ys.map (·.2)) (ps.map (·.2.2)) []
def kva:∀{l:List D}{ys:List (List KA×D)}{vs:List V}{O:W6},xV l=some ys->Reps R Z H l vs O->∃ ps,KvA R Z H ys vs ps:=by
 intro l
 induction l with
 | nil=>
  intro ys vs O e r;cases e;rw[Reps] at r;obtain⟨rfl,_⟩:=r;exact⟨[],rfl,λj v h=>by simp at h,rfl,Reps.empty⟩
 | cons d l o=>
  intro ys vs O e r;rw[xV] at e;refine ob e λp c e=>ob e λs e2 e=>?_;cases e;refine ob c λt e3 c=>ob c λq x c=>ob c λk e5 c=>oc c λy c=>?_;cases c;rw[Reps] at r;obtain⟨v,z,F,G,rfl,_,r1,r2⟩:=r;obtain⟨ps,h⟩:=o e2 r2;rw[jal e3,two1_of x,jjQ e5,Rep] at r1;obtain⟨a,I,rfl,A,f⟩:=r1;rw[Reps] at f;obtain⟨w,B,J,K,rfl,_,g,f⟩:=f;rw[Rep] at g;obtain⟨b,rfl,_,C,_⟩:=g;rw[Reps] at f;obtain⟨u,E,L,M,rfl,_,m,f⟩:=f;rw[Reps] at f;obtain⟨rfl,_⟩:=f;cases m.nil y;refine⟨(k.map kaV,b,u)::ps,by simp[h.l],λj v n=>?_,by simp[h.k],Reps.cons (O:=[]) (P:=[]) m h.r⟩;cases j with
  | zero=>cases n;exact⟨_,a,rfl,rfl,A.sq,C⟩
  | succ j=>exact h.i j v n
def jft:BC R (we R.K) jay:=by
 intro Z H A d vs O z r e Q k;refine ob e λx q e=>ob e λl e2 e=>ob e λs e3 e=>oc e λt e=>?_;cases e;rw[qk q] at r;obtain⟨o,rfl⟩:=VR e2;obtain⟨v,rfl,r1⟩:=r.one_of;obtain⟨p,g,B,rfl,u,j⟩:=r1.lst_of;obtain⟨m,h⟩:=kva e3 j;obtain⟨c,w,y,f⟩:=zO (ps:=s) (ks:=[]) (l:=[]) (us:=[]) h.k h.r .empty rfl;refine⟨p,g,m,rfl,u.sq,h.l,?_,h.i,λD n=>?_⟩
 ·rw[<- h.l,j.length];exact X2 t
 ·refine k (Go.newO (wf0 z) n) ?_;rw[Rep];refine⟨D,c,[],rfl,w.frame (λa z=>z) (λb h=>je<|by rintro rfl;exact z _ h n)<|λa h=>(nomatch h),f,?_,rfl⟩;rw[jk];exact congrArg (λx=>some<|HO.dT x) y.symm
@[simp] def pKy(pa pb:PF)(ρ:Rh):Option D:=(jj7 pa pb ρ).bind λk=>some<|.kt k
def jnR{ta tb:TE}{pa pb:PF}(a:PB R ta pa)(b:PB R tb pb):PP R (jfP ta tb) (pKy pa pb):=by
 intro σ ρ Z H O d z s e Q k;refine ob e λc f e=>?_;cases e;exact YX a b z s f λg h i=>k g (by rw[Rep];exact⟨_,rfl,h,i,rfl⟩)
end
section
variable {cl:Nat->Addr}{X:Cx}{a b e:Expr}{ta tb:TE}{pa pb:PF}{tr:TA}{pr:PAf}{pos:Pos}
def jpQ{e}{tpos:Pos}(c:QB cl X a ta pa)(d:QB cl X b tb pb)(h1:starEach [a,b] X.env=(false,eval a X.env)::starEach [b] X.env:=by rfl)(h2:starEach [b] X.env=(false,eval b X.env)::starEach [] X.env:=by rfl):
  QP cl X (.Tuple [a,b] e tpos) (jfP ta tb) (pKy pa pb):=⟨Yb<|jt c.sem (jt d.sem vA h2) h1,jnR (R:=⟨X.K,cl⟩) c.den d.den⟩
def jiP{k:Nat}{p:Pos}(c:Room k X.A)(d:X.calm=true)(f:X.mg "dict" = none)(g:bootBuiltins "dict" = some (.type "dict"))(b:QBs cl X [e] tr pr)(h:Gl X "dict":=by rfl)
  (i:starEach [e] X.env=(false,eval e X.env)::starEach [] X.env:=by rfl) (a:(backTo pos<|starEach [] X.env).any (·.1)=false:=by rfl):
  QP cl X (.Call (.Name "dict" p) [e] [] pos) (tCB (we X.K) tr) (pCB jay pr):=⟨xB (r:=we X.K) (wQ d<|by have:=c.un;omega) h f g b.sem (by decide) (by decide) i a,jji jft b.den⟩
end
noncomputable def spA(R:RC)(m:List D->Option (D×D×D))(n j:Nat):Sp:=λvs H Q _=>∃ Z ds d c0 c1 O u0 u1,WF Z H O/\ds.length=n/\Reps R Z H ds vs O/\vs[j]?=some u0/\vs[j+1]?=some u1/\m ds=some (d,c0,c1) /\
 ∀{v}{Z'}{H'}{P O0 O1},Go Z H O Z' H' (P++(O0++O1))->Rep R Z' H' d v P->Rep R Z' H' c0 u0 O0->Rep R Z' H' c1 u1 O1->Q v H'
def joF(j:Nat):Out->Option (D×D×D)
 | .rt d ρ=>(pV j ρ).bind λa=>(pV (j+1) ρ).bind λb=>some (d,a,b)
 | .nx ρ=>(pV j ρ).bind λa=>(pV (j+1) ρ).bind λb=>some (.non,a,b)
 | _=>none
def fnA(n j:Nat)(f:FS):List D->Option (D×D×D):=λds=>(f<|ds.map some++List.replicate (n-ds.length) none).bind (joF j)
@[simp] def endA_rt(d j)(ρ):joF j (.rt d ρ)=(pV j ρ).bind λa=>(pV (j+1) ρ).bind λb=>some (d,a,b):=rfl
@[simp] def endA_nx(j ρ):joF j (.nx ρ)=(pV j ρ).bind λa=>(pV (j+1) ρ).bind λb=>some (.non,a,b):=rfl
def jhW(M:DS R [j,j+1] ts f)(h:spA R (fnA N.length j f) n j vs H Q E):ts {nx:=λ_ H'=>Q .non H',rt:=Q} (L2.start N vs) H:=by
 obtain⟨Z,D,d,c0,c1,O,u0,Y,w,hn,r,F,G,e,k⟩:=h;have s:Slots R Z H (D.map some++List.replicate (N.length-D.length) none) (L2.start N vs) O:=by
  have q:=qX r<|kI<|N.length-D.length;unfold L2.start;rw[r.length];rw[M9] at q;exact q
 have m:∀{i}{u},vs[i]?=some u->(L2.start N vs)[i]?=some (some u):=λ{i u} S=>by
  unfold L2.start;rw[List.getElem?_append_left<|by simpa using((L9.mp S).1),List.getElem?_map,S];rfl
 have key:∀{l}{p}{y}{H'}{P I}{v}{z},((pV j l).bind λa=>(pV (j+1) l).bind λb=>some (z,a,b))=some (d,c0,c1)->Go Z H O y H' (P++I)->Rep R y H' z v P->Slots R y H' l p I->Keep [j,j+1] (L2.start N vs) p->Q v H':=by
  intro l p y H' P I v z t g rr J kp;refine ob t λx0 e0 t=>ob t λx1 C t=>?_;cases t;have T:=qo e0;obtain⟨A,U,B,rfl,k1,_,k3⟩:=J.put (L9.mp T).1;obtain⟨v0,K,r0⟩:=k1 _ T;have V:p[j]?=some (some u0):=by rw[kp j<|by simp,m F]
  rw[K] at V;cases V;have x:(l.set j none)[j+1]?=some (some c1):=by rw[List.getElem?_set,if_neg ∅];exact(qo C)
  obtain⟨A2,P1,B2,eO,k4,_,_⟩:=k3.put (L9.mp x).1;obtain⟨v1,L,r1⟩:=k4 _ x;have W:p[j+1]?=some (some Y):=by rw[kp (j+1)<|by simp,m G]
  rw[L] at W;cases W;have X:∀ c,(P++(U++P1)).count c<=(P++(A++U++B)).count c:=λc=>by
   have q:=congrArg (List.count c) eO;simp only[U7] at q ⊢
   lia
  exact k (g.drop (Vt X)<|Ja X g.wf.nd) rr r0 r1
 refine ob e λo C e=>?_;cases o with
 | rt z l=>exact M w s C<|key e
 | nx l=>exact M w s C λg J kp=>key e ⇑g .non_mk J kp
 | bk l=>cases e
 | ct l=>cases e
@[simp] def dCallA(m:List D->Option (D×D×D))(i0 i1:Nat)(j:Nat)(p:PAf)(ρ:Rh):Option (D×Rh):=bif decide (i0=i1) then none else(p ρ).bind λds=>(pV i0 ρ).bind λc0=>(pV i1 ρ).bind λc1=>(m<|ds.take j++c0::c1::ds.drop j).bind λr=>some (r.1,(ρ.set i0<|some r.2.1).set i1 (some r.2.2))
def jkd{cl}{P}{w}{K}{mg}{base}{x qual}{fst}{fa}{fd}{N ps}{k n j}{fs}(F:Fun K x qual fst fa fd)(b:FnScope N ps<|jn fst)(c:ps.length=n)
  (a:∀ cdv A outer s H E,Room k (A.deeper<|envOfC qual (jn fst) ↥s fa cdv) ->
   ∃ ts,QSs cl [j,j+1] (jcX CX0 P w K mg base N qual (jn fst) fa cdv A outer s H E).nox (yX fst) ts fs):FnOk P w K mg base CX0 (k+1) fa fd ps (spA ⟨K,cl⟩ (fnA N.length j fs) n j):=by
 refine F.ok b (λvs H Q E h=>by obtain⟨Z,g,d,c0,c1,O,u0,i,w,e,r,_⟩:=h;rw[r.length,e,c]) λcdv A outer s H vs Q E f h=>?_;obtain⟨ts,q⟩:=a cdv A outer s H E f;exact⟨ts,q.sem,jhW q.den h⟩
def jp2{P}{w}{K}{mg}{cl}{x}{st}{N}{n}{r:Nat->List D->Option D}(h:jf7 K mg x st N n)(a:∀ ds,r 0 ds=none)
  (g:∀ j f fd,FnScope N (N.take n) (jn st)->FnFact K mg x x st f fd (N.take n)->OkF P w K mg x st (j+1) (N.take n) (spP ⟨K,cl⟩ (r j) n)->∀ base,FnOk P w K mg base CX0 (j+1+1) f fd (N.take n)<|spP ⟨K,cl⟩ (r<|j+1) n) (k:Nat):OkF P w K mg x st (k+1) (N.take n) (spP ⟨K,cl⟩ (r k) n):=by
 obtain⟨S,f,fd,F⟩:=h;refine⟨f,fd,F,?_⟩
 induction k with
 | zero=>exact λbase=>by rw[funext a];exact jia
 | succ j b=>exact g j f fd S F ⟨f,fd,F,b⟩
end QD
namespace L2
open PySem PySem.Spec PyProof.Rows
end L2
namespace QD
open PySem L2 PySem.Spec PyProof.Rows
@[simp] def dPosU(i:Nat)(q:KA->KA->Int->Option Bool)(el:KA->KA->Int->D)(ρ:Rh):Option (D×Rh):=(pV i ρ).bind λt=>(jgT t).bind λp=>bif lim p.1.length then(Qq q el p.1 p.2).bind λr=>some (.lst true r,ρ) else none
@[simp] def pLM(g:D->List D->Option D)(pa:PF)(pr:PAf)(ρ:Rh):Option D:=(pa ρ).bind λx=>(jgu x).bind λ_=>(pr ρ).bind λxs=>g x xs
end QD
namespace PySem
open PySem.W PyProof.Rows PySem.Calls
end PySem
namespace QD
open PySem L2 PySem.Spec PyProof.Rows
def kX(i:Nat):FA:=λρ=>match ρ[i]? with
 | some (some (.dT true ks l))=>some (fzs l,ρ.set i none)
 | _=>none
def jlB{ks:List (List KA)}{l}(d:ks.length=l.length)(rs:Reps R Z H l vs [])(za:Z a)(j:H a=some (.frz o<|.dT<|(ks.map<|List.map kaV).zip vs)):jf0 R (jot a o<|(ks.map<|List.map kaV).zip vs) Z H l:=by
 intro k m n f zd i;have g:m a=some (.frz o<|.dT<|(ks.map<|List.map kaV).zip vs):=by rw[f a za];exact j
 have e:vs.length=ks.length:=by rw[rs.length];exact d.symm
 have c:((ks.map<|List.map kaV).zip vs).length=l.length:=by rw[List.length_zip,L1,e,Nat.min_self,d]
 refine⟨λhi=>⟨g,by rw[c];exact hi⟩,λx h=>?_⟩;obtain⟨u,p,q⟩:=(rs.frame n f λb r=>(nomatch r)).item h;refine⟨⟨g,by rw[c];exact(L9.mp h).1⟩,λw t s=>?_⟩;obtain⟨rfl,v,e2,rfl⟩:=s;rw[List.getElem?_zip_eq_some,p] at e2;cases e2.2;exact⟨k,Go.refl<|wf0 zd,q⟩
def ja0:DIt R (jnK<|j7 i) (kX i):=by
 intro σ ρ F Z H O G w s e Q k;unfold kX at e;split at e
 ·rename_i f l n;cases e;obtain⟨A,P,B,rfl,x,I,y⟩:=s.put (L9.mp n).1;obtain⟨v,C,r⟩:=x _ n;obtain⟨a,vs,g,rfl,D,h,E,rfl⟩:=r;refine⟨.ref a,C,a,_,rfl,E,λo=>?_⟩;have wm:=w.mid;have p:Go Z H (a::g) Z (upd H a<|.frz o<|.dT<|(f.map<|List.map kaV).zip vs) (a::g):=Go.put wm L7;have q:=p.trans<|Go.freeze p.wf;have t:∀ b,Z b->upd H a (.frz o<|.dT<|(f.map<|List.map kaV).zip vs) b=H b:=λb c=>je λz=>w.nz a (by simp)<|z▸c;have u:=Go.keepA w q;have j:=D.frame (λb z=>z) t<|λb c=>je λz=>(List.nodup_cons.mp wm.nd).1 (z▸c);have m:Reps R (λb=>Z b\/b∈a::g) (upd H a<|.frz o<|.dT<|(f.map<|List.map kaV).zip vs) (fzs l) vs []:=j.freeze (λb z=>.inl z)<|λb c=>.inr<|L6 _ c;have d:f.length=(fzs l).length:=by rw[vw];exact h
  have s2:=y.frame (Z':=λb=>Z b\/b∈a::g) (λb z=>.inl z) t λb c=>by
   rcases N1.mp c with z | z
   ·exact u.1 b z
   ·exact u.2 b z
  exact k ⇑(q.frame w) s2 (jlB d m (.inr L7) jk)
 ·cases e
def jaU(h:QB cl X (.Name x p) (j7 i)<|pV i)(a:attributeBase (.Name x p) "values" X.env (eval (.Name x p) X.env)=eval (.Name x p) X.env:=by rfl)(b:(apos.endLine==cpos.line)=true:=by rfl):
  QIE cl X tg (.Call (.Attribute (.Name x p) "values" apos) [] [] cpos) (jnK<|j7 i) (kX i):=⟨jmq h.sem a b,ja0⟩
@[simp] def dValuesT_e:kX i ρ=(pV i ρ).bind λx=>(jgT x).bind λk=>some (fzs k.2,ρ.set i none):=by
 unfold kX pV;cases h:ρ[i]? with
 | none=>rfl
 | some x=>
  cases x with
  | none=>rfl
  | some d=>
   cases d with
   | dT o a l=>cases o<;>rfl
   | _=>rfl
def Slots.take(s:Slots R Z H ρ σ O)(a:ρ[i]?=some (some d)):∃ v P O',σ[i]?=some (some v)/\Rep R Z H d v P/\Slots R Z H (ρ.set i none) σ O'/\∀ c,O.count c=P.count c+O'.count c:=by
 obtain⟨A,P,B,rfl,b,_,e⟩:=s.put (L9.mp a).1;obtain⟨v,f,r⟩:=b _ a;exact⟨v,P,A++B,f,r,e,λc=>by simp only[U7];lia⟩
def Slots.give(s:Slots R Z H ρ σ O)(hi:i<ρ.length)(a:σ[i]?=some (some v))(r:Rep R Z H d v P):∃ O',Slots R Z H (ρ.set i<|some d) σ O'/\∀ c,O'.count c<=P.count c+O.count c:=by
 obtain⟨A,e,B,rfl,_,b,_⟩:=s.put hi;have s2:=b r (λ_ z=>z) (λ_ _=>rfl) (λ_ _=>rfl)<|λ_ _=>rfl;rw[qc a] at s2;exact⟨_,s2,λc=>by simp only[U7];lia⟩
noncomputable def rhL(n:Nat)(x0 x1 x2 g e:D):Rh:=none::some e::some x0::some x1::some x2::some g::List.replicate (n-6) none
def joX:Out->Option (D×D×D)
 | .nx ρ=>(pV 2 ρ).bind λa=>(pV 3 ρ).bind λb=>(pV 4 ρ).bind λc=>some (a,b,c)
 | _=>none
def fnL(n:Nat)(f:FS):List D->Option (D×D×D)
 | [x0,x1,x2,g,e]=>(f<|rhL n x0 x1 x2 g e).bind joX
 | _=>none
def jnG:fnL n f [x0,x1,x2,g,e]=(f<|none::some e::some x0::some x1::some x2::some g::List.replicate (n-6) none).bind joX:=rfl
@[simp] def jiC(ρ):joX (.nx ρ)=(pV 2 ρ).bind λa=>(pV 3 ρ).bind λb=>(pV 4 ρ).bind λc=>some (a,b,c):=rfl
noncomputable def spL(R:RC)(m:List D->Option (D×D×D)):Sp:=λvs H Q _=>∃ Z x0 x1 x2 g e c0 c1 c2 O0 O1 O2 a u0 u1 u2 ug ve,WF Z H (a::(O0++(O1++O2)))/\vs=[.ref a,ve]/\H a=some (.lst [u0,u1,u2,ug])/\Rep R Z H x0 u0 O0/\Rep R Z H x1 u1 O1/\Rep R Z H x2 u2 O2/\Rep R Z H g ug []/\Rep R Z H e ve []/\m [x0,x1,x2,g,e]=some (c0,c1,c2) /\
 ∀{Z'}{H'}{P0 P1 P2},Go Z H (a::(O0++(O1++O2))) Z' H' (P0++(P1++P2))->Rep R Z' H' c0 u0 P0->Rep R Z' H' c1 u1 P1->Rep R Z' H' c2 u2 P2->Q .non H'
abbrev gL(K:W5):TG:=jkF K 4<|qG (vD 2)<|qG (vD 3)<|qG (vD 4)<|qG (vD 5) jd9
def jiH(J:DS R [2,3,4] tu f)(hN:6<=N.length)(h:spL R (fnL N.length f) vs H Q E):jnt (jbt (j7 0)<|gL R.K) tu {nx:=λ_ H'=>Q .non H',rt:=Q} (L2.start N vs) H:=by
 obtain⟨Z,L,M,O,g,y,c0,c1,c2,s,t,u,a,u0,v,x,z,d,w,rfl,P,S,r1,r2,T,U,e,k⟩:=h;obtain⟨n,A⟩:∃ n,N.length=n+6:=⟨N.length-6,by lia⟩;have j:L2.start N [.ref a,d]=some (.ref a)::some d::none::none::none::none::List.replicate n none:=by
  unfold L2.start;rw[A];show _::_::List.replicate (n+6-2) none=_;rw[show n+6-2=n+4 by lia];simp only[List.replicate_succ]
 rw[j];refine⟨.ref a,rfl,a,_,rfl,(FL.sq (Z:=λ_=>True)<|.inl ⟨trivial,.inl P⟩),rfl,u0,_,rfl,v,_,rfl,x,_,rfl,z,_,rfl,rfl,?_⟩;have V:Slots R Z H (rhL (n+6) L M O g y) (some (.ref a)::some d::some u0::some v::some x::some z::List.replicate n none) (s++(t++u)):=by
  refine⟨_,_,rfl,_,_,[],_,rfl,rfl,U,_,_,s,_,rfl,rfl,S,_,_,t,_,rfl,rfl,r1,_,_,u,[],rfl,(M9 _).symm,r2,_,_,[],[],rfl,rfl,T,?_⟩;exact kI n
 rw[A] at e;have B:=w.sub (λb l=>L6 _ l) (List.nodup_cons.mp w.nd).2;have W:=(Go.refl w).drop (λb l=>L6 _ l) B.nd;refine ob e λo X e=>?_;cases o with
 | nx m=>
  refine J B V X λ{σ' Z' H' Y} C s1 kp=>?_;refine ob e λy0 f0 e=>ob e λy1 f1 e=>ob e λy2 f2 e=>?_;cases e;obtain⟨v0,P0,Oa,p,q0,s2,n0⟩:=s1.take<|qo f0;obtain⟨v1,P1,Ob,q,q1,s3,n1⟩:=s2.take (i:=3) (by rw[List.getElem?_set,if_neg ∅];exact qo f1);obtain⟨v2,P2,Oc,r,q2,s4,n2⟩:=s3.take (i:=4) (by rw[List.getElem?_set,if_neg ∅,List.getElem?_set,if_neg ∅];exact qo f2);have D:=kp 2 (by simp);have F:=kp 3 (by simp);have G:=kp 4 (by simp);rw[p] at D;rw[q] at F;rw[r] at G;cases D;cases F;cases G;have I:∀ c,(P0++(P1++P2)).count c<=Y.count c:=λc=>by
   have:=n0 c;have:=n1 c;have:=n2 c;simp only[U7]
   lia
  exact k ((W.trans C).drop (Vt I) (Ja I C.wf.nd)) q0 q1 q2
 | rt d' m=>cases e
 | bk m=>cases e
 | ct m=>cases e
def KL(m:List D->Option (D×D×D))(i0 i1 i2:Nat)(pg pe:PF)(ρ:Rh):Option (D×Rh):=bif decide (i0≠i1/\i0≠i2/\i1≠i2) then(pF pg ρ).bind λg=>(pe ρ).bind λy=>bif frz y then(pV i0 ρ).bind λx0=>(pV i1 ρ).bind λx1=>(pV i2 ρ).bind λx2=>(m [x0,x1,x2,g,y]).bind λr=>some (.non,((ρ.set i0<|some r.1).set i1 (some r.2.1)).set i2 (some r.2.2)) else none else none
def jeV(hg:PB R tg pg)(he:PP R te pe):DE R (Qt (spL R m) [] E0<|jE (jm5<|jE (j7 i0)<|jE (j7 i1)<|jE (j7 i2)<|jE tg Yi)<|jE te Yi) (KL m i0 i1 i2 pg pe):=by
 intro σ ρ ρ' Z H O d w s e Q k;refine oc e λU e=>ob e λg f1 e=>ob e λy f2 e=>oc e λfy e=>ob e λx0 f3 e=>ob e λx1 f4 e=>ob e λx2 f5 e=>ob e λ⟨c0,c1,V⟩ f6 e=>?_;cases e;obtain⟨W,X,Y⟩:=X2 U;have C:=qo f3;have D:=qo f4;have E:=qo f5;obtain⟨u0,P0,Oa,F,r0,s1,n0⟩:=s.take C;obtain⟨t,P1,Ob,G,r1,s2,n1⟩:=s1.take (by rw[List.getElem?_set,if_neg W];exact D);obtain⟨u,P2,Oc,I,r2,s3,n2⟩:=s2.take (by rw[List.getElem?_set,if_neg Y,List.getElem?_set,if_neg X];exact E);have cO:∀ c,O.count c=P0.count c+P1.count c+P2.count c+Oc.count c:=λc=>by
  have:=n0 c;have:=n1 c;have:=n2 c
  lia
 refine⟨u0,F,t,G,u,I,hg.f w.zd s f1 λ{J A B P} N rg=>?_⟩;have fg:frz g=true:=by
  refine ob f1 λc e3 e1=>oc e1 λhf e1=>?_;cases e1;exact hf
 cases rg.nil fg;have a:Go Z H O A B O:=by simpa using N.widen w
 refine⟨by show 4<=sizeLine;decide,λp hp=>?_⟩;have g2:Go A B O A (upd B p<|.lst [u0,t,u,J]) (p::O):=Go.newO a.wf hp;have h:Go A B [] A (upd B p<|.lst [u0,t,u,J]) []:=(Go.newO (wf0 a.wf.zd) hp).to0;refine he g2.wf.zd (h.slots a.wf.zd<|N.slots w.zd s) f2 λ{ve Z3 S P3} g3 re=>?_;cases re.nil fy;have l:Go A (upd B p<|.lst [u0,t,u,J]) (p::O) Z3 S (p::O):=by simpa using g3.widen g2.wf
 have K:=(a.trans g2).trans l;have n:=g2.wf.zd;have up:∀{d v P},Rep R Z H d v P->Rep R Z3 S d v P:=λr=>g3.rep n<|h.rep a.wf.zd<|N.rep w.zd r;have ups:∀{ρ O},Slots R Z H ρ σ O->Slots R Z3 S ρ σ O:=λr=>g3.slots n<|h.slots a.wf.zd<|N.slots w.zd r;have o:∀ c,([]++(p::(P0++(P1++P2)))++Oc).count c<=(p::O).count c:=λc=>by
  have:=cO c;simp only[X4,List.cons_append,List.count_cons,U7]
  lia
 have T:=l.wf.sub (Vt o)<|Ja o l.wf.nd;have hp3:S p=some (.lst [u0,t,u,J]):=by rw[g3.same p (by rw[jk];exact λz=>nomatch z),jk]
 refine⟨Z3,x0,x1,x2,g,y,c0,c1,V,P0,P1,P2,p,u0,t,u,J,ve,T.mid,rfl,hp3,up r0,up r1,up r2,g3.rep n<|h.rep a.wf.zd rg,re,f6,λ{Z4 H4 Q0 Q1 Q2} g4 t0 t1 t2=>?_⟩;have L:=g4.frame T;have keep:=Go.keepA T g4;have s4:=(ups s3).frame g4.zz (λb hb=>g4.zH T.mid b hb) λb hb=>keep.2 b hb;have hl:=λ{i x}(q:ρ[i]?=some x)=>(L9.mp q).1;obtain⟨Od,s5,m0⟩:=s4.give (by simp only[List.length_set];exact hl C) F t0;obtain⟨Oe,s6,m1⟩:=s5.give (by simp only[List.length_set];exact hl D) G t1;obtain⟨Og,s7,m2⟩:=s6.give (by simp only[List.length_set];exact hl E) I t2;have eρ:(((((ρ.set i0 none).set i1 none).set i2 none).set i0 (some c0)).set i1 (some c1)).set i2 (some V)=((ρ.set i0<|some c0).set i1 (some c1)).set i2 (some V):=by
  apply List.ext_getElem?
  intro j;simp only[List.getElem?_set,List.length_set]
  grind
 rw[eρ] at s7;have M:∀ c,([]++Og).count c<=([]++(Q0++(Q1++Q2))++Oc).count c:=λc=>by
  have:=m0 c;have:=m1 c;have:=m2 c;simp only[X4,U7]
  lia
 have g34:=(L.drop (Vt M)<|Ja M L.wf.nd).from (Vt o);exact k (K.trans g34) .non_mk s7
def je3{st}{K}(l:X.K=K)(O:OkF X.prog X.w X.K X.mg x st k ps<|spL ⟨X.K,cl⟩ m)(n:Room k X.A)
  (o:QB cl X (.Name y0 q0) (j7 i0)<|pV i0) (h1:QB cl X (.Name y1 q1) (j7 i1)<|pV i1) (h2:QB cl X (.Name y2 q2) (j7 i2)<|pV i2) (h:QB cl X eg tg pg) (i:QP cl X ee te pe)
  (q:Gl X x:=by rfl) (a:Nd x:=by decide)
  (j:starEach [.List [.Name y0 q0,.Name y1 q1,.Name y2 q2,eg] lp,ee] X.env=(false,eval (.List [.Name y0 q0,.Name y1 q1,.Name y2 q2,eg] lp) X.env)::starEach [ee] X.env:=by rfl) (b:starEach [ee] X.env=(false,eval ee X.env)::starEach [] X.env:=by rfl)
  (c:starEach [.Name y0 q0,.Name y1 q1,.Name y2 q2,eg] X.env=(false,eval (.Name y0 q0) X.env)::starEach [.Name y1 q1,.Name y2 q2,eg] X.env:=by rfl) (d:starEach [.Name y1 q1,.Name y2 q2,eg] X.env=(false,eval (.Name y1 q1) X.env)::starEach [.Name y2 q2,eg] X.env:=by rfl)
  (e:starEach [.Name y2 q2,eg] X.env=(false,eval (.Name y2 q2) X.env)::starEach [eg] X.env:=by rfl) (f:starEach [eg] X.env=(false,eval eg X.env)::starEach [] X.env:=by rfl)
  (g:(backTo pos<|starEach [ee] X.env).any (·.1)=false:=by rfl):QE cl X (.Call (.Name x p) [.List [.Name y0 q0,.Name y1 q1,.Name y2 q2,eg] lp,ee] [] pos) (Qt (spL ⟨K,cl⟩ m) [] E0<|jE (jm5<|jE (j7 i0)<|jE (j7 i1)<|jE (j7 i2)<|jE tg Yi)<|jE te Yi) (KL m i0 i1 i2 pg pe):=by
 subst l;obtain⟨_,_,F,G⟩:=O;exact⟨jhx F (G _) n (jt (jgW<|jt o.sem (jt h1.sem (jt h2.sem (jt h.sem vA f) e) d) c) (jt i.sem vA b) j) q a j g,jeV h.den i.den⟩
def jlp{cl}{P}{w}{K}{mg}{base}{x qual}{fst}{fa}{fd}{N ps}{k}{fs}{b rest}(F:Fun K x qual fst fa fd)(c:FnScope N ps<|jn fst)(d:ps.length=2)(e:6<=N.length)(f:yX fst=b::rest)
  (a:∀ cdv A outer s H E,Room k (A.deeper<|envOfC qual (jn fst) ↥s fa cdv) ->
   PS (jcX CX0 P w K mg base N qual (jn fst) fa cdv A outer s H E).nox b (jbt (j7 0)<|gL K)/\∃ ts,QSs cl [2,3,4] (jcX CX0 P w K mg base N qual (jn fst) fa cdv A outer s H E).nox rest ts fs):FnOk P w K mg base CX0 (k+1) fa fd ps (spL ⟨K,cl⟩<|fnL N.length fs):=by
 refine F.ok c (λvs H Q E h=>by obtain⟨_,_,_,_,_,_,_,_,_,_,_,_,_,_,_,_,_,_,_,rfl,_⟩:=h;rw[d];rfl) λcdv A outer s H vs Q E g h=>?_;obtain⟨p,ts,q⟩:=a cdv A outer s H E g;exact⟨_,by rw[f];exact jam p q.sem,jiH q.den e h⟩
abbrev NL(P:Program)(w:World)(cl:Nat->Addr){K}{mg}{x}{st}{N}{n}(_:jf7 K mg x st N n)(k:Nat)(m:List D->Option (D×D×D)):Prop:=OkF P w K mg x st k (N.take n)<|spL ⟨K,cl⟩ m
def jnb{k}(h:PS X k<|jbt te<|vD j):PS X k (jbt (jnW i te)<|vD j):=by
 intro b s σ H D I ⟨a,c,_,l,q⟩;have m:∀ o u,X.H₀ a≠some (.frz o u):=λo u z=>by have:=I.base.frzs a o u z;rw[l] at this;cases this
 refine thn (h b s σ H {D with nx:=λe g=>∃ o,g a=some (.frz o<|.dK c)/\D.nx e (upd g a<|.dK c)} I q) λf s1 d=>?_;cases f with
 | next=>
  obtain⟨e,g,n,o,p,r⟩:=d;exact⟨e,_,n.unfrz p m,r⟩
 | brk=>exact d
 | cont=>exact d
 | ret u=>exact d
def Q9{j}{x y}{pos' a}{scope}{N'}{ix}{d}{h}(B:BlockOk X scope N' ix)(m:X.calm=true)(n:QB cl X (.Name y p) (j7 i)<|pV i)
  (k:∀ C s H fp,QG cl [] (j8 X scope N' C s H fp) tg t g) (e:∀ C s H fp,QIf cl (j8 X scope N' C s H fp) ifs d h) (l:∀ C s H fp,QP cl (j8 X scope N' C s H fp) elt te pe)
  (o:X.N.Nodup) (f:X.N[j]?=some x:=by rfl) (q:Loc X.env.scope x:=by first | exact Or.inl rfl | exact Or.inr rfl)
  (hsw:swapsWith (.ListComp elt [⟨tg,.Call (.Attribute (.Name y p) "keys" apos) [] [] cpos,ifs,0⟩] scope pos) (some<|.Name x pos') a.line X.env=pure true:=by with_unfolding_all rfl)
  (b:attributeBase (.Name y p) "keys" X.env (eval (.Name y p) X.env)=eval (.Name y p) X.env:=by rfl) (c:(apos.endLine==cpos.line)=true:=by rfl)
  (r:∀ x,foldedSetIterable (.Call (.Attribute (.Name y p) "keys" apos) [] [] cpos) X.env x=pure x:=by intro _;rfl)
  (u:X.fn x=true\/X.env.scope.names.lookup x=some .local:=by first | exact .inl rfl | exact .inr rfl):
  QS cl pm X (.Assign [.Name x pos'] (.ListComp elt [⟨tg,.Call (.Attribute (.Name y p) "keys" apos) [] [] cpos,ifs,0⟩] scope pos) a) (jbt (jnW i<|QA (iDK<|j7 i) t d te ix)<|vD j) (ju (xk i g h pe ix)<|jd pm j):=
 ⟨jnb<|Km B m (jmu n.sem b c) (λC s H fp=>(k C s H fp).sem) (λC s H fp=>(e C s H fp).sem) (λC s H fp=>(l C s H fp).sem) o f q hsw r u,
  Q5 (je6 (k 0 X.s₀ X.H₀ []).den (e 0 X.s₀ X.H₀ []).den (l 0 X.s₀ X.H₀ []).den) Vx⟩
def xl(l:List D):Option D:=(jef l).bind λx=>(jeB x).bind λk=>some<|.lst true<|k.1.map kaD
theorem jad:∀ ks:List KA,Reps R Z H (ks.map kaD) (ks.map λa=>kV<|kaV a) []
 | []=>Reps.empty
 | a::ks=>.cons (VG a)<|jad ks
def jeC:BC R (λxs H Q=>∃ p kvs,xs=[.ref p]/\Rd H p (.dK kvs)/\∀ l,H l=none->Q (.ref l) (upd H l<|.lst<|kvs.map λkv=>kV kv.1)) xl:=by
 intro Z H xs d vs O z r e Q k;refine ob e λx j e=>ob e λ⟨c,l⟩ m e=>?_;cases e;rw[qk j] at r;obtain⟨v,rfl,r1⟩:=r.one_of;obtain⟨o,rfl⟩:=uE m;obtain⟨a,f,s,rfl,n,g,i,h⟩:=r1;refine⟨a,_,rfl,(by cases o with | true=>exact .inl i | false=>exact i),λb h=>?_⟩;have q:(((c.map kaV).zip f).map λkv=>kV kv.1)=c.map λa=>kV (kaV a):=by
  have:(((c.map kaV).zip f).map Prod.fst)=c.map kaV:=List.map_fst_zip (by rw[L1,n.length];exact Nat.le_of_eq g)
  calc (((c.map kaV).zip f).map λkv=>kV kv.1)=(((c.map kaV).zip f).map Prod.fst).map kV:=by rw[U0];rfl
   _=_:=by rw[this,U0];rfl
 rw[q];exact k (Go.newO (wf0 z) h)<|Rep.lstNew (wf0 z) h<|jad c
end QD
namespace K32
set_option hygiene false
local macro_rules|`(‹$x›)=>`(some<|.lst false $x)|`(↑$x)=>`(some<|.lst true $x)
local macro_rules|`(#[])=>`(pN)|`(#[$x])=>`(ja $x pN)|`(#[$x,$y,*])=>`(ja $x #[$y,*])
open PySem L2 QD
abbrev gA2(i j:Nat):D->Rh->Option Rh:=gT 2<|gC (jd [] i)<|gC (jd [] j) gN
abbrev gA3(i j k:Nat):D->Rh->Option Rh:=gT 3<|gC (jd [] i)<|gC (jd [] j)<|gC (jd [] k) gN
noncomputable def top(i:Nat):Stmt:=PySem.Challenge.pw_tranchefall_k32_a_pool_alone.main.body.getD i<|.Pass ⟨0,0,0,0⟩
def VT:FS:=(yo<|dP<|pCB jch #[jY (qB<|pV 0) (jd [] 0) qT (pF<|p2 jc (pV 0)<|pI 1) [none]])
def kQ:List D->Option D:=fnP 1 VT
def yh:FS:=(sIf (dPT<|jj<|p2 vm (p2 jc (pV 2)<|pI 0)<|pV 1) (yo<|dP<|pF<|pV 2)
 jK)
def Yg:FS:=(jh (qu (pIt<|pF<|p2 jc (pV 0)<|pI 4) (jd [] 2) yh)<|yo<|dP<|pC .non)
def vE:List D->Option D:=fnP 3 Yg
def ki:FS:=(sIf (dPT<|jj<|p2 jnq (p2 jG (pV 1)<|pV 2)<|pV 3) (yo<|dP<|pF<|pV 4)
 jK)
def qw:FS:=(jh (qu (pIt<|pF<|p2 jc (pV 0)<|pI 5) (gA3 2 3 4) ki)<|yo<|dP<|pF<|p2 jc (p2 jc (p2 jc (pV 0)<|pI 4)<|pI 0)<|pI 0)
def va:List D->Option D:=fnP 5 qw
def qK:FS:=(yo<|dP<|pCB jay #[jY (qB<|pV 0) (gA3 0 1 2) qT (jV #[pKy (pV 0)<|pV 1,pF<|pV 2]) [none,none,none]])
def yi:List D->Option D:=fnP 1 qK
def VL:FS:=(sIf (dPT<|jj<|p2 vm (pV 2)<|pS [108,101,110,100]) (jf1 0 (pV 1) (pV 3)<|p2 jg (jaZ (pV 0) (pV 1) (pV 3)<|pI 0)<|pV 4)<|jjr 0 (pV 3) (pV 1) (λm n=>m-n)<|pV 4)
def yS:List D->Option (D×D):=fnM 5 0 VL
def Ji:FS:=(sIf (dPT<|jba (jj<|p2 Yj (pV 4)<|pI 0)<|jj<|p2 jj8 (p2 jc (pV 3)<|pV 5)<|pV 6) (jh (jcO 3 (pV 5) (λi j=>i+j)<|pI 1)<|jes [] 4 (λi j=>i-j)<|pI 1)
 jK)
def Qa:FS:=(jh (ju (dP<|pCB jch #[pV 0])<|jd [] 2)<|jh (sIf (dPT<|jj<|p2 jnq (pV 1)<|pV 2) (yo<|dP<|pCB xz #[pV 0])
 jK)<|jh (ju (dP<|jY (qB<|pV 0) (jd [] 0) qT (p2 V6 (p2 yk (pV 1)<|pV 0)<|pV 2) [none,some 1,some 2])<|jd [] 3)<|jh (ju (dP<|p2 qp (pV 1)<|pCB jch #[pV 3])<|jd [] 4)<|jh (qu (Yz #[pF<|pV 0]) (gA2 5 6) Ji)<|yo<|dMv 3)
def qZ:List D->Option D:=fnP 7 Qa
def jU:FS:=(jh (ju (dP<|pF<|p2 jc (pV 1)<|pI 0)<|jd [] 2)<|jh (ju (dP<|pF<|p2 jc (pV 1)<|pI 1)<|jd [] 3)<|jh (sIf (dPT<|jj<|p2 vm (pV 2)<|pS [112,97,121]) (yo<|dP<|pF<|p2 jG (JI 0 "owed"<|pV 0)<|pV 3)
 jK)<|jh (sIf (dPT<|jj<|p2 vm (pV 2)<|pS [114,101,112,97,121]) (yo<|dP<|p2 jg (p2 jG (JI 0 "owed"<|pV 0)<|pV 3)<|p2 jG (JI 0 "sizes"<|pV 0)<|pV 3)
 jK)<|jh (sIf (dPT<|jj<|p2 vm (pV 2)<|pS [102,105,108,108]) (yo<|dP<|pCB jip #[p2 qp (p2 jG (JI 0 "marks"<|pV 0)<|pV 3)<|p2 jG (JI 0 "levels"<|pV 0)<|pV 3,pI 0])
 jK)<|jh (sIf (dPT<|jj<|p2 vm (pV 2)<|pS [108,101,110,100]) (yo<|dP<|pCB jip #[p2 qp (p2 jc (pV 1)<|pI 2)<|jaZ (JI 0 "loans"<|pV 0) (JI 0 "pool_name"<|pV 0) (pV 3)<|pI 0,pI 0])
 jK)<|jh (sIf (dPT<|jj<|p2 vm (pV 2)<|pS [98,97,99,107]) (yo<|dP<|pF<|jaZ (JI 0 "loans"<|pV 0) (pV 3) (JI 0 "pool_name"<|pV 0)<|pI 0)
 jK)<|yo<|dP<|pF<|JI 0 "cash"<|pV 0)
def ji:List D->Option D:=fnP 4 jU
def yV:FS:=(jh (ju (dP<|pF<|p2 jG (JI 0 "owed"<|pV 0)<|pV 3)<|jd [0] 4)<|jh (ju (dP<|pCB jaj #[pV 4,p2 jG (JI 0 "levels"<|pV 0)<|pV 2])<|jd [0] 5)<|jh (vz 0 (Jm 0 "levels" km) (pV 2) (λm n=>m-n)<|pV 5)<|jh (vz 0 (Jm 0 "owed" km) (pV 3) (λm n=>m-n)<|pV 5)<|qr 0 (Jm 0 "entries" km)<|jV #[pF<|pV 1,pS [103,117,97,114,100],pF<|pV 3,pF<|pV 4,pF<|pV 5])
def ym:List D->Option (D×D):=fnM 6 0 yV
def jD:FS:=(jh (ju (dP<|jg7 (p2 Yj (p2 jG (pV 2)<|pV 4)<|pI 0)<|p2 (xE true) (pV 4)<|JI 0 "served"<|pV 0)<|jd [] 6)<|xC 3<|jV #[pF<|pV 4,pIf (jj<|pV 6) (p2 jg (pV 5)<|pI 1)<|pI 0])
def vX:FS:=(jh (ju (dP<|pCB vO #[p2 jc (pV 1)<|pI 0])<|jd [] 2)<|jh (ju (dP<|Jp pN)<|jd [] 3)<|jh (qu (pIt<|pF<|p2 jc (pV 1)<|pI 2) (gA2 4 5) jD)<|yo<|jgy<|kB (dP<|yB<|JI 0 "sizes"<|pV 0)<|kB (dP<|yB<|JI 0 "owed"<|pV 0)<|kB (dMv 3)<|kB (dP<|yB<|JI 0 "levels"<|pV 0)<|kB (dP<|pF<|p2 jc (pV 1)<|pI 4) jjk)
def jJ:List D->Option D:=fnP 7 vX
def Vg:FS:=(jh (ju (dP<|pCB jaj #[pV 4,p2 jG (pV 3)<|pV 7])<|jd [] 8)<|jh (xC 5<|jV #[pF<|pV 6,pS [101,97,116],pF<|pV 7,pF<|pV 4,pF<|pV 8])<|jh (jdg 3 (pV 7) (λm n=>m-n)<|pV 8)<|jes [] 4 (λi j=>i-j)<|pV 8)
def jdd:FS:=(jh (ju (dP<|pCB vO #[p2 jc (pV 1)<|pI 0])<|jd [] 3)<|jh (ju (dP<|pF<|pV 2)<|jd [] 4)<|jh (ju (dP<|Jp pN)<|jd [] 5)<|jh (qu (Yz #[pF<|p2 jc (pV 0)<|pI 3]) (gA2 6 7) Vg)<|jh (ju (dP<|jY (qB<|p2 jc (pV 1)<|pI 1) (gA2 0 1) qT (jV #[pF<|pV 0,pIf (jj<|p2 Yj (p2 jG (pV 2)<|pV 0)<|pI 0) (pF<|pV 1)<|pI 0]) [none,none,some 3])<|jd [] 9)<|yo<|jgy<|kB (dMv 5)<|kB (jgy<|kB (dP<|yB<|pV 3)<|kB (dMv 9)<|kB (dP<|pCB xz #[p2 jc (pV 1)<|pI 2])<|kB (dP<|pCB xz #[p2 jc (pV 1)<|pI 3])<|kB (dP<|p2 jg (p2 jc (pV 1)<|pI 4)<|pV 4) jjk) jjk)
def Yp:List D->Option D:=fnP 10 jdd
def YL:FS:=(jh (ju (dP<|jY (qB<|p2 jc (pV 0)<|pI 1) (jd [] 0) qT (jV #[pF<|p2 jc (pV 0)<|pI 0,pF<|p2 jc (pV 0)<|pI 1]) [none])<|jd [] 1)<|jh (ju (dP<|jY (qB<|p2 jc (pV 0)<|pI 1) (jd [] 0) qT (jV #[pF<|p2 jc (pV 0)<|pI 0,pI 0]) [none])<|jd [] 2)<|jh (ju (dP<|jY (qB<|p2 jc (pV 0)<|pI 1) (jd [] 0) qT (jV #[pF<|p2 jc (pV 0)<|pI 0,pI 0]) [none])<|jd [] 3)<|yo<|jgy<|kB (dMv 1)<|kB (dMv 2)<|kB (dMv 3)<|kB (dP<|jY (qB<|p2 jc (pV 0)<|pI 2) (jd [] 0) qT (jV #[pF<|p2 jc (pV 0)<|pI 0,pI 0]) [none])<|kB (dP<|pI 0) jjk)
def vi:List D->Option D:=fnP 4 YL
def VQ:FS:=(jh (ju (dP<|pCB vO #[p2 jc (pV 1)<|pI 0])<|jd [] 2)<|jh (ju (dP<|pCB vO #[jY (qB<|p2 jc (pV 0)<|pI 1) (jd [] 0) qT (jV #[pF<|p2 jc (pV 0)<|pI 0,pF<|p2 jc (pV 0)<|pI 2]) [none]])<|jd [] 3)<|jh (ju (dP<|jY (qB<|p2 jc (pV 1)<|pI 1) (gA2 0 1) qT (jV #[pF<|pV 0,pIf (jj<|p2 Yj (p2 jG (pV 2)<|pV 0)<|pI 0) (p2 jg (pV 1)<|p2 jG (pV 3)<|pV 0)<|pF<|pV 1]) [none,none,some 2,some 3])<|jd [] 4)<|sFz 4<|yo<|dP<|jV #[pF<|p2 jc (pV 1)<|pI 0,pF<|pV 4,pF<|p2 jc (pV 1)<|pI 2,pF<|p2 jc (pV 1)<|pI 3,pF<|p2 jc (pV 1)<|pI 4])
def qe:List D->Option D:=fnP 5 VQ
def YC:FS:=(jh (ju (dP<|pI 0)<|jd [] 3)<|jh (sIf (dPT<|jj<|p2 Yj (pCB JB #[pV 0])<|pI 0) (ju (dP<|pF<|p2 jc (pV 0)<|p2 J8 (pV 1)<|pCB JB #[pV 0])<|jd [] 3)
 jK)<|jh (ju (dP<|p2 J8 (p2 yk (p2 jg (p2 jg (p2 J8 (pV 3)<|pI 2147483647)<|p2 yk (pI 7)<|pV 1)<|pI 3)<|p2 jg (pI 48271)<|p2 yk (p2 yk (pI 1103)<|pV 1)<|pV 1)<|pI 2147483629)<|jd [] 4)<|yo<|dP<|p2 J8 (p2 V6 (pV 4)<|pI 64)<|pV 2)
def jf:List D->Option D:=fnP 5 YC
def yf:FS:=(jh (sIf (dPT<|jj<|p2 vm (p2 jc (pV 6)<|pI 0)<|pS [115,104,97,114,101]) (ju (dP<|p2 jg (pV 2)<|pCB xz #[p2 jc (pV 6)<|pI 1])<|jd [] 2)
 jK)<|sIf (dPT<|jj<|p2 vm (p2 jc (pV 6)<|pI 0)<|pS [114,101,112,97,121]) (xC 2<|pF<|p2 jc (pV 6)<|pI 1)
 jK)
def v8:FS:=(qu (pIt<|pF<|pV 5) (jd [] 6) yf)
def Kz:FS:=(jh (ju (dP<|Jp pN)<|jd [] 2)<|jh (qu (pIt<|pF<|pV 0) (gA3 3 4 5) v8)<|yo<|dP<|jY (qB<|pV 1) (jd [] 0) (jj<|p2 (Y2 true) (pV 0)<|pV 1) (pF<|pV 0) [none,some 2])
def Jl:List D->Option D:=fnP 7 Kz
def wZ:FS:=(yo<|dP<|jg7 (jea "int"<|pV 0)<|jnB<|jea "bool"<|pV 0)
def Vl:List D->Option D:=fnP 1 wZ
def JD:FS:=(jh (jeK (dP<|pF<|pV 1)<|gT 5<|gC (jd [2,3,4] 6)<|gC (jd [2,3,4] 7)<|gC (jd [2,3,4] 8)<|gC (jd [2,3,4] 9)<|gC (jd [2,3,4] 10) gN)<|sIf (dPT<|jj<|p2 vm (pV 7)<|pS [101,97,116]) (jh (Jq 2 (pV 8)<|p2 qp (p2 jG (pV 2)<|pV 8)<|pV 10)<|Jq 3 (pV 8)<|p2 yk (p2 jG (pV 3)<|pV 8)<|pCB jaj #[pI 1,p2 jG (pV 2)<|pV 8])<|sIf (dPT<|jj<|p2 (Y2 false) (pV 7)<|Jp #[pS [112,97,121],pS [115,104,97,114,101]]) (Jq 3 (pV 8)<|p2 qp (p2 jG (pV 3)<|pV 8)<|pV 10)<|sIf (dPT<|jj<|p2 vm (pV 7)<|pS [114,101,112,97,121]) (jh (Jq 2 (pV 8)<|p2 qp (p2 jG (pV 2)<|pV 8)<|pCB jip #[pI 0,p2 qp (pV 10)<|p2 jG (pV 3)<|pV 8])<|Jq 3 (pV 8)<|pCB jip #[pI 0,p2 qp (p2 jG (pV 3)<|pV 8)<|pV 10])<|sIf (dPT<|jj<|p2 vm (pV 7)<|pS [102,105,108,108]) (Jq 4 (pV 8)<|p2 jg (p2 jG (pV 4)<|pV 8)<|pV 10)<|sIf (dPT<|jj<|p2 vm (pV 7)<|pS [103,117,97,114,100]) (jh (Jq 3 (pV 8)<|p2 qp (p2 jG (pV 3)<|pV 8)<|pV 10)<|Jq 4 (p2 jc (p2 jc (pV 5)<|pV 6)<|pI 0)<|p2 qp (p2 jG (pV 4)<|p2 jc (p2 jc (pV 5)<|pV 6)<|pI 0)<|pV 10)
 jK)
def yR:List D->Option (D×D×D):=fnL 11 JD
def yw:FS:=(sIf (dPT<|jj<|p2 (Y2 false) (pV 5)<|Jp #[pS [112,97,121],pS [115,104,97,114,101],pS [114,101,112,97,121]]) (jh (ju (dP<|pF<|jaZ (pV 1) (pV 4) (pV 5)<|pFz<|jV #[pI 0,pI 0,Jp pN])<|jd [] 9)<|jf1 1 (pV 4) (pV 5)<|pFz<|jV #[p2 jg (p2 jc (pV 9)<|pI 0)<|pV 7,p2 jg (p2 jc (pV 9)<|pI 1)<|pV 8,p2 jg (p2 jc (pV 9)<|pI 2)<|Jp #[pF<|pV 6]])
 jK)
def yZ:FS:=(Jq 10 (pV 12)<|pFz<|pC<|.bl true)
def yb:FS:=(sIf (dPT<|jba (jj<|p2 Yj (pV 7)<|pI 0)<|jj<|p2 vm (pV 7)<|pV 8) (qu (pIt<|pF<|pV 11) (jd [] 12) yZ)
 jK)
def YG:FS:=(jh (ju (dP<|pC<|.dT true [] [])<|jd [] 1)<|jh (qu (pIt<|pF<|pV 0) (gT 7<|gC (jd [] 2)<|gC (jd [] 3)<|gC (jd [] 4)<|gC (jd [] 5)<|gC (jd [] 6)<|gC (jd [] 7)<|gC (jd [] 8) gN) yw)<|jh (ju (dP<|pC<|.dK true [] [])<|jd [] 10)<|jh (jfK (kX 1) (gA3 7 8 11) yb)<|yo<|dMv 10)
def v7:List D->Option D:=fnP 13 YG
def yP:FS:=(sIf (dPT<|jj<|p2 jnq (p2 jG (pV 2)<|pV 3)<|pV 4) (yo<|dP<|pF<|pV 5)
 jK)
def vM:FS:=(jh (ju (dP<|pCB vO #[p2 jc (pV 1)<|pI 2])<|jd [] 2)<|jh (qu (pIt<|pF<|p2 jc (pV 0)<|pI 5) (gA3 3 4 5) yP)<|yo<|dP<|pF<|p2 jc (p2 jc (p2 jc (pV 0)<|pI 4)<|pI 0)<|pI 0)
def jX:List D->Option D:=fnP 6 vM
def Vz:FS:=(jh (ju (dP<|jY (qB<|p2 jc (pV 0)<|pI 1) (jd [] 0) qT (jV #[pF<|p2 jc (pV 0)<|pI 0,pF<|p2 jc (pV 0)<|pI 1]) [none])<|jd [] 1)<|jh (ju (dP<|jY (qB<|p2 jc (pV 0)<|pI 1) (jd [] 0) qT (jV #[pF<|p2 jc (pV 0)<|pI 0,pI 0]) [none])<|jd [] 2)<|sFz 1<|sFz 2<|yo<|dP<|jV #[pF<|pV 1,pF<|pV 2,pF<|pV 2,jY (qB<|p2 jc (pV 0)<|pI 2) (jd [] 0) qT (jV #[pF<|p2 jc (pV 0)<|pI 0,pI 0]) [none],pI 0])
def qf:List D->Option D:=fnP 3 Vz
def wJ:FS:=(jh (ju (dP<|jl kQ #[pV 0])<|jd [] 2)<|jh (sIf (dPT<|jj<|p2 Yj (pV 2)<|pI 10) (jh (ju (dP<|jY (qB<|pV 0) (jd [] 0) qT (p2 V6 (p2 jg (p2 yk (pV 1)<|p2 jc (pV 0)<|pI 1)<|pI 9)<|pI 10) [none,some 1])<|jd [] 3)<|yo<|jac 3 #[p2 qp (pCB jch #[pV 3])<|pV 1])
 jK)<|jh (ju (dP<|jY (qB<|pV 0) (jd [] 0) qT (p2 V6 (p2 yk (pV 1)<|p2 jc (pV 0)<|pI 1)<|pI 10) [none,some 1])<|jd [] 3)<|jh (ju (dP<|p2 qp (p2 V6 (p2 yk (pV 1)<|pV 2)<|pI 10)<|pCB jch #[pV 3])<|jd [] 4)<|sFz 3<|yo<|dP<|jV #[jY (Yz #[pF<|pV 3]) (gA2 0 1) qT (pIf (jj<|p2 jj8 (pV 0)<|pV 2) (p2 jg (pV 1)<|pI 1)<|pF<|pV 1) [none,none,some 4],pI 0])
def VW:List D->Option D:=fnP 5 wJ
def vy:FS:=(YU<|JK yS 3 km #[pF<|pV 1,pF<|pV 4,pF<|pV 5,pF<|pV 6])
def Jv:FS:=(jh (ju (dP<|jl yi #[pV 0])<|jd [] 3)<|jh (qu (pIt<|pF<|pV 2) (gA3 4 5 6) vy)<|yo<|dCB qE<|kB (jpm 3) jjk)
def yY:List D->Option D:=fnP 7 Jv
def qH:FS:=(jh (J2 0 0 "pool_name"<|pF<|p2 jc (pV 1)<|pI 0)<|jh (J2 0 0 "marks"<|pCB vO #[p2 jc (pV 1)<|pI 2])<|jh (J2 0 0 "sizes"<|pCB vO #[p2 jc (pV 2)<|pI 0])<|jh (J2 0 0 "owed"<|pCB vO #[p2 jc (pV 2)<|pI 1])<|jh (J2 0 0 "levels"<|pCB vO #[p2 jc (pV 2)<|pI 3])<|jh (J2 0 0 "loans"<|jl yi #[pV 4])<|jh (J2 0 0 "cash"<|pF<|pV 3)<|jh (J2 0 0 "served"<|pC<|.dK true [] [])<|jh (J2 0 0 "entries"<|Jp pN)<|J2 0 0 "moves"<|Jp pN)
def yG:List D->Option (D×D):=fnM 5 0 qH
def yC:FS:=(sIf (dPT<|jj<|p2 vm (pV 1)<|pS [112,97,121]) (vz 0 (Jm 0 "owed" km) (pV 2) (λm n=>m-n)<|pV 3)<|sIf (dPT<|jj<|p2 vm (pV 1)<|pS [114,101,112,97,121]) (jh (ju (dP<|pCB jaj #[pV 3,p2 jG (JI 0 "owed"<|pV 0)<|pV 2])<|jd [0] 4)<|jh (vz 0 (Jm 0 "owed" km) (pV 2) (λm n=>m-n)<|pV 4)<|vz 0 (Jm 0 "sizes" km) (pV 2) (λm n=>m-n)<|p2 qp (pV 3)<|pV 4)<|sIf (dPT<|jj<|p2 vm (pV 1)<|pS [102,105,108,108]) (vz 0 (Jm 0 "levels" km) (pV 2) (λm n=>m+n)<|pV 3)<|sIf (dPT<|jba (jj<|p2 (Y2 false) (pV 1)<|jV #[pS [108,101,110,100],pS [98,97,99,107]])<|jj<|p2 Yj (pV 3)<|pI 0) (jh (YU<|JK yS 0 (Jm 0 "loans" km) #[pF<|JI 0 "pool_name"<|pV 0,pF<|pV 1,pF<|pV 2,pF<|pV 3])<|qr 0 (Jm 0 "moves" km)<|jV #[pF<|pV 1,pF<|pV 2,pF<|pV 3])
 jK)
def jq:List D->Option (D×D):=fnM 5 0 yC
def yz:FS:=(jh (YK 0 km 0 "cash" (λm n=>m-n)<|pV 8)<|jh (vz 0 (Jm 0 "owed" km) (pV 6) (λm n=>m-n)<|pV 8)<|jh (qr 0 (Jm 0 "entries" km)<|jV #[pF<|pV 1,pS [115,104,97,114,101],pF<|pV 6,pF<|pV 7,pF<|pV 8])<|sIf (dPT<|jj<|pV 5) (Vu 0 (Jm 0 "served" km) (pV 6)<|pC<|.bl true)
 jK)
def yU:FS:=(jh (ju (dP<|jY (qB<|pV 2) (jd [] 0) qT (pF<|p2 jG (JI 0 "owed"<|pV 1)<|pV 0) [none,some 0])<|jd [0] 3)<|jh (ju (dP<|jl qZ #[pV 3,JI 0 "cash"<|pV 0])<|jd [0] 4)<|jh (ju (dP<|jg7 (p2 Yj (pCB jch #[pV 3])<|pI 0)<|p2 vm (pV 4)<|pV 3)<|jd [0] 5)<|sFz 3<|sFz 4<|qu (pZN 3 #[pF<|pV 2,pF<|pV 3,pF<|pV 4]) (gT 3<|gC (jd [0] 6)<|gC (jd [0] 7)<|gC (jd [0] 8) gN) yz)
def jQ:List D->Option (D×D):=fnM 9 0 yU
def VI:FS:=(yo<|dP<|jl va #[pV 0,pCB vO #[p2 jc (pV 1)<|pI 2]])
def vJ:List D->Option D:=fnP 2 VI
def vP:FS:=(jh (ju (dP<|pI 0)<|jd [] 2)<|jh (sIf (dPT<|jj<|p2 Yj (pCB JB #[pV 0])<|pI 0) (ju (dP<|pF<|p2 jc (pV 0)<|p2 J8 (pV 1)<|pCB JB #[pV 0])<|jd [] 2)
 jK)<|jh (sIf (dPT<|jj<|p2 Yj (jl jf #[pV 0,pI 900,pI 3])<|pI 0) (yo<|dP<|p2 jg (pI 1)<|jl jf #[pV 0,pV 1,pI 9])
 jK)<|yo<|dP<|p2 jg (pI 1)<|p2 J8 (p2 yk (p2 jg (p2 jg (p2 J8 (pV 2)<|p2 Kh (pI 10)<|pI 40)<|p2 yk (pV 1)<|pV 1)<|pI 1)<|p2 Kh (pI 48271)<|pI 5)<|p2 Kh (pI 10)<|pI 12)
def jA:List D->Option D:=fnP 3 vP
def V2:FS:=(jh (ju (dP<|pS [98,99,100,102,103,106,107,109,110,112,113,118,119,120,121,122])<|jd [] 1)<|jh (ju (dP<|p2 yk (pS [122,113])<|jl jf #[pV 0,pI 901,pI 2])<|jd [] 2)<|jh (ju (dP<|pSl (pS [118,122,98]) oN<|oS<|jl jf #[pV 0,pI 902,pI 4])<|jd [] 3)<|jh (ju (dP<|jl jf #[pV 0,pI 903,pI 16])<|jd [] 4)<|yo<|dP<|jY (zR #[pI 16]) (jd [] 0) qT (p2 jg (p2 jg (pV 1)<|p2 jc (pV 2)<|p2 J8 (p2 jg (pV 3)<|pV 0)<|pI 16)<|pV 4) [none,some 2,some 1,some 4,some 3])
def qd:List D->Option D:=fnP 5 V2
def kf:FS:=(sIf (dPT<|jj<|p2 Yj (jl jf #[pV 0,p2 jg (pV 1)<|pV 4,pI 3])<|pI 0) (xC 3<|pF<|pV 5)
 jK)
def Yo:FS:=(jh (ju (dP<|Jp pN)<|jd [] 3)<|jh (qu (Yz #[pF<|pV 2]) (gA2 4 5) kf)<|jh (sIf (dPT<|jj<|p2 vm (jl jf #[pV 0,p2 jg (pV 1)<|pI 9,pI 2])<|pI 1) (jo1 3)
 jK)<|yo<|dMv 3)
def ku:List D->Option D:=fnP 6 Yo
def jZ:FS:=(sIf (dPT<|jj<|p2 vm (p2 jc (pV 8)<|pI 3)<|pS [101,97,116]) (jh (ju (dP<|p2 qp (pV 7)<|p2 jc (pV 8)<|pI 6)<|jd [] 7)<|YU<|KL yR 4 5 6 (p2 jc (pV 0)<|pI 6)<|pSl (pV 8) (oS<|pI 2) oN)
 jK)
def YJ:FS:=(Jq 5 (pV 10)<|p2 yk (p2 jg (p2 jG (pV 5)<|pV 10)<|pV 12)<|pCB qA #[p2 (Y2 false) (pV 10)<|pV 9])
def ye:FS:=(sIf (dPT<|jj<|p2 Y3 (p2 jc (pV 8)<|pI 3)<|pS [101,97,116]) (YU<|KL yR 4 5 6 (p2 jc (pV 0)<|pI 6)<|pSl (pV 8) (oS<|pI 2) oN)
 jK)
def vk:FS:=(xC 14<|jV #[pF<|pV 10,p2 yk (p2 jg (pV 15)<|pI 1)<|pCB qA #[jg7 (p2 (Y2 false) (pV 10)<|pV 9)<|p2 (xE true) (pV 10)<|pV 13]])
def Kx:FS:=(jh (ju (dP<|pCB vO #[p2 jc (pV 1)<|pI 0])<|jd [] 4)<|jh (ju (dP<|pCB vO #[p2 jc (pV 1)<|pI 1])<|jd [] 5)<|jh (ju (dP<|pCB vO #[p2 jc (pV 1)<|pI 3])<|jd [] 6)<|jh (ju (dP<|p2 jg (p2 jc (pV 1)<|pI 4)<|pV 3)<|jd [] 7)<|jh (qu (pIt<|pF<|pV 2) (jd [] 8) jZ)<|jh (ju (xk 4 (jd [] 0) (jj<|p2 Yj (p2 jG (pV 1)<|pV 0)<|pI 0) (pF<|pV 0) [none,some 4])<|jd [] 9)<|jh (qu (pIt<|pF<|p2 jc (pV 0)<|pI 1) (gA3 10 11 12) YJ)<|jh (qu (pIt<|pF<|pV 2) (jd [] 8) ye)<|jh (ju (dP<|jl v7 #[pV 2])<|jd [] 13)<|jh (ju (dP<|Jp pN)<|jd [] 14)<|jh (qu (pIt<|pF<|p2 jc (pV 1)<|pI 2) (gA2 10 15) vk)<|jh (ju (dP<|jY (qB<|p2 jc (pV 1)<|pI 0) (gA2 0 1) qT (jV #[pF<|pV 0,pF<|p2 jG (pV 2)<|pV 0]) [none,none,some 4])<|jd [] 16)<|jh (ju (dP<|jY (qB<|p2 jc (pV 1)<|pI 0) (gA2 0 1) qT (jV #[pF<|pV 0,pF<|p2 jG (pV 2)<|pV 0]) [none,none,some 5])<|jd [] 17)<|sFz 16<|sFz 17<|sFz 14<|yo<|dP<|jV #[pF<|pV 16,pF<|pV 17,pF<|pV 14,jY (qB<|p2 jc (pV 1)<|pI 3) (gA2 0 1) qT (jV #[pF<|pV 0,pF<|p2 jG (pV 2)<|pV 0]) [none,none,some 6],pF<|pV 7])
def kH:List D->Option D:=fnP 18 Kx
def YO:FS:=(jh (ju (dP<|jl jX #[pV 0,pV 1])<|jd [] 3)<|jh (ju (dP<|jY (qB<|pV 2) (jd [] 0) (jj<|p2 vm (p2 jc (pV 0)<|pI 3)<|pS [101,97,116]) (pF<|pV 0) [none])<|jd [] 4)<|jh (sIf (dPT<|qOr (jj<|p2 Y3 (pSl (pV 2) oN<|oS<|pCB JB #[pV 4])<|pV 4)<|jj<|p2 Y3 (jY (qB<|pV 4) (jd [] 0) qT (pF<|p2 jc (pV 0)<|pI 4) [none])<|p2 jc (pV 0)<|pI 3) (yo<|dP<|pC<|.bl false)
 jK)<|yo<|dP<|pCB jjg #[jY (qB<|pV 2) (jd [] 0) qT (p2 vm (pSl (pV 0) oN<|oS<|pI 2)<|jV #[pF<|p2 jc (pV 1)<|pI 0,pF<|p2 jc (Jp #[pS [],pF<|pV 2])<|pCB qA #[p2 Y3 (p2 jc (pV 0)<|pI 3)<|pS [101,97,116]]]) [none,some 0,some 3]])
def vY:List D->Option D:=fnP 5 YO
def vH:FS:=(jh (ju (dP<|pF<|p2 jc (p2 jc (pV 3)<|pI 0)<|pV 4)<|jd [0] 6)<|jh (ju (dP<|pCB jaj #[pV 6,JI 0 "cash"<|pV 0])<|jd [0] 7)<|jh (YK 0 km 0 "cash" (λm n=>m-n)<|pV 7)<|qr 0 (Jm 0 "entries" km)<|jV #[pF<|pV 4,pS [112,97,114,116],pF<|p2 jc (pV 5)<|pI 0,pF<|pV 6,pF<|pV 7])
def yW:FS:=(jh (ju (dP<|pF<|JI 0 "cash"<|pV 0)<|jd [0] 2)<|jh (ju (dP<|jl VW #[pV 1,pV 2])<|jd [0] 3)<|jh (qu (Yz #[pF<|pV 1]) (gT 2<|gC (jd [0] 4)<|gC (jd [0] 5) gN) vH)<|sIf (dPT<|jj<|p2 Yj (p2 jc (pV 3)<|pI 1)<|pI 0) (qr 0 (Jm 0 "entries" km)<|jV #[p1 wK<|pI 1,pS [116,119,105,99,101],pS [],pCB jch #[p2 jc (pV 3)<|pI 0],pF<|pV 2])
 jK)
def jP:List D->Option (D×D):=fnM 8 0 yW
def j9:FS:=(jh (ju (dP<|pF<|p2 jc (pV 2)<|pI 0)<|jd [0] 3)<|jh (ju (dP<|pF<|p2 jc (pV 2)<|pI 1)<|jd [0] 4)<|jh (ju (dP<|Yn ji 0 "need_of" (pV 0) #[pV 2])<|jd [0] 5)<|jh (ju (dP<|pCB jaj #[pV 5,JI 0 "cash"<|pV 0])<|jd [0] 6)<|jh (YK 0 km 0 "cash" (λm n=>m-n)<|pV 6)<|jh (qr 0 (Jm 0 "entries" km)<|jV #[pF<|pV 1,pF<|pV 3,pF<|pV 4,pF<|pV 5,pF<|pV 6])<|jh (YU<|yL jq 0 0 "give" #[pF<|pV 3,pF<|pV 4,pF<|pV 6])<|sIf (dPT<|jba (jj<|p2 (Y2 false) (pV 3)<|jV #[pS [112,97,121],pS [114,101,112,97,121]])<|jba (jj<|p2 vm (pV 6)<|pV 5)<|jj<|p2 Yj (pV 5)<|pI 0) (Vu 0 (Jm 0 "served" km) (pV 4)<|pC<|.bl true)
 jK)
def jo:List D->Option (D×D):=fnM 7 0 j9
def Yl:FS:=(jh (ju (dP<|jl jf #[pV 0,pV 1,pI 9])<|jd [] 5)<|jh (ju (dP<|pF<|p2 jc (pV 2)<|jl jf #[pV 0,p2 jg (pV 1)<|pI 1,pCB JB #[pV 2]])<|jd [] 6)<|jh (sIf (dPT<|jj<|p2 jj8 (pV 5)<|pI 3) (yo<|dP<|jV #[pS [112,97,121],pF<|pV 6])
 jK)<|jh (sIf (dPT<|jba (jj<|p2 vm (pV 5)<|pI 3)<|jba (jj<|p2 Yj (pCB JB #[pV 2])<|pI 1)<|jj<|p2 vm (jl jf #[pV 0,p2 jg (pV 1)<|pI 2,pI 2])<|pI 0) (yo<|dP<|jV #[pS [115,104,97,114,101],pCB xA #[pSl (pV 2) oN<|oS<|pI 2]])
 jK)<|jh (sIf (dPT<|jba (jj<|p2 vm (pV 5)<|pI 3)<|jj<|p2 Yj (pCB JB #[pV 2])<|pI 1) (yo<|dP<|jV #[pS [115,104,97,114,101],pCB xA #[p2 jg (pSl (pV 2) (oS<|p1 wK<|pI 1) oN)<|pSl (pV 2) oN<|oS<|p1 wK<|pI 1]])
 jK)<|jh (sIf (dPT<|jj<|p2 vm (pV 5)<|pI 4) (yo<|dP<|jV #[pS [114,101,112,97,121],pF<|pV 6])
 jK)<|jh (sIf (dPT<|jba (jj<|p2 vm (pV 5)<|pI 5)<|jj<|p2 Yj (pCB JB #[pV 3])<|pI 0) (yo<|dP<|jV #[pS [102,105,108,108],pF<|p2 jc (pV 3)<|jl jf #[pV 0,p2 jg (pV 1)<|pI 2,pCB JB #[pV 3]]])
 jK)<|jh (sIf (dPT<|jba (jj<|p2 Yj (pV 5)<|pI 5)<|jj<|p2 Yj (pCB JB #[pV 4])<|pI 0) (jh (ju (dP<|pF<|p2 jc (pV 4)<|jl jf #[pV 0,p2 jg (pV 1)<|pI 2,pCB JB #[pV 4]])<|jd [] 7)<|jh (sIf (dPT<|jj<|p2 vm (pV 5)<|pI 8) (yo<|dP<|jV #[pS [98,97,99,107],pF<|pV 7])
 jK)<|yo<|dP<|jV #[pS [108,101,110,100],pF<|pV 7,jl jA #[pV 0,p2 jg (pV 1)<|pI 3]])
 jK)<|yo<|dP<|jV #[pS [112,97,121],pF<|pV 6])
def Yy:List D->Option D:=fnP 8 Yl
def kr:FS:=(jh (ju (dP<|jl jf #[pV 0,pV 1,pI 6])<|jd [] 2)<|jh (sIf (dPT<|jj<|p2 vm (pV 2)<|pI 0) (yo<|dP<|pI 0)
 jK)<|jh (sIf (dPT<|jj<|p2 jj8 (pV 2)<|pI 4) (yo<|dP<|jl jf #[pV 0,p2 jg (pV 1)<|pI 1,pI 45])
 jK)<|jh (sIf (dPT<|jj<|p2 vm (pV 2)<|pI 4) (yo<|dP<|p2 yk (jl jA #[pV 0,p2 jg (pV 1)<|pI 2])<|jl jf #[pV 0,p2 jg (pV 1)<|pI 1,pI 30])
 jK)<|yo<|dP<|p2 J8 (p2 jc (p2 jg (pV 0)<|Jp #[pI 0])<|p2 J8 (pV 1)<|p2 jg (pCB JB #[pV 0])<|pI 1)<|p2 Kh (pI 10)<|pI 30)
def yj:List D->Option D:=fnP 3 kr
def Jk:FS:=(sIf (dPT<|jj<|p2 vm (p2 jc (pV 8)<|pI 0)<|pS [115,104,97,114,101]) (YU<|yL jQ 6 0 "take_share" #[pF<|pV 7,pF<|p2 jc (pV 8)<|pI 1])<|YU<|yL jo 6 0 "take_rule" #[pF<|pV 7,pF<|pV 8])
def QY:FS:=(YU<|yL ym 6 0 "take_guard" #[pF<|pV 7,pF<|p2 jc (pV 9)<|pI 0,pF<|p2 jc (pV 9)<|pI 1])
def jgw:FS:=(jh (ju (dP<|jl vE #[pV 0,pV 1])<|jd [] 5)<|jh (ju (dP<|jbw yG 0 #[pF<|pV 0,pF<|pV 2,pF<|pV 3,pF<|pV 4])<|jd [] 6)<|jh (YU<|yL jP 6 0 "take_parts" #[pF<|p2 jc (pV 5)<|pI 1])<|jh (qu (jmU #[pF<|p2 jc (pV 5)<|pI 2] (pCB JB #[p2 jc (pV 5)<|pI 1])) (gA2 7 8) Jk)<|jh (qu (Yz #[pF<|p2 jc (pV 0)<|pI 6]) (gA2 7 9) QY)<|yo<|jka 6 0 "entries" "moves"<|Yn jJ 0 "book_behind" (pV 6) #[pV 2])
def Ku:List D->Option D:=fnP 10 jgw
def vB:FS:=(sIf (dPT<|jj<|p2 vm (jl jf #[pV 0,p2 jg (pV 1)<|pV 7,pI 4])<|pI 0) (xC 6<|jV #[pF<|pV 8,p2 jg (pI 1)<|jl jf #[pV 0,p2 jg (p2 jg (pV 1)<|pI 5)<|pV 7,pI 10]])
 jK)
def kZ:FS:=(xC 9<|jl Yy #[pV 0,p2 jg (p2 jg (pV 1)<|pI 10)<|p2 yk (pI 5)<|pV 7,pV 3,pV 4,pV 5])
def Vm:FS:=(jh (ju (dP<|Jp pN)<|jd [] 6)<|jh (qu (Yz #[pF<|pV 3]) (gA2 7 8) vB)<|jh (ju (dP<|Jp pN)<|jd [] 9)<|jh (qu (zR #[jl jf #[pV 0,p2 jg (pV 1)<|pI 8,pI 6]]) (jd [] 7) kZ)<|jh (ju (dP<|pF<|p2 jc (pV 3)<|jl jf #[pV 0,p2 jg (pV 1)<|pI 9,pCB JB #[pV 3]])<|jd [] 10)<|sFz 6<|yo<|dP<|jV #[pF<|pV 2,pF<|pV 6,p2 jg (pV 9)<|Jp #[jV #[pS [114,101,115,116],pF<|pV 10]]])
def qh:List D->Option D:=fnP 11 Vm
def vT:FS:=(jh (ju (dP<|jl yj #[pV 0,p2 jg (p2 jg (pI 2000)<|p2 yk (pI 37)<|pV 3)<|p2 yk (pI 7)<|pV 6])<|jd [] 7)<|xC 5<|p2 yk (pV 7)<|pCB qA #[p2 vm (jl jf #[pV 0,p2 jg (p2 jg (pI 3000)<|p2 yk (pI 5)<|pV 3)<|pV 6,pI 4])<|pI 0])
def qM:FS:=(jh (ju (dP<|jY (zR #[pV 1]) (jd [] 0) qT (jl yj #[pV 1,p2 jg (p2 jg (pI 1000)<|p2 yk (pI 37)<|pV 2)<|p2 yk (pI 7)<|pV 0]) [none,some 0,some 3])<|jd [] 4)<|jh (ju (dP<|Jp pN)<|jd [] 5)<|jh (qu (zR #[pV 1]) (jd [] 6) vT)<|sFz 4<|sFz 5<|xC 2<|jV #[pF<|pV 4,pF<|pV 5])
def KM:FS:=(jh (ju (dP<|Jp pN)<|jd [] 2)<|jh (qu (zR #[pCB jaj #[pCB JB #[pV 0],pI 20]]) (jd [] 3) qM)<|yo<|dMv 2)
def Jd:List D->Option D:=fnP 8 KM
def KI:FS:=(jh (ju (dP<|jl Yp #[pV 0,pV 1,pV 4])<|jd [] 5)<|jh (ju (dP<|jl vJ #[pV 0,pV 1])<|jd [] 6)<|jh (sFz 5<|ju (dP<|jl Ku #[pV 0,pV 6,jl qe #[pV 0,p2 jc (pV 5)<|pI 1],pV 3,pV 2])<|jd [] 7)<|jh (ju (dP<|jY (qB<|p2 jc (pV 5)<|pI 0) (jd [] 0) qT (p2 jg (jV #[pF<|p2 jc (pV 1)<|pI 0,pS []])<|pV 0) [none,some 0])<|jd [] 8)<|jh (jmM 8<|jY (qB<|p2 jc (pV 7)<|pI 0) (jd [] 0) qT (p2 jg (jV #[pF<|p2 jc (pV 1)<|pI 0,pF<|pV 2])<|pV 0) [none,some 0,some 6])<|sFz 7<|sFz 8<|yo<|dP<|jV #[pF<|p2 jc (pV 7)<|pI 1,jl yY #[pV 2,p2 jc (pV 0)<|pI 0,p2 jc (pV 7)<|pI 2],pF<|p2 jc (pV 7)<|pI 2,pF<|pV 8])
def kJ:List D->Option D:=fnP 9 KI
def vZ:FS:=(xC 6<|jV #[pF<|pV 8,jl jA #[pV 0,p2 jg (p2 jg (pV 1)<|pI 20)<|pV 7],jl jA #[pV 0,p2 jg (p2 jg (pV 1)<|pI 24)<|pV 7]])
def kg:FS:=(xC 10<|jl qh #[pV 0,p2 jg (p2 jg (pV 1)<|p2 yk (pI 60)<|pV 7)<|pI 30,pV 11,pV 3,pV 4,pV 5])
def v5:FS:=(jh (ju (dP<|pF<|p2 jc (pV 3)<|jl jf #[pV 0,p2 jg (p2 jg (pV 1)<|pI 3)<|pV 7,pCB JB #[pV 3]])<|jd [] 8)<|jh (ju (dP<|pF<|p2 jc (pV 9)<|jl jf #[pV 0,p2 jg (p2 jg (pV 1)<|pI 5)<|pV 7,pCB JB #[pV 9]])<|jd [] 13)<|xC 12<|jV #[pF<|pV 8,p2 jg (pI 1)<|jl jf #[pV 0,p2 jg (p2 jg (pV 1)<|pI 7)<|pV 7,pI 3],pF<|pV 13])
def vj:FS:=(sIf (dPT<|jj<|p2 Yj (pCB JB #[pV 4])<|pI 0) (xC 15<|jV #[pF<|p2 jc (pV 4)<|jl jf #[pV 0,p2 jg (p2 jg (pV 1)<|pI 11)<|pV 7,pCB JB #[pV 4]],pF<|pV 8])
 jK)
def KO:FS:=(jh (ju (dP<|Jp pN)<|jd [] 6)<|jh (qu (Yz #[pF<|pV 3]) (gA2 7 8) vZ)<|jh (ju (dP<|pSl (Jp #[pS [98,98],pS [99,107],pS [100,100]]) oN<|oS<|p2 jg (pI 1)<|jl jf #[pV 0,p2 jg (pV 1)<|pI 1,pI 3])<|jd [] 9)<|jh (ju (dP<|Jp pN)<|jd [] 10)<|jh (sFz 9<|qu (Yz #[pF<|pV 9]) (gA2 7 11) kg)<|jh (ju (dP<|Jp pN)<|jd [] 12)<|jh (qu (zR #[jl jf #[pV 0,p2 jg (pV 1)<|pI 2,pI 3]]) (jd [] 7) v5)<|jh (ju (dP<|jl Jl #[pV 10,pV 3])<|jd [] 14)<|jh (ju (dP<|Jp pN)<|jd [] 15)<|jh (qu (Yz #[pSl (pV 14) oN<|oS<|jl jf #[pV 0,p2 jg (pV 1)<|pI 10,pI 4]]) (gA2 7 8) vj)<|jh (ju (dP<|jY (Yz #[pF<|pV 4]) (gA2 0 1) qT (jV #[pF<|pV 1,jl jA #[pV 2,p2 jg (p2 jg (pV 3)<|pI 16)<|pV 0]]) [none,none,some 0,some 1])<|jd [] 16)<|sFz 6<|sFz 16<|sFz 10<|sFz 12<|sFz 15<|yo<|dP<|jV #[pF<|pV 2,pF<|pV 6,pF<|pV 16,jl ku #[pV 0,p2 jg (pV 1)<|pI 13,pV 3],pF<|pV 10,pF<|pV 12,pF<|pV 15])
def Jn:List D->Option D:=fnP 17 KO
def Js:FS:=(yo<|dP<|jY (qB<|jl Jd #[pV 0,pI 1]) (gA2 0 1) qT (jV #[pF<|p2 jc (pV 0)<|pI 0,pF<|p2 jc (pV 1)<|pI 0]) [none,none])
def yr:List D->Option D:=fnP 1 Js
def Jx:FS:=(Jq 8 (pV 9)<|p2 jg (p2 jG (pV 8)<|pV 9)<|p2 yk (pV 11)<|pCB qA #[p2 Yj (p2 jG (pV 7)<|pV 9)<|pI 0])
def YE:FS:=(jh (ju (dP<|jl jX #[pV 0,pV 1])<|jd [] 4)<|jh (ju (dP<|jl Yp #[pV 0,pV 1,p2 jc (pV 2)<|pI 1])<|gA2 5 6)<|jh (sFz 6<|ju (dP<|pCB vO #[p2 jc (pV 6)<|pI 0])<|jd [] 7)<|jh (ju (dP<|pCB vO #[p2 jc (pV 6)<|pI 1])<|jd [] 8)<|jh (qu (pIt<|pF<|p2 jc (pV 0)<|pI 1) (gA3 9 10 11) Jx)<|jh (ju (dP<|jY (qB<|p2 jc (pV 6)<|pI 1) (gA2 0 1) qT (jV #[pF<|pV 0,pF<|p2 jG (pV 2)<|pV 0]) [none,none,some 8])<|jd [] 12)<|jh (sFz 12<|ju (dP<|jV #[pF<|p2 jc (pV 6)<|pI 0,pF<|pV 12,pF<|p2 jc (pV 6)<|pI 2,pF<|p2 jc (pV 6)<|pI 3,pF<|p2 jc (pV 6)<|pI 4])<|jd [] 13)<|jh (jeK (dP<|pF<|pFz<|jl Ku #[pV 0,pV 4,pV 13,p2 jc (pV 2)<|pI 0,pV 3])<|gA3 14 15 16)<|jh (ju (dP<|jY (qB<|pV 5) (jd [] 0) qT (p2 jg (jV #[pF<|p2 jc (pV 1)<|pI 0,pS []])<|pV 0) [none,some 0])<|jd [] 17)<|yo<|jac 15 #[p2 jg (pV 17)<|jY (qB<|pV 14) (jd [] 0) qT (p2 jg (jV #[pF<|p2 jc (pV 1)<|pI 0,pF<|pV 2])<|pV 0) [none,some 0,some 4]])
def vW:List D->Option D:=fnP 18 YE
def kR:FS:=(jh (sFz 2<|sFz 3<|ju (dP<|jl kJ #[pV 0,pV 2,pV 3,pV 5,pV 6])<|jd [] 7)<|jh (sFz 7<|ju (dP<|pF<|p2 jc (pV 7)<|pI 0)<|jd [] 2)<|jh (ju (dP<|pF<|p2 jc (pV 7)<|pI 1)<|jd [] 3)<|sFz 2<|sFz 3<|xC 4<|jV #[pF<|pV 2,pF<|pV 3,pF<|p2 jc (pV 7)<|pI 3])
def V1:FS:=(jh (ju (dP<|jl vi #[pV 0])<|jd [] 2)<|jh (ju (dP<|Jp pN)<|jd [] 3)<|jh (ju (dP<|Jp pN)<|jd [] 4)<|jh (qu (pIt<|pF<|pV 1) (gA2 5 6) kR)<|yo<|dMv 4)
def k8:List D->Option D:=fnP 8 V1
def VB:FS:=(jh (ju (dP<|jl qd #[pV 0])<|jd [] 1)<|jh (ju (dP<|pSl (pV 1) (oS<|pI 3)<|oS<|p2 jg (pI 4)<|jl jf #[pV 0,pI 905,pI 3])<|jd [] 2)<|jh (ju (dP<|pSl (Jp #[pF<|p2 jc (pV 1)<|pI 6,p2 jg (p2 jc (pV 1)<|pI 6)<|pS [104]]) oN<|oS<|jl jf #[pV 0,pI 910,pI 3])<|jd [] 3)<|sFz 3<|sFz 2<|yo<|dP<|jl Jn #[pV 0,pI 0,p2 jc (pV 1)<|pI 0,pV 2,pV 3,pFz<|pSl (pV 1) (oS<|pI 1)<|oS<|pI 3])
def vR:List D->Option D:=fnP 4 VB
def JG(vI:List D->Option D):FS:=(jh (sIf (dPT<|jj<|jaR "list" "tuple"<|pV 0) (yo<|dP<|pCB jjg #[jY (qB<|pV 0) (jd [] 0) qT (jl vI #[pV 0]) [none]])
 jK)<|yo<|dP<|pOr (jea "str"<|pV 0)<|jl Vl #[pV 0])
def vK:Nat->List D->Option D
 | 0=>λ_=>none
 | n+1=>fnP 1<|JG<|vK n
def vI:List D->Option D:=vK 8
def jd4:FS:=(jh (sIf (dPT<|jj<|p2 (Y2 true) (p2 jc (pV 13)<|pI 3)<|Jp #[pS [101,97,116],pS [103,117,97,114,100],pS [116,119,105,99,101]]) (ju (dP<|p2 jg (pV 12)<|p2 jc (pV 13)<|pI 6)<|jd [] 12)
 jK)<|sIf (dPT<|jba (jj<|p2 vm (p2 jc (pV 13)<|pI 3)<|pS [108,101,110,100])<|jj<|p2 Yj (p2 jc (pV 13)<|pI 6)<|pI 0) (Jq 5 (p2 jc (pV 13)<|pI 4)<|p2 jg (p3 zP (pV 5) (p2 jc (pV 13)<|pI 4)<|pI 0)<|p2 jc (pV 13)<|pI 6)
 jK)
def V4:FS:=(jh (jeK (dP<|pF<|pV 7)<|gA3 8 9 10)<|jh (ju (dP<|pCB qE #[jY (qB<|pCB xl #[pV 5]) (jd [] 0) qT (jV #[pF<|p2 jc (pV 1)<|pI 0,pF<|pV 0,pF<|p2 jG (pV 2)<|pV 0]) [none,some 1,some 5]])<|jd [] 11)<|jh (sFz 11<|sIf (dPT<|jj<|p2 Y3 (jl vW #[pV 1,pV 4,pV 6,pV 11])<|jV #[pF<|pV 8,pF<|pV 10]) (yo<|dP<|pC<|.bl false)
 jK)<|jh (sIf (dPT<|qOr (jmv<|jj<|jl vY #[pV 1,pV 4,pV 10])<|jj<|p2 Y3 (pV 8)<|jl kH #[pV 1,pV 4,pV 10,p2 jc (pV 6)<|pI 1]) (yo<|dP<|pC<|.bl false)
 jK)<|jh (ju (dP<|pI 0)<|jd [] 12)<|jh (qu (pIt<|pF<|pV 10) (jd [] 13) jd4)<|jh (ju (dP<|pCB qE #[jY (qB<|pCB xl #[pV 5]) (jd [] 0) qT (jV #[pF<|p2 jc (pV 1)<|pI 0,pF<|pV 0,pF<|p2 jG (pV 2)<|pV 0]) [none,some 1,some 5]])<|jd [] 14)<|jh (sIf (dPT<|qOr (jj<|p2 Y3 (pV 12)<|p2 jc (pV 6)<|pI 0)<|jj<|p2 Y3 (pV 9)<|pV 14) (yo<|dP<|pC<|.bl false)
 jK)<|ju (dP<|pF<|pV 8)<|jd [] 4)
def jlH:FS:=(jh (ju (dP<|jl vR #[pV 0])<|jd [] 1)<|jh (ju (dP<|jl yr #[pV 0])<|jd [] 2)<|jh (sFz 2<|sFz 1<|ju (dP<|jl k8 #[pV 1,pV 2])<|jd [] 3)<|jh (sFz 3<|sIf (dPT<|qOr (jmv<|jj<|jea "list"<|pV 3)<|qOr (jj<|p2 Y3 (pCB JB #[pV 3])<|pCB JB #[pV 2])<|jmv<|jj<|jl vI #[pV 3]) (yo<|dP<|pC<|.bl false)
 jK)<|jh (ju (dP<|jl qf #[pV 1])<|jd [] 4)<|jh (ju (dP<|pC<|.dK true [] [])<|jd [] 5)<|jh (sFz 4<|sFz 2<|sFz 3<|qu (pZN 2 #[pF<|pV 2,pF<|pV 3]) (gA2 6 7) V4)<|yo<|dP<|jg7 (p2 vm (pV 2)<|jl yr #[pV 0])<|p2 vm (pV 1)<|jl vR #[pV 0])
def jbc:List D->Option D:=fnP 15 jlH
def jpl(st:Stmt):List Str:=((jn st).names.filter λp=>decide (p.2=.local)||decide (p.2=.cell)).map (·.1)
abbrev qV(K:W5)(mg:W7)(x:Str)(st:Stmt)(n:Nat):Prop:=jf7 K mg x st (jpl st) n
abbrev jhZ(K:W5)(C:Addr)(x qual:Str)(st:Stmt)(n:Nat):Prop:=jkq K C x qual st (jpl st) n
structure Txt(P:Program)(w:World)(K:W5)(mg:W7)(cl:Nat->Addr):Prop where
 C0:Cls K (cl 0)
 mk0:PySem.W.makesIn K (cl 0)=true
 kc0:PySem.W.keepIn K (.ref<|cl 0)=true
 mg0:mg "Fall" = some (.ref<|cl 0)
 aa:NoAttr K (cl 0) "owed"
 ab:NoAttr K (cl 0) "sizes"
 ac:NoAttr K (cl 0) "marks"
 ae:NoAttr K (cl 0) "levels"
 af:NoAttr K (cl 0) "loans"
 ag:NoAttr K (cl 0) "pool_name"
 ah:NoAttr K (cl 0) "cash"
 ai:NoAttr K (cl 0) "entries"
 aj:NoAttr K (cl 0) "served"
 ak:NoAttr K (cl 0) "moves"
 am:mg "all" = none
 ao:mg "bool" = none
 ap:mg "dict" = none
 aq:mg "enumerate" = none
 ar:mg "int" = none
 au:mg "isinstance" = none
 av:mg "len" = none
 aw:mg "list" = none
 ax:mg "max" = none
 ay:mg "min" = none
 az:mg "range" = none
 aA:mg "sorted" = none
 aB:mg "str" = none
 aC:mg "sum" = none
 aD:mg "tuple" = none
 aE:mg "zip" = none
 aF:qV K mg "tenths_of" (top 2) 1
 aG:qV K mg "order_named" (top 4) 2
 aH:qV K mg "look_order" (top 5) 2
 aI:qV K mg "loans_by_ends" (top 6) 1
 aJ:qV K mg "move_loan" (top 7) 5
 aK:jf7 K mg "shared" (top 10) ["needs","cash","whole","gets","left","at","need"] 2
 aL:jhZ K (cl 0) "need_of" "Fall.need_of" (qv (top 13) 3) 2
 aM:jhZ K (cl 0) "take_guard" "Fall.take_guard" (qv (top 13) 6) 4
 aN:jhZ K (cl 0) "book_behind" "Fall.book_behind" (qv (top 13) 7) 2
 aO:qV K mg "eaten" (top 15) 3
 aP:qV K mg "begun_book" (top 17) 1
 aQ:qV K mg "with_dues" (top 19) 2
 aR:qV K mg "_law_draw" (top 23) 3
 aS:qV K mg "_law_free" (top 29) 2
 aT:qV K mg "_law_whole" (top 36) 1
 aU:qV K mg "_law_entry" (top 38) 2
 aV:qV K mg "_law_served" (top 39) 1
 aW:qV K mg "_law_order_now" (top 41) 2
 aX:qV K mg "_law_begun" (top 42) 1
 aY:qV K mg "asked" (top 1) 2
 aZ:qV K mg "loans_behind" (top 8) 3
 b7:jhZ K (cl 0) "__init__" "Fall.__init__" (qv (top 13) 0) 5
 b8:jhZ K (cl 0) "give" "Fall.give" (qv (top 13) 4) 4
 b9:jkq K (cl 0) "take_share" "Fall.take_share" (qv (top 13) 5) ["self","place","names","needs","gets","full","name","need","got"] 3
 ba:qV K mg "order_now" (top 18) 2
 bc:qV K mg "_law_coins" (top 24) 2
 be:qV K mg "_law_names" (top 25) 1
 bf:qV K mg "_law_some" (top 26) 3
 bg:jf7 K mg "_law_next" (top 40) ["_law_pool_here","_law_book","_law_log","_law_loss","_law_sizes","_law_owed","_law_levels","_law_lost","_law_entry_here","_law_alive","_law_claim","_law_size","_law_due","_law_served_here","_law_runs","_law_run","_law_kept","_law_wanted"] 4
 bh:qV K mg "_law_headed" (top 43) 3
 bi:jhZ K (cl 0) "take_parts" "Fall.take_parts" (qv (top 13) 1) 2
 bj:jhZ K (cl 0) "take_rule" "Fall.take_rule" (qv (top 13) 2) 3
 bm:qV K mg "_law_rule" (top 27) 5
 bn:qV K mg "_law_flow" (top 32) 2
 bo:qV K mg "fell" (top 12) 5
 bp:qV K mg "_law_order" (top 28) 6
 bq:jf7 K mg "_law_days" (top 33) ["_law_script","_law_many","_law_days_here","_law_k","_law_incomes","_law_losses","_law_at","_law_loss"] 2
 br:qV K mg "pool_day" (top 20) 5
 bt:qV K mg "_law_pool" (top 30) 6
 bu:qV K mg "_law_own_days" (top 35) 1
 bv:qV K mg "_law_fallen" (top 44) 4
 bw:qV K mg "ran_alone" (top 21) 2
 bx:qV K mg "_law_alone" (top 34) 1
 bz:qV K mg "_law_plain" (top 37) 1
 bA:qV K mg "law" (top 45) 1
section
variable {P:Program}{w:World}{K:W5}{mg:W7}{cl:Nat->Addr}(T:Txt P w K mg cl)
include T
set_option maxHeartbeats 40000000 in
def jmK:((((NP P w cl T.aF 1 kQ/\NP P w cl T.aG 1 vE)/\NP P w cl T.aH 1 va/\NP P w cl T.aI 1 yi)/\(NM P w cl T.aJ 1 yS/\NP P w cl T.aK 1 qZ)/\OP P w cl mg T.aL 1 ji/\OM P w cl mg T.aM 1 ym/\OP P w cl mg T.aN 1 jJ)/\((NP P w cl T.aO 1 Yp/\NP P w cl T.aP 1 vi)/\NP P w cl T.aQ 1 qe/\NP P w cl T.aR 1 jf/\NP P w cl T.aS 1 Jl)/\(NP P w cl T.aT 1 Vl/\NL P w cl T.aU 1 yR)/\NP P w cl T.aV 1 v7/\NP P w cl T.aW 1 jX/\NP P w cl T.aX 1 qf) /\
 (((NP P w cl T.aY 2 VW/\NP P w cl T.aZ 2 yY)/\OM P w cl mg T.b7 2 yG/\OM P w cl mg T.b8 2 jq/\OM P w cl mg T.b9 2 jQ)/\(NP P w cl T.ba 2 vJ/\NP P w cl T.bc 2 jA/\NP P w cl T.be 2 qd)/\NP P w cl T.bf 2 ku/\NP P w cl T.bg 2 kH/\NP P w cl T.bh 2 vY) /\
 ((OM P w cl mg T.bi 3 jP/\OM P w cl mg T.bj 3 jo)/\NP P w cl T.bm 3 Yy/\NP P w cl T.bn 3 yj) /\
 (NP P w cl T.bo 4 Ku/\NP P w cl T.bp 4 qh/\NP P w cl T.bq 4 Jd) /\
 ((NP P w cl T.br 5 kJ/\NP P w cl T.bt 5 Jn)/\NP P w cl T.bu 5 yr/\NP P w cl T.bv 5 vW) /\
 (NP P w cl T.bw 6 k8/\NP P w cl T.bx 6 vR) /\
 NP P w cl T.bz 9 vI /\
 NP P w cl T.bA 10 jbc:=by
 cases T;refine jjB ?_ λa=>jjB ?_ λb=>jjB ?_ λh=>jjB ?_ λk=>jjB ?_ λi=>jjB ?_ λl=>jjB ?_ λm=>?_
 all_goals repeat' apply And.intro
 all_goals
  (first | refine jp2 (by assumption) (λ_=>rfl) (λj f fd S F _ base=>?_) _ | refine okR (by assumption) (λ_=>rfl) (λj f fd S F _ base=>?_) _ | refine okN (by assumption) λf fd S F base=>?_ | refine okO (by assumption) λf fd S F base=>?_)
  (first | refine' jnv F.fn S rfl λe A outer s H E g=>?_ | refine' jmp F.fn S rfl λe A outer s H E g=>?_ | refine' jkd F.fn S rfl λe A outer s H E g=>?_ | refine' jlp F.fn S rfl (by decide) rfl λe A outer s H E g=>⟨jdn (QB.sem (c:=cl)<|jmy 0)<|jhl rfl<|Jg (YA S.nd rfl<|by first | exact Or.inl rfl | exact Or.inr rfl)<|Jg (YA S.nd rfl<|by first | exact Or.inl rfl | exact Or.inr rfl)<|Jg (YA S.nd rfl<|by first | exact Or.inl rfl | exact Or.inr rfl)<|Jg (YA S.nd rfl<|by first | exact Or.inl rfl | exact Or.inr rfl) ua,?_⟩)
  apply Exists.intro
  repeat' first | exact rfl | (show QB _ _ _ _ _;first | apply jmy | apply qI | apply jps | apply jmm | apply jl6 | apply QP.fzb | apply jjS | apply jh5 | apply QK.ix | apply QK.fld | apply QP.bb) | (show QBs _ _ _ _ _;first | apply jj1 | apply jmk) | (show QPs _ _ _ _ _;first | apply ji6 | apply jll) | (show QP _ _ _ _ _;first | ((with_reducible show QP _ _ _ _ (pCB vO _));refine' VZ (jbe rfl) jjv ?_ ja8 ?_) | ((with_reducible show QP _ _ _ _ (pCB jch _));refine' YB (jd0 rfl) jkK ?_ jbU ?_) | ((with_reducible show QP _ _ _ _ (pCB jaj _));refine' YB (jdc rfl) jlN ?_ jcj ?_) | ((with_reducible show QP _ _ _ _ (pCB qA _));refine' VZ jcE jjO ?_ z7 ?_) | ((with_reducible show QP _ _ _ _ (pCB xz _));refine' VZ zo jhU ?_ Je ?_) | ((with_reducible show QP _ _ _ _ (pCB jip _));refine' YB (jdX rfl) jlN ?_ jdJ ?_) | ((with_reducible show QP _ _ _ _ (pCB jjg _));refine' YB (jet rfl) jkI ?_ jbN ?_) | ((with_reducible show QP _ _ _ _ (pCB xA _));refine' VZ Qk jeO ?_ uq ?_) | ((with_reducible show QP _ _ _ _ (pCB xl _));refine' VZ (wI rfl) jeC ?_ Je ?_) | ((with_reducible show QP _ _ _ _ (pCB qE _));refine' YB YN xx ?_ YI ?_) | ((with_reducible show QP _ _ _ _ (jea "int" _));refine' jga (T:="int") (by decide) ?_ ?_ z7 ?_) | ((with_reducible show QP _ _ _ _ (jea "bool" _));refine' jga (T:="bool") (by decide) ?_ ?_ jbu ?_) | ((with_reducible show QP _ _ _ _ (jea "str" _));refine' jga (T:="str") (by decide) ?_ ?_ jdo ?_) | ((with_reducible show QP _ _ _ _ (jea "list" _));refine' jga (T:="list") (by decide) ?_ ?_ Je ?_) | apply jmV | apply jgd | apply jnS | apply qS | apply jnL | apply jn4 | apply joY | apply jlI | apply jpf | apply jn2 | apply jij | apply jnH | apply jpD | apply jn1 | apply jnX | apply jom | apply jpL | apply jek | apply jow | apply jlT | apply joj | apply je5 | apply jkt | apply joK | apply jpQ | apply jiP | apply joZ | apply jjq | apply jlv | apply jke | apply jpH | apply QK.add | apply QK.call | apply QK.sl | apply jod | apply QB.f) | (show QSs _ _ _ _ _ _;first | apply jiR | apply jfJ | apply ji7) | (show QE _ _ _ _ _;first | ((with_reducible show QE _ _ _ _ (dCB qE _));refine' jfH YN xx ?_ YI ?_) | apply jpE | apply jiD | apply jme | apply jhM | apply jfC | apply je3 | apply jk7 | apply jnJ | apply QP.d) | (show QS _ _ _ _ _ _;first | apply jlS | apply joh | apply QS.fz | apply jmA | apply jkD | apply uc (hsw:=by with_unfolding_all rfl) | apply jio | apply jle | apply jix | apply jbH | apply jih | apply jjx | apply jc7 | apply jhw | apply jjI | apply jfU | apply jf3 | apply jfO | apply jep | apply jlg | apply jdW | apply jmr | apply Q9 (hsw:=by with_unfolding_all rfl) | apply jm0 | apply jjH | apply jml) | (show QGs _ _ _ _ _ _;first | apply jfL | apply jii) | (show QG _ _ _ _ _ _;first | apply jjY | apply jgk | apply QK.g_tup) | (show QT _ _ _ _ _;first | apply jkg | apply jkl | apply jmg | apply QW.t) | (show QIb _ _ _ _ _ _;first | apply jjU | apply QI.b') | (show QL _ _ _ _ _ _;first | apply jm4 | apply jkc) | (show QO _ _ _ _ _;first | apply jjG | apply jjZ) | (show QDs _ _ _ _ _;first | apply jhq | apply jkS) | (show QI _ _ _ _ _ _;first | apply jlL | apply jhu | apply jg4 | apply jmo | apply joC | apply jlU) | (show QW _ _ _ _ _;first | apply jkR | apply jiZ | apply jos | apply jkQ) | apply jf9 | apply jaU | apply c_eq | apply jpR | apply c_ne | apply jp1 | apply jpF | apply jpY | apply c_notin | apply QK.c_eq | apply QK.c_ne | apply QK.c_notin | exact Or.inl rfl | exact Or.inr rfl | exact Or.inr (Or.inl rfl) | exact Or.inr (Or.inr rfl) | exact λ_=>rfl | exact λ_ _=>rfl | exact λ_ _ _=>rfl | exact g.mono (by decide) | exact g.mono (by first | exact M8 _ | exact Nat.le_add_left _ _ | exact N6 (by decide)<|Nat.le_add_right _ _) | apply jff | exact S.nd | (show BlockOk _ _ _ _;exact bkN S) | exact PassesOwn.never | exact jmB | exact jld | (intro _ _ _ _;first | show QP _ _ _ _ _ | show QG _ _ _ _ _ _ | show QIf _ _ _ _ _ | show QT _ _ _ _ _ | show QKv _ _ _ _ _ _) | exact⟨rfl,rfl,rfl,rfl⟩ | exact ndN (by decide +kernel) | decide +kernel | with_unfolding_all rfl | apply jl2 | apply jb3 | apply jeN | apply jhJ | assumption | exact a.1.1.1.1 | exact a.1.1.1.2 | exact a.1.1.2.1 | exact a.1.1.2.2 | exact a.1.2.1.1 | exact a.1.2.1.2 | exact a.1.2.2.1 | exact a.1.2.2.2.1 | exact a.1.2.2.2.2 | exact a.2.1.1.1 | exact a.2.1.1.2 | exact a.2.1.2.1 | exact a.2.1.2.2.1 | exact a.2.1.2.2.2 | exact a.2.2.1.1 | exact a.2.2.1.2 | exact a.2.2.2.1 | exact a.2.2.2.2.1 | exact a.2.2.2.2.2 | exact b.1.1.1 | exact b.1.1.2 | exact b.1.2.1 | exact b.1.2.2.1 | exact b.1.2.2.2 | exact b.2.1.1 | exact b.2.1.2.1 | exact b.2.1.2.2 | exact b.2.2.1 | exact b.2.2.2.1 | exact b.2.2.2.2 | exact h.1.1 | exact h.1.2 | exact h.2.1 | exact h.2.2 | exact k.1 | exact k.2.1 | exact k.2.2 | exact i.1.1 | exact i.1.2 | exact i.2.1 | exact i.2.2 | exact l.1 | exact l.2 | exact m | apply jcv | apply jf2 | apply jb3 | apply joL
end
def sq(h:f ρ=some (.nx ρ'))(k:g ρ'=r):jh f g ρ=r:=by
 rw[jgx,h];exact k
def lpF(h:(G x ρ).bind f=some (.nx ρ2)):jB G f (x::xs) ρ=jB G f xs ρ2:=by
 refine ob h λr a b=>?_;rw[ya,a,L4,b];rfl
def cpE(h:G x ρ=some ρ1)(k:p ρ1=some y):jS G qT p (x::xs) ρ=(jS G qT p xs ρ1).bind λys=>some (y::ys):=by
 rw[kz,h,L4,qT,L4,cond_true,k];rfl
def lpE(h:G x ρ=some ρ1)(k:f ρ1=some (.nx ρ2)):jB G f (x::xs) ρ=jB G f xs ρ2:=by
 rw[ya,h,L4,k];rfl
noncomputable abbrev sc(ns:List Int):D:=.lst false<|ns.map D.int
noncomputable def jez(ns:List Int)(k:Int):Int:=ns.getD (k%ns.length).toNat 0
def drw(ns:List Int)(k many:Int):Int:=(jez ns k%2147483647+7*k+3)*(48271+1103*k*k)%2147483629/64%many
def yg(ns:List Int)(k:Int)  (h:0<many):0<=drw ns k many:=N9 _ ∅
def yn(ns:List Int)(k:Int)  (h:0<many):drw ns k many<many:=N8 _ h
def jbO(h:0<ns.length):jc (.lst false<|ns.map D.int) (.int<|k%(ns.length:Int))=some (.int<|jez ns k):=by
 have a:=N9 k (show(ns.length:Int)≠0 by lia);have g2:=N8 k (show 0<(ns.length:Int) by lia);have g3:(k%(ns.length:Int)).toNat<ns.length:=by lia
 rw[jj4 a<|by rw[L1];exact g2,List.getElem?_map];unfold jez;rw[List.getD_eq_getElem?_getD,X5 g3];rfl
def jkv{k:Int}(d:0<=k)(h1:k<=1000000):0<=1103*k*k/\1103*k*k<=1103*1000000*1000000/\0<=k*k/\k*k<=1000000*1000000:=by
 have a:0<=k*k:=Int.mul_nonneg d d;have b:k*k<=1000000*1000000:=Int.mul_le_mul h1 h1 d<|Int.le_trans d h1;have c:1103*k*k=1103*(k*k):=Int.mul_assoc _ _ _;exact⟨by lia,by lia,a,b⟩
def jy{ns:List Int}{k many:Int}(b:0<=k)(h1:k<=1000000)(d:0<many):jf [.lst false<|ns.map D.int,.int k,.int many]=some (.int<|drw ns k many):=by
 have f:=jkv b h1;by_cases h:ns=[]
 ·subst h;have e:drw [] k many=(0%2147483647+7*k+3)*(48271+1103*k*k)%2147483629/64%many:=rfl;rw[e];simp(disch:=lia) [jf,jH,YC,yu,VH,JR]
 ·have a:0<ns.length:=List.length_pos_iff.mpr h;have c:(0:Int)<(ns.length:Int):=by lia
  have e:=jbO (ns:=ns) (k:=k) a;simp(disch:=lia) [jf,jH,YC,yu,VH,JR,e,a,drw]
def coi(ns:List Int)(k:Int):Int:=if 0<drw ns 900 3 then 1+drw ns k 9 else 1+(jez ns k%10 ^ 40+k*k+1)*48271 ^ 5%10 ^ 12
def Qw(ns:List Int)(k:Int):1<=coi ns k:=by
 unfold coi;split
 ·have:=yg ns k (many:=9) (by decide);lia
 ·lia
def uI(ns:List Int)(k:Int):coi ns k<=10 ^ 12:=by
 unfold coi;split
 ·have:=yn ns k (many:=9) (by decide);lia
 ·lia
def J5{ns:List Int}{k:Int}(g:0<=k)(h1:k<=1000000):jA [.lst false<|ns.map D.int,.int k]=some (.int<|coi ns k):=by
 have j:=jkv g h1;have a:=jy (ns:=ns) (k:=900) (many:=3) (by decide) (by decide) (by decide);have b:=jy (ns:=ns) (k:=k) (many:=9) g h1 (by decide);have p1:Kh (.int 10) (.int 40)=some (.int<|10 ^ 40):=rfl;have p2:Kh (.int 48271) (.int 5)=some (.int<|48271 ^ 5):=rfl;have p3:Kh (.int 10) (.int 12)=some (.int<|10 ^ 12):=rfl;have key:∀ c:Int,0<=c%10 ^ 40/\c%10 ^ 40<10 ^ 40:=λc=>⟨by lia,by lia⟩;by_cases h:ns=[]
 ·subst h;have e:coi [] k=if 0<drw [] 900 3 then 1+drw [] k 9 else 1+(0%10 ^ 40+k*k+1)*48271 ^ 5%10 ^ 12:=rfl
  rw[e];simp only[List.map_nil] at a b;by_cases d:0<drw [] 900 3
  ·simp(disch:=lia) [jA,jH,vP,a,b,d]
  ·simp(disch:=lia) [jA,jH,vP,yu,VH,JR,a,b,p1,p2,p3,d]
 ·have f:0<ns.length:=List.length_pos_iff.mpr h;have i:(0:Int)<(ns.length:Int):=by lia
  have e:=jbO (ns:=ns) (k:=k) f;by_cases d:0<drw ns 900 3
  ·simp(disch:=lia) [jA,jH,vP,yu,VH,JR,e,f,coi,a,b,d]
  ·simp(disch:=lia) [jA,jH,vP,yu,VH,JR,e,f,coi,a,b,p1,p2,p3,d]
noncomputable def letters:List Nat:=[98,99,100,102,103,106,107,109,110,112,113,118,119,120,121,122]
def ahd(ns:List Int):List Nat:=(List.replicate (drw ns 901 2).toNat [122,113]).flatten
def bhd(ns:List Int):List Nat:=[118,122,98].take (drw ns 902 4).toNat
def xG(ns:List Int)(i:Nat):List Nat:=ahd ns++[letters.getD ((drw ns 903 16+(0+(i:Int)))%16).toNat 0]++bhd ns
def nmL(ns:List Int):List (List Nat):=(List.range 16).map (xG ns)
def jgr(ns:List Int):(ahd ns).length<=2/\∀ c∈ahd ns,c<1114112:=by
 have a:=yg ns 901 (many:=2) (by decide);have b:=yn ns 901 (many:=2) (by decide);unfold ahd;have:drw ns 901 2=0\/drw ns 901 2=1:=by lia
 rcases this with e | e<;>rw[e]<;>decide
def jgC(ns:List Int):(bhd ns).length<=3/\∀ c∈bhd ns,c<1114112:=by
 unfold bhd;refine⟨by rw[X6];simp;lia,λc a=>?_⟩;have:=List.mem_of_mem_take a;simp only[M4,List.not_mem_nil,or_false] at this;rcases this with rfl | rfl | rfl<;>decide
def jbd(i:Nat):letters.getD i 0<1114112:=jh2 (by decide) (by decide)
def jjN(ns:List Int)(i:Nat):Wd (xG ns i)/\(xG ns i).length<=6:=by
 have a:=jgr ns;have b:=jgC ns;have e:(xG ns i).length<=6:=by
  unfold xG;simp only[N3,M1,List.length_nil]
  lia
 refine⟨⟨by lia,λc d=>?_⟩,e⟩;unfold xG at d;rcases N1.mp d with d | d
 ·rcases N1.mp d with d | d
  ·exact a.2 c d
  ·rw[M7.mp d];exact jbd _
 ·exact b.2 c d
def wg:∀ i j:Fin 16,letters.getD i.val 0=letters.getD j.val 0->i=j:=by decide
def QR(hi:i<16)(a:j<16)(h:xG ns i=xG ns j):i=j:=by
 unfold xG at h;have h:=List.append_cancel_right h;have h:=List.append_cancel_left h;have b:=yg ns 903 (many:=16) (by decide);have c:=yn ns 903 (many:=16) (by decide);have q:letters.getD ((drw ns 903 16+(0+(i:Int)))%16).toNat 0=letters.getD ((drw ns 903 16+(0+(j:Int)))%16).toNat 0:=by injection h
 have:=wg ⟨((drw ns 903 16+(0+(i:Int)))%16).toNat,by lia⟩ ⟨((drw ns 903 16+(0+(j:Int)))%16).toNat,by lia⟩ q;have:=congrArg Fin.val this;simp only at this
 lia
def QM(ns:List Int):(nmL ns).length=16:=by simp[nmL]
def jcH(ns:List Int):(nmL ns).Nodup:=by
 unfold nmL;refine List.Pairwise.map _ (R:=λa b=>a∈List.range 16/\b∈List.range 16/\a≠b) ?_ ?_
 ·rintro a b ⟨c,d,e⟩ z;exact e<|QR (List.mem_range.mp c) (List.mem_range.mp d) z
 ·decide
def uV(h:w∈nmL ns):Wd w/\w.length<=6:=by
 obtain⟨i,_,rfl⟩:=M5.mp h;exact jjN ns i
def jfb(ns:List Int):qd [.lst false<|ns.map D.int]=↑((nmL ns).map D.str):=by
 have c:=jy (ns:=ns) (k:=901) (many:=2) (by decide) (by decide) (by decide);have d:=jy (ns:=ns) (k:=902) (many:=4) (by decide) (by decide) (by decide);have e:=jy (ns:=ns) (k:=903) (many:=16) (by decide) (by decide) (by decide);have f:=yg ns 901 (many:=2) (by decide);have p:=yn ns 901 (many:=2) (by decide);have g:=yg ns 902 (many:=4) (by decide);have c1:=yg ns 903 (many:=16) (by decide);have r:=yn ns 903 (many:=16) (by decide);have h:yk (.str [122,113]) (.int<|drw ns 901 2)=some (.str<|ahd ns):=jks (by decide) f ∅;have j:jej none (some<|drw ns 902 4) (.str [118,122,98])=some (.str<|bhd ns):=by
  rw[jpN<|by decide,uZ _ g];rfl
 have t:=jgr ns;have u:=jgC ns;have m:([98,99,100,102,103,106,107,109,110,112,113,118,119,120,121,122]:List Nat)=letters:=rfl;have b:jS (jd [] 0) qT (p2 jg (p2 jg (pV 1)<|p2 jc (pV 2)<|p2 J8 (p2 jg (pV 3)<|pV 0)<|pI 16)<|pV 4) (xv 0 16)
   (jr [none,some 2,some 1,some 4,some 3] [‹ns.map D.int›,some<|.str letters,some<|.str<|ahd ns,some<|.str<|bhd ns,some<|.int<|drw ns 903 16])=some ((List.range 16).map λi=>D.str<|xG ns i):=by
  refine jv (l:=List.range 16) (en:=λi=>.int<|0+(i:Int)) rfl (λρ=>∃ o,ρ=[o,some<|.str<|ahd ns,some<|.str letters,some<|.int<|drw ns 903 16,some<|.str<|bhd ns]) ?_ ⟨none,rfl⟩;rintro x v ρ ⟨o,rfl⟩;refine⟨_,rfl,?_,_,rfl⟩;have q:=jpK (s:=letters) (i:=(drw ns 903 16+(0+(x:Int)))%16) (by decide) ∅ (by have:letters.length=16:=rfl;lia);simp(disch:=first | lia | (simp;done) | (simp;lia)) [VH,q,jgL,xG,-Int.zero_add,-List.getD_eq_getElem?_getD]
 have n:uu [.int 16]=some (xv 0 16):=YZ (by decide) (by decide);have a:lim (xv 0 16).length=true:=jb (by rw[qW];decide);have e7:((List.range 16).map λi=>D.str<|xG ns i)=(nmL ns).map D.str:=by unfold nmL;rw[U0];rfl
 rw[e7] at b;unfold qd;rw[jH];unfold V2;rw[m];simp[c,d,e,h,j,n,a,b]
def ji8{ns:List Int}{k:Int}{C:W4}(q:0<=k)(h1:k<=100000)(r:C.length<=10)(p:C.Nodup):∃(S:W4),An4 (ku [.lst false<|ns.map D.int,.int k,.lst false<|C.map D.str]=↑(S.map D.str)) (∀ w∈S,w∈C) S.Nodup (S.length<=10):=by
 obtain⟨t,T,e,⟨g,j,rfl⟩,b⟩:=jfG (G:=gA2 4 5) (f:=kf) (λ(a:W4) ρ=>∃ g j,ρ=[‹ns.map D.int›,some<|.int k,‹C.map D.str›,↑(a.map D.str),g,j]) 20 (C:=C) (s:=0) (acc:=[]) (ρ:=[‹ns.map D.int›,some<|.int k,‹C.map D.str›,some<|.lst true [],none,none]) (by
  rintro i c a ρ hi u v ⟨g,j,rfl⟩;have m:=jy (ns:=ns) (k:=k+(i:Int)) (many:=3) ∅ ∅ (by decide);by_cases d:0<drw ns (k+(i:Int)) 3
  ·refine⟨_,_,rfl,?_,.inl ⟨some<|.int i,some<|.str c,rfl⟩⟩;simp(disch:=first | lia | (simp;done) | (simp;lia)) [kf,m,d,jb]
  ·refine⟨_,_,rfl,?_,.inr ⟨some<|.int i,some<|.str c,rfl⟩⟩;simp(disch:=first | lia | (simp;done) | (simp;lia)) [kf,m,d,jb]) ∅ (by simp;lia) ⟨none,none,rfl⟩
 rw[X4] at e;have n:=jy (ns:=ns) (k:=k+9) (many:=2) ∅ ∅ (by decide);have o:T.Nodup:=p.sublist b;by_cases d:drw ns (k+9) 2=1
 ·refine⟨T.reverse,?_,λw l=>b.subset<|List.mem_reverse.mp l,(List.pairwise_reverse.mpr<|o.imp λh=>Ne.symm h),by have:=b.length_le;rw[List.length_reverse];lia⟩;rw[List.map_reverse];simp(disch:=first | lia | (simp;done) | (simp;lia)) [ku,jH,Yo,e,n,d,jb]
 ·refine⟨T,?_,λw l=>b.subset l,o,by have:=b.length_le;lia⟩;simp(disch:=first | lia | (simp;done) | (simp;lia)) [ku,jH,Yo,e,n,d,jb]
noncomputable abbrev jI:List Nat:=[115,104,97,114,101]
noncomputable abbrev yd:List Nat:=[114,101,112,97,121]
noncomputable abbrev Kv:List Nat:=[112,97,121]
noncomputable abbrev YR:List Nat:=[102,105,108,108]
noncomputable abbrev vF:List Nat:=[108,101,110,100]
noncomputable abbrev jde:List Nat:=[98,97,99,107]
noncomputable abbrev Vh:List Nat:=[114,101,115,116]
def jdK(C P O:W4)(kw w:List Nat):Prop:=((kw=Kv\/kw=yd\/kw=Vh)/\w∈C)\/(kw=YR/\w∈P)\/(kw=jde/\w∈O)
inductive RuleS (C P O:W4):D->Prop where
 | two (kw w:List Nat) (hk:kw≠jI) (h1:Wd kw) (h2:Wd w) (hm:jdK C P O kw w):RuleS C P O (.tup [.str kw,.str w])
 | share (ws:W4) (hl:ws.length<=20) (h:∀ w∈ws,Wd w) (hm:∀ w∈ws,w∈C) (nd:ws.Nodup):RuleS C P O (.tup [.str jI,.tup (ws.map D.str)])
 | lend (w:List Nat) (i:Int) (h:Wd w) (hm:w∈O):RuleS C P O (.tup [.str [108,101,110,100],.str w,.int i])
def RuleS.fz(h:RuleS C P O d):QD.fz d=d:=by cases h<;>simp
def RuleS.frz(h:RuleS C P O d):QD.frz d=true:=by cases h<;>simp
def xW(h:RuleS C P O d):QD.clean d=true:=by cases h<;>simp
def RuleS.ok(h:RuleS C P O d)(n:Nat):okE (n+2) d=true:=by
 cases h with
 | two kw w f b c a=>show yI (n+1) [.str kw,.str w]=true;simp[yI,jN b.2,jN c.2]
 | share e g h a nd=>show yI (n+1) [.str jI,.tup<|e.map D.str]=true;simp[yI,jN (n:=n+1) (w:=jI)<|by decide,okE,V7 h]
 | lend w i h a=>show yI (n+1) [.str [108,101,110,100],.str w,.int i]=true;simp[yI,jN (n:=n+1) (w:=[108,101,110,100])<|by decide,jN h.2]
def Jj(h:w.all (λc=>decide<|c<200)=true)(a:w.length<=30):Wd w:=⟨a,λc b=>by
 have:=X2<|List.all_eq_true.mp h c b;lia⟩
def jc8(h:C.Nodup):(yK C (some<|-1) none++yK C none (some<|-1)).Nodup:=by
 unfold yK;have e:HT.sIx C.length C.length (some<|-1)=HT.sIx C.length 0 (some<|-1):=rfl;rw[e,HT.sIx_none,HT.sIx_none];generalize HT.sIx C.length 0 (some<|-1)=m;have a:(C.drop m).take (C.length-m)=C.drop m:=List.take_of_length_le (by rw[List.length_drop];lia);rw[a,Nat.sub_zero,List.drop_zero];have p:(C.drop m++C.take m).Perm C:=List.perm_append_comm.trans (by rw[List.take_append_drop]);exact p.nodup_iff.mpr h
def sqE(h:f ρ=some (.nx ρ')):jh f g ρ=g ρ':=sq h rfl
def jho{ns:List Int}{k:Int}{C P O:W4}(J:0<=k)(h1:k<=100000)(X:0<C.length)(K:C.length<=10)(L:P.length<=10)(M:O.length<=10)(q:∀ w∈C,Wd w)(N:∀ w∈P,Wd w)(Q:∀ w∈O,Wd w)(A:C.Nodup):
  ∃ d,Yy [.lst false<|ns.map D.int,.int k,.lst false<|C.map D.str,.lst false<|P.map D.str,.lst false<|O.map D.str]=some d/\RuleS C P O d:=by
 have B:=jy (ns:=ns) (k:=k) (many:=9) J ∅ (by decide);have R:=jy (ns:=ns) (k:=k+1) (many:=(C.length:Int)) ∅ ∅ ∅;have S:=yg ns (k+1) (many:=(C.length:Int)) ∅;have T:=yn ns (k+1) (many:=(C.length:Int)) ∅;have E:=kY (o:=false) (l:=C) S T;have e:=yy (l:=C) (i:=(drw ns (k+1) (C.length:Int)).toNat) (d:=[]) ∅;have t:Wd (C.getD (drw ns (k+1) (C.length:Int)).toNat []):=q _ e;generalize C.getD (drw ns (k+1) (C.length:Int)).toNat []=w at E t e;have U:=yg ns k (many:=9) (by decide);have V:=yn ns k (many:=9) (by decide);generalize drw ns k 9=kd at B U V;have s1:=qR false C none<|some 2;have s2:=qR false C (some<|-1) none;have W:=qR false C none<|some<|-1;have ad:=uF (o:=true) (o':=true) (a:=yK C (some<|-1) none) (b:=yK C none<|some<|-1) (by have:=v9 C (some<|-1) none;have:=v9 C none<|some<|-1;lia);have f:RuleS C P O (.tup [.str [112,97,121],.str w]):=.two _ _ (by decide) (Jj rfl<|by decide) t<|.inl ⟨.inl rfl,e⟩;have e2:Yl [‹ns.map D.int›,some<|.int k,‹C.map D.str›,‹P.map D.str›,‹O.map D.str›,none,none,none]=_:=(sqE (ρ':=[‹ns.map D.int›,some<|.int k,‹C.map D.str›,‹P.map D.str›,‹O.map D.str›,some<|.int kd,none,none])<|by simp[B]).trans (sqE (ρ':=[‹ns.map D.int›,some<|.int k,‹C.map D.str›,‹P.map D.str›,‹O.map D.str›,some<|.int kd,some<|.str w,none])<|by simp[R,E]);show ∃ d,(Yl [‹ns.map D.int›,some<|.int k,‹C.map D.str›,‹P.map D.str›,‹O.map D.str›,none,none,none]).bind Out.val=some d/\_;rw[e2];by_cases c:kd<3
 ·exact⟨_,by simp(disch:=lia) [c,jb],f⟩
 by_cases g:kd=3
 ·by_cases Y:1<C.length
  ·have j:(1:Int)<(C.length:Int):=by lia
   have F:=jy (ns:=ns) (k:=k+2) (many:=2) ∅ ∅ (by decide);by_cases G:drw ns (k+2) 2=0
   ·refine⟨.tup [.str jI,.tup<|(yK C none<|some 2).map D.str],?_,.share _ (by have:=v9 C none<|some 2;lia) (λw h=>q w<|yx h) (λw h=>yx h)<|qY A⟩;simp(disch:=lia) [F,c,g,j,G,s1,jb]
   ·refine⟨.tup [.str jI,.tup<|(yK C (some<|-1) none++yK C none (some<|-1)).map D.str],?_,.share _ ?_ (λw h=>(N1.mp h).elim (λz=>q w<|yx z) (λz=>q w<|yx z)) (λw h=>(N1.mp h).elim yx yx)<|jc8 A⟩
    ·simp(disch:=lia) [F,c,g,j,G,s2,W,ad,jb,-List.map_append]
    ·have:=v9 C (some<|-1) none;have:=v9 C none<|some<|-1;rw[N3];lia
  ·have j:¬ (1:Int)<(C.length:Int):=by lia
   refine⟨_,?_,f⟩;simp(disch:=lia) [c,g,j,jb]
 by_cases m:kd=4
 ·refine⟨.tup [.str yd,.str w],?_,.two _ _ (by decide) (Jj rfl<|by decide) t<|.inl ⟨.inr<|.inl rfl,e⟩⟩;simp(disch:=lia) [c,g,m,jb]
 by_cases n:kd=5
 ·by_cases H:0<P.length
  ·have r:=jy (ns:=ns) (k:=k+2) (many:=(P.length:Int)) ∅ ∅ ∅;have u:=yg ns (k+2) (many:=(P.length:Int)) ∅;have v:=yn ns (k+2) (many:=(P.length:Int)) ∅;have s:=kY (o:=false) (l:=P) u v;refine⟨.tup [.str [102,105,108,108],.str<|P.getD (drw ns (k+2) (P.length:Int)).toNat []],?_,.two _ _ (by decide) (Jj rfl<|by decide) (N _<|yy ∅)<|.inr<|.inl ⟨rfl,yy ∅⟩⟩;simp(disch:=lia) [r,s,c,g,m,n,H,jb,-List.getD_eq_getElem?_getD]
  ·refine⟨_,?_,f⟩;simp(disch:=lia) [c,g,m,n,H,jb]
 have x:5<kd:=by lia
 by_cases y:0<O.length
 ·have r:=jy (ns:=ns) (k:=k+2) (many:=(O.length:Int)) ∅ ∅ ∅;have u:=yg ns (k+2) (many:=(O.length:Int)) ∅;have v:=yn ns (k+2) (many:=(O.length:Int)) ∅;have s:=kY (o:=false) (l:=O) u v;have p:Wd (O.getD (drw ns (k+2) (O.length:Int)).toNat []):=Q _<|yy ∅;have c1:=J5 (ns:=ns) (k:=k+3) ∅ ∅;by_cases I:kd=8
  ·refine⟨.tup [.str [98,97,99,107],.str<|O.getD (drw ns (k+2) (O.length:Int)).toNat []],?_,.two _ _ (by decide) (Jj rfl<|by decide) p<|.inr<|.inr ⟨rfl,yy ∅⟩⟩;simp(disch:=lia) [r,s,c,g,m,n,x,I,y,jb,-List.getD_eq_getElem?_getD]
  ·refine⟨.tup [.str [108,101,110,100],.str<|O.getD (drw ns (k+2) (O.length:Int)).toNat [],.int<|coi ns<|k+3],?_,.lend _ _ p<|yy ∅⟩;simp(disch:=lia) [r,s,c,g,m,n,x,I,y,c1,jb,-List.getD_eq_getElem?_getD]
 ·refine⟨_,?_,f⟩;simp(disch:=lia) [c,g,m,n,x,y,jb]
noncomputable abbrev W2:=List Nat×Int
noncomputable def e2(p:W2):D:=.tup [.str p.1,.int p.2]
def vg(l:List W2):fzs (l.map e2)=l.map e2:=J7 λd hd=>by
 obtain⟨p,_,rfl⟩:=M5.mp hd;rfl
def jF(l:List W2):frzs (l.map e2)=true:=yA λd hd=>by
 obtain⟨p,_,rfl⟩:=M5.mp hd;rfl
def YD{l:List W2}(h:∀ p∈l,Wd p.1)(n:Nat):yI (n+1) (l.map e2)=true:=vQ λd hd=>by
 obtain⟨p,a,rfl⟩:=M5.mp hd;show yI n [.str p.1,.int p.2]=true;simp[yI,jN (h p a).2]
structure OrdS where
 nm:List Nat
 parts:List W2
 rules:List D
def vG(o:Bool)(x:OrdS):D:=.tup [.str x.nm,.lst false<|x.parts.map e2,.lst o x.rules]
structure OrdOk(C P O:W4)(x:OrdS):Prop where
 nm:Wd x.nm
 parts:∀ p∈x.parts,Wd p.1/\1<=p.2/\p.2<=10
 plen:x.parts.length<=10
 rules:∀ d∈x.rules,RuleS C P O d
 len:x.rules.length<=10
 rest:∃ R w,x.rules=R++[.tup [.str Vh,.str w]]
def OrdOk.fzr(h:OrdOk C P O x):fzs x.rules=x.rules:=J7 λd hd=>(h.rules d hd).fz
def OrdOk.frzr(h:OrdOk C P O x):frzs x.rules=true:=yA λd hd=>(h.rules d hd).frz
def OrdOk.fz(h:OrdOk C P O x)(o:Bool):QD.fz (vG o x)=vG false x:=by
 simp[vG,h.fzr,vg]
def OrdOk.frz(h:OrdOk C P O x):QD.frz (vG false x)=true:=by
 simp[vG,h.frzr,jF]
def OrdOk.ok(h:OrdOk C P O x)(o:Bool)(n:Nat):okE (n+4) (vG o x)=true:=by
 show yI (n+3) [.str x.nm,.lst false<|x.parts.map e2,.lst o x.rules]=true;have a:okE (n+3) (.lst false<|x.parts.map e2)=true:=YD (λp c=>(h.parts p c).1)<|n+1;have b:okE (n+3) (.lst o x.rules)=true:=vQ λd hd=>(h.rules d hd).ok n;simp[yI,jN h.nm.2,a,b]
def jfZ{ns:List Int}{k:Int}{nm:List Nat}{C P O:W4}(h0:0<=k)(h1:k<=90000)(J:0<C.length)(m:C.length<=10)(n:P.length<=10)(q:O.length<=10)(K:Wd nm)(r:∀ w∈C,Wd w)(L:∀ w∈P,Wd w)(M:∀ w∈O,Wd w)(N:C.Nodup):
  ∃(x:OrdS),An3 (qh [.lst false<|ns.map D.int,.int k,.str nm,.lst false<|C.map D.str,.lst false<|P.map D.str,.lst false<|O.map D.str]=some (vG true x)) (x.nm=nm) (OrdOk C P O x):=by
 obtain⟨Q,T,e,⟨g,h,rfl⟩,s,R⟩:=kK (G:=gA2 7 8) (f:=vB) (λ(a:List W2) ρ=>∃ g h,ρ=[‹ns.map D.int›,some<|.int k,some<|.str nm,‹C.map D.str›,‹P.map D.str›,‹O.map D.str›,↑(a.map e2),g,h,none,none]) (λp=>Wd p.1/\1<=p.2/\p.2<=10) 1 100 (xs:=yc 0<|C.map D.str) (acc:=[]) (ρ:=[‹ns.map D.int›,some<|.int k,some<|.str nm,‹C.map D.str›,‹P.map D.str›,‹O.map D.str›,some<|.lst true [],none,none,none,none]) (by
  rintro x t a ρ S _ ⟨g,h,rfl⟩;obtain⟨i,c,rfl,V,W,X⟩:=zD t;have A:=jy (ns:=ns) (k:=k+(i:Int)) (many:=4) ∅ ∅ (by decide);have u:=jy (ns:=ns) (k:=k+5+(i:Int)) (many:=10) ∅ ∅ (by decide);by_cases B:drw ns (k+(i:Int)) 4=0
  ·refine⟨_,_,[(c,1+drw ns (k+5+(i:Int)) 10)],rfl,?_,by simp,by simpa using⟨r c X,by have:=yg ns (k+5+(i:Int)) (many:=10) (by decide);lia,by have:=yn ns (k+5+(i:Int)) (many:=10) (by decide);lia⟩,some<|.int i,some<|.str c,rfl⟩;simp(disch:=first | lia | (simp;done) | (simp;lia)) [vB,A,u,B,jb,e2]
  ·refine⟨_,_,[],rfl,?_,by simp,by simp,some<|.int i,some<|.str c,rfl⟩;simp(disch:=first | lia | (simp;done) | (simp;lia)) [vB,A,B,jb]) (by rw[vh,L1];simp;lia) (by simp) ⟨none,none,rfl⟩
 rw[X4] at e;have Y:=jy (ns:=ns) (k:=k+8) (many:=6) ∅ ∅ (by decide);have n1:=yg ns (k+8) (many:=6) (by decide);have n2:=yn ns (k+8) (many:=6) (by decide);obtain⟨Q,U,E,⟨v,rfl⟩,y,F⟩:=kK (G:=jd [] 7) (f:=kZ) (λ(a:List D) ρ=>∃ v,ρ=[‹ns.map D.int›,some<|.int k,some<|.str nm,‹C.map D.str›,‹P.map D.str›,‹O.map D.str›,↑(T.map e2),v,h,↑a,none]) (RuleS C P O) 1 100 (xs:=xv 0 (drw ns (k+8) 6).toNat) (acc:=[]) (ρ:=[‹ns.map D.int›,some<|.int k,some<|.str nm,‹C.map D.str›,‹P.map D.str›,‹O.map D.str›,↑(T.map e2),g,h,some<|.lst true [],none]) (by
  rintro x t a ρ S _ ⟨v,rfl⟩;obtain⟨i,hi,rfl⟩:=M5.mp t;have hi:=List.mem_range.mp hi;obtain⟨d,Z,hd⟩:=jho (ns:=ns) (k:=k+10+5*(0+(i:Int))) (C:=C) (P:=P) (O:=O) ∅ ∅ J m n q r L M N;refine⟨_,_,[d],rfl,?_,by simp,by simpa using hd,some<|.int<|0+(i:Int),rfl⟩;simp(disch:=first | lia | (simp;done) | (simp;lia)) [kZ,Z,yu,xW hd,jb,-Int.zero_add]) (by rw[qW];simp;lia) (by simp) ⟨g,rfl⟩
 rw[X4] at E;rw[qW] at y;have z:=YZ (j:=drw ns (k+8) 6) ∅ ∅;have u:=jy (ns:=ns) (k:=k+9) (many:=(C.length:Int)) ∅ ∅ ∅;have b1:=yg ns (k+9) (many:=(C.length:Int)) ∅;have b2:=yn ns (k+9) (many:=(C.length:Int)) ∅;have H:=kY (o:=false) (l:=C) b1 b2;have b:=yy (l:=C) (i:=(drw ns (k+9) (C.length:Int)).toNat) (d:=[]) ∅;have I:Wd (C.getD (drw ns (k+9) (C.length:Int)).toNat []):=r _ b;generalize C.getD (drw ns (k+9) (C.length:Int)).toNat []=w at H I b;have hf:frzs U=true:=yA λd hd=>(F d hd).frz;have ad:jg (.lst true U) (.lst true [.tup [.str [114,101,115,116],.str w]])=↑(U++[.tup [.str [114,101,115,116],.str w]]):=by
  show(bif lim (U.length+1)&&(frzs U&&frzs [.tup [.str [114,101,115,116],.str w]]) then _ else _)=_;rw[jb ∅,hf];rfl
 refine⟨⟨nm,T,U++[.tup [.str [114,101,115,116],.str w]]⟩,?_,rfl,⟨K,R,by rw[vh,L1] at s;show T.length<=10;lia,?_,by simp;lia,U,w,rfl⟩⟩
 ·simp(disch:=first | lia | (simp;done) | (simp;lia)) [qh,jH,Vm,e,Y,z,E,u,H,ad,jb,vG,vg,jF]
 ·intro d hd;rcases N1.mp hd with hd | hd
  ·exact F d hd
  ·rw[M7.mp hd];exact .two _ _ (by decide) (Jj rfl<|by decide) I<|.inl ⟨.inr<|.inr rfl,b⟩
section
variable {C P O:W4}
def jjn{a0 a1 o3 o4 o5:Option D}:∀{R:List D}{acc:W4}{o6:Option D},(∀ d∈R,RuleS C P O d)->acc.length+20*R.length<=5000 ->
  ∃(T:W4) (o6':Option D),jB (jd [] 6) yf R [a0,a1,↑(acc.map D.str),o3,o4,o5,o6]=some (.nx [a0,a1,↑((acc++T).map D.str),o3,o4,o5,o6'])/\T.length<=20*R.length:=by
 intro R acc o6 p l;obtain⟨y,T,e,⟨o6',rfl⟩,r,_⟩:=kK (G:=jd [] 6) (f:=yf) (λ(acc:W4) ρ=>∃ o6,ρ=[a0,a1,↑(acc.map D.str),o3,o4,o5,o6]) (λ_=>True) 20 5000 (xs:=R) (acc:=acc) (ρ:=[a0,a1,↑(acc.map D.str),o3,o4,o5,o6]) (by
  rintro x s acc ρ z _ ⟨o6,rfl⟩;have t:=p x s;cases t with
  | two kw w u A B n=>
   have j:(kw==jI)=false:=U1.mpr u;have g:jc (.tup [.str kw,.str w]) (.int 0)=some (.str kw):=rfl;have k:jc (.tup [.str kw,.str w]) (.int 1)=some (.str w):=rfl;by_cases q:kw=yd
   ·subst q;refine⟨_,_,[w],rfl,?_,by simp,by simp,some<|.tup [.str yd,.str w],rfl⟩;simp(disch:=first | lia | (simp;done) | (simp;lia)) [yf,g,k,j,jb]
   ·have m:(kw==yd)=false:=U1.mpr q;refine⟨_,_,[],rfl,?_,by simp,by simp,some<|.tup [.str kw,.str w],rfl⟩;simp(disch:=first | lia | (simp;done) | (simp;lia)) [yf,g,k,j,m,jb]
  | share c l h n nd=>
   have g:jc (.tup [.str jI,.tup<|c.map D.str]) (.int 0)=some (.str jI):=rfl;have k:jc (.tup [.str jI,.tup<|c.map D.str]) (.int 1)=some (.tup<|c.map D.str):=rfl;have v:xz [.tup<|c.map D.str]=↑(c.map D.str):=by
    show(bif frzs (c.map D.str) then _ else _)=_;rw[yH];rfl
   have ad:=uF (o:=true) (o':=true) (a:=acc) (b:=c) ∅;have m:(jI==yd)=false:=by decide
   refine⟨_,_,c,rfl,?_,l,by simp,some<|.tup [.str jI,.tup<|c.map D.str],rfl⟩;simp(disch:=first | lia | (simp;done) | (simp;lia)) [yf,g,k,v,ad,m,jb,-List.map_append]
  | lend w i h n=>
   have g:jc (.tup [.str [108,101,110,100],.str w,.int i]) (.int 0)=some (.str [108,101,110,100]):=rfl;refine⟨_,_,[],rfl,?_,by simp,by simp,some<|.tup [.str [108,101,110,100],.str w,.int i],rfl⟩;simp(disch:=first | lia | (simp;done) | (simp;lia)) [yf,g,jb]) l (by simp) ⟨o6,rfl⟩
 exact⟨T,o6',e,r⟩
def Y8{os:List OrdS}(h:∀ x∈os,OrdOk C P O x)(o:Bool):fzs (os.map<|vG o)=os.map (vG false):=by
 rw[qJ,U0];exact List.map_congr_left λx a=>(h x a).fz o
def J4{os:List OrdS}(h:∀ x∈os,OrdOk C P O x):frzs (os.map<|vG false)=true:=yA λd hd=>by
 obtain⟨x,a,rfl⟩:=M5.mp hd;exact(h x a).frz
def jiO{os:List OrdS}(j:∀ x∈os,OrdOk C P O x)(u:os.length<=10)(q:C.length<=10):∃(F:W4),An3 (Jl [.lst false<|os.map<|vG false,.lst false<|C.map D.str]=↑(F.map D.str)) (∀ w∈F,w∈C) (F.length<=10):=by
 obtain⟨v,T,e,⟨d,g,h,b,rfl⟩,z,_⟩:=kK (G:=gA3 3 4 5) (f:=v8) (λ(a:W4) ρ=>∃ d g h b,ρ=[‹os.map (vG false)›,‹C.map D.str›,↑(a.map D.str),d,g,h,b]) (λ_=>True) 200 4000 (xs:=os.map<|vG false) (acc:=[]) (ρ:=[‹os.map (vG false)›,‹C.map D.str›,some<|.lst true [],none,none,none,none]) (by
  rintro x m a ρ A _ ⟨d,g,h,b,rfl⟩;obtain⟨y,r,rfl⟩:=M5.mp m;have i:=j y r;have n:=i.len;obtain⟨U,k,s,B⟩:=jjn (a0:=‹os.map (vG false)›) (a1:=‹C.map D.str›) (o3:=some<|.str y.nm) (o4:=‹y.parts.map e2›) (o5:=‹y.rules›) (R:=y.rules) (acc:=a) (o6:=b) i.rules ∅;refine⟨_,_,U,rfl,?_,by lia,by simp,some<|.str y.nm,‹y.parts.map e2›,‹y.rules›,k,rfl⟩;show v8 [‹os.map (vG false)›,‹C.map D.str›,↑(a.map D.str),some<|.str y.nm,‹y.parts.map e2›,‹y.rules›,b]=_;simp only[v8,qu,pIt,pF,pVs,pV0,L4,jhi,i.frzr,Bool.not_false,Bool.and_self,cond_true,wD,i.fzr,s]) (by rw[L1];simp;lia) (by simp) ⟨none,none,none,none,rfl⟩
 rw[X4] at e;have p:jS (jd [] 0) (jj<|p2 (Y2 true) (pV 0)<|pV 1) (pF<|pV 0) (C.map D.str) (jr [none,some 2] [‹os.map (vG false)›,‹C.map D.str›,↑(T.map D.str),d,g,h,b])=some ((C.filter λc=>(true != decide (c∈T))).map D.str):=by
  refine Yv (λρ=>∃ o,ρ=[o,↑(T.map D.str)]) ?_ ⟨none,rfl⟩;rintro x m ρ ⟨o,rfl⟩;refine⟨[some<|.str x,↑(T.map D.str)],rfl,?_,by simp,some<|.str x,rfl⟩;have:=Ym true true x T;simp only[jj,p2,pV0,pVs,L4,this,jiS]
 refine⟨C.filter λc=>(true != decide (c∈T)),?_,λw t=>(List.mem_filter.mp t).1,N6 (List.length_filter_le _ _) q⟩;have l:lim C.length=true:=jb ∅;generalize(C.filter λc=>(true != decide (c∈T)))=F at p;simp(disch:=first | lia | (simp;done) | (simp;lia)) [Jl,jH,Kz,J4 j,Y8 j,e,jb,p,l,-jj]
end
noncomputable abbrev W3:=List Nat×Int×Int
noncomputable def e3(p:W3):D:=.tup [.str p.1,.int p.2.1,.int p.2.2]
noncomputable abbrev WL:=List Nat×Int×List Nat
noncomputable def eL(p:WL):D:=.tup [.str p.1,.int p.2.1,.str p.2.2]
noncomputable abbrev WG:=List Nat×List Nat
noncomputable def eG(p:WG):D:=.tup [.str p.1,.str p.2]
def xy(l:List W3):fzs (l.map e3)=l.map e3:=J7 λd hd=>by obtain⟨p,_,rfl⟩:=M5.mp hd;rfl
def qU(l:List W3):frzs (l.map e3)=true:=yA λd hd=>by obtain⟨p,_,rfl⟩:=M5.mp hd;rfl
def KG(l:List WL):fzs (l.map eL)=l.map eL:=J7 λd hd=>by obtain⟨p,_,rfl⟩:=M5.mp hd;rfl
def JC(l:List WL):frzs (l.map eL)=true:=yA λd hd=>by obtain⟨p,_,rfl⟩:=M5.mp hd;rfl
def jdD(l:List WG):fzs (l.map eG)=l.map eG:=J7 λd hd=>by obtain⟨p,_,rfl⟩:=M5.mp hd;rfl
def Vb(l:List WG):frzs (l.map eG)=true:=yA λd hd=>by obtain⟨p,_,rfl⟩:=M5.mp hd;rfl
def jjl{l:List W3}(h:∀ p∈l,Wd p.1)(n:Nat):yI (n+1) (l.map e3)=true:=vQ λd hd=>by
 obtain⟨p,a,rfl⟩:=M5.mp hd;show yI n [.str p.1,.int p.2.1,.int p.2.2]=true;simp[yI,jN (h p a).2]
def jiA{l:List WL}(h:∀ p∈l,Wd p.1/\Wd p.2.2)(n:Nat):yI (n+1) (l.map eL)=true:=vQ λd hd=>by
 obtain⟨p,a,rfl⟩:=M5.mp hd;show yI n [.str p.1,.int p.2.1,.str p.2.2]=true;simp[yI,jN (h p a).1.2,jN (h p a).2.2]
def jil{l:List WG}(h:∀ p∈l,Wd p.1/\Wd p.2)(n:Nat):yI (n+1) (l.map eG)=true:=vQ λd hd=>by
 obtain⟨p,a,rfl⟩:=M5.mp hd;show yI n [.str p.1,.str p.2]=true;simp[yI,jN (h p a).1.2,jN (h p a).2.2]
structure PoolS where
 nm:List Nat
 told:List W3
 marks:List W2
 eats:List (List Nat)
 orders:List OrdS
 looks:List WL
 guards:List WG
def jR(o:Bool)(p:PoolS):D:=.tup [.str p.nm,.lst false<|p.told.map e3,.lst false<|p.marks.map e2,.lst o<|p.eats.map D.str,.lst false<|p.orders.map<|vG false,.lst false<|p.looks.map eL,.lst false<|p.guards.map eG]
structure PoolOk(O:W4)(p:PoolS):Prop where
 nm:Wd p.nm
 told:∀ c∈p.told,Wd c.1/\1<=c.2.1/\c.2.1<=10 ^ 12/\1<=c.2.2/\c.2.2<=10 ^ 12
 toldn:(p.told.map (·.1)).Nodup
 told1:0<p.told.length
 told2:p.told.length<=10
 marks:∀ c∈p.marks,Wd c.1/\1<=c.2/\c.2<=10 ^ 12
 marksn:(p.marks.map (·.1)).Nodup
 marks2:p.marks.length<=10
 eats:∀ w∈p.eats,Wd w
 eatsm:∀ w∈p.eats,w∈p.told.map (·.1)
 eatsn:p.eats.Nodup
 eats2:p.eats.length<=10
 orders:∀ x∈p.orders,OrdOk (p.told.map (·.1)) (p.marks.map (·.1)) O x
 ordn:(p.orders.map (·.nm)).Nodup
 orders1:0<p.orders.length
 orders2:p.orders.length<=10
 looks:∀ x∈p.looks,x.1∈p.told.map (·.1)/\Wd x.1/\Wd x.2.2
 looksm:∀ x∈p.looks,x.2.2∈p.orders.map (·.nm)
 looks2:p.looks.length<=10
 guards:∀ x∈p.guards,Wd x.1/\Wd x.2/\x.1∈p.marks.map (·.1)/\x.2∈p.told.map (·.1)
 guards2:p.guards.length<=10
section
variable {O:W4}
def PoolOk.fz{p:PoolS}(h:PoolOk O p)(o:Bool):QD.fz (jR o p)=jR false p:=by
 simp[jR,xy,vg,Y8 h.orders,KG,jdD]
def PoolOk.frz{p:PoolS}(h:PoolOk O p):QD.frz (jR false p)=true:=by
 simp[jR,qU,jF,J4 h.orders,JC,Vb]
def PoolOk.ok{p:PoolS}(h:PoolOk O p)(o:Bool)(n:Nat):okE (n+6) (jR o p)=true:=by
 show yI (n+5) [.str p.nm,.lst false<|p.told.map e3,.lst false<|p.marks.map e2,.lst o<|p.eats.map D.str,.lst false<|p.orders.map<|vG false,.lst false<|p.looks.map eL,.lst false<|p.guards.map eG]=true;have a:okE (n+5) (.lst false<|p.told.map e3)=true:=jjl (λq g=>(h.told q g).1)<|n+3;have b:okE (n+5) (.lst false<|p.marks.map e2)=true:=YD (λq g=>(h.marks q g).1)<|n+3;have c:okE (n+5) (.lst o<|p.eats.map D.str)=true:=V7 h.eats;have d:okE (n+5) (.lst false<|p.orders.map<|vG false)=true:=vQ λd hd=>by
  obtain⟨x,i,rfl⟩:=M5.mp hd;exact(h.orders x i).ok false n
 have e:okE (n+5) (.lst false<|p.looks.map eL)=true:=jiA (λq g=>(h.looks q g).2)<|n+3;have f:okE (n+5) (.lst false<|p.guards.map eG)=true:=jil (λq g=>⟨(h.guards q g).1,(h.guards q g).2.1⟩)<|n+3;simp[yI,jN h.nm.2,a,b,c,d,e,f]
end
section pool
variable {ns:List Int}{k:Int}{nm:List Nat}{C P O:W4}
noncomputable abbrev hdr(ns:List Int)(k:Int)(nm:List Nat)(C P O:W4)(r:Rh):Rh:=‹ns.map D.int›::some (.int k)::some (.str nm)::‹C.map D.str›::‹P.map D.str›::‹O.map D.str›::r
def jbS(m:0<=k)(h1:k<=1000)(b:C.length<=10)(d:∀ w∈C,Wd w):Ex3 λ(T:List W3) (o7 o8:Option D)=>An3 (jB (gA2 7 8) vZ (yc 0<|C.map D.str) (hdr ns k nm C P O [some<|.lst true [],none,none,none,none,none,none,none,none,none,none])=some (.nx<|hdr ns k nm C P O [↑(T.map e3),o7,o8,none,none,none,none,none,none,none,none])) (T.map (·.1)=C) (∀ c∈T,Wd c.1/\1<=c.2.1/\c.2.1<=10 ^ 12/\1<=c.2.2/\c.2.2<=10 ^ 12):=by
 obtain⟨n,T,e,⟨o7,o8,rfl⟩,g,h⟩:=jar (G:=gA2 7 8) (f:=vZ) (λ(a:List W3) ρ=>∃ o7 o8,ρ=hdr ns k nm C P O [↑(a.map e3),o7,o8,none,none,none,none,none,none,none,none]) (λc=>Wd c.1/\1<=c.2.1/\c.2.1<=10 ^ 12/\1<=c.2.2/\c.2.2<=10 ^ 12) (·.1) 20 (C:=C) (s:=0) (acc:=[]) (ρ:=hdr ns k nm C P O [some<|.lst true [],none,none,none,none,none,none,none,none,none,none]) (by
  rintro i c a ρ hi j o ⟨o7,o8,rfl⟩;have c1:=J5 (ns:=ns) (k:=k+20+(i:Int)) ∅ ∅;have l:=J5 (ns:=ns) (k:=k+24+(i:Int)) ∅ ∅;refine⟨_,_,(c,coi ns<|k+20+(i:Int),coi ns<|k+24+(i:Int)),rfl,?_,rfl,⟨d c j,Qw _ _,uI _ _,Qw _ _,uI _ _⟩,some<|.int i,some<|.str c,rfl⟩;simp(disch:=first | lia | (simp;done) | (simp;lia)) [vZ,c1,l,jb,e3]) ∅ (by simp;lia) ⟨none,none,rfl⟩
 exact⟨T,o7,o8,e,g,h⟩
def jc3{a6 o7 o8:Option D}{N:W4}(v:0<=k)(h1:k<=1000)(j:0<C.length)(b:C.length<=10)(d:P.length<=10)(g:O.length<=10)(l:∀ w∈C,Wd w)(m:∀ w∈P,Wd w)(n:∀ w∈O,Wd w)(y:N.length<=10)(o:∀ w∈N,Wd w)(p:C.Nodup):
  Ex3 λ(T:List OrdS) (o7' o11:Option D)=>An3 (jB (gA2 7 11) kg (yc 0<|N.map D.str) (hdr ns k nm C P O [a6,o7,o8,‹N.map D.str›,some<|.lst true [],none,none,none,none,none,none])=some (.nx<|hdr ns k nm C P O [a6,o7',o8,‹N.map D.str›,↑(T.map<|vG true),o11,none,none,none,none,none])) (T.map (·.nm)=N) (∀ c∈T,OrdOk C P O c):=by
 obtain⟨z,T,e,⟨o7,o8,rfl⟩,q,r⟩:=jar (G:=gA2 7 11) (f:=kg) (λ(a:List OrdS) ρ=>∃ o7 o11,ρ=hdr ns k nm C P O [a6,o7,o8,‹N.map D.str›,↑(a.map<|vG true),o11,none,none,none,none,none]) (OrdOk C P O) (·.nm) 20 (C:=N) (s:=0) (acc:=[]) (ρ:=hdr ns k nm C P O [a6,o7,o8,‹N.map D.str›,some<|.lst true [],none,none,none,none,none,none]) (by
  rintro i c a ρ hi t A ⟨o7,o11,rfl⟩;obtain⟨x,ex,u,h⟩:=jfZ (ns:=ns) (k:=k+60*(i:Int)+30) (nm:=c) (C:=C) (P:=P) (O:=O) ∅ ∅ j b d g (o c t) l m n p;refine⟨_,_,x,rfl,?_,u,h,some<|.int i,some<|.str c,rfl⟩;simp(disch:=first | lia | (simp;done) | (simp;lia)) [kg,ex,yu,jb]) ∅ (by simp;lia) ⟨o7,none,rfl⟩
 exact⟨T,o7,o8,e,q,r⟩
def jaW{a6 o7 o8 a10 o11:Option D}{N:W4}(F:0<=k)(h1:k<=1000)(H:0<C.length)(j:C.length<=10)(m:∀ w∈C,Wd w)(I:0<N.length)(n:N.length<=10)(p:∀ w∈N,Wd w):
  Ex4 λ(T:List WL) (o7' o8' o13:Option D)=>An3 (jB (jd [] 7) v5 (xv 0 (drw ns (k+2) 3).toNat) (hdr ns k nm C P O [a6,o7,o8,‹N.map D.str›,a10,o11,some<|.lst true [],none,none,none,none])=some (.nx<|hdr ns k nm C P O [a6,o7',o8',‹N.map D.str›,a10,o11,↑(T.map eL),o13,none,none,none])) (∀ x∈T,x.1∈C/\Wd x.1/\Wd x.2.2/\x.2.2∈N) (T.length<=10):=by
 have J:=yg ns (k+2) (many:=3) (by decide);have K:=yn ns (k+2) (many:=3) (by decide);obtain⟨L,T,e,⟨o7,o8,o13,rfl⟩,q,r⟩:=kK (G:=jd [] 7) (f:=v5) (λ(a:List WL) ρ=>∃ o7 o8 o13,ρ=hdr ns k nm C P O [a6,o7,o8,‹N.map D.str›,a10,o11,↑(a.map eL),o13,none,none,none]) (λx=>x.1∈C/\Wd x.1/\Wd x.2.2/\x.2.2∈N) 1 20 (xs:=xv 0 (drw ns (k+2) 3).toNat) (acc:=[]) (ρ:=hdr ns k nm C P O [a6,o7,o8,‹N.map D.str›,a10,o11,some<|.lst true [],none,none,none,none]) (by
  rintro x s a ρ M _ ⟨o7,o8,o13,rfl⟩;obtain⟨i,hi,rfl⟩:=M5.mp s;have hi:=List.mem_range.mp hi;have t:=jy (ns:=ns) (k:=k+3+(0+(i:Int))) (many:=(C.length:Int)) ∅ ∅ ∅;have u:=yg ns (k+3+(0+(i:Int))) (many:=(C.length:Int)) ∅;have y:=yn ns (k+3+(0+(i:Int))) (many:=(C.length:Int)) ∅;have g:=kY (o:=false) (l:=C) u y;have b:=yy (l:=C) (i:=(drw ns (k+3+(0+(i:Int))) (C.length:Int)).toNat) (d:=[]) ∅;generalize C.getD (drw ns (k+3+(0+(i:Int))) (C.length:Int)).toNat []=w at g b;have z:=jy (ns:=ns) (k:=k+5+(0+(i:Int))) (many:=(N.length:Int)) ∅ ∅ ∅;have A:=yg ns (k+5+(0+(i:Int))) (many:=(N.length:Int)) ∅;have B:=yn ns (k+5+(0+(i:Int))) (many:=(N.length:Int)) ∅;have h:=kY (o:=false) (l:=N) A B;have c:=yy (l:=N) (i:=(drw ns (k+5+(0+(i:Int))) (N.length:Int)).toNat) (d:=[]) ∅;generalize N.getD (drw ns (k+5+(0+(i:Int))) (N.length:Int)).toNat []=v at h c;have E:=jy (ns:=ns) (k:=k+7+(0+(i:Int))) (many:=3) ∅ ∅ (by decide);refine⟨_,_,[(w,1+drw ns (k+7+(0+(i:Int))) 3,v)],rfl,?_,by simp,by simpa using⟨b,m w b,p v c,c⟩,some<|.int<|0+(i:Int),some<|.str w,some<|.str v,rfl⟩;simp(disch:=first | lia | (simp;done) | (simp;lia)) [v5,t,z,E,g,h,jb,eL,-Int.zero_add]) (by rw[qW];simp;lia) (by simp) ⟨o7,o8,none,rfl⟩
 rw[qW] at q;exact⟨T,o7,o8,o13,e,r,by lia⟩
def um{a6 o7 o8 a9 a10 o11 a12 o13 a14:Option D}{F:W4}(A:0<=k)(h1:k<=1000)(m:P.length<=10)(n:∀ w∈P,Wd w)(B:F.length<=10)(p:∀ w∈F,Wd w):
  Ex3 λ(T:List WG) (o7' o8':Option D)=>An3 (jB (gA2 7 8) vj (yc 0<|F.map D.str) (hdr ns k nm C P O [a6,o7,o8,a9,a10,o11,a12,o13,a14,some<|.lst true [],none])=some (.nx<|hdr ns k nm C P O [a6,o7',o8',a9,a10,o11,a12,o13,a14,↑(T.map eG),none])) (∀ x∈T,(Wd x.1/\Wd x.2)/\x.1∈P/\x.2∈F) (T.length<=10):=by
 obtain⟨E,T,e,⟨o7,o8,rfl⟩,q,r⟩:=kK (G:=gA2 7 8) (f:=vj) (λ(a:List WG) ρ=>∃ o7 o8,ρ=hdr ns k nm C P O [a6,o7,o8,a9,a10,o11,a12,o13,a14,↑(a.map eG),none]) (λx=>(Wd x.1/\Wd x.2)/\x.1∈P/\x.2∈F) 1 20 (xs:=yc 0<|F.map D.str) (acc:=[]) (ρ:=hdr ns k nm C P O [a6,o7,o8,a9,a10,o11,a12,o13,a14,some<|.lst true [],none]) (by
  rintro x s a ρ H _ ⟨o7,o8,rfl⟩;obtain⟨i,c,rfl,t,u,g⟩:=zD s;by_cases h:0<P.length
  ·have v:=jy (ns:=ns) (k:=k+11+(i:Int)) (many:=(P.length:Int)) ∅ ∅ ∅;have y:=yg ns (k+11+(i:Int)) (many:=(P.length:Int)) ∅;have z:=yn ns (k+11+(i:Int)) (many:=(P.length:Int)) ∅;have j:=kY (o:=false) (l:=P) y z;have b:=yy (l:=P) (i:=(drw ns (k+11+(i:Int)) (P.length:Int)).toNat) (d:=[]) ∅;generalize P.getD (drw ns (k+11+(i:Int)) (P.length:Int)).toNat []=w at j b;refine⟨_,_,[(w,c)],rfl,?_,by simp,by simpa using⟨⟨n w b,p c g⟩,b,g⟩,some<|.int i,some<|.str c,rfl⟩;simp(disch:=first | lia | (simp;done) | (simp;lia)) [vj,v,j,h,jb,eG]
  ·refine⟨_,_,[],rfl,?_,by simp,by simp,some<|.int i,some<|.str c,rfl⟩;simp(disch:=first | lia | (simp;done) | (simp;lia)) [vj,h,jb]) (by rw[vh,L1];simp;lia) (by simp) ⟨o7,o8,rfl⟩
 rw[vh,L1] at q;exact⟨T,o7,o8,e,r,by lia⟩
theorem jai(b:0<=k)(h1:k<=1000):∀{Q:W4}{s:Nat}{o o':Option D},(∀ w∈Q,Wd w)->s+Q.length<=20 ->
  ∃(M:List W2),An3 (jS (gA2 0 1) qT (jV #[pF<|pV 1,jl jA #[pV 2,p2 jg (p2 jg (pV 3)<|pI 16)<|pV 0]]) (yc s<|Q.map D.str) [o,o',‹ns.map D.int›,some<|.int k]=some (M.map e2)) (M.map (·.1)=Q)<|∀ c∈M,Wd c.1/\1<=c.2/\c.2<=10 ^ 12
 | [],s,o,o',_,_=>⟨[],rfl,rfl,by simp⟩
 | c::Q,s,o,o',a,f=>by
  rw[M1] at f;obtain⟨M,e,g,i⟩:=jai b h1 (Q:=Q) (s:=s+1) (o:=some<|.int s) (o':=some<|.str c) (λw h=>a w<|by simp[h]) ∅;have c1:=J5 (ns:=ns) (k:=k+16+(s:Int)) ∅ ∅;have j:(jV #[pF<|pV 1,jl jA #[pV 2,p2 jg (p2 jg (pV 3)<|pI 16)<|pV 0]]) [some<|.int s,some<|.str c,‹ns.map D.int›,some<|.int k]=some (e2 (c,coi ns<|k+16+(s:Int))):=by
   simp(disch:=first | lia | (simp;done) | (simp;lia)) [c1,jb,e2]
  refine⟨(c,coi ns<|k+16+(s:Int))::M,?_,by rw[L5,g],λd hd=>(M4.mp hd).elim (λz=>z▸⟨a c<|by simp,Qw _ _,uI _ _⟩) (i d)⟩;rw[L5,yc,cpE ?_ j,e];rfl;rfl
def jbo{r:Rh}(a:0<=k)(h1:k<=1000)(b:P.length<=10)(d:∀ w∈P,Wd w):
  ∃(M:List W2),An3 (jS (gA2 0 1) qT (jV #[pF<|pV 1,jl jA #[pV 2,p2 jg (p2 jg (pV 3)<|pI 16)<|pV 0]]) (yc 0<|P.map D.str) (jr [none,none,some 0,some 1]<|hdr ns k nm C P O r)=some (M.map e2)) (M.map (·.1)=P) (∀ c∈M,Wd c.1/\1<=c.2/\c.2<=10 ^ 12):=
 jai (ns:=ns) (k:=k) a h1 (Q:=P) (s:=0) (o:=none) (o':=none) d ∅
def jjR(i:0<=k)(h1:k<=1000)(K:0<C.length)(a:C.length<=10)(d:P.length<=10)(y:O.length<=10)(Y:Wd nm)(l:∀ w∈C,Wd w)(z:∀ w∈P,Wd w)(Z:∀ w∈O,Wd w)(A:C.Nodup)(nP:P.Nodup):
  ∃(p:PoolS),An4 (Jn [.lst false<|ns.map D.int,.int k,.str nm,.lst false<|C.map D.str,.lst false<|P.map D.str,.lst false<|O.map D.str]=some (jR true p)) (PoolOk O p) (p.nm=nm) (p.marks.map (·.1)=P):=by
 obtain⟨T,t,m,eT,e,kT⟩:=jbS (ns:=ns) (nm:=nm) (P:=P) (O:=O) i h1 a l;have d1:=jy (ns:=ns) (k:=k+1) (many:=3) ∅ ∅ (by decide);have b1:=yg ns (k+1) (many:=3) (by decide);have b2:=yn ns (k+1) (many:=3) (by decide);have Q:jej none (some<|1+drw ns (k+1) 3) (.lst true [.str [98,98],.str [99,107],.str [100,100]])=↑((yK [[98,98],[99,107],[100,100]] none<|some<|1+drw ns (k+1) 3).map D.str):=qR true [[98,98],[99,107],[100,100]] none _;have R:0<(yK [[98,98],[99,107],[100,100]] none<|some<|1+drw ns (k+1) 3).length:=by
  rw[uZ _ ∅,X6];simp only[M1,List.length_nil];lia
 have f:(yK [[98,98],[99,107],[100,100]] none<|some<|1+drw ns (k+1) 3).length<=10:=N6 (v9 _ _ _) (by decide);have B:∀ w∈yK [[98,98],[99,107],[100,100]] none (some<|1+drw ns (k+1) 3),Wd w:=by
  intro w g;have:=yx g;simp only[M4,List.not_mem_nil,or_false] at this;rcases this with rfl | rfl | rfl<;>exact Jj rfl (by decide)
 have U:(yK [[98,98],[99,107],[100,100]] none<|some<|1+drw ns (k+1) 3).Nodup:=qY (by decide);generalize yK [[98,98],[99,107],[100,100]] none (some<|1+drw ns (k+1) 3)=N at Q R f B U;obtain⟨os,E,b,V,H,u⟩:=jc3 (ns:=ns) (nm:=nm) (a6:=↑(T.map e3)) (o7:=t) (o8:=m) (N:=N) i h1 K a d y l z Z f B A;have lO:os.length=N.length:=by rw[<- H,L1]
 have d2:=jy (ns:=ns) (k:=k+2) (many:=3) ∅ ∅ (by decide);have c1:=yg ns (k+2) (many:=3) (by decide);have c2:=yn ns (k+2) (many:=3) (by decide);have I:=YZ (j:=drw ns (k+2) 3) ∅ ∅;obtain⟨L,p7,p8,h,n,kL,lL⟩:=jaW (ns:=ns) (nm:=nm) (P:=P) (O:=O) (a6:=↑(T.map e3)) (o7:=E) (o8:=m) (a10:=↑(os.map<|vG true)) (o11:=b) (N:=N) i h1 K a l R f B;obtain⟨F,eF,W,lF⟩:=jiO (os:=os) (C:=C) u ∅ a;have d3:=jy (ns:=ns) (k:=k+10) (many:=4) ∅ ∅ (by decide);have sF:=qR true F none<|some<|drw ns (k+10) 4;obtain⟨G,q7,q8,o,v,lG⟩:=um (ns:=ns) (nm:=nm) (C:=C) (P:=P) (O:=O) (a6:=↑(T.map e3)) (o7:=p7) (o8:=p8) (a9:=‹N.map D.str›) (a10:=↑(os.map<|vG true)) (o11:=b) (a12:=↑(L.map eL)) (o13:=h) (a14:=↑(F.map D.str)) (F:=yK F none<|some<|drw ns (k+10) 4) i h1 d z (N6 (v9 _ _ _) lF)<|λw g=>l w<|W w<|yx g;obtain⟨M,eM,q,kM⟩:=jbo (ns:=ns) (k:=k) (nm:=nm) (C:=C) (P:=P) (O:=O) (r:=[↑(T.map e3),q7,q8,‹N.map D.str›,↑(os.map<|vG true),b,↑(L.map eL),h,↑(F.map D.str),↑(G.map eG),none]) i h1 d z;obtain⟨S,X,kS,nS,lS⟩:=ji8 (ns:=ns) (k:=k+13) (C:=C) ∅ ∅ a A;have lT:T.length=C.length:=by rw[<- e,L1]
 have fO:=Y8 u true;have s:=J4 u;have J:lim (yc 0<|P.map D.str).length=true:=jb (by rw[vh,L1];lia);have lM:M.length=P.length:=by rw[<- q,L1]
 have hTC:T.map (·.1)=C:=e;refine⟨⟨nm,T,M,S,os,L,G⟩,?_,{nm:=Y,told:=kT,toldn:=?_,told1:=?_,told2:=?_,marks:=kM,marksn:=?_,marks2:=?_,eats:=λw g=>l w<|kS w g,eatsm:=?_,eatsn:=nS,eats2:=lS,orders:=?_,ordn:=?_,orders1:=?_,orders2:=?_,looks:=?_,looksm:=?_,looks2:=lL,guards:=?_,guards2:=lG},rfl,q⟩
 rotate_left
 ·show(T.map (·.1)).Nodup;rw[e];exact A
 ·show 0<T.length;lia
 ·show T.length<=10;lia
 ·show(M.map (·.1)).Nodup;rw[q];exact nP
 ·show M.length<=10;lia
 ·intro w g;show w∈T.map (·.1);rw[e];exact kS w g
 ·show ∀ x∈os,OrdOk (T.map (·.1)) (M.map (·.1)) O x;rw[e,q];exact u
 ·show(os.map (·.nm)).Nodup;rw[H];exact U
 ·show 0<os.length;lia
 ·show os.length<=10;lia
 ·intro x c;refine⟨?_,(kL x c).2.1,(kL x c).2.2.1⟩;show x.1∈T.map (·.1);rw[e];exact(kL x c).1
 ·intro x c;show x.2.2∈os.map (·.nm);rw[H];exact(kL x c).2.2.2
 ·intro x c;refine⟨(v x c).1.1,(v x c).1.2,?_,?_⟩
  ·show x.1∈M.map (·.1);rw[q];exact(v x c).2.1
  ·show x.2∈T.map (·.1);rw[e];exact W _<|yx (v x c).2.2
 simp only[hdr] at eT V n o eM;simp(disch:=first | lia | (simp;done) | (simp;lia)) [Jn,jH,KO,eT,d1,Q,V,d2,I,n,fO,s,eF,d3,sF,o,J,eM,X,jb,jR,xy,qU,vg,jF,KG,JC,jdD,Vb,-jV];simp(disch:=first | lia | (simp;done) | (simp;lia)) [X,s,jb,qU,jF,JC,Vb]
end pool
def jk0{l:List α}{i}(h:i<l.length):atI l (i:Int)=l[i]?:=by
 unfold atI ixN;simp
def jm7(h:i<n):ixN n (i:Int)=some i:=by
 unfold ixN;rw[if_pos ∅,if_pos ∅];simp
noncomputable def low(c T n:Int):Int:=c*n/T
def Ka(c T:Int):List Int->Int->List Int×Int
 | [],left=>([],left)
 | n::ns,left=>if 0<left/\low c T n<n then((low c T n+1)::(Ka c T ns<|left-1).1,(Ka c T ns<|left-1).2) else(low c T n::(Ka c T ns left).1,(Ka c T ns left).2)
theorem Qh(c T):∀ ns left,(Ka c T ns left).1.length=ns.length
 | [],_=>rfl
 | n::ns,left=>by
  rw[Ka];split
  ·simp[Qh c T ns]
  ·simp[Qh c T ns]
def wY{a b w}{L}{g n left}{i:Nat}(d:atI L (i:Int)=some (.int g))(e:ixN L.length (i:Int)=some i)(c:L[i]?=some (.int g)):
  Ji [a,b,w,↑L,some<|.int left,some<|.int i,some<|.int n] =
   some (.nx<|if 0<left/\g<n then [a,b,w,↑(L.set i<|.int<|g+1),some<|.int<|left-1,some<|.int i,some<|.int n] else [a,b,w,↑L,some<|.int left,some<|.int i,some<|.int n]):=by
 by_cases f:0<left<;>by_cases h:g<n<;>simp[Ji,jc,d,f,h,e,c]
def wM(a b w)(c T):∀ ns pre left o5 o6,
  ∃ o5' o6',jB (gA2 5 6) Ji (yc pre.length<|ns.map D.int) [a,b,w,↑((pre++ns.map (low c T)).map D.int),some<|.int left,o5,o6] =
   some (.nx [a,b,w,↑((pre++(Ka c T ns left).1).map D.int),some<|.int (Ka c T ns left).2,o5',o6']):=by
 intro ns
 induction ns with
 | nil=>
  intro pre left o5 o6;exact⟨o5,o6,by simp[yc,Ka]⟩
 | cons n ns k=>
  intro pre left o5 o6;have d:=wY (a:=a) (b:=b) (w:=w) (L:=(pre++low c T n::ns.map (low c T)).map D.int) (g:=low c T n) (n:=n) (left:=left) (i:=pre.length)
   (by rw[jk0<|by simp];simp) (jm7<|by simp) (by simp)
  have f:((pre++low c T n::ns.map (low c T)).map D.int).set pre.length (D.int<|low c T n+1)=(pre++(low c T n+1)::ns.map (low c T)).map D.int:=by simp
  rw[f] at d;have l:(gA2 5 6) (.tup [.int pre.length,.int n]) [a,b,w,↑((pre++low c T n::ns.map (low c T)).map D.int),some<|.int left,o5,o6]=some [a,b,w,↑((pre++low c T n::ns.map (low c T)).map D.int),some<|.int left,some<|.int pre.length,some<|.int n]:=rfl;rw[L5,yc,ya,L5,l,L4,d,L4,VJ];by_cases h:0<left/\low c T n<n
  ·obtain⟨o5',o6',e⟩:=k (pre++[low c T n+1]) (left-1) (some<|.int pre.length)<|some<|.int n;refine⟨o5',o6',?_⟩;have j:(pre++[low c T n+1]).length=pre.length+1:=by simp
   rw[j] at e;rw[Ka,if_pos h,if_pos h];simp only[List.append_assoc] at e;exact e
  ·obtain⟨o5',o6',e⟩:=k (pre++[low c T n]) left (some<|.int pre.length) (some<|.int n);refine⟨o5',o6',?_⟩;have j:(pre++[low c T n]).length=pre.length+1:=by simp
   rw[j] at e;rw[Ka,if_neg h,if_neg h];simp only[List.append_assoc] at e;exact e
def vt(ns:List Int)(c:Int):List Int:=if ns.sum<=c then ns else(Ka c ns.sum ns<|c-(ns.map<|low c ns.sum).sum).1
def jdB(f:ns.length<=20)(a:∀ x∈ns,0<=x/\x<=10 ^ 20)(g:0<=c)(h1:c<=2 ^ 900)(i:ns.sum<=10 ^ 30):
  qZ [.lst false<|ns.map D.int,.int c]=↑((vt ns c).map D.int):=by
 by_cases h:ns.sum<=c
 ·simp[qZ,jH,Qa,vt,h]
 ·have b:jS (jd [] 0) qT (p2 V6 (p2 yk (pV 1)<|pV 0)<|pV 2) (ns.map D.int) (jr [none,some 1,some 2] [‹ns.map D.int›,some<|.int c,some<|.int ns.sum,none,none,none,none])=some (ns.map λn=>D.int<|low c ns.sum n):=by
   refine jv rfl (λρ=>∃ o,ρ=[o,some<|.int c,some<|.int ns.sum]) ?_ ⟨none,rfl⟩;rintro x d ρ ⟨o,rfl⟩;have:=a x d;refine⟨[some<|.int x,some<|.int c,some<|.int ns.sum],rfl,?_,some<|.int x,rfl⟩;simp(disch:=lia) [yu,JR,low]
  obtain⟨j,k,e⟩:=wM (‹ns.map D.int›) (some<|.int c) (some<|.int ns.sum) c ns.sum ns [] (c-(ns.map<|low c ns.sum).sum) none none;simp only[X4,List.length_nil,U0] at e;have e2:(D.int ∘ low c ns.sum)=λn=>D.int (low c ns.sum n):=rfl;rw[e2] at e;have e3:ns.map (λn=>D.int<|low c ns.sum n)=(ns.map<|low c ns.sum).map D.int:=by simp
  rw[e3] at b e;simp(disch:=lia) [qZ,jH,Qa,vt,h,b,e,jb,-List.map_map]
theorem QN(c T):∀ ns left,(Ka c T ns left).1.sum+(Ka c T ns left).2=(ns.map<|low c T).sum+left
 | [],left=>by simp[Ka]
 | n::ns,left=>by
  rw[Ka];split
  ·have:=QN c T ns<|left-1;simp only[List.sum_cons,L5]
   lia
  ·have:=QN c T ns left;simp only[List.sum_cons,L5]
   lia
def cnt(c T:Int):List Int->Int
 | []=>0
 | n::ns=>(if low c T n<n then 1 else 0)+cnt c T ns
theorem jgU(c T):∀ ns:List Int,0<=cnt c T ns
 | []=>by simp[cnt]
 | n::ns=>by
  have:=jgU c T ns;rw[cnt];split<;>lia
theorem JU(c T):∀ ns left,0<=left->left<=cnt c T ns->(Ka c T ns left).2=0
 | [],left,h,k=>by simp[Ka,cnt] at *;lia
 | n::ns,left,h,k=>by
  rw[cnt] at k;rw[Ka];have:=jgU c T ns;split
  ·next g=>
   exact JU c T ns (left-1) ∅ ∅
  ·next g=>
   by_cases g2:low c T n<n
   ·rw[if_pos g2] at k;exact JU c T ns left h ∅
   ·rw[if_neg g2] at k;exact JU c T ns left h ∅
def jdL(b:0<=c)(f:c<T)(a:0<=n):T*low c T n<=c*n/\c*n<=T*low c T n+T*(if low c T n<n then 1 else 0)/\0<=low c T n/\low c T n<=n:=by
 unfold low;have e:=Int.mul_ediv_add_emod (c*n) T;have h:=N9 (c*n) (show T≠0 by lia);have r1:=N8 (c*n) (show 0<T by lia);have d:0<=c*n/T:=Int.ediv_nonneg (Int.mul_nonneg b a) ∅;have l1:c*n/T<=n:=by
  have:c*n<=T*n:=Int.mul_le_mul_of_nonneg_right ∅ a;exact Int.ediv_le_of_le_mul ∅ ∅
 refine⟨by lia,?_,d,l1⟩;split
 ·lia
 ·next g=>
  have e2:c*n/T=n:=by lia
  have:c*n<=T*n:=Int.mul_le_mul_of_nonneg_right ∅ a
  lia
theorem jan(a:0<=c)(b:c<T):∀ ns,(∀ x∈ns,0<=x)->T*(ns.map<|low c T).sum<=c*ns.sum/\c*ns.sum<=T*(ns.map<|low c T).sum+T*cnt c T ns
 | [],_=>by simp[cnt]
 | n::ns,h=>by
  have i:=jan a b ns<|λx d=>h x (by simp[d]);have j:=jdL a b<|h n (by simp);simp only[L5,List.sum_cons,cnt]
  lia
def jhI(d:0<=c)(e:c<ns.sum)(h:∀ x∈ns,0<=x):
  0<=c-(ns.map<|low c ns.sum).sum/\(Ka c ns.sum ns<|c-(ns.map<|low c ns.sum).sum).1.sum=c:=by
 have b:=jan d e ns h;have f:(ns.map<|low c ns.sum).sum<=c:=by
  refine Int.le_of_mul_le_mul_left (a:=ns.sum) ?_ ∅;rw[Int.mul_comm ns.sum c];exact b.1
 have g:c<=(ns.map<|low c ns.sum).sum+cnt c ns.sum ns:=by
  refine Int.le_of_mul_le_mul_left (a:=ns.sum) ?_ ∅;rw[Int.mul_add,Int.mul_comm ns.sum c];exact b.2
 have l:=JU c ns.sum ns (c-(ns.map<|low c ns.sum).sum) ∅ ∅;have s:=QN c ns.sum ns<|c-(ns.map<|low c ns.sum).sum;exact⟨by lia,by lia⟩
theorem jgs:∀(ns:List Int),(∀ x∈ns,0<=x/\x<=b)->0<=ns.sum/\ns.sum<=b*ns.length
 | [],_=>by simp
 | n::ns,h=>by
  have i:=jgs ns<|λx a=>h x (by simp[a]);have j:=h n (by simp);simp only[List.sum_cons,M1]
  lia
def wV:(vt ns c).length=ns.length:=by
 unfold vt;split
 ·rfl
 ·exact Qh _ _ _ _
structure PtOk(p:W2):Prop where
 lo:1<=p.2
 hi:p.2<=10
noncomputable def ts(P:List W2):List Int:=P.map (·.2)
noncomputable def ups(c:Int)(P:List W2):List Int:=P.map λp=>(c*p.2+9)/10
noncomputable def uY(c:Int)(P:List W2):List Int:=P.map λp=>c*p.2/10
noncomputable def jei(odd:Int):Nat->List Int->List Int
 | _,[]=>[]
 | k,x::l=>(if(k:Int)<odd then x+1 else x)::jei odd (k+1) l
theorem ux(a):∀ k l,(jei a k l).length=l.length
 | _,[]=>rfl
 | k,x::l=>by rw[jei,M1,M1,ux]
theorem jcQ(a):∀ k l,(∀ x∈l,0<=x)->∀ x∈jei a k l,0<=x
 | _,[],_,x,b=>by simp[jei] at b
 | k,y::l,h,x,b=>by
  have d:=h y (by simp);rcases M4.mp b with rfl | b
  ·lia
  ·exact jcQ a (k+1) l (λz c=>h z<|by simp[c]) x b
def yD(P:List W2)(c:Int):List Int×Int:=if 10<(ts P).sum then(ups c P,(ups c P).sum-c) else(jei (c*(ts P).sum/10-(uY c P).sum) 0<|uY c P,0)
def jox(h:∀ p∈P,PtOk p):0<=(ts P).sum/\(ts P).sum<=10*P.length:=by
 induction P with
 | nil=>simp[ts]
 | cons p P c=>
  have a:=c λx d=>h x (by simp[d]);have b:=h p (by simp);have e:=b.lo;have f:=b.hi;simp only[ts,L5,List.sum_cons,M1] at a ⊢
  lia
def zF(P:List W2):frzs (P.map e2)=true/\fzs (P.map e2)=P.map e2:=by
 refine⟨yA λd hd=>?_,J7 λd hd=>?_⟩
 all_goals obtain⟨p,a,rfl⟩:=M5.mp hd;rfl
def jbV(b:P.length<=10):kQ [.lst false<|P.map e2]=some (.int (ts P).sum):=by
 have a:jS (jd [] 0) qT (pF<|p2 jc (pV 0)<|pI 1) (P.map e2) (jr [none] [‹P.map e2›])=some (P.map λp=>D.int p.2):=by
  refine jv rfl (λρ=>∃ o,ρ=[o]) ?_ ⟨none,rfl⟩;rintro x c ρ ⟨o,rfl⟩;exact⟨_,rfl,rfl,_,rfl⟩
 have e:(P.map λp=>D.int p.2)=(ts P).map D.int:=by unfold ts;rw[U0];rfl
 rw[e] at a;simp(disch:=lia) [kQ,jH,VT,(zF P).1,a,jb]
theorem z6(a):∀ l k o0 o1,jS (gA2 0 1) qT (pIf (jj<|p2 jj8 (pV 0)<|pV 2) (p2 jg (pV 1)<|pI 1)<|pF<|pV 1) (yc k<|l.map D.int) [o0,o1,some<|.int a]=some ((jei a k l).map D.int)
 | [],k,o0,o1=>rfl
 | x::l,k,o0,o1=>by
  have c:(gA2 0 1) (.tup [.int k,.int x]) [o0,o1,some<|.int a]=some [some<|.int k,some<|.int x,some<|.int a]:=rfl;have b:=z6 a l (k+1) (some<|.int k)<|some<|.int x;rw[L5,yc,kz,c,L4];by_cases h:k<a
  ·simp[h,b,jei]
  ·simp[h,b,jei]
def jfA(m:P.length<=10)(a:∀ p∈P,PtOk p)(r:0<=c)(h1:c<=2 ^ 900):VW [.lst false<|P.map e2,.int c]=some (.tup [.lst true<|(yD P c).1.map D.int,.int (yD P c).2]):=by
 have l:=jbV m;have s:=jox a;have f:=zF P;by_cases h:10<(ts P).sum
 ·have b:jS (jd [] 0) qT (p2 V6 (p2 jg (p2 yk (pV 1)<|p2 jc (pV 0)<|pI 1)<|pI 9)<|pI 10) (P.map e2) (jr [none,some 1] [‹P.map e2›,some<|.int c,some<|.int (ts P).sum,none,none])=some (P.map λp=>D.int<|(c*p.2+9)/10):=by
   refine jv rfl (λρ=>∃ o,ρ=[o,some<|.int c]) ?_ ⟨none,rfl⟩;rintro x d ρ ⟨o,rfl⟩;refine⟨[some<|e2 x,some<|.int c],rfl,?_,_,rfl⟩;have g:jc (e2 x) (.int 1)=some (.int x.2):=rfl;have n:=(a x d).lo;have q:=(a x d).hi;simp(disch:=lia) [g,yu,JR]
  have e:(P.map λp=>D.int<|(c*p.2+9)/10)=(ups c P).map D.int:=by unfold ups;rw[U0];rfl
  rw[e] at b;have i:yD P c=(ups c P,(ups c P).sum-c):=if_pos h;rw[i];simp(disch:=lia) [VW,jH,wJ,f.1,f.2,l,h,b,jb]
 ·have b:jS (jd [] 0) qT (p2 V6 (p2 yk (pV 1)<|p2 jc (pV 0)<|pI 1)<|pI 10) (P.map e2) (jr [none,some 1] [‹P.map e2›,some<|.int c,some<|.int (ts P).sum,none,none])=some (P.map λp=>D.int<|c*p.2/10):=by
   refine jv rfl (λρ=>∃ o,ρ=[o,some<|.int c]) ?_ ⟨none,rfl⟩;rintro x d ρ ⟨o,rfl⟩;refine⟨[some<|e2 x,some<|.int c],rfl,?_,_,rfl⟩;have g:jc (e2 x) (.int 1)=some (.int x.2):=rfl;have n:=(a x d).lo;have q:=(a x d).hi;simp(disch:=lia) [g,yu,JR]
  have e:(P.map λp=>D.int<|c*p.2/10)=(uY c P).map D.int:=by unfold uY;rw[U0];rfl
  rw[e] at b;have i:yD P c=(jei (c*(ts P).sum/10-(uY c P).sum) 0<|uY c P,0):=if_neg h;rw[i];have j:jr [none,none,some 4] [‹P.map e2›,some<|.int c,some<|.int (ts P).sum,‹(uY c P).map D.int›,some<|.int<|c*(ts P).sum/10-(uY c P).sum]=[none,none,some<|.int<|c*(ts P).sum/10-(uY c P).sum]:=rfl;have k:lim (yc 0<|(uY c P).map D.int).length=true:=jb (by rw[vh];simp[uY];lia);simp(disch:=lia) [VW,jH,wJ,f.1,f.2,l,h,b,jb,yu,JR,j,z6 (c*(ts P).sum/10-(uY c P).sum) (uY c P) 0 none none,k,-List.map_map]
def jeo:(yD P c).1.length=P.length:=by
 unfold yD;split
 ·simp[ups]
 ·rw[ux];simp[uY]
def jg1(d:∀ p∈P,PtOk p)(e:0<=c):∀ x∈(yD P c).1,0<=x:=by
 have b:∀ p∈P,0<=c*p.2:=λp h=>Int.mul_nonneg e (by have:=(d p h).lo;lia);unfold yD;split
 ·intro x a;obtain⟨p,h,rfl⟩:=M5.mp a;have:=b p h
  lia
 ·refine jcQ _ _ _ λx a=>?_;obtain⟨p,h,rfl⟩:=M5.mp a;have:=b p h
  lia
theorem wx(a:0<=c)(d:c<T):∀ ns left,(∀ x∈ns,0<=x)->∀(i:Nat) g n,(Ka c T ns left).1[i]?=some g->ns[i]?=some n->0<=g/\g<=n
 | [],left,_,i,g,n,_,h=>by simp at h
 | m::ns,left,hp,i,g,n,h1,h2=>by
  have b:=jdL a d<|hp m (by simp);rw[Ka] at h1;cases i with
  | zero=>
   simp at h2;split at h1<;>simp at h1<;>subst h1<;>lia
  | succ i=>
   simp at h2;split at h1
   ·simp at h1;exact wx a d ns _ (λx e=>hp x<|by simp[e]) i g n h1 h2
   ·simp at h1;exact wx a d ns _ (λx e=>hp x<|by simp[e]) i g n h1 h2
def jb7{ns}{c}(a:0<=c)(h:∀ x∈ns,0<=x){i:Nat}{g n}(h1:(vt ns c)[i]?=some g)(h2:ns[i]?=some n):0<=g/\g<=n:=by
 unfold vt at h1;split at h1
 ·rw[h2] at h1;cases h1;exact⟨h _<|List.mem_of_getElem? h2,Int.le_refl _⟩
 ·exact wx a ∅ ns _ h i g n h1 h2
def jbv(a:0<=c)(h:∀ x∈ns,0<=x):(vt ns c=ns/\ns.sum<=c)\/(vt ns c).sum=c:=by
 unfold vt;split
 ·lia
 ·exact .inr (jhI a ∅ h).2
def jco(l:List W2):yq (l.map e2)=true:=by
 rw[yQ,List.all_map,List.all_eq_true];intro x _;rfl
noncomputable def got(L s:Int):Int:=if s<L then s else L
noncomputable def JO:List Nat:=[101,97,116]
noncomputable def put(f:List Nat->Int)(c:List Nat)(v:Int):List Nat->Int:=λn=>if n=c then v else f n
def eat:List (List Nat)->(List Nat->Int)->Int->(List Nat->Int)×Int
 | [],f,L=>(f,L)
 | c::E,f,L=>eat E (put f c<|f c-got L (f c))<|L-got L (f c)
def jjD:Nat->List (List Nat)->(List Nat->Int)->Int->List D
 | _,[],_,_=>[]
 | k,c::E,f,L=>.tup [.int k,.str JO,.str c,.int L,.int<|got L<|f c]::jjD (k+1) E (put f c<|f c-got L (f c)) (L-got L (f c))
def jaE(h:0<=L)(h':0<=s):0<=got L s/\got L s<=L/\got L s<=s:=by unfold got;split<;>lia
def zL(h:∀ n,0<=f n)(a:0<=v)(n):0<=put f c v n:=by
 unfold put;by_cases e:n=c
 ·lia
 ·rw[if_neg e];exact h n
theorem jgI:∀{E}{f}{L},(∀ n,0<=f n)->0<=L->(∀ n,0<=(eat E f L).1 n/\(eat E f L).1 n<=f n)/\0<=(eat E f L).2
 | [],f,L,h,a=>⟨λn=>⟨h n,Int.le_refl _⟩,a⟩
 | c::E,f,L,h,a=>by
  have g:=jaE a<|h c;have q:=jgI (E:=E) (f:=put f c<|f c-got L (f c)) (L:=L-got L (f c)) (zL h ∅) ∅;refine⟨λn=>⟨(q.1 n).1,Int.le_trans (q.1 n).2 ?_⟩,q.2⟩;unfold put;split
  ·lia
  ·lia
def zw:put f c u c=u:=if_pos rfl
def V3(h:d≠c):put f c u d=f d:=if_neg h
def bkD(o:Bool)(S W Rn Lv:List W2)(x:Int):D:=.tup [.lst o<|S.map e2,.lst o<|W.map e2,.lst o<|Rn.map e2,.lst o<|Lv.map e2,.int x]
def Jr(o)(S W Rn Lv)(x):fz (bkD o S W Rn Lv x)=bkD false S W Rn Lv x:=by simp[bkD,vg]
def qj(S W Rn Lv)(x):frz (bkD false S W Rn Lv x)=true:=by simp[bkD,jF]
def jcC(S W Rn Lv)(x):clean (bkD true S W Rn Lv x)=true:=by simp[bkD,jco]
def jgR{S W Rn Lv}{x}(h1:∀ p∈S,Wd p.1)(h2:∀ p∈W,Wd p.1)(a:∀ p∈Rn,Wd p.1)(b:∀ p∈Lv,Wd p.1)(o)(n):okE (n+3) (bkD o S W Rn Lv x)=true:=by
 show yI (n+2) [.lst o<|S.map e2,.lst o<|W.map e2,.lst o<|Rn.map e2,.lst o<|Lv.map e2,.int x]=true;have c:okE (n+2) (.lst o<|S.map e2)=true:=YD h1 n;have d:okE (n+2) (.lst o<|W.map e2)=true:=YD h2 n;have e:okE (n+2) (.lst o<|Rn.map e2)=true:=YD a n;have f:okE (n+2) (.lst o<|Lv.map e2)=true:=YD b n;simp[yI,c,d,e,f]
theorem KD(g:N.length<=1000):∀{E}{s}{f}{L}{acc}{o6 o7 o8},(∀ c∈E,c∈N)->acc.length+E.length<=1000 ->
  Ex3 λo6' o7' o8'=>jB (gA2 6 7) Vg (yc s<|E.map D.str) [a0,a1,a2,some<|dct true N f,some<|.int L,↑acc,o6,o7,o8,o9] =
   some (.nx [a0,a1,a2,some<|dct true N (eat E f L).1,some<|.int (eat E f L).2,↑(acc++jjD s E f L),o6',o7',o8',o9])
 | [],s,f,L,acc,o6,o7,o8,_,_=>⟨o6,o7,o8,by rw[jjD,M9];rfl⟩
 | c::E,s,f,L,acc,o6,o7,o8,b,h=>by
  rw[M1] at h;have a:=b c (by simp);obtain⟨o6',o7',o8',e⟩:=KD (a0:=a0) (a1:=a1) (a2:=a2) (o9:=o9) g (E:=E) (f:=put f c<|f c-got L (f c)) (L:=L-got L (f c)) (acc:=acc++[.tup [.int s,.str JO,.str c,.int L,.int<|got L<|f c]]) (o6:=some<|.int s) (o7:=some<|.str c) (o8:=some<|.int<|got L<|f c) (λd hd=>b d<|by simp[hd]) (by rw[N3];simp only[M1,List.length_nil];lia);refine⟨o6',o7',o8',?_⟩;have i:jaj [.int L,.int<|f c]=some (.int<|got L<|f c):=rfl;rw[L5,yc,lpF ?_,e,jjD,eat];simp;simp(disch:=first | lia | (simp;done) | (simp;lia)) [Vg,jC a,i,YY f a,Qn a,jb,JO];simp[dct,put]
noncomputable def sz'(N:W4)(f:List Nat->Int):List W2:=N.map λn=>(n,f n)
noncomputable def ow'(W:List W2)(f:List Nat->Int):List W2:=W.map λq=>(q.1,if 0<f q.1 then q.2 else 0)
def jcV(d:∀ q∈W,q.1∈N):jS (gA2 0 1) qT (jV #[pF<|pV 0,pIf (jj<|p2 Yj (p2 jG (pV 2)<|pV 0)<|pI 0) (pF<|pV 1)<|pI 0]) (W.map e2) [none,none,some<|dct true N f]=some ((ow' W f).map e2):=by
 unfold ow';rw[U0];refine jv rfl (λρ=>∃ o a,ρ=[o,a,some<|dct true N f]) ?_ ⟨none,none,rfl⟩;rintro q e ρ ⟨o,a,rfl⟩;have b:=jC (o:=true) (f:=f)<|d q e;refine⟨[some<|.str q.1,some<|.int q.2,some<|dct true N f],rfl,?_,_,_,rfl⟩;by_cases c:0<f q.1
 ·simp[b,c,jb,e2]
 ·simp[b,c,jb,e2]
def vv{S:List W2}{T:List α}{g}{n}(h:S.map (·.1)=T.map g)(k:T.length<=n):S.length<=n:=by
 have:=congrArg List.length h;rw[L1,L1] at this
 lia
def Yk{S:List W2}{C}{o}(h:S.map (·.1)=C)(nd:C.Nodup)(a:S.length<=10):vO [.lst o<|S.map e2]=some (dct true C<|fnOf S):=by
 subst h;exact jc9 nd ∅
def jbx(S W Rn Lv x):jc (bkD false S W Rn Lv x) (.int 0)=‹S.map e2›/\jc (bkD false S W Rn Lv x) (.int 1)=‹W.map e2›/\jc (bkD false S W Rn Lv x) (.int 2)=‹Rn.map e2›/\jc (bkD false S W Rn Lv x) (.int 3)=‹Lv.map e2›/\jc (bkD false S W Rn Lv x) (.int 4)=some (.int x):=⟨rfl,rfl,rfl,rfl,rfl⟩
def uT{p}{S W Rn Lv}{x L}{O}(h:PoolOk O p)(c:S.map (·.1)=p.told.map (·.1))(d:W.map (·.1)=p.told.map (·.1))(E:Rn.length<=10)(F:Lv.length<=10):
  Yp [jR false p,bkD false S W Rn Lv x,.int L]=some (.tup [.lst true<|jjD 0 p.eats (fnOf S) L,bkD true (sz' (p.told.map (·.1)) (eat p.eats (fnOf S) L).1) (ow' W (eat p.eats (fnOf S) L).1) Rn Lv<|x+(eat p.eats (fnOf S) L).2]):=by
 have G:=h.told2;have i:=vv d h.told2;have j:=h.eats2;obtain⟨k,l,m,r,t⟩:=jbx S W Rn Lv x;have u:jc (jR false p) (.int 3)=‹p.eats.map D.str›:=rfl;have v:=Yk (o:=false) c h.toldn<|vv c h.told2;obtain⟨w,y,z,e⟩:=KD (a0:=some<|jR false p) (a1:=some<|bkD false S W Rn Lv x) (a2:=some<|.int L) (o9:=none) (by rw[L1];lia) (s:=0) (f:=fnOf S) (L:=L) (acc:=[]) (o6:=none) (o7:=none) (o8:=none) h.eatsm (by simp;lia);have A:=jcV (N:=p.told.map (·.1)) (f:=(eat p.eats (fnOf S) L).1) (λq B=>by rw[<- d];exact M5.mpr ⟨q,B,rfl⟩);have g:=xw (p.told.map (·.1)) (eat p.eats (fnOf S) L).1;have a:((p.told.map (·.1)).map λn=>D.tup [.str n,.int<|(eat p.eats (fnOf S) L).1 n])=(sz' (p.told.map (·.1)) (eat p.eats (fnOf S) L).1).map e2:=by simp[sz',e2]
 rw[a] at g;have b:∀ ρ,pV 3 ρ=some (dct true (p.told.map (·.1)) (eat p.eats (fnOf S) L).1)->yB (pV 3) ρ=↑((sz' (p.told.map (·.1)) (eat p.eats (fnOf S) L).1).map e2):=by
  intro ρ C;rw[yB,C];show(bif frzs ((p.told.map (·.1)).map λn=>D.int<|(eat p.eats (fnOf S) L).1 n) then _ else _)=_;rw[QU,<- g];rfl
 generalize bkD false S W Rn Lv x=BK at *;simp(disch:=first | lia | (simp;done) | (simp;lia)) [Yp,jH,jdd,k,l,m,r,t,u,v,e,jr,jF,A,b,jb,bkD,-yB]
def qD{S:List W2}(h:∀ q∈S,0<=q.2)(n):0<=fnOf S n:=by
 unfold fnOf
 induction S with
 | nil=>exact Int.le_refl _
 | cons q S a=>
  rw[lkp];by_cases e:q.1=n
  ·rw[if_pos e];exact h q (by simp)
  ·rw[if_neg e];exact a λr b=>h r (by simp[b])
def hit(rn:List W2):List WL->Option (List Nat)
 | []=>none
 | x::l=>if x.2.1<=(lkp x.1 rn).getD 0 then some x.2.2 else hit rn l
def jab{f}{G}{fr:Option D->Option D->Option D->Rh}{rn}(d:∀ x o2 o3 o4,G (eL x) (fr o2 o3 o4)=some (fr (some<|.str x.1) (some<|.int x.2.1)<|some<|.str x.2.2))
  (e:∀(x:WL) r,Yh (rn.map λq=>KA.str q.1) (rn.map λq=>D.int q.2) (.str x.1)=some (.int r)->f (fr (some<|.str x.1) (some<|.int x.2.1)<|some<|.str x.2.2)=some (if x.2.1<=r then .rt (.str x.2.2) (fr (some<|.str x.1) (some<|.int x.2.1)<|some<|.str x.2.2) else .nx (fr (some<|.str x.1) (some<|.int x.2.1)<|some<|.str x.2.2))):∀{L}{o2 o3 o4},(∀ x∈L,x.1∈rn.map (·.1)) ->
  Ex3 λo2' o3' o4'=>jB G f (L.map eL) (fr o2 o3 o4) =
   match hit rn L with
   | some w=>some<|.rt (.str w)<|fr o2' o3' o4'
   | none=>some (.nx<|fr o2' o3' o4'):=by
 intro L
 induction L with
 | nil=>
  intro o2 o3 o4 _;exact⟨o2,o3,o4,rfl⟩
 | cons x L g=>
  intro o2 o3 o4 h;obtain⟨r,c,_⟩:=jap<|h x (by simp);have i:Yh (rn.map λq=>KA.str q.1) (rn.map λq=>D.int q.2) (.str x.1)=some (.int r):=by
   have a:=JT x.1<|rn.map λq=>(q.1,D.int q.2);rw[U0,U0,Ql D.int x.1 rn,c] at a;exact a
  rw[L5,ya,d,L4,e x r i,hit,c,Option.getD_some,L4];by_cases b:x.2.1<=r
  ·rw[if_pos b,if_pos b];exact⟨_,_,_,rfl⟩
  ·rw[if_neg b,if_neg b];exact g λy j=>h y (by simp[j])
noncomputable def jj5(p:PoolS):List Nat:=(p.orders.map (·.nm)).headD []
def uz(h:PoolOk O p):∃ d,jc (.lst false<|p.orders.map<|vG false) (.int 0)=some d/\jc d (.int 0)=some (.str<|jj5 p):=by
 have a:=h.orders1;unfold jj5;cases e:p.orders with
 | nil=>rw[e] at a;simp at a
 | cons x l=>exact⟨vG false x,by rw[jj4 (by decide)<|by simp];rfl,rfl⟩
def jh0(h:PoolOk O p)  (i:rn.map (·.1)=p.told.map (·.1)):
  va [jR false p,.dK false (rn.map λq=>KA.str q.1)<|rn.map λq=>D.int q.2]=some (.str<|(hit rn p.looks).getD (jj5 p)):=by
 obtain⟨j,k,l,e⟩:=jab (f:=ki) (G:=gA3 2 3 4) (fr:=λa b c=>[some<|jR false p,some<|.dK false (rn.map λq=>KA.str q.1)<|rn.map λq=>D.int q.2,a,b,c]) (rn:=rn) (λ_ _ _ _=>rfl) (λx r m=>by by_cases n:x.2.1<=r<;>simp[ki,m,n]) (o2:=none) (o3:=none) (o4:=none) (by rw[i];exact λx o=>(h.looks x o).1);obtain⟨d,jlX,jl9⟩:=uz h;have g:jc (jR false p) (.int 5)=‹p.looks.map eL›:=rfl;have s:jc (jR false p) (.int 4)=‹p.orders.map (vG false)›:=rfl;cases hh:hit rn p.looks with
 | none=>
  rw[hh] at e;simp[va,jH,qw,g,s,JC,KG,e,jlX,jl9]
 | some w=>
  rw[hh] at e;simp[va,jH,qw,g,JC,KG,e]
def jmN{O}{p}(h:PoolOk O p){sz ow rn lv:List W2}{x}(b:rn.map (·.1)=p.told.map (·.1)):
  vJ [jR false p,.tup [.lst false<|sz.map e2,.lst false<|ow.map e2,.lst false<|rn.map e2,.lst false<|lv.map e2,.int x]]=some (.str<|(hit rn p.looks).getD (jj5 p)):=by
 have i:=vv b h.told2;have e:jc (.tup [.lst false<|sz.map e2,.lst false<|ow.map e2,.lst false<|rn.map e2,.lst false<|lv.map e2,.int x]) (.int 2)=‹rn.map e2›:=rfl;have f:vO [.lst false<|rn.map e2]=some (.dK true (rn.map λq=>KA.str q.1)<|rn.map λq=>D.int q.2):=by
  have:=Yq (o:=false) (l:=rn.map λq=>(q.1,D.int q.2)) (by rw[U0];have:=h.toldn;rw[<- b] at this;exact this) (by intro q g;obtain⟨a,_,rfl⟩:=M5.mp g;rfl) (by rw[L1];lia);rw[U0,U0,U0] at this;exact this
 have c:fzs (rn.map λq=>D.int q.2)=rn.map λq=>D.int q.2:=qQ (λ_=>rfl) _;have d:fz (.dK true (rn.map λq=>KA.str q.1)<|rn.map λq=>D.int q.2)=.dK false (rn.map λq=>KA.str q.1) (rn.map λq=>D.int q.2):=by rw[fz,c]
 simp[vJ,jH,VI,e,f,h.fz false,d,jh0 h b]
noncomputable def ql(p:PoolS):List W2:=p.told.map λc=>(c.1,0)
noncomputable def xR(p:PoolS):List W2:=p.told.map λc=>(c.1,c.2.1)
noncomputable def wj(p:PoolS):List W2:=p.marks.map λc=>(c.1,0)
def V5(l:List W3):jS (jd [] 0) qT (jV #[pF<|p2 jc (pV 0)<|pI 0,pI 0]) (l.map e3) [none]=some ((l.map λc=>((c.1,0):W2)).map e2):=by
 rw[U0];refine jv rfl (λρ=>∃ o,ρ=[o]) ?_ ⟨none,rfl⟩;rintro c b ρ ⟨o,rfl⟩;refine⟨[some<|e3 c],rfl,?_,_,rfl⟩;have a:jc (e3 c) (.int 0)=some (.str c.1):=rfl;simp[a,jb,e2]
def KH(l:List W3):jS (jd [] 0) qT (jV #[pF<|p2 jc (pV 0)<|pI 0,pF<|p2 jc (pV 0)<|pI 1]) (l.map e3) [none]=some ((l.map λc=>((c.1,c.2.1):W2)).map e2):=by
 rw[U0];refine jv rfl (λρ=>∃ o,ρ=[o]) ?_ ⟨none,rfl⟩;rintro c d ρ ⟨o,rfl⟩;refine⟨[some<|e3 c],rfl,?_,_,rfl⟩;have a:jc (e3 c) (.int 0)=some (.str c.1):=rfl;have b:jc (e3 c) (.int 1)=some (.int c.2.1):=rfl;simp[a,b,jb,e2]
def xa(l:List W2):jS (jd [] 0) qT (jV #[pF<|p2 jc (pV 0)<|pI 0,pI 0]) (l.map e2) [none]=some ((l.map λc=>((c.1,0):W2)).map e2):=by
 rw[U0];refine jv rfl (λρ=>∃ o,ρ=[o]) ?_ ⟨none,rfl⟩;rintro c a ρ ⟨o,rfl⟩;refine⟨[some<|e2 c],rfl,?_,_,rfl⟩;simp[ jb];rfl
def YM(p:PoolS)(rn:List W2):List Nat:=(hit rn p.looks).getD (jj5 p)
def jkM{O}{p}(h:PoolOk O p){S W Rn Lv}{x}(a:Rn.map (·.1)=p.told.map (·.1)):vJ [jR false p,bkD false S W Rn Lv x]=some (.str<|YM p Rn):=jmN h a
theorem jcT:∀{L},hit rn L=some w->∃ x∈L,x.2.2=w
 | [],h=>by simp[hit] at h
 | x::L,h=>by
  rw[hit] at h;split at h
  ·cases h;exact⟨x,by simp,rfl⟩
  ·obtain⟨y,a,e⟩:=jcT h;exact⟨y,by simp[a],e⟩
def jaB(h:PoolOk O p)(rn):YM p rn∈p.orders.map (·.nm):=by
 unfold YM;cases e:hit rn p.looks with
 | some w=>
  obtain⟨x,b,rfl⟩:=jcT e;exact h.looksm x b
 | none=>
  have a:=h.orders1;unfold jj5;cases e:p.orders with
  | nil=>rw[e] at a;simp at a
  | cons x l=>simp
def KW(h:PoolOk O p):vi [jR false p]=some (bkD true (xR p) (ql p) (ql p) (wj p) 0):=by
 have a:jc (jR false p) (.int 1)=‹p.told.map e3›:=rfl;have b:jc (jR false p) (.int 2)=‹p.marks.map e2›:=rfl;have c:=h.told2;have d:=h.marks2;have l1:lim p.told.length=true:=jb ∅;have l2:lim p.marks.length=true:=jb ∅;simp[vi,jH,YL,a,b,qU,jF,l1,l2,jr,V5 p.told,KH p.told,xa p.marks,bkD,xR,ql,wj,-List.map_map]
def jbz(p:PoolS):List Nat->Int:=fnOf<|p.told.map λc=>(c.1,c.2.2)
def wd'(p:PoolS)(f:List Nat->Int)(W:List W2):List W2:=W.map λq=>(q.1,if 0<f q.1 then q.2+jbz p q.1 else q.2)
def jdQ(l:List W3):jS (jd [] 0) qT (jV #[pF<|p2 jc (pV 0)<|pI 0,pF<|p2 jc (pV 0)<|pI 2]) (l.map e3) [none]=some ((l.map λc=>((c.1,c.2.2):W2)).map e2):=by
 rw[U0];refine jv rfl (λρ=>∃ o,ρ=[o]) ?_ ⟨none,rfl⟩;rintro c d ρ ⟨o,rfl⟩;refine⟨[some<|e3 c],rfl,?_,_,rfl⟩;have a:jc (e3 c) (.int 0)=some (.str c.1):=rfl;have b:jc (e3 c) (.int 2)=some (.int c.2.2):=rfl;simp[a,b,jb,e2]
def zK{O}{p}(h:PoolOk O p){S W Rn Lv}{x}(b:S.map (·.1)=p.told.map (·.1))(c:W.map (·.1)=p.told.map (·.1)):
  qe [jR false p,bkD false S W Rn Lv x]=some (bkD false S (wd' p (fnOf S) W) Rn Lv x):=by
 have w:=h.told2;have k:=vv c h.told2;obtain⟨d,l,m,n,r⟩:=jbx S W Rn Lv x;have s:jc (jR false p) (.int 1)=‹p.told.map e3›:=rfl;have t:=Yk (o:=false) b h.toldn<|vv b h.told2;have a:_=some (dct true (p.told.map (·.1))<|jbz p):=Yk (o:=true) (by simp) h.toldn (by rw[L1];lia);have u:jS (gA2 0 1) qT (jV #[pF<|pV 0,pIf (jj<|p2 Yj (p2 jG (pV 2)<|pV 0)<|pI 0) (p2 jg (pV 1)<|p2 jG (pV 3)<|pV 0)<|pF<|pV 1]) (W.map e2) [none,none,some (dct true (p.told.map (·.1))<|fnOf S),some (dct true (p.told.map (·.1))<|jbz p)]=some ((wd' p (fnOf S) W).map e2):=by
  unfold wd';rw[U0];refine jv rfl (λρ=>∃ o e,ρ=[o,e,some (dct true (p.told.map (·.1))<|fnOf S),some (dct true (p.told.map (·.1))<|jbz p)]) ?_ ⟨none,none,rfl⟩;rintro q v ρ ⟨o,e,rfl⟩;have g:q.1∈p.told.map (·.1):=by rw[<- c];exact M5.mpr ⟨q,v,rfl⟩
  have i:=jC (o:=true) (f:=fnOf S) g;refine⟨[some<|.str q.1,some<|.int q.2,some (dct true (p.told.map (·.1))<|fnOf S),some (dct true (p.told.map (·.1))<|jbz p)],rfl,?_,_,_,rfl⟩;by_cases j:0<fnOf S q.1
  ·simp[i,jC (o:=true) (f:=jbz p) g,j,jb,e2]
  ·simp[i,j,jb,e2]
 have l1:lim p.told.length=true:=jb ∅;have l2:lim W.length=true:=jb ∅;generalize y:bkD false S W Rn Lv x=BK at *;simp(disch:=first | lia | (simp;done) | (simp;lia)) [qe,jH,VQ,d,l,s,t,a,jdQ p.told,u,jr,jF,vg,qU,xy,l1,l2,jb,bkD,-jV,-pIf,-List.map_map];simp(disch:=first | lia | (simp;done) | (simp;lia)) [d,m,n,r,jF,jb]
def jo9{α}(lt)(x y d:α):Kb lt [x,y] d=if lt 1 0=true then [y,x] else [x,y]:=by
 have e:W.kas_sort 2=.ask 1 0 λc=>if c=true then .ret ⟨[1,0]⟩ else .ret ⟨[0,1]⟩:=by
  show W.KasT.ask 1 0 _=_;congr 1
  funext c
  cases c<;>rfl
 show(kEv lt<|W.kas_sort 2).toList.map _=_;rw[e];show(kEv lt<|if lt 1 0=true then(.ret ⟨[1,0]⟩:W.KasT<|Array Nat) else .ret ⟨[0,1]⟩).toList.map _=_;split<;>rfl
abbrev LN:=List W2
section
variable {κ ν:Type} [DecidableEq κ]
noncomputable def jbr:List (κ×ν)->κ->Option ν
 | [],_=>none
 | r::l,k=>if r.1=k then some r.2 else jbr l k
noncomputable def Kd(l:List<|κ×ν)(k:κ)(v:ν):List (κ×ν):=if k∈l.map (·.1) then l.map λr=>(r.1,if r.1=k then v else r.2) else l++[(k,v)]
theorem gget_none{k}:∀{l:List (κ×ν)},jbr l k=none↔k∉l.map (·.1)
 | []=>by simp[jbr]
 | q::l=>by
  rw[jbr,L5,M4];by_cases e:q.1=k
  ·rw[if_pos e];exact⟨λz=>(nomatch z),(absurd<|.inl e.symm)⟩
  ·rw[if_neg e,gget_none];exact⟨λz y=>y.elim (λy=>e y.symm) z,λz y=>z<|.inr y⟩
theorem jau{k v}:∀{l:List (κ×ν)},jbr l k=some v->(k,v)∈l
 | q::l,h=>by
  rw[jbr] at h;by_cases e:q.1=k
  ·rw[if_pos e] at h;cases h;rw[<- e];exact L7
  ·rw[if_neg e] at h;exact L6 _<|jau h
def jcM{l:List (κ×ν)}{k v}(nd:(l.map (·.1)).Nodup):((Kd l k v).map (·.1)).Nodup/\(Kd l k v).length<=l.length+1/\∀ r,r∈Kd l k v↔r=(k,v)\/(r∈l/\r.1≠k):=by
 unfold Kd;by_cases h:k∈l.map (·.1)
 ·rw[if_pos h];refine⟨by rw[U0];exact nd,by rw[L1];lia,λr=>?_⟩;constructor
  ·intro z;obtain⟨q,c,rfl⟩:=M5.mp z;by_cases e:q.1=k
   ·left;rw[if_pos e,e]
   ·right;rw[if_neg e];exact⟨c,e⟩
  ·rintro(rfl | ⟨f,e⟩)
   ·obtain⟨q,c,rfl⟩:=M5.mp h;exact M5.mpr ⟨q,c,by rw[if_pos rfl]⟩
   ·exact M5.mpr ⟨r,f,by rw[if_neg e]⟩
 ·rw[if_neg h];refine⟨?_,by simp,λr=>?_⟩
  ·rw[N4,U8];exact⟨nd,by simp,λa g b d=>by simp at d;rintro rfl;exact h<|d▸g⟩
  ·rw[N1,M7];exact⟨λz=>z.elim (λz=>.inr ⟨z,λy=>h<|M5.mpr ⟨r,z,y⟩⟩) .inl,λz=>z.elim .inr λz=>.inl z.1⟩
variable {ke:κ->List KA}{ve:ν->D}(inj:∀ a b,(ke a=ke b)=(a=b))
include inj
theorem jjm(k):∀ l:List (κ×ν),KJ (l.map λr=>ke r.1) (l.map λr=>ve r.2) (ke k)=(jbr l k).map ve
 | []=>rfl
 | r::l=>by
  rw[L5,L5,KJ,jbr,jjm k l];simp only[inj];split<;>rfl
def jkz(k v)(l):Ke (l.map λr=>ke r.1) (l.map λr=>ve r.2) (ke k) (ve v)=((Kd l k v).map λr=>ke r.1,(Kd l k v).map λr=>ve r.2):=by
 have a:(ke k∈l.map λr=>ke r.1)↔k∈l.map (·.1):=by simp[inj]
 have b:∀ l:List (κ×ν),jel (l.map λr=>ke r.1) (l.map λr=>ve r.2) (ke k) (ve v)=l.map λr=>ve (if r.1=k then v else r.2):=λl=>by
  induction l with
  | nil=>rfl
  | cons r l c=>
   rw[L5,L5,jel,c,L5];simp only[inj];split<;>rfl
 unfold Ke Kd;by_cases h:k∈l.map (·.1)
 ·rw[if_pos h,if_pos<|a.mpr h,b,U0,U0];rfl
 ·rw[if_neg h,if_neg λz=>h<|a.mp z,N4,N4];rfl
end
noncomputable abbrev kE(nm w:List Nat):List KA:=[.str nm,.str w]
def jgD(nm a b):(kE nm a=kE nm b)=(a=b):=by simp
abbrev kL(nm:List Nat)(q:W2):List KA:=kE nm q.1
noncomputable abbrev vL(q:W2):D:=.int q.2
def dLn(o:Bool)(nm:List Nat)(l:LN):D:=.dT o (l.map<|kL nm)<|l.map vL
theorem uX{w}:∀ l:LN,jbr l w=lkp w l
 | []=>rfl
 | r::l=>by rw[jbr,lkp,uX l]
def jcJ(nm w)(l:LN):(KJ (l.map<|kL nm) (l.map vL) [.str nm,.str w]).getD (.int 0)=.int (fnOf l w):=by
 have:=jjm (ve:=D.int) (jgD nm) w l;rw[this,uX];unfold fnOf;cases lkp w l<;>rfl
theorem jcD{nm w}(h:w≠nm):∀ l:LN,KJ (l.map<|kL nm) (l.map vL) [.str w,.str nm]=none
 | []=>rfl
 | r::l=>by
  rw[L5,L5,KJ,if_neg (by simp;intro z;exact absurd z.symm h),jcD h l]
def jdU(nm w v)(l:LN):Ke (l.map<|kL nm) (l.map vL) [.str nm,.str w] (.int v)=((Kd l w v).map (kL nm),(Kd l w v).map vL):=jkz (jgD nm) w v l
structure LnOk(O:W4)(l:LN):Prop where
 nd:(l.map (·.1)).Nodup
 mem:∀ q∈l,q.1∈O/\0<q.2
def jh1{O l w v}(h:LnOk O l)(c:w∈O)(d:0<v):LnOk O (Kd l w v):=by
 obtain⟨a,_,b⟩:=jcM h.nd;exact⟨a,λq e=>((b q).mp e).elim (λz=>by rw[z];exact⟨c,d⟩) λz=>h.mem q z.1⟩
def LnOk.nn{O l}(h:LnOk O l)(w):0<=fnOf l w:=qD (λq a=>Int.le_of_lt (h.mem q a).2) w
theorem VS [DecidableEq α]:∀{l m:List α},l.Nodup->(∀ x∈l,x∈m)->l.length<=m.length
 | [],m,_,_=>by simp
 | a::l,m,b,d=>by
  have e:=d a (by simp);rw[List.nodup_cons] at b;have:=VS b.2 λx f=>by
   have c:x≠a:=λz=>b.1<|z▸f;exact(List.mem_erase_of_ne c).mpr (d x<|by simp[f])
  rw[List.length_erase_of_mem e] at this;have g:=List.length_pos_of_mem e;simp only[M1]
  lia
def LnOk.len{O l}(h:LnOk O l)(d:O.length<=2):l.length<=2:=by
 have:=VS h.nd λw b=>by obtain⟨a,c,rfl⟩:=M5.mp b;exact(h.mem a c).1
 rw[L1] at this
 lia
abbrev MV:=W2
def eM(m:MV):D:=.tup [.str vF,.str m.1,.int m.2]
def mvF(l:LN)(m:MV):LN:=Kd l m.1<|fnOf l m.1+m.2
abbrev jpq(O:W4)(c:Int)(m:MV):Prop:=m.1∈O/\0<m.2/\m.2<=c
def jc0{O l c m}(h:LnOk O l)(k:jpq O c m):LnOk O (mvF l m):=jh1 h k.1 (by have:=h.nn m.1;lia)
def jd3{l}{nm}{m}(c:l.length<=100):yS [dLn true nm l,.str nm,.str vF,.str m.1,.int m.2]=some (.non,dLn true nm<|mvF l m):=by
 have a:lim l.length=true:=jb ∅;have b:zV (dLn true nm l) [.str nm,.str m.1] (.int 0)=some (.int<|fnOf l m.1):=by
  show some ((KJ (l.map<|kL nm) (l.map vL) [.str nm,.str m.1]).getD (.int 0))=_;rw[jcJ]
 unfold mvF;simp only[dLn] at *;simp[yS,JJ,VL,b,jdU nm m.1 (fnOf l m.1+m.2) l,a,K6]
noncomputable def eR(nm:List Nat)(r:W2):D:=.tup [.str nm,.str r.1,.int r.2]
def yN(nm)(l:LN):frzs (l.map<|eR nm)=true:=kN (λ_=>rfl) _
def JS(nm)(l:LN):fzs (l.map<|eR nm)=l.map (eR nm):=qQ (λ_=>rfl) _
def ze(nm l):clean (dLn true nm l)=true:=by
 show yq (l.map vL)=true;rw[yQ,List.all_map,List.all_eq_true];intro x _;rfl
theorem jah(nm):∀(l a:LN),((a++l).map (·.1)).Nodup->(l.map λr=>(kL nm r,vL r)).foldl (λacc kv=>Ke acc.1 acc.2 kv.1 kv.2) (a.map<|kL nm,a.map vL)=((a++l).map (kL nm),(a++l).map vL)
 | [],a,_=>by simp
 | r::l,a,h=>by
  have b:r.1∉a.map (·.1):=by
   rw[N4,U8] at h;intro z;exact h.2.2 _ z r.1 (by simp) rfl
  have e:Ke (a.map<|kL nm) (a.map vL) (kL nm r) (vL r)=((a++[r]).map (kL nm),(a++[r]).map vL):=by
   have:=jdU nm r.1 r.2 a;unfold Kd at this;rw[if_neg b] at this;exact this
  show List.foldl _ (Ke (a.map<|kL nm) (a.map vL) (kL nm r)<|vL r) _=_;rw[e,jah nm l (a++[r]) ⇑h];simp
theorem zi(nm):∀(l:LN) o0 o1 o2,jS (gA3 0 1 2) qT (jV #[pKy (pV 0)<|pV 1,pF<|pV 2]) (l.map<|eR nm) [o0,o1,o2]=some (l.map λr=>.tup [.kt<|kL nm r,vL r])
 | [],_,_,_=>rfl
 | r::l,o0,o1,o2=>by
  have a:gA3 0 1 2 (eR nm r) [o0,o1,o2]=some [some<|.str nm,some<|.str r.1,some<|.int r.2]:=rfl;rw[L5,kz,a,L4];simp[zi nm l (some<|.str nm) (some<|.str r.1)<|some<|.int r.2,qT,kL,vL,vC,jb]
theorem jmP(nm):∀ l:LN,xV (l.map λr=>.tup [.kt<|kL nm r,vL r])=some (l.map λr=>(kL nm r,vL r))
 | []=>rfl
 | r::l=>by rw[L5,xV,jmP nm l];rfl
def jcp{nm l}(h:(l.map (·.1)).Nodup)(b:l.length<=1000):yi [.lst false<|l.map<|eR nm]=some (dLn true nm l):=by
 have d:jd7 (l.map λr=>(kL nm r,vL r))=(l.map<|kL nm,l.map vL):=jah nm l [] ⇑h;have a:lim l.length=true:=jb ∅;have fd:jay [.lst true<|l.map λr=>.tup [.kt<|kL nm r,vL r]]=some (dLn true nm l):=by
  show(xV _).bind _=_;rw[jmP,L4,d];simp[a,dLn]
 simp[yi,jH,qK,jr,zi nm l none none none,fd,yN,a]
abbrev reN(l:LN)(ms:List MV):LN:=ms.foldl mvF l
abbrev wE(O:W4)(c:Int)(ms:List MV):Prop:=∀ m∈ms,jpq O c m
theorem YH{O c}:∀{ms l},LnOk O l->wE O c ms->LnOk O (reN l ms)
 | [],l,h,_=>h
 | m::ms,l,h,k=>YH (l:=mvF l m) (jc0 h<|k m<|by simp) λa b=>k a (by simp[b])
theorem VF{O c nm a0 a2}(b:O.length<=2):∀{ms}{l}{o4 o5 o6},LnOk O l->wE O c ms ->
  Ex3 λo4' o5' o6'=>jB (gA3 4 5 6) vy (ms.map eM) [a0,some<|.str nm,a2,some<|dLn true nm l,o4,o5,o6]=some (.nx [a0,some<|.str nm,a2,some<|dLn true nm<|reN l ms,o4',o5',o6'])
 | [],l,o4,o5,o6,_,_=>⟨o4,o5,o6,rfl⟩
 | m::ms,l,o4,o5,o6,h,k=>by
  obtain⟨o4',o5',o6',e⟩:=VF b (ms:=ms) (o4:=some<|.str vF) (o5:=some<|.str m.1) (o6:=some<|.int m.2) (jc0 h<|k m<|by simp) λa d=>k a (by simp[d]);refine⟨o4',o5',o6',?_⟩;have f:=jd3 (nm:=nm) (m:=m) (l:=l) (by have:=h.len b;lia);rw[L5,lpF ?_,e];rfl;show(some _).bind _=_;simp[vy,f,JK,km]
theorem KC{nm}:∀{l:LN},(∀ q∈l,0<q.2)->jb4 (l.map<|kL nm) (l.map vL)=some (l.map<|eR nm)
 | [],_=>rfl
 | r::l,h=>by
  show(jb4 (l.map<|kL nm)<|l.map vL).bind _=_;rw[KC λq a=>h q<|by simp[a],L4];simp[h r<|by simp];rfl
def jj6(nm:List Nat)(r:W2):jeh:=(S nm,S r.1,r.2)
noncomputable def srt:LN->LN
 | [a,b]=>if b.1<a.1 then [b,a] else [a,b]
 | l=>l
def xY{nm}:∀{l},(l.map (·.1)).Nodup->l.length<=2->qE [.lst true<|l.map<|eR nm]=↑((srt l).map (eR nm))
 | [],_,_=>rfl
 | [a],_,_=>rfl
 | [a,b],nd,_=>by
  have ne:¬ b.1=a.1:=λz=>by simp[z] at nd
  have lt:Kc (jj6 nm b) (jj6 nm a)=decide (b.1<a.1):=by
   show(if S nm=S nm then(if S b.1=S a.1 then decide (b.2<a.2) else decide (b.1<a.1)) else decide (nm<nm))=_;rw[if_pos rfl,if_neg λz=>ne<|jjw z]
  show some (D.lst true<|Kb (λi j=>Kc (([a,b].map (jj6 nm)).getD i ("","",0))<|([a,b].map (jj6 nm)).getD j ("","",0)) [eR nm a,eR nm b] .non)=_;rw[jo9];show some (D.lst true<|if Kc (jj6 nm b) (jj6 nm a)=true then _ else _)=_;rw[lt,srt];by_cases z:b.1<a.1<;>simp[z]
 | _::_::_::_,_,h=>by simp at h
def JX:∀ l:LN,(srt l).Perm l
 | []=>.refl _
 | [a]=>.refl _
 | [a,b]=>by
  rw[srt];split
  ·exact .swap a b []
  ·exact .refl _
 | _::_::_::_=>.refl _
def jb5{l m}(nd:(l.map (·.1)).Nodup)(f:l.length<=2)(p:l.Perm m):srt l=srt m:=by
 match l,m,nd,f,p,p.length_eq with
 | [],m,_,_,p,_=>rw[List.nil_perm.mp p]
 | [a],m,_,_,p,_=>rw[List.singleton_perm.mp p]
 | [a,b],[c,d],nd,_,p,_=>
  have ne:¬ a.1=b.1:=λz=>by simp[z] at nd
  have e:=p.mem_iff.mp<|L7;simp only[M4,List.not_mem_nil,or_false] at e;rcases e with rfl | rfl
  ·have:=(List.perm_cons a).mp p;rw[List.singleton_perm.mp this]
  ·have q:=(List.perm_cons a).mp (p.trans<|List.Perm.swap a c []);cases List.singleton_perm.mp q;rw[srt,srt];by_cases z:b.1<a.1
   ·rw[if_pos z,if_neg<|List.lt_asymm z]
   ·rw[if_neg z,if_pos<|Std.lt_of_le_of_ne (List.not_lt.mp z) ne]
theorem Qp{n}:∀{l:List W2},n∉l.map (·.1)->fnOf l n=0
 | [],_=>rfl
 | a::l,h=>by
  rw[L5,M4] at h;show(if a.1=n then some a.2 else lkp n l).getD 0=0;rw[if_neg λz=>h<|.inl z.symm];exact Qp λz=>h<|.inr z
def jeH{w}{l m:LN}(nd:(l.map (·.1)).Nodup)(p:l.Perm m):fnOf l w=fnOf m w:=by
 by_cases h:w∈l.map (·.1)
 ·obtain⟨q,a,rfl⟩:=M5.mp h;rw[yO nd a,yO ((p.map _).nodup_iff.mp nd)<|p.mem_iff.mp a]
 ·rw[Qp h,Qp λz=>h<|(p.map _).mem_iff.mpr z]
theorem jcY{O c}:∀{ms}{l m:LN},LnOk O l->wE O c ms->l.Perm m->(reN l ms).Perm (reN m ms)
 | [],_,_,_,_,p=>p
 | a::ms,l,m,h,k,p=>by
  refine jcY (ms:=ms) (jc0 h<|k a<|by simp) (λb d=>k b<|by simp[d]) ?_;unfold mvF;rw[jeH h.nd p];unfold Kd;by_cases e:a.1∈l.map (·.1)
  ·rw[if_pos e,if_pos<|(p.map _).mem_iff.mp e];exact p.map _
  ·rw[if_neg e,if_neg λz=>e<|(p.map _).mem_iff.mpr z];exact p.append_right _
def LnOk.pm{O}{l m}(h:LnOk O l)(p:m.Perm l):LnOk O m:=⟨(p.map _).nodup_iff.mpr h.nd,λq a=>h.mem q<|p.mem_iff.mp a⟩
def jbJ{O c nm l ms}(b:O.length<=2)(h:LnOk O l)(k:wE O c ms):
  yY [.lst false<|l.map<|eR nm,.str nm,.lst false<|ms.map eM]=↑((srt<|reN l ms).map (eR nm)):=by
 have r:=h.len b;have d:=YH h k;have f:=d.len b;obtain⟨m,n,o,e⟩:=VF (nm:=nm) b (a0:=‹l.map (eR nm)›) (a2:=‹ms.map eM›) (o4:=none) (o5:=none) (o6:=none) h k;have g:frzs (ms.map eM)=true:=kN (λ_=>rfl) _;have a:fzs (ms.map eM)=ms.map eM:=qQ (λ_=>rfl) _;have i:jgT (dLn true nm<|reN l ms)=some ((reN l ms).map (kL nm),(reN l ms).map vL):=rfl;have j:lim ((reN l ms).map (kL nm)).length=true:=vN ∅;simp[yY,jH,Jv,jcp (nm:=nm) h.nd ∅,ze nm l,yN,JS,g,a,e,i,KC (nm:=nm) λq p=>(d.mem q p).2,xY (nm:=nm) d.nd f,dCB,-List.length_map,j,-zY]
noncomputable def NS:List Str:=["pool_name","marks","sizes","owed","levels","loans","cash","served","entries","moves"]
abbrev I10(o:Bool)(a0 a1 a2 a3 a4 a5 a6 a7 a8 a9:D):D:=.ins o 0 NS [a0,a1,a2,a3,a4,a5,a6,a7,a8,a9]
def jpt:JL NS [a0,a1,a2,a3,a4,a5,a6,a7,a8,a9] "pool_name" = some a0:=rfl
def jlX:JL NS [a0,a1,a2,a3,a4,a5,a6,a7,a8,a9] "marks" = some a1:=rfl
def jl9:JL NS [a0,a1,a2,a3,a4,a5,a6,a7,a8,a9] "sizes" = some a2:=rfl
def jpo:JL NS [a0,a1,a2,a3,a4,a5,a6,a7,a8,a9] "owed" = some a3:=rfl
def jpW:JL NS [a0,a1,a2,a3,a4,a5,a6,a7,a8,a9] "levels" = some a4:=rfl
def jpi:JL NS [a0,a1,a2,a3,a4,a5,a6,a7,a8,a9] "loans" = some a5:=rfl
def jpz:JL NS [a0,a1,a2,a3,a4,a5,a6,a7,a8,a9] "cash" = some a6:=rfl
def jp3:JL NS [a0,a1,a2,a3,a4,a5,a6,a7,a8,a9] "entries" = some a8:=rfl
def jpG:JL NS [a0,a1,a2,a3,a4,a5,a6,a7,a8,a9] "moves" = some a9:=rfl
def g2:Jm 0 "sizes" km (I10 true a0 a1 a2 a3 a4 a5 a6 a7 a8 a9)=some (a2,λz=>I10 true a0 a1 z a3 a4 a5 a6 a7 a8 a9):=rfl
def g3:Jm 0 "owed" km (I10 true a0 a1 a2 a3 a4 a5 a6 a7 a8 a9)=some (a3,λz=>I10 true a0 a1 a2 z a4 a5 a6 a7 a8 a9):=rfl
def g4:Jm 0 "levels" km (I10 true a0 a1 a2 a3 a4 a5 a6 a7 a8 a9)=some (a4,λz=>I10 true a0 a1 a2 a3 z a5 a6 a7 a8 a9):=rfl
def g7:Jm 0 "served" km (I10 true a0 a1 a2 a3 a4 a5 a6 a7 a8 a9)=some (a7,λz=>I10 true a0 a1 a2 a3 a4 a5 a6 z a8 a9):=rfl
def g8:Jm 0 "entries" km (I10 true a0 a1 a2 a3 a4 a5 a6 a7 a8 a9)=some (a8,λz=>I10 true a0 a1 a2 a3 a4 a5 a6 a7 z a9):=rfl
def g9:Jm 0 "moves" km (I10 true a0 a1 a2 a3 a4 a5 a6 a7 a8 a9)=some (a9,λz=>I10 true a0 a1 a2 a3 a4 a5 a6 a7 a8 z):=rfl
def jp5:Jo NS [a0,a1,a2,a3,a4,a5,a6,a7,a8,a9] "cash" z=(NS,[a0,a1,a2,a3,a4,a5,z,a7,a8,a9]):=rfl
def jfw{a0 a1 a2 a3 a4 a5 a7 a8 a9}{ρ}{i}{pv}{m n}(a:pV i ρ=some (I10 true a0 a1 a2 a3 a4 a5 (.int m) a7 a8 a9))(b:pv ρ=some (.int n)):
  YK i km 0 "cash" (λm n=>m-n) pv ρ=some (.nx<|ρ.set i<|some<|I10 true a0 a1 a2 a3 a4 a5 (.int<|m-n) a7 a8 a9):=by
 have e:(NS.length<=900)=True:=by simp[NS]
 unfold YK;rw[a];simp[km,jpz,jp5,b,e]
def Qe{ρ}{i}{w}{L}{pk pv}{t}{N}{f}{a}{g}{n}(c:pV i ρ=some t)(d:L t=some (dct true N f,a))(e:pk ρ=some (.str w))(h:pv ρ=some (.int n))(b:w∈N)(j:N.length<=1000):
  vz i L pk g pv ρ=some (.nx<|ρ.set i<|some<|a<|dct true N<|put f w<|g (f w) n):=by
 rw[vz,e,L4,show vC (.str w)=some (.str w) from rfl,L4,c,L4,d,L4,show jeb (dct true N f,a).1=some (N.map KA.str,N.map λn=>D.int<|f n) from rfl,L4,YY f b,L4,show vn (.int<|f w)=some (f w) from rfl,L4,h,L4,show vn (.int n)=some n from rfl,L4,vN ∅,cond_true,Qn b];rfl
noncomputable def dSv(o:Bool)(l:W4):D:=.dK o (l.map KA.str)<|l.map λ_=>D.bl true
noncomputable def qx(l:W4)(w:List Nat):List (List Nat):=if w∈l then l else l++[w]
def jgE(l)(w):kn (l.map KA.str) (l.map λ_=>D.bl true) (.str w) (.bl true)=((qx l w).map KA.str,(qx l w).map λ_=>D.bl true):=by
 have b:(KA.str w∈l.map KA.str)↔w∈l:=by simp
 have c:∀ l:List (List Nat),ja4 (l.map KA.str) (l.map λ_=>D.bl true) (.str w) (.bl true)=l.map λ_=>D.bl true:=λl=>by
  induction l with
  | nil=>rfl
  | cons a l d=>rw[L5,L5,ja4,d];split<;>rfl
 unfold kn qx;by_cases h:w∈l
 ·rw[if_pos h,if_pos<|b.mpr h,c]
 ·rw[if_neg h,if_neg λz=>h<|b.mp z];simp
def jkC(a:pV i ρ=some (I10 true a0 a1 a2 a3 a4 a5 a6 (dSv true l) a8 a9))(b:pk ρ=some (.str w))(c:l.length<=1000):
  Vu i (Jm 0 "served" km) pk (pC<|.bl true) ρ=some (.nx<|ρ.set i<|some<|I10 true a0 a1 a2 a3 a4 a5 a6 (dSv true<|qx l w) a8 a9):=by
 unfold Vu;rw[show(pC<|D.bl true) ρ=some (.bl true) from rfl,L4,a,L4,g7,L4];show((pk ρ).bind λq=>_)=_;rw[b,L4];show(bif lim (l.map KA.str).length&&(true||_) then some (Out.nx<|ρ.set i<|some<|I10 true a0 a1 a2 a3 a4 a5 a6 (.dK true (kn (l.map KA.str) (l.map λ_=>D.bl true) (.str w)<|.bl true).1 (kn (l.map KA.str) (l.map λ_=>D.bl true) (.str w)<|.bl true).2) a8 a9) else none)=_;rw[vN ∅,jgE];rfl
def jf6(h:jG a3 (.str w)=some (.int v)):ji [I10 false a0 a1 a2 a3 a4 a5 a6 a7 a8 a9,.tup [.str Kv,.str w]]=some (.int v):=by
 simp[ji,jH,jU,jpo,h,jjy]
def ja9(h:jG a3 (.str w)=some (.int v))(h2:jG a2 (.str w)=some (.int u)):ji [I10 false a0 a1 a2 a3 a4 a5 a6 a7 a8 a9,.tup [.str yd,.str w]]=some (.int<|v+u):=by
 simp[ji,jH,jU,jpo,jl9,h,h2,jjy]
def jbK(h:jG a1 (.str w)=some (.int v))(h2:jG a4 (.str w)=some (.int u)):∃ z,ji [I10 false a0 a1 a2 a3 a4 a5 a6 a7 a8 a9,.tup [.str YR,.str w]]=some (.int z)/\0<=z:=by
 refine⟨if v-u<0 then 0 else v-u,?_,by split<;>lia⟩;have a:jip [.int<|v-u,.int 0]=some (.int<|if v-u<0 then 0 else v-u):=rfl;simp[ji,jH,jU,jlX,jpW,h,h2,jjy,a]
noncomputable def mx0(v:Int):Int:=if v<0 then 0 else v
def jcF:ji [I10 false (.str nm) a1 a2 a3 a4 (dLn false nm l) a6 a7 a8 a9,.tup [.str vF,.str w,.int j]]=some (.int<|mx0<|j-fnOf l w):=by
 have a:zV (dLn false nm l) [.str nm,.str w] (.int 0)=some (.int<|fnOf l w):=by
  show some ((KJ (l.map<|kL nm) (l.map vL) [.str nm,.str w]).getD (.int 0))=_;rw[jcJ]
 generalize fnOf l w=u at a;show _=some (D.int<|if j-u<0 then 0 else j-u);have b:jip [.int<|j-u,.int 0]=some (.int<|if j-u<0 then 0 else j-u):=rfl;simp[ji,jH,jU,jpi,jpt,a,jjy,b]
def jb6(h:w≠nm):ji [I10 false (.str nm) a1 a2 a3 a4 (dLn false nm l) a6 a7 a8 a9,.tup [.str jde,.str w]]=some (.int 0):=by
 have a:zV (dLn false nm l) [.str w,.str nm] (.int 0)=some (.int 0):=by
  show some ((KJ (l.map<|kL nm) (l.map vL) [.str w,.str nm]).getD (.int 0))=_;rw[jcD h];rfl
 simp[ji,jH,jU,jpi,jpt,a,jjy]
def jdv:ji [I10 false a0 a1 a2 a3 a4 a5 (.int v) a7 a8 a9,.tup [.str Vh,.str w]]=some (.int v):=by
 simp[ji,jH,jU,jpz,jjy]
structure En where
 pl:Int
 kd:List Nat
 nm:List Nat
 nd:Int
 gt:Int
noncomputable def e5(e:En):D:=.tup [.int e.pl,.str e.kd,.str e.nm,.int e.nd,.int e.gt]
structure Fl where
 sz:List Nat->Int
 ow:List Nat->Int
 lv:List Nat->Int
 ln:LN
 cash:Int
 sv:List (List Nat)
 en:List En
 mv:List MV
noncomputable abbrev PoolS.C(p:PoolS):List (List Nat):=p.told.map (·.1)
noncomputable abbrev PoolS.P(p:PoolS):List (List Nat):=p.marks.map (·.1)
def jw(p:PoolS)(o:Bool)(x:Fl):D:=I10 o (.str p.nm) (dct o p.P<|fnOf p.marks) (dct o p.C x.sz) (dct o p.C x.ow) (dct o p.P x.lv) (dLn o p.nm x.ln) (.int x.cash) (dSv o x.sv) (.lst o<|x.en.map e5)<|.lst o<|x.mv.map eM
def jm2(o)(N)(f):fz (dct o N f)=dct false N f:=by
 have:fzs (N.map λn=>D.int<|f n)=N.map λn=>D.int (f n):=qQ (λ_=>rfl) _;simp[dct,fz,this]
def jm8(o nm)(l):fz (dLn o nm l)=dLn false nm l:=by
 have:fzs (l.map vL)=l.map vL:=qQ (λ_=>rfl) _;simp[dLn,fz,this]
def jmG(o)(l):fz (dSv o l)=dSv false l:=by
 have:fzs (l.map λ_=>D.bl true)=l.map λ_=>D.bl true:=qQ (λ_=>rfl) _;unfold dSv;rw[fz,this]
def jaw(l:List En):fzs (l.map e5)=l.map e5:=qQ (λ_=>rfl) _
def QV(l:List En):frzs (l.map e5)=true:=kN (λ_=>rfl) _
def xm(l:List MV):fzs (l.map eM)=l.map eM:=qQ (λ_=>rfl) _
def Qu(l:List MV):frzs (l.map eM)=true:=kN (λ_=>rfl) _
def jir(p)(o)(x):fz (jw p o x)=jw p false x:=by
 unfold jw I10;simp[ jm2,jm8,jmG,fz,jaw,xm]
section
variable {p:PoolS}{x:Fl}{ρ:Rh}{w:List Nat}
def xU{i}{pv}{n}(a:pV i ρ=some (jw p true x))(b:pv ρ=some (.int n)):
  YK i km 0 "cash" (λm n=>m-n) pv ρ=some (.nx<|ρ.set i<|some<|jw p true {x with cash:=x.cash-n}):=jfw a b
def xh{i}{pv}{e}(a:pV i ρ=some (jw p true x))(b:pv ρ=some (e5 e))(c:x.en.length<=1000):
  qr i (Jm 0 "entries" km) pv ρ=some (.nx<|ρ.set i<|some<|jw p true {x with en:=x.en++[e]}):=by
 rw[qr,b,L4,a,L4];unfold jw;rw[g8,L4,zU,L4,vN ∅,cond_true,N4];rfl
def jnN{i}{pv}{m}(a:pV i ρ=some (jw p true x))(b:pv ρ=some (eM m))(c:x.mv.length<=1000):
  qr i (Jm 0 "moves" km) pv ρ=some (.nx<|ρ.set i<|some<|jw p true {x with mv:=x.mv++[m]}):=by
 rw[qr,b,L4,a,L4];unfold jw;rw[g9,L4,zU,L4,vN ∅,cond_true,N4];rfl
def jeu{i}{pk pv}{n}(a:pV i ρ=some (jw p true x))(b:pk ρ=some (.str w))(c:pv ρ=some (.int n))(d:w∈p.C)(e:p.C.length<=1000):
  vz i (Jm 0 "owed" km) pk (λm n=>m-n) pv ρ=some (.nx<|ρ.set i<|some<|jw p true {x with ow:=put x.ow w (x.ow w-n)}):=Qe a g3 b c d e
def jon{i}{pk pv}{n}(a:pV i ρ=some (jw p true x))(b:pk ρ=some (.str w))(c:pv ρ=some (.int n))(d:w∈p.C)(e:p.C.length<=1000):
  vz i (Jm 0 "sizes" km) pk (λm n=>m-n) pv ρ=some (.nx<|ρ.set i<|some<|jw p true {x with sz:=put x.sz w (x.sz w-n)}):=Qe a g2 b c d e
def jor{i}{pk pv}{n}(a:pV i ρ=some (jw p true x))(b:pk ρ=some (.str w))(c:pv ρ=some (.int n))(d:w∈p.P)(e:p.P.length<=1000):
  vz i (Jm 0 "levels" km) pk (λm n=>m+n) pv ρ=some (.nx<|ρ.set i<|some<|jw p true {x with lv:=put x.lv w (x.lv w+n)}):=Qe a g4 b c d e
def jlr{i}{pk pv}{n}(a:pV i ρ=some (jw p true x))(b:pk ρ=some (.str w))(c:pv ρ=some (.int n))(d:w∈p.P)(e:p.P.length<=1000):
  vz i (Jm 0 "levels" km) pk (λm n=>m-n) pv ρ=some (.nx<|ρ.set i<|some<|jw p true {x with lv:=put x.lv w (x.lv w-n)}):=Qe a g4 b c d e
def jkB{i}{pk}(a:pV i ρ=some (jw p true x))(b:pk ρ=some (.str w))(c:x.sv.length<=1000):
  Vu i (Jm 0 "served" km) pk (pC<|.bl true) ρ=some (.nx<|ρ.set i<|some<|jw p true {x with sv:=qx x.sv w}):=jkC a b c
def jn5{o}:ue 0 "pool_name" (jw p o x)=some (.str p.nm):=rfl
def jis{o}:ue 0 "owed" (jw p o x)=some (dct o p.C x.ow):=rfl
def jpa{o}:ue 0 "levels" (jw p o x)=some (dct o p.P x.lv):=rfl
def KU{o}:ue 0 "cash" (jw p o x)=some (.int x.cash):=rfl
def jof{o}:ue 0 "served" (jw p o x)=some (dSv o x.sv):=rfl
def jeq{c}(a:w∈p.C)(b:p.C.length<=1000):jq [jw p true x,.str Kv,.str w,.int c]=some (.non,jw p true {x with ow:=put x.ow w (x.ow w-c)}):=by
 simp[jq,JJ,yC,jeu (ρ:=[some<|jw p true x,some<|.str Kv,some<|.str w,some<|.int c,none]) (i:=0) (pk:=pV 2) (pv:=pV 3) rfl rfl rfl a b,K6]
def ja6{c}(a:w∈p.C)(b:p.C.length<=1000):jq [jw p true x,.str yd,.str w,.int c]=some (.non,jw p true {x with ow:=put x.ow w<|x.ow w-got c (x.ow w),sz:=put x.sz w (x.sz w-(c-got c (x.ow w)))}):=by
 have d:jaj [.int c,.int<|x.ow w]=some (.int<|got c<|x.ow w):=rfl;simp[jq,JJ,yC,jeu (ρ:=[some<|jw p true x,some<|.str yd,some<|.str w,some<|.int c,some<|.int<|got c<|x.ow w]) (i:=0) (pk:=pV 2) (pv:=pV 4) rfl rfl rfl a b,jon (ρ:=[some<|jw p true {x with ow:=put x.ow w (x.ow w-got c (x.ow w))},some<|.str yd,some<|.str w,some<|.int c,some<|.int<|got c<|x.ow w]) (i:=0) (pk:=pV 2) (pv:=p2 qp (pV 3)<|pV 4) (n:=c-got c (x.ow w)) rfl rfl (by simp) a b,jis,jC a,d,K6]
def jdr{c}(a:w∈p.P)(b:p.P.length<=1000):jq [jw p true x,.str YR,.str w,.int c]=some (.non,jw p true {x with lv:=put x.lv w (x.lv w+c)}):=by
 simp[jq,JJ,yC,jor (ρ:=[some<|jw p true x,some<|.str YR,some<|.str w,some<|.int c,none]) (i:=0) (pk:=pV 2) (pv:=pV 3) rfl rfl rfl a b,K6]
def jja{kw}(h:kw=vF\/kw=jde):Y2 false (.str kw) (.tup [.str [108,101,110,100],.str [98,97,99,107]])=some (.bl true):=by
 rcases h with rfl | rfl<;>rfl
def jiu{m}(k:0<m.2)(b:x.ln.length<=100)(c:x.mv.length<=1000):jq [jw p true x,.str vF,.str m.1,.int m.2]=some (.non,jw p true {x with ln:=mvF x.ln m,mv:=x.mv++[m]}):=by
 have a:∀ r:Rh,JK yS 0 (Jm 0 "loans" km) #[pF<|JI 0 "pool_name"<|pV 0,pF<|pV 1,pF<|pV 2,pF<|pV 3] (some (jw p true x)::some (.str vF)::some (.str m.1)::some (.int m.2)::r)=some (.non,some (jw p true {x with ln:=mvF x.ln m})::some (.str vF)::some (.str m.1)::some (.int m.2)::r):=by
  intro r;have d:Jm 0 "loans" km (jw p true x)=some (dLn true p.nm x.ln,λz=>I10 true (.str p.nm) (dct true p.P<|fnOf p.marks) (dct true p.C x.sz) (dct true p.C x.ow) (dct true p.P x.lv) z (.int x.cash) (dSv true x.sv) (.lst true<|x.en.map e5)<|.lst true<|x.mv.map eM):=rfl;have e2:jw p true {x with ln:=mvF x.ln m}=I10 true (.str p.nm) (dct true p.P<|fnOf p.marks) (dct true p.C x.sz) (dct true p.C x.ow) (dct true p.P x.lv) (dLn true p.nm<|mvF x.ln m) (.int x.cash) (dSv true x.sv) (.lst true<|x.en.map e5) (.lst true<|x.mv.map eM):=rfl;rw[e2];unfold JK;simp[jn5,d,jd3 b]
 simp[jq,JJ,yC,a,jnN (ρ:=[some<|jw p true {x with ln:=mvF x.ln m},some<|.str vF,some<|.str m.1,some<|.int m.2,none]) (i:=0) (pv:=jV #[pF<|pV 1,pF<|pV 2,pF<|pV 3]) rfl (by rfl) c,jja<|.inl rfl,k,K6,jb,-qr]
def Vp{kw}{c}(h:kw=Vh\/((kw=vF\/kw=jde)/\¬ 0<c)):jq [jw p true x,.str kw,.str w,.int c]=some (.non,jw p true x):=by
 rcases h with rfl | ⟨rfl | rfl,h⟩
 ·rfl
 ·have a:=jja<|.inl rfl;simp[jq,JJ,yC,a,h,K6,jb]
 ·have a:=jja<|.inr rfl;simp[jq,JJ,yC,a,h,K6,jb]
end
def JY(a:pV i ρ=some (jw p true x))(b:pa ρ=some ds)(c:frzs ds=true)
  (d:∀ a0 a1 a2 a3 a4 a5 a6 a7 a8 a9:D,JL NS [a0,a1,a2,a3,a4,a5,a6,a7,a8,a9] mn=none):yL m i 0 mn pa ρ=(m<|jw p true x::ds).bind λr=>some (r.1,ρ.set i<|some r.2):=by
 rw[yL,b,L4,a,L4];show(bif true&&(frzs ds&&(JL NS _ mn).isNone) then _ else none)=_;rw[d,c];rfl
def jdM(a:po ρ=some (jw p o x))(b:pa ρ=some ds)
  (c:∀ a0 a1 a2 a3 a4 a5 a6 a7 a8 a9:D,JL NS [a0,a1,a2,a3,a4,a5,a6,a7,a8,a9] mn=none) (e:m (jw p false x::fzs ds)=some r) (f:clean r=true):Yn m 0 mn po pa ρ=some r:=by
 rw[Yn,a,L4];show(bif true&&(JL NS _ mn).isNone then(pa ρ).bind λds=>(m<|fzs<|jw p o x::ds).bind λd=>bif frzs (jw p o x::ds)||clean d then some d else none else none)=_;rw[c,b,L4,fzs,jir,e,L4,f,Bool.or_true];rfl
def jfE(k:jc d (.int 0)=some (.str kw))(l:jc d (.int 1)=some (.str w))(fd:fz d=d)
  (j:ji [jw p false x,d]=some (.int nd))
  (give:jq [jw p true {x with cash:=x.cash-got nd x.cash,en:=x.en++[⟨pl,kw,w,nd,got nd x.cash⟩]},.str kw,.str w,.int<|got nd x.cash]=some (.non,jw p true y))
  (h:Y2 false (.str kw) (.tup [.str [112,97,121],.str [114,101,112,97,121]])=some (.bl b)) (q:x.en.length<=1000) (t:y.sv.length<=1000):
  jo [jw p true x,.int pl,d]=some (.non,jw p true<|if b=true/\got nd x.cash=nd/\0<nd then{y with sv:=qx y.sv w} else y):=by
 have m:jaj [.int nd,.int x.cash]=some (.int<|got nd x.cash):=rfl;generalize z:got nd x.cash=g at *;have n:=KU (p:=p) (x:=x) (o:=true);have a:∀ r:Rh,Yn ji 0 "need_of" (pV 0) #[pV 2] (some (jw p true x)::some (.int pl)::some d::r)=some (.int nd):=λr=>jdM rfl (ds:=[d]) (by simp) (λ_ _ _ _ _ _ _ _ _ _=>rfl) (by rw[show fzs [d]=[d] by rw[fzs,fd];rfl];exact j) rfl;have c:=xU (ρ:=[some<|jw p true x,some<|.int pl,some d,some<|.str kw,some<|.str w,some<|.int nd,some<|.int g]) (i:=0) (pv:=pV 6) rfl rfl;have e:=xh (ρ:=[some<|jw p true {x with cash:=x.cash-g},some<|.int pl,some d,some<|.str kw,some<|.str w,some<|.int nd,some<|.int g]) (i:=0) (pv:=jV #[pF<|pV 1,pF<|pV 3,pF<|pV 4,pF<|pV 5,pF<|pV 6]) (e:=⟨pl,kw,w,nd,g⟩) rfl (by rfl) q;have f:yL jq 0 0 "give" #[pF<|pV 3,pF<|pV 4,pF<|pV 6] [some<|jw p true {x with cash:=x.cash-g,en:=x.en++[⟨pl,kw,w,nd,g⟩]},some<|.int pl,some d,some<|.str kw,some<|.str w,some<|.int nd,some<|.int g]=some (.non,[some<|jw p true y,some<|.int pl,some d,some<|.str kw,some<|.str w,some<|.int nd,some<|.int g]):=by
  rw[JY rfl (ds:=[.str kw,.str w,.int g]) (by simp) rfl<|λ_ _ _ _ _ _ _ _ _ _=>rfl,give];rfl
 have s:=jkB (ρ:=[some<|jw p true y,some<|.int pl,some d,some<|.str kw,some<|.str w,some<|.int nd,some<|.int g]) (i:=0) (pk:=pV 4) rfl rfl t;cases b with
 | false=>simp[jo,JJ,j9,k,l,a,n,m,c,e,f,h,K6,jb,-qr,-Yn,-yL]
 | true=>
  by_cases u:g=nd
  ·subst u;by_cases v:0<g
   ·simp[jo,JJ,j9,k,l,a,n,m,c,e,f,s,h,v,K6,jb,-jaq,-qr,-Yn,-yL]
   ·simp[jo,JJ,j9,k,l,a,n,m,c,e,f,s,h,v,K6,jb,-jaq,-qr,-Yn,-yL]
  ·simp[jo,JJ,j9,k,l,a,n,m,c,e,f,s,h,u,K6,jb,-jaq,-qr,-Yn,-yL]
noncomputable def G3:List (List Nat):=[[101,97,116],[103,117,97,114,100],[116,119,105,99,101]]
def tot(es:List En):Int:=(es.map λe=>if e.kd∈G3 then 0 else e.gt).sum
def Qm(a b):tot (a++b)=tot a+tot b:=by unfold tot;rw[N4,List.sum_append]
def Vc(e):tot [e]=if e.kd∈G3 then 0 else e.gt:=by simp[tot]
def isL(e:En):Bool:=e.kd==vF&&decide (0<e.gt)
def mvE(es:List En):List MV:=(es.filter isL).map λe=>(e.nm,e.gt)
def QF(a b):mvE (a++b)=mvE a++mvE b:=by unfold mvE;rw[List.filter_append,N4]
noncomputable abbrev vU:List Nat:=[103,117,97,114,100]
noncomputable def mz(v:Int):Int:=if 0<v then v else 0
structure St where
 s:List Nat->Int
 w:List Nat->Int
 l:List Nat->Int
noncomputable def gp(G:List WG)(pl:Int):List Nat:=(G.getD pl.toNat ([],[])).1
def VN(G:List WG)(t:St)(e:En):St:=
 if e.kd=Kv\/e.kd=jI then⟨t.s,put t.w e.nm<|t.w e.nm-e.gt,t.l⟩
 else if e.kd=yd then⟨put t.s e.nm<|t.s e.nm-mz (e.gt-t.w e.nm),put t.w e.nm<|mz<|t.w e.nm-e.gt,t.l⟩
 else if e.kd=YR then⟨t.s,t.w,put t.l e.nm<|t.l e.nm+e.gt⟩
 else if e.kd=vU then⟨t.s,put t.w e.nm<|t.w e.nm-e.gt,put t.l (gp G e.pl)<|t.l (gp G e.pl)-e.gt⟩
 else t
def PoolOk.wc{O p w}(h:PoolOk O p)(b:w∈p.C):Wd w:=by
 obtain⟨a,c,rfl⟩:=M5.mp b;exact(h.told a c).1
structure EnW(p:PoolS)(e:En):Prop where
 ne:e.kd≠JO
 c:e.kd=Kv\/e.kd=jI\/e.kd=yd\/e.kd=vU->e.nm∈p.C
 f:e.kd=YR->e.nm∈p.P
 g:e.kd=vU->0<=e.pl/\e.pl<p.guards.length/\gp p.guards e.pl∈p.P
 w:(∀ c∈e.kd,c<1114112)/\∀ c∈e.nm,c<1114112
structure J32(p:PoolS)(t0:St)(c cash:Int)(en:List En)(mv:List MV)(t:St):Prop where
 cs:cash+tot en=c
 me:mv=mvE en
 wk:en.foldl (VN p.guards) t0=t
 ew:∀ e∈en,EnW p e
def J32.ad{p d c cash en mv t v b t'}(h:J32 p d c cash en mv t)(e)(k:v+tot [e]=cash)(f:b=mv++mvE [e])(g:EnW p e)(i:VN p.guards t e=t'):J32 p d c v (en++[e]) b t':=
 ⟨by have:=h.cs;rw[Qm];lia,by rw[f,QF,h.me],by rw[List.foldl_append,h.wk];exact i,λa j=>(N1.mp j).elim (h.ew a) λz=>by rw[M7.mp z];exact g⟩
def J32.o{p a c cash en mv t v t'}(h:J32 p a c cash en mv t)(e)(k:isL e=false)(g:G3.contains e.kd=false)(f:v=cash-e.gt)(b:EnW p e)(d:VN p.guards t e=t'):J32 p a c v (en++[e]) mv t':=
 h.ad e (by rw[Vc,if_neg ⇑g];lia) (by simp[mvE,k]) b d
def J32.z{p a c cash en mv t t'}(h:J32 p a c cash en mv t)(e)(k:isL e=false)(g:G3.contains e.kd=true)(b:EnW p e)(d:VN p.guards t e=t'):J32 p a c cash (en++[e]) mv t':=
 h.ad e (by rw[Vc,if_pos ⇑g];lia) (by simp[mvE,k]) b d
def J6{p e}(h:e.kd=Vh\/e.kd=vF\/e.kd=jde\/e.kd=[112,97,114,116]\/e.kd=[116,119,105,99,101])(g:∀ c∈e.nm,c<1114112):EnW p e/\∀ G t,VN G t e=t:=by
 have k:e.kd≠JO/\¬ (e.kd=Kv\/e.kd=jI)/\e.kd≠yd/\e.kd≠YR/\e.kd≠vU/\∀ c∈e.kd,c<1114112:=by rcases h with h | h | h | h | h<;>rw[h]<;>decide
 obtain⟨i,a,d,f,b,j⟩:=k;exact⟨⟨i,λz=>by rcases z with z | z | z | z;exact absurd (.inl z) a;exact absurd (.inr z) a;exact absurd z d;exact absurd z b,λz=>absurd z f,λz=>absurd z b,j,g⟩,λG t=>by unfold VN;rw[if_neg a,if_neg d,if_neg f,if_neg b]⟩
def J32.b{p d c cash en mv t v a}(h:J32 p d c cash en mv t)(e)(k:e.kd=vF)(i:v=cash-e.gt)(f:a=mv++mvE [e])(g:∀ c∈e.nm,c<1114112):J32 p d c v (en++[e]) a t:=by
 have q:=J6 (p:=p) (.inr<|.inl k) g;exact h.ad e (by rw[Vc,if_neg<|by rw[k];decide];lia) f q.1<|q.2 _ _
def jdf{G t}{e}(h:e.kd=yd):VN G t e=⟨put t.s e.nm<|t.s e.nm-mz (e.gt-t.w e.nm),put t.w e.nm<|mz<|t.w e.nm-e.gt,t.l⟩:=by
 unfold VN;rw[h,if_neg<|by decide,if_pos rfl]
def jdx{G t}{e}(h:e.kd=YR):VN G t e=⟨t.s,t.w,put t.l e.nm<|t.l e.nm+e.gt⟩:=by
 unfold VN;rw[h,if_neg<|by decide,if_neg<|by decide,if_pos rfl]
def jbG{G t}{e}(h:e.kd=vU):VN G t e=⟨t.s,put t.w e.nm<|t.w e.nm-e.gt,put t.l (gp G e.pl)<|t.l (gp G e.pl)-e.gt⟩:=by
 unfold VN;rw[h,if_neg<|by decide,if_neg<|by decide,if_neg<|by decide,if_pos rfl]
def jgl(g w):mz (g-w)=g-got g w/\mz (w-g)=w-got g w:=by
 unfold mz got;constructor<;>split<;>split<;>lia
def jf4{p}{e}(h:e.kd=Kv\/e.kd=jI\/e.kd=yd)(a:e.nm∈p.C)(b:∀ c∈e.nm,c<1114112):EnW p e:=by
 refine⟨λz=>?_,λ_=>a,λz=>?_,λz=>?_,?_,b⟩
 ·rw[z] at h;exact absurd h (by decide)
 ·rw[z] at h;exact absurd h (by decide)
 ·rw[z] at h;exact absurd h (by decide)
 ·rcases h with h | h | h<;>rw[h]<;>decide
def jo0{p}{e}(h:e.kd=YR)(a:e.nm∈p.P)(b:∀ c∈e.nm,c<1114112):EnW p e:=by
 refine⟨λz=>?_,λz=>?_,λ_=>a,λz=>?_,by rw[h];decide,b⟩<;>rw[h] at z<;>exact absurd z (by decide)
def joI{p}{e}(h:e.kd=vU)(a:e.nm∈p.C)(b:(0:Int)<=e.pl)(h1:e.pl<(p.guards.length:Int))(h2:gp p.guards e.pl∈p.P)(d:∀ c∈e.nm,c<1114112):EnW p e:=by
 refine⟨λz=>?_,λ_=>a,λz=>?_,λ_=>⟨b,h1,h2⟩,by rw[h];decide,d⟩<;>rw[h] at z<;>exact absurd z (by decide)
abbrev isS(e:En):Prop:=e.kd=Kv\/e.kd=jI\/e.kd=yd
noncomputable def nds(es:List En):Int:=(es.map (·.nd)).sum
noncomputable def gts(es:List En):Int:=(es.map (·.gt)).sum
structure Blk(pl:Int)(sv:W4)(es:List En)(sv':W4):Prop where
 pl:∀ e∈es,e.pl=pl
 kd:∃ k,∀ e∈es,e.kd=k
 sv:∀ w,w∈sv'↔w∈sv \/ ∃ e∈es,isS e/\e.nm=w/\0<nds es/\nds es=gts es
def mem_svPut{l}{w u}:u∈qx l w↔u∈l\/u=w:=by
 unfold qx;split
 ·exact⟨.inl,λz=>z.elim id λz=>z▸by assumption⟩
 ·simp
structure FlOk(p:PoolS)(O:W4)(c B:Int)(L0:LN)(J:St)(x:Fl):Prop where
 sz:∀ n,0<=x.sz n
 ow:∀ n,0<=x.ow n/\x.ow n<=B
 lv:∀ n,0<=x.lv n
 ln:x.ln=reN L0 x.mv
 mv:wE O c x.mv
 c0:0<=x.cash
 c1:x.cash<=c
 svl:x.sv.length<=x.en.length
 mvl:x.mv.length<=x.en.length
 js:J32 p J c x.cash x.en x.mv ⟨x.sz,x.ow,x.lv⟩
def zx(l)(w):(qx l w).length<=l.length+1:=by
 unfold qx;split<;>simp
def jfB [Decidable q] (ky:FlOk p O c B L0 J y) (a:y.sv.length+1<=y.en.length):FlOk p O c B L0 J (if q then{y with sv:=qx y.sv w} else y)/\(if q then{y with sv:=qx y.sv w} else y).en=y.en/\(if q then{y with sv:=qx y.sv w} else y).cash=y.cash:=by
 split
 ·exact⟨⟨ky.sz,ky.ow,ky.lv,ky.ln,ky.mv,ky.c0,ky.c1,N6 (zx _ _) a,ky.mvl,ky.js⟩,rfl,rfl⟩
 ·exact⟨ky,rfl,rfl⟩
def KP(h:∀ n,0<=f n/\f n<=B)(a:0<=v)(h1:v<=B)(n):0<=put f w v n/\put f w v n<=B:=by
 unfold put;split
 ·exact⟨a,h1⟩
 ·exact h n
def jbZ(h:PoolOk O p)(U:O.length<=2)(V:p.nm∉O)(W:LnOk O L0)(k:FlOk p O c B L0 J x) 
  (X:(d=.tup [.str kw,.str w]/\jdK p.C p.P O kw w)\/(∃ j,kw=vF/\d=.tup [.str kw,.str w,.int j]/\w∈O)) (f:Wd w) (Y:x.en.length<=900):
  ∃ x' e,jo [jw p true x,.int pl,d]=some (.non,jw p true x')/\FlOk p O c B L0 J x'/\x'.en=x.en++[e]/\(kw=Vh->x'.cash=0)/\Blk pl x.sv [e] x'.sv:=by
 have R:p.C.length<=1000:=by have:=h.told2;rw[L1];lia
 have Z:p.P.length<=1000:=by have:=h.marks2;rw[L1];lia
 have c0:=k.c0;have c1:=k.c1;have svl:=k.svl;have mvl:=k.mvl;have I:LnOk O x.ln:=by rw[k.ln];exact YH W k.mv
 have hll:=I.len U;have key:∀{nd:Int}{y:Fl}{b:Bool},jc d (.int 0)=some (.str kw)->jc d (.int 1)=some (.str w)->fz d=d->ji [jw p false x,d]=some (.int nd)->0<=nd ->
   (0<=got nd x.cash->got nd x.cash<=nd->got nd x.cash<=x.cash->jq [jw p true {x with cash:=x.cash-got nd x.cash,en:=x.en++[⟨pl,kw,w,nd,got nd x.cash⟩]},.str kw,.str w,.int<|got nd x.cash]=some (.non,jw p true y)/\
    y.cash=x.cash-got nd x.cash/\y.en=x.en++[⟨pl,kw,w,nd,got nd x.cash⟩]/\y.sv=x.sv/\(∀ n,0<=y.sz n)/\(∀ n,0<=y.ow n/\y.ow n<=B)/\(∀ n,0<=y.lv n)/\y.ln=reN L0 y.mv/\wE O c y.mv/\y.mv.length<=x.mv.length+1/\J32 p J c y.cash y.en y.mv ⟨y.sz,y.ow,y.lv⟩) ->
   Y2 false (.str kw) (.tup [.str [112,97,121],.str [114,101,112,97,121]])=some (.bl b)->(kw=Vh->nd=x.cash)->(b=true↔(kw=Kv\/kw=jI\/kw=yd)) ->
   ∃ x' e,jo [jw p true x,.int pl,d]=some (.non,jw p true x')/\FlOk p O c B L0 J x'/\x'.en=x.en++[e]/\(kw=Vh->x'.cash=0)/\Blk pl x.sv [e] x'.sv:=by
  intro nd y b i r fd v hnd give K L A;have M:0<=got nd x.cash/\got nd x.cash<=nd/\got nd x.cash<=x.cash:=by unfold got;split<;>lia
  obtain⟨gv,N,S,D,y4,y5,y6,y7,y8,y9,Q⟩:=give M.1 M.2.1 M.2.2;have e:=jfE i r fd v gv K ∅ (by rw[D];lia);have T:y.en.length=x.en.length+1:=by rw[S];simp
  have ky:FlOk p O c B L0 J y:=⟨y4,y5,y6,y7,y8,by rw[N];lia,by rw[N];lia,by rw[D];lia,by rw[T];exact N6 y9<|Nat.succ_le_succ mvl,Q⟩;obtain⟨r1,r2,r3⟩:=jfB (w:=w) (q:=b=true/\got nd x.cash=nd/\0<nd) ky (by rw[D,T];lia);refine⟨_,_,e,r1,r2.trans S,λz=>by rw[r3,N,L z];unfold got;split<;>lia,⟨λa s=>by rw[M7.mp s],⟨kw,λa s=>by rw[M7.mp s]⟩,λu=>?_⟩⟩;have s1:nds [⟨pl,kw,w,nd,got nd x.cash⟩]=nd:=by simp[nds]
  have s2:gts [⟨pl,kw,w,nd,got nd x.cash⟩]=got nd x.cash:=by simp[gts]
  rw[s1,s2];split
  ·next q=>
   rw[mem_svPut,D];constructor
   ·rintro(z | rfl)
    ·exact .inl z
    ·exact .inr ⟨_,M7.mpr rfl,A.mp q.1,rfl,q.2.2,q.2.1.symm⟩
   ·rintro(z | ⟨a,s,_,z,_⟩)
    ·exact .inl z
    ·rw[M7.mp s] at z;exact .inr z.symm
  ·next q=>
   rw[D];refine⟨.inl,λz=>z.elim id ?_⟩;rintro⟨a,s,z1,_,z2,z3⟩;rw[M7.mp s] at z1;exact absurd ⟨A.mpr z1,z3.symm,z2⟩ q
 rcases X with⟨rfl,hk⟩ | ⟨j,rfl,rfl,g⟩
 ·have i:jc (.tup [.str kw,.str w]) (.int 0)=some (.str kw):=rfl;have r:jc (.tup [.str kw,.str w]) (.int 1)=some (.str w):=rfl;rcases hk with⟨rfl | rfl | rfl,g⟩ | ⟨rfl,g⟩ | ⟨rfl,g⟩
  ·refine key (b:=true) i r rfl (jf6<|jC g) (k.ow w).1 (λt E g2=>⟨jeq g R,rfl,rfl,rfl,k.sz,?_,k.lv,k.ln,k.mv,by simp,k.js.o _ rfl rfl rfl (jf4 (.inl rfl) g f.2)<|by unfold VN;rw[if_pos<|.inl rfl]⟩) rfl (λz=>absurd z<|by decide) (by decide);have:=k.ow w;exact KP k.ow (by dsimp only;lia) (by dsimp only;lia)
  ·have hs:=k.sz w;have ho:=k.ow w;refine key (b:=true) i r rfl (ja9 (jC g)<|jC g) ∅ (λt E g2=>⟨ja6 g R,rfl,rfl,rfl,?_,?_,k.lv,k.ln,k.mv,by simp,k.js.o _ rfl rfl rfl (jf4 (.inr<|.inr rfl) g f.2) ?_⟩) rfl (λz=>absurd z<|by decide) (by decide)
   ·refine zL k.sz ?_;unfold got;split<;>lia
   ·refine KP k.ow ?_ ?_
    all_goals
     unfold got;split<;>lia
   ·rw[jdf rfl,(jgl _ _).1,(jgl _ _).2]
  ·refine key (b:=false) i r rfl jdv c0 (λt E g2=>⟨Vp<|.inl rfl,rfl,rfl,rfl,k.sz,k.ow,k.lv,k.ln,k.mv,by simp,k.js.o _ rfl rfl rfl (J6 (.inl rfl) f.2).1 ((J6 (p:=p) (.inl rfl) f.2).2 _ _)⟩) rfl (λ_=>rfl) (by decide)
  ·obtain⟨z,F,G⟩:=jbK (a0:=.str p.nm) (a1:=dct false p.P<|fnOf p.marks) (a2:=dct false p.C x.sz) (a3:=dct false p.C x.ow) (a4:=dct false p.P x.lv) (a5:=dLn false p.nm x.ln) (a6:=.int x.cash) (a7:=dSv false x.sv) (a8:=.lst false<|x.en.map e5) (a9:=.lst false<|x.mv.map eM) (w:=w) (jC g)<|jC g;refine key (b:=false) i r rfl F G (λt E g2=>⟨jdr g Z,rfl,rfl,rfl,k.sz,k.ow,?_,k.ln,k.mv,by simp,(k.js.o _ rfl rfl rfl (jo0 rfl g f.2)<|jdx rfl)⟩) rfl (λz=>absurd z<|by decide) (by decide)
   ·have:=k.lv w;exact zL k.lv (by dsimp only;lia)
  ·have t:got 0 x.cash=0:=by unfold got;split<;>lia
   exact key (b:=false) i r rfl (jb6 λz=>V<|z▸g) (Int.le_refl _) (λ_ _ _=>⟨Vp<|.inr ⟨.inr rfl,by rw[t];decide⟩,rfl,rfl,rfl,k.sz,k.ow,k.lv,k.ln,k.mv,by simp,k.js.o _ rfl rfl rfl (J6 (.inr<|.inr<|.inl rfl) f.2).1 ((J6 (p:=p) (.inr<|.inr<|.inl rfl) f.2).2 _ _)⟩) rfl (λz=>absurd z<|by decide) (by decide)
 ·have i:jc (.tup [.str vF,.str w,.int j]) (.int 0)=some (.str vF):=rfl;have r:jc (.tup [.str vF,.str w,.int j]) (.int 1)=some (.str w):=rfl;have F:=jcF (a1:=dct false p.P<|fnOf p.marks) (a2:=dct false p.C x.sz) (a3:=dct false p.C x.ow) (a4:=dct false p.P x.lv) (l:=x.ln) (nm:=p.nm) (a6:=.int x.cash) (a7:=dSv false x.sv) (a8:=.lst false<|x.en.map e5) (a9:=.lst false<|x.mv.map eM) (w:=w) (j:=j);have G:0<=mx0 (j-fnOf x.ln w):=by unfold mx0;split<;>lia
  generalize mx0 (j-fnOf x.ln w)=z at F G;by_cases H:0<got z x.cash
  ·refine key (b:=false) (y:={x with cash:=x.cash-got z x.cash,en:=x.en++[⟨pl,vF,w,z,got z x.cash⟩],ln:=mvF x.ln (w,got z x.cash),mv:=x.mv++[(w,got z x.cash)]}) i r rfl F G (λt E g2=>?_) rfl (λz=>absurd z<|by decide) (by decide);refine⟨jiu (x:={x with cash:=x.cash-got z x.cash,en:=x.en++[⟨pl,vF,w,z,got z x.cash⟩]}) (m:=(w,got z x.cash)) H (by dsimp only;lia)<|by dsimp only;lia,rfl,rfl,rfl,k.sz,k.ow,k.lv,?_,?_,by simp,?_⟩
   ·dsimp only;rw[reN,List.foldl_append,show x.mv.foldl mvF L0=x.ln from k.ln.symm];rfl
   ·exact λm hm=>(N1.mp hm).elim (k.mv m) λz=>by rw[M7.mp z];exact⟨g,H,by dsimp only;lia⟩
   ·exact k.js.b _ rfl rfl (by unfold mvE;rw[List.filter_cons_of_pos<|by simp[isL,H]];rfl) f.2
  ·exact key (b:=false) i r rfl F G (λt E g2=>⟨Vp<|.inr ⟨.inl rfl,H⟩,rfl,rfl,rfl,k.sz,k.ow,k.lv,k.ln,k.mv,by simp,k.js.b _ rfl rfl (by unfold mvE;rw[List.filter_cons_of_neg<|by simp[isL,H]];simp) f.2⟩) rfl (λz=>absurd z<|by decide) (by decide)
noncomputable abbrev W3s:=List Nat×Int×Int
noncomputable def eT(t:W3s):D:=.tup [.str t.1,.int t.2.1,.int t.2.2]
def shE(pl:Int)(t:W3s):En:=⟨pl,jI,t.1,t.2.1,t.2.2⟩
theorem jc4:∀(ws:W4) (ns gs:List Int),jbC (ws.map D.str) (ns.map D.int) (gs.map D.int)=(ws.zip<|ns.zip gs).map eT
 | [],_,_=>rfl
 | _::_,[],_=>rfl
 | _::_,_::_,[]=>rfl
 | w::ws,n::ns,g::gs=>by
  rw[L5,L5,L5,jbC,jc4 ws ns gs];rfl
theorem Kt(h:PoolOk O p)  : ∀{T:List W3s}{x}{o6 o7 o8},FlOk p O c B L0 J x->x.en.length+T.length<=950->(T.map (·.1)).Nodup ->
  (∀ t∈T,t.1∈p.C/\t.2.1=x.ow t.1/\0<=t.2.2/\t.2.2<=t.2.1)->(T.map (·.2.2)).sum<=x.cash ->
  Ex4 λx' o6' o7' o8'=>An4 (jB (gT 3<|gC (jd [0] 6)<|gC (jd [0] 7)<|gC (jd [0] 8) gN) yz (T.map eT) [some<|jw p true x,some<|.int pl,a2,a3,a4,some<|.bl b,o6,o7,o8]=some (.nx [some<|jw p true x',some<|.int pl,a2,a3,a4,some<|.bl b,o6',o7',o8'])) (FlOk p O c B L0 J x') (x'.en=x.en++T.map (shE pl)) (∀ w,w∈x'.sv↔w∈x.sv\/(b=true/\w∈T.map (·.1)))
 | [],x,o6,o7,o8,k,_,_,_,_=>⟨x,o6,o7,o8,rfl,k,by simp,by simp⟩
 | t::T,x,o6,o7,o8,k,D,nd,g,E=>by
  obtain⟨d,F,G,H⟩:=g t (by simp);rw[L5,List.nodup_cons] at nd;rw[M1] at D;rw[L5,List.sum_cons] at E;have I:0<=(T.map (·.2.2)).sum:=by
   have:∀(T:List W3s),(∀ t∈T,0<=t.2.2)->0<=(T.map (·.2.2)).sum:=λT=>by
    induction T with
    | nil=>intro _;simp
    | cons a T K=>intro q;rw[L5,List.sum_cons];have:=K<|λt g=>q t (by simp[g]);have:=q a (by simp);lia
   exact this T λj m=>(g j<|by simp[m]).2.2.1
  have L:p.C.length<=1000:=by have:=h.told2;rw[L1];lia
  have c1:=k.c1;have svl:=k.svl;have mvl:=k.mvl;have M:=k.ow t.1
  let N:Fl:={x with cash:=x.cash-t.2.2}
  let P:Fl:={N with ow:=put x.ow t.1 (x.ow t.1-t.2.2)}
  let r:Fl:={P with en:=x.en++[shE pl t]}
  let l:Fl:=if b=true then{r with sv:=qx x.sv t.1} else r
  have Q:FlOk p O c B L0 J l:=by
   have R:(x.en++[shE pl t]).length=x.en.length+1:=by simp
   have y:∀ n,0<=put x.ow t.1 (x.ow t.1-t.2.2) n/\put x.ow t.1 (x.ow t.1-t.2.2) n<=B:=KP k.ow ∅ ∅;have S:=zx x.sv t.1;have f:0<=x.cash-t.2.2/\x.cash-t.2.2<=c:=by lia
   cases b with
   | true=>exact⟨k.sz,y,k.lv,k.ln,k.mv,f.1,f.2,by lia,by lia,k.js.o _ rfl rfl rfl (jf4 (.inr<|.inl rfl) d (h.wc d).2)<|by unfold VN;rw[if_pos<|.inr rfl];rfl⟩
   | false=>exact⟨k.sz,y,k.lv,k.ln,k.mv,f.1,f.2,by lia,by lia,k.js.o _ rfl rfl rfl (jf4 (.inr<|.inl rfl) d (h.wc d).2)<|by unfold VN;rw[if_pos<|.inr rfl];rfl⟩
  have A:l.en=x.en++[shE pl t]:=by lia
  have U:l.ow=put x.ow t.1 (x.ow t.1-t.2.2):=by lia
  obtain⟨x',o6',o7',o8',e,V,s,u⟩:=Kt h (pl:=pl) (b:=b) Q (by rw[A];simp;lia) nd.2 (λj m=>by
   have:=g j (by simp[m]);have v:j.1≠t.1:=λz=>nd.1<|z▸M5.mpr ⟨j,m,rfl⟩;rw[U,V3 v];exact this) ∅
  refine⟨x',o6',o7',o8',?_,V,by rw[s,A];simp,λw=>?_⟩
  rotate_left
  ·rw[u w];cases b with
   | true=>
    have:w∈l.sv↔w∈x.sv\/w=t.1:=mem_svPut;rw[this,L5,M4];exact⟨λz=>z.elim (λz=>z.elim .inl λz=>.inr ⟨rfl,.inl z⟩) λz=>.inr ⟨rfl,.inr z.2⟩,λz=>z.elim (λz=>.inl<|.inl z) λz=>z.2.elim (λz=>.inl<|.inr z) λz=>.inr ⟨rfl,z⟩⟩
   | false=>
    have:l.sv=x.sv:=rfl;exact⟨λz=>z.elim .inl λz=>absurd z.1<|by decide,λz=>z.elim .inl λz=>absurd z.1<|by decide⟩
  rw[L5,lpF ?_,e];show yz [some<|jw p true x,some<|.int pl,a2,a3,a4,some<|.bl b,some<|.str t.1,some<|.int t.2.1,some<|.int t.2.2]=_;apply sq<|xU rfl rfl;apply sq<|jeu rfl rfl rfl d L;apply sq<|xh (e:=shE pl t) rfl (by rfl) ∅;cases b with
  | false=>rfl
  | true=>exact jkB (pk:=pV 6) (ρ:=[some<|jw p true r,some<|.int pl,a2,a3,a4,some<|.bl true,some<|.str t.1,some<|.int t.2.1,some<|.int t.2.2]) (i:=0) rfl rfl ∅
def jaG(l:List Int):frzs (l.map D.int)=true:=kN (λ_=>rfl) _
def KR(l:List Int):fzs (l.map D.int)=l.map D.int:=qQ (λ_=>rfl) _
def KN(l:List Int):yq (l.map D.int)=true:=by
 rw[yQ,List.all_map,List.all_eq_true];intro x _;rfl
theorem wz:∀{a:List α}{b:List β},a.length=b.length->(a.zip b).map (·.2)=b
 | [],[],_=>rfl
 | [],_::_,h=>by simp at h
 | _::_,[],h=>by simp at h
 | a::l,b::m,h=>by simp at h;simp[wz h]
theorem ww:∀{a:List α}{b:List β},a.length=b.length->(a.zip b).map (·.1)=a
 | [],[],_=>rfl
 | [],_::_,h=>by simp at h
 | _::_,[],h=>by simp at h
 | a::l,b::m,h=>by simp at h;simp[ww h]
def jbp{x}{O}{c B}(h:PoolOk O p)(k:FlOk p O c B L0 J x)(hB:B<=10 ^ 20)(hc:c<=2 ^ 900){pl}{ws:W4}(hl:ws.length<=20)(X:∀ w∈ws,w∈p.C)(nd:ws.Nodup)(hel:x.en.length<=900):
  Ex2 λx' es=>An5 (jQ [jw p true x,.int pl,.tup<|ws.map D.str]=some (.non,jw p true x')) (FlOk p O c B L0 J x') (x'.en=x.en++es) (es.length=ws.length) (Blk pl x.sv es x'.sv):=by
 have c0:=k.c0;have c1:=k.c1
 let ns:=ws.map x.ow
 have l:∀ v∈ns,0<=v/\v<=10 ^ 20:=λv Q=>by
  obtain⟨w,_,rfl⟩:=M5.mp Q;have:=k.ow w
  lia
 have y:=λv Q=>(l v Q).1;have m:ns.length=ws.length:=L1 ..;have A:ns.sum<=10 ^ 30:=by
  have:=jgs ns l
  lia
 have n:(vt ns x.cash).length=ws.length:=by rw[wV,m]
 let d:=vt ns x.cash
 let T:=ws.zip<|ns.zip d
 have f:T.map (·.1)=ws:=ww (by rw[List.length_zip,m,n];simp);have E:T.map (·.2)=ns.zip d:=wz (by rw[List.length_zip,m,n];simp);have F:T.map (·.2.2)=d:=by
  have:T.map (·.2.2)=(T.map (·.2)).map (·.2):=by simp
  rw[this,E];exact wz ∅
 have R:T.length=ws.length:=by rw[<- f,L1]
 have G:∀ t∈T,t.1∈p.C/\t.2.1=x.ow t.1/\0<=t.2.2/\t.2.2<=t.2.1:=by
  intro t r;obtain⟨i,hi⟩:=List.mem_iff_getElem?.mp r;rw[List.getElem?_zip_eq_some] at hi;obtain⟨Y,H⟩:=hi;rw[List.getElem?_zip_eq_some] at H;obtain⟨H,h3⟩:=H;have j:=jb7 c0 y h3 H;have s:=H;rw[List.getElem?_map,Y] at s;simp at s;exact⟨X _<|List.mem_of_getElem? Y,s.symm,j⟩
 have hgn:∀ g∈d,0<=g:=λg Z=>by
  rw[<- F] at Z;obtain⟨t,r,rfl⟩:=M5.mp Z;exact(G t r).2.2.1
 have hss:d.sum<=x.cash:=by
  rcases jbv c0 y with⟨q1,q2⟩ | q
  ·lia
  ·lia
 let b:Bool:=decide (0<ns.sum)&&decide (d=ns)
 obtain⟨x',o6,o7,o8,e,k',S,U⟩:=Kt h (a2:=some<|.tup<|ws.map D.str) (a3:=‹ns.map D.int›) (a4:=‹d.map D.int›) (b:=b) (o6:=none) (o7:=none) (o8:=none) k ∅ ∅ G ∅;have V:Blk pl x.sv (T.map<|shE pl) x'.sv:=by
  have n1:nds (T.map<|shE pl)=ns.sum:=by
   have:T.map (·.2.1)=ns:=by
    have:T.map (·.2.1)=(T.map (·.2)).map (·.1):=by simp
    rw[this,E];exact ww ∅
   unfold nds;rw[U0,<- this];rfl
  have n2:gts (T.map<|shE pl)=d.sum:=by unfold gts;rw[U0,<- F];rfl
  refine⟨λa I=>by obtain⟨t,_,rfl⟩:=M5.mp I;rfl,⟨jI,λa I=>by obtain⟨t,_,rfl⟩:=M5.mp I;rfl⟩,λw=>?_⟩;rw[U w,n1,n2,f];have W:ns.sum=d.sum->d=ns:=λz=>if_pos ∅;constructor
  ·rintro(z | ⟨j,hw⟩)
   ·exact .inl z
   ·have j:=j;rw[M0,decide_eq_true_eq,decide_eq_true_eq] at j;rw[<- f] at hw;obtain⟨t,r,rfl⟩:=M5.mp hw;exact .inr ⟨shE pl t,M5.mpr ⟨t,r,rfl⟩,.inr<|.inl rfl,rfl,j.1,by rw[j.2]⟩
  ·rintro(z | ⟨a,I,_,rfl,q1,q2⟩)
   ·exact .inl z
   ·obtain⟨t,r,rfl⟩:=M5.mp I;refine .inr ⟨?_,by rw[<- f];exact M5.mpr ⟨t,r,rfl⟩⟩;rw[M0,decide_eq_true_eq,decide_eq_true_eq];exact⟨q1,W q2⟩
 refine⟨x',T.map<|shE pl,?_,k',S,by rw[L1,R],V⟩;have ec:jS (jd [] 0) qT (pF<|p2 jG (JI 0 "owed"<|pV 1)<|pV 0) (ws.map D.str) [none,some<|jw p true x]=some (ns.map D.int):=by
  rw[U0];refine jv rfl (λρ=>∃ o,ρ=[o,some<|jw p true x]) ?_ ⟨none,rfl⟩;rintro q hq ρ ⟨o,rfl⟩;refine⟨[some<|.str q,some<|jw p true x],rfl,?_,_,rfl⟩;simp[jis,jC<|X q hq]
 have K:=KU (p:=p) (x:=x) (o:=true);have L:lim ws.length=true:=jb ∅;have M:=jjs true true d ns;have N:jjJ 3 [.tup<|ws.map D.str,.lst false<|ns.map D.int,.lst false<|d.map D.int]=some (T.map eT):=by
  rw[jpM rfl rfl rfl (by rw[L1,L1];lia)<|by rw[L1,L1];exact Nat.le_of_eq n.symm,Y5,KR,KR,jc4 ws ns d]
 have P:qZ [.lst false<|ns.map D.int,.int x.cash]=↑(d.map D.int):=(jdB ∅ l c0 ∅ A);have j:b=(decide (0<ns.sum)&&decide (d=ns)):=rfl
 clear_value T d ns b
 by_cases q:0<ns.sum
 ·have u:b=decide (d=ns):=by lia
  rw[u] at e;simp[jQ,JJ,yU,jr,ec,K,L,P,M,jaG,KR,KN,q,N,e,K6,yH,Y5]
 ·have u:b=false:=by lia
  rw[u] at e;simp[jQ,JJ,yU,jr,ec,K,L,P,M,jaG,KR,KN,q,N,e,K6,yH,Y5]
noncomputable abbrev jeA:List Nat:=[112,97,114,116]
noncomputable abbrev uW:List Nat:=[116,119,105,99,101]
def jbb(h:PoolOk O p)(k:FlOk p O c B L0 J x)  (h1:po∈p.P) (h2:cl∈p.C) {pl}(b:0<=pl) (d:pl<(p.guards.length:Int)) (a:gp p.guards pl=po) (j:x.en.length<=900):
  Ex2 λx' e=>An5 (ym [jw p true x,.int pl,.str po,.str cl]=some (.non,jw p true x')) (FlOk p O c B L0 J x') (x'.en=x.en++[e]) (x'.cash=x.cash) (x'.sv=x.sv/\e.kd=vU):=by
 have l:p.C.length<=1000:=by have:=h.told2;rw[L1];lia
 have m:p.P.length<=1000:=by have:=h.marks2;rw[L1];lia
 have n:=k.ow cl;have svl:=k.svl;have mvl:=k.mvl;have q:jaj [.int<|x.ow cl,.int<|x.lv po]=some (.int<|got (x.ow cl)<|x.lv po):=rfl;have A:=jaE n.1<|k.lv po;generalize got (x.ow cl) (x.lv po)=g at *
 let r:Fl:={x with lv:=put x.lv po (x.lv po-g)}
 let s:Fl:={r with ow:=put x.ow cl (x.ow cl-g)}
 let i:Fl:={s with en:=x.en++[⟨pl,vU,cl,x.ow cl,g⟩]}
 have t:(x.en++[(⟨pl,vU,cl,x.ow cl,g⟩:En)]).length=x.en.length+1:=by simp
 refine⟨i,⟨pl,vU,cl,x.ow cl,g⟩,?_,⟨k.sz,KP k.ow ∅ ∅,zL k.lv ∅,k.ln,k.mv,k.c0,k.c1,by lia,by lia,k.js.z _ rfl rfl (joI rfl h2 b d (by dsimp only;rw[a];exact h1) (h.wc h2).2)<|by rw[jbG rfl];dsimp only;rw[a]⟩,rfl,rfl,rfl,rfl⟩;have u:=jis (p:=p) (x:=x) (o:=true);have v:=jC (o:=true) (f:=x.ow) h2;have w:=jpa (p:=p) (x:=x) (o:=true);have y:=jC (o:=true) (f:=x.lv) h1;show((yV [some<|jw p true x,some<|.int pl,some<|.str po,some<|.str cl,none,none]).bind (K6 0))=_;have e:yV [some<|jw p true x,some<|.int pl,some<|.str po,some<|.str cl,none,none]=some (.nx [some<|jw p true i,some<|.int pl,some<|.str po,some<|.str cl,some<|.int<|x.ow cl,some<|.int g]):=by
  apply sq (ρ':=[some<|jw p true x,some<|.int pl,some<|.str po,some<|.str cl,some<|.int<|x.ow cl,none]) (by generalize jw p true x=X at *;generalize dct true p.C x.ow=D1 at *;simp[u,v]);apply sq (ρ':=[some<|jw p true x,some<|.int pl,some<|.str po,some<|.str cl,some<|.int<|x.ow cl,some<|.int g]) (by generalize jw p true x=X at *;generalize dct true p.P x.lv=D2 at *;simp[w,y,q]);apply sq<|jlr rfl rfl rfl h1 m;apply sq<|jeu rfl rfl rfl h2 l;exact xh rfl (by rfl) ∅
 rw[e];rfl
def ja2{p}{x:Fl}{O}{c B}{L0}{ts}{a1 a2}{A:List Int}(h:jc ts (.int 0)=↑(A.map D.int))(i:∀ v∈A,0<=v):∀{Q:List W2}{s}{x}{o4 o5 o6 o7},(∀ q∈Q,Wd q.1)->FlOk p O c B L0 J x->s+Q.length=A.length->x.en.length+Q.length<=900 ->
  Ex6 λx' es o4' o5' o6' o7'=>An5 (jB (gT 2<|gC (jd [0] 4)<|gC (jd [0] 5) gN) vH (yc s<|Q.map e2) [some<|jw p true x,a1,a2,some ts,o4,o5,o6,o7]=some (.nx [some<|jw p true x',a1,a2,some ts,o4',o5',o6',o7'])) (FlOk p O c B L0 J x') (x'.en=x.en++es) (es.length=Q.length) (x'.sv=x.sv/\∀ e∈es,e.kd=jeA):=by
 intro Q
 induction Q with
 | nil=>
  intro s x o4 o5 o6 o7 _ k _ _;exact⟨x,[],o4,o5,o6,o7,rfl,k,by simp,rfl,rfl,by simp⟩
 | cons q Q u=>
  intro s x o4 o5 o6 o7 j k w l;rw[M1] at w l;have b:s<A.length:=by lia
  have d:jc (.lst true<|A.map D.int) (.int s)=some (.int A[s]):=by
   rw[jj4 ∅ (by rw[L1];lia),N7,List.getElem?_map,X5 b];rfl
  have f:=i _<|List.getElem_mem b;generalize A[s]=ask at d f;have c0:=k.c0;have c1:=k.c1;have svl:=k.svl;have mvl:=k.mvl;have y:jaj [.int ask,.int x.cash]=some (.int<|got ask x.cash):=rfl;have M:0<=got ask x.cash/\got ask x.cash<=ask/\got ask x.cash<=x.cash:=by unfold got;split<;>lia
  generalize got ask x.cash=g at *
  let C:Fl:={x with cash:=x.cash-g}
  let E:Fl:={C with en:=x.en++[⟨s,jeA,q.1,ask,g⟩]}
  have F:(x.en++[(⟨s,jeA,q.1,ask,g⟩:En)]).length=x.en.length+1:=by simp
  have G:FlOk p O c B L0 J E:=⟨k.sz,k.ow,k.lv,k.ln,k.mv,by lia,by lia,by lia,by lia,k.js.o _ rfl rfl rfl (J6 (.inr<|.inr<|.inr<|.inl rfl) (j q<|by simp).2).1 ((J6 (p:=p) (.inr<|.inr<|.inr<|.inl rfl) (j q<|by simp).2).2 _ _)⟩;obtain⟨x',es,o4',o5',o6',o7',e,H,m,n,r,t⟩:=u (s:=s+1) (λq I=>j q<|by simp[I]) G ∅ ∅;refine⟨x',⟨s,jeA,q.1,ask,g⟩::es,o4',o5',o6',o7',?_,H,by rw[m];show(x.en++[_])++es=_;simp,by rw[M1,M1,n],r,λa K=>(M4.mp K).elim (λz=>by rw[z]) (t a)⟩;have L:=KU (p:=p) (x:=x) (o:=true);rw[L5,yc,lpF ?_,e];apply sq (ρ':=[some<|jw p true x,a1,a2,some ts,some<|.int s,some<|e2 q,some<|.int ask,o7]) (by generalize jw p true x=X at *;simp[h,d]);apply sq (ρ':=[some<|jw p true x,a1,a2,some ts,some<|.int s,some<|e2 q,some<|.int ask,some<|.int g]) (by generalize jw p true x=X at *;simp[L,y]);apply sq<|xU rfl rfl;exact xh rfl (by rfl) ∅
def jaY:∀{os:List OrdS}{o2},(∀ x∈os,OrdOk C P O x)->nm∈os.map (·.nm) ->
  ∃ o∈os,o.nm=nm/\∃ r,jB (jd [] 2) yh (os.map<|vG false) [a0,some<|.str nm,o2]=some (.rt (vG false o) r):=by
 intro os
 induction os with
 | nil=>
  intro o2 _ h;simp at h
 | cons o os f=>
  intro o2 c h;have d:jc (vG false o) (.int 0)=some (.str o.nm):=rfl;by_cases q:o.nm=nm
  ·refine⟨o,by simp,q,[a0,some<|.str nm,some<|vG false o],?_⟩;have a:(o.nm==nm)=true:=by lia
   rw[L5,ya];simp[yh,d,a,(c o<|by simp).frz]
  ·have a:=U1.mpr q;have g:nm∈os.map (·.nm):=by grind
   obtain⟨i,b,j,r,e⟩:=f (λx k=>c x<|by simp[k]) g;refine⟨i,by simp[b],j,r,?_⟩;have l:yh [a0,some<|.str nm,some<|vG false o]=some (.nx [a0,some<|.str nm,some<|vG false o]):=by
    simp[yh,d,a]
   rw[L5,lpE ?_ l,e];rfl
def jfX{p}{O}(h:PoolOk O p){nm}(a:nm∈p.orders.map (·.nm)):∃ o∈p.orders,o.nm=nm/\vE [jR false p,.str nm]=some (vG false o):=by
 obtain⟨o,b,c,r,e⟩:=jaY (a0:=some<|jR false p) (o2:=none) h.orders a;refine⟨o,b,c,?_⟩;have d:jc (jR false p) (.int 4)=‹p.orders.map (vG false)›:=rfl;simp[vE,jH,Yg,d,J4 h.orders,Y8 h.orders,e]
theorem xj:∀{ns}{l},f∉ns->ns.length=l.length->Jo ns l f v=(ns++[f],l++[v])
 | [],[],_,_=>rfl
 | [],_::_,_,e=>by simp at e
 | _::_,[],_,e=>by simp at e
 | n::ns,x::l,h,e=>by rw[Jo,if_neg λz=>h<|by simp[z],xj (λz=>h<|by simp[z]) ⇑e];rfl
def kh{f}{pv}{r:Rh}{ns}{l}{v}(a:pv (some (.ins true 0 ns l)::r)=some v)(h:f∉ns/\ns.length<=900:=by decide)(e:ns.length=l.length:=by rfl):J2 0 0 f pv (some (.ins true 0 ns l)::r)=some (.nx<|some (.ins true 0 (ns++[f])<|l++[v])::r):=by
 rw[J2,a,L4];show(bif (0==0)&&decide (ns.length<=900) then some (Out.nx<|some (D.ins true 0 (Jo ns l f v).1 (Jo ns l f v).2)::r) else none)=_;rw[xj h.1 e,X0 h.2];rfl
def jgZ{p}{O}(h:PoolOk O p){S W Rn Lv}{z c}{ln}(b:S.map (·.1)=p.C)(d:W.map (·.1)=p.C)(e:Lv.map (·.1)=p.P)(f:(ln.map (·.1)).Nodup)(a:ln.length<=1000):
  yG [.ins true 0 [] [],jR false p,bkD false S W Rn Lv z,.int c,.lst false<|ln.map<|eR p.nm]=some (.non,jw p true ⟨fnOf S,fnOf W,fnOf Lv,ln,c,[],[],[]⟩):=by
 have g:=Yk (o:=false) rfl h.marksn h.marks2;have i:=Yk (o:=false) b h.toldn<|vv b h.told2;have j:=Yk (o:=false) d h.toldn<|vv d h.told2;have k:=Yk (o:=false) e h.marksn<|vv e h.marks2;have eL:=jcp (nm:=p.nm) f a;have l:=ze p.nm ln;obtain⟨m,n,u,q,w⟩:=jbx S W Rn Lv z;have r:jc (jR false p) (.int 0)=some (.str p.nm):=rfl;have s:jc (jR false p) (.int 2)=‹p.marks.map e2›:=rfl;generalize bkD false S W Rn Lv z=BK,jR false p=PP at *;show _=some (D.non,D.ins true 0 NS [.str p.nm,dct true p.P<|fnOf p.marks,dct true p.C<|fnOf S,dct true p.C<|fnOf W,dct true p.P<|fnOf Lv,dLn true p.nm ln,.int c,.dK true [] [],.lst true [],.lst true []]);generalize dct true p.P (fnOf p.marks)=a1,dct true p.C (fnOf S)=a2,dct true p.C (fnOf W)=a3,dct true p.P (fnOf Lv)=a4,dLn true p.nm ln=a5 at *;have t:qH [some<|.ins true 0 [] [],some PP,some BK,some<|.int c,‹ln.map (eR p.nm)›]=some (.nx [some<|.ins true 0 NS [.str p.nm,a1,a2,a3,a4,a5,.int c,.dK true [] [],.lst true [],.lst true []],some PP,some BK,some<|.int c,‹ln.map (eR p.nm)›]):=by
  apply sq<|kh (v:=.str p.nm) (by simp[r]);apply sq<|kh (v:=a1) (by simp[s,g]);apply sq<|kh (v:=a2) (by simp[m,i]);apply sq<|kh (v:=a3) (by simp[n,j]);apply sq<|kh (v:=a4) (by simp[q,k]);apply sq<|kh (v:=a5) (by simp[eL,l,JS]);apply sq<|kh (v:=.int c) (by simp);apply sq<|kh rfl;apply sq<|kh (by rfl);exact kh (by rfl)
 exact congrArg (Option.bind · (K6 0)) t
theorem jgS(w):∀ l:List (List Nat),(Yh (l.map KA.str) (l.map λ_=>D.bl true)<|.str w).isSome=decide (w∈l)
 | []=>by simp[Yh]
 | a::l=>by
  rw[L5,L5,Yh];by_cases e:a=w
  ·rw[if_pos<|by rw[e],e];simp
  ·rw[if_neg λz=>e (by cases z;rfl),jgS w l];have:w∈a::l↔w∈l:=⟨λz=>(M4.mp z).resolve_left λz=>e z.symm,λz=>M4.mpr<|.inr z⟩;exact(decide_eq_decide.mpr this).symm
def jmS(o)(w)(l):xE true (.str w) (dSv o l)=some (.bl<|!decide (w∈l)):=by
 show some (D.bl<|true != (Yh (l.map KA.str) (l.map λ_=>D.bl true)<|.str w).isSome)=_;rw[jgS];cases decide (w∈l)<;>rfl
noncomputable def rnN(f:List Nat->Int)(sv:W4)(R:List W2):List W2:=R.map λq=>(q.1,if 0<f q.1/\q.1∉sv then q.2+1 else 0)
def xN(k:NC.length<=1000)  : ∀{R}{acc}{o4 o5 o6},(∀ q∈R,q.1∈NC)->acc.length+R.length<=1000 ->
  Ex3 λo4' o5' o6'=>jB (gA2 4 5) jD (R.map e2) [some<|jw p false x,a1,some<|dct true NC f,↑(acc.map e2),o4,o5,o6]=some (.nx [some<|jw p false x,a1,some<|dct true NC f,↑((acc++rnN f x.sv R).map e2),o4',o5',o6']):=by
 intro R
 induction R with
 | nil=>
  intro acc o4 o5 o6 _ _;exact⟨o4,o5,o6,by simp[rnN]⟩
 | cons q R l=>
  intro acc o4 o5 o6 h m;rw[M1] at m;have b:=jmS false q.1 x.sv;have i:=jof (p:=p) (x:=x) (o:=false);have d:=jC (o:=true) (f:=f)<|h q (by simp);have key:∃ o6',jD [some<|jw p false x,a1,some<|dct true NC f,↑(acc.map e2),some<|.str q.1,some<|.int q.2,o6]=some (.nx [some<|jw p false x,a1,some<|dct true NC f,↑((acc++[(q.1,if 0<f q.1/\q.1∉x.sv then q.2+1 else 0)]).map e2),some<|.str q.1,some<|.int q.2,o6']):=by
   by_cases j:0<f q.1
   ·by_cases c:q.1∈x.sv
    ·rw[X0 c] at b;exact⟨some<|.bl false,by simp(disch:=first | lia | (simp;done) | (simp;lia)) [jD,d,i,b,c,jb,e2]⟩
    ·rw[X1 c] at b;exact⟨some<|.bl true,by simp(disch:=first | lia | (simp;done) | (simp;lia)) [jD,d,i,b,j,c,jb,e2]⟩
   ·exact⟨some<|.bl false,by simp(disch:=first | lia | (simp;done) | (simp;lia)) [jD,d,j,jb,e2]⟩
  obtain⟨o6',g⟩:=key;obtain⟨o4',o5',a,e⟩:=l (acc:=acc++[(q.1,if 0<f q.1/\q.1∉x.sv then q.2+1 else 0)]) (λr n=>h r<|by simp[n]) (by simp;lia);refine⟨o4',o5',a,?_⟩;rw[L5,lpE ?_ g,e]
  ·rw[List.append_assoc];rfl
  ·rfl
def Yw(h:po ρ=some (dct o M f)):yB po ρ=↑((sz' M f).map e2):=by
 unfold yB;rw[h];show(bif frzs (M.map λn=>D.int<|f n) then some (D.lst true<|((M.map KA.str).zip (M.map λn=>D.int<|f n)).map λp=>D.tup [kaD p.1,p.2]) else none)=_;rw[QU,xw];simp[sz',e2]
def jfg{x}{O}(h:PoolOk O p){S W Rn Lv}{z}(a:S.map (·.1)=p.C)(b:Rn.map (·.1)=p.C):
  jJ [jw p false x,bkD false S W Rn Lv z]=some (bkD true (sz' p.C x.sz) (sz' p.C x.ow) (rnN (fnOf S) x.sv Rn) (sz' p.P x.lv) z):=by
 have u:=h.told2;have v:=vv b h.told2;have c:=Yk (o:=false) a h.toldn<|vv a h.told2;obtain⟨d,g,i,e⟩:=xN (p:=p) (x:=x) (NC:=p.C) (f:=fnOf S) (by rw[L1];lia) (a1:=some<|bkD false S W Rn Lv z) (acc:=[]) (o4:=none) (o5:=none) (o6:=none) (λq j=>by rw[<- b];exact M5.mpr ⟨q,j,rfl⟩) (by simp;lia);rw[X4,List.map_nil] at e;obtain⟨k,w,l,y,m⟩:=jbx S W Rn Lv z;have n:∀ r:Rh,yB (JI 0 "sizes"<|pV 0) (some (jw p false x)::r)=↑((sz' p.C x.sz).map e2):=λr=>Yw rfl;have s:∀ r:Rh,yB (JI 0 "owed"<|pV 0) (some (jw p false x)::r)=↑((sz' p.C x.ow).map e2):=λr=>Yw rfl;have t:∀ r:Rh,yB (JI 0 "levels"<|pV 0) (some (jw p false x)::r)=↑((sz' p.P x.lv).map e2):=λr=>Yw rfl;show _=some (D.tup [.lst true<|(sz' p.C x.sz).map e2,.lst true<|(sz' p.C x.ow).map e2,.lst true<|(rnN (fnOf S) x.sv Rn).map e2,.lst true<|(sz' p.P x.lv).map e2,.int z]);simp(disch:=first | lia | (simp;done) | (simp;lia)) [jJ,jH,vX,k,l,m,c,jF,vg,e,n,s,t,jb,-yB]
def jbn{Q:List W2}(h:PoolOk O p)(k:FlOk p O c B L0 J x)(n:c<=2 ^ 900)  (t:∀ q∈Q,Wd q.1/\1<=q.2/\q.2<=10) (u:Q.length<=10) (M:x.en.length<=100):
  Ex2 λx' es=>An5 (jP [jw p true x,.lst false<|Q.map e2]=some (.non,jw p true x')) (FlOk p O c B L0 J x') (x'.en=x.en++es) (es.length<=11) (x'.sv=x.sv/\∀ e∈es,¬ isS e):=by
 have c0:=k.c0;have c1:=k.c1;have C:∀ q∈Q,PtOk q:=λq r=>⟨(t q r).2.1,(t q r).2.2⟩;have E:=jfA u C c0 ∅;have al:=jeo (P:=Q) (c:=x.cash);obtain⟨d,es,F,G,H,I,e,b,j,N,f,v⟩:=ja2 (ts:=.tup [.lst true<|(yD Q x.cash).1.map D.int,.int (yD Q x.cash).2]) (a1:=‹Q.map e2›) (a2:=some<|.int x.cash) rfl (jg1 C c0) (s:=0) (x:=x) (o4:=none) (o5:=none) (o6:=none) (o7:=none) (λq r=>(t q r).1) k ∅ ∅;have l:∀ a∈es,¬ isS a:=λa w=>by unfold isS;rw[v a w];decide
 have m:=KU (p:=p) (x:=x) (o:=true);have R:jc (.tup [.lst true<|(yD Q x.cash).1.map D.int,.int (yD Q x.cash).2]) (.int 0)=↑((yD Q x.cash).1.map D.int):=rfl;have K:jc (.tup [.lst true<|(yD Q x.cash).1.map D.int,.int (yD Q x.cash).2]) (.int 1)=some (.int (yD Q x.cash).2):=rfl;by_cases L:0<(yD Q x.cash).2
 ·let g:En:=⟨-1,uW,[],(yD Q x.cash).1.sum,x.cash⟩
  let y:Fl:={d with en:=d.en++[g]}
  have V:(d.en++[g]).length=d.en.length+1:=by simp
  have S:=b.svl;have T:=b.mvl;refine⟨y,es++[g],?_,⟨b.sz,b.ow,b.lv,b.ln,b.mv,b.c0,b.c1,by lia,by lia,b.js.z _ rfl rfl (J6 (.inr<|.inr<|.inr<|.inr rfl)<|by intro c n;cases n).1 ((J6 (p:=p) (.inr<|.inr<|.inr<|.inr rfl)<|by intro c n;cases n).2 _ _)⟩,by show d.en++[g]=_;rw[j];simp,by simp;lia,f,λa w=>(N1.mp w).elim (l a) λz=>by rw[M7.mp z];show ¬ (uW=Kv\/uW=jI\/uW=yd);decide⟩;have A:d.en.length<=1000:=by rw[j,N3];lia
  have s2:=xh (ρ:=[some<|jw p true d,‹Q.map e2›,some<|.int x.cash,some<|.tup [.lst true<|(yD Q x.cash).1.map D.int,.int (yD Q x.cash).2],F,G,H,I]) (i:=0) (pv:=jV #[p1 wK<|pI 1,pS [116,119,105,99,101],pS [],pCB jch #[p2 jc (pV 3)<|pI 0],pF<|pV 2]) (e:=g) rfl (by simp[jb,e5,g,R]) A;have U:jw p true {d with en:=d.en++[g]}=jw p true y:=rfl;rw[U] at s2
  clear_value y g
  simp[jP,JJ,yW,m,E,jF,vg,e,K,L,s2,K6,-qr]
 ·refine⟨d,es,?_,b,j,by lia,f,l⟩;simp[jP,JJ,yW,m,E,jF,vg,e,K,L,K6]
def jfx (h : PoolOk O p) (v : O.length <= 2) (y : p.nm ∉ O) (z : LnOk O L0) (A : B <= 10 ^ 20) (E : c <= 2 ^ 900)  (k : FlOk p O c B L0 J x)  (F : RuleS p.C p.P O d) (G : x.en.length <= 800)
     : ∃ x' es,Jk [a0,a1,a2,a3,a4,a5,some<|jw p true x,some<|.int pl,some d,a9]=some (.nx [a0,a1,a2,a3,a4,a5,some<|jw p true x',some<|.int pl,some d,a9])/\FlOk p O c B L0 J x'/\x'.en=x.en++es/\es.length<=20/\Blk pl x.sv es x'.sv/\∀ w,d=.tup [.str Vh,.str w]->x'.cash=0:=by
 have a:∀{kw w},((d=.tup [.str kw,.str w]/\jdK p.C p.P O kw w)\/(∃ j,kw=vF/\d=.tup [.str kw,.str w,.int j]/\w∈O))->(kw==jI)=false->jc d (.int 0)=some (.str kw)->frz d=true->fz d=d->Wd w ->
   ∃ x' es,Jk [a0,a1,a2,a3,a4,a5,some<|jw p true x,some<|.int pl,some d,a9]=some (.nx [a0,a1,a2,a3,a4,a5,some<|jw p true x',some<|.int pl,some d,a9])/\FlOk p O c B L0 J x'/\x'.en=x.en++es/\es.length<=20/\Blk pl x.sv es x'.sv/\∀ w,d=.tup [.str Vh,.str w]->x'.cash=0:=by
  intro kw w hd n f g H o;obtain⟨x',e,ex,q,I,K,b⟩:=jbZ h v y z k hd o ∅;refine⟨x',[e],?_,q,I,by simp,b,λu r=>K<|by rw[r] at f;cases f;rfl⟩;have m:=JY (m:=jo) (mn:="take_rule") (pa:=#[pF<|pV 7,pF<|pV 8]) (ρ:=[a0,a1,a2,a3,a4,a5,some<|jw p true x,some<|.int pl,some d,a9]) (i:=6) (ds:=[.int pl,d]) rfl (by simp[g]) (by simp[g])<|λ_ _ _ _ _ _ _ _ _ _=>rfl;rw[ex,L4] at m;simp[Jk,f,n,m,-yL]
 cases F with
 | two kw w n Q L l=>
  exact a (.inl ⟨rfl,l⟩) (U1.mpr n) rfl rfl rfl L
 | lend w i t l=>exact a (.inr ⟨i,rfl,rfl,l⟩) rfl rfl rfl rfl t
 | share s M t l nd=>
  obtain⟨x',es,ex,q,bl,N,b⟩:=jbp h k A E (N6 M<|by decide) l nd ∅;refine⟨x',es,?_,q,bl,by lia,b,λu r=>by cases r⟩;have m:=JY (m:=jQ) (mn:="take_share") (pa:=#[pF<|pV 7,pF<|p2 jc (pV 8)<|pI 1]) (ρ:=[a0,a1,a2,a3,a4,a5,some<|jw p true x,some<|.int pl,some<|.tup [.str jI,.tup<|s.map D.str],a9]) (i:=6) (ds:=[.int pl,.tup<|s.map D.str]) rfl (by simp[jjy]) (by simp)<|λ_ _ _ _ _ _ _ _ _ _=>rfl;rw[ex,L4] at m;have f:jc (.tup [.str jI,.tup<|s.map D.str]) (.int 0)=some (.str jI):=rfl;simp[Jk,f,m,-yL]
noncomputable def nF(en:List En)(pl:Int)(kd:List Nat):Int:=((en.filter λe=>decide<|e.pl=pl/\e.kd=kd).map (·.nd)).sum
noncomputable def gF(en:List En)(pl:Int)(kd:List Nat):Int:=((en.filter λe=>decide<|e.pl=pl/\e.kd=kd).map (·.gt)).sum
def yM(a b pl kd):nF (a++b) pl kd=nF a pl kd+nF b pl kd/\gF (a++b) pl kd=gF a pl kd+gF b pl kd:=by
 unfold nF gF;rw[List.filter_append,N4,N4,List.sum_append,List.sum_append];exact⟨rfl,rfl⟩
def xJ{a pl kd}(h:∀ e∈a,¬ (e.pl=pl/\e.kd=kd)):nF a pl kd=0/\gF a pl kd=0:=by
 have:(a.filter λe=>decide<|e.pl=pl/\e.kd=kd)=[]:=List.filter_eq_nil_iff.mpr ⇑h;unfold nF gF;rw[this];exact⟨rfl,rfl⟩
def jcK{a pl kd}(h:∀ e∈a,e.pl=pl/\e.kd=kd):nF a pl kd=nds a/\gF a pl kd=gts a:=by
 have:(a.filter λe=>decide<|e.pl=pl/\e.kd=kd)=a:=List.filter_eq_self.mpr ⇑h;unfold nF gF;rw[this];exact⟨rfl,rfl⟩
structure SvI(s:Int)(en:List En)(sv:W4):Prop where
 lt:∀ e∈en,isS e->e.pl<s
 m:∀ w,w∈sv↔∃ e∈en,isS e/\e.nm=w/\0<nF en e.pl e.kd/\nF en e.pl e.kd=gF en e.pl e.kd
def SvI.add{s en sv es g}(h:SvI s en sv)(k:Blk s sv es g):SvI (s+1) (en++es) g:=by
 obtain⟨o,n⟩:=k.kd;have i:∀ e∈en,isS e->nF es e.pl e.kd=0/\gF es e.pl e.kd=0:=λe b c=>xJ λa d z=>by
  have:=h.lt e b c;have:=k.pl a d;lia
 have j:∀ e∈es,isS e->nF en e.pl e.kd=0/\gF en e.pl e.kd=0:=λe b c=>xJ λa d z=>by
  have:=h.lt a d (by unfold isS;rw[z.2];exact c);have:=k.pl e b;lia
 have l:∀ e∈es,nF es e.pl e.kd=nds es/\gF es e.pl e.kd=gts es:=λe b=>jcK λa d=>⟨by rw[k.pl a d,k.pl e b],by rw[n a d,n e b]⟩;refine⟨λe b c=>?_,λw=>?_⟩
 ·rcases N1.mp b with b | b
  ·have:=h.lt e b c;lia
  ·have:=k.pl e b;lia
 ·rw[k.sv w,h.m w];constructor
  ·rintro(⟨e,b,c,f,q⟩ | ⟨e,b,c,f,q⟩)
   ·refine⟨e,N1.mpr<|.inl b,c,f,?_⟩;rw[(yM en es _ _).1,(yM en es _ _).2,(i e b c).1,(i e b c).2,Int.add_zero,Int.add_zero];exact q
   ·refine⟨e,N1.mpr<|.inr b,c,f,?_⟩;rw[(yM en es _ _).1,(yM en es _ _).2,(j e b c).1,(j e b c).2,(l e b).1,(l e b).2,Int.zero_add,Int.zero_add];exact q
  ·rintro⟨e,b,c,f,q⟩;rw[(yM en es _ _).1,(yM en es _ _).2] at q;rcases N1.mp b with b | b
   ·rw[(i e b c).1,(i e b c).2,Int.add_zero,Int.add_zero] at q;exact .inl ⟨e,b,c,f,q⟩
   ·rw[(j e b c).1,(j e b c).2,(l e b).1,(l e b).2,Int.zero_add,Int.zero_add] at q;exact .inr ⟨e,b,c,f,q⟩
def SvI.pre{s en sv es}(h:SvI s en sv)(k:∀ e∈es,¬ isS e):SvI s (es++en) sv:=by
 have d:∀ e,isS e->nF es e.pl e.kd=0/\gF es e.pl e.kd=0:=λe b=>xJ λa g z=>k a g (by unfold isS;rw[z.2];exact b);refine⟨λe c b=>?_,λw=>?_⟩
 ·rcases N1.mp c with c | c
  ·exact absurd b<|k e c
  ·exact h.lt e c b
 ·rw[h.m w];constructor
  ·rintro⟨e,c,b,f,q⟩;refine⟨e,N1.mpr<|.inr c,b,f,?_⟩;rw[(yM es en _ _).1,(yM es en _ _).2,(d e b).1,(d e b).2,Int.zero_add,Int.zero_add];exact q
  ·rintro⟨e,c,b,f,q⟩;rw[(yM es en _ _).1,(yM es en _ _).2,(d e b).1,(d e b).2,Int.zero_add,Int.zero_add] at q;rcases N1.mp c with c | c
   ·exact absurd b<|k e c
   ·exact⟨e,c,b,f,q⟩
def SvI.skip{s en sv es}(h:SvI s en sv)(k:∀ e∈es,¬ isS e):SvI s (en++es) sv:=by
 have d:∀ e,isS e->nF es e.pl e.kd=0/\gF es e.pl e.kd=0:=λe b=>xJ λa g z=>k a g (by unfold isS;rw[z.2];exact b);refine⟨λe c b=>?_,λw=>?_⟩
 ·rcases N1.mp c with c | c
  ·exact h.lt e c b
  ·exact absurd b<|k e c
 ·rw[h.m w];constructor
  ·rintro⟨e,c,b,f,q⟩;refine⟨e,N1.mpr<|.inl c,b,f,?_⟩;rw[(yM en es _ _).1,(yM en es _ _).2,(d e b).1,(d e b).2,Int.add_zero,Int.add_zero];exact q
  ·rintro⟨e,c,b,f,q⟩;rw[(yM en es _ _).1,(yM en es _ _).2,(d e b).1,(d e b).2,Int.add_zero,Int.add_zero] at q;rcases N1.mp c with c | c
   ·exact⟨e,c,b,f,q⟩
   ·exact absurd b<|k e c
def jaX(h:PoolOk O p)(n:O.length<=2)(o:p.nm∉O)(q:LnOk O L0)(r:B<=10 ^ 20)(t:c<=2 ^ 900)  : ∀{R}{s}{x}{o7 o8},(∀ d∈R,RuleS p.C p.P O d)->SvI s x.en x.sv->FlOk p O c B L0 J x->x.en.length+20*R.length<=800 ->
  Ex4 λx' es o7' o8'=>An7 (jB (gA2 7 8) Jk (YS s R) [a0,a1,a2,a3,a4,a5,some<|jw p true x,o7,o8,a9]=some (.nx [a0,a1,a2,a3,a4,a5,some<|jw p true x',o7',o8',a9])) (FlOk p O c B L0 J x') (x'.en=x.en++es) (es.length<=20*R.length) (R=[]->x'=x) (∀ R0 w,R=R0++[.tup [.str Vh,.str w]]->x'.cash=0) (∃ s',SvI s' x'.en x'.sv):=by
 intro R
 induction R with
 | nil=>
  intro s x o7 o8 _ sv k _;exact⟨x,[],o7,o8,rfl,k,by simp,by simp,λ_=>rfl,λR0 w z=>by simp at z,s,sv⟩
 | cons d R u=>
  intro s x o7 o8 m sv k f;rw[M1] at f;obtain⟨D,g,v,y,b,E,i,z1⟩:=jfx h n o q r t k (m d<|by simp) ∅;obtain⟨x',es,o7',o8',e,A,j,F,w1,w2,l⟩:=u (λd hd=>m d<|by simp[hd]) (by rw[b];exact sv.add i) y (by rw[b,N3];lia);refine⟨x',g++es,o7',o8',?_,A,by rw[j,b,List.append_assoc],by rw[N3,M1];lia,λ(z:d::R=[])=>(nomatch z),λR0 w z=>?_,l⟩
  rotate_left
  ·cases R0 with
   | nil=>
    cases z;rw[w1 rfl];exact z1 w rfl
   | cons a R0=>
    cases z;exact w2 R0 w rfl
  rw[YS,lpE ?_ v,e];rfl
def wR(h:PoolOk O p)  : ∀{G}{s}{x}{o7 o9},(∀ g∈G,g.1∈p.P/\g.2∈p.C)->p.guards.drop s=G->FlOk p O c B L0 J x->x.en.length+G.length<=900 ->
  Ex4 λx' es o7' o9'=>An6 (jB (gA2 7 9) QY (yc s<|G.map eG) [a0,a1,a2,a3,a4,a5,some<|jw p true x,o7,a8,o9]=some (.nx [a0,a1,a2,a3,a4,a5,some<|jw p true x',o7',a8,o9'])) (FlOk p O c B L0 J x') (x'.en=x.en++es) (es.length=G.length) (x'.cash=x.cash) (x'.sv=x.sv/\∀ e∈es,¬ isS e):=by
 intro G
 induction G with
 | nil=>
  intro s x o7 o9 _ _ k _;exact⟨x,[],o7,o9,rfl,k,by simp,rfl,rfl,rfl,by simp⟩
 | cons g G t=>
  intro s x o7 o9 f hd k j;rw[M1] at j;have b:p.guards[s]?=some g:=by have:=congrArg (·[0]?) hd;simpa using this
  have u:=(L9.mp b).1;obtain⟨H,v,ex,w,d,c1,l,n⟩:=jbb h k (pl:=s) (f g<|by simp).1 (f g<|by simp).2 ∅ ∅ (by unfold gp;rw[N7,List.getD_eq_getElem?_getD,b];rfl) ∅;obtain⟨x',es,o7',o9',e,y,o,A,D,q,r⟩:=t (s:=s+1) (o7:=some<|.int s) (o9:=some<|eG g) (λg E=>f g<|by simp[E]) (by rw[<- List.drop_drop,hd];rfl) w (by rw[d,N3,List.length_singleton];lia);refine⟨x',v::es,o7',o9',?_,y,by rw[o,d];simp,by rw[M1,A,M1],D.trans c1,q.trans l,λa F=>(M4.mp F).elim (λz=>by rw[z];unfold isS;rw[n];decide) (r a)⟩;have m:=JY (m:=ym) (mn:="take_guard") (pa:=#[pF<|pV 7,pF<|p2 jc (pV 9)<|pI 0,pF<|p2 jc (pV 9)<|pI 1]) (ρ:=[a0,a1,a2,a3,a4,a5,some<|jw p true x,some<|.int s,a8,some<|eG g]) (i:=6) rfl (by rfl) rfl<|λ_ _ _ _ _ _ _ _ _ _=>rfl;rw[ex,L4] at m;rw[L5,yc,lpF ?_,e];simp[QY,m,-yL]
def jmT(a:pV i ρ=some (jw p true x))(b:pe ρ=some r):jka i 0 "entries" "moves" pe ρ=some (.tup [.lst true<|x.en.map e5,r,.lst true<|x.mv.map eM],ρ.set i none):=by
 rw[jka,a,L4];have c:zr (jw p true x)=some (0,NS,[.str p.nm,dct true p.P<|fnOf p.marks,dct true p.C x.sz,dct true p.C x.ow,dct true p.P x.lv,dLn true p.nm x.ln,.int x.cash,dSv true x.sv,.lst true<|x.en.map e5,.lst true<|x.mv.map eM]):=rfl;rw[c,L4,jp3,jpG,b];rfl
structure BkOk(p:PoolS)(B:Int)(S W Rn Lv:List W2):Prop where
 s1:S.map (·.1)=p.C
 s2:∀ q∈S,0<=q.2
 w1:W.map (·.1)=p.C
 w2:∀ q∈W,0<=q.2/\q.2<=B
 r1:Rn.map (·.1)=p.C
 l1:Lv.map (·.1)=p.P
 l2:∀ q∈Lv,0<=q.2
 r2:∀ q∈Rn,0<=q.2
 r3:∀ q∈Rn,q.2<=B
def xK{B}{S:List W2}(a:0<=B)(h:∀ q∈S,q.2<=B)(n):fnOf S n<=B:=by
 unfold fnOf
 induction S with
 | nil=>exact a
 | cons q S b=>
  rw[lkp];by_cases e:q.1=n
  ·rw[if_pos e];exact h q (by simp)
  ·rw[if_neg e];exact b λr c=>h r (by simp[c])
def jit{p:PoolS}{O:W4}{c B:Int}{L0:LN}(h:PoolOk O p)(X:O.length<=2)(hn:p.nm∉O)(F:LnOk O L0)(G:0<=B)(hB:B<=10 ^ 20)(H:0<=c)(Y:c<=2 ^ 900){S W Rn Lv:List W2}{z:Int}(b:BkOk p B S W Rn Lv){nm:List Nat}(hm:nm∈p.orders.map (·.nm)):
  Ex2 λ(x:Fl) (es:List En)=>An7 (Ku [jR false p,.str nm,bkD false S W Rn Lv z,.int c,.lst false<|L0.map<|eR p.nm]=some (.tup [.lst true<|es.map e5,bkD true (sz' p.C x.sz) (sz' p.C x.ow) (rnN (fnOf S) x.sv Rn) (sz' p.P x.lv) z,.lst true<|x.mv.map eM])) (FlOk p O c B L0 ⟨fnOf S,fnOf W,fnOf Lv⟩ x) (∃ s,SvI s x.en x.sv) (es.length<=300) (x.mv.length<=300) (x.cash=0) (x.en=es):=by
 obtain⟨o,ho,Z,en⟩:=jfX h hm;have d:=h.orders o ho;have hll:=F.len X;have ei:=jgZ h (c:=c) (z:=z) (Rn:=Rn) b.s1 b.w1 b.l1 F.nd ∅;have k0:FlOk p O c B L0 ⟨fnOf S,fnOf W,fnOf Lv⟩ ⟨fnOf S,fnOf W,fnOf Lv,L0,c,[],[],[]⟩:=⟨qD b.s2,λn=>⟨qD (λq I=>(b.w2 q I).1) n,xK G (λq I=>(b.w2 q I).2) n⟩,qD b.l2,rfl,by simp,H,Int.le_refl _,by simp,by simp,⟨by simp[tot],rfl,rfl,by simp⟩⟩;have a:(⟨fnOf S,fnOf W,fnOf Lv,L0,c,[],[],[]⟩:Fl).en=[]:=rfl;have r:(⟨fnOf S,fnOf W,fnOf Lv,L0,c,[],[],[]⟩:Fl).sv=[]:=rfl;generalize(⟨fnOf S,fnOf W,fnOf Lv,L0,c,[],[],[]⟩:Fl)=x0 at ei k0 a r;obtain⟨x1,es,e1,k1,e,esl,J,K⟩:=jbn h k0 Y d.parts d.plen (by rw[a];simp);have x1l:x1.en.length<=11:=by rw[e,a,X4];lia
 have rl:=d.len;obtain⟨x2,t,L,E,M,k2,u,n2,_,c2,s2,N⟩:=jaX h X hn F hB Y (a0:=some<|jR false p) (a1:=some<|.str nm) (a2:=some<|bkD false S W Rn Lv z) (a3:=some<|.int c) (a4:=‹L0.map (eR p.nm)›) (a5:=some<|vG false o) (a9:=none) (s:=o.parts.length) (o7:=none) (o8:=none) d.rules (by rw[J,r,e,a];exact SvI.skip ⟨by simp,by simp⟩ K) k1 ∅;have g2:=h.guards2;obtain⟨f,Q,p7,p9,T,k3,v,n3,c3,U,V⟩:=wR h (a0:=some<|jR false p) (a1:=some<|.str nm) (a2:=some<|bkD false S W Rn Lv z) (a3:=some<|.int c) (a4:=‹L0.map (eR p.nm)›) (a5:=some<|vG false o) (a8:=E) (o7:=L) (o9:=none) (λg hg=>(h.guards g hg).2.2) (by rw[List.drop_zero]) k2 (by rw[u,N3];lia);have y:(es++(t++Q)).length<=300:=by
  simp only[N3]
  lia
 have j:f.en=es++(t++Q):=by rw[v,u,e,a];simp
 have mvl:=k3.mvl;refine⟨f,es++(t++Q),?_,k3,⟨s2,by rw[U,v];exact N.skip V⟩,y,by rw[j] at mvl;lia,by obtain⟨R,w,t⟩:=d.rest;exact c3.trans<|c2 R w t,j⟩;have i1:jc (vG false o) (.int 1)=‹o.parts.map e2›:=rfl;have i2:jc (vG false o) (.int 2)=‹o.rules›:=rfl;have j6:jc (jR false p) (.int 6)=‹p.guards.map eG›:=rfl;have k:=h.frz;have A:=qj S W Rn Lv z;have m1:=JY (m:=jP) (mn:="take_parts") (pa:=#[pF<|p2 jc (pV 5)<|pI 1]) (ρ:=[some<|jR false p,some<|.str nm,some<|bkD false S W Rn Lv z,some<|.int c,‹L0.map (eR p.nm)›,some<|vG false o,some<|jw p true x0,none,none,none]) (i:=6) (ds:=[.lst false<|o.parts.map e2]) rfl (by simp[i1,jF]) (by simp[jF])<|λ_ _ _ _ _ _ _ _ _ _=>rfl;rw[e1,L4] at m1;have D:∀ ρ:Rh,#[pF<|p2 jc (pV 5)<|pI 2] ρ=some [.lst false o.rules]->pCB JB #[p2 jc (pV 5)<|pI 1] ρ=some (.int o.parts.length)->jmU #[pF<|p2 jc (pV 5)<|pI 2] (pCB JB #[p2 jc (pV 5)<|pI 1]) ρ=some (YS o.parts.length o.rules):=by
  intro ρ q1 q2;unfold jmU;rw[q1,q2];have:=d.plen;show(bif KQ o.parts.length then some (YS _<|fzs o.rules) else none)=_;rw[zB ∅ ∅,d.fzr];rfl
 have mm:=jdM (p:=p) (x:=f) (o:=true) (m:=jJ) (mn:="book_behind") (po:=pV 6) (pa:=#[pV 2]) (ρ:=[some<|jR false p,some<|.str nm,some<|bkD false S W Rn Lv z,some<|.int c,‹L0.map (eR p.nm)›,some<|vG false o,some<|jw p true f,p7,E,p9]) (ds:=[bkD false S W Rn Lv z]) rfl (by simp) (λ_ _ _ _ _ _ _ _ _ _=>rfl) (by rw[show fzs [bkD false S W Rn Lv z]=[bkD false S W Rn Lv z] by rw[fzs,Jr false S W Rn Lv z];rfl];exact(jfg (x:=f) (W:=W) (Lv:=Lv) (z:=z) h b.s1 b.r1))<|jcC _ _ _ _ _;have m3:=jmT (p:=p) (x:=f) (i:=6) (pe:=Yn jJ 0 "book_behind" (pV 6) #[pV 2]) (ρ:=[some<|jR false p,some<|.str nm,some<|bkD false S W Rn Lv z,some<|.int c,‹L0.map (eR p.nm)›,some<|vG false o,some<|jw p true f,p7,E,p9]) rfl mm;rw[j] at m3;have l:jbw yG 0 #[pF<|pV 0,pF<|pV 2,pF<|pV 3,pF<|pV 4] [some<|jR false p,some<|.str nm,some<|bkD false S W Rn Lv z,some<|.int c,‹L0.map (eR p.nm)›,some<|vG false o,none,none,none,none]=some (jw p true x0):=by
  rw[jbw];have:#[pF<|pV 0,pF<|pV 2,pF<|pV 3,pF<|pV 4] [some<|jR false p,some<|.str nm,some<|bkD false S W Rn Lv z,some<|.int c,‹L0.map (eR p.nm)›,some<|vG false o,none,none,none,none]=some [jR false p,bkD false S W Rn Lv z,.int c,.lst false<|L0.map<|eR p.nm]:=by simp[k,A,yN]
  rw[this,L4,ei];simp[k,A,yN]
 simp[Ku,jH,jgw,en,h.fz false,k,l,m1,D [some<|jR false p,some<|.str nm,some<|bkD false S W Rn Lv z,some<|.int c,‹L0.map (eR p.nm)›,some<|vG false o,some<|jw p true x1,none,none,none] (by simp[i2,d.frzr])<|by simp[i1],M,j6,Vb,jdD,T,m3,-yL,-jbw,-jka,-Yn]
def jmY(h1:p ρ=some e)(h2:jki e=some m)(a:ρ[i]?=some (↑l))(c:l.length+m.length<=50000):jmM i p ρ=some (.nx<|ρ.set i<|↑(l++m)):=by
 rw[jmM,h1,L4,h2,L4,pV,a];exact congrArg (λb=>bif b then _ else none)<|jb ∅
def QZ:Nat->List (List Nat)->(List Nat->Int)->Int->List En
 | _,[],_,_=>[]
 | k,c::E,f,L=>⟨k,JO,c,L,got L<|f c⟩::QZ (k+1) E (put f c<|f c-got L (f c)) (L-got L (f c))
theorem jdR:∀ E k f L,jjD k E f L=(QZ k E f L).map e5
 | [],_,_,_=>rfl
 | c::E,k,f,L=>by rw[jjD,QZ,jdR E,L5];rfl
theorem Jc:∀ E k f L,(QZ k E f L).length=E.length
 | [],_,_,_=>rfl
 | c::E,k,f,L=>by rw[QZ,M1,M1,Jc E]
theorem Vw:∀ E k f L,∀ e∈QZ k E f L,e.kd=JO
 | [],_,_,_,_,h=>by cases h
 | c::E,k,f,L,e,h=>by
  rcases M4.mp h with rfl | h
  ·rfl
  ·exact Vw E _ _ _ e h
noncomputable abbrev LG:=List Nat×List Nat×En
noncomputable def e7(q:LG):D:=.tup [.str q.1,.str q.2.1,.int q.2.2.pl,.str q.2.2.kd,.str q.2.2.nm,.int q.2.2.nd,.int q.2.2.gt]
def yE(l:List LG):frzs (l.map e7)=true:=kN (λ_=>rfl) _
def VA(l:List LG):fzs (l.map e7)=l.map e7:=qQ (λ_=>rfl) _
def JW(M)(f):(sz' M f).map (·.1)=M:=by unfold sz';rw[U0];exact List.map_id _
def Qd(h:q∈sz' M f):∃ n,q.2=f n:=by
 obtain⟨n,_,rfl⟩:=M5.mp h;exact⟨n,rfl⟩
def jmX(h:PoolOk O p)(n):0<=jbz p n/\jbz p n<=10 ^ 12:=by
 refine⟨qD (λq b=>?_) n,xK (by decide) (λq b=>?_) n⟩
 all_goals
  obtain⟨a,c,rfl⟩:=M5.mp b;have:=h.told a c
  lia
def jaD{nm}{PP}(j:jc PP (.int 0)=some (.str nm))(es:List En):jS (jd [] 0) qT (p2 jg (jV #[pF<|p2 jc (pV 1)<|pI 0,pS []])<|pV 0) (es.map e5) [none,some PP]=some ((es.map λe=>((nm,[],e):LG)).map e7):=by
 rw[U0];refine jv rfl (λρ=>∃ o,ρ=[o,some PP]) ?_ ⟨none,rfl⟩;rintro e b ρ ⟨o,rfl⟩;refine⟨[some<|e5 e,some PP],rfl,?_,_,rfl⟩;have a:jg (.tup [.str nm,.str []]) (e5 e)=some (e7 (nm,[],e)):=rfl;simp[j,a,jb]
def xr{nm ord}{PP}(j:jc PP (.int 0)=some (.str nm))(es:List En):jS (jd [] 0) qT (p2 jg (jV #[pF<|p2 jc (pV 1)<|pI 0,pF<|pV 2])<|pV 0) (es.map e5) [none,some PP,some<|.str ord]=some ((es.map λe=>((nm,ord,e):LG)).map e7):=by
 rw[U0];refine jv rfl (λρ=>∃ o,ρ=[o,some PP,some<|.str ord]) ?_ ⟨none,rfl⟩;rintro e b ρ ⟨o,rfl⟩;refine⟨[some<|e5 e,some PP,some<|.str ord],rfl,?_,_,rfl⟩;have a:jg (.tup [.str nm,.str ord]) (e5 e)=some (e7 (nm,ord,e)):=rfl;simp[j,a,jb]
def F1(p:PoolS)(S:List W2)(loss:Int):List Nat->Int:=(eat p.eats (fnOf S) loss).1
def S1(p:PoolS)(S:List W2)(loss:Int):List W2:=sz' p.C<|F1 p S loss
def W1(p:PoolS)(S W:List W2)(loss:Int):List W2:=wd' p (fnOf<|S1 p S loss)<|ow' W<|F1 p S loss
def z1(p:PoolS)(S:List W2)(z loss:Int):Int:=z+(eat p.eats (fnOf S) loss).2
def lgE(p:PoolS)(S:List W2)(loss:Int):List En:=QZ 0 p.eats (fnOf S) loss
def sgO(p:PoolS)(Rn:List W2)(lg EN:List En):List LG:=(lg.map λe=>((p.nm,[],e):LG))++EN.map λe=>((p.nm,YM p Rn,e):LG)
def bkX(o:Bool)(p:PoolS)(S Rn:List W2)(z loss:Int)(x:Fl):D:=bkD o (sz' p.C x.sz) (sz' p.C x.ow) (rnN (fnOf<|S1 p S loss) x.sv Rn) (sz' p.P x.lv)<|z1 p S z loss
structure DyOk(p:PoolS)(O:W4)(c B:Int)(L0:LN)(S W Rn Lv:List W2)(z loss:Int)(x:Fl):Prop where
 day:kJ [jR false p,bkD false S W Rn Lv z,.lst false<|L0.map<|eR p.nm,.int c,.int loss] =
    some (.tup [bkX false p S Rn z loss x,.lst true<|(srt<|reN L0 x.mv).map (eR p.nm),.lst false<|x.mv.map eM,.lst false<|(sgO p Rn (lgE p S loss) x.en).map e7])
 fel:Ku [jR false p,.str<|YM p Rn,bkD false (S1 p S loss) (W1 p S W loss) Rn Lv<|z1 p S z loss,.int c,.lst false<|L0.map<|eR p.nm]=some (.tup [.lst true<|x.en.map e5,bkX true p S Rn z loss x,.lst true<|x.mv.map eM])
 ok:FlOk p O c (B+10 ^ 12) L0 ⟨fnOf<|S1 p S loss,fnOf<|W1 p S W loss,fnOf Lv⟩ x
 sv:∃ s,SvI s x.en x.sv
 bk:BkOk p (B+10 ^ 12) (sz' p.C x.sz) (sz' p.C x.ow) (rnN (fnOf<|S1 p S loss) x.sv Rn) (sz' p.P x.lv)
 en:x.en.length<=300
 cz:x.cash=0
def xP{p:PoolS}{O:W4}{c B:Int}{L0:LN}(h:PoolOk O p)(hO:O.length<=2)(hn:p.nm∉O)(hL:LnOk O L0)(hB0:0<=B)(hB:B<=10 ^ 19)(M:0<=c)(hc:c<=2 ^ 900){S W Rn Lv:List W2}{z loss:Int}(b:BkOk p B S W Rn Lv)(s:0<=loss):
  ∃ x,DyOk p O c B L0 S W Rn Lv z loss x:=by
 have v:=uT (x:=z) (L:=loss) h b.s1 b.w1 (vv b.r1 h.told2)<|vv b.l1 h.marks2;have u:=jgI (E:=p.eats) (qD b.s2) s
 suffices k:∃ x,∀(A1:F1 p S loss=(eat p.eats (fnOf S) loss).1) (A2:lgE p S loss=QZ 0 p.eats (fnOf S) loss),DyOk p O c B L0 S W Rn Lv z loss x by
  obtain⟨x,k⟩:=k;exact⟨x,k rfl rfl⟩
 have w:S1 p S loss=sz' p.C (eat p.eats (fnOf S) loss).1:=rfl;have N:W1 p S W loss=wd' p (fnOf<|sz' p.C (eat p.eats (fnOf S) loss).1) (ow' W (eat p.eats (fnOf S) loss).1):=rfl;have Q:z1 p S z loss=z+(eat p.eats (fnOf S) loss).2:=rfl;have d4:lgE p S loss=QZ 0 p.eats (fnOf S) loss:=rfl;generalize hF:(eat p.eats (fnOf S) loss).1=F at v u w N;generalize(eat p.eats (fnOf S) loss).2=lft at v u Q;rw[jdR] at v;have R:=Jc p.eats 0 (fnOf S) loss;have T:=Vw p.eats 0 (fnOf S) loss;generalize QZ 0 p.eats (fnOf S) loss=lg at v R T d4;have no:=jkM h (S:=S) (W:=W) (Lv:=Lv) (x:=z) b.r1;have y:(sz' p.C F).map (·.1)=p.C:=JW _ _;have A:(ow' W F).map (·.1)=p.C:=by unfold ow';rw[U0];exact b.w1
 have wd:=zK h (Rn:=Rn) (Lv:=Lv) (x:=z+lft) y A;have b1:BkOk p (B+10 ^ 12) (sz' p.C F) (wd' p (fnOf<|sz' p.C F)<|ow' W F) Rn Lv:=by
  refine⟨y,λq d=>?_,?_,λq d=>?_,b.r1,b.l1,b.l2,b.r2,λq d=>by have:=b.r3 q d;lia⟩
  ·obtain⟨n,e⟩:=Qd d;rw[e];exact(u.1 n).1
  ·unfold wd';rw[U0];exact A
  ·unfold wd' at d;obtain⟨r,G,rfl⟩:=M5.mp d;obtain⟨t,ht,rfl⟩:=M5.mp G;have h1:=b.w2 t ht;have h2:=jmX h t.1;constructor
   ·lia
   ·lia
 obtain⟨x,EN,ef,H,U,V,mvl,cz,xe⟩:=jit h hO hn hL ∅ ∅ M hc (z:=z+lft) b1 (jaB h Rn);subst xe;have eb:=jbJ (nm:=p.nm) hO hL H.mv;have j:jc (jR false p) (.int 0)=some (.str p.nm):=rfl;have X:=jaD (PP:=jR false p) j lg;have I:=xr (ord:=YM p Rn) (PP:=jR false p) j x.en;have Y:BkOk p (B+10 ^ 12) (sz' p.C x.sz) (sz' p.C x.ow) (rnN (fnOf<|sz' p.C F) x.sv Rn) (sz' p.P x.lv):=by
  refine⟨JW _ _,λq d=>?_,JW _ _,λq d=>?_,by unfold rnN;rw[U0];exact b.r1,JW _ _,λq d=>?_,λq d=>?_,λq d=>?_⟩
  ·obtain⟨n,e⟩:=Qd d;rw[e];exact H.sz n
  ·obtain⟨n,e⟩:=Qd d;rw[e];exact H.ow n
  ·obtain⟨n,e⟩:=Qd d;rw[e];exact H.lv n
  ·obtain⟨r,G,rfl⟩:=M5.mp d;have:=b.r2 r G;split<;>lia
  ·obtain⟨r,G,rfl⟩:=M5.mp d;have:=b.r3 r G;split<;>lia
 refine⟨x,λ_ _=>⟨?_,by unfold bkX;rw[w,N,Q];exact ef,by rw[w,N];exact H,U,by rw[w];exact Y,V,cz⟩⟩;unfold bkX sgO;rw[w,Q,d4];have fp:=h.fz false;have Z:=h.frz;have hb1:=Jr false S W Rn Lv z;have hb2:=qj S W Rn Lv z;have hb3:=Jr true (sz' p.C F) (ow' W F) Rn Lv<|z+lft;have hb4:=qj (sz' p.C F) (ow' W F) Rn Lv<|z+lft;have hb5:=Jr false (sz' p.C F) (ow' W F) Rn Lv<|z+lft;have hb8:=Jr true (sz' p.C x.sz) (sz' p.C x.ow) (rnN (fnOf<|sz' p.C F) x.sv Rn) (sz' p.P x.lv)<|z+lft;have J:=qj (sz' p.C x.sz) (sz' p.C x.ow) (rnN (fnOf<|sz' p.C F) x.sv Rn) (sz' p.P x.lv)<|z+lft;have hl1:lim lg.length=true:=jb (by have:=h.eats2;lia);have K:lim x.en.length=true:=jb ∅;generalize hG1:(lg.map λe=>((p.nm,[],e):LG))=G1 at *;generalize hG2:(x.en.map λe=>((p.nm,YM p Rn,e):LG))=G2 at *;have g1l:G1.length<=1000:=by rw[<- hG1,L1];have:=h.eats2;lia
 have g2l:G2.length<=1000:=by rw[<- hG2,L1];lia
 have hl3:lim (G1.length+G2.length)=true:=jb ∅;generalize jR false p=PP,bkD false S W Rn Lv z=B0,bkD false (sz' p.C F) (ow' W F) Rn Lv (z+lft)=B2,bkD true (sz' p.C x.sz) (sz' p.C x.ow) (rnN (fnOf<|sz' p.C F) x.sv Rn) (sz' p.P x.lv) (z+lft)=B4 at *;have t0:∀{a b:D},jc (.tup [a,b]) (.int 0)=some a:=rfl;have t1:∀{a b:D},jc (.tup [a,b]) (.int 1)=some b:=rfl;have f:∀{a b c:D},jc (.tup [a,b,c]) (.int 0)=some a:=rfl;have g:∀{a b c:D},jc (.tup [a,b,c]) (.int 1)=some b:=rfl;have o:∀{a b c:D},jc (.tup [a,b,c]) (.int 2)=some c:=rfl;have ha1:fzs (G1.map e7++G2.map e7)=G1.map e7++G2.map e7:=by rw[<- N4,VA]
 have ha2:frzs (G1.map e7++G2.map e7)=true:=by rw[<- N4,yE]
 have hx:=jmY (i:=8) (p:=jY (qB<|p2 jc (pV 7)<|pI 0) (jd [] 0) qT (p2 jg (jV #[pF<|p2 jc (pV 1)<|pI 0,pF<|pV 2])<|pV 0) [none,some 0,some 6]) (ρ:=[some PP,some B0,‹L0.map (eR p.nm)›,some<|.int c,some<|.int loss,some<|.tup [.lst false<|lg.map e5,B2],some<|.str<|YM p Rn,some<|.tup [.lst true<|x.en.map e5,B4,.lst true<|x.mv.map eM],↑(G1.map e7)]) (e:=.lst true<|G2.map e7) (m:=G2.map e7) (l:=G1.map e7) (by simp[ -p2];simp[f,QV,K,jr,I,-jV]) (by show(bif frzs (G2.map e7) then _ else _)=_;rw[yE];rfl) rfl (by rw[L1,L1];lia);simp[kJ,jH,KI,hx,v,fp,Z,hb1,hb2,hb3,hb4,hb5,Jr false (sz' p.C F) (wd' p (fnOf<|sz' p.C F)<|ow' W F) Rn Lv<|z+lft,qj (sz' p.C F) (wd' p (fnOf<|sz' p.C F)<|ow' W F) Rn Lv<|z+lft,hb8,J,no,t0,t1,wd,jaw,QV,JS,yN,ef,jr,X,I,hl1,K,f,g,o,xm,Qu,j,eb,jb,VA,yE,hl3,ha1,-jV,-List.map_map];simp[f,g,o,J,JS,yN,xm,Qu,j,eb,ha2,jb]
structure AlOk(O:W4)(p:PoolS):Prop where
 ok:PoolOk O p
 ol:O.length<=2
 on:p.nm∉O
 wo:∀ w∈O,Wd w
def jfq(ns:List Int):∃ p O,vR [.lst false<|ns.map D.int]=some (jR true p)/\AlOk O p:=by
 have L:=yg ns 905 (many:=3) (by decide);have M:=yn ns 905 (many:=3) (by decide);have q:=qR true (nmL ns) (some 3)<|some<|4+drw ns 905 3;have h:0<(yK (nmL ns) (some 3)<|some<|4+drw ns 905 3).length/\(yK (nmL ns) (some 3)<|some<|4+drw ns 905 3).length<=10:=by
  unfold nmL;rw[Y6,L1];have:drw ns 905 3=0\/drw ns 905 3=1\/drw ns 905 3=2:=by lia
  rcases this with e | e | e<;>rw[e]<;>decide
 have r:∀ w∈yK (nmL ns) (some 3) (some<|4+drw ns 905 3),Wd w:=λw b=>(uV<|yx b).1;have s:(yK (nmL ns) (some 3)<|some<|4+drw ns 905 3).Nodup:=qY<|jcH ns;generalize yK (nmL ns) (some 3) (some<|4+drw ns 905 3)=C at q h r s;have t:=kY (o:=true) (l:=nmL ns) (i:=6) (by decide) (by rw[QM];decide);have f:=uV<|yy (l:=nmL ns) (i:=(6:Int).toNat) (d:=[]) (by rw[QM];decide);generalize(nmL ns).getD (6:Int).toNat []=a at t f;have u:jej none (some<|drw ns 910 3) (.lst true [.str a,.str<|a++[104]])=↑((yK [a,a++[104]] none<|some<|drw ns 910 3).map D.str):=qR true [a,a++[104]] none _;have v:(yK [a,a++[104]] none<|some<|drw ns 910 3).length<=10:=N6 (v9 _ _ _) (by simp);have x:∀ w∈yK [a,a++[104]] none (some<|drw ns 910 3),Wd w:=by
  intro w b;have:=yx b;simp only[M4,List.not_mem_nil,or_false] at this;rcases this with rfl | rfl
  ·exact f.1
  ·refine⟨by rw[N3];have:=f.2;simp only[M1,List.length_nil];lia,λc g=>?_⟩;rcases N1.mp g with g | g
   ·exact f.1.2 c g
   ·rw[M7.mp g];decide
 have y:(yK [a,a++[104]] none<|some<|drw ns 910 3).Nodup:=qY (by simp);generalize yK [a,a++[104]] none (some<|drw ns 910 3)=P at u v x y;have A:=qR true (nmL ns) (some 1)<|some 3;have B:=kY (o:=true) (l:=nmL ns) (i:=0) (by decide) (by rw[QM];decide);have E:=uV<|yy (l:=nmL ns) (i:=(0:Int).toNat) (d:=[]) (by rw[QM];decide);have F:(yK (nmL ns) (some 1)<|some 3).length<=2:=by unfold nmL;rw[Y6,L1];decide
 have j:∀ w∈yK (nmL ns) (some 1) (some 3),Wd w:=λw b=>(uV<|yx b).1;have m:(nmL ns).getD (0:Int).toNat []∉yK (nmL ns) (some 1) (some 3):=by
  have e:yK (nmL ns) (some 1) (some 3)=[xG ns 1,xG ns 2]:=by unfold nmL;rw[Y6];rfl
  have G:(nmL ns).getD (0:Int).toNat []=xG ns 0:=by unfold nmL;rfl
  rw[e,G];intro z;simp only[M4,List.not_mem_nil,or_false] at z;rcases z with z | z
  ·exact absurd (QR (by decide) (by decide) z) (by decide)
  ·exact absurd (QR (by decide) (by decide) z) (by decide)
 generalize yK (nmL ns) (some 1) (some 3)=O at A F j m;generalize(nmL ns).getD (0:Int).toNat []=nm at B E m;obtain⟨p,H,I,n,J⟩:=jjR (ns:=ns) (k:=0) (by decide) (by decide) h.1 h.2 v ∅ E.1 r x j s y;refine⟨p,O,?_,I,F,by rw[n];exact m,j⟩;have K:a.length+[104].length<=100000:=by have:=f.2;simp only[M1,List.length_nil];lia
 simp(disch:=first | lia | (simp;done) | (simp;lia)) [vR,jH,VB,jfb ns,jy (ns:=ns) (k:=905) (many:=3) (by decide) (by decide)<|by decide,q,t,jy (ns:=ns) (k:=910) (many:=3) (by decide) (by decide)<|by decide,jgL K,u,A,B,H,jb]
def jdP{ns:List Int}{k}(h:0<=k)(h1:k<=100000)(l:ns.length<=63):∃ v,An3 (yj [.lst false<|ns.map D.int,.int k]=some (.int v)) (0<=v) (v<=10 ^ 31):=by
 have a:=jy (ns:=ns) (many:=6) h ∅ (by decide);have i:=yg ns k (many:=6) (by decide);have j:=yn ns k (many:=6) (by decide);generalize drw ns k 6=w at a i j;by_cases b:w=0
 ·exact⟨0,by simp[yj,jH,kr,a,b],by decide,by decide⟩
 by_cases d:w<4
 ·have e:=jy (ns:=ns) (k:=k+1) (many:=45) ∅ ∅ (by decide);exact⟨drw ns (k+1) 45,by simp[yj,jH,kr,a,b,d,e],yg ns (k+1)<|by decide,by have:=yn ns (k+1) (many:=45) (by decide);lia⟩
 by_cases g:w=4
 ·have e:=jy (ns:=ns) (k:=k+1) (many:=30) ∅ ∅ (by decide);have m:=Qw ns<|k+2;have g2:=uI ns<|k+2;have g3:=yg ns (k+1) (many:=30) (by decide);have g4:=yn ns (k+1) (many:=30) (by decide);refine⟨coi ns (k+2)*drw ns (k+1) 30,?_,Int.mul_nonneg ∅ g3,Int.le_trans (Int.mul_le_mul g2 (Int.le_of_lt g4) g3<|by decide)<|by decide⟩;simp(disch:=lia) [yj,jH,kr,a,b,d,g,e,J5 (ns:=ns) (k:=k+2) ∅ ∅,yu]
 have ad:jg (.lst false<|ns.map D.int) (.lst true [.int 0])=↑((ns++[0]).map D.int):=by
  show(bif lim ((ns.map D.int).length+1)&&(frzs (ns.map D.int)&&frzs [.int 0]) then some (D.lst true<|ns.map D.int++[.int 0]) else none)=_;rw[jb<|by rw[L1];lia,VY,N4];rfl
 have g2:=N8 k (show 0<((ns.length:Int)+1) by lia);have ix:jc (.lst true<|(ns++[0]).map D.int) (.int<|k%(ns.length+1))=some (.int<|(ns++[0]).getD (k%(ns.length+1)).toNat 0):=by
  have f:(k%(ns.length+1)).toNat<(ns++[0]).length:=by rw[N3];simp only[M1,List.length_nil];lia
  rw[jj4 (N9 k<|show((ns.length:Int)+1)≠0 by lia)<|by rw[L1,N3];simp only[M1,List.length_nil];lia,List.getElem?_map,List.getD_eq_getElem?_getD,X5 f];rfl
 have p3:Kh (.int 10) (.int 30)=some (.int<|10 ^ 30):=rfl;generalize(ns++[0]).getD (k%(ns.length+1)).toNat 0=c at ix;refine⟨c%10 ^ 30,?_,N9 _<|by decide,by have:=N8 c (show 0<10 ^ 30 by decide);lia⟩;simp(disch:=lia) [yj,jH,kr,a,b,d,g,ad,ix,p3,VH,jb,-List.map_append]
noncomputable abbrev FW:=Int×Int
noncomputable def eF(f:FW):D:=.tup [.int f.1,.int f.2]
def jc2(l:List FW):frzs (l.map eF)=true:=kN (λ_=>rfl) _
def jgc(l:List FW):fzs (l.map eF)=l.map eF:=qQ (λ_=>rfl) _
noncomputable def Yr(d:FW):D:=.tup [.lst false [.int d.1],.lst false [.int d.2]]
def jcf{ns:List Int}(d:ns.length<=63){t:Nat}(f:t<=20){a1 a2 a4 o7}:∃ v o7',vT [‹ns.map D.int›,a1,a2,some<|.int (t:Int),a4,some<|.lst true [],some<|.int 0,o7]=some (.nx [‹ns.map D.int›,a1,a2,some<|.int (t:Int),a4,some<|.lst true [.int v],some<|.int 0,o7'])/\0<=v:=by
 obtain⟨v,c,e,g⟩:=jdP (k:=2000+37*t) ∅ ∅ d;have a:=jy (ns:=ns) (k:=3000+5*t) (many:=4) ∅ ∅ (by decide);generalize drw ns (3000+5*t) 4=w at a;by_cases q:w=0
 ·have b:qA [.bl<|w==0]=some (.int 1):=by rw[q];rfl
  refine⟨v,some<|.int v,?_,e⟩;simp(disch:=lia) [vT,c,a,b,yu,jb]
 ·have b:qA [.bl<|w==0]=some (.int 0):=by rw[U1.mpr q];rfl
  refine⟨0,some<|.int v,?_,by decide⟩;simp(disch:=lia) [vT,c,a,b,yu,jb]
def jd5{ns:List Int}(c:ns.length<=63){t:Nat}(m:t<20){acc}(f:acc.length<=100){o4 o5 o6 o7}:Ex5 λd o4' o5' o6' o7'=>An2 (qM [‹ns.map D.int›,some<|.int 1,↑(acc.map Yr),some<|.int<|0+(t:Int),o4,o5,o6,o7]=some (.nx [‹ns.map D.int›,some<|.int 1,↑((acc++[d]).map Yr),some<|.int<|0+(t:Int),o4',o5',o6',o7'])) (0<=d.1/\d.1<=10 ^ 31/\0<=d.2):=by
 obtain⟨u,g,u0,h⟩:=jdP (k:=1000+37*t) ∅ ∅ c;obtain⟨v,o7',e,i⟩:=jcf (t:=t) c ∅;have b:uu [.int 1]=some [.int 0]:=rfl;refine⟨(u,v),some<|.lst false [.int u],some<|.lst false [.int v],some<|.int 0,o7',?_,u0,h,i⟩;have j:(acc++[(u,v)]).map Yr=acc.map Yr++[.tup [.lst false [.int u],.lst false [.int v]]]:=by rw[N4];rfl
 rw[j];have a:lim (acc.map Yr).length=true:=vN ∅;have l:jS (jd [] 0) qT (jl yj #[pV 1,p2 jg (p2 jg (pI 1000)<|p2 yk (pI 37)<|pV 2)<|p2 yk (pI 7)<|pV 0]) [.int 0] [none,‹ns.map D.int›,some<|.int t]=some [.int u]:=by
  rw[cpE rfl]
  ·rfl
  ·simp(disch:=lia) [g,yu]
 have e:=lpE (G:=jd [] 6) (xs:=[]) (ρ:=[‹ns.map D.int›,some<|.int 1,↑(acc.map Yr),some<|.int t,some<|.lst true [.int u],some<|.lst true [],o6,o7]) rfl e;generalize acc.map Yr=AC at *;simp[qM,b,jr,l,e,a,jb,-jl]
def xF(ns:List Int)(w:ns.length<=63):∃ fl:List FW,yr [.lst false<|ns.map D.int]=↑(fl.map eF)/\fl.length<=20/\∀ f∈fl,0<=f.1/\f.1<=10 ^ 31/\0<=f.2:=by
 obtain⟨m,y,z⟩:∃ m:Nat,jaj [.int ns.length,.int 20]=some (.int m)/\m<=20:=by
  by_cases q:(20:Int)<ns.length
  ·refine⟨20,?_,by lia⟩;show some (D.int<|if(20:Int)<ns.length then 20 else ns.length)=_;rw[if_pos q];rfl
  ·refine⟨ns.length,?_,by lia⟩;show some (D.int<|if(20:Int)<ns.length then 20 else ns.length)=_;rw[if_neg q]
 obtain⟨K,e,a,k,l,n,p,r,rfl,b,s⟩:=jdq (G:=jd [] 3) (xs:=xv 0 m) (λi ρ=>∃ a k l n p r,ρ=[‹ns.map D.int›,some<|.int 1,↑(a.map Yr),k,l,n,p,r]/\a.length=i/\∀ d∈a,0<=d.1/\d.1<=10 ^ 31/\0<=d.2) (by
  rintro i x ρ A ⟨a,k,l,n,p,r,rfl,b,s⟩;obtain⟨rfl,hi⟩:=je0 A;obtain⟨d,B,C,E,F,H,hd⟩:=jd5 w (t:=i) ∅ (acc:=a) ∅;refine⟨_,_,rfl,.inl H,a++[d],_,_,_,_,_,rfl,by simp[b],λu g=>?_⟩;rcases N1.mp g with g | g
  ·exact s u g
  ·rw[M7.mp g];exact hd) (ρ:=[‹ns.map D.int›,some<|.int 1,some<|.lst true [],none,none,none,none,none]) ⟨[],none,none,none,none,none,rfl,rfl,by simp⟩
 rw[qW] at b;have e:Jd [.lst false<|ns.map D.int,.int 1]=↑(a.map Yr):=by
  simp[Jd,jH,KM,y,YZ (j:=m) ∅ ∅,e,jb,-jaq]
 refine⟨a,?_,by lia,s⟩;have c:jS (gA2 0 1) qT (jV #[pF<|p2 jc (pV 0)<|pI 0,pF<|p2 jc (pV 1)<|pI 0]) (a.map Yr) [none,none]=some (a.map eF):=
  jv rfl (λρ=>∃ o v,ρ=[o,v]) (by rintro d h ρ ⟨o,v,rfl⟩;exact⟨_,rfl,rfl,_,_,rfl⟩) ⟨none,none,rfl⟩
 have I:frzs (a.map Yr)=true:=kN (λ_=>rfl) _;have J:lim (a.map Yr).length=true:=vN ∅;generalize a.map Yr=DD at *;simp[yr,jH,Js,e,I,VY ns,J,jr,c,jb]
structure Bk where
 S:List W2
 W:List W2
 R:List W2
 L:List W2
 x:Int
def yT(o:Bool)(b:Bk):D:=bkD o b.S b.W b.R b.L b.x
def vx(o b):fz (yT o b)=yT false b:=Jr ..
def yJ(b):frz (yT false b)=true:=qj ..
def bk0(p:PoolS):Bk:=⟨xR p,ql p,ql p,wj p,0⟩
def jl4(h:PoolOk O p):BkOk p 0 (bk0 p).S (bk0 p).W (bk0 p).R (bk0 p).L:=by
 refine⟨?_,λq a=>?_,?_,λq a=>?_,?_,?_,λq a=>?_,λq a=>?_,λq a=>?_⟩
 ·show(xR p).map (·.1)=_;unfold xR;rw[U0];rfl
 ·obtain⟨c,b,rfl⟩:=M5.mp a;have:=h.told c b
  lia
 ·show(ql p).map (·.1)=_;unfold ql;rw[U0];rfl
 ·obtain⟨c,b,rfl⟩:=M5.mp a;exact⟨Int.le_refl _,Int.le_refl _⟩
 ·show(ql p).map (·.1)=_;unfold ql;rw[U0];rfl
 ·show(wj p).map (·.1)=_;unfold wj;rw[U0];rfl
 ·obtain⟨c,b,rfl⟩:=M5.mp a;exact Int.le_refl _
 ·obtain⟨c,b,rfl⟩:=M5.mp a;exact Int.le_refl _
 ·obtain⟨c,b,rfl⟩:=M5.mp a;exact Int.le_refl _
def bkS(p:PoolS)(b:Bk)(loss:Int)(x:Fl):Bk:=⟨sz' p.C x.sz,sz' p.C x.ow,rnN (fnOf<|S1 p b.S loss) x.sv b.R,sz' p.P x.lv,z1 p b.S b.x loss⟩
def yt(p:PoolS)(b:Bk)(loss:Int)(x:Fl):List LG:=sgO p b.R (lgE p b.S loss) x.en
abbrev AL:=Bk×LN×List LG
def Yu(nm:List Nat)(a:AL):D:=.tup [yT false a.1,.lst false<|a.2.1.map<|eR nm,.lst false<|a.2.2.map e7]
def zq(nm)(l:List AL):frzs (l.map<|Yu nm)=true:=yA λd hd=>by obtain⟨p,_,rfl⟩:=M5.mp hd;simp[Yu,yJ,yE,yN]
def jfS(nm)(l:List AL):fzs (l.map<|Yu nm)=l.map (Yu nm):=J7 λd hd=>by obtain⟨p,_,rfl⟩:=M5.mp hd;simp[Yu,vx,VA,JS]
abbrev lnS(L0:LN)(x:Fl):LN:=srt<|reN L0 x.mv
inductive RA (p:PoolS) (O:W4):Bk->LN->List FW->List AL->Prop where
 | nil {b:Bk}{L0:LN}:RA p O b L0 [] []
 | cons {b:Bk}{L0:LN}{B:Int}{f:FW}{x:Fl}{fl:List FW}{al:List AL}(h0:0<=f.1) (h1:f.1<=10 ^ 31) (h2:0<=f.2) (k:BkOk p B b.S b.W b.R b.L) (hB0:0<=B) (hB:B<=10 ^ 19) (hL:LnOk O L0) (h:DyOk p O f.1 B L0 b.S b.W b.R b.L b.x f.2 x) (t:RA p O (bkS p b f.2 x) (lnS L0 x) fl al):RA p O b L0 (f::fl) ((bkS p b f.2 x,lnS L0 x,yt p b f.2 x)::al)
theorem Kq{p}{O}(h:PoolOk O p)(q:O.length<=2)(r:p.nm∉O){a1}:∀{fl}{b}{L0}{B}{bd}{ob}{acc}{o5 o6 o7},(∀ f∈fl,0<=f.1/\f.1<=10 ^ 31/\0<=f.2)->BkOk p B b.S b.W b.R b.L->LnOk O L0->fz bd=yT false b->0<=B->B+10 ^ 12*fl.length<=10 ^ 19->acc.length+fl.length<=1000 ->
  ∃ al ρ3 ρ4 o5' o6' o7',jB (gA2 5 6) kR (fl.map eF) [some<|jR false p,a1,some bd,some<|.lst ob<|L0.map<|eR p.nm,↑(acc.map<|Yu p.nm),o5,o6,o7]=some (.nx [some<|jR false p,a1,ρ3,ρ4,↑((acc++al).map (Yu p.nm)),o5',o6',o7'])/\RA p O b L0 fl al/\al.length=fl.length
 | [],b,L0,B,bd,ob,acc,o5,o6,o7,_,_,_,_,_,_,_=>⟨[],some bd,some<|.lst ob<|L0.map<|eR p.nm,o5,o6,o7,by simp,.nil,rfl⟩
 | f::fl,b,L0,B,bd,ob,acc,o5,o6,o7,s,k,j,l,g,v,w=>by
  rw[M1] at v w;obtain⟨t,y,u⟩:=s f (by simp);obtain⟨x,i⟩:=xP h q r j g ∅ t ∅ k u;obtain⟨al,ρ3,ρ4,o5',o6',o7',e,z,m⟩:=Kq h q r (a1:=a1) (fl:=fl) (bd:=yT false<|bkS p b f.2 x) (ob:=false) (acc:=acc++[(bkS p b f.2 x,lnS L0 x,yt p b f.2 x)]) (o5:=some<|.int f.1) (o6:=some<|.int f.2) (o7:=some<|.tup [yT false<|bkS p b f.2 x,.lst false<|(lnS L0 x).map (eR p.nm),.lst false<|x.mv.map eM,.lst false<|(yt p b f.2 x).map e7]) (λf n=>s f<|by simp[n]) i.bk ((YH j i.ok.mv).pm (JX _)) (vx _ _) ∅ ∅ (by simp;lia);refine⟨(bkS p b f.2 x,lnS L0 x,yt p b f.2 x)::al,ρ3,ρ4,o5',o6',o7',?_,.cons t y u k g ∅ j i z,by rw[M1,m,M1]⟩;have A:(acc++[(bkS p b f.2 x,lnS L0 x,yt p b f.2 x)]).map (Yu p.nm)=acc.map (Yu p.nm)++[.tup [yT false<|bkS p b f.2 x,.lst false<|(lnS L0 x).map (eR p.nm),.lst false<|(yt p b f.2 x).map e7]]:=by rw[N4];rfl
  rw[A] at e;rw[L5,lpF ?_,e];simp only[List.append_assoc,List.singleton_append];show(some _).bind _=_;have C:kJ [jR false p,yT false b,.lst false<|L0.map<|eR p.nm,.int f.1,.int f.2]=some (.tup [yT false<|bkS p b f.2 x,.lst true<|(lnS L0 x).map (eR p.nm),.lst false<|x.mv.map eM,.lst false<|(yt p b f.2 x).map e7]):=i.day;have o:lim (acc.map<|Yu p.nm).length=true:=jb (by rw[L1];lia);have D:∀{a b c d},jc (.tup [a,b,c,d]) (.int 0)=some a:=rfl;have E:∀{a b c d},jc (.tup [a,b,c,d]) (.int 1)=some b:=rfl;have F:∀{a b c d},jc (.tup [a,b,c,d]) (.int 3)=some d:=rfl;generalize acc.map (Yu p.nm)=AC at *;simp[kR,l,C,h.fz false,h.frz,yJ b,vx false b,yJ<|bkS p b f.2 x,vx false<|bkS p b f.2 x,VA<|yt p b f.2 x,yE<|yt p b f.2 x,yN p.nm L0,JS p.nm L0,yN p.nm<|lnS L0 x,JS p.nm<|lnS L0 x,Qu x.mv,xm x.mv,o,D,E,F,jb]
def jfi{p}{O}(h:PoolOk O p)(b:O.length<=2)(c:p.nm∉O){fl}(d:∀ f∈fl,0<=f.1/\f.1<=10 ^ 31/\0<=f.2)(m:fl.length<=20):∃ al:List AL,k8 [jR false p,.lst false<|fl.map eF]=↑(al.map<|Yu p.nm)/\RA p O (bk0 p) [] fl al/\al.length=fl.length:=by
 have g:vi [jR false p]=some (yT true<|bk0 p):=KW h;obtain⟨al,n,o,i,j,k,e,l,a⟩:=Kq h b c (a1:=‹fl.map eF›) (L0:=[]) (bd:=yT true<|bk0 p) (ob:=true) (acc:=[]) (o5:=none) (o6:=none) (o7:=none) d (jl4 h) ⟨by simp,by simp⟩ (vx _ _) (by decide) ∅ (by simp;lia);refine⟨al,?_,l,a⟩;rw[X4,List.map_nil,List.map_nil] at e;simp[k8,jH,V1,g,e,h.fz false,h.frz,jc2 fl,jgc fl,jb]
def plt:Nat->D->Prop
 | 0,_=>False
 | n+1,d=>(∃ i,d=.int i)\/(∃ w,d=.str w) \/ ∃ l,(d=.tup l\/d=.lst false l)/\l.length<=3000/\frzs l=true/\∀ x∈l,plt n x
theorem jao:∀{n d},plt n d->vK n [d]=some (.bl true)
 | n+1,d,h=>by
  show fnP 1 (JG<|vK n) [d]=_;rcases h with⟨i,rfl⟩ | ⟨w,rfl⟩ | ⟨l,hd,q,b,g⟩
  ·rfl
  ·rfl
  ·have j:itB d=some l:=by rcases hd with rfl | rfl<;>(show(bif frzs l then some l else none)=_;rw[b];rfl)
   have ty:((tyD d).bind λt=>some<|D.bl<|JQ t "list"||JQ t "tuple")=some (.bl true):=by rcases hd with rfl | rfl<;>rfl
   have c:jS (jd [] 0) qT (jl (vK n) #[pV 0]) l [none]=some (l.map λ_=>.bl true):=by
    refine jv (List.map_id l).symm (λρ=>∃ o,ρ=[o]) ?_ ⟨none,rfl⟩;rintro x e ρ ⟨o,rfl⟩;refine⟨[some x],rfl,?_,_,rfl⟩;have f:frzs [x]=true:=by
     have:=Va l▸b;have:=List.all_eq_true.mp this x e;rw[Yc,this];rfl
    simp[f,vV _ f,jao<|g x e]
   have k:jjg [.lst true<|l.map λ_=>D.bl true]=some (.bl true):=by
    have:∀ l:List D,Jy (l.map λ_=>D.bl true)=some (l.map λ_=>true):=λl=>by
     induction l with
     | nil=>rfl
     | cons a l m=>show(Jy<|l.map λ_=>D.bl true).bind _=_;rw[m];rfl
    show(Jy<|l.map λ_=>D.bl true).bind _=_;rw[this];simp
   have p:lim l.length=true:=jb ∅;simp[jH,JG,ty,j,p,jr,c,k]
def Jw{i}{pk pv}{N}{f}{w v}{ρ}(a:pV i ρ=some (dct true N f))(b:pk ρ=some (.str w))(c:pv ρ=some (.int v))(d:w∈N)(g:N.length<=1000):Jq i pk pv ρ=some (.nx<|ρ.set i<|some<|dct true N<|put f w v):=by
 have e:lim (N.map KA.str).length=true:=vN ∅;unfold Jq;rw[c,L4,a,L4,jfl,L4,b,L4];show(bif true&&lim (N.map KA.str).length then some (Out.nx<|ρ.set i<|some<|.dK true (kn (N.map KA.str) (N.map λn=>D.int<|f n) (.str w)<|.int v).1 (kn (N.map KA.str) (N.map λn=>D.int<|f n) (.str w)<|.int v).2) else none)=_;rw[e,Qn (f:=f) (v:=v) d];rfl
def jcz{O p}{b}(h:PoolOk O p)(g:b.R.map (·.1)=p.C):jX [jR false p,yT false b]=some (.str<|YM p b.R):=by
 have A:=vv g h.told2;have i:jc (yT false b) (.int 2)=‹b.R.map e2›:=rfl;have c:vO [.lst false<|b.R.map e2]=some (.dK true (b.R.map λq=>KA.str q.1)<|b.R.map λq=>D.int q.2):=by
  have:=Yq (o:=false) (l:=b.R.map λq=>(q.1,D.int q.2)) (by rw[U0];exact g▸h.toldn) (by intro q k;obtain⟨a,_,rfl⟩:=M5.mp k;rfl) (by rw[L1];lia);rw[U0,U0,U0] at this;exact this
 obtain⟨m,n,s,e⟩:=jab (f:=yP) (G:=gA3 3 4 5) (fr:=λx y z=>[some<|jR false p,some<|yT false b,some<|.dK true (b.R.map λq=>KA.str q.1)<|b.R.map λq=>D.int q.2,x,y,z]) (rn:=b.R) (λ_ _ _ _=>rfl) (λx r c=>by by_cases t:x.2.1<=r<;>simp[yP,c,t]) (o2:=none) (o3:=none) (o4:=none) (by rw[g];exact λx u=>(h.looks x u).1);obtain⟨d,jlX,jl9⟩:=uz h;have j:jc (jR false p) (.int 5)=‹p.looks.map eL›:=rfl;have v:jc (jR false p) (.int 4)=‹p.orders.map (vG false)›:=rfl;unfold YM;cases hh:hit b.R p.looks with
 | none=>
  rw[hh] at e;simp[jX,jH,vM,i,c,j,v,JC,KG,e,jlX,jl9]
 | some w=>
  rw[hh] at e;simp[jX,jH,vM,i,c,j,JC,KG,e]
def jce(h:PoolOk O p):∃ d,qf [jR false p]=some d/\fz d=yT false (bk0 p):=by
 have a:jc (jR false p) (.int 1)=‹p.told.map e3›:=rfl;have b:jc (jR false p) (.int 2)=‹p.marks.map e2›:=rfl;have c:=h.told2;have e:=h.marks2;have l1:lim p.told.length=true:=jb ∅;have l2:lim p.marks.length=true:=jb ∅;refine⟨.tup [.lst false<|(xR p).map e2,.lst false<|(ql p).map e2,.lst false<|(ql p).map e2,.lst true<|(wj p).map e2,.int 0],?_,by simp[yT,bkD,bk0,vg]⟩;simp[qf,jH,Vz,a,b,qU,jF,vg,l1,l2,jr,V5 p.told,KH p.told,xa p.marks,xR,ql,wj,jb,-List.map_map]
noncomputable def b01(b:Bool):Int:=if b=true then 1 else 0
def xH(b):qA [.bl b]=some (.int<|b01 b):=by cases b<;>rfl
def jj3(s:List Nat->Int):List W3->(List Nat->Int)->List Nat->Int
 | [],f=>f
 | c::T,f=>jj3 s T<|put f c.1<|f c.1+c.2.2*b01 (decide<|0<s c.1)
theorem jbY{s}{n}:∀{T}{f},(T.map (·.1)).Nodup->jj3 s T f n=f n+(if 0<s n then fnOf (T.map λc=>(c.1,c.2.2)) n else 0)
 | [],f,_=>by show f n=f n+(if 0<s n then 0 else 0);split<;>lia
 | c::T,f,h=>by
  rw[L5,List.nodup_cons] at h;rw[jj3,jbY h.2];by_cases e:n=c.1
  ·subst e;have a:fnOf (T.map λc=>(c.1,c.2.2)) c.1=0:=Qp (by rw[U0];exact h.1);have e2:fnOf ((c::T).map λc=>(c.1,c.2.2)) c.1=c.2.2:=by show(if c.1=c.1 then some c.2.2 else _).getD 0=_;rw[if_pos rfl];rfl
   rw[a,e2,zw];unfold b01;by_cases q:0<s c.1<;>simp[q]
  ·have e2:fnOf ((c::T).map λc=>(c.1,c.2.2)) n=fnOf (T.map λc=>(c.1,c.2.2)) n:=by show(if c.1=n then some c.2.2 else _).getD 0=_;rw[if_neg λz=>e z.symm];rfl
   rw[e2,V3 e]
theorem uv{p:PoolS}{s}{b0 b1 b2 b3 b4 b5 b6 b12 b13 b14 b15 b16 b17}(b:p.C.length<=1000):∀{T}{f}{o9 o10 o11},(∀ c∈T,c.1∈p.C/\0<=c.2.2/\c.2.2<=10 ^ 12) ->
  Ex3 λo9' o10' o11'=>jB (gA3 9 10 11) Jx (T.map e3) [b0,b1,b2,b3,b4,b5,b6,some<|dct true p.C s,some<|dct true p.C f,o9,o10,o11,b12,b13,b14,b15,b16,b17]=some (.nx [b0,b1,b2,b3,b4,b5,b6,some<|dct true p.C s,some<|dct true p.C<|jj3 s T f,o9',o10',o11',b12,b13,b14,b15,b16,b17])
 | [],f,o9,o10,o11,_=>⟨o9,o10,o11,rfl⟩
 | c::T,f,o9,o10,o11,h=>by
  obtain⟨a,i,j⟩:=h c (by simp);obtain⟨o9',o10',o11',e⟩:=uv b (T:=T) λq d=>h q (by simp[d]);refine⟨o9',o10',o11',?_⟩;rw[L5,lpE rfl ?_,e]
  ·rfl
  refine Jw rfl rfl ?_ a b;have g:0<=b01 (decide<|0<s c.1)/\b01 (decide<|0<s c.1)<=1:=by unfold b01;split<;>lia
  simp(disch:=lia) [jC (o:=true) (f:=s) a,jC (o:=true) (f:=f) a,xH<|decide<|0<s c.1,yu]
def JP{N}{g}:∀{l:List W2}{o o'},(∀ q∈l,q.1∈N)->jS (gA2 0 1) qT (jV #[pF<|pV 0,pF<|p2 jG (pV 2)<|pV 0]) (l.map e2) [o,o',some<|dct true N g]=some ((l.map λq=>((q.1,g q.1):W2)).map e2):=λ{l o o'} h=>by
 rw[U0];refine jv rfl (λρ=>∃ o o',ρ=[o,o',some<|dct true N g]) ?_ ⟨o,o',rfl⟩;rintro q a ρ ⟨o,o',rfl⟩;refine⟨[some<|.str q.1,some<|.int q.2,some<|dct true N g],rfl,?_,_,_,rfl⟩;simp[jC (o:=true) (f:=g)<|h q a,jb,e2]
def jdC{O p B L0 x}{b:Bk}{f:FW}(h:PoolOk O p)(k:BkOk p B b.S b.W b.R b.L)(w:DyOk p O f.1 B L0 b.S b.W b.R b.L b.x f.2 x):vW [jR false p,yT false b,eF f,.lst false<|L0.map<|eR p.nm]=some (.tup [yT false<|bkS p b f.2 x,.lst true<|(yt p b f.2 x).map e7]):=by
 have lC:p.C.length<=10:=by rw[L1];exact h.told2
 have a:=uT (x:=b.x) (L:=f.2) h k.s1 k.w1 (vv k.r1 h.told2)<|vv k.l1 h.marks2;have a:Yp [jR false p,yT false b,.int f.2]=some (.tup [.lst true<|(lgE p b.S f.2).map e5,bkD true (S1 p b.S f.2) (ow' b.W<|F1 p b.S f.2) b.R b.L<|z1 p b.S b.x f.2]):=by rw[jdR] at a;exact a
 have A:=jcz h k.r1;have s1:(S1 p b.S f.2).map (·.1)=p.C:=JW _ _;have w1:(ow' b.W<|F1 p b.S f.2).map (·.1)=p.C:=by unfold ow';rw[U0];exact k.w1
 have nd:p.C.Nodup:=h.toldn;have E:=vv w1 h.told2;have F:_=some (dct true p.C _):=Yk (o:=false) s1 nd<|vv s1 h.told2;have G:_=some (dct true p.C _):=Yk (o:=false) w1 nd E;have d:(ow' b.W<|F1 p b.S f.2).map (λq=>((q.1,jj3 (fnOf<|S1 p b.S f.2) p.told (fnOf<|ow' b.W<|F1 p b.S f.2) q.1):W2))=W1 p b.S b.W f.2:=by
  refine List.map_congr_left λq i=>?_;have H:=yO (S:=ow' b.W<|F1 p b.S f.2) (by rw[w1];exact nd) i;rw[jbY h.toldn,H];by_cases z:0<fnOf (S1 p b.S f.2) q.1
  ·rw[if_pos z,if_pos z];rfl
  ·rw[if_neg z,if_neg z,Int.add_zero]
 have y:=JP (N:=p.C) (g:=jj3 (fnOf<|S1 p b.S f.2) p.told<|fnOf<|ow' b.W<|F1 p b.S f.2) (l:=ow' b.W<|F1 p b.S f.2) (o:=none) (o':=none) λq i=>by rw[<- w1];exact M5.mpr ⟨q,i,rfl⟩
 rw[d] at y;obtain⟨I,m,n,J⟩:=uv (p:=p) (s:=fnOf<|S1 p b.S f.2) ∅ (T:=p.told) (f:=fnOf<|ow' b.W<|F1 p b.S f.2) (o9:=none) (o10:=none) (o11:=none) (b0:=some<|jR false p) (b1:=some<|yT false b) (b2:=some<|eF f) (b3:=‹L0.map (eR p.nm)›) (b4:=some<|.str<|YM p b.R) (b5:=↑((lgE p b.S f.2).map e5)) (b6:=some<|bkD false (S1 p b.S f.2) (ow' b.W<|F1 p b.S f.2) b.R b.L<|z1 p b.S b.x f.2) (b12:=none) (b13:=none) (b14:=none) (b15:=none) (b16:=none) (b17:=none) λc r=>⟨M5.mpr ⟨c,r,rfl⟩,by have:=h.told c r;lia,by have:=h.told c r;lia⟩;have K:=w.fel;have j:jc (jR false p) (.int 0)=some (.str p.nm):=rfl;have M:jc (jR false p) (.int 1)=‹p.told.map e3›:=rfl;have c1:=jaD (PP:=jR false p) j<|lgE p b.S f.2;have P:=xr (ord:=YM p b.R) (PP:=jR false p) j x.en;have Q:(yt p b f.2 x).map e7=((lgE p b.S f.2).map λe=>((p.nm,[],e):LG)).map e7++(x.en.map λe=>((p.nm,YM p b.R,e):LG)).map e7:=N4;have U:=w.en;have V:(lgE p b.S f.2).length<=10:=by unfold lgE;rw[Jc];exact h.eats2
 have l1:lim (lgE p b.S f.2).length=true:=jb ∅;have l2:lim x.en.length=true:=jb ∅;have X:jg (.lst true<|((lgE p b.S f.2).map λe=>((p.nm,[],e):LG)).map e7) (.lst true<|(x.en.map λe=>((p.nm,YM p b.R,e):LG)).map e7)=↑((yt p b f.2 x).map e7):=by
  rw[Q];show(bif lim (_+_)&&(frzs _&&frzs _) then _ else _)=_;rw[jb<|by simp;lia,yE,yE];rfl
 have Y:fz (bkX true p b.S b.R b.x f.2 x)=yT false (bkS p b f.2 x):=Jr ..;have t:frz (yT false<|bkS p b f.2 x)=true:=qj ..;have Z:=h.fz false;have u2:=h.frz;have u3:=yJ b;have u4:=vx false b;have i0:jc (eF f) (.int 0)=some (.int f.1):=rfl;have i1:jc (eF f) (.int 1)=some (.int f.2):=rfl;have bb:=Jr true (S1 p b.S f.2) (ow' b.W<|F1 p b.S f.2) b.R b.L<|z1 p b.S b.x f.2;obtain⟨q0,q1,q2,q3,q4⟩:=jbx (S1 p b.S f.2) (ow' b.W<|F1 p b.S f.2) b.R b.L<|z1 p b.S b.x f.2;have m1:D.tup [.lst false<|(S1 p b.S f.2).map e2,.lst false<|(W1 p b.S b.W f.2).map e2,.lst false<|b.R.map e2,.lst false<|b.L.map e2,.int<|z1 p b.S b.x f.2]=bkD false (S1 p b.S f.2) (W1 p b.S b.W f.2) b.R b.L (z1 p b.S b.x f.2):=rfl;have m2:=qj (S1 p b.S f.2) (W1 p b.S b.W f.2) b.R b.L<|z1 p b.S b.x f.2;have m3:=Jr false (S1 p b.S f.2) (W1 p b.S b.W f.2) b.R b.L<|z1 p b.S b.x f.2;have lw:lim (ow' b.W<|F1 p b.S f.2).length=true:=jb ∅;have u:frz (eF f)=true:=rfl;have v:fz (eF f)=eF f:=rfl;generalize bkD true (S1 p b.S f.2) (ow' b.W<|F1 p b.S f.2) b.R b.L (z1 p b.S b.x f.2)=B1,bkD false (S1 p b.S f.2) (ow' b.W<|F1 p b.S f.2) b.R b.L (z1 p b.S b.x f.2)=B2 at *;generalize hB3:bkD false (S1 p b.S f.2) (W1 p b.S b.W f.2) b.R b.L (z1 p b.S b.x f.2)=B3,bkX true p b.S b.R b.x f.2 x=B4,yT false (bkS p b f.2 x)=B5,jR false p=PP,yT false b=B0,eF f=FF at *;simp[vW,jH,YE,A,a,Z,u2,u3,u4,i1,u,v,bb,q0,q1,F,G,M,qU p.told,xy p.told,J,jF<|ow' b.W<|F1 p b.S f.2,lw,jr,y,q2,q3,q4,qj (S1 p b.S f.2) (ow' b.W<|F1 p b.S f.2) b.R b.L<|z1 p b.S b.x f.2,jF<|S1 p b.S f.2,jF<|W1 p b.S b.W f.2,jF b.R,jF b.L,vg<|W1 p b.S b.W f.2,jb,m1,m2,m3,i0,yN p.nm L0,JS p.nm L0,K,Y,t,QV<|lgE p b.S f.2,QV x.en,jaw x.en,Qu x.mv,xm x.mv,jaw<|lgE p b.S f.2,c1,P,l1,l2,X,-List.map_map]
theorem wX:∀ E k f L,(QZ k E f L).map (·.nm)=E
 | [],_,_,_=>rfl
 | c::E,k,f,L=>by rw[QZ,L5,wX E]
structure LgOk(p:PoolS)(nw:List Nat)(q:LG):Prop where
 nm:q.1=p.nm
 od:q.2.1=if q.2.2.kd=JO then [] else nw
 ok:∀ n,okE (n+2) (e7 q)=true
def jlZ{q}(h1:∀ c∈q.1,c<1114112)(h2:∀ c∈q.2.1,c<1114112)(a:∀ c∈q.2.2.kd,c<1114112)(b:∀ c∈q.2.2.nm,c<1114112)(n):okE (n+2) (e7 q)=true:=by
 show yI (n+1) [.str q.1,.str q.2.1,.int q.2.2.pl,.str q.2.2.kd,.str q.2.2.nm,.int q.2.2.nd,.int q.2.2.gt]=true;simp[yI,jN h1,jN h2,jN a,jN b]
def jd6{O p}(h:PoolOk O p)(rn):Wd (YM p rn):=by
 obtain⟨o,a,e⟩:=M5.mp<|jaB h rn;exact e▸(h.orders o a).nm
abbrev lgA(p:PoolS)(b:Bk)(loss:Int):List LG:=(lgE p b.S loss).map λe=>((p.nm,[],e):LG)
abbrev lgB(p:PoolS)(b:Bk)(x:Fl):List LG:=x.en.map λe=>((p.nm,YM p b.R,e):LG)
def jdb{O p}{b}{loss x}(h:PoolOk O p)(f:∀ e∈x.en,EnW p e):(∀ q∈lgA p b loss,LgOk p (YM p b.R) q/\q.2.2.kd=JO)/\∀ q∈lgB p b x,LgOk p (YM p b.R) q/\q.2.2.kd≠JO:=by
 constructor
 ·intro q d;obtain⟨e,a,rfl⟩:=M5.mp d;have kd:=Vw p.eats 0 (fnOf b.S) loss e a;have nm:e.nm∈p.eats:=by rw[<- wX p.eats 0 (fnOf b.S) loss];exact M5.mpr ⟨e,a,rfl⟩
  refine⟨⟨rfl,(if_pos kd).symm,jlZ h.nm.2 (by intro c g;cases g) (by rw[kd];decide) (h.eats _ nm).2⟩,kd⟩
 ·intro q d;obtain⟨e,a,rfl⟩:=M5.mp d;have w:=f e a;exact⟨⟨rfl,(if_neg w.ne).symm,jlZ h.nm.2 (jd6 h _).2 w.w.1 w.w.2⟩,w.ne⟩
def jcZ{O p}{b:Bk}{loss:Int}{x:Fl}(h:PoolOk O p)(B:b.R.map (·.1)=p.C)(E:∀ e∈x.en,EnW p e)(F:x.en.length<=300):vY [jR false p,yT false b,.lst false<|(yt p b loss x).map e7]=some (.bl true):=by
 obtain⟨k,s⟩:=jdb h E;have i:(yt p b loss x)=lgA p b loss++lgB p b x:=rfl;have Y:(lgA p b loss).length<=10:=by rw[L1];unfold lgE;rw[Jc];exact h.eats2
 have Z:(lgB p b x).length<=300:=by rw[L1];exact F
 have G:(yt p b loss x).filter (λq=>q.2.2.kd==JO)=lgA p b loss:=by
  rw[i,List.filter_append,List.filter_eq_self.mpr λq a=>by simp[(k q a).2],List.filter_eq_nil_iff.mpr λq a=>by simp[(s q a).2],M9]
 have c1:jS (jd [] 0) (jj<|p2 vm (p2 jc (pV 0)<|pI 3)<|pS [101,97,116]) (pF<|pV 0) ((yt p b loss x).map e7) [none]=some ((lgA p b loss).map e7):=by
  rw[<- G];refine Yv (λρ=>∃ z,ρ=[z]) ?_ ⟨none,rfl⟩;rintro q a ρ ⟨z,rfl⟩;have l:jc (e7 q) (.int 3)=some (.str q.2.2.kd):=rfl;have H:frz (e7 q)=true:=rfl;refine⟨[some<|e7 q],rfl,?_,by simp[H],_,rfl⟩;simp[l,JO]
 have I:jS (jd [] 0) qT (pF<|p2 jc (pV 0)<|pI 4) ((lgA p b loss).map e7) [none]=some (p.eats.map D.str):=by
  have:p.eats.map D.str=(lgA p b loss).map λq=>D.str q.2.2.nm:=by
   rw[U0,<- (wX p.eats 0 (fnOf b.S) loss),U0];rfl
  rw[this];refine jv rfl (λρ=>∃ z,ρ=[z]) ?_ ⟨none,rfl⟩;rintro q a ρ ⟨z,rfl⟩;have l:jc (e7 q) (.int 4)=some (.str q.2.2.nm):=rfl;exact⟨[some<|e7 q],rfl,by simp[l],_,rfl⟩
 have J:jS (jd [] 0) qT (p2 vm (pSl (pV 0) oN<|oS<|pI 2)<|jV #[pF<|p2 jc (pV 1)<|pI 0,pF<|p2 jc (Jp #[pS [],pF<|pV 2])<|pCB qA #[p2 Y3 (p2 jc (pV 0)<|pI 3)<|pS [101,97,116]]]) ((yt p b loss x).map e7) [none,some<|jR false p,some<|.str<|YM p b.R]=some (((yt p b loss x).map λ_=>true).map D.bl):=by
  rw[U0];refine jv rfl (λρ=>∃ z,ρ=[z,some<|jR false p,some<|.str<|YM p b.R]) ?_ ⟨none,rfl⟩;rintro q a ρ ⟨z,rfl⟩;refine⟨[some<|e7 q,some<|jR false p,some<|.str<|YM p b.R],rfl,?_,_,rfl⟩;have t:LgOk p (YM p b.R) q:=by
   rcases N1.mp (i▸a) with a | a
   ·exact(k q a).1
   ·exact(s q a).1
  have u:jc (jR false p) (.int 0)=some (.str p.nm):=rfl;have j:jc (e7 q) (.int 3)=some (.str q.2.2.kd):=rfl;have js:jej none (some 2) (e7 q)=some (.tup [.str q.1,.str q.2.1]):=rfl;have v:=h.nm;have wo:=jd6 h b.R;have K:jc (.lst true [.str [],.str<|YM p b.R]) (.int 0)=some (.str []):=rfl;have L:jc (.lst true [.str [],.str<|YM p b.R]) (.int 1)=some (.str<|YM p b.R):=rfl;have od:=t.od;rw[t.nm] at js;generalize YM p b.R=nw at *;have y:okE 20 (.tup [.str p.nm,.str nw])=true:=by show yI 19 [.str p.nm,.str nw]=true;simp[yI,jN v.2,jN wo.2]
  have A:okE 20 (.tup [.str p.nm,.str []])=true:=by show yI 19 [.str p.nm,.str []]=true;simp[yI,jN v.2,jN (w:=[])<|by intro c M;cases M]
  have N:vm (.tup [.str p.nm,.str nw]) (.tup [.str p.nm,.str nw])=some (.bl true):=Qi y y rfl;have P:vm (.tup [.str p.nm,.str []]) (.tup [.str p.nm,.str []])=some (.bl true):=Qi A A rfl;have Q:qA [.bl false]=some (.int 0):=rfl;have T:qA [.bl true]=some (.int 1):=rfl;by_cases z:q.2.2.kd=JO
  ·rw[if_pos z] at od;rw[od] at js;have m:(q.2.2.kd==[101,97,116])=true:=by rw[z];rfl
   simp[u,j,js,m,Q,K,P,jb]
  ·rw[if_neg z] at od;rw[od] at js;have m:(q.2.2.kd==[101,97,116])=false:=U1.mpr z;simp[u,j,js,m,T,L,N,jb]
 have f:∀ o,okE 20 (.lst o<|(lgA p b loss).map e7)=true:=λo=>vQ λd hd=>by
  obtain⟨q,a,rfl⟩:=M5.mp hd;exact(k q a).1.ok 17
 have sl:jej none (some (((lgA p b loss).map e7).length:Int)) (.lst false<|(yt p b loss x).map e7)=↑((lgA p b loss).map e7):=by
  rw[jpr<|yE _,jcu,i,N4,List.take_append_of_le_length<|M8 _,List.take_length]
 have U:Y3 (.lst true<|(lgA p b loss).map e7) (.lst true<|(lgA p b loss).map e7)=some (.bl false):=Vr (f _) (f _) rfl;have g:∀ o,okE 20 (.lst o<|p.eats.map D.str)=true:=λo=>V7 h.eats;have V:Y3 (.lst true<|p.eats.map D.str) (.lst false<|p.eats.map D.str)=some (.bl false):=Vr (g _) (g _) (by rw[fz,fz]);have j:jc (jR false p) (.int 3)=‹p.eats.map D.str›:=rfl;have W:=yE<|lgA p b loss;have n:lim ((yt p b loss x).map e7).length=true:=jb (by rw[L1,i,N3];lia);have r:lim ((lgA p b loss).map e7).length=true:=jb (by rw[L1];lia);have X:jjg [.lst true<|((yt p b loss x).map λ_=>true).map D.bl]=some (.bl true):=by
  show(Jy _).bind _=_;rw[zp];simp
 have ln:JB [.lst true<|(lgA p b loss).map e7]=some (.int (((lgA p b loss).map e7).length:Int)):=by simp
 generalize((yt p b loss x).map λ_=>true).map D.bl=BL at *;generalize(lgA p b loss).map e7=LA at *;simp[vY,jH,YO,jcz h B,h.fz false,h.frz,yJ b,vx false b,yE<|yt p b loss x,n,jr,c1,ln,sl,U,W,r,I,j,V,J,X,jb,-List.length_map]
def jjt(t:St)(e:En):St:=⟨put t.s e.nm<|t.s e.nm-e.gt,put t.w e.nm<|t.w e.nm*got 1 (t.s e.nm-e.gt),t.l⟩
def jec(G:List WG)(t:St)(e:En):St:=if e.kd=JO then jjt t e else VN G t e
def jh6{G t}{e}(h:e.kd=Kv\/e.kd=jI):VN G t e=⟨t.s,put t.w e.nm<|t.w e.nm-e.gt,t.l⟩:=by
 unfold VN;rw[if_pos h]
def ifT{q}{f g}{ρ}(h:q ρ=some true):sIf (dPT q) f g ρ=f ρ:=by simp[h]
def ifF{q}{f g}{ρ}(h:q ρ=some false):sIf (dPT q) f g ρ=g ρ:=by simp[h]
def jbF{a}{pa pb}{ρ}{x y}(b:pa ρ=some x)(c:pb ρ=some y):p2 a pa pb ρ=a x y:=by simp[b,c]
def joE{f}{pa pb}{ρ}{x y}(a:pa ρ=some x)(b:pb ρ=some y):pCB f #[pa,pb] ρ=f [x,y]:=by simp[a,b]
structure EnX(p:PoolS)(t:St)(e:En):Prop where
 c:e.kd=JO\/e.kd=Kv\/e.kd=jI\/e.kd=yd\/e.kd=vU->e.nm∈p.C
 f:e.kd=YR->e.nm∈p.P
 g:e.kd=vU->0<=e.pl/\e.pl<p.guards.length/\gp p.guards e.pl∈p.P
 m:e.kd=JO->(t.w e.nm).natAbs<2 ^ 1000/\(got 1<|t.s e.nm-e.gt).natAbs<2 ^ 1000
def jfe{O p}{t:St}{e:En}(h:PoolOk O p)(k:EnX p t e):yR [dct true p.C t.s,dct true p.C t.w,dct true p.P t.l,.lst false<|p.guards.map eG,e5 e]=some (dct true p.C (jec p.guards t e).s,dct true p.C (jec p.guards t e).w,dct true p.P (jec p.guards t e).l):=by
 have n:p.C.length<=1000:=by have:=h.told2;rw[L1];lia
 have F:p.P.length<=1000:=by have:=h.marks2;rw[L1];lia
 suffices q:∃ ρ,JD (none::some (e5 e)::some (dct true p.C t.s)::some (dct true p.C t.w)::some (dct true p.P t.l)::‹p.guards.map eG›::List.replicate 5 none)=some (.nx ρ)/\pV 2 ρ=some (dct true p.C (jec p.guards t e).s)/\pV 3 ρ=some (dct true p.C (jec p.guards t e).w)/\pV 4 ρ=some (dct true p.P (jec p.guards t e).l) by
  obtain⟨ρ,K,e2,e3,L⟩:=q;unfold yR;rw[jnG,K,L4,jiC,e2,L4,e3,L4,L];rfl
 unfold JD;rw[sqE (ρ':=[none,some<|e5 e,some<|dct true p.C t.s,some<|dct true p.C t.w,some<|dct true p.P t.l,‹p.guards.map eG›,some<|.int e.pl,some<|.str e.kd,some<|.str e.nm,some<|.int e.nd,some<|.int e.gt])<|by rfl];have j:∀ w:List Nat,jj (p2 vm (pV 7)<|pS w) [none,some<|e5 e,some<|dct true p.C t.s,some<|dct true p.C t.w,some<|dct true p.P t.l,‹p.guards.map eG›,some<|.int e.pl,some<|.str e.kd,some<|.str e.nm,some<|.int e.nd,some<|.int e.gt]=some (e.kd==w):=λw=>rfl;have G:jj (p2 (Y2 false) (pV 7)<|Jp #[pS [112,97,121],pS [115,104,97,114,101]]) [none,some<|e5 e,some<|dct true p.C t.s,some<|dct true p.C t.w,some<|dct true p.P t.l,‹p.guards.map eG›,some<|.int e.pl,some<|.str e.kd,some<|.str e.nm,some<|.int e.nd,some<|.int e.gt]=some (decide<|e.kd∈[Kv,jI]):=by
  simp[jb];have M:Y2 false (D.str e.kd) (D.lst true [D.str [112,97,121],D.str [115,104,97,114,101]])=some (.bl<|false != decide (e.kd∈[Kv,jI])):=(Ym false true e.kd [Kv,jI]);rw[M];simp
 by_cases z1:e.kd=JO
 ·have i:=k.c<|.inl z1;have H:=k.m z1;have E:jec p.guards t e=jjt t e:=if_pos z1;rw[E,ifT<|by rw[j,z1];rfl];refine⟨_,sq (Jw rfl rfl ?_ i n)<|Jw rfl rfl ?_ i n,rfl,rfl,rfl⟩
  ·rw[jbF (jC (o:=true) i) rfl];rfl
  ·rw[jbF (jC (o:=true) i) ?_]
   ·exact yu H.1 H.2
   ·rw[joE (y:=.int<|t.s e.nm-e.gt) rfl ?_]
    ·rfl
    ·have:=jC (o:=true) (f:=put t.s e.nm<|t.s e.nm-e.gt) i;rw[zw] at this;exact this
 have E:jec p.guards t e=VN p.guards t e:=if_neg z1;rw[E,ifF<|by rw[j];exact congrArg some<|U1.mpr z1];by_cases u:e.kd=Kv\/e.kd=jI
 ·have i:=k.c<|.inr<|u.elim .inl λz=>.inr<|.inl z;rw[jh6 u,ifT<|by rw[G];exact congrArg some<|X0 ⇑u];refine⟨_,Jw rfl rfl ?_ i n,rfl,rfl,rfl⟩;rw[jbF (jC (o:=true) i) rfl];rfl
 rw[ifF<|by rw[G];exact congrArg some<|X1 ⇑u];by_cases A:e.kd=yd
 ·have i:=k.c<|.inr<|.inr<|.inr<|.inl A;rw[jdf A,ifT<|by rw[j,A];rfl];refine⟨_,sq (Jw rfl rfl ?_ i n)<|Jw rfl rfl ?_ i n,rfl,rfl,rfl⟩
  ·rw[jbF (y:=.int<|mz<|e.gt-t.w e.nm) (jC (o:=true) i) ?_]
   ·rfl
   ·rw[joE (y:=.int<|e.gt-t.w e.nm) rfl ?_]
    ·rfl
    ·rw[jbF rfl<|jC (o:=true) i];rfl
  ·rw[joE (y:=.int<|t.w e.nm-e.gt) rfl ?_]
   ·rfl
   ·rw[jbF (jC (o:=true) i) rfl];rfl
 rw[ifF<|by rw[j];exact congrArg some<|U1.mpr A];by_cases B:e.kd=YR
 ·have i:=k.f B;rw[jdx B,ifT<|by rw[j,B];rfl];refine⟨_,Jw rfl rfl ?_ i F,rfl,rfl,rfl⟩;rw[jbF (jC (o:=true) (f:=t.l) i) rfl];rfl
 rw[ifF<|by rw[j];exact congrArg some<|U1.mpr B];by_cases r:e.kd=vU
 ·have i:=k.c<|.inr<|.inr<|.inr<|.inr r;obtain⟨Q,R,I⟩:=k.g r;have S:e.pl.toNat<p.guards.length:=by lia
  have T:jc (.lst false<|p.guards.map eG) (.int e.pl)=some (eG<|p.guards.getD e.pl.toNat ([],[])):=by
   rw[jj4 Q<|by rw[L1];exact R,List.getElem?_map,List.getD_eq_getElem?_getD,X5 S];rfl
  rw[jbG r,ifT<|by rw[j,r];rfl];have J:∀ a b c d:Option D,p2 jc (p2 jc (pV 5)<|pV 6) (pI 0) [none,a,b,c,d,‹p.guards.map eG›,some<|.int e.pl,some<|.str e.kd,some<|.str e.nm,some<|.int e.nd,some<|.int e.gt]=some (.str<|gp p.guards e.pl):=λa b c d=>by
   rw[jbF (x:=eG<|p.guards.getD e.pl.toNat ([],[])) (y:=.int 0) (by rw[jbF (x:=.lst false<|p.guards.map eG) (y:=.int e.pl) rfl rfl];exact T) rfl];rfl
  refine⟨_,sq (Jw (N:=p.C) (f:=t.w) (w:=e.nm) (v:=t.w e.nm-e.gt) rfl rfl ?_ i n)<|Jw (N:=p.P) (f:=t.l) (w:=gp p.guards e.pl) (v:=t.l (gp p.guards e.pl)-e.gt) rfl (J _ _ _ _) ?_ I F,rfl,rfl,rfl⟩
  ·rw[jbF (x:=.int<|t.w e.nm) (y:=.int e.gt) (jC (o:=true) (f:=t.w) i) rfl];rfl
  ·exact Eq.trans (jbF (x:=.int<|t.l<|gp p.guards e.pl) (y:=.int e.gt) (Eq.trans (jbF (x:=dct true p.P t.l) (y:=.str<|gp p.guards e.pl) rfl<|J (some<|e5 e) (some<|dct true p.C t.s) (some<|dct true p.C<|put t.w e.nm<|t.w e.nm-e.gt)<|some<|dct true p.P t.l)<|jC (o:=true) (f:=t.l) I) rfl) rfl
 rw[ifF<|by rw[j];exact congrArg some<|U1.mpr r];have en:VN p.guards t e=t:=by unfold VN;rw[if_neg u,if_neg A,if_neg B,if_neg r]
 rw[en];exact⟨_,rfl,rfl,rfl,rfl⟩
noncomputable abbrev SK:=Int×List Nat
noncomputable abbrev SV:=Int×Int×List (List Nat)
abbrev SR:=SK×SV
noncomputable def kS(k:SK):List KA:=[.int k.1,.str k.2]
noncomputable def vS(v:SV):D:=.tup [.int v.1,.int v.2.1,.lst false<|v.2.2.map D.str]
def jgY(a b):(kS a=kS b)=(a=b):=by
 obtain⟨x,y⟩:=a;obtain⟨z,w⟩:=b;simp[kS]
abbrev ksS(l:List SR):List (List KA):=l.map λr=>kS r.1
abbrev vsS(l:List SR):List D:=l.map λr=>vS r.2
structure SA(A:List SR)(en:List En):Prop where
 nd:(A.map (·.1)).Nodup
 al:A.length<=en.length
 l:∀ r∈A,r.2.2.2.length<=en.length
 s:∀ r∈A,∃ e∈en,isS e/\(e.pl,e.kd)=r.1
 v:∀ r∈A,r.2.1=nF en r.1.1 r.1.2/\r.2.2.1=gF en r.1.1 r.1.2
 w:∀ r∈A,∀ u,u∈r.2.2.2↔∃ e∈en,(e.pl,e.kd)=r.1/\e.nm=u
 c:∀ e∈en,isS e->(e.pl,e.kd)∈A.map (·.1)
def jaf{e}{pl kd}:(nF [e] pl kd=if(e.pl,e.kd)=(pl,kd) then e.nd else 0)/\gF [e] pl kd=if(e.pl,e.kd)=(pl,kd) then e.gt else 0:=by
 by_cases h:(e.pl,e.kd)=(pl,kd)
 ·have c:=Prod.mk.inj h;rw[if_pos h,if_pos h,(jcK λa b=>by rw[M7.mp b];exact c).1,(jcK λa b=>by rw[M7.mp b];exact c).2];simp[nds,gts]
 ·have c:¬ (e.pl=pl/\e.kd=kd):=λz=>h (by rw[z.1,z.2]);rw[if_neg h,if_neg h];exact xJ λa b=>by rw[M7.mp b];exact c
def SA.skip{A en e}(h:SA A en)(k:¬ isS e):SA A (en++[e]):=by
 have f:∀ r∈A,(e.pl,e.kd)≠r.1:=λr d z=>by
  obtain⟨a,_,b,q⟩:=h.s r d;rw[<- q] at z;have:=(Prod.mk.inj z).2;exact k (by unfold isS;rw[this];exact b)
 have ln:(en++[e]).length=en.length+1:=by simp
 refine⟨h.nd,by have:=h.al;lia,λr d=>by have:=h.l r d;lia,λr d=>?_,λr d=>?_,λr d u=>?_,λa b g=>?_⟩
 ·obtain⟨a,b,q⟩:=h.s r d;exact⟨a,N1.mpr<|.inl b,q⟩
 ·rw[(yM _ _ _ _).1,(yM _ _ _ _).2,jaf.1,jaf.2,if_neg<|f r d,if_neg<|f r d,Int.add_zero,Int.add_zero];exact h.v r d
 ·rw[h.w r d u];constructor
  ·rintro⟨a,b,q⟩;exact⟨a,N1.mpr<|.inl b,q⟩
  ·rintro⟨a,b,q⟩;rcases N1.mp b with b | b
   ·exact⟨a,b,q⟩
   ·rw[M7.mp b] at q;exact absurd q.1<|f r d
 ·rcases N1.mp b with b | b
  ·exact h.c a b g
  ·rw[M7.mp b] at g;exact absurd g k
def vp(A:List SR)(e:En):SV:=(jbr A (e.pl,e.kd)).getD (0,0,[])
def zI(A:List SR)(e:En):SV:=((vp A e).1+e.nd,(vp A e).2.1+e.gt,(vp A e).2.2++[e.nm])
def jgv{A en e}(h:SA A en)(k:isS e):(vp A e).1=nF en e.pl e.kd/\(vp A e).2.1=gF en e.pl e.kd/\(vp A e).2.2.length<=en.length/\∀ u,u∈(vp A e).2.2↔∃ a∈en,(a.pl,a.kd)=(e.pl,e.kd)/\a.nm=u:=by
 unfold vp;cases q:jbr A (e.pl,e.kd) with
 | some v=>
  have b:=jau q;exact⟨(h.v _ b).1,(h.v _ b).2,h.l _ b,h.w _ b⟩
 | none=>
  have d:∀ a∈en,¬ (a.pl=e.pl/\a.kd=e.kd):=λa f z=>(gget_none.mp q) (by have:=h.c a f (by unfold isS;rw[z.2];exact k);rw[z.1,z.2] at this;exact this);refine⟨(xJ d).1.symm,(xJ d).2.symm,by simp,λu=>⟨λz=>(nomatch z),?_⟩⟩;rintro⟨a,f,z,_⟩;exact absurd (Prod.mk.inj z)<|d a f
def SA.add{A en e}(h:SA A en)(k:isS e):SA (Kd A (e.pl,e.kd)<|zI A e) (en++[e]):=by
 obtain⟨j,m,p,n⟩:=jgv h k;obtain⟨p1,p2,p3⟩:=jcM h.nd;have ln:(en++[e]).length=en.length+1:=by simp
 have g:∀ a∈en,a∈en++[e]:=λa b=>N1.mpr<|.inl b;have me:e∈en++[e]:=N1.mpr<|.inr<|M7.mpr rfl;refine⟨p1,by have:=h.al;lia,λr d=>?_,λr d=>?_,λr d=>?_,λr d u=>?_,λa b o=>?_⟩
 ·rcases(p3 r).mp d with rfl | ⟨d,_⟩
  ·show((vp A e).2.2++[e.nm]).length<=_;rw[N3,List.length_singleton];lia
  ·have:=h.l r d;lia
 ·rcases(p3 r).mp d with rfl | ⟨d,_⟩
  ·exact⟨e,me,k,rfl⟩
  ·obtain⟨a,b,q⟩:=h.s r d;exact⟨a,g a b,q⟩
 ·rw[(yM _ _ _ _).1,(yM _ _ _ _).2,jaf.1,jaf.2];rcases(p3 r).mp d with rfl | ⟨d,q⟩
  ·rw[if_pos rfl,if_pos rfl,<- j,<- m];exact⟨rfl,rfl⟩
  ·rw[if_neg λz=>q z.symm,if_neg λz=>q z.symm,Int.add_zero,Int.add_zero];exact h.v r d
 ·rcases(p3 r).mp d with rfl | ⟨d,q⟩
  ·show u∈(vp A e).2.2++[e.nm]↔_;rw[N1,n u,M7];constructor
   ·rintro(⟨a,b,z⟩ | rfl)
    ·exact⟨a,g a b,z⟩
    ·exact⟨e,me,rfl,rfl⟩
   ·rintro⟨a,b,z1,i⟩;rcases N1.mp b with b | b
    ·exact .inl ⟨a,b,z1,i⟩
    ·rw[M7.mp b] at i;exact .inr i.symm
  ·rw[h.w r d u];constructor
   ·rintro⟨a,b,z⟩;exact⟨a,g a b,z⟩
   ·rintro⟨a,b,z⟩;rcases N1.mp b with b | b
    ·exact⟨a,b,z⟩
    ·rw[M7.mp b] at z;exact absurd z.1.symm q
 ·have f:∀ r,r∈Kd A (e.pl,e.kd) (zI A e)->r.1∈(Kd A (e.pl,e.kd)<|zI A e).map (·.1):=λr d=>M5.mpr ⟨r,d,rfl⟩;by_cases q:(a.pl,a.kd)=(e.pl,e.kd)
  ·rw[q];exact f ((e.pl,e.kd),zI A e)<|(p3 _).mpr (.inl rfl)
  ·rcases N1.mp b with b | b
   ·obtain⟨r,d,z⟩:=M5.mp<|h.c a b o;rw[<- z];exact f r<|(p3 r).mpr (.inr ⟨d,λy=>q<|by rw[<- z];exact y⟩)
   ·rw[M7.mp b] at q;exact absurd rfl q
def jhB(A):frzs (vsS A)=true:=kN (λr=>by unfold vS;simp) _
def jnf(A):fzs (vsS A)=vsS A:=vV _<|jhB A
theorem K0{b0 a b11 b12}:∀{Q:List LG}{A}{en}{o2 o3 o4 o5 o6 o7 o8 o9},SA A en->en.length+Q.length<=400 ->
  ∃ A',SA A' (en++Q.map (·.2.2))/\Ex8 λo2' o3' o4' o5' o6' o7' o8' o9'=>jB (gT 7<|gC (jd [] 2)<|gC (jd [] 3)<|gC (jd [] 4)<|gC (jd [] 5)<|gC (jd [] 6)<|gC (jd [] 7)<|gC (jd [] 8) gN) yw (Q.map e7) [b0,some<|.dT true (ksS A)<|vsS A,o2,o3,o4,o5,o6,o7,o8,o9,a,b11,b12]=some (.nx [b0,some<|.dT true (ksS A')<|vsS A',o2',o3',o4',o5',o6',o7',o8',o9',a,b11,b12])
 | [],A,en,o2,o3,o4,o5,o6,o7,o8,o9,h,_=>⟨A,by simpa using h,o2,o3,o4,o5,o6,o7,o8,o9,rfl⟩
 | q::Q,A,en,o2,o3,o4,o5,o6,o7,o8,o9,h,l=>by
  rw[M1] at l;have j:∀ b,(gT 7<|gC (jd [] 2)<|gC (jd [] 3)<|gC (jd [] 4)<|gC (jd [] 5)<|gC (jd [] 6)<|gC (jd [] 7)<|gC (jd [] 8) gN) (e7 q) [b0,some b,o2,o3,o4,o5,o6,o7,o8,o9,a,b11,b12]=some [b0,some b,some<|.str q.1,some<|.str q.2.1,some<|.int q.2.2.pl,some<|.str q.2.2.kd,some<|.str q.2.2.nm,some<|.int q.2.2.nd,some<|.int q.2.2.gt,o9,a,b11,b12]:=λ_=>rfl;have k:∀ b,jj (p2 (Y2 false) (pV 5)<|Jp #[pS [112,97,121],pS [115,104,97,114,101],pS [114,101,112,97,121]]) [b0,some b,some<|.str q.1,some<|.str q.2.1,some<|.int q.2.2.pl,some<|.str q.2.2.kd,some<|.str q.2.2.nm,some<|.int q.2.2.nd,some<|.int q.2.2.gt,o9,a,b11,b12]=some (decide<|q.2.2.kd∈[Kv,jI,yd]):=λb=>by
   simp[jb];have m:Y2 false (D.str q.2.2.kd) (D.lst true [D.str [112,97,121],D.str [115,104,97,114,101],D.str [114,101,112,97,121]])=some (.bl<|false != decide (q.2.2.kd∈[Kv,jI,yd])):=(Ym false true q.2.2.kd [Kv,jI,yd]);rw[m];simp
  by_cases z:isS q.2.2
  ·obtain⟨A',c,o2',o3',o4',o5',o6',o7',o8',o9',e⟩:=K0 (Q:=Q) (o2:=some<|.str q.1) (o3:=some<|.str q.2.1) (o4:=some<|.int q.2.2.pl) (o5:=some<|.str q.2.2.kd) (o6:=some<|.str q.2.2.nm) (o7:=some<|.int q.2.2.nd) (o8:=some<|.int q.2.2.gt) (o9:=some<|vS<|vp A q.2.2) (h.add z) (by simp;lia);refine⟨A',by simpa using c,o2',o3',o4',o5',o6',o7',o8',o9',?_⟩;have d:=jkz (ve:=vS) jgY (q.2.2.pl,q.2.2.kd) (zI A q.2.2) A;have t:=(jgv h z).2.2.1;have f:(KJ (ksS A) (vsS A) [.int q.2.2.pl,.str q.2.2.kd]).getD (.tup [.int 0,.int 0,.lst false []])=vS (vp A q.2.2):=by
    show(KJ (ksS A) (vsS A)<|kS (q.2.2.pl,q.2.2.kd)).getD _=_;rw[jjm (ve:=vS) jgY (q.2.2.pl,q.2.2.kd) A];unfold vp;cases jbr A (q.2.2.pl,q.2.2.kd)<;>rfl
   have n:frz (vS<|vp A q.2.2)=true:=by unfold vS;simp
   have o:jc (vS<|vp A q.2.2) (.int 0)=some (.int (vp A q.2.2).1):=rfl;have p:jc (vS<|vp A q.2.2) (.int 1)=some (.int (vp A q.2.2).2.1):=rfl;have r:jc (vS<|vp A q.2.2) (.int 2)=‹(vp A q.2.2).2.2.map D.str›:=rfl;have ad:jg (.lst false<|(vp A q.2.2).2.2.map D.str) (.lst true [.str q.2.2.nm])=↑(((vp A q.2.2).2.2++[q.2.2.nm]).map D.str):=by
    show(bif lim (_+_)&&(frzs _&&frzs _) then _ else _)=_;rw[jb<|by simp;lia,yH,N4];rfl
   have fn:fz (.tup [.int<|(vp A q.2.2).1+q.2.2.nd,.int<|(vp A q.2.2).2.1+q.2.2.gt,.lst true<|((vp A q.2.2).2.2++[q.2.2.nm]).map D.str])=vS (zI A q.2.2):=by
    show D.tup [_,_,.lst false<|fzs _]=_;rw[Y5];rfl
   have fr:frz (vS<|zI A q.2.2)=true:=by unfold vS;simp
   have d:Ke (ksS A) (vsS A) [.int q.2.2.pl,.str q.2.2.kd] (vS<|zI A q.2.2)=_:=d;have s:lim (ksS A).length=true:=vN (by have:=h.al;lia);have g:vC (.int q.2.2.pl)=some (.int q.2.2.pl):=rfl;have i:vC (.str q.2.2.kd)=some (.str q.2.2.kd):=rfl;rw[L5,lpE (j _) ?_,e];unfold yw;rw[ifT<|by rw[k];exact congrArg some<|X0<|by simpa [isS] using z];generalize ksS A=KK at *;simp[f,n,o,p,r,ad,fn,fr,d,s,g,i,jb,-List.map_append]
  ·obtain⟨A',c,o2',o3',o4',o5',o6',o7',o8',o9',e⟩:=K0 (Q:=Q) (h.skip z) (by simp;lia);refine⟨A',by simpa using c,o2',o3',o4',o5',o6',o7',o8',o9',?_⟩;rw[L5,lpE (j _) ?_,e];unfold yw;rw[ifF<|by rw[k];exact congrArg some<|X1<|by simpa [isS] using z];rfl
def jeP{C l:W4}{w}(h:l.Nodup/\∀ u∈l,u∈C)(d:w∈C):(qx l w).Nodup/\∀ u∈qx l w,u∈C:=by
 refine⟨?_,λu e=>(mem_svPut.mp e).elim (h.2 u) λz=>z▸d⟩;unfold qx;split
 ·exact h.1
 ·next q=>
  rw[U8];exact⟨h.1,by simp,λa f b c=>by simp at c;rintro rfl;exact q<|c▸f⟩
theorem xb{C:W4}{r}(o:C.length<=10)(p:r.length=10):∀{ws l:W4}{b11 o12},l.Nodup/\(∀ u∈l,u∈C)->(∀ w∈ws,w∈C) ->
  ∃ l' o12',jB (jd [] 12) yZ (ws.map D.str) (r++[some<|dSv true l,b11,o12])=some (.nx<|r++[some<|dSv true l',b11,o12'])/\(l'.Nodup/\∀ u∈l',u∈C)/\∀ w,w∈l'↔w∈l\/w∈ws
 | [],l,b11,o12,h,_=>⟨l,o12,rfl,h,by simp⟩
 | w::ws,l,b11,o12,h,q=>by
  obtain⟨l',o12',e,s,m⟩:=xb o p (ws:=ws) (b11:=b11) (o12:=some<|.str w) (jeP h<|q w<|by simp) λu t=>q u (by simp[t]);refine⟨l',o12',?_,s,λu=>by rw[m u,mem_svPut,M4,or_assoc]⟩;have v:=jgE l w;have z:=N6 (VS h.1 h.2) o;have x:lim (l.map KA.str).length=true:=vN ∅;obtain⟨a,b,c,d,f,g,i,j,k,n,rfl⟩:∃ a b c d f g i j k n,r=[a,b,c,d,f,g,i,j,k,n]:=by
   match r,p with
   | [a,b,c,d,f,g,i,j,k,n],_=>exact⟨a,b,c,d,f,g,i,j,k,n,rfl⟩
  rw[L5,lpE rfl ?_,e];have y:vC (.str w)=some (.str w):=rfl;unfold dSv;generalize l.map KA.str=KK at *;simp[yZ,v,x,y]
theorem JE{C:W4}{b0 b1 b2 b3 b4 b5 b6 c}(d:C.length<=10):∀{A}{l}{o7 o8 o11 o12},l.Nodup/\(∀ u∈l,u∈C)->(∀ r∈A,∀ w∈r.2.2.2,w∈C) ->
  ∃ l',(∀ w,w∈l'↔w∈l \/ ∃ r∈A,0<r.2.1/\r.2.1=r.2.2.1/\w∈r.2.2.2)/\Ex4 λo7' o8' o11' o12'=>jB (gA3 7 8 11) yb (vsS A) [b0,b1,b2,b3,b4,b5,b6,o7,o8,c,some<|dSv true l,o11,o12]=some (.nx [b0,b1,b2,b3,b4,b5,b6,o7',o8',c,some<|dSv true l',o11',o12'])
 | [],l,o7,o8,o11,o12,_,_=>⟨l,by simp,o7,o8,o11,o12,rfl⟩
 | r::A,l,o7,o8,o11,o12,h,f=>by
  by_cases z:0<r.2.1/\r.2.1=r.2.2.1
  ·obtain⟨l1,g,i,n,o⟩:=xb (r:=[b0,b1,b2,b3,b4,b5,b6,some<|.int r.2.1,some<|.int r.2.2.1,c]) d rfl h<|f r (by simp);obtain⟨l',m,o7',o8',o11',o12',e⟩:=JE d (A:=A) (o7:=some<|.int r.2.1) (o8:=some<|.int r.2.2.1) (o11:=‹r.2.2.2.map D.str›) (o12:=g) n λq b=>f q (by simp[b]);refine⟨l',λw=>?_,o7',o8',o11',o12',?_⟩
   ·rw[m w,o w];constructor
    ·rintro((a | a) | ⟨q,b,k⟩)
     ·exact .inl a
     ·exact .inr ⟨r,by simp,z.1,z.2,a⟩
     ·exact .inr ⟨q,by simp[b],k⟩
    ·rintro(a | ⟨q,b,k⟩)
     ·exact .inl<|.inl a
     ·rcases M4.mp b with rfl | b
      ·exact .inl<|.inr k.2.2
      ·exact .inr ⟨q,b,k⟩
   ·rw[show vsS (r::A)=vS r.2::vsS A from rfl,lpE rfl ?_,e];have i:jB (jd [] 12) yZ (r.2.2.2.map D.str) [b0,b1,b2,b3,b4,b5,b6,some<|.int r.2.1,some<|.int r.2.2.1,c,some<|dSv true l,‹r.2.2.2.map D.str›,o12]=_:=i;have j:(r.2.1==r.2.2.1)=true:=by rw[z.2];simp
    simp[yb,z.1,j,i]
  ·obtain⟨l',m,o7',o8',o11',o12',e⟩:=JE d (A:=A) (o7:=some<|.int r.2.1) (o8:=some<|.int r.2.2.1) (o11:=‹r.2.2.2.map D.str›) (o12:=o12) h λq b=>f q (by simp[b]);refine⟨l',λw=>?_,o7',o8',o11',o12',?_⟩
   ·rw[m w];constructor
    ·rintro(a | ⟨q,b,k⟩)
     ·exact .inl a
     ·exact .inr ⟨q,by simp[b],k⟩
    ·rintro(a | ⟨q,b,k⟩)
     ·exact .inl a
     ·rcases M4.mp b with rfl | b
      ·exact absurd ⟨k.1,k.2.1⟩ z
      ·exact .inr ⟨q,b,k⟩
   ·rw[show vsS (r::A)=vS r.2::vsS A from rfl,lpE rfl ?_,e];by_cases z1:0<r.2.1
    ·have j:=U1.mpr λy=>z ⟨z1,y⟩;simp[yb,z1,j]
    ·simp[yb,z1]
def jdi{O p s}{Q:List LG}{sv}(h:PoolOk O p)(W:Q.length<=400)(y:SvI s (Q.map (·.2.2)) sv)(B:∀ q∈Q,isS q.2.2->q.2.2.nm∈p.C):∃ l,v7 [.lst false<|Q.map e7]=some (dSv true l)/\∀ w,w∈l↔w∈sv:=by
 obtain⟨A,f,D,E,F,G,H,I,J,K,e⟩:=K0 (Q:=Q) (A:=[]) (en:=[]) ⟨by simp,by simp,by simp,by simp,by simp,by simp,by simp⟩ (by simp;lia);rw[X4] at f;have L:∀ r∈A,∀ w∈r.2.2.2,w∈p.C:=λr d w k=>by
  obtain⟨a,i,z,rfl⟩:=(f.w r d w).mp k;obtain⟨b,M,n,o⟩:=f.s r d;obtain⟨q,N,rfl⟩:=M5.mp i;rw[<- o] at z;exact B q N (by unfold isS;rw[(Prod.mk.inj z).2];exact n)
 obtain⟨l,m,X,Y,P,R,e2⟩:=JE (by rw[L1];exact h.told2) (l:=[]) ⟨by simp,by simp⟩ L;refine⟨l,?_,λw=>?_⟩
 ·have S:=yE Q;have T:=VA Q;have x:=jnf A;have e:jB _ yw (Q.map e7) [‹Q.map e7›,some<|.dT true [] [],none,none,none,none,none,none,none,none,none,none,none]=_:=e;have e2:jB _ yb (vsS A) [‹Q.map e7›,none,D,E,F,G,H,I,J,K,some<|.dK true [] [],none,none]=_:=e2;generalize Q.map e7=QQ,ksS A=KK,vsS A=VV at *;have U:∀ r:Rh,kX 1 (‹QQ›::some (.dT true KK VV)::r)=some (VV,‹QQ›::none::r):=λr=>by
   show some (fzs VV,_)=_;rw[x];rfl
  simp[v7,jH,YG,S,T,x,e,U,e2]
 ·rw[m w,y.m w];constructor
  ·rintro(a | ⟨r,d,t,u,V⟩)
   ·cases a
   ·obtain⟨a,i,z,rfl⟩:=(f.w r d w).mp V;obtain⟨b,M,n,o⟩:=f.s r d;obtain⟨g,j⟩:=f.v r d;rw[<- z] at g j;refine⟨a,i,by rw[<- o] at z;unfold isS;rw[(Prod.mk.inj z).2];exact n,rfl,by rw[<- g];exact t,by rw[<- g,<- j];exact u⟩
  ·rintro⟨a,i,sa,rfl,t,u⟩;obtain⟨r,d,z⟩:=M5.mp<|f.c a i sa;obtain⟨g,j⟩:=f.v r d;rw[z] at g j;exact .inr ⟨r,d,by rw[g];exact t,by rw[g,j];exact u,(f.w r d a.nm).mpr ⟨a,i,z.symm,rfl⟩⟩
abbrev fN(p:PoolS)(a1 a2 a3:Option D)(t:St)(r:Rh):Rh:=some (jR false p)::a1::a2::a3::some (dct true p.C t.s)::some (dct true p.C t.w)::some (dct true p.P t.l)::r
def uK{O p}{t}{q}{a1 a2 a3 a7}{r:Rh}(h:PoolOk O p)(k:EnX p t q.2.2):YU (KL yR 4 5 6 (p2 jc (pV 0)<|pI 6)<|pSl (pV 8) (oS<|pI 2) oN) (fN p a1 a2 a3 t<|a7::some (e7 q)::r)=some (.nx<|fN p a1 a2 a3 (jec p.guards t q.2.2)<|a7::some (e7 q)::r):=by
 have a:jc (jR false p) (.int 6)=‹p.guards.map eG›:=rfl;have sl:jej (some 2) none (e7 q)=some (e5 q.2.2):=rfl;have b:frz (e5 q.2.2)=true:=rfl;unfold fN;simp[KL,a,sl,b,Vb p.guards,jfe h k]
theorem jgA{n}:∀{E f L},n∉E->(eat E f L).1 n=f n
 | [],_,_,_=>rfl
 | c::E,f,L,h=>by
  rw[M4] at h;rw[eat,jgA λz=>h<|.inr z,V3 λz=>h<|.inl z]
theorem jgt{O p}{a1 a2 a3}{nm}(h:PoolOk O p){r:Rh}:∀{E}{k}{t}{L lost}{o8},(∀ c∈E,c∈p.C)->(∀ n,0<=t.s n)->(∀ n,0<=t.w n/\t.w n<=10 ^ 20)->0<=L ->
  ∃ t' o8',(∀ ys,jB (jd [] 8) jZ (((QZ k E t.s L).map λe=>((nm,[],e):LG)).map e7++ys) (fN p a1 a2 a3 t<|some (.int lost)::o8::r)=jB (jd [] 8) jZ ys (fN p a1 a2 a3 t'<|some (.int<|lost-L+(eat E t.s L).2)::o8'::r))/\t'.s=(eat E t.s L).1/\t'.l=t.l/\(∀ n,0<=t'.w n/\t'.w n<=10 ^ 20)/\(E.Nodup->∀ n,0<(eat E t.s L).1 n->t'.w n=t.w n)
 | [],k,t,L,lost,o8,_,_,a,_=>⟨t,o8,λys=>by rw[show lost-L+(eat [] t.s L).2=lost by show lost-L+L=lost;lia];rfl,rfl,rfl,a,λ_ _ _=>rfl⟩
 | c::E,k,t,L,lost,o8,i,j,a,o=>by
  have g:=jaE o<|j c;have d:∀ n,0<=(jjt t ⟨k,JO,c,L,got L<|t.s c⟩).s n:=zL j ∅;have F:0<=got 1 (t.s c-got L (t.s c))/\got 1 (t.s c-got L (t.s c))<=1:=by have:=jaE (L:=1) (s:=t.s c-got L (t.s c)) (by decide) ∅;lia
  have wc:=a c;have m:0<=t.w c*got 1 (t.s c-got L (t.s c))/\t.w c*got 1 (t.s c-got L (t.s c))<=10 ^ 20:=by
   have:got 1 (t.s c-got L (t.s c))=0\/got 1 (t.s c-got L (t.s c))=1:=by lia
   rcases this with z | z<;>rw[z]<;>lia
  have f:∀ n,0<=(jjt t ⟨k,JO,c,L,got L<|t.s c⟩).w n/\(jjt t ⟨k,JO,c,L,got L<|t.s c⟩).w n<=10 ^ 20:=KP a m.1 m.2;obtain⟨t',o8',e,v,e2,e3,x⟩:=jgt h (E:=E) (L:=L-got L (t.s c)) (λu y=>i u<|by simp[y]) d f ∅;refine⟨t',o8',λys=>?_,v,e2,e3,λnd n b=>?_⟩
  ·have A:QZ k (c::E) t.s L=⟨k,JO,c,L,got L<|t.s c⟩::QZ (k+1) E (jjt t ⟨k,JO,c,L,got L<|t.s c⟩).s (L-got L (t.s c)):=rfl;have B:(eat (c::E) t.s L).2=(eat E (jjt t ⟨k,JO,c,L,got L<|t.s c⟩).s (L-got L (t.s c))).2:=rfl;rw[A,B,L5,L5,List.cons_append,lpE rfl ?_,e]
   ·rw[show lost-got L (t.s c)-(L-got L (t.s c))=lost-L by lia]
   ·have D:=uK (t:=t) (q:=(nm,[],⟨k,JO,c,L,got L<|t.s c⟩)) (a1:=a1) (a2:=a2) (a3:=a3) (a7:=some<|.int<|lost-got L (t.s c)) (r:=r) h ⟨λ_=>(i c<|by simp),λz=>absurd z<|show ¬ JO=YR by decide,λz=>absurd z<|show ¬ JO=vU by decide,λ_=>⟨by lia,by lia⟩⟩;unfold jZ;rw[ifT<|by rfl];exact sq (by rfl) D
  ·rw[List.nodup_cons] at nd;rw[x nd.2 n b];show put t.w c (t.w c*got 1 (t.s c-got L (t.s c))) n=t.w n;by_cases z:n=c
   ·subst z;have b:0<(eat E (put t.s n<|t.s n-got L (t.s n))<|L-got L (t.s n)).1 n:=b;rw[jgA nd.1,zw] at b;rw[zw,show got 1 (t.s n-got L (t.s n))=1 by unfold got at *;split<;>lia,Int.mul_one]
   ·rw[V3 z]
theorem jhN{f}{a0 a1 a2 a3 a4 a5 a6 a7}{r:Rh}:∀{Q:List LG}{o8},(∀ q∈Q,f (a0::a1::a2::a3::a4::a5::a6::a7::some (e7 q)::r)=some (.nx<|a0::a1::a2::a3::a4::a5::a6::a7::some (e7 q)::r)) ->
  ∃ o8',∀ ys,jB (jd [] 8) f (Q.map e7++ys) (a0::a1::a2::a3::a4::a5::a6::a7::o8::r)=jB (jd [] 8) f ys (a0::a1::a2::a3::a4::a5::a6::a7::o8'::r)
 | [],o8,_=>⟨o8,λ_=>rfl⟩
 | q::Q,o8,h=>by
  obtain⟨o8',e⟩:=jhN (Q:=Q) λu a=>h u (by simp[a]);exact⟨o8',λys=>by rw[L5,List.cons_append,lpE rfl<|h q<|by simp,e]⟩
def jin{p}{a1 a2 a3}{t}{r:Rh}{lost}{Q:List LG}{o8}(h:∀ q∈Q,q.2.2.kd≠JO):
  ∃ o8',∀ ys,jB (jd [] 8) jZ (Q.map e7++ys) (fN p a1 a2 a3 t<|lost::o8::r)=jB (jd [] 8) jZ ys (fN p a1 a2 a3 t<|lost::o8'::r):=jhN λq a=>by
 unfold jZ;rw[ifF]
 ·rfl
 ·show some (q.2.2.kd==[101,97,116])=_;exact congrArg some<|U1.mpr<|h q a
def jik{p}{a1 a2 a3}{t}{r:Rh}{lost}{Q:List LG}{o8}(h:∀ q∈Q,q.2.2.kd=JO):
  ∃ o8',∀ ys,jB (jd [] 8) ye (Q.map e7++ys) (fN p a1 a2 a3 t<|lost::o8::r)=jB (jd [] 8) ye ys (fN p a1 a2 a3 t<|lost::o8'::r):=jhN λq a=>by
 unfold ye;rw[ifF]
 ·rfl
 ·show some (!(q.2.2.kd==[101,97,116]))=_;rw[h q a];rfl
theorem jgz{O p}{a1 a2 a3}{r:Rh}{lost}(h:PoolOk O p):∀{Q:List LG}{t}{o8},(∀ q∈Q,EnW p q.2.2) ->
  ∃ o8',jB (jd [] 8) ye (Q.map e7) (fN p a1 a2 a3 t<|lost::o8::r)=some (.nx (fN p a1 a2 a3 ((Q.map (·.2.2)).foldl (VN p.guards) t)<|lost::o8'::r))
 | [],t,o8,_=>⟨o8,rfl⟩
 | q::Q,t,o8,k=>by
  have a:=k q (by simp);obtain⟨o8',e⟩:=jgz h (Q:=Q) λu d=>k u (by simp[d]);refine⟨o8',?_⟩;rw[L5,lpE rfl ?_,e]
  ·rfl
  have b:=uK (t:=t) (a1:=a1) (a2:=a2) (a3:=a3) (a7:=lost) (r:=r) h ⟨λz=>z.elim (λz=>absurd z a.ne) a.c,a.f,a.g,λz=>absurd z a.ne⟩;have i:jec p.guards t q.2.2=VN p.guards t q.2.2:=if_neg a.ne;rw[i] at b;unfold ye;rw[ifT]
  ·exact b
  ·show some (!(q.2.2.kd==JO))=_;rw[U1.mpr a.ne];rfl
def zg{o N}{f g}(h:∀ n∈N,f n=g n):dct o N f=dct o N g:=by
 have:(N.map λn=>D.int<|f n)=N.map λn=>D.int (g n):=List.map_congr_left λn a=>by rw[h n a]
 unfold dct;rw[this]
noncomputable def alv(p:PoolS)(f:List Nat->Int):List (List Nat):=p.C.filter λn=>decide<|0<f n
def jbE{p}{f}:jS (jd [] 0) (jj<|p2 Yj (p2 jG (pV 1)<|pV 0)<|pI 0) (pF<|pV 0) (p.C.map D.str) [none,some<|dct false p.C f]=some ((alv p f).map D.str):=by
 refine Yv (λρ=>∃ z,ρ=[z,some<|dct false p.C f]) ?_ ⟨none,rfl⟩;rintro q a ρ ⟨z,rfl⟩;refine⟨[some<|.str q,some<|dct false p.C f],rfl,?_,by simp,_,rfl⟩;simp[jC (o:=false) (f:=f) a]
def jfn{p}{f}{a0 a1 a2 a3}{r:Rh}(h:p.C.length<=10):xk 4 (jd [] 0) (jj<|p2 Yj (p2 jG (pV 1)<|pV 0)<|pI 0) (pF<|pV 0) [none,some 4] (a0::a1::a2::a3::some (dct true p.C f)::r)=some (.lst true<|(alv p f).map D.str,a0::a1::a2::a3::some (dct true p.C f)::r):=by
 have k:Ks 4 (a0::a1::a2::a3::some (dct true p.C f)::r)=some (p.C.map D.str,a0::a1::a2::a3::some (dct false p.C f)::r):=by
  show(bif frzs (p.C.map λn=>D.int<|f n) then some ((p.C.map KA.str).map kaD,_) else none)=_;rw[QU,U0];rfl
 have l:lim (p.C.map D.str).length=true:=vN ∅;have pl:jgG ((alv p f).map D.str)=true:=by
  induction alv p f with
  | nil=>rfl
  | cons a l b=>show(pln (.str a)&&jgG (l.map D.str))=true;rw[b];rfl
 rw[uB,k,L4,l];show((jS _ _ _ (p.C.map D.str) [none,some<|dct false p.C f]).bind _)=_;rw[jbE,L4,pl];rfl
def jhr(al:W4):List W3->(List Nat->Int)->List Nat->Int
 | [],f=>f
 | c::T,f=>jhr al T<|put f c.1<|(f c.1+c.2.2)*b01 (decide<|c.1∈al)
theorem jbW{al n}:∀{T}{f},n∉T.map (·.1)->jhr al T f n=f n
 | [],f,_=>rfl
 | c::T,f,h=>by
  rw[L5,M4] at h;rw[jhr,jbW λz=>h<|.inr z,V3 λz=>h<|.inl z]
theorem jcW{al n}:∀{T}{f},(T.map (·.1)).Nodup->n∈T.map (·.1)->jhr al T f n=(f n+fnOf (T.map λc=>(c.1,c.2.2)) n)*b01 (decide<|n∈al)
 | c::T,f,nd,h=>by
  rw[L5,List.nodup_cons] at nd;rw[jhr];by_cases e:n=c.1
  ·subst e;have e2:fnOf ((c::T).map λc=>(c.1,c.2.2)) c.1=c.2.2:=by show(if c.1=c.1 then some c.2.2 else _).getD 0=_;rw[if_pos rfl];rfl
   rw[jbW nd.1,zw,e2]
  ·have e2:fnOf ((c::T).map λc=>(c.1,c.2.2)) n=fnOf (T.map λc=>(c.1,c.2.2)) n:=by show(if c.1=n then some c.2.2 else _).getD 0=_;rw[if_neg λz=>e z.symm];rfl
   rw[jcW nd.2<|(M4.mp h).resolve_left e,V3 e,e2]
theorem jgN{O p}{al}{a0 a1 a2 a3 a4 a6 a7 a8}{r:Rh}(h:PoolOk O p)(d:p.C.length<=1000):∀{T}{f}{o10 o11 o12},(∀ c∈T,c.1∈p.C/\0<=c.2.2/\c.2.2<=10 ^ 12)->(∀ n,0<=f n/\f n<=10 ^ 21)->(T.map (·.1)).Nodup->(∀ c∈T,f c.1<=10 ^ 20) ->
  Ex3 λo10' o11' o12'=>jB (gA3 10 11 12) YJ (T.map e3) (a0::a1::a2::a3::a4::some (dct true p.C f)::a6::a7::a8::↑(al.map D.str)::o10::o11::o12::r)=some (.nx<|a0::a1::a2::a3::a4::some (dct true p.C<|jhr al T f)::a6::a7::a8::↑(al.map D.str)::o10'::o11'::o12'::r)
 | [],f,o10,o11,o12,_,_,_,_=>⟨o10,o11,o12,rfl⟩
 | c::T,f,o10,o11,o12,g,i,nd,j=>by
  obtain⟨k,m,s⟩:=g c (by simp);rw[L5,List.nodup_cons] at nd;have t:=i c.1;have u:=j c (by simp);have b:b01 (decide<|c.1∈al)=0\/b01 (decide<|c.1∈al)=1:=by unfold b01;split<;>simp
  have l:0<=(f c.1+c.2.2)*b01 (decide<|c.1∈al)/\(f c.1+c.2.2)*b01 (decide<|c.1∈al)<=10 ^ 21:=by rcases b with z | z<;>rw[z]<;>lia
  obtain⟨o10',o11',o12',e⟩:=jgN h d (λq a=>g q<|by simp[a]) (KP i l.1 l.2) nd.2 (λq a=>by
   have:q.1≠c.1:=λz=>nd.1<|z▸M5.mpr ⟨q,a,rfl⟩;rw[V3 this];exact j q<|by simp[a])
  refine⟨o10',o11',o12',?_⟩;rw[L5,lpE rfl ?_,e]
  ·rfl
  refine Jw rfl rfl ?_ k d;simp(disch:=lia) [jC (o:=true) (f:=f) k,Ym false true c.1 al,xH<|decide<|c.1∈al,yu]
theorem jgX{al sv:W4}{a0 a1 a2 a3 a4 a5 a6 a7 a8 a11 a12 a16 a17:Option D}{f:List Nat->Int}:∀{R acc:List W2}{o10 o15},(∀ q∈R,(q.1∈al↔0<f q.1))->(∀ q∈R,q.2.natAbs<2 ^ 900)->acc.length+R.length<=1000 ->
  Ex2 λo10' o15'=>jB (gA2 10 15) vk (R.map e2) [a0,a1,a2,a3,a4,a5,a6,a7,a8,↑(al.map D.str),o10,a11,a12,some<|dSv true sv,↑(acc.map e2),o15,a16,a17]=some (.nx [a0,a1,a2,a3,a4,a5,a6,a7,a8,↑(al.map D.str),o10',a11,a12,some<|dSv true sv,↑((acc++rnN f sv R).map e2),o15',a16,a17])
 | [],acc,o10,o15,_,_,_=>⟨o10,o15,by simp[rnN]⟩
 | q::R,acc,o10,o15,h,d,j=>by
  rw[M1] at j;obtain⟨o10',o15',e⟩:=jgX (R:=R) (acc:=acc++[(q.1,if 0<f q.1/\q.1∉sv then q.2+1 else 0)]) (o10:=some<|.str q.1) (o15:=some<|.int q.2) (λu b=>h u<|by simp[b]) (λu b=>d u<|by simp[b]) (by simp;lia);refine⟨o10',o15',?_⟩;rw[List.append_assoc] at e;rw[L5,lpE rfl ?_,e]
  ·rfl
  have hi:=Ym false true q.1 al;have hd:=jmS true q.1 sv;have g:=h q (by simp);have k:=d q (by simp);have i:qA [.bl false]=some (.int 0):=rfl;have l:qA [.bl true]=some (.int 1):=rfl;have c:lim (acc.map e2).length=true:=vN ∅;have m:∀ v:Int,(acc++[(q.1,v)]).map e2=acc.map e2++[.tup [.str q.1,.int v]]:=λv=>by rw[N4];rfl
  rw[m];by_cases z:0<f q.1
  ·rw[X0<|g.mpr z] at hi;by_cases y:q.1∈sv
   ·rw[X0 y] at hd;simp(disch:=lia) [vk,hi,hd,i,yu,c,y,jb]
   ·rw[X1 y] at hd;simp(disch:=lia) [vk,hi,hd,l,yu,c,y,z,jb]
  ·rw[X1 λa=>z<|g.mp a] at hi;simp(disch:=lia) [vk,hi,i,yu,c,z,jb]
def jeY{O p}{S}{loss}(h:PoolOk O p):∀ n∈p.C,fnOf (S1 p S loss) n=F1 p S loss n:=λn a=>uU p.C _ a
def joG{O p B S W Rn Lv loss}(h:PoolOk O p)(k:BkOk p B S W Rn Lv):∀ n∈p.C,fnOf (W1 p S W loss) n=if 0<F1 p S loss n then fnOf W n+jbz p n else 0:=λn a=>by
 have nd:(W.map (·.1)).Nodup:=by rw[k.w1];exact h.toldn
 rw[<- k.w1] at a;obtain⟨q,d,rfl⟩:=M5.mp a;rw[k.w1] at a;have e:W1 p S W loss=W.map λq=>(q.1,if 0<F1 p S loss q.1 then fnOf W q.1+jbz p q.1 else 0):=by
  unfold W1 wd' ow';rw[U0];refine List.map_congr_left λr c=>?_;have b:r.1∈p.C:=by rw[<- k.w1];exact M5.mpr ⟨r,c,rfl⟩
  show(r.1,if 0<fnOf (S1 p S loss) r.1 then(if 0<F1 p S loss r.1 then r.2 else 0)+jbz p r.1 else(if 0<F1 p S loss r.1 then r.2 else 0))=_;rw[jeY h _ b,yO nd c];by_cases z:0<F1 p S loss r.1
  ·rw[if_pos z,if_pos z,if_pos z]
  ·rw[if_neg z,if_neg z,if_neg z]
 rw[e];have e3:(W.map λq=>((q.1,if 0<F1 p S loss q.1 then fnOf W q.1+jbz p q.1 else 0):W2))=(W.map (·.1)).map λn=>(n,if 0<F1 p S loss n then fnOf W n+jbz p n else 0):=by rw[U0];rfl
 rw[e3,k.w1];exact uU p.C _ a
def jlF{S:List W2}{C}(h:S.map (·.1)=C)(g):(S.map λq=>((q.1,g q.1):W2))=sz' C g:=by
 unfold sz';rw[<- h,U0];rfl
def PoolOk.wm{O p w}(h:PoolOk O p)(b:w∈p.P):Wd w:=by
 obtain⟨a,c,rfl⟩:=M5.mp b;exact(h.marks a c).1
def jjf{O p B L0 x}{b:Bk}{f:FW}(h:PoolOk O p)(k:BkOk p B b.S b.W b.R b.L)(X:0<=B)(hB:B<=10 ^ 19)(h2:0<=f.2)(F:DyOk p O f.1 B L0 b.S b.W b.R b.L b.x f.2 x):∃ d,kH [jR false p,yT false b,.lst false<|(yt p b f.2 x).map e7,.int f.2]=some d/\fz d=yT false (bkS p b f.2 x)/\okE 20 d=true:=by
 have nC:p.C.length<=10:=by rw[L1];exact h.told2
 have lS:=vv k.s1 h.told2;have lR:=vv k.r1 h.told2;have lV:=vv k.l1 h.marks2;obtain⟨j0,j1,j2,j3,j4⟩:=jbx b.S b.W b.R b.L b.x;have i1:jc (jR false p) (.int 1)=‹p.told.map e3›:=rfl;have dS:_=some (dct true p.C _):=Yk (o:=false) k.s1 h.toldn lS;have dW:_=some (dct true p.C _):=Yk (o:=false) k.w1 h.toldn<|vv k.w1 h.told2;have dL:_=some (dct true p.P _):=Yk (o:=false) k.l1 h.marksn lV;have ew:=F.ok.js.ew;obtain⟨ka,kb⟩:=jdb (b:=b) (loss:=f.2) (x:=x) h ew;have ll:(yt p b f.2 x).map e7=(lgA p b f.2).map e7++(lgB p b x).map e7:=N4;have G:(yt p b f.2 x).length<=400:=by
  have:=F.en;have e:(yt p b f.2 x).length=(lgA p b f.2).length+(lgB p b x).length:=N3;rw[e,L1,L1];unfold lgE;rw[Jc];have:=h.eats2;lia
 have wB:∀ n,0<=fnOf b.W n/\fnOf b.W n<=10 ^ 20:=λn=>⟨qD (λq a=>(k.w2 q a).1) n,by have:=xK X (λq a=>(k.w2 q a).2) n;lia⟩;obtain⟨i,p8,e1,s1,l1,w1,v1⟩:=jgt h (a1:=some<|yT false b) (a2:=‹(yt p b f.2 x).map e7›) (a3:=some<|.int f.2) (nm:=p.nm) (r:=[none,none,none,none,none,none,none,none,none]) (E:=p.eats) (k:=0) (t:=⟨fnOf b.S,fnOf b.W,fnOf b.L⟩) (L:=f.2) (lost:=b.x+f.2) (o8:=none) h.eatsm (qD k.s2) wB h2;obtain⟨H,Y⟩:=jin (p:=p) (a1:=some<|yT false b) (a2:=‹(yt p b f.2 x).map e7›) (a3:=some<|.int f.2) (t:=i) (r:=[none,none,none,none,none,none,none,none,none]) (lost:=some<|.int<|z1 p b.S b.x f.2) (Q:=lgB p b x) (o8:=p8) λq a=>(kb q a).2;have s1:i.s=F1 p b.S f.2:=s1;have zz:b.x+f.2-f.2+(eat p.eats (fnOf b.S) f.2).2=z1 p b.S b.x f.2:=by unfold z1;lia
 have U:jB (jd [] 8) jZ ((yt p b f.2 x).map e7) (fN p (some<|yT false b) (‹(yt p b f.2 x).map e7›) (some<|.int f.2) ⟨fnOf b.S,fnOf b.W,fnOf b.L⟩ [some<|.int<|b.x+f.2,none,none,none,none,none,none,none,none,none,none])=some (.nx<|fN p (some<|yT false b) (‹(yt p b f.2 x).map e7›) (some<|.int f.2) i [some<|.int<|z1 p b.S b.x f.2,H,none,none,none,none,none,none,none,none,none]):=by
  have:=e1<|(lgB p b x).map e7;have h0:=Y [];rw[M9] at h0;rw[zz,h0] at this
  conv=>lhs;arg 3;rw[ll]
  exact this
 have al:=jfn (p:=p) (f:=i.s) (a0:=some<|jR false p) (a1:=some<|yT false b) (a2:=‹(yt p b f.2 x).map e7›) (a3:=some<|.int f.2) (r:=[some<|dct true p.C i.w,some<|dct true p.P i.l,some<|.int<|z1 p b.S b.x f.2,H,none,none,none,none,none,none,none,none,none]) nC;obtain⟨j,u,v,f2⟩:=jgN (al:=alv p i.s) (a0:=some<|jR false p) (a1:=some<|yT false b) (a2:=‹(yt p b f.2 x).map e7›) (a3:=some<|.int f.2) (a4:=some<|dct true p.C i.s) (a6:=some<|dct true p.P i.l) (a7:=some<|.int<|z1 p b.S b.x f.2) (a8:=H) (r:=[none,none,none,none,none]) h ∅ (T:=p.told) (f:=i.w) (o10:=none) (o11:=none) (o12:=none) (λc Z=>⟨M5.mpr ⟨c,Z,rfl⟩,by have:=h.told c Z;lia,by have:=h.told c Z;lia⟩) (λn=>⟨(w1 n).1,by have:=(w1 n).2;lia⟩) h.toldn (λc _=>(w1 c.1).2);have I:∀ n∈p.C,(n∈alv p i.s↔0<fnOf (S1 p b.S f.2) n):=λn A=>by
  rw[jeY h n A];unfold alv;rw[List.mem_filter,s1,decide_eq_true_eq];exact⟨λz=>z.2,λz=>⟨A,z⟩⟩
 have c1:dct true p.C i.s=dct true p.C (fnOf<|S1 p b.S f.2):=zg λn A=>by rw[jeY h n A,s1]
 have c2:dct true p.C (jhr (alv p i.s) p.told i.w)=dct true p.C (fnOf<|W1 p b.S b.W f.2):=zg λn A=>by
  rw[jcW h.toldn A,joG h k n A];have m:=I n A;rw[jeY h n A] at m;by_cases z:0<F1 p b.S f.2 n
  ·rw[if_pos z,X0<|m.mpr z,v1 h.eatsn n z];show _*1=_;rw[Int.mul_one];rfl
  ·rw[if_neg z,X1 λy=>z<|m.mp y];exact Int.mul_zero _
 have c3:i.l=fnOf b.L:=l1;obtain⟨r8,e3'⟩:=jik (p:=p) (a1:=some<|yT false b) (a2:=‹(yt p b f.2 x).map e7›) (a3:=some<|.int f.2) (t:=⟨fnOf<|S1 p b.S f.2,fnOf<|W1 p b.S b.W f.2,fnOf b.L⟩) (r:=[↑((alv p i.s).map D.str),j,u,v,none,none,none,none,none]) (lost:=some<|.int<|z1 p b.S b.x f.2) (Q:=lgA p b f.2) (o8:=H) λq a=>(ka q a).2;obtain⟨s8,J⟩:=jgz (a1:=some<|yT false b) (a2:=‹(yt p b f.2 x).map e7›) (a3:=some<|.int f.2) (r:=[↑((alv p i.s).map D.str),j,u,v,none,none,none,none,none]) (lost:=some<|.int<|z1 p b.S b.x f.2) h (Q:=lgB p b x) (t:=⟨fnOf<|S1 p b.S f.2,fnOf<|W1 p b.S b.W f.2,fnOf b.L⟩) (o8:=r8) λq a=>by obtain⟨e,K,rfl⟩:=M5.mp a;exact ew e K
 have em:(lgB p b x).map (·.2.2)=x.en:=by rw[U0];exact List.map_id _
 rw[em,F.ok.js.wk] at J;have f3:jB (jd [] 8) ye ((yt p b f.2 x).map e7) (fN p (some<|yT false b) (‹(yt p b f.2 x).map e7›) (some<|.int f.2) ⟨fnOf<|S1 p b.S f.2,fnOf<|W1 p b.S b.W f.2,fnOf b.L⟩ [some<|.int<|z1 p b.S b.x f.2,H,↑((alv p i.s).map D.str),j,u,v,none,none,none,none,none])=some (.nx<|fN p (some<|yT false b) (‹(yt p b f.2 x).map e7›) (some<|.int f.2) ⟨x.sz,x.ow,x.lv⟩ [some<|.int<|z1 p b.S b.x f.2,s8,↑((alv p i.s).map D.str),j,u,v,none,none,none,none,none]):=by
  have:=e3'<|(lgB p b x).map e7;rw[J] at this
  conv=>lhs;arg 3;rw[ll]
  exact this
 obtain⟨s,hsv⟩:=F.sv;have M:SvI s ((yt p b f.2 x).map (·.2.2)) x.sv:=by
  have e:(yt p b f.2 x).map (·.2.2)=lgE p b.S f.2++x.en:=by
   have:(lgA p b f.2).map (·.2.2)=lgE p b.S f.2:=by rw[U0];exact List.map_id _
   show(lgA p b f.2++lgB p b x).map (·.2.2)=_;rw[N4,em,this]
  rw[e];exact SvI.pre hsv λe K=>by
   have:=Vw p.eats 0 (fnOf b.S) f.2 e K;unfold isS;rw[this];decide
 obtain⟨sv,f4,msv⟩:=jdi h G M λq a V=>by
  rcases N1.mp a with a | a
  ·have:=(ka q a).2;unfold isS at V;rw[this] at V;exact absurd V (by decide)
  ·obtain⟨e,K,rfl⟩:=M5.mp a;exact(ew e K).c (V.elim .inl λz=>.inr<|z.elim .inl λz=>.inr<|.inl z)
 obtain⟨u10,u15,f5⟩:=jgX (al:=alv p i.s) (sv:=sv) (a0:=some<|jR false p) (a1:=some<|yT false b) (a2:=‹(yt p b f.2 x).map e7›) (a3:=some<|.int f.2) (a4:=some<|dct true p.C x.sz) (a5:=some<|dct true p.C x.ow) (a6:=some<|dct true p.P x.lv) (a7:=some<|.int<|z1 p b.S b.x f.2) (a8:=s8) (a11:=u) (a12:=v) (a16:=none) (a17:=none) (f:=fnOf<|S1 p b.S f.2) (R:=b.R) (acc:=[]) (o10:=j) (o15:=none) (λq a=>I q.1<|by rw[<- k.r1];exact M5.mpr ⟨q,a,rfl⟩) (λq a=>by have:=k.r2 q a;have:=k.r3 q a;lia) (by simp;lia);have er:rnN (fnOf<|S1 p b.S f.2) sv b.R=rnN (fnOf<|S1 p b.S f.2) x.sv b.R:=by
  unfold rnN;refine List.map_congr_left λq _=>?_;simp only[msv q.1]
 rw[er,X4,List.map_nil] at f5;have kS:=JP (N:=p.C) (g:=x.sz) (l:=b.S) (o:=none) (o':=none) λq a=>by rw[<- k.s1];exact M5.mpr ⟨q,a,rfl⟩
 have kW:=JP (N:=p.C) (g:=x.ow) (l:=b.S) (o:=none) (o':=none) λq a=>by rw[<- k.s1];exact M5.mpr ⟨q,a,rfl⟩
 have kL:=JP (N:=p.P) (g:=x.lv) (l:=b.L) (o:=none) (o':=none) λq a=>by rw[<- k.l1];exact M5.mpr ⟨q,a,rfl⟩
 rw[jlF k.s1] at kS kW;rw[jlF k.l1] at kL;refine⟨.tup [.lst false<|(sz' p.C x.sz).map e2,.lst false<|(sz' p.C x.ow).map e2,.lst false<|(rnN (fnOf<|S1 p b.S f.2) x.sv b.R).map e2,.lst true<|(sz' p.P x.lv).map e2,.int<|z1 p b.S b.x f.2],?_,by simp[yT,bkD,bkS,vg],jgR (S:=sz' p.C x.sz) (W:=sz' p.C x.ow) (Rn:=rnN (fnOf<|S1 p b.S f.2) x.sv b.R) (Lv:=sz' p.P x.lv) (x:=z1 p b.S b.x f.2) (λq a=>h.wc<|F.bk.s1▸M5.mpr ⟨q,a,rfl⟩) (λq a=>h.wc<|F.bk.w1▸M5.mpr ⟨q,a,rfl⟩) (λq a=>h.wc<|F.bk.r1▸M5.mpr ⟨q,a,rfl⟩) (λq a=>h.wm<|F.bk.l1▸M5.mpr ⟨q,a,rfl⟩) false 17⟩;have u1:=h.fz false;have u2:=h.frz;have u3:=yJ b;have u4:=vx false b;have u5:=yE<|yt p b f.2 x;have u6:=VA<|yt p b f.2 x;have r1:=jF b.S;have r2:=jF b.R;have r3:=jF b.L;have r4:=vg b.R;have r5:=qU p.told;have r6:=xy p.told;have r7:=jF<|sz' p.C x.sz;have r8':=vg<|sz' p.C x.sz;have r9:=jF<|sz' p.C x.ow;have ra:=vg<|sz' p.C x.ow;have rb:=jF<|rnN (fnOf<|S1 p b.S f.2) x.sv b.R;have rc:=vg<|rnN (fnOf<|S1 p b.S f.2) x.sv b.R;have lm1:lim (b.S.map e2).length=true:=vN ∅;have lm2:lim (b.L.map e2).length=true:=vN ∅;have sd:clean (dSv true sv)=true:=by
  show yq (sv.map λ_=>D.bl true)=true;rw[yQ,List.all_map,List.all_eq_true];intro x _;rfl
 unfold fN at U f3;rw[c1,c2,c3] at f2;rw[c1,c3] at al U;dsimp only at U f3;generalize dct true p.C (fnOf b.S)=D1,dct true p.C (fnOf b.W)=D2,dct true p.P (fnOf b.L)=D3,dct true p.C i.w=D4,dct true p.C (fnOf<|S1 p b.S f.2)=D5,dct true p.C (fnOf<|W1 p b.S b.W f.2)=D6,dct true p.C x.sz=D7,dct true p.C x.ow=D8,dct true p.P x.lv=D9 at *;generalize(alv p i.s).map D.str=AL at *;generalize(yt p b f.2 x).map e7=LL at *;generalize jR false p=PP at *;have hb:yT false b=bkD false b.S b.W b.R b.L b.x:=rfl;rw[<- hb] at j0 j1 j2 j3 j4;clear hb;generalize yT false b=B0 at *;generalize(sz' p.C x.sz).map e2=K1 at *;generalize(sz' p.C x.ow).map e2=K2 at *;generalize(sz' p.P x.lv).map e2=K3 at *;generalize(rnN (fnOf<|S1 p b.S f.2) x.sv b.R).map e2=K4 at *;generalize b.S.map e2=G1,b.W.map e2=G2,b.R.map e2=G3',b.L.map e2=G4,p.told.map e3=G5,dSv true sv=SS,z1 p b.S b.x f.2=Z1 at *;simp[kH,jH,Kx,j0,j1,j2,j3,j4,dS,dW,dL,u5,u6,U,al,i1,r5,r6,f2,f3,f4,sd,r2,r4,f5,r1,r3,lm1,lm2,jr,kS,kW,kL,r7,r8',r9,ra,rb,rc,jb,-uB]
noncomputable def dA(A:List W2):D:=.dK true (A.map λq=>KA.str q.1)<|A.map λq=>D.int q.2
def jlY{A}{w}:zP (dA A) (.str w) (.int 0)=some (.int<|fnOf A w):=by
 show some ((Yh (A.map λq=>KA.str q.1) (A.map λq=>D.int q.2)<|.str w).getD (.int 0))=_;have a:=JT w<|A.map λq=>(q.1,D.int q.2);rw[U0,U0,Ql D.int w A] at a;have a:Yh (A.map λq=>KA.str q.1) (A.map λq=>D.int q.2) (.str w)=_:=a;rw[a];unfold fnOf;cases lkp w A<;>rfl
def jko{w v}(A:List W2):kn (A.map λq=>KA.str q.1) (A.map λq=>D.int q.2) (.str w) (.int v)=((Kd A w v).map λq=>KA.str q.1,(Kd A w v).map λq=>D.int q.2):=by
 have b:KA.str w∈(A.map λq=>KA.str q.1)↔w∈A.map (·.1):=by
  constructor
  ·intro z;obtain⟨q,a,e⟩:=M5.mp z;exact M5.mpr ⟨q,a,by injection e⟩
  ·intro z;obtain⟨q,a,e⟩:=M5.mp z;exact M5.mpr ⟨q,a,by rw[e]⟩
 have c:∀ A:List W2,ja4 (A.map λq=>KA.str q.1) (A.map λq=>D.int q.2) (.str w) (.int v)=A.map λq=>D.int (if q.1=w then v else q.2):=λA=>by
  induction A with
  | nil=>rfl
  | cons q A d=>
   rw[L5,L5,ja4,d,L5];by_cases e:q.1=w
   ·rw[if_pos<|by rw[e],if_pos e]
   ·rw[if_neg λz=>e (by cases z;rfl),if_neg e]
 unfold kn Kd;by_cases h:w∈A.map (·.1)
 ·rw[if_pos h,if_pos<|b.mpr h,c,U0,U0];rfl
 ·rw[if_neg h,if_neg λz=>h<|b.mp z,N4,N4];rfl
def Q8{O p}{A:List W2}(h:PoolOk O p)(c:LnOk O A):jS (jd [] 0) qT (jV #[pF<|p2 jc (pV 1)<|pI 0,pF<|pV 0,pF<|p2 jG (pV 2)<|pV 0]) ((A.map (·.1)).map D.str) [none,some<|jR false p,some<|dA A]=some (A.map<|eR p.nm):=by
 have e:A.map (eR p.nm)=(A.map (·.1)).map λw=>.tup [.str p.nm,.str w,.int<|fnOf A w]:=by
  rw[U0];refine List.map_congr_left λq b=>?_;show D.tup [.str p.nm,.str q.1,.int q.2]=.tup [.str p.nm,.str q.1,.int<|fnOf A q.1];rw[yO c.nd b]
 rw[e];refine jv rfl (λρ=>∃ z,ρ=[z,some<|jR false p,some<|dA A]) ?_ ⟨none,rfl⟩;rintro w d ρ ⟨z,rfl⟩;refine⟨[some<|.str w,some<|jR false p,some<|dA A],rfl,?_,_,rfl⟩;have f:jc (jR false p) (.int 0)=some (.str p.nm):=rfl;have g:jG (dA A) (.str w)=some (.int<|fnOf A w):=by
  obtain⟨q,b,rfl⟩:=M5.mp d;have a:=JT q.1<|A.map λq=>(q.1,D.int q.2);rw[U0,U0,Ql D.int q.1 A,VX c.nd q b] at a;rw[yO c.nd b];exact a
 simp[f,g,jb]
def jdy(A):xl [dA A]=↑((A.map (·.1)).map D.str):=by
 show some (D.lst true<|(A.map λq=>KA.str q.1).map kaD)=_;rw[U0,U0];rfl
def jb0(e):mvE [e]=if e.kd=vF/\0<e.gt then [(e.nm,e.gt)] else []:=by
 unfold mvE;by_cases z:e.kd=vF/\0<e.gt
 ·rw[if_pos z,List.filter_cons_of_pos<|by simp[isL,z.1,z.2]];rfl
 ·rw[if_neg z,List.filter_cons_of_neg<|by simpa [isL] using z];rfl
theorem jaJ{O c}{a0 a1 a2 a3 a4 a6 a7 a8 a9 a10 a11 a14}(i:O.length<=2):∀{Q:List LG}{A:List W2}{g}{o13},LnOk O A->wE O c (mvE (Q.map (·.2.2))) ->
  ∃ o13',jB (jd [] 13) jd4 (Q.map e7) [a0,a1,a2,a3,a4,some<|dA A,a6,a7,a8,a9,a10,a11,some<|.int g,o13,a14]=some (.nx [a0,a1,a2,a3,a4,some (dA (reN A (mvE (Q.map (·.2.2))))),a6,a7,a8,a9,a10,a11,some (.int (g+tot (Q.map (·.2.2)))),o13',a14])
 | [],A,g,o13,_,_=>⟨o13,by show some (Out.nx [_,_,_,_,_,_,_,_,_,_,_,_,some<|.int g,_,_])=some (.nx [_,_,_,_,_,_,_,_,_,_,_,_,some<|.int<|g+0,_,_]);rw[Int.add_zero];rfl⟩
 | q::Q,A,g,o13,h,k=>by
  have j:mvE ((q::Q).map (·.2.2))=mvE [q.2.2]++mvE (Q.map (·.2.2)):=QF [q.2.2] _;rw[j] at k;obtain⟨o13',e⟩:=jaJ i (o13:=some<|e7 q) (YH h λm d=>k m<|N1.mpr<|.inl d) λm d=>k m<|N1.mpr<|.inr d;refine⟨o13',?_⟩;have l:tot ((q::Q).map (·.2.2))=(if q.2.2.kd∈G3 then 0 else q.2.2.gt)+tot (Q.map (·.2.2)):=by
   rw[L5,show q.2.2::Q.map (·.2.2)=[q.2.2]++Q.map (·.2.2) from rfl,Qm,Vc]
  have n:reN A (mvE [q.2.2]++mvE (Q.map (·.2.2)))=reN (reN A<|mvE [q.2.2]) (mvE (Q.map (·.2.2))):=List.foldl_append;rw[j,n,L5,lpE rfl ?_,e,l,<- Int.add_assoc];have a:jc (e7 q) (.int 3)=some (.str q.2.2.kd):=rfl;have o:jc (e7 q) (.int 4)=some (.str q.2.2.nm):=rfl;have f:jc (e7 q) (.int 6)=some (.int q.2.2.gt):=rfl;have hi:Y2 true (.str q.2.2.kd) (.lst true [.str [101,97,116],.str [103,117,97,114,100],.str [116,119,105,99,101]])=some (.bl<|true != decide (q.2.2.kd∈G3)):=Ym true true q.2.2.kd G3;have al:=h.len i;have p:=jko (w:=q.2.2.nm) (v:=fnOf A q.2.2.nm+q.2.2.gt) A;have r:lim (A.map λq=>KA.str q.1).length=true:=vN ∅;have s:vC (.str q.2.2.nm)=some (.str q.2.2.nm):=rfl;have s1:sIf (dPT<|jj<|p2 (Y2 true) (p2 jc (pV 13)<|pI 3)<|Jp #[pS [101,97,116],pS [103,117,97,114,100],pS [116,119,105,99,101]]) (ju (dP<|p2 jg (pV 12)<|p2 jc (pV 13)<|pI 6)<|jd [] 12) jK [a0,a1,a2,a3,a4,some<|dA A,a6,a7,a8,a9,a10,a11,some<|.int g,some<|e7 q,a14]=some (.nx [a0,a1,a2,a3,a4,some<|dA A,a6,a7,a8,a9,a10,a11,some<|.int<|g+if q.2.2.kd∈G3 then 0 else q.2.2.gt,some<|e7 q,a14]):=by
   by_cases z:q.2.2.kd∈G3
   ·rw[X0 z] at hi;simp[a,hi,z,jb]
   ·rw[X1 z] at hi;simp[a,f,hi,z,jb]
  refine sq s1 ?_;rw[jb0];by_cases z:q.2.2.kd=vF/\0<q.2.2.gt
  ·have b:(q.2.2.kd==[108,101,110,100])=true:=by rw[z.1];rfl
   have t:jeb (dA A)=some (A.map λq=>KA.str q.1,A.map λq=>D.int q.2):=rfl;have u:dA (reN A [(q.2.2.nm,q.2.2.gt)])=.dK true ((Kd A q.2.2.nm<|fnOf A q.2.2.nm+q.2.2.gt).map λq=>KA.str q.1) ((Kd A q.2.2.nm<|fnOf A q.2.2.nm+q.2.2.gt).map λq=>D.int q.2):=rfl;rw[if_pos z,u];generalize(A.map λq=>KA.str q.1)=KK at *;simp[a,o,f,b,z.2,jlY (A:=A) (w:=q.2.2.nm),t,s,p,r]
  ·rw[if_neg z];show _=some (Out.nx [a0,a1,a2,a3,a4,some<|dA A,a6,a7,a8,a9,a10,a11,_,some<|e7 q,a14]);by_cases y:q.2.2.kd=vF
   ·have b:(q.2.2.kd==[108,101,110,100])=true:=by rw[y];rfl
    have B:¬ 0<q.2.2.gt:=λx=>z ⟨y,x⟩;simp[a,f,b,B]
   ·have b:=U1.mpr y;simp[a,b]
def jdI{O p B}{b}(h:PoolOk O p)(k:BkOk p B b.S b.W b.R b.L)(n):okE (n+3) (yT false b)=true:=jgR (λq a=>h.wc<|k.s1▸M5.mpr ⟨q,a,rfl⟩) (λq a=>h.wc<|k.w1▸M5.mpr ⟨q,a,rfl⟩) (λq a=>h.wc<|k.r1▸M5.mpr ⟨q,a,rfl⟩) (λq a=>h.wm<|k.l1▸M5.mpr ⟨q,a,rfl⟩) _ n
def jg8{O p}{b}{loss x}(h:PoolOk O p)(c:∀ e∈x.en,EnW p e)(o)(n):okE (n+3) (.lst o<|(yt p b loss x).map e7)=true:=vQ λd hd=>by
 obtain⟨q,a,rfl⟩:=M5.mp hd;obtain⟨f,g⟩:=jdb h c;rcases N1.mp a with a | a
 ·exact(f q a).1.ok n
 ·exact(g q a).1.ok n
def jlz{O}{nm}{l}(a:Wd nm/\∀ w∈O,Wd w)(h:LnOk O l)(o):okE 20 (.lst o<|l.map<|eR nm)=true:=vQ λd hd=>by
 obtain⟨q,b,rfl⟩:=M5.mp hd;show yI 18 [.str nm,.str q.1,.int q.2]=true;simp[yI,jN a.1.2,jN (a.2 _ (h.mem q b).1).2]
abbrev frL(a0 a2 a3:Option D)(p:PoolS)(b:Bk)(A:List W2)(r:Rh):Rh:=a0::some (jR false p)::a2::a3::some (yT false b)::some (dA A)::r
def jiT{O p B L0 x}{b}{f:FW}(h:PoolOk O p)(k:BkOk p B b.S b.W b.R b.L)(a:0<=B)(g:B<=10 ^ 19)(h2:0<=f.2)(c:DyOk p O f.1 B L0 b.S b.W b.R b.L b.x f.2 x):∃ d,kH [jR false p,yT false b,.lst false<|(yt p b f.2 x).map e7,.int f.2]=some d/\Y3 (yT false<|bkS p b f.2 x) d=some (.bl false):=by
 obtain⟨d,e,q,ok⟩:=jjf h k a g h2 c;exact⟨d,e,Vr (jdI h c.bk 17) ok<|by rw[vx,q]⟩
def jfu{O p B x}{b:Bk}{f:FW}{A:List W2}(h:PoolOk O p)(n:O.length<=2)(V:∀ w∈O,Wd w)(k:BkOk p B b.S b.W b.R b.L)(v:0<=B)(hB:B<=10 ^ 19)(h2:0<=f.2)(i:DyOk p O f.1 B (srt A) b.S b.W b.R b.L b.x f.2 x)(j:LnOk O A){a0 a2 a3:Option D}{o8 o9 o10 o11 o12 o13 q}:
  ∃ o13',V4 (frL a0 a2 a3 p b A [some<|eF f,some<|Yu p.nm (bkS p b f.2 x,lnS (srt A) x,yt p b f.2 x),o8,o9,o10,o11,o12,o13,q])=some (.nx<|frL a0 a2 a3 p (bkS p b f.2 x) (reN A x.mv) [some<|eF f,some<|Yu p.nm (bkS p b f.2 x,lnS (srt A) x,yt p b f.2 x),some<|yT false<|bkS p b f.2 x,‹(lnS (srt A) x).map (eR p.nm)›,‹(yt p b f.2 x).map e7›,‹(srt A).map (eR p.nm)›,some<|.int f.1,o13',↑((lnS (srt A) x).map (eR p.nm))])/\LnOk O (reN A x.mv)/\lnS (srt A) x=srt (reN A x.mv):=by
 have js:=i.ok.js;have mv:=i.ok.mv;have c:LnOk O (reN A x.mv):=YH j mv;have r:LnOk O (srt A):=j.pm<|JX A;have m:=YH r mv;have X:lnS (srt A) x=srt (reN A x.mv):=jb5 m.nd (m.len n)<|jcY r mv<|JX A;have Y:LnOk O (lnS (srt A) x):=m.pm<|JX _;have y:=xY (nm:=p.nm) j.nd<|j.len n;have s:=xY (nm:=p.nm) c.nd<|c.len n;rw[<- X] at s;have ew:=js.ew;obtain⟨dn,C,E⟩:=jiT h k v hB h2 i;have fe:=jdC h k i;have n1:Y3 (.tup [yT false<|bkS p b f.2 x,.lst true<|(yt p b f.2 x).map e7]) (.tup [yT false<|bkS p b f.2 x,.lst false<|(yt p b f.2 x).map e7])=some (.bl false):=by
  have Z:=jdI (b:=bkS p b f.2 x) h i.bk 16;have o2:∀ o,okE 19 (.lst o<|(yt p b f.2 x).map e7)=true:=λo=>jg8 h ew o 16;refine Vr ?_ ?_ ?_
  ·show yI 19 [yT false<|bkS p b f.2 x,.lst true<|(yt p b f.2 x).map e7]=true;simp[yI,Z,o2]
  ·show yI 19 [yT false<|bkS p b f.2 x,.lst false<|(yt p b f.2 x).map e7]=true;simp[yI,Z,o2]
  ·simp[vx]
 have n2:Y3 (.lst false<|(lnS (srt A) x).map (eR p.nm)) (.lst true<|(lnS (srt A) x).map (eR p.nm))=some (.bl false):=Vr (jlz ⟨h.nm,V⟩ Y _) (jlz ⟨h.nm,V⟩ Y _) (by rw[fz,fz]);have F:=Q8 h j;have G:=Q8 h c;have H:=jdy A;have I:=jdy<|reN A x.mv;have al:=j.len n;have al2:=c.len n;have J:lim ((A.map (·.1)).map D.str).length=true:=jb (by simp;lia);have K:lim (((reN A x.mv).map (·.1)).map D.str).length=true:=jb (by simp;lia);have em:(yt p b f.2 x).map (·.2.2)=lgE p b.S f.2++x.en:=by
  have t:(lgA p b f.2).map (·.2.2)=lgE p b.S f.2:=by rw[U0];exact List.map_id _
  have e2:(lgB p b x).map (·.2.2)=x.en:=by rw[U0];exact List.map_id _
  show(lgA p b f.2++lgB p b x).map (·.2.2)=_;rw[N4,t,e2]
 have d:tot (lgE p b.S f.2)=0/\mvE (lgE p b.S f.2)=[]:=by
  have kd:=Vw p.eats 0 (fnOf b.S) f.2;show tot (QZ 0 p.eats (fnOf b.S) f.2)=0/\mvE (QZ 0 p.eats (fnOf b.S) f.2)=[];generalize QZ 0 p.eats (fnOf b.S) f.2=l at kd
  induction l with
  | nil=>exact⟨rfl,rfl⟩
  | cons a l u=>
   have u:=u λe he=>kd e (by simp[he]);rw[show a::l=[a]++l from rfl,Qm,Vc,QF,jb0,kd a<|by simp,if_pos<|by decide,if_neg λz=>absurd z.1<|by decide,u.1,u.2];exact⟨rfl,rfl⟩
 have mm:mvE ((yt p b f.2 x).map (·.2.2))=x.mv:=by rw[em,QF,d.2,js.me];rfl
 obtain⟨M,t⟩:=jaJ (a0:=a0) (a1:=some<|jR false p) (a2:=a2) (a3:=a3) (a4:=some<|yT false b) (a6:=some<|eF f) (a7:=some<|Yu p.nm (bkS p b f.2 x,lnS (srt A) x,yt p b f.2 x)) (a8:=some<|yT false<|bkS p b f.2 x) (a9:=‹(lnS (srt A) x).map (eR p.nm)›) (a10:=‹(yt p b f.2 x).map e7›) (a11:=‹(srt A).map (eR p.nm)›) (a14:=q) n (Q:=yt p b f.2 x) (A:=A) (g:=0) (o13:=o13) j (by rw[mm];exact mv);have gt:tot x.en=f.1:=by have:=js.cs;rw[i.cz] at this;lia
 rw[mm,em,Qm,d.1,gt,Int.zero_add,Int.zero_add] at t;refine⟨M,?_,c,X⟩;have u5:=yE<|yt p b f.2 x;have v1:=yJ<|bkS p b f.2 x;have r1:=yN p.nm<|srt A;have r2:=JS p.nm<|srt A;have i0:jc (eF f) (.int 0)=some (.int f.1):=rfl;have i1:jc (eF f) (.int 1)=some (.int f.2):=rfl;have N:frz (eF f)=true:=rfl;have P:fz (eF f)=eF f:=rfl;have T:frz (Yu p.nm (bkS p b f.2 x,lnS (srt A) x,yt p b f.2 x))=true:=by simp[Yu,v1,yN p.nm<|lnS (srt A) x,u5]
 have g:∀ ρ:Rh,gA3 8 9 10 (Yu p.nm (bkS p b f.2 x,lnS (srt A) x,yt p b f.2 x)) ρ=gA3 8 9 10 (.tup [yT false<|bkS p b f.2 x,.lst false<|(lnS (srt A) x).map (eR p.nm),.lst false<|(yt p b f.2 x).map e7]) ρ:=λ_=>rfl;have ls:frzs ((A.map (·.1)).map D.str)=true:=yH _;have U:frzs (((reN A x.mv).map (·.1)).map D.str)=true:=yH _;have d1:Y3 (.int f.1) (.int f.1)=some (.bl false):=by simp
 unfold frL;generalize((reN A x.mv).map (·.1)).map D.str=KB at *;generalize(A.map (·.1)).map D.str=KA' at *;generalize(srt A).map (eR p.nm)=R0 at *;generalize(lnS (srt A) x).map (eR p.nm)=R1 at *;simp[V4,T,g,H,ls,J,jr,F,y,r1,r2,h.fz false,h.frz,yJ b,vx false b,N,P,fe,v1,vx false<|bkS p b f.2 x,u5,n1,jcZ (loss:=f.2) h k.r1 ew i.en,VA<|yt p b f.2 x,i1,C,E,t,I,U,K,G,s,i0,d1,n2,jb,-zY]
theorem zE{O p}(h:PoolOk O p)(c:O.length<=2)(d:∀ w∈O,Wd w){a0 a2 a3}:∀{fl}{al}{b}{L0}{A:List W2}{o6 o7 o8 o9 o10 o11 o12 o13 o14},RA p O b L0 fl al->LnOk O A->L0=srt A ->
  ∃ c4 c5 o6' o7' o8' o9' o10' o11' o12' o13' o14',jB (gA2 6 7) V4 (jgJ (fl.map eF)<|al.map<|Yu p.nm) (frL a0 a2 a3 p b A [o6,o7,o8,o9,o10,o11,o12,o13,o14])=some (.nx [a0,some<|jR false p,a2,a3,c4,c5,o6',o7',o8',o9',o10',o11',o12',o13',o14'])
 | _,_,b,_,A,o6,o7,o8,o9,o10,o11,o12,o13,o14,.nil,_,_=>⟨_,_,o6,o7,o8,o9,o10,o11,o12,o13,o14,rfl⟩
 | _,_,b,_,A,o6,o7,o8,o9,o10,o11,o12,o13,o14,.cons h0 h1 h2 k hB0 hB hL dy t,hA,e0=>by
  subst e0;obtain⟨f,e,a,g⟩:=jfu h c d k hB0 hB h2 dy hA;obtain⟨c4,c5,o6',o7',o8',o9',o10',o11',o12',o13',o14',e2⟩:=zE h c d t a g;refine⟨c4,c5,o6',o7',o8',o9',o10',o11',o12',o13',o14',?_⟩;rw[L5,L5,jgJ,lpE rfl e,e2]
def jkH{n l}(a:l.length<=3000)(b:frzs l=true)(c:∀ x∈l,plt n x):plt (n+1) (.lst false l):=.inr<|.inr ⟨l,.inr rfl,a,b,c⟩
def jhO{n l}(a:l.length<=3000)(b:frzs l=true)(c:∀ x∈l,plt n x):plt (n+1) (.tup l):=.inr<|.inr ⟨l,.inl rfl,a,b,c⟩
def jo3{n i}:plt (n+1) (.int i):=.inl ⟨i,rfl⟩
def ji2{n}{l:List α}{g:α->List D}(b:l.length<=3000)(h:∀ a,(g a).length<=10/\∀ d∈g a,(∃ i,d=.int i) \/ ∃ w,d=.str w):plt (n+3) (.lst false<|l.map λa=>.tup<|g a):=by
 have fr:=λa=>yA λd hd=>by rcases(h a).2 d hd with⟨i,rfl⟩ | ⟨w,rfl⟩<;>rfl
 refine jkH (by rw[L1];exact b) (yA λd hd=>by obtain⟨a,_,rfl⟩:=M5.mp hd;exact fr a) λx c=>?_;obtain⟨a,_,rfl⟩:=M5.mp c;exact jhO (by have:=(h a).1;lia) (fr a) λd hd=>((h a).2 d hd).elim .inl λz=>.inr<|.inl z
def uC{n}{S:List W2}(h:S.length<=10):plt (n+3) (.lst false<|S.map e2):=ji2 ∅ λ_=>by simp
def joo{O p B}{a}(h:PoolOk O p)(d:O.length<=2)(k:BkOk p B a.1.S a.1.W a.1.R a.1.L)(e:LnOk O a.2.1)(f:a.2.2.length<=400):plt 7 (Yu p.nm a):=by
 have c:=h.told2;have g:=vv k.s1 c;have i:=vv k.w1 c;have j:=vv k.r1 c;have l:=vv k.l1 h.marks2;have m:=e.len d;refine jhO (by simp) (by simp[yJ,yE,yN]) λy b=>?_;simp only[M4,List.not_mem_nil,or_false] at b;rcases b with rfl | rfl | rfl
 ·refine jhO (by simp) (yJ _) λy b=>?_;simp only[M4,List.not_mem_nil,or_false] at b;rcases b with rfl | rfl | rfl | rfl | rfl
  ·exact uC ∅
  ·exact uC ∅
  ·exact uC ∅
  ·exact uC ∅
  ·exact jo3
 ·exact ji2 ∅ λ_=>by simp
 ·exact ji2 ∅ λ_=>by simp
theorem jgq{O p}(h:PoolOk O p)(d:O.length<=2):∀{b L0 fl al},RA p O b L0 fl al->∀ a∈al,plt 7<|Yu p.nm a
 | _,L0,_,_,.cons (b:=b) (f:=f) (x:=x) h0 h1 h2 k hB0 hB hL dy t,a,c=>by
  rcases M4.mp c with rfl | c
  ·refine joo h d dy.bk ((YH hL dy.ok.mv).pm (JX _)) ?_;have:=dy.en;have:=h.eats2;show(lgA p b f.2++lgB p b x).length<=400;rw[N3,L1,L1];unfold lgE;rw[Jc];lia
  ·exact jgq h d t a c
def jer(ns:List Int)(v:ns.length<=63)(N:∀ x∈ns,Builtin.Int.intBits x<=2 ^ 20):jbc [.lst false<|ns.map D.int]=some (.bl true):=by
 obtain⟨p,O,w,e⟩:=jfq ns;have h:=e.ok;obtain⟨a,g,i,hd⟩:=xF ns v;obtain⟨al,j,n,k⟩:=jfi h e.ol e.on hd i;obtain⟨P,z,B⟩:=jce h;obtain⟨Q,R,S,T,U,V,C,E,F,G,H,I⟩:=zE h e.ol e.wo (A:=[]) n ⟨by simp,by simp⟩ rfl;have l:jB (gA2 6 7) V4 (jgJ (a.map eF)<|al.map<|Yu p.nm) [‹ns.map D.int›,some<|jR false p,‹a.map eF›,‹al.map (Yu p.nm)›,some<|yT false<|bk0 p,some<|.dK true [] [],none,none,none,none,none,none,none,none,none]=_:=I;have pl:vI [.lst false<|al.map<|Yu p.nm]=some (.bl true):=jao (jkH (by rw[L1];lia) (zq p.nm al) λx J=>by obtain⟨r,m,rfl⟩:=M5.mp J;exact jgq h e.ol n r m);have q:=h.fz true;have s:=h.fz false;have t:=jgc a;have u:=jfS p.nm al;have b:JB [.lst false<|al.map<|Yu p.nm]=some (.int a.length):=by simp[k]
 have c:JB [.lst false<|a.map eF]=some (.int a.length):=by simp
 have f:∀ o,okE 20 (.lst o<|a.map eF)=true:=λo=>vQ λd hd=>by
  obtain⟨y,_,rfl⟩:=M5.mp hd;rfl
 have K:vm (.lst false<|a.map eF) (.lst true<|a.map eF)=some (.bl true):=Qi (f _) (f _) (by rw[fz,fz]);have L:jjJ 2 [.lst false<|a.map eF,.lst false<|al.map<|Yu p.nm]=some (jgJ (a.map eF)<|al.map<|Yu p.nm):=by rw[jpB rfl rfl<|by simp;lia,t,u]
 have M:JQ "list" "list" = true:=rfl;simp[jbc,jH,jlH,w,g,j,h.frz,q,s,jc2 a,t,zq p.nm al,u,VY ns,yJ<|bk0 p,b,c,M,pl,z,B,L,l,Qi (h.ok false 14) (h.ok true 14)<|by rw[q,s],K,jb]
end K32
set_option maxHeartbeats 0
namespace K32
open PySem L2 QD
def all_mk{l:PySem.W.OpenLaw}{w:World}{K:W5}{mg:W7}{fa a:Addr}(hfa:mg "law" = some (.ref fa))(_:PySem.W.nsIn K mainGlobals "Fall" = some (some<|.ref a))(T:Txt l.prog w K mg λ_=>a):∃ fd:FuncData,(∀(s:Shared) (v:Value),BindsTo s fd ⟨[v],[]⟩ [("_law_script",v)])/\∀ base:Heap,K.In base->base.Ns mainGlobals mg->FnOk l.prog w K mg base CX0 10 fa fd ["_law_script"] (λvs H Q E=>∀ C:Addr,spP ⟨K,λ_=>C⟩ jbc 1 vs H Q E):=by
 obtain⟨f',fd',F',G'⟩:=(jmK T).2.2.2.2.2.2.2;cases hfa.symm.trans F'.mgf;obtain⟨⟨oc,od,kV,doc,pm,an,cdv,ct,osl,rfl,_,_⟩,_⟩:=F'.fn;exact⟨_,λs v=>.of_eq rfl,λbase _ _=>(G' base).imp λvs H Q E h=>h a⟩
def walk{l:PySem.W.OpenLaw}{q:Program}{loose:List Str}{XP:(Str->Option Value)->Heap->Prop}{YP:World->Heap->Prop}{d:DefRec}{K:Params->PySem.W.Frag}(hn:l.most=some 63)(hdf:d.params.defaults=[])
  (hY:∀(w:World) (h:Heap),YP w h->(K w.params).In h)
  (F:∀(w:World) (mg:W7) (fa:Addr) (h:Heap),(K w.params).In h->h.Ns mainGlobals mg->mg d.name=some (.ref fa) ->
   ∃ fd:FuncData,(∀(s:Shared) (u:Value),BindsTo s fd ⟨[u],[]⟩ [("_law_script",u)])/\∀ base:Heap,(K w.params).In base->base.Ns mainGlobals mg->FnOk l.prog w (K w.params) mg base CX0 10 fa fd ["_law_script"] (λvs H Q E=>∀ C:Addr,spP ⟨K w.params,λ_=>C⟩ jbc 1 vs H Q E)):
  PySem.W.WalkO q loose XP YP l.row.toRowW d [] (λf vs=>PySem.call f vs):=
 L2.walk_ofB (n:=63) (k:=10) (x:="_law_script") (CX:=λ_=>CX0) (sp:=λw=>(λvs H Q E=>∀ C:Addr,spP ⟨K w.params,λ_=>C⟩ jbc 1 vs H Q E)) hn (by decide) hdf ⟨rfl,by decide,by decide⟩ hY F (λ_ H a ns hl hb _ hS=>λC=>jm3 (jer ns hl hb) hS) λ_ _ _ _ _ z=>z
end K32
namespace PySem.W.Fast
def tw9109537837238998397:=0
def tw4427474374205175874:=0
def tw2138750020028077784:=0
def tw5943608620469609317:=0
def tw8803028876002468245:=0
def tw10756694719480202058:=0
def tw7468369147943371928:=0
def tw5021915808832882350:=0
def tw3635627526407735747:=0
def tw12068905259156031737:=0
def tw4886194836314792700:=0
def tw8640238249426510652:=0
def tw8886628643181087416:=0
def tw6264428644241305864:=0
def tw7098503020384082337:=0
def tw6016579979360447711:=0
def tw9851986421723235450:=0
def tw13872524359124370211:=0
def tw3442583100190580305:=0
def tw6339926583838964761:=0
def tw14469001069627845443:=0
def tw15732424087353817641:=0
def tw16215027323042895371:=0
def tw16256142473234197297:=0
def tw349852320561613271:=0
def tw9503029029401874082:=0
def tw4052298616807994184:=0
def tw16459794737454544122:=0
def tw7550279398996787570:=0
def tw15217500996717144808:=0
def tw6950435744073021454:=0
def tw10986008559790298351:=0
def tw17928414239752408879:=0
def tw10135633297954575257:=0
def tw6158057833399378707:=0
def tw5014581992870369811:=0
def tw5508668827351352933:=0
def tw12386618205109870894:=0
def tw17123560618988373317:=0
def tw5625061123974276791:=0
def tw15777763892600595759:=0
def tw12081178202110436380:=0
def tw17925936425752973293:=0
def tw17628999589990315296:=0
def tw6301439695438427932:=0
def tw17601283494443378890:=0
def tw17083851044891415919:=0
def tw5100945057663260446:=0
def tw3152496211106006390:=0
def tw9031877823911147336:=0
def tw2187865932794154896:=0
def tw16923729293100208662:=0
def tw2431850363430263123:=0
def tw4391328885383271704:=0
def tw9279653564464177866:=0
def tw3911261941468410936:=0
def tw14696378777534366432:=0
def tw673957110363888852:=0
def tw11493266680216404797:=0
def tw6797054547364774037:=0
def tw9734426812247817553:=0
def tw15814603363508229939:=0
def tw14023839014579475049:=0
def tw12818163215877220079:=0
def tw13542158688901523606:=0
def tw1554992315539123220:=0
def tw5097340026716409142:=0
def tw8044909371402035573:=0
def tw338583728281121136:=0
def tw15630391968117120890:=0
def tw15032130045235198656:=0
def tw16873947645872585538:=0
def tw16415324206963143676:=0
def tw6101061201701976225:=0
def tw10642535435132596884:=0
def tw6612785012684744097:=0
def tw15413005515428286885:=0
def tw11498347118221173019:=0
def tw16752879936773491330:=0
def tw14045694657668562594:=0
def tw7971358010750525357:=0
def tw3490379527765062417:=0
def tw3922344331746296535:=0
def tw3816566752323557657:=0
def tw3972187966154543148:=0
def tw11069180835194382089:=0
def tw1088035042196552118:=0
def tw13790150975592256206:=0
def tw10105083176772823780:=0
def tw5264996589628412412:=0
def tw10287307628034890397:=0
def tw10017257882501090069:=0
def tw14875184241386456368:=0
def tw6177672054845986678:=0
def tw11957612636967215079:=0
def tw16852094370693848840:=0
def tw6591248303935279793:=0
def tw10562959066528513015:=0
def tw8325771976964081195:=0
def tw779374923581274497:=0
def tw12703166261086194886:=0
def tw11805393634450308631:=0
def tw9061769373926304875:=0
def tw15907935722952581872:=0
def tw11811496030827626449:=0
def tw17512970436155026267:=0
def tw191557090444069515:=0
def tw1180287951487657529:=0
def tw17099320794481423931:=0
def tw7644067548065662026:=0
def tw12432127817211035430:=0
def tw11017342820687863422:=0
def tw9000698545814624557:=0
def tw7017894934116035375:=0
def tw10133832523805530365:=0
def tw2045704241593636498:=0
def tw2450980493985953554:=0
def tw8135992680333392049:=0
def tw13943838950432408168:=0
def tw9876496511353336176:=0
def tw3665858192366628900:=0
def tw14065169663241505851:=0
def tw9612511212136759046:=0
end PySem.W.Fast
set_option maxHeartbeats 0
open PySem PySem.W PyProof.Rows
set_option maxRecDepth 100000 in
set_option maxHeartbeats 0 in
theorem PySem.Challenge.cw_tranchefall_k32_a_pool_alone_holds : PySem.Challenge.rw_tranchefall_k32_a_pool_alone.Holds := by
 w_on;o_law;k_head;(case hw=>w_witness2)
 k_fill
 refine K32.walk (l:=PySem.Challenge.rw_tranchefall_k32_a_pool_alone) rfl rfl (λw h Y=>PySem.W.kIn_of Y) ?F
 case F =>
  intro w mg fa h KX G hmg;refine' K32.all_mk hmg ?c ?t
  (case c=>k_is)
  case t =>
   constructor
   all_goals first
    | ((first | refine⟨QD.fsc,QD.hasF KX G (by k_is) (by k_is) (by k_is) (by k_is) ?_⟩ | refine⟨QD.fsc,QD.hasM (by k_is) (by k_is) (by k_is) (by k_is) (by k_is) ?_⟩);intro _ _ _ _ _ _;(repeat refine QD.uS λ_=>?_);exact QD.u0 rfl)
    | exact PySem.W.mg_none_of KX G (by k_is) | exact PySem.W.mg_of KX G (by k_is) | exact⟨by k_is,by k_is,by k_is,by k_is⟩ | k_is | (show PySem.W.findIn _ _ _=_;k_is)
