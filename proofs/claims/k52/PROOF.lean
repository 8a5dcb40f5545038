import PyProof.Rows.All
import Wide.All
import OpenK.AllK
import Wide.FinOn
import Lean
import PyProof.EqAt
import PyProof.EqKinds
import PyProof.TupleCall
import KE.KItemsList
import KE.KRevIter
import PyProof.CollectIter
import PyProof.DictWalks
import PyProof.WalksMore
import PyProof.SumWalkG
import KE.KSortTup
import PyProof.Draws
import KE.KTupSum
import PySem.Challenge.RW_tranchefall_k52_the_ledger
set_option Elab.async false
set_option linter.all false
set_option compiler.extract_closed false
set_option genSizeOf false
noncomputable section
local macro_rules|`(↥$x)=>`(($x).heap.objs.size)|`(⇑$x)=>`(by simpa using $x)|`(∅)=>`(by lia)
section
open PySem PySem.Spec PyProof.Rows
abbrev L1:=@List.length_map
abbrev L3:=@wpAny_bind
abbrev L4:=@Option.bind_some
abbrev L5:=@List.map_cons
abbrev L6:=@List.mem_cons_of_mem
abbrev L7:=@List.mem_cons_self
abbrev L8:=@Heap.get?_push_of_some
abbrev L9:=@List.getElem?_eq_some_iff
abbrev M0:=@Bool.and_eq_true
abbrev M3:=@List.length_cons
abbrev M4:=@Bool.false_ne_true
abbrev M5:=@List.mem_cons
abbrev M7:=@List.mem_map
abbrev M8:=@wpAny_pure
abbrev M9:=@List.mem_singleton
abbrev N1:=@Nat.le_refl
abbrev N2:=@List.append_nil
abbrev N3:=@Heap.lt_size
abbrev N4:=@List.mem_append
abbrev N5:=@List.size_toArray
abbrev N6:=@List.length_append
abbrev N7:=@List.map_append
abbrev N8:=@Nat.ne_of_lt
abbrev N9:=@Nat.le_trans
abbrev U0:=@Int.toNat_natCast
abbrev U1:=@Int.emod_lt_of_pos
abbrev U2:=@Int.emod_nonneg
abbrev U3:=@List.map_map
abbrev U4:=@beq_eq_false_iff_ne
abbrev U5:=@List.mem_append_right
abbrev U6:=@Nat.lt_of_lt_of_le
abbrev U7:=@Nat.zero_le
abbrev U8:=@wpAny_field
abbrev U9:=@List.zip_cons_cons
abbrev X0:=@List.count_append
abbrev X3:=@List.nodup_append
abbrev X4:=@List.foldl_cons
abbrev X5:=@decide_eq_true
abbrev X6:=@decide_eq_false
abbrev X7:=@of_decide_eq_true
abbrev X8:=@Option.some.inj
abbrev X9:=@List.nil_append
abbrev E1:=@List.getElem?_eq_getElem
abbrev E2:=@List.length_take
abbrev E3:=@Heap.get?_push_size
abbrev E4:=@Nat.lt_of_le_of_lt
end
abbrev J0:=PySem.Value->PySem.Shared->Prop
abbrev W0:=List (PySem.Addr×PySem.Obj)
abbrev W1:=List (List Nat)
abbrev W4:=PySem.W.Frag
abbrev W5:=List PySem.Addr
abbrev W6:=PySem.Str->Option PySem.Value
namespace L2
inductive Ex2 {α β:Type}(P:α->β->Prop):Prop | mk:∀ x0 x1,P x0 x1->Ex2 P
inductive Ex3 {α β γ:Type}(P:α->β->γ->Prop):Prop | mk:∀ x0 x1 x2,P x0 x1 x2->Ex3 P
inductive Ex4 {α β γ δ:Type}(P:α->β->γ->δ->Prop):Prop | mk:∀ x0 x1 x2 x3,P x0 x1 x2 x3->Ex4 P
inductive Ex5 {α β γ δ ε:Type}(P:α->β->γ->δ->ε->Prop):Prop | mk:∀ x0 x1 x2 x3 x4,P x0 x1 x2 x3 x4->Ex5 P
inductive Ex6 {α β γ δ ε ζ:Type}(P:α->β->γ->δ->ε->ζ->Prop):Prop | mk:∀ x0 x1 x2 x3 x4 x5,P x0 x1 x2 x3 x4 x5->Ex6 P
inductive Ex8 {α β γ δ ε ζ η θ:Type}(P:α->β->γ->δ->ε->ζ->η->θ->Prop):Prop | mk:∀ x0 x1 x2 x3 x4 x5 x6 x7,P x0 x1 x2 x3 x4 x5 x6 x7->Ex8 P
inductive Ex9 {α β γ δ ε ζ η θ ι:Type}(P:α->β->γ->δ->ε->ζ->η->θ->ι->Prop):Prop | mk:∀ x0 x1 x2 x3 x4 x5 x6 x7 x8,P x0 x1 x2 x3 x4 x5 x6 x7 x8->Ex9 P
inductive Ex12 {α β γ δ ε ζ η θ ι κ μ ν:Type}(P:α->β->γ->δ->ε->ζ->η->θ->ι->κ->μ->ν->Prop):Prop | mk:∀ x0 x1 x2 x3 x4 x5 x6 x7 x8 x9 x10 x11,P x0 x1 x2 x3 x4 x5 x6 x7 x8 x9 x10 x11->Ex12 P
inductive An2 (a b:Prop):Prop | mk:a->b->An2 a b
inductive An3 (a b c:Prop):Prop | mk:a->b->c->An3 a b c
inductive An4 (a b c d:Prop):Prop | mk:a->b->c->d->An4 a b c d
inductive An5 (a b c d e:Prop):Prop | mk:a->b->c->d->e->An5 a b c d e
inductive An6 (a b c d e f:Prop):Prop | mk:a->b->c->d->e->f->An6 a b c d e f
inductive An7 (a b c d e f g:Prop):Prop | mk:a->b->c->d->e->f->g->An7 a b c d e f g
inductive An8 (a b c d e f g h:Prop):Prop | mk:a->b->c->d->e->f->g->h->An8 a b c d e f g h
inductive An9 (a b c d e f g h i:Prop):Prop | mk:a->b->c->d->e->f->g->h->i->An9 a b c d e f g h i
end L2
set_option maxRecDepth 100000
namespace L2
open PySem PySem.Spec PyProof.Rows
noncomputable abbrev Key:=Sum Int Str
noncomputable def jbu:Key->Value->Bool
 | .inl k,v=>Value.isInt k v
 | .inr x,v=>Value.isStrOf x v
noncomputable def jqs(w:World):Key->Int
 | .inl k=>hashInt k
 | .inr x=>hashStr w x
def jY:∀{k}{v},jbu k v=true->(∃ i t,k=Sum.inl i/\v=Value.int i t)\/(∃ x t,k=Sum.inr x/\v=Value.str x t)
 | .inl i,v,h=>by
  obtain⟨t,e⟩:=Value.isInt_shape h;exact .inl ⟨i,t,rfl,e⟩
 | .inr x,v,h=>by
  obtain⟨t,e⟩:=Value.isStrOf_shape h;exact .inr ⟨x,t,rfl,e⟩
def jdc(i)(t):jbu (.inl i) (.int i t)=true:=by simp[jbu,Value.isInt]
def jbT(x)(t):jbu (.inr x) (.str x t)=true:=by simp[jbu,Value.isStrOf]
def jlu(a b):decide ((Sum.inl a:Key)=Sum.inl b)=(a==b):=by
 by_cases e:a=b
 ·subst e;simp
 ·have h:¬ (Sum.inl a:Key)=Sum.inl b:=λq=>e<|Sum.inl.inj q;rw[X6 h];exact(U4.mpr e).symm
def jl5(a b):decide ((Sum.inr a:Key)=Sum.inr b)=decide (a=b):=by
 by_cases e:a=b
 ·subst e;simp
 ·have h:¬ (Sum.inr a:Key)=Sum.inr b:=λq=>e<|Sum.inr.inj q;rw[X6 h,X6 e]
def jmY(a)(b):decide ((Sum.inl a:Key)=Sum.inr b)=false:=X6 (λq=>nomatch q)
def jnN(a)(b):decide ((Sum.inr a:Key)=Sum.inl b)=false:=X6 (λq=>nomatch q)
def jX(prog)(w):PySem.KeyKind prog w Key where
 is:=jbu
 hash:=jqs w
 inj:=λv a b ha hb=>by
  rcases jY ha with⟨i,t,rfl,rfl⟩ | ⟨x,t,rfl,rfl⟩
  ·rcases jY hb with⟨j,u,rfl,e⟩ | ⟨y,u,rfl,e⟩
   ·injection e with e1 _;rw[e1]
   ·exact nomatch e
  ·rcases jY hb with⟨j,u,rfl,e⟩ | ⟨y,u,rfl,e⟩
   ·exact nomatch e
   ·injection e with e1 _;rw[e1]
 byValue:=λk v h=>by
  rcases jY h with⟨i,t,rfl,rfl⟩ | ⟨x,t,rfl,rfl⟩<;>rfl
 pyHash:=λhv h=>by
  rcases jY hv with⟨i,t,rfl,rfl⟩ | ⟨x,t,rfl,rfl⟩
  ·exact wpAny_pyHash_int h
  ·exact wpAny_pyHash_str h
 eqBool:=λhu hv h=>by
  rcases jY hu with⟨i,t,rfl,rfl⟩ | ⟨x,t,rfl,rfl⟩
  ·rcases jY hv with⟨j,u,rfl,rfl⟩ | ⟨y,u,rfl,rfl⟩
   ·rw[jlu] at h;exact wpAny_eqBool_int h
   ·rw[jmY] at h;exact SeqAt.EqAt.int_str i t y u _ _ _ _ h
  ·rcases jY hv with⟨j,u,rfl,rfl⟩ | ⟨y,u,rfl,rfl⟩
   ·rw[jnN] at h;exact SeqAt.EqAt.str_int x t j u _ _ _ _ h
   ·rw[jl5] at h;exact wpAny_eqBool_str h
 «strs»:=λk x t v h=>by
  rcases jY h with⟨i,u,rfl,e⟩ | ⟨y,u,rfl,e⟩
  ·exact nomatch e
  ·injection e with e1 _;subst e1;cases v<;>rfl
def ub(prog)(w)(i)(t):(jX prog w).is (.inl i) (.int i t)=true:=jdc i t
def um(prog)(w)(x)(t):(jX prog w).is (.inr x) (.str x t)=true:=jbT x t
inductive V where
 | non | bl (b:Bool) | int (i:Int) | str (x:Str) | byt (b:Array UInt8) | flt (b:UInt64) | ref (a:Addr) | ty (n:String)
 deriving DecidableEq
def RelV:V->Value->Prop
 | .non,u=>u=Value.none
 | .bl b,u=>u=Value.bool b
 | .int i,u=>∃ t,u=Value.int i t
 | .str x,u=>∃ t,u=Value.str x t
 | .byt b,u=>∃ t,u=Value.bytes b t
 | .flt b,u=>∃ t,u=Value.float b t
 | .ref a,u=>u=Value.ref a
 | .ty n,u=>u=Value.type n
abbrev Vals:List V->List Value->Prop:=Paired RelV
def Vals.length(r:Vals xs us):xs.length=us.length:=Paired.length r
theorem Vals.get:∀{xs}{us}{i:Nat}{x},Vals xs us->xs[i]?=some x->∃ u,us[i]?=some u/\RelV x u
 | _,_,_,_,.nil,e=>by simp at e
 | _,_,0,_,.cons r _,e=>by simp at e;subst e;exact⟨_,rfl,r⟩
 | _,_,i+1,x,.cons _ t,e=>by
  obtain⟨u,a,b⟩:=Vals.get t ⇑e;exact⟨u,by simpa using a,b⟩
theorem Vals.set(r:RelV x u):∀{xs}{us} i,Vals xs us->Vals (xs.set i x) (us.set i u)
 | _,_,_,.nil=>.nil
 | _,_,0,.cons _ t=>.cons r t
 | _,_,i+1,.cons q t=>.cons q<|Vals.set r i t
theorem Vals.append:∀{xs ys}{us ws},Vals xs us->Vals ys ws->Vals (xs++ys) (us++ws)
 | _,_,_,_,.nil,s=>s
 | _,_,_,_,.cons r t,s=>.cons r<|Vals.append t s
theorem Vals.take:∀{xs}{us} n,Vals xs us->Vals (xs.take n) (us.take n)
 | _,_,0,_=>.nil
 | _,_,_+1,.nil=>.nil
 | _,_,n+1,.cons r t=>.cons r<|Vals.take n t
theorem Vals.drop:∀{xs}{us} n,Vals xs us->Vals (xs.drop n) (us.drop n)
 | _,_,0,r=>r
 | _,_,_+1,.nil=>.nil
 | _,_,n+1,.cons _ t=>Vals.drop n t
def RelO:Option V->Option Value->Prop
 | some v,some u=>RelV v u
 | none,none=>True
 | _,_=>False
def KV{κ}:List (κ×V)->List (κ×Value)->Prop:=Paired λp q=>p.1=q.1/\RelV p.2 q.2
noncomputable def kV:Key->V
 | .inl i=>.int i
 | .inr x=>.str x
inductive HO where
  | lst (xs:List V)
  | tup (xs:List V)
  | dK (kvs:List (Key×V)) | dT (kvs:List (List Key×V))
  | set (S:Int->Bool) (n:Nat)
  | ins (C dx:Addr) (fs:List (Str×V))
  | own (x:Addr)
  | xd (fs:List (Str×V))
  | met (f x:Addr)
  | rng (lo hi:Int)
  | frz (o:Obj) (u:HO)
  | tbl (ps:Array Value)
  | ext (φ:Heap->Prop)
noncomputable abbrev Hp:=Addr->Option HO
noncomputable def upd(H:Hp)(a:Addr)(o:HO):Hp:=λb=>if b=a then some o else H b
def jl:upd H a o a=some o:=by unfold upd;rw[if_pos rfl]
def je(h:b≠a):upd H a o b=H b:=by unfold upd;rw[if_neg h]
def jcj:upd (upd H a o) a u=upd H a u:=by
 funext b;unfold upd;split<;>rfl
def jpJ{H:Hp}{a b}{o u}(h:H a=some o)(h':H b=some u)(d:o≠u):a≠b:=by
 intro e;subst e;rw[h] at h';exact d<|X8 h'
def kM{H:Hp}{a b}{o}(h:H a=some o)(h':H b=none):a≠b:=by
 intro e;subst e;rw[h] at h';cases h'
def IsTupN(h:Heap)(a:Addr)(its:Array Value):Prop:=IsTup h a its/\∃ o,h.get? a=some o/\o.dict=none
def IsTupN.new(h:Heap)(its):IsTupN (h.push {cls:=.type "tuple",data:=.seq its}) h.objs.size its:=⟨IsTup.new h its,_,E3 _ rfl,rfl⟩
def IsTupN.lt(x:IsTupN h a its):a<h.objs.size:=x.1.lt
section
variable (P:Program)(w:World)
def ObjOk(H:Hp)(h:Heap)(a:Addr):HO->Prop
 | .lst xs=>xs.length<=sizeLine/\∃ its n,Vals xs its/\h.get? a=some {cls:=.type "list",data:=.seq its.toArray n}
 | .tup xs=>xs.length<=sizeLine/\∃ its:List Value,Vals xs its/\IsTupN h a its.toArray
 | .dK kvs=>kvs.length<=sizeLine/\(a==sysModules)=false/\∃ vs,KV kvs vs/\h.DictOf (jX P w) a vs
 | .dT kvs=>kvs.length<=sizeLine/\(a==sysModules)=false/\∃ xs:List (List Key×Addr×Value),
   Paired (λp q=>p.1=q.1/\H q.2.1=some (.tup<|p.1.map kV)/\RelV p.2 q.2.2) kvs xs /\
   ∃ o es ep,h.get? a=some o/\o.ExactDict/\o.data=.dict es ep/\es.toList=xs.map (entryOfKey<|tupleKind<|jX P w)/\(xs.map (·.1)).Nodup
 | .set S n=>h.SetOf (intKind P w) a S n
 | .ins C dx fs=>H dx=some (.own a)/\fs.length<=1000/\dx≠a/\h.get? a=some (PySem.W.instObj C dx) /\
   ∃ mA,h.Ns1 dx mA/\(∀ f,RelO (fs.lookup f)<|mA f)/\PySem.Within mA (fs.map (·.1))
 | .own _=>∃ o,h.get? a=some o
 | .xd fs=>∃ mA,h.Ns1 a mA/\∀ f,RelO (fs.lookup f)<|mA f
 | .rng lo hi=>∃ t u v,h.get? a=some {cls:=.type "range",data:=.fields #[.int lo t,.int hi u,.int 1 v]}
 | .frz o u=>h.get? a=some o/\ObjOk H h a u
 | .tbl ps=>h.get? a=some {cls:=.none,data:=.fields ps}
 | .met f x=>h.get? a=some (PySem.W.methodObj (.ref f)<|.ref x)
 | .ext φ=>φ h/\(∃ o,h.get? a=some o)/\∀ h1 h2:Heap,φ h1->(∀ o,h1.get? a=some o->h2.get? a=some o)->φ h2
def HOk(H:Hp)(h:Heap):Prop:=∀ a o,H a=some o->ObjOk P w H h a o
end
section
variable {P:Program}{w:World}{H H':Hp}{h h':Heap}{a:Addr}{o:HO}
def ObjOk.lt(x:ObjOk P w H h a o):a<h.objs.size:=by
 cases o with
 | lst c=>obtain⟨_,_,_,_,e⟩:=x;exact N3 e
 | tup c=>obtain⟨_,_,_,p⟩:=x;exact p.lt
 | dK b=>obtain⟨_,_,_,_,o,_,_,e,_⟩:=x;exact N3 e
 | dT b=>obtain⟨_,_,_,_,o,_,_,e,_⟩:=x;exact N3 e
 | set S n=>obtain⟨o,_,_,_,e,_⟩:=x;exact N3 e
 | ins C d fs=>obtain⟨_,_,_,e,_⟩:=x;exact N3 e
 | own y=>obtain⟨_,e⟩:=x;exact N3 e
 | xd fs=>obtain⟨_,⟨_,_,_,e,_⟩,_⟩:=x;exact N3 e
 | rng lo hi=>obtain⟨_,_,_,e⟩:=x;exact N3 e
 | frz ob u=>obtain⟨e,_⟩:=x;exact N3 e
 | tbl g=>exact N3<|x
 | met f y=>exact N3<|x
 | ext φ=>obtain⟨_,⟨_,e⟩,_⟩:=x;exact N3 e
theorem Paired.mapP:∀{l₁}{l₂},Paired F l₁ l₂->(∀ a b,F a b->G a b)->Paired G l₁ l₂
 | _,_,.nil,_=>.nil
 | _,_,.cons r t,f=>.cons (f _ _ r)<|Paired.mapP t f
def ObjOk.stay(x:ObjOk P w H h a o)(k:∀ b u,(b=a\/H b=some (.own a))->h.get? b=some u->h'.get? b=some u)
  (B:∀ b,H b=some (.own a)->H' b=some (.own a)) (D:∀ b xs,H b=some (.tup xs)->H' b=some (.tup xs)):ObjOk P w H' h' a o:=by
 induction o with
 | lst xs=>obtain⟨z,j,n,r,e⟩:=x;exact⟨z,j,n,r,k _ _ (.inl rfl) e⟩
 | tup xs=>obtain⟨z,j,r,⟨ob,e,c⟩,l,e2,E⟩:=x;exact⟨z,j,r,⟨ob,k _ _ (.inl rfl) e,c⟩,l,k _ _ (.inl rfl) e2,E⟩
 | dK m=>obtain⟨z,y,vs,r,ob,g,i,e,c⟩:=x;exact⟨z,y,vs,r,ob,g,i,k _ _ (.inl rfl) e,c⟩
 | dT m=>
  obtain⟨z,y,xs,r,ob,g,i,e,c⟩:=x;exact⟨z,y,xs,Paired.mapP r λp q z=>⟨z.1,D _ _ z.2.1,z.2.2⟩,ob,g,i,k _ _ (.inl rfl) e,c⟩
 | set S n=>obtain⟨ob,g,i,t,e,c⟩:=x;exact⟨ob,g,i,t,k _ _ (.inl rfl) e,c⟩
 | ins C G fs=>
  obtain⟨d,z,ne,e,s,⟨od,g,i,e2,c⟩,r⟩:=x;exact⟨B _ d,z,ne,k _ _ (.inl rfl) e,s,⟨od,g,i,k _ _ (.inr d) e2,c⟩,r⟩
 | own y=>obtain⟨ob,e⟩:=x;exact⟨ob,k _ _ (.inl rfl) e⟩
 | xd fs=>obtain⟨s,⟨od,g,i,e,c⟩,r⟩:=x;exact⟨s,⟨od,g,i,k _ _ (.inl rfl) e,c⟩,r⟩
 | rng lo hi=>obtain⟨t,u,v,e⟩:=x;exact⟨t,u,v,k _ _ (.inl rfl) e⟩
 | frz ob u F=>obtain⟨e,q⟩:=x;exact⟨k _ _ (.inl rfl) e,F q⟩
 | tbl I=>
  have e:=x;exact k a _ (.inl rfl) e
 | met f y=>
  have e:=x;exact k a _ (.inl rfl) e
 | ext φ=>obtain⟨p,⟨o,e⟩,A⟩:=x;exact⟨A _ _ p λo q=>k _ _ (.inl rfl) q,⟨o,k _ _ (.inl rfl) e⟩,A⟩
def HOk.lt(x:HOk P w H h)(e:H a=some o):a<h.objs.size:=(x a o e).lt
def HOk.fresh(x:HOk P w H h)(e:h.objs.size<=a):H a=none:=by
 cases q:H a with
 | none=>rfl
 | some u=>exact absurd (U6 (x.lt q) e)<|Nat.lt_irrefl _
def HOk.kept(x:HOk P w H h)(k:∀ b u,h.get? b=some u->h'.get? b=some u):HOk P w H h':=λa o e=>
 (x a o e).stay (λb u _ q=>k b u q) (λ_ q=>q) λ_ _ q=>q
def HOk.laid(x:HOk P w H h)(k:∀ b u,h.get? b=some u->h'.get? b=some u)(g:h.objs.size<=a)(new:ObjOk P w (upd H a o) h' a o):HOk P w (upd H a o) h':=λb u e=>by
 have d:=x.fresh g;by_cases f:b=a
 ·subst f;rw[jl] at e;cases e;exact new
 ·rw[je f] at e;exact(x b u e).stay (λc v _ q=>k c v q) (λc q=>by rw[je<|kM q d];exact q) λc i q=>by rw[je<|kM q d];exact q
end
def Rd(H:Hp)(a:Addr)(u:HO):Prop:=H a=some u \/ ∃ o,H a=some (.frz o u)
def Rd.ok(r:Rd H a u)(x:HOk P w H h):ObjOk P w H h a u:=by
 rcases r with r | ⟨o,r⟩
 ·exact x a u r
 ·obtain⟨_,q⟩:=x a _ r;exact q
def Mut:Option HO->Prop
 | some (.lst _)=>True
 | some (.dK _)=>True
 | some (.dT _)=>True
 | some (.set _ _)=>True
 | some (.ins _ _ _)=>True
 | some (.ext _)=>True
 | _=>False
section
variable {P:Program}{w:World}{H:Hp}{h h':Heap}{x e:Addr}{o':HO}
def HOk.write(ok:HOk P w H h)(g:Mut<|H x)(n:e=x\/H e=some (.own x))(k:∀ b u,b≠e->h.get? b=some u->h'.get? b=some u)(m:∃ u,h'.get? e=some u)
  (new:ObjOk P w (upd H x o') h' x o'):HOk P w (upd H x o') h':=λb u q=>by
 have d:∀ c y,H c=some (.own y)->c≠x:=λc y r z=>by subst z;rw[r] at g;exact g
 have f:∀ c i,H c=some (.tup i)->c≠x:=λc i r z=>by subst z;rw[r] at g;exact g
 by_cases j:b=x
 ·subst j;rw[jl] at q;cases q;exact new
 ·rw[je j] at q;by_cases a:b=e
  ·have o:H b=some (.own x):=by
    rcases n with z | z
    ·exact absurd (a.trans z) j
    ·rw[a];exact z
   rw[q] at o;cases o;obtain⟨v,p⟩:=m;exact⟨v,by rw[a];exact p⟩
  ·refine(ok b u q).stay (λc v l r=>k c v ?_ r) (λc r=>by rw[je<|d c b r];exact r) λc i r=>by rw[je<|f c i r];exact r
   rcases l with rfl | l
   ·exact a
   ·rintro rfl;rcases n with z | z
    ·exact d c b l z
    ·rw[l] at z;cases z;exact j rfl
end
structure Un(fs ex:W5)(H H':Hp)(h h':Heap):Prop where
 keep:∀ b o,h.get? b=some o->H b=none->b∉fs->b∉ex->h'.get? b=some o
 slot:∀ b o,h.get? b=some o->H b=none->b∈fs->b∉ex->∃ sl,h'.get? b=some {o with slots:=sl}
 free:∀ b o,h.get? b=some o->H b=none->b∉ex->H' b=none
 there:∀ b o,h.get? b=some o->b∉ex->∃ o',h'.get? b=some o'
 tups:∀ b xs,H b=some (.tup xs)->H' b=some (.tup xs)
 frzs:∀ b o u,H b=some (.frz o u)->H' b=some (.frz o u)
 tbls:∀ b ps,H b=some (.tbl ps)->∃ more,H' b=some (.tbl<|ps++more)
section
variable {fs fs' ex ex':W5}{H H1 H2:Hp}{h h1 h2 h':Heap}{a x e:Addr}{o:HO}
def Un.any(u:Un fs ex H H1 h h1)  (q:h.get? b=some ob) (n:H b=none) (a:b∉ex):∃ sl,h1.get? b=some {ob with slots:=sl}:=by
 by_cases c:b∈fs
 ·exact u.slot b ob q n c a
 ·exact⟨ob.slots,u.keep b ob q n c a⟩
def Un.kept(k:∀ b u,h.get? b=some u->h'.get? b=some u):Un fs ex H H h h':=
 ⟨λb ob q _ _ _=>k b ob q,λb ob q _ _ _=>⟨ob.slots,k b ob q⟩,λ_ _ _ n _=>n,λb ob q _=>⟨ob,k b ob q⟩,λ_ _ q=>q,λ_ _ _ q=>q,λ_ a q=>⟨#[],by rw[q];simp⟩⟩
def Un.refl:Un fs ex H H h h:=Un.kept λ_ _ q=>q
def Un.laid(k:∀ b u,h.get? b=some u->h'.get? b=some u)(d:h.objs.size<=a)(c:H a=none):Un fs ex H (upd H a o) h h' where
 keep:=λb u q _ _ _=>k b u q
 slot:=λb u q _ _ _=>⟨u.slots,k b u q⟩
 free:=λb u q n _=>by rw[je<|N8<|U6 (N3 q) d];exact n
 there:=λb u q _=>⟨u,k b u q⟩
 tups:=λb e q=>by rw[je<|kM q c];exact q
 frzs:=λb u e q=>by rw[je<|kM q c];exact q
 tbls:=λb f q=>⟨#[],by rw[je<|kM q c,q];simp⟩
def Un.write(c:Mut<|H x)(j:e=x\/H e=some (.own x))(k:∀ b u,b≠e->h.get? b=some u->h'.get? b=some u)(d:∃ u,h'.get? e=some u):Un fs ex H (upd H x o) h h':=by
 have g:∀ b,H b=none->b≠x:=λb n z=>by subst z;rw[n] at c;exact c
 have i:∀ b,H b=none->b≠e:=λb n z=>by
  subst z;rcases j with r | r
  ·exact g b n r
  ·rw[n] at r;cases r
 have f:∀ b u,H b=some u->¬ Mut (some u)->b≠x:=λb u q nm z=>by subst z;rw[q] at c;exact nm c
 refine⟨λb u q n _ _=>k b u (i b n) q,λb u q n _ _=>⟨u.slots,k b u (i b n) q⟩,λb u q n _=>by rw[je<|g b n];exact n,λb u q _=>?_,
  λb l q=>by rw[je<|f b _ q λz=>z];exact q,λb u l q=>by rw[je<|f b _ q λz=>z];exact q,λb m q=>⟨#[],by rw[je<|f b _ q λz=>z,q];simp⟩⟩
 by_cases a:b=e
 ·subst a;exact d
 ·exact⟨u,k b u a q⟩
end
noncomputable def trk(h:Heap)(H:Hp):List Addr:=(List.range h.objs.size).filter λa=>(H a).isSome
def jhM(h:Heap)(H:Hp):Heap:=PySem.W.hideAll h<|trk h H
def jej(h)(H):(jhM h H).objs.size=h.objs.size:=PySem.W.hideAll_size _ _
def jfV(e:h.get? b=some o)(n:H b=none):(jhM h H).get? b=some o:=
 PySem.W.hideAll_get _ e λa=>by
  have q:=(List.mem_filter.mp a).2;rw[n] at q;simp at q
def jjk(e:(jhM h H).get? b=some o):h.get? b=some o/\H b=none:=by
 have a:=PySem.W.of_hideAll (trk h H) e;refine⟨a,?_⟩;cases q:H b with
 | none=>rfl
 | some x=>
  have c:b∈trk h H:=List.mem_filter.mpr ⟨List.mem_range.mpr<|N3 a,by simp[q]⟩;have z:(jhM h H).get? b=none:=PySem.W.hideAll_none (trk h H) c;rw[z] at e;cases e
noncomputable def jig(g h:Heap)(L:Addr):List (Addr×Obj):=(List.range h.objs.size).filterMap λa=>if a=L\/(g.get? a).isSome=true then none else(h.get? a).map λo=>(a,o)
def rest(g h:Heap)(L d:Addr):List (Addr×Obj):=(jig g h L).filter λp=>decide<|p.1≠d
structure Mod(K:W4)(mg:W6)(base:Heap):Prop where
 kin:K.In base
 glob:base.Ns mainGlobals mg
 blt:∃ mb,base.Ns builtinsNs mb/\∀ x:Str,x≠"__name__"->mb x=bootBuiltins x
 nolimit:base.NoLimit
structure Cx where
 prog:Program
 w:World
 K:PySem.W.Frag
 mg:Str->Option Value
 base:Heap
 A:Around
 N:List Str
 s₀:Shared
 H₀:Hp
 env:Env
 outer:List Env
 stack:List Env
 ex:List Addr
 fn:Str->Bool
 calm:Bool
 pn:List (Addr×Obj)
 xe:Value->Shared->Prop
noncomputable def frs(l:List Env):List Addr:=l.filterMap (·.frame)
abbrev Cx.fs(X:Cx):List Addr:=frs X.outer
def Vis(sc:Scope)(x:Str):Prop:=sc.names.lookup x=some .local\/sc.names.lookup x=some .cell\/sc.names.lookup x=some .free
def Loc(sc:Scope)(x:Str):Prop:=sc.names.lookup x=some .local\/sc.names.lookup x=some .cell
def jqD(env:Env)(h:Heap)(m:W6)(x:Str)(u:Value):Prop:=
 (env.kindOf x=some .local/\m x=some u)\/((env.kindOf x=some .cell\/env.kindOf x=some .free)/\∃ c,env.cells.lookup x=some c/\h.IsCell c (some u))
structure Cx.Ok(X:Cx):Prop where
 mod:Mod X.K X.mg X.base
 kind:X.env.scope.kind=.function
 glob:X.env.globals=mainGlobals
 blt:X.env.builtins=builtinsNs
 above:X.s₀.heap.objs.size<=X.env.locals
 inj:∀ x y c,X.env.cells.lookup x=some c->X.env.cells.lookup y=some c->x=y
 has:∀ x,(X.env.kindOf x=some .cell\/X.env.kindOf x=some .free)->∃ c,X.env.cells.lookup x=some c
 cab:∀ x c,X.fn x=true->X.env.cells.lookup x=some c->X.s₀.heap.objs.size<=c
 hd:X.calm=true->X.A.handled=none
 frames:X.A.frames=some X.stack
 stk:X.stack=X.outer\/(X.stack=X.env::X.outer/\X.env.frame=some X.env.locals)
 exf:∀ b∈X.ex,b≠X.env.locals/\∀ x c,X.env.cells.lookup x=some c->c≠b
 bs:∀ b o,X.base.get? b=some o->X.s₀.heap.get? b=some o/\X.H₀ b=none
 bsz:X.base.objs.size<=X.s₀.heap.objs.size
 noex:∀ b o,X.base.get? b=some o->b∉X.ex
 exfs:∀ b∈X.ex,b∉X.fs
 funs:X.s₀.heap.FunFrames X.base X.outer
 frf:∀ b∈X.fs,X.H₀ b=none
structure Inv(X:Cx)(pins:W0)(σ:List<|Option V)(H:Hp)(s:Shared):Prop where
 ok:X.Ok
 os:s.os=X.s₀.os
 bare:AllBare s.gens
 base:Un X.fs X.ex X.H₀ H X.s₀.heap s.heap
 loc:∃ m,s.heap.Ns X.env.locals m/\∀(i:Nat) (x:Str) (v:V),X.N[i]?=some x->σ[i]?=some (some v)->Vis X.env.scope x->∃ u,RelV v u/\jqD X.env s.heap m x u
 cell:∀ x c,X.env.cells.lookup x=some c->∃ v,s.heap.IsCell c v
 free:H X.env.locals=none
 freeC:∀ x c,X.env.cells.lookup x=some c->H c=none
 pin:∀ p∈X.pn++pins,s.heap.get? p.1=some p.2/\H p.1=none/\p.1≠X.env.locals/\p.1∉X.fs/\∀ v,p.2.data≠.cell v
 hok:HOk X.prog X.w H s.heap
 len:σ.length=X.N.length
section
variable {X:Cx}{pins:List (Addr×Obj)}{σ:List (Option V)}{H H':Hp}{s:Shared}{h':Heap}
def Cx.Ok.nofr(ok:X.Ok)  {o}(e:X.base.get? b=some o):b∉X.fs:=λa=>by
 have:=(ok.funs.mem a).1;rw[e] at this;cases this
def Inv.bs(I:Inv X pins σ H s):∀ b o,X.base.get? b=some o->s.heap.get? b=some o/\H b=none:=λb o e=>
 ⟨I.base.keep b o (I.ok.bs b o e).1 (I.ok.bs b o e).2 (I.ok.nofr e) (I.ok.noex b o e),I.base.free b o (I.ok.bs b o e).1 (I.ok.bs b o e).2 (I.ok.noex b o e)⟩
def Inv.bk(I:Inv X pins σ H s):∀ b o,X.base.get? b=some o->s.heap.get? b=some o:=λb o e=>(I.bs b o e).1
def Inv.mod(I:Inv X pins σ H s):Mod X.K X.mg X.base:=I.ok.mod
def Inv.kIn(I:Inv X pins σ H s):X.K.In s.heap:=I.ok.mod.kin.keeps I.bk
def Inv.lt(I:Inv X pins σ H s):X.env.locals < ↥s:=let ⟨_,hn,_⟩:=I.loc;hn.lt
def Inv.sz(I:Inv X pins σ H s):X.s₀.heap.objs.size<=↥s:=N9 I.ok.above<|Nat.le_of_lt I.lt
def Inv.nofs(I:Inv X pins σ H s)  (h:↥s<=a):a∉X.fs:=λb=>by
 obtain⟨_,o,c,_⟩:=I.ok.funs.mem b;exact absurd (U6 (N3 c)<|N9 I.sz h)<|Nat.lt_irrefl _
def Inv.cne(I:Inv X pins σ H s):∀ x c,X.env.cells.lookup x=some c->c≠X.env.locals:=λx c e z=>by
 obtain⟨v,o,d,hd⟩:=I.cell x c e;obtain⟨m,⟨f,g,h,a,b,_⟩,_⟩:=I.loc;rw[z,a] at d;cases d;rw[b] at hd;cases hd
def Inv.funs(I:Inv X pins σ H s):s.heap.FunFrames X.base X.outer:=by
 have all:∀ l,(∀ b∈frs l,b∈X.fs)->X.s₀.heap.FunFrames X.base l->s.heap.FunFrames X.base l:=by
  intro l
  induction l with
  | nil=>intro _ _;trivial
  | cons env r g=>
   intro f h;obtain⟨i,⟨L,o,a,j,k,hd⟩,m⟩:=h;have c:=f L (by unfold frs;rw[List.filterMap_cons,a];exact L7);obtain⟨sl,e⟩:=I.base.slot L o k (I.ok.frf L c) c λz=>I.ok.exfs L z c;exact⟨i,⟨L,_,a,j,e,hd⟩,g (λb d=>f b<|by unfold frs;rw[List.filterMap_cons,a];exact L6 _ d) m⟩
 exact all X.outer (λ_ d=>d) I.ok.funs
def Inv.stack(I:Inv X pins σ H s):s.heap.FunFrames X.base X.stack:=by
 rcases I.ok.stk with e | ⟨e,a⟩
 ·rw[e];exact I.funs
 ·rw[e];obtain⟨m,b,_⟩:=I.loc;refine .cons (by rw[I.ok.kind];decide) a b ?_ I.funs;exact Heap.get?_none_of_le<|N9 I.ok.bsz I.ok.above
def Inv.stkSub(I:Inv X pins σ H s):∀ b∈frs X.stack,b∈X.env.locals::X.fs:=λb a=>by
 rcases I.ok.stk with e | ⟨e,c⟩
 ·rw[e] at a;exact L6 _ a
 ·rw[e] at a;unfold frs at a;rw[List.filterMap_cons,c] at a;exact a
def Inv.stkFree(I:Inv X pins σ H s):∀ b∈frs X.stack,H b=none:=λb a=>by
 rcases M5.mp (I.stkSub b a) with e | a
 ·rw[e];exact I.free
 ·obtain⟨_,o,c,_⟩:=I.ok.funs.mem a;exact I.base.free b o c (I.ok.frf b a) λz=>I.ok.exfs b z a
def Inv.step{D}{t'}{ch:W5}(I:Inv X pins σ H s)
  (f:∀ b∈ch,(b∈X.ex\/X.s₀.heap.objs.size<=b)/\b≠X.env.locals/\(∀ x c,X.env.cells.lookup x=some c->c≠b)/\∀ p∈X.pn++pins,p.1≠b)
  (keep:∀ b o,b≠X.env.locals->b∉X.fs->b∉ch->s.heap.get? b=some o->H b=none->h'.get? b=some o)
  (slot:∀ b o,b≠X.env.locals->b∈X.fs->b∉ch->s.heap.get? b=some o->H b=none->∃ sl,h'.get? b=some {o with slots:=sl}) (free:∀ b o,b∉ch->s.heap.get? b=some o->H b=none->H' b=none)
  (there:∀ b o,b∉ch->s.heap.get? b=some o->∃ o',h'.get? b=some o')
  (tups:∀ b xs,H b=some (.tup xs)->H' b=some (.tup xs)) (frzs:∀ b o u,H b=some (.frz o u)->H' b=some (.frz o u)) (tbls:∀ b ps,H b=some (.tbl ps)->∃ more,H' b=some (.tbl<|ps++more))
  (ns:∀ m,s.heap.Ns X.env.locals m->h'.Ns X.env.locals m) (hok:HOk X.prog X.w H' h') (J:AllBare D):
  Inv X pins σ H' {s with heap:=h',gens:=D,drawn:=d',toks:=t'}:=by
 have B:∀ b o,X.s₀.heap.get? b=some o->b≠X.env.locals:=λb o e=>N8<|U6 (N3 e) I.ok.above;have j:∀ b o,X.s₀.heap.get? b=some o->b∉X.ex->b∉ch:=λb o e a y=>by
  rcases(f b y).1 with z | z
  ·exact a z
  ·exact absurd (U6 (N3 e) z)<|Nat.lt_irrefl _
 have g:∀ x c,X.env.cells.lookup x=some c->∀ v,s.heap.IsCell c v->h'.IsCell c v:=λx c e v ⟨o,A,hd⟩=>by
  have h:=λz=>(f c z).2.2.1 x c e rfl;by_cases E:c∈X.fs
  ·obtain⟨sl,q⟩:=slot c o (I.cne x c e) E h A<|I.freeC x c e;exact⟨_,q,hd⟩
  ·exact⟨o,keep c o (I.cne x c e) E h A<|I.freeC x c e,hd⟩
 refine⟨I.ok,I.os,J,⟨λb o e n y a=>(keep b o (B b o e) y (j b o e a) (I.base.keep b o e n y a)<|I.base.free b o e n a),λb o e n y a=>?_,λb o e n a=>?_,λb o e a=>?_,λb xs e=>tups b xs<|I.base.tups b xs e,λb o xs e=>frzs b o xs<|I.base.frzs b o xs e,λb ps e=>?_⟩,?_,λx c e=>?_,?_,λx c e=>?_,λp F=>?_,hok,I.len⟩
 ·obtain⟨sl,t⟩:=I.base.slot b o e n y a;obtain⟨C,e2⟩:=slot b _ (B b o e) y (j b o e a) t<|I.base.free b o e n a;exact⟨C,e2⟩
 ·obtain⟨o',t⟩:=I.base.there b o e a;exact free b o' (j b o e a) t<|I.base.free b o e n a
 ·obtain⟨o',t⟩:=I.base.there b o e a;exact there b o' (j b o e a) t
 ·obtain⟨K,t⟩:=I.base.tbls b ps e;obtain⟨L,e2⟩:=tbls b _ t;exact⟨K++L,by rw[e2,Array.append_assoc]⟩
 ·obtain⟨m,M,N⟩:=I.loc;refine⟨m,ns m M,λi x v t e2 e3=>?_⟩;obtain⟨u,r,l⟩:=N i x v t e2 e3;refine⟨u,r,?_⟩;rcases l with l | ⟨k,c,e,z⟩
  ·exact .inl l
  ·exact .inr ⟨k,c,e,g x c e _ z⟩
 ·obtain⟨v,z⟩:=I.cell x c e;exact⟨v,g x c e v z⟩
 ·obtain⟨m,⟨o,_,_,A,_⟩,_⟩:=I.loc;exact free _ o (λz=>(f _ z).2.1 rfl) A I.free
 ·obtain⟨v,o,A,hd⟩:=I.cell x c e;exact free c o (λz=>(f c z).2.2.1 x c e rfl) A<|I.freeC x c e
 ·obtain⟨e,n,ne,G,d⟩:=I.pin p F;have h:=λz=>(f p.1 z).2.2.2 p F rfl;exact⟨keep p.1 p.2 ne G h e n,free p.1 p.2 h e n,ne,G,d⟩
def Inv.un{t'}(I:Inv X pins σ H s)(u:Un X.fs [] H H' s.heap h')(hok:HOk X.prog X.w H' h'):Inv X pins σ H' {s with heap:=h',toks:=t'}:=by
 obtain⟨m,⟨o,k,l,g,r⟩,_⟩:=id I.loc;obtain⟨sl,h⟩:=u.any g I.free (by simp);exact I.step (ch:=[]) (λ_ z=>nomatch z) (λb o _ c _ e n=>u.keep b o e n c<|by simp) (λb o _ c _ e n=>u.slot b o e n c<|by simp) (λb o _ e n=>u.free b o e n<|by simp) (λb o _ e=>u.there b o e<|by simp) u.tups u.frzs u.tbls (λp i=>by
  obtain⟨q,d,f,a,j⟩:=i;rw[g] at a;cases a;exact⟨_,d,f,h,j⟩) hok I.bare
def Inv.call{j}{t'}{ch}(I:Inv X pins σ H s)(u:Un (frs X.stack) ch H H' s.heap h')(hok:HOk X.prog X.w H' h')(l:AllBare j)
  (d:∀ b∈ch,(b∈X.ex\/X.s₀.heap.objs.size<=b)/\b≠X.env.locals/\(∀ x c,X.env.cells.lookup x=some c->c≠b)/\∀ p∈X.pn++pins,p.1≠b):
  Inv X pins σ H' {s with heap:=h',gens:=j,drawn:=d',toks:=t'}:=by
 obtain⟨m,⟨o,y,A,k,r⟩,_⟩:=id I.loc;obtain⟨sl,g⟩:=u.any k I.free λz=>(d _ z).2.1 rfl;exact I.step d (λb o g q a e n=>u.keep b o e n (λz=>(M5.mp<|I.stkSub b z).elim g q) a) (λb o _ _ a e n=>u.any e n a) (λb o a e n=>u.free b o e n a) (λb o a e=>u.there b o e a) u.tups u.frzs u.tbls (λB t=>by
  obtain⟨C,h,i,f,v⟩:=t;rw[k] at f;cases f;exact⟨_,h,i,g,v⟩) hok l
def Inv.turned{t'}(I:Inv X pins σ H s)(k:∀ b o,b≠it->s.heap.get? b=some o->h'.get? b=some o)(g:H it=none)(f:it≠X.env.locals)
  (h1:it∈X.ex\/X.s₀.heap.objs.size<=it) (h2:∀ x c,X.env.cells.lookup x=some c->c≠it) (h:∀ p∈X.pn++pins,p.1≠it):Inv X pins σ H {s with heap:=h',toks:=t'}:=by
 have d:∀ b u,H b=some u->b≠it:=λb u e z=>by rw[z,g] at e;cases e
 refine I.step (ch:=[it]) (λb i=>?_) (λb o _ _ a e _=>k b o (λz=>a<|by simp[z]) e) (λb o _ _ a e _=>⟨o.slots,k b o (λz=>a<|by simp[z]) e⟩) (λ_ _ _ _ n=>n)
  (λb o a e=>⟨o,k b o (λz=>a<|by simp[z]) e⟩) (λ_ _ e=>e) (λ_ _ _ e=>e) (λb y e=>⟨#[],by rw[e];simp⟩) (λm j=>?_) (λb u e=>?_) I.bare
 ·have e:b=it:=by simpa using i
  subst e;exact⟨h1,f,h2,h⟩
 ·obtain⟨o,l,t,w,r⟩:=j;exact⟨o,l,t,k _ o (Ne.symm f) w,r⟩
 ·refine(I.hok b u e).stay (λc v a q=>k c v ?_ q) (λ_ q=>q) λ_ _ q=>q;rcases a with z | z
  ·rw[z];exact d b u e
  ·exact d c _ z
def Inv.tok(I:Inv X pins σ H s)(t):Inv X pins σ H {s with toks:=t}:=I.un Un.refl I.hok
def Inv.kept(I:Inv X pins σ H s)(k:∀ b u,s.heap.get? b=some u->h'.get? b=some u):Inv X pins σ H {s with heap:=h',toks:=t'}:=I.un (Un.kept k)<|I.hok.kept k
def Inv.laid(I:Inv X pins σ H s)(k:∀ b u,s.heap.get? b=some u->h'.get? b=some u)(c:↥s<=a)(new:ObjOk X.prog X.w (upd H a o) h' a o):
  Inv X pins σ (upd H a o) {s with heap:=h',toks:=t'}:=I.un (Un.laid k c<|I.hok.fresh c)<|I.hok.laid k c new
def Inv.write(I:Inv X pins σ H s)(c:Mut<|H x)(d:e=x\/H e=some (.own x))(k:∀ b u,b≠e->s.heap.get? b=some u->h'.get? b=some u)(a:∃ u,h'.get? e=some u)
  (new:ObjOk X.prog X.w (upd H x o) h' x o):Inv X pins σ (upd H x o) {s with heap:=h',toks:=t'}:=I.un (Un.write c d k a)<|I.hok.write c d k a new
def Inv.pins_of(I:Inv X pins σ H s)(h:∀ p∈pins',s.heap.get? p.1=some p.2/\H p.1=none/\p.1≠X.env.locals/\p.1∉X.fs/\∀ v,p.2.data≠.cell v):Inv X pins' σ H s:=
 ⟨I.ok,I.os,I.bare,I.base,I.loc,I.cell,I.free,I.freeC,λp a=>(N4.mp a).elim (λz=>I.pin p<|List.mem_append_left _ z) (h p),I.hok,I.len⟩
def jaD{N:List Str}(c:N.Nodup){i j:Nat}(a:N[i]?=some x)(b:N[j]?=some x):i=j:=by
 obtain⟨e,d⟩:=L9.mp a;obtain⟨f,e2⟩:=L9.mp b;exact(List.getElem_inj c).mp (d.trans e2.symm)
def jca(I:Inv X pins σ H s)(hN:X.N.Nodup)(hi:X.N[i]?=some x)(B:Loc X.env.scope x)(r:RelV v u)
  (h:∀ s',Inv X pins (σ.set i<|some v) H s'->(∃ a,Heap.SameBut a s.heap s'.heap/\(a=X.env.locals\/X.env.cells.lookup x=some a))->Q () s') (hf:X.fn x=true\/X.env.scope.names.lookup x=some .local:=by first | exact .inl rfl | exact .inr rfl | assumption):wpAny M A (storeName X.env x u) Q E s:=by
 obtain⟨m,W,hl⟩:=id I.loc;have L:(X.env.scope.kind==.class||(X.env.scope.kind==.module&&X.env.locals != X.env.globals))=false:=by rw[I.ok.kind];rfl
 have O:i<σ.length:=by rw[I.len];exact(L9.mp hi).1
 have cne:=I.cne;have g:∀{a}{K},(∃ o,s.heap.get? a=some o/\H a=none)->Heap.SameBut a s.heap K->HOk X.prog X.w H K:=λ{a K} ha f b ob e=>by
  obtain⟨_,_,C⟩:=ha;refine(I.hok b ob e).stay (λc U t q=>(f.2 c ?_).trans q) (λ_ q=>q) λ_ _ q=>q;rintro rfl;rcases t with rfl | t
  ·rw[C] at e;cases e
  ·rw[C] at t;cases t
 rcases B with D | D
 ·refine wpAny_storeName_local D W (λK Y f=>?_) L;obtain⟨oL,_,_,Z,_⟩:=id W;refine h _ ⟨I.ok,I.os,I.bare,⟨λb o e n F B=>((f.2 b<|N8<|U6 (N3 e) I.ok.above).trans (I.base.keep b o e n F B)),λb o e n F B=>?_,I.base.free,λb o e B=>?_,I.base.tups,I.base.frzs,I.base.tbls⟩,⟨_,Y,λj y v' l e2 e3=>?_⟩,λy c e=>?_,I.free,I.freeC,λp hp=>?_,g ⟨oL,Z,I.free⟩ f,by simpa using I.len⟩ ⟨_,f,.inl rfl⟩
  ·obtain⟨sl,l⟩:=I.base.slot b o e n F B;exact⟨sl,(f.2 b<|N8<|U6 (N3 e) I.ok.above).trans l⟩
  ·obtain⟨o',l⟩:=I.base.there b o e B;exact⟨o',(f.2 b<|N8<|U6 (N3 e) I.ok.above).trans l⟩
  ·by_cases G:j=i
   ·subst G;rw[hi] at l;cases l;rw[List.getElem?_set_self O] at e2;cases e2;exact⟨u,r,.inl ⟨D,by simp⟩⟩
   ·rw[List.getElem?_set_ne<|Ne.symm G] at e2;obtain⟨u',r',q⟩:=hl j y v' l e2 e3;refine⟨u',r',?_⟩;rcases q with⟨k,e⟩ | ⟨k,c,e,z⟩
    ·refine .inl ⟨k,?_⟩;have:y≠x:=λe=>G<|jaD hN l<|e▸hi;simp[this,e]
    ·exact .inr ⟨k,c,e,z.sameBut f<|cne y c e⟩
  ·obtain⟨U,z⟩:=I.cell y c e;exact⟨U,z.sameBut f<|cne y c e⟩
  ·obtain⟨e,n,ne,nf,d⟩:=I.pin p hp;exact⟨(f.2 p.1 ne).trans e,n,ne,nf,d⟩
 ·have J:X.fn x=true:=by
   rcases hf with z | z
   ·exact z
   ·rw[z] at D;cases D
  obtain⟨c,t⟩:=I.ok.has x<|.inl D;obtain⟨U,z⟩:=I.cell x c t;refine wpAny_storeName_cell I.ok.kind D t z<|λK P f=>?_;obtain⟨oc,R,S⟩:=id z;refine h {s with heap:=K} ⟨I.ok,I.os,I.bare,⟨λb o e n F B=>((f.2 b<|N8<|U6 (N3 e)<|I.ok.cab x c J t).trans (I.base.keep b o e n F B)),λb o e n F B=>?_,I.base.free,λb o e B=>?_,I.base.tups,I.base.frzs,I.base.tbls⟩,⟨m,W.sameBut f<|Ne.symm<|cne x c t,λj y v' l e2 e3=>?_⟩,λy V e=>?_,I.free,I.freeC,λp hp=>?_,g ⟨oc,R,I.freeC x c t⟩ f,by simpa using I.len⟩ ⟨c,f,.inr t⟩
  ·obtain⟨sl,l⟩:=I.base.slot b o e n F B;exact⟨sl,(f.2 b<|N8<|U6 (N3 e)<|I.ok.cab x c J t).trans l⟩
  ·obtain⟨o',l⟩:=I.base.there b o e B;exact⟨o',(f.2 b<|N8<|U6 (N3 e)<|I.ok.cab x c J t).trans l⟩
  ·by_cases G:j=i
   ·subst G;rw[hi] at l;cases l;rw[List.getElem?_set_self O] at e2;cases e2;exact⟨u,r,.inr ⟨.inl D,c,t,P⟩⟩
   ·rw[List.getElem?_set_ne<|Ne.symm G] at e2;obtain⟨u',r',q⟩:=hl j y v' l e2 e3;refine⟨u',r',?_⟩;rcases q with q | ⟨k,V,e,z'⟩
    ·exact .inl q
    ·refine .inr ⟨k,V,e,z'.sameBut f ?_⟩;rintro rfl;exact G<|jaD hN l<|I.ok.inj _ _ _ e t▸hi
  ·by_cases T:V=c
   ·subst T;exact⟨_,P⟩
   ·obtain⟨w2,z2⟩:=I.cell y V e;exact⟨w2,z2.sameBut f T⟩
  ·obtain⟨e,n,ne,nf,d⟩:=I.pin p hp;refine⟨(f.2 p.1 ?_).trans e,n,ne,nf,d⟩;intro q;rw[q,R] at e;exact d U (by rw[<- (X8 e)];exact S)
def Y0(I:Inv X pins σ H s)(a:X.N.Nodup)(hi:X.N[i]?=some x)(b:Loc X.env.scope x)(r:RelV v u)
  (h:∀ s',Inv X pins (σ.set i<|some v) H s'->Q () s') (c:X.fn x=true\/X.env.scope.names.lookup x=some .local:=by first | exact .inl rfl | exact .inr rfl | assumption):wpAny M A (storeName X.env x u) Q E s:=
 jca I a hi b r (λs' d _=>h s' d) c
end
abbrev XK:=Value->Option Addr->Hp->Prop
noncomputable abbrev St:=List<|Option V
abbrev VK:=V->Hp->Prop
abbrev TE:=St->Hp->VK->Prop
abbrev TT:=St->Hp->(Bool->Hp->Prop)->Prop
abbrev TA:=St->Hp->(List V->Hp->Prop)->Prop
structure Ends where
 nx:St->Hp->Prop
 rt:VK
 bk:St->Hp->Prop:=λ_ _=>False
 ct:St->Hp->Prop:=λ_ _=>False
abbrev TS:=Ends->St->Hp->Prop
def EP(X:Cx)(pins:W0)(σ:St)(Q:VK)(u:Value)(s':Shared):Prop:=∃ v H',Inv X pins σ H' s'/\RelV v u/\Q v H'
def TP(X:Cx)(pins:W0)(σ:St)(Q:Bool->Hp->Prop)(b:Bool)(s':Shared):Prop:=∃ H',Inv X pins σ H' s'/\Q b H'
def AP(X:Cx)(pins:W0)(σ:St)(Q:List V->Hp->Prop)(us:List Value)(s':Shared):Prop:=∃ vs H',Inv X pins σ H' s'/\Vals vs us/\Q vs H'
def SP(X:Cx)(pins:W0)(D:Ends)(f:Flow)(s':Shared):Prop:=
 match f with
 | .next=>∃ σ' H',Inv X pins σ' H' s'/\D.nx σ' H'
 | .brk=>∃ σ' H',Inv X pins σ' H' s'/\D.bk σ' H'
 | .cont=>∃ σ' H',Inv X pins σ' H' s'/\D.ct σ' H'
 | .ret u=>∃ v σ' H',Inv X pins σ' H' s'/\RelV v u/\D.rt v H'
def PE(X:Cx)(e:Expr)(t:TE):Prop:=
 ∀ pins s (σ:St) H Q,Inv X pins σ H s->t σ H Q->wpAny (model X.prog X.w) X.A (eval e X.env) (EP X pins σ Q) X.xe s
def PT(X:Cx)(e:Expr)(t:TT):Prop:=
 ∀ pins s (σ:St) H (Q:Bool->Hp->Prop),Inv X pins σ H s->t σ H Q->wpAny (model X.prog X.w) X.A (isTrue e X.env<|eval e X.env) (TP X pins σ Q) X.xe s
def PW(X:Cx)(e:Expr)(t:TT):Prop:=
 ∀ whole pins s (σ:St) H (Q:Bool->Hp->Prop),Inv X pins σ H s->t σ H Q->wpAny (model X.prog X.w) X.A (isTrue e X.env whole) (TP X pins σ Q) X.xe s
def PW.pt(h:PW X e t):PT X e t:=h _
def PA(X:Cx)(es:List Expr)(t:TA):Prop:=
 ∀ pos pins s (σ:St) H (Q:List V->Hp->Prop),Inv X pins σ H s->t σ H Q->wpAny (model X.prog X.w) X.A (spliced<|backTo pos<|starEach es X.env) (AP X pins σ Q) X.xe s
def PS(X:Cx)(st:Stmt)(t:TS):Prop:=
 ∀ pins s (σ:St) H D,Inv X pins σ H s->t D σ H->wpAny (model X.prog X.w) X.A (exec st X.env) (SP X pins D) X.xe s
def PSs(X:Cx)(st:List Stmt)(t:TS):Prop:=
 ∀ pins s (σ:St) H D,Inv X pins σ H s->t D σ H->wpAny (model X.prog X.w) X.A (execs st X.env) (SP X pins D) X.xe s
def thn(h:wpAny M A t Q E s)(b:∀ a s,Q a s->Q' a s):wpAny M A t Q' E s:=wpAny_mono h b λ_ _ x=>x
section
variable {X:Cx}
def yf(i:Nat):TE:=λσ H Q=>∃ v,σ[i]?=some (some v)/\Q v H
def tC(v:V):TE:=λ_ H Q=>Q v H
abbrev Nd(x:Str):Prop:=(x==("__debug__" : Str))=false
def jhj(k:X.N[i]?=some x)(n:Vis X.env.scope x)(hd:Nd x:=by decide)(g:(x==("__classdict__" : Str))=false:=by decide):PE X (.Name x pos) (yf i):=by
 intro f s σ H Q I h;obtain⟨v,e,h⟩:=h;obtain⟨m,o,p⟩:=I.loc;obtain⟨u,r,l⟩:=p i x v k e n;have b:EP X f σ Q u s:=⟨v,H,I,r,h⟩;rcases l with⟨d,q⟩ | ⟨d,c,j,a⟩
 ·exact wpAny_Name (wpAny_loadName_local I.ok.kind d o q b) hd
 ·rcases d with d | d
  ·exact wpAny_Name (wpAny_loadName_cell I.ok.kind d j a b) hd
  ·exact wpAny_Name (wpAny_loadName_free I.ok.kind d j a b g) hd
def jne{i j pos}:PE X (.Constant (.int i) j pos) (tC<|.int i):=λ_ _ _ H _ I h=>wpAny_Constant_int ⟨.int i,H,I.tok _,⟨_,rfl⟩,h⟩
def joG{b j pos}:PE X (.Constant (.bool b) j pos) (tC<|.bl b):=λ_ _ _ H _ I h=>Constant_bool ⟨.bl b,H,I,rfl,h⟩
def jmt{j pos}:PE X (.Constant .none j pos) (tC .non):=λ_ _ _ H _ I h=>Constant_none ⟨.non,H,I,rfl,h⟩
def jmF{x j pos}:PE X (.Constant (.str x) j pos) (tC<|.str x):=λ_ _ _ H _ I h=>Calls.Constant_str ⟨.str x,H,I.tok _,⟨_,rfl⟩,h⟩
def Gl(X:Cx)(x:Str):Prop:=X.env.kindOf x=some .globalImplicit
def KJ(I:Inv X pins σ H s)(a:Gl X x)(b:X.mg x=some u)(h:Q u s)
  (hd:Nd x:=by decide):wpAny (model X.prog X.w) X.A (eval (.Name x pos) X.env) Q E s:=
 Calls.Name_function_global I.ok.kind a (Calls.loadGlobal_global (by rw[I.ok.glob];exact I.mod.glob.keeps I.bk) b h) hd
def Yc(I:Inv X pins σ H s)(a:Gl X x)(b:X.mg x=none)(c:bootBuiltins x=some u)(h:Q u s)
  (d:x≠"__name__":=by decide) (hd:Nd x:=by decide):wpAny (model X.prog X.w) X.A (eval (.Name x pos) X.env) Q E s:=by
 obtain⟨g,e,f⟩:=I.mod.blt;exact Calls.Name_function_global I.ok.kind a (Calls.loadGlobal_builtin (by rw[I.ok.glob];exact I.mod.glob.keeps I.bk) b (by rw[I.ok.blt];exact e.keeps I.bk) ((f x d).trans c) h) hd
def jh6(a:Gl X x)(b:X.mg x=some u)(r:RelV v u)(hd:Nd x:=by decide):PE X (.Name x pos) (tC v):=
 λ_ _ _ H _ I h=>KJ I a b ⟨v,H,I,r,h⟩ hd
def jh2(a:Gl X x)(b:X.mg x=none)(c:bootBuiltins x=some u)(r:RelV v u)(d:x≠"__name__":=by decide)(hd:Nd x:=by decide):PE X (.Name x pos) (tC v):=
 λ_ _ _ H _ I h=>Yc I a b c ⟨v,H,I,r,h⟩ d hd
variable {a b:Expr}{ta tb:TE}{pos:Pos}
def PC(X:Cx)(op:CmpOp)(a b:Expr)(t:TE):Prop:=
 ∀ pins s (σ:St) H Q,Inv X pins σ H s->t σ H Q ->
  wpAny (model X.prog X.w) X.A (eval a X.env) (λv s₁=>wpAny (model X.prog X.w) X.A (eval b X.env) (λu s₂=>wpAny (model X.prog X.w) X.A (compareOp op v u) (EP X pins σ Q) X.xe s₂) X.xe s₁) X.xe s
def je7(b)  (h:op≠.In) (h2:op≠.NotIn):behindInMarks op b=false:=by
 have a:(op==CmpOp.In)=false:=by cases op<;>first | rfl | exact absurd rfl h
 have e2:(op==CmpOp.NotIn)=false:=by cases op<;>first | rfl | exact absurd rfl h2
 cases b<;>simp[behindInMarks,a,e2]
def tB(t:TE):TT:=λσ H Q=>t σ H λx H1=>∃ c,x=.bl c/\Q c H1
def jlI(h:PC X op a b t)(h1:behindInMarks op b=false:=by first | exact je7 _ (by decide) (by decide) | rfl):PE X (.Compare a [op] [b] pos) t:=λc s σ H Q I d=>wpAny_Compare1 (h c s σ H Q I d) h1
def jk3(h:PE X e t)(b:∀ whole,isTrue e X.env whole=(do let v <- whole;standAt e.pos;holding [v] (truthy v)):=by intro _;rfl):PT X e (tB t):=by
 intro a s σ H Q I c;refine isTrue_plain (thn (h a s σ H _ I c) λv s1 ⟨x,f,g,r1,i⟩=>?_)<|b _;obtain⟨d,rfl,q⟩:=i;cases r1;exact wpAny_truthy_bool ⟨f,g,q⟩
variable {tA tB':TT}{rest:List Expr}
def jnh(t u:TT):TT:=λσ H Q=>t σ H λc H1=>if c=true then u σ H1 Q else Q false H1
def tOr(t u:TT):TT:=λσ H Q=>t σ H λc H1=>if c=true then Q true H1 else u σ H1 Q
def joD(t:TT):TT:=λσ H Q=>t σ H λc H1=>Q (!c) H1
def jeU(d:PT X a tA):PW X (.BoolOp .And [a] pos) tA:=by
 intro f b s σ H Q I h;refine isTrue_and<|thn (d b s σ H Q I h) λc s1 e=>?_;cases c with
 | true=>exact isTrue_and_nil e
 | false=>exact e
def jhh(d:PT X a tA):PW X (.BoolOp .Or [a] pos) tA:=by
 intro f b s σ H Q I h;refine isTrue_or<|thn (d b s σ H Q I h) λc s1 e=>?_;cases c with
 | false=>exact isTrue_or_nil e
 | true=>exact e
def jhu(i:PT X a tA)(j:PW X (.BoolOp .And (b::rest) pos) tB'):PW X (.BoolOp .And (a::b::rest) pos) (jnh tA tB'):=by
 intro k d s σ H Q I h;refine isTrue_and<|thn (i d s σ H _ I h) λc s1 ⟨e,f,g⟩=>?_;cases c with
 | true=>exact j k d s1 σ e Q f g
 | false=>exact⟨e,f,g⟩
def jnC(i:PT X a tA)(j:PW X (.BoolOp .Or (b::rest) pos) tB'):PW X (.BoolOp .Or (a::b::rest) pos) (tOr tA tB'):=by
 intro k d s σ H Q I h;refine isTrue_or<|thn (i d s σ H _ I h) λc s1 ⟨e,f,g⟩=>?_;cases c with
 | true=>exact⟨e,f,g⟩
 | false=>exact j k d s1 σ e Q f g
def jnH(d:PT X a tA):PT X (.UnaryOp .Not a pos) (joD tA):=by
 intro b s σ H Q I h;exact isTrue_not<|d b s σ H (λc e=>Q (!c) e) I h
def jh8(ta tb:TE):TE:=λσ H Q=>ta σ H λx H1=>∃ c,x=.bl c/\if c=true then tb σ H1 Q else Q (.bl false) H1
def jh7(ta:TE):TE:=λσ H Q=>ta σ H λx H1=>∃ c,x=.bl c/\Q (.bl<|!c) H1
def jl7{c}(h:PE X a t):PE X (.BoolOp c [a] pos) t:=λb s σ H Q I d=>BoolOp_one<|h b s σ H Q I d
def jmH(i:PE X a ta)(j:PE X (.BoolOp .And (b::rest) pos) tb):PE X (.BoolOp .And (a::b::rest) pos) (jh8 ta tb):=by
 intro d s σ H Q I h;refine BoolOp_and<|thn (i d s σ H _ I h) λv s1 k=>?_;obtain⟨x,f,g,r1,e⟩:=k;obtain⟨c,rfl,e⟩:=e;cases r1;refine wpAny_truthy_bool ?_;cases c with
 | true=>exact j d s1 σ f Q g e
 | false=>exact⟨.bl false,f,g,rfl,e⟩
def jlM(e:PE X a ta):PE X (.UnaryOp .Not a pos) (jh7 ta):=by
 intro b s σ H Q I h;refine UnaryOp_<|thn (e b s σ H _ I h) λv s1 f=>?_;obtain⟨x,g,i,r1,d⟩:=f;obtain⟨c,rfl,d⟩:=d;cases r1;exact not_of<|wpAny_truthy_bool ⟨.bl<|!c,g,i,rfl,d⟩
def tIf(t:TT)(ta tb:TE):TE:=λσ H Q=>t σ H λc H1=>if c=true then ta σ H1 Q else tb σ H1 Q
def jfd(j:PT X c tA)(k:PE X a ta)(l:PE X b tb):PE X (.IfExp c a b pos) (tIf tA ta tb):=by
 intro e s σ H Q I h;refine wpAny_IfExp<|thn (j e s σ H _ I h) λd s1 ⟨f,g,i⟩=>?_;cases d with
 | true=>exact k e s1 σ f Q g i
 | false=>exact l e s1 σ f Q g i
end
def SqL(K:W4)(H:Hp)(a:Addr)(xs:List V):Prop:=
 Rd H a (.lst xs) \/
  ∃ o its n,K.lookup a=some o/\o.cls=.type "list"/\o.dict=none/\o.data=.seq its n/\its.size<=sizeLine/\Vals xs its.toList
def SqT(K:W4)(H:Hp)(a:Addr)(xs:List V):Prop:=
 Rd H a (.tup xs) \/
  ∃ o its n,K.lookup a=some o/\o.cls=.type "tuple"/\o.data=.seq its n/\its.size<=sizeLine/\Vals xs its.toList
noncomputable def jqC:Value->Option V
 | .none=>some .non
 | .bool b=>some<|.bl b
 | .int i _=>some<|.int i
 | .str x _=>some<|.str x
 | .bytes b _=>some<|.byt b
 | .float b _=>some<|.flt b
 | .ref a=>some<|.ref a
 | .type n=>some<|.ty n
 | _=>none
def RelV.abs(r:RelV x u):jqC u=some x:=by
 cases x with
 | non=>cases r;rfl
 | bl _=>cases r;rfl
 | int _=>obtain⟨t,rfl⟩:=r;rfl
 | str _=>obtain⟨t,rfl⟩:=r;rfl
 | byt _=>obtain⟨t,rfl⟩:=r;rfl
 | flt _=>obtain⟨t,rfl⟩:=r;rfl
 | ref _=>cases r;rfl
 | ty _=>cases r;rfl
def RelV.inj(r:RelV x u)(q:RelV y u):x=y:=X8<|r.abs.symm.trans q.abs
theorem Vals.inj:∀{xs ys}{us},Vals xs us->Vals ys us->xs=ys
 | _,_,_,.nil,.nil=>rfl
 | _,_,_,.cons r t,.cons a b=>by rw[r.inj a,Vals.inj t b]
section
variable {X:Cx}{pins:List (Addr×Obj)}{σ:St}{H:Hp}{s:Shared}{a:Addr}{xs ys:List V}
def SqL.of{K}(h:H a=some (.lst xs)):SqL K H a xs:=.inl<|.inl h
def SqT.of{K}(h:H a=some (.tup xs)):SqT K H a xs:=.inl<|.inl h
def Inv.list(I:Inv X pins σ H s)(h:SqL X.K H a xs):∃(its:List Value),An3 (Vals xs its) (PlainL s.heap a its.toArray) (xs.length<=sizeLine):=by
 rcases h with h | ⟨o,its,n,b,c,hd,d,f,r⟩
 ·obtain⟨z,its,n,r,e⟩:=h.ok I.hok;exact⟨its,r,⟨_,n,e,rfl,rfl,rfl⟩,z⟩
 ·refine⟨its.toList,r,⟨o,n,I.kIn a o b,c,hd,by simpa using d⟩,?_⟩;have e:=r.length;simp only[Array.length_toList] at e
  lia
def Inv.tuple(I:Inv X pins σ H s)(h:SqT X.K H a xs):∃(its:List Value),An3 (Vals xs its) (IsTup s.heap a its.toArray) (xs.length<=sizeLine):=by
 rcases h with h | ⟨o,its,n,b,c,d,f,r⟩
 ·obtain⟨z,its,r,p⟩:=h.ok I.hok;exact⟨its,r,p.1,z⟩
 ·refine⟨its.toList,r,⟨o,I.kIn a o b,c,n,by simpa using d⟩,?_⟩;have e:=r.length;simp only[Array.length_toList] at e
  lia
def Inv.list_inj(I:Inv X pins σ H s)(h:SqL X.K H a xs)(h':SqL X.K H a ys):xs=ys:=by
 obtain⟨c,r,⟨o,n,e,_,_,d⟩,_⟩:=I.list h;obtain⟨b,i,⟨j,k,f,_,_,g⟩,_⟩:=I.list h';rw[e] at f;cases f;rw[d] at g;injection g with d1 _;have:c=b:=by simpa using congrArg Array.toList d1
 subst this;exact r.inj i
def Inv.tuple_inj(I:Inv X pins σ H s)(h:SqT X.K H a xs)(h':SqT X.K H a ys):xs=ys:=by
 obtain⟨c,r,⟨o,e,_,n,d⟩,_⟩:=I.tuple h;obtain⟨b,i,⟨j,f,_,k,g⟩,_⟩:=I.tuple h';rw[e] at f;cases f;rw[d] at g;injection g with d1 _;have:c=b:=by simpa using congrArg Array.toList d1
 subst this;exact r.inj i
end
noncomputable abbrev Cx.wish(X:Cx)(E:J0):Cx:={X with xe:=E}
noncomputable abbrev Cx.nox(X:Cx):Cx:=X.wish λ_ _=>False
def Cx.Ok.wish{X:Cx}(ok:X.Ok)(E):(X.wish E).Ok:=
 ⟨ok.mod,ok.kind,ok.glob,ok.blt,ok.above,ok.inj,ok.has,ok.cab,ok.hd,ok.frames,ok.stk,ok.exf,ok.bs,ok.bsz,ok.noex,ok.exfs,ok.funs,ok.frf⟩
def Cx.Ok.unwish{X:Cx}{E}(ok:(X.wish E).Ok):X.Ok:=
 ⟨ok.mod,ok.kind,ok.glob,ok.blt,ok.above,ok.inj,ok.has,ok.cab,ok.hd,ok.frames,ok.stk,ok.exf,ok.bs,ok.bsz,ok.noex,ok.exfs,ok.funs,ok.frf⟩
section
variable {X:Cx}{pins:List (Addr×Obj)}{σ:St}{H:Hp}{s:Shared}{E:J0}
def Inv.wish(I:Inv X pins σ H s)(E):Inv (X.wish E) pins σ H s:=⟨I.ok.wish E,I.os,I.bare,I.base,I.loc,I.cell,I.free,I.freeC,I.pin,I.hok,I.len⟩
def Inv.unwish(I:Inv (X.wish E) pins σ H s):Inv X pins σ H s:=⟨I.ok.unwish,I.os,I.bare,I.base,I.loc,I.cell,I.free,I.freeC,I.pin,I.hok,I.len⟩
def SP.unwish(h:SP (X.wish E) pins D f s'):SP X pins D f s':=by
 cases f with
 | next=>obtain⟨a,b,I,q⟩:=h;exact⟨a,b,I.unwish,q⟩
 | brk=>obtain⟨a,b,I,q⟩:=h;exact⟨a,b,I.unwish,q⟩
 | cont=>obtain⟨a,b,I,q⟩:=h;exact⟨a,b,I.unwish,q⟩
 | ret u=>obtain⟨v,a,b,I,r,q⟩:=h;exact⟨v,a,b,I.unwish,r,q⟩
def PSs.nox{st}{t}(h:PSs X.nox st t):PSs X st t:=λa s σ H D I b=>
 wpAny_mono (h a s σ H D (I.wish _) b) (λ_ _ q=>q.unwish) λ_ _ z=>False.elim z
end
section
variable {X:Cx}{st:Stmt}{rest:List Stmt}{t u:TS}{e:Expr}{te:TE}{pos:Pos}
def jh4:TS:=λD σ H=>D.nx σ H
def jpk(t u:TS):TS:=λD σ H=>t {D with nx:=u D} σ H
def jil:PSs X [] jh4:=λ_ _ σ H _ I h=>wpAny_execs_nil ⟨σ,H,I,h⟩
def jf7(h1:PS X st t)(h2:PSs X rest u):PSs X (st::rest) (jpk t u):=by
 intro a s σ H D I h;refine wpAny_execs_cons<|thn (h1 a s σ H {D with nx:=u D} I h) λf s1 q=>?_;cases f with
 | next=>
  obtain⟨b,c,d,q⟩:=q;exact h2 a s1 b c D d q
 | ret v=>exact q
 | brk=>exact q
 | cont=>exact q
def jiw(h1:PS X st t):PSs X [st] t:=by
 intro a s σ H D I h;refine wpAny_execs_cons<|thn (h1 a s σ H D I h) λf s1 q=>?_;cases f with
 | next=>exact wpAny_execs_nil q
 | ret v=>exact q
 | brk=>exact q
 | cont=>exact q
def Inv.quiet(I:Inv X pins σ H s):interactive X.env=false:=by simp[interactive,I.ok.kind]
def YT(te:TE):TS:=λD σ H=>te σ H λ_ H1=>D.nx σ H1
def Vf(b:PE X e te)(c:swapsWith e none pos.line X.env=pure false:=by rfl):PS X (.Expr e pos) (YT te):=by
 intro a s σ H D I h;exact wpAny_Expr_any (thn (b a s σ H _ I h) λv s1 ⟨x,d,f,r1,g⟩=>⟨σ,d,f,g⟩) I.quiet c
def jov(te:TE):TS:=λD σ H=>te σ H D.rt
def jmJ(b:PE X e te):PS X (.Return (some e) pos) (jov te):=by
 intro a s σ H D I h;exact wpAny_Return_some<|thn (b a s σ H _ I h) λv s1 ⟨x,c,d,r1,f⟩=>⟨x,σ,c,d,r1,f⟩
def joa(c:TT)(t u:TS):TS:=λD σ H=>c σ H λb H1=>if b=true then t D σ H1 else u D σ H1
def jk4(j:PT X c tc)(k:PSs X a t)(l:PSs X b u):PS X (.If c a b pos) (joa tc t u):=by
 intro e s σ H D I h;refine wpAny_If<|thn (j e s σ H _ I h) λd s1 ⟨f,g,i⟩=>?_;cases d with
 | true=>exact k e s1 σ f D g i
 | false=>exact l e s1 σ f D g i
end
abbrev TG:=V->St->Hp->(St->Hp->Prop)->Prop
abbrev TGs:=List V->St->Hp->(St->Hp->Prop)->Prop
def PG(X:Cx)(target:Expr)(t:TG):Prop:=
 ∀ pins s (σ:St) H v u (Q:St->Hp->Prop),Inv X pins σ H s->RelV v u->t v σ H Q ->
  wpAny (model X.prog X.w) X.A (assign target X.env u) (λ_ s'=>∃ σ' H',Inv X pins σ' H' s'/\Q σ' H') X.xe s
def PGs(X:Cx)(ts:List Expr)(t:TGs):Prop:=
 ∀ pins s (σ:St) H vs us (Q:St->Hp->Prop),Inv X pins σ H s->Vals vs us->t vs σ H Q ->
  wpAny (model X.prog X.w) X.A (assignInOrder ((assignEach ts X.env).map (·.2)) us) (λ_ s'=>∃ σ' H',Inv X pins σ' H' s'/\Q σ' H') X.xe s
abbrev joq:=V->V->V->Hp->(Hp->Prop)->Prop
def jpr(X:Cx)(t:joq):Prop:=
 ∀ pins s (σ:St) H o i v ov iv u Q,Inv X pins σ H s->RelV o ov->RelV i iv->RelV v u->t o i v H Q ->
  wpAny (model X.prog X.w) X.A (setItem ov iv u) (λ_ s'=>∃ H',Inv X pins σ H' s'/\Q H') X.xe s
abbrev TIp:=V->V->Hp->VK->Prop
def PIp(X:Cx)(op:Operator)(t:TIp):Prop:=
 ∀ pins s (σ:St) H x y v u Q,Inv X pins σ H s->RelV x v->RelV y u->t x y H Q ->
  wpAny (model X.prog X.w) X.A (inplaceOp op v u) (EP X pins σ Q) X.xe s
section
variable {X:Cx}{pos:Pos}
def vw(i:Nat):TG:=λv σ H Q=>Q (σ.set i<|some v) H
def jcN(b:X.N.Nodup)(hi:X.N[i]?=some x)(c:Loc X.env.scope x)(d:X.fn x=true\/X.env.scope.names.lookup x=some .local:=by first | exact .inl rfl | exact .inr rfl | assumption):PG X (.Name x pos) (vw i):=by
 intro a s σ H v u Q I r h;exact wpAny_assign_Name<|Y0 I b hi c r (λf e=>⟨_,H,e,h⟩) d
def jdv:TGs:=λvs σ H Q=>vs=[]/\Q σ H
def k8(t:TG)(u:TGs):TGs:=λvs σ H Q=>∃ v r,vs=v::r/\t v σ H λσ' H'=>u r σ' H' Q
def ji4:PGs X [] jdv:=by
 intro a s σ H vs b Q I r h;obtain⟨e,h⟩:=h;subst e;cases r;exact assignInOrder_nil ⟨σ,H,I,h⟩
def jf9(h1:PG X e t)(h2:PGs X es u)
  (b:(assignEach (e::es) X.env).map (·.2)=assign e X.env::(assignEach es X.env).map (·.2):=by rfl):PGs X (e::es) (k8 t u):=by
 intro a s σ H vs l Q I r h;obtain⟨v,m,c,h⟩:=h;subst c;cases r with
 | cons r d=>
  rw[b];refine assignInOrder_cons<|thn (h1 a s σ H _ _ _ I r h) λ_ s1 f=>?_;obtain⟨g,i,j,k⟩:=f;exact h2 a s1 g i _ _ Q j d k
def jbS(K:W4)(n:Nat)(t:TGs):TG:=λv σ H Q=>∃ a xs,v=.ref a/\SqT K H a xs/\xs.length=n/\t xs σ H Q
def jmS(i:X.calm=true)(h:PGs X es t)
  (j:(assignEach es X.env).length=n:=by rfl) (d:(assignEach es X.env).findIdx? (·.1)=none:=by rfl):PG X (.Tuple es k pos) (jbS X.K n t):=by
 intro c s σ H v u Q I r f;obtain⟨a,l,m,p,q,f⟩:=f;subst m;cases r;obtain⟨w,g,x,B⟩:=I.tuple p;refine assign_Tuple_tuple (I.ok.hd i) x (by simp[j,<- q,g.length]) d λy z=>?_;have A:Inv X c σ H {s with heap:=y}:=I.kept λb o e=>z b o (N8<|N3 e) e;exact h c _ σ H l _ Q A ⇑g f
def jpQ(to ti:TE)(t:joq):TG:=λv σ H Q=>to σ H λo H1=>ti σ H1 λi H2=>t o i v H2 λH3=>Q σ H3
def jmh(c:PE X o to)(hi:PE X i ti)(d:jpr X t)
  (q:∀ v,assign (.Subscript o i pos) X.env v=(do
   let ov <- holding [v] (eval o X.env)
   let iv <- holding [v,ov] (eval i X.env)
   standAt pos
   holding [v,ov,iv] (setItem ov iv v)
   release [v,ov,iv] []):=by intro _;rfl):PG X (.Subscript o i pos) (jpQ to ti t):=by
 intro a s σ H v u Q I r h;refine L3<|wpAny_holding<|thn (c a s σ H _ I h) λov s1 b=>?_;obtain⟨x,e,f,r1,g⟩:=b;refine L3<|wpAny_holding<|thn (hi a s1 σ e _ f g) λiv s2 b=>?_;obtain⟨y,j,k,r2,l⟩:=b;exact L3<|wpAny_standAt<|L3<|wpAny_holding<|thn (d a s2 σ j x y v ov iv u _ k r1 r2 r l) λ_ w ⟨m,n,p⟩=>(wpAny_release ⟨σ,m,n,p⟩)
def jhw(te:TE)(g:TG):TS:=λD σ H=>te σ H λx H1=>g x σ H1 D.nx
def jlc(b:PE X e te)(c:PG X tg g)(d:swapsWithSole [tg] e pos.line X.env=pure false:=by rfl)(f:swappedStores [tg] e X.env=pure none:=by rfl)
  (h1:(assignEach [tg] X.env).map (·.2)=[assign tg X.env]:=by rfl):PS X (.Assign [tg] e pos) (jhw te g):=by
 intro a s σ H D I h;refine wpAny_Assign_stores (thn (b a s σ H _ I h) λv s1 i=>?_) d f;obtain⟨x,j,k,r1,l⟩:=i;rw[h1];exact thn (c a s1 σ j x v _ k r1 l) λ_ s2 q=>q
def jnP(b:X.N.Nodup)(hi:X.N[i]?=some x)(c:Loc X.env.scope x)(d:PE X e te)(f:swapsWith e (some<|.Name x pos') pos.line X.env=pure false:=by rfl)(g:X.fn x=true\/X.env.scope.names.lookup x=some .local:=by first | exact .inl rfl | exact .inr rfl | assumption):
  PS X (.Assign [.Name x pos'] e pos) (jhw te<|vw i):=by
 intro a s σ H D I h;refine wpAny_Assign_Name (thn (d a s σ H _ I h) λv s1 j=>?_) f;obtain⟨y,k,l,r1,m⟩:=j;exact Y0 l b hi c r1 (λs2 n=>⟨_,k,n,m⟩) g
def jpt(i:Nat)(te:TE)(ti:TIp):TS:=λD σ H=>∃ x,σ[i]?=some (some x)/\te σ H λy H1=>ti x y H1 λz H2=>D.nx (σ.set i<|some z) H2
def jmZ(n:X.N.Nodup)(hi:X.N[i]?=some x)(f:Loc X.env.scope x)(o:PE X e te)(p:PIp X op ti)(q:X.fn x=true\/X.env.scope.names.lookup x=some .local:=by first | exact .inl rfl | exact .inr rfl | assumption):
  PS X (.AugAssign (.Name x pos') op e pos) (jpt i te ti):=by
 intro a s σ H D I h;obtain⟨v,t,h⟩:=h;obtain⟨m,B,C⟩:=I.loc;have g:Vis X.env.scope x:=by rcases f with k | k;exact .inl k;exact .inr<|.inl k
 obtain⟨u,r,l⟩:=C i x v hi t g;refine wpAny_AugAssign_Name ?_;have go:wpAny (model X.prog X.w) X.A (eval e X.env) (λw E=>wpAny (model X.prog X.w) X.A (inplaceOp op u w) (λr F=>wpAny (model X.prog X.w) X.A (storeName X.env x r) (λ_=>SP X a D .next) X.xe F) X.xe E) X.xe s:=by
  refine thn (o a s σ H _ I h) λw s1 j=>?_;obtain⟨y,G,J,r1,K⟩:=j;refine thn (p a s1 σ G v y u w _ J r r1 K) λz s2 j=>?_;obtain⟨S,L,M,r2,O⟩:=j;exact Y0 M n hi f r2 (λT P=>⟨_,L,P,O⟩) q
 rcases l with⟨b,Q⟩ | ⟨b,c,R,d⟩
 ·exact wpAny_loadName_local I.ok.kind b B Q go
 ·rcases b with b | b
  ·exact wpAny_loadName_cell I.ok.kind b R d go
  ·rcases f with k | k
   ·have:X.env.scope.names.lookup x=some .free:=b;rw[k] at this;cases this
   ·have:X.env.scope.names.lookup x=some .free:=b;rw[k] at this;cases this
def jkn(to ti te:TE)(tget:V->V->Hp->VK->Prop)(tip:TIp)(tset:joq):TS:=λD σ H=>to σ H λo H1=>ti σ H1 λi H2=>tget o i H2 λx H3=>te σ H3 λy H4=>tip x y H4 λz H5=>tset o i z H5 λH6=>D.nx σ H6
def jp1(X:Cx)(t:V->V->Hp->VK->Prop):Prop:=
 ∀ pins s (σ:St) H o i ov iv Q,Inv X pins σ H s->RelV o ov->RelV i iv->t o i H Q ->
  wpAny (model X.prog X.w) X.A (getItem ov iv) (EP X pins σ Q) X.xe s
def jie(g:PE X o to)(hi:PE X i ti)(j:jp1 X tget)(k:PE X e te)(l:PIp X op tip)(m:jpr X tset)
  (n:∀ ov iv new,augStore i ov iv new=(do holding [new,ov,iv] (setItem ov iv new);release [new,ov,iv] [];pure .next):=by intros;rfl):PS X (.AugAssign (.Subscript o i tpos) op e pos) (jkn to ti te tget tip tset):=by
 intro a s σ H D I h;refine wpAny_AugAssign_SubscriptAny (thn (g a s σ H _ I h) λov s1 b=>?_) n;obtain⟨d,p,q,r1,r⟩:=b;refine thn (hi a s1 σ p _ q r) λiv s2 b=>?_;obtain⟨f,t,u,r2,w⟩:=b;refine thn (j a s2 σ t d f ov iv _ u r1 r2 w) λc x b=>?_;obtain⟨y,z,A,B,C⟩:=b;refine thn (k a x σ z _ A C) λv E b=>?_;obtain⟨F,G,J,K,L⟩:=b;refine thn (l a E σ G y F c v _ J B K L) λnew M b=>?_;obtain⟨N,O,P,Q,R⟩:=b;exact thn (m a M σ O d f N ov iv new _ P r1 r2 Q R) λ_ V ⟨S,T,U⟩=>⟨σ,S,T,U⟩
def ipI(f:Int->Int->Int):TIp:=λx y H Q=>∃ i j,x=.int i/\y=.int j/\Q (.int<|f i j) H
def jnW:PIp X .Add (ipI λi j=>i+j):=by
 intro a s σ H x y v u Q I r1 r2 h;obtain⟨i,j,b,e2,q⟩:=h;subst b;subst e2;obtain⟨t,rfl⟩:=r1;obtain⟨c,rfl⟩:=r2;exact iadd_int ⟨.int _,H,I.tok _,⟨_,rfl⟩,q⟩
def jlX:PIp X .Sub (ipI λi j=>i-j):=by
 intro a s σ H x y v u Q I r1 r2 h;obtain⟨i,j,b,e2,q⟩:=h;subst b;subst e2;obtain⟨t,rfl⟩:=r1;obtain⟨c,rfl⟩:=r2;exact isub_int ⟨.int _,H,I.tok _,⟨_,rfl⟩,q⟩
end
structure It where
 go:Nat->Hp->Prop
 yld:Nat->Hp->V->Hp->Prop
 stop:Nat->Hp->Prop
def uE(X:Cx)(pins:W0)(H:Hp)(b:Addr):Prop:=
 H b=none/\b≠X.env.locals/\b∉X.fs/\(b∈X.ex\/X.s₀.heap.objs.size<=b)/\(∀ x c,X.env.cells.lookup x=some c->c≠b)/\∀ p∈X.pn++pins,p.1≠b
def Inv.fpOk(I:Inv X pins σ H s)(a:↥s<=b)(d:H' b=none):uE X pins H' b:=by
 refine⟨d,Nat.ne_of_gt<|U6 I.lt a,I.nofs a,.inr<|N9 I.sz a,λx c e z=>?_,λp f z=>?_⟩
 ·obtain⟨v,q⟩:=I.cell x c e;exact absurd (U6 q.lt<|by rw[z];exact a)<|Nat.lt_irrefl _
 ·exact absurd (U6 (N3 (I.pin p f).1)<|by rw[z];exact a)<|Nat.lt_irrefl _
structure Turn(P:Program)(w:World)(K:W4)(tg:Expr)(J:It)(fp:W5)(it:Addr)(tn:Nat->Heap->Prop):Prop where
 mem:it∈fp
 obj:∀ i h,tn i h->∀ b∈fp,∃ o,h.get? b=some o/\∀ v,o.data≠.cell v
 keep:∀ i h h',tn i h->(∀ b∈fp,∀ o,h.get? b=some o->h'.get? b=some o)->tn i h'
 item:∀(X:Cx),X.prog=P->X.w=w->X.K=K->X.calm=true->∀(i:Nat) (pins:W0) (s:Shared) (σ:St) (H:Hp) (E:J0),Inv X pins σ H s->(∀ b∈fp,uE X pins H b)->tn i s.heap->J.go i H ->
  wpAny (model P w) X.A (pyNext<|.ref it) (λr s1=>∃ u,r=some u /\
   wpAny (model P w) X.A (letOwnedTupleGo tg (.ref it) u) (λ_ s2=>∃ x H',Inv X pins σ H' s2/\RelV x u/\J.yld i H x H'/\tn (i+1) s2.heap/\∀ b∈fp,H' b=none) E s1) E s
 done:∀(X:Cx),X.prog=P->X.w=w->X.K=K->X.calm=true->∀(i:Nat) (pins:W0) (s:Shared) (σ:St) (H:Hp) (E:J0),Inv X pins σ H s->(∀ b∈fp,uE X pins H b)->tn i s.heap->J.stop i H ->
  wpAny (model P w) X.A (pyNext<|.ref it) (λr s1=>r=none/\Inv X pins σ H s1) E s
 self:∀(A:Around) (i:Nat) (s:Shared) (Q:J0) (E:J0),tn i s.heap->Q (.ref it) s->wpAny (model P w) A (pyIter<|.ref it) Q E s
abbrev TI:=St->Hp->(It->Hp->Prop)->Prop
def PIE(X:Cx)(pins:W0)(σ:St)(tg:Expr)(R:It->Hp->Prop)(itv:Value)(s2:Shared):Prop:=
 ∃(it:Addr) (fp:W5) (tn:Nat->Heap->Prop) (J:It) (H':Hp),itv=.ref it/\Inv X pins σ H' s2/\Turn X.prog X.w X.K tg J fp it tn/\tn 0 s2.heap/\(∀ b∈fp,uE X pins H' b)/\R J H'
def PI(X:Cx)(tg iter:Expr)(wi:TI):Prop:=
 ∀ pins s (σ:St) H (R:It->Hp->Prop),Inv X pins σ H s->wi σ H R ->
  wpAny (model X.prog X.w) X.A (eval iter X.env) (λv s1=>wpAny (model X.prog X.w) X.A (pyIter v) (PIE X pins σ tg R) X.xe s1) X.xe s
def jfx(b:s.heap.get? it=some o)(c:o.cls=.type n)(hd:o.data=.fields vs)
  (d:["enumerate","zip","dict_itemiterator","dict_reverseitemiterator","odict_iterator","itertools.zip_longest","itertools.pairwise"].contains n=false) (a:Q () s):wpAny M A (letOwnedTupleGo tg (.ref it) u) Q E s:=by
 cases tg<;>first
  | exact M8 a
  | (cases u<;>first
    | exact M8 a
    | (refine L3 (wpAny_load b ?_)
       rw[c,hd];show wpAny M A (if(["enumerate","zip","dict_itemiterator","dict_reverseitemiterator","odict_iterator","itertools.zip_longest","itertools.pairwise"].contains n&&vs[0]?==some (rawInt _))=true then _ else _) Q E s;rw[if_neg<|by intro h;rw[d,Bool.false_and] at h;cases h];exact M8 a))
noncomputable def Itl(K:W4)(a:Addr):It:=
 ⟨λi H=>∃ xs x,SqL K H a xs/\xs[i]?=some x,λi H x H'=>H'=H/\∀ xs,SqL K H a xs->xs[i]?=some x,λi H=>∃ xs,SqL K H a xs/\xs.length<=i⟩
noncomputable def Itt(K:W4)(a:Addr):It:=
 ⟨λi H=>∃ xs x,SqT K H a xs/\xs[i]?=some x,λi H x H'=>H'=H/\∀ xs,SqT K H a xs->xs[i]?=some x,λi H=>∃ xs,SqT K H a xs/\xs.length<=i⟩
noncomputable def Itr(lo:Int)(n:Nat):It:=⟨λi _=>i<n,λi H x H'=>H'=H/\x=.int (lo+i),λi _=>n<=i⟩
def jdW{P}{w}{K}{tg}(a j):Turn P w K tg (Itl K a) [j] j (λi h=>h.IsListIter j a i) where
 mem:=by simp
 obj:=λi h f b l=>by
  have e:b=j:=by simpa using l
  subst e;obtain⟨o,e,c,d⟩:=f;exact⟨o,e,λv z=>by rw[d] at z;cases z⟩
 keep:=λi h r f k=>f.at (k j<|by simp)
 item:=by
  intro X t y A O i g s σ H E I n f B;subst t y A;obtain⟨Q,x,q,C⟩:=B;obtain⟨D,F,p,R⟩:=I.list q;obtain⟨u,S,T⟩:=F.get C;obtain⟨G,J,U,L,M,N⟩:=n j (by simp);refine wpAny_pyNext_list_item f p.isList ⇑S λr m V=>?_;have W:Inv X g σ H {s with heap:=r}:=I.turned (λb o l e=>(V.2 b l).trans e) G J L M N;obtain⟨o,e,c,d⟩:=id m;exact⟨u,rfl,jfx e c d (by decide) ⟨x,H,W,T,⟨rfl,λys Y=>by rw[I.list_inj Y q];exact C⟩,m,λb l=>(n b l).1⟩⟩
 done:=by
  intro X t y A O i g s σ H E I n f B;subst t y A;obtain⟨Q,q,C⟩:=B;obtain⟨D,F,p,R⟩:=I.list q;obtain⟨G,J,U,L,M,N⟩:=n j (by simp);have hl:=F.length;exact wpAny_pyNext_list_end (I.ok.hd O) f p.isList (by simp;lia) λr Z=>⟨rfl,I.turned (Z) G J L M N⟩
 self:=λ_ _ _ _ _ f h=>wpAny_pyIter_listiter f h
def jbm{P}{w}{K}{tg}(a j):Turn P w K tg (Itt K a) [j] j (λi h=>h.IsTupleIter j a i) where
 mem:=by simp
 obj:=λi h f b l=>by
  have e:b=j:=by simpa using l
  subst e;obtain⟨o,e,c,d⟩:=f;exact⟨o,e,λv z=>by rw[d] at z;cases z⟩
 keep:=λi h r f k=>f.at (k j<|by simp)
 item:=by
  intro X t y A O i g s σ H E I n f B;subst t y A;obtain⟨Q,x,q,C⟩:=B;obtain⟨D,F,p,R⟩:=I.tuple q;obtain⟨u,S,T⟩:=F.get C;obtain⟨G,J,U,L,M,N⟩:=n j (by simp);refine wpAny_pyNext_tuple_item f (p) ⇑S λr m V=>?_;have W:Inv X g σ H {s with heap:=r}:=I.turned (λb o l e=>(V.2 b l).trans e) G J L M N;obtain⟨o,e,c,d⟩:=id m;exact⟨u,rfl,jfx e c d (by decide) ⟨x,H,W,T,⟨rfl,λys Y=>by rw[I.tuple_inj Y q];exact C⟩,m,λb l=>(n b l).1⟩⟩
 done:=by
  intro X t y A O i g s σ H E I n f B;subst t y A;obtain⟨Q,q,C⟩:=B;obtain⟨D,F,p,R⟩:=I.tuple q;obtain⟨G,J,U,L,M,N⟩:=n j (by simp);have hl:=F.length;exact wpAny_pyNext_tuple_end (I.ok.hd O) f (p) (by simp;lia) λr Z=>⟨rfl,I.turned (Z) G J L M N⟩
 self:=λ_ _ _ _ _ f h=>wpAny_pyIter_tupleiter f h
def ja4{P}{w}{K}{tg}(c)(lo)(n):Turn P w K tg (Itr lo n) [c] c (λi h=>IsRangeIter h c (lo+(i:Nat)*1) ((n:Int)-(i:Nat)) 1) where
 mem:=by simp
 obj:=λi h a b f=>by
  have e:b=c:=by simpa using f
  subst e;exact⟨_,a,λv z=>by
   cases z⟩
 keep:=λi h l a k=>k c (by simp) _ a
 item:=by
  intro X A B C m i d s σ H E I j a p;subst A B C;obtain⟨q,r,D,u,x,y⟩:=j c (by simp);refine(Walks.range (prog:=X.prog) (w:=X.w) (I.ok.hd m) c lo 1 n).item i s _ _ p a λv l F G g J=>?_;obtain⟨t,rfl⟩:=G;have L:Inv X d σ H {s with heap:=l,toks:=F}:=I.turned (λb o f e=>J b o ⇑f e) q r u x y;refine⟨_,rfl,jfx g rfl rfl (by decide) ⟨.int<|lo+i,H,L,⟨t,?_⟩,⟨rfl,rfl⟩,g,λb f=>(j b f).1⟩⟩;rw[Int.mul_one]
 done:=by
  intro X A B C m i d s σ H E I j a p;obtain⟨q,r,D,u,x,y⟩:=j c (by simp);exact wpAny_pyNext_range_end (I.ok.hd m) a (by have:n<=i:=p;lia) λl M=>⟨rfl,I.turned (M) q r u x y⟩
 self:=λ_ _ _ _ _ a h=>wpAny_pyIter_rangeiter a h
section
variable {X:Cx}{tg:Expr}
def jgv{pins}{s}{R}{E}{lo hi}{c}(I:Inv X pins σ H s)(h1:-(2 ^ 62)<=lo)(h2:lo<2 ^ 62)(d:-(2 ^ 62)<=hi)(f:hi<2 ^ 62)
  (q:R (Itr lo (hi-lo).toNat) H):wpAny (model X.prog X.w) X.A (pyIter<|.ref ↥s) (PIE X pins σ tg R) E { s with heap:=s.heap.push {cls:=.type "range",data:=.fields #[.int lo t,.int hi u,.int 1 v]},toks:=c }:=by
 refine wpAny_pyIter_range (IsRange.new ..) (small_one h1 h2 d f) ?_;have a:Inv X pins σ H { s with heap:=s.heap.push {cls:=.type "range",data:=.fields #[.int lo t,.int hi u,.int 1 v]},toks:=c }:=I.kept λb o e=>L8 _ e;refine⟨(s.heap.push {cls:=.type "range",data:=.fields #[.int lo t,.int hi u,.int 1 v]}).objs.size,[(s.heap.push {cls:=.type "range",data:=.fields #[.int lo t,.int hi u,.int 1 v]}).objs.size],_,_,H,rfl,
  a.kept λb o e=>L8 _ e,ja4 _ lo (hi-lo).toNat,?_,λb g=>?_,q⟩
 ·have h:lo+((0:Nat):Int)*1=lo:=by simp
  have e2:(((hi-lo).toNat:Nat):Int)-((0:Nat):Int)=Builtin.Range.rangeSize lo hi 1:=by rw[rangeSize_one];split<;>lia
  rw[h,e2];exact E3 _ rfl
 ·have e:b=(s.heap.push {cls:=.type "range",data:=.fields #[.int lo t,.int hi u,.int 1 v]}).objs.size:=by simpa using g
  subst e;exact a.fpOk (N1 _)<|a.hok.fresh<|N1 _
def jeQ(ta:TA):TI:=λσ H R=>ta σ H λvs H1=>∃ j:Int,vs=[.int j]/\-(2 ^ 62)<=j/\j<2 ^ 62/\R (Itr 0 j.toNat) H1
def zR(d:Gl X "range")(f:X.mg "range" = none)(g:PA X [a] ta)(i:starEach [a] X.env=[(false,eval a X.env)]:=by rfl):PI X tg (.Call (.Name "range" p) [a] [] pos) (jeQ ta):=by
 intro b s σ H R I h;refine Call_<|Yc I d f boot_range<|PyProof.Rows.callWith_type1 (thn (g pos b s σ H _ I h) λn s1 ⟨vs,o,k,r1,c⟩=>?_) i rfl;obtain⟨j,e,c,l,q⟩:=c;subst e;cases r1 with
 | cons r m=>
  cases m;obtain⟨t,rfl⟩:=r;exact call_range_1<|jgv k ∅ ∅ c l ⇑q
def jk6(wi:TI)(g:TG)(tb:TS):TS:=λD σ H=>wi σ H λJ H1=>∃ W:Nat->Nat->St->Hp->Prop,(∃ m,W 0 m σ H1)/\∀ i m σ H,W i m σ H ->
 (J.stop i H/\D.nx σ H)\/(J.go i H/\∃ N:St->Hp->Prop,(∀ σ' H',N σ' H'->∃ m',m'<m/\W (i+1) m' σ' H')/\∀ x H',J.yld i H x H'->g x σ H' λσ2 H2=>tb {D with nx:=N,ct:=N,bk:=D.nx} σ2 H2)
noncomputable def Kg(fp:W5)(h:Heap):List (Addr×Obj):=fp.filterMap λb=>(h.get? b).map λo=>(b,o)
def kP(a:b∈fp)(e:h.get? b=some o):(b,o)∈Kg fp h:=List.mem_filterMap.mpr ⟨b,a,by rw[e];rfl⟩
def jd2(a:p∈Kg fp h):p.1∈fp/\h.get? p.1=some p.2:=by
 obtain⟨b,c,e⟩:=List.mem_filterMap.mp a;cases q:h.get? b with
 | none=>rw[q] at e;cases e
 | some o=>
  rw[q] at e;have d:=X8 e;subst d;exact⟨c,q⟩
def Inv.pinned(I:Inv X pins σ H s)(f:∀ b∈fp,uE X pins H b)(g:∀ b∈fp,∃ o,s.heap.get? b=some o/\∀ v,o.data≠.cell v):Inv X (pins++Kg fp s.heap) σ H s:=
 I.pins_of λp h=>(N4.mp h).elim (λz=>I.pin p<|U5 _ z) λz=>by
  obtain⟨a,e⟩:=jd2 z;obtain⟨i,j,k,_⟩:=f p.1 a;obtain⟨o,c,d⟩:=g p.1 a;rw[e] at c;cases c;exact⟨e,i,j,k,d⟩
def Inv.unpinned(I:Inv X (pins++pl) σ H s):Inv X pins σ H s:=I.pins_of λp a=>I.pin p<|U5 _<|List.mem_append_left _ a
def jhB(B:PassesOwn (model X.prog X.w) X.A X.env X.xe)(U:X.calm=true)(hi:PI X tg iter wi)(hg:PG X tg g)(c:PSs X body tb)
  (hs:∀ x,foldedSetIterable iter X.env x=pure x:=by intro _;rfl):PS X (.For tg iter body [] pos) (jk6 wi g tb):=by
 intro a s σ H D I h;refine wpAny_For (thn (hi a s σ H _ I h) λv s1 h1=>thn h1 λitv s2 h2=>?_) hs;obtain⟨it,C,V,J,H2,e,I2,T,O,Y,W,⟨m0,w0⟩,turn⟩:=h2;subst e;have j:∀{t},(∀ b∈C,t b=none)->∀ b∈C,uE X a t b:=λhn b c=>⟨hn b c,(Y b c).2⟩;refine codeAny_forLoop_any (λn Z=>∃ i E t,Inv X a E t Z/\V i Z.heap/\(∀ b∈C,t b=none)/\W i n E t) ?_ m0 ⟨0,σ,H2,I2,O,λb c=>(Y b c).1,w0⟩;rintro n s3 ⟨i,F,M,I3,G,K,w3⟩;rcases turn i n F M w3 with⟨stop,qn⟩ | ⟨go,N,hN,step⟩
 ·refine wpAny_passesOwn B<|thn (T.done X rfl rfl rfl U i a s3 F M X.xe I3 (j K) G stop) λr s4 ⟨P,I4⟩=>?_;subst P;exact wpAny_execs_nil ⟨F,M,I4,qn⟩
 ·refine wpAny_passesOwn B<|thn (T.item X rfl rfl rfl U i a s3 F M X.xe I3 (j K) G go) λr s4 ⟨u,P,h4⟩=>?_;subst P;refine wpAny_passesOwn B<|thn h4 λ_ s5 Q=>?_;obtain⟨x,H5,I5,r5,y5,z,R⟩:=Q;refine wpAny_passesOwn B<|thn (hg _ s5 F H5 x u _ (I5.pinned (j R)<|T.obj _ _ z) r5<|step x H5 y5) λ_ s6 Q=>?_;obtain⟨σ6,H6,I6,q6⟩:=Q;refine wpAny_passesOwn B<|thn (c _ s6 σ6 H6 _ I6 q6) λf S y=>?_;have k:∀{l}{p},Inv X (a++Kg C s5.heap) l p S->N l p->∃ m,m<n/\∃ i E t,Inv X a E t S/\V i S.heap/\(∀ b∈C,t b=none)/\W i m E t:=λ{l p} q L=>by
   obtain⟨m',hm,w7⟩:=hN l p L;refine⟨m',hm,i+1,l,p,q.unpinned,T.keep _ _ _ z λb c o e=>(q.pin (b,o)<|U5 _<|U5 _<|kP c e).1,λb c=>?_,w7⟩;obtain⟨o,e,d⟩:=T.obj _ _ z b c;exact(q.pin (b,o)<|U5 _<|U5 _<|kP c e).2.1
  cases f with
  | next=>obtain⟨l,p,q,L⟩:=y;exact k q L
  | cont=>obtain⟨l,p,q,L⟩:=y;exact k q L
  | brk=>obtain⟨l,p,q,y⟩:=y;exact⟨l,p,q.unpinned,y⟩
  | ret v=>obtain⟨x7,l,p,q,r7,y⟩:=y;exact⟨x7,l,p,q.unpinned,r7,y⟩
end
abbrev R2:=V->V->Hp->VK->Prop
def OpR(X:Cx)(f:Value->Value->Sem Value)(r:R2):Prop:=
 ∀ pins s (σ:St) H x y v u Q,Inv X pins σ H s->RelV x v->RelV y u->r x y H Q ->
  wpAny (model X.prog X.w) X.A (f v u) (EP X pins σ Q) X.xe s
def UnR(X:Cx)(f:Value->Sem Value)(r:V->Hp->VK->Prop):Prop:=
 ∀ pins s (σ:St) H x v Q,Inv X pins σ H s->RelV x v->r x H Q ->
  wpAny (model X.prog X.w) X.A (f v) (EP X pins σ Q) X.xe s
def kR(X:Cx)(f:Value)(r:List V->Hp->VK->Prop):Prop:=
 ∀ pins s (σ:St) H xs us Q,Inv X pins σ H s->Vals xs us->r xs H Q ->
  wpAny (model X.prog X.w) X.A (call f us) (EP X pins σ Q) X.xe s
def tOp(r:R2)(ta tb:TE):TE:=λσ H Q=>ta σ H λx H1=>tb σ H1 λy H2=>r x y H2 Q
def tUn(r:V->Hp->VK->Prop)(ta:TE):TE:=λσ H Q=>ta σ H λx H1=>r x H1 Q
def rI(C:Int->Int->Prop)(g:Int->Int->V):R2:=λx y H Q=>∃ i j,x=.int i/\y=.int j/\C i j/\Q (g i j) H
def rI0(g:Int->Int->V):R2:=λx y H Q=>∃ i j,x=.int i/\y=.int j/\Q (g i j) H
def rU(g:Int->V):V->Hp->VK->Prop:=λx H Q=>∃ i,x=.int i/\Q (g i) H
section
variable {X:Cx}{a b c:Expr}{ta tb tc:TE}{pos:Pos}
def jot(d:PE X a ta)(e:PE X b tb){pins}{s}{R:V->V->Hp->Prop}(I:Inv X pins σ H s)
  (h:ta σ H λx H1=>tb σ H1 λy H2=>R x y H2) {Q:J0}{f:Value->Value->Sem Value}
  (g:∀ v u s2 x y H2,Inv X pins σ H2 s2->RelV x v->RelV y u->R x y H2->wpAny (model X.prog X.w) X.A (f v u) Q X.xe s2):
  wpAny (model X.prog X.w) X.A (eval a X.env) (λv s₁=>wpAny (model X.prog X.w) X.A (eval b X.env) (λu s₂=>wpAny (model X.prog X.w) X.A (f v u) Q X.xe s₂) X.xe s₁) X.xe s:=by
 refine thn (d pins s σ H _ I h) λv s1 c=>?_;obtain⟨x,H1,i,r1,j⟩:=c;refine thn (e pins s1 σ H1 _ i j) λu s2 c=>?_;obtain⟨y,H2,k,r2,l⟩:=c;exact g v u s2 x y H2 k r1 r2 l
def Q5(d:OpR X (binaryOp op) r)(e:PE X a ta)(f:PE X b tb):PE X (.BinOp a op b pos) (tOp r ta tb):=by
 intro c s σ H Q I h;exact wpAny_BinOp<|jot e f I h λv u s2 x y g i j k q=>d c s2 σ g x y v u Q i j k q
def jpE(c:UnR X (unaryOp op) r)(d:PE X a ta):PE X (.UnaryOp op a pos) (tUn r ta):=by
 intro b s σ H Q I h;exact UnaryOp_<|thn (d b s σ H _ I h) λv s1 ⟨x,e,f,r1,g⟩=>c b s1 σ e x v Q f r1 g
def opI{f}{C}{g:Int->Int->Int}
  (a:∀ i j t u s (Q:J0) (E:J0),C i j->Q (.int (g i j) s.toks) {s with toks:=s.toks+1}->wpAny (model X.prog X.w) X.A (f (.int i t)<|.int j u) Q E s):
  OpR X f (rI C λi j=>.int<|g i j):=by
 intro b s σ H x y v u Q I c d h;obtain⟨i,j,rfl,rfl,e,q⟩:=h;obtain⟨t,rfl⟩:=c;obtain⟨k,rfl⟩:=d;exact a i j t k s _ _ e ⟨.int<|g i j,H,I.tok _,⟨_,rfl⟩,q⟩
def jqg{f}{g:Int->Int->Int}
  (a:∀ i j t u s (Q:J0) (E:J0),Q (.int (g i j) s.toks) {s with toks:=s.toks+1}->wpAny (model X.prog X.w) X.A (f (.int i t)<|.int j u) Q E s):
  OpR X f (rI0 λi j=>.int<|g i j):=by
 intro b s σ H x y v u Q I c d h;obtain⟨i,j,rfl,rfl,q⟩:=h;obtain⟨t,rfl⟩:=c;obtain⟨e,rfl⟩:=d;exact a i j t e s _ _ ⟨.int<|g i j,H,I.tok _,⟨_,rfl⟩,q⟩
def jog{f}{g:Int->Int->Bool}
  (a:∀ i j t u s (Q:J0) (E:J0),Q (.bool<|g i j) s->wpAny (model X.prog X.w) X.A (f (.int i t)<|.int j u) Q E s):
  OpR X f (rI0 λi j=>.bl<|g i j):=by
 intro b s σ H x y v u Q I c d h;obtain⟨i,j,rfl,rfl,q⟩:=h;obtain⟨t,rfl⟩:=c;obtain⟨e,rfl⟩:=d;exact a i j t e s _ _ ⟨.bl<|g i j,H,I,rfl,q⟩
def joj(i j:Int):Prop:=0<=j/\j<=1000000/\i.natAbs<2 ^ 64
def jnY:OpR X (binaryOp .Add) (rI0 λi j=>.int<|i+j):=jqg λ_ _ _ _ _ _ _ q=>add_int q
def jmV:OpR X (binaryOp .Sub) (rI0 λi j=>.int<|i-j):=jqg λ_ _ _ _ _ _ _ q=>sub_int q
def jhN:OpR X (binaryOp .Mod) (rI (λ_ j=>0<j) λi j=>.int<|i%j):=opI λi j _ _ _ _ _ a q=>by
 exact mod_int' ∅ (by rw[Int.fmod_eq_emod_of_nonneg i ∅];exact q)
def jmy:OpR X (binaryOp .Pow) (rI joj λi j=>.int<|i ^ j.toNat):=opI λ_ _ _ _ _ _ _ a q=>pow_int_small a.1 a.2.1 a.2.2 q
def unI{f}{g:Int->Int}
  (a:∀ i t s (Q:J0) (E:J0),Q (.int (g i) s.toks) {s with toks:=s.toks+1}->wpAny (model X.prog X.w) X.A (f<|.int i t) Q E s):
  UnR X f (rU λi=>.int<|g i):=by
 intro b s σ H x v Q I c h;obtain⟨i,rfl,q⟩:=h;obtain⟨t,rfl⟩:=c;exact a i t s _ _ ⟨.int<|g i,H,I.tok _,⟨_,rfl⟩,q⟩
def jmn:UnR X (unaryOp .USub) (rU λi=>.int<|-i):=unI λ_ _ _ _ _ q=>neg_int q
end
noncomputable def joW:V->V->Bool
 | .non,.non=>true | .non,.int _=>true | .int _,.non=>true | .non,.bl _=>true | .bl _,.non=>true | .non,.str _=>true | .str _,.non=>true
 | .int _,.int _=>true | .bl _,.bl _=>true | .str _,.str _=>true | .byt _,.byt _=>true
 | .int _,.str _=>true | .str _,.int _=>true | .bl _,.str _=>true | .str _,.bl _=>true
 | _,_=>false
def rEq:R2:=λx y H Q=>joW x y=true/\Q (.bl<|decide<|x=y) H
def rNe:R2:=λx y H Q=>joW x y=true/\Q (.bl<|!decide (x=y)) H
def xX:decide (V.int i=V.int j)=(i==j):=by
 rw[Bool.eq_iff_iff];simp
def jc6:decide (V.bl i=V.bl j)=(i==j):=by
 rw[Bool.eq_iff_iff];simp
def jc1:decide (V.str i=V.str j)=(i==j):=by
 rw[Bool.eq_iff_iff];simp
def jcX:decide (V.byt i=V.byt j)=(i.toList==j.toList):=by
 rw[Bool.eq_iff_iff];cases i;cases j;simp
section
variable {X:Cx}{a b c:Expr}{ta tb tc:TE}{pos:Pos}
def jP(I:Inv X pins σ H s)(q:Q (.bl k) H)(e:k=k'):EP X pins σ Q (.bool k') s:=by
 subst e;exact⟨.bl k,H,I,rfl,q⟩
def jos:OpR X (compareOp .Eq) rEq:=by
 intro e s σ H x y v u Q I d a h;obtain⟨c,q⟩:=h;cases x with
 | non=>
  cases d;cases y with
  | non=>cases a;exact PySem.EqNone.eq_none_none<|jP I q (by simp)
  | bl j=>cases a;exact PySem.EqNone.eq_none_bool<|jP I q (by simp)
  | int j=>obtain⟨b,rfl⟩:=a;exact PySem.EqNone.eq_none_int<|jP I q (by simp)
  | str j=>obtain⟨b,rfl⟩:=a;exact PySem.EqNone.eq_none_str<|jP I q (by simp)
  | _=>exact absurd (c) M4
 | bl i=>
  cases d;cases y with
  | non=>cases a;exact PySem.EqNone.eq_bool_none<|jP I q (by simp)
  | bl j=>cases a;exact eq_bool<|jP I q jc6
  | str j=>obtain⟨b,rfl⟩:=a;exact PySem.EqMixed.eq_bool_str<|jP I q (by simp)
  | _=>exact absurd (c) M4
 | int i=>
  obtain⟨t,rfl⟩:=d;cases y with
  | non=>cases a;exact PySem.EqNone.eq_int_none<|jP I q (by simp)
  | int j=>obtain⟨b,rfl⟩:=a;exact eq_int<|jP I q xX
  | str j=>obtain⟨b,rfl⟩:=a;exact PySem.EqMixed.eq_int_str<|jP I q (by simp)
  | _=>exact absurd (c) M4
 | str i=>
  obtain⟨t,rfl⟩:=d;cases y with
  | non=>cases a;exact PySem.EqNone.eq_str_none<|jP I q (by simp)
  | bl j=>cases a;exact PySem.EqMixed.eq_str_bool<|jP I q (by simp)
  | int j=>obtain⟨b,rfl⟩:=a;exact PySem.EqMixed.eq_str_int<|jP I q (by simp)
  | str j=>obtain⟨b,rfl⟩:=a;exact eq_str<|jP I q jc1
  | _=>exact absurd (c) M4
 | byt i=>
  obtain⟨t,rfl⟩:=d;cases y with
  | byt j=>obtain⟨b,rfl⟩:=a;exact PySem.W.eq_bytes<|jP I q jcX
  | _=>exact absurd (c) M4
 | _=>cases y<;>exact absurd (c) M4
def joV:OpR X (compareOp .NotEq) rNe:=by
 intro e s σ H x y v u Q I d a h;obtain⟨c,q⟩:=h;cases x with
 | non=>
  cases d;cases y with
  | non=>cases a;exact PySem.EqNone.ne_none_none<|jP I q (by simp)
  | bl j=>cases a;exact PySem.EqNone.ne_none_bool<|jP I q (by simp)
  | int j=>obtain⟨b,rfl⟩:=a;exact PySem.EqNone.ne_none_int<|jP I q (by simp)
  | str j=>obtain⟨b,rfl⟩:=a;exact PySem.EqNone.ne_none_str<|jP I q (by simp)
  | _=>exact absurd (c) M4
 | bl i=>
  cases d;cases y with
  | non=>cases a;exact PySem.EqNone.ne_bool_none<|jP I q (by simp)
  | bl j=>cases a;exact ne_bool<|jP I q<|congrArg not jc6
  | str j=>obtain⟨b,rfl⟩:=a;exact PySem.EqMixed.ne_bool_str<|jP I q (by simp)
  | _=>exact absurd (c) M4
 | int i=>
  obtain⟨t,rfl⟩:=d;cases y with
  | non=>cases a;exact PySem.EqNone.ne_int_none<|jP I q (by simp)
  | int j=>obtain⟨b,rfl⟩:=a;exact ne_int<|jP I q<|congrArg not xX
  | str j=>obtain⟨b,rfl⟩:=a;exact PySem.EqMixed.ne_int_str<|jP I q (by simp)
  | _=>exact absurd (c) M4
 | str i=>
  obtain⟨t,rfl⟩:=d;cases y with
  | non=>cases a;exact PySem.EqNone.ne_str_none<|jP I q (by simp)
  | bl j=>cases a;exact PySem.EqMixed.ne_str_bool<|jP I q (by simp)
  | int j=>obtain⟨b,rfl⟩:=a;exact PySem.EqMixed.ne_str_int<|jP I q (by simp)
  | str j=>obtain⟨b,rfl⟩:=a;exact ne_str<|jP I q<|congrArg not jc1
  | _=>exact absurd (c) M4
 | byt i=>
  obtain⟨t,rfl⟩:=d;cases y with
  | byt j=>obtain⟨b,rfl⟩:=a;exact PySem.W.ne_bytes<|jP I q<|congrArg not jcX
  | _=>exact absurd (c) M4
 | _=>cases y<;>exact absurd (c) M4
def joh:OpR X (compareOp .Lt) (rI0 λi j=>.bl<|decide<|i<j):=jog λ_ _ _ _ _ _ _ q=>lt_int q
def joF:OpR X (compareOp .Gt) (rI0 λi j=>.bl<|decide<|j<i):=jog λ_ _ _ _ _ _ _ q=>gt_int q
def jpe:OpR X (compareOp .GtE) (rI0 λi j=>.bl<|decide<|j<=i):=jog λ_ _ _ _ _ _ _ q=>ge_int q
def jdi:OpR X (compareOp .In) (λx y H Q=>∃ i j,x=.str i/\y=.str j/\Q (.bl<|!(Builtin.Str.occurrences j i 0 j.length 1).isEmpty) H):=by
 intro a s σ H x y v u Q I b c h;obtain⟨i,j,rfl,rfl,q⟩:=h;obtain⟨t,rfl⟩:=b;obtain⟨d,rfl⟩:=c;exact in_str<|jP I q rfl
def jm9:OpR X (compareOp .Is) (λx y H Q=>y=.non/\Q (.bl<|decide<|x=.non) H):=by
 intro a s σ H x y v u Q I b c h;obtain⟨rfl,q⟩:=h;cases c;refine is_none_gen<|jP I q ?_;cases x<;>first
  | (cases b;rfl)
  | (obtain⟨t,rfl⟩:=b;rfl)
def xA:OpR X (compareOp .NotIn) (λx y H Q=>∃ i j,x=.str i/\y=.str j/\Q (.bl<|!(!(Builtin.Str.occurrences j i 0 j.length 1).isEmpty)) H):=by
 intro a s σ H x y v u Q I b c h;obtain⟨i,j,rfl,rfl,q⟩:=h;obtain⟨t,rfl⟩:=b;obtain⟨d,rfl⟩:=c;exact notIn_str<|jP I q rfl
def Kc(b)  (h:op≠.In:=by decide) (h2:op≠.NotIn:=by decide):behindInMarks op b=false:=by
 have a:(op==CmpOp.In)=false:=by cases op<;>first | rfl | exact absurd rfl h
 have e2:(op==CmpOp.NotIn)=false:=by cases op<;>first | rfl | exact absurd rfl h2
 cases b<;>simp[behindInMarks,a,e2]
def jjP(d:OpR X (compareOp op) r)(e:PE X a ta)(f:PE X b tb)(g:behindInMarks op b=false):PE X (.Compare a [op] [b] pos) (tOp r ta tb):=by
 intro c s σ H Q I h;exact wpAny_Compare1 (jot e f I h λv u s2 x y i j k l q=>d c s2 σ i x y v u Q j k l q) g
def VH(t:TE):TT:=λσ H Q=>t σ H λx H'=>∃ k,x=.bl k/\Q k H'
def jd9(f:OpR X (compareOp op) r)(g:PE X a ta)(i:PE X b tb)(j:behindInMarks op b=false):PT X (.Compare a [op] [b] pos) (VH<|tOp r ta tb):=by
 intro d s σ H Q I h;refine wpAny_isTrue_Compare1 (thn (g d s σ H _ I h) λv s1 ⟨x,l,m,r1,n⟩=>thn (i d s1 σ l _ m n) λu s2 ⟨y,o,p,r2,q⟩=>
  thn (f d s2 σ o x y v u _ p r1 r2 q) λc C ⟨z,t,w,A,k,e,B⟩=>?_) j
 subst e;cases A;exact wpAny_truthy_bool ⟨t,w,B⟩
def z6:(sizeLine:Nat)<2 ^ 63:=by rw[sizeLine_eq];decide
def jbH:OpR X (binaryOp .Add) (λx y H Q=>∃ i j,x=.str i/\y=.str j/\i.length+j.length<=sizeLine/\Q (.str<|i++j) H):=by
 intro a s σ H x y v u Q I b c h;obtain⟨i,j,rfl,rfl,d,q⟩:=h;obtain⟨t,rfl⟩:=b;obtain⟨e,rfl⟩:=c;exact add_str (λe f=>⟨.str<|i++j,H,I.tok _,⟨_,rfl⟩,q⟩) d
def jks(r:Vals [x] us):∃ u,us=[u]/\RelV x u:=by
 cases r with
 | cons r1 r2=>cases r2;exact⟨_,rfl,r1⟩
def jnd(r:Vals [x,y] us):Ex2 λu w'=>An3 (us=[u,w']) (RelV x u) (RelV y w'):=by
 cases r with
 | cons r1 r2=>
  cases r2 with
  | cons a b=>cases b;exact⟨_,_,rfl,r1,a⟩
def jdb(c:X.calm=true):kR X (.builtin "max") (λxs H Q=>∃ i j,xs=[.int i,.int j]/\Q (.int<|if j>i then j else i) H):=by
 intro b s σ H xs d Q I r h;obtain⟨i,j,rfl,q⟩:=h;obtain⟨u,e,rfl,⟨t,rfl⟩,⟨f,rfl⟩⟩:=jnd r;refine max_two_ints (I.ok.hd c) λg l k=>⟨_,H,I.kept k,?_,q⟩;by_cases a:j>i
 ·rw[if_pos a,if_pos a];exact⟨_,rfl⟩
 ·rw[if_neg a,if_neg a];exact⟨_,rfl⟩
def xE(c:X.calm=true):kR X (.builtin "min") (λxs H Q=>∃ i j,xs=[.int i,.int j]/\Q (.int<|if j<i then j else i) H):=by
 intro b s σ H xs d Q I r h;obtain⟨i,j,rfl,q⟩:=h;obtain⟨u,e,rfl,⟨t,rfl⟩,⟨f,rfl⟩⟩:=jnd r;refine min_two_ints (I.ok.hd c) λg l k=>⟨_,H,I.kept k,?_,q⟩;by_cases a:j<i
 ·rw[if_pos a,if_pos a];exact⟨_,rfl⟩
 ·rw[if_neg a,if_neg a];exact⟨_,rfl⟩
def joI(K:W4)(x:V)(H:Hp)(n:Nat):Prop:=
 match x with
 | .str y=>y.length<=sizeLine/\n=y.length
 | .byt y=>y.size<=sizeLine/\n=y.size
 | .ref p=>(∃ xs,SqL K H p xs/\n=xs.length) \/ ∃ xs,SqT K H p xs/\n=xs.length
 | _=>False
def jgk:kR X (.builtin "len") (λxs H Q=>∃ x n,xs=[x]/\joI X.K x H n/\Q (.int n) H):=by
 intro i s σ H xs l Q I r h;obtain⟨x,n,rfl,e,q⟩:=h;obtain⟨u,rfl,c⟩:=jks r;have m:=sizeLine_eq;cases x with
 | str y=>
  obtain⟨t,rfl⟩:=c;obtain⟨j,b⟩:y.length<=sizeLine/\n=y.length:=e;subst b;exact len_str ∅ ⟨.int _,H,I.tok _,⟨_,rfl⟩,q⟩
 | byt y=>
  obtain⟨t,rfl⟩:=c;obtain⟨j,b⟩:y.size<=sizeLine/\n=y.size:=e;subst b;exact PySem.W.len_bytes ∅ ⟨.int _,H,I.tok _,⟨_,rfl⟩,q⟩
 | ref p=>
  cases c;have b:=e;rcases b with⟨xs,d,b⟩ | ⟨xs,d,b⟩
  ·subst b;obtain⟨f,g,pl,k⟩:=I.list d;have a:=g.length;exact Calls.call_len_list pl.isList (by simp only[N5];lia) ⟨.int xs.length,H,I.tok _,⟨_,by simp only[N5];rw[a]⟩,q⟩
  ·subst b;obtain⟨f,g,pl,k⟩:=I.tuple d;have a:=g.length;exact len_tuple pl (by simp only[N5];lia) ⟨.int xs.length,H,I.tok _,⟨_,by simp only[N5];rw[a]⟩,q⟩
 | _=>exact(e).elim
end
structure ObjM(h:Heap)(x dx C:Addr)(mA:W6):Prop where
 obj:h.get? x=some (PySem.W.instObj C dx)
 ns:h.Ns1 dx mA
 ne:dx≠x
def jcy{h:Heap}{mA}(n:h.Ns1 dx mA):∃ od,h.get? dx=some od/\∀ name,PySem.W.lookIn name od=some (mA name):=by
 obtain⟨o,c,k,d,hd,f,_,g⟩:=n;refine⟨o,d,λname=>?_⟩;have e:=g name;unfold nsFind findBy at e;rw[<- Array.find?_toList] at e;unfold PySem.W.lookIn;rw[hd];dsimp only;split
 ·rename_i y q;rw[q] at e;exact congrArg some e
 ·rename_i q;rw[q] at e;have a:c.toList.any (·.refKey)=false:=by
   rw[List.any_eq_false];intro y i;obtain⟨z,t,b⟩:=f y<|Array.mem_toList_iff.mp i;simp[DictEntry.refKey,b]
  have j:¬ c.toList.any (·.refKey)=true:=by rw[a];exact M4
  rw[if_neg j];exact congrArg some e
def ObjM.look(I:ObjM h x dx C mA):∃ od,PySem.W.InstAt h x (PySem.W.instObj C dx) C (some od)/\∀ name,PySem.W.lookIn name od=some (mA name):=
 let ⟨od,ho,hl⟩:=jcy I.ns
 ⟨od,⟨I.obj,rfl,rfl,ho⟩,hl⟩
section
variable {prog:Program}{w:World}{A:Around}{E:J0}{s:Shared}{K:W4}{x dx C f:Addr}{mA:W6}{name:Str}{v:Value}
def jiv{a}{Q}(X:K.In s.heap)(I:ObjM s.heap x dx C mA)(c:PySem.W.plainGet K C name=true)(d:PySem.W.hasDictIn K C=true)
  (e:PySem.W.findIn K (.ref C) name=some none) (f:mA name=some v) (b:PySem.W.handedIn v=true) (h:Q v {s with toks:=s.toks+1}):
  wpAny (model prog w) A (getAttr (.ref x) name a) Q E s:=by
 obtain⟨od,J,g⟩:=I.look;exact PySem.W.get_value X J (PySem.W.plainGet_of c).1 (PySem.W.findObj_own d e rfl<|by rw[g,f]) b h
def jfG{pl}{Q}(X:K.In s.heap)(I:ObjM s.heap x dx C mA)(a:PySem.W.plainGet K C name=true)
  (b:PySem.W.findIn K (.ref C) name=some (some<|.ref f)) (c:PySem.W.isFn K (.ref f)=true) (d:mA name=none) (h:Q (.ref f,[.ref x]) s):
  wpAny (model prog w) A (getMethod (.ref x) name pl) Q E s:=by
 obtain⟨od,J,e⟩:=I.look;exact PySem.W.method_fn X J (PySem.W.plainGet_of a).1 (PySem.W.plainGet_of a).2 b (beq_iff_eq.mp c) (by show(PySem.W.lookIn name od).map (·.isSome)=some false;rw[e,d];rfl) h
def jki{ns}{Q}(X:K.In s.heap)(I:ObjM s.heap x dx C mA)
  (i:PySem.W.findIn K (.ref C) "__setattr__" = some (some<|.builtin "object.__setattr__")) (j:PySem.W.plainOver K C=true) (k:PySem.W.takerIn K C name=some none) (l:PySem.W.hasDictIn K C=true)
  (m:PySem.Within mA ns) (hsz:ns.length<=sizeLine)
  (h:∀ h',ObjM h' x dx C (λy=>if y=name then some v else mA y)->Heap.SameBut dx s.heap h'->Q () {s with heap:=h',toks:=s.toks+2}):
  wpAny (model prog w) A (setAttr (.ref x) name v) Q E s:=by
 obtain⟨od,J,q⟩:=I.look;refine PySem.W.set_plain X J i<|PySem.W.osa_open X J j k λb=>?_;obtain⟨r,n,d⟩:=PySem.W.any_some l;refine L3<|M8<|L3<|L3<|wpAny_loadPart I.obj<|L3<|PySem.W.Looks.here (PySem.W.looks_clsIn X n) ?_;rw[d];refine M8<|L3<|M8<|L3<|wpAny_nsSet1 I.ns λh' a c=>?_;obtain⟨t,o,p,e,f,g⟩:=a.count<|PySem.Within.cons name v m;refine L3<|wpAny_lookBehind e (by rw[f];exact pastItsLine_dict<|N9 g<|by rw[M3];lia) ?_;exact M8<|h _ ⟨(c.2 _<|Ne.symm I.ne).trans I.obj,a,I.ne⟩ c
def jgw{R}{vs}{kw}(X:K.In s.heap)(a:PySem.W.makesIn K C=true)
  (hi:PySem.W.findIn K (.ref C) "__init__" = some (some<|.ref f)) (b:PySem.W.typeIn K (.ref f)=some (.type "function"))
  (h:codeAny (model prog w) (A.under<|.builtin "type.__call__" ⟨.ref C::vs,kw⟩) (.call (.ref f) ⟨.ref (↥s+1)::vs,kw⟩) (PySem.W.InitBack (↥s+1) R)
   {s with heap:=(s.heap.push PySem.W.emptyDict).push (PySem.W.instObj C ↥s)}):
  codeAny (model prog w) A (.call (.ref C) ⟨vs,kw⟩) R s:=by
 obtain⟨c,g,d,t,os⟩:=s;exact PySem.W.make_core (PySem.W.makes_of X a) (PySem.W.looks_findIn X hi) (λself=>PySem.W.bind_fn X self b) (.inl rfl) h
end
noncomputable def Kf(f:Str)(v:V):List (Str×V)->List (Str×V)
 | []=>[(f,v)]
 | (g,x)::r=>if g=f then(g,v)::r else(g,x)::Kf f v r
theorem Vp(f g)(v):∀ fs:List (Str×V),(Kf f v fs).lookup g=if g=f then some v else fs.lookup g
 | []=>by
  show List.lookup g [(f,v)]=_;by_cases h:g=f
  ·have a:=beq_iff_eq.mpr h;simp only[List.lookup,a,if_pos h]
  ·have a:=U4.mpr h;simp only[List.lookup,a,if_neg h]
 | (k,x)::r=>by
  rw[show Kf f v ((k,x)::r)=(if k=f then(k,v)::r else(k,x)::Kf f v r) from rfl];by_cases b:k=f
  ·rw[if_pos b];by_cases h:g=k
   ·have a:=beq_iff_eq.mpr h;simp only[List.lookup,a,if_pos<|h.trans b]
   ·have a:=U4.mpr h;simp only[List.lookup,a,if_neg<|λe:g=f=>h<|e.trans b.symm]
  ·rw[if_neg b];by_cases h:g=k
   ·have a:=beq_iff_eq.mpr h;simp only[List.lookup,a,if_neg<|λe:g=f=>b<|h.symm.trans e]
   ·have a:=U4.mpr h;simp only[List.lookup,a];exact(Vp f g v r)
theorem Vy(f)(v):∀ fs:List (Str×V),f∈(Kf f v fs).map (·.1)/\∀ g,g∈fs.map (·.1)->g∈(Kf f v fs).map (·.1)
 | []=>⟨by simp[Kf],λg h=>by simp at h⟩
 | (k,x)::r=>by
  obtain⟨b,c⟩:=Vy f v r;rw[show Kf f v ((k,x)::r)=(if k=f then(k,v)::r else(k,x)::Kf f v r) from rfl];by_cases a:k=f
  ·rw[if_pos a];subst a;exact⟨by simp,λg h=>by simpa using h⟩
  ·rw[if_neg a];refine⟨?_,λg h=>?_⟩
   ·rw[L5];exact L6 _ b
   ·rw[L5] at h ⊢;rcases M5.mp h with e | e
    ·exact M5.mpr<|.inl e
    ·exact L6 _<|c g e
theorem VG(f)(v):∀ fs:List (Str×V),(Kf f v fs).length<=fs.length+1
 | []=>by simp[Kf]
 | (k,x)::r=>by
  have b:=VG f v r;rw[show Kf f v ((k,x)::r)=(if k=f then(k,v)::r else(k,x)::Kf f v r) from rfl];by_cases a:k=f
  ·rw[if_pos a,M3,M3];lia
  ·rw[if_neg a,M3,M3];lia
def RelO.some_of(r:RelO (some v) o):∃ u,o=some u/\RelV v u:=by
 cases o with
 | none=>exact(r).elim
 | some u=>exact⟨u,rfl,r⟩
def RelO.none_of(r:RelO none o):o=none:=by
 cases o with
 | none=>rfl
 | some u=>exact(r).elim
def jcd(r:RelV v u):PySem.W.handedIn u=true:=by
 cases v with
 | non=>cases(r);rfl
 | bl b=>cases(r);rfl
 | int i=>obtain⟨t,e⟩:=(r);cases e;rfl
 | str x=>obtain⟨t,e⟩:=(r);cases e;rfl
 | byt b=>obtain⟨t,e⟩:=(r);cases e;rfl
 | flt b=>obtain⟨t,e⟩:=(r);cases e;rfl
 | ref a=>cases(r);rfl
 | ty n=>cases(r);rfl
section
variable {P:Program}{w:World}{H H':Hp}{h h':Heap}{a C dx:Addr}{fs fs':List (Str×V)}
def uy(hok:HOk P w H h)(e:H a=some (.ins C dx fs)):∃ mA,An5 (ObjM h a dx C mA) (∀ f,RelO (fs.lookup f)<|mA f) (PySem.Within mA (fs.map (·.1))) (fs.length<=1000) (H dx=some (.own a)):=by
 obtain⟨d,z,ne,ob,mA,n,r,q⟩:=(hok a _ e);exact⟨mA,⟨ob,n,ne⟩,r,q,z,d⟩
end
structure Cls(K:W4)(C:Addr):Prop where
 pg:PySem.W.plainGet K C Str.empty=true
 hd:PySem.W.hasDictIn K C=true
 po:PySem.W.plainOver K C=true
 sa:PySem.W.findIn K (.ref C) "__setattr__" = some (some<|.builtin "object.__setattr__")
def Cls.get{K}{C}(c:Cls K C)(f):PySem.W.plainGet K C f=true:=c.pg
def NoAttr(K:W4)(C:Addr)(f:Str):Prop:=PySem.W.findIn K (.ref C) f=some none
def NoAttr.taker{K}{C}{f}(n:NoAttr K C f):PySem.W.takerIn K C f=some none:=by
 unfold PySem.W.takerIn;rw[n];rfl
structure Meth(K:W4)(C:Addr)(m:Str)(f:Addr):Prop where
 at_:PySem.W.findIn K (.ref C) m=some (some<|.ref f)
 fn:PySem.W.isFn K (.ref f)=true
 kp:PySem.W.keepIn K (.ref f)=true
section
variable {X:Cx}{pins:List (Addr×Obj)}{σ:St}{H:Hp}{s:Shared}{a C dx:Addr}{fs:List (Str×V)}{f:Str}{v:V}{A:Around}{E:J0}
def Kn(I:Inv X pins σ H s)(e:H a=some (.ins C dx fs))(c:Cls X.K C)(n:NoAttr X.K C f)(l:fs.lookup f=some v)
  (h:∀ u s',Inv X pins σ H s'->RelV v u->Q u s'):wpAny (model X.prog X.w) A (getAttr (.ref a) f b) Q E s:=by
 obtain⟨i,O,r,_,_,_⟩:=uy I.hok e;obtain⟨u,g,d⟩:=RelO.some_of (by rw[<- l];exact r f);exact jiv I.kIn O (c.get f) c.hd n g (jcd d)<|h u _ (I.tok _) d
def jaW(I:Inv X pins σ H s)(e:H a=some (.ins C dx fs))(c:Cls X.K C)(k:Meth X.K C m g)(l:fs.lookup m=none)
  (h:Q (.ref g,[.ref a]) s):wpAny (model X.prog X.w) A (getMethod (.ref a) m pl) Q E s:=by
 obtain⟨d,O,r,_,_,_⟩:=uy I.hok e;have b:=RelO.none_of (by rw[<- l];exact r m);exact jfG I.kIn O (c.get m) k.at_ k.fn b h
def Ke(I:Inv X pins σ H s)(e:H a=some (.ins C dx fs))(c:Cls X.K C)(n:NoAttr X.K C f)(B:fs.length<1000)(l:RelV y u)
  (h:∀ s',Inv X pins σ (upd H a<|.ins C dx<|Kf f y fs) s'->Q () s'):wpAny (model X.prog X.w) A (setAttr (.ref a) f u) Q E s:=by
 obtain⟨i,O,r,j,_,k⟩:=uy I.hok e;have m:(fs.map (·.1)).length<=sizeLine:=by rw[L1,sizeLine_eq];lia
 refine jki I.kIn O c.sa c.po n.taker c.hd j m λp d t=>h _ ?_;have hd:∃ o,p.get? dx=some o:=let ⟨o,_,_,e',_⟩:=d.ns;⟨o,e'⟩
 refine I.write (by rw[e];exact True.intro) (.inr k) (λb q v z=>(t.2 b v).trans z) hd ?_;refine⟨by rw[je O.ne];exact k,?_,O.ne,d.obj,_,d.ns,λg=>?_,λg x=>?_⟩
 ·have:=VG f y fs;lia
 ·show RelO ((Kf f y fs).lookup g) (if g=f then some u else i g);rw[Vp];by_cases q:g=f
  ·rw[if_pos q,if_pos q];exact l
  ·rw[if_neg q,if_neg q];exact r g
 ·by_cases q:g=f
  ·rw[q];exact(Vy f y fs).1
  ·refine(Vy f y fs).2 g (j g λz=>x ?_);show(if g=f then some u else i g)=none;rw[if_neg q];exact z
def Inv.made(I:Inv X pins σ H s):Inv X pins σ (upd (upd H ↥s (.own<|↥s+1)) (↥s+1)<|.ins C ↥s [])
  {s with heap:=(s.heap.push PySem.W.emptyDict).push (PySem.W.instObj C ↥s)}:=by
 have a:(s.heap.push PySem.W.emptyDict).get? ↥s=some PySem.W.emptyDict:=E3 s.heap rfl;have e2:((s.heap.push PySem.W.emptyDict).push (PySem.W.instObj C ↥s)).get? (↥s+1)=some (PySem.W.instObj C ↥s):=by
  have:=E3 (s.heap.push PySem.W.emptyDict) (o:=PySem.W.instObj C ↥s) rfl
  rwa [Heap.size_push] at this
 have e3:(s.heap.push PySem.W.emptyDict).Ns ↥s (λ_=>none):=⟨PySem.W.emptyDict,#[],_,a,rfl,(λe c=>absurd c<|by simp),λ_=>rfl⟩;refine(I.laid (o:=.own<|↥s+1) (t':=s.toks) (λb u q=>L8 _ q) (N1 _) ⟨_,a⟩).laid (λb u q=>L8 _ q) (Nat.le_of_eq<|Heap.size_push _ _) ?_;have ne:↥s≠↥s+1:=N8<|Nat.lt_succ_self _;refine⟨by rw[je ne,jl],U7 _,ne,e2,λ_=>none,(Heap.Ns1.of_empty e3).at λo q=>L8 _ q,λ_=>True.intro,λy d=>absurd rfl d⟩
def jir(a:attributeBase e f env (eval e env)=eval e env)
  (h:wpAny (model prog w) A (eval e env) (λo s₁=>wpAny (model prog w) A (getAttr o f true) Q E s₁) E s):wpAny (model prog w) A (eval (.Attribute e f pos) env) Q E s:=
 Attribute_any_ h (by rw[arm_eval_Attribute,a])
end
def je0(K:W4)(ta:TE)(f:Str):TE:=λσ H Q=>ta σ H λx H1=>∃ a C dx fs v,x=.ref a/\H1 a=some (.ins C dx fs)/\Cls K C/\NoAttr K C f/\fs.lookup f=some v/\Q v H1
def jpy(K:W4)(ta tv:TE)(f:Str):TS:=λD σ H=>tv σ H λy H1=>ta σ H1 λx H2=>∃ a C dx fs,x=.ref a/\H2 a=some (.ins C dx fs)/\Cls K C/\NoAttr K C f/\fs.length<1000 /\
 D.nx σ (upd H2 a<|.ins C dx<|Kf f y fs)
def jod(X:Cx)(op:Operator)(rd:V->V->Hp->VK->Prop):Prop:=
 ∀ pins s (σ:St) H x y u v Q,Inv X pins σ H s->RelV x u->RelV y v->rd x y H Q->wpAny (model X.prog X.w) X.A (inplaceOp op u v) (EP X pins σ Q) X.xe s
def wG(K:W4)(ta tv:TE)(rd:V->V->Hp->VK->Prop)(f:Str):TS:=λD σ H=>ta σ H λx H1=>∃ a C dx fs v,x=.ref a/\H1 a=some (.ins C dx fs)/\Cls K C/\NoAttr K C f/\fs.lookup f=some v /\
 tv σ H1 λy H2=>rd v y H2 λz H3=>∃ dx' fs',H3 a=some (.ins C dx' fs')/\fs'.length<1000/\D.nx σ (upd H3 a<|.ins C dx'<|Kf f z fs')
section
variable {X:Cx}{o e value:Expr}{f:Str}{pos pos' tpos:Pos}{ta tv:TE}
def jak(d:PE X e ta)(g:attributeBase e f X.env (eval e X.env)=eval e X.env):PE X (.Attribute e f pos) (je0 X.K ta f):=by
 intro b s σ H Q I h;refine jir g<|thn (d b s σ H _ I h) λu s1 i=>?_;obtain⟨x,j,k,m,a,C,t,fs,v,ex,o,c,n,l,q⟩:=i;subst ex;obtain rfl:u=Value.ref a:=m;exact Kn k o c n l λw s2 p r=>⟨v,j,p,r,q⟩
def jk7(d:PE X o ta)(e:PE X value tv)(g:swapsWith value (some<|.Attribute o f pos') pos.line X.env=pure false):PS X (.Assign [.Attribute o f pos'] value pos) (jpy X.K ta tv f):=by
 intro b s σ H D I h;refine plainObj_wpAny_Assign_Attribute (thn (e b s σ H _ I h) λu s1 ⟨y,i,j,k,q⟩=>thn (d b s1 σ i _ j q) λm s2 p=>?_) g;obtain⟨x,A,r,t,a,C,B,fs,ex,v,c,n,l,w⟩:=p;subst ex;obtain rfl:m=Value.ref a:=t;exact Ke r v c n l k λE z=>⟨σ,_,z,w⟩
def jc2(i:PE X o ta)(j:PE X value tv)(d:jod X op rd):PS X (.AugAssign (.Attribute o f tpos) op value pos) (wG X.K ta tv rd f):=by
 intro b s σ H D I h;refine wpAny_AugAssign_AttributeAny<|thn (i b s σ H _ I h) λk s1 e=>?_;obtain⟨x,m,p,r,a,C,T,fs,v,ex,t,c,n,l,q⟩:=e;subst ex;obtain rfl:k=Value.ref a:=r;refine Kn p t c n l λu s2 w A=>thn (j b s2 σ m _ w q) λB E ⟨y,F,G,J,L⟩=>thn (d b E σ F v y u B _ G A J L) λU V e=>?_;obtain⟨z,W,M,N,O,P,g,Q,R⟩:=e;exact Ke M g c n Q N λY S=>⟨σ,_,S,R⟩
def jqe:V->V->Hp->VK->Prop:=λx y H Q=>∃ i j,x=.int i/\y=.int j/\Q (.int<|i+j) H
def jmp:V->V->Hp->VK->Prop:=λx y H Q=>∃ i j,x=.int i/\y=.int j/\Q (.int<|i-j) H
def jmz:jod X .Add jqe:=by
 rintro a s σ H x y u v Q I b c ⟨i,j,rfl,rfl,q⟩;obtain⟨t,rfl⟩:=(b);obtain⟨d,rfl⟩:=(c);exact PyProof.Rows.iadd_int ⟨.int<|i+j,H,I.tok _,⟨_,rfl⟩,q⟩
def jac:jod X .Sub jmp:=by
 rintro a s σ H x y u v Q I b c ⟨i,j,rfl,rfl,q⟩;obtain⟨t,rfl⟩:=(b);obtain⟨d,rfl⟩:=(c);exact PyProof.Rows.isub_int ⟨.int<|i-j,H,I.tok _,⟨_,rfl⟩,q⟩
end
structure Room(k:Nat)(A:Around):Prop where
 hd:A.handled=none
 dp:A.depth+3*k+5<recursionLimit
 un:A.units+16*k+200<cLine
def Room.mono(r:Room k A)(h:j<=k):Room j A:=⟨r.hd,by have:=r.dp;lia,by have:=r.un;lia⟩
def Room.deeper(r:Room (k+1) A)(env):Room k (A.deeper env):=
 ⟨r.hd,by have:=r.dp;show A.depth+1+3*k+5<_;lia,by have:=r.un;show A.units+3+16*k+200<_;lia⟩
def jbL{A:Around}{us}{kw}:(A.under<|.builtin "type.__call__" ⟨.ref C::us,kw⟩).depth=A.depth+1:=by
 first | rfl | simp[Around.under,Code.weight,Code.isCreation,Code.isGuard,Code.isCaller,Code.frames,Code.isFrame,guardIds]
def jbI{A:Around}{us}{kw}:(A.under<|.builtin "type.__call__" ⟨.ref C::us,kw⟩).units=A.units+1:=by
 first | rfl | simp[Around.under,Code.cUnits,Code.frames,Code.isFrame]
def Room.make(r:Room (k+1) A)(C)(us)(kw):Room k (A.under<|.builtin "type.__call__" ⟨.ref C::us,kw⟩):=
 ⟨r.hd,by have:=r.dp;rw[jbL];lia,by have:=r.un;rw[jbI];lia⟩
def Room.depth(r:Room k A):A.depth<recursionLimit:=by have:=r.dp;lia
def Room.units(r:Room k A):A.units+64<cLine:=by have:=r.un;lia
def Yw:TA:=λ_ H Q=>Q [] H
def jW(ta:TE)(tr:TA):TA:=λσ H Q=>ta σ H λx H1=>tr σ H1 λxs H2=>Q (x::xs) H2
section
variable {X:Cx}{e:Expr}{es:List Expr}{te:TE}{t:TA}{pos:Pos}
def kg:PA X [] Yw:=λ_ _ _ _ H Q I h=>Calls.spliced_nil ⟨[],H,I,.nil,h⟩
abbrev SEq(X:Cx)(e:Expr)(es:List Expr):Prop:=starEach (e::es) X.env=(false,eval e X.env)::starEach es X.env
def jN(b:PE X e te)(c:PA X es t)(d:SEq X e es:=by rfl):PA X (e::es) (jW te t):=by
 intro pos a s σ H Q I h;rw[d];refine Calls.spliced_cons<|thn (b a s σ H _ I h) λu s1 f=>?_;obtain⟨x,g,i,r1,j⟩:=f;exact thn (c pos a s1 σ g _ i j) λo s2 ⟨k,l,m,r2,n⟩=>⟨x::k,l,m,.cons r1 r2,n⟩
def jbh(t:TA):TE:=λσ H Q=>t σ H λxs H1=>xs.length<=sizeLine/\∀ p,H1 p=none->Q (.ref p) (upd H1 p<|.tup xs)
def joR(t:TA):TE:=λσ H Q=>t σ H λxs H1=>xs.length<=sizeLine/\∀ p,H1 p=none->Q (.ref p) (upd H1 p<|.lst xs)
def JM{d}(h:PA X es t):PE X (.Tuple es d pos) (jbh t):=by
 intro a s σ H Q I f;refine wpAny_Tuple_spliced<|thn (h pos a s σ H _ I f) λg s1 ⟨i,j,c,r,z,q⟩=>⟨by rw[<- r.length];exact z,?_⟩;refine⟨.ref ↥s1,upd j ↥s1 (.tup i),c.laid (λb u e=>L8 _ e) (N1 _) ?_,rfl,q _<|c.hok.fresh<|N1 _⟩;exact⟨z,g,r,⟨_,E3 _ rfl,rfl,_,rfl⟩,_,E3 _ rfl,rfl⟩
def jk1(h:PA X es t):PE X (.List es pos) (joR t):=by
 intro a s σ H Q I d;refine wpAny_List_spliced<|thn (h pos a s σ H _ I d) λf s1 ⟨g,i,c,r,z,q⟩=>⟨by rw[<- r.length];exact z,?_⟩;refine⟨.ref ↥s1,upd i ↥s1 (.lst g),c.laid (λb u e=>L8 _ e) (N1 _) ?_,rfl,q _<|c.hok.fresh<|N1 _⟩;exact⟨z,f,0,r,E3 _ rfl⟩
end
abbrev Sp:=List V->Hp->VK->XK->Prop
abbrev CXT:=List Env->Hp->Shared->XK->Value->Shared->Prop
structure Env0(P:Program)(w:World)(K:W4)(mg:W6)(base:Heap)(A:Around)(outer:List Env)(s:Shared)(H:Hp):Prop where
 frames:A.frames=some outer
 mod:Mod K mg base
 bs:∀ b o,base.get? b=some o->s.heap.get? b=some o/\H b=none
 bsz:base.objs.size<=↥s
 funs:s.heap.FunFrames base outer
 frf:∀ b∈frs outer,H b=none
 hok:HOk P w H s.heap
 bare:AllBare s.gens
def CE(outer:List Env)(P:Program)(w:World)(H:Hp)(s:Shared)(Q:VK)(u:Value)(s':Shared):Prop:=
 ∃ v H',s'.os=s.os/\AllBare s'.gens/\Un (frs outer) [] H H' s.heap s'.heap/\HOk P w H' s'.heap/\RelV v u/\Q v H'
def CR(CX:CXT)(outer:List Env)(P:Program)(w:World)(H:Hp)(s:Shared)(Q:VK)(E:XK)(r:Result)(s':Shared):Prop:=
 match r with
 | .ok (.ret u)=>CE outer P w H s Q u s'
 | .ok _=>False
 | .error e=>CX outer H s E e s'
structure FnOk(P:Program)(w:World)(K:W4)(mg:W6)(base:Heap)(CX:CXT)(k:Nat)(f:Addr)(fd:FuncData)(ps:List Str)(sp:Sp):Prop where
 len:∀ vs H Q E,sp vs H Q E->vs.length=ps.length
 run:∀(A:Around) (outer:List Env) (s:Shared) (H:Hp) (args:Args) (us:List Value) (vs:List V) (Q:VK) (E:XK),Room k A->Env0 P w K mg base A outer s H->BindsTo s fd args (ps.zip us)->Vals vs us->sp vs H Q E ->
  codeAny (model P w) A (.call (.ref f) args) (CR CX outer P w H s Q E) s
def FnOk.imp{P}{w}{K}{mg}{base}{CX}{k}{f}{fd}{ps}{sp a}(F:FnOk P w K mg base CX k f fd ps sp)
  (h:∀ vs H Q E,a vs H Q E->sp vs H Q E):FnOk P w K mg base CX k f fd ps a:=
 ⟨λvs H Q E q=>F.len vs H Q E<|h _ _ _ _ q,λA outer s H b c vs Q E d e g i j=>F.run A outer s H b c vs Q E d e g i<|h _ _ _ _ j⟩
def Env0.make{P}{w}{K}{mg}{base}{A}{outer}{s}{H}(e:Env0 P w K mg base A outer s H)(C)(us)(kw):
  Env0 P w K mg base (A.under<|.builtin "type.__call__" ⟨.ref C::us,kw⟩) outer s H:=⟨by first | exact e.frames | (simpa [Around.under,Code.envs,Code.isFrame,pushEnvs] using e.frames),e.mod,e.bs,e.bsz,e.funs,e.frf,e.hok,e.bare⟩
section
variable {X:Cx}{pins:List (Addr×Obj)}{σ:St}{H:Hp}{s s':Shared}
def Inv.env0(I:Inv X pins σ H s):Env0 X.prog X.w X.K X.mg X.base X.A X.stack s H:=
 ⟨I.ok.frames,I.ok.mod,I.bs,N9 I.ok.bsz I.sz,I.stack,I.stkFree,I.hok,I.bare⟩
def Inv.after(I:Inv X pins σ H s)(h:CE X.stack X.prog X.w H s Q u s'):EP X pins σ Q u s':=by
 obtain⟨v,c,os,bare,un,hok,r,q⟩:=h;obtain⟨e,g,d,t,a⟩:=s';obtain rfl:a=s.os:=os;exact⟨v,c,I.call un hok bare<|λb z=>absurd z<|by simp,r,q⟩
end
def qP(sp:Sp)(dvs:List V)(E:XK)(t:TA):TE:=λσ H Q=>t σ H λvs H1=>sp (vs++dvs) H1 Q E
def jel(C:Addr)(m:Str)(sp:Sp)(dvs:List V)(E:XK)(ta:TE)(t:TA):TE:=λσ H Q=>ta σ H λx H1=>∃ a dx fs,x=.ref a/\H1 a=some (.ins C dx fs)/\fs.lookup m=none /\
 t σ H1 λvs H2=>sp (x::(vs++dvs)) H2 Q E
def jjD(C:Addr)(sp:Sp)(dvs:List V)(E:XK)(t:TA):TE:=λσ H Q=>t σ H λvs H1=>∀ x dx,H1 x=none->H1 dx=none->dx≠x ->
 sp (.ref x::(vs++dvs)) (upd (upd H1 dx<|.own x) x<|.ins C dx []) (λv H2=>v=.non/\Q (.ref x) H2) E
def Binds(K:W4)(fd:FuncData)(ps:List Str)(ds:List Value):Prop:=
 ∀ s us,K.In s.heap->(us++ds).length=ps.length->BindsTo s fd ⟨us,[]⟩ (ps.zip<|us++ds)
def Binds.all{K}{fd}{ps}(h:∀ us:List Value,us.length=ps.length->bindArgs fd ⟨us,[]⟩=pure (ps.zip us)):Binds K fd ps []:=λs us _ a=>by
 rw[N2] at a ⊢;exact .of_eq<|h us a
def VU(CX:CXT)(X:Cx)(E:XK):Prop:=∀ pins (σ:St) H s e s',Inv X pins σ H s->CX X.stack H s E e s'->X.xe e s'
section
variable {X:Cx}{CX:CXT}{k:Nat}{f C:Addr}{fd:FuncData}{ps:List Str}{sp:Sp}{dvs:List V}{ds:List Value}{E:XK}{x m:Str}{p pos apos:Pos}{e o:Expr}{es:List Expr}{ta:TE}{t:TA}
def jcw(F:FnOk X.prog X.w X.K X.mg X.base CX k f fd ps sp)(b:Room k X.A)(c:Binds X.K fd ps ds)(hd:Vals dvs ds)(d:VU CX X E)
  (I:Inv X pins σ H s) (r:Vals vs us) (h:sp (vs++dvs) H Q E):wpAny (model X.prog X.w) X.A (call (.ref f) us) (EP X pins σ Q) X.xe s:=by
 have r2:=r.append hd;have g:(us++ds).length=ps.length:=by rw[<- r2.length];exact F.len _ _ _ _ h
 refine wpAny_call<|codeAny_mono (F.run X.A X.stack s H ⟨us,[]⟩ (us++ds) (vs++dvs) Q E b I.env0 (c s us I.kIn g) r2 h) λr i a=>?_;cases r with
 | error e=>exact d pins σ H s e i I a
 | ok j=>
  cases j with
  | ret u=>exact I.after a
  | next=>exact False.elim a
  | brk=>exact False.elim a
  | cont=>exact False.elim a
abbrev BkE(X:Cx)(p:Pos)(l:List Expr):Prop:=(backTo p<|starEach l X.env).any (·.1)=false
def jiT(F:FnOk X.prog X.w X.K X.mg X.base CX k f fd ps sp)(g:Room k X.A)(i:Gl X x)(j:X.mg x=some (.ref f))(l:PySem.W.keepIn X.K (.ref f)=true)(m:Binds X.K fd ps ds)(hd:Vals dvs ds)(n:VU CX X E)
  (o:PA X (e::es) t) (b:Nd x:=by decide) (u:SEq X e es:=by rfl) (c:BkE X pos es:=by rfl):
  PE X (.Call (.Name x p) (e::es) [] pos) (qP sp dvs E t):=by
 intro a s σ H Q I h;exact wpAny_Call_Name_kw<|KJ I i j (PySem.W.callWith_K I.ok.mod.kin l (thn (o pos a s σ H _ I h) λv s1 ⟨vs,y,d,r,q⟩=>⟨d.kIn,(jcw F g m hd n d r q)⟩) u c) b
def jgh(F:FnOk X.prog X.w X.K X.mg X.base CX k f fd ps sp)(c:Room k X.A)(d:Gl X x)(e:X.mg x=some (.ref f))(g:PySem.W.keepIn X.K (.ref f)=true)(i:Binds X.K fd ps ds)(hd:Vals dvs ds)(j:VU CX X E)
  (a:Nd x:=by decide):PE X (.Call (.Name x p) [] [] pos) (qP sp dvs E Yw):=by
 intro b s σ H Q I h;exact wpAny_Call_Name_kw<|KJ I d e (PySem.W.callWith_K0 I.kIn g<|jcw F c i hd j I .nil h) a
def jb9(p:PE X o ta)(c:Cls X.K C)(i:Meth X.K C m f)(F:FnOk X.prog X.w X.K X.mg X.base CX k f fd ps sp)(v:Room k X.A)(y:Binds X.K fd ps ds)(hd:Vals dvs ds)(z:VU CX X E)(B:PA X (e::es) t)
  (d:SEq X e es:=by rfl) (g:BkE X pos es:=by rfl)
  (D:eval (.Call (.Attribute o m apos) (e::es) [] pos) X.env=(do
   let ov <- eval o X.env
   standAt apos.atName
   let (f,first) <- holding [ov] (getMethod ov m pl)
   callWith pos f first (backTo pos<|starEach (e::es) X.env) (backToKw pos<|keywordEach [] X.env)):=by rfl):
  PE X (.Call (.Attribute o m apos) (e::es) [] pos) (jel C m sp dvs E ta t):=by
 intro b s σ H Q I h;refine PySem.W.methodCall_KW (thn (p b s σ H _ I h) λu s1 G=>?_) D;obtain⟨x,J,j,L,a,O,fs,ex,M,l,q⟩:=G;subst ex;obtain rfl:u=Value.ref a:=L;exact jaW j M c i l<|PySem.W.callWith_K I.ok.mod.kin i.kp (thn (B pos b s1 σ J _ j q) λP s2 ⟨vs,R,n,r,N⟩=>⟨n.kIn,(jcw (vs:=.ref a::vs) F v y hd z n (.cons rfl r) N)⟩) d g
structure Mk(K:W4)(C f:Addr):Prop where
 makes:PySem.W.makesIn K C=true
 init:PySem.W.findIn K (.ref C) "__init__" = some (some<|.ref f)
 fn:PySem.W.isFn K (.ref f)=true
 kp:PySem.W.keepIn K (.ref C)=true
def jfJ(M:Mk X.K C f)(F:FnOk X.prog X.w X.K X.mg X.base CX k f fd ps sp)(d:Room (k+1) X.A)(g:Binds X.K fd ps ds)(hd:Vals dvs ds)
  (i:VU CX X E) (I:Inv X pins σ H s) (r:Vals vs us)
  (h:∀ x dx,H x=none->H dx=none->dx≠x->sp (.ref x::(vs++dvs)) (upd (upd H dx<|.own x) x<|.ins C dx []) (λv H2=>v=.non/\Q (.ref x) H2) E):
  wpAny (model X.prog X.w) X.A (call (.ref C) us) (EP X pins σ Q) X.xe s:=by
 have c:=h (↥s+1) ↥s (I.hok.fresh<|Nat.le_succ _) (I.hok.fresh<|N1 _) (N8<|Nat.lt_succ_self _);have b:=Inv.made (C:=C) I;have r2:Vals (V.ref (↥s+1)::(vs++dvs)) (Value.ref (↥s+1)::(us++ds)):=.cons rfl<|r.append hd;have j:(Value.ref (↥s+1)::us++ds).length=ps.length:=by
  have e:=r2.length;rw[F.len _ _ _ _ c] at e;exact e.symm
 refine wpAny_call<|jgw I.kIn M.makes M.init (beq_iff_eq.mp M.fn)<|codeAny_mono (F.run _ X.stack _ _ ⟨Value.ref (↥s+1)::us,[]⟩ (Value.ref (↥s+1)::(us++ds)) _ _ E (d.make C us [])
  (b.env0.make C us []) (g _ (Value.ref (↥s+1)::us) b.kIn j) r2 c) λr l a=>?_
 cases r with
 | error e=>exact i pins σ _ _ e l b a
 | ok m=>
  cases m with
  | ret u=>
   obtain⟨v,n,o,p,q,t⟩:=b.after a;subst q;exact⟨p,⟨V.ref<|↥s+1,n,o,rfl,t⟩⟩
  | next=>exact False.elim a
  | brk=>exact False.elim a
  | cont=>exact False.elim a
def jjB(M:Mk X.K C f)(F:FnOk X.prog X.w X.K X.mg X.base CX k f fd ps sp)(g:Room (k+1) X.A)(i:Gl X x)(j:X.mg x=some (.ref C))(l:Binds X.K fd ps ds)(hd:Vals dvs ds)(m:VU CX X E)
  (n:PA X (e::es) t) (b:Nd x:=by decide) (o:SEq X e es:=by rfl) (c:BkE X pos es:=by rfl):
  PE X (.Call (.Name x p) (e::es) [] pos) (jjD C sp dvs E t):=by
 intro a s σ H Q I h;exact wpAny_Call_Name_kw<|KJ I i j (PySem.W.callWith_K I.ok.mod.kin M.kp (thn (n pos a s σ H _ I h) λu s1 ⟨vs,v,d,r,q⟩=>⟨d.kIn,(jfJ M F g l hd m d r q)⟩) o c) b
end
def PK(X:Cx)(kws:List Keyword)(t:TA):Prop:=
 ∀ pos pins s (σ:St) H (Q:List V->Hp->Prop),Inv X pins σ H s->t σ H Q->wpAny (model X.prog X.w) X.A (evalAll ((backToKw pos<|keywordEach kws X.env).map (·.2))) (AP X pins σ Q) X.xe s
structure FnScope(N P:List Str)(sc:Scope):Prop where
 kind:sc.kind=.function
 co:sc.isCoroutine=false
 gen:sc.isGenerator=false
 nd:N.Nodup
 pre:N.take P.length=P
 par:∀ x∈P,sc.names.lookup x=some .local\/sc.names.lookup x=some .cell
 nofree:∀ y∈sc.names,y.2≠.free
theorem xJ{kindOf}  : ∀{binds}{m},(∀ v,(x,v)∉binds)->bindL kindOf binds m x=m x
 | [],_,_=>rfl
 | (n,v)::r,m,h=>by
  unfold bindL;rw[xJ λw a=>h w<|L6 _ a];split
  ·have:x≠n:=by rintro rfl;exact h v L7
   simp[this]
  ·rfl
theorem zq{kindOf}  : ∀{binds}{m},(∀ v,(x,v)∉binds)->bindC kindOf binds m x=m x
 | [],_,_=>rfl
 | (n,v)::r,m,h=>by
  unfold bindC;rw[zq λw a=>h w<|L6 _ a];split
  ·rfl
  ·have:x≠n:=by rintro rfl;exact h v L7
   simp[this]
theorem xM{kindOf}  : ∀{P:List Str}{vs}{i:Nat}{m},P.Nodup->P[i]?=some x->vs[i]?=some v->kindOf x=some .local ->
  bindL kindOf (P.zip vs) m x=some v
 | [],_,_,_,_,h,_,_=>by simp at h
 | _::_,[],_,_,_,_,h,_=>by simp at h
 | p::P,w::vs,0,m,nd,a,b,c=>by
  simp at a b;subst a;subst b;show bindL kindOf ((p,w)::P.zip vs) m p=_;unfold bindL;rw[xJ λv d=>(List.nodup_cons.mp nd).1 (List.of_mem_zip d).1,if_pos c];simp
 | p::P,w::vs,i+1,m,nd,a,b,c=>by
  unfold bindL;exact xM (List.nodup_cons.mp nd).2 ⇑a ⇑b c
theorem xI{kindOf}  : ∀{P:List Str}{vs}{i:Nat}{m},P.Nodup->P[i]?=some x->vs[i]?=some v->kindOf x≠some .local ->
  bindC kindOf (P.zip vs) m x=some v
 | [],_,_,_,_,h,_,_=>by simp at h
 | _::_,[],_,_,_,_,h,_=>by simp at h
 | p::P,w::vs,0,m,nd,a,b,c=>by
  simp at a b;subst a;subst b;show bindC kindOf ((p,w)::P.zip vs) m p=_;unfold bindC;rw[zq λv d=>(List.nodup_cons.mp nd).1 (List.of_mem_zip d).1,if_neg c];simp
 | p::P,w::vs,i+1,m,nd,a,b,c=>by
  unfold bindC;exact xI (List.nodup_cons.mp nd).2 ⇑a ⇑b c
noncomputable def start(N:List Str)(vs:List V):St:=vs.map some++List.replicate (N.length-vs.length) none
noncomputable def jhK(CX:CXT)(P:Program)(w:World)(K:W4)(mg:W6)(base:Heap)(N:List Str)(qual:Str)(scope:Scope)(f:Addr)(cd:Value)(A:Around)(outer:List Env)(s:Shared)(H:Hp)(E:XK):Cx where
 prog:=P
 w:=w
 K:=K
 mg:=mg
 base:=base
 A:=A.deeper (envOfC qual scope ↥s f cd)
 N:=N
 s₀:=s
 H₀:=H
 env:=envOfC qual scope ↥s f cd
 outer:=outer
 stack:=envOfC qual scope ↥s f cd::outer
 ex:=[]
 calm:=true
 fn:=λ_=>true
 pn:=[]
 xe:=λe s'=>wpAny (model P w) (A.deeper<|envOfC qual scope ↥s f cd) (leaving (envOfC qual scope ↥s f cd) e) (λ_ s''=>CX outer H s E e s'') (λe' s''=>CX outer H s E e' s'') s'
def uP{a:Scope}{n}(h:a.names.lookup x=some .cell):∃ c,(cellsFrom n a.names []).lookup x=some c:=by
 exact Option.isSome_iff_exists.mp<|PySem.W.cellsFrom_some a.names n []<|.inl h
def jc4{CX}{P}{w}{K}{mg}{base}{N ps}{qual}{scope}{f}{cd}{A}{outer}{s s1}{H}{E}{us}{vs}
  (S:FnScope N ps scope) (hd:A.handled=none) (g:Env0 P w K mg base A outer s H) (G:vs.length=ps.length) (r:Vals vs us)
  (x:InCallC s ↥s (bindL (envOfC qual scope ↥s f cd).kindOf (ps.zip us) λ_=>none) (cellsFrom (↥s+1) scope.names []) (bindC (envOfC qual scope ↥s f cd).kindOf (ps.zip us) λ_=>none) s1):
  Inv (jhK CX P w K mg base N qual scope f cd A outer s H E) [] (start N vs) H s1:=by
 have C:ps.length<=N.length:=by have:=congrArg List.length S.pre;rw[E2] at this;lia
 obtain⟨o,I,rfl,t⟩:=x.done;have j:∀ b:Addr,b∉(jhK CX P w K mg base N qual scope f cd A outer s H E).ex:=λb z=>absurd (show b∈([]:W5) from z) (by simp);refine⟨⟨g.mod,S.kind,rfl,rfl,N1 _,λy z c o d=>?_,λy l=>?_,λy c _ h=>?_,λ_=>hd,Around.frames_deeper g.frames,.inr ⟨rfl,rfl⟩,λb z=>absurd z<|j b,g.bs,g.bsz,λb _ _=>j b,λb z=>absurd z<|j b,g.funs,g.frf⟩,
  rfl,g.bare,Un.kept t,⟨_,x.toInCall.ns,λi y v o d J=>?_⟩,λy c h=>⟨_,x.cell y c h⟩,g.hok.fresh<|N1 _,λy c h=>?_,λp m=>absurd (show p∈([]:W0) from m)<|by simp,g.hok.kept t,?_⟩
 ·exact name_of_addr x.apart (PySem.mem_of_lookup o)<|PySem.mem_of_lookup d
 ·have l:=l;rcases l with l | l
  ·exact uP l
  ·exact absurd rfl<|S.nofree _<|PySem.mem_of_lookup l
 ·exact Nat.le_of_lt<|x.above y c<|PySem.mem_of_lookup h
 ·have hi:i<vs.length:=by
   unfold start at d;by_cases hi:i<vs.length
   ·exact hi
   ·rw[List.getElem?_append_right ⇑hi,List.getElem?_replicate] at d;split at d<;>cases d
  have D:vs[i]?=some v:=by
   unfold start at d;rw[List.getElem?_append_left ⇑hi,List.getElem?_map] at d;cases e:vs[i]? with
   | none=>rw[e] at d;cases d
   | some a=>rw[e] at d;cases d;rfl
  obtain⟨u,B,F⟩:=r.get D;have m:ps[i]?=some y:=by
   rw[<- S.pre,List.getElem?_take_of_lt ∅];exact o
  have n:ps.Nodup:=by rw[<- S.pre];exact S.nd.sublist<|List.take_sublist _ _
  refine⟨u,F,?_⟩;rcases S.par y (List.mem_of_getElem? m) with k | k
  ·exact .inl ⟨k,xM n m B k⟩
  ·obtain⟨c,e⟩:=uP k;refine .inr ⟨.inl k,c,e,?_⟩;have q:=x.cell y c e;rw[xI n m B<|by show scope.names.lookup y≠_;rw[k];decide] at q;exact q
 ·exact g.hok.fresh<|Nat.le_of_lt<|x.above y c<|PySem.mem_of_lookup h
 ·unfold start;show _=N.length;rw[N6,L1,List.length_replicate]
  lia
def jpX{CX}{P}{w}{K}{mg}{base}{k}{f}{name qual}{params}{body}{scope}{F kV h pm a ct oc}{an od}
  {p:Array (Option Value)}{N ps:List Str}{sp:Sp}(M:K.lookup f=some ⟨oc,od,.func<|PySem.W.fnOf name qual params body scope F kV h pm an a ct,p⟩) (z:PySem.W.codeIn K a qual=true) (S:FnScope N ps scope)
  (len:∀ vs H Q E,sp vs H Q E->vs.length=ps.length)
  (c:∀ A outer s H vs Q E,Room k (A.deeper<|envOfC qual scope ↥s f a)->sp vs H Q E ->
   ∃ t,PSs (jhK CX P w K mg base N qual scope f a A outer s H E) body t/\t {nx:=λ_ H'=>Q .non H',rt:=Q} (start N vs) H):
  FnOk P w K mg base CX (k+1) f (PySem.W.fnOf name qual params body scope F kV h pm an a ct) ps sp:=by
 refine⟨len,λA outer s H G O vs Q E B i R r j=>?_⟩;have L:=i.mod.kin.keeps λb o e=>(i.bs b o e).1;have d:∀ y∈ps.zip O,scope.names.lookup y.1=some .local\/(scope.names.lookup y.1=some .cell/\((cellsFrom (↥s+1) scope.names []).lookup y.1).isSome=true):=λ⟨n,v⟩ T=>by
  rcases S.par n (List.of_mem_zip T).1 with q | q
  ·exact .inl q
  ·exact .inr ⟨q,PySem.W.cellsFrom_some _ _ _<|.inl q⟩
 refine codeAny_call_function B.depth (L _ _ M) rfl S.co S.gen rfl (PySem.W.codeRec_of L z)<|R _ _ _ _<|wpAny_newFunctionEnv_cells S.kind d λenv U s1 x=>?_;subst U;refine⟨(i.mod.nolimit.keeps λb o e=>(i.bs b o e).1).keeps x.toInCall.keep,codeAny_func ?_⟩;obtain⟨t,X,Y⟩:=c A outer s H vs Q E (B.deeper _) j;have I:Inv (jhK CX P w K mg base N qual scope f a A outer s H E) [] (start N vs) H s1:=jc4 S B.hd i (len _ _ _ _ j) r x;refine wpAny_mono (X [] s1 (start N vs) H _ I Y) (λZ C g=>?_) λe C g=>g;have l:∀{m}{H'}{v}{u},Inv (jhK CX P w K mg base N qual scope f a A outer s H E) [] m H' C->RelV v u->Q v H'->CE outer P w H s Q u C:=
  λ{m H' v u} J D q=>⟨v,H',J.os,J.bare,J.base,J.hok,D,q⟩
 cases Z with
 | ret u=>
  obtain⟨v,m,H',J,D,q⟩:=g;exact l J D q
 | next=>
  obtain⟨m,H',J,q⟩:=g;exact l (v:=V.non) J rfl q
 | brk=>
  obtain⟨_,_,_,q⟩:=g;exact False.elim q
 | cont=>
  obtain⟨_,_,_,q⟩:=g;exact False.elim q
section
variable {X:Cx}{x:Str}{p pos:Pos}{e:Expr}{es:List Expr}{t:TA}{id T:String}{r:List V->Hp->VK->Prop}
def tCB(r:List V->Hp->VK->Prop)(t:TA):TE:=λσ H Q=>t σ H λvs H1=>r vs H1 Q
def QH(d:kR X (.builtin id) r)(f:Gl X x)(g:X.mg x=none)(i:bootBuiltins x=some (.builtin id))(j:PA X (e::es) t)(k:x≠"__name__":=by decide)(b:Nd x:=by decide)
  (l:SEq X e es:=by rfl) (c:BkE X pos es:=by rfl):PE X (.Call (.Name x p) (e::es) [] pos) (tCB r t):=by
 intro a s σ H Q I h;exact wpAny_Call_Name_kw<|Yc I f g i (PyProof.Rows.callWith_builtin1 (thn (j pos a s σ H _ I h) λm s1 ⟨vs,n,o,r1,q⟩=>d a s1 σ n vs m Q o r1 q) l c) k b
def z4(d:kR X (.type T) r)(f:Gl X x)(g:X.mg x=none)(i:bootBuiltins x=some (.type T))(j:PA X (e::es) t)(k:x≠"__name__":=by decide)(b:Nd x:=by decide)
  (l:SEq X e es:=by rfl) (c:BkE X pos es:=by rfl):PE X (.Call (.Name x p) (e::es) [] pos) (tCB r t):=by
 intro a s σ H Q I h;exact wpAny_Call_Name_kw<|Yc I f g i (PyProof.Rows.callWith_type1 (thn (j pos a s σ H _ I h) λm s1 ⟨vs,n,o,r1,q⟩=>d a s1 σ n vs m Q o r1 q) l c) k b
end
end L2
namespace HT
open PySem PyProof.Rows
section
open PySem.SeqAt
open PySem.AutoSeq1 (wpAny_loadPart')
open PySem.MeetsSeq PySem.MeetsSeq2 PySem.MeetsSeq3
end
section
variable {prog:Program}{w:World}{A:Around}{E:J0}{s:Shared}
def cat_tup(p:IsTup s.heap t vs.toArray)(q:IsTup s.heap b ws.toArray)(k:vs≠[])
  (h1:ws=[]->Q (.ref t) s) (h2:ws≠[]->Q (.ref ↥s) { s with heap:=s.heap.push {cls:=.type "tuple",data:=.seq (vs++ws).toArray} })
  (hsz:vs.length+ws.length<=sizeLine):wpAny (model prog w) A (binaryOp .Add (.ref t)<|.ref b) Q E s:=by
 obtain⟨⟨cls,l,data,sl⟩,f,r,n,hd⟩:=id p;obtain⟨⟨m,c,h,d⟩,a,i,o,j⟩:=id q;subst r hd i j;have e:vs.toArray++ws.toArray=(vs++ws).toArray:=by simp
 by_cases g:ws=[]
 ·exact concat_meets ⟨_,f,rfl⟩ ⟨_,a,rfl⟩ noFill_tuple_add seq_tuple_add PySem.F.slot_tuple_add PySem.F.entry_tuple_add (PySem.F.args_tuple_add_2 _ _)
   (tuple_addW1 t b vs.toArray ws.toArray n o l c sl d ⇑k (by simp[g])) ⟨f,a,h1 g⟩
 ·refine concat_meets ⟨_,f,rfl⟩ ⟨_,a,rfl⟩ noFill_tuple_add seq_tuple_add PySem.F.slot_tuple_add PySem.F.entry_tuple_add (PySem.F.args_tuple_add_2 _ _)
   (tuple_addW2 t b vs.toArray ws.toArray n o l c sl d ⇑k ⇑g (by rw[N5,N5];exact hsz)) ⟨f,a,?_⟩
  rw[e];exact h2 g
noncomputable def sIx(n d:Nat):Option Int->Nat
 | none=>d
 | some v=>if v<0 then(v+(n:Int)).toNat else min v.toNat n
def sIx_none(n d):sIx n d none=d:=rfl
def sIx_nat(n d k:Nat):sIx n d (some (k:Int))=min k n:=by
 show(if k<0 then(k+(n:Int)).toNat else min (k:Int).toNat n)=min k n;rw[if_neg ∅,U0]
def sIx_le(n d)(hd:d<=n)(o):sIx n d o<=n:=by
 cases o with
 | none=>exact hd
 | some v=>
  show(if v<0 then(v+n).toNat else min v.toNat n)<=n;by_cases a:v<0
  ·rw[if_pos a];lia
  ·rw[if_neg a];exact Nat.min_le_right _ _
def jc0(v)(n d:Nat):(if v<0 then max (v+(n:Int)) 0 else min v (n:Int))=((sIx n d (some v):Nat):Int):=by
 show(if v<0 then max (v+n) 0 else min v n)=(((if v<0 then(v+n).toNat else min v.toNat n):Nat):Int);by_cases a:v<0
 ·simp only[if_pos a];lia
 ·simp only[if_neg a];lia
def jbr(lo hi)(n:Nat):Builtin.Slice.sliceAdjust lo hi 1 (n:Int)=(((sIx n 0 lo:Nat):Int),((sIx n n hi:Nat):Int)):=by
 refine Prod.ext ?_ ?_
 ·cases lo with
  | none=>rfl
  | some v=>exact jc0 v n 0
 ·cases hi with
  | none=>rfl
  | some v=>exact jc0 v n n
def ja3(i j:Nat):Builtin.Slice.slicePlaces (i:Int) (j:Int) 1=j-i:=by
 unfold Builtin.Slice.slicePlaces;split<;>lia
def Kq(p:IsPart v o)(h:Q o s):wpAny (model prog w) A (Builtin.Slice.slicePartIndex v) Q E s:=by
 cases p with
 | none=>exact slicePart_none h
 | int i t=>exact slicePart_int h
def YV{lo hi}{n}{Q:Int×Int×Nat->Shared->Prop}(c:s.heap.IsSliceOf sl vl vu .none)(pl:IsPart vl lo)(d:IsPart vu hi)
  (h:Q (((sIx n 0 lo:Nat):Int),1,sIx n n hi-sIx n 0 lo) s):wpAny (model prog w) A (Builtin.Slice.sliceApplied (.ref sl)<|pure (n:Int)) Q E s:=by
 obtain⟨os,a,e,b⟩:=id c;refine L3<|L3<|U8 a b rfl<|L3<|U8 a b rfl<|L3<|U8 a b rfl<|M8<|L3<|slicePart_none<|L3<|Kq pl<|L3<|Kq d<|L3<|M8 ?_;show wpAny _ _ (match Builtin.Slice.sliceAdjust lo hi 1 n with | (lo,hi)=>pure (lo,(1:Int),Builtin.Slice.slicePlaces lo hi 1)) _ _ s;rw[jbr lo hi n];show wpAny _ _ (pure (((sIx n 0 lo:Nat):Int),1,Builtin.Slice.slicePlaces ((sIx n 0 lo:Nat):Int) ((sIx n n hi:Nat):Int) 1)) _ _ s;rw[ja3];exact M8 h
def jfE(xs:Array Value)(i k:Nat):((List.range k).filterMap λ(m:Nat)=>xs[((i:Int)+(m:Int)*1).toNat]?).toArray=((xs.toList.drop i).take k).toArray:=by
 have e:(λ(m:Nat)=>xs[(i+(m:Int)*1).toNat]?)=λm=>xs[i+m]?:=by
  funext m
  have:(i+(m:Int)*1).toNat=i+m:=by lia
  rw[this]
 rw[e];have:=pick_run xs i k;rw[List.filterMap_map] at this;have e2:((λx=>xs[x]?) ∘ λx=>i+x)=λm=>xs[i+m]?:=rfl;rw[e2] at this;rw[this]
def getItem_tuple_cut{items}{lo hi}{Q}(b:IsTup s.heap t items)(g:s.heap.IsSliceOf sl vl vu .none)(pl:IsPart vl lo)(i:IsPart vu hi)
  (j:¬ (sIx items.size 0 lo=0/\sIx items.size items.size hi=items.size))
  (h:Q (.ref ↥s) { s with heap:=s.heap.push {cls:=.type "tuple",data:=.seq ((items.toList.drop<|sIx items.size 0 lo).take (sIx items.size items.size hi-sIx items.size 0 lo)).toArray} })
  (hsz:items.size<=sizeLine):wpAny (model prog w) A (getItem (.ref t)<|.ref sl) Q E s:=by
 have a:sizeOk (.seq ((items.toList.drop<|sIx items.size 0 lo).take (sIx items.size items.size hi-sIx items.size 0 lo)).toArray):=by
  show((items.toList.drop<|sIx items.size 0 lo).take (sIx items.size items.size hi-sIx items.size 0 lo)).toArray.size<=sizeLine;rw[N5,E2,List.length_drop,Array.length_toList]
  lia
 obtain⟨os,c,d,k⟩:=id g;have e:s.TypeIs (.ref sl) "slice":=⟨os,c,d⟩;unfold getItem
 try with_reducible refine wpAny_holding ?_
 first | refine L3 (M8 ?_) | skip
 refine L3<|wpAny_sequenceKey b.typeIs (by decide) ?_;refine L3<|wpAny_callSpecial?_slot b.typeIs PyProof.Rows.slot_tuple_getitem<|wpAny_call_entry PyProof.Rows.slot_tuple_getitem b.typeIs entry_tuple_getitem ?_<|args_tuple_getitem _ _
 show wpAny _ _ (Builtin.Tuple.tupleItemsOf (.ref t) >>= _) _ _ s;refine L3<|tupleItemsOf_ b<|L3<|wpAny_typeOf e<|L3<|YV g pl i ?_;have f:¬ ((((sIx items.size 0 lo:Nat):Int)==0&&(1:Int)==1&&(sIx items.size items.size hi-sIx items.size 0 lo)==items.size)=true):=by
  intro q;rw[M0,M0] at q;have l:=eq_of_beq q.1.1;have m:=eq_of_beq q.2;exact j ⟨by lia,by lia⟩
 show wpAny _ _ (if(((sIx items.size 0 lo:Nat):Int)==0&&1==1&&(sIx items.size items.size hi-sIx items.size 0 lo)==items.size)=true then _ else _) _ _ s;rw[if_neg f,jfE]
 first
  | exact L3 (wpAny_newObj_type (M8 ⟨_,rfl,M8 h⟩) a)
  | exact L3 (wpAny_newObj_type (L3 (M8 (M8 ⟨_,rfl,M8 h⟩))) a)
  | exact L3 (L3 (wpAny_newObj_type (M8 (M8 ⟨_,rfl,M8 h⟩)) a))
  | exact L3 (L3 (wpAny_newObj_type (M8 ⟨_,rfl,M8 h⟩) a))
end
end HT
namespace L2
open PySem PySem.Spec PyProof.Rows
abbrev TO:=St->Hp->(Option Int->Hp->Prop)->Prop
def PO(X:Cx)(e:Option Expr)(t:TO):Prop:=
 ∀ pins s (σ:St) H (Q:Option Int->Hp->Prop),Inv X pins σ H s->t σ H Q ->
  wpAny (model X.prog X.w) X.A (evalPart e X.env) (λu s'=>∃ o H',Inv X pins σ H' s'/\IsPart u o/\Q o H') X.xe s
def wY:TO:=λ_ H Q=>Q none H
def jjh(t:TE):TO:=λσ H Q=>t σ H λx H1=>∃ i,x=.int i/\Q (some i) H1
def Kx:∀{us},Vals (ns.map V.int) us->IntsAre us ns:=by
 induction ns with
 | nil=>intro us r;rw[List.map_nil] at r;cases r;exact .nil
 | cons n ns a=>
  intro us r;cases r with
  | cons r1 r2=>
   obtain⟨t,e⟩:=r1;subst e;exact .cons n t<|a r2
section
variable {X:Cx}{e:Expr}{te:TE}{lo hi:Option Expr}{tl th:TO}{pos p2:Pos}
def jjs:PO X none wY:=by
 intro a s σ H Q I h;exact M8 ⟨none,H,I,.none,h⟩
def jj1(h:PE X e te):PO X (some e) (jjh te):=by
 intro a s σ H Q I b;refine thn (h a s σ H _ I b) λu s1 c=>?_;obtain⟨x,d,f,r1,g⟩:=c;obtain⟨i,rfl,q⟩:=g;obtain⟨t,rfl⟩:=r1;exact⟨some i,d,f,.int i t,q⟩
def SlR(X:Cx)(r:V->Option Int->Option Int->Hp->VK->Prop):Prop:=
 ∀ pins s (σ:St) H x v vl vu lo hi sl Q,Inv X pins σ H s->RelV x v->s.heap.IsSliceOf sl vl vu .none->IsPart vl lo->IsPart vu hi->r x lo hi H Q ->
  ∃ T id,typeLookup (.type T) "__getitem__" = pure (some<|.builtin id)/\s.TypeIs v T/\wpAny (model X.prog X.w) X.A (getItem v<|.ref sl) (EP X pins σ Q) X.xe s
def SlR.or(h:SlR X r)(h':SlR X r'):SlR X (λx lo hi H Q=>r x lo hi H Q\/r' x lo hi H Q):=by
 intro a s σ H x v b c lo hi sl Q I d e pl f q;rcases q with q | q
 ·exact h a s σ H x v b c lo hi sl Q I d e pl f q
 ·exact h' a s σ H x v b c lo hi sl Q I d e pl f q
def tSl(r:V->Option Int->Option Int->Hp->VK->Prop)(te:TE)(tl th:TO):TE:=λσ H Q=>te σ H λx H1=>tl σ H1 λl H2=>th σ H2 λu H3=>r x l u H3 Q
def jgy{r}(j:SlR X r)(k:PE X e te)(m:PO X lo tl)(n:PO X hi th):PE X (.Subscript e (.Slice lo hi none p2) pos) (tSl r te tl th):=by
 intro a s σ H Q I h;refine Subscript_<|thn (k a s σ H _ I h) λv s1 d=>?_;obtain⟨x,o,p,r1,t⟩:=d;refine wpAny_Slice<|thn (m a s1 σ o _ p t) λf s2 ⟨l,w,y,pl,z⟩=>thn (n a s2 σ w _ y z) λg c d=>?_;obtain⟨u,i,A,B,C⟩:=d;refine M8 ?_;have D:Inv X a σ i { c with heap:=c.heap.push {cls:=.type "slice",data:=.fields #[f,g,.none]} }:=A.kept λb ob q=>L8 _ q;obtain⟨T,id,E,F,G⟩:=j a { c with heap:=c.heap.push {cls:=.type "slice",data:=.fields #[f,g,.none]} } σ i x v f g l u ↥c Q D r1 (Heap.IsSliceOf.new ..) pl B C;exact tail_any F E G (by with_unfolding_all rfl)
def jkY(xs:List V)(lo hi:Option Int):List V:=(xs.drop<|HT.sIx xs.length 0 lo).take (HT.sIx xs.length xs.length hi-HT.sIx xs.length 0 lo)
def Vl(xs)(lo hi):(jkY xs lo hi).length<=xs.length:=by
 unfold jkY;rw[E2,List.length_drop]
 lia
def jpY(K:W4):V->Option Int->Option Int->Hp->VK->Prop:=λx lo hi H Q=>∃ a xs,x=.ref a/\SqT K H a xs /\
 ¬ (HT.sIx xs.length 0 lo=0/\HT.sIx xs.length xs.length hi=xs.length)/\∀ p,H p=none->Q (.ref p) (upd H p<|.tup<|jkY xs lo hi)
def jmr:SlR X (jpY X.K):=by
 intro f s σ H x v o p lo hi sl Q I j k pl l h;obtain⟨a,d,rfl,m,n,q⟩:=h;cases j;obtain⟨e,r,g,i⟩:=I.tuple m;have c:e.toArray.size=d.length:=by rw[N5];exact r.length.symm
 refine⟨"tuple",_,PyProof.Rows.slot_tuple_getitem.lookup,g.typeIs,?_⟩;refine HT.getItem_tuple_cut g k pl l (by rw[c];exact n) ?_ (by rw[c];exact i);rw[c];refine⟨.ref ↥s,_,I.laid (λb ob q=>L8 _ q) (N1 _) ?_,rfl,q _<|I.hok.fresh<|N1 _⟩;exact⟨N9 (Vl d lo hi) i,_,(r.drop<|HT.sIx d.length 0 lo).take (HT.sIx d.length d.length hi-HT.sIx d.length 0 lo),IsTupN.new _ _⟩
def jnQ(K:W4):R2:=λx y H Q=>∃ a b xs ys,x=.ref a/\y=.ref b/\SqT K H a xs/\SqT K H b ys/\xs≠[]/\xs.length+ys.length<=sizeLine /\
 (ys=[]->Q (.ref a) H)/\(ys≠[]->∀ p,H p=none->Q (.ref p) (upd H p<|.tup<|xs++ys))
def Vals.nil_iff(r:Vals xs us):us=[]↔xs=[]:=by
 cases r with
 | nil=>simp
 | cons _ _=>simp
def jh1:OpR X (binaryOp .Add) (jnQ X.K):=by
 intro c s σ H x y v u Q I f g h;obtain⟨a,b,o,p,rfl,rfl,i,j,k,d,l,m⟩:=h;cases f;cases g;obtain⟨n,r1,p1,_⟩:=I.tuple i;obtain⟨e,r2,p2,_⟩:=I.tuple j;refine HT.cat_tup p1 p2 (λz=>k<|r1.nil_iff.mp z) (λz=>⟨.ref a,H,I,rfl,l<|r2.nil_iff.mp z⟩) (λz=>?_) (by rw[<- r1.length,<- r2.length];exact d);refine⟨.ref ↥s,_,I.laid (λb ob q=>L8 _ q) (N1 _) ?_,rfl,m (λw=>z<|r2.nil_iff.mpr w) _<|I.hok.fresh<|N1 _⟩;exact⟨by rw[N6];exact d,_,r1.append r2,IsTupN.new _ _⟩
end
noncomputable def ixN(n:Nat)(i:Int):Option Nat:=if 0<=i then(if i<n then some i.toNat else none) else if -(n:Int)<=i then some (i+n).toNat else none
def atI{α:Type}(xs:List α)(i:Int):Option α:=(ixN xs.length i).bind λj=>xs[j]?
def uh(h:ixN n i=some j):seqIndex? i n=some j/\j<n/\-(n:Int)<=i/\i<n:=by
 unfold ixN at h;by_cases b:0<=i
 ·rw[if_pos b] at h;by_cases a:i<n
  ·rw[if_pos a] at h;have e:=X8 h;exact⟨by rw[seqIndex_of b a,e],by lia,by lia,a⟩
  ·rw[if_neg a] at h;cases h
 ·rw[if_neg b] at h;by_cases a:-n<=i
  ·rw[if_pos a] at h;exact⟨by rw[seqIndex_neg ∅ a,X8 h],by lia,a,by lia⟩
  ·rw[if_neg a] at h;cases h
def Qh(h:atI xs i=some v):∃ j,An5 (seqIndex? i xs.length=some j) (xs[j]?=some v) (j<xs.length) (-(xs.length:Int)<=i) (i<xs.length):=by
 unfold atI at h;cases e:ixN xs.length i with
 | none=>rw[e] at h;cases h
 | some j=>
  rw[e] at h;obtain⟨a,b,c,d⟩:=uh e;exact⟨j,a,h,b,c,d⟩
def KS(b:Expr):Prop:=∀ o i,subscripted b false o i=operate [o,i] (getItem o i)
def IxR(X:Cx)(r:R2):Prop:=
 ∀ value slice pins s (σ:St) H x y v u Q,Inv X pins σ H s->RelV x v->RelV y u->r x y H Q ->
  subscripted slice false v u=operate [v,u] (getItem v u)->wpAny (model X.prog X.w) X.A (subscriptTail value slice v u) (EP X pins σ Q) X.xe s
def MtR(X:Cx)(id:String)(r:V->List V->Hp->VK->Prop):Prop:=
 ∀ pins s (σ:St) H x xs v us Q,Inv X pins σ H s->RelV x v->Vals xs us->r x xs H Q ->
  wpAny (model X.prog X.w) X.A (call (.builtin id)<|v::us) (EP X pins σ Q) X.xe s
section
variable {X:Cx}{a b:Expr}{ta tb:TE}{pos:Pos}
def IxR.or(h:IxR X r)(h':IxR X r'):IxR X (λx y H Q=>r x y H Q\/r' x y H Q):=by
 intro a slice b s σ H x y v u Q I c d q e;rcases q with q | q
 ·exact h a slice b s σ H x y v u Q I c d q e
 ·exact h' a slice b s σ H x y v u Q I c d q e
def jnS(d:IxR X r)(e:PE X a ta)(f:PE X b tb)(g:KS b):PE X (.Subscript a b pos) (tOp r ta tb):=by
 intro c s σ H Q I h;exact Subscript_<|jot e f I h λv u s2 x y i j k l q=>d a b c s2 σ i x y v u Q j k l q<|g _ _
def jn0(K:W4):R2:=λx y H Q=>∃ p xs i v,x=.ref p/\y=.int i/\SqL K H p xs/\atI xs i=some v/\Q v H
def jp9(K:W4):R2:=λx y H Q=>∃ p xs i v,x=.ref p/\y=.int i/\SqT K H p xs/\atI xs i=some v/\Q v H
def jqd:R2:=λx y H Q=>∃ z i c,x=.str z/\y=.int i/\z.length<=sizeLine/\atI z.cps.toList i=some c/\Q (.str ⟨#[c]⟩) H
def ix_list:IxR X (jn0 X.K):=by
 intro d slice a s σ H x y v u Q I n o h k;obtain⟨p,G,i,z,rfl,rfl,A,B,q⟩:=h;cases n;obtain⟨t,rfl⟩:=o;obtain⟨e,r,pl,J⟩:=I.list A;obtain⟨j,c,C,L,D,E⟩:=Qh B;obtain⟨w,l,f⟩:=r.get C;have F:=r.length;have M:=z6;have b:EP X a σ Q w s:=⟨z,H,I,f,q⟩;by_cases m:0<=i
 ·have g:i.toNat=j:=by
   rw[seqIndex_of m E] at c;exact X8 c
  exact item_listR pl.isList m ∅ (by rw[g];simpa using l) b k
 ·have g:(i+e.toArray.size).toNat=j:=by
   rw[seqIndex_neg ∅ D] at c;rw[N5,<- F];exact X8 c
  exact subscriptTail_builtinR pl.isList.typeIs slot_list_getitem.lookup
   (wpAny_getItem_list_neg pl.isList ∅ (by rw[N5]<;>lia) ∅ (by rw[g];simpa using l) ⟨rfl,b⟩) k
def ix_tup:IxR X (jp9 X.K):=by
 intro b slice a s σ H x y v u Q I e f h g;obtain⟨p,B,i,z,rfl,rfl,k,l,q⟩:=h;cases e;obtain⟨t,rfl⟩:=f;obtain⟨m,r,pl,C⟩:=I.tuple k;obtain⟨j,n,o,D,E,F⟩:=Qh l;obtain⟨w,A,c⟩:=r.get o;have G:=z6;have d:EP X a σ Q w s:=⟨z,H,I,c,q⟩;exact subscriptTail_builtinR pl.typeIs slot_tuple_getitem.lookup
  (getItem_tuple pl ∅ ∅ (by rw[N5,<- r.length];exact n) ⇑A ⟨rfl,d⟩) g
def jma:IxR X jqd:=by
 intro a slice b s σ H x y v u Q I e f h g;obtain⟨z,i,c,rfl,rfl,r,k,q⟩:=h;obtain⟨t,rfl⟩:=e;obtain⟨w,rfl⟩:=f;obtain⟨j,d,l,A,m,n⟩:=Qh k;have o:z.cps.toList.length=z.length:=by simp[Str.length]
 rw[o] at d m n;have B:=z6;exact tail_any (typeIs_str s z t) slot_str_getitem.lookup (getItem_str (by
  have p:decide (i < -(2 ^ 63:Int))=false:=X6 ∅;have e2:decide (i ≥ 2 ^ 63)=false:=X6 ∅;rw[p,e2,Bool.or_false]) (by rw[d];simpa using l) ⟨.str ⟨#[c]⟩,H,I.tok _,⟨_,rfl⟩,q⟩) g
def rIx(K:W4):R2:=λx y H Q=>jn0 K x y H Q\/jp9 K x y H Q\/jqd x y H Q
def jhq:IxR X (rIx X.K):=ix_list.or<|ix_tup.or jma
def jbb(its:List Value)(n j)(u):Obj.mapSeq (·.setIfInBounds j u) {cls:=.type "list",data:=.seq its.toArray n}={cls:=.type "list",data:=.seq (its.set j u).toArray n}:=by
 simp[Obj.mapSeq]
def Inv.lst(I:Inv X pins σ H s)(h:H p=some (.lst xs)):
  Ex2 λits n=>An3 (Vals xs its) (s.heap.get? p=some {cls:=.type "list",data:=.seq its.toArray n}) (xs.length<=sizeLine):=by
 obtain⟨z,its,n,r,e⟩:=I.hok p _ h;exact⟨its,n,r,e,z⟩
def Inv.lstUpd{pins}{s}{xs ys}{its a:List Value}{n c}{f}(I:Inv X pins σ H s)(h:H p=some (.lst xs))
  (g:s.heap.get? p=some {cls:=.type "list",data:=.seq its.toArray n}) (d:f {cls:=.type "list",data:=.seq its.toArray n}={cls:=.type "list",data:=.seq a.toArray c}) (r:Vals ys a) (i:ys.length<=sizeLine) (t:Nat):
  Inv X pins σ (upd H p<|.lst ys) {s with heap:=s.heap.update p f,toks:=t}:=by
 have e:(s.heap.update p f).get? p=some {cls:=.type "list",data:=.seq a.toArray c}:=by
  rw[Heap.get?_update_self f g<|by rw[d]<;>rfl,d]
 refine I.write (by rw[h];trivial) (.inl rfl) (λb u j q=>(Heap.get?_update_other _ _<|Ne.symm j).trans q) ⟨_,e⟩ ?_;exact⟨i,a,c,r,e⟩
def jeY:V->V->V->Hp->(Hp->Prop)->Prop:=λo i v H Q=>∃ p xs k j,o=.ref p/\i=.int k/\H p=some (.lst xs)/\ixN xs.length k=some j/\Q (upd H p<|.lst<|xs.set j v)
def uQ:jpr X jeY:=by
 intro a s σ H o i v E F u Q I y z A h;obtain⟨p,B,k,j,rfl,rfl,g,C,q⟩:=h;cases y;obtain⟨t,rfl⟩:=z;obtain⟨b,n,r,d,D⟩:=I.lst g;obtain⟨c,G,l,m⟩:=uh C;have e:=r.length;have J:=z6;have w:Inv X a σ (upd H p<|.lst<|B.set j v) {s with heap:=s.heap.update p (Obj.mapSeq (·.setIfInBounds j u))}:=
  I.lstUpd g d (jbb b n j u) (r.set A j) (by rw[List.length_set];exact D) s.toks
 by_cases x:0<=k
 ·have f:k.toNat=j:=by
   rw[seqIndex_of x m] at c;exact X8 c
  exact PySem.W.ki_setAt d x ∅ (by rw[N5,<- e];exact m) (by rw[f];exact⟨_,w,q⟩)
 ·have f:(k+b.toArray.size).toNat=j:=by
   rw[seqIndex_neg ∅ l] at c;rw[N5,<- e];exact X8 c
  exact PySem.W.ki_setBack d ∅ (by rw[N5,<- e];exact l) ∅ (by rw[f];exact⟨_,w,q⟩)
def zi(lo hi)(n):(sliceBounds lo hi none n).1=((HT.sIx n 0 lo:Nat):Int)/\(sliceBounds lo hi none n).2.1=((HT.sIx n n hi:Nat):Int)/\(sliceBounds lo hi none n).2.2=1:=by
 refine⟨?_,?_,rfl⟩
 ·cases lo with
  | none=>simp[sliceBounds,HT.sIx]
  | some i=>
   simp only[sliceBounds,HT.sIx,Option.getD_none,show 1>0 by decide,if_true];by_cases h:i<0
   ·simp only[h,if_true]<;>lia
   ·simp only[h,if_false]<;>lia
 ·cases hi with
  | none=>simp[sliceBounds,HT.sIx]
  | some i=>
   simp only[sliceBounds,HT.sIx,Option.getD_none,show 1>0 by decide,if_true];by_cases h:i<0
   ·simp only[h,if_true]<;>lia
   ·simp only[h,if_false]<;>lia
def Qd(its:List Value)(lo hi):slicePick its.toArray lo hi none=((its.drop<|HT.sIx its.length 0 lo).take (HT.sIx its.length its.length hi-HT.sIx its.length 0 lo)).toArray:=by
 obtain⟨a,b,c⟩:=zi lo hi its.toArray.size;unfold slicePick;rw[a,b,c];simp only[sliceRange_one,pick_run,N5]<;>rfl
def jqc(K:W4):V->Option Int->Option Int->Hp->VK->Prop:=λx lo hi H Q=>∃ a xs,x=.ref a/\SqL K H a xs/\∀ p,H p=none->Q (.ref p) (upd H p<|.lst<|jkY xs lo hi)
def jj8:SlR X (jqc X.K):=by
 intro e s σ H x v n o lo hi sl Q I g i pl j h;obtain⟨a,c,rfl,k,q⟩:=h;cases g;obtain⟨l,r,f,m⟩:=I.list k;have d:=r.length;refine⟨"list",_,slot_list_getitem.lookup,f.isList.typeIs,?_⟩;refine wpAny_getItem_list_slice f.isList i pl j .none (by simp) ?_ (by rw[N5]<;>lia);rw[Qd,<- d];refine⟨.ref ↥s,_,I.laid (λb ob q=>L8 _ q) (N1 _) ?_,rfl,q _<|I.hok.fresh<|N1 _⟩;exact⟨N9 (Vl c lo hi) m,_,0,(r.drop<|HT.sIx c.length 0 lo).take (HT.sIx c.length c.length hi-HT.sIx c.length 0 lo),E3 _ rfl⟩
noncomputable def Vg:V->Bool
 | .non=>true
 | .bl _=>true
 | .int _=>true
 | .str _=>true
 | _=>false
noncomputable def eqV:V->V->Bool
 | .non,.non=>true
 | .bl a,.bl b=>a==b
 | .bl a,.int b=>(if a then 1 else 0)==b
 | .int a,.bl b=>a==(if b then 1 else 0)
 | .int a,.int b=>a==b
 | .str a,.str b=>a==b
 | _,_=>false
def jmu(e:RelV y u)(c:RelV x v)(g:Vg y=true)(f:Vg x=true):SeqAt.EqAt A s u v (eqV y x):=by
 cases y with
 | non=>
  cases e;cases x with
  | non=>cases c;exact SeqAt.EqAt.same _
  | bl b=>cases c;exact SeqAt.EqAt.none_bool b
  | int b=>obtain⟨t,rfl⟩:=c;exact SeqAt.EqAt.none_int b t
  | str b=>obtain⟨t,rfl⟩:=c;exact SeqAt.EqAt.none_str b t
  | _=>exact absurd (f) M4
 | bl a=>
  cases e;cases x with
  | non=>cases c;exact SeqAt.EqAt.bool_none a
  | bl b=>cases c;exact SeqAt.EqAt.bool_bool a b
  | int b=>obtain⟨t,rfl⟩:=c;exact SeqAt.EqAt.bool_int a b t
  | str b=>obtain⟨t,rfl⟩:=c;exact SeqAt.EqAt.bool_str a b t
  | _=>exact absurd (f) M4
 | int a=>
  obtain⟨d,rfl⟩:=e;cases x with
  | non=>cases c;exact SeqAt.EqAt.int_none a d
  | bl b=>cases c;exact SeqAt.EqAt.int_bool a d b
  | int b=>obtain⟨t,rfl⟩:=c;exact SeqAt.EqAt.int_int a d b t
  | str b=>obtain⟨t,rfl⟩:=c;exact SeqAt.EqAt.int_str a d b t
  | _=>exact absurd (f) M4
 | str a=>
  obtain⟨d,rfl⟩:=e;cases x with
  | non=>cases c;exact SeqAt.EqAt.str_none a d
  | bl b=>cases c;exact SeqAt.EqAt.str_bool a d b
  | int b=>obtain⟨t,rfl⟩:=c;exact SeqAt.EqAt.str_int a d b t
  | str b=>obtain⟨t,rfl⟩:=c;exact SeqAt.EqAt.str_str a d b t
  | _=>exact absurd (f) M4
 | _=>exact absurd (g) M4
def eqU(x:V)(u:Value):Bool:=match u with
 | .none=>eqV .non x
 | .bool b=>eqV (.bl b) x
 | .int i _=>eqV (.int i) x
 | .str z _=>eqV (.str z) x
 | _=>false
def jhs(r:RelV y u)(f:Vg y=true):eqU x u=eqV y x:=by
 cases y with
 | non=>cases r;rfl
 | bl b=>cases r;rfl
 | int i=>obtain⟨t,rfl⟩:=r;rfl
 | str z=>obtain⟨t,rfl⟩:=r;rfl
 | _=>exact absurd (f) M4
theorem VX:∀{xs}{us},Vals xs us->xs.all Vg=true->us.any (eqU x)=xs.any λy=>eqV y x
 | _,_,.nil,_=>rfl
 | y::xs,u::us,.cons r t,f=>by
  rw[List.all_cons,M0] at f;rw[List.any_cons,List.any_cons,jhs r f.1,VX t f.2]
theorem JX(b:RelV x v)(c:Vg x=true):∀{xs}{us},Vals xs us->xs.all Vg=true->∀ u∈us,SeqAt.EqAt A s u v<|eqU x u
 | _,_,.nil,_=>λu a=>by cases a
 | y::xs,u::us,.cons r t,f=>λd a=>by
  rw[List.all_cons,M0] at f;rcases M5.mp a with rfl | a
  ·rw[jhs r f.1];exact jmu r b f.1 c
  ·exact JX b c t f.2 d a
def inV(x:V)(xs:List V):Bool:=xs.any λy=>eqV y x
def rIn(K:W4)(neg:Bool):R2:=λx y H Q=>∃ p xs,y=.ref p/\(SqL K H p xs\/SqT K H p xs)/\Vg x=true/\xs.all Vg=true/\Q (.bl<|if neg then !inV x xs else inV x xs) H
def jeS:OpR X (compareOp .In) (rIn X.K false):=by
 intro d s σ H x y v u Q I e g h;obtain⟨p,j,rfl,b,f,fs,q⟩:=h;cases g;rcases b with b | b
 ·obtain⟨a,r,pl,i⟩:=I.list b;refine SeqAt.in_listAt (eqU x) pl.isList (λw c=>JX e f r fs w ⇑c) ⟨.bl _,H,I,rfl,?_⟩;rw[show a.toArray.any (eqU x)=a.any (eqU x) by simp,VX r fs];exact q
 ·obtain⟨a,r,pl,i⟩:=I.tuple b;refine SeqAt.in_tupleAt (eqU x) pl (λw c=>JX e f r fs w ⇑c) ⟨.bl _,H,I,rfl,?_⟩;rw[show a.toArray.any (eqU x)=a.any (eqU x) by simp,VX r fs];exact q
def xp:OpR X (compareOp .NotIn) (rIn X.K true):=by
 intro d s σ H x y v u Q I e g h;obtain⟨p,j,rfl,b,f,fs,q⟩:=h;cases g;rcases b with b | b
 ·obtain⟨a,r,pl,i⟩:=I.list b;refine SeqAt.notIn_listAt (eqU x) pl.isList (λw c=>JX e f r fs w ⇑c) ⟨.bl _,H,I,rfl,?_⟩;rw[show a.toArray.any (eqU x)=a.any (eqU x) by simp,VX r fs];exact q
 ·obtain⟨a,r,pl,i⟩:=I.tuple b;refine SeqAt.notIn_tupleAt (eqU x) pl (λw c=>JX e f r fs w ⇑c) ⟨.bl _,H,I,rfl,?_⟩;rw[show a.toArray.any (eqU x)=a.any (eqU x) by simp,VX r fs];exact q
def xn:kR X (.type "list") (λxs H Q=>∃ p ys,xs=[.ref p]/\(SqL X.K H p ys\/SqT X.K H p ys)/\∀ l,H l=none->Q (.ref l) (upd H l<|.lst ys)):=by
 intro d s σ H xs z Q I r h;obtain⟨p,ys,rfl,f,q⟩:=h;obtain⟨u,rfl,y⟩:=jks r;cases y;have g:∀ a,Vals ys a->ys.length<=sizeLine->∀ i m,(∀ b x,s.heap.get? b=some x->i.get? b=some x) ->
   i.get? ↥s=some {cls:=.type "list",dict:=none,data:=.seq a.toArray m,slots:=#[]}->EP X d σ Q (.ref ↥s) {s with heap:=i}:=λa c j i m kp e=>
  ⟨.ref ↥s,_,I.laid kp (N1 _)<|show ObjOk X.prog X.w _ i _ (.lst ys) from⟨j,a,m,c,e⟩,rfl,q _<|I.hok.fresh<|N1 _⟩
 rcases f with f | f
 ·obtain⟨a,c,pl,j⟩:=I.list f;have k:=c.length;obtain⟨o,t,v,n,hd⟩:=pl.isList;exact call_list_seq p (.inl rfl) t v hd (g a c j) (by simp only[N5]<;>lia)
 ·obtain⟨a,c,pl,j⟩:=I.tuple f;have k:=c.length;obtain⟨o,t,v,n,hd⟩:=pl;exact call_list_seq p (.inr rfl) t v hd (g a c j) (by simp only[N5]<;>lia)
def Qb:kR X (.type "tuple") (λxs H Q=>∃ p ys,xs=[.ref p]/\((SqL X.K H p ys/\∀ l,H l=none->Q (.ref l) (upd H l<|.tup ys))\/(SqT X.K H p ys/\Q (.ref p) H))):=by
 intro a s σ H xs t Q I r h;obtain⟨p,ys,rfl,h⟩:=h;obtain⟨u,rfl,m⟩:=jks r;cases m;rcases h with⟨f,q⟩ | ⟨f,q⟩
 ·obtain⟨c,g,pl,i⟩:=I.list f;have j:=g.length;refine call_tuple_list pl.isList (λd kp=>?_) (by simp only[N5]<;>lia);have k:Inv X a σ H {s with heap:=d}:=I.kept kp;have n:Inv X a σ (upd H d.objs.size<|.tup ys) { s with heap:=d.push {cls:=.type "tuple",data:=.seq c.toArray} }:=
   k.laid (λb o e=>L8 _ e) (N1 _) (⟨i,c,g,IsTupN.new _ _⟩)
  exact⟨.ref d.objs.size,_,n,rfl,q _<|k.hok.fresh<|N1 _⟩
 ·obtain⟨c,g,pl,i⟩:=I.tuple f;exact call_tuple_same pl ⟨.ref p,H,I,rfl,q⟩
def tyV(K:W4)(T:String)(x:V)(H:Hp):Prop:=match x with
 | .str _=>T = "str"
 | .int _=>T = "int"
 | .ref p=>(T = "list"/\∃ xs,SqL K H p xs)\/(T = "tuple"/\∃ o,K.lookup p=some o/\o.cls=.type "tuple"/\o.dict=none) \/
   (T = "dict"/\((∃ kvs,H p=some (.dK kvs)) \/ ∃ kvs,H p=some (.dT kvs)))\/(T = "set"/\∃ S n,H p=some (.set S n))
 | _=>False
def jnn(I:Inv X pins σ H s)(r:RelV x v)(ty:tyV X.K T x H):
  s.TypeIs v T/\∀ a,v=.ref a->∃ ob,s.heap.get? a=some ob/\ob.dict=none:=by
 cases x with
 | str z=>
  obtain⟨t,rfl⟩:=r;cases(ty);exact⟨typeIs_str s z t,λ_ e=>nomatch e⟩
 | int i=>
  obtain⟨t,rfl⟩:=r;cases(ty);exact⟨typeIs_int s i t,λ_ e=>nomatch e⟩
 | ref p=>
  cases r;rcases ty with⟨rfl,j,f⟩ | ⟨rfl,o,b,g,hd⟩ | ⟨rfl,b⟩ | ⟨rfl,S,n,b⟩
  ·obtain⟨h,_,pl,_⟩:=I.list f;refine⟨pl.isList.typeIs,λa e=>?_⟩;cases e;obtain⟨o,n,e,c,hd,_⟩:=pl;exact⟨o,e,hd⟩
  ·refine⟨⟨o,I.kIn p o b,g⟩,λa e=>?_⟩;cases e;exact⟨o,I.kIn _ o b,hd⟩
  ·have z:∃ o,s.heap.get? p=some o/\o.ExactDict:=by
    rcases b with⟨d,b⟩ | ⟨d,b⟩
    ·obtain⟨_,_,_,_,o,_,_,e,ex,_⟩:=I.hok p _ b;exact⟨o,e,ex⟩
    ·obtain⟨_,_,_,_,o,_,_,e,ex,_⟩:=I.hok p _ b;exact⟨o,e,ex⟩
   obtain⟨o,e,ex⟩:=z;refine⟨⟨o,e,ex.1⟩,λa e2=>?_⟩;cases e2;exact⟨o,e,ex.2.1⟩
  ·obtain⟨o,_,_,_,e,ex,_⟩:=I.hok p _ b;refine⟨⟨o,e,ex.1⟩,λa e2=>?_⟩;cases e2;exact⟨o,e,ex.2.1⟩
 | _=>exact False.elim ty
def tBM(K:W4)(T:String)(r:V->List V->Hp->VK->Prop)(to:TE)(t:TA):TE:=λσ H Q=>to σ H λx H1=>tyV K T x H1/\t σ H1 λxs H2=>r x xs H2 Q
variable {o e:Expr}{es:List Expr}{to:TE}{t:TA}{name:Str}{apos cpos:Pos}{T id:String}{r:V->List V->Hp->VK->Prop}
def jb8(pa:PlainAttrs T)(slot:Slot T name id)(g:typeOf (.builtin id)=pure (.type "method_descriptor"))(k:MtR X id r)(l:PE X o to)(m:PA X (e::es) t)
  (c:attributeBase o name X.env (eval o X.env)=eval o X.env:=by rfl)
  (f:((backTo cpos<|starEach (e::es) X.env).all (λx=>!x.1)&&(backToKw cpos<|keywordEach [] X.env).all (λx=>x.1.isSome)
   && decide ((e::es).length+([]:List Keyword).length+(if([]:List Keyword).isEmpty then 0 else 1)<30))=true:=by rfl)
  (d:(apos.endLine==cpos.line)=true:=by rfl) (n:SEq X e es:=by rfl) (b:BkE X cpos es:=by rfl):
  PE X (.Call (.Attribute o name apos) (e::es) [] cpos) (tBM X.K T r to t):=by
 intro a s σ H Q I h;refine wpAny_Call_method_late c f d rfl<|thn (l a s σ H _ I h) λv s1 p=>?_;obtain⟨x,q,i,r1,ty,u⟩:=p;obtain⟨w,y⟩:=jnn i r1 ty;refine⟨T,id,pa,slot,g,w,y,?_⟩;have j:=m cpos a s1 σ q _ i u;rw[n] at j ⊢;refine Calls.callWith_builtin (by show(false||(backTo cpos<|starEach es X.env).any (·.1))=false;rw[b]<;>rfl)<|Calls.evalArgs_plain ?_;exact thn j λz s2 ⟨vs,A,B,r2,C⟩=>k a s2 σ A x vs v z Q B r1 r2 C
end
def MtM(X:Cx)(id:String)(r:V->List V->Hp->VK->Prop):Prop:=
 ∀ pins s (σ:St) H x xs v us Q,Inv X pins σ H s->RelV x v->Vals xs us->r x xs H Q ->
  wpAny (model X.prog X.w) X.A (call (.builtin id)<|v::us) (EP X pins σ Q) X.xe s
def Vals.one(h:Vals [x] us):∃ u,us=[u]/\RelV x u:=by
 cases h with | cons r t=>cases t;exact⟨_,rfl,r⟩
def Vals.two(h:Vals [x,y] us):Ex2 λu v=>An3 (us=[u,v]) (RelV x u) (RelV y v):=by
 cases h with | cons r t=>cases t with | cons q t=>cases t;exact⟨_,_,rfl,r,q⟩
section
variable {X:Cx}{pins:List (Addr×Obj)}{σ:St}{H:Hp}{s:Shared}{l b:Addr}{xs ys zs:List V}
def Inv.lset{its a:List Value}{n}{f}{t'}(I:Inv X pins σ H s)(b:H l=some (.lst xs))
  (e:s.heap.get? l=some {cls:=.type "list",data:=.seq its.toArray n}) (c:f its.toArray=a.toArray) (d:Vals ys a) (g:ys.length<=sizeLine):
  Inv X pins σ (upd H l<|.lst ys) {s with heap:=s.heap.update l<|Obj.mapSeq f,toks:=t'}:=by
 have q:=PySem.IsL.update e f;rw[c] at q;refine I.write (by rw[b];exact trivial) (.inl rfl) (λb' u h i=>(Heap.get?_update_other s.heap (Obj.mapSeq f)<|Ne.symm h).trans i) ⟨_,q⟩ ?_;exact⟨g,a,_,d,q⟩
def Inv.lnew(I:Inv X pins σ H s)(a:Vals ys its)(b:ys.length<=sizeLine):
  Inv X pins σ (upd H ↥s (.lst ys)) { s with heap:=s.heap.push {cls:=.type "list",data:=.seq its.toArray},toks:=t' }:=
 I.laid (λ_ _ q=>L8 _ q) (N1 _) ⟨b,its,0,a,E3 _ rfl⟩
def Inv.fresh(I:Inv X pins σ H s):H ↥s=none:=I.hok.fresh<|N1 _
def Inv.lstM(I:Inv X pins σ H s)(a:H l=some (.lst xs)):xs.length<=sizeLine/\∃ its n,Vals xs its/\xs.length=its.length/\s.heap.get? l=some {cls:=.type "list",data:=.seq its.toArray n}:=by
 obtain⟨z,its,n,r,e⟩:=I.hok l _ a;exact⟨z,its,n,r,r.length,e⟩
def jab(h:n<=sizeLine):Builtin.List.listTooLong n=false:=by
 exact X6 ∅
end
section
variable {X:Cx}
def Jy:V->List V->Hp->VK->Prop:=λx vs H Q=>∃ l xs y,x=.ref l/\vs=[y]/\H l=some (.lst xs)/\xs.length<sizeLine/\Q .non (upd H l<|.lst<|xs++[y])
def J5:MtM X "list.append" Jy:=by
 intro b s σ H x vs v i Q I d f h;obtain⟨l,j,y,rfl,rfl,c,k,q⟩:=h;cases d;obtain⟨u,rfl,g⟩:=f.one;obtain⟨z,a,n,r,m,e⟩:=I.lstM c;refine call_meets F.slot_list_append ⟨_,e,rfl⟩ F.entry_list_append (F.args_list_append_2 _ _) (PySem.list_append l a.toArray n u<|by rw[N5];lia) ⟨e,?_⟩;refine⟨.non,_,I.lset c e (by simp) (r.append<|.cons g .nil) ?_,rfl,q⟩;rw[N6,List.length_singleton]
 lia
end
end L2
namespace Att
open PySem PySem.W PySem.Calls PyProof.Rows
def Vs:∀ ns vs,WellAll P h vs (ns.map WData.int)->IntsAre vs ns:=by
 intro ns
 induction ns with
 | nil=>
  intro vs w;cases w;exact .nil
 | cons n ns c=>
  intro vs w;cases w with
  | cons a b=>
   cases a;exact .cons _ _<|c _ b
def script_of{l:OpenLaw}{n}(m:l.most=some n)  {h}{b}{c}
  (e:l.row.toRowW.claim.pre b=true) (j:WellAll P h c b):
  ∃ a vs ns,c=[Value.ref a]/\b=[WData.list<|ns.map WData.int]/\h.get? a=some {cls:=.type "list",data:=.seq vs.toArray}/\IntsAre vs ns/\ns.length<=n:=by
 obtain⟨d,r,rfl,o,p⟩:=hasAllW_cons<|(pre_splitW e).1;obtain rfl:=hasAllW_nil p;obtain⟨u,rfl,s⟩:=hasW_list o;obtain⟨ns,rfl⟩:=items_int s;have f:ns.length<=n:=by
  have i:(WTm.not<|.lt (.lit<|.int n)<|.len<|.arg 0).holds [] {args:=[.list<|ns.map .int]}=true:=by
   have i:=(holds_andW<|(pre_splitW e).2).1;rw[m] at i;exact i
  have k:=condW_of i<|w_not<|w_lt w_lit<|w_len_list<|w_arg rfl;refine Nat.le_of_not_lt λq=>?_
  first
   | (rw[X5 q'] at k;exact absurd k (by decide))
   | (simp at k;lia)
 cases j with
 | cons w1 w2=>
  cases w2;cases w1 with
  | list t g=>exact⟨_,_,ns,rfl,rfl,t,Vs ns _ g,f⟩
def post_true(l:OpenLaw)(a):l.row.toRowW.claim.post a (.bool true) a=true:=
 postW_of
  (by first | rfl | decide | simp[WShape.has,WShape.arms,WShape.armsAll])
  (w_eq_bool (w_res rfl) w_lit) rfl
end Att
namespace L2
open PySem PySem.Spec PyProof.Rows
theorem xG:∀{vs}{ns},IntsAre vs ns->Vals (ns.map V.int) vs
 | _,_,.nil=>.nil
 | _,_,.cons n t h=>.cons ⟨t,rfl⟩<|xG h
def jpq(H:Hp):Prop:=∀ b,H b=none \/ ∃ o xs,H b=some (.frz o<|.lst xs)
def jfg{P}{w}{K}{mg E}{CX}{k}{fa a}{fd}{x}{sp}{c}{vs}{ns}
  (N:K.In c.heap) (n:c.heap.Ns mainGlobals mg) (g:c.heap.Ns builtinsNs E) (G:∀ x:Str,x≠"__name__"->E x=bootBuiltins x) (p:c.heap.NoLimit) (U:c.gens = #[])
  (B:c.heap.get? a=some {cls:=.type "list",data:=.seq vs.toArray}) (hi:IntsAre vs ns) (O:ns.length<=sizeLine) (W:Room k callerA)
  (F:∀ base:Heap,K.In base->base.Ns mainGlobals mg->FnOk P w K mg base CX k fa fd [x] sp) (l:∀ s u,BindsTo s fd ⟨[u],[]⟩ [(x,u)])
  (I:∀ H:Hp,jpq H->SqL K H a (ns.map V.int)->sp [.ref a] H (λv _=>v=.bl true) λ_ _ _=>False)
  (J:∀ H e s',CX [] H c (λ_ _ _=>False) e s'->False):
  codeAny (model P w) callerA (.call (.ref fa) ⟨[.ref a],[]⟩) (λr s'=>r=.ok (.ret<|.bool true)/\OldK c.heap s'.heap/\s'.os=c.os/\AllBare s'.gens) c:=by
 have Q:=xG hi;have j:∀ H:Hp,jpq H->SqL K H a (ns.map V.int)->HOk P w H c.heap->(∀ b,H b≠none->b=a)->(H a≠none->K.lookup a=none) ->
   codeAny (model P w) callerA (.call (.ref fa) ⟨[.ref a],[]⟩) (λr s'=>r=.ok (.ret<|.bool true)/\OldK c.heap s'.heap/\s'.os=c.os/\AllBare s'.gens) c:=by
  intro H R X hok S Y;have f:∀{b}{o},c.heap.get? b=some o->H b=none->(jhM c.heap H).get? b=some o:=jfV;have L:∀{b}{o}{C}{D},c.heap.get? b=some o->o.data=.dict C D->H b=none:=λ{b o C D} e d=>by
   cases q:H b with
   | none=>rfl
   | some u=>
    have M:=S b (by rw[q];simp);subst M;rw[B] at e;cases e;cases d
  have i:∀{b}{m},c.heap.Ns b m->(jhM c.heap H).Ns b m:=λ{b m} ⟨o,C,D,e,d,r⟩=>⟨o,C,D,f e<|L e d,d,r⟩;have t:=λb o e=>f (N b o e) (by
   cases q:H b with
   | none=>rfl
   | some u=>
    have M:=S b (by rw[q];simp);subst M;rw[Y<|by rw[q];simp] at e;cases e)
  have Z:Mod K mg (jhM c.heap H):=⟨t,i n,⟨E,i g,G⟩,let ⟨mc,h1,h2⟩:=p;⟨mc,i h1,h2⟩⟩;have e0:Env0 P w K mg (jhM c.heap H) callerA [] c H:=⟨rfl,Z,λb o e=>jjk e,Nat.le_of_eq<|jej _ _,trivial,λb g=>absurd (show b∈([]:W5) from g)<|by simp,hok,.of_eq U⟩;refine codeAny_mono ((F _ t<|i n).run callerA [] c H ⟨[.ref a],[]⟩ [.ref a] [.ref a] _ _ W e0 (l c<|.ref a) (.cons rfl .nil) (I H R X)) λr s' h=>?_;cases r with
  | error e=>exact(J H e s' h).elim
  | ok fl=>
   cases fl with
   | next=>exact False.elim h
   | brk=>exact False.elim h
   | cont=>exact False.elim h
   | ret u=>
    obtain⟨v,H',os,bare,un,y,r',q⟩:=h;subst q;obtain rfl:u=Value.bool true:=r';refine⟨rfl,OldK.of_keep λb o e=>?_,os,bare⟩;cases q:H b with
    | none=>exact un.keep b o e q (by intro z;exact absurd (show b∈([]:W5) from z)<|by simp) (by simp)
    | some u=>
     rcases R b with z | ⟨ob,xs,z⟩
     ·rw[q] at z;cases z
     ·have z2:=un.frzs b ob _ z;obtain⟨T,_⟩:=hok b _ z;obtain⟨e2,_⟩:=y b _ z2;rw[e] at T;cases T;exact e2
 cases hk:K.lookup a with
 | some o=>
  have e:=N a o hk;rw[B] at e;cases e;refine j (λ_=>none) (λ_=>.inl rfl) (.inr ⟨_,vs.toArray,_,hk,rfl,rfl,rfl,by rw[N5,hi.length];exact O,by simpa using Q⟩) (λb u z=>by have A:=z;cases A) (λb z=>absurd rfl z)<|absurd rfl
 | none=>
  refine j (λb=>if b=a then some (.frz {cls:=.type "list",data:=.seq vs.toArray} (.lst<|ns.map V.int)) else none) (λb=>?_) (.inl<|.inr ⟨{cls:=.type "list",data:=.seq vs.toArray},if_pos rfl⟩) (λb u z=>?_) (λb z=>?_) λ_=>hk
  ·by_cases g:b=a
   ·exact .inr ⟨_,_,if_pos g⟩
   ·exact .inl<|if_neg g
  ·by_cases g:b=a
   ·have A:=(if_pos g).symm.trans z;cases A;subst g;exact⟨B,by rw[L1];exact O,vs,_,Q,B⟩
   ·have A:=(if_neg g).symm.trans z;cases A
  ·by_cases g:b=a
   ·exact g
   ·exact absurd (if_neg g) z
noncomputable def qL(s:Stmt)(j:Nat):Stmt:=match s with
 | .ClassDef _ _ _ body _ _ _ _ _ _ _=>body.getD j<|.Pass ⟨0,0,0,0⟩
 | _=>.Pass ⟨0,0,0,0⟩
noncomputable def qA(s:Stmt):Arguments:=match s with
 | .FunctionDef _ a _ _ _ _ _ _ _ _=>a
 | _=>{posonlyargs:=[],args:=[],vararg:=none,kwonlyargs:=[],kw_defaults:=[],kwarg:=none,defaults:=[]}
noncomputable def vT(s:Stmt):List Stmt:=match s with
 | .FunctionDef _ _ b _ _ _ _ _ _ _=>b
 | _=>[]
noncomputable def jD(s:Stmt):Scope:=match s with
 | .FunctionDef _ _ _ _ _ _ sc _ _ _=>sc
 | _=>{kind:=.function,names:=[],isGenerator:=false,isCoroutine:=false}
noncomputable abbrev CX0:CXT:=λ_ _ _ _ _ _=>False
noncomputable abbrev E0:XK:=λ_ _ _=>False
def jcA:VU CX0 X E0:=λ_ _ _ _ _ _ _ h=>h.elim
structure Fun(K:W4)(x qual:Str)(st:Stmt)(f:Addr)(fd:FuncData):Prop where
 ex:∃(oc:Value) (od:Option Addr) (kV doc pm:Value) (an:Option Addr) (cdv ct:Value) (osl:Array<|Option Value),
  fd=PySem.W.fnOf x qual (qA st) (vT st) (jD st) .none kV doc pm an cdv ct/\K.lookup f=some ⟨oc,od,.func fd,osl⟩/\PySem.W.codeIn K cdv qual=true
 kp:PySem.W.keepIn K (.ref f)=true
section
variable {P:Program}{w:World}{K:W4}{mg:W6}{base:Heap}
def Fun.ok{x qual}{st}{f}{fd}{N ps}{k}{sp}(F:Fun K x qual st f fd)(S:FnScope N ps<|jD st)(len:∀ vs H Q E,sp vs H Q E->vs.length=ps.length)
  (a:∀ cdv A outer s H vs Q E,Room k (A.deeper<|envOfC qual (jD st) ↥s f cdv)->sp vs H Q E ->
   ∃ t,PSs (jhK CX0 P w K mg base N qual (jD st) f cdv A outer s H E).nox (vT st) t/\t {nx:=λ_ H'=>Q .non H',rt:=Q} (start N vs) H):FnOk P w K mg base CX0 (k+1) f fd ps sp:=by
 obtain⟨oc,od,kV,d,j,l,cdv,ct,e,rfl,g,b⟩:=F.ex;refine jpX g b S len λA outer s H vs Q E i c=>?_;obtain⟨t,h,q⟩:=a cdv A outer s H vs Q E i c;exact⟨t,h.nox,q⟩
def Fun.binds{x qual}{st}{f}{fd}{ps}(F:Fun K x qual st f fd)
  (h:∀ kV doc pm an cdv ct us,us.length=ps.length->bindArgs (PySem.W.fnOf x qual (qA st) (vT st) (jD st) .none kV doc pm an cdv ct) ⟨us,[]⟩=pure (ps.zip us)):Binds K fd ps []:=by
 obtain⟨oc,od,kV,doc,pm,an,cdv,ct,a,rfl,c,b⟩:=F.ex;exact .all<|h kV doc pm an cdv ct
def jay{x qual}{st}{f}{oc}{od an}{d}{kV b pm a ct}(l:K.lookup f=some ⟨oc,od,.func<|PySem.W.fnOf x qual (qA st) (vT st) (jD st) .none kV b pm an a ct,d⟩)
  (c:PySem.W.codeIn K a qual=true) (k:PySem.W.keepIn K (.ref f)=true):Fun K x qual st f (PySem.W.fnOf x qual (qA st) (vT st) (jD st) .none kV b pm an a ct):=⟨⟨oc,od,kV,b,pm,an,a,ct,d,rfl,l,c⟩,k⟩
end
def YB(a:Room k A):A.units+1<cLine:=E4 (Nat.add_le_add_left (by decide:1<=64) _) a.units
def jcv(h:n<=1000):n<sizeLine:=E4 h (by decide)
def jfL{A B:Prop}(h:B):if false=true then A else B:=by
 exact h
def je1{A B:Prop}(h:A):if true=true then A else B:=by
 exact h
def zw(I:Nat->Shared->Prop)
  (turn:∀ n s,I n s->wpAny (model prog w) A (pyNext it) (λr s₁=>match r with
   | none=>R (.ok .next) s₁
   | some v=>wpAny (model prog w) A (letOwnedTupleGo target it v) (λ_ s₁'=>wpAny (model prog w) A (assign target env v) (λ_ s₂=>
     wpAny (model prog w) A (forIn ifs true λc r=>if r=true then do let ok <- isTrue c env (eval c env);pure (ForInStep.yield ok) else pure (ForInStep.yield r)) (λok s₃=>
      if ok=true then wpAny (model prog w) A (eval elt env) (λx s₄=>
       wpAny (model prog w) A (call (.builtin "list.append") [acc,x]) (λ_ s₅=>∃ m,m<n/\I m s₅) (λ_ _=>False) s₄) (λ_ _=>False) s₃
      else ∃ m,m<n/\I m s₃) (λ_ _=>False) s₂) (λ_ _=>False) s₁') (λ_ _=>False) s₁) (λ_ _=>False) s)
  (n:Nat) (h:I n s):
  codeAny (model prog w) A (.compLoop (.ListComp elt [⟨target,iter,ifs,0⟩] scope pos) 0 it acc env) R s:=by
 have up:∀{α}{t}{Q:α->Shared->Prop}{E:J0}{s},wpAny (model prog w) A t Q (λ_ _=>False) s->wpAny (model prog w) A t Q E s:=
  λh=>wpAny_mono h (λ_ _ x=>x) λ_ _ z=>z.elim
 refine codeAny_loop rfl I (λn s e=>(wpAny_noted<|L3<|wpAny_standAt<|L3<|thn (up<|turn n s e) λr s₁ b=>?_)) n h;cases r with
 | none=>exact M8 b
 | some v=>
  refine L3<|thn (up b) λ_ s₁' a=>L3<|thn (up a) λ_ s₂ f=>L3<|thn (up f) λok s₃ d=>?_;cases ok with
  | false=>exact M8 ⟨rfl,d⟩
  | true=>
   exact L3<|L3<|thn (up d) λx s₄ g=>L3<|thn (up g) λ_ s₅ i=>M8<|M8 ⟨rfl,i⟩
noncomputable def jgs(env:Env):List (Str×NameKind)->List (Str×Addr)->List (Str×Addr)
 | [],cs=>cs
 | (n,k)::r,cs=>jgs env r (if k==NameKind.free then(match env.cells.lookup n with | some a=>(n,a)::cs | none=>cs) else cs)
def wg(scope:Scope)(env:Env):List (Str×Addr):=jgs env scope.names []
theorem jiA:∀ l cs,(∀ n k,(n,k)∈l->k=NameKind.free->∃ c,env.cells.lookup n=some c) ->
  (forIn (m:=Sem) l cs λx r=>match x with | (n,k)=>if k==NameKind.free then do let a <- cellOf env n;pure (ForInStep.yield<|(n,a)::r) else pure (ForInStep.yield r))=pure (jgs env l cs)
 | [],cs,_=>rfl
 | (n,k)::r,cs,h=>by
  rw[List.forIn_cons];by_cases b:(k==NameKind.free)=true
  ·obtain⟨c,j⟩:=h n k L7 ∅;have o:cellOf env n=pure c:=by unfold cellOf;rw[j]
   have d:=jiA r ((n,c)::cs) λe f g i=>h e f (L6 _ g) i;simp only[b,if_true,o,pure_bind];rw[d]
   conv=>rhs;unfold jgs
   simp only[b,if_true,j]
  ·have d:=jiA r cs λe f g i=>h e f (L6 _ g) i;simp only[b,if_false,pure_bind,Bool.false_eq_true];rw[d]
   conv=>rhs;unfold jgs
   simp only[b,if_false,Bool.false_eq_true]
def jbt(h:∀ n k,(n,k)∈scope.names->k=NameKind.free->∃ c,env.cells.lookup n=some c):closureFor scope env=pure (wg scope env):=by
 unfold closureFor wg;show(forIn scope.names [] λx r=>match x with | (n,k)=>if k==NameKind.free then do let a <- cellOf env n;pure (ForInStep.yield<|(n,a)::r) else pure (ForInStep.yield r)) >>= (pure)=_;rw[jiA scope.names [] h,pure_bind]
theorem jhf:∀ l cs,(x,c)∈jgs env l cs->(x,c)∈cs\/env.cells.lookup x=some c
 | [],_,h=>.inl h
 | (n,k)::r,cs,h=>by
  rcases jhf r _ h with z | z
  ·grind
  ·lia
theorem jeX:∀ l cs,(x,c)∈cs->(x,c)∈jgs env l cs
 | [],_,h=>h
 | (n,k)::r,cs,h=>by
  refine jeX r _ ?_;split
  ·split
   ·exact L6 _ h
   ·exact h
  ·exact h
theorem jhF(a:env.cells.lookup x=some c):∀ l cs,(x,NameKind.free)∈l->(x,c)∈jgs env l cs
 | [],_,h=>nomatch h
 | (n,k)::r,cs,h=>by
  rcases M5.mp h with e | e
  ·cases e;refine jeX r _ ?_;simp only[ a];exact L7
  ·exact jhF a r _ e
theorem J6:∀{l:List (Str×β)}{c},(x,c)∈l->∃ d,l.lookup x=some d
 | (n,a)::r,c,h=>by
  rw[List.lookup_cons];cases e:x==n with
  | true=>exact⟨a,rfl⟩
  | false=>
   rcases M5.mp h with z | z
   ·lia
   ·exact J6 z
def VL(h:(wg scope env).lookup x=some c):env.cells.lookup x=some c:=by
 rcases jhf scope.names [] (PySem.mem_of_lookup h) with z | z
 ·exact nomatch z
 ·exact z
def jdZ(a:env.cells.lookup x=some c)(f:(x,NameKind.free)∈scope.names):(wg scope env).lookup x=some c:=by
 obtain⟨d,e⟩:=J6<|jhF a scope.names [] f;have b:(wg scope env).lookup x=some d:=e;rw[b,<- VL b,a]
def Jv(h:(n,k)∈(relabel scope env).names):(n,k)∈scope.names\/(k=.cell/\(n,NameKind.free)∈scope.names):=by
 obtain⟨⟨a,b⟩,c,e⟩:=M7.mp h;dsimp only at e;split at e
 ·lia
 ·lia
def kB(scope:Scope)(env:Env)(C:Addr):List (Str×Addr):=cellsFrom (C+1) scope.names<|wg scope env
theorem jd1:∀{names}{n:Nat}{acc:List (Str×Addr)},(∀ x y c,acc.lookup x=some c->acc.lookup y=some c->x=y)->(∀ x c,acc.lookup x=some c->c<n)->∀ x y c,(cellsFrom n names acc).lookup x=some c->(cellsFrom n names acc).lookup y=some c->x=y
 | [],n,acc,h,_=>h
 | (a,k)::r,n,acc,h,b=>by
  unfold cellsFrom;split
  ·refine jd1 (λx y c d e=>?_)<|λx c d=>?_
   ·grind
   ·grind
  ·exact jd1 h b
def jlG(h:∀ x y c,(wg scope env).lookup x=some c->(wg scope env).lookup y=some c->x=y)(a:∀ x c,(wg scope env).lookup x=some c->c<C+1)(x y)(c)(h1:(kB scope env C).lookup x=some c)(h2:(kB scope env C).lookup y=some c):x=y:=jd1 h a x y c h1 h2
theorem xZ:∀{names}{n}{acc},(∃ c,acc.lookup x=some c)->∃ c,(cellsFrom n names acc).lookup x=some c
 | [],_,_,h=>h
 | (a,k)::r,n,acc,h=>by
  unfold cellsFrom;split
  ·refine xZ ?_;rw[List.lookup_cons];cases x==a with
   | true=>exact⟨n,rfl⟩
   | false=>exact h
  ·exact xZ h
theorem jc7:∀{names}{n}{acc},(x,NameKind.cell)∈names->∃ c,(cellsFrom n names acc).lookup x=some c
 | [],_,_,h=>nomatch h
 | (a,k)::r,n,acc,h=>by
  unfold cellsFrom;rcases M5.mp h with e | e
  ·cases e;refine xZ ⟨n,?_⟩;rw[List.lookup_cons,beq_self_eq_true]
  ·split
   ·exact jc7 e
   ·exact jc7 e
def jk9(h:(x,NameKind.cell)∈scope.names):∃ c,(kB scope env C).lookup x=some c:=jc7 h
theorem wV:∀{names}{n}{acc},(x,NameKind.cell)∉names->(cellsFrom n names acc).lookup x=acc.lookup x
 | [],_,_,_=>rfl
 | (a,k)::r,n,acc,h=>by
  unfold cellsFrom;split
  ·rename_i b;have b:=eq_of_beq b;subst b;rw[wV λz=>h<|L6 _ z,List.lookup_cons];have:(x==a)=false:=U4.mpr λz=>h (by rw[z];exact L7);rw[this]
  ·exact wV λz=>h<|L6 _ z
theorem wJ:∀ names (h:Heap) acc x c,(cellsFrom h.objs.size names acc).lookup x=some c->(h.objs.size<=c/\(pushCells h names).IsCell c none)\/acc.lookup x=some c
 | [],_,_,_,_,e=>.inr e
 | (a,k)::r,h,acc,x,c,e=>by
  unfold cellsFrom at e;unfold pushCells;split at e
  ·rename_i b;rw[if_pos b];rcases wJ r (h.push {cls:=.type "cell",data:=.cell none}) ((a,h.objs.size)::acc) x c (by rw[Heap.size_push];exact e) with q | q
   ·rw[Heap.size_push] at q;exact .inl ⟨Nat.le_of_succ_le q.1,q.2⟩
   ·rw[List.lookup_cons] at q;cases e1:x==a with
    | true=>
     rw[e1] at q;cases q;exact .inl ⟨N1 _,⟨_,pushCells_keeps r _ _ _<|E3 _ rfl,rfl⟩⟩
    | false=>rw[e1] at q;exact .inr q
  ·rename_i b;rw[if_neg b];exact wJ r h acc x c e
theorem Kw:∀ l cs,(x,c)∈jgs env l cs->(x,c)∈cs\/(x,NameKind.free)∈l
 | [],_,h=>.inl h
 | (n,k)::r,cs,h=>by
  rcases Kw r _ h with z | z
  ·grind
  ·exact .inr<|L6 _ z
def jcC(h:(wg scope env).lookup x=some c):(x,NameKind.free)∈scope.names:=by
 rcases Kw scope.names [] (PySem.mem_of_lookup h) with z | z
 ·exact nomatch z
 ·exact z
def Ql 
  (h:Q (newEnv scope ↥s globals (cellsFrom (↥s+1) scope.names cl) qual none .none (some env) builtinsNs) { s with heap:=pushCells (s.heap.push {cls:=.type "dict",data:=.dict #[]}) scope.names }):
  wpAny M A (newFunctionEnv scope globals cl [] qual none .none<|some env) Q E s:=by
 simp only[newFunctionEnv,Option.isSome_some];refine L3<|wpAny_alloc ?_;refine L3<|wpAny_layCells _ (λnm kd a=>by cases hq:kd==NameKind.cell<;>simp[hq]) _ _ _ _ ?_;rw[Heap.size_push ..];exact L3<|M8<|M8 h
def jI(X:Cx)(scope:Scope)(N':List Str)(C:Addr)(s₃:Shared)(H₃:Hp)(fp:W5):Cx:=
 {X with N:=N',s₀:=s₃,H₀:=H₃,env:=compEnvC scope (kB scope X.env C) C X.env,outer:=X.stack,stack:=X.stack,ex:=fp,fn:=λx=>scope.names.lookup x==some NameKind.cell,pn:=[],xe:=λ_ _=>False}
structure BlockOk(X:Cx)(scope:Scope)(N':List Str)(ix:List<|Option Nat):Prop where
 kind:scope.kind=.function
 names:∀ y∈scope.names,y.2=.local->scope.names.lookup y.1=some .local
 cells:∀ y∈scope.names,y.2=.cell->scope.names.lookup y.1=some .cell
 uniq:∀ y∈scope.names,y.2=.free->scope.names.lookup y.1=some .free
 outer:∀ y∈scope.names,y.2=.free->X.env.kindOf y.1=some .cell\/X.env.kindOf y.1=some .free
 nd:N'.Nodup
 len:ix.length=N'.length
 at_:∀(i j:Nat) (x:Str),ix[i]?=some (some j)->N'[i]?=some x->X.N[j]?=some x/\(x,NameKind.free)∈scope.names
 func:X.env.scope.kind=.function
def BlockOk.free(B:BlockOk X scope N' ix)  (h:(x,NameKind.free)∈scope.names):(kB scope X.env C).lookup x=(wg scope X.env).lookup x:=
 wV λz=>by
  have a:=B.cells _ z rfl;rw[B.uniq _ h rfl] at a;cases a
noncomputable def yt(ix:List<|Option Nat)(σ:St):St:=ix.map λo=>o.bind λj=>(σ[j]?).join
abbrev BW:=Nat->Nat->St->Hp->Prop
def jaq(tc:TT)(te:TE)(g:TG)(J:It)(p:Addr)(σ':St)(H1:Hp)(Q:Hp->Prop):Prop:=
 ∃ W:BW,(∃ m,W 0 m σ' H1)/\∀ i m σ2 H2,W i m σ2 H2->(J.stop i H2/\Q H2) \/
  (J.go i H2/\∀ x H3,J.yld i H2 x H3->g x σ2 H3 λσ4 H4=>tc σ4 H4 λb H5=>if b=true then
   te σ4 H5 λy H6=>∃ ys,H6 p=some (.lst ys)/\ys.length<sizeLine/\∃ m',m'<m/\W (i+1) m' σ4 (upd H6 p<|.lst<|ys++[y])
   else ∃ m',m'<m/\W (i+1) m' σ4 H5)
def Yu(wi:TI)(g:TG)(tc:TT)(te:TE)(ix:List<|Option Nat):TE:=λσ H Q=>wi σ H λJ H1=>∀ p,H1 p=none->jaq tc te g J p (yt ix σ) (upd H1 p<|.lst []) λH2=>Q (.ref p) H2
def PIf(X:Cx)(ifs:List Expr)(tc:TT):Prop:=(ifs=[]/\tc=λ_ H Q=>Q true H) \/ ∃ c,ifs=[c]/\PT X c tc
def jdX(B:BlockOk X scope N' ix)(I:Inv X pins σ H s)(n:∀ b∈fp,uE X pins H b)(w:∀ b∈fp,b < ↥s)
  (G:h₁.Ns ↥s (λ_=>none)) (F:∀ b o,s.heap.get? b=some o->h₁.get? b=some o)
  (g:∀ x c,(kB scope X.env ↥s).lookup x=some c->(↥s+1<=c/\h₁.IsCell c none)\/(wg scope X.env).lookup x=some c):
  Inv (jI X scope N' ↥s s H fp) [] (yt ix σ) H {s with heap:=h₁,toks:=t}:=by
 have d:∀ x c,(wg scope X.env).lookup x=some c->X.env.cells.lookup x=some c:=λx c e=>VL e;have J:∀ x c,X.env.cells.lookup x=some c->c < ↥s:=λx c e=>by
  obtain⟨v,o,A,_⟩:=I.cell x c e;exact N3 A
 refine⟨⟨I.ok.mod,B.kind,I.ok.glob,I.ok.blt,N1 _,jlG (λx y c C D=>I.ok.inj x y c (d x c C)<|d y c D)<|λx c e=>Nat.lt_succ_of_lt<|J x c<|d x c e,λx K=>?_,(λx c C D=>?_),I.ok.hd,I.ok.frames,.inl rfl,λb h=>⟨N8<|w b h,λx c e=>?_⟩,
  I.bs,N9 I.ok.bsz I.sz,λb o e h=>?_,λb h z=>?_,I.stack,I.stkFree⟩,rfl,I.bare,Un.kept F,⟨_,G,λi x v C D Q=>?_⟩,λx c e=>?_,I.hok.fresh<|N1 _,λx c e=>?_,(λp R=>nomatch (R)),I.hok.kept F,?_⟩
 ·have L:=K;have f:(x,NameKind.free)∈scope.names\/(x,NameKind.cell)∈scope.names:=by
   rcases L with q | q
   ·rcases Jv (PySem.mem_of_lookup q) with z | z
    ·lia
    ·lia
   ·rcases Jv (PySem.mem_of_lookup q) with z | z
    ·lia
    ·lia
  rcases f with f | f
  ·obtain⟨c,M⟩:=I.ok.has x<|B.outer _ f rfl;exact⟨c,by show(kB scope X.env ↥s).lookup x=some c;rw[B.free f];exact jdZ M f⟩
  ·exact jk9 f
 ·-- the block's own cells are new
  have K:=C;rcases g x c D with⟨q,_⟩ | q
  ·exact Nat.le_of_succ_le q
  ·exfalso;have n:=jcC q;have E:=B.uniq _ n rfl;rw[eq_of_beq K] at E;cases E
 ·rcases g x c e with⟨q,_⟩ | q
  ·exact Nat.ne_of_gt<|U6 (w b h)<|Nat.le_of_succ_le q
  ·exact(n b h).2.2.2.2.1 x c (d x c q)
 ·rcases(n b h).2.2.2.1 with z | z
  ·exact I.ok.noex b o e z
  ·exact absurd (U6 (N3 e)<|N9 I.ok.bsz z)<|Nat.lt_irrefl _
 ·rcases M5.mp (I.stkSub b z) with q | q
  ·exact(n b h).2.1 q
  ·exact(n b h).2.2.1 q
 ·have a:=D;unfold yt at a;rw[List.getElem?_map] at a;cases e:ix[i]? with
  | none=>rw[e] at a;cases a
  | some o=>
   rw[e] at a;cases o with
   | none=>cases a
   | some j=>
    have O:(σ[j]?).join=some v:=X8 a;have S:σ[j]?=some (some v):=by grind
    obtain⟨T,f⟩:=B.at_ i j x e C;have N:=B.outer _ f rfl;obtain⟨m,V,U⟩:=I.loc;obtain⟨u,r,l⟩:=U j x v T S<|N.elim (λz=>.inr<|.inl z) λz=>.inr<|.inr z;refine⟨u,r,.inr ?_⟩;rcases l with⟨k,_⟩ | ⟨_,c,M,z⟩
    ·lia
    ·refine⟨?_,c,by show(kB scope X.env ↥s).lookup x=some c;rw[B.free f];exact jdZ M f,?_⟩
     ·rcases Q with y | y | y
      ·have:=PySem.mem_of_lookup y;rcases Jv this with P | P
       ·have E:=B.names _ P rfl;rw[B.uniq _ f rfl] at E;cases E
       ·lia
      ·exact .inl y
      ·exact .inr y
     ·obtain⟨o,A,hd⟩:=z;exact⟨o,F c o A,hd⟩
 ·rcases g x c e with⟨_,q⟩ | q
  ·exact⟨none,q⟩
  ·obtain⟨v,o,A,hd⟩:=I.cell x c<|d x c q;exact⟨v,o,F c o A,hd⟩
 ·rcases g x c e with⟨q,_⟩ | q
  ·exact I.hok.fresh<|Nat.le_of_succ_le q
  ·exact I.freeC x c<|d x c q
 ·show(yt ix σ).length=N'.length;unfold yt;rw[L1,B.len]
def Inv.other(I:Inv X pins σ H s)(f:uE X pins H C)(a:Heap.SameBut C s.heap h'):Inv X pins σ H {s with heap:=h'}:=
 I.turned (a.extBut) f.1 f.2.1 f.2.2.2.1 f.2.2.2.2.1 f.2.2.2.2.2
def qY{X:Cx}{ifs:List Expr}{N':List Str}{ix:List (Option Nat)}{pins:List (Addr×Obj)}{s:Shared}{Q:Addr->Hp->Prop}{E:Option (Value->Sem Unit)}{QQ:J0}(B:BlockOk X scope N' ix)(hc:X.calm=true)(hi:PI X tg iter wi)
  (hg:∀ C s H fp,PG (jI X scope N' C s H fp) tg g) (hif:∀ C s H fp,PIf (jI X scope N' C s H fp) ifs tc) (he:∀ C s H fp,PE (jI X scope N' C s H fp) elt te)
  (hs:∀ x,foldedSetIterable iter X.env x=pure x) (I:Inv X pins σ H s)
  (h:wi σ H λJ H1=>∀ p,H1 p=none->jaq tc te g J p (yt ix σ) (upd H1 p<|.lst []) (Q p))
  (hend:∀ p C s' H',Q p H'->Inv X pins σ H' s'->uE X pins H' C->(∃ m,s'.heap.Ns C m)->compPost (model X.prog X.w) X.A X.xe E QQ (.ref p) C (.ok .next) s'):
  wpAny (model X.prog X.w) X.A (comprehension (.ListComp elt [⟨tg,iter,ifs,0⟩] scope pos) scope X.env pos' (newList []) false (eval iter X.env) E) QQ X.xe s:=by
 refine wpAny_comprehension_free rfl hs (jbt λn k hm hk=>I.ok.has n<|B.outer _ hm hk) B.kind B.names<|thn (hi pins s σ H _ I h) λv s1 h1=>thn h1 λitv s2 h2=>?_;obtain⟨it,fp,tn,J,M,rfl,I2,T,Y,f2,h2⟩:=h2;refine wpAny_newObj_type<|Ql ?_;dsimp only;have I3:Inv X pins σ (upd M ↥s2 (.lst [])) { s2 with heap:=s2.heap.push {cls:=.type "list",data:=.seq ([]:List Value).toArray} }:=I2.lnew .nil<|U7 _;generalize hs3:({ s2 with heap:=s2.heap.push {cls:=.type "list",data:=.seq ([]:List Value).toArray} }:Shared)=s3 at I3;have e3:s3.heap=s2.heap.push {cls:=.type "list",data:=.seq ([]:List Value).toArray}:=by lia
 have hk3:∀ b o,s2.heap.get? b=some o->s3.heap.get? b=some o:=λb o e=>by rw[e3];exact L8 _ e
 have Z:∀ b∈fp,b < ↥s3:=λb a=>by
  obtain⟨o,e,_⟩:=T.obj _ _ Y b a;exact N3<|hk3 b o e
 have nep:∀ b∈fp,b≠↥s2:=λb a z=>by
  obtain⟨o,e,_⟩:=T.obj _ _ Y b a;exact absurd (N3 e) ∅
 have N:∀ b∈fp,uE X pins (upd M ↥s2 (.lst [])) b:=λb a=>⟨by rw[je<|nep b a];exact(f2 b a).1,(f2 b a).2⟩;have hh₁:∃ O,O=pushCells (s3.heap.push {cls:=.type "dict",data:=.dict #[]}) scope.names:=⟨_,rfl⟩;obtain⟨O,P⟩:=hh₁;rw[<- e3,<- P];have hk4:∀ b o,s3.heap.get? b=some o->O.get? b=some o:=λb o e=>by
  rw[P];exact pushCells_keeps _ _ b o<|L8 _ e
 have hns4:O.Ns ↥s3 (λ_=>none):=by
  rw[P];exact(Heap.Ns.new s3.heap<|.type "dict").keeps (pushCells_keeps _ _)
 have R:∀ x c,(kB scope X.env ↥s3).lookup x=some c->(↥s3+1<=c/\O.IsCell c none)\/(wg scope X.env).lookup x=some c:=λx c e=>by
  have q:=wJ scope.names (s3.heap.push {cls:=.type "dict",data:=.dict #[]}) (wg scope X.env) x c (by rw[Heap.size_push];exact e);rw[Heap.size_push,<- P] at q;exact q
 have I4:Inv (jI X scope N' ↥s3 s3 (upd M ↥s2 (.lst [])) fp) [] (yt ix σ) (upd M ↥s2 (.lst [])) {s3 with heap:=O,toks:=s2.toks}:=jdX B I3 N Z hns4 hk4 R;have st4:tn 0 O:=T.keep _ _ _ Y λb a o e=>hk4 b o<|hk3 b o e;obtain⟨W,⟨m0,w0⟩,turn⟩:=h2 _ I2.fresh;have hg':=hg ↥s3 s3 (upd M ↥s2 (.lst [])) fp;have S:=hif ↥s3 s3 (upd M ↥s2 (.lst [])) fp;have he':=he ↥s3 s3 (upd M ↥s2 (.lst [])) fp;generalize f:jI X scope N' ↥s3 s3 (upd M ↥s2 (.lst [])) fp=X' at I4 hg' S he';have eP:X'.prog=X.prog:=by rw[<- f];rfl
 have eW:X'.w=X.w:=by rw[<- f];rfl
 have eK:X'.K=X.K:=by rw[<- f];rfl
 have eA:X'.A=X.A:=by rw[<- f];rfl
 have eC:X'.calm=true:=by rw[<- f];exact hc
 have eE:X'.env=compEnvC scope (kB scope X.env ↥s3) ↥s3 X.env:=by rw[<- f];rfl
 have eX:X'.xe=λ_ _=>False:=by rw[<- f];rfl
 have F:∀{H':Hp},(∀ b∈fp,H' b=none)->∀ b∈fp,uE X' [] H' b:=λhn b a=>by
  refine⟨hn b a,?_,?_,?_,?_,?_⟩
  ·rw[eE];exact N8<|Z b a
  ·rw[<- f];intro z;rcases M5.mp (I3.stkSub b z) with q | q
   ·exact(N b a).2.1 q
   ·exact(N b a).2.2.1 q
  ·rw[<- f];exact .inl a
  ·rw[eE];intro x c e;rcases R x c e with⟨q,_⟩ | q
   ·exact Nat.ne_of_gt<|U6 (Z b a)<|Nat.le_of_succ_le q
   ·exact(N b a).2.2.2.2.1 x c (VL q)
  ·rw[<- f];exact(λp hp=>nomatch (hp))
 have fin:∀{j:St}{H':Hp}{s':Shared},Inv X' [] j H' s'->Q ↥s2 H'->compPost (model X.prog X.w) X.A X.xe E QQ (.ref ↥s2) ↥s3 (.ok .next) s':=λ{j H' s'} J q=>by
  have hL:X'.env.locals=↥s3:=by rw[eE];rfl
  have un:Un (frs X.stack) fp (upd M ↥s2 (.lst [])) H' s3.heap s'.heap:=by
   have z:=J.base;rw[<- f] at z;exact z
  have hos:s'.os=s3.os:=by
   have z:=J.os;rw[<- f] at z;exact z
  have hok:HOk X.prog X.w H' s'.heap:=by
   have z:=J.hok;rw[eP,eW] at z;exact z
  have fc:H' ↥s3=none:=by
   have z:=J.free;rw[hL] at z;exact z
  have I5:Inv X pins σ H' s':=by
   obtain⟨hh,gg,dd,tt,oo⟩:=s';obtain rfl:oo=s3.os:=hos;exact I3.call un hok J.bare λb a=>⟨(N b a).2.2.2.1,(N b a).2.1,(N b a).2.2.2.2.1,(N b a).2.2.2.2.2⟩
  obtain⟨m,hn,_⟩:=J.loc;rw[hL] at hn;exact hend _ _ s' H' q I5 (I3.fpOk (N1 _) fc) ⟨m,hn⟩
 have loop:∀ s',s'=({s3 with heap:=O,toks:=s2.toks}:Shared)->codeAny (model X.prog X.w) X.A (.compLoop (.ListComp elt [⟨tg,iter,ifs,0⟩] scope pos) 0 (.ref it) (.ref ↥s2) X'.env) (compPost (model X.prog X.w) X.A X.xe E QQ (.ref ↥s2) ↥s3) s':=by
  rintro s' rfl;refine zw (λn s'=>∃ i j H',Inv X' [] j H' s'/\tn i s'.heap/\(∀ b∈fp,H' b=none)/\W i n j H') ?_ m0 ⟨0,_,_,I4,st4,λb a=>(N b a).1,w0⟩;rintro n s5 ⟨i,σ5,H5,I5,st5,fr5,w5⟩;have it5:=T.item X' eP eW eK eC i [] s5 σ5 H5 (λ_ _=>False) I5 (F fr5) st5;have dn5:=T.done X' eP eW eK eC i [] s5 σ5 H5 (λ_ _=>False) I5 (F fr5) st5;rw[eA] at it5 dn5;rcases turn i n σ5 H5 w5 with⟨stop,qn⟩ | ⟨go,step⟩
  ·refine thn (dn5 stop) λr s6 ⟨hr,I6⟩=>?_;subst hr;exact fin I6 qn
  ·refine thn (it5 go) λr s6 ⟨u,hr,h6⟩=>?_;subst hr;refine thn h6 λ_ s7 hh=>?_;obtain⟨x,H7,I7,r7,y7,st7,fr7⟩:=hh;have a7:=hg' _ s7 σ5 H7 x u _ (I7.pinned (F fr7)<|T.obj _ _ st7) r7<|step x H7 y7;rw[eP,eW,eA,eX] at a7;refine thn a7 λ_ s8 hh=>?_;obtain⟨G,H8,I8,q8⟩:=hh;have L:∀{l:Shared}{D:Hp},Inv X' ([]++Kg fp s7.heap) G D l->(∃ t,t<n/\W (i+1) t G D)->∃ m,m<n/\∃ i j H',Inv X' [] j H' l/\tn i l.heap/\(∀ b∈fp,H' b=none)/\W i m j H':=λ{l D} U ⟨t,hm,w9⟩=>by
    refine⟨t,hm,i+1,G,D,U.unpinned,T.keep _ _ _ st7 λb a o e=>(U.pin (b,o)<|U5 _<|U5 _<|kP a e).1,λb a=>?_,w9⟩;obtain⟨o,e,d⟩:=T.obj _ _ st7 b a;exact(U.pin (b,o)<|U5 _<|U5 _<|kP a e).2.1
   have rest:∀(b:Bool) (l:Shared) (D:Hp),Inv X' ([]++Kg fp s7.heap) G D l->(if b=true then te G D λy H6=>∃ ys,H6 ↥s2=some (.lst ys)/\ys.length<sizeLine/\∃ t,t<n/\W (i+1) t G (upd H6 ↥s2 (.lst<|ys++[y]))
     else ∃ t,t<n/\W (i+1) t G D) ->
     if b=true then wpAny (model X.prog X.w) X.A (eval elt X'.env) (λx s₄=>wpAny (model X.prog X.w) X.A (call (.builtin "list.append") [.ref ↥s2,x]) (λ_ s₅=>∃ m,m<n/\∃ i j H',Inv X' [] j H' s₅/\tn i s₅.heap/\(∀ b∈fp,H' b=none)/\W i m j H') (λ_ _=>False) s₄) (λ_ _=>False) l
     else ∃ m,m<n/\∃ i j H',Inv X' [] j H' l/\tn i l.heap/\(∀ b∈fp,H' b=none)/\W i m j H':=λb l D U q9=>by
    cases b with
    | false=>
     exact L U q9
    | true=>
     have a9:=he' _ l G D _ U q9;rw[eP,eW,eA,eX] at a9;refine thn a9 λyv s10 hh=>?_;obtain⟨y,H10,I10,r10,ys,e10,l10,q10⟩:=hh;have a10:=J5 _ s10 G H10 (.ref ↥s2) [y] (.ref ↥s2) [yv] (λ_ H'=>∃ t,t<n/\W (i+1) t G H') I10 rfl (.cons r10 .nil) ⟨_,ys,y,rfl,rfl,e10,l10,q10⟩;rw[eP,eW,eA,eX] at a10;exact thn a10 λ_ s11 ⟨_,H11,I11,_,q11⟩=>L I11 q11
   rcases S with⟨e1,e2⟩ | ⟨c,e1,e2⟩
   ·subst e1;rw[e2] at q8;exact wpAny_tests_nil<|rest true s8 H8 I8 q8
   ·subst e1;have a8:=e2 _ s8 G H8 _ I8 q8;rw[eP,eW,eA,eX] at a8;exact wpAny_tests_one<|thn a8 λb l ⟨D,U,q9⟩=>rest b l D U q9
 have V:codeAny (model X.prog X.w) X.A (.compStart (.ListComp elt [⟨tg,iter,ifs,0⟩] scope pos) 0 (.ref it) (.ref ↥s2) X'.env) (compPost (model X.prog X.w) X.A X.xe E QQ (.ref ↥s2) ↥s3) {s3 with heap:=O,toks:=s2.toks}:=
  codeAny_compStart_list (loop _ rfl) (T.self _ 0 _ _ _ st4<|loop _ rfl)
 rw[eE] at V;subst hs3;exact V
def wQ(B:BlockOk X scope N' ix)(c:X.calm=true)(hi:PI X tg iter wi)
  (d:∀ C s H fp,PG (jI X scope N' C s H fp) tg g) (a:∀ C s H fp,PIf (jI X scope N' C s H fp) ifs tc) (e:∀ C s H fp,PE (jI X scope N' C s H fp) elt te)
  (i:∀ x,foldedSetIterable iter X.env x=pure x:=by intro _;rfl):PE X (.ListComp elt [⟨tg,iter,ifs,0⟩] scope pos) (Yu wi g tc te ix):=by
 intro b s σ H Q I h;exact qY B c hi d a e i I h λp C o j q k f ⟨m,l⟩=>⟨m,l,λr n=>⟨.ref p,j,k.other f n,rfl,q⟩⟩
def Ko(B:BlockOk X scope N' ix)(y:X.calm=true)(hi:PI X tg iter wi)
  (A:∀ C s H fp,PG (jI X scope N' C s H fp) tg g) (b:∀ C s H fp,PIf (jI X scope N' C s H fp) ifs tc) (E:∀ C s H fp,PE (jI X scope N' C s H fp) elt te)
  (F:X.N.Nodup) (c:X.N[i]?=some x) (G:Loc X.env.scope x)
  (hsw:swapsWith (.ListComp elt [⟨tg,iter,ifs,0⟩] scope pos) (some<|.Name x pos') spos.line X.env=pure true)
  (J:∀ x,foldedSetIterable iter X.env x=pure x:=by intro _;rfl)
  (K:X.fn x=true\/X.env.scope.names.lookup x=some .local:=by first | exact .inl rfl | exact .inr rfl | assumption):
  PS X (.Assign [.Name x pos'] (.ListComp elt [⟨tg,iter,ifs,0⟩] scope pos) spos) (jhw (Yu wi g tc te ix)<|vw i):=by
 intro a s σ H D I h;rw[exec_Assign_Name_used _ _ _ _ hsw];refine L3<|wpAny_standAt<|L3<|L3<|thn (qY B y hi A b E J I h λp C k l q n f ⟨m,L⟩=>?_) λ_ k M=>M8<|M8 M;obtain⟨o,O,P,Q,r⟩:=id L;have hd:∀ v,o.data≠.cell v:=λv z=>by
  obtain⟨d,_⟩:=r;rw[d] at z;cases z
 have R:Inv X (a++[(C,o)]) σ l k:=n.pins_of λt j=>by
  rcases N4.mp j with z | z
  ·exact n.pin t<|U5 _ z
  ·have e:t=(C,o):=by simpa using z
   subst e;exact⟨Q,f.1,f.2.1,f.2.2.1,hd⟩
 refine wpAny_assign_Name<|Y0 R F c G (v:=.ref p) rfl (λs2 u=>?_) K;have w:=u.pin (C,o)<|U5 _<|U5 _<|M9.mpr rfl;refine⟨m,⟨o,O,P,w.1,r⟩,λT S=>⟨_,l,(u.unpinned).other ⟨w.2.1,f.2⟩ S,q⟩⟩
noncomputable def S(l:List Nat):Str:=⟨l.toArray⟩
def Js(l):(S l).cps.toList=l:=by simp[S]
def Ju(l):(S l).length=l.length:=by simp[S,Str.length]
def jlA(h:S a=S b):a=b:=by
 rw[<- Js a,<- Js b,h]
def jpo(a b):(S a=S b)=(a=b):=propext ⟨jlA,λh=>by rw[h]⟩
def jkh(a b):S a++S b=S (a++b):=by
 apply PyProof.Rows.ext_toList;rw[PySem.W.KT.app_list,Js,Js,Js]
def jlQ(c):(⟨#[c]⟩:Str)=S [c]:=rfl
def Yg{α:Type}(xs:List α)(lo hi:Option Int):List α:=(xs.drop<|HT.sIx xs.length 0 lo).take (HT.sIx xs.length xs.length hi-HT.sIx xs.length 0 lo)
def jis(xs:List α)(k:Nat):Yg xs none (some (k:Int))=xs.take k:=by
 unfold Yg;rw[HT.sIx_none,HT.sIx_nat];simp[List.take_eq_take_iff]
def jea(xs:List α)(k:Nat):Yg xs (some (k:Int)) none=xs.drop k:=by
 unfold Yg;rw[HT.sIx_none,HT.sIx_nat];by_cases h:k<=xs.length
 ·rw[Nat.min_eq_left h,List.take_of_length_le];rw[List.length_drop]
  lia
 ·have e:xs.drop k=[]:=List.drop_eq_nil_of_le ∅;rw[e,Nat.min_eq_right ∅];simp
def jeu(lo hi)(n):Builtin.Str.strSliceIndices lo hi 1 n=(List.range<|HT.sIx n n hi-HT.sIx n 0 lo).map (HT.sIx n 0 lo+·):=by
 have a:∀ o d,(match o with | none=>d | some i=>(let i:=if i<0 then i+n else i;if 1>0 then max 0 (min i n) else max (-1) (min i<|n-1)))=((HT.sIx n d o:Nat):Int):=by
  intro o d;cases o with
  | none=>rfl
  | some v=>
   show(if 1>0 then max 0 (min (if v<0 then v+n else v) n) else _)=(((if v<0 then(v+n).toNat else min v.toNat n):Nat):Int);by_cases b:v<0
   ·lia
   ·lia
 rw[<- sliceRange_one,<- a lo 0,<- a hi n];rfl
def jkB(l)(lo hi):Txt.slice (S l) lo hi=S (Yg l lo hi):=by
 have g:HT.sIx l.length l.length hi<=l.length:=HT.sIx_le _ _ (N1 _) _;have e:(Builtin.Str.strSliceIndices lo hi 1 (S l).length).filterMap ((S l).cps[·]?)=Yg l lo hi:=by
  rw[Ju,jeu];by_cases b:HT.sIx l.length 0 lo<=HT.sIx l.length l.length hi
  ·have c:=(StrLaws.picks l (HT.sIx l.length l.length hi-HT.sIx l.length 0 lo)<|HT.sIx l.length 0 lo) ∅;unfold Yg;rw[<- c];simp[S]
  ·have z:HT.sIx l.length l.length hi-HT.sIx l.length 0 lo=0:=by lia
   unfold Yg;rw[z];simp
 unfold Txt.slice;split
 ·rename_i h;have d:(Builtin.Str.strSliceIndices lo hi 1 (S l).length).length=(S l).length:=by lia
  rw[Ju,jeu,L1,List.length_range] at d;unfold Yg;by_cases a:l.length=0
  ·have:=List.length_eq_zero_iff.mp a;subst this;simp
  ·have f:HT.sIx l.length 0 lo=0:=by lia
   rw[f,List.drop_zero,List.take_of_length_le ∅]
 ·rw[e];rfl
def jpZ:V->Option Int->Option Int->Hp->VK->Prop:=λx lo hi H Q=>∃ l,x=.str (S l)/\l.length<=sizeLine/\Q (.str<|S<|Yg l lo hi) H
def jhI(p:IsPart v o):∃ q:Option (Int×Tok),v=partValue q/\q.map (·.1)=o:=by
 cases p with
 | none=>exact⟨none,rfl,rfl⟩
 | int i t=>exact⟨some (i,t),rfl,rfl⟩
def jmP:SlR X jpZ:=by
 intro a s σ H x v n o lo hi sl Q I e f pl g h;obtain⟨l,rfl,i,q⟩:=h;obtain⟨t,rfl⟩:=e;obtain⟨b,rfl,j⟩:=jhI pl;obtain⟨c,rfl,m⟩:=jhI g;refine⟨"str",_,F.slot_str_getitem.lookup,typeIs_str _ _ _,wpAny_getItem_str_slice (st:=none) f rfl ?_⟩;have key:∀ d k,EP X a σ Q (.str (Txt.slice (S l) lo hi) d) {s with toks:=k}:=λd k=>by
  rw[jkB l lo hi];exact⟨.str<|S<|Yg l lo hi,H,I.tok k,⟨d,rfl⟩,q⟩
 have e2:sliceMade (S l) t b c none=(if(1==1&&(Builtin.Str.strSliceIndices lo hi 1 (S l).length).length==(S l).length)=true then Made.val (.str (S l) t) else Made.str ⟨((Builtin.Str.strSliceIndices lo hi 1 (S l).length).filterMap ((S l).cps[·]?)).toArray⟩):=by
  unfold sliceMade slicePicked;rw[j,m];rfl
 rw[e2];refine post_val_or_str ⟨?_,key⟩;exact N9 (Txt.slice_le (S l) lo hi) (by rw[Ju];exact i)
def Its(l:List Nat):It:=⟨λi _=>i<l.length,λi H x H'=>H'=H/\∃ c,l[i]?=some c/\x=.str (S [c]),λi _=>l.length<=i⟩
def jf6{tg}{P}{w}{K}(a)(l)(t)(ty)(j:ty = "str_ascii_iterator" \/ ty = "str_iterator")
  (W:∀ A:Around,A.handled=none->Walks P w A a [a] [a] (S l).cps.size (SignAt<|S l) (λi h=>h.IsStrIter a ty (S l) t i)):Turn P w K tg (Its l) [a] a (λi h=>h.IsStrIter a ty (S l) t i) where
 mem:=by simp
 obj:=λi h f b m=>by
  have e:b=a:=by simpa using m
  subst e;obtain⟨o,e,c,d⟩:=f;exact⟨o,e,λv z=>by rw[d] at z;cases z⟩
 keep:=λi h p f k=>by
  obtain⟨o,e,r⟩:=f;exact⟨o,k a (by simp) o e,r⟩
 item:=by
  intro X O Q R q i g s σ H E I x f G;obtain⟨y,B,T,C,D,F⟩:=x a (by simp);have J:(S l).cps.size=l.length:=by rfl
  refine(W X.A<|I.ok.hd q).item i s _ _ (by rw[J];exact G) f λv p U V n Y=>?_;obtain⟨c,u,L,rfl⟩:=V;have Z:Inv X g σ H {s with heap:=p,toks:=U}:=I.turned (λb o m e=>Y b o ⇑m e) y B C D F;obtain⟨o,e,ct,d⟩:=id n;refine⟨_,rfl,jfx e ct d (by rcases j with z | z<;>subst z<;>decide) ⟨.str<|S [c],H,Z,⟨u,rfl⟩,⟨rfl,c,by simpa [S] using L,rfl⟩,n,λb m=>(x b m).1⟩⟩
 done:=by
  intro X O Q R q i g s σ H E I x f G;obtain⟨y,B,T,C,D,F⟩:=x a (by simp);have N:(S l).cps[i]?=none:=by
   have:l.length<=i:=G;simp[S,this]
  rcases j with z | z
  ·subst z;exact wpAny_pyNext_ascii_end (I.ok.hd q) f N λp M=>⟨rfl,I.turned (M) y B C D F⟩
  ·subst z;exact wpAny_pyNext_wide_end (I.ok.hd q) f N λp M=>⟨rfl,I.turned (M) y B C D F⟩
 self:=λ_ _ _ _ _ f h=>by
  rcases j with z | z
  ·subst z;exact wpAny_pyIter_striter_ascii f h
  ·subst z;exact wpAny_pyIter_striter_wide f h
def jn1:OpR X (compareOp .In) (λx y H Q=>∃ c l,x=.str (S [c])/\y=.str (S l)/\Q (.bl<|decide<|c∈l) H):=by
 intro a s σ H x y v u Q I b d h;obtain⟨c,l,rfl,rfl,q⟩:=h;refine jdi a s σ H _ _ v u Q I b d ⟨_,_,rfl,rfl,?_⟩;rw[<- jlQ,StrLaws.found_one,Js];exact q
def jeF:OpR X (compareOp .NotIn) (λx y H Q=>∃ c l,x=.str (S [c])/\y=.str (S l)/\Q (.bl<|!decide (c∈l)) H):=by
 intro a s σ H x y v u Q I b d h;obtain⟨c,l,rfl,rfl,q⟩:=h;refine xA a s σ H _ _ v u Q I b d ⟨_,_,rfl,rfl,?_⟩;rw[<- jlQ,StrLaws.found_one,Js];exact q
def jkt:OpR X (binaryOp .Add) (λx y H Q=>∃ a b,x=.str (S a)/\y=.str (S b)/\a.length+b.length<=sizeLine/\Q (.str<|S<|a++b) H):=by
 intro c s σ H x y v u Q I d e h;obtain⟨a,b,rfl,rfl,f,q⟩:=h;refine jbH c s σ H _ _ v u Q I d e ⟨_,_,rfl,rfl,by rw[Ju,Ju];exact f,?_⟩;rw[jkh];exact q
def jjp:OpR X (binaryOp .Mult) (rI (λi j=>Builtin.Int.intBits i<=2 ^ 20/\Builtin.Int.intBits j<=2 ^ 20) λi j=>.int<|i*j):=opI λ_ _ _ _ _ _ _ a q=>mul_int q<|IntMulOk.of_bits a.1 a.2
def jbA(h:i.natAbs<2 ^ m)(a:m<=2 ^ 20):Builtin.Int.intBits i<=2 ^ 20:=N9 (PySem.intBits_le_iff.mpr h) a
def SqX(K:W4)(H:Hp)(a:Addr)(xs:List V):Prop:=
 Rd H a (.lst xs) \/ ∃ its n,K.lookup a=some {cls:=.type "list",data:=.seq its n}/\its.size<=sizeLine/\Vals xs its.toList
def SqX.sq{K}{H}{a}{xs}(h:SqX K H a xs):SqL K H a xs:=by
 rcases h with h | ⟨b,n,c,d,r⟩
 ·exact .inl h
 ·exact .inr ⟨_,b,n,c,rfl,rfl,rfl,d,r⟩
def SqX.of{K}{H}{a}{xs}(h:H a=some (.lst xs)):SqX K H a xs:=.inl<|.inl h
def Inv.listX(I:Inv X pins σ H s)(h:SqX X.K H a xs):Ex2 λits n=>An3 (Vals xs its) (s.heap.get? a=some {cls:=.type "list",data:=.seq its.toArray n}) (xs.length<=sizeLine):=by
 rcases h with h | ⟨its,n,b,c,r⟩
 ·obtain⟨z,its,n,r,e⟩:=h.ok I.hok;exact⟨its,n,r,e,z⟩
 ·refine⟨its.toList,n,r,by simpa using I.kIn a _ b,?_⟩;have e:=r.length;simp only[Array.length_toList] at e
  lia
def jlO(K:W4):R2:=λx y H Q=>∃ l b xs zs,x=.ref l/\y=.ref b/\SqX K H l xs/\SqX K H b zs/\xs.length+zs.length<=sizeLine/\∀ p,H p=none->Q (.ref p) (upd H p<|.lst<|xs++zs)
def ji0:OpR X (binaryOp .Add) (jlO X.K):=by
 intro d s σ H x y v u Q I f g h;obtain⟨l,b,o,zs,rfl,rfl,i,j,p,q⟩:=h;cases f;cases g;obtain⟨c,n,r,e,_⟩:=I.listX i;obtain⟨a,t,r2,e2,_⟩:=I.listX j;have w:=r.length;have k:=r2.length;refine PySem.P.add_list e e2 ?_ (by rw[N5,N5];lia);have m:c.toArray++a.toArray=(c++a).toArray:=by simp
 rw[m];exact⟨.ref _,_,I.lnew (r.append r2)<|by rw[N6];lia,rfl,q _ I.fresh⟩
def xU{ns:List Int}(h:PySem.W.WData.layableAll [PySem.W.WData.list<|ns.map PySem.W.WData.int]=true):∀ x∈ns,Builtin.Int.intBits x<=2 ^ 20:=by
 intro x b;have e:PySem.W.ofPy (.list<|ns.map .int)=PySem.W.WData.list (ns.map PySem.W.WData.int):=by
  have c:∀ ms:List Int,PySem.W.ofPys (ms.map PyData.int)=ms.map PySem.W.WData.int:=by
   intro ms
   induction ms with
   | nil=>rfl
   | cons m ms f=>simp[PySem.W.ofPys,PySem.W.ofPy,f]
  simp[PySem.W.ofPy,c]
 have a:=PySem.W.lay0_ofPy (s:=.list .int) (d:=.list<|ns.map .int) rfl (by simp[Shape.has]) (by rw[e];exact((PySem.W.layW_cons h).1));have g:PyData.layable0 (.list<|ns.map .int)=true:=by
  simp[PyData.layableAll0] at a;exact a
 exact PyData.bits_item_of_ints g b
def walk_ofB{l:PySem.W.OpenLaw}{n k}{j}{Q}{L}{d}{K:Params->PySem.W.Frag}{CX:World->CXT}{sp:World->Sp} 
  (R:l.most=some n) (z:n<=sizeLine) (A:d.params.defaults=[]) (S:Room k callerA)
  (U:∀ w h,L w h->(K w.params).In h)
  (F:∀ w mg fa h,(K w.params).In h->h.Ns mainGlobals mg->mg d.name=some (.ref fa) ->
   ∃ fd:FuncData,(∀ s u,BindsTo s fd ⟨[u],[]⟩ [(x,u)]) /\
    ∀ base:Heap,(K w.params).In base->base.Ns mainGlobals mg->FnOk l.prog w (K w.params) mg base (CX w) k fa fd [x] (sp w))
  (B:∀ w H a (ns:List Int),ns.length<=n->(∀ x∈ns,Builtin.Int.intBits x<=2 ^ 20)->jpq H->SqX (K w.params) H a (ns.map V.int)->sp w [.ref a] H (λv _=>v=.bl true) λ_ _ _=>False)
  (C:∀ w H s e s',CX w [] H s (λ_ _ _=>False) e s'->False):
  PySem.W.WalkO q j Q L l.row.toRowW d [] (λf vs=>PySem.call f vs):=by
 intro w s₀ X mg mb G Y fa o pm cd Z dV kV ho hd hcd M D hg N O as t y hrd E hlo;obtain rfl:dV=.none:=PySem.W.Dflts.none M A;obtain rfl:kV=.none:=PySem.W.Dflts.noKw M;obtain⟨a,vs,ns,rfl,rfl,c,p,i⟩:=Att.script_of R t E;have I:=U w _ Y;obtain⟨fd,hb,hF⟩:=F w mg fa _ I G.T.g D;refine PySem.W.enter_call<|codeAny_mono (jfg I G.T.g G.T.b G.T.builtins G.T.nolimit hg c p (N9 i z) S hF hb (λH hO hS=>B w H a ns i (xU y) hO ?_) λH e s'=>C w H X e s') λr s' hq=>?_
 ·rcases hS with h | ⟨o,its,m,P,_,_,J,hz,r⟩
  ·exact .inl h
  ·have e:=I a o P;rw[c] at e;cases e;cases J;exact .inr ⟨_,_,P,hz,r⟩
 ·obtain⟨rfl,h2,h3,h4⟩:=hq;exact⟨.inl ⟨.bool true,.bool true,[],rfl,λ_=>rfl,.bool true,Att.post_true l _,λ_=>⟨List.Pairwise.nil,λ_ hm=>(nomatch hm)⟩⟩,h2,h3,h4⟩
noncomputable def J7(sc:Scope)(N:List Str)(scope:Scope)(N':List Str)(ix:List<|Option Nat):Bool:=
 decide (scope.kind=.function)&&decide (sc.kind=.function)&&scope.names.all (λy=>!decide (y.2=.cell)||decide (scope.names.lookup y.1=some .cell))&&scope.names.all (λy=>!decide (y.2=.local)||decide (scope.names.lookup y.1=some .local)) &&
 scope.names.all (λy=>!decide (y.2=.free)||(decide (scope.names.lookup y.1=some .free)&&(decide (sc.names.lookup y.1=some .cell)||decide (sc.names.lookup y.1=some .free))))&&decide N'.Nodup&&decide (ix.length=N'.length) &&
 (List.range ix.length).all (λi=>match ix[i]? with | some (some j)=>(match N'[i]? with | some x=>decide (N[j]?=some x)&&decide ((x,NameKind.free)∈scope.names) | none=>true) | _=>true)
def jd6{X}{scope}{N'}{ix}(b)(N)(h1:X.env.scope=b)(h2:X.N=N)(h:J7 b N scope N' ix=true):BlockOk X scope N' ix:=by
 subst h1;subst h2;unfold J7 at h;simp only[M0,decide_eq_true_eq,List.all_eq_true,Bool.or_eq_true,Bool.not_eq_true',decide_eq_false_iff_not] at h;obtain⟨⟨⟨⟨⟨⟨⟨d,f⟩,g⟩,k⟩,c⟩,l⟩,m⟩,n⟩:=h;refine⟨d,λy a e=>((k y a).elim (absurd e) id),λy a e=>((g y a).elim (absurd e) id),λy a e=>((c y a).elim (absurd e) λz=>z.1),λy a e=>((c y a).elim (absurd e) λz=>z.2),l,m,λi j x h1 h2=>?_,f⟩
 ·have hi:=(L9.mp h1).1;have z:=n i<|List.mem_range.mpr hi;rw[h1,h2] at z;simp only[M0,decide_eq_true_eq] at z;exact z
structure FnFact(K:W4)(mg:W6)(x qual:Str)(st:Stmt)(f:Addr)(fd:FuncData)(ps:List Str):Prop where
 fn:Fun K x qual st f fd
 mgf:mg x=some (.ref f)
 bd:Binds K fd ps []
section
variable {X:Cx}{k:Nat}{f:Addr}{fd:FuncData}{ps:List Str}{sp:Sp}{x qual:Str}{st:Stmt}{p pos:Pos}{e:Expr}{es:List Expr}{t:TA}
def jgu(F:FnFact X.K X.mg x qual st f fd ps)(G:FnOk X.prog X.w X.K X.mg X.base CX0 k f fd ps sp)(c:Room k X.A)(d:PA X (e::es) t)(g:Gl X x:=by rfl)(a:Nd x:=by decide)
  (h:SEq X e es:=by rfl) (b:BkE X pos es:=by rfl):PE X (.Call (.Name x p) (e::es) [] pos) (qP sp [] E0 t):=
 jiT G c g F.mgf F.fn.kp F.bd .nil jcA d a h b
def jmN(F:FnFact X.K X.mg x qual st f fd ps)(G:FnOk X.prog X.w X.K X.mg X.base CX0 k f fd ps sp)(b:Room k X.A)(c:Gl X x:=by rfl)(a:Nd x:=by decide):PE X (.Call (.Name x p) [] [] pos) (qP sp [] E0 Yw):=
 jgh G b c F.mgf F.fn.kp F.bd .nil jcA a
theorem zW:∀ l,Vals (l.map λp=>V.str p.1)<|strValues l
 | []=>.nil
 | (x,t)::r=>.cons ⟨t,rfl⟩<|zW r
def jgR:MtR X "str.split" (λx vs H Q=>∃ a b,x=.str a/\vs=[.str b]/\(b.length==0)=false/\a.length+2<=sizeLine/\∀ p,H p=none->Q (.ref p) (upd H p<|.lst<|(Txt.split a b).map V.str)):=by
 intro d s σ H x vs v r Q I j m h;obtain⟨a,b,rfl,rfl,g,w,q⟩:=h;obtain⟨t,rfl⟩:=j;obtain⟨u,rfl,n⟩:=m.one;obtain⟨f,rfl⟩:=n;have c:∀ l k,l.map (·.1)=Txt.split a b->l.length<=sizeLine->EP X d σ Q (.ref ↥s) { s with toks:=k,heap:=s.heap.push {cls:=.type "list",data:=.seq (strValues l).toArray} }:=λl k e o=>by
  have e2:(Txt.split a b).map V.str=l.map λp=>V.str p.1:=by
   rw[<- e,U3];rfl
  refine⟨.ref ↥s,_,I.lnew (zW l)<|by rw[L1];exact o,rfl,?_⟩;rw[<- e2];exact q _ I.fresh
 have i:(Builtin.Str.partsBetween a (Builtin.Str.occurrences a b 0 a.length<|a.length+1) b.length).length<=sizeLine:=by
  have y:=StrLaws.occ_length_le a b 0 a.length<|a.length+1;rw[length_partsBetween];lia
 cases h1:(decide (a.length<b.length)||decide (Builtin.Str.strKind a<Builtin.Str.strKind b))
 ·cases hf:(Builtin.Str.occurrences a b 0 a.length<|a.length+1).isEmpty
  ·refine call_meets F.slot_str_split (typeIs_str _ _ _) F.entry_str_split (F.args_str_split_2 _ _) (meets_str_split_sep a b t f h1 g hf ∅ i) ?_;rw[strsFrom_eq];refine c (numbered s.toks _) _ ((numbered_texts _ _).trans ((if_neg<|ne_true_of_eq_false h1).trans (if_neg<|ne_true_of_eq_false hf)).symm) ?_;have e:=congrArg List.length<|numbered_texts s.toks<|Builtin.Str.partsBetween a (Builtin.Str.occurrences a b 0 a.length<|a.length+1) b.length;rw[L1] at e;rw[e];exact i
  ·exact call_meets F.slot_str_split (typeIs_str _ _ _) F.entry_str_split (F.args_str_split_2 _ _) (meets_str_split_not_found a b t f h1 g hf)<|c [(a,t)] s.toks ((if_neg<|ne_true_of_eq_false h1).trans (if_pos hf)).symm (by show 1<=sizeLine;decide)
 ·exact call_meets F.slot_str_split (typeIs_str _ _ _) F.entry_str_split (F.args_str_split_2 _ _) (meets_str_split_cannot_occur a b t f h1)<|c [(a,t)] s.toks (if_pos h1).symm (by show 1<=sizeLine;decide)
end
def jjK:OpR X (binaryOp .Mult) (λx y H Q=>∃ a n,x=.str (S a)/\y=.int n/\a.length<=1000/\0<=n/\n<=1000/\Q (.str<|S (List.replicate n.toNat a).flatten) H):=by
 intro f s σ H x y v u Q I g i h;obtain⟨a,n,rfl,rfl,j,w,l,q⟩:=h;obtain⟨k,rfl⟩:∃ k:Nat,n=k:=⟨n.toNat,by lia⟩;have m:k<=1000:=by lia
 obtain⟨t,rfl⟩:=g;obtain⟨o,rfl⟩:=i;have hok:MulOk (S a) k:=by
  refine⟨by simp;lia,λd c=>?_,λd c=>?_⟩
  ·rw[Ju];have A:1000<=(2 ^ 63-1)/(k:Int):=by
    rw[Int.le_ediv_iff_mul_le ∅]
    lia
   lia
  ·rw[Ju,U0];have B:a.length*k<=sizeLine:=N9 (Nat.mul_le_mul j m) (by decide);exact X6 ∅
 have e:Txt.mul (S a) k=S (List.replicate k a).flatten:=by
  have p:∀ n b,((List.replicate n a.toArray).foldl (·++·) b).toList=b.toList++(List.replicate n a).flatten:=by
   intro n
   induction n with
   | zero=>intro b;simp
   | succ n r=>intro b;rw[List.replicate_succ,X4,r];simp[List.replicate_succ]
  unfold Txt.mul;apply PyProof.Rows.ext_toList;rw[Js];by_cases d:(k:Int)<1
  ·have:k=0:=by lia
   subst this;simp[Str.empty]
  ·rw[if_neg d];by_cases c:((k:Int)==1||(S a).length==0)=true
   ·rw[if_pos c,Js];rw[Ju] at c;simp at c;rcases c with z | z
    ·have:k=1:=by lia
     subst this;simp
    ·subst z;simp
   ·rw[if_neg c,U0];exact(p k #[])
 refine SB.mul hok λo C=>?_;rw[e];exact⟨.str _,H,I.tok _,⟨_,rfl⟩,q⟩
section
variable {X:Cx}{pins:List (Addr×Obj)}{σ:St}{H:Hp}{s:Shared}{h':Heap}
def Inv.turnedNew{t'}{g:W5}{T:Addr}{xs}{its}(I:Inv X pins σ H s)(k:∀ b o,b∉g->s.heap.get? b=some o->h'.get? b=some o)(h:∀ b∈g,uE X pins H b)
  (hT:↥s<=T) (j:IsTupN h' T its) (l:Vals xs its.toList) (p:xs.length<=sizeLine):Inv X pins σ (upd H T<|.tup xs) {s with heap:=h',toks:=t'}:=by
 have i:∀ b u,H b=some u->b∉g:=λb u e z=>by rw[(h b z).1] at e;cases e
 have d:∀ b u,H b=some u->b≠T:=λb u e z=>by rw[z,I.hok.fresh hT] at e;cases e
 refine I.step (λb f=>?_) (λb o _ _ a e _=>k b o a e) (λb o _ _ a e _=>⟨o.slots,k b o a e⟩) (λb o _ e n=>?_)
  (λb o a e=>⟨o,k b o a e⟩) (λb t e=>by rw[je<|d b _ e];exact e) (λb o u e=>by rw[je<|d b _ e];exact e) (λb F e=>⟨#[],by rw[je<|d b _ e,e];simp⟩) (λm w=>?_) (λb u e=>?_) I.bare
 ·obtain⟨_,x,_,y,A,B⟩:=h b f;exact⟨y,x,A,B⟩
 ·rw[je<|λz=>absurd (N3 e)<|by rw[z];exact Nat.not_lt.mpr hT];exact n
 ·obtain⟨o,C,D,E,r⟩:=w;refine⟨o,C,D,k _ o (λz=>(h _ z).2.1 rfl) E,r⟩
 ·by_cases f:b=T
  ·subst f;rw[jl] at e;cases e;exact⟨p,its.toList,l,by simpa using j⟩
  ·rw[je f] at e;refine(I.hok b u e).stay (λc v a q=>k c v ?_ q) (λc q=>by rw[je<|d c _ q];exact q) λc t q=>by rw[je<|d c _ q];exact q
   rcases a with z | z
   ·rw[z];exact i b u e
   ·exact i c _ z
def Inv.turnedL{t'}{d:W5}(I:Inv X pins σ H s)(k:∀ b o,b∉d->s.heap.get? b=some o->h'.get? b=some o)(f:∀ b∈d,uE X pins H b):Inv X pins σ H {s with heap:=h',toks:=t'}:=by
 have g:∀ b u,H b=some u->b∉d:=λb u e z=>by rw[(f b z).1] at e;cases e
 refine I.step (λb h=>?_) (λb o _ _ a e _=>k b o a e) (λb o _ _ a e _=>⟨o.slots,k b o a e⟩) (λb o _ e n=>n)
  (λb o a e=>⟨o,k b o a e⟩) (λb A e=>e) (λb o u e=>e) (λb B e=>⟨#[],by rw[e];simp⟩) (λm i=>?_) (λb u e=>?_) I.bare
 ·obtain⟨_,j,_,l,p,t⟩:=f b h;exact⟨l,j,p,t⟩
 ·obtain⟨o,w,x,y,r⟩:=i;refine⟨o,w,x,k _ o (λz=>(f _ z).2.1 rfl) y,r⟩
 ·refine(I.hok b u e).stay (λc v a q=>k c v ?_ q) (λ_ q=>q) λ_ _ q=>q;rcases a with z | z
  ·rw[z];exact g b u e
  ·exact g c _ z
end
def jih{A}{E}{s:Shared}{i}{n}{us}{C:J0}
  (h:IsEnum s.heap e it n was) (hi:s.heap.IsListIter it l i) (I:s.heap.IsList l us) (J:us[i]?=some x) (ne:e≠it)
  (go:∀ k,IsEnumOut k e it (n+1) x ↥s->k.IsListIter it l (i+1)->k.get? ↥s=some {cls:=.type "tuple",data:=.seq #[.int n s.toks,x]} ->
   (∀ b o,b≠e->b≠it->s.heap.get? b=some o->k.get? b=some o)->C (.ref ↥s) {s with heap:=k,toks:=s.toks+1}):
  wpAny (model prog w) A (Builtin.«enumerate.__next__» ⟨[.ref e],[]⟩) (λfin s'=>∃ v,fin=.done (.ret v)/\C v s') E s:=by
 obtain⟨j,g,d,c,os⟩:=s;show wpAny _ _ (field (.ref e) 2 >>= _) _ _ _;refine L3<|U8 h rfl rfl<|L3<|wpAny_nextOf_list_item hi I J λQ K m=>?_;have p:=(m.2 e ne).trans h;refine L3<|U8 p rfl rfl<|L3<|U8 p rfl rfl<|L3<|wpAny_mkInt<|L3<|wpAny_setField_rec p (by simp) λR e2 q=>(L3<|wpAny_setField_rec e2 (by simp) λt e3 u=>(L3<|wpAny_newTuple ?_));have f:IsEnum (t.push {cls:=.type "tuple",data:=.seq #[.int n c,x]}) e it (n+1) was:=L8 _ e3;generalize y:t.push {cls:=.type "tuple",data:=.seq #[.int n c,x]}=k4 at f;have H:t.objs.size=j.objs.size:=by rw[u.1,q.1,m.1]
 have lt:=N3 h;have L:k4.get? j.objs.size=some {cls:=.type "tuple",data:=.seq #[.int n c,x]}:=by rw[<- y,<- H];exact E3 _ rfl
 have kp:∀ b o,b≠e->b≠it->j.get? b=some o->k4.get? b=some o:=λb o a z B=>by
  rw[<- y];exact L8 _<|u.extBut b o a<|q.extBut b o a<|m.extBut b o z B
 have M:k4.IsListIter it l (i+1):=by
  rw[<- y];obtain⟨o,N,r⟩:=(K.extBut q.extBut ne.symm).extBut u.extBut ne.symm;exact⟨o,L8 _ N,r⟩
 show wpAny _ _ (Builtin.SmallTypes.ownedTupleIsFree (.ref e) >>= _) _ _ ⟨k4,g,d,c+1,os⟩;rw[H];refine L3<|L3<|U8 f rfl rfl<|M8<|L3<|wpAny_rule<|L3<|U8 f rfl rfl<|L3<|wpAny_setField_rec f (by simp) λS e5 D=>(L3<|L3<|wpAny_setField_rec e5 (by simp) λT O F=>(wpAny_setField_rec O (by simp) λP e7 G=>(L3<|wpAny_letGo<|M8 ⟨_,rfl,go P e7 (((M.extBut D.extBut ne.symm).extBut F.extBut ne.symm).extBut G.extBut ne.symm) (G.extBut _ _ (Nat.ne_of_gt lt)<|F.extBut _ _ (Nat.ne_of_gt lt)<|D.extBut _ _ (Nat.ne_of_gt lt) L)<|λb o a z B=>G.extBut b o a<|F.extBut b o a<|D.extBut b o a<|kp b o a z B⟩)))
def jh0 
  (a:IsEnum s.heap e it n was) (hi:s.heap.IsListIter it l i) (c:s.heap.IsList l us) (d:us[i]?=some x) (ne:e≠it)
  (go:∀ k,IsEnumOut k e it (n+1) x ↥s->k.IsListIter it l (i+1)->k.get? ↥s=some {cls:=.type "tuple",data:=.seq #[.int n s.toks,x]} ->
   (∀ b o,b≠e->b≠it->s.heap.get? b=some o->k.get? b=some o)->C (some<|.ref ↥s) {s with heap:=k,toks:=s.toks+1}):wpAny (model prog w) A (pyNext<|.ref e) C E s:=by
 have ty:s.TypeIs (.ref e) "enumerate":=⟨_,a,rfl⟩;exact L3<|wpAny_attempt<|wpAny_callSpecial?_slot ty F.slot_enumerate_next<|wpAny_call_entry F.slot_enumerate_next ty F.entry_enumerate_next (jih a hi c d ne λk c1 f g h=>M8<|go k c1 f g h)<|F.args_enumerate_next_1 _
def jkk(d:A.handled=none)
  (c:IsEnum s.heap e it n was) (hi:s.heap.IsListIter it l i) (f:s.heap.IsList l us) (a:us[i]?=none)
  (go:∀ k,Heap.ExtBut it s.heap k->C none {s with heap:=k}):wpAny (model prog w) A (pyNext<|.ref e) C E s:=by
 have ty:s.TypeIs (.ref e) "enumerate":=⟨_,c,rfl⟩;refine L3<|wpAny_attempt<|wpAny_callSpecial?_slot ty F.slot_enumerate_next<|wpAny_call_entry F.slot_enumerate_next ty F.entry_enumerate_next ?_<|F.args_enumerate_next_1 _;show wpAny _ _ (field (.ref e) 2 >>= _) _ _ _;refine L3<|U8 c rfl rfl<|L3<|wpAny_nextOf_list_end d hi f a λk x b a=>?_;obtain⟨o,g,h⟩:=a;exact L3<|wpAny_isInstance ⟨o,g,h⟩ isSubtype_stop<|M8<|go _ b
def Itn(K:W4)(l:Addr)(n:Int):It:=
 ⟨λi H=>∃ xs x,SqL K H l xs/\xs[i]?=some x,λi H x H'=>∃ p v,(∀ xs,SqL K H l xs->xs[i]?=some v)/\x=.ref p/\H p=none/\H'=upd H p (.tup [.int<|n+i,v]),λi H=>∃ xs,SqL K H l xs/\xs.length<=i⟩
def jcc{P}{w}{K}{elts}{m}{pos}(e a l)(n)(t:e≠a)(Y:l≠e)(Z:l≠a):
  Turn P w K (.Tuple elts m pos) (Itn K l n) [e,a] e (λi h=>(∃ old,IsEnum h e a (n+i) old)/\h.IsListIter a l i) where
 mem:=by simp
 obj:=λi h c b d=>by
  obtain⟨⟨old,f⟩,o,F,G,hd⟩:=c;rcases(⇑d:b=e\/b=a) with z | z
  ·subst z;exact⟨_,f,λv q=>by cases q⟩
  ·subst z;exact⟨o,F,λv q=>by rw[hd] at q;cases q⟩
 keep:=λi h h' c k=>by
  obtain⟨⟨old,f⟩,hit⟩:=c;exact⟨⟨old,k e (by simp) _ f⟩,hit.at<|k a<|by simp⟩
 item:=by
  intro X J L M G i y s σ H E I C c N;subst J L M;obtain⟨V,x,D,O⟩:=N;obtain⟨Q,R,p,hz⟩:=I.list D;obtain⟨u,hu,ru⟩:=R.get O;obtain⟨⟨old,f⟩,hit⟩:=c;refine jh0 f hit p.isList ⇑hu t λh1 F A hT hk=>⟨_,rfl,wpAny_letOwnedTupleGo_enum F λW S j=>?_⟩;have g:=N3 f;have B:=(j.2 _<|Nat.ne_of_gt g).trans hT;have kk:∀ b o,b∉[e,a]->s.heap.get? b=some o->W.get? b=some o:=λb o d q=>by
   have r:b≠e/\b≠a:=by simpa using d
   exact(j.2 b r.1).trans (hk b o r.1 r.2 q)
  have I1:=I.turnedNew (t':=s.toks+1) (xs:=[.int<|n+i,x]) kk C (N1 _) ⟨⟨_,B,rfl,_,rfl⟩,_,B,rfl⟩ (.cons ⟨_,rfl⟩<|.cons ru .nil) (by show 2<=sizeLine;decide);have T:IsEnum W e a (n+((i+1:Nat):Int)) u:=by
   have q:=S;rw[show n+((i+1:Nat):Int)=n+i+1 by lia];exact q
  refine⟨.ref ↥s,_,I1,rfl,⟨_,x,(λys hy=>by rw[I.list_inj hy D];exact O),rfl,I.hok.fresh<|N1 _,rfl⟩,⟨⟨_,T⟩,A.at λo q=>(j.2 a t.symm).trans q⟩,λb d=>?_⟩;rw[je]
  ·exact(C b d).1
  ·intro z;have:b < ↥s:=by
    obtain⟨oi,U,_⟩:=id hit;rcases(⇑d:b=e\/b=a) with q | q
    ·rw[q];exact g
    ·rw[q];exact N3 U
   exact absurd this (by rw[z];exact Nat.lt_irrefl _)
 done:=by
  intro X J L M G i y s σ H E I C c N;subst J L M;obtain⟨V,D,O⟩:=N;obtain⟨Q,R,p,hz⟩:=I.list D;obtain⟨⟨old,f⟩,hit⟩:=c;have hl:=R.length;exact jkk (I.ok.hd G) f hit p.isList (by simp;lia) λh1 eb=>⟨rfl,I.turnedL (λb o d q=>eb b o (by simp at d;exact d.2) q) C⟩
 self:=λ_ _ _ _ _ c h=>wpAny_pyIter_enum c.1.choose_spec h
def ji5(K:W4)(tl:TA):TI:=λσ H R=>tl σ H λvs H1=>∃ a xs,vs=[.ref a]/\SqL K H1 a xs/\R (Itn K a 0) H1
section
variable {X:Cx}
def jhX{elts}{n}{tpos p pos}{a}{ta}(k:Gl X "enumerate")(m:X.mg "enumerate" = none)(r:PA X [a] ta)(t:starEach [a] X.env=[(false,eval a X.env)]:=by rfl):
  PI X (.Tuple elts n tpos) (.Call (.Name "enumerate" p) [a] [] pos) (ji5 X.K ta):=by
 intro c s σ H R I h;refine Call_<|Yc I k m (show bootBuiltins "enumerate" = some (.type "enumerate") by decide +kernel)<|PyProof.Rows.callWith_type1 (thn (r pos c s σ H _ I h) λF s1 ⟨vs,i,g,r1,v⟩=>?_) t rfl;obtain⟨l,G,rfl,w,q⟩:=v;obtain⟨u,rfl,x⟩:=r1.one;cases x;obtain⟨y,J,pl,L⟩:=g.list w;have d:l < ↥s1:=by
  obtain⟨o,_,e,_⟩:=pl;exact N3 e
 refine call_enumerate_list pl.isList λA j hit B C=>?_;have D:Inv X c σ i {s1 with heap:=A}:=g.kept C;refine PySem.wpAny_pyIter_enum j ⟨↥s1+1,[↥s1+1,↥s1],_,_,i,rfl,D,jcc _ _ l 0 (Nat.succ_ne_self _) (N8<|Nat.lt_succ_of_lt d)<|N8 d,⟨⟨_,by simpa using j⟩,hit⟩,λb E=>?_,q⟩;have f:↥s1<=b:=by
  rcases(⇑E:b=↥s1+1\/b=↥s1) with z | z
  ·rw[z];exact Nat.le_succ _
  ·rw[z];exact N1 _
 exact g.fpOk f<|g.hok.fresh f
end
section
variable {X:Cx}
def Vx(c:X.calm=true):kR X (.builtin "sum") (λxs H Q=>∃(p:Addr) (ns:List Int),xs=[.ref p]/\SqL X.K H p (ns.map V.int)/\Q (.int ns.sum) H):=by
 intro a s σ H xs k Q I r h;obtain⟨p,ns,rfl,d,q⟩:=h;obtain⟨u,rfl,e⟩:=r.one;cases e;obtain⟨f,g,pl,l⟩:=I.list d;have hi:=Kx g;obtain⟨zs,b⟩:=hi.allInts.items;refine sum_intListG (I.ok.hd c) (b▸pl.isList) λm n o i=>?_;have j:ns=zs.toList.map (·.1):=by
  rw[<- nums_intItems,<- b];exact(hi.numsOf).symm
 have e2:preSum (numAt zs) zs.size=ns.sum:=by
  rw[preSum_eq,List.take_of_length_le<|by simp,j]
 rw[e2];exact⟨.int ns.sum,H,I.kept i,⟨_,rfl⟩,q⟩
inductive TyQ (K:W4) (H:Hp):V->String->Prop where
 | non:TyQ K H .non "NoneType"
 | bl (x:Bool):TyQ K H (.bl x) "bool"
 | int (i:Int):TyQ K H (.int i) "int"
 | str (x:Str):TyQ K H (.str x) "str"
 | lst {a:Addr}{xs:List V}(e:SqL K H a xs):TyQ K H (.ref a) "list"
 | tup {a:Addr}{xs:List V}(e:SqT K H a xs):TyQ K H (.ref a) "tuple"
 | dK {a:Addr}{kvs:List (Key×V)}(e:H a=some (.dK kvs)):TyQ K H (.ref a) "dict"
def xC:kR X (.builtin "isinstance") (λxs H Q=>∃ x T t b,xs=[x,.ty T]/\TyQ X.K H x t/\PySem.W.kitOne X.K (.type t) (.type T)=some b/\Q (.bl b) H):=by
 intro d s σ H xs w Q I r h;obtain⟨x,T,t,b,rfl,ty,e,q⟩:=h;obtain⟨u,v,rfl,r1,r2⟩:=r.two;cases r2;have c:∀ k,EP X d σ Q (.bool b) {s with toks:=k}:=λk=>⟨.bl b,H,I.tok k,rfl,q⟩;cases ty with
 | non=>cases(r1);exact PySem.W.kia_one PySem.W.kitx_none I.kIn True.intro e (λz=>nomatch z) c
 | bl y=>cases(r1);exact PySem.W.kia_one PySem.W.kitx_bool I.kIn True.intro e (λz=>nomatch z) c
 | int i=>obtain⟨t,q⟩:=(r1);cases q;exact PySem.W.kia_one PySem.W.kitx_int I.kIn True.intro e (λz=>nomatch z) c
 | str y=>obtain⟨t,q⟩:=(r1);cases q;exact PySem.W.kia_one PySem.W.kitx_str I.kIn True.intro e (λz=>nomatch z) c
 | @lst a xs f=>
  cases(r1);obtain⟨l,_,⟨o,n,g,j,_,_⟩,_⟩:=I.list f;exact PySem.W.kia_one PySem.W.kitx_list I.kIn ⟨o,g,j⟩ e (λz=>nomatch z) c
 | @tup a xs f=>
  cases(r1);obtain⟨l,_,⟨o,g,j,_⟩,_⟩:=I.tuple f;exact PySem.W.kia_one PySem.W.kitx_tuple I.kIn ⟨o,g,j⟩ e (λz=>nomatch z) c
 | @dK a m f=>
  cases(r1);obtain⟨_,_,vs,_,p⟩:=(I.hok a _ f);obtain⟨o,A,B,g,j,_⟩:=p;exact PySem.W.kia_one PySem.W.kitx_dict I.kIn ⟨o,g,j.1⟩ e (λz=>nomatch z) c
end
section
variable {κ:Type} [DecidableEq κ]
noncomputable def V7(kvs:List<|κ×V)(k:κ):Option V:=(kvs.find? λkv=>decide<|kv.1=k).map (·.2)
noncomputable def JL(kvs:List<|κ×V)(k:κ)(v:V):List (κ×V):=
 if(kvs.any λkv=>decide<|kv.1=k)=true then kvs.map (λkv=>if kv.1=k then(kv.1,v) else kv) else kvs++[(k,v)]
def JW{p}{r:List (κ×V)}(e:p.1=k):V7 (p::r) k=some p.2:=by simp[V7,List.find?_cons,e]
def JP{p}{r:List (κ×V)}(e:¬ p.1=k):V7 (p::r) k=V7 r k:=by simp[V7,List.find?_cons,e]
theorem jaz(k):∀ kvs:List (κ×V),(kvs.any λkv=>decide<|kv.1=k)=(V7 kvs k).isSome
 | []=>rfl
 | p::r=>by
  rw[List.any_cons];by_cases e:p.1=k
  ·simp only[JW e,X5 e,Bool.true_or,Option.isSome_some]
  ·rw[JP e,X6 e,Bool.false_or];exact jaz k r
def JH(a)(k:κ)(v):(JL a k v).length<=a.length+1:=by
 unfold JL;split
 ·rw[L1];lia
 ·rw[N6,M3,List.length_nil];lia
def RelO.isSome_eq(r:RelO o u):o.isSome=u.isSome:=by
 cases o with
 | none=>cases u with
  | none=>rfl
  | some _=>exact(r).elim
 | some _=>cases u with
  | none=>exact(r).elim
  | some _=>rfl
def RelO.getD(r:RelO o u)(rd:RelV d d'):RelV (o.getD d) (u.getD d'):=by
 cases o with
 | none=>cases u with
  | none=>exact rd
  | some _=>exact(r).elim
 | some _=>cases u with
  | none=>exact(r).elim
  | some _=>exact r
def KV.val(r:KV kvs vs)(k:κ):RelO (V7 kvs k) (valueAt vs k):=by
 induction r with
 | nil=>exact True.intro
 | @cons p q i a h t f=>
  obtain⟨d,g⟩:=h;by_cases e:p.1=k
  ·have c:=d.symm.trans e;have b:valueAt (q::a) k=some q.2:=by simp[valueAt,List.find?_cons,c]
   rw[JW e,b];exact g
  ·have c:¬ q.1=k:=λz=>e<|d.trans z;have b:valueAt (q::a) k=valueAt a k:=by simp[valueAt,List.find?_cons,c]
   rw[JP e,b];exact f
def KV.any(r:KV kvs vs)(k:κ):(kvs.any λkv=>decide<|kv.1=k)=vs.any λkv=>decide (kv.1=k):=by
 induction r with
 | nil=>rfl
 | cons h t a=>rw[List.any_cons,List.any_cons,a,h.1]
def KV.repl(r:KV kvs vs)(k:κ)  (b:RelV y u):
  KV (kvs.map λkv=>if kv.1=k then(kv.1,y) else kv) (vs.map λkv=>if kv.1=k then(kv.1,u) else kv):=by
 induction r with
 | nil=>exact .nil
 | @cons p q f g h t c=>
  rw[L5,L5];refine .cons ?_ c;obtain⟨a,d⟩:=h;by_cases e:p.1=k
  ·rw[if_pos e,if_pos<|a.symm.trans e];exact⟨a,b⟩
  ·rw[if_neg e,if_neg<|λz=>e<|a.trans z];exact⟨a,d⟩
def KV.put(r:KV kvs vs)(k:κ)  (a:RelV y u):KV (JL kvs k y) (stored vs k u):=by
 unfold JL stored;rw[r.any k];by_cases e:(vs.any λb=>decide<|b.1=k)=true
 ·rw[if_pos e,if_pos e];exact r.repl k a
 ·rw[if_neg e,if_neg e];exact Paired.snoc r ⟨rfl,a⟩
def KV.length(r:KV kvs vs):kvs.length=vs.length:=Paired.length r
end
def jeC(r:RelV (kV k) u):(jX P w).is k u=true:=by
 cases k with
 | inl i=>obtain⟨t,e⟩:=(r);subst e;exact ub P w i t
 | inr x=>obtain⟨t,e⟩:=(r);subst e;exact um P w x t
theorem zK:∀{ks}{us},Vals (ks.map kV) us->ItemsAre (jX P w) ks us
 | [],_,r=>by rw[List.map_nil] at r;cases r;exact .nil
 | k::ks,_,r=>by
  cases r with
  | cons h t=>exact .cons (jeC h)<|zK t
abbrev KT(H:Hp):List (List Key×V)->List (List Key×Addr×Value)->Prop:=Paired λp q=>p.1=q.1/\H q.2.1=some (.tup<|p.1.map kV)/\RelV p.2 q.2.2
def KT.val(r:KT H kvs xs)(k):RelO (V7 kvs k) ((atKey xs k).map (·.2)):=by
 induction r with
 | nil=>exact True.intro
 | @cons p q i a h t f=>
  obtain⟨d,_,g⟩:=h;by_cases e:p.1=k
  ·have c:=d.symm.trans e;have b:atKey (q::a) k=some q.2:=by simp[atKey,List.find?_cons,c]
   rw[JW e,b];exact g
  ·have c:¬ q.1=k:=λz=>e<|d.trans z;have b:atKey (q::a) k=atKey a k:=by simp[atKey,List.find?_cons,c]
   rw[JP e,b];exact f
def KT.repl(r:KT H kvs xs)(k)  (c:RelV y u):
  KT H (kvs.map λkv=>if kv.1=k then(kv.1,y) else kv) (xs.map<|putAt k u):=by
 induction r with
 | nil=>exact .nil
 | @cons p q g i h t d=>
  rw[L5,L5];refine .cons ?_ d;obtain⟨a,b,f⟩:=h;unfold putAt;by_cases e:p.1=k
  ·rw[if_pos e,if_pos<|a.symm.trans e];exact⟨a,b,c⟩
  ·rw[if_neg e,if_neg<|λz=>e<|a.trans z];exact⟨a,b,f⟩
def KT.put(r:KT H kvs xs)(k)  (c:H b=some (.tup<|k.map kV)) (a:RelV y u):
  KT H (JL kvs k y) (storedH xs k b u):=by
 have e:(kvs.any λd=>decide<|d.1=k)=(atKey xs k).isSome:=by
  rw[jaz,(r.val k).isSome_eq,Option.isSome_map]
 unfold JL storedH;rw[e];by_cases q:(atKey xs k).isSome=true
 ·rw[if_pos q,if_pos q];exact r.repl k a
 ·rw[if_neg q,if_neg q];exact Paired.snoc r ⟨rfl,c,a⟩
def KT.keeps(r:KT H kvs xs)(a:∀ b ys,H b=some (.tup ys)->H' b=some (.tup ys)):KT H' kvs xs:=
 Paired.mapP r λ_ _ z=>⟨z.1,a _ _ z.2.1,z.2.2⟩
def jnK(ok:HOk P w H h)(e:Rd H a u):ObjOk P w H h a u:=e.ok ok
def xV(ok:HOk P w H h)(e:Rd H a<|.dK kvs):kvs.length<=sizeLine/\(a==sysModules)=false/\∃ vs,KV kvs vs/\h.DictOf (jX P w) a vs:=
 jnK ok e
def jlt(ok:HOk P w H h)(e:H a=some (.dK kvs)):kvs.length<=sizeLine/\(a==sysModules)=false/\∃ vs,KV kvs vs/\h.DictOf (jX P w) a vs:=xV ok<|.inl e
def xj(ok:HOk P w H h)(e:H a=some (.tup<|ks.map kV)):(tupleKind<|jX P w).is h ks a:=by
 obtain⟨_,b,r,⟨o,c,d,n,f⟩,_⟩:=(ok a _ e);exact⟨o,b.toArray,n,c,d,f,by simpa using zK r⟩
def jbD(ok:HOk P w H h)(e:Rd H a<|.dT kvs):kvs.length<=sizeLine/\(a==sysModules)=false /\
  ∃ xs,KT H kvs xs/\h.DictOfH (tupleKind<|jX P w) a xs:=by
 obtain⟨z,y,xs,r,o,d,f,g,i,j,k,n⟩:=(jnK ok e);refine⟨z,y,xs,r,o,d,f,g,i,j,k,λx b=>?_,n⟩;have all:∀{l}{m},KT H l m->∀ x∈m,(tupleKind<|jX P w).is h x.1 x.2.1:=by
  intro l m q
  induction q with
  | nil=>intro x b;exact nomatch b
  | @cons p q u v c t s=>
   intro x b;rcases M5.mp b with e | b
   ·subst e;exact xj ok (by rw[<- c.1];exact c.2.1)
   ·exact s x b
 exact all r x b
def jmx(ok:HOk P w H h)(e:H a=some (.dT kvs)):kvs.length<=sizeLine/\(a==sysModules)=false /\
  ∃ xs,KT H kvs xs/\h.DictOfH (tupleKind<|jX P w) a xs:=jbD ok<|.inl e
def DGet(H:Hp)(a:Addr)(y:V)(r:Option V):Prop:=
 (∃ kvs k,Rd H a (.dK kvs)/\y=kV k/\r=V7 kvs k) \/ ∃ kvs k b,Rd H a (.dT kvs)/\y=.ref b/\H b=some (.tup<|k.map kV)/\r=V7 kvs k
def DPut(H:Hp)(a:Addr)(y v:V)(H':Hp):Prop:=
 (∃ kvs k,H a=some (.dK kvs)/\y=kV k/\kvs.length<sizeLine/\H'=upd H a (.dK<|JL kvs k v)) \/
 ∃ kvs k b,H a=some (.dT kvs)/\y=.ref b/\H b=some (.tup<|k.map kV)/\kvs.length<sizeLine/\H'=upd H a (.dT<|JL kvs k v)
theorem DGet.k{H}{a}{b}{k}(e:H a=some (.dK b)):DGet H a (kV k) (V7 b k):=.inl ⟨b,k,.inl e,rfl,rfl⟩
def DGet.t{c}{k}(e:H a=some (.dT c))(d:H b=some (.tup<|k.map kV)):DGet H a (.ref b) (V7 c k):=.inr ⟨c,k,b,.inl e,rfl,d,rfl⟩
theorem DPut.k{H}{a}{b}{k}{v}(e:H a=some (.dK b))(c:b.length<sizeLine):DPut H a (kV k) v (upd H a<|.dK<|JL b k v):=.inl ⟨b,k,e,rfl,c,rfl⟩
def DPut.t{c}{k}(e:H a=some (.dT c))(d:H b=some (.tup<|k.map kV))(f:c.length<sizeLine):
  DPut H a (.ref b) v (upd H a<|.dT<|JL c k v):=.inr ⟨c,k,b,e,rfl,d,f,rfl⟩
def Inv.big(I:Inv X pins σ H s):sysModules < ↥s:=by
 have h:=(I.mod.glob.keeps I.bk).lt;exact Nat.lt_trans (by decide) h
def zo(q:A.units+1<cLine)(I:Inv X pins σ H s)(g:DGet H a y<|some v)(o:RelV y u)(h:∀ w' s',Inv X pins σ H s'->RelV v w'->Q w' s'):
  wpAny (model X.prog X.w) A (getItem (.ref a) u) Q E s:=by
 rcases g with⟨f,k,e,i,l⟩ | ⟨f,k,b,e,i,r,l⟩
 ·subst i;obtain⟨z,hd,vs,c,j⟩:=xV I.hok e;obtain⟨w',m,d⟩:=RelO.some_of (by rw[l];exact c.val k);exact wpAny_getItem_of (jeC o) j.mapOf m<|h w' _ (I.tok _) d
 ·subst i;cases(o);obtain⟨z,hd,x,c,j⟩:=jbD I.hok e;obtain⟨w',m,d⟩:=RelO.some_of (by rw[l];exact c.val k);obtain⟨p,t,n⟩:=Option.map_eq_some_iff.mp m;refine wpAny_getItem_heap (tupleKind_room_in1 q) (xj I.hok r) j t ?_;rw[n];exact h w' _ (I.tok _) d
def jiP(m:A.units+1<cLine)(I:Inv X pins σ H s)(g:DGet H a y o)(j:RelV y u)(h:∀ s',Inv X pins σ H s'->Q (.bool<|!o.isSome) s'):
  wpAny (model X.prog X.w) A (compareOp .NotIn u<|.ref a) Q E s:=by
 rcases g with⟨d,k,e,f,l⟩ | ⟨d,k,b,e,f,n,l⟩
 ·subst f;obtain⟨z,hd,vs,c,i⟩:=xV I.hok e;refine wpAny_notIn_of (jeC j) hd i.mapOf ?_;rw[<- (c.val k).isSome_eq,<- l];exact h _<|I.tok _
 ·subst f;cases(j);obtain⟨z,hd,p,c,i⟩:=jbD I.hok e;refine wpAny_notIn_heap (tupleKind_room_in1 m) (xj I.hok n) hd i ?_;have q:=(c.val k).isSome_eq;rw[Option.isSome_map] at q;rw[<- q,<- l];exact h _<|I.tok _
def wI(I:Inv X pins σ H s)(c:Mut<|H a)(d:Heap.SameBut a s.heap h')(e:∃ q,h'.get? a=some q)(new:ObjOk X.prog X.w (upd H a ob) h' a ob):
  Inv X pins σ (upd H a ob) {s with heap:=h',toks:=t'}:=
 I.write c (.inl rfl) (λb q f z=>(d.2 b f).trans z) e new
def jna(z:kvs.length<=sizeLine)(hd:(a==sysModules)=false)(b:KV kvs vs)(c:h'.DictOf (jX P w) a vs):
  ObjOk P w H' h' a (.dK kvs):=⟨z,hd,vs,b,c⟩
def jny{A:Around}(G:∀ kvs,H a=some (.dT kvs)->A.units+1<cLine)(I:Inv X pins σ H s)(g:DPut H a y v H')(x:RelV y u)(B:RelV v r)(h:∀ s',Inv X pins σ H' s'->Q () s'):
  wpAny (model X.prog X.w) A.in1 (dictSet a u r) Q E s:=by
 rcases g with⟨kvs,k,e,j,l,m⟩ | ⟨kvs,k,b,e,j,C,l,m⟩
 ·subst j m;obtain⟨z,hd,vs,d,n⟩:=jlt I.hok e;have o:vs.length<=sizeLine:=by rw[<- d.length];exact z
  have p:(JL kvs k v).length<=sizeLine:=by have:=JH kvs k v;lia
  refine wpAny_dictSet_pairs (hsz:=o) (jeC x) n λD f t=>h _ ?_;have J:∃ q,D.get? a=some q:=let ⟨q,_,_,i,_⟩:=f;⟨q,i⟩
  exact wI I (by rw[e];exact True.intro) t J<|jna p hd (d.put k B) f
 ·subst j m;cases(x);obtain⟨z,hd,K,d,n⟩:=jmx I.hok e;have o:K.length<=sizeLine:=by rw[<- Paired.length d];exact z
  have p:(JL kvs k v).length<=sizeLine:=by have:=JH kvs k v;lia
  refine wpAny_dictSet_heap (hsz:=o) (tupleKind_room_in1<|G _ e) (xj I.hok C) n λD f t=>h _ ?_;obtain⟨q,L,M,i,N,O,P,_,R⟩:=f;refine wI I (by rw[e];exact True.intro) t ⟨q,i⟩ ⟨p,hd,_,(d.put k C B).keeps λc S F=>?_,q,L,M,i,N,O,P,R⟩;rw[je<|jpJ F e<|λz=>nomatch z];exact F
def zU(c:A.units+1<cLine)(I:Inv X pins σ H s)(g:DPut H a y v H')(f:RelV y u)(i:RelV v r)(h:∀ s',Inv X pins σ H' s'->Q () s'):
  wpAny (model X.prog X.w) A (setItem (.ref a) u r) Q E s:=by
 have b:s.TypeIs (.ref a) "dict":=by
  rcases g with⟨_,_,e,_⟩ | ⟨_,_,_,e,_⟩
  ·obtain⟨_,_,_,_,d⟩:=jlt I.hok e;exact d.typeIs
  ·obtain⟨_,_,_,_,d⟩:=jmx I.hok e;exact d.typeIs
 unfold setItem;refine wpAny_holding<|L3<|wpAny_sequenceKey b (by decide) ?_;refine L3<|wpAny_callSpecial?_slot (name:=Str.ofString "__setitem__") b PySem.F.slot_dict_setitem<|wpAny_call_entry PySem.F.slot_dict_setitem b PySem.F.entry_dict_setitem ?_<|PySem.F.args_dict_setitem_3 _ _ _;refine L3<|wpAny_notOrdered_dict b ?_;show wpAny _ _ (dictSet a u r >>= _) _ _ s;exact L3<|jny (λ_ _=>c) I g f i λs1 J=>M8 ⟨.none,rfl,M8<|h s1 J⟩
def jpv(i:Expr):Prop:=∀ ov iv,subscripted i false ov iv=operate [ov,iv] (getItem ov iv)
def jiU{prog}{w}{A}{E}{s}{env}{value slice}{pos}{T id}{Q}
  (d:typeLookup (.type T) "__getitem__" = pure (some<|.builtin id)) (e:jpv slice)
  (h:wpAny (model prog w) A (eval value env) (λo s₁=>wpAny (model prog w) A (eval slice env) (λi s₂=>s₂.TypeIs o T/\wpAny (model prog w) A (getItem o i) Q E s₂) E s₁) E s):
  wpAny (model prog w) A (eval (.Subscript value slice pos) env) Q E s:=by
 refine Subscript_<|wpAny_mono h (λo s₁ f=>wpAny_mono f (λi s₂ b=>?_) λ_ _ x=>x) λ_ _ x=>x;obtain⟨g,b⟩:=b;refine L3 ?_;refine L3<|wpAny_specialOf g d ?_;have a:wpAny (model prog w) A (subscripted slice false o i) (λr c=>wpAny (model prog w) A (letTemporaryGo value o r >>= λ_=>pure r) Q E c) E s₂:=by
  rw[e o i];exact wpAny_operating<|wpAny_mono b (λr c j=>L3<|wpAny_letTemporaryGo<|M8 j) λ_ _ x=>x
 first
  | exact M8 (L3 a)
  | exact L3 (M8 (L3 a))
  | exact L3 a
def uc(I:Inv X pins σ H s)(g:DGet H a y o):s.TypeIs (.ref a) "dict":=by
 rcases g with⟨c,k,e,_,_⟩ | ⟨c,k,b,e,_,_,_⟩
 ·obtain⟨_,_,vs,_,d⟩:=xV I.hok e;exact d.typeIs
 ·obtain⟨_,_,f,_,d⟩:=jbD I.hok e;exact d.typeIs
def jh5(td ty:TE):TE:=λσ H Q=>td σ H λx H1=>ty σ H1 λy H2=>∃ a v,x=.ref a/\DGet H2 a y (some v)/\Q v H2
def Qu(ty td:TE):TE:=λσ H Q=>ty σ H λy H1=>td σ H1 λx H2=>∃ a o,x=.ref a/\DGet H2 a y o/\Q (.bl<|!o.isSome) H2
def KY(td ty tv:TE):TS:=λD σ H=>tv σ H λv H1=>td σ H1 λx H2=>ty σ H2 λy H3=>∃ a H4,x=.ref a/\DPut H3 a y v H4/\D.nx σ H4
def ze(td ty tv:TE)(rd:V->V->Hp->VK->Prop):TS:=λD σ H=>td σ H λx H1=>ty σ H1 λy H2=>∃ a v,x=.ref a/\DGet H2 a y (some v) /\
 tv σ H2 λy2 H3=>rd v y2 H3 λz H4=>∃ H5,DPut H4 a y z H5/\D.nx σ H5
def jhU(e:X.A.units+1<cLine)(f:PE X o td)(hi:PE X i ty)(j:jpv i):PE X (.Subscript o i pos) (jh5 td ty):=by
 intro b s σ H Q I h;refine jiU PySem.F.slot_dict_getitem.lookup j<|thn (f b s σ H _ I h) λu s1 ⟨x,k,l,m,n⟩=>thn (hi b s1 σ k _ l n) λz s2 p=>?_;obtain⟨y,q,d,r,a,v,ex,g,t⟩:=p;subst ex;obtain rfl:u=Value.ref a:=m;exact⟨uc d g,zo e d g r λB C w c=>⟨v,q,w,c,t⟩⟩
def jdU(c:X.A.units+1<cLine)(hi:PE X i ty)(d:PE X o td):PC X .NotIn i o (Qu ty td):=by
 intro b s σ H Q I h;refine thn (hi b s σ H _ I h) λv s1 ⟨y,e,f,j,k⟩=>thn (d b s1 σ e _ f k) λu s2 l=>?_;obtain⟨x,m,n,p,a,q,ex,g,r⟩:=l;subst ex;obtain rfl:u=Value.ref a:=p;exact jiP c n g j λw t=>⟨.bl<|!q.isSome,m,t,rfl,r⟩
def QA(c:X.A.units+1<cLine)(d:PE X o td)(hi:PE X i ty)(e:PE X value tv)(f:swapsWith value (some<|.Subscript o i pos') pos.line X.env=pure false):
  PS X (.Assign [.Subscript o i pos'] value pos) (KY td ty tv):=by
 intro b s σ H D I h;refine wpAny_Assign_Subscript (thn (e b s σ H _ I h) λr s1 ⟨v,j,k,l,m⟩=>thn (d b s1 σ j _ k m) λu s2 ⟨x,n,p,q,t⟩=>thn (hi b s2 σ n _ p t) λG J w=>?_) f;obtain⟨y,K,z,B,a,C,ex,g,E⟩:=w;subst ex;obtain rfl:u=Value.ref a:=q;exact zU c z g B l λL F=>⟨σ,C,F,E⟩
def K8(j:X.A.units+1<cLine)(l:PE X o td)(hi:PE X i ty)(m:PE X value tv)(c:jod X op rd)
  (n:∀ ov iv new,augStore i ov iv new=(do holding [new,ov,iv] (setItem ov iv new);release [new,ov,iv] [];pure .next)):PS X (.AugAssign (.Subscript o i tpos) op value pos) (ze td ty tv rd):=by
 intro b s σ H D I h;refine wpAny_AugAssign_SubscriptAny (thn (l b s σ H _ I h) λu s1 ⟨x,p,q,r,t⟩=>thn (hi b s1 σ p _ q t) λiv s2 d=>?_) n;obtain⟨y,w,B,k,a,v,ex,g,C⟩:=d;subst ex;obtain rfl:u=Value.ref a:=r;refine zo j B g k λE F G e=>thn (m b F σ w _ G C) λw2 J ⟨K,L,M,f,N⟩=>thn (c b J σ L v K E w2 _ M e f N) λU V d=>?_;obtain⟨z,W,O,P,Q,R,S⟩:=d;exact zU j O R k P λY T=>⟨σ,Q,T,S⟩
def u4(h:Heap)(a:sysModules<h.objs.size):ObjOk P w H (h.push {cls:=.type "dict",data:=.dict #[]}) h.objs.size (.dK []):=
 ⟨U7 _,U4.mpr<|Ne.symm<|N8 a,[],.nil,Heap.DictOf.new h⟩
def jau(h:Heap)(a:sysModules<h.objs.size):ObjOk P w H (h.push {cls:=.type "dict",data:=.dict #[]}) h.objs.size (.dT []):=
 ⟨U7 _,U4.mpr<|Ne.symm<|N8 a,[],.nil,_,#[],0,E3 _ rfl,⟨rfl,rfl,rfl⟩,rfl,rfl,List.nodup_nil⟩
def jcD:TE:=λ_ H Q=>∀ p,H p=none->Q (.ref p) (upd H p<|.dK [])
def jeD:TE:=λ_ H Q=>∀ p,H p=none->Q (.ref p) (upd H p<|.dT [])
def jft:PE X (.Dict [] [] pos) jcD:=λa s σ H Q I h=>
 wpAny_Dict_empty ⟨.ref ↥s,_,I.laid (λ_ _ q=>L8 _ q) (N1 _)<|u4 s.heap I.big,rfl,h _<|I.hok.fresh<|N1 _⟩
def jgF:PE X (.Dict [] [] pos) jeD:=λa s σ H Q I h=>
 wpAny_Dict_empty ⟨.ref ↥s,_,I.laid (λ_ _ q=>L8 _ q) (N1 _)<|jau s.heap I.big,rfl,h _<|I.hok.fresh<|N1 _⟩
structure M1(X:Cx)(o:Expr)(m:Str)(apos:Pos)(e:Expr)(cpos:Pos):Prop where
 base:attributeBase o m X.env (eval o X.env)=eval o X.env
 few:((backTo cpos<|starEach [e] X.env).all (λx=>!x.1)&&(backToKw cpos<|keywordEach [] X.env).all (λx=>x.1.isSome)
  && decide (([e]:List Expr).length+([]:List Keyword).length+(if([]:List Keyword).isEmpty then 0 else 1)<30))=true
 line:(apos.endLine==cpos.line)=true
 trees:backTo cpos (starEach [e] X.env)=[(false,eval e X.env)]
structure M2(X:Cx)(o:Expr)(m:Str)(apos:Pos)(e f:Expr)(cpos:Pos):Prop where
 base:attributeBase o m X.env (eval o X.env)=eval o X.env
 few:((backTo cpos<|starEach [e,f] X.env).all (λx=>!x.1)&&(backToKw cpos<|keywordEach [] X.env).all (λx=>x.1.isSome)
  && decide (([e,f]:List Expr).length+([]:List Keyword).length+(if([]:List Keyword).isEmpty then 0 else 1)<30))=true
 line:(apos.endLine==cpos.line)=true
 trees:backTo cpos (starEach [e,f] X.env)=[(false,eval e X.env),(false,eval f X.env)]
def IsD(H:Hp)(a:Addr):Prop:=(∃ kvs,Rd H a<|.dK kvs) \/ ∃ kvs,Rd H a<|.dT kvs
def jbW(I:Inv X pins σ H s)(d:IsD H a):
  s.TypeIs (.ref a) "dict"/\(∀ b,Value.ref a=.ref b->∃ ob,s.heap.get? b=some ob/\ob.dict=none)/\(a==sysModules)=false:=by
 rcases d with⟨f,e⟩ | ⟨f,e⟩
 ·obtain⟨_,hd,vs,_,c⟩:=xV I.hok e;refine⟨c.typeIs,λb q=>?_,hd⟩;cases q;obtain⟨ob,_,_,g,h,_⟩:=c;exact⟨ob,g,h.2.1⟩
 ·obtain⟨_,hd,i,_,c⟩:=jbD I.hok e;refine⟨c.typeIs,λb q=>?_,hd⟩;cases q;obtain⟨ob,_,_,g,h,_⟩:=c;exact⟨ob,g,h.2.1⟩
def jm1(n:A.units+1<cLine)(I:Inv X pins σ H s)(g:DGet H a y o)(m:RelV y u)(rd:RelV d r)(h:∀ w' s',Inv X pins σ H s'->RelV (o.getD d) w'->Q w' s'):
  wpAny (model X.prog X.w) A (call (.builtin "dict.get") [.ref a,u,r]) Q E s:=by
 rcases g with⟨i,k,e,j,l⟩ | ⟨i,k,b,e,j,p,l⟩
 ·subst j;obtain⟨z,hd,vs,c,f⟩:=xV I.hok e;refine call_meetsIn PySem.F.slot_dict_get f.typeIs PySem.F.entry_dict_get (PySem.F.args_dict_get_3 _ _ _) (meets_dict_get_default (jX X.prog X.w) a (jeC m) hd r) ⟨_,f.mapOf,h _ _ (I.tok _) ?_⟩;rw[l];exact(c.val k).getD rd
 ·subst j;cases(m);obtain⟨z,hd,q,c,f⟩:=jbD I.hok e;refine call_meetsIn PySem.F.slot_dict_get f.typeIs PySem.F.entry_dict_get (PySem.F.args_dict_get_3 _ _ _) (meetsH_dict_get_default (tupleKind<|jX X.prog X.w) a b hd r) ⟨tupleKind_room_in1 n,k,q,xj I.hok p,f,h _ _ (I.tok _) ?_⟩;rw[l];exact(c.val k).getD rd
def VA(td ty tx:TE):TE:=λσ H Q=>td σ H λx H1=>∃ a,x=.ref a/\IsD H1 a/\ty σ H1 λy H2=>tx σ H2 λz H3=>∃ o,DGet H3 a y o/\Q (o.getD z) H3
def Qn(j:X.A.units+1<cLine)(k:PE X o td)(l:PE X e ty)(n:PE X f tx)(m:M2 X o "get" apos e f cpos):PE X (.Call (.Attribute o "get" apos) [e,f] [] cpos) (VA td ty tx):=by
 intro b s σ H Q I h;refine wpAny_Call_method m.base m.few m.line PySem.F.plainAttrs_dict PySem.F.slot_dict_get PySem.F.type_dict_get<|thn (k b s σ H _ I h) λu s1 p=>?_;obtain⟨x,q,i,r,a,ex,d,t⟩:=p;subst ex;obtain rfl:u=Value.ref a:=r;obtain⟨v,w,_⟩:=jbW i d;refine⟨v,w,?_⟩;rw[m.trees];refine Calls.callWith_builtin rfl<|Calls.evalArgs_plain<|Calls.spliced_cons<|thn (l b s1 σ q _ i t) λN s2 ⟨y,B,C,D,E⟩=>
  Calls.spliced_cons (thn (n b s2 σ B _ C E) λO P ⟨z,G,J,K,R,g,L⟩=>Calls.spliced_nil ?_)
 exact jm1 j J g D K λS T M c=>⟨_,G,M,c,L⟩
end L2
namespace PySem
open Sem (wp)
namespace F
def lk_list_keys:typeLookup (.type "list") "keys" = pure none:=by rw[typeLookup_type,builtinLookup_eq_fast];kernel_rfl
def lk_list_getattr:typeLookup (.type "list") "__getattr__" = pure none:=by rw[typeLookup_type,builtinLookup_eq_fast];kernel_rfl
def plain_dict_loop:plainId "dict.update.loop" = true:=by decide +kernel
def entry_dict_loop:entryFor table "dict.update.loop" = some Builtin.«dict.update.loop»:=entryFor_of_fast (by kernel_rfl)
end F
section
variable {prog:Program}{w:World}{A:Around}{E:J0}{h:Heap}{g:Array GenState}{d:Drawn}{t:Nat}{os:OsState}{a:Addr}{o:Obj}
def F.sub_attrErr:isSubtype (.type "AttributeError") (.type "AttributeError")=pure true:=by rw[isSubtype_type];kernel_rfl
def jfZ{x nm}{e}{y}{Q}(a:h.get? e=some {cls:=.type "AttributeError",data:=.fields #[y,.none,.none,.none,.bool false,.none,unsetMember,unsetMember]})
  (c:∀ h',(∀ b o,b≠e->h.get? b=some o->h'.get? b=some o)->(∃ ob,h'.get? e=some ob/\ob.cls=.type "AttributeError")->Q () ⟨h',g,d,t,os⟩):
  wpAny (model prog w) A (noteAttr (.ref e) x nm) Q E ⟨h,g,d,t,os⟩:=by
 have j:=F.sub_attrErr
 repeat (any_goals (first | assumption | wp_step))
 refine c _ (λb o f i=>?_) ⟨_,Heap.get?_update_self _ a rfl,rfl⟩
 ·rw[Heap.get?_update_ne _ _ _ _ f];exact i
def jbl{α}{x}{nm a}{Q}(k:a.length<=sizeLine)(l:A.handled=none)
  (m:∀ h' e t',(∀ b o,h.get? b=some o->h'.get? b=some o)->h.get? e=none->(∃ ob,h'.get? e=some ob/\ob.cls=.type "AttributeError")->E (.ref e) ⟨h',g,d,t',os⟩):
  wpAny (model prog w) A (raiseAttrError x nm a:Sem α) Q E ⟨h,g,d,t,os⟩:=by
 refine L3<|wpAny_mkStr (L3<|L3<|wpAny_newObj_type ?_) k;refine L3<|wpAny_of_eq (by simp only[firstArgMember];rfl) ?_;refine wpAny_newObj_type<|L3<|wpAny_mkText<|L3<|jfZ (E3 _ rfl) λh' n p=>?_;refine L3<|wpAny_handled ?_;rw[l];have c:∀ f,E (.ref (h.push {cls:=.type "tuple",data:=.seq #[Value.str a t]}).objs.size) ⟨h',g,d,f,os⟩:=λf=>m h' _ _ (λb o i=>n b o (λz=>by
  have j:=N3 i;rw[z] at j;exact absurd j<|Nat.not_lt.mpr<|by simp)<|L8 _<|L8 _ i) (Heap.get?_none_of_le<|by simp) p
 first
  | exact wpAny_throw (c _)
  | exact L3 (M8 (wpAny_throw (c _)))
def ja8{its}{n}{sl}{c}{Q}(f:A.handled=none)(j:h.get? a=some {cls:=.type "list",data:=.seq its n,slots:=sl})
  (i:∀ h' e t',(∀ b o,h.get? b=some o->h'.get? b=some o)->h.get? e=none->(∃ ob,h'.get? e=some ob/\ob.cls=.type "AttributeError")->E (.ref e) ⟨h',g,d,t',os⟩):
  wpAny (model prog w) A (Builtin.«object.__getattribute__» ⟨[.ref a,.str "keys" c],[]⟩) Q E ⟨h,g,d,t,os⟩:=by
 have k:=F.lk_list_keys
 repeat (any_goals (first | assumption | wp_step))
 exact jbl (by decide +kernel) f i
def jcE{its}{n}{sl}{f}{R}(i:A.handled=none)(c:h.get? a=some {cls:=.type "list",data:=.seq its n,slots:=sl})
  (j:∀ h' e t',(∀ b o,h.get? b=some o->h'.get? b=some o)->h.get? e=none->(∃ ob,h'.get? e=some ob/\ob.cls=.type "AttributeError")->R (.error<|.ref e) ⟨h',g,d,t',os⟩):
  codeAny (model prog w) A (.call (.builtin "list.__getattribute__") ⟨[.ref a,.str "keys" f],[]⟩) R ⟨h,g,d,t,os⟩:=by
 exact codeAny_call_builtin F.slot_list_getattribute.plain F.entry_list_ga<|F.slot_list_getattribute.check _ _ _ _ _ _ _ _ (⟨_,c,rfl⟩) (F.args_list_getattribute_2 _ _)<|ja8 (i) c j
def jjR{its}{n}{sl}{j}{Q}(k:A.handled=none)(l:h.get? a=some {cls:=.type "list",data:=.seq its n,slots:=sl})
  (m:∀ h' e t',(∀ b o,h.get? b=some o->h'.get? b=some o)->h.get? e=none->(∃ ob,h'.get? e=some ob/\ob.cls=.type "AttributeError")->E (.ref e) ⟨h',g,d,t',os⟩):
  wpAny (model prog w) A (getAttrBy (.ref a) (.str "keys" j) false) Q E ⟨h,g,d,t,os⟩:=by
 have v:=F.sub_attrErr;have x:=F.slot_list_getattribute.lookup;have y:=F.slot_list_getattribute.bind<|.ref a;have z:=F.lk_list_getattr
 repeat (any_goals (first | assumption | wp_step))
 refine jcE k l λh' e t' p q i=>?_;have c:=i;obtain⟨ob,f,r⟩:=i;have s:(⟨h',g,d,t',os⟩:Shared).TypeIs (.ref e) "AttributeError":=⟨_,f,r⟩;have u:=m h' e t' p q c
 repeat (any_goals (first | assumption | wp_step))
def jd7{its}{n}{sl}{Q}(f:A.handled=none)(i:h.get? a=some {cls:=.type "list",data:=.seq its n,slots:=sl})
  (j:∀ h' t',(∀ b o,h.get? b=some o->h'.get? b=some o)->Q none ⟨h',g,d,t',os⟩):wpAny (model prog w) A (getAttr? (.ref a) "keys") Q E ⟨h,g,d,t,os⟩:=by
 refine L3<|wpAny_mkText<|L3<|wpAny_attempt<|jjR f i λh' e t' k r l=>?_;obtain⟨ob,c,m⟩:=l;have p:(⟨h',g,d,t',os⟩:Shared).TypeIs (.ref e) "AttributeError":=⟨_,c,m⟩;have s:=F.sub_attrErr;have q:=j h' t' k
 repeat (any_goals (first | assumption | wp_step))
end
section
variable {prog:Program}{w:World}{K:Type} [DecidableEq K] {knd:KeyKind prog w K}{A:Around}{E:J0}{s:Shared}
def jaV(d:s.heap.get? p=some o)(b:o.cls=.type "tuple")(hd:o.data=.seq #[key,x] m)(e:Q [key,x] s):wpAny (model prog w) A (Builtin.Dict.pairItems<|.ref p) Q E s:=by
 obtain⟨oc,od,a,c⟩:=o;subst b;subst hd
 repeat (any_goals (first | assumption | wp_step))
end
end PySem
namespace L2
open PySem PySem.Spec PyProof.Rows
def JZ{D}{o u}(b:H D=none)(e:H a=some u):upd H D o a=some u:=by rw[je λz=>by rw[z,b] at e;cases e];exact e
def jaC{K}{D}{o}(b:H D=none)(h:SqL K H a xs):SqL K (upd H D o) a xs:=Or.imp_left (Or.imp (JZ b) λ⟨q,h⟩=>⟨q,JZ b h⟩) h
def jg2{K}{D}{o}(b:H D=none)(h:SqT K H a xs):SqT K (upd H D o) a xs:=Or.imp_left (Or.imp (JZ b) λ⟨q,h⟩=>⟨q,JZ b h⟩) h
def jjQ{X}{A:Around}{R}{Hs:Nat->Hp}{ys:List V}{d N D}(T:A.handled=none)(U:∀ i kvs,Hs i D=some (.dT kvs)->A.units+1<cLine)
  (f:∀ i,SqL X.K (Hs i) N ys/\uE X pins (Hs i) d)
  (W:∀(j:Nat) y,ys[j]?=some y->∃ t a b,y=.ref t/\SqT X.K (Hs j) t [a,b]/\DPut (Hs j) D a b (Hs<|j+1))
  (Y:∀ s',Inv X pins σ (Hs ys.length) s'->R (.ok<|.ret .none) s'):∀ k i s,i+k=ys.length->Inv X pins σ (Hs i) s->s.heap.IsListIter d N i ->
  codeAny (model X.prog X.w) A (.builtin "dict.update.loop" ⟨[.ref D,.ref d,rawInt i,.none],[]⟩) R s:=by
 intro k
 induction k with
 | zero=>
  intro i s O I q;obtain⟨r,x,p,_⟩:=I.list (f i).1;obtain⟨B,C,Z,E,G,H⟩:=(f i).2;refine codeAny_builtin F.entry_dict_loop<|L3<|wpAny_pyNext_list_end (A:=A.in1) T q p.isList (by have:=x.length;simp;lia) λL eb=>?_;have m:Inv X pins σ (Hs i) {s with heap:=L}:=I.turned (λb o c e=>eb b o c e) B C E G H;have fin:=Y _ (by rw[<- O];exact m)
  repeat (any_goals (first | assumption | wp_step))
 | succ k ih=>
  intro i s O I q;obtain⟨r,x,p,_⟩:=I.list (f i).1;have hf:=(f i).2;obtain⟨B,C,Z,E,G,H⟩:=hf;have P:=E1 (l:=ys) (i:=i) ∅;obtain⟨t,a,b,ey,hT,g⟩:=W i _ P;obtain⟨u,M,Q⟩:=x.get P;rw[ey] at Q;cases(Q);refine codeAny_builtin F.entry_dict_loop<|L3<|wpAny_pyNext_list_item q p.isList ⇑M λL h sb=>?_;have m:Inv X pins σ (Hs i) {s with heap:=L}:=I.turned (λb o c e=>(sb.2 b c).trans e) B C E G H;obtain⟨S,tv,⟨o,e,hc,n,hd⟩,_⟩:=m.tuple hT;obtain⟨u1,u2,rfl,r1,r2⟩:=tv.two;obtain⟨oi,ei,ci,di⟩:=id h;have I2:=m.pinned (fp:=[d]) (λb c=>by rw[M9.mp c];exact(f i).2) λb c=>⟨oi,by rw[M9.mp c];exact ei,λv z=>by rw[di] at z;cases z⟩;refine L3<|wpAny_holding<|L3<|wpAny_tryCatch<|jaV e hc hd<|wpAny_holding<|jny (U i) I2 g r1 r2 λs' J=>M8 ⟨plainId_quiet F.plain_dict_loop _,?_⟩;exact ih (i+1) s' ∅ J.unpinned (h.at λo e=>(J.pin (d,o)<|U5 _<|U5 _<|kP (by simp) e).1)
def jmQ{α κ} [DecidableEq κ] {f:α->κ}{g:α->V}{ps:List α}:∀{qs},(ps.foldl (λa x=>JL a (f x)<|g x) qs).length<=qs.length+ps.length:=by
 induction ps with
 | nil=>intro qs;simp
 | cons p ps b=>
  intro qs;have c:=b (qs:=JL qs (f p)<|g p);have d:=JH qs (f p)<|g p;rw[X4,M3]
  lia
def Kl{X α κ} [DecidableEq κ] (L:X.calm=true) {f:α->κ}{g ky:α->V}{ob:List (κ×V)->HO}{ok:Hp->α->Prop}(S:∀ l m,ob l=.dT m->X.A.units+10<cLine)
  (T:∀(h:Heap) H,sysModules<h.objs.size->ObjOk X.prog X.w H (h.push {cls:=.type "dict",data:=.dict #[]}) h.objs.size (ob []))
  (U:∀ H D l x,H D=none->ok H x->l.length<sizeLine->DPut (upd H D<|ob l) D (ky x) (g x) (upd H D<|ob<|JL l (f x)<|g x)):
  kR X (.type "dict") (λxs H Q=>∃(p:Addr) (ys:List V) (ps:List α),xs=[.ref p]/\SqL X.K H p ys/\ys.length=ps.length/\ps.length<=100000 /\
  (∀(j:Nat) y,ys[j]?=some y->∃ kv t,ps[j]?=some kv/\y=.ref t/\SqT X.K H t [ky kv,g kv]/\ok H kv)/\∀ D,H D=none->Q (.ref D) (upd H D<|ob<|ps.foldl (λa kv=>JL a (f kv)<|g kv) [])):=by
 intro c s σ H xs us Q I r h;obtain⟨p,ys,ps,rfl,M,W,hz,Y,q⟩:=h;obtain⟨u,rfl,Z⟩:=r.one;cases Z;have k:=I.hok.fresh<|N1 ↥s;have N:Inv X c σ (upd H ↥s (ob [])) { s with heap:=s.heap.push {cls:=.type "dict",data:=.dict #[]} }:=I.laid (λb o e=>L8 _ e) (N1 _)<|T _ _ I.big;obtain⟨its,rv,⟨o,n,e,v,B,C⟩,_⟩:=N.list<|jaC k M;obtain⟨oc,od,E,osl⟩:=o;subst v B C;refine callType_codes (Q₁:=λobj O=>obj=.ref ↥s/\O={ s with heap:=s.heap.push {cls:=.type "dict",data:=.dict #[]} }) F.kt_called_dict (F.kt_typeCall_dict_1 _) F.entry_dict_init (kt_code_dict_new _ ⟨rfl,rfl⟩) ?_;rintro obj O ⟨rfl,rfl⟩;have P:=Heap.DictOf.typeIs (s:={ s with heap:=s.heap.push {cls:=.type "dict",data:=.dict #[]} })<|Heap.DictOf.new (knd:=jX X.prog X.w) s.heap;refine⟨P,F.args_dict_init_2 _ _,L3<|L3<|wpAny_notOrdered_dict P<|M8<|L3<|wpAny_typeOf ⟨_,e,rfl⟩<|L3<|jd7 (I.ok.hd L) e λh2 t2 d=>?_⟩;rw[if_pos<|show(Option.isNone none)=true from rfl];refine L3<|wpAny_rule<|L3<|wpAny_pyIter_list (l:=p) ⟨_,d _ _ e,rfl,n,rfl⟩<|M8 ⟨plainId_quiet F.plain_dict_loop _,?_⟩;have R:Inv X c σ (upd H ↥s (ob [])) {s with heap:=h2,toks:=t2}:=N.kept d;have G:=N3<|d _ _<|E3 _ rfl;refine jjQ (A:=X.A.in1) (Hs:=λi=>upd H ↥s (ob<|(ps.take i).foldl (λa kv=>JL a (f kv)<|g kv) [])) (I.ok.hd L) (λi m z=>?_) (λi=>⟨jaC k M,R.fpOk (N1 _) ?_⟩) (λj y hy=>?_) (λs' J=>?_) ys.length 0 _ (Nat.zero_add _) (R.kept λb o e=>L8 _ e) ⟨_,E3 _ rfl,rfl,rfl⟩
 ·rw[jl] at z;have:=S _ _<|X8 z;show X.A.units+1+1<_
  lia
 ·rw[je<|Ne.symm<|N8 G];exact I.hok.fresh ∅
 ·obtain⟨kv,t,e1,rfl,h3,h4⟩:=Y j y hy;refine⟨t,_,_,rfl,jg2 k h3,?_⟩;rw[List.take_add_one,e1,List.foldl_append];exact U _ _ _ _ k h4 (by have:=jmQ (f:=f) (g:=g) (ps:=ps.take j) (qs:=[]);have:sizeLine=16777216:=rfl;simp at *;lia)
 ·rw[W,List.take_length] at J;exact⟨rfl,.ref _,_,J,rfl,q _ k⟩
def jbf{X}(i:X.calm=true):kR X (.type "dict") (λxs H Q=>∃(p:Addr) (ys:List V) (ps:List<|Key×V),xs=[.ref p]/\SqL X.K H p ys/\ys.length=ps.length/\ps.length<=100000 /\
  (∀(j:Nat) y,ys[j]?=some y->∃ kv t,ps[j]?=some kv/\y=.ref t/\SqT X.K H t [kV kv.1,kv.2])/\∀ D,H D=none->Q (.ref D) (upd H D<|.dK<|ps.foldl (λa kv=>JL a kv.1 kv.2) [])):=
 λd s σ H xs m Q I r ⟨p,ys,ps,n,q,u,w,z,A⟩=>Kl (ok:=λ_ _=>True) (ky:=λx=>kV x.1) (f:=(·.1)) (g:=(·.2)) (ob:=.dK) i (λ_ _ e=>nomatch e) (λh H b=>u4 h b)
  (λH D l x E _ B=>by have:=DPut.k (k:=x.1) (v:=x.2) (jl (H:=H) (a:=D) (o:=.dK l)) B;rw[jcj] at this;exact this) d s σ H xs m Q I r
  ⟨p,ys,ps,n,q,u,w,λj y C=>let ⟨kv,t,a,b,c⟩:=z j y C;⟨kv,t,a,b,c,trivial⟩,A⟩
def wt{X}(c:X.calm=true)(d:X.A.units+10<cLine):kR X (.type "dict") (λxs H Q=>∃(p:Addr) (ys:List V) (ps:List<|List Key×Addr×V),xs=[.ref p]/\SqL X.K H p ys/\ys.length=ps.length/\ps.length<=100000 /\
  (∀(j:Nat) y,ys[j]?=some y->∃ kv t,ps[j]?=some kv/\y=.ref t/\SqT X.K H t [.ref kv.2.1,kv.2.2]/\H kv.2.1=some (.tup<|kv.1.map kV))/\∀ D,H D=none->Q (.ref D) (upd H D<|.dT<|ps.foldl (λa kv=>JL a kv.1 kv.2.2) [])):=
 Kl (ok:=λH (x:List Key×Addr×V)=>H x.2.1=some (.tup<|x.1.map kV)) c (λ_ _ _=>d) (λh H b=>jau h b)
  λH D l (x:List Key×Addr×V) e f g=>by have:=DPut.t (k:=x.1) (b:=x.2.1) (v:=x.2.2) (jl (H:=H) (a:=D) (o:=.dT l)) (JZ e f) g;rw[jcj] at this;exact this
def Inv.layAll(I:Inv X pins σ H s)(k:∀ b u,s.heap.get? b=some u->h'.get? b=some u)(a:∀ b,H b≠none->H' b=H b)
  (new:∀ b o,H b=none->H' b=some o->↥s<=b/\ObjOk X.prog X.w H' h' b o):Inv X pins σ H' {s with heap:=h',toks:=t'}:=by
 refine I.un ⟨λb u q _ _ _=>k b u q,λb u q _ _ _=>⟨u.slots,k b u q⟩,λb u q n _=>?_,λb u q _=>⟨u,k b u q⟩,λb f q=>?_,λb o u q=>?_,λb g q=>⟨#[],?_⟩⟩ λb o e=>?_
 ·cases e:H' b with
  | none=>rfl
  | some o=>exact absurd (N3 q)<|Nat.not_lt.mpr (new b o n e).1
 ·rw[a b<|by rw[q];exact λz=>nomatch z];exact q
 ·rw[a b<|by rw[q];exact λz=>nomatch z];exact q
 ·rw[a b (by rw[q];exact λz=>nomatch z),q];simp
 ·by_cases n:H b=none
  ·exact(new b o n e).2
  ·have d:=e;rw[a b n] at d;exact(I.hok b o d).stay (λc u _ q=>k c u q) (λc q=>by rw[a c<|by rw[q];exact λz=>nomatch z];exact q) λc f q=>by rw[a c<|by rw[q];exact λz=>nomatch z];exact q
def jpz(h:(jX P w).is k u=true):RelV (kV k) u:=by
 rcases jY h with⟨i,t,rfl,rfl⟩ | ⟨x,t,rfl,rfl⟩
 ·exact⟨t,rfl⟩
 ·exact⟨t,rfl⟩
def j9(H:Hp)(as:W5)(kvs:List<|Key×V)(l:Addr):Hp:=λb=>if b=l then some (.lst<|as.map V.ref) else
 match (as.zip kvs).find? (λp=>p.1==b) with
 | some p=>some<|.tup [kV p.2.1,p.2.2]
 | none=>H b
def Q0{as:W5}{a}(d:as.Nodup){j:Nat}{p:Key×V}(h1:as[j]?=some b)(h2:a[j]?=some p):(as.zip a).find? (λq=>q.1==b)=some (b,p):=by
 induction as generalizing a j with
 | nil=>simp at h1
 | cons c as e=>
  cases a with
  | nil=>simp at h2
  | cons q a=>
   rw[U9,List.find?_cons];cases j with
   | zero=>
    simp at h1 h2;subst h1;subst h2;simp
   | succ j=>
    simp at h1 h2;have f:c≠b:=λz=>(List.nodup_cons.mp d).1 (z▸List.mem_of_getElem? h1);have:=U4.mpr f;simp only[this];exact e (List.nodup_cons.mp d).2 h1 h2
def kU{as:W5}{a:List (Key×V)}(h:b∉as):(as.zip a).find? (λq=>q.1==b)=none:=by
 rw[List.find?_eq_none];intro q c z;have:q.1=b:=by simpa using z
 exact h<|this▸(List.of_mem_zip c).1
theorem jlf:∀{A}{B:List (Key×Value)}{j:Nat},KV A B->B[j]?=some (kk,x)->∃ y,A[j]?=some (kk,y)/\RelV y x
 | [],_,j,.nil,e=>by simp at e
 | p0::A,c::B,0,.cons a b,e=>by
  simp at e;subst e;refine⟨p0.2,?_,a.2⟩;have:p0.1=kk:=a.1;simp[<- this]
 | p0::A,c::B,j+1,.cons a b,e=>by
  obtain⟨y,d,e2⟩:=jlf b ⇑e;exact⟨y,by simpa using d,e2⟩
def wS(td:TE):TE:=λσ H Q=>td σ H λx H1=>∃ a kvs,x=.ref a/\Rd H1 a (.dK kvs)/\∀ l as,H1 l=none->as.length=kvs.length->(l::as).Nodup->(∀ b∈as,H1 b=none)->Q (.ref l) (j9 H1 as kvs l)
def jeM(T:X.calm=true)(U:Gl X "list")(V:X.mg "list" = none)(Y:bootBuiltins "list" = some (.type "list"))(Z:PE X o td)
  (m:attributeBase o "items" X.env (eval o X.env)=eval o X.env:=by rfl) (n:(apos.endLine==cpos.line)=true:=by rfl)
  (he:starEach [.Call (.Attribute o "items" apos) [] [] cpos] X.env=(false,eval (.Call (.Attribute o "items" apos) [] [] cpos) X.env)::starEach [] X.env:=by rfl)
  (G:(backTo pos<|starEach [] X.env).any (·.1)=false:=by rfl)
  (hbt:backTo pos (starEach [.Call (.Attribute o "items" apos) [] [] cpos] X.env)=[(false,eval (.Call (.Attribute o "items" apos) [] [] cpos) X.env)]:=by rfl):
  PE X (.Call (.Name "list" p) [.Call (.Attribute o "items" apos) [] [] cpos] [] pos) (wS td):=by
 intro C s σ H Q I h;refine wpAny_Call_Name_kw<|Yc I U V Y (PyProof.Rows.callWith_type1 (Calls.spliced_cons<|wpAny_Call_method0_late m n<|thn (Z C s σ H _ I h) λv s1 hh=>?_) he G) (by decide) (by decide);obtain⟨x,H1,i,r1,a,r,ex,M,N⟩:=hh;subst ex;obtain rfl:v=Value.ref a:=r1;obtain⟨O,hd,vs,J,K⟩:=xV i.hok M;obtain⟨t1,t2,_⟩:=jbW i<|.inl ⟨r,M⟩;refine⟨"dict","dict.items",PySem.F.plainAttrs_dict,PySem.F.slot_dict_items,PySem.F.type_dict_items,t1,t2,Calls.callWith_builtin rfl<|PySem.evalArgs_none<|call_meetsIn PySem.F.slot_dict_items K.typeIs PySem.F.entry_dict_items (PySem.F.args_dict_items_1 _) (meets_dict_items (jX X.prog X.w) a hd) ⟨⟨vs,K⟩,(Calls.spliced_nil ?_)⟩⟩;obtain⟨ob,es,ep,d1,d2⟩:=K;have L:(s1.heap.push {cls:=.type "dict_items",data:=.fields #[.ref a]}).DictAt (jX X.prog X.w) a vs ep:=⟨ob,es,L8 _ d1,d2⟩;refine PySem.W.kdx_call (i.ok.hd T) ⟨_,E3 _ rfl,rfl,rfl⟩ L (by rw[<- J.length];exact O) λh' tk acc c k hk P R D l=>?_;have f:(s1.heap.push ({cls:=.type "dict_items",data:=.fields #[.ref a]}:Obj)).objs.size=↥s1+1:=Heap.size_push _ _;have nd:=D.rise.imp N8;have t:k.length=r.length:=by rw[R,J.length]
 have g:∀ b∈k,↥s1<=b:=λb d=>by have q:=D.above b d;rw[f] at q;lia
 have E:=λb d=>Nat.ne_of_gt<|D.above b d;refine⟨.ref _,j9 H1 k r (s1.heap.push ({cls:=.type "dict_items",data:=.fields #[.ref a]}:Obj)).objs.size,i.layAll (λb u e=>hk b u<|L8 _ e) (λb d=>?_)<|λb u d e=>?_,rfl,N _ k (i.hok.fresh<|by rw[f];lia) t (List.nodup_cons.mpr ⟨λz=>E _ z rfl,nd⟩) λb d=>i.hok.fresh<|g b d⟩
 ·unfold j9;rw[if_neg<|λz=>d<|by rw[z];exact i.hok.fresh<|by rw[f];lia,kU λz=>d<|i.hok.fresh<|g b z]
 ·unfold j9 at e;by_cases A:b=(s1.heap.push ({cls:=.type "dict_items",data:=.fields #[.ref a]}:Obj)).objs.size
  ·rw[if_pos A] at e;cases e;subst A;refine⟨by rw[f];lia,by rw[L1,t];exact O,k.map Value.ref,c,?_,?_⟩
   ·clear P l D R nd t g E N
    induction k with
    | nil=>exact .nil
    | cons x k ih=>exact .cons rfl ih
   ·rw[P,<- l]
  ·rw[if_neg A] at e;by_cases B:b∈k
   ·obtain⟨j,S⟩:=List.mem_iff_getElem?.mp B;obtain⟨key,kk,x,e1,e2,e3⟩:=D.pairs j b S;obtain⟨y,ey,r1⟩:=jlf J e1;rw[Q0 nd S ey] at e;cases e;exact⟨g b B,show 2<=sizeLine by decide,[key,x],.cons (jpz e2)<|.cons r1 .nil,⟨_,e3,rfl,0,rfl⟩,_,e3,rfl⟩
   ·rw[kU B] at e;exact absurd e (by rw[d];exact λz=>nomatch z)
abbrev KO:=@jI
abbrev jgi:=@BlockOk
def jfu(B:BlockOk X scope N' ix)(c:X.calm=true)(hi:PI X tg iter wi)
  (d:∀ C s H fp,PG (jI X scope N' C s H fp) tg g) (a:∀ C s H fp,PIf (jI X scope N' C s H fp) ifs tc) (e:∀ C s H fp,PE (jI X scope N' C s H fp) elt te)
  (i:∀ x,foldedSetIterable iter X.env x=pure x:=by intro _;rfl):PE X (.ListComp elt [⟨tg,iter,ifs,0⟩] scope pos) (Yu wi g tc te ix):=by
 intro b s σ H Q I h;exact qY B c hi d a e i I h λp C o j q k f ⟨m,l⟩=>⟨m,l,λr n=>⟨.ref p,j,k.other f n,rfl,q⟩⟩
section
variable {prog:Program}{w:World}{A:Around}{E:J0}{s:Shared}
def jgx{j t}{n}{a}{y}{C}(d:s.heap.IsTupleIter j t n)(e:s.heap.IsTuple t a)(f:a[n]?=some y)
  (go:∀ k,k.IsTupleIter j t (n+1)->Heap.SameBut j s.heap k->C y {s with heap:=k}):wpAny (model prog w) A (Builtin.SmallTypes.nextOf<|.ref j) C E s:=by
 obtain⟨h,c,ci,b⟩:=id d;obtain⟨ot,gt,_,mt,g⟩:=e;refine L3<|wpAny_callSpecial?_slot d.typeIs F.slot_tuple_iterator_next<|wpAny_call_entry F.slot_tuple_iterator_next d.typeIs F.entry_tuple_iterator_next ?_<|F.args_tuple_iterator_next_1 _;show wpAny _ _ (field (.ref j) 0 >>= _) _ _ s;refine L3<|U8 c b rfl<|L3<|U8 c b rfl<|L3<|wpAny_seqItems gt g ?_;simp only[U0,f];refine L3<|wpAny_setField c b (by simp)<|M8 ⟨y,rfl,M8<|go _ ⟨_,Heap.get?_update_self _ c<|Obj.isFreed_of_fields<|Obj.data_mapFields b _,(Obj.cls_mapFields ..).trans ci,?_⟩<|Heap.SameBut.update ..⟩;rw[Obj.data_mapFields b];simp[rawInt]
variable {z TI TO j1 j2 l t:Addr}{m:Nat}{us vs:Array Value}{u v a b:Value}
end
def jpL(l)(items)(n)(b)(a)(n2)(d)(sl)(f:¬(!items.isEmpty&&Builtin.List.listTooLong (items.size+a.size))=true)(h1:items.size<=sizeLine)(h2:items.size+a.size<=sizeLine+1):
  Meets (Builtin.«list.extend» ⟨[.ref l,.ref b],[]⟩) (λ_ R s=>s.heap.get? l=some {cls:=.type "list",dict:=none,data:=.seq items n,slots:=#[]}/\s.heap.get? b=some {cls:=.type "list",dict:=d,data:=.seq a n2,slots:=sl}/\R (.ok<|.ret Value.none) {s with heap:=s.heap.update l (Obj.mapSeq λx=>x++a)}):=
 .of_wp λprog w A R s h=>by
  rcases s with⟨g,i,j,k,os⟩;obtain⟨c,e,q⟩:=h;have m:(items++a).size<=sizeLine+1:=by rw[Array.size_append];exact h2
  wp_walk using(wpAny_updateSeq c rfl),wpAny_loadPart' c,wpAny_loadPart' e
  exact⟨_,rfl,q⟩
def joX(l)(items)(n)(b)(a)(n2)(d)(sl)(f:¬(!items.isEmpty&&Builtin.List.listTooLong (items.size+a.size))=true)(h1:items.size<=sizeLine)(h2:items.size+a.size<=sizeLine+1):
  Meets (Builtin.«list.extend» ⟨[.ref l,.ref b],[]⟩) (λ_ R s=>s.heap.get? l=some {cls:=.type "list",dict:=none,data:=.seq items n,slots:=#[]}/\s.heap.get? b=some {cls:=.type "tuple",dict:=d,data:=.seq a n2,slots:=sl}/\R (.ok<|.ret Value.none) {s with heap:=s.heap.update l (Obj.mapSeq λx=>x++a)}):=
 .of_wp λprog w A R s h=>by
  rcases s with⟨g,i,j,k,os⟩;obtain⟨c,e,q⟩:=h;have m:(items++a).size<=sizeLine+1:=by rw[Array.size_append];exact h2
  wp_walk using(wpAny_updateSeq c rfl),wpAny_loadPart' c,wpAny_loadPart' e
  exact⟨_,rfl,q⟩
def jik(K:W4):V->List V->Hp->VK->Prop:=λx vs H Q=>∃ l b xs zs,x=.ref l/\vs=[.ref b]/\H l=some (.lst xs)/\(SqL K H b zs\/SqT K H b zs)/\xs.length+zs.length<=sizeLine/\Q .non (upd H l<|.lst<|xs++zs)
def jjS:MtM X "list.extend" (jik X.K):=by
 intro p s σ H x vs v C Q I w y h;obtain⟨l,b,D,zs,rfl,rfl,k,g,t,q⟩:=h;cases w;obtain⟨u,rfl,A⟩:=y.one;cases A;obtain⟨z,c,n,r,E,e⟩:=I.lstM k;rcases g with g | g
 ·obtain⟨a,r2,p2,_⟩:=I.list g;obtain⟨⟨cls,i,data,sl⟩,j,e2,m,hd,B⟩:=p2
  first | subst m | skip
  have f:c.toArray.size+a.toArray.size<=sizeLine:=by rw[N5,N5,<- r.length,<- r2.length];exact t
  have d:¬ (!c.toArray.isEmpty&&Builtin.List.listTooLong (c.toArray.size+a.toArray.size))=true:=by
   rw[jab f,Bool.and_false];exact M4
  have o:s.heap.get? b=some {cls:=.type "list",dict:=i,data:=.seq a.toArray j,slots:=sl}:=by
   rw[e2];simp_all
  refine call_meets PySem.F.slot_list_extend ⟨_,e,rfl⟩ PySem.F.entry_list_extend (PySem.F.args_list_extend_2 _ _) (jpL l c.toArray n b a.toArray j i sl d ∅ ∅) ⟨e,o,⟨.non,_,I.lset k e (by simp) (r.append r2) ?_,rfl,q⟩⟩;rw[N6]
  lia
 ·obtain⟨a,r2,p2,_⟩:=I.tuple g;obtain⟨⟨cls,i,data,sl⟩,e2,m,j,hd⟩:=p2;subst m hd;have f:c.toArray.size+a.toArray.size<=sizeLine:=by rw[N5,N5,<- r.length,<- r2.length];exact t
  have d:¬ (!c.toArray.isEmpty&&Builtin.List.listTooLong (c.toArray.size+a.toArray.size))=true:=by
   rw[jab f,Bool.and_false];exact M4
  refine call_meets PySem.F.slot_list_extend ⟨_,e,rfl⟩ PySem.F.entry_list_extend (PySem.F.args_list_extend_2 _ _) (joX l c.toArray n b a.toArray j i sl d ∅ ∅) ⟨e,e2,⟨.non,_,I.lset k e (by simp) (r.append r2) ?_,rfl,q⟩⟩;rw[N6]
  lia
def jdr:kR X (.type "int") (λxs H Q=>∃ b:Bool,xs=[.bl b]/\Q (.int<|if b then 1 else 0) H):=by
 intro a s σ H xs d Q I r h;obtain⟨b,rfl,q⟩:=h;obtain⟨u,rfl,c⟩:=r.one;cases c;exact call_int_bool ⟨.int<|if b then 1 else 0,H,I.tok _,⟨_,rfl⟩,q⟩
section
def jmR(ft:TypeCalled T nw it)
  (c1:checkTypeCall T ⟨xs,kw⟩=pure ()) (d:checkBuiltinCall nw ⟨.type T::xs,kw⟩=pure ()) (f:entryFor table nw=some Bn) (n2:entryFor table it=some Bi)
  (g:Meets (Bn ⟨.type T::xs,kw⟩) Sn) (h:Sn A.in1 (wants Q1 E) s)
  (nx:∀ obj s1,Q1 obj s1->s1.TypeIs obj T/\argsOk it ⟨obj::xs,kw⟩/\∃ Si,MeetsIn prog w (Bi ⟨obj::xs,kw⟩) Si/\Si A.in1 (wants (λr s2=>r=.none/\Q obj s2) E) s1):
  wpAny (model prog w) A (call (.type T) xs kw) Q E s:=by
 obtain⟨c,o,p⟩:=ft.mro;have q:=ft.made;have t:=ft.sub;refine wpAny_call<|codeAny_of_tree<|M8 ⟨Code.quiet_builtin _<|by decide +kernel,codeAny_builtin F.entry_type_call ?_⟩;have u:=ft.notType;have v:=ft.canCreate
 repeat (any_goals (first | assumption | wp_step))
 refine codeAny_mono (codeAny_call_builtin ft.plain f<|wpAny_of_eq d<|g prog w A.in1 _ s h) λr s1 b=>?_;cases r with
 | error e=>exact b
 | ok i=>
  cases i with
  | ret obj=>
   obtain⟨j,k,Si,l,m⟩:=nx _ _ b;have x:=ft.init.lookup;have y:=ft.init.bind obj
   repeat (any_goals (first | assumption | wp_step))
   refine codeAny_mono (codeAny_call_builtin ft.init.plain n2<|ft.init.check _ _ _ _ _ _ _ _ j k<|l A.in1 _ s1 m) λr2 s2 a=>?_;cases r2 with
   | error e=>exact a
   | ok n=>
    cases n with
    | ret r=>
     obtain⟨rfl,z⟩:=a
     repeat (any_goals (first | assumption | wp_step))
    | _=>exact a.elim
  | _=>exact b.elim
def jlN(c:typeLookup (.type T) "__init__" = pure (some<|.builtin "object.__init__"))
  (d:Bind.madeBy (.type T)=pure (some nw)) (e:(some nw != some "object.__new__")=true):
  Meets (Builtin.«object.__init__» ⟨self::x::xs,kw⟩) (λ_ R s=>s.TypeIs self T/\R (.ok<|.ret .none) s):=by
 refine Meets.of_wp λprog w A R s a=>?_;obtain⟨f,b⟩:=a
 repeat (any_goals (first | assumption | wp_step))
 exact⟨_,rfl,b⟩
def joH(a b):checkTypeCall "enumerate" ⟨[a],[("start",b)]⟩=pure ():=by kernel_rfl
def joY(a b):checkBuiltinCall "enumerate.__new__" ⟨[.type "enumerate",a],[("start",b)]⟩=pure ():=by kernel_rfl
def jpu(a b c):argsOk "object.__init__" ⟨[a,b],[("start",c)]⟩:=by
 unfold argsOk;rw[signature?_of (n:=['_','_','t','i','n','i','_','_']) (by kernel_rfl) F.owner_object];kernel_rfl
open AutoSeq1 (wpAny_loadPart') in
def jjb(l)(us)(m)(dc)(sl)(n)(t)(j:Builtin.SmallTypes.fitsIndex n=true):
  Meets (Builtin.«enumerate.__new__» ⟨[.type "enumerate",.ref l],[("start",.int n t)]⟩) (λ_ R s=>s.heap.get? l=some {cls:=.type "list",dict:=dc,data:=.seq us m,slots:=sl} /\
   R (.ok<|.ret<|.ref (s.heap.push {cls:=.type "list_iterator",data:=.fields #[.ref l,.int 0 0]}).objs.size)
    { s with heap:=(s.heap.push {cls:=.type "list_iterator",data:=.fields #[.ref l,.int 0 0]}).push {cls:=.type "enumerate",data:=.fields #[.none,.bool false,.ref ↥s,rawInt n,.none,.none]} }):=
 .of_wp λprog w A R s h=>by
  obtain⟨f,g,d,i,os⟩:=s;obtain⟨a,h⟩:=h;have e:=sub_enumerate;have b:Heap.IsList (Shared.heap ⟨f,g,d,i,os⟩) l us:=⟨_,a,rfl,m,rfl⟩
  wp_walk using wpAny_loadPart' a
  refine wpAny_stack_any λk=>M8 ?_;split
  ·rename_i c _ _ _ _ _;cases(c==Value.type "enumerate")
   ·wp_walk using wpAny_loadPart' a,wpAny_pyIter_list b
    exact⟨_,rfl,h⟩
   ·wp_walk using wpAny_loadPart' a,wpAny_pyIter_list b
    exact⟨_,rfl,h⟩
  ·wp_walk using wpAny_loadPart' a,wpAny_pyIter_list b
   exact⟨_,rfl,h⟩
def jiD(e:s.heap.IsList l us)(f:Builtin.SmallTypes.fitsIndex n=true)
  (go:∀ k,IsEnum k (↥s+1) ↥s n .none->k.IsListIter ↥s l 0->(∀ b o,s.heap.get? b=some o->k.get? b=some o)->C (.ref<|↥s+1) {s with heap:=k}):
  wpAny (model prog w) A (call (.type "enumerate") [.ref l] [("start",.int n t)]) C E s:=by
 obtain⟨⟨c,g,j,sl⟩,h,i,m,hd⟩:=e;subst i hd;refine jmR (Q1:=λobj s1=>s1.TypeIs obj "enumerate"/\C obj s1) F.called_enumerate (joH _ _) (joY _ _) F.entry_enumerate_new F.entry_object_init (jjb l us m g sl n t f) ⟨h,?_⟩
  λobj _ q=>⟨q.1,jpu _ _ _,_,(jlN F.called_enumerate.init.lookup F.called_enumerate.made<|by decide).inModel _ _,q.1,rfl,q.2⟩
 have a:(s.heap.push {cls:=.type "list_iterator",data:=.fields #[.ref l,.int 0 0]}).objs.size=↥s+1:=Heap.size_push ..;rw[a];have d:IsEnum ((s.heap.push {cls:=.type "list_iterator",data:=.fields #[.ref l,.int 0 0]}).push {cls:=.type "enumerate",data:=.fields #[.none,.bool false,.ref ↥s,rawInt n,.none,.none]}) (↥s+1) ↥s n .none:=by
  have q:=E3 (s.heap.push {cls:=.type "list_iterator",data:=.fields #[.ref l,.int 0 0]}) (o:={cls:=.type "enumerate",data:=.fields #[.none,.bool false,.ref ↥s,rawInt n,.none,.none]}) rfl;rw[a] at q;exact q
 exact⟨⟨_,d,rfl⟩,go _ d ⟨_,L8 _<|E3 _ rfl,rfl,rfl⟩ λb o x=>L8 _<|L8 _ x⟩
end
def jpP(K:W4)(tl:TA)(tb:TE):TI:=λσ H R=>tl σ H λvs H1=>tb σ H1 λv H2=>∃ a xs n,vs=[.ref a]/\v=.int n/\Builtin.SmallTypes.fitsIndex n=true/\SqL K H2 a xs/\R (Itn K a n) H2
def jop{X}{elts}{m}{tpos p pos d}{a b}{ta}{tb}(E:Gl X "enumerate")(F:X.mg "enumerate" = none)(G:PA X [a] ta)(j:PE X b tb)(J:starEach [a] X.env=[(false,eval a X.env)]:=by rfl):
  PI X (.Tuple elts m tpos) (.Call (.Name "enumerate" p) [a] [⟨some "start",b,d⟩] pos) (jpP X.K ta tb):=by
 intro c s σ H R I h;refine wpAny_Call_Name_kw<|Yc I E F (show bootBuiltins "enumerate" = some (.type "enumerate") by decide +kernel)<|L3<|wpAny_holding ?_;have B:=G pos c s σ H _ I h;rw[J] at B ⊢;refine wpAny_mono (evalArgs_kw (Q:=λx s1=>wpAny (model X.prog X.w) X.A (call (.type "enumerate") x.pos x.kw) (λv s1=>wpAny (model X.prog X.w) X.A (pyIter v) (PIE X c σ (.Tuple elts m tpos) R) X.xe s1) X.xe s1) rfl<|thn B λZ s1 ⟨vs,L,M,r1,N⟩=>?_) (λx s1 k=>L3<|wpAny_standAt ?_) λ_ _ x=>x
 ·refine wpAny_evalAll_cons<|L3<|thn (j c s1 σ L _ M N) λv s2 ⟨y,C,i,r2,O⟩=>L3<|wpAny_standAt<|M8<|wpAny_evalAll_nil ?_;obtain⟨l,xs,n,rfl,rfl,P,S,q⟩:=O;obtain⟨u,rfl,T⟩:=r1.one;cases T;obtain⟨t,rfl⟩:=r2;obtain⟨U,rv,pl,hz⟩:=i.list S;have f:l < ↥s2:=by
   obtain⟨o,_,e,_⟩:=pl;exact N3 e
  refine jiD pl.isList P λk D hit V=>?_;have W:Inv X c σ C {s2 with heap:=k}:=i.kept V;refine PySem.wpAny_pyIter_enum D ⟨↥s2+1,[↥s2+1,↥s2],_,_,C,rfl,W,jcc _ _ l n (Nat.succ_ne_self _) (N8<|Nat.lt_succ_of_lt f)<|N8 f,⟨⟨_,by simpa using D⟩,hit⟩,λb j=>?_,q⟩;have g:↥s2<=b:=by
   rcases(⇑j:b=↥s2+1\/b=↥s2) with z | z
   ·rw[z];exact Nat.le_succ _
   ·rw[z];exact N1 _
  exact i.fpOk g<|i.hok.fresh g
 ·exact L3<|M8<|L3<|wpAny_mono k (λr s2 Y=>L3<|wpAny_holding<|wpAny_point<|M8 Y) λ_ _ x=>x
section
variable {prog:Program}{w:World}{A:Around}{E:J0}{s:Shared}
def jii{j t}{n}{a}{C}(f:A.handled=none)(b:s.heap.IsTupleIter j t n)(g:s.heap.IsTuple t a)(h:a[n]?=none)
  (go:∀ k e,Heap.ExtBut j s.heap k->(∃ o,k.get? e=some o/\o.cls=.type "StopIteration")->E (.ref e) {s with heap:=k}):wpAny (model prog w) A (Builtin.SmallTypes.nextOf<|.ref j) C E s:=by
 obtain⟨l,c,ci,d⟩:=id b;obtain⟨ot,gt,_,mt,i⟩:=g;refine L3<|wpAny_callSpecial?_slot b.typeIs F.slot_tuple_iterator_next<|wpAny_call_entry F.slot_tuple_iterator_next b.typeIs F.entry_tuple_iterator_next ?_<|F.args_tuple_iterator_next_1 _;show wpAny _ _ (field (.ref j) 0 >>= _) _ _ s;refine L3<|U8 c d rfl<|L3<|U8 c d rfl<|L3<|wpAny_seqItems gt i ?_;simp only[U0,h];refine L3<|wpAny_rule<|L3<|wpAny_setField c d (by simp)<|L3<|L3<|wpAny_newObj_type ?_ (by size_fits);refine L3<|wpAny_of_eq (by first | rfl | (simp only[firstArgMember];rfl)) ?_;refine wpAny_newObj_type (L3<|wpAny_handled ?_) (by size_fits)
 first | rw[f] | rw[f]
 exact L3<|M8<|wpAny_throw<|go _ _ (((Heap.SameBut.update ..).extBut.push _).push _) ⟨_,E3 _ rfl,rfl⟩
variable {z TI TO j1 j2 l t:Addr}{m:Nat}{us vs:Array Value}{u v a b:Value}
end
end L2
namespace PySem
open Sem (wp)
namespace F
end F
end PySem
namespace L2
open PySem PySem.Spec PyProof.Rows
def Jw:entryFor table "dict_itemiterator.__iter__" = some Builtin.«dict_keyiterator.__iter__» :=
 entryFor_alias (id':="dict_keyiterator.__iter__") (by kernel_rfl) rfl (by decide +kernel) (by kernel_rfl)
def Qj(hit:IsItemIter s.heap it d i n ep ok ov)(h:Q (.ref it) s):wpAny (model prog w) A (pyIter<|.ref it) Q E s:=by
 have a:s.TypeIs (.ref it) "dict_itemiterator":=⟨_,hit,rfl⟩;exact wpAny_pyIter_slot a PySem.F.slot_dict_itemiterator_iter<|wpAny_call_entry PySem.F.slot_dict_itemiterator_iter a Jw (M8 ⟨_,rfl,"dict_itemiterator",_,a,PySem.F.slot_dict_itemiterator_next.lookup,h⟩)<|PySem.F.args_dict_itemiterator_iter_1 _
end L2
namespace PySem
open Sem (wp)
end PySem
namespace L2
open PySem PySem.Spec PyProof.Rows
end L2
namespace PySem
open PySem.W PyProof.Rows PySem.Calls
noncomputable def kEv{α}(lt:Nat->Nat->Bool):KasT α->α
 | .ret a=>a
 | .ask i j k=>kEv lt<|k<|lt i j
def kOk{α}(lt:Nat->Nat->Bool)(n:Nat):KasT α->Prop
 | .ret _=>True
 | .ask i j k=>i<n/\j<n/\kOk lt n (k<|lt i j)
theorem Jf:∀ t:KasT α,kEv lt (t.bind f)=kEv lt (f<|kEv lt t)
 | .ret a=>rfl
 | .ask i j k=>Jf<|k<|lt i j
theorem Jh:∀ t:KasT α,kOk lt n t->kOk lt n (f<|kEv lt t)->kOk lt n (t.bind f)
 | .ret a,_,h=>h
 | .ask i j k,b,c=>⟨b.1,b.2.1,Jh (k<|lt i j) b.2.2 c⟩
theorem jha(c:∀ i j C,i<n->j<n->C (lt i j) s->cmp i j C s):∀ t:KasT α,kOk lt n t->Q (kEv lt t) s->t.kasWp cmp Q s
 | .ret a,_,h=>h
 | .ask i j k,b,h=>c i j _ b.1 b.2.1<|jha c (k<|lt i j) b.2.2 h
def Pm(n:Nat)(p:Array Nat):Prop:=p.toList.Perm<|List.range n
def Pm.lt(h:Pm n p)(a:0<n)(i):p.getD i 0<n:=by
 by_cases hi:i<p.size
 ·have e:p.getD i 0=p[i]:=by simp[Array.getD,hi]
  rw[e];have b:p[i]∈p.toList:=by simp
  exact List.mem_range.mp<|h.mem_iff.mp b
 ·have e:p.getD i 0=0:=by simp[Array.getD,hi]
  rw[e];exact a
def Pm.swap(h:Pm n p)(i j:Nat):Pm n (p.swapIfInBounds i j):=by
 refine List.Perm.trans ?_ h;rw[Array.swapIfInBounds_def];split
 ·split
  ·exact(Array.perm_iff_toList_perm.mp<|Array.swap_perm _ _)
  ·exact List.Perm.refl _
 ·exact List.Perm.refl _
theorem Pm.swaps(u v:Nat->Nat):∀(l:List Nat) {p},Pm n p->Pm n (l.foldl (λa k=>a.swapIfInBounds (u k)<|v k) p)
 | [],_,h=>h
 | k::l,p,h=>Pm.swaps u v l<|h.swap _ _
def Pm.rev(h:Pm n p)(i j):Pm n (kas_rev p i j):=Pm.swaps _ _ _ h
def Pm.bub(h:Pm n p)(k m):Pm n (bubble p k m):=Pm.swaps _ _ _ h
section
variable {lt:Nat->Nat->Bool}{n:Nat}
theorem jd4(a:0<n)  (h:Pm n p):∀ f m,kOk lt n<|kas_asc p f m
 | 0,_=>trivial
 | f+1,m=>by
  refine⟨h.lt a _,h.lt a _,?_⟩;dsimp only;split
  ·trivial
  ·exact jd4 a h f<|m+1
theorem K6(b:0<n):∀ f {p} m q,Pm n p->kOk lt n (kas_desc f p m q)/\Pm n (kEv lt<|kas_desc f p m q).1
 | 0,_,_,_,h=>⟨trivial,h⟩
 | f+1,p,m,q,h=>by
  have a:=h.lt b;cases hc:lt (p.getD m 0) (p.getD (m-1) 0) with
  | true=>
   by_cases e:q>0
   ·have c:=K6 b f (p:=kas_rev p (m-(q+1)) m) (m+1) 0<|h.rev _ _;have d:=e;simp only[kas_desc,kOk,kEv,hc,if_true,gt_iff_lt,d,a,true_and];exact c
   ·have c:=K6 b f (m+1) 0 h;simp only[kas_desc,kOk,kEv,hc,if_true,gt_iff_lt,e,if_false,a,true_and];exact c
  | false=>
   cases hd:lt (p.getD (m-1) 0) (p.getD m 0) with
   | true=>
    simp only[kas_desc,kOk,kEv,hc,hd,if_true,Bool.false_eq_true,if_false,a,true_and];exact h
   | false=>
    simp only[kas_desc,kOk,kEv,hc,hd,Bool.false_eq_true,if_false,a,true_and];exact(K6 b f (m+1) (q+1) h)
def Y8(a:0<n)  (h:Pm n p) (m k):kOk lt n (kas_tail3 m k p)/\Pm n (kEv lt<|kas_tail3 m k p).2:=by
 unfold kas_tail3;exact⟨Jh _ (jd4 a (h.rev _ _) _ _) trivial,by rw[Jf];exact h.rev _ _⟩
def qg(a:0<n)  (h:Pm n p) (m k):kOk lt n (kas_descPart m k p)/\Pm n (kEv lt<|kas_descPart m k p).2:=by
 unfold kas_descPart;have hd:=K6 (lt:=lt) a (k-(m+1)) (m+1) 0 h;refine⟨Jh _ hd.1 ?_,?_⟩
 ·split
  ·exact(Y8 a (hd.2.rev _ _) _ _).1
  ·exact(Y8 a hd.2 _ _).1
 ·rw[Jf];split
  ·exact(Y8 a (hd.2.rev _ _) _ _).2
  ·exact(Y8 a hd.2 _ _).2
def jfj(a:0<n)  (h:Pm n p) (k):kOk lt n (kas_count k p)/\Pm n (kEv lt<|kas_count k p).2:=by
 unfold kas_count;refine⟨Jh _ (jd4 (lt:=lt) a h (k-1) 1) ?_,?_⟩
 ·generalize kEv lt (kas_asc p (k-1) 1)=m;split
  ·trivial
  ·split
   ·refine⟨h.lt a _,h.lt a _,?_⟩;dsimp only;split
    ·trivial
    ·exact(qg a (h.rev _ _) _ _).1
   ·exact(qg a h _ _).1
 ·rw[Jf];split
  ·exact h
  ·split
   ·dsimp only[kEv];split
    ·exact h
    ·exact(qg a (h.rev _ _) _ _).2
   ·exact(qg a h _ _).2
theorem KP(a:0<n)  (h:Pm n p) (k):∀ f l r,kOk lt n<|kas_place p k f l r
 | 0,_,_=>trivial
 | f+1,l,r=>by
  unfold kas_place;split
  ·trivial
  ·refine⟨h.lt a _,h.lt a _,?_⟩;dsimp only;split
   ·exact KP a h k f _ _
   ·exact KP a h k f _ _
theorem jdd(a:0<n):∀ f {p} k,Pm n p->kOk lt n (kas_bin f p k)/\Pm n (kEv lt<|kas_bin f p k)
 | 0,_,_,h=>⟨trivial,h⟩
 | f+1,p,k,h=>by
  unfold kas_bin;have b:=jdd a f (p:=bubble p k<|k-kEv lt (kas_place p k k 0 k)) (k+1)<|h.bub _ _;exact⟨Jh _ (KP (lt:=lt) a h k k 0 k) b.1,by rw[Jf];exact b.2⟩
def ux(b:0<n):kOk lt n (kas_sort n)/\Pm n (kEv lt<|kas_sort n):=by
 unfold kas_sort;have c:Pm n (List.toArray<|List.range n):=List.Perm.refl _;have a:=jfj (lt:=lt) b c n;refine⟨Jh _ a.1 ?_,?_⟩
 ·split
  ·exact(jdd b _ _ a.2).1
  ·trivial
 ·rw[Jf];split
  ·exact(jdd b _ _ a.2).2
  ·exact a.2
end
end PySem
set_option maxHeartbeats 4000000
namespace PySem
open PySem.W PyProof.Rows PySem.Calls
def V4{α:Type}(lt:Nat->Nat->Bool)(vs:List α)(d:α):List α:=if vs.length<2 then vs else(kEv lt<|kas_sort vs.length).toList.map λi=>vs.getD i d
def jaf(lt)(vs)(d:α):(V4 lt vs d).length=vs.length:=by
 unfold V4;split
 ·rfl
 ·rename_i h;rw[L1];have:=((ux (lt:=lt) (n:=vs.length) ∅).2).length_eq;rw[this,List.length_range]
def zX(m:s.heap.get? a=some (seqObj "list" vs.toArray n))(r:vs.length<64)
  (F:2<=vs.length->∀ s':Shared,(∀ b o,b≠a->s.heap.get? b=some o->s'.heap.get? b=some o)->∀{Q:SortKind->Shared->Prop},Q κ s'->wpAny (model prog w) A (keyKind' vs.toArray) Q (λ_ _=>False) s')
  (t:∀ s':Shared,(∀ b o,b≠a->s.heap.get? b=some o->s'.heap.get? b=some o)->∀ i j,i<vs.length->j<vs.length->∀{C:Bool->Shared->Prop},C (lt i j) s'->wpAny (model prog w) A (keyLt' κ (vs.getD i Value.none)<|vs.getD j Value.none) C (λ_ _=>False) s')
  (h:P (.done<|.ret .none) {s with heap:=sortedHeap s.heap a vs (V4 lt vs Value.none).toArray}):
  wpAny (model prog w) A (Builtin.«list.sort» ⟨[.ref a],[]⟩) P E s:=by
 rw[list_sort_plain];have z:=N3 m;refine L3<|listItems_at m rfl<|L3<|listUpdate_at m rfl ?_;obtain⟨u,g⟩:∃ u,(s.heap.update a<|Obj.mapSeq λ_=>#[]).get? a=some (seqObj "list" #[] u):=⟨_,get?_update_seq m<|λ_=>#[]⟩;refine L3<|seqEpoch_at g rfl<|L3<|wpAny_newTuple<|L3<|wpAny_newList<|wpAny_holding ?_;have d:(((s.heap.update a<|Obj.mapSeq λ_=>#[]).push (seqObj "tuple" vs.toArray 0)).push (seqObj "list" #[] 0)).get? a=some (seqObj "list" #[] u):=by
  rw[Heap.get?_push_ne _ _ _<|by rw[size_push',Heap.size_update];exact N8<|Nat.lt_succ_of_lt z,Heap.get?_push_ne _ _ _<|by rw[Heap.size_update];exact N8 z];exact g
 have keep:∀ b o,b≠a->s.heap.get? b=some o->(((s.heap.update a<|Obj.mapSeq λ_=>#[]).push (seqObj "tuple" vs.toArray 0)).push (seqObj "list" #[] 0)).get? b=some o:=λb o H e=>
  L8 _ (L8 _<|by rw[Heap.get?_update_ne _ _ _ _ H];exact e)
 dsimp only;have v:vs.toArray.size=vs.length:=by simp
 by_cases q:vs.toArray.size<2
 ·have c:V4 lt vs Value.none=vs:=by unfold V4;rw[if_pos ∅]
  rw[c] at h;rw[if_pos q,if_pos q];refine L3<|M8<|L3<|M8 ?_;have I:(arrOf<|SortSt.mk' general' (vs.toArray.zip vs.toArray) #[] 7 none).map (·.2)=vs.toArray:=by
   apply Array.toList_inj.mp;simp;exact List.map_snd_zip<|N1 _
  rw[I];refine L3<|seqEpoch_at d rfl ?_;refine L3<|listUpdate_at d rfl ?_ (hsz2:=by rw[v,sizeLine_eq];lia);simp only[bne_self_eq_false,Bool.false_eq_true,if_false];exact M8 h
 ·have k:2<=vs.length:=by lia
  have c:V4 lt vs Value.none=(kEv lt<|kas_sort vs.length).toList.map λi=>vs.getD i Value.none:=by unfold V4;rw[if_neg ∅]
  rw[if_neg q,if_neg q];refine L3<|wpAny_mono (F k {s with heap:=((s.heap.update a<|Obj.mapSeq λ_=>#[]).push (seqObj "tuple" vs.toArray 0)).push (seqObj "list" #[] 0)} keep (Q:=λB s0=>B=κ/\s0={s with heap:=((s.heap.update a<|Obj.mapSeq λ_=>#[]).push (seqObj "tuple" vs.toArray 0)).push (seqObj "list" #[] 0)}) ⟨rfl,rfl⟩) ?_ λ_ _ x=>x.elim;rintro B s0 ⟨rfl,rfl⟩;have l:=kat_run (E:=E)
   (Q:=λf s'=>s'={s with heap:=((s.heap.update a<|Obj.mapSeq λ_=>#[]).push (seqObj "tuple" vs.toArray 0)).push (seqObj "list" #[] 0)}/\arrOf f=(kEv lt<|kas_sort vs.length).map (kas_item<|vs.toArray.zip vs.toArray)/\failedOf f=none)
   (G:=λp s'=>p=kEv lt (kas_sort vs.length)/\s'={s with heap:=((s.heap.update a<|Obj.mapSeq λ_=>#[]).push (seqObj "tuple" vs.toArray 0)).push (seqObj "list" #[] 0)})
   rfl k r (λp f s' O J K D=>⟨D.2,by rw[<- D.1];exact J,K⟩)
   (jha (λi j C hi L M=>t {s with heap:=((s.heap.update a<|Obj.mapSeq λ_=>#[]).push (seqObj "tuple" vs.toArray 0)).push (seqObj "list" #[] 0)} keep i j hi L M) _ (ux (lt:=lt) (n:=vs.length) ∅).1 ⟨rfl,rfl⟩)
  refine L3<|wpAny_mono l ?_ λ_ _ e=>e;rintro⟨⟨⟩,f⟩ s' ⟨rfl,y,N⟩;rw[kat_snds rfl y,<- c];refine L3<|seqEpoch_at d rfl ?_;refine L3<|listUpdate_at d rfl ?_ (hsz2:=by rw[N5,jaf,sizeLine_eq];lia);rw[N];simp only[bne_self_eq_false,Bool.false_eq_true,if_false];exact M8 h
def V5(t:s.heap.IsList l vs.toArray)(m:vs.length<64)
  (u:2<=vs.length->∀ A' s',(∀ b o,s.heap.get? b=some o->s'.heap.get? b=some o)->∀{Q:SortKind->Shared->Prop},Q κ s'->wpAny (model prog w) A' (keyKind' vs.toArray) Q (λ_ _=>False) s')
  (a:∀ A' s',(∀ b o,s.heap.get? b=some o->s'.heap.get? b=some o)->∀ i j,i<vs.length->j<vs.length->∀{C:Bool->Shared->Prop},C (lt i j) s'->wpAny (model prog w) A' (keyLt' κ (vs.getD i Value.none)<|vs.getD j Value.none) C (λ_ _=>False) s')
  (h:∀ h' c,(∀ b o,s.heap.get? b=some o->h'.get? b=some o)->h'.get? (↥s+1)=some (seqObj "list" (V4 lt vs Value.none).toArray c)->Q (.ref<|↥s+1) {s with heap:=h'}):
  wpAny (model prog w) A (call (.builtin "sorted") [.ref l]) Q E s:=by
 refine Calls.call_function_entry kind_sorted plain_sorted entry_sorted (args_sorted1 _)<|L3<|M8 ?_;refine L3<|collect_list t ?_ (by rw[sizeLine_eq];lia);refine L3<|wpAny_newList ?_ (by rw[sizeLine_eq];lia);have e:((s.heap.push<|seqObj "list" #[] 0).update ↥s (Obj.mapSeq (·++vs.toArray))).objs.size=↥s+1:=by
  rw[Heap.size_update,size_push']
 have f:(((s.heap.push<|seqObj "list" #[] 0).update ↥s (Obj.mapSeq (·++vs.toArray))).push (seqObj "list" vs.toArray 0)).get? (↥s+1)=some (seqObj "list" vs.toArray 0):=by
  rw[<- e];exact E3 _ rfl
 have keep:∀ b o,s.heap.get? b=some o->(((s.heap.push<|seqObj "list" #[] 0).update ↥s (Obj.mapSeq (·++vs.toArray))).push (seqObj "list" vs.toArray 0)).get? b=some o:=λb o q=>by
  have a:=N3 q;rw[Heap.get?_push_ne _ _ _<|by rw[e];exact N8<|Nat.lt_succ_of_lt a,Heap.get?_update_ne _ _ _ _<|N8 a,Heap.get?_push_ne _ _ _<|N8 a];exact q
 rw[e];have d:∀{s':Shared},(∀ b o,b≠↥s+1->(((s.heap.push<|seqObj "list" #[] 0).update ↥s (Obj.mapSeq (·++vs.toArray))).push (seqObj "list" vs.toArray 0)).get? b=some o->s'.heap.get? b=some o)->∀ b o,s.heap.get? b=some o->s'.heap.get? b=some o:=λk b o q=>
  k b o (N8<|Nat.lt_succ_of_lt<|N3 q) (keep b o q)
 refine L3<|wpAny_holding<|wpAny_call_entry slot_list_sort ⟨_,f,rfl⟩ entry_list_sort ?body (args_list_sort _)
 case body=>
  refine zX f m (λv s' k=>u v _ s'<|d k) (λs' k=>a _ s'<|d k) ?_;have g:∃ c,(sortedHeap (((s.heap.push<|seqObj "list" #[] 0).update ↥s (Obj.mapSeq (·++vs.toArray))).push (seqObj "list" vs.toArray 0)) (↥s+1) vs (V4 lt vs Value.none).toArray).get? (↥s+1)=some (seqObj "list" (V4 lt vs Value.none).toArray c):=by
   obtain⟨p,n⟩:∃ p,((((s.heap.push<|seqObj "list" #[] 0).update ↥s (Obj.mapSeq (·++vs.toArray))).push (seqObj "list" vs.toArray 0)).update (↥s+1) (Obj.mapSeq λ_=>#[])).get? (↥s+1)=some (seqObj "list" #[] p):=⟨_,get?_update_seq f<|λ_=>#[]⟩;exact⟨_,get?_update_seq (L8 _<|L8 _ n) λ_=>(V4 lt vs Value.none).toArray⟩
  obtain⟨c,x⟩:=g;refine⟨_,rfl,M8 ⟨_,rfl,h _ c (λb o q=>?_) x⟩⟩;have r:=N8<|Nat.lt_succ_of_lt<|N3 q;show(Heap.update _ _ _).get? b=some o;rw[Heap.get?_update_ne _ _ _ _ r];exact L8 _<|L8 _ (by rw[Heap.get?_update_ne _ _ _ _ r];exact keep b o q)
noncomputable abbrev jfF:=Str×Str×Int
noncomputable def xq(x y:jfF):Bool:=if x.1=y.1 then(if x.2.1=y.2.1 then decide (x.2.2<y.2.2) else decide (x.2.1.cps.toList<y.2.1.cps.toList)) else decide (x.1.cps.toList<y.1.cps.toList)
def ja2(h:Heap)(v:Value)(r:jfF):Prop:=∃ a o m t1 t2 t3,v=.ref a/\h.get? a=some o/\o.cls=.type "tuple"/\o.data=.seq #[.str r.1 t1,.str r.2.1 t2,.int r.2.2 t3] m
def jlx(d:ja2 s.heap v x)(e:ja2 s.heap u y)  (h:C (xq x y) s):wpAny (model prog w) A (keyLt' (tuples' true) v u) C E s:=by
 obtain⟨a,o,m,k,l,n,rfl,f,p,g⟩:=d;obtain⟨b,q,r,t,z,B,rfl,i,D,j⟩:=e;refine kat_lt f g i j ?_;unfold xq at h;refine kat_cons<|wpAny_eqBool_str ?_;by_cases c:x.1=y.1
 ·rw[if_pos c] at h;rw[X5 c];refine kat_yes<|kat_cons<|wpAny_eqBool_str ?_;by_cases e2:x.2.1=y.2.1
  ·rw[if_pos e2] at h;rw[X5 e2];refine kat_yes<|kat_cons<|wpAny_eqBool_int ?_;by_cases e3:x.2.2=y.2.2
   ·rw[show(x.2.2==y.2.2)=true by simp[e3]];refine kat_yes<|kat_nil ?_;have:decide (x.2.2<y.2.2)=decide (3<3):=by rw[e3];simp
    rw[this] at h;exact h
   ·rw[show(x.2.2==y.2.2)=false by simp[e3]];exact kat_no<|kat_one _ _<|wpAny_lt_int h
  ·rw[if_neg e2] at h;rw[X6 e2];exact kat_no<|kat_one _ _<|lt_str h
 ·rw[if_neg c] at h;rw[X6 c];exact kat_no<|oneLt_str h
def jdH{A}{E}{s}{vs:List Value}{rs:List jfF}(c:vs.length=rs.length)(b:∀(j:Nat) v,vs[j]?=some v->∃ r,rs[j]?=some r/\ja2 s.heap v r)(u:0<vs.length){Q}(h:Q (tuples' true) s):wpAny (model prog w) A (keyKind' vs.toArray) Q E s:=by
 have key:∀ vs (rs:List jfF),vs.length=rs.length->(∀(j:Nat) v,vs[j]?=some v->∃ r,rs[j]?=some r/\ja2 s.heap v r)->∃ fs:List Value,KatTups s.heap vs fs/\fs.length=vs.length/\∀ v∈fs,∃ x t,v=Value.str x t:=by
  intro vs
  induction vs with
  | nil=>intro rs _ _;exact⟨[],KatTups.nil,rfl,λv b=>(nomatch b)⟩
  | cons v vs d=>
   intro rs c b;cases rs with
   | nil=>simp at c
   | cons r rs=>
    obtain⟨fs,k,l,f⟩:=d rs ⇑c λj v e=>b (j+1) v ⇑e;obtain⟨g,e,a,o,m,i,y,z,rfl,n,p,q⟩:=b 0 v rfl;refine⟨.str g.1 i::fs,KatTups.cons n p q rfl k,by simp[l],λv b=>?_⟩;rcases M5.mp b with rfl | b
    ·exact⟨_,_,rfl⟩
    ·exact f v b
 obtain⟨fs,k,l,f⟩:=key vs rs c b;refine kat_kind (T:=.type "str") k ∅ (λv b=>?_) (by rfl) h;obtain⟨x,t,rfl⟩:=f v b;exact Looks.of_pure rfl
def YU{A}{E}{s:Shared}{vs}{rs:List jfF}{Q}(u:s.heap.IsList l vs.toArray)(n:vs.length<64)(g:vs.length=rs.length)(x:∀(j:Nat) v,vs[j]?=some v->∃ r,rs[j]?=some r/\ja2 s.heap v r)
  (h:∀ h' c,(∀ b o,s.heap.get? b=some o->h'.get? b=some o)->h'.get? (↥s+1)=some (seqObj "list" (V4 (λi j=>xq (rs.getD i ("","",0))<|rs.getD j ("","",0)) vs Value.none).toArray c)->Q (.ref<|↥s+1) {s with heap:=h'}):
  wpAny (model prog w) A (call (.builtin "sorted") [.ref l]) Q E s:=by
 have up:∀(d:Shared),(∀ b o,s.heap.get? b=some o->d.heap.get? b=some o)->∀ j v,vs[j]?=some v->∃ r,rs[j]?=some r/\ja2 d.heap v r:=λd f j v k=>by
  obtain⟨r,e,a,o,m,y,z,B,p,D,q,F⟩:=x j v k;exact⟨r,e,a,o,m,y,z,B,p,f a o D,q,F⟩
 refine V5 u n (λq G d f Q H=>jdH g (up d f) ∅ H) (λG d f i j hi k C t=>?_) h;obtain⟨r1,p,I⟩:=up d f i _<|E1 hi;obtain⟨r2,e2,J⟩:=up d f j _<|E1 k;have K:vs.getD i Value.none=vs[i]:=by simp[hi]
 have g2:vs.getD j Value.none=vs[j]:=by simp[k]
 rw[K,g2];refine jlx I J ?_;have L:rs.getD i ("","",0)=r1:=by rw[List.getD_eq_getElem?_getD,p];rfl
 have M:rs.getD j ("","",0)=r2:=by rw[List.getD_eq_getElem?_getD,e2];rfl
 rw[L,M] at t;exact t
end PySem
namespace PySem
open Sem (wp)
section
variable {prog:Program}{w:World}{A:Around}{E:J0}{h:Heap}{g:Array GenState}{dr:Drawn}{t:Nat}{os:OsState}
def joJ{a d:Addr}{i ep:Nat}{es:Array DictEntry}{od:Obj}{en:DictEntry}{ok l:Value}{Q:Option Value->Shared->Prop}(hit:IsItemIter h a d i es.size ep ok l)(N:h.get? d=some od)(u:od.data=.dict es ep)(O:es[i]?=some en)
  (P:∀ h',IsItemIterOut h' a d (i+1) es.size ep en.key en.val h.objs.size->h'.get? h.objs.size=some {cls:=.type "tuple",data:=.seq #[en.key,en.val]}->(∀ b o,b≠a->h.get? b=some o->h'.get? b=some o)->Q (some<|.ref h.objs.size) ⟨h',g,dr,t,os⟩):
  wpAny (model prog w) A (pyNext<|.ref a) Q E ⟨h,g,dr,t,os⟩:=by
 have r:Shared.TypeIs ⟨h,g,dr,t,os⟩ (.ref a) "dict_itemiterator":=⟨_,hit,rfl⟩;obtain⟨oc,R,S,T⟩:=od;subst u;have U:¬ ((i:Int)<0):=by lia
 refine L3<|wpAny_attempt<|wpAny_callSpecial?_slot (name:=Str.ofString "__next__") r F.slot_dict_itemiterator_next ?_;refine wpAny_call_entry F.slot_dict_itemiterator_next r F.entry_dict_itemiterator_next ?_<|F.args_dict_itemiterator_next_1 _
 repeat (any_goals (first | assumption | wp_step))
 rw[if_neg U,U0,O];refine L3 ?_;refine L3<|wpAny_typeNameOfWhole_itemiter r<|M8 ?n1
 case n1=>
  refine L3<|wpAny_isOneOf_itemiter r<|show wpAny _ _ (setField (.ref a) 3 (rawInt<|i+1) >>= _) _ _ _ from L3 (wpAny_setField_rec hit (by simp) λf V W=>?_);have m:Heap.SameBut a h f:=W;have n:IsItemIter f a d (i+1) es.size ep ok l:=by
   have e:((i+1:Nat):Int)=i+1:=by lia
   unfold IsItemIter;rw[e];simpa [rawInt] using V
  have p:Shared.TypeIs ⟨f,g,dr,t,os⟩ (.ref a) "dict_itemiterator":=⟨_,n,rfl⟩;refine L3<|wpAny_holding<|L3<|wpAny_isOneOf_itemiter p<|L3<|wpAny_isOneOf_itemiter p ?_;unfold Builtin.Dict_items.pairFromOwner;refine L3<|wpAny_newTuple ?_;have M:f.objs.size=h.objs.size:=m.1;have q:IsItemIter (f.push {cls:=.type "tuple",data:=.seq #[en.key,en.val]}) a d (i+1) es.size ep ok l:=L8 _ n;have j:(f.push {cls:=.type "tuple",data:=.seq #[en.key,en.val]}).get? h.objs.size=some {cls:=.type "tuple",data:=.seq #[en.key,en.val]}:=by rw[<- M];exact E3 _ rfl
  have k:∀ b o,b≠a->h.get? b=some o->(f.push {cls:=.type "tuple",data:=.seq #[en.key,en.val]}).get? b=some o:=λb o c e=>L8 _<|m.extBut b o c e;have v:h.objs.size≠a:=Nat.ne_of_gt<|N3 hit;rw[M];generalize f.push ({cls:=.type "tuple",data:=.seq #[en.key,en.val]}:Obj)=k2 at q j k;refine L3 ?_;unfold Builtin.Dict_items.ownedTupleIsFree;refine L3<|U8 q rfl (x:=.none) rfl<|M8 ?_;simp only[if_true];refine L3<|U8 q rfl (x:=ok) rfl<|L3<|U8 q rfl (x:=l) rfl<|L3<|wpAny_setField_rec q (by simp) λy X Y=>?_;have z:Heap.SameBut a k2 y:=Y;have B:IsItemIter y a d (i+1) es.size ep en.key l:=X;refine L3<|wpAny_setField_rec B (by simp) λC Z b4=>?_;have D:Heap.SameBut a y C:=b4;have G:IsItemIter C a d (i+1) es.size ep en.key en.val:=Z;refine L3<|wpAny_setField_rec G (by simp) λH q5 b5=>?_;have I:Heap.SameBut a C H:=b5;have J:IsItemIterOut H a d (i+1) es.size ep en.key en.val h.objs.size:=q5;refine L3<|wpAny_setField_rec J (by simp) λs q6 b6=>?_;have K:Heap.SameBut a H s:=b6;have L:IsItemIterOut s a d (i+1) es.size ep en.key en.val h.objs.size:=q6;have up:∀ b o,b≠a->k2.get? b=some o->s.get? b=some o:=λb o c e=>K.extBut b o c<|I.extBut b o c<|D.extBut b o c<|z.extBut b o c e;exact L3<|wpAny_letGo<|M8<|M8 ⟨_,rfl,M8<|P s L (up _ _ v j) λb o c e=>up b o c<|k b o c e⟩
def jqw{a d}{i ep}{es}{od}{ok e}{Q}(f:A.handled=none)(hit:IsItemIter h a d i es.size ep ok e)(j:h.get? d=some od)(b:od.data=.dict es ep)(k:es[i]?=none)
  (l:∀ h',Heap.ExtBut a h h'->Q none ⟨h',g,dr,t,os⟩):wpAny (model prog w) A (pyNext<|.ref a) Q E ⟨h,g,dr,t,os⟩:=by
 have c:Shared.TypeIs ⟨h,g,dr,t,os⟩ (.ref a) "dict_itemiterator":=⟨_,hit,rfl⟩;obtain⟨oc,m,n,o⟩:=od;subst b;have p:¬ ((i:Int)<0):=by lia
 refine L3<|wpAny_attempt<|wpAny_callSpecial?_slot c F.slot_dict_itemiterator_next ?_;refine wpAny_call_entry F.slot_dict_itemiterator_next c F.entry_dict_itemiterator_next ?_<|F.args_dict_itemiterator_next_1 _
 repeat (any_goals (first | assumption | wp_step))
 rw[if_neg p,U0,k];refine L3 ?_;refine L3<|wpAny_typeNameOfWhole_itemiter c<|M8 ?n1
 case n1=>
  refine(show wpAny _ _ (setField (.ref a) 2 .none >>= _) _ _ _ from L3 (wpAny_setField hit rfl (by simp) ?_));refine(L3 ?_);simp only[newExc,newTuple];refine L3<|wpAny_newObj_type (L3<|wpAny_of_eq (by first | rfl | (simp only[firstArgMember];rfl))<|wpAny_newObj_type ?_<|by size_fits) (by size_fits);simp only[raiseNew];refine L3<|wpAny_handled ?_;rw[f];refine L3<|M8<|wpAny_throw ?_;refine L3<|wpAny_isInstance ⟨_,E3 _ rfl,rfl⟩ isSubtype_stop<|M8<|l _ ?_;exact((Heap.SameBut.update ..).extBut.push _).push _
def uo{d}{od}{es:Array DictEntry}{ep:Nat}{Q}(a:h.get? d=some od)(c:od.ExactDict)(hd:(d==sysModules)=false)
  (e:Q (.ref h.objs.size) ⟨h.push {cls:=.type "dict_items",data:=.fields #[.ref d]},g,dr,t,os⟩):wpAny (model prog w) A (call (.builtin "dict.items") [.ref d]) Q E ⟨h,g,dr,t,os⟩:=by
 have b:Shared.TypeIs ⟨h,g,dr,t,os⟩ (.ref d) "dict":=⟨od,a,c.1⟩;refine wpAny_call_entry F.slot_dict_items b F.entry_dict_items (L3<|L3<|wpAny_notOrdered_dict b<|M8 ?_)<|F.args_dict_items_1 _;unfold Builtin.Dict.showsAll;rw[if_neg<|by rw[hd];exact M4];exact L3<|M8<|L3<|wpAny_newObj_type<|M8 ⟨_,rfl,e⟩
def joP{v d}{od}{es}{ep}{Q}(e:h.IsItemsView v d)(a:h.get? d=some od)(b:od.data=.dict es ep)
  (i:Q (.ref h.objs.size) ⟨h.push {cls:=.type "dict_itemiterator",data:=.fields #[.none,.bool false,.ref d,.int 0 0,.int es.size 0,.int ep 0,.none,.none]},g,dr,t,os⟩):wpAny (model prog w) A (pyIter<|.ref v) Q E ⟨h,g,dr,t,os⟩:=by
 obtain⟨k,c,l,j⟩:=id e;have f:Shared.TypeIs ⟨h,g,dr,t,os⟩ (.ref v) "dict_items":=e.typeIs;refine wpAny_pyIter_slot f F.slot_dict_items_iter<|wpAny_call_entry F.slot_dict_items_iter f F.entry_dict_items_iter ?_<|F.args_dict_items_iter_1 _;unfold Builtin.«dict_items.__iter__»;refine L3<|M8<|L3 ?_;unfold Builtin.Dict_items.dictOf;refine L3<|U8 c j rfl<|M8<|L3 ?_;refine L3<|wpAny_dictEntries a b<|L3<|wpAny_dictEpoch a b ?_;have ow:Builtin.Dict_items.ownsTuple "dict_itemiterator" = true:=by decide
 simp only[ow,if_true];refine wpAny_newObj_type (M8 ⟨_,rfl,"dict_itemiterator",_,⟨_,E3 _ rfl,rfl⟩,F.slot_dict_itemiterator_next.lookup,?_⟩) (by simp only[sizeOk,Builtin.Dict_items.ownedTupleFields,N5,N6,M3,List.length_nil,sizeLine_eq];lia);simpa [rawInt,Builtin.Dict_items.ownedTupleFields] using i
end
end PySem
namespace L2
open PySem PySem.Spec PyProof.Rows
def joA(a:Addr)(o:Obj)(kvs:List<|List Key×V):It:=
 ⟨λi H=>H a=some (.frz o<|.dT kvs)/\i<kvs.length,λi H x H'=>∃ p kv b,kvs[i]?=some kv/\x=.ref p/\H p=none/\H b=some (.tup<|kv.1.map kV)/\H'=upd H p (.tup [.ref b,kv.2]),λi H=>H a=some (.frz o<|.dT kvs)/\kvs.length<=i⟩
def jmC{P}{w}{H}{h}{a}{o}{b}(ok:HOk P w H h)(e:H a=some (.frz o<|.dT b)):
  h.get? a=some o/\(a==sysModules)=false/\o.ExactDict/\∃ xs es ep,KT H b xs/\o.data=.dict es ep/\es.toList=xs.map (entryOfKey<|tupleKind<|jX P w):=by
 obtain⟨c,f⟩:=(ok a _ e);obtain⟨_,g,xs,r,i,es,ep,d,g2,g3,g4,_⟩:=(f);rw[c] at d;cases d;exact⟨c,g,g2,xs,es,ep,r,g3,g4⟩
def jo8{H}{a}{xs}(r:KT H a xs):∀{i:Nat}{q},xs[i]?=some q->∃ v,An3 (a[i]?=some (q.1,v)) (H q.2.1=some (.tup<|q.1.map kV)) (RelV v q.2.2):=by
 induction r with
 | nil=>intro i q e;simp at e
 | @cons p q c d h _ b=>
  intro i x e;cases i with
  | zero=>cases e;exact⟨p.2,by rw[<- h.1];rfl,by rw[<- h.1];exact h.2.1,h.2.2⟩
  | succ i=>exact b ⇑e
def jfb{P}{w}{K}{elts}{m}{pos}(a g)(o)(B)(es)(ep)(y:o.data=.dict es ep):
  Turn P w K (.Tuple elts m pos) (joA a o B) [g] g (λi h=>∃ ok ov,IsItemIter h g a i es.size ep ok ov) where
 mem:=by simp
 obj:=λi h f b c=>by
  have e:b=g:=by simpa using c
  subst e;obtain⟨ok,ov,d⟩:=f;exact⟨_,d,λv q=>by cases q⟩
 keep:=λi h W f k=>by
  obtain⟨ok,ov,d⟩:=f;exact⟨ok,ov,k g (by simp) _ d⟩
 item:=by
  intro X Y Z hK S i p s σ H E I A f C;obtain⟨D,T⟩:=C;obtain⟨F,g2,gx,t,G,J,r,g3,g4⟩:=jmC I.hok D;rw[y] at g3;cases g3;have j:=Paired.length r;obtain⟨q,U⟩:∃ q,t[i]?=some q:=⟨t[i]'∅,by simp[<- j,T]⟩;obtain⟨v,L,c,rv⟩:=jo8 r U;obtain⟨ok,ov,d⟩:=f;have l:=N3 d;have M:es[i]?=some (entryOfKey (tupleKind<|jX X.prog X.w) q):=by rw[<- Array.getElem?_toList,g4,List.getElem?_map,U];rfl
  obtain⟨N,gg,dd,V,os⟩:=s;refine joJ d F y M λh1 O hT hk=>⟨_,rfl,wpAny_letOwnedTupleGo_items O λh2 Q R=>?_⟩;have n:=R;have u:=(n.2 _<|Nat.ne_of_gt l).trans hT;have kk:∀ b o,b∉[g]->N.get? b=some o->h2.get? b=some o:=λb o c q=>by
   have x:b≠g:=by simpa using c
   exact(n.2 b x).trans (hk b o x q)
  have I1:=I.turnedNew (t':=V) (xs:=[.ref q.2.1,v]) kk A (N1 _) ⟨⟨_,u,rfl,_,rfl⟩,_,u,rfl⟩ (.cons rfl<|.cons rv .nil) (by show 2<=sizeLine;decide);refine⟨.ref N.objs.size,_,I1,rfl,⟨_,(q.1,v),q.2.1,L,rfl,I.hok.fresh<|N1 _,c,rfl⟩,⟨_,_,Q⟩,λb c=>?_⟩;rw[je]
  ·exact(A b c).1
  ·intro z;have e:b=g:=by simpa using c
   exact absurd l (by rw[<- e,z];exact Nat.lt_irrefl _)
 done:=by
  intro X Y Z hK S i p s σ H E I A f C;obtain⟨D,T⟩:=C;obtain⟨F,g2,gx,t,G,J,r,g3,g4⟩:=jmC I.hok D;rw[y] at g3;cases g3;have j:=Paired.length r;have hes:es.size=t.length:=by rw[<- Array.length_toList,g4,L1]
  obtain⟨ok,ov,d⟩:=f;obtain⟨N,gg,dd,V,os⟩:=s;exact jqw (I.ok.hd S) d F y (Array.getElem?_eq_none ∅) λW eb=>⟨rfl,I.turnedL (λb o c q=>eb b o ⇑c q) A⟩
 self:=λ_ _ _ _ _ f h=>by
  obtain⟨ok,ov,d⟩:=f;exact Qj d h
def jk8(te:TE):TI:=λσ H R=>te σ H λx H1=>∃ a kvs,x=.ref a/\H1 a=some (.dT kvs)/\∀ o,R (joA a o kvs)<|upd H1 a<|.frz o<|.dT kvs
section
variable {X:Cx}
def Inv.frzT{pins}{σ:St}{H}{s}{a}{c}(I:Inv X pins σ H s)(e:H a=some (.dT c)):
  Ex3 λo es ep=>An5 (o.data=.dict es ep) (s.heap.get? a=some o) o.ExactDict ((a==sysModules)=false) (Inv X pins σ (upd H a<|.frz o<|.dT c) s):=by
 obtain⟨z,hd,i,r,o,es,ep,d,g,h,j,k⟩:=(I.hok a _ e);refine⟨o,es,ep,h,d,g,hd,?_⟩;refine wI I (by rw[e];exact trivial) ⟨rfl,λ_ _=>rfl⟩ ⟨o,d⟩<|⟨d,z,hd,i,KT.keeps (r)<|λb l f=>?_,o,es,ep,d,g,h,j,k⟩;rw[je<|λz=>by rw[z,e] at f;cases f];exact f
def jhQ{elts}{m}{tpos apos cpos}{e}{te}(D:PE X e te)
  (f:attributeBase e "items" X.env (eval e X.env)=eval e X.env:=by rfl) (g:(apos.endLine==cpos.line)=true:=by rfl):PI X (.Tuple elts m tpos) (.Call (.Attribute e "items" apos) [] [] cpos) (jk8 te):=by
 intro d s σ H R I h;refine wpAny_Call_method0_late f g<|thn (D d s σ H _ I h) λv s1 ⟨x,E,k,r1,a,i,ex,l,q⟩=>?_;subst ex;obtain rfl:v=Value.ref a:=r1;obtain⟨G,J,_⟩:=jbW k<|.inr ⟨i,.inl l⟩;obtain⟨T,n,p,U,r,K,t,_⟩:=k.frzT l;obtain⟨c,L,M,N,os⟩:=s1;refine⟨"dict","dict.items",PySem.F.plainAttrs_dict,PySem.F.slot_dict_items,PySem.F.type_dict_items,G,J,Calls.callWith_builtin rfl<|PySem.evalArgs_none<|uo (es:=n) (ep:=p) r K t ?_⟩;have z:∀ b u,c.get? b=some u->(c.push ({cls:=.type "dict_items",data:=.fields #[.ref a]}:Obj)).get? b=some u:=λb u q=>L8 _ q;have A:Inv X d σ E ⟨c.push {cls:=.type "dict_items",data:=.fields #[.ref a]},L,M,N,os⟩:=k.kept z;have O:(c.push ({cls:=.type "dict_items",data:=.fields #[.ref a]}:Obj)).IsItemsView c.objs.size a:=⟨_,E3 _ rfl,rfl,rfl⟩;obtain⟨o,w,y,C,P,V,hd,B⟩:=A.frzT l;refine joP O P C ?_;generalize c.push ({cls:=.type "dict_items",data:=.fields #[.ref a]}:Obj)=hp2 at *;have Q:∀ b u,hp2.get? b=some u->(hp2.push ({cls:=.type "dict_itemiterator",data:=.fields #[.none,.bool false,.ref a,.int 0 0,.int w.size 0,.int y 0,.none,.none]}:Obj)).get? b=some u:=λb u q=>L8 _ q;refine⟨hp2.objs.size,[hp2.objs.size],_,_,_,rfl,B.kept Q,jfb a _ o i w y C,⟨.none,.none,E3 _ rfl⟩,λb S=>?_,q o⟩;have j:hp2.objs.size<=b:=by
  have:b=hp2.objs.size:=by simpa using S
  rw[this];exact N1 _
 exact B.fpOk j<|B.hok.fresh j
end
end L2
set_option maxHeartbeats 1000000
namespace PySem
namespace F
end F
end PySem
namespace L2
open PySem PySem.Spec PyProof.Rows
structure Z3(z TI TO j1 j2 j3 t l m:Addr):Prop where
 TIz:TI≠z
 TOz:TO≠z
 j1z:j1≠z
 j2z:j2≠z
 j3z:j3≠z
 TITO:TI≠TO
 TIj1:TI≠j1
 TIj2:TI≠j2
 TIj3:TI≠j3
 TOj1:TO≠j1
 TOj2:TO≠j2
 TOj3:TO≠j3
 j12:j1≠j2
 j13:j1≠j3
 j23:j2≠j3
 out:∀ x,x=t\/x=l\/x=m->x≠z/\x≠TO/\x≠j1/\x≠j2/\x≠j3
end L2
namespace PySem
namespace F
end F
end PySem
namespace L2
open PySem PySem.Spec PyProof.Rows
end L2
namespace PySem
open Sem (wp)
namespace F
end F
end PySem
namespace L2
open PySem PySem.Spec PyProof.Rows
end L2
namespace PySem
open L2 PyProof.Rows
end PySem
namespace L2
open PySem PySem.Spec PyProof.Rows
def VC(c:X.calm=true):kR X (.builtin "sum") (λxs H Q=>∃(p:Addr) (ns:List Int),xs=[.ref p]/\SqT X.K H p (ns.map V.int)/\Q (.int ns.sum) H):=by
 intro a s σ H xs k Q I r h;obtain⟨p,ns,rfl,d,q⟩:=h;obtain⟨u,rfl,e⟩:=r.one;cases e;obtain⟨f,g,pl,l⟩:=I.tuple d;have hi:=Kx g;obtain⟨zs,b⟩:=hi.allInts.items;refine PySem.W.ktm_sumG (I.ok.hd c) (b▸pl) λm n o i=>?_;have j:ns=zs.toList.map (·.1):=by
  rw[<- nums_intItems,<- b];exact(hi.numsOf).symm
 have e2:preSum (numAt zs) zs.size=ns.sum:=by
  rw[preSum_eq,List.take_of_length_le<|by simp,j]
 rw[e2];exact⟨.int ns.sum,H,I.kept i,⟨_,rfl⟩,q⟩
abbrev Kj(h:Heap)(T:Addr)(xs:List Value):Prop:=h.get? T=some {cls:=.type "tuple",data:=.seq xs.toArray}
def ItAt(h:Heap)(j c:Addr)(n:Nat)(vs:Array Value):Bool->Prop
 | true=>h.IsListIter j c n/\h.IsList c vs
 | false=>h.IsTupleIter j c n/\h.IsTuple c vs
def ItAt.ext{h k}{j c a}{n}{vs}{K}(q:ItAt h j c n vs K)(b:Heap.SameBut a h k)(d:j≠a)(e:c≠a):ItAt k j c n vs K:=by
 cases K<;>exact⟨q.1.extBut b.extBut d,q.2.extBut b.extBut e⟩
def ItAt.up{h k}{j c}{n}{vs}{K}(q:ItAt h j c n vs K)(a:∀ o,h.get? j=some o->k.get? j=some o)(b:∀ o,h.get? c=some o->k.get? c=some o):ItAt k j c n vs K:=by
 cases K <;>
 ·obtain⟨⟨d,e,f⟩,g,e2,i⟩:=q;exact⟨⟨d,a _ e,f⟩,g,b _ e2,i⟩
section
variable {prog:Program}{w:World}{A:Around}{E:J0}{s:Shared}
def ji8{j c}{n}{vs}{K}{x}{C}(q:ItAt s.heap j c n vs K)(a:c≠j)(e:vs[n]?=some x)
  (go:∀ k,ItAt k j c (n+1) vs K->Heap.SameBut j s.heap k->C x {s with heap:=k}):wpAny (model prog w) A (Builtin.SmallTypes.nextOf<|.ref j) C E s:=by
 cases K with
 | true=>exact wpAny_nextOf_list_item q.1 q.2 e λk p b=>go k ⟨p,q.2.extBut (Heap.SameBut.extBut b) a⟩ b
 | false=>exact jgx q.1 q.2 e λk p b=>go k ⟨p,q.2.extBut (Heap.SameBut.extBut b) a⟩ b
def jnL(hT:Kj s.heap T xs)(a:xs.length<=1000)
  (h:∀ h',Kj h' T (xs.set k x)->Heap.SameBut T s.heap h'->Q () {s with heap:=h'}):wpAny (model prog w) A (updateSeq T (·.setIfInBounds k x)) Q E s:=by
 have l:xs.toArray.size<=1000:=by simpa using a
 exact wpAny_updateSeq hT rfl (h _ (by rw[Kj,Heap.get?_update_self _ hT rfl];simp[Obj.mapSeq])<|Heap.SameBut.update ..) (N9 l<|by decide) (by rw[Array.size_setIfInBounds];exact N9 l<|by decide)
def jqR{α:Type}{β}{f}{b}{Q:β->Shared->Prop}(St:Nat->Heap->Prop):∀(l:List α) k {s},St k s.heap ->
  (∀ i x h,l[i]?=some x->St (k+i) h->wpAny (model prog w) A (f (x,k+i) b) (λr s'=>r=.yield b/\∃ h',s'={s with heap:=h'}/\St (k+i+1) h') E {s with heap:=h}) ->
  (∀ h,St (k+l.length) h->Q b {s with heap:=h})->wpAny (model prog w) A (forIn (l.zipIdx k) b f) Q E s:=by
 intro l
 induction l with
 | nil=>
  intro k s a _ c;exact M8<|c _ a
 | cons x l g=>
  intro k s a d c;rw[List.zipIdx_cons,List.forIn_cons];refine L3<|wpAny_mono (d 0 x s.heap rfl a) ?_<|λ_ _ z=>z
  ·rintro r s' ⟨rfl,h',rfl,j⟩;exact g (k+1) j (λi x h e q=>by have:=d (i+1) x h ⇑e (by rw[show k+(i+1)=k+1+i by lia];exact q);rw[show k+(i+1)=k+1+i by lia] at this;exact this)<|λh q=>c h (by rw[M3,show k+(l.length+1)=k+1+l.length by lia];exact q)
structure Zi where
 j:Addr
 c:Addr
 vs:Array Value
 x:Value
 k:Bool
structure ZA(z TI TO:Addr)(its:List Zi):Prop where
 TIz:TI≠z
 TOz:TO≠z
 TITO:TI≠TO
 jz:∀ q∈its,q.j≠z/\q.j≠TI/\q.j≠TO
 cz:∀ q∈its,q.c≠z/\q.c≠TO/\∀ r∈its,q.c≠r.j
 nd:(its.map (·.j)).Nodup
variable {z TI TO:Addr}{its:List Zi}{n:Nat}{os:List Value}
structure ZSn(s:Shared)(z TI TO:Addr)(its:List Zi)(n:Nat)(os:List Value)(i:Nat)(h:Heap):Prop where
 a:IsZip h z TI TO .ellipsis
 b:Kj h TO ((its.take i).map (·.x)++os.drop i)
 c:∀(m:Nat) (q:Zi),its[m]?=some q->ItAt h q.j q.c (if m<i then n+1 else n) q.vs q.k
 d:h.objs.size=↥s
 e:∀ a o,a≠z->a≠TO->(∀ q∈its,a≠q.j)->s.heap.get? a=some o->h.get? a=some o
def jiV{C:J0}(D:ZA z TI TO its)(y:IsZip s.heap z TI TO .none)(qI:Kj s.heap TI<|its.map λq=>.ref q.j)(X:Kj s.heap TO os)(Y:its≠[])(Z:os.length=its.length)(hl:its.length<=1000)
  (q:∀ r∈its,ItAt s.heap r.j r.c n r.vs r.k/\r.vs[n]?=some r.x)
  (go:∀ k,IsZip k z TI TO (rawInt ↥s)->Kj k TO (its.map (·.x))->(∀ r∈its,ItAt k r.j r.c (n+1) r.vs r.k)->Kj k ↥s (its.map (·.x)) ->
   (∀ a o,a≠z->a≠TO->(∀ r∈its,a≠r.j)->s.heap.get? a=some o->k.get? a=some o)->C (.ref ↥s) {s with heap:=k}):
  wpAny (model prog w) A (Builtin.«zip.__next__» ⟨[.ref z],[]⟩) (λfin s'=>∃ v,fin=.done (.ret v)/\C v s') E s:=by
 refine(show wpAny (model prog w) A (field (.ref z) 2 >>= _) _ _ _ from L3 (U8 y rfl rfl<|L3<|U8 y rfl rfl<|L3<|wpAny_seqItems qI rfl ?_));have he:(its.map λq=>Value.ref q.j).toArray.isEmpty=false:=by cases its<;>simp at Y ⊢
 simp only[he];refine(L3<|L3<|U8 y rfl rfl<|M8<|L3<|wpAny_rule<|L3<|U8 y rfl rfl<|L3<|wpAny_setField_rec y (by simp) λk1 z1 H=>(L3<|jqR (ZSn s z TI TO its n os) (its.map λq=>Value.ref q.j) 0 (s:={s with heap:=k1}) ⟨z1,?_,λm r e=>?_,H.1,λa o g _ _ e=>H.extBut _ _ g e⟩ (λi x h e S=>?_) λh S=>?_))
 ·rw[List.take_zero,List.drop_zero];exact H.extBut _ _ D.TOz X
 ·have f:=List.mem_of_getElem? e;exact(q r f).1.ext H (D.jz r f).1 (D.cz r f).1
 ·rw[Nat.zero_add] at S ⊢;rw[List.getElem?_map] at e;obtain⟨r,u,rfl⟩:=Option.map_eq_some_iff.mp e;have f:=List.mem_of_getElem? u;have hi:=(L9.mp u).1;have hit:=S.c i r u;rw[if_neg<|Nat.lt_irrefl _] at hit;refine L3<|wpAny_onRaise (L3<|ji8 hit ((D.cz r f).2.2 r f) (q r f).2 λk2 p B=>M8 ?_)
  have P:=B.extBut _ _ (D.jz r f).2.2.symm S.b;refine L3<|wpAny_seqItems P rfl<|L3<|jnL P (by simp;lia) λk3 o3 F=>?_;refine L3<|wpAny_letGo<|M8 ⟨rfl,k3,rfl,?_⟩;have K:∀ m t,its[m]?=some t->m≠i->t.j≠r.j:=λm t l L ej=>by
   have:=(List.getElem_inj (h₀:=by simpa using((L9.mp l).1)) (h₁:=by simpa using hi) D.nd).mp (by simp[(L9.mp l).2,(L9.mp u).2,ej]);exact L this
  refine⟨F.extBut _ _ D.TOz.symm<|B.extBut _ _ (D.jz r f).1.symm S.a,?_,λm t l=>?_,by rw[F.1,B.1];exact S.d,λa o g I J e=>F.extBut _ _ I<|B.extBut _ _ (J r f)<|S.e a o g I J e⟩
  ·have ee:(List.map (·.x) (its.take i)++os.drop i).set i r.x=List.map (·.x) (its.take<|i+1)++os.drop (i+1):=by
    rw[List.take_add_one,u,Option.toList,N7,List.append_assoc,List.set_append_right _ _<|by simp;lia];have M:i<os.length:=by lia
    rw[List.drop_eq_getElem_cons M];have:i-(List.map (·.x)<|its.take i).length=0:=by simp;lia
    rw[this];rfl
   rw[<- ee];exact o3
  ·have N:=List.mem_of_getElem? l;by_cases e2:m=i
   ·subst e2;cases u.symm.trans l;rw[if_pos<|Nat.lt_succ_self _];exact p.ext F (D.jz r f).2.2 (D.cz r f).2.1
   ·have x1:=((S.c m t l).ext B (K m t l e2) ((D.cz t N).2.2 r f)).ext F (D.jz t N).2.2 (D.cz t N).2.1;have:(m<i+1)=(m<i):=by apply propext;lia
    simp only[this];exact x1
 ·rw[Nat.zero_add,L1] at S;have O:=S.b;rw[List.take_length,<- Z,List.drop_length,N2] at O;refine L3<|wpAny_seqItems O rfl<|L3<|wpAny_newTuple ?_;have Q:=N3 S.a;refine(L3 ?_);have z8:IsZip (h.push {cls:=.type "tuple",data:=.seq (its.map (·.x)).toArray}) z TI TO .ellipsis:=L8 _ S.a;refine L3<|wpAny_setField_rec z8 (by simp) λk9 z9 R=>(wpAny_setField_rec z9 (by simp) λT U V=>?_);have up:∀ c o,c≠z->h.get? c=some o->T.get? c=some o:=λc o g e=>V.extBut _ _ g<|R.extBut _ _ g<|L8 _ e;have W:=V.extBut _ _ (Nat.ne_of_gt Q)<|R.extBut _ _ (Nat.ne_of_gt Q)<|E3 _ rfl;rw[S.d] at U W;refine M8 ⟨_,rfl,?_⟩;rw[S.d];refine go T U (up _ _ D.TOz O) (λr f=>?_) W λa o g I J e=>up a o g<|S.e a o g I J e;obtain⟨m,G,rfl⟩:=List.getElem_of_mem f;have x:=S.c m _<|E1 G;rw[if_pos G] at x;refine x.up (λo e=>up _ _ (D.jz _ f).1 e)<|λo e=>up _ _ (D.cz _ f).1 e
def jmW{j c}{vs}{K}{C}(a:A.handled=none)(q:ItAt s.heap j c n vs K)(e:vs[n]?=none)
  (go:∀ k e,Heap.ExtBut j s.heap k->(∃ o,k.get? e=some o/\o.cls=.type "StopIteration")->E (.ref e) {s with heap:=k}):wpAny (model prog w) A (Builtin.SmallTypes.nextOf<|.ref j) C E s:=by
 cases K with
 | true=>exact wpAny_nextOf_list_end a q.1 q.2 e go
 | false=>exact jii a q.1 q.2 e go
def jm8{C}{r}(u:A.handled=none)(D:ZA z TI TO<|r::its)(b:IsZip s.heap z TI TO .none)(qI:Kj s.heap TI<|(r::its).map λq=>.ref q.j)(q:ItAt s.heap r.j r.c n r.vs r.k)(ex:r.vs[n]?=none)
  (go:∀ k e,(∀ a o,a≠z->a≠TO->(∀ t∈r::its,a≠t.j)->s.heap.get? a=some o->k.get? a=some o)->(∃ o,k.get? e=some o/\o.cls=.type "StopIteration")->E (.ref e) {s with heap:=k}):
  wpAny (model prog w) A (Builtin.«zip.__next__» ⟨[.ref z],[]⟩) C E s:=by
 have d:r∈r::its:=L7;refine(show wpAny (model prog w) A (field (.ref z) 2 >>= _) _ _ _ from L3 (U8 b rfl rfl<|L3<|U8 b rfl rfl<|L3<|wpAny_seqItems qI rfl<|L3<|L3<|U8 b rfl rfl<|M8<|L3<|wpAny_rule<|L3<|U8 b rfl rfl<|L3<|wpAny_setField_rec b (by simp) λH v g=>(L3<|L3<|L3<|wpAny_onRaise (L3<|jmW u (q.ext g (D.jz r d).1 (D.cz r d).1) ex λI e h y=>?_))));obtain⟨B,f,i⟩:=y;have l:=h _ _ (D.jz r d).1.symm v;have ne:e≠z:=λx=>by subst x;rw[l] at f;cases f;simp at i
 exact wpAny_setField_rec l (by simp) λF _ m=>go F e (λc o p _ G x=>m.extBut _ _ p<|h _ _ (G r d)<|g.extBut _ _ p x) ⟨B,m.extBut _ _ ne f,i⟩
def jj4{C}(D:ZA z TI TO its)(b:IsZip s.heap z TI TO .none)(qI:Kj s.heap TI<|its.map λq=>.ref q.j)(d:Kj s.heap TO os)(e:its≠[])(f:os.length=its.length)(g:its.length<=1000)
  (q:∀ r∈its,ItAt s.heap r.j r.c n r.vs r.k/\r.vs[n]?=some r.x)
  (go:∀ k,IsZip k z TI TO (rawInt ↥s)->Kj k TO (its.map (·.x))->(∀ r∈its,ItAt k r.j r.c (n+1) r.vs r.k)->Kj k ↥s (its.map (·.x)) ->
   (∀ a o,a≠z->a≠TO->(∀ r∈its,a≠r.j)->s.heap.get? a=some o->k.get? a=some o)->C (some<|.ref ↥s) {s with heap:=k}):wpAny (model prog w) A (pyNext<|.ref z) C E s:=by
 have ty:s.TypeIs (.ref z) "zip":=⟨_,b,rfl⟩;exact L3<|wpAny_attempt<|wpAny_callSpecial?_slot ty F.slot_zip_next<|wpAny_call_entry F.slot_zip_next ty F.entry_zip_next
  (jiV D b qI d e f g q λk c1 h i l m=>M8<|go k c1 h i l m) (F.args_zip_next_1 _)
def jid{C}{r}(d:A.handled=none)(D:ZA z TI TO<|r::its)(b:IsZip s.heap z TI TO .none)(qI:Kj s.heap TI<|(r::its).map λq=>.ref q.j)(q:ItAt s.heap r.j r.c n r.vs r.k)(ex:r.vs[n]?=none)
  (go:∀ k,(∀ a o,a≠z->a≠TO->(∀ t∈r::its,a≠t.j)->s.heap.get? a=some o->k.get? a=some o)->C none {s with heap:=k}):wpAny (model prog w) A (pyNext<|.ref z) C E s:=by
 have ty:s.TypeIs (.ref z) "zip":=⟨_,b,rfl⟩;refine L3<|wpAny_attempt<|wpAny_callSpecial?_slot ty F.slot_zip_next<|wpAny_call_entry F.slot_zip_next ty F.entry_zip_next (jm8 d D b qI q ex λk e kp f=>?_)<|F.args_zip_next_1 _;obtain⟨o,g,h⟩:=f;exact L3<|wpAny_isInstance ⟨o,g,h⟩ isSubtype_stop<|M8<|go _ kp
end
section
variable {prog:Program}{w:World}{A:Around}{E:J0}{s:Shared}
def SqH(h:Heap)(c:Addr)(vs:Array Value):Bool->Prop
 | true=>h.IsList c vs
 | false=>h.IsTuple c vs
def SqH.push{h}{c}{vs}{K}(q:SqH h c vs K)(o):SqH (h.push o) c vs K:=by
 cases K <;>
 ·obtain⟨a,e,t⟩:=q;exact⟨a,L8 _ e,t⟩
def jjE{c}{vs}{K}{Q}(q:SqH s.heap c vs K)
  (go:∀ o:Obj,ItAt (s.heap.push o) ↥s c 0 vs K->Q (.ref ↥s) {s with heap:=s.heap.push o}):wpAny (model prog w) A (pyIter<|.ref c) Q E s:=by
 cases K with
 | true=>exact wpAny_pyIter_list q<|go _ ⟨⟨_,E3 _ rfl,rfl,rfl⟩,SqH.push q _⟩
 | false=>exact wpAny_pyIter_tuple q<|go _ ⟨⟨_,E3 _ rfl,rfl,rfl⟩,SqH.push q _⟩
def jgQ:∀(l:List<|Addr×Array Value×Bool) acc {s:Shared},(∀ p∈l,SqH s.heap p.1 p.2.1 p.2.2) ->
  (∀ k:Heap,k.objs.size=↥s+l.length->(∀ i p,l[i]?=some p->ItAt k (↥s+i) p.1 0 p.2.1 p.2.2)->(∀ c o,s.heap.get? c=some o->k.get? c=some o) ->
   Q (acc++((List.range' ↥s l.length).map Value.ref).toArray) {s with heap:=k}) ->
  wpAny (model prog w) A (forIn (l.map λp=>Value.ref p.1) acc λx r=>do pure (ForInStep.yield<|r.push<|<- holding r.toList (pyIter x))) Q E s:=by
 intro l
 induction l with
 | nil=>
  intro acc s _ go;exact M8 ⇑(go s.heap rfl (by simp) λ_ _ e=>e)
 | cons p l d=>
  intro acc s h go;rw[L5,List.forIn_cons];refine L3<|L3<|wpAny_holding<|jjE (h p L7) λo q=>(M8<|d _ (λr f=>(h r<|L6 _ f).push _) λk b hi a=>?_);have s1:(s.heap.push o).objs.size=↥s+1:=Heap.size_push ..;simp only[s1] at b hi ⊢;have g:=go k (by rw[b,M3];lia) (λi r e=>?_) λc j e=>a c j<|L8 _ e
  ·rw[M3,List.range'_succ,L5] at g;have e2:acc.push (.ref ↥s)++((List.range' (↥s+1) l.length).map Value.ref).toArray=acc++(Value.ref ↥s::(List.range' (↥s+1) l.length).map Value.ref).toArray:=by apply Array.ext';simp
   rw[e2];exact g
  ·cases i with
   | zero=>cases e;exact q.up (a _)<|a _
   | succ i=>rw[show ↥s+(i+1)=↥s+1+i by lia];exact hi i r ⇑e
def ja6{Q}{l:List (Addr×Array Value×Bool)}(h:∀ p∈l,SqH s.heap p.1 p.2.1 p.2.2)
  (go:∀ k:Heap,k.objs.size=↥s+l.length->(∀ i p,l[i]?=some p->ItAt k (↥s+i) p.1 0 p.2.1 p.2.2)->(∀ c o,s.heap.get? c=some o->k.get? c=some o) ->
   Q ((List.range' ↥s l.length).map Value.ref) {s with heap:=k}):wpAny (model prog w) A (Builtin.SmallTypes.iterAll<|l.map λp=>Value.ref p.1) Q E s:=by
 refine L3<|jgQ l #[] h λk a b d=>M8 ?_;have:=go k a b d;simpa using this
def jiz(l:List<|Addr×Array Value×Bool)(a:l.length<=1000):Meets (Builtin.«zip.__new__» ⟨.type "zip"::l.map λp=>.ref p.1,[]⟩) (λ_ R s=>(∀ p∈l,SqH s.heap p.1 p.2.1 p.2.2)/\∀ k:Heap,k.objs.size=↥s+l.length->(∀ i p,l[i]?=some p->ItAt k (↥s+i) p.1 0 p.2.1 p.2.2)->(∀ c o,s.heap.get? c=some o->k.get? c=some o) ->
   R (.ok<|.ret<|.ref<|k.objs.size+2) { s with heap:=((k.push {cls:=.type "tuple",data:=.seq ((List.range' ↥s l.length).map Value.ref).toArray}).push {cls:=.type "tuple",data:=.seq (l.map λ_=>Value.none).toArray}).push {cls:=.type "zip",data:=.fields #[.none,.bool false,.bool false,.ref k.objs.size,.ref<|k.objs.size+1]} }):=
 .of_wp λprog w A R s h=>by
  obtain⟨d,h⟩:=h;have b:=sub_zip
  wp_walk using ja6 d
  intro k e e2 e3;have f:(List.map (λ_=>Value.none)<|List.map Value.ref<|List.range' ↥s l.length)=l.map λ_=>Value.none:=by
   rw[U3];apply List.ext_getElem<;>simp
  rw[f];refine L3<|wpAny_newTuple ?_ (by simp;exact N9 a<|by decide);refine L3 (wpAny_newTuple ?_<|by simp;exact N9 a<|by decide)
  wp_walk
  refine⟨_,rfl,?_⟩;rw[Heap.size_push,Heap.size_push];exact(h k e e2 e3)
def jkd{l:List (Addr×Array Value×Bool)}{C}(j:l.length<=1000)(a:checkTypeCall "zip" ⟨l.map λp=>.ref p.1,[]⟩=pure ())(b:checkBuiltinCall "zip.__new__" ⟨.type "zip"::l.map λp=>.ref p.1,[]⟩=pure ())(hok:∀ obj,argsOk "object.__init__" ⟨obj::l.map λp=>.ref p.1,[]⟩)
  (h1:∀ p∈l,SqH s.heap p.1 p.2.1 p.2.2)
  (go:∀ k N,N=↥s+l.length->IsZip k (N+2) N (N+1) .none->Kj k N ((List.range' ↥s l.length).map Value.ref)->Kj k (N+1) (l.map λ_=>.none)->(∀ i p,l[i]?=some p->ItAt k (↥s+i) p.1 0 p.2.1 p.2.2)->(∀ c o,s.heap.get? c=some o->k.get? c=some o)->C (.ref<|N+2) {s with heap:=k}):
  wpAny (model prog w) A (call (.type "zip")<|l.map λp=>.ref p.1) C E s:=by
 refine callType_new F.called_zip (by decide) a b hok F.entry_zip_new (jiz l j) ⟨h1,λk m e2 e3=>?_⟩;have d:∀(h:Heap) o,(h.push o).objs.size=h.objs.size+1:=λh o=>Heap.size_push ..;have f:=E3 (((k.push {cls:=.type "tuple",data:=.seq ((List.range' ↥s l.length).map Value.ref).toArray}).push {cls:=.type "tuple",data:=.seq (l.map λ_=>Value.none).toArray})) (o:={cls:=.type "zip",data:=.fields #[.none,.bool false,.bool false,.ref k.objs.size,.ref<|k.objs.size+1]}) rfl;rw[d,d] at f;have up:∀ c o,k.get? c=some o->(((k.push {cls:=.type "tuple",data:=.seq ((List.range' ↥s l.length).map Value.ref).toArray}).push {cls:=.type "tuple",data:=.seq (l.map λ_=>Value.none).toArray}).push {cls:=.type "zip",data:=.fields #[.none,.bool false,.bool false,.ref k.objs.size,.ref<|k.objs.size+1]}).get? c=some o:=λc o x=>L8 _<|L8 _<|L8 _ x;have g:=E3 (k.push {cls:=.type "tuple",data:=.seq ((List.range' ↥s l.length).map Value.ref).toArray}) (o:={cls:=.type "tuple",data:=.seq (l.map λ_=>Value.none).toArray}) rfl;rw[d] at g;exact⟨⟨_,f,rfl⟩,go _ k.objs.size m f (L8 _<|L8 _<|E3 k rfl) (L8 _ g) (λi p e=>(e2 i p e).up (up _) (up _)) λc o x=>up c o<|e3 c o x⟩
end
def SqB(K:W4)(H:Hp)(c:Addr):Bool->List V->Prop
 | true,q=>SqL K H c q
 | false,q=>SqT K H c q
def ItB(h:Heap)(j c:Addr)(n:Nat):Bool->Prop
 | true=>h.IsListIter j c n
 | false=>h.IsTupleIter j c n
structure Zp where
 j:Addr
 c:Addr
 k:Bool
def IzN(K:W4)(as:List<|Addr×Bool):It:=
 ⟨λi H=>∀ a∈as,∃ q x,SqB K H a.1 a.2 q/\q[i]?=some x,
  λi H x H'=>∃ p xs,xs.length=as.length/\(∀(m:Nat) a,as[m]?=some a->∀ q,SqB K H a.1 a.2 q->∃ u,xs[m]?=some u/\q[i]?=some u)/\x=.ref p/\H p=none/\H'=upd H p (.tup xs),
  λi H=>∃ a r q,as=a::r/\SqB K H a.1 a.2 q/\q.length<=i⟩
def jhc(I:Inv X pins σ H s)(h:SqB X.K H c k q)(hi:ItB s.heap j c n k):∃ us:List Value,Vals q us/\ItAt s.heap j c n us.toArray k:=by
 cases k with
 | true=>
  obtain⟨us,a,p,_⟩:=I.list h;exact⟨us,a,hi,p.isList⟩
 | false=>
  obtain⟨us,a,p,_⟩:=I.tuple h;exact⟨us,a,hi,p⟩
def jjT(I:Inv X pins σ H s)(h:SqB X.K H c k q)(h':SqB X.K H c k q'):q=q':=by
 cases k with
 | true=>exact I.list_inj h h'
 | false=>exact I.tuple_inj h h'
def zis(I:Inv X pins σ H s):∀ ps:List Zp,(∀ p∈ps,∃ q x,SqB X.K H p.c p.k q/\q[i]?=some x)->(∀ p∈ps,ItB s.heap p.j p.c i p.k) ->
  Ex2 λ(its:List Zi) (xs:List V)=>An4 (its.map (λr=>(⟨r.j,r.c,r.k⟩:Zp))=ps) (Vals xs (its.map (·.x))) (∀ r∈its,ItAt s.heap r.j r.c i r.vs r.k/\r.vs[i]?=some r.x) (∀(m:Nat) p,ps[m]?=some p->∀ q,SqB X.K H p.c p.k q->∃ u,xs[m]?=some u/\q[i]?=some u):=by
 intro ps
 induction ps with
 | nil=>
  intro _ _;exact⟨[],[],rfl,.nil,by simp,by simp⟩
 | cons p ps o=>
  intro g h;obtain⟨its,xs,e,v,a,b⟩:=o (λr d=>g r<|by simp[d]) λr d=>h r (by simp[d]);obtain⟨q,x,l,n⟩:=g p (by simp);obtain⟨w,y,z⟩:=jhc I l<|h p (by simp);obtain⟨u,A,B⟩:=y.get n;refine⟨⟨p.j,p.c,w.toArray,u,p.k⟩::its,x::xs,by rw[L5,e],.cons B v,λr d=>?_,λm t e2 C f=>?_⟩
  ·rcases M5.mp d with rfl | d
   ·exact⟨z,by simpa using A⟩
   ·exact a r d
  ·cases m with
   | zero=>cases e2;exact⟨x,rfl,by rw[jjT I f l];exact n⟩
   | succ m=>exact b m t ⇑e2 C f
structure ZP(z TI TO:Addr)(ps:List Zp):Prop where
 TIz:TI≠z
 TOz:TO≠z
 TITO:TI≠TO
 jz:∀ q∈ps,q.j≠z/\q.j≠TI/\q.j≠TO
 cz:∀ q∈ps,q.c≠z/\q.c≠TO/\∀ r∈ps,q.c≠r.j
 nd:(ps.map (·.j)).Nodup
def ZP.za{z TI TO}{ps}{its}(D:ZP z TI TO ps)(e:its.map (λr=>(⟨r.j,r.c,r.k⟩:Zp))=ps):ZA z TI TO its:=by
 subst e;refine⟨D.TIz,D.TOz,D.TITO,λq a=>D.jz _<|List.mem_map_of_mem a,λq a=>?_,by have:=D.nd;rwa [U3] at this⟩;have:=D.cz _<|List.mem_map_of_mem a;exact⟨this.1,this.2.1,λr b=>this.2.2 _<|List.mem_map_of_mem b⟩
def ItB.obj(q:ItB h j c n k):∃ o,h.get? j=some o/\∀ v,o.data≠.cell v:=by
 cases k <;>
 ·obtain⟨o,e,_,d⟩:=q;exact⟨o,e,λv z=>by rw[d] at z;cases z⟩
def ItB.up(q:ItB h j c n b)(a:∀ o,h.get? j=some o->k.get? j=some o):ItB k j c n b:=by
 cases b <;>
 ·obtain⟨o,e,t⟩:=q;exact⟨o,a _ e,t⟩
def ItAt.itB(q:ItAt h j c n vs k):ItB h j c n k:=by
 cases k<;>exact q.1
def jjJ{P}{w}{K}{elts}{n}{pos}(z TI TO)(ps)(D:ZP z TI TO ps)(hn:ps≠[])(hl:ps.length<=1000):
  Turn P w K (.Tuple elts n pos) (IzN K<|ps.map λp=>(p.c,p.k)) (z::TI::TO::ps.map (·.j)) z (λi h=>IsZip h z TI TO .none/\Kj h TI (ps.map λp=>.ref p.j)/\(∃ os,os.length=ps.length/\Kj h TO os)/\∀ p∈ps,ItB h p.j p.c i p.k) where
 mem:=by simp
 obj:=λi h l b f=>by
  obtain⟨u,y,⟨os,_,F⟩,C⟩:=l;rcases(⇑f:b=z\/b=TI\/b=TO \/ ∃ p∈ps,p.j=b) with q | q | q | ⟨p,d,q⟩<;>subst q
  ·exact⟨_,u,λv q=>by cases q⟩
  ·exact⟨_,y,λv q=>by cases q⟩
  ·exact⟨_,F,λv q=>by cases q⟩
  ·exact(C p d).obj
 keep:=λi h h' l k=>by
  obtain⟨u,y,⟨os,N,F⟩,C⟩:=l;exact⟨k z (by simp) _ u,k TI (by simp) _ y,⟨os,N,k TO (by simp) _ F⟩,λp d=>(C p d).up (k p.j<|by simp;exact .inr<|.inr<|.inr ⟨p,d,rfl⟩)⟩
 item:=by
  intro X R S T hc i G s σ H E I O l U;subst R S T;obtain⟨u,y,⟨os,N,F⟩,C⟩:=l;obtain⟨A,xs,e,J,hi,hx⟩:=zis I ps (λp d=>U (p.c,p.k)<|M7.mpr ⟨p,d,rfl⟩) C;have el:A.length=ps.length:=by rw[<- e,L1]
  have ej:(A.map λq=>Value.ref q.j)=ps.map λp=>Value.ref p.j:=by rw[<- e,U3];rfl
  have mp:∀ p∈ps,∃ r∈A,r.j=p.j/\r.c=p.c/\r.k=p.k:=λp d=>by
   rw[<- e] at d;obtain⟨r,L,rfl⟩:=M7.mp d;exact⟨r,L,rfl,rfl,rfl⟩
  refine jj4 (D.za e) u (by rw[ej];exact y) F (λz=>hn<|by rw[<- e,z];rfl) (by rw[N,el]) ∅ hi λhh a1 a2 a3 a4 Q=>?_;refine⟨_,rfl,wpAny_letOwnedTupleGo_zip a1 λh7 V g=>?_⟩;have lt:∀{c o},s.heap.get? c=some o->c < ↥s:=N3;have M:=(g.2 _<|Nat.ne_of_gt<|lt u).trans a4;have nj:∀{b},(∀ p∈ps,b≠p.j)->∀ r∈A,b≠r.j:=λh r L=>by
   have:=h ⟨r.j,r.c,r.k⟩ (by rw[<- e];exact List.mem_map_of_mem L);exact this
  have kk:∀ b o,b∉z::TI::TO::ps.map (·.j)->s.heap.get? b=some o->h7.get? b=some o:=λb o f q=>by
   have B:b≠z/\b≠TI/\b≠TO/\∀ p∈ps,b≠p.j:=by
    simp at f;exact⟨f.1,f.2.1,f.2.2.1,λp d x=>f.2.2.2 p d x.symm⟩
   exact(g.2 b B.1).trans (Q b o B.1 B.2.2.1 (nj B.2.2.2) q)
  have I1:=I.turnedNew (t':=s.toks) kk O (N1 _) ⟨⟨_,M,rfl,_,rfl⟩,_,M,rfl⟩ ⇑J (by have:=J.length;simp at this;exact N9 (by lia:xs.length<=1000)<|by decide);refine⟨.ref ↥s,_,I1,rfl,⟨_,xs,by have:=J.length;simp at this;simp;lia,λm a em q W=>?_,rfl,I.hok.fresh<|N1 _,rfl⟩,⟨V,(g.2 TI D.TIz).trans (Q _ _ D.TIz D.TITO (nj λp d x=>(D.jz p d).2.1 x.symm) y),⟨_,by rw[L1,el],(g.2 TO D.TOz).trans a2⟩,λp d=>?_⟩,λb f=>?_⟩
  ·rw[List.getElem?_map] at em;obtain⟨p,ep,rfl⟩:=Option.map_eq_some_iff.mp em;exact hx m p ep q W
  ·obtain⟨r,L,rj,rc,rk⟩:=mp p d;rw[<- rj,<- rc,<- rk];refine(a3 r L).itB.up λo q=>(g.2 _ ?_).trans q;rw[rj];exact(D.jz p d).1
  ·rw[je]
   ·exact(O b f).1
   ·intro q;have:b < ↥s:=by
     rcases(⇑f:b=z\/b=TI\/b=TO \/ ∃ p∈ps,p.j=b) with w | w | w | ⟨p,d,w⟩
     ·rw[w];exact lt u
     ·rw[w];exact lt y
     ·rw[w];exact lt F
     ·obtain⟨o,e,_⟩:=(C p d).obj;rw[<- w];exact lt e
    exact absurd this (by rw[q];exact Nat.lt_irrefl _)
 done:=by
  intro X R S T hc i G s σ H E I O l U;subst R S T;obtain⟨u,y,⟨os,N,F⟩,C⟩:=l;obtain⟨a,r,q,ea,W,hx⟩:=U;cases ps with
  | nil=>cases ea
  | cons p ps=>
   cases ea;obtain⟨us,J,it⟩:=jhc I W<|C p (by simp);have hl1:=J.length;have ee:((⟨p.j,p.c,us.toArray,.none,p.k⟩:Zi)::ps.map λp=>⟨p.j,p.c,#[],.none,p.k⟩).map (λr=>(⟨r.j,r.c,r.k⟩:Zp))=p::ps:=by
    rw[L5,U3];exact congrArg (p::·)<|List.map_id _
   refine jid (I.ok.hd hc) (D.za ee) u (by rw[show Kj s.heap TI _=Kj s.heap TI ((p::ps).map λp=>.ref p.j) by rw[L5,U3];rfl];exact y) it (by simp;lia) λhh Q=>⟨rfl,I.turnedL (λb o f q=>?_) O⟩;simp only[M5,M7,not_or,L5] at f;refine Q b o f.1 f.2.2.1 (λt Y x=>?_) q;rcases M5.mp Y with rfl | Y
   ·exact f.2.2.2.1 x
   ·obtain⟨p',Z,rfl⟩:=M7.mp Y;exact f.2.2.2.2 ⟨p',Z,x.symm⟩
 self:=λ_ _ _ _ _ l h=>wpAny_pyIter_zip l.1 h
end L2
namespace PySem
namespace F
def typeCall_zip_N3(a b c):checkTypeCall "zip" ⟨[a,b,c],[]⟩=pure ():=by kernel_rfl
def newCall_zip_N3(a b c):checkBuiltinCall "zip.__new__" ⟨[.type "zip",a,b,c],[]⟩=pure ():=by kernel_rfl
def args_object_init_N4(a b c d):argsOk "object.__init__" ⟨[a,b,c,d],[]⟩:=by
 unfold argsOk;kernel_rfl
end F
end PySem
namespace L2
open PySem PySem.Spec PyProof.Rows
def iZN(K:W4)(m:Nat)(tl:TA):TI:=λσ H R=>tl σ H λvs H1=>∃ as:List (Addr×Bool),as.length=m/\vs=as.map (λa=>.ref a.1)/\(∀ a∈as,∃ q,SqB K H1 a.1 a.2 q)/\R (IzN K as) H1
theorem zqs(I:Inv X pins σ H s):∀ as:List (Addr×Bool),(∀ a∈as,∃ q,SqB X.K H a.1 a.2 q)->∃ l:List (Addr×Array Value×Bool),l.map (λp=>(p.1,p.2.2))=as/\∀ p∈l,SqH s.heap p.1 p.2.1 p.2.2/\p.1 < ↥s
 | [],_=>⟨[],rfl,by simp⟩
 | (a,k)::as,h=>by
  obtain⟨l,e,d⟩:=zqs I as λb f=>h b (by simp[f]);obtain⟨q,c⟩:=h (a,k) (by simp);have:∃ vs:Array Value,SqH s.heap a vs k/\a < ↥s:=by
   cases k with
   | true=>
    obtain⟨g,i,p,_⟩:=I.list c;obtain⟨o,_,e,_⟩:=id p;exact⟨_,p.isList,N3 e⟩
   | false=>
    obtain⟨g,i,p,_⟩:=I.tuple c;obtain⟨o,e,_⟩:=id p;exact⟨_,p,N3 e⟩
  obtain⟨vs,j,m⟩:=this;exact⟨(a,vs,k)::l,by rw[L5,e],λp n=>(M5.mp n).elim (λz=>by rw[z];exact⟨j,m⟩) (d p)⟩
def zps(S:Nat)(l:List<|Addr×Array Value×Bool):List Zp:=(l.zipIdx S).map λq=>⟨q.2,q.1.1,q.1.2.2⟩
def jps(S):∀ l:List (Addr×Array Value×Bool),(zps S l).map (·.j)=List.range' S l.length:=by
 intro l
 induction l generalizing S with
 | nil=>rfl
 | cons p l a=>have:=a<|S+1;unfold zps at this ⊢;rw[List.zipIdx_cons,L5,L5,this,M3,List.range'_succ]
def jpM(S):∀ l:List (Addr×Array Value×Bool),(zps S l).map (λp=>(p.c,p.k))=l.map λp=>(p.1,p.2.2):=by
 intro l
 induction l generalizing S with
 | nil=>rfl
 | cons p l a=>have:=a<|S+1;unfold zps at this ⊢;rw[List.zipIdx_cons,L5,L5,this,L5]
def Q3{S}:∀{l}{q},q∈zps S l->∃ i p,l[i]?=some p/\q=⟨S+i,p.1,p.2.2⟩:=by
 intro l q h;obtain⟨⟨p,m⟩,a,rfl⟩:=M7.mp h;have:=List.mem_zipIdx a;refine⟨m-S,p,?_,?_⟩
 ·rw[E1 ∅];exact congrArg some this.2.2.symm
 ·have:S+(m-S)=m:=by lia
  rw[this]
def zn1(N):N≠N+2/\N+1≠N+2/\N≠N+1:=by lia
def zn2{S L i N}(h:i<L)(e:N=S+L):S+i≠N+2/\S+i≠N/\S+i≠N+1:=by lia
def zn3{c S L N}(h:c<S)(e:N=S+L):c≠N+2/\c≠N+1/\∀ i,c≠S+i:=⟨by lia,by lia,λi=>by lia⟩
def zn4{S L N b}(e:N=S+L)(h:b=N+2\/b=N\/b=N+1):S<=b:=by lia
def jn6(I:Inv X pins σ H s)  (y:as≠[]) (S:as.length<=1000) (d:∀ a∈as,∃ q,SqB X.K H a.1 a.2 q) (q:R (IzN X.K as) H)
  (f:checkTypeCall "zip" ⟨as.map λp=>.ref p.1,[]⟩=pure ()) (g:checkBuiltinCall "zip.__new__" ⟨.type "zip"::as.map λp=>.ref p.1,[]⟩=pure ()) (hok:∀ obj,argsOk "object.__init__" ⟨obj::as.map λp=>.ref p.1,[]⟩):
  wpAny (model X.prog X.w) X.A (call (.type "zip")<|as.map λp=>.ref p.1) (λv s1=>wpAny (model X.prog X.w) X.A (pyIter v) (PIE X pins σ (.Tuple elts n tpos) R) X.xe s1) X.xe s:=by
 obtain⟨l,e,t⟩:=zqs I as d;have U:l.length=as.length:=by rw[<- e,L1]
 have B:(as.map λp=>Value.ref p.1)=l.map λp=>Value.ref p.1:=by rw[<- e,U3];rfl
 rw[B] at f g hok ⊢;refine jkd ∅ f g hok (λp C=>(t p C).1) λE N h u F G J L=>?_;have M:Inv X pins σ H {s with heap:=E}:=I.kept L;refine PySem.wpAny_pyIter_zip u ?_;have k:=jps ↥s l;have x:=jpM ↥s l;have D:ZP (N+2) N (N+1) (zps ↥s l):=by
  refine⟨(zn1 N).1,(zn1 N).2.1,(zn1 N).2.2,λq d=>?_,λq d=>?_,by rw[k];exact List.nodup_range'⟩
  ·obtain⟨i,p,m,rfl⟩:=Q3 d;exact zn2 (L9.mp m).1 h
  ·obtain⟨i,p,m,rfl⟩:=Q3 d;have:=zn3 (t p<|List.mem_of_getElem? m).2 h;refine⟨this.1,this.2.1,λr O=>?_⟩;obtain⟨Q,V,_,rfl⟩:=Q3 O;exact this.2.2 Q
 have T:=jjJ (P:=X.prog) (w:=X.w) (K:=X.K) (elts:=elts) (n:=n) (pos:=tpos) (N+2) N (N+1) (zps ↥s l) D (λz=>y<|by rw[<- e,<- x,z];rfl) (by have:=congrArg List.length k;rw[L1,List.length_range'] at this;lia);rw[x,e] at T;refine⟨N+2,_,_,_,H,rfl,M,T,⟨u,?_,⟨_,?_,G⟩,λq d=>?_⟩,λb c=>?_,q⟩
 ·rw[show(zps ↥s l).map (λp=>Value.ref p.j)=((zps ↥s l).map (·.j)).map Value.ref by rw[U3];rfl,k];exact F
 ·have:=congrArg List.length k;rw[L1,List.length_range'] at this;rw[L1];lia
 ·obtain⟨i,p,m,rfl⟩:=Q3 d;exact(J i p m).itB
 ·have o:↥s<=b:=by
   rw[k] at c;rcases M5.mp c with z | c
   ·exact zn4 h<|.inl z
   rcases M5.mp c with z | c
   ·exact zn4 h<|.inr<|.inl z
   rcases M5.mp c with z | c
   ·exact zn4 h<|.inr<|.inr z
   exact(List.mem_range'_1.mp c).1
  exact I.fpOk o<|I.hok.fresh o
theorem VB:∀{as:List (Addr×Bool)}{us},Vals (as.map λa=>V.ref a.1) us->us=as.map λa=>Value.ref a.1
 | [],_,h=>by cases h;rfl
 | a::as,_,h=>by
  cases h with
  | cons b c=>cases b;rw[VB c];rfl
def jns(e:Gl X "zip")(f:X.mg "zip" = none)(g:PA X [a,b] ta)(i:starEach [a,b] X.env=[(false,eval a X.env),(false,eval b X.env)]:=by rfl)(c:starEach [b] X.env=[(false,eval b X.env)]:=by rfl):
  PI X (.Tuple elts n tpos) (.Call (.Name "zip" p) [a,b] [] pos) (iZN X.K 2 ta):=by
 intro d s σ H R I h;refine Call_<|Yc I e f (show bootBuiltins "zip" = some (.type "zip") by decide +kernel)<|PyProof.Rows.callWith_type1 (thn (g pos d s σ H _ I h) λr s1 ⟨vs,t,j,r1,k⟩=>?_) (by rw[i,c]) (by rw[c];rfl);obtain⟨l,l2,rfl,m,q⟩:=k;cases VB r1
 match l,l2 with
 | [x,y],_=>exact jn6 j (by simp) (by simp) m q (F.typeCall_zip_2 _ _) (F.newCall_zip_2 _ _) λo=>F.args_object_init_3 o _ _
def jla(f:Gl X "zip")(g:X.mg "zip" = none)(i:PA X [a,b,c] ta)(j:starEach [a,b,c] X.env=[(false,eval a X.env),(false,eval b X.env),(false,eval c X.env)]:=by rfl)(d:starEach [b,c] X.env=[(false,eval b X.env),(false,eval c X.env)]:=by rfl):
  PI X (.Tuple elts n tpos) (.Call (.Name "zip" p) [a,b,c] [] pos) (iZN X.K 3 ta):=by
 intro e s σ H R I h;refine Call_<|Yc I f g (show bootBuiltins "zip" = some (.type "zip") by decide +kernel)<|PyProof.Rows.callWith_type1 (thn (i pos e s σ H _ I h) λt s1 ⟨vs,u,k,r1,l⟩=>?_) (by rw[j,d]) (by rw[d];rfl);obtain⟨m,l2,rfl,r,q⟩:=l;cases VB r1
 match m,l2 with
 | [x,y,z],_=>exact jn6 k (by simp) (by simp) r q (F.typeCall_zip_N3 _ _ _) (F.newCall_zip_N3 _ _ _) λo=>F.args_object_init_N4 o _ _ _
end L2
namespace QD
open PySem L2
inductive KA where
 | int (i:Int) | str (s:List Nat)
 deriving DecidableEq
inductive D where
 | non | bl (b:Bool) | int (i:Int) | str (s:List Nat)
 | tup (l:List D) | lst (o:Bool) (l:List D)
 | dK (o:Bool) (ks:List KA) (l:List D)
 | dT (o:Bool) (ks:List (List KA)) (l:List D)
 | ins (o:Bool) (c:Nat) (ns:List Str) (l:List D)
 | dead
  | tok (a:Addr)
 | kt (k:List KA)
  | exc (c:Nat) (p:Int)
def xo(C a dx:Addr):Heap->Prop:=λh=>∃ o vs,h.get? a=some o/\o.cls=.ref C/\o.dict=some dx/\o.data=.fields vs
mutual
noncomputable def fz:D->D
 | .tup l=>.tup<|fzs l
 | .lst _ l=>.lst false<|fzs l
 | .dK _ ks l=>.dK false ks<|fzs l
 | .dT _ ks l=>.dT false ks<|fzs l
 | .ins _ c ns l=>.ins false c ns<|fzs l
 | .non=>.non | .bl b=>.bl b | .int i=>.int i | .str s=>.str s | .dead=>.dead | .tok a=>.tok a | .kt k=>.kt k | .exc c p=>.exc c p
noncomputable def fzs:List D->List D
 | []=>[]
 | d::l=>fz d::fzs l
end
mutual
noncomputable def frz:D->Bool
 | .tup l=>frzs l
 | .lst o l=>!o&&frzs l
 | .dK o _ l=>!o&&frzs l
 | .dT o _ l=>!o&&frzs l
 | .ins o _ _ l=>!o&&frzs l
 | .non=>true | .bl _=>true | .int _=>true | .str _=>true | .dead=>true | .tok _=>true | .kt _=>true | .exc _ _=>true
noncomputable def frzs:List D->Bool
 | []=>true
 | d::l=>frz d&&frzs l
end
mutual
theorem jhl:∀ d:D,frz d=true->fz d=d
 | .tup l,h=>by rw[frz] at h;rw[fz,jH l h]
 | .lst o l,h=>by rw[frz,M0] at h;rw[fz,jH l h.2];cases o<;>simp_all
 | .dK o ks l,h=>by rw[frz,M0] at h;rw[fz,jH l h.2];cases o<;>simp_all
 | .dT o ks l,h=>by rw[frz,M0] at h;rw[fz,jH l h.2];cases o<;>simp_all
 | .ins o c ns l,h=>by rw[frz,M0] at h;rw[fz,jH l h.2];cases o<;>simp_all
 | .non,_=>rfl | .bl _,_=>rfl | .int _,_=>rfl | .str _,_=>rfl | .dead,_=>rfl | .tok _,_=>rfl | .kt _,_=>rfl | .exc _ _,_=>rfl
theorem jH:∀ l:List D,frzs l=true->fzs l=l
 | [],_=>rfl
 | d::l,h=>by rw[frzs,M0] at h;rw[fzs,jhl d h.1,jH l h.2]
end
mutual
theorem jlm:∀ d:D,frz (fz d)=true
 | .tup l=>by rw[fz,frz];exact Ja l
 | .lst o l=>by rw[fz,frz,Ja l];rfl
 | .dK o ks l=>by rw[fz,frz,Ja l];rfl
 | .dT o ks l=>by rw[fz,frz,Ja l];rfl
 | .ins o c ns l=>by rw[fz,frz,Ja l];rfl
 | .non=>rfl | .bl _=>rfl | .int _=>rfl | .str _=>rfl | .dead=>rfl | .tok _=>rfl | .kt _=>rfl | .exc _ _=>rfl
theorem Ja:∀ l:List D,frzs (fzs l)=true
 | []=>rfl
 | d::l=>by rw[fzs,frzs,jlm d,Ja l];rfl
end
theorem kC:∀ l:List D,fzs l=l.map fz
 | []=>rfl
 | d::l=>by rw[fzs,kC l];rfl
theorem Yd:∀ l:List D,frzs l=l.all frz
 | []=>rfl
 | d::l=>by rw[frzs,Yd l];rfl
structure RC where
 K:PySem.W.Frag
 cls:Nat->Addr
def kaV:KA->Key
 | .int i=>.inl i
 | .str s=>.inr<|S s
noncomputable abbrev Zn:=Addr->Prop
def FT(R:RC)(Z:Zn)(H:Hp)(a:Addr)(vs:List V):Prop:=
 (Z a/\Rd H a (.tup vs)) \/ ∃ o its n,R.K.lookup a=some o/\o.cls=.type "tuple"/\o.data=.seq its n/\its.size<=sizeLine/\Vals vs its.toList/\o.dict=none
def FL(R:RC)(Z:Zn)(H:Hp)(a:Addr)(vs:List V):Prop:=
 (Z a/\Rd H a (.lst vs)) \/ ∃ its n,R.K.lookup a=some {cls:=.type "list",data:=.seq its n}/\its.size<=sizeLine/\Vals vs its.toList
def DkA(o:Bool)(H:Hp)(a:Addr)(kvs:List<|Key×V):Prop:=bif o then H a=some (.dK kvs) else Rd H a (.dK kvs)
inductive RpC (rs:List V->List Addr->Prop) (C:Addr->List V->List Addr->Prop) (v:V):Prop
 | mk:∀(a:Addr) (vs:List V) (O':W5),v=.ref a->rs vs O'->C a vs O'->RpC rs C v
inductive RpS (rd:V->List Addr->Prop) (rs:List V->List Addr->Prop) (vs:List V) (O:W5):Prop
 | mk:∀(v:V) (vs':List V) (O1 O2:W5),vs=v::vs'->O=O1++O2->rd v O1->rs vs' O2->RpS rd rs vs O
mutual
def Rep(R:RC)(Z:Zn)(H:Hp):D->V->List Addr->Prop
 | .non,v,O=>v=.non/\O=[]
 | .bl b,v,O=>v=.bl b/\O=[]
 | .int i,v,O=>v=.int i/\O=[]
 | .str s,v,O=>v=.str (S s)/\O=[]
 | .dead,_,O=>O=[]
 | .tok a,v,O=>v=.ref a/\O=[]
 | .kt k,v,O=>∃ a,v=.ref a/\Z a/\H a=some (.tup<|(k.map kaV).map kV)/\O=[]
 | .exc c p,v,O=>∃ a dx,v=.ref a/\Z a/\Z dx/\H a=some (.ext<|xo (R.cls c) a dx)/\H dx=some (.xd [("place",.int p)])/\O=[]
 | .tup l,v,O=>∃ a vs,v=.ref a/\FT R Z H a vs/\Reps R Z H l vs O
 | .lst o l,v,O=>RpC (λvs O'=>Reps R Z H l vs O') (λa vs O'=>bif o then H a=some (.lst vs)/\O=a::O' else FL R Z H a vs/\O'=[]/\O=[]) v
 | .dK o ks l,v,O=>RpC (λvs O'=>Reps R Z H l vs O') (λa vs O'=>ks.length=l.length/\DkA o H a ((ks.map kaV).zip vs)/\bif o then O=a::O' else Z a/\O'=[]/\O=[]) v
 | .dT o ks l,v,O=>RpC (λvs O'=>Reps R Z H l vs O') (λa vs O'=>ks.length=l.length/\H a=some (.dT<|(ks.map<|List.map kaV).zip vs)/\bif o then O=a::O' else Z a/\O'=[]/\O=[]) v
 | .ins o c ns l,v,O=>∃ a dx vs O',v=.ref a/\Reps R Z H l vs O'/\ns.length=l.length/\H a=some (.ins (R.cls c) dx<|ns.zip vs)/\bif o then O=a::O' else Z a/\O'=[]/\O=[]
def Reps(R:RC)(Z:Zn)(H:Hp):List D->List V->List Addr->Prop
 | [],vs,O=>vs=[]/\O=[]
 | d::ds,vs,O=>RpS (λv O1=>Rep R Z H d v O1) (λvs' O2=>Reps R Z H ds vs' O2) vs O
end
def FT.sq(h:FT R Z H a vs):SqT R.K H a vs:=by
 rcases h with⟨_,h⟩ | ⟨o,b,n,c,d,e,f,g,_⟩
 ·exact .inl h
 ·exact .inr ⟨o,b,n,c,d,e,f,g⟩
def FL.sqx(h:FL R Z H a vs):SqX R.K H a vs:=by
 rcases h with⟨_,h⟩ | h
 ·exact .inl h
 ·exact .inr h
def FL.sq(h:FL R Z H a vs):SqL R.K H a vs:=h.sqx.sq
def Rd.agree(e:H' a=H a)(h:Rd H a u):Rd H' a u:=by
 unfold Rd at h ⊢;rw[e];exact h
def FT.frame(b:∀ a,Z a->Z' a)(c:∀ a,Z a->H' a=H a)(h:FT R Z H a vs):FT R Z' H' a vs:=by
 rcases h with⟨z,h⟩ | h
 ·exact .inl ⟨b a z,Rd.agree (c a z) h⟩
 ·exact .inr h
def FL.frame(b:∀ a,Z a->Z' a)(c:∀ a,Z a->H' a=H a)(h:FL R Z H a vs):FL R Z' H' a vs:=by
 rcases h with⟨z,h⟩ | h
 ·exact .inl ⟨b a z,Rd.agree (c a z) h⟩
 ·exact .inr h
mutual
theorem Rep.frame(hz:∀ a,Z a->Z' a)(hH:∀ a,Z a->H' a=H a):∀{d:D}{v:V}{O:W5},Rep R Z H d v O->(∀ a∈O,H' a=H a)->Rep R Z' H' d v O
 | .non,_,_,h,_=>by rw[Rep] at h ⊢;exact h
 | .bl _,_,_,h,_=>by rw[Rep] at h ⊢;exact h
 | .int _,_,_,h,_=>by rw[Rep] at h ⊢;exact h
 | .str _,_,_,h,_=>by rw[Rep] at h ⊢;exact h
 | .dead,_,_,h,_=>by rw[Rep] at h ⊢;exact h
 | .tok _,_,_,h,_=>by rw[Rep] at h ⊢;exact h
 | .kt _,_,_,h,_=>by
  rw[Rep] at h ⊢;obtain⟨a,e,z,x,o⟩:=h;exact⟨a,e,hz a z,(hH a z).trans x,o⟩
 | .exc _ _,_,_,h,_=>by
  rw[Rep] at h ⊢;obtain⟨a,dx,e,z1,z2,h1,h2,h3⟩:=h;exact⟨a,dx,e,hz a z1,hz dx z2,(hH a z1).trans h1,(hH dx z2).trans h2,h3⟩
 | .tup l,_,_,h,hO=>by
  rw[Rep] at h ⊢;obtain⟨a,vs,e,t,r⟩:=h;exact⟨a,vs,e,t.frame hz hH,Reps.frame hz hH r hO⟩
 | .lst o l,_,_,h,hO=>by
  rw[Rep] at h ⊢;obtain⟨a,vs,O',e,r,h⟩:=h;cases o with
  | true=>
   obtain⟨h1,rfl⟩:=h;exact⟨a,vs,O',e,Reps.frame hz hH r λb hb=>hO b<|L6 _ hb,by rw[cond_true,hO a L7];exact⟨h1,rfl⟩⟩
  | false=>
   obtain⟨h1,rfl,rfl⟩:=h;exact⟨a,vs,[],e,Reps.frame hz hH r (λb hb=>nomatch hb),h1.frame hz hH,rfl,rfl⟩
 | .dK o ks l,_,_,h,hO=>by
  rw[Rep] at h ⊢;obtain⟨a,vs,O',e,r,hl,hd,h⟩:=h;cases o with
  | true=>
   have h:=(show _=_ from h);subst h;exact⟨a,vs,O',e,Reps.frame hz hH r λb hb=>hO b<|L6 _ hb,hl,by show H' a=some _;rw[hO a L7];exact hd,rfl⟩
  | false=>
   obtain⟨h1,rfl,rfl⟩:=h;exact⟨a,vs,[],e,Reps.frame hz hH r (λb hb=>nomatch hb),hl,Rd.agree (hH a h1) hd,hz a h1,rfl,rfl⟩
 | .dT o ks l,_,_,h,hO=>by
  rw[Rep] at h ⊢;obtain⟨a,vs,O',e,r,hl,hd,h⟩:=h;cases o with
  | true=>
   have h:=(show _=_ from h);subst h;exact⟨a,vs,O',e,Reps.frame hz hH r λb hb=>hO b<|L6 _ hb,hl,by rw[hO a L7];exact hd,rfl⟩
  | false=>
   obtain⟨h1,rfl,rfl⟩:=h;exact⟨a,vs,[],e,Reps.frame hz hH r (λb hb=>nomatch hb),hl,by rw[hH a h1];exact hd,hz a h1,rfl,rfl⟩
 | .ins o c ns l,_,_,h,hO=>by
  rw[Rep] at h ⊢;obtain⟨a,dx,vs,O',e,r,hl,hd,h⟩:=h;cases o with
  | true=>
   have h:=(show _=_ from h);subst h;exact⟨a,dx,vs,O',e,Reps.frame hz hH r λb hb=>hO b<|L6 _ hb,hl,by rw[hO a L7];exact hd,rfl⟩
  | false=>
   obtain⟨h1,rfl,rfl⟩:=h;exact⟨a,dx,vs,[],e,Reps.frame hz hH r (λb hb=>nomatch hb),hl,by rw[hH a h1];exact hd,hz a h1,rfl,rfl⟩
theorem Reps.frame(hz:∀ a,Z a->Z' a)(hH:∀ a,Z a->H' a=H a):∀{l:List D}{vs:List V}{O:W5},Reps R Z H l vs O->(∀ a∈O,H' a=H a)->Reps R Z' H' l vs O
 | [],_,_,h,_=>by rw[Reps] at h ⊢;exact h
 | d::l,_,_,h,hO=>by
  rw[Reps] at h ⊢;obtain⟨v,vs,O1,O2,e,rfl,r1,r2⟩:=h;exact⟨v,vs,O1,O2,e,rfl,Rep.frame hz hH r1 λa ha=>hO a<|List.mem_append_left _ ha,Reps.frame hz hH r2 λa ha=>hO a<|U5 _ ha⟩
end
mutual
theorem Rep.nil:∀{d:D}{v:V}{O:W5},Rep R Z H d v O->frz d=true->O=[]
 | .non,_,_,h,_=>by rw[Rep] at h;exact h.2
 | .bl _,_,_,h,_=>by rw[Rep] at h;exact h.2
 | .int _,_,_,h,_=>by rw[Rep] at h;exact h.2
 | .str _,_,_,h,_=>by rw[Rep] at h;exact h.2
 | .dead,_,_,h,_=>by rw[Rep] at h;exact h
 | .tok _,_,_,h,_=>by rw[Rep] at h;exact h.2
 | .kt _,_,_,h,_=>by rw[Rep] at h;obtain⟨_,_,_,_,h⟩:=h;exact h
 | .exc _ _,_,_,h,_=>by rw[Rep] at h;obtain⟨_,_,_,_,_,_,_,h⟩:=h;exact h
 | .tup l,_,_,h,f=>by
  rw[Rep] at h;rw[frz] at f;obtain⟨a,vs,e,t,r⟩:=h;exact Reps.nil r f
 | .lst o l,_,_,h,f=>by
  rw[Rep] at h;rw[frz] at f;obtain⟨a,vs,O',e,r,h⟩:=h;cases o with
  | true=>exact absurd f (by simp)
  | false=>exact h.2.2
 | .dK o ks l,_,_,h,f=>by
  rw[Rep] at h;rw[frz] at f;obtain⟨a,vs,O',e,r,hl,hd,h⟩:=h;cases o with
  | true=>exact absurd f (by simp)
  | false=>exact h.2.2
 | .dT o ks l,_,_,h,f=>by
  rw[Rep] at h;rw[frz] at f;obtain⟨a,vs,O',e,r,hl,hd,h⟩:=h;cases o with
  | true=>exact absurd f (by simp)
  | false=>exact h.2.2
 | .ins o c ns l,_,_,h,f=>by
  rw[Rep] at h;rw[frz] at f;obtain⟨a,dx,vs,O',e,r,hl,hd,h⟩:=h;cases o with
  | true=>exact absurd f (by simp)
  | false=>exact h.2.2
theorem Reps.nil:∀{l:List D}{vs:List V}{O:W5},Reps R Z H l vs O->frzs l=true->O=[]
 | [],_,_,h,_=>by rw[Reps] at h;exact h.2
 | d::l,_,_,h,f=>by
  rw[Reps] at h;rw[frzs,M0] at f;obtain⟨v,vs,O1,O2,e,rfl,r1,r2⟩:=h;rw[Rep.nil r1 f.1,Reps.nil r2 f.2];rfl
end
mutual
theorem Rep.freeze:∀{d:D}{v:V}{O:W5},Rep R Z H d v O->(∀ a,Z a->Z' a)->(∀ a∈O,Z' a)->Rep R Z' H (fz d) v []
 | .non,_,_,h,_,_=>by rw[Rep] at h;rw[fz,Rep];exact⟨h.1,rfl⟩
 | .bl _,_,_,h,_,_=>by rw[Rep] at h;rw[fz,Rep];exact⟨h.1,rfl⟩
 | .int _,_,_,h,_,_=>by rw[Rep] at h;rw[fz,Rep];exact⟨h.1,rfl⟩
 | .str _,_,_,h,_,_=>by rw[Rep] at h;rw[fz,Rep];exact⟨h.1,rfl⟩
 | .dead,_,_,h,_,_=>by rw[fz,Rep]
 | .tok _,_,_,h,_,_=>by rw[Rep] at h;rw[fz,Rep];exact⟨h.1,rfl⟩
 | .kt _,_,_,h,hz,_=>by
  rw[Rep] at h;rw[fz,Rep];obtain⟨a,e,z,x,o⟩:=h;exact⟨a,e,hz a z,x,rfl⟩
 | .exc _ _,_,_,h,hz,_=>by
  rw[Rep] at h;rw[fz,Rep];obtain⟨a,dx,e,z1,z2,h1,h2,_⟩:=h;exact⟨a,dx,e,hz a z1,hz dx z2,h1,h2,rfl⟩
 | .tup l,_,_,h,hz,hO=>by
  rw[Rep] at h;rw[fz,Rep];obtain⟨a,vs,e,t,r⟩:=h;exact⟨a,vs,e,t.frame hz λ_ _=>rfl,Reps.freeze r hz hO⟩
 | .lst o l,_,_,h,hz,hO=>by
  rw[Rep] at h;rw[fz,Rep];obtain⟨a,vs,O',e,r,h⟩:=h;cases o with
  | true=>
   obtain⟨h1,rfl⟩:=h;exact⟨a,vs,[],e,Reps.freeze r hz λb hb=>hO b<|L6 _ hb,.inl ⟨hO a L7,.inl h1⟩,rfl,rfl⟩
  | false=>
   obtain⟨h1,rfl,rfl⟩:=h;exact⟨a,vs,[],e,Reps.freeze r hz (λb hb=>nomatch hb),h1.frame hz<|λ_ _=>rfl,rfl,rfl⟩
 | .dK o ks l,_,_,h,hz,hO=>by
  rw[Rep] at h;rw[fz,Rep];obtain⟨a,vs,O',e,r,hl,hd,h⟩:=h;have hl':ks.length=(fzs l).length:=by rw[kC,L1];exact hl
  cases o with
  | true=>
   have h:=(show _=_ from h);subst h;exact⟨a,vs,[],e,Reps.freeze r hz λb hb=>hO b<|L6 _ hb,hl',.inl hd,hO a L7,rfl,rfl⟩
  | false=>
   obtain⟨h1,rfl,rfl⟩:=h;exact⟨a,vs,[],e,Reps.freeze r hz (λb hb=>nomatch hb),hl',hd,hz a h1,rfl,rfl⟩
 | .dT o ks l,_,_,h,hz,hO=>by
  rw[Rep] at h;rw[fz,Rep];obtain⟨a,vs,O',e,r,hl,hd,h⟩:=h;have hl':ks.length=(fzs l).length:=by rw[kC,L1];exact hl
  cases o with
  | true=>
   have h:=(show _=_ from h);subst h;exact⟨a,vs,[],e,Reps.freeze r hz λb hb=>hO b<|L6 _ hb,hl',hd,hO a L7,rfl,rfl⟩
  | false=>
   obtain⟨h1,rfl,rfl⟩:=h;exact⟨a,vs,[],e,Reps.freeze r hz (λb hb=>nomatch hb),hl',hd,hz a h1,rfl,rfl⟩
 | .ins o c ns l,_,_,h,hz,hO=>by
  rw[Rep] at h;rw[fz,Rep];obtain⟨a,dx,vs,O',e,r,hl,hd,h⟩:=h;have hl':ns.length=(fzs l).length:=by rw[kC,L1];exact hl
  cases o with
  | true=>
   have h:=(show _=_ from h);subst h;exact⟨a,dx,vs,[],e,Reps.freeze r hz λb hb=>hO b<|L6 _ hb,hl',hd,hO a L7,rfl,rfl⟩
  | false=>
   obtain⟨h1,rfl,rfl⟩:=h;exact⟨a,dx,vs,[],e,Reps.freeze r hz (λb hb=>nomatch hb),hl',hd,hz a h1,rfl,rfl⟩
theorem Reps.freeze:∀{l:List D}{vs:List V}{O:W5},Reps R Z H l vs O->(∀ a,Z a->Z' a)->(∀ a∈O,Z' a)->Reps R Z' H (fzs l) vs []
 | [],_,_,h,_,_=>by rw[Reps] at h;rw[fzs,Reps];exact⟨h.1,rfl⟩
 | d::l,_,_,h,hz,hO=>by
  rw[Reps] at h;rw[fzs,Reps];obtain⟨v,vs,O1,O2,e,rfl,r1,r2⟩:=h;exact⟨v,vs,[],[],e,rfl,Rep.freeze r1 hz λa ha=>hO a<|List.mem_append_left _ ha,Reps.freeze r2 hz λa ha=>hO a<|U5 _ ha⟩
end
theorem Reps.length:∀{l}{vs}{O},Reps R Z H l vs O->vs.length=l.length
 | [],_,_,h=>by rw[Reps] at h;rw[h.1];rfl
 | d::l,_,_,h=>by
  obtain⟨v,vs,a,b,rfl,rfl,r1,r2⟩:=h;rw[M3,M3,Reps.length r2]
theorem Reps.append:∀{l m}{vs ws}{O P},Reps R Z H l vs O->Reps R Z H m ws P->Reps R Z H (l++m) (vs++ws) (O++P)
 | [],m,_,_,_,_,h,k=>by rw[Reps] at h;obtain⟨rfl,rfl⟩:=h;exact k
 | d::l,m,_,_,_,_,h,k=>by
  obtain⟨v,vs,a,b,rfl,rfl,r1,r2⟩:=h;exact⟨v,_,a,_,rfl,List.append_assoc ..,r1,Reps.append r2 k⟩
def Reps.one(h:Rep R Z H d v O):Reps R Z H [d] [v] O:=by
 exact⟨v,[],O,[],rfl,(N2 O).symm,h,by rw[Reps];exact⟨rfl,rfl⟩⟩
def Reps.cons(h:Rep R Z H d v O)(k:Reps R Z H l vs P):Reps R Z H (d::l) (v::vs) (O++P):=by
 exact⟨v,vs,O,P,rfl,rfl,h,k⟩
def Reps.empty:Reps R Z H [] [] []:=by rw[Reps];exact⟨rfl,rfl⟩
theorem Reps.at:∀{l}{vs}{O}{i}{d},Reps R Z H l vs O->l[i]?=some d ->
  Ex4 λv A P B=>An4 (vs[i]?=some v) (O=A++P++B) (Rep R Z H d v P)<|∀{Z'}{H'}{d'}{v'}{P'},Rep R Z' H' d' v' P'->(∀ a,Z a->Z' a)->(∀ a,Z a->H' a=H a)->(∀ a∈A,H' a=H a)->(∀ a∈B,H' a=H a)->Reps R Z' H' (l.set i d') (vs.set i v') (A++P'++B)
 | [],_,_,_,_,_,e=>by simp at e
 | c::l,_,_,0,d,h,e=>by
  obtain⟨v,vs,b,j,rfl,rfl,r1,r2⟩:=h;have e:c=d:=by simpa using e
  subst e;exact⟨v,[],b,j,rfl,rfl,r1,λr f g m n=>⟨_,vs,_,j,rfl,rfl,r,Reps.frame f g r2 n⟩⟩
 | c::l,_,_,i+1,d,h,e=>by
  obtain⟨v,vs,b,j,rfl,rfl,r1,r2⟩:=h;obtain⟨w,A,P,B,p,rfl,q,k⟩:=Reps.at r2 ⇑e;exact⟨w,b++A,P,B,by simpa using p,by simp,q,λ{Z' H' d' v' P'} r f g m n=>⟨v,_,b,A++P'++B,rfl,by simp,Rep.frame f g r1 λa o=>m a<|List.mem_append_left _ o,k r f g (λa o=>m a<|U5 _ o) n⟩⟩
def Reps.item{l}{vs}{i:Nat}(h:Reps R Z H l vs [])(e:l[i]?=some d):∃ v,vs[i]?=some v/\Rep R Z H d v []:=by
 obtain⟨v,A,P,B,a,e2,r,_⟩:=h.at e;have:P=[]:=by
  have:=congrArg List.length e2;simp at this;exact List.eq_nil_of_length_eq_zero ∅
 subst this;exact⟨v,a,r⟩
theorem Reps.take:∀{l}{vs} n,Reps R Z H l vs []->Reps R Z H (l.take n) (vs.take n) []
 | _,_,0,_=>by simp;exact .empty
 | [],_,n+1,h=>by rw[Reps] at h;rw[h.1];exact .empty
 | d::l,_,n+1,h=>by
  obtain⟨v,vs,a,b,rfl,e,r1,r2⟩:=h;obtain⟨rfl,rfl⟩:=List.append_eq_nil_iff.mp e.symm;exact .cons r1<|Reps.take n r2
theorem Reps.drop:∀{l}{vs} n,Reps R Z H l vs []->Reps R Z H (l.drop n) (vs.drop n) []
 | _,_,0,h=>h
 | [],_,n+1,h=>by rw[Reps] at h;rw[h.1];exact .empty
 | d::l,_,n+1,h=>by
  obtain⟨v,vs,a,b,rfl,e,r1,r2⟩:=h;obtain⟨rfl,rfl⟩:=List.append_eq_nil_iff.mp e.symm;exact Reps.drop n r2
structure WF(Z:Zn)(H:Hp)(O:W5):Prop where
 nd:O.Nodup
 nz:∀ a∈O,¬ Z a
 od:∀ a∈O,H a≠none
 zd:∀ a,Z a->H a≠none
structure Go(Z:Zn)(H:Hp)(O:W5)(Z':Zn)(H':Hp)(O':W5):Prop where
 wf:WF Z' H' O'
 zz:∀ a,Z a->Z' a
 fr:∀ a,H a≠none->a∉O->H' a=H a
 zn:∀ a,Z' a->Z a\/a∈O\/H a=none
 sub:∀ a∈O',a∈O\/H a=none
 dm:∀ a,H a≠none->H' a≠none
def Go.refl(w:WF Z H O):Go Z H O Z H O:=⟨w,λ_ z=>z,λ_ _ _=>rfl,λ_ z=>.inl z,λ_ h=>.inl h,λ_ h=>h⟩
def Go.trans(g:Go Z H O Z' H' O')(k:Go Z' H' O' Z'' H'' O''):Go Z H O Z'' H'' O'':=by
 refine⟨k.wf,λa z=>k.zz a<|g.zz a z,λa h n=>?_,λa z=>?_,λa h=>?_,λa h=>k.dm a<|g.dm a h⟩
 ·rw[k.fr a (g.dm a h) λb=>(g.sub a b).elim n h,g.fr a h n]
 ·rcases k.zn a z with z | z | z
  ·exact g.zn a z
  ·rcases g.sub a z with q | q
   ·lia
   ·lia
  ·by_cases h:H a=none
   ·lia
   ·exact absurd z<|g.dm a h
 ·rcases k.sub a h with q | q
  ·exact g.sub a q
  ·by_cases h:H a=none
   ·lia
   ·exact absurd q<|g.dm a h
def Go.zH(w:WF Z H O)(g:Go Z H O Z' H' O'):∀ a,Z a->H' a=H a:=λa z=>g.fr a (w.zd a z) λh=>w.nz a h z
def WF.sub(w:WF Z H O)(h:∀ a∈O',a∈O)(n:O'.Nodup):WF Z H O':=⟨n,λa z=>w.nz a<|h a z,λa z=>w.od a<|h a z,w.zd⟩
def WF.mid(w:WF Z H<|A++O++B):WF Z H O:=w.sub (λa h=>by simp[h]) (by have:=w.nd;simp[X3] at this;exact this.2.1.1)
def WF.left(w:WF Z H<|A++B):WF Z H A:=w.sub (λa h=>by simp[h]) (X3.mp w.nd).1
def WF.right(w:WF Z H<|A++B):WF Z H B:=w.sub (λa h=>by simp[h]) (X3.mp w.nd).2.1
def Go.frame(w:WF Z H<|A++O++B)(g:Go Z H O Z' H' O'):Go Z H (A++O++B) Z' H' (A++O'++B):=by
 have nd:=w.nd;simp only[X3,N4] at nd;have new:∀ a∈O',a∉A/\a∉B:=λa h=>by
  rcases g.sub a h with q | q
  ·exact⟨λz=>nd.1.2.2 a z a q rfl,λz=>nd.2.2 a (.inr q) a z rfl⟩
  ·exact⟨λz=>w.od a (by simp[z]) q,λz=>w.od a (by simp[z]) q⟩
 have keep:∀ a,a∈A\/a∈B->a∉O:=λa h z=>by
  rcases h with h | h
  ·exact nd.1.2.2 a h a z rfl
  ·exact nd.2.2 a (.inr z) a h rfl
 refine⟨⟨?_,λa h z=>?_,λa h=>?_,g.wf.zd⟩,g.zz,λa h n=>?_,λa z=>?_,λa h=>?_,g.dm⟩
 ·simp only[X3,N4];exact⟨⟨nd.1.1,g.wf.nd,λa h b k e=>(new b k).1 (e▸h)⟩,nd.2.1,λa h b k e=>by
   rcases h with h | h
   ·exact nd.2.2 a (.inl h) b k e
   ·exact(new a h).2 (e▸k)⟩
 ·simp only[N4] at h;rcases h with(h | h) | h
  ·rcases g.zn a z with q | q | q
   ·exact w.nz a (by simp[h]) q
   ·exact keep a (.inl h) q
   ·exact w.od a (by simp[h]) q
  ·exact g.wf.nz a h z
  ·rcases g.zn a z with q | q | q
   ·exact w.nz a (by simp[h]) q
   ·exact keep a (.inr h) q
   ·exact w.od a (by simp[h]) q
 ·simp only[N4] at h;rcases h with(h | h) | h
  ·exact g.dm a<|w.od a (by simp[h])
  ·exact g.wf.od a h
  ·exact g.dm a<|w.od a (by simp[h])
 ·simp only[N4,not_or] at n;exact g.fr a h n.1.2
 ·rcases g.zn a z with q | q | q
  ·lia
  ·exact .inr<|.inl (by simp[q])
  ·lia
 ·simp only[N4] at h ⊢;rcases h with(h | h) | h
  ·lia
  ·rcases g.sub a h with q | q
   ·lia
   ·lia
  ·lia
def Go.keepA(w:WF Z H<|A++O++B)(g:Go Z H O Z' H' O'):(∀ a∈A,H' a=H a)/\∀ a∈B,H' a=H a:=by
 have nd:=w.nd;simp only[X3,N4] at nd;exact⟨λa h=>g.fr a (w.od a<|by simp[h]) λz=>nd.1.2.2 a h a z rfl,λa h=>g.fr a (w.od a<|by simp[h]) λz=>nd.2.2 a (.inr z) a h rfl⟩
def Go.drop(g:Go Z H O Z' H' O')(h:∀ a∈O'',a∈O')(n:O''.Nodup):Go Z H O Z' H' O'':=⟨g.wf.sub h n,g.zz,g.fr,g.zn,λa q=>g.sub a<|h a q,g.dm⟩
def Go.dropL(g:Go Z H O Z' H'<|A++B):Go Z H O Z' H' B:=g.drop (λa h=>by simp[h]) (X3.mp g.wf.nd).2.1
def Go.dropR(g:Go Z H O Z' H'<|A++B):Go Z H O Z' H' A:=g.drop (λa h=>by simp[h]) (X3.mp g.wf.nd).1
def Go.freeze(w:WF Z H O):Go Z H O (λa=>Z a\/a∈O) H []:=
 ⟨⟨List.nodup_nil,λa h=>(nomatch h),λa h=>(nomatch h),λa h=>h.elim (w.zd a)<|w.od a⟩,λa z=>.inl z,λ_ _ _=>rfl,λa z=>z.elim .inl λq=>.inr<|.inl q,λa h=>(nomatch h),λ_ h=>h⟩
def Go.newF(w:WF Z H O)(b:H p=none):Go Z H O (λa=>Z a\/a=p) (upd H p o) O:=by
 have ne:∀ a,H a≠none->a≠p:=λa h e=>h<|e▸b;refine⟨⟨w.nd,λa h z=>z.elim (w.nz a h)<|ne a<|w.od a h,λa h=>?_,λa z=>?_⟩,λa z=>.inl z,λa h _=>je<|ne a h,λa z=>z.elim .inl λe=>.inr<|.inr<|e▸b,λa h=>.inl h,λa h=>?_⟩
 ·rw[je<|ne a<|w.od a h];exact w.od a h
 ·by_cases e:a=p
  ·rw[e,jl];exact λh=>nomatch h
  ·rw[je e];exact w.zd a<|z.resolve_right e
 ·rw[je<|ne a h];exact h
def Go.newO(w:WF Z H O)(b:H p=none):Go Z H O Z (upd H p o) (p::O):=by
 have ne:∀ a,H a≠none->a≠p:=λa h e=>h<|e▸b;refine⟨⟨List.nodup_cons.mpr ⟨λh=>w.od p h b,w.nd⟩,λa h z=>?_,λa h=>?_,λa z=>?_⟩,λa z=>z,λa h _=>je<|ne a h,λa z=>.inl z,λa h=>?_,λa h=>?_⟩
 ·rcases M5.mp h with e | e
  ·exact w.zd a z<|e▸b
  ·exact w.nz a e z
 ·rcases M5.mp h with e | e
  ·rw[e,jl];exact λh=>nomatch h
  ·rw[je<|ne a<|w.od a e];exact w.od a e
 ·rw[je<|ne a<|w.zd a z];exact w.zd a z
 ·grind
 ·rw[je<|ne a h];exact h
def Go.put(w:WF Z H O)(c:p∈O):Go Z H O Z (upd H p o) O:=by
 have b:∀ a,upd H p o a=none->a≠p/\H a=none:=λa h=>by
  by_cases e:a=p
  ·rw[e,jl] at h;cases h
  ·rw[je e] at h;exact⟨e,h⟩
 exact⟨⟨w.nd,w.nz,λa h z=>w.od a h (b a z).2,λa z e=>w.zd a z (b a e).2⟩,λa z=>z,λa h n=>je λe=>n<|e▸c,λa z=>.inl z,λa h=>.inl h,λa h z=>h (b a z).2⟩
noncomputable def jbR:D->Option Bool
 | .bl b=>some b
 | _=>none
@[simp] def blOf_bl(b):jbR (.bl b)=some b:=rfl
def Qw(h:jbR d=some b):d=.bl b:=by cases d<;>cases h<;>rfl
noncomputable def vv:D->Option Int
 | .int i=>some i
 | _=>none
@[simp] def jei(i):vv (.int i)=some i:=rfl
def jK(h:vv d=some n):d=.int n:=by cases d<;>cases h<;>rfl
noncomputable def zG:D->Option (List D)
 | .lst true l=>some l
 | _=>none
@[simp] def Vn(l):zG (.lst true l)=some l:=rfl
def Y3(h:zG d=some l):d=.lst true l:=by
 cases d with
 | lst o _=>cases o<;>cases h;rfl
 | _=>cases h
noncomputable def jeN:D->Option (List D)
 | .tup l=>some l
 | _=>none
@[simp] def tupOf_tup(l):jeN (.tup l)=some l:=rfl
noncomputable def jhC:D->Option (List KA×List D)
 | .dK true ks l=>some (ks,l)
 | _=>none
@[simp] def dkOf_dK(ks)(l):jhC (.dK true ks l)=some (ks,l):=rfl
def wx(h:jhC d=some p):d=.dK true p.1 p.2:=by
 cases d with
 | dK o _ _=>cases o<;>cases h;rfl
 | _=>cases h
noncomputable def jjq:D->Option (List KA×List D)
 | .dK _ ks l=>some (ks,l)
 | _=>none
@[simp] def dkAny_e(o)(ks)(l):jjq (.dK o ks l)=some (ks,l):=rfl
def jfe(h:jjq d=some p):∃ o,d=.dK o p.1 p.2:=by
 cases d with
 | dK o _ _=>cases h;exact⟨o,rfl⟩
 | _=>cases h
noncomputable def je5:D->Option (List (List KA)×List D)
 | .dT true ks l=>some (ks,l)
 | _=>none
@[simp] def dtOf_dT(ks)(l):je5 (.dT true ks l)=some (ks,l):=rfl
def Qg(h:je5 d=some p):d=.dT true p.1 p.2:=by
 cases d with
 | dT o _ _=>cases o<;>cases h;rfl
 | _=>cases h
noncomputable def xl:D->Option (Nat×List Str×List D)
 | .ins true c ns l=>some (c,ns,l)
 | _=>none
@[simp] def insOf_ins(c)(ns)(l):xl (.ins true c ns l)=some (c,ns,l):=rfl
def JT(h:xl d=some (c,ns,l)):d=.ins true c ns l:=by
 cases d with
 | ins o _ _ _=>cases o<;>cases h;rfl
 | _=>cases h
noncomputable def jor:D->Option (Nat×List Str×List D)
 | .ins _ c ns l=>some (c,ns,l)
 | _=>none
@[simp] def inOf_ins(o)(c)(ns)(l):jor (.ins o c ns l)=some (c,ns,l):=rfl
def jjW(h:jor d=some (c,ns,l)):∃ o,d=.ins o c ns l:=by
 cases d with
 | ins o _ _ _=>cases h;exact⟨o,rfl⟩
 | _=>cases h
noncomputable def jko:D->Option (List D)
 | .lst _ l=>some l
 | _=>none
@[simp] def lsOf_lst(o)(l):jko (.lst o l)=some l:=rfl
def VJ(h:jko d=some l):∃ o,d=.lst o l:=by
 cases d with
 | lst o _=>cases h;exact⟨o,rfl⟩
 | _=>cases h
def Qm(h:jeN d=some l):d=.tup l:=by cases d<;>cases h<;>rfl
noncomputable def je2:List D->Option D
 | [x]=>some x
 | _=>none
def kE(h:je2 l=some x):l=[x]:=by
 match l with
 | [_]=>cases h;rfl
noncomputable def two1:List D->Option (D×D)
 | [x,y]=>some (x,y)
 | _=>none
def two1_of(h:two1 l=some p):l=[p.1,p.2]:=by
 match l with
 | [_,_]=>cases h;rfl
def ob{α β:Type}{C:Prop}{o}{f:α->Option β}{b}(e:o.bind f=some b)(k:∀ a,o=some a->f a=some b->C):C:=by
 cases o with
 | none=>cases e
 | some a=>exact k a rfl e
def oc{β:Type}{C:Prop}{c}{x}{b:β}(e:(bif c then x else none)=some b)(k:c=true->x=some b->C):C:=by
 cases c with
 | false=>cases e
 | true=>exact k rfl e
noncomputable abbrev Rh:=List<|Option D
def Slots(R:RC)(Z:Zn)(H:Hp):Rh->St->List Addr->Prop
 | [],σ,O=>σ=[]/\O=[]
 | none::ρ,σ,O=>∃ s σ',σ=s::σ'/\Slots R Z H ρ σ' O
 | some d::ρ,σ,O=>∃ v σ' O1 O2,σ=some v::σ'/\O=O1++O2/\Rep R Z H d v O1/\Slots R Z H ρ σ' O2
theorem Slots.frame(c:∀ a,Z a->Z' a)(f:∀ a,Z a->H' a=H a):∀{ρ}{σ}{O},Slots R Z H ρ σ O->(∀ a∈O,H' a=H a)->Slots R Z' H' ρ σ O
 | [],_,_,h,_=>h
 | none::ρ,_,_,h,b=>by
  obtain⟨s,g,e,r⟩:=h;exact⟨s,g,e,Slots.frame c f r b⟩
 | some d::ρ,_,_,h,b=>by
  obtain⟨v,g,j,k,e,rfl,r1,r2⟩:=h;exact⟨v,g,j,k,e,rfl,r1.frame c f λa i=>b a<|List.mem_append_left _ i,Slots.frame c f r2 λa i=>b a<|U5 _ i⟩
inductive SPut (R:RC) (Z:Zn) (H:Hp) (ρ:Rh) (σ:St) (O:W5) (i:Nat):Prop
 | mk:∀(A P B:W5),O=A++P++B->(∀ d,ρ[i]?=some (some d)->∃ v,σ[i]?=some (some v)/\Rep R Z H d v P) ->
  (∀{Z':Zn}{H':Hp}{d':D}{v':V}{P':W5},Rep R Z' H' d' v' P'->(∀ a,Z a->Z' a)->(∀ a,Z a->H' a=H a)->(∀ a∈A,H' a=H a)->(∀ a∈B,H' a=H a)->Slots R Z' H' (ρ.set i<|some d') (σ.set i<|some v') (A++P'++B)) ->
  Slots R Z H (ρ.set i none) σ (A++B)->SPut R Z H ρ σ O i
theorem Slots.put:∀{ρ}{σ}{O}{i},Slots R Z H ρ σ O->i<ρ.length->SPut R Z H ρ σ O i
 | [],_,_,_,_,hi=>absurd hi<|Nat.not_lt_zero _
 | none::ρ,_,_,0,h,hi=>by
  obtain⟨s,b,rfl,r⟩:=h;refine⟨[],[],_,rfl,λd e=>by simp at e,λq f g k j=>⟨_,b,_,_,rfl,rfl,q,Slots.frame f g r j⟩,⟨s,b,rfl,r⟩⟩
 | some c::ρ,_,_,0,h,hi=>by
  obtain⟨v,b,l,t,rfl,rfl,r1,r2⟩:=h;refine⟨[],l,t,rfl,λd e=>?_,λq f g k j=>⟨_,b,_,_,rfl,rfl,q,Slots.frame f g r2 j⟩,⟨_,b,rfl,r2⟩⟩
  ·have e:c=d:=by simpa using e
   subst e;exact⟨v,rfl,r1⟩
 | none::ρ,_,_,i+1,h,hi=>by
  obtain⟨s,b,rfl,r⟩:=h;obtain⟨A,P,B,rfl,m,n,o⟩:=Slots.put r ⇑hi;refine⟨A,P,B,rfl,λd e=>m d ⇑e,λq f g k j=>⟨s,_,rfl,n q f g k j⟩,⟨s,b,rfl,o⟩⟩
 | some c::ρ,_,_,i+1,h,hi=>by
  obtain⟨v,b,l,t,rfl,rfl,r1,r2⟩:=h;obtain⟨A,P,B,rfl,m,n,o⟩:=Slots.put r2 ⇑hi;refine⟨l++A,P,B,by simp,λd e=>m d ⇑e,λ{w x y z u} q f g k j=>⟨v,_,l,A++u++B,rfl,by simp,r1.frame f g λa p=>k a<|List.mem_append_left _ p,n q f g (λa p=>k a<|U5 _ p) j⟩,⟨v,b,l,A++B,rfl,by simp,r1,o⟩⟩
theorem yX:∀{l:List α}{i}{x},l[i]?=some x->l.set i x=l
 | [],_,_,h=>by simp at h
 | y::l,0,x,h=>by simp at h;subst h;rfl
 | y::l,i+1,x,h=>by rw[List.set_cons_succ,yX ⇑h]
abbrev FE:=Rh->Option (D×Rh)
abbrev FT':=Rh->Option (Bool×Rh)
abbrev FA:=Rh->Option (List D×Rh)
def DE(R:RC)(te:TE)(f:FE):Prop:=∀{σ}{ρ ρ'}{Z}{H}{O}{d},WF Z H O->Slots R Z H ρ σ O->f ρ=some (d,ρ') ->
 ∀{Q},(∀{v}{Z'}{H'}{P O'},Go Z H O Z' H' (P++O')->Rep R Z' H' d v P->Slots R Z' H' ρ' σ O'->Q v H')->te σ H Q
def DT(R:RC)(tt:TT)(f:FT'):Prop:=∀{σ}{ρ ρ'}{Z}{H}{O}{b},WF Z H O->Slots R Z H ρ σ O->f ρ=some (b,ρ') ->
 ∀{Q:Bool->Hp->Prop},(∀{Z'}{H'}{O'},Go Z H O Z' H' O'->Slots R Z' H' ρ' σ O'->Q b H')->tt σ H Q
def DA(R:RC)(ta:TA)(f:FA):Prop:=∀{σ}{ρ ρ'}{Z}{H}{O}{ds},WF Z H O->Slots R Z H ρ σ O->f ρ=some (ds,ρ') ->
 ∀{Q:List V->Hp->Prop},(∀{vs}{Z'}{H'}{P O'},Go Z H O Z' H' (P++O')->Reps R Z' H' ds vs P->Slots R Z' H' ρ' σ O'->Q vs H')->ta σ H Q
def DO(R:RC)(r:R2)(g:D->D->Option D):Prop:=∀{Z}{H}{x y d}{v u}{O1 O2},WF Z H (O1++O2)->Rep R Z H x v O1->Rep R Z H y u O2->g x y=some d ->
 ∀{Q},(∀{w}{Z'}{H'}{P},Go Z H (O1++O2) Z' H' P->Rep R Z' H' d w P->Q w H')->r v u H Q
def DC(R:RC)(r:List V->Hp->VK->Prop)(g:List D->Option D):Prop:=∀{Z}{H}{xs}{d}{vs}{O},WF Z H O->Reps R Z H xs vs O->g xs=some d ->
 ∀{Q},(∀{w}{Z'}{H'}{P},Go Z H O Z' H' P->Rep R Z' H' d w P->Q w H')->r vs H Q
inductive Out where
 | nx (ρ:Rh) | rt (d:D) (ρ:Rh) | bk (ρ:Rh) | ct (ρ:Rh)
abbrev FS:=Rh->Option Out
noncomputable def Out.thn:Out->FS->Option Out
 | .nx ρ,g=>g ρ
 | .rt d ρ,_=>some<|.rt d ρ
 | .bk ρ,_=>some<|.bk ρ
 | .ct ρ,_=>some<|.ct ρ
@[simp] def thn_nx(ρ)(g):(Out.nx ρ).thn g=g ρ:=rfl
@[simp] def thn_rt(d)(ρ)(g):(Out.rt d ρ).thn g=some (.rt d ρ):=rfl
@[simp] def thn_bk(ρ)(g):(Out.bk ρ).thn g=some (.bk ρ):=rfl
@[simp] def thn_ct(ρ)(g):(Out.ct ρ).thn g=some (.ct ρ):=rfl
noncomputable def Out.val:Out->Option D
 | .rt d _=>some d
 | .nx _=>some .non
 | _=>none
@[simp] def val_rt(d)(ρ):(Out.rt d ρ).val=some d:=rfl
@[simp] def val_nx(ρ):(Out.nx ρ).val=some .non:=rfl
noncomputable def Out.loop:Out->FS->Option Out
 | .nx ρ,g=>g ρ
 | .ct ρ,g=>g ρ
 | .bk ρ,_=>some<|.nx ρ
 | .rt d ρ,_=>some<|.rt d ρ
@[simp] def we(ρ)(g):(Out.nx ρ).loop g=g ρ:=rfl
@[simp] def loop_ct(ρ)(g):(Out.ct ρ).loop g=g ρ:=rfl
@[simp] def loop_bk(ρ)(g):(Out.bk ρ).loop g=some (.nx ρ):=rfl
@[simp] def loop_rt(d)(ρ)(g):(Out.rt d ρ).loop g=some (.rt d ρ):=rfl
abbrev PF:=Rh->Option D
noncomputable def pV(i:Nat):PF:=λρ=>match ρ[i]? with
 | some (some d)=>some d
 | _=>none
def YR(h:pV i ρ=some d):ρ[i]?=some (some d):=by
 unfold pV at h;split at h
 ·lia
 ·cases h
def Keep(pm:List Nat)(σ σ':St):Prop:=∀ i∈pm,σ'[i]?=σ[i]?
def OutOk(R:RC)(pm:List Nat)(Z:Zn)(H:Hp)(O:W5)(σ:St)(D':Ends):Out->Prop
 | .nx ρ'=>∀{σ'}{Z'}{H'}{O'},Go Z H O Z' H' O'->Slots R Z' H' ρ' σ' O'->Keep pm σ σ'->D'.nx σ' H'
 | .bk ρ'=>∀{σ'}{Z'}{H'}{O'},Go Z H O Z' H' O'->Slots R Z' H' ρ' σ' O'->Keep pm σ σ'->D'.bk σ' H'
 | .ct ρ'=>∀{σ'}{Z'}{H'}{O'},Go Z H O Z' H' O'->Slots R Z' H' ρ' σ' O'->Keep pm σ σ'->D'.ct σ' H'
 | .rt d ρ'=>∀{v}{σ'}{Z'}{H'}{P O'},Go Z H O Z' H' (P++O')->Rep R Z' H' d v P->Slots R Z' H' ρ' σ' O'->Keep pm σ σ'->D'.rt v H'
def DS(R:RC)(pm:List Nat)(ts:TS)(f:FS):Prop:=∀{σ}{ρ}{Z}{H}{O}{o},WF Z H O->Slots R Z H ρ σ O->f ρ=some o->∀{D'},OutOk R pm Z H O σ D' o->ts D' σ H
def DG(R:RC)(pm:List Nat)(tg:TG)(f:D->Rh->Option Rh):Prop:=∀{σ}{ρ ρ'}{Z}{H}{O P}{d}{v},WF Z H (P++O)->Rep R Z H d v P->Slots R Z H ρ σ O->f d ρ=some ρ' ->
 ∀{Q:St->Hp->Prop},(∀{σ'}{Z'}{H'}{O'},Go Z H (P++O) Z' H' O'->Slots R Z' H' ρ' σ' O'->Keep pm σ σ'->Q σ' H')->tg v σ H Q
def Keep.refl(pm)(σ):Keep pm σ σ:=λ_ _=>rfl
def Keep.trans(h:Keep pm σ σ')(k:Keep pm σ' σ''):Keep pm σ σ'':=λi hi=>(k i hi).trans (h i hi)
def Keep.set(h:i∉pm):Keep pm σ (σ.set i x):=λj a=>by
 have ne:i≠j:=λe=>h ∅;rw[List.getElem?_set,if_neg ne]
@[simp] def dMv(i:Nat)(ρ:Rh):Option (D×Rh):=(pV i ρ).bind λd=>some (d,ρ.set i none)
def jnp:DE R (yf i) (dMv i):=by
 intro σ ρ o Z H O d w h e Q k;refine ob e λc f e=>?_;have f:=YR f;obtain⟨A,P,B,rfl,l,p,m⟩:=h.put (L9.mp f).1;obtain⟨v,n,r⟩:=l c f;cases e;refine⟨v,n,k ((Go.refl w).drop (λa q=>?_) ?_) r m⟩
 ·simp at q ⊢;rcases q with q | q | q<;>simp[q]
 ·have nd:=w.nd;simp only[X3,N4] at nd ⊢;exact⟨nd.1.2.1,⟨nd.1.1,nd.2.1,λa g b j=>nd.2.2 a (.inl g) b j⟩,λa g b j e=>j.elim (λq=>nd.1.2.2 b q a g e.symm) λq=>nd.2.2 a (.inr g) b q e⟩
def jes(b:Go Z H O Z' H'<|P1++O1)(g2:Go Z' H' O1 Z'' H''<|P2++O2):Go Z H O Z'' H'' (P1++(P2++O2))/\(∀ a,Z' a->Z'' a)/\(∀ a,Z' a->H'' a=H' a)/\∀ a∈P1,H'' a=H' a:=by
 have w:WF Z' H' (P1++O1++[]):=by simpa using b.wf
 refine⟨b.trans<|by simpa using(g2.frame w),g2.zz,(g2.zH b.wf.right),(Go.keepA w g2).1⟩
@[simp] def dOp(g:D->D->Option D)(fa:FE)(fb:FE)(ρ:Rh):Option (D×Rh):=(fa ρ).bind λr=>(fb r.2).bind λt=>(g r.1 t.1).bind λz=>some (z,t.2)
def jgB(n:DO R r g)(o:DE R ta fa)(q:DE R tb fb):DE R (tOp r ta tb) (dOp g fa fb):=by
 intro σ ρ C Z H O d w h e Q k;refine ob e λp s e=>?_;obtain⟨x,D⟩:=p;refine ob e λp e2 e=>?_;obtain⟨y,E⟩:=p;refine ob e λz e3 e=>?_;cases e;refine o w h s λ{v F G b I} c r1 s1=>(q c.wf.right s1 e2 λ{u f i j l} g2 r2 s2=>?_);obtain⟨g3,zz,t,A⟩:=jes c g2;have a:Go Z H O f i (b++j++l):=by simpa using g3
 refine n a.wf.left (r1.frame zz t A) r2 e3 λ{J Z3 K L} g4 B=>?_;have m:WF f i ([]++(b++j)++l):=by simpa using a.wf
 refine k (a.trans<|by simpa using(g4.frame m)) B<|s2.frame g4.zz (g4.zH a.wf.left) (Go.keepA m g4).2
@[simp] def Jk(ρ:Rh):Option (List D×Rh):=some ([],ρ)
@[simp] def jr(fa:FE)(fr:FA)(ρ:Rh):Option (List D×Rh):=(fa ρ).bind λx=>(fr x.2).bind λy=>some (x.1::y.1,y.2)
def jln:DA R Yw Jk:=by
 intro σ ρ a Z H O d w h e Q k;cases e;exact k (Go.refl w) Reps.empty h
def jkw(b:DE R ta fa)(c:DA R tr fr):DA R (jW ta tr) (jr fa fr):=by
 intro σ ρ j Z H O d w h e Q k;refine ob e λp f e=>?_;obtain⟨x,l⟩:=p;refine ob e λp e2 e=>?_;obtain⟨m,n⟩:=p;cases e;refine b w h f λ{v o q r s} a r1 s1=>(c a.wf.right s1 e2 λ{t u y z A} g2 r2 s2=>?_);obtain⟨g3,zz,g,i⟩:=jes a g2;exact k ⇑g3 (.cons (r1.frame zz g i) r2) s2
noncomputable def dCB(g:List D->Option D)(fa:FA):FE:=λρ=>(fa ρ).bind λp5=>(g p5.1).bind λz=>some (z,p5.2)
def jmM(c:DC R r g)(f:DA R ta fa):DE R (tCB r ta) (dCB g fa):=by
 intro σ ρ q Z H O d w h e Q k;refine ob e λp i e=>?_;obtain⟨x,s⟩:=p;refine ob e λz e3 e=>?_;cases e;refine f w h i λ{v j l m n} a r1 s1=>(c a.wf.left r1 e3 λ{t Z3 u y} g4 o=>?_);have b:WF j l ([]++m++n):=by simpa using a.wf
 refine k (a.trans<|by simpa using(g4.frame b)) o<|s1.frame g4.zz (g4.zH a.wf.left) (Go.keepA b g4).2
def KN(fa:FA):FE:=dCB (λxs=>bif decide (xs.length<=1000) then some (.tup xs) else none) fa
def jhg(h:n<=1000):n<=sizeLine:=Nat.le_of_lt<|jcv h
def Rep.tupNew(w:WF Z H O)(b:H p=none)(r:Reps R Z H l vs O):Rep R (λa=>Z a\/a=p) (upd H p<|.tup vs) (.tup l) (.ref p) O:=by
 have ne:∀ a,H a≠none->a≠p:=λa h e=>h<|e▸b;exact⟨p,vs,rfl,.inl ⟨.inr rfl,.inl jl⟩,r.frame (λa z=>.inl z) (λa z=>je<|ne a<|w.zd a z) λa h=>je<|ne a<|w.od a h⟩
def Rep.lstNew(w:WF Z H O)(b:H p=none)(r:Reps R Z H l vs O):Rep R Z (upd H p<|.lst vs) (.lst true l) (.ref p) (p::O):=by
 have ne:∀ a,H a≠none->a≠p:=λa h e=>h<|e▸b;exact⟨p,vs,O,rfl,r.frame (λa z=>z) (λa z=>je<|ne a<|w.zd a z) λa h=>je<|ne a<|w.od a h,jl,rfl⟩
def jnX(c:DA R ta fa):DE R (jbh ta) (KN fa):=by
 refine jmM ?_ c;intro Z H f d vs O w r e Q k;dsimp only at e;by_cases a:f.length<=1000
 ·rw[X5 a,cond_true] at e;cases e;exact⟨by rw[r.length];exact jhg a,λp b=>k (Go.newF w b)<|Rep.tupNew w b r⟩
 ·lia
noncomputable def jbk(fa:FE):FT':=λρ=>match fa ρ with
 | some (.bl b,ρ1)=>some (b,ρ1)
 | _=>none
def Rep.bl_of(r:Rep R Z H (.bl b) v O):v=.bl b/\O=[]:=by rw[Rep] at r;exact r
def jip(a:DE R ta fa):DT R (VH ta) (jbk fa):=by
 intro σ ρ g Z H O b w h e Q k;unfold jbk at e;split at e
 ·rename_i c i d;cases e;refine a w h d λ{v j l m n} f r1 s1=>?_;obtain⟨rfl,rfl⟩:=r1.bl_of;exact⟨b,rfl,k f s1⟩
 ·cases e
noncomputable def job(fa fb:FT'):FT':=λρ=>(fa ρ).bind λp8=>bif p8.1 then fb p8.2 else some (false,p8.2)
noncomputable def dOr(fa fb:FT'):FT':=λρ=>(fa ρ).bind λp9=>bif p9.1 then some (true,p9.2) else fb p9.2
def jkZ(d:DT R ta fa)(f:DT R tb fb):DT R (jnh ta tb) (job fa fb):=by
 intro σ ρ i Z H O b w h e Q k;refine ob e λp g e=>?_;obtain⟨c,j⟩:=p;refine d w h g λ{l m n} a s1=>?_;cases c with
 | true=>exact je1<|f a.wf s1 e λ{o q r} g2 s2=>k (a.trans g2) s2
 | false=>cases e;exact jfL<|k a s1
def jpV(d:DT R ta fa)(f:DT R tb fb):DT R (tOr ta tb) (dOr fa fb):=by
 intro σ ρ i Z H O b w h e Q k;refine ob e λp g e=>?_;obtain⟨c,j⟩:=p;refine d w h g λ{l m n} a s1=>?_;cases c with
 | true=>cases e;exact je1<|k a s1
 | false=>exact jfL<|f a.wf s1 e λ{o q r} g2 s2=>k (a.trans g2) s2
def Rep.bl_mk:Rep R Z H (.bl b) (.bl b) []:=by rw[Rep];exact⟨rfl,rfl⟩
def OutOk.pre(g:Go Z H O Z1 H1 O1)(kp:Keep pm σ σ1)(k:OutOk R pm Z H O σ D' o):OutOk R pm Z1 H1 O1 σ1 D' o:=by
 cases o with
 | nx ρ=>exact λg2 s2 a=>k (g.trans g2) s2<|kp.trans a
 | bk ρ=>exact λg2 s2 a=>k (g.trans g2) s2<|kp.trans a
 | ct ρ=>exact λg2 s2 a=>k (g.trans g2) s2<|kp.trans a
 | rt d ρ=>exact λg2 r2 s2 a=>k (g.trans g2) r2 s2<|kp.trans a
@[simp] def jM(ρ:Rh):Option Out:=some<|.nx ρ
noncomputable def jf(f g:FS):FS:=λρ=>match f ρ with
 | some (.nx ρ1)=>g ρ1
 | o=>o
@[simp] def jg7:jf f g ρ=(f ρ).bind λo=>o.thn g:=by
 unfold jf;cases h:f ρ with
 | none=>rfl
 | some o=>cases o<;>rfl
def jiK:DS R pm jh4 jM:=by
 intro σ ρ Z H O o w h e a k;cases e;exact k (Go.refl w) h<|Keep.refl _ _
def jls(c:DS R pm t f)(i:DS R pm u g):DS R pm (jpk t u) (jf f g):=by
 intro σ ρ Z H O o w h e n k;rw[jg7] at e;refine ob e λj l e=>c w h l ?_;cases j with
 | nx a=>exact λ{p q r s} b s1 m=>i b.wf s1 e<|k.pre b m
 | bk a=>cases e;exact k
 | ct a=>cases e;exact k
 | rt d a=>cases e;exact k
@[simp] def sBreak(ρ:Rh):Option Out:=some<|.bk ρ
@[simp] def sCont(ρ:Rh):Option Out:=some<|.ct ρ
@[simp] def Q6(fe:FE)(ρ:Rh):Option Out:=(fe ρ).bind λx=>some<|.nx x.2
def jiW(a:DE R ta fa):DS R pm (YT ta) (Q6 fa):=by
 intro σ ρ Z H O o w h e d k;refine ob e λp b e=>?_;obtain⟨x,f⟩:=p;cases e;exact a w h b λc r1 s1=>k c.dropL s1<|Keep.refl _ _
@[simp] def yd(fe:FE)(ρ:Rh):Option Out:=(fe ρ).bind λx=>some<|.rt x.1 x.2
def jmd(a:DE R ta fa):DS R pm (jov ta) (yd fa):=by
 intro σ ρ Z H O o w h e d k;refine ob e λp b e=>?_;obtain⟨x,f⟩:=p;cases e;exact a w h b λc r1 s1=>k c r1 s1<|Keep.refl _ _
@[simp] def sRetN(ρ:Rh):Option Out:=some<|.rt .non ρ
@[simp] def sIf(ft:FT')(f:FS)(g:FS)(ρ:Rh):Option Out:=(ft ρ).bind λx=>bif x.1 then f x.2 else g x.2
def jlY(b:DT R tt ft)(d:DS R pm t f)(i:DS R pm u g):DS R pm (joa tt t u) (sIf ft f g):=by
 intro σ ρ Z H O o w h e l k;refine ob e λp j e=>?_;obtain⟨c,m⟩:=p;refine b w h j λ{n q r} a s1=>?_;cases c with
 | true=>exact je1<|d a.wf s1 e<|k.pre a<|Keep.refl _ _
 | false=>exact jfL<|i a.wf s1 e<|k.pre a<|Keep.refl _ _
@[simp] def sNever(ρ:Rh):Option Out:=none
@[simp] def jc(pm:List Nat)(i:Nat)(d:D)(ρ:Rh):Option Rh:=bif decide (i<ρ.length)&&!decide (i∈pm) then some (ρ.set i<|some d) else none
def VD:DG R pm (vw i) (jc pm i):=by
 intro σ ρ l Z H O P d v w r h e Q k;unfold jc at e;by_cases hi:i<ρ.length
 ·by_cases g:i∈pm
  ·lia
  ·rw[X5 hi,X6 g] at e;cases e;obtain⟨A,m,B,rfl,n,j,o⟩:=h.put hi;refine k ((Go.refl w).drop (λa q=>?_) ?_) (j r (λ_ z=>z) (λ_ _=>rfl) (λ_ _=>rfl)<|λ_ _=>rfl)<|Keep.set g
   ·simp at q ⊢;rcases q with q | q | q<;>simp[q]
   ·have nd:=w.nd;simp only[X3,N4] at nd ⊢;exact⟨⟨nd.2.1.1.1,nd.1,λa f b c e=>nd.2.2 b c a (.inl<|.inl f) e.symm⟩,nd.2.1.2.1,λa f b c e=>f.elim (λq=>nd.2.1.2.2 a (.inl q) b c e) λq=>nd.2.2 a q b (.inr c) e⟩
 ·lia
@[simp] def jt(fe:FE)(G:D->Rh->Option Rh)(ρ:Rh):Option Out:=(fe ρ).bind λx=>(G x.1 x.2).bind λr=>some<|.nx r
def jaa(b:DE R ta fa)(c:DG R pm tg g):DS R pm (jhw ta tg) (jt fa g):=by
 intro σ ρ Z H O o w h e i k;refine ob e λp d e=>?_;obtain⟨x,j⟩:=p;refine ob e λl e2 e=>?_;cases e;exact b w h d λa r1 s1=>c a.wf r1 s1 e2 λg2 s2 f=>k (Go.trans a g2) s2 f
noncomputable def gN:List D->Rh->Option Rh:=λds ρ=>match ds with
 | []=>some ρ
 | _=>none
noncomputable def gC(g:D->Rh->Option Rh)(gs:List D->Rh->Option Rh):List D->Rh->Option Rh:=λds ρ=>match ds with
 | []=>none
 | d::r=>(g d ρ).bind λρ1=>gs r ρ1
noncomputable def gT(n:Nat)(gs:List D->Rh->Option Rh):D->Rh->Option Rh:=λd ρ=>match d with
 | .tup l=>bif decide (l.length=n) then gs l ρ else none
 | _=>none
abbrev PTf:=Rh->Option Bool
abbrev PAf:=Rh->Option (List D)
mutual
theorem Rep.dom:∀{d:D}{v:V}{O:W5},Rep R Z H d v O->∀ a∈O,H a≠none
 | .non,_,_,h,a,ha=>by rw[Rep] at h;rw[h.2] at ha;cases ha
 | .bl _,_,_,h,a,ha=>by rw[Rep] at h;rw[h.2] at ha;cases ha
 | .int _,_,_,h,a,ha=>by rw[Rep] at h;rw[h.2] at ha;cases ha
 | .str _,_,_,h,a,ha=>by rw[Rep] at h;rw[h.2] at ha;cases ha
 | .dead,_,_,h,a,ha=>by rw[Rep] at h;rw[h] at ha;cases ha
 | .tok _,_,_,h,a,ha=>by rw[Rep] at h;rw[h.2] at ha;cases ha
 | .kt _,_,_,h,a,ha=>by rw[Rep] at h;obtain⟨_,_,_,_,h⟩:=h;rw[h] at ha;cases ha
 | .exc _ _,_,_,h,a,ha=>by rw[Rep] at h;obtain⟨_,_,_,_,_,_,_,h⟩:=h;rw[h] at ha;cases ha
 | .tup l,_,_,h,a,ha=>by
  rw[Rep] at h;obtain⟨b,vs,e,t,r⟩:=h;exact Reps.dom r a ha
 | .lst o l,_,_,h,a,ha=>by
  rw[Rep] at h;obtain⟨b,vs,O',e,r,h⟩:=h;cases o with
  | true=>
   obtain⟨h1,rfl⟩:=h;rcases M5.mp ha with e | e
   ·rw[e,h1];exact λz=>(nomatch z)
   ·exact Reps.dom r a e
  | false=>rw[h.2.2] at ha;cases ha
 | .dK o ks l,_,_,h,a,ha=>by
  rw[Rep] at h;obtain⟨b,vs,O',e,r,hl,hd,h⟩:=h;cases o with
  | true=>
   have h:=(show _=_ from h);subst h;rcases M5.mp ha with e | e
   ·rw[e,hd];exact λz=>(nomatch z)
   ·exact Reps.dom r a e
  | false=>rw[h.2.2] at ha;cases ha
 | .dT o ks l,_,_,h,a,ha=>by
  rw[Rep] at h;obtain⟨b,vs,O',e,r,hl,hd,h⟩:=h;cases o with
  | true=>
   have h:=(show _=_ from h);subst h;rcases M5.mp ha with e | e
   ·rw[e,hd];exact λz=>(nomatch z)
   ·exact Reps.dom r a e
  | false=>rw[h.2.2] at ha;cases ha
 | .ins o c ns l,_,_,h,a,ha=>by
  rw[Rep] at h;obtain⟨b,dx,vs,O',e,r,hl,hd,h⟩:=h;cases o with
  | true=>
   have h:=(show _=_ from h);subst h;rcases M5.mp ha with e | e
   ·rw[e,hd];exact λz=>(nomatch z)
   ·exact Reps.dom r a e
  | false=>rw[h.2.2] at ha;cases ha
theorem Reps.dom:∀{l:List D}{vs:List V}{O:W5},Reps R Z H l vs O->∀ a∈O,H a≠none
 | [],_,_,h,a,ha=>by rw[Reps] at h;rw[h.2] at ha;cases ha
 | d::l,_,_,h,a,ha=>by
  rw[Reps] at h;obtain⟨v,vs,O1,O2,e,rfl,r1,r2⟩:=h;rcases N4.mp ha with q | q
  ·exact Rep.dom r1 a q
  ·exact Reps.dom r2 a q
end
theorem Slots.dom:∀{ρ}{σ}{O},Slots R Z H ρ σ O->∀ a∈O,H a≠none
 | [],_,_,h,a,b=>by rw[h.2] at b;cases b
 | none::ρ,_,_,h,a,b=>by obtain⟨s,c,rfl,r⟩:=h;exact Slots.dom r a b
 | some d::ρ,_,_,h,a,b=>by
  obtain⟨v,c,e,f,rfl,rfl,r1,r2⟩:=h;rcases N4.mp b with q | q
  ·exact r1.dom a q
  ·exact Slots.dom r2 a q
abbrev Zd(Z:Zn)(H:Hp):Prop:=∀ a,Z a->H a≠none
def wf0(z:Zd Z H):WF Z H []:=⟨List.nodup_nil,λa h=>(nomatch h),λa h=>(nomatch h),z⟩
def Go.id(z:Zd Z H):Go Z H [] Z H []:=Go.refl<|wf0 z
def Go.same(g:Go Z H [] Z' H' P):∀ a,H a≠none->H' a=H a:=λa h=>g.fr a h<|λz=>(nomatch z)
def Go.rep(z:Zd Z H)(g:Go Z H [] Z' H' P)(r:Rep R Z H d v O):Rep R Z' H' d v O:=r.frame g.zz (λa h=>g.same a<|z a h) λa h=>g.same a<|r.dom a h
def Go.reps(z:Zd Z H)(g:Go Z H [] Z' H' P)(r:Reps R Z H l vs O):Reps R Z' H' l vs O:=r.frame g.zz (λa h=>g.same a<|z a h) λa h=>g.same a<|r.dom a h
def Go.slots(z:Zd Z H)(g:Go Z H [] Z' H' P)(r:Slots R Z H ρ σ O):Slots R Z' H' ρ σ O:=r.frame g.zz (λa h=>g.same a<|z a h) λa h=>g.same a<|r.dom a h
def Go.pair(g:Go Z H [] Z' H' P)(k:Go Z' H' [] Z'' H'' P2):Go Z H [] Z'' H'' (P++P2):=by
 have w:WF Z' H' (P++[]++[]):=by simpa using g.wf
 exact g.trans (by simpa using(k.frame w))
def Go.to0(g:Go Z H O Z' H' P):Go Z H O Z' H' []:=g.drop (λa h=>(nomatch h)) List.nodup_nil
def Go.widen(w:WF Z H O)(g:Go Z H [] Z' H' P):Go Z H O Z' H' (P++O):=by
 simpa using(g.frame (A:=[]) ⇑w)
def PP(R:RC)(te:TE)(p:PF):Prop:=∀{σ}{ρ}{Z}{H}{O}{d},Zd Z H->Slots R Z H ρ σ O->p ρ=some d ->
 ∀{Q},(∀{v}{Z'}{H'}{P},Go Z H [] Z' H' P->Rep R Z' H' d v P->Q v H')->te σ H Q
def PB(R:RC)(te:TE)(p:PF):Prop:=∀{σ}{ρ}{Z}{H}{O}{d},Zd Z H->Slots R Z H ρ σ O->p ρ=some d ->
 ∀{Q},(∀{v}{Z'}{H'}{P},Go Z H [] Z' H' []->Rep R Z' H' d v P->Q v H')->te σ H Q
def PPs(R:RC)(ta:TA)(p:PAf):Prop:=∀{σ}{ρ}{Z}{H}{O}{ds},Zd Z H->Slots R Z H ρ σ O->p ρ=some ds ->
 ∀{Q:List V->Hp->Prop},(∀{vs}{Z'}{H'}{P},Go Z H [] Z' H' P->Reps R Z' H' ds vs P->Q vs H')->ta σ H Q
def PBs(R:RC)(ta:TA)(p:PAf):Prop:=∀{σ}{ρ}{Z}{H}{O}{ds},Zd Z H->Slots R Z H ρ σ O->p ρ=some ds ->
 ∀{Q:List V->Hp->Prop},(∀{vs}{Z'}{H'}{P},Go Z H [] Z' H' []->Reps R Z' H' ds vs P->Q vs H')->ta σ H Q
def PTt(R:RC)(tt:TT)(p:PTf):Prop:=∀{σ}{ρ}{Z}{H}{O}{b},Zd Z H->Slots R Z H ρ σ O->p ρ=some b ->
 ∀{Q:Bool->Hp->Prop},(∀{Z'}{H'},Go Z H [] Z' H' []->Q b H')->tt σ H Q
def PP.b(h:PP R te p):PB R te p:=λz s e _ k=>h z s e λg r=>k g.to0 r
def PPs.b(h:PPs R te p):PBs R te p:=λz s e _ k=>h z s e λg r=>k g.to0 r
@[simp] def pF(pa:PF)(ρ:Rh):Option D:=(pa ρ).bind λd=>bif frz d then some d else none
def PB.f(h:PB R te p):PP R te (pF p):=by
 intro σ ρ Z H O d z s e Q k;refine ob e λc a e=>oc e λb e=>?_;cases e;exact h z s a λg r=>by
  cases r.nil b;exact k g r
@[simp] def dP(pa:PF)(ρ:Rh):Option (D×Rh):=(pa ρ).bind λd=>some (d,ρ)
@[simp] def dPT(q:PTf)(ρ:Rh):Option (Bool×Rh):=(q ρ).bind λd=>some (d,ρ)
theorem PP.d(h:PP R te p):DE R te (dP p):=by
 intro σ ρ b Z H O d w s e Q k;refine ob e λc a e=>?_;cases e;exact h w.zd s a λg r=>k (g.widen w) r<|g.slots w.zd s
theorem PTt.d(h:PTt R te p):DT R te (dPT p):=by
 intro σ ρ b Z H O d w s e Q k;refine ob e λc a e=>?_;cases e;exact h w.zd s a λg=>k ⇑(g.widen w) (g.slots w.zd s)
@[simp] def pC(d:D)(ρ:Rh):Option D:=some d
abbrev pI(i:Int):PF:=pC<|.int i
abbrev pS(l:List Nat):PF:=pC<|.str l
def jhp:PB R (yf i) (pV i):=by
 intro σ ρ Z H O d z s e Q k;unfold pV at e;split at e
 ·rename_i c a;cases e;obtain⟨A,P,B,rfl,b,_⟩:=s.put (L9.mp a).1;obtain⟨v,f,r⟩:=b d a;exact⟨v,f,k (Go.id z) r⟩
 ·cases e
def jnw(a:∀ Z H,Rep R Z H d v []):PP R (tC v) (pC d):=by
 intro σ ρ Z H O b z s e Q k;cases e;exact k (Go.id z)<|a Z H
def Rep.int_mk:Rep R Z H (.int i) (.int i) []:=by rw[Rep];exact⟨rfl,rfl⟩
def Rep.str_mk:Rep R Z H (.str s) (.str<|S s) []:=by rw[Rep];exact⟨rfl,rfl⟩
def Rep.non_mk:Rep R Z H .non .non []:=by rw[Rep];exact⟨rfl,rfl⟩
def Rep.int_of(r:Rep R Z H (.int i) v O):v=.int i/\O=[]:=by rw[Rep] at r;exact r
def Rep.str_of(r:Rep R Z H (.str s) v O):v=.str (S s)/\O=[]:=by rw[Rep] at r;exact r
def Rep.non_of(r:Rep R Z H .non v O):v=.non/\O=[]:=by rw[Rep] at r;exact r
def BO(R:RC)(r:R2)(g:D->D->Option D):Prop:=∀{Z}{H}{x y d}{v u}{O1 O2},Zd Z H->Rep R Z H x v O1->Rep R Z H y u O2->g x y=some d ->
 ∀{Q},(∀{w}{Z'}{H'}{P},Go Z H [] Z' H' P->Rep R Z' H' d w P->Q w H')->r v u H Q
def BO'(R:RC)(r:R2)(g:D->D->Option D):Prop:=∀{Z}{H}{x y d}{v u}{O1 O2},Zd Z H->Rep R Z H x v O1->Rep R Z H y u O2->g x y=some d ->
 ∀{Q},(∀{w}{P},Rep R Z H d w P->Q w H)->r v u H Q
def BU(R:RC)(r:V->Hp->VK->Prop)(g:D->Option D):Prop:=∀{Z}{H}{x d}{v}{O},Zd Z H->Rep R Z H x v O->g x=some d ->
 ∀{Q},(∀{w}{Z'}{H'}{P},Go Z H [] Z' H' P->Rep R Z' H' d w P->Q w H')->r v H Q
def BC(R:RC)(r:List V->Hp->VK->Prop)(g:List D->Option D):Prop:=∀{Z}{H}{xs}{d}{vs}{O},Zd Z H->Reps R Z H xs vs O->g xs=some d ->
 ∀{Q},(∀{w}{Z'}{H'}{P},Go Z H [] Z' H' P->Rep R Z' H' d w P->Q w H')->r vs H Q
@[simp] def p2(G:D->D->Option D)(pa:PF)(pb:PF)(ρ:Rh):Option D:=(pa ρ).bind λx=>(pb ρ).bind λy=>G x y
@[simp] def p1(G:D->Option D)(pa:PF)(ρ:Rh):Option D:=(pa ρ).bind G
def QC(b:BO R r g)(c:PB R ta pa)(f:PB R tb pb):PP R (tOp r ta tb) (p2 g pa pb):=by
 intro σ ρ Z H O d z s e Q k;exact ob e λx h e=>ob e λy e2 e=>(c z s h λ{v j l m} a r1=>(f a.wf.zd (a.slots z s) e2 λ{u n o p} g2 r2=>(b g2.wf.zd (g2.rep a.wf.zd r1) r2 e λg3 i=>k ((a.pair g2).pair g3) i)))
def jox(b:BO' R r g)(c:PB R ta pa)(f:PB R tb pb):PB R (tOp r ta tb) (p2 g pa pb):=by
 intro σ ρ Z H O d z s e Q k;exact ob e λx h e=>ob e λy e2 e=>(c z s h λ{v i j l} a r1=>(f a.wf.zd (a.slots z s) e2 λ{u m n o} g2 r2=>(b g2.wf.zd (g2.rep a.wf.zd r1) r2 e<|k<|a.pair g2)))
def jpS(b:BU R r g)(c:PB R ta pa):PP R (tUn r ta) (p1 g pa):=by
 intro σ ρ Z H O d z s e Q k;exact ob e λx f e=>(c z s f λ{v i j l} a r1=>b a.wf.zd r1 e λg3 h=>k ⇑(a.pair g3) h)
@[simp] def pN(ρ:Rh):Option (List D):=some []
@[simp] def ja(pa:PF)(p:PAf)(ρ:Rh):Option (List D):=(pa ρ).bind λx=>(p ρ).bind λxs=>some<|x::xs
def pps_nil:PPs R Yw pN:=by
 intro σ ρ Z H O d z s e Q k;cases e;exact k (Go.id z) Reps.empty
def jgf(b:PP R ta pa)(c:PPs R tr pr):PPs R (jW ta tr) (ja pa pr):=by
 intro σ ρ Z H O d z s e Q k;refine ob e λx f e=>ob e λg e2 e=>?_;cases e;exact b z s f λ{v h i j} a r1=>(c a.wf.zd (a.slots z s) e2 λ{u l m n} g2 r2=>(k (a.pair g2)<|.cons (g2.rep a.wf.zd r1) r2))
def jen:PBs R Yw pN:=pps_nil.b
def jgM(b:PB R ta pa)(c:PBs R tr pr):PBs R (jW ta tr) (ja pa pr):=by
 intro σ ρ Z H O d z s e Q k;refine ob e λx f e=>ob e λg e2 e=>?_;cases e;exact b z s f λ{v h i j} a r1=>(c a.wf.zd (a.slots z s) e2 λ{u l m n} g2 r2=>(k (a.pair g2)<|.cons (g2.rep a.wf.zd r1) r2))
@[simp] def pCB(G:List D->Option D)(p:PAf)(ρ:Rh):Option D:=(p ρ).bind G
def jkb(b:BC R r g)(c:PBs R ta pa):PP R (tCB r ta) (pCB g pa):=by
 intro σ ρ Z H O d z s e Q k;exact ob e λx f e=>(c z s f λ{v i j l} a r1=>b a.wf.zd r1 e λg3 h=>k ⇑(a.pair g3) h)
noncomputable def lim(n:Nat):Bool:=decide<|n<=100000
def Jr(h:lim n=true):n<=sizeLine:=N9 (X7 h) (by decide)
def Vh(h:lim n=true):n<sizeLine:=E4 (X7 h) (by decide)
@[simp] def yD(p:PAf)(ρ:Rh):Option D:=(p ρ).bind λxs=>bif lim xs.length then some (.tup xs) else none
@[simp] def YE(p:PAf)(ρ:Rh):Option D:=(p ρ).bind λxs=>bif lim xs.length then some (.lst true xs) else none
def jmA(c:PPs R ta pa):PP R (jbh ta) (yD pa):=by
 intro σ ρ Z H O d z s e Q k;refine ob e λh f e=>oc e λg e=>?_;cases e;exact c z s f λ{v i j l} a r1=>⟨by rw[r1.length];exact Jr g,λp b=>k (a.trans<|Go.newF a.wf b)<|Rep.tupNew a.wf b r1⟩
def jl1(c:PPs R ta pa):PP R (joR ta) (YE pa):=by
 intro σ ρ Z H O d z s e Q k;refine ob e λh f e=>oc e λg e=>?_;cases e;exact c z s f λ{v i j l} a r1=>⟨by rw[r1.length];exact Jr g,λp b=>k (a.trans<|Go.newO a.wf b)<|Rep.lstNew a.wf b r1⟩
@[simp] def jj(pa:PF)(ρ:Rh):Option Bool:=(pa ρ).bind jbR
@[simp] def u9(q:PTf)(q':PTf)(ρ:Rh):Option Bool:=(q ρ).bind λb=>bif b then q' ρ else some false
@[simp] def qOr(q:PTf)(q':PTf)(ρ:Rh):Option Bool:=(q ρ).bind λb=>bif b then some true else q' ρ
@[simp] def jkS(q:PTf)(ρ:Rh):Option Bool:=(q ρ).bind λb=>some<|!b
def jcH(a:PB R ta pa):PTt R (VH ta) (jj pa):=by
 intro σ ρ Z H O b z s e Q k;refine ob e λx c e=>?_;cases Qw e;refine a z s c λ{v f g h} d r1=>?_;obtain⟨rfl,rfl⟩:=r1.bl_of;exact⟨b,rfl,k d⟩
def jlB(d:PTt R ta pa)(f:PTt R tb pb):PTt R (jnh ta tb) (u9 pa pb):=by
 intro σ ρ Z H O b z s e Q k;refine ob e λc g e=>(d z s g λ{h i} a=>?_);cases c with
 | true=>exact je1<|f a.wf.zd (a.slots z s) e λg2=>k<|a.pair g2
 | false=>cases e;exact jfL<|k a
def jpW(d:PTt R ta pa)(f:PTt R tb pb):PTt R (tOr ta tb) (qOr pa pb):=by
 intro σ ρ Z H O b z s e Q k;refine ob e λc g e=>(d z s g λ{h i} a=>?_);cases c with
 | true=>cases e;exact je1<|k a
 | false=>exact jfL<|f a.wf.zd (a.slots z s) e λg2=>k<|a.pair g2
def jiN(a:PTt R ta pa):PTt R (joD ta) (jkS pa):=by
 intro σ ρ Z H O b z s e Q k;refine ob e λc d e=>?_;cases e;exact a z s d λ{g h} f=>k f
@[simp] def jkG(pa:PF)(pb:PF)(ρ:Rh):Option D:=(pa ρ).bind λd=>(jbR d).bind λb=>bif b then pb ρ else some (.bl false)
@[simp] def pOr(pa:PF)(pb:PF)(ρ:Rh):Option D:=(pa ρ).bind λd=>(jbR d).bind λb=>bif b then some (.bl true) else pb ρ
@[simp] def jo9(pa:PF)(ρ:Rh):Option D:=(pa ρ).bind λd=>(jbR d).bind λb=>some<|.bl<|!b
def jmL(b:PB R ta pa)(f:PP R tb pb):PP R (jh8 ta tb) (jkG pa pb):=by
 intro σ ρ Z H O d z s e Q k;refine ob e λx g e=>ob e λc e2 e=>?_;cases Qw e2;refine b z s g λ{v h i j} a r1=>?_;obtain⟨rfl,rfl⟩:=r1.bl_of;refine⟨c,rfl,?_⟩;cases c with
 | true=>exact je1<|f a.wf.zd (a.slots z s) e λg2 r2=>k ⇑(a.pair g2) r2
 | false=>cases e;exact jfL<|k a .bl_mk
def jni(a:PB R ta pa):PP R (jh7 ta) (jo9 pa):=by
 intro σ ρ Z H O d z s e Q k;refine ob e λx b e=>ob e λc e2 e=>?_;cases Qw e2;cases e;refine a z s b λ{v g h i} f r1=>?_;obtain⟨rfl,rfl⟩:=r1.bl_of;exact⟨c,rfl,k f .bl_mk⟩
@[simp] def pIf(q:PTf)(pa:PF)(pb:PF)(ρ:Rh):Option D:=(q ρ).bind λb=>bif b then pa ρ else pb ρ
def jo0(b:PTt R tt pt)(f:PP R ta pa)(g:PP R tb pb):PP R (tIf tt ta tb) (pIf pt pa pb):=by
 intro σ ρ Z H O d z s e Q k;refine ob e λc h e=>(b z s h λ{i j} a=>?_);cases c with
 | true=>exact je1<|f a.wf.zd (a.slots z s) e λg2 r2=>k ⇑(a.pair g2) r2
 | false=>exact jfL<|g a.wf.zd (a.slots z s) e λg2 r2=>k ⇑(a.pair g2) r2
@[simp] def pChain(G:D->D->Option D)(G':D->D->Option D)(pa:PF)(pb:PF)(pc:PF)(ρ:Rh):Option D:=(pa ρ).bind λx=>(pb ρ).bind λy=>(G x y).bind λd=>(jbR d).bind λb=>bif b then((pc ρ).bind λw=>G' y w) else some (.bl false)
def jhW(R:RC)(J:It)(Z:Zn)(H:Hp)(xs:List D):Prop:=∀{Z1}{H1},(∀ a,Z a->Z1 a)->(∀ a,Z a->H1 a=H a)->Zd Z1 H1->∀ i:Nat,
 (xs.length<=i->J.stop i H1)/\∀ x,xs[i]?=some x->J.go i H1/\∀ u H2,J.yld i H1 u H2->∃ Z2,Go Z1 H1 [] Z2 H2 []/\Rep R Z2 H2 x u []
def PIt(R:RC)(wi:TI)(p:PAf):Prop:=∀{σ}{ρ}{Z}{H}{O}{xs},Zd Z H->Slots R Z H ρ σ O->p ρ=some xs ->
 ∀{Q:It->Hp->Prop},(∀{J}{Z'}{H'},Go Z H [] Z' H' []->jhW R J Z' H' xs->Q J H')->wi σ H Q
def jkU(K:W4)(tl:TE):TI:=λσ H Q=>tl σ H λx H1=>
 (∃ a,x=.ref a/\(∃ xs,SqL K H1 a xs)/\Q (Itl K a) H1)\/(∃ a,x=.ref a/\(∃ xs,SqT K H1 a xs)/\Q (Itt K a) H1) \/ ∃ l,x=.str (S l)/\Q (Its l) H1
def jhA(z:PE X l tl):PI X tg l (jkU X.K tl):=by
 intro c s σ H Q I h;have m:∀ v s1,EP X c σ (λx f=>(∃ a,x=.ref a/\(∃ g,SqL X.K f a g)/\Q (Itl X.K a) f)\/(∃ a,x=.ref a/\(∃ g,SqT X.K f a g)/\Q (Itt X.K a) f) \/ ∃ l,x=.str (S l)/\Q (Its l) f) v s1->wpAny (model X.prog X.w) X.A (pyIter v) (PIE X c σ tg Q) X.xe s1:=by
  rintro v s1 ⟨x,f,d,r1,B⟩;rcases B with⟨a,rfl,⟨g,n⟩,q⟩ | ⟨a,rfl,⟨g,n⟩,q⟩ | ⟨l,rfl,q⟩
  ·cases r1;obtain⟨r,C,p,D⟩:=d.list n;refine wpAny_pyIter_list p.isList ⟨↥s1,[↥s1],_,_,f,rfl,d.kept λb o e=>L8 _ e,jdW a _,⟨_,E3 _ rfl,rfl,rfl⟩,λb j=>?_,q⟩;have e:b=↥s1:=by simpa using j
   subst e;exact d.fpOk (N1 _)<|d.hok.fresh<|N1 _
  ·cases r1;obtain⟨r,C,p,D⟩:=d.tuple n;refine wpAny_pyIter_tuple (p) ⟨↥s1,[↥s1],_,_,f,rfl,d.kept λb o e=>L8 _ e,jbm a _,⟨_,E3 _ rfl,rfl,rfl⟩,λb j=>?_,q⟩;have e:b=↥s1:=by simpa using j
   subst e;exact d.fpOk (N1 _)<|d.hok.fresh<|N1 _
  ·obtain⟨t,rfl⟩:=r1;have k:∀ ty,(ty = "str_ascii_iterator" \/ ty = "str_iterator")->(∀ A:Around,A.handled=none->Walks X.prog X.w A ↥s1 [↥s1] [↥s1] (S l).cps.size (SignAt<|S l) (λi h=>h.IsStrIter ↥s1 ty (S l) t i)) ->
     PIE X c σ tg Q (.ref ↥s1) { s1 with heap:=s1.heap.push {cls:=.type ty,data:=.fields #[.str (S l) t,.int 0 0]} }:=λty u W=>by
    refine⟨↥s1,[↥s1],_,_,f,rfl,d.kept λb o e=>L8 _ e,jf6 _ l t ty u W,⟨_,E3 _ rfl,rfl,rfl⟩,λb j=>?_,q⟩;have e:b=↥s1:=by simpa using j
    subst e;exact d.fpOk (N1 _)<|d.hok.fresh<|N1 _
   cases ha:(S l).cps.all (· < 128)
   ·exact wpAny_pyIter_wide ha<|k _ (.inr rfl) λE y=>Walks.strWide y _ (S l) t
   ·exact wpAny_pyIter_ascii ha<|k _ (.inl rfl) λE y=>Walks.strAscii y _ (S l) t
 exact thn (z c s σ H _ I h) m
def Qf:D->Option (List D)
 | .lst _ l=>some<|fzs l
 | .tup l=>some<|fzs l
 | .str s=>some<|s.map λc=>.str [c]
 | _=>none
@[simp] def pIt(pa:PF)(ρ:Rh):Option (List D):=(pa ρ).bind Qf
def jnz(h:FL R Z H a vs)(r:Reps R Z H l vs []):jhW R (Itl R.K a) Z H l:=by
 intro j o d f zd i;have b:=(h.frame d f).sq;refine⟨λhi=>⟨vs,b,by rw[r.length];exact hi⟩,λx k=>?_⟩;obtain⟨v,g,m⟩:=(r.frame d f λa n=>(nomatch n)).item k;refine⟨⟨vs,v,b,g⟩,λu p c=>?_⟩;obtain⟨rfl,c⟩:=c;have e:=c vs b;rw[g] at e;cases e;exact⟨j,Go.id zd,m⟩
def jnv(h:FT R Z H a vs)(r:Reps R Z H l vs []):jhW R (Itt R.K a) Z H l:=by
 intro j o d f zd i;have b:=(h.frame d f).sq;refine⟨λhi=>⟨vs,b,by rw[r.length];exact hi⟩,λx k=>?_⟩;obtain⟨v,g,m⟩:=(r.frame d f λa n=>(nomatch n)).item k;refine⟨⟨vs,v,b,g⟩,λu p c=>?_⟩;obtain⟨rfl,c⟩:=c;have e:=c vs b;rw[g] at e;cases e;exact⟨j,Go.id zd,m⟩
def jg9:jhW R (Its s) Z H (s.map λc=>.str [c]):=by
 intro d g h j zd i;refine⟨λhi=>by show s.length<=i;simpa using hi,λx a=>?_⟩;rw[List.getElem?_map] at a;cases e:s[i]? with
 | none=>rw[e] at a;cases a
 | some c=>
  rw[e] at a;cases a;refine⟨(L9.mp e).1,λu k f=>?_⟩;obtain⟨rfl,l,b,rfl⟩:=f;rw[e] at b;cases b;exact⟨d,Go.id zd,.str_mk⟩
def Go.fz(g:Go Z H [] Z' H' P):Go Z H [] (λa=>Z' a\/a∈P) H' []:=g.trans<|Go.freeze g.wf
def jpf(h:PP R te p):PIt R (jkU R.K te) (pIt p):=by
 intro σ ρ Z H O m z s e Q k;refine ob e λd g e=>(h z s g λ{v i n j} c r1=>?_);have r2:=r1.freeze (Z':=λa=>i a\/a∈j) (λa z=>.inl z) λa z=>.inr z;cases d with
 | lst o l=>
  cases e;obtain⟨a,vs,q,rfl,f,b,rfl,_⟩:=r2;exact .inl ⟨a,rfl,⟨vs,FL.sq b⟩,k c.fz<|jnz b f⟩
 | tup l=>
  cases e;obtain⟨a,vs,rfl,b,f⟩:=r2;exact .inr<|.inl ⟨a,rfl,⟨vs,FT.sq b⟩,k c.fz<|jnv b f⟩
 | str t=>
  cases e;obtain⟨rfl,rfl⟩:=r1.str_of;exact .inr<|.inr ⟨t,rfl,k c jg9⟩
 | _=>cases e
noncomputable def qe(lo:Int)(n:Nat):List D:=(List.range n).map λ(i:Nat)=>D.int<|lo+(i:Int)
def jho:jhW R (Itr lo n) Z H (qe lo n):=by
 intro b d e f zd i;refine⟨λhi=>by show n<=i;simpa [qe] using hi,λx a=>?_⟩;unfold qe at a;rw[List.getElem?_map] at a;by_cases hi:i<n
 ·rw[List.getElem?_range hi] at a;cases a;refine⟨hi,λu g c=>?_⟩;obtain⟨rfl,rfl⟩:=c;exact⟨b,Go.id zd,.int_mk⟩
 ·rw[List.getElem?_eq_none ⇑hi] at a;cases a
noncomputable def Kt(i:Int):Bool:=Nat.ble i.natAbs 4611686018427387903
def qE(h:Kt i=true):-(2 ^ 62)<=i/\i<2 ^ 62:=by
 have h:=Nat.le_of_ble_eq_true h;constructor<;>lia
def Km(l:List D):Option (List D):=(je2 l).bind λx=>(vv x).bind λj=>bif Kt j then some (qe 0 j.toNat) else none
@[simp] def kI(p:PAf)(ρ:Rh):Option (List D):=(p ρ).bind Km
def Reps.one_of(r:Reps R Z H [d] vs O):∃ v,vs=[v]/\Rep R Z H d v O:=by
 obtain⟨v,a,b,c,rfl,rfl,r1,r2⟩:=r;obtain⟨rfl,rfl⟩:=r2;exact⟨v,rfl,by simpa using r1⟩
def Reps.two_of(r:Reps R Z H [d,e] vs O):Ex4 λv u O1 O2=>An4 (vs=[v,u]) (O=O1++O2) (Rep R Z H d v O1) (Rep R Z H e u O2):=by
 obtain⟨v,a,O1,O2,rfl,rfl,r1,r2⟩:=r;obtain⟨u,rfl,b⟩:=r2.one_of;exact⟨v,u,O1,O2,rfl,rfl,r1,b⟩
def jky(h:PBs R ta p):PIt R (jeQ ta) (kI p):=by
 intro σ ρ Z H O d z s e Q k;refine ob e λl b e=>ob e λx e2 e=>ob e λj e3 e=>oc e λa e=>?_;cases e;cases kE e2;cases jK e3;refine h z s b λ{v f g i} c r1=>?_;obtain⟨u,rfl,r2⟩:=r1.one_of;obtain⟨rfl,_⟩:=r2.int_of;exact⟨j,rfl,(qE a).1,(qE a).2,k c jho⟩
def PGt(R:RC)(pm:List Nat)(tg:TG)(f:D->Rh->Option Rh):Prop:=∀{σ}{ρ ρ'}{Z}{H}{O}{d}{v},Rep R Z H d v []->Slots R Z H ρ σ O->f d ρ=some ρ' ->
 ∀{Q:St->Hp->Prop},(∀{σ'}{O'},(∀ a∈O',a∈O)->(O.Nodup->O'.Nodup)->Slots R Z H ρ' σ' O'->Keep pm σ σ'->Q σ' H)->tg v σ H Q
def jmq(R:RC)(pm:List Nat)(tg:TGs)(f:List D->Rh->Option Rh):Prop:=∀{σ}{ρ ρ'}{Z}{H}{O}{ds}{vs},Reps R Z H ds vs []->Slots R Z H ρ σ O->f ds ρ=some ρ' ->
 ∀{Q:St->Hp->Prop},(∀{σ'}{O'},(∀ a∈O',a∈O)->(O.Nodup->O'.Nodup)->Slots R Z H ρ' σ' O'->Keep pm σ σ'->Q σ' H)->tg vs σ H Q
def jgA:PGt R pm (vw i) (jc pm i):=by
 intro σ ρ f Z H O d v r h e Q k;unfold jc at e;by_cases hi:i<ρ.length
 ·by_cases b:i∈pm
  ·lia
  ·rw[X5 hi,X6 b] at e;cases e;obtain⟨A,g,B,rfl,j,c,l⟩:=h.put hi;refine k (λa q=>?_) (λnd=>?_) (c r (λ_ z=>z) (λ_ _=>rfl) (λ_ _=>rfl)<|λ_ _=>rfl)<|Keep.set b
   ·simp at q ⊢;rcases q with q | q<;>simp[q]
   ·grind
 ·lia
def jfC:jmq R pm jdv gN:=by
 intro σ ρ c Z H O b vs r h e Q k;cases b with
 | cons _ _=>cases e
 | nil=>
  cases e;obtain⟨rfl,_⟩:=r;exact⟨rfl,k (λa h=>h) (λh=>h) h<|Keep.refl _ _⟩
def jdh(f:PGt R pm t g)(i:jmq R pm u gs):jmq R pm (k8 t u) (gC g gs):=by
 intro σ ρ w Z H O c vs r h e Q k;cases c with
 | nil=>cases e
 | cons d c=>
  refine ob e λx j e=>?_;obtain⟨v,b,y,z,rfl,e3,r1,r2⟩:=r;obtain⟨rfl,rfl⟩:=List.append_eq_nil_iff.mp e3.symm;exact⟨v,b,rfl,f r1 h j λs1 l m n=>i r2 m e λs2 o p s=>k (λa q=>s1 a<|s2 a q) (λq=>o<|l q) p<|n.trans s⟩
def jkr(f:jmq R pm u gs):PGt R pm (jbS R.K n u) (gT n gs):=by
 intro σ ρ i Z H O d v r h e Q k;cases d with
 | tup l=>
  unfold gT at e;dsimp only at e;by_cases b:l.length=n
  ·rw[X5 b,cond_true] at e;obtain⟨a,vs,rfl,g,c⟩:=r;exact⟨a,vs,rfl,g.sq,by rw[c.length];exact b,f c h e k⟩
  ·lia
 | _=>cases e
noncomputable def j8(g:D->Rh->Option Rh)(f:FS):List D->FS
 | [],ρ=>some<|.nx ρ
 | x::xs,ρ=>(g x ρ).bind λr=>(f r).bind λo=>o.loop<|j8 g f xs
@[simp] def qC(p:PAf)(G:D->Rh->Option Rh)(f:FS)(ρ:Rh):Option Out:=(p ρ).bind λxs=>j8 G f xs ρ
def qJ{l:List α}{i}(h:l[i]?=some x):l.drop i=x::l.drop (i+1):=by
 obtain⟨hi,rfl⟩:=L9.mp h;exact List.drop_eq_getElem_cons hi
inductive LpF (R:RC) (pm:List Nat) (g:D->Rh->Option Rh) (f:FS) (σ:L2.St) (Z0:Zn) (H0:Hp) (O:W5) (xs:List D) (o:Out) (i m:Nat) (σ':L2.St) (H':Hp):Prop
 | mk:m=xs.length-i->i<=xs.length->∀(ρ':Rh) (Z':Zn) (O':W5),Go Z0 H0 O Z' H' O'->Slots R Z' H' ρ' σ' O'->Keep pm σ σ'->j8 g f (xs.drop i) ρ'=some o->LpF R pm g f σ Z0 H0 O xs o i m σ' H'
def jnf(hi:PIt R wi p)(M:PGt R pm tg g)(N:DS R pm tb f):DS R pm (jk6 wi tg tb) (qC p g f):=by
 intro σ ρ Z H O o w s e D' k;refine ob e λc P e=>(hi w.zd s P λ{J y B} I Q=>?_);have a:Go Z H O y B O:=by simpa using I.widen w
 refine⟨LpF R pm g f σ y B O c o,
  ⟨c.length,rfl,U7 _,ρ,y,O,Go.refl a.wf,I.slots w.zd s,Keep.refl _ _,e⟩,?_⟩
 rintro i m σ' S ⟨rfl,T,ρ',U,K,h,s1,kp,e2⟩;have r:=Q h.zz (h.zH a.wf) h.wf.zd i;by_cases C:i<c.length
 ·right
  have L:c[i]?=some c[i]:=by simp
  obtain⟨go,V⟩:=r.2 _ L;rw[qJ L] at e2;refine ob e2 λρ1 e3 e2=>ob e2 λW X e2=>⟨go,λD n=>∃ b q z,Go y B O q n z/\Slots R q n b D z/\Keep pm σ D/\j8 g f (c.drop<|i+1) b=some o,λD n ⟨b,q,z,Y,a2,a3,a4⟩=>⟨c.length-(i+1),by lia,rfl,C,b,q,z,Y,a2,a3,a4⟩,λu n hy=>?_⟩;obtain⟨q,g2,r2⟩:=V u n hy;have t:Go U S K q n K:=by simpa using g2.widen h.wf
  refine M r2 (g2.slots h.wf.zd s1) e3 λ{σ3 O3} sub nd s3 A=>?_;have g3:=(h.trans t).drop sub (nd t.wf.nd);refine N g3.wf s3 X ?_;cases W with
  | nx b=>exact λ{E v F x} g4 j l=>⟨b,v,x,g3.trans g4,j,kp.trans<|A.trans l,e2⟩
  | ct b=>exact λ{E v F x} g4 j l=>⟨b,v,x,g3.trans g4,j,kp.trans<|A.trans l,e2⟩
  | bk b=>cases e2;exact λ{E v F x} g4 j l=>k (a.trans<|g3.trans g4) j<|kp.trans<|A.trans l
  | rt d b=>cases e2;exact λ{v4 E v F P4 x} g4 r4 j l=>k (a.trans<|g3.trans g4) r4 j<|kp.trans<|A.trans l
 ·left
  have G:i=c.length:=by lia
  refine⟨r.1 ∅,?_⟩;rw[G,List.drop_length] at e2;cases e2;exact k (a.trans h) s1 kp
noncomputable def jk(ix:List<|Option Nat)(ρ:Rh):Rh:=ix.map λo=>o.bind λj=>(ρ[j]?).join
def VS(s:Slots R Z H ρ σ O):∀ ix:List (Option Nat),∃ O',Slots R Z H (jk ix ρ) (yt ix σ) O':=by
 intro ix
 induction ix with
 | nil=>
  exact⟨[],rfl,rfl⟩
 | cons o ix a=>
  obtain⟨O',a⟩:=a;show ∃ O',Slots R Z H ((o.bind λj=>(ρ[j]?).join)::jk ix ρ) ((o.bind λj=>(σ[j]?).join)::yt ix σ) O';cases e:o.bind λj=>(ρ[j]?).join with
  | none=>exact⟨O',_,_,rfl,a⟩
  | some d=>
   cases o with
   | none=>cases e
   | some j=>
    have f:(ρ[j]?).join=some d:=e;have e2:ρ[j]?=some (some d):=by grind
    obtain⟨A,P,B,_,b,_⟩:=s.put (L9.mp e2).1;obtain⟨v,c,r⟩:=b d e2;refine⟨P++O',v,_,P,O',?_,rfl,r,a⟩;show((σ[j]?).join::yt ix σ)=some v::yt ix σ;rw[c];rfl
@[simp] def qT(ρ:Rh):Option Bool:=some true
def jkv:PTt R (λ_ H Q=>Q true H) qT:=by
 intro σ ρ Z H O b z s e Q k;cases e;exact k<|Go.id z
noncomputable def jU(g:D->Rh->Option Rh)(q:PTf)(p:PF):List D->Rh->Option (List D)
 | [],_=>some []
 | x::xs,ρ=>(g x ρ).bind λρ1=>(q ρ1).bind λb=>bif b then((p ρ1).bind λy=>(jU g q p xs ρ1).bind λys=>some<|y::ys) else jU g q p xs ρ1
@[simp] def jZ(pi:PAf)(G:D->Rh->Option Rh)(q:PTf)(pa:PF)(ix:List<|Option Nat)(ρ:Rh):Option D:=(pi ρ).bind λxs=>bif lim xs.length then((jU G q pa xs<|jk ix ρ).bind λys=>some<|.lst true ys) else none
noncomputable def spP(R:RC)(m:List D->Option D)(n:Nat):Sp:=λvs H Q _=>∃ Z ds d,Zd Z H/\ds.length=n/\Reps R Z H ds vs []/\m ds=some d/\∀{v}{Z'}{H'}{P},Go Z H [] Z' H' P->Rep R Z' H' d v P->Q v H'
def fnP(n:Nat)(f:FS)(ds:List D):Option D:=(f<|ds.map some++List.replicate (n-ds.length) none).bind Out.val
theorem Yr:∀ n:Nat,Slots R Z H (List.replicate n none) (List.replicate n none) []
 | 0=>⟨rfl,rfl⟩
 | n+1=>⟨none,_,rfl,Yr n⟩
theorem Yy:∀{ds}{vs}{O}{ρ}{σ}{P},Reps R Z H ds vs O->Slots R Z H ρ σ P->Slots R Z H (ds.map some++ρ) (vs.map some++σ) (O++P)
 | [],_,_,_,_,_,r,s=>by rw[Reps] at r;obtain⟨rfl,rfl⟩:=r;exact s
 | d::ds,_,_,_,_,_,r,s=>by
  obtain⟨v,a,b,c,rfl,rfl,r1,r2⟩:=r;exact⟨v,_,b,_,rfl,List.append_assoc ..,r1,Yy r2 s⟩
def ji7(b:DS R [] ts f)(h:spP R (fnP N.length f) n vs H Q E):ts {nx:=λ_ H'=>Q .non H',rt:=Q} (L2.start N vs) H:=by
 obtain⟨Z,a,d,z,l,r,e,k⟩:=h;have s:Slots R Z H (a.map some++List.replicate (N.length-a.length) none) (L2.start N vs) []:=by
  unfold L2.start;rw[r.length];exact(Yy r<|Yr<|N.length-a.length)
 refine ob e λo c e=>?_;cases o with
 | rt m i=>cases e;exact b (wf0 z) s c λg j _ _=>k g.dropR j
 | nx i=>cases e;exact b (wf0 z) s c λg _ _=>k g.to0 .non_mk
 | _=>cases e
def jiH(h:spP R m n vs H Q E):vs.length=n:=by
 obtain⟨Z,b,d,z,a,r,_⟩:=h;rw[r.length,a]
mutual
noncomputable def yZ:D->Bool
 | .tup l=>yk l
 | .lst o l=>o&&yk l
 | .dK o _ l=>o&&yk l
 | .dT o _ l=>o&&yk l
 | .ins o _ _ l=>o&&yk l
 | .non=>true | .bl _=>true | .int _=>true | .str _=>true | .dead=>true | .tok _=>true | .kt _=>false | .exc _ _=>false
noncomputable def yk:List D->Bool
 | []=>true
 | d::l=>yZ d&&yk l
end
mutual
theorem Rep.thaw(ht:∀ a vs,Z a->Rd H a (.tup vs)->Z' a):∀{d:D}{v:V}{O:W5},Rep R Z H d v O->yZ d=true->Rep R Z' H d v O
 | .non,_,_,h,_=>by rw[Rep] at h ⊢;exact h
 | .bl _,_,_,h,_=>by rw[Rep] at h ⊢;exact h
 | .int _,_,_,h,_=>by rw[Rep] at h ⊢;exact h
 | .str _,_,_,h,_=>by rw[Rep] at h ⊢;exact h
 | .dead,_,_,h,_=>by rw[Rep] at h ⊢;exact h
 | .tok _,_,_,h,_=>by rw[Rep] at h ⊢;exact h
 | .kt _,_,_,_,f=>by rw[yZ] at f;cases f
 | .exc _ _,_,_,_,f=>by rw[yZ] at f;cases f
 | .tup l,_,_,h,f=>by
  rw[Rep] at h ⊢;rw[yZ] at f;obtain⟨a,vs,e,t,r⟩:=h;refine⟨a,vs,e,?_,Reps.thaw ht r f⟩;rcases t with⟨z,q⟩ | q
  ·exact .inl ⟨ht a vs z q,q⟩
  ·exact .inr q
 | .lst o l,_,_,h,f=>by
  rw[Rep] at h ⊢;rw[yZ,M0] at f;obtain⟨a,vs,O',e,r,h⟩:=h;cases f.1;exact⟨a,vs,O',e,Reps.thaw ht r f.2,h⟩
 | .dK o ks l,_,_,h,f=>by
  rw[Rep] at h ⊢;rw[yZ,M0] at f;obtain⟨a,vs,O',e,r,h⟩:=h;cases f.1;exact⟨a,vs,O',e,Reps.thaw ht r f.2,h⟩
 | .dT o ks l,_,_,h,f=>by
  rw[Rep] at h ⊢;rw[yZ,M0] at f;obtain⟨a,vs,O',e,r,h⟩:=h;cases f.1;exact⟨a,vs,O',e,Reps.thaw ht r f.2,h⟩
 | .ins o c ns l,_,_,h,f=>by
  rw[Rep] at h ⊢;rw[yZ,M0] at f;obtain⟨a,dx,vs,O',e,r,h⟩:=h;cases f.1;exact⟨a,dx,vs,O',e,Reps.thaw ht r f.2,h⟩
theorem Reps.thaw(ht:∀ a vs,Z a->Rd H a (.tup vs)->Z' a):∀{l:List D}{vs:List V}{O:W5},Reps R Z H l vs O->yk l=true->Reps R Z' H l vs O
 | [],_,_,h,_=>by rw[Reps] at h ⊢;exact h
 | d::l,_,_,h,f=>by
  rw[Reps] at h ⊢;rw[yk,M0] at f;obtain⟨v,vs,O1,O2,e,rfl,r1,r2⟩:=h;exact⟨v,vs,O1,O2,e,rfl,Rep.thaw ht r1 f.1,Reps.thaw ht r2 f.2⟩
end
mutual
theorem Rep.notTup:∀{d:D}{v:V}{O:W5},Rep R Z H d v O->∀ a∈O,∀ vs,¬ Rd H a (.tup vs)
 | .non,_,_,h,a,ha=>by rw[Rep] at h;rw[h.2] at ha;cases ha
 | .bl _,_,_,h,a,ha=>by rw[Rep] at h;rw[h.2] at ha;cases ha
 | .int _,_,_,h,a,ha=>by rw[Rep] at h;rw[h.2] at ha;cases ha
 | .str _,_,_,h,a,ha=>by rw[Rep] at h;rw[h.2] at ha;cases ha
 | .dead,_,_,h,a,ha=>by rw[Rep] at h;rw[h] at ha;cases ha
 | .tok _,_,_,h,a,ha=>by rw[Rep] at h;rw[h.2] at ha;cases ha
 | .kt _,_,_,h,a,ha=>by rw[Rep] at h;obtain⟨_,_,_,_,h⟩:=h;rw[h] at ha;cases ha
 | .exc _ _,_,_,h,a,ha=>by rw[Rep] at h;obtain⟨_,_,_,_,_,_,_,h⟩:=h;rw[h] at ha;cases ha
 | .tup l,_,_,h,a,ha=>by
  rw[Rep] at h;obtain⟨b,vs,e,t,r⟩:=h;exact Reps.notTup r a ha
 | .lst o l,_,_,h,a,ha=>by
  rw[Rep] at h;obtain⟨b,vs,O',e,r,h⟩:=h;cases o with
  | true=>
   obtain⟨h1,rfl⟩:=h;rcases M5.mp ha with e | e
   ·subst e;rintro ws (q | ⟨_,q⟩)<;>rw[h1] at q<;>cases q
   ·exact Reps.notTup r a e
  | false=>rw[h.2.2] at ha;cases ha
 | .dK o ks l,_,_,h,a,ha=>by
  rw[Rep] at h;obtain⟨b,vs,O',e,r,hl,hd,h⟩:=h;cases o with
  | true=>
   have h:=(show _=_ from h);subst h;rcases M5.mp ha with e | e
   ·subst e;rintro ws (q | ⟨_,q⟩)<;>rw[hd] at q<;>cases q
   ·exact Reps.notTup r a e
  | false=>rw[h.2.2] at ha;cases ha
 | .dT o ks l,_,_,h,a,ha=>by
  rw[Rep] at h;obtain⟨b,vs,O',e,r,hl,hd,h⟩:=h;cases o with
  | true=>
   have h:=(show _=_ from h);subst h;rcases M5.mp ha with e | e
   ·subst e;rintro ws (q | ⟨_,q⟩)<;>rw[hd] at q<;>cases q
   ·exact Reps.notTup r a e
  | false=>rw[h.2.2] at ha;cases ha
 | .ins o c ns l,_,_,h,a,ha=>by
  rw[Rep] at h;obtain⟨b,dx,vs,O',e,r,hl,hd,h⟩:=h;cases o with
  | true=>
   have h:=(show _=_ from h);subst h;rcases M5.mp ha with e | e
   ·subst e;rintro ws (q | ⟨_,q⟩)<;>rw[hd] at q<;>cases q
   ·exact Reps.notTup r a e
  | false=>rw[h.2.2] at ha;cases ha
theorem Reps.notTup:∀{l:List D}{vs:List V}{O:W5},Reps R Z H l vs O->∀ a∈O,∀ vs,¬ Rd H a (.tup vs)
 | [],_,_,h,a,ha=>by rw[Reps] at h;rw[h.2] at ha;cases ha
 | d::l,_,_,h,a,ha=>by
  rw[Reps] at h;obtain⟨v,vs,O1,O2,e,rfl,r1,r2⟩:=h;rcases N4.mp ha with q | q
  ·exact Rep.notTup r1 a q
  ·exact Reps.notTup r2 a q
end
@[simp] def jv(m:List D->Option D)(p:PAf)(ρ:Rh):Option D:=(p ρ).bind λds=>(m<|fzs ds).bind λd=>bif frzs ds||yZ d then some d else none
def vX(l):(fzs l).length=l.length:=by rw[kC,L1]
def jcS(e:Zd Z H)(r1:Reps R Z H ds vs P1)(f:ds.length=n)(e2:m (fzs ds)=some d)(b:(frzs ds||yZ d)=true)
  (k:∀{v}{Z'}{H'}{P},Go Z H [] Z' H' P->Rep R Z' H' d v P->Q v H'):spP R m n (vs++[]) H Q E:=by
 refine⟨λa=>Z a\/a∈P1,fzs ds,d,λa h=>h.elim (e a)<|r1.dom a,by rw[vX];exact f,by rw[N2];exact r1.freeze (λa z=>.inl z) λa z=>.inr z,e2,λ{v Z' H' P} g2 r2=>?_⟩;rw[Bool.or_eq_true] at b;rcases b with b | b
 ·cases r1.nil b;exact k ⟨g2.wf,λa z=>g2.zz a<|.inl z,g2.fr,λa z=>(g2.zn a z).imp (λq=>q.resolve_right<|λq=>(nomatch q)) id,g2.sub,g2.dm⟩ r2
 ·refine k (Z':=λa=>Z' a/\(a∉P1\/Z a)) ⟨⟨g2.wf.nd,λa h q=>g2.wf.nz a h q.1,g2.wf.od,λa q=>g2.wf.zd a q.1⟩,λa z=>⟨g2.zz a<|.inl z,.inr z⟩,g2.fr,λa z=>?_,g2.sub,g2.dm⟩<|r2.thaw (λa ws za g=>⟨za,?_⟩) b
  ·rcases g2.zn a z.1 with(q | q) | q
   ·lia
   ·lia
   ·lia
  ·by_cases c:a∈P1
   ·exact absurd (Rd.agree (g2.same a<|r1.dom a c).symm g)<|r1.notTup a c ws
   ·lia
def jd0(f:PBs R ta p)(g:∀ ρ ds,p ρ=some ds->ds.length=n):PP R (qP (spP R m n) [] E0 ta) (jv m p):=by
 intro σ ρ Z H O d z s e Q k;refine ob e λds a e=>ob e λc e2 e=>oc e λh e=>?_;cases e;exact f z s a λb r1=>jcS b.wf.zd r1 (g ρ ds a) e2 h λg2 r2=>k ⇑(b.pair g2) r2
@[simp] def sFz(i:Nat)(f:FS)(ρ:Rh):Option Out:=match pV i ρ with | some d=>f (ρ.set i<|some<|fz d) | none=>f ρ
def jow(h:DS R pm t f):DS R pm t (sFz i f):=by
 intro σ ρ Z H O o w s e l k;unfold sFz at e;split at e
 ·rename_i d hd;have hd:=YR hd;obtain⟨A,P,B,rfl,b,c,_⟩:=s.put (L9.mp hd).1;obtain⟨v,j,r⟩:=b d hd;have g:=(Go.freeze w.mid).frame w;have s2:=c (r.freeze (Z':=λa=>Z a\/a∈P) (λa z=>.inl z) λa z=>.inr z) (λa z=>.inl z) (λ_ _=>rfl) (λ_ _=>rfl)<|λ_ _=>rfl;rw[yX j] at s2;exact h g.wf s2 e<|k.pre g<|Keep.refl _ _
 ·exact h w s e k
def QX{l m:W5}(h:∀ c,l.count c<=m.count c)(n:m.Nodup):l.Nodup:=List.nodup_iff_count.mpr λc=>N9 (h c)<|List.nodup_iff_count.mp n c
def jd5{l m:W5}(h:∀ c,l.count c<=m.count c):∀ c∈l,c∈m:=λc a=>List.count_pos_iff.mp<|U6 (List.count_pos_iff.mpr a)<|h c
def Go.at(g:Go Z H O Z' H' P)(b:a∉O)(h:H a=some o):H' a=some o:=(g.fr a ∅ b).trans h
def Go.at0(g:Go Z H [] Z' H' P)(h:H a=some o):H' a=some o:=g.at (λz=>nomatch z) h
noncomputable abbrev Ln:=D->Option (D×(D->D))
inductive LnR (R:RC) (Z:Zn) (H:Hp) (ρ:Rh) (σ:L2.St) (O:W5) (tb:TE) (i:Nat) (x:D) (k:D->D):Prop
 | mk:∀(v:V) (A P B:W5),O=A++P++B->Rep R Z H x v P->(∀{Q:VK},Q v H->tb σ H Q) ->
  (∀{Z':Zn}{H':Hp}{x':D}{P':W5},Rep R Z' H' x' v P'->(∀ a,Z a->Z' a)->(∀ a,Z a->H' a=H a)->(∀ a∈A,H' a=H a)->(∀ a∈B,H' a=H a)->Slots R Z' H' (ρ.set i<|some<|k x') σ (A++P'++B))->LnR R Z H ρ σ O tb i x k
def je3(R:RC)(tb:TE)(i:Nat)(L:Ln):Prop:=∀{σ}{ρ}{Z}{H}{O}{d x}{k},Slots R Z H ρ σ O->ρ[i]?=some (some d)->L d=some (x,k)->LnR R Z H ρ σ O tb i x k
noncomputable def kF:Ln:=λd=>some (d,λx=>x)
def Jo:je3 R (yf i) i kF:=by
 intro σ ρ Z H O d x k s h e;cases e;obtain⟨A,P,B,rfl,b,c,_⟩:=s.put (L9.mp h).1;obtain⟨v,a,r⟩:=b _ h;refine⟨v,A,P,B,rfl,r,λq=>⟨v,a,q⟩,λf g j l m=>?_⟩;have q:=c f g j l m;rw[yX a] at q;exact q
inductive OwR (R:RC) (Z:Zn) (H:Hp) (l:List D) (sh:Addr->List V->HO) (sd:Prop) (v:V) (O:W5):Prop
 | mk:∀(a dx:Addr) (vs:List V) (O':W5),v=.ref a->Reps R Z H l vs O'->sd->H a=some (sh dx vs)->O=a::O'->OwR R Z H l sh sd v O
def Own(R:RC)(T:D)(l:List D)(sh:Addr->List V->HO)(sd:Prop):Prop:=∀{Z}{H}{v}{O},Rep R Z H T v O↔OwR R Z H l sh sd v O
def YM:Own R (.lst true l) l (λ_ vs=>.lst vs) True:=by
 intro Z H v O;exact⟨λh=>by obtain⟨a,vs,b,e,c,d,f⟩:=h;exact⟨a,0,vs,b,e,c,trivial,d,f⟩,λh=>by obtain⟨a,_,vs,b,e,c,_,d,f⟩:=h;exact⟨a,vs,b,e,c,d,f⟩⟩
def ja1:Own R (.dK true ks l) l (λ_ vs=>.dK<|(ks.map kaV).zip vs) (ks.length=l.length):=by
 intro Z H v O;exact⟨λh=>by obtain⟨a,vs,b,e,c,h,d,f⟩:=h;exact⟨a,0,vs,b,e,c,h,d,f⟩,λh=>by obtain⟨a,_,vs,b,e,c,h,d,f⟩:=h;exact⟨a,vs,b,e,c,h,d,f⟩⟩
def jf4:Own R (.dT true ks l) l (λ_ vs=>.dT<|(ks.map<|List.map kaV).zip vs) (ks.length=l.length):=by
 intro Z H v O;exact⟨λh=>by obtain⟨a,vs,b,e,c,h,d,f⟩:=h;exact⟨a,0,vs,b,e,c,h,d,f⟩,λh=>by obtain⟨a,_,vs,b,e,c,h,d,f⟩:=h;exact⟨a,vs,b,e,c,h,d,f⟩⟩
def ow_ins:Own R (.ins true c ns l) l (λdx vs=>.ins (R.cls c) dx<|ns.zip vs) (ns.length=l.length):=by
 intro Z H v O;exact⟨λh=>by obtain⟨a,dx,vs,b,e,d,h,f,g⟩:=h;exact⟨a,dx,vs,b,e,d,h,f,g⟩,λh=>by obtain⟨a,dx,vs,b,e,d,h,f,g⟩:=h;exact⟨a,dx,vs,b,e,d,h,f,g⟩⟩
def qH{R}{Z}{H}{C:Prop}{σ}{ρ}{O P0}{i}{tb}{L}{t y}{o}{l}{p}{u}(F:je3 R tb i L)(w:WF Z H<|P0++O)(s:Slots R Z H ρ σ O)(hi:pV i ρ=some t)(e:L t=some (y,o))(hT:Own R y l p u)
  (k:∀ a dx vs O',Reps R Z H l vs O'->u->H a=some (p dx vs)->(∀{Q},Q (.ref a) H->tb σ H Q)->(∀{O2 P1}{Z2}{H2}{x'}{l'}{vs'}{sh':Addr->List V->HO}{sd'},Own R x' l' sh' sd'->sd'->Go Z H [] Z2 H2 P1->Reps R Z2 H2 l' vs' O2->(∀ q,O2.count q<=O'.count q+P0.count q+P1.count q) ->
   ∃ O3,Go Z H (P0++O) Z2 (upd H2 a<|sh' dx vs') O3/\Slots R Z2 (upd H2 a<|sh' dx vs') (ρ.set i<|some<|o x') σ O3)->C):C:=by
 obtain⟨v,A,P,B,rfl,r,G,I⟩:=F s (YR hi) e;obtain⟨a,dx,vs,O',rfl,J,hd,K,rfl⟩:=hT.mp r;refine k a dx vs O' J hd K G λ{O2 P1 Z2 H2 x' l' vs' sh' sd'} j n g M cnt=>?_;have h:=g.widen w;have nd:=h.wf.nd;have ct:=List.nodup_iff_count.mp nd a;simp only[X0,List.count_cons,if_true] at ct;have pos:∀{m:W5},a∈m->0<m.count a:=List.count_pos_iff.mpr;generalize N:sh' dx vs'=ob;have d:∀ b,Z2 b->upd H2 a ob b=H2 b:=λb c=>je λz=>h.wf.nz a (by simp)<|z▸c;have f:∀ m:List Addr,(∀ b∈m,b∈A++(a::O')++B)->m.count a=0->∀ b∈m,upd H2 a ob b=H b:=λm S T b c=>(je λz=>by subst z;have:=pos c;lia).trans (g.same b<|w.od b<|U5 _<|S b c);have sl:=I (j.mpr ⟨a,dx,vs',O2,rfl,M.frame (λ_ z=>z) d λb c=>je λz=>by subst z;have:=pos c;have:=cnt b;lia,n,by rw[N];exact jl,rfl⟩) g.zz (λx D=>(d x<|g.zz x D).trans (g.same x<|w.zd x D)) (f A (λb c=>by simp[c]) ∅)<|f B (λb c=>by simp[c]) ∅;have E:∀ q,(A++(a::O2)++B).count q<=(P1++(P0++(A++(a::O')++B))).count q:=λq=>by
  have:=cnt q;simp only[X0,List.count_cons];lia
 exact⟨_,(h.trans<|Go.put h.wf<|by simp).drop (jd5 E) (QX E nd),sl⟩
@[simp] def qr(i:Nat)(L:Ln)(pv:PF)(ρ:Rh):Option Out:=(pv ρ).bind λd=>(pV i ρ).bind λt=>(L t).bind λy=>(zG y.1).bind λl=>bif lim l.length then some (.nx<|ρ.set i<|some<|y.2<|.lst true<|l++[d]) else none
def jdJ{R}{pm}{i}{tb te}{L}{p}(j:je3 R tb i L)(h:PP R te p):DS R pm (YT<|tBM R.K "list" Jy tb<|jW te Yw) (qr i L p):=by
 intro σ ρ Z H O o w s e x k;refine ob e λd m e=>ob e λt hi e=>ob e λ⟨y,z⟩ e3 e=>ob e λl n e=>oc e λb e=>?_;cases e;cases Y3 n;refine qH (P0:=[]) j w s hi e3 YM λa _ vs A f _ g r put=>r ⟨.inl ⟨rfl,vs,SqL.of g⟩,h w.zd s m λ{u B C D} c r1=>?_⟩;obtain⟨E,g3,v⟩:=put YM trivial c ((c.reps w.zd f).append (.one r1)) λq=>by simp
 exact⟨a,vs,u,rfl,rfl,c.at0 g,by rw[f.length];exact Vh b,k g3 v<|Keep.refl _ _⟩
@[simp] def jcI(i:Nat)(pa:PF)(ρ:Rh):Option Out:=(pa ρ).bind λd=>(pV i ρ).bind λx=>(zG x).bind λl=>bif lim l.length then some (.nx<|ρ.set i<|some<|.lst true<|l++[d]) else none
def jme(h:PP R te p):DS R pm (YT<|tBM R.K "list" Jy (yf i)<|jW te Yw) (jcI i p):=jdJ Jo h
def YJ(h:OpR X f r)(h':OpR X f r'):OpR X f (λx y H Q=>r x y H Q\/r' x y H Q):=by
 intro a s σ H x y v u Q I b c q;rcases q with q | q
 ·exact h a s σ H x y v u Q I b c q
 ·exact h' a s σ H x y v u Q I b c q
def Rep.lst_of(r:Rep R Z H (.lst o l) v O):Ex3 λa vs O'=>An3 (v=.ref a) (SqX R.K H a vs) (Reps R Z H l vs O'):=by
 obtain⟨a,vs,O',rfl,b,h⟩:=r;cases o with
 | true=>exact⟨a,vs,O',rfl,SqX.of h.1,b⟩
 | false=>exact⟨a,vs,O',rfl,FL.sqx h.1,b⟩
def Rep.tup_of(r:Rep R Z H (.tup l) v O):Ex2 λa vs=>An3 (v=.ref a) (SqT R.K H a vs) (Reps R Z H l vs O):=by
 obtain⟨a,vs,rfl,h,b⟩:=r;exact⟨a,vs,rfl,h.sq,b⟩
def Reps.frozen(r:Reps R Z H l vs O)(f:frzs l=true):Reps R Z H l vs []:=by
 cases r.nil f;exact r
noncomputable def jn4(i:Int):Bool:=decide<|Builtin.Int.intBits i<=2 ^ 20
def jeT(h:i.natAbs<2 ^ 1000):jn4 i=true:=X5<|jbA h (by decide)
def ji(x y:D):Option D:=match x with
 | .int i=>(match y with
  | .int j=>some<|.int<|i+j
  | _=>none)
 | .str a=>(match y with
  | .str b=>bif lim (a.length+b.length) then some (.str<|a++b) else none
  | _=>none)
 | .lst _ a=>(match y with
  | .lst _ b=>bif lim (a.length+b.length)&&(frzs a&&frzs b) then some (.lst true<|a++b) else none
  | _=>none)
 | .tup a=>(match y with
  | .tup b=>bif lim (a.length+b.length)&&(frzs a&&frzs b)&&!a.isEmpty then some (.tup<|a++b) else none
  | _=>none)
 | _=>none
def jpj:R2:=λx y H Q=>∃ a b,x=.str (S a)/\y=.str (S b)/\a.length+b.length<=sizeLine/\Q (.str<|S<|a++b) H
def jec(K:W4):R2:=λx y H Q=>rI0 (λi j=>.int<|i+j) x y H Q\/jpj x y H Q\/jlO K x y H Q\/jnQ K x y H Q
def jeH:OpR X (binaryOp .Add) (jec X.K):=YJ jnY<|YJ jkt<|YJ ji0 jh1
def jg6:BO R (jec R.K) ji:=by
 intro Z H x y d v u D E z g l e Q k;cases x with
 | int i=>
  cases y with
  | int j=>
   cases e;obtain⟨rfl,_⟩:=g.int_of;obtain⟨rfl,_⟩:=l.int_of;exact .inl ⟨i,j,rfl,rfl,k (Go.id z) .int_mk⟩
  | _=>cases e
 | str a=>
  cases y with
  | str b=>
   refine oc e λc e=>?_;cases e;obtain⟨rfl,_⟩:=g.str_of;obtain⟨rfl,_⟩:=l.str_of;exact .inr<|.inl ⟨a,b,rfl,rfl,Jr c,k (Go.id z) .str_mk⟩
  | _=>cases e
 | lst o a=>
  cases y with
  | lst F b=>
   refine oc e λc e=>?_;cases e;simp only[M0] at c;obtain⟨p,vs,G,rfl,m,f⟩:=g.lst_of;obtain⟨q,ws,t,rfl,n,rt⟩:=l.lst_of;have w:=(f.frozen c.2.1).append (rt.frozen c.2.2);exact .inr<|.inr<|.inl ⟨p,q,vs,ws,rfl,rfl,m,n,by rw[f.length,rt.length];exact Jr c.1,λb h=>k (Go.newO (wf0 z) h)<|Rep.lstNew (wf0 z) h w⟩
  | _=>cases e
 | tup a=>
  cases y with
  | tup b=>
   refine oc e λc e=>?_;cases e;simp only[M0] at c;obtain⟨p,vs,rfl,m,f⟩:=g.tup_of;obtain⟨q,ws,rfl,n,rt⟩:=l.tup_of;have r:vs≠[]:=by
    intro A;have:=f.length;rw[A] at this;have s:=List.eq_nil_of_length_eq_zero this.symm;rw[s] at c;simp at c
   refine .inr<|.inr<|.inr ⟨p,q,vs,ws,rfl,rfl,m,n,r,by rw[f.length,rt.length];exact Jr c.1.1,(λs=>?_),λ_ b h=>k (Go.newF (wf0 z) h)<|Rep.tupNew (wf0 z) h<|(f.frozen c.1.2.1).append (rt.frozen c.1.2.2)⟩;have B:=List.eq_nil_of_length_eq_zero (by rw[<- rt.length,s];rfl);subst B;rw[N2] at k;have C:=f.nil c.1.2.1;subst C;exact k (Go.id z) g
  | _=>cases e
 | _=>cases e
def two(f:Int->Int->Option D)(x y:D):Option D:=(vv x).bind λi=>(vv y).bind λj=>f i j
def two_of(e:two f x y=some d):Ex2 λi j=>An3 (x=.int i) (y=.int j) (f i j=some d):=ob e λi a e=>ob e λj e2 e=>⟨i,j,jK a,jK e2,e⟩
def Ys:D->D->Option D:=two λi j=>some<|.int<|i-j
def jmG:BO R (rI0 λi j=>.int<|i-j) Ys:=by
 intro Z H x y d v u c f z a b e Q k;replace e:=two_of e;obtain⟨i,j,rfl,rfl,e⟩:=e;cases e;obtain⟨rfl,_⟩:=a.int_of;obtain⟨rfl,_⟩:=b.int_of;exact⟨i,j,rfl,rfl,k (Go.id z) .int_mk⟩
def yV(x y:D):Option D:=match y with
 | .int n=>(match x with
  | .int i=>bif jn4 i&&jn4 n then some (.int<|i*n) else none
  | .str a=>bif decide (a.length<=1000)&&(decide (0<=n)&&decide (n<=1000)) then some (.str (List.replicate n.toNat a).flatten) else none
  | _=>none)
 | _=>none
def jjg:R2:=λx y H Q=>rI (λi j=>Builtin.Int.intBits i<=2 ^ 20/\Builtin.Int.intBits j<=2 ^ 20) (λi j=>.int<|i*j) x y H Q \/
 ∃ a n,x=.str (S a)/\y=.int n/\a.length<=1000/\0<=n/\n<=1000/\Q (.str<|S (List.replicate n.toNat a).flatten) H
def jjU:OpR X (binaryOp .Mult) jjg:=YJ jjp jjK
def jlE:BO R jjg yV:=by
 intro Z H x y d v u g h z c f e Q k;cases y with
 | int n=>
  cases x with
  | int i=>
   refine oc e λb e=>?_;cases e;rw[M0] at b;obtain⟨rfl,_⟩:=c.int_of;obtain⟨rfl,_⟩:=f.int_of;exact .inl ⟨i,n,rfl,rfl,⟨X7 b.1,X7 b.2⟩,k (Go.id z) .int_mk⟩
  | str a=>
   refine oc e λb e=>?_;cases e;simp only[M0,decide_eq_true_eq] at b;obtain⟨rfl,_⟩:=c.str_of;obtain⟨rfl,_⟩:=f.int_of;exact .inr ⟨a,n,rfl,rfl,b.1,b.2.1,b.2.2,k (Go.id z) .str_mk⟩
  | _=>cases e
 | _=>cases e
noncomputable def jbe(j:Int):Bool:=decide (0<j)&&decide (j<2 ^ 300)
def jex(h:jbe j=true):0<j/\j.natAbs.log2<9000:=by
 unfold jbe at h;simp only[M0,decide_eq_true_eq] at h;refine⟨h.1,?_⟩;have a:j.natAbs<2 ^ 300:=by lia
 have b:j.natAbs≠0:=by lia
 have:=(Nat.log2_lt b).mpr a
 lia
def jfm:OpR X (binaryOp .FloorDiv) (rI (λ_ j=>jbe j=true) λi j=>.int<|i/j):=opI λi j t u s Q E a q=>by
 obtain⟨b,c⟩:=jex a;rw[(Int.fdiv_eq_ediv_of_nonneg i<|Int.le_of_lt b).symm] at q;exact PyProof.Rows.floordiv_int ∅ q (.inl<|PyProof.noPylong_of_log2 c)
def jG:D->D->Option D:=two λi j=>bif jbe j then some (.int<|i/j) else none
def jn:D->D->Option D:=two λi j=>bif decide (0<j) then some (.int<|i%j) else none
def Jx:D->D->Option D:=two λi j=>bif decide (0<=j)&&decide (j<=100)&&decide (i.natAbs<2 ^ 64) then some (.int<|i ^ j.toNat) else none
def jlJ:BO R (rI (λ_ j=>jbe j=true) λi j=>.int<|i/j) jG:=by
 intro Z H x y d v u f g z a b e Q k;replace e:=two_of e;obtain⟨i,j,rfl,rfl,e⟩:=e;refine oc e λc e=>?_;cases e;obtain⟨rfl,_⟩:=a.int_of;obtain⟨rfl,_⟩:=b.int_of;exact⟨i,j,rfl,rfl,c,k (Go.id z) .int_mk⟩
def jht:BO R (rI (λ_ j=>0<j) λi j=>.int<|i%j) jn:=by
 intro Z H x y d v u f g z b c e Q k;replace e:=two_of e;obtain⟨i,j,rfl,rfl,e⟩:=e;by_cases a:0<j
 ·rw[X5 a] at e;cases e;obtain⟨rfl,_⟩:=b.int_of;obtain⟨rfl,_⟩:=c.int_of;exact⟨i,j,rfl,rfl,a,k (Go.id z) .int_mk⟩
 ·lia
def jk0:BO R (rI joj λi j=>.int<|i ^ j.toNat) Jx:=by
 intro Z H x y d v u f g z b c e Q k;replace e:=two_of e;obtain⟨i,j,rfl,rfl,e⟩:=e;refine oc e λa e=>?_;cases e;simp only[M0,decide_eq_true_eq] at a;obtain⟨rfl,_⟩:=b.int_of;obtain⟨rfl,_⟩:=c.int_of;exact⟨i,j,rfl,rfl,⟨a.1.1,by lia,a.2⟩,k (Go.id z) .int_mk⟩
noncomputable def V2:D->Option D
 | .int i=>some<|.int<|-i
 | _=>none
def jl0:BU R (rU λi=>.int<|-i) V2:=by
 intro Z H x d v O z a e Q k;cases x with
 | int i=>
  cases e;obtain⟨rfl,_⟩:=a.int_of;exact⟨i,rfl,k (Go.id z) .int_mk⟩
 | _=>cases e
def opB(g:Int->Int->Bool):D->D->Option D:=two λi j=>some<|.bl<|g i j
def jpO:BO R (rI0 λi j=>.bl<|g i j) (opB g):=by
 intro Z H x y d v u c f z a b e Q k;replace e:=two_of e;obtain⟨i,j,rfl,rfl,e⟩:=e;cases e;obtain⟨rfl,_⟩:=a.int_of;obtain⟨rfl,_⟩:=b.int_of;exact⟨i,j,rfl,rfl,k (Go.id z) .bl_mk⟩
abbrev jkW:D->D->Option D:=opB λi j=>decide<|i<j
abbrev Y5:D->D->Option D:=opB λi j=>decide<|j<i
abbrev jpl:D->D->Option D:=opB λi j=>decide<|j<=i
noncomputable def jge:D->Bool
 | .non=>true
 | _=>false
noncomputable def jmj:D->Bool
 | .dead=>true
 | _=>false
def jfT(x y:D):Option D:=bif jge y&&!jmj x then some (.bl<|jge x) else none
def jfA(h:jge y=true):y=.non:=by
 cases y with
 | non=>rfl
 | _=>cases h
def jcr(r:Rep R Z H x v O)(hd:∀(h:x=.dead),False):decide (v=V.non)=jge x:=by
 cases x with
 | non=>obtain⟨rfl,_⟩:=r.non_of;rfl
 | bl b=>obtain⟨rfl,_⟩:=r.bl_of;rfl
 | int i=>obtain⟨rfl,_⟩:=r.int_of;rfl
 | str s=>obtain⟨rfl,_⟩:=r.str_of;rfl
 | tup l=>rw[Rep] at r;obtain⟨a,vs,rfl,_⟩:=r;rfl
 | lst o l=>rw[Rep] at r;obtain⟨a,vs,d,rfl,_⟩:=r;rfl
 | dK o e l=>rw[Rep] at r;obtain⟨a,vs,d,rfl,_⟩:=r;rfl
 | dT o e l=>rw[Rep] at r;obtain⟨a,vs,d,rfl,_⟩:=r;rfl
 | ins o c ns l=>rw[Rep] at r;obtain⟨a,f,vs,d,rfl,_⟩:=r;rfl
 | tok a=>rw[Rep] at r;obtain⟨rfl,_⟩:=r;rfl
 | kt k=>rw[Rep] at r;obtain⟨a,rfl,_⟩:=r;rfl
 | exc c p=>rw[Rep] at r;obtain⟨a,f,rfl,_⟩:=r;rfl
 | dead=>exact(hd rfl).elim
def jpB:BO R (λx y H Q=>y=.non/\Q (.bl<|decide<|x=.non) H) jfT:=by
 intro Z H x y d v u f g z b c e Q k;refine oc e λa e=>?_;cases e;rw[M0] at a;have hd:∀(h:x=.dead),False:=λh=>by rw[h] at a;exact absurd a.2 (by decide)
 cases jfA a.1;obtain⟨rfl,_⟩:=c.non_of;refine⟨rfl,?_⟩;rw[jcr b hd];exact k (Go.id z) .bl_mk
noncomputable def JF:D->Bool
 | .non=>true | .bl _=>true | .int _=>true | .str _=>true
 | _=>false
noncomputable def eqF:D->D->Bool
 | .non,y=>match y with | .non=>true | _=>false
 | .bl a,y=>match y with | .bl b=>a==b | _=>false
 | .int a,y=>match y with | .int b=>a==b | _=>false
 | .str a,y=>match y with | .str b=>a==b | _=>false
 | _,_=>false
noncomputable def Q7:D->D->Bool
 | .bl _,.int _=>false
 | .int _,.bl _=>false
 | _,_=>true
def jdm(d:Rep R Z H x v O1)(c:Rep R Z H y u O2)(h:(JF x&&JF y&&Q7 x y)=true):joW v u=true/\decide (v=u)=eqF x y:=by
 cases x with
 | non=>
  obtain⟨rfl,_⟩:=d.non_of;cases y with
  | non=>obtain⟨rfl,_⟩:=c.non_of;exact⟨rfl,rfl⟩
  | bl b=>obtain⟨rfl,_⟩:=c.bl_of;exact⟨rfl,rfl⟩
  | int b=>obtain⟨rfl,_⟩:=c.int_of;exact⟨rfl,rfl⟩
  | str b=>obtain⟨rfl,_⟩:=c.str_of;exact⟨rfl,rfl⟩
  | _=>cases h
 | bl a=>
  obtain⟨rfl,_⟩:=d.bl_of;cases y with
  | non=>obtain⟨rfl,_⟩:=c.non_of;exact⟨rfl,rfl⟩
  | bl b=>obtain⟨rfl,_⟩:=c.bl_of;exact⟨rfl,by rw[jc6];rfl⟩
  | str b=>obtain⟨rfl,_⟩:=c.str_of;exact⟨rfl,rfl⟩
  | _=>cases h
 | int a=>
  obtain⟨rfl,_⟩:=d.int_of;cases y with
  | non=>obtain⟨rfl,_⟩:=c.non_of;exact⟨rfl,rfl⟩
  | int b=>obtain⟨rfl,_⟩:=c.int_of;exact⟨rfl,by rw[xX];rfl⟩
  | str b=>obtain⟨rfl,_⟩:=c.str_of;exact⟨rfl,rfl⟩
  | _=>cases h
 | str a=>
  obtain⟨rfl,_⟩:=d.str_of;cases y with
  | non=>obtain⟨rfl,_⟩:=c.non_of;exact⟨rfl,rfl⟩
  | bl b=>obtain⟨rfl,_⟩:=c.bl_of;exact⟨rfl,rfl⟩
  | int b=>obtain⟨rfl,_⟩:=c.int_of;exact⟨rfl,rfl⟩
  | str b=>
   obtain⟨rfl,_⟩:=c.str_of;refine⟨rfl,?_⟩;rw[Bool.eq_iff_iff];simp[eqF,jpo]
  | _=>cases h
 | _=>cases h
def inL(x:D)(l:List D):Bool:=l.any λy=>eqF y x
def jhi(x:D)(l:List D):Bool:=JF x&&l.all λy=>JF y&&Q7 y x
def Y1(neg:Bool)(x y:D):Option D:=match y with
 | .str s=>(match x with
  | .str [c]=>some<|.bl<|neg != decide (c∈s)
  | _=>none)
 | .lst _ l=>bif jhi x l then some (.bl<|neg != inL x l) else none
 | .tup l=>bif jhi x l then some (.bl<|neg != inL x l) else none
 | _=>none
def Reps.flat(c:Rep R Z H x v P)(d:JF x=true):∀{l}{vs}{O},Reps R Z H l vs O->(l.all λy=>JF y&&Q7 y x)=true->Vg v=true/\vs.all Vg=true/\inV v vs=inL x l:=by
 intro l
 induction l with
 | nil=>
  intro _ _ h _;obtain⟨rfl,_⟩:=h;refine⟨?_,rfl,rfl⟩;cases x with
  | non=>obtain⟨rfl,_⟩:=c.non_of;rfl
  | bl b=>obtain⟨rfl,_⟩:=c.bl_of;rfl
  | int b=>obtain⟨rfl,_⟩:=c.int_of;rfl
  | str b=>obtain⟨rfl,_⟩:=c.str_of;rfl
  | _=>cases d
 | cons y l e=>
  intro _ _ h f;obtain⟨u,vs,k,m,rfl,rfl,r1,r2⟩:=h;rw[List.all_cons,M0] at f;obtain⟨g,i,j⟩:=e r2 f.2;have key:Vg u=true/\eqV u v=eqF y x:=by
   cases y with
   | non=>
    obtain⟨rfl,_⟩:=r1.non_of;cases x with
    | non=>obtain⟨rfl,_⟩:=c.non_of;exact⟨rfl,rfl⟩
    | bl b=>obtain⟨rfl,_⟩:=c.bl_of;exact⟨rfl,rfl⟩
    | int b=>obtain⟨rfl,_⟩:=c.int_of;exact⟨rfl,rfl⟩
    | str b=>obtain⟨rfl,_⟩:=c.str_of;exact⟨rfl,rfl⟩
    | _=>cases d
   | bl a=>
    obtain⟨rfl,_⟩:=r1.bl_of;cases x with
    | non=>obtain⟨rfl,_⟩:=c.non_of;exact⟨rfl,rfl⟩
    | bl b=>obtain⟨rfl,_⟩:=c.bl_of;exact⟨rfl,rfl⟩
    | str b=>obtain⟨rfl,_⟩:=c.str_of;exact⟨rfl,rfl⟩
    | int b=>exact absurd f.1 (by simp[Q7])
    | _=>cases d
   | int a=>
    obtain⟨rfl,_⟩:=r1.int_of;cases x with
    | non=>obtain⟨rfl,_⟩:=c.non_of;exact⟨rfl,rfl⟩
    | int b=>obtain⟨rfl,_⟩:=c.int_of;exact⟨rfl,rfl⟩
    | str b=>obtain⟨rfl,_⟩:=c.str_of;exact⟨rfl,rfl⟩
    | bl b=>exact absurd f.1 (by simp[Q7])
    | _=>cases d
   | str a=>
    obtain⟨rfl,_⟩:=r1.str_of;cases x with
    | non=>obtain⟨rfl,_⟩:=c.non_of;exact⟨rfl,rfl⟩
    | bl b=>obtain⟨rfl,_⟩:=c.bl_of;exact⟨rfl,rfl⟩
    | int b=>obtain⟨rfl,_⟩:=c.int_of;exact⟨rfl,rfl⟩
    | str b=>
     obtain⟨rfl,_⟩:=c.str_of;refine⟨rfl,?_⟩;rw[Bool.eq_iff_iff];simp[eqF,eqV,jpo]
    | _=>cases d
   | _=>exact absurd f.1 (by simp[JF])
  refine⟨g,by rw[List.all_cons,key.1,i];rfl,?_⟩;show(eqV u v||inV v vs)=(eqF y x||inL x l);rw[key.2,j]
def jqp(neg:Bool):R2:=λx y H Q=>∃ c l,x=.str (S [c])/\y=.str (S l)/\Q (.bl<|if neg then !decide (c∈l) else decide (c∈l)) H
def jhd(K:W4)(neg:Bool):R2:=λx y H Q=>jqp neg x y H Q\/rIn K neg x y H Q
def jlF:OpR X (compareOp .In) (jhd X.K false):=YJ jn1 jeS
def jet:OpR X (compareOp .NotIn) (jhd X.K true):=YJ jeF xp
def ua(a b):(if a=true then !b else b)=(a != b):=by cases a<;>cases b<;>rfl
def jiO:BO R (jhd R.K neg) (Y1 neg):=by
 intro Z H x y d v u q r z b g e Q k;cases y with
 | str s=>
  cases x with
  | str t=>
   match t,e,b with
   | [c],e,b=>
    cases e;obtain⟨rfl,_⟩:=b.str_of;obtain⟨rfl,_⟩:=g.str_of;refine .inl ⟨c,s,rfl,rfl,?_⟩;rw[ua];exact k (Go.id z) .bl_mk
   | [],e,b=>cases e
   | _::_::_,e,b=>cases e
  | _=>cases e
 | lst o l=>
  have f:=e;refine oc f λa f=>?_;cases f;unfold jhi at a;rw[M0] at a;obtain⟨p,vs,w,rfl,h,i⟩:=g.lst_of;obtain⟨j,m,n⟩:=i.flat b a.1 a.2;refine .inr ⟨p,vs,rfl,.inl h.sq,j,m,?_⟩;rw[n,ua];exact k (Go.id z) .bl_mk
 | tup l=>
  have f:=e;refine oc f λa f=>?_;cases f;unfold jhi at a;rw[M0] at a;obtain⟨p,vs,rfl,h,i⟩:=g.tup_of;obtain⟨j,m,n⟩:=i.flat b a.1 a.2;refine .inr ⟨p,vs,rfl,.inr h,j,m,?_⟩;rw[n,ua];exact k (Go.id z) .bl_mk
 | _=>cases e
def jd(x y:D):Option D:=match y with
 | .int i=>(match x with
  | .lst _ l=>atI l i
  | .tup l=>atI l i
  | .str s=>bif lim s.length then(atI s i).bind λc=>some (.str [c]) else none
  | _=>none)
 | _=>none
def Reps.atI(r:Reps R Z H l vs O)(e:L2.atI l i=some d):∃ v P,L2.atI vs i=some v/\Rep R Z H d v P:=by
 unfold L2.atI at e ⊢;rw[r.length];cases h:ixN l.length i with
 | none=>rw[h] at e;cases e
 | some j=>
  rw[h] at e;obtain⟨v,A,P,B,a,_,r1,_⟩:=r.at<|e;exact⟨v,P,a,r1⟩
def jle:BO' R (rIx R.K) jd:=by
 intro Z H x y d v u n q z a j e Q k;cases y with
 | int i=>
  obtain⟨rfl,_⟩:=j.int_of;cases x with
  | lst o l=>
   obtain⟨p,vs,r,rfl,b,f⟩:=a.lst_of;obtain⟨w,P,g,r1⟩:=f.atI e;exact .inl ⟨p,vs,i,w,rfl,rfl,b.sq,g,k r1⟩
  | tup l=>
   obtain⟨p,vs,rfl,b,f⟩:=a.tup_of;obtain⟨w,P,g,r1⟩:=f.atI e;exact .inr<|.inl ⟨p,vs,i,w,rfl,rfl,b,g,k r1⟩
  | str s=>
   obtain⟨rfl,_⟩:=a.str_of;refine oc e λm e=>ob e λc h e=>?_;cases e;refine .inr<|.inr ⟨S s,i,c,rfl,rfl,by rw[Ju];exact Jr m,by rw[Js];exact h,?_⟩;exact k .str_mk
  | _=>cases e
 | _=>cases e
abbrev OF:=Rh->Option (Option Int)
def PO'(R:RC)(t:TO)(p:OF):Prop:=∀{σ}{ρ}{Z}{H}{O}{i},Zd Z H->Slots R Z H ρ σ O->p ρ=some i ->
 ∀{Q:Option Int->Hp->Prop},(∀{Z'}{H'},Go Z H [] Z' H' []->Q i H')->t σ H Q
@[simp] def oN(ρ:Rh):Option (Option Int):=some none
@[simp] def oS(pa:PF)(ρ:Rh):Option (Option Int):=(pa ρ).bind λd=>(vv d).bind λi=>some<|some i
def jqL:PO' R wY oN:=by
 intro σ ρ Z H O i z s e Q k;cases e;exact k<|Go.id z
def jqr(h:PB R te p):PO' R (jjh te) (oS p):=by
 intro σ ρ Z H O i z s e Q k;refine ob e λx a e=>ob e λj e2 e=>?_;cases e;cases jK e2;refine h z s a λ{v c d f} b r1=>?_;obtain⟨rfl,_⟩:=r1.int_of;exact⟨j,rfl,k b⟩
def jpi(lo hi:Option Int):D->Option D
 | .str s=>bif lim s.length then some (.str<|Yg s lo hi) else none
 | .lst _ l=>bif frzs l then some (.lst true<|Yg l lo hi) else none
 | .tup l=>bif frzs l&&decide ((Yg l lo hi).length<l.length) then some (.tup<|Yg l lo hi) else none
 | _=>none
def joe(K:W4):V->Option Int->Option Int->Hp->VK->Prop:=λx lo hi H Q=>jpZ x lo hi H Q\/jqc K x lo hi H Q\/jpY K x lo hi H Q
def jqG:SlR X (joe X.K):=SlR.or jmP<|SlR.or jj8 jmr
@[simp] def pSl(pa:PF)(pl:OF)(ph:OF)(ρ:Rh):Option D:=(pa ρ).bind λx=>(pl ρ).bind λlo=>(ph ρ).bind λhi=>jpi lo hi x
def Reps.cut(r:Reps R Z H l vs [])(lo hi):Reps R Z H (Yg l lo hi) (jkY vs lo hi) []:=by
 unfold Yg jkY;rw[r.length];exact(r.drop _).take _
def jpF(r:PB R te pa)(u:PO' R tl pl)(w:PO' R th ph):PP R (tSl (joe R.K) te tl th) (pSl pa pl ph):=by
 intro σ ρ Z H O d z s e Q k;refine ob e λx y e=>ob e λlo e2 e=>ob e λhi e3 e=>(r z s y λ{v A B C} i r1=>(u i.wf.zd (i.slots z s) e2 λ{D E} g2=>?_));have f:=i.pair g2;refine w g2.wf.zd (f.slots z s) e3 λ{Z3 F} g3=>?_;have a:=f.pair g3;have m:=(g2.pair g3).rep i.wf.zd r1;cases x with
 | str t=>
  refine oc e λc e=>?_;cases e;obtain⟨rfl,_⟩:=m.str_of;exact .inl ⟨t,rfl,Jr c,k a .str_mk⟩
 | lst o l=>
  refine oc e λc e=>?_;cases e;obtain⟨p,vs,G,rfl,n,j⟩:=m.lst_of;have g:=g3.wf.zd;exact .inr<|.inl ⟨p,vs,rfl,n.sq,λb h=>k ⇑(a.pair<|Go.newO (wf0 g) h) (Rep.lstNew (wf0 g) h<|(j.frozen c).cut lo hi)⟩
 | tup l=>
  refine oc e λc e=>?_;cases e;simp only[M0,decide_eq_true_eq] at c;obtain⟨p,vs,rfl,n,j⟩:=m.tup_of;have g:=g3.wf.zd;refine .inr<|.inr ⟨p,vs,rfl,n,?_,λb h=>k ⇑(a.pair<|Go.newF (wf0 g) h) (Rep.tupNew (wf0 g) h<|(j.frozen c.1).cut lo hi)⟩;rintro⟨w1,w2⟩;have q:=c.2;unfold Yg at q;rw[j.length] at w1 w2;rw[w1,w2,List.drop_zero,Nat.sub_zero,List.take_length] at q;exact absurd q<|Nat.lt_irrefl _
 | _=>cases e
def jqt:D->Option D
 | .lst _ l=>some<|.int l.length
 | .tup l=>some<|.int l.length
 | .str s=>bif lim s.length then some (.int s.length) else none
 | _=>none
def qx(l:List D):Option D:=(je2 l).bind jqt
def jlV:BC R (λxs H Q=>∃ x n,xs=[x]/\joI R.K x H n/\Q (.int n) H) qx:=by
 intro Z H xs d vs O z r e Q k;refine ob e λx c e=>?_;rw[kE c] at r;obtain⟨v,rfl,r1⟩:=r.one_of;cases x with
 | lst o l=>
  cases e;obtain⟨p,ws,g,rfl,a,b⟩:=r1.lst_of;exact⟨_,_,rfl,.inl ⟨ws,a.sq,rfl⟩,by rw[b.length];exact k (Go.id z) .int_mk⟩
 | tup l=>
  cases e;obtain⟨p,ws,rfl,a,b⟩:=r1.tup_of;exact⟨_,_,rfl,.inr ⟨ws,a,rfl⟩,by rw[b.length];exact k (Go.id z) .int_mk⟩
 | str s=>
  refine oc e λf e=>?_;cases e;obtain⟨rfl,_⟩:=r1.str_of;exact⟨_,_,rfl,⟨by rw[Ju];exact Jr f,rfl⟩,by rw[Ju];exact k (Go.id z) .int_mk⟩
 | _=>cases e
noncomputable def xQ:List D->Option (List Int)
 | []=>some []
 | d::l=>match d with
  | .int i=>((xQ l).bind λr=>some<|i::r)
  | _=>none
def Reps.ints:∀{l}{vs}{O}{ns},Reps R Z H l vs O->xQ l=some ns->vs=ns.map V.int:=by
 intro l
 induction l with
 | nil=>intro vs O ns h e;rw[Reps] at h;cases e;exact h.1
 | cons d l a=>
  intro vs O ns h e;obtain⟨v,vs,c,f,rfl,rfl,r1,r2⟩:=h;cases d with
  | int i=>
   refine ob e λr b e=>?_;cases e;rw[a r2 b,r1.int_of.1];rfl
  | _=>cases e
def Yp(l:List D):Option D:=(je2 l).bind λx=>(jko x).bind λl=>(xQ l).bind λns=>some<|.int ns.sum
def jcz:BC R (λxs H Q=>∃(p:Addr) (ns:List Int),xs=[.ref p]/\SqL R.K H p (ns.map V.int)/\Q (.int ns.sum) H) Yp:=by
 intro Z H xs d vs O z r e Q k;refine ob e λx a e=>ob e λl b e=>ob e λns c e=>?_;cases e;obtain⟨o,rfl⟩:=VJ b;rw[kE a] at r;obtain⟨v,rfl,r1⟩:=r.one_of;obtain⟨p,ws,h,rfl,f,g⟩:=r1.lst_of;have:=g.ints c;subst this;exact⟨p,ns,rfl,f.sq,k (Go.id z) .int_mk⟩
def f2I(g:Int->Int->Int)(l:List D):Option D:=(two1 l).bind λp=>two (λi j=>some<|.int<|g i j) p.1 p.2
def jhS:BC R (λxs H Q=>∃ i j,xs=[.int i,.int j]/\Q (.int<|g i j) H) (f2I g):=by
 intro Z H xs d vs O z r e Q k;refine ob e λp a e=>?_;obtain⟨i,j,e2,e3,e⟩:=two_of e;cases e;rw[two1_of a,e2,e3] at r;obtain⟨v,u,b,c,rfl,_,r1,r2⟩:=r.two_of;obtain⟨rfl,_⟩:=r1.int_of;obtain⟨rfl,_⟩:=r2.int_of;exact⟨i,j,rfl,k (Go.id z) .int_mk⟩
abbrev jn2:List D->Option D:=f2I λi j=>if j>i then j else i
abbrev xP:List D->Option D:=f2I λi j=>if j<i then j else i
def jqB:D->Option D
 | .lst _ l=>bif frzs l then some (.lst true l) else none
 | .tup l=>bif frzs l then some (.lst true l) else none
 | _=>none
def K1(l:List D):Option D:=(je2 l).bind jqB
def Vm(l:List D):Option D:=(je2 l).bind λx=>(jko x).bind λl=>bif frzs l then some (.tup l) else none
def jj7:BC R (λxs H Q=>∃ p ys,xs=[.ref p]/\(SqL R.K H p ys\/SqT R.K H p ys)/\∀ l,H l=none->Q (.ref l) (upd H l<|.lst ys)) K1:=by
 intro Z H xs d vs O z r e Q k;refine ob e λx h e=>?_;rw[kE h] at r;obtain⟨v,rfl,r1⟩:=r.one_of;cases x with
 | lst o l=>
  refine oc e λc e=>?_;cases e;obtain⟨p,ws,i,rfl,f,g⟩:=r1.lst_of;exact⟨p,ws,rfl,.inl f.sq,λb a=>k (Go.newO (wf0 z) a)<|Rep.lstNew (wf0 z) a<|g.frozen c⟩
 | tup l=>
  refine oc e λc e=>?_;cases e;obtain⟨p,ws,rfl,f,g⟩:=r1.tup_of;exact⟨p,ws,rfl,.inr f,λb a=>k (Go.newO (wf0 z) a)<|Rep.lstNew (wf0 z) a<|g.frozen c⟩
 | _=>cases e
def jfW:BC R (λxs H Q=>∃ p ys,xs=[.ref p]/\((SqL R.K H p ys/\∀ l,H l=none->Q (.ref l) (upd H l<|.tup ys))\/(SqT R.K H p ys/\Q (.ref p) H))) Vm:=by
 intro Z H xs d vs O z r e Q k;refine ob e λx c e=>ob e λl f e=>oc e λg e=>?_;cases e;obtain⟨o,rfl⟩:=VJ f;rw[kE c] at r;obtain⟨v,rfl,r1⟩:=r.one_of;obtain⟨p,ws,j,rfl,h,i⟩:=r1.lst_of;exact⟨p,ws,rfl,.inl ⟨h.sq,λb a=>k (Go.newF (wf0 z) a)<|Rep.tupNew (wf0 z) a<|i.frozen g⟩⟩
noncomputable def tyD:D->Option String
 | .non=>some "NoneType" | .bl _=>some "bool" | .int _=>some "int" | .str _=>some "str" | .tup _=>some "tuple" | .lst _ _=>some "list"
 | .dK true _ _=>some "dict"
 | _=>none
noncomputable def wL(t T:String):Bool:=t==T||(t=="bool"&&T=="int")
@[simp] def xc(T:String)(pa:PF)(ρ:Rh):Option D:=(pa ρ).bind λd=>(tyD d).bind λt=>some<|.bl<|wL t T
def jj5(K)  (a:t∈["NoneType","bool","int","str","tuple","list","dict"]) (hT:T∈["bool","int","str","tuple","list","dict"]):PySem.W.kitOne K (.type t) (.type T)=some (wL t T):=by
 simp only[M5,List.not_mem_nil,or_false] at a hT;rcases a with rfl | rfl | rfl | rfl | rfl | rfl | rfl<;>rcases hT with rfl | rfl | rfl | rfl | rfl | rfl<;>rfl
def Rep.ty(r:Rep R Z H x v O)(e:tyD x=some t):TyQ R.K H v t/\t∈["NoneType","bool","int","str","tuple","list","dict"]:=by
 cases x with
 | non=>cases e;obtain⟨rfl,_⟩:=r.non_of;exact⟨.non,by simp⟩
 | bl b=>cases e;obtain⟨rfl,_⟩:=r.bl_of;exact⟨.bl _,by simp⟩
 | int i=>cases e;obtain⟨rfl,_⟩:=r.int_of;exact⟨.int _,by simp⟩
 | str s=>cases e;obtain⟨rfl,_⟩:=r.str_of;exact⟨.str _,by simp⟩
 | tup l=>cases e;obtain⟨p,ws,rfl,c,d⟩:=r.tup_of;exact⟨.tup c,by simp⟩
 | lst o l=>cases e;obtain⟨p,ws,f,rfl,c,d⟩:=r.lst_of;exact⟨.lst c.sq,by simp⟩
 | dK o g l=>cases o with
  | false=>cases e
  | true=>cases e;rw[Rep] at r;obtain⟨a,vs,f,rfl,_,_,hd,_⟩:=r;exact⟨.dK hd,by simp⟩
 | _=>cases e
def jlH(hT:T∈["bool","int","str","tuple","list","dict"])  (h:PB R te p):
  PP R (tCB (λxs H Q=>∃ x T t b,xs=[x,.ty T]/\TyQ R.K H x t/\PySem.W.kitOne R.K (.type t) (.type T)=some b/\Q (.bl b) H)<|jW te<|jW (tC<|.ty T) Yw) (xc T p):=by
 intro σ ρ Z H O d z s e Q k;refine ob e λx a e=>ob e λt e2 e=>?_;cases e;refine h z s a λ{v i j l} c r1=>?_;obtain⟨f,g⟩:=r1.ty e2;exact⟨v,T,t,wL t T,rfl,f,jj5 _ g hT,k c .bl_mk⟩
noncomputable def vh:Nat->List D->List D
 | _,[]=>[]
 | k,x::l=>.tup [.int k,x]::vh (k+1) l
theorem JR:∀ k l,(vh k l).length=l.length
 | _,[]=>rfl
 | k,x::l=>by rw[vh,M3,M3,JR]
theorem zV:∀ k l i (y:D),(vh k l)[i]?=some y->∃ x,l[i]?=some x/\y=.tup [.int ((k+i:Nat):Int),x]
 | _,[],_,_,e=>by simp[vh] at e
 | k,x::l,0,y,e=>by simp[vh] at e;exact⟨x,rfl,e.symm⟩
 | k,x::l,i+1,y,e=>by
  obtain⟨z,a,e2⟩:=zV (k+1) l i y (by simpa [vh] using e);exact⟨z,by simpa using a,by rw[e2];congr 3;lia⟩
noncomputable def jdV:List D->List D->List D
 | x::l,y::m=>.tup [x,y]::jdV l m
 | _,_=>[]
def jhO(l:List D):Option (List D):=(je2 l).bind λx=>(jko x).bind λl=>some<|vh 0<|fzs l
@[simp] def Qy(p:PAf)(ρ:Rh):Option (List D):=(p ρ).bind jhO
def jfN(z:Zd Z H)(b:H p=none)(r1:Rep R Z H x u [])(r2:Rep R Z H y v []):Rep R (λa=>Z a\/a=p) (upd H p<|.tup [u,v]) (.tup [x,y]) (.ref p) []:=
 Rep.tupNew (wf0 z) b (.cons r1<|.cons r2 .empty)
def jcB(k:FL R Z H a ws)(rs:Reps R Z H l ws [])(m:L.length=l.length)(o:∀(i:Nat) y,L[i]?=some y->∃ x,l[i]?=some x/\y=.tup [.int<|n+i,x]):jhW R (Itn R.K a n) Z H L:=by
 intro A B d e zd i;have b:=(k.frame d e).sq;have f:=rs.frame d e λa p=>(nomatch p);refine⟨λhi=>⟨ws,b,by rw[f.length,<- m];exact hi⟩,λx r=>?_⟩;obtain⟨y,s,rfl⟩:=o i x r;obtain⟨u,g,v⟩:=f.item s;refine⟨⟨ws,u,b,g⟩,λw C c=>?_⟩;obtain⟨q,t,z,rfl,h,rfl⟩:=c;have j:=z ws b;rw[g] at j;cases j;exact⟨_,Go.newF (wf0 zd) h,jfN zd h .int_mk v⟩
def jfH(h:PPs R ta p):PIt R (ji5 R.K ta) (Qy p):=by
 intro σ ρ Z H O j z s e Q k;refine ob e λx c e=>ob e λy e2 e=>ob e λl e3 e=>?_;cases e;obtain⟨o,rfl⟩:=VJ e3;cases kE e2;refine h z s c λ{vs d m f} g r1=>?_;obtain⟨v,rfl,r2⟩:=r1.one_of;obtain⟨a,ws,n,rfl,i,b,rfl,_⟩:=(r2.freeze (Z':=λa=>d a\/a∈f) (λa z=>.inl z) λa z=>.inr z);exact⟨a,ws,rfl,FL.sq b,k g.fz<|jcB b i (JR _ _) ⇑(zV 0 _)⟩
def jhz(h:ixN n i=some j):j<n:=(uh h).2.1
@[simp] def gIx(pm:List Nat)(i:Nat)(pi:PF)(d:D)(ρ:Rh):Option Rh:=(pi ρ).bind λk=>(vv k).bind λk=>(pV i ρ).bind λx=>(zG x).bind λl=>(ixN l.length k).bind λj=>some<|ρ.set i<|some<|.lst true<|l.set j d
def jc8(rs:Reps R Z H l vs O)(a:j<l.length)(rd:Rep R Z H d u P):∃ O2,Reps R Z H (l.set j d) (vs.set j u) O2/\∀ q,O2.count q<=O.count q+P.count q:=by
 obtain⟨b,c,e,f,g,rfl,h,put⟩:=rs.at (show l[j]?=some l[j] by simp[a]);exact⟨_,put rd (λ_ z=>z) (λ_ _=>rfl) (λ_ _=>rfl)<|λ_ _=>rfl,λq=>by simp only[X0];lia⟩
def jpK(h:PB R te pi):DG R pm (jpQ (yf i) te jeY) (gIx pm i pi):=by
 intro σ ρ A Z H O P d v w r s e Q k;refine ob e λx f e=>ob e λn e3 e=>ob e λy g e=>ob e λl m e=>ob e λj e2 e=>?_;cases e;cases jK e3;cases Y3 m;refine qH Jo w s g rfl YM λa _ vs B c _ o p put=>p<|h w.zd s f λ{u C D E} b r1=>?_;obtain⟨rfl,_⟩:=r1.int_of;obtain⟨F,r2,t⟩:=jc8 (b.reps w.zd c) (jhz e2)<|b.rep w.zd r;obtain⟨G,g3,z⟩:=put YM trivial b r2 λq=>by have:=t q;simp;lia
 exact⟨a,vs,n,j,rfl,rfl,b.at0 o,by rw[c.length];exact e2,k g3 z<|Keep.refl _ _⟩
@[simp] def zB(i:Nat)(pi:PF)(g:Int->Int->Int)(pe:PF)(ρ:Rh):Option Out:=(pi ρ).bind λk=>(vv k).bind λk=>(pV i ρ).bind λx=>(zG x).bind λl=>(ixN l.length k).bind λj=>(l[j]?).bind λy=>(vv y).bind λa=>(pe ρ).bind λz=>(vv z).bind λb=>some<|.nx<|ρ.set i<|some<|.lst true<|l.set j<|.int<|g a b
def jfM(hi:PB R ti pi)(p:PB R te pe):DS R pm (jkn (yf i) ti te (jn0 R.K) (ipI g) jeY) (zB i pi g pe):=by
 intro σ ρ Z H O o w s e F k;refine ob e λc1 r e=>ob e λn t e=>ob e λh v e=>ob e λl e5 e=>ob e λj e2 e=>ob e λG z e=>ob e λx A e=>ob e λI e3 e=>ob e λy e7 e=>?_;cases e;cases jK t;cases Y3 e5;cases jK A;cases jK e7;refine qH (P0:=[]) Jo w s v rfl YM λa _ vs J d _ m B put=>B<|hi w.zd s r λ{u L M N} c r1=>?_;obtain⟨rfl,_⟩:=r1.int_of;obtain⟨P,Q,f,r2⟩:=d.atI (by unfold L2.atI;rw[e2];exact z);obtain⟨rfl,_⟩:=r2.int_of;refine⟨a,vs,n,.int x,rfl,rfl,SqL.of<|c.at0 m,f,p c.wf.zd (c.slots w.zd s) e3 λ{S Z3 T U} g3 C=>?_⟩;obtain⟨rfl,_⟩:=C.int_of;have b:=c.pair g3;obtain⟨V,D,h⟩:=jc8 (b.reps w.zd d) (jhz e2)<|Rep.int_mk;obtain⟨W,g4,E⟩:=put YM trivial b D λq=>by have:=h q;simp at this ⊢;lia
 exact⟨x,y,rfl,rfl,a,vs,n,j,rfl,rfl,b.at0 m,by rw[d.length];exact e2,k g4 E<|Keep.refl _ _⟩
end QD
namespace QD
open PySem L2 PySem.Spec PyProof.Rows
section
variable (c:Nat->Addr)(pm:List Nat)(X:Cx)
structure QP(e:Expr)(te:TE)(p:PF):Prop where
 sem:PE X e te
 den:PP ⟨X.K,c⟩ te p
structure QB(e:Expr)(te:TE)(p:PF):Prop where
 sem:PE X e te
 den:PB ⟨X.K,c⟩ te p
structure QPs(es:List Expr)(ta:TA)(p:PAf):Prop where
 sem:PA X es ta
 den:PPs ⟨X.K,c⟩ ta p
structure QBs(es:List Expr)(ta:TA)(p:PAf):Prop where
 sem:PA X es ta
 den:PBs ⟨X.K,c⟩ ta p
 n:∀ ρ ds,p ρ=some ds->ds.length=es.length
structure QT(e:Expr)(tt:TT)(q:PTf):Prop where
 sem:PT X e tt
 den:PTt ⟨X.K,c⟩ tt q
structure QW(e:Expr)(tt:TT)(q:PTf):Prop where
 sem:PW X e tt
 den:PTt ⟨X.K,c⟩ tt q
structure QI(tg e:Expr)(wi:TI)(p:PAf):Prop where
 sem:PI X tg e wi
 den:PIt ⟨X.K,c⟩ wi p
structure QG(tg:Expr)(t:TG)(g:D->Rh->Option Rh):Prop where
 sem:PG X tg t
 den:PGt ⟨X.K,c⟩ pm t g
structure QGs(tg:List Expr)(t:TGs)(g:List D->Rh->Option Rh):Prop where
 sem:PGs X tg t
 den:jmq ⟨X.K,c⟩ pm t g
structure QE(e:Expr)(te:TE)(f:FE):Prop where
 sem:PE X e te
 den:DE ⟨X.K,c⟩ te f
structure QS(st:Stmt)(ts:TS)(f:FS):Prop where
 sem:PS X st ts
 den:DS ⟨X.K,c⟩ pm ts f
structure QSs(st:List Stmt)(ts:TS)(f:FS):Prop where
 sem:PSs X st ts
 den:DS ⟨X.K,c⟩ pm ts f
structure QO(e:Option Expr)(t:TO)(p:OF):Prop where
 sem:PO X e t
 den:PO' ⟨X.K,c⟩ t p
structure QIf(ifs:List Expr)(tc:TT)(q:PTf):Prop where
 sem:PIf X ifs tc
 den:PTt ⟨X.K,c⟩ tc q
end
section
variable {cl:Nat->Addr}{pm:List Nat}{X:Cx}{a b c e o:Expr}{es:List Expr}{ta tb tc te:TE}{pa pb pc pe:PF}{tA tB:TT}{qa qb:PTf}{tr:TA}{pr:PAf}{pos:Pos}
def QP.bb(h:QP cl X e te pe):QB cl X e te pe:=⟨h.sem,PP.b h.den⟩
def QB.f(h:QB cl X e te pe):QP cl X e te (pF pe):=⟨h.sem,PB.f h.den⟩
def QP.d(h:QP cl X e te pe):QE cl X e te (dP pe):=⟨h.sem,PP.d h.den⟩
def joK(i){x}(b:X.N[i]?=some x:=by rfl)(c:Vis X.env.scope x:=by first | exact Or.inl rfl | exact Or.inr (Or.inl rfl) | exact Or.inr<|Or.inr rfl)(hd:Nd x:=by decide)
  (a:(x==("__classdict__" : Str))=false:=by decide):QB cl X (.Name x pos) (yf i) (pV i):=⟨jhj b c hd a,jhp⟩
def jqz(i){x}(b:X.N[i]?=some x:=by rfl)(c:Vis X.env.scope x:=by first | exact Or.inl rfl | exact Or.inr (Or.inl rfl) | exact Or.inr<|Or.inr rfl)(hd:Nd x:=by decide)
  (a:(x==("__classdict__" : Str))=false:=by decide):QE cl X (.Name x pos) (yf i) (dMv i):=⟨jhj b c hd a,jnp⟩
def jmD{i}{j}:QP cl X (.Constant (.int i) j pos) (tC<|.int i) (pI i):=⟨jne,jnw λ_ _=>.int_mk⟩
def jqP{i}{j}:QP cl X (.Constant (.bool i) j pos) (tC<|.bl i) (pC<|.bl i):=⟨joG,jnw λ_ _=>.bl_mk⟩
def jpI{j}:QP cl X (.Constant .none j pos) (tC .non) (pC .non):=⟨jmt,jnw λ_ _=>.non_mk⟩
def jph{x}{j}(l)(h:x=S l):QP cl X (.Constant (.str x) j pos) (tC<|.str x) (pS l):=⟨jmF,by subst h;exact jnw λ_ _=>.str_mk⟩
def jqH{x}{p}(d)(a:X.mg x=some (.ref p))(b:∀ Z H,Rep ⟨X.K,cl⟩ Z H d (.ref p) [])(c:Gl X x:=by rfl)(hd:Nd x:=by decide):QP cl X (.Name x pos) (tC<|.ref p) (pC d):=
 ⟨jh6 c a rfl hd,jnw b⟩
def jmO(c:QB cl X a ta pa)(d:QB cl X b tb pb):QP cl X (.BinOp a .Add b pos) (tOp (jec X.K) ta tb) (p2 ji pa pb):=⟨Q5 jeH c.sem d.sem,QC jg6 c.den d.den⟩
def jo5(c:QB cl X a ta pa)(d:QB cl X b tb pb):QP cl X (.BinOp a .Sub b pos) (tOp (rI0 λi j=>.int<|i-j) ta tb) (p2 Ys pa pb):=⟨Q5 jmV c.sem d.sem,QC jmG c.den d.den⟩
def jpw(c:QB cl X a ta pa)(d:QB cl X b tb pb):QP cl X (.BinOp a .Mult b pos) (tOp jjg ta tb) (p2 yV pa pb):=⟨Q5 jjU c.sem d.sem,QC jlE c.den d.den⟩
def jpN(c:QB cl X a ta pa)(d:QB cl X b tb pb):QP cl X (.BinOp a .FloorDiv b pos) (tOp (rI (λ_ j=>jbe j=true) λi j=>.int<|i/j) ta tb) (p2 jG pa pb):=⟨Q5 jfm c.sem d.sem,QC jlJ c.den d.den⟩
def joC(c:QB cl X a ta pa)(d:QB cl X b tb pb):QP cl X (.BinOp a .Mod b pos) (tOp (rI (λ_ j=>0<j) λi j=>.int<|i%j) ta tb) (p2 jn pa pb):=⟨Q5 jhN c.sem d.sem,QC jht c.den d.den⟩
def jo1(c:QB cl X a ta pa)(d:QB cl X b tb pb):QP cl X (.BinOp a .Pow b pos) (tOp (rI joj λi j=>.int<|i ^ j.toNat) ta tb) (p2 Jx pa pb):=⟨Q5 jmy c.sem d.sem,QC jk0 c.den d.den⟩
def jo3(b:QB cl X a ta pa):QP cl X (.UnaryOp .USub a pos) (tUn (rU λi=>.int<|-i) ta) (p1 V2 pa):=⟨jpE jmn b.sem,jpS jl0 b.den⟩
def joT(b:QB cl X a ta pa):QP cl X (.UnaryOp .Not a pos) (jh7 ta) (jo9 pa):=⟨jlM b.sem,jni b.den⟩
structure CmpR(cl:Nat->Addr)(X:Cx)(op:CmpOp)(b:Expr)(r:R2)(g:D->D->Option D):Prop where
 o:OpR X (compareOp op) r
 g:BO ⟨X.K,cl⟩ r g
 m:behindInMarks op b=false
def jqv:CmpR cl X .Lt b (rI0 λi j=>.bl<|decide<|i<j) jkW:=⟨joh,jpO,Kc _⟩
def jqM:CmpR cl X .Gt b (rI0 λi j=>.bl<|decide<|j<i) Y5:=⟨joF,jpO,Kc _⟩
def jqA:CmpR cl X .GtE b (rI0 λi j=>.bl<|decide<|j<=i) jpl:=⟨jpe,jpO,Kc _⟩
def jqq:CmpR cl X .Is b (λx y H Q=>y=.non/\Q (.bl<|decide<|x=.non) H) jfT:=⟨jm9,jpB,Kc _⟩
def c_in(a:behindInMarks .In b=false):CmpR cl X .In b (jhd X.K false) (Y1 false):=⟨jlF,jiO,a⟩
def c_notin(a:behindInMarks .NotIn b=false):CmpR cl X .NotIn b (jhd X.K true) (Y1 true):=⟨jet,jiO,a⟩
def jpA{c}{r}{g}(h:CmpR cl X c b r g)(d:QB cl X a ta pa)(e:QB cl X b tb pb):QP cl X (.Compare a [c] [b] pos) (tOp r ta tb) (p2 g pa pb):=⟨jjP h.o d.sem e.sem h.m,QC h.g d.den e.den⟩
def jmv{c}{r}{g}(h:CmpR cl X c b r g)(d:QB cl X a ta pa)(e:QB cl X b tb pb):QT cl X (.Compare a [c] [b] pos) (VH<|tOp r ta tb) (jj<|p2 g pa pb):=⟨jd9 h.o d.sem e.sem h.m,jcH<|PP.b<|QC h.g d.den e.den⟩
def jn5(b:QB cl X a ta pa)(c:∀ whole,isTrue a X.env whole=(do let v <- whole;standAt a.pos;holding [v] (truthy v)):=by intro _;rfl):QT cl X a (L2.tB ta) (jj pa):=⟨jk3 b.sem c,jcH b.den⟩
def jnR(b:QT cl X a tA qa):QT cl X (.UnaryOp .Not a pos) (joD tA) (jkS qa):=⟨jnH b.sem,jiN b.den⟩
def jkq(b:QT cl X a tA qa):QW cl X (.BoolOp .And [a] pos) tA qa:=⟨jeU b.sem,b.den⟩
def jmI(b:QT cl X a tA qa):QW cl X (.BoolOp .Or [a] pos) tA qa:=⟨jhh b.sem,b.den⟩
def jlh(c:QT cl X a tA qa)(d:QW cl X (.BoolOp .And (b::es) pos) tB qb):QW cl X (.BoolOp .And (a::b::es) pos) (jnh tA tB) (u9 qa qb):=⟨jhu c.sem d.sem,jlB c.den d.den⟩
def jo2(c:QT cl X a tA qa)(d:QW cl X (.BoolOp .Or (b::es) pos) tB qb):QW cl X (.BoolOp .Or (a::b::es) pos) (tOr tA tB) (qOr qa qb):=⟨jnC c.sem d.sem,jpW c.den d.den⟩
def QW.t(h:QW cl X a tA qa):QT cl X a tA qa:=⟨PW.pt h.sem,h.den⟩
def jpm{b}(h:QP cl X a ta pa):QP cl X (.BoolOp b [a] pos) ta pa:=⟨jl7 h.sem,h.den⟩
def joB(c:QB cl X a ta pa)(d:QP cl X (.BoolOp .And (b::es) pos) tb pb):QP cl X (.BoolOp .And (a::b::es) pos) (jh8 ta tb) (jkG pa pb):=⟨jmH c.sem d.sem,jmL c.den d.den⟩
def jqN(d:QT cl X c tA qa)(e:QP cl X a ta pa)(f:QP cl X b tb pb):QP cl X (.IfExp c a b pos) (tIf tA ta tb) (pIf qa pa pb):=⟨jfd d.sem e.sem f.sem,jo0 d.den e.den f.den⟩
def jmE:QPs cl X [] Yw pN:=⟨kg,pps_nil⟩
def jiX(a:QP cl X e te pe)(b:QPs cl X es tr pr)(c:SEq X e es:=by rfl):QPs cl X (e::es) (jW te tr) (ja pe pr):=⟨jN a.sem b.sem c,jgf a.den b.den⟩
def jnU:QBs cl X [] Yw pN:=⟨kg,jen,λρ a e=>by cases e;rfl⟩
def jif(b:QB cl X e te pe)(a:QBs cl X es tr pr)(c:SEq X e es:=by rfl):QBs cl X (e::es) (jW te tr) (ja pe pr):=
 ⟨jN b.sem a.sem c,jgM b.den a.den,λρ f h=>by
  refine ob h λx g h=>ob h λd e2 h=>?_;cases h;rw[M3,M3,a.n ρ d e2]⟩
def jpD{a}(h:QPs cl X es tr pr):QP cl X (.Tuple es a pos) (jbh tr) (yD pr):=⟨JM h.sem,jmA h.den⟩
def joS(h:QPs cl X es tr pr):QP cl X (.List es pos) (joR tr) (YE pr):=⟨jk1 h.sem,jl1 h.den⟩
def jp4(c:QB cl X a ta pa)(d:QB cl X b tb pb)(e:KS b:=by exact λ_ _=>rfl):QB cl X (.Subscript a b pos) (tOp (rIx X.K) ta tb) (p2 jd pa pb):=⟨jnS jhq c.sem d.sem e,jox jle c.den d.den⟩
def jkE:QO cl X none wY oN:=⟨jjs,jqL⟩
def jjy(h:QB cl X e te pe):QO cl X (some e) (jjh te) (oS pe):=⟨jj1 h.sem,jqr h.den⟩
def jp6{lo hi}{tl th}{pl c}{b}(d:QB cl X a ta pa)(e:QO cl X lo tl pl)(f:QO cl X hi th c):QP cl X (.Subscript a (.Slice lo hi none b) pos) (tSl (joe X.K) ta tl th) (pSl pa pl c):=
 ⟨jgy jqG d.sem e.sem f.sem,jpF d.den e.den f.den⟩
def OkF(P:Program)(w:World)(K:W4)(mg:W6)(x:Str)(st:Stmt)(k:Nat)(ps:List Str)(sp:Sp):Prop:=∃ f fd,FnFact K mg x x st f fd ps/\∀ base,FnOk P w K mg base CX0 k f fd ps sp
def jhH{k n}{ps}{m}{x}{st}{p}(O:OkF X.prog X.w X.K X.mg x st k ps<|spP ⟨X.K,cl⟩ m n)(d:Room k X.A)
  (a:QBs cl X (e::es) tr pr) (f:(e::es).length=n:=by rfl) (g:Gl X x:=by rfl) (b:Nd x:=by decide)
  (i:SEq X e es:=by rfl) (c:BkE X pos es:=by rfl):QP cl X (.Call (.Name x p) (e::es) [] pos) (qP (spP ⟨X.K,cl⟩ m n) [] E0 tr) (jv m pr):=by
 obtain⟨_,_,F,G⟩:=O;exact⟨jgu F (G _) d a.sem g b i c,jd0 a.den λρ j h=>(a.n ρ j h).trans f⟩
def jku{k n}{f}{fd}{ps}{m}{x qual}{st}{p}(F:FnFact X.K X.mg x qual st f fd ps)(G:FnOk X.prog X.w X.K X.mg X.base CX0 k f fd ps<|spP ⟨X.K,cl⟩ m n)(b:Room k X.A)
  (c:0=n:=by rfl) (d:Gl X x:=by rfl) (a:Nd x:=by decide):QP cl X (.Call (.Name x p) [] [] pos) (qP (spP ⟨X.K,cl⟩ m n) [] E0 Yw) (jv m pN):=
 ⟨jmN F G b d a,jd0 jen λρ e h=>by cases h;exact c⟩
def qW{x}{p}{id}{r}{g}(d:kR X (.builtin id) r)(f:BC ⟨X.K,cl⟩ r g)(h:X.mg x=none)(i:bootBuiltins x=some (.builtin id))(c:QBs cl X (e::es) tr pr)(j:Gl X x:=by rfl)
  (k:x≠"__name__":=by decide) (a:Nd x:=by decide) (l:SEq X e es:=by rfl) (b:BkE X pos es:=by rfl):
  QP cl X (.Call (.Name x p) (e::es) [] pos) (tCB r tr) (pCB g pr):=⟨QH d j h i c.sem k a l b,jkb f c.den⟩
def K3{x}{p}{T}{r}{g}(d:kR X (.type T) r)(f:BC ⟨X.K,cl⟩ r g)(h:X.mg x=none)(i:bootBuiltins x=some (.type T))(c:QBs cl X (e::es) tr pr)(j:Gl X x:=by rfl)
  (k:x≠"__name__":=by decide) (a:Nd x:=by decide) (l:SEq X e es:=by rfl) (b:BkE X pos es:=by rfl):
  QP cl X (.Call (.Name x p) (e::es) [] pos) (tCB r tr) (pCB g pr):=⟨z4 d j h i c.sem k a l b,jkb f c.den⟩
def jpp(b:X.mg "len" = none){p}(c:QBs cl X [e] tr pr)(d:Gl X "len":=by rfl)(f:starEach [e] X.env=(false,eval e X.env)::starEach [] X.env:=by rfl)(a:(backTo pos<|starEach [] X.env).any (·.1)=false:=by rfl):
  QP cl X (.Call (.Name "len" p) [e] [] pos) (tCB (λxs H Q=>∃ x n,xs=[x]/\joI X.K x H n/\Q (.int n) H) tr) (pCB qx pr):=qW jgk jlV b PySem.boot_len c d (by decide) (by decide) f a
def kJ:bootBuiltins "sum" = some (.builtin "sum"):=by decide +kernel
def jc5:bootBuiltins "max" = some (.builtin "max"):=by decide +kernel
def zT:bootBuiltins "min" = some (.builtin "min"):=by decide +kernel
def YS:bootBuiltins "isinstance" = some (.builtin "isinstance"):=by decide +kernel
def xh:bootBuiltins "int" = some (.type "int"):=by decide +kernel
def jed:bootBuiltins "str" = some (.type "str"):=by decide +kernel
def Yz:bootBuiltins "list" = some (.type "list"):=by decide +kernel
def VI:bootBuiltins "tuple" = some (.type "tuple"):=by decide +kernel
def ja7:bootBuiltins "bool" = some (.type "bool"):=by decide +kernel
def jbo:bootBuiltins "dict" = some (.type "dict"):=by decide +kernel
def jcg{T}{x}{p p1}(hT:T∈["bool","int","str","tuple","list","dict"])(j:X.mg "isinstance" = none)(c:X.mg x=none)(d:bootBuiltins x=some (.type T))(h:QB cl X a ta pa)(k:Gl X "isinstance":=by rfl)(e:Gl X x:=by rfl)
  (l:x≠"__name__":=by decide) (f:Nd x:=by decide) (i:starEach [a,.Name x p1] X.env=(false,eval a X.env)::starEach [.Name x p1] X.env:=by rfl) (g:(backTo pos<|starEach [.Name x p1] X.env).any (·.1)=false:=by rfl)
  (h1:starEach [.Name x p1] X.env=(false,eval (.Name x p1) X.env)::starEach [] X.env:=by rfl):
  QP cl X (.Call (.Name "isinstance" p) [a,.Name x p1] [] pos) (tCB (λxs H Q=>∃ x T t b,xs=[x,.ty T]/\TyQ X.K H x t/\PySem.W.kitOne X.K (.type t) (.type T)=some b/\Q (.bl b) H)<|jW ta<|jW (tC<|.ty T) Yw) (xc T pa):=
 ⟨QH xC k j YS (jN h.sem (jN (jh2 e c d rfl l f) kg h1) i) (by decide) (by decide) i g,jlH hT h.den⟩
variable {tg iter elt:Expr}{ifs:List Expr}{wi:TI}{pi:PAf}{t:TG}{g:D->Rh->Option Rh}
def jnx(h:QP cl X e te pe):QI cl X tg e (jkU X.K te) (pIt pe):=⟨jhA h.sem,jpf h.den⟩
def jkg{p}(b:X.mg "range" = none)(h:QBs cl X [a] tr pr)(c:Gl X "range":=by rfl)(d:starEach [a] X.env=[(false,eval a X.env)]:=by rfl):QI cl X tg (.Call (.Name "range" p) [a] [] pos) (jeQ tr) (kI pr):=⟨zR c b h.sem d,jky h.den⟩
def jiE{elts}{n}{tpos p}(b:X.mg "enumerate" = none)(h:QPs cl X [a] tr pr)(c:Gl X "enumerate":=by rfl)(d:starEach [a] X.env=[(false,eval a X.env)]:=by rfl):QI cl X (.Tuple elts n tpos) (.Call (.Name "enumerate" p) [a] [] pos) (ji5 X.K tr) (Qy pr):=⟨jhX c b h.sem d,jfH h.den⟩
def jhZ{i}{x}(a:X.N.Nodup)(hi:X.N[i]?=some x:=by rfl)(b:Loc X.env.scope x:=by first | exact Or.inl rfl | exact Or.inr rfl)(c:X.fn x=true\/X.env.scope.names.lookup x=some .local:=by first | exact .inl rfl | exact .inr rfl):
  QG cl pm X (.Name x pos) (vw i) (jc pm i):=⟨jcN a hi b c,jgA⟩
def ji2:QGs cl pm X [] jdv gN:=⟨ji4,jfC⟩
def jfX{ts}{a}(h1:QG cl pm X e t g)(h2:QGs cl pm X es ts a)(b:(assignEach (e::es) X.env).map (·.2)=assign e X.env::(assignEach es X.env).map (·.2):=by rfl):QGs cl pm X (e::es) (k8 t ts) (gC g a):=⟨jf9 h1.sem h2.sem b,jdh h1.den h2.den⟩
def jhv{ts}{b}{k n}(c:X.calm=true)(h:QGs cl pm X es ts b)(d:(assignEach es X.env).length=n:=by rfl)(a:(assignEach es X.env).findIdx? (·.1)=none:=by rfl):QG cl pm X (.Tuple es k pos) (jbS X.K n ts) (gT n b):=⟨jmS c h.sem d a,jkr h.den⟩
def jaO:QIf cl X [] (λ_ H Q=>Q true H) qT:=⟨.inl ⟨rfl,rfl⟩,jkv⟩
def jgc(h:QT cl X c tA qa):QIf cl X [c] tA qa:=⟨.inr ⟨c,rfl,h.sem⟩,h.den⟩
variable {st:Stmt}{rest:List Stmt}{ts tu:TS}{f fe:FS}{fE:FE}
def jje:QSs cl pm X [] jh4 jM:=⟨jil,jiK⟩
def jhY(h:QS cl pm X st ts f):QSs cl pm X [st] ts f:=⟨jiw h.sem,h.den⟩
def jfc(h:QS cl pm X st ts f)(k:QSs cl pm X rest tu fe):QSs cl pm X (st::rest) (jpk ts tu) (jf f fe):=⟨jf7 h.sem k.sem,jls h.den k.den⟩
def jjo(h:QE cl X e te fE)(a:swapsWith e none pos.line X.env=pure false:=by rfl):QS cl pm X (.Expr e pos) (YT te) (Q6 fE):=⟨Vf h.sem a,jiW h.den⟩
def jk2(h:QE cl X e te fE):QS cl pm X (.Return (some e) pos) (jov te) (yd fE):=⟨jmJ h.sem,jmd h.den⟩
def jpa{x y}(a:QT cl X c tA qa)(b:QSs cl pm X x ts f)(e:QSs cl pm X y tu fe):QS cl pm X (.If c x y pos) (joa tA ts tu) (sIf (dPT qa) f fe):=⟨jk4 a.sem b.sem e.sem,jlY (PTt.d a.den) b.den e.den⟩
def jm2{i}{x}{pos'}(a:X.N.Nodup)(h:QE cl X e te fE)(hi:X.N[i]?=some x:=by rfl)(b:Loc X.env.scope x:=by first | exact Or.inl rfl | exact Or.inr rfl)(c:swapsWith e (some<|.Name x pos') pos.line X.env=pure false:=by rfl)
  (d:X.fn x=true\/X.env.scope.names.lookup x=some .local:=by first | exact .inl rfl | exact .inr rfl):QS cl pm X (.Assign [.Name x pos'] e pos) (jhw te<|vw i) (jt fE<|jc pm i):=⟨jnP a hi b h.sem c d,jaa h.den VD⟩
@[simp] def sAsgT(fe:FE)(G:D->Rh->Option Rh)(ρ:Rh):Option Out:=(fe ρ).bind λx=>(bif frz x.1 then G x.1 x.2 else none).bind λr=>some<|.nx r
def jgg{i}{x}{a c}(d:QB cl X (.Name x a) (yf i)<|pV i)(hi:QB cl X b tb pb)(h:QE cl X e te fE)
  (f:∀ v,assign (.Subscript (.Name x a) b c) X.env v=(do
   let ov <- holding [v] (eval (.Name x a) X.env)
   let iv <- holding [v,ov] (eval b X.env)
   standAt c
   holding [v,ov,iv] (setItem ov iv v)
   release [v,ov,iv] []):=by intro _;rfl)
  (g:swapsWithSole [.Subscript (.Name x a) b c] e pos.line X.env=pure false:=by rfl) (j:swappedStores [.Subscript (.Name x a) b c] e X.env=pure none:=by rfl)
  (h1:(assignEach [.Subscript (.Name x a) b c] X.env).map (·.2)=[assign (.Subscript (.Name x a) b c) X.env]:=by rfl):
  QS cl pm X (.Assign [.Subscript (.Name x a) b c] e pos) (jhw te<|jpQ (yf i) tb jeY) (jt fE<|gIx pm i pb):=⟨jlc h.sem (jmh d.sem hi.sem uQ f) g j h1,jaa h.den<|jpK hi.den⟩
def jgT:jp1 X (jn0 X.K):=by
 intro a s σ H o i A B Q I r1 r2 h;obtain⟨p,C,k,z,rfl,rfl,m,n,q⟩:=h;cases r1;obtain⟨t,rfl⟩:=r2;obtain⟨d,r,pl,D⟩:=I.list m;obtain⟨j,c,u,E,v,x⟩:=Qh n;obtain⟨w,g,e⟩:=r.get u;have y:=r.length;have F:=z6;have b:EP X a σ Q w s:=⟨z,H,I,e,q⟩;by_cases l:0<=k
 ·have f:k.toNat=j:=by
   rw[seqIndex_of l x] at c;exact X8 c
  exact wpAny_getItem_list pl.isList l ∅ (by rw[f];simpa using g) b
 ·have f:(k+d.toArray.size).toNat=j:=by
   rw[seqIndex_neg ∅ v] at c;rw[N5,<- y];exact X8 c
  exact wpAny_getItem_list_neg pl.isList ∅ (by rw[N5]<;>lia) ∅ (by rw[f];simpa using g) b
def je9{i}{x}{a c}{f}{d}(g:QB cl X (.Name x a) (yf i)<|pV i)(hi:QB cl X b tb pb)(j:PIp X f<|ipI d)(h:QB cl X e te pe)
  (k:∀ ov iv new,augStore b ov iv new=(do holding [new,ov,iv] (setItem ov iv new);release [new,ov,iv] [];pure .next):=by intros;rfl):QS cl pm X (.AugAssign (.Subscript (.Name x a) b c) f e pos) (jkn (yf i) tb te (jn0 X.K) (ipI d) jeY) (zB i pb d pe):=
 ⟨jie g.sem hi.sem jgT h.sem j uQ k,jfM hi.den h.den⟩
@[simp] def jfq(pm:List Nat)(i:Nat)(g:Int->Int->Int)(pa:PF)(ρ:Rh):Option Out:=(pV i ρ).bind λx=>(vv x).bind λa=>(pa ρ).bind λy=>(vv y).bind λb=>(jc pm i (.int<|g a b) ρ).bind λr=>some<|.nx r
def jiF{R}{i}{b}{p}(h:PB R te p):DS R pm (jpt i te<|ipI b) (jfq pm i b p):=by
 intro σ ρ Z H O o w s e n k;refine ob e λc1 a e=>ob e λx e3 e=>ob e λq f e=>ob e λy g e=>ob e λt e2 e=>?_;cases e;cases jK e3;cases jK g;have a:=YR a;obtain⟨A,P,B,rfl,j,_,_⟩:=s.put (L9.mp a).1;obtain⟨v,l,r⟩:=j _ a;obtain⟨rfl,_⟩:=r.int_of;refine⟨_,l,h w.zd s f λ{u z C D} c r1=>?_⟩;obtain⟨rfl,_⟩:=r1.int_of;have d:=c.widen w;exact⟨x,y,rfl,rfl,VD d.wf (Rep.int_mk) (c.slots w.zd s) e2 λg2 s2 m=>k (d.trans g2) s2 m⟩
def jio{i}{x}{pos'}{b}{a}(c:X.N.Nodup)(d:PIp X b<|ipI a)(h:QB cl X e te pe)(hi:X.N[i]?=some x:=by rfl)(f:Loc X.env.scope x:=by first | exact Or.inl rfl | exact Or.inr rfl)
  (g:X.fn x=true\/X.env.scope.names.lookup x=some .local:=by first | exact .inl rfl | exact .inr rfl):QS cl pm X (.AugAssign (.Name x pos') b e pos) (jpt i te<|ipI a) (jfq pm i a pe):=⟨jmZ c hi f h.sem d g,jiF h.den⟩
def jng{i}{x}{a apos cpos}(j:QB cl X (.Name x a) (yf i)<|pV i)(h:QP cl X e te pe)(c:attributeBase (.Name x a) "append" X.env (eval (.Name x a) X.env)=eval (.Name x a) X.env:=by rfl)
  (f:((backTo cpos<|starEach [e] X.env).all (λx=>!x.1)&&(backToKw cpos<|keywordEach [] X.env).all (λx=>x.1.isSome)
   && decide ([e].length+([]:List Keyword).length+(if([]:List Keyword).isEmpty then 0 else 1)<30))=true:=by rfl)
  (d:(apos.endLine==cpos.line)=true:=by rfl) (g:starEach [e] X.env=(false,eval e X.env)::starEach [] X.env:=by rfl) (b:(backTo cpos<|starEach [] X.env).any (·.1)=false:=by rfl)
  (hsw:swapsWith (.Call (.Attribute (.Name x a) "append" apos) [e] [] cpos) none pos.line X.env=pure false:=by rfl):
  QS cl pm X (.Expr (.Call (.Attribute (.Name x a) "append" apos) [e] [] cpos) pos) (YT<|tBM X.K "list" Jy (yf i)<|jW te Yw) (jcI i pe):=
 ⟨Vf (jb8 PySem.F.plainAttrs_list PySem.F.slot_list_append PySem.F.type_list_append J5 j.sem (jN h.sem kg g) c f d g b) hsw,jme h.den⟩
def jnB{body}(c:PassesOwn (model X.prog X.w) X.A X.env X.xe)(d:X.calm=true)(hi:QI cl X tg iter wi pi)(a:QG cl pm X tg t g)(b:QSs cl pm X body ts f)(e:∀ x,foldedSetIterable iter X.env x=pure x:=by intro _;rfl):QS cl pm X (.For tg iter body [] pos) (jk6 wi t ts) (qC pi g f):=
 ⟨jhB c d hi.sem a.sem b.sem e,jnf hi.den a.den b.den⟩
def QS.fz(i)(h:QS cl pm X st ts f):QS cl pm X st ts (sFz i f):=⟨h.sem,jow h.den⟩
def jpR{P}{w}{K}{mg}{base}{x qual}{a}{fa}{fd}{N ps}{k n}{fs}(F:Fun K x qual a fa fd)(c:FnScope N ps<|jD a)(d:ps.length=n)
  (b:∀ cdv A outer s H E,Room k (A.deeper<|envOfC qual (jD a) ↥s fa cdv) ->
   ∃ ts,QSs cl [] (jhK CX0 P w K mg base N qual (jD a) fa cdv A outer s H E).nox (vT a) ts fs):FnOk P w K mg base CX0 (k+1) fa fd ps (spP ⟨K,cl⟩ (fnP N.length fs) n):=by
 refine F.ok c (λvs H Q E h=>by rw[jiH h,d]) λcdv A outer s H vs Q E e h=>?_;obtain⟨ts,q⟩:=b cdv A outer s H E e;exact⟨ts,q.sem,ji7 q.den h⟩
end
mutual
noncomputable def jc3:D->PyData
 | .non=>.none | .bl b=>.bool b | .int i=>.int i | .str s=>.str<|S s
 | .tup l=>.tuple<|qw l
 | .lst _ l=>.list<|qw l
 | .dK _ _ _=>.none | .dT _ _ _=>.none | .ins _ _ _ _=>.none | .dead=>.none | .tok _=>.none | .kt _=>.none | .exc _ _=>.none
noncomputable def qw:List D->List PyData
 | []=>[]
 | d::l=>jc3 d::qw l
end
mutual
noncomputable def okE:Nat->D->Bool
 | _,.non=>true | _,.bl _=>true | _,.int _=>true
 | _,.str s=>s.all λc=>decide<|c<1114112
 | n+1,.tup l=>kG n l
 | n+1,.lst _ l=>kG n l
 | _,_=>false
noncomputable def kG:Nat->List D->Bool
 | _,[]=>true
 | n,d::l=>okE n d&&kG n l
end
mutual
noncomputable def eqD:D->D->Bool
 | .non,y=>match y with | .non=>true | _=>false
 | .bl a,y=>match y with | .bl b=>a==b | .int j=>(if a then 1 else 0)==j | _=>false
 | .int i,y=>match y with | .bl b=>i==(if b then 1 else 0) | .int j=>i==j | _=>false
 | .str a,y=>match y with | .str b=>a==b | _=>false
 | .tup l,y=>match y with | .tup m=>xO l m | _=>false
 | .lst _ l,y=>match y with | .lst _ m=>xO l m | _=>false
 | _,_=>false
noncomputable def xO:List D->List D->Bool
 | [],[]=>true
 | x::l,y::m=>eqD x y&&xO l m
 | _,_=>false
end
noncomputable def jqO:D->Bool
 | .non=>true | .bl _=>true | .int _=>true | .str _=>true | .tup _=>true | .lst _ _=>true | _=>false
def yF{n x}{p:Prop}(h:okE n x=true)(k:jqO x=false):p:=by
 cases x<;>cases k<;>cases n<;>cases h
theorem Qx:∀ n l,kG n l=l.all (okE n)
 | _,[]=>rfl
 | n,d::l=>by rw[kG,Qx n l];rfl
mutual
theorem jcY:∀(n:Nat) (x y:D),okE n x=true->okE n y=true->PyData.eqv (jc3 x) (jc3 y)=eqD x y
 | n,.non,y,hx,hy=>by cases y<;>first | rfl | (cases n<;>simp_all [okE])
 | n,.bl a,y,hx,hy=>by cases y<;>first | rfl | (cases n<;>simp_all [okE])
 | n,.int a,y,hx,hy=>by cases y<;>first | rfl | (cases n<;>simp_all [okE])
 | n,.str a,y,hx,hy=>by
  cases y with
  | str b=>
   show(S a==S b)=(a==b);rw[Bool.eq_iff_iff];simp[jpo]
  | _=>first | rfl | (cases n<;>simp_all [okE])
 | 0,.tup l,y,hx,hy=>by simp[okE] at hx
 | n+1,.tup l,y,hx,hy=>by
  cases y with
  | tup m=>show PyData.eqvAll (qw l) (qw m)=xO l m;exact wk n l m (by simpa [okE] using hx) (by simpa [okE] using hy)
  | _=>first | rfl | (simp_all [okE])
 | 0,.lst o l,y,hx,hy=>by simp[okE] at hx
 | n+1,.lst o l,y,hx,hy=>by
  cases y with
  | lst o' m=>show PyData.eqvAll (qw l) (qw m)=xO l m;exact wk n l m (by simpa [okE] using hx) (by simpa [okE] using hy)
  | _=>first | rfl | (simp_all [okE])
 | n,.dK _ _ _,y,hx,hy=>yF hx rfl
 | n,.dT _ _ _,y,hx,hy=>yF hx rfl
 | n,.ins _ _ _ _,y,hx,hy=>yF hx rfl
 | n,.dead,y,hx,hy=>yF hx rfl
 | n,.tok _,y,hx,hy=>yF hx rfl
 | n,.kt _,y,hx,hy=>yF hx rfl
 | n,.exc _ _,y,hx,hy=>yF hx rfl
theorem wk:∀(n:Nat) (l m:List D),kG n l=true->kG n m=true->PyData.eqvAll (qw l) (qw m)=xO l m
 | n,[],[],_,_=>rfl
 | n,[],_::_,_,_=>rfl
 | n,_::_,[],_,_=>rfl
 | n,x::l,y::m,hx,hy=>by
  rw[kG,M0] at hx hy;show(PyData.eqv (jc3 x) (jc3 y)&&PyData.eqvAll (qw l) (qw m))=(eqD x y&&xO l m);rw[jcY n x y hx.1 hy.1,wk n l m hx.2 hy.2]
end
mutual
theorem jaQ:∀(n:Nat) (x:D),okE n x=true->(jc3 x).canLay0=true/\(jc3 x).depth<=n
 | n,.non,_=>⟨rfl,U7 _⟩
 | n,.bl _,_=>⟨rfl,U7 _⟩
 | n,.int _,_=>⟨rfl,U7 _⟩
 | n,.str s,h=>by
  refine⟨?_,U7 _⟩;have h:(s.all λc=>decide<|c<1114112)=true:=by cases n<;>simpa [okE] using h
  show PyData.strOk (S s)=true;unfold PyData.strOk S;rw[Array.all_eq_true'];intro c hc;rw[List.all_eq_true] at h;exact h c ⇑hc
 | 0,.tup l,h=>by simp[okE] at h
 | n+1,.tup l,h=>by
  obtain⟨h1,h2⟩:=VF n l (by simpa [okE] using h);exact⟨h1,Nat.succ_le_succ h2⟩
 | 0,.lst o l,h=>by simp[okE] at h
 | n+1,.lst o l,h=>by
  obtain⟨h1,h2⟩:=VF n l (by simpa [okE] using h);exact⟨h1,Nat.succ_le_succ h2⟩
 | n,.dK _ _ _,hx=>yF hx rfl
 | n,.dT _ _ _,hx=>yF hx rfl
 | n,.ins _ _ _ _,hx=>yF hx rfl
 | n,.dead,hx=>yF hx rfl
 | n,.tok _,hx=>yF hx rfl
 | n,.kt _,hx=>yF hx rfl
 | n,.exc _ _,hx=>yF hx rfl
theorem VF:∀(n:Nat) (l:List D),kG n l=true->PyData.canLayAll0 (qw l)=true/\PyData.depthAll (qw l)<=n
 | n,[],_=>⟨rfl,U7 _⟩
 | n,x::l,h=>by
  rw[kG,M0] at h;obtain⟨h1,h2⟩:=jaQ n x h.1;obtain⟨h3,h4⟩:=VF n l h.2;rw[qw];refine⟨?_,?_⟩
  ·show((jc3 x).canLay0&&PyData.canLayAll0 (qw l))=true;rw[h1,h3];rfl
  ·show max (jc3 x).depth (PyData.depthAll<|qw l)<=n;exact Nat.max_le.mpr ⟨h2,h4⟩
end
mutual
theorem Rep.reads(I:Inv X pins σ H s):∀(n:Nat) {x:D}{v:V}{u:Value}{O:W5},Rep ⟨X.K,cl⟩ Z H x v O->RelV v u->okE n x=true->∃ as,Reads s.heap u (jc3 x) as
 | n,.non,_,_,_,r,q,_=>by obtain⟨rfl,_⟩:=r.non_of;cases q;exact⟨_,.none⟩
 | n,.bl b,_,_,_,r,q,_=>by obtain⟨rfl,_⟩:=r.bl_of;cases q;exact⟨_,.bool b⟩
 | n,.int i,_,_,_,r,q,_=>by obtain⟨rfl,_⟩:=r.int_of;obtain⟨t,rfl⟩:=q;exact⟨_,.int i t⟩
 | n,.str w,_,_,_,r,q,_=>by obtain⟨rfl,_⟩:=r.str_of;obtain⟨t,rfl⟩:=q;exact⟨_,.str _ t⟩
 | 0,.tup l,_,_,_,r,q,h=>by simp[okE] at h
 | n+1,.tup l,_,_,_,r,q,h=>by
  obtain⟨a,vs,rfl,hx,rs⟩:=r.tup_of;cases q;obtain⟨its,rv,⟨o,h1,h2,k,h3⟩,_⟩:=I.tuple hx;obtain⟨as,hr⟩:=Reps.reads I n rs rv (by simpa [okE] using h);exact⟨_,reads_tuple_at h1 h2 h3 ⇑hr⟩
 | 0,.lst o l,_,_,_,r,q,h=>by simp[okE] at h
 | n+1,.lst o l,_,_,_,r,q,h=>by
  obtain⟨a,vs,O',rfl,hx,rs⟩:=r.lst_of;cases q;obtain⟨its,rv,⟨o,k,h1,h2,_,h3⟩,_⟩:=I.list hx.sq;obtain⟨as,hr⟩:=Reps.reads I n rs rv (by simpa [okE] using h);exact⟨_,reads_list_at h1 h2 h3 ⇑hr⟩
 | n,.dK _ _ _,_,_,_,_,_,hx=>yF hx rfl
 | n,.dT _ _ _,_,_,_,_,_,hx=>yF hx rfl
 | n,.ins _ _ _ _,_,_,_,_,_,hx=>yF hx rfl
 | n,.dead,_,_,_,_,_,hx=>yF hx rfl
 | n,.tok _,_,_,_,_,_,hx=>yF hx rfl
 | n,.kt _,_,_,_,_,_,hx=>yF hx rfl
 | n,.exc _ _,_,_,_,_,_,hx=>yF hx rfl
theorem Reps.reads(I:Inv X pins σ H s):∀(n:Nat) {l:List D}{vs:List V}{us:List Value}{O:W5},Reps ⟨X.K,cl⟩ Z H l vs O->Vals vs us->kG n l=true->∃ as,ReadsAll s.heap us (qw l) as
 | n,[],_,_,_,r,q,_=>by rw[Reps] at r;obtain⟨rfl,_⟩:=r;cases q;exact⟨_,.nil⟩
 | n,x::l,_,_,_,r,q,h=>by
  rw[Reps] at r;obtain⟨v,vs,O1,O2,rfl,rfl,r1,r2⟩:=r;rw[kG,M0] at h;cases q with
  | cons q1 q2=>
   obtain⟨as,h1⟩:=Rep.reads I n r1 q1 h.1;obtain⟨bs,h2⟩:=Reps.reads I n r2 q2 h.2;exact⟨_,.cons h1 h2⟩
end
def jkl(R:RC)(neg:Bool):R2:=λx y H Q=>∃ Z d e O P,Rep R Z H d x O/\Rep R Z H e y P/\okE 20 d=true/\okE 20 e=true/\Q (.bl<|neg != eqD d e) H
def jof(h:okE 20 x=true):SeqAt.shaped (jc3 x)=true:=by
 obtain⟨a,b⟩:=jaQ 20 x h;unfold SeqAt.shaped;rw[a,Bool.true_and];exact X5<|N9 b (by decide)
def jmc(f:X.A.units+64<cLine):OpR X (compareOp .Eq) (jkl ⟨X.K,cl⟩ false):=by
 intro c s σ H x y v u Q I g i h;obtain⟨Z,d,e,O,P,r1,r2,a,b,q⟩:=h;obtain⟨l,j⟩:=r1.reads I 20 g a;obtain⟨bs,k⟩:=r2.reads I 20 i b;refine eq_dataH j k (jof a) (jof b) f ?_;rw[jcY 20 d e a b];exact⟨.bl _,H,I,rfl,by simpa using q⟩
def jnc(f:X.A.units+64<cLine):OpR X (compareOp .NotEq) (jkl ⟨X.K,cl⟩ true):=by
 intro c s σ H x y v u Q I g i h;obtain⟨Z,d,e,O,P,r1,r2,a,b,q⟩:=h;obtain⟨l,j⟩:=r1.reads I 20 g a;obtain⟨bs,k⟩:=r2.reads I 20 i b;refine ne_dataH j k (jof a) (jof b) f ?_;rw[jcY 20 d e a b];exact⟨.bl _,H,I,rfl,by simpa using q⟩
def kH(x y:D):Option D:=bif JF x&&JF y&&Q7 x y then some (.bl<|eqF x y) else bif okE 20 x&&okE 20 y then some (.bl<|eqD x y) else none
def Kh(x y:D):Option D:=bif JF x&&JF y&&Q7 x y then some (.bl<|!eqF x y) else bif okE 20 x&&okE 20 y then some (.bl<|!eqD x y) else none
def jpg:BO R (λx y H Q=>rEq x y H Q\/jkl R false x y H Q) kH:=by
 intro Z H x y d v u f g z b c e Q k;unfold kH at e;cases hl:JF x&&JF y&&Q7 x y with
 | true=>
  rw[hl] at e;cases e;obtain⟨h,i⟩:=jdm b c hl;exact .inl ⟨h,by rw[i];exact k (Go.id z) .bl_mk⟩
 | false=>
  rw[hl,cond_false] at e;refine oc e λa e=>?_;cases e;rw[M0] at a;exact .inr ⟨Z,x,y,f,g,b,c,a.1,a.2,by simpa using k (Go.id z) .bl_mk⟩
def joM:BO R (λx y H Q=>rNe x y H Q\/jkl R true x y H Q) Kh:=by
 intro Z H x y d v u f g z b c e Q k;unfold Kh at e;cases hl:JF x&&JF y&&Q7 x y with
 | true=>
  rw[hl] at e;cases e;obtain⟨h,i⟩:=jdm b c hl;exact .inl ⟨h,by rw[i];exact k (Go.id z) .bl_mk⟩
 | false=>
  rw[hl,cond_false] at e;refine oc e λa e=>?_;cases e;rw[M0] at a;exact .inr ⟨Z,x,y,f,g,b,c,a.1,a.2,by simpa using k (Go.id z) .bl_mk⟩
def jql(a:Room k X.A):CmpR cl X .Eq b (λx y H Q=>rEq x y H Q\/jkl ⟨X.K,cl⟩ false x y H Q) kH:=⟨YJ jos<|jmc a.units,jpg,Kc _⟩
def c_ne(a:Room k X.A):CmpR cl X .NotEq b (λx y H Q=>rNe x y H Q\/jkl ⟨X.K,cl⟩ true x y H Q) Kh:=⟨YJ joV<|jnc a.units,joM,Kc _⟩
def BM(R:RC)(T:String)(r:V->List V->Hp->VK->Prop)(g:D->List D->Option D):Prop:=∀{Z}{H}{x d}{xs}{v}{vs}{O1 O2},Zd Z H->Rep R Z H x v O1->Reps R Z H xs vs O2->g x xs=some d ->
 ∀{Q},(∀{w}{Z'}{H'}{P},Go Z H [] Z' H' P->Rep R Z' H' d w P->Q w H')->r v vs H Q
noncomputable def isT:String->D->Bool
 | "str",.str _=>true
 | _,_=>false
@[simp] def pBM(T:String)(g:D->List D->Option D)(pa:PF)(pr:PAf)(ρ:Rh):Option D:=(pa ρ).bind λx=>bif isT T x then(pr ρ).bind λxs=>g x xs else none
def jnD(r:Rep R Z H x v O)(h:isT T x=true):tyV R.K T v H:=by
 unfold isT at h;split at h
 ·obtain⟨rfl,_⟩:=r.str_of;rfl
 ·cases h
def joi(b:BM R T r g)(c:PB R to pa)(f:PBs R ta pr):PP R (tBM R.K T r to ta) (pBM T g pa pr):=by
 intro σ ρ Z H O d z s e Q k;exact ob e λx h e=>oc e λi e=>ob e λl e2 e=>(c z s h λ{v m n o} a r1=>⟨jnD r1 i,(f a.wf.zd (a.slots z s) e2 λ{vs p q t} g2 r2=>(b g2.wf.zd (g2.rep a.wf.zd r1) r2 e λg3 j=>k ((a.pair g2).pair g3) j))⟩)
end QD
namespace QD
open PySem L2
section
variable {R:RC}{Z Z':Zn}{H H':Hp}{pm:List Nat}
def ItB(R:RC)(J:It)(Z:Zn)(H:Hp)(xs:List D):Prop:=∀{Z1}{H1},(∀ a,Z a->Z1 a)->(∀ a,H a≠none->H1 a=H a)->Zd Z1 H1->∀ i:Nat,
 (xs.length<=i->J.stop i H1)/\∀ x,xs[i]?=some x->J.go i H1/\∀ u H2,J.yld i H1 u H2->∃ Z2,Go Z1 H1 [] Z2 H2 []/\Rep R Z2 H2 x u []
def jn8(R:RC)(wi:TI)(p:PAf):Prop:=∀{σ}{ρ}{Z}{H}{O}{xs},Zd Z H->Slots R Z H ρ σ O->p ρ=some xs ->
 ∀{Q:It->Hp->Prop},(∀{J}{Z'}{H'},Go Z H [] Z' H' []->ItB R J Z' H' xs->Q J H')->wi σ H Q
def PIt.b(h:PIt R wi p):jn8 R wi p:=by
 intro σ ρ Z H O j z s e Q k;refine h z s e λg c=>k g ?_;intro l m d f zd i;exact c d (λa z=>f a<|g.wf.zd a z) zd i
def itB:D->Option (List D)
 | .lst _ l=>bif frzs l then some l else none
 | .tup l=>bif frzs l then some l else none
 | .str s=>some<|s.map λc=>.str [c]
 | _=>none
@[simp] def Jm(p:PF)(ρ:Rh):Option (List D):=(p ρ).bind itB
def jgI(b:∀ a,H a≠none->H' a=H a)(h:SqX K H a vs):SqX K H' a vs:=by
 rcases h with h | h
 ·refine .inl<|Rd.agree (b a ?_) h;rcases h with h | ⟨o,h⟩<;>rw[h]<;>exact λz=>(nomatch z)
 ·exact .inr h
def jgE(b:∀ a,H a≠none->H' a=H a)(h:SqT K H a vs):SqT K H' a vs:=by
 rcases h with h | h
 ·refine .inl<|Rd.agree (b a ?_) h;rcases h with h | ⟨o,h⟩<;>rw[h]<;>exact λz=>(nomatch z)
 ·exact .inr h
def jlZ(h:PB R te p):jn8 R (jkU R.K te) (Jm p):=by
 intro σ ρ Z H O P z s e Q k;refine ob e λc C e=>?_;cases c with
 | lst o l=>
  refine oc e λD e=>?_;cases e;refine h z s C λ{v I J L} f r1=>?_;obtain⟨a,vs,S,rfl,q,r⟩:=r1.lst_of;have E:=r.frozen D;refine .inl ⟨a,rfl,⟨vs,q.sq⟩,k f ?_⟩;intro B M y g zd i;have d:=SqX.sq<|jgI g q;have j:=E.frame y (λb z=>g b<|f.wf.zd b z) λb F=>(nomatch F);refine⟨λhi=>⟨vs,d,by rw[r.length];exact hi⟩,λx m=>?_⟩;obtain⟨u,A,G⟩:=j.item m;refine⟨⟨vs,u,d,A⟩,λw N n=>?_⟩;obtain⟨rfl,n⟩:=n;have e2:=n vs d;rw[A] at e2;cases e2;exact⟨B,Go.id zd,G⟩
 | tup l=>
  refine oc e λD e=>?_;cases e;refine h z s C λ{v I J L} f r1=>?_;obtain⟨a,vs,rfl,q,r⟩:=r1.tup_of;refine .inr<|.inl ⟨a,rfl,⟨vs,q⟩,k f ?_⟩;intro B M y g zd i;have d:=jgE g q;have j:=(r.frozen D).frame y (λb z=>g b<|f.wf.zd b z) λb F=>(nomatch F);refine⟨λhi=>⟨vs,d,by rw[r.length];exact hi⟩,λx m=>?_⟩;obtain⟨u,A,G⟩:=j.item m;refine⟨⟨vs,u,d,A⟩,λw N n=>?_⟩;obtain⟨rfl,n⟩:=n;have e2:=n vs d;rw[A] at e2;cases e2;exact⟨B,Go.id zd,G⟩
 | str t=>
  cases e;refine h z s C λ{v I J L} f r1=>?_;obtain⟨rfl,_⟩:=r1.str_of;refine .inr<|.inr ⟨t,rfl,k f ?_⟩;intro B M y g zd i;exact jg9 y (λb z=>g b<|f.wf.zd b z) zd i
 | _=>cases e
inductive CpI (R:RC) (g:D->Rh->Option Rh) (q:PTf) (p:PF) (Z0:Zn) (H0:Hp) (a:Addr) (xs all:List D) (i m:Nat) (σ2:L2.St) (H2:Hp):Prop
 | mk:m=xs.length-i->i<=xs.length->∀(ρ2:Rh) (Z2:Zn) (O2:W5) (ys:List D) (vs:List V) (Py:W5) (rest:List D),Go Z0 H0 [] Z2 H2 (a::Py)->H2 a=some (.lst vs)->Reps R Z2 H2 ys vs Py->(∀ b∈O2,b≠a)->Slots R Z2 H2 ρ2 σ2 O2->jU g q p (xs.drop i) ρ2=some rest->all=ys++rest->ys.length<=i->CpI R g q p Z0 H0 a xs all i m σ2 H2
def qY{tg}{tc}{te}{g}{q}{p}{ix}(hg:PGt R [] tg g)(hq:PTt R tc q)(he:PP R te p)
  {J:It}{h:Zn}{c:Hp}{ρ:Rh}{σ:L2.St}{O:W5}{xs all:List D}(x:Zd h c) (s:Slots R h c ρ σ O) (it:ItB R J h c xs) (hl:lim xs.length=true) (e2:jU g q p xs (jk ix ρ)=some all)
  {Q:VK}(k:∀{v}{Z'}{H'}{P},Go h c [] Z' H' P->Rep R Z' H' (.lst true all) v P->Q v H'):∀ a,c a=none->jaq tc te tg J a (yt ix σ) (upd c a<|.lst []) λH2=>Q (.ref a) H2:=by
 intro a X;obtain⟨Oi,Y⟩:=VS s ix;have Z:Go h c [] h (upd c a<|.lst []) [a]:=Go.newO (wf0 x) X;refine⟨CpI R g q p h c a xs all,
  ⟨xs.length,rfl,U7 _,_,h,Oi,[],[],[],all,Z,jl,Reps.empty,λb d e=>Y.dom b d<|e▸X,Z.slots x Y,e2,rfl,N1 _⟩,?_⟩
 rintro i m σ2 H2 ⟨rfl,L,ρ2,Z2,O2,ys,vs,n,rest,g2,M,G,N,s2,e3,H,o⟩;have A:=it g2.zz (g2.same) g2.wf.zd i;by_cases C:i<xs.length
 ·right
  have hx:xs[i]?=some xs[i]:=by simp
  obtain⟨go,yl⟩:=A.2 _ hx;refine⟨go,λu H3 hy=>?_⟩;obtain⟨Z3,g3,r3⟩:=yl u H3 hy;rw[qJ hx] at e3;refine ob e3 λρ3 e5 e3=>(hg r3 (g3.slots g2.wf.zd s2) e5 λ{σ4 O4} sub nd I _=>(ob e3 λb e6 e3=>(hq g3.wf.zd I e6 λ{Z5 H5} E=>?_)));have j:=g3.pair E;cases b with
  | true=>
   refine je1<|ob e3 λy e7 e3=>ob e3 λS e8 e3=>?_;cases e3;refine he E.wf.zd (E.slots g3.wf.zd I) e7 λ{K t l w} g6 r6=>?_;have r:Go Z2 H2 [] t l w:=by simpa using j.pair g6
   have T:l a=some (.lst vs):=by rw[r.same a ∅];exact M
   have U:vs.length<sizeLine:=by
    rw[G.length];exact Vh<|X5<|N9 o<|N9 L<|X7 hl
   have gA:Go h c [] t l (a::n++w):=by
    have f:=r.frame (B:=[]) ⇑g2.wf;exact g2.trans ⇑f
   have V:=gA.wf;have gB:Go t l (a::n++w) t (upd l a<|.lst<|vs++[K]) (a::n++w):=Go.put V L7;have ne:∀ b,b∈n++w->upd l a (.lst<|vs++[K]) b=l b:=λb d=>je λz=>(List.nodup_cons.mp V.nd).1 (z▸d);have F:∀ b,t b->upd l a (.lst<|vs++[K]) b=l b:=λb d=>je λz=>V.nz a L7<|z▸d;refine⟨vs,T,U,xs.length-(i+1),by lia,rfl,C,ρ3,t,O4,ys++[y],vs++[K],n++w,S,gA.trans gB,jl,?_,λb d=>N b<|sub b d,(((E.pair g6).slots g3.wf.zd I).frame (λb z=>z) F λb d=>je<|N b<|sub b d),e8,by rw[H];simp,by rw[N6];exact Nat.add_le_add_right o 1⟩
   ·refine((r.reps g2.wf.zd G).append (.one r6)).frame (λb z=>z) F ne
  | false=>
   refine jfL ?_;have gA:Go h c [] Z5 H5 (a::n):=by
    exact g2.trans (by simpa using(j.frame (B:=[]) ⇑g2.wf))
   exact⟨xs.length-(i+1),by lia,rfl,C,ρ3,Z5,O4,ys,vs,n,rest,gA,by rw[j.same a ∅];exact M,j.reps g2.wf.zd G,λb d=>N b<|sub b d,E.slots g3.wf.zd I,e3,H,Nat.le_succ_of_le o⟩
 ·left
  have W:i=xs.length:=by lia
  refine⟨A.1 ∅,?_⟩;rw[W,List.drop_length] at e3;cases e3;rw[N2] at H;subst H;exact k g2 ⟨a,vs,n,rfl,G,M,rfl⟩
def K2{wi}{tg}{tc}{te}{pi}{g}{q}{p}{ix}(hi:jn8 R wi pi)(b:PGt R [] tg g)(c:PTt R tc q)(f:PP R te p):
  PP R (Yu wi tg tc te ix) (jZ pi g q p ix):=by
 intro σ ρ Z H O d z s e Q k;refine ob e λm h e=>oc e λi e=>ob e λall e2 e=>?_;cases e;exact hi z s h λ{J n o} a j=>(qY b c f a.wf.zd (a.slots z s) j i e2 λl r1=>k ⇑(a.pair l) r1)
end
section
variable {cl:Nat->Addr}{pm:List Nat}{X:Cx}{c e elt tg iter:Expr}{te:TE}{pe:PF}{ifs:List Expr}{wi:TI}{pi:PAf}{t:TG}{g:D->Rh->Option Rh}{pos:Pos}{ts:TS}{f:FS}
structure QIb(cl:Nat->Addr)(X:Cx)(tg e:Expr)(wi:TI)(p:PAf):Prop where
 sem:PI X tg e wi
 den:jn8 ⟨X.K,cl⟩ wi p
def QI.b'(h:QI cl X tg e wi pi):QIb cl X tg e wi pi:=⟨h.sem,PIt.b h.den⟩
def jew(h:QB cl X e te pe):QIb cl X tg e (jkU X.K te) (Jm pe):=⟨jhA h.sem,jlZ h.den⟩
def jj6{scope}{N'}{ix}{a}{c}(B:BlockOk X scope N' ix)(f:X.calm=true)(hi:QIb cl X tg iter wi pi)
  (d:∀ C s H fp,QG cl [] (jI X scope N' C s H fp) tg t g) (b:∀ C s H fp,QIf cl (jI X scope N' C s H fp) ifs a c) (e:∀ C s H fp,QP cl (jI X scope N' C s H fp) elt te pe)
  (h:∀ x,foldedSetIterable iter X.env x=pure x:=by intro _;rfl):QP cl X (.ListComp elt [⟨tg,iter,ifs,0⟩] scope pos) (Yu wi t a te ix) (jZ pi g c pe ix):=
 ⟨wQ B f hi.sem (λC s H fp=>(d C s H fp).sem) (λC s H fp=>(b C s H fp).sem) (λC s H fp=>(e C s H fp).sem) h,
  K2 hi.den (d 0 X.s₀ X.H₀ []).den (b 0 X.s₀ X.H₀ []).den (e 0 X.s₀ X.H₀ []).den⟩
def wu{i}{x}{pos' a}{scope}{N'}{ix}{b}{f}(B:BlockOk X scope N' ix)(k:X.calm=true)(hi:QIb cl X tg iter wi pi)
  (h:∀ C s H fp,QG cl [] (jI X scope N' C s H fp) tg t g) (c:∀ C s H fp,QIf cl (jI X scope N' C s H fp) ifs b f) (j:∀ C s H fp,QP cl (jI X scope N' C s H fp) elt te pe)
  (l:X.N.Nodup) (e:X.N[i]?=some x:=by rfl) (m:Loc X.env.scope x:=by first | exact Or.inl rfl | exact Or.inr rfl)
  (hsw:swapsWith (.ListComp elt [⟨tg,iter,ifs,0⟩] scope pos) (some<|.Name x pos') a.line X.env=pure true:=by with_unfolding_all rfl)
  (n:∀ x,foldedSetIterable iter X.env x=pure x:=by intro _;rfl)
  (o:X.fn x=true\/X.env.scope.names.lookup x=some .local:=by first | exact .inl rfl | exact .inr rfl):
  QS cl pm X (.Assign [.Name x pos'] (.ListComp elt [⟨tg,iter,ifs,0⟩] scope pos) a) (jhw (Yu wi t b te ix)<|vw i) (jt (dP<|jZ pi g f pe ix)<|jc pm i):=
 ⟨Ko B k hi.sem (λC s H fp=>(h C s H fp).sem) (λC s H fp=>(c C s H fp).sem) (λC s H fp=>(j C s H fp).sem) l e m hsw n o,
  jaa (PP.d<|K2 hi.den (h 0 X.s₀ X.H₀ []).den (c 0 X.s₀ X.H₀ []).den (j 0 X.s₀ X.H₀ []).den) VD⟩
end
@[simp] def pV0:pV 0 (o::ρ)=o:=by unfold pV;cases o<;>rfl
@[simp] def pVs:pV (i+1) (o::ρ)=pV i ρ:=rfl
@[simp] def gN_e:gN [] ρ=some ρ:=rfl
@[simp] def gC_e:gC G Gs (d::r) ρ=(G d ρ).bind λρ1=>Gs r ρ1:=rfl
@[simp] def gT_e:gT n Gs (.tup l) ρ=bif decide (l.length=n) then Gs l ρ else none:=rfl
@[simp] def itB_lst(o)(l):itB (.lst o l)=bif frzs l then some l else none:=rfl
@[simp] def itB_tup(l):itB (.tup l)=bif frzs l then some l else none:=rfl
@[simp] def itB_str(l):itB (.str l)=some (l.map λc=>D.str [c]):=rfl
@[simp] def enumOf_e(o)(l):jhO [.lst o l]=some (vh 0<|fzs l):=rfl
def zJ(h:-(2 ^ 62)<j)(k:j<2 ^ 62):Kt j=true:=Nat.ble_eq_true_of_le ∅
def yA(h:-(2 ^ 62)<j)(k:j<2 ^ 62):Km [.int j]=some (qe 0 j.toNat):=by
 show(bif Kt j then some (qe 0 j.toNat) else none)=_;rw[zJ h k];rfl
def jy(n)(f)(ds):fnP n f ds=(f<|ds.map some++List.replicate (n-ds.length) none).bind Out.val:=rfl
@[simp] def sLoop_nil:j8 G f [] ρ=some (.nx ρ):=rfl
def yz:j8 G f (x::xs) ρ=(G x ρ).bind λr=>(f r).bind λo=>o.loop (j8 G f xs):=rfl
@[simp] def cLoop_nil:jU G q p [] ρ=some []:=rfl
def yS:jU G q p (x::xs) ρ=(G x ρ).bind λr=>(q r).bind λb=>bif b then((p r).bind λy=>(jU G q p xs r).bind λys=>some<|y::ys) else jU G q p xs r:=rfl
def vM(P:Nat->Rh->Prop)(step:∀ i x ρ,xs[i]?=some x->P i ρ->∃ ρ1 ρ2,G x ρ=some ρ1/\(f ρ1=some (.nx ρ2)\/f ρ1=some (.ct ρ2))/\P (i+1) ρ2)  (c:P 0 ρ):
  ∃ ρ',j8 G f xs ρ=some (.nx ρ')/\P xs.length ρ':=by
 have key:∀ n i ρ,xs.length-i=n->i<=xs.length->P i ρ->∃ ρ',j8 G f (xs.drop i) ρ=some (.nx ρ')/\P xs.length ρ':=by
  intro n
  induction n with
  | zero=>
   intro i ρ d hi p;have:i=xs.length:=by lia
   subst this;exact⟨ρ,by rw[List.drop_length];rfl,p⟩
  | succ n e=>
   intro i ρ d hi p;have a:i<xs.length:=by lia
   have b:xs[i]?=some xs[i]:=by simp[a]
   obtain⟨ρ1,ρ2,g,e2,p2⟩:=step i _ ρ b p;obtain⟨ρ',e3,p3⟩:=e (i+1) ρ2 ∅ a p2;refine⟨ρ',?_,p3⟩;rw[qJ b,yz,g];rcases e2 with e2 | e2<;>simp[e2,e3]
 exact key _ 0 ρ rfl (U7 _) c
def jq{G}{xs}{l:List α}{en}{out}(a:xs=l.map en)(P:Rh->Prop)(step:∀ x∈l,∀ ρ,P ρ->∃ ρ1,G (en x) ρ=some ρ1/\p ρ1=some (out x)/\P ρ1){ρ}(b:P ρ):jU G qT p xs ρ=some (l.map out):=by
 subst a
 induction l generalizing ρ with
 | nil=>rfl
 | cons x l c=>
  obtain⟨ρ1,d,e2,p1⟩:=step x L7 ρ b;rw[L5,yS,d];simp[e2,c (λy e=>step y<|L6 _ e) p1]
@[simp] def cond_dec(p) [Decidable p] (x y:α):(bif decide p then x else y)=if p then x else y:=by by_cases h:p<;>simp[h]
@[simp] def cond_beq_int(i j:Int)(x y:α):(bif i==j then x else y)=if i=j then x else y:=by
 by_cases h:i=j
 ·subst h;simp
 ·rw[if_neg h,U4.mpr h];rfl
@[simp] def ite_bind(p) [Decidable p] (x y:Option α) (f:α->Option β):(if p then x else y).bind f=if p then x.bind f else y.bind f:=by by_cases h:p<;>simp[h]
@[simp] def add_ii(i j):ji (.int i) (.int j)=some (.int<|i+j):=rfl
@[simp] def sub_ii(i j):Ys (.int i) (.int j)=some (.int<|i-j):=rfl
def qv(h:i.natAbs<2 ^ 1000)(k:j.natAbs<2 ^ 1000):yV (.int i) (.int j)=some (.int<|i*j):=by
 show(bif jn4 i&&jn4 j then some (D.int<|i*j) else none)=_;rw[jeT h,jeT k];rfl
def jA(h:0<j)(k:j<2 ^ 300):jG (.int i) (.int j)=some (.int<|i/j):=by
 show(bif decide (0<j)&&decide (j<2 ^ 300) then some (D.int<|i/j) else none)=_;rw[X5 h,X5 k];rfl
def jh(h:0<j):jn (.int i) (.int j)=some (.int<|i%j):=by
 show(bif decide (0<j) then some (D.int<|i%j) else none)=_;rw[X5 h];rfl
@[simp] def opB_ii(g)(i j):opB g (.int i) (.int j)=some (.bl<|g i j):=rfl
@[simp] def eq_ii(i j):kH (.int i) (.int j)=some (.bl<|i==j):=rfl
@[simp] def ne_ii(i j):Kh (.int i) (.int j)=some (.bl<|!(i==j)):=rfl
@[simp] def jbZ(g)(i j):f2I g [.int i,.int j]=some (.int<|g i j):=rfl
@[simp] def frz_int(i):frz (.int i)=true:=rfl
@[simp] def frz_bl(i):frz (.bl i)=true:=rfl
@[simp] def frz_str(i):frz (.str i)=true:=rfl
@[simp] def frz_non:frz .non=true:=rfl
@[simp] def fz_int(i):fz (.int i)=.int i:=rfl
@[simp] def fz_bl(i):fz (.bl i)=.bl i:=rfl
@[simp] def fz_str(i):fz (.str i)=.str i:=rfl
@[simp] def fz_non:fz .non=.non:=rfl
@[simp] def fz_lst(o)(l):fz (.lst o l)=.lst false (fzs l):=rfl
@[simp] def fz_tup(l):fz (.tup l)=.tup (fzs l):=rfl
@[simp] def frz_lst(o)(l):frz (.lst o l)=(!o&&frzs l):=rfl
@[simp] def frz_tup(l):frz (.tup l)=frzs l:=rfl
@[simp] def fzs_nil:fzs []=[]:=rfl
@[simp] def jgW(d)(l):fzs (d::l)=fz d::fzs l:=rfl
@[simp] def frzs_nil:frzs []=true:=rfl
@[simp] def Yb(d)(l):frzs (d::l)=(frz d&&frzs l):=rfl
@[simp] def clean_int(i):yZ (.int i)=true:=rfl
@[simp] def clean_bl(i):yZ (.bl i)=true:=rfl
@[simp] def clean_str(i):yZ (.str i)=true:=rfl
@[simp] def clean_non:yZ .non=true:=rfl
@[simp] def clean_lst(o)(l):yZ (.lst o l)=(o&&yk l):=rfl
@[simp] def clean_tup(l):yZ (.tup l)=yk l:=rfl
@[simp] def cleans_nil:yk []=true:=rfl
@[simp] def cleans_cons(d)(l):yk (d::l)=(yZ d&&yk l):=rfl
@[simp] def fzs_ints(l:List Int):fzs (l.map D.int)=l.map D.int:=by
 rw[kC,U3];rfl
@[simp] def frzs_ints(l:List Int):frzs (l.map D.int)=true:=by
 rw[Yd,List.all_map,List.all_eq_true];intro x _;rfl
theorem yx:∀ l:List D,yk l=l.all yZ
 | []=>rfl
 | d::l=>by rw[yk,yx l];rfl
@[simp] def cleans_ints(l:List Int):yk (l.map D.int)=true:=by
 rw[yx,List.all_map,List.all_eq_true];intro x _;rfl
@[simp] def intsD_ints(l):xQ (l.map D.int)=some l:=by
 induction l with
 | nil=>rfl
 | cons x l a=>show(xQ<|l.map D.int).bind _=_;rw[a];rfl
@[simp] def fSum_lst(o)(l):Yp [.lst o l]=(xQ l).bind λns=>some (.int ns.sum):=rfl
@[simp] def fLen_lst(o)(l):qx [.lst o l]=some (.int l.length):=rfl
@[simp] def fLen_tup(l):qx [.tup l]=some (.int l.length):=rfl
@[simp] def fList_lst(o)(l):K1 [.lst o l]=bif frzs l then some (.lst true l) else none:=rfl
@[simp] def itemsOf_lst(o)(l):Qf (.lst o l)=some (fzs l):=rfl
@[simp] def itemsOf_tup(l):Qf (.tup l)=some (fzs l):=rfl
@[simp] def tyD_int(i):tyD (.int i)=some "int":=rfl
@[simp] def tyD_bl(i):tyD (.bl i)=some "bool":=rfl
@[simp] def tyD_str(i):tyD (.str i)=some "str":=rfl
@[simp] def tyD_non:tyD .non=some "NoneType":=rfl
@[simp] def tyD_lst(o)(l):tyD (.lst o l)=some "list":=rfl
@[simp] def tyD_tup(l):tyD (.tup l)=some "tuple":=rfl
theorem zF:∀(l m:List Int),xO (l.map D.int) (m.map D.int)=decide (l=m)
 | [],[]=>rfl
 | [],_::_=>rfl
 | _::_,[]=>rfl
 | x::l,y::m=>by
  show((x==y)&&xO (l.map D.int) (m.map D.int))=_;rw[zF l m];by_cases h:x=y<;>simp[h]
def xH(n)(l:List Int):kG n (l.map D.int)=true:=by
 rw[Qx,List.all_map,List.all_eq_true];intro x _;cases n<;>rfl
def jim(o o')(l m:List Int):kH (.lst o<|l.map D.int) (.lst o'<|m.map D.int)=some (.bl<|decide<|l=m):=by
 show(bif okE 20 (.lst o<|l.map D.int)&&okE 20 (.lst o'<|m.map D.int) then some (D.bl<|xO (l.map D.int)<|m.map D.int) else none)=_;rw[zF];show(bif kG 19 (l.map D.int)&&kG 19 (m.map D.int) then _ else _)=_;rw[xH,xH];rfl
def jnV{c}{m}{ns:List Int}(h:m [.lst false<|ns.map D.int]=some (.bl true))(d:SqX K H a<|ns.map V.int):spP ⟨K,c⟩ m 1 [.ref a] H (λv _=>v=.bl true) E:=by
 refine⟨λb=>b=a/\H a≠none,[.lst false<|ns.map D.int],.bl true,λb e=>by rw[e.1];exact e.2,rfl,.one ?_,h,λg r=>r.bl_of.1⟩;have f:∀(l:List Int),Reps ⟨K,c⟩ (λb=>b=a/\H a≠none) H (l.map D.int) (l.map V.int) []:=by
  intro l
  induction l with
  | nil=>exact .empty
  | cons x l i=>exact .cons .int_mk i
 refine⟨a,ns.map V.int,[],rfl,f ns,⟨?_,rfl,rfl⟩⟩;rcases d with d | d
 ·refine .inl ⟨⟨rfl,?_⟩,d⟩;rcases d with d | ⟨o,d⟩<;>rw[d]<;>exact λz=>(nomatch z)
 ·exact .inr d
end QD
namespace L2
open PySem PySem.Spec PyProof.Rows
theorem Vt:∀{ws}{us},Vals (ws.map V.str) us->∃ l:List (Str×Tok),us=strValues l/\l.map (·.1)=ws
 | [],us,h=>by
  cases h;exact⟨[],rfl,rfl⟩
 | w::ws,us,h=>by
  cases h with
  | cons a b=>
   obtain⟨t,rfl⟩:=a;obtain⟨l,rfl,e⟩:=Vt b;exact⟨(w,t)::l,rfl,by rw[L5,e]⟩
def jkI{X}:MtR X "str.join" (λx vs H Q=>∃ a p ws,x=.str a/\vs=[.ref p]/\SqL X.K H p (ws.map V.str)/\JoinOk a ws=true/\Q (.str<|Txt.join a ws) H):=by
 intro c s σ H x vs v j Q I d b h;obtain⟨a,p,ws,rfl,rfl,f,hok,q⟩:=h;obtain⟨t,rfl⟩:=d;obtain⟨u,rfl,g⟩:=b.one;cases g;obtain⟨i,b,pl,m⟩:=I.list f;obtain⟨l,rfl,e⟩:=Vt b;exact SC.join pl.isList e hok λn k=>⟨.str _,H,I.tok _,⟨_,rfl⟩,q⟩
end L2
namespace QD
open PySem L2 PySem.Spec PyProof.Rows
noncomputable def V3(sep:List Nat):List (List Nat)->List Nat
 | []=>[]
 | [x]=>x
 | x::y::r=>x++sep++V3 sep (y::r)
theorem jce(a):∀ ws:List (List Nat),Str.join (S a) (ws.map S)=S (V3 a ws)
 | []=>rfl
 | [x]=>rfl
 | x::y::r=>by
  show S x++S a++Str.join (S a) ((y::r).map S)=_;rw[jce a<|y::r,jkh,jkh];rfl
noncomputable def V0:List D->Option (List<|List Nat)
 | []=>some []
 | .str w::l=>match V0 l with
  | some ws=>some<|w::ws
  | none=>none
 | _::_=>none
@[simp] def strsD_strs(l):V0 (l.map D.str)=some l:=by
 induction l with
 | nil=>rfl
 | cons x l a=>simp[V0,a]
section
variable {R:RC}{Z:Zn}{H:Hp}
theorem uA:∀{l}{ws}{vs}{O},V0 l=some ws->Reps R Z H l vs O->vs=(ws.map S).map V.str
 | [],ws,vs,O,e,r=>by
  cases e;have:=r.length;exact List.length_eq_zero_iff.mp this
 | x::l,ws,vs,O,e,r=>by
  cases x with
  | str w=>
   simp only[V0] at e;cases e1:V0 l with
   | none=>rw[e1] at e;cases e
   | some a=>
    rw[e1] at e;cases e;obtain⟨v,b,P,c,rfl,-,r1,r2⟩:=r;obtain⟨rfl,_⟩:=r1.str_of;rw[uA e1 r2];rfl
  | _=>cases e
noncomputable def Yq(sep:List Nat)(ws:W1):Bool:=decide<|(ws.map List.length).sum+ws.length*sep.length<=1000000
def jbV{a}{ws}(h:Yq a ws=true):JoinOk (S a) (ws.map S)=true:=by
 have h:=X7 h;unfold JoinOk;rw[StrLaws.joinTotal];have e:((ws.map S).map (·.length))=ws.map List.length:=by
  rw[U3];exact List.map_congr_left λw _=>Ju w
 rw[e,L1,Ju];unfold Builtin.Str.tooLong;have:sizeLine=16777216:=by decide
 simp
 lia
def ja5:D->List D->Option D
 | .str sep,[.lst _ l]=>match V0 l with
  | some ws=>bif Yq sep ws then some (.str<|V3 sep ws) else none
  | none=>none
 | _,_=>none
def jjY:BM R "str" (λx vs H Q=>∃ a p ws,x=.str a/\vs=[.ref p]/\SqL R.K H p (ws.map V.str)/\JoinOk a ws=true/\Q (.str<|Txt.join a ws) H) ja5:=by
 intro Z H x d g v vs h i z r c e Q k;unfold ja5 at e;split at e
 ·rename_i b o l;cases e1:V0 l with
  | none=>rw[e1] at e;cases e
  | some ws=>
   rw[e1] at e;dsimp only at e;cases hm:Yq b ws with
   | false=>rw[hm] at e;cases e
   | true=>
    rw[hm] at e;cases e;obtain⟨rfl,_⟩:=r.str_of;obtain⟨v,rfl,r1⟩:=c.one_of;clear c;obtain⟨p,j,m,rfl,f,c⟩:=r1.lst_of;have:=uA e1 c;subst this;refine⟨S b,p,ws.map S,rfl,rfl,f.sq,jbV hm,?_⟩;have e2:Txt.join (S b) (ws.map S)=S (V3 b ws):=(StrLaws.glued_eq_join _ _).trans (jce b ws);rw[e2];exact k (Go.id z) .str_mk
 ·cases e
def jhx(a b:List Nat):List (List Nat):=(Txt.split (S a)<|S b).map λw=>w.cps.toList
def xr:D->List D->Option D
 | .str a,[.str b]=>bif !b.isEmpty&&decide (a.length<=1000000) then some (.lst true<|(jhx a b).map D.str) else none
 | _,_=>none
def jem(ws:List Str):Reps R Z H ((ws.map λw=>w.cps.toList).map D.str) (ws.map V.str) []:=by
 induction ws with
 | nil=>exact .empty
 | cons w ws a=>
  exact .cons (O:=[]) .str_mk a
def jgd:BM R "str" (λx vs H Q=>∃ a b,x=.str a/\vs=[.str b]/\(b.length==0)=false/\a.length+2<=sizeLine/\∀ p,H p=none->Q (.ref p) (upd H p<|.lst<|(Txt.split a b).map V.str)) xr:=by
 intro Z H x d h v vs i j z r c e Q k;unfold xr at e;split at e
 ·rename_i a b;refine oc e λf e=>?_;cases e;simp only[M0,decide_eq_true_eq,Bool.not_eq_true',List.isEmpty_eq_false_iff] at f;obtain⟨rfl,_⟩:=r.str_of;obtain⟨v,rfl,r1⟩:=c.one_of;clear c;obtain⟨rfl,_⟩:=r1.str_of;have l:sizeLine=16777216:=by decide
  refine⟨_,_,rfl,rfl,?_,?_,λp g=>k (Go.newO (wf0 z) g)<|Rep.lstNew (wf0 z) g<|jem _⟩
  ·rw[Ju];have:=List.length_pos_iff.mpr f.1;exact U4.mpr ∅
  ·rw[Ju];lia
 ·cases e
end
section
variable {cl:Nat->Addr}{X:Cx}{o e:Expr}{es:List Expr}{to:TE}{po:PF}{tr:TA}{pr:PAf}{name:Str}{apos cpos:Pos}{T id:String}{r:V->List V->Hp->VK->Prop}{g:D->List D->Option D}
def jqb(pa:PlainAttrs T)(slot:Slot T name id)(f:typeOf (.builtin id)=pure (.type "method_descriptor"))(j:MtR X id r)(k:BM ⟨X.K,cl⟩ T r g)(h:QB cl X o to po)(i:QBs cl X (e::es) tr pr)
  (b:attributeBase o name X.env (eval o X.env)=eval o X.env:=by rfl)
  (d:((backTo cpos<|starEach (e::es) X.env).all (λx=>!x.1)&&(backToKw cpos<|keywordEach [] X.env).all (λx=>x.1.isSome)
   && decide ((e::es).length+([]:List Keyword).length+(if([]:List Keyword).isEmpty then 0 else 1)<30))=true:=by rfl)
  (c:(apos.endLine==cpos.line)=true:=by rfl) (l:SEq X e es:=by rfl) (a:BkE X cpos es:=by rfl):
  QP cl X (.Call (.Attribute o name apos) (e::es) [] cpos) (tBM X.K T r to tr) (pBM T g po pr):=
 ⟨jb8 pa slot f j h.sem i.sem b d c l a,joi k h.den i.den⟩
end
@[simp] def isT_str(w):isT "str" (.str w)=true:=rfl
@[simp] def fJoin_e(a)(o)(l):ja5 (.str a) [.lst o l]=(V0 l).bind λws=>bif Yq a ws then some (.str<|V3 a ws) else none:=by
 unfold ja5;cases h:V0 l<;>simp[h]
end QD
namespace QK
open PySem L2 QD PySem.Spec PyProof.Rows
section
variable {cl:Nat->Addr}{pm:List Nat}{X:Cx}{a b c e o:Expr}{es:List Expr}{ta tb tc te to:TE}{pa pb pc pe po:PF}{tr:TA}{pr:PAf}{pos:Pos}{K:W4}
variable {tg iter elt:Expr}{ifs:List Expr}{wi:TI}{pi:PAf}{t:TG}{g:D->Rh->Option Rh}
def add(hK:X.K=K)(c:QB cl X a ta pa)(d:QB cl X b tb pb):QP cl X (.BinOp a .Add b pos) (tOp (jec K) ta tb) (p2 ji pa pb):=by subst hK;exact jmO c d
def ix(hK:X.K=K)(c:QB cl X a ta pa)(d:QB cl X b tb pb)(e:KS b:=by exact λ_ _=>rfl):QB cl X (.Subscript a b pos) (tOp (rIx K) ta tb) (p2 jd pa pb):=by subst hK;exact jp4 c d e
def sl{lo hi}{tl th}{pl c}{b}(hK:X.K=K)(d:QB cl X a ta pa)(e:QO cl X lo tl pl)(f:QO cl X hi th c):QP cl X (.Subscript a (.Slice lo hi none b) pos) (tSl (joe K) ta tl th) (pSl pa pl c):=by subst hK;exact jp6 d e f
def call{k n}{ps}{m}{x}{st}{p}(hK:X.K=K)(O:OkF X.prog X.w X.K X.mg x st k ps<|spP ⟨X.K,cl⟩ m n)(c:Room k X.A)
  (d:QBs cl X (e::es) tr pr) (f:(e::es).length=n:=by rfl) (g:Gl X x:=by rfl) (a:Nd x:=by decide)
  (h:SEq X e es:=by rfl) (b:BkE X pos es:=by rfl):QP cl X (.Call (.Name x p) (e::es) [] pos) (qP (spP ⟨K,cl⟩ m n) [] E0 tr) (jv m pr):=by
 subst hK;exact jhH O c d f g a h b
theorem c_notin(hK:X.K=K)(a:behindInMarks .NotIn b=false):CmpR cl X .NotIn b (jhd K true) (Y1 true):=by subst hK;exact QD.c_notin a
theorem c_ne{k}(hK:X.K=K)(a:Room k X.A):CmpR cl X .NotEq b (λx y H Q=>rNe x y H Q\/jkl ⟨K,cl⟩ true x y H Q) Kh:=by subst hK;exact QD.c_ne a
def sumL(hK:X.K=K)(a:X.calm=true):kR X (.builtin "sum") (λxs H Q=>∃(p:Addr) (ns:List Int),xs=[.ref p]/\SqL K H p (ns.map V.int)/\Q (.int ns.sum) H):=by subst hK;exact Vx a
def ib_any(hK:X.K=K)(h:QB cl X e te pe):QIb cl X tg e (jkU K te) (Jm pe):=by subst hK;exact jew h
def g_tup{ts}{b}{k n}(hK:X.K=K)(c:X.calm=true)(h:QGs cl pm X es ts b)(d:(assignEach es X.env).length=n:=by rfl)(a:(assignEach es X.env).findIdx? (·.1)=none:=by rfl):QG cl pm X (.Tuple es k pos) (jbS K n ts) (gT n b):=by subst hK;exact jhv c h d a
end
end QK
namespace QD
open PySem L2 PySem.Spec PyProof.Rows
@[simp] def jcR(i:Nat)(p:PAf)(ρ:Rh):Option (D×Rh):=(pV i ρ).bind λd=>(p ρ).bind λds=>bif lim (ds.length+1) then some (.tup<|d::ds,ρ.set i none) else none
def jgK(t:PPs R ta p):DE R (jbh<|jW (yf i) ta) (jcR i p):=by
 intro σ ρ G Z H O d w h e Q k;refine ob e λc l e=>ob e λI u e=>oc e λx e=>?_;cases e;have l:=YR l;obtain⟨A,P,B,rfl,y,J,C⟩:=h.put (L9.mp l).1;obtain⟨v,D,r⟩:=y c l;refine⟨v,D,t w.zd h u λ{vs E o F} m r1=>⟨by rw[M3,r1.length];exact Jr x,λq n=>?_⟩⟩;have s:=m.widen w;have f:=s.wf.nd;have g2:Go Z H (A++P++B) E o ((P++F)++(A++B)):=s.drop (λa q=>by simp at q ⊢;rcases q with q | q | q | q<;>simp[q]) (by
  simp only[X3,N4] at f ⊢;refine⟨⟨f.2.1.1.2.1,f.1,λa j b g e=>f.2.2 b g a (.inl<|.inr j) e.symm⟩,⟨f.2.1.1.1,f.2.1.2.1,λa j b g=>f.2.1.2.2 a (.inl j) b g⟩,λa j b g e=>?_⟩;rcases j with j | j
  ·rcases g with g | g
   ·exact f.2.1.1.2.2 b g a j e.symm
   ·exact f.2.1.2.2 a (.inr j) b g e
  ·rcases g with g | g
   ·exact f.2.2 a j b (.inl<|.inl g) e
   ·exact f.2.2 a j b (.inr g) e)
 have ne:∀ a,o a≠none->a≠q:=λa h e=>h<|e▸n;have s1:=m.slots w.zd C;refine k (g2.trans<|Go.newF g2.wf n) (Rep.tupNew g2.wf.left n<|Reps.cons (m.rep w.zd r) r1)<|s1.frame (λa z=>.inl z) (λa z=>je<|ne a<|g2.wf.zd a z) λa j=>je<|ne a<|s1.dom a j
def jhT{a}(i)  (b:QB cl X (.Name x xpos) (yf i)<|pV i) (h:QPs cl X es tr pr) (c:starEach (.Name x xpos::es) X.env=(false,eval (.Name x xpos) X.env)::starEach es X.env:=by rfl):
  QE cl X (.Tuple (.Name x xpos::es) a pos) (jbh<|jW (yf i) tr) (jcR i pr):=⟨JM<|jN b.sem h.sem c,jgK h.den⟩
structure QGo(cl:Nat->Addr)(pm:List Nat)(X:Cx)(tg:Expr)(t:TG)(g:D->Rh->Option Rh):Prop where
 sem:PG X tg t
 den:DG ⟨X.K,cl⟩ pm t g
def jiY(a:X.N.Nodup)(hi:X.N[i]?=some x:=by rfl)(b:Loc X.env.scope x:=by first | exact Or.inl rfl | exact Or.inr rfl)(c:X.fn x=true\/X.env.scope.names.lookup x=some .local:=by first | exact .inl rfl | exact .inr rfl):
  QGo cl pm X (.Name x pos) (vw i) (jc pm i):=⟨jcN a hi b c,VD⟩
section
variable {R:RC}{Z Z':Zn}{H H':Hp}{pm:List Nat}
noncomputable def vZ:D->Option KA
 | .int i=>some<|.int i
 | .str s=>some<|.str s
 | _=>none
def yW(e:vZ d=some k)(r:Rep R Z H d v O):v=kV (kaV k)/\O=[]:=by
 cases d with
 | int i=>cases e;rw[Rep] at r;exact r
 | str s=>cases e;rw[Rep] at r;exact r
 | _=>cases e
def QF(h:kaV a=kaV b):a=b:=by
 cases a<;>cases b<;>simp only[kaV] at h
 ·cases h;rfl
 ·cases h
 ·cases h
 ·have:=jlA<|Sum.inr.inj h;rw[this]
noncomputable def YC:List KA->List D->KA->Option D
 | k::ks,d::l,a=>if k=a then some d else YC ks l a
 | _,_,_=>none
theorem kW:∀{ks}{l}{vs}{O}{a},Reps R Z H l vs O->ks.length=l.length ->
  (∀ d,YC ks l a=some d->∃ v P,V7 ((ks.map kaV).zip vs) (kaV a)=some v/\Rep R Z H d v P)/\(YC ks l a=none->V7 ((ks.map kaV).zip vs) (kaV a)=none)
 | [],l,vs,O,a,r,c=>⟨λd e=>(by cases l<;>cases e),λ_=>rfl⟩
 | k::ks,[],vs,O,a,r,c=>by simp at c
 | k::ks,x::l,vs,O,a,r,c=>by
  obtain⟨v,b,f,i,rfl,rfl,r1,r2⟩:=r;by_cases e:k=a
  ·subst e;refine⟨λd h=>?_,λh=>?_⟩
   ·simp only[YC,if_true] at h;cases h;exact⟨v,f,JW rfl,r1⟩
   ·simp[YC] at h
  ·have g:=λz=>e<|QF z;have q:V7 (((k::ks).map kaV).zip (v::b)) (kaV a)=V7 ((ks.map kaV).zip b) (kaV a):=JP g;rw[q];simp only[YC,if_neg e];exact(kW (a:=a) r2 ⇑c)
def DkA.rd(h:DkA o H a kvs):Rd H a (.dK kvs):=by
 cases o with
 | true=>exact .inl h
 | false=>exact h
def DGet.r(e:Rd H a<|.dK kvs):DGet H a (kV k) (V7 kvs k):=.inl ⟨kvs,k,e,rfl,rfl⟩
def Rep.dK_of(r:Rep R Z H (.dK o ks l) v O):Ex3 λa vs O'=>An4 (v=.ref a) (Rd H a<|.dK<|(ks.map kaV).zip vs) (Reps R Z H l vs O') (ks.length=l.length):=by
 obtain⟨a,vs,O',rfl,b,c,d,_⟩:=r;exact⟨a,vs,O',rfl,d.rd,b,c⟩
def jib:PP R jcD (pC<|.dK true [] []):=by
 intro σ ρ Z H O d z s e Q k;cases e;intro p a;exact k (Go.newO (wf0 z) a) ⟨p,[],[],rfl,.empty,rfl,jl,rfl⟩
def yI:D->D->Option D
 | .dK _ ks l,y=>(vZ y).bind λk=>YC ks l k
 | _,_=>none
def jhV(c:PB R td pa)(f:PB R ty pb):PB R (jh5 td ty) (p2 yI pa pb):=by
 intro σ ρ Z H O d z s e Q k;refine ob e λx g e=>ob e λy e2 e=>(c z s g λ{v n q t} b r1=>(f b.wf.zd (b.slots z s) e2 λ{u A B C} g2 r2=>?_));cases x with
 | dK o D l=>
  refine ob e λa e3 e=>?_;obtain⟨p,vs,E,rfl,h,i,j⟩:=(g2.rep b.wf.zd r1).dK_of;obtain⟨rfl,_⟩:=yW e3 r2;obtain⟨w,P,m,rw⟩:=(kW i j).1 d e;exact⟨p,w,rfl,m▸DGet.r h,k (b.pair g2) rw⟩
 | _=>cases e
def KG(x y z:D):Option D:=match x with
 | .dK _ ks l=>(vZ y).bind λk=>some<|(YC ks l k).getD z
 | _=>none
@[simp] def p3(g:D->D->D->Option D)(pa:PF)(pb:PF)(pc:PF)(ρ:Rh):Option D:=(pa ρ).bind λx=>(pb ρ).bind λy=>(pc ρ).bind λz=>g x y z
def jgq(j:PB R td pa)(m:PB R ty pb)(n:PB R tx pc):PB R (VA td ty tx) (p3 KG pa pb pc):=by
 intro σ ρ Z H O d z s e Q k;refine ob e λx q e=>ob e λy e2 e=>ob e λc A e=>?_;cases x with
 | dK o B l=>
  refine ob e λa e3 e=>?_;cases e;refine j z s q λ{v J K L} i r1=>?_;obtain⟨p,vs,M,rfl,C,N,S⟩:=r1.dK_of;refine⟨p,rfl,.inl ⟨_,C⟩,(m i.wf.zd (i.slots z s) e2 λ{u T U V} g2 r2=>?_)⟩;have b:=i.pair g2;refine n g2.wf.zd (b.slots z s) A λ{t Z3 W X} g3 D=>?_;obtain⟨Y,E,F,G,f,g,h,_⟩:=((g2.pair g3).rep i.wf.zd r1);cases G;obtain⟨rfl,_⟩:=yW e3 r2;cases ev:YC B l a with
  | none=>exact⟨none,(kW f g).2 ev▸DGet.r h.rd,k (b.pair g3)<|by rw[ev];exact D⟩
  | some d=>
   obtain⟨w,P,I,rw⟩:=(kW f g).1 d ev;exact⟨some w,I▸DGet.r h.rd,k (b.pair g3)<|by rw[ev];exact rw⟩
 | _=>cases e
def jbn(neg:Bool)(y x:D):Option D:=match x with
 | .dK _ ks l=>(vZ y).bind λk=>some<|.bl<|neg != (YC ks l k).isSome
 | _=>none
def jgz{f ty}{pa pb}{b}(j:PB R ty pa)(m:PB R f pb){σ}{ρ}{Z}{H}{O}{d}(z:Zd Z H)(s:Slots R Z H ρ σ O)(e:p2 (jbn b) pa pb ρ=some d)
  {Q:VK}(k:∀{v}{Z'}{H'}{P},Go Z H [] Z' H' P->Rep R Z' H' d v P->Q v H'):ty σ H λy H1=>f σ H1 λx H2=>∃ a o,x=.ref a/\DGet H2 a y o/\Q (.bl<|b != o.isSome) H2:=by
 refine ob e λy n e=>ob e λx e2 e=>(j z s n λ{v B H1 C} c r1=>(m c.wf.zd (c.slots z s) e2 λ{u D H2 E} g2 r2=>?_));cases x with
 | dK o q l=>
  refine ob e λa e3 e=>?_;cases e;obtain⟨p,vs,F,rfl,g,h,i⟩:=r2.dK_of;obtain⟨rfl,_⟩:=yW e3 r1;cases ev:YC q l a with
  | none=>
   refine⟨p,none,rfl,(kW h i).2 ev▸DGet.r g,k (c.pair g2) ?_⟩;rw[ev];exact .bl_mk
  | some d=>
   obtain⟨w,P,t,A⟩:=(kW h i).1 d ev;refine⟨p,some w,rfl,t▸DGet.r g,k (c.pair g2) ?_⟩;rw[ev];exact .bl_mk
 | _=>cases e
def jdk{a ty}{pa pb}(b:PB R ty pa)(c:PB R a pb):PP R (Qu ty a) (p2 (jbn true) pa pb):=λz s e _ k=>by
 have:=jgz b c z s e k;simpa [Qu] using this
noncomputable def jar:List KA->List D->KA->D->List D
 | k::ks,x::l,a,d=>(if k=a then d else x)::jar ks l a d
 | _,_,_,_=>[]
theorem K7:∀{ks}{l} a d,ks.length=l.length->(jar ks l a d).length=l.length
 | [],[],_,_,_=>rfl
 | [],_::_,_,_,h=>by simp at h
 | _::_,[],_,_,h=>by simp at h
 | k::ks,x::l,a,d,h=>by rw[jar,M3,M3,K7 a d ⇑h]
theorem uM(rd:Rep R Z H d v [])(a):∀{ks}{l}{vs}{O},Reps R Z H l vs O->ks.length=l.length ->
  Ex2 λvs2 O2=>An3 (Reps R Z H (jar ks l a d) vs2 O2) ((ks.map kaV).zip vs2=((ks.map kaV).zip vs).map (λkv=>if kv.1=kaV a then(kv.1,v) else kv))<|O2.Sublist O
 | [],[],vs,O,r,b=>by
  obtain⟨rfl,rfl⟩:=r;exact⟨[],[],.empty,rfl,.slnil⟩
 | [],_::_,_,_,_,h=>by simp at h
 | _::_,[],_,_,_,h=>by simp at h
 | k::ks,x::l,vs,O,r,b=>by
  obtain⟨w,i,j,O2,rfl,rfl,r1,r2⟩:=r;obtain⟨c,f,g,e3,sl⟩:=uM rd a r2 ⇑b;by_cases e:k=a
  ·subst e;refine⟨v::c,[]++f,?_,?_,(sl.trans<|List.sublist_append_right _ _)⟩
   ·rw[jar,if_pos rfl];exact Reps.cons rd g
   ·simp only[L5,U9,if_true,e3]
  ·have m:=λz=>e<|QF z;refine⟨w::c,j++f,?_,?_,(List.Sublist.append (List.Sublist.refl _) sl)⟩
   ·rw[jar,if_neg e];exact Reps.cons r1 g
   ·simp only[L5,U9,if_neg m,e3]
theorem xS(a):∀{ks:List KA}{vs:List V},ks.length=vs.length->(((ks.map kaV).zip vs).any λkv=>decide<|kv.1=kaV a)=decide (a∈ks)
 | [],vs,_=>by simp
 | k::ks,[],h=>by simp at h
 | k::ks,v::vs,h=>by
  rw[L5,U9,List.any_cons,xS a ⇑h];by_cases e:k=a
  ·subst e;simp
  ·have b:¬ (kaV k=kaV a):=λz=>e<|QF z;have e2:¬ (a=k):=λz=>e z.symm;simp[b,e2]
def kT(ks:List KA)(l:List D)(a:KA)(d:D):List KA×List D:=if a∈ks then(ks,jar ks l a d) else(ks++[a],l++[d])
def Y9(rd:Rep R Z H d v [])(a)  (r:Reps R Z H l vs O) (b:ks.length=l.length):
  Ex2 λvs2 O2=>An4 (Reps R Z H (kT ks l a d).2 vs2 O2) ((((kT ks l a d).1).map kaV).zip vs2=JL ((ks.map kaV).zip vs) (kaV a) v) (O2.Sublist O) ((kT ks l a d).1.length=(kT ks l a d).2.length):=by
 have c:ks.length=vs.length:=by rw[r.length];exact b
 unfold kT JL;rw[xS a c];by_cases e:a∈ks
 ·rw[if_pos e,X5 e,if_pos rfl];obtain⟨f,P,r2,e2,sl⟩:=uM rd a r b;exact⟨f,P,r2,e2,sl,by rw[K7 a d b];exact b⟩
 ·rw[if_neg e,X6 e,if_neg<|λz=>(nomatch z)];refine⟨vs++[v],O++[],r.append<|Reps.one rd,?_,by simp,by simp[b]⟩;rw[N7,List.zip_append ⇑c];rfl
@[simp] def jj0(i:Nat)(pk:PF)(pv:PF)(ρ:Rh):Option Out:=(pv ρ).bind λd=>(pV i ρ).bind λx=>(jhC x).bind λp=>(pk ρ).bind λy=>(vZ y).bind λa=>bif frz d&&lim p.1.length then some (.nx<|ρ.set i<|some<|.dK true (kT p.1 p.2 a d).1 (kT p.1 p.2 a d).2) else none
def Vo{ks:List α}{vs:List V}{f:α->β}(h:lim ks.length=true):((ks.map f).zip vs).length<sizeLine:=by rw[List.length_zip,L1];exact E4 (Nat.min_le_left _ _)<|Vh h
def jjH{i}{ty tv}{pk pv}(n:PB R ty pk)(p:PB R tv pv):DS R pm (KY (yf i) ty tv) (jj0 i pk pv):=by
 intro σ ρ Z H O o w s e E k;refine ob e λd q e=>ob e λx r e=>ob e λ⟨F,l⟩ f e=>ob e λy e2 e=>ob e λc e3 e=>oc e λg e=>?_;cases e;cases wx f;rw[M0] at g;refine p w.zd s q λ{u G I J} b r1=>?_;cases r1.nil g.1;have s1:=b.slots w.zd s;have m:=b.widen w;refine qH Jo m.wf s1 r rfl ja1 λa _ vs K v h z A put=>A<|n b.wf.zd s1 e2 λ{t L M N} g2 r2=>?_;obtain⟨rfl,_⟩:=yW e3 r2;obtain⟨B,P,C,f,sl,j⟩:=Y9 (g2.rep b.wf.zd r1) c (g2.reps b.wf.zd v) h;obtain⟨Q,g3,D⟩:=put ja1 j g2 C ⇑sl.count_le;refine⟨a,_,rfl,DPut.k (g2.at0 z)<|Vo g.2,?_⟩;rw[<- f];exact k (m.trans g3) D<|Keep.refl _ _
end
def jlw:QP cl X (.Dict [] [] pos) jcD (pC<|.dK true [] []):=⟨jft,jib⟩
def jnb(e:Room k X.A)(c:QB cl X a ta pa)(d:QB cl X b tb pb)(f:jpv b:=by exact λ_ _=>rfl):QB cl X (.Subscript a b pos) (jh5 ta tb) (p2 yI pa pb):=⟨jhU (YB e) c.sem d.sem f,jhV c.den d.den⟩
def jkF(d:Room k X.A)(a:QB cl X o to po)(b:QB cl X e te pe)(c:QB cl X f tf pf)(m:M2 X o "get" apos e f cpos:=by exact⟨rfl,rfl,rfl,rfl⟩):
  QB cl X (.Call (.Attribute o "get" apos) [e,f] [] cpos) (VA to te tf) (p3 KG po pe pf):=⟨Qn (YB d) a.sem b.sem c.sem m,jgq a.den b.den c.den⟩
def jjd(d:Room k X.A)(f:QB cl X (.Name x xpos) (yf i)<|pV i)(a:QB cl X b tb pb)(c:QB cl X e te pe)(g:swapsWith e (some<|.Subscript (.Name x xpos) b pos') pos.line X.env=pure false:=by rfl):
  QS cl pm X (.Assign [.Subscript (.Name x xpos) b pos'] e pos) (KY (yf i) tb te) (jj0 i pb pe):=⟨QA (YB d) f.sem a.sem c.sem g,jjH a.den c.den⟩
@[simp] def keyOf_int(i):vZ (.int i)=some (.int i):=rfl
@[simp] def keyOf_str(s):vZ (.str s)=some (.str s):=rfl
@[simp] def opDIx_e(o)(ks)(l)(y):yI (.dK o ks l) y=(vZ y).bind λk=>YC ks l k:=rfl
@[simp] def opDGet_e(o)(ks)(l)(y z):KG (.dK o ks l) y z=(vZ y).bind λk=>some ((YC ks l k).getD z):=rfl
@[simp] def opDIn_e(a o)(ks)(l)(y):jbn a y (.dK o ks l)=(vZ y).bind λk=>some (.bl<|a != (YC ks l k).isSome):=rfl
def jka{P}{w}{K}{cl}{mg}{base}{k n}{f}{fd}{ps}:FnOk P w K mg base CX0 k f fd ps (spP ⟨K,cl⟩ (λ_=>none) n):=
 ⟨λvs H Q E ⟨_,_,_,_,_,_,h,_⟩=>(nomatch h),λA outer s H a b vs Q E _ _ _ _ ⟨_,_,_,_,_,_,h,_⟩=>(nomatch h)⟩
def VQ:List D->Option (List<|KA×D)
 | []=>some []
 | .tup [k,v]::l=>(vZ k).bind λa=>(VQ l).bind λr=>some<|(a,v)::r
 | _::_=>none
def wU(ps:List<|KA×D):List KA×List D:=ps.foldl (λacc kv=>kT acc.1 acc.2 kv.1 kv.2) ([],[])
def yY:List D->Option D
 | [.lst _ l]=>(VQ l).bind λps=>bif frzs (ps.map (·.2))&&lim ps.length then some (.dK true (wU ps).1 (wU ps).2) else none
 | _=>none
def jbQ:∀{l}{ps}{ys}{O},VQ l=some ps->Reps R Z H l ys O->frzs (ps.map (·.2))=true ->
  ∃(ws:List V),An3 (Reps R Z H (ps.map (·.2)) ws []) (ys.length=ps.length) (∀(j:Nat) y,ys[j]?=some y->∃ kv t,((ps.map λp=>kaV p.1).zip ws)[j]?=some kv/\y=.ref t/\SqT R.K H t [kV kv.1,kv.2]):=by
 intro l
 induction l with
 | nil=>
  intro ps ys O e r b;cases e;obtain⟨rfl,rfl⟩:=r;exact⟨[],.empty,rfl,λj y c=>by simp at c⟩
 | cons d l h=>
  intro ps ys O e r b
  match d,e with
  | .tup [k,v],e=>
   refine ob e λa i e=>ob e λm e2 e=>?_;cases e;obtain⟨B,n,C,D,rfl,rfl,r1,r2⟩:=r;rw[L5,Yb,M0] at b;obtain⟨ws,f,o,q⟩:=h e2 r2 b.2;obtain⟨t,vs,rfl,s,x⟩:=r1;obtain⟨u,w,E,F,rfl,-,z,g⟩:=x.two_of;obtain⟨rfl,_⟩:=yW i z;have A:=g.nil b.1;subst A;refine⟨w::ws,Reps.cons g f,by simp[o],λj y c=>?_⟩;cases j with
   | zero=>
    cases c;exact⟨(kaV a,w),t,rfl,rfl,s.sq⟩
   | succ j=>exact q j y ⇑c
def jb0:∀{ps:List (KA×D)}{ws}{ks}{l}{us},Reps R Z H (ps.map (·.2)) ws []->Reps R Z H l us []->ks.length=l.length ->
  ∃ us',An3 (Reps R Z H (ps.foldl (λacc kv=>kT acc.1 acc.2 kv.1 kv.2) (ks,l)).2 us' []) ((((ps.foldl (λacc kv=>kT acc.1 acc.2 kv.1 kv.2) (ks,l)).1).map kaV).zip us'=(((ps.map λp=>kaV p.1).zip ws).foldl (λa kv=>JL a kv.1 kv.2) ((ks.map kaV).zip us))) ((ps.foldl (λacc kv=>kT acc.1 acc.2 kv.1 kv.2) (ks,l)).1.length=(ps.foldl (λacc kv=>kT acc.1 acc.2 kv.1 kv.2) (ks,l)).2.length):=by
 intro ps
 induction ps with
 | nil=>
  intro ws ks l us b r c;exact⟨us,r,by simp,c⟩
 | cons p ps g=>
  intro ws ks l us b r c;obtain⟨w,h,n,o,rfl,e,r1,r2⟩:=b;obtain⟨rfl,rfl⟩:=List.append_eq_nil_iff.mp e.symm;obtain⟨i,q,j,e3,sl,d⟩:=Y9 r1 p.1 r c;have:=List.sublist_nil.mp sl;subst this;obtain⟨us',k,m,f⟩:=g r2 j d;refine⟨us',k,?_,f⟩;rw[L5,U9,X4,X4,m,e3]
def jkH:BC R (λxs H Q=>∃(p:Addr) (ys:List V) (ps:List<|Key×V),xs=[.ref p]/\SqL R.K H p ys/\ys.length=ps.length/\ps.length<=100000 /\
  (∀(j:Nat) y,ys[j]?=some y->∃ kv t,ps[j]?=some kv/\y=.ref t/\SqT R.K H t [kV kv.1,kv.2])/\∀ D,H D=none->Q (.ref D) (upd H D<|.dK<|ps.foldl (λa kv=>JL a kv.1 kv.2) [])) yY:=by
 intro Z H xs d vs O z r e Q k
 match xs,e,r with
 | [.lst o l],e,r=>
  refine ob e λps n e=>oc e λf e=>?_;cases e;rw[M0] at f;obtain⟨v,rfl,r1⟩:=r.one_of;obtain⟨p,ys,C,rfl,s,u⟩:=r1.lst_of;obtain⟨ws,b,w,q⟩:=jbQ n u f.1;obtain⟨g,A,B,i⟩:=jb0 (ks:=[]) b .empty rfl;have c:ws.length=ps.length:=by rw[b.length];simp
  refine⟨p,ys,(ps.map λp=>kaV p.1).zip ws,rfl,s.sq,by simp[w,c],by simp[c];exact X7 f.2,q,λD m=>?_⟩;refine k (Go.newO (wf0 z) m) ?_;have ne:∀ a,H a≠none->a≠D:=λa h e=>h<|e▸m;exact⟨D,g,[],rfl,A.frame (λa z=>z) (λa h=>je<|ne a<|z a h)<|λa h=>(nomatch h),i,by show upd H D _ D=some _;rw[jl];exact congrArg (λx=>some<|HO.dK x) B.symm,rfl⟩
@[simp] def fDict_e(o)(l):yY [.lst o l]=(VQ l).bind λps=>bif frzs (ps.map (·.2))&&lim ps.length then some (.dK true (wU ps).1 (wU ps).2) else none:=rfl
end QD
namespace QK
open PySem L2 QD PySem.Spec PyProof.Rows
end QK
namespace QD
open PySem L2 PySem.Spec PyProof.Rows
@[simp] def sRev(i:Nat)(ρ:Rh):Option Out:=(pV i ρ).bind λx=>(zG x).bind λl=>bif frzs l then some (.nx<|ρ.set i<|some<|.lst true l.reverse) else none
end QD
namespace L2
open PySem PySem.Spec PyProof.Rows
end L2
namespace QD
open PySem L2 PySem.Spec PyProof.Rows
structure QDs(cl:Nat->Addr)(X:Cx)(es:List Expr)(ta:TA)(f:FA):Prop where
 sem:PA X es ta
 den:DA ⟨X.K,cl⟩ ta f
def jlR:QDs cl X [] Yw Jk:=⟨kg,jln⟩
def jin(h1:QE cl X e te fE)(h2:QDs cl X es tr fr)(a:SEq X e es:=by rfl):QDs cl X (e::es) (jW te tr) (jr fE fr):=⟨jN h1.sem h2.sem a,jkw h1.den h2.den⟩
def jms{a}(h:QDs cl X es tr fr):QE cl X (.Tuple es a pos) (jbh tr) (KN fr):=⟨JM h.sem,jnX h.den⟩
@[simp] def jlk:KN fa ρ=(fa ρ).bind λx=>bif decide (x.1.length<=1000) then some (.tup x.1,x.2) else none:=by
 unfold KN dCB;cases fa ρ with
 | none=>rfl
 | some x=>
  obtain⟨d,r⟩:=x;dsimp only[Option.bind];cases decide (d.length<=1000)<;>rfl
section
variable {R:RC}{Z Z':Zn}{H H':Hp}{pm:List Nat}
@[simp] def jdt(i:Nat)(pk:PF)(g:Int->Int->Int)(pv:PF)(ρ:Rh):Option Out:=(pk ρ).bind λy=>(vZ y).bind λc=>(pV i ρ).bind λx=>(jhC x).bind λkl=>(YC kl.1 kl.2 c).bind λm=>(vv m).bind λm=>(pv ρ).bind λn=>(vv n).bind λn=>
  bif lim kl.1.length then some (.nx<|ρ.set i<|some<|.dK true (kT kl.1 kl.2 c<|.int<|g m n).1 (kT kl.1 kl.2 c<|.int<|g m n).2) else none
def vF(i:Nat)(L:Ln)(pk:PF)(g:Int->Int->Int)(pv:PF)(ρ:Rh):Option Out:=(pk ρ).bind λy=>(vZ y).bind λc=>(pV i ρ).bind λt=>(L t).bind λy=>(jhC y.1).bind λkl=>(YC kl.1 kl.2 c).bind λm=>(vv m).bind λm=>(pv ρ).bind λn=>(vv n).bind λn=>
  bif lim kl.1.length then some (.nx<|ρ.set i<|some<|y.2<|.dK true (kT kl.1 kl.2 c<|.int<|g m n).1 (kT kl.1 kl.2 c<|.int<|g m n).2) else none
def Q4{i}{L}{tb ty tv}{pk pv}{g}{rd}(j:∀{m n}{H}{Q},Q (.int<|g m n) H->rd (.int m) (.int n) H Q)(C:je3 R tb i L)(D:PB R ty pk)(E:PB R tv pv):DS R pm (ze tb ty tv rd) (vF i L pk g pv):=by
 intro σ ρ Z H O o w s e U k;refine ob e λq F e=>ob e λc e5 e=>ob e λt hi e=>ob e λ⟨y,V⟩ e3 e=>ob e λ⟨W,l⟩ G e=>ob e λx I e=>ob e λm J e=>ob e λX K e=>ob e λn e2 e=>oc e λd e=>?_;cases e;cases wx G;cases jK J;cases jK e2;refine qH (P0:=[]) C w s hi e3 ja1 λa _ vs Y A f B M put=>M<|D w.zd s F λ{z Z1 H1 P1} h r1=>?_;obtain⟨rfl,_⟩:=yW e5 r1;obtain⟨mv,P3,p,r⟩:=(kW A f).1 _ I;obtain⟨rfl,_⟩:=r.int_of;refine⟨a,.int m,rfl,by rw[<- p];exact DGet.k<|h.at0 B,E h.wf.zd (h.slots w.zd s) K λ{u Z2 H2 P4} g2 r2=>?_⟩;obtain⟨rfl,_⟩:=r2.int_of;have b:=h.trans g2;obtain⟨N,O2,P,e7,sl,v⟩:=Y9 (Rep.int_mk) c (b.reps w.zd A) f;obtain⟨O3,S,T⟩:=put ja1 v b P ⇑sl.count_le;refine j ⟨_,DPut.k (b.at0 B)<|Vo d,?_⟩;rw[<- e7];exact k S T<|Keep.refl _ _
def jiu{i}{ty tv}{pk pv}{g}{rd}(a:∀{m n}{H}{Q},Q (.int<|g m n) H->rd (.int m) (.int n) H Q)(b:PB R ty pk)(c:PB R tv pv):DS R pm (ze (yf i) ty tv rd) (jdt i pk g pv):=Q4 a Jo b c
noncomputable def kaD:KA->D
 | .int i=>.int i
 | .str s=>.str s
@[simp] def yH(pd:PF)(ρ:Rh):Option D:=(pd ρ).bind λd=>(jjq d).bind λk=>bif frzs k.2 then some (.lst true<|(k.1.zip k.2).map λp=>.tup [kaD p.1,p.2]) else none
def Qz(a):Rep R Z H (kaD a) (kV<|kaV a) []:=by
 cases a with
 | int i=>exact .int_mk
 | str s=>exact .str_mk
def jeJ(h:PB R td pd):PP R (wS td) (yH pd):=by
 intro σ ρ Z H O d z s e Q k;refine ob e λx e1 e=>ob e λ⟨y,l⟩ e2 e=>oc e λhf e=>?_;cases e;obtain⟨o,rfl⟩:=jfe e2;refine h z s e1 λ{v F A P} g r=>?_;obtain⟨a,vs,O',rfl,rs,G,ea,f⟩:=r;refine⟨a,_,rfl,(by cases o with | true=>exact .inl ea | false=>exact ea),λt m N D S has=>?_⟩;have n:=List.nodup_cons.mp S;have M:∀ b,A b≠none->j9 A m ((y.map kaV).zip vs) t b=A b:=λb f=>by
  unfold j9;rw[if_neg λq=>f<|by rw[q];exact N,kU λq=>f<|has b q]
 have zd:=g.wf.zd;have I:∀ b∈m,j9 A m ((y.map kaV).zip vs) t b≠none:=λb f=>by
  obtain⟨j,hj⟩:=List.mem_iff_getElem?.mp f;have T:j<((y.map kaV).zip vs).length:=by rw[<- D];exact(L9.mp hj).1
  unfold j9;rw[if_neg<|show ¬ b=t from λq=>n.1<|q▸f,Q0 n.2 hj<|E1 T];exact λz=>nomatch z
 have J:j9 A m ((y.map kaV).zip vs) t t=some (.lst<|m.map V.ref):=by unfold j9;rw[if_pos rfl]
 have g2:Go F A [] (λb=>F b\/b∈m) (j9 A m ((y.map kaV).zip vs) t) [t]:=by
  refine⟨⟨by simp,λb f q=>?_,λb f=>?_,λb q=>?_⟩,λb q=>.inl q,λb f _=>M b f,λb q=>?_,λb f=>?_,λb f=>?_⟩
  ·rw[M9.mp f] at q;rcases q with q | q
   ·exact zd _ q N
   ·exact n.1 q
  ·rw[M9.mp f,J];exact λz=>nomatch z
  ·rcases q with q | q
   ·rw[M b<|zd b q];exact zd b q
   ·exact I b q
  ·rcases q with q | q
   ·exact .inl q
   ·exact .inr<|.inr<|has b q
  ·rw[M9.mp f];exact .inr N
  ·rw[M b f];exact f
 refine k (g.trans g2) ⟨t,m.map V.ref,[],rfl,?_,J,rfl⟩;have U:Reps R (λb=>F b\/b∈m) (j9 A m ((y.map kaV).zip vs) t) l vs []:=(rs.frozen hf).frame (λb q=>.inl q) (λb q=>M b<|zd b q) (λb f=>nomatch f);have key:∀(w:W5) (i:List KA) E B,Reps R (λb=>F b\/b∈m) (j9 A m ((y.map kaV).zip vs) t) E B []->i.length=E.length->w.length=i.length ->
   (∀(j:Nat) b c u,w[j]?=some b->i[j]?=some c->B[j]?=some u->b∈m/\j9 A m ((y.map kaV).zip vs) t b=some (.tup [kV<|kaV c,u])) ->
   Reps R (λb=>F b\/b∈m) (j9 A m ((y.map kaV).zip vs) t) ((i.zip E).map λp=>.tup [kaD p.1,p.2]) (w.map V.ref) []:=by
  intro w
  induction w with
  | nil=>
   intro i E B _ W C _;have:=List.length_eq_zero_iff.mp C.symm;subst this;exact .empty
  | cons b w ih=>
   intro i E B rr W C hp;cases i with
   | nil=>simp at C
   | cons c i=>
    cases E with
    | nil=>simp at W
    | cons d E=>
     obtain⟨u,K,O1,O2,rfl,eO,r1,r2⟩:=rr;obtain⟨rfl,rfl⟩:=List.append_eq_nil_iff.mp eO.symm;obtain⟨f,eb⟩:=hp 0 b c u rfl rfl rfl;exact Reps.cons (O:=[]) ⟨b,[kV<|kaV c,u],rfl,.inl ⟨.inr f,.inl eb⟩,Reps.cons (Qz c)<|.one r1⟩<|ih i E K r2 ⇑W ⇑C λj b' c' u' L X Y=>hp (j+1) b' c' u' ⇑L ⇑X ⇑Y
 refine key m y l vs U G (by rw[D,List.length_zip,L1,rs.length,G];simp) λj b c u L X Y=>⟨List.mem_of_getElem? L,?_⟩;have hz:((y.map kaV).zip vs)[j]?=some (kaV c,u):=by
  rw[List.getElem?_zip_eq_some];exact⟨by rw[List.getElem?_map,X];rfl,Y⟩
 unfold j9;rw[if_neg<|show ¬ b=t from λq=>n.1<|q▸List.mem_of_getElem? L,Q0 n.2 L hz]
end
section
variable {cl:Nat->Addr}{pm:List Nat}{X:Cx}{a b e o tg iter:Expr}{body:List Stmt}{ta tb te to:TE}{pa pb pe po:PF}{pos:Pos}{k:Nat}{t:TG}{g:D->Rh->Option Rh}{fE:FE}{ts:TS}{f:FS}
def jg1{i}{x}{a tpos}(f:Room k X.A)(g:QB cl X (.Name x a) (yf i)<|pV i)(c:QB cl X b tb pb)(d:QB cl X e te pe)
  (h:∀ ov iv new,augStore b ov iv new=(do holding [new,ov,iv] (setItem ov iv new);release [new,ov,iv] [];pure .next):=by intros;rfl):
  QS cl pm X (.AugAssign (.Subscript (.Name x a) b tpos) .Sub e pos) (ze (yf i) tb te jmp) (jdt i pb (λm n=>m-n) pe):=⟨K8 (YB f) g.sem c.sem d.sem jac h,jiu (λq=>⟨_,_,rfl,rfl,q⟩) c.den d.den⟩
def jgU(f:X.calm=true)(g:X.mg "list" = none)(e:QB cl X o to po)(h:Gl X "list":=by rfl)
  (a:attributeBase o "items" X.env (eval o X.env)=eval o X.env:=by rfl) (b:(apos.endLine==cpos.line)=true:=by rfl)
  (i:starEach [.Call (.Attribute o "items" apos) [] [] cpos] X.env=(false,eval (.Call (.Attribute o "items" apos) [] [] cpos) X.env)::starEach [] X.env:=by rfl)
  (c:(backTo pos<|starEach [] X.env).any (·.1)=false:=by rfl)
  (d:backTo pos (starEach [.Call (.Attribute o "items" apos) [] [] cpos] X.env)=[(false,eval (.Call (.Attribute o "items" apos) [] [] cpos) X.env)]:=by rfl):
  QP cl X (.Call (.Name "list" p) [.Call (.Attribute o "items" apos) [] [] cpos] [] pos) (wS to) (yH po):=⟨jeM f h g Yz e.sem a b i c d,jeJ e.den⟩
end
def jj2(B:jgi X scope N' ix)(d:X.calm=true)(hi:QIb cl X tg iter wi pi)
  (b:∀ C s H fp,QG cl [] (KO X scope N' C s H fp) tg t g) (a:∀ C s H fp,QIf cl (KO X scope N' C s H fp) ifs tcc qq) (c:∀ C s H fp,QP cl (KO X scope N' C s H fp) elt te pe)
  (e:∀ x,foldedSetIterable iter X.env x=pure x:=by intro _;rfl):QP cl X (.ListComp elt [⟨tg,iter,ifs,0⟩] scope pos) (Yu wi t tcc te ix) (jZ pi g qq pe ix):=
 ⟨jfu B d hi.sem (λC s H fp=>(b C s H fp).sem) (λC s H fp=>(a C s H fp).sem) (λC s H fp=>(c C s H fp).sem) e,
  K2 hi.den (b 0 X.s₀ X.H₀ []).den (a 0 X.s₀ X.H₀ []).den (c 0 X.s₀ X.H₀ []).den⟩
noncomputable def Qc(scope sc:Scope):Scope:={scope with names:=scope.names.map λ(n,k)=>if(k==NameKind.free&&sc.kind==.function&&sc.names.lookup n==some .cell) then(n,NameKind.cell) else(n,k)}
def jfB(a)(h1:X.env.scope=a)(h:J7 (Qc scope0 a) N0 scope N' ix=true):BlockOk (KO X scope0 N0 C s₃ H₃ fp) scope N' ix:=
 jd6 (Qc scope0 a) N0 (by subst h1;rfl) rfl h
noncomputable def jok:List Str->List Tok->List Value
 | x::xs,t::ts=>.str x t::jok xs ts
 | _,_=>[]
theorem Q9:∀{xs}{ts},xs.length=ts.length->Vals (xs.map V.str) (jok xs ts)
 | [],[],_=>.nil
 | x::xs,t::ts,h=>.cons ⟨t,rfl⟩<|Q9 ⇑h
 | [],_::_,h=>by simp at h
 | _::_,[],h=>by simp at h
def jbY(ws:W1):Reps R Z H (ws.map D.str) ((ws.map S).map V.str) []:=by
 induction ws with
 | nil=>exact .empty
 | cons w ws a=>exact .cons .str_mk a
def jeP{K}{n}{sl}{xs}{ts}{ws:W1}(c:ws.map S=xs)(h:K.lookup a=some ⟨.type "tuple",none,.seq (jok xs ts).toArray n,sl⟩)(d:xs.length=ts.length)(e:xs.length<=1000)(cl)(Z)(H):Rep ⟨K,cl⟩ Z H (.tup<|ws.map D.str) (.ref a) []:=by
 subst c;have b:=Q9 d;refine⟨a,(ws.map S).map V.str,rfl,.inr ⟨_,_,n,h,rfl,rfl,?_,by simpa using b⟩,jbY ws⟩;have:=b.length;rw[L1] at this;rw[N5,<- this];exact jhg e
noncomputable def spM(R:RC)(m:List D->Option (D×D))(n j:Nat):Sp:=λvs H Q _=>∃ Z ds d c O u,WF Z H O/\ds.length=n/\Reps R Z H ds vs O/\vs[j]?=some u/\m ds=some (d,c) /\
 ∀{v}{Z'}{H'}{P O'},Go Z H O Z' H' (P++O')->Rep R Z' H' d v P->Rep R Z' H' c u O'->Q v H'
def YN(j:Nat):Out->Option (D×D)
 | .rt d ρ=>(pV j ρ).bind λc=>some (d,c)
 | .nx ρ=>(pV j ρ).bind λc=>some (.non,c)
 | _=>none
def fnM(n j:Nat)(f:FS):List D->Option (D×D):=λds=>(f<|ds.map some++List.replicate (n-ds.length) none).bind (YN j)
def vY:fnM n j f ds=(f<|ds.map some++List.replicate (n-ds.length) none).bind (YN j):=rfl
def Go.pick(g:Go Z H O Z' H'<|P++(A++Q++B)):Go Z H O Z' H' (P++Q):=g.drop (λa h=>by simp at h ⊢;rcases h with h | h<;>simp[h]) (by
 have nd:=g.wf.nd;simp only[X3,N4] at nd ⊢;exact⟨nd.1,nd.2.1.1.2.1,λa c b d=>nd.2.2 a c b<|.inl<|.inr d⟩)
def jkL(y:DS R [j] ts f)(h:spM R (fnM N.length j f) n j vs H Q E):ts {nx:=λ_ H'=>Q .non H',rt:=Q} (L2.start N vs) H:=by
 obtain⟨Z,m,d,c,O,u,w,K,r,z,e,k⟩:=h;have s:Slots R Z H (m.map some++List.replicate (N.length-m.length) none) (L2.start N vs) O:=by
  have q:=Yy r<|Yr<|N.length-m.length;unfold L2.start;rw[r.length];rw[N2] at q;exact q
 have p:(L2.start N vs)[j]?=some (some u):=by
  unfold L2.start;rw[List.getElem?_append_left<|by simpa using((L9.mp z).1),List.getElem?_map,z];rfl
 have key:∀{a}{i}{l}{H'}{P t}{v},a[j]?=some (some c)->Go Z H O l H' (P++t)->Rep R l H' d v P->Slots R l H' a i t->Keep [j] (L2.start N vs) i->Q v H':=by
  intro a i l H' P t v b g D x kp;obtain⟨A,L,B,rfl,F,_,_⟩:=x.put (L9.mp b).1;obtain⟨M,G,I⟩:=F c b;have:i[j]?=some (some u):=by rw[kp j<|by simp,p]
  rw[G] at this;cases this;exact k g.pick D I
 refine ob e λo C e=>?_;cases o with
 | rt S a=>exact ob e λJ b e=>by cases e;exact y w s C<|key<|YR b
 | nx a=>exact ob e λJ b e=>by cases e;exact y w s C λg x kp=>key (YR b) ⇑g .non_mk x kp
 | bk a=>cases e
 | ct a=>cases e
def jjF(h:spM R m n j vs H Q E):vs.length=n:=by
 obtain⟨Z,b,d,c,O,u,w,a,r,_⟩:=h;rw[r.length,a]
def PJ(R:RC)(i j:Nat)(ta:TA)(p:PAf):Prop:=∀{σ}{ρ}{Z}{H}{O}{ds},Zd Z H->Slots R Z H ρ σ O->p ρ=some ds->∀{u},σ[i]?=some (some u) ->
 ∀{Q:List V->Hp->Prop},(∀{v1 v2}{Z'}{H'},Go Z H [] Z' H' []->v1.length=j->Reps R Z' H' (ds.take j) v1 []->Reps R Z' H' (ds.drop j) v2 []->Q (v1++u::v2) H')->ta σ H Q
@[simp] def pFs(p:PAf)(ρ:Rh):Option (List D):=(p ρ).bind λds=>bif frzs ds then some ds else none
def jkj(a:PPs R tr pr):PJ R i 0 (jW (yf i) tr) (pFs pr):=by
 intro σ ρ Z H O g z s e u b Q k;refine ob e λl c e=>oc e λd e=>?_;cases e;refine⟨u,b,a z s c λ{vs h j m} f r1=>?_⟩;cases r1.nil d;exact k f rfl ⇑Reps.empty ⇑r1
def jjt(h:PB R ta pa)(m:PJ R i j tr pr):PJ R i (j+1) (jW ta tr) (ja (pF pa) pr):=by
 intro σ ρ Z H O x z s e u n Q k;refine ob e λd a e=>ob e λl e2 e=>?_;cases e;have o:frz d=true:=by
  refine ob a λc e3 a=>?_;cases hc:frz c with
  | false=>rw[hc] at a;cases a
  | true=>rw[hc] at a;cases a;exact hc
 refine h.f z s a λ{v y A B} b r1=>?_;cases r1.nil o;refine m b.wf.zd (b.slots z s) e2 n λ{g C p q} g2 r t w=>?_;have g3:Go Z H [] p q []:=by simpa using b.pair g2
 exact k (v1:=v::g) g3 (by simp[r]) (.cons (g2.rep b.wf.zd r1) t) ⇑w
@[simp] def yc(m:List D->Option (D×D))(i:Nat)(j:Nat)(p:PAf)(ρ:Rh):Option (D×Rh):=(p ρ).bind λds=>(pV i ρ).bind λc=>(m<|ds.take j++c::ds.drop j).bind λr=>some (r.1,ρ.set i<|some r.2)
def Go.turn(g:Go Z H O Z' H'<|A++(P++Q)++B):Go Z H O Z' H' (P++(A++Q++B)):=g.drop (λa h=>by simp at h ⊢;rcases h with h | h | h | h<;>simp[h]) (by
 have nd:=g.wf.nd;simp only[X3,N4] at nd ⊢;obtain⟨⟨j,⟨k,l,m⟩,f⟩,n,i⟩:=nd;refine⟨k,⟨⟨j,l,λa d b c=>f a d b<|.inr c⟩,n,λa d b c=>i a (d.elim .inl λq=>.inr<|.inr q) b c⟩,λa d b c e=>?_⟩;rcases c with(c | c) | c
 ·exact f b c a (.inl d) e.symm
 ·exact m a d b c e
 ·exact i a (.inr<|.inl d) b c e)
def jgm(h:PJ R i j ta p)(y:∀ ρ ds,p ρ=some ds->ds.length+1=n/\j<=ds.length):DE R (qP (spM R m n j) [] E0 ta) (yc m i j p):=by
 intro σ ρ S Z H O d w s e Q k;refine ob e λds q e=>ob e λc a e=>ob e λ⟨z,C⟩ e2 e=>?_;cases e;have a:=YR a;have hi:=(L9.mp a).1;obtain⟨T,U,V,_,D,_,_⟩:=s.put hi;obtain⟨u,g,_⟩:=D c a;refine h w.zd s q g λ{E F l r} t G I J=>?_;have b:Go Z H O l r O:=by simpa using t.widen w
 obtain⟨A,P,B,rfl,K,L,_⟩:=(t.slots w.zd s).put hi;obtain⟨W,f,M⟩:=K c a;rw[g] at f;cases f;obtain⟨X,Y⟩:=y ρ ds q;have N:Reps R l r (ds.take j++c::ds.drop j) (E++u::F) P:=by
  have:=I.append<|Reps.cons M J;simpa using this
 refine⟨l,ds.take j++c::ds.drop j,z,C,P,u,b.wf.mid,by simp;lia,by rw[N2];exact N,by rw[N2,List.getElem?_append_right ∅,G];simp,e2,λ{v Z2 H2 P2 O2} g2 r2 o=>?_⟩;have x:=Go.keepA b.wf g2;have s2:=L o g2.zz (g2.zH b.wf.mid) x.1 x.2;rw[yX g] at s2;exact k (b.trans<|g2.frame b.wf).turn r2 s2
def jgp(i:Nat)(r:D×Rh):Option Out:=match r.2[i]? with
 | some (some (.lst true l))=>bif lim l.length then some (.nx<|r.2.set i<|some<|.lst true<|l++[r.1]) else none
 | _=>none
noncomputable def jgO:Option (Option D)->Bool
 | some (some (.lst true _))=>true
 | _=>false
def V6(i:Nat)(fe:FE):FS:=λρ=>bif jgO ρ[i]? then(fe ρ).bind (jgp i) else none
def jiB(h:DE R te fe):DS R pm (YT<|tBM R.K "list" Jy (yf i)<|jW te Yw) (V6 i fe):=by
 intro σ ρ Z H O o w s e D' k;unfold V6 at e;cases hown:jgO ρ[i]? with
 | false=>rw[hown] at e;cases e
 | true=>
 rw[hown,cond_true] at e;obtain⟨G,D⟩:∃ G,ρ[i]?=some (some<|.lst true G):=by
  unfold jgO at hown;split at hown
  ·rename_i G q;exact⟨G,q⟩
  ·lia
 refine ob e λr W e=>?_;obtain⟨d,ρ1⟩:=r;unfold jgp at e;split at e
 ·rename_i l S;refine oc e λE e=>?_;cases e;obtain⟨A0,P0,B0,_,X,_,_⟩:=s.put (L9.mp D).1;obtain⟨v0,m,Y⟩:=X _ D;obtain⟨a,I,O0,rfl,rs0,J,_⟩:=Y;refine⟨.ref a,m,.inl ⟨rfl,I,SqL.of J⟩,(h w s W λ{u p F t O1} T r1 s1=>?_)⟩;obtain⟨A,P,B,rfl,k1,k2,_⟩:=s1.put (L9.mp S).1;obtain⟨v,U,rl⟩:=k1 _ S;rw[m] at U;cases U;obtain⟨a',vs,C,L,V,ea,rfl⟩:=rl;cases L;refine⟨a,vs,u,rfl,rfl,ea,by rw[V.length];exact Vh E,?_⟩;have w1:=T.wf;have nd:=w1.nd;simp only[X3,N4,List.nodup_cons,M5] at nd;obtain⟨n1,⟨⟨nA,⟨na,nO⟩,nAO⟩,nB,j⟩,M⟩:=nd;have ne:∀ b,b∈t\/b∈A\/b∈C\/b∈B\/p b->b≠a:=by
   intro b c e;subst e;rcases c with c | c | c | c | c
   ·lia
   ·lia
   ·lia
   ·exact j b (.inr<|.inl rfl) b c rfl
   ·exact w1.nz b (by simp) c
  have N:Reps R p (upd F a<|.lst<|vs++[u]) l vs C:=V.frame (λ_ z=>z) (λb z=>je<|ne b<|.inr<|.inr<|.inr<|.inr z) λb c=>je<|ne b<|.inr<|.inr<|.inl c;have Q:Rep R p (upd F a<|.lst<|vs++[u]) d u t:=r1.frame (λ_ z=>z) (λb z=>je<|ne b<|.inr<|.inr<|.inr<|.inr z) λb c=>je<|ne b<|.inl c;have r2:Rep R p (upd F a<|.lst<|vs++[u]) (.lst true<|l++[d]) (.ref a) (a::(C++t)):=by
   refine⟨a,vs++[u],C++t,rfl,?_,jl,rfl⟩;have:=N.append<|Reps.cons Q Reps.empty;simpa using this
  have s2:=k2 r2 (λ_ z=>z) (λb z=>je<|ne b<|.inr<|.inr<|.inr<|.inr z) (λb c=>je<|ne b<|.inr<|.inl c)<|λb c=>je<|ne b<|.inr<|.inr<|.inr<|.inl c;rw[yX m] at s2;have g2:Go p F (t++(A++a::C++B)) p (upd F a<|.lst<|vs++[u]) (A++(a::(C++t))++B):=by
   refine⟨⟨?_,λb c=>w1.nz b (by simp at c ⊢;rcases c with c | c | c | c | c<;>simp[c]),λb c=>?_,λb c=>?_⟩,λ_ z=>z,λb c hn=>je<|λe=>hn<|by simp[e],λ_ z=>.inl z,λb c=>.inl (by simp at c ⊢;rcases c with c | c | c | c | c<;>simp[c]),λb c=>?_⟩
   ·simp only[X3,N4,List.nodup_cons,M5];refine⟨⟨nA,⟨λz=>z.elim na λq=>M a q a (.inl<|.inr<|.inl rfl) rfl,nO,n1,λx g y n e=>M y n x (.inl<|.inr<|.inr g) e.symm⟩,λx g y n e=>?_⟩,nB,λx g y n e=>?_⟩
    ·grind
    ·rcases g with g | g | g | g
     ·exact j x (.inl g) y n e
     ·exact j x (.inr<|.inl g) y n e
     ·exact j x (.inr<|.inr g) y n e
     ·exact M x g y (.inr n) e
   ·by_cases f:b=a
    ·rw[f,jl];exact λz=>(nomatch z)
    ·rw[je f];exact w1.od b (by simp at c ⊢;rcases c with c | c | c | c | c<;>simp[c])
   ·by_cases f:b=a
    ·rw[f,jl];exact λz=>(nomatch z)
    ·rw[je f];exact w1.zd b c
   ·by_cases f:b=a
    ·rw[f,jl];exact λz=>(nomatch z)
    ·rw[je f];exact c
  exact k (T.trans g2) s2<|Keep.refl _ _
 ·cases e
structure QJ(cl:Nat->Addr)(X:Cx)(i j:Nat)(es:List Expr)(ta:TA)(p:PAf):Prop where
 sem:PA X es ta
 den:PJ ⟨X.K,cl⟩ i j ta p
 n:∀ ρ ds,p ρ=some ds->ds.length+1=es.length/\j<=ds.length
def jkD(b:QB cl X (.Name x pos) (yf i)<|pV i)(a:QPs cl X es tr pr)(c:∀ ρ ds,pr ρ=some ds->ds.length=es.length)(d:starEach (.Name x pos::es) X.env=(false,eval (.Name x pos) X.env)::starEach es X.env:=by rfl):QJ cl X i 0 (.Name x pos::es) (jW (yf i) tr) (pFs pr):=
 ⟨jN b.sem a.sem d,jkj a.den,λρ ds h=>by
  refine ob h λl e h=>?_;cases hf:frzs l with
  | false=>rw[hf] at h;cases h
  | true=>rw[hf] at h;cases h;exact⟨by rw[M3,c ρ _ e],U7 _⟩⟩
def jjr(b:QB cl X e te pe)(a:QJ cl X i j es tr pr)(c:SEq X e es:=by rfl):QJ cl X i (j+1) (e::es) (jW te tr) (ja (pF pe) pr):=
 ⟨jN b.sem a.sem c,jjt b.den a.den,λρ f h=>by
  refine ob h λd g h=>ob h λl e2 h=>?_;cases h;have:=a.n ρ l e2;simp only[M3]
  lia⟩
def jkA{cl}{X}{e}{es}{pos p}{x}{tr}{pr}{i j}{k n}{f}{fd}{ps}{m}{qual}{st}(F:FnFact X.K X.mg x qual st f fd ps)(G:FnOk X.prog X.w X.K X.mg X.base CX0 k f fd ps<|spM ⟨X.K,cl⟩ m n j)(d:Room k X.A)
  (a:QJ cl X i j (e::es) tr pr) (g:(e::es).length=n:=by rfl) (l:Gl X x:=by rfl) (b:Nd x:=by decide)
  (o:SEq X e es:=by rfl) (c:BkE X pos es:=by rfl):QE cl X (.Call (.Name x p) (e::es) [] pos) (qP (spM ⟨X.K,cl⟩ m n j) [] E0 tr) (yc m i j pr):=
 ⟨jgu F G d a.sem l b o c,jgm a.den λρ q h=>by rw[<- g];exact a.n ρ q h⟩
def jlv{cl}{P}{w}{K}{mg}{base}{x qual}{a}{fa}{fd}{N ps}{k n j}{fs}(F:Fun K x qual a fa fd)(c:FnScope N ps<|jD a)(d:ps.length=n)
  (b:∀ cdv A outer s H E,Room k (A.deeper<|envOfC qual (jD a) ↥s fa cdv) ->
   ∃ ts,QSs cl [j] (jhK CX0 P w K mg base N qual (jD a) fa cdv A outer s H E).nox (vT a) ts fs):FnOk P w K mg base CX0 (k+1) fa fd ps (spM ⟨K,cl⟩ (fnM N.length j fs) n j):=by
 refine F.ok c (λvs H Q E h=>by rw[jjF h,d]) λcdv A outer s H vs Q E e h=>?_;obtain⟨ts,q⟩:=b cdv A outer s H E e;exact⟨ts,q.sem,jkL q.den h⟩
def BO.o(h:BO R r g):DO R r g:=λw r1 r2 e _ k=>h w.zd r1 r2 e λg3 a=>k (g3.widen w).dropR a
def oF(g:D->D->Option D):D->D->Option D:=λx y=>(g x y).bind λd=>bif frz d then some d else none
def BO'.o(h:BO' R r g):DO R r (oF g):=by
 intro Z H x y d v u i j w r1 r2 e Q k;refine ob e λc b e=>oc e λf e=>?_;cases e;refine h w.zd r1 r2 b λ{l P} a=>?_;cases a.nil f;exact k ((Go.refl w).to0) a
def vW(m:List D->Option D)(fa:FA):FE:=λρ=>(fa ρ).bind λr=>bif frzs r.1 then(m r.1).bind λd=>some (d,r.2) else none
def jfU(f:DA R ta fa)(g:∀ ρ r,fa ρ=some r->r.1.length=n):DE R (qP (spP R m n) [] E0 ta) (vW m fa):=by
 intro σ ρ l Z H O d w s e Q k;refine ob e λr b e=>?_;obtain⟨h,o⟩:=r;refine oc e λi e=>ob e λc e2 e=>?_;cases e;refine f w s b λ{vs j p q t} a r1 s1=>?_;cases r1.nil i;refine⟨j,h,d,a.wf.zd,g ρ _ b,by rw[N2];exact r1,e2,λ{v u x y} g2 r2=>?_⟩;exact k (a.trans<|by simpa using(g2.widen a.wf)) r2<|g2.slots a.wf.zd s1
noncomputable def qU(g:D->Rh->Option Rh)(fe:FE):List D->Rh->Option (List D×Rh)
 | [],ρ=>some ([],ρ)
 | x::xs,ρ=>(g x ρ).bind λρ1=>(fe ρ1).bind λr=>(qU g fe xs r.2).bind λt=>some (r.1::t.1,t.2)
def YL(i:Nat)(ρ:Rh):Bool:=(ρ.set i none).all λo=>match o with
 | none=>true
 | some d=>frz d
def xz(pi:PAf)(g:D->Rh->Option Rh)(fe:FE)(ix:List<|Option Nat)(i i':Nat):FE:=λρ=>(pi ρ).bind λxs=>match ρ[i]? with
 | some (some _)=>bif lim xs.length&&YL i' (jk ix ρ) then(qU g fe xs<|jk ix ρ).bind λt=>match t.2[i']? with
   | some (some c)=>some (.lst true t.1,ρ.set i<|some c)
   | _=>none
  else none
 | _=>none
theorem VT:∀{ρ}{σ}{O},Slots R Z H ρ σ O->(∀ o∈ρ,∀ d,o=some d->frz d=true)->Slots R Z H ρ σ []
 | [],_,_,h,_=>⟨h.1,rfl⟩
 | none::ρ,_,_,h,f=>by
  obtain⟨s,a,e,r⟩:=h;exact⟨s,a,e,VT r λo b=>f o<|by simp[b]⟩
 | some d::ρ,_,_,h,f=>by
  obtain⟨v,a,c,g,e,_,r1,r2⟩:=h;cases r1.nil (f (some d) (by simp) d rfl);exact⟨v,a,[],[],e,rfl,r1,VT r2 λo b=>f o<|by simp[b]⟩
def z5(s:Slots R Z H ρ σ O)(a:ix[i']?=some (some i))(h:ρ[i]?=some (some c))(j:σ[i]?=some (some u))(k:Rep R Z H c u P)(l:YL i' (jk ix ρ)=true):
  Slots R Z H (jk ix ρ) (yt ix σ) P/\(yt ix σ)[i']?=some (some u):=by
 obtain⟨x,m⟩:=VS s ix;have n:=(L9.mp a).1;have f:(jk ix ρ)[i']?=some (some c):=by
  unfold jk;rw[List.getElem?_map,a];show some ((ρ[i]?).join)=_;rw[h];rfl
 have g:(yt ix σ)[i']?=some (some u):=by
  unfold yt;rw[List.getElem?_map,a];show some ((σ[i]?).join)=_;rw[j];rfl
 have b:=(L9.mp f).1;obtain⟨A,y,B,_,_,_,p⟩:=m.put b;have r:=VT p λo t d hd=>by
  have:=List.all_eq_true.mp l o t;rw[hd] at this;exact this
 obtain⟨C,D,E,v,_,w,_⟩:=r.put (by rw[List.length_set];exact b);have q:=w k (λ_ z=>z) (λ_ _=>rfl) (λ_ _=>rfl)<|λ_ _=>rfl;have e:=v.symm;rw[List.append_eq_nil_iff,List.append_eq_nil_iff] at e;rw[e.1.1,e.2,List.set_set,yX f,yX g] at q;exact⟨by simpa using q,g⟩
def jkO(hi:PIt R wi pi)(hg:PGt R [i'] tg g)(he:DE R te fe)(hix:ix[i']?=some (some i)):
  DE R (Yu wi tg (λ_ H Q=>Q true H) te ix) (xz pi g fe ix i i'):=by
 intro σ ρ ρ' Z H O d w s e Q k;refine ob e λl e1 e=>?_;split at e
 ·rename_i c hc;refine oc e λhl e=>?_;rw[M0] at hl;refine ob e λt e2 e=>?_;obtain⟨all,ρE⟩:=t;split at e
  ·rename_i c' D;cases e;refine hi w.zd s e1 λ{J p v} g0 it=>?_;intro a ha;have Y:Go Z H O p v O:=by simpa using g0.widen w
   have s0:=g0.slots w.zd s;obtain⟨A,P,B,rfl,k1,k2,_⟩:=s0.put (L9.mp hc).1;obtain⟨u,hu,rc⟩:=k1 c hc;obtain⟨si,hsu⟩:=z5 s0 hix hc hu rc hl.2;have E:=Y.wf.mid;have gp:Go p v P p (upd v a<|.lst []) (a::P):=Go.newO E ha;have F:∀ b,v b≠none->b≠a:=λb h e=>h<|e▸ha;refine⟨λi m σ2 C=>m=l.length-i/\i<=l.length/\∃ ρ2 G I K vs j rest,Go p v P G C (a::j++I)/\C a=some (.lst vs)/\Reps R G C K vs j/\Slots R G C ρ2 σ2 I/\Keep [i'] (yt ix σ) σ2/\qU g fe (l.drop i) ρ2=some (rest,ρE)/\all=K++rest/\K.length<=i,
    ⟨l.length,rfl,U7 _,_,p,P,[],[],[],all,by simpa using gp,jl,Reps.empty,si.frame (λ_ z=>z) (λb z=>je<|F b<|E.zd b z)<|λb f=>je<|F b<|E.od b f,Keep.refl _ _,e2,rfl,N1 _⟩,?_⟩
   rintro n m σ2 C ⟨rfl,hn',ρ2,G,I,K,vs,j,rest,g2,ea,ry,s2,kp,e3,e4,L⟩;have M:=it g2.zz (g2.zH E) g2.wf.zd n;by_cases N:n<l.length
   ·right
    have hx:l[n]?=some l[n]:=by simp[N]
    obtain⟨go,yl⟩:=M.2 _ hx;refine⟨go,λu3 H3 hy=>?_⟩;obtain⟨Z3,g3,r3⟩:=yl u3 H3 hy;have S:Go G C (a::j++I) Z3 H3 (a::j++I):=by simpa using g3.widen g2.wf
    rw[qJ hx] at e3;refine ob e3 λρ3 e5 e3=>(hg r3 (g3.slots g2.wf.zd s2) e5 λ{σ4 O4} sub nd s4 k4=>(je1<|ob e3 λr e6 e3=>?_));obtain⟨y,ρ6⟩:=r;refine ob e3 λt e8 e3=>?_;obtain⟨ys2,ρF⟩:=t;cases e3;have n3:=X3.mp S.wf.nd;have g4:=(g2.trans S).drop (λb f=>by rcases N4.mp f with q | q<;>simp only[N4];exact .inl q;exact .inr<|sub b q) (X3.mpr ⟨n3.1,nd n3.2.1,λx hx y hy=>n3.2.2 x hx y<|sub y hy⟩);refine he g4.wf.right s4 e6 λ{v6 T o U V} g6 r6 s6=>?_;have w4:WF Z3 H3 (a::j++O4++[]):=by simpa using g4.wf
    have W:=(Go.keepA w4 g6).1;have gA:Go p v P T o (a::j++(U++V)):=by
     exact g4.trans (by simpa using(g6.frame w4))
    have w6:=gA.wf;have ea6:o a=some (.lst vs):=by rw[W a<|by simp,g3.same a<|by rw[ea];exact λz=>(nomatch z)];exact ea
    have hvl:vs.length<sizeLine:=by
     rw[ry.length];exact Vh<|X5<|N9 L<|N9 hn'<|X7 hl.1
    have gB:Go T o (a::j++(U++V)) T (upd o a<|.lst<|vs++[v6]) (a::j++(U++V)):=Go.put w6 (by simp);have ne:∀ b,b∈j++(U++V)->upd o a (.lst<|vs++[v6]) b=o b:=λb f=>je λz=>(List.nodup_cons.mp w6.nd).1 (z▸f);have X:∀ b,T b->upd o a (.lst<|vs++[v6]) b=o b:=λb f=>je λz=>w6.nz a (by simp)<|z▸f;refine⟨vs,ea6,hvl,l.length-(n+1),by lia,rfl,N,ρ6,T,V,K++[y],vs++[v6],j++U,ys2,?_,jl,?_,(s6.frame (λb z=>z) X λb f=>ne b<|by simp[f]),kp.trans k4,e8,by rw[e4];simp,by rw[N6];exact Nat.add_le_add_right L 1⟩
    ·have:=gA.trans gB;simpa using this
    ·refine(((g3.reps g2.wf.zd ry).frame g6.zz (g6.zH g4.wf.right) λb f=>W b<|by simp[f]).append (.one r6)).frame (λb z=>z) X λb f=>ne b ?_;rcases N4.mp f with q | q<;>simp[q]
   ·left
    have hi2:n=l.length:=by lia
    refine⟨M.1 ∅,?_⟩;rw[hi2,List.drop_length] at e3;cases e3;rw[N2] at e4;subst e4;obtain⟨A',P',B',rfl,k1',_,_⟩:=s2.put (L9.mp D).1;obtain⟨u',hu',rc'⟩:=k1' c' D;have:σ2[i']?=some (some u):=by rw[kp i'<|by simp,hsu]
    rw[hu'] at this;cases this;have g5:=g2.pick;have W:=Go.keepA Y.wf g5;have s5:=k2 rc' g5.zz (g5.zH E) W.1 W.2;rw[yX hu] at s5;exact k (Y.trans<|g5.frame Y.wf).turn ⟨a,vs,j,rfl,ry,ea,rfl⟩ s5
  ·cases e
 ·cases e
def BC.o(h:BC R r g):DC R r g:=λw r1 e _ k=>h w.zd r1 e λg3 a=>k (g3.widen w).dropR a
def DIt(R:RC)(wi:TI)(fi:FA):Prop:=∀{σ}{ρ ρ'}{Z}{H}{O}{xs},WF Z H O->Slots R Z H ρ σ O->fi ρ=some (xs,ρ') ->
 ∀{Q:It->Hp->Prop},(∀{J}{Z'}{H'}{O'},Go Z H O Z' H' O'->Slots R Z' H' ρ' σ O'->jhW R J Z' H' xs->Q J H')->wi σ H Q
def jck(fa:FA):FA:=λρ=>(fa ρ).bind λr=>(Km r.1).bind λxs=>some (xs,r.2)
def jkK(h:DA R ta fa):DIt R (jeQ ta) (jck fa):=by
 intro σ ρ f Z H O g w s e Q k;refine ob e λ⟨i,l⟩ b e=>ob e λm e2 e=>ob e2 λx e3 e2=>ob e2 λj c e2=>oc e2 λa e2=>?_;cases e;cases e2;cases kE e3;cases jK c;refine h w s b λ{vs n o p q} d r1 s1=>?_;obtain⟨u,rfl,r2⟩:=r1.one_of;obtain⟨rfl,rfl⟩:=r2.int_of;exact⟨j,rfl,(qE a).1,(qE a).2,k ⇑d s1 jho⟩
def jdM(p:FA)(g:D->Rh->Option Rh)(f:FS):FS:=λρ=>(p ρ).bind λr=>j8 g f r.1 r.2
def jia(hi:DIt R wi p)(M:PGt R pm tg g)(N:DS R pm tb f):DS R pm (jk6 wi tg tb) (jdM p g f):=by
 intro σ ρ Z H O o w s e D' k;refine ob e λr P e=>?_;obtain⟨c,Q⟩:=r;refine hi w s P λ{J C I O0} a s0 S=>?_;refine⟨LpF R pm g f σ C I O0 c o,
  ⟨c.length,rfl,U7 _,Q,C,O0,Go.refl a.wf,s0,Keep.refl _ _,e⟩,?_⟩
 rintro i m σ' T ⟨rfl,U,ρ',V,K,h,s1,kp,e2⟩;have t:=S h.zz (h.zH a.wf) h.wf.zd i;by_cases v:i<c.length
 ·right
  have L:c[i]?=some c[i]:=by simp[v]
  obtain⟨go,W⟩:=t.2 _ L;rw[qJ L] at e2;refine ob e2 λρ1 e3 e2=>ob e2 λX Y e2=>⟨go,λD n=>∃ b q A,Go C I O0 q n A/\Slots R q n b D A/\Keep pm σ D/\j8 g f (c.drop<|i+1) b=some o,λD n ⟨b,q,A,a1,a2,a3,a4⟩=>⟨c.length-(i+1),by lia,rfl,v,b,q,A,a1,a2,a3,a4⟩,λu n hy=>?_⟩;obtain⟨q,g2,r2⟩:=W u n hy;have x:Go V T K q n K:=by simpa using g2.widen h.wf
  refine M r2 (g2.slots h.wf.zd s1) e3 λ{σ3 O3} sub nd s3 B=>?_;have g3:=(h.trans x).drop sub (nd x.wf.nd);refine N g3.wf s3 Y ?_;cases X with
  | nx b=>exact λ{E y F z} g4 j l=>⟨b,y,z,g3.trans g4,j,kp.trans<|B.trans l,e2⟩
  | ct b=>exact λ{E y F z} g4 j l=>⟨b,y,z,g3.trans g4,j,kp.trans<|B.trans l,e2⟩
  | bk b=>cases e2;exact λ{E y F z} g4 j l=>k (a.trans<|g3.trans g4) j<|kp.trans<|B.trans l
  | rt d b=>cases e2;exact λ{v4 E y F P4 z} g4 r4 j l=>k (a.trans<|g3.trans g4) r4 j<|kp.trans<|B.trans l
 ·left
  have G:i=c.length:=by lia
  refine⟨t.1 ∅,?_⟩;rw[G,List.drop_length] at e2;cases e2;exact k (a.trans h) s1 kp
structure QTE(cl:Nat->Addr)(X:Cx)(e:Expr)(tt:TT)(f:FT'):Prop where
 sem:PT X e tt
 den:DT ⟨X.K,cl⟩ tt f
structure QWE(cl:Nat->Addr)(X:Cx)(e:Expr)(tt:TT)(f:FT'):Prop where
 sem:PW X e tt
 den:DT ⟨X.K,cl⟩ tt f
def QT.d(h:QT cl X e tA qa):QTE cl X e tA (dPT qa):=⟨h.sem,PTt.d h.den⟩
def jm3{cl}{X}{a b}{ta tb}{fa fb}{pos}{K}(hK:X.K=K)(c:QE cl X a ta fa)(d:QE cl X b tb fb):QE cl X (.BinOp a .Add b pos) (tOp (jec K) ta tb) (dOp ji fa fb):=by subst hK;exact⟨Q5 jeH c.sem d.sem,jgB (BO.o jg6) c.den d.den⟩
def jnt(c:QE cl X a ta fa)(d:QE cl X b tb fb):QE cl X (.BinOp a .Mod b pos) (tOp (rI (λ_ j=>0<j) λi j=>.int<|i%j) ta tb) (dOp jn fa fb):=⟨Q5 jhN c.sem d.sem,jgB (BO.o jht) c.den d.den⟩
def jnm(h:CmpR cl X op b r gg)(c:QE cl X a ta fa)(d:QE cl X b tb fb):QTE cl X (.Compare a [op] [b] pos) (VH<|tOp r ta tb) (jbk<|dOp gg fa fb):=⟨jd9 h.o c.sem d.sem h.m,jip<|jgB (BO.o h.g) c.den d.den⟩
def jmT(b:QTE cl X a tA ft):QWE cl X (.BoolOp .Or [a] pos) tA ft:=⟨jhh b.sem,b.den⟩
def ji3(b:QTE cl X a tA ft):QWE cl X (.BoolOp .And [a] pos) tA ft:=⟨jeU b.sem,b.den⟩
def joz{cl}{X}{a b}{es}{tA tB}{ft fu}{pos}(c:QTE cl X a tA ft)(d:QWE cl X (.BoolOp .Or (b::es) pos) tB fu):QWE cl X (.BoolOp .Or (a::b::es) pos) (tOr tA tB) (dOr ft fu):=⟨jnC c.sem d.sem,jpV c.den d.den⟩
def jmk{cl}{X}{a b}{es}{tA tB}{ft fu}{pos}(c:QTE cl X a tA ft)(d:QWE cl X (.BoolOp .And (b::es) pos) tB fu):QWE cl X (.BoolOp .And (a::b::es) pos) (jnh tA tB) (job ft fu):=⟨jhu c.sem d.sem,jkZ c.den d.den⟩
def QWE.test(h:QWE cl X a tA ft):QTE cl X a tA ft:=⟨PW.pt h.sem,h.den⟩
def joU(a:QTE cl X c tA ft)(b:QSs cl pm X x ts f)(d:QSs cl pm X y tu f2):QS cl pm X (.If c x y pos) (joa tA ts tu) (sIf ft f f2):=⟨jk4 a.sem b.sem d.sem,jlY a.den b.den d.den⟩
def jo6{cl}{X}{a b}{ta tb}{fa fb}{pos}{K}(hK:X.K=K)(c:QE cl X a ta fa)(d:QE cl X b tb fb)(e:KS b:=by exact λ_ _=>rfl):QE cl X (.Subscript a b pos) (tOp (rIx K) ta tb) (dOp (oF jd) fa fb):=by subst hK;exact⟨jnS jhq c.sem d.sem e,jgB (BO'.o jle) c.den d.den⟩
def jh9{cl}{X}{e}{es}{tr}{fr}{pos}{K}{k n}{fn}{fd}{ps}{m}{x qual}{st}{p}(hK:X.K=K)(F:FnFact X.K X.mg x qual st fn fd ps)(G:FnOk X.prog X.w X.K X.mg X.base CX0 k fn fd ps<|spP ⟨X.K,cl⟩ m n)(d:Room k X.A)
  (c:QDs cl X (e::es) tr fr) (f:∀ ρ r,fr ρ=some r->r.1.length=n) (g:Gl X x:=by rfl) (a:Nd x:=by decide)
  (h:SEq X e es:=by rfl) (b:BkE X pos es:=by rfl):QE cl X (.Call (.Name x p) (e::es) [] pos) (qP (spP ⟨K,cl⟩ m n) [] E0 tr) (vW m fr):=by
 subst hK;exact⟨jgu F G d c.sem g a h b,jfU c.den f⟩
def QM{cl}{X}{e}{es}{tr}{fr}{pos}{K:W4}{x}{p}{id}{r}{c}(f:kR X (.builtin id) r)(g:BC ⟨X.K,cl⟩ r c)(h:X.mg x=none)(i:bootBuiltins x=some (.builtin id))(d:QDs cl X (e::es) tr fr)(j:Gl X x:=by rfl)
  (k:x≠"__name__":=by decide) (a:Nd x:=by decide) (l:SEq X e es:=by rfl) (b:BkE X pos es:=by rfl):
  QE cl X (.Call (.Name x p) (e::es) [] pos) (tCB r tr) (dCB c fr):=⟨QH f j h i d.sem k a l b,jmM (BC.o g) d.den⟩
structure QIE(cl:Nat->Addr)(X:Cx)(tg e:Expr)(wi:TI)(p:FA):Prop where
 sem:PI X tg e wi
 den:DIt ⟨X.K,cl⟩ wi p
def jgG(b:X.mg "range" = none)(h:QDs cl X [a] tr fr)(c:Gl X "range":=by rfl)(d:starEach [a] X.env=[(false,eval a X.env)]:=by rfl):QIE cl X tg (.Call (.Name "range" p) [a] [] pos) (jeQ tr) (jck fr):=⟨zR c b h.sem d,jkK h.den⟩
def jlW(c:PassesOwn (model X.prog X.w) X.A X.env X.xe)(d:X.calm=true)(hi:QIE cl X tg iter wi fi)(a:QG cl pm X tg t g)(b:QSs cl pm X body ts f)(e:∀ x,foldedSetIterable iter X.env x=pure x:=by intro _;rfl):QS cl pm X (.For tg iter body [] pos) (jk6 wi t ts) (jdM fi g f):=
 ⟨jhB c d hi.sem a.sem b.sem e,jia hi.den a.den b.den⟩
def jl6(g:QB cl X (.Name x xpos) (yf i)<|pV i)(h:QE cl X e te fe)(b:attributeBase (.Name x xpos) "append" X.env (eval (.Name x xpos) X.env)=eval (.Name x xpos) X.env:=by rfl)
  (d:((backTo cpos<|starEach [e] X.env).all (λx=>!x.1)&&(backToKw cpos<|keywordEach [] X.env).all (λx=>x.1.isSome)
   && decide ([e].length+([]:List Keyword).length+(if([]:List Keyword).isEmpty then 0 else 1)<30))=true:=by rfl)
  (c:(apos.endLine==cpos.line)=true:=by rfl) (f:starEach [e] X.env=(false,eval e X.env)::starEach [] X.env:=by rfl) (a:(backTo cpos<|starEach [] X.env).any (·.1)=false:=by rfl)
  (hsw:swapsWith (.Call (.Attribute (.Name x xpos) "append" apos) [e] [] cpos) none pos.line X.env=pure false:=by rfl):
  QS cl pm X (.Expr (.Call (.Attribute (.Name x xpos) "append" apos) [e] [] cpos) pos) (YT<|tBM X.K "list" Jy (yf i)<|jW te Yw) (V6 i fe):=
 ⟨Vf (jb8 PySem.F.plainAttrs_list PySem.F.slot_list_append PySem.F.type_list_append J5 g.sem (jN h.sem kg f) b d c f a) hsw,jiB h.den⟩
def ja0(B:BlockOk X scope N' ix)(e:X.calm=true)(hi:QI cl X tg iter wi pi)(a:ix[o']?=some (some o))
  (c:∀ C s H fp,QG cl [o'] (jI X scope N' C s H fp) tg t g) (d:∀ C s H fp,QE cl (jI X scope N' C s H fp) elt te fe)
  (f:X.N.Nodup) (b:X.N[i]?=some x:=by rfl) (h:Loc X.env.scope x:=by first | exact Or.inl rfl | exact Or.inr rfl)
  (hsw:swapsWith (.ListComp elt [⟨tg,iter,[],0⟩] scope pos) (some<|.Name x pos') spos.line X.env=pure true:=by with_unfolding_all rfl)
  (j:∀ x,foldedSetIterable iter X.env x=pure x:=by intro _;rfl)
  (k:X.fn x=true\/X.env.scope.names.lookup x=some .local:=by first | exact .inl rfl | exact .inr rfl):
  QS cl pm X (.Assign [.Name x pos'] (.ListComp elt [⟨tg,iter,[],0⟩] scope pos) spos) (jhw (Yu wi t (λ_ H Q=>Q true H) te ix)<|vw i) (jt (xz pi g fe ix o o')<|jc pm i):=
 ⟨Ko B e hi.sem (λC s H fp=>(c C s H fp).sem) (λC s H fp=>.inl ⟨rfl,rfl⟩) (λC s H fp=>(d C s H fp).sem) f b h hsw j k,
  jaa (jkO hi.den (c 0 X.s₀ X.H₀ []).den (d 0 X.s₀ X.H₀ []).den a) VD⟩
def jaG:∀ ρ ds,pN ρ=some ds->ds.length=0:=λρ ds h=>by cases h;rfl
def xy(h:∀ ρ ds,pr ρ=some ds->ds.length=n):∀ ρ ds,ja p pr ρ=some ds->ds.length=n+1:=λρ ds e=>by
 refine ob e λd a e=>ob e λl e2 e=>?_;cases e;rw[M3,h ρ l e2]
def jfl:∀ ρ r,Jk ρ=some r->r.1.length=0:=λρ r h=>by cases h;rfl
def jcZ(h:∀ ρ r,fr ρ=some r->r.1.length=n):∀ ρ r,jr fe fr ρ=some r->r.1.length=n+1:=λρ r e=>by
 refine ob e λq b e=>?_;obtain⟨d,a⟩:=q;refine ob e λt e2 e=>?_;obtain⟨l,c⟩:=t;cases e;exact congrArg (·+1)<|h a _ e2
def jlS:D->Option (List D)
 | .lst _ m=>bif frzs m then some m else none
 | .tup m=>bif frzs m then some m else none
 | _=>none
def jkM(i:Nat)(p:PF)(ρ:Rh):Option Out:=(p ρ).bind λe=>(jlS e).bind λm=>(pV i ρ).bind λx=>(zG x).bind λl=>bif lim (l.length+m.length) then some (.nx<|ρ.set i<|some<|.lst true<|l++m) else none
def jnZ(h:PB R te p):DS R pm (YT<|tBM R.K "list" (jik R.K) (yf i)<|jW te Yw) (jkM i p):=by
 intro σ ρ Z H O o w s e I k;refine ob e λd z e=>ob e λm e2 e=>ob e λx A e=>ob e λl e3 e=>oc e λc e=>?_;cases e;cases Y3 e3;unfold YT tBM;refine qH (P0:=[]) Jo w s A rfl YM λa _ vs J t _ v B put=>B ⟨.inl ⟨rfl,vs,SqL.of v⟩,h w.zd s z λ{u C f L} g r1=>?_⟩;have D:∃ b zs,u=.ref b/\(SqL R.K f b zs\/SqT R.K f b zs)/\Reps R C f m zs []:=by
  cases d with
  | lst M E=>
   refine oc e2 λj e2=>?_;cases e2;obtain⟨b,zs,F,rfl,n,r⟩:=r1.lst_of;exact⟨b,zs,rfl,.inl n.sq,r.frozen j⟩
  | tup E=>
   refine oc e2 λj e2=>?_;cases e2;obtain⟨b,zs,rfl,n,r⟩:=r1.tup_of;exact⟨b,zs,rfl,.inr n,r.frozen j⟩
  | _=>cases e2
 obtain⟨b,zs,rfl,G,y⟩:=D;obtain⟨N,g2,s2⟩:=put YM trivial g ((g.reps w.zd t).append y) λq=>by simp
 exact⟨a,b,vs,zs,rfl,rfl,g.at0 v,G,by rw[t.length,y.length];exact Jr c,k g2 s2<|Keep.refl _ _⟩
noncomputable def jdj:List D->Option D
 | [.bl b]=>some<|.int (if b then 1 else 0)
 | _=>none
def jji:BC R (λxs H Q=>∃ b:Bool,xs=[.bl b]/\Q (.int<|if b then 1 else 0) H) jdj:=by
 intro Z H xs d vs O z r e Q k;unfold jdj at e;split at e
 ·rename_i b;cases e;obtain⟨v,rfl,r1⟩:=r.one_of;obtain⟨rfl,_⟩:=r1.bl_of;exact⟨b,rfl,k (Go.id z) .int_mk⟩
 ·cases e
@[simp] def fIntB_e(b):jdj [.bl b]=some (.int<|if b then 1 else 0):=rfl
def jmb(g:QB cl X (.Name x xpos) (yf i)<|pV i)(h:QB cl X e te pe)(b:attributeBase (.Name x xpos) "extend" X.env (eval (.Name x xpos) X.env)=eval (.Name x xpos) X.env:=by rfl)
  (d:((backTo cpos<|starEach [e] X.env).all (λx=>!x.1)&&(backToKw cpos<|keywordEach [] X.env).all (λx=>x.1.isSome)
   && decide ([e].length+([]:List Keyword).length+(if([]:List Keyword).isEmpty then 0 else 1)<30))=true:=by rfl)
  (c:(apos.endLine==cpos.line)=true:=by rfl) (f:starEach [e] X.env=(false,eval e X.env)::starEach [] X.env:=by rfl) (a:(backTo cpos<|starEach [] X.env).any (·.1)=false:=by rfl)
  (hsw:swapsWith (.Call (.Attribute (.Name x xpos) "extend" apos) [e] [] cpos) none pos.line X.env=pure false:=by rfl):
  QS cl pm X (.Expr (.Call (.Attribute (.Name x xpos) "extend" apos) [e] [] cpos) pos) (YT<|tBM X.K "list" (jik X.K) (yf i)<|jW te Yw) (jkM i pe):=
 ⟨Vf (jb8 PySem.F.plainAttrs_list PySem.F.slot_list_extend PySem.F.type_list_extend jjS g.sem (jN h.sem kg f) b d c f a) hsw,jnZ h.den⟩
end QD
namespace QD
open PySem L2
def jb(h:n<=100000):lim n=true:=X5 h
def yh{f:α->β}{l:List α}(h:l.length<=100000):lim (l.map f).length=true:=jb (by rw[L1];exact h)
def wq(a:0<=i)(h:i<l.length):atI l i=l[i.toNat]?:=by
 unfold atI ixN;rw[if_pos ∅,if_pos ∅];rfl
def qf(h:(qe lo n)[i]?=some x):x=.int (lo+i)/\i<n:=by
 unfold qe at h;rw[List.getElem?_map] at h;by_cases hi:i<n
 ·rw[List.getElem?_range hi] at h;cases h;exact⟨rfl,hi⟩
 ·rw[List.getElem?_eq_none ⇑hi] at h;cases h
def jQ(lo)(n):(qe lo n).length=n:=by simp[qe]
@[simp] def eq_ss(a b):kH (.str a) (.str b)=some (.bl<|a==b):=rfl
@[simp] def ne_ss(a b):Kh (.str a) (.str b)=some (.bl<|!(a==b)):=rfl
@[simp] def is_i(i):jfT (.int i) .non=some (.bl false):=rfl
@[simp] def is_n:jfT .non .non=some (.bl true):=rfl
@[simp] def is_s(a):jfT (.str a) .non=some (.bl false):=rfl
@[simp] def in_cs(a)(c)(s):Y1 a (.str [c]) (.str s)=some (.bl<|a != decide (c∈s)):=rfl
@[simp] def neg_i(i):V2 (.int i)=some (.int<|-i):=rfl
def uF(h:a.length+b.length<=100000):ji (.str a) (.str b)=some (.str<|a++b):=by
 show(bif lim (a.length+b.length) then some (D.str<|a++b) else none)=_;rw[jb h];rfl
def jqJ(a:s.length<=100000)(b:0<=i)(h:i<s.length):jd (.str s) (.int i)=some (.str [s.getD i.toNat 0]):=by
 show(bif lim s.length then((atI s i).bind λc=>some<|D.str [c]) else none)=_;rw[jb a,wq b h];have:i.toNat<s.length:=by lia
 simp[this]
def jfs(xs:List α)  (h:0<=k):Yg xs none (some k)=xs.take k.toNat:=by
 obtain⟨n,rfl⟩:∃ n:Nat,k=n:=⟨k.toNat,by lia⟩;rw[jis];simp
def jbM(xs:List α)  (h:0<=k):Yg xs (some k) none=xs.drop k.toNat:=by
 obtain⟨n,rfl⟩:∃ n:Nat,k=n:=⟨k.toNat,by lia⟩;rw[jea];simp
def jqk(a:s.length<=100000):jpi lo hi (.str s)=some (.str<|Yg s lo hi):=by
 show(bif lim s.length then some (D.str<|Yg s lo hi) else none)=_;rw[jb a];rfl
@[simp] def itemsOf_str(s):Qf (.str s)=some (s.map λc=>D.str [c]):=rfl
@[simp] def fTuple_lst(o)(l):Vm [.lst o l]=bif frzs l then some (.tup l) else none:=rfl
def xk(w)(l:W1):jhi (.str w) (l.map D.str)=true:=by
 unfold jhi;rw[M0];refine⟨rfl,List.all_eq_true.mpr λy a=>?_⟩;obtain⟨z,_,rfl⟩:=M7.mp a;rfl
def jaT(w)(l:W1):inL (.str w) (l.map D.str)=decide (w∈l):=by
 unfold inL;rw[Bool.eq_iff_iff,List.any_eq_true,decide_eq_true_eq];constructor
 ·rintro⟨y,a,e⟩;obtain⟨z,b,rfl⟩:=M7.mp a;have:z=w:=by
   exact eq_of_beq e
  exact this▸b
 ·intro h;exact⟨.str w,M7.mpr ⟨w,h,rfl⟩,by show(w==w)=true;simp⟩
mutual
theorem jgX:∀(n:Nat) (d:D),okE n d=true->eqD d d=true
 | n,.non,_=>rfl
 | n,.bl _,_=>by show(_==_)=true;simp
 | n,.int _,_=>by show(_==_)=true;simp
 | n,.str _,_=>by show(_==_)=true;simp
 | n+1,.tup l,h=>by rw[eqD];exact Vz n l (by simpa [okE] using h)
 | n+1,.lst _ l,h=>by rw[eqD];exact Vz n l (by simpa [okE] using h)
 | 0,.tup l,h=>by simp[okE] at h
 | 0,.lst _ l,h=>by simp[okE] at h
 | n,.dK _ _ _,h=>by cases n<;>simp[okE] at h
 | n,.dT _ _ _,h=>by cases n<;>simp[okE] at h
 | n,.ins _ _ _ _,h=>by cases n<;>simp[okE] at h
 | n,.dead,h=>by cases n<;>simp[okE] at h
 | n,.tok _,h=>by cases n<;>simp[okE] at h
 | n,.kt _,h=>by cases n<;>simp[okE] at h
 | n,.exc _ _,h=>by cases n<;>simp[okE] at h
theorem Vz:∀(n:Nat) (l:List D),kG n l=true->xO l l=true
 | n,[],_=>rfl
 | n,d::l,h=>by
  rw[kG,M0] at h;rw[xO,jgX n d h.1,Vz n l h.2];rfl
end
def Vr(h:∀ d∈l,okE n d=true):kG n l=true:=by rw[Qx];exact List.all_eq_true.mpr h
theorem qN:∀{l},(∀ d∈l,frz d=true)->frzs l=true
 | [],_=>rfl
 | d::l,h=>by rw[Yb,h d<|by simp,qN λx a=>h x<|by simp[a]];rfl
theorem uT:∀{l},(∀ d∈l,fz d=d)->fzs l=l
 | [],_=>rfl
 | d::l,h=>by rw[jgW,h d<|by simp,uT λx a=>h x<|by simp[a]]
def yM{f:α->D}(h:∀ x,frz (f x)=true)(l:List α):frzs (l.map f)=true:=qN λd hd=>by obtain⟨p,_,rfl⟩:=M7.mp hd;exact h p
def vx{f:α->D}(h:∀ x,fz (f x)=f x)(l:List α):fzs (l.map f)=l.map f:=uT λd hd=>by obtain⟨p,_,rfl⟩:=M7.mp hd;exact h p
def JC(h:∀ c∈w,c<1114112):okE n (.str w)=true:=by
 exact List.all_eq_true.mpr λc a=>X5<|h c a
@[simp] def okE_int(n)(i):okE n (.int i)=true:=by cases n<;>rfl
theorem V8(a):∀ w ws,V3 a (w::ws)=w++(ws.map (a++·)).flatten
 | w,[]=>by simp[V3]
 | w,v::ws=>by rw[V3,V8 a v ws];simp
theorem KZ{G}{Good:D->Prop}{P:Rh->Prop}:∀{xs}(_:∀ x∈xs,∀ ρ,P ρ->∃ ρ1 y,G x ρ=some ρ1/\p ρ1=some y/\Good y/\P ρ1) {ρ}(_:P ρ),∃ ys,An3 (jU G qT p xs ρ=some ys) (ys.length=xs.length)<|∀ y∈ys,Good y
 | [],_,ρ,_=>⟨[],rfl,rfl,by simp⟩
 | x::xs,step,ρ,b=>by
  obtain⟨ρ1,y,c,e2,d,p1⟩:=step x (by simp) ρ b;obtain⟨ys,e3,e,f⟩:=KZ (xs:=xs) (λz a=>step z<|by simp[a]) p1;refine⟨y::ys,?_,by simp[e],?_⟩
  ·rw[yS,c];simp[e2,e3]
  ·intro z a;rcases M5.mp a with rfl | a
   ·exact d
   ·exact f z a
theorem YZ{f:α->D}{Q:α->Prop}:∀{ys},(∀ y∈ys,∃ a,y=f a/\Q a)->∃ l:List α,ys=l.map f/\∀ a∈l,Q a
 | [],_=>⟨[],rfl,by simp⟩
 | y::ys,h=>by
  obtain⟨a,e,q⟩:=h y (by simp);obtain⟨l,e2,c⟩:=YZ (ys:=ys) λz d=>h z (by simp[d]);exact⟨a::l,by rw[e,e2];rfl,λb g=>(M5.mp g).elim (λz=>z▸q) (c b)⟩
def jdy(a:0<=i)(h:i<l.length):jd (.lst o l) (.int i)=l[i.toNat]?:=wq a h
def jjj(a:0<=i)(h:i<l.length):jd (.tup l) (.int i)=l[i.toNat]?:=wq a h
def Wd(w:List Nat):Prop:=w.length<=30/\∀ c∈w,c<1114112
@[simp] def qc(l:W1):fzs (l.map D.str)=l.map D.str:=by
 rw[kC,U3];rfl
@[simp] def yw(l:W1):frzs (l.map D.str)=true:=by
 rw[Yd,List.all_map,List.all_eq_true];intro x _;rfl
@[simp] def cleans_strs(l:W1):yk (l.map D.str)=true:=by
 rw[yx,List.all_map,List.all_eq_true];intro x _;rfl
def wW{l:W1}{i:Int}(a:0<=i)(h:i<l.length):jd (.lst o<|l.map D.str) (.int i)=some (.str<|l.getD i.toNat []):=by
 rw[jdy a<|by rw[L1];exact h,List.getElem?_map,List.getD_eq_getElem?_getD,E1 ∅];rfl
def Va{l:List α}{i}(h:i<l.length):l.getD i d∈l:=by
 rw[List.getD_eq_getElem?_getD,E1 h];exact List.getElem_mem h
def uG(h:x∈Yg l lo hi):x∈l:=List.mem_of_mem_drop<|List.mem_of_mem_take h
def zx(St:List α->Rh->Prop)(Ok:α->Prop)(b M):∀{xs}{acc}{ρ},
  (∀ x∈xs,∀ acc ρ,acc.length<=M->(∀ a∈acc,Ok a)->St acc ρ->∃ ρ1 ρ2 L,G x ρ=some ρ1/\f ρ1=some (.nx ρ2)/\L.length<=b/\(∀ a∈L,Ok a)/\St (acc++L) ρ2) ->
  acc.length+b*xs.length<=M->(∀ a∈acc,Ok a)->St acc ρ->Ex2 λρ' T=>An4 (j8 G f xs ρ=some (.nx ρ')) (St (acc++T) ρ') (T.length<=b*xs.length) (∀ a∈T,Ok a):=by
 intro xs
 induction xs with
 | nil=>
  intro acc ρ step g c d;exact⟨ρ,[],rfl,by rw[N2];exact d,by simp,by simp⟩
 | cons x xs i=>
  intro acc ρ step g c d;rw[M3,Nat.mul_succ] at g;obtain⟨ρ1,ρ2,L,j,e2,n,h,k⟩:=step x (by simp) acc ρ ∅ c d;obtain⟨ρ',T,e3,l,o,e⟩:=i (λy m=>step y<|by simp[m]) (by rw[N6];lia) (λa q=>(N4.mp q).elim (c a) (h a)) k;refine⟨ρ',L++T,?_,by rw[<- List.append_assoc];exact l,by rw[N6,M3,Nat.mul_succ];lia,λa q=>(N4.mp q).elim (h a) (e a)⟩;rw[yz,j,L4,e2,L4,we,e3]
def jaZ{G}{l:List α}{en out}{b}(P:Rh->Prop)(step:∀ x∈l,∀ ρ,P ρ->∃ ρ1,G (en x) ρ=some ρ1/\q ρ1=some (b x)/\p ρ1=some (out x)/\P ρ1){ρ}(a:P ρ):jU G q p (l.map en) ρ=some ((l.filter b).map out):=by
 induction l generalizing ρ with
 | nil=>rfl
 | cons x l c=>
  obtain⟨ρ1,d,e2,e3,p1⟩:=step x L7 ρ a;have:=c (λy e=>step y<|L6 _ e) p1;rw[L5,yS,d,L4,e2,L4];cases hb:b x with
  | true=>simp[e3,this,hb]
  | false=>simp[this,hb]
mutual
theorem jmU:∀(n:Nat) (d:D),okE n d=true->eqD (fz d) d=true
 | n,.non,_=>rfl
 | n,.bl _,_=>by show(_==_)=true;simp
 | n,.int _,_=>by show(_==_)=true;simp
 | n,.str _,_=>by show(_==_)=true;simp
 | n+1,.tup l,h=>by rw[fz,eqD];exact wa n l (by simpa [okE] using h)
 | n+1,.lst _ l,h=>by rw[fz,eqD];exact wa n l (by simpa [okE] using h)
 | 0,.tup l,h=>by simp[okE] at h
 | 0,.lst _ l,h=>by simp[okE] at h
 | n,.dK _ _ _,h=>by cases n<;>simp[okE] at h
 | n,.dT _ _ _,h=>by cases n<;>simp[okE] at h
 | n,.ins _ _ _ _,h=>by cases n<;>simp[okE] at h
 | n,.dead,h=>by cases n<;>simp[okE] at h
 | n,.tok _,h=>by cases n<;>simp[okE] at h
 | n,.kt _,h=>by cases n<;>simp[okE] at h
 | n,.exc _ _,h=>by cases n<;>simp[okE] at h
theorem wa:∀(n:Nat) (l:List D),kG n l=true->xO (fzs l) l=true
 | n,[],_=>rfl
 | n,d::l,h=>by
  rw[kG,M0] at h;rw[fzs,xO,jmU n d h.1,wa n l h.2];rfl
end
mutual
theorem jnk:∀(n:Nat) (d e:D),okE n d=true->fz d=fz e->eqD d e=true
 | n,.non,e,_,h=>by cases e<;>simp[fz] at h;rfl
 | n,.bl _,e,_,h=>by cases e<;>simp[fz] at h;subst h;show(_==_)=true;simp
 | n,.int _,e,_,h=>by cases e<;>simp[fz] at h;subst h;show(_==_)=true;simp
 | n,.str _,e,_,h=>by cases e<;>simp[fz] at h;subst h;show(_==_)=true;simp
 | n+1,.tup l,e,h,q=>by
  cases e<;>simp[fz] at q;rw[eqD];exact wm n l _ (by simpa [okE] using h) q
 | n+1,.lst _ l,e,h,q=>by
  cases e<;>simp[fz] at q;rw[eqD];exact wm n l _ (by simpa [okE] using h) q
 | 0,.tup l,e,h,_=>by simp[okE] at h
 | 0,.lst _ l,e,h,_=>by simp[okE] at h
 | n,.dK _ _ _,e,h,_=>by cases n<;>simp[okE] at h
 | n,.dT _ _ _,e,h,_=>by cases n<;>simp[okE] at h
 | n,.ins _ _ _ _,e,h,_=>by cases n<;>simp[okE] at h
 | n,.dead,e,h,_=>by cases n<;>simp[okE] at h
 | n,.tok _,e,h,_=>by cases n<;>simp[okE] at h
 | n,.kt _,e,h,_=>by cases n<;>simp[okE] at h
 | n,.exc _ _,e,h,_=>by cases n<;>simp[okE] at h
theorem wm:∀(n:Nat) (l m:List D),kG n l=true->fzs l=fzs m->xO l m=true
 | n,[],[],_,_=>rfl
 | n,[],_::_,_,q=>by simp[fzs] at q
 | n,_::_,[],_,q=>by simp[fzs] at q
 | n,d::l,e::m,h,q=>by
  rw[kG,M0] at h;rw[fzs,fzs] at q;injection q with q1 q2;rw[xO,jnk n d e h.1 q1,wm n l m h.2 q2];rfl
end
theorem VE:∀ l:List (List Nat×D),VQ (l.map λp=>.tup [.str p.1,p.2])=some (l.map λp=>(KA.str p.1,p.2))
 | []=>rfl
 | p::l=>by
  rw[L5,VQ,VE l];rfl
theorem Vb:∀(ps:List<|KA×D) ks vs,(ks++ps.map (·.1)).Nodup->ps.foldl (λacc kv=>kT acc.1 acc.2 kv.1 kv.2) (ks,vs)=(ks++ps.map (·.1),vs++ps.map (·.2))
 | [],ks,vs,_=>by simp
 | p::ps,ks,vs,h=>by
  have a:p.1∉ks:=by
   intro z;exact(X3.mp h).2.2 p.1 z p.1 (by simp) rfl
  have b:kT ks vs p.1 p.2=(ks++[p.1],vs++[p.2]):=by unfold kT;rw[if_neg a]
  show ps.foldl _ (kT ks vs p.1 p.2)=_;rw[b,Vb ps (ks++[p.1]) (vs++[p.2]) ⇑h];simp
def Kv{l:List (List Nat×D)}(f:(l.map (·.1)).Nodup)(g:∀ p∈l,frz p.2=true)(i:l.length<=100000):yY [.lst o<|l.map λp=>.tup [.str p.1,p.2]]=some (.dK true (l.map λp=>KA.str p.1) (l.map (·.2))):=by
 have j:((l.map λp=>(KA.str p.1,p.2)).map (·.1)).Nodup:=by
  rw[U3];have:((λx:KA×D=>x.1) ∘ λp:List Nat×D=>(KA.str p.1,p.2))=KA.str ∘ (·.1):=rfl;rw[this,<- U3];exact List.Pairwise.map _ (λa b h z=>h<|by cases z;rfl) f
 show((VQ<|l.map λp=>.tup [.str p.1,p.2]).bind λc=>bif frzs (c.map (·.2))&&lim c.length then some (D.dK true (wU c).1 (wU c).2) else none)=_;rw[VE,L4];have e:((l.map λp=>(KA.str p.1,p.2)).map (·.2))=l.map (·.2):=by rw[U3];rfl
 rw[e,qN (by intro d hd;obtain⟨p,k,rfl⟩:=M7.mp hd;exact g p k),L1,jb i];unfold wU;rw[Vb (l.map λp=>(KA.str p.1,p.2)) [] [] ⇑j,e];simp[U3]
noncomputable def lkp{α:Type}(w:List Nat):List (List Nat×α)->Option α
 | []=>none
 | p::l=>if p.1=w then some p.2 else lkp w l
theorem zM(w):∀ l:List (List Nat×D),YC (l.map λp=>KA.str p.1) (l.map (·.2)) (.str w)=lkp w l
 | []=>rfl
 | p::l=>by
  rw[L5,L5,YC,lkp,zM w l];by_cases h:p.1=w
  ·rw[if_pos h,if_pos<|by rw[h]]
  ·rw[if_neg h,if_neg<|λz=>h<|by cases z;rfl]
theorem jeK(f:α->β)(w):∀ l:List (List Nat×α),lkp w (l.map λp=>(p.1,f p.2))=(lkp w l).map f
 | []=>rfl
 | p::l=>by
  rw[L5,lkp,lkp,jeK f w l];by_cases h:p.1=w
  ·rw[if_pos h,if_pos h];rfl
  ·rw[if_neg h,if_neg h]
theorem uH:∀{l:List (List Nat×α)},w∈l.map (·.1)->∃ a,lkp w l=some a/\(w,a)∈l
 | [],h=>by cases h
 | p::l,h=>by
  rw[lkp];by_cases e:p.1=w
  ·rw[if_pos e];exact⟨p.2,rfl,by rw[<- e];simp⟩
  ·rw[if_neg e];obtain⟨a,b,c⟩:=uH<|(M5.mp h).resolve_left λz=>e z.symm;exact⟨a,b,by simp[c]⟩
noncomputable def dct(o:Bool)(N:W1)(f:List Nat->Int):D:=.dK o (N.map KA.str)<|N.map λn=>D.int<|f n
theorem Y4(f:List Nat->Int):∀{N:W1},c∈N->YC (N.map KA.str) (N.map λn=>D.int<|f n) (.str c)=some (.int<|f c)
 | [],h=>by cases h
 | n::N,h=>by
  rw[L5,L5,YC];by_cases e:n=c
  ·rw[if_pos<|by rw[e],e]
  ·rw[if_neg λz=>e<|by cases z;rfl];exact Y4 f<|(M5.mp h).resolve_left λz=>e z.symm
def yr(h:c∈N):yI (dct o N f) (.str c)=some (.int<|f c):=Y4 f h
theorem uJ(f:List Nat->Int)(c)(v):∀ N:List (List Nat),jar (N.map KA.str) (N.map λn=>D.int<|f n) (.str c) (.int v)=N.map λn=>D.int (if n=c then v else f n)
 | []=>rfl
 | n::N=>by
  rw[L5,L5,jar,uJ f c v N,L5];by_cases e:n=c
  ·rw[if_pos<|by rw[e],if_pos e]
  ·rw[if_neg λz=>e (by cases z;rfl),if_neg e]
def uR{N:W1}{f:List Nat->Int}{c}{v}(h:c∈N):kT (N.map KA.str) (N.map λn=>D.int<|f n) (.str c) (.int v)=(N.map KA.str,N.map λn=>D.int<|if n=c then v else f n):=by
 unfold kT;rw[if_pos<|M7.mpr ⟨c,h,rfl⟩,uJ]
theorem xw:∀{l:List (List Nat×α)},(l.map (·.1)).Nodup->∀ p∈l,lkp p.1 l=some p.2
 | [],_,_,h=>by cases h
 | q::l,a,p,h=>by
  rw[L5,List.nodup_cons] at a;rw[lkp];rcases M5.mp h with rfl | h
  ·rw[if_pos rfl]
  ·rw[if_neg λz=>a.1<|by rw[z];exact M7.mpr ⟨p,h,rfl⟩];exact xw a.2 p h
def fnOf(S:List<|List Nat×Int)(n:List Nat):Int:=(lkp n S).getD 0
def Kp{S}(a:(S.map (·.1)).Nodup){p}(h:p∈S):fnOf S p.1=p.2:=by
 unfold fnOf;rw[xw a p h];rfl
def yo{S}(b:(S.map (·.1)).Nodup)(c:S.length<=100000):yY [.lst o<|S.map λp=>.tup [.str p.1,.int p.2]]=some (dct true (S.map (·.1))<|fnOf S):=by
 have e:=Kv (o:=o) (l:=S.map λq=>(q.1,D.int q.2)) (by rw[U3];exact b) (by intro q d;obtain⟨a,_,rfl⟩:=M7.mp d;rfl) (by rw[L1];exact c);rw[U3,U3,U3] at e;refine e.trans ?_;unfold dct;rw[U3,U3];congr 2;refine List.map_congr_left λp f=>?_;show D.int p.2=D.int (fnOf S p.1);rw[Kp b f]
def jaL(N:W1)(f:List Nat->Int):frzs (N.map λn=>D.int<|f n)=true:=qN λd hd=>by
 obtain⟨n,_,rfl⟩:=M7.mp hd;rfl
def zN(N:W1)(f:List Nat->Int):(((N.map KA.str).zip (N.map λn=>D.int<|f n)).map λp=>D.tup [kaD p.1,p.2])=N.map λn=>D.tup [.str n,.int<|f n]:=by
 induction N with
 | nil=>rfl
 | cons n N a=>
  rw[L5,L5,U9,L5,L5,a];rfl
@[simp] def dkOf_dct(N)(f):jhC (dct true N f)=some (N.map KA.str,N.map λn=>D.int<|f n):=rfl
variable {ρ:Rh}{fa fb fe:FE}{ft fu:FT'}{fr:FA}{p:PAf}{pi:PAf}{g:D->D->Option D}{gl:List D->Option D}{G:D->Rh->Option Rh}{f:FS}{m:List D->Option (D×D)}{mp:List D->Option D}{i j:Nat}
@[simp] def dCBx_e:dCB gl fr ρ=(fr ρ).bind λr=>(gl r.1).bind λz=>some (z,r.2):=rfl
@[simp] def dTestx_e:jbk fa ρ=(fa ρ).bind λr=>(jbR r.1).bind λb=>some (b,r.2):=by
 unfold jbk;cases fa ρ with
 | none=>rfl
 | some r=>
  obtain⟨x,a⟩:=r;cases x<;>rfl
@[simp] def dOrx_e:dOr ft fu ρ=(ft ρ).bind λr=>bif r.1 then some (true,r.2) else fu r.2:=by
 unfold dOr;cases ft ρ with
 | none=>rfl
 | some r=>obtain⟨b,a⟩:=r;rfl
@[simp] def dAndx_e:job ft fu ρ=(ft ρ).bind λr=>bif r.1 then fu r.2 else some (false,r.2):=by
 unfold job;cases ft ρ with
 | none=>rfl
 | some r=>obtain⟨b,a⟩:=r;rfl
@[simp] def oF_e:oF g x y=(g x y).bind λd=>bif frz d then some d else none:=rfl
@[simp] def uW:vW mp fr ρ=(fr ρ).bind λr=>bif frzs r.1 then(mp r.1).bind λd=>some (d,r.2) else none:=rfl
def jmg:pV i ρ=(ρ[i]?).join:=by
 unfold pV;cases h:ρ[i]? with
 | none=>rfl
 | some o=>cases o<;>rfl
@[simp] def dRng1_e:jck fr ρ=(fr ρ).bind λr=>(Km r.1).bind λxs=>some (xs,r.2):=rfl
@[simp] def sForE_e:jdM fr G f ρ=(fr ρ).bind λr=>j8 G f r.1 r.2:=rfl
noncomputable def jpx:Option D->Bool
 | some (.lst true _)=>true
 | _=>false
@[simp] def ownD_e:jpx (some<|.lst true l)=true:=rfl
def joo(i:Nat)(r:D×Rh):Option D->Option Out
 | some (.lst true l)=>bif lim l.length then some (.nx<|r.2.set i<|some<|.lst true<|l++[r.1]) else none
 | _=>none
@[simp] def appD_e:joo i r (some<|.lst true l)=(bif lim l.length then some (.nx<|r.2.set i<|some<|.lst true<|l++[r.1]) else none):=rfl
@[simp] def sAppE_e:V6 i fe ρ=(bif jpx (pV i ρ) then(fe ρ).bind (λr=>joo i r<|pV i r.2) else none):=by
 have a:jgO ρ[i]?=jpx (pV i ρ):=by
  rw[jmg];cases h:ρ[i]? with
  | none=>rfl
  | some o=>
   cases o with
   | none=>rfl
   | some d=>
    cases d with
    | lst b l=>cases b<;>rfl
    | _=>rfl
 have c:jgp i=λr=>joo i r (pV i r.2):=by
  funext r
  unfold jgp;rw[jmg];cases h:r.2[i]? with
  | none=>rfl
  | some o=>
   cases o with
   | none=>rfl
   | some d=>
    cases d with
    | lst b l=>cases b<;>rfl
    | _=>rfl
 unfold V6;rw[a,c]
def dFz(fe:FE):FE:=λρ=>(fe ρ).bind λr=>some (fz r.1,r.2)
@[simp] def dFz_e:dFz fe ρ=(fe ρ).bind λr=>some (fz r.1,r.2):=rfl
def DE.fz(h:DE R te fe):DE R te (dFz fe):=by
 intro σ ρ m Z H O d w s e Q k;refine ob e λr j e=>?_;obtain⟨c,n⟩:=r;cases e;refine h w s j λ{v f g i l} b r1 s1=>?_;have w1:WF f g ([]++i++l):=by simpa using b.wf
 have r2:Rep R (λa=>f a\/a∈i) g (QD.fz c) v []:=r1.freeze (λa z=>.inl z) λa z=>.inr z;exact k (b.trans<|by simpa using((Go.freeze b.wf.left).frame w1)) r2<|s1.frame (λa z=>.inl z) (λ_ _=>rfl) λ_ _=>rfl
def QE.fz(h:QE cl X e te fe):QE cl X e te (dFz fe):=⟨h.sem,DE.fz h.den⟩
end QD
namespace L2
open PySem PySem.Spec PyProof.Rows
def jeq(h:Builtin.Int.intBits a+Builtin.Int.intBits b<=2 ^ 21):IntMulOk a b:=by
 have e:Builtin.Int.intTooBig (Builtin.Int.intBits a+Builtin.Int.intBits b)=false:=by
  unfold Builtin.Int.intTooBig;have:2 ^ 21<=bitsLine:=by decide
  simp
  lia
 unfold IntMulOk;rw[e,Bool.and_false];exact M4
def jic:OpR X (binaryOp .Mult) (rI (λi j=>Builtin.Int.intBits i+Builtin.Int.intBits j<=2 ^ 21) λi j=>.int<|i*j):=opI λ_ _ _ _ _ _ _ a q=>mul_int q<|jeq a
end L2
namespace QD
open PySem L2 PySem.Spec PyProof.Rows
def Vj:D->D->Option D:=two λi j=>bif decide (Builtin.Int.intBits i+Builtin.Int.intBits j<=2 ^ 21) then some (.int<|i*j) else none
def jiL:BO R (rI (λi j=>Builtin.Int.intBits i+Builtin.Int.intBits j<=2 ^ 21) λi j=>.int<|i*j) Vj:=by
 intro Z H x y d v u f g z a b e Q k;replace e:=two_of e;obtain⟨i,j,rfl,rfl,e⟩:=e;refine oc e λc e=>?_;cases e;obtain⟨rfl,_⟩:=a.int_of;obtain⟨rfl,_⟩:=b.int_of;exact⟨i,j,rfl,rfl,X7 c,k (Go.id z) .int_mk⟩
def jlU(c:QB cl X a ta pa)(d:QB cl X b tb pb):QP cl X (.BinOp a .Mult b pos) (tOp (rI (λi j=>Builtin.Int.intBits i+Builtin.Int.intBits j<=2 ^ 21) λi j=>.int<|i*j) ta tb) (p2 Vj pa pb):=⟨Q5 jic c.sem d.sem,QC jiL c.den d.den⟩
def ji1(h:i.natAbs<2 ^ (2 ^ 20+1))(k:j.natAbs<2 ^ 1000):Vj (.int i) (.int j)=some (.int<|i*j):=by
 have a:=PySem.intBits_le_iff.mpr h;have b:=PySem.intBits_le_iff.mpr k;show(bif decide (Builtin.Int.intBits i+Builtin.Int.intBits j<=2 ^ 21) then some (D.int<|i*j) else none)=_;rw[X5 ∅];rfl
def Ym(h:i.natAbs<2 ^ 1000)(k:j.natAbs<2 ^ 1000):Vj (.int i) (.int j)=some (.int<|i*j):=by
 have a:=PySem.intBits_le_iff.mpr h;have b:=PySem.intBits_le_iff.mpr k;show(bif decide (Builtin.Int.intBits i+Builtin.Int.intBits j<=2 ^ 21) then some (D.int<|i*j) else none)=_;rw[X5 ∅];rfl
def jb7(n)(a:100<=n)(h:Builtin.Int.intBits z<=n)(b:k.natAbs<2 ^ 100):(z+k).natAbs<2 ^ (n+1):=by
 have c:=PySem.intBits_le_iff.mp h;have d:2 ^ 100<=2 ^ n:=Nat.pow_le_pow_right (by decide) a;have e:2 ^ (n+1)=2 ^ n+2 ^ n:=by rw[Nat.pow_succ,Nat.mul_two]
 lia
def jf0(h:Builtin.Int.intBits z<=2 ^ 20)(a:k.natAbs<2 ^ 100):(z+k).natAbs<2 ^ (2 ^ 20+1):=jb7 (2 ^ 20) (by decide) h a
noncomputable def YW:Int->List D->List D
 | _,[]=>[]
 | n,x::l=>.tup [.int n,x]::YW (n+1) l
theorem xu:∀ n l,(YW n l).length=l.length
 | _,[]=>rfl
 | n,x::l=>by rw[YW,M3,M3,xu]
theorem zO:∀ n l (i:Nat) y,(YW n l)[i]?=some y->∃ x,l[i]?=some x/\y=.tup [.int<|n+i,x]
 | _,[],_,_,e=>by simp[YW] at e
 | n,x::l,0,y,e=>by simp[YW] at e;exact⟨x,rfl,by rw[<- e];simp⟩
 | n,x::l,i+1,y,e=>by
  obtain⟨z,a,e2⟩:=zO (n+1) l i y (by simpa [YW] using e);exact⟨z,by simpa using a,by rw[e2];congr 3;lia⟩
def jly(p:PAf)(q:PF)(ρ:Rh):Option (List D):=(p ρ).bind λx=>(je2 x).bind λx=>(jko x).bind λl=>(q ρ).bind λy=>(vv y).bind λn=>bif Kt n then some (YW n<|fzs l) else none
def jnq(h:PPs R ta p)(d:PB R tb q):PIt R (jpP R.K ta tb) (jly p q):=by
 intro σ ρ Z H O C z s e Q k;refine ob e λx f e=>ob e λy e3 e=>ob e λl g e=>ob e λD e2 e=>ob e λn e5 e=>oc e λi e=>?_;cases e;cases jK e5;obtain⟨o,rfl⟩:=VJ g;cases kE e3;refine h z s f λ{vs j E m} r r1=>?_;obtain⟨v,rfl,r2⟩:=r1.one_of;obtain⟨a,ws,F,rfl,t,w,rfl,_⟩:=(r2.freeze (Z':=λa=>j a\/a∈m) (λa z=>.inl z) λa z=>.inr z);have b:=r.fz;refine d b.wf.zd (b.slots z s) e2 λ{u G I J} g2 A=>?_;obtain⟨rfl,_⟩:=A.int_of;have c:=w.frame g2.zz<|λa z=>g2.same a<|b.wf.zd a z;have L:=qE i;refine⟨a,ws,n,rfl,rfl,by unfold Builtin.SmallTypes.fitsIndex;simp;lia,FL.sq c,k (b.pair g2) ?_⟩;exact jcB c (t.frame g2.zz (λa z=>g2.same a<|b.wf.zd a z)<|λa B=>(nomatch B)) (xu _ _)<|zO _ _
noncomputable def Q8:List (List KA)->List D->List KA->Option D
 | k::ks,d::l,a=>if k=a then some d else Q8 ks l a
 | _,_,_=>none
def Qi{a b:List KA}(h:a.map kaV=b.map kaV):a=b:=by
 induction a generalizing b with
 | nil=>cases b with
  | nil=>rfl
  | cons y b=>simp at h
 | cons x a c=>cases b with
  | nil=>simp at h
  | cons y b=>
   simp only[L5,List.cons.injEq] at h;rw[QF h.1,c h.2]
theorem Ji:∀{ks}{l}{vs}{O}{a},Reps R Z H l vs O->ks.length=l.length ->
  (∀ d,Q8 ks l a=some d->∃ v P,V7 ((ks.map<|List.map kaV).zip vs) (a.map kaV)=some v/\Rep R Z H d v P)/\(Q8 ks l a=none->V7 ((ks.map<|List.map kaV).zip vs) (a.map kaV)=none)
 | [],l,vs,O,a,r,c=>⟨λd e=>(by cases l<;>cases e),λ_=>rfl⟩
 | k::ks,[],vs,O,a,r,c=>by simp at c
 | k::ks,x::l,vs,O,a,r,c=>by
  obtain⟨v,b,f,i,rfl,rfl,r1,r2⟩:=r;by_cases e:k=a
  ·subst e;refine⟨λd h=>?_,λh=>?_⟩
   ·simp only[Q8,if_true] at h;cases h;exact⟨v,f,JW rfl,r1⟩
   ·simp[Q8] at h
  ·have g:=λz=>e<|Qi z;have q:V7 (((k::ks).map (List.map kaV)).zip (v::b)) (a.map kaV)=V7 ((ks.map<|List.map kaV).zip b) (a.map kaV):=JP g;rw[q];simp only[Q8,if_neg e];exact(Ji (a:=a) r2 ⇑c)
def jf1:PP R jeD (pC<|.dT true [] []):=by
 intro σ ρ Z H O d z s e Q k;cases e;intro p a;exact k (Go.newO (wf0 z) a) ⟨p,[],[],rfl,.empty,rfl,jl,rfl⟩
abbrev jdn(ta tb:TE):TE:=jbh<|jW ta<|jW tb Yw
def jfP(pa pb:PF)(ρ:Rh):Option (List KA):=(pa ρ).bind λx=>(pb ρ).bind λy=>(vZ x).bind λa=>(vZ y).bind λb=>some [a,b]
def JS (d : PB R ta pa) (f : PB R tb pb)  (z : Zd Z H) (s : Slots R Z H ρ σ O) (e : jfP pa pb ρ = some k)
     (go:∀{p}{Z'}{H'},Go Z H [] Z' H' []->Z' p->H' p=some (.tup<|(k.map kaV).map kV)->Q (.ref p) H'):jdn ta tb σ H Q:=by
 refine ob e λx g e=>ob e λy e2 e=>ob e λa e3 e=>ob e λb h e=>?_;cases e;refine d z s g λ{v j l m} c r1=>(f c.wf.zd (c.slots z s) e2 λ{u n o q} g2 r2=>?_);obtain⟨rfl,_⟩:=yW e3 r1;obtain⟨rfl,_⟩:=yW h r2;refine⟨by show 2<=sizeLine;decide,λp i=>?_⟩;exact go ((c.pair g2).trans (Go.newF g2.wf i)) (.inr rfl) jl
def Rep.dT_of(r:Rep R Z H (.dT o ks l) v O):Ex3 λa vs O'=>An4 (v=.ref a) (H a=some (.dT<|(ks.map<|List.map kaV).zip vs)) (Reps R Z H l vs O') (ks.length=l.length):=by
 obtain⟨a,vs,O',rfl,b,c,d,_⟩:=r;exact⟨a,vs,O',rfl,d,b,c⟩
def Vc(x:D)(k:List KA)(z:D):Option D:=match x with
 | .dT _ ks l=>some<|(Q8 ks l k).getD z
 | _=>none
@[simp] def opTGet_e(o)(ks)(l)(k)(z):Vc (.dT o ks l) k z=some ((Q8 ks l k).getD z):=rfl
@[simp] def wA(pd:PF)(pa:PF)(pb:PF)(pc:PF)(ρ:Rh):Option D:=(pd ρ).bind λx=>(jfP pa pb ρ).bind λk=>(pc ρ).bind λz=>Vc x k z
@[simp] def pKey_e:jfP pa pb ρ=(pa ρ).bind λx=>(pb ρ).bind λy=>(vZ x).bind λa=>(vZ y).bind λb=>some [a,b]:=rfl
def jg0(hd:PB R td pd)(n:PB R ta pa)(q:PB R tb pb)(r:PB R tx pc):PB R (VA td (jdn ta tb) tx) (wA pd pa pb pc):=by
 intro σ ρ Z H O d z s e Q k;refine ob e λx u e=>ob e λy e2 e=>ob e λc A e=>?_;cases x with
 | dT o B l=>
  cases e;refine hd z s u λ{v K L M} j r1=>?_;obtain⟨p,vs,N,rfl,C,S,T⟩:=r1.dT_of;refine⟨p,rfl,.inr ⟨_,.inl C⟩,(JS n q j.wf.zd (j.slots z s) e2 λ{b U V} g2 W m=>?_)⟩;have a:=j.pair g2;refine r g2.wf.zd (a.slots z s) A λ{t Z3 D X} g3 E=>?_;obtain⟨Y,F,G,I,f,g,h,_⟩:=((g2.pair g3).rep j.wf.zd r1);cases I;have i:D b=some (.tup<|(y.map kaV).map kV):=by rw[g3.same b<|by rw[m];exact λz=>(nomatch z)];exact m
  cases ev:Q8 B l y with
  | none=>exact⟨none,(Ji f g).2 ev▸DGet.t h i,k (a.pair g3)<|by rw[ev];exact E⟩
  | some d=>
   obtain⟨w,P,J,rw⟩:=(Ji f g).1 d ev;exact⟨some w,J▸DGet.t h i,k (a.pair g3)<|by rw[ev];exact rw⟩
 | _=>cases e
noncomputable def jff:List (List KA)->List D->List KA->D->List D
 | k::ks,x::l,a,d=>(if k=a then d else x)::jff ks l a d
 | _,_,_,_=>[]
theorem jaA:∀{ks}{l} a d,ks.length=l.length->(jff ks l a d).length=l.length
 | [],[],_,_,_=>rfl
 | [],_::_,_,_,h=>by simp at h
 | _::_,[],_,_,h=>by simp at h
 | k::ks,x::l,a,d,h=>by rw[jff,M3,M3,jaA a d ⇑h]
theorem jap(rd:Rep R Z H d v [])(a):∀{ks}{l}{vs}{O},Reps R Z H l vs O->ks.length=l.length ->
  Ex2 λvs2 O2=>An3 (Reps R Z H (jff ks l a d) vs2 O2) ((ks.map<|List.map kaV).zip vs2=((ks.map<|List.map kaV).zip vs).map (λkv=>if kv.1=a.map kaV then(kv.1,v) else kv))<|O2.Sublist O
 | [],[],vs,O,r,b=>by
  obtain⟨rfl,rfl⟩:=r;exact⟨[],[],.empty,rfl,.slnil⟩
 | [],_::_,_,_,_,h=>by simp at h
 | _::_,[],_,_,_,h=>by simp at h
 | k::ks,x::l,vs,O,r,b=>by
  obtain⟨w,i,j,O2,rfl,rfl,r1,r2⟩:=r;obtain⟨c,f,g,e3,sl⟩:=jap rd a r2 ⇑b;by_cases e:k=a
  ·subst e;refine⟨v::c,[]++f,?_,?_,(sl.trans<|List.sublist_append_right _ _)⟩
   ·rw[jff,if_pos rfl];exact Reps.cons rd g
   ·simp only[L5,U9,if_true,e3]
  ·have m:=λz=>e<|Qi z;refine⟨w::c,j++f,?_,?_,(List.Sublist.append (List.Sublist.refl _) sl)⟩
   ·rw[jff,if_neg e];exact Reps.cons r1 g
   ·simp only[L5,U9,if_neg m,e3]
theorem uO(a):∀{ks:List (List KA)}{vs:List V},ks.length=vs.length->(((ks.map<|List.map kaV).zip vs).any λkv=>decide<|kv.1=a.map kaV)=decide (a∈ks)
 | [],vs,_=>by simp
 | k::ks,[],h=>by simp at h
 | k::ks,v::vs,h=>by
  rw[L5,U9,List.any_cons,uO a ⇑h];by_cases e:k=a
  ·subst e;simp
  ·have b:¬ (k.map kaV=a.map kaV):=λz=>e<|Qi z;have e2:¬ (a=k):=λz=>e z.symm;simp[b,e2]
def Yh(ks:List<|List KA)(l:List D)(a:List KA)(d:D):List (List KA)×List D:=if a∈ks then(ks,jff ks l a d) else(ks++[a],l++[d])
def Y7(rd:Rep R Z H d v [])(a)  (r:Reps R Z H l vs O) (b:ks.length=l.length):
  Ex2 λvs2 O2=>An4 (Reps R Z H (Yh ks l a d).2 vs2 O2) ((((Yh ks l a d).1).map (List.map kaV)).zip vs2=JL ((ks.map<|List.map kaV).zip vs) (a.map kaV) v) (O2.Sublist O) ((Yh ks l a d).1.length=(Yh ks l a d).2.length):=by
 have c:ks.length=vs.length:=by rw[r.length];exact b
 unfold Yh JL;rw[uO a c];by_cases e:a∈ks
 ·rw[if_pos e,X5 e,if_pos rfl];obtain⟨f,P,r2,e2,sl⟩:=jap rd a r b;exact⟨f,P,r2,e2,sl,by rw[jaA a d b];exact b⟩
 ·rw[if_neg e,X6 e,if_neg<|λz=>(nomatch z)];refine⟨vs++[v],O++[],r.append<|Reps.one rd,?_,by simp,by simp[b]⟩;rw[N7,List.zip_append ⇑c];rfl
@[simp] def jkm(i:Nat)(pa:PF)(pb:PF)(pv:PF)(ρ:Rh):Option Out:=(pv ρ).bind λd=>(pV i ρ).bind λx=>(je5 x).bind λp=>(jfP pa pb ρ).bind λa=>bif frz d&&lim p.1.length then some (.nx<|ρ.set i<|some<|.dT true (Yh p.1 p.2 a d).1 (Yh p.1 p.2 a d).2) else none
def jkP{R}{pm}{i}{ta tb tv}{pa pb pv}(n:PB R ta pa)(p:PB R tb pb)(q:PB R tv pv):DS R pm (KY (yf i) (jdn ta tb) tv) (jkm i pa pb pv):=by
 intro σ ρ Z H O o w s e I k;refine ob e λd r e=>ob e λx v e=>ob e λ⟨J,l⟩ y e=>ob e λc e2 e=>oc e λg e=>?_;cases e;cases Qg y;rw[M0] at g;refine q w.zd s r λ{u K L M} f r1=>?_;cases r1.nil g.1;have m:=f.widen w;have s1:=f.slots w.zd s;refine qH Jo m.wf s1 v rfl jf4 λa _ vs N z h A B put=>B<|JS n p f.wf.zd s1 e2 λ{b P Q} g2 S C=>?_;obtain⟨D,T,E,F,sl,j⟩:=Y7 (g2.rep f.wf.zd r1) c (g2.reps f.wf.zd z) h;obtain⟨U,g3,G⟩:=put jf4 j g2 E ⇑sl.count_le;refine⟨a,_,rfl,DPut.t (g2.at0 A) C<|Vo g.2,?_⟩;rw[<- F];exact k (m.trans g3) G<|Keep.refl _ _
def joZ(d:X.mg "enumerate" = none)(h:QPs cl X [a] tr pr)(c:QB cl X b tb pb)(e:Gl X "enumerate":=by rfl)(f:starEach [a] X.env=[(false,eval a X.env)]:=by rfl):
  QI cl X (.Tuple elts n tpos) (.Call (.Name "enumerate" p) [a] [⟨some "start",b,kpos⟩] pos) (jpP X.K tr tb) (jly pr pb):=⟨jop e d h.sem c.sem f,jnq h.den c.den⟩
def jjl:QP cl X (.Dict [] [] pos) jeD (pC<|.dT true [] []):=⟨jgF,jf1⟩
def jjN{d}(i:Room k X.A)(e:QB cl X o to po)(f:QB cl X a ta pa)(g:QB cl X b tb pb)(h:QB cl X c tc pc)(m:M2 X o "get" apos (.Tuple [a,b] d tpos) c cpos:=by exact⟨rfl,rfl,rfl,rfl⟩)
  (h1:starEach [a,b] X.env=(false,eval a X.env)::starEach [b] X.env:=by rfl) (h2:starEach [b] X.env=(false,eval b X.env)::starEach [] X.env:=by rfl):
  QB cl X (.Call (.Attribute o "get" apos) [.Tuple [a,b] d tpos,c] [] cpos) (VA to (jdn ta tb) tc) (wA po pa pb pc):=
 ⟨Qn (YB i) e.sem (JM<|jN f.sem (jN g.sem kg h2) h1) h.sem m,jg0 e.den f.den g.den h.den⟩
def jkz{c}(h:Room k X.A)(j:QB cl X (.Name x xpos) (yf i)<|pV i)(d:QB cl X a ta pa)(f:QB cl X b tb pb)(g:QB cl X e te pe)
  (l:swapsWith e (some<|.Subscript (.Name x xpos) (.Tuple [a,b] c tpos) pos') pos.line X.env=pure false:=by rfl)
  (h1:starEach [a,b] X.env=(false,eval a X.env)::starEach [b] X.env:=by rfl) (h2:starEach [b] X.env=(false,eval b X.env)::starEach [] X.env:=by rfl):
  QS cl pm X (.Assign [.Subscript (.Name x xpos) (.Tuple [a,b] c tpos) pos'] e pos) (KY (yf i) (jdn ta tb) te) (jkm i pa pb pe):=
 ⟨QA (YB h) j.sem (JM<|jN d.sem (jN f.sem kg h2) h1) g.sem l,jkP d.den f.den g.den⟩
end QD
namespace L2
open PySem PySem.Spec PyProof.Rows
end L2
namespace QD
open PySem L2 PySem.Spec PyProof.Rows
def pFz(p:PF):PF:=λρ=>(p ρ).bind λd=>some<|fz d
@[simp] def pFz_e:pFz p ρ=(p ρ).bind λd=>some (fz d):=rfl
def joL(h:PP R te p):PB R te (pFz p):=by
 intro σ ρ Z H O d z s e Q k;refine ob e λx b e=>?_;cases e;exact h z s b λ{v c f P} g r=>(k g.fz<|r.freeze (λa z=>.inl z) λa z=>.inr z)
def QP.fzb(h:QP cl X e te pe):QB cl X e te (pFz pe):=⟨h.sem,joL h.den⟩
noncomputable def JK:List Str->List D->Str->Option D
 | n::ns,d::l,f=>if f=n then some d else JK ns l f
 | _,_,_=>none
theorem xY:∀{ns}{l}{vs}{O},Reps R Z H l vs O->ns.length=l.length->JK ns l f=some d->∃ v P,(ns.zip vs).lookup f=some v/\Rep R Z H d v P
 | [],l,vs,O,_,_,h=>by cases l<;>cases h
 | n::ns,[],vs,O,_,a,_=>by simp at a
 | n::ns,x::l,vs,O,r,a,h=>by
  obtain⟨v,b,c,i,rfl,rfl,r1,r2⟩:=r;rw[JK] at h;by_cases e:f=n
  ·rw[if_pos e] at h;cases h;exact⟨v,c,by rw[U9,List.lookup_cons,e];simp,r1⟩
  ·rw[if_neg e] at h;obtain⟨w,P,g,e2⟩:=xY r2 ⇑a h;refine⟨w,P,?_,e2⟩;rw[U9,List.lookup_cons];have:(f==n)=false:=by simp[e]
   rw[this];exact g
def uv(c:Nat)(f:Str):D->Option D
 | .ins _ c' ns l=>bif c'==c then JK ns l f else none
 | _=>none
@[simp] def fldOf_ins:uv c f (.ins o c' ns l)=bif c'==c then JK ns l f else none:=rfl
@[simp] def JD(c:Nat)(f:Str)(po:PF)(ρ:Rh):Option D:=(po ρ).bind (uv c f)
def jnl(g:Cls R.K<|R.cls c)(i:NoAttr R.K (R.cls c) f)(h:PB R ta p):PB R (je0 R.K ta f) (JD c f p):=by
 intro σ ρ Z H O d z s e Q k;refine ob e λx j e=>?_;cases x with
 | ins o m ns l=>
  refine oc e λn q=>?_;obtain rfl:m=c:=by simpa using n
  refine h z s j λ{v C D E} r r1=>?_;obtain⟨a,t,vs,F,rfl,u,y,A,_⟩:=r1;obtain⟨w,P,B,b⟩:=xY u y q;exact⟨a,_,t,_,w,rfl,A,g,i,B,k r b⟩
 | _=>cases e
noncomputable def Jl:List Str->List D->Str->D->List Str×List D
 | n::ns,x::l,f,d=>if n=f then(n::ns,d::l) else(n::(Jl ns l f d).1,x::(Jl ns l f d).2)
 | _,_,f,d=>([f],[d])
theorem Vd(rd:Rep R Z H d v P):∀{ns}{l}{vs}{O},Reps R Z H l vs O->ns.length=l.length ->
  Ex2 λvs2 O2=>An4 (Reps R Z H (Jl ns l f d).2 vs2 O2) ((Jl ns l f d).1.zip vs2=Kf f v (ns.zip vs)) ((Jl ns l f d).1.length=(Jl ns l f d).2.length)<|∀ c,O2.count c<=O.count c+P.count c
 | [],[],vs,O,r,_=>by
  obtain⟨rfl,rfl⟩:=r;exact⟨[v],P,.one rd,rfl,rfl,λc=>by simp⟩
 | [],_::_,_,_,_,a=>by simp at a
 | _::_,[],_,_,_,a=>by simp at a
 | n::ns,x::l,vs,O,r,a=>by
  obtain⟨u,b,g,O2,rfl,rfl,r1,r2⟩:=r;rw[Jl];by_cases e:n=f
  ·rw[if_pos e];refine⟨v::b,P++O2,Reps.cons rd r2,?_,a,λc=>by simp only[X0];lia⟩;rw[U9,U9,Kf,if_pos e]
  ·rw[if_neg e];obtain⟨vs2,h,i,e3,j,k⟩:=Vd rd r2 ⇑a;refine⟨u::vs2,g++h,Reps.cons r1 i,?_,by simp[j],λc=>by have:=k c;simp only[X0];lia⟩;rw[U9,U9,Kf,if_neg e,e3]
@[simp] def J1(i:Nat)(c:Nat)(f:Str)(pv:PF)(ρ:Rh):Option Out:=(pv ρ).bind λd=>(pV i ρ).bind λt=>(xl t).bind λy=>bif y.1==c&&decide (y.2.1.length<=900) then some (.nx<|ρ.set i<|some<|.ins true c (Jl y.2.1 y.2.2 f d).1 (Jl y.2.1 y.2.2 f d).2) else none
def jbU{l:List α}{m:List β}(h:decide (l.length<=900)=true):(l.zip m).length<1000:=by
 rw[List.length_zip];exact E4 (Nat.min_le_left _ _) ∅
def jll{R}{pm}{i c}{f}{tv}{pv}(m:Cls R.K<|R.cls c)(n:NoAttr R.K (R.cls c) f)(p:PP R tv pv):DS R pm (jpy R.K (yf i) tv f) (J1 i c f pv):=by
 intro σ ρ Z H O o w s e I k;refine ob e λd r e=>ob e λt v e=>ob e λ⟨x,ns,l⟩ e2 e=>oc e λb e=>?_;cases e;cases JT e2;rw[M0] at b;obtain rfl:x=c:=by simpa using b.1
 refine p w.zd s r λ{u J L M} j r1=>?_;have g:=j.widen w;refine qH Jo g.wf (j.slots w.zd s) v rfl ow_ins λa y vs N z h A B put=>B ?_;obtain⟨C,P,D,e3,E,F⟩:=Vd r1 z h;obtain⟨Q,g3,G⟩:=put ow_ins E (Go.id g.wf.zd) D λq=>by have:=F q;simp;lia
 refine⟨a,_,y,_,rfl,A,m,n,jbU b.2,?_⟩;rw[<- e3];exact k (g.trans g3) G<|Keep.refl _ _
def jnI(b:Cls X.K<|cl c)(d:NoAttr X.K (cl c) f)(a:QB cl X o to po)(e:attributeBase o f X.env (eval o X.env)=eval o X.env:=by rfl):QB cl X (.Attribute o f pos) (je0 X.K to f) (JD c f po):=⟨jak a.sem e,jnl b d a.den⟩
def jl3(b:Cls X.K<|cl c)(d:NoAttr X.K (cl c) f)(g:QB cl X (.Name x xpos) (yf i)<|pV i)(a:QP cl X e te pe)(h:swapsWith e (some<|.Attribute (.Name x xpos) f pos') pos.line X.env=pure false:=by rfl):
  QS cl pm X (.Assign [.Attribute (.Name x xpos) f pos'] e pos) (jpy X.K (yf i) te f) (J1 i c f pe):=⟨jk7 g.sem a.sem h,jll b d a.den⟩
noncomputable def jmB:List Str->Str->Option Nat
 | [],_=>none
 | n::ns,f=>if f=n then some 0 else(jmB ns f).map (·+1)
theorem u6:∀{ns}{f}{vs}{j}{v:V},jmB ns f=some j->ns.length=vs.length->vs[j]?=some v->(ns.zip vs).lookup f=some v
 | [],_,_,_,_,h,_,_=>by cases h
 | n::ns,f,[],_,_,_,a,_=>by simp at a
 | n::ns,f,u::vs,j,v,h,a,b=>by
  rw[jmB] at h;by_cases e:f=n
  ·rw[if_pos e] at h;cases h;cases b;rw[U9,List.lookup_cons,e];simp
  ·rw[if_neg e] at h;cases hp:jmB ns f with
   | none=>rw[hp] at h;cases h
   | some i=>
    rw[hp] at h;cases h;rw[U9,List.lookup_cons,show(f==n)=false by simp[e]];exact u6 hp ⇑a ⇑b
theorem K5:∀{ns}{l}{vs:List V},ns.length=l.length->vs.length=l.length->JK ns l f=none->(ns.zip vs).lookup f=none
 | [],_,_,_,_,_=>rfl
 | n::ns,[],_,a,_,_=>by simp at a
 | n::ns,x::l,[],_,b,_=>by simp at b
 | n::ns,x::l,v::vs,a,b,h=>by
  rw[JK] at h;by_cases e:f=n
  ·rw[if_pos e] at h;cases h
  ·rw[if_neg e] at h;rw[U9,List.lookup_cons,show(f==n)=false by simp[e]];exact K5 ⇑a ⇑b h
@[simp] def va(m:List D->Option (D×D))(i c:Nat)(mn:Str)(p:PAf)(ρ:Rh):Option (D×Rh):=(p ρ).bind λds=>(pV i ρ).bind λt=>(xl t).bind λy=>bif y.1==c&&(frzs ds&&(JK y.2.1 y.2.2 mn).isNone) then(m<|t::ds).bind λr=>some (r.1,ρ.set i<|some r.2) else none
def jgo(h:PPs R ta p)(K:∀ ρ ds,p ρ=some ds->ds.length+1=n):DE R (jel (R.cls c) mn (spM R m n 0) [] E0 (yf i) ta) (va m i c mn p):=by
 intro σ ρ ρ' Z H O d w s e Q k;refine ob e λds D e=>ob e λy b e=>ob e λ⟨j,ns,l⟩ e3 e=>oc e λE e=>ob e λ⟨L,M⟩ e2 e=>?_;cases e;cases JT e3;have b:=YR b;rw[M0,M0] at E;obtain⟨o,q,r⟩:=E;obtain rfl:j=c:=by simpa using o
 have hi:=(L9.mp b).1;obtain⟨A0,P0,B0,_,N,_,_⟩:=s.put hi;obtain⟨u,t,S⟩:=N _ b;obtain⟨a,T,vs,O',rfl,U,x,V,_⟩:=S;refine⟨.ref a,t,a,T,_,rfl,V,K5 x U.length<|Option.isNone_iff_eq_none.mp r,(h w.zd s D λ{W z F P1} G I=>?_)⟩;cases I.nil q;have f:Go Z H O z F O:=by simpa using G.widen w
 obtain⟨A,P,B,rfl,X,Y,_⟩:=(G.slots w.zd s).put hi;obtain⟨u',g,rc⟩:=X _ b;rw[t] at g;cases g;have rr:Reps R z F (.ins true j ns l::ds) (.ref a::W) P:=by
  have:=Reps.cons rc I;simpa using this
 refine⟨z,.ins true j ns l::ds,L,M,P,.ref a,f.wf.mid,by have:=K ρ ds D;simpa using this,by rw[N2];exact rr,rfl,e2,λ{v Z2 H2 P2 O2} g2 r2 C=>?_⟩;have J:=Go.keepA f.wf g2;have s2:=Y C g2.zz (g2.zH f.wf.mid) J.1 J.2;rw[yX t] at s2;exact k (f.trans<|g2.frame f.wf).turn r2 s2
noncomputable def jm5:D×D->Option D
 | (.non,t)=>some t
 | _=>none
@[simp] def nonOf_non(t):jm5 (.non,t)=some t:=rfl
@[simp] def jbP(m:List D->Option (D×D))(c:Nat)(p:PAf)(ρ:Rh):Option D:=(p ρ).bind λds=>bif frzs ds then(m<|.ins true c [] []::ds).bind jm5 else none
def jiQ(h:PPs R ta p)(w:∀ ρ ds,p ρ=some ds->ds.length+1=n):PP R (jjD (R.cls c) (spM R m n 0) [] E0 ta) (jbP m c p):=by
 intro σ ρ Z H O d z s e Q k;refine ob e λds q e=>oc e λy e=>ob e λ⟨x,t⟩ e2 e=>?_;cases x with
 | non=>
  cases e;refine h z s q λ{E A r F} f u=>?_;cases u.nil y;intro x b B g i;have gA:=Go.newF (o:=.own x) (wf0 f.wf.zd) g;have j:upd r b (.own x) x=none:=by rw[je<|λe=>i e.symm];exact B
  have g2:=gA.trans<|Go.newO (o:=.ins (R.cls c) b []) gA.wf j;have C:Rep R (λa=>A a\/a=b) (upd (upd r b<|.own x) x<|.ins (R.cls c) b []) (.ins true c [] []) (.ref x) [x]:=by
   exact⟨x,b,[],[],rfl,.empty,rfl,jl,rfl⟩
  refine⟨_,.ins true c [] []::ds,.non,d,[x],.ref x,g2.wf,by have:=w ρ ds q;simpa using this,by rw[N2];have:=Reps.cons C<|g2.reps f.wf.zd u;simpa using this,rfl,e2,λ{v Z3 G I J} g3 D l=>?_⟩;obtain⟨rfl,rfl⟩:=D;exact⟨rfl,k (by simpa using(f.trans g2).trans g3) l⟩
 | _=>cases e
section
variable {cl:Nat->Addr}{pm:List Nat}{X:Cx}{e:Expr}{es:List Expr}{tr:TA}{pr:PAf}{pos p apos:Pos}
structure MtFact(K:W4)(C:Addr)(x qual:Str)(st:Stmt)(f:Addr)(fd:FuncData)(ps:List Str):Prop where
 fn:Fun K x qual st f fd
 mt:Meth K C x f
 bd:Binds K fd ps []
def OkM(P:Program)(w:World)(K:W4)(mg:W6)(C:Addr)(x qual:Str)(st:Stmt)(k:Nat)(ps:List Str)(sp:Sp):Prop:=∃ f fd,MtFact K C x qual st f fd ps/\∀ base,FnOk P w K mg base CX0 k f fd ps sp
def jiC{k n i c}{ps}{m}{x mn qual}{st}{pl}(g:Cls X.K<|cl c)(O:OkM X.prog X.w X.K X.mg (cl c) mn qual st k ps<|spM ⟨X.K,cl⟩ m n 0)(h:Room k X.A)(j:QB cl X (.Name x p) (yf i)<|pV i)(d:QPs cl X (e::es) tr pr)(l:∀ ρ ds,pr ρ=some ds->ds.length+1=n)
  (a:SEq X e es:=by rfl) (b:BkE X pos es:=by rfl)
  (o:eval (.Call (.Attribute (.Name x p) mn apos) (e::es) [] pos) X.env=(do
   let ov <- eval (.Name x p) X.env
   standAt apos.atName
   let (f,first) <- holding [ov] (getMethod ov mn pl)
   callWith pos f first (backTo pos<|starEach (e::es) X.env) (backToKw pos<|keywordEach [] X.env)):=by rfl):
  QE cl X (.Call (.Attribute (.Name x p) mn apos) (e::es) [] pos) (jel (cl c) mn (spM ⟨X.K,cl⟩ m n 0) [] E0 (yf i) tr) (va m i c mn pr):=by
 obtain⟨_,_,F,G⟩:=O;exact⟨jb9 j.sem g F.mt (G _) h F.bd .nil jcA d.sem a b o,jgo d.den l⟩
def jlg{k n c}{ps}{m}{x qual}{st}(f:PySem.W.makesIn X.K (cl c)=true)(g:PySem.W.keepIn X.K (.ref<|cl c)=true)(O:OkM X.prog X.w X.K X.mg (cl c) "__init__" qual st k ps<|spM ⟨X.K,cl⟩ m n 0)(h:Room (k+1) X.A)(i:X.mg x=some (.ref<|cl c))(d:QPs cl X (e::es) tr pr)(j:∀ ρ ds,pr ρ=some ds->ds.length+1=n)(l:Gl X x:=by rfl)
  (a:Nd x:=by decide) (o:SEq X e es:=by rfl) (b:BkE X pos es:=by rfl):
  QP cl X (.Call (.Name x p) (e::es) [] pos) (jjD (cl c) (spM ⟨X.K,cl⟩ m n 0) [] E0 tr) (jbP m c pr):=by
 obtain⟨_,_,F,G⟩:=O;exact⟨jjB ⟨f,F.mt.at_,F.mt.fn,g⟩ (G _) h l i F.bd .nil jcA d.sem a o b,jiQ d.den j⟩
end
@[simp] def Yo(m:List D->Option D)(c:Nat)(mn:Str)(po:PF)(p:PAf)(ρ:Rh):Option D:=(po ρ).bind λs=>(jor s).bind λy=>bif y.1==c&&(JK y.2.1 y.2.2 mn).isNone then(p ρ).bind λds=>(m<|fzs<|s::ds).bind λd=>bif frzs (s::ds)||yZ d then some d else none else none
def jiJ(r:PB R to po)(t:PBs R ta p)(u:∀ ρ ds,p ρ=some ds->ds.length+1=n):PP R (jel (R.cls c) mn (spP R m n) [] E0 to ta) (Yo m c mn po p):=by
 intro σ ρ Z H O d z s e Q k;refine ob e λE v e=>ob e λ⟨w,ns,l⟩ e3 e=>oc e λf e=>ob e λds j e=>ob e λc0 e2 e=>oc e λx e=>?_;cases e;obtain⟨o,rfl⟩:=jjW e3;rw[M0] at f;obtain rfl:w=c:=by simpa using f.1
 refine r z s v λ{F G I J} b q=>?_;have g:=q;obtain⟨a,y,A,K,rfl,B,h,C,_⟩:=g;exact⟨a,y,_,rfl,C,K5 h B.length<|Option.isNone_iff_eq_none.mp f.2,t b.wf.zd (b.slots z s) j λi D=>jcS i.wf.zd (Reps.cons (i.rep b.wf.zd q) D) (u ρ ds j) e2 x λg2 r2=>k (by simpa using(b.pair i).pair g2) r2⟩
def qZ(c:Nat)(f:Str)(L:Ln)(d:D):Option (D×(D->D)):=(L d).bind λy=>(xl y.1).bind λq=>bif q.1==c then(jmB q.2.1 f).bind λj=>(q.2.2[j]?).bind λx=>some (x,λx'=>y.2<|.ins true q.1 q.2.1<|q.2.2.set j x') else none
def jld(G:Cls R.K<|R.cls c)(I:NoAttr R.K (R.cls c) f)(h:je3 R tb i L):je3 R (je0 R.K tb f) i (qZ c f L):=by
 intro σ ρ Z H O d x k s hd e;refine ob e λ⟨y,k0⟩ J e=>ob e λ⟨M,ns,l⟩ e3 e=>oc e λN e=>ob e λj Q e=>ob e λx0 e2 e=>?_;cases e;cases JT e3;obtain rfl:M=c:=by simpa using N
 obtain⟨v,A,P,B,rfl,r,S,T⟩:=h s hd J;obtain⟨a,t,vs,O',rfl,w,n,z,rfl⟩:=r;obtain⟨u,U,V,W,C,rfl,X,o⟩:=w.at e2;refine⟨u,A++(a::U),V,W++B,by simp,X,λq=>S ⟨a,_,t,_,u,rfl,z,G,I,u6 Q (by rw[w.length];exact n) C,q⟩,λ{Z' H' x' Y} r' D E p F=>?_⟩;have g:=o r' D E (λb m=>p b<|by simp[m])<|λb m=>F b (by simp[m]);rw[yX C] at g;have s2:=T (ow_ins.mpr ⟨a,t,vs,_,rfl,g,by rw[List.length_set];exact n,(p a<|by simp).trans z,rfl⟩) D E (λb m=>p b<|by simp[m])<|λb m=>F b (by simp[m]);simpa using s2
structure QL(cl:Nat->Addr)(X:Cx)(e:Expr)(tb:TE)(i:Nat)(L:Ln):Prop where
 sem:PE X e tb
 den:je3 ⟨X.K,cl⟩ tb i L
section
variable {cl:Nat->Addr}{pm:List Nat}{X:Cx}{o e j:Expr}{es:List Expr}{to te tb tj:TE}{po pe pj:PF}{tr:TA}{pr:PAf}{pos p apos:Pos}{L L':Ln}{i:Nat}
def jno{k n c}{ps}{m}{mn qual}{st}{pl}(i:Cls X.K<|cl c)(O:OkM X.prog X.w X.K X.mg (cl c) mn qual st k ps<|spP ⟨X.K,cl⟩ m n)(j:Room k X.A)(g:QB cl X o to po)(a:QBs cl X (e::es) tr pr)(l:(e::es).length+1=n:=by rfl)
  (b:SEq X e es:=by rfl) (d:BkE X pos es:=by rfl)
  (p:eval (.Call (.Attribute o mn apos) (e::es) [] pos) X.env=(do
   let ov <- eval o X.env
   standAt apos.atName
   let (f,first) <- holding [ov] (getMethod ov mn pl)
   callWith pos f first (backTo pos<|starEach (e::es) X.env) (backToKw pos<|keywordEach [] X.env)):=by rfl):
  QP cl X (.Call (.Attribute o mn apos) (e::es) [] pos) (jel (cl c) mn (spP ⟨X.K,cl⟩ m n) [] E0 to tr) (Yo m c mn po pr):=by
 obtain⟨_,_,F,G⟩:=O;exact⟨jb9 g.sem i F.mt (G _) j F.bd .nil jcA a.sem b d p,jiJ g.den a.den λρ q h=>by rw[a.n ρ q h];exact l⟩
def jm7{x}(a:QB cl X (.Name x p) (yf i)<|pV i):QL cl X (.Name x p) (yf i) i kF:=⟨a.sem,Jo⟩
def jmi{c}{f}(a:Cls X.K<|cl c)(b:NoAttr X.K (cl c) f)(h:QL cl X o tb i L)(d:attributeBase o f X.env (eval o X.env)=eval o X.env:=by rfl):QL cl X (.Attribute o f pos) (je0 X.K tb f) i (qZ c f L):=
 ⟨jak h.sem d,jld a b h.den⟩
def jix{cpos}(f:QL cl X o tb i L)(h:QP cl X e te pe)(b:attributeBase o "append" X.env (eval o X.env)=eval o X.env:=by rfl)
  (d:((backTo cpos<|starEach [e] X.env).all (λx=>!x.1)&&(backToKw cpos<|keywordEach [] X.env).all (λx=>x.1.isSome)
   && decide ([e].length+([]:List Keyword).length+(if([]:List Keyword).isEmpty then 0 else 1)<30))=true:=by rfl)
  (c:(apos.endLine==cpos.line)=true:=by rfl) (g:starEach [e] X.env=(false,eval e X.env)::starEach [] X.env:=by rfl) (a:(backTo cpos<|starEach [] X.env).any (·.1)=false:=by rfl)
  (hsw:swapsWith (.Call (.Attribute o "append" apos) [e] [] cpos) none pos.line X.env=pure false:=by rfl):
  QS cl pm X (.Expr (.Call (.Attribute o "append" apos) [e] [] cpos) pos) (YT<|tBM X.K "list" Jy tb<|jW te Yw) (qr i L pe):=
 ⟨Vf (jb8 PySem.F.plainAttrs_list PySem.F.slot_list_append PySem.F.type_list_append J5 f.sem (jN h.sem kg g) b d c g a) hsw,jdJ f.den h.den⟩
end
def jkQ(R:RC)(tk:TE)(pk:Rh->Option (List KA)):Prop:=∀{σ}{ρ}{Z}{H}{O}{k},Zd Z H->Slots R Z H ρ σ O->pk ρ=some k ->
 ∀{Q},(∀{p}{Z'}{H'},Go Z H [] Z' H' []->Z' p->H' p=some (.tup<|(k.map kaV).map kV)->Q (.ref p) H')->tk σ H Q
def jaB(pd:PF)(pk:Rh->Option (List KA))(pc:PF):PF:=λρ=>(pd ρ).bind λx=>(pk ρ).bind λk=>(pc ρ).bind λz=>Vc x k z
@[simp] def pKGet3_e:jaB pd pk pc ρ=(pd ρ).bind λx=>(pk ρ).bind λk=>(pc ρ).bind λz=>Vc x k z:=rfl
def jfa(hd:PB R td pd)(n:jkQ R tk pk)(q:PB R tx pc):PB R (VA td tk tx) (jaB pd pk pc):=by
 intro σ ρ Z H O d z s e Q k;refine ob e λx r e=>ob e λy e2 e=>ob e λc u e=>?_;cases x with
 | dT o A l=>
  cases e;refine hd z s r λ{v J K L} j r1=>?_;obtain⟨p,vs,M,rfl,B,N,S⟩:=r1.dT_of;refine⟨p,rfl,.inr ⟨_,.inl B⟩,(n j.wf.zd (j.slots z s) e2 λ{b T U} g2 V m=>?_)⟩;have a:=j.pair g2;refine q g2.wf.zd (a.slots z s) u λ{t Z3 C W} g3 D=>?_;obtain⟨X,E,F,G,f,g,h,_⟩:=((g2.pair g3).rep j.wf.zd r1);cases G;have i:C b=some (.tup<|(y.map kaV).map kV):=by rw[g3.same b<|by rw[m];exact λz=>(nomatch z)];exact m
  cases ev:Q8 A l y with
  | none=>exact⟨none,(Ji f g).2 ev▸DGet.t h i,k (a.pair g3)<|by rw[ev];exact D⟩
  | some d=>
   obtain⟨w,P,I,rw⟩:=(Ji f g).1 d ev;exact⟨some w,I▸DGet.t h i,k (a.pair g3)<|by rw[ev];exact rw⟩
 | _=>cases e
def xt(i:Nat)(pk:Rh->Option (List KA))(pv:PF):FS:=λρ=>(pv ρ).bind λd=>(pV i ρ).bind λx=>(je5 x).bind λp=>(pk ρ).bind λa=>bif frz d&&lim p.1.length then some (.nx<|ρ.set i<|some<|.dT true (Yh p.1 p.2 a d).1 (Yh p.1 p.2 a d).2) else none
@[simp] def sKSet3_e{i}{pk}{pv}{ρ}:xt i pk pv ρ=(pv ρ).bind λd=>(pV i ρ).bind λx=>(je5 x).bind λp=>(pk ρ).bind λa=>bif frz d&&lim p.1.length then some (.nx<|ρ.set i<|some<|.dT true (Yh p.1 p.2 a d).1 (Yh p.1 p.2 a d).2) else none:=rfl
def jfh{R}{pm}{i}{I tv}{pk}{pv}(S:jkQ R I pk)(T:PB R tv pv):DS R pm (KY (yf i) I tv) (xt i pk pv):=by
 intro σ ρ Z H O o w s e D' k;unfold xt at e;cases e1:pv ρ with
 | none=>rw[e1] at e;cases e
 | some d=>
  rw[e1,L4] at e;cases e5:pV i ρ with
  | none=>rw[e5] at e;cases e
  | some x=>
   rw[e5,L4] at e;cases e6:je5 x with
   | none=>rw[e6] at e;cases e
   | some q=>
    rw[e6,L4] at e;obtain⟨n,l⟩:=q;cases Qg e6;have J:=YR e5;cases e2:pk ρ with
    | none=>rw[e2] at e;cases e
    | some c=>
     rw[e2,L4] at e;cases hm:frz d&&lim n.length with
     | false=>rw[hm] at e;cases e
     | true=>
      rw[hm] at e;cases e;rw[M0] at hm;refine T w.zd s e1 λ{u Z1 H1 P1} p r1=>?_;cases r1.nil hm.1;have g:=p.widen w;have s1:=p.slots w.zd s;obtain⟨A,P,B,rfl,U,V,_⟩:=s1.put (L9.mp J).1;obtain⟨v,K,r⟩:=U _ J;obtain⟨a,vs,L,rfl,W,D,M,rfl⟩:=r;refine⟨.ref a,K,(S p.wf.zd s1 e2 λ{b N C} g2 zb X=>?_)⟩;have h:=g2.widen g.wf;have E:C a=some (.dT<|(n.map<|List.map kaV).zip vs):=by rw[g2.same a<|by rw[M];exact λz=>(nomatch z)];exact M
      obtain⟨j,F,Y,e4,sl,G⟩:=Y7 (g2.rep p.wf.zd r1) c (g2.reps p.wf.zd W) D;refine⟨a,_,rfl,DPut.t E X<|by rw[List.length_zip,L1];exact E4 (Nat.min_le_left _ _)<|Vh hm.2,?_⟩;rw[<- e4];have nd:=h.wf.nd;have cnt:=List.nodup_iff_count.mp nd a;simp only[X0,List.count_cons,beq_self_eq_true,if_true] at cnt;have pos:∀{m:W5},a∈m->0<m.count a:=List.count_pos_iff.mpr;have y:∀ b,N b->upd C a (.dT<|((Yh n l c d).1.map (List.map kaV)).zip j) b=C b:=λb f=>je λz=>h.wf.nz a (by simp)<|z▸f;have hr:Rep R N (upd C a<|.dT<|((Yh n l c d).1.map (List.map kaV)).zip j) (.dT true (Yh n l c d).1 (Yh n l c d).2) (.ref a) (a::F):=by
       exact⟨a,j,F,rfl,Y.frame (λb z=>z) y (λb f=>je λz=>by subst z;have:=pos<|sl.subset f;lia),G,jl,rfl⟩
      have s2:=V hr (g2.zz) (λb f=>(y b<|g2.zz b f).trans (g2.same b<|p.wf.zd b f)) (λb f=>(je λz=>by subst z;have:=pos f;lia).trans (g2.same b<|g.wf.od b<|by simp[f]))<|λb f=>(je λz=>by subst z;have:=pos f;lia).trans (g2.same b<|g.wf.od b<|by simp[f]);rw[yX K] at s2;have Q:∀ x,(A++(a::F)++B).count x<=(A++(a::L)++B).count x:=λx=>by
       have:=sl.count_le x;simp only[X0,List.count_cons];lia
      exact k ((g.trans h).trans ((Go.put (o:=.dT<|((Yh n l c d).1.map (List.map kaV)).zip j) h.wf<|show a∈A++(a::L)++B by simp).drop (jd5 Q) (QX Q nd))) s2<|Keep.refl _ _
structure QK3(cl:Nat->Addr)(X:Cx)(e:Expr)(tk:TE)(pk:Rh->Option (List KA)):Prop where
 sem:PE X e tk
 den:jkQ ⟨X.K,cl⟩ tk pk
def jkC(f:Room k X.A)(a:QB cl X o to po)(b:QK3 cl X e tk pk)(d:QB cl X c tc pc)(m:M2 X o "get" apos e c cpos:=by exact⟨rfl,rfl,rfl,rfl⟩):
  QB cl X (.Call (.Attribute o "get" apos) [e,c] [] cpos) (VA to tk tc) (jaB po pk pc):=⟨Qn (YB f) a.sem b.sem d.sem m,jfa a.den b.den d.den⟩
def jga(c:Room k X.A)(d:QB cl X (.Name x xpos) (yf i)<|pV i)(a:QK3 cl X f tk pk)(b:QB cl X e te pe)
  (g:swapsWith e (some<|.Subscript (.Name x xpos) f pos') pos.line X.env=pure false:=by rfl):
  QS cl pm X (.Assign [.Subscript (.Name x xpos) f pos'] e pos) (KY (yf i) tk te) (xt i pk pe):=⟨QA (YB c) d.sem a.sem b.sem g,jfh a.den b.den⟩
section
variable {R:RC}{Z Z' Z2:Zn}{H H' H2:Hp}{pm:List Nat}
def jdL(rd:Rep R Z H d v P)(a)  (r:Reps R Z H l vs O) (b:ks.length=l.length) (c:a∉ks):
  Reps R Z H (kT ks l a d).2 (vs++[v]) (O++P)/\(((kT ks l a d).1).map kaV).zip (vs++[v])=JL ((ks.map kaV).zip vs) (kaV a) v/\(kT ks l a d).1.length=(kT ks l a d).2.length:=by
 have e:ks.length=vs.length:=by rw[r.length];exact b
 unfold kT JL;rw[xS a e,if_neg c,X6 c,if_neg<|λz=>(nomatch z)];refine⟨r.append<|Reps.one rd,?_,by simp[b]⟩;rw[N7,List.zip_append ⇑e];rfl
def Vv(i:Nat)(L:Ln)(pk pv:PF)(ρ:Rh):Option Out:=(pv ρ).bind λd=>(pV i ρ).bind λt=>(L t).bind λy=>(jhC y.1).bind λkl=>(pk ρ).bind λq=>(vZ q).bind λa=>bif lim kl.1.length&&(frz d||!decide (a∈kl.1)) then some (.nx<|ρ.set i<|some<|y.2<|.dK true (kT kl.1 kl.2 a d).1 (kT kl.1 kl.2 a d).2) else none
def jgS{i}{L}{tb ty tv}{pk pv}(B:je3 R tb i L)(C:PB R ty pk)(D:PP R tv pv):DS R pm (KY tb ty tv) (Vv i L pk pv):=by
 intro σ ρ Z H O o w s e T k;refine ob e λd E e=>ob e λt hi e=>ob e λ⟨y,U⟩ e3 e=>ob e λ⟨g,l⟩ e7 e=>ob e λq F e=>ob e λc e5 e=>oc e λx e=>?_;cases e;cases wx e7;rw[M0] at x;refine D w.zd s E λ{u V W G} h r1=>?_;have s1:=h.slots w.zd s;have A:=h.widen w;refine qH B A.wf s1 hi e3 ja1 λa _ vs I J j K M put=>M<|C h.wf.zd s1 F λ{z N P X} g2 r2=>?_;obtain⟨rfl,_⟩:=yW e5 r2;have m:=g2.rep h.wf.zd r1;have n:=g2.reps h.wf.zd J;have key:∃ b p,Reps R N P (kT g l c d).2 b p/\(((kT g l c d).1).map kaV).zip b=JL ((g.map kaV).zip vs) (kaV c) u/\(∀ q,p.count q<=I.count q+G.count q)/\(kT g l c d).1.length=(kT g l c d).2.length:=by
  cases hf:frz d with
  | true=>
   cases r1.nil hf;obtain⟨b,p,r,v,sl,f⟩:=Y9 m c n j;exact⟨b,p,r,v,⇑sl.count_le,f⟩
  | false=>
   have Q:c∉g:=by
    have:=x.2;rw[hf] at this;simpa using this
   obtain⟨r,v,f⟩:=jdL m c n j Q;exact⟨_,_,r,v,λq=>by rw[X0];exact N1 _,f⟩
 obtain⟨b,p,r,v,cn,f⟩:=key;obtain⟨Y,g3,S⟩:=put ja1 f g2 r ⇑cn;refine⟨a,_,rfl,DPut.k (g2.at0 K)<|Vo x.1,?_⟩;rw[<- v];exact k (A.trans g3) S<|Keep.refl _ _
def YQ(i:Nat)(L:Ln)(c:Nat)(f:Str)(g:Int->Int->Int)(pv:PF)(ρ:Rh):Option Out:=(pV i ρ).bind λt=>(L t).bind λy=>(xl y.1).bind λq=>(JK q.2.1 q.2.2 f).bind λm=>(vv m).bind λm=>(pv ρ).bind λn=>(vv n).bind λn=>
 bif q.1==c&&decide (q.2.1.length<=900) then some (.nx<|ρ.set i<|some<|y.2<|.ins true c (Jl q.2.1 q.2.2 f<|.int<|g m n).1 (Jl q.2.1 q.2.2 f<|.int<|g m n).2) else none
def jgV{i c}{f}{L}{tb tv}{pv}{g}{rd}(d:∀{m n}{H}{Q},Q (.int<|g m n) H->rd (.int m) (.int n) H Q)(A:Cls R.K<|R.cls c)(B:NoAttr R.K (R.cls c) f)(C:je3 R tb i L)(D:PB R tv pv):DS R pm (wG R.K tb tv rd f) (YQ i L c f g pv):=by
 intro σ ρ Z H O o w s e U k;refine ob e λt hi e=>ob e λ⟨y,V⟩ e3 e=>ob e λ⟨E,ns,l⟩ F e=>ob e λx G e=>ob e λm I e=>ob e λW J e=>ob e λn e2 e=>oc e λh e=>?_;cases e;cases JT F;cases jK I;cases jK e2;rw[M0] at h;obtain rfl:E=c:=by simpa using h.1
 refine qH (P0:=[]) C w s hi e3 ow_ins λa r vs X v b z M put=>?_;obtain⟨mv,Y,j,p⟩:=xY v b G;obtain⟨rfl,_⟩:=p.int_of;refine M ⟨a,_,r,_,_,rfl,z,A,B,j,D w.zd s J λ{u Z2 H2 P4} g2 r2=>?_⟩;obtain⟨rfl,_⟩:=r2.int_of;obtain⟨N,O2,P,e7,q,S⟩:=Vd (Rep.int_mk) (g2.reps w.zd v) b;obtain⟨O3,g3,T⟩:=put ow_ins q g2 P ⇑S;refine d ⟨r,_,g2.at0 z,jbU h.2,?_⟩;rw[<- e7];exact k g3 T<|Keep.refl _ _
end
section
variable {cl:Nat->Addr}{pm:List Nat}{X:Cx}{o b e:Expr}{to tb te:TE}{po pb pe:PF}{pos p fp tpos:Pos}{k i:Nat}{L:Ln}
def jgr(f:Room k X.A)(a:QL cl X o to i L)(c:QB cl X b tb pb)(d:QP cl X e te pe)(g:swapsWith e (some<|.Subscript o b pos') pos.line X.env=pure false:=by rfl):
  QS cl pm X (.Assign [.Subscript o b pos'] e pos) (KY to tb te) (Vv i L pb pe):=⟨QA (YB f) a.sem c.sem d.sem g,jgS a.den c.den d.den⟩
def jcV(f:Room k X.A)(a:QL cl X o to i L)(c:QB cl X b tb pb)(d:QB cl X e te pe)
  (g:∀ ov iv new,augStore b ov iv new=(do holding [new,ov,iv] (setItem ov iv new);release [new,ov,iv] [];pure .next):=by intro _ _ _;rfl):
  QS cl pm X (.AugAssign (.Subscript o b tpos) .Add e pos) (ze to tb te jqe) (vF i L pb (λm n=>m+n) pe):=⟨K8 (YB f) a.sem c.sem d.sem jmz g,Q4 (λq=>⟨_,_,rfl,rfl,q⟩) a.den c.den d.den⟩
def jep(f:Room k X.A)(a:QL cl X o to i L)(c:QB cl X b tb pb)(d:QB cl X e te pe)
  (g:∀ ov iv new,augStore b ov iv new=(do holding [new,ov,iv] (setItem ov iv new);release [new,ov,iv] [];pure .next):=by intro _ _ _;rfl):
  QS cl pm X (.AugAssign (.Subscript o b tpos) .Sub e pos) (ze to tb te jmp) (vF i L pb (λm n=>m-n) pe):=⟨K8 (YB f) a.sem c.sem d.sem jac g,Q4 (λq=>⟨_,_,rfl,rfl,q⟩) a.den c.den d.den⟩
def jdQ{c}{f}(d:Cls X.K<|cl c)(g:NoAttr X.K (cl c) f)(a:QL cl X o to i L)(b:QB cl X e te pe):
  QS cl pm X (.AugAssign (.Attribute o f tpos) .Sub e pos) (wG X.K to te jmp f) (YQ i L c f (λm n=>m-n) pe):=⟨jc2 a.sem b.sem jac,jgV (λq=>⟨_,_,rfl,rfl,q⟩) d g a.den b.den⟩
end
namespace QK
def fld{K}{cl}{X}{o}{to}{po}{pos}{c}{f}(hK:X.K=K)(a:Cls X.K<|cl c)(b:NoAttr X.K (cl c) f)(d:QB cl X o to po)(e:attributeBase o f X.env (eval o X.env)=eval o X.env:=by rfl):QB cl X (.Attribute o f pos) (je0 K to f) (JD c f po):=by subst hK;exact jnI a b d e
end QK
section
variable {R:RC}{Z Z':Zn}{H H':Hp}{pm:List Nat}
def JI(m:List D->Option (D×D))(i:Nat)(L:Ln)(p:PAf)(ρ:Rh):Option (D×Rh):=(pV i ρ).bind λt=>(L t).bind λy=>(p ρ).bind λds=>bif frzs ds then(m<|y.1::ds).bind λr=>some (r.1,ρ.set i<|some<|y.2 r.2) else none
def jcL(q:je3 R tb i L)(u:PPs R tr p)(x:∀ ρ ds,p ρ=some ds->ds.length+1=n):DE R (qP (spM R m n 0) [] E0<|jW tb tr) (JI m i L p):=by
 intro σ ρ J Z H O d w s e Q k;refine ob e λt hi e=>ob e λ⟨y,K⟩ e3 e=>ob e λds j e=>oc e λC e=>ob e λ⟨D,E⟩ e2 e=>?_;cases e;obtain⟨v,A,P,B,rfl,r,F,G⟩:=q s (YR hi) e3;refine F<|u w.zd s j λ{vs f l M} b r1=>?_;cases r1.nil C;have c:Go Z H (A++P++B) f l (A++P++B):=by simpa using b.widen w
 have I:Reps R f l (y::ds) (v::vs) P:=by
  have:=Reps.cons (b.rep w.zd r) r1;simpa using this
 refine⟨f,y::ds,D,E,P,v,c.wf.mid,by have:=x ρ ds j;simpa using this,by rw[N2];exact I,rfl,e2,λ{N S T U V} g2 r2 g=>?_⟩;have o:=Go.keepA c.wf g2;exact k (c.trans<|g2.frame c.wf).turn r2 (G g (λa z=>g2.zz a<|b.zz a z) (λa z=>(g2.zH c.wf.mid a<|b.zz a z).trans (b.same a<|w.zd a z)) (λa h=>(o.1 a h).trans (b.same a<|w.od a<|by simp[h]))<|λa h=>(o.2 a h).trans (b.same a<|w.od a<|by simp[h]))
def jfI(i:Nat)(pa pb:PF)(g:Int->Int->Int)(pv:PF):FS:=λρ=>(pV i ρ).bind λx=>(je5 x).bind λp=>(jfP pa pb ρ).bind λa=>(Q8 p.1 p.2 a).bind λy=>(vv y).bind λm=>(pv ρ).bind λz=>(vv z).bind λn=>
 bif lim p.1.length then some (.nx<|ρ.set i<|some<|.dT true (Yh p.1 p.2 a<|.int<|g m n).1 (Yh p.1 p.2 a<|.int<|g m n).2) else none
def jjG{i}{ta tb tv}{pa pb pv}{g}{rd}(j:∀{m n}{H}{Q},Q (.int<|g m n) H->rd (.int m) (.int n) H Q)(D:PB R ta pa)(E:PB R tb pb)(F:PB R tv pv):DS R pm (ze (yf i) (jdn ta tb) tv rd) (jfI i pa pb g pv):=by
 intro σ ρ Z H O o w s e T k;refine ob e λx G e=>ob e λ⟨U,l⟩ I e=>ob e λc e2 e=>ob e λy e3 e=>ob e λm J e=>ob e λz e7 e=>ob e λn K e=>oc e λf e=>?_;cases e;cases Qg I;cases jK J;cases jK K;refine qH (P0:=[]) Jo w s G rfl jf4 λa _ vs V A h B L put=>L<|JS D E w.zd s e2 λ{b W X} g2 Y C=>?_;obtain⟨mv,P3,p,q⟩:=(Ji A h).1 _ e3;obtain⟨rfl,_⟩:=q.int_of;refine⟨a,.int m,rfl,by rw[<- p];exact DGet.t (g2.at0 B) C,F g2.wf.zd (g2.slots w.zd s) e7 λ{u Z3 H3 P4} g3 M=>?_⟩;obtain⟨rfl,_⟩:=M.int_of;have d:=g2.trans g3;obtain⟨N,O2,r,P,sl,v⟩:=Y7 (Rep.int_mk) c (d.reps w.zd A) h;obtain⟨O3,g4,S⟩:=put jf4 v d r ⇑sl.count_le;refine j ⟨_,DPut.t (d.at0 B) (g3.at0 C)<|Vo f,?_⟩;rw[<- P];exact k g4 S<|Keep.refl _ _
end
section
variable {cl:Nat->Addr}{pm:List Nat}{X:Cx}{o e:Expr}{es:List Expr}{to te:TE}{po pe:PF}{tr:TA}{pr:PAf}{pos p:Pos}{i:Nat}{L:Ln}
def jgD{k n}{ps}{m}{x}{st}(O:OkF X.prog X.w X.K X.mg x st k ps<|spM ⟨X.K,cl⟩ m n 0)(f:Room k X.A)
  (c:QL cl X o to i L) (d:QPs cl X es tr pr) (g:∀ ρ ds,pr ρ=some ds->ds.length+1=n) (h:Gl X x:=by rfl) (a:Nd x:=by decide)
  (e:starEach (o::es) X.env=(false,eval o X.env)::starEach es X.env:=by rfl) (b:BkE X pos es:=by rfl):QE cl X (.Call (.Name x p) (o::es) [] pos) (qP (spM ⟨X.K,cl⟩ m n 0) [] E0<|jW to tr) (JI m i L pr):=by
 obtain⟨_,_,F,G⟩:=O;exact⟨jgu F (G _) f (jN c.sem d.sem e) h a e b,jcL c.den d.den g⟩
def jfY{a b}{ta tb}{pa pb}{x}{f}{k}{c d tpos}(l:Room k X.A)(o:QB cl X (.Name x c) (yf i)<|pV i)(g:QB cl X a ta pa)(h:QB cl X b tb pb)(j:QB cl X e te pe)
  (p:∀ ov iv new,augStore (.Tuple [a,b] f d) ov iv new=(do holding [new,ov,iv] (setItem ov iv new);release [new,ov,iv] [];pure .next):=by intro _ _ _;rfl)
  (h1:starEach [a,b] X.env=(false,eval a X.env)::starEach [b] X.env:=by rfl) (h2:starEach [b] X.env=(false,eval b X.env)::starEach [] X.env:=by rfl):
  QS cl pm X (.AugAssign (.Subscript (.Name x c) (.Tuple [a,b] f d) tpos) .Sub e pos) (ze (yf i) (jdn ta tb) te jmp) (jfI i pa pb (λm n=>m-n) pe):=
 ⟨K8 (YB l) o.sem (JM<|jN g.sem (jN h.sem kg h2) h1) j.sem jac p,jjG (λq=>⟨_,_,rfl,rfl,q⟩) g.den h.den j.den⟩
def jg3(e:Room k X.A)(c:QB cl X a ta pa)(d:QB cl X b tb pb)(f:behindInMarks .NotIn b=false:=by with_unfolding_all rfl):QP cl X (.Compare a [.NotIn] [b] pos) (Qu ta tb) (p2 (jbn true) pa pb):=
 ⟨jlI (jdU (YB e) c.sem d.sem) f,jdk c.den d.den⟩
end
section
variable {R:RC}{Z Z':Zn}{H H':Hp}{pm:List Nat}
def wF(K:W4):List V->Hp->VK->Prop:=(λxs H Q=>∃(p:Addr) (ys:List V) (ps:List<|List Key×Addr×V),xs=[.ref p]/\SqL K H p ys/\ys.length=ps.length/\ps.length<=100000 /\
  (∀(j:Nat) y,ys[j]?=some y->∃ kv t,ps[j]?=some kv/\y=.ref t/\SqT K H t [.ref kv.2.1,kv.2.2]/\H kv.2.1=some (.tup<|kv.1.map kV))/\∀ D,H D=none->Q (.ref D) (upd H D<|.dT<|ps.foldl (λa kv=>JL a kv.1 kv.2.2) []))
def PK(R:RC)(te:TE)(pk:Rh->Option (List KA))(pv:PF):Prop:=∀{σ}{ρ}{Z}{H}{O}{c}{d},Zd Z H->Slots R Z H ρ σ O->pk ρ=some c->pv ρ=some d->frz d=true ->
 ∀{Q},(∀{t b}{u}{Z'}{H'},Go Z H [] Z' H' []->Z' t->Z' b->H' t=some (.tup [.ref b,u])->H' b=some (.tup<|(c.map kaV).map kV)->Rep R Z' H' d u []->Q (.ref t) H')->te σ H Q
def jjV(g:D->Rh->Option Rh)(q:PTf)(pk:Rh->Option (List KA))(pv:PF):List D->Rh->Option (List<|List KA×D)
 | [],_=>some []
 | x::xs,ρ=>(g x ρ).bind λρ1=>(q ρ1).bind λb=>bif b then(pk ρ1).bind λc=>(pv ρ1).bind λd=>bif frz d then(jjV g q pk pv xs ρ1).bind λr=>some ((c,d)::r) else none else jjV g q pk pv xs ρ1
def jch(ps:List<|List KA×D):List (List KA)×List D:=ps.foldl (λacc kv=>Yh acc.1 acc.2 kv.1 kv.2) ([],[])
@[simp] def pDictP(pi:PAf)(g:D->Rh->Option Rh)(q:PTf)(pk:Rh->Option (List KA))(pv:PF)(ix:List<|Option Nat)(ρ:Rh):Option D:=(pi ρ).bind λxs=>bif lim xs.length then(jjV g q pk pv xs<|jk ix ρ).bind λall=>some (.dT true (jch all).1 (jch all).2) else none
theorem zI:∀{ps:List (List KA×D)}{ws:List (List Key×Addr×V)}{ks}{l}{us},ws.map (·.1)=ps.map (λy=>y.1.map kaV)->Reps R Z H (ps.map (·.2)) (ws.map (·.2.2)) []->Reps R Z H l us []->ks.length=l.length ->
  ∃ us',An3 (Reps R Z H (ps.foldl (λacc kv=>Yh acc.1 acc.2 kv.1 kv.2) (ks,l)).2 us' []) ((((ps.foldl (λacc kv=>Yh acc.1 acc.2 kv.1 kv.2) (ks,l)).1).map (List.map kaV)).zip us'=(ws.foldl (λa kv=>JL a kv.1 kv.2.2)<|(ks.map<|List.map kaV).zip us))<|(ps.foldl (λacc kv=>Yh acc.1 acc.2 kv.1 kv.2) (ks,l)).1.length=(ps.foldl (λacc kv=>Yh acc.1 acc.2 kv.1 kv.2) (ks,l)).2.length
 | [],[],ks,l,us,_,_,r,b=>⟨us,r,by simp,b⟩
 | [],w::ws,ks,l,us,h,_,_,_=>by simp at h
 | p::ps,[],ks,l,us,h,_,_,_=>by simp at h
 | p::ps,w::ws,ks,l,us,j,c,r,b=>by
  obtain⟨v,k,t,u,m,e,r1,r2⟩:=c;obtain⟨rfl,rfl⟩:=List.append_eq_nil_iff.mp e.symm;obtain⟨rfl,rfl⟩:=List.cons.inj m;rw[L5,L5] at j;obtain⟨d,f⟩:=List.cons.inj j;obtain⟨n,x,o,e3,sl,g⟩:=Y7 r1 p.1 r b;have:=List.sublist_nil.mp sl;subst this;obtain⟨us',q,s,i⟩:=zI f r2 o g;refine⟨us',q,?_,i⟩;rw[X4,X4,s,e3,d]
end
section
variable {cl:Nat->Addr}{pm:List Nat}{X:Cx}{tg iter elt:Expr}{ifs:List Expr}{wi:TI}{pi:PAf}{t:TG}{g:D->Rh->Option Rh}{te:TE}{pk:Rh->Option (List KA)}{pv:PF}{pos cpos p:Pos}
structure QKv(cl:Nat->Addr)(X:Cx)(e:Expr)(te:TE)(pk:Rh->Option (List KA))(pv:PF):Prop where
 sem:PE X e te
 den:PK ⟨X.K,cl⟩ te pk pv
end
end QD
namespace L2
open PySem PySem.Spec PyProof.Rows
def jeE(h:Vals ys its):Vals (V4 lt ys .non) (V4 lt its Value.none):=by
 unfold V4;rw[<- h.length];split
 ·exact h
 ·generalize(kEv lt<|PySem.W.kas_sort ys.length).toList=l;have get:∀ ys its,Vals ys its->∀ i,RelV (ys.getD i .non) (its.getD i Value.none):=by
   intro ys its h
   induction h with
   | nil=>intro i;simp;rfl
   | cons b _ a=>
    intro i;cases i with
    | zero=>exact b
    | succ i=>exact a i
  induction l with
  | nil=>exact .nil
  | cons i l a=>exact .cons (get ys its h i) a
def jcb(K:W4):List V->Hp->VK->Prop:=λxs H Q=>∃(p:Addr) (ys:List V) (rs:List jfF),xs=[.ref p]/\SqL K H p ys/\ys.length=rs.length/\ys.length<64 /\
 (∀(j:Nat) y,ys[j]?=some y->∃ r t,rs[j]?=some r/\y=.ref t/\SqT K H t [.str r.1,.str r.2.1,.int r.2.2])/\∀ D,H D=none->Q (.ref D) (upd H D<|.lst<|V4 (λi j=>xq (rs.getD i ("","",0))<|rs.getD j ("","",0)) ys .non)
def jfy(h:Vals ys its):∀(j:Nat) v,its[j]?=some v->∃ y,ys[j]?=some y/\RelV y v:=by
 induction h with
 | nil=>intro j v e;simp at e
 | @cons y u ys c a _ b=>
  intro j v e;cases j with
  | zero=>cases e;exact⟨y,rfl,a⟩
  | succ j=>exact b j v ⇑e
def xF:kR X (.builtin "sorted") (jcb X.K):=by
 intro w s σ H xs us Q I r h;obtain⟨p,z,a,rfl,A,hl,hz,B,q⟩:=h;obtain⟨u,rfl,C⟩:=r.one;cases C;obtain⟨D,b,⟨o,n,e,d,E,f⟩,_⟩:=I.list A;have F:=b.length.symm;refine YU (rs:=a) ⟨o,e,d,n,f⟩ ∅ ∅ (λj v G=>?_) λh' c J L=>?_
 ·obtain⟨y,M,N⟩:=jfy b j v G;obtain⟨r,t,O,rfl,g⟩:=B j y M;cases(N);obtain⟨x,P,⟨R,e2,k,S,l⟩,_⟩:=I.tuple g;cases P with
  | cons T U=>
   cases U with
   | cons V W=>
    cases W with
    | cons Y Z=>
     cases Z;rename_i v1 v2 v3;obtain⟨t1,rfl⟩:=(T);obtain⟨t2,rfl⟩:=(V);obtain⟨t3,rfl⟩:=(Y);exact⟨r,O,t,R,S,t1,t2,t3,rfl,e2,k,l⟩
 ·have m:=I.hok.fresh<|Nat.le_succ ↥s;refine⟨.ref<|↥s+1,_,I.laid (o:=.lst<|V4 (λi j=>xq (a.getD i ("","",0))<|a.getD j ("","",0)) z .non) J (Nat.le_succ _) ⟨?_,_,c,jeE b,L⟩,rfl,q _ m⟩;rw[jaf]
  lia
end L2
namespace QD
open PySem L2 PySem.Spec PyProof.Rows
noncomputable def jjv:D->Option (List Nat)
 | .str s=>some s
 | _=>none
def jai{d}{n}(h:jjv d=some n):d=.str n:=by cases d<;>cases h<;>rfl
noncomputable def jp5:List D->Option (D×D×D)
 | [x,y,z]=>some (x,y,z)
 | _=>none
def jiq{l}{p}(h:jp5 l=some p):l=[p.1,p.2.1,p.2.2]:=by
 match l with
 | [_,_,_]=>cases h;rfl
def jqo(d:D):Option jfF:=(jeN d).bind λt=>(jp5 t).bind λp=>(jjv p.1).bind λa=>(jjv p.2.1).bind λb=>(vv p.2.2).bind λn=>some (S a,S b,n)
def jbx:List D->Option (List jfF)
 | []=>some []
 | d::l=>(jqo d).bind λx=>(jbx l).bind λr=>some<|x::r
def wB(rs:List jfF)(l:List D):List D:=V4 (λi j=>xq (rs.getD i ("","",0))<|rs.getD j ("","",0)) l .non
def KM:List D->Option D
 | [.lst _ l]=>(jbx l).bind λrs=>bif decide (l.length<64) then some (.lst true<|wB rs l) else none
 | _=>none
@[simp] def fSorted_e(o)(l):KM [.lst o l]=(jbx l).bind λrs=>bif decide (l.length<64) then some (.lst true<|wB rs l) else none:=rfl
def jdf:∀{l}{rs}{ys}{O},jbx l=some rs->Reps R Z H l ys O->O=[]/\ys.length=rs.length/\∀(j:Nat) y,ys[j]?=some y->∃ r t,rs[j]?=some r/\y=.ref t/\SqT R.K H t [.str r.1,.str r.2.1,.int r.2.2]:=by
 intro l
 induction l with
 | nil=>
  intro rs ys O e r;cases e;obtain⟨rfl,rfl⟩:=r;exact⟨rfl,rfl,λj y f=>by simp at f⟩
 | cons d l i=>
  intro rs ys O e r;refine ob e λx c e=>ob e λk e2 e=>ob c λt m c=>ob c λq o c=>ob c λa p c=>ob c λb s c=>ob c λn u c=>?_;cases e;cases c;rw[Reps,Qm m,jiq o,jai p,jai s,jK u] at r;obtain⟨G,v,I,J,rfl,rfl,r1,r2⟩:=r;obtain⟨rfl,w,q⟩:=i e2 r2;have z:=r1.nil (by rfl);subst z;obtain⟨t,vs,rfl,A,g⟩:=r1;obtain⟨L,B,M,N,rfl,P,C,h⟩:=g;obtain⟨Q,T,U,V,rfl,D,E,F⟩:=h.two_of;obtain⟨rfl,_⟩:=C.str_of;obtain⟨rfl,_⟩:=E.str_of;obtain⟨rfl,_⟩:=F.int_of;refine⟨rfl,by simp[w],λj y f=>?_⟩;cases j with
  | zero=>cases f;exact⟨(S a,S b,n),t,rfl,rfl,A.sq⟩
  | succ j=>exact q j y ⇑f
def jdY(r:Reps R Z H l vs [])(a:List Nat):Reps R Z H (a.map λi=>l.getD i .non) (a.map λi=>vs.getD i .non) []:=by
 have get:∀ l vs,Reps R Z H l vs []->∀ i,Rep R Z H (l.getD i .non) (vs.getD i .non) []:=by
  intro l
  induction l with
  | nil=>
   intro vs r i;obtain⟨rfl,_⟩:=r;simp;exact .non_mk
  | cons d l b=>
   intro vs r i;obtain⟨v,c,f,g,rfl,e,r1,r2⟩:=r;obtain⟨rfl,rfl⟩:=List.append_eq_nil_iff.mp e.symm;cases i with
   | zero=>exact r1
   | succ i=>exact b c r2 i
 induction a with
 | nil=>exact .empty
 | cons i a b=>exact Reps.cons (get l vs r i) b
def jb1:BC R (jcb R.K) KM:=by
 intro Z H m d vs O z r e Q k
 match m,e,r with
 | [.lst o l],e,r=>
  refine ob e λc n e=>oc e λs e=>?_;cases e;obtain⟨v,rfl,r1⟩:=r.one_of;obtain⟨p,f,x,rfl,t,b⟩:=r1.lst_of;obtain⟨rfl,u,q⟩:=jdf n b;refine⟨p,f,c,rfl,t.sq,u,by rw[b.length];exact(X7 s),q,λD g=>?_⟩;refine k (Go.newO (wf0 z) g) ?_;have ne:∀ a,H a≠none->a≠D:=λa h e=>h<|e▸g;have w:Reps R Z H (wB c l) (V4 (λi j=>xq (c.getD i ("","",0))<|c.getD j ("","",0)) f .non) []:=by
   unfold wB V4;rw[b.length];split
   ·exact b
   ·exact jdY b _
  exact⟨D,_,[],rfl,w.frame (λa z=>z) (λa h=>je<|ne a<|z a h)<|λa h=>(nomatch h),jl,rfl⟩
def z7:bootBuiltins "sorted" = some (.builtin "sorted"):=by boot_fast
def jbN:(wB rs l).Perm l:=by
 unfold wB V4;split
 ·exact List.Perm.refl _
 ·rename_i h;refine(((ux (lt:=λi j=>xq (rs.getD i ("","",0))<|rs.getD j ("","",0)) (n:=l.length) ∅).2).map λi=>l.getD i .non).trans ?_;have:(List.range l.length).map (λi=>l.getD i .non)=l:=by
   apply List.ext_getElem
   ·simp
   ·intro i b a;simp[List.getD_eq_getElem?_getD,E1 a]
  rw[this]
noncomputable def two2:List KA->Option (KA×KA)
 | [a,b]=>some (a,b)
 | _=>none
def two2_of{k}{p}(h:two2 k=some p):k=[p.1,p.2]:=by
 match k with
 | [_,_]=>cases h;rfl
def VZ(q:KA->KA->Int->Option Bool)(el:KA->KA->Int->D):List (List KA)->List D->Option (List D)
 | [],[]=>some []
 | k::ks,d::l=>(two2 k).bind λp=>(vv d).bind λn=>(q p.1 p.2 n).bind λt=>(VZ q el ks l).bind λr=>some<|bif t then el p.1 p.2 n::r else r
 | _,_=>none
theorem Kb{q el}:∀{ks}{l}{r},VZ q el ks l=some r->frzs l=true/\ks.length=l.length
 | [],[],_,_=>⟨rfl,rfl⟩
 | [],_::_,_,e=>by cases e
 | _::_,[],_,e=>by cases e
 | k::ks,d::l,r,e=>by
  refine ob e λp c e=>ob e λn e2 e=>ob e λt f e=>ob e λg e3 e=>?_;obtain⟨a,b⟩:=Kb e3;cases jK e2;exact⟨by rw[Yb,a];rfl,by simp[b]⟩
def ja9{q el}{ks:List (List KA)}{l:List D}{r}{i}(e:VZ q el (ks.drop i) (l.drop i)=some r)(hi:i<ks.length):Ex5 λa b n t r'=>An5 (ks[i]?=some [a,b]) (l[i]?=some (.int n)) (q a b n=some t) (VZ q el (ks.drop<|i+1) (l.drop<|i+1)=some r') (r=bif t then el a b n::r' else r'):=by
 rw[List.drop_eq_getElem_cons hi] at e;have c:i<l.length:=by
  by_cases h:i<l.length
  ·exact h
  ·rw[List.drop_eq_nil_of_le (as:=l) ∅] at e;cases e
 rw[List.drop_eq_getElem_cons c] at e;rw[E1 hi,E1 c];refine ob e λp d e=>ob e λn e2 e=>ob e λt f e=>ob e λr' e3 e=>?_;cases e;exact⟨p.1,p.2,n,t,r',by rw[two2_of d],by rw[jK e2],f,e3,rfl⟩
section
variable {R:RC}{tc:TT}{te ts:TE}{q:KA->KA->Int->Option Bool}{el:KA->KA->Int->D}
def SpT(R:RC)(tc:TT)(q:KA->KA->Int->Option Bool):Prop:=∀{σ:L2.St}{Z:Zn}{H:Hp}{b a1 a2 n t}{Q:Bool->Hp->Prop},Zd Z H->σ[0]?=some (some<|.ref b)->σ[1]?=some (some<|.int n)->H b=some (.tup [kV<|kaV a1,kV<|kaV a2])->q a1 a2 n=some t->(∀{Z' H'},Go Z H [] Z' H' []->Q t H')->tc σ H Q
def SpE(R:RC)(te:TE)(el:KA->KA->Int->D):Prop:=∀{σ:L2.St}{Z:Zn}{H:Hp}{b a1 a2 n}{Q:VK},Zd Z H->σ[0]?=some (some<|.ref b)->σ[1]?=some (some<|.int n)->H b=some (.tup [kV<|kaV a1,kV<|kaV a2])->(∀{v Z' H'},Go Z H [] Z' H' []->Rep R Z' H' (el a1 a2 n) v []->Q v H')->te σ H Q
inductive CpQ (R:RC) (q:KA->KA->Int->Option Bool) (el:KA->KA->Int->D) (Z0:Zn) (H0:Hp) (a:Addr) (ks:List<|List KA) (l all:List D) (i m:Nat) (σ2:L2.St) (H2:Hp):Prop
 | mk:m=ks.length-i->i<=ks.length->σ2.length=2->∀(Z2:Zn) (ys:List D) (vs:List V) (rest:List D),Go Z0 H0 [] Z2 H2 [a]->H2 a=some (.lst vs)->Reps R Z2 H2 ys vs []->VZ q el (ks.drop i) (l.drop i)=some rest->all=ys++rest->ys.length<=i->CpQ R q el Z0 H0 a ks l all i m σ2 H2
def jcx(ht:SpT R tc q)(he:SpE R te el){H}{o}{g}{d}{ks}{l}{us}{all}(C:Zd g d)(hd:d H=some (.frz o<|.dT<|(ks.map<|List.map kaV).zip us))(ru:Reps R g d l us [])(D:ks.length=l.length)(hl:lim ks.length=true)(e:VZ q el ks l=some all)
  {Q:VK}(k:∀{a}{Z'}{H'}{vs},Go g d [] Z' H' [a]->H' a=some (.lst vs)->Reps R Z' H' all vs []->Q (.ref a) H'):∀ a,d a=none ->
  jaq tc te (jbS R.K 2<|k8 (vw 0)<|k8 (vw 1) jdv) (joA H o<|(ks.map<|List.map kaV).zip us) a [none,none] (upd d a<|.lst []) λH2=>Q (.ref a) H2:=by
 intro a ha;have M:us.length=ks.length:=by rw[ru.length];exact D.symm
 have j:((ks.map<|List.map kaV).zip us).length=ks.length:=by rw[List.length_zip,L1,M,Nat.min_self]
 have gp:Go g d [] g (upd d a<|.lst []) [a]:=Go.newO (wf0 C) ha;refine⟨CpQ R q el g d a ks l all,
  ⟨ks.length,rfl,U7 _,rfl,g,[],[],all,gp,jl,Reps.empty,e,rfl,N1 _⟩,?_⟩
 rintro i m N H2 ⟨rfl,O,hσ,Z2,ys,vs,rest,g2,E,I,e3,A,r⟩;have hJ:H2 H=some (.frz o<|.dT<|(ks.map<|List.map kaV).zip us):=by rw[g2.same H<|by rw[hd];exact λz=>(nomatch z)];exact hd
 by_cases f:i<ks.length
 ·right
  refine⟨⟨hJ,by rw[j];exact f⟩,?_⟩;rintro u H3 ⟨p,kv,b,F,rfl,hp,P,rfl⟩;obtain⟨J,L,n,t,r',hk,hn,e6,e5,rfl⟩:=ja9 e3 f;obtain⟨w,hw,S⟩:=(g2.reps C ru).item hn;obtain⟨rfl,_⟩:=S.int_of;have hz:((ks.map<|List.map kaV).zip us)[i]?=some ([kaV J,kaV L],.int n):=by
   rw[List.getElem?_zip_eq_some];exact⟨by rw[List.getElem?_map,hk];rfl,hw⟩
  rw[hz] at F;cases F;have T:b≠p:=λz=>by rw[z,hp] at P;cases P
  have s:upd H2 p (.tup [.ref b,.int n]) b=some (.tup [kV<|kaV J,kV<|kaV L]):=by rw[je T];exact P
  have g3:Go Z2 H2 [] Z2 (upd H2 p<|.tup [.ref b,.int n]) []:=(Go.newO (wf0 g2.wf.zd) hp).drop (λ_ h=>(nomatch h)) List.nodup_nil;refine⟨p,[.ref b,.int n],rfl,SqT.of jl,rfl,.ref b,[.int n],rfl,.int n,[],rfl,rfl,?_⟩;have s0:((N.set 0<|some<|.ref b).set 1 (some<|.int n))[0]?=some (some<|.ref b):=by
   rw[List.getElem?_set_ne<|by decide,List.getElem?_set_self ∅]
  have s1:((N.set 0<|some<|.ref b).set 1 (some<|.int n))[1]?=some (some<|.int n):=by
   rw[List.getElem?_set_self<|by rw[List.length_set];lia]
  have G:((N.set 0<|some<|V.ref b).set 1 (some<|V.int n)).length=2:=by simp[hσ]
  refine ht g3.wf.zd s0 s1 s e6 λ{Z4 H4} g4=>?_;have c:=g3.trans g4;cases t with
  | true=>
   have U:H4 b=some (.tup [kV<|kaV J,kV<|kaV L]):=by rw[g4.same b<|by rw[s];exact λz=>(nomatch z)];exact s
   refine je1<|he c.wf.zd s0 s1 U λ{v Z6 W} gq rq=>?_;have y:=c.trans gq;have X:W a=some (.lst vs):=by rw[y.same a<|by rw[E];exact λz=>(nomatch z)];exact E
   have Y:vs.length<sizeLine:=by
    rw[I.length];exact Vh<|X5<|N9 r<|N9 O<|X7 hl
   have gA:Go g d [] Z6 W [a]:=g2.trans ⇑(y.frame (B:=[])<|by simpa using g2.wf);have w6:=gA.wf;have rr:=((y.reps g2.wf.zd I).append (.one rq)).frame (H':=upd W a<|.lst<|vs++[v]) (λ_ z=>z) (λx Z=>je λz=>w6.nz a L7<|z▸Z) (λx Z=>(nomatch Z));rw[cond_true] at A;exact⟨vs,X,Y,ks.length-(i+1),by lia,rfl,f,G,_,ys++[el J L n],vs++[v],r',gA.trans<|Go.put (o:=.lst<|vs++[v]) w6 L7,jl,by simpa using rr,e5,by rw[A];simp,by rw[N6];exact Nat.add_le_add_right r 1⟩
  | false=>
   refine jfL ?_;rw[cond_false] at A;exact⟨ks.length-(i+1),by lia,rfl,f,G,Z4,ys,vs,r',g2.trans<|by simpa using(c.frame (B:=[]) ⇑g2.wf),by rw[c.same a<|by rw[E];exact λz=>(nomatch z)];exact E,c.reps g2.wf.zd I,e5,A,Nat.le_succ_of_le r⟩
 ·left
  have hi2:i=ks.length:=by lia
  refine⟨⟨hJ,by rw[j];lia⟩,?_⟩;rw[hi2,List.drop_length,D,List.drop_length] at e3;cases e3;rw[N2] at A;subst A;exact k g2 E I
@[simp] def jeG(fe:FE)(q:KA->KA->Int->Option Bool)(el:KA->KA->Int->D)(ρ:Rh):Option (D×Rh):=(fe ρ).bind λt=>(je5 t.1).bind λp=>bif lim p.1.length then(VZ q el p.1 p.2).bind λr=>some (.lst true r,t.2) else none
def jc9{fe}(h:DE R ts fe)(C:SpT R tc q)(D:SpE R te el):DE R (Yu (jk8 ts) (jbS R.K 2<|k8 (vw 0)<|k8 (vw 1) jdv) tc te [none,none]) (jeG fe q el):=by
 intro σ ρ M Z H O d w s e Q k;refine ob e λt e5 e=>ob e λp E e=>oc e λi e=>ob e λall e7 e=>?_;cases e;obtain⟨x,N⟩:=t;obtain⟨n,l⟩:=p;cases Qg E;refine h w s e5 λ{v j g P m} A r s1=>?_;obtain⟨c,u,S,rfl,B,y,F,rfl⟩:=r;cases B.nil (Kb e7).1;refine⟨c,_,rfl,F,λo=>?_⟩;have w1:=A.wf;have G:Go j g ([c]++m) j (upd g c<|.frz o<|.dT<|(n.map<|List.map kaV).zip u) ([c]++m):=Go.put w1 (by simp);have nd:=w1.nd;simp only[List.singleton_append,List.nodup_cons] at nd;have g2:Go j g ([c]++m) j (upd g c<|.frz o<|.dT<|(n.map<|List.map kaV).zip u) m:=G.drop (λa h=>U5 _ h) nd.2;have nz:∀ b,j b->upd g c (.frz o<|.dT<|(n.map<|List.map kaV).zip u) b=g b:=λb f=>je λz=>w1.nz c (by simp)<|z▸f;have I:∀ b∈m,b≠c:=λb f z=>nd.1<|z▸f;exact jcx C D g2.wf.zd jl (B.frame (λ_ z=>z) nz λb f=>(nomatch f)) y i e7 λ{a T U vs} g3 J L=>(k (A.trans<|g2.trans<|g3.widen g2.wf) ⟨a,vs,[],rfl,L,J,rfl⟩<|g3.slots g2.wf.zd<|s1.frame (λ_ z=>z) nz λb f=>je<|I b f)
def jij:SpT R (VH<|tOp (rI0 λi j=>.bl<|decide<|j<i) (yf 1)<|tC<|.int 0) (λ_ _ n=>some<|decide<|0<n):=by
 intro σ Z H b a c n t Q z s0 s1 d e k;cases e;exact⟨.int n,s1,n,0,rfl,rfl,_,rfl,k<|Go.refl<|wf0 z⟩
def jkp:SpE R (jbh<|jW (tOp (rIx R.K) (yf 0)<|tC<|.int 0)<|jW (tOp (rIx R.K) (yf 0)<|tC<|.int 1)<|jW (yf 1) Yw) (λa b n=>.tup [kaD a,kaD b,.int n]):=by
 intro σ Z H b e f n Q z s0 s1 c k;refine⟨.ref b,s0,.inr<|.inl ⟨b,_,0,_,rfl,rfl,SqT.of c,rfl,⟨.ref b,s0,.inr<|.inl ⟨b,_,1,_,rfl,rfl,SqT.of c,rfl,?_⟩⟩⟩⟩;exact⟨.int n,s1,by show 3<=sizeLine;decide,λq d=>k (Go.newF (wf0 z) d)<|Rep.tupNew (wf0 z) d<|Reps.cons (Qz e)<|Reps.cons (Qz f)<|Reps.cons .int_mk .empty⟩
abbrev jb6:List (List KA)->List D->Option (List D):=VZ (λ_ _ n=>some<|decide<|0<n) λa b n=>.tup [kaD a,kaD b,.int n]
@[simp] def jp7(i:Nat)(ρ:Rh):Option (D×Rh):=jeG (dMv i) (λ_ _ n=>some<|decide<|0<n) (λa b n=>.tup [kaD a,kaD b,.int n]) ρ
end
noncomputable def jaY:List D->List D->List D->List D
 | a::l,b::m,c::n=>.tup [a,b,c]::jaY l m n
 | _,_,_=>[]
theorem KU:∀{ns}{l}{vs}{O},Reps R Z H l vs O->ns.length=l.length->JK ns l f=some d->Ex2 λv P=>An3 ((ns.zip vs).lookup f=some v) (Rep R Z H d v P)<|∀ q,P.count q<=O.count q
 | [],l,vs,O,_,_,h=>by cases l<;>cases h
 | n::ns,[],vs,O,_,a,_=>by simp at a
 | n::ns,x::l,vs,O,r,a,h=>by
  obtain⟨v,b,c,i,rfl,rfl,r1,r2⟩:=r;rw[JK] at h;by_cases e:f=n
  ·rw[if_pos e] at h;cases h;exact⟨v,c,by rw[U9,List.lookup_cons,e];simp,r1,λq=>by rw[X0];lia⟩
  ·rw[if_neg e] at h;obtain⟨w,P,g,e2,e3⟩:=KU r2 ⇑a h;refine⟨w,P,?_,e2,λq=>by have:=e3 q;rw[X0];lia⟩;rw[U9,List.lookup_cons,show(f==n)=false by simp[e]];exact g
theorem uD(j:f≠g):∀{ns}{l}{vs}{O},Reps R Z H l vs O->ns.length=l.length->JK ns l f=some d->JK ns l g=some c ->
  Ex4 λv P w Q=>An5 ((ns.zip vs).lookup f=some v) ((ns.zip vs).lookup g=some w) (Rep R Z H d v P) (Rep R Z H c w Q)<|∀ q,P.count q+Q.count q<=O.count q
 | [],l,vs,O,_,_,h,_=>by cases l<;>cases h
 | n::ns,[],vs,O,_,m,_,_=>by simp at m
 | n::ns,x::l,vs,O,r,m,h,k=>by
  obtain⟨v,s,p,u,rfl,rfl,r1,r2⟩:=r;rw[JK] at h k;by_cases e:f=n
  ·have i:g≠n:=λz=>j<|e.trans z.symm;rw[if_pos e] at h;rw[if_neg i] at k;cases h;obtain⟨w,Q,o,e2,e3⟩:=KU r2 ⇑m k;refine⟨v,p,w,Q,by rw[U9,List.lookup_cons,e];simp,?_,r1,e2,λq=>by have:=e3 q;rw[X0];lia⟩;rw[U9,List.lookup_cons,show(g==n)=false by simp[i]];exact o
  ·rw[if_neg e] at h;by_cases i:g=n
   ·rw[if_pos i] at k;cases k;obtain⟨w,Q,o,e2,e3⟩:=KU r2 ⇑m h;refine⟨w,Q,v,p,?_,by rw[U9,List.lookup_cons,i];simp,e2,r1,λq=>by have:=e3 q;rw[X0];lia⟩;rw[U9,List.lookup_cons,show(f==n)=false by simp[e]];exact o
   ·rw[if_neg i] at k;obtain⟨a,P,b,Q,o,e2,e3,t,e5⟩:=uD j r2 ⇑m h k;refine⟨a,P,b,Q,?_,?_,e3,t,λq=>by have:=e5 q;rw[X0];lia⟩
    ·rw[U9,List.lookup_cons,show(f==n)=false by simp[e]];exact o
    ·rw[U9,List.lookup_cons,show(g==n)=false by simp[i]];exact e2
@[simp] def jkT(i:Nat)(c:Nat)(f:Str)(g:Str)(pe:PF)(ρ:Rh):Option (D×Rh):=(pV i ρ).bind λt=>(xl t).bind λy=>bif y.1==c&&!decide (f=g) then(JK y.2.1 y.2.2 f).bind λa=>(JK y.2.1 y.2.2 g).bind λb=>(pe ρ).bind λr=>some (.tup [a,r,b],ρ.set i none) else none
def jlr(L:Cls R.K<|R.cls c)(Y:NoAttr R.K (R.cls c) f)(hg:NoAttr R.K (R.cls c) g)(he:PP R te pe):DE R (jbh<|jW (je0 R.K (yf i) f)<|jW te<|jW (je0 R.K (yf i) g) Yw) (jkT i c f g pe):=by
 intro σ ρ ρ' Z H O d w s e Q k;refine ob e λt e1 e=>ob e λ⟨c',ns,l⟩ e2 e=>oc e λE e=>ob e λa e3 e=>ob e λb e4 e=>ob e λr e5 e=>?_;cases e;cases JT e2;have M:=YR e1;rw[M0] at E;obtain rfl:c'=c:=by simpa using E.1
 have F:f≠g:=by simpa using E.2
 obtain⟨A,P,B,rfl,k1,_,k3⟩:=s.put (L9.mp M).1;obtain⟨v,N,rp⟩:=k1 _ M;obtain⟨x,S,vs,G,rfl,rs,I,T,rfl⟩:=rp;obtain⟨m,Pf,n,Pg,lf,lg,rf,rg,cn⟩:=uD F rs I e3 e4;refine⟨.ref x,N,x,_,S,_,m,rfl,T,L,Y,lf,(he w.zd s e5 λ{p o j D} u r1=>?_)⟩;refine⟨.ref x,N,x,_,S,_,n,rfl,u.at0 T,L,hg,lg,by show 3<=sizeLine;decide,λq U=>?_⟩;have J:=u.widen w;have gN:Go o j (D++(A++(x::G)++B)) (λy=>o y\/y=q) (upd j q<|.tup [m,p,n]) (D++(A++(x::G)++B)):=Go.newF J.wf U;have ne:∀ y,j y≠none->y≠q:=λy h e=>h<|e▸U;have zn:∀ y,o y->upd j q (.tup [m,p,n]) y=j y:=λy C=>je<|ne y<|J.wf.zd y C;have up:∀{d}{v}{V},Rep R o j d v V->Rep R (λy=>o y\/y=q) (upd j q<|.tup [m,p,n]) d v V:=λW=>W.frame (λ_ z=>.inl z) zn λy C=>je<|ne y<|W.dom y C;have s1:=(u.slots w.zd k3);have s2:Slots R (λy=>o y\/y=q) (upd j q<|.tup [m,p,n]) (ρ.set i none) σ (A++B):=s1.frame (λ_ z=>.inl z) zn λy C=>je<|ne y<|s1.dom y C;have X:∀ y,((Pf++(D++Pg))++(A++B)).count y<=(D++(A++(x::G)++B)).count y:=λy=>by
  have:=cn y;simp only[X0,List.count_cons];lia
 refine k ((J.trans gN).drop (jd5 X) (QX X gN.wf.nd)) ⟨q,[m,p,n],rfl,.inl ⟨.inr rfl,.inl jl⟩,?_⟩ s2;have:=Reps.cons (up<|u.rep w.zd rf)<|Reps.cons (up r1)<|Reps.one<|up<|u.rep w.zd rg;simpa using this
def jou{cl}{X}{e}{te}{pe}{pos p}{i k}{x f g}{m}{p2 b a}(n:Cls X.K<|cl k)(o:NoAttr X.K (cl k) f)(q:NoAttr X.K (cl k) g)(r:QB cl X (.Name x p) (yf i)<|pV i)(l:QP cl X e te pe)(c:QB cl X (.Name x p2) (yf i)<|pV i)
  (s:attributeBase (.Name x p) f X.env (eval (.Name x p) X.env)=eval (.Name x p) X.env:=by rfl) (d:attributeBase (.Name x p2) g X.env (eval (.Name x p2) X.env)=eval (.Name x p2) X.env:=by rfl)
  (t:starEach [.Attribute (.Name x p) f b,e,.Attribute (.Name x p2) g a] X.env=(false,eval (.Attribute (.Name x p) f b) X.env)::starEach [e,.Attribute (.Name x p2) g a] X.env:=by rfl)
  (h:starEach [e,.Attribute (.Name x p2) g a] X.env=(false,eval e X.env)::starEach [.Attribute (.Name x p2) g a] X.env:=by rfl)
  (j:starEach [.Attribute (.Name x p2) g a] X.env=(false,eval (.Attribute (.Name x p2) g a) X.env)::starEach [] X.env:=by rfl):
  QE cl X (.Tuple [.Attribute (.Name x p) f b,e,.Attribute (.Name x p2) g a] m pos) (jbh<|jW (je0 X.K (yf i) f)<|jW te<|jW (je0 X.K (yf i) g) Yw) (jkT i k f g pe):=
 ⟨JM<|jN (jak r.sem s) (jN l.sem (jN (jak c.sem d) kg j) h) t,jlr n o q l.den⟩
end QD
namespace QD
open PySem L2
def jnJ(B:BlockOk X scope N' [none,none])(e:X.calm=true)(f:QB cl X (.Name x p) (yf i)<|pV i)
  (h:∀ C s H fp,QG cl [] (jI X scope N' C s H fp) (.Tuple elts m tpos) (jbS X.K 2<|k8 (vw 0)<|k8 (vw 1) jdv) g)
  (d:∀ C s H fp,QT cl (jI X scope N' C s H fp) c (VH<|tOp (rI0 λi j=>.bl<|decide<|j<i) (yf 1)<|tC<|.int 0) q)
  (k:∀ C s H fp,QP cl (jI X scope N' C s H fp) elt (jbh<|jW (tOp (rIx X.K) (yf 0)<|tC<|.int 0)<|jW (tOp (rIx X.K) (yf 0)<|tC<|.int 1)<|jW (yf 1) Yw) pe)
  (a:attributeBase (.Name x p) "items" X.env (eval (.Name x p) X.env)=eval (.Name x p) X.env:=by rfl) (b:(apos.endLine==cpos.line)=true:=by rfl)
  (l:∀ z,foldedSetIterable (.Call (.Attribute (.Name x p) "items" apos) [] [] cpos) X.env z=pure z:=by intro _;rfl):
  QE cl X (.ListComp elt [⟨.Tuple elts m tpos,.Call (.Attribute (.Name x p) "items" apos) [] [] cpos,[c],0⟩] scope pos)
   (Yu (jk8<|yf i) (jbS X.K 2<|k8 (vw 0)<|k8 (vw 1) jdv) (VH<|tOp (rI0 λi j=>.bl<|decide<|j<i) (yf 1)<|tC<|.int 0) (jbh<|jW (tOp (rIx X.K) (yf 0)<|tC<|.int 0)<|jW (tOp (rIx X.K) (yf 0)<|tC<|.int 1)<|jW (yf 1) Yw) [none,none]) (jp7 i):=
 ⟨wQ B e (jhQ f.sem a b) (λC s H fp=>(h C s H fp).sem) (λC s H fp=>.inr ⟨c,rfl,(d C s H fp).sem⟩) (λC s H fp=>(k C s H fp).sem) l,jc9 jnp (@jij _)<|@jkp _⟩
end QD
namespace L2
open PySem PySem.Spec PyProof.Rows
end L2
namespace QD
open PySem L2 PySem.Spec PyProof.Rows
mutual
noncomputable def pln:D->Bool
 | .tup l=>joc l
 | .non=>true | .bl _=>true | .int _=>true | .str _=>true
 | .lst _ _=>false | .dK _ _ _=>false | .dT _ _ _=>false | .ins _ _ _ _=>false | .dead=>false | .tok _=>false | .kt _=>false | .exc _ _=>false
noncomputable def joc:List D->Bool
 | []=>true
 | d::l=>pln d&&joc l
end
mutual
theorem Rep.cutA{a:Addr}(ha:∀ vs,¬ Rd H a (.tup vs))(hH:∀ b,b≠a->H' b=H b):∀{d:D}{v:V}{O:W5},pln d=true->Rep R Z H d v O->Rep R (λb=>Z b/\b≠a) H' d v O
 | .non,_,_,_,r=>by rw[Rep] at r ⊢;exact r
 | .bl _,_,_,_,r=>by rw[Rep] at r ⊢;exact r
 | .int _,_,_,_,r=>by rw[Rep] at r ⊢;exact r
 | .str _,_,_,_,r=>by rw[Rep] at r ⊢;exact r
 | .tup l,_,_,h,r=>by
  rw[pln] at h;rw[Rep] at r ⊢;obtain⟨p,vs,e,t,r⟩:=r;refine⟨p,vs,e,?_,Reps.cutA ha hH h r⟩;rcases t with⟨z,t⟩ | t
  ·have ne:p≠a:=λq=>ha vs<|q▸t;exact .inl ⟨⟨z,ne⟩,Rd.agree (hH p ne) t⟩
  ·exact .inr t
 | .lst _ _,_,_,h,_=>by rw[pln] at h;cases h
 | .dK _ _ _,_,_,h,_=>by rw[pln] at h;cases h
 | .dT _ _ _,_,_,h,_=>by rw[pln] at h;cases h
 | .ins _ _ _ _,_,_,h,_=>by rw[pln] at h;cases h
 | .dead,_,_,h,_=>by rw[pln] at h;cases h
 | .tok _,_,_,h,_=>by rw[pln] at h;cases h
 | .kt _,_,_,h,_=>by rw[pln] at h;cases h
 | .exc _ _,_,_,h,_=>by rw[pln] at h;cases h
theorem Reps.cutA{a:Addr}(ha:∀ vs,¬ Rd H a (.tup vs))(hH:∀ b,b≠a->H' b=H b):∀{l:List D}{vs:List V}{O:W5},joc l=true->Reps R Z H l vs O->Reps R (λb=>Z b/\b≠a) H' l vs O
 | [],_,_,_,r=>by rw[Reps] at r ⊢;exact r
 | d::l,_,_,h,r=>by
  rw[joc,M0] at h;rw[Reps] at r ⊢;obtain⟨v,vs',O1,O2,e1,e2,r1,r2⟩:=r;exact⟨v,vs',O1,O2,e1,e2,Rep.cutA ha hH h.1 r1,Reps.cutA ha hH h.2 r2⟩
end
def jp3(K:W4)(mg:W6)(x:Str)(st:Stmt)(ps:List Str):Prop:=∃ f fd,FnFact K mg x x st f fd ps
def jp8(K:W4)(C:Addr)(x qual:Str)(st:Stmt)(ps:List Str):Prop:=∃ f fd,MtFact K C x qual st f fd ps
section
variable {K:W4}{mg:W6}{h:Heap}{x qual:Str}{st:Stmt}{ps:List Str}{a C:Addr}{od an:Option Addr}{sl:Array (Option Value)}{oc kV dc pm cd ct:Value}
def hasF(X:K.In h)(G:h.Ns mainGlobals mg)(c:PySem.W.nsIn K mainGlobals x=some (some<|.ref a))(e2:K.lookup a=some ⟨oc,od,.func<|PySem.W.fnOf x x (qA st) (vT st) (jD st) .none kV dc pm an cd ct,sl⟩)(e3:PySem.W.codeIn K cd x=true)(b:PySem.W.keepIn K (.ref a)=true)
  (d:∀ kV doc pm an cdv ct us,us.length=ps.length->bindArgs (PySem.W.fnOf x x (qA st) (vT st) (jD st) .none kV doc pm an cdv ct) ⟨us,[]⟩=pure (ps.zip us)):jp3 K mg x st ps:=⟨_,_,jay e2 e3 b,PySem.W.mg_of X G c,(jay e2 e3 b).binds d⟩
def hasM(c:PySem.W.findIn K (.ref C) x=some (some<|.ref a))(e5:PySem.W.isFn K (.ref a)=true)(e2:K.lookup a=some ⟨oc,od,.func<|PySem.W.fnOf x qual (qA st) (vT st) (jD st) .none kV dc pm an cd ct,sl⟩)(e3:PySem.W.codeIn K cd qual=true)(b:PySem.W.keepIn K (.ref a)=true)
  (d:∀ kV doc pm an cdv ct us,us.length=ps.length->bindArgs (PySem.W.fnOf x qual (qA st) (vT st) (jD st) .none kV doc pm an cdv ct) ⟨us,[]⟩=pure (ps.zip us)):jp8 K C x qual st ps:=⟨_,_,jay e2 e3 b,⟨c,e5,b⟩,(jay e2 e3 b).binds d⟩
end
def fsc{N ps}{h}(a:h.kind=.function:=by rfl)(b:h.isCoroutine=false:=by rfl)(c:h.isGenerator=false:=by rfl)(d:N.Nodup:=by decide +kernel)(e:N.take ps.length=ps:=by rfl)
  (f:∀ x∈ps,h.names.lookup x=some .local\/h.names.lookup x=some .cell:=by decide +kernel) (g:∀ y∈h.names,y.2≠.free:=by decide +kernel):FnScope N ps h:=⟨a,b,c,d,e,f,g⟩
def jgP(K:W4)(mg:W6)(x:Str)(st:Stmt)(N:List Str)(n:Nat):Prop:=FnScope N (N.take n) (jD st)/\jp3 K mg x st (N.take n)
def jlC(K:W4)(C:Addr)(x qual:Str)(st:Stmt)(N:List Str)(n:Nat):Prop:=FnScope N (N.take n) (jD st)/\jp8 K C x qual st (N.take n)
section
variable (P:Program)(w:World)(cl:Nat->Addr){K:W4}{mg:W6}{C:Addr}{x qual:Str}{st:Stmt}{N:List Str}{n:Nat}
abbrev NP(_:jgP K mg x st N n)(k:Nat)(m:List D->Option D):Prop:=OkF P w K mg x st k (N.take n)<|spP ⟨K,cl⟩ m n
abbrev NM(_:jgP K mg x st N n)(k:Nat)(m:List D->Option (D×D)):Prop:=OkF P w K mg x st k (N.take n)<|spM ⟨K,cl⟩ m n 0
abbrev OP(mg:W6)(_:jlC K C x qual st N n)(k:Nat)(m:List D->Option D):Prop:=OkM P w K mg C x qual st k (N.take n)<|spP ⟨K,cl⟩ m n
abbrev OM(mg:W6)(_:jlC K C x qual st N n)(k:Nat)(m:List D->Option (D×D)):Prop:=OkM P w K mg C x qual st k (N.take n)<|spM ⟨K,cl⟩ m n 0
end
section
variable {P:Program}{w:World}{k:Nat}{sp:Sp}{K:W4}{mg:W6}{C:Addr}{x qual:Str}{st:Stmt}{N:List Str}{n:Nat}
def okN(h:jgP K mg x st N n)(g:∀ f fd,FnScope N (N.take n) (jD st)->FnFact K mg x x st f fd (N.take n)->∀ base,FnOk P w K mg base CX0 k f fd (N.take n) sp):OkF P w K mg x st k (N.take n) sp:=by
 obtain⟨S,f,fd,F⟩:=h;exact⟨f,fd,F,g f fd S F⟩
def okO(h:jlC K C x qual st N n)(g:∀ f fd,FnScope N (N.take n) (jD st)->MtFact K C x qual st f fd (N.take n)->∀ base,FnOk P w K mg base CX0 k f fd (N.take n) sp):OkM P w K mg C x qual st k (N.take n) sp:=by
 obtain⟨S,f,fd,F⟩:=h;exact⟨f,fd,F,g f fd S F⟩
end
def u0{α:Type}{P:List α->Prop}(h:P []):∀ us:List α,us.length=0->P us
 | [],_=>h
def uS{α:Type}{P:List α->Prop}{n}(h:∀ a,∀ us:List α,us.length=n->P (a::us)):∀ us:List α,us.length=n+1->P us
 | a::us,e=>h a us<|Nat.succ.inj e
def jgt{a b}(h:a)(k:a->b):a/\b:=⟨h,k h⟩
section
variable {cl:Nat->Addr}{X:Cx}{pos:Pos}{x:Str}{scope:Scope}{N':List Str}{i:Nat}
def qS{j}{l}(h:x=S l:=by decide +kernel):QP cl X (.Constant (.str x) j pos) (tC<|.str x) (pS l):=jph l h
def qI{i}{j}:QB cl X (.Constant (.int i) j pos) (tC<|.int i) (pI i):=QP.bb jmD
end
end QD
namespace L2
open PySem PySem.Spec PyProof.Rows
end L2
namespace QD
open PySem L2 PySem.Spec PyProof.Rows
noncomputable def blN(N:List Str):List (Option Nat)->List Str->List Str
 | [],_=>[]
 | none::l,xs=>xs.headD ""::blN N l xs.tail
 | some j::l,xs=>N.getD j ""::blN N l xs
noncomputable def jn9(sc:Scope):List Str:=(sc.names.filter λy=>decide (y.2=.local)||decide (y.2=.cell)).tail.map (·.1)
def bkN(_:FnScope N ps sc)  (h1:X.env.scope=sc:=by rfl) (h2:X.N=N:=by rfl) (h:J7 sc N scope (blN N ix<|jn9 scope) ix=true:=by decide +kernel):BlockOk X scope (blN N ix<|jn9 scope) ix:=jd6 sc N h1 h2 h
def jpC{p:PAf}{n}(h:∀ ρ ds,p ρ=some ds->ds.length=n):∀ ρ ds,p ρ=some ds->ds.length+1=n+1:=λρ ds e=>by rw[h ρ ds e]
def ndN(h:N'.Nodup):(jI X scope N' C s H fp).N.Nodup:=h
section
open Classical in
end
def okR{P:Program}{w:World}{K:W4}{mg:W6}{cl:Nat->Addr}{x:Str}{st:Stmt}{N:List Str}{n:Nat}{r:Nat->List D->Option D}(h:jgP K mg x st N n)(a:∀ ds,r 0 ds=none)
  (g:∀ j f fd,FnScope N (N.take n) (jD st)->FnFact K mg x x st f fd (N.take n)->OkF P w K mg x st j (N.take n) (spP ⟨K,cl⟩ (r j) n)->∀ base,FnOk P w K mg base CX0 (j+1) f fd (N.take n)<|spP ⟨K,cl⟩ (r<|j+1) n) (k:Nat):OkF P w K mg x st k (N.take n) (spP ⟨K,cl⟩ (r k) n):=by
 obtain⟨S,f,fd,F⟩:=h;refine⟨f,fd,F,?_⟩
 induction k with
 | zero=>exact λbase=>by rw[show r 0=λ_=>none from funext a];exact jka
 | succ j b=>exact g j f fd S F ⟨f,fd,F,b⟩
end QD
namespace QD
open PySem L2
def jgb(hK:X.K=K)(O:OkF X.prog X.w X.K X.mg x st k ps<|spM ⟨X.K,cl⟩ m n j)(c:Room k X.A)
  (d:QJ cl X i j (e::es) tr pr) (f:(e::es).length=n:=by rfl) (g:Gl X x:=by rfl) (a:Nd x:=by decide)
  (h:SEq X e es:=by rfl) (b:BkE X pos es:=by rfl):QE cl X (.Call (.Name x p) (e::es) [] pos) (qP (spM ⟨K,cl⟩ m n j) [] E0 tr) (yc m i j pr):=by
 subst hK;obtain⟨_,_,F,G⟩:=O;exact jkA F (G _) c d f g a h b
abbrev NJ(P:Program)(w:World)(cl:Nat->Addr){K}{mg}{x}{st}{N}{n}(_:jgP K mg x st N n)(k:Nat)(j:Nat)(m:List D->Option (D×D)):Prop:=OkF P w K mg x st k (N.take n)<|spM ⟨K,cl⟩ m n j
noncomputable def jn7:D->Option (List KA)
 | .kt k=>some k
 | _=>none
def jcp(h:jn7 d=some k):d=.kt k:=by
 cases d with
 | kt b=>cases h;rfl
 | _=>cases h
@[simp] def ktOf_kt(k):jn7 (.kt k)=some k:=rfl
@[simp] def pKt(i:Nat)(ρ:Rh):Option (List KA):=(pV i ρ).bind jn7
def jke:jkQ R (yf i) (pKt i):=by
 intro σ ρ Z H O k z s e Q go;refine ob e λd b e=>?_;cases jcp e;refine jhp z s b λ{v g h j} c r1=>?_;obtain⟨a,rfl,za,f,_⟩:=r1;exact go c za f
def jqx(a:PB R ta pa)(b:PB R tb pb):jkQ R (jdn ta tb) (jfP pa pb):=by
 intro σ ρ Z H O k z s e Q go;exact JS a b z s e go
@[simp] def jol(pk:Rh->Option (List KA))(ρ:Rh):Option (D×Rh):=(pk ρ).bind λk=>some (.kt k,ρ)
def jmm(b:jkQ R tk pk):DE R tk (jol pk):=by
 intro σ ρ i Z H O d w s e Q k;refine ob e λc f e=>?_;cases e;refine b w.zd s f λ{p j l} a g h=>?_;exact k (a.widen w) (by rw[Rep];exact⟨p,rfl,g,h,rfl⟩)<|a.slots w.zd s
def jcQ(l:List D):Option D:=(je2 l).bind λx=>(jeN x).bind λl=>(xQ l).bind λns=>some<|.int ns.sum
def uj:BC R (λxs H Q=>∃(p:Addr) (ns:List Int),xs=[.ref p]/\SqT R.K H p (ns.map V.int)/\Q (.int ns.sum) H) jcQ:=by
 intro Z H xs d vs O z r e Q k;refine ob e λx a e=>ob e λl b e=>ob e λns c e=>?_;cases e;cases Qm b;rw[kE a] at r;obtain⟨v,rfl,r1⟩:=r.one_of;obtain⟨p,ws,rfl,f,g⟩:=r1;have:=g.ints c;subst this;exact⟨p,ns,rfl,f.sq,k (Go.id z) .int_mk⟩
def jl4(a:QB cl X (.Name x pos) (yf i)<|pV i):QK3 cl X (.Name x pos) (yf i) (pKt i):=⟨a.sem,jke⟩
def qk2{e}(c:QB cl X a ta pa)(d:QB cl X b tb pb)(h1:starEach [a,b] X.env=(false,eval a X.env)::starEach [b] X.env:=by rfl)(h2:starEach [b] X.env=(false,eval b X.env)::starEach [] X.env:=by rfl):
  QK3 cl X (.Tuple [a,b] e tpos) (jdn ta tb) (jfP pa pb):=⟨JM<|jN c.sem (jN d.sem kg h2) h1,jqx c.den d.den⟩
def jfi(hK:X.K=K)(O:OkF X.prog X.w X.K X.mg x st k ps<|spP ⟨X.K,cl⟩ m n)(b:Room k X.A)(c:0=n:=by rfl)(d:Gl X x:=by rfl)(a:Nd x:=by decide):QP cl X (.Call (.Name x p) [] [] pos) (qP (spP ⟨K,cl⟩ m n) [] E0 Yw) (jv m pN):=by
 subst hK;obtain⟨_,_,F,G⟩:=O;exact jku F (G _) b c d a
def jgY(hK:X.K=K)(O:OkF X.prog X.w X.K X.mg x st k ps<|spP ⟨X.K,cl⟩ m n)(c:Room k X.A)
  (d:QDs cl X (e::es) tr fr) (f:∀ ρ r,fr ρ=some r->r.1.length=n) (g:Gl X x:=by rfl) (a:Nd x:=by decide)
  (h:SEq X e es:=by rfl) (b:BkE X pos es:=by rfl):QE cl X (.Call (.Name x p) (e::es) [] pos) (qP (spP ⟨K,cl⟩ m n) [] E0 tr) (vW m fr):=by
 subst hK;obtain⟨_,_,F,G⟩:=O;exact jh9 rfl F (G _) c d f g a h b
def jlL(h:QK3 cl X e tk pk):QE cl X e tk (jol pk):=⟨h.sem,jmm h.den⟩
end QD
namespace QD
open PySem L2 PySem.Spec PyProof.Rows
noncomputable def sqD:D->Option (Bool×List D)
 | .lst _ l=>some (true,l)
 | .tup l=>some (false,l)
 | _=>none
def jiM:List D->Option (List<|Bool×List D)
 | []=>some []
 | d::ds=>(sqD d).bind λx=>(jiM ds).bind λxs=>some<|x::xs
def FB(R:RC)(Z:Zn)(H:Hp)(a:Addr):Bool->List V->Prop
 | true,w=>FL R Z H a w
 | false,w=>FT R Z H a w
def FB.frame(b:∀ a,Z a->Z' a)(c:∀ a,Z a->H' a=H a)(h:FB R Z H a k w):FB R Z' H' a k w:=by
 cases k with
 | true=>exact FL.frame b c h
 | false=>exact FT.frame b c h
def FB.sq(h:FB R Z H a k w):SqB R.K H a k w:=by
 cases k with
 | true=>exact FL.sq h
 | false=>exact FT.sq h
def jjx(e:sqD d=some x)(r:Rep R Z H (fz d) v []):Ex2 λa w=>An3 (v=.ref a) (FB R Z H a x.1 w) (Reps R Z H (fzs x.2) w []):=by
 cases d with
 | lst o l=>
  cases e;obtain⟨a,w,g,rfl,b,c,rfl,_⟩:=r;exact⟨a,w,rfl,c,b⟩
 | tup l=>
  cases e;obtain⟨a,w,rfl,f,b⟩:=r;exact⟨a,w,rfl,f,b⟩
 | _=>cases e
structure Zr where
 a:Addr
 k:Bool
 w:List V
 l:List D
theorem jaS:∀{ds}{xs}{vs},jiM ds=some xs->Reps R Z H (fzs ds) vs []->∃(zs:List Zr),An3 (zs.map (λz=>(z.k,z.l))=xs) (vs=zs.map (λz=>.ref z.a))<|∀ z∈zs,FB R Z H z.a z.k z.w/\Reps R Z H (fzs z.l) z.w []
 | [],xs,vs,e,r=>by
  cases e;exact⟨[],rfl,r.1,by simp⟩
 | d::ds,xs,vs,e,r=>by
  refine ob e λx b e=>ob e λn e2 e=>?_;cases e;obtain⟨v,c,o,p,rfl,f,r1,r2⟩:=r;obtain⟨rfl,rfl⟩:=List.append_eq_nil_iff.mp f.symm;obtain⟨a,w,rfl,g,h⟩:=jjx b r1;obtain⟨zs,i,rfl,j⟩:=jaS e2 r2;exact⟨⟨a,x.1,w,x.2⟩::zs,by rw[L5,i],rfl,λz m=>(M5.mp m).elim (λq=>by rw[q];exact⟨g,h⟩) (j z)⟩
theorem jaK:∀{zs:List Zr}{us},us.length=zs.length->(∀(m:Nat) q,zs[m]?=some q->∃ u,us[m]?=some u/\Rep R Z H (g q) u [])->Reps R Z H (zs.map g) us []
 | [],[],_,_=>Reps.empty
 | [],_::_,h,_=>by simp at h
 | _::_,[],h,_=>by simp at h
 | q::zs,u::us,h,k=>by
  obtain⟨a,e,r⟩:=k 0 q rfl;cases e;exact Reps.cons r (jaK ⇑h λm q e=>by have:=k (m+1) q ⇑e;simpa using this)
noncomputable def jon(ls:List<|List D)(i:Nat):D:=.tup<|ls.map λl=>l.getD i .non
def jfS(m:Nat)(ds:List D):Option (List D):=(jiM ds).bind λxs=>bif decide (xs.length=m)&&(decide (0<m)&&xs.all λx=>decide<|(xs.headD (true,[])).2.length<=x.2.length) then some ((List.range (xs.headD (true,[])).2.length).map (jon<|xs.map λx=>fzs x.2)) else none
@[simp] def pZN(m:Nat)(p:PAf)(ρ:Rh):Option (List D):=(p ρ).bind (jfS m)
def jg5(h:PPs R ta p):PIt R (iZN R.K m ta) (pZN m p):=by
 intro σ ρ Z H O W z s e Q k;refine ob e λX F e=>ob e λg e2 e=>oc e λj e=>?_;cases e;rw[M0,M0,List.all_eq_true] at j;have Y:=X7 j.2.1;refine h z s F λ{vs G H1 I} J r1=>?_;obtain⟨zs,n,rfl,r⟩:=jaS e2<|r1.freeze (Z':=λa=>G a\/a∈I) (λa z=>.inl z) λa z=>.inr z;have A:zs.length=g.length:=by rw[<- n,L1]
 refine⟨zs.map λz=>(z.a,z.k),by rw[L1,A,X7 j.1],by rw[U3];rfl,λa d=>?_,k J.fz ?_⟩
 ·obtain⟨q,b,rfl⟩:=M7.mp d;exact⟨q.w,(r q b).1.sq⟩
 intro B t f C zd i;have fr:∀ q∈zs,SqB R.K t q.a q.k q.w/\Reps R B t (fzs q.l) q.w []:=λq b=>⟨((r q b).1.frame f C).sq,(r q b).2.frame f C λa d=>(nomatch d)⟩;refine⟨λhi=>?_,λx o=>?_⟩
 ·cases zs with
  | nil=>simp at A;lia
  | cons q zs=>
   refine⟨_,_,q.w,rfl,(fr q<|by simp).1,?_⟩;rw[L1,List.length_range] at hi;rw[(fr q<|by simp).2.length,vX];rw[<- n] at hi;exact hi
 ·rw[List.getElem?_map] at o;obtain⟨c,D,rfl⟩:=Option.map_eq_some_iff.mp o;have L:i<(g.headD (true,[])).2.length:=by have:=(L9.mp D).1;simpa using this
  have:c=i:=by have:=(L9.mp D).2;simpa using this.symm
  subst this;have get:∀ q∈zs,∃ u,q.w[c]?=some u/\Rep R B t ((fzs q.l).getD c .non) u []:=λq b=>by
   have l1:c<(fzs q.l).length:=by
    rw[vX];have:(g.headD (true,[])).2.length<=q.l.length:=(λx o=>X7<|j.2.2 x o) (q.k,q.l) (by rw[<- n];exact M7.mpr ⟨q,b,rfl⟩)
    lia
   have e3:(fzs q.l)[c]?=some ((fzs q.l).getD c .non):=by rw[List.getD_eq_getElem?_getD,E1 l1];rfl
   exact(fr q b).2.item e3
  refine⟨λa d=>?_,λu H3 M=>?_⟩
  ·obtain⟨q,b,rfl⟩:=M7.mp d;obtain⟨u,v,_⟩:=get q b;exact⟨q.w,u,(fr q b).1,v⟩
  ·obtain⟨pp,us,N,v,rfl,E,rfl⟩:=M;refine⟨_,Go.newF (wf0 zd) E,Rep.tupNew (wf0 zd) E ?_⟩;have P:(g.map λx=>fzs x.2).map (λl=>l.getD c .non)=zs.map λq=>(fzs q.l).getD c .non:=by rw[<- n,U3,U3];rfl
   rw[P];refine jaK (by rw[N,L1]) λm q y=>?_;obtain⟨u,S,T⟩:=v m (q.a,q.k) (by rw[List.getElem?_map,y];rfl) q.w (fr q<|List.mem_of_getElem? y).1;obtain⟨u',U,V⟩:=get q<|List.mem_of_getElem? y;cases T.symm.trans U;exact⟨u,S,V⟩
def jlq(d:X.mg "zip" = none)(h:QPs cl X [a,b] tr pr)(e:Gl X "zip":=by rfl)(f:starEach [a,b] X.env=[(false,eval a X.env),(false,eval b X.env)]:=by rfl)(c:starEach [b] X.env=[(false,eval b X.env)]:=by rfl):
  QI cl X (.Tuple elts n tpos) (.Call (.Name "zip" p) [a,b] [] pos) (iZN X.K 2 tr) (pZN 2 pr):=⟨jns e d h.sem f c,jg5 h.den⟩
def jnj(e:X.mg "zip" = none)(h:QPs cl X [a,b,c] tr pr)(f:Gl X "zip":=by rfl)(g:starEach [a,b,c] X.env=[(false,eval a X.env),(false,eval b X.env),(false,eval c X.env)]:=by rfl)(d:starEach [b,c] X.env=[(false,eval b X.env),(false,eval c X.env)]:=by rfl):
  QI cl X (.Tuple elts n tpos) (.Call (.Name "zip" p) [a,b,c] [] pos) (iZN X.K 3 tr) (pZN 3 pr):=⟨jla f e h.sem g d,jg5 h.den⟩
end QD
namespace QD
open PySem L2
theorem jaH:∀{l m},l.length<=m.length->(List.range l.length).map (jon [l,m])=jdV l m
 | [],m,_=>by cases m<;>rfl
 | a::l,[],h=>by simp at h
 | a::l,b::m,h=>by
  rw[M3,List.range_succ_eq_map,L5,U3,jdV,<- jaH ⇑h];rfl
def jo7(h1:sqD d=some (k,l))(h2:sqD e=some (k',m))(h:l.length<=m.length):jfS 2 [d,e]=some (jdV (fzs l)<|fzs m):=by
 have a:jiM [d,e]=some [(k,l),(k',m)]:=by simp[jiM,h1,h2]
 have e2:=jaH (l:=fzs l) (m:=fzs m) (by rw[vX,vX];exact h);rw[vX] at e2;unfold jfS;rw[a,L4,<- e2];simp[h]
theorem zL:∀{l m n},l.length<=m.length->l.length<=n.length->(List.range l.length).map (jon [l,m,n])=jaY l m n
 | [],m,n,_,_=>by cases m<;>cases n<;>rfl
 | a::l,[],_,h,_=>by simp at h
 | a::l,b::m,[],_,h=>by simp at h
 | a::l,b::m,c::n,h,d=>by
  rw[M3,List.range_succ_eq_map,L5,U3,jaY,<- zL ⇑h ⇑d];rfl
def jqF(h1:sqD d=some (k,l))(h2:sqD e=some (k',m))(a:sqD f=some (k2,n))(h:l.length<=m.length)(h':l.length<=n.length):jfS 3 [d,e,f]=some (jaY (fzs l) (fzs m)<|fzs n):=by
 have b:jiM [d,e,f]=some [(k,l),(k',m),(k2,n)]:=by simp[jiM,h1,h2,a]
 have e2:=zL (l:=fzs l) (m:=fzs m) (n:=fzs n) (by rw[vX,vX];exact h) (by rw[vX,vX];exact h');rw[vX] at e2;unfold jfS;rw[b,L4,<- e2];simp[h,h']
end QD
namespace QD
open PySem L2 PySem.Spec PyProof.Rows
section
variable {R:RC}{Z Z':Zn}{H H':Hp}
def jqI(d:D):Option (List KA×D):=(jeN d).bind λl=>(two1 l).bind λp=>(jn7 p.1).bind λk=>bif frz p.2 then some (k,p.2) else none
def wN:List D->Option (List<|List KA×D)
 | []=>some []
 | d::l=>(jqI d).bind λp=>(wN l).bind λr=>some<|p::r
def uK(ds:List D):Option D:=(je2 ds).bind λd=>(jko d).bind λl=>(wN l).bind λps=>bif lim l.length then some (.dT true (jch ps).1 (jch ps).2) else none
structure KvA(R:RC)(Z:Zn)(H:Hp)(ys:List<|List KA×D)(vs:List V)(ps:List<|List Key×Addr×V):Prop where
 l:vs.length=ps.length
 i:∀(j:Nat) (v:V),vs[j]?=some v->∃ kv t,ps[j]?=some kv/\v=.ref t/\SqT R.K H t [.ref kv.2.1,kv.2.2]/\H kv.2.1=some (.tup<|kv.1.map kV)
 k:ps.map (·.1)=ys.map λy=>y.1.map kaV
 r:Reps R Z H (ys.map (·.2)) (ps.map (·.2.2)) []
def kva:∀{l:List D}{ys:List (List KA×D)}{vs:List V}{O:W5},wN l=some ys->Reps R Z H l vs O->∃ ps,KvA R Z H ys vs ps:=by
 intro l
 induction l with
 | nil=>
  intro ys vs O e r;cases e;rw[Reps] at r;obtain⟨rfl,_⟩:=r;exact⟨[],rfl,λj v h=>by simp at h,rfl,Reps.empty⟩
 | cons d l o=>
  intro ys vs O e r;rw[wN] at e;refine ob e λp c e=>ob e λs e2 e=>?_;cases e;refine ob c λt e3 c=>ob c λq x c=>ob c λk e5 c=>oc c λy c=>?_;cases c;rw[Reps] at r;obtain⟨v,z,F,G,rfl,_,r1,r2⟩:=r;obtain⟨ps,h⟩:=o e2 r2;rw[Qm e3,two1_of x,jcp e5,Rep] at r1;obtain⟨a,ws,rfl,A,f⟩:=r1;rw[Reps] at f;obtain⟨w,B,I,J,rfl,_,g,f⟩:=f;rw[Rep] at g;obtain⟨b,rfl,_,C,_⟩:=g;rw[Reps] at f;obtain⟨u,E,K,L,rfl,_,m,f⟩:=f;rw[Reps] at f;obtain⟨rfl,_⟩:=f;cases m.nil y;refine⟨(k.map kaV,b,u)::ps,by simp[h.l],λj v n=>?_,by simp[h.k],Reps.cons (O:=[]) (P:=[]) m h.r⟩;cases j with
  | zero=>cases n;exact⟨_,a,rfl,rfl,A.sq,C⟩
  | succ j=>exact h.i j v n
def jf5:BC R (wF R.K) uK:=by
 intro Z H A d vs O z r e Q k;refine ob e λx q e=>ob e λl e2 e=>ob e λs e3 e=>oc e λt e=>?_;cases e;rw[kE q] at r;obtain⟨o,rfl⟩:=VJ e2;obtain⟨v,rfl,r1⟩:=r.one_of;obtain⟨p,g,B,rfl,u,j⟩:=r1.lst_of;obtain⟨m,h⟩:=kva e3 j;obtain⟨c,w,y,f⟩:=zI (ps:=s) (ks:=[]) (l:=[]) (us:=[]) h.k h.r .empty rfl;refine⟨p,g,m,rfl,u.sq,h.l,?_,h.i,λD n=>?_⟩
 ·rw[<- h.l,j.length];exact X7 t
 ·refine k (Go.newO (wf0 z) n) ?_;rw[Rep];refine⟨D,c,[],rfl,w.frame (λa z=>z) (λb h=>je<|by rintro rfl;exact z _ h n)<|λa h=>(nomatch h),f,?_,rfl⟩;rw[jl];exact congrArg (λx=>some<|HO.dT x) y.symm
@[simp] def pKy(pa pb:PF)(ρ:Rh):Option D:=(jfP pa pb ρ).bind λk=>some<|.kt k
def jpU{ta tb:TE}{pa pb:PF}(a:PB R ta pa)(b:PB R tb pb):PP R (jdn ta tb) (pKy pa pb):=by
 intro σ ρ Z H O d z s e Q k;refine ob e λc f e=>?_;cases e;exact JS a b z s f λg h i=>k g (by rw[Rep];exact⟨_,rfl,h,i,rfl⟩)
end
section
variable {cl:Nat->Addr}{X:Cx}{a b e:Expr}{ta tb:TE}{pa pb:PF}{tr:TA}{pr:PAf}{pos:Pos}
def jqm{e}{tpos:Pos}(c:QB cl X a ta pa)(d:QB cl X b tb pb)(h1:starEach [a,b] X.env=(false,eval a X.env)::starEach [b] X.env:=by rfl)(h2:starEach [b] X.env=(false,eval b X.env)::starEach [] X.env:=by rfl):
  QP cl X (.Tuple [a,b] e tpos) (jdn ta tb) (pKy pa pb):=⟨JM<|jN c.sem (jN d.sem kg h2) h1,jpU (R:=⟨X.K,cl⟩) c.den d.den⟩
def jiR{k:Nat}{p:Pos}(c:Room k X.A)(d:X.calm=true)(f:X.mg "dict" = none)(g:bootBuiltins "dict" = some (.type "dict"))(b:QBs cl X [e] tr pr)(h:Gl X "dict":=by rfl)
  (i:starEach [e] X.env=(false,eval e X.env)::starEach [] X.env:=by rfl) (a:(backTo pos<|starEach [] X.env).any (·.1)=false:=by rfl):
  QP cl X (.Call (.Name "dict" p) [e] [] pos) (tCB (wF X.K) tr) (pCB uK pr):=⟨z4 (r:=wF X.K) (wt d<|by have:=c.un;omega) h f g b.sem (by decide) (by decide) i a,jkb jf5 b.den⟩
end
section
variable {R:RC}{tc:TT}{te ts:TE}{q:KA->KA->Int->Option Bool}{el:KA->KA->Int->D}
def jnO{v c f h}(i:∀ Z H,Rep R Z H c v [])(j:BO R f h):SpT R (VH<|tOp f (tOp (rIx R.K) (yf 0)<|tC<|.int 0)<|tC v) (λa _ _=>(h (kaD a) c).bind jbR):=by
 intro σ Z H b l p n t Q z s0 s1 m e k;refine ob e λd o e=>?_;cases Qw e;refine⟨.ref b,s0,.inr<|.inl ⟨b,_,0,_,rfl,rfl,SqT.of m,rfl,?_⟩⟩;refine j z (Qz l) (i Z H) o λ{w q s P} g r=>?_;obtain⟨rfl,rfl⟩:=r.bl_of;exact⟨t,rfl,k g.to0⟩
def jja:SpE R (yf 1) (λ_ _ n=>.int n):=by
 intro σ Z H b a c n Q z s0 s1 d k;exact⟨.int n,s1,k (Go.refl<|wf0 z) .int_mk⟩
end
section
variable {cl:Nat->Addr}{X:Cx}{pos:Pos}
def jjc{e}{ts}{fe}{scope}{N'}{elt c:Expr}{elts}{m}{tpos apos cpos}{tc te q el g h pe}(B:BlockOk X scope N' [none,none])(i:X.calm=true)(f:QE cl X e ts fe)
  (j:∀ C s H fp,QG cl [] (jI X scope N' C s H fp) (.Tuple elts m tpos) (jbS X.K 2<|k8 (vw 0)<|k8 (vw 1) jdv) g)
  (d:∀ C s H fp,QT cl (jI X scope N' C s H fp) c tc h) (k:∀ C s H fp,QP cl (jI X scope N' C s H fp) elt te pe)
  (l:SpT ⟨X.K,cl⟩ tc q) (n:SpE ⟨X.K,cl⟩ te el)
  (a:attributeBase e "items" X.env (eval e X.env)=eval e X.env:=by rfl) (b:(apos.endLine==cpos.line)=true:=by rfl)
  (o:∀ z,foldedSetIterable (.Call (.Attribute e "items" apos) [] [] cpos) X.env z=pure z:=by intro _;rfl):
  QE cl X (.ListComp elt [⟨.Tuple elts m tpos,.Call (.Attribute e "items" apos) [] [] cpos,[c],0⟩] scope pos) (Yu (jk8 ts) (jbS X.K 2<|k8 (vw 0)<|k8 (vw 1) jdv) tc te [none,none]) (jeG fe q el):=
 ⟨wQ B i (jhQ f.sem a b) (λC s H fp=>(j C s H fp).sem) (λC s H fp=>.inr ⟨c,rfl,(d C s H fp).sem⟩) (λC s H fp=>(k C s H fp).sem) o,jc9 f.den l n⟩
def jct{e}{ts}{fe}{scope}{N'}{elt c:Expr}{elts}{m}{tpos apos cpos}{v b}(B:BlockOk X scope N' [none,none])(h:X.calm=true)(i:QE cl X e ts fe)
  (j:∀ C s H fp,QG cl [] (jI X scope N' C s H fp) (.Tuple elts m tpos) (jbS X.K 2<|k8 (vw 0)<|k8 (vw 1) jdv)<|gT 2<|gC (jc [] 0)<|gC (jc [] 1) gN)
  (g:∀ C s H fp,QT cl (jI X scope N' C s H fp) c (VH<|tOp (jhd X.K false) (tOp (rIx X.K) (yf 0)<|tC<|.int 0)<|tC v)<|jj<|p2 (Y1 false) (p2 jd (pV 0)<|pI 0)<|pC b) (k:∀ C s H fp,QP cl (jI X scope N' C s H fp) elt (yf 1)<|pF<|pV 1)
  (l:∀ Z H,Rep ⟨X.K,cl⟩ Z H b v [])
  (d:attributeBase e "items" X.env (eval e X.env)=eval e X.env:=by rfl) (f:(apos.endLine==cpos.line)=true:=by rfl)
  (o:∀ z,foldedSetIterable (.Call (.Attribute e "items" apos) [] [] cpos) X.env z=pure z:=by intro _;rfl):
  QE cl X (.ListComp elt [⟨.Tuple elts m tpos,.Call (.Attribute e "items" apos) [] [] cpos,[c],0⟩] scope pos) (Yu (jk8 ts) (jbS X.K 2<|k8 (vw 0)<|k8 (vw 1) jdv) (VH<|tOp (jhd X.K false) (tOp (rIx X.K) (yf 0)<|tC<|.int 0)<|tC v) (yf 1) [none,none]) (jeG fe (λa _ _=>(Y1 false (kaD a) b).bind jbR)<|λ_ _ n=>.int n):=
 jjc B h i j g k (jnO l jiO) jja d f o
def bkI{N ps b}(_:FnScope N ps b){X a c C s H fp scope ix}(h1:X.env.scope=b:=by rfl)(h:J7 (Qc a b) c scope (blN c ix<|jn9 scope) ix=true:=by decide +kernel):BlockOk (jI X a c C s H fp) scope (blN c ix<|jn9 scope) ix:=jfB b h1 h
def QK.sumT{X:Cx}{K:W4}(hK:X.K=K)(a:X.calm=true):kR X (.builtin "sum") (λxs H Q=>∃(p:Addr) (ns:List Int),xs=[.ref p]/\SqT K H p (ns.map V.int)/\Q (.int ns.sum) H):=by subst hK;exact VC a
end
end QD
namespace K52
set_option hygiene false
local macro_rules|`(‹$x›)=>`(some<|.lst false $x)|`(↑$x)=>`(some<|.lst true $x)
local macro_rules|`(#[])=>`(pN)|`(#[$x])=>`(ja $x pN)|`(#[$x,$y,*])=>`(ja $x #[$y,*])
open PySem L2 QD
noncomputable def top(i:Nat):Stmt:=PySem.Challenge.pw_tranchefall_k52_the_ledger.main.body.getD i<|.Pass ⟨0,0,0,0⟩
noncomputable def ye:D:=.tup [.str [112,97,114,116],.str [112,97,121],.str [115,104,97,114,101],.str [114,101,112,97,121],.str [114,101,115,116],.str [103,117,97,114,100]]
def VM:FS:=(yd<|dP<|pCB Yp #[jZ (Jm<|pV 0) (jc [] 0) qT (pF<|p2 jd (pV 0)<|pI 1) [none]])
def qh:List D->Option D:=fnP 1 VM
def yp:FS:=(sIf (dPT<|jj<|p2 kH (p2 jd (pV 2)<|pI 0)<|pV 1) (yd<|dP<|pF<|pV 2)
 jM)
def J3:FS:=(jf (qC (pIt<|pF<|p2 jd (pV 0)<|pI 4) (jc [] 2) yp)<|yd<|dP<|pC .non)
def vI:List D->Option D:=fnP 3 J3
def vm:FS:=(sIf (dPT<|jj<|p2 jpl (p2 yI (pV 1)<|pV 2)<|pV 3) (yd<|dP<|pF<|pV 4)
 jM)
def qG:FS:=(jf (qC (pIt<|pF<|p2 jd (pV 0)<|pI 5) (gT 3<|gC (jc [] 2)<|gC (jc [] 3)<|gC (jc [] 4) gN) vm)<|yd<|dP<|pF<|p2 jd (p2 jd (p2 jd (pV 0)<|pI 4)<|pI 0)<|pI 0)
def vy:List D->Option D:=fnP 5 qG
def qK:FS:=(yd<|dP<|pCB uK #[jZ (Jm<|pV 0) (gT 3<|gC (jc [] 0)<|gC (jc [] 1)<|gC (jc [] 2) gN) qT (yD #[pKy (pV 0)<|pV 1,pF<|pV 2]) [none,none,none]])
def yu:List D->Option D:=fnP 1 qK
def JB:FS:=(sIf (dPT<|jj<|p2 kH (pV 2)<|pS [108,101,110,100]) (jkm 0 (pV 1) (pV 3)<|p2 ji (wA (pV 0) (pV 1) (pV 3)<|pI 0)<|pV 4)<|jfI 0 (pV 3) (pV 1) (λm n=>m-n)<|pV 4)
def yK:List D->Option (D×D):=fnM 5 0 JB
def Je:FS:=(sIf (dPT<|u9 (jj<|p2 Y5 (pV 4)<|pI 0)<|jj<|p2 jkW (p2 jd (pV 3)<|pV 5)<|pV 6) (jf (zB 3 (pV 5) (λi j=>i+j)<|pI 1)<|jfq [] 4 (λi j=>i-j)<|pI 1)
 jM)
def Qq:FS:=(jf (jt (dP<|pCB Yp #[pV 0])<|jc [] 2)<|jf (sIf (dPT<|jj<|p2 jpl (pV 1)<|pV 2) (yd<|dP<|pCB K1 #[pV 0])
 jM)<|jf (jt (dP<|jZ (Jm<|pV 0) (jc [] 0) qT (p2 jG (p2 yV (pV 1)<|pV 0)<|pV 2) [none,some 1,some 2])<|jc [] 3)<|jf (jt (dP<|p2 Ys (pV 1)<|pCB Yp #[pV 3])<|jc [] 4)<|jf (qC (Qy #[pF<|pV 0]) (gT 2<|gC (jc [] 5)<|gC (jc [] 6) gN) Je)<|yd<|dMv 3)
def Jg:List D->Option D:=fnP 7 Qq
def j7:FS:=(jf (jt (dP<|pF<|p2 jd (pV 1)<|pI 0)<|jc [] 2)<|jf (jt (dP<|pF<|p2 jd (pV 1)<|pI 1)<|jc [] 3)<|jf (sIf (dPT<|jj<|p2 kH (pV 2)<|pS [112,97,121]) (yd<|dP<|pF<|p2 yI (JD 0 "owed"<|pV 0)<|pV 3)
 jM)<|jf (sIf (dPT<|jj<|p2 kH (pV 2)<|pS [114,101,112,97,121]) (yd<|dP<|p2 ji (p2 yI (JD 0 "owed"<|pV 0)<|pV 3)<|p2 yI (JD 0 "sizes"<|pV 0)<|pV 3)
 jM)<|jf (sIf (dPT<|jj<|p2 kH (pV 2)<|pS [102,105,108,108]) (yd<|dP<|pCB jn2 #[p2 Ys (p2 yI (JD 0 "marks"<|pV 0)<|pV 3)<|p2 yI (JD 0 "levels"<|pV 0)<|pV 3,pI 0])
 jM)<|jf (sIf (dPT<|jj<|p2 kH (pV 2)<|pS [108,101,110,100]) (yd<|dP<|pCB jn2 #[p2 Ys (p2 jd (pV 1)<|pI 2)<|wA (JD 0 "loans"<|pV 0) (JD 0 "pool_name"<|pV 0) (pV 3)<|pI 0,pI 0])
 jM)<|jf (sIf (dPT<|jj<|p2 kH (pV 2)<|pS [98,97,99,107]) (yd<|dP<|pF<|wA (JD 0 "loans"<|pV 0) (pV 3) (JD 0 "pool_name"<|pV 0)<|pI 0)
 jM)<|yd<|dP<|pF<|JD 0 "cash"<|pV 0)
def jg:List D->Option D:=fnP 4 j7
def ve:FS:=(jf (jt (dP<|pF<|p2 yI (JD 0 "owed"<|pV 0)<|pV 3)<|jc [0] 4)<|jf (jt (dP<|pCB xP #[pV 4,p2 yI (JD 0 "levels"<|pV 0)<|pV 2])<|jc [0] 5)<|jf (vF 0 (qZ 0 "levels" kF) (pV 2) (λm n=>m-n)<|pV 5)<|jf (vF 0 (qZ 0 "owed" kF) (pV 3) (λm n=>m-n)<|pV 5)<|qr 0 (qZ 0 "entries" kF)<|yD #[pF<|pV 1,pS [103,117,97,114,100],pF<|pV 3,pF<|pV 4,pF<|pV 5])
def yB:List D->Option (D×D):=fnM 6 0 ve
def jF:FS:=(jf (jt (dP<|jkG (p2 Y5 (p2 yI (pV 2)<|pV 4)<|pI 0)<|p2 (jbn true) (pV 4)<|JD 0 "served"<|pV 0)<|jc [] 6)<|jcI 3<|yD #[pF<|pV 4,pIf (jj<|pV 6) (p2 ji (pV 5)<|pI 1)<|pI 0])
def v7:FS:=(jf (jt (dP<|pCB yY #[p2 jd (pV 1)<|pI 0])<|jc [] 2)<|jf (jt (dP<|YE pN)<|jc [] 3)<|jf (qC (pIt<|pF<|p2 jd (pV 1)<|pI 2) (gT 2<|gC (jc [] 4)<|gC (jc [] 5) gN) jF)<|yd<|KN<|jr (dP<|yH<|JD 0 "sizes"<|pV 0)<|jr (dP<|yH<|JD 0 "owed"<|pV 0)<|jr (dMv 3)<|jr (dP<|yH<|JD 0 "levels"<|pV 0)<|jr (dP<|pF<|p2 jd (pV 1)<|pI 4) Jk)
def jO:List D->Option D:=fnP 7 v7
def VO:FS:=(jf (jt (dP<|pCB xP #[pV 4,p2 yI (pV 3)<|pV 7])<|jc [] 8)<|jf (jcI 5<|yD #[pF<|pV 6,pS [101,97,116],pF<|pV 7,pF<|pV 4,pF<|pV 8])<|jf (jdt 3 (pV 7) (λm n=>m-n)<|pV 8)<|jfq [] 4 (λi j=>i-j)<|pV 8)
def jeo:FS:=(jf (jt (dP<|pCB yY #[p2 jd (pV 1)<|pI 0])<|jc [] 3)<|jf (jt (dP<|pF<|pV 2)<|jc [] 4)<|jf (jt (dP<|YE pN)<|jc [] 5)<|jf (qC (Qy #[pF<|p2 jd (pV 0)<|pI 3]) (gT 2<|gC (jc [] 6)<|gC (jc [] 7) gN) VO)<|jf (jt (dP<|jZ (Jm<|p2 jd (pV 1)<|pI 1) (gT 2<|gC (jc [] 0)<|gC (jc [] 1) gN) qT (yD #[pF<|pV 0,pIf (jj<|p2 Y5 (p2 yI (pV 2)<|pV 0)<|pI 0) (pF<|pV 1)<|pI 0]) [none,none,some 3])<|jc [] 9)<|yd<|KN<|jr (dMv 5)<|jr (KN<|jr (dP<|yH<|pV 3)<|jr (dMv 9)<|jr (dP<|pCB K1 #[p2 jd (pV 1)<|pI 2])<|jr (dP<|pCB K1 #[p2 jd (pV 1)<|pI 3])<|jr (dP<|p2 ji (p2 jd (pV 1)<|pI 4)<|pV 4) Jk) Jk)
def QY:List D->Option D:=fnP 10 jeo
def YG:FS:=(jf (jt (dP<|jZ (Jm<|p2 jd (pV 0)<|pI 1) (jc [] 0) qT (yD #[pF<|p2 jd (pV 0)<|pI 0,pF<|p2 jd (pV 0)<|pI 1]) [none])<|jc [] 1)<|jf (jt (dP<|jZ (Jm<|p2 jd (pV 0)<|pI 1) (jc [] 0) qT (yD #[pF<|p2 jd (pV 0)<|pI 0,pI 0]) [none])<|jc [] 2)<|jf (jt (dP<|jZ (Jm<|p2 jd (pV 0)<|pI 1) (jc [] 0) qT (yD #[pF<|p2 jd (pV 0)<|pI 0,pI 0]) [none])<|jc [] 3)<|yd<|KN<|jr (dMv 1)<|jr (dMv 2)<|jr (dMv 3)<|jr (dP<|jZ (Jm<|p2 jd (pV 0)<|pI 2) (jc [] 0) qT (yD #[pF<|p2 jd (pV 0)<|pI 0,pI 0]) [none])<|jr (dP<|pI 0) Jk)
def vz:List D->Option D:=fnP 4 YG
def Vi:FS:=(jf (jt (dP<|pCB yY #[p2 jd (pV 1)<|pI 0])<|jc [] 2)<|jf (jt (dP<|pCB yY #[jZ (Jm<|p2 jd (pV 0)<|pI 1) (jc [] 0) qT (yD #[pF<|p2 jd (pV 0)<|pI 0,pF<|p2 jd (pV 0)<|pI 2]) [none]])<|jc [] 3)<|jf (jt (dP<|jZ (Jm<|p2 jd (pV 1)<|pI 1) (gT 2<|gC (jc [] 0)<|gC (jc [] 1) gN) qT (yD #[pF<|pV 0,pIf (jj<|p2 Y5 (p2 yI (pV 2)<|pV 0)<|pI 0) (p2 ji (pV 1)<|p2 yI (pV 3)<|pV 0)<|pF<|pV 1]) [none,none,some 2,some 3])<|jc [] 4)<|sFz 4<|yd<|dP<|yD #[pF<|p2 jd (pV 1)<|pI 0,pF<|pV 4,pF<|p2 jd (pV 1)<|pI 2,pF<|p2 jd (pV 1)<|pI 3,pF<|p2 jd (pV 1)<|pI 4])
def qd:List D->Option D:=fnP 5 Vi
def kY:FS:=(jf (jt (jol<|jfP (p2 jd (pV 4)<|pI 3)<|p2 jd (pV 4)<|pI 4)<|jc [] 5)<|xt 1 (pKt 5)<|p2 ji (jaB (pV 1) (pKt 5)<|pI 0)<|p2 jd (pV 4)<|pI 6)
def qj:FS:=(qC (pIt<|pF<|pV 3) (jc [] 4) kY)
def Vw:FS:=(jf (jt (dP<|pC<|.dT true [] [])<|jc [] 1)<|jf (qC (pIt<|pF<|pV 0) (gT 2<|gC (jc [] 2)<|gC (jc [] 3) gN) qj)<|yd<|dMv 1)
def vQ:List D->Option D:=fnP 6 Vw
def vN:FS:=(jj0 1 (pV 5)<|p2 ji (p3 KG (pV 1) (pV 5)<|pI 0)<|pCB xP #[pV 6,pI 1])
def vU:FS:=(qC (pIt<|pF<|p2 jd (pV 4)<|pI 2) (gT 2<|gC (jc [] 5)<|gC (jc [] 6) gN) vN)
def vK:FS:=(qC (pIt<|pF<|p2 jd (pV 2)<|pI 0) (jc [] 4) vU)
def J8:FS:=(jf (jt (dP<|pC<|.dK true [] [])<|jc [] 1)<|jf (qC (pIt<|pF<|pV 0) (gT 2<|gC (jc [] 2)<|gC (jc [] 3) gN) vK)<|yd<|dMv 1)
def vH:List D->Option D:=fnP 7 J8
def Jq:FS:=(jf (jt (dP<|pS [112,111,111,108,32,99,108,97,105,109,32,112,111,116,32,101,97,116,32,111,114,100,101,114,32,112,97,114,116,32,112,97,121,32,115,104,97,114,101,32,114,101,112,97,121,32,102,105,108,108,32,108,101,110,100,32,98,97,99,107,32,114,101,115,116,32,108,111,111,107,32,103,117,97,114,100,32,100,101,98,116,32,111,110,32,108,97,116,101,32,101,97,114,108,121,32,113,117,105,116])<|jc [] 0)<|yd<|dP<|pBM "str" xr (pV 0) #[pS [32]])
def vn:List D->Option D:=fnP 1 Jq
def Yn:FS:=(jf (jt (dP<|pI 0)<|jc [] 2)<|jf (sIf (dPT<|jj<|p2 Y5 (pCB qx #[pV 0])<|pI 0) (jt (dP<|pF<|p2 jd (pV 0)<|p2 jn (pV 1)<|pCB qx #[pV 0])<|jc [] 2)
 jM)<|jf (jt (dP<|p2 ji (pI 91343852333181432387730302044767688731)<|p2 Vj (p2 Vj (pI 7919000003)<|pV 1)<|pV 1)<|jc [] 3)<|yd<|dP<|p2 jn (p2 Vj (p2 ji (p2 ji (pV 2)<|pV 1)<|pI 1)<|pV 3)<|pI 170141183460469231731687303715884105727)
def yb:List D->Option D:=fnP 4 Yn
def vV:FS:=(jf (sIf (dPT<|jj<|p2 kH (p2 jn (pV 0)<|pI 4)<|pI 0) (yd<|dP<|pF<|p2 jd (YE #[pI 1,p2 Jx (pI 10)<|pI 12])<|p2 jn (p2 jG (pV 0)<|pI 4)<|pI 2)
 jM)<|jf (sIf (dPT<|jj<|p2 kH (p2 jn (pV 0)<|pI 4)<|pI 1) (yd<|dP<|p2 ji (pI 1)<|p2 jn (p2 jG (pV 0)<|pI 4)<|pI 20)
 jM)<|yd<|dP<|p2 ji (pI 1)<|p2 jn (p2 jG (pV 0)<|pI 4)<|p2 Jx (pI 10)<|pI 12)
def jC:List D->Option D:=fnP 1 vV
def jE:FS:=(jf (sIf (dPT<|jj<|p2 kH (p2 jd (pV 3)<|pI 0)<|pS [115,104,97,114,101]) (jkM 1<|p2 jd (pV 3)<|pI 1)
 jM)<|sIf (dPT<|jj<|p2 kH (p2 jd (pV 3)<|pI 0)<|pS [114,101,112,97,121]) (jcI 1<|pF<|p2 jd (pV 3)<|pI 1)
 jM)
def yC:FS:=(qC (pIt<|pF<|p2 jd (pV 2)<|pI 2) (jc [] 3) jE)
def kj:FS:=(jf (jt (dP<|YE pN)<|jc [] 1)<|jf (qC (pIt<|pF<|pV 0) (jc [] 2) yC)<|yd<|dMv 1)
def ym:List D->Option D:=fnP 4 kj
def yq:FS:=(jf (jt (dP<|p2 jn (pV 0)<|pI 6)<|jc [] 1)<|jf (sIf (dPT<|jj<|p2 kH (pV 1)<|pI 0) (yd<|dP<|pI 0)
 jM)<|jf (sIf (dPT<|jj<|p2 jkW (pV 1)<|pI 3) (yd<|dP<|p2 jn (p2 jG (pV 0)<|pI 6)<|pI 60)
 jM)<|jf (sIf (dPT<|jj<|p2 kH (pV 1)<|pI 3) (yd<|dP<|p2 jn (p2 jG (pV 0)<|pI 6)<|pI 2000)
 jM)<|jf (sIf (dPT<|jj<|p2 kH (pV 1)<|pI 4) (yd<|dP<|p2 jn (p2 jG (pV 0)<|pI 6)<|p2 Jx (pI 10)<|pI 13)
 jM)<|yd<|dP<|p2 jn (p2 jG (pV 0)<|pI 6)<|p2 Jx (pI 10)<|pI 30)
def jR:List D->Option D:=fnP 2 yq
def vf:FS:=(jf (jt (dP<|p2 jn (pV 0)<|pI 6)<|jc [] 1)<|jf (sIf (dPT<|jj<|p2 jkW (pV 1)<|pI 3) (yd<|dP<|pI 0)
 jM)<|jf (sIf (dPT<|jj<|p2 kH (pV 1)<|pI 3) (yd<|dP<|p2 jn (p2 jG (pV 0)<|pI 6)<|pI 40)
 jM)<|jf (sIf (dPT<|jj<|p2 kH (pV 1)<|pI 4) (yd<|dP<|p2 jn (p2 jG (pV 0)<|pI 6)<|p2 Jx (pI 10)<|pI 13)
 jM)<|yd<|dP<|p2 jn (p2 jG (pV 0)<|pI 6)<|p2 Jx (pI 10)<|pI 29)
def yi:List D->Option D:=fnP 2 vf
def kh:FS:=(sIf (dPT<|jj<|p2 (Y1 false) (p2 jd (pV 3)<|pI 3)<|YE #[pS [112,97,114,116],pS [112,97,121],pS [115,104,97,114,101],pS [114,101,112,97,121],pS [114,101,115,116],pS [103,117,97,114,100]]) (jt (dP<|p2 ji (pV 1)<|p2 jd (pV 3)<|pI 6)<|jc [] 1)
 jM)
def qM:FS:=(qC (pIt<|pF<|p2 jd (pV 2)<|pI 1) (jc [] 3) kh)
def KB:FS:=(jf (jt (dP<|pI 0)<|jc [] 1)<|jf (qC (pIt<|pF<|pV 0) (jc [] 2) qM)<|yd<|dP<|pF<|pV 1)
def Jc:List D->Option D:=fnP 4 KB
def wv:FS:=(jf (jt (dP<|jv qh #[pV 0])<|jc [] 2)<|jf (sIf (dPT<|jj<|p2 Y5 (pV 2)<|pI 10) (jf (jt (dP<|jZ (Jm<|pV 0) (jc [] 0) qT (p2 jG (p2 ji (p2 yV (pV 1)<|p2 jd (pV 0)<|pI 1)<|pI 9)<|pI 10) [none,some 1])<|jc [] 3)<|yd<|jcR 3 #[p2 Ys (pCB Yp #[pV 3])<|pV 1])
 jM)<|jf (jt (dP<|jZ (Jm<|pV 0) (jc [] 0) qT (p2 jG (p2 yV (pV 1)<|p2 jd (pV 0)<|pI 1)<|pI 10) [none,some 1])<|jc [] 3)<|jf (jt (dP<|p2 Ys (p2 jG (p2 yV (pV 1)<|pV 2)<|pI 10)<|pCB Yp #[pV 3])<|jc [] 4)<|sFz 3<|yd<|dP<|yD #[jZ (Qy #[pF<|pV 3]) (gT 2<|gC (jc [] 0)<|gC (jc [] 1) gN) qT (pIf (jj<|p2 jkW (pV 0)<|pV 2) (p2 ji (pV 1)<|pI 1)<|pF<|pV 1) [none,none,some 4],pI 0])
def VN:List D->Option D:=fnP 5 wv
def vD:FS:=(Q6<|JI yK 3 kF #[pF<|pV 1,pF<|pV 4,pF<|pV 5,pF<|pV 6])
def Jp:FS:=(jf (jt (dP<|jv yu #[pV 0])<|jc [] 3)<|jf (qC (pIt<|pF<|pV 2) (gT 3<|gC (jc [] 4)<|gC (jc [] 5)<|gC (jc [] 6) gN) vD)<|yd<|dCB KM<|jr (jp7 3) Jk)
def vk:List D->Option D:=fnP 7 Jp
def qu:FS:=(jf (J1 0 0 "pool_name"<|pF<|p2 jd (pV 1)<|pI 0)<|jf (J1 0 0 "marks"<|pCB yY #[p2 jd (pV 1)<|pI 2])<|jf (J1 0 0 "sizes"<|pCB yY #[p2 jd (pV 2)<|pI 0])<|jf (J1 0 0 "owed"<|pCB yY #[p2 jd (pV 2)<|pI 1])<|jf (J1 0 0 "levels"<|pCB yY #[p2 jd (pV 2)<|pI 3])<|jf (J1 0 0 "loans"<|jv yu #[pV 4])<|jf (J1 0 0 "cash"<|pF<|pV 3)<|jf (J1 0 0 "served"<|pC<|.dK true [] [])<|jf (J1 0 0 "entries"<|YE pN)<|J1 0 0 "moves"<|YE pN)
def yT:List D->Option (D×D):=fnM 5 0 qu
def yL:FS:=(sIf (dPT<|jj<|p2 kH (pV 1)<|pS [112,97,121]) (vF 0 (qZ 0 "owed" kF) (pV 2) (λm n=>m-n)<|pV 3)<|sIf (dPT<|jj<|p2 kH (pV 1)<|pS [114,101,112,97,121]) (jf (jt (dP<|pCB xP #[pV 3,p2 yI (JD 0 "owed"<|pV 0)<|pV 2])<|jc [0] 4)<|jf (vF 0 (qZ 0 "owed" kF) (pV 2) (λm n=>m-n)<|pV 4)<|vF 0 (qZ 0 "sizes" kF) (pV 2) (λm n=>m-n)<|p2 Ys (pV 3)<|pV 4)<|sIf (dPT<|jj<|p2 kH (pV 1)<|pS [102,105,108,108]) (vF 0 (qZ 0 "levels" kF) (pV 2) (λm n=>m+n)<|pV 3)<|sIf (dPT<|u9 (jj<|p2 (Y1 false) (pV 1)<|yD #[pS [108,101,110,100],pS [98,97,99,107]])<|jj<|p2 Y5 (pV 3)<|pI 0) (jf (Q6<|JI yK 0 (qZ 0 "loans" kF) #[pF<|JD 0 "pool_name"<|pV 0,pF<|pV 1,pF<|pV 2,pF<|pV 3])<|qr 0 (qZ 0 "moves" kF)<|yD #[pF<|pV 1,pF<|pV 2,pF<|pV 3])
 jM)
def jx:List D->Option (D×D):=fnM 5 0 yL
def yJ:FS:=(jf (YQ 0 kF 0 "cash" (λm n=>m-n)<|pV 8)<|jf (vF 0 (qZ 0 "owed" kF) (pV 6) (λm n=>m-n)<|pV 8)<|jf (qr 0 (qZ 0 "entries" kF)<|yD #[pF<|pV 1,pS [115,104,97,114,101],pF<|pV 6,pF<|pV 7,pF<|pV 8])<|sIf (dPT<|jj<|pV 5) (Vv 0 (qZ 0 "served" kF) (pV 6)<|pC<|.bl true)
 jM)
def vi:FS:=(jf (jt (dP<|jZ (Jm<|pV 2) (jc [] 0) qT (pF<|p2 yI (JD 0 "owed"<|pV 1)<|pV 0) [none,some 0])<|jc [0] 3)<|jf (jt (dP<|jv Jg #[pV 3,JD 0 "cash"<|pV 0])<|jc [0] 4)<|jf (jt (dP<|jkG (p2 Y5 (pCB Yp #[pV 3])<|pI 0)<|p2 kH (pV 4)<|pV 3)<|jc [0] 5)<|sFz 3<|sFz 4<|qC (pZN 3 #[pF<|pV 2,pF<|pV 3,pF<|pV 4]) (gT 3<|gC (jc [0] 6)<|gC (jc [0] 7)<|gC (jc [0] 8) gN) yJ)
def jT:List D->Option (D×D):=fnM 9 0 vi
def jdC:FS:=(yd<|dP<|yD #[jZ (Jm<|pV 0) (jc [] 0) qT (jv vz #[pV 0]) [none],YE pN,jZ (Jm<|pV 0) (jc [] 0) qT (pI 0) [none]])
def JG:List D->Option D:=fnP 1 jdC
def VR:FS:=(yd<|dP<|jv vy #[pV 0,pCB yY #[p2 jd (pV 1)<|pI 2]])
def vP:List D->Option D:=fnP 2 VR
def Ks:FS:=(jf (jt (dP<|p2 ji (p2 jd (pV 1)<|pI 0)<|pI 1)<|gIx [1] 1<|pI 0)<|yd<|dP<|jv yb #[pV 0,p2 jd (pV 1)<|pI 0])
def jo:List D->Option (D×D):=fnM 2 1 Ks
def Yx:FS:=(jf (jt (dP<|pS [97,98,99,100,101,102,103,104,105,106,107,108,109,110,111,112,113,114,115,116,117,118,119,120,121,122])<|jc [] 2)<|jf (jt (dP<|p2 ji (pI 2)<|p2 jn (pV 0)<|pI 6)<|jc [] 3)<|jf (jt (dP<|p2 jn (p2 jG (pV 0)<|pI 6)<|p2 Ys (pV 3)<|pI 1)<|jc [] 4)<|jf (jt (dP<|pBM "str" ja5 (pS []) #[jZ (kI #[pV 3]) (jc [] 0) qT (pF<|p2 jd (pV 1)<|p2 jn (p2 ji (p2 jG (pV 2)<|pI 42)<|p2 yV (p2 yV (pV 0)<|pV 0)<|p2 jn (p2 jG (pV 2)<|pI 1100)<|pI 5)<|pI 26) [none,some 2,some 0]])<|jc [] 5)<|jf (jt (dP<|p2 ji (p2 jd (pV 2)<|p2 jn (p2 ji (p2 jG (pV 0)<|pI 7)<|p2 jG (pV 1)<|pI 26)<|pI 26)<|p2 jd (pV 2)<|p2 jn (p2 ji (p2 jG (pV 0)<|pI 3)<|pV 1)<|pI 26)<|jc [] 6)<|jf (jt (dP<|p2 ji (p2 ji (pSl (pV 5) oN<|oS<|pV 4)<|pV 6)<|pSl (pV 5) (oS<|p2 ji (pV 4)<|pI 2) oN)<|jc [] 5)<|jf (sIf (dPT<|jj<|p2 (Y1 false) (pV 5)<|jv vn pN) (jt (dP<|p2 ji (pV 5)<|pS [122])<|jc [] 5)
 jM)<|yd<|dMv 5)
def ju:List D->Option D:=fnP 7 Yx
def Kk:FS:=(jf (jt (dP<|p2 jn (pV 0)<|pI 7)<|jc [] 4)<|jf (jt (dP<|pCB qx #[pV 1])<|jc [] 5)<|jf (jt (dP<|pF<|p2 jd (p2 jd (pV 1)<|p2 jn (p2 jG (pV 0)<|pI 7)<|pV 5)<|pI 0)<|jc [] 6)<|jf (sIf (dPT<|u9 (jj<|p2 kH (pV 4)<|pI 1)<|jj<|p2 Y5 (pV 5)<|pI 1) (jf (jt (dP<|p2 ji (pI 2)<|p2 jn (p2 jG (pV 0)<|pI 50)<|p2 Ys (pV 5)<|pI 1)<|jc [] 7)<|yd<|dP<|yD #[pS [115,104,97,114,101],pCB Vm #[jZ (kI #[pV 7]) (jc [] 0) qT (pF<|p2 jd (p2 jd (pV 1)<|p2 jn (p2 ji (p2 jG (pV 2)<|pI 400)<|pV 0)<|pV 3)<|pI 0) [none,some 1,some 0,some 5]]])
 jM)<|jf (sIf (dPT<|jj<|p2 kH (pV 4)<|pI 2) (yd<|dP<|yD #[pS [114,101,112,97,121],pF<|pV 6])
 jM)<|jf (sIf (dPT<|u9 (jj<|p2 kH (pV 4)<|pI 3)<|jj<|p2 Y5 (pCB qx #[pV 2])<|pI 0) (yd<|dP<|yD #[pS [102,105,108,108],pF<|p2 jd (p2 jd (pV 2)<|p2 jn (p2 jG (pV 0)<|pI 50)<|pCB qx #[pV 2])<|pI 0])
 jM)<|jf (sIf (dPT<|u9 (jj<|p2 kH (pV 4)<|pI 4)<|jj<|p2 Y5 (pCB qx #[pV 3])<|pI 0) (yd<|dP<|yD #[pS [108,101,110,100],pF<|p2 jd (pV 3)<|p2 jn (p2 jG (pV 0)<|pI 50)<|pCB qx #[pV 3],jv jC #[p2 jG (pV 0)<|pI 400]])
 jM)<|jf (sIf (dPT<|u9 (jj<|p2 kH (pV 4)<|pI 5)<|jj<|p2 Y5 (pCB qx #[pV 3])<|pI 0) (yd<|dP<|yD #[pS [98,97,99,107],pF<|p2 jd (pV 3)<|p2 jn (p2 jG (pV 0)<|pI 50)<|pCB qx #[pV 3]])
 jM)<|yd<|dP<|yD #[pS [112,97,121],pF<|pV 6])
def yR:List D->Option D:=fnP 8 Kk
def qF:FS:=(jf (jt (dP<|jZ (kI #[pCB qx #[pV 1]]) (jc [] 0) qT (jv jR #[jv yb #[pV 1,p2 ji (p2 ji (pI 700)<|p2 yV (pI 12)<|pV 2)<|pV 0]]) [none,some 0,some 3])<|jc [] 4)<|jf (jt (dP<|jZ (kI #[pCB qx #[pV 1]]) (jc [] 0) qT (jv yi #[jv yb #[pV 1,p2 ji (p2 ji (pI 706)<|p2 yV (pI 12)<|pV 2)<|pV 0]]) [none,some 0,some 3])<|jc [] 5)<|sFz 4<|sFz 5<|jcI 2<|yD #[pF<|pV 4,pF<|pV 5])
def V9:FS:=(jf (jt (dP<|YE pN)<|jc [] 2)<|jf (qC (kI #[p2 jn (jv yb #[pV 0,pI 690])<|pI 7]) (jc [] 3) qF)<|yd<|dMv 2)
def kS:List D->Option D:=fnP 6 V9
def vS:FS:=(jf (jt (dP<|pF<|p2 jd (p2 jd (pV 3)<|pI 0)<|pV 4)<|jc [0] 6)<|jf (jt (dP<|pCB xP #[pV 6,JD 0 "cash"<|pV 0])<|jc [0] 7)<|jf (YQ 0 kF 0 "cash" (λm n=>m-n)<|pV 7)<|qr 0 (qZ 0 "entries" kF)<|yD #[pF<|pV 4,pS [112,97,114,116],pF<|p2 jd (pV 5)<|pI 0,pF<|pV 6,pF<|pV 7])
def vg:FS:=(jf (jt (dP<|pF<|JD 0 "cash"<|pV 0)<|jc [0] 2)<|jf (jt (dP<|jv VN #[pV 1,pV 2])<|jc [0] 3)<|jf (qC (Qy #[pF<|pV 1]) (gT 2<|gC (jc [0] 4)<|gC (jc [0] 5) gN) vS)<|sIf (dPT<|jj<|p2 Y5 (p2 jd (pV 3)<|pI 1)<|pI 0) (qr 0 (qZ 0 "entries" kF)<|yD #[p1 V2<|pI 1,pS [116,119,105,99,101],pS [],pCB Yp #[p2 jd (pV 3)<|pI 0],pF<|pV 2])
 jM)
def jS:List D->Option (D×D):=fnM 8 0 vg
def yg:FS:=(jf (jt (dP<|pF<|p2 jd (pV 2)<|pI 0)<|jc [0] 3)<|jf (jt (dP<|pF<|p2 jd (pV 2)<|pI 1)<|jc [0] 4)<|jf (jt (dP<|Yo jg 0 "need_of" (pV 0) #[pV 2])<|jc [0] 5)<|jf (jt (dP<|pCB xP #[pV 5,JD 0 "cash"<|pV 0])<|jc [0] 6)<|jf (YQ 0 kF 0 "cash" (λm n=>m-n)<|pV 6)<|jf (qr 0 (qZ 0 "entries" kF)<|yD #[pF<|pV 1,pF<|pV 3,pF<|pV 4,pF<|pV 5,pF<|pV 6])<|jf (Q6<|va jx 0 0 "give" #[pF<|pV 3,pF<|pV 4,pF<|pV 6])<|sIf (dPT<|u9 (jj<|p2 (Y1 false) (pV 3)<|yD #[pS [112,97,121],pS [114,101,112,97,121]])<|u9 (jj<|p2 kH (pV 6)<|pV 5)<|jj<|p2 Y5 (pV 5)<|pI 0) (Vv 0 (qZ 0 "served" kF) (pV 4)<|pC<|.bl true)
 jM)
def jw:List D->Option (D×D):=fnM 7 0 yg
def qB:FS:=(yd<|dP<|pIf (jj<|p2 Y5 (pCB qx #[pV 1])<|pI 0) (pF<|p2 jd (p2 jd (pV 1)<|p1 V2<|pI 1)<|pI 0)<|jv JG #[pV 0])
def yP:List D->Option D:=fnP 2 qB
def vG:FS:=(V6 8<|KN<|jr (dP<|pF<|p2 jd (p2 jd (pV 3)<|p2 jn (p2 ji (p2 jG (pV 6)<|pI 100)<|pV 9)<|pV 7)<|pI 0)<|jr (dOp ji (dP<|pI 1)<|dOp jn (yc jo 1 1<|ja (pF<|pV 0)<|pFs pN)<|dP<|pI 10) Jk)
def Vk:FS:=(jf (jt (yc jo 1 1<|ja (pF<|pV 0)<|pFs pN)<|jc [1] 6)<|jf (jt (dP<|pCB qx #[pV 3])<|jc [1] 7)<|jf (jt (dP<|YE pN)<|jc [1] 8)<|jf (qC (kI #[p2 yV (p2 jn (pV 6)<|p2 ji (pV 7)<|pI 1)<|p2 jn (p2 jG (pV 6)<|pI 10)<|pI 2]) (jc [1] 9) vG)<|jf (jt (xz (kI #[p2 jn (p2 jG (pV 6)<|pI 1000)<|pI 9]) (jc [2] 0) (vW yR<|jr (yc jo 2 1<|ja (pF<|pV 1)<|pFs pN)<|jr (dP<|pF<|pV 3)<|jr (dP<|pF<|pV 4)<|jr (dP<|pF<|pV 5) Jk) [none,some 0,some 1,some 3,some 4,some 5] 1 2)<|jc [1] 10)<|jf (jcI 10<|yD #[pS [114,101,115,116],pF<|p2 jd (p2 jd (pV 3)<|p2 jn (p2 jG (pV 6)<|pI 10000)<|pV 7)<|pI 0])<|yd<|KN<|jr (dP<|pF<|pV 2)<|jr (dMv 8)<|jr (dMv 10) Jk)
def vR:List D->Option (D×D):=fnM 11 1 Vk
def ku:FS:=(V6 7<|KN<|jr (dOp (oF jd) (dOp (oF jd) (dP<|pF<|pV 3)<|dOp jn (yc jo 1 1<|ja (pF<|pV 0)<|pFs pN)<|dP<|pCB qx #[pV 3])<|dP<|pI 0)<|jr (dP<|pF<|p2 jd (pV 6)<|pV 8) Jk)
def qR:FS:=(jf (jt (dP<|jv ym #[pV 4])<|jc [1] 5)<|jf (jt (dP<|jZ (Jm<|pV 2) (jc [] 0) (jj<|p2 (Y1 true) (p2 jd (pV 0)<|pI 0)<|pV 1) (pF<|p2 jd (pV 0)<|pI 0) [none,some 5])<|jc [1] 6)<|jf (jt (dP<|YE pN)<|jc [1] 7)<|jf (sIf (dPT<|jj<|p2 Y5 (pCB qx #[pV 3])<|pI 0) (jdM (jck<|jr (dCB xP<|jr (dP<|pCB qx #[pV 6])<|jr (dOp jn (yc jo 1 1<|ja (pF<|pV 0)<|pFs pN)<|dP<|pI 4) Jk) Jk) (jc [1] 8) ku)
 jM)<|yd<|dMv 7)
def vp:List D->Option (D×D):=fnM 9 1 qR
def Jj:FS:=(sIf (dPT<|jj<|p2 kH (p2 jd (pV 8)<|pI 0)<|pS [115,104,97,114,101]) (Q6<|va jT 6 0 "take_share" #[pF<|pV 7,pF<|p2 jd (pV 8)<|pI 1])<|Q6<|va jw 6 0 "take_rule" #[pF<|pV 7,pF<|pV 8])
def KI:FS:=(Q6<|va yB 6 0 "take_guard" #[pF<|pV 7,pF<|p2 jd (pV 9)<|pI 0,pF<|p2 jd (pV 9)<|pI 1])
def jhk:FS:=(jf (jt (dP<|jv vI #[pV 0,pV 1])<|jc [] 5)<|jf (jt (dP<|jbP yT 0 #[pF<|pV 0,pF<|pV 2,pF<|pV 3,pF<|pV 4])<|jc [] 6)<|jf (Q6<|va jS 6 0 "take_parts" #[pF<|p2 jd (pV 5)<|pI 1])<|jf (qC (jly #[pF<|p2 jd (pV 5)<|pI 2] (pCB qx #[p2 jd (pV 5)<|pI 1])) (gT 2<|gC (jc [] 7)<|gC (jc [] 8) gN) Jj)<|jf (qC (Qy #[pF<|p2 jd (pV 0)<|pI 6]) (gT 2<|gC (jc [] 7)<|gC (jc [] 9) gN) KI)<|yd<|jkT 6 0 "entries" "moves"<|Yo jO 0 "book_behind" (pV 6) #[pV 2])
def jaj:List D->Option D:=fnP 10 jhk
def yE:FS:=(jf (jt (dP<|pF<|p2 jd (p2 jd (pV 3)<|p2 jn (pV 8)<|pCB qx #[pV 3])<|pI 0)<|jc [1] 9)<|jf (sIf (dOr (jbk<|dOp Y5 (dOp jn (yc jo 1 1<|ja (pF<|pV 0)<|pFs pN)<|dP<|pI 3)<|dP<|pI 0)<|dPT<|jj<|p2 (Y1 false) (pV 9)<|jZ (Jm<|pV 7) (jc [] 0) qT (pF<|p2 jd (pV 0)<|pI 0) [none]) (jt (dP<|jv ju #[pV 2,p2 ji (pI 100)<|pV 8])<|jc [1] 9)
 jM)<|sFz 9<|V6 7<|dFz<|yc vR 1 1<|ja (pF<|pV 0)<|pFs #[pF<|pV 9,pF<|pV 3,pF<|pV 4,pF<|pV 5])
def YH:FS:=(jf (jt (dP<|YE pN)<|jc [1] 7)<|jf (jdM (jck<|jr (dOp ji (dP<|pI 1)<|dOp jn (yc jo 1 1<|ja (pF<|pV 0)<|pFs pN)<|dP<|pF<|pV 6) Jk) (jc [1] 8) yE)<|yd<|dMv 7)
def kf:List D->Option (D×D):=fnM 10 1 YH
def Kr:FS:=(jf (jt (dP<|jv QY #[pV 0,pV 1,pV 4])<|jc [] 5)<|jf (jt (dP<|jv vP #[pV 0,pV 1])<|jc [] 6)<|jf (sFz 5<|jt (dP<|jv jaj #[pV 0,pV 6,jv qd #[pV 0,p2 jd (pV 5)<|pI 1],pV 3,pV 2])<|jc [] 7)<|jf (jt (dP<|jZ (Jm<|p2 jd (pV 5)<|pI 0) (jc [] 0) qT (p2 ji (yD #[pF<|p2 jd (pV 1)<|pI 0,pS []])<|pV 0) [none,some 0])<|jc [] 8)<|jf (jkM 8<|jZ (Jm<|p2 jd (pV 7)<|pI 0) (jc [] 0) qT (p2 ji (yD #[pF<|p2 jd (pV 1)<|pI 0,pF<|pV 2])<|pV 0) [none,some 0,some 6])<|sFz 7<|sFz 8<|yd<|dP<|yD #[pF<|p2 jd (pV 7)<|pI 1,jv vk #[pV 2,p2 jd (pV 0)<|pI 0,p2 jd (pV 7)<|pI 2],pF<|p2 jd (pV 7)<|pI 2,pF<|pV 8])
def kQ:List D->Option D:=fnP 9 Kr
def ki:FS:=(jf (jt (vW jC<|jr (yc jo 1 1<|ja (pF<|pV 0)<|pFs pN) Jk)<|jc [1] 9)<|V6 7<|KN<|jr (dP<|jv ju #[pV 2,p2 ji (p2 ji (p2 yV (pI 10)<|pV 3)<|pI 1)<|pV 8])<|jr (dP<|pF<|pV 9)<|jr (vW jC<|jr (yc jo 1 1<|ja (pF<|pV 0)<|pFs pN) Jk) Jk)
def v8:FS:=(jf (jt (yc jo 1 1<|ja (pF<|pV 0)<|pFs pN)<|jc [1] 15)<|jcI 14<|yD #[pF<|p2 jd (p2 jd (pV 7)<|p2 jn (pV 15)<|pV 11)<|pI 0,p2 ji (pI 1)<|p2 jn (p2 jG (pV 15)<|pI 10)<|pI 9,pF<|p2 jd (p2 jd (pV 13)<|p2 jn (p2 jG (pV 15)<|pI 100)<|pCB qx #[pV 13])<|pI 0])
def KH:FS:=(jf (jt (yc jo 1 1<|ja (pF<|pV 0)<|pFs pN)<|jc [1] 6)<|jf (jt (dP<|YE pN)<|jc [1] 7)<|jf (qC (kI #[p2 ji (pI 1)<|p2 jn (pV 6)<|pI 6]) (jc [1] 8) ki)<|jf (jt (xz (kI #[p2 jn (p2 jG (pV 6)<|pI 6)<|pI 4]) (jc [4] 0) (KN<|jr (dP<|jv ju #[pV 1,p2 ji (p2 ji (p2 yV (pI 10)<|pV 2)<|pI 7)<|pV 0])<|jr (vW jC<|jr (yc jo 4 1<|ja (pF<|pV 3)<|pFs pN) Jk) Jk) [none,some 2,some 3,some 0,some 1] 1 4)<|jc [1] 10)<|jf (jt (dP<|pCB qx #[pV 7])<|jc [1] 11)<|jf (jt (dP<|jZ (kI #[p2 jn (p2 jG (pV 6)<|pI 24)<|p2 ji (pV 11)<|pI 1]) (jc [] 0) qT (pF<|p2 jd (p2 jd (pV 1)<|p2 jn (p2 ji (p2 jG (pV 2)<|pI 100)<|pV 0)<|pV 3)<|pI 0) [none,some 7,some 6,some 11])<|jc [1] 12)<|jf (sFz 7<|sFz 10<|jt (yc kf 1 1<|ja (pF<|pV 0)<|pFs #[pF<|pV 2,pF<|pV 7,pF<|pV 10,pF<|pV 4,pF<|pV 5])<|jc [1] 13)<|jf (jt (dP<|YE pN)<|jc [1] 14)<|jf (qC (kI #[p2 jn (p2 jG (pV 6)<|pI 1000)<|pI 5]) (jc [1] 8) v8)<|jf (sFz 7<|sFz 10<|sFz 13<|jt (yc vp 1 1<|ja (pF<|pV 0)<|pFs #[pF<|pV 7,pF<|pV 10,pF<|pV 13])<|jc [1] 16)<|sFz 7<|sFz 10<|sFz 12<|sFz 13<|sFz 14<|sFz 16<|yd<|dP<|yD #[jv ju #[pV 2,p2 yV (pI 10)<|pV 3],pF<|pV 7,pF<|pV 10,pF<|pV 12,pF<|pV 13,pF<|pV 14,pF<|pV 16])
def Jd:List D->Option (D×D):=fnM 17 1 KH
def v9:FS:=(zB 6 (p2 yI (pV 8)<|pV 14) (λi j=>i+j)<|pV 15)
def qV:FS:=(jf (jt (dP<|p2 ji (p2 jd (pV 2)<|pV 9)<|p2 jd (pV 6)<|pV 9)<|jc [] 11)<|jf (jt (dP<|pI 0)<|gIx [] 6<|pV 9)<|jf (sFz 5<|jt (dP<|jv kQ #[pV 10,p2 jd (p2 jd (pV 1)<|pI 0)<|pV 9,pV 5,pV 11,p2 jd (pV 3)<|pV 9])<|jc [] 12)<|jf (sFz 12<|jcI 4<|pF<|p2 jd (pV 12)<|pI 0)<|jf (jt (dP<|pF<|p2 jd (pV 12)<|pI 1)<|jc [] 5)<|jf (qC (pIt<|pF<|p2 jd (pV 12)<|pI 2) (gT 3<|gC (jc [] 13)<|gC (jc [] 14)<|gC (jc [] 15) gN) v9)<|jkM 7<|p2 jd (pV 12)<|pI 3)
def Kz:FS:=(jf (jt (dP<|YE pN)<|jc [] 4)<|jf (jt (dP<|pCB K1 #[p2 jd (pV 1)<|pI 1])<|jc [] 5)<|jf (jt (dP<|pCB K1 #[p2 jd (pV 1)<|pI 2])<|jc [] 6)<|jf (jt (dP<|YE pN)<|jc [] 7)<|jf (jt (dP<|pCB yY #[jZ (Qy #[pF<|pV 0]) (gT 2<|gC (jc [] 0)<|gC (jc [] 1) gN) qT (yD #[pF<|p2 jd (pV 1)<|pI 0,pF<|pV 0]) [none,none]])<|jc [] 8)<|jf (qC (Qy #[pF<|pV 0]) (gT 2<|gC (jc [] 9)<|gC (jc [] 10) gN) qV)<|yd<|KN<|jr (KN<|jr (dMv 4)<|jr (dMv 5)<|jr (dMv 6) Jk)<|jr (dMv 7) Jk)
def Jb:List D->Option D:=fnP 16 Kz
def kn:FS:=(jf (jt (dP<|jZ (Jm<|pV 5) (jc [] 0) (jj<|p2 Kh (pV 0)<|p2 jd (pV 1)<|pV 2) (pF<|pV 0) [none,some 5,some 7])<|jc [] 8)<|sFz 8<|V6 6<|yc Jd 1 1<|ja (pF<|pV 0)<|pFs #[pF<|pV 2,pF<|pV 7,pF<|pV 8,pF<|p2 jd (YE #[pI 5,pI 2])<|pCB jdj #[p2 kH (pV 4)<|pI 6]])
def Ka:FS:=(jf (jt (dP<|YE #[pI 0])<|jc [] 1)<|jf (jt (dP<|p2 jn (jv yb #[pV 0,pI 0])<|p2 Jx (pI 10)<|pI 12)<|jc [] 2)<|jf (jt (yc jo 1 1<|ja (pF<|pV 0)<|pFs pN)<|jc [] 3)<|jf (jt (dP<|pF<|p2 jd (YE #[pI 1,pI 2,pI 3,pI 1,pI 2,pI 6])<|p2 jn (pV 3)<|pI 6)<|jc [] 4)<|jf (jt (dP<|jZ (kI #[pV 4]) (jc [] 0) qT (jv ju #[pV 1,p2 yV (pI 10)<|pV 0]) [none,some 2])<|jc [] 5)<|jf (jt (dP<|YE pN)<|jc [] 6)<|jf (qC (kI #[pV 4]) (jc [] 7) kn)<|yd<|dMv 6)
def kN:List D->Option D:=fnP 9 Ka
def ww:FS:=(jf (sFz 2<|jt (dP<|jv Jb #[pV 0,pV 2,pV 4,pV 5])<|jc [] 6)<|jf (sFz 6<|jcI 3<|pF<|pV 6)<|jt (dP<|pF<|p2 jd (pV 6)<|pI 0)<|jc [] 2)
def jnu:FS:=(jf (jt (dP<|jv JG #[pV 0])<|jc [] 2)<|jf (jt (dP<|YE pN)<|jc [] 3)<|jf (qC (pIt<|pF<|pV 1) (gT 2<|gC (jc [] 4)<|gC (jc [] 5) gN) ww)<|yd<|dMv 3)
def V1:List D->Option D:=fnP 7 jnu
def kD:FS:=(jf (jt (dP<|jZ (Jm<|p2 ji (pC ye)<|yD #[pS [101,97,116]]) (jc [] 0) qT (pF<|wA (pV 1) (pV 0) (pV 2)<|pI 0) [none,some 3,some 10])<|jc [] 11)<|jf (jt (dP<|yD #[pF<|p2 yI (pV 9)<|pV 10,pF<|p2 yI (pV 8)<|pV 10,pF<|p3 KG (pV 4) (pV 10)<|pI 0])<|jc [] 12)<|jcI 5<|p2 ji (p2 ji (yD #[pF<|p2 jd (pV 6)<|pI 0,pF<|pV 10])<|pCB Vm #[pV 11])<|pV 12)
def kr:FS:=(jf (jt (dP<|pCB yY #[p2 jd (pV 7)<|pI 0])<|jc [] 8)<|jf (jt (dP<|pCB yY #[p2 jd (pV 7)<|pI 1])<|jc [] 9)<|qC (pIt<|jZ (Jm<|p2 jd (pV 6)<|pI 1) (jc [] 0) qT (pF<|p2 jd (pV 0)<|pI 0) [none]) (jc [] 10) kD)
def YO:FS:=(jf (jt (dP<|jv V1 #[pV 0,pV 1])<|jc [] 2)<|jf (sFz 2<|jt (dP<|jv vQ #[pV 2])<|jc [] 3)<|jf (jt (dP<|jv vH #[pV 2])<|jc [] 4)<|jf (jt (dP<|YE pN)<|jc [] 5)<|jf (qC (pZN 2 #[pF<|pV 0,pF<|p2 jd (pFz<|jv yP #[pV 0,pV 2])<|pI 0]) (gT 2<|gC (jc [] 6)<|gC (jc [] 7) gN) kr)<|yd<|dMv 5)
def km:List D->Option D:=fnP 13 YO
def jah:FS:=(jf (jt (dP<|jv V1 #[pV 0,pV 1])<|jc [] 2)<|jf (sFz 2<|jt (dP<|jv yP #[pV 0,pV 2])<|jc [] 3)<|jf (sFz 3<|jt (dP<|pCB Yp #[jZ (Jm<|pV 1) (gT 2<|gC (jc [] 0)<|gC (jc [] 1) gN) qT (pCB Yp #[pV 0]) [none,none]])<|jc [] 4)<|jf (jt (dCB Yp<|jr (jeG (dP<|jv vQ #[pV 2]) (λa _ _=>(Y1 false (kaD a) ye).bind jbR)<|λ_ _ n=>.int n) Jk)<|jc [] 5)<|jf (jt (dP<|pCB Yp #[jZ (Jm<|p2 jd (pV 3)<|pI 0) (jc [] 0) qT (pCB Yp #[jZ (Jm<|p2 jd (pV 0)<|pI 3) (jc [] 0) qT (pF<|p2 jd (pV 0)<|pI 1) [none]]) [none]])<|jc [] 6)<|yd<|dP<|yD #[pF<|pV 4,pF<|pV 5,pF<|pV 6,pCB Yp #[p2 jd (pV 3)<|pI 2],pCB Yp #[jZ (Jm<|p2 jd (pV 3)<|pI 0) (jc [] 0) qT (pF<|p2 jd (pV 0)<|pI 4) [none]]])
def YX:List D->Option D:=fnP 7 jah
def JJ:FS:=(jt (dP<|p2 ji (pV 4)<|pCB Yp #[pV 5])<|jc [] 4)
def Jt:FS:=(jf (jt (dP<|p2 ji (pV 7)<|pCB Yp #[jZ (Jm<|p2 jd (pV 9)<|pI 3) (jc [] 0) qT (pF<|p2 jd (pV 0)<|pI 1) [none]])<|jc [] 7)<|jt (dP<|p2 ji (pV 8)<|p2 jd (pV 9)<|pI 4)<|jc [] 8)
def zQ:FS:=(jf (jt (dP<|jv V1 #[pV 0,pV 1])<|jc [] 2)<|jf (sFz 2<|jt (dP<|jv JG #[pV 0])<|jc [] 3)<|jf (sFz 3<|sIf (dPT<|jj<|p2 Kh (pV 2)<|YE pN) (jt (dP<|pF<|p2 jd (p2 jd (pV 2)<|p1 V2<|pI 1)<|pI 0)<|jc [] 3)
 jM)<|jf (jt (dP<|pI 0)<|jc [] 4)<|jf (qC (pIt<|pF<|pV 1) (gT 2<|gC (jc [] 5)<|gC (jc [] 6) gN) JJ)<|jf (jt (dP<|pI 0)<|jc [] 7)<|jf (jt (dP<|pI 0)<|jc [] 8)<|jf (qC (pIt<|pF<|p2 jd (pV 3)<|pI 0) (jc [] 9) Jt)<|yd<|dP<|yD #[pF<|pV 4,jv Jc #[pV 2],pF<|pV 7,pCB Yp #[p2 jd (pV 3)<|pI 2],pF<|pV 8])
def J2:List D->Option D:=fnP 10 zQ
def ko(jV:List D->Option D):FS:=(sIf (dPT<|jkS<|jj<|jv jV #[pV 2,pV 3]) (yd<|dP<|pC<|.bl false)
 jM)
def kO(jV:List D->Option D):FS:=(jf (sIf (dPT<|qOr (jj<|xc "list"<|pV 1)<|jj<|xc "tuple"<|pV 1) (jf (sIf (dPT<|jj<|p2 Kh (xc "list"<|pV 1)<|xc "list"<|pV 0) (yd<|dP<|pC<|.bl false)
 jM)<|jf (sIf (dPT<|jj<|p2 Kh (xc "tuple"<|pV 1)<|xc "tuple"<|pV 0) (yd<|dP<|pC<|.bl false)
 jM)<|jf (sIf (dPT<|jj<|p2 Kh (pCB qx #[pV 0])<|pCB qx #[pV 1]) (yd<|dP<|pC<|.bl false)
 jM)<|jf (qC (pZN 2 #[pF<|pV 0,pF<|pV 1]) (gT 2<|gC (jc [] 2)<|gC (jc [] 3) gN)<|ko jV)<|yd<|dP<|pC<|.bl true)
 jM)<|jf (sIf (dPT<|jj<|p2 jfT (pV 1)<|pC .non) (yd<|dP<|p2 jfT (pV 0)<|pC .non)
 jM)<|jf (sIf (dPT<|jj<|xc "str"<|pV 1) (yd<|dP<|jkG (xc "str"<|pV 0)<|p2 kH (pV 0)<|pV 1)
 jM)<|yd<|dP<|jkG (xc "int"<|pV 0)<|jkG (jo9<|xc "bool"<|pV 0)<|p2 kH (pV 0)<|pV 1)
def yj:Nat->List D->Option D
 | 0=>λ_=>none
 | n+1=>fnP 4<|kO<|yj n
def jV:List D->Option D:=yj 9
def jnM:FS:=(jf (jt (dP<|jv kN #[pV 0])<|jc [] 1)<|jf (sFz 1<|jt (dP<|jv kS #[pV 0,pV 1])<|jc [] 2)<|jf (sFz 2<|jt (dP<|jv YX #[pV 1,pV 2])<|jc [] 3)<|jf (sFz 3<|sIf (dPT<|qOr (jkS<|jj<|jv jV #[pV 1,jv kN #[pV 0]])<|jkS<|jj<|jv jV #[pV 2,jv kS #[pV 0,pV 1]]) (yd<|dP<|pC<|.bl false)
 jM)<|jf (sIf (dPT<|qOr (jkS<|jj<|jv jV #[pV 3,jv J2 #[pV 1,pV 2]])<|jj<|p2 Kh (p2 jd (pV 3)<|pI 0)<|p2 ji (p2 ji (p2 jd (pV 3)<|pI 1)<|p2 jd (pV 3)<|pI 2)<|p2 jd (pV 3)<|pI 3) (yd<|dP<|pC<|.bl false)
 jM)<|yd<|dP<|p2 kH (p2 jd (pV 3)<|pI 1)<|pCB Yp #[jZ (Jm<|jv km #[pV 1,pV 2]) (jc [] 0) qT (pCB jcQ #[pSl (pV 0) (oS<|pI 2)<|oS<|pI 8]) [none]])
def jbK:List D->Option D:=fnP 4 jnM
def jp0(st:Stmt):List Str:=((jD st).names.filter λp=>decide (p.2=.local)||decide (p.2=.cell)).map (·.1)
abbrev qk(K:W4)(mg:W6)(x:Str)(st:Stmt)(n:Nat):Prop:=jgP K mg x st (jp0 st) n
abbrev ji9(K:W4)(C:Addr)(x qual:Str)(st:Stmt)(n:Nat):Prop:=jlC K C x qual st (jp0 st) n
structure Txt(P:Program)(w:World)(K:W4)(mg:W6)(cl:Nat->Addr)(vJ:Addr):Prop where
 aa:mg "CLAIM_KINDS" = some (.ref vJ)
 ab:∀(cl:Nat->Addr) (Z:Zn) (H:Hp),Rep ⟨K,cl⟩ Z H ye (.ref vJ) []
 C0:Cls K (cl 0)
 mk0:PySem.W.makesIn K (cl 0)=true
 kc0:PySem.W.keepIn K (.ref<|cl 0)=true
 mg0:mg "Fall" = some (.ref<|cl 0)
 ac:NoAttr K (cl 0) "owed"
 ad:NoAttr K (cl 0) "sizes"
 ae:NoAttr K (cl 0) "marks"
 af:NoAttr K (cl 0) "levels"
 ag:NoAttr K (cl 0) "loans"
 ah:NoAttr K (cl 0) "pool_name"
 ai:NoAttr K (cl 0) "cash"
 aj:NoAttr K (cl 0) "entries"
 ak:NoAttr K (cl 0) "served"
 al:NoAttr K (cl 0) "moves"
 am:mg "bool" = none
 ao:mg "dict" = none
 ap:mg "enumerate" = none
 aq:mg "int" = none
 ar:mg "isinstance" = none
 au:mg "len" = none
 av:mg "list" = none
 aw:mg "max" = none
 ax:mg "min" = none
 ay:mg "range" = none
 az:mg "sorted" = none
 aA:mg "str" = none
 aB:mg "sum" = none
 aC:mg "tuple" = none
 aD:mg "zip" = none
 aE:qk K mg "tenths_of" (top 2) 1
 aF:qk K mg "order_named" (top 4) 2
 aG:qk K mg "look_order" (top 5) 2
 aH:qk K mg "loans_by_ends" (top 6) 1
 aI:qk K mg "move_loan" (top 7) 5
 aJ:jgP K mg "shared" (top 10) ["needs","cash","whole","gets","left","at","need"] 2
 aK:ji9 K (cl 0) "need_of" "Fall.need_of" (qL (top 13) 3) 2
 aL:ji9 K (cl 0) "take_guard" "Fall.take_guard" (qL (top 13) 6) 4
 aM:ji9 K (cl 0) "book_behind" "Fall.book_behind" (qL (top 13) 7) 2
 aN:qk K mg "eaten" (top 15) 3
 aO:qk K mg "begun_book" (top 18) 1
 aP:qk K mg "with_dues" (top 20) 2
 aQ:qk K mg "coins_got" (top 28) 1
 aR:qk K mg "days_missed" (top 29) 1
 aS:qk K mg "_law_keywords" (top 32) 0
 aT:qk K mg "_law_draw" (top 33) 2
 aU:qk K mg "_law_coins" (top 36) 1
 aV:qk K mg "_law_shared_names" (top 40) 1
 aW:qk K mg "_law_income" (top 44) 1
 aX:qk K mg "_law_loss" (top 45) 1
 aY:qk K mg "_law_paid" (top 48) 1
 aZ:qk K mg "asked" (top 1) 2
 b7:qk K mg "loans_behind" (top 8) 3
 b8:ji9 K (cl 0) "__init__" "Fall.__init__" (qL (top 13) 0) 5
 b9:ji9 K (cl 0) "give" "Fall.give" (qL (top 13) 4) 4
 ba:jlC K (cl 0) "take_share" "Fall.take_share" (qL (top 13) 5) ["self","place","names","needs","gets","full","name","need","got"] 3
 bc:qk K mg "begun" (top 17) 1
 be:qk K mg "order_now" (top 19) 2
 bf:qk K mg "_law_next" (top 34) 2
 bg:qk K mg "_law_name" (top 35) 2
 bh:qk K mg "_law_rule" (top 37) 4
 bi:qk K mg "_law_days" (top 46) 2
 bj:ji9 K (cl 0) "take_parts" "Fall.take_parts" (qL (top 13) 1) 2
 bm:ji9 K (cl 0) "take_rule" "Fall.take_rule" (qL (top 13) 2) 3
 bn:qk K mg "last_state" (top 27) 2
 bo:qk K mg "_law_order" (top 38) 6
 bp:qk K mg "_law_guards" (top 41) 5
 br:qk K mg "fell" (top 12) 5
 bt:qk K mg "_law_orders" (top 39) 7
 bu:qk K mg "pool_day" (top 21) 5
 bv:qk K mg "_law_pool" (top 42) 6
 bw:jgP K mg "day_done" (top 22) ["deal","state","incomes","losses","books","loans","waiting","log","at_of","at","pool","came","told","kind","other","coins"] 4
 bx:jgP K mg "_law_deal" (top 43) ["_law_script","_law_at","_law_seed","_law_n","_law_many","_law_names","_law_deal_here","_law_k","_law_others"] 1
 bz:qk K mg "ran" (top 23) 2
 bA:qk K mg "claim_rows" (top 26) 2
 bB:qk K mg "ledger" (top 30) 2
 bC:qk K mg "_law_due" (top 49) 2
 bD:qk K mg "_law_same" (top 47) 2
 bE:qk K mg "law" (top 50) 1
section
variable {P:Program}{w:World}{K:W4}{mg:W6}{cl:Nat->Addr}{vJ:Addr}(T:Txt P w K mg cl vJ)
include T
set_option maxHeartbeats 40000000 in
def jnr:((((NP P w cl T.aE 1 qh/\NP P w cl T.aF 1 vI)/\NP P w cl T.aG 1 vy/\NP P w cl T.aH 1 yu/\NM P w cl T.aI 1 yK)/\(NP P w cl T.aJ 1 Jg/\OP P w cl mg T.aK 1 jg)/\OM P w cl mg T.aL 1 yB/\OP P w cl mg T.aM 1 jO/\NP P w cl T.aN 1 QY)/\((NP P w cl T.aO 1 vz/\NP P w cl T.aP 1 qd)/\NP P w cl T.aQ 1 vQ/\NP P w cl T.aR 1 vH/\NP P w cl T.aS 1 vn)/\(NP P w cl T.aT 1 yb/\NP P w cl T.aU 1 jC/\NP P w cl T.aV 1 ym)/\NP P w cl T.aW 1 jR/\NP P w cl T.aX 1 yi/\NP P w cl T.aY 1 Jc) /\
 (((NP P w cl T.aZ 2 VN/\NP P w cl T.b7 2 vk)/\OM P w cl mg T.b8 2 yT/\OM P w cl mg T.b9 2 jx/\OM P w cl mg T.ba 2 jT)/\(NP P w cl T.bc 2 JG/\NP P w cl T.be 2 vP/\NJ P w cl T.bf 2 1 jo)/\NP P w cl T.bg 2 ju/\NP P w cl T.bh 2 yR/\NP P w cl T.bi 2 kS) /\
 ((OM P w cl mg T.bj 3 jS/\OM P w cl mg T.bm 3 jw)/\NP P w cl T.bn 3 yP/\NJ P w cl T.bo 3 1 vR/\NJ P w cl T.bp 3 1 vp) /\
 (NP P w cl T.br 4 jaj/\NJ P w cl T.bt 4 1 kf) /\
 (NP P w cl T.bu 5 kQ/\NJ P w cl T.bv 5 1 Jd) /\
 (NP P w cl T.bw 6 Jb/\NP P w cl T.bx 6 kN) /\
 NP P w cl T.bz 7 V1 /\
 (NP P w cl T.bA 8 km/\NP P w cl T.bB 8 YX/\NP P w cl T.bC 8 J2) /\
 NP P w cl T.bD 9 jV /\
 NP P w cl T.bE 10 jbK:=by
 cases T;refine jgt ?_ λa=>jgt ?_ λb=>jgt ?_ λc=>jgt ?_ λi=>jgt ?_ λk=>jgt ?_ λl=>jgt ?_ λm=>jgt ?_ λe=>jgt ?_ λn=>?_
 all_goals repeat' apply And.intro
 all_goals
  (first | refine okR (by assumption) (λ_=>rfl) (λj f fd S F _ base=>?_) _ | refine okN (by assumption) λf fd S F base=>?_ | refine okO (by assumption) λf fd S F base=>?_)
  (first | refine' jpR F.fn S rfl λg A outer s H E h=>?_ | refine' jlv F.fn S rfl λg A outer s H E h=>?_)
  apply Exists.intro
  repeat' first | exact rfl | (show QB _ _ _ _ _;first | apply joK | apply qI | apply jp4 | apply jnI | apply jnb | apply jjN | apply jkF | apply jkC | apply QP.fzb | apply QK.ix | apply QK.fld | apply QP.bb) | (show QSs _ _ _ _ _ _;first | apply jhY | apply jfc | apply jje) | (show QP _ _ _ _ _;first | ((with_reducible show QP _ _ _ _ (pCB jcQ _));refine' qW (VC rfl) uj ?_ kJ ?_) | ((with_reducible show QP _ _ _ _ (pCB jcQ _));refine' qW (QK.sumT (K:=K) rfl rfl) uj ?_ kJ ?_) | ((with_reducible show QP _ _ _ _ (pCB Yp _));refine' qW (Vx rfl) jcz ?_ kJ ?_) | ((with_reducible show QP _ _ _ _ (pCB yY _));refine' K3 (jbf rfl) jkH ?_ jbo ?_) | ((with_reducible show QP _ _ _ _ (pCB xP _));refine' qW (xE rfl) jhS ?_ zT ?_) | ((with_reducible show QP _ _ _ _ (pCB K1 _));refine' K3 xn jj7 ?_ Yz ?_) | ((with_reducible show QP _ _ _ _ (pCB jn2 _));refine' qW (jdb rfl) jhS ?_ jc5 ?_) | ((with_reducible show QP _ _ _ _ (pCB Vm _));refine' K3 Qb jfW ?_ VI ?_) | ((with_reducible show QP _ _ _ _ (pCB Yp _));refine' qW (QK.sumL (K:=K) rfl rfl) jcz ?_ kJ ?_) | ((with_reducible show QP _ _ _ _ (pCB jdj _));refine' K3 jdr jji ?_ xh ?_) | ((with_reducible show QP _ _ _ _ (pCB Yp _));refine' qW (VC rfl) uj ?_ kJ ?_) | ((with_reducible show QP _ _ _ _ (xc "list" _));refine' jcg (T:="list") (by decide) ?_ ?_ Yz ?_) | ((with_reducible show QP _ _ _ _ (xc "tuple" _));refine' jcg (T:="tuple") (by decide) ?_ ?_ VI ?_) | ((with_reducible show QP _ _ _ _ (xc "str" _));refine' jcg (T:="str") (by decide) ?_ ?_ jed ?_) | ((with_reducible show QP _ _ _ _ (xc "int" _));refine' jcg (T:="int") (by decide) ?_ ?_ xh ?_) | ((with_reducible show QP _ _ _ _ (xc "bool" _));refine' jcg (T:="bool") (by decide) ?_ ?_ ja7 ?_) | ((with_reducible show QP _ _ _ _ (pBM "str" xr _ _));refine' jqb PySem.F.plainAttrs_str PySem.F.slot_str_split PySem.F.type_str_split jgR jgd ?_ ?_) | ((with_reducible show QP _ _ _ _ (pBM "str" ja5 _ _));refine' jqb PySem.F.plainAttrs_str PySem.F.slot_str_join PySem.F.type_str_join jkI jjY ?_ ?_) | apply joC | apply jhH | apply qS | apply jpD | apply jmO | apply jpN | apply jmD | apply joS | apply jpp | apply jj6 | apply jpw | apply jqP | apply jo5 | apply jo1 | apply joB | apply jqN | apply jpm | apply jgU | apply jpI | apply jlU | apply jo3 | apply jlw | apply jp6 | apply jno | apply jqH | apply jqm | apply jiR | apply jg3 | apply jjl | apply jfi | apply jlg | apply jj2 | apply joT | apply QK.add | apply QK.call | apply QK.sl | apply jpA | apply QB.f) | (show QPs _ _ _ _ _;first | apply jiX | apply jmE) | (show QE _ _ _ _ _;first | ((with_reducible show QE _ _ _ _ (dCB KM _));refine' QM xF jb1 ?_ z7 ?_) | ((with_reducible show QE _ _ _ _ (dCB xP _));refine' QM (xE rfl) jhS ?_ zT ?_) | ((with_reducible show QE _ _ _ _ (dCB Yp _));refine' QM (Vx rfl) jcz ?_ kJ ?_) | apply jqz | apply jgb | apply jms | apply jiC | apply jnt | apply jgY | apply jgD | apply jm3 | apply jo6 | apply jlL | apply jhT | apply jnJ | apply jou | apply QE.fz | apply jct | apply QP.d) | (show QBs _ _ _ _ _;first | apply jif | apply jnU) | (show QS _ _ _ _ _ _;first | apply jk2 | apply jpa | apply jnB | apply QS.fz | apply wu (hsw:=by with_unfolding_all rfl) | apply jl3 | apply jng | apply jjo | apply jep | apply jix | apply jl6 | apply jmb | apply jdQ | apply je9 | apply jio | apply jgr | apply jgg | apply ja0 | apply jlW | apply jkz | apply jfY | apply jg1 | apply jga | apply jjd | apply jcV | apply joU | apply jm2) | (show QT _ _ _ _ _;first | apply jnR | apply jmv | apply jn5 | apply QW.t) | (show QGs _ _ _ _ _ _;first | apply jfX | apply ji2) | (show QG _ _ _ _ _ _;first | apply jhZ | apply jhv | apply QK.g_tup) | (show QDs _ _ _ _ _;first | apply jin | apply jlR) | (show QIb _ _ _ _ _ _;first | apply jew | apply QK.ib_any | apply QI.b') | (show QL _ _ _ _ _ _;first | apply jm7 | apply jmi) | (show QI _ _ _ _ _ _;first | apply jnx | apply jkg | apply jiE | apply jlq | apply jnj | apply joZ) | (show QJ _ _ _ _ _ _ _;first | apply jkD | apply jjr) | (show QW _ _ _ _ _;first | apply jlh | apply jkq | apply jmI | apply jo2) | (show QO _ _ _ _ _;first | apply jjy | apply jkE) | (show QK3 _ _ _ _ _;first | apply jl4 | apply qk2) | (show QIf _ _ _ _ _;first | apply jgc | apply jaO) | apply jgG | (show QTE _ _ _ _ _;first | apply jnm | apply QT.d | apply QWE.test) | apply jql | apply jqM | apply c_ne | apply jqv | apply c_in | apply jqA | apply jqq | apply QK.c_notin | apply QK.c_ne | apply QK.c_in | apply jaG | apply xy | apply QK.sumL | (show QWE _ _ _ _ _;first | apply joz | apply jmk | apply jmT | apply ji3) | apply jcZ | apply jfl | (show ∀(Z:Zn) (H:Hp),Rep _ _ _ _ _ _;intro _ _;apply_assumption) | exact Or.inl rfl | exact Or.inr rfl | exact Or.inr (Or.inl rfl) | exact Or.inr (Or.inr rfl) | exact λ_=>rfl | exact λ_ _=>rfl | exact λ_ _ _=>rfl | exact h.mono (by decide) | exact h.mono (by first | exact N1 _ | exact N9 (by decide)<|Nat.le_add_right _ _) | apply jaO | exact S.nd | (show BlockOk (jI _ _ _ _ _ _ _) _ _ _;exact bkI S) | (show BlockOk _ _ _ _;exact bkN S) | exact PassesOwn.never | exact jnW | exact jlX | (intro _ _ _ _;first | show QE _ _ _ _ _ | show QP _ _ _ _ _ | show QG _ _ _ _ _ _ | show QIf _ _ _ _ _ | show QT _ _ _ _ _ | show QKv _ _ _ _ _ _) | exact⟨rfl,rfl,rfl,rfl⟩ | exact ndN (by decide +kernel) | decide +kernel | with_unfolding_all rfl | assumption | exact a.1.1.1.1 | exact a.1.1.1.2 | exact a.1.1.2.1 | exact a.1.1.2.2.1 | exact a.1.1.2.2.2 | exact a.1.2.1.1 | exact a.1.2.1.2 | exact a.1.2.2.1 | exact a.1.2.2.2.1 | exact a.1.2.2.2.2 | exact a.2.1.1.1 | exact a.2.1.1.2 | exact a.2.1.2.1 | exact a.2.1.2.2.1 | exact a.2.1.2.2.2 | exact a.2.2.1.1 | exact a.2.2.1.2.1 | exact a.2.2.1.2.2 | exact a.2.2.2.1 | exact a.2.2.2.2.1 | exact a.2.2.2.2.2 | exact b.1.1.1 | exact b.1.1.2 | exact b.1.2.1 | exact b.1.2.2.1 | exact b.1.2.2.2 | exact b.2.1.1 | exact b.2.1.2.1 | exact b.2.1.2.2 | exact b.2.2.1 | exact b.2.2.2.1 | exact b.2.2.2.2 | exact c.1.1 | exact c.1.2 | exact c.2.1 | exact c.2.2.1 | exact c.2.2.2 | exact i.1 | exact i.2 | exact k.1 | exact k.2 | exact l.1 | exact l.2 | exact m | exact e.1 | exact e.2.1 | exact e.2.2 | exact n | apply xy | apply jaG | apply jiY | apply jpC
end
abbrev Lt(w:List Nat):Prop:=∀ c∈w,97<=c/\c<=122
def jdA(h1:Lt a)(h2:Lt b):Lt (a++b):=λc d=>(N4.mp d).elim (h1 c) (h2 c)
def jhe(h:97<=c/\c<=122):Lt [c]:=λd hd=>by rw[M9.mp hd];exact h
abbrev uN(ns:List Int):Prop:=∀ x∈ns,Builtin.Int.intBits x<=2 ^ 20
def Qp(ns)(m:uN ns)  (g:0<=k) (h1:k<=100000):∃ v,An3 (yb [.lst false<|ns.map D.int,.int k]=some (.int v)) (0<=v) (v<170141183460469231731687303715884105727):=by
 have n:0<=7919000003*k*k/\7919000003*k*k<=7919000003*100000*100000:=⟨Int.mul_nonneg ∅ g,Int.mul_le_mul ∅ h1 g ∅⟩;have a:(91343852333181432387730302044767688731+7919000003*k*k).natAbs<2 ^ 1000:=by lia
 cases ns with
 | nil=>
  have h:=Ym (i:=0+k+1) ∅ a;refine⟨(0+k+1)*(91343852333181432387730302044767688731+7919000003*k*k)%170141183460469231731687303715884105727,?_,U2 _<|by decide,U1 _<|by decide⟩;simp(disch:=lia) [yb,jy,Yn,Ym,jh,-Int.zero_add]
 | cons c C=>
  have j:0<((c::C).length:Int):=by simp
  have g2:=U1 k j;have b:(k%((c::C).length:Int)).toNat<(c::C).length:=by lia
  have hi:jd (.lst false<|(c::C).map D.int) (.int<|k%((c::C).length:Int))=some (.int (c::C)[(k%((c::C).length:Int)).toNat]):=by
   rw[jdy (U2 k<|show((c::C).length:Int)≠0 by lia)<|by rw[L1];exact g2,List.getElem?_map,E1 b];rfl
  have l:=m _<|List.getElem_mem b;generalize(c::C)[(k%((c::C).length:Int)).toNat]=z at hi l;have h:=ji1 (i:=z+k+1) (by rw[Int.add_assoc];exact jf0 l ∅) a;have d:((c::C).length:Int)=(((c::C).map D.int).length:Int):=by simp
  rw[d] at hi g2 j;refine⟨(z+k+1)*(91343852333181432387730302044767688731+7919000003*k*k)%170141183460469231731687303715884105727,?_,U2 _<|by decide,U1 _<|by decide⟩;generalize(c::C).map D.int=NS at *;have e:0<NS.length:=by lia
  have f:¬ NS=[]:=λz=>by rw[z] at e;simp at e
  simp(disch:=lia) [yb,jy,Yn,Ym,jh,f,hi,h]
def vj(ns:List Int):frzs (ns.map D.int)=true:=yM (λ_=>rfl) _
def Yi(ns:List Int):fzs (ns.map D.int)=ns.map D.int:=vx (λ_=>rfl) _
noncomputable abbrev At(n:Int):D:=.lst true [.int n]
def vb(ns)(a:uN ns)  (d:0<=n) (h1:n<100000):∃ v,jo [.lst false<|ns.map D.int,At n]=some (.int v,At<|n+1)/\0<=v:=by
 obtain⟨v,e,g,_⟩:=Qp ns a (k:=n+1) ∅ ∅;refine⟨v,?_,g⟩;have b:jd (At n) (.int 0)=some (.int n):=rfl;have c:jd (At<|n+1) (.int 0)=some (.int<|n+1):=rfl;unfold jo;rw[vY];simp[Ks,b,c,ixN,e,YN]
def Y2(e:0<=n):∃ v,An3 (jC [.int n]=some (.int v)) (1<=v) (v<=1000000000000):=by
 have p3:Jx (.int 10) (.int 12)=some (.int 1000000000000):=rfl;by_cases a:n%4=0
 ·by_cases c:n/4%2=0
  ·exact⟨1,by simp(disch:=lia) [jC,jy,vV,jh,jA,a,c,jb];rfl,by decide,by decide⟩
  ·have d:n/4%2=1:=by lia
   exact⟨1000000000000,by simp(disch:=lia) [jC,jy,vV,jh,jA,a,d,jb];rfl,by decide,by decide⟩
 ·by_cases b:n%4=1
  ·exact⟨1+n/4%20,by simp(disch:=lia) [jC,jy,vV,jh,jA,b],by lia,by lia⟩
  ·exact⟨1+n/4%1000000000000,by simp(disch:=lia) [jC,jy,vV,jh,jA,a,b,p3],by lia,by lia⟩
noncomputable def ABC:List Nat:=[97,98,99,100,101,102,103,104,105,106,107,108,109,110,111,112,113,114,115,116,117,118,119,120,121,122]
def jek(a:0<=i)(h1:i<26):jd (.str ABC) (.int i)=some (.str [ABC.getD i.toNat 0]):=jqJ (by decide) a (by have:ABC.length=26:=rfl;lia)
def jcs(i:Int)(a:0<=i)(h1:i<26):97<=ABC.getD i.toNat 0/\ABC.getD i.toNat 0<=122:=by
 have:∀ c∈ABC,97<=c/\c<=122:=by decide
 exact this _<|Va (by have:ABC.length=26:=rfl;lia)
def jkc:∀ i,i<26->∀ j,j<26->ABC.getD i 0=ABC.getD j 0->i=j:=by decide
noncomputable def KW:List (List Nat):=[[112,111,111,108],[99,108,97,105,109],[112,111,116],[101,97,116],[111,114,100,101,114],[112,97,114,116],[112,97,121],[115,104,97,114,101],[114,101,112,97,121],[102,105,108,108],[108,101,110,100],[98,97,99,107],[114,101,115,116],[108,111,111,107],[103,117,97,114,100],[100,101,98,116],[111,110],[108,97,116,101],[101,97,114,108,121],[113,117,105,116]]
def ud:vn []=↑(KW.map D.str):=by
 have a:jhx [112,111,111,108,32,99,108,97,105,109,32,112,111,116,32,101,97,116,32,111,114,100,101,114,32,112,97,114,116,32,112,97,121,32,115,104,97,114,101,32,114,101,112,97,121,32,102,105,108,108,32,108,101,110,100,32,98,97,99,107,32,114,101,115,116,32,108,111,111,107,32,103,117,97,114,100,32,100,101,98,116,32,111,110,32,108,97,116,101,32,101,97,114,108,121,32,113,117,105,116] [32]=KW:=by decide +kernel
 have b:xr (.str [112,111,111,108,32,99,108,97,105,109,32,112,111,116,32,101,97,116,32,111,114,100,101,114,32,112,97,114,116,32,112,97,121,32,115,104,97,114,101,32,114,101,112,97,121,32,102,105,108,108,32,108,101,110,100,32,98,97,99,107,32,114,101,115,116,32,108,111,111,107,32,103,117,97,114,100,32,100,101,98,116,32,111,110,32,108,97,116,101,32,101,97,114,108,121,32,113,117,105,116]) [.str [32]]=↑(KW.map D.str):=by
  rw[<- a];rfl
 simp[vn,jy,Jq,b]
def jaF(w)(o)(l:W1):Y1 false (.str w) (.lst o<|l.map D.str)=some (.bl<|decide<|w∈l):=by
 show(bif jhi (.str w) (l.map D.str) then some (D.bl<|false != inL (.str w) (l.map D.str)) else none)=_;rw[xk,jaT];simp
def jb3:∀ ws:List (List Nat),V3 [] ws=ws.flatten
 | []=>rfl
 | w::ws=>by rw[V8];simp
structure Nm(w:List Nat):Prop where
 l:w.length<=9
 r:Lt w
def jbX{l:W1}(h:∀ w∈l,w.length=1/\Lt w):(l.map List.length).sum=l.length/\l.flatten.length=l.length/\Lt l.flatten:=by
 induction l with
 | nil=>exact⟨rfl,rfl,λc a=>by simp at a⟩
 | cons w l b=>
  have d:=b λx e=>h x (by simp[e]);have f:=h w (by simp);refine⟨by simp only[L5,List.sum_cons,M3];lia,by simp only[List.flatten_cons,N6,M3];lia,?_⟩;intro c a;rw[List.flatten_cons,N4] at a;exact a.elim (f.2 c)<|d.2.2 c
noncomputable def sp(s:Int):Int:=s/6%(2+s%6-1)
noncomputable def two(s k:Int):List Nat:=[ABC.getD ((s/7+k/26)%26).toNat 0,ABC.getD ((s/3+k)%26).toNat 0]
def nmW(s:Int)(W:List Nat)(k:Int):List Nat:=Yg W none (some<|sp s)++two s k++Yg W (some<|sp s+2) none
def nmF(s:Int)(W:List Nat)(k:Int):List Nat:=if nmW s W k∈KW then nmW s W k++[122] else nmW s W k
def jpn(a:0<=s):0<=sp s/\sp s+2<=2+s%6:=by
 have b:=U2 (s/6) (show(2+s%6-1)≠0 by lia);have g2:=U1 (s/6) (show 0<(2+s%6-1) by lia);unfold sp
 lia
structure Bse(s:Int)(W:List Nat):Prop where
 s0:0<=s
 l:W.length=(2+s%6).toNat
 r:Lt W
def two_lt(b:0<=s)(d:0<=k):Lt (two s k):=λc a=>by
 simp only[two,M5,List.not_mem_nil,or_false] at a;rcases a with rfl | rfl
 ·exact jcs _ ∅ ∅
 ·exact jcs _ ∅ ∅
def jaP(h:Bse s W)(d:0<=k):(nmW s W k).length=(2+s%6).toNat/\Lt (nmW s W k):=by
 have b:=jpn h.s0;have e:=h.l;refine⟨?_,jdA (jdA (λc a=>h.r c<|uG a)<|two_lt h.s0 d) λc a=>h.r c<|uG a⟩;unfold nmW;rw[N6,N6,jfs _ b.1,jbM _ ∅,E2,List.length_drop];show min _ _+2+_=_
 lia
def uB(h:Bse s W)(b:0<=k):Nm (nmF s W k):=by
 have a:=jaP h b;unfold nmF;split
 ·exact⟨by rw[N6,List.length_singleton];lia,jdA a.2<|jhe ⟨by decide,by decide⟩⟩
 ·exact⟨by lia,a.2⟩
def KR(h:Bse s W)(f:0<=k)(l:k<676)(g:0<=k')(m:k'<676)(e:nmF s W k=nmF s W k'):k=k':=by
 have a:=(jaP h f).1;have b:=(jaP h g).1;have e2:nmW s W k=nmW s W k':=by
  unfold nmF at e;by_cases c:nmW s W k∈KW<;>by_cases d:nmW s W k'∈KW
  ·rw[if_pos c,if_pos d] at e;exact List.append_cancel_right e
  ·rw[if_pos c,if_neg d] at e;have:=congrArg List.length e;simp at this;lia
  ·rw[if_neg c,if_pos d] at e;have:=congrArg List.length e;simp at this;lia
  ·lia
 injection (List.append_cancel_left<|List.append_cancel_right e2) with e4 e5;injection e5 with e5 _;have i:∀{x y:Int},ABC.getD (x%26).toNat 0=ABC.getD (y%26).toNat 0->x%26=y%26:=λe=>by have:=jkc _ (by omega) _ (by omega) e;omega
 have j:=i e4;have e5:=i e5;have hd:∀{x:Int},0<=x->x<676->x/26%26=x/26:=λa b=>Int.emod_eq_of_lt (Int.ediv_nonneg a<|by decide)<|Int.ediv_lt_of_lt_mul (by decide) b;rw[Int.emod_add_cancel_left,hd f l,hd g m] at j;rw[<- Int.mul_ediv_add_emod k 26,j,Int.emod_add_cancel_left.mp e5,Int.mul_ediv_add_emod]
def jjX{s:Int}(I:0<=s):∃ W:List Nat,Bse s W/\∀ k:Int,0<=k->ju [.int s,.int k]=some (.str<|nmF s W k):=by
 have g:=yA (j:=2+s%6) ∅ ∅;have h:lim (qe 0 (2+s%6).toNat).length=true:=jb (by rw[jQ];lia);obtain⟨S,l,v,J⟩:=KZ (G:=jc [] 0) (p:=pF<|p2 jd (pV 1)<|p2 jn (p2 ji (p2 jG (pV 2)<|pI 42)<|p2 yV (p2 yV (pV 0)<|pV 0)<|p2 jn (p2 jG (pV 2)<|pI 1100)<|pI 5)<|pI 26) (Good:=λd=>∃ w,d=.str w/\(w.length=1/\Lt w)) (P:=λρ=>∃ o,ρ=[o,some<|.str ABC,some<|.int s]) (xs:=qe 0 (2+s%6).toNat) (by
  rintro x K ρ ⟨o,rfl⟩;obtain⟨i,hi,rfl⟩:=M7.mp K;have hi:=List.mem_range.mp hi;have L:0<=(0+i)*(0+(i:Int))/\(0+i)*(0+(i:Int))<=8*8:=⟨Int.mul_nonneg ∅ ∅,Int.mul_le_mul ∅ ∅ ∅ ∅⟩;have l:=jek (i:=(s/42+(0+i)*(0+i)*(s/1100%5))%26) ∅ ∅;have y:=jcs ((s/42+(0+i)*(0+i)*(s/1100%5))%26) ∅ ∅;generalize ABC.getD ((s/42+(0+i)*(0+i)*(s/1100%5))%26).toNat 0=c at l y;refine⟨[some<|.int<|0+i,some<|.str ABC,some<|.int s],.str [c],rfl,?_,⟨[c],rfl,rfl,jhe y⟩,_,rfl⟩;simp(disch:=lia) [qv,jh,jA,l,-Int.zero_add]) (ρ:=[none,some<|.str ABC,some<|.int s]) ⟨none,rfl⟩
 rw[jQ] at v;obtain⟨W,rfl,M⟩:=YZ (f:=D.str) (Q:=λw=>w.length=1/\Lt w) J;rw[L1] at v;obtain⟨T,U,N⟩:=jbX M;have z:Yq [] W=true:=by
  unfold Yq;simp only[List.length_nil,Nat.mul_zero];exact X5 ∅
 have A:Bse s W.flatten:=⟨I,by lia,N⟩;refine⟨W.flatten,A,λk O=>?_⟩;have B:=jek (i:=(s/7+k/26)%26) ∅ ∅;have e2:=jek (i:=(s/3+k)%26) ∅ ∅;have C:=jaP A O;have m:∀ lo hi,jpi lo hi (.str W.flatten)=some (.str<|Yg W.flatten lo hi):=λlo hi=>jqk ∅;have q:jn (.int<|s/6) (.int<|2+s%6-1)=some (.int<|s/6%(2+s%6-1)):=jh ∅;have r:s/6%(2+s%6-1)=sp s:=rfl;rw[r] at q;unfold nmF nmW two at *;generalize ABC.getD ((s/7+k/26)%26).toNat 0=c1,ABC.getD ((s/3+k)%26).toNat 0=c2,sp s=sp at *;have s1:=m none<|some sp;have s2:=m (some<|sp+2) none;generalize Yg W.flatten none (some sp)=X1,Yg W.flatten (some<|sp+2) none=X2 at *;have t:=C.1;rw[N6,N6] at t;have a0:ji (.str [c1]) (.str [c2])=some (.str [c1,c2]):=uF (a:=[c1]) (b:=[c2]) (by simp);have E:=uF (a:=X1) (b:=[c1,c2]) ∅;have F:=uF (a:=X1++([c1,c2])) (b:=X2) (by simp at *;lia);generalize X1++([c1,c2])++X2=w at *;have H:=jaF w true KW;have R:=uF (a:=w) (b:=[122]) (by have:=C.1;simp;lia);have ek:=ud;have u:V3 [] W=W.flatten:=jb3 W;rw[<- u] at s1 s2;generalize KW.map D.str=KL at *;have n:([97,98,99,100,101,102,103,104,105,106,107,108,109,110,111,112,113,114,115,116,117,118,119,120,121,122]:List Nat)=ABC:=rfl;by_cases e:w∈KW
 ·rw[if_pos e];unfold ju;rw[jy];unfold Yx;rw[n];simp(disch:=lia) [jh,jA,q,g,h,l,z,B,e2,a0,s1,s2,E,F,ek,H,R,e,jk,List.getElem?_cons_zero,Option.join,-List.append_assoc]
 ·rw[if_neg e];unfold ju;rw[jy];unfold Yx;rw[n];simp(disch:=lia) [jh,jA,q,g,h,l,z,B,e2,a0,s1,s2,E,F,ek,H,e,jk,List.getElem?_cons_zero,Option.join,-List.append_assoc]
def sq(h:f ρ=some (.nx ρ'))(k:g ρ'=r):jf f g ρ=r:=by
 rw[jg7,h];exact k
def lpF(h:(G x ρ).bind f=some (.nx ρ2)):j8 G f (x::xs) ρ=j8 G f xs ρ2:=by
 refine ob h λr a b=>?_;rw[yz,a,L4,b];rfl
def cpE(h:G x ρ=some ρ1)(k:p ρ1=some y):jU G qT p (x::xs) ρ=(jU G qT p xs ρ1).bind λys=>some (y::ys):=by
 rw[yS,h,L4,qT,L4,cond_true,k];rfl
def lpE(h:G x ρ=some ρ1)(k:f ρ1=some (.nx ρ2)):j8 G f (x::xs) ρ=j8 G f xs ρ2:=by
 rw[yz,h,L4,k];rfl
noncomputable abbrev vE:List Nat:=[115,104,97,114,101]
noncomputable abbrev YI:List Nat:=[114,101,112,97,121]
noncomputable abbrev jkX:List Nat:=[112,97,121]
noncomputable abbrev jbB:List Nat:=[102,105,108,108]
noncomputable abbrev qp:List Nat:=[108,101,110,100]
noncomputable abbrev Ve:List Nat:=[98,97,99,107]
noncomputable abbrev Vq:List Nat:=[114,101,115,116]
def jdI(C P O:W1)(kw w:List Nat):Prop:=((kw=jkX\/kw=YI\/kw=Vq)/\w∈C)\/(kw=jbB/\w∈P)\/(kw=Ve/\w∈O)
inductive RuleS (C P O:W1):D->Prop where
 | two (kw w:List Nat) (hk:kw≠vE) (h1:Wd kw) (h2:Wd w) (hm:jdI C P O kw w):RuleS C P O (.tup [.str kw,.str w])
 | share (ws:W1) (hl:ws.length<=6) (h:∀ w∈ws,Wd w) (hm:∀ w∈ws,w∈C) (nd:ws.Nodup):RuleS C P O (.tup [.str vE,.tup (ws.map D.str)])
 | lend (w:List Nat) (i:Int) (h:Wd w) (hm:w∈O):RuleS C P O (.tup [.str [108,101,110,100],.str w,.int i])
def RuleS.fz(h:RuleS C P O d):QD.fz d=d:=by cases h<;>simp
def RuleS.frz(h:RuleS C P O d):QD.frz d=true:=by cases h<;>simp
def Ye(h:w.all (λc=>decide<|c<200)=true)(a:w.length<=30):Wd w:=⟨a,λc b=>by
 have:=X7<|List.all_eq_true.mp h c b;lia⟩
noncomputable abbrev W2:=List Nat×Int
noncomputable def e2(p:W2):D:=.tup [.str p.1,.int p.2]
def JO(l:List W2):fzs (l.map e2)=l.map e2:=vx (λ_=>rfl) _
def ya(l:List W2):frzs (l.map e2)=true:=yM (λ_=>rfl) _
def QR{l:List W2}(h:∀ p∈l,Wd p.1)(n):kG (n+1) (l.map e2)=true:=Vr λd hd=>by
 obtain⟨p,a,rfl⟩:=M7.mp hd;show kG n [.str p.1,.int p.2]=true;simp[kG,JC (h p a).2]
structure OrdS where
 nm:List Nat
 parts:List W2
 rules:List D
def yn(o:Bool)(x:OrdS):D:=.tup [.str x.nm,.lst false<|x.parts.map e2,.lst o x.rules]
structure OrdOk(C P O:W1)(x:OrdS):Prop where
 nm:Wd x.nm
 parts:∀ p∈x.parts,Wd p.1/\1<=p.2/\p.2<=10/\p.1∈C
 plen:x.parts.length<=10
 rules:∀ d∈x.rules,RuleS C P O d
 len:x.rules.length<=10
 rest:∃ R w,x.rules=R++[.tup [.str Vq,.str w]]
def OrdOk.fzr(h:OrdOk C P O x):fzs x.rules=x.rules:=uT λd hd=>(h.rules d hd).fz
def OrdOk.frzr(h:OrdOk C P O x):frzs x.rules=true:=qN λd hd=>(h.rules d hd).frz
def OrdOk.frz(h:OrdOk C P O x):QD.frz (yn false x)=true:=by
 simp[yn,h.frzr,ya]
noncomputable abbrev W3:=List Nat×Int×Int
noncomputable def e3(p:W3):D:=.tup [.str p.1,.int p.2.1,.int p.2.2]
noncomputable abbrev WL:=List Nat×Int×List Nat
noncomputable def eL(p:WL):D:=.tup [.str p.1,.int p.2.1,.str p.2.2]
noncomputable abbrev WG:=List Nat×List Nat
noncomputable def eG(p:WG):D:=.tup [.str p.1,.str p.2]
def zg(l:List W3):fzs (l.map e3)=l.map e3:=vx (λ_=>rfl) _
def kX(l:List W3):frzs (l.map e3)=true:=yM (λ_=>rfl) _
def jef(l:List WL):fzs (l.map eL)=l.map eL:=vx (λ_=>rfl) _
def K9(l:List WL):frzs (l.map eL)=true:=yM (λ_=>rfl) _
def jhG(l:List WG):fzs (l.map eG)=l.map eG:=vx (λ_=>rfl) _
def uu(l:List WG):frzs (l.map eG)=true:=yM (λ_=>rfl) _
def Nm.wd(h:Nm w):Wd w:=⟨by have:=h.l;lia,λc a=>by have:=h.r c a;lia⟩
noncomputable def cyc(C:W1)(a:Int)(q:Nat):List (List Nat):=(List.range q).map λi:Nat=>C.getD ((a+(0+(i:Int)))%(C.length:Int)).toNat []
def jcK{C:W1}{a}(h:0<C.length)(i:Nat):((a+(0+(i:Int)))%(C.length:Int)).toNat<C.length:=by
 have y:=U1 (a+(0+i)) (show 0<(C.length:Int) by lia)
 lia
def jcf(h:0<C.length):∀ w∈cyc C a q,w∈C:=λw b=>by
 obtain⟨i,_,rfl⟩:=M7.mp b;exact Va<|jcK h i
def ur:(cyc C a q).length=q:=by simp[cyc]
def zj{C}{a}{q}(h:0<C.length)(f:q<=C.length)(d:C.Nodup):(cyc C a q).Nodup:=by
 unfold cyc List.Nodup;rw[List.pairwise_map];refine List.Pairwise.imp_of_mem ?_<|List.nodup_range;intro i j hi c b e;refine b ?_;have hi:=List.mem_range.mp hi;have c:=List.mem_range.mp c;rw[List.getD_eq_getElem?_getD,List.getD_eq_getElem?_getD,E1<|jcK (a:=a) h i,E1<|jcK (a:=a) h j,Option.getD_some,Option.getD_some] at e;have e2:=(List.getElem_inj d).mp e;have g:=U2 (a+(0+i)) (show(C.length:Int)≠0 by lia);have k:=U2 (a+(0+j)) (show(C.length:Int)≠0 by lia);have e3:(a+(0+i))%C.length=(a+(0+j))%C.length:=by lia
 have l:=Int.mul_ediv_add_emod (a+(0+i)) C.length;have m:=Int.mul_ediv_add_emod (a+(0+j)) C.length;generalize(a+(0+i))/C.length=u at *;generalize(a+(0+j))/C.length=v at *;have n:u-v=0:=by
  by_cases z:u-v=0
  ·exact z
  ·exfalso;rcases Int.lt_or_gt_of_ne z with z | z
   ·have:=Int.mul_le_mul_of_nonneg_left (show u-v<=-1 by lia) (show 0<=(C.length:Int) by lia)
    lia
   ·have:=Int.mul_le_mul_of_nonneg_left (show 1<=u-v by lia) (show 0<=(C.length:Int) by lia)
    lia
 lia
def jbi{T:List W3}{i:Int}(h:0<=i)(h2:i<T.length):∃ t∈T,jd (.lst o<|T.map e3) (.int i)=some (e3 t)/\(T.map (·.1)).getD i.toNat []=t.1:=by
 have a:i.toNat<T.length:=by lia
 refine⟨T[i.toNat],List.getElem_mem a,?_,?_⟩
 ·rw[jdy h<|by rw[L1];exact h2,List.getElem?_map,E1 a];rfl
 ·grind
def jl2{T:List W2}{i:Int}(h:0<=i)(h2:i<T.length):∃ t∈T,jd (.lst o<|T.map e2) (.int i)=some (e2 t):=by
 have a:i.toNat<T.length:=by lia
 refine⟨T[i.toNat],List.getElem_mem a,?_⟩;rw[jdy h<|by rw[L1];exact h2,List.getElem?_map,E1 a];rfl
def i30:jd (e3 t) (.int 0)=some (.str t.1):=rfl
def i20:jd (e2 t) (.int 0)=some (.str t.1):=rfl
def uL{T:List W3}{n c}{q}(hT:0<T.length)(d:T.length<=6)(g:0<c)(e:c<=1000)(h:0<=n):jU (jc [] 0) qT (pF<|p2 jd (p2 jd (pV 1)<|p2 jn (p2 ji (p2 jG (pV 2)<|pI c)<|pV 0)<|pV 3)<|pI 0) (qe 0 q) [none,some<|.lst o<|T.map e3,some<|.int n,some<|.int (T.length:Int)]=some ((cyc (T.map (·.1)) (n/c) q).map D.str):=by
 unfold cyc;rw[U3];refine jq rfl (λρ=>∃ z,ρ=[z,some<|.lst o<|T.map e3,some<|.int n,some<|.int T.length]) ?_ ⟨none,rfl⟩;rintro i hi ρ ⟨z,rfl⟩;obtain⟨t,_,f,gt⟩:=jbi (o:=o) (U2 (n/c+(0+i))<|show(T.length:Int)≠0 by lia)<|U1 (n/c+(0+i)) (show 0<(T.length:Int) by lia);have a:jn (.int<|n/c+(0+i)) (.int T.length)=some (.int<|(n/c+(0+i))%T.length):=jh ∅;have b:jG (.int n) (.int c)=some (.int<|n/c):=jA ∅ ∅;refine⟨[some<|.int<|0+i,some<|.lst o<|T.map e3,some<|.int n,some<|.int T.length],rfl,?_,_,rfl⟩;show _=some (D.str ((T.map (·.1)).getD ((n/c+(0+i))%((T.map (·.1)).length:Int)).toNat []));rw[L1,gt];simp[b,a,f,i30 (t:=t),-Int.zero_add]
def YD:FS:=(jf (sIf (dPT<|u9 (jj<|p2 kH (pV 4)<|pI 1)<|jj<|p2 Y5 (pV 5)<|pI 1) (jf (jt (dP<|p2 ji (pI 2)<|p2 jn (p2 jG (pV 0)<|pI 50)<|p2 Ys (pV 5)<|pI 1)<|jc [] 7)<|yd<|dP<|yD #[pS [115,104,97,114,101],pCB Vm #[jZ (kI #[pV 7]) (jc [] 0) qT (pF<|p2 jd (p2 jd (pV 1)<|p2 jn (p2 ji (p2 jG (pV 2)<|pI 400)<|pV 0)<|pV 3)<|pI 0) [none,some 1,some 0,some 5]]])
 jM)<|jf (sIf (dPT<|jj<|p2 kH (pV 4)<|pI 2) (yd<|dP<|yD #[pS [114,101,112,97,121],pF<|pV 6])
 jM)<|jf (sIf (dPT<|u9 (jj<|p2 kH (pV 4)<|pI 3)<|jj<|p2 Y5 (pCB qx #[pV 2])<|pI 0) (yd<|dP<|yD #[pS [102,105,108,108],pF<|p2 jd (p2 jd (pV 2)<|p2 jn (p2 jG (pV 0)<|pI 50)<|pCB qx #[pV 2])<|pI 0])
 jM)<|jf (sIf (dPT<|u9 (jj<|p2 kH (pV 4)<|pI 4)<|jj<|p2 Y5 (pCB qx #[pV 3])<|pI 0) (yd<|dP<|yD #[pS [108,101,110,100],pF<|p2 jd (pV 3)<|p2 jn (p2 jG (pV 0)<|pI 50)<|pCB qx #[pV 3],jv jC #[p2 jG (pV 0)<|pI 400]])
 jM)<|jf (sIf (dPT<|u9 (jj<|p2 kH (pV 4)<|pI 5)<|jj<|p2 Y5 (pCB qx #[pV 3])<|pI 0) (yd<|dP<|yD #[pS [98,97,99,107],pF<|p2 jd (pV 3)<|p2 jn (p2 jG (pV 0)<|pI 50)<|pCB qx #[pV 3]])
 jM)<|yd<|dP<|yD #[pS [112,97,121],pF<|pV 6])
def je8:Kk=jf (jt (dP<|p2 jn (pV 0)<|pI 7)<|jc [] 4) (jf (jt (dP<|pCB qx #[pV 1])<|jc [] 5)<|jf (jt (dP<|pF<|p2 jd (p2 jd (pV 1)<|p2 jn (p2 jG (pV 0)<|pI 7)<|pV 5)<|pI 0)<|jc [] 6) YD):=rfl
def jjI{n:Int}(P:0<=n){T:List W3}{M:List W2}{O:W1}(h1:1<=T.length)(h2:T.length<=6)(hM:M.length<=100)(hO:O.length<=100)(x:∀ t∈T,Wd t.1)(Q:∀ t∈M,Wd t.1)(K:∀ w∈O,Wd w)(R:(T.map (·.1)).Nodup):∃ r,yR [.int n,.lst false<|T.map e3,.lst false<|M.map e2,.lst false<|O.map D.str]=some r/\RuleS (T.map (·.1)) (M.map (·.1)) O r:=by
 obtain⟨c,y,S,_⟩:=jbi (o:=false) (U2 (n/7)<|show(T.length:Int)≠0 by lia)<|U1 (n/7) (show 0<(T.length:Int) by lia);have k:c.1∈T.map (·.1):=M7.mpr ⟨c,y,rfl⟩;have b:(((T.map e3).length:Nat):Int)=T.length:=by simp
 have f:(((M.map e2).length:Nat):Int)=M.length:=by simp
 have g:(((O.map D.str).length:Nat):Int)=O.length:=by simp
 have A:jn (.int<|n/7) (.int T.length)=some (.int<|n/7%T.length):=jh ∅;have pre:yR [.int n,.lst false<|T.map e3,.lst false<|M.map e2,.lst false<|O.map D.str]=(YD [some<|.int n,‹T.map e3›,‹M.map e2›,‹O.map D.str›,some<|.int<|n%7,some<|.int T.length,some<|.str c.1,none]).bind Out.val:=by
  simp(disch:=lia) [yR,jy,je8,jh,jA,b,A,S,i30 (t:=c)]
 rw[pre];by_cases w1:n%7=1/\1<(T.length:Int)
 ·have d1:=U2 (n/50) (show(T.length:Int)-1≠0 by lia);have d2:=U1 (n/50) (show 0<(T.length:Int)-1 by lia);have U:jn (.int<|n/50) (.int<|T.length-1)=some (.int<|n/50%(T.length-1)):=jh ∅;generalize n/50%(T.length-1)=sz at *;have B:=yA (j:=2+sz) ∅ ∅;have E:lim (qe 0 (2+sz).toNat).length=true:=jb (by rw[jQ];lia);have V:=uL (o:=false) (T:=T) (n:=n) (c:=400) (q:=(2+sz).toNat) ∅ h2 (by decide) (by decide) P;have L:0<(T.map (·.1)).length:=by rw[L1];lia
  have N:=jcf (C:=T.map (·.1)) (a:=n/400) (q:=(2+sz).toNat) L;refine⟨.tup [.str vE,.tup ((cyc (T.map (·.1)) (n/400) (2+sz).toNat).map D.str)],?_,.share _ (by rw[ur];lia) (λw W=>by obtain⟨t,X,rfl⟩:=M7.mp<|N w W;exact x t X) N<|zj L (by rw[L1];lia) R⟩;have Y:lim ((cyc (T.map (·.1)) (n/400) (2+sz).toNat).map D.str).length=true:=jb (by rw[L1,ur];lia);have Z:=yw (cyc (T.map (·.1)) (n/400) (2+sz).toNat);generalize(cyc (T.map (·.1)) (n/400) (2+sz).toNat).map D.str=WW at *;generalize T.map e3=CC,M.map e2=PP,O.map D.str=OO,qe 0 (2+sz).toNat=RR at *;simp(disch:=lia) [YD,jh,jA,b,w1.1,w1.2,U,B,E,V,Z,qc (cyc (T.map (·.1)) (n/400) (2+sz).toNat),Y,jb,jk,List.getElem?_cons_zero,Option.join]
 have F:n%7=1->¬ 1<(T.length:Int):=λz q=>w1 ⟨z,q⟩;by_cases w2:n%7=2
 ·refine⟨.tup [.str YI,.str c.1],?_,.two _ _ (by decide) (Ye rfl<|by decide) (x c y)<|.inl ⟨.inr<|.inl rfl,k⟩⟩;generalize T.map e3=CC,M.map e2=PP,O.map D.str=OO at *;generalize(T.length:Int)=tl at *;generalize(M.length:Int)=ml at *;generalize(O.length:Int)=ol at *;simp(disch:=lia) [YD,jh,jA,b,w2,jb]
 by_cases G:n%7=3/\(0:Int)<(M.length:Int)
 ·have p1:=U2 (n/50) (show(M.length:Int)≠0 by lia);have p2:=U1 (n/50) (show 0<(M.length:Int) by lia);obtain⟨q,h,m⟩:=jl2 (o:=false) p1 p2;have q0:=i20 (t:=q);have e:jn (.int<|n/50) (.int (M.length:Int))=some (.int<|n/50%(M.length:Int)):=jh ∅;refine⟨.tup [.str jbB,.str q.1],?_,.two _ _ (by decide) (Ye rfl<|by decide) (Q q h)<|.inr<|.inl ⟨rfl,M7.mpr ⟨q,h,rfl⟩⟩⟩;generalize T.map e3=CC,M.map e2=PP,O.map D.str=OO at *;generalize(T.length:Int)=tl at *;generalize(M.length:Int)=ml at *;generalize(O.length:Int)=ol at *;generalize e2 q=EQ at *;simp(disch:=lia) [YD,jh,jA,b,f,G.1,G.2,e,m,q0,jb]
 have H:n%7=3->¬ (0:Int)<(M.length:Int):=λz q=>G ⟨z,q⟩;have p:(0:Int)<(O.length:Int)->∃ q∈O,jd (.lst false<|O.map D.str) (.int<|n/50%(O.length:Int))=some (.str q)/\jn (.int<|n/50) (.int (O.length:Int))=some (.int<|n/50%(O.length:Int)):=λz=>by
  have p2:=U1 (n/50) z;exact⟨_,Va (l:=O) (i:=(n/50%(O.length:Int)).toNat) (d:=[]) ∅,wW (o:=false) (l:=O) (U2 (n/50)<|show(O.length:Int)≠0 by lia) p2,jh ∅⟩
 by_cases s:n%7=4/\(0:Int)<(O.length:Int)
 ·obtain⟨q,h,m,e⟩:=p s.2;obtain⟨v,ev,_⟩:=Y2 (n:=n/400) ∅;refine⟨.tup [.str qp,.str q,.int v],?_,.lend _ _ (K q h) h⟩;generalize T.map e3=CC,M.map e2=PP,O.map D.str=OO at *;generalize(T.length:Int)=tl at *;generalize(M.length:Int)=ml at *;generalize(O.length:Int)=ol at *;simp(disch:=lia) [YD,jh,jA,b,f,g,s.1,s.2,e,m,ev,jb]
 have I:n%7=4->¬ (0:Int)<(O.length:Int):=λz q=>s ⟨z,q⟩;by_cases u:n%7=5/\(0:Int)<(O.length:Int)
 ·obtain⟨q,h,m,e⟩:=p u.2;refine⟨.tup [.str Ve,.str q],?_,.two _ _ (by decide) (Ye rfl<|by decide) (K q h)<|.inr<|.inr ⟨rfl,h⟩⟩;generalize T.map e3=CC,M.map e2=PP,O.map D.str=OO at *;generalize(T.length:Int)=tl at *;generalize(M.length:Int)=ml at *;generalize(O.length:Int)=ol at *;simp(disch:=lia) [YD,jh,jA,b,f,g,u.1,u.2,e,m,jb]
 have J:n%7=5->¬ (0:Int)<(O.length:Int):=λz q=>u ⟨z,q⟩;refine⟨.tup [.str jkX,.str c.1],?_,.two _ _ (by decide) (Ye rfl<|by decide) (x c y)<|.inl ⟨.inl rfl,k⟩⟩;generalize T.map e3=CC,M.map e2=PP,O.map D.str=OO at *;generalize(T.length:Int)=tl at *;generalize(M.length:Int)=ml at *;generalize(O.length:Int)=ol at *;have z:n%7=0\/n%7=1\/n%7=3\/n%7=4\/n%7=5\/n%7=6:=by lia
 rcases z with z | z | z | z | z | z
 ·simp(disch:=lia) [YD,jh,jA,z,jb]
 ·simp(disch:=lia) [YD,jh,jA,z,F z,jb]
 ·simp(disch:=lia) [YD,jh,jA,f,z,H z,jb]
 ·simp(disch:=lia) [YD,jh,jA,g,z,I z,jb]
 ·simp(disch:=lia) [YD,jh,jA,g,z,J z,jb]
 ·simp(disch:=lia) [YD,jh,jA,z,jb]
def jfD{G}{Good:D->Prop}{P:Nat->Rh->Prop}:∀{xs}{k}(_:∀ x∈xs,∀ k' ρ,k'<k+xs.length->P k' ρ->∃ ρ1 y ρ2,G x ρ=some ρ1/\fe ρ1=some (y,ρ2)/\Good y/\P (k'+1) ρ2) {ρ}(_:P k ρ),Ex2 λys ρ'=>An4 (qU G fe xs ρ=some (ys,ρ')) (ys.length=xs.length) (∀ y∈ys,Good y) (P (k+xs.length) ρ'):=by
 intro xs
 induction xs with
 | nil=>
  intro k _ ρ b;exact⟨[],ρ,rfl,rfl,by simp,b⟩
 | cons x xs c=>
  intro k step ρ b;obtain⟨ρ1,y,ρ2,d,e2,g,p1⟩:=step x (by simp) k ρ (by simp) b;obtain⟨ys,ρ',e3,e,f,p2⟩:=c (λz a k' ρ h=>step z (by simp[a]) k' ρ<|by rw[M3];lia) p1;refine⟨y::ys,ρ',?_,by simp[e],λz a=>?_,by rw[M3,show k+(xs.length+1)=k+1+xs.length by lia];exact p2⟩
  ·rw[qU,d,L4,e2,L4,e3];rfl
  ·rcases M5.mp a with rfl | a
   ·lia
   ·exact f z a
def NmI(sd:Int)(W:List Nat)(hi:Int)(w:List Nat):Prop:=∃ k:Int,0<=k/\k<hi/\w=nmF sd W k
structure Ctx(ns:List Int)(sd:Int)(W:List Nat)(C:List W3)(P:List W2)(O:W1):Prop where
 b:uN ns
 bs:Bse sd W
 nm:∀ k:Int,0<=k->ju [.int sd,.int k]=some (.str<|nmF sd W k)
 c1:1<=C.length
 c6:C.length<=6
 p:P.length<=10
 o:O.length<=10
 cn:(C.map (·.1)).Nodup
 ci:∀ c∈C,NmI sd W 100 c.1
 pw:∀ c∈P,Wd c.1
 ow:∀ w∈O,Wd w
def NmI.wd(b:Bse sd W)(h:NmI sd W hi w):Wd w:=by
 obtain⟨k,a,_,rfl⟩:=h;exact(uB b a).wd
def Ctx.cw(h:Ctx ns sd W C P O):∀ c∈C,Wd c.1:=λc a=>(h.ci c a).wd h.bs
def jbj(x:OrdS):D:=.tup [.str x.nm,.lst true<|x.parts.map e2,.lst true x.rules]
def jaX(h:Ctx ns sd W C P O)  (p:0<=m) (d:0<=n) (e:n<100000)  (r:L.length<=100) :
  ∃ q:W2,(Wd q.1/\1<=q.2/\q.2<=10/\q.1∈C.map (·.1))/\vG [‹ns.map D.int›,some<|At n,some nm,‹C.map e3›,‹P.map e2›,‹O.map D.str›,some<|.int m,some<|.int (C.length:Int),↑(L.map e2),some<|.int<|0+(i:Int),o10] =
   some (.nx [‹ns.map D.int›,some<|At<|n+1,some nm,‹C.map e3›,‹P.map e2›,‹O.map D.str›,some<|.int m,some<|.int (C.length:Int),↑((L++[q]).map e2),some<|.int<|0+(i:Int),o10]):=by
 obtain⟨v,j,s⟩:=vb ns h.b d e;have k:=h.c1;obtain⟨a,g,f,_⟩:=jbi (o:=false) (U2 (m/100+(0+i))<|show(C.length:Int)≠0 by lia)<|U1 (m/100+(0+i)) (show 0<(C.length:Int) by lia);have l:jn (.int<|m/100+(0+i)) (.int C.length)=some (.int<|(m/100+(0+i))%C.length):=jh ∅;refine⟨(a.1,1+v%10),⟨h.cw a g,by lia,by lia,M7.mpr ⟨a,g,rfl⟩⟩,?_⟩;have c:lim (L.map e2).length=true:=yh ∅;rw[N7];show _=some (Out.nx [_,_,_,_,_,_,_,_,↑(L.map e2++[.tup [.str a.1,.int<|1+v%10]]),_,_]);generalize L.map e2=LL at *;simp(disch:=lia) [vG,jA,jh,f,i30 (t:=a),j,c,-Int.zero_add]
def jfv(h:Ctx ns sd W C P O)  (g:0<=n) (j:n+20<=100000)  (y:k<=9):∃ Rs:List D,∃ o0:Option D,
  qU (jc [2] 0) (vW yR<|jr (yc jo 2 1<|ja (pF<|pV 1)<|pFs pN)<|jr (dP<|pF<|pV 3)<|jr (dP<|pF<|pV 4)<|jr (dP<|pF<|pV 5) Jk) (qe 0 k) [none,‹ns.map D.int›,some<|At n,‹C.map e3›,‹P.map e2›,‹O.map D.str›] =
   some (Rs,[o0,‹ns.map D.int›,some<|At<|n+k,‹C.map e3›,‹P.map e2›,‹O.map D.str›])/\Rs.length=k/\∀ r∈Rs,RuleS (C.map (·.1)) (P.map (·.1)) O r:=by
 obtain⟨l,z,e,f,m,o0,rfl⟩:=jfD (G:=jc [2] 0) (fe:=vW yR<|jr (yc jo 2 1<|ja (pF<|pV 1)<|pFs pN)<|jr (dP<|pF<|pV 3)<|jr (dP<|pF<|pV 4)<|jr (dP<|pF<|pV 5) Jk) (P:=λk ρ=>∃ o,ρ=[o,‹ns.map D.int›,some<|At<|n+k,‹C.map e3›,‹P.map e2›,‹O.map D.str›]) (xs:=qe 0 k) (k:=0) (by
  rintro x q a ρ c ⟨o,rfl⟩;rw[jQ] at c;obtain⟨i,hi,rfl⟩:=M7.mp q;obtain⟨v,s,t⟩:=vb ns h.b (n:=n+a) ∅ ∅;obtain⟨r,u,w⟩:=jjI t h.c1 h.c6 (by have:=h.p;lia) (by have:=h.o;lia) h.cw h.pw h.ow h.cn;have d:=vj ns;refine⟨[some<|.int<|0+i,‹ns.map D.int›,some<|At<|n+a,‹C.map e3›,‹P.map e2›,‹O.map D.str›],r,[some<|.int<|0+i,‹ns.map D.int›,some<|At<|n+a+1,‹C.map e3›,‹P.map e2›,‹O.map D.str›],rfl,?_,w,some<|.int<|0+i,?_⟩
  ·generalize ns.map D.int=NS at *;simp[s,u,d,kX C,ya P,-Int.zero_add]
  ·rw[show n+((a+1:Nat):Int)=n+a+1 by lia]) (ρ:=[none,‹ns.map D.int›,some<|At n,‹C.map e3›,‹P.map e2›,‹O.map D.str›]) ⟨none,by simp⟩
 rw[jQ] at f;refine⟨l,o0,?_,f,m⟩;rw[e,jQ,show n+((0+k:Nat):Int)=n+k by lia]
def jfn(h:Ctx ns sd W C P O)  (v:0<=n) (U:n+50<=100000) (nm:List Nat) (V:Wd nm):Ex2 λ(x:OrdS) (n':Int)=>An5 (vR [.lst false<|ns.map D.int,At n,.str nm,.lst false<|C.map e3,.lst false<|P.map e2,.lst false<|O.map D.str]=some (jbj x,At n')) (x.nm=nm) (n<=n') (n'<=n+20) (OrdOk (C.map (·.1)) (P.map (·.1)) O x):=by
 obtain⟨m,X,Y⟩:=vb ns h.b v ∅;have Z:=h.c1;have hc6:=h.c6;have S:=U2 m (show(C.length:Int)+1≠0 by lia);have a2:=U1 m (show 0<(C.length:Int)+1 by lia);have l:jn (.int m) (.int<|C.length+1)=some (.int<|m%(C.length+1)):=jh ∅;generalize m%(C.length+1)=q1 at S a2 l;have w:0<=m/10%2/\m/10%2<=1:=by lia
 have A:0<=q1*(m/10%2)/\q1*(m/10%2)<=6*1:=⟨Int.mul_nonneg S w.1,Int.mul_le_mul ∅ w.2 w.1 ∅⟩;have a:yV (.int q1) (.int<|m/10%2)=some (.int<|q1*(m/10%2)):=qv ∅ ∅;generalize q1*(m/10%2)=q at A a;obtain⟨ρ',B,L,e,rfl,E,d⟩:=vM (G:=jc [1] 9) (f:=vG) (xs:=qe 0 q.toNat) (λi ρ=>∃(L:List W2) (e:Option D),ρ=[‹ns.map D.int›,some<|At<|n+1+i,some<|.str nm,‹C.map e3›,‹P.map e2›,‹O.map D.str›,some<|.int m,some<|.int C.length,↑(L.map e2),e,none]/\L.length=i/\∀ q∈L,Wd q.1/\1<=q.2/\q.2<=10/\q.1∈C.map (·.1)) (by
  rintro i x ρ hx ⟨L,e,rfl,E,d⟩;obtain⟨rfl,hi⟩:=qf hx;obtain⟨z,zk,ez⟩:=jaX h (n:=n+1+i) Y ∅ ∅ (nm:=.str nm) (L:=L) ∅ (i:=i) (o10:=none);refine⟨_,_,rfl,.inl ez,L++[z],some<|.int<|0+i,?_,by simp[E],λq A=>(N4.mp A).elim (d q) λy=>by rw[M9.mp y];exact zk⟩;rw[show n+1+(((i+1:Nat)):Int)=n+1+i+1 by lia]) (ρ:=[‹ns.map D.int›,some<|At<|n+1,some<|.str nm,‹C.map e3›,‹P.map e2›,‹O.map D.str›,some<|.int m,some<|.int C.length,some<|.lst true [],none,none]) ⟨[],none,by simp,rfl,by simp⟩
 rw[jQ] at E B;have F:n+1+((q.toNat):Int)=n+1+q:=by lia
 rw[F] at B;obtain⟨g,o0,p,hRl,hR⟩:=jfv h (n:=n+1+q) ∅ ∅ (k:=(m/1000%9).toNat) ∅;have H:n+1+q+(((m/1000%9).toNat:Nat):Int)=n+1+q+m/1000%9:=by lia
 rw[H] at p;obtain⟨c,T,ic,_⟩:=jbi (o:=false) (U2 (m/10000)<|show(C.length:Int)≠0 by lia)<|U1 (m/10000) (show 0<(C.length:Int) by lia);have I:jn (.int<|m/10000) (.int C.length)=some (.int<|m/10000%C.length):=jh ∅;refine⟨⟨nm,L,g++[.tup [.str Vq,.str c.1]]⟩,n+1+q+m/1000%9,?_,rfl,by lia,by lia,⟨V,d,by show L.length<=10;lia,λr s=>?_,by show(g++[_]).length<=10;simp;lia,g,_,rfl⟩⟩
 rotate_left
 ·rcases N4.mp s with s | s
  ·exact hR r s
  ·rw[M9.mp s];exact .two _ _ (by decide) (Ye rfl<|by decide) (h.cw c T)<|.inl ⟨.inr<|.inr rfl,M7.mpr ⟨c,T,rfl⟩⟩
 have u:=vj ns;have J:(((C.map e3).length:Nat):Int)=C.length:=by simp
 have K:lim g.length=true:=jb ∅;have M:xz (kI #[p2 jn (p2 jG (pV 6)<|pI 1000)<|pI 9]) (jc [2] 0) (vW yR<|jr (yc jo 2 1<|ja (pF<|pV 1)<|pFs pN)<|jr (dP<|pF<|pV 3)<|jr (dP<|pF<|pV 4)<|jr (dP<|pF<|pV 5) Jk) [none,some 0,some 1,some 3,some 4,some 5] 1 2
   [‹ns.map D.int›,some<|At<|n+1+q,some<|.str nm,‹C.map e3›,‹P.map e2›,‹O.map D.str›,some<|.int m,some<|.int C.length,↑(L.map e2),e,none] =
   some (.lst true g,[‹ns.map D.int›,some<|At<|n+1+q+m/1000%9,some<|.str nm,‹C.map e3›,‹P.map e2›,‹O.map D.str›,some<|.int m,some<|.int C.length,↑(L.map e2),e,none]):=by
  have N:kI #[p2 jn (p2 jG (pV 6)<|pI 1000)<|pI 9] [‹ns.map D.int›,some<|At<|n+1+q,some<|.str nm,‹C.map e3›,‹P.map e2›,‹O.map D.str›,some<|.int m,some<|.int C.length,↑(L.map e2),e,none]=some (qe 0 (m/1000%9).toNat):=by
   simp(disch:=lia) [jA,jh,yA (j:=m/1000%9) ∅ ∅]
  have Q:YL 2 [none,‹ns.map D.int›,some<|At<|n+1+q,‹C.map e3›,‹P.map e2›,‹O.map D.str›]=true:=by
   simp[YL,u,kX C,ya P,yw O]
  have R:lim (qe 0 (m/1000%9).toNat).length=true:=jb (by rw[jQ];lia);unfold xz;rw[N,L4];show(bif lim (qe 0 (m/1000%9).toNat).length&&YL 2 [none,‹ns.map D.int›,some<|At<|n+1+q,‹C.map e3›,‹P.map e2›,‹O.map D.str›] then(qU _ _ _ [none,‹ns.map D.int›,some<|At<|n+1+q,‹C.map e3›,‹P.map e2›,‹O.map D.str›]).bind _ else none)=_;rw[R,Q,p];rfl
 unfold vR;rw[vY];show _=some (D.tup [.str nm,.lst true<|L.map e2,.lst true<|g++[.tup [.str [114,101,115,116],.str c.1]]],At _);simp(disch:=lia) [Vk,X,u,J,l,jA,jh,a,yA (j:=q) ∅ ∅,B,M,I,ic,i30 (t:=c),K,jb,YN,-uW]
def O0(x):jd (yn false x) (.int 0)=some (.str x.nm):=rfl
def vq{C P O}{os:List OrdS}(h:∀ x∈os,OrdOk C P O x):frzs (os.map<|yn false)=true:=qN λd hd=>by
 obtain⟨x,a,rfl⟩:=M7.mp hd;exact(h x a).frz
def OrdOk.fzt(h:OrdOk C P O x):QD.fz (jbj x)=yn false x:=by
 simp[jbj,yn,JO x.parts,h.fzr]
def xT{ns:List Int}{C:List W3}{P:List W2}{O:W1}{W:List Nat}{a:Int}(h:Ctx ns a W C P O){n:Int}(L:0<=n)(hn1:n+100<=100000)  {X:List OrdS}(hX:X.length<=100) (M:∀ x∈X,OrdOk (C.map (·.1)) (P.map (·.1)) O x) (hXn:(X.map (·.nm)).Nodup) {i:Nat}(hi:i<10) (N:∀ x∈X,NmI a W (100+i) x.nm) {o9:Option D}:
  Ex3 λ(x:OrdS) (n':Int) (o9':Option D)=>An6 (yE [‹ns.map D.int›,some<|At n,some<|.int a,‹C.map e3›,‹P.map e2›,‹O.map D.str›,some mo,↑(X.map<|yn false),some<|.int<|0+(i:Int),o9] =
   some (.nx [‹ns.map D.int›,some<|At n',some<|.int a,‹C.map e3›,‹P.map e2›,‹O.map D.str›,some mo,↑((X++[x]).map (yn false)),some<|.int<|0+(i:Int),o9'])) (n<=n') (n'<=n+21) (OrdOk (C.map (·.1)) (P.map (·.1)) O x) (x.nm∉X.map (·.nm)) (NmI a W (100+i+1) x.nm):=by
 obtain⟨v,Q,hv⟩:=vb ns h.b L ∅;have hc1:=h.c1;obtain⟨c,Z,R,_⟩:=jbi (o:=false) (U2 (0+i)<|show(C.length:Int)≠0 by lia)<|U1 (0+i) (show 0<(C.length:Int) by lia);have c0:=i30 (t:=c);have j:jn (.int<|0+i) (.int C.length)=some (.int<|(0+i)%C.length):=jh ∅;have ew:=h.nm (100+(0+i)) ∅;have l:=vj ns;have m:=kX C;have p:=ya P;have q:=yw O;have r:(((C.map e3).length:Nat):Int)=C.length:=by simp
 have B:=vq M;have s:lim (X.map<|yn false).length=true:=yh ∅;have u:jU (jc [] 0) qT (pF<|p2 jd (pV 0)<|pI 0) (X.map<|yn false) [none]=some ((X.map (·.nm)).map D.str):=by
  rw[U3];refine jq (en:=yn false) rfl (λρ=>∃ o,ρ=[o]) ?_ ⟨none,rfl⟩;rintro x hx ρ ⟨o,rfl⟩;have:=O0 x;refine⟨[some<|yn false x],rfl,?_,_,rfl⟩;simp[this]
 have f:Y1 false (.str c.1) (.lst true ((X.map (·.nm)).map D.str))=some (.bl (decide (c.1∈X.map (·.nm)))):=jaF _ true _;generalize(X.map (·.nm)).map D.str=NN at u f;generalize E:decide (c.1∈X.map (·.nm))=bq at f;have F:∀ nm:List Nat,Wd nm->∃(x:OrdS) (n':Int),vR [.lst false<|ns.map D.int,At<|n+1,.str nm,.lst false<|C.map e3,.lst false<|P.map e2,.lst false<|O.map D.str]=some (jbj x,At n')/\n+1<=n'/\n'<=n+21/\OrdOk (C.map (·.1)) (P.map (·.1)) O x/\x.nm=nm:=λnm wn=>by
  obtain⟨x,n',e,a0,S,I,A⟩:=jfn h (n:=n+1) ∅ ∅ nm wn;exact⟨x,n',e,S,by lia,A,a0⟩
 by_cases T:0<v%3\/bq=true
 ·have U:NmI a W (100+i+1) (nmF a W<|100+(0+i)):=⟨100+(0+i),by lia,by lia,rfl⟩;have G:nmF a W (100+(0+i))∉X.map (·.nm):=λz=>by
   obtain⟨y,hy,ey⟩:=M7.mp z;obtain⟨k,V,k1,ek⟩:=N y hy;have:=KR h.bs (k:=k) (k':=100+(0+i)) V ∅ ∅ ∅ (ek.symm.trans ey)
   lia
  obtain⟨x,n',J,S,I,A,H⟩:=F _<|U.wd h.bs;refine⟨x,n',some<|.str<|nmF a W<|100+(0+i),?_,by lia,I,A,by rw[H];exact G,by rw[H];exact U⟩;clear G U;generalize nmF a W (100+(0+i))=w at *;rw[N7];show _=some (Out.nx [_,_,_,_,_,_,_,↑(X.map (yn false)++[yn false x]),_,_]);generalize ns.map D.int=NS,C.map e3=CC,P.map e2=PP,O.map D.str=OO at *;have K:=A.fzt;generalize X.map (yn false)=XX,jbj x=xx,e3 c=EC,yn false x=yy at *;by_cases d:0<v%3
  ·simp(disch:=lia) [yE,r,j,R,c0,Q,l,jh,d,ew,m,p,q,J,s,K,-Int.zero_add]
  ·have g:bq=true:=T.resolve_left d;simp(disch:=lia) [yE,r,j,R,c0,Q,l,jh,d,s,B,jk,u,f,g,ew,m,p,q,J,K,-Int.zero_add]
 ·have d:¬ 0<v%3:=λz=>T<|.inl z;have g:bq=false:=by cases bq with
   | false=>rfl
   | true=>exact absurd (.inr rfl) T
  have Y:NmI a W (100+i+1) c.1:=by
   obtain⟨k,V,k1,ek⟩:=h.ci c Z;exact⟨k,V,by lia,ek⟩
  obtain⟨x,n',J,S,I,A,H⟩:=F c.1<|h.cw c Z;refine⟨x,n',some<|.str c.1,?_,by lia,I,A,by rw[H];exact of_decide_eq_false<|E.trans g,by rw[H];exact Y⟩;rw[N7];show _=some (Out.nx [_,_,_,_,_,_,_,↑(X.map (yn false)++[yn false x]),_,_]);generalize ns.map D.int=NS,C.map e3=CC,P.map e2=PP,O.map D.str=OO at *;have K:=A.fzt;generalize X.map (yn false)=XX,jbj x=xx,e3 c=EC,yn false x=yy at *;simp(disch:=lia) [yE,r,j,R,c0,Q,l,jh,d,s,B,jk,u,f,g,m,p,q,J,K,-Int.zero_add]
def jdK(h:Ctx ns sd W C P O)  (l:0<=n) (A:n+500<=100000) (S:1<=mo) (T:mo<=5):
  Ex2 λ(X:List OrdS) (n':Int)=>An7 (kf [.lst false<|ns.map D.int,At n,.int sd,.lst false<|C.map e3,.lst false<|P.map e2,.lst false<|O.map D.str,.int mo]=some (.lst true<|X.map<|yn false,At n')) (n<=n') (n'<=n+150) (1<=X.length) (X.length<=5) (∀ x∈X,OrdOk (C.map (·.1)) (P.map (·.1)) O x) ((X.map (·.nm)).Nodup):=by
 obtain⟨v,B,U⟩:=vb ns h.b l ∅;have E:=U2 v (show mo≠0 by lia);have F:=U1 v (show 0<mo by lia);have f:jn (.int v) (.int mo)=some (.int<|v%mo):=jh ∅;generalize v%mo=k at E F f;obtain⟨V,H,X,n',m,o,rfl,p,I,w,g,c,d⟩:=vM (G:=jc [1] 8) (xs:=qe 0 (1+k).toNat) (λi ρ=>∃ X n' m o,ρ=[‹ns.map D.int›,some<|At n',some<|.int sd,‹C.map e3›,‹P.map e2›,‹O.map D.str›,some<|.int mo,↑(X.map<|yn false),m,o]/\X.length=i/\n+1<=n'/\n'<=n+1+21*i/\(∀ x∈X,OrdOk (C.map (·.1)) (P.map (·.1)) O x)/\(X.map (·.nm)).Nodup/\∀ x∈X,NmI sd W (100+i) x.nm) (by
  rintro i x ρ J ⟨X,n',m,o,rfl,p,I,w,g,c,d⟩;obtain⟨rfl,hi⟩:=qf J;obtain⟨y,K,r,L,c1,Y,M,s,t⟩:=xT h (n:=n') ∅ ∅ ∅ g c ∅ d;refine⟨_,_,rfl,.inl L,X++[y],K,some<|.int<|0+i,r,rfl,by simp[p],by lia,by lia,λz e=>?_,?_,λz e=>?_⟩
  ·exact(N4.mp e).elim (g z) λq=>by rw[M9.mp q];exact M
  ·rw[N7];exact X3.mpr ⟨c,by simp,λa N b Q q=>by cases q;cases M9.mp Q;exact s N⟩
  ·rcases N4.mp e with e | e
   ·obtain⟨k,u,R,ek⟩:=d z e;exact⟨k,u,by lia,ek⟩
   ·obtain⟨k,u,R,ek⟩:=t;rw[M9.mp e];exact⟨k,u,by lia,ek⟩) (ρ:=[‹ns.map D.int›,some<|At<|n+1,some<|.int sd,‹C.map e3›,‹P.map e2›,‹O.map D.str›,some<|.int mo,some<|.lst true [],none,none]) ⟨[],n+1,none,none,rfl,rfl,by lia,by lia,by simp,by simp,by simp⟩
 rw[jQ] at p w;refine⟨X,n',?_,by lia,by lia,by lia,by lia,g,c⟩;unfold kf;rw[vY];simp(disch:=lia) [YH,B,f,yA (j:=1+k) ∅ ∅,H,jb,YN]
def jdP(h1:p ρ=some e)(h2:jlS e=some m)(a:ρ[i]?=some (↑l))(c:l.length+m.length<=50000):jkM i p ρ=some (.nx<|ρ.set i<|↑(l++m)):=by
 have b:pV i ρ=↑l:=by unfold pV;rw[a]
 unfold jkM;rw[h1,L4,h2,L4,b];show(bif lim (l.length+m.length) then _ else _)=_;rw[jb ∅];rfl
def w8(g:RuleS C P O r)  (n:N.length<=960):∃ T:List (List Nat),T.length<=6/\jE [a0,↑(N.map D.str),a2,some r]=some (.nx [a0,↑((N++T).map D.str),a2,some r]):=by
 have b:lim (N.map D.str).length=true:=yh ∅;cases g with
 | two kw x j w1 w2 c=>
  have a:jd (.tup [.str kw,.str x]) (.int 0)=some (.str kw):=rfl;have d:jd (.tup [.str kw,.str x]) (.int 1)=some (.str x):=rfl;by_cases f:kw=YI
  ·subst f;refine⟨[x],by simp,?_⟩;rw[N7];generalize N.map D.str=NN at *;simp[jE,a,d,b]
  ·have k:=U4.mpr f;refine⟨[],by simp,?_⟩;rw[N2];simp[jE,a,k,U4.mpr j]
 | share ws l h c nd=>
  have a:jd (.tup [.str vE,.tup<|ws.map D.str]) (.int 0)=some (.str vE):=rfl;have d:jd (.tup [.str vE,.tup<|ws.map D.str]) (.int 1)=some (.tup<|ws.map D.str):=rfl;refine⟨ws,l,?_⟩;rw[N7];have m:=jdP (i:=1) (p:=p2 jd (pV 3)<|pI 1) (ρ:=[a0,↑(N.map D.str),a2,some<|.tup [.str vE,.tup<|ws.map D.str]]) (e:=.tup<|ws.map D.str) (by rfl) (by show(bif frzs (ws.map D.str) then _ else _)=_;rw[yw ws];rfl) rfl (by rw[L1,L1];lia);simp[jE,a,m]
 | lend x v h c=>
  have a:jd (.tup [.str qp,.str x,.int v]) (.int 0)=some (.str qp):=rfl;refine⟨[],by simp,?_⟩;rw[N2];simp[jE,a]
def jdo{C P O}{X:List OrdS}(q:X.length<=5)(k:∀ x∈X,OrdOk C P O x):∃ N:List (List Nat),ym [.lst false<|X.map<|yn false]=↑(N.map D.str):=by
 have c:=vq k;obtain⟨r,T,e,⟨i,b,rfl⟩,m,_⟩:=zx (G:=jc [] 2) (f:=yC) (λa ρ=>∃ i b,ρ=[‹X.map (yn false)›,↑(a.map D.str),i,b]) (λ_=>True) 60 660 (acc:=[]) (ρ:=[‹X.map (yn false)›,some<|.lst true [],none,none]) (by
  rintro d hd a ρ l _ ⟨i,b,rfl⟩;obtain⟨x,n,rfl⟩:=M7.mp hd;have h:=k x n;have g:=h.frzr;obtain⟨s,T,e,⟨j,rfl⟩,m,_⟩:=zx (G:=jc [] 3) (λa ρ=>∃ b,ρ=[‹X.map (yn false)›,↑(a.map D.str),some<|yn false x,b]) (λ_=>True) 6 960 (ρ:=[‹X.map (yn false)›,↑(a.map D.str),some<|yn false x,b]) (by
   rintro d hd a ρ l _ ⟨b,rfl⟩;obtain⟨T,o,eT⟩:=w8 (h.rules _ hd) l;exact⟨_,_,T,rfl,eT,o,λ_ _=>trivial,_,rfl⟩) (by have:=h.len;lia) (λ_ _=>trivial) ⟨b,rfl⟩
  have p:jd (yn false x) (.int 2)=‹x.rules›:=rfl;refine⟨[‹X.map (yn false)›,↑(a.map D.str),some<|yn false x,b],_,T,rfl,?_,by have:=h.len;lia,λ_ _=>trivial,some<|yn false x,j,rfl⟩;simp[yC,p,g,jH _ g,e]) (by rw[L1];simp;lia) (λ_ _=>trivial) ⟨none,none,rfl⟩
 refine⟨T,?_⟩;simp[ym,jy,kj,c,jH _ c,e,jb]
def jjn(w)(o)(l:W1):Y1 true (.str w) (.lst o<|l.map D.str)=some (.bl<|!decide (w∈l)):=by
 show(bif jhi (.str w) (l.map D.str) then some (D.bl<|true != inL (.str w) (l.map D.str)) else none)=_;rw[xk,jaT];simp
def jjL{C:List W3}{N:W1}:∀{ρ:Rh},(∃ o,ρ=[o,↑(N.map D.str)])->∃(F:W1),An3 (jU (jc [] 0) (jj<|p2 (Y1 true) (p2 jd (pV 0)<|pI 0)<|pV 1) (pF<|p2 jd (pV 0)<|pI 0) (C.map e3) ρ=some (F.map D.str)) (F.length<=C.length) (∀ w∈F,w∈C.map (·.1)):=by
 induction C with
 | nil=>intro ρ _;exact⟨[],rfl,by simp,by simp⟩
 | cons c C g=>
  rintro ρ ⟨o,rfl⟩;obtain⟨F,e,j,d⟩:=g ⟨_,rfl⟩;have c0:=i30 (t:=c);have f:jc [] 0 (e3 c) [o,↑(N.map D.str)]=some [some<|e3 c,↑(N.map D.str)]:=rfl;have a:jj (p2 (Y1 true) (p2 jd (pV 0)<|pI 0)<|pV 1) [some<|e3 c,↑(N.map D.str)]=some (!decide (c.1∈N)):=by
   simp[c0,jjn c.1 true N]
  have i:pF (p2 jd (pV 0)<|pI 0) [some<|e3 c,↑(N.map D.str)]=some (.str c.1):=by rfl
  rw[L5];by_cases h:c.1∈N
  ·refine⟨F,?_,by rw[M3];lia,λw b=>L6 _<|d w b⟩;rw[X5 h] at a;rw[yS,f,L4,a];exact e
  ·refine⟨c.1::F,?_,by simp;lia,λw b=>(M5.mp b).elim (λz=>by rw[z];exact L7 ..) λz=>L6 _<|d w z⟩;rw[X6 h] at a;rw[yS,f,L4,a,L4,Bool.not_false,cond_true,i,L4,e];rfl
def wc{ns}(h:uN ns){P:List W2}(s:1<=P.length){F:W1}{n}(b:0<=n)(d:n<100000){a2 a4 a5}{L}(u:L.length<=100){i}(hi:i<F.length):
  ∃ q:List Nat×List Nat,(q.1∈P.map (·.1)/\q.2∈F)/\ku [‹ns.map D.int›,some<|At n,a2,‹P.map e2›,a4,a5,↑(F.map D.str),↑(L.map eG),some<|.int<|0+(i:Int)] =
   some (.nx [‹ns.map D.int›,some<|At<|n+1,a2,‹P.map e2›,a4,a5,↑(F.map D.str),↑((L++[q]).map eG),some<|.int<|0+(i:Int)]):=by
 obtain⟨v,j,x⟩:=vb ns h b d;obtain⟨c,k,m⟩:=jl2 (o:=false) (U2 v<|show(P.length:Int)≠0 by lia)<|U1 v (show 0<(P.length:Int) by lia);have p:frz (e2 c)=true:=rfl;have e:jn (.int v) (.int P.length)=some (.int<|v%P.length):=jh ∅;have f:=wW (o:=true) (l:=F) (i:=0+i) ∅ ∅;have g:F.getD (0+(i:Int)).toNat []∈F:=Va ∅;generalize F.getD (0+(i:Int)).toNat []=w at f g;have r:(((P.map e2).length:Nat):Int)=P.length:=by simp
 have a:lim (L.map eG).length=true:=yh ∅;refine⟨(c.1,w),⟨M7.mpr ⟨c,k,rfl⟩,g⟩,?_⟩;rw[N7];show _=some (Out.nx [_,_,_,_,_,_,_,↑((L.map eG)++[.tup [.str c.1,.str w]]),_]);generalize(L.map eG)=LL at *;simp(disch:=lia) [ku,j,ya P,e,m,p,i20 (t:=c),f,a,-Int.zero_add]
def jb5{ns}(r:uN ns){C:List W3}(hC:C.length<=6){P:List W2}(hP:P.length<=100){A B E}{X:List OrdS}(H:X.length<=5)(s:∀ x∈X,OrdOk A B E x){n}(g:0<=n)(I:n+50<=100000):
  Ex2 λ(L:List<|List Nat×List Nat) (n':Int)=>An5 (vp [.lst false<|ns.map D.int,At n,.lst false<|C.map e3,.lst false<|P.map e2,.lst false<|X.map<|yn false]=some (.lst true<|L.map eG,At n')) (n<=n') (n'<=n+10) (L.length<=6) (∀ q∈L,q.1∈P.map (·.1)/\q.2∈C.map (·.1)):=by
 obtain⟨N,t⟩:=jdo H s;have c:=kX C;have J:=zg C;have h:=vq s;have d:=jH _ h;have lC:lim (C.map e3).length=true:=yh ∅;have K:yk (N.map D.str)=true:=by simp
 obtain⟨F,u,hF,l⟩:=jjL (C:=C) (ρ:=jk [none,some 5] [‹ns.map D.int›,some<|At n,‹C.map e3›,‹P.map e2›,‹X.map (yn false)›,↑(N.map D.str),none,none,none]) ⟨none,rfl⟩;have M:(((F.map D.str).length:Nat):Int)=F.length:=by simp
 have O:(((P.map e2).length:Nat):Int)=P.length:=by simp
 by_cases Q:P.length=0
 ·have m:=List.eq_nil_of_length_eq_zero Q;subst m;refine⟨[],n,?_,by lia,by lia,by simp,by simp⟩;unfold vp;rw[vY];simp only[List.map_nil] at *;simp(disch:=lia) [qR,t,d,c,u,jb,YN]
 ·obtain⟨v,R,hv⟩:=vb ns r g ∅;have S:0<P.length:=by lia
  have e:0<P.length:=by lia
  have b:xP [.int F.length,.int<|v%4]=some (.int<|if v%4<F.length then v%4 else F.length):=rfl;have T:0<=(if v%4<F.length then v%4 else F.length):=by lia
  have U:(if v%4<F.length then v%4 else F.length)<=F.length:=by lia
  have V:(if v%4<F.length then v%4 else F.length)<=3:=by lia
  generalize(if v%4<F.length then v%4 else F.length)=k at b T U V;obtain⟨ρ',w,L,o,rfl,p,a⟩:=vM (G:=jc [1] 8) (xs:=qe 0 k.toNat) (λi ρ=>∃ L o,ρ=[‹ns.map D.int›,some<|At<|n+1+i,‹C.map e3›,‹P.map e2›,‹X.map (yn false)›,↑(N.map D.str),↑(F.map D.str),↑(L.map eG),o]/\L.length=i/\∀ q∈L,q.1∈P.map (·.1)/\q.2∈F) (by
   rintro i x ρ W ⟨L,o,rfl,p,a⟩;obtain⟨rfl,hi⟩:=qf W;obtain⟨z,Y,Z⟩:=wc r (P:=P) ∅ (F:=F) (n:=n+1+i) ∅ ∅ (L:=L) ∅ (i:=i) ∅;refine⟨_,_,rfl,.inl Z,L++[z],some<|.int<|0+i,?_,by simp[p],λq f=>(N4.mp f).elim (a q) λy=>by rw[M9.mp y];exact Y⟩;rw[show n+1+(((i+1:Nat)):Int)=n+1+i+1 by lia]) (ρ:=[‹ns.map D.int›,some<|At<|n+1,‹C.map e3›,‹P.map e2›,‹X.map (yn false)›,↑(N.map D.str),↑(F.map D.str),some<|.lst true [],none]) ⟨[],none,by simp,rfl,by simp⟩
  rw[jQ] at p w;refine⟨L,n+1+(k.toNat:Int),?_,by lia,by lia,by lia,λq f=>⟨(a q f).1,l _ (a q f).2⟩⟩;unfold vp;rw[vY];simp(disch:=lia) [qR,t,d,c,u,e,R,jh,b,yA (j:=k) ∅ ∅,w,jb,YN]
def jaM{c a:Int}{W}(b:Bse c W)(g:0<=a){q:Nat}(h:a+q<=676):((List.range q).map λj:Nat=>nmF c W<|a+(0+(j:Int))).Nodup:=by
 unfold List.Nodup;rw[List.pairwise_map];refine List.Pairwise.imp_of_mem ?_<|List.nodup_range;intro i j hi d f e;have hi:=List.mem_range.mp hi;have d:=List.mem_range.mp d;have:=KR b ∅ ∅ ∅ ∅ e
 lia
def jaU{ns}(j:uN ns){n a k}{W}(nm:∀ k:Int,0<=k->ju [.int a,.int k]=some (.str<|nmF a W k))(t:0<=k)(l:k<=10)(c:0<=n)(m:n+5<=100000){a4 a5 a6}{C:List W3}(u:C.length<=100){i:Nat}{o9 b0 b1 b2 b3 b4 b5 b6}:
  Ex3 λx x2 o9'=>An2 (1<=x/\x<=1000000000000/\1<=x2/\x2<=1000000000000) (ki [‹ns.map D.int›,some<|At n,some<|.int a,some<|.int k,a4,a5,a6,↑(C.map e3),some<|.int<|0+(i:Int),o9,b0,b1,b2,b3,b4,b5,b6] =
   some (.nx [‹ns.map D.int›,some<|At<|n+1+1,some<|.int a,some<|.int k,a4,a5,a6,↑((C++[(nmF a W<|10*k+1+(0+(i:Int)),x,x2)]).map e3),some<|.int<|0+(i:Int),o9',b0,b1,b2,b3,b4,b5,b6])):=by
 obtain⟨v,o,p⟩:=vb ns j c ∅;obtain⟨x,ex,q,r⟩:=Y2 p;obtain⟨y,d,e⟩:=vb ns j (n:=n+1) ∅ ∅;obtain⟨x2,f,g,h⟩:=Y2 e;have s:=nm (10*k+1+(0+i)) ∅;have b:lim (C.map e3).length=true:=yh ∅;refine⟨x,x2,some<|.int x,⟨q,r,g,h⟩,?_⟩;generalize nmF a W (10*k+1+(0+i))=w at *;rw[N7];show _=some (Out.nx [_,_,_,_,_,_,_,↑(C.map e3++[.tup [.str w,.int x,.int x2]]),_,_,_,_,_,_,_,_,_]);generalize C.map e3=CC at *;simp(disch:=lia) [ki,o,ex,d,f,s,qv,b,-Int.zero_add]
theorem xB(d:uN ns)  (nm:∀ k:Int,0<=k->ju [.int sd,.int k]=some (.str<|nmF sd W k)) (f:0<=k) (a:k<=10):∀(q i:Nat) {n:Int}(_:0<=n) (_:n+q+20<=100000) o,∃ P:List W2,∃ o0:Option D,
  qU (jc [4] 0) (KN<|jr (dP<|jv ju #[pV 1,p2 ji (p2 ji (p2 yV (pI 10)<|pV 2)<|pI 7)<|pV 0])<|jr (vW jC<|jr (yc jo 4 1<|ja (pF<|pV 3)<|pFs pN) Jk) Jk) ((List.range' i q).map λi:Nat=>D.int<|0+(i:Int)) [o,some<|.int sd,some<|.int k,‹ns.map D.int›,some<|At n] =
   some (P.map e2,[o0,some<|.int sd,some<|.int k,‹ns.map D.int›,some<|At<|n+q])/\P.map (·.1)=((List.range' i q).map λj:Nat=>nmF sd W<|10*k+7+(0+(j:Int)))/\∀ p∈P,1<=p.2/\p.2<=1000000000000
 | 0,i,n,_,_,o=>⟨[],o,by rw[show n+((0:Nat):Int)=n by lia];rfl,rfl,by simp⟩
 | q+1,i,n,w,x,o=>by
  obtain⟨v,g,h⟩:=vb ns d (n:=n) ∅ ∅;obtain⟨c,l,c1,m⟩:=Y2 h;obtain⟨P,o0,e,r,b⟩:=xB d nm f a q (i+1) (n:=n+1) ∅ ∅ (some<|.int<|0+i);refine⟨(nmF sd W<|10*k+7+(0+i),c)::P,o0,?_,?_,λp s=>?_⟩
  ·have t:(KN<|jr (dP<|jv ju #[pV 1,p2 ji (p2 ji (p2 yV (pI 10)<|pV 2)<|pI 7)<|pV 0])<|jr (vW jC<|jr (yc jo 4 1<|ja (pF<|pV 3)<|pFs pN) Jk) Jk) [some<|.int<|0+i,some<|.int sd,some<|.int k,‹ns.map D.int›,some<|At n]=some (.tup [.str<|nmF sd W<|10*k+7+(0+i),.int c],[some<|.int<|0+i,some<|.int sd,some<|.int k,‹ns.map D.int›,some<|At<|n+1]):=by
    simp(disch:=lia) [g,l,nm (10*k+7+(0+i)) ∅,qv,-Int.zero_add]
   have u:jc [4] 0 (.int<|0+i) [o,some<|.int sd,some<|.int k,‹ns.map D.int›,some<|At n]=some [some<|.int<|0+i,some<|.int sd,some<|.int k,‹ns.map D.int›,some<|At n]:=rfl;rw[List.range'_succ,L5,qU,u,L4,t,L4,e,show n+((q+1:Nat):Int)=n+1+q by lia];rfl
  ·rw[List.range'_succ,L5,L5,r]
  ·exact(M5.mp s).elim (λz=>by rw[z];exact⟨c1,m⟩) (b p)
def jj9(c:uN ns)  (nm:∀ k:Int,0<=k->ju [.int sd,.int k]=some (.str<|nmF sd W k)) (d:0<=k) (a:k<=10)  (b:0<=n) (e:n+40<=100000)  (f:q<=9):∃ P:List W2,∃ o0:Option D,
  qU (jc [4] 0) (KN<|jr (dP<|jv ju #[pV 1,p2 ji (p2 ji (p2 yV (pI 10)<|pV 2)<|pI 7)<|pV 0])<|jr (vW jC<|jr (yc jo 4 1<|ja (pF<|pV 3)<|pFs pN) Jk) Jk) (qe 0 q) [none,some<|.int sd,some<|.int k,‹ns.map D.int›,some<|At n] =
   some (P.map e2,[o0,some<|.int sd,some<|.int k,‹ns.map D.int›,some<|At<|n+q])/\P.map (·.1)=((List.range q).map λj:Nat=>nmF sd W<|10*k+7+(0+(j:Int)))/\∀ p∈P,1<=p.2/\p.2<=1000000000000:=by
 have:=xB c nm d a q 0 b ∅ none;rw[<- List.range_eq_range'] at this;exact this
def jqE{X:List OrdS}{i:Int}(a:0<=i)(h:i<X.length):∃ x∈X,jd (.lst o<|X.map<|yn false) (.int i)=some (yn false x):=by
 have hi:i.toNat<X.length:=by lia
 exact⟨X[i.toNat],List.getElem_mem hi,by rw[jdy a<|by rw[L1];exact h,List.getElem?_map,E1 hi];rfl⟩
def jdO{ns}(d:uN ns){n}(a:0<=n)(e:n+5<=100000){C:List W3}(q:1<=C.length){X:List OrdS}(r:1<=X.length)  {L}(s:L.length<=100) {i:Nat}{a2 a3 a4 a5 a6 a9 b0 b2 b5 b6}:
  ∃ l b5',(l.1∈C.map (·.1)/\l.2.2∈X.map (·.nm))/\v8 [‹ns.map D.int›,some<|At n,a2,a3,a4,a5,a6,‹C.map e3›,some<|.int<|0+(i:Int),a9,b0,some<|.int (C.length:Int),b2,some<|.lst o<|X.map<|yn false,↑(L.map eL),b5,b6] =
   some (.nx [‹ns.map D.int›,some<|At<|n+1,a2,a3,a4,a5,a6,‹C.map e3›,some<|.int<|0+(i:Int),a9,b0,some<|.int (C.length:Int),b2,some<|.lst o<|X.map<|yn false,↑((L++[l]).map eL),b5',b6]):=by
 obtain⟨v,f,u⟩:=vb ns d a ∅;obtain⟨c,g,h,_⟩:=jbi (o:=false) (U2 v<|show(C.length:Int)≠0 by lia)<|U1 v (show 0<(C.length:Int) by lia);have j:jn (.int v) (.int C.length)=some (.int<|v%C.length):=jh ∅;obtain⟨x,k,ix⟩:=jqE (o:=o) (U2 (v/100)<|show(X.length:Int)≠0 by lia)<|U1 (v/100) (show 0<(X.length:Int) by lia);have m:jn (.int<|v/100) (.int X.length)=some (.int<|v/100%X.length):=jh ∅;have p:(((X.map<|yn false).length:Nat):Int)=X.length:=by simp
 have b:lim (L.map eL).length=true:=yh ∅;refine⟨(c.1,1+v/10%9,x.nm),some<|.int v,⟨M7.mpr ⟨c,g,rfl⟩,M7.mpr ⟨x,k,rfl⟩⟩,?_⟩;rw[N7];show _=some (Out.nx [_,_,_,_,_,_,_,_,_,_,_,_,_,_,↑(L.map eL++[.tup [.str c.1,.int<|1+v/10%9,.str x.nm]]),_,_]);simp(disch:=lia) [v8,f,h,i30 (t:=c),jA,jh,ix,O0 x,jb]
structure PoolS where
 nm:List Nat
 told:List W3
 marks:List W2
 eats:List (List Nat)
 orders:List OrdS
 looks:List WL
 guards:List WG
def jL(o:Bool)(p:PoolS):D:=.tup [.str p.nm,.lst false<|p.told.map e3,.lst false<|p.marks.map e2,.lst o<|p.eats.map D.str,.lst false<|p.orders.map<|yn false,.lst false<|p.looks.map eL,.lst false<|p.guards.map eG]
structure PoolOk(O:W1)(p:PoolS):Prop where
 nm:Wd p.nm
 told:∀ c∈p.told,Wd c.1/\1<=c.2.1/\c.2.1<=10 ^ 12/\1<=c.2.2/\c.2.2<=10 ^ 12
 toldn:(p.told.map (·.1)).Nodup
 told1:0<p.told.length
 told2:p.told.length<=10
 marks:∀ c∈p.marks,Wd c.1/\1<=c.2/\c.2<=10 ^ 12
 marksn:(p.marks.map (·.1)).Nodup
 marks2:p.marks.length<=10
 eats:∀ w∈p.eats,Wd w
 eatsm:∀ w∈p.eats,w∈p.told.map (·.1)
 eatsn:p.eats.Nodup
 eats2:p.eats.length<=10
 orders:∀ x∈p.orders,OrdOk (p.told.map (·.1)) (p.marks.map (·.1)) O x
 ordn:(p.orders.map (·.nm)).Nodup
 orders1:0<p.orders.length
 orders2:p.orders.length<=10
 looks:∀ x∈p.looks,x.1∈p.told.map (·.1)/\Wd x.1/\Wd x.2.2
 looksm:∀ x∈p.looks,x.2.2∈p.orders.map (·.nm)
 looks2:p.looks.length<=10
 guards:∀ x∈p.guards,Wd x.1/\Wd x.2/\x.1∈p.marks.map (·.1)/\x.2∈p.told.map (·.1)
 guards2:p.guards.length<=10
def PoolOk.fz(h:PoolOk O p)(o):QD.fz (jL o p)=jL false p:=by
 simp[jL,zg,JO,jH _<|vq h.orders,jef,jhG]
def PoolOk.frz(h:PoolOk O p):QD.frz (jL false p)=true:=by
 simp[jL,kX,ya,vq h.orders,K9,uu]
def jb4(M:uN ns)  (bs:Bse sd W) (nm:∀ k:Int,0<=k->ju [.int sd,.int k]=some (.str<|nmF sd W k)) (hk:0<=k) (hk2:k<=5) (hn0:0<=n) (hn1:n+1000<=100000) (m1:1<=mo) (m2:mo<=5)  (hO:O.length<=10) (hOw:∀ w∈O,Wd w):
  Ex2 λ(p:PoolS) (n':Int)=>An6 (Jd [.lst false<|ns.map D.int,At n,.int sd,.int k,.lst false<|O.map D.str,.int mo]=some (jL false p,At n')) (n<=n') (n'<=n+300) (p.nm=nmF sd W (10*k)) (PoolOk O p) (∀ c∈p.told,∃ j:Int,1<=j/\j<=9/\c.1=nmF sd W (10*k+j)):=by
 obtain⟨m,em,hm⟩:=vb ns M hn0 ∅;have Q:=yA (j:=1+m%6) ∅ ∅;obtain⟨ρ',e1,C,g,h,rfl,r,I⟩:=vM (G:=jc [1] 8) (f:=ki) (xs:=qe 0 (1+m%6).toNat) (λi ρ=>∃(C:List W3) (g h:Option D),ρ=[‹ns.map D.int›,some<|At<|n+1+2*(i:Int),some<|.int sd,some<|.int k,‹O.map D.str›,some<|.int mo,some<|.int m,↑(C.map e3),g,h,none,none,none,none,none,none,none]/\C.map (·.1)=((List.range i).map λj:Nat=>nmF sd W<|10*k+1+(0+(j:Int)))/\∀ c∈C,1<=c.2.1/\c.2.1<=1000000000000/\1<=c.2.2/\c.2.2<=1000000000000) (by
  rintro i x ρ e ⟨C,g,h,rfl,r,I⟩;obtain⟨rfl,hi⟩:=qf e;have hCl:C.length=i:=by have:=congrArg List.length r;rw[L1,L1,List.length_range] at this;exact this
  obtain⟨z1,z2,o9',zb,ez⟩:=jaU M (n:=n+1+2*(i:Int)) nm hk ∅ ∅ ∅ (a4:=‹O.map D.str›) (a5:=some<|.int mo) (a6:=some<|.int m) (C:=C) ∅ (i:=i) (o9:=h) (b0:=none) (b1:=none) (b2:=none) (b3:=none) (b4:=none) (b5:=none) (b6:=none);refine⟨_,_,rfl,.inl ez,C++[(nmF sd W<|10*k+1+(0+(i:Int)),z1,z2)],some<|.int<|0+(i:Int),o9',?_,by rw[N7,r,List.range_succ,N7];rfl,λc b=>(N4.mp b).elim (I c) λy=>by rw[M9.mp y];exact zb⟩;rw[show n+1+2*(((i+1:Nat)):Int)=n+1+2*(i:Int)+1+1 by lia]) (ρ:=[‹ns.map D.int›,some<|At<|n+1,some<|.int sd,some<|.int k,‹O.map D.str›,some<|.int mo,some<|.int m,some<|.lst true [],none,none,none,none,none,none,none,none,none]) ⟨[],none,none,by simp,rfl,by simp⟩
 rw[jQ] at r e1;have hCl:C.length=(1+m%6).toNat:=by have:=congrArg List.length r;rw[L1,L1,List.length_range] at this;exact this
 have s:(C.map (·.1)).Nodup:=by rw[r];exact jaM bs ∅ ∅
 have S:∀ c∈C,NmI sd W 100 c.1:=λc b=>by
  have:=List.mem_map_of_mem (f:=(·.1)) b;rw[r] at this;obtain⟨j,N,U⟩:=M7.mp this;have N:=List.mem_range.mp N;exact⟨_,by lia,by lia,U.symm⟩
 have V:∀ c∈C,∃ j:Int,1<=j/\j<=9/\c.1=nmF sd W (10*k+j):=λc b=>by
  have:=List.mem_map_of_mem (f:=(·.1)) b;rw[r] at this;obtain⟨j,N,U⟩:=M7.mp this;have N:=List.mem_range.mp N;exact⟨1+(0+j),by lia,by lia,by rw[<- U,Int.add_assoc]⟩
 have J:1<=C.length:=by lia
 have t:C.length<=6:=by lia
 generalize hn2:n+1+2*(((1+m%6).toNat:Nat):Int)=n2 at e1;obtain⟨P,o0,Y,u,hPb⟩:=jj9 M nm hk ∅ (n:=n2) ∅ ∅ (q:=(m/6%4).toNat) ∅;have hP:P.length=(m/6%4).toNat:=by have:=congrArg List.length u;rw[L1,L1,List.length_range] at this;exact this
 have Z:(P.map (·.1)).Nodup:=by rw[u];exact jaM bs ∅ ∅
 have v:∀ c∈P,Wd c.1:=λc b=>by
  have:=List.mem_map_of_mem (f:=(·.1)) b;rw[u] at this;obtain⟨j,N,U⟩:=M7.mp this;rw[<- U];exact(uB bs ∅).wd
 have hrg2:=yA (j:=m/6%4) ∅ ∅;generalize hn3:n2+(((m/6%4).toNat:Nat):Int)=n3 at Y;have v3:n2<=n3/\n3<=n2+3:=by lia
 clear hn3;have frN:=vj ns;have hdc:xz (kI #[p2 jn (p2 jG (pV 6)<|pI 6)<|pI 4]) (jc [4] 0) (KN<|jr (dP<|jv ju #[pV 1,p2 ji (p2 ji (p2 yV (pI 10)<|pV 2)<|pI 7)<|pV 0])<|jr (vW jC<|jr (yc jo 4 1<|ja (pF<|pV 3)<|pFs pN) Jk) Jk) [none,some 2,some 3,some 0,some 1] 1 4
   [‹ns.map D.int›,some<|At n2,some<|.int sd,some<|.int k,‹O.map D.str›,some<|.int mo,some<|.int m,↑(C.map e3),g,h,none,none,none,none,none,none,none] =
   some (.lst true<|P.map e2,[‹ns.map D.int›,some<|At n3,some<|.int sd,some<|.int k,‹O.map D.str›,some<|.int mo,some<|.int m,↑(C.map e3),g,h,none,none,none,none,none,none,none]):=by
  have hpi:kI #[p2 jn (p2 jG (pV 6)<|pI 6)<|pI 4] [‹ns.map D.int›,some<|At n2,some<|.int sd,some<|.int k,‹O.map D.str›,some<|.int mo,some<|.int m,↑(C.map e3),g,h,none,none,none,none,none,none,none]=some (qe 0 (m/6%4).toNat):=by
   simp(disch:=lia) [jA,jh,hrg2]
  have hfb:YL 4 [none,some<|.int sd,some<|.int k,‹ns.map D.int›,some<|At n2]=true:=by simp[YL,frN]
  have hlm:lim (qe 0 (m/6%4).toNat).length=true:=jb (by rw[jQ];lia);unfold xz;rw[hpi,L4];show(bif lim (qe 0 (m/6%4).toNat).length&&YL 4 [none,some<|.int sd,some<|.int k,‹ns.map D.int›,some<|At n2] then(qU _ _ _ [none,some<|.int sd,some<|.int k,‹ns.map D.int›,some<|At n2]).bind _ else none)=_;rw[hlm,hfb,Y];rfl
 have a1:=U2 (m/24) (show(C.length:Int)+1≠0 by lia);have a2:=U1 (m/24) (show 0<(C.length:Int)+1 by lia);have hmc:jn (.int<|m/24) (.int<|(C.length:Int)+1)=some (.int<|m/24%((C.length:Int)+1)):=jh ∅;generalize m/24%((C.length:Int)+1)=q at a1 a2 hmc;have hrg3:=yA (j:=q) ∅ ∅;have hlm3:lim (qe 0 q.toNat).length=true:=jb (by rw[jQ];lia);have er3:=uL (o:=true) (T:=C) (n:=m) (c:=100) (q:=q.toNat) ∅ t (by decide) (by decide) hm;have A:=jcf (C:=C.map (·.1)) (a:=m/100) (q:=q.toNat) (by rw[L1];lia);have K:=zj (C:=C.map (·.1)) (a:=m/100) (q:=q.toNat) (by rw[L1];lia) (by rw[L1];lia) s;have hEl:=ur (C:=C.map (·.1)) (a:=m/100) (q:=q.toNat);generalize cyc (C.map (·.1)) (m/100) q.toNat=E at er3 A K hEl;have cx:Ctx ns sd W C P O:=⟨M,bs,nm,J,t,by lia,hO,s,S,v,hOw⟩;obtain⟨X,H,e4,b1,b2,hX1,hX5,B,hXn⟩:=jdK cx (n:=n3) (mo:=mo) ∅ ∅ m1 m2;have hrg5:=yA (j:=m/1000%5) ∅ ∅;obtain⟨ρ5,e5,L,p8,p15,rfl,hL,d⟩:=vM (G:=jc [1] 8) (f:=v8) (xs:=qe 0 (m/1000%5).toNat) (λi ρ=>∃(L:List WL) (g R:Option D),ρ=[‹ns.map D.int›,some<|At<|H+(i:Int),some<|.int sd,some<|.int k,‹O.map D.str›,some<|.int mo,some<|.int m,‹C.map e3›,g,h,‹P.map e2›,some<|.int (C.length:Int),↑(E.map D.str),↑(X.map<|yn false),↑(L.map eL),R,none]/\L.length=i/\∀ l∈L,l.1∈C.map (·.1)/\l.2.2∈X.map (·.nm)) (by
  rintro i x ρ e ⟨L,g,R,rfl,hL,d⟩;obtain⟨rfl,hi⟩:=qf e;obtain⟨z,b5',zm,ez⟩:=jdO M (n:=H+(i:Int)) ∅ ∅ (C:=C) J (X:=X) hX1 (o:=true) (L:=L) ∅ (i:=i) (a2:=some<|.int sd) (a3:=some<|.int k) (a4:=‹O.map D.str›) (a5:=some<|.int mo) (a6:=some<|.int m) (a9:=h) (b0:=‹P.map e2›) (b2:=↑(E.map D.str)) (b5:=R) (b6:=none);refine⟨_,_,rfl,.inl ez,L++[z],some<|.int<|0+(i:Int),b5',?_,by simp[hL],λq hq=>(N4.mp hq).elim (d q) λy=>by rw[M9.mp y];exact zm⟩;rw[show H+(((i+1:Nat)):Int)=H+(i:Int)+1 by lia]) (ρ:=[‹ns.map D.int›,some<|At H,some<|.int sd,some<|.int k,‹O.map D.str›,some<|.int mo,some<|.int m,‹C.map e3›,g,h,‹P.map e2›,some<|.int (C.length:Int),↑(E.map D.str),↑(X.map<|yn false),some<|.lst true [],none,none]) ⟨[],g,none,by simp,rfl,by simp⟩
 rw[jQ] at hL e5;generalize hn5:H+(((m/1000%5).toNat:Nat):Int)=n5 at e5;have v5:H<=n5/\n5<=H+4:=by lia
 clear hn5;obtain⟨G,n6,e6,d1,d2,hG,F⟩:=jb5 M (C:=C) t (P:=P) ∅ (X:=X) hX5 B (n:=n5) ∅ ∅;have ew:=nm (10*k) ∅;have wC:∀ w∈C.map (·.1),Wd w:=λw hw=>by obtain⟨c,b,rfl⟩:=M7.mp hw;exact cx.cw c b
 have wP:∀ w∈P.map (·.1),Wd w:=λw hw=>by obtain⟨c,b,rfl⟩:=M7.mp hw;exact v c b
 refine⟨⟨nmF sd W<|10*k,C,P,E,X,L,G⟩,n6,?_,by lia,by lia,rfl,⟨(uB bs ∅).wd,λc b=>⟨cx.cw c b,I c b⟩,s,J,N9 t<|by decide,λc b=>⟨v c b,hPb c b⟩,Z,by show P.length<=10;lia,λw hw=>wC w<|A w hw,A,K,by show E.length<=10;lia,B,hXn,hX1,N9 hX5<|by decide,λx e=>⟨(d x e).1,wC _ (d x e).1,by obtain⟨y,hy,ey⟩:=M7.mp (d x e).2;rw[<- ey];exact(B y hy).nm⟩,λx e=>(d x e).2,by show L.length<=10;lia,λx e=>⟨wP _ (F x e).1,wC _ (F x e).2,F x e⟩,by show G.length<=10;lia⟩,V⟩;clear V s S Z v A K hXn d F r u;generalize nmF sd W (10*k)=w at *;show _=some (D.tup [.str w,.lst false<|C.map e3,.lst false<|P.map e2,.lst false<|E.map D.str,.lst false<|X.map<|yn false,.lst false<|L.map eL,.lst false<|G.map eG],At n6);have frC:=kX C;have fzC:=zg C;have frP:=ya P;have fzP:=JO P;have frE:=yw E;have fzE:=qc E;have frX:=vq B;have fzX:=jH _ frX;have frL:=K9 L;have fzL:=jH _ frL;have frG:=uu G;have fzG:=jH _ frG;have frO:=yw O;have hlC:(((C.map e3).length:Nat):Int)=(C.length:Int):=by rw[L1]
 have hbk:jk [none,some 7,some 6,some 11] [‹ns.map D.int›,some<|At n3,some<|.int sd,some<|.int k,‹O.map D.str›,some<|.int mo,some<|.int m,↑(C.map e3),g,h,↑(P.map e2),some<|.int (C.length:Int),none,none,none,none,none]=[none,↑(C.map e3),some<|.int m,some<|.int (C.length:Int)]:=rfl;unfold Jd;rw[vY];generalize ns.map D.int=NS,C.map e3=CC,P.map e2=PP,E.map D.str=EE,X.map (yn false)=XX,L.map eL=LL,G.map eG=GG,O.map D.str=OO at *;simp(disch:=lia) [KH,em,frN,jh,jA,Q,e1,hdc,hlC,hmc,hrg3,hlm3,hbk,er3,fzC,fzP,frC,frP,frO,e4,hrg5,e5,fzX,frX,e6,fzE,frE,fzL,frL,fzG,frG,qv,ew,jb,YN,-uW,-jlk]
 try rfl
structure DealOk(Ps:List PoolS):Prop where
 len1:0<Ps.length
 len2:Ps.length<=6
 nmn:(Ps.map (·.nm)).Nodup
 ok:∀ p∈Ps,∃ X,PoolOk X p/\∀ w∈X,w∈Ps.map (·.nm)
 cl:∀ p∈Ps,∀ q∈Ps,∀ w,w∈p.told.map (·.1)->w∈q.told.map (·.1)->p.nm=q.nm
def jdG{ns}(E:uN ns){n a}{W}(bs:Bse a W)(nm:∀ k:Int,0<=k->ju [.int a,.int k]=some (.str<|nmF a W k))(d:0<=n)(e:n+1000<=100000){M:Nat}{N:W1}(K:N.length<=6)(f:∀ w∈N,Wd w){i}(hi:i<N.length){B}(L:B.length<=100){a3 o8}:
  Ex3 λp n' o8'=>An6 (kn [‹ns.map D.int›,some<|At n,some<|.int a,a3,some<|.int (M:Int),↑(N.map D.str),↑(B.map<|jL false),some<|.int<|0+(i:Int),o8] =
   some (.nx [‹ns.map D.int›,some<|At n',some<|.int a,a3,some<|.int (M:Int),↑(N.map D.str),↑((B++[p]).map (jL false)),some<|.int<|0+(i:Int),o8'])) (n<=n') (n'<=n+300) (p.nm=nmF a W (10*(0+(i:Int)))) (∀ c∈p.told,∃ j:Int,1<=j/\j<=9/\c.1=nmF a W (10*(0+(i:Int))+j)) (∃ X,PoolOk X p/\∀ w∈X,w∈N):=by
 have F:=wW (o:=true) (l:=N) (i:=0+i) ∅ ∅;generalize N.getD (0+(i:Int)).toNat []=u at F;have s:jU (jc [] 0) (jj<|p2 Kh (pV 0)<|p2 jd (pV 1)<|pV 2) (pF<|pV 0) (N.map D.str) (jk [none,some 5,some 7] [‹ns.map D.int›,some<|At n,some<|.int a,a3,some<|.int M,↑(N.map D.str),↑(B.map<|jL false),some<|.int<|0+i,o8])=some ((N.filter λw=>!(w==u)).map D.str):=by
  refine jaZ (λρ=>∃ o,ρ=[o,↑(N.map D.str),some<|.int<|0+i]) ?_ ⟨none,rfl⟩;rintro w b ρ ⟨o,rfl⟩;refine⟨[some<|.str w,↑(N.map D.str),some<|.int<|0+i],rfl,?_,rfl,_,rfl⟩;simp[F,-Int.zero_add]
 have J:(N.filter λw=>!(w==u)).length<=N.length:=List.length_filter_le _ _;have g:∀ w∈N.filter (λw=>!(w==u)),w∈N:=λw b=>(List.mem_filter.mp b).1;generalize(N.filter λw=>!(w==u))=O at s J g;have h:=vj ns;have m:=yw O;have q:=qc O;have r:=yw N;have G:lim (N.map D.str).length=true:=yh ∅;have H:lim (B.map<|jL false).length=true:=yh ∅;by_cases I:M=6
 ·subst I;rw[show((6:Nat):Int)=6 from rfl] at s ⊢;obtain⟨p,n',t,v,x,pn,y,z⟩:=jb4 E (k:=0+i) (mo:=2) bs nm ∅ ∅ d e (by decide) (by decide) ∅ (λw b=>f w<|g w b);refine⟨p,n',‹O.map D.str›,?_,v,x,pn,z,O,y,g⟩;have A:jd (.lst true [.int 5,.int 2]) (.int 1)=some (.int 2):=rfl;simp(disch:=lia) [kn,r,G,s,q,h,m,A,t,H,jb,-Int.zero_add]
 ·have C:¬ (M:Int)=6:=by lia
  obtain⟨p,n',t,v,x,pn,y,z⟩:=jb4 E (k:=0+i) (mo:=5) bs nm ∅ ∅ d e (by decide) (by decide) ∅ (λw b=>f w<|g w b);refine⟨p,n',‹O.map D.str›,?_,v,x,pn,z,O,y,g⟩;have A:jd (.lst true [.int 5,.int 2]) (.int 0)=some (.int 5):=rfl;simp(disch:=lia) [kn,r,G,s,q,h,m,C,I,A,t,H,jb,-Int.zero_add]
def ji6{ns}(t:uN ns):Ex3 λsd W B=>An3 (Bse sd W) (kN [.lst false<|ns.map D.int]=↑(B.map<|jL false)) (DealOk B):=by
 obtain⟨s0,U,V,_⟩:=Qp ns t (k:=0) (by decide) (by decide);obtain⟨v,Y,hv⟩:=vb ns t (n:=0) (by decide) (by decide);obtain⟨W,bs,nm⟩:=jjX (s:=s0%1000000000000) ∅;have u:Jx (.int 10) (.int 12)=some (.int 1000000000000):=rfl;have Z:∃ M:Nat,1<=M/\M<=6/\jd (.lst true [.int 1,.int 2,.int 3,.int 1,.int 2,.int 6]) (.int<|v%6)=some (.int M):=by
  have:v%6=0\/v%6=1\/v%6=2\/v%6=3\/v%6=4\/v%6=5:=by lia
  rcases this with h | h | h | h | h | h<;>rw[h]
  ·exact⟨1,by decide,by decide,rfl⟩
  ·exact⟨2,by decide,by decide,rfl⟩
  ·exact⟨3,by decide,by decide,rfl⟩
  ·exact⟨1,by decide,by decide,rfl⟩
  ·exact⟨2,by decide,by decide,rfl⟩
  ·exact⟨6,by decide,by decide,rfl⟩
 obtain⟨M,M1,M6,iM⟩:=Z;have e6:Km [.int M]=some (qe 0 M):=by
  have:=yA (j:=M) ∅ ∅;simpa using this
 have y:lim (qe 0 M).length=true:=jb (by rw[jQ];lia);have f:jU (jc [] 0) qT (jv ju #[pV 1,p2 yV (pI 10)<|pV 0]) (qe 0 M) (jk [none,some 2] [‹ns.map D.int›,some<|At 1,some<|.int<|s0%1000000000000,some<|.int v,some<|.int M,none,none,none,none])=some (((List.range M).map λj:Nat=>nmF (s0%1000000000000) W<|10*(0+j)).map D.str):=by
  rw[U3];refine jq (l:=List.range M) rfl (λρ=>∃ o,ρ=[o,some<|.int<|s0%1000000000000]) ?_ ⟨none,rfl⟩;rintro i hi ρ ⟨o,rfl⟩;have hi:=List.mem_range.mp hi;refine⟨[some<|.int<|0+i,some<|.int<|s0%1000000000000],rfl,?_,_,rfl⟩;simp(disch:=lia) [qv,nm (10*(0+i)) ∅,-Int.zero_add]
 have g:∀ w∈(List.range M).map λj:Nat=>nmF (s0%1000000000000) W<|10*(0+j),Wd w:=λw hw=>by
  obtain⟨j,_,rfl⟩:=M7.mp hw;exact(uB bs ∅).wd
 have m:((List.range M).map λj:Nat=>nmF (s0%1000000000000) W<|10*(0+j)).Nodup:=by
  unfold List.Nodup;rw[List.pairwise_map];refine List.Pairwise.imp_of_mem ?_<|List.nodup_range;intro i j hi R hij e;have hi:=List.mem_range.mp hi;have R:=List.mem_range.mp R;have:=KR bs ∅ ∅ ∅ ∅ e
  lia
 have A:((List.range M).map λj:Nat=>nmF (s0%1000000000000) W<|10*(0+j)).length=M:=by rw[L1,List.length_range]
 have S:∀ i:Nat,i<M->((List.range M).map λj:Nat=>nmF (s0%1000000000000) W<|10*(0+j)).take (i+1)=((List.range M).map λj:Nat=>nmF (s0%1000000000000) W<|10*(0+j)).take i++[nmF (s0%1000000000000) W<|10*(0+i)]:=λi hi=>by
  rw[List.take_add_one,List.getElem?_map,List.getElem?_range hi];rfl
 generalize((List.range M).map λj:Nat=>nmF (s0%1000000000000) W<|10*(0+j))=N at f g m A S;obtain⟨ρ',C,B,d,E,F,rfl,b,b1,b2,H,r⟩:=vM (G:=jc [] 7) (xs:=qe 0 M) (λi ρ=>∃ B d E F,ρ=[‹ns.map D.int›,some<|At d,some<|.int<|s0%1000000000000,some<|.int v,some<|.int M,↑(N.map D.str),↑(B.map<|jL false),E,F]/\B.map (·.nm)=N.take i/\1<=d/\d<=1+300*i/\(∀ p∈B,∃ X,PoolOk X p/\∀ w∈X,w∈N)/\∀ p∈B,∃ k:Nat,k<6/\p.nm=nmF (s0%1000000000000) W (10*(0+(k:Int)))/\∀ c∈p.told,∃ j:Int,1<=j/\j<=9/\c.1=nmF (s0%1000000000000) W (10*(0+(k:Int))+j)) (by
  rintro i x ρ hx ⟨B,d,E,F,rfl,b,b1,b2,H,r⟩;obtain⟨rfl,hi⟩:=qf hx;have I:B.length<=i:=by have:=congrArg List.length b;rw[L1,E2] at this;lia
  obtain⟨p,n2,J,e,c1,T,pn,pj,K⟩:=jdG t (n:=d) bs nm ∅ ∅ ∅ g (i:=i) ∅ (B:=B) ∅;refine⟨_,_,rfl,.inl e,B++[p],n2,some<|.int<|0+i,J,rfl,by rw[N7,b,S i hi,<- pn];rfl,by lia,by lia,λz a=>?_,λz a=>?_⟩
  ·rcases N4.mp a with a | a
   ·exact H z a
   ·rw[M9.mp a];exact K
  ·rcases N4.mp a with a | a
   ·exact r z a
   ·rw[M9.mp a];exact⟨i,by lia,pn,pj⟩) (ρ:=[‹ns.map D.int›,some<|At 1,some<|.int<|s0%1000000000000,some<|.int v,some<|.int M,↑(N.map D.str),some<|.lst true [],none,none]) ⟨[],1,none,none,rfl,rfl,by lia,by lia,by simp,by simp⟩
 rw[jQ,<- A,List.take_length] at b;have I:B.length=M:=by have:=congrArg List.length b;rw[L1,A] at this;exact this
 refine⟨_,W,B,bs,?_,⟨by lia,by lia,by rw[b];exact m,by rw[b];exact H,λp L q O w P Q=>?_⟩⟩
 rotate_left
 ·obtain⟨k1,l1,C,f1⟩:=r p L;obtain⟨k2,l2,e2,f2⟩:=r q O;obtain⟨c1,m1,rfl⟩:=M7.mp P;obtain⟨T,m2,f⟩:=M7.mp Q;obtain⟨j1,g1,g2,d1⟩:=f1 c1 m1;obtain⟨j2,g3,g4,d2⟩:=f2 T m2;rw[d1,d2] at f;have:=KR bs ∅ ∅ ∅ ∅ f;rw[C,e2,show(k1:Int)=k2 by lia]
 simp(disch:=lia) [kN,jy,Ka,jb,vj ns,Yi ns,U,u,jh,Y,iM,e6,y,f,C,-Int.zero_add]
def jdl(c:0<=n):∃ v,jR [.int n]=some (.int v)/\0<=v/\v<10 ^ 30:=by
 have a:Jx (.int 10) (.int 13)=some (.int 10000000000000):=rfl;have b:Jx (.int 10) (.int 30)=some (.int 1000000000000000000000000000000):=rfl;have o:n%6=0\/n%6=1\/n%6=2\/n%6=3\/n%6=4\/n%6=5:=by lia
 rcases o with o | o | o | o | o | o
 ·exact⟨0,by simp(disch:=lia) [jR,jy,yq,jh,jA,o],by decide,by decide⟩
 ·exact⟨n/6%60,by simp(disch:=lia) [jR,jy,yq,jh,jA,o],by lia,by lia⟩
 ·exact⟨n/6%60,by simp(disch:=lia) [jR,jy,yq,jh,jA,o],by lia,by lia⟩
 ·exact⟨n/6%2000,by simp(disch:=lia) [jR,jy,yq,jh,jA,o],by lia,by lia⟩
 ·exact⟨n/6%10000000000000,by simp(disch:=lia) [jR,jy,yq,jh,jA,o,a],by lia,by lia⟩
 ·exact⟨n/6%1000000000000000000000000000000,by simp(disch:=lia) [jR,jy,yq,jh,jA,o,b],by lia,by lia⟩
def jjO(c:0<=n):∃ v,yi [.int n]=some (.int v)/\0<=v/\v<10 ^ 30:=by
 have a:Jx (.int 10) (.int 13)=some (.int 10000000000000):=rfl;have b:Jx (.int 10) (.int 29)=some (.int 100000000000000000000000000000):=rfl;have o:n%6=0\/n%6=1\/n%6=2\/n%6=3\/n%6=4\/n%6=5:=by lia
 rcases o with o | o | o | o | o | o
 ·exact⟨0,by simp(disch:=lia) [yi,jy,vf,jh,jA,o],by decide,by decide⟩
 ·exact⟨0,by simp(disch:=lia) [yi,jy,vf,jh,jA,o],by decide,by decide⟩
 ·exact⟨0,by simp(disch:=lia) [yi,jy,vf,jh,jA,o],by decide,by decide⟩
 ·exact⟨n/6%40,by simp(disch:=lia) [yi,jy,vf,jh,jA,o],by lia,by lia⟩
 ·exact⟨n/6%10000000000000,by simp(disch:=lia) [yi,jy,vf,jh,jA,o,a],by lia,by lia⟩
 ·exact⟨n/6%100000000000000000000000000000,by simp(disch:=lia) [yi,jy,vf,jh,jA,o,b],by lia,by lia⟩
noncomputable abbrev Dy:=List Int×List Int
noncomputable def ql(y:Dy):D:=.tup [.lst false<|y.1.map D.int,.lst false<|y.2.map D.int]
structure DyOk(k:Nat)(y:Dy):Prop where
 a:y.1.length=k
 b:y.2.length=k
 a0:∀ v∈y.1,0<=v/\v<10 ^ 30
 b0:∀ v∈y.2,0<=v/\v<10 ^ 30
def jeZ{ns}(q:uN ns){a}(H:a.length<=10){Y}(I:Y.length<=100){i:Nat}(hi:i<=10){o4 o5}:
  Ex3 λy o4' o5'=>An2 (qF [‹ns.map D.int›,‹a›,↑(Y.map ql),some<|.int<|0+(i:Int),o4,o5] =
   some (.nx [‹ns.map D.int›,‹a›,↑((Y++[y]).map ql),some<|.int<|0+(i:Int),o4',o5'])) (DyOk a.length y):=by
 have f:Km [.int a.length]=some (qe 0 a.length):=by
  have:=yA (j:=a.length) ∅ ∅;simpa using this
 have g:lim (qe 0 a.length).length=true:=jb (by rw[jQ];lia);have b:∀ e base ρ,0<=base->base<=1000->(∀ n:Int,0<=n->∃ v,e [.int n]=some (.int v)/\0<=v/\v<10 ^ 30)->(∃ o,ρ=[o,‹ns.map D.int›,some<|.int<|0+i]) ->
   ∃ V:List Int,jU (jc [] 0) qT (jv e #[jv yb #[pV 1,p2 ji (p2 ji (pI base)<|p2 yV (pI 12)<|pV 2)<|pV 0]]) (qe 0 a.length) ρ=some (V.map D.int)/\V.length=a.length/\∀ v∈V,0<=v/\v<10 ^ 30:=by
  intro e base ρ J K r s;obtain⟨L,t,h,u⟩:=KZ (G:=jc [] 0) (p:=jv e #[jv yb #[pV 1,p2 ji (p2 ji (pI base)<|p2 yV (pI 12)<|pV 2)<|pV 0]]) (Good:=λd=>∃ v,d=.int v/\(0<=v/\v<10 ^ 30)) (P:=λρ=>∃ o,ρ=[o,‹ns.map D.int›,some<|.int<|0+i]) (xs:=qe 0 a.length) (by
   rintro x w ρ ⟨o,rfl⟩;obtain⟨j,m,rfl⟩:=M7.mp w;have m:=List.mem_range.mp m;obtain⟨d,z,hd,_⟩:=Qp ns q (k:=base+12*(0+i)+(0+j)) ∅ ∅;obtain⟨v,A,B⟩:=r d hd;refine⟨[some<|.int<|0+j,‹ns.map D.int›,some<|.int<|0+i],.int v,rfl,?_,⟨v,rfl,B⟩,_,rfl⟩;simp(disch:=lia) [qv,vj ns,Yi ns,z,A,-Int.zero_add]) s
  rw[jQ] at h;obtain⟨V,rfl,C⟩:=YZ u;rw[L1] at h;exact⟨V,t,h,C⟩
 obtain⟨V,E,l1,F⟩:=b jR 700 (jk [none,some 0,some 3] [‹ns.map D.int›,‹a›,↑(Y.map ql),some<|.int<|0+i,o4,o5]) (by decide) (by decide) (λn l=>jdl l) ⟨none,rfl⟩;obtain⟨W,e2,l2,w2⟩:=b yi 706 (jk [none,some 0,some 3] [‹ns.map D.int›,‹a›,↑(Y.map ql),some<|.int<|0+i,↑(V.map D.int),o5]) (by decide) (by decide) (λn l=>jjO l) ⟨none,rfl⟩;have c:lim (Y.map ql).length=true:=yh ∅;refine⟨(V,W),‹V.map D.int›,‹W.map D.int›,?_,l1,l2,F,w2⟩;rw[N7];show _=some (Out.nx [_,_,↑(Y.map ql++[.tup [.lst false<|V.map D.int,.lst false<|W.map D.int]]),_,_,_]);simp(disch:=lia) [qF,f,g,E,e2,vj V,Yi V,vj W,Yi W,c,jb,-Int.zero_add]
def jjZ(m:uN ns)  (n:DD.length<=10) (t:frzs DD=true):∃(Y:List Dy),An3 (kS [.lst false<|ns.map D.int,.lst false DD]=↑(Y.map ql)) (Y.length<=6) (∀ y∈Y,DyOk DD.length y):=by
 obtain⟨s0,o,p,_⟩:=Qp ns m (k:=690) (by decide) (by decide);obtain⟨u,q,Y,b,c,d,rfl,f,g⟩:=vM (G:=jc [] 3) (xs:=qe 0 (s0%7).toNat) (λi ρ=>∃ Y b c d,ρ=[‹ns.map D.int›,‹DD›,↑(Y.map ql),b,c,d]/\Y.length=i/\∀ y∈Y,DyOk DD.length y) (by
  rintro i x ρ r ⟨Y,b,c,d,rfl,f,g⟩;obtain⟨rfl,hi⟩:=qf r;obtain⟨y,h,l,e,s⟩:=jeZ m n (Y:=Y) ∅ (i:=i) ∅;refine⟨_,_,rfl,.inl e,Y++[y],some<|.int<|0+i,h,l,rfl,by simp[f],λz a=>?_⟩;rcases N4.mp a with a | a
  ·exact g z a
  ·rw[M9.mp a];exact s) (ρ:=[‹ns.map D.int›,‹DD›,some<|.lst true [],none,none,none]) ⟨[],none,none,none,rfl,rfl,by simp⟩
 rw[jQ] at f;refine⟨Y,?_,by lia,g⟩;simp(disch:=lia) [kS,jy,V9,vj ns,Yi ns,o,jh,yA (j:=s0%7) ∅ ∅,q,jb]
def alk(n:Nat)(d:D):Prop:=yj n [d,d]=some (.bl true)
def jkJ(n)(i):alk (n+1) (.int i):=by
 unfold alk yj;have a:jfT (.int i) .non=some (.bl false):=rfl;simp[jy,kO,wL,a]
def jjz(n)(i):alk (n+1) (.str i):=by
 unfold alk yj;have a:jfT (.str i) .non=some (.bl false):=rfl;simp[jy,kO,wL,a]
theorem Qr:∀{l}{o2 o3},frzs l=true->(∀ x∈l,alk n x)->∃ o2' o3',j8 (gT 2<|gC (jc [] 2)<|gC (jc [] 3) gN) (ko<|yj n) (jdV l l) [a0,a1,o2,o3]=some (.nx [a0,a1,o2',o3'])
 | [],o2,o3,_,_=>⟨o2,o3,rfl⟩
 | x::l,o2,o3,a,h=>by
  rw[Yb,M0] at a;obtain⟨r2,c,e⟩:=Qr a.2<|λy d=>h y (by simp[d]);refine⟨r2,c,?_⟩;have b:yj n [x,x]=some (.bl true):=h x (by simp);have f:(gT 2<|gC (jc [] 2)<|gC (jc [] 3) gN) (.tup [x,x]) [a0,a1,o2,o3]=some [a0,a1,some x,some x]:=rfl;have g:ko (yj n) [a0,a1,some x,some x]=some (.nx [a0,a1,some x,some x]):=by simp[ko,jhl x a.1,b]
  rw[jdV,yz,f,L4,g,L4,we,e]
def jjC(b:frzs l=true)(g:l.length<=1000)(h:∀ x∈l,alk n x):alk (n+1) (.lst false l):=by
 unfold alk yj;obtain⟨r2,i,e⟩:=Qr (a0:=‹l›) (a1:=‹l›) (o2:=none) (o3:=none) b h;have a:=jH l b;have c:Kh (.bl true) (.bl true)=some (.bl false):=rfl;have d:Kh (.bl false) (.bl false)=some (.bl false):=rfl;have f:jfS 2 [.lst false l,.lst false l]=some (jdV l l):=by rw[jo7 rfl rfl<|N1 _,a]
 simp[jy,kO,wL,b,a,f,c,d,e]
def jkf(b:frzs l=true)(g:l.length<=1000)(h:∀ x∈l,alk n x):alk (n+1) (.tup l):=by
 unfold alk yj;obtain⟨r2,i,e⟩:=Qr (a0:=some<|.tup l) (a1:=some<|.tup l) (o2:=none) (o3:=none) b h;have a:=jH l b;have c:Kh (.bl true) (.bl true)=some (.bl false):=rfl;have d:Kh (.bl false) (.bl false)=some (.bl false):=rfl;have f:jfS 2 [.tup l,.tup l]=some (jdV l l):=by rw[jo7 rfl rfl<|N1 _,a]
 simp[jy,kO,wL,b,a,f,c,d,e]
def pln:Nat->D->Bool
 | 0,_=>false
 | _+1,.int _=>true
 | _+1,.str _=>true
 | n+1,.tup l=>decide (l.length<=1000)&&l.all (pln n)
 | n+1,.lst o l=>!o&&(decide (l.length<=1000)&&l.all (pln n))
 | _+1,_=>false
theorem QZ:∀ n d,pln n d=true->frz d=true
 | 0,_,h=>by cases h
 | n+1,.int _,_=>rfl
 | n+1,.str _,_=>rfl
 | n+1,.tup l,h=>by
  simp only[pln,M0,List.all_eq_true] at h;rw[frz,Yd,List.all_eq_true];exact λx a=>QZ n x<|h.2 x a
 | n+1,.lst o l,h=>by
  simp only[pln,M0,List.all_eq_true] at h;rw[frz,Yd,M0,List.all_eq_true];exact⟨h.1,λx a=>QZ n x<|h.2.2 x a⟩
 | n+1,.non,h=>by cases h
 | n+1,.bl _,h=>by cases h
 | n+1,.dK _ _ _,h=>by cases h
 | n+1,.dT _ _ _,h=>by cases h
 | n+1,.ins _ _ _ _,h=>by cases h
 | n+1,.dead,h=>by cases h
 | n+1,.tok _,h=>by cases h
 | n+1,.kt _,h=>by cases h
theorem xR:∀ n d,pln n d=true->alk n d
 | 0,_,h=>by cases h
 | n+1,.int _,_=>jkJ n _
 | n+1,.str _,_=>jjz n _
 | n+1,.tup l,h=>by
  have a:=QZ _ _ h;simp only[pln,M0,List.all_eq_true,decide_eq_true_eq] at h;exact jkf (by rw[frz] at a;exact a) h.1 λx b=>xR n x<|h.2 x b
 | n+1,.lst o l,h=>by
  have a:=QZ _ _ h;simp only[pln,M0,List.all_eq_true,decide_eq_true_eq] at h;rw[frz,M0] at a;obtain⟨c,e,f⟩:=h;cases o with
  | true=>cases c
  | false=>exact jjC a.2 e λx b=>xR n x<|f x b
 | n+1,.non,h=>by cases h
 | n+1,.bl _,h=>by cases h
 | n+1,.dK _ _ _,h=>by cases h
 | n+1,.dT _ _ _,h=>by cases h
 | n+1,.ins _ _ _ _,h=>by cases h
 | n+1,.dead,h=>by cases h
 | n+1,.tok _,h=>by cases h
 | n+1,.kt _,h=>by cases h
theorem QN:∀ n d,pln n d=true->pln (n+1) d=true
 | 0,_,h=>by cases h
 | n+1,.int _,_=>rfl
 | n+1,.str _,_=>rfl
 | n+1,.tup l,h=>by
  simp only[pln,M0,List.all_eq_true] at h ⊢;exact⟨h.1,λx a=>by have:=QN n x<|h.2 x a;simpa [pln] using this⟩
 | n+1,.lst o l,h=>by
  simp only[pln,M0,List.all_eq_true] at h ⊢;exact⟨h.1,h.2.1,λx a=>by have:=QN n x<|h.2.2 x a;simpa [pln] using this⟩
 | n+1,.non,h=>by cases h
 | n+1,.bl _,h=>by cases h
 | n+1,.dK _ _ _,h=>by cases h
 | n+1,.dT _ _ _,h=>by cases h
 | n+1,.ins _ _ _ _,h=>by cases h
 | n+1,.dead,h=>by cases h
 | n+1,.tok _,h=>by cases h
 | n+1,.kt _,h=>by cases h
def J4(h:pln n d=true)(a:n<=m):pln m d=true:=by
 induction a with
 | refl=>exact h
 | step _ b=>exact QN _ _ b
def vC{n}{f}{l:List α}(a:l.length<=1000)(h:∀ x∈l,pln n (f x)=true):pln (n+1) (.lst false<|l.map f)=true:=by
 simp only[pln,M0,List.all_eq_true,decide_eq_true_eq];exact⟨rfl,by rw[L1];exact a,λx b=>by obtain⟨y,c,rfl⟩:=M7.mp b;exact h y c⟩
def wy(h:pln 9 d=true):jV [d,d]=some (.bl true):=xR 9 d h
def joQ(h:RuleS C P O r):pln 3 r=true:=by
 cases h with
 | two kw x=>simp[pln]
 | share ws a=>simp[pln];lia
 | lend x v=>simp[pln]
def jpH{C P O}(h:OrdOk C P O x):pln 5 (yn false x)=true:=by
 have a:pln 4 (.lst false<|x.parts.map e2)=true:=J4 (vC (n:=2) (by have:=h.plen;lia) λy _=>by simp[e2,pln]) (by decide);have b:pln 4 (.lst false x.rules)=true:=by
  have:=vC (f:=id) (by have:=h.len;lia) λy c=>joQ (h.rules y c)
  rwa [List.map_id] at this
 unfold yn;unfold pln;simp only[List.all_cons,List.all_nil,a,b];rfl
def jmf{O}(h:PoolOk O p):pln 7 (jL false p)=true:=by
 have a:pln 6 (.lst false<|p.told.map e3)=true:=J4 (vC (n:=2) (by have:=h.told2;lia) λy _=>by simp[e3,pln]) (by decide);have b:pln 6 (.lst false<|p.marks.map e2)=true:=J4 (vC (n:=2) (by have:=h.marks2;lia) λy _=>by simp[e2,pln]) (by decide);have c:pln 6 (.lst false<|p.eats.map D.str)=true:=J4 (vC (n:=2) (by have:=h.eats2;lia) λy _=>by simp[pln]) (by decide);have d:=vC (by have:=h.orders2;lia) λy e=>jpH<|h.orders y e;have f:pln 6 (.lst false<|p.looks.map eL)=true:=J4 (vC (n:=2) (by have:=h.looks2;lia) λy _=>by simp[eL,pln]) (by decide);have g:pln 6 (.lst false<|p.guards.map eG)=true:=J4 (vC (n:=2) (by have:=h.guards2;lia) λy _=>by simp[eG,pln]) (by decide);unfold jL;unfold pln;simp only[List.all_cons,List.all_nil,a,b,c,d,f,g];rfl
def jfo(y):frz (ql y)=true:=by
 show frz (D.tup [.lst false<|y.1.map D.int,.lst false<|y.2.map D.int])=true;simp[vj y.1,vj y.2]
def qQ(E:List Dy):frzs (E.map ql)=true:=yM (λy=>jfo y) _
def jpT(c:k<=100)(h1:y.1.length<=k)(h2:y.2.length<=k):pln 3 (ql y)=true:=by
 have a:pln 2 (.lst false<|y.1.map D.int)=true:=vC ∅ λ_ _=>rfl;have b:pln 2 (.lst false<|y.2.map D.int)=true:=vC ∅ λ_ _=>rfl;unfold ql;unfold pln;simp only[List.all_cons,List.all_nil,a,b];rfl
def jlD{l:List α}{i}(h:i<l.length):atI l (i:Int)=l[i]?:=by
 unfold atI ixN;simp
def jer(h:i<n):ixN n (i:Int)=some i:=by
 unfold ixN;rw[if_pos ∅,if_pos ∅];simp
noncomputable def low(c T n:Int):Int:=c*n/T
def VY(c T:Int):List Int->Int->List Int×Int
 | [],left=>([],left)
 | n::ns,left=>if 0<left/\low c T n<n then((low c T n+1)::(VY c T ns<|left-1).1,(VY c T ns<|left-1).2) else(low c T n::(VY c T ns left).1,(VY c T ns left).2)
theorem QV(c T):∀ ns left,(VY c T ns left).1.length=ns.length
 | [],_=>rfl
 | n::ns,left=>by
  rw[VY];split
  ·simp[QV c T ns]
  ·simp[QV c T ns]
def xW{a b w}{L}{g n left}{i:Nat}(d:atI L (i:Int)=some (.int g))(e:ixN L.length (i:Int)=some i)(c:L[i]?=some (.int g)):
  Je [a,b,w,↑L,some<|.int left,some<|.int i,some<|.int n] =
   some (.nx<|if 0<left/\g<n then [a,b,w,↑(L.set i<|.int<|g+1),some<|.int<|left-1,some<|.int i,some<|.int n] else [a,b,w,↑L,some<|.int left,some<|.int i,some<|.int n]):=by
 by_cases f:0<left<;>by_cases h:g<n<;>simp[Je,jd,d,f,h,e,c]
def wz(a b w)(c T):∀ ns pre left o5 o6,
  ∃ o5' o6',j8 (gT 2<|gC (jc [] 5)<|gC (jc [] 6) gN) Je (vh pre.length<|ns.map D.int) [a,b,w,↑((pre++ns.map (low c T)).map D.int),some<|.int left,o5,o6] =
   some (.nx [a,b,w,↑((pre++(VY c T ns left).1).map D.int),some<|.int (VY c T ns left).2,o5',o6']):=by
 intro ns
 induction ns with
 | nil=>
  intro pre left o5 o6;exact⟨o5,o6,by simp[vh,VY]⟩
 | cons n ns k=>
  intro pre left o5 o6;have d:=xW (a:=a) (b:=b) (w:=w) (L:=(pre++low c T n::ns.map (low c T)).map D.int) (g:=low c T n) (n:=n) (left:=left) (i:=pre.length)
   (by rw[jlD<|by simp];simp) (jer<|by simp) (by simp)
  have f:((pre++low c T n::ns.map (low c T)).map D.int).set pre.length (D.int<|low c T n+1)=(pre++(low c T n+1)::ns.map (low c T)).map D.int:=by simp
  rw[f] at d;have l:(gT 2<|gC (jc [] 5)<|gC (jc [] 6) gN) (.tup [.int pre.length,.int n]) [a,b,w,↑((pre++low c T n::ns.map (low c T)).map D.int),some<|.int left,o5,o6]=some [a,b,w,↑((pre++low c T n::ns.map (low c T)).map D.int),some<|.int left,some<|.int pre.length,some<|.int n]:=rfl;rw[L5,vh,yz,L5,l,L4,d,L4,we];by_cases h:0<left/\low c T n<n
  ·obtain⟨o5',o6',e⟩:=k (pre++[low c T n+1]) (left-1) (some<|.int pre.length)<|some<|.int n;refine⟨o5',o6',?_⟩;have j:(pre++[low c T n+1]).length=pre.length+1:=by simp
   rw[j] at e;rw[VY,if_pos h,if_pos h];simp only[List.append_assoc] at e;exact e
  ·obtain⟨o5',o6',e⟩:=k (pre++[low c T n]) left (some<|.int pre.length) (some<|.int n);refine⟨o5',o6',?_⟩;have j:(pre++[low c T n]).length=pre.length+1:=by simp
   rw[j] at e;rw[VY,if_neg h,if_neg h];simp only[List.append_assoc] at e;exact e
def vB(ns:List Int)(c:Int):List Int:=if ns.sum<=c then ns else(VY c ns.sum ns<|c-(ns.map<|low c ns.sum).sum).1
def jez(f:ns.length<=20)(a:∀ x∈ns,0<=x/\x<=10 ^ 20)(g:0<=c)(h1:c<=2 ^ 900)(i:ns.sum<=10 ^ 30):
  Jg [.lst false<|ns.map D.int,.int c]=↑((vB ns c).map D.int):=by
 by_cases h:ns.sum<=c
 ·simp[Jg,jy,Qq,vB,h]
 ·have b:jU (jc [] 0) qT (p2 jG (p2 yV (pV 1)<|pV 0)<|pV 2) (ns.map D.int) (jk [none,some 1,some 2] [‹ns.map D.int›,some<|.int c,some<|.int ns.sum,none,none,none,none])=some (ns.map λn=>D.int<|low c ns.sum n):=by
   refine jq rfl (λρ=>∃ o,ρ=[o,some<|.int c,some<|.int ns.sum]) ?_ ⟨none,rfl⟩;rintro x d ρ ⟨o,rfl⟩;have:=a x d;refine⟨[some<|.int x,some<|.int c,some<|.int ns.sum],rfl,?_,some<|.int x,rfl⟩;simp(disch:=lia) [qv,jA,low]
  obtain⟨j,k,e⟩:=wz (‹ns.map D.int›) (some<|.int c) (some<|.int ns.sum) c ns.sum ns [] (c-(ns.map<|low c ns.sum).sum) none none;simp only[X9,List.length_nil,U3] at e;have e2:(D.int ∘ low c ns.sum)=λn=>D.int (low c ns.sum n):=rfl;rw[e2] at e;have e3:ns.map (λn=>D.int<|low c ns.sum n)=(ns.map<|low c ns.sum).map D.int:=by simp
  rw[e3] at b e;simp(disch:=lia) [Jg,jy,Qq,vB,h,b,e,jb,-List.map_map]
theorem Qs(c T):∀ ns left,(VY c T ns left).1.sum+(VY c T ns left).2=(ns.map<|low c T).sum+left
 | [],left=>by simp[VY]
 | n::ns,left=>by
  rw[VY];split
  ·have:=Qs c T ns<|left-1;simp only[List.sum_cons,L5]
   lia
  ·have:=Qs c T ns left;simp only[List.sum_cons,L5]
   lia
def cnt(c T:Int):List Int->Int
 | []=>0
 | n::ns=>(if low c T n<n then 1 else 0)+cnt c T ns
theorem jhn(c T):∀ ns:List Int,0<=cnt c T ns
 | []=>by simp[cnt]
 | n::ns=>by
  have:=jhn c T ns;rw[cnt];split<;>lia
theorem JU(c T):∀ ns left,0<=left->left<=cnt c T ns->(VY c T ns left).2=0
 | [],left,h,k=>by simp[VY,cnt] at *;lia
 | n::ns,left,h,k=>by
  rw[cnt] at k;rw[VY];have:=jhn c T ns;split
  ·next g=>
   exact JU c T ns (left-1) ∅ ∅
  ·next g=>
   by_cases g2:low c T n<n
   ·rw[if_pos g2] at k;exact JU c T ns left h ∅
   ·rw[if_neg g2] at k;exact JU c T ns left h ∅
def jcO(b:0<=c)(hT:c<T)(a:0<=n):T*low c T n<=c*n/\c*n<=T*low c T n+T*(if low c T n<n then 1 else 0)/\0<=low c T n/\low c T n<=n:=by
 unfold low;have e:=Int.mul_ediv_add_emod (c*n) T;have f:=U2 (c*n) (show T≠0 by lia);have r1:=U1 (c*n) (show 0<T by lia);have d:0<=c*n/T:=Int.ediv_nonneg (Int.mul_nonneg b a) ∅;have l1:c*n/T<=n:=by
  have:c*n<=T*n:=Int.mul_le_mul_of_nonneg_right ∅ a;exact Int.ediv_le_of_le_mul ∅ ∅
 refine⟨by lia,?_,d,l1⟩;split
 ·lia
 ·next g=>
  have e2:c*n/T=n:=by lia
  have:c*n<=T*n:=Int.mul_le_mul_of_nonneg_right ∅ a
  lia
theorem jav(a:0<=c)(hT:c<T):∀ ns,(∀ x∈ns,0<=x)->T*(ns.map<|low c T).sum<=c*ns.sum/\c*ns.sum<=T*(ns.map<|low c T).sum+T*cnt c T ns
 | [],_=>by simp[cnt]
 | n::ns,h=>by
  have i:=jav a hT ns<|λx b=>h x (by simp[b]);have j:=jcO a hT<|h n (by simp);simp only[L5,List.sum_cons,cnt]
  lia
def jjM(d:0<=c)(hT:c<ns.sum)(h:∀ x∈ns,0<=x):
  0<=c-(ns.map<|low c ns.sum).sum/\(VY c ns.sum ns<|c-(ns.map<|low c ns.sum).sum).1.sum=c:=by
 have b:=jav d hT ns h;have e:(ns.map<|low c ns.sum).sum<=c:=by
  refine Int.le_of_mul_le_mul_left (a:=ns.sum) ?_ ∅;rw[Int.mul_comm ns.sum c];exact b.1
 have f:c<=(ns.map<|low c ns.sum).sum+cnt c ns.sum ns:=by
  refine Int.le_of_mul_le_mul_left (a:=ns.sum) ?_ ∅;rw[Int.mul_add,Int.mul_comm ns.sum c];exact b.2
 have l:=JU c ns.sum ns (c-(ns.map<|low c ns.sum).sum) ∅ ∅;have s:=Qs c ns.sum ns<|c-(ns.map<|low c ns.sum).sum;exact⟨by lia,by lia⟩
theorem jhm:∀(ns:List Int),(∀ x∈ns,0<=x/\x<=b)->0<=ns.sum/\ns.sum<=b*ns.length
 | [],_=>by simp
 | n::ns,h=>by
  have i:=jhm ns<|λx a=>h x (by simp[a]);have j:=h n (by simp);simp only[List.sum_cons,M3]
  lia
def wX:(vB ns c).length=ns.length:=by
 unfold vB;split
 ·rfl
 ·exact QV _ _ _ _
structure PtOk(p:W2):Prop where
 lo:1<=p.2
 hi:p.2<=10
noncomputable def ts(P:List W2):List Int:=P.map (·.2)
noncomputable def ups(c:Int)(P:List W2):List Int:=P.map λp=>(c*p.2+9)/10
noncomputable def uY(c:Int)(P:List W2):List Int:=P.map λp=>c*p.2/10
noncomputable def je4(odd:Int):Nat->List Int->List Int
 | _,[]=>[]
 | k,x::l=>(if(k:Int)<odd then x+1 else x)::je4 odd (k+1) l
theorem jaJ(a):∀ k l,(je4 a k l).length=l.length
 | _,[]=>rfl
 | k,x::l=>by rw[je4,M3,M3,jaJ]
theorem jeh(a):∀ k l,(∀ x∈l,0<=x)->∀ x∈je4 a k l,0<=x
 | _,[],_,x,b=>by simp[je4] at b
 | k,y::l,h,x,b=>by
  have d:=h y (by simp);rcases M5.mp b with rfl | b
  ·lia
  ·exact jeh a (k+1) l (λz c=>h z<|by simp[c]) x b
def yN(P:List W2)(c:Int):List Int×Int:=if 10<(ts P).sum then(ups c P,(ups c P).sum-c) else(je4 (c*(ts P).sum/10-(uY c P).sum) 0<|uY c P,0)
def jpc(h:∀ p∈P,PtOk p):0<=(ts P).sum/\(ts P).sum<=10*P.length:=by
 induction P with
 | nil=>simp[ts]
 | cons p P c=>
  have a:=c λx d=>h x (by simp[d]);have b:=h p (by simp);have e:=b.lo;have f:=b.hi;simp only[ts,L5,List.sum_cons,M3] at a ⊢
  lia
def zf(P:List W2):frzs (P.map e2)=true/\fzs (P.map e2)=P.map e2:=by
 refine⟨qN λd hd=>?_,uT λd hd=>?_⟩
 all_goals obtain⟨p,a,rfl⟩:=M7.mp hd;rfl
def jdp(b:P.length<=10):qh [.lst false<|P.map e2]=some (.int (ts P).sum):=by
 have a:jU (jc [] 0) qT (pF<|p2 jd (pV 0)<|pI 1) (P.map e2) (jk [none] [‹P.map e2›])=some (P.map λp=>D.int p.2):=by
  refine jq rfl (λρ=>∃ o,ρ=[o]) ?_ ⟨none,rfl⟩;rintro x c ρ ⟨o,rfl⟩;exact⟨_,rfl,rfl,_,rfl⟩
 have e:(P.map λp=>D.int p.2)=(ts P).map D.int:=by unfold ts;rw[U3];rfl
 rw[e] at a;simp(disch:=lia) [qh,jy,VM,(zf P).1,a,jb]
theorem xD(a):∀ l k o0 o1,jU (gT 2<|gC (jc [] 0)<|gC (jc [] 1) gN) qT (pIf (jj<|p2 jkW (pV 0)<|pV 2) (p2 ji (pV 1)<|pI 1)<|pF<|pV 1) (vh k<|l.map D.int) [o0,o1,some<|.int a]=some ((je4 a k l).map D.int)
 | [],k,o0,o1=>rfl
 | x::l,k,o0,o1=>by
  have c:(gT 2<|gC (jc [] 0)<|gC (jc [] 1) gN) (.tup [.int k,.int x]) [o0,o1,some<|.int a]=some [some<|.int k,some<|.int x,some<|.int a]:=rfl;have b:=xD a l (k+1) (some<|.int k)<|some<|.int x;rw[L5,vh,yS,c,L4];by_cases h:k<a
  ·simp[h,b,je4]
  ·simp[h,b,je4]
def jgJ(m:P.length<=10)(a:∀ p∈P,PtOk p)(r:0<=c)(h1:c<=2 ^ 900):VN [.lst false<|P.map e2,.int c]=some (.tup [.lst true<|(yN P c).1.map D.int,.int (yN P c).2]):=by
 have l:=jdp m;have s:=jpc a;have f:=zf P;by_cases h:10<(ts P).sum
 ·have b:jU (jc [] 0) qT (p2 jG (p2 ji (p2 yV (pV 1)<|p2 jd (pV 0)<|pI 1)<|pI 9)<|pI 10) (P.map e2) (jk [none,some 1] [‹P.map e2›,some<|.int c,some<|.int (ts P).sum,none,none])=some (P.map λp=>D.int<|(c*p.2+9)/10):=by
   refine jq rfl (λρ=>∃ o,ρ=[o,some<|.int c]) ?_ ⟨none,rfl⟩;rintro x d ρ ⟨o,rfl⟩;refine⟨[some<|e2 x,some<|.int c],rfl,?_,_,rfl⟩;have g:jd (e2 x) (.int 1)=some (.int x.2):=rfl;have n:=(a x d).lo;have q:=(a x d).hi;simp(disch:=lia) [g,qv,jA]
  have e:(P.map λp=>D.int<|(c*p.2+9)/10)=(ups c P).map D.int:=by unfold ups;rw[U3];rfl
  rw[e] at b;have i:yN P c=(ups c P,(ups c P).sum-c):=if_pos h;rw[i];simp(disch:=lia) [VN,jy,wv,f.1,f.2,l,h,b,jb]
 ·have b:jU (jc [] 0) qT (p2 jG (p2 yV (pV 1)<|p2 jd (pV 0)<|pI 1)<|pI 10) (P.map e2) (jk [none,some 1] [‹P.map e2›,some<|.int c,some<|.int (ts P).sum,none,none])=some (P.map λp=>D.int<|c*p.2/10):=by
   refine jq rfl (λρ=>∃ o,ρ=[o,some<|.int c]) ?_ ⟨none,rfl⟩;rintro x d ρ ⟨o,rfl⟩;refine⟨[some<|e2 x,some<|.int c],rfl,?_,_,rfl⟩;have g:jd (e2 x) (.int 1)=some (.int x.2):=rfl;have n:=(a x d).lo;have q:=(a x d).hi;simp(disch:=lia) [g,qv,jA]
  have e:(P.map λp=>D.int<|c*p.2/10)=(uY c P).map D.int:=by unfold uY;rw[U3];rfl
  rw[e] at b;have i:yN P c=(je4 (c*(ts P).sum/10-(uY c P).sum) 0<|uY c P,0):=if_neg h;rw[i];have j:jk [none,none,some 4] [‹P.map e2›,some<|.int c,some<|.int (ts P).sum,‹(uY c P).map D.int›,some<|.int<|c*(ts P).sum/10-(uY c P).sum]=[none,none,some<|.int<|c*(ts P).sum/10-(uY c P).sum]:=rfl;have k:lim (vh 0<|(uY c P).map D.int).length=true:=jb (by rw[JR];simp[uY];lia);simp(disch:=lia) [VN,jy,wv,f.1,f.2,l,h,b,jb,qv,jA,j,xD (c*(ts P).sum/10-(uY c P).sum) (uY c P) 0 none none,k,-List.map_map]
def je6:(yN P c).1.length=P.length:=by
 unfold yN;split
 ·simp[ups]
 ·rw[jaJ];simp[uY]
def jjA(d:∀ p∈P,PtOk p)(e:0<=c):∀ x∈(yN P c).1,0<=x:=by
 have b:∀ p∈P,0<=c*p.2:=λp h=>Int.mul_nonneg e (by have:=(d p h).lo;lia);unfold yN;split
 ·intro x a;obtain⟨p,h,rfl⟩:=M7.mp a;have:=b p h
  lia
 ·refine jeh _ _ _ λx a=>?_;obtain⟨p,h,rfl⟩:=M7.mp a;have:=b p h
  lia
theorem uw(a:0<=c)(hT:c<T):∀ ns left,(∀ x∈ns,0<=x)->∀(i:Nat) g n,(VY c T ns left).1[i]?=some g->ns[i]?=some n->0<=g/\g<=n
 | [],left,_,i,g,n,_,h=>by simp at h
 | m::ns,left,hp,i,g,n,h1,h2=>by
  have b:=jcO a hT<|hp m (by simp);rw[VY] at h1;cases i with
  | zero=>
   simp at h2;split at h1<;>simp at h1<;>subst h1<;>lia
  | succ i=>
   simp at h2;split at h1
   ·simp at h1;exact uw a hT ns _ (λx d=>hp x<|by simp[d]) i g n h1 h2
   ·simp at h1;exact uw a hT ns _ (λx d=>hp x<|by simp[d]) i g n h1 h2
def jdN{ns}{c}(a:0<=c)(h:∀ x∈ns,0<=x){i:Nat}{g n}(h1:(vB ns c)[i]?=some g)(h2:ns[i]?=some n):0<=g/\g<=n:=by
 unfold vB at h1;split at h1
 ·rw[h2] at h1;cases h1;exact⟨h _<|List.mem_of_getElem? h2,Int.le_refl _⟩
 ·exact uw a ∅ ns _ h i g n h1 h2
def jby(a:0<=c)(h:∀ x∈ns,0<=x):(vB ns c=ns/\ns.sum<=c)\/(vB ns c).sum=c:=by
 unfold vB;split
 ·lia
 ·exact .inr (jjM a ∅ h).2
def jcJ(l:List W2):yk (l.map e2)=true:=by
 rw[yx,List.all_map,List.all_eq_true];intro x _;rfl
noncomputable def got(L s:Int):Int:=if s<L then s else L
noncomputable def jkR:List Nat:=[101,97,116]
noncomputable def put(f:List Nat->Int)(c:List Nat)(v:Int):List Nat->Int:=λn=>if n=c then v else f n
def eat:List (List Nat)->(List Nat->Int)->Int->(List Nat->Int)×Int
 | [],f,L=>(f,L)
 | c::E,f,L=>eat E (put f c<|f c-got L (f c))<|L-got L (f c)
def jkx:Nat->List (List Nat)->(List Nat->Int)->Int->List D
 | _,[],_,_=>[]
 | k,c::E,f,L=>.tup [.int k,.str jkR,.str c,.int L,.int<|got L<|f c]::jkx (k+1) E (put f c<|f c-got L (f c)) (L-got L (f c))
def jg8(h:0<=L)(h':0<=s):0<=got L s/\got L s<=L/\got L s<=s:=by unfold got;split<;>lia
def jaw(h:∀ n,0<=f n)(a:0<=v)(n):0<=put f c v n:=by
 unfold put;by_cases e:n=c
 ·lia
 ·rw[if_neg e];exact h n
theorem jhL:∀{E}{f}{L},(∀ n,0<=f n)->0<=L->(∀ n,0<=(eat E f L).1 n/\(eat E f L).1 n<=f n)/\0<=(eat E f L).2
 | [],f,L,h,a=>⟨λn=>⟨h n,Int.le_refl _⟩,a⟩
 | c::E,f,L,h,a=>by
  have g:=jg8 a<|h c;have q:=jhL (E:=E) (f:=put f c<|f c-got L (f c)) (L:=L-got L (f c)) (jaw h ∅) ∅;refine⟨λn=>⟨(q.1 n).1,Int.le_trans (q.1 n).2 ?_⟩,q.2⟩;unfold put;split
  ·lia
  ·lia
def jcG(h:d≠c):put f c u d=f d:=if_neg h
def bkD(o:Bool)(S W Rn Lv:List W2)(x:Int):D:=.tup [.lst o<|S.map e2,.lst o<|W.map e2,.lst o<|Rn.map e2,.lst o<|Lv.map e2,.int x]
def YK(o)(S W Rn Lv)(x):fz (bkD o S W Rn Lv x)=bkD false S W Rn Lv x:=by simp[bkD,JO]
def Jz(S W Rn Lv)(x):frz (bkD false S W Rn Lv x)=true:=by simp[bkD,ya]
def Vu(S W Rn Lv)(x):yZ (bkD true S W Rn Lv x)=true:=by simp[bkD,jcJ]
theorem Kd(g:N.length<=1000):∀{E}{s}{f}{L}{acc}{o6 o7 o8},(∀ c∈E,c∈N)->acc.length+E.length<=1000 ->
  Ex3 λo6' o7' o8'=>j8 (gT 2<|gC (jc [] 6)<|gC (jc [] 7) gN) VO (vh s<|E.map D.str) [a0,a1,a2,some<|dct true N f,some<|.int L,↑acc,o6,o7,o8,o9] =
   some (.nx [a0,a1,a2,some<|dct true N (eat E f L).1,some<|.int (eat E f L).2,↑(acc++jkx s E f L),o6',o7',o8',o9])
 | [],s,f,L,acc,o6,o7,o8,_,_=>⟨o6,o7,o8,by rw[jkx,N2];rfl⟩
 | c::E,s,f,L,acc,o6,o7,o8,b,h=>by
  rw[M3] at h;have a:=b c (by simp);obtain⟨o6',o7',o8',e⟩:=Kd (a0:=a0) (a1:=a1) (a2:=a2) (o9:=o9) g (E:=E) (f:=put f c<|f c-got L (f c)) (L:=L-got L (f c)) (acc:=acc++[.tup [.int s,.str jkR,.str c,.int L,.int<|got L<|f c]]) (o6:=some<|.int s) (o7:=some<|.str c) (o8:=some<|.int<|got L<|f c) (λd hd=>b d<|by simp[hd]) (by rw[N6];simp only[M3,List.length_nil];lia);refine⟨o6',o7',o8',?_⟩;have i:xP [.int L,.int<|f c]=some (.int<|got L<|f c):=rfl;rw[L5,vh,lpF ?_,e,jkx,eat];simp;simp(disch:=first | lia | (simp;done) | (simp;lia)) [VO,yr (o:=true) (f:=f) a,i,Y4 f a,uR (f:=f) (v:=f c-got L (f c)) a,jb,jkR];simp[dct,put]
noncomputable def sz'(N:W1)(f:List Nat->Int):List W2:=N.map λn=>(n,f n)
noncomputable def ow'(W:List W2)(f:List Nat->Int):List W2:=W.map λq=>(q.1,if 0<f q.1 then q.2 else 0)
def jdw(d:∀ q∈W,q.1∈N):jU (gT 2<|gC (jc [] 0)<|gC (jc [] 1) gN) qT (yD #[pF<|pV 0,pIf (jj<|p2 Y5 (p2 yI (pV 2)<|pV 0)<|pI 0) (pF<|pV 1)<|pI 0]) (W.map e2) [none,none,some<|dct true N f]=some ((ow' W f).map e2):=by
 unfold ow';rw[U3];refine jq rfl (λρ=>∃ o a,ρ=[o,a,some<|dct true N f]) ?_ ⟨none,none,rfl⟩;rintro q e ρ ⟨o,a,rfl⟩;have b:=yr (o:=true) (f:=f)<|d q e;refine⟨[some<|.str q.1,some<|.int q.2,some<|dct true N f],rfl,?_,_,_,rfl⟩;by_cases c:0<f q.1
 ·simp[b,c,jb,e2]
 ·simp[b,c,jb,e2]
def jfk{p}{S W Rn Lv}{x L}{O}(h:PoolOk O p)(a:S.map (·.1)=p.told.map (·.1))(d:W.map (·.1)=p.told.map (·.1))(F:Rn.length<=10)(G:Lv.length<=10):
  QY [jL false p,bkD false S W Rn Lv x,.int L]=some (.tup [.lst true<|jkx 0 p.eats (fnOf S) L,bkD true (sz' (p.told.map (·.1)) (eat p.eats (fnOf S) L).1) (ow' W (eat p.eats (fnOf S) L).1) Rn Lv<|x+(eat p.eats (fnOf S) L).2]):=by
 have H:=h.told2;have nd:(S.map (·.1)).Nodup:=by rw[a];exact h.toldn
 have i:S.length<=10:=by
  have:=congrArg List.length a;rw[L1,L1] at this
  lia
 have j:W.length<=10:=by
  have:=congrArg List.length d;rw[L1,L1] at this
  lia
 have k:=h.eats2;have l:jd (bkD false S W Rn Lv x) (.int 0)=‹S.map e2›:=rfl;have m:jd (bkD false S W Rn Lv x) (.int 1)=‹W.map e2›:=rfl;have o:jd (bkD false S W Rn Lv x) (.int 2)=‹Rn.map e2›:=rfl;have r:jd (bkD false S W Rn Lv x) (.int 3)=‹Lv.map e2›:=rfl;have t:jd (bkD false S W Rn Lv x) (.int 4)=some (.int x):=rfl;have u:jd (jL false p) (.int 3)=‹p.eats.map D.str›:=rfl;have v:yY [.lst false<|S.map e2]=some (dct true (p.told.map (·.1))<|fnOf S):=by rw[<- a];exact yo nd ∅
 obtain⟨w,y,z,e⟩:=Kd (a0:=some<|jL false p) (a1:=some<|bkD false S W Rn Lv x) (a2:=some<|.int L) (o9:=none) (by rw[L1];lia) (s:=0) (f:=fnOf S) (L:=L) (acc:=[]) (o6:=none) (o7:=none) (o8:=none) h.eatsm (by simp;lia);have A:=jdw (N:=p.told.map (·.1)) (f:=(eat p.eats (fnOf S) L).1) (λq B=>by rw[<- d];exact M7.mpr ⟨q,B,rfl⟩);have g:=zN (p.told.map (·.1)) (eat p.eats (fnOf S) L).1;have b:((p.told.map (·.1)).map λn=>D.tup [.str n,.int<|(eat p.eats (fnOf S) L).1 n])=(sz' (p.told.map (·.1)) (eat p.eats (fnOf S) L).1).map e2:=by simp[sz',e2]
 rw[b] at g;have C:lim W.length=true:=jb ∅;have c:∀ ρ,pV 3 ρ=some (dct true (p.told.map (·.1)) (eat p.eats (fnOf S) L).1)->yH (pV 3) ρ=↑((sz' (p.told.map (·.1)) (eat p.eats (fnOf S) L).1).map e2):=by
  intro ρ E;rw[yH,E];show(bif frzs ((p.told.map (·.1)).map λn=>D.int<|(eat p.eats (fnOf S) L).1 n) then _ else _)=_;rw[jaL,<- g];rfl
 generalize bkD false S W Rn Lv x=BK at *;simp(disch:=first | lia | (simp;done) | (simp;lia)) [QY,jy,jeo,l,m,o,r,t,u,v,e,jk,ya,A,c,jb,bkD,-yH]
def YA{S:List W2}(h:∀ q∈S,0<=q.2)(n):0<=fnOf S n:=by
 unfold fnOf
 induction S with
 | nil=>exact Int.le_refl _
 | cons q S a=>
  rw[lkp];by_cases e:q.1=n
  ·rw[if_pos e];exact h q (by simp)
  ·rw[if_neg e];exact a λr b=>h r (by simp[b])
def hit(rn:List W2):List WL->Option (List Nat)
 | []=>none
 | x::l=>if x.2.1<=(lkp x.1 rn).getD 0 then some x.2.2 else hit rn l
def jcW:∀{L}{o2 o3 o4},(∀ x∈L,x.1∈rn.map (·.1)) ->
  Ex3 λo2' o3' o4'=>j8 (gT 3<|gC (jc [] 2)<|gC (jc [] 3)<|gC (jc [] 4) gN) vm (L.map eL) [some<|jL false p,some<|.dK false (rn.map λq=>KA.str q.1)<|rn.map λq=>D.int q.2,o2,o3,o4] =
   match hit rn L with
   | some w=>some<|.rt (.str w) [some<|jL false p,some<|.dK false (rn.map λq=>KA.str q.1)<|rn.map λq=>D.int q.2,o2',o3',o4']
   | none=>some (.nx [some<|jL false p,some<|.dK false (rn.map λq=>KA.str q.1)<|rn.map λq=>D.int q.2,o2',o3',o4']):=by
 intro L
 induction L with
 | nil=>
  intro o2 o3 o4 _;exact⟨o2,o3,o4,rfl⟩
 | cons x L i=>
  intro o2 o3 o4 h;obtain⟨r,c,_⟩:=uH<|h x (by simp);have j:YC (rn.map λq=>KA.str q.1) (rn.map λq=>D.int q.2) (.str x.1)=some (.int r):=by
   have a:=zM x.1<|rn.map λq=>(q.1,D.int q.2);rw[U3,U3,jeK D.int x.1 rn,c] at a;exact a
  have f:=j;have g:(gT 3<|gC (jc [] 2)<|gC (jc [] 3)<|gC (jc [] 4) gN) (eL x) [some<|jL false p,some<|.dK false (rn.map λq=>KA.str q.1)<|rn.map λq=>D.int q.2,o2,o3,o4]=some [some<|jL false p,some<|.dK false (rn.map λq=>KA.str q.1)<|rn.map λq=>D.int q.2,some<|.str x.1,some<|.int x.2.1,some<|.str x.2.2]:=rfl;by_cases b:x.2.1<=r
  ·have d:hit rn (x::L)=some x.2.2:=by rw[hit,c];exact if_pos b
   refine⟨some<|.str x.1,some<|.int x.2.1,some<|.str x.2.2,?_⟩;rw[d,L5,yz,g,L4];simp[vm,f,b]
  ·have d:hit rn (x::L)=hit rn L:=by rw[hit,c];exact if_neg b
   obtain⟨o2',o3',o4',e⟩:=i (o2:=some<|.str x.1) (o3:=some<|.int x.2.1) (o4:=some<|.str x.2.2) λy k=>h y (by simp[k]);refine⟨o2',o3',o4',?_⟩;rw[d,<- e,L5,yz,g,L4];simp[vm,f,b]
noncomputable def jkV(p:PoolS):List Nat:=(p.orders.map (·.nm)).headD []
def jgZ(h:PoolOk O p):∃ d,jd (.lst false<|p.orders.map<|yn false) (.int 0)=some d/\jd d (.int 0)=some (.str<|jkV p):=by
 have a:=h.orders1;unfold jkV;cases e:p.orders with
 | nil=>rw[e] at a;simp at a
 | cons x l=>exact⟨yn false x,by rw[jdy (by decide)<|by simp];rfl,rfl⟩
def jj3(h:PoolOk O p)  (b:rn.map (·.1)=p.told.map (·.1)):
  vy [jL false p,.dK false (rn.map λq=>KA.str q.1)<|rn.map λq=>D.int q.2]=some (.str<|(hit rn p.looks).getD (jkV p)):=by
 obtain⟨c,f,g,e⟩:=jcW (p:=p) (o2:=none) (o3:=none) (o4:=none) (by rw[b];exact λx i=>(h.looks x i).1);obtain⟨d,jm6,jom⟩:=jgZ h;have a:jd (jL false p) (.int 5)=‹p.looks.map eL›:=rfl;have j:jd (jL false p) (.int 4)=‹p.orders.map (yn false)›:=rfl;cases hh:hit rn p.looks with
 | none=>
  rw[hh] at e;simp[vy,jy,qG,a,j,K9,jef,e,jm6,jom]
 | some w=>
  rw[hh] at e;simp[vy,jy,qG,a,K9,jef,e]
def jmK{O}{p}(h:PoolOk O p){sz ow b lv:List W2}{x}(c:b.map (·.1)=p.told.map (·.1)):
  vP [jL false p,.tup [.lst false<|sz.map e2,.lst false<|ow.map e2,.lst false<|b.map e2,.lst false<|lv.map e2,.int x]]=some (.str<|(hit b p.looks).getD (jkV p)):=by
 have j:b.length<=10:=by
  have:=congrArg List.length c;rw[L1,L1] at this;have:=h.told2
  lia
 have f:jd (.tup [.lst false<|sz.map e2,.lst false<|ow.map e2,.lst false<|b.map e2,.lst false<|lv.map e2,.int x]) (.int 2)=‹b.map e2›:=rfl;have g:yY [.lst false<|b.map e2]=some (.dK true (b.map λq=>KA.str q.1)<|b.map λq=>D.int q.2):=by
  have:=Kv (o:=false) (l:=b.map λq=>(q.1,D.int q.2)) (by rw[U3];have:=h.toldn;rw[<- c] at this;exact this) (by intro q i;obtain⟨a,_,rfl⟩:=M7.mp i;rfl) (by rw[L1];lia);rw[U3,U3,U3] at this;exact this
 have d:fzs (b.map λq=>D.int q.2)=b.map λq=>D.int q.2:=vx (λ_=>rfl) _;have e:fz (.dK true (b.map λq=>KA.str q.1)<|b.map λq=>D.int q.2)=.dK false (b.map λq=>KA.str q.1) (b.map λq=>D.int q.2):=by rw[fz,d]
 simp[vP,jy,VR,f,g,h.fz false,e,jj3 h c]
noncomputable def qX(p:PoolS):List W2:=p.told.map λc=>(c.1,0)
noncomputable def jba(p:PoolS):List W2:=p.told.map λc=>(c.1,c.2.1)
noncomputable def xf(p:PoolS):List W2:=p.marks.map λc=>(c.1,0)
def wo(l:List W3):jU (jc [] 0) qT (yD #[pF<|p2 jd (pV 0)<|pI 0,pI 0]) (l.map e3) [none]=some ((l.map λc=>((c.1,0):W2)).map e2):=by
 rw[U3];refine jq rfl (λρ=>∃ o,ρ=[o]) ?_ ⟨none,rfl⟩;rintro c b ρ ⟨o,rfl⟩;refine⟨[some<|e3 c],rfl,?_,_,rfl⟩;have a:jd (e3 c) (.int 0)=some (.str c.1):=rfl;simp[a,jb,e2]
def jbO(l:List W3):jU (jc [] 0) qT (yD #[pF<|p2 jd (pV 0)<|pI 0,pF<|p2 jd (pV 0)<|pI 1]) (l.map e3) [none]=some ((l.map λc=>((c.1,c.2.1):W2)).map e2):=by
 rw[U3];refine jq rfl (λρ=>∃ o,ρ=[o]) ?_ ⟨none,rfl⟩;rintro c d ρ ⟨o,rfl⟩;refine⟨[some<|e3 c],rfl,?_,_,rfl⟩;have a:jd (e3 c) (.int 0)=some (.str c.1):=rfl;have b:jd (e3 c) (.int 1)=some (.int c.2.1):=rfl;simp[a,b,jb,e2]
def jcP(l:List W2):jU (jc [] 0) qT (yD #[pF<|p2 jd (pV 0)<|pI 0,pI 0]) (l.map e2) [none]=some ((l.map λc=>((c.1,0):W2)).map e2):=by
 rw[U3];refine jq rfl (λρ=>∃ o,ρ=[o]) ?_ ⟨none,rfl⟩;rintro c a ρ ⟨o,rfl⟩;refine⟨[some<|e2 c],rfl,?_,_,rfl⟩;have b:jd (e2 c) (.int 0)=some (.str c.1):=rfl;simp[ jb];rfl
def jhP(p:PoolS)(rn:List W2):List Nat:=(hit rn p.looks).getD (jkV p)
def jnA{O}{p}(h:PoolOk O p){S W Rn Lv}{x}(a:Rn.map (·.1)=p.told.map (·.1)):vP [jL false p,bkD false S W Rn Lv x]=some (.str<|jhP p Rn):=jmK h a
theorem jcu:∀{L},hit rn L=some w->∃ x∈L,x.2.2=w
 | [],h=>by simp[hit] at h
 | x::L,h=>by
  rw[hit] at h;split at h
  ·cases h;exact⟨x,by simp,rfl⟩
  ·obtain⟨y,a,e⟩:=jcu h;exact⟨y,by simp[a],e⟩
def uI(h:PoolOk O p)(a):jhP p a∈p.orders.map (·.nm):=by
 unfold jhP;cases e:hit a p.looks with
 | some w=>
  obtain⟨x,c,rfl⟩:=jcu e;exact h.looksm x c
 | none=>
  have b:=h.orders1;unfold jkV;cases e:p.orders with
  | nil=>rw[e] at b;simp at b
  | cons x l=>simp
def Q2(h:PoolOk O p):vz [jL false p]=some (bkD true (jba p) (qX p) (qX p) (xf p) 0):=by
 have a:jd (jL false p) (.int 1)=‹p.told.map e3›:=rfl;have b:jd (jL false p) (.int 2)=‹p.marks.map e2›:=rfl;have c:=h.told2;have d:=h.marks2;have l1:lim p.told.length=true:=jb ∅;have l2:lim p.marks.length=true:=jb ∅;simp[vz,jy,YG,a,b,kX,ya,l1,l2,jk,wo p.told,jbO p.told,jcP p.marks,bkD,jba,qX,xf,-List.map_map]
def jhE(p:PoolS):List Nat->Int:=fnOf<|p.told.map λc=>(c.1,c.2.2)
def wd'(p:PoolS)(f:List Nat->Int)(W:List W2):List W2:=W.map λq=>(q.1,if 0<f q.1 then q.2+jhE p q.1 else q.2)
def jeg(l:List W3):jU (jc [] 0) qT (yD #[pF<|p2 jd (pV 0)<|pI 0,pF<|p2 jd (pV 0)<|pI 2]) (l.map e3) [none]=some ((l.map λc=>((c.1,c.2.2):W2)).map e2):=by
 rw[U3];refine jq rfl (λρ=>∃ o,ρ=[o]) ?_ ⟨none,rfl⟩;rintro c d ρ ⟨o,rfl⟩;refine⟨[some<|e3 c],rfl,?_,_,rfl⟩;have a:jd (e3 c) (.int 0)=some (.str c.1):=rfl;have b:jd (e3 c) (.int 2)=some (.int c.2.2):=rfl;simp[a,b,jb,e2]
def zt{O}{p}(h:PoolOk O p){S W Rn Lv}{x}(b:S.map (·.1)=p.told.map (·.1))(e:W.map (·.1)=p.told.map (·.1)):
  qd [jL false p,bkD false S W Rn Lv x]=some (bkD false S (wd' p (fnOf S) W) Rn Lv x):=by
 have B:=h.told2;have nd:(S.map (·.1)).Nodup:=by rw[b];exact h.toldn
 have m:S.length<=10:=by
  have:=congrArg List.length b;rw[L1,L1] at this
  lia
 have n:W.length<=10:=by
  have:=congrArg List.length e;rw[L1,L1] at this
  lia
 have g:jd (bkD false S W Rn Lv x) (.int 0)=‹S.map e2›:=rfl;have r:jd (bkD false S W Rn Lv x) (.int 1)=‹W.map e2›:=rfl;have s:jd (bkD false S W Rn Lv x) (.int 2)=‹Rn.map e2›:=rfl;have t:jd (bkD false S W Rn Lv x) (.int 3)=‹Lv.map e2›:=rfl;have u:jd (bkD false S W Rn Lv x) (.int 4)=some (.int x):=rfl;have v:jd (jL false p) (.int 1)=‹p.told.map e3›:=rfl;have w:yY [.lst false<|S.map e2]=some (dct true (p.told.map (·.1))<|fnOf S):=by rw[<- b];exact yo nd ∅
 have a:(p.told.map λc=>((c.1,c.2.2):W2)).map (·.1)=p.told.map (·.1):=by simp
 have d:yY [.lst true<|(p.told.map λc=>((c.1,c.2.2):W2)).map e2]=some (dct true (p.told.map (·.1))<|jhE p):=by
  have:=yo (o:=true) (by rw[a];exact h.toldn) (by rw[L1];lia);rw[a] at this;exact this
 have y:jU (gT 2<|gC (jc [] 0)<|gC (jc [] 1) gN) qT (yD #[pF<|pV 0,pIf (jj<|p2 Y5 (p2 yI (pV 2)<|pV 0)<|pI 0) (p2 ji (pV 1)<|p2 yI (pV 3)<|pV 0)<|pF<|pV 1]) (W.map e2) [none,none,some (dct true (p.told.map (·.1))<|fnOf S),some (dct true (p.told.map (·.1))<|jhE p)]=some ((wd' p (fnOf S) W).map e2):=by
  unfold wd';rw[U3];refine jq rfl (λρ=>∃ o i,ρ=[o,i,some (dct true (p.told.map (·.1))<|fnOf S),some (dct true (p.told.map (·.1))<|jhE p)]) ?_ ⟨none,none,rfl⟩;rintro q z ρ ⟨o,i,rfl⟩;have j:q.1∈p.told.map (·.1):=by rw[<- e];exact M7.mpr ⟨q,z,rfl⟩
  have k:=yr (o:=true) (f:=fnOf S) j;have A:=yr (o:=true) (f:=jhE p) j;refine⟨[some<|.str q.1,some<|.int q.2,some (dct true (p.told.map (·.1))<|fnOf S),some (dct true (p.told.map (·.1))<|jhE p)],rfl,?_,_,_,rfl⟩;by_cases l:0<fnOf S q.1
  ·simp[k,A,l,jb,e2]
  ·simp[k,l,jb,e2]
 have l1:lim p.told.length=true:=jb ∅;have l2:lim W.length=true:=jb ∅;generalize C:bkD false S W Rn Lv x=BK at *;simp(disch:=first | lia | (simp;done) | (simp;lia)) [qd,jy,Vi,g,r,v,w,d,jeg p.told,y,jk,ya,JO,kX,zg,l1,l2,jb,bkD,-yD,-pIf,-List.map_map];simp(disch:=first | lia | (simp;done) | (simp;lia)) [g,s,t,u,ya,jb]
noncomputable abbrev EN:=List Nat×List Nat
abbrev LN:=List<|EN×Int
noncomputable def kL(r:EN×Int):List KA:=[.str r.1.1,.str r.1.2]
noncomputable def vL(r:EN×Int):D:=.int r.2
def dLn(o:Bool)(l:LN):D:=.dT o (l.map kL)<|l.map vL
noncomputable def kz:LN->EN->Option Int
 | [],_=>none
 | r::l,k=>if r.1=k then some r.2 else kz l k
noncomputable def jeW(l:LN)(k:EN)(v:Int):LN:=l.map λr=>(r.1,if r.1=k then v else r.2)
def jbp(l:LN)(k:EN)(v:Int):LN:=if k∈l.map (·.1) then jeW l k v else l++[(k,v)]
def jml:([KA.str a,KA.str b]=[KA.str c,KA.str d])=((a,b)=((c,d):EN)):=by simp
def jdF(r)(k):(kL r=[KA.str k.1,KA.str k.2])=(r.1=k):=by
 obtain⟨⟨a,b⟩,n⟩:=r;obtain⟨c,d⟩:=k;exact jml
theorem JE(k):∀ l:LN,Q8 (l.map kL) (l.map vL) [.str k.1,.str k.2]=(kz l k).map D.int
 | []=>rfl
 | r::l=>by
  rw[L5,L5,Q8,kz];by_cases h:r.1=k
  ·rw[if_pos h,if_pos<|by rw[jdF];exact h];rfl
  ·rw[if_neg h,if_neg<|by rw[jdF];exact h,JE k l]
theorem jeV(k)(v):∀ l:LN,jff (l.map kL) (l.map vL) [.str k.1,.str k.2] (.int v)=(jeW l k v).map vL
 | []=>rfl
 | r::l=>by
  rw[L5,L5,jff,jeV k v l];by_cases h:r.1=k
  ·rw[if_pos<|by rw[jdF];exact h];simp[jeW,h,vL]
  ·rw[if_neg<|by rw[jdF];exact h];simp[jeW,h]
theorem jde(k):∀ l:LN,([KA.str k.1,KA.str k.2]∈l.map kL)↔k∈l.map (·.1)
 | []=>by simp
 | r::l=>by
  rw[L5,L5,M5,M5,jde k l];have:=jdF r k;constructor
  ·lia
  ·lia
def jey(l)(k)(v):(jeW l k v).map (·.1)=l.map (·.1):=by unfold jeW;rw[U3];rfl
def jkN(l)(k)(v):(jeW l k v).map kL=l.map kL:=by unfold jeW;rw[U3];rfl
def Qe(k)(v)(l):Yh (l.map kL) (l.map vL) [.str k.1,.str k.2] (.int v)=((jbp l k v).map kL,(jbp l k v).map vL):=by
 unfold Yh jbp;by_cases h:k∈l.map (·.1)
 ·rw[if_pos h,if_pos<|(jde k l).mpr h,jeV,jkN]
 ·rw[if_neg h,if_neg λz=>h<|(jde k l).mp z];simp[kL,vL]
structure LnOk(N:W1)(l:LN):Prop where
 nd:(l.map (·.1)).Nodup
 mem:∀ r∈l,r.1.1∈N/\r.1.2∈N/\0<=r.2
def jcl(h:LnOk N l)  (h1:k.1∈N) (h2:k.2∈N) (f:0<=v):LnOk N (jbp l k v):=by
 unfold jbp;by_cases e:k∈l.map (·.1)
 ·rw[if_pos e];refine⟨by rw[jey];exact h.nd,λr c=>?_⟩;obtain⟨q,g,rfl⟩:=M7.mp c;have:=h.mem q g;refine⟨this.1,this.2.1,?_⟩;split
  ·lia
  ·lia
 ·rw[if_neg e];refine⟨?_,λr c=>?_⟩
  ·rw[N7,X3];exact⟨h.nd,by simp,λa i b d=>by simp at d;rintro rfl;exact e<|d▸i⟩
  ·rcases N4.mp c with c | c
   ·exact h.mem r c
   ·rw[M9.mp c];exact⟨h1,h2,f⟩
theorem ut{N:W1}  : ∀{l},(∀ r∈l,r.1.1∈N/\r.1.2∈N/\0<=r.2)->0<=(kz l k).getD 0
 | [],_=>Int.le_refl _
 | r::l,h=>by
  rw[kz];split
  ·exact(h r<|by simp).2.2
  ·exact ut λq a=>h q (by simp[a])
theorem zh [DecidableEq α]:∀{l m:List α},l.Nodup->(∀ x∈l,x∈m)->l.length<=m.length
 | [],m,_,_=>by simp
 | a::l,m,b,d=>by
  have e:=d a (by simp);rw[List.nodup_cons] at b;have:=zh b.2 λx f=>by
   have c:x≠a:=λz=>b.1<|z▸f;exact(List.mem_erase_of_ne c).mpr (d x<|by simp[f])
  rw[List.length_erase_of_mem e] at this;have g:=List.length_pos_of_mem e;simp only[M3]
  lia
def LnOk.len(h:LnOk N l)(c:N.length<=6):l.length<=36:=by
 have:=zh (m:=N.flatMap λa=>N.map λb=>(a,b)) h.nd λx d=>by
  obtain⟨r,f,rfl⟩:=M7.mp d;have:=h.mem r f;exact List.mem_flatMap.mpr ⟨r.1.1,this.1,M7.mpr ⟨r.1.2,this.2.1,rfl⟩⟩
 rw[L1,List.length_flatMap] at this;have e:(N.map λa=>(N.map λb=>((a,b):EN)).length)=N.map λ_=>N.length:=by simp
 have e2:∀ n (M:W1),(M.map λ_=>n).sum=M.length*n:=λn M=>by
  induction M with
  | nil=>simp
  | cons a M g=>simp only[L5,List.sum_cons,M3,Nat.succ_mul];lia
 rw[e,e2] at this;have i:=Nat.mul_le_mul c c
 lia
noncomputable abbrev MV:=List Nat×List Nat×Int
noncomputable def eM(m:MV):D:=.tup [.str m.1,.str m.2.1,.int m.2.2]
def mvF(nm:List Nat)(l:LN)(m:MV):LN:=if m.1=qp then jbp l (nm,m.2.1) ((kz l (nm,m.2.1)).getD 0+m.2.2) else jbp l (m.2.1,nm) ((kz l (m.2.1,nm)).getD 0-m.2.2)
structure MvOk(nm:List Nat)(N:W1)(c:Int)(l:LN)(m:MV):Prop where
 kd:m.1=qp\/(m.1=Ve/\m.2.2<=(kz l (m.2.1,nm)).getD 0)
 ot:m.2.1∈N
 po:0<m.2.2
 hi:m.2.2<=c
def jhD(h:LnOk N l)(a:nm∈N)(k:MvOk nm N c l m):LnOk N (mvF nm l m):=by
 unfold mvF;have po:=k.po;rcases k.kd with e | ⟨e,e2⟩
 ·rw[if_pos e];have:=ut (k:=(nm,m.2.1)) h.mem;exact jcl h a k.ot ∅
 ·rw[if_neg ∅];exact jcl h k.ot a ∅
def jbG(h:0<c)(h2:c<=(kz l k).getD 0):∃ v,kz l k=some v:=by
 cases e:kz l k with
 | some v=>exact⟨v,rfl⟩
 | none=>rw[e] at h2;simp at h2;lia
def jdu(h:l.length<=100)(k:MvOk nm N c l m):yK [dLn true l,.str nm,.str m.1,.str m.2.1,.int m.2.2]=some (.non,dLn true<|mvF nm l m):=by
 have a:lim l.length=true:=jb ∅;rcases k.kd with e | ⟨e,e2⟩
 ·have b:=JE (nm,m.2.1) l;have p1:=Qe (nm,m.2.1) ((kz l (nm,m.2.1)).getD 0+m.2.2) l;have g:Vc (dLn true l) [.str nm,.str m.2.1] (.int 0)=some (.int<|(kz l (nm,m.2.1)).getD 0):=by
   show some ((Q8 (l.map kL) (l.map vL) [.str nm,.str m.2.1]).getD (.int 0))=_;rw[b];cases kz l (nm,m.2.1)<;>rfl
  have d:mvF nm l m=jbp l (nm,m.2.1) ((kz l (nm,m.2.1)).getD 0+m.2.2):=if_pos e;rw[d];simp only[dLn] at *;simp[yK,vY,JB,e,g,p1,a,YN]
 ·obtain⟨v,f⟩:=jbG k.po e2;have b:=JE (m.2.1,nm) l;rw[f] at b;have d:mvF nm l m=jbp l (m.2.1,nm) (v-m.2.2):=by unfold mvF;rw[if_neg ∅,f];rfl
  rw[d];simp only[dLn] at *;simp[yK,vY,JB,jfI,e,b,Qe (m.2.1,nm) (v-m.2.2) l,a,YN]
noncomputable def eR(r:EN×Int):D:=.tup [.str r.1.1,.str r.1.2,.int r.2]
def vO(l:LN):frzs (l.map eR)=true:=yM (λ_=>rfl) _
def JQ(l:LN):fzs (l.map eR)=l.map eR:=vx (λ_=>rfl) _
def zS(l):yZ (dLn true l)=true:=by
 have:yk (l.map vL)=true:=by rw[yx,List.all_map,List.all_eq_true];intro x _;rfl
 simp[dLn,yZ,this]
theorem jag:∀(l a:LN),((a++l).map (·.1)).Nodup->(l.map λr=>(kL r,vL r)).foldl (λacc kv=>Yh acc.1 acc.2 kv.1 kv.2) (a.map kL,a.map vL)=((a++l).map kL,(a++l).map vL)
 | [],a,_=>by simp
 | r::l,a,h=>by
  have b:r.1∉a.map (·.1):=by
   rw[N7,X3] at h;intro z;exact h.2.2 _ z r.1 (by simp) rfl
  have e:Yh (a.map kL) (a.map vL) (kL r) (vL r)=((a++[r]).map kL,(a++[r]).map vL):=by
   have:=Qe r.1 r.2 a;unfold jbp at this;rw[if_neg b] at this;exact this
  show List.foldl _ (Yh (a.map kL) (a.map vL) (kL r)<|vL r) _=_;rw[e,jag l (a++[r]) ⇑h];simp
theorem zy:∀(l:LN) o0 o1 o2,jU (gT 3<|gC (jc [] 0)<|gC (jc [] 1)<|gC (jc [] 2) gN) qT (yD #[pKy (pV 0)<|pV 1,pF<|pV 2]) (l.map eR) [o0,o1,o2]=some (l.map λr=>.tup [.kt<|kL r,vL r])
 | [],_,_,_=>rfl
 | r::l,o0,o1,o2=>by
  have a:=zy l (some<|.str r.1.1) (some<|.str r.1.2)<|some<|.int r.2;have b:gT 3 (gC (jc [] 0)<|gC (jc [] 1)<|gC (jc [] 2) gN) (eR r) [o0,o1,o2]=some [some<|.str r.1.1,some<|.str r.1.2,some<|.int r.2]:=rfl;rw[L5,yS,b,L4];simp[a,qT,kL,vL,vZ,jb]
theorem jl9:∀ l:LN,wN (l.map λr=>.tup [.kt<|kL r,vL r])=some (l.map λr=>(kL r,vL r))
 | []=>rfl
 | r::l=>by rw[L5,wN,jl9 l];rfl
def jeR(h:(l.map (·.1)).Nodup)(b:l.length<=1000):yu [.lst false<|l.map eR]=some (dLn true l):=by
 have e:=zy l none none none;have d:jch (l.map λr=>(kL r,vL r))=(l.map kL,l.map vL):=jag l [] ⇑h;have a:lim l.length=true:=jb ∅;have fd:uK [.lst true<|l.map λr=>.tup [.kt<|kL r,vL r]]=some (dLn true l):=by
  show(wN _).bind _=_;rw[jl9,L4,d];simp[a,dLn]
 simp[yu,jy,qK,jk,e,fd,vO,a]
def reN(nm:List Nat)(l:LN)(ms:List MV):LN:=ms.foldl (mvF nm) l
def MvsOk(nm:List Nat)(N:W1)(c:Int):LN->List MV->Prop
 | _,[]=>True
 | l,m::ms=>MvOk nm N c l m/\MvsOk nm N c (mvF nm l m) ms
theorem MvsOk.snoc:∀{ms}{l},MvsOk nm N c l ms->MvOk nm N c (reN nm l ms) m->MvsOk nm N c l (ms++[m])
 | [],l,_,h=>⟨h,trivial⟩
 | a::ms,l,h,k=>⟨h.1,MvsOk.snoc h.2 k⟩
def uU(nm)(l)(ms)(m):reN nm l (ms++[m])=mvF nm (reN nm l ms) m:=by simp[reN]
theorem jeb(a:nm∈N):∀{ms}{l},LnOk N l->MvsOk nm N c l ms->LnOk N (reN nm l ms)
 | [],l,h,_=>h
 | m::ms,l,h,k=>jeb a (l:=mvF nm l m) (jhD h a k.1) k.2
theorem VP(a:nm∈N)(b:N.length<=6)  : ∀{ms}{l}{o4 o5 o6},LnOk N l->MvsOk nm N c l ms ->
  Ex3 λo4' o5' o6'=>j8 (gT 3<|gC (jc [] 4)<|gC (jc [] 5)<|gC (jc [] 6) gN) vD (ms.map eM) [a0,some<|.str nm,a2,some<|dLn true l,o4,o5,o6]=some (.nx [a0,some<|.str nm,a2,some<|dLn true<|reN nm l ms,o4',o5',o6'])
 | [],l,o4,o5,o6,_,_=>⟨o4,o5,o6,rfl⟩
 | m::ms,l,o4,o5,o6,h,k=>by
  obtain⟨o4',o5',o6',e⟩:=VP a b (o4:=some<|.str m.1) (o5:=some<|.str m.2.1) (o6:=some<|.int m.2.2) (jhD h a k.1) k.2;refine⟨o4',o5',o6',?_⟩;have d:=jdu (by have:=h.len b;lia) k.1;rw[L5,lpF ?_,e];rfl;show(some _).bind _=_;simp[vD,d,JI,kF]
theorem KD:∀ l:LN,jb6 (l.map kL) (l.map vL)=some ((l.filter λr=>decide<|0<r.2).map eR)
 | []=>rfl
 | r::l=>by
  show(jb6 (l.map kL)<|l.map vL).bind _=_;rw[KD l,L4,List.filter_cons];by_cases h:0<r.2
  ·simp[h];rfl
  ·simp[h]
theorem jaR:∀ l:LN,∃ rs,jbx (l.map eR)=some rs
 | []=>⟨[],rfl⟩
 | r::l=>by
  obtain⟨rs,e⟩:=jaR l;exact⟨(S r.1.1,S r.1.2,r.2)::rs,by show(jbx<|l.map eR).bind _=_;rw[e];rfl⟩
noncomputable def jqi:D->EN
 | .tup [.str a,.str b,_]=>(a,b)
 | _=>([],[])
def jiI(h:LnOk N l)  : ∃(l':LN),An3 (wB rs (l.map eR)=l'.map eR) (LnOk N l') (l'.length=l.length):=by
 have p:=jbN (rs:=rs) (l:=l.map eR);obtain⟨l',e,b⟩:=YZ λy c=>by
  obtain⟨r,a,rfl⟩:=M7.mp<|p.mem_iff.mp c;exact⟨r,rfl,a⟩
 refine⟨l',e,⟨?_,λr a=>h.mem r<|b r a⟩,?_⟩
 ·rw[e] at p;have p2:=p.map jqi;rw[U3,U3] at p2;have d:(jqi ∘ eR)=λr:EN×Int=>r.1:=by funext r;rfl
  exact p2.nodup_iff.mpr h.nd
 ·have:=p.length_eq;rw[e,L1,L1] at this;exact this
def jju(h:LnOk N l):LnOk N (l.filter λr=>decide<|0<r.2):=
 ⟨h.nd.sublist<|List.Sublist.map _<|List.filter_sublist,λr a=>h.mem r (List.mem_filter.mp a).1⟩
def jeA(m:nm∈N)(b:N.length<=6)  (h:LnOk N l) (k:MvsOk nm N c l ms):
  ∃ l':LN,vk [.lst false<|l.map eR,.str nm,.lst false<|ms.map eM]=↑(l'.map eR)/\LnOk N l':=by
 have y:=h.len b;have p:=jeR h.nd ∅;have n:=jeb m h k;have q:=n.len b;obtain⟨s,t,u,e⟩:=VP m b (a0:=‹l.map eR›) (a2:=‹ms.map eM›) (o4:=none) (o5:=none) (o6:=none) h k;obtain⟨o,e3⟩:=jaR<|(reN nm l ms).filter λr=>decide<|0<r.2;obtain⟨l',v,w,_⟩:=jiI (rs:=o)<|jju n;have x:=KD<|reN nm l ms;have d:(((reN nm l ms).filter λr=>decide<|0<r.2).map eR).length<64:=by
  rw[L1];have:=List.length_filter_le (λr:EN×Int=>decide<|0<r.2)<|reN nm l ms
  lia
 have f:frzs (ms.map eM)=true:=yM (λ_=>rfl) _;have a:fzs (ms.map eM)=ms.map eM:=vx (λ_=>rfl) _;have g:je5 (dLn true<|reN nm l ms)=some ((reN nm l ms).map kL,(reN nm l ms).map vL):=rfl;have i:lim ((reN nm l ms).map kL).length=true:=yh ∅;have j:=zS l;refine⟨l',?_,w⟩;simp[vk,jy,Jp,p,j,vO,JQ,f,a,e,g,x,e3,v,dCB,-List.length_map,i,d]
noncomputable def NS:List Str:=["pool_name","marks","sizes","owed","levels","loans","cash","served","entries","moves"]
abbrev I10(o:Bool)(a0 a1 a2 a3 a4 a5 a6 a7 a8 a9:D):D:=.ins o 0 NS [a0,a1,a2,a3,a4,a5,a6,a7,a8,a9]
def jqj:JK NS [a0,a1,a2,a3,a4,a5,a6,a7,a8,a9] "pool_name" = some a0:=rfl
def jm6:JK NS [a0,a1,a2,a3,a4,a5,a6,a7,a8,a9] "marks" = some a1:=rfl
def jom:JK NS [a0,a1,a2,a3,a4,a5,a6,a7,a8,a9] "sizes" = some a2:=rfl
def jmw:JK NS [a0,a1,a2,a3,a4,a5,a6,a7,a8,a9] "owed" = some a3:=rfl
def jqn:JK NS [a0,a1,a2,a3,a4,a5,a6,a7,a8,a9] "levels" = some a4:=rfl
def jqh:JK NS [a0,a1,a2,a3,a4,a5,a6,a7,a8,a9] "loans" = some a5:=rfl
def jqf:JK NS [a0,a1,a2,a3,a4,a5,a6,a7,a8,a9] "cash" = some a6:=rfl
def jqy:JK NS [a0,a1,a2,a3,a4,a5,a6,a7,a8,a9] "entries" = some a8:=rfl
def jqu:JK NS [a0,a1,a2,a3,a4,a5,a6,a7,a8,a9] "moves" = some a9:=rfl
def g2:qZ 0 "sizes" kF (I10 true a0 a1 a2 a3 a4 a5 a6 a7 a8 a9)=some (a2,λz=>I10 true a0 a1 z a3 a4 a5 a6 a7 a8 a9):=rfl
def g3:qZ 0 "owed" kF (I10 true a0 a1 a2 a3 a4 a5 a6 a7 a8 a9)=some (a3,λz=>I10 true a0 a1 a2 z a4 a5 a6 a7 a8 a9):=rfl
def g4:qZ 0 "levels" kF (I10 true a0 a1 a2 a3 a4 a5 a6 a7 a8 a9)=some (a4,λz=>I10 true a0 a1 a2 a3 z a5 a6 a7 a8 a9):=rfl
def g7:qZ 0 "served" kF (I10 true a0 a1 a2 a3 a4 a5 a6 a7 a8 a9)=some (a7,λz=>I10 true a0 a1 a2 a3 a4 a5 a6 z a8 a9):=rfl
def g8:qZ 0 "entries" kF (I10 true a0 a1 a2 a3 a4 a5 a6 a7 a8 a9)=some (a8,λz=>I10 true a0 a1 a2 a3 a4 a5 a6 a7 z a9):=rfl
def g9:qZ 0 "moves" kF (I10 true a0 a1 a2 a3 a4 a5 a6 a7 a8 a9)=some (a9,λz=>I10 true a0 a1 a2 a3 a4 a5 a6 a7 a8 z):=rfl
def jqK:Jl NS [a0,a1,a2,a3,a4,a5,a6,a7,a8,a9] "cash" z=(NS,[a0,a1,a2,a3,a4,a5,z,a7,a8,a9]):=rfl
def jfQ{a0 a1 a2 a3 a4 a5 a7 a8 a9}{ρ}{i}{pv}{m n}(a:pV i ρ=some (I10 true a0 a1 a2 a3 a4 a5 (.int m) a7 a8 a9))(b:pv ρ=some (.int n)):
  YQ i kF 0 "cash" (λm n=>m-n) pv ρ=some (.nx<|ρ.set i<|some<|I10 true a0 a1 a2 a3 a4 a5 (.int<|m-n) a7 a8 a9):=by
 have e:(NS.length<=900)=True:=by simp[NS]
 unfold YQ;rw[a];simp[kF,jqf,jqK,b,e]
def K4{ρ}{i}{w}{L}{pk pv}{t}{N}{f}{a}{g}{n}(c:pV i ρ=some t)(d:L t=some (dct true N f,a))(e:pk ρ=some (.str w))(h:pv ρ=some (.int n))(b:w∈N)(j:N.length<=1000):
  vF i L pk g pv ρ=some (.nx<|ρ.set i<|some<|a<|dct true N<|put f w<|g (f w) n):=by
 rw[vF,e,L4,show vZ (.str w)=some (.str w) from rfl,L4,c,L4,d,L4,show jhC (dct true N f,a).1=some (N.map KA.str,N.map λn=>D.int<|f n) from rfl,L4,Y4 f b,L4,show vv (.int<|f w)=some (f w) from rfl,L4,h,L4,show vv (.int n)=some n from rfl,L4,yh ∅,cond_true,uR b];rfl
noncomputable def dSv(o:Bool)(l:W1):D:=.dK o (l.map KA.str)<|l.map λ_=>D.bl true
noncomputable def JN(l:W1)(w:List Nat):List (List Nat):=if w∈l then l else l++[w]
def jm0(l)(w):kT (l.map KA.str) (l.map λ_=>D.bl true) (.str w) (.bl true)=((JN l w).map KA.str,(JN l w).map λ_=>D.bl true):=by
 have b:(KA.str w∈l.map KA.str)↔w∈l:=by simp
 have c:∀ l:List (List Nat),jar (l.map KA.str) (l.map λ_=>D.bl true) (.str w) (.bl true)=l.map λ_=>D.bl true:=λl=>by
  induction l with
  | nil=>rfl
  | cons a l d=>rw[L5,L5,jar,d];split<;>rfl
 unfold kT JN;by_cases h:w∈l
 ·rw[if_pos h,if_pos<|b.mpr h,c]
 ·rw[if_neg h,if_neg λz=>h<|b.mp z];simp
def jk5(a:pV i ρ=some (I10 true a0 a1 a2 a3 a4 a5 a6 (dSv true l) a8 a9))(b:pk ρ=some (.str w))(c:l.length<=1000):
  Vv i (qZ 0 "served" kF) pk (pC<|.bl true) ρ=some (.nx<|ρ.set i<|some<|I10 true a0 a1 a2 a3 a4 a5 a6 (dSv true<|JN l w) a8 a9):=by
 unfold Vv;rw[show(pC<|D.bl true) ρ=some (.bl true) from rfl,L4,a,L4,g7,L4];show((pk ρ).bind λq=>_)=_;rw[b,L4];show(bif lim (l.map KA.str).length&&(true||_) then some (Out.nx<|ρ.set i<|some<|I10 true a0 a1 a2 a3 a4 a5 a6 (.dK true (kT (l.map KA.str) (l.map λ_=>D.bl true) (.str w)<|.bl true).1 (kT (l.map KA.str) (l.map λ_=>D.bl true) (.str w)<|.bl true).2) a8 a9) else none)=_;rw[yh ∅,jm0];rfl
def jf8(h:yI a3 (.str w)=some (.int v)):jg [I10 false a0 a1 a2 a3 a4 a5 a6 a7 a8 a9,.tup [.str jkX,.str w]]=some (.int v):=by
 simp[jg,jy,j7,jmw,h,jjj]
def jbJ(h:yI a3 (.str w)=some (.int v))(h2:yI a2 (.str w)=some (.int u)):jg [I10 false a0 a1 a2 a3 a4 a5 a6 a7 a8 a9,.tup [.str YI,.str w]]=some (.int<|v+u):=by
 simp[jg,jy,j7,jmw,jom,h,h2,jjj]
def jd8(h:yI a1 (.str w)=some (.int v))(h2:yI a4 (.str w)=some (.int u)):∃ z,jg [I10 false a0 a1 a2 a3 a4 a5 a6 a7 a8 a9,.tup [.str jbB,.str w]]=some (.int z)/\0<=z:=by
 refine⟨if v-u<0 then 0 else v-u,?_,by split<;>lia⟩;have a:jn2 [.int<|v-u,.int 0]=some (.int<|if v-u<0 then 0 else v-u):=rfl;simp[jg,jy,j7,jm6,jqn,h,h2,jjj,a]
def jcm:∃ z,jg [I10 false (.str nm) a1 a2 a3 a4 (dLn false l) a6 a7 a8 a9,.tup [.str qp,.str w,.int j]]=some (.int z)/\0<=z:=by
 have a:Vc (dLn false l) [.str nm,.str w] (.int 0)=some (.int<|(kz l (nm,w)).getD 0):=by
  show some ((Q8 (l.map kL) (l.map vL) [.str nm,.str w]).getD (.int 0))=_;rw[JE (nm,w) l];cases kz l (nm,w)<;>rfl
 generalize(kz l (nm,w)).getD 0=u at a;refine⟨if j-u<0 then 0 else j-u,?_,by split<;>lia⟩;have b:jn2 [.int<|j-u,.int 0]=some (.int<|if j-u<0 then 0 else j-u):=rfl;simp[jg,jy,j7,jqh,jqj,a,jjj,b]
def zZ:jg [I10 false (.str nm) a1 a2 a3 a4 (dLn false l) a6 a7 a8 a9,.tup [.str Ve,.str w]]=some (.int<|(kz l (w,nm)).getD 0):=by
 have a:Vc (dLn false l) [.str w,.str nm] (.int 0)=some (.int<|(kz l (w,nm)).getD 0):=by
  show some ((Q8 (l.map kL) (l.map vL) [.str w,.str nm]).getD (.int 0))=_;rw[JE (w,nm) l];cases kz l (w,nm)<;>rfl
 simp[jg,jy,j7,jqh,jqj,a,jjj]
def jds:jg [I10 false a0 a1 a2 a3 a4 a5 (.int v) a7 a8 a9,.tup [.str Vq,.str w]]=some (.int v):=by
 simp[jg,jy,j7,jqf,jjj]
structure En where
 pl:Int
 kd:List Nat
 nm:List Nat
 nd:Int
 gt:Int
noncomputable def e5(e:En):D:=.tup [.int e.pl,.str e.kd,.str e.nm,.int e.nd,.int e.gt]
structure Fl where
 sz:List Nat->Int
 ow:List Nat->Int
 lv:List Nat->Int
 ln:LN
 cash:Int
 sv:List (List Nat)
 en:List En
 mv:List MV
noncomputable abbrev PoolS.C(p:PoolS):List (List Nat):=p.told.map (·.1)
noncomputable abbrev PoolS.P(p:PoolS):List (List Nat):=p.marks.map (·.1)
def jB(p:PoolS)(o:Bool)(x:Fl):D:=I10 o (.str p.nm) (dct o p.P<|fnOf p.marks) (dct o p.C x.sz) (dct o p.C x.ow) (dct o p.P x.lv) (dLn o x.ln) (.int x.cash) (dSv o x.sv) (.lst o<|x.en.map e5)<|.lst o<|x.mv.map eM
def jlo(o)(N)(f):fz (dct o N f)=dct false N f:=by
 have:fzs (N.map λn=>D.int<|f n)=N.map λn=>D.int (f n):=vx (λ_=>rfl) _;simp[dct,fz,this]
def jmo(o)(l):fz (dLn o l)=dLn false l:=by
 have:fzs (l.map vL)=l.map vL:=vx (λ_=>rfl) _;simp[dLn,fz,this]
def jnF(o)(l):fz (dSv o l)=dSv false l:=by
 have:fzs (l.map λ_=>D.bl true)=l.map λ_=>D.bl true:=vx (λ_=>rfl) _;unfold dSv;rw[fz,this]
def jhb(l:List En):fzs (l.map e5)=l.map e5:=vx (λ_=>rfl) _
def jcn(l:List En):frzs (l.map e5)=true:=yM (λ_=>rfl) _
def xv(l:List MV):fzs (l.map eM)=l.map eM:=vx (λ_=>rfl) _
def Qk(l:List MV):frzs (l.map eM)=true:=yM (λ_=>rfl) _
def jjw(p)(o)(x):fz (jB p o x)=jB p false x:=by
 unfold jB I10;simp[ jlo,jmo,jnF,fz,jhb,xv]
section
variable {p:PoolS}{x:Fl}{ρ:Rh}{w:List Nat}
def wD{i}{pv}{n}(a:pV i ρ=some (jB p true x))(b:pv ρ=some (.int n)):
  YQ i kF 0 "cash" (λm n=>m-n) pv ρ=some (.nx<|ρ.set i<|some<|jB p true {x with cash:=x.cash-n}):=jfQ a b
def zr{i}{pv}{e}(a:pV i ρ=some (jB p true x))(b:pv ρ=some (e5 e))(c:x.en.length<=1000):
  qr i (qZ 0 "entries" kF) pv ρ=some (.nx<|ρ.set i<|some<|jB p true {x with en:=x.en++[e]}):=by
 rw[qr,b,L4,a,L4];unfold jB;rw[g8,L4,Vn,L4,yh ∅,cond_true,N7];rfl
def joO{i}{pv}{m}(a:pV i ρ=some (jB p true x))(b:pv ρ=some (eM m))(c:x.mv.length<=1000):
  qr i (qZ 0 "moves" kF) pv ρ=some (.nx<|ρ.set i<|some<|jB p true {x with mv:=x.mv++[m]}):=by
 rw[qr,b,L4,a,L4];unfold jB;rw[g9,L4,Vn,L4,yh ∅,cond_true,N7];rfl
def jfp{i}{pk pv}{n}(a:pV i ρ=some (jB p true x))(b:pk ρ=some (.str w))(c:pv ρ=some (.int n))(d:w∈p.C)(e:p.C.length<=1000):
  vF i (qZ 0 "owed" kF) pk (λm n=>m-n) pv ρ=some (.nx<|ρ.set i<|some<|jB p true {x with ow:=put x.ow w (x.ow w-n)}):=K4 a g3 b c d e
def jpb{i}{pk pv}{n}(a:pV i ρ=some (jB p true x))(b:pk ρ=some (.str w))(c:pv ρ=some (.int n))(d:w∈p.C)(e:p.C.length<=1000):
  vF i (qZ 0 "sizes" kF) pk (λm n=>m-n) pv ρ=some (.nx<|ρ.set i<|some<|jB p true {x with sz:=put x.sz w (x.sz w-n)}):=K4 a g2 b c d e
def jo4{i}{pk pv}{n}(a:pV i ρ=some (jB p true x))(b:pk ρ=some (.str w))(c:pv ρ=some (.int n))(d:w∈p.P)(e:p.P.length<=1000):
  vF i (qZ 0 "levels" kF) pk (λm n=>m+n) pv ρ=some (.nx<|ρ.set i<|some<|jB p true {x with lv:=put x.lv w (x.lv w+n)}):=K4 a g4 b c d e
def jnE{i}{pk pv}{n}(a:pV i ρ=some (jB p true x))(b:pk ρ=some (.str w))(c:pv ρ=some (.int n))(d:w∈p.P)(e:p.P.length<=1000):
  vF i (qZ 0 "levels" kF) pk (λm n=>m-n) pv ρ=some (.nx<|ρ.set i<|some<|jB p true {x with lv:=put x.lv w (x.lv w-n)}):=K4 a g4 b c d e
def jlT{i}{pk}(a:pV i ρ=some (jB p true x))(b:pk ρ=some (.str w))(c:x.sv.length<=1000):
  Vv i (qZ 0 "served" kF) pk (pC<|.bl true) ρ=some (.nx<|ρ.set i<|some<|jB p true {x with sv:=JN x.sv w}):=jk5 a b c
def jpG{o}:uv 0 "pool_name" (jB p o x)=some (.str p.nm):=rfl
def jiG{o}:uv 0 "owed" (jB p o x)=some (dct o p.C x.ow):=rfl
def jpd{o}:uv 0 "levels" (jB p o x)=some (dct o p.P x.lv):=rfl
def Qa{o}:uv 0 "cash" (jB p o x)=some (.int x.cash):=rfl
def joN{o}:uv 0 "served" (jB p o x)=some (dSv o x.sv):=rfl
def jgH{c}(a:w∈p.C)(b:p.C.length<=1000):jx [jB p true x,.str jkX,.str w,.int c]=some (.non,jB p true {x with ow:=put x.ow w (x.ow w-c)}):=by
 simp[jx,vY,yL,jfp (ρ:=[some<|jB p true x,some<|.str jkX,some<|.str w,some<|.int c,none]) (i:=0) (pk:=pV 2) (pv:=pV 3) rfl rfl rfl a b,YN]
def jbz{c}(a:w∈p.C)(b:p.C.length<=1000):jx [jB p true x,.str YI,.str w,.int c]=some (.non,jB p true {x with ow:=put x.ow w<|x.ow w-got c (x.ow w),sz:=put x.sz w (x.sz w-(c-got c (x.ow w)))}):=by
 have d:xP [.int c,.int<|x.ow w]=some (.int<|got c<|x.ow w):=rfl;simp[jx,vY,yL,jfp (ρ:=[some<|jB p true x,some<|.str YI,some<|.str w,some<|.int c,some<|.int<|got c<|x.ow w]) (i:=0) (pk:=pV 2) (pv:=pV 4) rfl rfl rfl a b,jpb (ρ:=[some<|jB p true {x with ow:=put x.ow w (x.ow w-got c (x.ow w))},some<|.str YI,some<|.str w,some<|.int c,some<|.int<|got c<|x.ow w]) (i:=0) (pk:=pV 2) (pv:=p2 Ys (pV 3)<|pV 4) (n:=c-got c (x.ow w)) rfl rfl (by simp) a b,jiG (p:=p) (x:=x) (o:=true),yr (o:=true) (f:=x.ow) a,d,YN]
def jdq{c}(a:w∈p.P)(b:p.P.length<=1000):jx [jB p true x,.str jbB,.str w,.int c]=some (.non,jB p true {x with lv:=put x.lv w (x.lv w+c)}):=by
 simp[jx,vY,yL,jo4 (ρ:=[some<|jB p true x,some<|.str jbB,some<|.str w,some<|.int c,none]) (i:=0) (pk:=pV 2) (pv:=pV 3) rfl rfl rfl a b,YN]
def jjm{kw}(h:kw=qp\/kw=Ve):Y1 false (.str kw) (.tup [.str [108,101,110,100],.str [98,97,99,107]])=some (.bl true):=by
 rcases h with rfl | rfl<;>rfl
def jco{m}{N}{c}(k:MvOk p.nm N c x.ln m)(d:x.ln.length<=100)(e:x.mv.length<=1000):jx [jB p true x,.str m.1,.str m.2.1,.int m.2.2]=some (.non,jB p true {x with ln:=mvF p.nm x.ln m,mv:=x.mv++[m]}):=by
 have b:=k.kd.imp id (·.1);have a:∀ r:Rh,JI yK 0 (qZ 0 "loans" kF) #[pF<|JD 0 "pool_name"<|pV 0,pF<|pV 1,pF<|pV 2,pF<|pV 3] (some (jB p true x)::some (.str m.1)::some (.str m.2.1)::some (.int m.2.2)::r)=some (.non,some (jB p true {x with ln:=mvF p.nm x.ln m})::some (.str m.1)::some (.str m.2.1)::some (.int m.2.2)::r):=by
  intro r;have f:qZ 0 "loans" kF (jB p true x)=some (dLn true x.ln,λz=>I10 true (.str p.nm) (dct true p.P<|fnOf p.marks) (dct true p.C x.sz) (dct true p.C x.ow) (dct true p.P x.lv) z (.int x.cash) (dSv true x.sv) (.lst true<|x.en.map e5)<|.lst true<|x.mv.map eM):=rfl;have e2:jB p true {x with ln:=mvF p.nm x.ln m}=I10 true (.str p.nm) (dct true p.P<|fnOf p.marks) (dct true p.C x.sz) (dct true p.C x.ow) (dct true p.P x.lv) (dLn true<|mvF p.nm x.ln m) (.int x.cash) (dSv true x.sv) (.lst true<|x.en.map e5) (.lst true<|x.mv.map eM):=rfl;rw[e2];unfold JI;simp[jpG (p:=p) (x:=x) (o:=true),f,jdu d k]
 have g:(m.1==jkX)=false:=by lia
 have h:(m.1==YI)=false:=by lia
 have j:(m.1==jbB)=false:=by lia
 simp[jx,vY,yL,a,joO (ρ:=[some<|jB p true {x with ln:=mvF p.nm x.ln m},some<|.str m.1,some<|.str m.2.1,some<|.int m.2.2,none]) (i:=0) (pv:=yD #[pF<|pV 1,pF<|pV 2,pF<|pV 3]) (m:=m) rfl (by rfl) e,jjm b,k.po,g,h,j,YN,jb,-qr]
def VW{kw}{c}(h:kw=Vq\/((kw=qp\/kw=Ve)/\¬ 0<c)):jx [jB p true x,.str kw,.str w,.int c]=some (.non,jB p true x):=by
 rcases h with rfl | ⟨rfl | rfl,h⟩
 ·rfl
 ·have a:=jjm<|.inl rfl;simp[jx,vY,yL,a,h,YN,jb]
 ·have a:=jjm<|.inr rfl;simp[jx,vY,yL,a,h,YN,jb]
end
def J9(a:pV i ρ=some (jB p true x))(b:pa ρ=some ds)(c:frzs ds=true)
  (d:∀ a0 a1 a2 a3 a4 a5 a6 a7 a8 a9:D,JK NS [a0,a1,a2,a3,a4,a5,a6,a7,a8,a9] mn=none):va m i 0 mn pa ρ=(m<|jB p true x::ds).bind λr=>some (r.1,ρ.set i<|some r.2):=by
 rw[va,b,L4,a,L4];show(bif true&&(frzs ds&&(JK NS _ mn).isNone) then _ else none)=_;rw[d,c];rfl
def jdR(a:po ρ=some (jB p o x))(b:pa ρ=some ds)
  (c:∀ a0 a1 a2 a3 a4 a5 a6 a7 a8 a9:D,JK NS [a0,a1,a2,a3,a4,a5,a6,a7,a8,a9] mn=none) (e:m (jB p false x::fzs ds)=some r) (f:yZ r=true):Yo m 0 mn po pa ρ=some r:=by
 rw[Yo,a,L4];show(bif true&&(JK NS _ mn).isNone then(pa ρ).bind λds=>(m<|fzs<|jB p o x::ds).bind λd=>bif frzs (jB p o x::ds)||yZ d then some d else none else none)=_;rw[c,b,L4,fzs,jjw,e,L4,f,Bool.or_true];rfl
def jgL(k:jd d (.int 0)=some (.str kw))(l:jd d (.int 1)=some (.str w))(fd:fz d=d)
  (j:jg [jB p false x,d]=some (.int nd))
  (give:jx [jB p true {x with cash:=x.cash-got nd x.cash,en:=x.en++[⟨pl,kw,w,nd,got nd x.cash⟩]},.str kw,.str w,.int<|got nd x.cash]=some (.non,jB p true y))
  (h:Y1 false (.str kw) (.tup [.str [112,97,121],.str [114,101,112,97,121]])=some (.bl b)) (q:x.en.length<=1000) (t:y.sv.length<=1000):
  jw [jB p true x,.int pl,d]=some (.non,jB p true<|if b=true/\got nd x.cash=nd/\0<nd then{y with sv:=JN y.sv w} else y):=by
 have m:xP [.int nd,.int x.cash]=some (.int<|got nd x.cash):=rfl;generalize A:got nd x.cash=g at *;have n:=Qa (p:=p) (x:=x) (o:=true);have a:∀ r:Rh,Yo jg 0 "need_of" (pV 0) #[pV 2] (some (jB p true x)::some (.int pl)::some d::r)=some (.int nd):=λr=>jdR rfl (ds:=[d]) (by simp) (λ_ _ _ _ _ _ _ _ _ _=>rfl) (by rw[show fzs [d]=[d] by rw[fzs,fd];rfl];exact j) rfl;have c:=wD (ρ:=[some<|jB p true x,some<|.int pl,some d,some<|.str kw,some<|.str w,some<|.int nd,some<|.int g]) (i:=0) (pv:=pV 6) rfl rfl;have e:=zr (ρ:=[some<|jB p true {x with cash:=x.cash-g},some<|.int pl,some d,some<|.str kw,some<|.str w,some<|.int nd,some<|.int g]) (i:=0) (pv:=yD #[pF<|pV 1,pF<|pV 3,pF<|pV 4,pF<|pV 5,pF<|pV 6]) (e:=⟨pl,kw,w,nd,g⟩) rfl (by rfl) q;have f:va jx 0 0 "give" #[pF<|pV 3,pF<|pV 4,pF<|pV 6] [some<|jB p true {x with cash:=x.cash-g,en:=x.en++[⟨pl,kw,w,nd,g⟩]},some<|.int pl,some d,some<|.str kw,some<|.str w,some<|.int nd,some<|.int g]=some (.non,[some<|jB p true y,some<|.int pl,some d,some<|.str kw,some<|.str w,some<|.int nd,some<|.int g]):=by
  rw[J9 rfl (ds:=[.str kw,.str w,.int g]) (by simp) rfl<|λ_ _ _ _ _ _ _ _ _ _=>rfl,give];rfl
 have s:=jlT (ρ:=[some<|jB p true y,some<|.int pl,some d,some<|.str kw,some<|.str w,some<|.int nd,some<|.int g]) (i:=0) (pk:=pV 4) rfl rfl t;have z:jB p true (if b=true/\g=nd/\0<nd then{y with sv:=JN y.sv w} else y)=if b=true/\g=nd/\0<nd then jB p true {y with sv:=JN y.sv w} else jB p true y:=by lia
 rw[z];cases b with
 | false=>simp[jw,vY,yg,k,l,a,n,m,c,e,f,h,YN,jb,-qr,-Yo,-va]
 | true=>
  by_cases u:g=nd
  ·subst u;by_cases v:0<g
   ·simp[jw,vY,yg,k,l,a,n,m,c,e,f,s,h,v,YN,jb,-jbZ,-qr,-Yo,-va]
   ·simp[jw,vY,yg,k,l,a,n,m,c,e,f,s,h,v,YN,jb,-jbZ,-qr,-Yo,-va]
  ·simp[jw,vY,yg,k,l,a,n,m,c,e,f,s,h,u,YN,jb,-jbZ,-qr,-Yo,-va]
noncomputable def CK:List (List Nat):=[[112,97,114,116],[112,97,121],[115,104,97,114,101],[114,101,112,97,121],[114,101,115,116],[103,117,97,114,100],[101,97,116]]
def Ch(w:List Nat):Prop:=∀ c∈w,c<1114112
structure EnOk(C:W1)(e:En):Prop where
 c:e.kd∈CK->e.nm∈C
 k:Ch e.kd
 n:Ch e.nm
def PoolOk.cw{O p c}(h:PoolOk O p)(a:c∈p.told.map (·.1)):Ch c:=by obtain⟨t,b,rfl⟩:=M7.mp a;exact(h.told t b).1.2
def Yk{C}{l}{a}(h:∀ e∈l,EnOk C e)(b:EnOk C a):∀ e∈l++[a],EnOk C e:=λe c=>(N4.mp c).elim (h e) λq=>by rw[M9.mp q];exact b
noncomputable def CK6:List (List Nat):=CK.dropLast
def vA(es:List En):Int:=((es.filter λe=>decide<|e.kd∈CK6).map (·.gt)).sum
def yG(a b):vA (a++b)=vA a+vA b:=by unfold vA;rw[List.filter_append,N7,List.sum_append]
def yU(e):vA [e]=if e.kd∈CK6 then e.gt else 0:=by
 unfold vA;by_cases h:e.kd∈CK6<;>simp[h]
noncomputable def lvS(P:W1)(f:List Nat->Int):Int:=(P.map f).sum
def jlP{P w f v}(h:¬ w∈P):lvS P (put f w v)=lvS P f:=by
 unfold lvS;rw[List.map_congr_left λa b=>jcG λz=>h<|by rw[<- z];exact b]
theorem uq{f w v}:∀{P},P.Nodup->w∈P->lvS P (put f w v)=lvS P f-f w+v
 | x::P,nd,h=>by
  rw[List.nodup_cons] at nd;show put f w v x+lvS P (put f w v)=f x+lvS P f-f w+v;by_cases e:x=w
  ·subst e;rw[jlP nd.1,show put f x v x=v from if_pos rfl];lia
  ·rw[jcG e,uq nd.2<|(M5.mp h).resolve_left λz=>e z.symm];lia
noncomputable def jbq(ms:List MV):Int:=(ms.map (·.2.2)).sum
def xL(ms)(m):jbq (ms++[m])=jbq ms+m.2.2:=by simp[jbq]
structure FlOk(p:PoolS)(N:W1)(c B:Int)(L0:LN)(J:Int)(x:Fl):Prop where
 sz:∀ n,0<=x.sz n
 ow:∀ n,0<=x.ow n/\x.ow n<=B
 lv:∀ n,0<=x.lv n
 ln:x.ln=reN p.nm L0 x.mv
 mv:MvsOk p.nm N c L0 x.mv
 c0:0<=x.cash
 c1:x.cash<=c
 svl:x.sv.length<=x.en.length
 mvl:x.mv.length<=x.en.length
 ek:∀ e∈x.en,EnOk p.C e
 js:x.cash+vA x.en+lvS p.P x.lv+jbq x.mv=J
def xa(l)(w):(JN l w).length<=l.length+1:=by
 unfold JN;split<;>simp
def jf2 [Decidable q] (ky:FlOk p N c B L0 J y) (a:y.sv.length+1<=y.en.length):FlOk p N c B L0 J (if q then{y with sv:=JN y.sv w} else y)/\(if q then{y with sv:=JN y.sv w} else y).en=y.en/\(if q then{y with sv:=JN y.sv w} else y).cash=y.cash:=by
 split
 ·exact⟨⟨ky.sz,ky.ow,ky.lv,ky.ln,ky.mv,ky.c0,ky.c1,N9 (xa _ _) a,ky.mvl,ky.ek,ky.js⟩,rfl,rfl⟩
 ·exact⟨ky,rfl,rfl⟩
def jal(h:∀ n,0<=f n/\f n<=B)(a:0<=v)(h1:v<=B)(n):0<=put f w v n/\put f w v n<=B:=by
 unfold put;split
 ·exact⟨a,h1⟩
 ·exact h n
def jb2(h:PoolOk O p)(L:∀ w∈O,w∈N)(S:p.nm∈N)(T:N.length<=6)(U:LnOk N L0)(k:FlOk p N c B L0 J x) 
  (M:(d=.tup [.str kw,.str w]/\jdI p.C p.P O kw w)\/(∃ j,kw=qp/\d=.tup [.str kw,.str w,.int j]/\w∈O)) (F:Ch w) (V:x.en.length<=900):
  ∃ x' e,jw [jB p true x,.int pl,d]=some (.non,jB p true x')/\FlOk p N c B L0 J x'/\x'.en=x.en++[e]/\(kw=Vq->x'.cash=0):=by
 have Q:p.C.length<=1000:=by have:=h.told2;rw[L1];lia
 have W:p.P.length<=1000:=by have:=h.marks2;rw[L1];lia
 have c0:=k.c0;have c1:=k.c1;have svl:=k.svl;have mvl:=k.mvl;have o:LnOk N x.ln:=by rw[k.ln];exact jeb S U k.mv
 have X:=o.len T;have r:(kw∈CK->w∈p.C)/\Ch kw:=by
  rcases M with⟨_,⟨rfl | rfl | rfl,a⟩ | ⟨rfl,_⟩ | ⟨rfl,_⟩⟩ | ⟨_,rfl,_⟩
  ·exact⟨λ_=>a,by unfold Ch;decide⟩
  ·exact⟨λ_=>a,by unfold Ch;decide⟩
  ·exact⟨λ_=>a,by unfold Ch;decide⟩
  all_goals exact⟨λq=>absurd q<|by decide,by unfold Ch;decide⟩
 have key:∀{nd:Int}{y:Fl}{b:Bool},jd d (.int 0)=some (.str kw)->jd d (.int 1)=some (.str w)->fz d=d->jg [jB p false x,d]=some (.int nd)->0<=nd ->
   (0<=got nd x.cash->got nd x.cash<=nd->got nd x.cash<=x.cash->jx [jB p true {x with cash:=x.cash-got nd x.cash,en:=x.en++[⟨pl,kw,w,nd,got nd x.cash⟩]},.str kw,.str w,.int<|got nd x.cash]=some (.non,jB p true y)/\
    y.cash=x.cash-got nd x.cash/\y.en=x.en++[⟨pl,kw,w,nd,got nd x.cash⟩]/\y.sv=x.sv/\(∀ n,0<=y.sz n)/\(∀ n,0<=y.ow n/\y.ow n<=B)/\(∀ n,0<=y.lv n)/\y.ln=reN p.nm L0 y.mv/\MvsOk p.nm N c L0 y.mv/\y.mv.length<=x.mv.length+1/\lvS p.P y.lv+jbq y.mv+(if kw∈CK6 then got nd x.cash else 0)=lvS p.P x.lv+jbq x.mv+got nd x.cash) ->
   Y1 false (.str kw) (.tup [.str [112,97,121],.str [114,101,112,97,121]])=some (.bl b)->(kw=Vq->nd=x.cash) ->
   ∃ x' e,jw [jB p true x,.int pl,d]=some (.non,jB p true x')/\FlOk p N c B L0 J x'/\x'.en=x.en++[e]/\(kw=Vq->x'.cash=0):=by
  intro nd y b f g fd s Y give G H;have I:0<=got nd x.cash/\got nd x.cash<=nd/\got nd x.cash<=x.cash:=by unfold got;split<;>lia
  obtain⟨Z,v,A,K,y4,y5,y6,y7,y8,y9,y10⟩:=give I.1 I.2.1 I.2.2;have e:=jgL f g fd s Z G ∅ (by rw[K];lia);have R:y.en.length=x.en.length+1:=by rw[A];simp
  have ky:FlOk p N c B L0 J y:=⟨y4,y5,y6,y7,y8,by rw[v];lia,by rw[v];lia,by rw[K];lia,by rw[R];exact N9 y9<|Nat.succ_le_succ mvl,by rw[A];exact Yk k.ek ⟨r.1,r.2,F⟩,by have:=k.js;rw[v,A,yG,yU];dsimp only;lia⟩;obtain⟨r1,r2,r3⟩:=jf2 (w:=w) (q:=b=true/\got nd x.cash=nd/\0<nd) ky (by rw[K,R];lia);exact⟨_,_,e,r1,r2.trans A,λz=>by rw[r3,v,H z];unfold got;split<;>lia⟩
 rcases M with⟨rfl,hk⟩ | ⟨j,rfl,rfl,a⟩
 ·have f:jd (.tup [.str kw,.str w]) (.int 0)=some (.str kw):=rfl;have g:jd (.tup [.str kw,.str w]) (.int 1)=some (.str w):=rfl;rcases hk with⟨rfl | rfl | rfl,a⟩ | ⟨rfl,a⟩ | ⟨rfl,a⟩
  ·refine key (b:=true) f g rfl (jf8<|yr a) (k.ow w).1 (λm i g2=>⟨jgH a Q,rfl,rfl,rfl,k.sz,?_,k.lv,k.ln,k.mv,by simp,by rw[if_pos<|by decide]⟩) rfl (λz=>absurd z<|by decide);have:=k.ow w;exact jal k.ow (by dsimp only;lia) (by dsimp only;lia)
  ·have hs:=k.sz w;have ho:=k.ow w;refine key (b:=true) f g rfl (jbJ (yr a)<|yr a) ∅ (λm i g2=>⟨jbz a Q,rfl,rfl,rfl,?_,?_,k.lv,k.ln,k.mv,by simp,by rw[if_pos<|by decide]⟩) rfl (λz=>absurd z<|by decide)
   ·refine jaw k.sz ?_;unfold got;split<;>lia
   ·refine jal k.ow ?_ ?_
    all_goals
     unfold got;split<;>lia
  ·refine key (b:=false) f g rfl jds c0 (λm i g2=>⟨VW<|.inl rfl,rfl,rfl,rfl,k.sz,k.ow,k.lv,k.ln,k.mv,by simp,by rw[if_pos<|by decide]⟩) rfl<|λ_=>rfl
  ·obtain⟨z,D,E⟩:=jd8 (a0:=.str p.nm) (a1:=dct false p.P<|fnOf p.marks) (a2:=dct false p.C x.sz) (a3:=dct false p.C x.ow) (a4:=dct false p.P x.lv) (a5:=dLn false x.ln) (a6:=.int x.cash) (a7:=dSv false x.sv) (a8:=.lst false<|x.en.map e5) (a9:=.lst false<|x.mv.map eM) (w:=w) (yr a)<|yr a;refine key (b:=false) f g rfl D E (λm i g2=>⟨jdq a W,rfl,rfl,rfl,k.sz,k.ow,?_,k.ln,k.mv,by simp,?_⟩) rfl<|λz=>absurd z (by decide)
   ·have:=k.lv w;exact jaw k.lv (by dsimp only;lia)
   ·rw[if_neg<|by decide];rw[uq h.marksn a];lia
  ·have t:0<=(kz x.ln (w,p.nm)).getD 0:=ut o.mem;by_cases u:0<got ((kz x.ln (w,p.nm)).getD 0) x.cash
   ·refine key (b:=false) (y:={x with cash:=x.cash-got ((kz x.ln (w,p.nm)).getD 0) x.cash,en:=x.en++[⟨pl,Ve,w,(kz x.ln (w,p.nm)).getD 0,got ((kz x.ln (w,p.nm)).getD 0) x.cash⟩],ln:=mvF p.nm x.ln (Ve,w,got ((kz x.ln (w,p.nm)).getD 0) x.cash),mv:=x.mv++[(Ve,w,got ((kz x.ln (w,p.nm)).getD 0) x.cash)]}) f g rfl zZ t (λm i g2=>?_) rfl<|λz=>absurd z (by decide);have mk:MvOk p.nm N c x.ln (Ve,w,got ((kz x.ln (w,p.nm)).getD 0) x.cash):=⟨.inr ⟨rfl,i⟩,L w a,u,by dsimp only;lia⟩;refine⟨jco (x:={x with cash:=x.cash-got ((kz x.ln (w,p.nm)).getD 0) x.cash,en:=x.en++[⟨pl,Ve,w,(kz x.ln (w,p.nm)).getD 0,got ((kz x.ln (w,p.nm)).getD 0) x.cash⟩]}) mk ∅ ∅,rfl,rfl,rfl,k.sz,k.ow,k.lv,?_,?_,by simp,?_⟩
    ·dsimp only;rw[uU,<- k.ln]
    ·exact MvsOk.snoc k.mv (by rw[<- k.ln];exact mk)
    ·dsimp only;rw[xL,if_neg<|by decide];dsimp only;lia
   ·exact key (b:=false) f g rfl zZ t (λm i g2=>⟨VW<|.inr ⟨.inr rfl,u⟩,rfl,rfl,rfl,k.sz,k.ow,k.lv,k.ln,k.mv,by simp,by rw[if_neg<|by decide];dsimp only;lia⟩) rfl<|λz=>absurd z (by decide)
 ·have f:jd (.tup [.str qp,.str w,.int j]) (.int 0)=some (.str qp):=rfl;have g:jd (.tup [.str qp,.str w,.int j]) (.int 1)=some (.str w):=rfl;obtain⟨z,D,E⟩:=jcm (a1:=dct false p.P<|fnOf p.marks) (a2:=dct false p.C x.sz) (a3:=dct false p.C x.ow) (a4:=dct false p.P x.lv) (l:=x.ln) (nm:=p.nm) (a6:=.int x.cash) (a7:=dSv false x.sv) (a8:=.lst false<|x.en.map e5) (a9:=.lst false<|x.mv.map eM) (w:=w) (j:=j);by_cases u:0<got z x.cash
  ·refine key (b:=false) (y:={x with cash:=x.cash-got z x.cash,en:=x.en++[⟨pl,qp,w,z,got z x.cash⟩],ln:=mvF p.nm x.ln (qp,w,got z x.cash),mv:=x.mv++[(qp,w,got z x.cash)]}) f g rfl D E (λm i g2=>?_) rfl<|λz=>absurd z (by decide);have mk:MvOk p.nm N c x.ln (qp,w,got z x.cash):=⟨.inl rfl,L w a,u,by dsimp only;lia⟩;refine⟨jco (x:={x with cash:=x.cash-got z x.cash,en:=x.en++[⟨pl,qp,w,z,got z x.cash⟩]}) mk ∅ ∅,rfl,rfl,rfl,k.sz,k.ow,k.lv,?_,?_,by simp,?_⟩
   ·dsimp only;rw[uU,<- k.ln]
   ·exact MvsOk.snoc k.mv (by rw[<- k.ln];exact mk)
   ·dsimp only;rw[xL,if_neg<|by decide];dsimp only;lia
  ·exact key (b:=false) f g rfl D E (λm i g2=>⟨VW<|.inr ⟨.inl rfl,u⟩,rfl,rfl,rfl,k.sz,k.ow,k.lv,k.ln,k.mv,by simp,by rw[if_neg<|by decide];dsimp only;lia⟩) rfl<|λz=>absurd z (by decide)
noncomputable abbrev W3s:=List Nat×Int×Int
noncomputable def eT(t:W3s):D:=.tup [.str t.1,.int t.2.1,.int t.2.2]
def shE(pl:Int)(t:W3s):En:=⟨pl,vE,t.1,t.2.1,t.2.2⟩
theorem jci:∀(ws:W1) (ns gs:List Int),jaY (ws.map D.str) (ns.map D.int) (gs.map D.int)=(ws.zip<|ns.zip gs).map eT
 | [],_,_=>rfl
 | _::_,[],_=>rfl
 | _::_,_::_,[]=>rfl
 | w::ws,n::ns,g::gs=>by
  rw[L5,L5,L5,jaY,jci ws ns gs];rfl
theorem Ky(h:PoolOk O p)  : ∀{T:List W3s}{x}{o6 o7 o8},FlOk p N c B L0 J x->x.en.length+T.length<=950->(T.map (·.1)).Nodup ->
  (∀ t∈T,t.1∈p.C/\t.2.1=x.ow t.1/\0<=t.2.2/\t.2.2<=t.2.1)->(T.map (·.2.2)).sum<=x.cash ->
  Ex4 λ(x':Fl) (o6' o7' o8':Option D)=>An3 (j8 (gT 3<|gC (jc [0] 6)<|gC (jc [0] 7)<|gC (jc [0] 8) gN) yJ (T.map eT) [some<|jB p true x,some<|.int pl,a2,a3,a4,some<|.bl b,o6,o7,o8]=some (.nx [some<|jB p true x',some<|.int pl,a2,a3,a4,some<|.bl b,o6',o7',o8'])) (FlOk p N c B L0 J x')<|x'.en=x.en++T.map (shE pl)
 | [],x,o6,o7,o8,k,_,_,_,_=>⟨x,o6,o7,o8,rfl,k,by simp⟩
 | t::T,x,o6,o7,o8,k,w,nd,g,y=>by
  obtain⟨d,A,E,F⟩:=g t (by simp);rw[L5,List.nodup_cons] at nd;rw[M3] at w;rw[L5,List.sum_cons] at y;have G:0<=(T.map (·.2.2)).sum:=by
   have:∀(T:List W3s),(∀ t∈T,0<=t.2.2)->0<=(T.map (·.2.2)).sum:=λT=>by
    induction T with
    | nil=>intro _;simp
    | cons a T H=>intro q;rw[L5,List.sum_cons];have:=H<|λt g=>q t (by simp[g]);have:=q a (by simp);lia
   exact this T λj l=>(g j<|by simp[l]).2.2.1
  have I:p.C.length<=1000:=by have:=h.told2;rw[L1];lia
  have c1:=k.c1;have svl:=k.svl;have mvl:=k.mvl;have K:=k.ow t.1
  let L:Fl:={x with cash:=x.cash-t.2.2}
  let M:Fl:={L with ow:=put x.ow t.1 (x.ow t.1-t.2.2)}
  let m:Fl:={M with en:=x.en++[shE pl t]}
  let o:Fl:=if b=true then{m with sv:=JN x.sv t.1} else m
  have Q:FlOk p N c B L0 J o:=by
   have R:(x.en++[shE pl t]).length=x.en.length+1:=by simp
   have u:∀ n,0<=put x.ow t.1 (x.ow t.1-t.2.2) n/\put x.ow t.1 (x.ow t.1-t.2.2) n<=B:=jal k.ow ∅ ∅;have S:=xa x.sv t.1;have f:0<=x.cash-t.2.2/\x.cash-t.2.2<=c:=by lia
   cases b with
   | true=>exact⟨k.sz,u,k.lv,k.ln,k.mv,f.1,f.2,by lia,by lia,Yk k.ek ⟨λ_=>d,by show Ch vE;unfold Ch;decide,h.cw d⟩,by show x.cash-t.2.2+vA (x.en++[shE pl t])+lvS p.P x.lv+jbq x.mv=J;rw[yG,yU,if_pos<|by show vE∈CK6;decide];have:=k.js;show _+(_+t.2.2)+_+_=_;lia⟩
   | false=>exact⟨k.sz,u,k.lv,k.ln,k.mv,f.1,f.2,by lia,by lia,Yk k.ek ⟨λ_=>d,by show Ch vE;unfold Ch;decide,h.cw d⟩,by show x.cash-t.2.2+vA (x.en++[shE pl t])+lvS p.P x.lv+jbq x.mv=J;rw[yG,yU,if_pos<|by show vE∈CK6;decide];have:=k.js;show _+(_+t.2.2)+_+_=_;lia⟩
  have v:o.en=x.en++[shE pl t]:=by lia
  have U:o.ow=put x.ow t.1 (x.ow t.1-t.2.2):=by lia
  obtain⟨x',o6',o7',o8',e,V,r⟩:=Ky h (pl:=pl) Q (by rw[v];simp;lia) nd.2 (λj l=>by
   have:=g j (by simp[l]);have s:j.1≠t.1:=λz=>nd.1<|z▸M7.mpr ⟨j,l,rfl⟩;rw[U,jcG s];exact this) ∅
  refine⟨x',o6',o7',o8',?_,V,by rw[r,v];simp⟩;rw[L5,lpF ?_,e];show yJ [some<|jB p true x,some<|.int pl,a2,a3,a4,some<|.bl b,some<|.str t.1,some<|.int t.2.1,some<|.int t.2.2]=_;apply sq<|wD rfl rfl;apply sq<|jfp rfl rfl rfl d I;apply sq<|zr (e:=shE pl t) rfl (by rfl) ∅;cases b with
  | false=>rfl
  | true=>exact jlT (pk:=pV 6) (ρ:=[some<|jB p true m,some<|.int pl,a2,a3,a4,some<|.bl true,some<|.str t.1,some<|.int t.2.1,some<|.int t.2.2]) (i:=0) rfl rfl ∅
def jae(l:List Int):frzs (l.map D.int)=true:=yM (λ_=>rfl) _
def QU(l:List Int):fzs (l.map D.int)=l.map D.int:=vx (λ_=>rfl) _
def Ki(l:List Int):yk (l.map D.int)=true:=by
 rw[yx,List.all_map,List.all_eq_true];intro x _;rfl
theorem ui:∀{a:List α}{b:List β},a.length=b.length->(a.zip b).map (·.2)=b
 | [],[],_=>rfl
 | [],_::_,h=>by simp at h
 | _::_,[],h=>by simp at h
 | a::l,b::m,h=>by simp at h;simp[ui h]
theorem jeO:∀{a:List α}{b:List β},a.length=b.length->(a.zip b).map (·.1)=a
 | [],[],_=>rfl
 | [],_::_,h=>by simp at h
 | _::_,[],h=>by simp at h
 | a::l,b::m,h=>by simp at h;simp[jeO h]
def jbc{x}{N O}{c B}(h:PoolOk O p)(k:FlOk p N c B L0 J x)(hB:B<=10 ^ 20)(hc:c<=2 ^ 900){pl:Int}{ws:W1}(hl:ws.length<=20)(R:∀ w∈ws,w∈p.C)(nd:ws.Nodup)(X:x.en.length<=900):
  Ex2 λx' es=>An4 (jT [jB p true x,.int pl,.tup<|ws.map D.str]=some (.non,jB p true x')) (FlOk p N c B L0 J x') (x'.en=x.en++es) (es.length=ws.length):=by
 have c0:=k.c0;have c1:=k.c1
 let ns:=ws.map x.ow
 have d:∀ v∈ns,0<=v/\v<=10 ^ 20:=λv H=>by
  obtain⟨w,_,rfl⟩:=M7.mp H;have:=k.ow w
  lia
 have r:=λv H=>(d v H).1;have j:ns.length=ws.length:=L1 ..;have s:ns.sum<=10 ^ 30:=by
  have:=jhm ns d
  lia
 have l:(vB ns x.cash).length=ws.length:=by rw[wX,j]
 let a:=vB ns x.cash
 let T:=ws.zip<|ns.zip a
 have I:T.map (·.1)=ws:=jeO (by rw[List.length_zip,j,l];simp);have K:T.map (·.2)=ns.zip a:=ui (by rw[List.length_zip,j,l];simp);have L:T.map (·.2.2)=a:=by
  have:T.map (·.2.2)=(T.map (·.2)).map (·.2):=by simp
  rw[this,K];exact ui ∅
 have M:T.length=ws.length:=by rw[<- I,L1]
 have u:∀ t∈T,t.1∈p.C/\t.2.1=x.ow t.1/\0<=t.2.2/\t.2.2<=t.2.1:=by
  intro t P;obtain⟨i,hi⟩:=List.mem_iff_getElem?.mp P;rw[List.getElem?_zip_eq_some] at hi;obtain⟨S,y⟩:=hi;rw[List.getElem?_zip_eq_some] at y;obtain⟨y,Y⟩:=y;have U:=jdN c0 r Y y;have m:=y;rw[List.getElem?_map,S] at m;simp at m;exact⟨R _<|List.mem_of_getElem? S,m.symm,U⟩
 have Z:∀ g∈a,0<=g:=λg V=>by
  rw[<- L] at V;obtain⟨t,P,rfl⟩:=M7.mp V;exact(u t P).2.2.1
 have hss:a.sum<=x.cash:=by
  rcases jby c0 r with⟨q1,q2⟩ | q
  ·lia
  ·lia
 let b:Bool:=decide (0<ns.sum)&&decide (a=ns)
 obtain⟨x',o6,o7,o8,e,k',Q⟩:=Ky h (a2:=some<|.tup<|ws.map D.str) (a3:=‹ns.map D.int›) (a4:=‹a.map D.int›) (b:=b) (o6:=none) (o7:=none) (o8:=none) k ∅ ∅ u ∅;refine⟨x',T.map<|shE pl,?_,k',Q,by rw[L1,M]⟩;have W:jU (jc [] 0) qT (pF<|p2 yI (JD 0 "owed"<|pV 1)<|pV 0) (ws.map D.str) [none,some<|jB p true x]=some (ns.map D.int):=by
  rw[U3];refine jq rfl (λρ=>∃ o,ρ=[o,some<|jB p true x]) ?_ ⟨none,rfl⟩;rintro q hq ρ ⟨o,rfl⟩;refine⟨[some<|.str q,some<|jB p true x],rfl,?_,_,rfl⟩;simp[jiG (p:=p) (x:=x) (o:=true),yr (o:=true) (f:=x.ow)<|R q hq]
 have z:=Qa (p:=p) (x:=x) (o:=true);have A:lim ws.length=true:=jb ∅;have E:=jim true true a ns;have F:jfS 3 [.tup<|ws.map D.str,.lst false<|ns.map D.int,.lst false<|a.map D.int]=some (T.map eT):=by
  rw[jqF rfl rfl rfl (by rw[L1,L1];lia)<|by rw[L1,L1];exact Nat.le_of_eq l.symm,qc,QU,QU,jci ws ns a]
 have G:Jg [.lst false<|ns.map D.int,.int x.cash]=↑(a.map D.int):=(jez ∅ d c0 ∅ s);have U:b=(decide (0<ns.sum)&&decide (a=ns)):=rfl
 clear_value T a ns b
 by_cases q:0<ns.sum
 ·have n:b=decide (a=ns):=by lia
  rw[n] at e;simp[jT,vY,vi,jk,W,z,A,G,E,jae,QU,Ki,q,F,e,YN,yw,qc]
 ·have n:b=false:=by lia
  rw[n] at e;simp[jT,vY,vi,jk,W,z,A,G,E,jae,QU,Ki,q,F,e,YN,yw,qc]
noncomputable abbrev xK:List Nat:=[103,117,97,114,100]
noncomputable abbrev jcF:List Nat:=[112,97,114,116]
noncomputable abbrev jam:List Nat:=[116,119,105,99,101]
def jbv(h:PoolOk O p)(k:FlOk p N c B L0 J x)  (h1:po∈p.P) (h2:cl∈p.C) (b:x.en.length<=900):
  Ex2 λx' e=>An4 (yB [jB p true x,.int pl,.str po,.str cl]=some (.non,jB p true x')) (FlOk p N c B L0 J x') (x'.en=x.en++[e]) (x'.cash=x.cash):=by
 have d:p.C.length<=1000:=by have:=h.told2;rw[L1];lia
 have i:p.P.length<=1000:=by have:=h.marks2;rw[L1];lia
 have j:=k.ow cl;have svl:=k.svl;have mvl:=k.mvl;have l:xP [.int<|x.ow cl,.int<|x.lv po]=some (.int<|got (x.ow cl)<|x.lv po):=rfl;have v:=jg8 j.1<|k.lv po;generalize got (x.ow cl) (x.lv po)=g at *
 let m:Fl:={x with lv:=put x.lv po (x.lv po-g)}
 let n:Fl:={m with ow:=put x.ow cl (x.ow cl-g)}
 let a:Fl:={n with en:=x.en++[⟨pl,xK,cl,x.ow cl,g⟩]}
 have q:(x.en++[(⟨pl,xK,cl,x.ow cl,g⟩:En)]).length=x.en.length+1:=by simp
 refine⟨a,⟨pl,xK,cl,x.ow cl,g⟩,?_,⟨k.sz,jal k.ow ∅ ∅,jaw k.lv ∅,k.ln,k.mv,k.c0,k.c1,by lia,by lia,Yk k.ek ⟨λ_=>h2,by show Ch xK;unfold Ch;decide,h.cw h2⟩,by rw[yG,yU,if_pos<|by show xK∈CK6;decide,uq h.marksn h1];have:=k.js;dsimp only;lia⟩,rfl,rfl⟩;have r:=jiG (p:=p) (x:=x) (o:=true);have s:=yr (o:=true) (f:=x.ow) h2;have t:=jpd (p:=p) (x:=x) (o:=true);have u:=yr (o:=true) (f:=x.lv) h1;show((ve [some<|jB p true x,some<|.int pl,some<|.str po,some<|.str cl,none,none]).bind (YN 0))=_;have e:ve [some<|jB p true x,some<|.int pl,some<|.str po,some<|.str cl,none,none]=some (.nx [some<|jB p true a,some<|.int pl,some<|.str po,some<|.str cl,some<|.int<|x.ow cl,some<|.int g]):=by
  apply sq (ρ':=[some<|jB p true x,some<|.int pl,some<|.str po,some<|.str cl,some<|.int<|x.ow cl,none]) (by generalize jB p true x=X at *;generalize dct true p.C x.ow=D1 at *;simp[r,s]);apply sq (ρ':=[some<|jB p true x,some<|.int pl,some<|.str po,some<|.str cl,some<|.int<|x.ow cl,some<|.int g]) (by generalize jB p true x=X at *;generalize dct true p.P x.lv=D2 at *;simp[t,u,l]);apply sq<|jnE rfl rfl rfl h1 i;apply sq<|jfp rfl rfl rfl h2 d;exact zr rfl (by rfl) ∅
 rw[e];rfl
def jbC{p}{x:Fl}{N}{c B}{f}{ts}{a1 a2}{A:List Int}(h:jd ts (.int 0)=↑(A.map D.int))(i:∀ v∈A,0<=v):∀{Q:List W2}{s}{x}{o4 o5 o6 o7},(∀ q∈Q,q.1∈p.C/\Ch q.1)->FlOk p N c B f J x->s+Q.length=A.length->x.en.length+Q.length<=900 ->
  Ex6 λx' es o4' o5' o6' o7'=>An4 (j8 (gT 2<|gC (jc [0] 4)<|gC (jc [0] 5) gN) vS (vh s<|Q.map e2) [some<|jB p true x,a1,a2,some ts,o4,o5,o6,o7]=some (.nx [some<|jB p true x',a1,a2,some ts,o4',o5',o6',o7'])) (FlOk p N c B f J x') (x'.en=x.en++es) (es.length=Q.length):=by
 intro Q
 induction Q with
 | nil=>
  intro s x o4 o5 o6 o7 _ k _ _;exact⟨x,[],o4,o5,o6,o7,rfl,k,by simp,rfl⟩
 | cons q Q r=>
  intro s x o4 o5 o6 o7 j k t l;rw[M3] at t l;have a:s<A.length:=by lia
  have b:jd (.lst true<|A.map D.int) (.int s)=some (.int A[s]):=by
   rw[jdy ∅ (by rw[L1];lia),U0,List.getElem?_map,E1 a];rfl
  have d:=i _<|List.getElem_mem a;generalize A[s]=ask at b d;have c0:=k.c0;have c1:=k.c1;have svl:=k.svl;have mvl:=k.mvl;have u:xP [.int ask,.int x.cash]=some (.int<|got ask x.cash):=rfl;have I:0<=got ask x.cash/\got ask x.cash<=ask/\got ask x.cash<=x.cash:=by unfold got;split<;>lia
  generalize got ask x.cash=g at *
  let w:Fl:={x with cash:=x.cash-g}
  let y:Fl:={w with en:=x.en++[⟨s,jcF,q.1,ask,g⟩]}
  have z:(x.en++[(⟨s,jcF,q.1,ask,g⟩:En)]).length=x.en.length+1:=by simp
  have E:FlOk p N c B f J y:=⟨k.sz,k.ow,k.lv,k.ln,k.mv,by lia,by lia,by lia,by lia,Yk k.ek ⟨λ_=>(j q<|by simp).1,by show Ch jcF;unfold Ch;decide,(j q<|by simp).2⟩,by rw[yG,yU,if_pos<|by show jcF∈CK6;decide];have:=k.js;dsimp only;lia⟩;obtain⟨x',es,o4',o5',o6',o7',e,F,m,n⟩:=r (s:=s+1) (λq G=>j q<|by simp[G]) E ∅ ∅;refine⟨x',⟨s,jcF,q.1,ask,g⟩::es,o4',o5',o6',o7',?_,F,by rw[m];show(x.en++[_])++es=_;simp,by rw[M3,M3,n]⟩;have H:=Qa (p:=p) (x:=x) (o:=true);rw[L5,vh,lpF ?_,e];apply sq (ρ':=[some<|jB p true x,a1,a2,some ts,some<|.int s,some<|e2 q,some<|.int ask,o7]) (by generalize jB p true x=X at *;simp[h,b]);apply sq (ρ':=[some<|jB p true x,a1,a2,some ts,some<|.int s,some<|e2 q,some<|.int ask,some<|.int g]) (by generalize jB p true x=X at *;simp[H,u]);apply sq<|wD rfl rfl;exact zr rfl (by rfl) ∅
def jgl{C P O}{os:List OrdS}(h:∀ x∈os,OrdOk C P O x):fzs (os.map<|yn false)=os.map (yn false):=jH _<|vq h
def jbF:∀{os:List OrdS}{o2},(∀ x∈os,OrdOk C P O x)->nm∈os.map (·.nm) ->
  ∃ o∈os,o.nm=nm/\∃ r,j8 (jc [] 2) yp (os.map<|yn false) [a0,some<|.str nm,o2]=some (.rt (yn false o) r):=by
 intro os
 induction os with
 | nil=>
  intro o2 _ h;simp at h
 | cons o os f=>
  intro o2 c h;have d:jd (yn false o) (.int 0)=some (.str o.nm):=rfl;by_cases q:o.nm=nm
  ·refine⟨o,by simp,q,[a0,some<|.str nm,some<|yn false o],?_⟩;have a:(o.nm==nm)=true:=by lia
   rw[L5,yz];simp[yp,d,a,(c o<|by simp).frz]
  ·have a:=U4.mpr q;have g:nm∈os.map (·.nm):=by grind
   obtain⟨i,b,j,r,e⟩:=f (λx k=>c x<|by simp[k]) g;refine⟨i,by simp[b],j,r,?_⟩;have l:yp [a0,some<|.str nm,some<|yn false o]=some (.nx [a0,some<|.str nm,some<|yn false o]):=by
    simp[yp,d,a]
   rw[L5,lpE ?_ l,e];rfl
def jfO{p}{O}(h:PoolOk O p){nm}(a:nm∈p.orders.map (·.nm)):∃ o∈p.orders,o.nm=nm/\vI [jL false p,.str nm]=some (yn false o):=by
 obtain⟨o,b,c,r,e⟩:=jbF (a0:=some<|jL false p) (o2:=none) h.orders a;refine⟨o,b,c,?_⟩;have d:jd (jL false p) (.int 4)=‹p.orders.map (yn false)›:=rfl;simp[vI,jy,J3,d,vq h.orders,jgl h.orders,e]
theorem xb:∀{ns}{l},f∉ns->ns.length=l.length->Jl ns l f v=(ns++[f],l++[v])
 | [],[],_,_=>rfl
 | [],_::_,_,e=>by simp at e
 | _::_,[],_,e=>by simp at e
 | n::ns,x::l,h,e=>by rw[Jl,if_neg λz=>h<|by simp[z],xb (λz=>h<|by simp[z]) ⇑e];rfl
def kq{f}{pv}{r:Rh}{ns}{l}{v}(a:pv (some (.ins true 0 ns l)::r)=some v)(h:f∉ns/\ns.length<=900:=by decide)(e:ns.length=l.length:=by rfl):J1 0 0 f pv (some (.ins true 0 ns l)::r)=some (.nx<|some (.ins true 0 (ns++[f])<|l++[v])::r):=by
 rw[J1,a,L4];show(bif (0==0)&&decide (ns.length<=900) then some (Out.nx<|some (D.ins true 0 (Jl ns l f v).1 (Jl ns l f v).2)::r) else none)=_;rw[xb h.1 e,X5 h.2];rfl
def jit{p}{O}(h:PoolOk O p){S W Rn Lv}{z c}{ln}(a:S.map (·.1)=p.C)(b:W.map (·.1)=p.C)(d:Lv.map (·.1)=p.P)(f:(ln.map (·.1)).Nodup)(e:ln.length<=1000):
  yT [.ins true 0 [] [],jL false p,bkD false S W Rn Lv z,.int c,.lst false<|ln.map eR]=some (.non,jB p true ⟨fnOf S,fnOf W,fnOf Lv,ln,c,[],[],[]⟩):=by
 have t:=h.told2;have u:=h.marks2;have w:S.length<=10:=by have:=congrArg List.length a;rw[L1,L1] at this;lia
 have x:W.length<=10:=by have:=congrArg List.length b;rw[L1,L1] at this;lia
 have y:Lv.length<=10:=by have:=congrArg List.length d;rw[L1,L1] at this;lia
 have g:yY [.lst false<|p.marks.map e2]=some (dct true p.P<|fnOf p.marks):=yo h.marksn ∅;have i:yY [.lst false<|S.map e2]=some (dct true p.C<|fnOf S):=by rw[<- a];exact yo (by rw[a];exact h.toldn) ∅
 have j:yY [.lst false<|W.map e2]=some (dct true p.C<|fnOf W):=by rw[<- b];exact yo (by rw[b];exact h.toldn) ∅
 have k:yY [.lst false<|Lv.map e2]=some (dct true p.P<|fnOf Lv):=by rw[<- d];exact yo (by rw[d];exact h.marksn) ∅
 have eL:=jeR f e;have l:=zS ln;have m:jd (bkD false S W Rn Lv z) (.int 0)=‹S.map e2›:=rfl;have n:jd (bkD false S W Rn Lv z) (.int 1)=‹W.map e2›:=rfl;have o:jd (bkD false S W Rn Lv z) (.int 3)=‹Lv.map e2›:=rfl;have q:jd (jL false p) (.int 0)=some (.str p.nm):=rfl;have r:jd (jL false p) (.int 2)=‹p.marks.map e2›:=rfl;generalize bkD false S W Rn Lv z=BK,jL false p=PP at *;show _=some (D.non,D.ins true 0 NS [.str p.nm,dct true p.P<|fnOf p.marks,dct true p.C<|fnOf S,dct true p.C<|fnOf W,dct true p.P<|fnOf Lv,dLn true ln,.int c,.dK true [] [],.lst true [],.lst true []]);generalize dct true p.P (fnOf p.marks)=a1,dct true p.C (fnOf S)=a2,dct true p.C (fnOf W)=a3,dct true p.P (fnOf Lv)=a4,dLn true ln=a5 at *;have s:qu [some<|.ins true 0 [] [],some PP,some BK,some<|.int c,‹ln.map eR›]=some (.nx [some<|.ins true 0 NS [.str p.nm,a1,a2,a3,a4,a5,.int c,.dK true [] [],.lst true [],.lst true []],some PP,some BK,some<|.int c,‹ln.map eR›]):=by
  apply sq<|kq (v:=.str p.nm) (by simp[q]);apply sq<|kq (v:=a1) (by simp[r,g]);apply sq<|kq (v:=a2) (by simp[m,i]);apply sq<|kq (v:=a3) (by simp[n,j]);apply sq<|kq (v:=a4) (by simp[o,k]);apply sq<|kq (v:=a5) (by simp[eL,l,JQ]);apply sq<|kq (v:=.int c) (by simp);apply sq<|kq rfl;apply sq<|kq (v:=.lst true []) (by rfl);exact kq (by rfl)
 exact congrArg (Option.bind · (YN 0)) s
def joy(o)(w):∀ l:List (List Nat),∃ b,jbn true (.str w) (dSv o l)=some (.bl b):=λl=>⟨_,rfl⟩
def wE(t:NC.length<=1000)  : ∀{R:List W2}{acc}{o4 o5 o6},(∀ q∈R,q.1∈NC/\0<=q.2)->acc.length+R.length<=1000 ->
  Ex4 λ(R':List W2) o4' o5' o6'=>An3 (j8 (gT 2<|gC (jc [] 4)<|gC (jc [] 5) gN) jF (R.map e2) [some<|jB p false x,a1,some<|dct true NC f,↑(acc.map e2),o4,o5,o6]=some (.nx [some<|jB p false x,a1,some<|dct true NC f,↑((acc++R').map e2),o4',o5',o6'])) (R'.map (·.1)=R.map (·.1)) (∀ q∈R',0<=q.2):=by
 intro R
 induction R with
 | nil=>
  intro acc o4 o5 o6 _ _;exact⟨[],o4,o5,o6,by simp,rfl,by simp⟩
 | cons q R u=>
  intro acc o4 o5 o6 c v;rw[M3] at v;obtain⟨b,m⟩:=joy false q.1 x.sv;have n:=joN (p:=p) (x:=x) (o:=false);have g:=yr (o:=true) (f:=f) (c q<|by simp).1;have key:∃ d o6',jF [some<|jB p false x,a1,some<|dct true NC f,↑(acc.map e2),some<|.str q.1,some<|.int q.2,o6]=some (.nx [some<|jB p false x,a1,some<|dct true NC f,↑((acc++[d]).map e2),some<|.str q.1,some<|.int q.2,o6'])/\d.1=q.1/\0<=d.2:=by
   by_cases s:0<f q.1
   ·cases b with
    | true=>exact⟨(q.1,q.2+1),some<|.bl true,by simp(disch:=first | lia | (simp;done) | (simp;lia)) [jF,g,n,m,s,jb,e2],rfl,by have:=(c q<|by simp).2;dsimp only;lia⟩
    | false=>exact⟨(q.1,0),some<|.bl false,by simp(disch:=first | lia | (simp;done) | (simp;lia)) [jF,g,n,m,jb,e2],rfl,Int.le_refl _⟩
   ·exact⟨(q.1,0),some<|.bl false,by simp(disch:=first | lia | (simp;done) | (simp;lia)) [jF,g,s,jb,e2],rfl,Int.le_refl _⟩
  obtain⟨d,o6',h,hd,i⟩:=key;obtain⟨R',o4',o5',a,e,j,k⟩:=u (acc:=acc++[d]) (λr l=>c r<|by simp[l]) (by simp;lia);refine⟨d::R',o4',o5',a,?_,by rw[L5,L5,j,hd],λr l=>(M5.mp l).elim (λz=>by rw[z];exact i) (k r)⟩;rw[L5,lpE ?_ h,e];simp;rfl
def Yj(h:po ρ=some (dct o M f)):yH po ρ=↑((sz' M f).map e2):=by
 unfold yH;rw[h];show(bif frzs (M.map λn=>D.int<|f n) then some (D.lst true<|((M.map KA.str).zip (M.map λn=>D.int<|f n)).map λp=>D.tup [kaD p.1,p.2]) else none)=_;rw[jaL,zN];simp[sz',e2]
def jfz{x}{O}(h:PoolOk O p){S W Rn Lv}{z}(a:S.map (·.1)=p.C)(b:Rn.map (·.1)=p.C)(c:∀ q∈Rn,0<=q.2):
  ∃ R',An3 (R'.map (·.1)=p.C) (∀ q∈R',0<=q.2) (jO [jB p false x,bkD false S W Rn Lv z]=some (bkD true (sz' p.C x.sz) (sz' p.C x.ow) R' (sz' p.P x.lv) z)):=by
 have w:=h.told2;have y:S.length<=10:=by have:=congrArg List.length a;rw[L1,L1] at this;lia
 have A:Rn.length<=10:=by have:=congrArg List.length b;rw[L1,L1] at this;lia
 have j:yY [.lst false<|S.map e2]=some (dct true p.C<|fnOf S):=by rw[<- a];exact yo (by rw[a];exact h.toldn) ∅
 obtain⟨R',k,l,m,e,d,g⟩:=wE (p:=p) (x:=x) (NC:=p.C) (f:=fnOf S) (by rw[L1];lia) (a1:=some<|bkD false S W Rn Lv z) (acc:=[]) (o4:=none) (o5:=none) (o6:=none) (λq i=>⟨by rw[<- b];exact M7.mpr ⟨q,i,rfl⟩,c q i⟩) (by simp;lia);rw[X9,List.map_nil] at e;refine⟨R',by rw[d,b],g,?_⟩;have n:jd (bkD false S W Rn Lv z) (.int 0)=‹S.map e2›:=rfl;have o:jd (bkD false S W Rn Lv z) (.int 2)=‹Rn.map e2›:=rfl;have s:jd (bkD false S W Rn Lv z) (.int 4)=some (.int z):=rfl;have t:∀ r:Rh,yH (JD 0 "sizes"<|pV 0) (some (jB p false x)::r)=↑((sz' p.C x.sz).map e2):=λr=>Yj rfl;have u:∀ r:Rh,yH (JD 0 "owed"<|pV 0) (some (jB p false x)::r)=↑((sz' p.C x.ow).map e2):=λr=>Yj rfl;have v:∀ r:Rh,yH (JD 0 "levels"<|pV 0) (some (jB p false x)::r)=↑((sz' p.P x.lv).map e2):=λr=>Yj rfl;show _=some (D.tup [.lst true<|(sz' p.C x.sz).map e2,.lst true<|(sz' p.C x.ow).map e2,.lst true<|R'.map e2,.lst true<|(sz' p.P x.lv).map e2,.int z]);simp(disch:=first | lia | (simp;done) | (simp;lia)) [jO,jy,v7,n,o,s,j,ya,JO,e,t,u,v,jb,-yH]
def jbs{Q:List W2}(h:PoolOk O p)(k:FlOk p N c B L0 J x)(M:c<=2 ^ 900)  (l:∀ q∈Q,Wd q.1/\1<=q.2/\q.2<=10/\q.1∈p.C) (m:Q.length<=10) (F:x.en.length<=100):
  Ex2 λx' es=>An4 (jS [jB p true x,.lst false<|Q.map e2]=some (.non,jB p true x')) (FlOk p N c B L0 J x') (x'.en=x.en++es) (es.length<=11):=by
 have c0:=k.c0;have c1:=k.c1;have t:∀ q∈Q,PtOk q:=λq g=>⟨(l q g).2.1,(l q g).2.2.1⟩;have u:=jgJ m t c0 ∅;have R:=je6 (P:=Q) (c:=x.cash);obtain⟨b,es,v,w,y,z,e,a,f,G⟩:=jbC (ts:=.tup [.lst true<|(yN Q x.cash).1.map D.int,.int (yN Q x.cash).2]) (a1:=‹Q.map e2›) (a2:=some<|.int x.cash) rfl (jjA t c0) (s:=0) (x:=x) (o4:=none) (o5:=none) (o6:=none) (o7:=none) (λq g=>⟨(l q g).2.2.2,(l q g).1.2⟩) k ∅ ∅;have j:=Qa (p:=p) (x:=x) (o:=true);have H:jd (.tup [.lst true<|(yN Q x.cash).1.map D.int,.int (yN Q x.cash).2]) (.int 0)=↑((yN Q x.cash).1.map D.int):=rfl;have A:jd (.tup [.lst true<|(yN Q x.cash).1.map D.int,.int (yN Q x.cash).2]) (.int 1)=some (.int (yN Q x.cash).2):=rfl;by_cases E:0<(yN Q x.cash).2
 ·let d:En:=⟨-1,jam,[],(yN Q x.cash).1.sum,x.cash⟩
  let n:Fl:={b with en:=b.en++[d]}
  have S:(b.en++[d]).length=b.en.length+1:=by simp
  have I:=a.svl;have K:=a.mvl;refine⟨n,es++[d],?_,⟨a.sz,a.ow,a.lv,a.ln,a.mv,a.c0,a.c1,by lia,by lia,Yk a.ek ⟨λq=>absurd q<|by show ¬ jam∈CK;decide,by show Ch jam;unfold Ch;decide,λ_ h=>nomatch h⟩,by rw[yG,yU,if_neg<|by show ¬ jam∈CK6;decide];have:=a.js;lia⟩,by show b.en++[d]=_;rw[f];simp,by simp;lia⟩;have r:b.en.length<=1000:=by rw[f,N6];lia
  have s2:=zr (ρ:=[some<|jB p true b,‹Q.map e2›,some<|.int x.cash,some<|.tup [.lst true<|(yN Q x.cash).1.map D.int,.int (yN Q x.cash).2],v,w,y,z]) (i:=0) (pv:=yD #[p1 V2<|pI 1,pS [116,119,105,99,101],pS [],pCB Yp #[p2 jd (pV 3)<|pI 0],pF<|pV 2]) (e:=d) rfl (by simp[jb,e5,d,H]) r;have L:jB p true {b with en:=b.en++[d]}=jB p true n:=rfl;rw[L] at s2
  clear_value n d
  simp[jS,vY,vg,j,u,ya,JO,e,A,E,s2,YN,-qr]
 ·refine⟨b,es,?_,a,f,by lia⟩;simp[jS,vY,vg,j,u,ya,JO,e,A,E,YN]
def jgN (h : PoolOk O p) (s : ∀ w ∈ O, w ∈ N) (t : p.nm ∈ N) (v : N.length <= 6) (y : LnOk N L0) (z : B <= 10 ^ 20) (A : c <= 2 ^ 900)  (k : FlOk p N c B L0 J x)  (E : RuleS p.C p.P O d)  (F : x.en.length <= 800)
     : ∃ x' es,Jj [a0,a1,a2,a3,a4,a5,some<|jB p true x,some<|.int pl,some d,a9]=some (.nx [a0,a1,a2,a3,a4,a5,some<|jB p true x',some<|.int pl,some d,a9])/\FlOk p N c B L0 J x'/\x'.en=x.en++es/\es.length<=20/\∀ w,d=.tup [.str Vq,.str w]->x'.cash=0:=by
 have a:∀{kw w},((d=.tup [.str kw,.str w]/\jdI p.C p.P O kw w)\/(∃ j,kw=qp/\d=.tup [.str kw,.str w,.int j]/\w∈O))->(kw==vE)=false->Ch w->jd d (.int 0)=some (.str kw)->frz d=true->fz d=d ->
   ∃ x' es,Jj [a0,a1,a2,a3,a4,a5,some<|jB p true x,some<|.int pl,some d,a9]=some (.nx [a0,a1,a2,a3,a4,a5,some<|jB p true x',some<|.int pl,some d,a9])/\FlOk p N c B L0 J x'/\x'.en=x.en++es/\es.length<=20/\∀ w,d=.tup [.str Vq,.str w]->x'.cash=0:=by
  intro kw w hd l n b f G;obtain⟨x',e,ex,o,H,I⟩:=jb2 (pl:=pl) h s t v y k hd n ∅;refine⟨x',[e],?_,o,H,by simp,λu q=>I<|by rw[q] at b;cases b;rfl⟩;have m:=J9 (m:=jw) (mn:="take_rule") (pa:=#[pF<|pV 7,pF<|pV 8]) (ρ:=[a0,a1,a2,a3,a4,a5,some<|jB p true x,some<|.int pl,some d,a9]) (i:=6) (ds:=[.int pl,d]) rfl (by simp[f]) (by simp[f])<|λ_ _ _ _ _ _ _ _ _ _=>rfl;rw[ex,L4] at m;simp[Jj,b,l,m,-va]
 cases E with
 | two kw w l Q K g=>
  exact a (.inl ⟨rfl,g⟩) (U4.mpr l) K.2 rfl rfl rfl
 | lend w i r g=>exact a (.inr ⟨i,rfl,rfl,g⟩) rfl r.2 rfl rfl rfl
 | share ws L r g nd=>
  obtain⟨x',es,ex,o,bl,M⟩:=jbc h k z A (N9 L<|by decide) g nd ∅;refine⟨x',es,?_,o,bl,by lia,λu q=>by cases q⟩;have m:=J9 (m:=jT) (mn:="take_share") (pa:=#[pF<|pV 7,pF<|p2 jd (pV 8)<|pI 1]) (ρ:=[a0,a1,a2,a3,a4,a5,some<|jB p true x,some<|.int pl,some<|.tup [.str vE,.tup<|ws.map D.str],a9]) (i:=6) (ds:=[.int pl,.tup<|ws.map D.str]) rfl (by simp[jjj]) (by simp)<|λ_ _ _ _ _ _ _ _ _ _=>rfl;rw[ex,L4] at m;have b:jd (.tup [.str vE,.tup<|ws.map D.str]) (.int 0)=some (.str vE):=rfl;simp[Jj,b,m,-va]
def jbd(h:PoolOk O p)(l:∀ w∈O,w∈N)(m:p.nm∈N)(n:N.length<=6)(o:LnOk N L0)(q:B<=10 ^ 20)(r:c<=2 ^ 900)  : ∀{R}{s}{x}{o7 o8},(∀ d∈R,RuleS p.C p.P O d)->FlOk p N c B L0 J x->x.en.length+20*R.length<=800 ->
  Ex4 λx' es o7' o8'=>An6 (j8 (gT 2<|gC (jc [] 7)<|gC (jc [] 8) gN) Jj (YW s R) [a0,a1,a2,a3,a4,a5,some<|jB p true x,o7,o8,a9]=some (.nx [a0,a1,a2,a3,a4,a5,some<|jB p true x',o7',o8',a9])) (FlOk p N c B L0 J x') (x'.en=x.en++es) (es.length<=20*R.length) (R=[]->x'=x) (∀ R0 w,R=R0++[.tup [.str Vq,.str w]]->x'.cash=0):=by
 intro R
 induction R with
 | nil=>
  intro s x o7 o8 _ k _;exact⟨x,[],o7,o8,rfl,k,by simp,by simp,λ_=>rfl,λR0 w z=>by simp at z⟩
 | cons d R t=>
  intro s x o7 o8 j k f;rw[M3] at f;obtain⟨D,g,u,v,b,E,y⟩:=jgN h l m n o q r k (j d<|by simp) ∅;obtain⟨x',es,o7',o8',e,A,i,F,w1,w2⟩:=t (λd hd=>j d<|by simp[hd]) v (by rw[b,N6];lia);refine⟨x',g++es,o7',o8',?_,A,by rw[i,b,List.append_assoc],by rw[N6,M3];lia,λ(z:d::R=[])=>(nomatch z),λR0 w z=>?_⟩
  rotate_left
  ·cases R0 with
   | nil=>
    cases z;rw[w1 rfl];exact y w rfl
   | cons a R0=>
    cases z;exact w2 R0 w rfl
  rw[YW,lpE ?_ u,e];rfl
def wZ(h:PoolOk O p)  : ∀{G:List WG}{s}{x}{o7 o9},(∀ g∈G,g.1∈p.P/\g.2∈p.C)->FlOk p N c B L0 J x->x.en.length+G.length<=900 ->
  Ex4 λx' es o7' o9'=>An5 (j8 (gT 2<|gC (jc [] 7)<|gC (jc [] 9) gN) KI (vh s<|G.map eG) [a0,a1,a2,a3,a4,a5,some<|jB p true x,o7,a8,o9]=some (.nx [a0,a1,a2,a3,a4,a5,some<|jB p true x',o7',a8,o9'])) (FlOk p N c B L0 J x') (x'.en=x.en++es) (es.length=G.length) (x'.cash=x.cash):=by
 intro G
 induction G with
 | nil=>
  intro s x o7 o9 _ k _;exact⟨x,[],o7,o9,rfl,k,by simp,rfl,rfl⟩
 | cons g G j=>
  intro s x o7 o9 b k d;rw[M3] at d;obtain⟨u,l,ex,n,a,c1⟩:=jbv h k (b g<|by simp).1 (b g<|by simp).2 ∅;obtain⟨x',es,o7',o9',e,o,f,q,r⟩:=j (o7:=some<|.int s) (o9:=some<|eG g) (λg t=>b g<|by simp[t]) n (by rw[a,N6,List.length_singleton];lia);refine⟨x',l::es,o7',o9',?_,o,by rw[f,a];simp,by rw[M3,q,M3],r.trans c1⟩;have m:=J9 (m:=yB) (mn:="take_guard") (pa:=#[pF<|pV 7,pF<|p2 jd (pV 9)<|pI 0,pF<|p2 jd (pV 9)<|pI 1]) (ρ:=[a0,a1,a2,a3,a4,a5,some<|jB p true x,some<|.int s,a8,some<|eG g]) (i:=6) rfl (by rfl) rfl<|λ_ _ _ _ _ _ _ _ _ _=>rfl;rw[ex,L4] at m;rw[L5,vh,lpF ?_,e];simp[KI,m,-va]
def jlj(a:pV i ρ=some (jB p true x))(b:pe ρ=some r):jkT i 0 "entries" "moves" pe ρ=some (.tup [.lst true<|x.en.map e5,r,.lst true<|x.mv.map eM],ρ.set i none):=by
 rw[jkT,a,L4];have c:xl (jB p true x)=some (0,NS,[.str p.nm,dct true p.P<|fnOf p.marks,dct true p.C x.sz,dct true p.C x.ow,dct true p.P x.lv,dLn true x.ln,.int x.cash,dSv true x.sv,.lst true<|x.en.map e5,.lst true<|x.mv.map eM]):=rfl;rw[c,L4,jqy,jqu,b];rfl
structure BkOk(p:PoolS)(B:Int)(S W Rn Lv:List W2):Prop where
 s1:S.map (·.1)=p.C
 s2:∀ q∈S,0<=q.2
 w1:W.map (·.1)=p.C
 w2:∀ q∈W,0<=q.2/\q.2<=B
 r1:Rn.map (·.1)=p.C
 l1:Lv.map (·.1)=p.P
 l2:∀ q∈Lv,0<=q.2
 r2:∀ q∈Rn,0<=q.2
def uk{B}{S:List W2}(a:0<=B)(h:∀ q∈S,q.2<=B)(n):fnOf S n<=B:=by
 unfold fnOf
 induction S with
 | nil=>exact a
 | cons q S b=>
  rw[lkp];by_cases e:q.1=n
  ·rw[if_pos e];exact h q (by simp)
  ·rw[if_neg e];exact b λr c=>h r (by simp[c])
def jiS{p:PoolS}{N O:W1}{c B:Int}{a:LN}(h:PoolOk O p)(hO:∀ w∈O,w∈N)(hn:p.nm∈N)(X:N.length<=6)(F:LnOk N a)(G:0<=B)(hB:B<=10 ^ 20)(H:0<=c)(Y:c<=2 ^ 900){S W Rn Lv:List W2}{z:Int}(b:BkOk p B S W Rn Lv){nm:List Nat}(hm:nm∈p.orders.map (·.nm)):
  Ex3 λ(x:Fl) (es:List En) (R':List W2)=>An9 (jaj [jL false p,.str nm,bkD false S W Rn Lv z,.int c,.lst false<|a.map eR]=some (.tup [.lst true<|es.map e5,bkD true (sz' p.C x.sz) (sz' p.C x.ow) R' (sz' p.P x.lv) z,.lst true<|x.mv.map eM])) (FlOk p N c B a (c+lvS p.P (fnOf Lv)) x) (R'.map (·.1)=p.C) (∀ q∈R',0<=q.2) (es.length<=300) (x.mv.length<=300) (∀ e∈es,EnOk p.C e) (x.cash=0) (x.en=es):=by
 obtain⟨o,ho,Z,en⟩:=jfO h hm;have j:=h.orders o ho;have hll:=F.len X;have ei:=jit h (c:=c) (z:=z) (Rn:=Rn) b.s1 b.w1 b.l1 F.nd ∅;have k0:FlOk p N c B a (c+lvS p.P (fnOf Lv)) ⟨fnOf S,fnOf W,fnOf Lv,a,c,[],[],[]⟩:=⟨YA b.s2,λn=>⟨YA (λq I=>(b.w2 q I).1) n,uk G (λq I=>(b.w2 q I).2) n⟩,YA b.l2,rfl,trivial,H,Int.le_refl _,by simp,by simp,by simp,by simp[vA,jbq]⟩;have d:(⟨fnOf S,fnOf W,fnOf Lv,a,c,[],[],[]⟩:Fl).en=[]:=rfl;generalize(⟨fnOf S,fnOf W,fnOf Lv,a,c,[],[],[]⟩:Fl)=x0 at ei k0 d;obtain⟨x1,es,e1,k1,t,esl⟩:=jbs h k0 Y j.parts j.plen (by rw[d];simp);have x1l:x1.en.length<=11:=by rw[t,d,X9];lia
 have rl:=j.len;obtain⟨x2,u,J,E,K,k2,v,n2,_,c2⟩:=jbd h hO hn X F hB Y (a0:=some<|jL false p) (a1:=some<|.str nm) (a2:=some<|bkD false S W Rn Lv z) (a3:=some<|.int c) (a4:=‹a.map eR›) (a5:=some<|yn false o) (a9:=none) (s:=o.parts.length) (o7:=none) (o8:=none) j.rules k1 ∅;have g2:=h.guards2;obtain⟨r,L,p7,p9,M,Q,T,n3,c3⟩:=wZ h (a0:=some<|jL false p) (a1:=some<|.str nm) (a2:=some<|bkD false S W Rn Lv z) (a3:=some<|.int c) (a4:=‹a.map eR›) (a5:=some<|yn false o) (a8:=E) (s:=0) (o7:=J) (o9:=none) (λg hg=>(h.guards g hg).2.2) k2 (by rw[v,N6];lia);obtain⟨R',U,V,eb⟩:=jfz h b.s1 b.r1 b.r2;have y:(es++(u++L)).length<=300:=by
  simp only[N6]
  lia
 have f:r.en=es++(u++L):=by rw[T,v,t,d];simp
 have mvl:=Q.mvl;refine⟨r,es++(u++L),R',?_,Q,U,V,y,by rw[f] at mvl;lia,by rw[<- f];exact Q.ek,by obtain⟨R,w,u⟩:=j.rest;exact c3.trans<|c2 R w u,f⟩;have i1:jd (yn false o) (.int 1)=‹o.parts.map e2›:=rfl;have i2:jd (yn false o) (.int 2)=‹o.rules›:=rfl;have j6:jd (jL false p) (.int 6)=‹p.guards.map eG›:=rfl;have k:=h.frz;have A:=Jz S W Rn Lv z;have m1:=J9 (m:=jS) (mn:="take_parts") (pa:=#[pF<|p2 jd (pV 5)<|pI 1]) (ρ:=[some<|jL false p,some<|.str nm,some<|bkD false S W Rn Lv z,some<|.int c,‹a.map eR›,some<|yn false o,some<|jB p true x0,none,none,none]) (i:=6) (ds:=[.lst false<|o.parts.map e2]) rfl (by simp[i1,ya]) (by simp[ya])<|λ_ _ _ _ _ _ _ _ _ _=>rfl;rw[e1,L4] at m1;have D:∀ ρ:Rh,#[pF<|p2 jd (pV 5)<|pI 2] ρ=some [.lst false o.rules]->pCB qx #[p2 jd (pV 5)<|pI 1] ρ=some (.int o.parts.length)->jly #[pF<|p2 jd (pV 5)<|pI 2] (pCB qx #[p2 jd (pV 5)<|pI 1]) ρ=some (YW o.parts.length o.rules):=by
  intro ρ q1 q2;unfold jly;rw[q1,q2];have:=j.plen;show(bif Kt o.parts.length then some (YW _<|fzs o.rules) else none)=_;rw[zJ ∅ ∅,j.fzr];rfl
 have mm:=jdR (p:=p) (x:=r) (o:=true) (m:=jO) (mn:="book_behind") (po:=pV 6) (pa:=#[pV 2]) (ρ:=[some<|jL false p,some<|.str nm,some<|bkD false S W Rn Lv z,some<|.int c,‹a.map eR›,some<|yn false o,some<|jB p true r,p7,E,p9]) (ds:=[bkD false S W Rn Lv z]) rfl (by simp) (λ_ _ _ _ _ _ _ _ _ _=>rfl) (by rw[show fzs [bkD false S W Rn Lv z]=[bkD false S W Rn Lv z] by rw[fzs,YK false S W Rn Lv z];rfl];exact eb)<|Vu _ _ _ _ _;have m3:=jlj (p:=p) (x:=r) (i:=6) (pe:=Yo jO 0 "book_behind" (pV 6) #[pV 2]) (ρ:=[some<|jL false p,some<|.str nm,some<|bkD false S W Rn Lv z,some<|.int c,‹a.map eR›,some<|yn false o,some<|jB p true r,p7,E,p9]) rfl mm;rw[f] at m3;have l:jbP yT 0 #[pF<|pV 0,pF<|pV 2,pF<|pV 3,pF<|pV 4] [some<|jL false p,some<|.str nm,some<|bkD false S W Rn Lv z,some<|.int c,‹a.map eR›,some<|yn false o,none,none,none,none]=some (jB p true x0):=by
  rw[jbP];have:#[pF<|pV 0,pF<|pV 2,pF<|pV 3,pF<|pV 4] [some<|jL false p,some<|.str nm,some<|bkD false S W Rn Lv z,some<|.int c,‹a.map eR›,some<|yn false o,none,none,none,none]=some [jL false p,bkD false S W Rn Lv z,.int c,.lst false<|a.map eR]:=by simp[k,A,vO]
  rw[this,L4,ei];simp[k,A,vO]
 simp[jaj,jy,jhk,en,h.fz false,k,l,m1,D [some<|jL false p,some<|.str nm,some<|bkD false S W Rn Lv z,some<|.int c,‹a.map eR›,some<|yn false o,some<|jB p true x1,none,none,none] (by simp[i2,j.frzr])<|by simp[i1],K,j6,uu,jhG,M,m3,-va,-jbP,-jkT,-Yo]
def jfK:Nat->List (List Nat)->(List Nat->Int)->Int->List En
 | _,[],_,_=>[]
 | k,c::E,f,L=>⟨k,jkR,c,L,got L<|f c⟩::jfK (k+1) E (put f c<|f c-got L (f c)) (L-got L (f c))
theorem jhr:∀ E k f L,jkx k E f L=(jfK k E f L).map e5
 | [],_,_,_=>rfl
 | c::E,k,f,L=>by rw[jkx,jfK,jhr E,L5];rfl
theorem jax:∀ E k f L,(jfK k E f L).length=E.length
 | [],_,_,_=>rfl
 | c::E,k,f,L=>by rw[jfK,M3,M3,jax E]
theorem jdg{C}:∀ E k f L,(∀ w∈E,w∈C/\Ch w)->∀ e∈jfK k E f L,EnOk C e
 | [],_,_,_,_,_,h=>by cases h
 | c::E,k,f,L,a,e,h=>by
  rcases M5.mp h with rfl | h
  ·exact⟨λ_=>(a c<|by simp).1,by show Ch jkR;unfold Ch;decide,(a c<|by simp).2⟩
  ·exact jdg E _ _ _ (λw b=>a w<|by simp[b]) e h
theorem xg:∀ E k f L,vA (jfK k E f L)=0
 | [],_,_,_=>rfl
 | c::E,k,f,L=>by
  rw[jfK,show ∀ a l,a::l=[a]++l from λ_ _=>rfl,yG,yU,if_neg<|by show ¬ jkR∈CK6;decide,xg];rfl
def jli{P}{L:List W2}(nd:P.Nodup)(e:L.map (·.1)=P):lvS P (fnOf L)=(L.map (·.2)).sum:=by
 subst e;unfold lvS;rw[U3];exact congrArg List.sum<|List.map_congr_left λq a=>Kp nd a
noncomputable abbrev LG:=List Nat×List Nat×En
noncomputable def e7(q:LG):D:=.tup [.str q.1,.str q.2.1,.int q.2.2.pl,.str q.2.2.kd,.str q.2.2.nm,.int q.2.2.nd,.int q.2.2.gt]
def kZ(l:List LG):frzs (l.map e7)=true:=yM (λ_=>rfl) _
def VV(l:List LG):fzs (l.map e7)=l.map e7:=vx (λ_=>rfl) _
def YY(M)(f):(sz' M f).map (·.1)=M:=by unfold sz';rw[U3];exact List.map_id _
def K0(h:q∈sz' M f):∃ n,q.2=f n:=by
 obtain⟨n,_,rfl⟩:=M7.mp h;exact⟨n,rfl⟩
theorem zC:∀{ms}{l},MvsOk nm N c l ms->∀ m∈ms,m.2.1∈N/\0<=m.2.2/\m.2.2<=c
 | [],_,_,m,h=>by cases h
 | a::ms,l,k,m,h=>by
  rcases M5.mp h with rfl | h
  ·exact⟨k.1.ot,Int.le_of_lt k.1.po,k.1.hi⟩
  ·exact zC k.2 m h
def jlz(h:PoolOk O p)(n):0<=jhE p n/\jhE p n<=10 ^ 12:=by
 refine⟨YA (λq b=>?_) n,uk (by decide) (λq b=>?_) n⟩
 all_goals
  obtain⟨a,c,rfl⟩:=M7.mp b;have:=h.told a c
  lia
def jgn{nm}{PP}(j:jd PP (.int 0)=some (.str nm))(es:List En):jU (jc [] 0) qT (p2 ji (yD #[pF<|p2 jd (pV 1)<|pI 0,pS []])<|pV 0) (es.map e5) [none,some PP]=some ((es.map λe=>((nm,[],e):LG)).map e7):=by
 rw[U3];refine jq rfl (λρ=>∃ o,ρ=[o,some PP]) ?_ ⟨none,rfl⟩;rintro e b ρ ⟨o,rfl⟩;refine⟨[some<|e5 e,some PP],rfl,?_,_,rfl⟩;have a:ji (.tup [.str nm,.str []]) (e5 e)=some (e7 (nm,[],e)):=rfl;simp[j,a,jb]
def jeL{nm ord}{PP}(j:jd PP (.int 0)=some (.str nm))(es:List En):jU (jc [] 0) qT (p2 ji (yD #[pF<|p2 jd (pV 1)<|pI 0,pF<|pV 2])<|pV 0) (es.map e5) [none,some PP,some<|.str ord]=some ((es.map λe=>((nm,ord,e):LG)).map e7):=by
 rw[U3];refine jq rfl (λρ=>∃ o,ρ=[o,some PP,some<|.str ord]) ?_ ⟨none,rfl⟩;rintro e b ρ ⟨o,rfl⟩;refine⟨[some<|e5 e,some PP,some<|.str ord],rfl,?_,_,rfl⟩;have a:ji (.tup [.str nm,.str ord]) (e5 e)=some (e7 (nm,ord,e)):=rfl;simp[j,a,jb]
def wj{p:PoolS}{N O:W1}{c B:Int}{R:LN}(h:PoolOk O p)(hO:∀ w∈O,w∈N)(hn:p.nm∈N)(hN:N.length<=6)(hL:LnOk N R)(hB0:0<=B)(hB:B<=10 ^ 19)(T:0<=c)(hc:c<=2 ^ 900){S W Rn Lv:List W2}{z d:Int}(b:BkOk p B S W Rn Lv)(u:0<=d):
  Ex8 λ(S' W' R' L':List W2) (z':Int) (ln':LN) (mv:List MV) (sg:List LG)=>An8 (kQ [jL false p,bkD false S W Rn Lv z,.lst false<|R.map eR,.int c,.int d] =
    some (.tup [bkD false S' W' R' L' z',.lst true<|ln'.map eR,.lst false<|mv.map eM,.lst false<|sg.map e7])) (BkOk p (B+10 ^ 12) S' W' R' L') (LnOk N ln') (∀ m∈mv,m.2.1∈N/\0<=m.2.2/\m.2.2<=c) (mv.length<=300) (sg.length<=310) (∀ x∈sg,x.1=p.nm/\Ch x.2.1/\EnOk p.C x.2.2) (vA (sg.map (·.2.2))+(L'.map (·.2)).sum+jbq mv=c+(Lv.map (·.2)).sum):=by
 have lR:Rn.length<=10:=by have:=congrArg List.length b.r1;rw[L1,L1] at this;have:=h.told2;lia
 have lV:Lv.length<=10:=by have:=congrArg List.length b.l1;rw[L1,L1] at this;have:=h.marks2;lia
 have A:=jfk (x:=z) (L:=d) h b.s1 b.w1 lR lV;have v:=jhL (E:=p.eats) (YA b.s2) u;generalize hF:(eat p.eats (fnOf S) d).1=F at A v;generalize(eat p.eats (fnOf S) d).2=lft at A v;rw[jhr] at A;have U:=jax p.eats 0 (fnOf S) d;have G:=xg p.eats 0 (fnOf S) d;have H:=jdg p.eats 0 (fnOf S) d λw hw=>⟨h.eatsm w hw,(h.eats w hw).2⟩;generalize jfK 0 p.eats (fnOf S) d=lg at A U H G;have no:=jnA h (S:=S) (W:=W) (Lv:=Lv) (x:=z) b.r1;have I:(sz' p.C F).map (·.1)=p.C:=YY _ _;have J:(ow' W F).map (·.1)=p.C:=by unfold ow';rw[U3];exact b.w1
 have wd:=zt h (Rn:=Rn) (Lv:=Lv) (x:=z+lft) I J;have b1:BkOk p (B+10 ^ 12) (sz' p.C F) (wd' p (fnOf<|sz' p.C F)<|ow' W F) Rn Lv:=by
  refine⟨I,λq f=>?_,?_,λq f=>?_,b.r1,b.l1,b.l2,b.r2⟩
  ·obtain⟨n,e⟩:=K0 f;rw[e];exact(v.1 n).1
  ·unfold wd';rw[U3];exact J
  ·unfold wd' at f;obtain⟨r,hr,rfl⟩:=M7.mp f;obtain⟨t,ht,rfl⟩:=M7.mp hr;have h1:=b.w2 t ht;have h2:=jlz h t.1;constructor
   ·lia
   ·lia
 obtain⟨x,EN,R',ef,y,V,X,hel,mvl,Y,cz,xe⟩:=jiS h hO hn hN hL ∅ ∅ T hc (z:=z+lft) b1 (uI h Rn);obtain⟨ln',eb,Z⟩:=jeA hn hN hL y.mv;have j:jd (jL false p) (.int 0)=some (.str p.nm):=rfl;have lc1:=jgn (PP:=jL false p) j lg;have K:=jeL (ord:=jhP p Rn) (PP:=jL false p) j EN;refine⟨sz' p.C x.sz,sz' p.C x.ow,R',sz' p.P x.lv,z+lft,ln',x.mv,(lg.map λe=>((p.nm,[],e):LG))++EN.map λe=>((p.nm,jhP p Rn,e):LG),?_,⟨YY _ _,λq f=>?_,YY _ _,λq f=>?_,V,YY _ _,λq f=>?_,X⟩,Z,zC y.mv,mvl,by have:=h.eats2;simp;lia,λq f=>?_,?_⟩
 rotate_left
 ·obtain⟨n,e⟩:=K0 f;rw[e];exact y.sz n
 ·obtain⟨n,e⟩:=K0 f;rw[e];exact y.ow n
 ·obtain⟨n,e⟩:=K0 f;rw[e];exact y.lv n
 ·rcases N4.mp f with f | f
  ·obtain⟨e,he,rfl⟩:=M7.mp f;exact⟨rfl,λ_ h=>(nomatch h),H e he⟩
  ·obtain⟨e,he,rfl⟩:=M7.mp f;exact⟨rfl,by obtain⟨o,ho,eo⟩:=M7.mp<|uI h Rn;rw[<- eo];exact(h.orders o ho).nm.2,Y e he⟩
 ·have js:=y.js;rw[cz,xe,jli h.marksn b.l1] at js;have e1:((sz' p.P x.lv).map (·.2)).sum=lvS p.P x.lv:=by unfold sz' lvS;rw[U3];rfl
  rw[N7,U3,U3,yG,e1,show lg.map ((·.2.2) ∘ λe=>((p.nm,[],e):LG))=lg from List.map_id _,show EN.map ((·.2.2) ∘ λe=>((p.nm,jhP p Rn,e):LG))=EN from List.map_id _,G]
  lia
 have fp:=h.fz false;have fpz:=h.frz;have hb1:=YK false S W Rn Lv z;have hb2:=Jz S W Rn Lv z;have hb3:=YK true (sz' p.C F) (ow' W F) Rn Lv<|z+lft;have hb4:=Jz (sz' p.C F) (ow' W F) Rn Lv<|z+lft;have hb5:=YK false (sz' p.C F) (ow' W F) Rn Lv<|z+lft;have hb8:=YK true (sz' p.C x.sz) (sz' p.C x.ow) R' (sz' p.P x.lv)<|z+lft;have M:=Jz (sz' p.C x.sz) (sz' p.C x.ow) R' (sz' p.P x.lv)<|z+lft;have hl1:lim lg.length=true:=jb (by have:=h.eats2;lia);have Q:lim EN.length=true:=jb ∅;generalize hG1:(lg.map λe=>((p.nm,[],e):LG))=G1 at *;generalize hG2:(EN.map λe=>((p.nm,jhP p Rn,e):LG))=G2 at *;have g1l:G1.length<=1000:=by rw[<- hG1,L1];have:=h.eats2;lia
 have g2l:G2.length<=1000:=by rw[<- hG2,L1];lia
 have hl3:lim (G1.length+G2.length)=true:=jb ∅;generalize jL false p=PP,bkD false S W Rn Lv z=B0,bkD false (sz' p.C F) (ow' W F) Rn Lv (z+lft)=B2,bkD true (sz' p.C x.sz) (sz' p.C x.ow) R' (sz' p.P x.lv) (z+lft)=B4 at *;have t0:∀{a b:D},jd (.tup [a,b]) (.int 0)=some a:=rfl;have t1:∀{a b:D},jd (.tup [a,b]) (.int 1)=some b:=rfl;have g:∀{a b c:D},jd (.tup [a,b,c]) (.int 0)=some a:=rfl;have k:∀{a b c:D},jd (.tup [a,b,c]) (.int 1)=some b:=rfl;have s:∀{a b c:D},jd (.tup [a,b,c]) (.int 2)=some c:=rfl;have ha1:fzs (G1.map e7++G2.map e7)=G1.map e7++G2.map e7:=by rw[<- N7,VV]
 have ha2:frzs (G1.map e7++G2.map e7)=true:=by rw[<- N7,kZ]
 have hx:=jdP (i:=8) (p:=jZ (Jm<|p2 jd (pV 7)<|pI 0) (jc [] 0) qT (p2 ji (yD #[pF<|p2 jd (pV 1)<|pI 0,pF<|pV 2])<|pV 0) [none,some 0,some 6]) (ρ:=[some PP,some B0,‹R.map eR›,some<|.int c,some<|.int d,some<|.tup [.lst false<|lg.map e5,B2],some<|.str<|jhP p Rn,some<|.tup [.lst true<|EN.map e5,B4,.lst true<|x.mv.map eM],↑(G1.map e7)]) (e:=.lst true<|G2.map e7) (m:=G2.map e7) (l:=G1.map e7) (by simp[ -p2];simp[g,jcn,Q,jk,K,-yD]) (by show(bif frzs (G2.map e7) then _ else _)=_;rw[kZ];rfl) rfl (by rw[L1,L1];lia);simp[kQ,jy,Kr,hx,A,fp,fpz,hb1,hb2,hb3,hb4,hb5,YK false (sz' p.C F) (wd' p (fnOf<|sz' p.C F)<|ow' W F) Rn Lv<|z+lft,Jz (sz' p.C F) (wd' p (fnOf<|sz' p.C F)<|ow' W F) Rn Lv<|z+lft,hb8,M,no,t0,t1,wd,jhb,jcn,JQ,vO,ef,jk,lc1,K,hl1,Q,g,k,s,xv,Qk,j,eb,jb,VV,kZ,hl3,ha1,-yD,-List.map_map];simp[g,k,s,M,JQ,vO,xv,Qk,j,eb,ha2,jb]
structure Bk where
 S:List W2
 W:List W2
 R:List W2
 L:List W2
 x:Int
def yQ(o:Bool)(b:Bk):D:=bkD o b.S b.W b.R b.L b.x
inductive Bks (B:Int):List PoolS->List Bk->Prop where
 | nil:Bks B [] []
 | cons {p:PoolS}{b:Bk}{ps:List PoolS}{bs:List Bk}(h:BkOk p B b.S b.W b.R b.L) (t:Bks B ps bs):Bks B (p::ps) (b::bs)
structure WsOk(n:Nat)(K:Int)(ws:List Int):Prop where
 len:ws.length=n
 ok:∀ v∈ws,0<=v/\v<=K
def Qt(o)(b):fz (yQ o b)=yQ false b:=YK ..
def jao(b):frz (yQ false b)=true:=Jz ..
def qD(l:List Bk):frzs (l.map<|yQ false)=true:=yM (jao) _
def JV(l:List Bk):fzs (l.map<|yQ false)=l.map (yQ false):=vx (Qt _) _
def WsOk.set(h:WsOk n K ws)(hK:K<=K')  (b:0<=v) (h1:v<=K'):WsOk n K' (ws.set j v):=by
 refine⟨by rw[List.length_set];exact h.len,λu a=>?_⟩;rcases List.mem_or_eq_of_mem_set a with q | q
 ·have:=h.ok u q;lia
 ·lia
theorem wR:∀{l:List Int}{j}(h:j<l.length) v,(l.set j v).sum=l.sum-l[j]+v
 | x::l,0,h,v=>by show v+l.sum=x+l.sum-x+v;lia
 | x::l,j+1,h,v=>by
  show x+(l.set j v).sum=x+l.sum-l[j]'⇑h+v;rw[wR ⇑h v];lia
def jbE{N}{f:List Nat->Int}{c}{n:Nat}(r:∀ w,0<=f w/\f w<n){a0 a1 a2 a3 a4 a5 a7 a9 a b d}(z:0<=c):∀{ms}{ws}{K}{o13 o14 o15},WsOk n K ws->(∀ m∈ms,m.2.1∈N/\0<=m.2.2/\m.2.2<=c) ->
  Ex4 λws' o13' o14' o15'=>An3 (j8 (gT 3<|gC (jc [] 13)<|gC (jc [] 14)<|gC (jc [] 15) gN) v9 (ms.map eM) [a0,a1,a2,a3,a4,a5,↑(ws.map D.int),a7,some<|dct true N f,a9,a,b,d,o13,o14,o15]=some (.nx [a0,a1,a2,a3,a4,a5,↑(ws'.map D.int),a7,some<|dct true N f,a9,a,b,d,o13',o14',o15'])) (WsOk n (K+c*ms.length) ws') (ws'.sum=ws.sum+jbq ms):=by
 intro ms
 induction ms with
 | nil=>
  intro ws K o13 o14 o15 h _;exact⟨ws,o13,o14,o15,rfl,by simpa using h,by simp[jbq]⟩
 | cons m ms s=>
  intro ws K o13 o14 o15 h p;obtain⟨t,A,B⟩:=p m (by simp);have k:=r m.2.1;have q:(f m.2.1).toNat<ws.length:=by rw[h.len];lia
  have C:=h.ok _<|List.getElem_mem q;have l:ixN (ws.map D.int).length (f m.2.1)=some (f m.2.1).toNat:=by
   have:=jer (n:=(ws.map D.int).length) (i:=(f m.2.1).toNat) (by rw[L1];lia);rw[Int.toNat_of_nonneg k.1] at this;exact this
  have g:(ws.map D.int)[(f m.2.1).toNat]?=some (.int ws[(f m.2.1).toNat]):=by simp
  have j:(ws.map D.int).set (f m.2.1).toNat (.int<|ws[(f m.2.1).toNat]+m.2.2)=(ws.set (f m.2.1).toNat (ws[(f m.2.1).toNat]+m.2.2)).map D.int:=by simp
  obtain⟨ws',o13',o14',o15',e,o,u⟩:=s (ws:=ws.set (f m.2.1).toNat (ws[(f m.2.1).toNat]+m.2.2)) (K:=K+c) (h.set ∅ ∅ ∅)<|λv o=>p v (by simp[o]);refine⟨ws',o13',o14',o15',?_,?_,by rw[u,wR q];simp[jbq];lia⟩
  ·have x:v9 [a0,a1,a2,a3,a4,a5,↑(ws.map D.int),a7,some<|dct true N f,a9,a,b,d,some<|.str m.1,some<|.str m.2.1,some<|.int m.2.2]=some (.nx [a0,a1,a2,a3,a4,a5,↑((ws.set (f m.2.1).toNat (ws[(f m.2.1).toNat]+m.2.2)).map D.int),a7,some<|dct true N f,a9,a,b,d,some<|.str m.1,some<|.str m.2.1,some<|.int m.2.2]):=by
    rw[<- j];simp only[v9,zB,p2,pV0,pVs,L4,yr t,jei,Vn,l,g];rfl
   rw[L5,lpE ?_ x,e];rfl
  ·have y:K+c*((m::ms).length:Int)=K+c+c*ms.length:=by rw[M3];push_cast;rw[Int.mul_add];lia
   rw[y];exact o
def qo(bs:List Bk)(ln:LN)(ws:List Int):D:=.tup [.lst false<|bs.map<|yQ false,.lst false<|ln.map eR,.lst false<|ws.map D.int]
def jfr{N}{f:List Nat->Int}{B K}{p:PoolS}{X:W1}(h:PoolOk X p)(hX:∀ w∈X,w∈N)(hn:p.nm∈N)(hN:N.length<=6){n:Nat}(hf:∀ w,0<=f w/\f w<n)(G:0<=B)(hB:B<=10 ^ 19)(hA:10 ^ 31<=K)(hK:K<=2 ^ 890)
  {bs:List Bk}{ln0:LN}{ws0:List Int}{e g:List Int}{s:Nat}{b:Bk}(hb:bs[s]?=some b) (H:BkOk p B b.S b.W b.R b.L) {j lo:Int}(hi:e[s]?=some j) (hi0:0<=j) (hi1:j<=10 ^ 31) (u:g[s]?=some lo) (I:0<=lo) (hs:s<n)
  {acc:List Bk}(hacc:acc.length<=10) {ln:LN}(hL:LnOk N ln) {ob:Bool}{ws:List Int}(J:WsOk n K ws) {log:List LG}(hlog:log.length<=2000) {a0 o11 o12 o13 o14 o15:Option D}:
  Ex9 λb' ln' ws' seg o11' o12' o13' o14' o15'=>An7 (qV [a0,some<|qo bs ln0 ws0,‹e.map D.int›,‹g.map D.int›,↑(acc.map<|yQ false),some<|.lst ob<|ln.map eR,↑(ws.map D.int),↑(log.map e7),some<|dct true N f,some<|.int s,some<|jL false p,o11,o12,o13,o14,o15] =
    some (.nx [a0,some<|qo bs ln0 ws0,‹e.map D.int›,‹g.map D.int›,↑((acc++[b']).map (yQ false)),‹ln'.map eR›,↑(ws'.map D.int),↑((log++seg).map e7),some<|dct true N f,some<|.int s,some<|jL false p,o11',o12',o13',o14',o15'])) (BkOk p (B+10 ^ 12) b'.S b'.W b'.R b'.L) (LnOk N ln') (WsOk n (1024*K) ws') (seg.length<=310) (∀ x∈seg,x.1=p.nm/\Ch x.2.1/\EnOk p.C x.2.2) (vA (seg.map (·.2.2))+(b'.L.map (·.2)).sum+ws'.sum=j+(b.L.map (·.2)).sum+ws.sum):=by
 have r:s<ws.length:=by rw[J.len];exact hs
 have hwv:=J.ok _<|List.getElem_mem r;obtain⟨k,l,m,o,q,ln',mv,seg,ep,M,y,O,mvl,z,P,sj⟩:=wj (c:=j+ws[s]) h hX hn hN hL G hB ∅ ∅ H I;have Q:WsOk n K (ws.set s 0):=J.set (Int.le_refl _) ∅ ∅;obtain⟨ws',o13',o14',o15',ew,t,T⟩:=jbE hf (a4:=↑((acc++[(⟨k,l,m,o,q⟩:Bk)]).map (yQ false))) ∅ Q O;refine⟨⟨k,l,m,o,q⟩,ln',ws',seg,some<|.int<|j+ws[s],some<|.tup [bkD false k l m o q,.lst false<|ln'.map eR,.lst false<|mv.map eM,.lst false<|seg.map e7],o13',o14',o15',?_,M,y,⟨t.len,λv hv=>⟨(t.ok v hv).1,?_⟩⟩,z,P,by rw[T,wR r];dsimp only;lia⟩
 rotate_left
 ·have h1:=(t.ok v hv).2;have h2:(j+ws[s])*mv.length<=(j+ws[s])*300:=Int.mul_le_mul_of_nonneg_left ∅ ∅
  lia
 have U:jd (.lst false<|bs.map<|yQ false) (.int s)=some (yQ false b):=by
  have A:=(L9.mp hb).1;rw[jdy ∅ (by rw[L1];lia),U0,List.getElem?_map,hb];rfl
 have V:jd (.lst false<|e.map D.int) (.int s)=some (.int j):=by
  have A:=(L9.mp hi).1;rw[jdy ∅ (by rw[L1];lia),U0,List.getElem?_map,hi];rfl
 have Y:jd (.lst false<|g.map D.int) (.int s)=some (.int lo):=by
  have A:=(L9.mp u).1;rw[jdy ∅ (by rw[L1];lia),U0,List.getElem?_map,u];rfl
 have Z:jd (.lst true<|ws.map D.int) (.int s)=some (.int ws[s]):=by
  rw[jdy ∅ (by rw[L1];lia),U0,List.getElem?_map,E1 r];rfl
 have hst:jd (qo bs ln0 ws0) (.int 0)=‹bs.map (yQ false)›:=rfl;have E:ixN (ws.map D.int).length s=some s:=jer (by rw[L1];exact r);have F:(ws.map D.int).set s (.int 0)=(ws.set s 0).map D.int:=by rw[List.map_set]
 have hb1:fz (yQ false b)=yQ false b:=Qt _ _;have hb2:frz (yQ false b)=true:=jao _;have hb3:fz (bkD false k l m o q)=bkD false k l m o q:=YK ..;have hb4:frz (bkD false k l m o q)=true:=Jz ..;have ep':kQ [jL false p,yQ false b,.lst false<|ln.map eR,.int<|j+ws[s],.int lo]=some (.tup [bkD false k l m o q,.lst true<|ln'.map eR,.lst false<|mv.map eM,.lst false<|seg.map e7]):=ep;have ea:(acc++[(⟨k,l,m,o,q⟩:Bk)]).map (yQ false)=acc.map (yQ false)++[bkD false k l m o q]:=by rw[N7];rfl
 rw[ea] at ew ⊢;have hal:lim (acc.map<|yQ false).length=true:=yh ∅;have hx:=jdP (i:=7) (p:=p2 jd (pV 12)<|pI 3) (ρ:=[a0,some<|qo bs ln0 ws0,‹e.map D.int›,‹g.map D.int›,↑(acc.map (yQ false)++[bkD false k l m o q]),‹ln'.map eR›,↑(ws'.map D.int),↑(log.map e7),some<|dct true N f,some<|.int s,some<|jL false p,some<|.int<|j+ws[s],some<|.tup [bkD false k l m o q,.lst false<|ln'.map eR,.lst false<|mv.map eM,.lst false<|seg.map e7],o13',o14',o15']) rfl (by show(bif frzs (seg.map e7) then _ else _)=_;rw[kZ];rfl) rfl (by rw[L1,L1];lia);have em:(log++seg).map e7=log.map e7++seg.map e7:=N7;rw[em];have v0:∀{a b c d},jd (.tup [a,b,c,d]) (.int 0)=some a:=rfl;have v1:∀{a b c d},jd (.tup [a,b,c,d]) (.int 1)=some b:=rfl;have v2:∀{a b c d},jd (.tup [a,b,c,d]) (.int 2)=some c:=rfl;generalize acc.map (yQ false)=AC at *;apply sq (by simp[V,Z];rfl);apply sq (by simp[E,-List.length_map];rw[F]);apply sq (by simp[hst,U,Y,ep',h.fz false,h.frz,hb1,hb2,JQ,vO,-List.map_set];rfl);apply sq (by simp[hb3,hb4,v0,JQ,vO,xv,Qk,VV,kZ,hal,-List.map_set];rfl);apply sq (by simp[v1,vO,-List.map_set];rfl);apply sq (by rw[qC];simp[v2,Qk,xv,-List.map_set];exact ew);exact hx
def jqQ(n):(1:Int)<=1024 ^ n:=by
 induction n with
 | zero=>decide
 | succ n a=>rw[Int.pow_succ];lia
def jdE{K:Int}(h:0<=K)(n):K<=K*1024 ^ n:=by
 have:=Int.mul_le_mul_of_nonneg_left (jqQ n) h
 lia
def joE(Ps:List PoolS)(x:LG):Prop:=∃ p∈Ps,x.1=p.nm/\Ch x.2.1/\EnOk p.C x.2.2
noncomputable def lvB(bs:List Bk):Int:=(bs.map λb=>(b.L.map (·.2)).sum).sum
theorem jaE{N}{f:List Nat->Int}{n:Nat}(hN:N.length<=6)(hf:∀ w,0<=f w/\f w<n){bs}{ws0 a c:List Int}(y:a.length=n)(A:c.length=n)(hi:∀ v∈a,0<=v/\v<=10 ^ 31)(i:∀ v∈c,0<=v){a0}{B}(j:0<=B)(hB:B<=10 ^ 19):
  ∀{Q}{s}{acc}{ln}{ob}{ws}{log}{K}{o9 o10 o11 o12 o13 o14 o15},(∀ p∈Q,p.nm∈N/\∃ X,PoolOk X p/\∀ w∈X,w∈N)->Bks B Q (bs.drop s)->s+Q.length=n->n<=6->acc.length=s->LnOk N ln->WsOk n K ws->log.length<=400*s->10 ^ 31<=K->K*1024 ^ Q.length<=2 ^ 890 ->
  Ex12 λbs' ln' ob' ws' (seg:List LG) o9' o10' o11' o12' o13' o14' o15'=>An7 (j8 (gT 2<|gC (jc [] 9)<|gC (jc [] 10) gN) qV (vh s<|Q.map<|jL false) [a0,some<|qo bs ln0 ws0,‹a.map D.int›,‹c.map D.int›,↑(acc.map<|yQ false),some<|.lst ob<|ln.map eR,↑(ws.map D.int),↑(log.map e7),some<|dct true N f,o9,o10,o11,o12,o13,o14,o15] =
    some (.nx [a0,some<|qo bs ln0 ws0,‹a.map D.int›,‹c.map D.int›,↑((acc++bs').map (yQ false)),some<|.lst ob'<|ln'.map eR,↑(ws'.map D.int),↑((log++seg).map e7),some<|dct true N f,o9',o10',o11',o12',o13',o14',o15'])) (Bks (B+10 ^ 12) Q bs') (LnOk N ln') (WsOk n (K*1024 ^ Q.length) ws') (seg.length<=400*Q.length) (∀ x∈seg,joE Q x) (vA (seg.map (·.2.2))+lvB bs'+ws'.sum=(a.drop s).sum+lvB (bs.drop s)+ws.sum)
 | [],s,acc,ln,ob,ws,log,K,o9,o10,o11,o12,o13,o14,o15,_,hb,hs0,_,_,hL,hw,_,_,_=>by
  have e1:a.drop s=[]:=List.drop_eq_nil_of_le (by simp at hs0;lia);have e2:bs.drop s=[]:=by generalize bs.drop s=z at hb;cases hb;rfl
  refine⟨[],ln,ob,ws,[],o9,o10,o11,o12,o13,o14,o15,by simp[vh],.nil,hL,by simpa using hw,by simp,by simp,by rw[e1,e2];simp[vA,lvB]⟩
 | p::Q,s,acc,ln,ob,ws,log,K,o9,o10,o11,o12,o13,o14,o15,hQ,hb,hs,hn3,hacc,hL,hw,hlog,hA,hK=>by
  obtain⟨C,X,hp,hX⟩:=hQ p (by simp);rw[M3] at hs hK;rw[Int.pow_succ] at hK;have E:K*(1024 ^ Q.length*1024)=1024*K*1024 ^ Q.length:=by rw[Int.mul_comm (1024 ^ Q.length) 1024,<- Int.mul_assoc,Int.mul_comm K 1024]
  have hK2:=jdE (K:=1024*K) ∅ Q.length;generalize k:bs.drop s=bd at hb;cases hb with
  | @cons _ b _ l F h=>
   have G:bs[s]?=some b:=by
    have:=congrArg (·[0]?) k;simpa using this
   have d:bs.drop (s+1)=l:=by
    have:=congrArg (List.drop 1) k;simpa using this
   have g:s<a.length:=by lia
   have m:s<c.length:=by lia
   obtain⟨b',ln',ws',seg,o11',o12',o13',o14',o15',e,H,I,J,sl,M,sj⟩:=jfr hp hX C hN hf j hB hA ∅ G F (E1 g) (hi _<|List.getElem_mem g).1 (hi _<|List.getElem_mem g).2 (E1 m) (i _<|List.getElem_mem m) ∅ (acc:=acc) ∅ hL hw (log:=log) ∅;obtain⟨bs',O,ob',P,o,p9,R,S,T,U,V,W,Y,Z,hL2,hw2,sg2,t,sj2⟩:=jaE hN hf y A hi i (a0:=a0) j hB (ln0:=ln0) (ws0:=ws0) (Q:=Q) (acc:=acc++[b']) (log:=log++seg) (λq hq=>hQ q<|by simp[hq]) (by rw[d];exact h) ∅ hn3 (by simp;lia) I J (by simp;lia) ∅ ∅;refine⟨b'::bs',O,ob',P,seg++o,p9,R,S,T,U,V,W,?_,.cons H Z,hL2,?_,?_,λx u=>?_,?_⟩
   ·rw[L5,vh,lpE ?_ e,Y];simp only[List.append_assoc,List.singleton_append];rfl
   ·rw[M3,Int.pow_succ,E];exact hw2
   ·rw[N6,M3];lia
   ·rcases N4.mp u with u | u
    ·exact⟨p,by simp,M x u⟩
    ·obtain⟨q,hq,r⟩:=t x u;exact⟨q,by simp[hq],r⟩
   ·rw[d] at sj2;rw[List.drop_eq_getElem_cons g,N7,yG,List.sum_cons];show _+_+((b'.L.map (·.2)).sum+lvB bs')+_=_+_+((b.L.map (·.2)).sum+lvB l)+_
    lia
noncomputable def anm:Nat->List PoolS->List W2
 | _,[]=>[]
 | s,p::Q=>(p.nm,(s:Int))::anm (s+1) Q
theorem uV:∀ Q s,(anm s Q).map (·.1)=Q.map (·.nm)
 | [],_=>rfl
 | p::Q,s=>by rw[anm,L5,L5,uV Q]
theorem jhR:∀ Q s,∀ q∈anm s Q,0<=q.2/\q.2<=(s:Int)+Q.length-1
 | [],_,q,h=>by cases h
 | p::Q,s,q,h=>by
  rw[M3];rcases M5.mp h with rfl | h
  ·lia
  ·have:=jhR Q (s+1) q h;lia
theorem jdD:∀ Q s,(anm s Q).length=Q.length
 | [],_=>rfl
 | p::Q,s=>by rw[anm,M3,jdD Q,M3]
theorem jat:∀ Q s o o',jU (gT 2<|gC (jc [] 0)<|gC (jc [] 1) gN) qT (yD #[pF<|p2 jd (pV 1)<|pI 0,pF<|pV 0]) (vh s<|Q.map<|jL false) [o,o']=some ((anm s Q).map e2)
 | [],_,_,_=>rfl
 | p::Q,s,o,o'=>by
  have a:(yD #[pF<|p2 jd (pV 1)<|pI 0,pF<|pV 0]) [some<|.int s,some<|jL false p]=some (e2 (p.nm,s)):=by rfl
  rw[L5,vh,cpE ?_ a,jat Q (s+1) (some<|.int s)<|some<|jL false p];rfl;rfl
noncomputable abbrev jfR(Ps:List PoolS):List (List Nat):=Ps.map (·.nm)
def vt(h:DealOk Ps)(o):fzs (Ps.map<|jL o)=Ps.map (jL false):=by
 rw[kC,U3];exact List.map_congr_left λx a=>by obtain⟨X,b,_⟩:=h.ok x a;exact b.fz o
def yO(h:DealOk Ps):frzs (Ps.map<|jL false)=true:=qN λd hd=>by
 obtain⟨x,a,rfl⟩:=M7.mp hd;obtain⟨X,b,_⟩:=h.ok x a;exact b.frz
structure StOk(Ps:List PoolS)(B K:Int)(bs:List Bk)(ln:LN)(ws:List Int):Prop where
 b:Bks B Ps bs
 l:LnOk (jfR Ps) ln
 w:WsOk Ps.length K ws
structure FlowOk(n:Nat)(inc los:List Int):Prop where
 il:inc.length=n
 ll:los.length=n
 i:∀ v∈inc,0<=v/\v<=10 ^ 31
 l:∀ v∈los,0<=v
def jcT{K:Int}(h:0<=K){n}(a:n<=6):K*1024 ^ n<=K*2 ^ 60:=by
 refine Int.mul_le_mul_of_nonneg_left ?_ h;have:n=0\/n=1\/n=2\/n=3\/n=4\/n=5\/n=6:=by lia
 rcases this with rfl | rfl | rfl | rfl | rfl | rfl | rfl<;>decide
def jmX{c}(h:DealOk c){B K}{bs}{ws f j}(st:StOk c B K bs ln ws)(m:FlowOk c.length f j)(n:0<=B)(M:B<=10 ^ 19)(N:10 ^ 31<=K)(hK:K*2 ^ 60<=2 ^ 890):
  Ex5 λbs' ln' ob ws' (log:List LG)=>An5 (Jb [.lst false<|c.map<|jL false,qo bs ln ws,.lst false<|f.map D.int,.lst false<|j.map D.int]=some (.tup [.tup [.lst true<|bs'.map<|yQ false,.lst ob<|ln'.map eR,.lst true<|ws'.map D.int],.lst true<|log.map e7])) (StOk c (B+10 ^ 12) (K*2 ^ 60) bs' ln' ws') (log.length<=400*c.length) (∀ x∈log,joE c x) (vA (log.map (·.2.2))+lvB bs'+ws'.sum=f.sum+lvB bs+ws.sum):=by
 have l1:=h.len1;have l2:=h.len2;have r:=jcT (K:=K) ∅ l2;have k:=jhR c 0;have d:=uV c 0;have O:∀ w,0<=fnOf (anm 0 c) w/\fnOf (anm 0 c) w<c.length:=λw=>by
  have a:=YA (λq t=>(k q t).1) w;have b:=uk (B:=c.length-1) ∅ (λq t=>by have:=(k q t).2;lia) w
  lia
 obtain⟨bs',ln',ob,ws',log,P,u,y,z,A,C,E,e,F,G,g,Q,H,R⟩:=jaE (by rw[L1];exact l2) O (ln0:=ln) (ws0:=ws) m.il m.ll m.i m.l (a0:=‹c.map (jL false)›) n M (s:=0) (acc:=[]) (ob:=true) (log:=[]) (o9:=none) (o10:=none) (o11:=none) (o12:=none) (o13:=none) (o14:=none) (o15:=none) (λp J=>⟨M7.mpr ⟨p,J,rfl⟩,h.ok p J⟩) st.b ∅ l2 rfl st.l st.w (by simp) N ∅;rw[X9,X9,List.map_nil,List.map_nil] at e;refine⟨bs',ln',ob,ws',log,?_,⟨F,G,⟨g.len,λv L=>⟨(g.ok v L).1,Int.le_trans (g.ok v L).2 r⟩⟩⟩,Q,H,by simpa using R⟩;have S:jd (qo bs ln ws) (.int 1)=‹ln.map eR›:=rfl;have T:jd (qo bs ln ws) (.int 2)=‹ws.map D.int›:=rfl;have jm6:K1 [.lst false<|ln.map eR]=↑(ln.map eR):=by
  show(bif frzs (ln.map eR) then _ else _)=_;rw[vO];rfl
 have hd:yY [.lst true<|(anm 0 c).map e2]=some (dct true (jfR c)<|fnOf<|anm 0 c):=by
  have:=yo (o:=true) (by rw[d];exact h.nmn) (by rw[jdD];lia);rw[d] at this;exact this
 have I:lim (vh 0<|c.map<|jL false).length=true:=jb (by rw[JR,L1];lia);simp[Jb,jy,Kz,S,T,jm6,jat c 0 none none,hd,yO h,vt h false,I,jk,e,jb]
structure RD where
 bs:List Bk
 ln:LN
 ws:List Int
 log:List LG
def jJ(r:RD):D:=.tup [qo r.bs r.ln r.ws,.lst false<|r.log.map e7]
def JA(bs)(ln)(ws):frz (qo bs ln ws)=true:=by simp[qo,qD,vO]
def jeI(bs)(ln)(ws):fz (qo bs ln ws)=qo bs ln ws:=by simp[qo,JV,JQ]
def Yv(l:List RD):frzs (l.map jJ)=true:=yM (λp=>by simp[jJ,JA,kZ]) _
def KC(l:List RD):fzs (l.map jJ)=l.map jJ:=vx (λp=>by simp[jJ,jeI,VV]) _
structure RdOk(Ps:List PoolS)(r:RD):Prop where
 b:∃ B,Bks B Ps r.bs
 l:r.log.length<=2400
 e:∀ x∈r.log,joE Ps x
 n:LnOk (jfR Ps) r.ln
noncomputable def Yl(bs:List Bk)(ws:List Int):List RD->List Bk×List Int
 | []=>(bs,ws)
 | r::rs=>Yl r.bs r.ws rs
def JY(rs:List RD):Int:=(rs.map λr=>vA (r.log.map (·.2.2))).sum
theorem u7(h:DealOk Ps)  : ∀{ds:List Dy}{bs}{ln}{ws}{B K}{st}{acc}{o4 o5 o6},(∀ d∈ds,FlowOk Ps.length d.1 d.2)->StOk Ps B K bs ln ws->fz st=qo bs ln ws->0<=B->B+10 ^ 12*ds.length<=10 ^ 19->10 ^ 31<=K->K*(2 ^ 60) ^ ds.length<=2 ^ 890->acc.length+ds.length<=1000 ->
  Ex5 λrs st' o4' o5' o6'=>An4 (j8 (gT 2<|gC (jc [] 4)<|gC (jc [] 5) gN) ww (ds.map ql) [‹Ps.map (jL false)›,a1,some st,↑(acc.map jJ),o4,o5,o6]=some (.nx [‹Ps.map (jL false)›,a1,some st',↑((acc++rs).map jJ),o4',o5',o6'])) (rs.length=ds.length) (∀ r∈rs,RdOk Ps r) (JY rs+lvB (Yl bs ws rs).1+(Yl bs ws rs).2.sum=(ds.map (·.1.sum)).sum+lvB bs+ws.sum)
 | [],bs,ln,ws,B,K,st,acc,o4,o5,o6,_,_,_,_,_,_,_,_=>⟨[],st,o4,o5,o6,by simp,rfl,by simp,by simp[Yl,JY]⟩
 | d::ds,bs,ln,ws,B,K,st,acc,o4,o5,o6,hd,v,k,m,w,y,u,z=>by
  rw[M3] at w u z;rw[Int.pow_succ] at u;have A:∀ n:Nat,(1:Int)<=(2 ^ 60) ^ n:=λn=>by
   induction n with
   | zero=>decide
   | succ n J=>rw[Int.pow_succ];lia
  have C:K*2 ^ 60<=K*2 ^ 60*(2 ^ 60) ^ ds.length:=by
   have:=Int.mul_le_mul_of_nonneg_left (A ds.length) (show 0<=K*2 ^ 60 by lia)
   lia
  obtain⟨a,f,ob,c,log,e,g,E,o,L⟩:=jmX h v (hd d<|by simp) m ∅ y ∅;obtain⟨rs,st',o4',o5',o6',i,p,j,M⟩:=u7 h (a1:=a1) (ds:=ds) (acc:=acc++[⟨a,f,c,log⟩]) (o4:=‹d.1.map D.int›) (o5:=‹d.2.map D.int›) (o6:=some<|jJ ⟨a,f,c,log⟩) (λx F=>hd x<|by simp[F]) g (jeI _ _ _) ∅ ∅ ∅ ∅ (by simp;lia);refine⟨⟨a,f,c,log⟩::rs,st',o4',o5',o6',?_,by rw[M3,M3,p],λr q=>?_,by show vA (log.map (·.2.2))+JY rs+lvB (Yl a c rs).1+(Yl a c rs).2.sum=d.1.sum+(ds.map (·.1.sum)).sum+lvB bs+ws.sum;lia⟩
  rotate_left
  ·rcases M5.mp q with rfl | q
   ·exact⟨⟨_,g.b⟩,by have:=h.len2;lia,o,g.l⟩
   ·exact j r q
  have G:(acc++[(⟨a,f,c,log⟩:RD)]).map jJ=acc.map jJ++[jJ ⟨a,f,c,log⟩]:=by simp
  rw[G] at i;rw[L5,lpF ?_,i];simp only[List.append_assoc,List.singleton_append];show(some _).bind _=_;have H:fz (.tup [.tup [.lst true<|a.map<|yQ false,.lst ob<|f.map eR,.lst true<|c.map D.int],.lst true<|log.map e7])=jJ ⟨a,f,c,log⟩:=by simp[jJ,qo,JV,JQ,VV]
  have s:frz (jJ ⟨a,f,c,log⟩)=true:=by simp[jJ,JA,kZ]
  have I:jd (jJ ⟨a,f,c,log⟩) (.int 0)=some (qo a f c):=rfl;have t:lim (acc.map jJ).length=true:=yh ∅;generalize acc.map jJ=AC at *;simp[ww,k,yO h,vt h false,JA bs ln ws,jeI bs ln ws,e,H,s,I,JA a f c,t]
def bk0(p:PoolS):Bk:=⟨jba p,qX p,qX p,xf p,0⟩
def jnG(h:PoolOk O p):BkOk p 0 (bk0 p).S (bk0 p).W (bk0 p).R (bk0 p).L:=by
 refine⟨?_,λq a=>?_,?_,λq a=>?_,?_,?_,λq a=>?_,λq a=>?_⟩
 ·show(jba p).map (·.1)=_;unfold jba;rw[U3];rfl
 ·obtain⟨c,b,rfl⟩:=M7.mp a;have:=h.told c b
  lia
 ·show(qX p).map (·.1)=_;unfold qX;rw[U3];rfl
 ·obtain⟨c,b,rfl⟩:=M7.mp a;exact⟨Int.le_refl _,Int.le_refl _⟩
 ·show(qX p).map (·.1)=_;unfold qX;rw[U3];rfl
 ·show(xf p).map (·.1)=_;unfold xf;rw[U3];rfl
 ·obtain⟨c,b,rfl⟩:=M7.mp a;exact Int.le_refl _
 ·obtain⟨c,b,rfl⟩:=M7.mp a;exact Int.le_refl _
theorem jnT:∀{Q},(∀ p∈Q,∃ X,PoolOk X p)->Bks 0 Q (Q.map bk0)
 | [],_=>.nil
 | p::Q,h=>by
  obtain⟨X,a⟩:=h p (by simp);exact .cons (jnG a)<|jnT λq b=>h q (by simp[b])
noncomputable def zs(Ps:List PoolS):List Int:=Ps.map λ_=>0
def jhJ(Ps:List PoolS):D:=.tup [.lst true<|(Ps.map bk0).map (yQ true),.lst true [],.lst true<|(zs Ps).map D.int]
def jdT(a):fz (jhJ a)=qo (a.map bk0) [] (zs a):=by
 have:fzs ((a.map bk0).map (yQ true))=(a.map bk0).map (yQ false):=by
  rw[kC,U3];exact List.map_congr_left λx _=>Qt _ _
 simp[jhJ,qo,this,-List.map_map]
def KF(b):yZ (jhJ b)=true:=by
 have a:yk ((b.map bk0).map (yQ true))=true:=by
  rw[yx,List.all_map,List.all_eq_true];intro x _;exact Vu ..
 simp[jhJ,a,-List.map_map]
def Qv(h:DealOk Ps):JG [.lst false<|Ps.map<|jL false]=some (jhJ Ps):=by
 have l2:=h.len2;have l1:lim Ps.length=true:=jb ∅;have c1:jU (jc [] 0) qT (jv vz #[pV 0]) (Ps.map<|jL false) [none]=some ((Ps.map bk0).map (yQ true)):=by
  rw[U3];refine jq rfl (λρ=>∃ o,ρ=[o]) ?_ ⟨none,rfl⟩;rintro p b ρ ⟨o,rfl⟩;obtain⟨X,a,_⟩:=h.ok p b;refine⟨[some<|jL false p],rfl,?_,_,rfl⟩;show _=some (bkD true (jba p) (qX p) (qX p) (xf p) 0);simp[a.fz false,a.frz,Q2 a]
 have c:jU (jc [] 0) qT (pI 0) (Ps.map<|jL false) [none]=some ((zs Ps).map D.int):=by
  unfold zs;rw[U3];exact jq rfl (λρ=>∃ o,ρ=[o]) (by simp) ⟨none,rfl⟩
 have d:lim (Ps.map<|jL false).length=true:=by rw[L1];exact l1
 unfold jhJ;simp[JG,jy,jdC,yO h,d,jk,c1,c,jb,-List.length_map]
def jd3{c:Int}(a:1<=c)(m n)(h:m<=n):c ^ m<=c ^ n:=by
 induction n with
 | zero=>
  have:m=0:=by lia
  subst this;exact Int.le_refl _
 | succ n b=>
  by_cases q:m=n+1
  ·lia
  ·have e:=b ∅;have d:0<=c ^ n:=Int.pow_nonneg ∅;have f:=Int.mul_le_mul_of_nonneg_left a d
   lia
def jm4:(10:Int) ^ 31*(2 ^ 60) ^ 6<=2 ^ 890:=by
 have a:(10:Int) ^ 31<=2 ^ 200:=by decide
 exact Int.le_trans (Int.mul_le_mul_of_nonneg_right a<|Int.pow_nonneg<|by decide)<|jd3 (by decide) 560 890 (by decide)
theorem zs0:∀ Ps:List PoolS,(zs Ps).sum=0
 | []=>rfl
 | p::Ps=>by show 0+(zs Ps).sum=0;rw[zs0 Ps];rfl
theorem jqa:∀ Ps:List PoolS,lvB (Ps.map bk0)=0
 | []=>rfl
 | p::Ps=>by
  have h:∀ l:List W2,((l.map λc=>((c.1,0):W2)).map (·.2)).sum=0:=λl=>by induction l with
   | nil=>rfl
   | cons a l b=>rw[L5,L5,List.sum_cons,b];rfl
  show((xf p).map (·.2)).sum+lvB (Ps.map bk0)=0;rw[jqa Ps,show((xf p).map (·.2)).sum=0 from h p.marks];rfl
def jl8{a}(h:DealOk a){ds:List Dy}(hd:∀ d∈ds,FlowOk a.length d.1 d.2)(c:ds.length<=6):∃ rs,An4 (V1 [.lst false<|a.map<|jL false,.lst false<|ds.map ql]=↑(rs.map jJ)) (rs.length=ds.length) (∀ r∈rs,RdOk a r) (JY rs+lvB (Yl (a.map bk0) (zs a) rs).1+(Yl (a.map bk0) (zs a) rs).2.sum=(ds.map (·.1.sum)).sum):=by
 have f:StOk a 0 (10 ^ 31) (a.map bk0) [] (zs a):=⟨jnT λp g=>by obtain⟨X,i,_⟩:=h.ok p g;exact⟨X,i⟩,⟨by simp,by simp⟩,⟨by simp[zs],λv j=>by obtain⟨p,_,rfl⟩:=M7.mp j;exact⟨Int.le_refl _,by decide⟩⟩⟩;have k:(10:Int) ^ 31*(2 ^ 60) ^ ds.length<=2 ^ 890:=by
  have l:∀ m n:Nat,m<=n->((2:Int) ^ 60) ^ m<=(2 ^ 60) ^ n:=jd3 (by decide);exact Int.le_trans (Int.mul_le_mul_of_nonneg_left (l ds.length 6 c)<|by decide) jm4
 obtain⟨rs,o,q,s,t,e,b,u,w⟩:=u7 h (a1:=‹ds.map ql›) (acc:=[]) (o4:=none) (o5:=none) (o6:=none) hd f (jdT a) (by decide) ∅ (by decide) k (by simp;lia);rw[X9,List.map_nil] at e;refine⟨rs,?_,b,u,by rw[jqa a,zs0 a] at w;lia⟩;have jmw:=qQ ds;simp[V1,jy,jnu,vt h false,jmw,jH _ jmw,KF a,Qv h,e,jb]
noncomputable def ue:LN->EN->Int->LN
 | [],k,g=>[(k,g)]
 | r::l,k,g=>if r.1=k then(k,r.2+g)::l else r::ue l k g
theorem jda{k v}:∀{l},¬ k∈l.map (·.1)->jeW l k v=l
 | [],_=>rfl
 | r::l,h=>by
  rw[L5,M5] at h;show(r.1,if r.1=k then v else r.2)::jeW l k v=r::l;rw[if_neg λz=>h<|.inl z.symm,jda λz=>h<|.inr z]
theorem jdx{k g}:∀{l},(l.map (·.1)).Nodup->jbp l k ((kz l k).getD 0+g)=ue l k g
 | [],_=>by show [(k,0+g)]=_;rw[Int.zero_add];rfl
 | r::l,nd=>by
  rw[L5,List.nodup_cons] at nd;by_cases e:r.1=k
  ·subst e;unfold jbp;rw[if_pos<|by simp,ue,if_pos rfl,kz,if_pos rfl];show(r.1,if r.1=r.1 then r.2+g else r.2)::jeW l r.1 (r.2+g)=_;rw[if_pos rfl,jda nd.1]
  ·rw[ue,if_neg e,<- jdx nd.2,kz,if_neg e];unfold jbp;by_cases m:k∈l.map (·.1)
   ·rw[if_pos m,if_pos<|by rw[L5];exact L6 _ m];show(r.1,if r.1=k then _ else r.2)::_=_;rw[if_neg e];rfl
   ·rw[if_neg m,if_neg λz=>by rw[L5] at z;exact(M5.mp z).elim (λz=>e z.symm) m];rfl
theorem Qo{k g}:∀{l}{r},r∈ue l k g->r.1=k\/r∈l
 | [],r,h=>.inl (by rw[M9.mp h])
 | q::l,r,h=>by
  rw[ue] at h;split at h
  ·rcases M5.mp h with rfl | h
   ·exact .inl rfl
   ·exact .inr<|L6 _ h
  ·rcases M5.mp h with rfl | h
   ·exact .inr L7
   ·exact(Qo h).imp id (L6 _)
def jjf(A:LN):Int:=((A.filter λr=>decide<|r.1.1∈CK6).map (·.2)).sum
def kK(r A):jjf (r::A)=(if r.1.1∈CK6 then r.2 else 0)+jjf A:=by
 unfold jjf;by_cases h:r.1.1∈CK6<;>simp[h]
theorem u8{k g}:∀{l},jjf (ue l k g)=jjf l+if k.1∈CK6 then g else 0
 | []=>by rw[ue,kK];exact Int.add_comm ..
 | r::l=>by
  rw[ue];split
  ·next e=>
   rw[kK,kK];split<;>lia
  ·rw[kK,kK,u8];lia
theorem uZ{k g}:∀{l},(ue l k g).length<=l.length+1
 | []=>N1 _
 | r::l=>by
  rw[ue];split
  ·simp
  ·have:=uZ (k:=k) (g:=g) (l:=l);simp;lia
theorem jeB{k g}:∀{l},(l.map (·.1)).Nodup->((ue l k g).map (·.1)).Nodup
 | [],_=>by simp[ue]
 | r::l,nd=>by
  rw[ue];split
  ·next e=>subst e;exact nd
  ·next e=>
   rw[L5,List.nodup_cons] at nd ⊢;refine⟨λz=>?_,jeB nd.2⟩;obtain⟨q,b,a⟩:=M7.mp z;rcases Qo b with h | h
   ·exact e<|a.symm.trans h
   ·exact nd.1<|M7.mpr ⟨q,h,a⟩
structure GotOk(C:W1)(n:Nat)(T:Int)(A:LN):Prop where
 nd:(A.map (·.1)).Nodup
 mem:∀ r∈A,r.1.1∈CK6->r.1.2∈C
 len:A.length<=n
 tot:jjf A=T
def GotOk.add{C n T A}(h:GotOk C n T A)(e)(a:e.kd∈CK6->e.nm∈C):GotOk C (n+1) (T+vA [e]) (ue A (e.kd,e.nm) e.gt):=by
 refine⟨jeB h.nd,λr b=>?_,N9 uZ<|Nat.succ_le_succ h.len,by rw[u8,h.tot,yU]⟩;rcases Qo b with q | q
 ·rw[q];exact a
 ·exact h.mem r q
def Ku(a l):vA (a::l)=vA [a]+vA l:=yG [a] l
theorem jdz{a0 a2 a3}{C}:∀{log:List LG}{n T A o4 o5},GotOk C n T A->(∀ x∈log,x.2.2.kd∈CK6->x.2.2.nm∈C)->n+log.length<=100000->Ex3 λA' o4' o5'=>An2 (GotOk C (n+log.length) (T+vA (log.map (·.2.2))) A')<|j8 (jc [] 4) kY (log.map e7) [a0,some<|dLn true A,a2,a3,o4,o5]=some (.nx [a0,some<|dLn true A',a2,a3,o4',o5'])
 | [],n,T,A,o4,o5,h,_,_=>⟨A,o4,o5,by simpa [vA] using h,rfl⟩
 | x::log,n,T,A,o4,o5,h,b,d=>by
  rw[M3] at d;obtain⟨A',o4',o5',a,e⟩:=jdz (log:=log) (o4:=some<|e7 x) (o5:=some<|.kt [.str x.2.2.kd,.str x.2.2.nm]) (h.add x.2.2<|b x<|by simp) (λq f=>b q<|by simp[f]) ∅;refine⟨A',o4',o5',⟨a.nd,a.mem,by have:=a.len;rw[M3];lia,by rw[a.tot,L5,Ku _ (log.map (·.2.2)),Int.add_assoc]⟩,?_⟩;rw[L5,lpE rfl ?_,e];have g:jd (e7 x) (.int 3)=some (.str x.2.2.kd):=rfl;have i:jd (e7 x) (.int 4)=some (.str x.2.2.nm):=rfl;have j:jd (e7 x) (.int 6)=some (.int x.2.2.gt):=rfl;have c:=Qe (x.2.2.kd,x.2.2.nm) ((kz A (x.2.2.kd,x.2.2.nm)).getD 0+x.2.2.gt) A;rw[jdx h.nd] at c;have k:(Q8 (A.map kL) (A.map vL) [.str x.2.2.kd,.str x.2.2.nm]).getD (.int 0)=.int ((kz A (x.2.2.kd,x.2.2.nm)).getD 0):=by
   rw[JE (x.2.2.kd,x.2.2.nm) A];cases kz A (x.2.2.kd,x.2.2.nm)<;>rfl
  have l:lim (A.map kL).length=true:=by rw[L1];exact jb (by have:=h.len;lia)
  unfold dLn;generalize A.map kL=ks at *;simp[kY,g,i,j,k,l,c]
theorem jas{a0}{C}:∀{rs}{n T A o2 o3 o4 o5},(∀ r∈rs,r.log.length<=2400/\∀ x∈r.log,x.2.2.kd∈CK6->x.2.2.nm∈C)->GotOk C n T A->n+2400*rs.length<=100000->Ex6 λm A' o2' o3' o4' o5'=>An3 (GotOk C m (T+JY rs) A') (m<=n+2400*rs.length)<|j8 (gT 2<|gC (jc [] 2)<|gC (jc [] 3) gN) qj (rs.map jJ) [a0,some<|dLn true A,o2,o3,o4,o5]=some (.nx [a0,some<|dLn true A',o2',o3',o4',o5'])
 | [],n,T,A,o2,o3,o4,o5,_,h,_=>⟨n,A,o2,o3,o4,o5,by simpa [JY] using h,by simp,rfl⟩
 | r::rs,n,T,A,o2,o3,o4,o5,b,h,c=>by
  rw[M3] at c;obtain⟨l,d⟩:=b r (by simp);obtain⟨o,f,g,i,j⟩:=jdz (a0:=a0) (a2:=some<|qo r.bs r.ln r.ws) (a3:=‹r.log.map e7›) (o4:=o4) (o5:=o5) h d ∅;obtain⟨m,A',o2',o3',o4',o5',a,p,e⟩:=jas (rs:=rs) (o2:=some<|qo r.bs r.ln r.ws) (o3:=‹r.log.map e7›) (o4:=f) (o5:=g) (λq k=>b q<|by simp[k]) i ∅;refine⟨m,A',o2',o3',o4',o5',⟨a.nd,a.mem,a.len,by rw[a.tot,Int.add_assoc];rfl⟩,by rw[M3];lia,?_⟩;rw[L5,lpE rfl ?_,e];simp[qj,kZ r.log,VV r.log,j]
noncomputable abbrev jbg(Ps:List PoolS):List (List Nat):=Ps.flatMap (·.C)
def YF{a}{rs}(b:∀ r∈rs,RdOk a r)(o:rs.length<=10):∃ A,GotOk (jbg a) 24000 (JY rs) A/\vQ [.lst false<|rs.map jJ]=some (dLn true A):=by
 obtain⟨m,A,d,f,g,i,h,p,e⟩:=jas (a0:=‹rs.map jJ›) (o2:=none) (o3:=none) (o4:=none) (o5:=none) (λr h=>⟨(b r h).l,λx j k=>by
  obtain⟨q,n,_,_,e2⟩:=(b r h).e x j;exact List.mem_flatMap.mpr ⟨q,n,e2.c<|(List.dropLast_sublist CK).subset k⟩⟩) (show GotOk _ 0 0 [] from⟨by simp,by simp,by simp,rfl⟩) ∅
 refine⟨A,⟨h.nd,h.mem,by have:=h.len;lia,by rw[h.tot,Int.zero_add]⟩,?_⟩;have z:dLn true []=.dT true [] []:=rfl;rw[z] at e;simp[vQ,jy,Vw,Yv rs,KC rs,e]
structure MisOk(N:Nat)(ks:List KA)(l:List D):Prop where
 n:ks.length=l.length
 m:ks.length<=N
 v:∀ d∈l,∃ i,d=.int i
theorem uX{k d}:∀{ks l},YC ks l k=some d->d∈l
 | [],_,h=>by rw[YC] at h;cases h;intro _ _ _ _ h;cases h
 | _::_,[],h=>by rw[YC] at h;cases h;intro _ _ _ _ _ h;cases h
 | x::ks,y::l,h=>by
  rw[YC] at h;split at h
  ·cases h;exact L7
  ·exact L6 _<|uX h
theorem jaI{a d e}:∀{ks l},e∈jar ks l a d->e=d\/e∈l
 | [],_,h=>by rw[jar] at h;cases h;intro _ _ _ _ h;cases h
 | _::_,[],h=>by rw[jar] at h;cases h;intro _ _ _ _ _ h;cases h
 | x::ks,y::l,h=>by
  rcases M5.mp h with h | h
  ·split at h
   ·exact .inl h
   ·exact .inr<|h▸L7
  ·exact(jaI h).imp id (L6 _)
def MisOk.put{n ks l}(h:MisOk n ks l)(a i):MisOk (n+1) (kT ks l a<|.int i).1 (kT ks l a<|.int i).2:=by
 have m:=h.m;unfold kT;split
 ·exact⟨by rw[K7 _ _ h.n];exact h.n,Nat.le_succ_of_le m,λd hd=>(jaI hd).elim (λe=>⟨i,e⟩) (h.v d)⟩
 ·exact⟨by simp[h.n],by simp;lia,λd hd=>(N4.mp hd).elim (h.v d) λe=>⟨i,M9.mp e⟩⟩
def MisOk.get{n ks l}(h:MisOk n ks l)(w):∃ i,KG (.dK true ks l) (.str w) (.int 0)=some (.int i):=by
 show ∃ i,some ((YC ks l<|.str w).getD (.int 0))=_;cases e:YC ks l (.str w) with
 | none=>exact⟨0,rfl⟩
 | some d=>obtain⟨i,rfl⟩:=h.v d<|uX e;exact⟨i,rfl⟩
theorem u5{a0 a2 a3 a4}:∀{S:List W2}{n ks l o5 o6},MisOk n ks l->n+S.length<=100000->Ex4 λks' l' o5' o6'=>An2 (MisOk (n+S.length) ks' l')<|j8 (gT 2<|gC (jc [] 5)<|gC (jc [] 6) gN) vN (S.map e2) [a0,some<|.dK true ks l,a2,a3,a4,o5,o6]=some (.nx [a0,some<|.dK true ks' l',a2,a3,a4,o5',o6'])
 | [],n,ks,l,o5,o6,h,_=>⟨ks,l,o5,o6,h,rfl⟩
 | x::S,n,ks,l,o5,o6,h,b=>by
  rw[M3] at b;obtain⟨i,c⟩:=h.get x.1;obtain⟨j,a⟩:∃ j,xP [.int x.2,.int 1]=some (.int j):=⟨_,rfl⟩;obtain⟨ks',l',o5',o6',d,e⟩:=u5 (S:=S) (o5:=some<|.str x.1) (o6:=some<|.int x.2) (h.put (.str x.1)<|i+j) ∅;refine⟨ks',l',o5',o6',by rw[M3,show n+(S.length+1)=n+1+S.length by lia];exact d,?_⟩;have f:lim ks.length=true:=jb (by have:=h.m;lia);rw[L5,lpE rfl ?_,e];have g:vZ (.str x.1)=some (.str x.1):=rfl;simp[vN,c,a,f,g]
theorem zY{a0 a2 a3 B}:∀{Q bs n ks l o4 o5 o6},Bks B Q bs->(∀ p∈Q,∃ X,PoolOk X p)->MisOk n ks l->n+10*bs.length<=100000->Ex6 λm ks' l' o4' o5' o6'=>An3 (MisOk m ks' l') (m<=n+10*bs.length)<|j8 (jc [] 4) vU (bs.map<|yQ false) [a0,some<|.dK true ks l,a2,a3,o4,o5,o6]=some (.nx [a0,some<|.dK true ks' l',a2,a3,o4',o5',o6'])
 | _,[],n,ks,l,o4,o5,o6,_,_,h,_=>⟨n,ks,l,o4,o5,o6,h,by simp,rfl⟩
 | Q,b::bs,n,ks,l,o4,o5,o6,a,d,h,f=>by
  rw[M3] at f;cases a with
  | @cons p _ v _ a c=>
   obtain⟨X,g⟩:=d p (by simp);have w:b.R.length<=10:=by
    have:=congrArg List.length a.r1;rw[L1,L1] at this;have:=g.told2
    lia
   obtain⟨i,l1,j,k,o,r⟩:=u5 (a0:=a0) (a2:=a2) (a3:=a3) (a4:=some<|yQ false b) (S:=b.R) (o5:=o5) (o6:=o6) h ∅;obtain⟨m,ks',l',o4',o5',o6',s,x,e⟩:=zY (o4:=some<|yQ false b) (o5:=j) (o6:=k) c (λq t=>d q<|by simp[t]) o ∅;refine⟨m,ks',l',o4',o5',o6',s,by rw[M3];lia,?_⟩;rw[L5,lpE rfl ?_,e];have u:jd (yQ false b) (.int 2)=‹b.R.map e2›:=rfl;simp[vU,u,ya b.R,JO b.R,r]
def Bks.len{B}:∀{Q bs},Bks B Q bs->bs.length=Q.length
 | _,_,.nil=>rfl
 | _,_,.cons _ t=>by rw[M3,M3,t.len]
theorem jan{a0 c}(a:DealOk c):∀{rs:List RD}{n ks l o2 o3 o4 o5 o6},(∀ r∈rs,RdOk c r)->MisOk n ks l->n+60*rs.length<=100000->Ex8 λm ks' l' o2' o3' o4' o5' o6'=>An2 (MisOk m ks' l')<|j8 (gT 2<|gC (jc [] 2)<|gC (jc [] 3) gN) vK (rs.map jJ) [a0,some<|.dK true ks l,o2,o3,o4,o5,o6]=some (.nx [a0,some<|.dK true ks' l',o2',o3',o4',o5',o6'])
 | [],n,ks,l,o2,o3,o4,o5,o6,_,h,_=>⟨n,ks,l,o2,o3,o4,o5,o6,h,rfl⟩
 | r::rs,n,ks,l,o2,o3,o4,o5,o6,d,h,g=>by
  rw[M3] at g;obtain⟨B,f⟩:=(d r<|by simp).b;have bl:=f.len;have l2:=a.len2;obtain⟨z,i,l1,j,k,o,s,A,t⟩:=zY (a0:=a0) (a2:=some<|qo r.bs r.ln r.ws) (a3:=‹r.log.map e7›) (o4:=o4) (o5:=o5) (o6:=o6) f (λp u=>by obtain⟨X,v,_⟩:=a.ok p u;exact⟨X,v⟩) h ∅;obtain⟨m,ks',l',o2',o3',o4',o5',o6',w,e⟩:=jan a (rs:=rs) (o2:=some<|qo r.bs r.ln r.ws) (o3:=‹r.log.map e7›) (o4:=j) (o5:=k) (o6:=o) (λq x=>d q<|by simp[x]) s ∅;refine⟨m,ks',l',o2',o3',o4',o5',o6',w,?_⟩;rw[L5,lpE rfl ?_,e];have y:jd (qo r.bs r.ln r.ws) (.int 0)=‹r.bs.map (yQ false)›:=rfl;simp[vK,y,qD r.bs,JV r.bs,t]
def jcq{a}(b:DealOk a){rs:List RD}(c:∀ r∈rs,RdOk a r)(k:rs.length<=10):Ex3 λm ks l=>An2 (MisOk m ks l) (vH [.lst false<|rs.map jJ]=some (.dK true ks l)):=by
 obtain⟨m,ks,l,d,f,g,i,j,h,e⟩:=jan (a0:=‹rs.map jJ›) b (n:=0) (ks:=[]) (l:=[]) (o2:=none) (o3:=none) (o4:=none) (o5:=none) (o6:=none) c ⟨rfl,N1 _,by simp⟩ ∅;refine⟨m,ks,l,h,?_⟩;simp[vH,jy,J8,Yv rs,KC rs,e]
theorem wb{r}:∀{rs}{bs ws},rs.getLast?=some r->Yl bs ws rs=(r.bs,r.ws)
 | [q],_,_,h=>by cases h;rfl
 | q::x::rs,_,_,h=>wb (ws:=q.ws) (by rw[List.getLast?_cons_cons] at h;exact h)
theorem KQ{a}(d:DealOk a):∀{rs}{bs ws},(∃ B,Bks B a bs)->(∀ r∈rs,RdOk a r)->∃ B,Bks B a (Yl bs ws rs).1
 | [],_,_,h,_=>h
 | r::rs,_,_,_,c=>KQ d (rs:=rs) (c r<|by simp).b λq e=>c q (by simp[e])
def stO(o:Bool)(bs:List Bk)(ln:LN)(ws:List Int):D:=.tup [.lst o<|bs.map<|yQ o,.lst o<|ln.map eR,.lst o<|ws.map D.int]
def jdS{rs:List RD}{r}(h:rs.getLast?=some r):jd (.lst false<|rs.map jJ) (.int<|-1)=some (jJ r):=by
 have a:rs≠[]:=by rintro rfl;cases h
 have b:=List.length_pos_iff.mpr a;show atI (rs.map jJ) (-1)=_;have:ixN (rs.map jJ).length (-1)=some (rs.length-1):=by
  unfold ixN;simp
  lia
 unfold atI;rw[this];show(rs.map jJ)[rs.length-1]?=_;rw[List.getElem?_map,<- List.getLast?_eq_getElem?,h];rfl
def jee{a}(c:DealOk a){rs}(g:∀ r∈rs,RdOk a r):∃ o ln,yP [.lst false<|a.map<|jL false,.lst false<|rs.map jJ]=some (stO o (Yl (a.map bk0) (zs a) rs).1 ln (Yl (a.map bk0) (zs a) rs).2) /\
  ((o=true/\rs=[]/\ln=[])\/(o=false/\∃ r,rs.getLast?=some r/\ln=r.ln)):=by
 cases e:rs.getLast? with
 | none=>
  have b:=List.getLast?_eq_none_iff.mp e;subst b;refine⟨true,[],?_,.inl ⟨rfl,rfl,rfl⟩⟩;simp[yP,jy,qB,yO c,vt c false,Qv c,-List.map_map];rfl
 | some r=>
  refine⟨false,r.ln,?_,.inr ⟨rfl,r,rfl,rfl⟩⟩;rw[wb e];have b:rs≠[]:=by rintro rfl;cases e
  have d:jd (jJ r) (.int 0)=some (qo r.bs r.ln r.ws):=rfl;have f:V2 (.int 1)=some (.int<|-1):=rfl;simp[yP,jy,qB,List.length_pos_iff.mpr b,b,f,jdS e,d,JA r.bs r.ln r.ws];rfl
structure Row where
 p:List Nat
 c:List Nat
 a:Int
 b:Int
 d:Int
 e:Int
 f:Int
 g:Int
 h:Int
 ow:Int
 sz:Int
 ms:Int
noncomputable def Jn(r:Row):D:=.tup [.str r.p,.str r.c,.int r.a,.int r.b,.int r.d,.int r.e,.int r.f,.int r.g,.int r.h,.int r.ow,.int r.sz,.int r.ms]
noncomputable def six(r:Row):Int:=[r.a,r.b,r.d,r.e,r.f,r.g].sum
noncomputable def jp2(g:List Nat->Int)(p:PoolS)(c:List Nat)(ow sz ms:Int):Row:=⟨p.nm,c,g [112,97,114,116],g [112,97,121],g [115,104,97,114,101],g [114,101,112,97,121],g [114,101,115,116],g [103,117,97,114,100],g [101,97,116],ow,sz,ms⟩
def jad(p Q):jbg (p::Q)=p.C++jbg Q:=rfl
section
variable {F:List Nat->List Nat->Int}{ks:List (List KA)}{l:List D}(hT:∀ c k,(Q8 ks l [.str k,.str c]).getD (.int 0)=.int (F c k)){n2:Nat}{ks2:List KA}{l2:List D}(hK:MisOk n2 ks2 l2)
include hT hK
def jgj{O p c f g A a0 a1 a2 a7 o11 o12}(v:PoolOk O p)(e:c∈p.C)(x:A.length<=1000):
  Ex3 λr o11' o12'=>An2 (six r=(CK6.map<|F c).sum) (kD [a0,a1,a2,some<|.dT true ks l,some<|.dK true ks2 l2,↑(A.map Jn),some<|jL false p,a7,some<|dct true p.C f,some<|dct true p.C g,some<|.str c,o11,o12] =
   some (.nx [a0,a1,a2,some<|.dT true ks l,some<|.dK true ks2 l2,↑((A++[r]).map Jn),some<|jL false p,a7,some<|dct true p.C f,some<|dct true p.C g,some<|.str c,o11',o12'])):=by
 have h:jd (jL false p) (.int 0)=some (.str p.nm):=rfl;obtain⟨m,i⟩:=hK.get c;have j:ji ye (.tup [.str [101,97,116]])=some (.tup<|CK.map D.str):=rfl;have a:jU (jc [] 0) qT (pF<|wA (pV 1) (pV 0) (pV 2)<|pI 0) (CK.map D.str) [none,some<|.dT true ks l,some<|.str c]=some (CK.map λk=>D.int<|F c k):=by
  refine jq rfl (λρ=>∃ o,ρ=[o,some<|.dT true ks l,some<|.str c]) ?_ ⟨none,rfl⟩;rintro k y ρ ⟨o,rfl⟩;refine⟨[some<|.str k,some<|.dT true ks l,some<|.str c],rfl,?_,_,rfl⟩;have n:∀ w:List Nat,vZ (.str w)=some (.str w):=λ_=>rfl;simp[n,hT c k]
 have q:lim CK.length=true:=rfl;have s:itB (.tup<|CK.map D.str)=some (CK.map D.str):=rfl;have t:Vm [.lst true<|CK.map λk=>D.int<|F c k]=some (.tup<|CK.map λk=>D.int<|F c k):=rfl;have b:ji (.tup [.str p.nm,.str c]) (.tup<|CK.map λk=>D.int<|F c k)=some (.tup<|.str p.nm::.str c::CK.map λk=>D.int<|F c k):=rfl;have d:ji (.tup<|.str p.nm::.str c::CK.map λk=>D.int<|F c k) (.tup [.int<|g c,.int<|f c,.int m])=some (Jn<|jp2 (F c) p c (g c) (f c) m):=rfl;have u:lim (A.map Jn).length=true:=yh ∅;refine⟨_,↑(CK.map λk=>D.int<|F c k),some<|.tup [.int<|g c,.int<|f c,.int m],show six (jp2 (F c) p c (g c) (f c) m)=_ from rfl,?_⟩;rw[N7,List.map_singleton];generalize A.map Jn=AA at *;apply sq (by simp[j,s,jk,a,q,jb];rfl);apply sq (by simp[yr e,yr e,i,jb];rfl);simp[h,t,b,d,u,jb]
def jgC{O p f g a0 a1 a2 a7}(h:PoolOk O p):∀{N:W1}{A}{o10 o11 o12},(∀ w∈N,w∈p.C)->A.length+N.length<=1000 ->
  Ex4 λ(R:List Row) o10' o11' o12'=>An2 ((R.map six).sum=(N.map λc=>(CK6.map<|F c).sum).sum/\R.length=N.length) (j8 (jc [] 10) kD (N.map D.str) [a0,a1,a2,some<|.dT true ks l,some<|.dK true ks2 l2,↑(A.map Jn),some<|jL false p,a7,some<|dct true p.C f,some<|dct true p.C g,o10,o11,o12] =
   some (.nx [a0,a1,a2,some<|.dT true ks l,some<|.dK true ks2 l2,↑((A++R).map Jn),some<|jL false p,a7,some<|dct true p.C f,some<|dct true p.C g,o10',o11',o12'])):=by
 intro N
 induction N with
 | nil=>
  intro A o10 o11 o12 _ _;exact⟨[],o10,o11,o12,⟨rfl,rfl⟩,by rw[N2];rfl⟩
 | cons w N i=>
  intro A o10 o11 o12 b j;rw[M3] at j;obtain⟨r,k,m,n,e⟩:=jgj hT hK h (b w<|by simp) (A:=A) ∅;obtain⟨R,o10',o11',o12',d,a⟩:=i (A:=A++[r]) (λz o=>b z<|by simp[o]) (by simp;lia);refine⟨r::R,o10',o11',o12',⟨by rw[L5,L5,List.sum_cons,List.sum_cons,d.1,n],by rw[M3,M3,d.2]⟩,?_⟩;rw[L5,lpE rfl e,a,List.append_assoc,List.singleton_append]
def jcM{a0 a1 a2 B}:∀{Q bs}{A}{o6 o7 o8 o9 o10 o11 o12},Bks B Q bs->(∀ p∈Q,∃ X,PoolOk X p)->A.length+10*Q.length<=1000 ->
  Ex8 λ(R:List Row) o6' o7' o8' o9' o10' o11' o12'=>An2 ((R.map six).sum=((jbg Q).map λc=>(CK6.map<|F c).sum).sum/\R.length<=10*Q.length) (j8 (gT 2<|gC (jc [] 6)<|gC (jc [] 7) gN) kr (jdV (Q.map<|jL false)<|bs.map<|yQ false) [a0,a1,a2,some<|.dT true ks l,some<|.dK true ks2 l2,↑(A.map Jn),o6,o7,o8,o9,o10,o11,o12] =
   some (.nx [a0,a1,a2,some<|.dT true ks l,some<|.dK true ks2 l2,↑((A++R).map Jn),o6',o7',o8',o9',o10',o11',o12'])):=by
 intro Q
 induction Q with
 | nil=>
  intro bs A o6 o7 o8 o9 o10 o11 o12 h _ _;cases h;exact⟨[],o6,o7,o8,o9,o10,o11,o12,⟨rfl,N1 _⟩,by rw[N2];rfl⟩
 | cons p Q E=>
  intro bs A o6 o7 o8 o9 o10 o11 o12 h v G;cases h with
  | @cons _ b _ bs a t=>
   rw[M3] at G;obtain⟨X,i⟩:=v p (by simp);have P:=i.told2;have sl:=congrArg List.length a.s1;have H:=congrArg List.length a.w1;rw[L1,L1] at sl H;have j:yY [.lst false<|b.S.map e2]=some (dct true p.C<|fnOf b.S):=by
    have:=yo (o:=false) (by rw[a.s1];exact i.toldn) ∅;rw[a.s1] at this;exact this
   have k:yY [.lst false<|b.W.map e2]=some (dct true p.C<|fnOf b.W):=by
    have:=yo (o:=false) (by rw[a.w1];exact i.toldn) ∅;rw[a.w1] at this;exact this
   have m:jU (jc [] 0) qT (pF<|p2 jd (pV 0)<|pI 0) (p.told.map e3) [none]=some (p.C.map D.str):=by
    rw[U3];refine jq rfl (λρ=>∃ o,ρ=[o]) ?_ ⟨none,rfl⟩;rintro x T ρ ⟨o,rfl⟩;refine⟨[some<|e3 x],rfl,?_,_,rfl⟩;have:=i30 (t:=x);simp[this]
   obtain⟨y,n,r,s,⟨u,d⟩,I⟩:=jgC hT hK i (f:=fnOf b.S) (g:=fnOf b.W) (a0:=a0) (a1:=a1) (a2:=a2) (a7:=some<|yQ false b) (A:=A) (o10:=o10) (o11:=o11) (o12:=o12) (λw J=>J) (by rw[L1];lia);rw[L1] at d;obtain⟨R,o6',o7',o8',o9',o10',o11',o12',z,e⟩:=E (A:=A++y) (o6:=some<|jL false p) (o7:=some<|yQ false b) (o8:=some<|dct true p.C<|fnOf b.S) (o9:=some<|dct true p.C<|fnOf b.W) (o10:=n) (o11:=r) (o12:=s) t (λq K=>v q<|by simp[K]) (by rw[N6];lia);refine⟨y++R,o6',o7',o8',o9',o10',o11',o12',⟨by rw[jad,N7,N7,List.sum_append,List.sum_append,u,z.1],by have:=z.2;rw[N6,M3];lia⟩,?_⟩;rw[L5,L5,jdV,lpE rfl ?_,e,List.append_assoc];have L:jd (jL false p) (.int 1)=‹p.told.map e3›:=rfl;have b0:jd (yQ false b) (.int 0)=‹b.S.map e2›:=rfl;have M:jd (yQ false b) (.int 1)=‹b.W.map e2›:=rfl;have N:=qc p.C;have ll:lim (p.told.map e3).length=true:=yh ∅;have O:=kX p.told;generalize p.told.map e3=TT,p.C.map D.str=NN at *;simp[kr,L,b0,M,j,k,ll,O,zg p.told,jk,m,yw p.C,N,I]
end
theorem wH{b}{g:Int}:∀{N:W1},N.Nodup->(N.map λa=>if b=a then g else 0).sum=if b∈N then g else 0
 | [],_=>rfl
 | a::N,nd=>by
  rw[List.nodup_cons] at nd;rw[L5,List.sum_cons,wH nd.2];by_cases e:b=a
  ·subst e;simp[nd.1]
  ·simp[e]
theorem wK{α}(f g:α->Int):∀ N:List α,(N.map λa=>f a+g a).sum=(N.map f).sum+(N.map g).sum
 | []=>rfl
 | a::N=>by
  rw[L5,List.sum_cons,wK f g N,L5,L5,List.sum_cons,List.sum_cons];lia
def gA(A:LN)(c k:List Nat):Int:=(kz A (k,c)).getD 0
def jiZ{r A}(h:¬ r.1∈A.map (·.1))(c k):gA (r::A) c k=(if r.1=(k,c) then r.2 else 0)+gA A c k:=by
 unfold gA;rw[kz];by_cases e:r.1=(k,c)
 ·rw[if_pos e,if_pos e];have:∀{l},¬ r.1∈l.map (·.1)->kz l r.1=none:=λ{l} h=>by
   induction l with
   | nil=>rfl
   | cons q l a=>
    rw[L5,M5] at h;rw[kz,if_neg λz=>h<|.inl z.symm,a λz=>h<|.inr z]
  rw[<- e,this h];exact(Int.add_zero _).symm
 ·rw[if_neg e,if_neg e,Int.zero_add]
theorem jaN{C:W1}(b:C.Nodup):∀{A},(A.map (·.1)).Nodup->(∀ r∈A,r.1.1∈CK6->r.1.2∈C)->(C.map λc=>(CK6.map<|gA A c).sum).sum=jjf A
 | [],_,_=>by
  have z:∀{α}(N:List α),(N.map λ_=>(0:Int)).sum=0:=λN=>by induction N with
   | nil=>rfl
   | cons a N d=>rw[L5,List.sum_cons,d];rfl
  exact z C
 | r::A,nd,h=>by
  rw[L5,List.nodup_cons] at nd;rw[kK,<- jaN b nd.2 λq f=>h q<|by simp[f],show(λc=>(CK6.map<|gA (r::A) c).sum)=λc=>(if r.1.2=c then if r.1.1∈CK6 then r.2 else 0 else 0)+(CK6.map<|gA A c).sum from funext λc=>?_,wK,wH b]
  ·by_cases e:r.1.1∈CK6
   ·rw[if_pos<|h r (by simp) e]
   ·rw[if_neg e,ite_self]
  ·rw[funext<|jiZ nd.1 c,wK];congr 1;by_cases e:r.1.2=c
   ·subst e;rw[if_pos rfl,<- wH (by decide)];congr 1;exact List.map_congr_left λk _=>by by_cases z:r.1.1=k<;>simp[Prod.ext_iff,z]
   ·rw[if_neg e,funext λk=>if_neg λz=>e<|by rw[z]];rfl
def jlb{d}(f:DealOk d):(jbg d).Nodup:=by
 have:∀{Q},(∀ p∈Q,p∈d)->(Q.map (·.nm)).Nodup->(jbg Q).Nodup:=λ{Q} h nd=>by
  induction Q with
  | nil=>simp
  | cons p Q g=>
   rw[L5,List.nodup_cons] at nd;obtain⟨X,i,_⟩:=f.ok p<|h p (by simp);rw[jad,X3];refine⟨i.toldn,g (λq c=>h q<|by simp[c]) nd.2,λa j b k e=>?_⟩;subst e;obtain⟨q,c,l⟩:=List.mem_flatMap.mp k;exact nd.1<|M7.mpr ⟨q,c,(f.cl p (h p<|by simp) q (h q<|by simp[c]) a j l).symm⟩
 exact this (λ_ h=>h) f.nmn
def jg4(o bs ln ws):fz (stO o bs ln ws)=qo bs ln ws:=by
 have h:fzs (bs.map<|yQ o)=bs.map (yQ false):=by
  rw[kC,U3];exact List.map_congr_left λx _=>Qt _ _
 simp[stO,qo,h,JQ]
def jcU{o bs ln ws}(h:(o=true/\ln=[])\/o=false):yZ (stO o bs ln ws)=o\/o=false:=by
 rcases h with⟨rfl,rfl⟩ | h
 ·left
  have a:yk (bs.map<|yQ true)=true:=by
   rw[yx,List.all_map,List.all_eq_true];intro x _;exact Vu ..
  simp[stO,a]
 ·exact .inr h
def jh3{a}(b:DealOk a){ds:List Dy}{rs}(v:V1 [.lst false<|a.map<|jL false,.lst false<|ds.map ql]=↑(rs.map jJ))(d:∀ r∈rs,RdOk a r)(n:rs.length<=10):∃(R:List Row),An3 (km [.lst false<|a.map<|jL false,.lst false<|ds.map ql]=↑(R.map Jn)) ((R.map six).sum=JY rs) (R.length<=60):=by
 obtain⟨A,f,q⟩:=YF d n;obtain⟨M,w,l2,x,y⟩:=jcq b d n;obtain⟨o,ln,g,_⟩:=jee b d;have s:∀ p∈a,∃ X,PoolOk X p:=λp z=>by obtain⟨X,C,_⟩:=b.ok p z;exact⟨X,C⟩
 obtain⟨B,h⟩:=KQ b ⟨0,jnT s⟩ d;generalize(Yl (a.map bk0) (zs a) rs).1=bs at g h;generalize(Yl (a.map bk0) (zs a) rs).2=ws at g;have D:=b.len2;have bl:=h.len;obtain⟨R,E,G,H,I,i,j,l,J,e⟩:=jcM (F:=gA A) (λc k=>by rw[JE (k,c)];unfold gA;cases kz A (k,c)<;>rfl) x (a0:=‹a.map (jL false)›) (a1:=‹ds.map ql›) (a2:=‹rs.map jJ›) (A:=[]) (o6:=none) (o7:=none) (o8:=none) (o9:=none) (o10:=none) (o11:=none) (o12:=none) h s (by simp;lia);refine⟨R,?_,by rw[J.1,jaN (jlb b) f.nd f.mem,f.tot],by lia⟩;rw[X9,List.map_nil] at e;have t:=vt b false;have u:=qQ ds;have m:jfS 2 [.lst false<|a.map<|jL false,.lst false<|bs.map<|yQ false]=some (jdV (a.map<|jL false)<|bs.map<|yQ false):=by rw[jo7 rfl rfl<|by simp;lia,t,JV]
 have K:jd (fz<|stO o bs ln ws) (.int 0)=‹bs.map (yQ false)›:=by rw[jg4];rfl
 have L:dLn true A=.dT true (A.map kL) (A.map vL):=rfl;rw[L] at q;simp[km,jy,YO,yO b,t,u,jH _ u,v,Yv rs,KC rs,q,y,g,K,qD bs,m,e,jb]
theorem uC{a0 a2}:∀{log:List LG}{t o3},∃ o3',j8 (jc [] 3) kh (log.map e7) [a0,some<|.int t,a2,o3]=some (.nx [a0,some (.int (t+vA (log.map (·.2.2)))),a2,o3'])
 | [],t,o3=>⟨o3,by rw[show vA (List.map (·.2.2) ([]:List LG))=0 from rfl,Int.add_zero];rfl⟩
 | x::log,t,o3=>by
  obtain⟨o3',e⟩:=uC (o3:=some<|e7 x);refine⟨o3',?_⟩;rw[L5,lpE rfl ?_,e,L5,Ku _ (log.map (·.2.2)),Int.add_assoc];have b:jd (e7 x) (.int 3)=some (.str x.2.2.kd):=rfl;have c:jd (e7 x) (.int 6)=some (.int x.2.2.gt):=rfl;have a:=jaF x.2.2.kd true CK6;rw[show CK6.map D.str=[.str [112,97,114,116],.str [112,97,121],.str [115,104,97,114,101],.str [114,101,112,97,121],.str [114,101,115,116],.str [103,117,97,114,100]] from rfl] at a;rw[yU];by_cases h:x.2.2.kd∈CK6
  ·rw[X5 h] at a;rw[if_pos h];simp[kh,b,c,a,jb]
  ·rw[X6 h] at a;rw[if_neg h,Int.add_zero];simp[kh,b,c,a,jb]
theorem xN{a0}:∀{rs}{t o2 o3},∃ o2' o3',j8 (jc [] 2) qM (rs.map jJ) [a0,some<|.int t,o2,o3]=some (.nx [a0,some<|.int<|t+JY rs,o2',o3'])
 | [],t,o2,o3=>⟨o2,o3,by rw[show JY []=0 from rfl,Int.add_zero];rfl⟩
 | r::rs,t,o2,o3=>by
  obtain⟨p3,a⟩:=uC (a0:=a0) (a2:=some<|jJ r) (log:=r.log) (t:=t) (o3:=o3);obtain⟨o2',o3',e⟩:=xN (o2:=some<|jJ r) (o3:=p3);refine⟨o2',o3',?_⟩;rw[L5,lpE rfl ?_,e,Int.add_assoc]
  ·rfl
  have b:jd (jJ r) (.int 1)=‹r.log.map e7›:=rfl;simp[qM,b,kZ r.log,VV r.log,a]
def jiy(rs):Jc [.lst false<|rs.map jJ]=some (.int<|JY rs):=by
 obtain⟨a,b,e⟩:=xN (a0:=‹rs.map jJ›) (rs:=rs) (t:=0) (o2:=none) (o3:=none);simp[Jc,jy,KB,Yv rs,KC rs,e]
def zc(S:List W2):∀ o,jU (jc [] 0) qT (pF<|p2 jd (pV 0)<|pI 1) (S.map e2) [o]=some ((S.map (·.2)).map D.int):=λo=>by
 rw[U3];exact jq rfl (λρ=>∃ o,ρ=[o]) (by rintro q a ρ ⟨o,rfl⟩;exact⟨[some<|e2 q],rfl,rfl,_,rfl⟩) ⟨o,rfl⟩
noncomputable def jbw(bs:List Bk):Int:=(bs.map (·.x)).sum
def jlp(ds:List Dy)(rs:List RD)(bs:List Bk)(ws:List Int):D:=.tup [.int (ds.map (·.1.sum)).sum,.int<|JY rs,.int<|lvB bs,.int ws.sum,.int<|jbw bs]
theorem jdB{B}:∀{Q bs},Bks B Q bs->(∀ p∈Q,∃ X,PoolOk X p)->∀ b∈bs,b.L.length<=10
 | _,_,.cons h t,c,b,a=>by
  rcases M5.mp a with rfl | a
  ·obtain⟨X,d⟩:=c _ L7;have:=congrArg List.length h.l1;rw[L1,L1] at this;have:=d.marks2
   lia
  ·exact jdB t (λq e=>c q<|L6 _ e) b a
theorem uz:∀ A:LN,VZ (λa _ _=>(Y1 false (kaD a) ye).bind jbR) (λ_ _ n=>.int n) (A.map kL) (A.map vL)=some (((A.filter λr=>decide<|r.1.1∈CK6).map (·.2)).map D.int)
 | []=>rfl
 | r::A=>by
  have b:=jaF r.1.1 true CK6;rw[L5,L5,VZ,uz A];have c:two2 (kL r)=some (.str r.1.1,.str r.1.2):=rfl;have d:vv (vL r)=some r.2:=rfl;have b:Y1 false (kaD<|.str r.1.1) ye=some (.bl<|decide<|r.1.1∈CK6):=b;rw[c,d,L4,L4,b];by_cases h:r.1.1∈CK6
  ·rw[X5 h,List.filter_cons_of_pos ⇑h];rfl
  ·rw[X6 h,List.filter_cons_of_neg ⇑h];rfl
def jev{a}(c:DealOk a){ds}(n:ds.length<=10){rs}(s:V1 [.lst false<|a.map<|jL false,.lst false<|ds.map ql]=↑(rs.map jJ))(f:∀ r∈rs,RdOk a r)(t:rs.length<=10):
  YX [.lst false<|a.map<|jL false,.lst false<|ds.map ql]=some (jlp ds rs (Yl (a.map bk0) (zs a) rs).1 (Yl (a.map bk0) (zs a) rs).2):=by
 obtain⟨A,i,u⟩:=YF f t;obtain⟨o,ln,g,v⟩:=jee c f;have j:∀ p∈a,∃ X,PoolOk X p:=λp w=>by obtain⟨X,y,_⟩:=c.ok p w;exact⟨X,y⟩
 obtain⟨B,e⟩:=KQ c ⟨0,jnT j⟩ f;generalize(Yl (a.map bk0) (zs a) rs).1=bs at g e;generalize(Yl (a.map bk0) (zs a) rs).2=ws at g;have z:=c.len2;have bl:=e.len;have pl:=jdB e j;have k:=qQ ds;have c1:jU (gT 2<|gC (jc [] 0)<|gC (jc [] 1) gN) qT (pCB Yp #[pV 0]) (ds.map ql) [none,none]=some ((ds.map (·.1.sum)).map D.int):=by
  rw[U3];refine jq rfl (λρ=>∃ o l,ρ=[o,l]) ?_ ⟨none,none,rfl⟩;rintro d hd ρ ⟨o,l,rfl⟩;refine⟨[‹d.1.map D.int›,‹d.2.map D.int›],rfl,?_,_,_,rfl⟩;simp
 have C:=uz A;have E:jU (jc [] 0) qT (pCB Yp #[jZ (Jm<|p2 jd (pV 0)<|pI 3) (jc [] 0) qT (pF<|p2 jd (pV 0)<|pI 1) [none]]) (bs.map<|yQ false) [none]=some ((bs.map λb=>(b.L.map (·.2)).sum).map D.int):=by
  rw[U3];refine jq rfl (λρ=>∃ o,ρ=[o]) ?_ ⟨none,rfl⟩;rintro b e ρ ⟨o,rfl⟩;refine⟨[some<|yQ false b],rfl,?_,_,rfl⟩;have F:jd (yQ false b) (.int 3)=‹b.L.map e2›:=rfl;have G:itB (.lst false<|b.L.map e2)=some (b.L.map e2):=by show(bif frzs (b.L.map e2) then some (b.L.map e2) else none)=_;rw[ya];rfl
  have H:lim (b.L.map e2).length=true:=yh (by have:=pl b e;lia);generalize I:b.L.map e2=M at *;have m:=zc b.L none;rw[I] at m;simp[F,G,H,jk,m,-List.map_map]
 have J:jU (jc [] 0) qT (pF<|p2 jd (pV 0)<|pI 4) (bs.map<|yQ false) [none]=some ((bs.map (·.x)).map D.int):=by
  rw[U3];exact jq rfl (λρ=>∃ o,ρ=[o]) (by rintro q W ρ ⟨o,rfl⟩;exact⟨[some<|yQ false q],rfl,rfl,_,rfl⟩) ⟨none,rfl⟩
 have K:lim (ds.map ql).length=true:=yh ∅;have N:lim (bs.map<|yQ false).length=true:=yh ∅;have O:lim (A.map kL).length=true:=yh (by have:=i.len;lia);have P:jd (qo bs ln ws) (.int 0)=‹bs.map (yQ false)›:=rfl;have Q:jd (qo bs ln ws) (.int 2)=‹ws.map D.int›:=rfl;have R:je5 (dLn true A)=some (A.map kL,A.map vL):=rfl;have S:((A.filter λr=>decide<|r.1.1∈CK6).map (·.2)).sum=JY rs:=i.tot;have T:=qD bs;have Y:yZ (stO o bs ln ws)=true\/frz (stO o bs ln ws)=true:=by
  cases o with
  | true=>exact .inl<|(jcU (bs:=bs) (ws:=ws)<|v.elim (λh=>.inl ⟨h.1,h.2.2⟩) λh=>.inr h.1).resolve_right (by simp)
  | false=>exact .inr<|JA bs ln ws
 unfold jlp lvB jbw;rw[<- S];generalize U:ds.map ql=DD at *;generalize V:bs.map (yQ false)=BB,A.map kL=KK at *;simp[YX,jy,jah,yO c,vt c false,k,jH _ k,s,Yv rs,KC rs,g,jg4 o bs ln ws,K,jk,c1,u,R,O,C,P,Q,T,N,E,J,itB,jb,-List.map_map]
def jfw{N}{S:List W2}(a:∀ w∈N,Wd w)(e:S.map (·.1)=N):∀ q∈S,Wd q.1:=λq b=>a _ (by rw[<- e];exact M7.mpr ⟨q,b,rfl⟩)
theorem jhy{B}:∀{Q bs},Bks B Q bs->(∀ p∈Q,∃ X,PoolOk X p)->kG 16 (bs.map<|yQ false)=true
 | _,_,.nil,_=>rfl
 | p::_,_,.cons bk t,h=>by
  obtain⟨X,d⟩:=h p (by simp);show((kG 14 _&&(kG 14 _&&(kG 14 _&&(kG 14 _&&(true&&true)))))&&kG 16 _)=true;have c:∀ w∈p.C,Wd w:=λw a=>by obtain⟨t,b,rfl⟩:=M7.mp a;exact(d.told t b).1
  rw[QR (jfw c bk.s1) 13,QR (jfw c bk.w1) 13,QR (jfw c bk.r1) 13,QR (jfw (λw a=>by obtain⟨t,b,rfl⟩:=M7.mp a;exact(d.marks t b).1) bk.l1) 13,jhy t λq e=>h q<|by simp[e]];rfl
def jlK{f}(j:DealOk f){r}(h:RdOk f r):okE 19 (jJ r)=true:=by
 obtain⟨B,o⟩:=h.b;have g:∀ w∈jfR f,Ch w:=λw s=>by obtain⟨p,i,rfl⟩:=M7.mp s;obtain⟨X,a,_⟩:=j.ok p i;exact a.nm.2
 have t:=jhy o λp i=>by obtain⟨X,a,_⟩:=j.ok p i;exact⟨X,a⟩
 have u:kG 16 (r.ln.map eR)=true:=Vr λd hd=>by
  obtain⟨q,c,rfl⟩:=M7.mp hd;have m:=h.n.mem q c;show kG 15 [.str q.1.1,.str q.1.2,.int q.2]=true;simp[kG,JC<|g _ m.1,JC<|g _ m.2.1]
 have v:kG 16 (r.ws.map D.int)=true:=Vr λd hd=>by obtain⟨q,c,rfl⟩:=M7.mp hd;rfl
 have y:kG 17 (r.log.map e7)=true:=Vr λd hd=>by
  obtain⟨x,a,rfl⟩:=M7.mp hd;obtain⟨q,c,z,e2,e3⟩:=h.e x a;have l:=g q.nm<|M7.mpr ⟨q,c,rfl⟩;rw[<- z] at l;show kG 16 [.str x.1,.str x.2.1,.int x.2.2.pl,.str x.2.2.kd,.str x.2.2.nm,.int x.2.2.nd,.int x.2.2.gt]=true;simp[kG,JC l,JC e2,JC e3.k,JC e3.n]
 show((kG 16 _&&(kG 16 _&&(kG 16 _&&true)))&&(kG 17 _&&true))=true;rw[t,u,v,y];rfl
theorem xi{a0 a1 a2 a3 a7 a8 a9}:∀{ds:List Dy}{t o5 o6},∃ o5' o6',j8 (gT 2<|gC (jc [] 5)<|gC (jc [] 6) gN) JJ (ds.map ql) [a0,a1,a2,a3,some<|.int t,o5,o6,a7,a8,a9]=some (.nx [a0,a1,a2,a3,some (.int (t+(ds.map (·.1.sum)).sum)),o5',o6',a7,a8,a9])
 | [],t,o5,o6=>⟨o5,o6,by rw[show(List.map (λx:Dy=>x.1.sum) []).sum=0 from rfl,Int.add_zero];rfl⟩
 | d::ds,t,o5,o6=>by
  obtain⟨o5',o6',e⟩:=xi (o5:=‹d.1.map D.int›) (o6:=‹d.2.map D.int›);refine⟨o5',o6',?_⟩;rw[L5,lpE rfl ?_,e,L5,List.sum_cons,Int.add_assoc];simp[JJ]
theorem zu{a0 a1 a2 a3 a4 a5 a6}:∀{bs}{k x o9},(∀ b∈bs,b.L.length<=10)->∃ o9',j8 (jc [] 9) Jt (bs.map<|yQ false) [a0,a1,a2,a3,a4,a5,a6,some<|.int k,some<|.int x,o9]=some (.nx [a0,a1,a2,a3,a4,a5,a6,some<|.int<|k+lvB bs,some<|.int<|x+jbw bs,o9'])
 | [],k,x,o9,_=>⟨o9,by rw[show lvB []=0 from rfl,show jbw []=0 from rfl,Int.add_zero,Int.add_zero];rfl⟩
 | b::bs,k,x,o9,h=>by
  obtain⟨o9',e⟩:=zu (bs:=bs) (k:=k+(b.L.map (·.2)).sum) (o9:=some<|yQ false b) λq a=>h q (by simp[a]);refine⟨o9',?_⟩;rw[L5,lpE rfl ?_,e,Int.add_assoc,Int.add_assoc]
  ·rfl
  have c:jd (yQ false b) (.int 3)=‹b.L.map e2›:=rfl;have d:jd (yQ false b) (.int 4)=some (.int b.x):=rfl;have f:itB (.lst false<|b.L.map e2)=some (b.L.map e2):=by show(bif frzs (b.L.map e2) then some (b.L.map e2) else none)=_;rw[ya];rfl
  have g:lim (b.L.map e2).length=true:=yh (by have:=h b (by simp);lia);have i:=zc b.L none;generalize j:b.L.map e2=M at *;simp[Jt,c,d,f,g,jk,i,-List.map_map]
def jn3{b}(c:DealOk b){ds}{rs}(w:V1 [.lst false<|b.map<|jL false,.lst false<|ds.map ql]=↑(rs.map jJ))(j:∀ r∈rs,RdOk b r):
  J2 [.lst false<|b.map<|jL false,.lst false<|ds.map ql]=some (jlp ds rs (Yl (b.map bk0) (zs b) rs).1 (Yl (b.map bk0) (zs b) rs).2):=by
 have l:∀ p∈b,∃ X,PoolOk X p:=λp y=>by obtain⟨X,z,_⟩:=c.ok p y;exact⟨X,z⟩
 obtain⟨B,A⟩:=KQ c ⟨0,jnT l⟩ j;have m:=yO c;have n:=vt c false;have f:=qQ ds;have o:=jH _ f;have s:=Yv rs;have u:=KC rs;have main:∃ ln,(sFz 3<|sIf (dPT<|jj<|p2 Kh (pV 2)<|YE pN) (jt (dP<|pF<|p2 jd (p2 jd (pV 2)<|p1 V2<|pI 1)<|pI 0)<|jc [] 3) jM) [‹b.map (jL false)›,‹ds.map ql›,‹rs.map jJ›,some<|jhJ b,none,none,none,none,none,none] =
   some (.nx [‹b.map (jL false)›,‹ds.map ql›,‹rs.map jJ›,some<|qo (Yl (b.map bk0) (zs b) rs).1 ln (Yl (b.map bk0) (zs b) rs).2,none,none,none,none,none,none]):=by
  cases e:rs.getLast? with
  | none=>
   have C:=List.getLast?_eq_none_iff.mp e;subst C;refine⟨[],?_⟩;have ne:Kh (.lst false []) (.lst true [])=some (.bl false):=rfl;simp[jdT b,ne,Yl,jb]
  | some r=>
   refine⟨r.ln,?_⟩;rw[wb e];have ok:okE 20 (.lst false<|rs.map jJ)=true:=Vr λd hd=>by obtain⟨q,E,rfl⟩:=M7.mp hd;exact jlK c<|j q E
   have ne:Kh (.lst false<|rs.map jJ) (.lst true [])=some (.bl true):=by
    cases rs with
    | nil=>cases e
    | cons a rs=>
     show(bif okE 20 _&&true then some (D.bl<|!eqD _ _) else none)=_;rw[ok];rfl
   have F:V2 (.int 1)=some (.int<|-1):=rfl;have G:jd (jJ r) (.int 0)=some (qo r.bs r.ln r.ws):=rfl;simp[ne,F,jdS e,G,JA r.bs r.ln r.ws,jb]
 obtain⟨ln,main⟩:=main;generalize(Yl (b.map bk0) (zs b) rs).1=bs at *;generalize(Yl (b.map bk0) (zs b) rs).2=ws at *;obtain⟨g,h,H⟩:=xi (a0:=‹b.map (jL false)›) (a1:=‹ds.map ql›) (a2:=‹rs.map jJ›) (a3:=some<|qo bs ln ws) (a7:=none) (a8:=none) (a9:=none) (ds:=ds) (t:=0) (o5:=none) (o6:=none);obtain⟨v,i⟩:=zu (a0:=‹b.map (jL false)›) (a1:=‹ds.map ql›) (a2:=‹rs.map jJ›) (a3:=some<|qo bs ln ws) (a4:=some (.int (ds.map (·.1.sum)).sum)) (a5:=g) (a6:=h) (k:=0) (x:=0) (o9:=none)<|jdB A l;have I:jd (qo bs ln ws) (.int 0)=‹bs.map (yQ false)›:=rfl;have J:jd (qo bs ln ws) (.int 2)=‹ws.map D.int›:=rfl;have K:jt (dP<|jv V1 #[pV 0,pV 1]) (jc [] 2) [‹b.map (jL false)›,‹ds.map ql›,none,none,none,none,none,none,none,none]=some (.nx [‹b.map (jL false)›,‹ds.map ql›,↑(rs.map jJ),none,none,none,none,none,none,none]):=by
  simp[w,m,n,f,o]
 have L:sFz 2 (jt (dP<|jv JG #[pV 0])<|jc [] 3) [‹b.map (jL false)›,‹ds.map ql›,↑(rs.map jJ),none,none,none,none,none,none,none]=some (.nx [‹b.map (jL false)›,‹ds.map ql›,‹rs.map jJ›,some<|jhJ b,none,none,none,none,none,none]):=by
  simp[Qv c,m,n,s,u,KF b]
 unfold jlp;rw[J2,jy];have M:zQ [‹b.map (jL false)›,‹ds.map ql›,none,none,none,none,none,none,none,none]=some (.rt (.tup [.int (ds.map (·.1.sum)).sum,.int<|JY rs,.int<|lvB bs,.int ws.sum,.int<|jbw bs]) [‹b.map (jL false)›,‹ds.map ql›,‹rs.map jJ›,some<|qo bs ln ws,some (.int (ds.map (·.1.sum)).sum),g,h,some<|.int<|lvB bs,some<|.int<|jbw bs,v]):=by
  apply sq K;apply sq L;apply sq main;simp[f,o,H,I,J,qD bs,JV bs,i,s,u,jiy rs,jb]
 simp[M]
def jf3(ns:List Int)(W:ns.length<=63)(u:∀ x∈ns,Builtin.Int.intBits x<=2 ^ 20):jbK [.lst false<|ns.map D.int]=some (.bl true):=by
 obtain⟨_,_,B,_,E,f⟩:=ji6 u;have w:=yO f;have Z:=f.len2;obtain⟨Y,F,G,g⟩:=jjZ u (by rw[L1];lia) w;rw[L1] at g;have z:=qQ Y;have j:∀ y∈Y,FlowOk B.length y.1 y.2:=λy h=>by
  have q:=g y h;exact⟨q.a,q.b,λv l=>by have:=q.a0 v l;lia,λv l=>(q.b0 v l).1⟩
 obtain⟨A,m,H,i,I⟩:=jl8 f j G;obtain⟨R,J,K,hR⟩:=jh3 f m i ∅;have s:=jev f ∅ m i ∅;have t:=jn3 f m i;have s2:jV [.lst false<|B.map<|jL false,.lst false<|B.map<|jL false]=some (.bl true):=wy<|J4 (vC ∅ λp L=>by obtain⟨X,M,_⟩:=f.ok p L;exact jmf M) (by decide);have N:jV [.lst false<|Y.map ql,.lst false<|Y.map ql]=some (.bl true):=wy<|J4 (vC ∅ λy h=>jpT (k:=10) (by decide) (by have:=(g y h).a;lia)<|by have:=(g y h).b;lia) (by decide);unfold jlp at s t;generalize(Yl (B.map bk0) (zs B) A).1=bs at *;generalize(Yl (B.map bk0) (zs B) A).2=ws at *;have s1:∀ a b c d e:Int,jV [.tup [.int a,.int b,.int c,.int d,.int e],.tup [.int a,.int b,.int c,.int d,.int e]]=some (.bl true):=λa b c d e=>wy<|J4 (n:=2) (by simp[pln]) (by decide);have c1:jU (jc [] 0) qT (pCB jcQ #[pSl (pV 0) (oS<|pI 2)<|oS<|pI 8]) (R.map Jn) [none]=some ((R.map six).map D.int):=by
  rw[U3];refine jq rfl (λρ=>∃ o,ρ=[o]) ?_ ⟨none,rfl⟩;rintro r i ρ ⟨o,rfl⟩;exact⟨[some<|Jn r],rfl,rfl,_,rfl⟩
 have C:frzs (R.map Jn)=true:=yM (λ_=>rfl) _;have O:yk (R.map Jn)=true:=by rw[yx,List.all_map,List.all_eq_true];intro x _;rfl
 have P:lim (R.map Jn).length=true:=yh ∅;rw[<- I] at s t;have Q:∀ a b c d e:D,jd (.tup [a,b,c,d,e]) (.int 0)=some a:=λ_ _ _ _ _=>rfl;have T:∀ a b c d e:D,jd (.tup [a,b,c,d,e]) (.int 1)=some b:=λ_ _ _ _ _=>rfl;have U:∀ a b c d e:D,jd (.tup [a,b,c,d,e]) (.int 2)=some c:=λ_ _ _ _ _=>rfl;have V:∀ a b c d e:D,jd (.tup [a,b,c,d,e]) (.int 3)=some d:=λ_ _ _ _ _=>rfl;generalize(R.map six)=S at *;generalize R.map Jn=RR at *;simp[jbK,jy,jnM,Q,T,U,V,vj ns,Yi ns,E,F,w,vt f false,z,jH _ z,s,t,s1,s2,N,J,C,jH _ C,O,itB,P,jk,c1,K,jb]
end K52
set_option maxHeartbeats 0
namespace K52
open PySem L2 QD
def kinds{K:W4}{a:Addr}{n:Nat}{s:Array (Option Value)}{b c d e f g:Tok}(h:K.lookup a=some ⟨.type "tuple",none,.seq (List.toArray [.str "part" b,.str "pay" c,.str "share" d,.str "repay" e,.str "rest" f,.str "guard" g]) n,s⟩)(cl:Nat->Addr)(Z:Zn)(H:Hp):Rep ⟨K,cl⟩ Z H ye (.ref a) []:=jeP (xs:=["part","pay","share","repay","rest","guard"]) (ts:=[b,c,d,e,f,g]) (ws:=[[112,97,114,116],[112,97,121],[115,104,97,114,101],[114,101,112,97,121],[114,101,115,116],[103,117,97,114,100]]) (by decide +kernel) h rfl (by decide) cl Z H
def all_mk{l:PySem.W.OpenLaw}{w:World}{K:W4}{mg:W6}{fa a b:Addr}(hfa:mg "law" = some (.ref fa))(_:PySem.W.nsIn K mainGlobals "Fall" = some (some<|.ref a))(_:PySem.W.nsIn K mainGlobals "CLAIM_KINDS" = some (some<|.ref b))(T:Txt l.prog w K mg (λ_=>a) b):∃ fd:FuncData,(∀(s:Shared) (v:Value),BindsTo s fd ⟨[v],[]⟩ [("_law_script",v)])/\∀ base:Heap,K.In base->base.Ns mainGlobals mg->FnOk l.prog w K mg base CX0 10 fa fd ["_law_script"] (λvs H Q E=>∀ C:Addr,spP ⟨K,λ_=>C⟩ jbK 1 vs H Q E):=by
 obtain⟨f',fd',F',G'⟩:=(jnr T).2.2.2.2.2.2.2.2.2;cases hfa.symm.trans F'.mgf;obtain⟨⟨oc,od,kV,doc,pm,an,cdv,ct,osl,rfl,_,_⟩,_⟩:=F'.fn;exact⟨_,λs v=>.of_eq rfl,λbase _ _=>(G' base).imp λvs H Q E h=>h a⟩
def walk{l:PySem.W.OpenLaw}{q:Program}{loose:List Str}{XP:(Str->Option Value)->Heap->Prop}{YP:World->Heap->Prop}{d:DefRec}{K:Params->PySem.W.Frag}(hn:l.most=some 63)(hdf:d.params.defaults=[])
  (hY:∀(w:World) (h:Heap),YP w h->(K w.params).In h)
  (F:∀(w:World) (mg:W6) (fa:Addr) (h:Heap),(K w.params).In h->h.Ns mainGlobals mg->mg d.name=some (.ref fa) ->
   ∃ fd:FuncData,(∀(s:Shared) (u:Value),BindsTo s fd ⟨[u],[]⟩ [("_law_script",u)])/\∀ base:Heap,(K w.params).In base->base.Ns mainGlobals mg->FnOk l.prog w (K w.params) mg base CX0 10 fa fd ["_law_script"] (λvs H Q E=>∀ C:Addr,spP ⟨K w.params,λ_=>C⟩ jbK 1 vs H Q E)):
  PySem.W.WalkO q loose XP YP l.row.toRowW d [] (λf vs=>PySem.call f vs):=
 L2.walk_ofB (n:=63) (k:=10) (x:="_law_script") (CX:=λ_=>CX0) (sp:=λw=>(λvs H Q E=>∀ C:Addr,spP ⟨K w.params,λ_=>C⟩ jbK 1 vs H Q E)) hn (by decide) hdf ⟨rfl,by decide,by decide⟩ hY F (λ_ H a ns hl hb _ hS=>λC=>jnV (jf3 ns hl hb) hS) λ_ _ _ _ _ z=>z
end K52
namespace PySem.W.Fast
def tw17050433076653466106:=0
def tw14065510731900351076:=0
def tw11927262935657443807:=0
def tw70715429482400994:=0
def tw14703233651311250551:=0
def tw7380367289334168288:=0
def tw9990494287204516826:=0
def tw5841678599675847440:=0
def tw16124590212044283804:=0
def tw2853103050197903142:=0
def tw2350032685315476771:=0
def tw6698114103976780003:=0
def tw18104949127482653742:=0
def tw4227015171379049507:=0
def tw4752280691706353544:=0
def tw15997130553488701636:=0
def tw11976005869147034177:=0
def tw15810057102199556654:=0
def tw2618987669441198832:=0
def tw6976220250044467072:=0
def tw11925192529273170133:=0
def tw15390548754461499067:=0
def tw112466773403964439:=0
def tw6846536184660843515:=0
def tw8902745149279118170:=0
def tw11745114692274799921:=0
def tw18300654562235638244:=0
def tw12661284622091540497:=0
def tw11405335202136594824:=0
def tw13088771866737982831:=0
def tw1754523710115813318:=0
def tw17728559810678446837:=0
def tw9956167753692376332:=0
def tw1460490340864630034:=0
def tw15080735234800251953:=0
def tw1161255367006479218:=0
def tw918145300781295390:=0
def tw14226518243835514142:=0
def tw14924312387044521327:=0
def tw2064845250845806915:=0
def tw8819470872619452484:=0
def tw7015505727706121678:=0
def tw17871568026765683914:=0
def tw6791051288070296977:=0
def tw622676689385116567:=0
def tw10284541575461210628:=0
def tw5156402340134254933:=0
def tw7931149033255637832:=0
def tw3662852736836083369:=0
def tw8248470124389925038:=0
def tw7773513253394822119:=0
def tw36090454692471315:=0
def tw12961454929003563113:=0
def tw13272592732914131529:=0
def tw8455294902136600268:=0
def tw2677984065342137732:=0
def tw10511839974372282397:=0
def tw8834387746986764191:=0
def tw12286441331708985897:=0
def tw17401206308959602157:=0
def tw5150779911908702905:=0
def tw17616296414287418187:=0
def tw12026632009328645935:=0
def tw7465032812769522110:=0
def tw11059348710041868759:=0
def tw14930778004995634914:=0
def tw15969882956603363884:=0
def tw12915721159061036470:=0
def tw5258727661094277838:=0
def tw2893262639182796521:=0
def tw9280088394893711371:=0
def tw14493624855546149179:=0
def tw13892999601009385928:=0
def tw7650002611315297095:=0
def tw15298650714793573559:=0
def tw12924376704720155019:=0
def tw1613202031064804222:=0
def tw4466276933651157571:=0
def tw16176896747355950393:=0
def tw4111927971915137366:=0
def tw4175690218932332897:=0
def tw4535641734017523813:=0
def tw11359501384509981663:=0
def tw12818948022162816431:=0
def tw1108790631979346030:=0
def tw5101153456473162134:=0
def tw9845949879217628791:=0
def tw11805674038621404430:=0
def tw1093414654207285970:=0
def tw12611929210399542127:=0
def tw6586598186128862306:=0
def tw9332647107383388591:=0
def tw1488537166620137641:=0
def tw3027662094722280083:=0
def tw18203887008904687412:=0
def tw12423146688368386973:=0
def tw12483407350637947151:=0
def tw16534078726876821959:=0
def tw1266702193042029638:=0
def tw5316586193130316909:=0
def tw8614139193611563257:=0
def tw13736151613803532705:=0
def tw2025425214291854643:=0
def tw10232529660393128842:=0
def tw9732408768541787602:=0
def tw14874349256601296254:=0
def tw15109026826560323194:=0
def tw7974760960227000420:=0
def tw13960306486806321354:=0
def tw3974607818792096309:=0
def tw6981069304245558141:=0
def tw11904961248428413102:=0
def tw15930562766945880903:=0
def tw3992605249734643880:=0
def tw2136327979430967530:=0
def tw11854032668518024976:=0
def tw2474307104697341529:=0
def tw331342606759707514:=0
def tw7946807336306506127:=0
def tw529073425511375751:=0
def tw11597908675608851451:=0
def tw790695393534698109:=0
def tw6457859303402002404:=0
def tw1257715312395013493:=0
def tw17999415767316247259:=0
def tw4823396462556536186:=0
def tw4592381826204958116:=0
def tw13083143616406218749:=0
end PySem.W.Fast
set_option maxHeartbeats 0
open PySem PySem.W PyProof.Rows
set_option maxRecDepth 100000 in
set_option maxHeartbeats 0 in
theorem PySem.Challenge.cw_tranchefall_k52_the_ledger_holds : PySem.Challenge.rw_tranchefall_k52_the_ledger.Holds := by
 w_on;o_law;k_head;(case hw=>w_witness2)
 k_fill
 refine K52.walk (l:=PySem.Challenge.rw_tranchefall_k52_the_ledger) rfl rfl (λw h Y=>PySem.W.kIn_of Y) ?F
 case F =>
  intro w mg fa h KX G hmg;refine' K52.all_mk hmg ?c ?d ?t
  (case c | d=>k_is)
  case t =>
   constructor
   all_goals first
    | ((first | refine⟨QD.fsc,QD.hasF KX G (by k_is) (by k_is) (by k_is) (by k_is) ?_⟩ | refine⟨QD.fsc,QD.hasM (by k_is) (by k_is) (by k_is) (by k_is) (by k_is) ?_⟩);intro _ _ _ _ _ _;(repeat refine QD.uS λ_=>?_);exact QD.u0 rfl)
    | exact K52.kinds (by k_is) | exact PySem.W.mg_none_of KX G (by k_is) | exact PySem.W.mg_of KX G (by k_is) | exact⟨by k_is,by k_is,by k_is,by k_is⟩ | k_is | (show PySem.W.findIn _ _ _=_;k_is)
