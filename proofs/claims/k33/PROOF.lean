import PyProof.Rows.All
import Wide.All
import OpenK.AllK
import Wide.FinOn
import Lean
import PyProof.EqAt
import PyProof.EqKinds
import PyProof.TupleCall
import KE.KItemsList
import KE.KRevIter
import PyProof.CollectIter
import PyProof.DictWalks
import PyProof.WalksMore
import PyProof.SumWalkG
import KE.KSortTup
import PyProof.Draws
import KE.KTupSum
import PySem.Challenge.RW_tranchefall_k33_loans_and_what_waits
set_option Elab.async false
set_option linter.all false
set_option compiler.extract_closed false
set_option genSizeOf false
noncomputable section
local macro_rules|`(↥$x)=>`(($x).heap.objs.size)|`(⇑$x)=>`(by simpa using $x)|`(∅)=>`(by lia)
section
open PySem PySem.Spec PyProof.Rows
abbrev L1:=@List.length_map
abbrev L3:=@wpAny_bind
abbrev L4:=@Option.bind_some
abbrev L5:=@List.map_cons
abbrev L6:=@List.mem_cons_of_mem
abbrev L7:=@List.mem_cons_self
abbrev L8:=@Heap.get?_push_of_some
abbrev L9:=@List.getElem?_eq_some_iff
abbrev M0:=@Bool.and_eq_true
abbrev M1:=@List.length_cons
abbrev M3:=@Bool.false_ne_true
abbrev M4:=@List.mem_cons
abbrev M5:=@List.mem_map
abbrev M6:=@wpAny_pure
abbrev M7:=@List.mem_singleton
abbrev M8:=@Nat.le_refl
abbrev M9:=@List.append_nil
abbrev N0:=@Heap.lt_size
abbrev N1:=@List.mem_append
abbrev N2:=@List.size_toArray
abbrev N3:=@List.length_append
abbrev N4:=@List.map_append
abbrev N5:=@Nat.ne_of_lt
abbrev N6:=@Nat.le_trans
abbrev N7:=@Int.toNat_natCast
abbrev N8:=@Int.emod_lt_of_pos
abbrev N9:=@Int.emod_nonneg
abbrev U0:=@List.map_map
abbrev U1:=@beq_eq_false_iff_ne
abbrev U2:=@List.mem_append_right
abbrev U3:=@Nat.lt_of_lt_of_le
abbrev U4:=@Nat.zero_le
abbrev U5:=@wpAny_field
abbrev U6:=@List.zip_cons_cons
abbrev U7:=@List.count_append
abbrev U8:=@List.nodup_append
abbrev U9:=@List.foldl_cons
abbrev X0:=@decide_eq_true
abbrev X1:=@decide_eq_false
abbrev X2:=@of_decide_eq_true
abbrev X3:=@Option.some.inj
abbrev X4:=@List.nil_append
abbrev X5:=@List.getElem?_eq_getElem
abbrev X6:=@List.length_take
abbrev X7:=@Heap.get?_push_size
abbrev X8:=@Nat.lt_of_le_of_lt
end
abbrev J0:=PySem.Value->PySem.Shared->Prop
abbrev W0:=List (PySem.Addr×PySem.Obj)
abbrev W1:=List (List Nat)
abbrev W4:=PySem.W.Frag
abbrev W5:=List PySem.Addr
abbrev W6:=PySem.Str->Option PySem.Value
namespace L2
inductive Ex2 {α β:Type}(P:α->β->Prop):Prop | mk:∀ x0 x1,P x0 x1->Ex2 P
inductive Ex3 {α β γ:Type}(P:α->β->γ->Prop):Prop | mk:∀ x0 x1 x2,P x0 x1 x2->Ex3 P
inductive Ex4 {α β γ δ:Type}(P:α->β->γ->δ->Prop):Prop | mk:∀ x0 x1 x2 x3,P x0 x1 x2 x3->Ex4 P
inductive Ex5 {α β γ δ ε:Type}(P:α->β->γ->δ->ε->Prop):Prop | mk:∀ x0 x1 x2 x3 x4,P x0 x1 x2 x3 x4->Ex5 P
inductive Ex6 {α β γ δ ε ζ:Type}(P:α->β->γ->δ->ε->ζ->Prop):Prop | mk:∀ x0 x1 x2 x3 x4 x5,P x0 x1 x2 x3 x4 x5->Ex6 P
inductive Ex8 {α β γ δ ε ζ η θ:Type}(P:α->β->γ->δ->ε->ζ->η->θ->Prop):Prop | mk:∀ x0 x1 x2 x3 x4 x5 x6 x7,P x0 x1 x2 x3 x4 x5 x6 x7->Ex8 P
inductive Ex9 {α β γ δ ε ζ η θ ι:Type}(P:α->β->γ->δ->ε->ζ->η->θ->ι->Prop):Prop | mk:∀ x0 x1 x2 x3 x4 x5 x6 x7 x8,P x0 x1 x2 x3 x4 x5 x6 x7 x8->Ex9 P
inductive Ex12 {α β γ δ ε ζ η θ ι κ μ ν:Type}(P:α->β->γ->δ->ε->ζ->η->θ->ι->κ->μ->ν->Prop):Prop | mk:∀ x0 x1 x2 x3 x4 x5 x6 x7 x8 x9 x10 x11,P x0 x1 x2 x3 x4 x5 x6 x7 x8 x9 x10 x11->Ex12 P
inductive An2 (a b:Prop):Prop | mk:a->b->An2 a b
inductive An3 (a b c:Prop):Prop | mk:a->b->c->An3 a b c
inductive An4 (a b c d:Prop):Prop | mk:a->b->c->d->An4 a b c d
inductive An5 (a b c d e:Prop):Prop | mk:a->b->c->d->e->An5 a b c d e
inductive An6 (a b c d e f:Prop):Prop | mk:a->b->c->d->e->f->An6 a b c d e f
inductive An7 (a b c d e f g:Prop):Prop | mk:a->b->c->d->e->f->g->An7 a b c d e f g
inductive An8 (a b c d e f g h:Prop):Prop | mk:a->b->c->d->e->f->g->h->An8 a b c d e f g h
end L2
set_option maxRecDepth 100000
namespace L2
open PySem PySem.Spec PyProof.Rows
noncomputable abbrev Key:=Sum Int Str
noncomputable def uR:Key->Value->Bool
 | .inl k,v=>Value.isInt k v
 | .inr x,v=>Value.isStrOf x v
noncomputable def jpq(w:World):Key->Int
 | .inl k=>hashInt k
 | .inr x=>hashStr w x
def jO:∀{k}{v},uR k v=true->(∃ i t,k=Sum.inl i/\v=Value.int i t)\/(∃ x t,k=Sum.inr x/\v=Value.str x t)
 | .inl i,v,h=>by
  obtain⟨t,e⟩:=Value.isInt_shape h;exact .inl ⟨i,t,rfl,e⟩
 | .inr x,v,h=>by
  obtain⟨t,e⟩:=Value.isStrOf_shape h;exact .inr ⟨x,t,rfl,e⟩
def jcC(i)(t):uR (.inl i) (.int i t)=true:=by simp[uR,Value.isInt]
def jaU(x)(t):uR (.inr x) (.str x t)=true:=by simp[uR,Value.isStrOf]
def jjP(a b):decide ((Sum.inl a:Key)=Sum.inl b)=(a==b):=by
 by_cases e:a=b
 ·subst e;simp
 ·have h:¬ (Sum.inl a:Key)=Sum.inl b:=λq=>e<|Sum.inl.inj q;rw[X1 h];exact(U1.mpr e).symm
def jl7(a b):decide ((Sum.inr a:Key)=Sum.inr b)=decide (a=b):=by
 by_cases e:a=b
 ·subst e;simp
 ·have h:¬ (Sum.inr a:Key)=Sum.inr b:=λq=>e<|Sum.inr.inj q;rw[X1 h,X1 e]
def jmx(a)(b):decide ((Sum.inl a:Key)=Sum.inr b)=false:=X1 (λq=>nomatch q)
def jkk(a)(b):decide ((Sum.inr a:Key)=Sum.inl b)=false:=X1 (λq=>nomatch q)
def jQ(prog)(w):PySem.KeyKind prog w Key where
 is:=uR
 hash:=jpq w
 inj:=λv a b ha hb=>by
  rcases jO ha with⟨i,t,rfl,rfl⟩ | ⟨x,t,rfl,rfl⟩
  ·rcases jO hb with⟨j,u,rfl,e⟩ | ⟨y,u,rfl,e⟩
   ·injection e with e1 _;rw[e1]
   ·exact nomatch e
  ·rcases jO hb with⟨j,u,rfl,e⟩ | ⟨y,u,rfl,e⟩
   ·exact nomatch e
   ·injection e with e1 _;rw[e1]
 byValue:=λk v h=>by
  rcases jO h with⟨i,t,rfl,rfl⟩ | ⟨x,t,rfl,rfl⟩<;>rfl
 pyHash:=λhv h=>by
  rcases jO hv with⟨i,t,rfl,rfl⟩ | ⟨x,t,rfl,rfl⟩
  ·exact wpAny_pyHash_int h
  ·exact wpAny_pyHash_str h
 eqBool:=λhu hv h=>by
  rcases jO hu with⟨i,t,rfl,rfl⟩ | ⟨x,t,rfl,rfl⟩
  ·rcases jO hv with⟨j,u,rfl,rfl⟩ | ⟨y,u,rfl,rfl⟩
   ·rw[jjP] at h;exact wpAny_eqBool_int h
   ·rw[jmx] at h;exact SeqAt.EqAt.int_str i t y u _ _ _ _ h
  ·rcases jO hv with⟨j,u,rfl,rfl⟩ | ⟨y,u,rfl,rfl⟩
   ·rw[jkk] at h;exact SeqAt.EqAt.str_int x t j u _ _ _ _ h
   ·rw[jl7] at h;exact wpAny_eqBool_str h
 «strs»:=λk x t v h=>by
  rcases jO h with⟨i,u,rfl,e⟩ | ⟨y,u,rfl,e⟩
  ·exact nomatch e
  ·injection e with e1 _;subst e1;cases v<;>rfl
def zY(prog)(w)(i)(t):(jQ prog w).is (.inl i) (.int i t)=true:=jcC i t
def zV(prog)(w)(x)(t):(jQ prog w).is (.inr x) (.str x t)=true:=jaU x t
inductive V where
 | non | bl (b:Bool) | int (i:Int) | str (x:Str) | byt (b:Array UInt8) | flt (b:UInt64) | ref (a:Addr) | ty (n:String)
 deriving DecidableEq
def RelV:V->Value->Prop
 | .non,u=>u=Value.none
 | .bl b,u=>u=Value.bool b
 | .int i,u=>∃ t,u=Value.int i t
 | .str x,u=>∃ t,u=Value.str x t
 | .byt b,u=>∃ t,u=Value.bytes b t
 | .flt b,u=>∃ t,u=Value.float b t
 | .ref a,u=>u=Value.ref a
 | .ty n,u=>u=Value.type n
abbrev Vals:List V->List Value->Prop:=Paired RelV
def Vals.length(r:Vals xs us):xs.length=us.length:=Paired.length r
theorem Vals.get:∀{xs}{us}{i:Nat}{x},Vals xs us->xs[i]?=some x->∃ u,us[i]?=some u/\RelV x u
 | _,_,_,_,.nil,e=>by simp at e
 | _,_,0,_,.cons r _,e=>by simp at e;subst e;exact⟨_,rfl,r⟩
 | _,_,i+1,x,.cons _ t,e=>by
  obtain⟨u,a,b⟩:=Vals.get t ⇑e;exact⟨u,by simpa using a,b⟩
theorem Vals.set(r:RelV x u):∀{xs}{us} i,Vals xs us->Vals (xs.set i x) (us.set i u)
 | _,_,_,.nil=>.nil
 | _,_,0,.cons _ t=>.cons r t
 | _,_,i+1,.cons q t=>.cons q<|Vals.set r i t
theorem Vals.append:∀{xs ys}{us ws},Vals xs us->Vals ys ws->Vals (xs++ys) (us++ws)
 | _,_,_,_,.nil,s=>s
 | _,_,_,_,.cons r t,s=>.cons r<|Vals.append t s
theorem Vals.take:∀{xs}{us} n,Vals xs us->Vals (xs.take n) (us.take n)
 | _,_,0,_=>.nil
 | _,_,_+1,.nil=>.nil
 | _,_,n+1,.cons r t=>.cons r<|Vals.take n t
theorem Vals.drop:∀{xs}{us} n,Vals xs us->Vals (xs.drop n) (us.drop n)
 | _,_,0,r=>r
 | _,_,_+1,.nil=>.nil
 | _,_,n+1,.cons _ t=>Vals.drop n t
def RelO:Option V->Option Value->Prop
 | some v,some u=>RelV v u
 | none,none=>True
 | _,_=>False
def KV{κ}:List (κ×V)->List (κ×Value)->Prop:=Paired λp q=>p.1=q.1/\RelV p.2 q.2
noncomputable def kV:Key->V
 | .inl i=>.int i
 | .inr x=>.str x
inductive HO where
  | lst (xs:List V)
  | tup (xs:List V)
  | dK (kvs:List (Key×V)) | dT (kvs:List (List Key×V))
  | set (S:Int->Bool) (n:Nat)
  | ins (C dx:Addr) (fs:List (Str×V))
  | own (x:Addr)
  | xd (fs:List (Str×V))
  | met (f x:Addr)
  | rng (lo hi:Int)
  | frz (o:Obj) (u:HO)
  | tbl (ps:Array Value)
  | ext (φ:Heap->Prop)
noncomputable abbrev Hp:=Addr->Option HO
noncomputable def upd(H:Hp)(a:Addr)(o:HO):Hp:=λb=>if b=a then some o else H b
def jk:upd H a o a=some o:=by unfold upd;rw[if_pos rfl]
def je(h:b≠a):upd H a o b=H b:=by unfold upd;rw[if_neg h]
def jde:upd (upd H a o) a u=upd H a u:=by
 funext b;unfold upd;split<;>rfl
def jnT{H:Hp}{a b}{o u}(h:H a=some o)(h':H b=some u)(d:o≠u):a≠b:=by
 intro e;subst e;rw[h] at h';exact d<|X3 h'
def vW{H:Hp}{a b}{o}(h:H a=some o)(h':H b=none):a≠b:=by
 intro e;subst e;rw[h] at h';cases h'
def IsTupN(h:Heap)(a:Addr)(its:Array Value):Prop:=IsTup h a its/\∃ o,h.get? a=some o/\o.dict=none
def IsTupN.new(h:Heap)(its):IsTupN (h.push {cls:=.type "tuple",data:=.seq its}) h.objs.size its:=⟨IsTup.new h its,_,X7 _ rfl,rfl⟩
def IsTupN.lt(x:IsTupN h a its):a<h.objs.size:=x.1.lt
section
variable (P:Program)(w:World)
def ObjOk(H:Hp)(h:Heap)(a:Addr):HO->Prop
 | .lst xs=>xs.length<=sizeLine/\∃ its n,Vals xs its/\h.get? a=some {cls:=.type "list",data:=.seq its.toArray n}
 | .tup xs=>xs.length<=sizeLine/\∃ its:List Value,Vals xs its/\IsTupN h a its.toArray
 | .dK kvs=>kvs.length<=sizeLine/\(a==sysModules)=false/\∃ vs,KV kvs vs/\h.DictOf (jQ P w) a vs
 | .dT kvs=>kvs.length<=sizeLine/\(a==sysModules)=false/\∃ xs:List (List Key×Addr×Value),
   Paired (λp q=>p.1=q.1/\H q.2.1=some (.tup<|p.1.map kV)/\RelV p.2 q.2.2) kvs xs /\
   ∃ o es ep,h.get? a=some o/\o.ExactDict/\o.data=.dict es ep/\es.toList=xs.map (entryOfKey<|tupleKind<|jQ P w)/\(xs.map (·.1)).Nodup
 | .set S n=>h.SetOf (intKind P w) a S n
 | .ins C dx fs=>H dx=some (.own a)/\fs.length<=1000/\dx≠a/\h.get? a=some (PySem.W.instObj C dx) /\
   ∃ mA,h.Ns1 dx mA/\(∀ f,RelO (fs.lookup f)<|mA f)/\PySem.Within mA (fs.map (·.1))
 | .own _=>∃ o,h.get? a=some o
 | .xd fs=>∃ mA,h.Ns1 a mA/\∀ f,RelO (fs.lookup f)<|mA f
 | .rng lo hi=>∃ t u v,h.get? a=some {cls:=.type "range",data:=.fields #[.int lo t,.int hi u,.int 1 v]}
 | .frz o u=>h.get? a=some o/\ObjOk H h a u
 | .tbl ps=>h.get? a=some {cls:=.none,data:=.fields ps}
 | .met f x=>h.get? a=some (PySem.W.methodObj (.ref f)<|.ref x)
 | .ext φ=>φ h/\(∃ o,h.get? a=some o)/\∀ h1 h2:Heap,φ h1->(∀ o,h1.get? a=some o->h2.get? a=some o)->φ h2
def HOk(H:Hp)(h:Heap):Prop:=∀ a o,H a=some o->ObjOk P w H h a o
end
section
variable {P:Program}{w:World}{H H':Hp}{h h':Heap}{a:Addr}{o:HO}
def ObjOk.lt(x:ObjOk P w H h a o):a<h.objs.size:=by
 cases o with
 | lst c=>obtain⟨_,_,_,_,e⟩:=x;exact N0 e
 | tup c=>obtain⟨_,_,_,p⟩:=x;exact p.lt
 | dK b=>obtain⟨_,_,_,_,o,_,_,e,_⟩:=x;exact N0 e
 | dT b=>obtain⟨_,_,_,_,o,_,_,e,_⟩:=x;exact N0 e
 | set S n=>obtain⟨o,_,_,_,e,_⟩:=x;exact N0 e
 | ins C d fs=>obtain⟨_,_,_,e,_⟩:=x;exact N0 e
 | own y=>obtain⟨_,e⟩:=x;exact N0 e
 | xd fs=>obtain⟨_,⟨_,_,_,e,_⟩,_⟩:=x;exact N0 e
 | rng lo hi=>obtain⟨_,_,_,e⟩:=x;exact N0 e
 | frz ob u=>obtain⟨e,_⟩:=x;exact N0 e
 | tbl g=>exact N0<|x
 | met f y=>exact N0<|x
 | ext φ=>obtain⟨_,⟨_,e⟩,_⟩:=x;exact N0 e
theorem Paired.mapP:∀{l₁}{l₂},Paired F l₁ l₂->(∀ a b,F a b->G a b)->Paired G l₁ l₂
 | _,_,.nil,_=>.nil
 | _,_,.cons r t,f=>.cons (f _ _ r)<|Paired.mapP t f
def ObjOk.stay(x:ObjOk P w H h a o)(k:∀ b u,(b=a\/H b=some (.own a))->h.get? b=some u->h'.get? b=some u)
  (B:∀ b,H b=some (.own a)->H' b=some (.own a)) (D:∀ b xs,H b=some (.tup xs)->H' b=some (.tup xs)):ObjOk P w H' h' a o:=by
 induction o with
 | lst xs=>obtain⟨z,j,n,r,e⟩:=x;exact⟨z,j,n,r,k _ _ (.inl rfl) e⟩
 | tup xs=>obtain⟨z,j,r,⟨ob,e,c⟩,l,e2,E⟩:=x;exact⟨z,j,r,⟨ob,k _ _ (.inl rfl) e,c⟩,l,k _ _ (.inl rfl) e2,E⟩
 | dK m=>obtain⟨z,y,vs,r,ob,g,i,e,c⟩:=x;exact⟨z,y,vs,r,ob,g,i,k _ _ (.inl rfl) e,c⟩
 | dT m=>
  obtain⟨z,y,xs,r,ob,g,i,e,c⟩:=x;exact⟨z,y,xs,Paired.mapP r λp q z=>⟨z.1,D _ _ z.2.1,z.2.2⟩,ob,g,i,k _ _ (.inl rfl) e,c⟩
 | set S n=>obtain⟨ob,g,i,t,e,c⟩:=x;exact⟨ob,g,i,t,k _ _ (.inl rfl) e,c⟩
 | ins C G fs=>
  obtain⟨d,z,ne,e,s,⟨od,g,i,e2,c⟩,r⟩:=x;exact⟨B _ d,z,ne,k _ _ (.inl rfl) e,s,⟨od,g,i,k _ _ (.inr d) e2,c⟩,r⟩
 | own y=>obtain⟨ob,e⟩:=x;exact⟨ob,k _ _ (.inl rfl) e⟩
 | xd fs=>obtain⟨s,⟨od,g,i,e,c⟩,r⟩:=x;exact⟨s,⟨od,g,i,k _ _ (.inl rfl) e,c⟩,r⟩
 | rng lo hi=>obtain⟨t,u,v,e⟩:=x;exact⟨t,u,v,k _ _ (.inl rfl) e⟩
 | frz ob u F=>obtain⟨e,q⟩:=x;exact⟨k _ _ (.inl rfl) e,F q⟩
 | tbl I=>
  have e:=x;exact k a _ (.inl rfl) e
 | met f y=>
  have e:=x;exact k a _ (.inl rfl) e
 | ext φ=>obtain⟨p,⟨o,e⟩,A⟩:=x;exact⟨A _ _ p λo q=>k _ _ (.inl rfl) q,⟨o,k _ _ (.inl rfl) e⟩,A⟩
def HOk.lt(x:HOk P w H h)(e:H a=some o):a<h.objs.size:=(x a o e).lt
def HOk.fresh(x:HOk P w H h)(e:h.objs.size<=a):H a=none:=by
 cases q:H a with
 | none=>rfl
 | some u=>exact absurd (U3 (x.lt q) e)<|Nat.lt_irrefl _
def HOk.kept(x:HOk P w H h)(k:∀ b u,h.get? b=some u->h'.get? b=some u):HOk P w H h':=λa o e=>
 (x a o e).stay (λb u _ q=>k b u q) (λ_ q=>q) λ_ _ q=>q
def HOk.laid(x:HOk P w H h)(k:∀ b u,h.get? b=some u->h'.get? b=some u)(g:h.objs.size<=a)(new:ObjOk P w (upd H a o) h' a o):HOk P w (upd H a o) h':=λb u e=>by
 have d:=x.fresh g;by_cases f:b=a
 ·subst f;rw[jk] at e;cases e;exact new
 ·rw[je f] at e;exact(x b u e).stay (λc v _ q=>k c v q) (λc q=>by rw[je<|vW q d];exact q) λc i q=>by rw[je<|vW q d];exact q
end
def Rd(H:Hp)(a:Addr)(u:HO):Prop:=H a=some u \/ ∃ o,H a=some (.frz o u)
def Rd.ok(r:Rd H a u)(x:HOk P w H h):ObjOk P w H h a u:=by
 rcases r with r | ⟨o,r⟩
 ·exact x a u r
 ·obtain⟨_,q⟩:=x a _ r;exact q
def Mut:Option HO->Prop
 | some (.lst _)=>True
 | some (.dK _)=>True
 | some (.dT _)=>True
 | some (.set _ _)=>True
 | some (.ins _ _ _)=>True
 | some (.ext _)=>True
 | _=>False
section
variable {P:Program}{w:World}{H:Hp}{h h':Heap}{x e:Addr}{o':HO}
def HOk.write(ok:HOk P w H h)(g:Mut<|H x)(n:e=x\/H e=some (.own x))(k:∀ b u,b≠e->h.get? b=some u->h'.get? b=some u)(m:∃ u,h'.get? e=some u)
  (new:ObjOk P w (upd H x o') h' x o'):HOk P w (upd H x o') h':=λb u q=>by
 have d:∀ c y,H c=some (.own y)->c≠x:=λc y r z=>by subst z;rw[r] at g;exact g
 have f:∀ c i,H c=some (.tup i)->c≠x:=λc i r z=>by subst z;rw[r] at g;exact g
 by_cases j:b=x
 ·subst j;rw[jk] at q;cases q;exact new
 ·rw[je j] at q;by_cases a:b=e
  ·have o:H b=some (.own x):=by
    rcases n with z | z
    ·exact absurd (a.trans z) j
    ·rw[a];exact z
   rw[q] at o;cases o;obtain⟨v,p⟩:=m;exact⟨v,by rw[a];exact p⟩
  ·refine(ok b u q).stay (λc v l r=>k c v ?_ r) (λc r=>by rw[je<|d c b r];exact r) λc i r=>by rw[je<|f c i r];exact r
   rcases l with rfl | l
   ·exact a
   ·rintro rfl;rcases n with z | z
    ·exact d c b l z
    ·rw[l] at z;cases z;exact j rfl
end
structure Un(fs ex:W5)(H H':Hp)(h h':Heap):Prop where
 keep:∀ b o,h.get? b=some o->H b=none->b∉fs->b∉ex->h'.get? b=some o
 slot:∀ b o,h.get? b=some o->H b=none->b∈fs->b∉ex->∃ sl,h'.get? b=some {o with slots:=sl}
 free:∀ b o,h.get? b=some o->H b=none->b∉ex->H' b=none
 there:∀ b o,h.get? b=some o->b∉ex->∃ o',h'.get? b=some o'
 tups:∀ b xs,H b=some (.tup xs)->H' b=some (.tup xs)
 frzs:∀ b o u,H b=some (.frz o u)->H' b=some (.frz o u)
 tbls:∀ b ps,H b=some (.tbl ps)->∃ more,H' b=some (.tbl<|ps++more)
section
variable {fs fs' ex ex':W5}{H H1 H2:Hp}{h h1 h2 h':Heap}{a x e:Addr}{o:HO}
def Un.any(u:Un fs ex H H1 h h1)  (q:h.get? b=some ob) (n:H b=none) (a:b∉ex):∃ sl,h1.get? b=some {ob with slots:=sl}:=by
 by_cases c:b∈fs
 ·exact u.slot b ob q n c a
 ·exact⟨ob.slots,u.keep b ob q n c a⟩
def Un.kept(k:∀ b u,h.get? b=some u->h'.get? b=some u):Un fs ex H H h h':=
 ⟨λb ob q _ _ _=>k b ob q,λb ob q _ _ _=>⟨ob.slots,k b ob q⟩,λ_ _ _ n _=>n,λb ob q _=>⟨ob,k b ob q⟩,λ_ _ q=>q,λ_ _ _ q=>q,λ_ a q=>⟨#[],by rw[q];simp⟩⟩
def Un.refl:Un fs ex H H h h:=Un.kept λ_ _ q=>q
def Un.laid(k:∀ b u,h.get? b=some u->h'.get? b=some u)(d:h.objs.size<=a)(c:H a=none):Un fs ex H (upd H a o) h h' where
 keep:=λb u q _ _ _=>k b u q
 slot:=λb u q _ _ _=>⟨u.slots,k b u q⟩
 free:=λb u q n _=>by rw[je<|N5<|U3 (N0 q) d];exact n
 there:=λb u q _=>⟨u,k b u q⟩
 tups:=λb e q=>by rw[je<|vW q c];exact q
 frzs:=λb u e q=>by rw[je<|vW q c];exact q
 tbls:=λb f q=>⟨#[],by rw[je<|vW q c,q];simp⟩
def Un.write(c:Mut<|H x)(j:e=x\/H e=some (.own x))(k:∀ b u,b≠e->h.get? b=some u->h'.get? b=some u)(d:∃ u,h'.get? e=some u):Un fs ex H (upd H x o) h h':=by
 have g:∀ b,H b=none->b≠x:=λb n z=>by subst z;rw[n] at c;exact c
 have i:∀ b,H b=none->b≠e:=λb n z=>by
  subst z;rcases j with r | r
  ·exact g b n r
  ·rw[n] at r;cases r
 have f:∀ b u,H b=some u->¬ Mut (some u)->b≠x:=λb u q nm z=>by subst z;rw[q] at c;exact nm c
 refine⟨λb u q n _ _=>k b u (i b n) q,λb u q n _ _=>⟨u.slots,k b u (i b n) q⟩,λb u q n _=>by rw[je<|g b n];exact n,λb u q _=>?_,
  λb l q=>by rw[je<|f b _ q λz=>z];exact q,λb u l q=>by rw[je<|f b _ q λz=>z];exact q,λb m q=>⟨#[],by rw[je<|f b _ q λz=>z,q];simp⟩⟩
 by_cases a:b=e
 ·subst a;exact d
 ·exact⟨u,k b u a q⟩
end
noncomputable def trk(h:Heap)(H:Hp):List Addr:=(List.range h.objs.size).filter λa=>(H a).isSome
def jfR(h:Heap)(H:Hp):Heap:=PySem.W.hideAll h<|trk h H
def jcv(h)(H):(jfR h H).objs.size=h.objs.size:=PySem.W.hideAll_size _ _
def je2(e:h.get? b=some o)(n:H b=none):(jfR h H).get? b=some o:=
 PySem.W.hideAll_get _ e λa=>by
  have q:=(List.mem_filter.mp a).2;rw[n] at q;simp at q
def jiE(e:(jfR h H).get? b=some o):h.get? b=some o/\H b=none:=by
 have a:=PySem.W.of_hideAll (trk h H) e;refine⟨a,?_⟩;cases q:H b with
 | none=>rfl
 | some x=>
  have c:b∈trk h H:=List.mem_filter.mpr ⟨List.mem_range.mpr<|N0 a,by simp[q]⟩;have z:(jfR h H).get? b=none:=PySem.W.hideAll_none (trk h H) c;rw[z] at e;cases e
noncomputable def jhp(g h:Heap)(L:Addr):List (Addr×Obj):=(List.range h.objs.size).filterMap λa=>if a=L\/(g.get? a).isSome=true then none else(h.get? a).map λo=>(a,o)
def rest(g h:Heap)(L d:Addr):List (Addr×Obj):=(jhp g h L).filter λp=>decide<|p.1≠d
structure Mod(K:W4)(mg:W6)(base:Heap):Prop where
 kin:K.In base
 glob:base.Ns mainGlobals mg
 blt:∃ mb,base.Ns builtinsNs mb/\∀ x:Str,x≠"__name__"->mb x=bootBuiltins x
 nolimit:base.NoLimit
structure Cx where
 prog:Program
 w:World
 K:PySem.W.Frag
 mg:Str->Option Value
 base:Heap
 A:Around
 N:List Str
 s₀:Shared
 H₀:Hp
 env:Env
 outer:List Env
 stack:List Env
 ex:List Addr
 fn:Str->Bool
 calm:Bool
 pn:List (Addr×Obj)
 xe:Value->Shared->Prop
noncomputable def frs(l:List Env):List Addr:=l.filterMap (·.frame)
abbrev Cx.fs(X:Cx):List Addr:=frs X.outer
def Vis(sc:Scope)(x:Str):Prop:=sc.names.lookup x=some .local\/sc.names.lookup x=some .cell\/sc.names.lookup x=some .free
def Loc(sc:Scope)(x:Str):Prop:=sc.names.lookup x=some .local\/sc.names.lookup x=some .cell
def jpx(env:Env)(h:Heap)(m:W6)(x:Str)(u:Value):Prop:=
 (env.kindOf x=some .local/\m x=some u)\/((env.kindOf x=some .cell\/env.kindOf x=some .free)/\∃ c,env.cells.lookup x=some c/\h.IsCell c (some u))
structure Cx.Ok(X:Cx):Prop where
 mod:Mod X.K X.mg X.base
 kind:X.env.scope.kind=.function
 glob:X.env.globals=mainGlobals
 blt:X.env.builtins=builtinsNs
 above:X.s₀.heap.objs.size<=X.env.locals
 inj:∀ x y c,X.env.cells.lookup x=some c->X.env.cells.lookup y=some c->x=y
 has:∀ x,(X.env.kindOf x=some .cell\/X.env.kindOf x=some .free)->∃ c,X.env.cells.lookup x=some c
 cab:∀ x c,X.fn x=true->X.env.cells.lookup x=some c->X.s₀.heap.objs.size<=c
 hd:X.calm=true->X.A.handled=none
 frames:X.A.frames=some X.stack
 stk:X.stack=X.outer\/(X.stack=X.env::X.outer/\X.env.frame=some X.env.locals)
 exf:∀ b∈X.ex,b≠X.env.locals/\∀ x c,X.env.cells.lookup x=some c->c≠b
 bs:∀ b o,X.base.get? b=some o->X.s₀.heap.get? b=some o/\X.H₀ b=none
 bsz:X.base.objs.size<=X.s₀.heap.objs.size
 noex:∀ b o,X.base.get? b=some o->b∉X.ex
 exfs:∀ b∈X.ex,b∉X.fs
 funs:X.s₀.heap.FunFrames X.base X.outer
 frf:∀ b∈X.fs,X.H₀ b=none
structure Inv(X:Cx)(pins:W0)(σ:List<|Option V)(H:Hp)(s:Shared):Prop where
 ok:X.Ok
 os:s.os=X.s₀.os
 bare:AllBare s.gens
 base:Un X.fs X.ex X.H₀ H X.s₀.heap s.heap
 loc:∃ m,s.heap.Ns X.env.locals m/\∀(i:Nat) (x:Str) (v:V),X.N[i]?=some x->σ[i]?=some (some v)->Vis X.env.scope x->∃ u,RelV v u/\jpx X.env s.heap m x u
 cell:∀ x c,X.env.cells.lookup x=some c->∃ v,s.heap.IsCell c v
 free:H X.env.locals=none
 freeC:∀ x c,X.env.cells.lookup x=some c->H c=none
 pin:∀ p∈X.pn++pins,s.heap.get? p.1=some p.2/\H p.1=none/\p.1≠X.env.locals/\p.1∉X.fs/\∀ v,p.2.data≠.cell v
 hok:HOk X.prog X.w H s.heap
 len:σ.length=X.N.length
section
variable {X:Cx}{pins:List (Addr×Obj)}{σ:List (Option V)}{H H':Hp}{s:Shared}{h':Heap}
def Cx.Ok.nofr(ok:X.Ok)  {o}(e:X.base.get? b=some o):b∉X.fs:=λa=>by
 have:=(ok.funs.mem a).1;rw[e] at this;cases this
def Inv.bs(I:Inv X pins σ H s):∀ b o,X.base.get? b=some o->s.heap.get? b=some o/\H b=none:=λb o e=>
 ⟨I.base.keep b o (I.ok.bs b o e).1 (I.ok.bs b o e).2 (I.ok.nofr e) (I.ok.noex b o e),I.base.free b o (I.ok.bs b o e).1 (I.ok.bs b o e).2 (I.ok.noex b o e)⟩
def Inv.bk(I:Inv X pins σ H s):∀ b o,X.base.get? b=some o->s.heap.get? b=some o:=λb o e=>(I.bs b o e).1
def Inv.mod(I:Inv X pins σ H s):Mod X.K X.mg X.base:=I.ok.mod
def Inv.kIn(I:Inv X pins σ H s):X.K.In s.heap:=I.ok.mod.kin.keeps I.bk
def Inv.lt(I:Inv X pins σ H s):X.env.locals < ↥s:=let ⟨_,hn,_⟩:=I.loc;hn.lt
def Inv.sz(I:Inv X pins σ H s):X.s₀.heap.objs.size<=↥s:=N6 I.ok.above<|Nat.le_of_lt I.lt
def Inv.nofs(I:Inv X pins σ H s)  (h:↥s<=a):a∉X.fs:=λb=>by
 obtain⟨_,o,c,_⟩:=I.ok.funs.mem b;exact absurd (U3 (N0 c)<|N6 I.sz h)<|Nat.lt_irrefl _
def Inv.cne(I:Inv X pins σ H s):∀ x c,X.env.cells.lookup x=some c->c≠X.env.locals:=λx c e z=>by
 obtain⟨v,o,d,hd⟩:=I.cell x c e;obtain⟨m,⟨f,g,h,a,b,_⟩,_⟩:=I.loc;rw[z,a] at d;cases d;rw[b] at hd;cases hd
def Inv.funs(I:Inv X pins σ H s):s.heap.FunFrames X.base X.outer:=by
 have all:∀ l,(∀ b∈frs l,b∈X.fs)->X.s₀.heap.FunFrames X.base l->s.heap.FunFrames X.base l:=by
  intro l
  induction l with
  | nil=>intro _ _;trivial
  | cons env r g=>
   intro f h;obtain⟨i,⟨L,o,a,j,k,hd⟩,m⟩:=h;have c:=f L (by unfold frs;rw[List.filterMap_cons,a];exact L7);obtain⟨n,e⟩:=I.base.slot L o k (I.ok.frf L c) c λz=>I.ok.exfs L z c;exact⟨i,⟨L,_,a,j,e,hd⟩,g (λb d=>f b<|by unfold frs;rw[List.filterMap_cons,a];exact L6 _ d) m⟩
 exact all X.outer (λ_ d=>d) I.ok.funs
def Inv.stack(I:Inv X pins σ H s):s.heap.FunFrames X.base X.stack:=by
 rcases I.ok.stk with e | ⟨e,a⟩
 ·rw[e];exact I.funs
 ·rw[e];obtain⟨m,b,_⟩:=I.loc;refine .cons (by rw[I.ok.kind];decide) a b ?_ I.funs;exact Heap.get?_none_of_le<|N6 I.ok.bsz I.ok.above
def Inv.stkSub(I:Inv X pins σ H s):∀ b∈frs X.stack,b∈X.env.locals::X.fs:=λb a=>by
 rcases I.ok.stk with e | ⟨e,c⟩
 ·rw[e] at a;exact L6 _ a
 ·rw[e] at a;unfold frs at a;rw[List.filterMap_cons,c] at a;exact a
def Inv.stkFree(I:Inv X pins σ H s):∀ b∈frs X.stack,H b=none:=λb a=>by
 rcases M4.mp (I.stkSub b a) with e | a
 ·rw[e];exact I.free
 ·obtain⟨_,o,c,_⟩:=I.ok.funs.mem a;exact I.base.free b o c (I.ok.frf b a) λz=>I.ok.exfs b z a
def Inv.step{D}{t'}{ch:W5}(I:Inv X pins σ H s)
  (f:∀ b∈ch,(b∈X.ex\/X.s₀.heap.objs.size<=b)/\b≠X.env.locals/\(∀ x c,X.env.cells.lookup x=some c->c≠b)/\∀ p∈X.pn++pins,p.1≠b)
  (keep:∀ b o,b≠X.env.locals->b∉X.fs->b∉ch->s.heap.get? b=some o->H b=none->h'.get? b=some o)
  (slot:∀ b o,b≠X.env.locals->b∈X.fs->b∉ch->s.heap.get? b=some o->H b=none->∃ sl,h'.get? b=some {o with slots:=sl}) (free:∀ b o,b∉ch->s.heap.get? b=some o->H b=none->H' b=none)
  (there:∀ b o,b∉ch->s.heap.get? b=some o->∃ o',h'.get? b=some o')
  (tups:∀ b xs,H b=some (.tup xs)->H' b=some (.tup xs)) (frzs:∀ b o u,H b=some (.frz o u)->H' b=some (.frz o u)) (tbls:∀ b ps,H b=some (.tbl ps)->∃ more,H' b=some (.tbl<|ps++more))
  (ns:∀ m,s.heap.Ns X.env.locals m->h'.Ns X.env.locals m) (hok:HOk X.prog X.w H' h') (J:AllBare D):
  Inv X pins σ H' {s with heap:=h',gens:=D,drawn:=d',toks:=t'}:=by
 have B:∀ b o,X.s₀.heap.get? b=some o->b≠X.env.locals:=λb o e=>N5<|U3 (N0 e) I.ok.above;have j:∀ b o,X.s₀.heap.get? b=some o->b∉X.ex->b∉ch:=λb o e a y=>by
  rcases(f b y).1 with z | z
  ·exact a z
  ·exact absurd (U3 (N0 e) z)<|Nat.lt_irrefl _
 have g:∀ x c,X.env.cells.lookup x=some c->∀ v,s.heap.IsCell c v->h'.IsCell c v:=λx c e v ⟨o,A,hd⟩=>by
  have h:=λz=>(f c z).2.2.1 x c e rfl;by_cases E:c∈X.fs
  ·obtain⟨sl,q⟩:=slot c o (I.cne x c e) E h A<|I.freeC x c e;exact⟨_,q,hd⟩
  ·exact⟨o,keep c o (I.cne x c e) E h A<|I.freeC x c e,hd⟩
 refine⟨I.ok,I.os,J,⟨λb o e n y a=>(keep b o (B b o e) y (j b o e a) (I.base.keep b o e n y a)<|I.base.free b o e n a),λb o e n y a=>?_,λb o e n a=>?_,λb o e a=>?_,λb xs e=>tups b xs<|I.base.tups b xs e,λb o xs e=>frzs b o xs<|I.base.frzs b o xs e,λb ps e=>?_⟩,?_,λx c e=>?_,?_,λx c e=>?_,λp F=>?_,hok,I.len⟩
 ·obtain⟨sl,t⟩:=I.base.slot b o e n y a;obtain⟨C,e2⟩:=slot b _ (B b o e) y (j b o e a) t<|I.base.free b o e n a;exact⟨C,e2⟩
 ·obtain⟨o',t⟩:=I.base.there b o e a;exact free b o' (j b o e a) t<|I.base.free b o e n a
 ·obtain⟨o',t⟩:=I.base.there b o e a;exact there b o' (j b o e a) t
 ·obtain⟨K,t⟩:=I.base.tbls b ps e;obtain⟨L,e2⟩:=tbls b _ t;exact⟨K++L,by rw[e2,Array.append_assoc]⟩
 ·obtain⟨m,M,N⟩:=I.loc;refine⟨m,ns m M,λi x v t e2 e3=>?_⟩;obtain⟨u,r,l⟩:=N i x v t e2 e3;refine⟨u,r,?_⟩;rcases l with l | ⟨k,c,e,z⟩
  ·exact .inl l
  ·exact .inr ⟨k,c,e,g x c e _ z⟩
 ·obtain⟨v,z⟩:=I.cell x c e;exact⟨v,g x c e v z⟩
 ·obtain⟨m,⟨o,_,_,A,_⟩,_⟩:=I.loc;exact free _ o (λz=>(f _ z).2.1 rfl) A I.free
 ·obtain⟨v,o,A,hd⟩:=I.cell x c e;exact free c o (λz=>(f c z).2.2.1 x c e rfl) A<|I.freeC x c e
 ·obtain⟨e,n,ne,G,d⟩:=I.pin p F;have h:=λz=>(f p.1 z).2.2.2 p F rfl;exact⟨keep p.1 p.2 ne G h e n,free p.1 p.2 h e n,ne,G,d⟩
def Inv.un{t'}(I:Inv X pins σ H s)(u:Un X.fs [] H H' s.heap h')(hok:HOk X.prog X.w H' h'):Inv X pins σ H' {s with heap:=h',toks:=t'}:=by
 obtain⟨m,⟨o,k,l,g,r⟩,_⟩:=id I.loc;obtain⟨p,h⟩:=u.any g I.free (by simp);exact I.step (ch:=[]) (λ_ z=>nomatch z) (λb o _ c _ e n=>u.keep b o e n c<|by simp) (λb o _ c _ e n=>u.slot b o e n c<|by simp) (λb o _ e n=>u.free b o e n<|by simp) (λb o _ e=>u.there b o e<|by simp) u.tups u.frzs u.tbls (λq i=>by
  obtain⟨t,d,f,a,j⟩:=i;rw[g] at a;cases a;exact⟨_,d,f,h,j⟩) hok I.bare
def Inv.call{j}{t'}{ch}(I:Inv X pins σ H s)(u:Un (frs X.stack) ch H H' s.heap h')(hok:HOk X.prog X.w H' h')(l:AllBare j)
  (d:∀ b∈ch,(b∈X.ex\/X.s₀.heap.objs.size<=b)/\b≠X.env.locals/\(∀ x c,X.env.cells.lookup x=some c->c≠b)/\∀ p∈X.pn++pins,p.1≠b):
  Inv X pins σ H' {s with heap:=h',gens:=j,drawn:=d',toks:=t'}:=by
 obtain⟨m,⟨o,y,A,k,r⟩,_⟩:=id I.loc;obtain⟨B,g⟩:=u.any k I.free λz=>(d _ z).2.1 rfl;exact I.step d (λb o g q a e n=>u.keep b o e n (λz=>(M4.mp<|I.stkSub b z).elim g q) a) (λb o _ _ a e n=>u.any e n a) (λb o a e n=>u.free b o e n a) (λb o a e=>u.there b o e a) u.tups u.frzs u.tbls (λC t=>by
  obtain⟨D,h,i,f,v⟩:=t;rw[k] at f;cases f;exact⟨_,h,i,g,v⟩) hok l
def Inv.turned{t'}(I:Inv X pins σ H s)(k:∀ b o,b≠it->s.heap.get? b=some o->h'.get? b=some o)(g:H it=none)(f:it≠X.env.locals)
  (h1:it∈X.ex\/X.s₀.heap.objs.size<=it) (h2:∀ x c,X.env.cells.lookup x=some c->c≠it) (h:∀ p∈X.pn++pins,p.1≠it):Inv X pins σ H {s with heap:=h',toks:=t'}:=by
 have d:∀ b u,H b=some u->b≠it:=λb u e z=>by rw[z,g] at e;cases e
 refine I.step (ch:=[it]) (λb i=>?_) (λb o _ _ a e _=>k b o (λz=>a<|by simp[z]) e) (λb o _ _ a e _=>⟨o.slots,k b o (λz=>a<|by simp[z]) e⟩) (λ_ _ _ _ n=>n)
  (λb o a e=>⟨o,k b o (λz=>a<|by simp[z]) e⟩) (λ_ _ e=>e) (λ_ _ _ e=>e) (λb y e=>⟨#[],by rw[e];simp⟩) (λm j=>?_) (λb u e=>?_) I.bare
 ·have e:b=it:=by simpa using i
  subst e;exact⟨h1,f,h2,h⟩
 ·obtain⟨o,l,t,w,r⟩:=j;exact⟨o,l,t,k _ o (Ne.symm f) w,r⟩
 ·refine(I.hok b u e).stay (λc v a q=>k c v ?_ q) (λ_ q=>q) λ_ _ q=>q;rcases a with z | z
  ·rw[z];exact d b u e
  ·exact d c _ z
def Inv.tok(I:Inv X pins σ H s)(t):Inv X pins σ H {s with toks:=t}:=I.un Un.refl I.hok
def Inv.kept(I:Inv X pins σ H s)(k:∀ b u,s.heap.get? b=some u->h'.get? b=some u):Inv X pins σ H {s with heap:=h',toks:=t'}:=I.un (Un.kept k)<|I.hok.kept k
def Inv.laid(I:Inv X pins σ H s)(k:∀ b u,s.heap.get? b=some u->h'.get? b=some u)(c:↥s<=a)(new:ObjOk X.prog X.w (upd H a o) h' a o):
  Inv X pins σ (upd H a o) {s with heap:=h',toks:=t'}:=I.un (Un.laid k c<|I.hok.fresh c)<|I.hok.laid k c new
def Inv.write(I:Inv X pins σ H s)(c:Mut<|H x)(d:e=x\/H e=some (.own x))(k:∀ b u,b≠e->s.heap.get? b=some u->h'.get? b=some u)(a:∃ u,h'.get? e=some u)
  (new:ObjOk X.prog X.w (upd H x o) h' x o):Inv X pins σ (upd H x o) {s with heap:=h',toks:=t'}:=I.un (Un.write c d k a)<|I.hok.write c d k a new
def Inv.pins_of(I:Inv X pins σ H s)(h:∀ p∈pins',s.heap.get? p.1=some p.2/\H p.1=none/\p.1≠X.env.locals/\p.1∉X.fs/\∀ v,p.2.data≠.cell v):Inv X pins' σ H s:=
 ⟨I.ok,I.os,I.bare,I.base,I.loc,I.cell,I.free,I.freeC,λp a=>(N1.mp a).elim (λz=>I.pin p<|List.mem_append_left _ z) (h p),I.hok,I.len⟩
def uw{N:List Str}(c:N.Nodup){i j:Nat}(a:N[i]?=some x)(b:N[j]?=some x):i=j:=by
 obtain⟨e,d⟩:=L9.mp a;obtain⟨f,e2⟩:=L9.mp b;exact(List.getElem_inj c).mp (d.trans e2.symm)
def jcs(I:Inv X pins σ H s)(hN:X.N.Nodup)(hi:X.N[i]?=some x)(B:Loc X.env.scope x)(r:RelV v u)
  (h:∀ s',Inv X pins (σ.set i<|some v) H s'->(∃ a,Heap.SameBut a s.heap s'.heap/\(a=X.env.locals\/X.env.cells.lookup x=some a))->Q () s') (hf:X.fn x=true\/X.env.scope.names.lookup x=some .local:=by first | exact .inl rfl | exact .inr rfl | assumption):wpAny M A (storeName X.env x u) Q E s:=by
 obtain⟨m,W,hl⟩:=id I.loc;have L:(X.env.scope.kind==.class||(X.env.scope.kind==.module&&X.env.locals != X.env.globals))=false:=by rw[I.ok.kind];rfl
 have O:i<σ.length:=by rw[I.len];exact(L9.mp hi).1
 have cne:=I.cne;have g:∀{a}{K},(∃ o,s.heap.get? a=some o/\H a=none)->Heap.SameBut a s.heap K->HOk X.prog X.w H K:=λ{a K} ha f b ob e=>by
  obtain⟨_,_,C⟩:=ha;refine(I.hok b ob e).stay (λc U t q=>(f.2 c ?_).trans q) (λ_ q=>q) λ_ _ q=>q;rintro rfl;rcases t with rfl | t
  ·rw[C] at e;cases e
  ·rw[C] at t;cases t
 rcases B with D | D
 ·refine wpAny_storeName_local D W (λK Y f=>?_) L;obtain⟨oL,_,_,Z,_⟩:=id W;refine h _ ⟨I.ok,I.os,I.bare,⟨λb o e n F B=>((f.2 b<|N5<|U3 (N0 e) I.ok.above).trans (I.base.keep b o e n F B)),λb o e n F B=>?_,I.base.free,λb o e B=>?_,I.base.tups,I.base.frzs,I.base.tbls⟩,⟨_,Y,λj y v' l e2 e3=>?_⟩,λy c e=>?_,I.free,I.freeC,λp hp=>?_,g ⟨oL,Z,I.free⟩ f,by simpa using I.len⟩ ⟨_,f,.inl rfl⟩
  ·obtain⟨sl,l⟩:=I.base.slot b o e n F B;exact⟨sl,(f.2 b<|N5<|U3 (N0 e) I.ok.above).trans l⟩
  ·obtain⟨o',l⟩:=I.base.there b o e B;exact⟨o',(f.2 b<|N5<|U3 (N0 e) I.ok.above).trans l⟩
  ·by_cases G:j=i
   ·subst G;rw[hi] at l;cases l;rw[List.getElem?_set_self O] at e2;cases e2;exact⟨u,r,.inl ⟨D,by simp⟩⟩
   ·rw[List.getElem?_set_ne<|Ne.symm G] at e2;obtain⟨u',r',q⟩:=hl j y v' l e2 e3;refine⟨u',r',?_⟩;rcases q with⟨k,e⟩ | ⟨k,c,e,z⟩
    ·refine .inl ⟨k,?_⟩;have:y≠x:=λe=>G<|uw hN l<|e▸hi;simp[this,e]
    ·exact .inr ⟨k,c,e,z.sameBut f<|cne y c e⟩
  ·obtain⟨U,z⟩:=I.cell y c e;exact⟨U,z.sameBut f<|cne y c e⟩
  ·obtain⟨e,n,ne,nf,d⟩:=I.pin p hp;exact⟨(f.2 p.1 ne).trans e,n,ne,nf,d⟩
 ·have J:X.fn x=true:=by
   rcases hf with z | z
   ·exact z
   ·rw[z] at D;cases D
  obtain⟨c,t⟩:=I.ok.has x<|.inl D;obtain⟨U,z⟩:=I.cell x c t;refine wpAny_storeName_cell I.ok.kind D t z<|λK P f=>?_;obtain⟨oc,R,S⟩:=id z;refine h {s with heap:=K} ⟨I.ok,I.os,I.bare,⟨λb o e n F B=>((f.2 b<|N5<|U3 (N0 e)<|I.ok.cab x c J t).trans (I.base.keep b o e n F B)),λb o e n F B=>?_,I.base.free,λb o e B=>?_,I.base.tups,I.base.frzs,I.base.tbls⟩,⟨m,W.sameBut f<|Ne.symm<|cne x c t,λj y v' l e2 e3=>?_⟩,λy V e=>?_,I.free,I.freeC,λp hp=>?_,g ⟨oc,R,I.freeC x c t⟩ f,by simpa using I.len⟩ ⟨c,f,.inr t⟩
  ·obtain⟨sl,l⟩:=I.base.slot b o e n F B;exact⟨sl,(f.2 b<|N5<|U3 (N0 e)<|I.ok.cab x c J t).trans l⟩
  ·obtain⟨o',l⟩:=I.base.there b o e B;exact⟨o',(f.2 b<|N5<|U3 (N0 e)<|I.ok.cab x c J t).trans l⟩
  ·by_cases G:j=i
   ·subst G;rw[hi] at l;cases l;rw[List.getElem?_set_self O] at e2;cases e2;exact⟨u,r,.inr ⟨.inl D,c,t,P⟩⟩
   ·rw[List.getElem?_set_ne<|Ne.symm G] at e2;obtain⟨u',r',q⟩:=hl j y v' l e2 e3;refine⟨u',r',?_⟩;rcases q with q | ⟨k,V,e,z'⟩
    ·exact .inl q
    ·refine .inr ⟨k,V,e,z'.sameBut f ?_⟩;rintro rfl;exact G<|uw hN l<|I.ok.inj _ _ _ e t▸hi
  ·by_cases T:V=c
   ·subst T;exact⟨_,P⟩
   ·obtain⟨w2,z2⟩:=I.cell y V e;exact⟨w2,z2.sameBut f T⟩
  ·obtain⟨e,n,ne,nf,d⟩:=I.pin p hp;refine⟨(f.2 p.1 ?_).trans e,n,ne,nf,d⟩;intro q;rw[q,R] at e;exact d U (by rw[<- (X3 e)];exact S)
def Yq(I:Inv X pins σ H s)(a:X.N.Nodup)(hi:X.N[i]?=some x)(b:Loc X.env.scope x)(r:RelV v u)
  (h:∀ s',Inv X pins (σ.set i<|some v) H s'->Q () s') (c:X.fn x=true\/X.env.scope.names.lookup x=some .local:=by first | exact .inl rfl | exact .inr rfl | assumption):wpAny M A (storeName X.env x u) Q E s:=
 jcs I a hi b r (λs' d _=>h s' d) c
end
abbrev XK:=Value->Option Addr->Hp->Prop
noncomputable abbrev St:=List<|Option V
abbrev VK:=V->Hp->Prop
abbrev TE:=St->Hp->VK->Prop
abbrev TT:=St->Hp->(Bool->Hp->Prop)->Prop
abbrev TA:=St->Hp->(List V->Hp->Prop)->Prop
structure Ends where
 nx:St->Hp->Prop
 rt:VK
 bk:St->Hp->Prop:=λ_ _=>False
 ct:St->Hp->Prop:=λ_ _=>False
abbrev TS:=Ends->St->Hp->Prop
def EP(X:Cx)(pins:W0)(σ:St)(Q:VK)(u:Value)(s':Shared):Prop:=∃ v H',Inv X pins σ H' s'/\RelV v u/\Q v H'
def TP(X:Cx)(pins:W0)(σ:St)(Q:Bool->Hp->Prop)(b:Bool)(s':Shared):Prop:=∃ H',Inv X pins σ H' s'/\Q b H'
def AP(X:Cx)(pins:W0)(σ:St)(Q:List V->Hp->Prop)(us:List Value)(s':Shared):Prop:=∃ vs H',Inv X pins σ H' s'/\Vals vs us/\Q vs H'
def SP(X:Cx)(pins:W0)(D:Ends)(f:Flow)(s':Shared):Prop:=
 match f with
 | .next=>∃ σ' H',Inv X pins σ' H' s'/\D.nx σ' H'
 | .brk=>∃ σ' H',Inv X pins σ' H' s'/\D.bk σ' H'
 | .cont=>∃ σ' H',Inv X pins σ' H' s'/\D.ct σ' H'
 | .ret u=>∃ v σ' H',Inv X pins σ' H' s'/\RelV v u/\D.rt v H'
def PE(X:Cx)(e:Expr)(t:TE):Prop:=
 ∀ pins s (σ:St) H Q,Inv X pins σ H s->t σ H Q->wpAny (model X.prog X.w) X.A (eval e X.env) (EP X pins σ Q) X.xe s
def PT(X:Cx)(e:Expr)(t:TT):Prop:=
 ∀ pins s (σ:St) H (Q:Bool->Hp->Prop),Inv X pins σ H s->t σ H Q->wpAny (model X.prog X.w) X.A (isTrue e X.env<|eval e X.env) (TP X pins σ Q) X.xe s
def PW(X:Cx)(e:Expr)(t:TT):Prop:=
 ∀ whole pins s (σ:St) H (Q:Bool->Hp->Prop),Inv X pins σ H s->t σ H Q->wpAny (model X.prog X.w) X.A (isTrue e X.env whole) (TP X pins σ Q) X.xe s
def PW.pt(h:PW X e t):PT X e t:=h _
def PA(X:Cx)(es:List Expr)(t:TA):Prop:=
 ∀ pos pins s (σ:St) H (Q:List V->Hp->Prop),Inv X pins σ H s->t σ H Q->wpAny (model X.prog X.w) X.A (spliced<|backTo pos<|starEach es X.env) (AP X pins σ Q) X.xe s
def PS(X:Cx)(st:Stmt)(t:TS):Prop:=
 ∀ pins s (σ:St) H D,Inv X pins σ H s->t D σ H->wpAny (model X.prog X.w) X.A (exec st X.env) (SP X pins D) X.xe s
def PSs(X:Cx)(st:List Stmt)(t:TS):Prop:=
 ∀ pins s (σ:St) H D,Inv X pins σ H s->t D σ H->wpAny (model X.prog X.w) X.A (execs st X.env) (SP X pins D) X.xe s
def thn(h:wpAny M A t Q E s)(b:∀ a s,Q a s->Q' a s):wpAny M A t Q' E s:=wpAny_mono h b λ_ _ x=>x
section
variable {X:Cx}
def jU(i:Nat):TE:=λσ H Q=>∃ v,σ[i]?=some (some v)/\Q v H
def tC(v:V):TE:=λ_ H Q=>Q v H
abbrev Nd(x:Str):Prop:=(x==("__debug__" : Str))=false
def jgm(k:X.N[i]?=some x)(n:Vis X.env.scope x)(hd:Nd x:=by decide)(g:(x==("__classdict__" : Str))=false:=by decide):PE X (.Name x pos) (jU i):=by
 intro f s σ H Q I h;obtain⟨v,e,h⟩:=h;obtain⟨m,o,p⟩:=I.loc;obtain⟨u,r,l⟩:=p i x v k e n;have b:EP X f σ Q u s:=⟨v,H,I,r,h⟩;rcases l with⟨d,q⟩ | ⟨d,c,j,a⟩
 ·exact wpAny_Name (wpAny_loadName_local I.ok.kind d o q b) hd
 ·rcases d with d | d
  ·exact wpAny_Name (wpAny_loadName_cell I.ok.kind d j a b) hd
  ·exact wpAny_Name (wpAny_loadName_free I.ok.kind d j a b g) hd
def jkV{i j pos}:PE X (.Constant (.int i) j pos) (tC<|.int i):=λ_ _ _ H _ I h=>wpAny_Constant_int ⟨.int i,H,I.tok _,⟨_,rfl⟩,h⟩
def joa{b j pos}:PE X (.Constant (.bool b) j pos) (tC<|.bl b):=λ_ _ _ H _ I h=>Constant_bool ⟨.bl b,H,I,rfl,h⟩
def jlO{j pos}:PE X (.Constant .none j pos) (tC .non):=λ_ _ _ H _ I h=>Constant_none ⟨.non,H,I,rfl,h⟩
def jkt{x j pos}:PE X (.Constant (.str x) j pos) (tC<|.str x):=λ_ _ _ H _ I h=>Calls.Constant_str ⟨.str x,H,I.tok _,⟨_,rfl⟩,h⟩
def Gl(X:Cx)(x:Str):Prop:=X.env.kindOf x=some .globalImplicit
def jdB(I:Inv X pins σ H s)(a:Gl X x)(b:X.mg x=some u)(h:Q u s)
  (hd:Nd x:=by decide):wpAny (model X.prog X.w) X.A (eval (.Name x pos) X.env) Q E s:=
 Calls.Name_function_global I.ok.kind a (Calls.loadGlobal_global (by rw[I.ok.glob];exact I.mod.glob.keeps I.bk) b h) hd
def Jn(I:Inv X pins σ H s)(a:Gl X x)(b:X.mg x=none)(c:bootBuiltins x=some u)(h:Q u s)
  (d:x≠"__name__":=by decide) (hd:Nd x:=by decide):wpAny (model X.prog X.w) X.A (eval (.Name x pos) X.env) Q E s:=by
 obtain⟨g,e,f⟩:=I.mod.blt;exact Calls.Name_function_global I.ok.kind a (Calls.loadGlobal_builtin (by rw[I.ok.glob];exact I.mod.glob.keeps I.bk) b (by rw[I.ok.blt];exact e.keeps I.bk) ((f x d).trans c) h) hd
def xm(a:Gl X x)(b:X.mg x=none)(c:bootBuiltins x=some u)(r:RelV v u)(d:x≠"__name__":=by decide)(hd:Nd x:=by decide):PE X (.Name x pos) (tC v):=
 λ_ _ _ H _ I h=>Jn I a b c ⟨v,H,I,r,h⟩ d hd
variable {a b:Expr}{ta tb:TE}{pos:Pos}
def PC(X:Cx)(op:CmpOp)(a b:Expr)(t:TE):Prop:=
 ∀ pins s (σ:St) H Q,Inv X pins σ H s->t σ H Q ->
  wpAny (model X.prog X.w) X.A (eval a X.env) (λv s₁=>wpAny (model X.prog X.w) X.A (eval b X.env) (λu s₂=>wpAny (model X.prog X.w) X.A (compareOp op v u) (EP X pins σ Q) X.xe s₂) X.xe s₁) X.xe s
def jeC(b)  (h:op≠.In) (h2:op≠.NotIn):behindInMarks op b=false:=by
 have a:(op==CmpOp.In)=false:=by cases op<;>first | rfl | exact absurd rfl h
 have e2:(op==CmpOp.NotIn)=false:=by cases op<;>first | rfl | exact absurd rfl h2
 cases b<;>simp[behindInMarks,a,e2]
def tB(t:TE):TT:=λσ H Q=>t σ H λx H1=>∃ c,x=.bl c/\Q c H1
def jkN(h:PC X op a b t)(h1:behindInMarks op b=false:=by first | exact jeC _ (by decide) (by decide) | rfl):PE X (.Compare a [op] [b] pos) t:=λc s σ H Q I d=>wpAny_Compare1 (h c s σ H Q I d) h1
def jfI(h:PE X e t)(b:∀ whole,isTrue e X.env whole=(do let v <- whole;standAt e.pos;holding [v] (truthy v)):=by intro _;rfl):PT X e (tB t):=by
 intro a s σ H Q I c;refine isTrue_plain (thn (h a s σ H _ I c) λv s1 ⟨x,f,g,r1,i⟩=>?_)<|b _;obtain⟨d,rfl,q⟩:=i;cases r1;exact wpAny_truthy_bool ⟨f,g,q⟩
variable {tA tB':TT}{rest:List Expr}
def jnA(t u:TT):TT:=λσ H Q=>t σ H λc H1=>if c=true then u σ H1 Q else Q false H1
def tOr(t u:TT):TT:=λσ H Q=>t σ H λc H1=>if c=true then Q true H1 else u σ H1 Q
def jjO(t:TT):TT:=λσ H Q=>t σ H λc H1=>Q (!c) H1
def jhd(d:PT X a tA):PW X (.BoolOp .And [a] pos) tA:=by
 intro f b s σ H Q I h;refine isTrue_and<|thn (d b s σ H Q I h) λc s1 e=>?_;cases c with
 | true=>exact isTrue_and_nil e
 | false=>exact e
def jlG(d:PT X a tA):PW X (.BoolOp .Or [a] pos) tA:=by
 intro f b s σ H Q I h;refine isTrue_or<|thn (d b s σ H Q I h) λc s1 e=>?_;cases c with
 | false=>exact isTrue_or_nil e
 | true=>exact e
def jk6(i:PT X a tA)(j:PW X (.BoolOp .And (b::rest) pos) tB'):PW X (.BoolOp .And (a::b::rest) pos) (jnA tA tB'):=by
 intro k d s σ H Q I h;refine isTrue_and<|thn (i d s σ H _ I h) λc s1 ⟨e,f,g⟩=>?_;cases c with
 | true=>exact j k d s1 σ e Q f g
 | false=>exact⟨e,f,g⟩
def jnY(i:PT X a tA)(j:PW X (.BoolOp .Or (b::rest) pos) tB'):PW X (.BoolOp .Or (a::b::rest) pos) (tOr tA tB'):=by
 intro k d s σ H Q I h;refine isTrue_or<|thn (i d s σ H _ I h) λc s1 ⟨e,f,g⟩=>?_;cases c with
 | true=>exact⟨e,f,g⟩
 | false=>exact j k d s1 σ e Q f g
def jfN(d:PT X a tA):PT X (.UnaryOp .Not a pos) (jjO tA):=by
 intro b s σ H Q I h;exact isTrue_not<|d b s σ H (λc e=>Q (!c) e) I h
def jgD(ta tb:TE):TE:=λσ H Q=>ta σ H λx H1=>∃ c,x=.bl c/\if c=true then tb σ H1 Q else Q (.bl false) H1
def jod(ta tb:TE):TE:=λσ H Q=>ta σ H λx H1=>∃ c,x=.bl c/\if c=true then Q (.bl true) H1 else tb σ H1 Q
def jhn(ta:TE):TE:=λσ H Q=>ta σ H λx H1=>∃ c,x=.bl c/\Q (.bl<|!c) H1
def jms{c}(h:PE X a t):PE X (.BoolOp c [a] pos) t:=λb s σ H Q I d=>BoolOp_one<|h b s σ H Q I d
def jkc(i:PE X a ta)(j:PE X (.BoolOp .And (b::rest) pos) tb):PE X (.BoolOp .And (a::b::rest) pos) (jgD ta tb):=by
 intro d s σ H Q I h;refine BoolOp_and<|thn (i d s σ H _ I h) λv s1 k=>?_;obtain⟨x,f,g,r1,e⟩:=k;obtain⟨c,rfl,e⟩:=e;cases r1;refine wpAny_truthy_bool ?_;cases c with
 | true=>exact j d s1 σ f Q g e
 | false=>exact⟨.bl false,f,g,rfl,e⟩
def jok(i:PE X a ta)(j:PE X (.BoolOp .Or (b::rest) pos) tb):PE X (.BoolOp .Or (a::b::rest) pos) (jod ta tb):=by
 intro d s σ H Q I h;refine BoolOp_or<|thn (i d s σ H _ I h) λv s1 k=>?_;obtain⟨x,f,g,r1,e⟩:=k;obtain⟨c,rfl,e⟩:=e;cases r1;refine wpAny_truthy_bool ?_;cases c with
 | false=>exact j d s1 σ f Q g e
 | true=>exact⟨.bl true,f,g,rfl,e⟩
def jmJ(e:PE X a ta):PE X (.UnaryOp .Not a pos) (jhn ta):=by
 intro b s σ H Q I h;refine UnaryOp_<|thn (e b s σ H _ I h) λv s1 f=>?_;obtain⟨x,g,i,r1,d⟩:=f;obtain⟨c,rfl,d⟩:=d;cases r1;exact not_of<|wpAny_truthy_bool ⟨.bl<|!c,g,i,rfl,d⟩
def tIf(t:TT)(ta tb:TE):TE:=λσ H Q=>t σ H λc H1=>if c=true then ta σ H1 Q else tb σ H1 Q
def jd7(j:PT X c tA)(k:PE X a ta)(l:PE X b tb):PE X (.IfExp c a b pos) (tIf tA ta tb):=by
 intro e s σ H Q I h;refine wpAny_IfExp<|thn (j e s σ H _ I h) λd s1 ⟨f,g,i⟩=>?_;cases d with
 | true=>exact k e s1 σ f Q g i
 | false=>exact l e s1 σ f Q g i
end
def SqL(K:W4)(H:Hp)(a:Addr)(xs:List V):Prop:=
 Rd H a (.lst xs) \/
  ∃ o its n,K.lookup a=some o/\o.cls=.type "list"/\o.dict=none/\o.data=.seq its n/\its.size<=sizeLine/\Vals xs its.toList
def SqT(K:W4)(H:Hp)(a:Addr)(xs:List V):Prop:=
 Rd H a (.tup xs) \/
  ∃ o its n,K.lookup a=some o/\o.cls=.type "tuple"/\o.data=.seq its n/\its.size<=sizeLine/\Vals xs its.toList
noncomputable def jpr:Value->Option V
 | .none=>some .non
 | .bool b=>some<|.bl b
 | .int i _=>some<|.int i
 | .str x _=>some<|.str x
 | .bytes b _=>some<|.byt b
 | .float b _=>some<|.flt b
 | .ref a=>some<|.ref a
 | .type n=>some<|.ty n
 | _=>none
def RelV.abs(r:RelV x u):jpr u=some x:=by
 cases x with
 | non=>cases r;rfl
 | bl _=>cases r;rfl
 | int _=>obtain⟨t,rfl⟩:=r;rfl
 | str _=>obtain⟨t,rfl⟩:=r;rfl
 | byt _=>obtain⟨t,rfl⟩:=r;rfl
 | flt _=>obtain⟨t,rfl⟩:=r;rfl
 | ref _=>cases r;rfl
 | ty _=>cases r;rfl
def RelV.inj(r:RelV x u)(q:RelV y u):x=y:=X3<|r.abs.symm.trans q.abs
theorem Vals.inj:∀{xs ys}{us},Vals xs us->Vals ys us->xs=ys
 | _,_,_,.nil,.nil=>rfl
 | _,_,_,.cons r t,.cons a b=>by rw[r.inj a,Vals.inj t b]
section
variable {X:Cx}{pins:List (Addr×Obj)}{σ:St}{H:Hp}{s:Shared}{a:Addr}{xs ys:List V}
def SqL.of{K}(h:H a=some (.lst xs)):SqL K H a xs:=.inl<|.inl h
def SqT.of{K}(h:H a=some (.tup xs)):SqT K H a xs:=.inl<|.inl h
def Inv.list(I:Inv X pins σ H s)(h:SqL X.K H a xs):∃(its:List Value),An3 (Vals xs its) (PlainL s.heap a its.toArray) (xs.length<=sizeLine):=by
 rcases h with h | ⟨o,its,n,b,c,hd,d,f,r⟩
 ·obtain⟨z,its,n,r,e⟩:=h.ok I.hok;exact⟨its,r,⟨_,n,e,rfl,rfl,rfl⟩,z⟩
 ·refine⟨its.toList,r,⟨o,n,I.kIn a o b,c,hd,by simpa using d⟩,?_⟩;have e:=r.length;simp only[Array.length_toList] at e
  lia
def Inv.tuple(I:Inv X pins σ H s)(h:SqT X.K H a xs):∃(its:List Value),An3 (Vals xs its) (IsTup s.heap a its.toArray) (xs.length<=sizeLine):=by
 rcases h with h | ⟨o,its,n,b,c,d,f,r⟩
 ·obtain⟨z,its,r,p⟩:=h.ok I.hok;exact⟨its,r,p.1,z⟩
 ·refine⟨its.toList,r,⟨o,I.kIn a o b,c,n,by simpa using d⟩,?_⟩;have e:=r.length;simp only[Array.length_toList] at e
  lia
def Inv.list_inj(I:Inv X pins σ H s)(h:SqL X.K H a xs)(h':SqL X.K H a ys):xs=ys:=by
 obtain⟨c,r,⟨o,n,e,_,_,d⟩,_⟩:=I.list h;obtain⟨b,i,⟨j,k,f,_,_,g⟩,_⟩:=I.list h';rw[e] at f;cases f;rw[d] at g;injection g with d1 _;have:c=b:=by simpa using congrArg Array.toList d1
 subst this;exact r.inj i
def Inv.tuple_inj(I:Inv X pins σ H s)(h:SqT X.K H a xs)(h':SqT X.K H a ys):xs=ys:=by
 obtain⟨c,r,⟨o,e,_,n,d⟩,_⟩:=I.tuple h;obtain⟨b,i,⟨j,f,_,k,g⟩,_⟩:=I.tuple h';rw[e] at f;cases f;rw[d] at g;injection g with d1 _;have:c=b:=by simpa using congrArg Array.toList d1
 subst this;exact r.inj i
end
noncomputable abbrev Cx.wish(X:Cx)(E:J0):Cx:={X with xe:=E}
noncomputable abbrev Cx.nox(X:Cx):Cx:=X.wish λ_ _=>False
def Cx.Ok.wish{X:Cx}(ok:X.Ok)(E):(X.wish E).Ok:=
 ⟨ok.mod,ok.kind,ok.glob,ok.blt,ok.above,ok.inj,ok.has,ok.cab,ok.hd,ok.frames,ok.stk,ok.exf,ok.bs,ok.bsz,ok.noex,ok.exfs,ok.funs,ok.frf⟩
def Cx.Ok.unwish{X:Cx}{E}(ok:(X.wish E).Ok):X.Ok:=
 ⟨ok.mod,ok.kind,ok.glob,ok.blt,ok.above,ok.inj,ok.has,ok.cab,ok.hd,ok.frames,ok.stk,ok.exf,ok.bs,ok.bsz,ok.noex,ok.exfs,ok.funs,ok.frf⟩
section
variable {X:Cx}{pins:List (Addr×Obj)}{σ:St}{H:Hp}{s:Shared}{E:J0}
def Inv.wish(I:Inv X pins σ H s)(E):Inv (X.wish E) pins σ H s:=⟨I.ok.wish E,I.os,I.bare,I.base,I.loc,I.cell,I.free,I.freeC,I.pin,I.hok,I.len⟩
def Inv.unwish(I:Inv (X.wish E) pins σ H s):Inv X pins σ H s:=⟨I.ok.unwish,I.os,I.bare,I.base,I.loc,I.cell,I.free,I.freeC,I.pin,I.hok,I.len⟩
def SP.unwish(h:SP (X.wish E) pins D f s'):SP X pins D f s':=by
 cases f with
 | next=>obtain⟨a,b,I,q⟩:=h;exact⟨a,b,I.unwish,q⟩
 | brk=>obtain⟨a,b,I,q⟩:=h;exact⟨a,b,I.unwish,q⟩
 | cont=>obtain⟨a,b,I,q⟩:=h;exact⟨a,b,I.unwish,q⟩
 | ret u=>obtain⟨v,a,b,I,r,q⟩:=h;exact⟨v,a,b,I.unwish,r,q⟩
def PSs.nox{st}{t}(h:PSs X.nox st t):PSs X st t:=λa s σ H D I b=>
 wpAny_mono (h a s σ H D (I.wish _) b) (λ_ _ q=>q.unwish) λ_ _ z=>False.elim z
end
section
variable {X:Cx}{st:Stmt}{rest:List Stmt}{t u:TS}{e:Expr}{te:TE}{pos:Pos}
def jh6:TS:=λD σ H=>D.nx σ H
def jnC(t u:TS):TS:=λD σ H=>t {D with nx:=u D} σ H
def jiX:PSs X [] jh6:=λ_ _ σ H _ I h=>wpAny_execs_nil ⟨σ,H,I,h⟩
def jeh(h1:PS X st t)(h2:PSs X rest u):PSs X (st::rest) (jnC t u):=by
 intro a s σ H D I h;refine wpAny_execs_cons<|thn (h1 a s σ H {D with nx:=u D} I h) λf s1 q=>?_;cases f with
 | next=>
  obtain⟨b,c,d,q⟩:=q;exact h2 a s1 b c D d q
 | ret v=>exact q
 | brk=>exact q
 | cont=>exact q
def jhM(h1:PS X st t):PSs X [st] t:=by
 intro a s σ H D I h;refine wpAny_execs_cons<|thn (h1 a s σ H D I h) λf s1 q=>?_;cases f with
 | next=>exact wpAny_execs_nil q
 | ret v=>exact q
 | brk=>exact q
 | cont=>exact q
def jhB:TS:=λD σ H=>D.ct σ H
def xP:PS X (.Continue pos) jhB:=λ_ _ σ H _ I h=>wpAny_Continue ⟨σ,H,I,h⟩
def Inv.quiet(I:Inv X pins σ H s):interactive X.env=false:=by simp[interactive,I.ok.kind]
def JY(te:TE):TS:=λD σ H=>te σ H λ_ H1=>D.nx σ H1
def YD(b:PE X e te)(c:swapsWith e none pos.line X.env=pure false:=by rfl):PS X (.Expr e pos) (JY te):=by
 intro a s σ H D I h;exact wpAny_Expr_any (thn (b a s σ H _ I h) λv s1 ⟨x,d,f,r1,g⟩=>⟨σ,d,f,g⟩) I.quiet c
def jnK(te:TE):TS:=λD σ H=>te σ H D.rt
def jjS(b:PE X e te):PS X (.Return (some e) pos) (jnK te):=by
 intro a s σ H D I h;exact wpAny_Return_some<|thn (b a s σ H _ I h) λv s1 ⟨x,c,d,r1,f⟩=>⟨x,σ,c,d,r1,f⟩
def jm2(c:TT)(t u:TS):TS:=λD σ H=>c σ H λb H1=>if b=true then t D σ H1 else u D σ H1
def jkx(j:PT X c tc)(k:PSs X a t)(l:PSs X b u):PS X (.If c a b pos) (jm2 tc t u):=by
 intro e s σ H D I h;refine wpAny_If<|thn (j e s σ H _ I h) λd s1 ⟨f,g,i⟩=>?_;cases d with
 | true=>exact k e s1 σ f D g i
 | false=>exact l e s1 σ f D g i
end
abbrev TG:=V->St->Hp->(St->Hp->Prop)->Prop
abbrev TGs:=List V->St->Hp->(St->Hp->Prop)->Prop
def PG(X:Cx)(target:Expr)(t:TG):Prop:=
 ∀ pins s (σ:St) H v u (Q:St->Hp->Prop),Inv X pins σ H s->RelV v u->t v σ H Q ->
  wpAny (model X.prog X.w) X.A (assign target X.env u) (λ_ s'=>∃ σ' H',Inv X pins σ' H' s'/\Q σ' H') X.xe s
def PGs(X:Cx)(ts:List Expr)(t:TGs):Prop:=
 ∀ pins s (σ:St) H vs us (Q:St->Hp->Prop),Inv X pins σ H s->Vals vs us->t vs σ H Q ->
  wpAny (model X.prog X.w) X.A (assignInOrder ((assignEach ts X.env).map (·.2)) us) (λ_ s'=>∃ σ' H',Inv X pins σ' H' s'/\Q σ' H') X.xe s
abbrev jow:=V->V->V->Hp->(Hp->Prop)->Prop
def jn6(X:Cx)(t:jow):Prop:=
 ∀ pins s (σ:St) H o i v ov iv u Q,Inv X pins σ H s->RelV o ov->RelV i iv->RelV v u->t o i v H Q ->
  wpAny (model X.prog X.w) X.A (setItem ov iv u) (λ_ s'=>∃ H',Inv X pins σ H' s'/\Q H') X.xe s
abbrev TIp:=V->V->Hp->VK->Prop
def PIp(X:Cx)(op:Operator)(t:TIp):Prop:=
 ∀ pins s (σ:St) H x y v u Q,Inv X pins σ H s->RelV x v->RelV y u->t x y H Q ->
  wpAny (model X.prog X.w) X.A (inplaceOp op v u) (EP X pins σ Q) X.xe s
section
variable {X:Cx}{pos:Pos}
def vy(i:Nat):TG:=λv σ H Q=>Q (σ.set i<|some v) H
def jc9(b:X.N.Nodup)(hi:X.N[i]?=some x)(c:Loc X.env.scope x)(d:X.fn x=true\/X.env.scope.names.lookup x=some .local:=by first | exact .inl rfl | exact .inr rfl | assumption):PG X (.Name x pos) (vy i):=by
 intro a s σ H v u Q I r h;exact wpAny_assign_Name<|Yq I b hi c r (λf e=>⟨_,H,e,h⟩) d
def jdQ:TGs:=λvs σ H Q=>vs=[]/\Q σ H
def kZ(t:TG)(u:TGs):TGs:=λvs σ H Q=>∃ v r,vs=v::r/\t v σ H λσ' H'=>u r σ' H' Q
def jic:PGs X [] jdQ:=by
 intro a s σ H vs b Q I r h;obtain⟨e,h⟩:=h;subst e;cases r;exact assignInOrder_nil ⟨σ,H,I,h⟩
def jfn(h1:PG X e t)(h2:PGs X es u)
  (b:(assignEach (e::es) X.env).map (·.2)=assign e X.env::(assignEach es X.env).map (·.2):=by rfl):PGs X (e::es) (kZ t u):=by
 intro a s σ H vs l Q I r h;obtain⟨v,m,c,h⟩:=h;subst c;cases r with
 | cons r d=>
  rw[b];refine assignInOrder_cons<|thn (h1 a s σ H _ _ _ I r h) λ_ s1 f=>?_;obtain⟨g,i,j,k⟩:=f;exact h2 a s1 g i _ _ Q j d k
def jbv(K:W4)(n:Nat)(t:TGs):TG:=λv σ H Q=>∃ a xs,v=.ref a/\SqT K H a xs/\xs.length=n/\t xs σ H Q
def jkW(i:X.calm=true)(h:PGs X es t)
  (j:(assignEach es X.env).length=n:=by rfl) (d:(assignEach es X.env).findIdx? (·.1)=none:=by rfl):PG X (.Tuple es k pos) (jbv X.K n t):=by
 intro c s σ H v u Q I r f;obtain⟨a,l,m,p,q,f⟩:=f;subst m;cases r;obtain⟨w,g,x,B⟩:=I.tuple p;refine assign_Tuple_tuple (I.ok.hd i) x (by simp[j,<- q,g.length]) d λy z=>?_;have A:Inv X c σ H {s with heap:=y}:=I.kept λb o e=>z b o (N5<|N0 e) e;exact h c _ σ H l _ Q A ⇑g f
def jor(to ti:TE)(t:jow):TG:=λv σ H Q=>to σ H λo H1=>ti σ H1 λi H2=>t o i v H2 λH3=>Q σ H3
def jlW(c:PE X o to)(hi:PE X i ti)(d:jn6 X t)
  (q:∀ v,assign (.Subscript o i pos) X.env v=(do
   let ov <- holding [v] (eval o X.env)
   let iv <- holding [v,ov] (eval i X.env)
   standAt pos
   holding [v,ov,iv] (setItem ov iv v)
   release [v,ov,iv] []):=by intro _;rfl):PG X (.Subscript o i pos) (jor to ti t):=by
 intro a s σ H v u Q I r h;refine L3<|wpAny_holding<|thn (c a s σ H _ I h) λov s1 b=>?_;obtain⟨x,e,f,r1,g⟩:=b;refine L3<|wpAny_holding<|thn (hi a s1 σ e _ f g) λiv s2 b=>?_;obtain⟨y,j,k,r2,l⟩:=b;exact L3<|wpAny_standAt<|L3<|wpAny_holding<|thn (d a s2 σ j x y v ov iv u _ k r1 r2 r l) λ_ w ⟨m,n,p⟩=>(wpAny_release ⟨σ,m,n,p⟩)
def jfM(te:TE)(g:TG):TS:=λD σ H=>te σ H λx H1=>g x σ H1 D.nx
def jfS(b:PE X e te)(c:PG X tg g)(d:swapsWithSole [tg] e pos.line X.env=pure false:=by rfl)(f:swappedStores [tg] e X.env=pure none:=by rfl)
  (h1:(assignEach [tg] X.env).map (·.2)=[assign tg X.env]:=by rfl):PS X (.Assign [tg] e pos) (jfM te g):=by
 intro a s σ H D I h;refine wpAny_Assign_stores (thn (b a s σ H _ I h) λv s1 i=>?_) d f;obtain⟨x,j,k,r1,l⟩:=i;rw[h1];exact thn (c a s1 σ j x v _ k r1 l) λ_ s2 q=>q
def jmh(b:X.N.Nodup)(hi:X.N[i]?=some x)(c:Loc X.env.scope x)(d:PE X e te)(f:swapsWith e (some<|.Name x pos') pos.line X.env=pure false:=by rfl)(g:X.fn x=true\/X.env.scope.names.lookup x=some .local:=by first | exact .inl rfl | exact .inr rfl | assumption):
  PS X (.Assign [.Name x pos'] e pos) (jfM te<|vy i):=by
 intro a s σ H D I h;refine wpAny_Assign_Name (thn (d a s σ H _ I h) λv s1 j=>?_) f;obtain⟨y,k,l,r1,m⟩:=j;exact Yq l b hi c r1 (λs2 n=>⟨_,k,n,m⟩) g
def jno(i:Nat)(te:TE)(ti:TIp):TS:=λD σ H=>∃ x,σ[i]?=some (some x)/\te σ H λy H1=>ti x y H1 λz H2=>D.nx (σ.set i<|some z) H2
def jkn(n:X.N.Nodup)(hi:X.N[i]?=some x)(f:Loc X.env.scope x)(o:PE X e te)(p:PIp X op ti)(q:X.fn x=true\/X.env.scope.names.lookup x=some .local:=by first | exact .inl rfl | exact .inr rfl | assumption):
  PS X (.AugAssign (.Name x pos') op e pos) (jno i te ti):=by
 intro a s σ H D I h;obtain⟨v,t,h⟩:=h;obtain⟨m,B,C⟩:=I.loc;have g:Vis X.env.scope x:=by rcases f with k | k;exact .inl k;exact .inr<|.inl k
 obtain⟨u,r,l⟩:=C i x v hi t g;refine wpAny_AugAssign_Name ?_;have go:wpAny (model X.prog X.w) X.A (eval e X.env) (λw E=>wpAny (model X.prog X.w) X.A (inplaceOp op u w) (λr F=>wpAny (model X.prog X.w) X.A (storeName X.env x r) (λ_=>SP X a D .next) X.xe F) X.xe E) X.xe s:=by
  refine thn (o a s σ H _ I h) λw s1 j=>?_;obtain⟨y,G,J,r1,K⟩:=j;refine thn (p a s1 σ G v y u w _ J r r1 K) λz s2 j=>?_;obtain⟨S,L,M,r2,O⟩:=j;exact Yq M n hi f r2 (λT P=>⟨_,L,P,O⟩) q
 rcases l with⟨b,Q⟩ | ⟨b,c,R,d⟩
 ·exact wpAny_loadName_local I.ok.kind b B Q go
 ·rcases b with b | b
  ·exact wpAny_loadName_cell I.ok.kind b R d go
  ·rcases f with k | k
   ·have:X.env.scope.names.lookup x=some .free:=b;rw[k] at this;cases this
   ·have:X.env.scope.names.lookup x=some .free:=b;rw[k] at this;cases this
def jiQ(to ti te:TE)(tget:V->V->Hp->VK->Prop)(tip:TIp)(tset:jow):TS:=λD σ H=>to σ H λo H1=>ti σ H1 λi H2=>tget o i H2 λx H3=>te σ H3 λy H4=>tip x y H4 λz H5=>tset o i z H5 λH6=>D.nx σ H6
def joO(X:Cx)(t:V->V->Hp->VK->Prop):Prop:=
 ∀ pins s (σ:St) H o i ov iv Q,Inv X pins σ H s->RelV o ov->RelV i iv->t o i H Q ->
  wpAny (model X.prog X.w) X.A (getItem ov iv) (EP X pins σ Q) X.xe s
def ji2(g:PE X o to)(hi:PE X i ti)(j:joO X tget)(k:PE X e te)(l:PIp X op tip)(m:jn6 X tset)
  (n:∀ ov iv new,augStore i ov iv new=(do holding [new,ov,iv] (setItem ov iv new);release [new,ov,iv] [];pure .next):=by intros;rfl):PS X (.AugAssign (.Subscript o i tpos) op e pos) (jiQ to ti te tget tip tset):=by
 intro a s σ H D I h;refine wpAny_AugAssign_SubscriptAny (thn (g a s σ H _ I h) λov s1 b=>?_) n;obtain⟨d,p,q,r1,r⟩:=b;refine thn (hi a s1 σ p _ q r) λiv s2 b=>?_;obtain⟨f,t,u,r2,w⟩:=b;refine thn (j a s2 σ t d f ov iv _ u r1 r2 w) λc x b=>?_;obtain⟨y,z,A,B,C⟩:=b;refine thn (k a x σ z _ A C) λv E b=>?_;obtain⟨F,G,J,K,L⟩:=b;refine thn (l a E σ G y F c v _ J B K L) λnew M b=>?_;obtain⟨N,O,P,Q,R⟩:=b;exact thn (m a M σ O d f N ov iv new _ P r1 r2 Q R) λ_ V ⟨S,T,U⟩=>⟨σ,S,T,U⟩
def ipI(f:Int->Int->Int):TIp:=λx y H Q=>∃ i j,x=.int i/\y=.int j/\Q (.int<|f i j) H
def jkm:PIp X .Add (ipI λi j=>i+j):=by
 intro a s σ H x y v u Q I r1 r2 h;obtain⟨i,j,b,e2,q⟩:=h;subst b;subst e2;obtain⟨t,rfl⟩:=r1;obtain⟨c,rfl⟩:=r2;exact iadd_int ⟨.int _,H,I.tok _,⟨_,rfl⟩,q⟩
def jmB:PIp X .Sub (ipI λi j=>i-j):=by
 intro a s σ H x y v u Q I r1 r2 h;obtain⟨i,j,b,e2,q⟩:=h;subst b;subst e2;obtain⟨t,rfl⟩:=r1;obtain⟨c,rfl⟩:=r2;exact isub_int ⟨.int _,H,I.tok _,⟨_,rfl⟩,q⟩
end
structure It where
 go:Nat->Hp->Prop
 yld:Nat->Hp->V->Hp->Prop
 stop:Nat->Hp->Prop
def wg(X:Cx)(pins:W0)(H:Hp)(b:Addr):Prop:=
 H b=none/\b≠X.env.locals/\b∉X.fs/\(b∈X.ex\/X.s₀.heap.objs.size<=b)/\(∀ x c,X.env.cells.lookup x=some c->c≠b)/\∀ p∈X.pn++pins,p.1≠b
def Inv.fpOk(I:Inv X pins σ H s)(a:↥s<=b)(d:H' b=none):wg X pins H' b:=by
 refine⟨d,Nat.ne_of_gt<|U3 I.lt a,I.nofs a,.inr<|N6 I.sz a,λx c e z=>?_,λp f z=>?_⟩
 ·obtain⟨v,q⟩:=I.cell x c e;exact absurd (U3 q.lt<|by rw[z];exact a)<|Nat.lt_irrefl _
 ·exact absurd (U3 (N0 (I.pin p f).1)<|by rw[z];exact a)<|Nat.lt_irrefl _
structure Turn(P:Program)(w:World)(K:W4)(tg:Expr)(J:It)(fp:W5)(it:Addr)(tn:Nat->Heap->Prop):Prop where
 mem:it∈fp
 obj:∀ i h,tn i h->∀ b∈fp,∃ o,h.get? b=some o/\∀ v,o.data≠.cell v
 keep:∀ i h h',tn i h->(∀ b∈fp,∀ o,h.get? b=some o->h'.get? b=some o)->tn i h'
 item:∀(X:Cx),X.prog=P->X.w=w->X.K=K->X.calm=true->∀(i:Nat) (pins:W0) (s:Shared) (σ:St) (H:Hp) (E:J0),Inv X pins σ H s->(∀ b∈fp,wg X pins H b)->tn i s.heap->J.go i H ->
  wpAny (model P w) X.A (pyNext<|.ref it) (λr s1=>∃ u,r=some u /\
   wpAny (model P w) X.A (letOwnedTupleGo tg (.ref it) u) (λ_ s2=>∃ x H',Inv X pins σ H' s2/\RelV x u/\J.yld i H x H'/\tn (i+1) s2.heap/\∀ b∈fp,H' b=none) E s1) E s
 done:∀(X:Cx),X.prog=P->X.w=w->X.K=K->X.calm=true->∀(i:Nat) (pins:W0) (s:Shared) (σ:St) (H:Hp) (E:J0),Inv X pins σ H s->(∀ b∈fp,wg X pins H b)->tn i s.heap->J.stop i H ->
  wpAny (model P w) X.A (pyNext<|.ref it) (λr s1=>r=none/\Inv X pins σ H s1) E s
 self:∀(A:Around) (i:Nat) (s:Shared) (Q:J0) (E:J0),tn i s.heap->Q (.ref it) s->wpAny (model P w) A (pyIter<|.ref it) Q E s
abbrev TI:=St->Hp->(It->Hp->Prop)->Prop
def PIE(X:Cx)(pins:W0)(σ:St)(tg:Expr)(R:It->Hp->Prop)(itv:Value)(s2:Shared):Prop:=
 ∃(it:Addr) (fp:W5) (tn:Nat->Heap->Prop) (J:It) (H':Hp),itv=.ref it/\Inv X pins σ H' s2/\Turn X.prog X.w X.K tg J fp it tn/\tn 0 s2.heap/\(∀ b∈fp,wg X pins H' b)/\R J H'
def PI(X:Cx)(tg iter:Expr)(wi:TI):Prop:=
 ∀ pins s (σ:St) H (R:It->Hp->Prop),Inv X pins σ H s->wi σ H R ->
  wpAny (model X.prog X.w) X.A (eval iter X.env) (λv s1=>wpAny (model X.prog X.w) X.A (pyIter v) (PIE X pins σ tg R) X.xe s1) X.xe s
def jeX(b:s.heap.get? it=some o)(c:o.cls=.type n)(hd:o.data=.fields vs)
  (d:["enumerate","zip","dict_itemiterator","dict_reverseitemiterator","odict_iterator","itertools.zip_longest","itertools.pairwise"].contains n=false) (a:Q () s):wpAny M A (letOwnedTupleGo tg (.ref it) u) Q E s:=by
 cases tg<;>first
  | exact M6 a
  | (cases u<;>first
    | exact M6 a
    | (refine L3 (wpAny_load b ?_)
       rw[c,hd];show wpAny M A (if(["enumerate","zip","dict_itemiterator","dict_reverseitemiterator","odict_iterator","itertools.zip_longest","itertools.pairwise"].contains n&&vs[0]?==some (rawInt _))=true then _ else _) Q E s;rw[if_neg<|by intro h;rw[d,Bool.false_and] at h;cases h];exact M6 a))
noncomputable def Itl(K:W4)(a:Addr):It:=
 ⟨λi H=>∃ xs x,SqL K H a xs/\xs[i]?=some x,λi H x H'=>H'=H/\∀ xs,SqL K H a xs->xs[i]?=some x,λi H=>∃ xs,SqL K H a xs/\xs.length<=i⟩
noncomputable def Itt(K:W4)(a:Addr):It:=
 ⟨λi H=>∃ xs x,SqT K H a xs/\xs[i]?=some x,λi H x H'=>H'=H/\∀ xs,SqT K H a xs->xs[i]?=some x,λi H=>∃ xs,SqT K H a xs/\xs.length<=i⟩
noncomputable def Itr(lo:Int)(n:Nat):It:=⟨λi _=>i<n,λi H x H'=>H'=H/\x=.int (lo+i),λi _=>n<=i⟩
def jc6{P}{w}{K}{tg}(a j):Turn P w K tg (Itl K a) [j] j (λi h=>h.IsListIter j a i) where
 mem:=by simp
 obj:=λi h f b l=>by
  have e:b=j:=by simpa using l
  subst e;obtain⟨o,e,c,d⟩:=f;exact⟨o,e,λv z=>by rw[d] at z;cases z⟩
 keep:=λi h r f k=>f.at (k j<|by simp)
 item:=by
  intro X t y A O i g s σ H E I n f B;subst t y A;obtain⟨Q,x,q,C⟩:=B;obtain⟨D,F,p,R⟩:=I.list q;obtain⟨u,S,T⟩:=F.get C;obtain⟨G,J,U,L,M,N⟩:=n j (by simp);refine wpAny_pyNext_list_item f p.isList ⇑S λr m V=>?_;have W:Inv X g σ H {s with heap:=r}:=I.turned (λb o l e=>(V.2 b l).trans e) G J L M N;obtain⟨o,e,c,d⟩:=id m;exact⟨u,rfl,jeX e c d (by decide) ⟨x,H,W,T,⟨rfl,λys Y=>by rw[I.list_inj Y q];exact C⟩,m,λb l=>(n b l).1⟩⟩
 done:=by
  intro X t y A O i g s σ H E I n f B;subst t y A;obtain⟨Q,q,C⟩:=B;obtain⟨D,F,p,R⟩:=I.list q;obtain⟨G,J,U,L,M,N⟩:=n j (by simp);have hl:=F.length;exact wpAny_pyNext_list_end (I.ok.hd O) f p.isList (by simp;lia) λr Z=>⟨rfl,I.turned (Z) G J L M N⟩
 self:=λ_ _ _ _ _ f h=>wpAny_pyIter_listiter f h
def jat{P}{w}{K}{tg}(a j):Turn P w K tg (Itt K a) [j] j (λi h=>h.IsTupleIter j a i) where
 mem:=by simp
 obj:=λi h f b l=>by
  have e:b=j:=by simpa using l
  subst e;obtain⟨o,e,c,d⟩:=f;exact⟨o,e,λv z=>by rw[d] at z;cases z⟩
 keep:=λi h r f k=>f.at (k j<|by simp)
 item:=by
  intro X t y A O i g s σ H E I n f B;subst t y A;obtain⟨Q,x,q,C⟩:=B;obtain⟨D,F,p,R⟩:=I.tuple q;obtain⟨u,S,T⟩:=F.get C;obtain⟨G,J,U,L,M,N⟩:=n j (by simp);refine wpAny_pyNext_tuple_item f (p) ⇑S λr m V=>?_;have W:Inv X g σ H {s with heap:=r}:=I.turned (λb o l e=>(V.2 b l).trans e) G J L M N;obtain⟨o,e,c,d⟩:=id m;exact⟨u,rfl,jeX e c d (by decide) ⟨x,H,W,T,⟨rfl,λys Y=>by rw[I.tuple_inj Y q];exact C⟩,m,λb l=>(n b l).1⟩⟩
 done:=by
  intro X t y A O i g s σ H E I n f B;subst t y A;obtain⟨Q,q,C⟩:=B;obtain⟨D,F,p,R⟩:=I.tuple q;obtain⟨G,J,U,L,M,N⟩:=n j (by simp);have hl:=F.length;exact wpAny_pyNext_tuple_end (I.ok.hd O) f (p) (by simp;lia) λr Z=>⟨rfl,I.turned (Z) G J L M N⟩
 self:=λ_ _ _ _ _ f h=>wpAny_pyIter_tupleiter f h
def uX{P}{w}{K}{tg}(c)(lo)(n):Turn P w K tg (Itr lo n) [c] c (λi h=>IsRangeIter h c (lo+(i:Nat)*1) ((n:Int)-(i:Nat)) 1) where
 mem:=by simp
 obj:=λi h a b f=>by
  have e:b=c:=by simpa using f
  subst e;exact⟨_,a,λv z=>by
   cases z⟩
 keep:=λi h l a k=>k c (by simp) _ a
 item:=by
  intro X A B C m i d s σ H E I j a p;subst A B C;obtain⟨q,r,D,u,x,y⟩:=j c (by simp);refine(Walks.range (prog:=X.prog) (w:=X.w) (I.ok.hd m) c lo 1 n).item i s _ _ p a λv l F G g J=>?_;obtain⟨t,rfl⟩:=G;have L:Inv X d σ H {s with heap:=l,toks:=F}:=I.turned (λb o f e=>J b o ⇑f e) q r u x y;refine⟨_,rfl,jeX g rfl rfl (by decide) ⟨.int<|lo+i,H,L,⟨t,?_⟩,⟨rfl,rfl⟩,g,λb f=>(j b f).1⟩⟩;rw[Int.mul_one]
 done:=by
  intro X A B C m i d s σ H E I j a p;obtain⟨q,r,D,u,x,y⟩:=j c (by simp);exact wpAny_pyNext_range_end (I.ok.hd m) a (by have:n<=i:=p;lia) λl M=>⟨rfl,I.turned (M) q r u x y⟩
 self:=λ_ _ _ _ _ a h=>wpAny_pyIter_rangeiter a h
section
variable {X:Cx}{tg:Expr}
def jd3{pins}{s}{R}{E}{lo hi}{c}(I:Inv X pins σ H s)(h1:-(2 ^ 62)<=lo)(h2:lo<2 ^ 62)(d:-(2 ^ 62)<=hi)(f:hi<2 ^ 62)
  (q:R (Itr lo (hi-lo).toNat) H):wpAny (model X.prog X.w) X.A (pyIter<|.ref ↥s) (PIE X pins σ tg R) E { s with heap:=s.heap.push {cls:=.type "range",data:=.fields #[.int lo t,.int hi u,.int 1 v]},toks:=c }:=by
 refine wpAny_pyIter_range (IsRange.new ..) (small_one h1 h2 d f) ?_;have a:Inv X pins σ H { s with heap:=s.heap.push {cls:=.type "range",data:=.fields #[.int lo t,.int hi u,.int 1 v]},toks:=c }:=I.kept λb o e=>L8 _ e;refine⟨(s.heap.push {cls:=.type "range",data:=.fields #[.int lo t,.int hi u,.int 1 v]}).objs.size,[(s.heap.push {cls:=.type "range",data:=.fields #[.int lo t,.int hi u,.int 1 v]}).objs.size],_,_,H,rfl,
  a.kept λb o e=>L8 _ e,uX _ lo (hi-lo).toNat,?_,λb g=>?_,q⟩
 ·have h:lo+((0:Nat):Int)*1=lo:=by simp
  have e2:(((hi-lo).toNat:Nat):Int)-((0:Nat):Int)=Builtin.Range.rangeSize lo hi 1:=by rw[rangeSize_one];split<;>lia
  rw[h,e2];exact X7 _ rfl
 ·have e:b=(s.heap.push {cls:=.type "range",data:=.fields #[.int lo t,.int hi u,.int 1 v]}).objs.size:=by simpa using g
  subst e;exact a.fpOk (M8 _)<|a.hok.fresh<|M8 _
def jit(ta:TA):TI:=λσ H R=>ta σ H λvs H1=>∃ j:Int,vs=[.int j]/\-(2 ^ 62)<=j/\j<2 ^ 62/\R (Itr 0 j.toNat) H1
def jbn(d:Gl X "range")(f:X.mg "range" = none)(g:PA X [a] ta)(i:starEach [a] X.env=[(false,eval a X.env)]:=by rfl):PI X tg (.Call (.Name "range" p) [a] [] pos) (jit ta):=by
 intro b s σ H R I h;refine Call_<|Jn I d f boot_range<|PyProof.Rows.callWith_type1 (thn (g pos b s σ H _ I h) λn s1 ⟨vs,o,k,r1,c⟩=>?_) i rfl;obtain⟨j,e,c,l,q⟩:=c;subst e;cases r1 with
 | cons r m=>
  cases m;obtain⟨t,rfl⟩:=r;exact call_range_1<|jd3 k ∅ ∅ c l ⇑q
def jn1(wi:TI)(g:TG)(tb:TS):TS:=λD σ H=>wi σ H λJ H1=>∃ W:Nat->Nat->St->Hp->Prop,(∃ m,W 0 m σ H1)/\∀ i m σ H,W i m σ H ->
 (J.stop i H/\D.nx σ H)\/(J.go i H/\∃ N:St->Hp->Prop,(∀ σ' H',N σ' H'->∃ m',m'<m/\W (i+1) m' σ' H')/\∀ x H',J.yld i H x H'->g x σ H' λσ2 H2=>tb {D with nx:=N,ct:=N,bk:=D.nx} σ2 H2)
noncomputable def VE(fp:W5)(h:Heap):List (Addr×Obj):=fp.filterMap λb=>(h.get? b).map λo=>(b,o)
def kg(a:b∈fp)(e:h.get? b=some o):(b,o)∈VE fp h:=List.mem_filterMap.mpr ⟨b,a,by rw[e];rfl⟩
def jcu(a:p∈VE fp h):p.1∈fp/\h.get? p.1=some p.2:=by
 obtain⟨b,c,e⟩:=List.mem_filterMap.mp a;cases q:h.get? b with
 | none=>rw[q] at e;cases e
 | some o=>
  rw[q] at e;have d:=X3 e;subst d;exact⟨c,q⟩
def Inv.pinned(I:Inv X pins σ H s)(f:∀ b∈fp,wg X pins H b)(g:∀ b∈fp,∃ o,s.heap.get? b=some o/\∀ v,o.data≠.cell v):Inv X (pins++VE fp s.heap) σ H s:=
 I.pins_of λp h=>(N1.mp h).elim (λz=>I.pin p<|U2 _ z) λz=>by
  obtain⟨a,e⟩:=jcu z;obtain⟨i,j,k,_⟩:=f p.1 a;obtain⟨o,c,d⟩:=g p.1 a;rw[e] at c;cases c;exact⟨e,i,j,k,d⟩
def Inv.unpinned(I:Inv X (pins++pl) σ H s):Inv X pins σ H s:=I.pins_of λp a=>I.pin p<|U2 _<|List.mem_append_left _ a
def jlg(B:PassesOwn (model X.prog X.w) X.A X.env X.xe)(U:X.calm=true)(hi:PI X tg iter wi)(hg:PG X tg g)(c:PSs X body tb)
  (hs:∀ x,foldedSetIterable iter X.env x=pure x:=by intro _;rfl):PS X (.For tg iter body [] pos) (jn1 wi g tb):=by
 intro a s σ H D I h;refine wpAny_For (thn (hi a s σ H _ I h) λv s1 h1=>thn h1 λitv s2 h2=>?_) hs;obtain⟨it,C,V,J,H2,e,I2,T,O,Y,W,⟨m0,w0⟩,turn⟩:=h2;subst e;have j:∀{t},(∀ b∈C,t b=none)->∀ b∈C,wg X a t b:=λhn b c=>⟨hn b c,(Y b c).2⟩;refine codeAny_forLoop_any (λn Z=>∃ i E t,Inv X a E t Z/\V i Z.heap/\(∀ b∈C,t b=none)/\W i n E t) ?_ m0 ⟨0,σ,H2,I2,O,λb c=>(Y b c).1,w0⟩;rintro n s3 ⟨i,F,M,I3,G,K,w3⟩;rcases turn i n F M w3 with⟨stop,qn⟩ | ⟨go,N,hN,step⟩
 ·refine wpAny_passesOwn B<|thn (T.done X rfl rfl rfl U i a s3 F M X.xe I3 (j K) G stop) λr s4 ⟨P,I4⟩=>?_;subst P;exact wpAny_execs_nil ⟨F,M,I4,qn⟩
 ·refine wpAny_passesOwn B<|thn (T.item X rfl rfl rfl U i a s3 F M X.xe I3 (j K) G go) λr s4 ⟨u,P,h4⟩=>?_;subst P;refine wpAny_passesOwn B<|thn h4 λ_ s5 Q=>?_;obtain⟨x,H5,I5,r5,y5,z,R⟩:=Q;refine wpAny_passesOwn B<|thn (hg _ s5 F H5 x u _ (I5.pinned (j R)<|T.obj _ _ z) r5<|step x H5 y5) λ_ s6 Q=>?_;obtain⟨σ6,H6,I6,q6⟩:=Q;refine wpAny_passesOwn B<|thn (c _ s6 σ6 H6 _ I6 q6) λf S y=>?_;have k:∀{l}{p},Inv X (a++VE C s5.heap) l p S->N l p->∃ m,m<n/\∃ i E t,Inv X a E t S/\V i S.heap/\(∀ b∈C,t b=none)/\W i m E t:=λ{l p} q L=>by
   obtain⟨m',hm,w7⟩:=hN l p L;refine⟨m',hm,i+1,l,p,q.unpinned,T.keep _ _ _ z λb c o e=>(q.pin (b,o)<|U2 _<|U2 _<|kg c e).1,λb c=>?_,w7⟩;obtain⟨o,e,d⟩:=T.obj _ _ z b c;exact(q.pin (b,o)<|U2 _<|U2 _<|kg c e).2.1
  cases f with
  | next=>obtain⟨l,p,q,L⟩:=y;exact k q L
  | cont=>obtain⟨l,p,q,L⟩:=y;exact k q L
  | brk=>obtain⟨l,p,q,y⟩:=y;exact⟨l,p,q.unpinned,y⟩
  | ret v=>obtain⟨x7,l,p,q,r7,y⟩:=y;exact⟨x7,l,p,q.unpinned,r7,y⟩
end
abbrev R2:=V->V->Hp->VK->Prop
def OpR(X:Cx)(f:Value->Value->Sem Value)(r:R2):Prop:=
 ∀ pins s (σ:St) H x y v u Q,Inv X pins σ H s->RelV x v->RelV y u->r x y H Q ->
  wpAny (model X.prog X.w) X.A (f v u) (EP X pins σ Q) X.xe s
def UnR(X:Cx)(f:Value->Sem Value)(r:V->Hp->VK->Prop):Prop:=
 ∀ pins s (σ:St) H x v Q,Inv X pins σ H s->RelV x v->r x H Q ->
  wpAny (model X.prog X.w) X.A (f v) (EP X pins σ Q) X.xe s
def km(X:Cx)(f:Value)(r:List V->Hp->VK->Prop):Prop:=
 ∀ pins s (σ:St) H xs us Q,Inv X pins σ H s->Vals xs us->r xs H Q ->
  wpAny (model X.prog X.w) X.A (call f us) (EP X pins σ Q) X.xe s
def tOp(r:R2)(ta tb:TE):TE:=λσ H Q=>ta σ H λx H1=>tb σ H1 λy H2=>r x y H2 Q
def tUn(r:V->Hp->VK->Prop)(ta:TE):TE:=λσ H Q=>ta σ H λx H1=>r x H1 Q
def rI(C:Int->Int->Prop)(g:Int->Int->V):R2:=λx y H Q=>∃ i j,x=.int i/\y=.int j/\C i j/\Q (g i j) H
def rI0(g:Int->Int->V):R2:=λx y H Q=>∃ i j,x=.int i/\y=.int j/\Q (g i j) H
def rU(g:Int->V):V->Hp->VK->Prop:=λx H Q=>∃ i,x=.int i/\Q (g i) H
section
variable {X:Cx}{a b c:Expr}{ta tb tc:TE}{pos:Pos}
def jn3(d:PE X a ta)(e:PE X b tb){pins}{s}{R:V->V->Hp->Prop}(I:Inv X pins σ H s)
  (h:ta σ H λx H1=>tb σ H1 λy H2=>R x y H2) {Q:J0}{f:Value->Value->Sem Value}
  (g:∀ v u s2 x y H2,Inv X pins σ H2 s2->RelV x v->RelV y u->R x y H2->wpAny (model X.prog X.w) X.A (f v u) Q X.xe s2):
  wpAny (model X.prog X.w) X.A (eval a X.env) (λv s₁=>wpAny (model X.prog X.w) X.A (eval b X.env) (λu s₂=>wpAny (model X.prog X.w) X.A (f v u) Q X.xe s₂) X.xe s₁) X.xe s:=by
 refine thn (d pins s σ H _ I h) λv s1 c=>?_;obtain⟨x,H1,i,r1,j⟩:=c;refine thn (e pins s1 σ H1 _ i j) λu s2 c=>?_;obtain⟨y,H2,k,r2,l⟩:=c;exact g v u s2 x y H2 k r1 r2 l
def xp(d:OpR X (binaryOp op) r)(e:PE X a ta)(f:PE X b tb):PE X (.BinOp a op b pos) (tOp r ta tb):=by
 intro c s σ H Q I h;exact wpAny_BinOp<|jn3 e f I h λv u s2 x y g i j k q=>d c s2 σ g x y v u Q i j k q
def job(c:UnR X (unaryOp op) r)(d:PE X a ta):PE X (.UnaryOp op a pos) (tUn r ta):=by
 intro b s σ H Q I h;exact UnaryOp_<|thn (d b s σ H _ I h) λv s1 ⟨x,e,f,r1,g⟩=>c b s1 σ e x v Q f r1 g
def opI{f}{C}{g:Int->Int->Int}
  (a:∀ i j t u s (Q:J0) (E:J0),C i j->Q (.int (g i j) s.toks) {s with toks:=s.toks+1}->wpAny (model X.prog X.w) X.A (f (.int i t)<|.int j u) Q E s):
  OpR X f (rI C λi j=>.int<|g i j):=by
 intro b s σ H x y v u Q I c d h;obtain⟨i,j,rfl,rfl,e,q⟩:=h;obtain⟨t,rfl⟩:=c;obtain⟨k,rfl⟩:=d;exact a i j t k s _ _ e ⟨.int<|g i j,H,I.tok _,⟨_,rfl⟩,q⟩
def jo6{f}{g:Int->Int->Int}
  (a:∀ i j t u s (Q:J0) (E:J0),Q (.int (g i j) s.toks) {s with toks:=s.toks+1}->wpAny (model X.prog X.w) X.A (f (.int i t)<|.int j u) Q E s):
  OpR X f (rI0 λi j=>.int<|g i j):=by
 intro b s σ H x y v u Q I c d h;obtain⟨i,j,rfl,rfl,q⟩:=h;obtain⟨t,rfl⟩:=c;obtain⟨e,rfl⟩:=d;exact a i j t e s _ _ ⟨.int<|g i j,H,I.tok _,⟨_,rfl⟩,q⟩
def jm5{f}{g:Int->Int->Bool}
  (a:∀ i j t u s (Q:J0) (E:J0),Q (.bool<|g i j) s->wpAny (model X.prog X.w) X.A (f (.int i t)<|.int j u) Q E s):
  OpR X f (rI0 λi j=>.bl<|g i j):=by
 intro b s σ H x y v u Q I c d h;obtain⟨i,j,rfl,rfl,q⟩:=h;obtain⟨t,rfl⟩:=c;obtain⟨e,rfl⟩:=d;exact a i j t e s _ _ ⟨.bl<|g i j,H,I,rfl,q⟩
def jng(i j:Int):Prop:=0<=j/\j<=1000000/\i.natAbs<2 ^ 64
def jjE:OpR X (binaryOp .Add) (rI0 λi j=>.int<|i+j):=jo6 λ_ _ _ _ _ _ _ q=>add_int q
def jkK:OpR X (binaryOp .Sub) (rI0 λi j=>.int<|i-j):=jo6 λ_ _ _ _ _ _ _ q=>sub_int q
def jld:OpR X (binaryOp .Mod) (rI (λ_ j=>0<j) λi j=>.int<|i%j):=opI λi j _ _ _ _ _ a q=>by
 exact mod_int' ∅ (by rw[Int.fmod_eq_emod_of_nonneg i ∅];exact q)
def jl1:OpR X (binaryOp .Pow) (rI jng λi j=>.int<|i ^ j.toNat):=opI λ_ _ _ _ _ _ _ a q=>pow_int_small a.1 a.2.1 a.2.2 q
def unI{f}{g:Int->Int}
  (a:∀ i t s (Q:J0) (E:J0),Q (.int (g i) s.toks) {s with toks:=s.toks+1}->wpAny (model X.prog X.w) X.A (f<|.int i t) Q E s):
  UnR X f (rU λi=>.int<|g i):=by
 intro b s σ H x v Q I c h;obtain⟨i,rfl,q⟩:=h;obtain⟨t,rfl⟩:=c;exact a i t s _ _ ⟨.int<|g i,H,I.tok _,⟨_,rfl⟩,q⟩
def jlJ:UnR X (unaryOp .USub) (rU λi=>.int<|-i):=unI λ_ _ _ _ _ q=>neg_int q
end
noncomputable def jnp:V->V->Bool
 | .non,.non=>true | .non,.int _=>true | .int _,.non=>true | .non,.bl _=>true | .bl _,.non=>true | .non,.str _=>true | .str _,.non=>true
 | .int _,.int _=>true | .bl _,.bl _=>true | .str _,.str _=>true | .byt _,.byt _=>true
 | .int _,.str _=>true | .str _,.int _=>true | .bl _,.str _=>true | .str _,.bl _=>true
 | _,_=>false
def rEq:R2:=λx y H Q=>jnp x y=true/\Q (.bl<|decide<|x=y) H
def rNe:R2:=λx y H Q=>jnp x y=true/\Q (.bl<|!decide (x=y)) H
def xV:decide (V.int i=V.int j)=(i==j):=by
 rw[Bool.eq_iff_iff];simp
def jc3:decide (V.bl i=V.bl j)=(i==j):=by
 rw[Bool.eq_iff_iff];simp
def jcB:decide (V.str i=V.str j)=(i==j):=by
 rw[Bool.eq_iff_iff];simp
def jaW:decide (V.byt i=V.byt j)=(i.toList==j.toList):=by
 rw[Bool.eq_iff_iff];cases i;cases j;simp
section
variable {X:Cx}{a b c:Expr}{ta tb tc:TE}{pos:Pos}
def jH(I:Inv X pins σ H s)(q:Q (.bl k) H)(e:k=k'):EP X pins σ Q (.bool k') s:=by
 subst e;exact⟨.bl k,H,I,rfl,q⟩
def joz:OpR X (compareOp .Eq) rEq:=by
 intro e s σ H x y v u Q I d a h;obtain⟨c,q⟩:=h;cases x with
 | non=>
  cases d;cases y with
  | non=>cases a;exact PySem.EqNone.eq_none_none<|jH I q (by simp)
  | bl j=>cases a;exact PySem.EqNone.eq_none_bool<|jH I q (by simp)
  | int j=>obtain⟨b,rfl⟩:=a;exact PySem.EqNone.eq_none_int<|jH I q (by simp)
  | str j=>obtain⟨b,rfl⟩:=a;exact PySem.EqNone.eq_none_str<|jH I q (by simp)
  | _=>exact absurd (c) M3
 | bl i=>
  cases d;cases y with
  | non=>cases a;exact PySem.EqNone.eq_bool_none<|jH I q (by simp)
  | bl j=>cases a;exact eq_bool<|jH I q jc3
  | str j=>obtain⟨b,rfl⟩:=a;exact PySem.EqMixed.eq_bool_str<|jH I q (by simp)
  | _=>exact absurd (c) M3
 | int i=>
  obtain⟨t,rfl⟩:=d;cases y with
  | non=>cases a;exact PySem.EqNone.eq_int_none<|jH I q (by simp)
  | int j=>obtain⟨b,rfl⟩:=a;exact eq_int<|jH I q xV
  | str j=>obtain⟨b,rfl⟩:=a;exact PySem.EqMixed.eq_int_str<|jH I q (by simp)
  | _=>exact absurd (c) M3
 | str i=>
  obtain⟨t,rfl⟩:=d;cases y with
  | non=>cases a;exact PySem.EqNone.eq_str_none<|jH I q (by simp)
  | bl j=>cases a;exact PySem.EqMixed.eq_str_bool<|jH I q (by simp)
  | int j=>obtain⟨b,rfl⟩:=a;exact PySem.EqMixed.eq_str_int<|jH I q (by simp)
  | str j=>obtain⟨b,rfl⟩:=a;exact eq_str<|jH I q jcB
  | _=>exact absurd (c) M3
 | byt i=>
  obtain⟨t,rfl⟩:=d;cases y with
  | byt j=>obtain⟨b,rfl⟩:=a;exact PySem.W.eq_bytes<|jH I q jaW
  | _=>exact absurd (c) M3
 | _=>cases y<;>exact absurd (c) M3
def joH:OpR X (compareOp .NotEq) rNe:=by
 intro e s σ H x y v u Q I d a h;obtain⟨c,q⟩:=h;cases x with
 | non=>
  cases d;cases y with
  | non=>cases a;exact PySem.EqNone.ne_none_none<|jH I q (by simp)
  | bl j=>cases a;exact PySem.EqNone.ne_none_bool<|jH I q (by simp)
  | int j=>obtain⟨b,rfl⟩:=a;exact PySem.EqNone.ne_none_int<|jH I q (by simp)
  | str j=>obtain⟨b,rfl⟩:=a;exact PySem.EqNone.ne_none_str<|jH I q (by simp)
  | _=>exact absurd (c) M3
 | bl i=>
  cases d;cases y with
  | non=>cases a;exact PySem.EqNone.ne_bool_none<|jH I q (by simp)
  | bl j=>cases a;exact ne_bool<|jH I q<|congrArg not jc3
  | str j=>obtain⟨b,rfl⟩:=a;exact PySem.EqMixed.ne_bool_str<|jH I q (by simp)
  | _=>exact absurd (c) M3
 | int i=>
  obtain⟨t,rfl⟩:=d;cases y with
  | non=>cases a;exact PySem.EqNone.ne_int_none<|jH I q (by simp)
  | int j=>obtain⟨b,rfl⟩:=a;exact ne_int<|jH I q<|congrArg not xV
  | str j=>obtain⟨b,rfl⟩:=a;exact PySem.EqMixed.ne_int_str<|jH I q (by simp)
  | _=>exact absurd (c) M3
 | str i=>
  obtain⟨t,rfl⟩:=d;cases y with
  | non=>cases a;exact PySem.EqNone.ne_str_none<|jH I q (by simp)
  | bl j=>cases a;exact PySem.EqMixed.ne_str_bool<|jH I q (by simp)
  | int j=>obtain⟨b,rfl⟩:=a;exact PySem.EqMixed.ne_str_int<|jH I q (by simp)
  | str j=>obtain⟨b,rfl⟩:=a;exact ne_str<|jH I q<|congrArg not jcB
  | _=>exact absurd (c) M3
 | byt i=>
  obtain⟨t,rfl⟩:=d;cases y with
  | byt j=>obtain⟨b,rfl⟩:=a;exact PySem.W.ne_bytes<|jH I q<|congrArg not jaW
  | _=>exact absurd (c) M3
 | _=>cases y<;>exact absurd (c) M3
def jnR:OpR X (compareOp .Lt) (rI0 λi j=>.bl<|decide<|i<j):=jm5 λ_ _ _ _ _ _ _ q=>lt_int q
def jnG:OpR X (compareOp .LtE) (rI0 λi j=>.bl<|decide<|i<=j):=jm5 λ_ _ _ _ _ _ _ q=>le_int q
def jnr:OpR X (compareOp .Gt) (rI0 λi j=>.bl<|decide<|j<i):=jm5 λ_ _ _ _ _ _ _ q=>gt_int q
def jni:OpR X (compareOp .GtE) (rI0 λi j=>.bl<|decide<|j<=i):=jm5 λ_ _ _ _ _ _ _ q=>ge_int q
def jb1:OpR X (compareOp .In) (λx y H Q=>∃ i j,x=.str i/\y=.str j/\Q (.bl<|!(Builtin.Str.occurrences j i 0 j.length 1).isEmpty) H):=by
 intro a s σ H x y v u Q I b c h;obtain⟨i,j,rfl,rfl,q⟩:=h;obtain⟨t,rfl⟩:=b;obtain⟨d,rfl⟩:=c;exact in_str<|jH I q rfl
def Qh:OpR X (compareOp .NotIn) (λx y H Q=>∃ i j,x=.str i/\y=.str j/\Q (.bl<|!(!(Builtin.Str.occurrences j i 0 j.length 1).isEmpty)) H):=by
 intro a s σ H x y v u Q I b c h;obtain⟨i,j,rfl,rfl,q⟩:=h;obtain⟨t,rfl⟩:=b;obtain⟨d,rfl⟩:=c;exact notIn_str<|jH I q rfl
def VR(b)  (h:op≠.In:=by decide) (h2:op≠.NotIn:=by decide):behindInMarks op b=false:=by
 have a:(op==CmpOp.In)=false:=by cases op<;>first | rfl | exact absurd rfl h
 have e2:(op==CmpOp.NotIn)=false:=by cases op<;>first | rfl | exact absurd rfl h2
 cases b<;>simp[behindInMarks,a,e2]
def jje(d:OpR X (compareOp op) r)(e:PE X a ta)(f:PE X b tb)(g:behindInMarks op b=false):PE X (.Compare a [op] [b] pos) (tOp r ta tb):=by
 intro c s σ H Q I h;exact wpAny_Compare1 (jn3 e f I h λv u s2 x y i j k l q=>d c s2 σ i x y v u Q j k l q) g
def Vo(t:TE):TT:=λσ H Q=>t σ H λx H'=>∃ k,x=.bl k/\Q k H'
def jbM(f:OpR X (compareOp op) r)(g:PE X a ta)(i:PE X b tb)(j:behindInMarks op b=false):PT X (.Compare a [op] [b] pos) (Vo<|tOp r ta tb):=by
 intro d s σ H Q I h;refine wpAny_isTrue_Compare1 (thn (g d s σ H _ I h) λv s1 ⟨x,l,m,r1,n⟩=>thn (i d s1 σ l _ m n) λu s2 ⟨y,o,p,r2,q⟩=>
  thn (f d s2 σ o x y v u _ p r1 r2 q) λc C ⟨z,t,w,A,k,e,B⟩=>?_) j
 subst e;cases A;exact wpAny_truthy_bool ⟨t,w,B⟩
def K6:(sizeLine:Nat)<2 ^ 63:=by rw[sizeLine_eq];decide
def uJ:OpR X (binaryOp .Add) (λx y H Q=>∃ i j,x=.str i/\y=.str j/\i.length+j.length<=sizeLine/\Q (.str<|i++j) H):=by
 intro a s σ H x y v u Q I b c h;obtain⟨i,j,rfl,rfl,d,q⟩:=h;obtain⟨t,rfl⟩:=b;obtain⟨e,rfl⟩:=c;exact add_str (λe f=>⟨.str<|i++j,H,I.tok _,⟨_,rfl⟩,q⟩) d
def jhj(r:Vals [x] us):∃ u,us=[u]/\RelV x u:=by
 cases r with
 | cons r1 r2=>cases r2;exact⟨_,rfl,r1⟩
def jlC(r:Vals [x,y] us):Ex2 λu w'=>An3 (us=[u,w']) (RelV x u) (RelV y w'):=by
 cases r with
 | cons r1 r2=>
  cases r2 with
  | cons a b=>cases b;exact⟨_,_,rfl,r1,a⟩
def jdA(c:X.calm=true):km X (.builtin "max") (λxs H Q=>∃ i j,xs=[.int i,.int j]/\Q (.int<|if j>i then j else i) H):=by
 intro b s σ H xs d Q I r h;obtain⟨i,j,rfl,q⟩:=h;obtain⟨u,e,rfl,⟨t,rfl⟩,⟨f,rfl⟩⟩:=jlC r;refine max_two_ints (I.ok.hd c) λg l k=>⟨_,H,I.kept k,?_,q⟩;by_cases a:j>i
 ·rw[if_pos a,if_pos a];exact⟨_,rfl⟩
 ·rw[if_neg a,if_neg a];exact⟨_,rfl⟩
def jdt(c:X.calm=true):km X (.builtin "min") (λxs H Q=>∃ i j,xs=[.int i,.int j]/\Q (.int<|if j<i then j else i) H):=by
 intro b s σ H xs d Q I r h;obtain⟨i,j,rfl,q⟩:=h;obtain⟨u,e,rfl,⟨t,rfl⟩,⟨f,rfl⟩⟩:=jlC r;refine min_two_ints (I.ok.hd c) λg l k=>⟨_,H,I.kept k,?_,q⟩;by_cases a:j<i
 ·rw[if_pos a,if_pos a];exact⟨_,rfl⟩
 ·rw[if_neg a,if_neg a];exact⟨_,rfl⟩
def jnx(K:W4)(x:V)(H:Hp)(n:Nat):Prop:=
 match x with
 | .str y=>y.length<=sizeLine/\n=y.length
 | .byt y=>y.size<=sizeLine/\n=y.size
 | .ref p=>(∃ xs,SqL K H p xs/\n=xs.length) \/ ∃ xs,SqT K H p xs/\n=xs.length
 | _=>False
def jeO:km X (.builtin "len") (λxs H Q=>∃ x n,xs=[x]/\jnx X.K x H n/\Q (.int n) H):=by
 intro i s σ H xs l Q I r h;obtain⟨x,n,rfl,e,q⟩:=h;obtain⟨u,rfl,c⟩:=jhj r;have m:=sizeLine_eq;cases x with
 | str y=>
  obtain⟨t,rfl⟩:=c;obtain⟨j,b⟩:y.length<=sizeLine/\n=y.length:=e;subst b;exact len_str ∅ ⟨.int _,H,I.tok _,⟨_,rfl⟩,q⟩
 | byt y=>
  obtain⟨t,rfl⟩:=c;obtain⟨j,b⟩:y.size<=sizeLine/\n=y.size:=e;subst b;exact PySem.W.len_bytes ∅ ⟨.int _,H,I.tok _,⟨_,rfl⟩,q⟩
 | ref p=>
  cases c;have b:=e;rcases b with⟨xs,d,b⟩ | ⟨xs,d,b⟩
  ·subst b;obtain⟨f,g,pl,k⟩:=I.list d;have a:=g.length;exact Calls.call_len_list pl.isList (by simp only[N2];lia) ⟨.int xs.length,H,I.tok _,⟨_,by simp only[N2];rw[a]⟩,q⟩
  ·subst b;obtain⟨f,g,pl,k⟩:=I.tuple d;have a:=g.length;exact len_tuple pl (by simp only[N2];lia) ⟨.int xs.length,H,I.tok _,⟨_,by simp only[N2];rw[a]⟩,q⟩
 | _=>exact(e).elim
end
structure ObjM(h:Heap)(x dx C:Addr)(mA:W6):Prop where
 obj:h.get? x=some (PySem.W.instObj C dx)
 ns:h.Ns1 dx mA
 ne:dx≠x
def jcD{h:Heap}{mA}(n:h.Ns1 dx mA):∃ od,h.get? dx=some od/\∀ name,PySem.W.lookIn name od=some (mA name):=by
 obtain⟨o,c,k,d,hd,f,_,g⟩:=n;refine⟨o,d,λname=>?_⟩;have e:=g name;unfold nsFind findBy at e;rw[<- Array.find?_toList] at e;unfold PySem.W.lookIn;rw[hd];dsimp only;split
 ·rename_i y q;rw[q] at e;exact congrArg some e
 ·rename_i q;rw[q] at e;have a:c.toList.any (·.refKey)=false:=by
   rw[List.any_eq_false];intro y i;obtain⟨z,t,b⟩:=f y<|Array.mem_toList_iff.mp i;simp[DictEntry.refKey,b]
  have j:¬ c.toList.any (·.refKey)=true:=by rw[a];exact M3
  rw[if_neg j];exact congrArg some e
def ObjM.look(I:ObjM h x dx C mA):∃ od,PySem.W.InstAt h x (PySem.W.instObj C dx) C (some od)/\∀ name,PySem.W.lookIn name od=some (mA name):=
 let ⟨od,ho,hl⟩:=jcD I.ns
 ⟨od,⟨I.obj,rfl,rfl,ho⟩,hl⟩
section
variable {prog:Program}{w:World}{A:Around}{E:J0}{s:Shared}{K:W4}{x dx C f:Addr}{mA:W6}{name:Str}{v:Value}
def jgL{a}{Q}(X:K.In s.heap)(I:ObjM s.heap x dx C mA)(c:PySem.W.plainGet K C name=true)(d:PySem.W.hasDictIn K C=true)
  (e:PySem.W.findIn K (.ref C) name=some none) (f:mA name=some v) (b:PySem.W.handedIn v=true) (h:Q v {s with toks:=s.toks+1}):
  wpAny (model prog w) A (getAttr (.ref x) name a) Q E s:=by
 obtain⟨od,J,g⟩:=I.look;exact PySem.W.get_value X J (PySem.W.plainGet_of c).1 (PySem.W.findObj_own d e rfl<|by rw[g,f]) b h
def jeN{pl}{Q}(X:K.In s.heap)(I:ObjM s.heap x dx C mA)(a:PySem.W.plainGet K C name=true)
  (b:PySem.W.findIn K (.ref C) name=some (some<|.ref f)) (c:PySem.W.isFn K (.ref f)=true) (d:mA name=none) (h:Q (.ref f,[.ref x]) s):
  wpAny (model prog w) A (getMethod (.ref x) name pl) Q E s:=by
 obtain⟨od,J,e⟩:=I.look;exact PySem.W.method_fn X J (PySem.W.plainGet_of a).1 (PySem.W.plainGet_of a).2 b (beq_iff_eq.mp c) (by show(PySem.W.lookIn name od).map (·.isSome)=some false;rw[e,d];rfl) h
def jiZ{ns}{Q}(X:K.In s.heap)(I:ObjM s.heap x dx C mA)
  (i:PySem.W.findIn K (.ref C) "__setattr__" = some (some<|.builtin "object.__setattr__")) (j:PySem.W.plainOver K C=true) (k:PySem.W.takerIn K C name=some none) (l:PySem.W.hasDictIn K C=true)
  (m:PySem.Within mA ns) (hsz:ns.length<=sizeLine)
  (h:∀ h',ObjM h' x dx C (λy=>if y=name then some v else mA y)->Heap.SameBut dx s.heap h'->Q () {s with heap:=h',toks:=s.toks+2}):
  wpAny (model prog w) A (setAttr (.ref x) name v) Q E s:=by
 obtain⟨od,J,q⟩:=I.look;refine PySem.W.set_plain X J i<|PySem.W.osa_open X J j k λb=>?_;obtain⟨r,n,d⟩:=PySem.W.any_some l;refine L3<|M6<|L3<|L3<|wpAny_loadPart I.obj<|L3<|PySem.W.Looks.here (PySem.W.looks_clsIn X n) ?_;rw[d];refine M6<|L3<|M6<|L3<|wpAny_nsSet1 I.ns λh' a c=>?_;obtain⟨t,o,p,e,f,g⟩:=a.count<|PySem.Within.cons name v m;refine L3<|wpAny_lookBehind e (by rw[f];exact pastItsLine_dict<|N6 g<|by rw[M1];lia) ?_;exact M6<|h _ ⟨(c.2 _<|Ne.symm I.ne).trans I.obj,a,I.ne⟩ c
def jfa{R}{vs}{kw}(X:K.In s.heap)(a:PySem.W.makesIn K C=true)
  (hi:PySem.W.findIn K (.ref C) "__init__" = some (some<|.ref f)) (b:PySem.W.typeIn K (.ref f)=some (.type "function"))
  (h:codeAny (model prog w) (A.under<|.builtin "type.__call__" ⟨.ref C::vs,kw⟩) (.call (.ref f) ⟨.ref (↥s+1)::vs,kw⟩) (PySem.W.InitBack (↥s+1) R)
   {s with heap:=(s.heap.push PySem.W.emptyDict).push (PySem.W.instObj C ↥s)}):
  codeAny (model prog w) A (.call (.ref C) ⟨vs,kw⟩) R s:=by
 obtain⟨c,g,d,t,os⟩:=s;exact PySem.W.make_core (PySem.W.makes_of X a) (PySem.W.looks_findIn X hi) (λself=>PySem.W.bind_fn X self b) (.inl rfl) h
end
noncomputable def VC(f:Str)(v:V):List (Str×V)->List (Str×V)
 | []=>[(f,v)]
 | (g,x)::r=>if g=f then(g,v)::r else(g,x)::VC f v r
theorem YS(f g)(v):∀ fs:List (Str×V),(VC f v fs).lookup g=if g=f then some v else fs.lookup g
 | []=>by
  show List.lookup g [(f,v)]=_;by_cases h:g=f
  ·have a:=beq_iff_eq.mpr h;simp only[List.lookup,a,if_pos h]
  ·have a:=U1.mpr h;simp only[List.lookup,a,if_neg h]
 | (k,x)::r=>by
  rw[show VC f v ((k,x)::r)=(if k=f then(k,v)::r else(k,x)::VC f v r) from rfl];by_cases b:k=f
  ·rw[if_pos b];by_cases h:g=k
   ·have a:=beq_iff_eq.mpr h;simp only[List.lookup,a,if_pos<|h.trans b]
   ·have a:=U1.mpr h;simp only[List.lookup,a,if_neg<|λe:g=f=>h<|e.trans b.symm]
  ·rw[if_neg b];by_cases h:g=k
   ·have a:=beq_iff_eq.mpr h;simp only[List.lookup,a,if_neg<|λe:g=f=>b<|h.symm.trans e]
   ·have a:=U1.mpr h;simp only[List.lookup,a];exact(YS f g v r)
theorem Ys(f)(v):∀ fs:List (Str×V),f∈(VC f v fs).map (·.1)/\∀ g,g∈fs.map (·.1)->g∈(VC f v fs).map (·.1)
 | []=>⟨by simp[VC],λg h=>by simp at h⟩
 | (k,x)::r=>by
  obtain⟨b,c⟩:=Ys f v r;rw[show VC f v ((k,x)::r)=(if k=f then(k,v)::r else(k,x)::VC f v r) from rfl];by_cases a:k=f
  ·rw[if_pos a];subst a;exact⟨by simp,λg h=>by simpa using h⟩
  ·rw[if_neg a];refine⟨?_,λg h=>?_⟩
   ·rw[L5];exact L6 _ b
   ·rw[L5] at h ⊢;rcases M4.mp h with e | e
    ·exact M4.mpr<|.inl e
    ·exact L6 _<|c g e
theorem Vh(f)(v):∀ fs:List (Str×V),(VC f v fs).length<=fs.length+1
 | []=>by simp[VC]
 | (k,x)::r=>by
  have b:=Vh f v r;rw[show VC f v ((k,x)::r)=(if k=f then(k,v)::r else(k,x)::VC f v r) from rfl];by_cases a:k=f
  ·rw[if_pos a,M1,M1];lia
  ·rw[if_neg a,M1,M1];lia
def RelO.some_of(r:RelO (some v) o):∃ u,o=some u/\RelV v u:=by
 cases o with
 | none=>exact(r).elim
 | some u=>exact⟨u,rfl,r⟩
def RelO.none_of(r:RelO none o):o=none:=by
 cases o with
 | none=>rfl
 | some u=>exact(r).elim
def jca(r:RelV v u):PySem.W.handedIn u=true:=by
 cases v with
 | non=>cases(r);rfl
 | bl b=>cases(r);rfl
 | int i=>obtain⟨t,e⟩:=(r);cases e;rfl
 | str x=>obtain⟨t,e⟩:=(r);cases e;rfl
 | byt b=>obtain⟨t,e⟩:=(r);cases e;rfl
 | flt b=>obtain⟨t,e⟩:=(r);cases e;rfl
 | ref a=>cases(r);rfl
 | ty n=>cases(r);rfl
section
variable {P:Program}{w:World}{H H':Hp}{h h':Heap}{a C dx:Addr}{fs fs':List (Str×V)}
def xJ(hok:HOk P w H h)(e:H a=some (.ins C dx fs)):∃ mA,An5 (ObjM h a dx C mA) (∀ f,RelO (fs.lookup f)<|mA f) (PySem.Within mA (fs.map (·.1))) (fs.length<=1000) (H dx=some (.own a)):=by
 obtain⟨d,z,ne,ob,mA,n,r,q⟩:=(hok a _ e);exact⟨mA,⟨ob,n,ne⟩,r,q,z,d⟩
end
structure Cls(K:W4)(C:Addr):Prop where
 pg:PySem.W.plainGet K C Str.empty=true
 hd:PySem.W.hasDictIn K C=true
 po:PySem.W.plainOver K C=true
 sa:PySem.W.findIn K (.ref C) "__setattr__" = some (some<|.builtin "object.__setattr__")
def Cls.get{K}{C}(c:Cls K C)(f):PySem.W.plainGet K C f=true:=c.pg
def NoAttr(K:W4)(C:Addr)(f:Str):Prop:=PySem.W.findIn K (.ref C) f=some none
def NoAttr.taker{K}{C}{f}(n:NoAttr K C f):PySem.W.takerIn K C f=some none:=by
 unfold PySem.W.takerIn;rw[n];rfl
structure Meth(K:W4)(C:Addr)(m:Str)(f:Addr):Prop where
 at_:PySem.W.findIn K (.ref C) m=some (some<|.ref f)
 fn:PySem.W.isFn K (.ref f)=true
 kp:PySem.W.keepIn K (.ref f)=true
section
variable {X:Cx}{pins:List (Addr×Obj)}{σ:St}{H:Hp}{s:Shared}{a C dx:Addr}{fs:List (Str×V)}{f:Str}{v:V}{A:Around}{E:J0}
def VO(I:Inv X pins σ H s)(e:H a=some (.ins C dx fs))(c:Cls X.K C)(n:NoAttr X.K C f)(l:fs.lookup f=some v)
  (h:∀ u s',Inv X pins σ H s'->RelV v u->Q u s'):wpAny (model X.prog X.w) A (getAttr (.ref a) f b) Q E s:=by
 obtain⟨i,O,r,_,_,_⟩:=xJ I.hok e;obtain⟨u,g,d⟩:=RelO.some_of (by rw[<- l];exact r f);exact jgL I.kIn O (c.get f) c.hd n g (jca d)<|h u _ (I.tok _) d
def jad(I:Inv X pins σ H s)(e:H a=some (.ins C dx fs))(c:Cls X.K C)(k:Meth X.K C m g)(l:fs.lookup m=none)
  (h:Q (.ref g,[.ref a]) s):wpAny (model X.prog X.w) A (getMethod (.ref a) m pl) Q E s:=by
 obtain⟨d,O,r,_,_,_⟩:=xJ I.hok e;have b:=RelO.none_of (by rw[<- l];exact r m);exact jeN I.kIn O (c.get m) k.at_ k.fn b h
def Vx(I:Inv X pins σ H s)(e:H a=some (.ins C dx fs))(c:Cls X.K C)(n:NoAttr X.K C f)(B:fs.length<1000)(l:RelV y u)
  (h:∀ s',Inv X pins σ (upd H a<|.ins C dx<|VC f y fs) s'->Q () s'):wpAny (model X.prog X.w) A (setAttr (.ref a) f u) Q E s:=by
 obtain⟨i,O,r,j,_,k⟩:=xJ I.hok e;have m:(fs.map (·.1)).length<=sizeLine:=by rw[L1,sizeLine_eq];lia
 refine jiZ I.kIn O c.sa c.po n.taker c.hd j m λp d t=>h _ ?_;have hd:∃ o,p.get? dx=some o:=let ⟨o,_,_,e',_⟩:=d.ns;⟨o,e'⟩
 refine I.write (by rw[e];exact True.intro) (.inr k) (λb q v z=>(t.2 b v).trans z) hd ?_;refine⟨by rw[je O.ne];exact k,?_,O.ne,d.obj,_,d.ns,λg=>?_,λg x=>?_⟩
 ·have:=Vh f y fs;lia
 ·show RelO ((VC f y fs).lookup g) (if g=f then some u else i g);rw[YS];by_cases q:g=f
  ·rw[if_pos q,if_pos q];exact l
  ·rw[if_neg q,if_neg q];exact r g
 ·by_cases q:g=f
  ·rw[q];exact(Ys f y fs).1
  ·refine(Ys f y fs).2 g (j g λz=>x ?_);show(if g=f then some u else i g)=none;rw[if_neg q];exact z
def Inv.made(I:Inv X pins σ H s):Inv X pins σ (upd (upd H ↥s (.own<|↥s+1)) (↥s+1)<|.ins C ↥s [])
  {s with heap:=(s.heap.push PySem.W.emptyDict).push (PySem.W.instObj C ↥s)}:=by
 have a:(s.heap.push PySem.W.emptyDict).get? ↥s=some PySem.W.emptyDict:=X7 s.heap rfl;have e2:((s.heap.push PySem.W.emptyDict).push (PySem.W.instObj C ↥s)).get? (↥s+1)=some (PySem.W.instObj C ↥s):=by
  have:=X7 (s.heap.push PySem.W.emptyDict) (o:=PySem.W.instObj C ↥s) rfl
  rwa [Heap.size_push] at this
 have e3:(s.heap.push PySem.W.emptyDict).Ns ↥s (λ_=>none):=⟨PySem.W.emptyDict,#[],_,a,rfl,(λe c=>absurd c<|by simp),λ_=>rfl⟩;refine(I.laid (o:=.own<|↥s+1) (t':=s.toks) (λb u q=>L8 _ q) (M8 _) ⟨_,a⟩).laid (λb u q=>L8 _ q) (Nat.le_of_eq<|Heap.size_push _ _) ?_;have ne:↥s≠↥s+1:=N5<|Nat.lt_succ_self _;refine⟨by rw[je ne,jk],U4 _,ne,e2,λ_=>none,(Heap.Ns1.of_empty e3).at λo q=>L8 _ q,λ_=>True.intro,λy d=>absurd rfl d⟩
def jiB(a:attributeBase e f env (eval e env)=eval e env)
  (h:wpAny (model prog w) A (eval e env) (λo s₁=>wpAny (model prog w) A (getAttr o f true) Q E s₁) E s):wpAny (model prog w) A (eval (.Attribute e f pos) env) Q E s:=
 Attribute_any_ h (by rw[arm_eval_Attribute,a])
end
def jdJ(K:W4)(ta:TE)(f:Str):TE:=λσ H Q=>ta σ H λx H1=>∃ a C dx fs v,x=.ref a/\H1 a=some (.ins C dx fs)/\Cls K C/\NoAttr K C f/\fs.lookup f=some v/\Q v H1
def jnH(K:W4)(ta tv:TE)(f:Str):TS:=λD σ H=>tv σ H λy H1=>ta σ H1 λx H2=>∃ a C dx fs,x=.ref a/\H2 a=some (.ins C dx fs)/\Cls K C/\NoAttr K C f/\fs.length<1000 /\
 D.nx σ (upd H2 a<|.ins C dx<|VC f y fs)
def jm4(X:Cx)(op:Operator)(rd:V->V->Hp->VK->Prop):Prop:=
 ∀ pins s (σ:St) H x y u v Q,Inv X pins σ H s->RelV x u->RelV y v->rd x y H Q->wpAny (model X.prog X.w) X.A (inplaceOp op u v) (EP X pins σ Q) X.xe s
def xt(K:W4)(ta tv:TE)(rd:V->V->Hp->VK->Prop)(f:Str):TS:=λD σ H=>ta σ H λx H1=>∃ a C dx fs v,x=.ref a/\H1 a=some (.ins C dx fs)/\Cls K C/\NoAttr K C f/\fs.lookup f=some v /\
 tv σ H1 λy H2=>rd v y H2 λz H3=>∃ dx' fs',H3 a=some (.ins C dx' fs')/\fs'.length<1000/\D.nx σ (upd H3 a<|.ins C dx'<|VC f z fs')
section
variable {X:Cx}{o e value:Expr}{f:Str}{pos pos' tpos:Pos}{ta tv:TE}
def wu(d:PE X e ta)(g:attributeBase e f X.env (eval e X.env)=eval e X.env):PE X (.Attribute e f pos) (jdJ X.K ta f):=by
 intro b s σ H Q I h;refine jiB g<|thn (d b s σ H _ I h) λu s1 i=>?_;obtain⟨x,j,k,m,a,C,t,fs,v,ex,o,c,n,l,q⟩:=i;subst ex;obtain rfl:u=Value.ref a:=m;exact VO k o c n l λw s2 p r=>⟨v,j,p,r,q⟩
def jkX(d:PE X o ta)(e:PE X value tv)(g:swapsWith value (some<|.Attribute o f pos') pos.line X.env=pure false):PS X (.Assign [.Attribute o f pos'] value pos) (jnH X.K ta tv f):=by
 intro b s σ H D I h;refine plainObj_wpAny_Assign_Attribute (thn (e b s σ H _ I h) λu s1 ⟨y,i,j,k,q⟩=>thn (d b s1 σ i _ j q) λm s2 p=>?_) g;obtain⟨x,A,r,t,a,C,B,fs,ex,v,c,n,l,w⟩:=p;subst ex;obtain rfl:m=Value.ref a:=t;exact Vx r v c n l k λE z=>⟨σ,_,z,w⟩
def jdG(i:PE X o ta)(j:PE X value tv)(d:jm4 X op rd):PS X (.AugAssign (.Attribute o f tpos) op value pos) (xt X.K ta tv rd f):=by
 intro b s σ H D I h;refine wpAny_AugAssign_AttributeAny<|thn (i b s σ H _ I h) λk s1 e=>?_;obtain⟨x,m,p,r,a,C,T,fs,v,ex,t,c,n,l,q⟩:=e;subst ex;obtain rfl:k=Value.ref a:=r;refine VO p t c n l λu s2 w A=>thn (j b s2 σ m _ w q) λB E ⟨y,F,G,J,L⟩=>thn (d b E σ F v y u B _ G A J L) λU V e=>?_;obtain⟨z,W,M,N,O,P,g,Q,R⟩:=e;exact Vx M g c n Q N λY S=>⟨σ,_,S,R⟩
def jpa:V->V->Hp->VK->Prop:=λx y H Q=>∃ i j,x=.int i/\y=.int j/\Q (.int<|i+j) H
def jkL:V->V->Hp->VK->Prop:=λx y H Q=>∃ i j,x=.int i/\y=.int j/\Q (.int<|i-j) H
def jmk:jm4 X .Add jpa:=by
 rintro a s σ H x y u v Q I b c ⟨i,j,rfl,rfl,q⟩;obtain⟨t,rfl⟩:=(b);obtain⟨d,rfl⟩:=(c);exact PyProof.Rows.iadd_int ⟨.int<|i+j,H,I.tok _,⟨_,rfl⟩,q⟩
def uC:jm4 X .Sub jkL:=by
 rintro a s σ H x y u v Q I b c ⟨i,j,rfl,rfl,q⟩;obtain⟨t,rfl⟩:=(b);obtain⟨d,rfl⟩:=(c);exact PyProof.Rows.isub_int ⟨.int<|i-j,H,I.tok _,⟨_,rfl⟩,q⟩
end
structure Room(k:Nat)(A:Around):Prop where
 hd:A.handled=none
 dp:A.depth+3*k+5<recursionLimit
 un:A.units+16*k+200<cLine
def Room.mono(r:Room k A)(h:j<=k):Room j A:=⟨r.hd,by have:=r.dp;lia,by have:=r.un;lia⟩
def Room.deeper(r:Room (k+1) A)(env):Room k (A.deeper env):=
 ⟨r.hd,by have:=r.dp;show A.depth+1+3*k+5<_;lia,by have:=r.un;show A.units+3+16*k+200<_;lia⟩
def jaP{A:Around}{us}{kw}:(A.under<|.builtin "type.__call__" ⟨.ref C::us,kw⟩).depth=A.depth+1:=by
 first | rfl | simp[Around.under,Code.weight,Code.isCreation,Code.isGuard,Code.isCaller,Code.frames,Code.isFrame,guardIds]
def jaw{A:Around}{us}{kw}:(A.under<|.builtin "type.__call__" ⟨.ref C::us,kw⟩).units=A.units+1:=by
 first | rfl | simp[Around.under,Code.cUnits,Code.frames,Code.isFrame]
def Room.make(r:Room (k+1) A)(C)(us)(kw):Room k (A.under<|.builtin "type.__call__" ⟨.ref C::us,kw⟩):=
 ⟨r.hd,by have:=r.dp;rw[jaP];lia,by have:=r.un;rw[jaw];lia⟩
def Room.depth(r:Room k A):A.depth<recursionLimit:=by have:=r.dp;lia
def Room.units(r:Room k A):A.units+64<cLine:=by have:=r.un;lia
def J2:TA:=λ_ H Q=>Q [] H
def jD(ta:TE)(tr:TA):TA:=λσ H Q=>ta σ H λx H1=>tr σ H1 λxs H2=>Q (x::xs) H2
section
variable {X:Cx}{e:Expr}{es:List Expr}{te:TE}{t:TA}{pos:Pos}
def vF:PA X [] J2:=λ_ _ _ _ H Q I h=>Calls.spliced_nil ⟨[],H,I,.nil,h⟩
abbrev SEq(X:Cx)(e:Expr)(es:List Expr):Prop:=starEach (e::es) X.env=(false,eval e X.env)::starEach es X.env
def jC(b:PE X e te)(c:PA X es t)(d:SEq X e es:=by rfl):PA X (e::es) (jD te t):=by
 intro pos a s σ H Q I h;rw[d];refine Calls.spliced_cons<|thn (b a s σ H _ I h) λu s1 f=>?_;obtain⟨x,g,i,r1,j⟩:=f;exact thn (c pos a s1 σ g _ i j) λo s2 ⟨k,l,m,r2,n⟩=>⟨x::k,l,m,.cons r1 r2,n⟩
def zw(t:TA):TE:=λσ H Q=>t σ H λxs H1=>xs.length<=sizeLine/\∀ p,H1 p=none->Q (.ref p) (upd H1 p<|.tup xs)
def jnL(t:TA):TE:=λσ H Q=>t σ H λxs H1=>xs.length<=sizeLine/\∀ p,H1 p=none->Q (.ref p) (upd H1 p<|.lst xs)
def Ju{d}(h:PA X es t):PE X (.Tuple es d pos) (zw t):=by
 intro a s σ H Q I f;refine wpAny_Tuple_spliced<|thn (h pos a s σ H _ I f) λg s1 ⟨i,j,c,r,z,q⟩=>⟨by rw[<- r.length];exact z,?_⟩;refine⟨.ref ↥s1,upd j ↥s1 (.tup i),c.laid (λb u e=>L8 _ e) (M8 _) ?_,rfl,q _<|c.hok.fresh<|M8 _⟩;exact⟨z,g,r,⟨_,X7 _ rfl,rfl,_,rfl⟩,_,X7 _ rfl,rfl⟩
def jl4(h:PA X es t):PE X (.List es pos) (jnL t):=by
 intro a s σ H Q I d;refine wpAny_List_spliced<|thn (h pos a s σ H _ I d) λf s1 ⟨g,i,c,r,z,q⟩=>⟨by rw[<- r.length];exact z,?_⟩;refine⟨.ref ↥s1,upd i ↥s1 (.lst g),c.laid (λb u e=>L8 _ e) (M8 _) ?_,rfl,q _<|c.hok.fresh<|M8 _⟩;exact⟨z,f,0,r,X7 _ rfl⟩
end
abbrev Sp:=List V->Hp->VK->XK->Prop
abbrev CXT:=List Env->Hp->Shared->XK->Value->Shared->Prop
structure Env0(P:Program)(w:World)(K:W4)(mg:W6)(base:Heap)(A:Around)(outer:List Env)(s:Shared)(H:Hp):Prop where
 frames:A.frames=some outer
 mod:Mod K mg base
 bs:∀ b o,base.get? b=some o->s.heap.get? b=some o/\H b=none
 bsz:base.objs.size<=↥s
 funs:s.heap.FunFrames base outer
 frf:∀ b∈frs outer,H b=none
 hok:HOk P w H s.heap
 bare:AllBare s.gens
def CE(outer:List Env)(P:Program)(w:World)(H:Hp)(s:Shared)(Q:VK)(u:Value)(s':Shared):Prop:=
 ∃ v H',s'.os=s.os/\AllBare s'.gens/\Un (frs outer) [] H H' s.heap s'.heap/\HOk P w H' s'.heap/\RelV v u/\Q v H'
def CR(CX:CXT)(outer:List Env)(P:Program)(w:World)(H:Hp)(s:Shared)(Q:VK)(E:XK)(r:Result)(s':Shared):Prop:=
 match r with
 | .ok (.ret u)=>CE outer P w H s Q u s'
 | .ok _=>False
 | .error e=>CX outer H s E e s'
structure FnOk(P:Program)(w:World)(K:W4)(mg:W6)(base:Heap)(CX:CXT)(k:Nat)(f:Addr)(fd:FuncData)(ps:List Str)(sp:Sp):Prop where
 len:∀ vs H Q E,sp vs H Q E->vs.length=ps.length
 run:∀(A:Around) (outer:List Env) (s:Shared) (H:Hp) (args:Args) (us:List Value) (vs:List V) (Q:VK) (E:XK),Room k A->Env0 P w K mg base A outer s H->BindsTo s fd args (ps.zip us)->Vals vs us->sp vs H Q E ->
  codeAny (model P w) A (.call (.ref f) args) (CR CX outer P w H s Q E) s
def FnOk.imp{P}{w}{K}{mg}{base}{CX}{k}{f}{fd}{ps}{sp a}(F:FnOk P w K mg base CX k f fd ps sp)
  (h:∀ vs H Q E,a vs H Q E->sp vs H Q E):FnOk P w K mg base CX k f fd ps a:=
 ⟨λvs H Q E q=>F.len vs H Q E<|h _ _ _ _ q,λA outer s H b c vs Q E d e g i j=>F.run A outer s H b c vs Q E d e g i<|h _ _ _ _ j⟩
def Env0.make{P}{w}{K}{mg}{base}{A}{outer}{s}{H}(e:Env0 P w K mg base A outer s H)(C)(us)(kw):
  Env0 P w K mg base (A.under<|.builtin "type.__call__" ⟨.ref C::us,kw⟩) outer s H:=⟨by first | exact e.frames | (simpa [Around.under,Code.envs,Code.isFrame,pushEnvs] using e.frames),e.mod,e.bs,e.bsz,e.funs,e.frf,e.hok,e.bare⟩
section
variable {X:Cx}{pins:List (Addr×Obj)}{σ:St}{H:Hp}{s s':Shared}
def Inv.env0(I:Inv X pins σ H s):Env0 X.prog X.w X.K X.mg X.base X.A X.stack s H:=
 ⟨I.ok.frames,I.ok.mod,I.bs,N6 I.ok.bsz I.sz,I.stack,I.stkFree,I.hok,I.bare⟩
def Inv.after(I:Inv X pins σ H s)(h:CE X.stack X.prog X.w H s Q u s'):EP X pins σ Q u s':=by
 obtain⟨v,c,os,bare,un,hok,r,q⟩:=h;obtain⟨e,g,d,t,a⟩:=s';obtain rfl:a=s.os:=os;exact⟨v,c,I.call un hok bare<|λb z=>absurd z<|by simp,r,q⟩
end
def KH(sp:Sp)(dvs:List V)(E:XK)(t:TA):TE:=λσ H Q=>t σ H λvs H1=>sp (vs++dvs) H1 Q E
def jaX(C:Addr)(m:Str)(sp:Sp)(dvs:List V)(E:XK)(ta:TE)(t:TA):TE:=λσ H Q=>ta σ H λx H1=>∃ a dx fs,x=.ref a/\H1 a=some (.ins C dx fs)/\fs.lookup m=none /\
 t σ H1 λvs H2=>sp (x::(vs++dvs)) H2 Q E
def jht(C:Addr)(sp:Sp)(dvs:List V)(E:XK)(t:TA):TE:=λσ H Q=>t σ H λvs H1=>∀ x dx,H1 x=none->H1 dx=none->dx≠x ->
 sp (.ref x::(vs++dvs)) (upd (upd H1 dx<|.own x) x<|.ins C dx []) (λv H2=>v=.non/\Q (.ref x) H2) E
def Binds(K:W4)(fd:FuncData)(ps:List Str)(ds:List Value):Prop:=
 ∀ s us,K.In s.heap->(us++ds).length=ps.length->BindsTo s fd ⟨us,[]⟩ (ps.zip<|us++ds)
def Binds.all{K}{fd}{ps}(h:∀ us:List Value,us.length=ps.length->bindArgs fd ⟨us,[]⟩=pure (ps.zip us)):Binds K fd ps []:=λs us _ a=>by
 rw[M9] at a ⊢;exact .of_eq<|h us a
def VN(CX:CXT)(X:Cx)(E:XK):Prop:=∀ pins (σ:St) H s e s',Inv X pins σ H s->CX X.stack H s E e s'->X.xe e s'
section
variable {X:Cx}{CX:CXT}{k:Nat}{f C:Addr}{fd:FuncData}{ps:List Str}{sp:Sp}{dvs:List V}{ds:List Value}{E:XK}{x m:Str}{p pos apos:Pos}{e o:Expr}{es:List Expr}{ta:TE}{t:TA}
def jge(F:FnOk X.prog X.w X.K X.mg X.base CX k f fd ps sp)(b:Room k X.A)(c:Binds X.K fd ps ds)(hd:Vals dvs ds)(d:VN CX X E)
  (I:Inv X pins σ H s) (r:Vals vs us) (h:sp (vs++dvs) H Q E):wpAny (model X.prog X.w) X.A (call (.ref f) us) (EP X pins σ Q) X.xe s:=by
 have r2:=r.append hd;have g:(us++ds).length=ps.length:=by rw[<- r2.length];exact F.len _ _ _ _ h
 refine wpAny_call<|codeAny_mono (F.run X.A X.stack s H ⟨us,[]⟩ (us++ds) (vs++dvs) Q E b I.env0 (c s us I.kIn g) r2 h) λr i a=>?_;cases r with
 | error e=>exact d pins σ H s e i I a
 | ok j=>
  cases j with
  | ret u=>exact I.after a
  | next=>exact False.elim a
  | brk=>exact False.elim a
  | cont=>exact False.elim a
abbrev BkE(X:Cx)(p:Pos)(l:List Expr):Prop:=(backTo p<|starEach l X.env).any (·.1)=false
def jhf(F:FnOk X.prog X.w X.K X.mg X.base CX k f fd ps sp)(g:Room k X.A)(i:Gl X x)(j:X.mg x=some (.ref f))(l:PySem.W.keepIn X.K (.ref f)=true)(m:Binds X.K fd ps ds)(hd:Vals dvs ds)(n:VN CX X E)
  (o:PA X (e::es) t) (b:Nd x:=by decide) (u:SEq X e es:=by rfl) (c:BkE X pos es:=by rfl):
  PE X (.Call (.Name x p) (e::es) [] pos) (KH sp dvs E t):=by
 intro a s σ H Q I h;exact wpAny_Call_Name_kw<|jdB I i j (PySem.W.callWith_K I.ok.mod.kin l (thn (o pos a s σ H _ I h) λv s1 ⟨vs,y,d,r,q⟩=>⟨d.kIn,(jge F g m hd n d r q)⟩) u c) b
def jcR(p:PE X o ta)(c:Cls X.K C)(i:Meth X.K C m f)(F:FnOk X.prog X.w X.K X.mg X.base CX k f fd ps sp)(v:Room k X.A)(y:Binds X.K fd ps ds)(hd:Vals dvs ds)(z:VN CX X E)(B:PA X (e::es) t)
  (d:SEq X e es:=by rfl) (g:BkE X pos es:=by rfl)
  (D:eval (.Call (.Attribute o m apos) (e::es) [] pos) X.env=(do
   let ov <- eval o X.env
   standAt apos.atName
   let (f,first) <- holding [ov] (getMethod ov m pl)
   callWith pos f first (backTo pos<|starEach (e::es) X.env) (backToKw pos<|keywordEach [] X.env)):=by rfl):
  PE X (.Call (.Attribute o m apos) (e::es) [] pos) (jaX C m sp dvs E ta t):=by
 intro b s σ H Q I h;refine PySem.W.methodCall_KW (thn (p b s σ H _ I h) λu s1 G=>?_) D;obtain⟨x,J,j,L,a,O,fs,ex,M,l,q⟩:=G;subst ex;obtain rfl:u=Value.ref a:=L;exact jad j M c i l<|PySem.W.callWith_K I.ok.mod.kin i.kp (thn (B pos b s1 σ J _ j q) λP s2 ⟨vs,R,n,r,N⟩=>⟨n.kIn,(jge (vs:=.ref a::vs) F v y hd z n (.cons rfl r) N)⟩) d g
structure Mk(K:W4)(C f:Addr):Prop where
 makes:PySem.W.makesIn K C=true
 init:PySem.W.findIn K (.ref C) "__init__" = some (some<|.ref f)
 fn:PySem.W.isFn K (.ref f)=true
 kp:PySem.W.keepIn K (.ref C)=true
def jev(M:Mk X.K C f)(F:FnOk X.prog X.w X.K X.mg X.base CX k f fd ps sp)(d:Room (k+1) X.A)(g:Binds X.K fd ps ds)(hd:Vals dvs ds)
  (i:VN CX X E) (I:Inv X pins σ H s) (r:Vals vs us)
  (h:∀ x dx,H x=none->H dx=none->dx≠x->sp (.ref x::(vs++dvs)) (upd (upd H dx<|.own x) x<|.ins C dx []) (λv H2=>v=.non/\Q (.ref x) H2) E):
  wpAny (model X.prog X.w) X.A (call (.ref C) us) (EP X pins σ Q) X.xe s:=by
 have c:=h (↥s+1) ↥s (I.hok.fresh<|Nat.le_succ _) (I.hok.fresh<|M8 _) (N5<|Nat.lt_succ_self _);have b:=Inv.made (C:=C) I;have r2:Vals (V.ref (↥s+1)::(vs++dvs)) (Value.ref (↥s+1)::(us++ds)):=.cons rfl<|r.append hd;have j:(Value.ref (↥s+1)::us++ds).length=ps.length:=by
  have e:=r2.length;rw[F.len _ _ _ _ c] at e;exact e.symm
 refine wpAny_call<|jfa I.kIn M.makes M.init (beq_iff_eq.mp M.fn)<|codeAny_mono (F.run _ X.stack _ _ ⟨Value.ref (↥s+1)::us,[]⟩ (Value.ref (↥s+1)::(us++ds)) _ _ E (d.make C us [])
  (b.env0.make C us []) (g _ (Value.ref (↥s+1)::us) b.kIn j) r2 c) λr l a=>?_
 cases r with
 | error e=>exact i pins σ _ _ e l b a
 | ok m=>
  cases m with
  | ret u=>
   obtain⟨v,n,o,p,q,t⟩:=b.after a;subst q;exact⟨p,⟨V.ref<|↥s+1,n,o,rfl,t⟩⟩
  | next=>exact False.elim a
  | brk=>exact False.elim a
  | cont=>exact False.elim a
def jg7(M:Mk X.K C f)(F:FnOk X.prog X.w X.K X.mg X.base CX k f fd ps sp)(g:Room (k+1) X.A)(i:Gl X x)(j:X.mg x=some (.ref C))(l:Binds X.K fd ps ds)(hd:Vals dvs ds)(m:VN CX X E)
  (n:PA X (e::es) t) (b:Nd x:=by decide) (o:SEq X e es:=by rfl) (c:BkE X pos es:=by rfl):
  PE X (.Call (.Name x p) (e::es) [] pos) (jht C sp dvs E t):=by
 intro a s σ H Q I h;exact wpAny_Call_Name_kw<|jdB I i j (PySem.W.callWith_K I.ok.mod.kin M.kp (thn (n pos a s σ H _ I h) λu s1 ⟨vs,v,d,r,q⟩=>⟨d.kIn,(jev M F g l hd m d r q)⟩) o c) b
end
def PK(X:Cx)(kws:List Keyword)(t:TA):Prop:=
 ∀ pos pins s (σ:St) H (Q:List V->Hp->Prop),Inv X pins σ H s->t σ H Q->wpAny (model X.prog X.w) X.A (evalAll ((backToKw pos<|keywordEach kws X.env).map (·.2))) (AP X pins σ Q) X.xe s
structure FnScope(N P:List Str)(sc:Scope):Prop where
 kind:sc.kind=.function
 co:sc.isCoroutine=false
 gen:sc.isGenerator=false
 nd:N.Nodup
 pre:N.take P.length=P
 par:∀ x∈P,sc.names.lookup x=some .local\/sc.names.lookup x=some .cell
 nofree:∀ y∈sc.names,y.2≠.free
theorem Q7{kindOf}  : ∀{binds}{m},(∀ v,(x,v)∉binds)->bindL kindOf binds m x=m x
 | [],_,_=>rfl
 | (n,v)::r,m,h=>by
  unfold bindL;rw[Q7 λw a=>h w<|L6 _ a];split
  ·have:x≠n:=by rintro rfl;exact h v L7
   simp[this]
  ·rfl
theorem zj{kindOf}  : ∀{binds}{m},(∀ v,(x,v)∉binds)->bindC kindOf binds m x=m x
 | [],_,_=>rfl
 | (n,v)::r,m,h=>by
  unfold bindC;rw[zj λw a=>h w<|L6 _ a];split
  ·rfl
  ·have:x≠n:=by rintro rfl;exact h v L7
   simp[this]
theorem zc{kindOf}  : ∀{P:List Str}{vs}{i:Nat}{m},P.Nodup->P[i]?=some x->vs[i]?=some v->kindOf x=some .local ->
  bindL kindOf (P.zip vs) m x=some v
 | [],_,_,_,_,h,_,_=>by simp at h
 | _::_,[],_,_,_,_,h,_=>by simp at h
 | p::P,w::vs,0,m,nd,a,b,c=>by
  simp at a b;subst a;subst b;show bindL kindOf ((p,w)::P.zip vs) m p=_;unfold bindL;rw[Q7 λv d=>(List.nodup_cons.mp nd).1 (List.of_mem_zip d).1,if_pos c];simp
 | p::P,w::vs,i+1,m,nd,a,b,c=>by
  unfold bindL;exact zc (List.nodup_cons.mp nd).2 ⇑a ⇑b c
theorem QU{kindOf}  : ∀{P:List Str}{vs}{i:Nat}{m},P.Nodup->P[i]?=some x->vs[i]?=some v->kindOf x≠some .local ->
  bindC kindOf (P.zip vs) m x=some v
 | [],_,_,_,_,h,_,_=>by simp at h
 | _::_,[],_,_,_,_,h,_=>by simp at h
 | p::P,w::vs,0,m,nd,a,b,c=>by
  simp at a b;subst a;subst b;show bindC kindOf ((p,w)::P.zip vs) m p=_;unfold bindC;rw[zj λv d=>(List.nodup_cons.mp nd).1 (List.of_mem_zip d).1,if_neg c];simp
 | p::P,w::vs,i+1,m,nd,a,b,c=>by
  unfold bindC;exact QU (List.nodup_cons.mp nd).2 ⇑a ⇑b c
noncomputable def start(N:List Str)(vs:List V):St:=vs.map some++List.replicate (N.length-vs.length) none
noncomputable def jeS(CX:CXT)(P:Program)(w:World)(K:W4)(mg:W6)(base:Heap)(N:List Str)(qual:Str)(scope:Scope)(f:Addr)(cd:Value)(A:Around)(outer:List Env)(s:Shared)(H:Hp)(E:XK):Cx where
 prog:=P
 w:=w
 K:=K
 mg:=mg
 base:=base
 A:=A.deeper (envOfC qual scope ↥s f cd)
 N:=N
 s₀:=s
 H₀:=H
 env:=envOfC qual scope ↥s f cd
 outer:=outer
 stack:=envOfC qual scope ↥s f cd::outer
 ex:=[]
 calm:=true
 fn:=λ_=>true
 pn:=[]
 xe:=λe s'=>wpAny (model P w) (A.deeper<|envOfC qual scope ↥s f cd) (leaving (envOfC qual scope ↥s f cd) e) (λ_ s''=>CX outer H s E e s'') (λe' s''=>CX outer H s E e' s'') s'
def uB{sc:Scope}{n}(h:sc.names.lookup x=some .cell):∃ c,(cellsFrom n sc.names []).lookup x=some c:=by
 exact Option.isSome_iff_exists.mp<|PySem.W.cellsFrom_some sc.names n []<|.inl h
def jcg{CX}{P}{w}{K}{mg}{base}{N ps}{qual}{scope}{f}{cd}{A}{outer}{s s1}{H}{E}{us}{vs}
  (S:FnScope N ps scope) (hd:A.handled=none) (g:Env0 P w K mg base A outer s H) (G:vs.length=ps.length) (r:Vals vs us)
  (x:InCallC s ↥s (bindL (envOfC qual scope ↥s f cd).kindOf (ps.zip us) λ_=>none) (cellsFrom (↥s+1) scope.names []) (bindC (envOfC qual scope ↥s f cd).kindOf (ps.zip us) λ_=>none) s1):
  Inv (jeS CX P w K mg base N qual scope f cd A outer s H E) [] (start N vs) H s1:=by
 have C:ps.length<=N.length:=by have:=congrArg List.length S.pre;rw[X6] at this;lia
 obtain⟨o,I,rfl,t⟩:=x.done;have j:∀ b:Addr,b∉(jeS CX P w K mg base N qual scope f cd A outer s H E).ex:=λb z=>absurd (show b∈([]:W5) from z) (by simp);refine⟨⟨g.mod,S.kind,rfl,rfl,M8 _,λy z c o d=>?_,λy l=>?_,λy c _ h=>?_,λ_=>hd,Around.frames_deeper g.frames,.inr ⟨rfl,rfl⟩,λb z=>absurd z<|j b,g.bs,g.bsz,λb _ _=>j b,λb z=>absurd z<|j b,g.funs,g.frf⟩,
  rfl,g.bare,Un.kept t,⟨_,x.toInCall.ns,λi y v o d J=>?_⟩,λy c h=>⟨_,x.cell y c h⟩,g.hok.fresh<|M8 _,λy c h=>?_,λp m=>absurd (show p∈([]:W0) from m)<|by simp,g.hok.kept t,?_⟩
 ·exact name_of_addr x.apart (PySem.mem_of_lookup o)<|PySem.mem_of_lookup d
 ·have l:=l;rcases l with l | l
  ·exact uB l
  ·exact absurd rfl<|S.nofree _<|PySem.mem_of_lookup l
 ·exact Nat.le_of_lt<|x.above y c<|PySem.mem_of_lookup h
 ·have hi:i<vs.length:=by
   unfold start at d;by_cases hi:i<vs.length
   ·exact hi
   ·rw[List.getElem?_append_right ⇑hi,List.getElem?_replicate] at d;split at d<;>cases d
  have D:vs[i]?=some v:=by
   unfold start at d;rw[List.getElem?_append_left ⇑hi,List.getElem?_map] at d;cases e:vs[i]? with
   | none=>rw[e] at d;cases d
   | some a=>rw[e] at d;cases d;rfl
  obtain⟨u,B,F⟩:=r.get D;have m:ps[i]?=some y:=by
   rw[<- S.pre,List.getElem?_take_of_lt ∅];exact o
  have n:ps.Nodup:=by rw[<- S.pre];exact S.nd.sublist<|List.take_sublist _ _
  refine⟨u,F,?_⟩;rcases S.par y (List.mem_of_getElem? m) with k | k
  ·exact .inl ⟨k,zc n m B k⟩
  ·obtain⟨c,e⟩:=uB k;refine .inr ⟨.inl k,c,e,?_⟩;have q:=x.cell y c e;rw[QU n m B<|by show scope.names.lookup y≠_;rw[k];decide] at q;exact q
 ·exact g.hok.fresh<|Nat.le_of_lt<|x.above y c<|PySem.mem_of_lookup h
 ·unfold start;show _=N.length;rw[N3,L1,List.length_replicate]
  lia
def jnW{CX}{P}{w}{K}{mg}{base}{k}{f}{name qual}{params}{body}{scope}{F kV h pm a ct oc}{an od}
  {p:Array (Option Value)}{N ps:List Str}{sp:Sp}(M:K.lookup f=some ⟨oc,od,.func<|PySem.W.fnOf name qual params body scope F kV h pm an a ct,p⟩) (z:PySem.W.codeIn K a qual=true) (S:FnScope N ps scope)
  (len:∀ vs H Q E,sp vs H Q E->vs.length=ps.length)
  (c:∀ A outer s H vs Q E,Room k (A.deeper<|envOfC qual scope ↥s f a)->sp vs H Q E ->
   ∃ t,PSs (jeS CX P w K mg base N qual scope f a A outer s H E) body t/\t {nx:=λ_ H'=>Q .non H',rt:=Q} (start N vs) H):
  FnOk P w K mg base CX (k+1) f (PySem.W.fnOf name qual params body scope F kV h pm an a ct) ps sp:=by
 refine⟨len,λA outer s H G O vs Q E B i R r j=>?_⟩;have L:=i.mod.kin.keeps λb o e=>(i.bs b o e).1;have d:∀ y∈ps.zip O,scope.names.lookup y.1=some .local\/(scope.names.lookup y.1=some .cell/\((cellsFrom (↥s+1) scope.names []).lookup y.1).isSome=true):=λ⟨n,v⟩ T=>by
  rcases S.par n (List.of_mem_zip T).1 with q | q
  ·exact .inl q
  ·exact .inr ⟨q,PySem.W.cellsFrom_some _ _ _<|.inl q⟩
 refine codeAny_call_function B.depth (L _ _ M) rfl S.co S.gen rfl (PySem.W.codeRec_of L z)<|R _ _ _ _<|wpAny_newFunctionEnv_cells S.kind d λenv U s1 x=>?_;subst U;refine⟨(i.mod.nolimit.keeps λb o e=>(i.bs b o e).1).keeps x.toInCall.keep,codeAny_func ?_⟩;obtain⟨t,X,Y⟩:=c A outer s H vs Q E (B.deeper _) j;have I:Inv (jeS CX P w K mg base N qual scope f a A outer s H E) [] (start N vs) H s1:=jcg S B.hd i (len _ _ _ _ j) r x;refine wpAny_mono (X [] s1 (start N vs) H _ I Y) (λZ C g=>?_) λe C g=>g;have l:∀{m}{H'}{v}{u},Inv (jeS CX P w K mg base N qual scope f a A outer s H E) [] m H' C->RelV v u->Q v H'->CE outer P w H s Q u C:=
  λ{m H' v u} J D q=>⟨v,H',J.os,J.bare,J.base,J.hok,D,q⟩
 cases Z with
 | ret u=>
  obtain⟨v,m,H',J,D,q⟩:=g;exact l J D q
 | next=>
  obtain⟨m,H',J,q⟩:=g;exact l (v:=V.non) J rfl q
 | brk=>
  obtain⟨_,_,_,q⟩:=g;exact False.elim q
 | cont=>
  obtain⟨_,_,_,q⟩:=g;exact False.elim q
section
variable {X:Cx}{x:Str}{p pos:Pos}{e:Expr}{es:List Expr}{t:TA}{id T:String}{r:List V->Hp->VK->Prop}
def tCB(r:List V->Hp->VK->Prop)(t:TA):TE:=λσ H Q=>t σ H λvs H1=>r vs H1 Q
def Yh(d:km X (.builtin id) r)(f:Gl X x)(g:X.mg x=none)(i:bootBuiltins x=some (.builtin id))(j:PA X (e::es) t)(k:x≠"__name__":=by decide)(b:Nd x:=by decide)
  (l:SEq X e es:=by rfl) (c:BkE X pos es:=by rfl):PE X (.Call (.Name x p) (e::es) [] pos) (tCB r t):=by
 intro a s σ H Q I h;exact wpAny_Call_Name_kw<|Jn I f g i (PyProof.Rows.callWith_builtin1 (thn (j pos a s σ H _ I h) λm s1 ⟨vs,n,o,r1,q⟩=>d a s1 σ n vs m Q o r1 q) l c) k b
def QZ(d:km X (.type T) r)(f:Gl X x)(g:X.mg x=none)(i:bootBuiltins x=some (.type T))(j:PA X (e::es) t)(k:x≠"__name__":=by decide)(b:Nd x:=by decide)
  (l:SEq X e es:=by rfl) (c:BkE X pos es:=by rfl):PE X (.Call (.Name x p) (e::es) [] pos) (tCB r t):=by
 intro a s σ H Q I h;exact wpAny_Call_Name_kw<|Jn I f g i (PyProof.Rows.callWith_type1 (thn (j pos a s σ H _ I h) λm s1 ⟨vs,n,o,r1,q⟩=>d a s1 σ n vs m Q o r1 q) l c) k b
end
end L2
namespace HT
open PySem PyProof.Rows
section
open PySem.SeqAt
open PySem.AutoSeq1 (wpAny_loadPart')
open PySem.MeetsSeq PySem.MeetsSeq2 PySem.MeetsSeq3
end
section
variable {prog:Program}{w:World}{A:Around}{E:J0}{s:Shared}
def cat_tup(q:IsTup s.heap t vs.toArray)(r:IsTup s.heap b ws.toArray)(k:vs≠[])
  (h1:ws=[]->Q (.ref t) s) (h2:ws≠[]->Q (.ref ↥s) { s with heap:=s.heap.push {cls:=.type "tuple",data:=.seq (vs++ws).toArray} })
  (hsz:vs.length+ws.length<=sizeLine):wpAny (model prog w) A (binaryOp .Add (.ref t)<|.ref b) Q E s:=by
 obtain⟨⟨cls,l,data,m⟩,f,u,n,hd⟩:=id q;obtain⟨⟨o,c,h,d⟩,a,i,p,j⟩:=id r;subst u hd i j;have e:vs.toArray++ws.toArray=(vs++ws).toArray:=by simp
 by_cases g:ws=[]
 ·exact concat_meets ⟨_,f,rfl⟩ ⟨_,a,rfl⟩ noFill_tuple_add seq_tuple_add PySem.F.slot_tuple_add PySem.F.entry_tuple_add (PySem.F.args_tuple_add_2 _ _)
   (tuple_addW1 t b vs.toArray ws.toArray n p l c m d ⇑k (by simp[g])) ⟨f,a,h1 g⟩
 ·refine concat_meets ⟨_,f,rfl⟩ ⟨_,a,rfl⟩ noFill_tuple_add seq_tuple_add PySem.F.slot_tuple_add PySem.F.entry_tuple_add (PySem.F.args_tuple_add_2 _ _)
   (tuple_addW2 t b vs.toArray ws.toArray n p l c m d ⇑k ⇑g (by rw[N2,N2];exact hsz)) ⟨f,a,?_⟩
  rw[e];exact h2 g
noncomputable def sIx(n d:Nat):Option Int->Nat
 | none=>d
 | some v=>if v<0 then(v+(n:Int)).toNat else min v.toNat n
def sIx_none(n d):sIx n d none=d:=rfl
def sIx_nat(n d k:Nat):sIx n d (some (k:Int))=min k n:=by
 show(if k<0 then(k+(n:Int)).toNat else min (k:Int).toNat n)=min k n;rw[if_neg ∅,N7]
def sIx_le(n d)(hd:d<=n)(o):sIx n d o<=n:=by
 cases o with
 | none=>exact hd
 | some v=>
  show(if v<0 then(v+n).toNat else min v.toNat n)<=n;by_cases a:v<0
  ·rw[if_pos a];lia
  ·rw[if_neg a];exact Nat.min_le_right _ _
def jbB(v)(n d:Nat):(if v<0 then max (v+(n:Int)) 0 else min v (n:Int))=((sIx n d (some v):Nat):Int):=by
 show(if v<0 then max (v+n) 0 else min v n)=(((if v<0 then(v+n).toNat else min v.toNat n):Nat):Int);by_cases a:v<0
 ·simp only[if_pos a];lia
 ·simp only[if_neg a];lia
def uK(lo hi)(n:Nat):Builtin.Slice.sliceAdjust lo hi 1 (n:Int)=(((sIx n 0 lo:Nat):Int),((sIx n n hi:Nat):Int)):=by
 refine Prod.ext ?_ ?_
 ·cases lo with
  | none=>rfl
  | some v=>exact jbB v n 0
 ·cases hi with
  | none=>rfl
  | some v=>exact jbB v n n
def jab(i j:Nat):Builtin.Slice.slicePlaces (i:Int) (j:Int) 1=j-i:=by
 unfold Builtin.Slice.slicePlaces;split<;>lia
def VD(p:IsPart v o)(h:Q o s):wpAny (model prog w) A (Builtin.Slice.slicePartIndex v) Q E s:=by
 cases p with
 | none=>exact slicePart_none h
 | int i t=>exact slicePart_int h
def Ye{lo hi}{n}{Q:Int×Int×Nat->Shared->Prop}(c:s.heap.IsSliceOf sl vl vu .none)(pl:IsPart vl lo)(d:IsPart vu hi)
  (h:Q (((sIx n 0 lo:Nat):Int),1,sIx n n hi-sIx n 0 lo) s):wpAny (model prog w) A (Builtin.Slice.sliceApplied (.ref sl)<|pure (n:Int)) Q E s:=by
 obtain⟨os,a,e,b⟩:=id c;refine L3<|L3<|U5 a b rfl<|L3<|U5 a b rfl<|L3<|U5 a b rfl<|M6<|L3<|slicePart_none<|L3<|VD pl<|L3<|VD d<|L3<|M6 ?_;show wpAny _ _ (match Builtin.Slice.sliceAdjust lo hi 1 n with | (lo,hi)=>pure (lo,(1:Int),Builtin.Slice.slicePlaces lo hi 1)) _ _ s;rw[uK lo hi n];show wpAny _ _ (pure (((sIx n 0 lo:Nat):Int),1,Builtin.Slice.slicePlaces ((sIx n 0 lo:Nat):Int) ((sIx n n hi:Nat):Int) 1)) _ _ s;rw[jab];exact M6 h
def jef(xs:Array Value)(i k:Nat):((List.range k).filterMap λ(m:Nat)=>xs[((i:Int)+(m:Int)*1).toNat]?).toArray=((xs.toList.drop i).take k).toArray:=by
 have e:(λ(m:Nat)=>xs[(i+(m:Int)*1).toNat]?)=λm=>xs[i+m]?:=by
  funext m
  have:(i+(m:Int)*1).toNat=i+m:=by lia
  rw[this]
 rw[e];have:=pick_run xs i k;rw[List.filterMap_map] at this;have e2:((λx=>xs[x]?) ∘ λx=>i+x)=λm=>xs[i+m]?:=rfl;rw[e2] at this;rw[this]
def getItem_tuple_cut{items}{lo hi}{Q}(b:IsTup s.heap t items)(g:s.heap.IsSliceOf sl vl vu .none)(pl:IsPart vl lo)(i:IsPart vu hi)
  (j:¬ (sIx items.size 0 lo=0/\sIx items.size items.size hi=items.size))
  (h:Q (.ref ↥s) { s with heap:=s.heap.push {cls:=.type "tuple",data:=.seq ((items.toList.drop<|sIx items.size 0 lo).take (sIx items.size items.size hi-sIx items.size 0 lo)).toArray} })
  (hsz:items.size<=sizeLine):wpAny (model prog w) A (getItem (.ref t)<|.ref sl) Q E s:=by
 have a:sizeOk (.seq ((items.toList.drop<|sIx items.size 0 lo).take (sIx items.size items.size hi-sIx items.size 0 lo)).toArray):=by
  show((items.toList.drop<|sIx items.size 0 lo).take (sIx items.size items.size hi-sIx items.size 0 lo)).toArray.size<=sizeLine;rw[N2,X6,List.length_drop,Array.length_toList]
  lia
 obtain⟨os,c,d,k⟩:=id g;have e:s.TypeIs (.ref sl) "slice":=⟨os,c,d⟩;unfold getItem
 try with_reducible refine wpAny_holding ?_
 first | refine L3 (M6 ?_) | skip
 refine L3<|wpAny_sequenceKey b.typeIs (by decide) ?_;refine L3<|wpAny_callSpecial?_slot b.typeIs PyProof.Rows.slot_tuple_getitem<|wpAny_call_entry PyProof.Rows.slot_tuple_getitem b.typeIs entry_tuple_getitem ?_<|args_tuple_getitem _ _
 show wpAny _ _ (Builtin.Tuple.tupleItemsOf (.ref t) >>= _) _ _ s;refine L3<|tupleItemsOf_ b<|L3<|wpAny_typeOf e<|L3<|Ye g pl i ?_;have f:¬ ((((sIx items.size 0 lo:Nat):Int)==0&&(1:Int)==1&&(sIx items.size items.size hi-sIx items.size 0 lo)==items.size)=true):=by
  intro q;rw[M0,M0] at q;have l:=eq_of_beq q.1.1;have m:=eq_of_beq q.2;exact j ⟨by lia,by lia⟩
 show wpAny _ _ (if(((sIx items.size 0 lo:Nat):Int)==0&&1==1&&(sIx items.size items.size hi-sIx items.size 0 lo)==items.size)=true then _ else _) _ _ s;rw[if_neg f,jef]
 first
  | exact L3 (wpAny_newObj_type (M6 ⟨_,rfl,M6 h⟩) a)
  | exact L3 (wpAny_newObj_type (L3 (M6 (M6 ⟨_,rfl,M6 h⟩))) a)
  | exact L3 (L3 (wpAny_newObj_type (M6 (M6 ⟨_,rfl,M6 h⟩)) a))
  | exact L3 (L3 (wpAny_newObj_type (M6 ⟨_,rfl,M6 h⟩) a))
end
end HT
namespace L2
open PySem PySem.Spec PyProof.Rows
abbrev TO:=St->Hp->(Option Int->Hp->Prop)->Prop
def PO(X:Cx)(e:Option Expr)(t:TO):Prop:=
 ∀ pins s (σ:St) H (Q:Option Int->Hp->Prop),Inv X pins σ H s->t σ H Q ->
  wpAny (model X.prog X.w) X.A (evalPart e X.env) (λu s'=>∃ o H',Inv X pins σ H' s'/\IsPart u o/\Q o H') X.xe s
def xK:TO:=λ_ H Q=>Q none H
def jh8(t:TE):TO:=λσ H Q=>t σ H λx H1=>∃ i,x=.int i/\Q (some i) H1
def jar:∀{us},Vals (ns.map V.int) us->IntsAre us ns:=by
 induction ns with
 | nil=>intro us r;rw[List.map_nil] at r;cases r;exact .nil
 | cons n ns a=>
  intro us r;cases r with
  | cons r1 r2=>
   obtain⟨t,e⟩:=r1;subst e;exact .cons n t<|a r2
section
variable {X:Cx}{e:Expr}{te:TE}{lo hi:Option Expr}{tl th:TO}{pos p2:Pos}
def jhS:PO X none xK:=by
 intro a s σ H Q I h;exact M6 ⟨none,H,I,.none,h⟩
def jgZ(h:PE X e te):PO X (some e) (jh8 te):=by
 intro a s σ H Q I b;refine thn (h a s σ H _ I b) λu s1 c=>?_;obtain⟨x,d,f,r1,g⟩:=c;obtain⟨i,rfl,q⟩:=g;obtain⟨t,rfl⟩:=r1;exact⟨some i,d,f,.int i t,q⟩
def SlR(X:Cx)(r:V->Option Int->Option Int->Hp->VK->Prop):Prop:=
 ∀ pins s (σ:St) H x v vl vu lo hi sl Q,Inv X pins σ H s->RelV x v->s.heap.IsSliceOf sl vl vu .none->IsPart vl lo->IsPart vu hi->r x lo hi H Q ->
  ∃ T id,typeLookup (.type T) "__getitem__" = pure (some<|.builtin id)/\s.TypeIs v T/\wpAny (model X.prog X.w) X.A (getItem v<|.ref sl) (EP X pins σ Q) X.xe s
def SlR.or(h:SlR X r)(h':SlR X r'):SlR X (λx lo hi H Q=>r x lo hi H Q\/r' x lo hi H Q):=by
 intro a s σ H x v b c lo hi d Q I e f pl g q;rcases q with q | q
 ·exact h a s σ H x v b c lo hi d Q I e f pl g q
 ·exact h' a s σ H x v b c lo hi d Q I e f pl g q
def tSl(r:V->Option Int->Option Int->Hp->VK->Prop)(te:TE)(tl th:TO):TE:=λσ H Q=>te σ H λx H1=>tl σ H1 λl H2=>th σ H2 λu H3=>r x l u H3 Q
def jeP{r}(j:SlR X r)(k:PE X e te)(m:PO X lo tl)(n:PO X hi th):PE X (.Subscript e (.Slice lo hi none p2) pos) (tSl r te tl th):=by
 intro a s σ H Q I h;refine Subscript_<|thn (k a s σ H _ I h) λv s1 d=>?_;obtain⟨x,o,p,r1,t⟩:=d;refine wpAny_Slice<|thn (m a s1 σ o _ p t) λf s2 ⟨l,w,y,pl,z⟩=>thn (n a s2 σ w _ y z) λg c d=>?_;obtain⟨u,i,A,B,C⟩:=d;refine M6 ?_;have D:Inv X a σ i { c with heap:=c.heap.push {cls:=.type "slice",data:=.fields #[f,g,.none]} }:=A.kept λb ob q=>L8 _ q;obtain⟨T,id,E,F,G⟩:=j a { c with heap:=c.heap.push {cls:=.type "slice",data:=.fields #[f,g,.none]} } σ i x v f g l u ↥c Q D r1 (Heap.IsSliceOf.new ..) pl B C;exact tail_any F E G (by with_unfolding_all rfl)
def jjt(xs:List V)(lo hi:Option Int):List V:=(xs.drop<|HT.sIx xs.length 0 lo).take (HT.sIx xs.length xs.length hi-HT.sIx xs.length 0 lo)
def Vc(xs)(lo hi):(jjt xs lo hi).length<=xs.length:=by
 unfold jjt;rw[X6,List.length_drop]
 lia
def joZ(K:W4):V->Option Int->Option Int->Hp->VK->Prop:=λx lo hi H Q=>∃ a xs,x=.ref a/\SqT K H a xs /\
 ¬ (HT.sIx xs.length 0 lo=0/\HT.sIx xs.length xs.length hi=xs.length)/\∀ p,H p=none->Q (.ref p) (upd H p<|.tup<|jjt xs lo hi)
def jkQ:SlR X (joZ X.K):=by
 intro f s σ H x v o p lo hi t Q I j k pl l h;obtain⟨a,d,rfl,m,n,q⟩:=h;cases j;obtain⟨e,r,g,i⟩:=I.tuple m;have c:e.toArray.size=d.length:=by rw[N2];exact r.length.symm
 refine⟨"tuple",_,PyProof.Rows.slot_tuple_getitem.lookup,g.typeIs,?_⟩;refine HT.getItem_tuple_cut g k pl l (by rw[c];exact n) ?_ (by rw[c];exact i);rw[c];refine⟨.ref ↥s,_,I.laid (λb ob q=>L8 _ q) (M8 _) ?_,rfl,q _<|I.hok.fresh<|M8 _⟩;exact⟨N6 (Vc d lo hi) i,_,(r.drop<|HT.sIx d.length 0 lo).take (HT.sIx d.length d.length hi-HT.sIx d.length 0 lo),IsTupN.new _ _⟩
def jlk(K:W4):R2:=λx y H Q=>∃ a b xs ys,x=.ref a/\y=.ref b/\SqT K H a xs/\SqT K H b ys/\xs≠[]/\xs.length+ys.length<=sizeLine /\
 (ys=[]->Q (.ref a) H)/\(ys≠[]->∀ p,H p=none->Q (.ref p) (upd H p<|.tup<|xs++ys))
def Vals.nil_iff(r:Vals xs us):us=[]↔xs=[]:=by
 cases r with
 | nil=>simp
 | cons _ _=>simp
def jg0:OpR X (binaryOp .Add) (jlk X.K):=by
 intro c s σ H x y v u Q I f g h;obtain⟨a,b,o,p,rfl,rfl,i,j,k,d,l,m⟩:=h;cases f;cases g;obtain⟨n,r1,p1,_⟩:=I.tuple i;obtain⟨e,r2,p2,_⟩:=I.tuple j;refine HT.cat_tup p1 p2 (λz=>k<|r1.nil_iff.mp z) (λz=>⟨.ref a,H,I,rfl,l<|r2.nil_iff.mp z⟩) (λz=>?_) (by rw[<- r1.length,<- r2.length];exact d);refine⟨.ref ↥s,_,I.laid (λb ob q=>L8 _ q) (M8 _) ?_,rfl,m (λw=>z<|r2.nil_iff.mpr w) _<|I.hok.fresh<|M8 _⟩;exact⟨by rw[N3];exact d,_,r1.append r2,IsTupN.new _ _⟩
end
noncomputable def ixN(n:Nat)(i:Int):Option Nat:=if 0<=i then(if i<n then some i.toNat else none) else if -(n:Int)<=i then some (i+n).toNat else none
def atI{α:Type}(xs:List α)(i:Int):Option α:=(ixN xs.length i).bind λj=>xs[j]?
def xU(h:ixN n i=some j):seqIndex? i n=some j/\j<n/\-(n:Int)<=i/\i<n:=by
 unfold ixN at h;by_cases b:0<=i
 ·rw[if_pos b] at h;by_cases a:i<n
  ·rw[if_pos a] at h;have e:=X3 h;exact⟨by rw[seqIndex_of b a,e],by lia,by lia,a⟩
  ·rw[if_neg a] at h;cases h
 ·rw[if_neg b] at h;by_cases a:-n<=i
  ·rw[if_pos a] at h;exact⟨by rw[seqIndex_neg ∅ a,X3 h],by lia,a,by lia⟩
  ·rw[if_neg a] at h;cases h
def V5(h:atI xs i=some v):∃ j,An5 (seqIndex? i xs.length=some j) (xs[j]?=some v) (j<xs.length) (-(xs.length:Int)<=i) (i<xs.length):=by
 unfold atI at h;cases e:ixN xs.length i with
 | none=>rw[e] at h;cases h
 | some j=>
  rw[e] at h;obtain⟨a,b,c,d⟩:=xU e;exact⟨j,a,h,b,c,d⟩
def zX(b:Expr):Prop:=∀ o i,subscripted b false o i=operate [o,i] (getItem o i)
def IxR(X:Cx)(r:R2):Prop:=
 ∀ value slice pins s (σ:St) H x y v u Q,Inv X pins σ H s->RelV x v->RelV y u->r x y H Q ->
  subscripted slice false v u=operate [v,u] (getItem v u)->wpAny (model X.prog X.w) X.A (subscriptTail value slice v u) (EP X pins σ Q) X.xe s
def MtR(X:Cx)(id:String)(r:V->List V->Hp->VK->Prop):Prop:=
 ∀ pins s (σ:St) H x xs v us Q,Inv X pins σ H s->RelV x v->Vals xs us->r x xs H Q ->
  wpAny (model X.prog X.w) X.A (call (.builtin id)<|v::us) (EP X pins σ Q) X.xe s
section
variable {X:Cx}{a b:Expr}{ta tb:TE}{pos:Pos}
def IxR.or(h:IxR X r)(h':IxR X r'):IxR X (λx y H Q=>r x y H Q\/r' x y H Q):=by
 intro a slice b s σ H x y v u Q I c d q e;rcases q with q | q
 ·exact h a slice b s σ H x y v u Q I c d q e
 ·exact h' a slice b s σ H x y v u Q I c d q e
def joG(d:IxR X r)(e:PE X a ta)(f:PE X b tb)(g:zX b):PE X (.Subscript a b pos) (tOp r ta tb):=by
 intro c s σ H Q I h;exact Subscript_<|jn3 e f I h λv u s2 x y i j k l q=>d a b c s2 σ i x y v u Q j k l q<|g _ _
def jlc(K:W4):R2:=λx y H Q=>∃ p xs i v,x=.ref p/\y=.int i/\SqL K H p xs/\atI xs i=some v/\Q v H
def jo3(K:W4):R2:=λx y H Q=>∃ p xs i v,x=.ref p/\y=.int i/\SqT K H p xs/\atI xs i=some v/\Q v H
def joP:R2:=λx y H Q=>∃ z i c,x=.str z/\y=.int i/\z.length<=sizeLine/\atI z.cps.toList i=some c/\Q (.str ⟨#[c]⟩) H
def ix_list:IxR X (jlc X.K):=by
 intro d slice a s σ H x y v u Q I n o h k;obtain⟨p,G,i,z,rfl,rfl,A,B,q⟩:=h;cases n;obtain⟨t,rfl⟩:=o;obtain⟨e,r,pl,J⟩:=I.list A;obtain⟨j,c,C,L,D,E⟩:=V5 B;obtain⟨w,l,f⟩:=r.get C;have F:=r.length;have M:=K6;have b:EP X a σ Q w s:=⟨z,H,I,f,q⟩;by_cases m:0<=i
 ·have g:i.toNat=j:=by
   rw[seqIndex_of m E] at c;exact X3 c
  exact item_listR pl.isList m ∅ (by rw[g];simpa using l) b k
 ·have g:(i+e.toArray.size).toNat=j:=by
   rw[seqIndex_neg ∅ D] at c;rw[N2,<- F];exact X3 c
  exact subscriptTail_builtinR pl.isList.typeIs slot_list_getitem.lookup
   (wpAny_getItem_list_neg pl.isList ∅ (by rw[N2]<;>lia) ∅ (by rw[g];simpa using l) ⟨rfl,b⟩) k
def ix_tup:IxR X (jo3 X.K):=by
 intro b slice a s σ H x y v u Q I e f h g;obtain⟨p,B,i,z,rfl,rfl,k,l,q⟩:=h;cases e;obtain⟨t,rfl⟩:=f;obtain⟨m,r,pl,C⟩:=I.tuple k;obtain⟨j,n,o,D,E,F⟩:=V5 l;obtain⟨w,A,c⟩:=r.get o;have G:=K6;have d:EP X a σ Q w s:=⟨z,H,I,c,q⟩;exact subscriptTail_builtinR pl.typeIs slot_tuple_getitem.lookup
  (getItem_tuple pl ∅ ∅ (by rw[N2,<- r.length];exact n) ⇑A ⟨rfl,d⟩) g
def jlV:IxR X joP:=by
 intro a slice b s σ H x y v u Q I e f h g;obtain⟨z,i,c,rfl,rfl,r,k,q⟩:=h;obtain⟨t,rfl⟩:=e;obtain⟨w,rfl⟩:=f;obtain⟨j,d,l,A,m,n⟩:=V5 k;have o:z.cps.toList.length=z.length:=by simp[Str.length]
 rw[o] at d m n;have B:=K6;exact tail_any (typeIs_str s z t) slot_str_getitem.lookup (getItem_str (by
  have p:decide (i < -(2 ^ 63:Int))=false:=X1 ∅;have e2:decide (i ≥ 2 ^ 63)=false:=X1 ∅;rw[p,e2,Bool.or_false]) (by rw[d];simpa using l) ⟨.str ⟨#[c]⟩,H,I.tok _,⟨_,rfl⟩,q⟩) g
def rIx(K:W4):R2:=λx y H Q=>jlc K x y H Q\/jo3 K x y H Q\/joP x y H Q
def jjY:IxR X (rIx X.K):=ix_list.or<|ix_tup.or jlV
def jaq(its:List Value)(n j)(u):Obj.mapSeq (·.setIfInBounds j u) {cls:=.type "list",data:=.seq its.toArray n}={cls:=.type "list",data:=.seq (its.set j u).toArray n}:=by
 simp[Obj.mapSeq]
def Inv.lst(I:Inv X pins σ H s)(h:H p=some (.lst xs)):
  Ex2 λits n=>An3 (Vals xs its) (s.heap.get? p=some {cls:=.type "list",data:=.seq its.toArray n}) (xs.length<=sizeLine):=by
 obtain⟨z,its,n,r,e⟩:=I.hok p _ h;exact⟨its,n,r,e,z⟩
def Inv.lstUpd{pins}{s}{xs ys}{its a:List Value}{n c}{f}(I:Inv X pins σ H s)(h:H p=some (.lst xs))
  (g:s.heap.get? p=some {cls:=.type "list",data:=.seq its.toArray n}) (d:f {cls:=.type "list",data:=.seq its.toArray n}={cls:=.type "list",data:=.seq a.toArray c}) (r:Vals ys a) (i:ys.length<=sizeLine) (t:Nat):
  Inv X pins σ (upd H p<|.lst ys) {s with heap:=s.heap.update p f,toks:=t}:=by
 have e:(s.heap.update p f).get? p=some {cls:=.type "list",data:=.seq a.toArray c}:=by
  rw[Heap.get?_update_self f g<|by rw[d]<;>rfl,d]
 refine I.write (by rw[h];trivial) (.inl rfl) (λb u j q=>(Heap.get?_update_other _ _<|Ne.symm j).trans q) ⟨_,e⟩ ?_;exact⟨i,a,c,r,e⟩
def ja1:V->V->V->Hp->(Hp->Prop)->Prop:=λo i v H Q=>∃ p xs k j,o=.ref p/\i=.int k/\H p=some (.lst xs)/\ixN xs.length k=some j/\Q (upd H p<|.lst<|xs.set j v)
def uu:jn6 X ja1:=by
 intro a s σ H o i v E F u Q I y z A h;obtain⟨p,B,k,j,rfl,rfl,g,C,q⟩:=h;cases y;obtain⟨t,rfl⟩:=z;obtain⟨b,n,r,d,D⟩:=I.lst g;obtain⟨c,G,l,m⟩:=xU C;have e:=r.length;have J:=K6;have w:Inv X a σ (upd H p<|.lst<|B.set j v) {s with heap:=s.heap.update p (Obj.mapSeq (·.setIfInBounds j u))}:=
  I.lstUpd g d (jaq b n j u) (r.set A j) (by rw[List.length_set];exact D) s.toks
 by_cases x:0<=k
 ·have f:k.toNat=j:=by
   rw[seqIndex_of x m] at c;exact X3 c
  exact PySem.W.ki_setAt d x ∅ (by rw[N2,<- e];exact m) (by rw[f];exact⟨_,w,q⟩)
 ·have f:(k+b.toArray.size).toNat=j:=by
   rw[seqIndex_neg ∅ l] at c;rw[N2,<- e];exact X3 c
  exact PySem.W.ki_setBack d ∅ (by rw[N2,<- e];exact l) ∅ (by rw[f];exact⟨_,w,q⟩)
def K9(lo hi)(n):(sliceBounds lo hi none n).1=((HT.sIx n 0 lo:Nat):Int)/\(sliceBounds lo hi none n).2.1=((HT.sIx n n hi:Nat):Int)/\(sliceBounds lo hi none n).2.2=1:=by
 refine⟨?_,?_,rfl⟩
 ·cases lo with
  | none=>simp[sliceBounds,HT.sIx]
  | some i=>
   simp only[sliceBounds,HT.sIx,Option.getD_none,show 1>0 by decide,if_true];by_cases h:i<0
   ·simp only[h,if_true]<;>lia
   ·simp only[h,if_false]<;>lia
 ·cases hi with
  | none=>simp[sliceBounds,HT.sIx]
  | some i=>
   simp only[sliceBounds,HT.sIx,Option.getD_none,show 1>0 by decide,if_true];by_cases h:i<0
   ·simp only[h,if_true]<;>lia
   ·simp only[h,if_false]<;>lia
def Ke(its:List Value)(lo hi):slicePick its.toArray lo hi none=((its.drop<|HT.sIx its.length 0 lo).take (HT.sIx its.length its.length hi-HT.sIx its.length 0 lo)).toArray:=by
 obtain⟨a,b,c⟩:=K9 lo hi its.toArray.size;unfold slicePick;rw[a,b,c];simp only[sliceRange_one,pick_run,N2]<;>rfl
def jo7(K:W4):V->Option Int->Option Int->Hp->VK->Prop:=λx lo hi H Q=>∃ a xs,x=.ref a/\SqL K H a xs/\∀ p,H p=none->Q (.ref p) (upd H p<|.lst<|jjt xs lo hi)
def jij:SlR X (jo7 X.K):=by
 intro e s σ H x v n o lo hi p Q I g i pl j h;obtain⟨a,c,rfl,k,q⟩:=h;cases g;obtain⟨l,r,f,m⟩:=I.list k;have d:=r.length;refine⟨"list",_,slot_list_getitem.lookup,f.isList.typeIs,?_⟩;refine wpAny_getItem_list_slice f.isList i pl j .none (by simp) ?_ (by rw[N2]<;>lia);rw[Ke,<- d];refine⟨.ref ↥s,_,I.laid (λb ob q=>L8 _ q) (M8 _) ?_,rfl,q _<|I.hok.fresh<|M8 _⟩;exact⟨N6 (Vc c lo hi) m,_,0,(r.drop<|HT.sIx c.length 0 lo).take (HT.sIx c.length c.length hi-HT.sIx c.length 0 lo),X7 _ rfl⟩
noncomputable def YX:V->Bool
 | .non=>true
 | .bl _=>true
 | .int _=>true
 | .str _=>true
 | _=>false
noncomputable def eqV:V->V->Bool
 | .non,.non=>true
 | .bl a,.bl b=>a==b
 | .bl a,.int b=>(if a then 1 else 0)==b
 | .int a,.bl b=>a==(if b then 1 else 0)
 | .int a,.int b=>a==b
 | .str a,.str b=>a==b
 | _,_=>false
def jkz(e:RelV y u)(c:RelV x v)(g:YX y=true)(f:YX x=true):SeqAt.EqAt A s u v (eqV y x):=by
 cases y with
 | non=>
  cases e;cases x with
  | non=>cases c;exact SeqAt.EqAt.same _
  | bl b=>cases c;exact SeqAt.EqAt.none_bool b
  | int b=>obtain⟨t,rfl⟩:=c;exact SeqAt.EqAt.none_int b t
  | str b=>obtain⟨t,rfl⟩:=c;exact SeqAt.EqAt.none_str b t
  | _=>exact absurd (f) M3
 | bl a=>
  cases e;cases x with
  | non=>cases c;exact SeqAt.EqAt.bool_none a
  | bl b=>cases c;exact SeqAt.EqAt.bool_bool a b
  | int b=>obtain⟨t,rfl⟩:=c;exact SeqAt.EqAt.bool_int a b t
  | str b=>obtain⟨t,rfl⟩:=c;exact SeqAt.EqAt.bool_str a b t
  | _=>exact absurd (f) M3
 | int a=>
  obtain⟨d,rfl⟩:=e;cases x with
  | non=>cases c;exact SeqAt.EqAt.int_none a d
  | bl b=>cases c;exact SeqAt.EqAt.int_bool a d b
  | int b=>obtain⟨t,rfl⟩:=c;exact SeqAt.EqAt.int_int a d b t
  | str b=>obtain⟨t,rfl⟩:=c;exact SeqAt.EqAt.int_str a d b t
  | _=>exact absurd (f) M3
 | str a=>
  obtain⟨d,rfl⟩:=e;cases x with
  | non=>cases c;exact SeqAt.EqAt.str_none a d
  | bl b=>cases c;exact SeqAt.EqAt.str_bool a d b
  | int b=>obtain⟨t,rfl⟩:=c;exact SeqAt.EqAt.str_int a d b t
  | str b=>obtain⟨t,rfl⟩:=c;exact SeqAt.EqAt.str_str a d b t
  | _=>exact absurd (f) M3
 | _=>exact absurd (g) M3
def eqU(x:V)(u:Value):Bool:=match u with
 | .none=>eqV .non x
 | .bool b=>eqV (.bl b) x
 | .int i _=>eqV (.int i) x
 | .str z _=>eqV (.str z) x
 | _=>false
def jgj(r:RelV y u)(f:YX y=true):eqU x u=eqV y x:=by
 cases y with
 | non=>cases r;rfl
 | bl b=>cases r;rfl
 | int i=>obtain⟨t,rfl⟩:=r;rfl
 | str z=>obtain⟨t,rfl⟩:=r;rfl
 | _=>exact absurd (f) M3
theorem Yy:∀{xs}{us},Vals xs us->xs.all YX=true->us.any (eqU x)=xs.any λy=>eqV y x
 | _,_,.nil,_=>rfl
 | y::xs,u::us,.cons r t,f=>by
  rw[List.all_cons,M0] at f;rw[List.any_cons,List.any_cons,jgj r f.1,Yy t f.2]
theorem JE(b:RelV x v)(c:YX x=true):∀{xs}{us},Vals xs us->xs.all YX=true->∀ u∈us,SeqAt.EqAt A s u v<|eqU x u
 | _,_,.nil,_=>λu a=>by cases a
 | y::xs,u::us,.cons r t,f=>λd a=>by
  rw[List.all_cons,M0] at f;rcases M4.mp a with rfl | a
  ·rw[jgj r f.1];exact jkz r b f.1 c
  ·exact JE b c t f.2 d a
def inV(x:V)(xs:List V):Bool:=xs.any λy=>eqV y x
def rIn(K:W4)(neg:Bool):R2:=λx y H Q=>∃ p xs,y=.ref p/\(SqL K H p xs\/SqT K H p xs)/\YX x=true/\xs.all YX=true/\Q (.bl<|if neg then !inV x xs else inV x xs) H
def jcU:OpR X (compareOp .In) (rIn X.K false):=by
 intro d s σ H x y v u Q I e g h;obtain⟨p,j,rfl,b,f,fs,q⟩:=h;cases g;rcases b with b | b
 ·obtain⟨a,r,pl,i⟩:=I.list b;refine SeqAt.in_listAt (eqU x) pl.isList (λw c=>JE e f r fs w ⇑c) ⟨.bl _,H,I,rfl,?_⟩;rw[show a.toArray.any (eqU x)=a.any (eqU x) by simp,Yy r fs];exact q
 ·obtain⟨a,r,pl,i⟩:=I.tuple b;refine SeqAt.in_tupleAt (eqU x) pl (λw c=>JE e f r fs w ⇑c) ⟨.bl _,H,I,rfl,?_⟩;rw[show a.toArray.any (eqU x)=a.any (eqU x) by simp,Yy r fs];exact q
def K5:OpR X (compareOp .NotIn) (rIn X.K true):=by
 intro d s σ H x y v u Q I e g h;obtain⟨p,j,rfl,b,f,fs,q⟩:=h;cases g;rcases b with b | b
 ·obtain⟨a,r,pl,i⟩:=I.list b;refine SeqAt.notIn_listAt (eqU x) pl.isList (λw c=>JE e f r fs w ⇑c) ⟨.bl _,H,I,rfl,?_⟩;rw[show a.toArray.any (eqU x)=a.any (eqU x) by simp,Yy r fs];exact q
 ·obtain⟨a,r,pl,i⟩:=I.tuple b;refine SeqAt.notIn_tupleAt (eqU x) pl (λw c=>JE e f r fs w ⇑c) ⟨.bl _,H,I,rfl,?_⟩;rw[show a.toArray.any (eqU x)=a.any (eqU x) by simp,Yy r fs];exact q
def QR:km X (.type "list") (λxs H Q=>∃ p ys,xs=[.ref p]/\(SqL X.K H p ys\/SqT X.K H p ys)/\∀ l,H l=none->Q (.ref l) (upd H l<|.lst ys)):=by
 intro d s σ H xs z Q I r h;obtain⟨p,ys,rfl,f,q⟩:=h;obtain⟨u,rfl,y⟩:=jhj r;cases y;have g:∀ a,Vals ys a->ys.length<=sizeLine->∀ i m,(∀ b x,s.heap.get? b=some x->i.get? b=some x) ->
   i.get? ↥s=some {cls:=.type "list",dict:=none,data:=.seq a.toArray m,slots:=#[]}->EP X d σ Q (.ref ↥s) {s with heap:=i}:=λa c j i m kp e=>
  ⟨.ref ↥s,_,I.laid kp (M8 _)<|show ObjOk X.prog X.w _ i _ (.lst ys) from⟨j,a,m,c,e⟩,rfl,q _<|I.hok.fresh<|M8 _⟩
 rcases f with f | f
 ·obtain⟨a,c,pl,j⟩:=I.list f;have k:=c.length;obtain⟨o,t,v,n,hd⟩:=pl.isList;exact call_list_seq p (.inl rfl) t v hd (g a c j) (by simp only[N2]<;>lia)
 ·obtain⟨a,c,pl,j⟩:=I.tuple f;have k:=c.length;obtain⟨o,t,v,n,hd⟩:=pl;exact call_list_seq p (.inr rfl) t v hd (g a c j) (by simp only[N2]<;>lia)
def KO:km X (.type "tuple") (λxs H Q=>∃ p ys,xs=[.ref p]/\((SqL X.K H p ys/\∀ l,H l=none->Q (.ref l) (upd H l<|.tup ys))\/(SqT X.K H p ys/\Q (.ref p) H))):=by
 intro a s σ H xs t Q I r h;obtain⟨p,ys,rfl,h⟩:=h;obtain⟨u,rfl,m⟩:=jhj r;cases m;rcases h with⟨f,q⟩ | ⟨f,q⟩
 ·obtain⟨c,g,pl,i⟩:=I.list f;have j:=g.length;refine call_tuple_list pl.isList (λd kp=>?_) (by simp only[N2]<;>lia);have k:Inv X a σ H {s with heap:=d}:=I.kept kp;have n:Inv X a σ (upd H d.objs.size<|.tup ys) { s with heap:=d.push {cls:=.type "tuple",data:=.seq c.toArray} }:=
   k.laid (λb o e=>L8 _ e) (M8 _) (⟨i,c,g,IsTupN.new _ _⟩)
  exact⟨.ref d.objs.size,_,n,rfl,q _<|k.hok.fresh<|M8 _⟩
 ·obtain⟨c,g,pl,i⟩:=I.tuple f;exact call_tuple_same pl ⟨.ref p,H,I,rfl,q⟩
def tyV(K:W4)(T:String)(x:V)(H:Hp):Prop:=match x with
 | .str _=>T = "str"
 | .int _=>T = "int"
 | .ref p=>(T = "list"/\∃ xs,SqL K H p xs)\/(T = "tuple"/\∃ o,K.lookup p=some o/\o.cls=.type "tuple"/\o.dict=none) \/
   (T = "dict"/\((∃ kvs,H p=some (.dK kvs)) \/ ∃ kvs,H p=some (.dT kvs)))\/(T = "set"/\∃ S n,H p=some (.set S n))
 | _=>False
def jf3(I:Inv X pins σ H s)(r:RelV x v)(ty:tyV X.K T x H):
  s.TypeIs v T/\∀ a,v=.ref a->∃ ob,s.heap.get? a=some ob/\ob.dict=none:=by
 cases x with
 | str z=>
  obtain⟨t,rfl⟩:=r;cases(ty);exact⟨typeIs_str s z t,λ_ e=>nomatch e⟩
 | int i=>
  obtain⟨t,rfl⟩:=r;cases(ty);exact⟨typeIs_int s i t,λ_ e=>nomatch e⟩
 | ref p=>
  cases r;rcases ty with⟨rfl,j,f⟩ | ⟨rfl,o,b,g,hd⟩ | ⟨rfl,b⟩ | ⟨rfl,S,n,b⟩
  ·obtain⟨h,_,pl,_⟩:=I.list f;refine⟨pl.isList.typeIs,λa e=>?_⟩;cases e;obtain⟨o,n,e,c,hd,_⟩:=pl;exact⟨o,e,hd⟩
  ·refine⟨⟨o,I.kIn p o b,g⟩,λa e=>?_⟩;cases e;exact⟨o,I.kIn _ o b,hd⟩
  ·have z:∃ o,s.heap.get? p=some o/\o.ExactDict:=by
    rcases b with⟨d,b⟩ | ⟨d,b⟩
    ·obtain⟨_,_,_,_,o,_,_,e,ex,_⟩:=I.hok p _ b;exact⟨o,e,ex⟩
    ·obtain⟨_,_,_,_,o,_,_,e,ex,_⟩:=I.hok p _ b;exact⟨o,e,ex⟩
   obtain⟨o,e,ex⟩:=z;refine⟨⟨o,e,ex.1⟩,λa e2=>?_⟩;cases e2;exact⟨o,e,ex.2.1⟩
  ·obtain⟨o,_,_,_,e,ex,_⟩:=I.hok p _ b;refine⟨⟨o,e,ex.1⟩,λa e2=>?_⟩;cases e2;exact⟨o,e,ex.2.1⟩
 | _=>exact False.elim ty
def jm3(K:W4)(T:String)(r:V->List V->Hp->VK->Prop)(to:TE):TE:=λσ H Q=>to σ H λx H1=>tyV K T x H1/\r x [] H1 Q
def tBM(K:W4)(T:String)(r:V->List V->Hp->VK->Prop)(to:TE)(t:TA):TE:=λσ H Q=>to σ H λx H1=>tyV K T x H1/\t σ H1 λxs H2=>r x xs H2 Q
variable {o e:Expr}{es:List Expr}{to:TE}{t:TA}{name:Str}{apos cpos:Pos}{T id:String}{r:V->List V->Hp->VK->Prop}
def jmd(pa:PlainAttrs T)(slot:Slot T name id)(d:typeOf (.builtin id)=pure (.type "method_descriptor"))(f:MtR X id r)(g:PE X o to)
  (b:attributeBase o name X.env (eval o X.env)=eval o X.env:=by rfl) (c:(apos.endLine==cpos.line)=true:=by rfl):PE X (.Call (.Attribute o name apos) [] [] cpos) (jm3 X.K T r to):=by
 intro a s σ H Q I h;refine wpAny_Call_method0_late b c<|thn (g a s σ H _ I h) λv s1 i=>?_;obtain⟨x,j,e,r1,ty,k⟩:=i;obtain⟨l,m⟩:=jf3 e r1 ty;exact⟨T,id,pa,slot,d,l,m,Calls.callWith_builtin rfl<|PySem.evalArgs_none<|f a s1 σ j x [] v [] Q e r1 .nil k⟩
def jfx(pa:PlainAttrs T)(slot:Slot T name id)(g:typeOf (.builtin id)=pure (.type "method_descriptor"))(k:MtR X id r)(l:PE X o to)(m:PA X (e::es) t)
  (c:attributeBase o name X.env (eval o X.env)=eval o X.env:=by rfl)
  (f:((backTo cpos<|starEach (e::es) X.env).all (λx=>!x.1)&&(backToKw cpos<|keywordEach [] X.env).all (λx=>x.1.isSome)
   && decide ((e::es).length+([]:List Keyword).length+(if([]:List Keyword).isEmpty then 0 else 1)<30))=true:=by rfl)
  (d:(apos.endLine==cpos.line)=true:=by rfl) (n:SEq X e es:=by rfl) (b:BkE X cpos es:=by rfl):
  PE X (.Call (.Attribute o name apos) (e::es) [] cpos) (tBM X.K T r to t):=by
 intro a s σ H Q I h;refine wpAny_Call_method_late c f d rfl<|thn (l a s σ H _ I h) λv s1 p=>?_;obtain⟨x,q,i,r1,ty,u⟩:=p;obtain⟨w,y⟩:=jf3 i r1 ty;refine⟨T,id,pa,slot,g,w,y,?_⟩;have j:=m cpos a s1 σ q _ i u;rw[n] at j ⊢;refine Calls.callWith_builtin (by show(false||(backTo cpos<|starEach es X.env).any (·.1))=false;rw[b]<;>rfl)<|Calls.evalArgs_plain ?_;exact thn j λz s2 ⟨vs,A,B,r2,C⟩=>k a s2 σ A x vs v z Q B r1 r2 C
end
def MtM(X:Cx)(id:String)(r:V->List V->Hp->VK->Prop):Prop:=
 ∀ pins s (σ:St) H x xs v us Q,Inv X pins σ H s->RelV x v->Vals xs us->r x xs H Q ->
  wpAny (model X.prog X.w) X.A (call (.builtin id)<|v::us) (EP X pins σ Q) X.xe s
def Vals.one(h:Vals [x] us):∃ u,us=[u]/\RelV x u:=by
 cases h with | cons r t=>cases t;exact⟨_,rfl,r⟩
def Vals.two(h:Vals [x,y] us):Ex2 λu v=>An3 (us=[u,v]) (RelV x u) (RelV y v):=by
 cases h with | cons r t=>cases t with | cons q t=>cases t;exact⟨_,_,rfl,r,q⟩
def Vals.zero:∀{us},Vals [] us->us=[]
 | _,.nil=>rfl
def Vals.reverse(h:Vals xs us):Vals xs.reverse us.reverse:=by
 induction h with
 | nil=>exact .nil
 | cons r t a=>rw[List.reverse_cons,List.reverse_cons];exact Vals.append a<|.cons r .nil
theorem Vals.rep(h:Vals xs us):∀ k:Nat,Vals (List.replicate k xs).flatten (List.replicate k us).flatten
 | 0=>.nil
 | k+1=>by
  exact Vals.append h<|Vals.rep h k
theorem Qv(its:List Value):∀ k acc,
  List.foldl (λx1 x2=>x1++x2) acc.toArray (List.replicate k its.toArray)=(acc++(List.replicate k its).flatten).toArray
 | 0,acc=>by simp
 | k+1,acc=>by
  have e:acc.toArray++its.toArray=(acc++its).toArray:=by simp
  have e2:(acc++its)++(List.replicate k its).flatten=acc++(List.replicate (k+1) its).flatten:=by
   rw[List.replicate_succ,List.flatten_cons,List.append_assoc]
  rw[<- e2,<- Qv its k (acc++its),<- e,List.replicate_succ,U9]
section
variable {X:Cx}{pins:List (Addr×Obj)}{σ:St}{H:Hp}{s:Shared}{l b:Addr}{xs ys zs:List V}
def Inv.lset{its a:List Value}{n}{f}{t'}(I:Inv X pins σ H s)(b:H l=some (.lst xs))
  (e:s.heap.get? l=some {cls:=.type "list",data:=.seq its.toArray n}) (c:f its.toArray=a.toArray) (d:Vals ys a) (g:ys.length<=sizeLine):
  Inv X pins σ (upd H l<|.lst ys) {s with heap:=s.heap.update l<|Obj.mapSeq f,toks:=t'}:=by
 have q:=PySem.IsL.update e f;rw[c] at q;refine I.write (by rw[b];exact trivial) (.inl rfl) (λb' u h i=>(Heap.get?_update_other s.heap (Obj.mapSeq f)<|Ne.symm h).trans i) ⟨_,q⟩ ?_;exact⟨g,a,_,d,q⟩
def Inv.lnew(I:Inv X pins σ H s)(a:Vals ys its)(b:ys.length<=sizeLine):
  Inv X pins σ (upd H ↥s (.lst ys)) { s with heap:=s.heap.push {cls:=.type "list",data:=.seq its.toArray},toks:=t' }:=
 I.laid (λ_ _ q=>L8 _ q) (M8 _) ⟨b,its,0,a,X7 _ rfl⟩
def Inv.fresh(I:Inv X pins σ H s):H ↥s=none:=I.hok.fresh<|M8 _
def Inv.lstM(I:Inv X pins σ H s)(a:H l=some (.lst xs)):xs.length<=sizeLine/\∃ its n,Vals xs its/\xs.length=its.length/\s.heap.get? l=some {cls:=.type "list",data:=.seq its.toArray n}:=by
 obtain⟨z,its,n,r,e⟩:=I.hok l _ a;exact⟨z,its,n,r,r.length,e⟩
def KJ(h:n<=sizeLine):Builtin.List.listTooLong n=false:=by
 exact X1 ∅
end
section
variable {X:Cx}
def Yv:V->List V->Hp->VK->Prop:=λx vs H Q=>∃ l xs y,x=.ref l/\vs=[y]/\H l=some (.lst xs)/\xs.length<sizeLine/\Q .non (upd H l<|.lst<|xs++[y])
def YB:MtM X "list.append" Yv:=by
 intro b s σ H x vs v i Q I d f h;obtain⟨l,j,y,rfl,rfl,c,k,q⟩:=h;cases d;obtain⟨u,rfl,g⟩:=f.one;obtain⟨z,a,n,r,m,e⟩:=I.lstM c;refine call_meets F.slot_list_append ⟨_,e,rfl⟩ F.entry_list_append (F.args_list_append_2 _ _) (PySem.list_append l a.toArray n u<|by rw[N2];lia) ⟨e,?_⟩;refine⟨.non,_,I.lset c e (by simp) (r.append<|.cons g .nil) ?_,rfl,q⟩;rw[N3,List.length_singleton]
 lia
def V8:V->List V->Hp->VK->Prop:=λx vs H Q=>∃ l xs,x=.ref l/\vs=[]/\H l=some (.lst xs)/\Q .non (upd H l<|.lst xs.reverse)
def uZ:MtM X "list.reverse" V8:=by
 intro c s σ H x vs v i Q I f g h;obtain⟨l,j,rfl,rfl,d,q⟩:=h;cases f;have a:=g.zero;subst a;obtain⟨z,b,n,r,k,e⟩:=I.lstM d;refine call_meets F.slot_list_reverse ⟨_,e,rfl⟩ F.entry_list_reverse (F.args_list_reverse_1 _) (AutoSeq1.list_reverse_list_0 l b.toArray n<|by rw[N2];lia) ⟨e,?_⟩;refine⟨.non,_,I.lset d e (by simp) r.reverse ?_,rfl,q⟩;rw[List.length_reverse]
 lia
def jnm:R2:=λx y H Q=>∃ l k xs,x=.ref l/\y=.int k/\H l=some (.lst xs)/\-(2 ^ 63)<=k/\k<2 ^ 63/\xs.length*k.toNat<=sizeLine /\
 ∀ p,H p=none->Q (.ref p) (upd H p<|.lst (List.replicate k.toNat xs).flatten)
def ji4(xs:List α)(k):(List.replicate k xs).flatten.length=k*xs.length:=by
 induction k with
 | zero=>simp
 | succ k a=>rw[List.replicate_succ,List.flatten_cons,N3,a,Nat.succ_mul,Nat.add_comm]
def jmP:OpR X (binaryOp .Mult) jnm:=by
 intro p s σ H x y v u Q I A B h;obtain⟨l,k,L,rfl,rfl,C,D,E,w,q⟩:=h;cases A;obtain⟨t,rfl⟩:=B;obtain⟨z,b,n,r,G,e⟩:=I.lstM C;have d:b.toArray.size*k.toNat<=sizeLine:=by rw[N2,<- G];exact w
 have f:¬ b.toArray.size*k.toNat>(2 ^ 63-1)/8:=by
  have:sizeLine<=(2 ^ 63-1)/8:=by decide
  lia
 have g:¬ (!Builtin.List.listFitsIndex k)=true:=by
  rw[fitsIndex_both D E];exact M3
 have c:¬ Builtin.List.listTooLong (b.toArray.size*k.toNat)=true:=by
  rw[KJ d];exact M3
 have i:List.foldl (λj o=>j++o) #[] (List.replicate (if b.toArray.isEmpty=true then 0 else k.toNat) b.toArray)=(List.replicate k.toNat b).flatten.toArray:=by
  have J:∀ m:Nat,List.foldl (λj o=>j++o) #[] (List.replicate m b.toArray)=(List.replicate m b).flatten.toArray:=λm=>by
   have:=Qv b m [];exact this
  rw[J];cases b with
  | nil=>simp
  | cons a M=>rw[if_neg<|by simp]
 refine wpAny_binaryOp_repeat_ref (by decide) ⟨_,e,rfl⟩ (λK=>typeIs_int K k t) noFill_list_mul F.fills_int_mul F.slot_int_rmul repeat_list F.slot_int_index.lookup<|call_meets F.slot_int_rmul (typeIs_int s k t) F.entry_int_rmul (F.args_int_rmul_2 _ _) (int___rmul___int_list k t l b.toArray n)
   ⟨e,rfl,⟨_,e,rfl⟩,call_meets F.slot_list_mul ⟨_,e,rfl⟩ F.entry_list_mul (F.args_list_mul_2 _ _) (AutoListH.list___mul___list_int_3 l b.toArray n k t g f c) ⟨e,?_⟩⟩
 rw[i];exact⟨.ref _,_,I.lnew (r.rep k.toNat)<|by rw[ji4,Nat.mul_comm];exact w,rfl,q _ I.fresh⟩
end
end L2
namespace Att
open PySem PySem.W PySem.Calls PyProof.Rows
def Vf:∀ ns vs,WellAll P h vs (ns.map WData.int)->IntsAre vs ns:=by
 intro ns
 induction ns with
 | nil=>
  intro vs w;cases w;exact .nil
 | cons n ns c=>
  intro vs w;cases w with
  | cons a b=>
   cases a;exact .cons _ _<|c _ b
def script_of{l:OpenLaw}{n}(m:l.most=some n)  {h}{b}{c}
  (e:l.row.toRowW.claim.pre b=true) (j:WellAll P h c b):
  ∃ a vs ns,c=[Value.ref a]/\b=[WData.list<|ns.map WData.int]/\h.get? a=some {cls:=.type "list",data:=.seq vs.toArray}/\IntsAre vs ns/\ns.length<=n:=by
 obtain⟨d,r,rfl,o,p⟩:=hasAllW_cons<|(pre_splitW e).1;obtain rfl:=hasAllW_nil p;obtain⟨u,rfl,s⟩:=hasW_list o;obtain⟨ns,rfl⟩:=items_int s;have f:ns.length<=n:=by
  have i:(WTm.not<|.lt (.lit<|.int n)<|.len<|.arg 0).holds [] {args:=[.list<|ns.map .int]}=true:=by
   have i:=(holds_andW<|(pre_splitW e).2).1;rw[m] at i;exact i
  have k:=condW_of i<|w_not<|w_lt w_lit<|w_len_list<|w_arg rfl;refine Nat.le_of_not_lt λq=>?_
  first
   | (rw[X0 q'] at k;exact absurd k (by decide))
   | (simp at k;lia)
 cases j with
 | cons w1 w2=>
  cases w2;cases w1 with
  | list t g=>exact⟨_,_,ns,rfl,rfl,t,Vf ns _ g,f⟩
def post_true(l:OpenLaw)(a):l.row.toRowW.claim.post a (.bool true) a=true:=
 postW_of
  (by first | rfl | decide | simp[WShape.has,WShape.arms,WShape.armsAll])
  (w_eq_bool (w_res rfl) w_lit) rfl
end Att
namespace L2
open PySem PySem.Spec PyProof.Rows
theorem QY:∀{vs}{ns},IntsAre vs ns->Vals (ns.map V.int) vs
 | _,_,.nil=>.nil
 | _,_,.cons n t h=>.cons ⟨t,rfl⟩<|QY h
def joJ(H:Hp):Prop:=∀ b,H b=none \/ ∃ o xs,H b=some (.frz o<|.lst xs)
def jfq{P}{w}{K}{mg E}{CX}{k}{fa a}{fd}{x}{sp}{c}{vs}{ns}
  (N:K.In c.heap) (n:c.heap.Ns mainGlobals mg) (g:c.heap.Ns builtinsNs E) (G:∀ x:Str,x≠"__name__"->E x=bootBuiltins x) (p:c.heap.NoLimit) (U:c.gens = #[])
  (B:c.heap.get? a=some {cls:=.type "list",data:=.seq vs.toArray}) (hi:IntsAre vs ns) (O:ns.length<=sizeLine) (W:Room k callerA)
  (F:∀ base:Heap,K.In base->base.Ns mainGlobals mg->FnOk P w K mg base CX k fa fd [x] sp) (l:∀ s u,BindsTo s fd ⟨[u],[]⟩ [(x,u)])
  (I:∀ H:Hp,joJ H->SqL K H a (ns.map V.int)->sp [.ref a] H (λv _=>v=.bl true) λ_ _ _=>False)
  (J:∀ H e s',CX [] H c (λ_ _ _=>False) e s'->False):
  codeAny (model P w) callerA (.call (.ref fa) ⟨[.ref a],[]⟩) (λr s'=>r=.ok (.ret<|.bool true)/\OldK c.heap s'.heap/\s'.os=c.os/\AllBare s'.gens) c:=by
 have Q:=QY hi;have j:∀ H:Hp,joJ H->SqL K H a (ns.map V.int)->HOk P w H c.heap->(∀ b,H b≠none->b=a)->(H a≠none->K.lookup a=none) ->
   codeAny (model P w) callerA (.call (.ref fa) ⟨[.ref a],[]⟩) (λr s'=>r=.ok (.ret<|.bool true)/\OldK c.heap s'.heap/\s'.os=c.os/\AllBare s'.gens) c:=by
  intro H R X hok S Y;have f:∀{b}{o},c.heap.get? b=some o->H b=none->(jfR c.heap H).get? b=some o:=je2;have L:∀{b}{o}{C}{D},c.heap.get? b=some o->o.data=.dict C D->H b=none:=λ{b o C D} e d=>by
   cases q:H b with
   | none=>rfl
   | some u=>
    have M:=S b (by rw[q];simp);subst M;rw[B] at e;cases e;cases d
  have i:∀{b}{m},c.heap.Ns b m->(jfR c.heap H).Ns b m:=λ{b m} ⟨o,C,D,e,d,r⟩=>⟨o,C,D,f e<|L e d,d,r⟩;have t:=λb o e=>f (N b o e) (by
   cases q:H b with
   | none=>rfl
   | some u=>
    have M:=S b (by rw[q];simp);subst M;rw[Y<|by rw[q];simp] at e;cases e)
  have Z:Mod K mg (jfR c.heap H):=⟨t,i n,⟨E,i g,G⟩,let ⟨mc,h1,h2⟩:=p;⟨mc,i h1,h2⟩⟩;have e0:Env0 P w K mg (jfR c.heap H) callerA [] c H:=⟨rfl,Z,λb o e=>jiE e,Nat.le_of_eq<|jcv _ _,trivial,λb g=>absurd (show b∈([]:W5) from g)<|by simp,hok,.of_eq U⟩;refine codeAny_mono ((F _ t<|i n).run callerA [] c H ⟨[.ref a],[]⟩ [.ref a] [.ref a] _ _ W e0 (l c<|.ref a) (.cons rfl .nil) (I H R X)) λr s' h=>?_;cases r with
  | error e=>exact(J H e s' h).elim
  | ok fl=>
   cases fl with
   | next=>exact False.elim h
   | brk=>exact False.elim h
   | cont=>exact False.elim h
   | ret u=>
    obtain⟨v,H',os,bare,un,y,r',q⟩:=h;subst q;obtain rfl:u=Value.bool true:=r';refine⟨rfl,OldK.of_keep λb o e=>?_,os,bare⟩;cases q:H b with
    | none=>exact un.keep b o e q (by intro z;exact absurd (show b∈([]:W5) from z)<|by simp) (by simp)
    | some u=>
     rcases R b with z | ⟨ob,xs,z⟩
     ·rw[q] at z;cases z
     ·have z2:=un.frzs b ob _ z;obtain⟨T,_⟩:=hok b _ z;obtain⟨e2,_⟩:=y b _ z2;rw[e] at T;cases T;exact e2
 cases hk:K.lookup a with
 | some o=>
  have e:=N a o hk;rw[B] at e;cases e;refine j (λ_=>none) (λ_=>.inl rfl) (.inr ⟨_,vs.toArray,_,hk,rfl,rfl,rfl,by rw[N2,hi.length];exact O,by simpa using Q⟩) (λb u z=>by have A:=z;cases A) (λb z=>absurd rfl z)<|absurd rfl
 | none=>
  refine j (λb=>if b=a then some (.frz {cls:=.type "list",data:=.seq vs.toArray} (.lst<|ns.map V.int)) else none) (λb=>?_) (.inl<|.inr ⟨{cls:=.type "list",data:=.seq vs.toArray},if_pos rfl⟩) (λb u z=>?_) (λb z=>?_) λ_=>hk
  ·by_cases g:b=a
   ·exact .inr ⟨_,_,if_pos g⟩
   ·exact .inl<|if_neg g
  ·by_cases g:b=a
   ·have A:=(if_pos g).symm.trans z;cases A;subst g;exact⟨B,by rw[L1];exact O,vs,_,Q,B⟩
   ·have A:=(if_neg g).symm.trans z;cases A
  ·by_cases g:b=a
   ·exact g
   ·exact absurd (if_neg g) z
noncomputable def kX(s:Stmt)(j:Nat):Stmt:=match s with
 | .ClassDef _ _ _ body _ _ _ _ _ _ _=>body.getD j<|.Pass ⟨0,0,0,0⟩
 | _=>.Pass ⟨0,0,0,0⟩
noncomputable def qh(s:Stmt):Arguments:=match s with
 | .FunctionDef _ a _ _ _ _ _ _ _ _=>a
 | _=>{posonlyargs:=[],args:=[],vararg:=none,kwonlyargs:=[],kw_defaults:=[],kwarg:=none,defaults:=[]}
noncomputable def va(s:Stmt):List Stmt:=match s with
 | .FunctionDef _ _ b _ _ _ _ _ _ _=>b
 | _=>[]
noncomputable def jt(s:Stmt):Scope:=match s with
 | .FunctionDef _ _ _ _ _ _ sc _ _ _=>sc
 | _=>{kind:=.function,names:=[],isGenerator:=false,isCoroutine:=false}
noncomputable abbrev CX0:CXT:=λ_ _ _ _ _ _=>False
noncomputable abbrev E0:XK:=λ_ _ _=>False
def jfm:VN CX0 X E0:=λ_ _ _ _ _ _ _ h=>h.elim
structure Fun(K:W4)(x qual:Str)(st:Stmt)(f:Addr)(fd:FuncData):Prop where
 ex:∃(oc:Value) (od:Option Addr) (kV doc pm:Value) (an:Option Addr) (cdv ct:Value) (osl:Array<|Option Value),
  fd=PySem.W.fnOf x qual (qh st) (va st) (jt st) .none kV doc pm an cdv ct/\K.lookup f=some ⟨oc,od,.func fd,osl⟩/\PySem.W.codeIn K cdv qual=true
 kp:PySem.W.keepIn K (.ref f)=true
section
variable {P:Program}{w:World}{K:W4}{mg:W6}{base:Heap}
def Fun.ok{x qual}{st}{f}{fd}{N ps}{k}{sp}(F:Fun K x qual st f fd)(S:FnScope N ps<|jt st)(len:∀ vs H Q E,sp vs H Q E->vs.length=ps.length)
  (a:∀ cdv A outer s H vs Q E,Room k (A.deeper<|envOfC qual (jt st) ↥s f cdv)->sp vs H Q E ->
   ∃ t,PSs (jeS CX0 P w K mg base N qual (jt st) f cdv A outer s H E).nox (va st) t/\t {nx:=λ_ H'=>Q .non H',rt:=Q} (start N vs) H):FnOk P w K mg base CX0 (k+1) f fd ps sp:=by
 obtain⟨oc,od,kV,d,j,l,cdv,ct,e,rfl,g,b⟩:=F.ex;refine jnW g b S len λA outer s H vs Q E i c=>?_;obtain⟨t,h,q⟩:=a cdv A outer s H vs Q E i c;exact⟨t,h.nox,q⟩
def Fun.binds{x qual}{st}{f}{fd}{ps}(F:Fun K x qual st f fd)
  (h:∀ kV doc pm an cdv ct us,us.length=ps.length->bindArgs (PySem.W.fnOf x qual (qh st) (va st) (jt st) .none kV doc pm an cdv ct) ⟨us,[]⟩=pure (ps.zip us)):Binds K fd ps []:=by
 obtain⟨oc,od,kV,doc,pm,an,cdv,ct,a,rfl,c,b⟩:=F.ex;exact .all<|h kV doc pm an cdv ct
def wx{x qual}{st}{f}{oc}{od an}{d}{kV b pm a ct}(l:K.lookup f=some ⟨oc,od,.func<|PySem.W.fnOf x qual (qh st) (va st) (jt st) .none kV b pm an a ct,d⟩)
  (c:PySem.W.codeIn K a qual=true) (k:PySem.W.keepIn K (.ref f)=true):Fun K x qual st f (PySem.W.fnOf x qual (qh st) (va st) (jt st) .none kV b pm an a ct):=⟨⟨oc,od,kV,b,pm,an,a,ct,d,rfl,l,c⟩,k⟩
end
def Vm(a:Room k A):A.units+1<cLine:=X8 (Nat.add_le_add_left (by decide:1<=64) _) a.units
def jbO(h:n<=1000):n<sizeLine:=X8 h (by decide)
def jgb{A B:Prop}(h:B):if false=true then A else B:=by
 exact h
def jf2{A B:Prop}(h:A):if true=true then A else B:=by
 exact h
def Qk(I:Nat->Shared->Prop)
  (turn:∀ n s,I n s->wpAny (model prog w) A (pyNext it) (λr s₁=>match r with
   | none=>R (.ok .next) s₁
   | some v=>wpAny (model prog w) A (letOwnedTupleGo target it v) (λ_ s₁'=>wpAny (model prog w) A (assign target env v) (λ_ s₂=>
     wpAny (model prog w) A (forIn ifs true λc r=>if r=true then do let ok <- isTrue c env (eval c env);pure (ForInStep.yield ok) else pure (ForInStep.yield r)) (λok s₃=>
      if ok=true then wpAny (model prog w) A (eval elt env) (λx s₄=>
       wpAny (model prog w) A (call (.builtin "list.append") [acc,x]) (λ_ s₅=>∃ m,m<n/\I m s₅) (λ_ _=>False) s₄) (λ_ _=>False) s₃
      else ∃ m,m<n/\I m s₃) (λ_ _=>False) s₂) (λ_ _=>False) s₁') (λ_ _=>False) s₁) (λ_ _=>False) s)
  (n:Nat) (h:I n s):
  codeAny (model prog w) A (.compLoop (.ListComp elt [⟨target,iter,ifs,0⟩] scope pos) 0 it acc env) R s:=by
 have up:∀{α}{t}{Q:α->Shared->Prop}{E:J0}{s},wpAny (model prog w) A t Q (λ_ _=>False) s->wpAny (model prog w) A t Q E s:=
  λh=>wpAny_mono h (λ_ _ x=>x) λ_ _ z=>z.elim
 refine codeAny_loop rfl I (λn s e=>(wpAny_noted<|L3<|wpAny_standAt<|L3<|thn (up<|turn n s e) λr s₁ b=>?_)) n h;cases r with
 | none=>exact M6 b
 | some v=>
  refine L3<|thn (up b) λ_ s₁' a=>L3<|thn (up a) λ_ s₂ f=>L3<|thn (up f) λok s₃ d=>?_;cases ok with
  | false=>exact M6 ⟨rfl,d⟩
  | true=>
   exact L3<|L3<|thn (up d) λx s₄ g=>L3<|thn (up g) λ_ s₅ i=>M6<|M6 ⟨rfl,i⟩
noncomputable def jdU(env:Env):List (Str×NameKind)->List (Str×Addr)->List (Str×Addr)
 | [],cs=>cs
 | (n,k)::r,cs=>jdU env r (if k==NameKind.free then(match env.cells.lookup n with | some a=>(n,a)::cs | none=>cs) else cs)
def xb(scope:Scope)(env:Env):List (Str×Addr):=jdU env scope.names []
theorem jjk:∀ l cs,(∀ n k,(n,k)∈l->k=NameKind.free->∃ c,env.cells.lookup n=some c) ->
  (forIn (m:=Sem) l cs λx r=>match x with | (n,k)=>if k==NameKind.free then do let a <- cellOf env n;pure (ForInStep.yield<|(n,a)::r) else pure (ForInStep.yield r))=pure (jdU env l cs)
 | [],cs,_=>rfl
 | (n,k)::r,cs,h=>by
  rw[List.forIn_cons];by_cases b:(k==NameKind.free)=true
  ·obtain⟨c,j⟩:=h n k L7 ∅;have o:cellOf env n=pure c:=by unfold cellOf;rw[j]
   have d:=jjk r ((n,c)::cs) λe f g i=>h e f (L6 _ g) i;simp only[b,if_true,o,pure_bind];rw[d]
   conv=>rhs;unfold jdU
   simp only[b,if_true,j]
  ·have d:=jjk r cs λe f g i=>h e f (L6 _ g) i;simp only[b,if_false,pure_bind,Bool.false_eq_true];rw[d]
   conv=>rhs;unfold jdU
   simp only[b,if_false,Bool.false_eq_true]
def uN(h:∀ n k,(n,k)∈scope.names->k=NameKind.free->∃ c,env.cells.lookup n=some c):closureFor scope env=pure (xb scope env):=by
 unfold closureFor xb;show(forIn scope.names [] λx r=>match x with | (n,k)=>if k==NameKind.free then do let a <- cellOf env n;pure (ForInStep.yield<|(n,a)::r) else pure (ForInStep.yield r)) >>= (pure)=_;rw[jjk scope.names [] h,pure_bind]
theorem jgo:∀ l cs,(x,c)∈jdU env l cs->(x,c)∈cs\/env.cells.lookup x=some c
 | [],_,h=>.inl h
 | (n,k)::r,cs,h=>by
  rcases jgo r _ h with z | z
  ·grind
  ·lia
theorem jcc:∀ l cs,(x,c)∈cs->(x,c)∈jdU env l cs
 | [],_,h=>h
 | (n,k)::r,cs,h=>by
  refine jcc r _ ?_;split
  ·split
   ·exact L6 _ h
   ·exact h
  ·exact h
theorem jgi(a:env.cells.lookup x=some c):∀ l cs,(x,NameKind.free)∈l->(x,c)∈jdU env l cs
 | [],_,h=>nomatch h
 | (n,k)::r,cs,h=>by
  rcases M4.mp h with e | e
  ·cases e;refine jcc r _ ?_;simp only[ a];exact L7
  ·exact jgi a r _ e
theorem Jq:∀{l:List (Str×β)}{c},(x,c)∈l->∃ d,l.lookup x=some d
 | (n,a)::r,c,h=>by
  rw[List.lookup_cons];cases e:x==n with
  | true=>exact⟨a,rfl⟩
  | false=>
   rcases M4.mp h with z | z
   ·lia
   ·exact Jq z
def Yx(h:(xb scope env).lookup x=some c):env.cells.lookup x=some c:=by
 rcases jgo scope.names [] (PySem.mem_of_lookup h) with z | z
 ·exact nomatch z
 ·exact z
def jbx(a:env.cells.lookup x=some c)(f:(x,NameKind.free)∈scope.names):(xb scope env).lookup x=some c:=by
 obtain⟨d,e⟩:=Jq<|jgi a scope.names [] f;have b:(xb scope env).lookup x=some d:=e;rw[b,<- Yx b,a]
def Jd(h:(n,k)∈(relabel scope env).names):(n,k)∈scope.names\/(k=.cell/\(n,NameKind.free)∈scope.names):=by
 obtain⟨⟨a,b⟩,c,e⟩:=M5.mp h;dsimp only at e;split at e
 ·lia
 ·lia
def vS(scope:Scope)(env:Env)(C:Addr):List (Str×Addr):=cellsFrom (C+1) scope.names<|xb scope env
theorem jcl:∀{names}{n:Nat}{acc:List (Str×Addr)},(∀ x y c,acc.lookup x=some c->acc.lookup y=some c->x=y)->(∀ x c,acc.lookup x=some c->c<n)->∀ x y c,(cellsFrom n names acc).lookup x=some c->(cellsFrom n names acc).lookup y=some c->x=y
 | [],n,acc,h,_=>h
 | (a,k)::r,n,acc,h,b=>by
  unfold cellsFrom;split
  ·refine jcl (λx y c d e=>?_)<|λx c d=>?_
   ·grind
   ·grind
  ·exact jcl h b
def jjZ(h:∀ x y c,(xb scope env).lookup x=some c->(xb scope env).lookup y=some c->x=y)(a:∀ x c,(xb scope env).lookup x=some c->c<C+1)(x y)(c)(h1:(vS scope env C).lookup x=some c)(h2:(vS scope env C).lookup y=some c):x=y:=jcl h a x y c h1 h2
theorem xg:∀{names}{n}{acc},(∃ c,acc.lookup x=some c)->∃ c,(cellsFrom n names acc).lookup x=some c
 | [],_,_,h=>h
 | (a,k)::r,n,acc,h=>by
  unfold cellsFrom;split
  ·refine xg ?_;rw[List.lookup_cons];cases x==a with
   | true=>exact⟨n,rfl⟩
   | false=>exact h
  ·exact xg h
theorem jdo:∀{names}{n}{acc},(x,NameKind.cell)∈names->∃ c,(cellsFrom n names acc).lookup x=some c
 | [],_,_,h=>nomatch h
 | (a,k)::r,n,acc,h=>by
  unfold cellsFrom;rcases M4.mp h with e | e
  ·cases e;refine xg ⟨n,?_⟩;rw[List.lookup_cons,beq_self_eq_true]
  ·split
   ·exact jdo e
   ·exact jdo e
def jmA(h:(x,NameKind.cell)∈scope.names):∃ c,(vS scope env C).lookup x=some c:=jdo h
theorem z6:∀{names}{n}{acc},(x,NameKind.cell)∉names->(cellsFrom n names acc).lookup x=acc.lookup x
 | [],_,_,_=>rfl
 | (a,k)::r,n,acc,h=>by
  unfold cellsFrom;split
  ·rename_i b;have b:=eq_of_beq b;subst b;rw[z6 λz=>h<|L6 _ z,List.lookup_cons];have:(x==a)=false:=U1.mpr λz=>h (by rw[z];exact L7);rw[this]
  ·exact z6 λz=>h<|L6 _ z
theorem xX:∀ names (h:Heap) acc x c,(cellsFrom h.objs.size names acc).lookup x=some c->(h.objs.size<=c/\(pushCells h names).IsCell c none)\/acc.lookup x=some c
 | [],_,_,_,_,e=>.inr e
 | (a,k)::r,h,acc,x,c,e=>by
  unfold cellsFrom at e;unfold pushCells;split at e
  ·rename_i b;rw[if_pos b];rcases xX r (h.push {cls:=.type "cell",data:=.cell none}) ((a,h.objs.size)::acc) x c (by rw[Heap.size_push];exact e) with q | q
   ·rw[Heap.size_push] at q;exact .inl ⟨Nat.le_of_succ_le q.1,q.2⟩
   ·rw[List.lookup_cons] at q;cases e1:x==a with
    | true=>
     rw[e1] at q;cases q;exact .inl ⟨M8 _,⟨_,pushCells_keeps r _ _ _<|X7 _ rfl,rfl⟩⟩
    | false=>rw[e1] at q;exact .inr q
  ·rename_i b;rw[if_neg b];exact xX r h acc x c e
theorem VB:∀ l cs,(x,c)∈jdU env l cs->(x,c)∈cs\/(x,NameKind.free)∈l
 | [],_,h=>.inl h
 | (n,k)::r,cs,h=>by
  rcases VB r _ h with z | z
  ·grind
  ·exact .inr<|L6 _ z
def jds(h:(xb scope env).lookup x=some c):(x,NameKind.free)∈scope.names:=by
 rcases VB scope.names [] (PySem.mem_of_lookup h) with z | z
 ·exact nomatch z
 ·exact z
def Ko 
  (h:Q (newEnv scope ↥s globals (cellsFrom (↥s+1) scope.names cl) qual none .none (some env) builtinsNs) { s with heap:=pushCells (s.heap.push {cls:=.type "dict",data:=.dict #[]}) scope.names }):
  wpAny M A (newFunctionEnv scope globals cl [] qual none .none<|some env) Q E s:=by
 simp only[newFunctionEnv,Option.isSome_some];refine L3<|wpAny_alloc ?_;refine L3<|wpAny_layCells _ (λnm kd cs=>by cases hq:kd==NameKind.cell<;>simp[hq]) _ _ _ _ ?_;rw[Heap.size_push ..];exact L3<|M6<|M6 h
def jX(X:Cx)(scope:Scope)(N':List Str)(C:Addr)(s₃:Shared)(H₃:Hp)(fp:W5):Cx:=
 {X with N:=N',s₀:=s₃,H₀:=H₃,env:=compEnvC scope (vS scope X.env C) C X.env,outer:=X.stack,stack:=X.stack,ex:=fp,fn:=λx=>scope.names.lookup x==some NameKind.cell,pn:=[],xe:=λ_ _=>False}
structure BlockOk(X:Cx)(scope:Scope)(N':List Str)(ix:List<|Option Nat):Prop where
 kind:scope.kind=.function
 names:∀ y∈scope.names,y.2=.local->scope.names.lookup y.1=some .local
 cells:∀ y∈scope.names,y.2=.cell->scope.names.lookup y.1=some .cell
 uniq:∀ y∈scope.names,y.2=.free->scope.names.lookup y.1=some .free
 outer:∀ y∈scope.names,y.2=.free->X.env.kindOf y.1=some .cell\/X.env.kindOf y.1=some .free
 nd:N'.Nodup
 len:ix.length=N'.length
 at_:∀(i j:Nat) (x:Str),ix[i]?=some (some j)->N'[i]?=some x->X.N[j]?=some x/\(x,NameKind.free)∈scope.names
 func:X.env.scope.kind=.function
def BlockOk.free(B:BlockOk X scope N' ix)  (h:(x,NameKind.free)∈scope.names):(vS scope X.env C).lookup x=(xb scope X.env).lookup x:=
 z6 λz=>by
  have a:=B.cells _ z rfl;rw[B.uniq _ h rfl] at a;cases a
noncomputable def vi(ix:List<|Option Nat)(σ:St):St:=ix.map λo=>o.bind λj=>(σ[j]?).join
abbrev BW:=Nat->Nat->St->Hp->Prop
def uG(tc:TT)(te:TE)(g:TG)(J:It)(p:Addr)(σ':St)(H1:Hp)(Q:Hp->Prop):Prop:=
 ∃ W:BW,(∃ m,W 0 m σ' H1)/\∀ i m σ2 H2,W i m σ2 H2->(J.stop i H2/\Q H2) \/
  (J.go i H2/\∀ x H3,J.yld i H2 x H3->g x σ2 H3 λσ4 H4=>tc σ4 H4 λb H5=>if b=true then
   te σ4 H5 λy H6=>∃ ys,H6 p=some (.lst ys)/\ys.length<sizeLine/\∃ m',m'<m/\W (i+1) m' σ4 (upd H6 p<|.lst<|ys++[y])
   else ∃ m',m'<m/\W (i+1) m' σ4 H5)
def KZ(wi:TI)(g:TG)(tc:TT)(te:TE)(ix:List<|Option Nat):TE:=λσ H Q=>wi σ H λJ H1=>∀ p,H1 p=none->uG tc te g J p (vi ix σ) (upd H1 p<|.lst []) λH2=>Q (.ref p) H2
def PIf(X:Cx)(ifs:List Expr)(tc:TT):Prop:=(ifs=[]/\tc=λ_ H Q=>Q true H) \/ ∃ c,ifs=[c]/\PT X c tc
def ja4(B:BlockOk X scope N' ix)(I:Inv X pins σ H s)(n:∀ b∈fp,wg X pins H b)(w:∀ b∈fp,b < ↥s)
  (G:h₁.Ns ↥s (λ_=>none)) (F:∀ b o,s.heap.get? b=some o->h₁.get? b=some o)
  (g:∀ x c,(vS scope X.env ↥s).lookup x=some c->(↥s+1<=c/\h₁.IsCell c none)\/(xb scope X.env).lookup x=some c):
  Inv (jX X scope N' ↥s s H fp) [] (vi ix σ) H {s with heap:=h₁,toks:=t}:=by
 have d:∀ x c,(xb scope X.env).lookup x=some c->X.env.cells.lookup x=some c:=λx c e=>Yx e;have J:∀ x c,X.env.cells.lookup x=some c->c < ↥s:=λx c e=>by
  obtain⟨v,o,A,_⟩:=I.cell x c e;exact N0 A
 refine⟨⟨I.ok.mod,B.kind,I.ok.glob,I.ok.blt,M8 _,jjZ (λx y c C D=>I.ok.inj x y c (d x c C)<|d y c D)<|λx c e=>Nat.lt_succ_of_lt<|J x c<|d x c e,λx K=>?_,(λx c C D=>?_),I.ok.hd,I.ok.frames,.inl rfl,λb h=>⟨N5<|w b h,λx c e=>?_⟩,
  I.bs,N6 I.ok.bsz I.sz,λb o e h=>?_,λb h z=>?_,I.stack,I.stkFree⟩,rfl,I.bare,Un.kept F,⟨_,G,λi x v C D Q=>?_⟩,λx c e=>?_,I.hok.fresh<|M8 _,λx c e=>?_,(λp R=>nomatch (R)),I.hok.kept F,?_⟩
 ·have L:=K;have f:(x,NameKind.free)∈scope.names\/(x,NameKind.cell)∈scope.names:=by
   rcases L with q | q
   ·rcases Jd (PySem.mem_of_lookup q) with z | z
    ·lia
    ·lia
   ·rcases Jd (PySem.mem_of_lookup q) with z | z
    ·lia
    ·lia
  rcases f with f | f
  ·obtain⟨c,M⟩:=I.ok.has x<|B.outer _ f rfl;exact⟨c,by show(vS scope X.env ↥s).lookup x=some c;rw[B.free f];exact jbx M f⟩
  ·exact jmA f
 ·-- the block's own cells are new
  have K:=C;rcases g x c D with⟨q,_⟩ | q
  ·exact Nat.le_of_succ_le q
  ·exfalso;have n:=jds q;have E:=B.uniq _ n rfl;rw[eq_of_beq K] at E;cases E
 ·rcases g x c e with⟨q,_⟩ | q
  ·exact Nat.ne_of_gt<|U3 (w b h)<|Nat.le_of_succ_le q
  ·exact(n b h).2.2.2.2.1 x c (d x c q)
 ·rcases(n b h).2.2.2.1 with z | z
  ·exact I.ok.noex b o e z
  ·exact absurd (U3 (N0 e)<|N6 I.ok.bsz z)<|Nat.lt_irrefl _
 ·rcases M4.mp (I.stkSub b z) with q | q
  ·exact(n b h).2.1 q
  ·exact(n b h).2.2.1 q
 ·have a:=D;unfold vi at a;rw[List.getElem?_map] at a;cases e:ix[i]? with
  | none=>rw[e] at a;cases a
  | some o=>
   rw[e] at a;cases o with
   | none=>cases a
   | some j=>
    have O:(σ[j]?).join=some v:=X3 a;have S:σ[j]?=some (some v):=by grind
    obtain⟨T,f⟩:=B.at_ i j x e C;have N:=B.outer _ f rfl;obtain⟨m,V,U⟩:=I.loc;obtain⟨u,r,l⟩:=U j x v T S<|N.elim (λz=>.inr<|.inl z) λz=>.inr<|.inr z;refine⟨u,r,.inr ?_⟩;rcases l with⟨k,_⟩ | ⟨_,c,M,z⟩
    ·lia
    ·refine⟨?_,c,by show(vS scope X.env ↥s).lookup x=some c;rw[B.free f];exact jbx M f,?_⟩
     ·rcases Q with y | y | y
      ·have:=PySem.mem_of_lookup y;rcases Jd this with P | P
       ·have E:=B.names _ P rfl;rw[B.uniq _ f rfl] at E;cases E
       ·lia
      ·exact .inl y
      ·exact .inr y
     ·obtain⟨o,A,hd⟩:=z;exact⟨o,F c o A,hd⟩
 ·rcases g x c e with⟨_,q⟩ | q
  ·exact⟨none,q⟩
  ·obtain⟨v,o,A,hd⟩:=I.cell x c<|d x c q;exact⟨v,o,F c o A,hd⟩
 ·rcases g x c e with⟨q,_⟩ | q
  ·exact I.hok.fresh<|Nat.le_of_succ_le q
  ·exact I.freeC x c<|d x c q
 ·show(vi ix σ).length=N'.length;unfold vi;rw[L1,B.len]
def Inv.other(I:Inv X pins σ H s)(f:wg X pins H C)(a:Heap.SameBut C s.heap h'):Inv X pins σ H {s with heap:=h'}:=
 I.turned (a.extBut) f.1 f.2.1 f.2.2.2.1 f.2.2.2.2.1 f.2.2.2.2.2
def Jw{X:Cx}{ifs:List Expr}{N':List Str}{ix:List (Option Nat)}{pins:List (Addr×Obj)}{s:Shared}{Q:Addr->Hp->Prop}{E:Option (Value->Sem Unit)}{QQ:J0}(B:BlockOk X scope N' ix)(hc:X.calm=true)(hi:PI X tg iter wi)
  (hg:∀ C s H fp,PG (jX X scope N' C s H fp) tg g) (hif:∀ C s H fp,PIf (jX X scope N' C s H fp) ifs tc) (he:∀ C s H fp,PE (jX X scope N' C s H fp) elt te)
  (hs:∀ x,foldedSetIterable iter X.env x=pure x) (I:Inv X pins σ H s)
  (h:wi σ H λJ H1=>∀ p,H1 p=none->uG tc te g J p (vi ix σ) (upd H1 p<|.lst []) (Q p))
  (hend:∀ p C s' H',Q p H'->Inv X pins σ H' s'->wg X pins H' C->(∃ m,s'.heap.Ns C m)->compPost (model X.prog X.w) X.A X.xe E QQ (.ref p) C (.ok .next) s'):
  wpAny (model X.prog X.w) X.A (comprehension (.ListComp elt [⟨tg,iter,ifs,0⟩] scope pos) scope X.env pos' (newList []) false (eval iter X.env) E) QQ X.xe s:=by
 refine wpAny_comprehension_free rfl hs (uN λn k hm hk=>I.ok.has n<|B.outer _ hm hk) B.kind B.names<|thn (hi pins s σ H _ I h) λv s1 h1=>thn h1 λitv s2 h2=>?_;obtain⟨it,fp,tn,J,M,rfl,I2,T,Y,f2,h2⟩:=h2;refine wpAny_newObj_type<|Ko ?_;dsimp only;have I3:Inv X pins σ (upd M ↥s2 (.lst [])) { s2 with heap:=s2.heap.push {cls:=.type "list",data:=.seq ([]:List Value).toArray} }:=I2.lnew .nil<|U4 _;generalize hs3:({ s2 with heap:=s2.heap.push {cls:=.type "list",data:=.seq ([]:List Value).toArray} }:Shared)=s3 at I3;have e3:s3.heap=s2.heap.push {cls:=.type "list",data:=.seq ([]:List Value).toArray}:=by lia
 have hk3:∀ b o,s2.heap.get? b=some o->s3.heap.get? b=some o:=λb o e=>by rw[e3];exact L8 _ e
 have Z:∀ b∈fp,b < ↥s3:=λb a=>by
  obtain⟨o,e,_⟩:=T.obj _ _ Y b a;exact N0<|hk3 b o e
 have nep:∀ b∈fp,b≠↥s2:=λb a z=>by
  obtain⟨o,e,_⟩:=T.obj _ _ Y b a;exact absurd (N0 e) ∅
 have N:∀ b∈fp,wg X pins (upd M ↥s2 (.lst [])) b:=λb a=>⟨by rw[je<|nep b a];exact(f2 b a).1,(f2 b a).2⟩;have hh₁:∃ O,O=pushCells (s3.heap.push {cls:=.type "dict",data:=.dict #[]}) scope.names:=⟨_,rfl⟩;obtain⟨O,P⟩:=hh₁;rw[<- e3,<- P];have hk4:∀ b o,s3.heap.get? b=some o->O.get? b=some o:=λb o e=>by
  rw[P];exact pushCells_keeps _ _ b o<|L8 _ e
 have hns4:O.Ns ↥s3 (λ_=>none):=by
  rw[P];exact(Heap.Ns.new s3.heap<|.type "dict").keeps (pushCells_keeps _ _)
 have R:∀ x c,(vS scope X.env ↥s3).lookup x=some c->(↥s3+1<=c/\O.IsCell c none)\/(xb scope X.env).lookup x=some c:=λx c e=>by
  have q:=xX scope.names (s3.heap.push {cls:=.type "dict",data:=.dict #[]}) (xb scope X.env) x c (by rw[Heap.size_push];exact e);rw[Heap.size_push,<- P] at q;exact q
 have I4:Inv (jX X scope N' ↥s3 s3 (upd M ↥s2 (.lst [])) fp) [] (vi ix σ) (upd M ↥s2 (.lst [])) {s3 with heap:=O,toks:=s2.toks}:=ja4 B I3 N Z hns4 hk4 R;have st4:tn 0 O:=T.keep _ _ _ Y λb a o e=>hk4 b o<|hk3 b o e;obtain⟨W,⟨m0,w0⟩,turn⟩:=h2 _ I2.fresh;have hg':=hg ↥s3 s3 (upd M ↥s2 (.lst [])) fp;have S:=hif ↥s3 s3 (upd M ↥s2 (.lst [])) fp;have he':=he ↥s3 s3 (upd M ↥s2 (.lst [])) fp;generalize f:jX X scope N' ↥s3 s3 (upd M ↥s2 (.lst [])) fp=X' at I4 hg' S he';have eP:X'.prog=X.prog:=by rw[<- f];rfl
 have eW:X'.w=X.w:=by rw[<- f];rfl
 have eK:X'.K=X.K:=by rw[<- f];rfl
 have eA:X'.A=X.A:=by rw[<- f];rfl
 have eC:X'.calm=true:=by rw[<- f];exact hc
 have eE:X'.env=compEnvC scope (vS scope X.env ↥s3) ↥s3 X.env:=by rw[<- f];rfl
 have eX:X'.xe=λ_ _=>False:=by rw[<- f];rfl
 have F:∀{H':Hp},(∀ b∈fp,H' b=none)->∀ b∈fp,wg X' [] H' b:=λhn b a=>by
  refine⟨hn b a,?_,?_,?_,?_,?_⟩
  ·rw[eE];exact N5<|Z b a
  ·rw[<- f];intro z;rcases M4.mp (I3.stkSub b z) with q | q
   ·exact(N b a).2.1 q
   ·exact(N b a).2.2.1 q
  ·rw[<- f];exact .inl a
  ·rw[eE];intro x c e;rcases R x c e with⟨q,_⟩ | q
   ·exact Nat.ne_of_gt<|U3 (Z b a)<|Nat.le_of_succ_le q
   ·exact(N b a).2.2.2.2.1 x c (Yx q)
  ·rw[<- f];exact(λp hp=>nomatch (hp))
 have fin:∀{j:St}{H':Hp}{s':Shared},Inv X' [] j H' s'->Q ↥s2 H'->compPost (model X.prog X.w) X.A X.xe E QQ (.ref ↥s2) ↥s3 (.ok .next) s':=λ{j H' s'} J q=>by
  have hL:X'.env.locals=↥s3:=by rw[eE];rfl
  have un:Un (frs X.stack) fp (upd M ↥s2 (.lst [])) H' s3.heap s'.heap:=by
   have z:=J.base;rw[<- f] at z;exact z
  have hos:s'.os=s3.os:=by
   have z:=J.os;rw[<- f] at z;exact z
  have hok:HOk X.prog X.w H' s'.heap:=by
   have z:=J.hok;rw[eP,eW] at z;exact z
  have fc:H' ↥s3=none:=by
   have z:=J.free;rw[hL] at z;exact z
  have I5:Inv X pins σ H' s':=by
   obtain⟨hh,gg,dd,tt,oo⟩:=s';obtain rfl:oo=s3.os:=hos;exact I3.call un hok J.bare λb a=>⟨(N b a).2.2.2.1,(N b a).2.1,(N b a).2.2.2.2.1,(N b a).2.2.2.2.2⟩
  obtain⟨m,hn,_⟩:=J.loc;rw[hL] at hn;exact hend _ _ s' H' q I5 (I3.fpOk (M8 _) fc) ⟨m,hn⟩
 have loop:∀ s',s'=({s3 with heap:=O,toks:=s2.toks}:Shared)->codeAny (model X.prog X.w) X.A (.compLoop (.ListComp elt [⟨tg,iter,ifs,0⟩] scope pos) 0 (.ref it) (.ref ↥s2) X'.env) (compPost (model X.prog X.w) X.A X.xe E QQ (.ref ↥s2) ↥s3) s':=by
  rintro s' rfl;refine Qk (λn s'=>∃ i j H',Inv X' [] j H' s'/\tn i s'.heap/\(∀ b∈fp,H' b=none)/\W i n j H') ?_ m0 ⟨0,_,_,I4,st4,λb a=>(N b a).1,w0⟩;rintro n s5 ⟨i,σ5,H5,I5,st5,fr5,w5⟩;have it5:=T.item X' eP eW eK eC i [] s5 σ5 H5 (λ_ _=>False) I5 (F fr5) st5;have dn5:=T.done X' eP eW eK eC i [] s5 σ5 H5 (λ_ _=>False) I5 (F fr5) st5;rw[eA] at it5 dn5;rcases turn i n σ5 H5 w5 with⟨stop,qn⟩ | ⟨go,step⟩
  ·refine thn (dn5 stop) λr s6 ⟨hr,I6⟩=>?_;subst hr;exact fin I6 qn
  ·refine thn (it5 go) λr s6 ⟨u,hr,h6⟩=>?_;subst hr;refine thn h6 λ_ s7 hh=>?_;obtain⟨x,H7,I7,r7,y7,st7,fr7⟩:=hh;have a7:=hg' _ s7 σ5 H7 x u _ (I7.pinned (F fr7)<|T.obj _ _ st7) r7<|step x H7 y7;rw[eP,eW,eA,eX] at a7;refine thn a7 λ_ s8 hh=>?_;obtain⟨G,H8,I8,q8⟩:=hh;have L:∀{l:Shared}{D:Hp},Inv X' ([]++VE fp s7.heap) G D l->(∃ t,t<n/\W (i+1) t G D)->∃ m,m<n/\∃ i j H',Inv X' [] j H' l/\tn i l.heap/\(∀ b∈fp,H' b=none)/\W i m j H':=λ{l D} U ⟨t,hm,w9⟩=>by
    refine⟨t,hm,i+1,G,D,U.unpinned,T.keep _ _ _ st7 λb a o e=>(U.pin (b,o)<|U2 _<|U2 _<|kg a e).1,λb a=>?_,w9⟩;obtain⟨o,e,d⟩:=T.obj _ _ st7 b a;exact(U.pin (b,o)<|U2 _<|U2 _<|kg a e).2.1
   have rest:∀(b:Bool) (l:Shared) (D:Hp),Inv X' ([]++VE fp s7.heap) G D l->(if b=true then te G D λy H6=>∃ ys,H6 ↥s2=some (.lst ys)/\ys.length<sizeLine/\∃ t,t<n/\W (i+1) t G (upd H6 ↥s2 (.lst<|ys++[y]))
     else ∃ t,t<n/\W (i+1) t G D) ->
     if b=true then wpAny (model X.prog X.w) X.A (eval elt X'.env) (λx s₄=>wpAny (model X.prog X.w) X.A (call (.builtin "list.append") [.ref ↥s2,x]) (λ_ s₅=>∃ m,m<n/\∃ i j H',Inv X' [] j H' s₅/\tn i s₅.heap/\(∀ b∈fp,H' b=none)/\W i m j H') (λ_ _=>False) s₄) (λ_ _=>False) l
     else ∃ m,m<n/\∃ i j H',Inv X' [] j H' l/\tn i l.heap/\(∀ b∈fp,H' b=none)/\W i m j H':=λb l D U q9=>by
    cases b with
    | false=>
     exact L U q9
    | true=>
     have a9:=he' _ l G D _ U q9;rw[eP,eW,eA,eX] at a9;refine thn a9 λyv s10 hh=>?_;obtain⟨y,H10,I10,r10,ys,e10,l10,q10⟩:=hh;have a10:=YB _ s10 G H10 (.ref ↥s2) [y] (.ref ↥s2) [yv] (λ_ H'=>∃ t,t<n/\W (i+1) t G H') I10 rfl (.cons r10 .nil) ⟨_,ys,y,rfl,rfl,e10,l10,q10⟩;rw[eP,eW,eA,eX] at a10;exact thn a10 λ_ s11 ⟨_,H11,I11,_,q11⟩=>L I11 q11
   rcases S with⟨e1,e2⟩ | ⟨c,e1,e2⟩
   ·subst e1;rw[e2] at q8;exact wpAny_tests_nil<|rest true s8 H8 I8 q8
   ·subst e1;have a8:=e2 _ s8 G H8 _ I8 q8;rw[eP,eW,eA,eX] at a8;exact wpAny_tests_one<|thn a8 λb l ⟨D,U,q9⟩=>rest b l D U q9
 have V:codeAny (model X.prog X.w) X.A (.compStart (.ListComp elt [⟨tg,iter,ifs,0⟩] scope pos) 0 (.ref it) (.ref ↥s2) X'.env) (compPost (model X.prog X.w) X.A X.xe E QQ (.ref ↥s2) ↥s3) {s3 with heap:=O,toks:=s2.toks}:=
  codeAny_compStart_list (loop _ rfl) (T.self _ 0 _ _ _ st4<|loop _ rfl)
 rw[eE] at V;subst hs3;exact V
def xl(B:BlockOk X scope N' ix)(c:X.calm=true)(hi:PI X tg iter wi)
  (d:∀ C s H fp,PG (jX X scope N' C s H fp) tg g) (a:∀ C s H fp,PIf (jX X scope N' C s H fp) ifs tc) (e:∀ C s H fp,PE (jX X scope N' C s H fp) elt te)
  (i:∀ x,foldedSetIterable iter X.env x=pure x:=by intro _;rfl):PE X (.ListComp elt [⟨tg,iter,ifs,0⟩] scope pos) (KZ wi g tc te ix):=by
 intro b s σ H Q I h;exact Jw B c hi d a e i I h λp C o j q k f ⟨m,l⟩=>⟨m,l,λr n=>⟨.ref p,j,k.other f n,rfl,q⟩⟩
def jaG(B:BlockOk X scope N' ix)(y:X.calm=true)(hi:PI X tg iter wi)
  (A:∀ C s H fp,PG (jX X scope N' C s H fp) tg g) (b:∀ C s H fp,PIf (jX X scope N' C s H fp) ifs tc) (E:∀ C s H fp,PE (jX X scope N' C s H fp) elt te)
  (F:X.N.Nodup) (c:X.N[i]?=some x) (G:Loc X.env.scope x)
  (hsw:swapsWith (.ListComp elt [⟨tg,iter,ifs,0⟩] scope pos) (some<|.Name x pos') spos.line X.env=pure true)
  (J:∀ x,foldedSetIterable iter X.env x=pure x:=by intro _;rfl)
  (K:X.fn x=true\/X.env.scope.names.lookup x=some .local:=by first | exact .inl rfl | exact .inr rfl | assumption):
  PS X (.Assign [.Name x pos'] (.ListComp elt [⟨tg,iter,ifs,0⟩] scope pos) spos) (jfM (KZ wi g tc te ix)<|vy i):=by
 intro a s σ H D I h;rw[exec_Assign_Name_used _ _ _ _ hsw];refine L3<|wpAny_standAt<|L3<|L3<|thn (Jw B y hi A b E J I h λp C k l q n f ⟨m,L⟩=>?_) λ_ k M=>M6<|M6 M;obtain⟨o,O,P,Q,r⟩:=id L;have hd:∀ v,o.data≠.cell v:=λv z=>by
  obtain⟨d,_⟩:=r;rw[d] at z;cases z
 have R:Inv X (a++[(C,o)]) σ l k:=n.pins_of λt j=>by
  rcases N1.mp j with z | z
  ·exact n.pin t<|U2 _ z
  ·have e:t=(C,o):=by simpa using z
   subst e;exact⟨Q,f.1,f.2.1,f.2.2.1,hd⟩
 refine wpAny_assign_Name<|Yq R F c G (v:=.ref p) rfl (λs2 u=>?_) K;have w:=u.pin (C,o)<|U2 _<|U2 _<|M7.mpr rfl;refine⟨m,⟨o,O,P,w.1,r⟩,λT S=>⟨_,l,(u.unpinned).other ⟨w.2.1,f.2⟩ S,q⟩⟩
noncomputable def S(l:List Nat):Str:=⟨l.toArray⟩
def qM(l):(S l).cps.toList=l:=by simp[S]
def YG(l):(S l).length=l.length:=by simp[S,Str.length]
def jbl(h:S a=S b):a=b:=by
 rw[<- qM a,<- qM b,h]
def jn5(a b):(S a=S b)=(a=b):=propext ⟨jbl,λh=>by rw[h]⟩
def joM(a b):S a++S b=S (a++b):=by
 apply PyProof.Rows.ext_toList;rw[PySem.W.KT.app_list,qM,qM,qM]
def jl2(c):(⟨#[c]⟩:Str)=S [c]:=rfl
def yd{α:Type}(xs:List α)(lo hi:Option Int):List α:=(xs.drop<|HT.sIx xs.length 0 lo).take (HT.sIx xs.length xs.length hi-HT.sIx xs.length 0 lo)
def jhH(xs:List α)(k:Nat):yd xs none (some (k:Int))=xs.take k:=by
 unfold yd;rw[HT.sIx_none,HT.sIx_nat];simp[List.take_eq_take_iff]
def jcn(lo hi)(n):Builtin.Str.strSliceIndices lo hi 1 n=(List.range<|HT.sIx n n hi-HT.sIx n 0 lo).map (HT.sIx n 0 lo+·):=by
 have a:∀ o d,(match o with | none=>d | some i=>(let i:=if i<0 then i+n else i;if 1>0 then max 0 (min i n) else max (-1) (min i<|n-1)))=((HT.sIx n d o:Nat):Int):=by
  intro o d;cases o with
  | none=>rfl
  | some v=>
   show(if 1>0 then max 0 (min (if v<0 then v+n else v) n) else _)=(((if v<0 then(v+n).toNat else min v.toNat n):Nat):Int);by_cases b:v<0
   ·lia
   ·lia
 rw[<- sliceRange_one,<- a lo 0,<- a hi n];rfl
def jh0(l)(lo hi):Txt.slice (S l) lo hi=S (yd l lo hi):=by
 have g:HT.sIx l.length l.length hi<=l.length:=HT.sIx_le _ _ (M8 _) _;have e:(Builtin.Str.strSliceIndices lo hi 1 (S l).length).filterMap ((S l).cps[·]?)=yd l lo hi:=by
  rw[YG,jcn];by_cases b:HT.sIx l.length 0 lo<=HT.sIx l.length l.length hi
  ·have c:=(StrLaws.picks l (HT.sIx l.length l.length hi-HT.sIx l.length 0 lo)<|HT.sIx l.length 0 lo) ∅;unfold yd;rw[<- c];simp[S]
  ·have z:HT.sIx l.length l.length hi-HT.sIx l.length 0 lo=0:=by lia
   unfold yd;rw[z];simp
 unfold Txt.slice;split
 ·rename_i h;have d:(Builtin.Str.strSliceIndices lo hi 1 (S l).length).length=(S l).length:=by lia
  rw[YG,jcn,L1,List.length_range] at d;unfold yd;by_cases a:l.length=0
  ·have:=List.length_eq_zero_iff.mp a;subst this;simp
  ·have f:HT.sIx l.length 0 lo=0:=by lia
   rw[f,List.drop_zero,List.take_of_length_le ∅]
 ·rw[e];rfl
def jo1:V->Option Int->Option Int->Hp->VK->Prop:=λx lo hi H Q=>∃ l,x=.str (S l)/\l.length<=sizeLine/\Q (.str<|S<|yd l lo hi) H
def jf7(p:IsPart v o):∃ q:Option (Int×Tok),v=partValue q/\q.map (·.1)=o:=by
 cases p with
 | none=>exact⟨none,rfl,rfl⟩
 | int i t=>exact⟨some (i,t),rfl,rfl⟩
def jmK:SlR X jo1:=by
 intro a s σ H x v n o lo hi p Q I e f pl g h;obtain⟨l,rfl,i,q⟩:=h;obtain⟨t,rfl⟩:=e;obtain⟨b,rfl,j⟩:=jf7 pl;obtain⟨c,rfl,m⟩:=jf7 g;refine⟨"str",_,F.slot_str_getitem.lookup,typeIs_str _ _ _,wpAny_getItem_str_slice (st:=none) f rfl ?_⟩;have key:∀ d k,EP X a σ Q (.str (Txt.slice (S l) lo hi) d) {s with toks:=k}:=λd k=>by
  rw[jh0 l lo hi];exact⟨.str<|S<|yd l lo hi,H,I.tok k,⟨d,rfl⟩,q⟩
 have e2:sliceMade (S l) t b c none=(if(1==1&&(Builtin.Str.strSliceIndices lo hi 1 (S l).length).length==(S l).length)=true then Made.val (.str (S l) t) else Made.str ⟨((Builtin.Str.strSliceIndices lo hi 1 (S l).length).filterMap ((S l).cps[·]?)).toArray⟩):=by
  unfold sliceMade slicePicked;rw[j,m];rfl
 rw[e2];refine post_val_or_str ⟨?_,key⟩;exact N6 (Txt.slice_le (S l) lo hi) (by rw[YG];exact i)
def Its(l:List Nat):It:=⟨λi _=>i<l.length,λi H x H'=>H'=H/\∃ c,l[i]?=some c/\x=.str (S [c]),λi _=>l.length<=i⟩
def jd8{tg}{P}{w}{K}(a)(l)(t)(ty)(j:ty = "str_ascii_iterator" \/ ty = "str_iterator")
  (W:∀ A:Around,A.handled=none->Walks P w A a [a] [a] (S l).cps.size (SignAt<|S l) (λi h=>h.IsStrIter a ty (S l) t i)):Turn P w K tg (Its l) [a] a (λi h=>h.IsStrIter a ty (S l) t i) where
 mem:=by simp
 obj:=λi h f b m=>by
  have e:b=a:=by simpa using m
  subst e;obtain⟨o,e,c,d⟩:=f;exact⟨o,e,λv z=>by rw[d] at z;cases z⟩
 keep:=λi h p f k=>by
  obtain⟨o,e,r⟩:=f;exact⟨o,k a (by simp) o e,r⟩
 item:=by
  intro X O Q R q i g s σ H E I x f G;obtain⟨y,B,T,C,D,F⟩:=x a (by simp);have J:(S l).cps.size=l.length:=by rfl
  refine(W X.A<|I.ok.hd q).item i s _ _ (by rw[J];exact G) f λv p U V n Y=>?_;obtain⟨c,u,L,rfl⟩:=V;have Z:Inv X g σ H {s with heap:=p,toks:=U}:=I.turned (λb o m e=>Y b o ⇑m e) y B C D F;obtain⟨o,e,ct,d⟩:=id n;refine⟨_,rfl,jeX e ct d (by rcases j with z | z<;>subst z<;>decide) ⟨.str<|S [c],H,Z,⟨u,rfl⟩,⟨rfl,c,by simpa [S] using L,rfl⟩,n,λb m=>(x b m).1⟩⟩
 done:=by
  intro X O Q R q i g s σ H E I x f G;obtain⟨y,B,T,C,D,F⟩:=x a (by simp);have N:(S l).cps[i]?=none:=by
   have:l.length<=i:=G;simp[S,this]
  rcases j with z | z
  ·subst z;exact wpAny_pyNext_ascii_end (I.ok.hd q) f N λp M=>⟨rfl,I.turned (M) y B C D F⟩
  ·subst z;exact wpAny_pyNext_wide_end (I.ok.hd q) f N λp M=>⟨rfl,I.turned (M) y B C D F⟩
 self:=λ_ _ _ _ _ f h=>by
  rcases j with z | z
  ·subst z;exact wpAny_pyIter_striter_ascii f h
  ·subst z;exact wpAny_pyIter_striter_wide f h
def jk9:OpR X (compareOp .In) (λx y H Q=>∃ c l,x=.str (S [c])/\y=.str (S l)/\Q (.bl<|decide<|c∈l) H):=by
 intro a s σ H x y v u Q I b d h;obtain⟨c,l,rfl,rfl,q⟩:=h;refine jb1 a s σ H _ _ v u Q I b d ⟨_,_,rfl,rfl,?_⟩;rw[<- jl2,StrLaws.found_one,qM];exact q
def jdH:OpR X (compareOp .NotIn) (λx y H Q=>∃ c l,x=.str (S [c])/\y=.str (S l)/\Q (.bl<|!decide (c∈l)) H):=by
 intro a s σ H x y v u Q I b d h;obtain⟨c,l,rfl,rfl,q⟩:=h;refine Qh a s σ H _ _ v u Q I b d ⟨_,_,rfl,rfl,?_⟩;rw[<- jl2,StrLaws.found_one,qM];exact q
def jg8:OpR X (binaryOp .Add) (λx y H Q=>∃ a b,x=.str (S a)/\y=.str (S b)/\a.length+b.length<=sizeLine/\Q (.str<|S<|a++b) H):=by
 intro c s σ H x y v u Q I d e h;obtain⟨a,b,rfl,rfl,f,q⟩:=h;refine uJ c s σ H _ _ v u Q I d e ⟨_,_,rfl,rfl,by rw[YG,YG];exact f,?_⟩;rw[joM];exact q
def jiu:OpR X (binaryOp .Mult) (rI (λi j=>Builtin.Int.intBits i<=2 ^ 20/\Builtin.Int.intBits j<=2 ^ 20) λi j=>.int<|i*j):=opI λ_ _ _ _ _ _ _ a q=>mul_int q<|IntMulOk.of_bits a.1 a.2
def jaJ(h:i.natAbs<2 ^ m)(a:m<=2 ^ 20):Builtin.Int.intBits i<=2 ^ 20:=N6 (PySem.intBits_le_iff.mpr h) a
def zO{A}{bs:List Bool}{its}(r:Vals (bs.map V.bl) its):TruthOf P w A (λi v=>its.toArray[i]?=some v) (λi=>bs.getD i false):=by
 intro i v s Q E c d;have a:its[i]?=some v:=by simpa using c
 have hi:=(L9.mp a).1;have e:=r.length;rw[L1] at e;have f:(bs.map V.bl)[i]?=some (V.bl<|bs.getD i false):=by grind
 obtain⟨u,b,g⟩:=r.get f;rw[a] at b;cases b;cases g;exact M6 d
def jbK:∀(bs:List Bool),(List.range bs.length).all (λi=>bs.getD i false)=bs.all (λb=>b):=by
 intro bs;rw[Bool.eq_iff_iff,List.all_eq_true,List.all_eq_true];constructor
 ·intro h b c;obtain⟨i,hi,e⟩:=List.mem_iff_getElem.mp c;have:=h i<|List.mem_range.mpr hi;rw[List.getD_eq_getElem?_getD,X5 hi,e] at this;exact this
 ·intro h i hi;have a:=List.mem_range.mp hi;rw[List.getD_eq_getElem?_getD,X5 a];exact h _<|List.getElem_mem a
def jer(j:X.calm=true):km X (.builtin "all") (λxs H Q=>∃(p:Addr) (bs:List Bool),xs=[.ref p]/\SqL X.K H p (bs.map V.bl)/\Q (.bl<|bs.all λb=>b) H):=by
 intro d s σ H xs v Q I r h;obtain⟨p,bs,rfl,k,q⟩:=h;obtain⟨u,rfl,l⟩:=r.one;cases l;obtain⟨a,f,pl,w⟩:=I.list k;have c:p < ↥s:=by
  obtain⟨o,n,e,_⟩:=pl;exact N0 e
 have g:=f.length;rw[L1] at g;refine call_all_walk<|wpAny_pyIter_list pl.isList ⟨↥s,_,_,_,_,_,λi=>bs.getD i false,rfl,Walks.list (by exact I.ok.hd j) ↥s p (N5 c) a.toArray,⟨⟨_,X7 _ rfl,rfl,rfl⟩,?_⟩,zO f,λx y m=>?_⟩
 ·obtain⟨o,e,r⟩:=pl.isList;exact⟨o,L8 _ e,r⟩
 ·rw[N2,<- g,jbK];refine⟨.bl<|bs.all λb=>b,H,I.kept λb o e=>m b o ?_<|L8 _ e,rfl,q⟩;intro t;have:b=↥s:=by simpa using t
  exact absurd (N0 e) ∅
def SqX(K:W4)(H:Hp)(a:Addr)(xs:List V):Prop:=
 Rd H a (.lst xs) \/ ∃ its n,K.lookup a=some {cls:=.type "list",data:=.seq its n}/\its.size<=sizeLine/\Vals xs its.toList
def SqX.sq{K}{H}{a}{xs}(h:SqX K H a xs):SqL K H a xs:=by
 rcases h with h | ⟨b,n,c,d,r⟩
 ·exact .inl h
 ·exact .inr ⟨_,b,n,c,rfl,rfl,rfl,d,r⟩
def SqX.of{K}{H}{a}{xs}(h:H a=some (.lst xs)):SqX K H a xs:=.inl<|.inl h
def Inv.listX(I:Inv X pins σ H s)(h:SqX X.K H a xs):Ex2 λits n=>An3 (Vals xs its) (s.heap.get? a=some {cls:=.type "list",data:=.seq its.toArray n}) (xs.length<=sizeLine):=by
 rcases h with h | ⟨its,n,b,c,r⟩
 ·obtain⟨z,its,n,r,e⟩:=h.ok I.hok;exact⟨its,n,r,e,z⟩
 ·refine⟨its.toList,n,r,by simpa using I.kIn a _ b,?_⟩;have e:=r.length;simp only[Array.length_toList] at e
  lia
def jkR(K:W4):R2:=λx y H Q=>∃ l b xs zs,x=.ref l/\y=.ref b/\SqX K H l xs/\SqX K H b zs/\xs.length+zs.length<=sizeLine/\∀ p,H p=none->Q (.ref p) (upd H p<|.lst<|xs++zs)
def jiC:OpR X (binaryOp .Add) (jkR X.K):=by
 intro d s σ H x y v u Q I f g h;obtain⟨l,b,o,zs,rfl,rfl,i,j,p,q⟩:=h;cases f;cases g;obtain⟨c,n,r,e,_⟩:=I.listX i;obtain⟨a,t,r2,e2,_⟩:=I.listX j;have w:=r.length;have k:=r2.length;refine PySem.P.add_list e e2 ?_ (by rw[N2,N2];lia);have m:c.toArray++a.toArray=(c++a).toArray:=by simp
 rw[m];exact⟨.ref _,_,I.lnew (r.append r2)<|by rw[N3];lia,rfl,q _ I.fresh⟩
def xA{ns:List Int}(h:PySem.W.WData.layableAll [PySem.W.WData.list<|ns.map PySem.W.WData.int]=true):∀ x∈ns,Builtin.Int.intBits x<=2 ^ 20:=by
 intro x c;have e:PySem.W.ofPy (.list<|ns.map .int)=PySem.W.WData.list (ns.map PySem.W.WData.int):=by
  have f:∀ a:List Int,PySem.W.ofPys (a.map PyData.int)=a.map PySem.W.WData.int:=by
   intro a
   induction a with
   | nil=>rfl
   | cons m a g=>simp[PySem.W.ofPys,PySem.W.ofPy,g]
  simp[PySem.W.ofPy,f]
 have b:=PySem.W.lay0_ofPy (s:=.list .int) (d:=.list<|ns.map .int) rfl (by simp[Shape.has]) (by rw[e];exact((PySem.W.layW_cons h).1));have i:PyData.layable0 (.list<|ns.map .int)=true:=by
  simp[PyData.layableAll0] at b;exact b
 exact PyData.bits_item_of_ints i c
def walk_ofB{l:PySem.W.OpenLaw}{n k}{j}{Q}{L}{d}{K:Params->PySem.W.Frag}{CX:World->CXT}{sp:World->Sp} 
  (R:l.most=some n) (z:n<=sizeLine) (A:d.params.defaults=[]) (S:Room k callerA)
  (U:∀ w h,L w h->(K w.params).In h)
  (F:∀ w mg fa h,(K w.params).In h->h.Ns mainGlobals mg->mg d.name=some (.ref fa) ->
   ∃ fd:FuncData,(∀ s u,BindsTo s fd ⟨[u],[]⟩ [(x,u)]) /\
    ∀ base:Heap,(K w.params).In base->base.Ns mainGlobals mg->FnOk l.prog w (K w.params) mg base (CX w) k fa fd [x] (sp w))
  (B:∀ w H a (ns:List Int),ns.length<=n->(∀ x∈ns,Builtin.Int.intBits x<=2 ^ 20)->joJ H->SqX (K w.params) H a (ns.map V.int)->sp w [.ref a] H (λv _=>v=.bl true) λ_ _ _=>False)
  (C:∀ w H s e s',CX w [] H s (λ_ _ _=>False) e s'->False):
  PySem.W.WalkO q j Q L l.row.toRowW d [] (λf vs=>PySem.call f vs):=by
 intro w s₀ X mg mb G Y fa o pm cd Z dV kV ho hd hcd M D hg N O as t y hrd E hlo;obtain rfl:dV=.none:=PySem.W.Dflts.none M A;obtain rfl:kV=.none:=PySem.W.Dflts.noKw M;obtain⟨a,vs,ns,rfl,rfl,c,p,i⟩:=Att.script_of R t E;have I:=U w _ Y;obtain⟨fd,hb,hF⟩:=F w mg fa _ I G.T.g D;refine PySem.W.enter_call<|codeAny_mono (jfq I G.T.g G.T.b G.T.builtins G.T.nolimit hg c p (N6 i z) S hF hb (λH hO hS=>B w H a ns i (xA y) hO ?_) λH e s'=>C w H X e s') λr s' hq=>?_
 ·rcases hS with h | ⟨o,its,m,P,_,_,J,hz,r⟩
  ·exact .inl h
  ·have e:=I a o P;rw[c] at e;cases e;cases J;exact .inr ⟨_,_,P,hz,r⟩
 ·obtain⟨rfl,h2,h3,h4⟩:=hq;exact⟨.inl ⟨.bool true,.bool true,[],rfl,λ_=>rfl,.bool true,Att.post_true l _,λ_=>⟨List.Pairwise.nil,λ_ hm=>(nomatch hm)⟩⟩,h2,h3,h4⟩
noncomputable def Kb(sc:Scope)(N:List Str)(scope:Scope)(N':List Str)(ix:List<|Option Nat):Bool:=
 decide (scope.kind=.function)&&decide (sc.kind=.function)&&scope.names.all (λy=>!decide (y.2=.cell)||decide (scope.names.lookup y.1=some .cell))&&scope.names.all (λy=>!decide (y.2=.local)||decide (scope.names.lookup y.1=some .local)) &&
 scope.names.all (λy=>!decide (y.2=.free)||(decide (scope.names.lookup y.1=some .free)&&(decide (sc.names.lookup y.1=some .cell)||decide (sc.names.lookup y.1=some .free))))&&decide N'.Nodup&&decide (ix.length=N'.length) &&
 (List.range ix.length).all (λi=>match ix[i]? with | some (some j)=>(match N'[i]? with | some x=>decide (N[j]?=some x)&&decide ((x,NameKind.free)∈scope.names) | none=>true) | _=>true)
def jgR{X}{scope}{N'}{ix}(sc)(N)(h1:X.env.scope=sc)(h2:X.N=N)(h:Kb sc N scope N' ix=true):BlockOk X scope N' ix:=by
 subst h1;subst h2;unfold Kb at h;simp only[M0,decide_eq_true_eq,List.all_eq_true,Bool.or_eq_true,Bool.not_eq_true',decide_eq_false_iff_not] at h;obtain⟨⟨⟨⟨⟨⟨⟨c,d⟩,f⟩,g⟩,b⟩,k⟩,l⟩,m⟩:=h;refine⟨c,λy a e=>((g y a).elim (absurd e) id),λy a e=>((f y a).elim (absurd e) id),λy a e=>((b y a).elim (absurd e) λz=>z.1),λy a e=>((b y a).elim (absurd e) λz=>z.2),k,l,λi j x h1 h2=>?_,d⟩
 ·have hi:=(L9.mp h1).1;have z:=m i<|List.mem_range.mpr hi;rw[h1,h2] at z;simp only[M0,decide_eq_true_eq] at z;exact z
structure FnFact(K:W4)(mg:W6)(x qual:Str)(st:Stmt)(f:Addr)(fd:FuncData)(ps:List Str):Prop where
 fn:Fun K x qual st f fd
 mgf:mg x=some (.ref f)
 bd:Binds K fd ps []
section
variable {X:Cx}{k:Nat}{f:Addr}{fd:FuncData}{ps:List Str}{sp:Sp}{x qual:Str}{st:Stmt}{p pos:Pos}{e:Expr}{es:List Expr}{t:TA}
def jgA(F:FnFact X.K X.mg x qual st f fd ps)(G:FnOk X.prog X.w X.K X.mg X.base CX0 k f fd ps sp)(c:Room k X.A)(d:PA X (e::es) t)(g:Gl X x:=by rfl)(a:Nd x:=by decide)
  (h:SEq X e es:=by rfl) (b:BkE X pos es:=by rfl):PE X (.Call (.Name x p) (e::es) [] pos) (KH sp [] E0 t):=
 jhf G c g F.mgf F.fn.kp F.bd .nil jfm d a h b
end
def jhA:OpR X (binaryOp .Mult) (λx y H Q=>∃ a n,x=.str (S a)/\y=.int n/\a.length<=1000/\0<=n/\n<=1000/\Q (.str<|S (List.replicate n.toNat a).flatten) H):=by
 intro f s σ H x y v u Q I g i h;obtain⟨a,n,rfl,rfl,j,w,l,q⟩:=h;obtain⟨k,rfl⟩:∃ k:Nat,n=k:=⟨n.toNat,by lia⟩;have m:k<=1000:=by lia
 obtain⟨t,rfl⟩:=g;obtain⟨o,rfl⟩:=i;have hok:MulOk (S a) k:=by
  refine⟨by simp;lia,λd c=>?_,λd c=>?_⟩
  ·rw[YG];have A:1000<=(2 ^ 63-1)/(k:Int):=by
    rw[Int.le_ediv_iff_mul_le ∅]
    lia
   lia
  ·rw[YG,N7];have B:a.length*k<=sizeLine:=N6 (Nat.mul_le_mul j m) (by decide);exact X1 ∅
 have e:Txt.mul (S a) k=S (List.replicate k a).flatten:=by
  have p:∀ n b,((List.replicate n a.toArray).foldl (·++·) b).toList=b.toList++(List.replicate n a).flatten:=by
   intro n
   induction n with
   | zero=>intro b;simp
   | succ n r=>intro b;rw[List.replicate_succ,U9,r];simp[List.replicate_succ]
  unfold Txt.mul;apply PyProof.Rows.ext_toList;rw[qM];by_cases d:(k:Int)<1
  ·have:k=0:=by lia
   subst this;simp[Str.empty]
  ·rw[if_neg d];by_cases c:((k:Int)==1||(S a).length==0)=true
   ·rw[if_pos c,qM];rw[YG] at c;simp at c;rcases c with z | z
    ·have:k=1:=by lia
     subst this;simp
    ·subst z;simp
   ·rw[if_neg c,N7];exact(p k #[])
 refine SB.mul hok λo C=>?_;rw[e];exact⟨.str _,H,I.tok _,⟨_,rfl⟩,q⟩
section
variable {X:Cx}{pins:List (Addr×Obj)}{σ:St}{H:Hp}{s:Shared}{h':Heap}
def Inv.turnedNew{t'}{g:W5}{T:Addr}{xs}{its}(I:Inv X pins σ H s)(k:∀ b o,b∉g->s.heap.get? b=some o->h'.get? b=some o)(h:∀ b∈g,wg X pins H b)
  (i:↥s<=T) (l:IsTupN h' T its) (p:Vals xs its.toList) (t:xs.length<=sizeLine):Inv X pins σ (upd H T<|.tup xs) {s with heap:=h',toks:=t'}:=by
 have j:∀ b u,H b=some u->b∉g:=λb u e z=>by rw[(h b z).1] at e;cases e
 have d:∀ b u,H b=some u->b≠T:=λb u e z=>by rw[z,I.hok.fresh i] at e;cases e
 refine I.step (λb f=>?_) (λb o _ _ a e _=>k b o a e) (λb o _ _ a e _=>⟨o.slots,k b o a e⟩) (λb o _ e n=>?_)
  (λb o a e=>⟨o,k b o a e⟩) (λb w e=>by rw[je<|d b _ e];exact e) (λb o u e=>by rw[je<|d b _ e];exact e) (λb G e=>⟨#[],by rw[je<|d b _ e,e];simp⟩) (λm x=>?_) (λb u e=>?_) I.bare
 ·obtain⟨_,y,_,A,B,C⟩:=h b f;exact⟨A,y,B,C⟩
 ·rw[je<|λz=>absurd (N0 e)<|by rw[z];exact Nat.not_lt.mpr i];exact n
 ·obtain⟨o,D,E,F,r⟩:=x;refine⟨o,D,E,k _ o (λz=>(h _ z).2.1 rfl) F,r⟩
 ·by_cases f:b=T
  ·subst f;rw[jk] at e;cases e;exact⟨t,its.toList,p,by simpa using l⟩
  ·rw[je f] at e;refine(I.hok b u e).stay (λc v a q=>k c v ?_ q) (λc q=>by rw[je<|d c _ q];exact q) λc w q=>by rw[je<|d c _ q];exact q
   rcases a with z | z
   ·rw[z];exact j b u e
   ·exact j c _ z
def Inv.turnedL{t'}{d:W5}(I:Inv X pins σ H s)(k:∀ b o,b∉d->s.heap.get? b=some o->h'.get? b=some o)(f:∀ b∈d,wg X pins H b):Inv X pins σ H {s with heap:=h',toks:=t'}:=by
 have g:∀ b u,H b=some u->b∉d:=λb u e z=>by rw[(f b z).1] at e;cases e
 refine I.step (λb h=>?_) (λb o _ _ a e _=>k b o a e) (λb o _ _ a e _=>⟨o.slots,k b o a e⟩) (λb o _ e n=>n)
  (λb o a e=>⟨o,k b o a e⟩) (λb A e=>e) (λb o u e=>e) (λb B e=>⟨#[],by rw[e];simp⟩) (λm i=>?_) (λb u e=>?_) I.bare
 ·obtain⟨_,j,_,l,p,t⟩:=f b h;exact⟨l,j,p,t⟩
 ·obtain⟨o,w,x,y,r⟩:=i;refine⟨o,w,x,k _ o (λz=>(f _ z).2.1 rfl) y,r⟩
 ·refine(I.hok b u e).stay (λc v a q=>k c v ?_ q) (λ_ q=>q) λ_ _ q=>q;rcases a with z | z
  ·rw[z];exact g b u e
  ·exact g c _ z
end
def jgC{A}{E}{s:Shared}{i}{n}{us}{C:J0}
  (h:IsEnum s.heap e it n was) (hi:s.heap.IsListIter it l i) (I:s.heap.IsList l us) (J:us[i]?=some x) (ne:e≠it)
  (go:∀ k,IsEnumOut k e it (n+1) x ↥s->k.IsListIter it l (i+1)->k.get? ↥s=some {cls:=.type "tuple",data:=.seq #[.int n s.toks,x]} ->
   (∀ b o,b≠e->b≠it->s.heap.get? b=some o->k.get? b=some o)->C (.ref ↥s) {s with heap:=k,toks:=s.toks+1}):
  wpAny (model prog w) A (Builtin.«enumerate.__next__» ⟨[.ref e],[]⟩) (λfin s'=>∃ v,fin=.done (.ret v)/\C v s') E s:=by
 obtain⟨j,g,d,c,os⟩:=s;show wpAny _ _ (field (.ref e) 2 >>= _) _ _ _;refine L3<|U5 h rfl rfl<|L3<|wpAny_nextOf_list_item hi I J λQ K m=>?_;have p:=(m.2 e ne).trans h;refine L3<|U5 p rfl rfl<|L3<|U5 p rfl rfl<|L3<|wpAny_mkInt<|L3<|wpAny_setField_rec p (by simp) λR e2 q=>(L3<|wpAny_setField_rec e2 (by simp) λt e3 u=>(L3<|wpAny_newTuple ?_));have f:IsEnum (t.push {cls:=.type "tuple",data:=.seq #[.int n c,x]}) e it (n+1) was:=L8 _ e3;generalize y:t.push {cls:=.type "tuple",data:=.seq #[.int n c,x]}=k4 at f;have H:t.objs.size=j.objs.size:=by rw[u.1,q.1,m.1]
 have lt:=N0 h;have L:k4.get? j.objs.size=some {cls:=.type "tuple",data:=.seq #[.int n c,x]}:=by rw[<- y,<- H];exact X7 _ rfl
 have kp:∀ b o,b≠e->b≠it->j.get? b=some o->k4.get? b=some o:=λb o a z B=>by
  rw[<- y];exact L8 _<|u.extBut b o a<|q.extBut b o a<|m.extBut b o z B
 have M:k4.IsListIter it l (i+1):=by
  rw[<- y];obtain⟨o,N,r⟩:=(K.extBut q.extBut ne.symm).extBut u.extBut ne.symm;exact⟨o,L8 _ N,r⟩
 show wpAny _ _ (Builtin.SmallTypes.ownedTupleIsFree (.ref e) >>= _) _ _ ⟨k4,g,d,c+1,os⟩;rw[H];refine L3<|L3<|U5 f rfl rfl<|M6<|L3<|wpAny_rule<|L3<|U5 f rfl rfl<|L3<|wpAny_setField_rec f (by simp) λS e5 D=>(L3<|L3<|wpAny_setField_rec e5 (by simp) λT O F=>(wpAny_setField_rec O (by simp) λP e7 G=>(L3<|wpAny_letGo<|M6 ⟨_,rfl,go P e7 (((M.extBut D.extBut ne.symm).extBut F.extBut ne.symm).extBut G.extBut ne.symm) (G.extBut _ _ (Nat.ne_of_gt lt)<|F.extBut _ _ (Nat.ne_of_gt lt)<|D.extBut _ _ (Nat.ne_of_gt lt) L)<|λb o a z B=>G.extBut b o a<|F.extBut b o a<|D.extBut b o a<|kp b o a z B⟩)))
def jig 
  (a:IsEnum s.heap e it n was) (hi:s.heap.IsListIter it l i) (c:s.heap.IsList l us) (d:us[i]?=some x) (ne:e≠it)
  (go:∀ k,IsEnumOut k e it (n+1) x ↥s->k.IsListIter it l (i+1)->k.get? ↥s=some {cls:=.type "tuple",data:=.seq #[.int n s.toks,x]} ->
   (∀ b o,b≠e->b≠it->s.heap.get? b=some o->k.get? b=some o)->C (some<|.ref ↥s) {s with heap:=k,toks:=s.toks+1}):wpAny (model prog w) A (pyNext<|.ref e) C E s:=by
 have ty:s.TypeIs (.ref e) "enumerate":=⟨_,a,rfl⟩;exact L3<|wpAny_attempt<|wpAny_callSpecial?_slot ty F.slot_enumerate_next<|wpAny_call_entry F.slot_enumerate_next ty F.entry_enumerate_next (jgC a hi c d ne λk c1 f g h=>M6<|go k c1 f g h)<|F.args_enumerate_next_1 _
def jiD(d:A.handled=none)
  (c:IsEnum s.heap e it n was) (hi:s.heap.IsListIter it l i) (f:s.heap.IsList l us) (a:us[i]?=none)
  (go:∀ k,Heap.ExtBut it s.heap k->C none {s with heap:=k}):wpAny (model prog w) A (pyNext<|.ref e) C E s:=by
 have ty:s.TypeIs (.ref e) "enumerate":=⟨_,c,rfl⟩;refine L3<|wpAny_attempt<|wpAny_callSpecial?_slot ty F.slot_enumerate_next<|wpAny_call_entry F.slot_enumerate_next ty F.entry_enumerate_next ?_<|F.args_enumerate_next_1 _;show wpAny _ _ (field (.ref e) 2 >>= _) _ _ _;refine L3<|U5 c rfl rfl<|L3<|wpAny_nextOf_list_end d hi f a λk x b a=>?_;obtain⟨o,g,h⟩:=a;exact L3<|wpAny_isInstance ⟨o,g,h⟩ isSubtype_stop<|M6<|go _ b
def Itn(K:W4)(l:Addr)(n:Int):It:=
 ⟨λi H=>∃ xs x,SqL K H l xs/\xs[i]?=some x,λi H x H'=>∃ p v,(∀ xs,SqL K H l xs->xs[i]?=some v)/\x=.ref p/\H p=none/\H'=upd H p (.tup [.int<|n+i,v]),λi H=>∃ xs,SqL K H l xs/\xs.length<=i⟩
def jdr{P}{w}{K}{elts}{m}{pos}(e a l)(n)(t:e≠a)(Y:l≠e)(Z:l≠a):
  Turn P w K (.Tuple elts m pos) (Itn K l n) [e,a] e (λi h=>(∃ old,IsEnum h e a (n+i) old)/\h.IsListIter a l i) where
 mem:=by simp
 obj:=λi h c b d=>by
  obtain⟨⟨old,f⟩,o,F,G,hd⟩:=c;rcases(⇑d:b=e\/b=a) with z | z
  ·subst z;exact⟨_,f,λv q=>by cases q⟩
  ·subst z;exact⟨o,F,λv q=>by rw[hd] at q;cases q⟩
 keep:=λi h h' c k=>by
  obtain⟨⟨old,f⟩,hit⟩:=c;exact⟨⟨old,k e (by simp) _ f⟩,hit.at<|k a<|by simp⟩
 item:=by
  intro X J L M G i y s σ H E I C c N;subst J L M;obtain⟨V,x,D,O⟩:=N;obtain⟨Q,R,p,hz⟩:=I.list D;obtain⟨u,hu,ru⟩:=R.get O;obtain⟨⟨old,f⟩,hit⟩:=c;refine jig f hit p.isList ⇑hu t λh1 F A hT hk=>⟨_,rfl,wpAny_letOwnedTupleGo_enum F λW S j=>?_⟩;have g:=N0 f;have B:=(j.2 _<|Nat.ne_of_gt g).trans hT;have kk:∀ b o,b∉[e,a]->s.heap.get? b=some o->W.get? b=some o:=λb o d q=>by
   have r:b≠e/\b≠a:=by simpa using d
   exact(j.2 b r.1).trans (hk b o r.1 r.2 q)
  have I1:=I.turnedNew (t':=s.toks+1) (xs:=[.int<|n+i,x]) kk C (M8 _) ⟨⟨_,B,rfl,_,rfl⟩,_,B,rfl⟩ (.cons ⟨_,rfl⟩<|.cons ru .nil) (by show 2<=sizeLine;decide);have T:IsEnum W e a (n+((i+1:Nat):Int)) u:=by
   have q:=S;rw[show n+((i+1:Nat):Int)=n+i+1 by lia];exact q
  refine⟨.ref ↥s,_,I1,rfl,⟨_,x,(λys hy=>by rw[I.list_inj hy D];exact O),rfl,I.hok.fresh<|M8 _,rfl⟩,⟨⟨_,T⟩,A.at λo q=>(j.2 a t.symm).trans q⟩,λb d=>?_⟩;rw[je]
  ·exact(C b d).1
  ·intro z;have:b < ↥s:=by
    obtain⟨oi,U,_⟩:=id hit;rcases(⇑d:b=e\/b=a) with q | q
    ·rw[q];exact g
    ·rw[q];exact N0 U
   exact absurd this (by rw[z];exact Nat.lt_irrefl _)
 done:=by
  intro X J L M G i y s σ H E I C c N;subst J L M;obtain⟨V,D,O⟩:=N;obtain⟨Q,R,p,hz⟩:=I.list D;obtain⟨⟨old,f⟩,hit⟩:=c;have hl:=R.length;exact jiD (I.ok.hd G) f hit p.isList (by simp;lia) λh1 eb=>⟨rfl,I.turnedL (λb o d q=>eb b o (by simp at d;exact d.2) q) C⟩
 self:=λ_ _ _ _ _ c h=>wpAny_pyIter_enum c.1.choose_spec h
def ji7(K:W4)(tl:TA):TI:=λσ H R=>tl σ H λvs H1=>∃ a xs,vs=[.ref a]/\SqL K H1 a xs/\R (Itn K a 0) H1
section
variable {X:Cx}
def jhy{elts}{n}{tpos p pos}{a}{ta}(k:Gl X "enumerate")(m:X.mg "enumerate" = none)(r:PA X [a] ta)(t:starEach [a] X.env=[(false,eval a X.env)]:=by rfl):
  PI X (.Tuple elts n tpos) (.Call (.Name "enumerate" p) [a] [] pos) (ji7 X.K ta):=by
 intro c s σ H R I h;refine Call_<|Jn I k m (show bootBuiltins "enumerate" = some (.type "enumerate") by decide +kernel)<|PyProof.Rows.callWith_type1 (thn (r pos c s σ H _ I h) λF s1 ⟨vs,i,g,r1,v⟩=>?_) t rfl;obtain⟨l,G,rfl,w,q⟩:=v;obtain⟨u,rfl,x⟩:=r1.one;cases x;obtain⟨y,J,pl,L⟩:=g.list w;have d:l < ↥s1:=by
  obtain⟨o,_,e,_⟩:=pl;exact N0 e
 refine call_enumerate_list pl.isList λA j hit B C=>?_;have D:Inv X c σ i {s1 with heap:=A}:=g.kept C;refine PySem.wpAny_pyIter_enum j ⟨↥s1+1,[↥s1+1,↥s1],_,_,i,rfl,D,jdr _ _ l 0 (Nat.succ_ne_self _) (N5<|Nat.lt_succ_of_lt d)<|N5 d,⟨⟨_,by simpa using j⟩,hit⟩,λb E=>?_,q⟩;have f:↥s1<=b:=by
  rcases(⇑E:b=↥s1+1\/b=↥s1) with z | z
  ·rw[z];exact Nat.le_succ _
  ·rw[z];exact M8 _
 exact g.fpOk f<|g.hok.fresh f
end
section
variable {X:Cx}
def jbD(c:X.calm=true):km X (.builtin "sum") (λxs H Q=>∃(p:Addr) (ns:List Int),xs=[.ref p]/\SqL X.K H p (ns.map V.int)/\Q (.int ns.sum) H):=by
 intro a s σ H xs k Q I r h;obtain⟨p,ns,rfl,d,q⟩:=h;obtain⟨u,rfl,e⟩:=r.one;cases e;obtain⟨f,g,pl,l⟩:=I.list d;have hi:=jar g;obtain⟨zs,b⟩:=hi.allInts.items;refine sum_intListG (I.ok.hd c) (b▸pl.isList) λm n o i=>?_;have j:ns=zs.toList.map (·.1):=by
  rw[<- nums_intItems,<- b];exact(hi.numsOf).symm
 have e2:preSum (numAt zs) zs.size=ns.sum:=by
  rw[preSum_eq,List.take_of_length_le<|by simp,j]
 rw[e2];exact⟨.int ns.sum,H,I.kept i,⟨_,rfl⟩,q⟩
inductive TyQ (K:W4) (H:Hp):V->String->Prop where
 | non:TyQ K H .non "NoneType"
 | bl (x:Bool):TyQ K H (.bl x) "bool"
 | int (i:Int):TyQ K H (.int i) "int"
 | str (x:Str):TyQ K H (.str x) "str"
 | lst {a:Addr}{xs:List V}(e:SqL K H a xs):TyQ K H (.ref a) "list"
 | tup {a:Addr}{xs:List V}(e:SqT K H a xs):TyQ K H (.ref a) "tuple"
 | dK {a:Addr}{kvs:List (Key×V)}(e:H a=some (.dK kvs)):TyQ K H (.ref a) "dict"
def Qg:km X (.builtin "isinstance") (λxs H Q=>∃ x T t b,xs=[x,.ty T]/\TyQ X.K H x t/\PySem.W.kitOne X.K (.type t) (.type T)=some b/\Q (.bl b) H):=by
 intro d s σ H xs w Q I r h;obtain⟨x,T,t,b,rfl,ty,e,q⟩:=h;obtain⟨u,v,rfl,r1,r2⟩:=r.two;cases r2;have c:∀ k,EP X d σ Q (.bool b) {s with toks:=k}:=λk=>⟨.bl b,H,I.tok k,rfl,q⟩;cases ty with
 | non=>cases(r1);exact PySem.W.kia_one PySem.W.kitx_none I.kIn True.intro e (λz=>nomatch z) c
 | bl y=>cases(r1);exact PySem.W.kia_one PySem.W.kitx_bool I.kIn True.intro e (λz=>nomatch z) c
 | int i=>obtain⟨t,q⟩:=(r1);cases q;exact PySem.W.kia_one PySem.W.kitx_int I.kIn True.intro e (λz=>nomatch z) c
 | str y=>obtain⟨t,q⟩:=(r1);cases q;exact PySem.W.kia_one PySem.W.kitx_str I.kIn True.intro e (λz=>nomatch z) c
 | @lst a xs f=>
  cases(r1);obtain⟨l,_,⟨o,n,g,j,_,_⟩,_⟩:=I.list f;exact PySem.W.kia_one PySem.W.kitx_list I.kIn ⟨o,g,j⟩ e (λz=>nomatch z) c
 | @tup a xs f=>
  cases(r1);obtain⟨l,_,⟨o,g,j,_⟩,_⟩:=I.tuple f;exact PySem.W.kia_one PySem.W.kitx_tuple I.kIn ⟨o,g,j⟩ e (λz=>nomatch z) c
 | @dK a m f=>
  cases(r1);obtain⟨_,_,vs,_,p⟩:=(I.hok a _ f);obtain⟨o,A,B,g,j,_⟩:=p;exact PySem.W.kia_one PySem.W.kitx_dict I.kIn ⟨o,g,j.1⟩ e (λz=>nomatch z) c
end
section
variable {κ:Type} [DecidableEq κ]
noncomputable def Vp(kvs:List<|κ×V)(k:κ):Option V:=(kvs.find? λkv=>decide<|kv.1=k).map (·.2)
noncomputable def Je(kvs:List<|κ×V)(k:κ)(v:V):List (κ×V):=
 if(kvs.any λkv=>decide<|kv.1=k)=true then kvs.map (λkv=>if kv.1=k then(kv.1,v) else kv) else kvs++[(k,v)]
def JD{p}{r:List (κ×V)}(e:p.1=k):Vp (p::r) k=some p.2:=by simp[Vp,List.find?_cons,e]
def Jr{p}{r:List (κ×V)}(e:¬ p.1=k):Vp (p::r) k=Vp r k:=by simp[Vp,List.find?_cons,e]
theorem ub(k):∀ kvs:List (κ×V),(kvs.any λkv=>decide<|kv.1=k)=(Vp kvs k).isSome
 | []=>rfl
 | p::r=>by
  rw[List.any_cons];by_cases e:p.1=k
  ·simp only[JD e,X0 e,Bool.true_or,Option.isSome_some]
  ·rw[Jr e,X1 e,Bool.false_or];exact ub k r
def Ja(a)(k:κ)(v):(Je a k v).length<=a.length+1:=by
 unfold Je;split
 ·rw[L1];lia
 ·rw[N3,M1,List.length_nil];lia
def RelO.isSome_eq(r:RelO o u):o.isSome=u.isSome:=by
 cases o with
 | none=>cases u with
  | none=>rfl
  | some _=>exact(r).elim
 | some _=>cases u with
  | none=>exact(r).elim
  | some _=>rfl
def RelO.getD(r:RelO o u)(rd:RelV d d'):RelV (o.getD d) (u.getD d'):=by
 cases o with
 | none=>cases u with
  | none=>exact rd
  | some _=>exact(r).elim
 | some _=>cases u with
  | none=>exact(r).elim
  | some _=>exact r
def KV.val(r:KV kvs vs)(k:κ):RelO (Vp kvs k) (valueAt vs k):=by
 induction r with
 | nil=>exact True.intro
 | @cons p q i a h t f=>
  obtain⟨d,g⟩:=h;by_cases e:p.1=k
  ·have c:=d.symm.trans e;have b:valueAt (q::a) k=some q.2:=by simp[valueAt,List.find?_cons,c]
   rw[JD e,b];exact g
  ·have c:¬ q.1=k:=λz=>e<|d.trans z;have b:valueAt (q::a) k=valueAt a k:=by simp[valueAt,List.find?_cons,c]
   rw[Jr e,b];exact f
def KV.any(r:KV kvs vs)(k:κ):(kvs.any λkv=>decide<|kv.1=k)=vs.any λkv=>decide (kv.1=k):=by
 induction r with
 | nil=>rfl
 | cons h t a=>rw[List.any_cons,List.any_cons,a,h.1]
def KV.repl(r:KV kvs vs)(k:κ)  (b:RelV y u):
  KV (kvs.map λkv=>if kv.1=k then(kv.1,y) else kv) (vs.map λkv=>if kv.1=k then(kv.1,u) else kv):=by
 induction r with
 | nil=>exact .nil
 | @cons p q f g h t c=>
  rw[L5,L5];refine .cons ?_ c;obtain⟨a,d⟩:=h;by_cases e:p.1=k
  ·rw[if_pos e,if_pos<|a.symm.trans e];exact⟨a,b⟩
  ·rw[if_neg e,if_neg<|λz=>e<|a.trans z];exact⟨a,d⟩
def KV.put(r:KV kvs vs)(k:κ)  (a:RelV y u):KV (Je kvs k y) (stored vs k u):=by
 unfold Je stored;rw[r.any k];by_cases e:(vs.any λb=>decide<|b.1=k)=true
 ·rw[if_pos e,if_pos e];exact r.repl k a
 ·rw[if_neg e,if_neg e];exact Paired.snoc r ⟨rfl,a⟩
def KV.length(r:KV kvs vs):kvs.length=vs.length:=Paired.length r
end
def jct(r:RelV (kV k) u):(jQ P w).is k u=true:=by
 cases k with
 | inl i=>obtain⟨t,e⟩:=(r);subst e;exact zY P w i t
 | inr x=>obtain⟨t,e⟩:=(r);subst e;exact zV P w x t
theorem K3:∀{ks}{us},Vals (ks.map kV) us->ItemsAre (jQ P w) ks us
 | [],_,r=>by rw[List.map_nil] at r;cases r;exact .nil
 | k::ks,_,r=>by
  cases r with
  | cons h t=>exact .cons (jct h)<|K3 t
abbrev KT(H:Hp):List (List Key×V)->List (List Key×Addr×Value)->Prop:=Paired λp q=>p.1=q.1/\H q.2.1=some (.tup<|p.1.map kV)/\RelV p.2 q.2.2
def KT.val(r:KT H kvs xs)(k):RelO (Vp kvs k) ((atKey xs k).map (·.2)):=by
 induction r with
 | nil=>exact True.intro
 | @cons p q i a h t f=>
  obtain⟨d,_,g⟩:=h;by_cases e:p.1=k
  ·have c:=d.symm.trans e;have b:atKey (q::a) k=some q.2:=by simp[atKey,List.find?_cons,c]
   rw[JD e,b];exact g
  ·have c:¬ q.1=k:=λz=>e<|d.trans z;have b:atKey (q::a) k=atKey a k:=by simp[atKey,List.find?_cons,c]
   rw[Jr e,b];exact f
def KT.repl(r:KT H kvs xs)(k)  (c:RelV y u):
  KT H (kvs.map λkv=>if kv.1=k then(kv.1,y) else kv) (xs.map<|putAt k u):=by
 induction r with
 | nil=>exact .nil
 | @cons p q g i h t d=>
  rw[L5,L5];refine .cons ?_ d;obtain⟨a,b,f⟩:=h;unfold putAt;by_cases e:p.1=k
  ·rw[if_pos e,if_pos<|a.symm.trans e];exact⟨a,b,c⟩
  ·rw[if_neg e,if_neg<|λz=>e<|a.trans z];exact⟨a,b,f⟩
def KT.put(r:KT H kvs xs)(k)  (c:H b=some (.tup<|k.map kV)) (a:RelV y u):
  KT H (Je kvs k y) (storedH xs k b u):=by
 have e:(kvs.any λd=>decide<|d.1=k)=(atKey xs k).isSome:=by
  rw[ub,(r.val k).isSome_eq,Option.isSome_map]
 unfold Je storedH;rw[e];by_cases q:(atKey xs k).isSome=true
 ·rw[if_pos q,if_pos q];exact r.repl k a
 ·rw[if_neg q,if_neg q];exact Paired.snoc r ⟨rfl,c,a⟩
def KT.keeps(r:KT H kvs xs)(a:∀ b ys,H b=some (.tup ys)->H' b=some (.tup ys)):KT H' kvs xs:=
 Paired.mapP r λ_ _ z=>⟨z.1,a _ _ z.2.1,z.2.2⟩
def jmb(ok:HOk P w H h)(e:Rd H a u):ObjOk P w H h a u:=e.ok ok
def xR(ok:HOk P w H h)(e:Rd H a<|.dK kvs):kvs.length<=sizeLine/\(a==sysModules)=false/\∃ vs,KV kvs vs/\h.DictOf (jQ P w) a vs:=
 jmb ok e
def jln(ok:HOk P w H h)(e:H a=some (.dK kvs)):kvs.length<=sizeLine/\(a==sysModules)=false/\∃ vs,KV kvs vs/\h.DictOf (jQ P w) a vs:=xR ok<|.inl e
def zq(ok:HOk P w H h)(e:H a=some (.tup<|ks.map kV)):(tupleKind<|jQ P w).is h ks a:=by
 obtain⟨_,b,r,⟨o,c,d,n,f⟩,_⟩:=(ok a _ e);exact⟨o,b.toArray,n,c,d,f,by simpa using K3 r⟩
def u9(ok:HOk P w H h)(e:Rd H a<|.dT kvs):kvs.length<=sizeLine/\(a==sysModules)=false /\
  ∃ xs,KT H kvs xs/\h.DictOfH (tupleKind<|jQ P w) a xs:=by
 obtain⟨z,y,xs,r,o,d,f,g,i,j,k,n⟩:=(jmb ok e);refine⟨z,y,xs,r,o,d,f,g,i,j,k,λx b=>?_,n⟩;have all:∀{l}{m},KT H l m->∀ x∈m,(tupleKind<|jQ P w).is h x.1 x.2.1:=by
  intro l m q
  induction q with
  | nil=>intro x b;exact nomatch b
  | @cons p q u v c t s=>
   intro x b;rcases M4.mp b with e | b
   ·subst e;exact zq ok (by rw[<- c.1];exact c.2.1)
   ·exact s x b
 exact all r x b
def jj4(ok:HOk P w H h)(e:H a=some (.dT kvs)):kvs.length<=sizeLine/\(a==sysModules)=false /\
  ∃ xs,KT H kvs xs/\h.DictOfH (tupleKind<|jQ P w) a xs:=u9 ok<|.inl e
def DGet(H:Hp)(a:Addr)(y:V)(r:Option V):Prop:=
 (∃ kvs k,Rd H a (.dK kvs)/\y=kV k/\r=Vp kvs k) \/ ∃ kvs k b,Rd H a (.dT kvs)/\y=.ref b/\H b=some (.tup<|k.map kV)/\r=Vp kvs k
def DPut(H:Hp)(a:Addr)(y v:V)(H':Hp):Prop:=
 (∃ kvs k,H a=some (.dK kvs)/\y=kV k/\kvs.length<sizeLine/\H'=upd H a (.dK<|Je kvs k v)) \/
 ∃ kvs k b,H a=some (.dT kvs)/\y=.ref b/\H b=some (.tup<|k.map kV)/\kvs.length<sizeLine/\H'=upd H a (.dT<|Je kvs k v)
theorem DGet.k{H}{a}{b}{k}(e:H a=some (.dK b)):DGet H a (kV k) (Vp b k):=.inl ⟨b,k,.inl e,rfl,rfl⟩
def DGet.t{c}{k}(e:H a=some (.dT c))(d:H b=some (.tup<|k.map kV)):DGet H a (.ref b) (Vp c k):=.inr ⟨c,k,b,.inl e,rfl,d,rfl⟩
theorem DPut.k{H}{a}{b}{k}{v}(e:H a=some (.dK b))(c:b.length<sizeLine):DPut H a (kV k) v (upd H a<|.dK<|Je b k v):=.inl ⟨b,k,e,rfl,c,rfl⟩
def DPut.t{c}{k}(e:H a=some (.dT c))(d:H b=some (.tup<|k.map kV))(f:c.length<sizeLine):
  DPut H a (.ref b) v (upd H a<|.dT<|Je c k v):=.inr ⟨c,k,b,e,rfl,d,f,rfl⟩
def Inv.big(I:Inv X pins σ H s):sysModules < ↥s:=by
 have h:=(I.mod.glob.keeps I.bk).lt;exact Nat.lt_trans (by decide) h
def zp(q:A.units+1<cLine)(I:Inv X pins σ H s)(g:DGet H a y<|some v)(o:RelV y u)(h:∀ w' s',Inv X pins σ H s'->RelV v w'->Q w' s'):
  wpAny (model X.prog X.w) A (getItem (.ref a) u) Q E s:=by
 rcases g with⟨f,k,e,i,l⟩ | ⟨f,k,b,e,i,r,l⟩
 ·subst i;obtain⟨z,hd,vs,c,j⟩:=xR I.hok e;obtain⟨w',m,d⟩:=RelO.some_of (by rw[l];exact c.val k);exact wpAny_getItem_of (jct o) j.mapOf m<|h w' _ (I.tok _) d
 ·subst i;cases(o);obtain⟨z,hd,x,c,j⟩:=u9 I.hok e;obtain⟨w',m,d⟩:=RelO.some_of (by rw[l];exact c.val k);obtain⟨p,t,n⟩:=Option.map_eq_some_iff.mp m;refine wpAny_getItem_heap (tupleKind_room_in1 q) (zq I.hok r) j t ?_;rw[n];exact h w' _ (I.tok _) d
def jiA(m:A.units+1<cLine)(I:Inv X pins σ H s)(g:DGet H a y o)(j:RelV y u)(h:∀ s',Inv X pins σ H s'->Q (.bool<|!o.isSome) s'):
  wpAny (model X.prog X.w) A (compareOp .NotIn u<|.ref a) Q E s:=by
 rcases g with⟨d,k,e,f,l⟩ | ⟨d,k,b,e,f,n,l⟩
 ·subst f;obtain⟨z,hd,vs,c,i⟩:=xR I.hok e;refine wpAny_notIn_of (jct j) hd i.mapOf ?_;rw[<- (c.val k).isSome_eq,<- l];exact h _<|I.tok _
 ·subst f;cases(j);obtain⟨z,hd,p,c,i⟩:=u9 I.hok e;refine wpAny_notIn_heap (tupleKind_room_in1 m) (zq I.hok n) hd i ?_;have q:=(c.val k).isSome_eq;rw[Option.isSome_map] at q;rw[<- q,<- l];exact h _<|I.tok _
def xS(I:Inv X pins σ H s)(c:Mut<|H a)(d:Heap.SameBut a s.heap h')(e:∃ q,h'.get? a=some q)(new:ObjOk X.prog X.w (upd H a ob) h' a ob):
  Inv X pins σ (upd H a ob) {s with heap:=h',toks:=t'}:=
 I.write c (.inl rfl) (λb q f z=>(d.2 b f).trans z) e new
def jjX(z:kvs.length<=sizeLine)(hd:(a==sysModules)=false)(b:KV kvs vs)(c:h'.DictOf (jQ P w) a vs):
  ObjOk P w H' h' a (.dK kvs):=⟨z,hd,vs,b,c⟩
def jkT{A:Around}(G:∀ kvs,H a=some (.dT kvs)->A.units+1<cLine)(I:Inv X pins σ H s)(g:DPut H a y v H')(x:RelV y u)(B:RelV v r)(h:∀ s',Inv X pins σ H' s'->Q () s'):
  wpAny (model X.prog X.w) A.in1 (dictSet a u r) Q E s:=by
 rcases g with⟨kvs,k,e,j,l,m⟩ | ⟨kvs,k,b,e,j,C,l,m⟩
 ·subst j m;obtain⟨z,hd,vs,d,n⟩:=jln I.hok e;have o:vs.length<=sizeLine:=by rw[<- d.length];exact z
  have p:(Je kvs k v).length<=sizeLine:=by have:=Ja kvs k v;lia
  refine wpAny_dictSet_pairs (hsz:=o) (jct x) n λD f t=>h _ ?_;have J:∃ q,D.get? a=some q:=let ⟨q,_,_,i,_⟩:=f;⟨q,i⟩
  exact xS I (by rw[e];exact True.intro) t J<|jjX p hd (d.put k B) f
 ·subst j m;cases(x);obtain⟨z,hd,K,d,n⟩:=jj4 I.hok e;have o:K.length<=sizeLine:=by rw[<- Paired.length d];exact z
  have p:(Je kvs k v).length<=sizeLine:=by have:=Ja kvs k v;lia
  refine wpAny_dictSet_heap (hsz:=o) (tupleKind_room_in1<|G _ e) (zq I.hok C) n λD f t=>h _ ?_;obtain⟨q,L,M,i,N,O,P,_,R⟩:=f;refine xS I (by rw[e];exact True.intro) t ⟨q,i⟩ ⟨p,hd,_,(d.put k C B).keeps λc S F=>?_,q,L,M,i,N,O,P,R⟩;rw[je<|jnT F e<|λz=>nomatch z];exact F
def Qa(c:A.units+1<cLine)(I:Inv X pins σ H s)(g:DPut H a y v H')(f:RelV y u)(i:RelV v r)(h:∀ s',Inv X pins σ H' s'->Q () s'):
  wpAny (model X.prog X.w) A (setItem (.ref a) u r) Q E s:=by
 have b:s.TypeIs (.ref a) "dict":=by
  rcases g with⟨_,_,e,_⟩ | ⟨_,_,_,e,_⟩
  ·obtain⟨_,_,_,_,d⟩:=jln I.hok e;exact d.typeIs
  ·obtain⟨_,_,_,_,d⟩:=jj4 I.hok e;exact d.typeIs
 unfold setItem;refine wpAny_holding<|L3<|wpAny_sequenceKey b (by decide) ?_;refine L3<|wpAny_callSpecial?_slot (name:=Str.ofString "__setitem__") b PySem.F.slot_dict_setitem<|wpAny_call_entry PySem.F.slot_dict_setitem b PySem.F.entry_dict_setitem ?_<|PySem.F.args_dict_setitem_3 _ _ _;refine L3<|wpAny_notOrdered_dict b ?_;show wpAny _ _ (dictSet a u r >>= _) _ _ s;exact L3<|jkT (λ_ _=>c) I g f i λs1 J=>M6 ⟨.none,rfl,M6<|h s1 J⟩
def jnc(i:Expr):Prop:=∀ ov iv,subscripted i false ov iv=operate [ov,iv] (getItem ov iv)
def jh7{prog}{w}{A}{E}{s}{env}{value slice}{pos}{T id}{Q}
  (d:typeLookup (.type T) "__getitem__" = pure (some<|.builtin id)) (e:jnc slice)
  (h:wpAny (model prog w) A (eval value env) (λo s₁=>wpAny (model prog w) A (eval slice env) (λi s₂=>s₂.TypeIs o T/\wpAny (model prog w) A (getItem o i) Q E s₂) E s₁) E s):
  wpAny (model prog w) A (eval (.Subscript value slice pos) env) Q E s:=by
 refine Subscript_<|wpAny_mono h (λo s₁ f=>wpAny_mono f (λi s₂ b=>?_) λ_ _ x=>x) λ_ _ x=>x;obtain⟨g,b⟩:=b;refine L3 ?_;refine L3<|wpAny_specialOf g d ?_;have a:wpAny (model prog w) A (subscripted slice false o i) (λr c=>wpAny (model prog w) A (letTemporaryGo value o r >>= λ_=>pure r) Q E c) E s₂:=by
  rw[e o i];exact wpAny_operating<|wpAny_mono b (λr c j=>L3<|wpAny_letTemporaryGo<|M6 j) λ_ _ x=>x
 first
  | exact M6 (L3 a)
  | exact L3 (M6 (L3 a))
  | exact L3 a
def xI(I:Inv X pins σ H s)(g:DGet H a y o):s.TypeIs (.ref a) "dict":=by
 rcases g with⟨c,k,e,_,_⟩ | ⟨c,k,b,e,_,_,_⟩
 ·obtain⟨_,_,vs,_,d⟩:=xR I.hok e;exact d.typeIs
 ·obtain⟨_,_,f,_,d⟩:=u9 I.hok e;exact d.typeIs
def jii(td ty:TE):TE:=λσ H Q=>td σ H λx H1=>ty σ H1 λy H2=>∃ a v,x=.ref a/\DGet H2 a y (some v)/\Q v H2
def KS(ty td:TE):TE:=λσ H Q=>ty σ H λy H1=>td σ H1 λx H2=>∃ a o,x=.ref a/\DGet H2 a y o/\Q (.bl<|!o.isSome) H2
def xr(td ty tv:TE):TS:=λD σ H=>tv σ H λv H1=>td σ H1 λx H2=>ty σ H2 λy H3=>∃ a H4,x=.ref a/\DPut H3 a y v H4/\D.nx σ H4
def zh(td ty tv:TE)(rd:V->V->Hp->VK->Prop):TS:=λD σ H=>td σ H λx H1=>ty σ H1 λy H2=>∃ a v,x=.ref a/\DGet H2 a y (some v) /\
 tv σ H2 λy2 H3=>rd v y2 H3 λz H4=>∃ H5,DPut H4 a y z H5/\D.nx σ H5
def jhO(e:X.A.units+1<cLine)(f:PE X o td)(hi:PE X i ty)(j:jnc i):PE X (.Subscript o i pos) (jii td ty):=by
 intro b s σ H Q I h;refine jh7 PySem.F.slot_dict_getitem.lookup j<|thn (f b s σ H _ I h) λu s1 ⟨x,k,l,m,n⟩=>thn (hi b s1 σ k _ l n) λz s2 p=>?_;obtain⟨y,q,d,r,a,v,ex,g,t⟩:=p;subst ex;obtain rfl:u=Value.ref a:=m;exact⟨xI d g,zp e d g r λB C w c=>⟨v,q,w,c,t⟩⟩
def jb2(c:X.A.units+1<cLine)(hi:PE X i ty)(d:PE X o td):PC X .NotIn i o (KS ty td):=by
 intro b s σ H Q I h;refine thn (hi b s σ H _ I h) λv s1 ⟨y,e,f,j,k⟩=>thn (d b s1 σ e _ f k) λu s2 l=>?_;obtain⟨x,m,n,p,a,q,ex,g,r⟩:=l;subst ex;obtain rfl:u=Value.ref a:=p;exact jiA c n g j λw t=>⟨.bl<|!q.isSome,m,t,rfl,r⟩
def xk(c:X.A.units+1<cLine)(d:PE X o td)(hi:PE X i ty)(e:PE X value tv)(f:swapsWith value (some<|.Subscript o i pos') pos.line X.env=pure false):
  PS X (.Assign [.Subscript o i pos'] value pos) (xr td ty tv):=by
 intro b s σ H D I h;refine wpAny_Assign_Subscript (thn (e b s σ H _ I h) λr s1 ⟨v,j,k,l,m⟩=>thn (d b s1 σ j _ k m) λu s2 ⟨x,n,p,q,t⟩=>thn (hi b s2 σ n _ p t) λG J w=>?_) f;obtain⟨y,K,z,B,a,C,ex,g,E⟩:=w;subst ex;obtain rfl:u=Value.ref a:=q;exact Qa c z g B l λL F=>⟨σ,C,F,E⟩
def Kk(j:X.A.units+1<cLine)(l:PE X o td)(hi:PE X i ty)(m:PE X value tv)(c:jm4 X op rd)
  (n:∀ ov iv new,augStore i ov iv new=(do holding [new,ov,iv] (setItem ov iv new);release [new,ov,iv] [];pure .next)):PS X (.AugAssign (.Subscript o i tpos) op value pos) (zh td ty tv rd):=by
 intro b s σ H D I h;refine wpAny_AugAssign_SubscriptAny (thn (l b s σ H _ I h) λu s1 ⟨x,p,q,r,t⟩=>thn (hi b s1 σ p _ q t) λiv s2 d=>?_) n;obtain⟨y,w,B,k,a,v,ex,g,C⟩:=d;subst ex;obtain rfl:u=Value.ref a:=r;refine zp j B g k λE F G e=>thn (m b F σ w _ G C) λw2 J ⟨K,L,M,f,N⟩=>thn (c b J σ L v K E w2 _ M e f N) λU V d=>?_;obtain⟨z,W,O,P,Q,R,S⟩:=d;exact Qa j O R k P λY T=>⟨σ,Q,T,S⟩
def ut(h:Heap)(a:sysModules<h.objs.size):ObjOk P w H (h.push {cls:=.type "dict",data:=.dict #[]}) h.objs.size (.dK []):=
 ⟨U4 _,U1.mpr<|Ne.symm<|N5 a,[],.nil,Heap.DictOf.new h⟩
def ux(h:Heap)(a:sysModules<h.objs.size):ObjOk P w H (h.push {cls:=.type "dict",data:=.dict #[]}) h.objs.size (.dT []):=
 ⟨U4 _,U1.mpr<|Ne.symm<|N5 a,[],.nil,_,#[],0,X7 _ rfl,⟨rfl,rfl,rfl⟩,rfl,rfl,List.nodup_nil⟩
def jdc:TE:=λ_ H Q=>∀ p,H p=none->Q (.ref p) (upd H p<|.dK [])
def jbp:TE:=λ_ H Q=>∀ p,H p=none->Q (.ref p) (upd H p<|.dT [])
def je5:PE X (.Dict [] [] pos) jdc:=λa s σ H Q I h=>
 wpAny_Dict_empty ⟨.ref ↥s,_,I.laid (λ_ _ q=>L8 _ q) (M8 _)<|ut s.heap I.big,rfl,h _<|I.hok.fresh<|M8 _⟩
def jdX:PE X (.Dict [] [] pos) jbp:=λa s σ H Q I h=>
 wpAny_Dict_empty ⟨.ref ↥s,_,I.laid (λ_ _ q=>L8 _ q) (M8 _)<|ux s.heap I.big,rfl,h _<|I.hok.fresh<|M8 _⟩
structure M2(X:Cx)(o:Expr)(m:Str)(apos:Pos)(e f:Expr)(cpos:Pos):Prop where
 base:attributeBase o m X.env (eval o X.env)=eval o X.env
 few:((backTo cpos<|starEach [e,f] X.env).all (λx=>!x.1)&&(backToKw cpos<|keywordEach [] X.env).all (λx=>x.1.isSome)
  && decide (([e,f]:List Expr).length+([]:List Keyword).length+(if([]:List Keyword).isEmpty then 0 else 1)<30))=true
 line:(apos.endLine==cpos.line)=true
 trees:backTo cpos (starEach [e,f] X.env)=[(false,eval e X.env),(false,eval f X.env)]
def IsD(H:Hp)(a:Addr):Prop:=(∃ kvs,Rd H a<|.dK kvs) \/ ∃ kvs,Rd H a<|.dT kvs
def jb8(I:Inv X pins σ H s)(d:IsD H a):
  s.TypeIs (.ref a) "dict"/\(∀ b,Value.ref a=.ref b->∃ ob,s.heap.get? b=some ob/\ob.dict=none)/\(a==sysModules)=false:=by
 rcases d with⟨f,e⟩ | ⟨f,e⟩
 ·obtain⟨_,hd,vs,_,c⟩:=xR I.hok e;refine⟨c.typeIs,λb q=>?_,hd⟩;cases q;obtain⟨ob,_,_,g,h,_⟩:=c;exact⟨ob,g,h.2.1⟩
 ·obtain⟨_,hd,i,_,c⟩:=u9 I.hok e;refine⟨c.typeIs,λb q=>?_,hd⟩;cases q;obtain⟨ob,_,_,g,h,_⟩:=c;exact⟨ob,g,h.2.1⟩
def jmi(n:A.units+1<cLine)(I:Inv X pins σ H s)(g:DGet H a y o)(m:RelV y u)(rd:RelV d r)(h:∀ w' s',Inv X pins σ H s'->RelV (o.getD d) w'->Q w' s'):
  wpAny (model X.prog X.w) A (call (.builtin "dict.get") [.ref a,u,r]) Q E s:=by
 rcases g with⟨i,k,e,j,l⟩ | ⟨i,k,b,e,j,p,l⟩
 ·subst j;obtain⟨z,hd,vs,c,f⟩:=xR I.hok e;refine call_meetsIn PySem.F.slot_dict_get f.typeIs PySem.F.entry_dict_get (PySem.F.args_dict_get_3 _ _ _) (meets_dict_get_default (jQ X.prog X.w) a (jct m) hd r) ⟨_,f.mapOf,h _ _ (I.tok _) ?_⟩;rw[l];exact(c.val k).getD rd
 ·subst j;cases(m);obtain⟨z,hd,q,c,f⟩:=u9 I.hok e;refine call_meetsIn PySem.F.slot_dict_get f.typeIs PySem.F.entry_dict_get (PySem.F.args_dict_get_3 _ _ _) (meetsH_dict_get_default (tupleKind<|jQ X.prog X.w) a b hd r) ⟨tupleKind_room_in1 n,k,q,zq I.hok p,f,h _ _ (I.tok _) ?_⟩;rw[l];exact(c.val k).getD rd
def jdq(td ty tx:TE):TE:=λσ H Q=>td σ H λx H1=>∃ a,x=.ref a/\IsD H1 a/\ty σ H1 λy H2=>tx σ H2 λz H3=>∃ o,DGet H3 a y o/\Q (o.getD z) H3
def je0(j:X.A.units+1<cLine)(k:PE X o td)(l:PE X e ty)(n:PE X f tx)(m:M2 X o "get" apos e f cpos):PE X (.Call (.Attribute o "get" apos) [e,f] [] cpos) (jdq td ty tx):=by
 intro b s σ H Q I h;refine wpAny_Call_method m.base m.few m.line PySem.F.plainAttrs_dict PySem.F.slot_dict_get PySem.F.type_dict_get<|thn (k b s σ H _ I h) λu s1 p=>?_;obtain⟨x,q,i,r,a,ex,d,t⟩:=p;subst ex;obtain rfl:u=Value.ref a:=r;obtain⟨v,w,_⟩:=jb8 i d;refine⟨v,w,?_⟩;rw[m.trees];refine Calls.callWith_builtin rfl<|Calls.evalArgs_plain<|Calls.spliced_cons<|thn (l b s1 σ q _ i t) λN s2 ⟨y,B,C,D,E⟩=>
  Calls.spliced_cons (thn (n b s2 σ B _ C E) λO P ⟨z,G,J,K,R,g,L⟩=>Calls.spliced_nil ?_)
 exact jmi j J g D K λS T M c=>⟨_,G,M,c,L⟩
end L2
namespace PySem
open Sem (wp)
namespace F
def lk_list_keys:typeLookup (.type "list") "keys" = pure none:=by rw[typeLookup_type,builtinLookup_eq_fast];kernel_rfl
def lk_list_getattr:typeLookup (.type "list") "__getattr__" = pure none:=by rw[typeLookup_type,builtinLookup_eq_fast];kernel_rfl
def plain_dict_loop:plainId "dict.update.loop" = true:=by decide +kernel
def entry_dict_loop:entryFor table "dict.update.loop" = some Builtin.«dict.update.loop»:=entryFor_of_fast (by kernel_rfl)
end F
section
variable {prog:Program}{w:World}{A:Around}{E:J0}{h:Heap}{g:Array GenState}{d:Drawn}{t:Nat}{os:OsState}{a:Addr}{o:Obj}
def F.sub_attrErr:isSubtype (.type "AttributeError") (.type "AttributeError")=pure true:=by rw[isSubtype_type];kernel_rfl
def jfw{x nm}{e}{y}{Q}(a:h.get? e=some {cls:=.type "AttributeError",data:=.fields #[y,.none,.none,.none,.bool false,.none,unsetMember,unsetMember]})
  (c:∀ h',(∀ b o,b≠e->h.get? b=some o->h'.get? b=some o)->(∃ ob,h'.get? e=some ob/\ob.cls=.type "AttributeError")->Q () ⟨h',g,d,t,os⟩):
  wpAny (model prog w) A (noteAttr (.ref e) x nm) Q E ⟨h,g,d,t,os⟩:=by
 have j:=F.sub_attrErr
 repeat (any_goals (first | assumption | wp_step))
 refine c _ (λb o f i=>?_) ⟨_,Heap.get?_update_self _ a rfl,rfl⟩
 ·rw[Heap.get?_update_ne _ _ _ _ f];exact i
def jaC{α}{x}{nm a}{Q}(k:a.length<=sizeLine)(l:A.handled=none)
  (m:∀ h' e t',(∀ b o,h.get? b=some o->h'.get? b=some o)->h.get? e=none->(∃ ob,h'.get? e=some ob/\ob.cls=.type "AttributeError")->E (.ref e) ⟨h',g,d,t',os⟩):
  wpAny (model prog w) A (raiseAttrError x nm a:Sem α) Q E ⟨h,g,d,t,os⟩:=by
 refine L3<|wpAny_mkStr (L3<|L3<|wpAny_newObj_type ?_) k;refine L3<|wpAny_of_eq (by simp only[firstArgMember];rfl) ?_;refine wpAny_newObj_type<|L3<|wpAny_mkText<|L3<|jfw (X7 _ rfl) λh' n p=>?_;refine L3<|wpAny_handled ?_;rw[l];have c:∀ f,E (.ref (h.push {cls:=.type "tuple",data:=.seq #[Value.str a t]}).objs.size) ⟨h',g,d,f,os⟩:=λf=>m h' _ _ (λb o i=>n b o (λz=>by
  have j:=N0 i;rw[z] at j;exact absurd j<|Nat.not_lt.mpr<|by simp)<|L8 _<|L8 _ i) (Heap.get?_none_of_le<|by simp) p
 first
  | exact wpAny_throw (c _)
  | exact L3 (M6 (wpAny_throw (c _)))
def jap{its}{n}{sl}{c}{Q}(f:A.handled=none)(j:h.get? a=some {cls:=.type "list",data:=.seq its n,slots:=sl})
  (i:∀ h' e t',(∀ b o,h.get? b=some o->h'.get? b=some o)->h.get? e=none->(∃ ob,h'.get? e=some ob/\ob.cls=.type "AttributeError")->E (.ref e) ⟨h',g,d,t',os⟩):
  wpAny (model prog w) A (Builtin.«object.__getattribute__» ⟨[.ref a,.str "keys" c],[]⟩) Q E ⟨h,g,d,t,os⟩:=by
 have k:=F.lk_list_keys
 repeat (any_goals (first | assumption | wp_step))
 exact jaC (by decide +kernel) f i
def jdz{its}{n}{sl}{f}{R}(i:A.handled=none)(c:h.get? a=some {cls:=.type "list",data:=.seq its n,slots:=sl})
  (j:∀ h' e t',(∀ b o,h.get? b=some o->h'.get? b=some o)->h.get? e=none->(∃ ob,h'.get? e=some ob/\ob.cls=.type "AttributeError")->R (.error<|.ref e) ⟨h',g,d,t',os⟩):
  codeAny (model prog w) A (.call (.builtin "list.__getattribute__") ⟨[.ref a,.str "keys" f],[]⟩) R ⟨h,g,d,t,os⟩:=by
 exact codeAny_call_builtin F.slot_list_getattribute.plain F.entry_list_ga<|F.slot_list_getattribute.check _ _ _ _ _ _ _ _ (⟨_,c,rfl⟩) (F.args_list_getattribute_2 _ _)<|jap (i) c j
def jiS{its}{n}{sl}{j}{Q}(k:A.handled=none)(l:h.get? a=some {cls:=.type "list",data:=.seq its n,slots:=sl})
  (m:∀ h' e t',(∀ b o,h.get? b=some o->h'.get? b=some o)->h.get? e=none->(∃ ob,h'.get? e=some ob/\ob.cls=.type "AttributeError")->E (.ref e) ⟨h',g,d,t',os⟩):
  wpAny (model prog w) A (getAttrBy (.ref a) (.str "keys" j) false) Q E ⟨h,g,d,t,os⟩:=by
 have v:=F.sub_attrErr;have x:=F.slot_list_getattribute.lookup;have y:=F.slot_list_getattribute.bind<|.ref a;have z:=F.lk_list_getattr
 repeat (any_goals (first | assumption | wp_step))
 refine jdz k l λh' e t' p q i=>?_;have c:=i;obtain⟨ob,f,r⟩:=i;have s:(⟨h',g,d,t',os⟩:Shared).TypeIs (.ref e) "AttributeError":=⟨_,f,r⟩;have u:=m h' e t' p q c
 repeat (any_goals (first | assumption | wp_step))
def jcO{its}{n}{sl}{Q}(f:A.handled=none)(i:h.get? a=some {cls:=.type "list",data:=.seq its n,slots:=sl})
  (j:∀ h' t',(∀ b o,h.get? b=some o->h'.get? b=some o)->Q none ⟨h',g,d,t',os⟩):wpAny (model prog w) A (getAttr? (.ref a) "keys") Q E ⟨h,g,d,t,os⟩:=by
 refine L3<|wpAny_mkText<|L3<|wpAny_attempt<|jiS f i λh' e t' k r l=>?_;obtain⟨ob,c,m⟩:=l;have p:(⟨h',g,d,t',os⟩:Shared).TypeIs (.ref e) "AttributeError":=⟨_,c,m⟩;have s:=F.sub_attrErr;have q:=j h' t' k
 repeat (any_goals (first | assumption | wp_step))
end
section
variable {prog:Program}{w:World}{K:Type} [DecidableEq K] {knd:KeyKind prog w K}{A:Around}{E:J0}{s:Shared}
def jah(d:s.heap.get? p=some o)(b:o.cls=.type "tuple")(hd:o.data=.seq #[key,x] m)(e:Q [key,x] s):wpAny (model prog w) A (Builtin.Dict.pairItems<|.ref p) Q E s:=by
 obtain⟨oc,od,a,c⟩:=o;subst b;subst hd
 repeat (any_goals (first | assumption | wp_step))
end
end PySem
namespace L2
open PySem PySem.Spec PyProof.Rows
def Jo{D}{o u}(b:H D=none)(e:H a=some u):upd H D o a=some u:=by rw[je λz=>by rw[z,b] at e;cases e];exact e
def wY{K}{D}{o}(b:H D=none)(h:SqL K H a xs):SqL K (upd H D o) a xs:=Or.imp_left (Or.imp (Jo b) λ⟨q,h⟩=>⟨q,Jo b h⟩) h
def jeJ{K}{D}{o}(b:H D=none)(h:SqT K H a xs):SqT K (upd H D o) a xs:=Or.imp_left (Or.imp (Jo b) λ⟨q,h⟩=>⟨q,Jo b h⟩) h
def jhm{X}{A:Around}{R}{Hs:Nat->Hp}{ys:List V}{d N D}(T:A.handled=none)(U:∀ i kvs,Hs i D=some (.dT kvs)->A.units+1<cLine)
  (f:∀ i,SqL X.K (Hs i) N ys/\wg X pins (Hs i) d)
  (W:∀(j:Nat) y,ys[j]?=some y->∃ t a b,y=.ref t/\SqT X.K (Hs j) t [a,b]/\DPut (Hs j) D a b (Hs<|j+1))
  (Y:∀ s',Inv X pins σ (Hs ys.length) s'->R (.ok<|.ret .none) s'):∀ k i s,i+k=ys.length->Inv X pins σ (Hs i) s->s.heap.IsListIter d N i ->
  codeAny (model X.prog X.w) A (.builtin "dict.update.loop" ⟨[.ref D,.ref d,rawInt i,.none],[]⟩) R s:=by
 intro k
 induction k with
 | zero=>
  intro i s O I q;obtain⟨r,x,p,_⟩:=I.list (f i).1;obtain⟨B,C,Z,E,G,H⟩:=(f i).2;refine codeAny_builtin F.entry_dict_loop<|L3<|wpAny_pyNext_list_end (A:=A.in1) T q p.isList (by have:=x.length;simp;lia) λL eb=>?_;have m:Inv X pins σ (Hs i) {s with heap:=L}:=I.turned (λb o c e=>eb b o c e) B C E G H;have fin:=Y _ (by rw[<- O];exact m)
  repeat (any_goals (first | assumption | wp_step))
 | succ k ih=>
  intro i s O I q;obtain⟨r,x,p,_⟩:=I.list (f i).1;have hf:=(f i).2;obtain⟨B,C,Z,E,G,H⟩:=hf;have P:=X5 (l:=ys) (i:=i) ∅;obtain⟨t,a,b,ey,hT,g⟩:=W i _ P;obtain⟨u,M,Q⟩:=x.get P;rw[ey] at Q;cases(Q);refine codeAny_builtin F.entry_dict_loop<|L3<|wpAny_pyNext_list_item q p.isList ⇑M λL h sb=>?_;have m:Inv X pins σ (Hs i) {s with heap:=L}:=I.turned (λb o c e=>(sb.2 b c).trans e) B C E G H;obtain⟨S,tv,⟨o,e,hc,n,hd⟩,_⟩:=m.tuple hT;obtain⟨u1,u2,rfl,r1,r2⟩:=tv.two;obtain⟨oi,ei,ci,di⟩:=id h;have I2:=m.pinned (fp:=[d]) (λb c=>by rw[M7.mp c];exact(f i).2) λb c=>⟨oi,by rw[M7.mp c];exact ei,λv z=>by rw[di] at z;cases z⟩;refine L3<|wpAny_holding<|L3<|wpAny_tryCatch<|jah e hc hd<|wpAny_holding<|jkT (U i) I2 g r1 r2 λs' J=>M6 ⟨plainId_quiet F.plain_dict_loop _,?_⟩;exact ih (i+1) s' ∅ J.unpinned (h.at λo e=>(J.pin (d,o)<|U2 _<|U2 _<|kg (by simp) e).1)
def jjU{α κ} [DecidableEq κ] {f:α->κ}{g:α->V}{ps:List α}:∀{qs},(ps.foldl (λa x=>Je a (f x)<|g x) qs).length<=qs.length+ps.length:=by
 induction ps with
 | nil=>intro qs;simp
 | cons p ps b=>
  intro qs;have c:=b (qs:=Je qs (f p)<|g p);have d:=Ja qs (f p)<|g p;rw[U9,M1]
  lia
def Vz{X α κ} [DecidableEq κ] (L:X.calm=true) {f:α->κ}{g ky:α->V}{ob:List (κ×V)->HO}{ok:Hp->α->Prop}(S:∀ l m,ob l=.dT m->X.A.units+10<cLine)
  (T:∀(h:Heap) H,sysModules<h.objs.size->ObjOk X.prog X.w H (h.push {cls:=.type "dict",data:=.dict #[]}) h.objs.size (ob []))
  (U:∀ H D l x,H D=none->ok H x->l.length<sizeLine->DPut (upd H D<|ob l) D (ky x) (g x) (upd H D<|ob<|Je l (f x)<|g x)):
  km X (.type "dict") (λxs H Q=>∃(p:Addr) (ys:List V) (ps:List α),xs=[.ref p]/\SqL X.K H p ys/\ys.length=ps.length/\ps.length<=100000 /\
  (∀(j:Nat) y,ys[j]?=some y->∃ kv t,ps[j]?=some kv/\y=.ref t/\SqT X.K H t [ky kv,g kv]/\ok H kv)/\∀ D,H D=none->Q (.ref D) (upd H D<|ob<|ps.foldl (λa kv=>Je a (f kv)<|g kv) [])):=by
 intro c s σ H xs us Q I r h;obtain⟨p,ys,ps,rfl,M,W,hz,Y,q⟩:=h;obtain⟨u,rfl,Z⟩:=r.one;cases Z;have k:=I.hok.fresh<|M8 ↥s;have N:Inv X c σ (upd H ↥s (ob [])) { s with heap:=s.heap.push {cls:=.type "dict",data:=.dict #[]} }:=I.laid (λb o e=>L8 _ e) (M8 _)<|T _ _ I.big;obtain⟨its,rv,⟨o,n,e,v,B,C⟩,_⟩:=N.list<|wY k M;obtain⟨oc,od,E,osl⟩:=o;subst v B C;refine callType_codes (Q₁:=λobj O=>obj=.ref ↥s/\O={ s with heap:=s.heap.push {cls:=.type "dict",data:=.dict #[]} }) F.kt_called_dict (F.kt_typeCall_dict_1 _) F.entry_dict_init (kt_code_dict_new _ ⟨rfl,rfl⟩) ?_;rintro obj O ⟨rfl,rfl⟩;have P:=Heap.DictOf.typeIs (s:={ s with heap:=s.heap.push {cls:=.type "dict",data:=.dict #[]} })<|Heap.DictOf.new (knd:=jQ X.prog X.w) s.heap;refine⟨P,F.args_dict_init_2 _ _,L3<|L3<|wpAny_notOrdered_dict P<|M6<|L3<|wpAny_typeOf ⟨_,e,rfl⟩<|L3<|jcO (I.ok.hd L) e λh2 t2 d=>?_⟩;rw[if_pos<|show(Option.isNone none)=true from rfl];refine L3<|wpAny_rule<|L3<|wpAny_pyIter_list (l:=p) ⟨_,d _ _ e,rfl,n,rfl⟩<|M6 ⟨plainId_quiet F.plain_dict_loop _,?_⟩;have R:Inv X c σ (upd H ↥s (ob [])) {s with heap:=h2,toks:=t2}:=N.kept d;have G:=N0<|d _ _<|X7 _ rfl;refine jhm (A:=X.A.in1) (Hs:=λi=>upd H ↥s (ob<|(ps.take i).foldl (λa kv=>Je a (f kv)<|g kv) [])) (I.ok.hd L) (λi m z=>?_) (λi=>⟨wY k M,R.fpOk (M8 _) ?_⟩) (λj y hy=>?_) (λs' J=>?_) ys.length 0 _ (Nat.zero_add _) (R.kept λb o e=>L8 _ e) ⟨_,X7 _ rfl,rfl,rfl⟩
 ·rw[jk] at z;have:=S _ _<|X3 z;show X.A.units+1+1<_
  lia
 ·rw[je<|Ne.symm<|N5 G];exact I.hok.fresh ∅
 ·obtain⟨kv,t,e1,rfl,h3,h4⟩:=Y j y hy;refine⟨t,_,_,rfl,jeJ k h3,?_⟩;rw[List.take_add_one,e1,List.foldl_append];exact U _ _ _ _ k h4 (by have:=jjU (f:=f) (g:=g) (ps:=ps.take j) (qs:=[]);have:sizeLine=16777216:=rfl;simp at *;lia)
 ·rw[W,List.take_length] at J;exact⟨rfl,.ref _,_,J,rfl,q _ k⟩
def jaj{X}(i:X.calm=true):km X (.type "dict") (λxs H Q=>∃(p:Addr) (ys:List V) (ps:List<|Key×V),xs=[.ref p]/\SqL X.K H p ys/\ys.length=ps.length/\ps.length<=100000 /\
  (∀(j:Nat) y,ys[j]?=some y->∃ kv t,ps[j]?=some kv/\y=.ref t/\SqT X.K H t [kV kv.1,kv.2])/\∀ D,H D=none->Q (.ref D) (upd H D<|.dK<|ps.foldl (λa kv=>Je a kv.1 kv.2) [])):=
 λd s σ H xs m Q I r ⟨p,ys,ps,n,q,u,w,z,A⟩=>Vz (ok:=λ_ _=>True) (ky:=λx=>kV x.1) (f:=(·.1)) (g:=(·.2)) (ob:=.dK) i (λ_ _ e=>nomatch e) (λh H b=>ut h b)
  (λH D l x E _ B=>by have:=DPut.k (k:=x.1) (v:=x.2) (jk (H:=H) (a:=D) (o:=.dK l)) B;rw[jde] at this;exact this) d s σ H xs m Q I r
  ⟨p,ys,ps,n,q,u,w,λj y C=>let ⟨kv,t,a,b,c⟩:=z j y C;⟨kv,t,a,b,c,trivial⟩,A⟩
def xw{X}(c:X.calm=true)(d:X.A.units+10<cLine):km X (.type "dict") (λxs H Q=>∃(p:Addr) (ys:List V) (ps:List<|List Key×Addr×V),xs=[.ref p]/\SqL X.K H p ys/\ys.length=ps.length/\ps.length<=100000 /\
  (∀(j:Nat) y,ys[j]?=some y->∃ kv t,ps[j]?=some kv/\y=.ref t/\SqT X.K H t [.ref kv.2.1,kv.2.2]/\H kv.2.1=some (.tup<|kv.1.map kV))/\∀ D,H D=none->Q (.ref D) (upd H D<|.dT<|ps.foldl (λa kv=>Je a kv.1 kv.2.2) [])):=
 Vz (ok:=λH (x:List Key×Addr×V)=>H x.2.1=some (.tup<|x.1.map kV)) c (λ_ _ _=>d) (λh H b=>ux h b)
  λH D l (x:List Key×Addr×V) e f g=>by have:=DPut.t (k:=x.1) (b:=x.2.1) (v:=x.2.2) (jk (H:=H) (a:=D) (o:=.dT l)) (Jo e f) g;rw[jde] at this;exact this
def Inv.layAll(I:Inv X pins σ H s)(k:∀ b u,s.heap.get? b=some u->h'.get? b=some u)(a:∀ b,H b≠none->H' b=H b)
  (new:∀ b o,H b=none->H' b=some o->↥s<=b/\ObjOk X.prog X.w H' h' b o):Inv X pins σ H' {s with heap:=h',toks:=t'}:=by
 refine I.un ⟨λb u q _ _ _=>k b u q,λb u q _ _ _=>⟨u.slots,k b u q⟩,λb u q n _=>?_,λb u q _=>⟨u,k b u q⟩,λb f q=>?_,λb o u q=>?_,λb g q=>⟨#[],?_⟩⟩ λb o e=>?_
 ·cases e:H' b with
  | none=>rfl
  | some o=>exact absurd (N0 q)<|Nat.not_lt.mpr (new b o n e).1
 ·rw[a b<|by rw[q];exact λz=>nomatch z];exact q
 ·rw[a b<|by rw[q];exact λz=>nomatch z];exact q
 ·rw[a b (by rw[q];exact λz=>nomatch z),q];simp
 ·by_cases n:H b=none
  ·exact(new b o n e).2
  ·have d:=e;rw[a b n] at d;exact(I.hok b o d).stay (λc u _ q=>k c u q) (λc q=>by rw[a c<|by rw[q];exact λz=>nomatch z];exact q) λc f q=>by rw[a c<|by rw[q];exact λz=>nomatch z];exact q
def jnX(h:(jQ P w).is k u=true):RelV (kV k) u:=by
 rcases jO h with⟨i,t,rfl,rfl⟩ | ⟨x,t,rfl,rfl⟩
 ·exact⟨t,rfl⟩
 ·exact⟨t,rfl⟩
def jR(H:Hp)(as:W5)(kvs:List<|Key×V)(l:Addr):Hp:=λb=>if b=l then some (.lst<|as.map V.ref) else
 match (as.zip kvs).find? (λp=>p.1==b) with
 | some p=>some<|.tup [kV p.2.1,p.2.2]
 | none=>H b
def Kx{as:W5}{a}(d:as.Nodup){j:Nat}{p:Key×V}(h1:as[j]?=some b)(h2:a[j]?=some p):(as.zip a).find? (λq=>q.1==b)=some (b,p):=by
 induction as generalizing a j with
 | nil=>simp at h1
 | cons c as e=>
  cases a with
  | nil=>simp at h2
  | cons q a=>
   rw[U6,List.find?_cons];cases j with
   | zero=>
    simp at h1 h2;subst h1;subst h2;simp
   | succ j=>
    simp at h1 h2;have f:c≠b:=λz=>(List.nodup_cons.mp d).1 (z▸List.mem_of_getElem? h1);have:=U1.mpr f;simp only[this];exact e (List.nodup_cons.mp d).2 h1 h2
def kH{as:W5}{a:List (Key×V)}(h:b∉as):(as.zip a).find? (λq=>q.1==b)=none:=by
 rw[List.find?_eq_none];intro q c z;have:q.1=b:=by simpa using z
 exact h<|this▸(List.of_mem_zip c).1
theorem jkC:∀{A}{B:List (Key×Value)}{j:Nat},KV A B->B[j]?=some (kk,x)->∃ y,A[j]?=some (kk,y)/\RelV y x
 | [],_,j,.nil,e=>by simp at e
 | p0::A,c::B,0,.cons a b,e=>by
  simp at e;subst e;refine⟨p0.2,?_,a.2⟩;have:p0.1=kk:=a.1;simp[<- this]
 | p0::A,c::B,j+1,.cons a b,e=>by
  obtain⟨y,d,e2⟩:=jkC b ⇑e;exact⟨y,by simpa using d,e2⟩
def xv(td:TE):TE:=λσ H Q=>td σ H λx H1=>∃ a kvs,x=.ref a/\Rd H1 a (.dK kvs)/\∀ l as,H1 l=none->as.length=kvs.length->(l::as).Nodup->(∀ b∈as,H1 b=none)->Q (.ref l) (jR H1 as kvs l)
def jcE(T:X.calm=true)(U:Gl X "list")(V:X.mg "list" = none)(Y:bootBuiltins "list" = some (.type "list"))(Z:PE X o td)
  (m:attributeBase o "items" X.env (eval o X.env)=eval o X.env:=by rfl) (n:(apos.endLine==cpos.line)=true:=by rfl)
  (he:starEach [.Call (.Attribute o "items" apos) [] [] cpos] X.env=(false,eval (.Call (.Attribute o "items" apos) [] [] cpos) X.env)::starEach [] X.env:=by rfl)
  (G:(backTo pos<|starEach [] X.env).any (·.1)=false:=by rfl)
  (hbt:backTo pos (starEach [.Call (.Attribute o "items" apos) [] [] cpos] X.env)=[(false,eval (.Call (.Attribute o "items" apos) [] [] cpos) X.env)]:=by rfl):
  PE X (.Call (.Name "list" p) [.Call (.Attribute o "items" apos) [] [] cpos] [] pos) (xv td):=by
 intro C s σ H Q I h;refine wpAny_Call_Name_kw<|Jn I U V Y (PyProof.Rows.callWith_type1 (Calls.spliced_cons<|wpAny_Call_method0_late m n<|thn (Z C s σ H _ I h) λv s1 hh=>?_) he G) (by decide) (by decide);obtain⟨x,H1,i,r1,a,r,ex,M,N⟩:=hh;subst ex;obtain rfl:v=Value.ref a:=r1;obtain⟨O,hd,vs,J,K⟩:=xR i.hok M;obtain⟨t1,t2,_⟩:=jb8 i<|.inl ⟨r,M⟩;refine⟨"dict","dict.items",PySem.F.plainAttrs_dict,PySem.F.slot_dict_items,PySem.F.type_dict_items,t1,t2,Calls.callWith_builtin rfl<|PySem.evalArgs_none<|call_meetsIn PySem.F.slot_dict_items K.typeIs PySem.F.entry_dict_items (PySem.F.args_dict_items_1 _) (meets_dict_items (jQ X.prog X.w) a hd) ⟨⟨vs,K⟩,(Calls.spliced_nil ?_)⟩⟩;obtain⟨ob,es,ep,d1,d2⟩:=K;have L:(s1.heap.push {cls:=.type "dict_items",data:=.fields #[.ref a]}).DictAt (jQ X.prog X.w) a vs ep:=⟨ob,es,L8 _ d1,d2⟩;refine PySem.W.kdx_call (i.ok.hd T) ⟨_,X7 _ rfl,rfl,rfl⟩ L (by rw[<- J.length];exact O) λh' tk acc c k hk P R D l=>?_;have f:(s1.heap.push ({cls:=.type "dict_items",data:=.fields #[.ref a]}:Obj)).objs.size=↥s1+1:=Heap.size_push _ _;have nd:=D.rise.imp N5;have t:k.length=r.length:=by rw[R,J.length]
 have g:∀ b∈k,↥s1<=b:=λb d=>by have q:=D.above b d;rw[f] at q;lia
 have E:=λb d=>Nat.ne_of_gt<|D.above b d;refine⟨.ref _,jR H1 k r (s1.heap.push ({cls:=.type "dict_items",data:=.fields #[.ref a]}:Obj)).objs.size,i.layAll (λb u e=>hk b u<|L8 _ e) (λb d=>?_)<|λb u d e=>?_,rfl,N _ k (i.hok.fresh<|by rw[f];lia) t (List.nodup_cons.mpr ⟨λz=>E _ z rfl,nd⟩) λb d=>i.hok.fresh<|g b d⟩
 ·unfold jR;rw[if_neg<|λz=>d<|by rw[z];exact i.hok.fresh<|by rw[f];lia,kH λz=>d<|i.hok.fresh<|g b z]
 ·unfold jR at e;by_cases A:b=(s1.heap.push ({cls:=.type "dict_items",data:=.fields #[.ref a]}:Obj)).objs.size
  ·rw[if_pos A] at e;cases e;subst A;refine⟨by rw[f];lia,by rw[L1,t];exact O,k.map Value.ref,c,?_,?_⟩
   ·clear P l D R nd t g E N
    induction k with
    | nil=>exact .nil
    | cons x k ih=>exact .cons rfl ih
   ·rw[P,<- l]
  ·rw[if_neg A] at e;by_cases B:b∈k
   ·obtain⟨j,S⟩:=List.mem_iff_getElem?.mp B;obtain⟨key,kk,x,e1,e2,e3⟩:=D.pairs j b S;obtain⟨y,ey,r1⟩:=jkC J e1;rw[Kx nd S ey] at e;cases e;exact⟨g b B,show 2<=sizeLine by decide,[key,x],.cons (jnX e2)<|.cons r1 .nil,⟨_,e3,rfl,0,rfl⟩,_,e3,rfl⟩
   ·rw[kH B] at e;exact absurd e (by rw[d];exact λz=>nomatch z)
section
variable {prog:Program}{w:World}{A:Around}{E:J0}{s:Shared}
def jdT{j t}{n}{a}{y}{C}(d:s.heap.IsTupleIter j t n)(e:s.heap.IsTuple t a)(f:a[n]?=some y)
  (go:∀ k,k.IsTupleIter j t (n+1)->Heap.SameBut j s.heap k->C y {s with heap:=k}):wpAny (model prog w) A (Builtin.SmallTypes.nextOf<|.ref j) C E s:=by
 obtain⟨i,c,g,b⟩:=id d;obtain⟨ot,gt,_,mt,h⟩:=e;refine L3<|wpAny_callSpecial?_slot d.typeIs F.slot_tuple_iterator_next<|wpAny_call_entry F.slot_tuple_iterator_next d.typeIs F.entry_tuple_iterator_next ?_<|F.args_tuple_iterator_next_1 _;show wpAny _ _ (field (.ref j) 0 >>= _) _ _ s;refine L3<|U5 c b rfl<|L3<|U5 c b rfl<|L3<|wpAny_seqItems gt h ?_;simp only[N7,f];refine L3<|wpAny_setField c b (by simp)<|M6 ⟨y,rfl,M6<|go _ ⟨_,Heap.get?_update_self _ c<|Obj.isFreed_of_fields<|Obj.data_mapFields b _,(Obj.cls_mapFields ..).trans g,?_⟩<|Heap.SameBut.update ..⟩;rw[Obj.data_mapFields b];simp[rawInt]
variable {z TI TO j1 j2 l t:Addr}{m:Nat}{us vs:Array Value}{u v a b:Value}
end
def jne(l)(items)(n)(b)(a)(d)(e)(sl)(g:¬(!items.isEmpty&&Builtin.List.listTooLong (items.size+a.size))=true)(h1:items.size<=sizeLine)(h2:items.size+a.size<=sizeLine+1):
  Meets (Builtin.«list.extend» ⟨[.ref l,.ref b],[]⟩) (λ_ R s=>s.heap.get? l=some {cls:=.type "list",dict:=none,data:=.seq items n,slots:=#[]}/\s.heap.get? b=some {cls:=.type "list",dict:=e,data:=.seq a d,slots:=sl}/\R (.ok<|.ret Value.none) {s with heap:=s.heap.update l (Obj.mapSeq λx=>x++a)}):=
 .of_wp λprog w A R s h=>by
  rcases s with⟨i,j,k,m,os⟩;obtain⟨c,f,q⟩:=h;have o:(items++a).size<=sizeLine+1:=by rw[Array.size_append];exact h2
  wp_walk using(wpAny_updateSeq c rfl),wpAny_loadPart' c,wpAny_loadPart' f
  exact⟨_,rfl,q⟩
def joI(l)(items)(n)(b)(a)(d)(e)(sl)(g:¬(!items.isEmpty&&Builtin.List.listTooLong (items.size+a.size))=true)(h1:items.size<=sizeLine)(h2:items.size+a.size<=sizeLine+1):
  Meets (Builtin.«list.extend» ⟨[.ref l,.ref b],[]⟩) (λ_ R s=>s.heap.get? l=some {cls:=.type "list",dict:=none,data:=.seq items n,slots:=#[]}/\s.heap.get? b=some {cls:=.type "tuple",dict:=e,data:=.seq a d,slots:=sl}/\R (.ok<|.ret Value.none) {s with heap:=s.heap.update l (Obj.mapSeq λx=>x++a)}):=
 .of_wp λprog w A R s h=>by
  rcases s with⟨i,j,k,m,os⟩;obtain⟨c,f,q⟩:=h;have o:(items++a).size<=sizeLine+1:=by rw[Array.size_append];exact h2
  wp_walk using(wpAny_updateSeq c rfl),wpAny_loadPart' c,wpAny_loadPart' f
  exact⟨_,rfl,q⟩
def jid(K:W4):V->List V->Hp->VK->Prop:=λx vs H Q=>∃ l b xs zs,x=.ref l/\vs=[.ref b]/\H l=some (.lst xs)/\(SqL K H b zs\/SqT K H b zs)/\xs.length+zs.length<=sizeLine/\Q .non (upd H l<|.lst<|xs++zs)
def jhs:MtM X "list.extend" (jid X.K):=by
 intro t s σ H x vs v D Q I y A h;obtain⟨l,b,E,zs,rfl,rfl,m,g,w,q⟩:=h;cases y;obtain⟨u,rfl,B⟩:=A.one;cases B;obtain⟨z,c,n,r,G,e⟩:=I.lstM m;rcases g with g | g
 ·obtain⟨a,r2,p2,_⟩:=I.list g;obtain⟨⟨cls,i,data,j⟩,k,e2,o,hd,C⟩:=p2
  first | subst o | skip
  have f:c.toArray.size+a.toArray.size<=sizeLine:=by rw[N2,N2,<- r.length,<- r2.length];exact w
  have d:¬ (!c.toArray.isEmpty&&Builtin.List.listTooLong (c.toArray.size+a.toArray.size))=true:=by
   rw[KJ f,Bool.and_false];exact M3
  have p:s.heap.get? b=some {cls:=.type "list",dict:=i,data:=.seq a.toArray k,slots:=j}:=by
   rw[e2];simp_all
  refine call_meets PySem.F.slot_list_extend ⟨_,e,rfl⟩ PySem.F.entry_list_extend (PySem.F.args_list_extend_2 _ _) (jne l c.toArray n b a.toArray k i j d ∅ ∅) ⟨e,p,⟨.non,_,I.lset m e (by simp) (r.append r2) ?_,rfl,q⟩⟩;rw[N3]
  lia
 ·obtain⟨a,r2,p2,_⟩:=I.tuple g;obtain⟨⟨cls,i,data,j⟩,e2,o,k,hd⟩:=p2;subst o hd;have f:c.toArray.size+a.toArray.size<=sizeLine:=by rw[N2,N2,<- r.length,<- r2.length];exact w
  have d:¬ (!c.toArray.isEmpty&&Builtin.List.listTooLong (c.toArray.size+a.toArray.size))=true:=by
   rw[KJ f,Bool.and_false];exact M3
  refine call_meets PySem.F.slot_list_extend ⟨_,e,rfl⟩ PySem.F.entry_list_extend (PySem.F.args_list_extend_2 _ _) (joI l c.toArray n b a.toArray k i j d ∅ ∅) ⟨e,e2,⟨.non,_,I.lset m e (by simp) (r.append r2) ?_,rfl,q⟩⟩;rw[N3]
  lia
def jbE:km X (.type "int") (λxs H Q=>∃ b:Bool,xs=[.bl b]/\Q (.int<|if b then 1 else 0) H):=by
 intro a s σ H xs d Q I r h;obtain⟨b,rfl,q⟩:=h;obtain⟨u,rfl,c⟩:=r.one;cases c;exact call_int_bool ⟨.int<|if b then 1 else 0,H,I.tok _,⟨_,rfl⟩,q⟩
section
def jjM(ft:TypeCalled T nw it)
  (c1:checkTypeCall T ⟨xs,kw⟩=pure ()) (d:checkBuiltinCall nw ⟨.type T::xs,kw⟩=pure ()) (f:entryFor table nw=some Bn) (i:entryFor table it=some Bi)
  (g:Meets (Bn ⟨.type T::xs,kw⟩) Sn) (h:Sn A.in1 (wants Q1 E) s)
  (nx:∀ obj s1,Q1 obj s1->s1.TypeIs obj T/\argsOk it ⟨obj::xs,kw⟩/\∃ Si,MeetsIn prog w (Bi ⟨obj::xs,kw⟩) Si/\Si A.in1 (wants (λr s2=>r=.none/\Q obj s2) E) s1):
  wpAny (model prog w) A (call (.type T) xs kw) Q E s:=by
 obtain⟨c,p,q⟩:=ft.mro;have t:=ft.made;have u:=ft.sub;refine wpAny_call<|codeAny_of_tree<|M6 ⟨Code.quiet_builtin _<|by decide +kernel,codeAny_builtin F.entry_type_call ?_⟩;have v:=ft.notType;have x:=ft.canCreate
 repeat (any_goals (first | assumption | wp_step))
 refine codeAny_mono (codeAny_call_builtin ft.plain f<|wpAny_of_eq d<|g prog w A.in1 _ s h) λr s1 b=>?_;cases r with
 | error e=>exact b
 | ok j=>
  cases j with
  | ret obj=>
   obtain⟨k,l,Si,m,n⟩:=nx _ _ b;have y:=ft.init.lookup;have z:=ft.init.bind obj
   repeat (any_goals (first | assumption | wp_step))
   refine codeAny_mono (codeAny_call_builtin ft.init.plain i<|ft.init.check _ _ _ _ _ _ _ _ k l<|m A.in1 _ s1 n) λr2 s2 a=>?_;cases r2 with
   | error e=>exact a
   | ok o=>
    cases o with
    | ret r=>
     obtain⟨rfl,B⟩:=a
     repeat (any_goals (first | assumption | wp_step))
    | _=>exact a.elim
  | _=>exact b.elim
def jmI(c:typeLookup (.type T) "__init__" = pure (some<|.builtin "object.__init__"))
  (d:Bind.madeBy (.type T)=pure (some nw)) (e:(some nw != some "object.__new__")=true):
  Meets (Builtin.«object.__init__» ⟨self::x::xs,kw⟩) (λ_ R s=>s.TypeIs self T/\R (.ok<|.ret .none) s):=by
 refine Meets.of_wp λprog w A R s a=>?_;obtain⟨f,b⟩:=a
 repeat (any_goals (first | assumption | wp_step))
 exact⟨_,rfl,b⟩
def jov(a b):checkTypeCall "enumerate" ⟨[a],[("start",b)]⟩=pure ():=by kernel_rfl
def jnZ(a b):checkBuiltinCall "enumerate.__new__" ⟨[.type "enumerate",a],[("start",b)]⟩=pure ():=by kernel_rfl
def jm7(a b c):argsOk "object.__init__" ⟨[a,b],[("start",c)]⟩:=by
 unfold argsOk;rw[signature?_of (n:=['_','_','t','i','n','i','_','_']) (by kernel_rfl) F.owner_object];kernel_rfl
open AutoSeq1 (wpAny_loadPart') in
def jiO(l)(us)(m)(dc)(sl)(n)(t)(j:Builtin.SmallTypes.fitsIndex n=true):
  Meets (Builtin.«enumerate.__new__» ⟨[.type "enumerate",.ref l],[("start",.int n t)]⟩) (λ_ R s=>s.heap.get? l=some {cls:=.type "list",dict:=dc,data:=.seq us m,slots:=sl} /\
   R (.ok<|.ret<|.ref (s.heap.push {cls:=.type "list_iterator",data:=.fields #[.ref l,.int 0 0]}).objs.size)
    { s with heap:=(s.heap.push {cls:=.type "list_iterator",data:=.fields #[.ref l,.int 0 0]}).push {cls:=.type "enumerate",data:=.fields #[.none,.bool false,.ref ↥s,rawInt n,.none,.none]} }):=
 .of_wp λprog w A R s h=>by
  obtain⟨f,g,d,i,os⟩:=s;obtain⟨a,h⟩:=h;have e:=sub_enumerate;have b:Heap.IsList (Shared.heap ⟨f,g,d,i,os⟩) l us:=⟨_,a,rfl,m,rfl⟩
  wp_walk using wpAny_loadPart' a
  refine wpAny_stack_any λk=>M6 ?_;split
  ·rename_i c _ _ _ _ _;cases(c==Value.type "enumerate")
   ·wp_walk using wpAny_loadPart' a,wpAny_pyIter_list b
    exact⟨_,rfl,h⟩
   ·wp_walk using wpAny_loadPart' a,wpAny_pyIter_list b
    exact⟨_,rfl,h⟩
  ·wp_walk using wpAny_loadPart' a,wpAny_pyIter_list b
   exact⟨_,rfl,h⟩
def jiz(e:s.heap.IsList l us)(f:Builtin.SmallTypes.fitsIndex n=true)
  (go:∀ k,IsEnum k (↥s+1) ↥s n .none->k.IsListIter ↥s l 0->(∀ b o,s.heap.get? b=some o->k.get? b=some o)->C (.ref<|↥s+1) {s with heap:=k}):
  wpAny (model prog w) A (call (.type "enumerate") [.ref l] [("start",.int n t)]) C E s:=by
 obtain⟨⟨c,g,p,h⟩,i,j,m,hd⟩:=e;subst j hd;refine jjM (Q1:=λobj s1=>s1.TypeIs obj "enumerate"/\C obj s1) F.called_enumerate (jov _ _) (jnZ _ _) F.entry_enumerate_new F.entry_object_init (jiO l us m g h n t f) ⟨i,?_⟩
  λobj _ q=>⟨q.1,jm7 _ _ _,_,(jmI F.called_enumerate.init.lookup F.called_enumerate.made<|by decide).inModel _ _,q.1,rfl,q.2⟩
 have a:(s.heap.push {cls:=.type "list_iterator",data:=.fields #[.ref l,.int 0 0]}).objs.size=↥s+1:=Heap.size_push ..;rw[a];have d:IsEnum ((s.heap.push {cls:=.type "list_iterator",data:=.fields #[.ref l,.int 0 0]}).push {cls:=.type "enumerate",data:=.fields #[.none,.bool false,.ref ↥s,rawInt n,.none,.none]}) (↥s+1) ↥s n .none:=by
  have q:=X7 (s.heap.push {cls:=.type "list_iterator",data:=.fields #[.ref l,.int 0 0]}) (o:={cls:=.type "enumerate",data:=.fields #[.none,.bool false,.ref ↥s,rawInt n,.none,.none]}) rfl;rw[a] at q;exact q
 exact⟨⟨_,d,rfl⟩,go _ d ⟨_,L8 _<|X7 _ rfl,rfl,rfl⟩ λb o x=>L8 _<|L8 _ x⟩
end
def joh(K:W4)(tl:TA)(tb:TE):TI:=λσ H R=>tl σ H λvs H1=>tb σ H1 λv H2=>∃ a xs n,vs=[.ref a]/\v=.int n/\Builtin.SmallTypes.fitsIndex n=true/\SqL K H2 a xs/\R (Itn K a n) H2
def jnV{X}{elts}{m}{tpos p pos d}{a b}{ta}{tb}(E:Gl X "enumerate")(F:X.mg "enumerate" = none)(G:PA X [a] ta)(j:PE X b tb)(J:starEach [a] X.env=[(false,eval a X.env)]:=by rfl):
  PI X (.Tuple elts m tpos) (.Call (.Name "enumerate" p) [a] [⟨some "start",b,d⟩] pos) (joh X.K ta tb):=by
 intro c s σ H R I h;refine wpAny_Call_Name_kw<|Jn I E F (show bootBuiltins "enumerate" = some (.type "enumerate") by decide +kernel)<|L3<|wpAny_holding ?_;have B:=G pos c s σ H _ I h;rw[J] at B ⊢;refine wpAny_mono (evalArgs_kw (Q:=λx s1=>wpAny (model X.prog X.w) X.A (call (.type "enumerate") x.pos x.kw) (λv s1=>wpAny (model X.prog X.w) X.A (pyIter v) (PIE X c σ (.Tuple elts m tpos) R) X.xe s1) X.xe s1) rfl<|thn B λZ s1 ⟨vs,L,M,r1,N⟩=>?_) (λx s1 k=>L3<|wpAny_standAt ?_) λ_ _ x=>x
 ·refine wpAny_evalAll_cons<|L3<|thn (j c s1 σ L _ M N) λv s2 ⟨y,C,i,r2,O⟩=>L3<|wpAny_standAt<|M6<|wpAny_evalAll_nil ?_;obtain⟨l,xs,n,rfl,rfl,P,S,q⟩:=O;obtain⟨u,rfl,T⟩:=r1.one;cases T;obtain⟨t,rfl⟩:=r2;obtain⟨U,rv,pl,hz⟩:=i.list S;have f:l < ↥s2:=by
   obtain⟨o,_,e,_⟩:=pl;exact N0 e
  refine jiz pl.isList P λk D hit V=>?_;have W:Inv X c σ C {s2 with heap:=k}:=i.kept V;refine PySem.wpAny_pyIter_enum D ⟨↥s2+1,[↥s2+1,↥s2],_,_,C,rfl,W,jdr _ _ l n (Nat.succ_ne_self _) (N5<|Nat.lt_succ_of_lt f)<|N5 f,⟨⟨_,by simpa using D⟩,hit⟩,λb j=>?_,q⟩;have g:↥s2<=b:=by
   rcases(⇑j:b=↥s2+1\/b=↥s2) with z | z
   ·rw[z];exact Nat.le_succ _
   ·rw[z];exact M8 _
  exact i.fpOk g<|i.hok.fresh g
 ·exact L3<|M6<|L3<|wpAny_mono k (λr s2 Y=>L3<|wpAny_holding<|wpAny_point<|M6 Y) λ_ _ x=>x
section
variable {prog:Program}{w:World}{A:Around}{E:J0}{s:Shared}
def jjf{j t}{n}{a}{C}(f:A.handled=none)(b:s.heap.IsTupleIter j t n)(g:s.heap.IsTuple t a)(h:a[n]?=none)
  (go:∀ k e,Heap.ExtBut j s.heap k->(∃ o,k.get? e=some o/\o.cls=.type "StopIteration")->E (.ref e) {s with heap:=k}):wpAny (model prog w) A (Builtin.SmallTypes.nextOf<|.ref j) C E s:=by
 obtain⟨l,c,m,d⟩:=id b;obtain⟨ot,gt,_,mt,i⟩:=g;refine L3<|wpAny_callSpecial?_slot b.typeIs F.slot_tuple_iterator_next<|wpAny_call_entry F.slot_tuple_iterator_next b.typeIs F.entry_tuple_iterator_next ?_<|F.args_tuple_iterator_next_1 _;show wpAny _ _ (field (.ref j) 0 >>= _) _ _ s;refine L3<|U5 c d rfl<|L3<|U5 c d rfl<|L3<|wpAny_seqItems gt i ?_;simp only[N7,h];refine L3<|wpAny_rule<|L3<|wpAny_setField c d (by simp)<|L3<|L3<|wpAny_newObj_type ?_ (by size_fits);refine L3<|wpAny_of_eq (by first | rfl | (simp only[firstArgMember];rfl)) ?_;refine wpAny_newObj_type (L3<|wpAny_handled ?_) (by size_fits)
 first | rw[f] | rw[f]
 exact L3<|M6<|wpAny_throw<|go _ _ (((Heap.SameBut.update ..).extBut.push _).push _) ⟨_,X7 _ rfl,rfl⟩
variable {z TI TO j1 j2 l t:Addr}{m:Nat}{us vs:Array Value}{u v a b:Value}
end
end L2
namespace PySem
open Sem (wp)
namespace F
end F
end PySem
namespace L2
open PySem PySem.Spec PyProof.Rows
def Jc:entryFor table "dict_itemiterator.__iter__" = some Builtin.«dict_keyiterator.__iter__» :=
 entryFor_alias (id':="dict_keyiterator.__iter__") (by kernel_rfl) rfl (by decide +kernel) (by kernel_rfl)
def Kr(hit:IsItemIter s.heap it d i n ep ok ov)(h:Q (.ref it) s):wpAny (model prog w) A (pyIter<|.ref it) Q E s:=by
 have a:s.TypeIs (.ref it) "dict_itemiterator":=⟨_,hit,rfl⟩;exact wpAny_pyIter_slot a PySem.F.slot_dict_itemiterator_iter<|wpAny_call_entry PySem.F.slot_dict_itemiterator_iter a Jc (M6 ⟨_,rfl,"dict_itemiterator",_,a,PySem.F.slot_dict_itemiterator_next.lookup,h⟩)<|PySem.F.args_dict_itemiterator_iter_1 _
end L2
namespace PySem
open Sem (wp)
end PySem
namespace L2
open PySem PySem.Spec PyProof.Rows
end L2
namespace PySem
open PySem.W PyProof.Rows PySem.Calls
noncomputable def kEv{α}(lt:Nat->Nat->Bool):KasT α->α
 | .ret a=>a
 | .ask i j k=>kEv lt<|k<|lt i j
def kOk{α}(lt:Nat->Nat->Bool)(n:Nat):KasT α->Prop
 | .ret _=>True
 | .ask i j k=>i<n/\j<n/\kOk lt n (k<|lt i j)
theorem yE:∀ t:KasT α,kEv lt (t.bind f)=kEv lt (f<|kEv lt t)
 | .ret a=>rfl
 | .ask i j k=>yE<|k<|lt i j
theorem qj:∀ t:KasT α,kOk lt n t->kOk lt n (f<|kEv lt t)->kOk lt n (t.bind f)
 | .ret a,_,h=>h
 | .ask i j k,b,c=>⟨b.1,b.2.1,qj (k<|lt i j) b.2.2 c⟩
theorem jfU(c:∀ i j C,i<n->j<n->C (lt i j) s->cmp i j C s):∀ t:KasT α,kOk lt n t->Q (kEv lt t) s->t.kasWp cmp Q s
 | .ret a,_,h=>h
 | .ask i j k,b,h=>c i j _ b.1 b.2.1<|jfU c (k<|lt i j) b.2.2 h
def Pm(n:Nat)(p:Array Nat):Prop:=p.toList.Perm<|List.range n
def Pm.lt(h:Pm n p)(a:0<n)(i):p.getD i 0<n:=by
 by_cases hi:i<p.size
 ·have e:p.getD i 0=p[i]:=by simp[Array.getD,hi]
  rw[e];have b:p[i]∈p.toList:=by simp
  exact List.mem_range.mp<|h.mem_iff.mp b
 ·have e:p.getD i 0=0:=by simp[Array.getD,hi]
  rw[e];exact a
def Pm.swap(h:Pm n p)(i j:Nat):Pm n (p.swapIfInBounds i j):=by
 refine List.Perm.trans ?_ h;rw[Array.swapIfInBounds_def];split
 ·split
  ·exact(Array.perm_iff_toList_perm.mp<|Array.swap_perm _ _)
  ·exact List.Perm.refl _
 ·exact List.Perm.refl _
theorem Pm.swaps(u v:Nat->Nat):∀(l:List Nat) {p},Pm n p->Pm n (l.foldl (λa k=>a.swapIfInBounds (u k)<|v k) p)
 | [],_,h=>h
 | k::l,p,h=>Pm.swaps u v l<|h.swap _ _
def Pm.rev(h:Pm n p)(i j):Pm n (kas_rev p i j):=Pm.swaps _ _ _ h
def Pm.bub(h:Pm n p)(k m):Pm n (bubble p k m):=Pm.swaps _ _ _ h
section
variable {lt:Nat->Nat->Bool}{n:Nat}
theorem jdb(a:0<n)  (h:Pm n p):∀ f m,kOk lt n<|kas_asc p f m
 | 0,_=>trivial
 | f+1,m=>by
  refine⟨h.lt a _,h.lt a _,?_⟩;dsimp only;split
  ·trivial
  ·exact jdb a h f<|m+1
theorem KD(b:0<n):∀ f {p} m q,Pm n p->kOk lt n (kas_desc f p m q)/\Pm n (kEv lt<|kas_desc f p m q).1
 | 0,_,_,_,h=>⟨trivial,h⟩
 | f+1,p,m,q,h=>by
  have a:=h.lt b;cases hc:lt (p.getD m 0) (p.getD (m-1) 0) with
  | true=>
   by_cases e:q>0
   ·have c:=KD b f (p:=kas_rev p (m-(q+1)) m) (m+1) 0<|h.rev _ _;have d:=e;simp only[kas_desc,kOk,kEv,hc,if_true,gt_iff_lt,d,a,true_and];exact c
   ·have c:=KD b f (m+1) 0 h;simp only[kas_desc,kOk,kEv,hc,if_true,gt_iff_lt,e,if_false,a,true_and];exact c
  | false=>
   cases hd:lt (p.getD (m-1) 0) (p.getD m 0) with
   | true=>
    simp only[kas_desc,kOk,kEv,hc,hd,if_true,Bool.false_eq_true,if_false,a,true_and];exact h
   | false=>
    simp only[kas_desc,kOk,kEv,hc,hd,Bool.false_eq_true,if_false,a,true_and];exact(KD b f (m+1) (q+1) h)
def Yk(a:0<n)  (h:Pm n p) (m k):kOk lt n (kas_tail3 m k p)/\Pm n (kEv lt<|kas_tail3 m k p).2:=by
 unfold kas_tail3;exact⟨qj _ (jdb a (h.rev _ _) _ _) trivial,by rw[yE];exact h.rev _ _⟩
def kq(a:0<n)  (h:Pm n p) (m k):kOk lt n (kas_descPart m k p)/\Pm n (kEv lt<|kas_descPart m k p).2:=by
 unfold kas_descPart;have hd:=KD (lt:=lt) a (k-(m+1)) (m+1) 0 h;refine⟨qj _ hd.1 ?_,?_⟩
 ·split
  ·exact(Yk a (hd.2.rev _ _) _ _).1
  ·exact(Yk a hd.2 _ _).1
 ·rw[yE];split
  ·exact(Yk a (hd.2.rev _ _) _ _).2
  ·exact(Yk a hd.2 _ _).2
def ua(a:0<n)  (h:Pm n p) (k):kOk lt n (kas_count k p)/\Pm n (kEv lt<|kas_count k p).2:=by
 unfold kas_count;refine⟨qj _ (jdb (lt:=lt) a h (k-1) 1) ?_,?_⟩
 ·generalize kEv lt (kas_asc p (k-1) 1)=m;split
  ·trivial
  ·split
   ·refine⟨h.lt a _,h.lt a _,?_⟩;dsimp only;split
    ·trivial
    ·exact(kq a (h.rev _ _) _ _).1
   ·exact(kq a h _ _).1
 ·rw[yE];split
  ·exact h
  ·split
   ·dsimp only[kEv];split
    ·exact h
    ·exact(kq a (h.rev _ _) _ _).2
   ·exact(kq a h _ _).2
theorem Kd(a:0<n)  (h:Pm n p) (k):∀ f l r,kOk lt n<|kas_place p k f l r
 | 0,_,_=>trivial
 | f+1,l,r=>by
  unfold kas_place;split
  ·trivial
  ·refine⟨h.lt a _,h.lt a _,?_⟩;dsimp only;split
   ·exact Kd a h k f _ _
   ·exact Kd a h k f _ _
theorem jci(a:0<n):∀ f {p} k,Pm n p->kOk lt n (kas_bin f p k)/\Pm n (kEv lt<|kas_bin f p k)
 | 0,_,_,h=>⟨trivial,h⟩
 | f+1,p,k,h=>by
  unfold kas_bin;have b:=jci a f (p:=bubble p k<|k-kEv lt (kas_place p k k 0 k)) (k+1)<|h.bub _ _;exact⟨qj _ (Kd (lt:=lt) a h k k 0 k) b.1,by rw[yE];exact b.2⟩
def Kp(b:0<n):kOk lt n (kas_sort n)/\Pm n (kEv lt<|kas_sort n):=by
 unfold kas_sort;have c:Pm n (List.toArray<|List.range n):=List.Perm.refl _;have a:=ua (lt:=lt) b c n;refine⟨qj _ a.1 ?_,?_⟩
 ·split
  ·exact(jci b _ _ a.2).1
  ·trivial
 ·rw[yE];split
  ·exact(jci b _ _ a.2).2
  ·exact a.2
end
end PySem
set_option maxHeartbeats 4000000
namespace PySem
open PySem.W PyProof.Rows PySem.Calls
def Y9{α:Type}(lt:Nat->Nat->Bool)(vs:List α)(d:α):List α:=if vs.length<2 then vs else(kEv lt<|kas_sort vs.length).toList.map λi=>vs.getD i d
def um(lt)(vs)(d:α):(Y9 lt vs d).length=vs.length:=by
 unfold Y9;split
 ·rfl
 ·rename_i h;rw[L1];have:=((Kp (lt:=lt) (n:=vs.length) ∅).2).length_eq;rw[this,List.length_range]
def Qs(m:s.heap.get? a=some (seqObj "list" vs.toArray n))(r:vs.length<64)
  (H:2<=vs.length->∀ s':Shared,(∀ b o,b≠a->s.heap.get? b=some o->s'.heap.get? b=some o)->∀{Q:SortKind->Shared->Prop},Q κ s'->wpAny (model prog w) A (keyKind' vs.toArray) Q (λ_ _=>False) s')
  (t:∀ s':Shared,(∀ b o,b≠a->s.heap.get? b=some o->s'.heap.get? b=some o)->∀ i j,i<vs.length->j<vs.length->∀{C:Bool->Shared->Prop},C (lt i j) s'->wpAny (model prog w) A (keyLt' κ (vs.getD i Value.none)<|vs.getD j Value.none) C (λ_ _=>False) s')
  (h:P (.done<|.ret .none) {s with heap:=sortedHeap s.heap a vs (Y9 lt vs Value.none).toArray}):
  wpAny (model prog w) A (Builtin.«list.sort» ⟨[.ref a],[]⟩) P E s:=by
 rw[list_sort_plain];have z:=N0 m;refine L3<|listItems_at m rfl<|L3<|listUpdate_at m rfl ?_;obtain⟨u,g⟩:∃ u,(s.heap.update a<|Obj.mapSeq λ_=>#[]).get? a=some (seqObj "list" #[] u):=⟨_,get?_update_seq m<|λ_=>#[]⟩;refine L3<|seqEpoch_at g rfl<|L3<|wpAny_newTuple<|L3<|wpAny_newList<|wpAny_holding ?_;have d:(((s.heap.update a<|Obj.mapSeq λ_=>#[]).push (seqObj "tuple" vs.toArray 0)).push (seqObj "list" #[] 0)).get? a=some (seqObj "list" #[] u):=by
  rw[Heap.get?_push_ne _ _ _<|by rw[size_push',Heap.size_update];exact N5<|Nat.lt_succ_of_lt z,Heap.get?_push_ne _ _ _<|by rw[Heap.size_update];exact N5 z];exact g
 have keep:∀ b o,b≠a->s.heap.get? b=some o->(((s.heap.update a<|Obj.mapSeq λ_=>#[]).push (seqObj "tuple" vs.toArray 0)).push (seqObj "list" #[] 0)).get? b=some o:=λb o I e=>
  L8 _ (L8 _<|by rw[Heap.get?_update_ne _ _ _ _ I];exact e)
 dsimp only;have v:vs.toArray.size=vs.length:=by simp
 by_cases q:vs.toArray.size<2
 ·have c:Y9 lt vs Value.none=vs:=by unfold Y9;rw[if_pos ∅]
  rw[c] at h;rw[if_pos q,if_pos q];refine L3<|M6<|L3<|M6 ?_;have J:(arrOf<|SortSt.mk' general' (vs.toArray.zip vs.toArray) #[] 7 none).map (·.2)=vs.toArray:=by
   apply Array.toList_inj.mp;simp;exact List.map_snd_zip<|M8 _
  rw[J];refine L3<|seqEpoch_at d rfl ?_;refine L3<|listUpdate_at d rfl ?_ (hsz2:=by rw[v,sizeLine_eq];lia);simp only[bne_self_eq_false,Bool.false_eq_true,if_false];exact M6 h
 ·have k:2<=vs.length:=by lia
  have c:Y9 lt vs Value.none=(kEv lt<|kas_sort vs.length).toList.map λi=>vs.getD i Value.none:=by unfold Y9;rw[if_neg ∅]
  rw[if_neg q,if_neg q];refine L3<|wpAny_mono (H k {s with heap:=((s.heap.update a<|Obj.mapSeq λ_=>#[]).push (seqObj "tuple" vs.toArray 0)).push (seqObj "list" #[] 0)} keep (Q:=λB D=>B=κ/\D={s with heap:=((s.heap.update a<|Obj.mapSeq λ_=>#[]).push (seqObj "tuple" vs.toArray 0)).push (seqObj "list" #[] 0)}) ⟨rfl,rfl⟩) ?_ λ_ _ x=>x.elim;rintro B D ⟨rfl,rfl⟩;have l:=kat_run (E:=E)
   (Q:=λf s'=>s'={s with heap:=((s.heap.update a<|Obj.mapSeq λ_=>#[]).push (seqObj "tuple" vs.toArray 0)).push (seqObj "list" #[] 0)}/\arrOf f=(kEv lt<|kas_sort vs.length).map (kas_item<|vs.toArray.zip vs.toArray)/\failedOf f=none)
   (G:=λp s'=>p=kEv lt (kas_sort vs.length)/\s'={s with heap:=((s.heap.update a<|Obj.mapSeq λ_=>#[]).push (seqObj "tuple" vs.toArray 0)).push (seqObj "list" #[] 0)})
   rfl k r (λp f s' R K L F=>⟨F.2,by rw[<- F.1];exact K,L⟩)
   (jfU (λi j C hi M N=>t {s with heap:=((s.heap.update a<|Obj.mapSeq λ_=>#[]).push (seqObj "tuple" vs.toArray 0)).push (seqObj "list" #[] 0)} keep i j hi M N) _ (Kp (lt:=lt) (n:=vs.length) ∅).1 ⟨rfl,rfl⟩)
  refine L3<|wpAny_mono l ?_ λ_ _ e=>e;rintro⟨⟨⟩,f⟩ s' ⟨rfl,y,O⟩;rw[kat_snds rfl y,<- c];refine L3<|seqEpoch_at d rfl ?_;refine L3<|listUpdate_at d rfl ?_ (hsz2:=by rw[N2,um,sizeLine_eq];lia);rw[O];simp only[bne_self_eq_false,Bool.false_eq_true,if_false];exact M6 h
def Vq(t:s.heap.IsList l vs.toArray)(m:vs.length<64)
  (u:2<=vs.length->∀ A' s',(∀ b o,s.heap.get? b=some o->s'.heap.get? b=some o)->∀{Q:SortKind->Shared->Prop},Q κ s'->wpAny (model prog w) A' (keyKind' vs.toArray) Q (λ_ _=>False) s')
  (a:∀ A' s',(∀ b o,s.heap.get? b=some o->s'.heap.get? b=some o)->∀ i j,i<vs.length->j<vs.length->∀{C:Bool->Shared->Prop},C (lt i j) s'->wpAny (model prog w) A' (keyLt' κ (vs.getD i Value.none)<|vs.getD j Value.none) C (λ_ _=>False) s')
  (h:∀ h' c,(∀ b o,s.heap.get? b=some o->h'.get? b=some o)->h'.get? (↥s+1)=some (seqObj "list" (Y9 lt vs Value.none).toArray c)->Q (.ref<|↥s+1) {s with heap:=h'}):
  wpAny (model prog w) A (call (.builtin "sorted") [.ref l]) Q E s:=by
 refine Calls.call_function_entry kind_sorted plain_sorted entry_sorted (args_sorted1 _)<|L3<|M6 ?_;refine L3<|collect_list t ?_ (by rw[sizeLine_eq];lia);refine L3<|wpAny_newList ?_ (by rw[sizeLine_eq];lia);have e:((s.heap.push<|seqObj "list" #[] 0).update ↥s (Obj.mapSeq (·++vs.toArray))).objs.size=↥s+1:=by
  rw[Heap.size_update,size_push']
 have f:(((s.heap.push<|seqObj "list" #[] 0).update ↥s (Obj.mapSeq (·++vs.toArray))).push (seqObj "list" vs.toArray 0)).get? (↥s+1)=some (seqObj "list" vs.toArray 0):=by
  rw[<- e];exact X7 _ rfl
 have keep:∀ b o,s.heap.get? b=some o->(((s.heap.push<|seqObj "list" #[] 0).update ↥s (Obj.mapSeq (·++vs.toArray))).push (seqObj "list" vs.toArray 0)).get? b=some o:=λb o q=>by
  have a:=N0 q;rw[Heap.get?_push_ne _ _ _<|by rw[e];exact N5<|Nat.lt_succ_of_lt a,Heap.get?_update_ne _ _ _ _<|N5 a,Heap.get?_push_ne _ _ _<|N5 a];exact q
 rw[e];have d:∀{s':Shared},(∀ b o,b≠↥s+1->(((s.heap.push<|seqObj "list" #[] 0).update ↥s (Obj.mapSeq (·++vs.toArray))).push (seqObj "list" vs.toArray 0)).get? b=some o->s'.heap.get? b=some o)->∀ b o,s.heap.get? b=some o->s'.heap.get? b=some o:=λk b o q=>
  k b o (N5<|Nat.lt_succ_of_lt<|N0 q) (keep b o q)
 refine L3<|wpAny_holding<|wpAny_call_entry slot_list_sort ⟨_,f,rfl⟩ entry_list_sort ?body (args_list_sort _)
 case body=>
  refine Qs f m (λv s' k=>u v _ s'<|d k) (λs' k=>a _ s'<|d k) ?_;have g:∃ c,(sortedHeap (((s.heap.push<|seqObj "list" #[] 0).update ↥s (Obj.mapSeq (·++vs.toArray))).push (seqObj "list" vs.toArray 0)) (↥s+1) vs (Y9 lt vs Value.none).toArray).get? (↥s+1)=some (seqObj "list" (Y9 lt vs Value.none).toArray c):=by
   obtain⟨p,n⟩:∃ p,((((s.heap.push<|seqObj "list" #[] 0).update ↥s (Obj.mapSeq (·++vs.toArray))).push (seqObj "list" vs.toArray 0)).update (↥s+1) (Obj.mapSeq λ_=>#[])).get? (↥s+1)=some (seqObj "list" #[] p):=⟨_,get?_update_seq f<|λ_=>#[]⟩;exact⟨_,get?_update_seq (L8 _<|L8 _ n) λ_=>(Y9 lt vs Value.none).toArray⟩
  obtain⟨c,x⟩:=g;refine⟨_,rfl,M6 ⟨_,rfl,h _ c (λb o q=>?_) x⟩⟩;have r:=N5<|Nat.lt_succ_of_lt<|N0 q;show(Heap.update _ _ _).get? b=some o;rw[Heap.get?_update_ne _ _ _ _ r];exact L8 _<|L8 _ (by rw[Heap.get?_update_ne _ _ _ _ r];exact keep b o q)
noncomputable abbrev jdN:=Str×Str×Int
noncomputable def Jy(x y:jdN):Bool:=if x.1=y.1 then(if x.2.1=y.2.1 then decide (x.2.2<y.2.2) else decide (x.2.1.cps.toList<y.2.1.cps.toList)) else decide (x.1.cps.toList<y.1.cps.toList)
def jaL(h:Heap)(v:Value)(r:jdN):Prop:=∃ a o m t1 t2 t3,v=.ref a/\h.get? a=some o/\o.cls=.type "tuple"/\o.data=.seq #[.str r.1 t1,.str r.2.1 t2,.int r.2.2 t3] m
def jmm(d:jaL s.heap v x)(e:jaL s.heap u y)  (h:C (Jy x y) s):wpAny (model prog w) A (keyLt' (tuples' true) v u) C E s:=by
 obtain⟨a,o,m,k,l,n,rfl,f,p,g⟩:=d;obtain⟨b,q,r,t,z,B,rfl,i,D,j⟩:=e;refine kat_lt f g i j ?_;unfold Jy at h;refine kat_cons<|wpAny_eqBool_str ?_;by_cases c:x.1=y.1
 ·rw[if_pos c] at h;rw[X0 c];refine kat_yes<|kat_cons<|wpAny_eqBool_str ?_;by_cases e2:x.2.1=y.2.1
  ·rw[if_pos e2] at h;rw[X0 e2];refine kat_yes<|kat_cons<|wpAny_eqBool_int ?_;by_cases e3:x.2.2=y.2.2
   ·rw[show(x.2.2==y.2.2)=true by simp[e3]];refine kat_yes<|kat_nil ?_;have:decide (x.2.2<y.2.2)=decide (3<3):=by rw[e3];simp
    rw[this] at h;exact h
   ·rw[show(x.2.2==y.2.2)=false by simp[e3]];exact kat_no<|kat_one _ _<|wpAny_lt_int h
  ·rw[if_neg e2] at h;rw[X1 e2];exact kat_no<|kat_one _ _<|lt_str h
 ·rw[if_neg c] at h;rw[X1 c];exact kat_no<|oneLt_str h
def jcr{A}{E}{s}{vs:List Value}{rs:List jdN}(c:vs.length=rs.length)(b:∀(j:Nat) v,vs[j]?=some v->∃ r,rs[j]?=some r/\jaL s.heap v r)(u:0<vs.length){Q}(h:Q (tuples' true) s):wpAny (model prog w) A (keyKind' vs.toArray) Q E s:=by
 have key:∀ vs (rs:List jdN),vs.length=rs.length->(∀(j:Nat) v,vs[j]?=some v->∃ r,rs[j]?=some r/\jaL s.heap v r)->∃ fs:List Value,KatTups s.heap vs fs/\fs.length=vs.length/\∀ v∈fs,∃ x t,v=Value.str x t:=by
  intro vs
  induction vs with
  | nil=>intro rs _ _;exact⟨[],KatTups.nil,rfl,λv b=>(nomatch b)⟩
  | cons v vs d=>
   intro rs c b;cases rs with
   | nil=>simp at c
   | cons r rs=>
    obtain⟨fs,k,l,f⟩:=d rs ⇑c λj v e=>b (j+1) v ⇑e;obtain⟨g,e,a,o,m,i,y,z,rfl,n,p,q⟩:=b 0 v rfl;refine⟨.str g.1 i::fs,KatTups.cons n p q rfl k,by simp[l],λv b=>?_⟩;rcases M4.mp b with rfl | b
    ·exact⟨_,_,rfl⟩
    ·exact f v b
 obtain⟨fs,k,l,f⟩:=key vs rs c b;refine kat_kind (T:=.type "str") k ∅ (λv b=>?_) (by rfl) h;obtain⟨x,t,rfl⟩:=f v b;exact Looks.of_pure rfl
def Yb{A}{E}{s:Shared}{vs}{rs:List jdN}{Q}(u:s.heap.IsList l vs.toArray)(n:vs.length<64)(g:vs.length=rs.length)(x:∀(j:Nat) v,vs[j]?=some v->∃ r,rs[j]?=some r/\jaL s.heap v r)
  (h:∀ h' c,(∀ b o,s.heap.get? b=some o->h'.get? b=some o)->h'.get? (↥s+1)=some (seqObj "list" (Y9 (λi j=>Jy (rs.getD i ("","",0))<|rs.getD j ("","",0)) vs Value.none).toArray c)->Q (.ref<|↥s+1) {s with heap:=h'}):
  wpAny (model prog w) A (call (.builtin "sorted") [.ref l]) Q E s:=by
 have up:∀(d:Shared),(∀ b o,s.heap.get? b=some o->d.heap.get? b=some o)->∀ j v,vs[j]?=some v->∃ r,rs[j]?=some r/\jaL d.heap v r:=λd f j v k=>by
  obtain⟨r,e,a,o,m,y,z,B,p,D,q,F⟩:=x j v k;exact⟨r,e,a,o,m,y,z,B,p,f a o D,q,F⟩
 refine Vq u n (λq G d f Q H=>jcr g (up d f) ∅ H) (λG d f i j hi k C t=>?_) h;obtain⟨r1,p,I⟩:=up d f i _<|X5 hi;obtain⟨r2,e2,J⟩:=up d f j _<|X5 k;have g1:vs.getD i Value.none=vs[i]:=by simp[hi]
 have g2:vs.getD j Value.none=vs[j]:=by simp[k]
 rw[g1,g2];refine jmm I J ?_;have K:rs.getD i ("","",0)=r1:=by rw[List.getD_eq_getElem?_getD,p];rfl
 have L:rs.getD j ("","",0)=r2:=by rw[List.getD_eq_getElem?_getD,e2];rfl
 rw[K,L] at t;exact t
end PySem
namespace PySem
open Sem (wp)
section
variable {prog:Program}{w:World}{A:Around}{E:J0}{h:Heap}{g:Array GenState}{dr:Drawn}{t:Nat}{os:OsState}
def joj{a d:Addr}{i ep:Nat}{es:Array DictEntry}{od:Obj}{en:DictEntry}{ok l:Value}{Q:Option Value->Shared->Prop}(hit:IsItemIter h a d i es.size ep ok l)(N:h.get? d=some od)(u:od.data=.dict es ep)(O:es[i]?=some en)
  (P:∀ h',IsItemIterOut h' a d (i+1) es.size ep en.key en.val h.objs.size->h'.get? h.objs.size=some {cls:=.type "tuple",data:=.seq #[en.key,en.val]}->(∀ b o,b≠a->h.get? b=some o->h'.get? b=some o)->Q (some<|.ref h.objs.size) ⟨h',g,dr,t,os⟩):
  wpAny (model prog w) A (pyNext<|.ref a) Q E ⟨h,g,dr,t,os⟩:=by
 have r:Shared.TypeIs ⟨h,g,dr,t,os⟩ (.ref a) "dict_itemiterator":=⟨_,hit,rfl⟩;obtain⟨oc,R,S,T⟩:=od;subst u;have U:¬ ((i:Int)<0):=by lia
 refine L3<|wpAny_attempt<|wpAny_callSpecial?_slot (name:=Str.ofString "__next__") r F.slot_dict_itemiterator_next ?_;refine wpAny_call_entry F.slot_dict_itemiterator_next r F.entry_dict_itemiterator_next ?_<|F.args_dict_itemiterator_next_1 _
 repeat (any_goals (first | assumption | wp_step))
 rw[if_neg U,N7,O];refine L3 ?_;refine L3<|wpAny_typeNameOfWhole_itemiter r<|M6 ?n1
 case n1=>
  refine L3<|wpAny_isOneOf_itemiter r<|show wpAny _ _ (setField (.ref a) 3 (rawInt<|i+1) >>= _) _ _ _ from L3 (wpAny_setField_rec hit (by simp) λf V W=>?_);have m:Heap.SameBut a h f:=W;have n:IsItemIter f a d (i+1) es.size ep ok l:=by
   have e:((i+1:Nat):Int)=i+1:=by lia
   unfold IsItemIter;rw[e];simpa [rawInt] using V
  have p:Shared.TypeIs ⟨f,g,dr,t,os⟩ (.ref a) "dict_itemiterator":=⟨_,n,rfl⟩;refine L3<|wpAny_holding<|L3<|wpAny_isOneOf_itemiter p<|L3<|wpAny_isOneOf_itemiter p ?_;unfold Builtin.Dict_items.pairFromOwner;refine L3<|wpAny_newTuple ?_;have M:f.objs.size=h.objs.size:=m.1;have q:IsItemIter (f.push {cls:=.type "tuple",data:=.seq #[en.key,en.val]}) a d (i+1) es.size ep ok l:=L8 _ n;have j:(f.push {cls:=.type "tuple",data:=.seq #[en.key,en.val]}).get? h.objs.size=some {cls:=.type "tuple",data:=.seq #[en.key,en.val]}:=by rw[<- M];exact X7 _ rfl
  have k:∀ b o,b≠a->h.get? b=some o->(f.push {cls:=.type "tuple",data:=.seq #[en.key,en.val]}).get? b=some o:=λb o c e=>L8 _<|m.extBut b o c e;have v:h.objs.size≠a:=Nat.ne_of_gt<|N0 hit;rw[M];generalize f.push ({cls:=.type "tuple",data:=.seq #[en.key,en.val]}:Obj)=k2 at q j k;refine L3 ?_;unfold Builtin.Dict_items.ownedTupleIsFree;refine L3<|U5 q rfl (x:=.none) rfl<|M6 ?_;simp only[if_true];refine L3<|U5 q rfl (x:=ok) rfl<|L3<|U5 q rfl (x:=l) rfl<|L3<|wpAny_setField_rec q (by simp) λy X Y=>?_;have z:Heap.SameBut a k2 y:=Y;have B:IsItemIter y a d (i+1) es.size ep en.key l:=X;refine L3<|wpAny_setField_rec B (by simp) λC Z b4=>?_;have D:Heap.SameBut a y C:=b4;have G:IsItemIter C a d (i+1) es.size ep en.key en.val:=Z;refine L3<|wpAny_setField_rec G (by simp) λH q5 b5=>?_;have I:Heap.SameBut a C H:=b5;have J:IsItemIterOut H a d (i+1) es.size ep en.key en.val h.objs.size:=q5;refine L3<|wpAny_setField_rec J (by simp) λs q6 b6=>?_;have K:Heap.SameBut a H s:=b6;have L:IsItemIterOut s a d (i+1) es.size ep en.key en.val h.objs.size:=q6;have up:∀ b o,b≠a->k2.get? b=some o->s.get? b=some o:=λb o c e=>K.extBut b o c<|I.extBut b o c<|D.extBut b o c<|z.extBut b o c e;exact L3<|wpAny_letGo<|M6<|M6 ⟨_,rfl,M6<|P s L (up _ _ v j) λb o c e=>up b o c<|k b o c e⟩
def jpo{a d}{i ep}{es}{od}{ok e}{Q}(f:A.handled=none)(hit:IsItemIter h a d i es.size ep ok e)(j:h.get? d=some od)(b:od.data=.dict es ep)(k:es[i]?=none)
  (l:∀ h',Heap.ExtBut a h h'->Q none ⟨h',g,dr,t,os⟩):wpAny (model prog w) A (pyNext<|.ref a) Q E ⟨h,g,dr,t,os⟩:=by
 have c:Shared.TypeIs ⟨h,g,dr,t,os⟩ (.ref a) "dict_itemiterator":=⟨_,hit,rfl⟩;obtain⟨oc,m,n,o⟩:=od;subst b;have p:¬ ((i:Int)<0):=by lia
 refine L3<|wpAny_attempt<|wpAny_callSpecial?_slot c F.slot_dict_itemiterator_next ?_;refine wpAny_call_entry F.slot_dict_itemiterator_next c F.entry_dict_itemiterator_next ?_<|F.args_dict_itemiterator_next_1 _
 repeat (any_goals (first | assumption | wp_step))
 rw[if_neg p,N7,k];refine L3 ?_;refine L3<|wpAny_typeNameOfWhole_itemiter c<|M6 ?n1
 case n1=>
  refine(show wpAny _ _ (setField (.ref a) 2 .none >>= _) _ _ _ from L3 (wpAny_setField hit rfl (by simp) ?_));refine(L3 ?_);simp only[newExc,newTuple];refine L3<|wpAny_newObj_type (L3<|wpAny_of_eq (by first | rfl | (simp only[firstArgMember];rfl))<|wpAny_newObj_type ?_<|by size_fits) (by size_fits);simp only[raiseNew];refine L3<|wpAny_handled ?_;rw[f];refine L3<|M6<|wpAny_throw ?_;refine L3<|wpAny_isInstance ⟨_,X7 _ rfl,rfl⟩ isSubtype_stop<|M6<|l _ ?_;exact((Heap.SameBut.update ..).extBut.push _).push _
def zW{d}{od}{es:Array DictEntry}{ep:Nat}{Q}(a:h.get? d=some od)(c:od.ExactDict)(hd:(d==sysModules)=false)
  (e:Q (.ref h.objs.size) ⟨h.push {cls:=.type "dict_items",data:=.fields #[.ref d]},g,dr,t,os⟩):wpAny (model prog w) A (call (.builtin "dict.items") [.ref d]) Q E ⟨h,g,dr,t,os⟩:=by
 have b:Shared.TypeIs ⟨h,g,dr,t,os⟩ (.ref d) "dict":=⟨od,a,c.1⟩;refine wpAny_call_entry F.slot_dict_items b F.entry_dict_items (L3<|L3<|wpAny_notOrdered_dict b<|M6 ?_)<|F.args_dict_items_1 _;unfold Builtin.Dict.showsAll;rw[if_neg<|by rw[hd];exact M3];exact L3<|M6<|L3<|wpAny_newObj_type<|M6 ⟨_,rfl,e⟩
def jnS{v d}{od}{es}{ep}{Q}(e:h.IsItemsView v d)(a:h.get? d=some od)(b:od.data=.dict es ep)
  (i:Q (.ref h.objs.size) ⟨h.push {cls:=.type "dict_itemiterator",data:=.fields #[.none,.bool false,.ref d,.int 0 0,.int es.size 0,.int ep 0,.none,.none]},g,dr,t,os⟩):wpAny (model prog w) A (pyIter<|.ref v) Q E ⟨h,g,dr,t,os⟩:=by
 obtain⟨k,c,l,j⟩:=id e;have f:Shared.TypeIs ⟨h,g,dr,t,os⟩ (.ref v) "dict_items":=e.typeIs;refine wpAny_pyIter_slot f F.slot_dict_items_iter<|wpAny_call_entry F.slot_dict_items_iter f F.entry_dict_items_iter ?_<|F.args_dict_items_iter_1 _;unfold Builtin.«dict_items.__iter__»;refine L3<|M6<|L3 ?_;unfold Builtin.Dict_items.dictOf;refine L3<|U5 c j rfl<|M6<|L3 ?_;refine L3<|wpAny_dictEntries a b<|L3<|wpAny_dictEpoch a b ?_;have ow:Builtin.Dict_items.ownsTuple "dict_itemiterator" = true:=by decide
 simp only[ow,if_true];refine wpAny_newObj_type (M6 ⟨_,rfl,"dict_itemiterator",_,⟨_,X7 _ rfl,rfl⟩,F.slot_dict_itemiterator_next.lookup,?_⟩) (by simp only[sizeOk,Builtin.Dict_items.ownedTupleFields,N2,N3,M1,List.length_nil,sizeLine_eq];lia);simpa [rawInt,Builtin.Dict_items.ownedTupleFields] using i
end
end PySem
namespace L2
open PySem PySem.Spec PyProof.Rows
def jnI(a:Addr)(o:Obj)(kvs:List<|List Key×V):It:=
 ⟨λi H=>H a=some (.frz o<|.dT kvs)/\i<kvs.length,λi H x H'=>∃ p kv b,kvs[i]?=some kv/\x=.ref p/\H p=none/\H b=some (.tup<|kv.1.map kV)/\H'=upd H p (.tup [.ref b,kv.2]),λi H=>H a=some (.frz o<|.dT kvs)/\kvs.length<=i⟩
def jk2{P}{w}{H}{h}{a}{o}{b}(ok:HOk P w H h)(e:H a=some (.frz o<|.dT b)):
  h.get? a=some o/\(a==sysModules)=false/\o.ExactDict/\∃ xs es ep,KT H b xs/\o.data=.dict es ep/\es.toList=xs.map (entryOfKey<|tupleKind<|jQ P w):=by
 obtain⟨c,d⟩:=(ok a _ e);obtain⟨_,f,xs,r,g,es,ep,g1,g2,g3,g4,_⟩:=(d);rw[c] at g1;cases g1;exact⟨c,f,g2,xs,es,ep,r,g3,g4⟩
def jnu{H}{a}{xs}(r:KT H a xs):∀{i:Nat}{q},xs[i]?=some q->∃ v,An3 (a[i]?=some (q.1,v)) (H q.2.1=some (.tup<|q.1.map kV)) (RelV v q.2.2):=by
 induction r with
 | nil=>intro i q e;simp at e
 | @cons p q c d h _ b=>
  intro i x e;cases i with
  | zero=>cases e;exact⟨p.2,by rw[<- h.1];rfl,by rw[<- h.1];exact h.2.1,h.2.2⟩
  | succ i=>exact b ⇑e
def jeg{P}{w}{K}{elts}{m}{pos}(a g)(o)(B)(es)(ep)(y:o.data=.dict es ep):
  Turn P w K (.Tuple elts m pos) (jnI a o B) [g] g (λi h=>∃ ok ov,IsItemIter h g a i es.size ep ok ov) where
 mem:=by simp
 obj:=λi h f b c=>by
  have e:b=g:=by simpa using c
  subst e;obtain⟨ok,ov,d⟩:=f;exact⟨_,d,λv q=>by cases q⟩
 keep:=λi h V f k=>by
  obtain⟨ok,ov,d⟩:=f;exact⟨ok,ov,k g (by simp) _ d⟩
 item:=by
  intro X W Y Z R i p s σ H E I A f C;obtain⟨D,S⟩:=C;obtain⟨g1,g2,gx,t,F,G,r,g3,g4⟩:=jk2 I.hok D;rw[y] at g3;cases g3;have j:=Paired.length r;obtain⟨q,T⟩:∃ q,t[i]?=some q:=⟨t[i]'∅,by simp[<- j,S]⟩;obtain⟨v,J,c,rv⟩:=jnu r T;obtain⟨ok,ov,d⟩:=f;have l:=N0 d;have L:es[i]?=some (entryOfKey (tupleKind<|jQ X.prog X.w) q):=by rw[<- Array.getElem?_toList,g4,List.getElem?_map,T];rfl
  obtain⟨M,gg,dd,U,os⟩:=s;refine joj d g1 y L λh1 N hT hk=>⟨_,rfl,wpAny_letOwnedTupleGo_items N λh2 O Q=>?_⟩;have n:=Q;have u:=(n.2 _<|Nat.ne_of_gt l).trans hT;have kk:∀ b o,b∉[g]->M.get? b=some o->h2.get? b=some o:=λb o c q=>by
   have x:b≠g:=by simpa using c
   exact(n.2 b x).trans (hk b o x q)
  have I1:=I.turnedNew (t':=U) (xs:=[.ref q.2.1,v]) kk A (M8 _) ⟨⟨_,u,rfl,_,rfl⟩,_,u,rfl⟩ (.cons rfl<|.cons rv .nil) (by show 2<=sizeLine;decide);refine⟨.ref M.objs.size,_,I1,rfl,⟨_,(q.1,v),q.2.1,J,rfl,I.hok.fresh<|M8 _,c,rfl⟩,⟨_,_,O⟩,λb c=>?_⟩;rw[je]
  ·exact(A b c).1
  ·intro z;have e:b=g:=by simpa using c
   exact absurd l (by rw[<- e,z];exact Nat.lt_irrefl _)
 done:=by
  intro X W Y Z R i p s σ H E I A f C;obtain⟨D,S⟩:=C;obtain⟨g1,g2,gx,t,F,G,r,g3,g4⟩:=jk2 I.hok D;rw[y] at g3;cases g3;have j:=Paired.length r;have hes:es.size=t.length:=by rw[<- Array.length_toList,g4,L1]
  obtain⟨ok,ov,d⟩:=f;obtain⟨M,gg,dd,U,os⟩:=s;exact jpo (I.ok.hd R) d g1 y (Array.getElem?_eq_none ∅) λV eb=>⟨rfl,I.turnedL (λb o c q=>eb b o ⇑c q) A⟩
 self:=λ_ _ _ _ _ f h=>by
  obtain⟨ok,ov,d⟩:=f;exact Kr d h
def jko(te:TE):TI:=λσ H R=>te σ H λx H1=>∃ a kvs,x=.ref a/\H1 a=some (.dT kvs)/\∀ o,R (jnI a o kvs)<|upd H1 a<|.frz o<|.dT kvs
section
variable {X:Cx}
def Inv.frzT{pins}{σ:St}{H}{s}{a}{c}(I:Inv X pins σ H s)(e:H a=some (.dT c)):
  Ex3 λo es ep=>An5 (o.data=.dict es ep) (s.heap.get? a=some o) o.ExactDict ((a==sysModules)=false) (Inv X pins σ (upd H a<|.frz o<|.dT c) s):=by
 obtain⟨z,hd,i,r,o,es,ep,d,g,h,j,k⟩:=(I.hok a _ e);refine⟨o,es,ep,h,d,g,hd,?_⟩;refine xS I (by rw[e];exact trivial) ⟨rfl,λ_ _=>rfl⟩ ⟨o,d⟩<|⟨d,z,hd,i,KT.keeps (r)<|λb l f=>?_,o,es,ep,d,g,h,j,k⟩;rw[je<|λz=>by rw[z,e] at f;cases f];exact f
def jf0{elts}{m}{tpos apos cpos}{e}{te}(D:PE X e te)
  (f:attributeBase e "items" X.env (eval e X.env)=eval e X.env:=by rfl) (g:(apos.endLine==cpos.line)=true:=by rfl):PI X (.Tuple elts m tpos) (.Call (.Attribute e "items" apos) [] [] cpos) (jko te):=by
 intro d s σ H R I h;refine wpAny_Call_method0_late f g<|thn (D d s σ H _ I h) λv s1 ⟨x,E,k,r1,a,i,ex,l,q⟩=>?_;subst ex;obtain rfl:v=Value.ref a:=r1;obtain⟨G,J,_⟩:=jb8 k<|.inr ⟨i,.inl l⟩;obtain⟨T,n,p,U,r,K,t,_⟩:=k.frzT l;obtain⟨c,L,M,N,os⟩:=s1;refine⟨"dict","dict.items",PySem.F.plainAttrs_dict,PySem.F.slot_dict_items,PySem.F.type_dict_items,G,J,Calls.callWith_builtin rfl<|PySem.evalArgs_none<|zW (es:=n) (ep:=p) r K t ?_⟩;have z:∀ b u,c.get? b=some u->(c.push ({cls:=.type "dict_items",data:=.fields #[.ref a]}:Obj)).get? b=some u:=λb u q=>L8 _ q;have A:Inv X d σ E ⟨c.push {cls:=.type "dict_items",data:=.fields #[.ref a]},L,M,N,os⟩:=k.kept z;have O:(c.push ({cls:=.type "dict_items",data:=.fields #[.ref a]}:Obj)).IsItemsView c.objs.size a:=⟨_,X7 _ rfl,rfl,rfl⟩;obtain⟨o,w,y,C,P,V,hd,B⟩:=A.frzT l;refine jnS O P C ?_;generalize c.push ({cls:=.type "dict_items",data:=.fields #[.ref a]}:Obj)=hp2 at *;have Q:∀ b u,hp2.get? b=some u->(hp2.push ({cls:=.type "dict_itemiterator",data:=.fields #[.none,.bool false,.ref a,.int 0 0,.int w.size 0,.int y 0,.none,.none]}:Obj)).get? b=some u:=λb u q=>L8 _ q;refine⟨hp2.objs.size,[hp2.objs.size],_,_,_,rfl,B.kept Q,jeg a _ o i w y C,⟨.none,.none,X7 _ rfl⟩,λb S=>?_,q o⟩;have j:hp2.objs.size<=b:=by
  have:b=hp2.objs.size:=by simpa using S
  rw[this];exact M8 _
 exact B.fpOk j<|B.hok.fresh j
end
end L2
set_option maxHeartbeats 1000000
namespace PySem
namespace F
end F
end PySem
namespace L2
open PySem PySem.Spec PyProof.Rows
structure Z3(z TI TO j1 j2 j3 t l m:Addr):Prop where
 TIz:TI≠z
 TOz:TO≠z
 j1z:j1≠z
 j2z:j2≠z
 j3z:j3≠z
 TITO:TI≠TO
 TIj1:TI≠j1
 TIj2:TI≠j2
 TIj3:TI≠j3
 TOj1:TO≠j1
 TOj2:TO≠j2
 TOj3:TO≠j3
 j12:j1≠j2
 j13:j1≠j3
 j23:j2≠j3
 out:∀ x,x=t\/x=l\/x=m->x≠z/\x≠TO/\x≠j1/\x≠j2/\x≠j3
end L2
namespace PySem
namespace F
end F
end PySem
namespace L2
open PySem PySem.Spec PyProof.Rows
end L2
namespace PySem
open Sem (wp)
namespace F
end F
end PySem
namespace L2
open PySem PySem.Spec PyProof.Rows
end L2
namespace PySem
open L2 PyProof.Rows
end PySem
namespace L2
open PySem PySem.Spec PyProof.Rows
abbrev VS(h:Heap)(T:Addr)(xs:List Value):Prop:=h.get? T=some {cls:=.type "tuple",data:=.seq xs.toArray}
def ItAt(h:Heap)(j c:Addr)(n:Nat)(vs:Array Value):Bool->Prop
 | true=>h.IsListIter j c n/\h.IsList c vs
 | false=>h.IsTupleIter j c n/\h.IsTuple c vs
def ItAt.ext{h k}{j c a}{n}{vs}{K}(q:ItAt h j c n vs K)(b:Heap.SameBut a h k)(d:j≠a)(e:c≠a):ItAt k j c n vs K:=by
 cases K<;>exact⟨q.1.extBut b.extBut d,q.2.extBut b.extBut e⟩
def ItAt.up{h k}{j c}{n}{vs}{K}(q:ItAt h j c n vs K)(a:∀ o,h.get? j=some o->k.get? j=some o)(b:∀ o,h.get? c=some o->k.get? c=some o):ItAt k j c n vs K:=by
 cases K <;>
 ·obtain⟨⟨d,e,f⟩,g,e2,i⟩:=q;exact⟨⟨d,a _ e,f⟩,g,b _ e2,i⟩
section
variable {prog:Program}{w:World}{A:Around}{E:J0}{s:Shared}
def ji9{j c}{n}{vs}{K}{x}{C}(q:ItAt s.heap j c n vs K)(a:c≠j)(e:vs[n]?=some x)
  (go:∀ k,ItAt k j c (n+1) vs K->Heap.SameBut j s.heap k->C x {s with heap:=k}):wpAny (model prog w) A (Builtin.SmallTypes.nextOf<|.ref j) C E s:=by
 cases K with
 | true=>exact wpAny_nextOf_list_item q.1 q.2 e λk p b=>go k ⟨p,q.2.extBut (Heap.SameBut.extBut b) a⟩ b
 | false=>exact jdT q.1 q.2 e λk p b=>go k ⟨p,q.2.extBut (Heap.SameBut.extBut b) a⟩ b
def jjQ(a:VS s.heap T xs)(b:xs.length<=1000)
  (h:∀ h',VS h' T (xs.set k x)->Heap.SameBut T s.heap h'->Q () {s with heap:=h'}):wpAny (model prog w) A (updateSeq T (·.setIfInBounds k x)) Q E s:=by
 have l:xs.toArray.size<=1000:=by simpa using b
 exact wpAny_updateSeq a rfl (h _ (by rw[VS,Heap.get?_update_self _ a rfl];simp[Obj.mapSeq])<|Heap.SameBut.update ..) (N6 l<|by decide) (by rw[Array.size_setIfInBounds];exact N6 l<|by decide)
def jpi{α:Type}{β}{f}{b}{Q:β->Shared->Prop}(St:Nat->Heap->Prop):∀(l:List α) k {s},St k s.heap ->
  (∀ i x h,l[i]?=some x->St (k+i) h->wpAny (model prog w) A (f (x,k+i) b) (λr s'=>r=.yield b/\∃ h',s'={s with heap:=h'}/\St (k+i+1) h') E {s with heap:=h}) ->
  (∀ h,St (k+l.length) h->Q b {s with heap:=h})->wpAny (model prog w) A (forIn (l.zipIdx k) b f) Q E s:=by
 intro l
 induction l with
 | nil=>
  intro k s a _ c;exact M6<|c _ a
 | cons x l g=>
  intro k s a d c;rw[List.zipIdx_cons,List.forIn_cons];refine L3<|wpAny_mono (d 0 x s.heap rfl a) ?_<|λ_ _ z=>z
  ·rintro r s' ⟨rfl,h',rfl,j⟩;exact g (k+1) j (λi x h e q=>by have:=d (i+1) x h ⇑e (by rw[show k+(i+1)=k+1+i by lia];exact q);rw[show k+(i+1)=k+1+i by lia] at this;exact this)<|λh q=>c h (by rw[M1,show k+(l.length+1)=k+1+l.length by lia];exact q)
structure Zi where
 j:Addr
 c:Addr
 vs:Array Value
 x:Value
 k:Bool
structure ZA(z TI TO:Addr)(its:List Zi):Prop where
 TIz:TI≠z
 TOz:TO≠z
 TITO:TI≠TO
 jz:∀ q∈its,q.j≠z/\q.j≠TI/\q.j≠TO
 cz:∀ q∈its,q.c≠z/\q.c≠TO/\∀ r∈its,q.c≠r.j
 nd:(its.map (·.j)).Nodup
variable {z TI TO:Addr}{its:List Zi}{n:Nat}{os:List Value}
structure ZSn(s:Shared)(z TI TO:Addr)(its:List Zi)(n:Nat)(os:List Value)(i:Nat)(h:Heap):Prop where
 a:IsZip h z TI TO .ellipsis
 b:VS h TO ((its.take i).map (·.x)++os.drop i)
 c:∀(m:Nat) (q:Zi),its[m]?=some q->ItAt h q.j q.c (if m<i then n+1 else n) q.vs q.k
 d:h.objs.size=↥s
 e:∀ a o,a≠z->a≠TO->(∀ q∈its,a≠q.j)->s.heap.get? a=some o->h.get? a=some o
def jgW{C:J0}(D:ZA z TI TO its)(y:IsZip s.heap z TI TO .none)(qI:VS s.heap TI<|its.map λq=>.ref q.j)(X:VS s.heap TO os)(Y:its≠[])(Z:os.length=its.length)(hl:its.length<=1000)
  (q:∀ r∈its,ItAt s.heap r.j r.c n r.vs r.k/\r.vs[n]?=some r.x)
  (go:∀ k,IsZip k z TI TO (rawInt ↥s)->VS k TO (its.map (·.x))->(∀ r∈its,ItAt k r.j r.c (n+1) r.vs r.k)->VS k ↥s (its.map (·.x)) ->
   (∀ a o,a≠z->a≠TO->(∀ r∈its,a≠r.j)->s.heap.get? a=some o->k.get? a=some o)->C (.ref ↥s) {s with heap:=k}):
  wpAny (model prog w) A (Builtin.«zip.__next__» ⟨[.ref z],[]⟩) (λfin s'=>∃ v,fin=.done (.ret v)/\C v s') E s:=by
 refine(show wpAny (model prog w) A (field (.ref z) 2 >>= _) _ _ _ from L3 (U5 y rfl rfl<|L3<|U5 y rfl rfl<|L3<|wpAny_seqItems qI rfl ?_));have he:(its.map λq=>Value.ref q.j).toArray.isEmpty=false:=by cases its<;>simp at Y ⊢
 simp only[he];refine(L3<|L3<|U5 y rfl rfl<|M6<|L3<|wpAny_rule<|L3<|U5 y rfl rfl<|L3<|wpAny_setField_rec y (by simp) λk1 z1 H=>(L3<|jpi (ZSn s z TI TO its n os) (its.map λq=>Value.ref q.j) 0 (s:={s with heap:=k1}) ⟨z1,?_,λm r e=>?_,H.1,λa o g _ _ e=>H.extBut _ _ g e⟩ (λi x h e S=>?_) λh S=>?_))
 ·rw[List.take_zero,List.drop_zero];exact H.extBut _ _ D.TOz X
 ·have f:=List.mem_of_getElem? e;exact(q r f).1.ext H (D.jz r f).1 (D.cz r f).1
 ·rw[Nat.zero_add] at S ⊢;rw[List.getElem?_map] at e;obtain⟨r,u,rfl⟩:=Option.map_eq_some_iff.mp e;have f:=List.mem_of_getElem? u;have hi:=(L9.mp u).1;have hit:=S.c i r u;rw[if_neg<|Nat.lt_irrefl _] at hit;refine L3<|wpAny_onRaise (L3<|ji9 hit ((D.cz r f).2.2 r f) (q r f).2 λk2 p B=>M6 ?_)
  have P:=B.extBut _ _ (D.jz r f).2.2.symm S.b;refine L3<|wpAny_seqItems P rfl<|L3<|jjQ P (by simp;lia) λk3 o3 F=>?_;refine L3<|wpAny_letGo<|M6 ⟨rfl,k3,rfl,?_⟩;have K:∀ m t,its[m]?=some t->m≠i->t.j≠r.j:=λm t l L ej=>by
   have:=(List.getElem_inj (h₀:=by simpa using((L9.mp l).1)) (h₁:=by simpa using hi) D.nd).mp (by simp[(L9.mp l).2,(L9.mp u).2,ej]);exact L this
  refine⟨F.extBut _ _ D.TOz.symm<|B.extBut _ _ (D.jz r f).1.symm S.a,?_,λm t l=>?_,by rw[F.1,B.1];exact S.d,λa o g I J e=>F.extBut _ _ I<|B.extBut _ _ (J r f)<|S.e a o g I J e⟩
  ·have ee:(List.map (·.x) (its.take i)++os.drop i).set i r.x=List.map (·.x) (its.take<|i+1)++os.drop (i+1):=by
    rw[List.take_add_one,u,Option.toList,N4,List.append_assoc,List.set_append_right _ _<|by simp;lia];have M:i<os.length:=by lia
    rw[List.drop_eq_getElem_cons M];have:i-(List.map (·.x)<|its.take i).length=0:=by simp;lia
    rw[this];rfl
   rw[<- ee];exact o3
  ·have N:=List.mem_of_getElem? l;by_cases e2:m=i
   ·subst e2;cases u.symm.trans l;rw[if_pos<|Nat.lt_succ_self _];exact p.ext F (D.jz r f).2.2 (D.cz r f).2.1
   ·have x1:=((S.c m t l).ext B (K m t l e2) ((D.cz t N).2.2 r f)).ext F (D.jz t N).2.2 (D.cz t N).2.1;have:(m<i+1)=(m<i):=by apply propext;lia
    simp only[this];exact x1
 ·rw[Nat.zero_add,L1] at S;have O:=S.b;rw[List.take_length,<- Z,List.drop_length,M9] at O;refine L3<|wpAny_seqItems O rfl<|L3<|wpAny_newTuple ?_;have Q:=N0 S.a;refine(L3 ?_);have z8:IsZip (h.push {cls:=.type "tuple",data:=.seq (its.map (·.x)).toArray}) z TI TO .ellipsis:=L8 _ S.a;refine L3<|wpAny_setField_rec z8 (by simp) λk9 z9 R=>(wpAny_setField_rec z9 (by simp) λT U V=>?_);have up:∀ c o,c≠z->h.get? c=some o->T.get? c=some o:=λc o g e=>V.extBut _ _ g<|R.extBut _ _ g<|L8 _ e;have W:=V.extBut _ _ (Nat.ne_of_gt Q)<|R.extBut _ _ (Nat.ne_of_gt Q)<|X7 _ rfl;rw[S.d] at U W;refine M6 ⟨_,rfl,?_⟩;rw[S.d];refine go T U (up _ _ D.TOz O) (λr f=>?_) W λa o g I J e=>up a o g<|S.e a o g I J e;obtain⟨m,G,rfl⟩:=List.getElem_of_mem f;have x:=S.c m _<|X5 G;rw[if_pos G] at x;refine x.up (λo e=>up _ _ (D.jz _ f).1 e)<|λo e=>up _ _ (D.cz _ f).1 e
def jkw{j c}{vs}{K}{C}(a:A.handled=none)(q:ItAt s.heap j c n vs K)(e:vs[n]?=none)
  (go:∀ k e,Heap.ExtBut j s.heap k->(∃ o,k.get? e=some o/\o.cls=.type "StopIteration")->E (.ref e) {s with heap:=k}):wpAny (model prog w) A (Builtin.SmallTypes.nextOf<|.ref j) C E s:=by
 cases K with
 | true=>exact wpAny_nextOf_list_end a q.1 q.2 e go
 | false=>exact jjf a q.1 q.2 e go
def jlD{C}{r}(u:A.handled=none)(D:ZA z TI TO<|r::its)(b:IsZip s.heap z TI TO .none)(qI:VS s.heap TI<|(r::its).map λq=>.ref q.j)(q:ItAt s.heap r.j r.c n r.vs r.k)(ex:r.vs[n]?=none)
  (go:∀ k e,(∀ a o,a≠z->a≠TO->(∀ t∈r::its,a≠t.j)->s.heap.get? a=some o->k.get? a=some o)->(∃ o,k.get? e=some o/\o.cls=.type "StopIteration")->E (.ref e) {s with heap:=k}):
  wpAny (model prog w) A (Builtin.«zip.__next__» ⟨[.ref z],[]⟩) C E s:=by
 have d:r∈r::its:=L7;refine(show wpAny (model prog w) A (field (.ref z) 2 >>= _) _ _ _ from L3 (U5 b rfl rfl<|L3<|U5 b rfl rfl<|L3<|wpAny_seqItems qI rfl<|L3<|L3<|U5 b rfl rfl<|M6<|L3<|wpAny_rule<|L3<|U5 b rfl rfl<|L3<|wpAny_setField_rec b (by simp) λH v g=>(L3<|L3<|L3<|wpAny_onRaise (L3<|jkw u (q.ext g (D.jz r d).1 (D.cz r d).1) ex λI e h y=>?_))));obtain⟨B,f,i⟩:=y;have l:=h _ _ (D.jz r d).1.symm v;have ne:e≠z:=λx=>by subst x;rw[l] at f;cases f;simp at i
 exact wpAny_setField_rec l (by simp) λF _ m=>go F e (λc o p _ G x=>m.extBut _ _ p<|h _ _ (G r d)<|g.extBut _ _ p x) ⟨B,m.extBut _ _ ne f,i⟩
def jhJ{C}(D:ZA z TI TO its)(b:IsZip s.heap z TI TO .none)(qI:VS s.heap TI<|its.map λq=>.ref q.j)(d:VS s.heap TO os)(e:its≠[])(f:os.length=its.length)(g:its.length<=1000)
  (q:∀ r∈its,ItAt s.heap r.j r.c n r.vs r.k/\r.vs[n]?=some r.x)
  (go:∀ k,IsZip k z TI TO (rawInt ↥s)->VS k TO (its.map (·.x))->(∀ r∈its,ItAt k r.j r.c (n+1) r.vs r.k)->VS k ↥s (its.map (·.x)) ->
   (∀ a o,a≠z->a≠TO->(∀ r∈its,a≠r.j)->s.heap.get? a=some o->k.get? a=some o)->C (some<|.ref ↥s) {s with heap:=k}):wpAny (model prog w) A (pyNext<|.ref z) C E s:=by
 have ty:s.TypeIs (.ref z) "zip":=⟨_,b,rfl⟩;exact L3<|wpAny_attempt<|wpAny_callSpecial?_slot ty F.slot_zip_next<|wpAny_call_entry F.slot_zip_next ty F.entry_zip_next
  (jgW D b qI d e f g q λk c1 h i l m=>M6<|go k c1 h i l m) (F.args_zip_next_1 _)
def jir{C}{r}(d:A.handled=none)(D:ZA z TI TO<|r::its)(b:IsZip s.heap z TI TO .none)(qI:VS s.heap TI<|(r::its).map λq=>.ref q.j)(q:ItAt s.heap r.j r.c n r.vs r.k)(ex:r.vs[n]?=none)
  (go:∀ k,(∀ a o,a≠z->a≠TO->(∀ t∈r::its,a≠t.j)->s.heap.get? a=some o->k.get? a=some o)->C none {s with heap:=k}):wpAny (model prog w) A (pyNext<|.ref z) C E s:=by
 have ty:s.TypeIs (.ref z) "zip":=⟨_,b,rfl⟩;refine L3<|wpAny_attempt<|wpAny_callSpecial?_slot ty F.slot_zip_next<|wpAny_call_entry F.slot_zip_next ty F.entry_zip_next (jlD d D b qI q ex λk e kp f=>?_)<|F.args_zip_next_1 _;obtain⟨o,g,h⟩:=f;exact L3<|wpAny_isInstance ⟨o,g,h⟩ isSubtype_stop<|M6<|go _ kp
end
section
variable {prog:Program}{w:World}{A:Around}{E:J0}{s:Shared}
def SqH(h:Heap)(c:Addr)(vs:Array Value):Bool->Prop
 | true=>h.IsList c vs
 | false=>h.IsTuple c vs
def SqH.push{h}{c}{vs}{K}(q:SqH h c vs K)(o):SqH (h.push o) c vs K:=by
 cases K <;>
 ·obtain⟨a,e,t⟩:=q;exact⟨a,L8 _ e,t⟩
def jhV{c}{vs}{K}{Q}(q:SqH s.heap c vs K)
  (go:∀ o:Obj,ItAt (s.heap.push o) ↥s c 0 vs K->Q (.ref ↥s) {s with heap:=s.heap.push o}):wpAny (model prog w) A (pyIter<|.ref c) Q E s:=by
 cases K with
 | true=>exact wpAny_pyIter_list q<|go _ ⟨⟨_,X7 _ rfl,rfl,rfl⟩,SqH.push q _⟩
 | false=>exact wpAny_pyIter_tuple q<|go _ ⟨⟨_,X7 _ rfl,rfl,rfl⟩,SqH.push q _⟩
def jfA:∀(l:List<|Addr×Array Value×Bool) acc {s:Shared},(∀ p∈l,SqH s.heap p.1 p.2.1 p.2.2) ->
  (∀ k:Heap,k.objs.size=↥s+l.length->(∀ i p,l[i]?=some p->ItAt k (↥s+i) p.1 0 p.2.1 p.2.2)->(∀ c o,s.heap.get? c=some o->k.get? c=some o) ->
   Q (acc++((List.range' ↥s l.length).map Value.ref).toArray) {s with heap:=k}) ->
  wpAny (model prog w) A (forIn (l.map λp=>Value.ref p.1) acc λx r=>do pure (ForInStep.yield<|r.push<|<- holding r.toList (pyIter x))) Q E s:=by
 intro l
 induction l with
 | nil=>
  intro acc s _ go;exact M6 ⇑(go s.heap rfl (by simp) λ_ _ e=>e)
 | cons p l d=>
  intro acc s h go;rw[L5,List.forIn_cons];refine L3<|L3<|wpAny_holding<|jhV (h p L7) λo q=>(M6<|d _ (λr f=>(h r<|L6 _ f).push _) λk b hi a=>?_);have s1:(s.heap.push o).objs.size=↥s+1:=Heap.size_push ..;simp only[s1] at b hi ⊢;have g:=go k (by rw[b,M1];lia) (λi r e=>?_) λc j e=>a c j<|L8 _ e
  ·rw[M1,List.range'_succ,L5] at g;have e2:acc.push (.ref ↥s)++((List.range' (↥s+1) l.length).map Value.ref).toArray=acc++(Value.ref ↥s::(List.range' (↥s+1) l.length).map Value.ref).toArray:=by apply Array.ext';simp
   rw[e2];exact g
  ·cases i with
   | zero=>cases e;exact q.up (a _)<|a _
   | succ i=>rw[show ↥s+(i+1)=↥s+1+i by lia];exact hi i r ⇑e
def jaf{Q}{l:List (Addr×Array Value×Bool)}(h:∀ p∈l,SqH s.heap p.1 p.2.1 p.2.2)
  (go:∀ k:Heap,k.objs.size=↥s+l.length->(∀ i p,l[i]?=some p->ItAt k (↥s+i) p.1 0 p.2.1 p.2.2)->(∀ c o,s.heap.get? c=some o->k.get? c=some o) ->
   Q ((List.range' ↥s l.length).map Value.ref) {s with heap:=k}):wpAny (model prog w) A (Builtin.SmallTypes.iterAll<|l.map λp=>Value.ref p.1) Q E s:=by
 refine L3<|jfA l #[] h λk a b d=>M6 ?_;have:=go k a b d;simpa using this
def jhU(l:List<|Addr×Array Value×Bool)(a:l.length<=1000):Meets (Builtin.«zip.__new__» ⟨.type "zip"::l.map λp=>.ref p.1,[]⟩) (λ_ R s=>(∀ p∈l,SqH s.heap p.1 p.2.1 p.2.2)/\∀ k:Heap,k.objs.size=↥s+l.length->(∀ i p,l[i]?=some p->ItAt k (↥s+i) p.1 0 p.2.1 p.2.2)->(∀ c o,s.heap.get? c=some o->k.get? c=some o) ->
   R (.ok<|.ret<|.ref<|k.objs.size+2) { s with heap:=((k.push {cls:=.type "tuple",data:=.seq ((List.range' ↥s l.length).map Value.ref).toArray}).push {cls:=.type "tuple",data:=.seq (l.map λ_=>Value.none).toArray}).push {cls:=.type "zip",data:=.fields #[.none,.bool false,.bool false,.ref k.objs.size,.ref<|k.objs.size+1]} }):=
 .of_wp λprog w A R s h=>by
  obtain⟨d,h⟩:=h;have b:=sub_zip
  wp_walk using jaf d
  intro k e e2 e3;have f:(List.map (λ_=>Value.none)<|List.map Value.ref<|List.range' ↥s l.length)=l.map λ_=>Value.none:=by
   rw[U0];apply List.ext_getElem<;>simp
  rw[f];refine L3<|wpAny_newTuple ?_ (by simp;exact N6 a<|by decide);refine L3 (wpAny_newTuple ?_<|by simp;exact N6 a<|by decide)
  wp_walk
  refine⟨_,rfl,?_⟩;rw[Heap.size_push,Heap.size_push];exact(h k e e2 e3)
def jhZ{l:List (Addr×Array Value×Bool)}{C}(j:l.length<=1000)(a:checkTypeCall "zip" ⟨l.map λp=>.ref p.1,[]⟩=pure ())(b:checkBuiltinCall "zip.__new__" ⟨.type "zip"::l.map λp=>.ref p.1,[]⟩=pure ())(hok:∀ obj,argsOk "object.__init__" ⟨obj::l.map λp=>.ref p.1,[]⟩)
  (h1:∀ p∈l,SqH s.heap p.1 p.2.1 p.2.2)
  (go:∀ k N,N=↥s+l.length->IsZip k (N+2) N (N+1) .none->VS k N ((List.range' ↥s l.length).map Value.ref)->VS k (N+1) (l.map λ_=>.none)->(∀ i p,l[i]?=some p->ItAt k (↥s+i) p.1 0 p.2.1 p.2.2)->(∀ c o,s.heap.get? c=some o->k.get? c=some o)->C (.ref<|N+2) {s with heap:=k}):
  wpAny (model prog w) A (call (.type "zip")<|l.map λp=>.ref p.1) C E s:=by
 refine callType_new F.called_zip (by decide) a b hok F.entry_zip_new (jhU l j) ⟨h1,λk m e2 e3=>?_⟩;have d:∀(h:Heap) o,(h.push o).objs.size=h.objs.size+1:=λh o=>Heap.size_push ..;have f:=X7 (((k.push {cls:=.type "tuple",data:=.seq ((List.range' ↥s l.length).map Value.ref).toArray}).push {cls:=.type "tuple",data:=.seq (l.map λ_=>Value.none).toArray})) (o:={cls:=.type "zip",data:=.fields #[.none,.bool false,.bool false,.ref k.objs.size,.ref<|k.objs.size+1]}) rfl;rw[d,d] at f;have up:∀ c o,k.get? c=some o->(((k.push {cls:=.type "tuple",data:=.seq ((List.range' ↥s l.length).map Value.ref).toArray}).push {cls:=.type "tuple",data:=.seq (l.map λ_=>Value.none).toArray}).push {cls:=.type "zip",data:=.fields #[.none,.bool false,.bool false,.ref k.objs.size,.ref<|k.objs.size+1]}).get? c=some o:=λc o x=>L8 _<|L8 _<|L8 _ x;have g:=X7 (k.push {cls:=.type "tuple",data:=.seq ((List.range' ↥s l.length).map Value.ref).toArray}) (o:={cls:=.type "tuple",data:=.seq (l.map λ_=>Value.none).toArray}) rfl;rw[d] at g;exact⟨⟨_,f,rfl⟩,go _ k.objs.size m f (L8 _<|L8 _<|X7 k rfl) (L8 _ g) (λi p e=>(e2 i p e).up (up _) (up _)) λc o x=>up c o<|e3 c o x⟩
end
def SqB(K:W4)(H:Hp)(c:Addr):Bool->List V->Prop
 | true,q=>SqL K H c q
 | false,q=>SqT K H c q
def ItB(h:Heap)(j c:Addr)(n:Nat):Bool->Prop
 | true=>h.IsListIter j c n
 | false=>h.IsTupleIter j c n
structure Zp where
 j:Addr
 c:Addr
 k:Bool
def IzN(K:W4)(as:List<|Addr×Bool):It:=
 ⟨λi H=>∀ a∈as,∃ q x,SqB K H a.1 a.2 q/\q[i]?=some x,
  λi H x H'=>∃ p xs,xs.length=as.length/\(∀(m:Nat) a,as[m]?=some a->∀ q,SqB K H a.1 a.2 q->∃ u,xs[m]?=some u/\q[i]?=some u)/\x=.ref p/\H p=none/\H'=upd H p (.tup xs),
  λi H=>∃ a r q,as=a::r/\SqB K H a.1 a.2 q/\q.length<=i⟩
def jgp(I:Inv X pins σ H s)(h:SqB X.K H c k q)(hi:ItB s.heap j c n k):∃ us:List Value,Vals q us/\ItAt s.heap j c n us.toArray k:=by
 cases k with
 | true=>
  obtain⟨us,a,p,_⟩:=I.list h;exact⟨us,a,hi,p.isList⟩
 | false=>
  obtain⟨us,a,p,_⟩:=I.tuple h;exact⟨us,a,hi,p⟩
def jhT(I:Inv X pins σ H s)(h:SqB X.K H c k q)(h':SqB X.K H c k q'):q=q':=by
 cases k with
 | true=>exact I.list_inj h h'
 | false=>exact I.tuple_inj h h'
def zis(I:Inv X pins σ H s):∀ ps:List Zp,(∀ p∈ps,∃ q x,SqB X.K H p.c p.k q/\q[i]?=some x)->(∀ p∈ps,ItB s.heap p.j p.c i p.k) ->
  Ex2 λ(its:List Zi) (xs:List V)=>An4 (its.map (λr=>(⟨r.j,r.c,r.k⟩:Zp))=ps) (Vals xs (its.map (·.x))) (∀ r∈its,ItAt s.heap r.j r.c i r.vs r.k/\r.vs[i]?=some r.x) (∀(m:Nat) p,ps[m]?=some p->∀ q,SqB X.K H p.c p.k q->∃ u,xs[m]?=some u/\q[i]?=some u):=by
 intro ps
 induction ps with
 | nil=>
  intro _ _;exact⟨[],[],rfl,.nil,by simp,by simp⟩
 | cons p ps o=>
  intro g h;obtain⟨its,xs,e,v,a,b⟩:=o (λr d=>g r<|by simp[d]) λr d=>h r (by simp[d]);obtain⟨q,x,l,n⟩:=g p (by simp);obtain⟨w,y,z⟩:=jgp I l<|h p (by simp);obtain⟨u,A,B⟩:=y.get n;refine⟨⟨p.j,p.c,w.toArray,u,p.k⟩::its,x::xs,by rw[L5,e],.cons B v,λr d=>?_,λm t e2 C f=>?_⟩
  ·rcases M4.mp d with rfl | d
   ·exact⟨z,by simpa using A⟩
   ·exact a r d
  ·cases m with
   | zero=>cases e2;exact⟨x,rfl,by rw[jhT I f l];exact n⟩
   | succ m=>exact b m t ⇑e2 C f
structure ZP(z TI TO:Addr)(ps:List Zp):Prop where
 TIz:TI≠z
 TOz:TO≠z
 TITO:TI≠TO
 jz:∀ q∈ps,q.j≠z/\q.j≠TI/\q.j≠TO
 cz:∀ q∈ps,q.c≠z/\q.c≠TO/\∀ r∈ps,q.c≠r.j
 nd:(ps.map (·.j)).Nodup
def ZP.za{z TI TO}{ps}{its}(D:ZP z TI TO ps)(e:its.map (λr=>(⟨r.j,r.c,r.k⟩:Zp))=ps):ZA z TI TO its:=by
 subst e;refine⟨D.TIz,D.TOz,D.TITO,λq a=>D.jz _<|List.mem_map_of_mem a,λq a=>?_,by have:=D.nd;rwa [U0] at this⟩;have:=D.cz _<|List.mem_map_of_mem a;exact⟨this.1,this.2.1,λr b=>this.2.2 _<|List.mem_map_of_mem b⟩
def ItB.obj(q:ItB h j c n k):∃ o,h.get? j=some o/\∀ v,o.data≠.cell v:=by
 cases k <;>
 ·obtain⟨o,e,_,d⟩:=q;exact⟨o,e,λv z=>by rw[d] at z;cases z⟩
def ItB.up(q:ItB h j c n b)(a:∀ o,h.get? j=some o->k.get? j=some o):ItB k j c n b:=by
 cases b <;>
 ·obtain⟨o,e,t⟩:=q;exact⟨o,a _ e,t⟩
def ItAt.itB(q:ItAt h j c n vs k):ItB h j c n k:=by
 cases k<;>exact q.1
def jiT{P}{w}{K}{elts}{n}{pos}(z TI TO)(ps)(D:ZP z TI TO ps)(hn:ps≠[])(hl:ps.length<=1000):
  Turn P w K (.Tuple elts n pos) (IzN K<|ps.map λp=>(p.c,p.k)) (z::TI::TO::ps.map (·.j)) z (λi h=>IsZip h z TI TO .none/\VS h TI (ps.map λp=>.ref p.j)/\(∃ os,os.length=ps.length/\VS h TO os)/\∀ p∈ps,ItB h p.j p.c i p.k) where
 mem:=by simp
 obj:=λi h l b f=>by
  obtain⟨u,y,⟨os,_,F⟩,C⟩:=l;rcases(⇑f:b=z\/b=TI\/b=TO \/ ∃ p∈ps,p.j=b) with q | q | q | ⟨p,d,q⟩<;>subst q
  ·exact⟨_,u,λv q=>by cases q⟩
  ·exact⟨_,y,λv q=>by cases q⟩
  ·exact⟨_,F,λv q=>by cases q⟩
  ·exact(C p d).obj
 keep:=λi h h' l k=>by
  obtain⟨u,y,⟨os,N,F⟩,C⟩:=l;exact⟨k z (by simp) _ u,k TI (by simp) _ y,⟨os,N,k TO (by simp) _ F⟩,λp d=>(C p d).up (k p.j<|by simp;exact .inr<|.inr<|.inr ⟨p,d,rfl⟩)⟩
 item:=by
  intro X R S T hc i G s σ H E I O l U;subst R S T;obtain⟨u,y,⟨os,N,F⟩,C⟩:=l;obtain⟨A,xs,e,J,hi,hx⟩:=zis I ps (λp d=>U (p.c,p.k)<|M5.mpr ⟨p,d,rfl⟩) C;have el:A.length=ps.length:=by rw[<- e,L1]
  have ej:(A.map λq=>Value.ref q.j)=ps.map λp=>Value.ref p.j:=by rw[<- e,U0];rfl
  have mp:∀ p∈ps,∃ r∈A,r.j=p.j/\r.c=p.c/\r.k=p.k:=λp d=>by
   rw[<- e] at d;obtain⟨r,L,rfl⟩:=M5.mp d;exact⟨r,L,rfl,rfl,rfl⟩
  refine jhJ (D.za e) u (by rw[ej];exact y) F (λz=>hn<|by rw[<- e,z];rfl) (by rw[N,el]) ∅ hi λhh a1 a2 a3 a4 Q=>?_;refine⟨_,rfl,wpAny_letOwnedTupleGo_zip a1 λh7 V g=>?_⟩;have lt:∀{c o},s.heap.get? c=some o->c < ↥s:=N0;have M:=(g.2 _<|Nat.ne_of_gt<|lt u).trans a4;have nj:∀{b},(∀ p∈ps,b≠p.j)->∀ r∈A,b≠r.j:=λh r L=>by
   have:=h ⟨r.j,r.c,r.k⟩ (by rw[<- e];exact List.mem_map_of_mem L);exact this
  have kk:∀ b o,b∉z::TI::TO::ps.map (·.j)->s.heap.get? b=some o->h7.get? b=some o:=λb o f q=>by
   have B:b≠z/\b≠TI/\b≠TO/\∀ p∈ps,b≠p.j:=by
    simp at f;exact⟨f.1,f.2.1,f.2.2.1,λp d x=>f.2.2.2 p d x.symm⟩
   exact(g.2 b B.1).trans (Q b o B.1 B.2.2.1 (nj B.2.2.2) q)
  have I1:=I.turnedNew (t':=s.toks) kk O (M8 _) ⟨⟨_,M,rfl,_,rfl⟩,_,M,rfl⟩ ⇑J (by have:=J.length;simp at this;exact N6 (by lia:xs.length<=1000)<|by decide);refine⟨.ref ↥s,_,I1,rfl,⟨_,xs,by have:=J.length;simp at this;simp;lia,λm a em q W=>?_,rfl,I.hok.fresh<|M8 _,rfl⟩,⟨V,(g.2 TI D.TIz).trans (Q _ _ D.TIz D.TITO (nj λp d x=>(D.jz p d).2.1 x.symm) y),⟨_,by rw[L1,el],(g.2 TO D.TOz).trans a2⟩,λp d=>?_⟩,λb f=>?_⟩
  ·rw[List.getElem?_map] at em;obtain⟨p,ep,rfl⟩:=Option.map_eq_some_iff.mp em;exact hx m p ep q W
  ·obtain⟨r,L,rj,rc,rk⟩:=mp p d;rw[<- rj,<- rc,<- rk];refine(a3 r L).itB.up λo q=>(g.2 _ ?_).trans q;rw[rj];exact(D.jz p d).1
  ·rw[je]
   ·exact(O b f).1
   ·intro q;have:b < ↥s:=by
     rcases(⇑f:b=z\/b=TI\/b=TO \/ ∃ p∈ps,p.j=b) with w | w | w | ⟨p,d,w⟩
     ·rw[w];exact lt u
     ·rw[w];exact lt y
     ·rw[w];exact lt F
     ·obtain⟨o,e,_⟩:=(C p d).obj;rw[<- w];exact lt e
    exact absurd this (by rw[q];exact Nat.lt_irrefl _)
 done:=by
  intro X R S T hc i G s σ H E I O l U;subst R S T;obtain⟨u,y,⟨os,N,F⟩,C⟩:=l;obtain⟨a,r,q,ea,W,hx⟩:=U;cases ps with
  | nil=>cases ea
  | cons p ps=>
   cases ea;obtain⟨us,J,it⟩:=jgp I W<|C p (by simp);have hl1:=J.length;have ee:((⟨p.j,p.c,us.toArray,.none,p.k⟩:Zi)::ps.map λp=>⟨p.j,p.c,#[],.none,p.k⟩).map (λr=>(⟨r.j,r.c,r.k⟩:Zp))=p::ps:=by
    rw[L5,U0];exact congrArg (p::·)<|List.map_id _
   refine jir (I.ok.hd hc) (D.za ee) u (by rw[show VS s.heap TI _=VS s.heap TI ((p::ps).map λp=>.ref p.j) by rw[L5,U0];rfl];exact y) it (by simp;lia) λhh Q=>⟨rfl,I.turnedL (λb o f q=>?_) O⟩;simp only[M4,M5,not_or,L5] at f;refine Q b o f.1 f.2.2.1 (λt Y x=>?_) q;rcases M4.mp Y with rfl | Y
   ·exact f.2.2.2.1 x
   ·obtain⟨p',Z,rfl⟩:=M5.mp Y;exact f.2.2.2.2 ⟨p',Z,x.symm⟩
 self:=λ_ _ _ _ _ l h=>wpAny_pyIter_zip l.1 h
end L2
namespace PySem
namespace F
def typeCall_zip_N3(a b c):checkTypeCall "zip" ⟨[a,b,c],[]⟩=pure ():=by kernel_rfl
def newCall_zip_N3(a b c):checkBuiltinCall "zip.__new__" ⟨[.type "zip",a,b,c],[]⟩=pure ():=by kernel_rfl
def args_object_init_N4(a b c d):argsOk "object.__init__" ⟨[a,b,c,d],[]⟩:=by
 unfold argsOk;kernel_rfl
end F
end PySem
namespace L2
open PySem PySem.Spec PyProof.Rows
def iZN(K:W4)(m:Nat)(tl:TA):TI:=λσ H R=>tl σ H λvs H1=>∃ as:List (Addr×Bool),as.length=m/\vs=as.map (λa=>.ref a.1)/\(∀ a∈as,∃ q,SqB K H1 a.1 a.2 q)/\R (IzN K as) H1
theorem zqs(I:Inv X pins σ H s):∀ as:List (Addr×Bool),(∀ a∈as,∃ q,SqB X.K H a.1 a.2 q)->∃ l:List (Addr×Array Value×Bool),l.map (λp=>(p.1,p.2.2))=as/\∀ p∈l,SqH s.heap p.1 p.2.1 p.2.2/\p.1 < ↥s
 | [],_=>⟨[],rfl,by simp⟩
 | (a,k)::as,h=>by
  obtain⟨l,e,d⟩:=zqs I as λb f=>h b (by simp[f]);obtain⟨q,c⟩:=h (a,k) (by simp);have:∃ vs:Array Value,SqH s.heap a vs k/\a < ↥s:=by
   cases k with
   | true=>
    obtain⟨g,i,p,_⟩:=I.list c;obtain⟨o,_,e,_⟩:=id p;exact⟨_,p.isList,N0 e⟩
   | false=>
    obtain⟨g,i,p,_⟩:=I.tuple c;obtain⟨o,e,_⟩:=id p;exact⟨_,p,N0 e⟩
  obtain⟨vs,j,m⟩:=this;exact⟨(a,vs,k)::l,by rw[L5,e],λp n=>(M4.mp n).elim (λz=>by rw[z];exact⟨j,m⟩) (d p)⟩
def zps(S:Nat)(l:List<|Addr×Array Value×Bool):List Zp:=(l.zipIdx S).map λq=>⟨q.2,q.1.1,q.1.2.2⟩
def jm9(S):∀ l:List (Addr×Array Value×Bool),(zps S l).map (·.j)=List.range' S l.length:=by
 intro l
 induction l generalizing S with
 | nil=>rfl
 | cons p l a=>have:=a<|S+1;unfold zps at this ⊢;rw[List.zipIdx_cons,L5,L5,this,M1,List.range'_succ]
def jn7(S):∀ l:List (Addr×Array Value×Bool),(zps S l).map (λp=>(p.c,p.k))=l.map λp=>(p.1,p.2.2):=by
 intro l
 induction l generalizing S with
 | nil=>rfl
 | cons p l a=>have:=a<|S+1;unfold zps at this ⊢;rw[List.zipIdx_cons,L5,L5,this,L5]
def Ki{S}:∀{l}{q},q∈zps S l->∃ i p,l[i]?=some p/\q=⟨S+i,p.1,p.2.2⟩:=by
 intro l q h;obtain⟨⟨p,m⟩,a,rfl⟩:=M5.mp h;have:=List.mem_zipIdx a;refine⟨m-S,p,?_,?_⟩
 ·rw[X5 ∅];exact congrArg some this.2.2.symm
 ·have:S+(m-S)=m:=by lia
  rw[this]
def zn1(N):N≠N+2/\N+1≠N+2/\N≠N+1:=by lia
def zn2{S L i N}(h:i<L)(e:N=S+L):S+i≠N+2/\S+i≠N/\S+i≠N+1:=by lia
def zn3{c S L N}(h:c<S)(e:N=S+L):c≠N+2/\c≠N+1/\∀ i,c≠S+i:=⟨by lia,by lia,λi=>by lia⟩
def zn4{S L N b}(e:N=S+L)(h:b=N+2\/b=N\/b=N+1):S<=b:=by lia
def jkp(I:Inv X pins σ H s)  (y:as≠[]) (S:as.length<=1000) (d:∀ a∈as,∃ q,SqB X.K H a.1 a.2 q) (q:R (IzN X.K as) H)
  (f:checkTypeCall "zip" ⟨as.map λp=>.ref p.1,[]⟩=pure ()) (g:checkBuiltinCall "zip.__new__" ⟨.type "zip"::as.map λp=>.ref p.1,[]⟩=pure ()) (hok:∀ obj,argsOk "object.__init__" ⟨obj::as.map λp=>.ref p.1,[]⟩):
  wpAny (model X.prog X.w) X.A (call (.type "zip")<|as.map λp=>.ref p.1) (λv s1=>wpAny (model X.prog X.w) X.A (pyIter v) (PIE X pins σ (.Tuple elts n tpos) R) X.xe s1) X.xe s:=by
 obtain⟨l,e,t⟩:=zqs I as d;have U:l.length=as.length:=by rw[<- e,L1]
 have B:(as.map λp=>Value.ref p.1)=l.map λp=>Value.ref p.1:=by rw[<- e,U0];rfl
 rw[B] at f g hok ⊢;refine jhZ ∅ f g hok (λp C=>(t p C).1) λE N h u F G J L=>?_;have M:Inv X pins σ H {s with heap:=E}:=I.kept L;refine PySem.wpAny_pyIter_zip u ?_;have k:=jm9 ↥s l;have x:=jn7 ↥s l;have D:ZP (N+2) N (N+1) (zps ↥s l):=by
  refine⟨(zn1 N).1,(zn1 N).2.1,(zn1 N).2.2,λq d=>?_,λq d=>?_,by rw[k];exact List.nodup_range'⟩
  ·obtain⟨i,p,m,rfl⟩:=Ki d;exact zn2 (L9.mp m).1 h
  ·obtain⟨i,p,m,rfl⟩:=Ki d;have:=zn3 (t p<|List.mem_of_getElem? m).2 h;refine⟨this.1,this.2.1,λr O=>?_⟩;obtain⟨Q,V,_,rfl⟩:=Ki O;exact this.2.2 Q
 have T:=jiT (P:=X.prog) (w:=X.w) (K:=X.K) (elts:=elts) (n:=n) (pos:=tpos) (N+2) N (N+1) (zps ↥s l) D (λz=>y<|by rw[<- e,<- x,z];rfl) (by have:=congrArg List.length k;rw[L1,List.length_range'] at this;lia);rw[x,e] at T;refine⟨N+2,_,_,_,H,rfl,M,T,⟨u,?_,⟨_,?_,G⟩,λq d=>?_⟩,λb c=>?_,q⟩
 ·rw[show(zps ↥s l).map (λp=>Value.ref p.j)=((zps ↥s l).map (·.j)).map Value.ref by rw[U0];rfl,k];exact F
 ·have:=congrArg List.length k;rw[L1,List.length_range'] at this;rw[L1];lia
 ·obtain⟨i,p,m,rfl⟩:=Ki d;exact(J i p m).itB
 ·have o:↥s<=b:=by
   rw[k] at c;rcases M4.mp c with z | c
   ·exact zn4 h<|.inl z
   rcases M4.mp c with z | c
   ·exact zn4 h<|.inr<|.inl z
   rcases M4.mp c with z | c
   ·exact zn4 h<|.inr<|.inr z
   exact(List.mem_range'_1.mp c).1
  exact I.fpOk o<|I.hok.fresh o
theorem Y2:∀{as:List (Addr×Bool)}{us},Vals (as.map λa=>V.ref a.1) us->us=as.map λa=>Value.ref a.1
 | [],_,h=>by cases h;rfl
 | a::as,_,h=>by
  cases h with
  | cons b c=>cases b;rw[Y2 c];rfl
def jmj(e:Gl X "zip")(f:X.mg "zip" = none)(g:PA X [a,b] ta)(i:starEach [a,b] X.env=[(false,eval a X.env),(false,eval b X.env)]:=by rfl)(c:starEach [b] X.env=[(false,eval b X.env)]:=by rfl):
  PI X (.Tuple elts n tpos) (.Call (.Name "zip" p) [a,b] [] pos) (iZN X.K 2 ta):=by
 intro d s σ H R I h;refine Call_<|Jn I e f (show bootBuiltins "zip" = some (.type "zip") by decide +kernel)<|PyProof.Rows.callWith_type1 (thn (g pos d s σ H _ I h) λr s1 ⟨vs,t,j,r1,k⟩=>?_) (by rw[i,c]) (by rw[c];rfl);obtain⟨l,l2,rfl,m,q⟩:=k;cases Y2 r1
 match l,l2 with
 | [x,y],_=>exact jkp j (by simp) (by simp) m q (F.typeCall_zip_2 _ _) (F.newCall_zip_2 _ _) λo=>F.args_object_init_3 o _ _
def jkB(f:Gl X "zip")(g:X.mg "zip" = none)(i:PA X [a,b,c] ta)(j:starEach [a,b,c] X.env=[(false,eval a X.env),(false,eval b X.env),(false,eval c X.env)]:=by rfl)(d:starEach [b,c] X.env=[(false,eval b X.env),(false,eval c X.env)]:=by rfl):
  PI X (.Tuple elts n tpos) (.Call (.Name "zip" p) [a,b,c] [] pos) (iZN X.K 3 ta):=by
 intro e s σ H R I h;refine Call_<|Jn I f g (show bootBuiltins "zip" = some (.type "zip") by decide +kernel)<|PyProof.Rows.callWith_type1 (thn (i pos e s σ H _ I h) λt s1 ⟨vs,u,k,r1,l⟩=>?_) (by rw[j,d]) (by rw[d];rfl);obtain⟨m,l2,rfl,r,q⟩:=l;cases Y2 r1
 match m,l2 with
 | [x,y,z],_=>exact jkp k (by simp) (by simp) r q (F.typeCall_zip_N3 _ _ _) (F.newCall_zip_N3 _ _ _) λo=>F.args_object_init_N4 o _ _ _
end L2
namespace QD
open PySem L2
inductive KA where
 | int (i:Int) | str (s:List Nat)
 deriving DecidableEq
inductive D where
 | non | bl (b:Bool) | int (i:Int) | str (s:List Nat)
 | tup (l:List D) | lst (o:Bool) (l:List D)
 | dK (o:Bool) (ks:List KA) (l:List D)
 | dT (o:Bool) (ks:List (List KA)) (l:List D)
 | ins (o:Bool) (c:Nat) (ns:List Str) (l:List D)
 | dead
  | tok (a:Addr)
 | kt (k:List KA)
  | exc (c:Nat) (p:Int)
def xo(C a dx:Addr):Heap->Prop:=λh=>∃ o vs,h.get? a=some o/\o.cls=.ref C/\o.dict=some dx/\o.data=.fields vs
mutual
noncomputable def fz:D->D
 | .tup l=>.tup<|fzs l
 | .lst _ l=>.lst false<|fzs l
 | .dK _ ks l=>.dK false ks<|fzs l
 | .dT _ ks l=>.dT false ks<|fzs l
 | .ins _ c ns l=>.ins false c ns<|fzs l
 | .non=>.non | .bl b=>.bl b | .int i=>.int i | .str s=>.str s | .dead=>.dead | .tok a=>.tok a | .kt k=>.kt k | .exc c p=>.exc c p
noncomputable def fzs:List D->List D
 | []=>[]
 | d::l=>fz d::fzs l
end
mutual
noncomputable def frz:D->Bool
 | .tup l=>frzs l
 | .lst o l=>!o&&frzs l
 | .dK o _ l=>!o&&frzs l
 | .dT o _ l=>!o&&frzs l
 | .ins o _ _ l=>!o&&frzs l
 | .non=>true | .bl _=>true | .int _=>true | .str _=>true | .dead=>true | .tok _=>true | .kt _=>true | .exc _ _=>true
noncomputable def frzs:List D->Bool
 | []=>true
 | d::l=>frz d&&frzs l
end
mutual
theorem jkH:∀ d:D,frz d=true->fz d=d
 | .tup l,h=>by rw[frz] at h;rw[fz,yS l h]
 | .lst o l,h=>by rw[frz,M0] at h;rw[fz,yS l h.2];cases o<;>simp_all
 | .dK o ks l,h=>by rw[frz,M0] at h;rw[fz,yS l h.2];cases o<;>simp_all
 | .dT o ks l,h=>by rw[frz,M0] at h;rw[fz,yS l h.2];cases o<;>simp_all
 | .ins o c ns l,h=>by rw[frz,M0] at h;rw[fz,yS l h.2];cases o<;>simp_all
 | .non,_=>rfl | .bl _,_=>rfl | .int _,_=>rfl | .str _,_=>rfl | .dead,_=>rfl | .tok _,_=>rfl | .kt _,_=>rfl | .exc _ _,_=>rfl
theorem yS:∀ l:List D,frzs l=true->fzs l=l
 | [],_=>rfl
 | d::l,h=>by rw[frzs,M0] at h;rw[fzs,jkH d h.1,yS l h.2]
end
mutual
theorem jkh:∀ d:D,frz (fz d)=true
 | .tup l=>by rw[fz,frz];exact qC l
 | .lst o l=>by rw[fz,frz,qC l];rfl
 | .dK o ks l=>by rw[fz,frz,qC l];rfl
 | .dT o ks l=>by rw[fz,frz,qC l];rfl
 | .ins o c ns l=>by rw[fz,frz,qC l];rfl
 | .non=>rfl | .bl _=>rfl | .int _=>rfl | .str _=>rfl | .dead=>rfl | .tok _=>rfl | .kt _=>rfl | .exc _ _=>rfl
theorem qC:∀ l:List D,frzs (fzs l)=true
 | []=>rfl
 | d::l=>by rw[fzs,frzs,jkh d,qC l];rfl
end
theorem vT:∀ l:List D,fzs l=l.map fz
 | []=>rfl
 | d::l=>by rw[fzs,vT l];rfl
theorem kB:∀ l:List D,frzs l=l.all frz
 | []=>rfl
 | d::l=>by rw[frzs,kB l];rfl
structure RC where
 K:PySem.W.Frag
 cls:Nat->Addr
def kaV:KA->Key
 | .int i=>.inl i
 | .str s=>.inr<|S s
noncomputable abbrev Zn:=Addr->Prop
def FT(R:RC)(Z:Zn)(H:Hp)(a:Addr)(vs:List V):Prop:=
 (Z a/\Rd H a (.tup vs)) \/ ∃ o its n,R.K.lookup a=some o/\o.cls=.type "tuple"/\o.data=.seq its n/\its.size<=sizeLine/\Vals vs its.toList/\o.dict=none
def FL(R:RC)(Z:Zn)(H:Hp)(a:Addr)(vs:List V):Prop:=
 (Z a/\Rd H a (.lst vs)) \/ ∃ its n,R.K.lookup a=some {cls:=.type "list",data:=.seq its n}/\its.size<=sizeLine/\Vals vs its.toList
def DkA(o:Bool)(H:Hp)(a:Addr)(kvs:List<|Key×V):Prop:=bif o then H a=some (.dK kvs) else Rd H a (.dK kvs)
inductive RpC (rs:List V->List Addr->Prop) (C:Addr->List V->List Addr->Prop) (v:V):Prop
 | mk:∀(a:Addr) (vs:List V) (O':W5),v=.ref a->rs vs O'->C a vs O'->RpC rs C v
inductive RpS (rd:V->List Addr->Prop) (rs:List V->List Addr->Prop) (vs:List V) (O:W5):Prop
 | mk:∀(v:V) (vs':List V) (O1 O2:W5),vs=v::vs'->O=O1++O2->rd v O1->rs vs' O2->RpS rd rs vs O
mutual
def Rep(R:RC)(Z:Zn)(H:Hp):D->V->List Addr->Prop
 | .non,v,O=>v=.non/\O=[]
 | .bl b,v,O=>v=.bl b/\O=[]
 | .int i,v,O=>v=.int i/\O=[]
 | .str s,v,O=>v=.str (S s)/\O=[]
 | .dead,_,O=>O=[]
 | .tok a,v,O=>v=.ref a/\O=[]
 | .kt k,v,O=>∃ a,v=.ref a/\Z a/\H a=some (.tup<|(k.map kaV).map kV)/\O=[]
 | .exc c p,v,O=>∃ a dx,v=.ref a/\Z a/\Z dx/\H a=some (.ext<|xo (R.cls c) a dx)/\H dx=some (.xd [("place",.int p)])/\O=[]
 | .tup l,v,O=>∃ a vs,v=.ref a/\FT R Z H a vs/\Reps R Z H l vs O
 | .lst o l,v,O=>RpC (λvs O'=>Reps R Z H l vs O') (λa vs O'=>bif o then H a=some (.lst vs)/\O=a::O' else FL R Z H a vs/\O'=[]/\O=[]) v
 | .dK o ks l,v,O=>RpC (λvs O'=>Reps R Z H l vs O') (λa vs O'=>ks.length=l.length/\DkA o H a ((ks.map kaV).zip vs)/\bif o then O=a::O' else Z a/\O'=[]/\O=[]) v
 | .dT o ks l,v,O=>RpC (λvs O'=>Reps R Z H l vs O') (λa vs O'=>ks.length=l.length/\H a=some (.dT<|(ks.map<|List.map kaV).zip vs)/\bif o then O=a::O' else Z a/\O'=[]/\O=[]) v
 | .ins o c ns l,v,O=>∃ a dx vs O',v=.ref a/\Reps R Z H l vs O'/\ns.length=l.length/\H a=some (.ins (R.cls c) dx<|ns.zip vs)/\bif o then O=a::O' else Z a/\O'=[]/\O=[]
def Reps(R:RC)(Z:Zn)(H:Hp):List D->List V->List Addr->Prop
 | [],vs,O=>vs=[]/\O=[]
 | d::ds,vs,O=>RpS (λv O1=>Rep R Z H d v O1) (λvs' O2=>Reps R Z H ds vs' O2) vs O
end
def FT.sq(h:FT R Z H a vs):SqT R.K H a vs:=by
 rcases h with⟨_,h⟩ | ⟨o,b,n,c,d,e,f,g,_⟩
 ·exact .inl h
 ·exact .inr ⟨o,b,n,c,d,e,f,g⟩
def FL.sqx(h:FL R Z H a vs):SqX R.K H a vs:=by
 rcases h with⟨_,h⟩ | h
 ·exact .inl h
 ·exact .inr h
def FL.sq(h:FL R Z H a vs):SqL R.K H a vs:=h.sqx.sq
def Rd.agree(e:H' a=H a)(h:Rd H a u):Rd H' a u:=by
 unfold Rd at h ⊢;rw[e];exact h
def FT.frame(b:∀ a,Z a->Z' a)(c:∀ a,Z a->H' a=H a)(h:FT R Z H a vs):FT R Z' H' a vs:=by
 rcases h with⟨z,h⟩ | h
 ·exact .inl ⟨b a z,Rd.agree (c a z) h⟩
 ·exact .inr h
def FL.frame(b:∀ a,Z a->Z' a)(c:∀ a,Z a->H' a=H a)(h:FL R Z H a vs):FL R Z' H' a vs:=by
 rcases h with⟨z,h⟩ | h
 ·exact .inl ⟨b a z,Rd.agree (c a z) h⟩
 ·exact .inr h
mutual
theorem Rep.frame(hz:∀ a,Z a->Z' a)(hH:∀ a,Z a->H' a=H a):∀{d:D}{v:V}{O:W5},Rep R Z H d v O->(∀ a∈O,H' a=H a)->Rep R Z' H' d v O
 | .non,_,_,h,_=>by rw[Rep] at h ⊢;exact h
 | .bl _,_,_,h,_=>by rw[Rep] at h ⊢;exact h
 | .int _,_,_,h,_=>by rw[Rep] at h ⊢;exact h
 | .str _,_,_,h,_=>by rw[Rep] at h ⊢;exact h
 | .dead,_,_,h,_=>by rw[Rep] at h ⊢;exact h
 | .tok _,_,_,h,_=>by rw[Rep] at h ⊢;exact h
 | .kt _,_,_,h,_=>by
  rw[Rep] at h ⊢;obtain⟨a,e,z,x,o⟩:=h;exact⟨a,e,hz a z,(hH a z).trans x,o⟩
 | .exc _ _,_,_,h,_=>by
  rw[Rep] at h ⊢;obtain⟨a,dx,e,z1,z2,h1,h2,h3⟩:=h;exact⟨a,dx,e,hz a z1,hz dx z2,(hH a z1).trans h1,(hH dx z2).trans h2,h3⟩
 | .tup l,_,_,h,hO=>by
  rw[Rep] at h ⊢;obtain⟨a,vs,e,t,r⟩:=h;exact⟨a,vs,e,t.frame hz hH,Reps.frame hz hH r hO⟩
 | .lst o l,_,_,h,hO=>by
  rw[Rep] at h ⊢;obtain⟨a,vs,O',e,r,h⟩:=h;cases o with
  | true=>
   obtain⟨h1,rfl⟩:=h;exact⟨a,vs,O',e,Reps.frame hz hH r λb hb=>hO b<|L6 _ hb,by rw[cond_true,hO a L7];exact⟨h1,rfl⟩⟩
  | false=>
   obtain⟨h1,rfl,rfl⟩:=h;exact⟨a,vs,[],e,Reps.frame hz hH r (λb hb=>nomatch hb),h1.frame hz hH,rfl,rfl⟩
 | .dK o ks l,_,_,h,hO=>by
  rw[Rep] at h ⊢;obtain⟨a,vs,O',e,r,hl,hd,h⟩:=h;cases o with
  | true=>
   have h:=(show _=_ from h);subst h;exact⟨a,vs,O',e,Reps.frame hz hH r λb hb=>hO b<|L6 _ hb,hl,by show H' a=some _;rw[hO a L7];exact hd,rfl⟩
  | false=>
   obtain⟨h1,rfl,rfl⟩:=h;exact⟨a,vs,[],e,Reps.frame hz hH r (λb hb=>nomatch hb),hl,Rd.agree (hH a h1) hd,hz a h1,rfl,rfl⟩
 | .dT o ks l,_,_,h,hO=>by
  rw[Rep] at h ⊢;obtain⟨a,vs,O',e,r,hl,hd,h⟩:=h;cases o with
  | true=>
   have h:=(show _=_ from h);subst h;exact⟨a,vs,O',e,Reps.frame hz hH r λb hb=>hO b<|L6 _ hb,hl,by rw[hO a L7];exact hd,rfl⟩
  | false=>
   obtain⟨h1,rfl,rfl⟩:=h;exact⟨a,vs,[],e,Reps.frame hz hH r (λb hb=>nomatch hb),hl,by rw[hH a h1];exact hd,hz a h1,rfl,rfl⟩
 | .ins o c ns l,_,_,h,hO=>by
  rw[Rep] at h ⊢;obtain⟨a,dx,vs,O',e,r,hl,hd,h⟩:=h;cases o with
  | true=>
   have h:=(show _=_ from h);subst h;exact⟨a,dx,vs,O',e,Reps.frame hz hH r λb hb=>hO b<|L6 _ hb,hl,by rw[hO a L7];exact hd,rfl⟩
  | false=>
   obtain⟨h1,rfl,rfl⟩:=h;exact⟨a,dx,vs,[],e,Reps.frame hz hH r (λb hb=>nomatch hb),hl,by rw[hH a h1];exact hd,hz a h1,rfl,rfl⟩
theorem Reps.frame(hz:∀ a,Z a->Z' a)(hH:∀ a,Z a->H' a=H a):∀{l:List D}{vs:List V}{O:W5},Reps R Z H l vs O->(∀ a∈O,H' a=H a)->Reps R Z' H' l vs O
 | [],_,_,h,_=>by rw[Reps] at h ⊢;exact h
 | d::l,_,_,h,hO=>by
  rw[Reps] at h ⊢;obtain⟨v,vs,O1,O2,e,rfl,r1,r2⟩:=h;exact⟨v,vs,O1,O2,e,rfl,Rep.frame hz hH r1 λa ha=>hO a<|List.mem_append_left _ ha,Reps.frame hz hH r2 λa ha=>hO a<|U2 _ ha⟩
end
mutual
theorem Rep.nil:∀{d:D}{v:V}{O:W5},Rep R Z H d v O->frz d=true->O=[]
 | .non,_,_,h,_=>by rw[Rep] at h;exact h.2
 | .bl _,_,_,h,_=>by rw[Rep] at h;exact h.2
 | .int _,_,_,h,_=>by rw[Rep] at h;exact h.2
 | .str _,_,_,h,_=>by rw[Rep] at h;exact h.2
 | .dead,_,_,h,_=>by rw[Rep] at h;exact h
 | .tok _,_,_,h,_=>by rw[Rep] at h;exact h.2
 | .kt _,_,_,h,_=>by rw[Rep] at h;obtain⟨_,_,_,_,h⟩:=h;exact h
 | .exc _ _,_,_,h,_=>by rw[Rep] at h;obtain⟨_,_,_,_,_,_,_,h⟩:=h;exact h
 | .tup l,_,_,h,f=>by
  rw[Rep] at h;rw[frz] at f;obtain⟨a,vs,e,t,r⟩:=h;exact Reps.nil r f
 | .lst o l,_,_,h,f=>by
  rw[Rep] at h;rw[frz] at f;obtain⟨a,vs,O',e,r,h⟩:=h;cases o with
  | true=>exact absurd f (by simp)
  | false=>exact h.2.2
 | .dK o ks l,_,_,h,f=>by
  rw[Rep] at h;rw[frz] at f;obtain⟨a,vs,O',e,r,hl,hd,h⟩:=h;cases o with
  | true=>exact absurd f (by simp)
  | false=>exact h.2.2
 | .dT o ks l,_,_,h,f=>by
  rw[Rep] at h;rw[frz] at f;obtain⟨a,vs,O',e,r,hl,hd,h⟩:=h;cases o with
  | true=>exact absurd f (by simp)
  | false=>exact h.2.2
 | .ins o c ns l,_,_,h,f=>by
  rw[Rep] at h;rw[frz] at f;obtain⟨a,dx,vs,O',e,r,hl,hd,h⟩:=h;cases o with
  | true=>exact absurd f (by simp)
  | false=>exact h.2.2
theorem Reps.nil:∀{l:List D}{vs:List V}{O:W5},Reps R Z H l vs O->frzs l=true->O=[]
 | [],_,_,h,_=>by rw[Reps] at h;exact h.2
 | d::l,_,_,h,f=>by
  rw[Reps] at h;rw[frzs,M0] at f;obtain⟨v,vs,O1,O2,e,rfl,r1,r2⟩:=h;rw[Rep.nil r1 f.1,Reps.nil r2 f.2];rfl
end
mutual
theorem Rep.freeze:∀{d:D}{v:V}{O:W5},Rep R Z H d v O->(∀ a,Z a->Z' a)->(∀ a∈O,Z' a)->Rep R Z' H (fz d) v []
 | .non,_,_,h,_,_=>by rw[Rep] at h;rw[fz,Rep];exact⟨h.1,rfl⟩
 | .bl _,_,_,h,_,_=>by rw[Rep] at h;rw[fz,Rep];exact⟨h.1,rfl⟩
 | .int _,_,_,h,_,_=>by rw[Rep] at h;rw[fz,Rep];exact⟨h.1,rfl⟩
 | .str _,_,_,h,_,_=>by rw[Rep] at h;rw[fz,Rep];exact⟨h.1,rfl⟩
 | .dead,_,_,h,_,_=>by rw[fz,Rep]
 | .tok _,_,_,h,_,_=>by rw[Rep] at h;rw[fz,Rep];exact⟨h.1,rfl⟩
 | .kt _,_,_,h,hz,_=>by
  rw[Rep] at h;rw[fz,Rep];obtain⟨a,e,z,x,o⟩:=h;exact⟨a,e,hz a z,x,rfl⟩
 | .exc _ _,_,_,h,hz,_=>by
  rw[Rep] at h;rw[fz,Rep];obtain⟨a,dx,e,z1,z2,h1,h2,_⟩:=h;exact⟨a,dx,e,hz a z1,hz dx z2,h1,h2,rfl⟩
 | .tup l,_,_,h,hz,hO=>by
  rw[Rep] at h;rw[fz,Rep];obtain⟨a,vs,e,t,r⟩:=h;exact⟨a,vs,e,t.frame hz λ_ _=>rfl,Reps.freeze r hz hO⟩
 | .lst o l,_,_,h,hz,hO=>by
  rw[Rep] at h;rw[fz,Rep];obtain⟨a,vs,O',e,r,h⟩:=h;cases o with
  | true=>
   obtain⟨h1,rfl⟩:=h;exact⟨a,vs,[],e,Reps.freeze r hz λb hb=>hO b<|L6 _ hb,.inl ⟨hO a L7,.inl h1⟩,rfl,rfl⟩
  | false=>
   obtain⟨h1,rfl,rfl⟩:=h;exact⟨a,vs,[],e,Reps.freeze r hz (λb hb=>nomatch hb),h1.frame hz<|λ_ _=>rfl,rfl,rfl⟩
 | .dK o ks l,_,_,h,hz,hO=>by
  rw[Rep] at h;rw[fz,Rep];obtain⟨a,vs,O',e,r,hl,hd,h⟩:=h;have hl':ks.length=(fzs l).length:=by rw[vT,L1];exact hl
  cases o with
  | true=>
   have h:=(show _=_ from h);subst h;exact⟨a,vs,[],e,Reps.freeze r hz λb hb=>hO b<|L6 _ hb,hl',.inl hd,hO a L7,rfl,rfl⟩
  | false=>
   obtain⟨h1,rfl,rfl⟩:=h;exact⟨a,vs,[],e,Reps.freeze r hz (λb hb=>nomatch hb),hl',hd,hz a h1,rfl,rfl⟩
 | .dT o ks l,_,_,h,hz,hO=>by
  rw[Rep] at h;rw[fz,Rep];obtain⟨a,vs,O',e,r,hl,hd,h⟩:=h;have hl':ks.length=(fzs l).length:=by rw[vT,L1];exact hl
  cases o with
  | true=>
   have h:=(show _=_ from h);subst h;exact⟨a,vs,[],e,Reps.freeze r hz λb hb=>hO b<|L6 _ hb,hl',hd,hO a L7,rfl,rfl⟩
  | false=>
   obtain⟨h1,rfl,rfl⟩:=h;exact⟨a,vs,[],e,Reps.freeze r hz (λb hb=>nomatch hb),hl',hd,hz a h1,rfl,rfl⟩
 | .ins o c ns l,_,_,h,hz,hO=>by
  rw[Rep] at h;rw[fz,Rep];obtain⟨a,dx,vs,O',e,r,hl,hd,h⟩:=h;have hl':ns.length=(fzs l).length:=by rw[vT,L1];exact hl
  cases o with
  | true=>
   have h:=(show _=_ from h);subst h;exact⟨a,dx,vs,[],e,Reps.freeze r hz λb hb=>hO b<|L6 _ hb,hl',hd,hO a L7,rfl,rfl⟩
  | false=>
   obtain⟨h1,rfl,rfl⟩:=h;exact⟨a,dx,vs,[],e,Reps.freeze r hz (λb hb=>nomatch hb),hl',hd,hz a h1,rfl,rfl⟩
theorem Reps.freeze:∀{l:List D}{vs:List V}{O:W5},Reps R Z H l vs O->(∀ a,Z a->Z' a)->(∀ a∈O,Z' a)->Reps R Z' H (fzs l) vs []
 | [],_,_,h,_,_=>by rw[Reps] at h;rw[fzs,Reps];exact⟨h.1,rfl⟩
 | d::l,_,_,h,hz,hO=>by
  rw[Reps] at h;rw[fzs,Reps];obtain⟨v,vs,O1,O2,e,rfl,r1,r2⟩:=h;exact⟨v,vs,[],[],e,rfl,Rep.freeze r1 hz λa ha=>hO a<|List.mem_append_left _ ha,Reps.freeze r2 hz λa ha=>hO a<|U2 _ ha⟩
end
theorem Reps.length:∀{l}{vs}{O},Reps R Z H l vs O->vs.length=l.length
 | [],_,_,h=>by rw[Reps] at h;rw[h.1];rfl
 | d::l,_,_,h=>by
  obtain⟨v,vs,a,b,rfl,rfl,r1,r2⟩:=h;rw[M1,M1,Reps.length r2]
theorem Reps.append:∀{l m}{vs ws}{O P},Reps R Z H l vs O->Reps R Z H m ws P->Reps R Z H (l++m) (vs++ws) (O++P)
 | [],m,_,_,_,_,h,k=>by rw[Reps] at h;obtain⟨rfl,rfl⟩:=h;exact k
 | d::l,m,_,_,_,_,h,k=>by
  obtain⟨v,vs,a,b,rfl,rfl,r1,r2⟩:=h;exact⟨v,_,a,_,rfl,List.append_assoc ..,r1,Reps.append r2 k⟩
def Reps.one(h:Rep R Z H d v O):Reps R Z H [d] [v] O:=by
 exact⟨v,[],O,[],rfl,(M9 O).symm,h,by rw[Reps];exact⟨rfl,rfl⟩⟩
def Reps.cons(h:Rep R Z H d v O)(k:Reps R Z H l vs P):Reps R Z H (d::l) (v::vs) (O++P):=by
 exact⟨v,vs,O,P,rfl,rfl,h,k⟩
def Reps.empty:Reps R Z H [] [] []:=by rw[Reps];exact⟨rfl,rfl⟩
theorem Reps.at:∀{l}{vs}{O}{i}{d},Reps R Z H l vs O->l[i]?=some d ->
  Ex4 λv A P B=>An4 (vs[i]?=some v) (O=A++P++B) (Rep R Z H d v P)<|∀{Z'}{H'}{d'}{v'}{P'},Rep R Z' H' d' v' P'->(∀ a,Z a->Z' a)->(∀ a,Z a->H' a=H a)->(∀ a∈A,H' a=H a)->(∀ a∈B,H' a=H a)->Reps R Z' H' (l.set i d') (vs.set i v') (A++P'++B)
 | [],_,_,_,_,_,e=>by simp at e
 | c::l,_,_,0,d,h,e=>by
  obtain⟨v,vs,b,j,rfl,rfl,r1,r2⟩:=h;have e:c=d:=by simpa using e
  subst e;exact⟨v,[],b,j,rfl,rfl,r1,λr f g m n=>⟨_,vs,_,j,rfl,rfl,r,Reps.frame f g r2 n⟩⟩
 | c::l,_,_,i+1,d,h,e=>by
  obtain⟨v,vs,b,j,rfl,rfl,r1,r2⟩:=h;obtain⟨w,A,P,B,p,rfl,q,k⟩:=Reps.at r2 ⇑e;exact⟨w,b++A,P,B,by simpa using p,by simp,q,λ{Z' H' d' v' P'} r f g m n=>⟨v,_,b,A++P'++B,rfl,by simp,Rep.frame f g r1 λa o=>m a<|List.mem_append_left _ o,k r f g (λa o=>m a<|U2 _ o) n⟩⟩
def Reps.item{l}{vs}{i:Nat}(h:Reps R Z H l vs [])(e:l[i]?=some d):∃ v,vs[i]?=some v/\Rep R Z H d v []:=by
 obtain⟨v,A,P,B,a,e2,r,_⟩:=h.at e;have:P=[]:=by
  have:=congrArg List.length e2;simp at this;exact List.eq_nil_of_length_eq_zero ∅
 subst this;exact⟨v,a,r⟩
theorem Reps.take:∀{l}{vs} n,Reps R Z H l vs []->Reps R Z H (l.take n) (vs.take n) []
 | _,_,0,_=>by simp;exact .empty
 | [],_,n+1,h=>by rw[Reps] at h;rw[h.1];exact .empty
 | d::l,_,n+1,h=>by
  obtain⟨v,vs,a,b,rfl,e,r1,r2⟩:=h;obtain⟨rfl,rfl⟩:=List.append_eq_nil_iff.mp e.symm;exact .cons r1<|Reps.take n r2
theorem Reps.drop:∀{l}{vs} n,Reps R Z H l vs []->Reps R Z H (l.drop n) (vs.drop n) []
 | _,_,0,h=>h
 | [],_,n+1,h=>by rw[Reps] at h;rw[h.1];exact .empty
 | d::l,_,n+1,h=>by
  obtain⟨v,vs,a,b,rfl,e,r1,r2⟩:=h;obtain⟨rfl,rfl⟩:=List.append_eq_nil_iff.mp e.symm;exact Reps.drop n r2
structure WF(Z:Zn)(H:Hp)(O:W5):Prop where
 nd:O.Nodup
 nz:∀ a∈O,¬ Z a
 od:∀ a∈O,H a≠none
 zd:∀ a,Z a->H a≠none
structure Go(Z:Zn)(H:Hp)(O:W5)(Z':Zn)(H':Hp)(O':W5):Prop where
 wf:WF Z' H' O'
 zz:∀ a,Z a->Z' a
 fr:∀ a,H a≠none->a∉O->H' a=H a
 zn:∀ a,Z' a->Z a\/a∈O\/H a=none
 sub:∀ a∈O',a∈O\/H a=none
 dm:∀ a,H a≠none->H' a≠none
def Go.refl(w:WF Z H O):Go Z H O Z H O:=⟨w,λ_ z=>z,λ_ _ _=>rfl,λ_ z=>.inl z,λ_ h=>.inl h,λ_ h=>h⟩
def Go.trans(g:Go Z H O Z' H' O')(k:Go Z' H' O' Z'' H'' O''):Go Z H O Z'' H'' O'':=by
 refine⟨k.wf,λa z=>k.zz a<|g.zz a z,λa h n=>?_,λa z=>?_,λa h=>?_,λa h=>k.dm a<|g.dm a h⟩
 ·rw[k.fr a (g.dm a h) λb=>(g.sub a b).elim n h,g.fr a h n]
 ·rcases k.zn a z with z | z | z
  ·exact g.zn a z
  ·rcases g.sub a z with q | q
   ·lia
   ·lia
  ·by_cases h:H a=none
   ·lia
   ·exact absurd z<|g.dm a h
 ·rcases k.sub a h with q | q
  ·exact g.sub a q
  ·by_cases h:H a=none
   ·lia
   ·exact absurd q<|g.dm a h
def Go.zH(w:WF Z H O)(g:Go Z H O Z' H' O'):∀ a,Z a->H' a=H a:=λa z=>g.fr a (w.zd a z) λh=>w.nz a h z
def WF.sub(w:WF Z H O)(h:∀ a∈O',a∈O)(n:O'.Nodup):WF Z H O':=⟨n,λa z=>w.nz a<|h a z,λa z=>w.od a<|h a z,w.zd⟩
def WF.mid(w:WF Z H<|A++O++B):WF Z H O:=w.sub (λa h=>by simp[h]) (by have:=w.nd;simp[U8] at this;exact this.2.1.1)
def WF.left(w:WF Z H<|A++B):WF Z H A:=w.sub (λa h=>by simp[h]) (U8.mp w.nd).1
def WF.right(w:WF Z H<|A++B):WF Z H B:=w.sub (λa h=>by simp[h]) (U8.mp w.nd).2.1
def Go.frame(w:WF Z H<|A++O++B)(g:Go Z H O Z' H' O'):Go Z H (A++O++B) Z' H' (A++O'++B):=by
 have nd:=w.nd;simp only[U8,N1] at nd;have new:∀ a∈O',a∉A/\a∉B:=λa h=>by
  rcases g.sub a h with q | q
  ·exact⟨λz=>nd.1.2.2 a z a q rfl,λz=>nd.2.2 a (.inr q) a z rfl⟩
  ·exact⟨λz=>w.od a (by simp[z]) q,λz=>w.od a (by simp[z]) q⟩
 have keep:∀ a,a∈A\/a∈B->a∉O:=λa h z=>by
  rcases h with h | h
  ·exact nd.1.2.2 a h a z rfl
  ·exact nd.2.2 a (.inr z) a h rfl
 refine⟨⟨?_,λa h z=>?_,λa h=>?_,g.wf.zd⟩,g.zz,λa h n=>?_,λa z=>?_,λa h=>?_,g.dm⟩
 ·simp only[U8,N1];exact⟨⟨nd.1.1,g.wf.nd,λa h b k e=>(new b k).1 (e▸h)⟩,nd.2.1,λa h b k e=>by
   rcases h with h | h
   ·exact nd.2.2 a (.inl h) b k e
   ·exact(new a h).2 (e▸k)⟩
 ·simp only[N1] at h;rcases h with(h | h) | h
  ·rcases g.zn a z with q | q | q
   ·exact w.nz a (by simp[h]) q
   ·exact keep a (.inl h) q
   ·exact w.od a (by simp[h]) q
  ·exact g.wf.nz a h z
  ·rcases g.zn a z with q | q | q
   ·exact w.nz a (by simp[h]) q
   ·exact keep a (.inr h) q
   ·exact w.od a (by simp[h]) q
 ·simp only[N1] at h;rcases h with(h | h) | h
  ·exact g.dm a<|w.od a (by simp[h])
  ·exact g.wf.od a h
  ·exact g.dm a<|w.od a (by simp[h])
 ·simp only[N1,not_or] at n;exact g.fr a h n.1.2
 ·rcases g.zn a z with q | q | q
  ·lia
  ·exact .inr<|.inl (by simp[q])
  ·lia
 ·simp only[N1] at h ⊢;rcases h with(h | h) | h
  ·lia
  ·rcases g.sub a h with q | q
   ·lia
   ·lia
  ·lia
def Go.keepA(w:WF Z H<|A++O++B)(g:Go Z H O Z' H' O'):(∀ a∈A,H' a=H a)/\∀ a∈B,H' a=H a:=by
 have nd:=w.nd;simp only[U8,N1] at nd;exact⟨λa h=>g.fr a (w.od a<|by simp[h]) λz=>nd.1.2.2 a h a z rfl,λa h=>g.fr a (w.od a<|by simp[h]) λz=>nd.2.2 a (.inr z) a h rfl⟩
def Go.drop(g:Go Z H O Z' H' O')(h:∀ a∈O'',a∈O')(n:O''.Nodup):Go Z H O Z' H' O'':=⟨g.wf.sub h n,g.zz,g.fr,g.zn,λa q=>g.sub a<|h a q,g.dm⟩
def Go.dropL(g:Go Z H O Z' H'<|A++B):Go Z H O Z' H' B:=g.drop (λa h=>by simp[h]) (U8.mp g.wf.nd).2.1
def Go.dropR(g:Go Z H O Z' H'<|A++B):Go Z H O Z' H' A:=g.drop (λa h=>by simp[h]) (U8.mp g.wf.nd).1
def Go.freeze(w:WF Z H O):Go Z H O (λa=>Z a\/a∈O) H []:=
 ⟨⟨List.nodup_nil,λa h=>(nomatch h),λa h=>(nomatch h),λa h=>h.elim (w.zd a)<|w.od a⟩,λa z=>.inl z,λ_ _ _=>rfl,λa z=>z.elim .inl λq=>.inr<|.inl q,λa h=>(nomatch h),λ_ h=>h⟩
def Go.newF(w:WF Z H O)(b:H p=none):Go Z H O (λa=>Z a\/a=p) (upd H p o) O:=by
 have ne:∀ a,H a≠none->a≠p:=λa h e=>h<|e▸b;refine⟨⟨w.nd,λa h z=>z.elim (w.nz a h)<|ne a<|w.od a h,λa h=>?_,λa z=>?_⟩,λa z=>.inl z,λa h _=>je<|ne a h,λa z=>z.elim .inl λe=>.inr<|.inr<|e▸b,λa h=>.inl h,λa h=>?_⟩
 ·rw[je<|ne a<|w.od a h];exact w.od a h
 ·by_cases e:a=p
  ·rw[e,jk];exact λh=>nomatch h
  ·rw[je e];exact w.zd a<|z.resolve_right e
 ·rw[je<|ne a h];exact h
def Go.newO(w:WF Z H O)(b:H p=none):Go Z H O Z (upd H p o) (p::O):=by
 have ne:∀ a,H a≠none->a≠p:=λa h e=>h<|e▸b;refine⟨⟨List.nodup_cons.mpr ⟨λh=>w.od p h b,w.nd⟩,λa h z=>?_,λa h=>?_,λa z=>?_⟩,λa z=>z,λa h _=>je<|ne a h,λa z=>.inl z,λa h=>?_,λa h=>?_⟩
 ·rcases M4.mp h with e | e
  ·exact w.zd a z<|e▸b
  ·exact w.nz a e z
 ·rcases M4.mp h with e | e
  ·rw[e,jk];exact λh=>nomatch h
  ·rw[je<|ne a<|w.od a e];exact w.od a e
 ·rw[je<|ne a<|w.zd a z];exact w.zd a z
 ·grind
 ·rw[je<|ne a h];exact h
def Go.put(w:WF Z H O)(c:p∈O):Go Z H O Z (upd H p o) O:=by
 have b:∀ a,upd H p o a=none->a≠p/\H a=none:=λa h=>by
  by_cases e:a=p
  ·rw[e,jk] at h;cases h
  ·rw[je e] at h;exact⟨e,h⟩
 exact⟨⟨w.nd,w.nz,λa h z=>w.od a h (b a z).2,λa z e=>w.zd a z (b a e).2⟩,λa z=>z,λa h n=>je λe=>n<|e▸c,λa z=>.inl z,λa h=>.inl h,λa h z=>h (b a z).2⟩
noncomputable def jf4:D->Option Bool
 | .bl b=>some b
 | _=>none
@[simp] def jck(b):jf4 (.bl b)=some b:=rfl
def KF(h:jf4 d=some b):d=.bl b:=by cases d<;>cases h<;>rfl
noncomputable def vg:D->Option Int
 | .int i=>some i
 | _=>none
@[simp] def jb7(i):vg (.int i)=some i:=rfl
def jE(h:vg d=some n):d=.int n:=by cases d<;>cases h<;>rfl
noncomputable def Q2:D->Option (List D)
 | .lst true l=>some l
 | _=>none
@[simp] def Yz(l):Q2 (.lst true l)=some l:=rfl
def Jm(h:Q2 d=some l):d=.lst true l:=by
 cases d with
 | lst o _=>cases o<;>cases h;rfl
 | _=>cases h
noncomputable def jex:D->Option (List D)
 | .tup l=>some l
 | _=>none
@[simp] def tupOf_tup(l):jex (.tup l)=some l:=rfl
noncomputable def jf6:D->Option (List KA×List D)
 | .dK true ks l=>some (ks,l)
 | _=>none
@[simp] def dkOf_dK(ks)(l):jf6 (.dK true ks l)=some (ks,l):=rfl
def xu(h:jf6 d=some p):d=.dK true p.1 p.2:=by
 cases d with
 | dK o _ _=>cases o<;>cases h;rfl
 | _=>cases h
noncomputable def jgB:D->Option (List KA×List D)
 | .dK _ ks l=>some (ks,l)
 | _=>none
@[simp] def dkAny_e(o)(ks)(l):jgB (.dK o ks l)=some (ks,l):=rfl
def je1(h:jgB d=some p):∃ o,d=.dK o p.1 p.2:=by
 cases d with
 | dK o _ _=>cases h;exact⟨o,rfl⟩
 | _=>cases h
noncomputable def jfV:D->Option (List (List KA)×List D)
 | .dT true ks l=>some (ks,l)
 | _=>none
@[simp] def dtOf_dT(ks)(l):jfV (.dT true ks l)=some (ks,l):=rfl
def Kf(h:jfV d=some p):d=.dT true p.1 p.2:=by
 cases d with
 | dT o _ _=>cases o<;>cases h;rfl
 | _=>cases h
noncomputable def zf:D->Option (Nat×List Str×List D)
 | .ins true c ns l=>some (c,ns,l)
 | _=>none
@[simp] def insOf_ins(c)(ns)(l):zf (.ins true c ns l)=some (c,ns,l):=rfl
def Jv(h:zf d=some (c,ns,l)):d=.ins true c ns l:=by
 cases d with
 | ins o _ _ _=>cases o<;>cases h;rfl
 | _=>cases h
noncomputable def joy:D->Option (Nat×List Str×List D)
 | .ins _ c ns l=>some (c,ns,l)
 | _=>none
@[simp] def inOf_ins(o)(c)(ns)(l):joy (.ins o c ns l)=some (c,ns,l):=rfl
def jiG(h:joy d=some (c,ns,l)):∃ o,d=.ins o c ns l:=by
 cases d with
 | ins o _ _ _=>cases h;exact⟨o,rfl⟩
 | _=>cases h
noncomputable def jgt:D->Option (List D)
 | .lst _ l=>some l
 | _=>none
@[simp] def lsOf_lst(o)(l):jgt (.lst o l)=some l:=rfl
def JO(h:jgt d=some l):∃ o,d=.lst o l:=by
 cases d with
 | lst o _=>cases h;exact⟨o,rfl⟩
 | _=>cases h
def wW(h:jex d=some l):d=.tup l:=by cases d<;>cases h<;>rfl
noncomputable def jed:List D->Option D
 | [x]=>some x
 | _=>none
def qd(h:jed l=some x):l=[x]:=by
 match l with
 | [_]=>cases h;rfl
noncomputable def two1:List D->Option (D×D)
 | [x,y]=>some (x,y)
 | _=>none
def two1_of(h:two1 l=some p):l=[p.1,p.2]:=by
 match l with
 | [_,_]=>cases h;rfl
def ob{α β:Type}{C:Prop}{o}{f:α->Option β}{b}(e:o.bind f=some b)(k:∀ a,o=some a->f a=some b->C):C:=by
 cases o with
 | none=>cases e
 | some a=>exact k a rfl e
def oc{β:Type}{C:Prop}{c}{x}{b:β}(e:(bif c then x else none)=some b)(k:c=true->x=some b->C):C:=by
 cases c with
 | false=>cases e
 | true=>exact k rfl e
noncomputable abbrev Rh:=List<|Option D
def Slots(R:RC)(Z:Zn)(H:Hp):Rh->St->List Addr->Prop
 | [],σ,O=>σ=[]/\O=[]
 | none::ρ,σ,O=>∃ s σ',σ=s::σ'/\Slots R Z H ρ σ' O
 | some d::ρ,σ,O=>∃ v σ' O1 O2,σ=some v::σ'/\O=O1++O2/\Rep R Z H d v O1/\Slots R Z H ρ σ' O2
theorem Slots.frame(c:∀ a,Z a->Z' a)(f:∀ a,Z a->H' a=H a):∀{ρ}{σ}{O},Slots R Z H ρ σ O->(∀ a∈O,H' a=H a)->Slots R Z' H' ρ σ O
 | [],_,_,h,_=>h
 | none::ρ,_,_,h,b=>by
  obtain⟨s,g,e,r⟩:=h;exact⟨s,g,e,Slots.frame c f r b⟩
 | some d::ρ,_,_,h,b=>by
  obtain⟨v,g,j,k,e,rfl,r1,r2⟩:=h;exact⟨v,g,j,k,e,rfl,r1.frame c f λa i=>b a<|List.mem_append_left _ i,Slots.frame c f r2 λa i=>b a<|U2 _ i⟩
inductive SPut (R:RC) (Z:Zn) (H:Hp) (ρ:Rh) (σ:St) (O:W5) (i:Nat):Prop
 | mk:∀(A P B:W5),O=A++P++B->(∀ d,ρ[i]?=some (some d)->∃ v,σ[i]?=some (some v)/\Rep R Z H d v P) ->
  (∀{Z':Zn}{H':Hp}{d':D}{v':V}{P':W5},Rep R Z' H' d' v' P'->(∀ a,Z a->Z' a)->(∀ a,Z a->H' a=H a)->(∀ a∈A,H' a=H a)->(∀ a∈B,H' a=H a)->Slots R Z' H' (ρ.set i<|some d') (σ.set i<|some v') (A++P'++B)) ->
  Slots R Z H (ρ.set i none) σ (A++B)->SPut R Z H ρ σ O i
theorem Slots.put:∀{ρ}{σ}{O}{i},Slots R Z H ρ σ O->i<ρ.length->SPut R Z H ρ σ O i
 | [],_,_,_,_,hi=>absurd hi<|Nat.not_lt_zero _
 | none::ρ,_,_,0,h,hi=>by
  obtain⟨s,b,rfl,r⟩:=h;refine⟨[],[],_,rfl,λd e=>by simp at e,λq f g k j=>⟨_,b,_,_,rfl,rfl,q,Slots.frame f g r j⟩,⟨s,b,rfl,r⟩⟩
 | some c::ρ,_,_,0,h,hi=>by
  obtain⟨v,b,l,t,rfl,rfl,r1,r2⟩:=h;refine⟨[],l,t,rfl,λd e=>?_,λq f g k j=>⟨_,b,_,_,rfl,rfl,q,Slots.frame f g r2 j⟩,⟨_,b,rfl,r2⟩⟩
  ·have e:c=d:=by simpa using e
   subst e;exact⟨v,rfl,r1⟩
 | none::ρ,_,_,i+1,h,hi=>by
  obtain⟨s,b,rfl,r⟩:=h;obtain⟨A,P,B,rfl,m,n,o⟩:=Slots.put r ⇑hi;refine⟨A,P,B,rfl,λd e=>m d ⇑e,λq f g k j=>⟨s,_,rfl,n q f g k j⟩,⟨s,b,rfl,o⟩⟩
 | some c::ρ,_,_,i+1,h,hi=>by
  obtain⟨v,b,l,t,rfl,rfl,r1,r2⟩:=h;obtain⟨A,P,B,rfl,m,n,o⟩:=Slots.put r2 ⇑hi;refine⟨l++A,P,B,by simp,λd e=>m d ⇑e,λ{w x y z u} q f g k j=>⟨v,_,l,A++u++B,rfl,by simp,r1.frame f g λa p=>k a<|List.mem_append_left _ p,n q f g (λa p=>k a<|U2 _ p) j⟩,⟨v,b,l,A++B,rfl,by simp,r1,o⟩⟩
theorem kh:∀{l:List α}{i}{x},l[i]?=some x->l.set i x=l
 | [],_,_,h=>by simp at h
 | y::l,0,x,h=>by simp at h;subst h;rfl
 | y::l,i+1,x,h=>by rw[List.set_cons_succ,kh ⇑h]
abbrev FE:=Rh->Option (D×Rh)
abbrev FT':=Rh->Option (Bool×Rh)
abbrev FA:=Rh->Option (List D×Rh)
def DE(R:RC)(te:TE)(f:FE):Prop:=∀{σ}{ρ ρ'}{Z}{H}{O}{d},WF Z H O->Slots R Z H ρ σ O->f ρ=some (d,ρ') ->
 ∀{Q},(∀{v}{Z'}{H'}{P O'},Go Z H O Z' H' (P++O')->Rep R Z' H' d v P->Slots R Z' H' ρ' σ O'->Q v H')->te σ H Q
def DT(R:RC)(tt:TT)(f:FT'):Prop:=∀{σ}{ρ ρ'}{Z}{H}{O}{b},WF Z H O->Slots R Z H ρ σ O->f ρ=some (b,ρ') ->
 ∀{Q:Bool->Hp->Prop},(∀{Z'}{H'}{O'},Go Z H O Z' H' O'->Slots R Z' H' ρ' σ O'->Q b H')->tt σ H Q
def DA(R:RC)(ta:TA)(f:FA):Prop:=∀{σ}{ρ ρ'}{Z}{H}{O}{ds},WF Z H O->Slots R Z H ρ σ O->f ρ=some (ds,ρ') ->
 ∀{Q:List V->Hp->Prop},(∀{vs}{Z'}{H'}{P O'},Go Z H O Z' H' (P++O')->Reps R Z' H' ds vs P->Slots R Z' H' ρ' σ O'->Q vs H')->ta σ H Q
def DO(R:RC)(r:R2)(g:D->D->Option D):Prop:=∀{Z}{H}{x y d}{v u}{O1 O2},WF Z H (O1++O2)->Rep R Z H x v O1->Rep R Z H y u O2->g x y=some d ->
 ∀{Q},(∀{w}{Z'}{H'}{P},Go Z H (O1++O2) Z' H' P->Rep R Z' H' d w P->Q w H')->r v u H Q
def DC(R:RC)(r:List V->Hp->VK->Prop)(g:List D->Option D):Prop:=∀{Z}{H}{xs}{d}{vs}{O},WF Z H O->Reps R Z H xs vs O->g xs=some d ->
 ∀{Q},(∀{w}{Z'}{H'}{P},Go Z H O Z' H' P->Rep R Z' H' d w P->Q w H')->r vs H Q
inductive Out where
 | nx (ρ:Rh) | rt (d:D) (ρ:Rh) | bk (ρ:Rh) | ct (ρ:Rh)
abbrev FS:=Rh->Option Out
noncomputable def Out.thn:Out->FS->Option Out
 | .nx ρ,g=>g ρ
 | .rt d ρ,_=>some<|.rt d ρ
 | .bk ρ,_=>some<|.bk ρ
 | .ct ρ,_=>some<|.ct ρ
@[simp] def thn_nx(ρ)(g):(Out.nx ρ).thn g=g ρ:=rfl
@[simp] def thn_rt(d)(ρ)(g):(Out.rt d ρ).thn g=some (.rt d ρ):=rfl
@[simp] def thn_bk(ρ)(g):(Out.bk ρ).thn g=some (.bk ρ):=rfl
@[simp] def thn_ct(ρ)(g):(Out.ct ρ).thn g=some (.ct ρ):=rfl
noncomputable def Out.val:Out->Option D
 | .rt d _=>some d
 | .nx _=>some .non
 | _=>none
@[simp] def val_rt(d)(ρ):(Out.rt d ρ).val=some d:=rfl
@[simp] def val_nx(ρ):(Out.nx ρ).val=some .non:=rfl
noncomputable def Out.loop:Out->FS->Option Out
 | .nx ρ,g=>g ρ
 | .ct ρ,g=>g ρ
 | .bk ρ,_=>some<|.nx ρ
 | .rt d ρ,_=>some<|.rt d ρ
@[simp] def Yr(ρ)(g):(Out.nx ρ).loop g=g ρ:=rfl
@[simp] def loop_ct(ρ)(g):(Out.ct ρ).loop g=g ρ:=rfl
@[simp] def loop_bk(ρ)(g):(Out.bk ρ).loop g=some (.nx ρ):=rfl
@[simp] def loop_rt(d)(ρ)(g):(Out.rt d ρ).loop g=some (.rt d ρ):=rfl
abbrev PF:=Rh->Option D
noncomputable def pV(i:Nat):PF:=λρ=>match ρ[i]? with
 | some (some d)=>some d
 | _=>none
def qV(h:pV i ρ=some d):ρ[i]?=some (some d):=by
 unfold pV at h;split at h
 ·lia
 ·cases h
def Keep(pm:List Nat)(σ σ':St):Prop:=∀ i∈pm,σ'[i]?=σ[i]?
def OutOk(R:RC)(pm:List Nat)(Z:Zn)(H:Hp)(O:W5)(σ:St)(D':Ends):Out->Prop
 | .nx ρ'=>∀{σ'}{Z'}{H'}{O'},Go Z H O Z' H' O'->Slots R Z' H' ρ' σ' O'->Keep pm σ σ'->D'.nx σ' H'
 | .bk ρ'=>∀{σ'}{Z'}{H'}{O'},Go Z H O Z' H' O'->Slots R Z' H' ρ' σ' O'->Keep pm σ σ'->D'.bk σ' H'
 | .ct ρ'=>∀{σ'}{Z'}{H'}{O'},Go Z H O Z' H' O'->Slots R Z' H' ρ' σ' O'->Keep pm σ σ'->D'.ct σ' H'
 | .rt d ρ'=>∀{v}{σ'}{Z'}{H'}{P O'},Go Z H O Z' H' (P++O')->Rep R Z' H' d v P->Slots R Z' H' ρ' σ' O'->Keep pm σ σ'->D'.rt v H'
def DS(R:RC)(pm:List Nat)(ts:TS)(f:FS):Prop:=∀{σ}{ρ}{Z}{H}{O}{o},WF Z H O->Slots R Z H ρ σ O->f ρ=some o->∀{D'},OutOk R pm Z H O σ D' o->ts D' σ H
def DG(R:RC)(pm:List Nat)(tg:TG)(f:D->Rh->Option Rh):Prop:=∀{σ}{ρ ρ'}{Z}{H}{O P}{d}{v},WF Z H (P++O)->Rep R Z H d v P->Slots R Z H ρ σ O->f d ρ=some ρ' ->
 ∀{Q:St->Hp->Prop},(∀{σ'}{Z'}{H'}{O'},Go Z H (P++O) Z' H' O'->Slots R Z' H' ρ' σ' O'->Keep pm σ σ'->Q σ' H')->tg v σ H Q
def Keep.refl(pm)(σ):Keep pm σ σ:=λ_ _=>rfl
def Keep.trans(h:Keep pm σ σ')(k:Keep pm σ' σ''):Keep pm σ σ'':=λi hi=>(k i hi).trans (h i hi)
def Keep.set(h:i∉pm):Keep pm σ (σ.set i x):=λj a=>by
 have ne:i≠j:=λe=>h ∅;rw[List.getElem?_set,if_neg ne]
@[simp] def dMv(i:Nat)(ρ:Rh):Option (D×Rh):=(pV i ρ).bind λd=>some (d,ρ.set i none)
def jmz:DE R (jU i) (dMv i):=by
 intro σ ρ o Z H O d w h e Q k;refine ob e λc f e=>?_;have f:=qV f;obtain⟨A,P,B,rfl,l,p,m⟩:=h.put (L9.mp f).1;obtain⟨v,n,r⟩:=l c f;cases e;refine⟨v,n,k ((Go.refl w).drop (λa q=>?_) ?_) r m⟩
 ·simp at q ⊢;rcases q with q | q | q<;>simp[q]
 ·have nd:=w.nd;simp only[U8,N1] at nd ⊢;exact⟨nd.1.2.1,⟨nd.1.1,nd.2.1,λa g b j=>nd.2.2 a (.inl g) b j⟩,λa g b j e=>j.elim (λq=>nd.1.2.2 b q a g e.symm) λq=>nd.2.2 a (.inr g) b q e⟩
def jbH(g1:Go Z H O Z' H'<|P1++O1)(g2:Go Z' H' O1 Z'' H''<|P2++O2):Go Z H O Z'' H'' (P1++(P2++O2))/\(∀ a,Z' a->Z'' a)/\(∀ a,Z' a->H'' a=H' a)/\∀ a∈P1,H'' a=H' a:=by
 have w:WF Z' H' (P1++O1++[]):=by simpa using g1.wf
 refine⟨g1.trans<|by simpa using(g2.frame w),g2.zz,(g2.zH g1.wf.right),(Go.keepA w g2).1⟩
@[simp] def dOp(g:D->D->Option D)(fa:FE)(fb:FE)(ρ:Rh):Option (D×Rh):=(fa ρ).bind λr=>(fb r.2).bind λt=>(g r.1 t.1).bind λz=>some (z,t.2)
def jnq(m:DO R r g)(n:DE R ta fa)(o:DE R tb fb):DE R (tOp r ta tb) (dOp g fa fb):=by
 intro σ ρ B Z H O d w h e Q k;refine ob e λp q e=>?_;obtain⟨x,C⟩:=p;refine ob e λp e2 e=>?_;obtain⟨y,D⟩:=p;refine ob e λz e3 e=>?_;cases e;refine n w h q λ{v E F b G} g1 r1 s1=>(o g1.wf.right s1 e2 λ{u c f i j} g2 r2 s2=>?_);obtain⟨g3,zz,s,t⟩:=jbH g1 g2;have a:Go Z H O c f (b++i++j):=by simpa using g3
 refine m a.wf.left (r1.frame zz s t) r2 e3 λ{I Z3 J K} g4 A=>?_;have l:WF c f ([]++(b++i)++j):=by simpa using a.wf
 refine k (a.trans<|by simpa using(g4.frame l)) A<|s2.frame g4.zz (g4.zH a.wf.left) (Go.keepA l g4).2
@[simp] def jc2(ρ:Rh):Option (List D×Rh):=some ([],ρ)
@[simp] def yM(fa:FE)(fr:FA)(ρ:Rh):Option (List D×Rh):=(fa ρ).bind λx=>(fr x.2).bind λy=>some (x.1::y.1,y.2)
def jkS:DA R J2 jc2:=by
 intro σ ρ a Z H O d w h e Q k;cases e;exact k (Go.refl w) Reps.empty h
def jiy(a:DE R ta fa)(b:DA R tr fr):DA R (jD ta tr) (yM fa fr):=by
 intro σ ρ i Z H O d w h e Q k;refine ob e λp c e=>?_;obtain⟨x,j⟩:=p;refine ob e λp e2 e=>?_;obtain⟨l,m⟩:=p;cases e;refine a w h c λ{v n o q r} g1 r1 s1=>(b g1.wf.right s1 e2 λ{s t u y z} g2 r2 s2=>?_);obtain⟨g3,zz,f,g⟩:=jbH g1 g2;exact k ⇑g3 (.cons (r1.frame zz f g) r2) s2
noncomputable def dCB(g:List D->Option D)(fa:FA):FE:=λρ=>(fa ρ).bind λp5=>(g p5.1).bind λz=>some (z,p5.2)
def jlw(b:DC R r g)(c:DA R ta fa):DE R (tCB r ta) (dCB g fa):=by
 intro σ ρ o Z H O d w h e Q k;refine ob e λp f e=>?_;obtain⟨x,q⟩:=p;refine ob e λz e3 e=>?_;cases e;refine c w h f λ{v i j l m} g1 r1 s1=>(b g1.wf.left r1 e3 λ{s Z3 t u} g4 n=>?_);have a:WF i j ([]++l++m):=by simpa using g1.wf
 refine k (g1.trans<|by simpa using(g4.frame a)) n<|s1.frame g4.zz (g4.zH g1.wf.left) (Go.keepA a g4).2
def jdP(fa:FA):FE:=dCB (λxs=>bif decide (xs.length<=1000) then some (.tup xs) else none) fa
def jmn(h:n<=1000):n<=sizeLine:=Nat.le_of_lt<|jbO h
def Rep.tupNew(w:WF Z H O)(b:H p=none)(r:Reps R Z H l vs O):Rep R (λa=>Z a\/a=p) (upd H p<|.tup vs) (.tup l) (.ref p) O:=by
 have ne:∀ a,H a≠none->a≠p:=λa h e=>h<|e▸b;exact⟨p,vs,rfl,.inl ⟨.inr rfl,.inl jk⟩,r.frame (λa z=>.inl z) (λa z=>je<|ne a<|w.zd a z) λa h=>je<|ne a<|w.od a h⟩
def Rep.lstNew(w:WF Z H O)(b:H p=none)(r:Reps R Z H l vs O):Rep R Z (upd H p<|.lst vs) (.lst true l) (.ref p) (p::O):=by
 have ne:∀ a,H a≠none->a≠p:=λa h e=>h<|e▸b;exact⟨p,vs,O,rfl,r.frame (λa z=>z) (λa z=>je<|ne a<|w.zd a z) λa h=>je<|ne a<|w.od a h,jk,rfl⟩
def jlT(c:DA R ta fa):DE R (zw ta) (jdP fa):=by
 refine jlw ?_ c;intro Z H f d vs O w r e Q k;dsimp only at e;by_cases a:f.length<=1000
 ·rw[X0 a,cond_true] at e;cases e;exact⟨by rw[r.length];exact jmn a,λp b=>k (Go.newF w b)<|Rep.tupNew w b r⟩
 ·lia
noncomputable def Vn(fa:FE):FT':=λρ=>match fa ρ with
 | some (.bl b,ρ1)=>some (b,ρ1)
 | _=>none
def Rep.bl_of(r:Rep R Z H (.bl b) v O):v=.bl b/\O=[]:=by rw[Rep] at r;exact r
def jcL(a:DE R ta fa):DT R (Vo ta) (Vn fa):=by
 intro σ ρ f Z H O b w h e Q k;unfold Vn at e;split at e
 ·rename_i c g d;cases e;refine a w h d λ{v i j l m} g1 r1 s1=>?_;obtain⟨rfl,rfl⟩:=r1.bl_of;exact⟨b,rfl,k g1 s1⟩
 ·cases e
noncomputable def jmZ(fa:FT'):FT':=λρ=>(fa ρ).bind λp10=>some (!p10.1,p10.2)
def jmp(a:DT R ta fa):DT R (jjO ta) (jmZ fa):=by
 intro σ ρ f Z H O b w h e Q k;refine ob e λp d e=>?_;obtain⟨c,g⟩:=p;cases e;exact a w h d λ{i j l} g1 s1=>k g1 s1
def Rep.bl_mk:Rep R Z H (.bl b) (.bl b) []:=by rw[Rep];exact⟨rfl,rfl⟩
def OutOk.pre(g:Go Z H O Z1 H1 O1)(kp:Keep pm σ σ1)(k:OutOk R pm Z H O σ D' o):OutOk R pm Z1 H1 O1 σ1 D' o:=by
 cases o with
 | nx ρ=>exact λg2 s2 a=>k (g.trans g2) s2<|kp.trans a
 | bk ρ=>exact λg2 s2 a=>k (g.trans g2) s2<|kp.trans a
 | ct ρ=>exact λg2 s2 a=>k (g.trans g2) s2<|kp.trans a
 | rt d ρ=>exact λg2 r2 s2 a=>k (g.trans g2) r2 s2<|kp.trans a
@[simp] def jN(ρ:Rh):Option Out:=some<|.nx ρ
noncomputable def jh(f g:FS):FS:=λρ=>match f ρ with
 | some (.nx ρ1)=>g ρ1
 | o=>o
@[simp] def jgw:jh f g ρ=(f ρ).bind λo=>o.thn g:=by
 unfold jh;cases h:f ρ with
 | none=>rfl
 | some o=>cases o<;>rfl
def jji:DS R pm jh6 jN:=by
 intro σ ρ Z H O o w h e a k;cases e;exact k (Go.refl w) h<|Keep.refl _ _
def jku(b:DS R pm t f)(c:DS R pm u g):DS R pm (jnC t u) (jh f g):=by
 intro σ ρ Z H O o w h e m k;rw[jgw] at e;refine ob e λi j e=>b w h j ?_;cases i with
 | nx a=>exact λ{n p q r} g1 s1 l=>c g1.wf s1 e<|k.pre g1 l
 | bk a=>cases e;exact k
 | ct a=>cases e;exact k
 | rt d a=>cases e;exact k
@[simp] def sBreak(ρ:Rh):Option Out:=some<|.bk ρ
@[simp] def jhe(ρ:Rh):Option Out:=some<|.ct ρ
def jhW:DS R pm jhB jhe:=by
 intro σ ρ Z H O o w h e a k;cases e;exact k (Go.refl w) h<|Keep.refl _ _
@[simp] def KM(fe:FE)(ρ:Rh):Option Out:=(fe ρ).bind λx=>some<|.nx x.2
def jgX(a:DE R ta fa):DS R pm (JY ta) (KM fa):=by
 intro σ ρ Z H O o w h e c k;refine ob e λp b e=>?_;obtain⟨x,d⟩:=p;cases e;exact a w h b λg1 r1 s1=>k g1.dropL s1<|Keep.refl _ _
@[simp] def yp(fe:FE)(ρ:Rh):Option Out:=(fe ρ).bind λx=>some<|.rt x.1 x.2
def jkP(a:DE R ta fa):DS R pm (jnK ta) (yp fa):=by
 intro σ ρ Z H O o w h e c k;refine ob e λp b e=>?_;obtain⟨x,d⟩:=p;cases e;exact a w h b λg1 r1 s1=>k g1 r1 s1<|Keep.refl _ _
@[simp] def sRetN(ρ:Rh):Option Out:=some<|.rt .non ρ
@[simp] def sIf(ft:FT')(f:FS)(g:FS)(ρ:Rh):Option Out:=(ft ρ).bind λx=>bif x.1 then f x.2 else g x.2
def jlu(a:DT R tt ft)(b:DS R pm t f)(d:DS R pm u g):DS R pm (jm2 tt t u) (sIf ft f g):=by
 intro σ ρ Z H O o w h e j k;refine ob e λp i e=>?_;obtain⟨c,l⟩:=p;refine a w h i λ{m n q} g1 s1=>?_;cases c with
 | true=>exact jf2<|b g1.wf s1 e<|k.pre g1<|Keep.refl _ _
 | false=>exact jgb<|d g1.wf s1 e<|k.pre g1<|Keep.refl _ _
@[simp] def sNever(ρ:Rh):Option Out:=none
@[simp] def jc(pm:List Nat)(i:Nat)(d:D)(ρ:Rh):Option Rh:=bif decide (i<ρ.length)&&!decide (i∈pm) then some (ρ.set i<|some d) else none
def KP:DG R pm (vy i) (jc pm i):=by
 intro σ ρ l Z H O P d v w r h e Q k;unfold jc at e;by_cases hi:i<ρ.length
 ·by_cases g:i∈pm
  ·lia
  ·rw[X0 hi,X1 g] at e;cases e;obtain⟨A,m,B,rfl,n,j,o⟩:=h.put hi;refine k ((Go.refl w).drop (λa q=>?_) ?_) (j r (λ_ z=>z) (λ_ _=>rfl) (λ_ _=>rfl)<|λ_ _=>rfl)<|Keep.set g
   ·simp at q ⊢;rcases q with q | q | q<;>simp[q]
   ·have nd:=w.nd;simp only[U8,N1] at nd ⊢;exact⟨⟨nd.2.1.1.1,nd.1,λa f b c e=>nd.2.2 b c a (.inl<|.inl f) e.symm⟩,nd.2.1.2.1,λa f b c e=>f.elim (λq=>nd.2.1.2.2 a (.inl q) b c e) λq=>nd.2.2 a q b (.inr c) e⟩
 ·lia
@[simp] def jB(fe:FE)(G:D->Rh->Option Rh)(ρ:Rh):Option Out:=(fe ρ).bind λx=>(G x.1 x.2).bind λr=>some<|.nx r
def uk(a:DE R ta fa)(b:DG R pm tg g):DS R pm (jfM ta tg) (jB fa g):=by
 intro σ ρ Z H O o w h e f k;refine ob e λp c e=>?_;obtain⟨x,i⟩:=p;refine ob e λj e2 e=>?_;cases e;exact a w h c λg1 r1 s1=>b g1.wf r1 s1 e2 λg2 s2 d=>k (Go.trans g1 g2) s2 d
noncomputable def gN:List D->Rh->Option Rh:=λds ρ=>match ds with
 | []=>some ρ
 | _=>none
noncomputable def gC(g:D->Rh->Option Rh)(gs:List D->Rh->Option Rh):List D->Rh->Option Rh:=λds ρ=>match ds with
 | []=>none
 | d::r=>(g d ρ).bind λρ1=>gs r ρ1
noncomputable def gT(n:Nat)(gs:List D->Rh->Option Rh):D->Rh->Option Rh:=λd ρ=>match d with
 | .tup l=>bif decide (l.length=n) then gs l ρ else none
 | _=>none
abbrev PTf:=Rh->Option Bool
abbrev PAf:=Rh->Option (List D)
mutual
theorem Rep.dom:∀{d:D}{v:V}{O:W5},Rep R Z H d v O->∀ a∈O,H a≠none
 | .non,_,_,h,a,ha=>by rw[Rep] at h;rw[h.2] at ha;cases ha
 | .bl _,_,_,h,a,ha=>by rw[Rep] at h;rw[h.2] at ha;cases ha
 | .int _,_,_,h,a,ha=>by rw[Rep] at h;rw[h.2] at ha;cases ha
 | .str _,_,_,h,a,ha=>by rw[Rep] at h;rw[h.2] at ha;cases ha
 | .dead,_,_,h,a,ha=>by rw[Rep] at h;rw[h] at ha;cases ha
 | .tok _,_,_,h,a,ha=>by rw[Rep] at h;rw[h.2] at ha;cases ha
 | .kt _,_,_,h,a,ha=>by rw[Rep] at h;obtain⟨_,_,_,_,h⟩:=h;rw[h] at ha;cases ha
 | .exc _ _,_,_,h,a,ha=>by rw[Rep] at h;obtain⟨_,_,_,_,_,_,_,h⟩:=h;rw[h] at ha;cases ha
 | .tup l,_,_,h,a,ha=>by
  rw[Rep] at h;obtain⟨b,vs,e,t,r⟩:=h;exact Reps.dom r a ha
 | .lst o l,_,_,h,a,ha=>by
  rw[Rep] at h;obtain⟨b,vs,O',e,r,h⟩:=h;cases o with
  | true=>
   obtain⟨h1,rfl⟩:=h;rcases M4.mp ha with e | e
   ·rw[e,h1];exact λz=>(nomatch z)
   ·exact Reps.dom r a e
  | false=>rw[h.2.2] at ha;cases ha
 | .dK o ks l,_,_,h,a,ha=>by
  rw[Rep] at h;obtain⟨b,vs,O',e,r,hl,hd,h⟩:=h;cases o with
  | true=>
   have h:=(show _=_ from h);subst h;rcases M4.mp ha with e | e
   ·rw[e,hd];exact λz=>(nomatch z)
   ·exact Reps.dom r a e
  | false=>rw[h.2.2] at ha;cases ha
 | .dT o ks l,_,_,h,a,ha=>by
  rw[Rep] at h;obtain⟨b,vs,O',e,r,hl,hd,h⟩:=h;cases o with
  | true=>
   have h:=(show _=_ from h);subst h;rcases M4.mp ha with e | e
   ·rw[e,hd];exact λz=>(nomatch z)
   ·exact Reps.dom r a e
  | false=>rw[h.2.2] at ha;cases ha
 | .ins o c ns l,_,_,h,a,ha=>by
  rw[Rep] at h;obtain⟨b,dx,vs,O',e,r,hl,hd,h⟩:=h;cases o with
  | true=>
   have h:=(show _=_ from h);subst h;rcases M4.mp ha with e | e
   ·rw[e,hd];exact λz=>(nomatch z)
   ·exact Reps.dom r a e
  | false=>rw[h.2.2] at ha;cases ha
theorem Reps.dom:∀{l:List D}{vs:List V}{O:W5},Reps R Z H l vs O->∀ a∈O,H a≠none
 | [],_,_,h,a,ha=>by rw[Reps] at h;rw[h.2] at ha;cases ha
 | d::l,_,_,h,a,ha=>by
  rw[Reps] at h;obtain⟨v,vs,O1,O2,e,rfl,r1,r2⟩:=h;rcases N1.mp ha with q | q
  ·exact Rep.dom r1 a q
  ·exact Reps.dom r2 a q
end
theorem Slots.dom:∀{ρ}{σ}{O},Slots R Z H ρ σ O->∀ a∈O,H a≠none
 | [],_,_,h,a,b=>by rw[h.2] at b;cases b
 | none::ρ,_,_,h,a,b=>by obtain⟨s,c,rfl,r⟩:=h;exact Slots.dom r a b
 | some d::ρ,_,_,h,a,b=>by
  obtain⟨v,c,e,f,rfl,rfl,r1,r2⟩:=h;rcases N1.mp b with q | q
  ·exact r1.dom a q
  ·exact Slots.dom r2 a q
abbrev Zd(Z:Zn)(H:Hp):Prop:=∀ a,Z a->H a≠none
def wf0(z:Zd Z H):WF Z H []:=⟨List.nodup_nil,λa h=>(nomatch h),λa h=>(nomatch h),z⟩
def Go.id(z:Zd Z H):Go Z H [] Z H []:=Go.refl<|wf0 z
def Go.same(g:Go Z H [] Z' H' P):∀ a,H a≠none->H' a=H a:=λa h=>g.fr a h<|λz=>(nomatch z)
def Go.rep(z:Zd Z H)(g:Go Z H [] Z' H' P)(r:Rep R Z H d v O):Rep R Z' H' d v O:=r.frame g.zz (λa h=>g.same a<|z a h) λa h=>g.same a<|r.dom a h
def Go.reps(z:Zd Z H)(g:Go Z H [] Z' H' P)(r:Reps R Z H l vs O):Reps R Z' H' l vs O:=r.frame g.zz (λa h=>g.same a<|z a h) λa h=>g.same a<|r.dom a h
def Go.slots(z:Zd Z H)(g:Go Z H [] Z' H' P)(r:Slots R Z H ρ σ O):Slots R Z' H' ρ σ O:=r.frame g.zz (λa h=>g.same a<|z a h) λa h=>g.same a<|r.dom a h
def Go.pair(g:Go Z H [] Z' H' P)(k:Go Z' H' [] Z'' H'' P2):Go Z H [] Z'' H'' (P++P2):=by
 have w:WF Z' H' (P++[]++[]):=by simpa using g.wf
 exact g.trans (by simpa using(k.frame w))
def Go.to0(g:Go Z H O Z' H' P):Go Z H O Z' H' []:=g.drop (λa h=>(nomatch h)) List.nodup_nil
def Go.widen(w:WF Z H O)(g:Go Z H [] Z' H' P):Go Z H O Z' H' (P++O):=by
 simpa using(g.frame (A:=[]) ⇑w)
def PP(R:RC)(te:TE)(p:PF):Prop:=∀{σ}{ρ}{Z}{H}{O}{d},Zd Z H->Slots R Z H ρ σ O->p ρ=some d ->
 ∀{Q},(∀{v}{Z'}{H'}{P},Go Z H [] Z' H' P->Rep R Z' H' d v P->Q v H')->te σ H Q
def PB(R:RC)(te:TE)(p:PF):Prop:=∀{σ}{ρ}{Z}{H}{O}{d},Zd Z H->Slots R Z H ρ σ O->p ρ=some d ->
 ∀{Q},(∀{v}{Z'}{H'}{P},Go Z H [] Z' H' []->Rep R Z' H' d v P->Q v H')->te σ H Q
def PPs(R:RC)(ta:TA)(p:PAf):Prop:=∀{σ}{ρ}{Z}{H}{O}{ds},Zd Z H->Slots R Z H ρ σ O->p ρ=some ds ->
 ∀{Q:List V->Hp->Prop},(∀{vs}{Z'}{H'}{P},Go Z H [] Z' H' P->Reps R Z' H' ds vs P->Q vs H')->ta σ H Q
def PBs(R:RC)(ta:TA)(p:PAf):Prop:=∀{σ}{ρ}{Z}{H}{O}{ds},Zd Z H->Slots R Z H ρ σ O->p ρ=some ds ->
 ∀{Q:List V->Hp->Prop},(∀{vs}{Z'}{H'}{P},Go Z H [] Z' H' []->Reps R Z' H' ds vs P->Q vs H')->ta σ H Q
def PTt(R:RC)(tt:TT)(p:PTf):Prop:=∀{σ}{ρ}{Z}{H}{O}{b},Zd Z H->Slots R Z H ρ σ O->p ρ=some b ->
 ∀{Q:Bool->Hp->Prop},(∀{Z'}{H'},Go Z H [] Z' H' []->Q b H')->tt σ H Q
def PP.b(h:PP R te p):PB R te p:=λz s e _ k=>h z s e λg r=>k g.to0 r
def PPs.b(h:PPs R te p):PBs R te p:=λz s e _ k=>h z s e λg r=>k g.to0 r
@[simp] def pF(pa:PF)(ρ:Rh):Option D:=(pa ρ).bind λd=>bif frz d then some d else none
def PB.f(h:PB R te p):PP R te (pF p):=by
 intro σ ρ Z H O d z s e Q k;refine ob e λc a e=>oc e λb e=>?_;cases e;exact h z s a λg r=>by
  cases r.nil b;exact k g r
@[simp] def dP(pa:PF)(ρ:Rh):Option (D×Rh):=(pa ρ).bind λd=>some (d,ρ)
@[simp] def dPT(q:PTf)(ρ:Rh):Option (Bool×Rh):=(q ρ).bind λd=>some (d,ρ)
theorem PP.d(h:PP R te p):DE R te (dP p):=by
 intro σ ρ b Z H O d w s e Q k;refine ob e λc a e=>?_;cases e;exact h w.zd s a λg r=>k (g.widen w) r<|g.slots w.zd s
theorem PTt.d(h:PTt R te p):DT R te (dPT p):=by
 intro σ ρ b Z H O d w s e Q k;refine ob e λc a e=>?_;cases e;exact h w.zd s a λg=>k ⇑(g.widen w) (g.slots w.zd s)
@[simp] def pC(d:D)(ρ:Rh):Option D:=some d
abbrev pI(i:Int):PF:=pC<|.int i
abbrev pS(l:List Nat):PF:=pC<|.str l
def jmf:PB R (jU i) (pV i):=by
 intro σ ρ Z H O d z s e Q k;unfold pV at e;split at e
 ·rename_i c a;cases e;obtain⟨A,P,B,rfl,b,_⟩:=s.put (L9.mp a).1;obtain⟨v,f,r⟩:=b d a;exact⟨v,f,k (Go.id z) r⟩
 ·cases e
def jmU(a:∀ Z H,Rep R Z H d v []):PP R (tC v) (pC d):=by
 intro σ ρ Z H O b z s e Q k;cases e;exact k (Go.id z)<|a Z H
def Rep.int_mk:Rep R Z H (.int i) (.int i) []:=by rw[Rep];exact⟨rfl,rfl⟩
def Rep.str_mk:Rep R Z H (.str s) (.str<|S s) []:=by rw[Rep];exact⟨rfl,rfl⟩
def Rep.non_mk:Rep R Z H .non .non []:=by rw[Rep];exact⟨rfl,rfl⟩
def Rep.int_of(r:Rep R Z H (.int i) v O):v=.int i/\O=[]:=by rw[Rep] at r;exact r
def Rep.str_of(r:Rep R Z H (.str s) v O):v=.str (S s)/\O=[]:=by rw[Rep] at r;exact r
def Rep.non_of(r:Rep R Z H .non v O):v=.non/\O=[]:=by rw[Rep] at r;exact r
def BO(R:RC)(r:R2)(g:D->D->Option D):Prop:=∀{Z}{H}{x y d}{v u}{O1 O2},Zd Z H->Rep R Z H x v O1->Rep R Z H y u O2->g x y=some d ->
 ∀{Q},(∀{w}{Z'}{H'}{P},Go Z H [] Z' H' P->Rep R Z' H' d w P->Q w H')->r v u H Q
def BO'(R:RC)(r:R2)(g:D->D->Option D):Prop:=∀{Z}{H}{x y d}{v u}{O1 O2},Zd Z H->Rep R Z H x v O1->Rep R Z H y u O2->g x y=some d ->
 ∀{Q},(∀{w}{P},Rep R Z H d w P->Q w H)->r v u H Q
def BU(R:RC)(r:V->Hp->VK->Prop)(g:D->Option D):Prop:=∀{Z}{H}{x d}{v}{O},Zd Z H->Rep R Z H x v O->g x=some d ->
 ∀{Q},(∀{w}{Z'}{H'}{P},Go Z H [] Z' H' P->Rep R Z' H' d w P->Q w H')->r v H Q
def BC(R:RC)(r:List V->Hp->VK->Prop)(g:List D->Option D):Prop:=∀{Z}{H}{xs}{d}{vs}{O},Zd Z H->Reps R Z H xs vs O->g xs=some d ->
 ∀{Q},(∀{w}{Z'}{H'}{P},Go Z H [] Z' H' P->Rep R Z' H' d w P->Q w H')->r vs H Q
@[simp] def p2(G:D->D->Option D)(pa:PF)(pb:PF)(ρ:Rh):Option D:=(pa ρ).bind λx=>(pb ρ).bind λy=>G x y
@[simp] def p1(G:D->Option D)(pa:PF)(ρ:Rh):Option D:=(pa ρ).bind G
def KN(a:BO R r g)(b:PB R ta pa)(c:PB R tb pb):PP R (tOp r ta tb) (p2 g pa pb):=by
 intro σ ρ Z H O d z s e Q k;exact ob e λx f e=>ob e λy e2 e=>(b z s f λ{v i j l} g1 r1=>(c g1.wf.zd (g1.slots z s) e2 λ{u m n o} g2 r2=>(a g2.wf.zd (g2.rep g1.wf.zd r1) r2 e λg3 h=>k ((g1.pair g2).pair g3) h)))
def jn9(a:BO' R r g)(b:PB R ta pa)(c:PB R tb pb):PB R (tOp r ta tb) (p2 g pa pb):=by
 intro σ ρ Z H O d z s e Q k;exact ob e λx f e=>ob e λy e2 e=>(b z s f λ{v h i j} g1 r1=>(c g1.wf.zd (g1.slots z s) e2 λ{u l m n} g2 r2=>(a g2.wf.zd (g2.rep g1.wf.zd r1) r2 e<|k<|g1.pair g2)))
def jop(a:BU R r g)(b:PB R ta pa):PP R (tUn r ta) (p1 g pa):=by
 intro σ ρ Z H O d z s e Q k;exact ob e λx c e=>(b z s c λ{v h i j} g1 r1=>a g1.wf.zd r1 e λg3 f=>k ⇑(g1.pair g3) f)
@[simp] def pN(ρ:Rh):Option (List D):=some []
@[simp] def ja(pa:PF)(p:PAf)(ρ:Rh):Option (List D):=(pa ρ).bind λx=>(p ρ).bind λxs=>some<|x::xs
def pps_nil:PPs R J2 pN:=by
 intro σ ρ Z H O d z s e Q k;cases e;exact k (Go.id z) Reps.empty
def jeH(a:PP R ta pa)(b:PPs R tr pr):PPs R (jD ta tr) (ja pa pr):=by
 intro σ ρ Z H O d z s e Q k;refine ob e λx c e=>ob e λf e2 e=>?_;cases e;exact a z s c λ{v g h i} g1 r1=>(b g1.wf.zd (g1.slots z s) e2 λ{u j l m} g2 r2=>(k (g1.pair g2)<|.cons (g2.rep g1.wf.zd r1) r2))
def jg1:PBs R J2 pN:=pps_nil.b
def jeU(a:PB R ta pa)(b:PBs R tr pr):PBs R (jD ta tr) (ja pa pr):=by
 intro σ ρ Z H O d z s e Q k;refine ob e λx c e=>ob e λf e2 e=>?_;cases e;exact a z s c λ{v g h i} g1 r1=>(b g1.wf.zd (g1.slots z s) e2 λ{u j l m} g2 r2=>(k (g1.pair g2)<|.cons (g2.rep g1.wf.zd r1) r2))
@[simp] def pCB(G:List D->Option D)(p:PAf)(ρ:Rh):Option D:=(p ρ).bind G
def jil(a:BC R r g)(b:PBs R ta pa):PP R (tCB r ta) (pCB g pa):=by
 intro σ ρ Z H O d z s e Q k;exact ob e λx c e=>(b z s c λ{v h i j} g1 r1=>a g1.wf.zd r1 e λg3 f=>k ⇑(g1.pair g3) f)
noncomputable def lim(n:Nat):Bool:=decide<|n<=100000
def qP(h:lim n=true):n<=sizeLine:=N6 (X2 h) (by decide)
def uc(h:lim n=true):n<sizeLine:=X8 (X2 h) (by decide)
@[simp] def yk(p:PAf)(ρ:Rh):Option D:=(p ρ).bind λxs=>bif lim xs.length then some (.tup xs) else none
@[simp] def JK(p:PAf)(ρ:Rh):Option D:=(p ρ).bind λxs=>bif lim xs.length then some (.lst true xs) else none
def jlp(b:PPs R ta pa):PP R (zw ta) (yk pa):=by
 intro σ ρ Z H O d z s e Q k;refine ob e λg c e=>oc e λf e=>?_;cases e;exact b z s c λ{v h i j} g1 r1=>⟨by rw[r1.length];exact qP f,λp a=>k (g1.trans<|Go.newF g1.wf a)<|Rep.tupNew g1.wf a r1⟩
def jj9(b:PPs R ta pa):PP R (jnL ta) (JK pa):=by
 intro σ ρ Z H O d z s e Q k;refine ob e λg c e=>oc e λf e=>?_;cases e;exact b z s c λ{v h i j} g1 r1=>⟨by rw[r1.length];exact qP f,λp a=>k (g1.trans<|Go.newO g1.wf a)<|Rep.lstNew g1.wf a r1⟩
@[simp] def jn(pa:PF)(ρ:Rh):Option Bool:=(pa ρ).bind jf4
@[simp] def jaS(q:PTf)(q':PTf)(ρ:Rh):Option Bool:=(q ρ).bind λb=>bif b then q' ρ else some false
@[simp] def qOr(q:PTf)(q':PTf)(ρ:Rh):Option Bool:=(q ρ).bind λb=>bif b then some true else q' ρ
@[simp] def jmW(q:PTf)(ρ:Rh):Option Bool:=(q ρ).bind λb=>some<|!b
def jcH(a:PB R ta pa):PTt R (Vo ta) (jn pa):=by
 intro σ ρ Z H O b z s e Q k;refine ob e λx c e=>?_;cases KF e;refine a z s c λ{v d f g} g1 r1=>?_;obtain⟨rfl,rfl⟩:=r1.bl_of;exact⟨b,rfl,k g1⟩
def jkD(a:PTt R ta pa)(d:PTt R tb pb):PTt R (jnA ta tb) (jaS pa pb):=by
 intro σ ρ Z H O b z s e Q k;refine ob e λc f e=>(a z s f λ{g h} g1=>?_);cases c with
 | true=>exact jf2<|d g1.wf.zd (g1.slots z s) e λg2=>k<|g1.pair g2
 | false=>cases e;exact jgb<|k g1
def joF(a:PTt R ta pa)(d:PTt R tb pb):PTt R (tOr ta tb) (qOr pa pb):=by
 intro σ ρ Z H O b z s e Q k;refine ob e λc f e=>(a z s f λ{g h} g1=>?_);cases c with
 | true=>cases e;exact jf2<|k g1
 | false=>exact jgb<|d g1.wf.zd (g1.slots z s) e λg2=>k<|g1.pair g2
def jhQ(a:PTt R ta pa):PTt R (jjO ta) (jmW pa):=by
 intro σ ρ Z H O b z s e Q k;refine ob e λc d e=>?_;cases e;exact a z s d λ{f g} g1=>k g1
@[simp] def jfJ(pa:PF)(pb:PF)(ρ:Rh):Option D:=(pa ρ).bind λd=>(jf4 d).bind λb=>bif b then pb ρ else some (.bl false)
@[simp] def pOr(pa:PF)(pb:PF)(ρ:Rh):Option D:=(pa ρ).bind λd=>(jf4 d).bind λb=>bif b then some (.bl true) else pb ρ
@[simp] def joe(pa:PF)(ρ:Rh):Option D:=(pa ρ).bind λd=>(jf4 d).bind λb=>some<|.bl<|!b
def jka(a:PB R ta pa)(b:PP R tb pb):PP R (jgD ta tb) (jfJ pa pb):=by
 intro σ ρ Z H O d z s e Q k;refine ob e λx f e=>ob e λc e2 e=>?_;cases KF e2;refine a z s f λ{v g h i} g1 r1=>?_;obtain⟨rfl,rfl⟩:=r1.bl_of;refine⟨c,rfl,?_⟩;cases c with
 | true=>exact jf2<|b g1.wf.zd (g1.slots z s) e λg2 r2=>k ⇑(g1.pair g2) r2
 | false=>cases e;exact jgb<|k g1 .bl_mk
def jnF(a:PB R ta pa)(b:PP R tb pb):PP R (jod ta tb) (pOr pa pb):=by
 intro σ ρ Z H O d z s e Q k;refine ob e λx f e=>ob e λc e2 e=>?_;cases KF e2;refine a z s f λ{v g h i} g1 r1=>?_;obtain⟨rfl,rfl⟩:=r1.bl_of;refine⟨c,rfl,?_⟩;cases c with
 | true=>cases e;exact jf2<|k g1 .bl_mk
 | false=>exact jgb<|b g1.wf.zd (g1.slots z s) e λg2 r2=>k ⇑(g1.pair g2) r2
def jlh(a:PB R ta pa):PP R (jhn ta) (joe pa):=by
 intro σ ρ Z H O d z s e Q k;refine ob e λx b e=>ob e λc e2 e=>?_;cases KF e2;cases e;refine a z s b λ{v f g h} g1 r1=>?_;obtain⟨rfl,rfl⟩:=r1.bl_of;exact⟨c,rfl,k g1 .bl_mk⟩
@[simp] def pIf(q:PTf)(pa:PF)(pb:PF)(ρ:Rh):Option D:=(q ρ).bind λb=>bif b then pa ρ else pb ρ
def jnB(a:PTt R tt pt)(b:PP R ta pa)(f:PP R tb pb):PP R (tIf tt ta tb) (pIf pt pa pb):=by
 intro σ ρ Z H O d z s e Q k;refine ob e λc g e=>(a z s g λ{h i} g1=>?_);cases c with
 | true=>exact jf2<|b g1.wf.zd (g1.slots z s) e λg2 r2=>k ⇑(g1.pair g2) r2
 | false=>exact jgb<|f g1.wf.zd (g1.slots z s) e λg2 r2=>k ⇑(g1.pair g2) r2
@[simp] def pChain(G:D->D->Option D)(G':D->D->Option D)(pa:PF)(pb:PF)(pc:PF)(ρ:Rh):Option D:=(pa ρ).bind λx=>(pb ρ).bind λy=>(G x y).bind λd=>(jf4 d).bind λb=>bif b then((pc ρ).bind λw=>G' y w) else some (.bl false)
def jjv(R:RC)(J:It)(Z:Zn)(H:Hp)(xs:List D):Prop:=∀{Z1}{H1},(∀ a,Z a->Z1 a)->(∀ a,Z a->H1 a=H a)->Zd Z1 H1->∀ i:Nat,
 (xs.length<=i->J.stop i H1)/\∀ x,xs[i]?=some x->J.go i H1/\∀ u H2,J.yld i H1 u H2->∃ Z2,Go Z1 H1 [] Z2 H2 []/\Rep R Z2 H2 x u []
def PIt(R:RC)(wi:TI)(p:PAf):Prop:=∀{σ}{ρ}{Z}{H}{O}{xs},Zd Z H->Slots R Z H ρ σ O->p ρ=some xs ->
 ∀{Q:It->Hp->Prop},(∀{J}{Z'}{H'},Go Z H [] Z' H' []->jjv R J Z' H' xs->Q J H')->wi σ H Q
def jkA(K:W4)(tl:TE):TI:=λσ H Q=>tl σ H λx H1=>
 (∃ a,x=.ref a/\(∃ xs,SqL K H1 a xs)/\Q (Itl K a) H1)\/(∃ a,x=.ref a/\(∃ xs,SqT K H1 a xs)/\Q (Itt K a) H1) \/ ∃ l,x=.str (S l)/\Q (Its l) H1
def jgf(z:PE X l tl):PI X tg l (jkA X.K tl):=by
 intro c s σ H Q I h;have m:∀ v s1,EP X c σ (λx f=>(∃ a,x=.ref a/\(∃ g,SqL X.K f a g)/\Q (Itl X.K a) f)\/(∃ a,x=.ref a/\(∃ g,SqT X.K f a g)/\Q (Itt X.K a) f) \/ ∃ l,x=.str (S l)/\Q (Its l) f) v s1->wpAny (model X.prog X.w) X.A (pyIter v) (PIE X c σ tg Q) X.xe s1:=by
  rintro v s1 ⟨x,f,d,r1,B⟩;rcases B with⟨a,rfl,⟨g,n⟩,q⟩ | ⟨a,rfl,⟨g,n⟩,q⟩ | ⟨l,rfl,q⟩
  ·cases r1;obtain⟨r,C,p,D⟩:=d.list n;refine wpAny_pyIter_list p.isList ⟨↥s1,[↥s1],_,_,f,rfl,d.kept λb o e=>L8 _ e,jc6 a _,⟨_,X7 _ rfl,rfl,rfl⟩,λb j=>?_,q⟩;have e:b=↥s1:=by simpa using j
   subst e;exact d.fpOk (M8 _)<|d.hok.fresh<|M8 _
  ·cases r1;obtain⟨r,C,p,D⟩:=d.tuple n;refine wpAny_pyIter_tuple (p) ⟨↥s1,[↥s1],_,_,f,rfl,d.kept λb o e=>L8 _ e,jat a _,⟨_,X7 _ rfl,rfl,rfl⟩,λb j=>?_,q⟩;have e:b=↥s1:=by simpa using j
   subst e;exact d.fpOk (M8 _)<|d.hok.fresh<|M8 _
  ·obtain⟨t,rfl⟩:=r1;have k:∀ ty,(ty = "str_ascii_iterator" \/ ty = "str_iterator")->(∀ A:Around,A.handled=none->Walks X.prog X.w A ↥s1 [↥s1] [↥s1] (S l).cps.size (SignAt<|S l) (λi h=>h.IsStrIter ↥s1 ty (S l) t i)) ->
     PIE X c σ tg Q (.ref ↥s1) { s1 with heap:=s1.heap.push {cls:=.type ty,data:=.fields #[.str (S l) t,.int 0 0]} }:=λty u W=>by
    refine⟨↥s1,[↥s1],_,_,f,rfl,d.kept λb o e=>L8 _ e,jd8 _ l t ty u W,⟨_,X7 _ rfl,rfl,rfl⟩,λb j=>?_,q⟩;have e:b=↥s1:=by simpa using j
    subst e;exact d.fpOk (M8 _)<|d.hok.fresh<|M8 _
   cases ha:(S l).cps.all (· < 128)
   ·exact wpAny_pyIter_wide ha<|k _ (.inr rfl) λE y=>Walks.strWide y _ (S l) t
   ·exact wpAny_pyIter_ascii ha<|k _ (.inl rfl) λE y=>Walks.strAscii y _ (S l) t
 exact thn (z c s σ H _ I h) m
def Km:D->Option (List D)
 | .lst _ l=>some<|fzs l
 | .tup l=>some<|fzs l
 | .str s=>some<|s.map λc=>.str [c]
 | _=>none
@[simp] def pIt(pa:PF)(ρ:Rh):Option (List D):=(pa ρ).bind Km
def jk7(h:FL R Z H a vs)(r:Reps R Z H l vs []):jjv R (Itl R.K a) Z H l:=by
 intro j o d f zd i;have b:=(h.frame d f).sq;refine⟨λhi=>⟨vs,b,by rw[r.length];exact hi⟩,λx k=>?_⟩;obtain⟨v,g,m⟩:=(r.frame d f λa n=>(nomatch n)).item k;refine⟨⟨vs,v,b,g⟩,λu p c=>?_⟩;obtain⟨rfl,c⟩:=c;have e:=c vs b;rw[g] at e;cases e;exact⟨j,Go.id zd,m⟩
def jkv(h:FT R Z H a vs)(r:Reps R Z H l vs []):jjv R (Itt R.K a) Z H l:=by
 intro j o d f zd i;have b:=(h.frame d f).sq;refine⟨λhi=>⟨vs,b,by rw[r.length];exact hi⟩,λx k=>?_⟩;obtain⟨v,g,m⟩:=(r.frame d f λa n=>(nomatch n)).item k;refine⟨⟨vs,v,b,g⟩,λu p c=>?_⟩;obtain⟨rfl,c⟩:=c;have e:=c vs b;rw[g] at e;cases e;exact⟨j,Go.id zd,m⟩
def jfK:jjv R (Its s) Z H (s.map λc=>.str [c]):=by
 intro d g h j zd i;refine⟨λhi=>by show s.length<=i;simpa using hi,λx a=>?_⟩;rw[List.getElem?_map] at a;cases e:s[i]? with
 | none=>rw[e] at a;cases a
 | some c=>
  rw[e] at a;cases a;refine⟨(L9.mp e).1,λu k f=>?_⟩;obtain⟨rfl,l,b,rfl⟩:=f;rw[e] at b;cases b;exact⟨d,Go.id zd,.str_mk⟩
def Go.fz(g:Go Z H [] Z' H' P):Go Z H [] (λa=>Z' a\/a∈P) H' []:=g.trans<|Go.freeze g.wf
def jof(h:PP R te p):PIt R (jkA R.K te) (pIt p):=by
 intro σ ρ Z H O j z s e Q k;refine ob e λd f e=>(h z s f λ{v g m i} g1 r1=>?_);have r2:=r1.freeze (Z':=λa=>g a\/a∈i) (λa z=>.inl z) λa z=>.inr z;cases d with
 | lst o l=>
  cases e;obtain⟨a,vs,n,rfl,c,b,rfl,_⟩:=r2;exact .inl ⟨a,rfl,⟨vs,FL.sq b⟩,k g1.fz<|jk7 b c⟩
 | tup l=>
  cases e;obtain⟨a,vs,rfl,b,c⟩:=r2;exact .inr<|.inl ⟨a,rfl,⟨vs,FT.sq b⟩,k g1.fz<|jkv b c⟩
 | str t=>
  cases e;obtain⟨rfl,rfl⟩:=r1.str_of;exact .inr<|.inr ⟨t,rfl,k g1 jfK⟩
 | _=>cases e
noncomputable def Vs(lo:Int)(n:Nat):List D:=(List.range n).map λ(i:Nat)=>D.int<|lo+(i:Int)
def jlP:jjv R (Itr lo n) Z H (Vs lo n):=by
 intro b d e f zd i;refine⟨λhi=>by show n<=i;simpa [Vs] using hi,λx a=>?_⟩;unfold Vs at a;rw[List.getElem?_map] at a;by_cases hi:i<n
 ·rw[List.getElem?_range hi] at a;cases a;refine⟨hi,λu g c=>?_⟩;obtain⟨rfl,rfl⟩:=c;exact⟨b,Go.id zd,.int_mk⟩
 ·rw[List.getElem?_eq_none ⇑hi] at a;cases a
noncomputable def Vv(i:Int):Bool:=Nat.ble i.natAbs 4611686018427387903
def YO(h:Vv i=true):-(2 ^ 62)<=i/\i<2 ^ 62:=by
 have h:=Nat.le_of_ble_eq_true h;constructor<;>lia
def ja3(l:List D):Option (List D):=(jed l).bind λx=>(vg x).bind λj=>bif Vv j then some (Vs 0 j.toNat) else none
@[simp] def Kz(p:PAf)(ρ:Rh):Option (List D):=(p ρ).bind ja3
def Reps.one_of(r:Reps R Z H [d] vs O):∃ v,vs=[v]/\Rep R Z H d v O:=by
 obtain⟨v,a,b,c,rfl,rfl,r1,r2⟩:=r;obtain⟨rfl,rfl⟩:=r2;exact⟨v,rfl,by simpa using r1⟩
def Reps.two_of(r:Reps R Z H [d,e] vs O):Ex4 λv u O1 O2=>An4 (vs=[v,u]) (O=O1++O2) (Rep R Z H d v O1) (Rep R Z H e u O2):=by
 obtain⟨v,a,O1,O2,rfl,rfl,r1,r2⟩:=r;obtain⟨u,rfl,b⟩:=r2.one_of;exact⟨v,u,O1,O2,rfl,rfl,r1,b⟩
def jhY(h:PBs R ta p):PIt R (jit ta) (Kz p):=by
 intro σ ρ Z H O c z s e Q k;refine ob e λl b e=>ob e λx e2 e=>ob e λj e3 e=>oc e λa e=>?_;cases e;cases qd e2;cases jE e3;refine h z s b λ{v d f g} g1 r1=>?_;obtain⟨u,rfl,r2⟩:=r1.one_of;obtain⟨rfl,_⟩:=r2.int_of;exact⟨j,rfl,(YO a).1,(YO a).2,k g1 jlP⟩
def PGt(R:RC)(pm:List Nat)(tg:TG)(f:D->Rh->Option Rh):Prop:=∀{σ}{ρ ρ'}{Z}{H}{O}{d}{v},Rep R Z H d v []->Slots R Z H ρ σ O->f d ρ=some ρ' ->
 ∀{Q:St->Hp->Prop},(∀{σ'}{O'},(∀ a∈O',a∈O)->(O.Nodup->O'.Nodup)->Slots R Z H ρ' σ' O'->Keep pm σ σ'->Q σ' H)->tg v σ H Q
def jjR(R:RC)(pm:List Nat)(tg:TGs)(f:List D->Rh->Option Rh):Prop:=∀{σ}{ρ ρ'}{Z}{H}{O}{ds}{vs},Reps R Z H ds vs []->Slots R Z H ρ σ O->f ds ρ=some ρ' ->
 ∀{Q:St->Hp->Prop},(∀{σ'}{O'},(∀ a∈O',a∈O)->(O.Nodup->O'.Nodup)->Slots R Z H ρ' σ' O'->Keep pm σ σ'->Q σ' H)->tg vs σ H Q
def jfg:PGt R pm (vy i) (jc pm i):=by
 intro σ ρ f Z H O d v r h e Q k;unfold jc at e;by_cases hi:i<ρ.length
 ·by_cases b:i∈pm
  ·lia
  ·rw[X0 hi,X1 b] at e;cases e;obtain⟨A,g,B,rfl,j,c,l⟩:=h.put hi;refine k (λa q=>?_) (λnd=>?_) (c r (λ_ z=>z) (λ_ _=>rfl) (λ_ _=>rfl)<|λ_ _=>rfl)<|Keep.set b
   ·simp at q ⊢;rcases q with q | q<;>simp[q]
   ·grind
 ·lia
def jfz:jjR R pm jdQ gN:=by
 intro σ ρ c Z H O b vs r h e Q k;cases b with
 | cons _ _=>cases e
 | nil=>
  cases e;obtain⟨rfl,_⟩:=r;exact⟨rfl,k (λa h=>h) (λh=>h) h<|Keep.refl _ _⟩
def jdC(f:PGt R pm t g)(i:jjR R pm u gs):jjR R pm (kZ t u) (gC g gs):=by
 intro σ ρ w Z H O c vs r h e Q k;cases c with
 | nil=>cases e
 | cons d c=>
  refine ob e λx j e=>?_;obtain⟨v,b,y,z,rfl,e3,r1,r2⟩:=r;obtain⟨rfl,rfl⟩:=List.append_eq_nil_iff.mp e3.symm;exact⟨v,b,rfl,f r1 h j λs1 l m n=>i r2 m e λs2 o p s=>k (λa q=>s1 a<|s2 a q) (λq=>o<|l q) p<|n.trans s⟩
def jh1(f:jjR R pm u gs):PGt R pm (jbv R.K n u) (gT n gs):=by
 intro σ ρ i Z H O d v r h e Q k;cases d with
 | tup l=>
  unfold gT at e;dsimp only at e;by_cases b:l.length=n
  ·rw[X0 b,cond_true] at e;obtain⟨a,vs,rfl,g,c⟩:=r;exact⟨a,vs,rfl,g.sq,by rw[c.length];exact b,f c h e k⟩
  ·lia
 | _=>cases e
noncomputable def jG(g:D->Rh->Option Rh)(f:FS):List D->FS
 | [],ρ=>some<|.nx ρ
 | x::xs,ρ=>(g x ρ).bind λr=>(f r).bind λo=>o.loop<|jG g f xs
@[simp] def qF(p:PAf)(G:D->Rh->Option Rh)(f:FS)(ρ:Rh):Option Out:=(p ρ).bind λxs=>jG G f xs ρ
def Va{l:List α}{i}(h:l[i]?=some x):l.drop i=x::l.drop (i+1):=by
 obtain⟨hi,rfl⟩:=L9.mp h;exact List.drop_eq_getElem_cons hi
inductive LpF (R:RC) (pm:List Nat) (g:D->Rh->Option Rh) (f:FS) (σ:L2.St) (Z0:Zn) (H0:Hp) (O:W5) (xs:List D) (o:Out) (i m:Nat) (σ':L2.St) (H':Hp):Prop
 | mk:m=xs.length-i->i<=xs.length->∀(ρ':Rh) (Z':Zn) (O':W5),Go Z0 H0 O Z' H' O'->Slots R Z' H' ρ' σ' O'->Keep pm σ σ'->jG g f (xs.drop i) ρ'=some o->LpF R pm g f σ Z0 H0 O xs o i m σ' H'
def jlm(hi:PIt R wi p)(K:PGt R pm tg g)(L:DS R pm tb f):DS R pm (jn1 wi tg tb) (qF p g f):=by
 intro σ ρ Z H O o w s e D' k;refine ob e λc M e=>(hi w.zd s M λ{J x A} g0 N=>?_);have a:Go Z H O x A O:=by simpa using g0.widen w
 refine⟨LpF R pm g f σ x A O c o,
  ⟨c.length,rfl,U4 _,ρ,x,O,Go.refl a.wf,g0.slots w.zd s,Keep.refl _ _,e⟩,?_⟩
 rintro i m σ' P ⟨rfl,Q,ρ',S,G,g1,s1,kp,e2⟩;have q:=N g1.zz (g1.zH a.wf) g1.wf.zd i;by_cases B:i<c.length
 ·right
  have I:c[i]?=some c[i]:=by simp
  obtain⟨go,T⟩:=q.2 _ I;rw[Va I] at e2;refine ob e2 λρ1 e3 e2=>ob e2 λU V e2=>⟨go,λC l=>∃ b n y,Go x A O n l y/\Slots R n l b C y/\Keep pm σ C/\jG g f (c.drop<|i+1) b=some o,λC l ⟨b,n,y,W,X,Y,a4⟩=>⟨c.length-(i+1),by lia,rfl,B,b,n,y,W,X,Y,a4⟩,λu l hy=>?_⟩;obtain⟨n,g2,r2⟩:=T u l hy;have r:Go S P G n l G:=by simpa using g2.widen g1.wf
  refine K r2 (g2.slots g1.wf.zd s1) e3 λ{σ3 O3} sub nd s3 z=>?_;have g3:=(g1.trans r).drop sub (nd r.wf.nd);refine L g3.wf s3 V ?_;cases U with
  | nx b=>exact λ{D t E v} g4 h j=>⟨b,t,v,g3.trans g4,h,kp.trans<|z.trans j,e2⟩
  | ct b=>exact λ{D t E v} g4 h j=>⟨b,t,v,g3.trans g4,h,kp.trans<|z.trans j,e2⟩
  | bk b=>cases e2;exact λ{D t E v} g4 h j=>k (a.trans<|g3.trans g4) h<|kp.trans<|z.trans j
  | rt d b=>cases e2;exact λ{v4 D t E P4 v} g4 r4 h j=>k (a.trans<|g3.trans g4) r4 h<|kp.trans<|z.trans j
 ·left
  have F:i=c.length:=by lia
  refine⟨q.1 ∅,?_⟩;rw[F,List.drop_length] at e2;cases e2;exact k (a.trans g1) s1 kp
noncomputable def jx(ix:List<|Option Nat)(ρ:Rh):Rh:=ix.map λo=>o.bind λj=>(ρ[j]?).join
def xy(s:Slots R Z H ρ σ O):∀ ix:List (Option Nat),∃ O',Slots R Z H (jx ix ρ) (vi ix σ) O':=by
 intro ix
 induction ix with
 | nil=>
  exact⟨[],rfl,rfl⟩
 | cons o ix a=>
  obtain⟨O',a⟩:=a;show ∃ O',Slots R Z H ((o.bind λj=>(ρ[j]?).join)::jx ix ρ) ((o.bind λj=>(σ[j]?).join)::vi ix σ) O';cases e:o.bind λj=>(ρ[j]?).join with
  | none=>exact⟨O',_,_,rfl,a⟩
  | some d=>
   cases o with
   | none=>cases e
   | some j=>
    have f:(ρ[j]?).join=some d:=e;have e2:ρ[j]?=some (some d):=by grind
    obtain⟨A,P,B,_,b,_⟩:=s.put (L9.mp e2).1;obtain⟨v,c,r⟩:=b d e2;refine⟨P++O',v,_,P,O',?_,rfl,r,a⟩;show((σ[j]?).join::vi ix σ)=some v::vi ix σ;rw[c];rfl
@[simp] def qT(ρ:Rh):Option Bool:=some true
def jjd:PTt R (λ_ H Q=>Q true H) qT:=by
 intro σ ρ Z H O b z s e Q k;cases e;exact k<|Go.id z
noncomputable def jV(g:D->Rh->Option Rh)(q:PTf)(p:PF):List D->Rh->Option (List D)
 | [],_=>some []
 | x::xs,ρ=>(g x ρ).bind λρ1=>(q ρ1).bind λb=>bif b then((p ρ1).bind λy=>(jV g q p xs ρ1).bind λys=>some<|y::ys) else jV g q p xs ρ1
@[simp] def yw(pi:PAf)(G:D->Rh->Option Rh)(q:PTf)(pa:PF)(ix:List<|Option Nat)(ρ:Rh):Option D:=(pi ρ).bind λxs=>bif lim xs.length then((jV G q pa xs<|jx ix ρ).bind λys=>some<|.lst true ys) else none
noncomputable def spP(R:RC)(m:List D->Option D)(n:Nat):Sp:=λvs H Q _=>∃ Z ds d,Zd Z H/\ds.length=n/\Reps R Z H ds vs []/\m ds=some d/\∀{v}{Z'}{H'}{P},Go Z H [] Z' H' P->Rep R Z' H' d v P->Q v H'
def fnP(n:Nat)(f:FS)(ds:List D):Option D:=(f<|ds.map some++List.replicate (n-ds.length) none).bind Out.val
theorem qA:∀ n:Nat,Slots R Z H (List.replicate n none) (List.replicate n none) []
 | 0=>⟨rfl,rfl⟩
 | n+1=>⟨none,_,rfl,qA n⟩
theorem qr:∀{ds}{vs}{O}{ρ}{σ}{P},Reps R Z H ds vs O->Slots R Z H ρ σ P->Slots R Z H (ds.map some++ρ) (vs.map some++σ) (O++P)
 | [],_,_,_,_,_,r,s=>by rw[Reps] at r;obtain⟨rfl,rfl⟩:=r;exact s
 | d::ds,_,_,_,_,_,r,s=>by
  obtain⟨v,a,b,c,rfl,rfl,r1,r2⟩:=r;exact⟨v,_,b,_,rfl,List.append_assoc ..,r1,qr r2 s⟩
def jg9(b:DS R [] ts f)(h:spP R (fnP N.length f) n vs H Q E):ts {nx:=λ_ H'=>Q .non H',rt:=Q} (L2.start N vs) H:=by
 obtain⟨Z,a,d,z,l,r,e,k⟩:=h;have s:Slots R Z H (a.map some++List.replicate (N.length-a.length) none) (L2.start N vs) []:=by
  unfold L2.start;rw[r.length];exact(qr r<|qA<|N.length-a.length)
 refine ob e λo c e=>?_;cases o with
 | rt m i=>cases e;exact b (wf0 z) s c λg j _ _=>k g.dropR j
 | nx i=>cases e;exact b (wf0 z) s c λg _ _=>k g.to0 .non_mk
 | _=>cases e
def jiM(h:spP R m n vs H Q E):vs.length=n:=by
 obtain⟨Z,b,d,z,a,r,_⟩:=h;rw[r.length,a]
mutual
noncomputable def clean:D->Bool
 | .tup l=>ym l
 | .lst o l=>o&&ym l
 | .dK o _ l=>o&&ym l
 | .dT o _ l=>o&&ym l
 | .ins o _ _ l=>o&&ym l
 | .non=>true | .bl _=>true | .int _=>true | .str _=>true | .dead=>true | .tok _=>true | .kt _=>false | .exc _ _=>false
noncomputable def ym:List D->Bool
 | []=>true
 | d::l=>clean d&&ym l
end
mutual
theorem Rep.thaw(ht:∀ a vs,Z a->Rd H a (.tup vs)->Z' a):∀{d:D}{v:V}{O:W5},Rep R Z H d v O->clean d=true->Rep R Z' H d v O
 | .non,_,_,h,_=>by rw[Rep] at h ⊢;exact h
 | .bl _,_,_,h,_=>by rw[Rep] at h ⊢;exact h
 | .int _,_,_,h,_=>by rw[Rep] at h ⊢;exact h
 | .str _,_,_,h,_=>by rw[Rep] at h ⊢;exact h
 | .dead,_,_,h,_=>by rw[Rep] at h ⊢;exact h
 | .tok _,_,_,h,_=>by rw[Rep] at h ⊢;exact h
 | .kt _,_,_,_,f=>by rw[clean] at f;cases f
 | .exc _ _,_,_,_,f=>by rw[clean] at f;cases f
 | .tup l,_,_,h,f=>by
  rw[Rep] at h ⊢;rw[clean] at f;obtain⟨a,vs,e,t,r⟩:=h;refine⟨a,vs,e,?_,Reps.thaw ht r f⟩;rcases t with⟨z,q⟩ | q
  ·exact .inl ⟨ht a vs z q,q⟩
  ·exact .inr q
 | .lst o l,_,_,h,f=>by
  rw[Rep] at h ⊢;rw[clean,M0] at f;obtain⟨a,vs,O',e,r,h⟩:=h;cases f.1;exact⟨a,vs,O',e,Reps.thaw ht r f.2,h⟩
 | .dK o ks l,_,_,h,f=>by
  rw[Rep] at h ⊢;rw[clean,M0] at f;obtain⟨a,vs,O',e,r,h⟩:=h;cases f.1;exact⟨a,vs,O',e,Reps.thaw ht r f.2,h⟩
 | .dT o ks l,_,_,h,f=>by
  rw[Rep] at h ⊢;rw[clean,M0] at f;obtain⟨a,vs,O',e,r,h⟩:=h;cases f.1;exact⟨a,vs,O',e,Reps.thaw ht r f.2,h⟩
 | .ins o c ns l,_,_,h,f=>by
  rw[Rep] at h ⊢;rw[clean,M0] at f;obtain⟨a,dx,vs,O',e,r,h⟩:=h;cases f.1;exact⟨a,dx,vs,O',e,Reps.thaw ht r f.2,h⟩
theorem Reps.thaw(ht:∀ a vs,Z a->Rd H a (.tup vs)->Z' a):∀{l:List D}{vs:List V}{O:W5},Reps R Z H l vs O->ym l=true->Reps R Z' H l vs O
 | [],_,_,h,_=>by rw[Reps] at h ⊢;exact h
 | d::l,_,_,h,f=>by
  rw[Reps] at h ⊢;rw[ym,M0] at f;obtain⟨v,vs,O1,O2,e,rfl,r1,r2⟩:=h;exact⟨v,vs,O1,O2,e,rfl,Rep.thaw ht r1 f.1,Reps.thaw ht r2 f.2⟩
end
mutual
theorem Rep.notTup:∀{d:D}{v:V}{O:W5},Rep R Z H d v O->∀ a∈O,∀ vs,¬ Rd H a (.tup vs)
 | .non,_,_,h,a,ha=>by rw[Rep] at h;rw[h.2] at ha;cases ha
 | .bl _,_,_,h,a,ha=>by rw[Rep] at h;rw[h.2] at ha;cases ha
 | .int _,_,_,h,a,ha=>by rw[Rep] at h;rw[h.2] at ha;cases ha
 | .str _,_,_,h,a,ha=>by rw[Rep] at h;rw[h.2] at ha;cases ha
 | .dead,_,_,h,a,ha=>by rw[Rep] at h;rw[h] at ha;cases ha
 | .tok _,_,_,h,a,ha=>by rw[Rep] at h;rw[h.2] at ha;cases ha
 | .kt _,_,_,h,a,ha=>by rw[Rep] at h;obtain⟨_,_,_,_,h⟩:=h;rw[h] at ha;cases ha
 | .exc _ _,_,_,h,a,ha=>by rw[Rep] at h;obtain⟨_,_,_,_,_,_,_,h⟩:=h;rw[h] at ha;cases ha
 | .tup l,_,_,h,a,ha=>by
  rw[Rep] at h;obtain⟨b,vs,e,t,r⟩:=h;exact Reps.notTup r a ha
 | .lst o l,_,_,h,a,ha=>by
  rw[Rep] at h;obtain⟨b,vs,O',e,r,h⟩:=h;cases o with
  | true=>
   obtain⟨h1,rfl⟩:=h;rcases M4.mp ha with e | e
   ·subst e;rintro ws (q | ⟨_,q⟩)<;>rw[h1] at q<;>cases q
   ·exact Reps.notTup r a e
  | false=>rw[h.2.2] at ha;cases ha
 | .dK o ks l,_,_,h,a,ha=>by
  rw[Rep] at h;obtain⟨b,vs,O',e,r,hl,hd,h⟩:=h;cases o with
  | true=>
   have h:=(show _=_ from h);subst h;rcases M4.mp ha with e | e
   ·subst e;rintro ws (q | ⟨_,q⟩)<;>rw[hd] at q<;>cases q
   ·exact Reps.notTup r a e
  | false=>rw[h.2.2] at ha;cases ha
 | .dT o ks l,_,_,h,a,ha=>by
  rw[Rep] at h;obtain⟨b,vs,O',e,r,hl,hd,h⟩:=h;cases o with
  | true=>
   have h:=(show _=_ from h);subst h;rcases M4.mp ha with e | e
   ·subst e;rintro ws (q | ⟨_,q⟩)<;>rw[hd] at q<;>cases q
   ·exact Reps.notTup r a e
  | false=>rw[h.2.2] at ha;cases ha
 | .ins o c ns l,_,_,h,a,ha=>by
  rw[Rep] at h;obtain⟨b,dx,vs,O',e,r,hl,hd,h⟩:=h;cases o with
  | true=>
   have h:=(show _=_ from h);subst h;rcases M4.mp ha with e | e
   ·subst e;rintro ws (q | ⟨_,q⟩)<;>rw[hd] at q<;>cases q
   ·exact Reps.notTup r a e
  | false=>rw[h.2.2] at ha;cases ha
theorem Reps.notTup:∀{l:List D}{vs:List V}{O:W5},Reps R Z H l vs O->∀ a∈O,∀ vs,¬ Rd H a (.tup vs)
 | [],_,_,h,a,ha=>by rw[Reps] at h;rw[h.2] at ha;cases ha
 | d::l,_,_,h,a,ha=>by
  rw[Reps] at h;obtain⟨v,vs,O1,O2,e,rfl,r1,r2⟩:=h;rcases N1.mp ha with q | q
  ·exact Rep.notTup r1 a q
  ·exact Reps.notTup r2 a q
end
@[simp] def jl(m:List D->Option D)(p:PAf)(ρ:Rh):Option D:=(p ρ).bind λds=>(m<|fzs ds).bind λd=>bif frzs ds||clean d then some d else none
def vC(l):(fzs l).length=l.length:=by rw[vT,L1]
def jcX(e:Zd Z H)(r1:Reps R Z H ds vs P1)(f:ds.length=n)(e2:m (fzs ds)=some d)(b:(frzs ds||clean d)=true)
  (k:∀{v}{Z'}{H'}{P},Go Z H [] Z' H' P->Rep R Z' H' d v P->Q v H'):spP R m n (vs++[]) H Q E:=by
 refine⟨λa=>Z a\/a∈P1,fzs ds,d,λa h=>h.elim (e a)<|r1.dom a,by rw[vC];exact f,by rw[M9];exact r1.freeze (λa z=>.inl z) λa z=>.inr z,e2,λ{v Z' H' P} g2 r2=>?_⟩;rw[Bool.or_eq_true] at b;rcases b with b | b
 ·cases r1.nil b;exact k ⟨g2.wf,λa z=>g2.zz a<|.inl z,g2.fr,λa z=>(g2.zn a z).imp (λq=>q.resolve_right<|λq=>(nomatch q)) id,g2.sub,g2.dm⟩ r2
 ·refine k (Z':=λa=>Z' a/\(a∉P1\/Z a)) ⟨⟨g2.wf.nd,λa h q=>g2.wf.nz a h q.1,g2.wf.od,λa q=>g2.wf.zd a q.1⟩,λa z=>⟨g2.zz a<|.inl z,.inr z⟩,g2.fr,λa z=>?_,g2.sub,g2.dm⟩<|r2.thaw (λa ws za g=>⟨za,?_⟩) b
  ·rcases g2.zn a z.1 with(q | q) | q
   ·lia
   ·lia
   ·lia
  ·by_cases c:a∈P1
   ·exact absurd (Rd.agree (g2.same a<|r1.dom a c).symm g)<|r1.notTup a c ws
   ·lia
def ji8(b:PBs R ta p)(f:∀ ρ ds,p ρ=some ds->ds.length=n):PP R (KH (spP R m n) [] E0 ta) (jl m p):=by
 intro σ ρ Z H O d z s e Q k;refine ob e λds a e=>ob e λc e2 e=>oc e λg e=>?_;cases e;exact b z s a λg1 r1=>jcX g1.wf.zd r1 (f ρ ds a) e2 g λg2 r2=>k ⇑(g1.pair g2) r2
@[simp] def sFz(i:Nat)(f:FS)(ρ:Rh):Option Out:=match pV i ρ with | some d=>f (ρ.set i<|some<|fz d) | none=>f ρ
def jn2(h:DS R pm t f):DS R pm t (sFz i f):=by
 intro σ ρ Z H O o w s e l k;unfold sFz at e;split at e
 ·rename_i d hd;have hd:=qV hd;obtain⟨A,P,B,rfl,b,c,_⟩:=s.put (L9.mp hd).1;obtain⟨v,j,r⟩:=b d hd;have g:=(Go.freeze w.mid).frame w;have s2:=c (r.freeze (Z':=λa=>Z a\/a∈P) (λa z=>.inl z) λa z=>.inr z) (λa z=>.inl z) (λ_ _=>rfl) (λ_ _=>rfl)<|λ_ _=>rfl;rw[kh j] at s2;exact h g.wf s2 e<|k.pre g<|Keep.refl _ _
 ·exact h w s e k
def Jz{l m:W5}(h:∀ c,l.count c<=m.count c)(n:m.Nodup):l.Nodup:=List.nodup_iff_count.mpr λc=>N6 (h c)<|List.nodup_iff_count.mp n c
def VI{l m:W5}(h:∀ c,l.count c<=m.count c):∀ c∈l,c∈m:=λc a=>List.count_pos_iff.mp<|U3 (List.count_pos_iff.mpr a)<|h c
def Go.at(g:Go Z H O Z' H' P)(b:a∉O)(h:H a=some o):H' a=some o:=(g.fr a ∅ b).trans h
def Go.at0(g:Go Z H [] Z' H' P)(h:H a=some o):H' a=some o:=g.at (λz=>nomatch z) h
noncomputable abbrev Ln:=D->Option (D×(D->D))
inductive LnR (R:RC) (Z:Zn) (H:Hp) (ρ:Rh) (σ:L2.St) (O:W5) (tb:TE) (i:Nat) (x:D) (k:D->D):Prop
 | mk:∀(v:V) (A P B:W5),O=A++P++B->Rep R Z H x v P->(∀{Q:VK},Q v H->tb σ H Q) ->
  (∀{Z':Zn}{H':Hp}{x':D}{P':W5},Rep R Z' H' x' v P'->(∀ a,Z a->Z' a)->(∀ a,Z a->H' a=H a)->(∀ a∈A,H' a=H a)->(∀ a∈B,H' a=H a)->Slots R Z' H' (ρ.set i<|some<|k x') σ (A++P'++B))->LnR R Z H ρ σ O tb i x k
def jdK(R:RC)(tb:TE)(i:Nat)(L:Ln):Prop:=∀{σ}{ρ}{Z}{H}{O}{d x}{k},Slots R Z H ρ σ O->ρ[i]?=some (some d)->L d=some (x,k)->LnR R Z H ρ σ O tb i x k
noncomputable def vV:Ln:=λd=>some (d,λx=>x)
def qg:jdK R (jU i) i vV:=by
 intro σ ρ Z H O d x k s h e;cases e;obtain⟨A,P,B,rfl,b,c,_⟩:=s.put (L9.mp h).1;obtain⟨v,a,r⟩:=b _ h;refine⟨v,A,P,B,rfl,r,λq=>⟨v,a,q⟩,λf g j l m=>?_⟩;have q:=c f g j l m;rw[kh a] at q;exact q
inductive OwR (R:RC) (Z:Zn) (H:Hp) (l:List D) (sh:Addr->List V->HO) (sd:Prop) (v:V) (O:W5):Prop
 | mk:∀(a dx:Addr) (vs:List V) (O':W5),v=.ref a->Reps R Z H l vs O'->sd->H a=some (sh dx vs)->O=a::O'->OwR R Z H l sh sd v O
def Own(R:RC)(T:D)(l:List D)(sh:Addr->List V->HO)(sd:Prop):Prop:=∀{Z}{H}{v}{O},Rep R Z H T v O↔OwR R Z H l sh sd v O
def qK:Own R (.lst true l) l (λ_ vs=>.lst vs) True:=by
 intro Z H v O;exact⟨λh=>by obtain⟨a,vs,b,e,c,d,f⟩:=h;exact⟨a,0,vs,b,e,c,trivial,d,f⟩,λh=>by obtain⟨a,_,vs,b,e,c,_,d,f⟩:=h;exact⟨a,vs,b,e,c,d,f⟩⟩
def jaI:Own R (.dK true ks l) l (λ_ vs=>.dK<|(ks.map kaV).zip vs) (ks.length=l.length):=by
 intro Z H v O;exact⟨λh=>by obtain⟨a,vs,b,e,c,h,d,f⟩:=h;exact⟨a,0,vs,b,e,c,h,d,f⟩,λh=>by obtain⟨a,_,vs,b,e,c,h,d,f⟩:=h;exact⟨a,vs,b,e,c,h,d,f⟩⟩
def jfB:Own R (.dT true ks l) l (λ_ vs=>.dT<|(ks.map<|List.map kaV).zip vs) (ks.length=l.length):=by
 intro Z H v O;exact⟨λh=>by obtain⟨a,vs,b,e,c,h,d,f⟩:=h;exact⟨a,0,vs,b,e,c,h,d,f⟩,λh=>by obtain⟨a,_,vs,b,e,c,h,d,f⟩:=h;exact⟨a,vs,b,e,c,h,d,f⟩⟩
def ow_ins:Own R (.ins true c ns l) l (λdx vs=>.ins (R.cls c) dx<|ns.zip vs) (ns.length=l.length):=by
 intro Z H v O;exact⟨λh=>by obtain⟨a,dx,vs,b,e,d,h,f,g⟩:=h;exact⟨a,dx,vs,b,e,d,h,f,g⟩,λh=>by obtain⟨a,dx,vs,b,e,d,h,f,g⟩:=h;exact⟨a,dx,vs,b,e,d,h,f,g⟩⟩
def kJ{R}{Z}{H}{C:Prop}{σ}{ρ}{O P0}{i}{tb}{L}{t y}{o}{l}{p}{u}(F:jdK R tb i L)(w:WF Z H<|P0++O)(s:Slots R Z H ρ σ O)(hi:pV i ρ=some t)(e:L t=some (y,o))(G:Own R y l p u)
  (k:∀ a dx vs O',Reps R Z H l vs O'->u->H a=some (p dx vs)->(∀{Q},Q (.ref a) H->tb σ H Q)->(∀{O2 P1}{Z2}{H2}{x'}{l'}{vs'}{sh':Addr->List V->HO}{sd'},Own R x' l' sh' sd'->sd'->Go Z H [] Z2 H2 P1->Reps R Z2 H2 l' vs' O2->(∀ q,O2.count q<=O'.count q+P0.count q+P1.count q) ->
   ∃ O3,Go Z H (P0++O) Z2 (upd H2 a<|sh' dx vs') O3/\Slots R Z2 (upd H2 a<|sh' dx vs') (ρ.set i<|some<|o x') σ O3)->C):C:=by
 obtain⟨v,A,P,B,rfl,r,I,J⟩:=F s (qV hi) e;obtain⟨a,dx,vs,O',rfl,K,hd,M,rfl⟩:=G.mp r;refine k a dx vs O' K hd M I λ{O2 P1 Z2 H2 x' l' vs' sh' sd'} j n g N cnt=>?_;have h:=g.widen w;have nd:=h.wf.nd;have ct:=List.nodup_iff_count.mp nd a;simp only[U7,List.count_cons,if_true] at ct;have pos:∀{m:W5},a∈m->0<m.count a:=List.count_pos_iff.mpr;generalize S:sh' dx vs'=ob;have d:∀ b,Z2 b->upd H2 a ob b=H2 b:=λb c=>je λz=>h.wf.nz a (by simp)<|z▸c;have f:∀ m:List Addr,(∀ b∈m,b∈A++(a::O')++B)->m.count a=0->∀ b∈m,upd H2 a ob b=H b:=λm T W b c=>(je λz=>by subst z;have:=pos c;lia).trans (g.same b<|w.od b<|U2 _<|T b c);have U:=J (j.mpr ⟨a,dx,vs',O2,rfl,N.frame (λ_ z=>z) d λb c=>je λz=>by subst z;have:=pos c;have:=cnt b;lia,n,by rw[S];exact jk,rfl⟩) g.zz (λx D=>(d x<|g.zz x D).trans (g.same x<|w.zd x D)) (f A (λb c=>by simp[c]) ∅)<|f B (λb c=>by simp[c]) ∅;have E:∀ q,(A++(a::O2)++B).count q<=(P1++(P0++(A++(a::O')++B))).count q:=λq=>by
  have:=cnt q;simp only[U7,List.count_cons];lia
 exact⟨_,(h.trans<|Go.put h.wf<|by simp).drop (VI E) (Jz E nd),U⟩
@[simp] def kP(i:Nat)(L:Ln)(pv:PF)(ρ:Rh):Option Out:=(pv ρ).bind λd=>(pV i ρ).bind λt=>(L t).bind λy=>(Q2 y.1).bind λl=>bif lim l.length then some (.nx<|ρ.set i<|some<|y.2<|.lst true<|l++[d]) else none
def jdj{R}{pm}{i}{tb te}{L}{p}(g:jdK R tb i L)(h:PP R te p):DS R pm (JY<|tBM R.K "list" Yv tb<|jD te J2) (kP i L p):=by
 intro σ ρ Z H O o w s e v k;refine ob e λd j e=>ob e λt hi e=>ob e λ⟨y,x⟩ e3 e=>ob e λl m e=>oc e λb e=>?_;cases e;cases Jm m;refine kJ (P0:=[]) g w s hi e3 qK λa _ vs z c _ f n put=>n ⟨.inl ⟨rfl,vs,SqL.of f⟩,h w.zd s j λ{u A B C} g1 r1=>?_⟩;obtain⟨D,g3,r⟩:=put qK trivial g1 ((g1.reps w.zd c).append (.one r1)) λq=>by simp
 exact⟨a,vs,u,rfl,rfl,g1.at0 f,by rw[c.length];exact uc b,k g3 r<|Keep.refl _ _⟩
@[simp] def K2(i:Nat)(pa:PF)(ρ:Rh):Option Out:=(pa ρ).bind λd=>(pV i ρ).bind λx=>(Q2 x).bind λl=>bif lim l.length then some (.nx<|ρ.set i<|some<|.lst true<|l++[d]) else none
def jla(h:PP R te p):DS R pm (JY<|tBM R.K "list" Yv (jU i)<|jD te J2) (K2 i p):=jdj qg h
def J4(h:OpR X f r)(h':OpR X f r'):OpR X f (λx y H Q=>r x y H Q\/r' x y H Q):=by
 intro a s σ H x y v u Q I b c q;rcases q with q | q
 ·exact h a s σ H x y v u Q I b c q
 ·exact h' a s σ H x y v u Q I b c q
def Rep.lst_of(r:Rep R Z H (.lst o l) v O):Ex3 λa vs O'=>An3 (v=.ref a) (SqX R.K H a vs) (Reps R Z H l vs O'):=by
 obtain⟨a,vs,O',rfl,b,h⟩:=r;cases o with
 | true=>exact⟨a,vs,O',rfl,SqX.of h.1,b⟩
 | false=>exact⟨a,vs,O',rfl,FL.sqx h.1,b⟩
def Rep.tup_of(r:Rep R Z H (.tup l) v O):Ex2 λa vs=>An3 (v=.ref a) (SqT R.K H a vs) (Reps R Z H l vs O):=by
 obtain⟨a,vs,rfl,h,b⟩:=r;exact⟨a,vs,rfl,h.sq,b⟩
def Reps.frozen(r:Reps R Z H l vs O)(f:frzs l=true):Reps R Z H l vs []:=by
 cases r.nil f;exact r
noncomputable def jjA(i:Int):Bool:=decide<|Builtin.Int.intBits i<=2 ^ 20
def jdE(h:i.natAbs<2 ^ 1000):jjA i=true:=X0<|jaJ h (by decide)
def jg(x y:D):Option D:=match x with
 | .int i=>(match y with
  | .int j=>some<|.int<|i+j
  | _=>none)
 | .str a=>(match y with
  | .str b=>bif lim (a.length+b.length) then some (.str<|a++b) else none
  | _=>none)
 | .lst _ a=>(match y with
  | .lst _ b=>bif lim (a.length+b.length)&&(frzs a&&frzs b) then some (.lst true<|a++b) else none
  | _=>none)
 | .tup a=>(match y with
  | .tup b=>bif lim (a.length+b.length)&&(frzs a&&frzs b)&&!a.isEmpty then some (.tup<|a++b) else none
  | _=>none)
 | _=>none
def joC:R2:=λx y H Q=>∃ a b,x=.str (S a)/\y=.str (S b)/\a.length+b.length<=sizeLine/\Q (.str<|S<|a++b) H
def jfC(K:W4):R2:=λx y H Q=>rI0 (λi j=>.int<|i+j) x y H Q\/joC x y H Q\/jkR K x y H Q\/jlk K x y H Q
def jg4:OpR X (binaryOp .Add) (jfC X.K):=J4 jjE<|J4 jg8<|J4 jiC jg0
def jmR:BO R (jfC R.K) jg:=by
 intro Z H x y d v u D E z g l e Q k;cases x with
 | int i=>
  cases y with
  | int j=>
   cases e;obtain⟨rfl,_⟩:=g.int_of;obtain⟨rfl,_⟩:=l.int_of;exact .inl ⟨i,j,rfl,rfl,k (Go.id z) .int_mk⟩
  | _=>cases e
 | str a=>
  cases y with
  | str b=>
   refine oc e λc e=>?_;cases e;obtain⟨rfl,_⟩:=g.str_of;obtain⟨rfl,_⟩:=l.str_of;exact .inr<|.inl ⟨a,b,rfl,rfl,qP c,k (Go.id z) .str_mk⟩
  | _=>cases e
 | lst o a=>
  cases y with
  | lst F b=>
   refine oc e λc e=>?_;cases e;simp only[M0] at c;obtain⟨p,vs,G,rfl,m,f⟩:=g.lst_of;obtain⟨q,ws,t,rfl,n,rt⟩:=l.lst_of;have w:=(f.frozen c.2.1).append (rt.frozen c.2.2);exact .inr<|.inr<|.inl ⟨p,q,vs,ws,rfl,rfl,m,n,by rw[f.length,rt.length];exact qP c.1,λb h=>k (Go.newO (wf0 z) h)<|Rep.lstNew (wf0 z) h w⟩
  | _=>cases e
 | tup a=>
  cases y with
  | tup b=>
   refine oc e λc e=>?_;cases e;simp only[M0] at c;obtain⟨p,vs,rfl,m,f⟩:=g.tup_of;obtain⟨q,ws,rfl,n,rt⟩:=l.tup_of;have r:vs≠[]:=by
    intro A;have:=f.length;rw[A] at this;have s:=List.eq_nil_of_length_eq_zero this.symm;rw[s] at c;simp at c
   refine .inr<|.inr<|.inr ⟨p,q,vs,ws,rfl,rfl,m,n,r,by rw[f.length,rt.length];exact qP c.1.1,(λs=>?_),λ_ b h=>k (Go.newF (wf0 z) h)<|Rep.tupNew (wf0 z) h<|(f.frozen c.1.2.1).append (rt.frozen c.1.2.2)⟩;have B:=List.eq_nil_of_length_eq_zero (by rw[<- rt.length,s];rfl);subst B;rw[M9] at k;have C:=f.nil c.1.2.1;subst C;exact k (Go.id z) g
  | _=>cases e
 | _=>cases e
def two(f:Int->Int->Option D)(x y:D):Option D:=(vg x).bind λi=>(vg y).bind λj=>f i j
def two_of(e:two f x y=some d):Ex2 λi j=>An3 (x=.int i) (y=.int j) (f i j=some d):=ob e λi a e=>ob e λj e2 e=>⟨i,j,jE a,jE e2,e⟩
def J9:D->D->Option D:=two λi j=>some<|.int<|i-j
def jlI:BO R (rI0 λi j=>.int<|i-j) J9:=by
 intro Z H x y d v u c f z a b e Q k;replace e:=two_of e;obtain⟨i,j,rfl,rfl,e⟩:=e;cases e;obtain⟨rfl,_⟩:=a.int_of;obtain⟨rfl,_⟩:=b.int_of;exact⟨i,j,rfl,rfl,k (Go.id z) .int_mk⟩
def yi(x y:D):Option D:=match y with
 | .int n=>(match x with
  | .int i=>bif jjA i&&jjA n then some (.int<|i*n) else none
  | .str a=>bif decide (a.length<=1000)&&(decide (0<=n)&&decide (n<=1000)) then some (.str (List.replicate n.toNat a).flatten) else none
  | _=>none)
 | _=>none
def jgT:R2:=λx y H Q=>rI (λi j=>Builtin.Int.intBits i<=2 ^ 20/\Builtin.Int.intBits j<=2 ^ 20) (λi j=>.int<|i*j) x y H Q \/
 ∃ a n,x=.str (S a)/\y=.int n/\a.length<=1000/\0<=n/\n<=1000/\Q (.str<|S (List.replicate n.toNat a).flatten) H
def jhv:OpR X (binaryOp .Mult) jgT:=J4 jiu jhA
def jkI:BO R jgT yi:=by
 intro Z H x y d v u g h z c f e Q k;cases y with
 | int n=>
  cases x with
  | int i=>
   refine oc e λb e=>?_;cases e;rw[M0] at b;obtain⟨rfl,_⟩:=c.int_of;obtain⟨rfl,_⟩:=f.int_of;exact .inl ⟨i,n,rfl,rfl,⟨X2 b.1,X2 b.2⟩,k (Go.id z) .int_mk⟩
  | str a=>
   refine oc e λb e=>?_;cases e;simp only[M0,decide_eq_true_eq] at b;obtain⟨rfl,_⟩:=c.str_of;obtain⟨rfl,_⟩:=f.int_of;exact .inr ⟨a,n,rfl,rfl,b.1,b.2.1,b.2.2,k (Go.id z) .str_mk⟩
  | _=>cases e
 | _=>cases e
noncomputable def jaM(j:Int):Bool:=decide (0<j)&&decide (j<2 ^ 300)
def jdF(h:jaM j=true):0<j/\j.natAbs.log2<9000:=by
 unfold jaM at h;simp only[M0,decide_eq_true_eq] at h;refine⟨h.1,?_⟩;have a:j.natAbs<2 ^ 300:=by lia
 have b:j.natAbs≠0:=by lia
 have:=(Nat.log2_lt b).mpr a
 lia
def jfr:OpR X (binaryOp .FloorDiv) (rI (λ_ j=>jaM j=true) λi j=>.int<|i/j):=opI λi j t u s Q E a q=>by
 obtain⟨b,c⟩:=jdF a;rw[(Int.fdiv_eq_ediv_of_nonneg i<|Int.le_of_lt b).symm] at q;exact PyProof.Rows.floordiv_int ∅ q (.inl<|PyProof.noPylong_of_log2 c)
def YY:D->D->Option D:=two λi j=>bif jaM j then some (.int<|i/j) else none
def JB:D->D->Option D:=two λi j=>bif decide (0<j) then some (.int<|i%j) else none
def Vl:D->D->Option D:=two λi j=>bif decide (0<=j)&&decide (j<=100)&&decide (i.natAbs<2 ^ 64) then some (.int<|i ^ j.toNat) else none
def jjV:BO R (rI (λ_ j=>jaM j=true) λi j=>.int<|i/j) YY:=by
 intro Z H x y d v u f g z a b e Q k;replace e:=two_of e;obtain⟨i,j,rfl,rfl,e⟩:=e;refine oc e λc e=>?_;cases e;obtain⟨rfl,_⟩:=a.int_of;obtain⟨rfl,_⟩:=b.int_of;exact⟨i,j,rfl,rfl,c,k (Go.id z) .int_mk⟩
def jl5:BO R (rI (λ_ j=>0<j) λi j=>.int<|i%j) JB:=by
 intro Z H x y d v u f g z b c e Q k;replace e:=two_of e;obtain⟨i,j,rfl,rfl,e⟩:=e;by_cases a:0<j
 ·rw[X0 a] at e;cases e;obtain⟨rfl,_⟩:=b.int_of;obtain⟨rfl,_⟩:=c.int_of;exact⟨i,j,rfl,rfl,a,k (Go.id z) .int_mk⟩
 ·lia
def jk0:BO R (rI jng λi j=>.int<|i ^ j.toNat) Vl:=by
 intro Z H x y d v u f g z b c e Q k;replace e:=two_of e;obtain⟨i,j,rfl,rfl,e⟩:=e;refine oc e λa e=>?_;cases e;simp only[M0,decide_eq_true_eq] at a;obtain⟨rfl,_⟩:=b.int_of;obtain⟨rfl,_⟩:=c.int_of;exact⟨i,j,rfl,rfl,⟨a.1.1,by lia,a.2⟩,k (Go.id z) .int_mk⟩
noncomputable def Ql:D->Option D
 | .int i=>some<|.int<|-i
 | _=>none
def jkl:BU R (rU λi=>.int<|-i) Ql:=by
 intro Z H x d v O z a e Q k;cases x with
 | int i=>
  cases e;obtain⟨rfl,_⟩:=a.int_of;exact⟨i,rfl,k (Go.id z) .int_mk⟩
 | _=>cases e
def opB(g:Int->Int->Bool):D->D->Option D:=two λi j=>some<|.bl<|g i j
def jm6:BO R (rI0 λi j=>.bl<|g i j) (opB g):=by
 intro Z H x y d v u c f z a b e Q k;replace e:=two_of e;obtain⟨i,j,rfl,rfl,e⟩:=e;cases e;obtain⟨rfl,_⟩:=a.int_of;obtain⟨rfl,_⟩:=b.int_of;exact⟨i,j,rfl,rfl,k (Go.id z) .bl_mk⟩
abbrev jju:D->D->Option D:=opB λi j=>decide<|i<j
abbrev jns:D->D->Option D:=opB λi j=>decide<|i<=j
abbrev Vk:D->D->Option D:=opB λi j=>decide<|j<i
abbrev jol:D->D->Option D:=opB λi j=>decide<|j<=i
noncomputable def kW:D->Bool
 | .non=>true | .bl _=>true | .int _=>true | .str _=>true
 | _=>false
noncomputable def eqF:D->D->Bool
 | .non,y=>match y with | .non=>true | _=>false
 | .bl a,y=>match y with | .bl b=>a==b | _=>false
 | .int a,y=>match y with | .int b=>a==b | _=>false
 | .str a,y=>match y with | .str b=>a==b | _=>false
 | _,_=>false
noncomputable def Kq:D->D->Bool
 | .bl _,.int _=>false
 | .int _,.bl _=>false
 | _,_=>true
def jcm(d:Rep R Z H x v O1)(c:Rep R Z H y u O2)(h:(kW x&&kW y&&Kq x y)=true):jnp v u=true/\decide (v=u)=eqF x y:=by
 cases x with
 | non=>
  obtain⟨rfl,_⟩:=d.non_of;cases y with
  | non=>obtain⟨rfl,_⟩:=c.non_of;exact⟨rfl,rfl⟩
  | bl b=>obtain⟨rfl,_⟩:=c.bl_of;exact⟨rfl,rfl⟩
  | int b=>obtain⟨rfl,_⟩:=c.int_of;exact⟨rfl,rfl⟩
  | str b=>obtain⟨rfl,_⟩:=c.str_of;exact⟨rfl,rfl⟩
  | _=>cases h
 | bl a=>
  obtain⟨rfl,_⟩:=d.bl_of;cases y with
  | non=>obtain⟨rfl,_⟩:=c.non_of;exact⟨rfl,rfl⟩
  | bl b=>obtain⟨rfl,_⟩:=c.bl_of;exact⟨rfl,by rw[jc3];rfl⟩
  | str b=>obtain⟨rfl,_⟩:=c.str_of;exact⟨rfl,rfl⟩
  | _=>cases h
 | int a=>
  obtain⟨rfl,_⟩:=d.int_of;cases y with
  | non=>obtain⟨rfl,_⟩:=c.non_of;exact⟨rfl,rfl⟩
  | int b=>obtain⟨rfl,_⟩:=c.int_of;exact⟨rfl,by rw[xV];rfl⟩
  | str b=>obtain⟨rfl,_⟩:=c.str_of;exact⟨rfl,rfl⟩
  | _=>cases h
 | str a=>
  obtain⟨rfl,_⟩:=d.str_of;cases y with
  | non=>obtain⟨rfl,_⟩:=c.non_of;exact⟨rfl,rfl⟩
  | bl b=>obtain⟨rfl,_⟩:=c.bl_of;exact⟨rfl,rfl⟩
  | int b=>obtain⟨rfl,_⟩:=c.int_of;exact⟨rfl,rfl⟩
  | str b=>
   obtain⟨rfl,_⟩:=c.str_of;refine⟨rfl,?_⟩;rw[Bool.eq_iff_iff];simp[eqF,jn5]
  | _=>cases h
 | _=>cases h
def inL(x:D)(l:List D):Bool:=l.any λy=>eqF y x
def jjo(x:D)(l:List D):Bool:=kW x&&l.all λy=>kW y&&Kq y x
def xc(neg:Bool)(x y:D):Option D:=match y with
 | .str s=>(match x with
  | .str [c]=>some<|.bl<|neg != decide (c∈s)
  | _=>none)
 | .lst _ l=>bif jjo x l then some (.bl<|neg != inL x l) else none
 | .tup l=>bif jjo x l then some (.bl<|neg != inL x l) else none
 | _=>none
def Reps.flat(c:Rep R Z H x v P)(d:kW x=true):∀{l}{vs}{O},Reps R Z H l vs O->(l.all λy=>kW y&&Kq y x)=true->YX v=true/\vs.all YX=true/\inV v vs=inL x l:=by
 intro l
 induction l with
 | nil=>
  intro _ _ h _;obtain⟨rfl,_⟩:=h;refine⟨?_,rfl,rfl⟩;cases x with
  | non=>obtain⟨rfl,_⟩:=c.non_of;rfl
  | bl b=>obtain⟨rfl,_⟩:=c.bl_of;rfl
  | int b=>obtain⟨rfl,_⟩:=c.int_of;rfl
  | str b=>obtain⟨rfl,_⟩:=c.str_of;rfl
  | _=>cases d
 | cons y l e=>
  intro _ _ h f;obtain⟨u,vs,k,m,rfl,rfl,r1,r2⟩:=h;rw[List.all_cons,M0] at f;obtain⟨g,i,j⟩:=e r2 f.2;have key:YX u=true/\eqV u v=eqF y x:=by
   cases y with
   | non=>
    obtain⟨rfl,_⟩:=r1.non_of;cases x with
    | non=>obtain⟨rfl,_⟩:=c.non_of;exact⟨rfl,rfl⟩
    | bl b=>obtain⟨rfl,_⟩:=c.bl_of;exact⟨rfl,rfl⟩
    | int b=>obtain⟨rfl,_⟩:=c.int_of;exact⟨rfl,rfl⟩
    | str b=>obtain⟨rfl,_⟩:=c.str_of;exact⟨rfl,rfl⟩
    | _=>cases d
   | bl a=>
    obtain⟨rfl,_⟩:=r1.bl_of;cases x with
    | non=>obtain⟨rfl,_⟩:=c.non_of;exact⟨rfl,rfl⟩
    | bl b=>obtain⟨rfl,_⟩:=c.bl_of;exact⟨rfl,rfl⟩
    | str b=>obtain⟨rfl,_⟩:=c.str_of;exact⟨rfl,rfl⟩
    | int b=>exact absurd f.1 (by simp[Kq])
    | _=>cases d
   | int a=>
    obtain⟨rfl,_⟩:=r1.int_of;cases x with
    | non=>obtain⟨rfl,_⟩:=c.non_of;exact⟨rfl,rfl⟩
    | int b=>obtain⟨rfl,_⟩:=c.int_of;exact⟨rfl,rfl⟩
    | str b=>obtain⟨rfl,_⟩:=c.str_of;exact⟨rfl,rfl⟩
    | bl b=>exact absurd f.1 (by simp[Kq])
    | _=>cases d
   | str a=>
    obtain⟨rfl,_⟩:=r1.str_of;cases x with
    | non=>obtain⟨rfl,_⟩:=c.non_of;exact⟨rfl,rfl⟩
    | bl b=>obtain⟨rfl,_⟩:=c.bl_of;exact⟨rfl,rfl⟩
    | int b=>obtain⟨rfl,_⟩:=c.int_of;exact⟨rfl,rfl⟩
    | str b=>
     obtain⟨rfl,_⟩:=c.str_of;refine⟨rfl,?_⟩;rw[Bool.eq_iff_iff];simp[eqF,eqV,jn5]
    | _=>cases d
   | _=>exact absurd f.1 (by simp[kW])
  refine⟨g,by rw[List.all_cons,key.1,i];rfl,?_⟩;show(eqV u v||inV v vs)=(eqF y x||inL x l);rw[key.2,j]
def jpu(neg:Bool):R2:=λx y H Q=>∃ c l,x=.str (S [c])/\y=.str (S l)/\Q (.bl<|if neg then !decide (c∈l) else decide (c∈l)) H
def jjq(K:W4)(neg:Bool):R2:=λx y H Q=>jpu neg x y H Q\/rIn K neg x y H Q
def jk8:OpR X (compareOp .In) (jjq X.K false):=J4 jk9 jcU
def jcY:OpR X (compareOp .NotIn) (jjq X.K true):=J4 jdH K5
def xL(a b):(if a=true then !b else b)=(a != b):=by cases a<;>cases b<;>rfl
def jjH:BO R (jjq R.K neg) (xc neg):=by
 intro Z H x y d v u q r z b g e Q k;cases y with
 | str s=>
  cases x with
  | str t=>
   match t,e,b with
   | [c],e,b=>
    cases e;obtain⟨rfl,_⟩:=b.str_of;obtain⟨rfl,_⟩:=g.str_of;refine .inl ⟨c,s,rfl,rfl,?_⟩;rw[xL];exact k (Go.id z) .bl_mk
   | [],e,b=>cases e
   | _::_::_,e,b=>cases e
  | _=>cases e
 | lst o l=>
  have f:=e;refine oc f λa f=>?_;cases f;unfold jjo at a;rw[M0] at a;obtain⟨p,vs,w,rfl,h,i⟩:=g.lst_of;obtain⟨j,m,n⟩:=i.flat b a.1 a.2;refine .inr ⟨p,vs,rfl,.inl h.sq,j,m,?_⟩;rw[n,xL];exact k (Go.id z) .bl_mk
 | tup l=>
  have f:=e;refine oc f λa f=>?_;cases f;unfold jjo at a;rw[M0] at a;obtain⟨p,vs,rfl,h,i⟩:=g.tup_of;obtain⟨j,m,n⟩:=i.flat b a.1 a.2;refine .inr ⟨p,vs,rfl,.inr h,j,m,?_⟩;rw[n,xL];exact k (Go.id z) .bl_mk
 | _=>cases e
def jd(x y:D):Option D:=match y with
 | .int i=>(match x with
  | .lst _ l=>atI l i
  | .tup l=>atI l i
  | .str s=>bif lim s.length then(atI s i).bind λc=>some (.str [c]) else none
  | _=>none)
 | _=>none
def Reps.atI(r:Reps R Z H l vs O)(e:L2.atI l i=some d):∃ v P,L2.atI vs i=some v/\Rep R Z H d v P:=by
 unfold L2.atI at e ⊢;rw[r.length];cases h:ixN l.length i with
 | none=>rw[h] at e;cases e
 | some j=>
  rw[h] at e;obtain⟨v,A,P,B,a,_,r1,_⟩:=r.at<|e;exact⟨v,P,a,r1⟩
def jnE:BO' R (rIx R.K) jd:=by
 intro Z H x y d v u n q z a j e Q k;cases y with
 | int i=>
  obtain⟨rfl,_⟩:=j.int_of;cases x with
  | lst o l=>
   obtain⟨p,vs,r,rfl,b,f⟩:=a.lst_of;obtain⟨w,P,g,r1⟩:=f.atI e;exact .inl ⟨p,vs,i,w,rfl,rfl,b.sq,g,k r1⟩
  | tup l=>
   obtain⟨p,vs,rfl,b,f⟩:=a.tup_of;obtain⟨w,P,g,r1⟩:=f.atI e;exact .inr<|.inl ⟨p,vs,i,w,rfl,rfl,b,g,k r1⟩
  | str s=>
   obtain⟨rfl,_⟩:=a.str_of;refine oc e λm e=>ob e λc h e=>?_;cases e;refine .inr<|.inr ⟨S s,i,c,rfl,rfl,by rw[YG];exact qP m,by rw[qM];exact h,?_⟩;exact k .str_mk
  | _=>cases e
 | _=>cases e
abbrev OF:=Rh->Option (Option Int)
def PO'(R:RC)(t:TO)(p:OF):Prop:=∀{σ}{ρ}{Z}{H}{O}{i},Zd Z H->Slots R Z H ρ σ O->p ρ=some i ->
 ∀{Q:Option Int->Hp->Prop},(∀{Z'}{H'},Go Z H [] Z' H' []->Q i H')->t σ H Q
@[simp] def oN(ρ:Rh):Option (Option Int):=some none
@[simp] def oS(pa:PF)(ρ:Rh):Option (Option Int):=(pa ρ).bind λd=>(vg d).bind λi=>some<|some i
def jpD:PO' R xK oN:=by
 intro σ ρ Z H O i z s e Q k;cases e;exact k<|Go.id z
def jpE(h:PB R te p):PO' R (jh8 te) (oS p):=by
 intro σ ρ Z H O i z s e Q k;refine ob e λx a e=>ob e λj e2 e=>?_;cases e;cases jE e2;refine h z s a λ{v b c d} g1 r1=>?_;obtain⟨rfl,_⟩:=r1.int_of;exact⟨j,rfl,k g1⟩
def jh2(lo hi:Option Int):D->Option D
 | .str s=>bif lim s.length then some (.str<|yd s lo hi) else none
 | .lst _ l=>bif frzs l then some (.lst true<|yd l lo hi) else none
 | .tup l=>bif frzs l&&decide ((yd l lo hi).length<l.length) then some (.tup<|yd l lo hi) else none
 | _=>none
def jnw(K:W4):V->Option Int->Option Int->Hp->VK->Prop:=λx lo hi H Q=>jo1 x lo hi H Q\/jo7 K x lo hi H Q\/joZ K x lo hi H Q
def jpf:SlR X (jnw X.K):=SlR.or jmK<|SlR.or jij jkQ
@[simp] def pSl(pa:PF)(pl:OF)(ph:OF)(ρ:Rh):Option D:=(pa ρ).bind λx=>(pl ρ).bind λlo=>(ph ρ).bind λhi=>jh2 lo hi x
def Reps.cut(r:Reps R Z H l vs [])(lo hi):Reps R Z H (yd l lo hi) (jjt vs lo hi) []:=by
 unfold yd jjt;rw[r.length];exact(r.drop _).take _
def jny(q:PB R te pa)(r:PO' R tl pl)(u:PO' R th ph):PP R (tSl (jnw R.K) te tl th) (pSl pa pl ph):=by
 intro σ ρ Z H O d z s e Q k;refine ob e λx w e=>ob e λlo e2 e=>ob e λhi e3 e=>(q z s w λ{v y A B} g1 r1=>(r g1.wf.zd (g1.slots z s) e2 λ{C D} g2=>?_));have f:=g1.pair g2;refine u g2.wf.zd (f.slots z s) e3 λ{Z3 E} g3=>?_;have a:=f.pair g3;have j:=(g2.pair g3).rep g1.wf.zd r1;cases x with
 | str t=>
  refine oc e λc e=>?_;cases e;obtain⟨rfl,_⟩:=j.str_of;exact .inl ⟨t,rfl,qP c,k a .str_mk⟩
 | lst o l=>
  refine oc e λc e=>?_;cases e;obtain⟨p,vs,F,rfl,m,i⟩:=j.lst_of;have g:=g3.wf.zd;exact .inr<|.inl ⟨p,vs,rfl,m.sq,λb h=>k ⇑(a.pair<|Go.newO (wf0 g) h) (Rep.lstNew (wf0 g) h<|(i.frozen c).cut lo hi)⟩
 | tup l=>
  refine oc e λc e=>?_;cases e;simp only[M0,decide_eq_true_eq] at c;obtain⟨p,vs,rfl,m,i⟩:=j.tup_of;have g:=g3.wf.zd;refine .inr<|.inr ⟨p,vs,rfl,m,?_,λb h=>k ⇑(a.pair<|Go.newF (wf0 g) h) (Rep.tupNew (wf0 g) h<|(i.frozen c.1).cut lo hi)⟩;rintro⟨w1,w2⟩;have n:=c.2;unfold yd at n;rw[i.length] at w1 w2;rw[w1,w2,List.drop_zero,Nat.sub_zero,List.take_length] at n;exact absurd n<|Nat.lt_irrefl _
 | _=>cases e
def jpm:D->Option D
 | .lst _ l=>some<|.int l.length
 | .tup l=>some<|.int l.length
 | .str s=>bif lim s.length then some (.int s.length) else none
 | _=>none
def qv(l:List D):Option D:=(jed l).bind jpm
def jly:BC R (λxs H Q=>∃ x n,xs=[x]/\jnx R.K x H n/\Q (.int n) H) qv:=by
 intro Z H xs d vs O z r e Q k;refine ob e λx c e=>?_;rw[qd c] at r;obtain⟨v,rfl,r1⟩:=r.one_of;cases x with
 | lst o l=>
  cases e;obtain⟨p,ws,g,rfl,a,b⟩:=r1.lst_of;exact⟨_,_,rfl,.inl ⟨ws,a.sq,rfl⟩,by rw[b.length];exact k (Go.id z) .int_mk⟩
 | tup l=>
  cases e;obtain⟨p,ws,rfl,a,b⟩:=r1.tup_of;exact⟨_,_,rfl,.inr ⟨ws,a,rfl⟩,by rw[b.length];exact k (Go.id z) .int_mk⟩
 | str s=>
  refine oc e λf e=>?_;cases e;obtain⟨rfl,_⟩:=r1.str_of;exact⟨_,_,rfl,⟨by rw[YG];exact qP f,rfl⟩,by rw[YG];exact k (Go.id z) .int_mk⟩
 | _=>cases e
noncomputable def jaR:List D->Option (List Int)
 | []=>some []
 | d::l=>match d with
  | .int i=>((jaR l).bind λr=>some<|i::r)
  | _=>none
def Reps.ints:∀{l}{vs}{O}{ns},Reps R Z H l vs O->jaR l=some ns->vs=ns.map V.int:=by
 intro l
 induction l with
 | nil=>intro vs O ns h e;rw[Reps] at h;cases e;exact h.1
 | cons d l a=>
  intro vs O ns h e;obtain⟨v,vs,c,f,rfl,rfl,r1,r2⟩:=h;cases d with
  | int i=>
   refine ob e λr b e=>?_;cases e;rw[a r2 b,r1.int_of.1];rfl
  | _=>cases e
noncomputable def JJ:List D->Option (List Bool)
 | []=>some []
 | d::l=>match d with
  | .bl i=>((JJ l).bind λr=>some<|i::r)
  | _=>none
def Reps.bools:∀{l}{vs}{O}{ns},Reps R Z H l vs O->JJ l=some ns->vs=ns.map V.bl:=by
 intro l
 induction l with
 | nil=>intro vs O ns h e;rw[Reps] at h;cases e;exact h.1
 | cons d l a=>
  intro vs O ns h e;obtain⟨v,vs,c,f,rfl,rfl,r1,r2⟩:=h;cases d with
  | bl i=>
   refine ob e λr b e=>?_;cases e;rw[a r2 b,r1.bl_of.1];rfl
  | _=>cases e
def jcb(l:List D):Option D:=(jed l).bind λx=>(jgt x).bind λl=>(jaR l).bind λns=>some<|.int ns.sum
def jl3:BC R (λxs H Q=>∃(p:Addr) (ns:List Int),xs=[.ref p]/\SqL R.K H p (ns.map V.int)/\Q (.int ns.sum) H) jcb:=by
 intro Z H xs d vs O z r e Q k;refine ob e λx a e=>ob e λl b e=>ob e λns c e=>?_;cases e;obtain⟨o,rfl⟩:=JO b;rw[qd a] at r;obtain⟨v,rfl,r1⟩:=r.one_of;obtain⟨p,ws,h,rfl,f,g⟩:=r1.lst_of;have:=g.ints c;subst this;exact⟨p,ns,rfl,f.sq,k (Go.id z) .int_mk⟩
def jkd:List D->Option D
 | [.lst _ l]=>(JJ l).bind λns=>some<|.bl<|ns.all λb=>b
 | _=>none
def jmE:BC R (λxs H Q=>∃(p:Addr) (bs:List Bool),xs=[.ref p]/\SqL R.K H p (bs.map V.bl)/\Q (.bl<|bs.all λb=>b) H) jkd:=by
 intro Z H xs d vs O z r e Q k
 match xs,e,r with
 | [.lst o l],e,r=>
  refine ob e λns a e=>?_;cases e;obtain⟨v,rfl,r1⟩:=r.one_of;obtain⟨p,ws,g,rfl,c,f⟩:=r1.lst_of;have:=f.bools a;subst this;exact⟨p,ns,rfl,c.sq,k (Go.id z) .bl_mk⟩
def f2I(g:Int->Int->Int)(l:List D):Option D:=(two1 l).bind λp=>two (λi j=>some<|.int<|g i j) p.1 p.2
def jjL:BC R (λxs H Q=>∃ i j,xs=[.int i,.int j]/\Q (.int<|g i j) H) (f2I g):=by
 intro Z H xs d vs O z r e Q k;refine ob e λp a e=>?_;obtain⟨i,j,e2,e3,e⟩:=two_of e;cases e;rw[two1_of a,e2,e3] at r;obtain⟨v,u,b,c,rfl,_,r1,r2⟩:=r.two_of;obtain⟨rfl,_⟩:=r1.int_of;obtain⟨rfl,_⟩:=r2.int_of;exact⟨i,j,rfl,k (Go.id z) .int_mk⟩
abbrev ji3:List D->Option D:=f2I λi j=>if j>i then j else i
abbrev jae:List D->Option D:=f2I λi j=>if j<i then j else i
def jpJ:D->Option D
 | .lst _ l=>bif frzs l then some (.lst true l) else none
 | .tup l=>bif frzs l then some (.lst true l) else none
 | _=>none
def Vd(l:List D):Option D:=(jed l).bind jpJ
def Q6(l:List D):Option D:=(jed l).bind λx=>(jgt x).bind λl=>bif frzs l then some (.tup l) else none
def jhF:BC R (λxs H Q=>∃ p ys,xs=[.ref p]/\(SqL R.K H p ys\/SqT R.K H p ys)/\∀ l,H l=none->Q (.ref l) (upd H l<|.lst ys)) Vd:=by
 intro Z H xs d vs O z r e Q k;refine ob e λx h e=>?_;rw[qd h] at r;obtain⟨v,rfl,r1⟩:=r.one_of;cases x with
 | lst o l=>
  refine oc e λc e=>?_;cases e;obtain⟨p,ws,i,rfl,f,g⟩:=r1.lst_of;exact⟨p,ws,rfl,.inl f.sq,λb a=>k (Go.newO (wf0 z) a)<|Rep.lstNew (wf0 z) a<|g.frozen c⟩
 | tup l=>
  refine oc e λc e=>?_;cases e;obtain⟨p,ws,rfl,f,g⟩:=r1.tup_of;exact⟨p,ws,rfl,.inr f,λb a=>k (Go.newO (wf0 z) a)<|Rep.lstNew (wf0 z) a<|g.frozen c⟩
 | _=>cases e
def jew:BC R (λxs H Q=>∃ p ys,xs=[.ref p]/\((SqL R.K H p ys/\∀ l,H l=none->Q (.ref l) (upd H l<|.tup ys))\/(SqT R.K H p ys/\Q (.ref p) H))) Q6:=by
 intro Z H xs d vs O z r e Q k;refine ob e λx c e=>ob e λl f e=>oc e λg e=>?_;cases e;obtain⟨o,rfl⟩:=JO f;rw[qd c] at r;obtain⟨v,rfl,r1⟩:=r.one_of;obtain⟨p,ws,j,rfl,h,i⟩:=r1.lst_of;exact⟨p,ws,rfl,.inl ⟨h.sq,λb a=>k (Go.newF (wf0 z) a)<|Rep.tupNew (wf0 z) a<|i.frozen g⟩⟩
noncomputable def tyD:D->Option String
 | .non=>some "NoneType" | .bl _=>some "bool" | .int _=>some "int" | .str _=>some "str" | .tup _=>some "tuple" | .lst _ _=>some "list"
 | .dK true _ _=>some "dict"
 | _=>none
noncomputable def Jt(t T:String):Bool:=t==T||(t=="bool"&&T=="int")
@[simp] def jdM(T:String)(pa:PF)(ρ:Rh):Option D:=(pa ρ).bind λd=>(tyD d).bind λt=>some<|.bl<|Jt t T
def xE(K)  (a:t∈["NoneType","bool","int","str","tuple","list","dict"]) (b:T∈["bool","int","str","tuple","list","dict"]):PySem.W.kitOne K (.type t) (.type T)=some (Jt t T):=by
 simp only[M4,List.not_mem_nil,or_false] at a b;rcases a with rfl | rfl | rfl | rfl | rfl | rfl | rfl<;>rcases b with rfl | rfl | rfl | rfl | rfl | rfl<;>rfl
def Rep.ty(r:Rep R Z H x v O)(e:tyD x=some t):TyQ R.K H v t/\t∈["NoneType","bool","int","str","tuple","list","dict"]:=by
 cases x with
 | non=>cases e;obtain⟨rfl,_⟩:=r.non_of;exact⟨.non,by simp⟩
 | bl b=>cases e;obtain⟨rfl,_⟩:=r.bl_of;exact⟨.bl _,by simp⟩
 | int i=>cases e;obtain⟨rfl,_⟩:=r.int_of;exact⟨.int _,by simp⟩
 | str s=>cases e;obtain⟨rfl,_⟩:=r.str_of;exact⟨.str _,by simp⟩
 | tup l=>cases e;obtain⟨p,ws,rfl,c,d⟩:=r.tup_of;exact⟨.tup c,by simp⟩
 | lst o l=>cases e;obtain⟨p,ws,f,rfl,c,d⟩:=r.lst_of;exact⟨.lst c.sq,by simp⟩
 | dK o g l=>cases o with
  | false=>cases e
  | true=>cases e;rw[Rep] at r;obtain⟨a,vs,f,rfl,_,_,hd,_⟩:=r;exact⟨.dK hd,by simp⟩
 | _=>cases e
def jke(a:T∈["bool","int","str","tuple","list","dict"])  (h:PB R te p):
  PP R (tCB (λxs H Q=>∃ x T t b,xs=[x,.ty T]/\TyQ R.K H x t/\PySem.W.kitOne R.K (.type t) (.type T)=some b/\Q (.bl b) H)<|jD te<|jD (tC<|.ty T) J2) (jdM T p):=by
 intro σ ρ Z H O d z s e Q k;refine ob e λx c e=>ob e λt e2 e=>?_;cases e;refine h z s c λ{v i j l} g1 r1=>?_;obtain⟨f,g⟩:=r1.ty e2;exact⟨v,T,t,Jt t T,rfl,f,xE _ g a,k g1 .bl_mk⟩
noncomputable def jL:Nat->List D->List D
 | _,[]=>[]
 | k,x::l=>.tup [.int k,x]::jL (k+1) l
theorem yH:∀ k l,(jL k l).length=l.length
 | _,[]=>rfl
 | k,x::l=>by rw[jL,M1,M1,yH]
theorem zr:∀ k l i (y:D),(jL k l)[i]?=some y->∃ x,l[i]?=some x/\y=.tup [.int ((k+i:Nat):Int),x]
 | _,[],_,_,e=>by simp[jL] at e
 | k,x::l,0,y,e=>by simp[jL] at e;exact⟨x,rfl,e.symm⟩
 | k,x::l,i+1,y,e=>by
  obtain⟨z,a,e2⟩:=zr (k+1) l i y (by simpa [jL] using e);exact⟨z,by simpa using a,by rw[e2];congr 3;lia⟩
noncomputable def jgg:List D->List D->List D
 | x::l,y::m=>.tup [x,y]::jgg l m
 | _,_=>[]
def jga(l:List D):Option (List D):=(jed l).bind λx=>(jgt x).bind λl=>some<|jL 0<|fzs l
@[simp] def qG(p:PAf)(ρ:Rh):Option (List D):=(p ρ).bind jga
def jfj(z:Zd Z H)(b:H p=none)(r1:Rep R Z H x u [])(r2:Rep R Z H y v []):Rep R (λa=>Z a\/a=p) (upd H p<|.tup [u,v]) (.tup [x,y]) (.ref p) []:=
 Rep.tupNew (wf0 z) b (.cons r1<|.cons r2 .empty)
def jbQ(k:FL R Z H a ws)(rs:Reps R Z H l ws [])(m:L.length=l.length)(o:∀(i:Nat) y,L[i]?=some y->∃ x,l[i]?=some x/\y=.tup [.int<|n+i,x]):jjv R (Itn R.K a n) Z H L:=by
 intro A B d e zd i;have b:=(k.frame d e).sq;have f:=rs.frame d e λa p=>(nomatch p);refine⟨λhi=>⟨ws,b,by rw[f.length,<- m];exact hi⟩,λx r=>?_⟩;obtain⟨y,s,rfl⟩:=o i x r;obtain⟨u,g,v⟩:=f.item s;refine⟨⟨ws,u,b,g⟩,λw C c=>?_⟩;obtain⟨q,t,z,rfl,h,rfl⟩:=c;have j:=z ws b;rw[g] at j;cases j;exact⟨_,Go.newF (wf0 zd) h,jfj zd h .int_mk v⟩
def jfD(h:PPs R ta p):PIt R (ji7 R.K ta) (qG p):=by
 intro σ ρ Z H O i z s e Q k;refine ob e λx c e=>ob e λy e2 e=>ob e λl e3 e=>?_;cases e;obtain⟨o,rfl⟩:=JO e3;cases qd e2;refine h z s c λ{vs d j f} g1 r1=>?_;obtain⟨v,rfl,r2⟩:=r1.one_of;obtain⟨a,ws,m,rfl,g,b,rfl,_⟩:=(r2.freeze (Z':=λa=>d a\/a∈f) (λa z=>.inl z) λa z=>.inr z);exact⟨a,ws,rfl,FL.sq b,k g1.fz<|jbQ b g (yH _ _) ⇑(zr 0 _)⟩
def jfP(h:ixN n i=some j):j<n:=(xU h).2.1
@[simp] def gIx(pm:List Nat)(i:Nat)(pi:PF)(d:D)(ρ:Rh):Option Rh:=(pi ρ).bind λk=>(vg k).bind λk=>(pV i ρ).bind λx=>(Q2 x).bind λl=>(ixN l.length k).bind λj=>some<|ρ.set i<|some<|.lst true<|l.set j d
def jcW(rs:Reps R Z H l vs O)(a:j<l.length)(rd:Rep R Z H d u P):∃ O2,Reps R Z H (l.set j d) (vs.set j u) O2/\∀ q,O2.count q<=O.count q+P.count q:=by
 obtain⟨b,c,e,f,g,rfl,h,put⟩:=rs.at (show l[j]?=some l[j] by simp[a]);exact⟨_,put rd (λ_ z=>z) (λ_ _=>rfl) (λ_ _=>rfl)<|λ_ _=>rfl,λq=>by simp only[U7];lia⟩
def joA(h:PB R te pi):DG R pm (jor (jU i) te ja1) (gIx pm i pi):=by
 intro σ ρ z Z H O P d v w r s e Q k;refine ob e λx c e=>ob e λn e3 e=>ob e λy f e=>ob e λl g e=>ob e λj e2 e=>?_;cases e;cases jE e3;cases Jm g;refine kJ qg w s f rfl qK λa _ vs A b _ m o put=>o<|h w.zd s c λ{u B C D} g1 r1=>?_;obtain⟨rfl,_⟩:=r1.int_of;obtain⟨E,r2,p⟩:=jcW (g1.reps w.zd b) (jfP e2)<|g1.rep w.zd r;obtain⟨F,g3,t⟩:=put qK trivial g1 r2 λq=>by have:=p q;simp;lia
 exact⟨a,vs,n,j,rfl,rfl,g1.at0 m,by rw[b.length];exact e2,k g3 t<|Keep.refl _ _⟩
@[simp] def Q8(i:Nat)(pi:PF)(g:Int->Int->Int)(pe:PF)(ρ:Rh):Option Out:=(pi ρ).bind λk=>(vg k).bind λk=>(pV i ρ).bind λx=>(Q2 x).bind λl=>(ixN l.length k).bind λj=>(l[j]?).bind λy=>(vg y).bind λa=>(pe ρ).bind λz=>(vg z).bind λb=>some<|.nx<|ρ.set i<|some<|.lst true<|l.set j<|.int<|g a b
def je7(hi:PB R ti pi)(m:PB R te pe):DS R pm (jiQ (jU i) ti te (jlc R.K) (ipI g) ja1) (Q8 i pi g pe):=by
 intro σ ρ Z H O o w s e E k;refine ob e λc1 p e=>ob e λn r e=>ob e λf t e=>ob e λl e5 e=>ob e λj e2 e=>ob e λF v e=>ob e λx z e=>ob e λG e3 e=>ob e λy e7 e=>?_;cases e;cases jE r;cases Jm e5;cases jE z;cases jE e7;refine kJ (P0:=[]) qg w s t rfl qK λa _ vs I c _ h A put=>A<|hi w.zd s p λ{u J L M} g1 r1=>?_;obtain⟨rfl,_⟩:=r1.int_of;obtain⟨N,P,d,r2⟩:=c.atI (by unfold L2.atI;rw[e2];exact v);obtain⟨rfl,_⟩:=r2.int_of;refine⟨a,vs,n,.int x,rfl,rfl,SqL.of<|g1.at0 h,d,m g1.wf.zd (g1.slots w.zd s) e3 λ{Q Z3 S T} g3 B=>?_⟩;obtain⟨rfl,_⟩:=B.int_of;have b:=g1.pair g3;obtain⟨U,C,f⟩:=jcW (b.reps w.zd c) (jfP e2)<|Rep.int_mk;obtain⟨V,g4,D⟩:=put qK trivial b C λq=>by have:=f q;simp at this ⊢;lia
 exact⟨x,y,rfl,rfl,a,vs,n,j,rfl,rfl,b.at0 h,by rw[c.length];exact e2,k g4 D<|Keep.refl _ _⟩
end QD
namespace QD
open PySem L2 PySem.Spec PyProof.Rows
section
variable (c:Nat->Addr)(pm:List Nat)(X:Cx)
structure QP(e:Expr)(te:TE)(p:PF):Prop where
 sem:PE X e te
 den:PP ⟨X.K,c⟩ te p
structure QB(e:Expr)(te:TE)(p:PF):Prop where
 sem:PE X e te
 den:PB ⟨X.K,c⟩ te p
structure QPs(es:List Expr)(ta:TA)(p:PAf):Prop where
 sem:PA X es ta
 den:PPs ⟨X.K,c⟩ ta p
structure QBs(es:List Expr)(ta:TA)(p:PAf):Prop where
 sem:PA X es ta
 den:PBs ⟨X.K,c⟩ ta p
 n:∀ ρ ds,p ρ=some ds->ds.length=es.length
structure QT(e:Expr)(tt:TT)(q:PTf):Prop where
 sem:PT X e tt
 den:PTt ⟨X.K,c⟩ tt q
structure QW(e:Expr)(tt:TT)(q:PTf):Prop where
 sem:PW X e tt
 den:PTt ⟨X.K,c⟩ tt q
structure QI(tg e:Expr)(wi:TI)(p:PAf):Prop where
 sem:PI X tg e wi
 den:PIt ⟨X.K,c⟩ wi p
structure QG(tg:Expr)(t:TG)(g:D->Rh->Option Rh):Prop where
 sem:PG X tg t
 den:PGt ⟨X.K,c⟩ pm t g
structure QGs(tg:List Expr)(t:TGs)(g:List D->Rh->Option Rh):Prop where
 sem:PGs X tg t
 den:jjR ⟨X.K,c⟩ pm t g
structure QE(e:Expr)(te:TE)(f:FE):Prop where
 sem:PE X e te
 den:DE ⟨X.K,c⟩ te f
structure QS(st:Stmt)(ts:TS)(f:FS):Prop where
 sem:PS X st ts
 den:DS ⟨X.K,c⟩ pm ts f
structure QSs(st:List Stmt)(ts:TS)(f:FS):Prop where
 sem:PSs X st ts
 den:DS ⟨X.K,c⟩ pm ts f
structure QO(e:Option Expr)(t:TO)(p:OF):Prop where
 sem:PO X e t
 den:PO' ⟨X.K,c⟩ t p
structure QIf(ifs:List Expr)(tc:TT)(q:PTf):Prop where
 sem:PIf X ifs tc
 den:PTt ⟨X.K,c⟩ tc q
end
section
variable {cl:Nat->Addr}{pm:List Nat}{X:Cx}{a b c e o:Expr}{es:List Expr}{ta tb tc te:TE}{pa pb pc pe:PF}{tA tB:TT}{qa qb:PTf}{tr:TA}{pr:PAf}{pos:Pos}
def QP.bb(h:QP cl X e te pe):QB cl X e te pe:=⟨h.sem,PP.b h.den⟩
def QB.f(h:QB cl X e te pe):QP cl X e te (pF pe):=⟨h.sem,PB.f h.den⟩
def QP.d(h:QP cl X e te pe):QE cl X e te (dP pe):=⟨h.sem,PP.d h.den⟩
def jn4(i){x}(b:X.N[i]?=some x:=by rfl)(c:Vis X.env.scope x:=by first | exact Or.inl rfl | exact Or.inr (Or.inl rfl) | exact Or.inr<|Or.inr rfl)(hd:Nd x:=by decide)
  (a:(x==("__classdict__" : Str))=false:=by decide):QB cl X (.Name x pos) (jU i) (pV i):=⟨jgm b c hd a,jmf⟩
def jpw(i){x}(b:X.N[i]?=some x:=by rfl)(c:Vis X.env.scope x:=by first | exact Or.inl rfl | exact Or.inr (Or.inl rfl) | exact Or.inr<|Or.inr rfl)(hd:Nd x:=by decide)
  (a:(x==("__classdict__" : Str))=false:=by decide):QE cl X (.Name x pos) (jU i) (dMv i):=⟨jgm b c hd a,jmz⟩
def jmc{i}{j}:QP cl X (.Constant (.int i) j pos) (tC<|.int i) (pI i):=⟨jkV,jmU λ_ _=>.int_mk⟩
def jpp{i}{j}:QP cl X (.Constant (.bool i) j pos) (tC<|.bl i) (pC<|.bl i):=⟨joa,jmU λ_ _=>.bl_mk⟩
def jnh{j}:QP cl X (.Constant .none j pos) (tC .non) (pC .non):=⟨jlO,jmU λ_ _=>.non_mk⟩
def jnU{x}{j}(l)(h:x=S l):QP cl X (.Constant (.str x) j pos) (tC<|.str x) (pS l):=⟨jkt,by subst h;exact jmU λ_ _=>.str_mk⟩
def jki(c:QB cl X a ta pa)(d:QB cl X b tb pb):QP cl X (.BinOp a .Add b pos) (tOp (jfC X.K) ta tb) (p2 jg pa pb):=⟨xp jg4 c.sem d.sem,KN jmR c.den d.den⟩
def joq(c:QB cl X a ta pa)(d:QB cl X b tb pb):QP cl X (.BinOp a .Sub b pos) (tOp (rI0 λi j=>.int<|i-j) ta tb) (p2 J9 pa pb):=⟨xp jkK c.sem d.sem,KN jlI c.den d.den⟩
def jm8(c:QB cl X a ta pa)(d:QB cl X b tb pb):QP cl X (.BinOp a .Mult b pos) (tOp jgT ta tb) (p2 yi pa pb):=⟨xp jhv c.sem d.sem,KN jkI c.den d.den⟩
def jnj(c:QB cl X a ta pa)(d:QB cl X b tb pb):QP cl X (.BinOp a .FloorDiv b pos) (tOp (rI (λ_ j=>jaM j=true) λi j=>.int<|i/j) ta tb) (p2 YY pa pb):=⟨xp jfr c.sem d.sem,KN jjV c.den d.den⟩
def jot(c:QB cl X a ta pa)(d:QB cl X b tb pb):QP cl X (.BinOp a .Mod b pos) (tOp (rI (λ_ j=>0<j) λi j=>.int<|i%j) ta tb) (p2 JB pa pb):=⟨xp jld c.sem d.sem,KN jl5 c.den d.den⟩
def jnl(c:QB cl X a ta pa)(d:QB cl X b tb pb):QP cl X (.BinOp a .Pow b pos) (tOp (rI jng λi j=>.int<|i ^ j.toNat) ta tb) (p2 Vl pa pb):=⟨xp jl1 c.sem d.sem,KN jk0 c.den d.den⟩
def jnQ(b:QB cl X a ta pa):QP cl X (.UnaryOp .USub a pos) (tUn (rU λi=>.int<|-i) ta) (p1 Ql pa):=⟨job jlJ b.sem,jop jkl b.den⟩
def joK(b:QB cl X a ta pa):QP cl X (.UnaryOp .Not a pos) (jhn ta) (joe pa):=⟨jmJ b.sem,jlh b.den⟩
structure CmpR(cl:Nat->Addr)(X:Cx)(op:CmpOp)(b:Expr)(r:R2)(g:D->D->Option D):Prop where
 o:OpR X (compareOp op) r
 g:BO ⟨X.K,cl⟩ r g
 m:behindInMarks op b=false
def jpk:CmpR cl X .Lt b (rI0 λi j=>.bl<|decide<|i<j) jju:=⟨jnR,jm6,VR _⟩
def jpG:CmpR cl X .LtE b (rI0 λi j=>.bl<|decide<|i<=j) jns:=⟨jnG,jm6,VR _⟩
def jpK:CmpR cl X .Gt b (rI0 λi j=>.bl<|decide<|j<i) Vk:=⟨jnr,jm6,VR _⟩
def jpL:CmpR cl X .GtE b (rI0 λi j=>.bl<|decide<|j<=i) jol:=⟨jni,jm6,VR _⟩
def jpg(a:behindInMarks .In b=false):CmpR cl X .In b (jjq X.K false) (xc false):=⟨jk8,jjH,a⟩
def c_notin(a:behindInMarks .NotIn b=false):CmpR cl X .NotIn b (jjq X.K true) (xc true):=⟨jcY,jjH,a⟩
def jnn{c}{r}{g}(h:CmpR cl X c b r g)(d:QB cl X a ta pa)(e:QB cl X b tb pb):QP cl X (.Compare a [c] [b] pos) (tOp r ta tb) (p2 g pa pb):=⟨jje h.o d.sem e.sem h.m,KN h.g d.den e.den⟩
def jj2{c}{r}{g}(h:CmpR cl X c b r g)(d:QB cl X a ta pa)(e:QB cl X b tb pb):QT cl X (.Compare a [c] [b] pos) (Vo<|tOp r ta tb) (jn<|p2 g pa pb):=⟨jbM h.o d.sem e.sem h.m,jcH<|PP.b<|KN h.g d.den e.den⟩
def jml(b:QB cl X a ta pa)(c:∀ whole,isTrue a X.env whole=(do let v <- whole;standAt a.pos;holding [v] (truthy v)):=by intro _;rfl):QT cl X a (L2.tB ta) (jn pa):=⟨jfI b.sem c,jcH b.den⟩
def jkJ(b:QT cl X a tA qa):QT cl X (.UnaryOp .Not a pos) (jjO tA) (jmW qa):=⟨jfN b.sem,jhQ b.den⟩
def jhq(b:QT cl X a tA qa):QW cl X (.BoolOp .And [a] pos) tA qa:=⟨jhd b.sem,b.den⟩
def jlz(b:QT cl X a tA qa):QW cl X (.BoolOp .Or [a] pos) tA qa:=⟨jlG b.sem,b.den⟩
def jkZ(c:QT cl X a tA qa)(d:QW cl X (.BoolOp .And (b::es) pos) tB qb):QW cl X (.BoolOp .And (a::b::es) pos) (jnA tA tB) (jaS qa qb):=⟨jk6 c.sem d.sem,jkD c.den d.den⟩
def jos(c:QT cl X a tA qa)(d:QW cl X (.BoolOp .Or (b::es) pos) tB qb):QW cl X (.BoolOp .Or (a::b::es) pos) (tOr tA tB) (qOr qa qb):=⟨jnY c.sem d.sem,joF c.den d.den⟩
def QW.t(h:QW cl X a tA qa):QT cl X a tA qa:=⟨PW.pt h.sem,h.den⟩
def jnD{b}(h:QP cl X a ta pa):QP cl X (.BoolOp b [a] pos) ta pa:=⟨jms h.sem,h.den⟩
def jn0(c:QB cl X a ta pa)(d:QP cl X (.BoolOp .And (b::es) pos) tb pb):QP cl X (.BoolOp .And (a::b::es) pos) (jgD ta tb) (jfJ pa pb):=⟨jkc c.sem d.sem,jka c.den d.den⟩
def jpy(c:QB cl X a ta pa)(d:QP cl X (.BoolOp .Or (b::es) pos) tb pb):QP cl X (.BoolOp .Or (a::b::es) pos) (jod ta tb) (pOr pa pb):=⟨jok c.sem d.sem,jnF c.den d.den⟩
def jpv(d:QT cl X c tA qa)(e:QP cl X a ta pa)(f:QP cl X b tb pb):QP cl X (.IfExp c a b pos) (tIf tA ta tb) (pIf qa pa pb):=⟨jd7 d.sem e.sem f.sem,jnB d.den e.den f.den⟩
def jkM:QPs cl X [] J2 pN:=⟨vF,pps_nil⟩
def jiv(a:QP cl X e te pe)(b:QPs cl X es tr pr)(c:SEq X e es:=by rfl):QPs cl X (e::es) (jD te tr) (ja pe pr):=⟨jC a.sem b.sem c,jeH a.den b.den⟩
def jmo:QBs cl X [] J2 pN:=⟨vF,jg1,λρ a e=>by cases e;rfl⟩
def ji1(b:QB cl X e te pe)(a:QBs cl X es tr pr)(c:SEq X e es:=by rfl):QBs cl X (e::es) (jD te tr) (ja pe pr):=
 ⟨jC b.sem a.sem c,jeU b.den a.den,λρ f h=>by
  refine ob h λx g h=>ob h λd e2 h=>?_;cases h;rw[M1,M1,a.n ρ d e2]⟩
def joo{a}(h:QPs cl X es tr pr):QP cl X (.Tuple es a pos) (zw tr) (yk pr):=⟨Ju h.sem,jlp h.den⟩
def jnO(h:QPs cl X es tr pr):QP cl X (.List es pos) (jnL tr) (JK pr):=⟨jl4 h.sem,jj9 h.den⟩
def joW(c:QB cl X a ta pa)(d:QB cl X b tb pb)(e:zX b:=by exact λ_ _=>rfl):QB cl X (.Subscript a b pos) (tOp (rIx X.K) ta tb) (p2 jd pa pb):=⟨joG jjY c.sem d.sem e,jn9 jnE c.den d.den⟩
def jjm:QO cl X none xK oN:=⟨jhS,jpD⟩
def jgH(h:QB cl X e te pe):QO cl X (some e) (jh8 te) (oS pe):=⟨jgZ h.sem,jpE h.den⟩
def jpb{lo hi}{tl th}{pl c}{b}(d:QB cl X a ta pa)(e:QO cl X lo tl pl)(f:QO cl X hi th c):QP cl X (.Subscript a (.Slice lo hi none b) pos) (tSl (jnw X.K) ta tl th) (pSl pa pl c):=
 ⟨jeP jpf d.sem e.sem f.sem,jny d.den e.den f.den⟩
def OkF(P:Program)(w:World)(K:W4)(mg:W6)(x:Str)(st:Stmt)(k:Nat)(ps:List Str)(sp:Sp):Prop:=∃ f fd,FnFact K mg x x st f fd ps/\∀ base,FnOk P w K mg base CX0 k f fd ps sp
def jgr{k n}{ps}{m}{x}{st}{p}(O:OkF X.prog X.w X.K X.mg x st k ps<|spP ⟨X.K,cl⟩ m n)(d:Room k X.A)
  (a:QBs cl X (e::es) tr pr) (f:(e::es).length=n:=by rfl) (g:Gl X x:=by rfl) (b:Nd x:=by decide)
  (i:SEq X e es:=by rfl) (c:BkE X pos es:=by rfl):QP cl X (.Call (.Name x p) (e::es) [] pos) (KH (spP ⟨X.K,cl⟩ m n) [] E0 tr) (jl m pr):=by
 obtain⟨_,_,F,G⟩:=O;exact⟨jgA F (G _) d a.sem g b i c,ji8 a.den λρ j h=>(a.n ρ j h).trans f⟩
def YH{x}{p}{id}{r}{g}(d:km X (.builtin id) r)(f:BC ⟨X.K,cl⟩ r g)(h:X.mg x=none)(i:bootBuiltins x=some (.builtin id))(c:QBs cl X (e::es) tr pr)(j:Gl X x:=by rfl)
  (k:x≠"__name__":=by decide) (a:Nd x:=by decide) (l:SEq X e es:=by rfl) (b:BkE X pos es:=by rfl):
  QP cl X (.Call (.Name x p) (e::es) [] pos) (tCB r tr) (pCB g pr):=⟨Yh d j h i c.sem k a l b,jil f c.den⟩
def VX{x}{p}{T}{r}{g}(d:km X (.type T) r)(f:BC ⟨X.K,cl⟩ r g)(h:X.mg x=none)(i:bootBuiltins x=some (.type T))(c:QBs cl X (e::es) tr pr)(j:Gl X x:=by rfl)
  (k:x≠"__name__":=by decide) (a:Nd x:=by decide) (l:SEq X e es:=by rfl) (b:BkE X pos es:=by rfl):
  QP cl X (.Call (.Name x p) (e::es) [] pos) (tCB r tr) (pCB g pr):=⟨QZ d j h i c.sem k a l b,jil f c.den⟩
def jnf(b:X.mg "len" = none){p}(c:QBs cl X [e] tr pr)(d:Gl X "len":=by rfl)(f:starEach [e] X.env=(false,eval e X.env)::starEach [] X.env:=by rfl)(a:(backTo pos<|starEach [] X.env).any (·.1)=false:=by rfl):
  QP cl X (.Call (.Name "len" p) [e] [] pos) (tCB (λxs H Q=>∃ x n,xs=[x]/\jnx X.K x H n/\Q (.int n) H) tr) (pCB qv pr):=YH jeO jly b PySem.boot_len c d (by decide) (by decide) f a
def jcp:bootBuiltins "sum" = some (.builtin "sum"):=by decide +kernel
def jaZ:bootBuiltins "all" = some (.builtin "all"):=by decide +kernel
def jcF:bootBuiltins "max" = some (.builtin "max"):=by decide +kernel
def jbU:bootBuiltins "min" = some (.builtin "min"):=by decide +kernel
def kI:bootBuiltins "isinstance" = some (.builtin "isinstance"):=by decide +kernel
def QF:bootBuiltins "int" = some (.type "int"):=by decide +kernel
def jbz:bootBuiltins "str" = some (.type "str"):=by decide +kernel
def JT:bootBuiltins "list" = some (.type "list"):=by decide +kernel
def xM:bootBuiltins "tuple" = some (.type "tuple"):=by decide +kernel
def jaF:bootBuiltins "bool" = some (.type "bool"):=by decide +kernel
def jaD:bootBuiltins "dict" = some (.type "dict"):=by decide +kernel
def jdY{T}{x}{p p1}(j:T∈["bool","int","str","tuple","list","dict"])(k:X.mg "isinstance" = none)(c:X.mg x=none)(d:bootBuiltins x=some (.type T))(h:QB cl X a ta pa)(l:Gl X "isinstance":=by rfl)(e:Gl X x:=by rfl)
  (m:x≠"__name__":=by decide) (f:Nd x:=by decide) (i:starEach [a,.Name x p1] X.env=(false,eval a X.env)::starEach [.Name x p1] X.env:=by rfl) (g:(backTo pos<|starEach [.Name x p1] X.env).any (·.1)=false:=by rfl)
  (h1:starEach [.Name x p1] X.env=(false,eval (.Name x p1) X.env)::starEach [] X.env:=by rfl):
  QP cl X (.Call (.Name "isinstance" p) [a,.Name x p1] [] pos) (tCB (λxs H Q=>∃ x T t b,xs=[x,.ty T]/\TyQ X.K H x t/\PySem.W.kitOne X.K (.type t) (.type T)=some b/\Q (.bl b) H)<|jD ta<|jD (tC<|.ty T) J2) (jdM T pa):=
 ⟨Yh Qg l k kI (jC h.sem (jC (xm e c d rfl m f) vF h1) i) (by decide) (by decide) i g,jke j h.den⟩
variable {tg iter elt:Expr}{ifs:List Expr}{wi:TI}{pi:PAf}{t:TG}{g:D->Rh->Option Rh}
def jle(h:QP cl X e te pe):QI cl X tg e (jkA X.K te) (pIt pe):=⟨jgf h.sem,jof h.den⟩
def jiR{p}(b:X.mg "range" = none)(h:QBs cl X [a] tr pr)(c:Gl X "range":=by rfl)(d:starEach [a] X.env=[(false,eval a X.env)]:=by rfl):QI cl X tg (.Call (.Name "range" p) [a] [] pos) (jit tr) (Kz pr):=⟨jbn c b h.sem d,jhY h.den⟩
def jiL{elts}{n}{tpos p}(b:X.mg "enumerate" = none)(h:QPs cl X [a] tr pr)(c:Gl X "enumerate":=by rfl)(d:starEach [a] X.env=[(false,eval a X.env)]:=by rfl):QI cl X (.Tuple elts n tpos) (.Call (.Name "enumerate" p) [a] [] pos) (ji7 X.K tr) (qG pr):=⟨jhy c b h.sem d,jfD h.den⟩
def jhL{i}{x}(a:X.N.Nodup)(hi:X.N[i]?=some x:=by rfl)(b:Loc X.env.scope x:=by first | exact Or.inl rfl | exact Or.inr rfl)(c:X.fn x=true\/X.env.scope.names.lookup x=some .local:=by first | exact .inl rfl | exact .inr rfl):
  QG cl pm X (.Name x pos) (vy i) (jc pm i):=⟨jc9 a hi b c,jfg⟩
def jgQ:QGs cl pm X [] jdQ gN:=⟨jic,jfz⟩
def jdR{ts}{a}(h1:QG cl pm X e t g)(h2:QGs cl pm X es ts a)(b:(assignEach (e::es) X.env).map (·.2)=assign e X.env::(assignEach es X.env).map (·.2):=by rfl):QGs cl pm X (e::es) (kZ t ts) (gC g a):=⟨jfn h1.sem h2.sem b,jdC h1.den h2.den⟩
def jgh{ts}{b}{k n}(c:X.calm=true)(h:QGs cl pm X es ts b)(d:(assignEach es X.env).length=n:=by rfl)(a:(assignEach es X.env).findIdx? (·.1)=none:=by rfl):QG cl pm X (.Tuple es k pos) (jbv X.K n ts) (gT n b):=⟨jkW c h.sem d a,jh1 h.den⟩
def jep:QIf cl X [] (λ_ H Q=>Q true H) qT:=⟨.inl ⟨rfl,rfl⟩,jjd⟩
def jfl(h:QT cl X c tA qa):QIf cl X [c] tA qa:=⟨.inr ⟨c,rfl,h.sem⟩,h.den⟩
variable {st:Stmt}{rest:List Stmt}{ts tu:TS}{f fe:FS}{fE:FE}
def jh4:QSs cl pm X [] jh6 jN:=⟨jiX,jji⟩
def ji0(h:QS cl pm X st ts f):QSs cl pm X [st] ts f:=⟨jhM h.sem,h.den⟩
def jeM(h:QS cl pm X st ts f)(k:QSs cl pm X rest tu fe):QSs cl pm X (st::rest) (jnC ts tu) (jh f fe):=⟨jeh h.sem k.sem,jku h.den k.den⟩
def zF:QS cl pm X (.Continue pos) jhB jhe:=⟨xP,jhW⟩
def jgO(h:QE cl X e te fE)(a:swapsWith e none pos.line X.env=pure false:=by rfl):QS cl pm X (.Expr e pos) (JY te) (KM fE):=⟨YD h.sem a,jgX h.den⟩
def jlo(h:QE cl X e te fE):QS cl pm X (.Return (some e) pos) (jnK te) (yp fE):=⟨jjS h.sem,jkP h.den⟩
def jnJ{x y}(a:QT cl X c tA qa)(b:QSs cl pm X x ts f)(e:QSs cl pm X y tu fe):QS cl pm X (.If c x y pos) (jm2 tA ts tu) (sIf (dPT qa) f fe):=⟨jkx a.sem b.sem e.sem,jlu (PTt.d a.den) b.den e.den⟩
def jkU{i}{x}{pos'}(a:X.N.Nodup)(h:QE cl X e te fE)(hi:X.N[i]?=some x:=by rfl)(b:Loc X.env.scope x:=by first | exact Or.inl rfl | exact Or.inr rfl)(c:swapsWith e (some<|.Name x pos') pos.line X.env=pure false:=by rfl)
  (d:X.fn x=true\/X.env.scope.names.lookup x=some .local:=by first | exact .inl rfl | exact .inr rfl):QS cl pm X (.Assign [.Name x pos'] e pos) (jfM te<|vy i) (jB fE<|jc pm i):=⟨jmh a hi b h.sem c d,uk h.den KP⟩
def jjN{tg}{g}{R}(h:PGt R pm tg g):DG R pm tg (λd ρ=>bif frz d then g d ρ else none):=by
 intro σ ρ c Z H O P d v w r s e Q k;refine oc e λa e=>?_;cases r.nil a;exact h r s e λsub nd b kp=>k ((Go.refl w).drop sub (nd w.nd)) b kp
@[simp] def jdv(fe:FE)(G:D->Rh->Option Rh)(ρ:Rh):Option Out:=(fe ρ).bind λx=>(bif frz x.1 then G x.1 x.2 else none).bind λr=>some<|.nx r
def jiH{a}(h:QE cl X e te fE)(b:QG cl pm X a t g)(c:swapsWithSole [a] e pos.line X.env=pure false:=by rfl)(d:swappedStores [a] e X.env=pure none:=by rfl)
  (h1:(assignEach [a] X.env).map (·.2)=[assign a X.env]:=by rfl):QS cl pm X (.Assign [a] e pos) (jfM te t) (jdv fE g):=⟨jfS h.sem b.sem c d h1,uk h.den<|jjN b.den⟩
def jey{i}{x}{a c}(d:QB cl X (.Name x a) (jU i)<|pV i)(hi:QB cl X b tb pb)(h:QE cl X e te fE)
  (f:∀ v,assign (.Subscript (.Name x a) b c) X.env v=(do
   let ov <- holding [v] (eval (.Name x a) X.env)
   let iv <- holding [v,ov] (eval b X.env)
   standAt c
   holding [v,ov,iv] (setItem ov iv v)
   release [v,ov,iv] []):=by intro _;rfl)
  (g:swapsWithSole [.Subscript (.Name x a) b c] e pos.line X.env=pure false:=by rfl) (j:swappedStores [.Subscript (.Name x a) b c] e X.env=pure none:=by rfl)
  (h1:(assignEach [.Subscript (.Name x a) b c] X.env).map (·.2)=[assign (.Subscript (.Name x a) b c) X.env]:=by rfl):
  QS cl pm X (.Assign [.Subscript (.Name x a) b c] e pos) (jfM te<|jor (jU i) tb ja1) (jB fE<|gIx pm i pb):=⟨jfS h.sem (jlW d.sem hi.sem uu f) g j h1,uk h.den<|joA hi.den⟩
def jeK:joO X (jlc X.K):=by
 intro a s σ H o i A B Q I r1 r2 h;obtain⟨p,C,k,z,rfl,rfl,m,n,q⟩:=h;cases r1;obtain⟨t,rfl⟩:=r2;obtain⟨d,r,pl,D⟩:=I.list m;obtain⟨j,c,u,E,v,x⟩:=V5 n;obtain⟨w,g,e⟩:=r.get u;have y:=r.length;have F:=K6;have b:EP X a σ Q w s:=⟨z,H,I,e,q⟩;by_cases l:0<=k
 ·have f:k.toNat=j:=by
   rw[seqIndex_of l x] at c;exact X3 c
  exact wpAny_getItem_list pl.isList l ∅ (by rw[f];simpa using g) b
 ·have f:(k+d.toArray.size).toNat=j:=by
   rw[seqIndex_neg ∅ v] at c;rw[N2,<- y];exact X3 c
  exact wpAny_getItem_list_neg pl.isList ∅ (by rw[N2]<;>lia) ∅ (by rw[f];simpa using g) b
def jeT{i}{x}{a c}{f}{d}(g:QB cl X (.Name x a) (jU i)<|pV i)(hi:QB cl X b tb pb)(j:PIp X f<|ipI d)(h:QB cl X e te pe)
  (k:∀ ov iv new,augStore b ov iv new=(do holding [new,ov,iv] (setItem ov iv new);release [new,ov,iv] [];pure .next):=by intros;rfl):QS cl pm X (.AugAssign (.Subscript (.Name x a) b c) f e pos) (jiQ (jU i) tb te (jlc X.K) (ipI d) ja1) (Q8 i pb d pe):=
 ⟨ji2 g.sem hi.sem jeK h.sem j uu k,je7 hi.den h.den⟩
@[simp] def jfd(pm:List Nat)(i:Nat)(g:Int->Int->Int)(pa:PF)(ρ:Rh):Option Out:=(pV i ρ).bind λx=>(vg x).bind λa=>(pa ρ).bind λy=>(vg y).bind λb=>(jc pm i (.int<|g a b) ρ).bind λr=>some<|.nx r
def jia{R}{i}{b}{p}(h:PB R te p):DS R pm (jno i te<|ipI b) (jfd pm i b p):=by
 intro σ ρ Z H O o w s e m k;refine ob e λc1 a e=>ob e λx e3 e=>ob e λn d e=>ob e λy f e=>ob e λq e2 e=>?_;cases e;cases jE e3;cases jE f;have a:=qV a;obtain⟨A,P,B,rfl,g,_,_⟩:=s.put (L9.mp a).1;obtain⟨v,j,r⟩:=g _ a;obtain⟨rfl,_⟩:=r.int_of;refine⟨_,j,h w.zd s d λ{u t z C} g1 r1=>?_⟩;obtain⟨rfl,_⟩:=r1.int_of;have c:=g1.widen w;exact⟨x,y,rfl,rfl,KP c.wf (Rep.int_mk) (g1.slots w.zd s) e2 λg2 s2 l=>k (c.trans g2) s2 l⟩
def jiw{i}{x}{pos'}{b}{a}(c:X.N.Nodup)(d:PIp X b<|ipI a)(h:QB cl X e te pe)(hi:X.N[i]?=some x:=by rfl)(f:Loc X.env.scope x:=by first | exact Or.inl rfl | exact Or.inr rfl)
  (g:X.fn x=true\/X.env.scope.names.lookup x=some .local:=by first | exact .inl rfl | exact .inr rfl):QS cl pm X (.AugAssign (.Name x pos') b e pos) (jno i te<|ipI a) (jfd pm i a pe):=⟨jkn c hi f h.sem d g,jia h.den⟩
def jjF{i}{x}{a apos cpos}(j:QB cl X (.Name x a) (jU i)<|pV i)(h:QP cl X e te pe)(c:attributeBase (.Name x a) "append" X.env (eval (.Name x a) X.env)=eval (.Name x a) X.env:=by rfl)
  (f:((backTo cpos<|starEach [e] X.env).all (λx=>!x.1)&&(backToKw cpos<|keywordEach [] X.env).all (λx=>x.1.isSome)
   && decide ([e].length+([]:List Keyword).length+(if([]:List Keyword).isEmpty then 0 else 1)<30))=true:=by rfl)
  (d:(apos.endLine==cpos.line)=true:=by rfl) (g:starEach [e] X.env=(false,eval e X.env)::starEach [] X.env:=by rfl) (b:(backTo cpos<|starEach [] X.env).any (·.1)=false:=by rfl)
  (hsw:swapsWith (.Call (.Attribute (.Name x a) "append" apos) [e] [] cpos) none pos.line X.env=pure false:=by rfl):
  QS cl pm X (.Expr (.Call (.Attribute (.Name x a) "append" apos) [e] [] cpos) pos) (JY<|tBM X.K "list" Yv (jU i)<|jD te J2) (K2 i pe):=
 ⟨YD (jfx PySem.F.plainAttrs_list PySem.F.slot_list_append PySem.F.type_list_append YB j.sem (jC h.sem vF g) c f d g b) hsw,jla h.den⟩
def jl9{body}(c:PassesOwn (model X.prog X.w) X.A X.env X.xe)(d:X.calm=true)(hi:QI cl X tg iter wi pi)(a:QG cl pm X tg t g)(b:QSs cl pm X body ts f)(e:∀ x,foldedSetIterable iter X.env x=pure x:=by intro _;rfl):QS cl pm X (.For tg iter body [] pos) (jn1 wi t ts) (qF pi g f):=
 ⟨jlg c d hi.sem a.sem b.sem e,jlm hi.den a.den b.den⟩
def QS.fz(i)(h:QS cl pm X st ts f):QS cl pm X st ts (sFz i f):=⟨h.sem,jn2 h.den⟩
def jou{P}{w}{K}{mg}{base}{x qual}{a}{fa}{fd}{N ps}{k n}{fs}(F:Fun K x qual a fa fd)(c:FnScope N ps<|jt a)(d:ps.length=n)
  (b:∀ cdv A outer s H E,Room k (A.deeper<|envOfC qual (jt a) ↥s fa cdv) ->
   ∃ ts,QSs cl [] (jeS CX0 P w K mg base N qual (jt a) fa cdv A outer s H E).nox (va a) ts fs):FnOk P w K mg base CX0 (k+1) fa fd ps (spP ⟨K,cl⟩ (fnP N.length fs) n):=by
 refine F.ok c (λvs H Q E h=>by rw[jiM h,d]) λcdv A outer s H vs Q E e h=>?_;obtain⟨ts,q⟩:=b cdv A outer s H E e;exact⟨ts,q.sem,jg9 q.den h⟩
end
mutual
noncomputable def ja8:D->PyData
 | .non=>.none | .bl b=>.bool b | .int i=>.int i | .str s=>.str<|S s
 | .tup l=>.tuple<|qc l
 | .lst _ l=>.list<|qc l
 | .dK _ _ _=>.none | .dT _ _ _=>.none | .ins _ _ _ _=>.none | .dead=>.none | .tok _=>.none | .kt _=>.none | .exc _ _=>.none
noncomputable def qc:List D->List PyData
 | []=>[]
 | d::l=>ja8 d::qc l
end
mutual
noncomputable def okE:Nat->D->Bool
 | _,.non=>true | _,.bl _=>true | _,.int _=>true
 | _,.str s=>s.all λc=>decide<|c<1114112
 | n+1,.tup l=>ve n l
 | n+1,.lst _ l=>ve n l
 | _,_=>false
noncomputable def ve:Nat->List D->Bool
 | _,[]=>true
 | n,d::l=>okE n d&&ve n l
end
mutual
noncomputable def eqD:D->D->Bool
 | .non,y=>match y with | .non=>true | _=>false
 | .bl a,y=>match y with | .bl b=>a==b | .int j=>(if a then 1 else 0)==j | _=>false
 | .int i,y=>match y with | .bl b=>i==(if b then 1 else 0) | .int j=>i==j | _=>false
 | .str a,y=>match y with | .str b=>a==b | _=>false
 | .tup l,y=>match y with | .tup m=>Qz l m | _=>false
 | .lst _ l,y=>match y with | .lst _ m=>Qz l m | _=>false
 | _,_=>false
noncomputable def Qz:List D->List D->Bool
 | [],[]=>true
 | x::l,y::m=>eqD x y&&Qz l m
 | _,_=>false
end
noncomputable def jpe:D->Bool
 | .non=>true | .bl _=>true | .int _=>true | .str _=>true | .tup _=>true | .lst _ _=>true | _=>false
def yn{n x}{p:Prop}(h:okE n x=true)(k:jpe x=false):p:=by
 cases x<;>cases k<;>cases n<;>cases h
theorem KB:∀ n l,ve n l=l.all (okE n)
 | _,[]=>rfl
 | n,d::l=>by rw[ve,KB n l];rfl
mutual
theorem jcz:∀(n:Nat) (x y:D),okE n x=true->okE n y=true->PyData.eqv (ja8 x) (ja8 y)=eqD x y
 | n,.non,y,hx,hy=>by cases y<;>first | rfl | (cases n<;>simp_all [okE])
 | n,.bl a,y,hx,hy=>by cases y<;>first | rfl | (cases n<;>simp_all [okE])
 | n,.int a,y,hx,hy=>by cases y<;>first | rfl | (cases n<;>simp_all [okE])
 | n,.str a,y,hx,hy=>by
  cases y with
  | str b=>
   show(S a==S b)=(a==b);rw[Bool.eq_iff_iff];simp[jn5]
  | _=>first | rfl | (cases n<;>simp_all [okE])
 | 0,.tup l,y,hx,hy=>by simp[okE] at hx
 | n+1,.tup l,y,hx,hy=>by
  cases y with
  | tup m=>show PyData.eqvAll (qc l) (qc m)=Qz l m;exact xD n l m (by simpa [okE] using hx) (by simpa [okE] using hy)
  | _=>first | rfl | (simp_all [okE])
 | 0,.lst o l,y,hx,hy=>by simp[okE] at hx
 | n+1,.lst o l,y,hx,hy=>by
  cases y with
  | lst o' m=>show PyData.eqvAll (qc l) (qc m)=Qz l m;exact xD n l m (by simpa [okE] using hx) (by simpa [okE] using hy)
  | _=>first | rfl | (simp_all [okE])
 | n,.dK _ _ _,y,hx,hy=>yn hx rfl
 | n,.dT _ _ _,y,hx,hy=>yn hx rfl
 | n,.ins _ _ _ _,y,hx,hy=>yn hx rfl
 | n,.dead,y,hx,hy=>yn hx rfl
 | n,.tok _,y,hx,hy=>yn hx rfl
 | n,.kt _,y,hx,hy=>yn hx rfl
 | n,.exc _ _,y,hx,hy=>yn hx rfl
theorem xD:∀(n:Nat) (l m:List D),ve n l=true->ve n m=true->PyData.eqvAll (qc l) (qc m)=Qz l m
 | n,[],[],_,_=>rfl
 | n,[],_::_,_,_=>rfl
 | n,_::_,[],_,_=>rfl
 | n,x::l,y::m,hx,hy=>by
  rw[ve,M0] at hx hy;show(PyData.eqv (ja8 x) (ja8 y)&&PyData.eqvAll (qc l) (qc m))=(eqD x y&&Qz l m);rw[jcz n x y hx.1 hy.1,xD n l m hx.2 hy.2]
end
mutual
theorem wz:∀(n:Nat) (x:D),okE n x=true->(ja8 x).canLay0=true/\(ja8 x).depth<=n
 | n,.non,_=>⟨rfl,U4 _⟩
 | n,.bl _,_=>⟨rfl,U4 _⟩
 | n,.int _,_=>⟨rfl,U4 _⟩
 | n,.str s,h=>by
  refine⟨?_,U4 _⟩;have h:(s.all λc=>decide<|c<1114112)=true:=by cases n<;>simpa [okE] using h
  show PyData.strOk (S s)=true;unfold PyData.strOk S;rw[Array.all_eq_true'];intro c hc;rw[List.all_eq_true] at h;exact h c ⇑hc
 | 0,.tup l,h=>by simp[okE] at h
 | n+1,.tup l,h=>by
  obtain⟨h1,h2⟩:=YT n l (by simpa [okE] using h);exact⟨h1,Nat.succ_le_succ h2⟩
 | 0,.lst o l,h=>by simp[okE] at h
 | n+1,.lst o l,h=>by
  obtain⟨h1,h2⟩:=YT n l (by simpa [okE] using h);exact⟨h1,Nat.succ_le_succ h2⟩
 | n,.dK _ _ _,hx=>yn hx rfl
 | n,.dT _ _ _,hx=>yn hx rfl
 | n,.ins _ _ _ _,hx=>yn hx rfl
 | n,.dead,hx=>yn hx rfl
 | n,.tok _,hx=>yn hx rfl
 | n,.kt _,hx=>yn hx rfl
 | n,.exc _ _,hx=>yn hx rfl
theorem YT:∀(n:Nat) (l:List D),ve n l=true->PyData.canLayAll0 (qc l)=true/\PyData.depthAll (qc l)<=n
 | n,[],_=>⟨rfl,U4 _⟩
 | n,x::l,h=>by
  rw[ve,M0] at h;obtain⟨h1,h2⟩:=wz n x h.1;obtain⟨h3,h4⟩:=YT n l h.2;rw[qc];refine⟨?_,?_⟩
  ·show((ja8 x).canLay0&&PyData.canLayAll0 (qc l))=true;rw[h1,h3];rfl
  ·show max (ja8 x).depth (PyData.depthAll<|qc l)<=n;exact Nat.max_le.mpr ⟨h2,h4⟩
end
mutual
theorem Rep.reads(I:Inv X pins σ H s):∀(n:Nat) {x:D}{v:V}{u:Value}{O:W5},Rep ⟨X.K,cl⟩ Z H x v O->RelV v u->okE n x=true->∃ as,Reads s.heap u (ja8 x) as
 | n,.non,_,_,_,r,q,_=>by obtain⟨rfl,_⟩:=r.non_of;cases q;exact⟨_,.none⟩
 | n,.bl b,_,_,_,r,q,_=>by obtain⟨rfl,_⟩:=r.bl_of;cases q;exact⟨_,.bool b⟩
 | n,.int i,_,_,_,r,q,_=>by obtain⟨rfl,_⟩:=r.int_of;obtain⟨t,rfl⟩:=q;exact⟨_,.int i t⟩
 | n,.str w,_,_,_,r,q,_=>by obtain⟨rfl,_⟩:=r.str_of;obtain⟨t,rfl⟩:=q;exact⟨_,.str _ t⟩
 | 0,.tup l,_,_,_,r,q,h=>by simp[okE] at h
 | n+1,.tup l,_,_,_,r,q,h=>by
  obtain⟨a,vs,rfl,hx,rs⟩:=r.tup_of;cases q;obtain⟨its,rv,⟨o,h1,h2,k,h3⟩,_⟩:=I.tuple hx;obtain⟨as,hr⟩:=Reps.reads I n rs rv (by simpa [okE] using h);exact⟨_,reads_tuple_at h1 h2 h3 ⇑hr⟩
 | 0,.lst o l,_,_,_,r,q,h=>by simp[okE] at h
 | n+1,.lst o l,_,_,_,r,q,h=>by
  obtain⟨a,vs,O',rfl,hx,rs⟩:=r.lst_of;cases q;obtain⟨its,rv,⟨o,k,h1,h2,_,h3⟩,_⟩:=I.list hx.sq;obtain⟨as,hr⟩:=Reps.reads I n rs rv (by simpa [okE] using h);exact⟨_,reads_list_at h1 h2 h3 ⇑hr⟩
 | n,.dK _ _ _,_,_,_,_,_,hx=>yn hx rfl
 | n,.dT _ _ _,_,_,_,_,_,hx=>yn hx rfl
 | n,.ins _ _ _ _,_,_,_,_,_,hx=>yn hx rfl
 | n,.dead,_,_,_,_,_,hx=>yn hx rfl
 | n,.tok _,_,_,_,_,_,hx=>yn hx rfl
 | n,.kt _,_,_,_,_,_,hx=>yn hx rfl
 | n,.exc _ _,_,_,_,_,_,hx=>yn hx rfl
theorem Reps.reads(I:Inv X pins σ H s):∀(n:Nat) {l:List D}{vs:List V}{us:List Value}{O:W5},Reps ⟨X.K,cl⟩ Z H l vs O->Vals vs us->ve n l=true->∃ as,ReadsAll s.heap us (qc l) as
 | n,[],_,_,_,r,q,_=>by rw[Reps] at r;obtain⟨rfl,_⟩:=r;cases q;exact⟨_,.nil⟩
 | n,x::l,_,_,_,r,q,h=>by
  rw[Reps] at r;obtain⟨v,vs,O1,O2,rfl,rfl,r1,r2⟩:=r;rw[ve,M0] at h;cases q with
  | cons q1 q2=>
   obtain⟨as,h1⟩:=Rep.reads I n r1 q1 h.1;obtain⟨bs,h2⟩:=Reps.reads I n r2 q2 h.2;exact⟨_,.cons h1 h2⟩
end
def jix(R:RC)(neg:Bool):R2:=λx y H Q=>∃ Z d e O P,Rep R Z H d x O/\Rep R Z H e y P/\okE 20 d=true/\okE 20 e=true/\Q (.bl<|neg != eqD d e) H
def jmY(h:okE 20 x=true):SeqAt.shaped (ja8 x)=true:=by
 obtain⟨a,b⟩:=wz 20 x h;unfold SeqAt.shaped;rw[a,Bool.true_and];exact X0<|N6 b (by decide)
def jj3(f:X.A.units+64<cLine):OpR X (compareOp .Eq) (jix ⟨X.K,cl⟩ false):=by
 intro c s σ H x y v u Q I g i h;obtain⟨Z,d,e,O,P,r1,r2,a,b,q⟩:=h;obtain⟨l,j⟩:=r1.reads I 20 g a;obtain⟨bs,k⟩:=r2.reads I 20 i b;refine eq_dataH j k (jmY a) (jmY b) f ?_;rw[jcz 20 d e a b];exact⟨.bl _,H,I,rfl,by simpa using q⟩
def jmG(f:X.A.units+64<cLine):OpR X (compareOp .NotEq) (jix ⟨X.K,cl⟩ true):=by
 intro c s σ H x y v u Q I g i h;obtain⟨Z,d,e,O,P,r1,r2,a,b,q⟩:=h;obtain⟨l,j⟩:=r1.reads I 20 g a;obtain⟨bs,k⟩:=r2.reads I 20 i b;refine ne_dataH j k (jmY a) (jmY b) f ?_;rw[jcz 20 d e a b];exact⟨.bl _,H,I,rfl,by simpa using q⟩
def vU(x y:D):Option D:=bif kW x&&kW y&&Kq x y then some (.bl<|eqF x y) else bif okE 20 x&&okE 20 y then some (.bl<|eqD x y) else none
def QH(x y:D):Option D:=bif kW x&&kW y&&Kq x y then some (.bl<|!eqF x y) else bif okE 20 x&&okE 20 y then some (.bl<|!eqD x y) else none
def jnt:BO R (λx y H Q=>rEq x y H Q\/jix R false x y H Q) vU:=by
 intro Z H x y d v u f g z b c e Q k;unfold vU at e;cases hl:kW x&&kW y&&Kq x y with
 | true=>
  rw[hl] at e;cases e;obtain⟨h,i⟩:=jcm b c hl;exact .inl ⟨h,by rw[i];exact k (Go.id z) .bl_mk⟩
 | false=>
  rw[hl,cond_false] at e;refine oc e λa e=>?_;cases e;rw[M0] at a;exact .inr ⟨Z,x,y,f,g,b,c,a.1,a.2,by simpa using k (Go.id z) .bl_mk⟩
def jon:BO R (λx y H Q=>rNe x y H Q\/jix R true x y H Q) QH:=by
 intro Z H x y d v u f g z b c e Q k;unfold QH at e;cases hl:kW x&&kW y&&Kq x y with
 | true=>
  rw[hl] at e;cases e;obtain⟨h,i⟩:=jcm b c hl;exact .inl ⟨h,by rw[i];exact k (Go.id z) .bl_mk⟩
 | false=>
  rw[hl,cond_false] at e;refine oc e λa e=>?_;cases e;rw[M0] at a;exact .inr ⟨Z,x,y,f,g,b,c,a.1,a.2,by simpa using k (Go.id z) .bl_mk⟩
def jps(a:Room k X.A):CmpR cl X .Eq b (λx y H Q=>rEq x y H Q\/jix ⟨X.K,cl⟩ false x y H Q) vU:=⟨J4 joz<|jj3 a.units,jnt,VR _⟩
def c_ne(a:Room k X.A):CmpR cl X .NotEq b (λx y H Q=>rNe x y H Q\/jix ⟨X.K,cl⟩ true x y H Q) QH:=⟨J4 joH<|jmG a.units,jon,VR _⟩
def BM(R:RC)(T:String)(r:V->List V->Hp->VK->Prop)(g:D->List D->Option D):Prop:=∀{Z}{H}{x d}{xs}{v}{vs}{O1 O2},Zd Z H->Rep R Z H x v O1->Reps R Z H xs vs O2->g x xs=some d ->
 ∀{Q},(∀{w}{Z'}{H'}{P},Go Z H [] Z' H' P->Rep R Z' H' d w P->Q w H')->r v vs H Q
noncomputable def isT:String->D->Bool
 | "str",.str _=>true
 | _,_=>false
@[simp] def pBM(T:String)(g:D->List D->Option D)(pa:PF)(pr:PAf)(ρ:Rh):Option D:=(pa ρ).bind λx=>bif isT T x then(pr ρ).bind λxs=>g x xs else none
end QD
namespace QD
open PySem L2
section
variable {R:RC}{Z Z':Zn}{H H':Hp}{pm:List Nat}
def ItB(R:RC)(J:It)(Z:Zn)(H:Hp)(xs:List D):Prop:=∀{Z1}{H1},(∀ a,Z a->Z1 a)->(∀ a,H a≠none->H1 a=H a)->Zd Z1 H1->∀ i:Nat,
 (xs.length<=i->J.stop i H1)/\∀ x,xs[i]?=some x->J.go i H1/\∀ u H2,J.yld i H1 u H2->∃ Z2,Go Z1 H1 [] Z2 H2 []/\Rep R Z2 H2 x u []
def jm1(R:RC)(wi:TI)(p:PAf):Prop:=∀{σ}{ρ}{Z}{H}{O}{xs},Zd Z H->Slots R Z H ρ σ O->p ρ=some xs ->
 ∀{Q:It->Hp->Prop},(∀{J}{Z'}{H'},Go Z H [] Z' H' []->ItB R J Z' H' xs->Q J H')->wi σ H Q
def PIt.b(h:PIt R wi p):jm1 R wi p:=by
 intro σ ρ Z H O j z s e Q k;refine h z s e λg c=>k g ?_;intro l m d f zd i;exact c d (λa z=>f a<|g.wf.zd a z) zd i
def itB:D->Option (List D)
 | .lst _ l=>bif frzs l then some l else none
 | .tup l=>bif frzs l then some l else none
 | .str s=>some<|s.map λc=>.str [c]
 | _=>none
@[simp] def Yd(p:PF)(ρ:Rh):Option (List D):=(p ρ).bind itB
def jdV(b:∀ a,H a≠none->H' a=H a)(h:SqX K H a vs):SqX K H' a vs:=by
 rcases h with h | h
 ·refine .inl<|Rd.agree (b a ?_) h;rcases h with h | ⟨o,h⟩<;>rw[h]<;>exact λz=>(nomatch z)
 ·exact .inr h
def jdZ(b:∀ a,H a≠none->H' a=H a)(h:SqT K H a vs):SqT K H' a vs:=by
 rcases h with h | h
 ·refine .inl<|Rd.agree (b a ?_) h;rcases h with h | ⟨o,h⟩<;>rw[h]<;>exact λz=>(nomatch z)
 ·exact .inr h
def jmu(h:PB R te p):jm1 R (jkA R.K te) (Yd p):=by
 intro σ ρ Z H O N z s e Q k;refine ob e λc B e=>?_;cases c with
 | lst o l=>
  refine oc e λC e=>?_;cases e;refine h z s B λ{v G I J} g1 r1=>?_;obtain⟨a,vs,P,rfl,n,q⟩:=r1.lst_of;have D:=q.frozen C;refine .inl ⟨a,rfl,⟨vs,n.sq⟩,k g1 ?_⟩;intro A L r f zd i;have d:=SqX.sq<|jdV f n;have g:=D.frame r (λb z=>f b<|g1.wf.zd b z) λb E=>(nomatch E);refine⟨λhi=>⟨vs,d,by rw[q.length];exact hi⟩,λx j=>?_⟩;obtain⟨u,y,F⟩:=g.item j;refine⟨⟨vs,u,d,y⟩,λw M m=>?_⟩;obtain⟨rfl,m⟩:=m;have e2:=m vs d;rw[y] at e2;cases e2;exact⟨A,Go.id zd,F⟩
 | tup l=>
  refine oc e λC e=>?_;cases e;refine h z s B λ{v G I J} g1 r1=>?_;obtain⟨a,vs,rfl,n,q⟩:=r1.tup_of;refine .inr<|.inl ⟨a,rfl,⟨vs,n⟩,k g1 ?_⟩;intro A L r f zd i;have d:=jdZ f n;have g:=(q.frozen C).frame r (λb z=>f b<|g1.wf.zd b z) λb E=>(nomatch E);refine⟨λhi=>⟨vs,d,by rw[q.length];exact hi⟩,λx j=>?_⟩;obtain⟨u,y,F⟩:=g.item j;refine⟨⟨vs,u,d,y⟩,λw M m=>?_⟩;obtain⟨rfl,m⟩:=m;have e2:=m vs d;rw[y] at e2;cases e2;exact⟨A,Go.id zd,F⟩
 | str t=>
  cases e;refine h z s B λ{v G I J} g1 r1=>?_;obtain⟨rfl,_⟩:=r1.str_of;refine .inr<|.inr ⟨t,rfl,k g1 ?_⟩;intro A L r f zd i;exact jfK r (λb z=>f b<|g1.wf.zd b z) zd i
 | _=>cases e
inductive CpI (R:RC) (g:D->Rh->Option Rh) (q:PTf) (p:PF) (Z0:Zn) (H0:Hp) (a:Addr) (xs all:List D) (i m:Nat) (σ2:L2.St) (H2:Hp):Prop
 | mk:m=xs.length-i->i<=xs.length->∀(ρ2:Rh) (Z2:Zn) (O2:W5) (ys:List D) (vs:List V) (Py:W5) (rest:List D),Go Z0 H0 [] Z2 H2 (a::Py)->H2 a=some (.lst vs)->Reps R Z2 H2 ys vs Py->(∀ b∈O2,b≠a)->Slots R Z2 H2 ρ2 σ2 O2->jV g q p (xs.drop i) ρ2=some rest->all=ys++rest->ys.length<=i->CpI R g q p Z0 H0 a xs all i m σ2 H2
def Jw{tg}{tc}{te}{g}{q}{p}{ix}(hg:PGt R [] tg g)(hq:PTt R tc q)(he:PP R te p)
  {J:It}{h:Zn}{c:Hp}{ρ:Rh}{σ:L2.St}{O:W5}{xs all:List D}(x:Zd h c) (s:Slots R h c ρ σ O) (it:ItB R J h c xs) (hl:lim xs.length=true) (e2:jV g q p xs (jx ix ρ)=some all)
  {Q:VK}(k:∀{v}{Z'}{H'}{P},Go h c [] Z' H' P->Rep R Z' H' (.lst true all) v P->Q v H'):∀ a,c a=none->uG tc te tg J a (vi ix σ) (upd c a<|.lst []) λH2=>Q (.ref a) H2:=by
 intro a Y;obtain⟨Oi,Z⟩:=xy s ix;have gp:Go h c [] h (upd c a<|.lst []) [a]:=Go.newO (wf0 x) Y;refine⟨CpI R g q p h c a xs all,
  ⟨xs.length,rfl,U4 _,_,h,Oi,[],[],[],all,gp,jk,Reps.empty,λb d e=>Z.dom b d<|e▸Y,gp.slots x Z,e2,rfl,M8 _⟩,?_⟩
 rintro i m σ2 H2 ⟨rfl,M,ρ2,Z2,O2,ys,vs,n,rest,g2,N,G,S,s2,e3,H,o⟩;have A:=it g2.zz (g2.same) g2.wf.zd i;by_cases C:i<xs.length
 ·right
  have hx:xs[i]?=some xs[i]:=by simp
  obtain⟨go,yl⟩:=A.2 _ hx;refine⟨go,λu H3 hy=>?_⟩;obtain⟨Z3,g3,r3⟩:=yl u H3 hy;rw[Va hx] at e3;refine ob e3 λρ3 e5 e3=>(hg r3 (g3.slots g2.wf.zd s2) e5 λ{σ4 O4} sub nd I _=>(ob e3 λb e6 e3=>(hq g3.wf.zd I e6 λ{Z5 H5} E=>?_)));have j:=g3.pair E;cases b with
  | true=>
   refine jf2<|ob e3 λy e7 e3=>ob e3 λT e8 e3=>?_;cases e3;refine he E.wf.zd (E.slots g3.wf.zd I) e7 λ{K t l w} g6 r6=>?_;have r:Go Z2 H2 [] t l w:=by simpa using j.pair g6
   have U:l a=some (.lst vs):=by rw[r.same a ∅];exact N
   have V:vs.length<sizeLine:=by
    rw[G.length];exact uc<|X0<|N6 o<|N6 M<|X2 hl
   have L:Go h c [] t l (a::n++w):=by
    have f:=r.frame (B:=[]) ⇑g2.wf;exact g2.trans ⇑f
   have W:=L.wf;have gB:Go t l (a::n++w) t (upd l a<|.lst<|vs++[K]) (a::n++w):=Go.put W L7;have ne:∀ b,b∈n++w->upd l a (.lst<|vs++[K]) b=l b:=λb d=>je λz=>(List.nodup_cons.mp W.nd).1 (z▸d);have F:∀ b,t b->upd l a (.lst<|vs++[K]) b=l b:=λb d=>je λz=>W.nz a L7<|z▸d;refine⟨vs,U,V,xs.length-(i+1),by lia,rfl,C,ρ3,t,O4,ys++[y],vs++[K],n++w,T,L.trans gB,jk,?_,λb d=>S b<|sub b d,(((E.pair g6).slots g3.wf.zd I).frame (λb z=>z) F λb d=>je<|S b<|sub b d),e8,by rw[H];simp,by rw[N3];exact Nat.add_le_add_right o 1⟩
   ·refine((r.reps g2.wf.zd G).append (.one r6)).frame (λb z=>z) F ne
  | false=>
   refine jgb ?_;have L:Go h c [] Z5 H5 (a::n):=by
    exact g2.trans (by simpa using(j.frame (B:=[]) ⇑g2.wf))
   exact⟨xs.length-(i+1),by lia,rfl,C,ρ3,Z5,O4,ys,vs,n,rest,L,by rw[j.same a ∅];exact N,j.reps g2.wf.zd G,λb d=>S b<|sub b d,E.slots g3.wf.zd I,e3,H,Nat.le_succ_of_le o⟩
 ·left
  have X:i=xs.length:=by lia
  refine⟨A.1 ∅,?_⟩;rw[X,List.drop_length] at e3;cases e3;rw[M9] at H;subst H;exact k g2 ⟨a,vs,n,rfl,G,N,rfl⟩
def ue{wi}{tg}{tc}{te}{pi}{g}{q}{p}{ix}(hi:jm1 R wi pi)(a:PGt R [] tg g)(b:PTt R tc q)(c:PP R te p):
  PP R (KZ wi tg tc te ix) (yw pi g q p ix):=by
 intro σ ρ Z H O d z s e Q k;refine ob e λj f e=>oc e λh e=>ob e λall e2 e=>?_;cases e;exact hi z s f λ{J l m} g0 i=>(Jw a b c g0.wf.zd (g0.slots z s) i h e2 λg1 r1=>k ⇑(g0.pair g1) r1)
end
section
variable {cl:Nat->Addr}{pm:List Nat}{X:Cx}{c e elt tg iter:Expr}{te:TE}{pe:PF}{ifs:List Expr}{wi:TI}{pi:PAf}{t:TG}{g:D->Rh->Option Rh}{pos:Pos}{ts:TS}{f:FS}
structure QIb(cl:Nat->Addr)(X:Cx)(tg e:Expr)(wi:TI)(p:PAf):Prop where
 sem:PI X tg e wi
 den:jm1 ⟨X.K,cl⟩ wi p
def QI.b'(h:QI cl X tg e wi pi):QIb cl X tg e wi pi:=⟨h.sem,PIt.b h.den⟩
def jgF(h:QB cl X e te pe):QIb cl X tg e (jkA X.K te) (Yd pe):=⟨jgf h.sem,jmu h.den⟩
def jiq{scope}{N'}{ix}{a}{c}(B:BlockOk X scope N' ix)(f:X.calm=true)(hi:QIb cl X tg iter wi pi)
  (d:∀ C s H fp,QG cl [] (jX X scope N' C s H fp) tg t g) (b:∀ C s H fp,QIf cl (jX X scope N' C s H fp) ifs a c) (e:∀ C s H fp,QP cl (jX X scope N' C s H fp) elt te pe)
  (h:∀ x,foldedSetIterable iter X.env x=pure x:=by intro _;rfl):QP cl X (.ListComp elt [⟨tg,iter,ifs,0⟩] scope pos) (KZ wi t a te ix) (yw pi g c pe ix):=
 ⟨xl B f hi.sem (λC s H fp=>(d C s H fp).sem) (λC s H fp=>(b C s H fp).sem) (λC s H fp=>(e C s H fp).sem) h,
  ue hi.den (d 0 X.s₀ X.H₀ []).den (b 0 X.s₀ X.H₀ []).den (e 0 X.s₀ X.H₀ []).den⟩
def xx{i}{x}{pos' a}{scope}{N'}{ix}{b}{f}(B:BlockOk X scope N' ix)(k:X.calm=true)(hi:QIb cl X tg iter wi pi)
  (h:∀ C s H fp,QG cl [] (jX X scope N' C s H fp) tg t g) (c:∀ C s H fp,QIf cl (jX X scope N' C s H fp) ifs b f) (j:∀ C s H fp,QP cl (jX X scope N' C s H fp) elt te pe)
  (l:X.N.Nodup) (e:X.N[i]?=some x:=by rfl) (m:Loc X.env.scope x:=by first | exact Or.inl rfl | exact Or.inr rfl)
  (hsw:swapsWith (.ListComp elt [⟨tg,iter,ifs,0⟩] scope pos) (some<|.Name x pos') a.line X.env=pure true:=by with_unfolding_all rfl)
  (n:∀ x,foldedSetIterable iter X.env x=pure x:=by intro _;rfl)
  (o:X.fn x=true\/X.env.scope.names.lookup x=some .local:=by first | exact .inl rfl | exact .inr rfl):
  QS cl pm X (.Assign [.Name x pos'] (.ListComp elt [⟨tg,iter,ifs,0⟩] scope pos) a) (jfM (KZ wi t b te ix)<|vy i) (jB (dP<|yw pi g f pe ix)<|jc pm i):=
 ⟨jaG B k hi.sem (λC s H fp=>(h C s H fp).sem) (λC s H fp=>(c C s H fp).sem) (λC s H fp=>(j C s H fp).sem) l e m hsw n o,
  uk (PP.d<|ue hi.den (h 0 X.s₀ X.H₀ []).den (c 0 X.s₀ X.H₀ []).den (j 0 X.s₀ X.H₀ []).den) KP⟩
end
@[simp] def pV0:pV 0 (o::ρ)=o:=by unfold pV;cases o<;>rfl
@[simp] def pVs:pV (i+1) (o::ρ)=pV i ρ:=rfl
@[simp] def gN_e:gN [] ρ=some ρ:=rfl
@[simp] def gC_e:gC G Gs (d::r) ρ=(G d ρ).bind λρ1=>Gs r ρ1:=rfl
@[simp] def gT_e:gT n Gs (.tup l) ρ=bif decide (l.length=n) then Gs l ρ else none:=rfl
@[simp] def itB_lst(o)(l):itB (.lst o l)=bif frzs l then some l else none:=rfl
@[simp] def itB_tup(l):itB (.tup l)=bif frzs l then some l else none:=rfl
@[simp] def itB_str(l):itB (.str l)=some (l.map λc=>D.str [c]):=rfl
@[simp] def enumOf_e(o)(l):jga [.lst o l]=some (jL 0<|fzs l):=rfl
def QJ(h:-(2 ^ 62)<j)(k:j<2 ^ 62):Vv j=true:=Nat.ble_eq_true_of_le ∅
def qu(h:-(2 ^ 62)<j)(k:j<2 ^ 62):ja3 [.int j]=some (Vs 0 j.toNat):=by
 show(bif Vv j then some (Vs 0 j.toNat) else none)=_;rw[QJ h k];rfl
def jK(n)(f)(ds):fnP n f ds=(f<|ds.map some++List.replicate (n-ds.length) none).bind Out.val:=rfl
@[simp] def sLoop_nil:jG G f [] ρ=some (.nx ρ):=rfl
def jM:jG G f (x::xs) ρ=(G x ρ).bind λr=>(f r).bind λo=>o.loop (jG G f xs):=rfl
@[simp] def cLoop_nil:jV G q p [] ρ=some []:=rfl
def vv:jV G q p (x::xs) ρ=(G x ρ).bind λr=>(q r).bind λb=>bif b then((p r).bind λy=>(jV G q p xs r).bind λys=>some<|y::ys) else jV G q p xs r:=rfl
def Y5(P:Nat->Rh->Prop)(step:∀ i x ρ,xs[i]?=some x->P i ρ->∃ ρ1 ρ2,G x ρ=some ρ1/\(f ρ1=some (.nx ρ2)\/f ρ1=some (.ct ρ2))/\P (i+1) ρ2)  (c:P 0 ρ):
  ∃ ρ',jG G f xs ρ=some (.nx ρ')/\P xs.length ρ':=by
 have key:∀ n i ρ,xs.length-i=n->i<=xs.length->P i ρ->∃ ρ',jG G f (xs.drop i) ρ=some (.nx ρ')/\P xs.length ρ':=by
  intro n
  induction n with
  | zero=>
   intro i ρ d hi p;have:i=xs.length:=by lia
   subst this;exact⟨ρ,by rw[List.drop_length];rfl,p⟩
  | succ n e=>
   intro i ρ d hi p;have a:i<xs.length:=by lia
   have b:xs[i]?=some xs[i]:=by simp[a]
   obtain⟨ρ1,ρ2,g,e2,p2⟩:=step i _ ρ b p;obtain⟨ρ',e3,p3⟩:=e (i+1) ρ2 ∅ a p2;refine⟨ρ',?_,p3⟩;rw[Va b,jM,g];rcases e2 with e2 | e2<;>simp[e2,e3]
 exact key _ 0 ρ rfl (U4 _) c
def jw{G}{xs}{l:List α}{en}{out}(a:xs=l.map en)(P:Rh->Prop)(step:∀ x∈l,∀ ρ,P ρ->∃ ρ1,G (en x) ρ=some ρ1/\p ρ1=some (out x)/\P ρ1){ρ}(b:P ρ):jV G qT p xs ρ=some (l.map out):=by
 subst a
 induction l generalizing ρ with
 | nil=>rfl
 | cons x l c=>
  obtain⟨ρ1,d,e2,p1⟩:=step x L7 ρ b;rw[L5,vv,d];simp[e2,c (λy e=>step y<|L6 _ e) p1]
@[simp] def cond_dec(p) [Decidable p] (x y:α):(bif decide p then x else y)=if p then x else y:=by by_cases h:p<;>simp[h]
@[simp] def cond_beq_int(i j:Int)(x y:α):(bif i==j then x else y)=if i=j then x else y:=by
 by_cases h:i=j
 ·subst h;simp
 ·rw[if_neg h,U1.mpr h];rfl
@[simp] def ite_bind(p) [Decidable p] (x y:Option α) (f:α->Option β):(if p then x else y).bind f=if p then x.bind f else y.bind f:=by by_cases h:p<;>simp[h]
@[simp] def add_ii(i j):jg (.int i) (.int j)=some (.int<|i+j):=rfl
@[simp] def sub_ii(i j):J9 (.int i) (.int j)=some (.int<|i-j):=rfl
def vm(h:i.natAbs<2 ^ 1000)(k:j.natAbs<2 ^ 1000):yi (.int i) (.int j)=some (.int<|i*j):=by
 show(bif jjA i&&jjA j then some (D.int<|i*j) else none)=_;rw[jdE h,jdE k];rfl
def Js(h:0<j)(k:j<2 ^ 300):YY (.int i) (.int j)=some (.int<|i/j):=by
 show(bif decide (0<j)&&decide (j<2 ^ 300) then some (D.int<|i/j) else none)=_;rw[X0 h,X0 k];rfl
def Y8(h:0<j):JB (.int i) (.int j)=some (.int<|i%j):=by
 show(bif decide (0<j) then some (D.int<|i%j) else none)=_;rw[X0 h];rfl
@[simp] def opB_ii(g)(i j):opB g (.int i) (.int j)=some (.bl<|g i j):=rfl
@[simp] def eq_ii(i j):vU (.int i) (.int j)=some (.bl<|i==j):=rfl
@[simp] def ne_ii(i j):QH (.int i) (.int j)=some (.bl<|!(i==j)):=rfl
@[simp] def uI(g)(i j):f2I g [.int i,.int j]=some (.int<|g i j):=rfl
@[simp] def frz_int(i):frz (.int i)=true:=rfl
@[simp] def frz_bl(i):frz (.bl i)=true:=rfl
@[simp] def frz_str(i):frz (.str i)=true:=rfl
@[simp] def frz_non:frz .non=true:=rfl
@[simp] def fz_int(i):fz (.int i)=.int i:=rfl
@[simp] def fz_bl(i):fz (.bl i)=.bl i:=rfl
@[simp] def fz_str(i):fz (.str i)=.str i:=rfl
@[simp] def fz_non:fz .non=.non:=rfl
@[simp] def fz_lst(o)(l):fz (.lst o l)=.lst false (fzs l):=rfl
@[simp] def fz_tup(l):fz (.tup l)=.tup (fzs l):=rfl
@[simp] def jhl(o)(l):frz (.lst o l)=(!o&&frzs l):=rfl
@[simp] def frz_tup(l):frz (.tup l)=frzs l:=rfl
@[simp] def fzs_nil:fzs []=[]:=rfl
@[simp] def jej(d)(l):fzs (d::l)=fz d::fzs l:=rfl
@[simp] def frzs_nil:frzs []=true:=rfl
@[simp] def JI(d)(l):frzs (d::l)=(frz d&&frzs l):=rfl
@[simp] def clean_int(i):clean (.int i)=true:=rfl
@[simp] def clean_bl(i):clean (.bl i)=true:=rfl
@[simp] def clean_str(i):clean (.str i)=true:=rfl
@[simp] def clean_non:clean .non=true:=rfl
@[simp] def clean_lst(o)(l):clean (.lst o l)=(o&&ym l):=rfl
@[simp] def clean_tup(l):clean (.tup l)=ym l:=rfl
@[simp] def cleans_nil:ym []=true:=rfl
@[simp] def cleans_cons(d)(l):ym (d::l)=(clean d&&ym l):=rfl
@[simp] def fzs_ints(l:List Int):fzs (l.map D.int)=l.map D.int:=by
 rw[vT,U0];rfl
@[simp] def Qw(l:List Int):frzs (l.map D.int)=true:=by
 rw[kB,List.all_map,List.all_eq_true];intro x _;rfl
theorem yJ:∀ l:List D,ym l=l.all clean
 | []=>rfl
 | d::l=>by rw[ym,yJ l];rfl
@[simp] def cleans_ints(l:List Int):ym (l.map D.int)=true:=by
 rw[yJ,List.all_map,List.all_eq_true];intro x _;rfl
@[simp] def intsD_ints(l):jaR (l.map D.int)=some l:=by
 induction l with
 | nil=>rfl
 | cons x l a=>show(jaR<|l.map D.int).bind _=_;rw[a];rfl
@[simp] def boolsD_bools(l):JJ (l.map D.bl)=some l:=by
 induction l with
 | nil=>rfl
 | cons x l a=>show(JJ<|l.map D.bl).bind _=_;rw[a];rfl
@[simp] def fSum_lst(o)(l):jcb [.lst o l]=(jaR l).bind λns=>some (.int ns.sum):=rfl
@[simp] def fLen_lst(o)(l):qv [.lst o l]=some (.int l.length):=rfl
@[simp] def fLen_tup(l):qv [.tup l]=some (.int l.length):=rfl
@[simp] def fList_lst(o)(l):Vd [.lst o l]=bif frzs l then some (.lst true l) else none:=rfl
@[simp] def zK(o)(l):Km (.lst o l)=some (fzs l):=rfl
@[simp] def itemsOf_tup(l):Km (.tup l)=some (fzs l):=rfl
@[simp] def tyD_int(i):tyD (.int i)=some "int":=rfl
@[simp] def tyD_bl(i):tyD (.bl i)=some "bool":=rfl
@[simp] def tyD_str(i):tyD (.str i)=some "str":=rfl
@[simp] def tyD_non:tyD .non=some "NoneType":=rfl
@[simp] def tyD_lst(o)(l):tyD (.lst o l)=some "list":=rfl
@[simp] def tyD_tup(l):tyD (.tup l)=some "tuple":=rfl
theorem Vi:∀(l m:List Int),Qz (l.map D.int) (m.map D.int)=decide (l=m)
 | [],[]=>rfl
 | [],_::_=>rfl
 | _::_,[]=>rfl
 | x::l,y::m=>by
  show((x==y)&&Qz (l.map D.int) (m.map D.int))=_;rw[Vi l m];by_cases h:x=y<;>simp[h]
def JH(n)(l:List Int):ve n (l.map D.int)=true:=by
 rw[KB,List.all_map,List.all_eq_true];intro x _;cases n<;>rfl
def jh9(o o')(l m:List Int):vU (.lst o<|l.map D.int) (.lst o'<|m.map D.int)=some (.bl<|decide<|l=m):=by
 show(bif okE 20 (.lst o<|l.map D.int)&&okE 20 (.lst o'<|m.map D.int) then some (D.bl<|Qz (l.map D.int)<|m.map D.int) else none)=_;rw[Vi];show(bif ve 19 (l.map D.int)&&ve 19 (m.map D.int) then _ else _)=_;rw[JH,JH];rfl
def jgK(o o')(l m:List Int):QH (.lst o<|l.map D.int) (.lst o'<|m.map D.int)=some (.bl<|!decide (l=m)):=by
 show(bif okE 20 (.lst o<|l.map D.int)&&okE 20 (.lst o'<|m.map D.int) then some (D.bl<|!Qz (l.map D.int) (m.map D.int)) else none)=_;rw[Vi];show(bif ve 19 (l.map D.int)&&ve 19 (m.map D.int) then _ else _)=_;rw[JH,JH];rfl
def jkj{c}{m}{ns:List Int}(h:m [.lst false<|ns.map D.int]=some (.bl true))(d:SqX K H a<|ns.map V.int):spP ⟨K,c⟩ m 1 [.ref a] H (λv _=>v=.bl true) E:=by
 refine⟨λb=>b=a/\H a≠none,[.lst false<|ns.map D.int],.bl true,λb e=>by rw[e.1];exact e.2,rfl,.one ?_,h,λg r=>r.bl_of.1⟩;have f:∀(l:List Int),Reps ⟨K,c⟩ (λb=>b=a/\H a≠none) H (l.map D.int) (l.map V.int) []:=by
  intro l
  induction l with
  | nil=>exact .empty
  | cons x l i=>exact .cons .int_mk i
 refine⟨a,ns.map V.int,[],rfl,f ns,⟨?_,rfl,rfl⟩⟩;rcases d with d | d
 ·refine .inl ⟨⟨rfl,?_⟩,d⟩;rcases d with d | ⟨o,d⟩<;>rw[d]<;>exact λz=>(nomatch z)
 ·exact .inr d
end QD
namespace L2
open PySem PySem.Spec PyProof.Rows
end L2
namespace QD
open PySem L2 PySem.Spec PyProof.Rows
noncomputable def Qp:List D->Option (List<|List Nat)
 | []=>some []
 | .str w::l=>match Qp l with
  | some ws=>some<|w::ws
  | none=>none
 | _::_=>none
@[simp] def uQ(l):Qp (l.map D.str)=some l:=by
 induction l with
 | nil=>rfl
 | cons x l a=>simp[Qp,a]
section
variable {R:RC}{Z:Zn}{H:Hp}
theorem wR:∀{l}{ws}{vs}{O},Qp l=some ws->Reps R Z H l vs O->vs=(ws.map S).map V.str
 | [],ws,vs,O,e,r=>by
  cases e;have:=r.length;exact List.length_eq_zero_iff.mp this
 | x::l,ws,vs,O,e,r=>by
  cases x with
  | str w=>
   simp only[Qp] at e;cases e1:Qp l with
   | none=>rw[e1] at e;cases e
   | some a=>
    rw[e1] at e;cases e;obtain⟨v,b,P,c,rfl,-,r1,r2⟩:=r;obtain⟨rfl,_⟩:=r1.str_of;rw[wR e1 r2];rfl
  | _=>cases e
end
@[simp] def isT_str(w):isT "str" (.str w)=true:=rfl
end QD
namespace QK
open PySem L2 QD PySem.Spec PyProof.Rows
section
variable {cl:Nat->Addr}{pm:List Nat}{X:Cx}{a b c e o:Expr}{es:List Expr}{ta tb tc te to:TE}{pa pb pc pe po:PF}{tr:TA}{pr:PAf}{pos:Pos}{K:W4}
variable {tg iter elt:Expr}{ifs:List Expr}{wi:TI}{pi:PAf}{t:TG}{g:D->Rh->Option Rh}
def add(c:X.K=K)(d:QB cl X a ta pa)(e:QB cl X b tb pb):QP cl X (.BinOp a .Add b pos) (tOp (jfC K) ta tb) (p2 jg pa pb):=by subst c;exact jki d e
def ix(c:X.K=K)(d:QB cl X a ta pa)(e:QB cl X b tb pb)(f:zX b:=by exact λ_ _=>rfl):QB cl X (.Subscript a b pos) (tOp (rIx K) ta tb) (p2 jd pa pb):=by subst c;exact joW d e f
def call{k n}{ps}{m}{x}{st}{p}(c:X.K=K)(O:OkF X.prog X.w X.K X.mg x st k ps<|spP ⟨X.K,cl⟩ m n)(d:Room k X.A)
  (f:QBs cl X (e::es) tr pr) (g:(e::es).length=n:=by rfl) (h:Gl X x:=by rfl) (a:Nd x:=by decide)
  (i:SEq X e es:=by rfl) (b:BkE X pos es:=by rfl):QP cl X (.Call (.Name x p) (e::es) [] pos) (KH (spP ⟨K,cl⟩ m n) [] E0 tr) (jl m pr):=by
 subst c;exact jgr O d f g h a i b
theorem c_notin(a:X.K=K)(c:behindInMarks .NotIn b=false):CmpR cl X .NotIn b (jjq K true) (xc true):=by subst a;exact QD.c_notin c
theorem c_ne{k}(a:X.K=K)(c:Room k X.A):CmpR cl X .NotEq b (λx y H Q=>rNe x y H Q\/jix ⟨K,cl⟩ true x y H Q) QH:=by subst a;exact QD.c_ne c
def g_tup{ts}{b}{k n}(c:X.K=K)(d:X.calm=true)(h:QGs cl pm X es ts b)(e:(assignEach es X.env).length=n:=by rfl)(a:(assignEach es X.env).findIdx? (·.1)=none:=by rfl):QG cl pm X (.Tuple es k pos) (jbv K n ts) (gT n b):=by subst c;exact jgh d h e a
end
end QK
namespace QD
open PySem L2 PySem.Spec PyProof.Rows
@[simp] def jbA(i:Nat)(p:PAf)(ρ:Rh):Option (D×Rh):=(pV i ρ).bind λd=>(p ρ).bind λds=>bif lim (ds.length+1) then some (.tup<|d::ds,ρ.set i none) else none
def jeq(s:PPs R ta p):DE R (zw<|jD (jU i) ta) (jbA i p):=by
 intro σ ρ F Z H O d w h e Q k;refine ob e λc l e=>ob e λG t e=>oc e λu e=>?_;cases e;have l:=qV l;obtain⟨A,P,B,rfl,x,I,y⟩:=h.put (L9.mp l).1;obtain⟨v,C,r⟩:=x c l;refine⟨v,C,s w.zd h t λ{vs D n E} g1 r1=>⟨by rw[M1,r1.length];exact qP u,λq m=>?_⟩⟩;have o:=g1.widen w;have f:=o.wf.nd;have g2:Go Z H (A++P++B) D n ((P++E)++(A++B)):=o.drop (λa q=>by simp at q ⊢;rcases q with q | q | q | q<;>simp[q]) (by
  simp only[U8,N1] at f ⊢;refine⟨⟨f.2.1.1.2.1,f.1,λa j b g e=>f.2.2 b g a (.inl<|.inr j) e.symm⟩,⟨f.2.1.1.1,f.2.1.2.1,λa j b g=>f.2.1.2.2 a (.inl j) b g⟩,λa j b g e=>?_⟩;rcases j with j | j
  ·rcases g with g | g
   ·exact f.2.1.1.2.2 b g a j e.symm
   ·exact f.2.1.2.2 a (.inr j) b g e
  ·rcases g with g | g
   ·exact f.2.2 a j b (.inl<|.inl g) e
   ·exact f.2.2 a j b (.inr g) e)
 have ne:∀ a,n a≠none->a≠q:=λa h e=>h<|e▸m;have s1:=g1.slots w.zd y;refine k (g2.trans<|Go.newF g2.wf m) (Rep.tupNew g2.wf.left m<|Reps.cons (g1.rep w.zd r) r1)<|s1.frame (λa z=>.inl z) (λa z=>je<|ne a<|g2.wf.zd a z) λa j=>je<|ne a<|s1.dom a j
def jjj{a}(i)  (b:QB cl X (.Name x xpos) (jU i)<|pV i) (h:QPs cl X es tr pr) (c:starEach (.Name x xpos::es) X.env=(false,eval (.Name x xpos) X.env)::starEach es X.env:=by rfl):
  QE cl X (.Tuple (.Name x xpos::es) a pos) (zw<|jD (jU i) tr) (jbA i pr):=⟨Ju<|jC b.sem h.sem c,jeq h.den⟩
structure QGo(cl:Nat->Addr)(pm:List Nat)(X:Cx)(tg:Expr)(t:TG)(g:D->Rh->Option Rh):Prop where
 sem:PG X tg t
 den:DG ⟨X.K,cl⟩ pm t g
def jh5(a:X.N.Nodup)(hi:X.N[i]?=some x:=by rfl)(b:Loc X.env.scope x:=by first | exact Or.inl rfl | exact Or.inr rfl)(c:X.fn x=true\/X.env.scope.names.lookup x=some .local:=by first | exact .inl rfl | exact .inr rfl):
  QGo cl pm X (.Name x pos) (vy i) (jc pm i):=⟨jc9 a hi b c,KP⟩
section
variable {R:RC}{Z Z':Zn}{H H':Hp}{pm:List Nat}
noncomputable def kC:D->Option KA
 | .int i=>some<|.int i
 | .str s=>some<|.str s
 | _=>none
def yU(e:kC d=some k)(r:Rep R Z H d v O):v=kV (kaV k)/\O=[]:=by
 cases d with
 | int i=>cases e;rw[Rep] at r;exact r
 | str s=>cases e;rw[Rep] at r;exact r
 | _=>cases e
def KQ(h:kaV a=kaV b):a=b:=by
 cases a<;>cases b<;>simp only[kaV] at h
 ·cases h;rfl
 ·cases h
 ·cases h
 ·have:=jbl<|Sum.inr.inj h;rw[this]
noncomputable def KR:List KA->List D->KA->Option D
 | k::ks,d::l,a=>if k=a then some d else KR ks l a
 | _,_,_=>none
theorem Jp:∀{ks}{l}{vs}{O}{a},Reps R Z H l vs O->ks.length=l.length ->
  (∀ d,KR ks l a=some d->∃ v P,Vp ((ks.map kaV).zip vs) (kaV a)=some v/\Rep R Z H d v P)/\(KR ks l a=none->Vp ((ks.map kaV).zip vs) (kaV a)=none)
 | [],l,vs,O,a,r,c=>⟨λd e=>(by cases l<;>cases e),λ_=>rfl⟩
 | k::ks,[],vs,O,a,r,c=>by simp at c
 | k::ks,x::l,vs,O,a,r,c=>by
  obtain⟨v,b,f,i,rfl,rfl,r1,r2⟩:=r;by_cases e:k=a
  ·subst e;refine⟨λd h=>?_,λh=>?_⟩
   ·simp only[KR,if_true] at h;cases h;exact⟨v,f,JD rfl,r1⟩
   ·simp[KR] at h
  ·have g:=λz=>e<|KQ z;have q:Vp (((k::ks).map kaV).zip (v::b)) (kaV a)=Vp ((ks.map kaV).zip b) (kaV a):=Jr g;rw[q];simp only[KR,if_neg e];exact(Jp (a:=a) r2 ⇑c)
def DkA.rd(h:DkA o H a kvs):Rd H a (.dK kvs):=by
 cases o with
 | true=>exact .inl h
 | false=>exact h
def DGet.r(e:Rd H a<|.dK kvs):DGet H a (kV k) (Vp kvs k):=.inl ⟨kvs,k,e,rfl,rfl⟩
def Rep.dK_of(r:Rep R Z H (.dK o ks l) v O):Ex3 λa vs O'=>An4 (v=.ref a) (Rd H a<|.dK<|(ks.map kaV).zip vs) (Reps R Z H l vs O') (ks.length=l.length):=by
 obtain⟨a,vs,O',rfl,b,c,d,_⟩:=r;exact⟨a,vs,O',rfl,d.rd,b,c⟩
def jgE:PP R jdc (pC<|.dK true [] []):=by
 intro σ ρ Z H O d z s e Q k;cases e;intro p a;exact k (Go.newO (wf0 z) a) ⟨p,[],[],rfl,.empty,rfl,jk,rfl⟩
def yq:D->D->Option D
 | .dK _ ks l,y=>(kC y).bind λk=>KR ks l k
 | _,_=>none
def jhC(b:PB R td pa)(c:PB R ty pb):PB R (jii td ty) (p2 yq pa pb):=by
 intro σ ρ Z H O d z s e Q k;refine ob e λx f e=>ob e λy e2 e=>(b z s f λ{v m n q} g1 r1=>(c g1.wf.zd (g1.slots z s) e2 λ{u t A B} g2 r2=>?_));cases x with
 | dK o C l=>
  refine ob e λa e3 e=>?_;obtain⟨p,vs,D,rfl,g,h,i⟩:=(g2.rep g1.wf.zd r1).dK_of;obtain⟨rfl,_⟩:=yU e3 r2;obtain⟨w,P,j,rw⟩:=(Jp h i).1 d e;exact⟨p,w,rfl,j▸DGet.r g,k (g1.pair g2) rw⟩
 | _=>cases e
@[simp] def p3(g:D->D->D->Option D)(pa:PF)(pb:PF)(pc:PF)(ρ:Rh):Option D:=(pa ρ).bind λx=>(pb ρ).bind λy=>(pc ρ).bind λz=>g x y z
def uV(neg:Bool)(y x:D):Option D:=match x with
 | .dK _ ks l=>(kC y).bind λk=>some<|.bl<|neg != (KR ks l k).isSome
 | _=>none
def jeG{c ty}{pa pb}{b}(i:PB R ty pa)(j:PB R c pb){σ}{ρ}{Z}{H}{O}{d}(z:Zd Z H)(s:Slots R Z H ρ σ O)(e:p2 (uV b) pa pb ρ=some d)
  {Q:VK}(k:∀{v}{Z'}{H'}{P},Go Z H [] Z' H' P->Rep R Z' H' d v P->Q v H'):ty σ H λy H1=>c σ H1 λx H2=>∃ a o,x=.ref a/\DGet H2 a y o/\Q (.bl<|b != o.isSome) H2:=by
 refine ob e λy m e=>ob e λx e2 e=>(i z s m λ{v A H1 B} g1 r1=>(j g1.wf.zd (g1.slots z s) e2 λ{u C H2 D} g2 r2=>?_));cases x with
 | dK o n l=>
  refine ob e λa e3 e=>?_;cases e;obtain⟨p,vs,E,rfl,f,g,h⟩:=r2.dK_of;obtain⟨rfl,_⟩:=yU e3 r1;cases ev:KR n l a with
  | none=>
   refine⟨p,none,rfl,(Jp g h).2 ev▸DGet.r f,k (g1.pair g2) ?_⟩;rw[ev];exact .bl_mk
  | some d=>
   obtain⟨w,P,q,t⟩:=(Jp g h).1 d ev;refine⟨p,some w,rfl,q▸DGet.r f,k (g1.pair g2) ?_⟩;rw[ev];exact .bl_mk
 | _=>cases e
def jbu{a ty}{pa pb}(b:PB R ty pa)(c:PB R a pb):PP R (KS ty a) (p2 (uV true) pa pb):=λz s e _ k=>by
 have:=jeG b c z s e k;simpa [KS] using this
noncomputable def jb5:List KA->List D->KA->D->List D
 | k::ks,x::l,a,d=>(if k=a then d else x)::jb5 ks l a d
 | _,_,_,_=>[]
theorem uH:∀{ks}{l} a d,ks.length=l.length->(jb5 ks l a d).length=l.length
 | [],[],_,_,_=>rfl
 | [],_::_,_,_,h=>by simp at h
 | _::_,[],_,_,h=>by simp at h
 | k::ks,x::l,a,d,h=>by rw[jb5,M1,M1,uH a d ⇑h]
theorem wH(rd:Rep R Z H d v [])(a):∀{ks}{l}{vs}{O},Reps R Z H l vs O->ks.length=l.length ->
  Ex2 λvs2 O2=>An3 (Reps R Z H (jb5 ks l a d) vs2 O2) ((ks.map kaV).zip vs2=((ks.map kaV).zip vs).map (λkv=>if kv.1=kaV a then(kv.1,v) else kv))<|O2.Sublist O
 | [],[],vs,O,r,b=>by
  obtain⟨rfl,rfl⟩:=r;exact⟨[],[],.empty,rfl,.slnil⟩
 | [],_::_,_,_,_,h=>by simp at h
 | _::_,[],_,_,_,h=>by simp at h
 | k::ks,x::l,vs,O,r,b=>by
  obtain⟨w,j,m,O2,rfl,rfl,r1,r2⟩:=r;obtain⟨c,f,g,e3,i⟩:=wH rd a r2 ⇑b;by_cases e:k=a
  ·subst e;refine⟨v::c,[]++f,?_,?_,(i.trans<|List.sublist_append_right _ _)⟩
   ·rw[jb5,if_pos rfl];exact Reps.cons rd g
   ·simp only[L5,U6,if_true,e3]
  ·have n:=λz=>e<|KQ z;refine⟨w::c,m++f,?_,?_,(List.Sublist.append (List.Sublist.refl _) i)⟩
   ·rw[jb5,if_neg e];exact Reps.cons r1 g
   ·simp only[L5,U6,if_neg n,e3]
theorem xG(a):∀{ks:List KA}{vs:List V},ks.length=vs.length->(((ks.map kaV).zip vs).any λkv=>decide<|kv.1=kaV a)=decide (a∈ks)
 | [],vs,_=>by simp
 | k::ks,[],h=>by simp at h
 | k::ks,v::vs,h=>by
  rw[L5,U6,List.any_cons,xG a ⇑h];by_cases e:k=a
  ·subst e;simp
  ·have b:¬ (kaV k=kaV a):=λz=>e<|KQ z;have e2:¬ (a=k):=λz=>e z.symm;simp[b,e2]
def kn(ks:List KA)(l:List D)(a:KA)(d:D):List KA×List D:=if a∈ks then(ks,jb5 ks l a d) else(ks++[a],l++[d])
def Yl(rd:Rep R Z H d v [])(a)  (r:Reps R Z H l vs O) (b:ks.length=l.length):
  Ex2 λvs2 O2=>An4 (Reps R Z H (kn ks l a d).2 vs2 O2) ((((kn ks l a d).1).map kaV).zip vs2=Je ((ks.map kaV).zip vs) (kaV a) v) (O2.Sublist O) ((kn ks l a d).1.length=(kn ks l a d).2.length):=by
 have c:ks.length=vs.length:=by rw[r.length];exact b
 unfold kn Je;rw[xG a c];by_cases e:a∈ks
 ·rw[if_pos e,X0 e,if_pos rfl];obtain⟨f,P,r2,e2,g⟩:=wH rd a r b;exact⟨f,P,r2,e2,g,by rw[uH a d b];exact b⟩
 ·rw[if_neg e,X1 e,if_neg<|λz=>(nomatch z)];refine⟨vs++[v],O++[],r.append<|Reps.one rd,?_,by simp,by simp[b]⟩;rw[N4,List.zip_append ⇑c];rfl
@[simp] def jiK(i:Nat)(pk:PF)(pv:PF)(ρ:Rh):Option Out:=(pv ρ).bind λd=>(pV i ρ).bind λx=>(jf6 x).bind λp=>(pk ρ).bind λy=>(kC y).bind λa=>bif frz d&&lim p.1.length then some (.nx<|ρ.set i<|some<|.dK true (kn p.1 p.2 a d).1 (kn p.1 p.2 a d).2) else none
def Y0{ks:List α}{vs:List V}{f:α->β}(h:lim ks.length=true):((ks.map f).zip vs).length<sizeLine:=by rw[List.length_zip,L1];exact X8 (Nat.min_le_left _ _)<|uc h
def jip{i}{ty tv}{pk pv}(m:PB R ty pk)(n:PB R tv pv):DS R pm (xr (jU i) ty tv) (jiK i pk pv):=by
 intro σ ρ Z H O o w s e E k;refine ob e λd p e=>ob e λx q e=>ob e λ⟨F,l⟩ b e=>ob e λy e2 e=>ob e λc e3 e=>oc e λf e=>?_;cases e;cases xu b;rw[M0] at f;refine n w.zd s p λ{u G I J} g1 r1=>?_;cases r1.nil f.1;have s1:=g1.slots w.zd s;have j:=g1.widen w;refine kJ qg j.wf s1 q rfl jaI λa _ vs K r g v z put=>z<|m g1.wf.zd s1 e2 λ{t L M N} g2 r2=>?_;obtain⟨rfl,_⟩:=yU e3 r2;obtain⟨A,P,B,b,C,h⟩:=Yl (g2.rep g1.wf.zd r1) c (g2.reps g1.wf.zd r) g;obtain⟨Q,g3,D⟩:=put jaI h g2 B ⇑C.count_le;refine⟨a,_,rfl,DPut.k (g2.at0 v)<|Y0 f.2,?_⟩;rw[<- b];exact k (j.trans g3) D<|Keep.refl _ _
end
def jlA:QP cl X (.Dict [] [] pos) jdc (pC<|.dK true [] []):=⟨je5,jgE⟩
def jj1(e:Room k X.A)(c:QB cl X a ta pa)(d:QB cl X b tb pb)(f:jnc b:=by exact λ_ _=>rfl):QB cl X (.Subscript a b pos) (jii ta tb) (p2 yq pa pb):=⟨jhO (Vm e) c.sem d.sem f,jhC c.den d.den⟩
def jgx(d:Room k X.A)(f:QB cl X (.Name x xpos) (jU i)<|pV i)(a:QB cl X b tb pb)(c:QB cl X e te pe)(g:swapsWith e (some<|.Subscript (.Name x xpos) b pos') pos.line X.env=pure false:=by rfl):
  QS cl pm X (.Assign [.Subscript (.Name x xpos) b pos'] e pos) (xr (jU i) tb te) (jiK i pb pe):=⟨xk (Vm d) f.sem a.sem c.sem g,jip a.den c.den⟩
@[simp] def keyOf_int(i):kC (.int i)=some (.int i):=rfl
@[simp] def keyOf_str(s):kC (.str s)=some (.str s):=rfl
@[simp] def opDIx_e(o)(ks)(l)(y):yq (.dK o ks l) y=(kC y).bind λk=>KR ks l k:=rfl
@[simp] def opDIn_e(a o)(ks)(l)(y):uV a y (.dK o ks l)=(kC y).bind λk=>some (.bl<|a != (KR ks l k).isSome):=rfl
def jik{P}{w}{K}{cl}{mg}{base}{k n}{f}{fd}{ps}:FnOk P w K mg base CX0 k f fd ps (spP ⟨K,cl⟩ (λ_=>none) n):=
 ⟨λvs H Q E ⟨_,_,_,_,_,_,h,_⟩=>(nomatch h),λA outer s H a b vs Q E _ _ _ _ ⟨_,_,_,_,_,_,h,_⟩=>(nomatch h)⟩
def Yu:List D->Option (List<|KA×D)
 | []=>some []
 | .tup [k,v]::l=>(kC k).bind λa=>(Yu l).bind λr=>some<|(a,v)::r
 | _::_=>none
def xn(ps:List<|KA×D):List KA×List D:=ps.foldl (λacc kv=>kn acc.1 acc.2 kv.1 kv.2) ([],[])
def vh:List D->Option D
 | [.lst _ l]=>(Yu l).bind λps=>bif frzs (ps.map (·.2))&&lim ps.length then some (.dK true (xn ps).1 (xn ps).2) else none
 | _=>none
def uO:∀{l}{ps}{ys}{O},Yu l=some ps->Reps R Z H l ys O->frzs (ps.map (·.2))=true ->
  ∃(ws:List V),An3 (Reps R Z H (ps.map (·.2)) ws []) (ys.length=ps.length) (∀(j:Nat) y,ys[j]?=some y->∃ kv t,((ps.map λp=>kaV p.1).zip ws)[j]?=some kv/\y=.ref t/\SqT R.K H t [kV kv.1,kv.2]):=by
 intro l
 induction l with
 | nil=>
  intro ps ys O e r b;cases e;obtain⟨rfl,rfl⟩:=r;exact⟨[],.empty,rfl,λj y c=>by simp at c⟩
 | cons d l h=>
  intro ps ys O e r b
  match d,e with
  | .tup [k,v],e=>
   refine ob e λa i e=>ob e λm e2 e=>?_;cases e;obtain⟨B,n,C,D,rfl,rfl,r1,r2⟩:=r;rw[L5,JI,M0] at b;obtain⟨ws,f,o,q⟩:=h e2 r2 b.2;obtain⟨t,vs,rfl,s,x⟩:=r1;obtain⟨u,w,E,F,rfl,-,z,g⟩:=x.two_of;obtain⟨rfl,_⟩:=yU i z;have A:=g.nil b.1;subst A;refine⟨w::ws,Reps.cons g f,by simp[o],λj y c=>?_⟩;cases j with
   | zero=>
    cases c;exact⟨(kaV a,w),t,rfl,rfl,s.sq⟩
   | succ j=>exact q j y ⇑c
def jcS:∀{ps:List (KA×D)}{ws}{ks}{l}{us},Reps R Z H (ps.map (·.2)) ws []->Reps R Z H l us []->ks.length=l.length ->
  ∃ us',An3 (Reps R Z H (ps.foldl (λacc kv=>kn acc.1 acc.2 kv.1 kv.2) (ks,l)).2 us' []) ((((ps.foldl (λacc kv=>kn acc.1 acc.2 kv.1 kv.2) (ks,l)).1).map kaV).zip us'=(((ps.map λp=>kaV p.1).zip ws).foldl (λa kv=>Je a kv.1 kv.2) ((ks.map kaV).zip us))) ((ps.foldl (λacc kv=>kn acc.1 acc.2 kv.1 kv.2) (ks,l)).1.length=(ps.foldl (λacc kv=>kn acc.1 acc.2 kv.1 kv.2) (ks,l)).2.length):=by
 intro ps
 induction ps with
 | nil=>
  intro ws ks l us b r c;exact⟨us,r,by simp,c⟩
 | cons p ps g=>
  intro ws ks l us b r c;obtain⟨w,h,o,q,rfl,e,r1,r2⟩:=b;obtain⟨rfl,rfl⟩:=List.append_eq_nil_iff.mp e.symm;obtain⟨i,s,j,e3,k,d⟩:=Yl r1 p.1 r c;have:=List.sublist_nil.mp k;subst this;obtain⟨us',m,n,f⟩:=g r2 j d;refine⟨us',m,?_,f⟩;rw[L5,U6,U9,U9,n,e3]
def jin:BC R (λxs H Q=>∃(p:Addr) (ys:List V) (ps:List<|Key×V),xs=[.ref p]/\SqL R.K H p ys/\ys.length=ps.length/\ps.length<=100000 /\
  (∀(j:Nat) y,ys[j]?=some y->∃ kv t,ps[j]?=some kv/\y=.ref t/\SqT R.K H t [kV kv.1,kv.2])/\∀ D,H D=none->Q (.ref D) (upd H D<|.dK<|ps.foldl (λa kv=>Je a kv.1 kv.2) [])) vh:=by
 intro Z H xs d vs O z r e Q k
 match xs,e,r with
 | [.lst o l],e,r=>
  refine ob e λps n e=>oc e λf e=>?_;cases e;rw[M0] at f;obtain⟨v,rfl,r1⟩:=r.one_of;obtain⟨p,ys,C,rfl,s,u⟩:=r1.lst_of;obtain⟨ws,b,w,q⟩:=uO n u f.1;obtain⟨g,A,B,i⟩:=jcS (ks:=[]) b .empty rfl;have c:ws.length=ps.length:=by rw[b.length];simp
  refine⟨p,ys,(ps.map λp=>kaV p.1).zip ws,rfl,s.sq,by simp[w,c],by simp[c];exact X2 f.2,q,λD m=>?_⟩;refine k (Go.newO (wf0 z) m) ?_;have ne:∀ a,H a≠none->a≠D:=λa h e=>h<|e▸m;exact⟨D,g,[],rfl,A.frame (λa z=>z) (λa h=>je<|ne a<|z a h)<|λa h=>(nomatch h),i,by show upd H D _ D=some _;rw[jk];exact congrArg (λx=>some<|HO.dK x) B.symm,rfl⟩
@[simp] def fDict_e(o)(l):vh [.lst o l]=(Yu l).bind λps=>bif frzs (ps.map (·.2))&&lim ps.length then some (.dK true (xn ps).1 (xn ps).2) else none:=rfl
end QD
namespace QK
open PySem L2 QD PySem.Spec PyProof.Rows
end QK
namespace QD
open PySem L2 PySem.Spec PyProof.Rows
theorem Reps.rev:∀{l}{vs},Reps R Z H l vs []->Reps R Z H l.reverse vs.reverse []
 | [],vs,r=>by
  obtain⟨rfl,_⟩:=r;exact .empty
 | d::l,vs,r=>by
  obtain⟨v,a,b,c,rfl,e,r1,r2⟩:=r;obtain⟨rfl,rfl⟩:=List.append_eq_nil_iff.mp e.symm;rw[List.reverse_cons,List.reverse_cons];exact(Reps.rev r2).append (.one r1)
@[simp] def jnv(i:Nat)(ρ:Rh):Option Out:=(pV i ρ).bind λx=>(Q2 x).bind λl=>bif frzs l then some (.nx<|ρ.set i<|some<|.lst true l.reverse) else none
def jks:DS R pm (JY<|jm3 R.K "list" V8<|jU i) (jnv i):=by
 intro σ ρ Z H O o w s e j k;refine ob e λx d e=>ob e λl f e=>oc e λg e=>?_;cases e;cases Jm f;unfold JY jm3;refine kJ (P0:=[]) qg w s d rfl qK λa _ vs m b _ c h put=>h ⟨.inl ⟨rfl,vs,SqL.of c⟩,?_⟩;cases b.nil g;obtain⟨n,g2,s2⟩:=put qK trivial (Go.id w.zd) b.rev λq=>by simp
 exact⟨a,vs,rfl,rfl,c,k g2 s2<|Keep.refl _ _⟩
def jlF(c:QB cl X (.Name x xpos) (jU i)<|pV i)
  (a:attributeBase (.Name x xpos) "reverse" X.env (eval (.Name x xpos) X.env)=eval (.Name x xpos) X.env:=by rfl) (b:(apos.endLine==cpos.line)=true:=by rfl)
  (hsw:swapsWith (.Call (.Attribute (.Name x xpos) "reverse" apos) [] [] cpos) none pos.line X.env=pure false:=by rfl):
  QS cl pm X (.Expr (.Call (.Attribute (.Name x xpos) "reverse" apos) [] [] cpos) pos) (JY<|jm3 X.K "list" V8<|jU i) (jnv i):=
 ⟨YD (jmd PySem.F.plainAttrs_list PySem.F.slot_list_reverse PySem.F.type_list_reverse uZ c.sem a b) hsw,jks⟩
end QD
namespace L2
open PySem PySem.Spec PyProof.Rows
def K7:km X (.builtin "isinstance") (λxs H Q=>∃ x p T1 T2 t b,xs=[x,.ref p]/\SqT X.K H p [.ty T1,.ty T2]/\TyQ X.K H x t/\PySem.W.kitAny X.K (.type t) [.type T1,.type T2]=some b/\Q (.bl b) H):=by
 intro f s σ H xs F Q I r h;obtain⟨x,p,T1,T2,t,b,rfl,sq,ty,e,q⟩:=h;obtain⟨u,v,rfl,r1,r2⟩:=r.two;cases(r2);obtain⟨g,l,⟨o,d,m,n,w⟩,_⟩:=I.tuple sq;obtain⟨w1,w2,rfl,A,B⟩:=l.two;cases A;cases B;obtain⟨oc,od,C,D⟩:=o;cases m;cases w;have c:∀ k,EP X f σ Q (.bool b) {s with toks:=k}:=λk=>⟨.bl b,H,I.tok k,rfl,q⟩;cases ty with
 | non=>cases(r1);exact PySem.W.kia_tup PySem.W.kitx_none I.kIn True.intro d e (λz=>nomatch z) c
 | bl y=>cases(r1);exact PySem.W.kia_tup PySem.W.kitx_bool I.kIn True.intro d e (λz=>nomatch z) c
 | int i=>obtain⟨t,q⟩:=(r1);cases q;exact PySem.W.kia_tup PySem.W.kitx_int I.kIn True.intro d e (λz=>nomatch z) c
 | str y=>obtain⟨t,q⟩:=(r1);cases q;exact PySem.W.kia_tup PySem.W.kitx_str I.kIn True.intro d e (λz=>nomatch z) c
 | @lst a xs j=>
  cases(r1);obtain⟨g,_,⟨o,n,g1,g2,_,_⟩,_⟩:=I.list j;exact PySem.W.kia_tup PySem.W.kitx_list I.kIn ⟨o,g1,g2⟩ d e (λz=>nomatch z) c
 | @tup a xs j=>
  cases(r1);obtain⟨g,_,⟨o,g1,g2,_⟩,_⟩:=I.tuple j;exact PySem.W.kia_tup PySem.W.kitx_tuple I.kIn ⟨o,g1,g2⟩ d e (λz=>nomatch z) c
 | @dK a E j=>
  cases(r1);obtain⟨_,_,vs,_,p⟩:=(I.hok a _ j);obtain⟨o,G,J,g1,g2,_⟩:=p;exact PySem.W.kia_tup PySem.W.kitx_dict I.kIn ⟨o,g1,g2.1⟩ d e (λz=>nomatch z) c
end L2
namespace QD
open PySem L2 PySem.Spec PyProof.Rows
def jaQ(T1 T2:String)(p:PF):PF:=λρ=>match p ρ with
 | none=>none
 | some d=>match tyD d with
  | none=>none
  | some t=>some<|.bl<|Jt t T1||Jt t T2
def jg2(K)  (a:t∈["NoneType","bool","int","str","tuple","list","dict"]) (h1:T1∈["bool","int","str","tuple","list","dict"]) (h2:T2∈["bool","int","str","tuple","list","dict"]):
  PySem.W.kitAny K (.type t) [.type T1,.type T2]=some (Jt t T1||Jt t T2):=by
 unfold PySem.W.kitAny;rw[xE K a h1];cases Jt t T1 with
 | true=>rfl
 | false=>
  unfold PySem.W.kitAny;rw[xE K a h2];cases Jt t T2<;>rfl
abbrev joQ(K:W4):List V->Hp->VK->Prop:=λxs H Q=>∃ x p T1 T2 t b,xs=[x,.ref p]/\SqT K H p [.ty T1,.ty T2]/\TyQ K H x t/\PySem.W.kitAny K (.type t) [.type T1,.type T2]=some b/\Q (.bl b) H
abbrev joR(T1 T2:String):TE:=zw<|jD (tC<|.ty T1)<|jD (tC<|.ty T2) J2
def jhI(a:T1∈["bool","int","str","tuple","list","dict"])(b:T2∈["bool","int","str","tuple","list","dict"])  (h:PB R te p):
  PP R (tCB (joQ R.K)<|jD te<|jD (joR T1 T2) J2) (jaQ T1 T2 p):=by
 intro σ ρ Z H O d z s e Q k;unfold jaQ at e;cases e1:p ρ with
 | none=>rw[e1] at e;cases e
 | some x=>
  rw[e1] at e;dsimp only at e;cases e2:tyD x with
  | none=>rw[e2] at e;cases e
  | some t=>
   rw[e2] at e;cases e;refine h z s e1 λ{v i j m} g1 r1=>⟨show 2<=sizeLine by decide,λl c=>?_⟩;obtain⟨f,g⟩:=(Go.rep g1.wf.zd (Go.newF (o:=.tup [.ty T1,.ty T2]) (wf0 g1.wf.zd) c) r1).ty e2;exact⟨v,l,T1,T2,t,_,rfl,.inl<|.inl<|by simp[upd],f,jg2 _ g a b,k (g1.trans<|Go.newF g1.wf c) .bl_mk⟩
def jjJ{X}{cl}{a}{ta}{pa}{pos}{f g}{c b}{p p1 p2 p3}{n}(h:f∈["bool","int","str","tuple","list","dict"])(i:g∈["bool","int","str","tuple","list","dict"])(w:X.mg "isinstance" = none)
  (j:X.mg c=none) (k:bootBuiltins c=some (.type f)) (l:X.mg b=none) (m:bootBuiltins b=some (.type g)) (u:QB cl X a ta pa)
  (x:Gl X "isinstance":=by rfl) (o:Gl X c:=by rfl) (q:Gl X b:=by rfl)
  (r:c≠"__name__":=by decide) (d:Nd c:=by decide) (s:b≠"__name__":=by decide) (e:Nd b:=by decide)
  (v:starEach [a,.Tuple [.Name c p1,.Name b p2] n p3] X.env=(false,eval a X.env)::starEach [.Tuple [.Name c p1,.Name b p2] n p3] X.env:=by rfl)
  (t:(backTo pos<|starEach [.Tuple [.Name c p1,.Name b p2] n p3] X.env).any (·.1)=false:=by rfl)
  (y:starEach [.Tuple [.Name c p1,.Name b p2] n p3] X.env=(false,eval (.Tuple [.Name c p1,.Name b p2] n p3) X.env)::starEach [] X.env:=by rfl)
  (h1:starEach [.Name c p1,.Name b p2] X.env=(false,eval (.Name c p1) X.env)::starEach [.Name b p2] X.env:=by rfl)
  (h2:starEach [.Name b p2] X.env=(false,eval (.Name b p2) X.env)::starEach [] X.env:=by rfl):
  QP cl X (.Call (.Name "isinstance" p) [a,.Tuple [.Name c p1,.Name b p2] n p3] [] pos) (tCB (joQ X.K)<|jD ta<|jD (joR f g) J2) (jaQ f g pa):=
 ⟨Yh K7 x w kI (jC u.sem (jC (Ju<|jC (xm o j k rfl r d) (jC (xm q l m rfl s e) vF h2) h1) vF y) v) (by decide) (by decide) v t,jhI h i u.den⟩
@[simp] def pIsI2_e:jaQ T1 T2 pa ρ=(pa ρ).bind λd=>(tyD d).bind λt=>some (.bl<|Jt t T1||Jt t T2):=by
 unfold jaQ;cases pa ρ with
 | none=>rfl
 | some d=>dsimp only[Option.bind];cases tyD d<;>rfl
structure QDs(cl:Nat->Addr)(X:Cx)(es:List Expr)(ta:TA)(f:FA):Prop where
 sem:PA X es ta
 den:DA ⟨X.K,cl⟩ ta f
def jkr:QDs cl X [] J2 jc2:=⟨vF,jkS⟩
def jhu(h1:QE cl X e te fE)(h2:QDs cl X es tr fr)(a:SEq X e es:=by rfl):QDs cl X (e::es) (jD te tr) (yM fE fr):=⟨jC h1.sem h2.sem a,jiy h1.den h2.den⟩
def jmg{a}(h:QDs cl X es tr fr):QE cl X (.Tuple es a pos) (zw tr) (jdP fr):=⟨Ju h.sem,jlT h.den⟩
@[simp] def dTup_e:jdP fa ρ=(fa ρ).bind λx=>bif decide (x.1.length<=1000) then some (.tup x.1,x.2) else none:=by
 unfold jdP dCB;cases fa ρ with
 | none=>rfl
 | some x=>
  obtain⟨d,r⟩:=x;dsimp only[Option.bind];cases decide (d.length<=1000)<;>rfl
section
variable {R:RC}{Z Z':Zn}{H H':Hp}{pm:List Nat}
@[simp] def jco(i:Nat)(pk:PF)(g:Int->Int->Int)(pv:PF)(ρ:Rh):Option Out:=(pk ρ).bind λy=>(kC y).bind λc=>(pV i ρ).bind λx=>(jf6 x).bind λkl=>(KR kl.1 kl.2 c).bind λm=>(vg m).bind λm=>(pv ρ).bind λn=>(vg n).bind λn=>
  bif lim kl.1.length then some (.nx<|ρ.set i<|some<|.dK true (kn kl.1 kl.2 c<|.int<|g m n).1 (kn kl.1 kl.2 c<|.int<|g m n).2) else none
def vn(i:Nat)(L:Ln)(pk:PF)(g:Int->Int->Int)(pv:PF)(ρ:Rh):Option Out:=(pk ρ).bind λy=>(kC y).bind λc=>(pV i ρ).bind λt=>(L t).bind λy=>(jf6 y.1).bind λkl=>(KR kl.1 kl.2 c).bind λm=>(vg m).bind λm=>(pv ρ).bind λn=>(vg n).bind λn=>
  bif lim kl.1.length then some (.nx<|ρ.set i<|some<|y.2<|.dK true (kn kl.1 kl.2 c<|.int<|g m n).1 (kn kl.1 kl.2 c<|.int<|g m n).2) else none
def KK{i}{L}{tb ty tv}{pk pv}{g}{rd}(h:∀{m n}{H}{Q},Q (.int<|g m n) H->rd (.int m) (.int n) H Q)(B:jdK R tb i L)(C:PB R ty pk)(D:PB R tv pv):DS R pm (zh tb ty tv rd) (vn i L pk g pv):=by
 intro σ ρ Z H O o w s e U k;refine ob e λq E e=>ob e λc e5 e=>ob e λt hi e=>ob e λ⟨y,V⟩ e3 e=>ob e λ⟨W,l⟩ F e=>ob e λx G e=>ob e λm I e=>ob e λX J e=>ob e λn e2 e=>oc e λd e=>?_;cases e;cases xu F;cases jE I;cases jE e2;refine kJ (P0:=[]) B w s hi e3 jaI λa _ vs Y v f A K put=>K<|C w.zd s E λ{z Z1 H1 P1} g1 r1=>?_;obtain⟨rfl,_⟩:=yU e5 r1;obtain⟨mv,P3,j,p⟩:=(Jp v f).1 _ G;obtain⟨rfl,_⟩:=p.int_of;refine⟨a,.int m,rfl,by rw[<- j];exact DGet.k<|g1.at0 A,D g1.wf.zd (g1.slots w.zd s) J λ{u Z2 H2 P4} g2 r2=>?_⟩;obtain⟨rfl,_⟩:=r2.int_of;have b:=g1.trans g2;obtain⟨M,O2,N,e7,P,r⟩:=Yl (Rep.int_mk) c (b.reps w.zd v) f;obtain⟨O3,S,T⟩:=put jaI r b N ⇑P.count_le;refine h ⟨_,DPut.k (b.at0 A)<|Y0 d,?_⟩;rw[<- e7];exact k S T<|Keep.refl _ _
def jgP{i}{ty tv}{pk pv}{g}{rd}(a:∀{m n}{H}{Q},Q (.int<|g m n) H->rd (.int m) (.int n) H Q)(b:PB R ty pk)(c:PB R tv pv):DS R pm (zh (jU i) ty tv rd) (jco i pk g pv):=KK a qg b c
noncomputable def kaD:KA->D
 | .int i=>.int i
 | .str s=>.str s
@[simp] def yt(pd:PF)(ρ:Rh):Option D:=(pd ρ).bind λd=>(jgB d).bind λk=>bif frzs k.2 then some (.lst true<|(k.1.zip k.2).map λp=>.tup [kaD p.1,p.2]) else none
def zG(a):Rep R Z H (kaD a) (kV<|kaV a) []:=by
 cases a with
 | int i=>exact .int_mk
 | str s=>exact .str_mk
def jbh(h:PB R td pd):PP R (xv td) (yt pd):=by
 intro σ ρ Z H O d z s e Q k;refine ob e λx e1 e=>ob e λ⟨y,l⟩ e2 e=>oc e λhf e=>?_;cases e;obtain⟨o,rfl⟩:=je1 e2;refine h z s e1 λ{v F A P} g r=>?_;obtain⟨a,vs,O',rfl,rs,G,ea,f⟩:=r;refine⟨a,_,rfl,(by cases o with | true=>exact .inl ea | false=>exact ea),λt m N D S has=>?_⟩;have n:=List.nodup_cons.mp S;have M:∀ b,A b≠none->jR A m ((y.map kaV).zip vs) t b=A b:=λb f=>by
  unfold jR;rw[if_neg λq=>f<|by rw[q];exact N,kH λq=>f<|has b q]
 have zd:=g.wf.zd;have I:∀ b∈m,jR A m ((y.map kaV).zip vs) t b≠none:=λb f=>by
  obtain⟨j,hj⟩:=List.mem_iff_getElem?.mp f;have T:j<((y.map kaV).zip vs).length:=by rw[<- D];exact(L9.mp hj).1
  unfold jR;rw[if_neg<|show ¬ b=t from λq=>n.1<|q▸f,Kx n.2 hj<|X5 T];exact λz=>nomatch z
 have J:jR A m ((y.map kaV).zip vs) t t=some (.lst<|m.map V.ref):=by unfold jR;rw[if_pos rfl]
 have g2:Go F A [] (λb=>F b\/b∈m) (jR A m ((y.map kaV).zip vs) t) [t]:=by
  refine⟨⟨by simp,λb f q=>?_,λb f=>?_,λb q=>?_⟩,λb q=>.inl q,λb f _=>M b f,λb q=>?_,λb f=>?_,λb f=>?_⟩
  ·rw[M7.mp f] at q;rcases q with q | q
   ·exact zd _ q N
   ·exact n.1 q
  ·rw[M7.mp f,J];exact λz=>nomatch z
  ·rcases q with q | q
   ·rw[M b<|zd b q];exact zd b q
   ·exact I b q
  ·rcases q with q | q
   ·exact .inl q
   ·exact .inr<|.inr<|has b q
  ·rw[M7.mp f];exact .inr N
  ·rw[M b f];exact f
 refine k (g.trans g2) ⟨t,m.map V.ref,[],rfl,?_,J,rfl⟩;have U:Reps R (λb=>F b\/b∈m) (jR A m ((y.map kaV).zip vs) t) l vs []:=(rs.frozen hf).frame (λb q=>.inl q) (λb q=>M b<|zd b q) (λb f=>nomatch f);have key:∀(w:W5) (i:List KA) E B,Reps R (λb=>F b\/b∈m) (jR A m ((y.map kaV).zip vs) t) E B []->i.length=E.length->w.length=i.length ->
   (∀(j:Nat) b c u,w[j]?=some b->i[j]?=some c->B[j]?=some u->b∈m/\jR A m ((y.map kaV).zip vs) t b=some (.tup [kV<|kaV c,u])) ->
   Reps R (λb=>F b\/b∈m) (jR A m ((y.map kaV).zip vs) t) ((i.zip E).map λp=>.tup [kaD p.1,p.2]) (w.map V.ref) []:=by
  intro w
  induction w with
  | nil=>
   intro i E B _ W C _;have:=List.length_eq_zero_iff.mp C.symm;subst this;exact .empty
  | cons b w ih=>
   intro i E B rr W C hp;cases i with
   | nil=>simp at C
   | cons c i=>
    cases E with
    | nil=>simp at W
    | cons d E=>
     obtain⟨u,K,O1,O2,rfl,eO,r1,r2⟩:=rr;obtain⟨rfl,rfl⟩:=List.append_eq_nil_iff.mp eO.symm;obtain⟨f,eb⟩:=hp 0 b c u rfl rfl rfl;exact Reps.cons (O:=[]) ⟨b,[kV<|kaV c,u],rfl,.inl ⟨.inr f,.inl eb⟩,Reps.cons (zG c)<|.one r1⟩<|ih i E K r2 ⇑W ⇑C λj b' c' u' L X Y=>hp (j+1) b' c' u' ⇑L ⇑X ⇑Y
 refine key m y l vs U G (by rw[D,List.length_zip,L1,rs.length,G];simp) λj b c u L X Y=>⟨List.mem_of_getElem? L,?_⟩;have hz:((y.map kaV).zip vs)[j]?=some (kaV c,u):=by
  rw[List.getElem?_zip_eq_some];exact⟨by rw[List.getElem?_map,X];rfl,Y⟩
 unfold jR;rw[if_neg<|show ¬ b=t from λq=>n.1<|q▸List.mem_of_getElem? L,Kx n.2 L hz]
end
section
variable {cl:Nat->Addr}{pm:List Nat}{X:Cx}{a b e o tg iter:Expr}{body:List Stmt}{ta tb te to:TE}{pa pb pe po:PF}{pos:Pos}{k:Nat}{t:TG}{g:D->Rh->Option Rh}{fE:FE}{ts:TS}{f:FS}
def jea{i}{x}{a tpos}(f:Room k X.A)(g:QB cl X (.Name x a) (jU i)<|pV i)(c:QB cl X b tb pb)(d:QB cl X e te pe)
  (h:∀ ov iv new,augStore b ov iv new=(do holding [new,ov,iv] (setItem ov iv new);release [new,ov,iv] [];pure .next):=by intros;rfl):
  QS cl pm X (.AugAssign (.Subscript (.Name x a) b tpos) .Sub e pos) (zh (jU i) tb te jkL) (jco i pb (λm n=>m-n) pe):=⟨Kk (Vm f) g.sem c.sem d.sem uC h,jgP (λq=>⟨_,_,rfl,rfl,q⟩) c.den d.den⟩
def jfu(f:X.calm=true)(g:X.mg "list" = none)(e:QB cl X o to po)(h:Gl X "list":=by rfl)
  (a:attributeBase o "items" X.env (eval o X.env)=eval o X.env:=by rfl) (b:(apos.endLine==cpos.line)=true:=by rfl)
  (i:starEach [.Call (.Attribute o "items" apos) [] [] cpos] X.env=(false,eval (.Call (.Attribute o "items" apos) [] [] cpos) X.env)::starEach [] X.env:=by rfl)
  (c:(backTo pos<|starEach [] X.env).any (·.1)=false:=by rfl)
  (d:backTo pos (starEach [.Call (.Attribute o "items" apos) [] [] cpos] X.env)=[(false,eval (.Call (.Attribute o "items" apos) [] [] cpos) X.env)]:=by rfl):
  QP cl X (.Call (.Name "list" p) [.Call (.Attribute o "items" apos) [] [] cpos] [] pos) (xv to) (yt po):=⟨jcE f h g JT e.sem a b i c d,jbh e.den⟩
end
theorem wk(r:Reps R Z H l vs []):∀ n:Nat,Reps R Z H (List.replicate n l).flatten (List.replicate n vs).flatten []
 | 0=>.empty
 | n+1=>by
  exact r.append<|wk r n
noncomputable def spM(R:RC)(m:List D->Option (D×D))(n j:Nat):Sp:=λvs H Q _=>∃ Z ds d c O u,WF Z H O/\ds.length=n/\Reps R Z H ds vs O/\vs[j]?=some u/\m ds=some (d,c) /\
 ∀{v}{Z'}{H'}{P O'},Go Z H O Z' H' (P++O')->Rep R Z' H' d v P->Rep R Z' H' c u O'->Q v H'
def VQ(j:Nat):Out->Option (D×D)
 | .rt d ρ=>(pV j ρ).bind λc=>some (d,c)
 | .nx ρ=>(pV j ρ).bind λc=>some (.non,c)
 | _=>none
def fnM(n j:Nat)(f:FS):List D->Option (D×D):=λds=>(f<|ds.map some++List.replicate (n-ds.length) none).bind (VQ j)
def qH:fnM n j f ds=(f<|ds.map some++List.replicate (n-ds.length) none).bind (VQ j):=rfl
def Go.pick(g:Go Z H O Z' H'<|P++(A++Q++B)):Go Z H O Z' H' (P++Q):=g.drop (λa h=>by simp at h ⊢;rcases h with h | h<;>simp[h]) (by
 have nd:=g.wf.nd;simp only[U8,N1] at nd ⊢;exact⟨nd.1,nd.2.1.1.2.1,λa c b d=>nd.2.2 a c b<|.inl<|.inr d⟩)
def jiI(y:DS R [j] ts f)(h:spM R (fnM N.length j f) n j vs H Q E):ts {nx:=λ_ H'=>Q .non H',rt:=Q} (L2.start N vs) H:=by
 obtain⟨Z,m,d,c,O,u,w,K,r,z,e,k⟩:=h;have s:Slots R Z H (m.map some++List.replicate (N.length-m.length) none) (L2.start N vs) O:=by
  have q:=qr r<|qA<|N.length-m.length;unfold L2.start;rw[r.length];rw[M9] at q;exact q
 have p:(L2.start N vs)[j]?=some (some u):=by
  unfold L2.start;rw[List.getElem?_append_left<|by simpa using((L9.mp z).1),List.getElem?_map,z];rfl
 have key:∀{a}{i}{l}{H'}{P t}{v},a[j]?=some (some c)->Go Z H O l H' (P++t)->Rep R l H' d v P->Slots R l H' a i t->Keep [j] (L2.start N vs) i->Q v H':=by
  intro a i l H' P t v b g D x kp;obtain⟨A,L,B,rfl,F,_,_⟩:=x.put (L9.mp b).1;obtain⟨M,G,I⟩:=F c b;have:i[j]?=some (some u):=by rw[kp j<|by simp,p]
  rw[G] at this;cases this;exact k g.pick D I
 refine ob e λo C e=>?_;cases o with
 | rt S a=>exact ob e λJ b e=>by cases e;exact y w s C<|key<|qV b
 | nx a=>exact ob e λJ b e=>by cases e;exact y w s C λg x kp=>key (qV b) ⇑g .non_mk x kp
 | bk a=>cases e
 | ct a=>cases e
def jhz(h:spM R m n j vs H Q E):vs.length=n:=by
 obtain⟨Z,b,d,c,O,u,w,a,r,_⟩:=h;rw[r.length,a]
@[simp] def pFs(p:PAf)(ρ:Rh):Option (List D):=(p ρ).bind λds=>bif frzs ds then some ds else none
@[simp] def dCallM(m:List D->Option (D×D))(i:Nat)(j:Nat)(p:PAf)(ρ:Rh):Option (D×Rh):=(p ρ).bind λds=>(pV i ρ).bind λc=>(m<|ds.take j++c::ds.drop j).bind λr=>some (r.1,ρ.set i<|some r.2)
def Go.turn(g:Go Z H O Z' H'<|A++(P++Q)++B):Go Z H O Z' H' (P++(A++Q++B)):=g.drop (λa h=>by simp at h ⊢;rcases h with h | h | h | h<;>simp[h]) (by
 have nd:=g.wf.nd;simp only[U8,N1] at nd ⊢;obtain⟨⟨j,⟨k,l,m⟩,f⟩,n,i⟩:=nd;refine⟨k,⟨⟨j,l,λa d b c=>f a d b<|.inr c⟩,n,λa d b c=>i a (d.elim .inl λq=>.inr<|.inr q) b c⟩,λa d b c e=>?_⟩;rcases c with(c | c) | c
 ·exact f b c a (.inl d) e.symm
 ·exact m a d b c e
 ·exact i a (.inr<|.inl d) b c e)
def jkq{cl}{P}{w}{K}{mg}{base}{x qual}{a}{fa}{fd}{N ps}{k n j}{fs}(F:Fun K x qual a fa fd)(c:FnScope N ps<|jt a)(d:ps.length=n)
  (b:∀ cdv A outer s H E,Room k (A.deeper<|envOfC qual (jt a) ↥s fa cdv) ->
   ∃ ts,QSs cl [j] (jeS CX0 P w K mg base N qual (jt a) fa cdv A outer s H E).nox (va a) ts fs):FnOk P w K mg base CX0 (k+1) fa fd ps (spM ⟨K,cl⟩ (fnM N.length j fs) n j):=by
 refine F.ok c (λvs H Q E h=>by rw[jhz h,d]) λcdv A outer s H vs Q E e h=>?_;obtain⟨ts,q⟩:=b cdv A outer s H E e;exact⟨ts,q.sem,jiI q.den h⟩
def BO.o(h:BO R r g):DO R r g:=λw r1 r2 e _ k=>h w.zd r1 r2 e λg3 a=>k (g3.widen w).dropR a
def oF(g:D->D->Option D):D->D->Option D:=λx y=>(g x y).bind λd=>bif frz d then some d else none
def BC.o(h:BC R r g):DC R r g:=λw r1 e _ k=>h w.zd r1 e λg3 a=>k (g3.widen w).dropR a
structure QTE(cl:Nat->Addr)(X:Cx)(e:Expr)(tt:TT)(f:FT'):Prop where
 sem:PT X e tt
 den:DT ⟨X.K,cl⟩ tt f
def jmT(h:CmpR cl X op b r gg)(c:QE cl X a ta fa)(d:QE cl X b tb fb):QTE cl X (.Compare a [op] [b] pos) (Vo<|tOp r ta tb) (Vn<|dOp gg fa fb):=⟨jbM h.o c.sem d.sem h.m,jcL<|jnq (BO.o h.g) c.den d.den⟩
def jlB(b:QTE cl X a tA ft):QTE cl X (.UnaryOp .Not a pos) (jjO tA) (jmZ ft):=⟨jfN b.sem,jmp b.den⟩
def joD(a:QTE cl X c tA ft)(b:QSs cl pm X x ts f)(d:QSs cl pm X y tu f2):QS cl pm X (.If c x y pos) (jm2 tA ts tu) (sIf ft f f2):=⟨jkx a.sem b.sem d.sem,jlu a.den b.den d.den⟩
def je4{cl}{X}{e}{es}{tr}{fr}{pos}{K:W4}{x}{p}{id}{r}{c}(f:km X (.builtin id) r)(g:BC ⟨X.K,cl⟩ r c)(h:X.mg x=none)(i:bootBuiltins x=some (.builtin id))(d:QDs cl X (e::es) tr fr)(j:Gl X x:=by rfl)
  (k:x≠"__name__":=by decide) (a:Nd x:=by decide) (l:SEq X e es:=by rfl) (b:BkE X pos es:=by rfl):
  QE cl X (.Call (.Name x p) (e::es) [] pos) (tCB r tr) (dCB c fr):=⟨Yh f j h i d.sem k a l b,jlw (BC.o g) d.den⟩
def wU:∀ ρ ds,pN ρ=some ds->ds.length=0:=λρ ds h=>by cases h;rfl
def Q4(h:∀ ρ ds,pr ρ=some ds->ds.length=n):∀ ρ ds,ja p pr ρ=some ds->ds.length=n+1:=λρ ds e=>by
 refine ob e λd a e=>ob e λl e2 e=>?_;cases e;rw[M1,h ρ l e2]
def jlN:D->Option (List D)
 | .lst _ m=>bif frzs m then some m else none
 | .tup m=>bif frzs m then some m else none
 | _=>none
def jjw(i:Nat)(p:PF)(ρ:Rh):Option Out:=(p ρ).bind λe=>(jlN e).bind λm=>(pV i ρ).bind λx=>(Q2 x).bind λl=>bif lim (l.length+m.length) then some (.nx<|ρ.set i<|some<|.lst true<|l++m) else none
def jmL(h:PB R te p):DS R pm (JY<|tBM R.K "list" (jid R.K) (jU i)<|jD te J2) (jjw i p):=by
 intro σ ρ Z H O o w s e G k;refine ob e λd y e=>ob e λm e2 e=>ob e λx z e=>ob e λl e3 e=>oc e λc e=>?_;cases e;cases Jm e3;unfold JY tBM;refine kJ (P0:=[]) qg w s z rfl qK λa _ vs I r _ t A put=>A ⟨.inl ⟨rfl,vs,SqL.of t⟩,h w.zd s y λ{u B f J} g1 r1=>?_⟩;have C:∃ b zs,u=.ref b/\(SqL R.K f b zs\/SqT R.K f b zs)/\Reps R B f m zs []:=by
  cases d with
  | lst L D=>
   refine oc e2 λg e2=>?_;cases e2;obtain⟨b,zs,E,rfl,j,n⟩:=r1.lst_of;exact⟨b,zs,rfl,.inl j.sq,n.frozen g⟩
  | tup D=>
   refine oc e2 λg e2=>?_;cases e2;obtain⟨b,zs,rfl,j,n⟩:=r1.tup_of;exact⟨b,zs,rfl,.inr j,n.frozen g⟩
  | _=>cases e2
 obtain⟨b,zs,rfl,F,v⟩:=C;obtain⟨M,g2,s2⟩:=put qK trivial g1 ((g1.reps w.zd r).append v) λq=>by simp
 exact⟨a,b,vs,zs,rfl,rfl,g1.at0 t,F,by rw[r.length,v.length];exact qP c,k g2 s2<|Keep.refl _ _⟩
noncomputable def xa:List D->Option D
 | [.bl b]=>some<|.int (if b then 1 else 0)
 | _=>none
def jis:BC R (λxs H Q=>∃ b:Bool,xs=[.bl b]/\Q (.int<|if b then 1 else 0) H) xa:=by
 intro Z H xs d vs O z r e Q k;unfold xa at e;split at e
 ·rename_i b;cases e;obtain⟨v,rfl,r1⟩:=r.one_of;obtain⟨rfl,_⟩:=r1.bl_of;exact⟨b,rfl,k (Go.id z) .int_mk⟩
 ·cases e
@[simp] def fIntB_e(b):xa [.bl b]=some (.int<|if b then 1 else 0):=rfl
def jjB(g:QB cl X (.Name x xpos) (jU i)<|pV i)(h:QB cl X e te pe)(b:attributeBase (.Name x xpos) "extend" X.env (eval (.Name x xpos) X.env)=eval (.Name x xpos) X.env:=by rfl)
  (d:((backTo cpos<|starEach [e] X.env).all (λx=>!x.1)&&(backToKw cpos<|keywordEach [] X.env).all (λx=>x.1.isSome)
   && decide ([e].length+([]:List Keyword).length+(if([]:List Keyword).isEmpty then 0 else 1)<30))=true:=by rfl)
  (c:(apos.endLine==cpos.line)=true:=by rfl) (f:starEach [e] X.env=(false,eval e X.env)::starEach [] X.env:=by rfl) (a:(backTo cpos<|starEach [] X.env).any (·.1)=false:=by rfl)
  (hsw:swapsWith (.Call (.Attribute (.Name x xpos) "extend" apos) [e] [] cpos) none pos.line X.env=pure false:=by rfl):
  QS cl pm X (.Expr (.Call (.Attribute (.Name x xpos) "extend" apos) [e] [] cpos) pos) (JY<|tBM X.K "list" (jid X.K) (jU i)<|jD te J2) (jjw i pe):=
 ⟨YD (jfx PySem.F.plainAttrs_list PySem.F.slot_list_extend PySem.F.type_list_extend jhs g.sem (jC h.sem vF f) b d c f a) hsw,jmL h.den⟩
end QD
namespace QD
open PySem L2
def jb(h:n<=100000):lim n=true:=X0 h
def kN{f:α->β}{l:List α}(h:l.length<=100000):lim (l.map f).length=true:=jb (by rw[L1];exact h)
def xQ(a:0<=i)(h:i<l.length):atI l i=l[i.toNat]?:=by
 unfold atI ixN;rw[if_pos ∅,if_pos ∅];rfl
def V2(h:(Vs lo n)[i]?=some x):x=.int (lo+i)/\i<n:=by
 unfold Vs at h;rw[List.getElem?_map] at h;by_cases hi:i<n
 ·rw[List.getElem?_range hi] at h;cases h;exact⟨rfl,hi⟩
 ·rw[List.getElem?_eq_none ⇑hi] at h;cases h
def yQ(lo)(n):(Vs lo n).length=n:=by simp[Vs]
@[simp] def eq_ss(a b):vU (.str a) (.str b)=some (.bl<|a==b):=rfl
@[simp] def joB(a b):QH (.str a) (.str b)=some (.bl<|!(a==b)):=rfl
@[simp] def in_cs(a)(c)(s):xc a (.str [c]) (.str s)=some (.bl<|a != decide (c∈s)):=rfl
@[simp] def neg_i(i):Ql (.int i)=some (.int<|-i):=rfl
def jfQ(h:a.length+b.length<=100000):jg (.str a) (.str b)=some (.str<|a++b):=by
 show(bif lim (a.length+b.length) then some (D.str<|a++b) else none)=_;rw[jb h];rfl
def jjI(h:a.length<=1000)(b:0<=n)(h1:n<=1000):yi (.str a) (.int n)=some (.str (List.replicate n.toNat a).flatten):=by
 show(bif decide (a.length<=1000)&&(decide (0<=n)&&decide (n<=1000)) then some (D.str (List.replicate n.toNat a).flatten) else none)=_;rw[X0 h,X0 b,X0 h1];rfl
def jpI(a:s.length<=100000)(b:0<=i)(h:i<s.length):jd (.str s) (.int i)=some (.str [s.getD i.toNat 0]):=by
 show(bif lim s.length then((atI s i).bind λc=>some<|D.str [c]) else none)=_;rw[jb a,xQ b h];have:i.toNat<s.length:=by lia
 simp[this]
def Jj(xs:List α)  (h:0<=k):yd xs none (some k)=xs.take k.toNat:=by
 obtain⟨n,rfl⟩:∃ n:Nat,k=n:=⟨k.toNat,by lia⟩;rw[jhH];simp
def jpj(a:s.length<=100000):jh2 lo hi (.str s)=some (.str<|yd s lo hi):=by
 show(bif lim s.length then some (D.str<|yd s lo hi) else none)=_;rw[jb a];rfl
@[simp] def itemsOf_str(s):Km (.str s)=some (s.map λc=>D.str [c]):=rfl
@[simp] def fAll_lst(o)(l):jkd [.lst o l]=(JJ l).bind λbs=>some (.bl<|bs.all λb=>b):=rfl
@[simp] def fTuple_lst(o)(l):Q6 [.lst o l]=bif frzs l then some (.tup l) else none:=rfl
def jcd(w)(l:W1):jjo (.str w) (l.map D.str)=true:=by
 unfold jjo;rw[M0];refine⟨rfl,List.all_eq_true.mpr λy a=>?_⟩;obtain⟨z,_,rfl⟩:=M5.mp a;rfl
def jeD(w)(l:W1):inL (.str w) (l.map D.str)=decide (w∈l):=by
 unfold inL;rw[Bool.eq_iff_iff,List.any_eq_true,decide_eq_true_eq];constructor
 ·rintro⟨y,a,e⟩;obtain⟨z,b,rfl⟩:=M5.mp a;have:z=w:=by
   exact eq_of_beq e
  exact this▸b
 ·intro h;exact⟨.str w,M5.mpr ⟨w,h,rfl⟩,by show(w==w)=true;simp⟩
def KC(a o)(w)(l:W1):xc a (.str w) (.lst o<|l.map D.str)=some (.bl<|a != decide (w∈l)):=by
 show(bif jjo (.str w) (l.map D.str) then some (D.bl<|a != inL (.str w) (l.map D.str)) else none)=_;rw[jcd,jeD];rfl
mutual
theorem jd2:∀(n:Nat) (d:D),okE n d=true->eqD d d=true
 | n,.non,_=>rfl
 | n,.bl _,_=>by show(_==_)=true;simp
 | n,.int _,_=>by show(_==_)=true;simp
 | n,.str _,_=>by show(_==_)=true;simp
 | n+1,.tup l,h=>by rw[eqD];exact YA n l (by simpa [okE] using h)
 | n+1,.lst _ l,h=>by rw[eqD];exact YA n l (by simpa [okE] using h)
 | 0,.tup l,h=>by simp[okE] at h
 | 0,.lst _ l,h=>by simp[okE] at h
 | n,.dK _ _ _,h=>by cases n<;>simp[okE] at h
 | n,.dT _ _ _,h=>by cases n<;>simp[okE] at h
 | n,.ins _ _ _ _,h=>by cases n<;>simp[okE] at h
 | n,.dead,h=>by cases n<;>simp[okE] at h
 | n,.tok _,h=>by cases n<;>simp[okE] at h
 | n,.kt _,h=>by cases n<;>simp[okE] at h
 | n,.exc _ _,h=>by cases n<;>simp[okE] at h
theorem YA:∀(n:Nat) (l:List D),ve n l=true->Qz l l=true
 | n,[],_=>rfl
 | n,d::l,h=>by
  rw[ve,M0] at h;rw[Qz,jd2 n d h.1,YA n l h.2];rfl
end
def vE(h:∀ d∈l,okE n d=true):ve n l=true:=by rw[KB];exact List.all_eq_true.mpr h
theorem yj:∀{l},(∀ d∈l,frz d=true)->frzs l=true
 | [],_=>rfl
 | d::l,h=>by rw[JI,h d<|by simp,yj λx a=>h x<|by simp[a]];rfl
theorem Jk:∀{l},(∀ d∈l,fz d=d)->fzs l=l
 | [],_=>rfl
 | d::l,h=>by rw[jej,h d<|by simp,Jk λx a=>h x<|by simp[a]]
def kY{f:α->D}(h:∀ x,frz (f x)=true)(l:List α):frzs (l.map f)=true:=yj λd hd=>by obtain⟨p,_,rfl⟩:=M5.mp hd;exact h p
def kK{f:α->D}(h:∀ x,fz (f x)=f x)(l:List α):fzs (l.map f)=l.map f:=Jk λd hd=>by obtain⟨p,_,rfl⟩:=M5.mp hd;exact h p
def yg(h:∀ c∈w,c<1114112):okE n (.str w)=true:=by
 exact List.all_eq_true.mpr λc a=>X0<|h c a
@[simp] def okE_int(n)(i):okE n (.int i)=true:=by cases n<;>rfl
def jhr{l:List Nat}{i N}(h:∀ c∈l,c<N)(a:0<N):l.getD i 0<N:=by
 rw[List.getD_eq_getElem?_getD];cases e:l[i]? with
 | none=>exact a
 | some c=>exact h c<|List.mem_of_getElem? e
theorem wt{G}{Good:D->Prop}{P:Rh->Prop}:∀{xs}(_:∀ x∈xs,∀ ρ,P ρ->∃ ρ1 y,G x ρ=some ρ1/\p ρ1=some y/\Good y/\P ρ1) {ρ}(_:P ρ),∃ ys,An3 (jV G qT p xs ρ=some ys) (ys.length=xs.length)<|∀ y∈ys,Good y
 | [],_,ρ,_=>⟨[],rfl,rfl,by simp⟩
 | x::xs,step,ρ,b=>by
  obtain⟨ρ1,y,c,e2,d,p1⟩:=step x (by simp) ρ b;obtain⟨ys,e3,e,f⟩:=wt (xs:=xs) (λz a=>step z<|by simp[a]) p1;refine⟨y::ys,?_,by simp[e],?_⟩
  ·rw[vv,c];simp[e2,e3]
  ·intro z a;rcases M4.mp a with rfl | a
   ·exact d
   ·exact f z a
theorem KW{f:α->D}{Q:α->Prop}:∀{ys},(∀ y∈ys,∃ a,y=f a/\Q a)->∃ l:List α,ys=l.map f/\∀ a∈l,Q a
 | [],_=>⟨[],rfl,by simp⟩
 | y::ys,h=>by
  obtain⟨a,e,q⟩:=h y (by simp);obtain⟨l,e2,c⟩:=KW (ys:=ys) λz d=>h z (by simp[d]);exact⟨a::l,by rw[e,e2];rfl,λb g=>(M4.mp g).elim (λz=>z▸q) (c b)⟩
def jpd(a:frzs l=true):jh2 lo hi (.lst o l)=some (.lst true<|yd l lo hi):=by
 show(bif frzs l then some (D.lst true<|yd l lo hi) else none)=_;rw[a];rfl
def jaz(a:0<=i)(h:i<l.length):jd (.lst o l) (.int i)=l[i.toNat]?:=xQ a h
def jgy(a:0<=i)(h:i<l.length):jd (.tup l) (.int i)=l[i.toNat]?:=xQ a h
def Wd(w:List Nat):Prop:=w.length<=30/\∀ c∈w,c<1114112
@[simp] def Kg(l:W1):fzs (l.map D.str)=l.map D.str:=by
 rw[vT,U0];rfl
@[simp] def v7(l:W1):frzs (l.map D.str)=true:=by
 rw[kB,List.all_map,List.all_eq_true];intro x _;rfl
@[simp] def cleans_strs(l:W1):ym (l.map D.str)=true:=by
 rw[yJ,List.all_map,List.all_eq_true];intro x _;rfl
def Qj{n}{l:W1}(h:∀ w∈l,Wd w):ve n (l.map D.str)=true:=
 vE λd hd=>by
  obtain⟨w,a,rfl⟩:=M5.mp hd;exact yg (h w a).2
def ki{l:W1}{i:Int}(a:0<=i)(h:i<l.length):jd (.lst o<|l.map D.str) (.int i)=some (.str<|l.getD i.toNat []):=by
 rw[jaz a<|by rw[L1];exact h,List.getElem?_map,List.getD_eq_getElem?_getD,X5 ∅];rfl
def yo{l:List α}{i}(h:i<l.length):l.getD i d∈l:=by
 rw[List.getD_eq_getElem?_getD,X5 h];exact List.getElem_mem h
def Ku(f:α->β)(l)(lo hi):yd (l.map f) lo hi=(yd l lo hi).map f:=by
 unfold yd;rw[L1,List.map_take,List.map_drop]
def jZ(h:x∈yd l lo hi):x∈l:=List.mem_of_mem_drop<|List.mem_of_mem_take h
def yR(l:List α)(lo hi):(yd l lo hi).length<=l.length:=by
 unfold yd;rw[X6,List.length_drop]
 lia
def kc(h:l.Nodup):(yd l lo hi).Nodup:=(h.sublist<|List.drop_sublist _ _).sublist (List.take_sublist _ _)
def kr(o)(l)(lo hi):jh2 lo hi (.lst o<|l.map D.str)=some (.lst true<|(yd l lo hi).map D.str):=by
 rw[jpd<|v7 l,Ku]
def uh{a b:W1}(h:a.length+b.length<=100000):jg (.lst o<|a.map D.str) (.lst o'<|b.map D.str)=some (.lst true<|(a++b).map D.str):=by
 show(bif lim ((a.map D.str).length+(b.map D.str).length)&&(frzs (a.map D.str)&&frzs (b.map D.str)) then some (D.lst true<|a.map D.str++b.map D.str) else none)=_;rw[v7,v7,L1,L1,jb h,N4];rfl
def Qc:∀{l:W1}{x},x∈jL s (l.map D.str)->Ex2 λ(i:Nat) (c:List Nat)=>An4 (x=.tup [.int i,.str c]) (s<=i) (i<s+l.length) (c∈l):=by
 intro l
 induction l generalizing s with
 | nil=>intro x h;cases h
 | cons c l a=>
  intro x h;rcases M4.mp h with rfl | h
  ·exact⟨s,c,rfl,M8 _,by simp,by simp⟩
  ·obtain⟨i,b,e,f,g,d⟩:=a h;exact⟨i,b,e,by lia,by rw[M1];lia,by simp[d]⟩
def kf(St:List α->Rh->Prop)(Ok:α->Prop)(b M):∀{xs}{acc}{ρ},
  (∀ x∈xs,∀ acc ρ,acc.length<=M->(∀ a∈acc,Ok a)->St acc ρ->∃ ρ1 ρ2 L,G x ρ=some ρ1/\f ρ1=some (.nx ρ2)/\L.length<=b/\(∀ a∈L,Ok a)/\St (acc++L) ρ2) ->
  acc.length+b*xs.length<=M->(∀ a∈acc,Ok a)->St acc ρ->Ex2 λρ' T=>An4 (jG G f xs ρ=some (.nx ρ')) (St (acc++T) ρ') (T.length<=b*xs.length) (∀ a∈T,Ok a):=by
 intro xs
 induction xs with
 | nil=>
  intro acc ρ step g c d;exact⟨ρ,[],rfl,by rw[M9];exact d,by simp,by simp⟩
 | cons x xs i=>
  intro acc ρ step g c d;rw[M1,Nat.mul_succ] at g;obtain⟨ρ1,ρ2,L,j,e2,n,h,k⟩:=step x (by simp) acc ρ ∅ c d;obtain⟨ρ',T,e3,l,o,e⟩:=i (λy m=>step y<|by simp[m]) (by rw[N3];lia) (λa q=>(N1.mp q).elim (c a) (h a)) k;refine⟨ρ',L++T,?_,by rw[<- List.append_assoc];exact l,by rw[N3,M1,Nat.mul_succ];lia,λa q=>(N1.mp q).elim (h a) (e a)⟩;rw[jM,j,L4,e2,L4,Yr,e3]
def jba(en)(g:β->γ)(St:List α->Rh->Prop)(Ok:α->Prop)(b)(N):∀{C:List β}{s}{acc}{ρ},
  (∀ i c acc ρ,i<N->c∈C->acc.length<N->St acc ρ->∃ ρ1 ρ2 a,G (.tup [.int i,en c]) ρ=some ρ1/\f ρ1=some (.nx ρ2)/\b a=g c/\Ok a/\St (acc++[a]) ρ2) ->
  s+C.length<=N->acc.length+C.length<=N->St acc ρ->Ex2 λρ' T=>An4 (jG G f (jL s<|C.map en) ρ=some (.nx ρ')) (St (acc++T) ρ') (T.map b=C.map g) (∀ a∈T,Ok a):=by
 intro C
 induction C with
 | nil=>
  intro s acc ρ step h j d;exact⟨ρ,[],rfl,by rw[M9];exact d,rfl,by simp⟩
 | cons c C l=>
  intro s acc ρ step h j d;rw[M1] at h j;obtain⟨ρ1,ρ2,a,m,e2,n,o,p⟩:=step s c acc ρ ∅ (by simp) ∅ d;obtain⟨ρ',T,e3,k,r,e⟩:=l (s:=s+1) (λi y acc ρ hi t=>step i y acc ρ hi<|by simp[t]) ∅ (by rw[N3];simp only[M1,List.length_nil];lia) p;refine⟨ρ',a::T,?_,by rw[List.append_assoc] at k;exact k,by rw[L5,L5,n,r],λx q=>(M4.mp q).elim (λz=>z▸o) (e x)⟩;rw[L5,jL,jM,m,L4,e2,L4,Yr,e3]
def wI(St:List α->Rh->Prop)(Ok:α->Prop)(b)(N) 
  (step:∀ i c acc ρ,i<N->c∈C->acc.length<N->St acc ρ->∃ ρ1 ρ2 a,G (.tup [.int i,.str c]) ρ=some ρ1/\f ρ1=some (.nx ρ2)/\b a=c/\Ok a/\St (acc++[a]) ρ2)
  (h1:s+C.length<=N) (h2:acc.length+C.length<=N) (d:St acc ρ):Ex2 λρ' T=>An4 (jG G f (jL s<|C.map D.str) ρ=some (.nx ρ')) (St (acc++T) ρ') (T.map b=C) (∀ a∈T,Ok a):=by
 obtain⟨ρ',T,e,h,g,j⟩:=jba D.str id St Ok b N step h1 h2 d;exact⟨ρ',T,e,h,by rw[g,List.map_id],j⟩
def je6(St:List (List Nat)->Rh->Prop)(N):∀{C}{s}{acc}{ρ},
  (∀ i c acc ρ,i<N->c∈C->acc.length<N->St acc ρ->∃ ρ1 ρ2,G (.tup [.int i,.str c]) ρ=some ρ1/\f ρ1=some (.nx ρ2)/\(St (acc++[c]) ρ2\/St acc ρ2)) ->
  s+C.length<=N->acc.length+C.length<=N->St acc ρ->Ex2 λρ' T=>An3 (jG G f (jL s<|C.map D.str) ρ=some (.nx ρ')) (St (acc++T) ρ') (T.Sublist C):=by
 intro C
 induction C with
 | nil=>
  intro s acc ρ step h j d;exact⟨ρ,[],rfl,by rw[M9];exact d,.slnil⟩
 | cons c C k=>
  intro s acc ρ step h j d;rw[M1] at h j;obtain⟨ρ1,ρ2,l,e2,a⟩:=step s c acc ρ ∅ (by simp) ∅ d;rcases a with a | a
  ·obtain⟨ρ',T,e3,b,e⟩:=k (s:=s+1) (λi y acc ρ hi g=>step i y acc ρ hi<|by simp[g]) ∅ (by rw[N3];simp only[M1,List.length_nil];lia) a;refine⟨ρ',c::T,?_,by rw[List.append_assoc] at b;exact b,e.cons_cons c⟩;rw[L5,jL,jM,l,L4,e2,L4,Yr,e3]
  ·obtain⟨ρ',T,e3,b,e⟩:=k (s:=s+1) (λi y acc ρ hi g=>step i y acc ρ hi<|by simp[g]) ∅ ∅ a;refine⟨ρ',T,?_,b,e.cons c⟩;rw[L5,jL,jM,l,L4,e2,L4,Yr,e3]
def VM{G}{l:List α}{en out}{b}(P:Rh->Prop)(step:∀ x∈l,∀ ρ,P ρ->∃ ρ1,G (en x) ρ=some ρ1/\q ρ1=some (b x)/\p ρ1=some (out x)/\P ρ1){ρ}(a:P ρ):jV G q p (l.map en) ρ=some ((l.filter b).map out):=by
 induction l generalizing ρ with
 | nil=>rfl
 | cons x l c=>
  obtain⟨ρ1,d,e2,e3,p1⟩:=step x L7 ρ a;have:=c (λy e=>step y<|L6 _ e) p1;rw[L5,vv,d,L4,e2,L4];cases hb:b x with
  | true=>simp[e3,this,hb]
  | false=>simp[this,hb]
mutual
theorem jmy:∀(n:Nat) (d:D),okE n d=true->eqD (fz d) d=true
 | n,.non,_=>rfl
 | n,.bl _,_=>by show(_==_)=true;simp
 | n,.int _,_=>by show(_==_)=true;simp
 | n,.str _,_=>by show(_==_)=true;simp
 | n+1,.tup l,h=>by rw[fz,eqD];exact z4 n l (by simpa [okE] using h)
 | n+1,.lst _ l,h=>by rw[fz,eqD];exact z4 n l (by simpa [okE] using h)
 | 0,.tup l,h=>by simp[okE] at h
 | 0,.lst _ l,h=>by simp[okE] at h
 | n,.dK _ _ _,h=>by cases n<;>simp[okE] at h
 | n,.dT _ _ _,h=>by cases n<;>simp[okE] at h
 | n,.ins _ _ _ _,h=>by cases n<;>simp[okE] at h
 | n,.dead,h=>by cases n<;>simp[okE] at h
 | n,.tok _,h=>by cases n<;>simp[okE] at h
 | n,.kt _,h=>by cases n<;>simp[okE] at h
 | n,.exc _ _,h=>by cases n<;>simp[okE] at h
theorem z4:∀(n:Nat) (l:List D),ve n l=true->Qz (fzs l) l=true
 | n,[],_=>rfl
 | n,d::l,h=>by
  rw[ve,M0] at h;rw[fzs,Qz,jmy n d h.1,z4 n l h.2];rfl
end
mutual
theorem jbW:∀(n:Nat) (d e:D),okE n d=true->fz d=fz e->eqD d e=true
 | n,.non,e,_,h=>by cases e<;>simp[fz] at h;rfl
 | n,.bl _,e,_,h=>by cases e<;>simp[fz] at h;subst h;show(_==_)=true;simp
 | n,.int _,e,_,h=>by cases e<;>simp[fz] at h;subst h;show(_==_)=true;simp
 | n,.str _,e,_,h=>by cases e<;>simp[fz] at h;subst h;show(_==_)=true;simp
 | n+1,.tup l,e,h,q=>by
  cases e<;>simp[fz] at q;rw[eqD];exact zM n l _ (by simpa [okE] using h) q
 | n+1,.lst _ l,e,h,q=>by
  cases e<;>simp[fz] at q;rw[eqD];exact zM n l _ (by simpa [okE] using h) q
 | 0,.tup l,e,h,_=>by simp[okE] at h
 | 0,.lst _ l,e,h,_=>by simp[okE] at h
 | n,.dK _ _ _,e,h,_=>by cases n<;>simp[okE] at h
 | n,.dT _ _ _,e,h,_=>by cases n<;>simp[okE] at h
 | n,.ins _ _ _ _,e,h,_=>by cases n<;>simp[okE] at h
 | n,.dead,e,h,_=>by cases n<;>simp[okE] at h
 | n,.tok _,e,h,_=>by cases n<;>simp[okE] at h
 | n,.kt _,e,h,_=>by cases n<;>simp[okE] at h
 | n,.exc _ _,e,h,_=>by cases n<;>simp[okE] at h
theorem zM:∀(n:Nat) (l m:List D),ve n l=true->fzs l=fzs m->Qz l m=true
 | n,[],[],_,_=>rfl
 | n,[],_::_,_,q=>by simp[fzs] at q
 | n,_::_,[],_,q=>by simp[fzs] at q
 | n,d::l,e::m,h,q=>by
  rw[ve,M0] at h;rw[fzs,fzs] at q;injection q with q1 q2;rw[Qz,jbW n d e h.1 q1,zM n l m h.2 q2];rfl
end
def jiN(h:okE 20 d=true)(h':okE 20 e=true)(q:fz d=fz e)(a:kW d=false:=by rfl):QH d e=some (.bl false):=by
 unfold QH;rw[a,h,h',jbW 20 d e h q];rfl
def jbm(h:okE 20 d=true)(h':okE 20 e=true)(q:fz d=fz e)(a:kW d=false:=by rfl):vU d e=some (.bl true):=by
 unfold vU;rw[a,h,h',jbW 20 d e h q];rfl
theorem Y4:∀ l:List (List Nat×D),Yu (l.map λp=>.tup [.str p.1,p.2])=some (l.map λp=>(KA.str p.1,p.2))
 | []=>rfl
 | p::l=>by
  rw[L5,Yu,Y4 l];rfl
theorem YE:∀(ps:List<|KA×D) ks vs,(ks++ps.map (·.1)).Nodup->ps.foldl (λacc kv=>kn acc.1 acc.2 kv.1 kv.2) (ks,vs)=(ks++ps.map (·.1),vs++ps.map (·.2))
 | [],ks,vs,_=>by simp
 | p::ps,ks,vs,h=>by
  have a:p.1∉ks:=by
   intro z;exact(U8.mp h).2.2 p.1 z p.1 (by simp) rfl
  have b:kn ks vs p.1 p.2=(ks++[p.1],vs++[p.2]):=by unfold kn;rw[if_neg a]
  show ps.foldl _ (kn ks vs p.1 p.2)=_;rw[b,YE ps (ks++[p.1]) (vs++[p.2]) ⇑h];simp
def VA{l:List (List Nat×D)}(f:(l.map (·.1)).Nodup)(g:∀ p∈l,frz p.2=true)(i:l.length<=100000):vh [.lst o<|l.map λp=>.tup [.str p.1,p.2]]=some (.dK true (l.map λp=>KA.str p.1) (l.map (·.2))):=by
 have j:((l.map λp=>(KA.str p.1,p.2)).map (·.1)).Nodup:=by
  rw[U0];have:((λx:KA×D=>x.1) ∘ λp:List Nat×D=>(KA.str p.1,p.2))=KA.str ∘ (·.1):=rfl;rw[this,<- U0];exact List.Pairwise.map _ (λa b h z=>h<|by cases z;rfl) f
 show((Yu<|l.map λp=>.tup [.str p.1,p.2]).bind λc=>bif frzs (c.map (·.2))&&lim c.length then some (D.dK true (xn c).1 (xn c).2) else none)=_;rw[Y4,L4];have e:((l.map λp=>(KA.str p.1,p.2)).map (·.2))=l.map (·.2):=by rw[U0];rfl
 rw[e,yj (by intro d hd;obtain⟨p,k,rfl⟩:=M5.mp hd;exact g p k),L1,jb i];unfold xn;rw[YE (l.map λp=>(KA.str p.1,p.2)) [] [] ⇑j,e];simp[U0]
noncomputable def lkp{α:Type}(w:List Nat):List (List Nat×α)->Option α
 | []=>none
 | p::l=>if p.1=w then some p.2 else lkp w l
theorem YU(w):∀ l:List (List Nat×D),KR (l.map λp=>KA.str p.1) (l.map (·.2)) (.str w)=lkp w l
 | []=>rfl
 | p::l=>by
  rw[L5,L5,KR,lkp,YU w l];by_cases h:p.1=w
  ·rw[if_pos h,if_pos<|by rw[h]]
  ·rw[if_neg h,if_neg<|λz=>h<|by cases z;rfl]
theorem jcZ(f:α->β)(w):∀ l:List (List Nat×α),lkp w (l.map λp=>(p.1,f p.2))=(lkp w l).map f
 | []=>rfl
 | p::l=>by
  rw[L5,lkp,lkp,jcZ f w l];by_cases h:p.1=w
  ·rw[if_pos h,if_pos h];rfl
  ·rw[if_neg h,if_neg h]
theorem uo:∀{l:List (List Nat×α)},w∈l.map (·.1)->∃ a,lkp w l=some a/\(w,a)∈l
 | [],h=>by cases h
 | p::l,h=>by
  rw[lkp];by_cases e:p.1=w
  ·rw[if_pos e];exact⟨p.2,rfl,by rw[<- e];simp⟩
  ·rw[if_neg e];obtain⟨a,b,c⟩:=uo<|(M4.mp h).resolve_left λz=>e z.symm;exact⟨a,b,by simp[c]⟩
noncomputable def dct(o:Bool)(N:W1)(f:List Nat->Int):D:=.dK o (N.map KA.str)<|N.map λn=>D.int<|f n
theorem Yn(f:List Nat->Int):∀{N:W1},c∈N->KR (N.map KA.str) (N.map λn=>D.int<|f n) (.str c)=some (.int<|f c)
 | [],h=>by cases h
 | n::N,h=>by
  rw[L5,L5,KR];by_cases e:n=c
  ·rw[if_pos<|by rw[e],e]
  ·rw[if_neg λz=>e<|by cases z;rfl];exact Yn f<|(M4.mp h).resolve_left λz=>e z.symm
def yA(h:c∈N):yq (dct o N f) (.str c)=some (.int<|f c):=Yn f h
theorem wV(f:List Nat->Int)(c)(v):∀ N:List (List Nat),jb5 (N.map KA.str) (N.map λn=>D.int<|f n) (.str c) (.int v)=N.map λn=>D.int (if n=c then v else f n)
 | []=>rfl
 | n::N=>by
  rw[L5,L5,jb5,wV f c v N,L5];by_cases e:n=c
  ·rw[if_pos<|by rw[e],if_pos e]
  ·rw[if_neg λz=>e (by cases z;rfl),if_neg e]
def uA{N:W1}{f:List Nat->Int}{c}{v}(h:c∈N):kn (N.map KA.str) (N.map λn=>D.int<|f n) (.str c) (.int v)=(N.map KA.str,N.map λn=>D.int<|if n=c then v else f n):=by
 unfold kn;rw[if_pos<|M5.mpr ⟨c,h,rfl⟩,wV]
theorem Vb:∀{l:List (List Nat×α)},(l.map (·.1)).Nodup->∀ p∈l,lkp p.1 l=some p.2
 | [],_,_,h=>by cases h
 | q::l,a,p,h=>by
  rw[L5,List.nodup_cons] at a;rw[lkp];rcases M4.mp h with rfl | h
  ·rw[if_pos rfl]
  ·rw[if_neg λz=>a.1<|by rw[z];exact M5.mpr ⟨p,h,rfl⟩];exact Vb a.2 p h
def fnOf(S:List<|List Nat×Int)(n:List Nat):Int:=(lkp n S).getD 0
def jaA{S}(a:(S.map (·.1)).Nodup){p}(h:p∈S):fnOf S p.1=p.2:=by
 unfold fnOf;rw[Vb a p h];rfl
def yG{S}(b:(S.map (·.1)).Nodup)(c:S.length<=100000):vh [.lst o<|S.map λp=>.tup [.str p.1,.int p.2]]=some (dct true (S.map (·.1))<|fnOf S):=by
 have e:=VA (o:=o) (l:=S.map λq=>(q.1,D.int q.2)) (by rw[U0];exact b) (by intro q d;obtain⟨a,_,rfl⟩:=M5.mp d;rfl) (by rw[L1];exact c);rw[U0,U0,U0] at e;refine e.trans ?_;unfold dct;rw[U0,U0];congr 2;refine List.map_congr_left λp f=>?_;show D.int p.2=D.int (fnOf S p.1);rw[jaA b f]
def ur(N:W1)(f:List Nat->Int):frzs (N.map λn=>D.int<|f n)=true:=yj λd hd=>by
 obtain⟨n,_,rfl⟩:=M5.mp hd;rfl
def zg(N:W1)(f:List Nat->Int):(((N.map KA.str).zip (N.map λn=>D.int<|f n)).map λp=>D.tup [kaD p.1,p.2])=N.map λn=>D.tup [.str n,.int<|f n]:=by
 induction N with
 | nil=>rfl
 | cons n N a=>
  rw[L5,L5,U6,L5,L5,a];rfl
@[simp] def dkOf_dct(N)(f):jf6 (dct true N f)=some (N.map KA.str,N.map λn=>D.int<|f n):=rfl
variable {ρ:Rh}{fa fb fe:FE}{ft fu:FT'}{fr:FA}{p:PAf}{pi:PAf}{g:D->D->Option D}{gl:List D->Option D}{G:D->Rh->Option Rh}{f:FS}{m:List D->Option (D×D)}{mp:List D->Option D}{i j:Nat}
@[simp] def dCBx_e:dCB gl fr ρ=(fr ρ).bind λr=>(gl r.1).bind λz=>some (z,r.2):=rfl
@[simp] def dTestx_e:Vn fa ρ=(fa ρ).bind λr=>(jf4 r.1).bind λb=>some (b,r.2):=by
 unfold Vn;cases fa ρ with
 | none=>rfl
 | some r=>
  obtain⟨x,a⟩:=r;cases x<;>rfl
@[simp] def oF_e:oF g x y=(g x y).bind λd=>bif frz d then some d else none:=rfl
end QD
namespace L2
open PySem PySem.Spec PyProof.Rows
end L2
namespace QD
open PySem L2 PySem.Spec PyProof.Rows
noncomputable def Yc:Int->List D->List D
 | _,[]=>[]
 | n,x::l=>.tup [.int n,x]::Yc (n+1) l
theorem Qy:∀ n l,(Yc n l).length=l.length
 | _,[]=>rfl
 | n,x::l=>by rw[Yc,M1,M1,Qy]
theorem K8:∀ n l (i:Nat) y,(Yc n l)[i]?=some y->∃ x,l[i]?=some x/\y=.tup [.int<|n+i,x]
 | _,[],_,_,e=>by simp[Yc] at e
 | n,x::l,0,y,e=>by simp[Yc] at e;exact⟨x,rfl,by rw[<- e];simp⟩
 | n,x::l,i+1,y,e=>by
  obtain⟨z,a,e2⟩:=K8 (n+1) l i y (by simpa [Yc] using e);exact⟨z,by simpa using a,by rw[e2];congr 3;lia⟩
def jmq(p:PAf)(q:PF)(ρ:Rh):Option (List D):=(p ρ).bind λx=>(jed x).bind λx=>(jgt x).bind λl=>(q ρ).bind λy=>(vg y).bind λn=>bif Vv n then some (Yc n<|fzs l) else none
def jk3(h:PPs R ta p)(d:PB R tb q):PIt R (joh R.K ta tb) (jmq p q):=by
 intro σ ρ Z H O B z s e Q k;refine ob e λx f e=>ob e λy e3 e=>ob e λl g e=>ob e λC e2 e=>ob e λn e5 e=>oc e λi e=>?_;cases e;cases jE e5;obtain⟨o,rfl⟩:=JO g;cases qd e3;refine h z s f λ{vs j D m} g1 r1=>?_;obtain⟨v,rfl,r2⟩:=r1.one_of;obtain⟨a,ws,E,rfl,r,t,rfl,_⟩:=(r2.freeze (Z':=λa=>j a\/a∈m) (λa z=>.inl z) λa z=>.inr z);have b:=g1.fz;refine d b.wf.zd (b.slots z s) e2 λ{u F G I} g2 w=>?_;obtain⟨rfl,_⟩:=w.int_of;have c:=t.frame g2.zz<|λa z=>g2.same a<|b.wf.zd a z;have J:=YO i;refine⟨a,ws,n,rfl,rfl,by unfold Builtin.SmallTypes.fitsIndex;simp;lia,FL.sq c,k (b.pair g2) ?_⟩;exact jbQ c (r.frame g2.zz (λa z=>g2.same a<|b.wf.zd a z)<|λa A=>(nomatch A)) (Qy _ _)<|K8 _ _
noncomputable def zy:List (List KA)->List D->List KA->Option D
 | k::ks,d::l,a=>if k=a then some d else zy ks l a
 | _,_,_=>none
def V6{a b:List KA}(h:a.map kaV=b.map kaV):a=b:=by
 induction a generalizing b with
 | nil=>cases b with
  | nil=>rfl
  | cons y b=>simp at h
 | cons x a c=>cases b with
  | nil=>simp at h
  | cons y b=>
   simp only[L5,List.cons.injEq] at h;rw[KQ h.1,c h.2]
theorem Yi:∀{ks}{l}{vs}{O}{a},Reps R Z H l vs O->ks.length=l.length ->
  (∀ d,zy ks l a=some d->∃ v P,Vp ((ks.map<|List.map kaV).zip vs) (a.map kaV)=some v/\Rep R Z H d v P)/\(zy ks l a=none->Vp ((ks.map<|List.map kaV).zip vs) (a.map kaV)=none)
 | [],l,vs,O,a,r,c=>⟨λd e=>(by cases l<;>cases e),λ_=>rfl⟩
 | k::ks,[],vs,O,a,r,c=>by simp at c
 | k::ks,x::l,vs,O,a,r,c=>by
  obtain⟨v,b,f,i,rfl,rfl,r1,r2⟩:=r;by_cases e:k=a
  ·subst e;refine⟨λd h=>?_,λh=>?_⟩
   ·simp only[zy,if_true] at h;cases h;exact⟨v,f,JD rfl,r1⟩
   ·simp[zy] at h
  ·have g:=λz=>e<|V6 z;have q:Vp (((k::ks).map (List.map kaV)).zip (v::b)) (a.map kaV)=Vp ((ks.map<|List.map kaV).zip b) (a.map kaV):=Jr g;rw[q];simp only[zy,if_neg e];exact(Yi (a:=a) r2 ⇑c)
def je8:PP R jbp (pC<|.dT true [] []):=by
 intro σ ρ Z H O d z s e Q k;cases e;intro p a;exact k (Go.newO (wf0 z) a) ⟨p,[],[],rfl,.empty,rfl,jk,rfl⟩
abbrev jeZ(ta tb:TE):TE:=zw<|jD ta<|jD tb J2
def jjr(pa pb:PF)(ρ:Rh):Option (List KA):=(pa ρ).bind λx=>(pb ρ).bind λy=>(kC x).bind λa=>(kC y).bind λb=>some [a,b]
def Yg (c : PB R ta pa) (d : PB R tb pb)  (z : Zd Z H) (s : Slots R Z H ρ σ O) (e : jjr pa pb ρ = some k)
     (go:∀{p}{Z'}{H'},Go Z H [] Z' H' []->Z' p->H' p=some (.tup<|(k.map kaV).map kV)->Q (.ref p) H'):jeZ ta tb σ H Q:=by
 refine ob e λx f e=>ob e λy e2 e=>ob e λa e3 e=>ob e λb g e=>?_;cases e;refine c z s f λ{v i j l} g1 r1=>(d g1.wf.zd (g1.slots z s) e2 λ{u m n o} g2 r2=>?_);obtain⟨rfl,_⟩:=yU e3 r1;obtain⟨rfl,_⟩:=yU g r2;refine⟨by show 2<=sizeLine;decide,λp h=>?_⟩;exact go ((g1.pair g2).trans (Go.newF g2.wf h)) (.inr rfl) jk
def Rep.dT_of(r:Rep R Z H (.dT o ks l) v O):Ex3 λa vs O'=>An4 (v=.ref a) (H a=some (.dT<|(ks.map<|List.map kaV).zip vs)) (Reps R Z H l vs O') (ks.length=l.length):=by
 obtain⟨a,vs,O',rfl,b,c,d,_⟩:=r;exact⟨a,vs,O',rfl,d,b,c⟩
def zo(x:D)(k:List KA)(z:D):Option D:=match x with
 | .dT _ ks l=>some<|(zy ks l k).getD z
 | _=>none
@[simp] def opTGet_e(o)(ks)(l)(k)(z):zo (.dT o ks l) k z=some ((zy ks l k).getD z):=rfl
@[simp] def xB(pd:PF)(pa:PF)(pb:PF)(pc:PF)(ρ:Rh):Option D:=(pd ρ).bind λx=>(jjr pa pb ρ).bind λk=>(pc ρ).bind λz=>zo x k z
@[simp] def pKey_e:jjr pa pb ρ=(pa ρ).bind λx=>(pb ρ).bind λy=>(kC x).bind λa=>(kC y).bind λb=>some [a,b]:=rfl
def jfv(hd:PB R td pd)(m:PB R ta pa)(n:PB R tb pb)(q:PB R tx pc):PB R (jdq td (jeZ ta tb) tx) (xB pd pa pb pc):=by
 intro σ ρ Z H O d z s e Q k;refine ob e λx r e=>ob e λy e2 e=>ob e λc u e=>?_;cases x with
 | dT o A l=>
  cases e;refine hd z s r λ{v J K L} g1 r1=>?_;obtain⟨p,vs,M,rfl,B,N,S⟩:=r1.dT_of;refine⟨p,rfl,.inr ⟨_,.inl B⟩,(Yg m n g1.wf.zd (g1.slots z s) e2 λ{b T U} g2 V j=>?_)⟩;have a:=g1.pair g2;refine q g2.wf.zd (a.slots z s) u λ{t Z3 C W} g3 D=>?_;obtain⟨X,E,F,G,f,g,h,_⟩:=((g2.pair g3).rep g1.wf.zd r1);cases G;have i:C b=some (.tup<|(y.map kaV).map kV):=by rw[g3.same b<|by rw[j];exact λz=>(nomatch z)];exact j
  cases ev:zy A l y with
  | none=>exact⟨none,(Yi f g).2 ev▸DGet.t h i,k (a.pair g3)<|by rw[ev];exact D⟩
  | some d=>
   obtain⟨w,P,I,rw⟩:=(Yi f g).1 d ev;exact⟨some w,I▸DGet.t h i,k (a.pair g3)<|by rw[ev];exact rw⟩
 | _=>cases e
noncomputable def jez:List (List KA)->List D->List KA->D->List D
 | k::ks,x::l,a,d=>(if k=a then d else x)::jez ks l a d
 | _,_,_,_=>[]
theorem wG:∀{ks}{l} a d,ks.length=l.length->(jez ks l a d).length=l.length
 | [],[],_,_,_=>rfl
 | [],_::_,_,_,h=>by simp at h
 | _::_,[],_,_,h=>by simp at h
 | k::ks,x::l,a,d,h=>by rw[jez,M1,M1,wG a d ⇑h]
theorem ud(rd:Rep R Z H d v [])(a):∀{ks}{l}{vs}{O},Reps R Z H l vs O->ks.length=l.length ->
  Ex2 λvs2 O2=>An3 (Reps R Z H (jez ks l a d) vs2 O2) ((ks.map<|List.map kaV).zip vs2=((ks.map<|List.map kaV).zip vs).map (λkv=>if kv.1=a.map kaV then(kv.1,v) else kv))<|O2.Sublist O
 | [],[],vs,O,r,b=>by
  obtain⟨rfl,rfl⟩:=r;exact⟨[],[],.empty,rfl,.slnil⟩
 | [],_::_,_,_,_,h=>by simp at h
 | _::_,[],_,_,_,h=>by simp at h
 | k::ks,x::l,vs,O,r,b=>by
  obtain⟨w,j,m,O2,rfl,rfl,r1,r2⟩:=r;obtain⟨c,f,g,e3,i⟩:=ud rd a r2 ⇑b;by_cases e:k=a
  ·subst e;refine⟨v::c,[]++f,?_,?_,(i.trans<|List.sublist_append_right _ _)⟩
   ·rw[jez,if_pos rfl];exact Reps.cons rd g
   ·simp only[L5,U6,if_true,e3]
  ·have n:=λz=>e<|V6 z;refine⟨w::c,m++f,?_,?_,(List.Sublist.append (List.Sublist.refl _) i)⟩
   ·rw[jez,if_neg e];exact Reps.cons r1 g
   ·simp only[L5,U6,if_neg n,e3]
theorem wS(a):∀{ks:List (List KA)}{vs:List V},ks.length=vs.length->(((ks.map<|List.map kaV).zip vs).any λkv=>decide<|kv.1=a.map kaV)=decide (a∈ks)
 | [],vs,_=>by simp
 | k::ks,[],h=>by simp at h
 | k::ks,v::vs,h=>by
  rw[L5,U6,List.any_cons,wS a ⇑h];by_cases e:k=a
  ·subst e;simp
  ·have b:¬ (k.map kaV=a.map kaV):=λz=>e<|V6 z;have e2:¬ (a=k):=λz=>e z.symm;simp[b,e2]
def VW(ks:List<|List KA)(l:List D)(a:List KA)(d:D):List (List KA)×List D:=if a∈ks then(ks,jez ks l a d) else(ks++[a],l++[d])
def Kv(rd:Rep R Z H d v [])(a)  (r:Reps R Z H l vs O) (b:ks.length=l.length):
  Ex2 λvs2 O2=>An4 (Reps R Z H (VW ks l a d).2 vs2 O2) ((((VW ks l a d).1).map (List.map kaV)).zip vs2=Je ((ks.map<|List.map kaV).zip vs) (a.map kaV) v) (O2.Sublist O) ((VW ks l a d).1.length=(VW ks l a d).2.length):=by
 have c:ks.length=vs.length:=by rw[r.length];exact b
 unfold VW Je;rw[wS a c];by_cases e:a∈ks
 ·rw[if_pos e,X0 e,if_pos rfl];obtain⟨f,P,r2,e2,g⟩:=ud rd a r b;exact⟨f,P,r2,e2,g,by rw[wG a d b];exact b⟩
 ·rw[if_neg e,X1 e,if_neg<|λz=>(nomatch z)];refine⟨vs++[v],O++[],r.append<|Reps.one rd,?_,by simp,by simp[b]⟩;rw[N4,List.zip_append ⇑c];rfl
@[simp] def jcN(i:Nat)(pa:PF)(pb:PF)(pv:PF)(ρ:Rh):Option Out:=(pv ρ).bind λd=>(pV i ρ).bind λx=>(jfV x).bind λp=>(jjr pa pb ρ).bind λa=>bif frz d&&lim p.1.length then some (.nx<|ρ.set i<|some<|.dT true (VW p.1 p.2 a d).1 (VW p.1 p.2 a d).2) else none
def jg3{R}{pm}{i}{ta tb tv}{pa pb pv}(m:PB R ta pa)(n:PB R tb pb)(p:PB R tv pv):DS R pm (xr (jU i) (jeZ ta tb) tv) (jcN i pa pb pv):=by
 intro σ ρ Z H O o w s e I k;refine ob e λd q e=>ob e λx r e=>ob e λ⟨J,l⟩ v e=>ob e λc e2 e=>oc e λf e=>?_;cases e;cases Kf v;rw[M0] at f;refine p w.zd s q λ{u K L M} g1 r1=>?_;cases r1.nil f.1;have j:=g1.widen w;have s1:=g1.slots w.zd s;refine kJ qg j.wf s1 r rfl jfB λa _ vs N y g z A put=>A<|Yg m n g1.wf.zd s1 e2 λ{b P Q} g2 S B=>?_;obtain⟨C,T,D,E,F,h⟩:=Kv (g2.rep g1.wf.zd r1) c (g2.reps g1.wf.zd y) g;obtain⟨U,g3,G⟩:=put jfB h g2 D ⇑F.count_le;refine⟨a,_,rfl,DPut.t (g2.at0 z) B<|Y0 f.2,?_⟩;rw[<- E];exact k (j.trans g3) G<|Keep.refl _ _
def jnb(d:X.mg "enumerate" = none)(h:QPs cl X [a] tr pr)(c:QB cl X b tb pb)(e:Gl X "enumerate":=by rfl)(f:starEach [a] X.env=[(false,eval a X.env)]:=by rfl):
  QI cl X (.Tuple elts n tpos) (.Call (.Name "enumerate" p) [a] [⟨some "start",b,kpos⟩] pos) (joh X.K tr tb) (jmq pr pb):=⟨jnV e d h.sem c.sem f,jk3 h.den c.den⟩
def jgG:QP cl X (.Dict [] [] pos) jbp (pC<|.dT true [] []):=⟨jdX,je8⟩
def jiW{d}(i:Room k X.A)(e:QB cl X o to po)(f:QB cl X a ta pa)(g:QB cl X b tb pb)(h:QB cl X c tc pc)(m:M2 X o "get" apos (.Tuple [a,b] d tpos) c cpos:=by exact⟨rfl,rfl,rfl,rfl⟩)
  (h1:starEach [a,b] X.env=(false,eval a X.env)::starEach [b] X.env:=by rfl) (h2:starEach [b] X.env=(false,eval b X.env)::starEach [] X.env:=by rfl):
  QB cl X (.Call (.Attribute o "get" apos) [.Tuple [a,b] d tpos,c] [] cpos) (jdq to (jeZ ta tb) tc) (xB po pa pb pc):=
 ⟨je0 (Vm i) e.sem (Ju<|jC f.sem (jC g.sem vF h2) h1) h.sem m,jfv e.den f.den g.den h.den⟩
def jio{c}(h:Room k X.A)(j:QB cl X (.Name x xpos) (jU i)<|pV i)(d:QB cl X a ta pa)(f:QB cl X b tb pb)(g:QB cl X e te pe)
  (l:swapsWith e (some<|.Subscript (.Name x xpos) (.Tuple [a,b] c tpos) pos') pos.line X.env=pure false:=by rfl)
  (h1:starEach [a,b] X.env=(false,eval a X.env)::starEach [b] X.env:=by rfl) (h2:starEach [b] X.env=(false,eval b X.env)::starEach [] X.env:=by rfl):
  QS cl pm X (.Assign [.Subscript (.Name x xpos) (.Tuple [a,b] c tpos) pos'] e pos) (xr (jU i) (jeZ ta tb) te) (jcN i pa pb pe):=
 ⟨xk (Vm h) j.sem (Ju<|jC d.sem (jC f.sem vF h2) h1) g.sem l,jg3 d.den f.den g.den⟩
end QD
namespace L2
open PySem PySem.Spec PyProof.Rows
end L2
namespace QD
open PySem L2 PySem.Spec PyProof.Rows
def Go.from(g:Go Z H O Z' H' E)(h:∀ a∈O,a∈O'):Go Z H O' Z' H' E:=
 ⟨g.wf,g.zz,λa q n=>g.fr a q λz=>n<|h a z,λa z=>(g.zn a z).elim .inl λq=>q.elim (λq=>.inr<|.inl<|h a q) λq=>.inr<|.inr q,λa q=>(g.sub a q).elim (λq=>.inl<|h a q) .inr,g.dm⟩
def pFz(p:PF):PF:=λρ=>(p ρ).bind λd=>some<|fz d
@[simp] def pFz_e:pFz p ρ=(p ρ).bind λd=>some (fz d):=rfl
def joL(h:PP R te p):PB R te (pFz p):=by
 intro σ ρ Z H O d z s e Q k;refine ob e λx b e=>?_;cases e;exact h z s b λ{v c f P} g r=>(k g.fz<|r.freeze (λa z=>.inl z) λa z=>.inr z)
def QP.fzb(h:QP cl X e te pe):QB cl X e te (pFz pe):=⟨h.sem,joL h.den⟩
noncomputable def Jf:List Str->List D->Str->Option D
 | n::ns,d::l,f=>if f=n then some d else Jf ns l f
 | _,_,_=>none
theorem xT:∀{ns}{l}{vs}{O},Reps R Z H l vs O->ns.length=l.length->Jf ns l f=some d->∃ v P,(ns.zip vs).lookup f=some v/\Rep R Z H d v P
 | [],l,vs,O,_,_,h=>by cases l<;>cases h
 | n::ns,[],vs,O,_,a,_=>by simp at a
 | n::ns,x::l,vs,O,r,a,h=>by
  obtain⟨v,b,c,i,rfl,rfl,r1,r2⟩:=r;rw[Jf] at h;by_cases e:f=n
  ·rw[if_pos e] at h;cases h;exact⟨v,c,by rw[U6,List.lookup_cons,e];simp,r1⟩
  ·rw[if_neg e] at h;obtain⟨w,P,g,e2⟩:=xT r2 ⇑a h;refine⟨w,P,?_,e2⟩;rw[U6,List.lookup_cons];have:(f==n)=false:=by simp[e]
   rw[this];exact g
def zT(c:Nat)(f:Str):D->Option D
 | .ins _ c' ns l=>bif c'==c then Jf ns l f else none
 | _=>none
@[simp] def fldOf_ins:zT c f (.ins o c' ns l)=bif c'==c then Jf ns l f else none:=rfl
@[simp] def qX(c:Nat)(f:Str)(po:PF)(ρ:Rh):Option D:=(po ρ).bind (zT c f)
def jkf(g:Cls R.K<|R.cls c)(i:NoAttr R.K (R.cls c) f)(h:PB R ta p):PB R (jdJ R.K ta f) (qX c f p):=by
 intro σ ρ Z H O d z s e Q k;refine ob e λx j e=>?_;cases x with
 | ins o m ns l=>
  refine oc e λn q=>?_;obtain rfl:m=c:=by simpa using n
  refine h z s j λ{v B C D} g1 r1=>?_;obtain⟨a,r,vs,E,rfl,t,u,y,_⟩:=r1;obtain⟨w,P,A,b⟩:=xT t u q;exact⟨a,_,r,_,w,rfl,y,g,i,A,k g1 b⟩
 | _=>cases e
noncomputable def qJ:List Str->List D->Str->D->List Str×List D
 | n::ns,x::l,f,d=>if n=f then(n::ns,d::l) else(n::(qJ ns l f d).1,x::(qJ ns l f d).2)
 | _,_,f,d=>([f],[d])
theorem YF(rd:Rep R Z H d v P):∀{ns}{l}{vs}{O},Reps R Z H l vs O->ns.length=l.length ->
  Ex2 λvs2 O2=>An4 (Reps R Z H (qJ ns l f d).2 vs2 O2) ((qJ ns l f d).1.zip vs2=VC f v (ns.zip vs)) ((qJ ns l f d).1.length=(qJ ns l f d).2.length)<|∀ c,O2.count c<=O.count c+P.count c
 | [],[],vs,O,r,_=>by
  obtain⟨rfl,rfl⟩:=r;exact⟨[v],P,.one rd,rfl,rfl,λc=>by simp⟩
 | [],_::_,_,_,_,a=>by simp at a
 | _::_,[],_,_,_,a=>by simp at a
 | n::ns,x::l,vs,O,r,a=>by
  obtain⟨u,b,g,O2,rfl,rfl,r1,r2⟩:=r;rw[qJ];by_cases e:n=f
  ·rw[if_pos e];refine⟨v::b,P++O2,Reps.cons rd r2,?_,a,λc=>by simp only[U7];lia⟩;rw[U6,U6,VC,if_pos e]
  ·rw[if_neg e];obtain⟨vs2,h,i,e3,j,k⟩:=YF rd r2 ⇑a;refine⟨u::vs2,g++h,Reps.cons r1 i,?_,by simp[j],λc=>by have:=k c;simp only[U7];lia⟩;rw[U6,U6,VC,if_neg e,e3]
@[simp] def Jl(i:Nat)(c:Nat)(f:Str)(pv:PF)(ρ:Rh):Option Out:=(pv ρ).bind λd=>(pV i ρ).bind λt=>(zf t).bind λy=>bif y.1==c&&decide (y.2.1.length<=900) then some (.nx<|ρ.set i<|some<|.ins true c (qJ y.2.1 y.2.2 f d).1 (qJ y.2.1 y.2.2 f d).2) else none
def jbg{l:List α}{m:List β}(h:decide (l.length<=900)=true):(l.zip m).length<1000:=by
 rw[List.length_zip];exact X8 (Nat.min_le_left _ _) ∅
def jlR{R}{pm}{i c}{f}{tv}{pv}(j:Cls R.K<|R.cls c)(m:NoAttr R.K (R.cls c) f)(n:PP R tv pv):DS R pm (jnH R.K (jU i) tv f) (Jl i c f pv):=by
 intro σ ρ Z H O o w s e G k;refine ob e λd p e=>ob e λt r e=>ob e λ⟨v,ns,l⟩ e2 e=>oc e λb e=>?_;cases e;cases Jv e2;rw[M0] at b;obtain rfl:v=c:=by simpa using b.1
 refine n w.zd s p λ{u I J L} g1 r1=>?_;have g:=g1.widen w;refine kJ qg g.wf (g1.slots w.zd s) r rfl ow_ins λa x vs M y h z A put=>A ?_;obtain⟨B,N,C,e3,D,E⟩:=YF r1 y h;obtain⟨P,g3,F⟩:=put ow_ins D (Go.id g.wf.zd) C λq=>by have:=E q;simp;lia
 refine⟨a,_,x,_,rfl,z,j,m,jbg b.2,?_⟩;rw[<- e3];exact k (g.trans g3) F<|Keep.refl _ _
def jlx(b:Cls X.K<|cl c)(d:NoAttr X.K (cl c) f)(a:QB cl X o to po)(e:attributeBase o f X.env (eval o X.env)=eval o X.env:=by rfl):QB cl X (.Attribute o f pos) (jdJ X.K to f) (qX c f po):=⟨wu a.sem e,jkf b d a.den⟩
def jkF(b:Cls X.K<|cl c)(d:NoAttr X.K (cl c) f)(g:QB cl X (.Name x xpos) (jU i)<|pV i)(a:QP cl X e te pe)(h:swapsWith e (some<|.Attribute (.Name x xpos) f pos') pos.line X.env=pure false:=by rfl):
  QS cl pm X (.Assign [.Attribute (.Name x xpos) f pos'] e pos) (jnH X.K (jU i) te f) (Jl i c f pe):=⟨jkX g.sem a.sem h,jlR b d a.den⟩
noncomputable def jlX:List Str->Str->Option Nat
 | [],_=>none
 | n::ns,f=>if f=n then some 0 else(jlX ns f).map (·+1)
theorem uv:∀{ns}{f}{vs}{j}{v:V},jlX ns f=some j->ns.length=vs.length->vs[j]?=some v->(ns.zip vs).lookup f=some v
 | [],_,_,_,_,h,_,_=>by cases h
 | n::ns,f,[],_,_,_,a,_=>by simp at a
 | n::ns,f,u::vs,j,v,h,a,b=>by
  rw[jlX] at h;by_cases e:f=n
  ·rw[if_pos e] at h;cases h;cases b;rw[U6,List.lookup_cons,e];simp
  ·rw[if_neg e] at h;cases hp:jlX ns f with
   | none=>rw[hp] at h;cases h
   | some i=>
    rw[hp] at h;cases h;rw[U6,List.lookup_cons,show(f==n)=false by simp[e]];exact uv hp ⇑a ⇑b
theorem V3:∀{ns}{l}{vs:List V},ns.length=l.length->vs.length=l.length->Jf ns l f=none->(ns.zip vs).lookup f=none
 | [],_,_,_,_,_=>rfl
 | n::ns,[],_,a,_,_=>by simp at a
 | n::ns,x::l,[],_,b,_=>by simp at b
 | n::ns,x::l,v::vs,a,b,h=>by
  rw[Jf] at h;by_cases e:f=n
  ·rw[if_pos e] at h;cases h
  ·rw[if_neg e] at h;rw[U6,List.lookup_cons,show(f==n)=false by simp[e]];exact V3 ⇑a ⇑b h
@[simp] def yI(m:List D->Option (D×D))(i c:Nat)(mn:Str)(p:PAf)(ρ:Rh):Option (D×Rh):=(p ρ).bind λds=>(pV i ρ).bind λt=>(zf t).bind λy=>bif y.1==c&&(frzs ds&&(Jf y.2.1 y.2.2 mn).isNone) then(m<|t::ds).bind λr=>some (r.1,ρ.set i<|some r.2) else none
def jeb(h:PPs R ta p)(J:∀ ρ ds,p ρ=some ds->ds.length+1=n):DE R (jaX (R.cls c) mn (spM R m n 0) [] E0 (jU i) ta) (yI m i c mn p):=by
 intro σ ρ ρ' Z H O d w s e Q k;refine ob e λds D e=>ob e λy b e=>ob e λ⟨j,ns,l⟩ e3 e=>oc e λE e=>ob e λ⟨K,L⟩ e2 e=>?_;cases e;cases Jv e3;have b:=qV b;rw[M0,M0] at E;obtain⟨o,q,r⟩:=E;obtain rfl:j=c:=by simpa using o
 have hi:=(L9.mp b).1;obtain⟨A0,P0,B0,_,M,_,_⟩:=s.put hi;obtain⟨u,t,N⟩:=M _ b;obtain⟨a,S,vs,O',rfl,T,x,U,_⟩:=N;refine⟨.ref a,t,a,S,_,rfl,U,V3 x T.length<|Option.isNone_iff_eq_none.mp r,(h w.zd s D λ{V z F P1} g1 G=>?_)⟩;cases G.nil q;have f:Go Z H O z F O:=by simpa using g1.widen w
 obtain⟨A,P,B,rfl,W,X,_⟩:=(g1.slots w.zd s).put hi;obtain⟨u',g,Y⟩:=W _ b;rw[t] at g;cases g;have rr:Reps R z F (.ins true j ns l::ds) (.ref a::V) P:=by
  have:=Reps.cons Y G;simpa using this
 refine⟨z,.ins true j ns l::ds,K,L,P,.ref a,f.wf.mid,by have:=J ρ ds D;simpa using this,by rw[M9];exact rr,rfl,e2,λ{v Z2 H2 P2 O2} g2 r2 C=>?_⟩;have I:=Go.keepA f.wf g2;have s2:=X C g2.zz (g2.zH f.wf.mid) I.1 I.2;rw[kh t] at s2;exact k (f.trans<|g2.frame f.wf).turn r2 s2
noncomputable def jk4:D×D->Option D
 | (.non,t)=>some t
 | _=>none
@[simp] def nonOf_non(t):jk4 (.non,t)=some t:=rfl
@[simp] def uY(m:List D->Option (D×D))(c:Nat)(p:PAf)(ρ:Rh):Option D:=(p ρ).bind λds=>bif frzs ds then(m<|.ins true c [] []::ds).bind jk4 else none
def jif(h:PPs R ta p)(w:∀ ρ ds,p ρ=some ds->ds.length+1=n):PP R (jht (R.cls c) (spM R m n 0) [] E0 ta) (uY m c p):=by
 intro σ ρ Z H O d z s e Q k;refine ob e λds l e=>oc e λy e=>ob e λ⟨x,t⟩ e2 e=>?_;cases x with
 | non=>
  cases e;refine h z s l λ{E A q F} g1 r=>?_;cases r.nil y;intro x b B f g;have u:=Go.newF (o:=.own x) (wf0 g1.wf.zd) f;have i:upd q b (.own x) x=none:=by rw[je<|λe=>g e.symm];exact B
  have g2:=u.trans<|Go.newO (o:=.ins (R.cls c) b []) u.wf i;have C:Rep R (λa=>A a\/a=b) (upd (upd q b<|.own x) x<|.ins (R.cls c) b []) (.ins true c [] []) (.ref x) [x]:=by
   exact⟨x,b,[],[],rfl,.empty,rfl,jk,rfl⟩
  refine⟨_,.ins true c [] []::ds,.non,d,[x],.ref x,g2.wf,by have:=w ρ ds l;simpa using this,by rw[M9];have:=Reps.cons C<|g2.reps g1.wf.zd r;simpa using this,rfl,e2,λ{v Z3 G I J} g3 D j=>?_⟩;obtain⟨rfl,rfl⟩:=D;exact⟨rfl,k (by simpa using(g1.trans g2).trans g3) j⟩
 | _=>cases e
section
variable {cl:Nat->Addr}{pm:List Nat}{X:Cx}{e:Expr}{es:List Expr}{tr:TA}{pr:PAf}{pos p apos:Pos}
structure MtFact(K:W4)(C:Addr)(x qual:Str)(st:Stmt)(f:Addr)(fd:FuncData)(ps:List Str):Prop where
 fn:Fun K x qual st f fd
 mt:Meth K C x f
 bd:Binds K fd ps []
def OkM(P:Program)(w:World)(K:W4)(mg:W6)(C:Addr)(x qual:Str)(st:Stmt)(k:Nat)(ps:List Str)(sp:Sp):Prop:=∃ f fd,MtFact K C x qual st f fd ps/\∀ base,FnOk P w K mg base CX0 k f fd ps sp
def jiY{k n i c}{ps}{m}{x mn qual}{st}{pl}(g:Cls X.K<|cl c)(O:OkM X.prog X.w X.K X.mg (cl c) mn qual st k ps<|spM ⟨X.K,cl⟩ m n 0)(h:Room k X.A)(j:QB cl X (.Name x p) (jU i)<|pV i)(d:QPs cl X (e::es) tr pr)(l:∀ ρ ds,pr ρ=some ds->ds.length+1=n)
  (a:SEq X e es:=by rfl) (b:BkE X pos es:=by rfl)
  (o:eval (.Call (.Attribute (.Name x p) mn apos) (e::es) [] pos) X.env=(do
   let ov <- eval (.Name x p) X.env
   standAt apos.atName
   let (f,first) <- holding [ov] (getMethod ov mn pl)
   callWith pos f first (backTo pos<|starEach (e::es) X.env) (backToKw pos<|keywordEach [] X.env)):=by rfl):
  QE cl X (.Call (.Attribute (.Name x p) mn apos) (e::es) [] pos) (jaX (cl c) mn (spM ⟨X.K,cl⟩ m n 0) [] E0 (jU i) tr) (yI m i c mn pr):=by
 obtain⟨_,_,F,G⟩:=O;exact⟨jcR j.sem g F.mt (G _) h F.bd .nil jfm d.sem a b o,jeb d.den l⟩
def jlY{k n c}{ps}{m}{x qual}{st}(f:PySem.W.makesIn X.K (cl c)=true)(g:PySem.W.keepIn X.K (.ref<|cl c)=true)(O:OkM X.prog X.w X.K X.mg (cl c) "__init__" qual st k ps<|spM ⟨X.K,cl⟩ m n 0)(h:Room (k+1) X.A)(i:X.mg x=some (.ref<|cl c))(d:QPs cl X (e::es) tr pr)(j:∀ ρ ds,pr ρ=some ds->ds.length+1=n)(l:Gl X x:=by rfl)
  (a:Nd x:=by decide) (o:SEq X e es:=by rfl) (b:BkE X pos es:=by rfl):
  QP cl X (.Call (.Name x p) (e::es) [] pos) (jht (cl c) (spM ⟨X.K,cl⟩ m n 0) [] E0 tr) (uY m c pr):=by
 obtain⟨_,_,F,G⟩:=O;exact⟨jg7 ⟨f,F.mt.at_,F.mt.fn,g⟩ (G _) h l i F.bd .nil jfm d.sem a o b,jif d.den j⟩
end
@[simp] def J1(m:List D->Option D)(c:Nat)(mn:Str)(po:PF)(p:PAf)(ρ:Rh):Option D:=(po ρ).bind λs=>(joy s).bind λy=>bif y.1==c&&(Jf y.2.1 y.2.2 mn).isNone then(p ρ).bind λds=>(m<|fzs<|s::ds).bind λd=>bif frzs (s::ds)||clean d then some d else none else none
def jho(q:PB R to po)(r:PBs R ta p)(t:∀ ρ ds,p ρ=some ds->ds.length+1=n):PP R (jaX (R.cls c) mn (spP R m n) [] E0 to ta) (J1 m c mn po p):=by
 intro σ ρ Z H O d z s e Q k;refine ob e λD u e=>ob e λ⟨v,ns,l⟩ e3 e=>oc e λb e=>ob e λds i e=>ob e λc0 e2 e=>oc e λw e=>?_;cases e;obtain⟨o,rfl⟩:=jiG e3;rw[M0] at b;obtain rfl:v=c:=by simpa using b.1
 refine q z s u λ{E F G I} g0 j=>?_;have f:=j;obtain⟨a,x,y,J,rfl,A,g,B,_⟩:=f;exact⟨a,x,_,rfl,B,V3 g A.length<|Option.isNone_iff_eq_none.mp b.2,r g0.wf.zd (g0.slots z s) i λh C=>jcX h.wf.zd (Reps.cons (h.rep g0.wf.zd j) C) (t ρ ds i) e2 w λg2 r2=>k (by simpa using(g0.pair h).pair g2) r2⟩
def ql(c:Nat)(f:Str)(L:Ln)(d:D):Option (D×(D->D)):=(L d).bind λy=>(zf y.1).bind λq=>bif q.1==c then(jlX q.2.1 f).bind λj=>(q.2.2[j]?).bind λx=>some (x,λx'=>y.2<|.ins true q.1 q.2.1<|q.2.2.set j x') else none
def jlj(G:Cls R.K<|R.cls c)(I:NoAttr R.K (R.cls c) f)(h:jdK R tb i L):jdK R (jdJ R.K tb f) i (ql c f L):=by
 intro σ ρ Z H O d x k s hd e;refine ob e λ⟨y,k0⟩ J e=>ob e λ⟨M,ns,l⟩ e3 e=>oc e λN e=>ob e λj Q e=>ob e λx0 e2 e=>?_;cases e;cases Jv e3;obtain rfl:M=c:=by simpa using N
 obtain⟨v,A,P,B,rfl,r,S,T⟩:=h s hd J;obtain⟨a,t,vs,O',rfl,w,n,z,rfl⟩:=r;obtain⟨u,U,V,W,C,rfl,X,o⟩:=w.at e2;refine⟨u,A++(a::U),V,W++B,by simp,X,λq=>S ⟨a,_,t,_,u,rfl,z,G,I,uv Q (by rw[w.length];exact n) C,q⟩,λ{Z' H' x' Y} r' D E p F=>?_⟩;have g:=o r' D E (λb m=>p b<|by simp[m])<|λb m=>F b (by simp[m]);rw[kh C] at g;have s2:=T (ow_ins.mpr ⟨a,t,vs,_,rfl,g,by rw[List.length_set];exact n,(p a<|by simp).trans z,rfl⟩) D E (λb m=>p b<|by simp[m])<|λb m=>F b (by simp[m]);simpa using s2
structure QL(cl:Nat->Addr)(X:Cx)(e:Expr)(tb:TE)(i:Nat)(L:Ln):Prop where
 sem:PE X e tb
 den:jdK ⟨X.K,cl⟩ tb i L
section
variable {cl:Nat->Addr}{pm:List Nat}{X:Cx}{o e j:Expr}{es:List Expr}{to te tb tj:TE}{po pe pj:PF}{tr:TA}{pr:PAf}{pos p apos:Pos}{L L':Ln}{i:Nat}
def jjT{k n c}{ps}{m}{mn qual}{st}{pl}(i:Cls X.K<|cl c)(O:OkM X.prog X.w X.K X.mg (cl c) mn qual st k ps<|spP ⟨X.K,cl⟩ m n)(j:Room k X.A)(g:QB cl X o to po)(a:QBs cl X (e::es) tr pr)(l:(e::es).length+1=n:=by rfl)
  (b:SEq X e es:=by rfl) (d:BkE X pos es:=by rfl)
  (p:eval (.Call (.Attribute o mn apos) (e::es) [] pos) X.env=(do
   let ov <- eval o X.env
   standAt apos.atName
   let (f,first) <- holding [ov] (getMethod ov mn pl)
   callWith pos f first (backTo pos<|starEach (e::es) X.env) (backToKw pos<|keywordEach [] X.env)):=by rfl):
  QP cl X (.Call (.Attribute o mn apos) (e::es) [] pos) (jaX (cl c) mn (spP ⟨X.K,cl⟩ m n) [] E0 to tr) (J1 m c mn po pr):=by
 obtain⟨_,_,F,G⟩:=O;exact⟨jcR g.sem i F.mt (G _) j F.bd .nil jfm a.sem b d p,jho g.den a.den λρ q h=>by rw[a.n ρ q h];exact l⟩
def jj6{x}(a:QB cl X (.Name x p) (jU i)<|pV i):QL cl X (.Name x p) (jU i) i vV:=⟨a.sem,qg⟩
def jlL{c}{f}(a:Cls X.K<|cl c)(b:NoAttr X.K (cl c) f)(h:QL cl X o tb i L)(d:attributeBase o f X.env (eval o X.env)=eval o X.env:=by rfl):QL cl X (.Attribute o f pos) (jdJ X.K tb f) i (ql c f L):=
 ⟨wu h.sem d,jlj a b h.den⟩
def jhK{cpos}(f:QL cl X o tb i L)(h:QP cl X e te pe)(b:attributeBase o "append" X.env (eval o X.env)=eval o X.env:=by rfl)
  (d:((backTo cpos<|starEach [e] X.env).all (λx=>!x.1)&&(backToKw cpos<|keywordEach [] X.env).all (λx=>x.1.isSome)
   && decide ([e].length+([]:List Keyword).length+(if([]:List Keyword).isEmpty then 0 else 1)<30))=true:=by rfl)
  (c:(apos.endLine==cpos.line)=true:=by rfl) (g:starEach [e] X.env=(false,eval e X.env)::starEach [] X.env:=by rfl) (a:(backTo cpos<|starEach [] X.env).any (·.1)=false:=by rfl)
  (hsw:swapsWith (.Call (.Attribute o "append" apos) [e] [] cpos) none pos.line X.env=pure false:=by rfl):
  QS cl pm X (.Expr (.Call (.Attribute o "append" apos) [e] [] cpos) pos) (JY<|tBM X.K "list" Yv tb<|jD te J2) (kP i L pe):=
 ⟨YD (jfx PySem.F.plainAttrs_list PySem.F.slot_list_append PySem.F.type_list_append YB f.sem (jC h.sem vF g) b d c g a) hsw,jdj f.den h.den⟩
end
section
variable {R:RC}{Z Z' Z2:Zn}{H H' H2:Hp}{pm:List Nat}
def ja2(rd:Rep R Z H d v P)(a)  (r:Reps R Z H l vs O) (b:ks.length=l.length) (c:a∉ks):
  Reps R Z H (kn ks l a d).2 (vs++[v]) (O++P)/\(((kn ks l a d).1).map kaV).zip (vs++[v])=Je ((ks.map kaV).zip vs) (kaV a) v/\(kn ks l a d).1.length=(kn ks l a d).2.length:=by
 have e:ks.length=vs.length:=by rw[r.length];exact b
 unfold kn Je;rw[xG a e,if_neg c,X1 c,if_neg<|λz=>(nomatch z)];refine⟨r.append<|Reps.one rd,?_,by simp[b]⟩;rw[N4,List.zip_append ⇑e];rfl
def Yw(i:Nat)(L:Ln)(pk pv:PF)(ρ:Rh):Option Out:=(pv ρ).bind λd=>(pV i ρ).bind λt=>(L t).bind λy=>(jf6 y.1).bind λkl=>(pk ρ).bind λq=>(kC q).bind λa=>bif lim kl.1.length&&(frz d||!decide (a∈kl.1)) then some (.nx<|ρ.set i<|some<|y.2<|.dK true (kn kl.1 kl.2 a d).1 (kn kl.1 kl.2 a d).2) else none
def jd0{i}{L}{tb ty tv}{pk pv}(A:jdK R tb i L)(B:PB R ty pk)(C:PP R tv pv):DS R pm (xr tb ty tv) (Yw i L pk pv):=by
 intro σ ρ Z H O o w s e U k;refine ob e λd D e=>ob e λt hi e=>ob e λ⟨y,V⟩ e3 e=>ob e λ⟨g,l⟩ e7 e=>ob e λq E e=>ob e λc e5 e=>oc e λv e=>?_;cases e;cases xu e7;rw[M0] at v;refine C w.zd s D λ{u W X F} g1 r1=>?_;have s1:=g1.slots w.zd s;have x:=g1.widen w;refine kJ A x.wf s1 hi e3 jaI λa _ vs G I h J K put=>K<|B g1.wf.zd s1 E λ{z M N Y} g2 r2=>?_;obtain⟨rfl,_⟩:=yU e5 r2;have j:=g2.rep g1.wf.zd r1;have m:=g2.reps g1.wf.zd I;have key:∃ b n,Reps R M N (kn g l c d).2 b n/\(((kn g l c d).1).map kaV).zip b=Je ((g.map kaV).zip vs) (kaV c) u/\(∀ q,n.count q<=G.count q+F.count q)/\(kn g l c d).1.length=(kn g l c d).2.length:=by
  cases hf:frz d with
  | true=>
   cases r1.nil hf;obtain⟨b,n,p,r,P,f⟩:=Yl j c m h;exact⟨b,n,p,r,⇑P.count_le,f⟩
  | false=>
   have Q:c∉g:=by
    have:=v.2;rw[hf] at this;simpa using this
   obtain⟨p,r,f⟩:=ja2 j c m h Q;exact⟨_,_,p,r,λq=>by rw[U7];exact M8 _,f⟩
 obtain⟨b,n,p,r,S,f⟩:=key;obtain⟨O3,g3,T⟩:=put jaI f g2 p ⇑S;refine⟨a,_,rfl,DPut.k (g2.at0 J)<|Y0 v.1,?_⟩;rw[<- r];exact k (x.trans g3) T<|Keep.refl _ _
def J5(i:Nat)(L:Ln)(c:Nat)(f:Str)(g:Int->Int->Int)(pv:PF)(ρ:Rh):Option Out:=(pV i ρ).bind λt=>(L t).bind λy=>(zf y.1).bind λq=>(Jf q.2.1 q.2.2 f).bind λm=>(vg m).bind λm=>(pv ρ).bind λn=>(vg n).bind λn=>
 bif q.1==c&&decide (q.2.1.length<=900) then some (.nx<|ρ.set i<|some<|y.2<|.ins true c (qJ q.2.1 q.2.2 f<|.int<|g m n).1 (qJ q.2.1 q.2.2 f<|.int<|g m n).2) else none
def jeE{i c}{f}{L}{tb tv}{pv}{g}{rd}(d:∀{m n}{H}{Q},Q (.int<|g m n) H->rd (.int m) (.int n) H Q)(A:Cls R.K<|R.cls c)(B:NoAttr R.K (R.cls c) f)(C:jdK R tb i L)(D:PB R tv pv):DS R pm (xt R.K tb tv rd f) (J5 i L c f g pv):=by
 intro σ ρ Z H O o w s e U k;refine ob e λt hi e=>ob e λ⟨y,V⟩ e3 e=>ob e λ⟨E,ns,l⟩ F e=>ob e λx G e=>ob e λm I e=>ob e λW J e=>ob e λn e2 e=>oc e λh e=>?_;cases e;cases Jv F;cases jE I;cases jE e2;rw[M0] at h;obtain rfl:E=c:=by simpa using h.1
 refine kJ (P0:=[]) C w s hi e3 ow_ins λa r vs X v b z M put=>?_;obtain⟨mv,Y,j,p⟩:=xT v b G;obtain⟨rfl,_⟩:=p.int_of;refine M ⟨a,_,r,_,_,rfl,z,A,B,j,D w.zd s J λ{u Z2 H2 P4} g2 r2=>?_⟩;obtain⟨rfl,_⟩:=r2.int_of;obtain⟨N,O2,P,e7,q,S⟩:=YF (Rep.int_mk) (g2.reps w.zd v) b;obtain⟨O3,g3,T⟩:=put ow_ins q g2 P ⇑S;refine d ⟨r,_,g2.at0 z,jbg h.2,?_⟩;rw[<- e7];exact k g3 T<|Keep.refl _ _
end
section
variable {cl:Nat->Addr}{pm:List Nat}{X:Cx}{o b e:Expr}{to tb te:TE}{po pb pe:PF}{pos p fp tpos:Pos}{k i:Nat}{L:Ln}
def jd9(f:Room k X.A)(a:QL cl X o to i L)(c:QB cl X b tb pb)(d:QP cl X e te pe)(g:swapsWith e (some<|.Subscript o b pos') pos.line X.env=pure false:=by rfl):
  QS cl pm X (.Assign [.Subscript o b pos'] e pos) (xr to tb te) (Yw i L pb pe):=⟨xk (Vm f) a.sem c.sem d.sem g,jd0 a.den c.den d.den⟩
def jby(f:Room k X.A)(a:QL cl X o to i L)(c:QB cl X b tb pb)(d:QB cl X e te pe)
  (g:∀ ov iv new,augStore b ov iv new=(do holding [new,ov,iv] (setItem ov iv new);release [new,ov,iv] [];pure .next):=by intro _ _ _;rfl):
  QS cl pm X (.AugAssign (.Subscript o b tpos) .Add e pos) (zh to tb te jpa) (vn i L pb (λm n=>m+n) pe):=⟨Kk (Vm f) a.sem c.sem d.sem jmk g,KK (λq=>⟨_,_,rfl,rfl,q⟩) a.den c.den d.den⟩
def jbG(f:Room k X.A)(a:QL cl X o to i L)(c:QB cl X b tb pb)(d:QB cl X e te pe)
  (g:∀ ov iv new,augStore b ov iv new=(do holding [new,ov,iv] (setItem ov iv new);release [new,ov,iv] [];pure .next):=by intro _ _ _;rfl):
  QS cl pm X (.AugAssign (.Subscript o b tpos) .Sub e pos) (zh to tb te jkL) (vn i L pb (λm n=>m-n) pe):=⟨Kk (Vm f) a.sem c.sem d.sem uC g,KK (λq=>⟨_,_,rfl,rfl,q⟩) a.den c.den d.den⟩
def jbN{c}{f}(d:Cls X.K<|cl c)(g:NoAttr X.K (cl c) f)(a:QL cl X o to i L)(b:QB cl X e te pe):
  QS cl pm X (.AugAssign (.Attribute o f tpos) .Sub e pos) (xt X.K to te jkL f) (J5 i L c f (λm n=>m-n) pe):=⟨jdG a.sem b.sem uC,jeE (λq=>⟨_,_,rfl,rfl,q⟩) d g a.den b.den⟩
end
namespace QK
def fld{K}{cl}{X}{o}{to}{po}{pos}{c}{f}(a:X.K=K)(b:Cls X.K<|cl c)(d:NoAttr X.K (cl c) f)(e:QB cl X o to po)(g:attributeBase o f X.env (eval o X.env)=eval o X.env:=by rfl):QB cl X (.Attribute o f pos) (jdJ K to f) (qX c f po):=by subst a;exact jlx b d e g
end QK
section
variable {R:RC}{Z Z':Zn}{H H':Hp}{pm:List Nat}
def Jb(m:List D->Option (D×D))(i:Nat)(L:Ln)(p:PAf)(ρ:Rh):Option (D×Rh):=(pV i ρ).bind λt=>(L t).bind λy=>(p ρ).bind λds=>bif frzs ds then(m<|y.1::ds).bind λr=>some (r.1,ρ.set i<|some<|y.2 r.2) else none
def jbs(o:jdK R tb i L)(q:PPs R tr p)(u:∀ ρ ds,p ρ=some ds->ds.length+1=n):DE R (KH (spM R m n 0) [] E0<|jD tb tr) (Jb m i L p):=by
 intro σ ρ I Z H O d w s e Q k;refine ob e λt hi e=>ob e λ⟨y,J⟩ e3 e=>ob e λds g e=>oc e λx e=>ob e λ⟨C,D⟩ e2 e=>?_;cases e;obtain⟨v,A,P,B,rfl,r,E,F⟩:=o s (qV hi) e3;refine E<|q w.zd s g λ{vs c j K} g1 r1=>?_;cases r1.nil x;have b:Go Z H (A++P++B) c j (A++P++B):=by simpa using g1.widen w
 have G:Reps R c j (y::ds) (v::vs) P:=by
  have:=Reps.cons (g1.rep w.zd r) r1;simpa using this
 refine⟨c,y::ds,C,D,P,v,b.wf.mid,by have:=u ρ ds g;simpa using this,by rw[M9];exact G,rfl,e2,λ{M N S T U} g2 r2 f=>?_⟩;have l:=Go.keepA b.wf g2;exact k (b.trans<|g2.frame b.wf).turn r2 (F f (λa z=>g2.zz a<|g1.zz a z) (λa z=>(g2.zH b.wf.mid a<|g1.zz a z).trans (g1.same a<|w.zd a z)) (λa h=>(l.1 a h).trans (g1.same a<|w.od a<|by simp[h]))<|λa h=>(l.2 a h).trans (g1.same a<|w.od a<|by simp[h]))
def jfy(i:Nat)(pa pb:PF)(g:Int->Int->Int)(pv:PF):FS:=λρ=>(pV i ρ).bind λx=>(jfV x).bind λp=>(jjr pa pb ρ).bind λa=>(zy p.1 p.2 a).bind λy=>(vg y).bind λm=>(pv ρ).bind λz=>(vg z).bind λn=>
 bif lim p.1.length then some (.nx<|ρ.set i<|some<|.dT true (VW p.1 p.2 a<|.int<|g m n).1 (VW p.1 p.2 a<|.int<|g m n).2) else none
def jhD{i}{ta tb tv}{pa pb pv}{g}{rd}(j:∀{m n}{H}{Q},Q (.int<|g m n) H->rd (.int m) (.int n) H Q)(D:PB R ta pa)(E:PB R tb pb)(F:PB R tv pv):DS R pm (zh (jU i) (jeZ ta tb) tv rd) (jfy i pa pb g pv):=by
 intro σ ρ Z H O o w s e U k;refine ob e λx G e=>ob e λ⟨V,l⟩ I e=>ob e λc e2 e=>ob e λy e3 e=>ob e λm J e=>ob e λz e7 e=>ob e λn K e=>oc e λf e=>?_;cases e;cases Kf I;cases jE J;cases jE K;refine kJ (P0:=[]) qg w s G rfl jfB λa _ vs W A h B L put=>L<|Yg D E w.zd s e2 λ{b X Y} g2 zb C=>?_;obtain⟨mv,P3,p,q⟩:=(Yi A h).1 _ e3;obtain⟨rfl,_⟩:=q.int_of;refine⟨a,.int m,rfl,by rw[<- p];exact DGet.t (g2.at0 B) C,F g2.wf.zd (g2.slots w.zd s) e7 λ{u Z3 H3 P4} g3 M=>?_⟩;obtain⟨rfl,_⟩:=M.int_of;have d:=g2.trans g3;obtain⟨N,O2,r,P,S,v⟩:=Kv (Rep.int_mk) c (d.reps w.zd A) h;obtain⟨O3,g4,T⟩:=put jfB v d r ⇑S.count_le;refine j ⟨_,DPut.t (d.at0 B) (g3.at0 C)<|Y0 f,?_⟩;rw[<- P];exact k g4 T<|Keep.refl _ _
end
section
variable {cl:Nat->Addr}{pm:List Nat}{X:Cx}{o e:Expr}{es:List Expr}{to te:TE}{po pe:PF}{tr:TA}{pr:PAf}{pos p:Pos}{i:Nat}{L:Ln}
def jeI{k n}{ps}{m}{x}{st}(O:OkF X.prog X.w X.K X.mg x st k ps<|spM ⟨X.K,cl⟩ m n 0)(f:Room k X.A)
  (c:QL cl X o to i L) (d:QPs cl X es tr pr) (g:∀ ρ ds,pr ρ=some ds->ds.length+1=n) (h:Gl X x:=by rfl) (a:Nd x:=by decide)
  (e:starEach (o::es) X.env=(false,eval o X.env)::starEach es X.env:=by rfl) (b:BkE X pos es:=by rfl):QE cl X (.Call (.Name x p) (o::es) [] pos) (KH (spM ⟨X.K,cl⟩ m n 0) [] E0<|jD to tr) (Jb m i L pr):=by
 obtain⟨_,_,F,G⟩:=O;exact⟨jgA F (G _) f (jC c.sem d.sem e) h a e b,jbs c.den d.den g⟩
def jfp{a b}{ta tb}{pa pb}{x}{f}{k}{c d tpos}(l:Room k X.A)(o:QB cl X (.Name x c) (jU i)<|pV i)(g:QB cl X a ta pa)(h:QB cl X b tb pb)(j:QB cl X e te pe)
  (p:∀ ov iv new,augStore (.Tuple [a,b] f d) ov iv new=(do holding [new,ov,iv] (setItem ov iv new);release [new,ov,iv] [];pure .next):=by intro _ _ _;rfl)
  (h1:starEach [a,b] X.env=(false,eval a X.env)::starEach [b] X.env:=by rfl) (h2:starEach [b] X.env=(false,eval b X.env)::starEach [] X.env:=by rfl):
  QS cl pm X (.AugAssign (.Subscript (.Name x c) (.Tuple [a,b] f d) tpos) .Sub e pos) (zh (jU i) (jeZ ta tb) te jkL) (jfy i pa pb (λm n=>m-n) pe):=
 ⟨Kk (Vm l) o.sem (Ju<|jC g.sem (jC h.sem vF h2) h1) j.sem uC p,jhD (λq=>⟨_,_,rfl,rfl,q⟩) g.den h.den j.den⟩
def jeB(e:Room k X.A)(c:QB cl X a ta pa)(d:QB cl X b tb pb)(f:behindInMarks .NotIn b=false:=by with_unfolding_all rfl):QP cl X (.Compare a [.NotIn] [b] pos) (KS ta tb) (p2 (uV true) pa pb):=
 ⟨jkN (jb2 (Vm e) c.sem d.sem) f,jbu c.den d.den⟩
end
section
variable {R:RC}{Z Z':Zn}{H H':Hp}{pm:List Nat}
def xF(K:W4):List V->Hp->VK->Prop:=(λxs H Q=>∃(p:Addr) (ys:List V) (ps:List<|List Key×Addr×V),xs=[.ref p]/\SqL K H p ys/\ys.length=ps.length/\ps.length<=100000 /\
  (∀(j:Nat) y,ys[j]?=some y->∃ kv t,ps[j]?=some kv/\y=.ref t/\SqT K H t [.ref kv.2.1,kv.2.2]/\H kv.2.1=some (.tup<|kv.1.map kV))/\∀ D,H D=none->Q (.ref D) (upd H D<|.dT<|ps.foldl (λa kv=>Je a kv.1 kv.2.2) []))
def PK(R:RC)(te:TE)(pk:Rh->Option (List KA))(pv:PF):Prop:=∀{σ}{ρ}{Z}{H}{O}{c}{d},Zd Z H->Slots R Z H ρ σ O->pk ρ=some c->pv ρ=some d->frz d=true ->
 ∀{Q},(∀{t b}{u}{Z'}{H'},Go Z H [] Z' H' []->Z' t->Z' b->H' t=some (.tup [.ref b,u])->H' b=some (.tup<|(c.map kaV).map kV)->Rep R Z' H' d u []->Q (.ref t) H')->te σ H Q
def jib(g:D->Rh->Option Rh)(q:PTf)(pk:Rh->Option (List KA))(pv:PF):List D->Rh->Option (List<|List KA×D)
 | [],_=>some []
 | x::xs,ρ=>(g x ρ).bind λρ1=>(q ρ1).bind λb=>bif b then(pk ρ1).bind λc=>(pv ρ1).bind λd=>bif frz d then(jib g q pk pv xs ρ1).bind λr=>some ((c,d)::r) else none else jib g q pk pv xs ρ1
def jbq(ps:List<|List KA×D):List (List KA)×List D:=ps.foldl (λacc kv=>VW acc.1 acc.2 kv.1 kv.2) ([],[])
@[simp] def pDictP(pi:PAf)(g:D->Rh->Option Rh)(q:PTf)(pk:Rh->Option (List KA))(pv:PF)(ix:List<|Option Nat)(ρ:Rh):Option D:=(pi ρ).bind λxs=>bif lim xs.length then(jib g q pk pv xs<|jx ix ρ).bind λall=>some (.dT true (jbq all).1 (jbq all).2) else none
theorem Qq:∀{ps:List (List KA×D)}{ws:List (List Key×Addr×V)}{ks}{l}{us},ws.map (·.1)=ps.map (λy=>y.1.map kaV)->Reps R Z H (ps.map (·.2)) (ws.map (·.2.2)) []->Reps R Z H l us []->ks.length=l.length ->
  ∃ us',An3 (Reps R Z H (ps.foldl (λacc kv=>VW acc.1 acc.2 kv.1 kv.2) (ks,l)).2 us' []) ((((ps.foldl (λacc kv=>VW acc.1 acc.2 kv.1 kv.2) (ks,l)).1).map (List.map kaV)).zip us'=(ws.foldl (λa kv=>Je a kv.1 kv.2.2)<|(ks.map<|List.map kaV).zip us))<|(ps.foldl (λacc kv=>VW acc.1 acc.2 kv.1 kv.2) (ks,l)).1.length=(ps.foldl (λacc kv=>VW acc.1 acc.2 kv.1 kv.2) (ks,l)).2.length
 | [],[],ks,l,us,_,_,r,b=>⟨us,r,by simp,b⟩
 | [],w::ws,ks,l,us,h,_,_,_=>by simp at h
 | p::ps,[],ks,l,us,h,_,_,_=>by simp at h
 | p::ps,w::ws,ks,l,us,j,c,r,b=>by
  obtain⟨v,k,u,x,m,e,r1,r2⟩:=c;obtain⟨rfl,rfl⟩:=List.append_eq_nil_iff.mp e.symm;obtain⟨rfl,rfl⟩:=List.cons.inj m;rw[L5,L5] at j;obtain⟨d,f⟩:=List.cons.inj j;obtain⟨n,z,o,e3,q,g⟩:=Kv r1 p.1 r b;have:=List.sublist_nil.mp q;subst this;obtain⟨us',s,t,i⟩:=Qq f r2 o g;refine⟨us',s,?_,i⟩;rw[U9,U9,t,e3,d]
end
section
variable {cl:Nat->Addr}{pm:List Nat}{X:Cx}{tg iter elt:Expr}{ifs:List Expr}{wi:TI}{pi:PAf}{t:TG}{g:D->Rh->Option Rh}{te:TE}{pk:Rh->Option (List KA)}{pv:PF}{pos cpos p:Pos}
structure QKv(cl:Nat->Addr)(X:Cx)(e:Expr)(te:TE)(pk:Rh->Option (List KA))(pv:PF):Prop where
 sem:PE X e te
 den:PK ⟨X.K,cl⟩ te pk pv
end
end QD
namespace L2
open PySem PySem.Spec PyProof.Rows
def jbS(h:Vals ys its):Vals (Y9 lt ys .non) (Y9 lt its Value.none):=by
 unfold Y9;rw[<- h.length];split
 ·exact h
 ·generalize(kEv lt<|PySem.W.kas_sort ys.length).toList=l;have get:∀ ys its,Vals ys its->∀ i,RelV (ys.getD i .non) (its.getD i Value.none):=by
   intro ys its h
   induction h with
   | nil=>intro i;simp;rfl
   | cons b _ a=>
    intro i;cases i with
    | zero=>exact b
    | succ i=>exact a i
  induction l with
  | nil=>exact .nil
  | cons i l a=>exact .cons (get ys its h i) a
def jcj(K:W4):List V->Hp->VK->Prop:=λxs H Q=>∃(p:Addr) (ys:List V) (rs:List jdN),xs=[.ref p]/\SqL K H p ys/\ys.length=rs.length/\ys.length<64 /\
 (∀(j:Nat) y,ys[j]?=some y->∃ r t,rs[j]?=some r/\y=.ref t/\SqT K H t [.str r.1,.str r.2.1,.int r.2.2])/\∀ D,H D=none->Q (.ref D) (upd H D<|.lst<|Y9 (λi j=>Jy (rs.getD i ("","",0))<|rs.getD j ("","",0)) ys .non)
def je3(h:Vals ys its):∀(j:Nat) v,its[j]?=some v->∃ y,ys[j]?=some y/\RelV y v:=by
 induction h with
 | nil=>intro j v e;simp at e
 | @cons y u ys c a _ b=>
  intro j v e;cases j with
  | zero=>cases e;exact⟨y,rfl,a⟩
  | succ j=>exact b j v ⇑e
def Qt:km X (.builtin "sorted") (jcj X.K):=by
 intro w s σ H xs us Q I r h;obtain⟨p,z,a,rfl,A,hl,hz,B,q⟩:=h;obtain⟨u,rfl,C⟩:=r.one;cases C;obtain⟨D,b,⟨o,n,e,d,E,f⟩,_⟩:=I.list A;have F:=b.length.symm;refine Yb (rs:=a) ⟨o,e,d,n,f⟩ ∅ ∅ (λj v G=>?_) λh' c J L=>?_
 ·obtain⟨y,M,N⟩:=je3 b j v G;obtain⟨r,t,O,rfl,g⟩:=B j y M;cases(N);obtain⟨x,P,⟨R,e2,k,S,l⟩,_⟩:=I.tuple g;cases P with
  | cons T U=>
   cases U with
   | cons V W=>
    cases W with
    | cons Y Z=>
     cases Z;rename_i v1 v2 v3;obtain⟨t1,rfl⟩:=(T);obtain⟨t2,rfl⟩:=(V);obtain⟨t3,rfl⟩:=(Y);exact⟨r,O,t,R,S,t1,t2,t3,rfl,e2,k,l⟩
 ·have m:=I.hok.fresh<|Nat.le_succ ↥s;refine⟨.ref<|↥s+1,_,I.laid (o:=.lst<|Y9 (λi j=>Jy (a.getD i ("","",0))<|a.getD j ("","",0)) z .non) J (Nat.le_succ _) ⟨?_,_,c,jbS b,L⟩,rfl,q _ m⟩;rw[um]
  lia
end L2
namespace QD
open PySem L2 PySem.Spec PyProof.Rows
noncomputable def jiV:D->Option (List Nat)
 | .str s=>some s
 | _=>none
def uy{d}{n}(h:jiV d=some n):d=.str n:=by cases d<;>cases h<;>rfl
noncomputable def joV:List D->Option (D×D×D)
 | [x,y,z]=>some (x,y,z)
 | _=>none
def jh3{l}{p}(h:joV l=some p):l=[p.1,p.2.1,p.2.2]:=by
 match l with
 | [_,_,_]=>cases h;rfl
def jpA(d:D):Option jdN:=(jex d).bind λt=>(joV t).bind λp=>(jiV p.1).bind λa=>(jiV p.2.1).bind λb=>(vg p.2.2).bind λn=>some (S a,S b,n)
def jaE:List D->Option (List jdN)
 | []=>some []
 | d::l=>(jpA d).bind λx=>(jaE l).bind λr=>some<|x::r
def Qb(rs:List jdN)(l:List D):List D:=Y9 (λi j=>Jy (rs.getD i ("","",0))<|rs.getD j ("","",0)) l .non
def qQ:List D->Option D
 | [.lst _ l]=>(jaE l).bind λrs=>bif decide (l.length<64) then some (.lst true<|Qb rs l) else none
 | _=>none
@[simp] def Qi(o)(l):qQ [.lst o l]=(jaE l).bind λrs=>bif decide (l.length<64) then some (.lst true<|Qb rs l) else none:=rfl
def jaY:∀{l}{rs}{ys}{O},jaE l=some rs->Reps R Z H l ys O->O=[]/\ys.length=rs.length/\∀(j:Nat) y,ys[j]?=some y->∃ r t,rs[j]?=some r/\y=.ref t/\SqT R.K H t [.str r.1,.str r.2.1,.int r.2.2]:=by
 intro l
 induction l with
 | nil=>
  intro rs ys O e r;cases e;obtain⟨rfl,rfl⟩:=r;exact⟨rfl,rfl,λj y f=>by simp at f⟩
 | cons d l i=>
  intro rs ys O e r;refine ob e λx c e=>ob e λk e2 e=>ob c λt m c=>ob c λq o c=>ob c λa p c=>ob c λb s c=>ob c λn u c=>?_;cases e;cases c;rw[Reps,wW m,jh3 o,uy p,uy s,jE u] at r;obtain⟨G,v,I,J,rfl,rfl,r1,r2⟩:=r;obtain⟨rfl,w,q⟩:=i e2 r2;have z:=r1.nil (by rfl);subst z;obtain⟨t,vs,rfl,A,g⟩:=r1;obtain⟨L,B,M,N,rfl,P,C,h⟩:=g;obtain⟨Q,T,U,V,rfl,D,E,F⟩:=h.two_of;obtain⟨rfl,_⟩:=C.str_of;obtain⟨rfl,_⟩:=E.str_of;obtain⟨rfl,_⟩:=F.int_of;refine⟨rfl,by simp[w],λj y f=>?_⟩;cases j with
  | zero=>cases f;exact⟨(S a,S b,n),t,rfl,rfl,A.sq⟩
  | succ j=>exact q j y ⇑f
def jcG(r:Reps R Z H l vs [])(a:List Nat):Reps R Z H (a.map λi=>l.getD i .non) (a.map λi=>vs.getD i .non) []:=by
 have get:∀ l vs,Reps R Z H l vs []->∀ i,Rep R Z H (l.getD i .non) (vs.getD i .non) []:=by
  intro l
  induction l with
  | nil=>
   intro vs r i;obtain⟨rfl,_⟩:=r;simp;exact .non_mk
  | cons d l b=>
   intro vs r i;obtain⟨v,c,f,g,rfl,e,r1,r2⟩:=r;obtain⟨rfl,rfl⟩:=List.append_eq_nil_iff.mp e.symm;cases i with
   | zero=>exact r1
   | succ i=>exact b c r2 i
 induction a with
 | nil=>exact .empty
 | cons i a b=>exact Reps.cons (get l vs r i) b
def jaT:BC R (jcj R.K) qQ:=by
 intro Z H m d vs O z r e Q k
 match m,e,r with
 | [.lst o l],e,r=>
  refine ob e λc n e=>oc e λs e=>?_;cases e;obtain⟨v,rfl,r1⟩:=r.one_of;obtain⟨p,f,x,rfl,t,b⟩:=r1.lst_of;obtain⟨rfl,u,q⟩:=jaY n b;refine⟨p,f,c,rfl,t.sq,u,by rw[b.length];exact(X2 s),q,λD g=>?_⟩;refine k (Go.newO (wf0 z) g) ?_;have ne:∀ a,H a≠none->a≠D:=λa h e=>h<|e▸g;have w:Reps R Z H (Qb c l) (Y9 (λi j=>Jy (c.getD i ("","",0))<|c.getD j ("","",0)) f .non) []:=by
   unfold Qb Y9;rw[b.length];split
   ·exact b
   ·exact jcG b _
  exact⟨D,_,[],rfl,w.frame (λa z=>z) (λa h=>je<|ne a<|z a h)<|λa h=>(nomatch h),jk,rfl⟩
def zt:bootBuiltins "sorted" = some (.builtin "sorted"):=by boot_fast
def jax:(Qb rs l).Perm l:=by
 unfold Qb Y9;split
 ·exact List.Perm.refl _
 ·rename_i h;refine(((Kp (lt:=λi j=>Jy (rs.getD i ("","",0))<|rs.getD j ("","",0)) (n:=l.length) ∅).2).map λi=>l.getD i .non).trans ?_;have:(List.range l.length).map (λi=>l.getD i .non)=l:=by
   apply List.ext_getElem
   ·simp
   ·intro i b a;simp[List.getD_eq_getElem?_getD,X5 a]
  rw[this]
noncomputable def two2:List KA->Option (KA×KA)
 | [a,b]=>some (a,b)
 | _=>none
def two2_of{k}{p}(h:two2 k=some p):k=[p.1,p.2]:=by
 match k with
 | [_,_]=>cases h;rfl
def Vt(q:KA->KA->Int->Option Bool)(el:KA->KA->Int->D):List (List KA)->List D->Option (List D)
 | [],[]=>some []
 | k::ks,d::l=>(two2 k).bind λp=>(vg d).bind λn=>(q p.1 p.2 n).bind λt=>(Vt q el ks l).bind λr=>some<|bif t then el p.1 p.2 n::r else r
 | _,_=>none
theorem JV{q el}:∀{ks}{l}{r},Vt q el ks l=some r->frzs l=true/\ks.length=l.length
 | [],[],_,_=>⟨rfl,rfl⟩
 | [],_::_,_,e=>by cases e
 | _::_,[],_,e=>by cases e
 | k::ks,d::l,r,e=>by
  refine ob e λp c e=>ob e λn e2 e=>ob e λt f e=>ob e λg e3 e=>?_;obtain⟨a,b⟩:=JV e3;cases jE e2;exact⟨by rw[JI,a];rfl,by simp[b]⟩
def jaH{q el}{ks:List (List KA)}{l:List D}{r}{i}(e:Vt q el (ks.drop i) (l.drop i)=some r)(hi:i<ks.length):Ex5 λa b n t r'=>An5 (ks[i]?=some [a,b]) (l[i]?=some (.int n)) (q a b n=some t) (Vt q el (ks.drop<|i+1) (l.drop<|i+1)=some r') (r=bif t then el a b n::r' else r'):=by
 rw[List.drop_eq_getElem_cons hi] at e;have c:i<l.length:=by
  by_cases h:i<l.length
  ·exact h
  ·rw[List.drop_eq_nil_of_le (as:=l) ∅] at e;cases e
 rw[List.drop_eq_getElem_cons c] at e;rw[X5 hi,X5 c];refine ob e λp d e=>ob e λn e2 e=>ob e λt f e=>ob e λr' e3 e=>?_;cases e;exact⟨p.1,p.2,n,t,r',by rw[two2_of d],by rw[jE e2],f,e3,rfl⟩
section
variable {R:RC}{tc:TT}{te ts:TE}{q:KA->KA->Int->Option Bool}{el:KA->KA->Int->D}
def SpT(R:RC)(tc:TT)(q:KA->KA->Int->Option Bool):Prop:=∀{σ:L2.St}{Z:Zn}{H:Hp}{b a1 a2 n t}{Q:Bool->Hp->Prop},Zd Z H->σ[0]?=some (some<|.ref b)->σ[1]?=some (some<|.int n)->H b=some (.tup [kV<|kaV a1,kV<|kaV a2])->q a1 a2 n=some t->(∀{Z' H'},Go Z H [] Z' H' []->Q t H')->tc σ H Q
def SpE(R:RC)(te:TE)(el:KA->KA->Int->D):Prop:=∀{σ:L2.St}{Z:Zn}{H:Hp}{b a1 a2 n}{Q:VK},Zd Z H->σ[0]?=some (some<|.ref b)->σ[1]?=some (some<|.int n)->H b=some (.tup [kV<|kaV a1,kV<|kaV a2])->(∀{v Z' H'},Go Z H [] Z' H' []->Rep R Z' H' (el a1 a2 n) v []->Q v H')->te σ H Q
inductive CpQ (R:RC) (q:KA->KA->Int->Option Bool) (el:KA->KA->Int->D) (Z0:Zn) (H0:Hp) (a:Addr) (ks:List<|List KA) (l all:List D) (i m:Nat) (σ2:L2.St) (H2:Hp):Prop
 | mk:m=ks.length-i->i<=ks.length->σ2.length=2->∀(Z2:Zn) (ys:List D) (vs:List V) (rest:List D),Go Z0 H0 [] Z2 H2 [a]->H2 a=some (.lst vs)->Reps R Z2 H2 ys vs []->Vt q el (ks.drop i) (l.drop i)=some rest->all=ys++rest->ys.length<=i->CpQ R q el Z0 H0 a ks l all i m σ2 H2
def zu(ht:SpT R tc q)(he:SpE R te el){H}{o}{g}{d}{ks}{l}{us}{all}(C:Zd g d)(hd:d H=some (.frz o<|.dT<|(ks.map<|List.map kaV).zip us))(ru:Reps R g d l us [])(D:ks.length=l.length)(hl:lim ks.length=true)(e:Vt q el ks l=some all)
  {Q:VK}(k:∀{a}{Z'}{H'}{vs},Go g d [] Z' H' [a]->H' a=some (.lst vs)->Reps R Z' H' all vs []->Q (.ref a) H'):∀ a,d a=none ->
  uG tc te (jbv R.K 2<|kZ (vy 0)<|kZ (vy 1) jdQ) (jnI H o<|(ks.map<|List.map kaV).zip us) a [none,none] (upd d a<|.lst []) λH2=>Q (.ref a) H2:=by
 intro a ha;have M:us.length=ks.length:=by rw[ru.length];exact D.symm
 have j:((ks.map<|List.map kaV).zip us).length=ks.length:=by rw[List.length_zip,L1,M,Nat.min_self]
 have gp:Go g d [] g (upd d a<|.lst []) [a]:=Go.newO (wf0 C) ha;refine⟨CpQ R q el g d a ks l all,
  ⟨ks.length,rfl,U4 _,rfl,g,[],[],all,gp,jk,Reps.empty,e,rfl,M8 _⟩,?_⟩
 rintro i m N H2 ⟨rfl,O,hσ,Z2,ys,vs,rest,g2,E,I,e3,A,r⟩;have hJ:H2 H=some (.frz o<|.dT<|(ks.map<|List.map kaV).zip us):=by rw[g2.same H<|by rw[hd];exact λz=>(nomatch z)];exact hd
 by_cases f:i<ks.length
 ·right
  refine⟨⟨hJ,by rw[j];exact f⟩,?_⟩;rintro u H3 ⟨p,kv,b,F,rfl,hp,P,rfl⟩;obtain⟨J,L,n,t,r',hk,hn,e6,e5,rfl⟩:=jaH e3 f;obtain⟨w,hw,S⟩:=(g2.reps C ru).item hn;obtain⟨rfl,_⟩:=S.int_of;have hz:((ks.map<|List.map kaV).zip us)[i]?=some ([kaV J,kaV L],.int n):=by
   rw[List.getElem?_zip_eq_some];exact⟨by rw[List.getElem?_map,hk];rfl,hw⟩
  rw[hz] at F;cases F;have T:b≠p:=λz=>by rw[z,hp] at P;cases P
  have s:upd H2 p (.tup [.ref b,.int n]) b=some (.tup [kV<|kaV J,kV<|kaV L]):=by rw[je T];exact P
  have g3:Go Z2 H2 [] Z2 (upd H2 p<|.tup [.ref b,.int n]) []:=(Go.newO (wf0 g2.wf.zd) hp).drop (λ_ h=>(nomatch h)) List.nodup_nil;refine⟨p,[.ref b,.int n],rfl,SqT.of jk,rfl,.ref b,[.int n],rfl,.int n,[],rfl,rfl,?_⟩;have s0:((N.set 0<|some<|.ref b).set 1 (some<|.int n))[0]?=some (some<|.ref b):=by
   rw[List.getElem?_set_ne<|by decide,List.getElem?_set_self ∅]
  have s1:((N.set 0<|some<|.ref b).set 1 (some<|.int n))[1]?=some (some<|.int n):=by
   rw[List.getElem?_set_self<|by rw[List.length_set];lia]
  have G:((N.set 0<|some<|V.ref b).set 1 (some<|V.int n)).length=2:=by simp[hσ]
  refine ht g3.wf.zd s0 s1 s e6 λ{Z4 H4} g4=>?_;have c:=g3.trans g4;cases t with
  | true=>
   have U:H4 b=some (.tup [kV<|kaV J,kV<|kaV L]):=by rw[g4.same b<|by rw[s];exact λz=>(nomatch z)];exact s
   refine jf2<|he c.wf.zd s0 s1 U λ{v Z6 W} gq rq=>?_;have y:=c.trans gq;have X:W a=some (.lst vs):=by rw[y.same a<|by rw[E];exact λz=>(nomatch z)];exact E
   have Y:vs.length<sizeLine:=by
    rw[I.length];exact uc<|X0<|N6 r<|N6 O<|X2 hl
   have gA:Go g d [] Z6 W [a]:=g2.trans ⇑(y.frame (B:=[])<|by simpa using g2.wf);have w6:=gA.wf;have rr:=((y.reps g2.wf.zd I).append (.one rq)).frame (H':=upd W a<|.lst<|vs++[v]) (λ_ z=>z) (λx Z=>je λz=>w6.nz a L7<|z▸Z) (λx Z=>(nomatch Z));rw[cond_true] at A;exact⟨vs,X,Y,ks.length-(i+1),by lia,rfl,f,G,_,ys++[el J L n],vs++[v],r',gA.trans<|Go.put (o:=.lst<|vs++[v]) w6 L7,jk,by simpa using rr,e5,by rw[A];simp,by rw[N3];exact Nat.add_le_add_right r 1⟩
  | false=>
   refine jgb ?_;rw[cond_false] at A;exact⟨ks.length-(i+1),by lia,rfl,f,G,Z4,ys,vs,r',g2.trans<|by simpa using(c.frame (B:=[]) ⇑g2.wf),by rw[c.same a<|by rw[E];exact λz=>(nomatch z)];exact E,c.reps g2.wf.zd I,e5,A,Nat.le_succ_of_le r⟩
 ·left
  have hi2:i=ks.length:=by lia
  refine⟨⟨hJ,by rw[j];lia⟩,?_⟩;rw[hi2,List.drop_length,D,List.drop_length] at e3;cases e3;rw[M9] at A;subst A;exact k g2 E I
@[simp] def jma(fe:FE)(q:KA->KA->Int->Option Bool)(el:KA->KA->Int->D)(ρ:Rh):Option (D×Rh):=(fe ρ).bind λt=>(jfV t.1).bind λp=>bif lim p.1.length then(Vt q el p.1 p.2).bind λr=>some (.lst true r,t.2) else none
def jjc{fe}(h:DE R ts fe)(B:SpT R tc q)(C:SpE R te el):DE R (KZ (jko ts) (jbv R.K 2<|kZ (vy 0)<|kZ (vy 1) jdQ) tc te [none,none]) (jma fe q el):=by
 intro σ ρ J Z H O d w s e Q k;refine ob e λt e5 e=>ob e λp D e=>oc e λi e=>ob e λall e7 e=>?_;cases e;obtain⟨x,L⟩:=t;obtain⟨n,l⟩:=p;cases Kf D;refine h w s e5 λ{v j g P m} g1 r s1=>?_;obtain⟨c,u,M,rfl,A,y,E,rfl⟩:=r;cases A.nil (JV e7).1;refine⟨c,_,rfl,E,λo=>?_⟩;have w1:=g1.wf;have g0:Go j g ([c]++m) j (upd g c<|.frz o<|.dT<|(n.map<|List.map kaV).zip u) ([c]++m):=Go.put w1 (by simp);have nd:=w1.nd;simp only[List.singleton_append,List.nodup_cons] at nd;have g2:Go j g ([c]++m) j (upd g c<|.frz o<|.dT<|(n.map<|List.map kaV).zip u) m:=g0.drop (λa h=>U2 _ h) nd.2;have nz:∀ b,j b->upd g c (.frz o<|.dT<|(n.map<|List.map kaV).zip u) b=g b:=λb f=>je λz=>w1.nz c (by simp)<|z▸f;have F:∀ b∈m,b≠c:=λb f z=>nd.1<|z▸f;exact zu B C g2.wf.zd jk (A.frame (λ_ z=>z) nz λb f=>(nomatch f)) y i e7 λ{a N S vs} g3 G I=>(k (g1.trans<|g2.trans<|g3.widen g2.wf) ⟨a,vs,[],rfl,I,G,rfl⟩<|g3.slots g2.wf.zd<|s1.frame (λ_ z=>z) nz λb f=>je<|F b f)
def ja5:SpT R (Vo<|tOp (rI0 λi j=>.bl<|decide<|j<i) (jU 1)<|tC<|.int 0) (λ_ _ n=>some<|decide<|0<n):=by
 intro σ Z H b a c n t Q z d s1 f e k;cases e;exact⟨.int n,s1,n,0,rfl,rfl,_,rfl,k<|Go.refl<|wf0 z⟩
def jb3:SpE R (zw<|jD (tOp (rIx R.K) (jU 0)<|tC<|.int 0)<|jD (tOp (rIx R.K) (jU 0)<|tC<|.int 1)<|jD (jU 1) J2) (λa b n=>.tup [kaD a,kaD b,.int n]):=by
 intro σ Z H b f g n Q z c s1 d k;refine⟨.ref b,c,.inr<|.inl ⟨b,_,0,_,rfl,rfl,SqT.of d,rfl,⟨.ref b,c,.inr<|.inl ⟨b,_,1,_,rfl,rfl,SqT.of d,rfl,?_⟩⟩⟩⟩;exact⟨.int n,s1,by show 3<=sizeLine;decide,λq e=>k (Go.newF (wf0 z) e)<|Rep.tupNew (wf0 z) e<|Reps.cons (zG f)<|Reps.cons (zG g)<|Reps.cons .int_mk .empty⟩
abbrev jbP:List (List KA)->List D->Option (List D):=Vt (λ_ _ n=>some<|decide<|0<n) λa b n=>.tup [kaD a,kaD b,.int n]
@[simp] def jo5(i:Nat)(ρ:Rh):Option (D×Rh):=jma (dMv i) (λ_ _ n=>some<|decide<|0<n) (λa b n=>.tup [kaD a,kaD b,.int n]) ρ
end
noncomputable def jav:List D->List D->List D->List D
 | a::l,b::m,c::n=>.tup [a,b,c]::jav l m n
 | _,_,_=>[]
theorem V4:∀{ns}{l}{vs}{O},Reps R Z H l vs O->ns.length=l.length->Jf ns l f=some d->Ex2 λv P=>An3 ((ns.zip vs).lookup f=some v) (Rep R Z H d v P)<|∀ q,P.count q<=O.count q
 | [],l,vs,O,_,_,h=>by cases l<;>cases h
 | n::ns,[],vs,O,_,a,_=>by simp at a
 | n::ns,x::l,vs,O,r,a,h=>by
  obtain⟨v,b,c,i,rfl,rfl,r1,r2⟩:=r;rw[Jf] at h;by_cases e:f=n
  ·rw[if_pos e] at h;cases h;exact⟨v,c,by rw[U6,List.lookup_cons,e];simp,r1,λq=>by rw[U7];lia⟩
  ·rw[if_neg e] at h;obtain⟨w,P,g,e2,e3⟩:=V4 r2 ⇑a h;refine⟨w,P,?_,e2,λq=>by have:=e3 q;rw[U7];lia⟩;rw[U6,List.lookup_cons,show(f==n)=false by simp[e]];exact g
theorem ww(j:f≠g):∀{ns}{l}{vs}{O},Reps R Z H l vs O->ns.length=l.length->Jf ns l f=some d->Jf ns l g=some c ->
  Ex4 λv P w Q=>An5 ((ns.zip vs).lookup f=some v) ((ns.zip vs).lookup g=some w) (Rep R Z H d v P) (Rep R Z H c w Q)<|∀ q,P.count q+Q.count q<=O.count q
 | [],l,vs,O,_,_,h,_=>by cases l<;>cases h
 | n::ns,[],vs,O,_,m,_,_=>by simp at m
 | n::ns,x::l,vs,O,r,m,h,k=>by
  obtain⟨v,s,p,u,rfl,rfl,r1,r2⟩:=r;rw[Jf] at h k;by_cases e:f=n
  ·have i:g≠n:=λz=>j<|e.trans z.symm;rw[if_pos e] at h;rw[if_neg i] at k;cases h;obtain⟨w,Q,o,e2,e3⟩:=V4 r2 ⇑m k;refine⟨v,p,w,Q,by rw[U6,List.lookup_cons,e];simp,?_,r1,e2,λq=>by have:=e3 q;rw[U7];lia⟩;rw[U6,List.lookup_cons,show(g==n)=false by simp[i]];exact o
  ·rw[if_neg e] at h;by_cases i:g=n
   ·rw[if_pos i] at k;cases k;obtain⟨w,Q,o,e2,e3⟩:=V4 r2 ⇑m h;refine⟨w,Q,v,p,?_,by rw[U6,List.lookup_cons,i];simp,e2,r1,λq=>by have:=e3 q;rw[U7];lia⟩;rw[U6,List.lookup_cons,show(f==n)=false by simp[e]];exact o
   ·rw[if_neg i] at k;obtain⟨a,P,b,Q,o,e2,e3,t,e5⟩:=ww j r2 ⇑m h k;refine⟨a,P,b,Q,?_,?_,e3,t,λq=>by have:=e5 q;rw[U7];lia⟩
    ·rw[U6,List.lookup_cons,show(f==n)=false by simp[e]];exact o
    ·rw[U6,List.lookup_cons,show(g==n)=false by simp[i]];exact e2
@[simp] def jjy(i:Nat)(c:Nat)(f:Str)(g:Str)(pe:PF)(ρ:Rh):Option (D×Rh):=(pV i ρ).bind λt=>(zf t).bind λy=>bif y.1==c&&!decide (f=g) then(Jf y.2.1 y.2.2 f).bind λa=>(Jf y.2.1 y.2.2 g).bind λb=>(pe ρ).bind λr=>some (.tup [a,r,b],ρ.set i none) else none
def jme(J:Cls R.K<|R.cls c)(X:NoAttr R.K (R.cls c) f)(Y:NoAttr R.K (R.cls c) g)(he:PP R te pe):DE R (zw<|jD (jdJ R.K (jU i) f)<|jD te<|jD (jdJ R.K (jU i) g) J2) (jjy i c f g pe):=by
 intro σ ρ ρ' Z H O d w s e Q k;refine ob e λt e1 e=>ob e λ⟨c',ns,l⟩ e2 e=>oc e λD e=>ob e λa e3 e=>ob e λb e4 e=>ob e λr e5 e=>?_;cases e;cases Jv e2;have L:=qV e1;rw[M0] at D;obtain rfl:c'=c:=by simpa using D.1
 have E:f≠g:=by simpa using D.2
 obtain⟨A,P,B,rfl,k1,_,k3⟩:=s.put (L9.mp L).1;obtain⟨v,M,rp⟩:=k1 _ L;obtain⟨x,N,vs,F,rfl,rs,G,S,rfl⟩:=rp;obtain⟨m,Pf,n,Pg,lf,lg,rf,rg,cn⟩:=ww E rs G e3 e4;refine⟨.ref x,M,x,_,N,_,m,rfl,S,J,X,lf,(he w.zd s e5 λ{p o j C} g1 r1=>?_)⟩;refine⟨.ref x,M,x,_,N,_,n,rfl,g1.at0 S,J,Y,lg,by show 3<=sizeLine;decide,λq T=>?_⟩;have I:=g1.widen w;have gN:Go o j (C++(A++(x::F)++B)) (λy=>o y\/y=q) (upd j q<|.tup [m,p,n]) (C++(A++(x::F)++B)):=Go.newF I.wf T;have ne:∀ y,j y≠none->y≠q:=λy h e=>h<|e▸T;have zn:∀ y,o y->upd j q (.tup [m,p,n]) y=j y:=λy u=>je<|ne y<|I.wf.zd y u;have up:∀{d}{v}{U},Rep R o j d v U->Rep R (λy=>o y\/y=q) (upd j q<|.tup [m,p,n]) d v U:=λV=>V.frame (λ_ z=>.inl z) zn λy u=>je<|ne y<|V.dom y u;have s1:=(g1.slots w.zd k3);have s2:Slots R (λy=>o y\/y=q) (upd j q<|.tup [m,p,n]) (ρ.set i none) σ (A++B):=s1.frame (λ_ z=>.inl z) zn λy u=>je<|ne y<|s1.dom y u;have W:∀ y,((Pf++(C++Pg))++(A++B)).count y<=(C++(A++(x::F)++B)).count y:=λy=>by
  have:=cn y;simp only[U7,List.count_cons];lia
 refine k ((I.trans gN).drop (VI W) (Jz W gN.wf.nd)) ⟨q,[m,p,n],rfl,.inl ⟨.inr rfl,.inl jk⟩,?_⟩ s2;have:=Reps.cons (up<|g1.rep w.zd rf)<|Reps.cons (up r1)<|Reps.one<|up<|g1.rep w.zd rg;simpa using this
def jnz{cl}{X}{e}{te}{pe}{pos p}{i k}{x f g}{m}{p2 b a}(n:Cls X.K<|cl k)(o:NoAttr X.K (cl k) f)(q:NoAttr X.K (cl k) g)(r:QB cl X (.Name x p) (jU i)<|pV i)(l:QP cl X e te pe)(c:QB cl X (.Name x p2) (jU i)<|pV i)
  (s:attributeBase (.Name x p) f X.env (eval (.Name x p) X.env)=eval (.Name x p) X.env:=by rfl) (d:attributeBase (.Name x p2) g X.env (eval (.Name x p2) X.env)=eval (.Name x p2) X.env:=by rfl)
  (t:starEach [.Attribute (.Name x p) f b,e,.Attribute (.Name x p2) g a] X.env=(false,eval (.Attribute (.Name x p) f b) X.env)::starEach [e,.Attribute (.Name x p2) g a] X.env:=by rfl)
  (h:starEach [e,.Attribute (.Name x p2) g a] X.env=(false,eval e X.env)::starEach [.Attribute (.Name x p2) g a] X.env:=by rfl)
  (j:starEach [.Attribute (.Name x p2) g a] X.env=(false,eval (.Attribute (.Name x p2) g a) X.env)::starEach [] X.env:=by rfl):
  QE cl X (.Tuple [.Attribute (.Name x p) f b,e,.Attribute (.Name x p2) g a] m pos) (zw<|jD (jdJ X.K (jU i) f)<|jD te<|jD (jdJ X.K (jU i) g) J2) (jjy i k f g pe):=
 ⟨Ju<|jC (wu r.sem s) (jC l.sem (jC (wu c.sem d) vF j) h) t,jme n o q l.den⟩
end QD
namespace QD
open PySem L2
def jmF(B:BlockOk X scope N' [none,none])(e:X.calm=true)(f:QB cl X (.Name x p) (jU i)<|pV i)
  (h:∀ C s H fp,QG cl [] (jX X scope N' C s H fp) (.Tuple elts m tpos) (jbv X.K 2<|kZ (vy 0)<|kZ (vy 1) jdQ) g)
  (d:∀ C s H fp,QT cl (jX X scope N' C s H fp) c (Vo<|tOp (rI0 λi j=>.bl<|decide<|j<i) (jU 1)<|tC<|.int 0) q)
  (k:∀ C s H fp,QP cl (jX X scope N' C s H fp) elt (zw<|jD (tOp (rIx X.K) (jU 0)<|tC<|.int 0)<|jD (tOp (rIx X.K) (jU 0)<|tC<|.int 1)<|jD (jU 1) J2) pe)
  (a:attributeBase (.Name x p) "items" X.env (eval (.Name x p) X.env)=eval (.Name x p) X.env:=by rfl) (b:(apos.endLine==cpos.line)=true:=by rfl)
  (l:∀ z,foldedSetIterable (.Call (.Attribute (.Name x p) "items" apos) [] [] cpos) X.env z=pure z:=by intro _;rfl):
  QE cl X (.ListComp elt [⟨.Tuple elts m tpos,.Call (.Attribute (.Name x p) "items" apos) [] [] cpos,[c],0⟩] scope pos)
   (KZ (jko<|jU i) (jbv X.K 2<|kZ (vy 0)<|kZ (vy 1) jdQ) (Vo<|tOp (rI0 λi j=>.bl<|decide<|j<i) (jU 1)<|tC<|.int 0) (zw<|jD (tOp (rIx X.K) (jU 0)<|tC<|.int 0)<|jD (tOp (rIx X.K) (jU 0)<|tC<|.int 1)<|jD (jU 1) J2) [none,none]) (jo5 i):=
 ⟨xl B e (jf0 f.sem a b) (λC s H fp=>(h C s H fp).sem) (λC s H fp=>.inr ⟨c,rfl,(d C s H fp).sem⟩) (λC s H fp=>(k C s H fp).sem) l,jjc jmz (@ja5 _)<|@jb3 _⟩
end QD
namespace L2
open PySem PySem.Spec PyProof.Rows
end L2
namespace QD
open PySem L2 PySem.Spec PyProof.Rows
mutual
noncomputable def pln:D->Bool
 | .tup l=>jmV l
 | .non=>true | .bl _=>true | .int _=>true | .str _=>true
 | .lst _ _=>false | .dK _ _ _=>false | .dT _ _ _=>false | .ins _ _ _ _=>false | .dead=>false | .tok _=>false | .kt _=>false | .exc _ _=>false
noncomputable def jmV:List D->Bool
 | []=>true
 | d::l=>pln d&&jmV l
end
mutual
theorem Rep.cutA{a:Addr}(ha:∀ vs,¬ Rd H a (.tup vs))(hH:∀ b,b≠a->H' b=H b):∀{d:D}{v:V}{O:W5},pln d=true->Rep R Z H d v O->Rep R (λb=>Z b/\b≠a) H' d v O
 | .non,_,_,_,r=>by rw[Rep] at r ⊢;exact r
 | .bl _,_,_,_,r=>by rw[Rep] at r ⊢;exact r
 | .int _,_,_,_,r=>by rw[Rep] at r ⊢;exact r
 | .str _,_,_,_,r=>by rw[Rep] at r ⊢;exact r
 | .tup l,_,_,h,r=>by
  rw[pln] at h;rw[Rep] at r ⊢;obtain⟨p,vs,e,t,r⟩:=r;refine⟨p,vs,e,?_,Reps.cutA ha hH h r⟩;rcases t with⟨z,t⟩ | t
  ·have ne:p≠a:=λq=>ha vs<|q▸t;exact .inl ⟨⟨z,ne⟩,Rd.agree (hH p ne) t⟩
  ·exact .inr t
 | .lst _ _,_,_,h,_=>by rw[pln] at h;cases h
 | .dK _ _ _,_,_,h,_=>by rw[pln] at h;cases h
 | .dT _ _ _,_,_,h,_=>by rw[pln] at h;cases h
 | .ins _ _ _ _,_,_,h,_=>by rw[pln] at h;cases h
 | .dead,_,_,h,_=>by rw[pln] at h;cases h
 | .tok _,_,_,h,_=>by rw[pln] at h;cases h
 | .kt _,_,_,h,_=>by rw[pln] at h;cases h
 | .exc _ _,_,_,h,_=>by rw[pln] at h;cases h
theorem Reps.cutA{a:Addr}(ha:∀ vs,¬ Rd H a (.tup vs))(hH:∀ b,b≠a->H' b=H b):∀{l:List D}{vs:List V}{O:W5},jmV l=true->Reps R Z H l vs O->Reps R (λb=>Z b/\b≠a) H' l vs O
 | [],_,_,_,r=>by rw[Reps] at r ⊢;exact r
 | d::l,_,_,h,r=>by
  rw[jmV,M0] at h;rw[Reps] at r ⊢;obtain⟨v,vs',O1,O2,e1,e2,r1,r2⟩:=r;exact⟨v,vs',O1,O2,e1,e2,Rep.cutA ha hH h.1 r1,Reps.cutA ha hH h.2 r2⟩
end
def joU(K:W4)(mg:W6)(x:Str)(st:Stmt)(ps:List Str):Prop:=∃ f fd,FnFact K mg x x st f fd ps
def jo8(K:W4)(C:Addr)(x qual:Str)(st:Stmt)(ps:List Str):Prop:=∃ f fd,MtFact K C x qual st f fd ps
section
variable {K:W4}{mg:W6}{h:Heap}{x qual:Str}{st:Stmt}{ps:List Str}{a C:Addr}{od an:Option Addr}{sl:Array (Option Value)}{oc kV dc pm cd ct:Value}
def hasF(X:K.In h)(G:h.Ns mainGlobals mg)(c:PySem.W.nsIn K mainGlobals x=some (some<|.ref a))(e2:K.lookup a=some ⟨oc,od,.func<|PySem.W.fnOf x x (qh st) (va st) (jt st) .none kV dc pm an cd ct,sl⟩)(e3:PySem.W.codeIn K cd x=true)(b:PySem.W.keepIn K (.ref a)=true)
  (d:∀ kV doc pm an cdv ct us,us.length=ps.length->bindArgs (PySem.W.fnOf x x (qh st) (va st) (jt st) .none kV doc pm an cdv ct) ⟨us,[]⟩=pure (ps.zip us)):joU K mg x st ps:=⟨_,_,wx e2 e3 b,PySem.W.mg_of X G c,(wx e2 e3 b).binds d⟩
def hasM(c:PySem.W.findIn K (.ref C) x=some (some<|.ref a))(e5:PySem.W.isFn K (.ref a)=true)(e2:K.lookup a=some ⟨oc,od,.func<|PySem.W.fnOf x qual (qh st) (va st) (jt st) .none kV dc pm an cd ct,sl⟩)(e3:PySem.W.codeIn K cd qual=true)(b:PySem.W.keepIn K (.ref a)=true)
  (d:∀ kV doc pm an cdv ct us,us.length=ps.length->bindArgs (PySem.W.fnOf x qual (qh st) (va st) (jt st) .none kV doc pm an cdv ct) ⟨us,[]⟩=pure (ps.zip us)):jo8 K C x qual st ps:=⟨_,_,wx e2 e3 b,⟨c,e5,b⟩,(wx e2 e3 b).binds d⟩
end
def fsc{N ps}{sc}(a:sc.kind=.function:=by rfl)(b:sc.isCoroutine=false:=by rfl)(c:sc.isGenerator=false:=by rfl)(d:N.Nodup:=by decide +kernel)(e:N.take ps.length=ps:=by rfl)
  (f:∀ x∈ps,sc.names.lookup x=some .local\/sc.names.lookup x=some .cell:=by decide +kernel) (g:∀ y∈sc.names,y.2≠.free:=by decide +kernel):FnScope N ps sc:=⟨a,b,c,d,e,f,g⟩
def jdL(K:W4)(mg:W6)(x:Str)(st:Stmt)(N:List Str)(n:Nat):Prop:=FnScope N (N.take n) (jt st)/\joU K mg x st (N.take n)
def jl6(K:W4)(C:Addr)(x qual:Str)(st:Stmt)(N:List Str)(n:Nat):Prop:=FnScope N (N.take n) (jt st)/\jo8 K C x qual st (N.take n)
section
variable (P:Program)(w:World)(cl:Nat->Addr){K:W4}{mg:W6}{C:Addr}{x qual:Str}{st:Stmt}{N:List Str}{n:Nat}
abbrev NP(_:jdL K mg x st N n)(k:Nat)(m:List D->Option D):Prop:=OkF P w K mg x st k (N.take n)<|spP ⟨K,cl⟩ m n
abbrev NM(_:jdL K mg x st N n)(k:Nat)(m:List D->Option (D×D)):Prop:=OkF P w K mg x st k (N.take n)<|spM ⟨K,cl⟩ m n 0
abbrev OP(mg:W6)(_:jl6 K C x qual st N n)(k:Nat)(m:List D->Option D):Prop:=OkM P w K mg C x qual st k (N.take n)<|spP ⟨K,cl⟩ m n
abbrev OM(mg:W6)(_:jl6 K C x qual st N n)(k:Nat)(m:List D->Option (D×D)):Prop:=OkM P w K mg C x qual st k (N.take n)<|spM ⟨K,cl⟩ m n 0
end
section
variable {P:Program}{w:World}{k:Nat}{sp:Sp}{K:W4}{mg:W6}{C:Addr}{x qual:Str}{st:Stmt}{N:List Str}{n:Nat}
def okN(h:jdL K mg x st N n)(g:∀ f fd,FnScope N (N.take n) (jt st)->FnFact K mg x x st f fd (N.take n)->∀ base,FnOk P w K mg base CX0 k f fd (N.take n) sp):OkF P w K mg x st k (N.take n) sp:=by
 obtain⟨S,f,fd,F⟩:=h;exact⟨f,fd,F,g f fd S F⟩
def okO(h:jl6 K C x qual st N n)(g:∀ f fd,FnScope N (N.take n) (jt st)->MtFact K C x qual st f fd (N.take n)->∀ base,FnOk P w K mg base CX0 k f fd (N.take n) sp):OkM P w K mg C x qual st k (N.take n) sp:=by
 obtain⟨S,f,fd,F⟩:=h;exact⟨f,fd,F,g f fd S F⟩
end
def u0{α:Type}{P:List α->Prop}(h:P []):∀ us:List α,us.length=0->P us
 | [],_=>h
def uS{α:Type}{P:List α->Prop}{n}(h:∀ a,∀ us:List α,us.length=n->P (a::us)):∀ us:List α,us.length=n+1->P us
 | a::us,e=>h a us<|Nat.succ.inj e
def jfO{a b}(h:a)(k:a->b):a/\b:=⟨h,k h⟩
section
variable {cl:Nat->Addr}{X:Cx}{pos:Pos}{x:Str}{scope:Scope}{N':List Str}{i:Nat}
def qS{j}{l}(h:x=S l:=by decide +kernel):QP cl X (.Constant (.str x) j pos) (tC<|.str x) (pS l):=jnU l h
def qI{i}{j}:QB cl X (.Constant (.int i) j pos) (tC<|.int i) (pI i):=QP.bb jmc
end
end QD
namespace L2
open PySem PySem.Spec PyProof.Rows
end L2
namespace QD
open PySem L2 PySem.Spec PyProof.Rows
noncomputable def blN(N:List Str):List (Option Nat)->List Str->List Str
 | [],_=>[]
 | none::l,xs=>xs.headD ""::blN N l xs.tail
 | some j::l,xs=>N.getD j ""::blN N l xs
noncomputable def joS(sc:Scope):List Str:=(sc.names.filter λy=>decide (y.2=.local)||decide (y.2=.cell)).tail.map (·.1)
def bkN(_:FnScope N ps sc)  (h1:X.env.scope=sc:=by rfl) (h2:X.N=N:=by rfl) (h:Kb sc N scope (blN N ix<|joS scope) ix=true:=by decide +kernel):BlockOk X scope (blN N ix<|joS scope) ix:=jgR sc N h1 h2 h
def joN{p:PAf}{n}(h:∀ ρ ds,p ρ=some ds->ds.length=n):∀ ρ ds,p ρ=some ds->ds.length+1=n+1:=λρ ds e=>by rw[h ρ ds e]
def ndN(h:N'.Nodup):(jX X scope N' C s H fp).N.Nodup:=h
def Qf:D->D->Option D
 | .lst true l,.int n=>bif frzs l&&decide (l.length<=1000)&&(decide (0<=n)&&decide (n<=1000)) then some (.lst true (List.replicate n.toNat l).flatten) else none
 | _,_=>none
@[simp] def mulL_e(l)(n):Qf (.lst true l) (.int n)=(bif frzs l&&decide (l.length<=1000)&&(decide (0<=n)&&decide (n<=1000)) then some (.lst true (List.replicate n.toNat l).flatten) else none):=rfl
def jih:BO R jnm Qf:=by
 intro Z H x y d v u m q z g h e Q k;cases x with
 | lst o l=>
  cases o with
  | false=>cases y<;>cases e
  | true=>
  cases y with
  | int n=>
   refine oc e λa e=>?_;cases e;simp only[M0,decide_eq_true_eq] at a;obtain⟨p,vs,r,rfl,c,i,rfl⟩:=g;obtain⟨rfl,_⟩:=h.int_of;have j:vs.length*n.toNat<=1000*1000:=Nat.mul_le_mul (by rw[c.length];exact a.1.2) ∅;exact⟨p,n,vs,rfl,rfl,i,by lia,by lia,N6 j<|by decide,λb f=>k (Go.newO (wf0 z) f)<|Rep.lstNew (wf0 z) f<|wk (c.frozen a.1.1) n.toNat⟩
  | _=>cases e
 | _=>cases y<;>cases e
def jkG(c:QB cl X a ta pa)(d:QB cl X b tb pb):QP cl X (.BinOp a .Mult b pos) (tOp jnm ta tb) (p2 Qf pa pb):=⟨xp jmP c.sem d.sem,KN jih c.den d.den⟩
section
open Classical in
end
end QD
namespace QD
open PySem L2
def jmM(b:QE cl X a ta fa)(c:∀ whole,isTrue a X.env whole=(do let v <- whole;standAt a.pos;holding [v] (truthy v)):=by intro _;rfl):QTE cl X a (L2.tB ta) (Vn fa):=⟨jfI b.sem c,jcL b.den⟩
noncomputable def jm0:D->Option (List KA)
 | .kt k=>some k
 | _=>none
def jiF(h:jm0 d=some k):d=.kt k:=by
 cases d with
 | kt b=>cases h;rfl
 | _=>cases h
@[simp] def ktOf_kt(k):jm0 (.kt k)=some k:=rfl
@[simp] def pKt(i:Nat)(ρ:Rh):Option (List KA):=(pV i ρ).bind jm0
@[simp] def dKey(pk:Rh->Option (List KA))(ρ:Rh):Option (D×Rh):=(pk ρ).bind λk=>some (.kt k,ρ)
end QD
namespace QD
open PySem L2 PySem.Spec PyProof.Rows
noncomputable def sqD:D->Option (Bool×List D)
 | .lst _ l=>some (true,l)
 | .tup l=>some (false,l)
 | _=>none
def jhX:List D->Option (List<|Bool×List D)
 | []=>some []
 | d::ds=>(sqD d).bind λx=>(jhX ds).bind λxs=>some<|x::xs
def FB(R:RC)(Z:Zn)(H:Hp)(a:Addr):Bool->List V->Prop
 | true,w=>FL R Z H a w
 | false,w=>FT R Z H a w
def FB.frame(b:∀ a,Z a->Z' a)(c:∀ a,Z a->H' a=H a)(h:FB R Z H a k w):FB R Z' H' a k w:=by
 cases k with
 | true=>exact FL.frame b c h
 | false=>exact FT.frame b c h
def FB.sq(h:FB R Z H a k w):SqB R.K H a k w:=by
 cases k with
 | true=>exact FL.sq h
 | false=>exact FT.sq h
def jhP(e:sqD d=some x)(r:Rep R Z H (fz d) v []):Ex2 λa w=>An3 (v=.ref a) (FB R Z H a x.1 w) (Reps R Z H (fzs x.2) w []):=by
 cases d with
 | lst o l=>
  cases e;obtain⟨a,w,g,rfl,b,c,rfl,_⟩:=r;exact⟨a,w,rfl,c,b⟩
 | tup l=>
  cases e;obtain⟨a,w,rfl,f,b⟩:=r;exact⟨a,w,rfl,f,b⟩
 | _=>cases e
structure Zr where
 a:Addr
 k:Bool
 w:List V
 l:List D
theorem xZ:∀{ds}{xs}{vs},jhX ds=some xs->Reps R Z H (fzs ds) vs []->∃(zs:List Zr),An3 (zs.map (λz=>(z.k,z.l))=xs) (vs=zs.map (λz=>.ref z.a))<|∀ z∈zs,FB R Z H z.a z.k z.w/\Reps R Z H (fzs z.l) z.w []
 | [],xs,vs,e,r=>by
  cases e;exact⟨[],rfl,r.1,by simp⟩
 | d::ds,xs,vs,e,r=>by
  refine ob e λx b e=>ob e λn e2 e=>?_;cases e;obtain⟨v,c,o,p,rfl,f,r1,r2⟩:=r;obtain⟨rfl,rfl⟩:=List.append_eq_nil_iff.mp f.symm;obtain⟨a,w,rfl,g,h⟩:=jhP b r1;obtain⟨zs,i,rfl,j⟩:=xZ e2 r2;exact⟨⟨a,x.1,w,x.2⟩::zs,by rw[L5,i],rfl,λz m=>(M4.mp m).elim (λq=>by rw[q];exact⟨g,h⟩) (j z)⟩
theorem wD:∀{zs:List Zr}{us},us.length=zs.length->(∀(m:Nat) q,zs[m]?=some q->∃ u,us[m]?=some u/\Rep R Z H (g q) u [])->Reps R Z H (zs.map g) us []
 | [],[],_,_=>Reps.empty
 | [],_::_,h,_=>by simp at h
 | _::_,[],h,_=>by simp at h
 | q::zs,u::us,h,k=>by
  obtain⟨a,e,r⟩:=k 0 q rfl;cases e;exact Reps.cons r (wD ⇑h λm q e=>by have:=k (m+1) q ⇑e;simpa using this)
noncomputable def jnk(ls:List<|List D)(i:Nat):D:=.tup<|ls.map λl=>l.getD i .non
def jgN(m:Nat)(ds:List D):Option (List D):=(jhX ds).bind λxs=>bif decide (xs.length=m)&&(decide (0<m)&&xs.all λx=>decide<|(xs.headD (true,[])).2.length<=x.2.length) then some ((List.range (xs.headD (true,[])).2.length).map (jnk<|xs.map λx=>fzs x.2)) else none
@[simp] def pZN(m:Nat)(p:PAf)(ρ:Rh):Option (List D):=(p ρ).bind (jgN m)
def jf8(h:PPs R ta p):PIt R (iZN R.K m ta) (pZN m p):=by
 intro σ ρ Z H O V z s e Q k;refine ob e λW F e=>ob e λg e2 e=>oc e λj e=>?_;cases e;rw[M0,M0,List.all_eq_true] at j;have X:=X2 j.2.1;refine h z s F λ{vs G Y I} g1 r1=>?_;obtain⟨zs,n,rfl,r⟩:=xZ e2<|r1.freeze (Z':=λa=>G a\/a∈I) (λa z=>.inl z) λa z=>.inr z;have A:zs.length=g.length:=by rw[<- n,L1]
 refine⟨zs.map λz=>(z.a,z.k),by rw[L1,A,X2 j.1],by rw[U0];rfl,λa d=>?_,k g1.fz ?_⟩
 ·obtain⟨q,b,rfl⟩:=M5.mp d;exact⟨q.w,(r q b).1.sq⟩
 intro B t f C zd i;have fr:∀ q∈zs,SqB R.K t q.a q.k q.w/\Reps R B t (fzs q.l) q.w []:=λq b=>⟨((r q b).1.frame f C).sq,(r q b).2.frame f C λa d=>(nomatch d)⟩;refine⟨λhi=>?_,λx o=>?_⟩
 ·cases zs with
  | nil=>simp at A;lia
  | cons q zs=>
   refine⟨_,_,q.w,rfl,(fr q<|by simp).1,?_⟩;rw[L1,List.length_range] at hi;rw[(fr q<|by simp).2.length,vC];rw[<- n] at hi;exact hi
 ·rw[List.getElem?_map] at o;obtain⟨c,D,rfl⟩:=Option.map_eq_some_iff.mp o;have J:i<(g.headD (true,[])).2.length:=by have:=(L9.mp D).1;simpa using this
  have:c=i:=by have:=(L9.mp D).2;simpa using this.symm
  subst this;have get:∀ q∈zs,∃ u,q.w[c]?=some u/\Rep R B t ((fzs q.l).getD c .non) u []:=λq b=>by
   have l1:c<(fzs q.l).length:=by
    rw[vC];have:(g.headD (true,[])).2.length<=q.l.length:=(λx o=>X2<|j.2.2 x o) (q.k,q.l) (by rw[<- n];exact M5.mpr ⟨q,b,rfl⟩)
    lia
   have e3:(fzs q.l)[c]?=some ((fzs q.l).getD c .non):=by rw[List.getD_eq_getElem?_getD,X5 l1];rfl
   exact(fr q b).2.item e3
  refine⟨λa d=>?_,λu H3 L=>?_⟩
  ·obtain⟨q,b,rfl⟩:=M5.mp d;obtain⟨u,v,_⟩:=get q b;exact⟨q.w,u,(fr q b).1,v⟩
  ·obtain⟨pp,us,M,v,rfl,E,rfl⟩:=L;refine⟨_,Go.newF (wf0 zd) E,Rep.tupNew (wf0 zd) E ?_⟩;have N:(g.map λx=>fzs x.2).map (λl=>l.getD c .non)=zs.map λq=>(fzs q.l).getD c .non:=by rw[<- n,U0,U0];rfl
   rw[N];refine wD (by rw[M,L1]) λm q y=>?_;obtain⟨u,P,S⟩:=v m (q.a,q.k) (by rw[List.getElem?_map,y];rfl) q.w (fr q<|List.mem_of_getElem? y).1;obtain⟨u',T,U⟩:=get q<|List.mem_of_getElem? y;cases S.symm.trans T;exact⟨u,P,U⟩
def jkE(d:X.mg "zip" = none)(h:QPs cl X [a,b] tr pr)(e:Gl X "zip":=by rfl)(f:starEach [a,b] X.env=[(false,eval a X.env),(false,eval b X.env)]:=by rfl)(c:starEach [b] X.env=[(false,eval b X.env)]:=by rfl):
  QI cl X (.Tuple elts n tpos) (.Call (.Name "zip" p) [a,b] [] pos) (iZN X.K 2 tr) (pZN 2 pr):=⟨jmj e d h.sem f c,jf8 h.den⟩
def jkb(e:X.mg "zip" = none)(h:QPs cl X [a,b,c] tr pr)(f:Gl X "zip":=by rfl)(g:starEach [a,b,c] X.env=[(false,eval a X.env),(false,eval b X.env),(false,eval c X.env)]:=by rfl)(d:starEach [b,c] X.env=[(false,eval b X.env),(false,eval c X.env)]:=by rfl):
  QI cl X (.Tuple elts n tpos) (.Call (.Name "zip" p) [a,b,c] [] pos) (iZN X.K 3 tr) (pZN 3 pr):=⟨jkB f e h.sem g d,jf8 h.den⟩
end QD
namespace QD
open PySem L2
theorem wc:∀{l m},l.length<=m.length->(List.range l.length).map (jnk [l,m])=jgg l m
 | [],m,_=>by cases m<;>rfl
 | a::l,[],h=>by simp at h
 | a::l,b::m,h=>by
  rw[M1,List.range_succ_eq_map,L5,U0,jgg,<- wc ⇑h];rfl
def jpC(h1:sqD d=some (k,l))(h2:sqD e=some (k',m))(h:l.length<=m.length):jgN 2 [d,e]=some (jgg (fzs l)<|fzs m):=by
 have a:jhX [d,e]=some [(k,l),(k',m)]:=by simp[jhX,h1,h2]
 have e2:=wc (l:=fzs l) (m:=fzs m) (by rw[vC,vC];exact h);rw[vC] at e2;unfold jgN;rw[a,L4,<- e2];simp[h]
theorem Q9:∀{l m n},l.length<=m.length->l.length<=n.length->(List.range l.length).map (jnk [l,m,n])=jav l m n
 | [],m,n,_,_=>by cases m<;>cases n<;>rfl
 | a::l,[],_,h,_=>by simp at h
 | a::l,b::m,[],_,h=>by simp at h
 | a::l,b::m,c::n,h,d=>by
  rw[M1,List.range_succ_eq_map,L5,U0,jav,<- Q9 ⇑h ⇑d];rfl
def jpH(h1:sqD d=some (k,l))(h2:sqD e=some (k',m))(a:sqD f=some (k2,n))(h:l.length<=m.length)(h':l.length<=n.length):jgN 3 [d,e,f]=some (jav (fzs l) (fzs m)<|fzs n):=by
 have b:jhX [d,e,f]=some [(k,l),(k',m),(k2,n)]:=by simp[jhX,h1,h2,a]
 have e2:=Q9 (l:=fzs l) (m:=fzs m) (n:=fzs n) (by rw[vC,vC];exact h) (by rw[vC,vC];exact h');rw[vC] at e2;unfold jgN;rw[b,L4,<- e2];simp[h,h']
end QD
namespace QD
open PySem L2 PySem.Spec PyProof.Rows
section
variable {R:RC}{Z Z':Zn}{H H':Hp}
def jpz(d:D):Option (List KA×D):=(jex d).bind λl=>(two1 l).bind λp=>(jm0 p.1).bind λk=>bif frz p.2 then some (k,p.2) else none
def zQ:List D->Option (List<|List KA×D)
 | []=>some []
 | d::l=>(jpz d).bind λp=>(zQ l).bind λr=>some<|p::r
def wK(ds:List D):Option D:=(jed ds).bind λd=>(jgt d).bind λl=>(zQ l).bind λps=>bif lim l.length then some (.dT true (jbq ps).1 (jbq ps).2) else none
structure KvA(R:RC)(Z:Zn)(H:Hp)(ys:List<|List KA×D)(vs:List V)(ps:List<|List Key×Addr×V):Prop where
 l:vs.length=ps.length
 i:∀(j:Nat) (v:V),vs[j]?=some v->∃ kv t,ps[j]?=some kv/\v=.ref t/\SqT R.K H t [.ref kv.2.1,kv.2.2]/\H kv.2.1=some (.tup<|kv.1.map kV)
 k:ps.map (·.1)=ys.map λy=>y.1.map kaV
 r:Reps R Z H (ys.map (·.2)) (ps.map (·.2.2)) []
def kva:∀{l:List D}{ys:List (List KA×D)}{vs:List V}{O:W5},zQ l=some ys->Reps R Z H l vs O->∃ ps,KvA R Z H ys vs ps:=by
 intro l
 induction l with
 | nil=>
  intro ys vs O e r;cases e;rw[Reps] at r;obtain⟨rfl,_⟩:=r;exact⟨[],rfl,λj v h=>by simp at h,rfl,Reps.empty⟩
 | cons d l o=>
  intro ys vs O e r;rw[zQ] at e;refine ob e λp c e=>ob e λs e2 e=>?_;cases e;refine ob c λt e3 c=>ob c λq x c=>ob c λk e5 c=>oc c λy c=>?_;cases c;rw[Reps] at r;obtain⟨v,z,F,G,rfl,_,r1,r2⟩:=r;obtain⟨ps,h⟩:=o e2 r2;rw[wW e3,two1_of x,jiF e5,Rep] at r1;obtain⟨a,ws,rfl,A,f⟩:=r1;rw[Reps] at f;obtain⟨w,B,I,J,rfl,_,g,f⟩:=f;rw[Rep] at g;obtain⟨b,rfl,_,C,_⟩:=g;rw[Reps] at f;obtain⟨u,E,K,L,rfl,_,m,f⟩:=f;rw[Reps] at f;obtain⟨rfl,_⟩:=f;cases m.nil y;refine⟨(k.map kaV,b,u)::ps,by simp[h.l],λj v n=>?_,by simp[h.k],Reps.cons (O:=[]) (P:=[]) m h.r⟩;cases j with
  | zero=>cases n;exact⟨_,a,rfl,rfl,A.sq,C⟩
  | succ j=>exact h.i j v n
def jec:BC R (xF R.K) wK:=by
 intro Z H A d vs O z r e Q k;refine ob e λx q e=>ob e λl e2 e=>ob e λs e3 e=>oc e λt e=>?_;cases e;rw[qd q] at r;obtain⟨o,rfl⟩:=JO e2;obtain⟨v,rfl,r1⟩:=r.one_of;obtain⟨p,g,B,rfl,u,j⟩:=r1.lst_of;obtain⟨m,h⟩:=kva e3 j;obtain⟨c,w,y,f⟩:=Qq (ps:=s) (ks:=[]) (l:=[]) (us:=[]) h.k h.r .empty rfl;refine⟨p,g,m,rfl,u.sq,h.l,?_,h.i,λD n=>?_⟩
 ·rw[<- h.l,j.length];exact X2 t
 ·refine k (Go.newO (wf0 z) n) ?_;rw[Rep];refine⟨D,c,[],rfl,w.frame (λa z=>z) (λb h=>je<|by rintro rfl;exact z _ h n)<|λa h=>(nomatch h),f,?_,rfl⟩;rw[jk];exact congrArg (λx=>some<|HO.dT x) y.symm
@[simp] def pKy(pa pb:PF)(ρ:Rh):Option D:=(jjr pa pb ρ).bind λk=>some<|.kt k
def jox{ta tb:TE}{pa pb:PF}(a:PB R ta pa)(b:PB R tb pb):PP R (jeZ ta tb) (pKy pa pb):=by
 intro σ ρ Z H O d z s e Q k;refine ob e λc f e=>?_;cases e;exact Yg a b z s f λg h i=>k g (by rw[Rep];exact⟨_,rfl,h,i,rfl⟩)
end
section
variable {cl:Nat->Addr}{X:Cx}{a b e:Expr}{ta tb:TE}{pa pb:PF}{tr:TA}{pr:PAf}{pos:Pos}
def jpl{e}{tpos:Pos}(c:QB cl X a ta pa)(d:QB cl X b tb pb)(h1:starEach [a,b] X.env=(false,eval a X.env)::starEach [b] X.env:=by rfl)(h2:starEach [b] X.env=(false,eval b X.env)::starEach [] X.env:=by rfl):
  QP cl X (.Tuple [a,b] e tpos) (jeZ ta tb) (pKy pa pb):=⟨Ju<|jC c.sem (jC d.sem vF h2) h1,jox (R:=⟨X.K,cl⟩) c.den d.den⟩
def jgS{k:Nat}{p:Pos}(c:Room k X.A)(d:X.calm=true)(f:X.mg "dict" = none)(g:bootBuiltins "dict" = some (.type "dict"))(b:QBs cl X [e] tr pr)(h:Gl X "dict":=by rfl)
  (i:starEach [e] X.env=(false,eval e X.env)::starEach [] X.env:=by rfl) (a:(backTo pos<|starEach [] X.env).any (·.1)=false:=by rfl):
  QP cl X (.Call (.Name "dict" p) [e] [] pos) (tCB (xF X.K) tr) (pCB wK pr):=⟨QZ (r:=xF X.K) (xw d<|by have:=c.un;omega) h f g b.sem (by decide) (by decide) i a,jil jec b.den⟩
end
noncomputable def spA(R:RC)(m:List D->Option (D×D×D))(n j:Nat):Sp:=λvs H Q _=>∃ Z ds d c0 c1 O u0 u1,WF Z H O/\ds.length=n/\Reps R Z H ds vs O/\vs[j]?=some u0/\vs[j+1]?=some u1/\m ds=some (d,c0,c1) /\
 ∀{v}{Z'}{H'}{P O0 O1},Go Z H O Z' H' (P++(O0++O1))->Rep R Z' H' d v P->Rep R Z' H' c0 u0 O0->Rep R Z' H' c1 u1 O1->Q v H'
def jmX(j:Nat):Out->Option (D×D×D)
 | .rt d ρ=>(pV j ρ).bind λa=>(pV (j+1) ρ).bind λb=>some (d,a,b)
 | .nx ρ=>(pV j ρ).bind λa=>(pV (j+1) ρ).bind λb=>some (.non,a,b)
 | _=>none
def fnA(n j:Nat)(f:FS):List D->Option (D×D×D):=λds=>(f<|ds.map some++List.replicate (n-ds.length) none).bind (jmX j)
def jgU:fnA n j f ds=(f<|ds.map some++List.replicate (n-ds.length) none).bind (jmX j):=rfl
@[simp] def endA_rt(d j)(ρ):jmX j (.rt d ρ)=(pV j ρ).bind λa=>(pV (j+1) ρ).bind λb=>some (d,a,b):=rfl
@[simp] def endA_nx(j ρ):jmX j (.nx ρ)=(pV j ρ).bind λa=>(pV (j+1) ρ).bind λb=>some (.non,a,b):=rfl
def jhR(M:DS R [j,j+1] ts f)(h:spA R (fnA N.length j f) n j vs H Q E):ts {nx:=λ_ H'=>Q .non H',rt:=Q} (L2.start N vs) H:=by
 obtain⟨Z,D,d,c0,c1,O,u0,Y,w,hn,r,F,G,e,k⟩:=h;have s:Slots R Z H (D.map some++List.replicate (N.length-D.length) none) (L2.start N vs) O:=by
  have q:=qr r<|qA<|N.length-D.length;unfold L2.start;rw[r.length];rw[M9] at q;exact q
 have m:∀{i:Nat}{u},vs[i]?=some u->(L2.start N vs)[i]?=some (some u):=λ{i u} S=>by
  unfold L2.start;rw[List.getElem?_append_left<|by simpa using((L9.mp S).1),List.getElem?_map,S];rfl
 have key:∀{l}{p}{y}{H'}{P I}{v}{z},((pV j l).bind λa=>(pV (j+1) l).bind λb=>some (z,a,b))=some (d,c0,c1)->Go Z H O y H' (P++I)->Rep R y H' z v P->Slots R y H' l p I->Keep [j,j+1] (L2.start N vs) p->Q v H':=by
  intro l p y H' P I v z t g rr J kp;refine ob t λx0 e0 t=>ob t λx1 C t=>?_;cases t;have T:=qV e0;obtain⟨A,U,B,rfl,k1,_,k3⟩:=J.put (L9.mp T).1;obtain⟨v0,K,r0⟩:=k1 _ T;have V:p[j]?=some (some u0):=by rw[kp j<|by simp,m F]
  rw[K] at V;cases V;have x:(l.set j none)[j+1]?=some (some c1):=by rw[List.getElem?_set,if_neg ∅];exact(qV C)
  obtain⟨A2,P1,B2,eO,k4,_,_⟩:=k3.put (L9.mp x).1;obtain⟨v1,L,r1⟩:=k4 _ x;have W:p[j+1]?=some (some Y):=by rw[kp (j+1)<|by simp,m G]
  rw[L] at W;cases W;have X:∀ c,(P++(U++P1)).count c<=(P++(A++U++B)).count c:=λc=>by
   have q:=congrArg (List.count c) eO;simp only[U7] at q ⊢
   lia
  exact k (g.drop (VI X)<|Jz X g.wf.nd) rr r0 r1
 refine ob e λo C e=>?_;cases o with
 | rt z l=>exact M w s C<|key e
 | nx l=>exact M w s C λg J kp=>key e ⇑g .non_mk J kp
 | bk l=>cases e
 | ct l=>cases e
def PJ2(R:RC)(i0 i1 j:Nat)(ta:TA)(p:PAf):Prop:=∀{σ}{ρ}{Z}{H}{O}{ds},Zd Z H->Slots R Z H ρ σ O->p ρ=some ds->∀{u0 u1},σ[i0]?=some (some u0)->σ[i1]?=some (some u1) ->
 ∀{Q:List V->Hp->Prop},(∀{v1 v2}{Z'}{H'},Go Z H [] Z' H' []->v1.length=j->Reps R Z' H' (ds.take j) v1 []->Reps R Z' H' (ds.drop j) v2 []->Q (v1++u0::u1::v2) H')->ta σ H Q
def jd1(c:PPs R tr pr):PJ2 R i0 i1 0 (jD (jU i0)<|jD (jU i1) tr) (pFs pr):=by
 intro σ ρ Z H O h z s e u0 d a b Q k;refine ob e λl f e=>oc e λg e=>?_;cases e;refine⟨u0,a,d,b,c z s f λ{vs i j m} g1 r1=>?_⟩;cases r1.nil g;exact k g1 rfl ⇑Reps.empty ⇑r1
def jen(i:PB R ta pa)(m:PJ2 R i0 i1 j tr pr):PJ2 R i0 i1 (j+1) (jD ta tr) (ja (pF pa) pr):=by
 intro σ ρ Z H O u z s e u0 w b g Q k;refine ob e λd a e=>ob e λl e2 e=>?_;cases e;have n:frz d=true:=by
  refine ob a λc e3 a=>?_;cases hc:frz c with
  | false=>rw[hc] at a;cases a
  | true=>rw[hc] at a;cases a;exact hc
 refine i.f z s a λ{v x y A} g1 r1=>?_;cases r1.nil n;refine m g1.wf.zd (g1.slots z s) e2 b g λ{h B o p} g2 q r t=>?_;have g3:Go Z H [] o p []:=by simpa using g1.pair g2
 exact k (v1:=v::h) g3 (by simp[q]) (.cons (g2.rep g1.wf.zd r1) r) ⇑t
@[simp] def QN(m:List D->Option (D×D×D))(i0 i1:Nat)(j:Nat)(p:PAf)(ρ:Rh):Option (D×Rh):=bif decide (i0=i1) then none else(p ρ).bind λds=>(pV i0 ρ).bind λc0=>(pV i1 ρ).bind λc1=>(m<|ds.take j++c0::c1::ds.drop j).bind λr=>some (r.1,(ρ.set i0<|some r.2.1).set i1 (some r.2.2))
def jem(h:PJ2 R i0 i1 j ta p)(hn:∀ ρ ds,p ρ=some ds->ds.length+2=n/\j<=ds.length):DE R (KH (spA R m n j) [] E0 ta) (QN m i0 i1 j p):=by
 intro σ ρ ρ' Z H O d w s e Q k;unfold QN at e;by_cases g:i0=i1
 ·rw[X0 g] at e;cases e
 rw[X1 g,cond_false] at e;refine ob e λds e1 e=>ob e λc0 a e=>ob e λc1 f e=>ob e λ⟨d',t,i⟩ e2 e=>?_;cases e;have a:=qV a;have f:=qV f;have u:=(L9.mp a).1;have L:=(L9.mp f).1;obtain⟨A0,P0,B0,_,k0,_,_⟩:=s.put u;obtain⟨u0,v,_⟩:=k0 c0 a;obtain⟨A1,P1,B1,_,k1,_,_⟩:=s.put L;obtain⟨u1,x,_⟩:=k1 c1 f;refine h w.zd s e1 v x λ{v1 v2 I M} g1 hl q1 q2=>?_;have N:Go Z H O I M O:=by simpa using g1.widen w
 obtain⟨n1,n2⟩:=hn ρ ds e1;obtain⟨A,P,B,rfl,m1,m2,m3⟩:=(g1.slots w.zd s).put u;obtain⟨u',C,S⟩:=m1 c0 a;rw[v] at C;cases C;have o:(ρ.set i0 none)[i1]?=some (some c1):=by rw[List.getElem?_set,if_neg g];exact f
 obtain⟨J,D,K,eO,l1,l2,l3⟩:=m3.put (L9.mp o).1;obtain⟨u'',r,T⟩:=l1 c1 o;rw[x] at r;cases r;have cO:∀ c,A.count c+B.count c=J.count c+D.count c+K.count c:=λc=>by
  have:=congrArg (List.count c) eO;simp only[U7] at this;lia
 have y:∀ c,((P++D)++(J++K)).count c<=(A++P++B).count c:=λc=>by
  have:=cO c;simp only[U7];lia
 have wF:=N.wf.sub (VI y)<|Jz y N.wf.nd;have l:WF I M ([]++(P++D)++(J++K)):=by simpa using wF
 have rr:Reps R I M (ds.take j++c0::c1::ds.drop j) (v1++u0::u1::v2) (P++D):=by
  have:=q1.append<|Reps.cons S<|Reps.cons T q2;simpa using this
 refine⟨I,ds.take j++c0::c1::ds.drop j,d',t,i,P++D,u0,u1,l.mid,by simp;lia,by rw[M9];exact rr,by rw[M9,List.getElem?_append_right ∅,hl];simp,by rw[M9,List.getElem?_append_right ∅,hl,show j+1-j=1 by lia];rfl,e2,λ{v3 Z3 H3 P3 Q0 Q1} g3 r3 U V=>?_⟩;have E:=g3.frame l;have keep:=Go.keepA l g3;have W:=g3.zz;have X:=λb F=>g3.zH l.mid b F;have s5:=l2 V W X (λb F=>keep.2 b<|by simp[F])<|λb F=>keep.2 b (by simp[F]);rw[kh x] at s5;have Y:i0<((ρ.set i0 none).set i1 (some i)).length:=by rw[List.length_set,List.length_set];exact u
 obtain⟨A4,P4,B4,eO5,_,n2',_⟩:=s5.put Y;have s6:=n2' U (λ_ z=>z) (λ_ _=>rfl) (λ_ _=>rfl)<|λ_ _=>rfl;rw[kh v] at s6;have eρ:(((ρ.set i0 none).set i1 (some i)).set i0 (some t))=(ρ.set i0<|some t).set i1 (some i):=by
  rw[List.set_comm _ _<|λz=>g z.symm,List.set_set]
 rw[eρ] at s6;have G:∀ c,(P3++(A4++Q0++B4)).count c<=([]++(P3++(Q0++Q1))++(J++K)).count c:=λc=>by
  have q:=congrArg (List.count c) eO5;simp only[U7,List.count_nil] at q ⊢
  lia
 exact k (N.trans<|(E.drop (VI G)<|Jz G E.wf.nd).from (VI λc=>by simpa using y c)) r3 s6
structure QJ2(cl:Nat->Addr)(X:Cx)(i0 i1 j:Nat)(es:List Expr)(ta:TA)(p:PAf):Prop where
 sem:PA X es ta
 den:PJ2 ⟨X.K,cl⟩ i0 i1 j ta p
 n:∀ ρ ds,p ρ=some ds->ds.length+2=es.length/\j<=ds.length
def jeW(c:QB cl X (.Name x pos) (jU i0)<|pV i0)(d:QB cl X (.Name y pos') (jU i1)<|pV i1)(b:QPs cl X es tr pr)(e:∀ ρ ds,pr ρ=some ds->ds.length=es.length)(f:starEach (.Name x pos::.Name y pos'::es) X.env=(false,eval (.Name x pos) X.env)::starEach (.Name y pos'::es) X.env:=by rfl)(a:starEach (.Name y pos'::es) X.env=(false,eval (.Name y pos') X.env)::starEach es X.env:=by rfl):QJ2 cl X i0 i1 0 (.Name x pos::.Name y pos'::es) (jD (jU i0)<|jD (jU i1) tr) (pFs pr):=
 ⟨jC c.sem (jC d.sem b.sem a) f,jd1 b.den,λρ ds h=>by
  refine ob h λl g h=>?_;cases hf:frzs l with
  | false=>rw[hf] at h;cases h
  | true=>rw[hf] at h;cases h;exact⟨by rw[M1,M1,e ρ _ g],U4 _⟩⟩
def jeu(b:QB cl X e te pe)(a:QJ2 cl X i0 i1 j es tr pr)(c:SEq X e es:=by rfl):QJ2 cl X i0 i1 (j+1) (e::es) (jD te tr) (ja (pF pe) pr):=
 ⟨jC b.sem a.sem c,jen b.den a.den,λρ f h=>by
  refine ob h λd g h=>ob h λl e2 h=>?_;cases h;have:=a.n ρ l e2;simp only[M1]
  lia⟩
def jeo{st:Stmt}{K:W4}(d:X.K=K)(O:OkF X.prog X.w X.K X.mg x st k ps<|spA ⟨X.K,cl⟩ m n j)(f:Room k X.A)
  (a:QJ2 cl X i0 i1 j (e::es) tr pr) (g:(e::es).length=n:=by rfl) (i:Gl X x:=by rfl) (b:Nd x:=by decide)
  (l:SEq X e es:=by rfl) (c:BkE X pos es:=by rfl):QE cl X (.Call (.Name x p) (e::es) [] pos) (KH (spA ⟨K,cl⟩ m n j) [] E0 tr) (QN m i0 i1 j pr):=by
 subst d;obtain⟨_,_,F,G⟩:=O;exact⟨jgA F (G _) f a.sem i b l c,jem a.den λρ o h=>by rw[<- g];exact a.n ρ o h⟩
def jlf{cl}{P}{w}{K}{mg}{base}{x qual}{a}{fa}{fd}{N ps}{k n j}{fs}(F:Fun K x qual a fa fd)(c:FnScope N ps<|jt a)(e:ps.length=n)
  (b:∀ cdv A outer s H E,Room k (A.deeper<|envOfC qual (jt a) ↥s fa cdv) ->
   ∃ ts,QSs cl [j,j+1] (jeS CX0 P w K mg base N qual (jt a) fa cdv A outer s H E).nox (va a) ts fs):FnOk P w K mg base CX0 (k+1) fa fd ps (spA ⟨K,cl⟩ (fnA N.length j fs) n j):=by
 refine F.ok c (λvs H Q E h=>by obtain⟨Z,i,d,c0,c1,O,u0,l,w,f,r,_⟩:=h;rw[r.length,f,e]) λcdv A outer s H vs Q E g h=>?_;obtain⟨ts,q⟩:=b cdv A outer s H E g;exact⟨ts,q.sem,jhR q.den h⟩
def jpc{P:Program}{w:World}{K:W4}{mg:W6}{cl:Nat->Addr}{x:Str}{st:Stmt}{N:List Str}{n:Nat}{r:Nat->List D->Option D}(h:jdL K mg x st N n)(a:∀ ds,r 0 ds=none)
  (g:∀ j f fd,FnScope N (N.take n) (jt st)->FnFact K mg x x st f fd (N.take n)->OkF P w K mg x st (j+1) (N.take n) (spP ⟨K,cl⟩ (r j) n)->∀ base,FnOk P w K mg base CX0 (j+1+1) f fd (N.take n)<|spP ⟨K,cl⟩ (r<|j+1) n) (k:Nat):OkF P w K mg x st (k+1) (N.take n) (spP ⟨K,cl⟩ (r k) n):=by
 obtain⟨S,f,fd,F⟩:=h;refine⟨f,fd,F,?_⟩
 induction k with
 | zero=>exact λbase=>by rw[show r 0=λ_=>none from funext a];exact jik
 | succ j b=>exact g j f fd S F ⟨f,fd,F,b⟩
abbrev NA(P:Program)(w:World)(cl:Nat->Addr){K}{mg}{x}{st}{N}{n}(_:jdL K mg x st N n)(k:Nat)(j:Nat)(m:List D->Option (D×D×D)):Prop:=OkF P w K mg x st k (N.take n)<|spA ⟨K,cl⟩ m n j
end QD
namespace L2
open PySem PySem.Spec PyProof.Rows
def Inv.unfrzT(I:Inv X pins σ H s)(e:H a=some (.frz o<|.dT kvs))(j:∀ o u,X.H₀ a≠some (.frz o u)):Inv X pins σ (upd H a<|.dT kvs) s:=by
 have g:∀ b,H b=none->upd H a (.dT kvs) b=none:=λb q=>by rw[je<|λz=>by rw[z,e] at q;cases q];exact q
 refine⟨I.ok,I.os,I.bare,⟨I.base.keep,I.base.slot,λb o q n k=>g b<|I.base.free b o q n k,I.base.there,λb h q=>?_,λb o u q=>?_,λb l q=>?_⟩,I.loc,I.cell,g _ I.free,λx c q=>g c<|I.freeC x c q,λp t=>?_,λb u q=>?_,I.len⟩
 ·have d:=I.base.tups b h q;rw[je<|λz=>by rw[z,e] at d;cases d];exact d
 ·rw[je<|λz=>by subst z;exact j o u q];exact I.base.frzs b o u q
 ·obtain⟨m,d⟩:=I.base.tbls b l q;exact⟨m,by rw[je<|λz=>by rw[z,e] at d;cases d];exact d⟩
 ·obtain⟨d,n,r⟩:=I.pin p t;exact⟨d,g _ n,r⟩
 ·have i:∀{c}{v},ObjOk X.prog X.w H s.heap c v->ObjOk X.prog X.w (upd H a<|.dT kvs) s.heap c v:=λx=>x.stay (λ_ _ _ q=>q) (λc q=>by rw[je<|λz=>by rw[z,e] at q;cases q];exact q) λc h q=>by rw[je<|λz=>by rw[z,e] at q;cases q];exact q
  by_cases f:b=a
  ·subst f;rw[jk] at q;cases q;obtain⟨_,y⟩:=(I.hok b _ e);exact i y
  ·rw[je f] at q;exact i<|I.hok b u q
def jiP(i:Nat)(te:TE):TE:=λσ H Q=>∃ a kvs,σ[i]?=some (some<|.ref a)/\H a=some (.dT kvs)/\te σ H λv H1=>∃ o,H1 a=some (.frz o<|.dT kvs)/\Q v (upd H1 a<|.dT kvs)
def jgz(h:PE X e te):PE X e (jiP i te):=by
 intro b s σ H Q I ⟨a,c,_,d,q⟩;have f:∀ o u,X.H₀ a≠some (.frz o u):=λo u z=>by have:=I.base.frzs a o u z;rw[d] at this;cases this
 exact thn (h b s σ H _ I q) λv s1 ⟨x,l,g,r1,o,j,k⟩=>⟨x,_,g.unfrzT j f,r1,k⟩
end L2
namespace QD
open PySem L2 PySem.Spec PyProof.Rows
@[simp] def jfc(i:Nat)(q:KA->KA->Int->Option Bool)(el:KA->KA->Int->D)(ρ:Rh):Option (D×Rh):=(pV i ρ).bind λt=>(jfV t).bind λp=>bif lim p.1.length then(Vt q el p.1 p.2).bind λr=>some (.lst true r,ρ) else none
def jgY{R:RC}{tc:TT}{te:TE}{q el i}(W:SpT R tc q)(X:SpE R te el):DE R (jiP i<|KZ (jko<|jU i) (jbv R.K 2<|kZ (vy 0)<|kZ (vy 1) jdQ) tc te [none,none]) (jfc i q el):=by
 intro σ ρ ρ' Z H O d w s e Q k;refine ob e λx e5 e=>ob e λp Y e=>oc e λu e=>ob e λall e7 e=>?_;cases e;obtain⟨m,l⟩:=p;cases Kf Y;have L:=qV e5;obtain⟨A,P,B,rfl,k1,_,_⟩:=s.put (L9.mp L).1;obtain⟨v,M,r⟩:=k1 _ L;obtain⟨f,t,O',rfl,N,F,G,rfl⟩:=r;cases N.nil (JV e7).1;refine⟨f,_,M,G,.ref f,M,f,_,rfl,G,λo=>?_⟩;have S:=w.nz f (by simp);have C:∀ b,Z b->upd H f (.frz o<|.dT<|(m.map<|List.map kaV).zip t) b=H b:=λb c=>je λz=>S<|z▸c;have zd:Zd Z (upd H f<|.frz o<|.dT<|(m.map<|List.map kaV).zip t):=λb c=>by rw[C b c];exact w.zd b c
 refine zu (Q:=λv T=>∃ o,T f=some (.frz o<|.dT<|(m.map<|List.map kaV).zip t)/\Q v (upd T f<|.dT<|(m.map<|List.map kaV).zip t)) W X zd jk (N.frame (λ_ z=>z) C λb c=>(nomatch c)) F u e7 λ{a I E vs} g U ry=>?_;have J:upd H f (.frz o<|.dT<|(m.map<|List.map kaV).zip t) f≠none:=by rw[jk];exact λz=>nomatch z
 have fa:E f=some (.frz o<|.dT<|(m.map<|List.map kaV).zip t):=by rw[g.fr f J (λz=>nomatch z),jk]
 have jz:¬ I f:=λz=>by
  rcases g.zn f z with q | q | q
  ·exact S q
  ·cases q
  ·exact J q
 have D:∀ b,H b≠none->upd E f (.dT<|(m.map<|List.map kaV).zip t) b=H b:=λb c=>by
  by_cases j:b=f
  ·rw[j,jk,G]
  ·rw[je j,g.fr b (by rw[je j];exact c) (λz=>nomatch z),je j]
 have pn:a≠f/\H a=none:=by
  rcases g.sub a (by simp) with q | q
  ·cases q
  ·have:a≠f:=λz=>J<|z▸q;exact⟨this,by rw[je this] at q;exact q⟩
 have V:∀ b,I b->upd E f (.dT<|(m.map<|List.map kaV).zip t) b=E b:=λb c=>je λz=>jz<|z▸c;refine⟨o,fa,k (Z':=I) (P:=[a]) (O':=A++[f]++B) ⟨⟨?_,λb c=>?_,λb c=>?_,λb c=>?_⟩,g.zz,λb h n=>D b h,λb z=>?_,λb h=>?_,λb h=>by rw[D b h];exact h⟩ ⟨a,vs,[],rfl,ry.frame (λ_ z=>z) V λb c=>(nomatch c),by rw[je pn.1];exact U,rfl⟩<|s.frame g.zz (λb z=>D b<|w.zd b z) λb c=>D b<|w.od b c⟩
 ·exact U8.mpr ⟨by simp,w.nd,λx hx y hy e=>by
   rw[M7.mp hx] at e;subst e;exact w.od _ hy pn.2⟩
 ·intro z;rcases N1.mp c with c | c
  ·exact g.wf.nz b c z
  ·rcases g.zn b z with q | q | q
   ·exact w.nz b c q
   ·cases q
   ·by_cases j:b=f
    ·exact jz<|j▸z
    ·rw[je j] at q;exact w.od b c q
 ·rcases N1.mp c with c | c
  ·rw[M7.mp c,je pn.1,U];exact λz=>nomatch z
  ·rw[D b<|w.od b c];exact w.od b c
 ·rw[V b c];exact g.wf.zd b c
 ·rcases g.zn b z with q | q | q
  ·exact .inl q
  ·cases q
  ·by_cases j:b=f
   ·exact absurd z<|j▸jz
   ·rw[je j] at q;exact .inr<|.inr q
 ·rcases N1.mp h with h | h
  ·rw[M7.mp h];exact .inr pn.2
  ·exact .inl h
def jmC(B:BlockOk X scope N' [none,none])(h:X.calm=true)(k:QB cl X (.Name x p) (jU i)<|pV i)
  (l:∀ C s H fp,QG cl [] (jX X scope N' C s H fp) (.Tuple elts m tpos) (jbv X.K 2<|kZ (vy 0)<|kZ (vy 1) jdQ) g)
  (f:∀ C s H fp,QT cl (jX X scope N' C s H fp) c (Vo<|tOp (rI0 λi j=>.bl<|decide<|j<i) (jU 1)<|tC<|.int 0) q)
  (o:∀ C s H fp,QP cl (jX X scope N' C s H fp) elt (zw<|jD (tOp (rIx X.K) (jU 0)<|tC<|.int 0)<|jD (tOp (rIx X.K) (jU 0)<|tC<|.int 1)<|jD (jU 1) J2) pe)
  (d:attributeBase (.Name x p) "items" X.env (eval (.Name x p) X.env)=eval (.Name x p) X.env:=by rfl) (e:(apos.endLine==cpos.line)=true:=by rfl)
  (r:∀ z,foldedSetIterable (.Call (.Attribute (.Name x p) "items" apos) [] [] cpos) X.env z=pure z:=by intro _;rfl):
  QE cl X (.ListComp elt [⟨.Tuple elts m tpos,.Call (.Attribute (.Name x p) "items" apos) [] [] cpos,[c],0⟩] scope pos)
   (jiP i<|KZ (jko<|jU i) (jbv X.K 2<|kZ (vy 0)<|kZ (vy 1) jdQ) (Vo<|tOp (rI0 λi j=>.bl<|decide<|j<i) (jU 1)<|tC<|.int 0) (zw<|jD (tOp (rIx X.K) (jU 0)<|tC<|.int 0)<|jD (tOp (rIx X.K) (jU 0)<|tC<|.int 1)<|jD (jU 1) J2) [none,none]) (jfc i (λ_ _ n=>some<|decide<|0<n)<|λa b n=>.tup [kaD a,kaD b,.int n]):=
 ⟨jgz<|xl B h (jf0 k.sem d e) (λC s H fp=>(l C s H fp).sem) (λC s H fp=>.inr ⟨c,rfl,(f C s H fp).sem⟩) (λC s H fp=>(o C s H fp).sem) r,jgY (@ja5 _)<|@jb3 _⟩
noncomputable def jna(w:Str):Value->Bool
 | .str s _=>s==w
 | _=>false
def jbC(K:W4):V->List V->Hp->VK->Prop:=λx xs H Q=>∃(a:Addr) (ss:List Str) (w:Str),x=.ref a/\xs=[.str w]/\SqL K H a (ss.map V.str)/\w∈ss/\Q (.int (ss.idxOf w:Nat)) H
def jbc{h:Heap}{a:Addr}{its:Array Value}(p:PlainL h a its):∃ n dd sl,h.get? a=some {cls:=.type "list",dict:=dd,data:=.seq its n,slots:=sl}:=by
 obtain⟨⟨c,dd,g,sl⟩,n,e,b,d,f⟩:=p;dsimp only at b d f;subst b d f;exact⟨n,_,sl,e⟩
theorem ja9:∀{ss:List Str}{us:List Value},Vals (ss.map V.str) us->∃ ts:List Tok,ts.length=ss.length/\us=(ss.zip ts).map λp=>Value.str p.1 p.2
 | [],_,.nil=>⟨[],rfl,rfl⟩
 | s::ss,_,.cons r t=>by
  obtain⟨ts,h,e⟩:=ja9 t;obtain⟨q,rfl⟩:=r;exact⟨q::ts,by simp[h],by rw[e];rfl⟩
def jcM{X:Cx}:MtR X "list.index" (jbC X.K):=by
 intro g s σ H x B v C Q I j k q;obtain⟨a,b,w,rfl,rfl,sq,mem,q⟩:=q;obtain rfl:=j;cases k with
 | cons r1 r2=>
  cases r2;obtain⟨h,rfl⟩:=r1;obtain⟨l,o,pl,sz⟩:=I.list sq;obtain⟨ts,D,e⟩:=ja9 o;subst e;obtain⟨n,r,t,i⟩:=jbc pl;have E:b.idxOf w<b.length:=List.idxOf_lt_length_iff.mpr mem;have G:sizeLine=16777216:=by decide
  rw[L1] at sz;have c:∀{m:Nat}(f:m<((b.zip ts).map λp=>Value.str p.1 p.2).toArray.size),jna w (((b.zip ts).map λp=>Value.str p.1 p.2).toArray[m])=(b[m]'(by simp at f;lia)==w):=λ{m} f=>by simp[jna]
  refine call_meets PySem.F.slot_list_index ⟨_,i,rfl⟩ PySem.F.entry_list_index (PySem.F.args_list_index_2 _ _) (SeqAt.list_indexAt a ((b.zip ts).map λp=>Value.str p.1 p.2).toArray n r t (.str w h) (jna w) (b.idxOf w) (by simp;lia) ∅ ?_ ?_) ⟨i,λy u=>?_,?_⟩
  ·rw[c];simp
  ·intro m f d;rw[c f];have z:b.idxOf w=b.findIdx (·==w):=rfl;rw[z] at d;have:=List.not_of_lt_findIdx d;simpa using this
  ·obtain⟨p,_,rfl⟩:=M5.mp (show y∈(b.zip ts).map λp=>Value.str p.1 p.2 by simpa only[List.mem_toArray] using u);exact SeqAt.EqAt.str_str (A:=X.A.in1) (s:=s) p.1 p.2 w h
  ·exact⟨.int _,H,I.tok _,⟨_,rfl⟩,q⟩
def JS:D->List D->Option D
 | .lst _ l,[.str w]=>(Qp l).bind λws=>bif decide (w∈ws) then some (.int (ws.idxOf w:Nat)) else none
 | _,_=>none
@[simp] def V7(o l w):JS (.lst o l) [.str w]=(Qp l).bind λws=>bif decide (w∈ws) then some (.int (ws.idxOf w:Nat)) else none:=rfl
theorem jj8{w}:∀ ws:List (List Nat),(ws.map S).idxOf (S w)=ws.idxOf w
 | []=>rfl
 | x::ws=>by
  rw[L5,List.idxOf_cons,List.idxOf_cons,jj8 ws];by_cases h:x=w
  ·subst h;rw[beq_self_eq_true,beq_self_eq_true]
  ·have:¬ S x=S w:=λz=>h<|jbl z;rw[beq_false_of_ne h,beq_false_of_ne this]
def jdf{R:RC}:BM R "list" (jbC R.K) JS:=by
 intro Z H x d j v vs m n z r b e Q k;unfold JS at e;split at e
 ·rename_i o l w;refine ob e λws c e=>oc e λf e=>?_;cases e;obtain⟨u,rfl,r1⟩:=b.one_of;obtain⟨rfl,_⟩:=r1.str_of;obtain⟨a,g,p,rfl,i,h⟩:=r;have sq:SqL R.K H a g:=by
   cases o with
   | true=>exact SqL.of h.1
   | false=>exact h.1.sq
  rw[wR c i] at sq;exact⟨a,ws.map S,S w,rfl,rfl,sq,M5.mpr ⟨w,X2 f,rfl⟩,by rw[jj8];exact k (Go.id z) .int_mk⟩
 ·cases e
@[simp] def pLM(g:D->List D->Option D)(pa:PF)(pr:PAf)(ρ:Rh):Option D:=(pa ρ).bind λx=>(jgt x).bind λ_=>(pr ρ).bind λxs=>g x xs
def jog{r g}(c:BM R "list" r g)(f:PB R to pa)(i:PBs R ta pr):PP R (tBM R.K "list" r to ta) (pLM g pa pr):=by
 intro σ ρ Z H O d z s e Q k;exact ob e λx j e=>ob e λl m e=>ob e λq e2 e=>(f z s j λ{v t n u} g1 r1=>⟨by
  obtain⟨o,rfl⟩:=JO m;obtain⟨a,b,w,rfl,y,h⟩:=r1;have sq:SqL R.K n a b:=by
   cases o with
   | true=>exact SqL.of h.1
   | false=>exact h.1.sq
  exact .inl ⟨rfl,b,sq⟩,(i g1.wf.zd (g1.slots z s) e2 λ{vs A B C} g2 r2=>(c g2.wf.zd (g2.rep g1.wf.zd r1) r2 e λg3 p=>k ((g1.pair g2).pair g3) p))⟩)
def jo2{cl:Nat->Addr}{X:Cx}{o e es to po tr pr}{name:Str}{apos cpos:Pos}{id:String}{r g}(slot:Slot "list" name id)(f:typeOf (.builtin id)=pure (.type "method_descriptor"))(j:MtR X id r)(k:BM ⟨X.K,cl⟩ "list" r g)(h:QB cl X o to po)(i:QBs cl X (e::es) tr pr)
  (b:attributeBase o name X.env (eval o X.env)=eval o X.env:=by rfl)
  (d:((backTo cpos<|starEach (e::es) X.env).all (λx=>!x.1)&&(backToKw cpos<|keywordEach [] X.env).all (λx=>x.1.isSome)
   && decide ((e::es).length+([]:List Keyword).length+(if([]:List Keyword).isEmpty then 0 else 1)<30))=true:=by rfl)
  (c:(apos.endLine==cpos.line)=true:=by rfl) (l:SEq X e es:=by rfl) (a:BkE X cpos es:=by rfl):
  QP cl X (.Call (.Attribute o name apos) (e::es) [] cpos) (tBM X.K "list" r to tr) (pLM g po pr):=
 ⟨jfx PySem.F.plainAttrs_list slot f j h.sem i.sem b d c l a,jog k h.den i.den⟩
end QD
namespace K33
set_option hygiene false
local macro_rules|`(‹$x›)=>`(some<|.lst false $x)|`(↑$x)=>`(some<|.lst true $x)
local macro_rules|`(#[])=>`(pN)|`(#[$x])=>`(ja $x pN)|`(#[$x,$y,*])=>`(ja $x #[$y,*])
open PySem L2 QD
noncomputable def top(i:Nat):Stmt:=PySem.Challenge.pw_tranchefall_k33_loans_and_what_waits.main.body.getD i<|.Pass ⟨0,0,0,0⟩
def Y3:FS:=(yp<|dP<|pCB jcb #[yw (Yd<|pV 0) (jc [] 0) qT (pF<|p2 jd (pV 0)<|pI 1) [none]])
def kD:List D->Option D:=fnP 1 Y3
def ya:FS:=(sIf (dPT<|jn<|p2 vU (p2 jd (pV 2)<|pI 0)<|pV 1) (yp<|dP<|pF<|pV 2)
 jN)
def JA:FS:=(jh (qF (pIt<|pF<|p2 jd (pV 0)<|pI 4) (jc [] 2) ya)<|yp<|dP<|pC .non)
def vq:List D->Option D:=fnP 3 JA
def yT:FS:=(sIf (dPT<|jn<|p2 jol (p2 yq (pV 1)<|pV 2)<|pV 3) (yp<|dP<|pF<|pV 4)
 jN)
def kQ:FS:=(jh (qF (pIt<|pF<|p2 jd (pV 0)<|pI 5) (gT 3<|gC (jc [] 2)<|gC (jc [] 3)<|gC (jc [] 4) gN) yT)<|yp<|dP<|pF<|p2 jd (p2 jd (p2 jd (pV 0)<|pI 4)<|pI 0)<|pI 0)
def yW:List D->Option D:=fnP 5 kQ
def kU:FS:=(yp<|dP<|pCB wK #[yw (Yd<|pV 0) (gT 3<|gC (jc [] 0)<|gC (jc [] 1)<|gC (jc [] 2) gN) qT (yk #[pKy (pV 0)<|pV 1,pF<|pV 2]) [none,none,none]])
def j9:List D->Option D:=fnP 1 kU
def qU:FS:=(sIf (dPT<|jn<|p2 vU (pV 2)<|pS [108,101,110,100]) (jcN 0 (pV 1) (pV 3)<|p2 jg (xB (pV 0) (pV 1) (pV 3)<|pI 0)<|pV 4)<|jfy 0 (pV 3) (pV 1) (λm n=>m-n)<|pV 4)
def yz:List D->Option (D×D):=fnM 5 0 qU
def qD:FS:=(sIf (dPT<|jaS (jn<|p2 Vk (pV 4)<|pI 0)<|jn<|p2 jju (p2 jd (pV 3)<|pV 5)<|pV 6) (jh (Q8 3 (pV 5) (λi j=>i+j)<|pI 1)<|jfd [] 4 (λi j=>i-j)<|pI 1)
 jN)
def KY:FS:=(jh (jB (dP<|pCB jcb #[pV 0])<|jc [] 2)<|jh (sIf (dPT<|jn<|p2 jol (pV 1)<|pV 2) (yp<|dP<|pCB Vd #[pV 0])
 jN)<|jh (jB (dP<|yw (Yd<|pV 0) (jc [] 0) qT (p2 YY (p2 yi (pV 1)<|pV 0)<|pV 2) [none,some 1,some 2])<|jc [] 3)<|jh (jB (dP<|p2 J9 (pV 1)<|pCB jcb #[pV 3])<|jc [] 4)<|jh (qF (qG #[pF<|pV 0]) (gT 2<|gC (jc [] 5)<|gC (jc [] 6) gN) qD)<|yp<|dMv 3)
def qB:List D->Option D:=fnP 7 KY
def jP:FS:=(jh (jB (dP<|pF<|p2 jd (pV 1)<|pI 0)<|jc [] 2)<|jh (jB (dP<|pF<|p2 jd (pV 1)<|pI 1)<|jc [] 3)<|jh (sIf (dPT<|jn<|p2 vU (pV 2)<|pS [112,97,121]) (yp<|dP<|pF<|p2 yq (qX 0 "owed"<|pV 0)<|pV 3)
 jN)<|jh (sIf (dPT<|jn<|p2 vU (pV 2)<|pS [114,101,112,97,121]) (yp<|dP<|p2 jg (p2 yq (qX 0 "owed"<|pV 0)<|pV 3)<|p2 yq (qX 0 "sizes"<|pV 0)<|pV 3)
 jN)<|jh (sIf (dPT<|jn<|p2 vU (pV 2)<|pS [102,105,108,108]) (yp<|dP<|pCB ji3 #[p2 J9 (p2 yq (qX 0 "marks"<|pV 0)<|pV 3)<|p2 yq (qX 0 "levels"<|pV 0)<|pV 3,pI 0])
 jN)<|jh (sIf (dPT<|jn<|p2 vU (pV 2)<|pS [108,101,110,100]) (yp<|dP<|pCB ji3 #[p2 J9 (p2 jd (pV 1)<|pI 2)<|xB (qX 0 "loans"<|pV 0) (qX 0 "pool_name"<|pV 0) (pV 3)<|pI 0,pI 0])
 jN)<|jh (sIf (dPT<|jn<|p2 vU (pV 2)<|pS [98,97,99,107]) (yp<|dP<|pF<|xB (qX 0 "loans"<|pV 0) (pV 3) (qX 0 "pool_name"<|pV 0)<|pI 0)
 jN)<|yp<|dP<|pF<|qX 0 "cash"<|pV 0)
def ji:List D->Option D:=fnP 4 jP
def yO:FS:=(jh (jB (dP<|pF<|p2 yq (qX 0 "owed"<|pV 0)<|pV 3)<|jc [0] 4)<|jh (jB (dP<|pCB jae #[pV 4,p2 yq (qX 0 "levels"<|pV 0)<|pV 2])<|jc [0] 5)<|jh (vn 0 (ql 0 "levels" vV) (pV 2) (λm n=>m-n)<|pV 5)<|jh (vn 0 (ql 0 "owed" vV) (pV 3) (λm n=>m-n)<|pV 5)<|kP 0 (ql 0 "entries" vV)<|yk #[pF<|pV 1,pS [103,117,97,114,100],pF<|pV 3,pF<|pV 4,pF<|pV 5])
def ye:List D->Option (D×D):=fnM 6 0 yO
def jA:FS:=(jh (jB (dP<|jfJ (p2 Vk (p2 yq (pV 2)<|pV 4)<|pI 0)<|p2 (uV true) (pV 4)<|qX 0 "served"<|pV 0)<|jc [] 6)<|K2 3<|yk #[pF<|pV 4,pIf (jn<|pV 6) (p2 jg (pV 5)<|pI 1)<|pI 0])
def vM:FS:=(jh (jB (dP<|pCB vh #[p2 jd (pV 1)<|pI 0])<|jc [] 2)<|jh (jB (dP<|JK pN)<|jc [] 3)<|jh (qF (pIt<|pF<|p2 jd (pV 1)<|pI 2) (gT 2<|gC (jc [] 4)<|gC (jc [] 5) gN) jA)<|yp<|jdP<|yM (dP<|yt<|qX 0 "sizes"<|pV 0)<|yM (dP<|yt<|qX 0 "owed"<|pV 0)<|yM (dMv 3)<|yM (dP<|yt<|qX 0 "levels"<|pV 0)<|yM (dP<|pF<|p2 jd (pV 1)<|pI 4) jc2)
def jF:List D->Option D:=fnP 7 vM
def YZ:FS:=(jh (jB (dP<|pCB jae #[pV 4,p2 yq (pV 3)<|pV 7])<|jc [] 8)<|jh (K2 5<|yk #[pF<|pV 6,pS [101,97,116],pF<|pV 7,pF<|pV 4,pF<|pV 8])<|jh (jco 3 (pV 7) (λm n=>m-n)<|pV 8)<|jfd [] 4 (λi j=>i-j)<|pV 8)
def jbr:FS:=(jh (jB (dP<|pCB vh #[p2 jd (pV 1)<|pI 0])<|jc [] 3)<|jh (jB (dP<|pF<|pV 2)<|jc [] 4)<|jh (jB (dP<|JK pN)<|jc [] 5)<|jh (qF (qG #[pF<|p2 jd (pV 0)<|pI 3]) (gT 2<|gC (jc [] 6)<|gC (jc [] 7) gN) YZ)<|jh (jB (dP<|yw (Yd<|p2 jd (pV 1)<|pI 1) (gT 2<|gC (jc [] 0)<|gC (jc [] 1) gN) qT (yk #[pF<|pV 0,pIf (jn<|p2 Vk (p2 yq (pV 2)<|pV 0)<|pI 0) (pF<|pV 1)<|pI 0]) [none,none,some 3])<|jc [] 9)<|yp<|jdP<|yM (dMv 5)<|yM (jdP<|yM (dP<|yt<|pV 3)<|yM (dMv 9)<|yM (dP<|pCB Vd #[p2 jd (pV 1)<|pI 2])<|yM (dP<|pCB Vd #[p2 jd (pV 1)<|pI 3])<|yM (dP<|p2 jg (p2 jd (pV 1)<|pI 4)<|pV 4) jc2) jc2)
def Ka:List D->Option D:=fnP 10 jbr
def J3:FS:=(jh (jB (dP<|yw (Yd<|p2 jd (pV 0)<|pI 1) (jc [] 0) qT (yk #[pF<|p2 jd (pV 0)<|pI 0,pF<|p2 jd (pV 0)<|pI 1]) [none])<|jc [] 1)<|jh (jB (dP<|yw (Yd<|p2 jd (pV 0)<|pI 1) (jc [] 0) qT (yk #[pF<|p2 jd (pV 0)<|pI 0,pI 0]) [none])<|jc [] 2)<|jh (jB (dP<|yw (Yd<|p2 jd (pV 0)<|pI 1) (jc [] 0) qT (yk #[pF<|p2 jd (pV 0)<|pI 0,pI 0]) [none])<|jc [] 3)<|yp<|jdP<|yM (dMv 1)<|yM (dMv 2)<|yM (dMv 3)<|yM (dP<|yw (Yd<|p2 jd (pV 0)<|pI 2) (jc [] 0) qT (yk #[pF<|p2 jd (pV 0)<|pI 0,pI 0]) [none])<|yM (dP<|pI 0) jc2)
def yV:List D->Option D:=fnP 4 J3
def Y6:FS:=(jh (jB (dP<|pCB vh #[p2 jd (pV 1)<|pI 0])<|jc [] 2)<|jh (jB (dP<|pCB vh #[yw (Yd<|p2 jd (pV 0)<|pI 1) (jc [] 0) qT (yk #[pF<|p2 jd (pV 0)<|pI 0,pF<|p2 jd (pV 0)<|pI 2]) [none]])<|jc [] 3)<|jh (jB (dP<|yw (Yd<|p2 jd (pV 1)<|pI 1) (gT 2<|gC (jc [] 0)<|gC (jc [] 1) gN) qT (yk #[pF<|pV 0,pIf (jn<|p2 Vk (p2 yq (pV 2)<|pV 0)<|pI 0) (p2 jg (pV 1)<|p2 yq (pV 3)<|pV 0)<|pF<|pV 1]) [none,none,some 2,some 3])<|jc [] 4)<|sFz 4<|yp<|dP<|yk #[pF<|p2 jd (pV 1)<|pI 0,pF<|pV 4,pF<|p2 jd (pV 1)<|pI 2,pF<|p2 jd (pV 1)<|pI 3,pF<|p2 jd (pV 1)<|pI 4])
def kj:List D->Option D:=fnP 5 Y6
def JN:FS:=(jh (jB (dP<|pI 0)<|jc [] 3)<|jh (sIf (dPT<|jn<|p2 Vk (pCB qv #[pV 0])<|pI 0) (jB (dP<|pF<|p2 jd (pV 0)<|p2 JB (pV 1)<|pCB qv #[pV 0])<|jc [] 3)
 jN)<|jh (jB (dP<|p2 JB (p2 yi (p2 jg (p2 jg (p2 JB (pV 3)<|pI 2147483647)<|p2 yi (pI 7)<|pV 1)<|pI 3)<|p2 jg (pI 48271)<|p2 yi (p2 yi (pI 1103)<|pV 1)<|pV 1)<|pI 2147483629)<|jc [] 4)<|yp<|dP<|p2 JB (p2 YY (pV 4)<|pI 64)<|pV 2)
def jf:List D->Option D:=fnP 5 JN
def yc:FS:=(jh (sIf (dPT<|jn<|p2 vU (p2 jd (pV 6)<|pI 0)<|pS [115,104,97,114,101]) (jB (dP<|p2 jg (pV 2)<|pCB Vd #[p2 jd (pV 6)<|pI 1])<|jc [] 2)
 jN)<|sIf (dPT<|jn<|p2 vU (p2 jd (pV 6)<|pI 0)<|pS [114,101,112,97,121]) (K2 2<|pF<|p2 jd (pV 6)<|pI 1)
 jN)
def vG:FS:=(qF (pIt<|pF<|pV 5) (jc [] 6) yc)
def VL:FS:=(jh (jB (dP<|JK pN)<|jc [] 2)<|jh (qF (pIt<|pF<|pV 0) (gT 3<|gC (jc [] 3)<|gC (jc [] 4)<|gC (jc [] 5) gN) vG)<|yp<|dP<|yw (Yd<|pV 1) (jc [] 0) (jn<|p2 (xc true) (pV 0)<|pV 1) (pF<|pV 0) [none,some 2])
def qw:List D->Option D:=fnP 7 VL
def z7:FS:=(yp<|dP<|jfJ (jdM "int"<|pV 0)<|joe<|jdM "bool"<|pV 0)
def YI:List D->Option D:=fnP 1 z7
def qZ:FS:=(jh (jdv (dP<|pF<|pV 3)<|gT 7<|gC (jc [1,2] 5)<|gC (jc [1,2] 6)<|gC (jc [1,2] 7)<|gC (jc [1,2] 8)<|gC (jc [1,2] 9)<|gC (jc [1,2] 10)<|gC (jc [1,2] 11) gN)<|jh (jB (dP<|pLM JS (yw (Yd<|pV 0) (jc [] 0) qT (pF<|p2 jd (pV 0)<|pI 0) [none]) #[pV 9])<|jc [1,2] 12)<|jh (jB (dP<|p2 jg (p2 jd (pV 2)<|pV 12)<|pV 11)<|gIx [1,2] 2<|pV 12)<|jh (sIf (dPT<|jn<|p2 vU (pV 8)<|pS [108,101,110,100]) (jh (jB (dP<|pF<|xB (pV 1) (pV 5) (pV 9)<|pI 0)<|jc [1,2] 13)<|jh (jB (dP<|pF<|p2 jd (p2 jd (p2 yq (pV 4)<|pV 6)<|pV 7)<|pI 2)<|jc [1,2] 14)<|jh (jcN 1 (pV 5) (pV 9)<|p2 jg (pV 13)<|pV 11)<|yp<|dP<|jfJ (p2 vU (pV 10)<|pCB ji3 #[pI 0,p2 J9 (pV 14)<|pV 13])<|pOr (p2 vU (pV 11)<|pI 0)<|p2 jns (p2 jg (pV 13)<|pV 11)<|pV 14)
 jN)<|jh (jB (dP<|pF<|xB (pV 1) (pV 9) (pV 5)<|pI 0)<|jc [1,2] 13)<|jh (jcN 1 (pV 9) (pV 5)<|p2 J9 (pV 13)<|pV 11)<|yp<|dP<|jfJ (p2 vU (pV 10)<|pV 13)<|p2 jns (pV 11)<|pV 13)
def vz:List D->Option (D×D×D):=fnA 15 1 qZ
def vp:FS:=(jiK 1 (pV 2)<|pFz<|p2 jg (p2 Qf (JK #[yk pN])<|pCB qv #[pV 3])<|pV 4)
def YM:FS:=(jh (jB (dP<|pC<|.dK true [] [])<|jc [] 1)<|jh (qF (pIt<|pF<|p2 jd (pV 0)<|pI 4) (gT 3<|gC (jc [] 2)<|gC (jc [] 3)<|gC (jc [] 4) gN) vp)<|yp<|dMv 1)
def ku:List D->Option D:=fnP 5 YM
def zZ:FS:=(jh (jB (dP<|jl kD #[pV 0])<|jc [] 2)<|jh (sIf (dPT<|jn<|p2 Vk (pV 2)<|pI 10) (jh (jB (dP<|yw (Yd<|pV 0) (jc [] 0) qT (p2 YY (p2 jg (p2 yi (pV 1)<|p2 jd (pV 0)<|pI 1)<|pI 9)<|pI 10) [none,some 1])<|jc [] 3)<|yp<|jbA 3 #[p2 J9 (pCB jcb #[pV 3])<|pV 1])
 jN)<|jh (jB (dP<|yw (Yd<|pV 0) (jc [] 0) qT (p2 YY (p2 yi (pV 1)<|p2 jd (pV 0)<|pI 1)<|pI 10) [none,some 1])<|jc [] 3)<|jh (jB (dP<|p2 J9 (p2 YY (p2 yi (pV 1)<|pV 2)<|pI 10)<|pCB jcb #[pV 3])<|jc [] 4)<|sFz 3<|yp<|dP<|yk #[yw (qG #[pF<|pV 3]) (gT 2<|gC (jc [] 0)<|gC (jc [] 1) gN) qT (pIf (jn<|p2 jju (pV 0)<|pV 2) (p2 jg (pV 1)<|pI 1)<|pF<|pV 1) [none,none,some 4],pI 0])
def Vg:List D->Option D:=fnP 5 zZ
def vj:FS:=(KM<|Jb yz 3 vV #[pF<|pV 1,pF<|pV 4,pF<|pV 5,pF<|pV 6])
def qL:FS:=(jh (jB (dP<|jl j9 #[pV 0])<|jc [] 3)<|jh (qF (pIt<|pF<|pV 2) (gT 3<|gC (jc [] 4)<|gC (jc [] 5)<|gC (jc [] 6) gN) vj)<|yp<|dCB qQ<|yM (jo5 3) jc2)
def yP:List D->Option D:=fnP 7 qL
def qf:FS:=(jh (Jl 0 0 "pool_name"<|pF<|p2 jd (pV 1)<|pI 0)<|jh (Jl 0 0 "marks"<|pCB vh #[p2 jd (pV 1)<|pI 2])<|jh (Jl 0 0 "sizes"<|pCB vh #[p2 jd (pV 2)<|pI 0])<|jh (Jl 0 0 "owed"<|pCB vh #[p2 jd (pV 2)<|pI 1])<|jh (Jl 0 0 "levels"<|pCB vh #[p2 jd (pV 2)<|pI 3])<|jh (Jl 0 0 "loans"<|jl j9 #[pV 4])<|jh (Jl 0 0 "cash"<|pF<|pV 3)<|jh (Jl 0 0 "served"<|pC<|.dK true [] [])<|jh (Jl 0 0 "entries"<|JK pN)<|Jl 0 0 "moves"<|JK pN)
def yF:List D->Option (D×D):=fnM 5 0 qf
def yx:FS:=(sIf (dPT<|jn<|p2 vU (pV 1)<|pS [112,97,121]) (vn 0 (ql 0 "owed" vV) (pV 2) (λm n=>m-n)<|pV 3)<|sIf (dPT<|jn<|p2 vU (pV 1)<|pS [114,101,112,97,121]) (jh (jB (dP<|pCB jae #[pV 3,p2 yq (qX 0 "owed"<|pV 0)<|pV 2])<|jc [0] 4)<|jh (vn 0 (ql 0 "owed" vV) (pV 2) (λm n=>m-n)<|pV 4)<|vn 0 (ql 0 "sizes" vV) (pV 2) (λm n=>m-n)<|p2 J9 (pV 3)<|pV 4)<|sIf (dPT<|jn<|p2 vU (pV 1)<|pS [102,105,108,108]) (vn 0 (ql 0 "levels" vV) (pV 2) (λm n=>m+n)<|pV 3)<|sIf (dPT<|jaS (jn<|p2 (xc false) (pV 1)<|yk #[pS [108,101,110,100],pS [98,97,99,107]])<|jn<|p2 Vk (pV 3)<|pI 0) (jh (KM<|Jb yz 0 (ql 0 "loans" vV) #[pF<|qX 0 "pool_name"<|pV 0,pF<|pV 1,pF<|pV 2,pF<|pV 3])<|kP 0 (ql 0 "moves" vV)<|yk #[pF<|pV 1,pF<|pV 2,pF<|pV 3])
 jN)
def jr:List D->Option (D×D):=fnM 5 0 yx
def yr:FS:=(jh (J5 0 vV 0 "cash" (λm n=>m-n)<|pV 8)<|jh (vn 0 (ql 0 "owed" vV) (pV 6) (λm n=>m-n)<|pV 8)<|jh (kP 0 (ql 0 "entries" vV)<|yk #[pF<|pV 1,pS [115,104,97,114,101],pF<|pV 6,pF<|pV 7,pF<|pV 8])<|sIf (dPT<|jn<|pV 5) (Yw 0 (ql 0 "served" vV) (pV 6)<|pC<|.bl true)
 jN)
def yN:FS:=(jh (jB (dP<|yw (Yd<|pV 2) (jc [] 0) qT (pF<|p2 yq (qX 0 "owed"<|pV 1)<|pV 0) [none,some 0])<|jc [0] 3)<|jh (jB (dP<|jl qB #[pV 3,qX 0 "cash"<|pV 0])<|jc [0] 4)<|jh (jB (dP<|jfJ (p2 Vk (pCB jcb #[pV 3])<|pI 0)<|p2 vU (pV 4)<|pV 3)<|jc [0] 5)<|sFz 3<|sFz 4<|qF (pZN 3 #[pF<|pV 2,pF<|pV 3,pF<|pV 4]) (gT 3<|gC (jc [0] 6)<|gC (jc [0] 7)<|gC (jc [0] 8) gN) yr)
def jI:List D->Option (D×D):=fnM 9 0 yN
def jbL:FS:=(yp<|dP<|yk #[yw (Yd<|pV 0) (jc [] 0) qT (jl yV #[pV 0]) [none],JK pN,yw (Yd<|pV 0) (jc [] 0) qT (pI 0) [none]])
def V0:List D->Option D:=fnP 1 jbL
def YK:FS:=(yp<|dP<|jl yW #[pV 0,pCB vh #[p2 jd (pV 1)<|pI 2]])
def vB:List D->Option D:=fnP 2 YK
def vx:FS:=(jh (jB (dP<|pI 0)<|jc [] 2)<|jh (sIf (dPT<|jn<|p2 Vk (pCB qv #[pV 0])<|pI 0) (jB (dP<|pF<|p2 jd (pV 0)<|p2 JB (pV 1)<|pCB qv #[pV 0])<|jc [] 2)
 jN)<|jh (sIf (dPT<|jn<|p2 Vk (jl jf #[pV 0,pI 900,pI 3])<|pI 0) (yp<|dP<|p2 jg (pI 1)<|jl jf #[pV 0,pV 1,pI 9])
 jN)<|yp<|dP<|p2 jg (pI 1)<|p2 JB (p2 yi (p2 jg (p2 jg (p2 JB (pV 2)<|p2 Vl (pI 10)<|pI 40)<|p2 yi (pV 1)<|pV 1)<|pI 1)<|p2 Vl (pI 48271)<|pI 5)<|p2 Vl (pI 10)<|pI 12)
def jy:List D->Option D:=fnP 3 vx
def YW:FS:=(jh (jB (dP<|pS [98,99,100,102,103,106,107,109,110,112,113,118,119,120,121,122])<|jc [] 1)<|jh (jB (dP<|p2 yi (pS [122,113])<|jl jf #[pV 0,pI 901,pI 2])<|jc [] 2)<|jh (jB (dP<|pSl (pS [118,122,98]) oN<|oS<|jl jf #[pV 0,pI 902,pI 4])<|jc [] 3)<|jh (jB (dP<|jl jf #[pV 0,pI 903,pI 16])<|jc [] 4)<|yp<|dP<|yw (Kz #[pI 16]) (jc [] 0) qT (p2 jg (p2 jg (pV 1)<|p2 jd (pV 2)<|p2 JB (p2 jg (pV 3)<|pV 0)<|pI 16)<|pV 4) [none,some 2,some 1,some 4,some 3])
def kE:List D->Option D:=fnP 5 YW
def vK:FS:=(sIf (dPT<|jn<|p2 Vk (jl jf #[pV 0,p2 jg (pV 1)<|pV 4,pI 3])<|pI 0) (K2 3<|pF<|pV 5)
 jN)
def JR:FS:=(jh (jB (dP<|JK pN)<|jc [] 3)<|jh (qF (qG #[pF<|pV 2]) (gT 2<|gC (jc [] 4)<|gC (jc [] 5) gN) vK)<|jh (sIf (dPT<|jn<|p2 vU (jl jf #[pV 0,p2 jg (pV 1)<|pI 9,pI 2])<|pI 1) (jnv 3)
 jN)<|yp<|dMv 3)
def v5:List D->Option D:=fnP 6 JR
def jj:FS:=(sIf (dPT<|jaS (jn<|p2 vU (p2 jd (pV 6)<|pI 0)<|p2 jd (pV 1)<|pI 0)<|jn<|p2 (xc true) (p2 jd (pV 6)<|pI 3)<|JK #[pS [101,97,116],pS [103,117,97,114,100],pS [116,119,105,99,101]]) (jh (jB (dP<|p2 jg (pV 5)<|p2 jd (pV 6)<|pI 6)<|jc [3,4] 5)<|jh (sIf (dPT<|jn<|p2 (xc true) (p2 jd (pV 6)<|pI 3)<|JK #[pS [108,101,110,100],pS [98,97,99,107]]) jhe
 jN)<|sIf (jmZ<|Vn<|QN vz 3 4 1<|ja (pF<|pV 0)<|pFs #[pF<|pV 6,pF<|pFz<|jl ku #[pV 1]]) (yp<|dP<|p1 Ql<|pI 1)
 jN)
 jN)
def J8:FS:=(jh (jB (dP<|pI 0)<|jc [3,4] 5)<|jh (qF (pIt<|pF<|pV 2) (jc [3,4] 6) jj)<|yp<|dP<|pF<|pV 5)
def vP:List D->Option (D×D×D):=fnA 7 3 J8
def vw:FS:=(jh (jB (dP<|pF<|p2 jd (p2 jd (pV 3)<|pI 0)<|pV 4)<|jc [0] 6)<|jh (jB (dP<|pCB jae #[pV 6,qX 0 "cash"<|pV 0])<|jc [0] 7)<|jh (J5 0 vV 0 "cash" (λm n=>m-n)<|pV 7)<|kP 0 (ql 0 "entries" vV)<|yk #[pF<|pV 4,pS [112,97,114,116],pF<|p2 jd (pV 5)<|pI 0,pF<|pV 6,pF<|pV 7])
def yK:FS:=(jh (jB (dP<|pF<|qX 0 "cash"<|pV 0)<|jc [0] 2)<|jh (jB (dP<|jl Vg #[pV 1,pV 2])<|jc [0] 3)<|jh (qF (qG #[pF<|pV 1]) (gT 2<|gC (jc [0] 4)<|gC (jc [0] 5) gN) vw)<|sIf (dPT<|jn<|p2 Vk (p2 jd (pV 3)<|pI 1)<|pI 0) (kP 0 (ql 0 "entries" vV)<|yk #[p1 Ql<|pI 1,pS [116,119,105,99,101],pS [],pCB jcb #[p2 jd (pV 3)<|pI 0],pF<|pV 2])
 jN)
def jJ:List D->Option (D×D):=fnM 8 0 yK
def jY:FS:=(jh (jB (dP<|pF<|p2 jd (pV 2)<|pI 0)<|jc [0] 3)<|jh (jB (dP<|pF<|p2 jd (pV 2)<|pI 1)<|jc [0] 4)<|jh (jB (dP<|J1 ji 0 "need_of" (pV 0) #[pV 2])<|jc [0] 5)<|jh (jB (dP<|pCB jae #[pV 5,qX 0 "cash"<|pV 0])<|jc [0] 6)<|jh (J5 0 vV 0 "cash" (λm n=>m-n)<|pV 6)<|jh (kP 0 (ql 0 "entries" vV)<|yk #[pF<|pV 1,pF<|pV 3,pF<|pV 4,pF<|pV 5,pF<|pV 6])<|jh (KM<|yI jr 0 0 "give" #[pF<|pV 3,pF<|pV 4,pF<|pV 6])<|sIf (dPT<|jaS (jn<|p2 (xc false) (pV 3)<|yk #[pS [112,97,121],pS [114,101,112,97,121]])<|jaS (jn<|p2 vU (pV 6)<|pV 5)<|jn<|p2 Vk (pV 5)<|pI 0) (Yw 0 (ql 0 "served" vV) (pV 4)<|pC<|.bl true)
 jN)
def jo:List D->Option (D×D):=fnM 7 0 jY
def JL:FS:=(jh (jB (dP<|jl jf #[pV 0,pV 1,pI 9])<|jc [] 5)<|jh (jB (dP<|pF<|p2 jd (pV 2)<|jl jf #[pV 0,p2 jg (pV 1)<|pI 1,pCB qv #[pV 2]])<|jc [] 6)<|jh (sIf (dPT<|jn<|p2 jju (pV 5)<|pI 3) (yp<|dP<|yk #[pS [112,97,121],pF<|pV 6])
 jN)<|jh (sIf (dPT<|jaS (jn<|p2 vU (pV 5)<|pI 3)<|jaS (jn<|p2 Vk (pCB qv #[pV 2])<|pI 1)<|jn<|p2 vU (jl jf #[pV 0,p2 jg (pV 1)<|pI 2,pI 2])<|pI 0) (yp<|dP<|yk #[pS [115,104,97,114,101],pCB Q6 #[pSl (pV 2) oN<|oS<|pI 2]])
 jN)<|jh (sIf (dPT<|jaS (jn<|p2 vU (pV 5)<|pI 3)<|jn<|p2 Vk (pCB qv #[pV 2])<|pI 1) (yp<|dP<|yk #[pS [115,104,97,114,101],pCB Q6 #[p2 jg (pSl (pV 2) (oS<|p1 Ql<|pI 1) oN)<|pSl (pV 2) oN<|oS<|p1 Ql<|pI 1]])
 jN)<|jh (sIf (dPT<|jn<|p2 vU (pV 5)<|pI 4) (yp<|dP<|yk #[pS [114,101,112,97,121],pF<|pV 6])
 jN)<|jh (sIf (dPT<|jaS (jn<|p2 vU (pV 5)<|pI 5)<|jn<|p2 Vk (pCB qv #[pV 3])<|pI 0) (yp<|dP<|yk #[pS [102,105,108,108],pF<|p2 jd (pV 3)<|jl jf #[pV 0,p2 jg (pV 1)<|pI 2,pCB qv #[pV 3]]])
 jN)<|jh (sIf (dPT<|jaS (jn<|p2 Vk (pV 5)<|pI 5)<|jn<|p2 Vk (pCB qv #[pV 4])<|pI 0) (jh (jB (dP<|pF<|p2 jd (pV 4)<|jl jf #[pV 0,p2 jg (pV 1)<|pI 2,pCB qv #[pV 4]])<|jc [] 7)<|jh (sIf (dPT<|jn<|p2 vU (pV 5)<|pI 8) (yp<|dP<|yk #[pS [98,97,99,107],pF<|pV 7])
 jN)<|yp<|dP<|yk #[pS [108,101,110,100],pF<|pV 7,jl jy #[pV 0,p2 jg (pV 1)<|pI 3]])
 jN)<|yp<|dP<|yk #[pS [112,97,121],pF<|pV 6])
def JW:List D->Option D:=fnP 8 JL
def v8:FS:=(jh (jB (dP<|jl jf #[pV 0,pV 1,pI 6])<|jc [] 2)<|jh (sIf (dPT<|jn<|p2 vU (pV 2)<|pI 0) (yp<|dP<|pI 0)
 jN)<|jh (sIf (dPT<|jn<|p2 jju (pV 2)<|pI 4) (yp<|dP<|jl jf #[pV 0,p2 jg (pV 1)<|pI 1,pI 45])
 jN)<|jh (sIf (dPT<|jn<|p2 vU (pV 2)<|pI 4) (yp<|dP<|p2 yi (jl jy #[pV 0,p2 jg (pV 1)<|pI 2])<|jl jf #[pV 0,p2 jg (pV 1)<|pI 1,pI 30])
 jN)<|yp<|dP<|p2 JB (p2 jd (p2 jg (pV 0)<|JK #[pI 0])<|p2 JB (pV 1)<|p2 jg (pCB qv #[pV 0])<|pI 1)<|p2 Vl (pI 10)<|pI 30)
def yf:List D->Option D:=fnP 3 v8
def qp:FS:=(sIf (dPT<|jn<|p2 vU (p2 jd (pV 8)<|pI 0)<|pS [115,104,97,114,101]) (KM<|yI jI 6 0 "take_share" #[pF<|pV 7,pF<|p2 jd (pV 8)<|pI 1])<|KM<|yI jo 6 0 "take_rule" #[pF<|pV 7,pF<|pV 8])
def Kj:FS:=(KM<|yI ye 6 0 "take_guard" #[pF<|pV 7,pF<|p2 jd (pV 9)<|pI 0,pF<|p2 jd (pV 9)<|pI 1])
def jfX:FS:=(jh (jB (dP<|jl vq #[pV 0,pV 1])<|jc [] 5)<|jh (jB (dP<|uY yF 0 #[pF<|pV 0,pF<|pV 2,pF<|pV 3,pF<|pV 4])<|jc [] 6)<|jh (KM<|yI jJ 6 0 "take_parts" #[pF<|p2 jd (pV 5)<|pI 1])<|jh (qF (jmq #[pF<|p2 jd (pV 5)<|pI 2] (pCB qv #[p2 jd (pV 5)<|pI 1])) (gT 2<|gC (jc [] 7)<|gC (jc [] 8) gN) qp)<|jh (qF (qG #[pF<|p2 jd (pV 0)<|pI 6]) (gT 2<|gC (jc [] 7)<|gC (jc [] 9) gN) Kj)<|yp<|jjy 6 0 "entries" "moves"<|J1 jF 0 "book_behind" (pV 6) #[pV 2])
def wA:List D->Option D:=fnP 10 jfX
def vt:FS:=(sIf (dPT<|jn<|p2 vU (jl jf #[pV 0,p2 jg (pV 1)<|pV 7,pI 4])<|pI 0) (K2 6<|yk #[pF<|pV 8,p2 jg (pI 1)<|jl jf #[pV 0,p2 jg (p2 jg (pV 1)<|pI 5)<|pV 7,pI 10]])
 jN)
def ko:FS:=(K2 9<|jl JW #[pV 0,p2 jg (p2 jg (pV 1)<|pI 10)<|p2 yi (pI 5)<|pV 7,pV 3,pV 4,pV 5])
def Y7:FS:=(jh (jB (dP<|JK pN)<|jc [] 6)<|jh (qF (qG #[pF<|pV 3]) (gT 2<|gC (jc [] 7)<|gC (jc [] 8) gN) vt)<|jh (jB (dP<|JK pN)<|jc [] 9)<|jh (qF (Kz #[jl jf #[pV 0,p2 jg (pV 1)<|pI 8,pI 6]]) (jc [] 7) ko)<|jh (jB (dP<|pF<|p2 jd (pV 3)<|jl jf #[pV 0,p2 jg (pV 1)<|pI 9,pCB qv #[pV 3]])<|jc [] 10)<|sFz 6<|yp<|dP<|yk #[pF<|pV 2,pF<|pV 6,p2 jg (pV 9)<|JK #[yk #[pS [114,101,115,116],pF<|pV 10]]])
def kz:List D->Option D:=fnP 11 Y7
def yZ:FS:=(jh (jB (dP<|jl yf #[pV 0,p2 jg (p2 jg (pI 2000)<|p2 yi (pI 37)<|pV 3)<|p2 yi (pI 7)<|pV 6])<|jc [] 7)<|K2 5<|p2 yi (pV 7)<|pCB xa #[p2 vU (jl jf #[pV 0,p2 jg (p2 jg (pI 3000)<|p2 yi (pI 5)<|pV 3)<|pV 6,pI 4])<|pI 0])
def vQ:FS:=(jh (jB (dP<|yw (Kz #[pV 1]) (jc [] 0) qT (jl yf #[pV 1,p2 jg (p2 jg (pI 1000)<|p2 yi (pI 37)<|pV 2)<|p2 yi (pI 7)<|pV 0]) [none,some 0,some 3])<|jc [] 4)<|jh (jB (dP<|JK pN)<|jc [] 5)<|jh (qF (Kz #[pV 1]) (jc [] 6) yZ)<|sFz 4<|sFz 5<|K2 2<|yk #[pF<|pV 4,pF<|pV 5])
def VJ:FS:=(jh (jB (dP<|JK pN)<|jc [] 2)<|jh (qF (Kz #[pCB jae #[pCB qv #[pV 0],pI 20]]) (jc [] 3) vQ)<|yp<|dMv 2)
def vX:List D->Option D:=fnP 8 VJ
def Vy:FS:=(jh (jB (dP<|jl Ka #[pV 0,pV 1,pV 4])<|jc [] 5)<|jh (jB (dP<|jl vB #[pV 0,pV 1])<|jc [] 6)<|jh (sFz 5<|jB (dP<|jl wA #[pV 0,pV 6,jl kj #[pV 0,p2 jd (pV 5)<|pI 1],pV 3,pV 2])<|jc [] 7)<|jh (jB (dP<|yw (Yd<|p2 jd (pV 5)<|pI 0) (jc [] 0) qT (p2 jg (yk #[pF<|p2 jd (pV 1)<|pI 0,pS []])<|pV 0) [none,some 0])<|jc [] 8)<|jh (jjw 8<|yw (Yd<|p2 jd (pV 7)<|pI 0) (jc [] 0) qT (p2 jg (yk #[pF<|p2 jd (pV 1)<|pI 0,pF<|pV 2])<|pV 0) [none,some 0,some 6])<|sFz 7<|sFz 8<|yp<|dP<|yk #[pF<|p2 jd (pV 7)<|pI 1,jl yP #[pV 2,p2 jd (pV 0)<|pI 0,p2 jd (pV 7)<|pI 2],pF<|p2 jd (pV 7)<|pI 2,pF<|pV 8])
def vY:List D->Option D:=fnP 9 Vy
def vJ:FS:=(K2 6<|yk #[pF<|pV 8,jl jy #[pV 0,p2 jg (p2 jg (pV 1)<|pI 20)<|pV 7],jl jy #[pV 0,p2 jg (p2 jg (pV 1)<|pI 24)<|pV 7]])
def vI:FS:=(K2 10<|jl kz #[pV 0,p2 jg (p2 jg (pV 1)<|p2 yi (pI 60)<|pV 7)<|pI 30,pV 11,pV 3,pV 4,pV 5])
def vH:FS:=(jh (jB (dP<|pF<|p2 jd (pV 3)<|jl jf #[pV 0,p2 jg (p2 jg (pV 1)<|pI 3)<|pV 7,pCB qv #[pV 3]])<|jc [] 8)<|jh (jB (dP<|pF<|p2 jd (pV 9)<|jl jf #[pV 0,p2 jg (p2 jg (pV 1)<|pI 5)<|pV 7,pCB qv #[pV 9]])<|jc [] 13)<|K2 12<|yk #[pF<|pV 8,p2 jg (pI 1)<|jl jf #[pV 0,p2 jg (p2 jg (pV 1)<|pI 7)<|pV 7,pI 3],pF<|pV 13])
def yX:FS:=(sIf (dPT<|jn<|p2 Vk (pCB qv #[pV 4])<|pI 0) (K2 15<|yk #[pF<|p2 jd (pV 4)<|jl jf #[pV 0,p2 jg (p2 jg (pV 1)<|pI 11)<|pV 7,pCB qv #[pV 4]],pF<|pV 8])
 jN)
def VG:FS:=(jh (jB (dP<|JK pN)<|jc [] 6)<|jh (qF (qG #[pF<|pV 3]) (gT 2<|gC (jc [] 7)<|gC (jc [] 8) gN) vJ)<|jh (jB (dP<|pSl (JK #[pS [98,98],pS [99,107],pS [100,100]]) oN<|oS<|p2 jg (pI 1)<|jl jf #[pV 0,p2 jg (pV 1)<|pI 1,pI 3])<|jc [] 9)<|jh (jB (dP<|JK pN)<|jc [] 10)<|jh (sFz 9<|qF (qG #[pF<|pV 9]) (gT 2<|gC (jc [] 7)<|gC (jc [] 11) gN) vI)<|jh (jB (dP<|JK pN)<|jc [] 12)<|jh (qF (Kz #[jl jf #[pV 0,p2 jg (pV 1)<|pI 2,pI 3]]) (jc [] 7) vH)<|jh (jB (dP<|jl qw #[pV 10,pV 3])<|jc [] 14)<|jh (jB (dP<|JK pN)<|jc [] 15)<|jh (qF (qG #[pSl (pV 14) oN<|oS<|jl jf #[pV 0,p2 jg (pV 1)<|pI 10,pI 4]]) (gT 2<|gC (jc [] 7)<|gC (jc [] 8) gN) yX)<|jh (jB (dP<|yw (qG #[pF<|pV 4]) (gT 2<|gC (jc [] 0)<|gC (jc [] 1) gN) qT (yk #[pF<|pV 1,jl jy #[pV 2,p2 jg (p2 jg (pV 3)<|pI 16)<|pV 0]]) [none,none,some 0,some 1])<|jc [] 16)<|sFz 6<|sFz 16<|sFz 10<|sFz 12<|sFz 15<|yp<|dP<|yk #[pF<|pV 2,pF<|pV 6,pF<|pV 16,jl v5 #[pV 0,p2 jg (pV 1)<|pI 13,pV 3],pF<|pV 10,pF<|pV 12,pF<|pV 15])
def qm:List D->Option D:=fnP 17 VG
def vN:FS:=(Q8 6 (p2 yq (pV 8)<|pV 14) (λi j=>i+j)<|pV 15)
def kR:FS:=(jh (jB (dP<|p2 jg (p2 jd (pV 2)<|pV 9)<|p2 jd (pV 6)<|pV 9)<|jc [] 11)<|jh (jB (dP<|pI 0)<|gIx [] 6<|pV 9)<|jh (sFz 5<|jB (dP<|jl vY #[pV 10,p2 jd (p2 jd (pV 1)<|pI 0)<|pV 9,pV 5,pV 11,p2 jd (pV 3)<|pV 9])<|jc [] 12)<|jh (sFz 12<|K2 4<|pF<|p2 jd (pV 12)<|pI 0)<|jh (jB (dP<|pF<|p2 jd (pV 12)<|pI 1)<|jc [] 5)<|jh (qF (pIt<|pF<|p2 jd (pV 12)<|pI 2) (gT 3<|gC (jc [] 13)<|gC (jc [] 14)<|gC (jc [] 15) gN) vN)<|jjw 7<|p2 jd (pV 12)<|pI 3)
def VF:FS:=(jh (jB (dP<|JK pN)<|jc [] 4)<|jh (jB (dP<|pCB Vd #[p2 jd (pV 1)<|pI 1])<|jc [] 5)<|jh (jB (dP<|pCB Vd #[p2 jd (pV 1)<|pI 2])<|jc [] 6)<|jh (jB (dP<|JK pN)<|jc [] 7)<|jh (jB (dP<|pCB vh #[yw (qG #[pF<|pV 0]) (gT 2<|gC (jc [] 0)<|gC (jc [] 1) gN) qT (yk #[pF<|p2 jd (pV 1)<|pI 0,pF<|pV 0]) [none,none]])<|jc [] 8)<|jh (qF (qG #[pF<|pV 0]) (gT 2<|gC (jc [] 9)<|gC (jc [] 10) gN) kR)<|yp<|jdP<|yM (jdP<|yM (dMv 4)<|yM (dMv 5)<|yM (dMv 6) jc2)<|yM (dMv 7) jc2)
def qo:List D->Option D:=fnP 16 VF
def vO:FS:=(jh (jB (dP<|pSl (pV 2) (oS<|p2 jg (pI 3)<|p2 yi (pI 4)<|pV 5)<|oS<|p2 jg (pI 7)<|p2 yi (pI 4)<|pV 5)<|jc [] 6)<|jh (jB (dP<|pSl (pV 6) oN<|oS<|p2 jg (pI 1)<|jl jf #[pV 0,p2 jg (pI 905)<|pV 5,pI 3])<|jc [] 7)<|jh (jB (dP<|pSl (JK #[pF<|p2 jd (pV 6)<|pI 3,p2 jg (p2 jd (pV 6)<|pI 3)<|pS [104]]) oN<|oS<|jl jf #[pV 0,p2 jg (pI 910)<|pV 5,pI 3])<|jc [] 8)<|jh (jB (dP<|yw (Yd<|pSl (pV 2) oN<|oS<|pV 3) (jc [] 0) (jn<|p2 QH (pV 0)<|p2 jd (pV 1)<|pV 2) (pF<|pV 0) [none,some 2,some 5])<|jc [] 9)<|sFz 9<|sFz 8<|sFz 7<|K2 4<|jl qm #[pV 0,p2 yi (pI 200)<|pV 5,p2 jd (pV 2)<|pV 5,pV 7,pV 8,pV 9])
def VV:FS:=(jh (jB (dP<|jl kE #[pV 0])<|jc [] 2)<|jh (jB (dP<|p2 jg (pI 1)<|jl jf #[pV 0,pI 904,pV 1])<|jc [] 3)<|jh (jB (dP<|JK pN)<|jc [] 4)<|jh (qF (Kz #[pV 3]) (jc [] 5) vO)<|yp<|dMv 4)
def vZ:List D->Option D:=fnP 10 VV
def xO:FS:=(jh (sFz 2<|jB (dP<|jl qo #[pV 0,pV 2,pV 4,pV 5])<|jc [] 6)<|jh (sFz 6<|K2 3<|pF<|pV 6)<|jB (dP<|pF<|p2 jd (pV 6)<|pI 0)<|jc [] 2)
def jkg:FS:=(jh (jB (dP<|jl V0 #[pV 0])<|jc [] 2)<|jh (jB (dP<|JK pN)<|jc [] 3)<|jh (qF (pIt<|pF<|pV 1) (gT 2<|gC (jc [] 4)<|gC (jc [] 5) gN) xO)<|yp<|dMv 3)
def jet:List D->Option D:=fnP 7 jkg
def qY(vD:List D->Option D):FS:=(jh (sIf (dPT<|jn<|jaQ "list" "tuple"<|pV 0) (yp<|dP<|pCB jkd #[yw (Yd<|pV 0) (jc [] 0) qT (jl vD #[pV 0]) [none]])
 jN)<|yp<|dP<|pOr (jdM "str"<|pV 0)<|jl YI #[pV 0])
def yu:Nat->List D->Option D
 | 0=>λ_=>none
 | n+1=>fnP 1<|qY<|yu n
def vD:List D->Option D:=yu 8
def jb0:FS:=(jh (jB (dP<|p2 jg (p2 jd (p2 jd (pV 6)<|pI 0)<|pV 10)<|p2 jd (pV 5)<|pV 10)<|jc [] 12)<|jh (jB (dP<|pI 0)<|gIx [] 5<|pV 10)<|sFz 1<|sIf (Vn<|dOp QH (QN vP 4 5 3<|ja (pF<|pV 1)<|ja (pF<|pV 11)<|ja (pF<|pV 9)<|pFs pN)<|dP<|pF<|pV 12) (yp<|dP<|pC<|.bl false)
 jN)
def Kc:FS:=(jh (jdv (dP<|pF<|pV 7)<|gT 2<|gC (jc [] 8)<|gC (jc [] 9) gN)<|jh (sFz 1<|qF (qG #[pF<|pV 1]) (gT 2<|gC (jc [] 10)<|gC (jc [] 11) gN) jb0)<|jh (jB (dCB qQ<|yM (jfc 4 (λ_ _ n=>some<|decide<|0<n)<|λa b n=>.tup [kaD a,kaD b,.int n]) jc2)<|jc [] 13)<|sIf (dPT<|qOr (jn<|p2 QH (p2 jd (pV 8)<|pI 1)<|pV 13)<|jn<|p2 QH (p2 jd (pV 8)<|pI 2)<|pV 5) (yp<|dP<|pC<|.bl false)
 jN)
def jkO:FS:=(jh (jB (dP<|jl vZ #[pV 0,pI 3])<|jc [] 1)<|jh (sFz 1<|jB (dP<|jl vX #[pV 0,pCB qv #[pV 1]])<|jc [] 2)<|jh (sFz 2<|jB (dP<|jl jet #[pV 1,pV 2])<|jc [] 3)<|jh (sFz 3<|sIf (dPT<|qOr (jmW<|jn<|jdM "list"<|pV 3)<|qOr (jn<|p2 QH (pCB qv #[pV 3])<|pCB qv #[pV 2])<|jmW<|jn<|jl vD #[pV 3]) (yp<|dP<|pC<|.bl false)
 jN)<|jh (jB (dP<|pC<|.dT true [] [])<|jc [] 4)<|jh (jB (dP<|yw (Yd<|pV 1) (jc [] 0) qT (pI 0) [none])<|jc [] 5)<|jh (sFz 2<|sFz 3<|qF (pZN 2 #[pF<|pV 2,pF<|pV 3]) (gT 2<|gC (jc [] 6)<|gC (jc [] 7) gN) Kc)<|yp<|dP<|jfJ (p2 vU (pV 1)<|jl vZ #[pV 0,pI 3])<|p2 vU (pV 2)<|jl vX #[pV 0,pCB qv #[pV 1]])
def jag:List D->Option D:=fnP 14 jkO
def jo9(st:Stmt):List Str:=((jt st).names.filter λp=>decide (p.2=.local)||decide (p.2=.cell)).map (·.1)
abbrev Jg(K:W4)(mg:W6)(x:Str)(st:Stmt)(n:Nat):Prop:=jdL K mg x st (jo9 st) n
abbrev jgI(K:W4)(C:Addr)(x qual:Str)(st:Stmt)(n:Nat):Prop:=jl6 K C x qual st (jo9 st) n
structure Txt(P:Program)(w:World)(K:W4)(mg:W6)(cl:Nat->Addr):Prop where
 C0:Cls K (cl 0)
 mk0:PySem.W.makesIn K (cl 0)=true
 kc0:PySem.W.keepIn K (.ref<|cl 0)=true
 mg0:mg "Fall" = some (.ref<|cl 0)
 aa:NoAttr K (cl 0) "owed"
 ab:NoAttr K (cl 0) "sizes"
 ac:NoAttr K (cl 0) "marks"
 ae:NoAttr K (cl 0) "levels"
 af:NoAttr K (cl 0) "loans"
 ag:NoAttr K (cl 0) "pool_name"
 ah:NoAttr K (cl 0) "cash"
 ai:NoAttr K (cl 0) "entries"
 aj:NoAttr K (cl 0) "served"
 ak:NoAttr K (cl 0) "moves"
 al:mg "all" = none
 am:mg "bool" = none
 ao:mg "dict" = none
 ap:mg "enumerate" = none
 aq:mg "int" = none
 ar:mg "isinstance" = none
 au:mg "len" = none
 av:mg "list" = none
 aw:mg "max" = none
 ax:mg "min" = none
 ay:mg "range" = none
 az:mg "sorted" = none
 aA:mg "str" = none
 aB:mg "sum" = none
 aC:mg "tuple" = none
 aD:mg "zip" = none
 aE:Jg K mg "tenths_of" (top 2) 1
 aF:Jg K mg "order_named" (top 4) 2
 aG:Jg K mg "look_order" (top 5) 2
 aH:Jg K mg "loans_by_ends" (top 6) 1
 aI:Jg K mg "move_loan" (top 7) 5
 aJ:jdL K mg "shared" (top 10) ["needs","cash","whole","gets","left","at","need"] 2
 aK:jgI K (cl 0) "need_of" "Fall.need_of" (kX (top 13) 3) 2
 aL:jgI K (cl 0) "take_guard" "Fall.take_guard" (kX (top 13) 6) 4
 aM:jgI K (cl 0) "book_behind" "Fall.book_behind" (kX (top 13) 7) 2
 aN:Jg K mg "eaten" (top 15) 3
 aO:Jg K mg "begun_book" (top 18) 1
 aP:Jg K mg "with_dues" (top 20) 2
 aQ:Jg K mg "_law_draw" (top 25) 3
 aR:Jg K mg "_law_free" (top 31) 2
 aS:Jg K mg "_law_whole" (top 36) 1
 aT:Jg K mg "_law_moved" (top 38) 5
 aU:Jg K mg "_law_rules" (top 39) 1
 aV:Jg K mg "asked" (top 1) 2
 aW:Jg K mg "loans_behind" (top 8) 3
 aX:jgI K (cl 0) "__init__" "Fall.__init__" (kX (top 13) 0) 5
 aY:jgI K (cl 0) "give" "Fall.give" (kX (top 13) 4) 4
 aZ:jl6 K (cl 0) "take_share" "Fall.take_share" (kX (top 13) 5) ["self","place","names","needs","gets","full","name","need","got"] 3
 b0:Jg K mg "begun" (top 17) 1
 b3:Jg K mg "order_now" (top 19) 2
 b7:Jg K mg "_law_coins" (top 26) 2
 b8:Jg K mg "_law_names" (top 27) 1
 b9:Jg K mg "_law_some" (top 28) 3
 ba:Jg K mg "_law_fallen" (top 40) 5
 bc:jgI K (cl 0) "take_parts" "Fall.take_parts" (kX (top 13) 1) 2
 be:jgI K (cl 0) "take_rule" "Fall.take_rule" (kX (top 13) 2) 3
 bf:Jg K mg "_law_rule" (top 29) 5
 bg:Jg K mg "_law_flow" (top 34) 2
 bh:Jg K mg "fell" (top 12) 5
 bi:Jg K mg "_law_order" (top 30) 6
 bj:jdL K mg "_law_days" (top 35) ["_law_script","_law_many","_law_days_here","_law_k","_law_incomes","_law_losses","_law_at","_law_loss"] 2
 bm:Jg K mg "pool_day" (top 21) 5
 bn:Jg K mg "_law_pool" (top 32) 6
 bo:jdL K mg "day_done" (top 22) ["deal","state","incomes","losses","books","loans","waiting","log","at_of","at","pool","came","told","kind","other","coins"] 4
 bp:Jg K mg "_law_deal" (top 33) 2
 bq:Jg K mg "ran" (top 23) 2
 br:Jg K mg "_law_plain" (top 37) 1
 bt:jdL K mg "law" (top 41) ["_law_script","_law_deal_here","_law_days_here","_law_found","_law_loans","_law_waiting","_law_day","_law_told","_law_state","_law_log","_law_k","_law_pool_here","_law_came","_law_due"] 1
section
variable {P:Program}{w:World}{K:W4}{mg:W6}{cl:Nat->Addr}(T:Txt P w K mg cl)
include T
set_option maxHeartbeats 40000000 in
def jjC:((((NP P w cl T.aE 1 kD/\NP P w cl T.aF 1 vq)/\NP P w cl T.aG 1 yW/\NP P w cl T.aH 1 j9)/\(NM P w cl T.aI 1 yz/\NP P w cl T.aJ 1 qB)/\OP P w cl mg T.aK 1 ji/\OM P w cl mg T.aL 1 ye)/\((OP P w cl mg T.aM 1 jF/\NP P w cl T.aN 1 Ka)/\NP P w cl T.aO 1 yV/\NP P w cl T.aP 1 kj)/\(NP P w cl T.aQ 1 jf/\NP P w cl T.aR 1 qw)/\NP P w cl T.aS 1 YI/\NA P w cl T.aT 1 1 vz/\NP P w cl T.aU 1 ku) /\
 (((NP P w cl T.aV 2 Vg/\NP P w cl T.aW 2 yP)/\OM P w cl mg T.aX 2 yF/\OM P w cl mg T.aY 2 jr/\OM P w cl mg T.aZ 2 jI)/\(NP P w cl T.b0 2 V0/\NP P w cl T.b3 2 vB/\NP P w cl T.b7 2 jy)/\NP P w cl T.b8 2 kE/\NP P w cl T.b9 2 v5/\NA P w cl T.ba 2 3 vP) /\
 ((OM P w cl mg T.bc 3 jJ/\OM P w cl mg T.be 3 jo)/\NP P w cl T.bf 3 JW/\NP P w cl T.bg 3 yf) /\
 (NP P w cl T.bh 4 wA/\NP P w cl T.bi 4 kz/\NP P w cl T.bj 4 vX) /\
 (NP P w cl T.bm 5 vY/\NP P w cl T.bn 5 qm) /\
 (NP P w cl T.bo 6 qo/\NP P w cl T.bp 6 vZ) /\
 NP P w cl T.bq 7 jet /\
 NP P w cl T.br 9 vD /\
 NP P w cl T.bt 10 jag:=by
 cases T;refine jfO ?_ λa=>jfO ?_ λb=>jfO ?_ λe=>jfO ?_ λh=>jfO ?_ λi=>jfO ?_ λk=>jfO ?_ λl=>jfO ?_ λm=>?_
 all_goals repeat' apply And.intro
 all_goals
  (first | refine jpc (by assumption) (λ_=>rfl) (λj f fd S F _ base=>?_) _ | refine okR (by assumption) (λ_=>rfl) (λj f fd S F _ base=>?_) _ | refine okN (by assumption) λf fd S F base=>?_ | refine okO (by assumption) λf fd S F base=>?_)
  (first | refine' jou F.fn S rfl λc A outer s H E g=>?_ | refine' jkq F.fn S rfl λc A outer s H E g=>?_ | refine' jlf F.fn S rfl λc A outer s H E g=>?_)
  apply Exists.intro
  repeat' first | exact rfl | (show QB _ _ _ _ _;first | apply jn4 | apply qI | apply joW | apply jlx | apply jj1 | apply jiW | apply QP.fzb | apply QK.ix | apply QK.fld | apply QP.bb) | (show QBs _ _ _ _ _;first | apply ji1 | apply jmo) | (show QSs _ _ _ _ _ _;first | apply ji0 | apply jeM | apply jh4) | (show QPs _ _ _ _ _;first | apply jiv | apply jkM) | (show QP _ _ _ _ _;first | ((with_reducible show QP _ _ _ _ (pCB vh _));refine' VX (jaj rfl) jin ?_ jaD ?_) | ((with_reducible show QP _ _ _ _ (pCB jcb _));refine' YH (jbD rfl) jl3 ?_ jcp ?_) | ((with_reducible show QP _ _ _ _ (pCB Vd _));refine' VX QR jhF ?_ JT ?_) | ((with_reducible show QP _ _ _ _ (pCB jae _));refine' YH (jdt rfl) jjL ?_ jbU ?_) | ((with_reducible show QP _ _ _ _ (pCB ji3 _));refine' YH (jdA rfl) jjL ?_ jcF ?_) | ((with_reducible show QP _ _ _ _ (pCB Q6 _));refine' VX KO jew ?_ xM ?_) | ((with_reducible show QP _ _ _ _ (pCB xa _));refine' VX jbE jis ?_ QF ?_) | ((with_reducible show QP _ _ _ _ (pCB jkd _));refine' YH (jer rfl) jmE ?_ jaZ ?_) | ((with_reducible show QP _ _ _ _ (jdM "int" _));refine' jdY (T:="int") (by decide) ?_ ?_ QF ?_) | ((with_reducible show QP _ _ _ _ (jdM "bool" _));refine' jdY (T:="bool") (by decide) ?_ ?_ jaF ?_) | ((with_reducible show QP _ _ _ _ (jdM "str" _));refine' jdY (T:="str") (by decide) ?_ ?_ jbz ?_) | ((with_reducible show QP _ _ _ _ (jdM "list" _));refine' jdY (T:="list") (by decide) ?_ ?_ JT ?_) | ((with_reducible show QP _ _ _ _ (pLM JS _ _));refine' jo2 PySem.F.slot_list_index PySem.F.type_list_index jcM jdf ?_ ?_) | apply jki | apply jgr | apply joo | apply qS | apply jnO | apply jnf | apply jm8 | apply jmc | apply jot | apply jpb | apply jiq | apply joq | apply jnD | apply jn0 | apply jnj | apply jpp | apply jpv | apply jfu | apply jnl | apply jnQ | apply jpy | apply jlA | apply jjT | apply jnh | apply jpl | apply jgS | apply jeB | apply joK | apply jo2 | apply jkG | apply jlY | apply jjJ | apply jgG | apply QK.add | apply QK.call | apply jnn | apply QB.f) | (show QE _ _ _ _ _;first | ((with_reducible show QE _ _ _ _ (dCB qQ _));refine' je4 Qt jaT ?_ zt ?_) | apply jpw | apply jmg | apply jiY | apply jeI | apply jeo | apply jjj | apply jmF | apply jnz | apply jmC | apply QP.d) | (show QS _ _ _ _ _ _;first | apply jlo | apply jnJ | apply QS.fz | apply jl9 | apply jjF | apply xx (hsw:=by with_unfolding_all rfl) | apply jkF | apply jgO | apply jbG | apply jhK | apply jio | apply jey | apply jbN | apply jeT | apply jiw | apply jiH | apply jd9 | apply joD | apply jjB | apply jfp | apply jea | apply jgx | apply jby | apply jlF | apply zF | apply jkU) | (show QGs _ _ _ _ _ _;first | apply jdR | apply jgQ) | (show QG _ _ _ _ _ _;first | apply jhL | apply jgh | apply QK.g_tup) | (show QT _ _ _ _ _;first | apply jkJ | apply jj2 | apply jml | apply QW.t) | (show QDs _ _ _ _ _;first | apply jhu | apply jkr) | (show QIb _ _ _ _ _ _;first | apply jgF | apply QI.b') | (show QL _ _ _ _ _ _;first | apply jj6 | apply jlL) | (show QI _ _ _ _ _ _;first | apply jiL | apply jle | apply jiR | apply jkb | apply jnb | apply jkE) | (show QO _ _ _ _ _;first | apply jgH | apply jjm) | (show QW _ _ _ _ _;first | apply jkZ | apply jhq | apply jos | apply jlz) | (show QJ2 _ _ _ _ _ _ _ _;first | apply jeu | apply jeW) | apply jfl | (show QTE _ _ _ _ _;first | apply jmT | apply jlB | apply QT.d | apply jmM) | apply jps | apply jpK | apply jpk | apply c_ne | apply jpL | apply jpG | apply jpg | apply c_notin | apply QK.c_notin | apply QK.c_ne | apply wU | apply Q4 | exact Or.inl rfl | exact Or.inr rfl | exact Or.inr (Or.inl rfl) | exact Or.inr (Or.inr rfl) | exact λ_=>rfl | exact λ_ _=>rfl | exact λ_ _ _=>rfl | exact g.mono (by decide) | exact g.mono (by first | exact M8 _ | exact Nat.le_add_left _ _ | exact N6 (by decide)<|Nat.le_add_right _ _) | apply jep | exact S.nd | (show BlockOk _ _ _ _;exact bkN S) | exact PassesOwn.never | exact jkm | exact jmB | (intro _ _ _ _;first | show QP _ _ _ _ _ | show QG _ _ _ _ _ _ | show QIf _ _ _ _ _ | show QT _ _ _ _ _ | show QKv _ _ _ _ _ _) | exact⟨rfl,rfl,rfl,rfl⟩ | exact ndN (by decide +kernel) | decide +kernel | with_unfolding_all rfl | assumption | exact a.1.1.1.1 | exact a.1.1.1.2 | exact a.1.1.2.1 | exact a.1.1.2.2 | exact a.1.2.1.1 | exact a.1.2.1.2 | exact a.1.2.2.1 | exact a.1.2.2.2 | exact a.2.1.1.1 | exact a.2.1.1.2 | exact a.2.1.2.1 | exact a.2.1.2.2 | exact a.2.2.1.1 | exact a.2.2.1.2 | exact a.2.2.2.1 | exact a.2.2.2.2.1 | exact a.2.2.2.2.2 | exact b.1.1.1 | exact b.1.1.2 | exact b.1.2.1 | exact b.1.2.2.1 | exact b.1.2.2.2 | exact b.2.1.1 | exact b.2.1.2.1 | exact b.2.1.2.2 | exact b.2.2.1 | exact b.2.2.2.1 | exact b.2.2.2.2 | exact e.1.1 | exact e.1.2 | exact e.2.1 | exact e.2.2 | exact h.1 | exact h.2.1 | exact h.2.2 | exact i.1 | exact i.2 | exact k.1 | exact k.2 | exact l | exact m | apply Q4 | apply wU | apply jh5 | apply joN
end
def sq(h:f ρ=some (.nx ρ'))(k:g ρ'=r):jh f g ρ=r:=by
 rw[jgw,h];exact k
def lpF(h:(G x ρ).bind f=some (.nx ρ2)):jG G f (x::xs) ρ=jG G f xs ρ2:=by
 refine ob h λr a b=>?_;rw[jM,a,L4,b];rfl
def cpE(h:G x ρ=some ρ1)(k:p ρ1=some y):jV G qT p (x::xs) ρ=(jV G qT p xs ρ1).bind λys=>some (y::ys):=by
 rw[vv,h,L4,qT,L4,cond_true,k];rfl
def lpE(h:G x ρ=some ρ1)(k:f ρ1=some (.nx ρ2)):jG G f (x::xs) ρ=jG G f xs ρ2:=by
 rw[jM,h,L4,k];rfl
noncomputable abbrev sc(ns:List Int):D:=.lst false<|ns.map D.int
noncomputable def jeV(ns:List Int)(k:Int):Int:=ns.getD (k%ns.length).toNat 0
def drw(ns:List Int)(k many:Int):Int:=(jeV ns k%2147483647+7*k+3)*(48271+1103*k*k)%2147483629/64%many
def j7(ns:List Int)(k:Int)  (h:0<many):0<=drw ns k many:=N9 _ ∅
def yb(ns:List Int)(k:Int)  (h:0<many):drw ns k many<many:=N8 _ h
def jcy(h:0<ns.length):jd (.lst false<|ns.map D.int) (.int<|k%(ns.length:Int))=some (.int<|jeV ns k):=by
 have g1:=N9 k (show(ns.length:Int)≠0 by lia);have g2:=N8 k (show 0<(ns.length:Int) by lia);have g3:(k%(ns.length:Int)).toNat<ns.length:=by lia
 rw[jaz g1<|by rw[L1];exact g2,List.getElem?_map];unfold jeV;rw[List.getD_eq_getElem?_getD,X5 g3];rfl
def jj7{k:Int}(d:0<=k)(h1:k<=1000000):0<=1103*k*k/\1103*k*k<=1103*1000000*1000000/\0<=k*k/\k*k<=1000000*1000000:=by
 have a:0<=k*k:=Int.mul_nonneg d d;have b:k*k<=1000000*1000000:=Int.mul_le_mul h1 h1 d<|Int.le_trans d h1;have c:1103*k*k=1103*(k*k):=Int.mul_assoc _ _ _;exact⟨by lia,by lia,a,b⟩
def jv{ns:List Int}{k many:Int}(b:0<=k)(h1:k<=1000000)(d:0<many):jf [.lst false<|ns.map D.int,.int k,.int many]=some (.int<|drw ns k many):=by
 have f:=jj7 b h1;by_cases h:ns=[]
 ·subst h;have e:drw [] k many=(0%2147483647+7*k+3)*(48271+1103*k*k)%2147483629/64%many:=rfl;rw[e];simp(disch:=lia) [jf,jK,JN,vm,Y8,Js]
 ·have a:0<ns.length:=List.length_pos_iff.mpr h;have c:(0:Int)<(ns.length:Int):=by lia
  have e:=jcy (ns:=ns) (k:=k) a;simp(disch:=lia) [jf,jK,JN,vm,Y8,Js,e,a,drw]
def coi(ns:List Int)(k:Int):Int:=if 0<drw ns 900 3 then 1+drw ns k 9 else 1+(jeV ns k%10 ^ 40+k*k+1)*48271 ^ 5%10 ^ 12
def Ky(ns:List Int)(k:Int):1<=coi ns k:=by
 unfold coi;split
 ·have:=j7 ns k (many:=9) (by decide);lia
 ·lia
def xY(ns:List Int)(k:Int):coi ns k<=10 ^ 12:=by
 unfold coi;split
 ·have:=yb ns k (many:=9) (by decide);lia
 ·lia
def JF{ns:List Int}{k:Int}(g:0<=k)(h1:k<=1000000):jy [.lst false<|ns.map D.int,.int k]=some (.int<|coi ns k):=by
 have j:=jj7 g h1;have a:=jv (ns:=ns) (k:=900) (many:=3) (by decide) (by decide) (by decide);have b:=jv (ns:=ns) (k:=k) (many:=9) g h1 (by decide);have p1:Vl (.int 10) (.int 40)=some (.int<|10 ^ 40):=rfl;have p2:Vl (.int 48271) (.int 5)=some (.int<|48271 ^ 5):=rfl;have p3:Vl (.int 10) (.int 12)=some (.int<|10 ^ 12):=rfl;have key:∀ c:Int,0<=c%10 ^ 40/\c%10 ^ 40<10 ^ 40:=λc=>⟨by lia,by lia⟩;by_cases h:ns=[]
 ·subst h;have e:coi [] k=if 0<drw [] 900 3 then 1+drw [] k 9 else 1+(0%10 ^ 40+k*k+1)*48271 ^ 5%10 ^ 12:=rfl
  rw[e];simp only[List.map_nil] at a b;by_cases d:0<drw [] 900 3
  ·simp(disch:=lia) [jy,jK,vx,a,b,d]
  ·simp(disch:=lia) [jy,jK,vx,vm,Y8,Js,a,b,p1,p2,p3,d]
 ·have f:0<ns.length:=List.length_pos_iff.mpr h;have i:(0:Int)<(ns.length:Int):=by lia
  have e:=jcy (ns:=ns) (k:=k) f;by_cases d:0<drw ns 900 3
  ·simp(disch:=lia) [jy,jK,vx,vm,Y8,Js,e,f,coi,a,b,d]
  ·simp(disch:=lia) [jy,jK,vx,vm,Y8,Js,e,f,coi,a,b,p1,p2,p3,d]
noncomputable def letters:List Nat:=[98,99,100,102,103,106,107,109,110,112,113,118,119,120,121,122]
def ahd(ns:List Int):List Nat:=(List.replicate (drw ns 901 2).toNat [122,113]).flatten
def bhd(ns:List Int):List Nat:=[118,122,98].take (drw ns 902 4).toNat
def VU(ns:List Int)(i:Nat):List Nat:=ahd ns++[letters.getD ((drw ns 903 16+(0+(i:Int)))%16).toNat 0]++bhd ns
def nmL(ns:List Int):List (List Nat):=(List.range 16).map (VU ns)
def jfG(ns:List Int):(ahd ns).length<=2/\∀ c∈ahd ns,c<1114112:=by
 have a:=j7 ns 901 (many:=2) (by decide);have b:=yb ns 901 (many:=2) (by decide);unfold ahd;have:drw ns 901 2=0\/drw ns 901 2=1:=by lia
 rcases this with e | e<;>rw[e]<;>decide
def jfL(ns:List Int):(bhd ns).length<=3/\∀ c∈bhd ns,c<1114112:=by
 unfold bhd;refine⟨by rw[X6];simp;lia,λc a=>?_⟩;have:=List.mem_of_mem_take a;simp only[M4,List.not_mem_nil,or_false] at this;rcases this with rfl | rfl | rfl<;>decide
def jaB(i:Nat):letters.getD i 0<1114112:=jhr (by decide) (by decide)
def jjb(ns:List Int)(i:Nat):Wd (VU ns i)/\(VU ns i).length<=6:=by
 have a:=jfG ns;have b:=jfL ns;have e:(VU ns i).length<=6:=by
  unfold VU;simp only[N3,M1,List.length_nil]
  lia
 refine⟨⟨by lia,λc d=>?_⟩,e⟩;unfold VU at d;rcases N1.mp d with d | d
 ·rcases N1.mp d with d | d
  ·exact a.2 c d
  ·rw[M7.mp d];exact jaB _
 ·exact b.2 c d
def z5:∀ i j:Fin 16,letters.getD i.val 0=letters.getD j.val 0->i=j:=by decide
def wL(hi:i<16)(a:j<16)(h:VU ns i=VU ns j):i=j:=by
 unfold VU at h;have h:=List.append_cancel_right h;have h:=List.append_cancel_left h;have b:=j7 ns 903 (many:=16) (by decide);have c:=yb ns 903 (many:=16) (by decide);have q:letters.getD ((drw ns 903 16+(0+(i:Int)))%16).toNat 0=letters.getD ((drw ns 903 16+(0+(j:Int)))%16).toNat 0:=by injection h
 have:=z5 ⟨((drw ns 903 16+(0+(i:Int)))%16).toNat,by lia⟩ ⟨((drw ns 903 16+(0+(j:Int)))%16).toNat,by lia⟩ q;have:=congrArg Fin.val this;simp only at this
 lia
def JQ(ns:List Int):(nmL ns).length=16:=by simp[nmL]
def Qo(ns:List Int):(nmL ns).Nodup:=by
 unfold nmL;refine List.Pairwise.map _ (R:=λa b=>a∈List.range 16/\b∈List.range 16/\a≠b) ?_ ?_
 ·rintro a b ⟨c,d,e⟩ z;exact e<|wL (List.mem_range.mp c) (List.mem_range.mp d) z
 ·decide
def jcK(h:w∈nmL ns):Wd w/\w.length<=6:=by
 obtain⟨i,_,rfl⟩:=M5.mp h;exact jjb ns i
def jfk(ns:List Int):kE [.lst false<|ns.map D.int]=↑((nmL ns).map D.str):=by
 have c:=jv (ns:=ns) (k:=901) (many:=2) (by decide) (by decide) (by decide);have d:=jv (ns:=ns) (k:=902) (many:=4) (by decide) (by decide) (by decide);have e:=jv (ns:=ns) (k:=903) (many:=16) (by decide) (by decide) (by decide);have f:=j7 ns 901 (many:=2) (by decide);have p:=yb ns 901 (many:=2) (by decide);have g:=j7 ns 902 (many:=4) (by decide);have c1:=j7 ns 903 (many:=16) (by decide);have r:=yb ns 903 (many:=16) (by decide);have h:yi (.str [122,113]) (.int<|drw ns 901 2)=some (.str<|ahd ns):=jjI (by decide) f ∅;have j:jh2 none (some<|drw ns 902 4) (.str [118,122,98])=some (.str<|bhd ns):=by
  rw[jpj<|by decide,Jj _ g];rfl
 have t:=jfG ns;have u:=jfL ns;have m:([98,99,100,102,103,106,107,109,110,112,113,118,119,120,121,122]:List Nat)=letters:=rfl;have b:jV (jc [] 0) qT (p2 jg (p2 jg (pV 1)<|p2 jd (pV 2)<|p2 JB (p2 jg (pV 3)<|pV 0)<|pI 16)<|pV 4) (Vs 0 16)
   (jx [none,some 2,some 1,some 4,some 3] [‹ns.map D.int›,some<|.str letters,some<|.str<|ahd ns,some<|.str<|bhd ns,some<|.int<|drw ns 903 16])=some ((List.range 16).map λi=>D.str<|VU ns i):=by
  refine jw (l:=List.range 16) (en:=λi=>.int<|0+(i:Int)) rfl (λρ=>∃ o,ρ=[o,some<|.str<|ahd ns,some<|.str letters,some<|.int<|drw ns 903 16,some<|.str<|bhd ns]) ?_ ⟨none,rfl⟩;rintro x v ρ ⟨o,rfl⟩;refine⟨_,rfl,?_,_,rfl⟩;have q:=jpI (s:=letters) (i:=(drw ns 903 16+(0+(x:Int)))%16) (by decide) ∅ (by have:letters.length=16:=rfl;lia);simp(disch:=first | lia | (simp;done) | (simp;lia)) [Y8,q,jfQ,VU,-Int.zero_add,-List.getD_eq_getElem?_getD]
 have n:ja3 [.int 16]=some (Vs 0 16):=qu (by decide) (by decide);have a:lim (Vs 0 16).length=true:=jb (by rw[yQ];decide);have e7:((List.range 16).map λi=>D.str<|VU ns i)=(nmL ns).map D.str:=by unfold nmL;rw[U0];rfl
 rw[e7] at b;unfold kE;rw[jK];unfold YW;rw[m];simp[c,d,e,h,j,n,a,b]
def jhw{ns:List Int}{k:Int}{C:W1}(q:0<=k)(h1:k<=100000)(r:C.length<=10)(p:C.Nodup):∃(S:W1),An4 (v5 [.lst false<|ns.map D.int,.int k,.lst false<|C.map D.str]=↑(S.map D.str)) (∀ w∈S,w∈C) S.Nodup (S.length<=10):=by
 obtain⟨t,T,e,⟨g,j,rfl⟩,b⟩:=je6 (G:=gT 2<|gC (jc [] 4)<|gC (jc [] 5) gN) (f:=vK) (λ(a:W1) ρ=>∃ g j,ρ=[‹ns.map D.int›,some<|.int k,‹C.map D.str›,↑(a.map D.str),g,j]) 20 (C:=C) (s:=0) (acc:=[]) (ρ:=[‹ns.map D.int›,some<|.int k,‹C.map D.str›,some<|.lst true [],none,none]) (by
  rintro i c a ρ hi u v ⟨g,j,rfl⟩;have m:=jv (ns:=ns) (k:=k+(i:Int)) (many:=3) ∅ ∅ (by decide);by_cases d:0<drw ns (k+(i:Int)) 3
  ·refine⟨_,_,rfl,?_,.inl ⟨some<|.int i,some<|.str c,rfl⟩⟩;simp(disch:=first | lia | (simp;done) | (simp;lia)) [vK,m,d,jb]
  ·refine⟨_,_,rfl,?_,.inr ⟨some<|.int i,some<|.str c,rfl⟩⟩;simp(disch:=first | lia | (simp;done) | (simp;lia)) [vK,m,d,jb]) ∅ (by simp;lia) ⟨none,none,rfl⟩
 rw[X4] at e;have n:=jv (ns:=ns) (k:=k+9) (many:=2) ∅ ∅ (by decide);have o:T.Nodup:=p.sublist b;by_cases d:drw ns (k+9) 2=1
 ·refine⟨T.reverse,?_,λw l=>b.subset<|List.mem_reverse.mp l,(List.pairwise_reverse.mpr<|o.imp λh=>Ne.symm h),by have:=b.length_le;rw[List.length_reverse];lia⟩;rw[List.map_reverse];simp(disch:=first | lia | (simp;done) | (simp;lia)) [v5,jK,JR,e,n,d,jb]
 ·refine⟨T,?_,λw l=>b.subset l,o,by have:=b.length_le;lia⟩;simp(disch:=first | lia | (simp;done) | (simp;lia)) [v5,jK,JR,e,n,d,jb]
noncomputable abbrev yY:List Nat:=[115,104,97,114,101]
noncomputable abbrev k8:List Nat:=[114,101,112,97,121]
noncomputable abbrev jmO:List Nat:=[112,97,121]
noncomputable abbrev jbi:List Nat:=[102,105,108,108]
noncomputable abbrev jS:List Nat:=[108,101,110,100]
noncomputable abbrev yy:List Nat:=[98,97,99,107]
noncomputable abbrev Vr:List Nat:=[114,101,115,116]
def jbt(C P O:W1)(kw w:List Nat):Prop:=((kw=jmO\/kw=k8\/kw=Vr)/\w∈C)\/(kw=jbi/\w∈P)\/(kw=yy/\w∈O)
inductive RuleS (C P O:W1):D->Prop where
 | two (kw w:List Nat) (hk:kw≠yY) (h1:Wd kw) (h2:Wd w) (hm:jbt C P O kw w):RuleS C P O (.tup [.str kw,.str w])
 | share (ws:W1) (hl:ws.length<=20) (h:∀ w∈ws,Wd w) (hm:∀ w∈ws,w∈C) (nd:ws.Nodup):RuleS C P O (.tup [.str yY,.tup (ws.map D.str)])
 | lend (w:List Nat) (i:Int) (h:Wd w) (hm:w∈O):RuleS C P O (.tup [.str [108,101,110,100],.str w,.int i])
def RuleS.fz(h:RuleS C P O d):QD.fz d=d:=by cases h<;>simp
def RuleS.frz(h:RuleS C P O d):QD.frz d=true:=by cases h<;>simp
def xz(h:RuleS C P O d):QD.clean d=true:=by cases h<;>simp
def RuleS.ok(h:RuleS C P O d)(n:Nat):okE (n+2) d=true:=by
 cases h with
 | two kw w e b c a=>show ve (n+1) [.str kw,.str w]=true;simp[ve,yg b.2,yg c.2]
 | share ws f h a nd=>show ve (n+1) [.str yY,.tup<|ws.map D.str]=true;simp[ve,yg (n:=n+1) (w:=yY)<|by decide,okE,Qj h]
 | lend w i h a=>show ve (n+1) [.str [108,101,110,100],.str w,.int i]=true;simp[ve,yg (n:=n+1) (w:=[108,101,110,100])<|by decide,yg h.2]
def qk(h:w.all (λc=>decide<|c<200)=true)(a:w.length<=30):Wd w:=⟨a,λc b=>by
 have:=X2<|List.all_eq_true.mp h c b;lia⟩
def jdu(h:C.Nodup):(yd C (some<|-1) none++yd C none (some<|-1)).Nodup:=by
 unfold yd;have e:HT.sIx C.length C.length (some<|-1)=HT.sIx C.length 0 (some<|-1):=rfl;rw[e,HT.sIx_none,HT.sIx_none];generalize HT.sIx C.length 0 (some<|-1)=m;have a:(C.drop m).take (C.length-m)=C.drop m:=List.take_of_length_le (by rw[List.length_drop];lia);rw[a,Nat.sub_zero,List.drop_zero];have p:(C.drop m++C.take m).Perm C:=List.perm_append_comm.trans (by rw[List.take_append_drop]);exact p.nodup_iff.mpr h
def sqE(h:f ρ=some (.nx ρ')):jh f g ρ=g ρ':=sq h rfl
def jgJ{ns:List Int}{k:Int}{C P O:W1}(J:0<=k)(h1:k<=100000)(Y:0<C.length)(K:C.length<=10)(L:P.length<=10)(M:O.length<=10)(q:∀ w∈C,Wd w)(N:∀ w∈P,Wd w)(Q:∀ w∈O,Wd w)(A:C.Nodup):
  ∃ d,JW [.lst false<|ns.map D.int,.int k,.lst false<|C.map D.str,.lst false<|P.map D.str,.lst false<|O.map D.str]=some d/\RuleS C P O d:=by
 have B:=jv (ns:=ns) (k:=k) (many:=9) J ∅ (by decide);have R:=jv (ns:=ns) (k:=k+1) (many:=(C.length:Int)) ∅ ∅ ∅;have S:=j7 ns (k+1) (many:=(C.length:Int)) ∅;have T:=yb ns (k+1) (many:=(C.length:Int)) ∅;have E:=ki (o:=false) (l:=C) S T;have e:=yo (l:=C) (i:=(drw ns (k+1) (C.length:Int)).toNat) (d:=[]) ∅;have t:Wd (C.getD (drw ns (k+1) (C.length:Int)).toNat []):=q _ e;generalize C.getD (drw ns (k+1) (C.length:Int)).toNat []=w at E t e;have U:=j7 ns k (many:=9) (by decide);have V:=yb ns k (many:=9) (by decide);generalize drw ns k 9=kd at B U V;have s1:=kr false C none<|some 2;have s2:=kr false C (some<|-1) none;have W:=kr false C none<|some<|-1;have X:=uh (o:=true) (o':=true) (a:=yd C (some<|-1) none) (b:=yd C none<|some<|-1) (by have:=yR C (some<|-1) none;have:=yR C none<|some<|-1;lia);have f:RuleS C P O (.tup [.str [112,97,121],.str w]):=.two _ _ (by decide) (qk rfl<|by decide) t<|.inl ⟨.inl rfl,e⟩;have e2:JL [‹ns.map D.int›,some<|.int k,‹C.map D.str›,‹P.map D.str›,‹O.map D.str›,none,none,none]=_:=(sqE (ρ':=[‹ns.map D.int›,some<|.int k,‹C.map D.str›,‹P.map D.str›,‹O.map D.str›,some<|.int kd,none,none])<|by simp[B]).trans (sqE (ρ':=[‹ns.map D.int›,some<|.int k,‹C.map D.str›,‹P.map D.str›,‹O.map D.str›,some<|.int kd,some<|.str w,none])<|by simp[R,E]);show ∃ d,(JL [‹ns.map D.int›,some<|.int k,‹C.map D.str›,‹P.map D.str›,‹O.map D.str›,none,none,none]).bind Out.val=some d/\_;rw[e2];by_cases c:kd<3
 ·exact⟨_,by simp(disch:=lia) [c,jb],f⟩
 by_cases g:kd=3
 ·by_cases Z:1<C.length
  ·have j:(1:Int)<(C.length:Int):=by lia
   have F:=jv (ns:=ns) (k:=k+2) (many:=2) ∅ ∅ (by decide);by_cases G:drw ns (k+2) 2=0
   ·refine⟨.tup [.str yY,.tup<|(yd C none<|some 2).map D.str],?_,.share _ (by have:=yR C none<|some 2;lia) (λw h=>q w<|jZ h) (λw h=>jZ h)<|kc A⟩;simp(disch:=lia) [F,c,g,j,G,s1,jb]
   ·refine⟨.tup [.str yY,.tup<|(yd C (some<|-1) none++yd C none (some<|-1)).map D.str],?_,.share _ ?_ (λw h=>(N1.mp h).elim (λz=>q w<|jZ z) (λz=>q w<|jZ z)) (λw h=>(N1.mp h).elim jZ jZ)<|jdu A⟩
    ·simp(disch:=lia) [F,c,g,j,G,s2,W,X,jb,-List.map_append]
    ·have:=yR C (some<|-1) none;have:=yR C none<|some<|-1;rw[N3];lia
  ·have j:¬ (1:Int)<(C.length:Int):=by lia
   refine⟨_,?_,f⟩;simp(disch:=lia) [c,g,j,jb]
 by_cases m:kd=4
 ·refine⟨.tup [.str k8,.str w],?_,.two _ _ (by decide) (qk rfl<|by decide) t<|.inl ⟨.inr<|.inl rfl,e⟩⟩;simp(disch:=lia) [c,g,m,jb]
 by_cases n:kd=5
 ·by_cases H:0<P.length
  ·have r:=jv (ns:=ns) (k:=k+2) (many:=(P.length:Int)) ∅ ∅ ∅;have u:=j7 ns (k+2) (many:=(P.length:Int)) ∅;have v:=yb ns (k+2) (many:=(P.length:Int)) ∅;have s:=ki (o:=false) (l:=P) u v;refine⟨.tup [.str [102,105,108,108],.str<|P.getD (drw ns (k+2) (P.length:Int)).toNat []],?_,.two _ _ (by decide) (qk rfl<|by decide) (N _<|yo ∅)<|.inr<|.inl ⟨rfl,yo ∅⟩⟩;simp(disch:=lia) [r,s,c,g,m,n,H,jb,-List.getD_eq_getElem?_getD]
  ·refine⟨_,?_,f⟩;simp(disch:=lia) [c,g,m,n,H,jb]
 have x:5<kd:=by lia
 by_cases y:0<O.length
 ·have r:=jv (ns:=ns) (k:=k+2) (many:=(O.length:Int)) ∅ ∅ ∅;have u:=j7 ns (k+2) (many:=(O.length:Int)) ∅;have v:=yb ns (k+2) (many:=(O.length:Int)) ∅;have s:=ki (o:=false) (l:=O) u v;have p:Wd (O.getD (drw ns (k+2) (O.length:Int)).toNat []):=Q _<|yo ∅;have c1:=JF (ns:=ns) (k:=k+3) ∅ ∅;by_cases I:kd=8
  ·refine⟨.tup [.str [98,97,99,107],.str<|O.getD (drw ns (k+2) (O.length:Int)).toNat []],?_,.two _ _ (by decide) (qk rfl<|by decide) p<|.inr<|.inr ⟨rfl,yo ∅⟩⟩;simp(disch:=lia) [r,s,c,g,m,n,x,I,y,jb,-List.getD_eq_getElem?_getD]
  ·refine⟨.tup [.str [108,101,110,100],.str<|O.getD (drw ns (k+2) (O.length:Int)).toNat [],.int<|coi ns<|k+3],?_,.lend _ _ p<|yo ∅⟩;simp(disch:=lia) [r,s,c,g,m,n,x,I,y,c1,jb,-List.getD_eq_getElem?_getD]
 ·refine⟨_,?_,f⟩;simp(disch:=lia) [c,g,m,n,x,y,jb]
noncomputable abbrev W2:=List Nat×Int
noncomputable def e2(p:W2):D:=.tup [.str p.1,.int p.2]
def Ji(l:List W2):fzs (l.map e2)=l.map e2:=Jk λd hd=>by
 obtain⟨p,_,rfl⟩:=M5.mp hd;rfl
def yh(l:List W2):frzs (l.map e2)=true:=yj λd hd=>by
 obtain⟨p,_,rfl⟩:=M5.mp hd;rfl
def jcQ{l:List W2}(h:∀ p∈l,Wd p.1)(n:Nat):ve (n+1) (l.map e2)=true:=vE λd hd=>by
 obtain⟨p,a,rfl⟩:=M5.mp hd;show ve n [.str p.1,.int p.2]=true;simp[ve,yg (h p a).2]
structure OrdS where
 nm:List Nat
 parts:List W2
 rules:List D
def vk(o:Bool)(x:OrdS):D:=.tup [.str x.nm,.lst false<|x.parts.map e2,.lst o x.rules]
structure OrdOk(C P O:W1)(x:OrdS):Prop where
 nm:Wd x.nm
 parts:∀ p∈x.parts,Wd p.1/\1<=p.2/\p.2<=10
 plen:x.parts.length<=10
 rules:∀ d∈x.rules,RuleS C P O d
 len:x.rules.length<=10
 rest:∃ R w,x.rules=R++[.tup [.str Vr,.str w]]
def OrdOk.fzr(h:OrdOk C P O x):fzs x.rules=x.rules:=Jk λd hd=>(h.rules d hd).fz
def OrdOk.frzr(h:OrdOk C P O x):frzs x.rules=true:=yj λd hd=>(h.rules d hd).frz
def OrdOk.fz(h:OrdOk C P O x)(o:Bool):QD.fz (vk o x)=vk false x:=by
 simp[vk,h.fzr,Ji]
def OrdOk.frz(h:OrdOk C P O x):QD.frz (vk false x)=true:=by
 simp[vk,h.frzr,yh]
def OrdOk.ok(h:OrdOk C P O x)(o:Bool)(n:Nat):okE (n+4) (vk o x)=true:=by
 show ve (n+3) [.str x.nm,.lst false<|x.parts.map e2,.lst o x.rules]=true;have a:okE (n+3) (.lst false<|x.parts.map e2)=true:=jcQ (λp c=>(h.parts p c).1)<|n+1;have b:okE (n+3) (.lst o x.rules)=true:=vE λd hd=>(h.rules d hd).ok n;simp[ve,yg h.nm.2,a,b]
def jfe{ns:List Int}{k:Int}{nm:List Nat}{C P O:W1}(h0:0<=k)(h1:k<=90000)(J:0<C.length)(m:C.length<=10)(n:P.length<=10)(q:O.length<=10)(K:Wd nm)(r:∀ w∈C,Wd w)(L:∀ w∈P,Wd w)(M:∀ w∈O,Wd w)(N:C.Nodup):
  ∃(x:OrdS),An3 (kz [.lst false<|ns.map D.int,.int k,.str nm,.lst false<|C.map D.str,.lst false<|P.map D.str,.lst false<|O.map D.str]=some (vk true x)) (x.nm=nm) (OrdOk C P O x):=by
 obtain⟨Q,T,e,⟨g,h,rfl⟩,s,R⟩:=kf (G:=gT 2<|gC (jc [] 7)<|gC (jc [] 8) gN) (f:=vt) (λ(a:List W2) ρ=>∃ g h,ρ=[‹ns.map D.int›,some<|.int k,some<|.str nm,‹C.map D.str›,‹P.map D.str›,‹O.map D.str›,↑(a.map e2),g,h,none,none]) (λp=>Wd p.1/\1<=p.2/\p.2<=10) 1 100 (xs:=jL 0<|C.map D.str) (acc:=[]) (ρ:=[‹ns.map D.int›,some<|.int k,some<|.str nm,‹C.map D.str›,‹P.map D.str›,‹O.map D.str›,some<|.lst true [],none,none,none,none]) (by
  rintro x t a ρ S _ ⟨g,h,rfl⟩;obtain⟨i,c,rfl,V,W,X⟩:=Qc t;have A:=jv (ns:=ns) (k:=k+(i:Int)) (many:=4) ∅ ∅ (by decide);have u:=jv (ns:=ns) (k:=k+5+(i:Int)) (many:=10) ∅ ∅ (by decide);by_cases B:drw ns (k+(i:Int)) 4=0
  ·refine⟨_,_,[(c,1+drw ns (k+5+(i:Int)) 10)],rfl,?_,by simp,by simpa using⟨r c X,by have:=j7 ns (k+5+(i:Int)) (many:=10) (by decide);lia,by have:=yb ns (k+5+(i:Int)) (many:=10) (by decide);lia⟩,some<|.int i,some<|.str c,rfl⟩;simp(disch:=first | lia | (simp;done) | (simp;lia)) [vt,A,u,B,jb,e2]
  ·refine⟨_,_,[],rfl,?_,by simp,by simp,some<|.int i,some<|.str c,rfl⟩;simp(disch:=first | lia | (simp;done) | (simp;lia)) [vt,A,B,jb]) (by rw[yH,L1];simp;lia) (by simp) ⟨none,none,rfl⟩
 rw[X4] at e;have Y:=jv (ns:=ns) (k:=k+8) (many:=6) ∅ ∅ (by decide);have n1:=j7 ns (k+8) (many:=6) (by decide);have n2:=yb ns (k+8) (many:=6) (by decide);obtain⟨Q,U,E,⟨v,rfl⟩,y,F⟩:=kf (G:=jc [] 7) (f:=ko) (λ(a:List D) ρ=>∃ v,ρ=[‹ns.map D.int›,some<|.int k,some<|.str nm,‹C.map D.str›,‹P.map D.str›,‹O.map D.str›,↑(T.map e2),v,h,↑a,none]) (RuleS C P O) 1 100 (xs:=Vs 0 (drw ns (k+8) 6).toNat) (acc:=[]) (ρ:=[‹ns.map D.int›,some<|.int k,some<|.str nm,‹C.map D.str›,‹P.map D.str›,‹O.map D.str›,↑(T.map e2),g,h,some<|.lst true [],none]) (by
  rintro x t a ρ S _ ⟨v,rfl⟩;obtain⟨i,hi,rfl⟩:=M5.mp t;have hi:=List.mem_range.mp hi;obtain⟨d,Z,hd⟩:=jgJ (ns:=ns) (k:=k+10+5*(0+(i:Int))) (C:=C) (P:=P) (O:=O) ∅ ∅ J m n q r L M N;refine⟨_,_,[d],rfl,?_,by simp,by simpa using hd,some<|.int<|0+(i:Int),rfl⟩;simp(disch:=first | lia | (simp;done) | (simp;lia)) [ko,Z,vm,xz hd,jb,-Int.zero_add]) (by rw[yQ];simp;lia) (by simp) ⟨g,rfl⟩
 rw[X4] at E;rw[yQ] at y;have z:=qu (j:=drw ns (k+8) 6) ∅ ∅;have u:=jv (ns:=ns) (k:=k+9) (many:=(C.length:Int)) ∅ ∅ ∅;have b1:=j7 ns (k+9) (many:=(C.length:Int)) ∅;have b2:=yb ns (k+9) (many:=(C.length:Int)) ∅;have H:=ki (o:=false) (l:=C) b1 b2;have b:=yo (l:=C) (i:=(drw ns (k+9) (C.length:Int)).toNat) (d:=[]) ∅;have I:Wd (C.getD (drw ns (k+9) (C.length:Int)).toNat []):=r _ b;generalize C.getD (drw ns (k+9) (C.length:Int)).toNat []=w at H I b;have hf:frzs U=true:=yj λd hd=>(F d hd).frz;have ad:jg (.lst true U) (.lst true [.tup [.str [114,101,115,116],.str w]])=↑(U++[.tup [.str [114,101,115,116],.str w]]):=by
  show(bif lim (U.length+1)&&(frzs U&&frzs [.tup [.str [114,101,115,116],.str w]]) then _ else _)=_;rw[jb ∅,hf];rfl
 refine⟨⟨nm,T,U++[.tup [.str [114,101,115,116],.str w]]⟩,?_,rfl,⟨K,R,by rw[yH,L1] at s;show T.length<=10;lia,?_,by simp;lia,U,w,rfl⟩⟩
 ·simp(disch:=first | lia | (simp;done) | (simp;lia)) [kz,jK,Y7,e,Y,z,E,u,H,ad,jb,vk,Ji,yh]
 ·intro d hd;rcases N1.mp hd with hd | hd
  ·exact F d hd
  ·rw[M7.mp hd];exact .two _ _ (by decide) (qk rfl<|by decide) I<|.inl ⟨.inr<|.inr rfl,b⟩
section
variable {C P O:W1}
def jha{a0 a1 o3 o4 o5:Option D}:∀{R:List D}{acc:W1}{o6:Option D},(∀ d∈R,RuleS C P O d)->acc.length+20*R.length<=5000 ->
  ∃(T:W1) (o6':Option D),jG (jc [] 6) yc R [a0,a1,↑(acc.map D.str),o3,o4,o5,o6]=some (.nx [a0,a1,↑((acc++T).map D.str),o3,o4,o5,o6'])/\T.length<=20*R.length:=by
 intro R acc o6 n k;obtain⟨y,T,e,⟨o6',rfl⟩,p,_⟩:=kf (G:=jc [] 6) (f:=yc) (λ(acc:W1) ρ=>∃ o6,ρ=[a0,a1,↑(acc.map D.str),o3,o4,o5,o6]) (λ_=>True) 20 5000 (xs:=R) (acc:=acc) (ρ:=[a0,a1,↑(acc.map D.str),o3,o4,o5,o6]) (by
  rintro x r acc ρ z _ ⟨o6,rfl⟩;have s:=n x r;cases s with
  | two kw w t A B m=>
   have g:(kw==yY)=false:=U1.mpr t;have c:jd (.tup [.str kw,.str w]) (.int 0)=some (.str kw):=rfl;have j:jd (.tup [.str kw,.str w]) (.int 1)=some (.str w):=rfl;by_cases q:kw=k8
   ·subst q;refine⟨_,_,[w],rfl,?_,by simp,by simp,some<|.tup [.str k8,.str w],rfl⟩;simp(disch:=first | lia | (simp;done) | (simp;lia)) [yc,c,j,g,jb]
   ·have l:(kw==k8)=false:=U1.mpr q;refine⟨_,_,[],rfl,?_,by simp,by simp,some<|.tup [.str kw,.str w],rfl⟩;simp(disch:=first | lia | (simp;done) | (simp;lia)) [yc,c,j,g,l,jb]
  | share ws k h m nd=>
   have c:jd (.tup [.str yY,.tup<|ws.map D.str]) (.int 0)=some (.str yY):=rfl;have j:jd (.tup [.str yY,.tup<|ws.map D.str]) (.int 1)=some (.tup<|ws.map D.str):=rfl;have u:Vd [.tup<|ws.map D.str]=↑(ws.map D.str):=by
    show(bif frzs (ws.map D.str) then _ else _)=_;rw[v7];rfl
   have v:=uh (o:=true) (o':=true) (a:=acc) (b:=ws) ∅;have l:(yY==k8)=false:=by decide
   refine⟨_,_,ws,rfl,?_,k,by simp,some<|.tup [.str yY,.tup<|ws.map D.str],rfl⟩;simp(disch:=first | lia | (simp;done) | (simp;lia)) [yc,c,j,u,v,l,jb,-List.map_append]
  | lend w i h m=>
   have c:jd (.tup [.str [108,101,110,100],.str w,.int i]) (.int 0)=some (.str [108,101,110,100]):=rfl;refine⟨_,_,[],rfl,?_,by simp,by simp,some<|.tup [.str [108,101,110,100],.str w,.int i],rfl⟩;simp(disch:=first | lia | (simp;done) | (simp;lia)) [yc,c,jb]) k (by simp) ⟨o6,rfl⟩
 exact⟨T,o6',e,p⟩
def Ym{os:List OrdS}(h:∀ x∈os,OrdOk C P O x)(o:Bool):fzs (os.map<|vk o)=os.map (vk false):=by
 rw[vT,U0];exact List.map_congr_left λx a=>(h x a).fz o
def v9{os:List OrdS}(h:∀ x∈os,OrdOk C P O x):frzs (os.map<|vk false)=true:=yj λd hd=>by
 obtain⟨x,a,rfl⟩:=M5.mp hd;exact(h x a).frz
def jjg{os:List OrdS}(j:∀ x∈os,OrdOk C P O x)(u:os.length<=10)(q:C.length<=10):∃(F:W1),An3 (qw [.lst false<|os.map<|vk false,.lst false<|C.map D.str]=↑(F.map D.str)) (∀ w∈F,w∈C) (F.length<=10):=by
 obtain⟨v,T,e,⟨d,g,h,b,rfl⟩,z,_⟩:=kf (G:=gT 3<|gC (jc [] 3)<|gC (jc [] 4)<|gC (jc [] 5) gN) (f:=vG) (λ(a:W1) ρ=>∃ d g h b,ρ=[‹os.map (vk false)›,‹C.map D.str›,↑(a.map D.str),d,g,h,b]) (λ_=>True) 200 4000 (xs:=os.map<|vk false) (acc:=[]) (ρ:=[‹os.map (vk false)›,‹C.map D.str›,some<|.lst true [],none,none,none,none]) (by
  rintro x m a ρ A _ ⟨d,g,h,b,rfl⟩;obtain⟨y,r,rfl⟩:=M5.mp m;have i:=j y r;have n:=i.len;obtain⟨U,k,s,B⟩:=jha (a0:=‹os.map (vk false)›) (a1:=‹C.map D.str›) (o3:=some<|.str y.nm) (o4:=‹y.parts.map e2›) (o5:=‹y.rules›) (R:=y.rules) (acc:=a) (o6:=b) i.rules ∅;refine⟨_,_,U,rfl,?_,by lia,by simp,some<|.str y.nm,‹y.parts.map e2›,‹y.rules›,k,rfl⟩;show vG [‹os.map (vk false)›,‹C.map D.str›,↑(a.map D.str),some<|.str y.nm,‹y.parts.map e2›,‹y.rules›,b]=_;simp only[vG,qF,pIt,pF,pVs,pV0,L4,jhl,i.frzr,Bool.not_false,Bool.and_self,cond_true,zK,i.fzr,s]) (by rw[L1];simp;lia) (by simp) ⟨none,none,none,none,rfl⟩
 rw[X4] at e;have p:jV (jc [] 0) (jn<|p2 (xc true) (pV 0)<|pV 1) (pF<|pV 0) (C.map D.str) (jx [none,some 2] [‹os.map (vk false)›,‹C.map D.str›,↑(T.map D.str),d,g,h,b])=some ((C.filter λc=>(true != decide (c∈T))).map D.str):=by
  refine VM (λρ=>∃ o,ρ=[o,↑(T.map D.str)]) ?_ ⟨none,rfl⟩;rintro x m ρ ⟨o,rfl⟩;refine⟨[some<|.str x,↑(T.map D.str)],rfl,?_,by simp,some<|.str x,rfl⟩;have:=KC true true x T;simp only[jn,p2,pV0,pVs,L4,this,jck]
 refine⟨C.filter λc=>(true != decide (c∈T)),?_,λw t=>(List.mem_filter.mp t).1,N6 (List.length_filter_le _ _) q⟩;have l:lim C.length=true:=jb ∅;generalize(C.filter λc=>(true != decide (c∈T)))=F at p;simp(disch:=first | lia | (simp;done) | (simp;lia)) [qw,jK,VL,v9 j,Ym j,e,jb,p,l,-jn]
end
noncomputable abbrev W3:=List Nat×Int×Int
noncomputable def e3(p:W3):D:=.tup [.str p.1,.int p.2.1,.int p.2.2]
noncomputable abbrev WL:=List Nat×Int×List Nat
noncomputable def eL(p:WL):D:=.tup [.str p.1,.int p.2.1,.str p.2.2]
noncomputable abbrev WG:=List Nat×List Nat
noncomputable def eG(p:WG):D:=.tup [.str p.1,.str p.2]
def jdp(l:List W3):fzs (l.map e3)=l.map e3:=Jk λd hd=>by obtain⟨p,_,rfl⟩:=M5.mp hd;rfl
def Ve(l:List W3):frzs (l.map e3)=true:=yj λd hd=>by obtain⟨p,_,rfl⟩:=M5.mp hd;rfl
def w8(l:List WL):fzs (l.map eL)=l.map eL:=Jk λd hd=>by obtain⟨p,_,rfl⟩:=M5.mp hd;rfl
def YR(l:List WL):frzs (l.map eL)=true:=yj λd hd=>by obtain⟨p,_,rfl⟩:=M5.mp hd;rfl
def jcf(l:List WG):fzs (l.map eG)=l.map eG:=Jk λd hd=>by obtain⟨p,_,rfl⟩:=M5.mp hd;rfl
def Kw(l:List WG):frzs (l.map eG)=true:=yj λd hd=>by obtain⟨p,_,rfl⟩:=M5.mp hd;rfl
def jg5{l:List W3}(h:∀ p∈l,Wd p.1)(n:Nat):ve (n+1) (l.map e3)=true:=vE λd hd=>by
 obtain⟨p,a,rfl⟩:=M5.mp hd;show ve n [.str p.1,.int p.2.1,.int p.2.2]=true;simp[ve,yg (h p a).2]
def jhc{l:List WL}(h:∀ p∈l,Wd p.1/\Wd p.2.2)(n:Nat):ve (n+1) (l.map eL)=true:=vE λd hd=>by
 obtain⟨p,a,rfl⟩:=M5.mp hd;show ve n [.str p.1,.int p.2.1,.str p.2.2]=true;simp[ve,yg (h p a).1.2,yg (h p a).2.2]
def jie{l:List WG}(h:∀ p∈l,Wd p.1/\Wd p.2)(n:Nat):ve (n+1) (l.map eG)=true:=vE λd hd=>by
 obtain⟨p,a,rfl⟩:=M5.mp hd;show ve n [.str p.1,.str p.2]=true;simp[ve,yg (h p a).1.2,yg (h p a).2.2]
structure PoolS where
 nm:List Nat
 told:List W3
 marks:List W2
 eats:List (List Nat)
 orders:List OrdS
 looks:List WL
 guards:List WG
def jq(o:Bool)(p:PoolS):D:=.tup [.str p.nm,.lst false<|p.told.map e3,.lst false<|p.marks.map e2,.lst o<|p.eats.map D.str,.lst false<|p.orders.map<|vk false,.lst false<|p.looks.map eL,.lst false<|p.guards.map eG]
structure PoolOk(O:W1)(p:PoolS):Prop where
 nm:Wd p.nm
 told:∀ c∈p.told,Wd c.1/\1<=c.2.1/\c.2.1<=10 ^ 12/\1<=c.2.2/\c.2.2<=10 ^ 12
 toldn:(p.told.map (·.1)).Nodup
 told1:0<p.told.length
 told2:p.told.length<=10
 marks:∀ c∈p.marks,Wd c.1/\1<=c.2/\c.2<=10 ^ 12
 marksn:(p.marks.map (·.1)).Nodup
 marks2:p.marks.length<=10
 eats:∀ w∈p.eats,Wd w
 eatsm:∀ w∈p.eats,w∈p.told.map (·.1)
 eatsn:p.eats.Nodup
 eats2:p.eats.length<=10
 orders:∀ x∈p.orders,OrdOk (p.told.map (·.1)) (p.marks.map (·.1)) O x
 ordn:(p.orders.map (·.nm)).Nodup
 orders1:0<p.orders.length
 orders2:p.orders.length<=10
 looks:∀ x∈p.looks,x.1∈p.told.map (·.1)/\Wd x.1/\Wd x.2.2
 looksm:∀ x∈p.looks,x.2.2∈p.orders.map (·.nm)
 looks2:p.looks.length<=10
 guards:∀ x∈p.guards,Wd x.1/\Wd x.2/\x.1∈p.marks.map (·.1)/\x.2∈p.told.map (·.1)
 guards2:p.guards.length<=10
section
variable {O:W1}
def PoolOk.fz{p:PoolS}(h:PoolOk O p)(o:Bool):QD.fz (jq o p)=jq false p:=by
 simp[jq,jdp,Ji,Ym h.orders,w8,jcf]
def PoolOk.frz{p:PoolS}(h:PoolOk O p):QD.frz (jq false p)=true:=by
 simp[jq,Ve,yh,v9 h.orders,YR,Kw]
def PoolOk.ok{p:PoolS}(h:PoolOk O p)(o:Bool)(n:Nat):okE (n+6) (jq o p)=true:=by
 show ve (n+5) [.str p.nm,.lst false<|p.told.map e3,.lst false<|p.marks.map e2,.lst o<|p.eats.map D.str,.lst false<|p.orders.map<|vk false,.lst false<|p.looks.map eL,.lst false<|p.guards.map eG]=true;have a:okE (n+5) (.lst false<|p.told.map e3)=true:=jg5 (λq g=>(h.told q g).1)<|n+3;have b:okE (n+5) (.lst false<|p.marks.map e2)=true:=jcQ (λq g=>(h.marks q g).1)<|n+3;have c:okE (n+5) (.lst o<|p.eats.map D.str)=true:=Qj h.eats;have d:okE (n+5) (.lst false<|p.orders.map<|vk false)=true:=vE λd hd=>by
  obtain⟨x,i,rfl⟩:=M5.mp hd;exact(h.orders x i).ok false n
 have e:okE (n+5) (.lst false<|p.looks.map eL)=true:=jhc (λq g=>(h.looks q g).2)<|n+3;have f:okE (n+5) (.lst false<|p.guards.map eG)=true:=jie (λq g=>⟨(h.guards q g).1,(h.guards q g).2.1⟩)<|n+3;simp[ve,yg h.nm.2,a,b,c,d,e,f]
end
section pool
variable {ns:List Int}{k:Int}{nm:List Nat}{C P O:W1}
noncomputable abbrev hdr(ns:List Int)(k:Int)(nm:List Nat)(C P O:W1)(r:Rh):Rh:=‹ns.map D.int›::some (.int k)::some (.str nm)::‹C.map D.str›::‹P.map D.str›::‹O.map D.str›::r
def jc7(m:0<=k)(h1:k<=1000)(b:C.length<=10)(d:∀ w∈C,Wd w):Ex3 λ(T:List W3) (o7 o8:Option D)=>An3 (jG (gT 2<|gC (jc [] 7)<|gC (jc [] 8) gN) vJ (jL 0<|C.map D.str) (hdr ns k nm C P O [some<|.lst true [],none,none,none,none,none,none,none,none,none,none])=some (.nx<|hdr ns k nm C P O [↑(T.map e3),o7,o8,none,none,none,none,none,none,none,none])) (T.map (·.1)=C) (∀ c∈T,Wd c.1/\1<=c.2.1/\c.2.1<=10 ^ 12/\1<=c.2.2/\c.2.2<=10 ^ 12):=by
 obtain⟨n,T,e,⟨o7,o8,rfl⟩,g,h⟩:=wI (G:=gT 2<|gC (jc [] 7)<|gC (jc [] 8) gN) (f:=vJ) (λ(a:List W3) ρ=>∃ o7 o8,ρ=hdr ns k nm C P O [↑(a.map e3),o7,o8,none,none,none,none,none,none,none,none]) (λc=>Wd c.1/\1<=c.2.1/\c.2.1<=10 ^ 12/\1<=c.2.2/\c.2.2<=10 ^ 12) (·.1) 20 (C:=C) (s:=0) (acc:=[]) (ρ:=hdr ns k nm C P O [some<|.lst true [],none,none,none,none,none,none,none,none,none,none]) (by
  rintro i c a ρ hi j o ⟨o7,o8,rfl⟩;have c1:=JF (ns:=ns) (k:=k+20+(i:Int)) ∅ ∅;have l:=JF (ns:=ns) (k:=k+24+(i:Int)) ∅ ∅;refine⟨_,_,(c,coi ns<|k+20+(i:Int),coi ns<|k+24+(i:Int)),rfl,?_,rfl,⟨d c j,Ky _ _,xY _ _,Ky _ _,xY _ _⟩,some<|.int i,some<|.str c,rfl⟩;simp(disch:=first | lia | (simp;done) | (simp;lia)) [vJ,c1,l,jb,e3]) ∅ (by simp;lia) ⟨none,none,rfl⟩
 exact⟨T,o7,o8,e,g,h⟩
def jbf{a6 o7 o8:Option D}{N:W1}(v:0<=k)(h1:k<=1000)(j:0<C.length)(b:C.length<=10)(d:P.length<=10)(g:O.length<=10)(l:∀ w∈C,Wd w)(m:∀ w∈P,Wd w)(n:∀ w∈O,Wd w)(y:N.length<=10)(o:∀ w∈N,Wd w)(p:C.Nodup):
  Ex3 λ(T:List OrdS) (o7' o11:Option D)=>An3 (jG (gT 2<|gC (jc [] 7)<|gC (jc [] 11) gN) vI (jL 0<|N.map D.str) (hdr ns k nm C P O [a6,o7,o8,‹N.map D.str›,some<|.lst true [],none,none,none,none,none,none])=some (.nx<|hdr ns k nm C P O [a6,o7',o8,‹N.map D.str›,↑(T.map<|vk true),o11,none,none,none,none,none])) (T.map (·.nm)=N) (∀ c∈T,OrdOk C P O c):=by
 obtain⟨z,T,e,⟨o7,o8,rfl⟩,q,r⟩:=wI (G:=gT 2<|gC (jc [] 7)<|gC (jc [] 11) gN) (f:=vI) (λ(a:List OrdS) ρ=>∃ o7 o11,ρ=hdr ns k nm C P O [a6,o7,o8,‹N.map D.str›,↑(a.map<|vk true),o11,none,none,none,none,none]) (OrdOk C P O) (·.nm) 20 (C:=N) (s:=0) (acc:=[]) (ρ:=hdr ns k nm C P O [a6,o7,o8,‹N.map D.str›,some<|.lst true [],none,none,none,none,none,none]) (by
  rintro i c a ρ hi t A ⟨o7,o11,rfl⟩;obtain⟨x,ex,u,h⟩:=jfe (ns:=ns) (k:=k+60*(i:Int)+30) (nm:=c) (C:=C) (P:=P) (O:=O) ∅ ∅ j b d g (o c t) l m n p;refine⟨_,_,x,rfl,?_,u,h,some<|.int i,some<|.str c,rfl⟩;simp(disch:=first | lia | (simp;done) | (simp;lia)) [vI,ex,vm,jb]) ∅ (by simp;lia) ⟨o7,none,rfl⟩
 exact⟨T,o7,o8,e,q,r⟩
def uL{a6 o7 o8 a10 o11:Option D}{N:W1}(F:0<=k)(h1:k<=1000)(H:0<C.length)(j:C.length<=10)(m:∀ w∈C,Wd w)(I:0<N.length)(n:N.length<=10)(p:∀ w∈N,Wd w):
  Ex4 λ(T:List WL) (o7' o8' o13:Option D)=>An3 (jG (jc [] 7) vH (Vs 0 (drw ns (k+2) 3).toNat) (hdr ns k nm C P O [a6,o7,o8,‹N.map D.str›,a10,o11,some<|.lst true [],none,none,none,none])=some (.nx<|hdr ns k nm C P O [a6,o7',o8',‹N.map D.str›,a10,o11,↑(T.map eL),o13,none,none,none])) (∀ x∈T,x.1∈C/\Wd x.1/\Wd x.2.2/\x.2.2∈N) (T.length<=10):=by
 have J:=j7 ns (k+2) (many:=3) (by decide);have K:=yb ns (k+2) (many:=3) (by decide);obtain⟨L,T,e,⟨o7,o8,o13,rfl⟩,q,r⟩:=kf (G:=jc [] 7) (f:=vH) (λ(a:List WL) ρ=>∃ o7 o8 o13,ρ=hdr ns k nm C P O [a6,o7,o8,‹N.map D.str›,a10,o11,↑(a.map eL),o13,none,none,none]) (λx=>x.1∈C/\Wd x.1/\Wd x.2.2/\x.2.2∈N) 1 20 (xs:=Vs 0 (drw ns (k+2) 3).toNat) (acc:=[]) (ρ:=hdr ns k nm C P O [a6,o7,o8,‹N.map D.str›,a10,o11,some<|.lst true [],none,none,none,none]) (by
  rintro x s a ρ M _ ⟨o7,o8,o13,rfl⟩;obtain⟨i,hi,rfl⟩:=M5.mp s;have hi:=List.mem_range.mp hi;have t:=jv (ns:=ns) (k:=k+3+(0+(i:Int))) (many:=(C.length:Int)) ∅ ∅ ∅;have u:=j7 ns (k+3+(0+(i:Int))) (many:=(C.length:Int)) ∅;have y:=yb ns (k+3+(0+(i:Int))) (many:=(C.length:Int)) ∅;have g:=ki (o:=false) (l:=C) u y;have b:=yo (l:=C) (i:=(drw ns (k+3+(0+(i:Int))) (C.length:Int)).toNat) (d:=[]) ∅;generalize C.getD (drw ns (k+3+(0+(i:Int))) (C.length:Int)).toNat []=w at g b;have z:=jv (ns:=ns) (k:=k+5+(0+(i:Int))) (many:=(N.length:Int)) ∅ ∅ ∅;have A:=j7 ns (k+5+(0+(i:Int))) (many:=(N.length:Int)) ∅;have B:=yb ns (k+5+(0+(i:Int))) (many:=(N.length:Int)) ∅;have h:=ki (o:=false) (l:=N) A B;have c:=yo (l:=N) (i:=(drw ns (k+5+(0+(i:Int))) (N.length:Int)).toNat) (d:=[]) ∅;generalize N.getD (drw ns (k+5+(0+(i:Int))) (N.length:Int)).toNat []=v at h c;have E:=jv (ns:=ns) (k:=k+7+(0+(i:Int))) (many:=3) ∅ ∅ (by decide);refine⟨_,_,[(w,1+drw ns (k+7+(0+(i:Int))) 3,v)],rfl,?_,by simp,by simpa using⟨b,m w b,p v c,c⟩,some<|.int<|0+(i:Int),some<|.str w,some<|.str v,rfl⟩;simp(disch:=first | lia | (simp;done) | (simp;lia)) [vH,t,z,E,g,h,jb,eL,-Int.zero_add]) (by rw[yQ];simp;lia) (by simp) ⟨o7,o8,none,rfl⟩
 rw[yQ] at q;exact⟨T,o7,o8,o13,e,r,by lia⟩
def zC{a6 o7 o8 a9 a10 o11 a12 o13 a14:Option D}{F:W1}(A:0<=k)(h1:k<=1000)(m:P.length<=10)(n:∀ w∈P,Wd w)(B:F.length<=10)(p:∀ w∈F,Wd w):
  Ex3 λ(T:List WG) (o7' o8':Option D)=>An3 (jG (gT 2<|gC (jc [] 7)<|gC (jc [] 8) gN) yX (jL 0<|F.map D.str) (hdr ns k nm C P O [a6,o7,o8,a9,a10,o11,a12,o13,a14,some<|.lst true [],none])=some (.nx<|hdr ns k nm C P O [a6,o7',o8',a9,a10,o11,a12,o13,a14,↑(T.map eG),none])) (∀ x∈T,(Wd x.1/\Wd x.2)/\x.1∈P/\x.2∈F) (T.length<=10):=by
 obtain⟨E,T,e,⟨o7,o8,rfl⟩,q,r⟩:=kf (G:=gT 2<|gC (jc [] 7)<|gC (jc [] 8) gN) (f:=yX) (λ(a:List WG) ρ=>∃ o7 o8,ρ=hdr ns k nm C P O [a6,o7,o8,a9,a10,o11,a12,o13,a14,↑(a.map eG),none]) (λx=>(Wd x.1/\Wd x.2)/\x.1∈P/\x.2∈F) 1 20 (xs:=jL 0<|F.map D.str) (acc:=[]) (ρ:=hdr ns k nm C P O [a6,o7,o8,a9,a10,o11,a12,o13,a14,some<|.lst true [],none]) (by
  rintro x s a ρ H _ ⟨o7,o8,rfl⟩;obtain⟨i,c,rfl,t,u,g⟩:=Qc s;by_cases h:0<P.length
  ·have v:=jv (ns:=ns) (k:=k+11+(i:Int)) (many:=(P.length:Int)) ∅ ∅ ∅;have y:=j7 ns (k+11+(i:Int)) (many:=(P.length:Int)) ∅;have z:=yb ns (k+11+(i:Int)) (many:=(P.length:Int)) ∅;have j:=ki (o:=false) (l:=P) y z;have b:=yo (l:=P) (i:=(drw ns (k+11+(i:Int)) (P.length:Int)).toNat) (d:=[]) ∅;generalize P.getD (drw ns (k+11+(i:Int)) (P.length:Int)).toNat []=w at j b;refine⟨_,_,[(w,c)],rfl,?_,by simp,by simpa using⟨⟨n w b,p c g⟩,b,g⟩,some<|.int i,some<|.str c,rfl⟩;simp(disch:=first | lia | (simp;done) | (simp;lia)) [yX,v,j,h,jb,eG]
  ·refine⟨_,_,[],rfl,?_,by simp,by simp,some<|.int i,some<|.str c,rfl⟩;simp(disch:=first | lia | (simp;done) | (simp;lia)) [yX,h,jb]) (by rw[yH,L1];simp;lia) (by simp) ⟨o7,o8,rfl⟩
 rw[yH,L1] at q;exact⟨T,o7,o8,e,r,by lia⟩
theorem wo(b:0<=k)(h1:k<=1000):∀{Q:W1}{s:Nat}{o o':Option D},(∀ w∈Q,Wd w)->s+Q.length<=20 ->
  ∃(M:List W2),An3 (jV (gT 2<|gC (jc [] 0)<|gC (jc [] 1) gN) qT (yk #[pF<|pV 1,jl jy #[pV 2,p2 jg (p2 jg (pV 3)<|pI 16)<|pV 0]]) (jL s<|Q.map D.str) [o,o',‹ns.map D.int›,some<|.int k]=some (M.map e2)) (M.map (·.1)=Q)<|∀ c∈M,Wd c.1/\1<=c.2/\c.2<=10 ^ 12
 | [],s,o,o',_,_=>⟨[],rfl,rfl,by simp⟩
 | c::Q,s,o,o',a,f=>by
  rw[M1] at f;obtain⟨M,e,g,i⟩:=wo b h1 (Q:=Q) (s:=s+1) (o:=some<|.int s) (o':=some<|.str c) (λw h=>a w<|by simp[h]) ∅;have c1:=JF (ns:=ns) (k:=k+16+(s:Int)) ∅ ∅;have j:(yk #[pF<|pV 1,jl jy #[pV 2,p2 jg (p2 jg (pV 3)<|pI 16)<|pV 0]]) [some<|.int s,some<|.str c,‹ns.map D.int›,some<|.int k]=some (e2 (c,coi ns<|k+16+(s:Int))):=by
   simp(disch:=first | lia | (simp;done) | (simp;lia)) [c1,jb,e2]
  refine⟨(c,coi ns<|k+16+(s:Int))::M,?_,by rw[L5,g],λd hd=>(M4.mp hd).elim (λz=>z▸⟨a c<|by simp,Ky _ _,xY _ _⟩) (i d)⟩;rw[L5,jL,cpE ?_ j,e];rfl;rfl
def jao{r:Rh}(a:0<=k)(h1:k<=1000)(b:P.length<=10)(d:∀ w∈P,Wd w):
  ∃(M:List W2),An3 (jV (gT 2<|gC (jc [] 0)<|gC (jc [] 1) gN) qT (yk #[pF<|pV 1,jl jy #[pV 2,p2 jg (p2 jg (pV 3)<|pI 16)<|pV 0]]) (jL 0<|P.map D.str) (jx [none,none,some 0,some 1]<|hdr ns k nm C P O r)=some (M.map e2)) (M.map (·.1)=P) (∀ c∈M,Wd c.1/\1<=c.2/\c.2<=10 ^ 12):=
 wo (ns:=ns) (k:=k) a h1 (Q:=P) (s:=0) (o:=none) (o':=none) d ∅
def jhg(i:0<=k)(h1:k<=1000)(K:0<C.length)(a:C.length<=10)(d:P.length<=10)(y:O.length<=10)(Z:Wd nm)(l:∀ w∈C,Wd w)(z:∀ w∈P,Wd w)(wO:∀ w∈O,Wd w)(A:C.Nodup)(nP:P.Nodup):
  ∃(p:PoolS),An4 (qm [.lst false<|ns.map D.int,.int k,.str nm,.lst false<|C.map D.str,.lst false<|P.map D.str,.lst false<|O.map D.str]=some (jq true p)) (PoolOk O p) (p.nm=nm) (p.marks.map (·.1)=P):=by
 obtain⟨T,t,m,eT,e,kT⟩:=jc7 (ns:=ns) (nm:=nm) (P:=P) (O:=O) i h1 a l;have d1:=jv (ns:=ns) (k:=k+1) (many:=3) ∅ ∅ (by decide);have b1:=j7 ns (k+1) (many:=3) (by decide);have b2:=yb ns (k+1) (many:=3) (by decide);have Q:jh2 none (some<|1+drw ns (k+1) 3) (.lst true [.str [98,98],.str [99,107],.str [100,100]])=↑((yd [[98,98],[99,107],[100,100]] none<|some<|1+drw ns (k+1) 3).map D.str):=kr true [[98,98],[99,107],[100,100]] none _;have R:0<(yd [[98,98],[99,107],[100,100]] none<|some<|1+drw ns (k+1) 3).length:=by
  rw[Jj _ ∅,X6];simp only[M1,List.length_nil];lia
 have f:(yd [[98,98],[99,107],[100,100]] none<|some<|1+drw ns (k+1) 3).length<=10:=N6 (yR _ _ _) (by decide);have B:∀ w∈yd [[98,98],[99,107],[100,100]] none (some<|1+drw ns (k+1) 3),Wd w:=by
  intro w g;have:=jZ g;simp only[M4,List.not_mem_nil,or_false] at this;rcases this with rfl | rfl | rfl<;>exact qk rfl (by decide)
 have U:(yd [[98,98],[99,107],[100,100]] none<|some<|1+drw ns (k+1) 3).Nodup:=kc (by decide);generalize yd [[98,98],[99,107],[100,100]] none (some<|1+drw ns (k+1) 3)=N at Q R f B U;obtain⟨os,E,b,V,H,u⟩:=jbf (ns:=ns) (nm:=nm) (a6:=↑(T.map e3)) (o7:=t) (o8:=m) (N:=N) i h1 K a d y l z wO f B A;have lO:os.length=N.length:=by rw[<- H,L1]
 have d2:=jv (ns:=ns) (k:=k+2) (many:=3) ∅ ∅ (by decide);have c1:=j7 ns (k+2) (many:=3) (by decide);have c2:=yb ns (k+2) (many:=3) (by decide);have I:=qu (j:=drw ns (k+2) 3) ∅ ∅;obtain⟨L,p7,p8,h,n,kL,lL⟩:=uL (ns:=ns) (nm:=nm) (P:=P) (O:=O) (a6:=↑(T.map e3)) (o7:=E) (o8:=m) (a10:=↑(os.map<|vk true)) (o11:=b) (N:=N) i h1 K a l R f B;obtain⟨F,eF,W,lF⟩:=jjg (os:=os) (C:=C) u ∅ a;have d3:=jv (ns:=ns) (k:=k+10) (many:=4) ∅ ∅ (by decide);have sF:=kr true F none<|some<|drw ns (k+10) 4;obtain⟨G,q7,q8,o,v,lG⟩:=zC (ns:=ns) (nm:=nm) (C:=C) (P:=P) (O:=O) (a6:=↑(T.map e3)) (o7:=p7) (o8:=p8) (a9:=‹N.map D.str›) (a10:=↑(os.map<|vk true)) (o11:=b) (a12:=↑(L.map eL)) (o13:=h) (a14:=↑(F.map D.str)) (F:=yd F none<|some<|drw ns (k+10) 4) i h1 d z (N6 (yR _ _ _) lF)<|λw g=>l w<|W w<|jZ g;obtain⟨M,eM,q,kM⟩:=jao (ns:=ns) (k:=k) (nm:=nm) (C:=C) (P:=P) (O:=O) (r:=[↑(T.map e3),q7,q8,‹N.map D.str›,↑(os.map<|vk true),b,↑(L.map eL),h,↑(F.map D.str),↑(G.map eG),none]) i h1 d z;obtain⟨S,X,Y,nS,lS⟩:=jhw (ns:=ns) (k:=k+13) (C:=C) ∅ ∅ a A;have lT:T.length=C.length:=by rw[<- e,L1]
 have fO:=Ym u true;have s:=v9 u;have J:lim (jL 0<|P.map D.str).length=true:=jb (by rw[yH,L1];lia);have lM:M.length=P.length:=by rw[<- q,L1]
 have hTC:T.map (·.1)=C:=e;refine⟨⟨nm,T,M,S,os,L,G⟩,?_,{nm:=Z,told:=kT,toldn:=?_,told1:=?_,told2:=?_,marks:=kM,marksn:=?_,marks2:=?_,eats:=λw g=>l w<|Y w g,eatsm:=?_,eatsn:=nS,eats2:=lS,orders:=?_,ordn:=?_,orders1:=?_,orders2:=?_,looks:=?_,looksm:=?_,looks2:=lL,guards:=?_,guards2:=lG},rfl,q⟩
 rotate_left
 ·show(T.map (·.1)).Nodup;rw[e];exact A
 ·show 0<T.length;lia
 ·show T.length<=10;lia
 ·show(M.map (·.1)).Nodup;rw[q];exact nP
 ·show M.length<=10;lia
 ·intro w g;show w∈T.map (·.1);rw[e];exact Y w g
 ·show ∀ x∈os,OrdOk (T.map (·.1)) (M.map (·.1)) O x;rw[e,q];exact u
 ·show(os.map (·.nm)).Nodup;rw[H];exact U
 ·show 0<os.length;lia
 ·show os.length<=10;lia
 ·intro x c;refine⟨?_,(kL x c).2.1,(kL x c).2.2.1⟩;show x.1∈T.map (·.1);rw[e];exact(kL x c).1
 ·intro x c;show x.2.2∈os.map (·.nm);rw[H];exact(kL x c).2.2.2
 ·intro x c;refine⟨(v x c).1.1,(v x c).1.2,?_,?_⟩
  ·show x.1∈M.map (·.1);rw[q];exact(v x c).2.1
  ·show x.2∈T.map (·.1);rw[e];exact W _<|jZ (v x c).2.2
 simp only[hdr] at eT V n o eM;simp(disch:=first | lia | (simp;done) | (simp;lia)) [qm,jK,VG,eT,d1,Q,V,d2,I,n,fO,s,eF,d3,sF,o,J,eM,X,jb,jq,jdp,Ve,Ji,yh,w8,YR,jcf,Kw,-yk];simp(disch:=first | lia | (simp;done) | (simp;lia)) [X,s,jb,Ve,yh,YR,Kw]
end pool
def jlM{l:List α}{i}(h:i<l.length):atI l (i:Int)=l[i]?:=by
 unfold atI ixN;simp
def QM(h:i<n):ixN n (i:Int)=some i:=by
 unfold ixN;rw[if_pos ∅,if_pos ∅];simp
noncomputable def low(c T n:Int):Int:=c*n/T
def Vj(c T:Int):List Int->Int->List Int×Int
 | [],left=>([],left)
 | n::ns,left=>if 0<left/\low c T n<n then((low c T n+1)::(Vj c T ns<|left-1).1,(Vj c T ns<|left-1).2) else(low c T n::(Vj c T ns left).1,(Vj c T ns left).2)
theorem KL(c T):∀ ns left,(Vj c T ns left).1.length=ns.length
 | [],_=>rfl
 | n::ns,left=>by
  rw[Vj];split
  ·simp[KL c T ns]
  ·simp[KL c T ns]
def xC{a b w}{L}{g n left}{i:Nat}(d:atI L (i:Int)=some (.int g))(e:ixN L.length (i:Int)=some i)(c:L[i]?=some (.int g)):
  qD [a,b,w,↑L,some<|.int left,some<|.int i,some<|.int n] =
   some (.nx<|if 0<left/\g<n then [a,b,w,↑(L.set i<|.int<|g+1),some<|.int<|left-1,some<|.int i,some<|.int n] else [a,b,w,↑L,some<|.int left,some<|.int i,some<|.int n]):=by
 by_cases f:0<left<;>by_cases h:g<n<;>simp[qD,jd,d,f,h,e,c]
def zS(a b w)(c T):∀ ns pre left o5 o6,
  ∃ o5' o6',jG (gT 2<|gC (jc [] 5)<|gC (jc [] 6) gN) qD (jL pre.length<|ns.map D.int) [a,b,w,↑((pre++ns.map (low c T)).map D.int),some<|.int left,o5,o6] =
   some (.nx [a,b,w,↑((pre++(Vj c T ns left).1).map D.int),some<|.int (Vj c T ns left).2,o5',o6']):=by
 intro ns
 induction ns with
 | nil=>
  intro pre left o5 o6;exact⟨o5,o6,by simp[jL,Vj]⟩
 | cons n ns k=>
  intro pre left o5 o6;have d:=xC (a:=a) (b:=b) (w:=w) (L:=(pre++low c T n::ns.map (low c T)).map D.int) (g:=low c T n) (n:=n) (left:=left) (i:=pre.length)
   (by rw[jlM<|by simp];simp) (QM<|by simp) (by simp)
  have f:((pre++low c T n::ns.map (low c T)).map D.int).set pre.length (D.int<|low c T n+1)=(pre++(low c T n+1)::ns.map (low c T)).map D.int:=by simp
  rw[f] at d;have l:(gT 2<|gC (jc [] 5)<|gC (jc [] 6) gN) (.tup [.int pre.length,.int n]) [a,b,w,↑((pre++low c T n::ns.map (low c T)).map D.int),some<|.int left,o5,o6]=some [a,b,w,↑((pre++low c T n::ns.map (low c T)).map D.int),some<|.int left,some<|.int pre.length,some<|.int n]:=rfl;rw[L5,jL,jM,L5,l,L4,d,L4,Yr];by_cases h:0<left/\low c T n<n
  ·obtain⟨o5',o6',e⟩:=k (pre++[low c T n+1]) (left-1) (some<|.int pre.length)<|some<|.int n;refine⟨o5',o6',?_⟩;have j:(pre++[low c T n+1]).length=pre.length+1:=by simp
   rw[j] at e;rw[Vj,if_pos h,if_pos h];simp only[List.append_assoc] at e;exact e
  ·obtain⟨o5',o6',e⟩:=k (pre++[low c T n]) left (some<|.int pre.length) (some<|.int n);refine⟨o5',o6',?_⟩;have j:(pre++[low c T n]).length=pre.length+1:=by simp
   rw[j] at e;rw[Vj,if_neg h,if_neg h];simp only[List.append_assoc] at e;exact e
def vf(ns:List Int)(c:Int):List Int:=if ns.sum<=c then ns else(Vj c ns.sum ns<|c-(ns.map<|low c ns.sum).sum).1
def jdk(f:ns.length<=20)(a:∀ x∈ns,0<=x/\x<=10 ^ 20)(g:0<=c)(h1:c<=2 ^ 900)(i:ns.sum<=10 ^ 30):
  qB [.lst false<|ns.map D.int,.int c]=↑((vf ns c).map D.int):=by
 by_cases h:ns.sum<=c
 ·simp[qB,jK,KY,vf,h]
 ·have b:jV (jc [] 0) qT (p2 YY (p2 yi (pV 1)<|pV 0)<|pV 2) (ns.map D.int) (jx [none,some 1,some 2] [‹ns.map D.int›,some<|.int c,some<|.int ns.sum,none,none,none,none])=some (ns.map λn=>D.int<|low c ns.sum n):=by
   refine jw rfl (λρ=>∃ o,ρ=[o,some<|.int c,some<|.int ns.sum]) ?_ ⟨none,rfl⟩;rintro x d ρ ⟨o,rfl⟩;have:=a x d;refine⟨[some<|.int x,some<|.int c,some<|.int ns.sum],rfl,?_,some<|.int x,rfl⟩;simp(disch:=lia) [vm,Js,low]
  obtain⟨j,k,e⟩:=zS (‹ns.map D.int›) (some<|.int c) (some<|.int ns.sum) c ns.sum ns [] (c-(ns.map<|low c ns.sum).sum) none none;simp only[X4,List.length_nil,U0] at e;have e2:(D.int ∘ low c ns.sum)=λn=>D.int (low c ns.sum n):=rfl;rw[e2] at e;have e3:ns.map (λn=>D.int<|low c ns.sum n)=(ns.map<|low c ns.sum).map D.int:=by simp
  rw[e3] at b e;simp(disch:=lia) [qB,jK,KY,vf,h,b,e,jb,-List.map_map]
theorem KG(c T):∀ ns left,(Vj c T ns left).1.sum+(Vj c T ns left).2=(ns.map<|low c T).sum+left
 | [],left=>by simp[Vj]
 | n::ns,left=>by
  rw[Vj];split
  ·have:=KG c T ns<|left-1;simp only[List.sum_cons,L5]
   lia
  ·have:=KG c T ns left;simp only[List.sum_cons,L5]
   lia
def cnt(c T:Int):List Int->Int
 | []=>0
 | n::ns=>(if low c T n<n then 1 else 0)+cnt c T ns
theorem jfW(c T):∀ ns:List Int,0<=cnt c T ns
 | []=>by simp[cnt]
 | n::ns=>by
  have:=jfW c T ns;rw[cnt];split<;>lia
theorem JG(c T):∀ ns left,0<=left->left<=cnt c T ns->(Vj c T ns left).2=0
 | [],left,h,k=>by simp[Vj,cnt] at *;lia
 | n::ns,left,h,k=>by
  rw[cnt] at k;rw[Vj];have:=jfW c T ns;split
  ·next g=>
   exact JG c T ns (left-1) ∅ ∅
  ·next g=>
   by_cases g2:low c T n<n
   ·rw[if_pos g2] at k;exact JG c T ns left h ∅
   ·rw[if_neg g2] at k;exact JG c T ns left h ∅
def jbV(b:0<=c)(f:c<T)(a:0<=n):T*low c T n<=c*n/\c*n<=T*low c T n+T*(if low c T n<n then 1 else 0)/\0<=low c T n/\low c T n<=n:=by
 unfold low;have e:=Int.mul_ediv_add_emod (c*n) T;have h:=N9 (c*n) (show T≠0 by lia);have r1:=N8 (c*n) (show 0<T by lia);have d:0<=c*n/T:=Int.ediv_nonneg (Int.mul_nonneg b a) ∅;have l1:c*n/T<=n:=by
  have:c*n<=T*n:=Int.mul_le_mul_of_nonneg_right ∅ a;exact Int.ediv_le_of_le_mul ∅ ∅
 refine⟨by lia,?_,d,l1⟩;split
 ·lia
 ·next g=>
  have e2:c*n/T=n:=by lia
  have:c*n<=T*n:=Int.mul_le_mul_of_nonneg_right ∅ a
  lia
theorem uj(a:0<=c)(b:c<T):∀ ns,(∀ x∈ns,0<=x)->T*(ns.map<|low c T).sum<=c*ns.sum/\c*ns.sum<=T*(ns.map<|low c T).sum+T*cnt c T ns
 | [],_=>by simp[cnt]
 | n::ns,h=>by
  have i:=uj a b ns<|λx d=>h x (by simp[d]);have j:=jbV a b<|h n (by simp);simp only[L5,List.sum_cons,cnt]
  lia
def jhi(d:0<=c)(e:c<ns.sum)(h:∀ x∈ns,0<=x):
  0<=c-(ns.map<|low c ns.sum).sum/\(Vj c ns.sum ns<|c-(ns.map<|low c ns.sum).sum).1.sum=c:=by
 have b:=uj d e ns h;have f:(ns.map<|low c ns.sum).sum<=c:=by
  refine Int.le_of_mul_le_mul_left (a:=ns.sum) ?_ ∅;rw[Int.mul_comm ns.sum c];exact b.1
 have g:c<=(ns.map<|low c ns.sum).sum+cnt c ns.sum ns:=by
  refine Int.le_of_mul_le_mul_left (a:=ns.sum) ?_ ∅;rw[Int.mul_add,Int.mul_comm ns.sum c];exact b.2
 have l:=JG c ns.sum ns (c-(ns.map<|low c ns.sum).sum) ∅ ∅;have s:=KG c ns.sum ns<|c-(ns.map<|low c ns.sum).sum;exact⟨by lia,by lia⟩
theorem jgk:∀(ns:List Int),(∀ x∈ns,0<=x/\x<=b)->0<=ns.sum/\ns.sum<=b*ns.length
 | [],_=>by simp
 | n::ns,h=>by
  have i:=jgk ns<|λx a=>h x (by simp[a]);have j:=h n (by simp);simp only[List.sum_cons,M1]
  lia
def zI:(vf ns c).length=ns.length:=by
 unfold vf;split
 ·rfl
 ·exact KL _ _ _ _
structure PtOk(p:W2):Prop where
 lo:1<=p.2
 hi:p.2<=10
noncomputable def ts(P:List W2):List Int:=P.map (·.2)
noncomputable def ups(c:Int)(P:List W2):List Int:=P.map λp=>(c*p.2+9)/10
noncomputable def uD(c:Int)(P:List W2):List Int:=P.map λp=>c*p.2/10
noncomputable def jdO(odd:Int):Nat->List Int->List Int
 | _,[]=>[]
 | k,x::l=>(if(k:Int)<odd then x+1 else x)::jdO odd (k+1) l
theorem we(a):∀ k l,(jdO a k l).length=l.length
 | _,[]=>rfl
 | k,x::l=>by rw[jdO,M1,M1,we]
theorem jdl(a):∀ k l,(∀ x∈l,0<=x)->∀ x∈jdO a k l,0<=x
 | _,[],_,x,b=>by simp[jdO] at b
 | k,y::l,h,x,b=>by
  have d:=h y (by simp);rcases M4.mp b with rfl | b
  ·lia
  ·exact jdl a (k+1) l (λz c=>h z<|by simp[c]) x b
def yB(P:List W2)(c:Int):List Int×Int:=if 10<(ts P).sum then(ups c P,(ups c P).sum-c) else(jdO (c*(ts P).sum/10-(uD c P).sum) 0<|uD c P,0)
def jnP(h:∀ p∈P,PtOk p):0<=(ts P).sum/\(ts P).sum<=10*P.length:=by
 induction P with
 | nil=>simp[ts]
 | cons p P c=>
  have a:=c λx d=>h x (by simp[d]);have b:=h p (by simp);have e:=b.lo;have f:=b.hi;simp only[ts,L5,List.sum_cons,M1] at a ⊢
  lia
def ze(P:List W2):frzs (P.map e2)=true/\fzs (P.map e2)=P.map e2:=by
 refine⟨yj λd hd=>?_,Jk λd hd=>?_⟩
 all_goals obtain⟨p,a,rfl⟩:=M5.mp hd;rfl
def jce(b:P.length<=10):kD [.lst false<|P.map e2]=some (.int (ts P).sum):=by
 have a:jV (jc [] 0) qT (pF<|p2 jd (pV 0)<|pI 1) (P.map e2) (jx [none] [‹P.map e2›])=some (P.map λp=>D.int p.2):=by
  refine jw rfl (λρ=>∃ o,ρ=[o]) ?_ ⟨none,rfl⟩;rintro x c ρ ⟨o,rfl⟩;exact⟨_,rfl,rfl,_,rfl⟩
 have e:(P.map λp=>D.int p.2)=(ts P).map D.int:=by unfold ts;rw[U0];rfl
 rw[e] at a;simp(disch:=lia) [kD,jK,Y3,(ze P).1,a,jb]
theorem Qr(a):∀ l k o0 o1,jV (gT 2<|gC (jc [] 0)<|gC (jc [] 1) gN) qT (pIf (jn<|p2 jju (pV 0)<|pV 2) (p2 jg (pV 1)<|pI 1)<|pF<|pV 1) (jL k<|l.map D.int) [o0,o1,some<|.int a]=some ((jdO a k l).map D.int)
 | [],k,o0,o1=>rfl
 | x::l,k,o0,o1=>by
  have c:(gT 2<|gC (jc [] 0)<|gC (jc [] 1) gN) (.tup [.int k,.int x]) [o0,o1,some<|.int a]=some [some<|.int k,some<|.int x,some<|.int a]:=rfl;have b:=Qr a l (k+1) (some<|.int k)<|some<|.int x;rw[L5,jL,vv,c,L4];by_cases h:k<a
  ·simp[h,b,jdO]
  ·simp[h,b,jdO]
def jee(m:P.length<=10)(a:∀ p∈P,PtOk p)(r:0<=c)(h1:c<=2 ^ 900):Vg [.lst false<|P.map e2,.int c]=some (.tup [.lst true<|(yB P c).1.map D.int,.int (yB P c).2]):=by
 have l:=jce m;have s:=jnP a;have f:=ze P;by_cases h:10<(ts P).sum
 ·have b:jV (jc [] 0) qT (p2 YY (p2 jg (p2 yi (pV 1)<|p2 jd (pV 0)<|pI 1)<|pI 9)<|pI 10) (P.map e2) (jx [none,some 1] [‹P.map e2›,some<|.int c,some<|.int (ts P).sum,none,none])=some (P.map λp=>D.int<|(c*p.2+9)/10):=by
   refine jw rfl (λρ=>∃ o,ρ=[o,some<|.int c]) ?_ ⟨none,rfl⟩;rintro x d ρ ⟨o,rfl⟩;refine⟨[some<|e2 x,some<|.int c],rfl,?_,_,rfl⟩;have g:jd (e2 x) (.int 1)=some (.int x.2):=rfl;have n:=(a x d).lo;have q:=(a x d).hi;simp(disch:=lia) [g,vm,Js]
  have e:(P.map λp=>D.int<|(c*p.2+9)/10)=(ups c P).map D.int:=by unfold ups;rw[U0];rfl
  rw[e] at b;have i:yB P c=(ups c P,(ups c P).sum-c):=if_pos h;rw[i];simp(disch:=lia) [Vg,jK,zZ,f.1,f.2,l,h,b,jb]
 ·have b:jV (jc [] 0) qT (p2 YY (p2 yi (pV 1)<|p2 jd (pV 0)<|pI 1)<|pI 10) (P.map e2) (jx [none,some 1] [‹P.map e2›,some<|.int c,some<|.int (ts P).sum,none,none])=some (P.map λp=>D.int<|c*p.2/10):=by
   refine jw rfl (λρ=>∃ o,ρ=[o,some<|.int c]) ?_ ⟨none,rfl⟩;rintro x d ρ ⟨o,rfl⟩;refine⟨[some<|e2 x,some<|.int c],rfl,?_,_,rfl⟩;have g:jd (e2 x) (.int 1)=some (.int x.2):=rfl;have n:=(a x d).lo;have q:=(a x d).hi;simp(disch:=lia) [g,vm,Js]
  have e:(P.map λp=>D.int<|c*p.2/10)=(uD c P).map D.int:=by unfold uD;rw[U0];rfl
  rw[e] at b;have i:yB P c=(jdO (c*(ts P).sum/10-(uD c P).sum) 0<|uD c P,0):=if_neg h;rw[i];have j:jx [none,none,some 4] [‹P.map e2›,some<|.int c,some<|.int (ts P).sum,‹(uD c P).map D.int›,some<|.int<|c*(ts P).sum/10-(uD c P).sum]=[none,none,some<|.int<|c*(ts P).sum/10-(uD c P).sum]:=rfl;have k:lim (jL 0<|(uD c P).map D.int).length=true:=jb (by rw[yH];simp[uD];lia);simp(disch:=lia) [Vg,jK,zZ,f.1,f.2,l,h,b,jb,vm,Js,j,Qr (c*(ts P).sum/10-(uD c P).sum) (uD c P) 0 none none,k,-List.map_map]
def jes:(yB P c).1.length=P.length:=by
 unfold yB;split
 ·simp[ups]
 ·rw[we];simp[uD]
def jhE(d:∀ p∈P,PtOk p)(e:0<=c):∀ x∈(yB P c).1,0<=x:=by
 have b:∀ p∈P,0<=c*p.2:=λp h=>Int.mul_nonneg e (by have:=(d p h).lo;lia);unfold yB;split
 ·intro x a;obtain⟨p,h,rfl⟩:=M5.mp a;have:=b p h
  lia
 ·refine jdl _ _ _ λx a=>?_;obtain⟨p,h,rfl⟩:=M5.mp a;have:=b p h
  lia
theorem zU(a:0<=c)(d:c<T):∀ ns left,(∀ x∈ns,0<=x)->∀(i:Nat) g n,(Vj c T ns left).1[i]?=some g->ns[i]?=some n->0<=g/\g<=n
 | [],left,_,i,g,n,_,h=>by simp at h
 | m::ns,left,hp,i,g,n,h1,h2=>by
  have b:=jbV a d<|hp m (by simp);rw[Vj] at h1;cases i with
  | zero=>
   simp at h2;split at h1<;>simp at h1<;>subst h1<;>lia
  | succ i=>
   simp at h2;split at h1
   ·simp at h1;exact zU a d ns _ (λx e=>hp x<|by simp[e]) i g n h1 h2
   ·simp at h1;exact zU a d ns _ (λx e=>hp x<|by simp[e]) i g n h1 h2
def jbZ{ns}{c}(a:0<=c)(h:∀ x∈ns,0<=x){i:Nat}{g n}(h1:(vf ns c)[i]?=some g)(h2:ns[i]?=some n):0<=g/\g<=n:=by
 unfold vf at h1;split at h1
 ·rw[h2] at h1;cases h1;exact⟨h _<|List.mem_of_getElem? h2,Int.le_refl _⟩
 ·exact zU a ∅ ns _ h i g n h1 h2
def uW(a:0<=c)(h:∀ x∈ns,0<=x):(vf ns c=ns/\ns.sum<=c)\/(vf ns c).sum=c:=by
 unfold vf;split
 ·lia
 ·exact .inr (jhi a ∅ h).2
def jbw(l:List W2):ym (l.map e2)=true:=by
 rw[yJ,List.all_map,List.all_eq_true];intro x _;rfl
noncomputable def got(L s:Int):Int:=if s<L then s else L
noncomputable def jjx:List Nat:=[101,97,116]
noncomputable def put(f:List Nat->Int)(c:List Nat)(v:Int):List Nat->Int:=λn=>if n=c then v else f n
def eat:List (List Nat)->(List Nat->Int)->Int->(List Nat->Int)×Int
 | [],f,L=>(f,L)
 | c::E,f,L=>eat E (put f c<|f c-got L (f c))<|L-got L (f c)
def jim:Nat->List (List Nat)->(List Nat->Int)->Int->List D
 | _,[],_,_=>[]
 | k,c::E,f,L=>.tup [.int k,.str jjx,.str c,.int L,.int<|got L<|f c]::jim (k+1) E (put f c<|f c-got L (f c)) (L-got L (f c))
def jf1(h:0<=L)(h':0<=s):0<=got L s/\got L s<=L/\got L s<=s:=by unfold got;split<;>lia
def wm(h:∀ n,0<=f n)(a:0<=v)(n):0<=put f c v n:=by
 unfold put;by_cases e:n=c
 ·lia
 ·rw[if_neg e];exact h n
theorem jgn:∀{E}{f}{L},(∀ n,0<=f n)->0<=L->(∀ n,0<=(eat E f L).1 n/\(eat E f L).1 n<=f n)/\0<=(eat E f L).2
 | [],f,L,h,a=>⟨λn=>⟨h n,Int.le_refl _⟩,a⟩
 | c::E,f,L,h,a=>by
  have g:=jf1 a<|h c;have q:=jgn (E:=E) (f:=put f c<|f c-got L (f c)) (L:=L-got L (f c)) (wm h ∅) ∅;refine⟨λn=>⟨(q.1 n).1,Int.le_trans (q.1 n).2 ?_⟩,q.2⟩;unfold put;split
  ·lia
  ·lia
def jmr(h:d≠c):put f c u d=f d:=if_neg h
def bkD(o:Bool)(S W Rn Lv:List W2)(x:Int):D:=.tup [.lst o<|S.map e2,.lst o<|W.map e2,.lst o<|Rn.map e2,.lst o<|Lv.map e2,.int x]
def J7(o)(S W Rn Lv)(x):fz (bkD o S W Rn Lv x)=bkD false S W Rn Lv x:=by simp[bkD,Ji]
def qW(S W Rn Lv)(x):frz (bkD false S W Rn Lv x)=true:=by simp[bkD,yh]
def Qu(S W Rn Lv)(x):clean (bkD true S W Rn Lv x)=true:=by simp[bkD,jbw]
theorem VP(g:N.length<=1000):∀{E}{s}{f}{L}{acc}{o6 o7 o8},(∀ c∈E,c∈N)->acc.length+E.length<=1000 ->
  Ex3 λo6' o7' o8'=>jG (gT 2<|gC (jc [] 6)<|gC (jc [] 7) gN) YZ (jL s<|E.map D.str) [a0,a1,a2,some<|dct true N f,some<|.int L,↑acc,o6,o7,o8,o9] =
   some (.nx [a0,a1,a2,some<|dct true N (eat E f L).1,some<|.int (eat E f L).2,↑(acc++jim s E f L),o6',o7',o8',o9])
 | [],s,f,L,acc,o6,o7,o8,_,_=>⟨o6,o7,o8,by rw[jim,M9];rfl⟩
 | c::E,s,f,L,acc,o6,o7,o8,b,h=>by
  rw[M1] at h;have a:=b c (by simp);obtain⟨o6',o7',o8',e⟩:=VP (a0:=a0) (a1:=a1) (a2:=a2) (o9:=o9) g (E:=E) (f:=put f c<|f c-got L (f c)) (L:=L-got L (f c)) (acc:=acc++[.tup [.int s,.str jjx,.str c,.int L,.int<|got L<|f c]]) (o6:=some<|.int s) (o7:=some<|.str c) (o8:=some<|.int<|got L<|f c) (λd hd=>b d<|by simp[hd]) (by rw[N3];simp only[M1,List.length_nil];lia);refine⟨o6',o7',o8',?_⟩;have i:jae [.int L,.int<|f c]=some (.int<|got L<|f c):=rfl;rw[L5,jL,lpF ?_,e,jim,eat];simp;simp(disch:=first | lia | (simp;done) | (simp;lia)) [YZ,yA (o:=true) (f:=f) a,i,Yn f a,uA (f:=f) (v:=f c-got L (f c)) a,jb,jjx];simp[dct,put]
noncomputable def sz'(N:W1)(f:List Nat->Int):List W2:=N.map λn=>(n,f n)
noncomputable def ow'(W:List W2)(f:List Nat->Int):List W2:=W.map λq=>(q.1,if 0<f q.1 then q.2 else 0)
def jbb(d:∀ q∈W,q.1∈N):jV (gT 2<|gC (jc [] 0)<|gC (jc [] 1) gN) qT (yk #[pF<|pV 0,pIf (jn<|p2 Vk (p2 yq (pV 2)<|pV 0)<|pI 0) (pF<|pV 1)<|pI 0]) (W.map e2) [none,none,some<|dct true N f]=some ((ow' W f).map e2):=by
 unfold ow';rw[U0];refine jw rfl (λρ=>∃ o a,ρ=[o,a,some<|dct true N f]) ?_ ⟨none,none,rfl⟩;rintro q e ρ ⟨o,a,rfl⟩;have b:=yA (o:=true) (f:=f)<|d q e;refine⟨[some<|.str q.1,some<|.int q.2,some<|dct true N f],rfl,?_,_,_,rfl⟩;by_cases c:0<f q.1
 ·simp[b,c,jb,e2]
 ·simp[b,c,jb,e2]
def jeL{p}{S W Rn Lv}{x L}{O}(h:PoolOk O p)(a:S.map (·.1)=p.told.map (·.1))(d:W.map (·.1)=p.told.map (·.1))(F:Rn.length<=10)(G:Lv.length<=10):
  Ka [jq false p,bkD false S W Rn Lv x,.int L]=some (.tup [.lst true<|jim 0 p.eats (fnOf S) L,bkD true (sz' (p.told.map (·.1)) (eat p.eats (fnOf S) L).1) (ow' W (eat p.eats (fnOf S) L).1) Rn Lv<|x+(eat p.eats (fnOf S) L).2]):=by
 have H:=h.told2;have nd:(S.map (·.1)).Nodup:=by rw[a];exact h.toldn
 have i:S.length<=10:=by
  have:=congrArg List.length a;rw[L1,L1] at this
  lia
 have j:W.length<=10:=by
  have:=congrArg List.length d;rw[L1,L1] at this
  lia
 have k:=h.eats2;have l:jd (bkD false S W Rn Lv x) (.int 0)=‹S.map e2›:=rfl;have m:jd (bkD false S W Rn Lv x) (.int 1)=‹W.map e2›:=rfl;have o:jd (bkD false S W Rn Lv x) (.int 2)=‹Rn.map e2›:=rfl;have r:jd (bkD false S W Rn Lv x) (.int 3)=‹Lv.map e2›:=rfl;have t:jd (bkD false S W Rn Lv x) (.int 4)=some (.int x):=rfl;have u:jd (jq false p) (.int 3)=‹p.eats.map D.str›:=rfl;have v:vh [.lst false<|S.map e2]=some (dct true (p.told.map (·.1))<|fnOf S):=by rw[<- a];exact yG nd ∅
 obtain⟨w,y,z,e⟩:=VP (a0:=some<|jq false p) (a1:=some<|bkD false S W Rn Lv x) (a2:=some<|.int L) (o9:=none) (by rw[L1];lia) (s:=0) (f:=fnOf S) (L:=L) (acc:=[]) (o6:=none) (o7:=none) (o8:=none) h.eatsm (by simp;lia);have A:=jbb (N:=p.told.map (·.1)) (f:=(eat p.eats (fnOf S) L).1) (λq B=>by rw[<- d];exact M5.mpr ⟨q,B,rfl⟩);have g:=zg (p.told.map (·.1)) (eat p.eats (fnOf S) L).1;have b:((p.told.map (·.1)).map λn=>D.tup [.str n,.int<|(eat p.eats (fnOf S) L).1 n])=(sz' (p.told.map (·.1)) (eat p.eats (fnOf S) L).1).map e2:=by simp[sz',e2]
 rw[b] at g;have C:lim W.length=true:=jb ∅;have c:∀ ρ,pV 3 ρ=some (dct true (p.told.map (·.1)) (eat p.eats (fnOf S) L).1)->yt (pV 3) ρ=↑((sz' (p.told.map (·.1)) (eat p.eats (fnOf S) L).1).map e2):=by
  intro ρ E;rw[yt,E];show(bif frzs ((p.told.map (·.1)).map λn=>D.int<|(eat p.eats (fnOf S) L).1 n) then _ else _)=_;rw[ur,<- g];rfl
 generalize bkD false S W Rn Lv x=BK at *;simp(disch:=first | lia | (simp;done) | (simp;lia)) [Ka,jK,jbr,l,m,o,r,t,u,v,e,jx,yh,A,c,jb,bkD,-yt]
def JM{S:List W2}(h:∀ q∈S,0<=q.2)(n):0<=fnOf S n:=by
 unfold fnOf
 induction S with
 | nil=>exact Int.le_refl _
 | cons q S a=>
  rw[lkp];by_cases e:q.1=n
  ·rw[if_pos e];exact h q (by simp)
  ·rw[if_neg e];exact a λr b=>h r (by simp[b])
def hit(rn:List W2):List WL->Option (List Nat)
 | []=>none
 | x::l=>if x.2.1<=(lkp x.1 rn).getD 0 then some x.2.2 else hit rn l
def jdx:∀{L}{o2 o3 o4},(∀ x∈L,x.1∈rn.map (·.1)) ->
  Ex3 λo2' o3' o4'=>jG (gT 3<|gC (jc [] 2)<|gC (jc [] 3)<|gC (jc [] 4) gN) yT (L.map eL) [some<|jq false p,some<|.dK false (rn.map λq=>KA.str q.1)<|rn.map λq=>D.int q.2,o2,o3,o4] =
   match hit rn L with
   | some w=>some<|.rt (.str w) [some<|jq false p,some<|.dK false (rn.map λq=>KA.str q.1)<|rn.map λq=>D.int q.2,o2',o3',o4']
   | none=>some (.nx [some<|jq false p,some<|.dK false (rn.map λq=>KA.str q.1)<|rn.map λq=>D.int q.2,o2',o3',o4']):=by
 intro L
 induction L with
 | nil=>
  intro o2 o3 o4 _;exact⟨o2,o3,o4,rfl⟩
 | cons x L i=>
  intro o2 o3 o4 h;obtain⟨r,c,_⟩:=uo<|h x (by simp);have j:KR (rn.map λq=>KA.str q.1) (rn.map λq=>D.int q.2) (.str x.1)=some (.int r):=by
   have a:=YU x.1<|rn.map λq=>(q.1,D.int q.2);rw[U0,U0,jcZ D.int x.1 rn,c] at a;exact a
  have f:=j;have g:(gT 3<|gC (jc [] 2)<|gC (jc [] 3)<|gC (jc [] 4) gN) (eL x) [some<|jq false p,some<|.dK false (rn.map λq=>KA.str q.1)<|rn.map λq=>D.int q.2,o2,o3,o4]=some [some<|jq false p,some<|.dK false (rn.map λq=>KA.str q.1)<|rn.map λq=>D.int q.2,some<|.str x.1,some<|.int x.2.1,some<|.str x.2.2]:=rfl;by_cases b:x.2.1<=r
  ·have d:hit rn (x::L)=some x.2.2:=by rw[hit,c];exact if_pos b
   refine⟨some<|.str x.1,some<|.int x.2.1,some<|.str x.2.2,?_⟩;rw[d,L5,jM,g,L4];simp[yT,f,b]
  ·have d:hit rn (x::L)=hit rn L:=by rw[hit,c];exact if_neg b
   obtain⟨o2',o3',o4',e⟩:=i (o2:=some<|.str x.1) (o3:=some<|.int x.2.1) (o4:=some<|.str x.2.2) λy k=>h y (by simp[k]);refine⟨o2',o3',o4',?_⟩;rw[d,<- e,L5,jM,g,L4];simp[yT,f,b]
noncomputable def jjz(p:PoolS):List Nat:=(p.orders.map (·.nm)).headD []
def jek(h:PoolOk O p):∃ d,jd (.lst false<|p.orders.map<|vk false) (.int 0)=some d/\jd d (.int 0)=some (.str<|jjz p):=by
 have a:=h.orders1;unfold jjz;cases e:p.orders with
 | nil=>rw[e] at a;simp at a
 | cons x l=>exact⟨vk false x,by rw[jaz (by decide)<|by simp];rfl,rfl⟩
def jhx(h:PoolOk O p)  (b:rn.map (·.1)=p.told.map (·.1)):
  yW [jq false p,.dK false (rn.map λq=>KA.str q.1)<|rn.map λq=>D.int q.2]=some (.str<|(hit rn p.looks).getD (jjz p)):=by
 obtain⟨c,f,g,e⟩:=jdx (p:=p) (o2:=none) (o3:=none) (o4:=none) (by rw[b];exact λx i=>(h.looks x i).1);obtain⟨d,jmt,joc⟩:=jek h;have a:jd (jq false p) (.int 5)=‹p.looks.map eL›:=rfl;have j:jd (jq false p) (.int 4)=‹p.orders.map (vk false)›:=rfl;cases hh:hit rn p.looks with
 | none=>
  rw[hh] at e;simp[yW,jK,kQ,a,j,YR,w8,e,jmt,joc]
 | some w=>
  rw[hh] at e;simp[yW,jK,kQ,a,YR,w8,e]
def jl0{O}{p}(h:PoolOk O p){sz ow b lv:List W2}{x}(c:b.map (·.1)=p.told.map (·.1)):
  vB [jq false p,.tup [.lst false<|sz.map e2,.lst false<|ow.map e2,.lst false<|b.map e2,.lst false<|lv.map e2,.int x]]=some (.str<|(hit b p.looks).getD (jjz p)):=by
 have j:b.length<=10:=by
  have:=congrArg List.length c;rw[L1,L1] at this;have:=h.told2
  lia
 have f:jd (.tup [.lst false<|sz.map e2,.lst false<|ow.map e2,.lst false<|b.map e2,.lst false<|lv.map e2,.int x]) (.int 2)=‹b.map e2›:=rfl;have g:vh [.lst false<|b.map e2]=some (.dK true (b.map λq=>KA.str q.1)<|b.map λq=>D.int q.2):=by
  have:=VA (o:=false) (l:=b.map λq=>(q.1,D.int q.2)) (by rw[U0];have:=h.toldn;rw[<- c] at this;exact this) (by intro q i;obtain⟨a,_,rfl⟩:=M5.mp i;rfl) (by rw[L1];lia);rw[U0,U0,U0] at this;exact this
 have d:fzs (b.map λq=>D.int q.2)=b.map λq=>D.int q.2:=kK (λ_=>rfl) _;have e:fz (.dK true (b.map λq=>KA.str q.1)<|b.map λq=>D.int q.2)=.dK false (b.map λq=>KA.str q.1) (b.map λq=>D.int q.2):=by rw[fz,d]
 simp[vB,jK,YK,f,g,h.fz false,e,jhx h c]
noncomputable def qe(p:PoolS):List W2:=p.told.map λc=>(c.1,0)
noncomputable def uM(p:PoolS):List W2:=p.told.map λc=>(c.1,c.2.1)
noncomputable def jaN(p:PoolS):List W2:=p.marks.map λc=>(c.1,0)
def xf(l:List W3):jV (jc [] 0) qT (yk #[pF<|p2 jd (pV 0)<|pI 0,pI 0]) (l.map e3) [none]=some ((l.map λc=>((c.1,0):W2)).map e2):=by
 rw[U0];refine jw rfl (λρ=>∃ o,ρ=[o]) ?_ ⟨none,rfl⟩;rintro c b ρ ⟨o,rfl⟩;refine⟨[some<|e3 c],rfl,?_,_,rfl⟩;have a:jd (e3 c) (.int 0)=some (.str c.1):=rfl;simp[a,jb,e2]
def jam(l:List W3):jV (jc [] 0) qT (yk #[pF<|p2 jd (pV 0)<|pI 0,pF<|p2 jd (pV 0)<|pI 1]) (l.map e3) [none]=some ((l.map λc=>((c.1,c.2.1):W2)).map e2):=by
 rw[U0];refine jw rfl (λρ=>∃ o,ρ=[o]) ?_ ⟨none,rfl⟩;rintro c d ρ ⟨o,rfl⟩;refine⟨[some<|e3 c],rfl,?_,_,rfl⟩;have a:jd (e3 c) (.int 0)=some (.str c.1):=rfl;have b:jd (e3 c) (.int 1)=some (.int c.2.1):=rfl;simp[a,b,jb,e2]
def jbR(l:List W2):jV (jc [] 0) qT (yk #[pF<|p2 jd (pV 0)<|pI 0,pI 0]) (l.map e2) [none]=some ((l.map λc=>((c.1,0):W2)).map e2):=by
 rw[U0];refine jw rfl (λρ=>∃ o,ρ=[o]) ?_ ⟨none,rfl⟩;rintro c a ρ ⟨o,rfl⟩;refine⟨[some<|e2 c],rfl,?_,_,rfl⟩;have b:jd (e2 c) (.int 0)=some (.str c.1):=rfl;simp[ jb];rfl
def jjn(p:PoolS)(rn:List W2):List Nat:=(hit rn p.looks).getD (jjz p)
def jlE{O}{p}(h:PoolOk O p){S W Rn Lv}{x}(a:Rn.map (·.1)=p.told.map (·.1)):vB [jq false p,bkD false S W Rn Lv x]=some (.str<|jjn p Rn):=jl0 h a
theorem jdd:∀{L},hit rn L=some w->∃ x∈L,x.2.2=w
 | [],h=>by simp[hit] at h
 | x::L,h=>by
  rw[hit] at h;split at h
  ·cases h;exact⟨x,by simp,rfl⟩
  ·obtain⟨y,a,e⟩:=jdd h;exact⟨y,by simp[a],e⟩
def jel(h:PoolOk O p)(a):jjn p a∈p.orders.map (·.nm):=by
 unfold jjn;cases e:hit a p.looks with
 | some w=>
  obtain⟨x,c,rfl⟩:=jdd e;exact h.looksm x c
 | none=>
  have b:=h.orders1;unfold jjz;cases e:p.orders with
  | nil=>rw[e] at b;simp at b
  | cons x l=>simp
def V1(h:PoolOk O p):yV [jq false p]=some (bkD true (uM p) (qe p) (qe p) (jaN p) 0):=by
 have a:jd (jq false p) (.int 1)=‹p.told.map e3›:=rfl;have b:jd (jq false p) (.int 2)=‹p.marks.map e2›:=rfl;have c:=h.told2;have d:=h.marks2;have l1:lim p.told.length=true:=jb ∅;have l2:lim p.marks.length=true:=jb ∅;simp[yV,jK,J3,a,b,Ve,yh,l1,l2,jx,xf p.told,jam p.told,jbR p.marks,bkD,uM,qe,jaN,-List.map_map]
def jfY(p:PoolS):List Nat->Int:=fnOf<|p.told.map λc=>(c.1,c.2.2)
def wd'(p:PoolS)(f:List Nat->Int)(W:List W2):List W2:=W.map λq=>(q.1,if 0<f q.1 then q.2+jfY p q.1 else q.2)
def jdn(l:List W3):jV (jc [] 0) qT (yk #[pF<|p2 jd (pV 0)<|pI 0,pF<|p2 jd (pV 0)<|pI 2]) (l.map e3) [none]=some ((l.map λc=>((c.1,c.2.2):W2)).map e2):=by
 rw[U0];refine jw rfl (λρ=>∃ o,ρ=[o]) ?_ ⟨none,rfl⟩;rintro c d ρ ⟨o,rfl⟩;refine⟨[some<|e3 c],rfl,?_,_,rfl⟩;have a:jd (e3 c) (.int 0)=some (.str c.1):=rfl;have b:jd (e3 c) (.int 2)=some (.int c.2.2):=rfl;simp[a,b,jb,e2]
def zm{O}{p}(h:PoolOk O p){S W Rn Lv}{x}(b:S.map (·.1)=p.told.map (·.1))(e:W.map (·.1)=p.told.map (·.1)):
  kj [jq false p,bkD false S W Rn Lv x]=some (bkD false S (wd' p (fnOf S) W) Rn Lv x):=by
 have B:=h.told2;have nd:(S.map (·.1)).Nodup:=by rw[b];exact h.toldn
 have m:S.length<=10:=by
  have:=congrArg List.length b;rw[L1,L1] at this
  lia
 have n:W.length<=10:=by
  have:=congrArg List.length e;rw[L1,L1] at this
  lia
 have g:jd (bkD false S W Rn Lv x) (.int 0)=‹S.map e2›:=rfl;have r:jd (bkD false S W Rn Lv x) (.int 1)=‹W.map e2›:=rfl;have s:jd (bkD false S W Rn Lv x) (.int 2)=‹Rn.map e2›:=rfl;have t:jd (bkD false S W Rn Lv x) (.int 3)=‹Lv.map e2›:=rfl;have u:jd (bkD false S W Rn Lv x) (.int 4)=some (.int x):=rfl;have v:jd (jq false p) (.int 1)=‹p.told.map e3›:=rfl;have w:vh [.lst false<|S.map e2]=some (dct true (p.told.map (·.1))<|fnOf S):=by rw[<- b];exact yG nd ∅
 have a:(p.told.map λc=>((c.1,c.2.2):W2)).map (·.1)=p.told.map (·.1):=by simp
 have d:vh [.lst true<|(p.told.map λc=>((c.1,c.2.2):W2)).map e2]=some (dct true (p.told.map (·.1))<|jfY p):=by
  have:=yG (o:=true) (by rw[a];exact h.toldn) (by rw[L1];lia);rw[a] at this;exact this
 have y:jV (gT 2<|gC (jc [] 0)<|gC (jc [] 1) gN) qT (yk #[pF<|pV 0,pIf (jn<|p2 Vk (p2 yq (pV 2)<|pV 0)<|pI 0) (p2 jg (pV 1)<|p2 yq (pV 3)<|pV 0)<|pF<|pV 1]) (W.map e2) [none,none,some (dct true (p.told.map (·.1))<|fnOf S),some (dct true (p.told.map (·.1))<|jfY p)]=some ((wd' p (fnOf S) W).map e2):=by
  unfold wd';rw[U0];refine jw rfl (λρ=>∃ o i,ρ=[o,i,some (dct true (p.told.map (·.1))<|fnOf S),some (dct true (p.told.map (·.1))<|jfY p)]) ?_ ⟨none,none,rfl⟩;rintro q z ρ ⟨o,i,rfl⟩;have j:q.1∈p.told.map (·.1):=by rw[<- e];exact M5.mpr ⟨q,z,rfl⟩
  have k:=yA (o:=true) (f:=fnOf S) j;have A:=yA (o:=true) (f:=jfY p) j;refine⟨[some<|.str q.1,some<|.int q.2,some (dct true (p.told.map (·.1))<|fnOf S),some (dct true (p.told.map (·.1))<|jfY p)],rfl,?_,_,_,rfl⟩;by_cases l:0<fnOf S q.1
  ·simp[k,A,l,jb,e2]
  ·simp[k,l,jb,e2]
 have l1:lim p.told.length=true:=jb ∅;have l2:lim W.length=true:=jb ∅;generalize C:bkD false S W Rn Lv x=BK at *;simp(disch:=first | lia | (simp;done) | (simp;lia)) [kj,jK,Y6,g,r,v,w,d,jdn p.told,y,jx,yh,Ji,Ve,jdp,l1,l2,jb,bkD,-yk,-pIf,-List.map_map];simp(disch:=first | lia | (simp;done) | (simp;lia)) [g,s,t,u,yh,jb]
noncomputable abbrev EN:=List Nat×List Nat
abbrev LN:=List<|EN×Int
noncomputable def kL(r:EN×Int):List KA:=[.str r.1.1,.str r.1.2]
noncomputable def vL(r:EN×Int):D:=.int r.2
def dLn(o:Bool)(l:LN):D:=.dT o (l.map kL)<|l.map vL
noncomputable def yD:LN->EN->Option Int
 | [],_=>none
 | r::l,k=>if r.1=k then some r.2 else yD l k
noncomputable def jbJ(l:LN)(k:EN)(v:Int):LN:=l.map λr=>(r.1,if r.1=k then v else r.2)
def YN(l:LN)(k:EN)(v:Int):LN:=if k∈l.map (·.1) then jbJ l k v else l++[(k,v)]
def jlZ:([KA.str a,KA.str b]=[KA.str c,KA.str d])=((a,b)=((c,d):EN)):=by simp
def jdw(r)(k):(kL r=[KA.str k.1,KA.str k.2])=(r.1=k):=by
 obtain⟨⟨a,b⟩,n⟩:=r;obtain⟨c,d⟩:=k;exact jlZ
theorem JU(k):∀ l:LN,zy (l.map kL) (l.map vL) [.str k.1,.str k.2]=(yD l k).map D.int
 | []=>rfl
 | r::l=>by
  rw[L5,L5,zy,yD];by_cases h:r.1=k
  ·rw[if_pos h,if_pos<|by rw[jdw];exact h];rfl
  ·rw[if_neg h,if_neg<|by rw[jdw];exact h,JU k l]
theorem jb4(k)(v):∀ l:LN,jez (l.map kL) (l.map vL) [.str k.1,.str k.2] (.int v)=(jbJ l k v).map vL
 | []=>rfl
 | r::l=>by
  rw[L5,L5,jez,jb4 k v l];by_cases h:r.1=k
  ·rw[if_pos<|by rw[jdw];exact h];simp[jbJ,h,vL]
  ·rw[if_neg<|by rw[jdw];exact h];simp[jbJ,h]
theorem ja6(k):∀ l:LN,([KA.str k.1,KA.str k.2]∈l.map kL)↔k∈l.map (·.1)
 | []=>by simp
 | r::l=>by
  rw[L5,L5,M4,M4,ja6 k l];have:=jdw r k;constructor
  ·lia
  ·lia
def Qd(l)(k)(v):(jbJ l k v).map (·.1)=l.map (·.1):=by unfold jbJ;rw[U0];rfl
def jjh(l)(k)(v):(jbJ l k v).map kL=l.map kL:=by unfold jbJ;rw[U0];rfl
def YC(k)(v)(l):VW (l.map kL) (l.map vL) [.str k.1,.str k.2] (.int v)=((YN l k v).map kL,(YN l k v).map vL):=by
 unfold VW YN;by_cases h:k∈l.map (·.1)
 ·rw[if_pos h,if_pos<|(ja6 k l).mpr h,jb4,jjh]
 ·rw[if_neg h,if_neg λz=>h<|(ja6 k l).mp z];simp[kL,vL]
structure LnOk(N:W1)(l:LN):Prop where
 nd:(l.map (·.1)).Nodup
 mem:∀ r∈l,r.1.1∈N/\r.1.2∈N/\0<=r.2
def jda(h:LnOk N l)  (h1:k.1∈N) (h2:k.2∈N) (f:0<=v):LnOk N (YN l k v):=by
 unfold YN;by_cases e:k∈l.map (·.1)
 ·rw[if_pos e];refine⟨by rw[Qd];exact h.nd,λr c=>?_⟩;obtain⟨q,g,rfl⟩:=M5.mp c;have:=h.mem q g;refine⟨this.1,this.2.1,?_⟩;split
  ·lia
  ·lia
 ·rw[if_neg e];refine⟨?_,λr c=>?_⟩
  ·rw[N4,U8];exact⟨h.nd,by simp,λa i b d=>by simp at d;rintro rfl;exact e<|d▸i⟩
  ·rcases N1.mp c with c | c
   ·exact h.mem r c
   ·rw[M7.mp c];exact⟨h1,h2,f⟩
theorem xi{N:W1}  : ∀{l},(∀ r∈l,r.1.1∈N/\r.1.2∈N/\0<=r.2)->0<=(yD l k).getD 0
 | [],_=>Int.le_refl _
 | r::l,h=>by
  rw[yD];split
  ·exact(h r<|by simp).2.2
  ·exact xi λq a=>h q (by simp[a])
theorem Qe [DecidableEq α]:∀{l m:List α},l.Nodup->(∀ x∈l,x∈m)->l.length<=m.length
 | [],m,_,_=>by simp
 | a::l,m,b,d=>by
  have e:=d a (by simp);rw[List.nodup_cons] at b;have:=Qe b.2 λx f=>by
   have c:x≠a:=λz=>b.1<|z▸f;exact(List.mem_erase_of_ne c).mpr (d x<|by simp[f])
  rw[List.length_erase_of_mem e] at this;have g:=List.length_pos_of_mem e;simp only[M1]
  lia
def LnOk.len(h:LnOk N l)(c:N.length<=6):l.length<=36:=by
 have:=Qe (m:=N.flatMap λa=>N.map λb=>(a,b)) h.nd λx d=>by
  obtain⟨r,f,rfl⟩:=M5.mp d;have:=h.mem r f;exact List.mem_flatMap.mpr ⟨r.1.1,this.1,M5.mpr ⟨r.1.2,this.2.1,rfl⟩⟩
 rw[L1,List.length_flatMap] at this;have e:(N.map λa=>(N.map λb=>((a,b):EN)).length)=N.map λ_=>N.length:=by simp
 have e2:∀ n (M:W1),(M.map λ_=>n).sum=M.length*n:=λn M=>by
  induction M with
  | nil=>simp
  | cons a M g=>simp only[L5,List.sum_cons,M1,Nat.succ_mul];lia
 rw[e,e2] at this;have i:=Nat.mul_le_mul c c
 lia
noncomputable abbrev MV:=List Nat×List Nat×Int
noncomputable def eM(m:MV):D:=.tup [.str m.1,.str m.2.1,.int m.2.2]
def mvF(nm:List Nat)(l:LN)(m:MV):LN:=if m.1=jS then YN l (nm,m.2.1) ((yD l (nm,m.2.1)).getD 0+m.2.2) else YN l (m.2.1,nm) ((yD l (m.2.1,nm)).getD 0-m.2.2)
structure MvOk(nm:List Nat)(N:W1)(c:Int)(l:LN)(m:MV):Prop where
 kd:m.1=jS\/(m.1=yy/\m.2.2<=(yD l (m.2.1,nm)).getD 0)
 ot:m.2.1∈N
 po:0<m.2.2
 hi:m.2.2<=c
def jgl(h:LnOk N l)(a:nm∈N)(k:MvOk nm N c l m):LnOk N (mvF nm l m):=by
 unfold mvF;have po:=k.po;rcases k.kd with e | ⟨e,e2⟩
 ·rw[if_pos e];have:=xi (k:=(nm,m.2.1)) h.mem;exact jda h a k.ot ∅
 ·rw[if_neg ∅];exact jda h k.ot a ∅
def uT(h:0<c)(h2:c<=(yD l k).getD 0):∃ v,yD l k=some v:=by
 cases e:yD l k with
 | some v=>exact⟨v,rfl⟩
 | none=>rw[e] at h2;simp at h2;lia
def jb6(h:l.length<=100)(k:MvOk nm N c l m):yz [dLn true l,.str nm,.str m.1,.str m.2.1,.int m.2.2]=some (.non,dLn true<|mvF nm l m):=by
 have a:lim l.length=true:=jb ∅;rcases k.kd with e | ⟨e,e2⟩
 ·have b:=JU (nm,m.2.1) l;have p1:=YC (nm,m.2.1) ((yD l (nm,m.2.1)).getD 0+m.2.2) l;have g:zo (dLn true l) [.str nm,.str m.2.1] (.int 0)=some (.int<|(yD l (nm,m.2.1)).getD 0):=by
   show some ((zy (l.map kL) (l.map vL) [.str nm,.str m.2.1]).getD (.int 0))=_;rw[b];cases yD l (nm,m.2.1)<;>rfl
  have d:mvF nm l m=YN l (nm,m.2.1) ((yD l (nm,m.2.1)).getD 0+m.2.2):=if_pos e;rw[d];simp only[dLn] at *;simp[yz,qH,qU,e,g,p1,a,VQ]
 ·obtain⟨v,f⟩:=uT k.po e2;have b:=JU (m.2.1,nm) l;rw[f] at b;have d:mvF nm l m=YN l (m.2.1,nm) (v-m.2.2):=by unfold mvF;rw[if_neg ∅,f];rfl
  rw[d];simp only[dLn] at *;simp[yz,qH,qU,jfy,e,b,YC (m.2.1,nm) (v-m.2.2) l,a,VQ]
end K33
namespace PySem
open PySem.W PyProof.Rows PySem.Calls
structure STO(lt:Nat->Nat->Bool)(n:Nat):Prop where
 tr:∀ i j k,i<n->j<n->k<n->lt i j=true->lt j k=true->lt i k=true
 to:∀ i j,i<n->j<n->i≠j->lt i j=false->lt j i=true
def SP(lt:Nat->Nat->Bool)(p:Array Nat)(k:Nat):Prop:=∀ i j,i<j->j<k->lt (p.getD i 0) (p.getD j 0)=true
def DP(lt:Nat->Nat->Bool)(p:Array Nat)(k:Nat):Prop:=∀ i j,i<j->j<k->lt (p.getD j 0) (p.getD i 0)=true
section
variable {lt:Nat->Nat->Bool}{n:Nat}
def Pm.size{p}(h:Pm n p):p.size=n:=by have:=h.length_eq;simpa using this
def Pm.ne{p}(h:Pm n p){i j}(a:i≠j)(hi:i<n)(b:j<n):p.getD i 0≠p.getD j 0:=by
 have nd:p.toList.Nodup:=h.nodup_iff.mpr List.nodup_range;have sz:=h.size;have g:∀{k},k<n->p.toList[k]?=some (p.getD k 0):=λ{k} c=>by simp[Array.getD,show k<p.size by lia]
 intro e;exact a<|(List.getElem?_inj (by simp;lia) nd).mp (by rw[g hi,g b,e])
def SP.succ{p m}(o:STO lt n)(h:Pm n p)(b:m<n)(s:SP lt p m)(h1:1<=m)(q:lt (p.getD (m-1) 0) (p.getD m 0)=true):SP lt p (m+1):=λi j a c=>by
 by_cases e:j=m
 ·subst e;by_cases e2:i=j-1
  ·rw[e2];exact q
  ·exact o.tr _ _ _ (h.lt ∅ _) (h.lt ∅ _) (h.lt ∅ _) (s i (j-1) ∅ ∅) q
 ·exact s i j a ∅
def DP.succ{p m}(o:STO lt n)(h:Pm n p)(b:m<n)(s:DP lt p m)(h1:1<=m)(q:lt (p.getD m 0) (p.getD (m-1) 0)=true):DP lt p (m+1):=λi j a c=>by
 by_cases e:j=m
 ·subst e;by_cases e2:i=j-1
  ·rw[e2];exact q
  ·exact o.tr _ _ _ (h.lt ∅ _) (h.lt ∅ _) (h.lt ∅ _) q<|s i (j-1) ∅ ∅
 ·exact s i j a ∅
theorem jbF{p}(o:STO lt n)(h:Pm n p):∀ f m,1<=m->m+f<=n->SP lt p m->m<=kEv lt (kas_asc p f m)/\kEv lt (kas_asc p f m)<=m+f/\SP lt p (kEv lt<|kas_asc p f m)/\(kEv lt (kas_asc p f m)<m+f->lt (p.getD (kEv lt<|kas_asc p f m) 0) (p.getD (kEv lt (kas_asc p f m)-1) 0)=true)
 | 0,m,_,_,s=>⟨M8 _,M8 _,s,λz=>absurd z<|Nat.lt_irrefl _⟩
 | f+1,m,g,i,s=>by
  have e:kEv lt (kas_asc p (f+1) m)=if lt (p.getD m 0) (p.getD (m-1) 0)=true then m else kEv lt (kas_asc p f<|m+1):=by
   show kEv lt (if lt (p.getD m 0) (p.getD (m-1) 0)=true then .ret m else kas_asc p f (m+1))=_;split<;>rfl
  rw[e];split
  ·next q=>exact⟨M8 _,by lia,s,λ_=>q⟩
  ·next q=>
   obtain⟨a,b,c,d⟩:=jbF o h f (m+1) ∅ ∅ (s.succ o h ∅ g (o.to _ _ (h.lt ∅ _) (h.lt ∅ _) (h.ne ∅ ∅ ∅) ⇑q));exact⟨by lia,by lia,c,λz=>d ∅⟩
theorem jbk{p}(o:STO lt n)(h:Pm n p):∀ f m,1<=m->m+f<=n->DP lt p m->∃ m',kEv lt (kas_desc f p m 0)=(p,m',0)/\m<=m'/\m'<=m+f/\DP lt p m'
 | 0,m,_,_,s=>⟨m,rfl,M8 _,M8 _,s⟩
 | f+1,m,e,i,s=>by
  cases q:lt (p.getD m 0) (p.getD (m-1) 0) with
  | true=>
   obtain⟨m',a,b,c,d⟩:=jbk o h f (m+1) ∅ ∅ (s.succ o h ∅ e q);exact⟨m',by simp only[kas_desc,kEv,q];exact a,by lia,by lia,d⟩
  | false=>
   have g:=o.to _ _ (h.lt ∅ _) (h.lt ∅ _) (h.ne ∅ ∅ ∅) q;exact⟨m,by simp only[kas_desc,kEv,q,g,Bool.false_eq_true,if_false,if_true],by lia,by lia,s⟩
def jk5{p m}(h:Pm n p)(d:m<=n)(s:DP lt p m):SP lt (kas_rev p 0 m) m:=λi j a b=>by
 have sz:=h.size;have g:∀{k},k<m->(kas_rev p 0 m).getD k 0=p.getD (m-1 - k) 0:=λ{k} c=>by
  have:=getElem?_mirror_all (xs:=p) (i:=0) (j:=m) ∅ k;rw[if_pos ⟨U4 _,c⟩,Nat.zero_add] at this;unfold kas_rev;rw[Array.getD_eq_getD_getElem?,Array.getD_eq_getD_getElem?,this]
 rw[g ∅,g b];exact s _ _ ∅ ∅
def jeR{p}(o:STO lt n)(t:1<=n)(h:Pm n p):1<=(kEv lt<|kas_count n p).1/\(kEv lt<|kas_count n p).1<=n/\SP lt (kEv lt<|kas_count n p).2 (kEv lt<|kas_count n p).1:=by
 unfold kas_count;rw[yE];obtain⟨a,b,c,d⟩:=jbF o h (n-1) 1 ∅ ∅ (λi j _ _=>by lia);generalize kEv lt (kas_asc p (n-1) 1)=m at a b c d;split
 ·next q=>
  have q:m=n:=by simpa using q
  exact⟨a,by show m<=n;lia,c⟩
 ·next q=>
  have q:m≠n:=by simpa using q
  split
  ·next u=>
   have:=c 0 (m-1) ∅ ∅;simp only[kEv,this,if_true];exact⟨a,by show m<=n;lia,c⟩
  ·have g:m=1:=by lia
   subst g;have d:=d ∅;unfold kas_descPart;rw[yE];obtain⟨f,e,v,b',s⟩:=jbk o h (n-(1+1)) (1+1) ∅ ∅ (λi j k w=>by
    have:i=0/\j=1:=by lia
    rw[this.1,this.2];exact d)
   rw[e];have l:=jk5 h ∅ s;show 1<=(kEv lt<|kas_tail3 f n p).1/\(kEv lt<|kas_tail3 f n p).1<=n/\SP lt (kEv lt<|kas_tail3 f n p).2 (kEv lt<|kas_tail3 f n p).1;unfold kas_tail3;rw[yE];obtain⟨x,y,r,_⟩:=jbF o (h.rev 0 f) (n-f) f ∅ ∅ l;exact⟨by show 1<=kEv lt _;lia,by show kEv lt _<=n;lia,r⟩
theorem Kn{p k}(o:STO lt n)(h:Pm n p)(g:k<n)(s:SP lt p k):∀ f l r,l<=r->r<=k->r-l<=f->(∀ i,i<l->lt (p.getD i 0) (p.getD k 0)=true)->(∀ i,r<=i->i<k->lt (p.getD k 0) (p.getD i 0)=true) ->
  kEv lt (kas_place p k f l r)<=k/\(∀ i,i<kEv lt (kas_place p k f l r)->lt (p.getD i 0) (p.getD k 0)=true)/\(∀ i,kEv lt (kas_place p k f l r)<=i->i<k->lt (p.getD k 0) (p.getD i 0)=true)
 | 0,l,r,u,a,v,b,d=>by
  have:l=r:=by lia
  subst this;exact⟨a,b,d⟩
 | f+1,l,r,u,a,v,b,d=>by
  by_cases q:l ≥ r
  ·have:l=r:=by lia
   subst this;have e:kas_place p k (f+1) l l=.ret l:=if_pos<|M8 _;rw[e];exact⟨a,b,d⟩
  ·have e:kEv lt (kas_place p k (f+1) l r)=if lt (p.getD k 0) (p.getD ((l+r)/2) 0)=true then kEv lt (kas_place p k f l<|(l+r)/2) else kEv lt (kas_place p k f ((l+r)/2+1) r):=by
    have:kas_place p k (f+1) l r=.ask (p.getD k 0) (p.getD ((l+r)/2) 0) λc=>if c=true then kas_place p k f l ((l+r)/2) else kas_place p k f ((l+r)/2+1) r:=if_neg q
    rw[this];show kEv lt (if lt (p.getD k 0) (p.getD ((l+r)/2) 0)=true then _ else _)=_;split<;>rfl
   rw[e];have L:∀{i},p.getD i 0<n:=λ{i}=>h.lt ∅ i;split
   ·next c=>
    exact Kn o h g s f l _ ∅ ∅ ∅ b λi hi m=>by
     by_cases z:i=(l+r)/2
     ·rw[z];exact c
     ·exact o.tr _ _ _ L L L c<|s _ _ ∅ m
   ·next c=>
    have t:=o.to _ _ L L (h.ne (i:=k) (j:=(l+r)/2) ∅ g ∅) ⇑c;exact Kn o h g s f _ r ∅ a ∅ (λi hi=>by
     by_cases z:i=(l+r)/2
     ·rw[z];exact t
     ·exact o.tr _ _ _ L L L (s _ _ ∅ ∅) t) d
theorem jfT(o:STO lt n):∀ f {p} k,Pm n p->SP lt p k->1<=k->k+f=n->SP lt (kEv lt<|kas_bin f p k) n
 | 0,p,k,_,s,_,e=>by rw[<- e];exact s
 | f+1,p,k,h,s,r,e=>by
  have q:kEv lt (kas_bin (f+1) p k)=kEv lt (kas_bin f (bubble p k<|k-kEv lt (kas_place p k k 0 k))<|k+1):=by
   show kEv lt ((kas_place p k k 0 k).bind _)=_;rw[yE]
  rw[q];obtain⟨a,b,c⟩:=Kn o h ∅ s k 0 k (U4 _) (M8 _) ∅ (λi z=>by lia) (λi z t=>by lia);generalize kEv lt (kas_place p k k 0 k)=j at a b c;refine jfT o f (k+1) (h.bub _ _) ?_ ∅ ∅;have sz:=h.size;have g:∀ x,(bubble p k<|k-j).getD x 0=if x=j then p.getD k 0 else if j<x/\x<=k then p.getD (x-1) 0 else p.getD x 0:=λx=>by
   have:=getElem?_bubble (xs:=p) (src:=k) ∅ (k-j) ∅ x;rw[show k-(k-j)=j by lia] at this;rw[Array.getD_eq_getD_getElem?,this];split
   ·exact(Array.getD_eq_getD_getElem? ..).symm
   ·split<;>exact(Array.getD_eq_getD_getElem? ..).symm
  intro x y d u;rw[g,g];by_cases l:x=j
  ·rw[if_pos l,if_neg ∅,if_pos ∅];exact c _ ∅ ∅
  ·rw[if_neg l];by_cases m:y=j
   ·rw[if_pos m,if_neg ∅];exact b _ ∅
   ·rw[if_neg m];by_cases v:j<x
    ·rw[if_pos ∅,if_pos ∅];exact s _ _ ∅ ∅
    ·rw[if_neg ∅];by_cases w:j<y
     ·rw[if_pos ∅];by_cases z:x=y-1
      ·lia
      ·exact s _ _ ∅ ∅
     ·rw[if_neg ∅];exact s _ _ d ∅
def jja(o:STO lt n)(d:1<=n):SP lt (kEv lt<|kas_sort n) n:=by
 unfold kas_sort;have c:Pm n (List.toArray<|List.range n):=List.Perm.refl _;have e:=(ua (lt:=lt) ∅ c n).2;obtain⟨a,b,s⟩:=jeR o d c;rw[yE];generalize kEv lt (kas_count n (List.range n).toArray)=r at *;split
 ·rw[show max r.1 1=r.1 by lia];exact jfT o _ _ e s a ∅
 ·have:r.1=n:=by lia
  rw[<- this];exact s
def jhN{α:Type}{vs:List α}{d:α}{R:α->α->Prop}(o:STO lt vs.length)(h:∀ i j,i<vs.length->j<vs.length->lt i j=true->R (vs.getD i d) (vs.getD j d)):(Y9 lt vs d).Pairwise R:=by
 unfold Y9;split
 ·next q=>
  cases vs with
  | nil=>exact .nil
  | cons a l=>cases l with
   | nil=>simp
   | cons b l=>simp at q;lia
 ·next q=>
  have s:=jja o ∅;have c:=(Kp (lt:=lt) (n:=vs.length) ∅).2;generalize kEv lt (kas_sort vs.length)=p at s c;rw[List.pairwise_map,List.pairwise_iff_getElem];intro i j hi m e;have sz:=c.size;simp only[Array.length_toList] at hi m;have g:∀{k}(f:k<p.size),p.toList[k]'⇑f=p.getD k 0:=λ{k} f=>by simp[Array.getD,f]
  rw[g hi,g m];exact h _ _ (c.lt ∅ _) (c.lt ∅ _)<|s i j e ∅
end
end PySem
namespace K33
open PySem L2 QD
noncomputable def eR(r:EN×Int):D:=.tup [.str r.1.1,.str r.1.2,.int r.2]
def yL(l:LN):frzs (l.map eR)=true:=kY (λ_=>rfl) _
def J6(l:LN):fzs (l.map eR)=l.map eR:=kK (λ_=>rfl) _
def K1(l):clean (dLn true l)=true:=by
 have:ym (l.map vL)=true:=by rw[yJ,List.all_map,List.all_eq_true];intro x _;rfl
 simp[dLn,clean,this]
theorem uE:∀(l a:LN),((a++l).map (·.1)).Nodup->(l.map λr=>(kL r,vL r)).foldl (λacc kv=>VW acc.1 acc.2 kv.1 kv.2) (a.map kL,a.map vL)=((a++l).map kL,(a++l).map vL)
 | [],a,_=>by simp
 | r::l,a,h=>by
  have b:r.1∉a.map (·.1):=by
   rw[N4,U8] at h;intro z;exact h.2.2 _ z r.1 (by simp) rfl
  have e:VW (a.map kL) (a.map vL) (kL r) (vL r)=((a++[r]).map kL,(a++[r]).map vL):=by
   have:=YC r.1 r.2 a;unfold YN at this;rw[if_neg b] at this;exact this
  show List.foldl _ (VW (a.map kL) (a.map vL) (kL r)<|vL r) _=_;rw[e,uE l (a++[r]) ⇑h];simp
theorem Qm:∀(l:LN) o0 o1 o2,jV (gT 3<|gC (jc [] 0)<|gC (jc [] 1)<|gC (jc [] 2) gN) qT (yk #[pKy (pV 0)<|pV 1,pF<|pV 2]) (l.map eR) [o0,o1,o2]=some (l.map λr=>.tup [.kt<|kL r,vL r])
 | [],_,_,_=>rfl
 | r::l,o0,o1,o2=>by
  have a:=Qm l (some<|.str r.1.1) (some<|.str r.1.2)<|some<|.int r.2;have b:gT 3 (gC (jc [] 0)<|gC (jc [] 1)<|gC (jc [] 2) gN) (eR r) [o0,o1,o2]=some [some<|.str r.1.1,some<|.str r.1.2,some<|.int r.2]:=rfl;rw[L5,vv,b,L4];simp[a,qT,kL,vL,kC,jb]
theorem jlt:∀ l:LN,zQ (l.map λr=>.tup [.kt<|kL r,vL r])=some (l.map λr=>(kL r,vL r))
 | []=>rfl
 | r::l=>by rw[L5,zQ,jlt l];rfl
def jbX(h:(l.map (·.1)).Nodup)(b:l.length<=1000):j9 [.lst false<|l.map eR]=some (dLn true l):=by
 have e:=Qm l none none none;have d:jbq (l.map λr=>(kL r,vL r))=(l.map kL,l.map vL):=uE l [] ⇑h;have a:lim l.length=true:=jb ∅;have fd:wK [.lst true<|l.map λr=>.tup [.kt<|kL r,vL r]]=some (dLn true l):=by
  show(zQ _).bind _=_;rw[jlt,L4,d];simp[a,dLn]
 simp[j9,jK,kU,jx,e,fd,yL,a]
def reN(nm:List Nat)(l:LN)(ms:List MV):LN:=ms.foldl (mvF nm) l
def MvsOk(nm:List Nat)(N:W1)(c:Int):LN->List MV->Prop
 | _,[]=>True
 | l,m::ms=>MvOk nm N c l m/\MvsOk nm N c (mvF nm l m) ms
theorem MvsOk.snoc:∀{ms}{l},MvsOk nm N c l ms->MvOk nm N c (reN nm l ms) m->MvsOk nm N c l (ms++[m])
 | [],l,_,h=>⟨h,trivial⟩
 | a::ms,l,h,k=>⟨h.1,MvsOk.snoc h.2 k⟩
def wB(nm)(l)(a)(m):reN nm l (a++[m])=mvF nm (reN nm l a) m:=by simp[reN]
theorem wy(a:nm∈N):∀{ms}{l},LnOk N l->MvsOk nm N c l ms->LnOk N (reN nm l ms)
 | [],l,h,_=>h
 | m::ms,l,h,k=>wy a (l:=mvF nm l m) (jgl h a k.1) k.2
theorem YJ(a:nm∈N)(b:N.length<=6)  : ∀{ms}{l}{o4 o5 o6},LnOk N l->MvsOk nm N c l ms ->
  Ex3 λo4' o5' o6'=>jG (gT 3<|gC (jc [] 4)<|gC (jc [] 5)<|gC (jc [] 6) gN) vj (ms.map eM) [a0,some<|.str nm,a2,some<|dLn true l,o4,o5,o6]=some (.nx [a0,some<|.str nm,a2,some<|dLn true<|reN nm l ms,o4',o5',o6'])
 | [],l,o4,o5,o6,_,_=>⟨o4,o5,o6,rfl⟩
 | m::ms,l,o4,o5,o6,h,k=>by
  obtain⟨o4',o5',o6',e⟩:=YJ a b (o4:=some<|.str m.1) (o5:=some<|.str m.2.1) (o6:=some<|.int m.2.2) (jgl h a k.1) k.2;refine⟨o4',o5',o6',?_⟩;have d:=jb6 (by have:=h.len b;lia) k.1;rw[L5,lpF ?_,e];rfl;show(some _).bind _=_;simp[vj,d,Jb,vV]
theorem JX:∀ l:LN,jbP (l.map kL) (l.map vL)=some ((l.filter λr=>decide<|0<r.2).map eR)
 | []=>rfl
 | r::l=>by
  show(jbP (l.map kL)<|l.map vL).bind _=_;rw[JX l,L4,List.filter_cons];by_cases h:0<r.2
  ·simp[h];rfl
  ·simp[h]
def zx(r:EN×Int):jdN:=(S r.1.1,S r.1.2,r.2)
theorem V9:∀ l:LN,jaE (l.map eR)=some (l.map zx)
 | []=>rfl
 | r::l=>by show(jaE<|l.map eR).bind _=_;rw[V9 l];rfl
def jf9(h:eR r=eR q):r=q:=by
 obtain⟨⟨a,b⟩,n⟩:=r;obtain⟨⟨c,d⟩,m⟩:=q;simp[eR] at h;simp[h]
def ltE(a b:EN×Int):Prop:=a.1.1<b.1.1\/(a.1.1=b.1.1/\a.1.2<b.1.2)
def jk1{a b c}(h:ltE a b)(k:ltE b c):ltE a c:=by
 rcases h with h | ⟨h,d⟩<;>rcases k with k | ⟨k,e⟩
 ·exact .inl<|List.lt_trans h k
 ·exact .inl<|k▸h
 ·exact .inl<|h▸k
 ·exact .inr ⟨h.trans k,List.lt_trans d e⟩
def jfZ{a b}(h:ltE a b)(k:ltE b a):a.1=b.1:=by
 rcases h with h | ⟨h,c⟩<;>rcases k with k | ⟨k,d⟩
 ·exact absurd k<|List.lt_asymm h
 ·exact absurd h (by rw[k];exact List.lt_irrefl _)
 ·exact absurd k (by rw[h];exact List.lt_irrefl _)
 ·exact absurd d<|List.lt_asymm c
def YV{a b:EN×Int}(h:a.1≠b.1):Jy (zx a) (zx b)=true↔ltE a b:=by
 obtain⟨⟨c,d⟩,n⟩:=a;obtain⟨⟨f,g⟩,m⟩:=b;unfold Jy zx ltE;by_cases e:c=f
 ·subst e;have j:¬ d=g:=λz=>h (by rw[z]);have i:¬ S d=S g:=λz=>j<|jbl z;show(if S c=S c then(if S d=S g then decide (n<m) else decide (d<g)) else decide (c<c))=true↔_;rw[if_pos rfl,if_neg i];exact⟨λz=>.inr ⟨rfl,X2 z⟩,λz=>X0 (z.resolve_left<|List.lt_irrefl _).2⟩
 ·have i:¬ S c=S f:=λz=>e<|jbl z;show(if S c=S f then _ else decide (c<f))=true↔_;rw[if_neg i];exact⟨λz=>.inl<|X2 z,λz=>X0<|z.resolve_right λq=>e q.1⟩
def jj0{a b:EN×Int}(h:a.1≠b.1)(k:¬ ltE a b):ltE b a:=by
 by_cases e:a.1.1=b.1.1
 ·refine .inr ⟨e.symm,Std.lt_of_le_of_ne (List.not_lt.mp λz=>k<|.inr ⟨e,z⟩) λz=>h<|Prod.ext e z.symm⟩
 ·exact .inl<|Std.lt_of_le_of_ne (List.not_lt.mp λz=>k<|.inl z) λz=>e z.symm
def jj5{l:LN}(nd:(l.map (·.1)).Nodup):STO (λi j=>Jy ((l.map zx).getD i ("","",0))<|(l.map zx).getD j ("","",0)) l.length:=by
 have g:∀{i}(h:i<l.length),(l.map zx).getD i ("","",0)=zx l[i]:=λ{i} h=>by simp[h]
 have ne:∀{i j}(hi:i<l.length) (a:j<l.length),i≠j->l[i].1≠l[j].1:=λ{i j} hi a b z=>b<|(List.getElem?_inj ⇑hi nd).mp (by simp[hi,a,z]);have lt:∀{i j}(hi:i<l.length) (a:j<l.length),Jy ((l.map zx).getD i ("","",0)) ((l.map zx).getD j ("","",0))=true->i≠j/\ltE l[i] l[j]:=λ{i j} hi a z=>by
  rw[g hi,g a] at z;have b:i≠j:=by
   rintro rfl;simp[Jy] at z
  exact⟨b,(YV<|ne hi a b).mp z⟩
 refine⟨λi j k hi a c d f=>?_,λi j hi a b h=>?_⟩
 ·have q:=jk1 (lt hi a d).2 (lt a c f).2;have e:i≠k:=by
   rintro rfl;exact ne hi a (lt hi a d).1 (jfZ (lt hi a d).2 (lt a c f).2)
  rw[g hi,g c];exact(YV<|ne hi c e).mpr q
 ·rw[g hi,g a] at *;exact(YV<|ne a hi<|Ne.symm b).mpr (jj0 (ne hi a b) λz=>by rw[(YV<|ne hi a b).mpr z] at h;cases h)
def jdm(h:LnOk N l):∃(l':LN),An4 (Qb (l.map zx) (l.map eR)=l'.map eR) (LnOk N l') (l'.Perm l) (l'.Pairwise ltE):=by
 have p:=jax (rs:=l.map zx) (l:=l.map eR);have k:(Qb (l.map zx)<|l.map eR).Pairwise λx y=>∃ a b,x=eR a/\y=eR b/\ltE a b:=jhN (by rw[L1];exact jj5 h.nd) λi j hi f z=>by
  rw[L1] at hi f;have g:∀{i}(h:i<l.length),(l.map zx).getD i ("","",0)=zx l[i]:=λ{i} h=>by simp[h]
  rw[g hi,g f] at z;refine⟨l[i],l[j],by simp[hi],by simp[f],?_⟩;have m:i≠j:=by
   rintro rfl;simp[Jy] at z
  exact(YV λq=>m<|(List.getElem?_inj ⇑hi h.nd).mp (by simp[hi,f,q])).mp z
 obtain⟨l',e,t⟩:=KW λy u=>by
  obtain⟨r,o,rfl⟩:=M5.mp<|p.mem_iff.mp u;exact⟨r,rfl,o⟩
 rw[e] at p k;have s:l'.Perm l:=by
  have q:=p.map λd=>match d with | .tup [.str a,.str b,.int n]=>(((a,b),n):EN×Int) | _=>(([],[]),0)
  rw[U0,U0] at q;have v:((λd=>match d with | .tup [.str a,.str b,.int n]=>(((a,b),n):EN×Int) | _=>(([],[]),0)) ∘ eR)=id:=by funext r;rfl
  rw[v,List.map_id,List.map_id] at q;exact q
 refine⟨l',e,⟨(s.map (·.1)).nodup_iff.mpr h.nd,λr o=>h.mem r<|t r o⟩,s,?_⟩;rw[List.pairwise_map] at k;exact k.imp λ⟨c,d,w,A,q⟩=>by rw[jf9 w,jf9 A];exact q
def Can(l' l:LN):Prop:=l'.Perm (l.filter λr=>decide<|0<r.2)/\l'.Pairwise ltE
def fnL(l:LN)(k:EN):Int:=(yD l k).getD 0
theorem Yp{r}:∀{l:LN},(l.map (·.1)).Nodup->(r∈l↔yD l r.1=some r.2)
 | [],_=>by simp[yD]
 | q::l,nd=>by
  rw[L5,List.nodup_cons] at nd;rw[yD,M4];by_cases e:q.1=r.1
  ·rw[if_pos e];constructor
   ·rintro(rfl | h)
    ·rfl
    ·exact absurd (M5.mpr ⟨r,h,e.symm⟩) nd.1
   ·intro h;exact .inl<|Prod.ext e.symm (by injection h with h;exact h.symm)
  ·rw[if_neg e,<- Yp nd.2];exact⟨λh=>h.resolve_left λz=>e<|by rw[z],.inr⟩
def jlr{A B l m:LN}(c:(A.map (·.1)).Nodup)(d:(B.map (·.1)).Nodup)(h:fnL A=fnL B)(cl:Can l A)(f:Can m B):l=m:=by
 have pos:∀{A:LN},(A.map (·.1)).Nodup->∀ r,r∈A.filter (λr=>decide<|0<r.2)↔fnL A r.1=r.2/\0<r.2:=λ{A} c r=>by
  rw[List.mem_filter,decide_eq_true_iff,Yp c];unfold fnL;constructor
  ·rintro⟨a,b⟩;exact⟨by rw[a];rfl,b⟩
  ·rintro⟨a,b⟩;refine⟨?_,b⟩;cases e:yD A r.1 with
   | none=>rw[e] at a;simp at a;lia
   | some v=>rw[e] at a;exact congrArg some a
 have nd:∀{A:LN},(A.map (·.1)).Nodup->(A.filter λr=>decide<|0<r.2).Nodup:=λc=>((List.pairwise_map.mp c).imp λq z=>q<|by rw[z]).sublist List.filter_sublist;have g:(A.filter λr=>decide<|0<r.2).Perm (B.filter λr=>decide<|0<r.2):=(List.perm_ext_iff_of_nodup (nd c)<|nd d).mpr λr=>by rw[pos c,pos d,h]
 refine(cl.1.trans<|g.trans f.1.symm).eq_of_pairwise (λa b i j n o=>?_) cl.2 f.2;have p:=((pos c a).mp (cl.1.mem_iff.mp i)).1;have s:=((pos d b).mp (f.1.mem_iff.mp j)).1;have k:=jfZ n o;exact Prod.ext k (by rw[<- p,<- s,h,k])
def jhG(h:LnOk N l):LnOk N (l.filter λr=>decide<|0<r.2):=
 ⟨h.nd.sublist<|List.Sublist.map _<|List.filter_sublist,λr a=>h.mem r (List.mem_filter.mp a).1⟩
def jbY(m:nm∈N)(b:N.length<=6)  (h:LnOk N l) (k:MvsOk nm N c l ms):
  ∃(l':LN),An3 (yP [.lst false<|l.map eR,.str nm,.lst false<|ms.map eM]=↑(l'.map eR)) (LnOk N l') (Can l'<|reN nm l ms):=by
 have z:=h.len b;have o:=jbX h.nd ∅;have n:=wy m h k;have p:=n.len b;obtain⟨q,s,t,e⟩:=YJ m b (a0:=‹l.map eR›) (a2:=‹ms.map eM›) (o4:=none) (o5:=none) (o6:=none) h k;have e3:=V9<|(reN nm l ms).filter λr=>decide<|0<r.2;obtain⟨l',u,v,w,x⟩:=jdm<|jhG n;have y:=JX<|reN nm l ms;have d:(((reN nm l ms).filter λr=>decide<|0<r.2).map eR).length<64:=by
  rw[L1];have:=List.length_filter_le (λr:EN×Int=>decide<|0<r.2)<|reN nm l ms
  lia
 have f:frzs (ms.map eM)=true:=kY (λ_=>rfl) _;have a:fzs (ms.map eM)=ms.map eM:=kK (λ_=>rfl) _;have g:jfV (dLn true<|reN nm l ms)=some ((reN nm l ms).map kL,(reN nm l ms).map vL):=rfl;have i:lim ((reN nm l ms).map kL).length=true:=kN ∅;have j:=K1 l;refine⟨l',?_,v,w,x⟩;generalize((reN nm l ms).filter λr=>decide<|0<r.2).map zx=RS at *;simp[yP,jK,qL,o,j,yL,J6,f,a,e,g,y,e3,u,dCB,-List.length_map,i,d]
noncomputable def NS:List Str:=["pool_name","marks","sizes","owed","levels","loans","cash","served","entries","moves"]
abbrev I10(o:Bool)(a0 a1 a2 a3 a4 a5 a6 a7 a8 a9:D):D:=.ins o 0 NS [a0,a1,a2,a3,a4,a5,a6,a7,a8,a9]
def joX:Jf NS [a0,a1,a2,a3,a4,a5,a6,a7,a8,a9] "pool_name" = some a0:=rfl
def jmt:Jf NS [a0,a1,a2,a3,a4,a5,a6,a7,a8,a9] "marks" = some a1:=rfl
def joc:Jf NS [a0,a1,a2,a3,a4,a5,a6,a7,a8,a9] "sizes" = some a2:=rfl
def jo0:Jf NS [a0,a1,a2,a3,a4,a5,a6,a7,a8,a9] "owed" = some a3:=rfl
def jpn:Jf NS [a0,a1,a2,a3,a4,a5,a6,a7,a8,a9] "levels" = some a4:=rfl
def joT:Jf NS [a0,a1,a2,a3,a4,a5,a6,a7,a8,a9] "loans" = some a5:=rfl
def joY:Jf NS [a0,a1,a2,a3,a4,a5,a6,a7,a8,a9] "cash" = some a6:=rfl
def jpt:Jf NS [a0,a1,a2,a3,a4,a5,a6,a7,a8,a9] "entries" = some a8:=rfl
def jpB:Jf NS [a0,a1,a2,a3,a4,a5,a6,a7,a8,a9] "moves" = some a9:=rfl
def g2:ql 0 "sizes" vV (I10 true a0 a1 a2 a3 a4 a5 a6 a7 a8 a9)=some (a2,λz=>I10 true a0 a1 z a3 a4 a5 a6 a7 a8 a9):=rfl
def g3:ql 0 "owed" vV (I10 true a0 a1 a2 a3 a4 a5 a6 a7 a8 a9)=some (a3,λz=>I10 true a0 a1 a2 z a4 a5 a6 a7 a8 a9):=rfl
def g4:ql 0 "levels" vV (I10 true a0 a1 a2 a3 a4 a5 a6 a7 a8 a9)=some (a4,λz=>I10 true a0 a1 a2 a3 z a5 a6 a7 a8 a9):=rfl
def g7:ql 0 "served" vV (I10 true a0 a1 a2 a3 a4 a5 a6 a7 a8 a9)=some (a7,λz=>I10 true a0 a1 a2 a3 a4 a5 a6 z a8 a9):=rfl
def g8:ql 0 "entries" vV (I10 true a0 a1 a2 a3 a4 a5 a6 a7 a8 a9)=some (a8,λz=>I10 true a0 a1 a2 a3 a4 a5 a6 a7 z a9):=rfl
def g9:ql 0 "moves" vV (I10 true a0 a1 a2 a3 a4 a5 a6 a7 a8 a9)=some (a9,λz=>I10 true a0 a1 a2 a3 a4 a5 a6 a7 a8 z):=rfl
def jph:qJ NS [a0,a1,a2,a3,a4,a5,a6,a7,a8,a9] "cash" z=(NS,[a0,a1,a2,a3,a4,a5,z,a7,a8,a9]):=rfl
def jff{a0 a1 a2 a3 a4 a5 a7 a8 a9}{ρ}{i}{pv}{m n}(a:pV i ρ=some (I10 true a0 a1 a2 a3 a4 a5 (.int m) a7 a8 a9))(b:pv ρ=some (.int n)):
  J5 i vV 0 "cash" (λm n=>m-n) pv ρ=some (.nx<|ρ.set i<|some<|I10 true a0 a1 a2 a3 a4 a5 (.int<|m-n) a7 a8 a9):=by
 have e:(NS.length<=900)=True:=by simp[NS]
 unfold J5;rw[a];simp[vV,joY,jph,b,e]
def KI{ρ}{i}{w}{L}{pk pv}{t}{N}{f}{a}{g}{n}(c:pV i ρ=some t)(d:L t=some (dct true N f,a))(e:pk ρ=some (.str w))(h:pv ρ=some (.int n))(b:w∈N)(j:N.length<=1000):
  vn i L pk g pv ρ=some (.nx<|ρ.set i<|some<|a<|dct true N<|put f w<|g (f w) n):=by
 rw[vn,e,L4,show kC (.str w)=some (.str w) from rfl,L4,c,L4,d,L4,show jf6 (dct true N f,a).1=some (N.map KA.str,N.map λn=>D.int<|f n) from rfl,L4,Yn f b,L4,show vg (.int<|f w)=some (f w) from rfl,L4,h,L4,show vg (.int n)=some n from rfl,L4,kN ∅,cond_true,uA b];rfl
noncomputable def dSv(o:Bool)(l:W1):D:=.dK o (l.map KA.str)<|l.map λ_=>D.bl true
noncomputable def JC(l:W1)(w:List Nat):List (List Nat):=if w∈l then l else l++[w]
def jmH(l)(w):kn (l.map KA.str) (l.map λ_=>D.bl true) (.str w) (.bl true)=((JC l w).map KA.str,(JC l w).map λ_=>D.bl true):=by
 have b:(KA.str w∈l.map KA.str)↔w∈l:=by simp
 have c:∀ l:List (List Nat),jb5 (l.map KA.str) (l.map λ_=>D.bl true) (.str w) (.bl true)=l.map λ_=>D.bl true:=λl=>by
  induction l with
  | nil=>rfl
  | cons a l d=>rw[L5,L5,jb5,d];split<;>rfl
 unfold kn JC;by_cases h:w∈l
 ·rw[if_pos h,if_pos<|b.mpr h,c]
 ·rw[if_neg h,if_neg λz=>h<|b.mp z];simp
def jjG(a:pV i ρ=some (I10 true a0 a1 a2 a3 a4 a5 a6 (dSv true l) a8 a9))(b:pk ρ=some (.str w))(c:l.length<=1000):
  Yw i (ql 0 "served" vV) pk (pC<|.bl true) ρ=some (.nx<|ρ.set i<|some<|I10 true a0 a1 a2 a3 a4 a5 a6 (dSv true<|JC l w) a8 a9):=by
 unfold Yw;rw[show(pC<|D.bl true) ρ=some (.bl true) from rfl,L4,a,L4,g7,L4];show((pk ρ).bind λq=>_)=_;rw[b,L4];show(bif lim (l.map KA.str).length&&(true||_) then some (Out.nx<|ρ.set i<|some<|I10 true a0 a1 a2 a3 a4 a5 a6 (.dK true (kn (l.map KA.str) (l.map λ_=>D.bl true) (.str w)<|.bl true).1 (kn (l.map KA.str) (l.map λ_=>D.bl true) (.str w)<|.bl true).2) a8 a9) else none)=_;rw[kN ∅,jmH];rfl
def jd5(h:yq a3 (.str w)=some (.int v)):ji [I10 false a0 a1 a2 a3 a4 a5 a6 a7 a8 a9,.tup [.str jmO,.str w]]=some (.int v):=by
 simp[ji,jK,jP,jo0,h,jgy]
def jas(h:yq a3 (.str w)=some (.int v))(h2:yq a2 (.str w)=some (.int u)):ji [I10 false a0 a1 a2 a3 a4 a5 a6 a7 a8 a9,.tup [.str k8,.str w]]=some (.int<|v+u):=by
 simp[ji,jK,jP,jo0,joc,h,h2,jgy]
def ja0(h:yq a1 (.str w)=some (.int v))(h2:yq a4 (.str w)=some (.int u)):∃ z,ji [I10 false a0 a1 a2 a3 a4 a5 a6 a7 a8 a9,.tup [.str jbi,.str w]]=some (.int z)/\0<=z:=by
 refine⟨if v-u<0 then 0 else v-u,?_,by split<;>lia⟩;have a:ji3 [.int<|v-u,.int 0]=some (.int<|if v-u<0 then 0 else v-u):=rfl;simp[ji,jK,jP,jmt,jpn,h,h2,jgy,a]
noncomputable def mx0(v:Int):Int:=if v<0 then 0 else v
def jbe:ji [I10 false (.str nm) a1 a2 a3 a4 (dLn false l) a6 a7 a8 a9,.tup [.str jS,.str w,.int j]]=some (.int<|mx0<|j-(yD l (nm,w)).getD 0):=by
 have a:zo (dLn false l) [.str nm,.str w] (.int 0)=some (.int<|(yD l (nm,w)).getD 0):=by
  show some ((zy (l.map kL) (l.map vL) [.str nm,.str w]).getD (.int 0))=_;rw[JU (nm,w) l];cases yD l (nm,w)<;>rfl
 generalize(yD l (nm,w)).getD 0=u at a;show _=some (D.int<|if j-u<0 then 0 else j-u);have b:ji3 [.int<|j-u,.int 0]=some (.int<|if j-u<0 then 0 else j-u):=rfl;simp[ji,jK,jP,joT,joX,a,jgy,b]
def Q3:ji [I10 false (.str nm) a1 a2 a3 a4 (dLn false l) a6 a7 a8 a9,.tup [.str yy,.str w]]=some (.int<|(yD l (w,nm)).getD 0):=by
 have a:zo (dLn false l) [.str w,.str nm] (.int 0)=some (.int<|(yD l (w,nm)).getD 0):=by
  show some ((zy (l.map kL) (l.map vL) [.str w,.str nm]).getD (.int 0))=_;rw[JU (w,nm) l];cases yD l (w,nm)<;>rfl
 simp[ji,jK,jP,joT,joX,a,jgy]
def jbd:ji [I10 false a0 a1 a2 a3 a4 a5 (.int v) a7 a8 a9,.tup [.str Vr,.str w]]=some (.int v):=by
 simp[ji,jK,jP,joY,jgy]
structure En where
 pl:Int
 kd:List Nat
 nm:List Nat
 nd:Int
 gt:Int
noncomputable def e5(e:En):D:=.tup [.int e.pl,.str e.kd,.str e.nm,.int e.nd,.int e.gt]
structure Fl where
 sz:List Nat->Int
 ow:List Nat->Int
 lv:List Nat->Int
 ln:LN
 cash:Int
 sv:List (List Nat)
 en:List En
 mv:List MV
noncomputable abbrev PoolS.C(p:PoolS):List (List Nat):=p.told.map (·.1)
noncomputable abbrev PoolS.P(p:PoolS):List (List Nat):=p.marks.map (·.1)
def ju(p:PoolS)(o:Bool)(x:Fl):D:=I10 o (.str p.nm) (dct o p.P<|fnOf p.marks) (dct o p.C x.sz) (dct o p.C x.ow) (dct o p.P x.lv) (dLn o x.ln) (.int x.cash) (dSv o x.sv) (.lst o<|x.en.map e5)<|.lst o<|x.mv.map eM
def jlH(o)(N)(f):fz (dct o N f)=dct false N f:=by
 have:fzs (N.map λn=>D.int<|f n)=N.map λn=>D.int (f n):=kK (λ_=>rfl) _;simp[dct,fz,this]
def jmv(o)(l):fz (dLn o l)=dLn false l:=by
 have:fzs (l.map vL)=l.map vL:=kK (λ_=>rfl) _;simp[dLn,fz,this]
def jli(o)(l):fz (dSv o l)=dSv false l:=by
 have:fzs (l.map λ_=>D.bl true)=l.map λ_=>D.bl true:=kK (λ_=>rfl) _;unfold dSv;rw[fz,this]
def jgv(l:List En):fzs (l.map e5)=l.map e5:=kK (λ_=>rfl) _
def jch(l:List En):frzs (l.map e5)=true:=kY (λ_=>rfl) _
def QA(l:List MV):fzs (l.map eM)=l.map eM:=kK (λ_=>rfl) _
def VZ(l:List MV):frzs (l.map eM)=true:=kY (λ_=>rfl) _
def ji5(p)(o)(x):fz (ju p o x)=ju p false x:=by
 unfold ju I10;simp[ jlH,jmv,jli,fz,jgv,QA]
section
variable {p:PoolS}{x:Fl}{ρ:Rh}{w:List Nat}
def zL{i}{pv}{n}(a:pV i ρ=some (ju p true x))(b:pv ρ=some (.int n)):
  J5 i vV 0 "cash" (λm n=>m-n) pv ρ=some (.nx<|ρ.set i<|some<|ju p true {x with cash:=x.cash-n}):=jff a b
def QC{i}{pv}{e}(a:pV i ρ=some (ju p true x))(b:pv ρ=some (e5 e))(c:x.en.length<=1000):
  kP i (ql 0 "entries" vV) pv ρ=some (.nx<|ρ.set i<|some<|ju p true {x with en:=x.en++[e]}):=by
 rw[kP,b,L4,a,L4];unfold ju;rw[g8,L4,Yz,L4,kN ∅,cond_true,N4];rfl
def jom{i}{pv}{m}(a:pV i ρ=some (ju p true x))(b:pv ρ=some (eM m))(c:x.mv.length<=1000):
  kP i (ql 0 "moves" vV) pv ρ=some (.nx<|ρ.set i<|some<|ju p true {x with mv:=x.mv++[m]}):=by
 rw[kP,b,L4,a,L4];unfold ju;rw[g9,L4,Yz,L4,kN ∅,cond_true,N4];rfl
def jeQ{i}{pk pv}{n}(a:pV i ρ=some (ju p true x))(b:pk ρ=some (.str w))(c:pv ρ=some (.int n))(d:w∈p.C)(e:p.C.length<=1000):
  vn i (ql 0 "owed" vV) pk (λm n=>m-n) pv ρ=some (.nx<|ρ.set i<|some<|ju p true {x with ow:=put x.ow w (x.ow w-n)}):=KI a g3 b c d e
def joi{i}{pk pv}{n}(a:pV i ρ=some (ju p true x))(b:pk ρ=some (.str w))(c:pv ρ=some (.int n))(d:w∈p.C)(e:p.C.length<=1000):
  vn i (ql 0 "sizes" vV) pk (λm n=>m-n) pv ρ=some (.nx<|ρ.set i<|some<|ju p true {x with sz:=put x.sz w (x.sz w-n)}):=KI a g2 b c d e
def jnd{i}{pk pv}{n}(a:pV i ρ=some (ju p true x))(b:pk ρ=some (.str w))(c:pv ρ=some (.int n))(d:w∈p.P)(e:p.P.length<=1000):
  vn i (ql 0 "levels" vV) pk (λm n=>m+n) pv ρ=some (.nx<|ρ.set i<|some<|ju p true {x with lv:=put x.lv w (x.lv w+n)}):=KI a g4 b c d e
def jjW{i}{pk pv}{n}(a:pV i ρ=some (ju p true x))(b:pk ρ=some (.str w))(c:pv ρ=some (.int n))(d:w∈p.P)(e:p.P.length<=1000):
  vn i (ql 0 "levels" vV) pk (λm n=>m-n) pv ρ=some (.nx<|ρ.set i<|some<|ju p true {x with lv:=put x.lv w (x.lv w-n)}):=KI a g4 b c d e
def jlb{i}{pk}(a:pV i ρ=some (ju p true x))(b:pk ρ=some (.str w))(c:x.sv.length<=1000):
  Yw i (ql 0 "served" vV) pk (pC<|.bl true) ρ=some (.nx<|ρ.set i<|some<|ju p true {x with sv:=JC x.sv w}):=jjG a b c
def jnN{o}:zT 0 "pool_name" (ju p o x)=some (.str p.nm):=rfl
def jiU{o}:zT 0 "owed" (ju p o x)=some (dct o p.C x.ow):=rfl
def jn8{o}:zT 0 "levels" (ju p o x)=some (dct o p.P x.lv):=rfl
def Kh{o}:zT 0 "cash" (ju p o x)=some (.int x.cash):=rfl
def jnM{o}:zT 0 "served" (ju p o x)=some (dSv o x.sv):=rfl
def je9{c}(a:w∈p.C)(b:p.C.length<=1000):jr [ju p true x,.str jmO,.str w,.int c]=some (.non,ju p true {x with ow:=put x.ow w (x.ow w-c)}):=by
 simp[jr,qH,yx,jeQ (ρ:=[some<|ju p true x,some<|.str jmO,some<|.str w,some<|.int c,none]) (i:=0) (pk:=pV 2) (pv:=pV 3) rfl rfl rfl a b,VQ]
def jaa{c}(a:w∈p.C)(b:p.C.length<=1000):jr [ju p true x,.str k8,.str w,.int c]=some (.non,ju p true {x with ow:=put x.ow w<|x.ow w-got c (x.ow w),sz:=put x.sz w (x.sz w-(c-got c (x.ow w)))}):=by
 have d:jae [.int c,.int<|x.ow w]=some (.int<|got c<|x.ow w):=rfl;simp[jr,qH,yx,jeQ (ρ:=[some<|ju p true x,some<|.str k8,some<|.str w,some<|.int c,some<|.int<|got c<|x.ow w]) (i:=0) (pk:=pV 2) (pv:=pV 4) rfl rfl rfl a b,joi (ρ:=[some<|ju p true {x with ow:=put x.ow w (x.ow w-got c (x.ow w))},some<|.str k8,some<|.str w,some<|.int c,some<|.int<|got c<|x.ow w]) (i:=0) (pk:=pV 2) (pv:=p2 J9 (pV 3)<|pV 4) (n:=c-got c (x.ow w)) rfl rfl (by simp) a b,jiU (p:=p) (x:=x) (o:=true),yA (o:=true) (f:=x.ow) a,d,VQ]
def jcV{c}(a:w∈p.P)(b:p.P.length<=1000):jr [ju p true x,.str jbi,.str w,.int c]=some (.non,ju p true {x with lv:=put x.lv w (x.lv w+c)}):=by
 simp[jr,qH,yx,jnd (ρ:=[some<|ju p true x,some<|.str jbi,some<|.str w,some<|.int c,none]) (i:=0) (pk:=pV 2) (pv:=pV 3) rfl rfl rfl a b,VQ]
def jiJ{kw}(h:kw=jS\/kw=yy):xc false (.str kw) (.tup [.str [108,101,110,100],.str [98,97,99,107]])=some (.bl true):=by
 rcases h with rfl | rfl<;>rfl
def jcI{m}{N}{c}(k:MvOk p.nm N c x.ln m)(d:x.ln.length<=100)(e:x.mv.length<=1000):jr [ju p true x,.str m.1,.str m.2.1,.int m.2.2]=some (.non,ju p true {x with ln:=mvF p.nm x.ln m,mv:=x.mv++[m]}):=by
 have b:=k.kd.imp id (·.1);have a:∀ r:Rh,Jb yz 0 (ql 0 "loans" vV) #[pF<|qX 0 "pool_name"<|pV 0,pF<|pV 1,pF<|pV 2,pF<|pV 3] (some (ju p true x)::some (.str m.1)::some (.str m.2.1)::some (.int m.2.2)::r)=some (.non,some (ju p true {x with ln:=mvF p.nm x.ln m})::some (.str m.1)::some (.str m.2.1)::some (.int m.2.2)::r):=by
  intro r;have f:ql 0 "loans" vV (ju p true x)=some (dLn true x.ln,λz=>I10 true (.str p.nm) (dct true p.P<|fnOf p.marks) (dct true p.C x.sz) (dct true p.C x.ow) (dct true p.P x.lv) z (.int x.cash) (dSv true x.sv) (.lst true<|x.en.map e5)<|.lst true<|x.mv.map eM):=rfl;have e2:ju p true {x with ln:=mvF p.nm x.ln m}=I10 true (.str p.nm) (dct true p.P<|fnOf p.marks) (dct true p.C x.sz) (dct true p.C x.ow) (dct true p.P x.lv) (dLn true<|mvF p.nm x.ln m) (.int x.cash) (dSv true x.sv) (.lst true<|x.en.map e5) (.lst true<|x.mv.map eM):=rfl;rw[e2];unfold Jb;simp[jnN (p:=p) (x:=x) (o:=true),f,jb6 d k]
 have g:(m.1==jmO)=false:=by lia
 have h:(m.1==k8)=false:=by lia
 have j:(m.1==jbi)=false:=by lia
 simp[jr,qH,yx,a,jom (ρ:=[some<|ju p true {x with ln:=mvF p.nm x.ln m},some<|.str m.1,some<|.str m.2.1,some<|.int m.2.2,none]) (i:=0) (pv:=yk #[pF<|pV 1,pF<|pV 2,pF<|pV 3]) (m:=m) rfl (by rfl) e,jiJ b,k.po,g,h,j,VQ,jb,-kP]
def YQ{kw}{c}(h:kw=Vr\/((kw=jS\/kw=yy)/\¬ 0<c)):jr [ju p true x,.str kw,.str w,.int c]=some (.non,ju p true x):=by
 rcases h with rfl | ⟨rfl | rfl,h⟩
 ·rfl
 ·have a:=jiJ<|.inl rfl;simp[jr,qH,yx,a,h,VQ,jb]
 ·have a:=jiJ<|.inr rfl;simp[jr,qH,yx,a,h,VQ,jb]
end
def Jx(a:pV i ρ=some (ju p true x))(b:pa ρ=some ds)(c:frzs ds=true)
  (d:∀ a0 a1 a2 a3 a4 a5 a6 a7 a8 a9:D,Jf NS [a0,a1,a2,a3,a4,a5,a6,a7,a8,a9] mn=none):yI m i 0 mn pa ρ=(m<|ju p true x::ds).bind λr=>some (r.1,ρ.set i<|some r.2):=by
 rw[yI,b,L4,a,L4];show(bif true&&(frzs ds&&(Jf NS _ mn).isNone) then _ else none)=_;rw[d,c];rfl
def jcq(a:po ρ=some (ju p o x))(b:pa ρ=some ds)
  (c:∀ a0 a1 a2 a3 a4 a5 a6 a7 a8 a9:D,Jf NS [a0,a1,a2,a3,a4,a5,a6,a7,a8,a9] mn=none) (e:m (ju p false x::fzs ds)=some r) (f:clean r=true):J1 m 0 mn po pa ρ=some r:=by
 rw[J1,a,L4];show(bif true&&(Jf NS _ mn).isNone then(pa ρ).bind λds=>(m<|fzs<|ju p o x::ds).bind λd=>bif frzs (ju p o x::ds)||clean d then some d else none else none)=_;rw[c,b,L4,fzs,ji5,e,L4,f,Bool.or_true];rfl
def jd4(k:jd d (.int 0)=some (.str kw))(l:jd d (.int 1)=some (.str w))(fd:fz d=d)
  (j:ji [ju p false x,d]=some (.int nd))
  (give:jr [ju p true {x with cash:=x.cash-got nd x.cash,en:=x.en++[⟨pl,kw,w,nd,got nd x.cash⟩]},.str kw,.str w,.int<|got nd x.cash]=some (.non,ju p true y))
  (h:xc false (.str kw) (.tup [.str [112,97,121],.str [114,101,112,97,121]])=some (.bl b)) (q:x.en.length<=1000) (t:y.sv.length<=1000):
  jo [ju p true x,.int pl,d]=some (.non,ju p true<|if b=true/\got nd x.cash=nd/\0<nd then{y with sv:=JC y.sv w} else y):=by
 have m:jae [.int nd,.int x.cash]=some (.int<|got nd x.cash):=rfl;generalize A:got nd x.cash=g at *;have n:=Kh (p:=p) (x:=x) (o:=true);have a:∀ r:Rh,J1 ji 0 "need_of" (pV 0) #[pV 2] (some (ju p true x)::some (.int pl)::some d::r)=some (.int nd):=λr=>jcq rfl (ds:=[d]) (by simp) (λ_ _ _ _ _ _ _ _ _ _=>rfl) (by rw[show fzs [d]=[d] by rw[fzs,fd];rfl];exact j) rfl;have c:=zL (ρ:=[some<|ju p true x,some<|.int pl,some d,some<|.str kw,some<|.str w,some<|.int nd,some<|.int g]) (i:=0) (pv:=pV 6) rfl rfl;have e:=QC (ρ:=[some<|ju p true {x with cash:=x.cash-g},some<|.int pl,some d,some<|.str kw,some<|.str w,some<|.int nd,some<|.int g]) (i:=0) (pv:=yk #[pF<|pV 1,pF<|pV 3,pF<|pV 4,pF<|pV 5,pF<|pV 6]) (e:=⟨pl,kw,w,nd,g⟩) rfl (by rfl) q;have f:yI jr 0 0 "give" #[pF<|pV 3,pF<|pV 4,pF<|pV 6] [some<|ju p true {x with cash:=x.cash-g,en:=x.en++[⟨pl,kw,w,nd,g⟩]},some<|.int pl,some d,some<|.str kw,some<|.str w,some<|.int nd,some<|.int g]=some (.non,[some<|ju p true y,some<|.int pl,some d,some<|.str kw,some<|.str w,some<|.int nd,some<|.int g]):=by
  rw[Jx rfl (ds:=[.str kw,.str w,.int g]) (by simp) rfl<|λ_ _ _ _ _ _ _ _ _ _=>rfl,give];rfl
 have s:=jlb (ρ:=[some<|ju p true y,some<|.int pl,some d,some<|.str kw,some<|.str w,some<|.int nd,some<|.int g]) (i:=0) (pk:=pV 4) rfl rfl t;have z:ju p true (if b=true/\g=nd/\0<nd then{y with sv:=JC y.sv w} else y)=if b=true/\g=nd/\0<nd then ju p true {y with sv:=JC y.sv w} else ju p true y:=by lia
 rw[z];cases b with
 | false=>simp[jo,qH,jY,k,l,a,n,m,c,e,f,h,VQ,jb,-kP,-J1,-yI]
 | true=>
  by_cases u:g=nd
  ·subst u;by_cases v:0<g
   ·simp[jo,qH,jY,k,l,a,n,m,c,e,f,s,h,v,VQ,jb,-uI,-kP,-J1,-yI]
   ·simp[jo,qH,jY,k,l,a,n,m,c,e,f,s,h,v,VQ,jb,-uI,-kP,-J1,-yI]
  ·simp[jo,qH,jY,k,l,a,n,m,c,e,f,s,h,u,VQ,jb,-uI,-kP,-J1,-yI]
noncomputable def G3:List (List Nat):=[[101,97,116],[103,117,97,114,100],[116,119,105,99,101]]
def tot(es:List En):Int:=(es.map λe=>if e.kd∈G3 then 0 else e.gt).sum
def K0(a b):tot (a++b)=tot a+tot b:=by unfold tot;rw[N4,List.sum_append]
def Ks(e):tot [e]=if e.kd∈G3 then 0 else e.gt:=by simp[tot]
def qE(e:En):Bool:=e.kd==jS||e.kd==yy
def mvE(es:List En):List MV:=(es.filter λe=>qE e&&decide (0<e.gt)).map λe=>(e.kd,e.nm,e.gt)
def YL(a b):mvE (a++b)=mvE a++mvE b:=by unfold mvE;rw[List.filter_append,N4]
noncomputable def jjp(f:EN->Int)(k:EN)(v:Int):EN->Int:=λq=>if q=k then v else f q
def lbF(nm:List Nat)(f:EN->Int)(e:En):EN->Int:=if e.kd=jS then jjp f (nm,e.nm) (f (nm,e.nm)+e.gt) else if e.kd=yy then jjp f (e.nm,nm) (f (e.nm,nm)-e.gt) else f
structure LbC(nm:List Nat)(N:W1)(J:Int->Option D)(f:EN->Int)(e:En):Prop where
 n:e.nm∈N
 g0:0<=e.gt
 g1:e.gt<=e.nd
 l:e.kd=jS->∃ j,0<=e.pl/\J e.pl=some (.tup [.str jS,.str e.nm,.int j])/\e.nd=mx0 (j-f (nm,e.nm))
 b:e.kd=yy->e.nd=f (e.nm,nm)
def jdI(nm:List Nat)(f:EN->Int)(es:List En):EN->Int:=es.foldl (lbF nm) f
def LbAll(nm:List Nat)(N:W1)(J:Int->Option D):(EN->Int)->List En->Prop
 | _,[]=>True
 | f,e::es=>(qE e=true->LbC nm N J f e)/\LbAll nm N J (lbF nm f e) es
theorem LbAll.snoc{nm N J e}:∀{es f},LbAll nm N J f es->(qE e=true->LbC nm N J (jdI nm f es) e)->LbAll nm N J f (es++[e])
 | [],f,_,h=>⟨h,trivial⟩
 | a::es,f,h,k=>⟨h.1,LbAll.snoc h.2 k⟩
def jeA(k q:EN)(v:Int):∀ l:LN,yD (YN l k v) q=if q=k then some v else yD l q:=λl=>by
 have b:∀ l:LN,yD (jbJ l k v) q=if q=k/\k∈l.map (·.1) then some v else yD l q:=λl=>by
  induction l with
  | nil=>simp[jbJ,yD]
  | cons r l a=>
   show(if r.1=q then some (if r.1=k then v else r.2) else yD (jbJ l k v) q)=_;rw[a,yD];by_cases e:r.1=q
   ·subst e;by_cases e2:r.1=k
    ·simp[e2]
    ·simp[e2]
   ·by_cases e2:q=k
    ·subst e2;rw[if_neg e,if_neg e];by_cases m:q∈l.map (·.1)
     ·rw[if_pos ⟨rfl,m⟩,if_pos ⟨rfl,L6 _ m⟩]
     ·rw[if_neg λz=>m z.2,if_neg λz=>(M4.mp z.2).elim (λz=>e z.symm) m]
    ·simp[e,e2]
 unfold YN;by_cases m:k∈l.map (·.1)
 ·rw[if_pos m,b];simp[m]
 ·rw[if_neg m];have c:∀ l:LN,yD (l++[(k,v)]) q=(yD l q).or (if k=q then some v else none):=λl=>by
   induction l with
   | nil=>simp[yD]
   | cons r l a=>
    show(if r.1=q then some r.2 else yD (l++[(k,v)]) q)=(if r.1=q then some r.2 else yD l q).or _;split<;>simp[a]
  rw[c];by_cases e:q=k
  ·subst e;have d:∀ l:LN,¬ q∈l.map (·.1)->yD l q=none:=λl=>by
    induction l with
    | nil=>intro _;rfl
    | cons r l a=>
     intro h;rw[L5,M4] at h;rw[yD,if_neg λz=>h<|.inl z.symm,a λz=>h<|.inr z]
   rw[d l m];simp
  ·have e3:¬ k=q:=λz=>e z.symm;simp[e,e3]
def Kt(l k v):fnL (YN l k v)=jjp (fnL l) k v:=funext λq=>by
 unfold fnL jjp;rw[jeA];split<;>rfl
def Q5(f k):jjp f k (f k)=f:=funext λq=>by unfold jjp;split<;>simp_all
theorem wZ{nm N J}:∀{es L0},LbAll nm N J (fnL L0) es->fnL (reN nm L0<|mvE es)=jdI nm (fnL L0) es
 | [],_,_=>rfl
 | e::es,L0,h=>by
  show fnL (reN nm L0<|mvE<|[e]++es)=jdI nm (lbF nm (fnL L0) e) es;have a:=h.2;rw[YL];by_cases q:(qE e&&decide (0<e.gt))=true
  ·have c:mvE [e]=[(e.kd,e.nm,e.gt)]:=by unfold mvE;rw[List.filter_cons_of_pos (p:=λe=>qE e&&decide (0<e.gt)) q];rfl
   have e2:fnL (mvF nm L0 (e.kd,e.nm,e.gt))=lbF nm (fnL L0) e:=by
    unfold mvF lbF;have k:e.kd=jS\/e.kd=yy:=by simpa [qE] using(Bool.and_eq_true_iff.mp q).1
    rcases k with k | k
    ·rw[if_pos k,if_pos k];exact Kt ..
    ·rw[if_neg<|by show ¬ e.kd=jS;rw[k];decide,if_neg<|by rw[k];decide,if_pos k];exact Kt ..
   rw[<- e2] at a ⊢;rw[c];exact wZ a
  ·have c:mvE [e]=[]:=by unfold mvE;rw[List.filter_cons_of_neg (p:=λe=>qE e&&decide (0<e.gt)) q];rfl
   have e2:lbF nm (fnL L0) e=fnL L0:=by
    unfold lbF;by_cases d:e.kd=jS
    ·have b:qE e=true:=by simp[qE,d]
     have g:=(h.1 b).g0;have:e.gt=0:=by simp[b] at q;lia
     rw[if_pos d,this,Int.add_zero,Q5]
    ·rw[if_neg d];by_cases f:e.kd=yy
     ·have b:qE e=true:=by simp[qE,f]
      have g:=(h.1 b).g0;have:e.gt=0:=by simp[b] at q;lia
      rw[if_pos f,this,Int.sub_zero,Q5]
     ·rw[if_neg f]
   rw[e2] at a ⊢;rw[c];exact wZ a
structure J33(nm:List Nat)(N:W1)(J:Int->Option D)(L0:LN)(c cash:Int)(en:List En)(mv:List MV):Prop where
 cs:cash+tot en=c
 me:mv=mvE en
 lb:LbAll nm N J (fnL L0) en
def J33.o{nm N J a c cash en mv v}(h:J33 nm N J a c cash en mv)(e:En)(k:qE e=false)(t:G3.contains e.kd=false)(d:v=cash-e.gt):J33 nm N J a c v (en++[e]) mv:=by
 refine⟨by have:=h.cs;rw[K0,Ks,if_neg ⇑t];lia,?_,h.lb.snoc λz=>by rw[k] at z;cases z⟩;have b:mvE [e]=[]:=by simp[mvE,k]
 rw[YL,b,M9];exact h.me
theorem J33.z{nm N J a c cash en mv}(h:J33 nm N J a c cash en mv)(e:En)(k:qE e=false)(t:G3.contains e.kd=true):J33 nm N J a c cash (en++[e]) mv:=by
 refine⟨by have:=h.cs;rw[K0,Ks,if_pos ⇑t];lia,?_,h.lb.snoc λz=>by rw[k] at z;cases z⟩;have b:mvE [e]=[]:=by simp[mvE,k]
 rw[YL,b,M9];exact h.me
def J33.b{nm N J d c cash en mv a v}(h:J33 nm N J d c cash en mv)(e:En)(k:qE e=true)(i:v=cash-e.gt)(f:a=mv++mvE [e])(g:LbC nm N J (jdI nm (fnL d) en) e):J33 nm N J d c v (en++[e]) a:=by
 have t:¬ e.kd∈G3:=by
  have:e.kd=jS\/e.kd=yy:=by simpa [qE] using k
  rcases this with q | q<;>rw[q]<;>decide
 exact⟨by have:=h.cs;rw[K0,Ks,if_neg t];lia,by rw[f,YL,h.me],h.lb.snoc λ_=>g⟩
structure FlOk(p:PoolS)(N:W1)(c B:Int)(L0:LN)(J:Int->Option D)(x:Fl):Prop where
 sz:∀ n,0<=x.sz n
 ow:∀ n,0<=x.ow n/\x.ow n<=B
 lv:∀ n,0<=x.lv n
 ln:x.ln=reN p.nm L0 x.mv
 mv:MvsOk p.nm N c L0 x.mv
 c0:0<=x.cash
 c1:x.cash<=c
 svl:x.sv.length<=x.en.length
 mvl:x.mv.length<=x.en.length
 js:J33 p.nm N J L0 c x.cash x.en x.mv
def Qx(l)(w):(JC l w).length<=l.length+1:=by
 unfold JC;split<;>simp
def jfE [Decidable q] (ky:FlOk p N c B L0 J y) (a:y.sv.length+1<=y.en.length):FlOk p N c B L0 J (if q then{y with sv:=JC y.sv w} else y)/\(if q then{y with sv:=JC y.sv w} else y).en=y.en/\(if q then{y with sv:=JC y.sv w} else y).cash=y.cash:=by
 split
 ·exact⟨⟨ky.sz,ky.ow,ky.lv,ky.ln,ky.mv,ky.c0,ky.c1,N6 (Qx _ _) a,ky.mvl,ky.js⟩,rfl,rfl⟩
 ·exact⟨ky,rfl,rfl⟩
def wJ(h:∀ n,0<=f n/\f n<=B)(a:0<=v)(h1:v<=B)(n):0<=put f w v n/\put f w v n<=B:=by
 unfold put;split
 ·exact⟨a,h1⟩
 ·exact h n
def jc0(h:PoolOk O p)(t:∀ w∈O,w∈N)(T:p.nm∈N)(U:N.length<=6)(V:LnOk N L0)(k:FlOk p N c B L0 J x) 
  (W:(d=.tup [.str kw,.str w]/\jbt p.C p.P O kw w)\/(∃ j,kw=jS/\d=.tup [.str kw,.str w,.int j]/\w∈O)) (F:0<=pl) (X:J pl=some d) (Y:x.en.length<=900):
  ∃ x' e,jo [ju p true x,.int pl,d]=some (.non,ju p true x')/\FlOk p N c B L0 J x'/\x'.en=x.en++[e]/\(kw=Vr->x'.cash=0):=by
 have Q:p.C.length<=1000:=by have:=h.told2;rw[L1];lia
 have Z:p.P.length<=1000:=by have:=h.marks2;rw[L1];lia
 have c0:=k.c0;have c1:=k.c1;have svl:=k.svl;have mvl:=k.mvl;have u:LnOk N x.ln:=by rw[k.ln];exact wy T V k.mv
 have hll:=u.len U;have r:jdI p.nm (fnL L0) x.en=fnL x.ln:=by rw[k.ln,k.js.me];exact(wZ k.js.lb).symm
 have key:∀{nd:Int}{y:Fl}{b:Bool},jd d (.int 0)=some (.str kw)->jd d (.int 1)=some (.str w)->fz d=d->ji [ju p false x,d]=some (.int nd)->0<=nd ->
   (0<=got nd x.cash->got nd x.cash<=nd->got nd x.cash<=x.cash->jr [ju p true {x with cash:=x.cash-got nd x.cash,en:=x.en++[⟨pl,kw,w,nd,got nd x.cash⟩]},.str kw,.str w,.int<|got nd x.cash]=some (.non,ju p true y)/\
    y.cash=x.cash-got nd x.cash/\y.en=x.en++[⟨pl,kw,w,nd,got nd x.cash⟩]/\y.sv=x.sv/\(∀ n,0<=y.sz n)/\(∀ n,0<=y.ow n/\y.ow n<=B)/\(∀ n,0<=y.lv n)/\y.ln=reN p.nm L0 y.mv/\MvsOk p.nm N c L0 y.mv/\y.mv.length<=x.mv.length+1/\J33 p.nm N J L0 c y.cash y.en y.mv) ->
   xc false (.str kw) (.tup [.str [112,97,121],.str [114,101,112,97,121]])=some (.bl b)->(kw=Vr->nd=x.cash) ->
   ∃ x' e,jo [ju p true x,.int pl,d]=some (.non,ju p true x')/\FlOk p N c B L0 J x'/\x'.en=x.en++[e]/\(kw=Vr->x'.cash=0):=by
  intro nd y b f i fd v hnd give G H;have I:0<=got nd x.cash/\got nd x.cash<=nd/\got nd x.cash<=x.cash:=by unfold got;split<;>lia
  obtain⟨gv,K,R,L,y4,y5,y6,y7,y8,y9,M⟩:=give I.1 I.2.1 I.2.2;have e:=jd4 f i fd v gv G ∅ (by rw[L];lia);have S:y.en.length=x.en.length+1:=by rw[R];simp
  have ky:FlOk p N c B L0 J y:=⟨y4,y5,y6,y7,y8,by rw[K];lia,by rw[K];lia,by rw[L];lia,by rw[S];exact N6 y9<|Nat.succ_le_succ mvl,M⟩;obtain⟨r1,r2,r3⟩:=jfE (w:=w) (q:=b=true/\got nd x.cash=nd/\0<nd) ky (by rw[L,S];lia);exact⟨_,_,e,r1,r2.trans R,λz=>by rw[r3,K,H z];unfold got;split<;>lia⟩
 rcases W with⟨rfl,hk⟩ | ⟨j,rfl,rfl,a⟩
 ·have f:jd (.tup [.str kw,.str w]) (.int 0)=some (.str kw):=rfl;have i:jd (.tup [.str kw,.str w]) (.int 1)=some (.str w):=rfl;rcases hk with⟨rfl | rfl | rfl,a⟩ | ⟨rfl,a⟩ | ⟨rfl,a⟩
  ·refine key (b:=true) f i rfl (jd5<|yA a) (k.ow w).1 (λg0 g1 g2=>⟨je9 a Q,rfl,rfl,rfl,k.sz,?_,k.lv,k.ln,k.mv,by simp,k.js.o _ rfl rfl rfl⟩) rfl (λz=>absurd z<|by decide);have:=k.ow w;exact wJ k.ow (by dsimp only;lia) (by dsimp only;lia)
  ·have hs:=k.sz w;have ho:=k.ow w;refine key (b:=true) f i rfl (jas (yA a)<|yA a) ∅ (λg0 g1 g2=>⟨jaa a Q,rfl,rfl,rfl,?_,?_,k.lv,k.ln,k.mv,by simp,k.js.o _ rfl rfl rfl⟩) rfl (λz=>absurd z<|by decide)
   ·refine wm k.sz ?_;unfold got;split<;>lia
   ·refine wJ k.ow ?_ ?_
    all_goals
     unfold got;split<;>lia
  ·refine key (b:=false) f i rfl jbd c0 (λg0 g1 g2=>⟨YQ<|.inl rfl,rfl,rfl,rfl,k.sz,k.ow,k.lv,k.ln,k.mv,by simp,k.js.o _ rfl rfl rfl⟩) rfl<|λ_=>rfl
  ·obtain⟨z,A,D⟩:=ja0 (a0:=.str p.nm) (a1:=dct false p.P<|fnOf p.marks) (a2:=dct false p.C x.sz) (a3:=dct false p.C x.ow) (a4:=dct false p.P x.lv) (a5:=dLn false x.ln) (a6:=.int x.cash) (a7:=dSv false x.sv) (a8:=.lst false<|x.en.map e5) (a9:=.lst false<|x.mv.map eM) (w:=w) (yA a)<|yA a;refine key (b:=false) f i rfl A D (λg0 g1 g2=>⟨jcV a Z,rfl,rfl,rfl,k.sz,k.ow,?_,k.ln,k.mv,by simp,?_⟩) rfl<|λz=>absurd z (by decide)
   ·have:=k.lv w;exact wm k.lv (by dsimp only;lia)
   ·exact k.js.o _ rfl rfl rfl
  ·have E:0<=(yD x.ln (w,p.nm)).getD 0:=xi u.mem;by_cases m:0<got ((yD x.ln (w,p.nm)).getD 0) x.cash
   ·refine key (b:=false) (y:={x with cash:=x.cash-got ((yD x.ln (w,p.nm)).getD 0) x.cash,en:=x.en++[⟨pl,yy,w,(yD x.ln (w,p.nm)).getD 0,got ((yD x.ln (w,p.nm)).getD 0) x.cash⟩],ln:=mvF p.nm x.ln (yy,w,got ((yD x.ln (w,p.nm)).getD 0) x.cash),mv:=x.mv++[(yy,w,got ((yD x.ln (w,p.nm)).getD 0) x.cash)]}) f i rfl Q3 E (λg0 g1 g2=>?_) rfl<|λz=>absurd z (by decide);have mk:MvOk p.nm N c x.ln (yy,w,got ((yD x.ln (w,p.nm)).getD 0) x.cash):=⟨.inr ⟨rfl,g1⟩,t w a,m,by dsimp only;lia⟩;refine⟨jcI (x:={x with cash:=x.cash-got ((yD x.ln (w,p.nm)).getD 0) x.cash,en:=x.en++[⟨pl,yy,w,(yD x.ln (w,p.nm)).getD 0,got ((yD x.ln (w,p.nm)).getD 0) x.cash⟩]}) mk ∅ ∅,rfl,rfl,rfl,k.sz,k.ow,k.lv,?_,?_,by simp,?_⟩
    ·dsimp only;rw[wB,<- k.ln]
    ·exact MvsOk.snoc k.mv (by rw[<- k.ln];exact mk)
    ·exact k.js.b _ rfl rfl (by unfold mvE;rw[List.filter_cons_of_pos<|by simp[qE,m]];rfl) ⟨t w a,g0,g1,λz=>absurd z<|by show ¬ yy=jS;decide,λ_=>by rw[r];rfl⟩
   ·exact key (b:=false) f i rfl Q3 E (λg0 g1 g2=>⟨YQ<|.inr ⟨.inr rfl,m⟩,rfl,rfl,rfl,k.sz,k.ow,k.lv,k.ln,k.mv,by simp,k.js.b _ rfl rfl (by unfold mvE;rw[List.filter_cons_of_neg<|by simp[qE,m]];simp) ⟨t w a,g0,g1,λz=>absurd z<|by show ¬ yy=jS;decide,λ_=>by rw[r];rfl⟩⟩) rfl<|λz=>absurd z (by decide)
 ·have f:jd (.tup [.str jS,.str w,.int j]) (.int 0)=some (.str jS):=rfl;have i:jd (.tup [.str jS,.str w,.int j]) (.int 1)=some (.str w):=rfl;have A:=jbe (a1:=dct false p.P<|fnOf p.marks) (a2:=dct false p.C x.sz) (a3:=dct false p.C x.ow) (a4:=dct false p.P x.lv) (l:=x.ln) (nm:=p.nm) (a6:=.int x.cash) (a7:=dSv false x.sv) (a8:=.lst false<|x.en.map e5) (a9:=.lst false<|x.mv.map eM) (w:=w) (j:=j);have D:0<=mx0 (j-(yD x.ln (p.nm,w)).getD 0):=by unfold mx0;split<;>lia
  have s:∀ g,0<=g->g<=mx0 (j-(yD x.ln (p.nm,w)).getD 0)->LbC p.nm N J (jdI p.nm (fnL L0) x.en) ⟨pl,jS,w,mx0<|j-(yD x.ln (p.nm,w)).getD 0,g⟩:=λg g0 g1=>⟨t w a,g0,g1,λ_=>⟨j,F,X,by rw[r];rfl⟩,λz=>absurd z<|by show ¬ jS=yy;decide⟩;generalize mx0 (j-(yD x.ln (p.nm,w)).getD 0)=z at A D s;by_cases m:0<got z x.cash
  ·refine key (b:=false) (y:={x with cash:=x.cash-got z x.cash,en:=x.en++[⟨pl,jS,w,z,got z x.cash⟩],ln:=mvF p.nm x.ln (jS,w,got z x.cash),mv:=x.mv++[(jS,w,got z x.cash)]}) f i rfl A D (λg0 g1 g2=>?_) rfl<|λz=>absurd z (by decide);have mk:MvOk p.nm N c x.ln (jS,w,got z x.cash):=⟨.inl rfl,t w a,m,by dsimp only;lia⟩;refine⟨jcI (x:={x with cash:=x.cash-got z x.cash,en:=x.en++[⟨pl,jS,w,z,got z x.cash⟩]}) mk ∅ ∅,rfl,rfl,rfl,k.sz,k.ow,k.lv,?_,?_,by simp,?_⟩
   ·dsimp only;rw[wB,<- k.ln]
   ·exact MvsOk.snoc k.mv (by rw[<- k.ln];exact mk)
   ·exact k.js.b _ rfl rfl (by unfold mvE;rw[List.filter_cons_of_pos<|by simp[qE,m]];rfl)<|s _ g0 g1
  ·exact key (b:=false) f i rfl A D (λg0 g1 g2=>⟨YQ<|.inr ⟨.inl rfl,m⟩,rfl,rfl,rfl,k.sz,k.ow,k.lv,k.ln,k.mv,by simp,k.js.b _ rfl rfl (by unfold mvE;rw[List.filter_cons_of_neg<|by simp[qE,m]];simp)<|s _ g0 g1⟩) rfl<|λz=>absurd z (by decide)
noncomputable abbrev W3s:=List Nat×Int×Int
noncomputable def eT(t:W3s):D:=.tup [.str t.1,.int t.2.1,.int t.2.2]
def shE(pl:Int)(t:W3s):En:=⟨pl,yY,t.1,t.2.1,t.2.2⟩
theorem jbI:∀(ws:W1) (ns gs:List Int),jav (ws.map D.str) (ns.map D.int) (gs.map D.int)=(ws.zip<|ns.zip gs).map eT
 | [],_,_=>rfl
 | _::_,[],_=>rfl
 | _::_,_::_,[]=>rfl
 | w::ws,n::ns,g::gs=>by
  rw[L5,L5,L5,jav,jbI ws ns gs];rfl
theorem Vu(h:PoolOk O p)  : ∀{T:List W3s}{x}{o6 o7 o8},FlOk p N c B L0 J x->x.en.length+T.length<=950->(T.map (·.1)).Nodup ->
  (∀ t∈T,t.1∈p.C/\t.2.1=x.ow t.1/\0<=t.2.2/\t.2.2<=t.2.1)->(T.map (·.2.2)).sum<=x.cash ->
  Ex4 λ(x':Fl) (o6' o7' o8':Option D)=>An3 (jG (gT 3<|gC (jc [0] 6)<|gC (jc [0] 7)<|gC (jc [0] 8) gN) yr (T.map eT) [some<|ju p true x,some<|.int pl,a2,a3,a4,some<|.bl b,o6,o7,o8]=some (.nx [some<|ju p true x',some<|.int pl,a2,a3,a4,some<|.bl b,o6',o7',o8'])) (FlOk p N c B L0 J x')<|x'.en=x.en++T.map (shE pl)
 | [],x,o6,o7,o8,k,_,_,_,_=>⟨x,o6,o7,o8,rfl,k,by simp⟩
 | t::T,x,o6,o7,o8,k,y,nd,f,A=>by
  obtain⟨l,E,F,G⟩:=f t (by simp);rw[L5,List.nodup_cons] at nd;rw[M1] at y;rw[L5,List.sum_cons] at A;have H:0<=(T.map (·.2.2)).sum:=by
   have:∀(T:List W3s),(∀ t∈T,0<=t.2.2)->0<=(T.map (·.2.2)).sum:=λT=>by
    induction T with
    | nil=>intro _;simp
    | cons a T I=>intro q;rw[L5,List.sum_cons];have:=I<|λt f=>q t (by simp[f]);have:=q a (by simp);lia
   exact this T λg j=>(f g<|by simp[j]).2.2.1
  have K:p.C.length<=1000:=by have:=h.told2;rw[L1];lia
  have c1:=k.c1;have svl:=k.svl;have mvl:=k.mvl;have L:=k.ow t.1
  let M:Fl:={x with cash:=x.cash-t.2.2}
  let P:Fl:={M with ow:=put x.ow t.1 (x.ow t.1-t.2.2)}
  let m:Fl:={P with en:=x.en++[shE pl t]}
  let r:Fl:=if b=true then{m with sv:=JC x.sv t.1} else m
  have Q:FlOk p N c B L0 J r:=by
   have R:(x.en++[shE pl t]).length=x.en.length+1:=by simp
   have v:∀ n,0<=put x.ow t.1 (x.ow t.1-t.2.2) n/\put x.ow t.1 (x.ow t.1-t.2.2) n<=B:=wJ k.ow ∅ ∅;have S:=Qx x.sv t.1;have d:0<=x.cash-t.2.2/\x.cash-t.2.2<=c:=by lia
   cases b with
   | true=>exact⟨k.sz,v,k.lv,k.ln,k.mv,d.1,d.2,by lia,by lia,k.js.o _ rfl rfl rfl⟩
   | false=>exact⟨k.sz,v,k.lv,k.ln,k.mv,d.1,d.2,by lia,by lia,k.js.o _ rfl rfl rfl⟩
  have w:r.en=x.en++[shE pl t]:=by lia
  have U:r.ow=put x.ow t.1 (x.ow t.1-t.2.2):=by lia
  obtain⟨x',o6',o7',o8',e,V,s⟩:=Vu h (pl:=pl) Q (by rw[w];simp;lia) nd.2 (λg j=>by
   have:=f g (by simp[j]);have u:g.1≠t.1:=λz=>nd.1<|z▸M5.mpr ⟨g,j,rfl⟩;rw[U,jmr u];exact this) ∅
  refine⟨x',o6',o7',o8',?_,V,by rw[s,w];simp⟩;rw[L5,lpF ?_,e];show yr [some<|ju p true x,some<|.int pl,a2,a3,a4,some<|.bl b,some<|.str t.1,some<|.int t.2.1,some<|.int t.2.2]=_;apply sq<|zL rfl rfl;apply sq<|jeQ rfl rfl rfl l K;apply sq<|QC (e:=shE pl t) rfl (by rfl) ∅;cases b with
  | false=>rfl
  | true=>exact jlb (pk:=pV 6) (ρ:=[some<|ju p true m,some<|.int pl,a2,a3,a4,some<|.bl true,some<|.str t.1,some<|.int t.2.1,some<|.int t.2.2]) (i:=0) rfl rfl ∅
def qx(l:List Int):frzs (l.map D.int)=true:=kY (λ_=>rfl) _
def qR(l:List Int):fzs (l.map D.int)=l.map D.int:=kK (λ_=>rfl) _
def Vw(l:List Int):ym (l.map D.int)=true:=by
 rw[yJ,List.all_map,List.all_eq_true];intro x _;rfl
theorem xN:∀{a:List α}{b:List β},a.length=b.length->(a.zip b).map (·.2)=b
 | [],[],_=>rfl
 | [],_::_,h=>by simp at h
 | _::_,[],h=>by simp at h
 | a::l,b::m,h=>by simp at h;simp[xN h]
theorem jbo:∀{a:List α}{b:List β},a.length=b.length->(a.zip b).map (·.1)=a
 | [],[],_=>rfl
 | [],_::_,h=>by simp at h
 | _::_,[],h=>by simp at h
 | a::l,b::m,h=>by simp at h;simp[jbo h]
def uP{x}{N O}{c B}(h:PoolOk O p)(k:FlOk p N c B L0 J x)(hB:B<=10 ^ 20)(hc:c<=2 ^ 900){pl:Int}{ws:W1}(hl:ws.length<=20)(R:∀ w∈ws,w∈p.C)(nd:ws.Nodup)(X:x.en.length<=900):
  Ex2 λx' es=>An4 (jI [ju p true x,.int pl,.tup<|ws.map D.str]=some (.non,ju p true x')) (FlOk p N c B L0 J x') (x'.en=x.en++es) (es.length=ws.length):=by
 have c0:=k.c0;have c1:=k.c1
 let ns:=ws.map x.ow
 have d:∀ v∈ns,0<=v/\v<=10 ^ 20:=λv H=>by
  obtain⟨w,_,rfl⟩:=M5.mp H;have:=k.ow w
  lia
 have r:=λv H=>(d v H).1;have j:ns.length=ws.length:=L1 ..;have s:ns.sum<=10 ^ 30:=by
  have:=jgk ns d
  lia
 have l:(vf ns x.cash).length=ws.length:=by rw[zI,j]
 let a:=vf ns x.cash
 let T:=ws.zip<|ns.zip a
 have I:T.map (·.1)=ws:=jbo (by rw[List.length_zip,j,l];simp);have K:T.map (·.2)=ns.zip a:=xN (by rw[List.length_zip,j,l];simp);have L:T.map (·.2.2)=a:=by
  have:T.map (·.2.2)=(T.map (·.2)).map (·.2):=by simp
  rw[this,K];exact xN ∅
 have M:T.length=ws.length:=by rw[<- I,L1]
 have u:∀ t∈T,t.1∈p.C/\t.2.1=x.ow t.1/\0<=t.2.2/\t.2.2<=t.2.1:=by
  intro t P;obtain⟨i,hi⟩:=List.mem_iff_getElem?.mp P;rw[List.getElem?_zip_eq_some] at hi;obtain⟨S,y⟩:=hi;rw[List.getElem?_zip_eq_some] at y;obtain⟨y,Y⟩:=y;have U:=jbZ c0 r Y y;have m:=y;rw[List.getElem?_map,S] at m;simp at m;exact⟨R _<|List.mem_of_getElem? S,m.symm,U⟩
 have Z:∀ g∈a,0<=g:=λg V=>by
  rw[<- L] at V;obtain⟨t,P,rfl⟩:=M5.mp V;exact(u t P).2.2.1
 have hss:a.sum<=x.cash:=by
  rcases uW c0 r with⟨q1,q2⟩ | q
  ·lia
  ·lia
 let b:Bool:=decide (0<ns.sum)&&decide (a=ns)
 obtain⟨x',o6,o7,o8,e,k',Q⟩:=Vu h (a2:=some<|.tup<|ws.map D.str) (a3:=‹ns.map D.int›) (a4:=‹a.map D.int›) (b:=b) (o6:=none) (o7:=none) (o8:=none) k ∅ ∅ u ∅;refine⟨x',T.map<|shE pl,?_,k',Q,by rw[L1,M]⟩;have W:jV (jc [] 0) qT (pF<|p2 yq (qX 0 "owed"<|pV 1)<|pV 0) (ws.map D.str) [none,some<|ju p true x]=some (ns.map D.int):=by
  rw[U0];refine jw rfl (λρ=>∃ o,ρ=[o,some<|ju p true x]) ?_ ⟨none,rfl⟩;rintro q hq ρ ⟨o,rfl⟩;refine⟨[some<|.str q,some<|ju p true x],rfl,?_,_,rfl⟩;simp[jiU (p:=p) (x:=x) (o:=true),yA (o:=true) (f:=x.ow)<|R q hq]
 have z:=Kh (p:=p) (x:=x) (o:=true);have A:lim ws.length=true:=jb ∅;have E:=jh9 true true a ns;have F:jgN 3 [.tup<|ws.map D.str,.lst false<|ns.map D.int,.lst false<|a.map D.int]=some (T.map eT):=by
  rw[jpH rfl rfl rfl (by rw[L1,L1];lia)<|by rw[L1,L1];exact Nat.le_of_eq l.symm,Kg,qR,qR,jbI ws ns a]
 have G:qB [.lst false<|ns.map D.int,.int x.cash]=↑(a.map D.int):=(jdk ∅ d c0 ∅ s);have U:b=(decide (0<ns.sum)&&decide (a=ns)):=rfl
 clear_value T a ns b
 by_cases q:0<ns.sum
 ·have n:b=decide (a=ns):=by lia
  rw[n] at e;simp[jI,qH,yN,jx,W,z,A,G,E,qx,qR,Vw,q,F,e,VQ,v7,Kg]
 ·have n:b=false:=by lia
  rw[n] at e;simp[jI,qH,yN,jx,W,z,A,G,E,qx,qR,Vw,q,F,e,VQ,v7,Kg]
noncomputable abbrev jcT:List Nat:=[103,117,97,114,100]
noncomputable abbrev jhh:List Nat:=[112,97,114,116]
noncomputable abbrev jmS:List Nat:=[116,119,105,99,101]
def jak(h:PoolOk O p)(k:FlOk p N c B L0 J x)  (h1:po∈p.P) (h2:cl∈p.C) (b:x.en.length<=900):
  Ex2 λx' e=>An4 (ye [ju p true x,.int pl,.str po,.str cl]=some (.non,ju p true x')) (FlOk p N c B L0 J x') (x'.en=x.en++[e]) (x'.cash=x.cash):=by
 have d:p.C.length<=1000:=by have:=h.told2;rw[L1];lia
 have i:p.P.length<=1000:=by have:=h.marks2;rw[L1];lia
 have j:=k.ow cl;have svl:=k.svl;have mvl:=k.mvl;have l:jae [.int<|x.ow cl,.int<|x.lv po]=some (.int<|got (x.ow cl)<|x.lv po):=rfl;have v:=jf1 j.1<|k.lv po;generalize got (x.ow cl) (x.lv po)=g at *
 let m:Fl:={x with lv:=put x.lv po (x.lv po-g)}
 let n:Fl:={m with ow:=put x.ow cl (x.ow cl-g)}
 let a:Fl:={n with en:=x.en++[⟨pl,jcT,cl,x.ow cl,g⟩]}
 have q:(x.en++[(⟨pl,jcT,cl,x.ow cl,g⟩:En)]).length=x.en.length+1:=by simp
 refine⟨a,⟨pl,jcT,cl,x.ow cl,g⟩,?_,⟨k.sz,wJ k.ow ∅ ∅,wm k.lv ∅,k.ln,k.mv,k.c0,k.c1,by lia,by lia,k.js.z _ rfl rfl⟩,rfl,rfl⟩;have r:=jiU (p:=p) (x:=x) (o:=true);have s:=yA (o:=true) (f:=x.ow) h2;have t:=jn8 (p:=p) (x:=x) (o:=true);have u:=yA (o:=true) (f:=x.lv) h1;show((yO [some<|ju p true x,some<|.int pl,some<|.str po,some<|.str cl,none,none]).bind (VQ 0))=_;have e:yO [some<|ju p true x,some<|.int pl,some<|.str po,some<|.str cl,none,none]=some (.nx [some<|ju p true a,some<|.int pl,some<|.str po,some<|.str cl,some<|.int<|x.ow cl,some<|.int g]):=by
  apply sq (ρ':=[some<|ju p true x,some<|.int pl,some<|.str po,some<|.str cl,some<|.int<|x.ow cl,none]) (by generalize ju p true x=X at *;generalize dct true p.C x.ow=D1 at *;simp[r,s]);apply sq (ρ':=[some<|ju p true x,some<|.int pl,some<|.str po,some<|.str cl,some<|.int<|x.ow cl,some<|.int g]) (by generalize ju p true x=X at *;generalize dct true p.P x.lv=D2 at *;simp[t,u,l]);apply sq<|jjW rfl rfl rfl h1 i;apply sq<|jeQ rfl rfl rfl h2 d;exact QC rfl (by rfl) ∅
 rw[e];rfl
def jau{p}{x:Fl}{N}{c B}{f}{ts}{a1 a2}{A:List Int}(h:jd ts (.int 0)=↑(A.map D.int))(i:∀ v∈A,0<=v):∀{Q:List W2}{s}{x}{o4 o5 o6 o7},FlOk p N c B f J x->s+Q.length=A.length->x.en.length+Q.length<=900 ->
  Ex6 λx' es o4' o5' o6' o7'=>An4 (jG (gT 2<|gC (jc [0] 4)<|gC (jc [0] 5) gN) vw (jL s<|Q.map e2) [some<|ju p true x,a1,a2,some ts,o4,o5,o6,o7]=some (.nx [some<|ju p true x',a1,a2,some ts,o4',o5',o6',o7'])) (FlOk p N c B f J x') (x'.en=x.en++es) (es.length=Q.length):=by
 intro Q
 induction Q with
 | nil=>
  intro s x o4 o5 o6 o7 k _ _;exact⟨x,[],o4,o5,o6,o7,rfl,k,by simp,rfl⟩
 | cons q Q n=>
  intro s x o4 o5 o6 o7 k r j;rw[M1] at r j;have a:s<A.length:=by lia
  have b:jd (.lst true<|A.map D.int) (.int s)=some (.int A[s]):=by
   rw[jaz ∅ (by rw[L1];lia),N7,List.getElem?_map,X5 a];rfl
  have d:=i _<|List.getElem_mem a;generalize A[s]=ask at b d;have c0:=k.c0;have c1:=k.c1;have svl:=k.svl;have mvl:=k.mvl;have t:jae [.int ask,.int x.cash]=some (.int<|got ask x.cash):=rfl;have F:0<=got ask x.cash/\got ask x.cash<=ask/\got ask x.cash<=x.cash:=by unfold got;split<;>lia
  generalize got ask x.cash=g at *
  let u:Fl:={x with cash:=x.cash-g}
  let w:Fl:={u with en:=x.en++[⟨s,jhh,q.1,ask,g⟩]}
  have y:(x.en++[(⟨s,jhh,q.1,ask,g⟩:En)]).length=x.en.length+1:=by simp
  have z:FlOk p N c B f J w:=⟨k.sz,k.ow,k.lv,k.ln,k.mv,by lia,by lia,by lia,by lia,k.js.o _ rfl rfl rfl⟩;obtain⟨x',es,o4',o5',o6',o7',e,C,l,m⟩:=n (s:=s+1) z ∅ ∅;refine⟨x',⟨s,jhh,q.1,ask,g⟩::es,o4',o5',o6',o7',?_,C,by rw[l];show(x.en++[_])++es=_;simp,by rw[M1,M1,m]⟩;have E:=Kh (p:=p) (x:=x) (o:=true);rw[L5,jL,lpF ?_,e];apply sq (ρ':=[some<|ju p true x,a1,a2,some ts,some<|.int s,some<|e2 q,some<|.int ask,o7]) (by generalize ju p true x=X at *;simp[h,b]);apply sq (ρ':=[some<|ju p true x,a1,a2,some ts,some<|.int s,some<|e2 q,some<|.int ask,some<|.int g]) (by generalize ju p true x=X at *;simp[E,t]);apply sq<|zL rfl rfl;exact QC rfl (by rfl) ∅
def jan:∀{os:List OrdS}{o2},(∀ x∈os,OrdOk C P O x)->nm∈os.map (·.nm) ->
  ∃ o∈os,o.nm=nm/\∃ r,jG (jc [] 2) ya (os.map<|vk false) [a0,some<|.str nm,o2]=some (.rt (vk false o) r):=by
 intro os
 induction os with
 | nil=>
  intro o2 _ h;simp at h
 | cons o os f=>
  intro o2 c h;have d:jd (vk false o) (.int 0)=some (.str o.nm):=rfl;by_cases q:o.nm=nm
  ·refine⟨o,by simp,q,[a0,some<|.str nm,some<|vk false o],?_⟩;have a:(o.nm==nm)=true:=by lia
   rw[L5,jM];simp[ya,d,a,(c o<|by simp).frz]
  ·have a:=U1.mpr q;have g:nm∈os.map (·.nm):=by grind
   obtain⟨i,b,j,r,e⟩:=f (λx k=>c x<|by simp[k]) g;refine⟨i,by simp[b],j,r,?_⟩;have l:ya [a0,some<|.str nm,some<|vk false o]=some (.nx [a0,some<|.str nm,some<|vk false o]):=by
    simp[ya,d,a]
   rw[L5,lpE ?_ l,e];rfl
def jdW{p}{O}(h:PoolOk O p){nm}(a:nm∈p.orders.map (·.nm)):∃ o∈p.orders,o.nm=nm/\vq [jq false p,.str nm]=some (vk false o):=by
 obtain⟨o,b,c,r,e⟩:=jan (a0:=some<|jq false p) (o2:=none) h.orders a;refine⟨o,b,c,?_⟩;have d:jd (jq false p) (.int 4)=‹p.orders.map (vk false)›:=rfl;simp[vq,jK,JA,d,v9 h.orders,Ym h.orders,e]
theorem QV:∀{ns}{l},f∉ns->ns.length=l.length->qJ ns l f v=(ns++[f],l++[v])
 | [],[],_,_=>rfl
 | [],_::_,_,e=>by simp at e
 | _::_,[],_,e=>by simp at e
 | n::ns,x::l,h,e=>by rw[qJ,if_neg λz=>h<|by simp[z],QV (λz=>h<|by simp[z]) ⇑e];rfl
def vR{f}{pv}{r:Rh}{ns}{l}{v}(a:pv (some (.ins true 0 ns l)::r)=some v)(h:f∉ns/\ns.length<=900:=by decide)(e:ns.length=l.length:=by rfl):Jl 0 0 f pv (some (.ins true 0 ns l)::r)=some (.nx<|some (.ins true 0 (ns++[f])<|l++[v])::r):=by
 rw[Jl,a,L4];show(bif (0==0)&&decide (ns.length<=900) then some (Out.nx<|some (D.ins true 0 (qJ ns l f v).1 (qJ ns l f v).2)::r) else none)=_;rw[QV h.1 e,X0 h.2];rfl
def jgM{p}{O}(h:PoolOk O p){S W Rn Lv}{z c}{ln}(a:S.map (·.1)=p.C)(b:W.map (·.1)=p.C)(d:Lv.map (·.1)=p.P)(f:(ln.map (·.1)).Nodup)(e:ln.length<=1000):
  yF [.ins true 0 [] [],jq false p,bkD false S W Rn Lv z,.int c,.lst false<|ln.map eR]=some (.non,ju p true ⟨fnOf S,fnOf W,fnOf Lv,ln,c,[],[],[]⟩):=by
 have t:=h.told2;have u:=h.marks2;have w:S.length<=10:=by have:=congrArg List.length a;rw[L1,L1] at this;lia
 have x:W.length<=10:=by have:=congrArg List.length b;rw[L1,L1] at this;lia
 have y:Lv.length<=10:=by have:=congrArg List.length d;rw[L1,L1] at this;lia
 have g:vh [.lst false<|p.marks.map e2]=some (dct true p.P<|fnOf p.marks):=yG h.marksn ∅;have i:vh [.lst false<|S.map e2]=some (dct true p.C<|fnOf S):=by rw[<- a];exact yG (by rw[a];exact h.toldn) ∅
 have j:vh [.lst false<|W.map e2]=some (dct true p.C<|fnOf W):=by rw[<- b];exact yG (by rw[b];exact h.toldn) ∅
 have k:vh [.lst false<|Lv.map e2]=some (dct true p.P<|fnOf Lv):=by rw[<- d];exact yG (by rw[d];exact h.marksn) ∅
 have eL:=jbX f e;have l:=K1 ln;have m:jd (bkD false S W Rn Lv z) (.int 0)=‹S.map e2›:=rfl;have n:jd (bkD false S W Rn Lv z) (.int 1)=‹W.map e2›:=rfl;have o:jd (bkD false S W Rn Lv z) (.int 3)=‹Lv.map e2›:=rfl;have q:jd (jq false p) (.int 0)=some (.str p.nm):=rfl;have r:jd (jq false p) (.int 2)=‹p.marks.map e2›:=rfl;generalize bkD false S W Rn Lv z=BK,jq false p=PP at *;show _=some (D.non,D.ins true 0 NS [.str p.nm,dct true p.P<|fnOf p.marks,dct true p.C<|fnOf S,dct true p.C<|fnOf W,dct true p.P<|fnOf Lv,dLn true ln,.int c,.dK true [] [],.lst true [],.lst true []]);generalize dct true p.P (fnOf p.marks)=a1,dct true p.C (fnOf S)=a2,dct true p.C (fnOf W)=a3,dct true p.P (fnOf Lv)=a4,dLn true ln=a5 at *;have s:qf [some<|.ins true 0 [] [],some PP,some BK,some<|.int c,‹ln.map eR›]=some (.nx [some<|.ins true 0 NS [.str p.nm,a1,a2,a3,a4,a5,.int c,.dK true [] [],.lst true [],.lst true []],some PP,some BK,some<|.int c,‹ln.map eR›]):=by
  apply sq<|vR (v:=.str p.nm) (by simp[q]);apply sq<|vR (v:=a1) (by simp[r,g]);apply sq<|vR (v:=a2) (by simp[m,i]);apply sq<|vR (v:=a3) (by simp[n,j]);apply sq<|vR (v:=a4) (by simp[o,k]);apply sq<|vR (v:=a5) (by simp[eL,l,J6]);apply sq<|vR (v:=.int c) (by simp);apply sq<|vR rfl;apply sq<|vR (v:=.lst true []) (by rfl);exact vR (by rfl)
 exact congrArg (Option.bind · (VQ 0)) s
def joE(o)(w):∀ l:List (List Nat),∃ b,uV true (.str w) (dSv o l)=some (.bl b):=λl=>⟨_,rfl⟩
def xq(t:NC.length<=1000)  : ∀{R:List W2}{acc}{o4 o5 o6},(∀ q∈R,q.1∈NC/\0<=q.2)->acc.length+R.length<=1000 ->
  Ex4 λ(R':List W2) o4' o5' o6'=>An3 (jG (gT 2<|gC (jc [] 4)<|gC (jc [] 5) gN) jA (R.map e2) [some<|ju p false x,a1,some<|dct true NC f,↑(acc.map e2),o4,o5,o6]=some (.nx [some<|ju p false x,a1,some<|dct true NC f,↑((acc++R').map e2),o4',o5',o6'])) (R'.map (·.1)=R.map (·.1)) (∀ q∈R',0<=q.2):=by
 intro R
 induction R with
 | nil=>
  intro acc o4 o5 o6 _ _;exact⟨[],o4,o5,o6,by simp,rfl,by simp⟩
 | cons q R u=>
  intro acc o4 o5 o6 c v;rw[M1] at v;obtain⟨b,m⟩:=joE false q.1 x.sv;have n:=jnM (p:=p) (x:=x) (o:=false);have g:=yA (o:=true) (f:=f) (c q<|by simp).1;have key:∃ d o6',jA [some<|ju p false x,a1,some<|dct true NC f,↑(acc.map e2),some<|.str q.1,some<|.int q.2,o6]=some (.nx [some<|ju p false x,a1,some<|dct true NC f,↑((acc++[d]).map e2),some<|.str q.1,some<|.int q.2,o6'])/\d.1=q.1/\0<=d.2:=by
   by_cases s:0<f q.1
   ·cases b with
    | true=>exact⟨(q.1,q.2+1),some<|.bl true,by simp(disch:=first | lia | (simp;done) | (simp;lia)) [jA,g,n,m,s,jb,e2],rfl,by have:=(c q<|by simp).2;dsimp only;lia⟩
    | false=>exact⟨(q.1,0),some<|.bl false,by simp(disch:=first | lia | (simp;done) | (simp;lia)) [jA,g,n,m,jb,e2],rfl,Int.le_refl _⟩
   ·exact⟨(q.1,0),some<|.bl false,by simp(disch:=first | lia | (simp;done) | (simp;lia)) [jA,g,s,jb,e2],rfl,Int.le_refl _⟩
  obtain⟨d,o6',h,hd,i⟩:=key;obtain⟨R',o4',o5',a,e,j,k⟩:=u (acc:=acc++[d]) (λr l=>c r<|by simp[l]) (by simp;lia);refine⟨d::R',o4',o5',a,?_,by rw[L5,L5,j,hd],λr l=>(M4.mp l).elim (λz=>by rw[z];exact i) (k r)⟩;rw[L5,lpE ?_ h,e];simp;rfl
def JP(h:po ρ=some (dct o M f)):yt po ρ=↑((sz' M f).map e2):=by
 unfold yt;rw[h];show(bif frzs (M.map λn=>D.int<|f n) then some (D.lst true<|((M.map KA.str).zip (M.map λn=>D.int<|f n)).map λp=>D.tup [kaD p.1,p.2]) else none)=_;rw[ur,zg];simp[sz',e2]
def jdS{x}{O}(h:PoolOk O p){S W Rn Lv}{z}(a:S.map (·.1)=p.C)(b:Rn.map (·.1)=p.C)(c:∀ q∈Rn,0<=q.2):
  ∃ R',An3 (R'.map (·.1)=p.C) (∀ q∈R',0<=q.2) (jF [ju p false x,bkD false S W Rn Lv z]=some (bkD true (sz' p.C x.sz) (sz' p.C x.ow) R' (sz' p.P x.lv) z)):=by
 have w:=h.told2;have y:S.length<=10:=by have:=congrArg List.length a;rw[L1,L1] at this;lia
 have A:Rn.length<=10:=by have:=congrArg List.length b;rw[L1,L1] at this;lia
 have j:vh [.lst false<|S.map e2]=some (dct true p.C<|fnOf S):=by rw[<- a];exact yG (by rw[a];exact h.toldn) ∅
 obtain⟨R',k,l,m,e,d,g⟩:=xq (p:=p) (x:=x) (NC:=p.C) (f:=fnOf S) (by rw[L1];lia) (a1:=some<|bkD false S W Rn Lv z) (acc:=[]) (o4:=none) (o5:=none) (o6:=none) (λq i=>⟨by rw[<- b];exact M5.mpr ⟨q,i,rfl⟩,c q i⟩) (by simp;lia);rw[X4,List.map_nil] at e;refine⟨R',by rw[d,b],g,?_⟩;have n:jd (bkD false S W Rn Lv z) (.int 0)=‹S.map e2›:=rfl;have o:jd (bkD false S W Rn Lv z) (.int 2)=‹Rn.map e2›:=rfl;have s:jd (bkD false S W Rn Lv z) (.int 4)=some (.int z):=rfl;have t:∀ r:Rh,yt (qX 0 "sizes"<|pV 0) (some (ju p false x)::r)=↑((sz' p.C x.sz).map e2):=λr=>JP rfl;have u:∀ r:Rh,yt (qX 0 "owed"<|pV 0) (some (ju p false x)::r)=↑((sz' p.C x.ow).map e2):=λr=>JP rfl;have v:∀ r:Rh,yt (qX 0 "levels"<|pV 0) (some (ju p false x)::r)=↑((sz' p.P x.lv).map e2):=λr=>JP rfl;show _=some (D.tup [.lst true<|(sz' p.C x.sz).map e2,.lst true<|(sz' p.C x.ow).map e2,.lst true<|R'.map e2,.lst true<|(sz' p.P x.lv).map e2,.int z]);simp(disch:=first | lia | (simp;done) | (simp;lia)) [jF,jK,vM,n,o,s,j,yh,Ji,e,t,u,v,jb,-yt]
def jai{Q:List W2}(h:PoolOk O p)(k:FlOk p N c B L0 J x)(M:c<=2 ^ 900)  (n:∀ q∈Q,Wd q.1/\1<=q.2/\q.2<=10) (j:Q.length<=10) (F:x.en.length<=100):
  Ex2 λx' es=>An4 (jJ [ju p true x,.lst false<|Q.map e2]=some (.non,ju p true x')) (FlOk p N c B L0 J x') (x'.en=x.en++es) (es.length<=11):=by
 have c0:=k.c0;have c1:=k.c1;have r:∀ q∈Q,PtOk q:=λq t=>⟨(n q t).2.1,(n q t).2.2⟩;have u:=jee j r c0 ∅;have R:=jes (P:=Q) (c:=x.cash);obtain⟨b,es,v,w,y,A,e,a,f,G⟩:=jau (ts:=.tup [.lst true<|(yB Q x.cash).1.map D.int,.int (yB Q x.cash).2]) (a1:=‹Q.map e2›) (a2:=some<|.int x.cash) rfl (jhE r c0) (Q:=Q) (s:=0) (x:=x) (o4:=none) (o5:=none) (o6:=none) (o7:=none) k ∅ ∅;have g:=Kh (p:=p) (x:=x) (o:=true);have H:jd (.tup [.lst true<|(yB Q x.cash).1.map D.int,.int (yB Q x.cash).2]) (.int 0)=↑((yB Q x.cash).1.map D.int):=rfl;have C:jd (.tup [.lst true<|(yB Q x.cash).1.map D.int,.int (yB Q x.cash).2]) (.int 1)=some (.int (yB Q x.cash).2):=rfl;by_cases E:0<(yB Q x.cash).2
 ·let d:En:=⟨-1,jmS,[],(yB Q x.cash).1.sum,x.cash⟩
  let l:Fl:={b with en:=b.en++[d]}
  have S:(b.en++[d]).length=b.en.length+1:=by simp
  have I:=a.svl;have K:=a.mvl;refine⟨l,es++[d],?_,⟨a.sz,a.ow,a.lv,a.ln,a.mv,a.c0,a.c1,by lia,by lia,a.js.z _ rfl rfl⟩,by show b.en++[d]=_;rw[f];simp,by simp;lia⟩;have m:b.en.length<=1000:=by rw[f,N3];lia
  have s2:=QC (ρ:=[some<|ju p true b,‹Q.map e2›,some<|.int x.cash,some<|.tup [.lst true<|(yB Q x.cash).1.map D.int,.int (yB Q x.cash).2],v,w,y,A]) (i:=0) (pv:=yk #[p1 Ql<|pI 1,pS [116,119,105,99,101],pS [],pCB jcb #[p2 jd (pV 3)<|pI 0],pF<|pV 2]) (e:=d) rfl (by simp[jb,e5,d,H]) m;have L:ju p true {b with en:=b.en++[d]}=ju p true l:=rfl;rw[L] at s2
  clear_value l d
  simp[jJ,qH,yK,g,u,yh,Ji,e,C,E,s2,VQ,-kP]
 ·refine⟨b,es,?_,a,f,by lia⟩;simp[jJ,qH,yK,g,u,yh,Ji,e,C,E,VQ]
def jeY (h : PoolOk O p) (r : ∀ w ∈ O, w ∈ N) (s : p.nm ∈ N) (t : N.length <= 6) (v : LnOk N L0) (y : B <= 10 ^ 20) (z : c <= 2 ^ 900)  (k : FlOk p N c B L0 J x)  (A : RuleS p.C p.P O d) (l : 0 <= pl) (E : J pl = some d) (F : x.en.length <= 800)
     : ∃ x' es,qp [a0,a1,a2,a3,a4,a5,some<|ju p true x,some<|.int pl,some d,a9]=some (.nx [a0,a1,a2,a3,a4,a5,some<|ju p true x',some<|.int pl,some d,a9])/\FlOk p N c B L0 J x'/\x'.en=x.en++es/\es.length<=20/\∀ w,d=.tup [.str Vr,.str w]->x'.cash=0:=by
 have a:∀{kw w},((d=.tup [.str kw,.str w]/\jbt p.C p.P O kw w)\/(∃ j,kw=jS/\d=.tup [.str kw,.str w,.int j]/\w∈O))->(kw==yY)=false->jd d (.int 0)=some (.str kw)->frz d=true->fz d=d ->
   ∃ x' es,qp [a0,a1,a2,a3,a4,a5,some<|ju p true x,some<|.int pl,some d,a9]=some (.nx [a0,a1,a2,a3,a4,a5,some<|ju p true x',some<|.int pl,some d,a9])/\FlOk p N c B L0 J x'/\x'.en=x.en++es/\es.length<=20/\∀ w,d=.tup [.str Vr,.str w]->x'.cash=0:=by
  intro kw w hd n b f G;obtain⟨x',e,ex,o,H,I⟩:=jc0 h r s t v k hd l E ∅;refine⟨x',[e],?_,o,H,by simp,λu q=>I<|by rw[q] at b;cases b;rfl⟩;have m:=Jx (m:=jo) (mn:="take_rule") (pa:=#[pF<|pV 7,pF<|pV 8]) (ρ:=[a0,a1,a2,a3,a4,a5,some<|ju p true x,some<|.int pl,some d,a9]) (i:=6) (ds:=[.int pl,d]) rfl (by simp[f]) (by simp[f])<|λ_ _ _ _ _ _ _ _ _ _=>rfl;rw[ex,L4] at m;simp[qp,b,n,m,-yI]
 cases A with
 | two kw w n Q R g=>
  exact a (.inl ⟨rfl,g⟩) (U1.mpr n) rfl rfl rfl
 | lend w i K g=>exact a (.inr ⟨i,rfl,rfl,g⟩) rfl rfl rfl rfl
 | share ws L K g nd=>
  obtain⟨x',es,ex,o,bl,M⟩:=uP h k y z (N6 L<|by decide) g nd ∅;refine⟨x',es,?_,o,bl,by lia,λu q=>by cases q⟩;have m:=Jx (m:=jI) (mn:="take_share") (pa:=#[pF<|pV 7,pF<|p2 jd (pV 8)<|pI 1]) (ρ:=[a0,a1,a2,a3,a4,a5,some<|ju p true x,some<|.int pl,some<|.tup [.str yY,.tup<|ws.map D.str],a9]) (i:=6) (ds:=[.int pl,.tup<|ws.map D.str]) rfl (by simp[jgy]) (by simp)<|λ_ _ _ _ _ _ _ _ _ _=>rfl;rw[ex,L4] at m;have b:jd (.tup [.str yY,.tup<|ws.map D.str]) (.int 0)=some (.str yY):=rfl;simp[qp,b,m,-yI]
def jay(h:PoolOk O p)(n:∀ w∈O,w∈N)(o:p.nm∈N)(q:N.length<=6)(r:LnOk N L0)(t:B<=10 ^ 20)(v:c<=2 ^ 900)  : ∀{R}{s}{x}{o7 o8},(∀ d∈R,RuleS p.C p.P O d)->0<=s->(∀(i:Nat) d,R[i]?=some d->J (s+i)=some d)->FlOk p N c B L0 J x->x.en.length+20*R.length<=800 ->
  Ex4 λx' es o7' o8'=>An6 (jG (gT 2<|gC (jc [] 7)<|gC (jc [] 8) gN) qp (Yc s R) [a0,a1,a2,a3,a4,a5,some<|ju p true x,o7,o8,a9]=some (.nx [a0,a1,a2,a3,a4,a5,some<|ju p true x',o7',o8',a9])) (FlOk p N c B L0 J x') (x'.en=x.en++es) (es.length<=20*R.length) (R=[]->x'=x) (∀ R0 w,R=R0++[.tup [.str Vr,.str w]]->x'.cash=0):=by
 intro R
 induction R with
 | nil=>
  intro s x o7 o8 _ _ _ k _;exact⟨x,[],o7,o8,rfl,k,by simp,by simp,λ_=>rfl,λR0 w z=>by simp at z⟩
 | cons d R y=>
  intro s x o7 o8 l A m k f;rw[M1] at f;obtain⟨I,g,D,E,b,K,F⟩:=jeY h n o q r t v k (l d<|by simp) A (by have:=m 0 d rfl;simpa using this) ∅;obtain⟨x',es,o7',o8',e,G,j,L,w1,w2⟩:=y (s:=s+1) (λd hd=>l d<|by simp[hd]) ∅ (λi u H=>by have:=m (i+1) u ⇑H;rwa [show s+((i+1:Nat):Int)=s+1+i by lia] at this) E (by rw[b,N3];lia);refine⟨x',g++es,o7',o8',?_,G,by rw[j,b,List.append_assoc],by rw[N3,M1];lia,λ(z:d::R=[])=>(nomatch z),λR0 w z=>?_⟩
  rotate_left
  ·cases R0 with
   | nil=>
    cases z;rw[w1 rfl];exact F w rfl
   | cons a R0=>
    cases z;exact w2 R0 w rfl
  rw[Yc,lpE ?_ D,e];rfl
def xH(h:PoolOk O p)  : ∀{G:List WG}{s}{x}{o7 o9},(∀ g∈G,g.1∈p.P/\g.2∈p.C)->FlOk p N c B L0 J x->x.en.length+G.length<=900 ->
  Ex4 λx' es o7' o9'=>An5 (jG (gT 2<|gC (jc [] 7)<|gC (jc [] 9) gN) Kj (jL s<|G.map eG) [a0,a1,a2,a3,a4,a5,some<|ju p true x,o7,a8,o9]=some (.nx [a0,a1,a2,a3,a4,a5,some<|ju p true x',o7',a8,o9'])) (FlOk p N c B L0 J x') (x'.en=x.en++es) (es.length=G.length) (x'.cash=x.cash):=by
 intro G
 induction G with
 | nil=>
  intro s x o7 o9 _ k _;exact⟨x,[],o7,o9,rfl,k,by simp,rfl,rfl⟩
 | cons g G j=>
  intro s x o7 o9 b k d;rw[M1] at d;obtain⟨u,l,ex,n,a,c1⟩:=jak h k (b g<|by simp).1 (b g<|by simp).2 ∅;obtain⟨x',es,o7',o9',e,o,f,q,r⟩:=j (o7:=some<|.int s) (o9:=some<|eG g) (λg t=>b g<|by simp[t]) n (by rw[a,N3,List.length_singleton];lia);refine⟨x',l::es,o7',o9',?_,o,by rw[f,a];simp,by rw[M1,q,M1],r.trans c1⟩;have m:=Jx (m:=ye) (mn:="take_guard") (pa:=#[pF<|pV 7,pF<|p2 jd (pV 9)<|pI 0,pF<|p2 jd (pV 9)<|pI 1]) (ρ:=[a0,a1,a2,a3,a4,a5,some<|ju p true x,some<|.int s,a8,some<|eG g]) (i:=6) rfl (by rfl) rfl<|λ_ _ _ _ _ _ _ _ _ _=>rfl;rw[ex,L4] at m;rw[L5,jL,lpF ?_,e];simp[Kj,m,-yI]
def jls(a:pV i ρ=some (ju p true x))(b:pe ρ=some r):jjy i 0 "entries" "moves" pe ρ=some (.tup [.lst true<|x.en.map e5,r,.lst true<|x.mv.map eM],ρ.set i none):=by
 rw[jjy,a,L4];have c:zf (ju p true x)=some (0,NS,[.str p.nm,dct true p.P<|fnOf p.marks,dct true p.C x.sz,dct true p.C x.ow,dct true p.P x.lv,dLn true x.ln,.int x.cash,dSv true x.sv,.lst true<|x.en.map e5,.lst true<|x.mv.map eM]):=rfl;rw[c,L4,jpt,jpB,b];rfl
structure BkOk(p:PoolS)(B:Int)(S W Rn Lv:List W2):Prop where
 s1:S.map (·.1)=p.C
 s2:∀ q∈S,0<=q.2
 w1:W.map (·.1)=p.C
 w2:∀ q∈W,0<=q.2/\q.2<=B
 r1:Rn.map (·.1)=p.C
 l1:Lv.map (·.1)=p.P
 l2:∀ q∈Lv,0<=q.2
 r2:∀ q∈Rn,0<=q.2
def xW{B}{S:List W2}(a:0<=B)(h:∀ q∈S,q.2<=B)(n):fnOf S n<=B:=by
 unfold fnOf
 induction S with
 | nil=>exact a
 | cons q S b=>
  rw[lkp];by_cases e:q.1=n
  ·rw[if_pos e];exact h q (by simp)
  ·rw[if_neg e];exact b λr c=>h r (by simp[c])
noncomputable def ruF(o:OrdS)(i:Int):Option D:=(List.replicate o.parts.length (.tup [])++o.rules)[i.toNat]?
def jg6{p:PoolS}{N O:W1}{c B:Int}{a:LN}(h:PoolOk O p)(hO:∀ w∈O,w∈N)(hn:p.nm∈N)(X:N.length<=6)(G:LnOk N a)(H:0<=B)(hB:B<=10 ^ 20)(I:0<=c)(Y:c<=2 ^ 900){S W Rn Lv:List W2}{z:Int}(b:BkOk p B S W Rn Lv){nm:List Nat}(hm:nm∈p.orders.map (·.nm)):
  Ex3 λ(x:Fl) (es:List En) (R':List W2)=>An8 (wA [jq false p,.str nm,bkD false S W Rn Lv z,.int c,.lst false<|a.map eR]=some (.tup [.lst true<|es.map e5,bkD true (sz' p.C x.sz) (sz' p.C x.ow) R' (sz' p.P x.lv) z,.lst true<|x.mv.map eM])) (∃ o∈p.orders,o.nm=nm/\FlOk p N c B a (ruF o) x) (R'.map (·.1)=p.C) (∀ q∈R',0<=q.2) (es.length<=300) (x.mv.length<=300) (x.cash=0) (x.en=es):=by
 obtain⟨o,Z,t,en⟩:=jdW h hm;have f:=h.orders o Z;have hll:=G.len X;have ei:=jgM h (c:=c) (z:=z) (Rn:=Rn) b.s1 b.w1 b.l1 G.nd ∅;have k0:FlOk p N c B a (ruF o) ⟨fnOf S,fnOf W,fnOf Lv,a,c,[],[],[]⟩:=⟨JM b.s2,λn=>⟨JM (λq J=>(b.w2 q J).1) n,xW H (λq J=>(b.w2 q J).2) n⟩,JM b.l2,rfl,trivial,I,Int.le_refl _,by simp,by simp,⟨by simp[tot],rfl,trivial⟩⟩;have e:(⟨fnOf S,fnOf W,fnOf Lv,a,c,[],[],[]⟩:Fl).en=[]:=rfl;generalize(⟨fnOf S,fnOf W,fnOf Lv,a,c,[],[],[]⟩:Fl)=x0 at ei k0 e;obtain⟨x1,es,e1,k1,u,esl⟩:=jai h k0 Y f.parts f.plen (by rw[e];simp);have x1l:x1.en.length<=11:=by rw[u,e,X4];lia
 have rl:=f.len;obtain⟨x2,v,K,F,L,k2,y,n2,_,c2⟩:=jay h hO hn X G hB Y (a0:=some<|jq false p) (a1:=some<|.str nm) (a2:=some<|bkD false S W Rn Lv z) (a3:=some<|.int c) (a4:=‹a.map eR›) (a5:=some<|vk false o) (a9:=none) (s:=o.parts.length) (o7:=none) (o8:=none) f.rules ∅ (λi d hd=>by unfold ruF;rw[show((o.parts.length:Int)+(i:Int)).toNat=o.parts.length+i by lia,List.getElem?_append_right<|by simp,List.length_replicate,Nat.add_sub_cancel_left];exact hd) k1 ∅;have g2:=h.guards2;obtain⟨r,M,p7,p9,Q,k3,T,n3,c3⟩:=xH h (a0:=some<|jq false p) (a1:=some<|.str nm) (a2:=some<|bkD false S W Rn Lv z) (a3:=some<|.int c) (a4:=‹a.map eR›) (a5:=some<|vk false o) (a8:=F) (s:=0) (o7:=K) (o9:=none) (λg hg=>(h.guards g hg).2.2) k2 (by rw[y,N3];lia);obtain⟨R',U,V,eb⟩:=jdS h b.s1 b.r1 b.r2;have A:(es++(v++M)).length<=300:=by
  simp only[N3]
  lia
 have j:r.en=es++(v++M):=by rw[T,y,u,e];simp
 have mvl:=k3.mvl;refine⟨r,es++(v++M),R',?_,⟨o,Z,t,k3⟩,U,V,A,by rw[j] at mvl;lia,by obtain⟨R,w,v⟩:=f.rest;exact c3.trans<|c2 R w v,j⟩;have i1:jd (vk false o) (.int 1)=‹o.parts.map e2›:=rfl;have i2:jd (vk false o) (.int 2)=‹o.rules›:=rfl;have j6:jd (jq false p) (.int 6)=‹p.guards.map eG›:=rfl;have k:=h.frz;have D:=qW S W Rn Lv z;have m1:=Jx (m:=jJ) (mn:="take_parts") (pa:=#[pF<|p2 jd (pV 5)<|pI 1]) (ρ:=[some<|jq false p,some<|.str nm,some<|bkD false S W Rn Lv z,some<|.int c,‹a.map eR›,some<|vk false o,some<|ju p true x0,none,none,none]) (i:=6) (ds:=[.lst false<|o.parts.map e2]) rfl (by simp[i1,yh]) (by simp[yh])<|λ_ _ _ _ _ _ _ _ _ _=>rfl;rw[e1,L4] at m1;have E:∀ ρ:Rh,#[pF<|p2 jd (pV 5)<|pI 2] ρ=some [.lst false o.rules]->pCB qv #[p2 jd (pV 5)<|pI 1] ρ=some (.int o.parts.length)->jmq #[pF<|p2 jd (pV 5)<|pI 2] (pCB qv #[p2 jd (pV 5)<|pI 1]) ρ=some (Yc o.parts.length o.rules):=by
  intro ρ q1 q2;unfold jmq;rw[q1,q2];have:=f.plen;show(bif Vv o.parts.length then some (Yc _<|fzs o.rules) else none)=_;rw[QJ ∅ ∅,f.fzr];rfl
 have mm:=jcq (p:=p) (x:=r) (o:=true) (m:=jF) (mn:="book_behind") (po:=pV 6) (pa:=#[pV 2]) (ρ:=[some<|jq false p,some<|.str nm,some<|bkD false S W Rn Lv z,some<|.int c,‹a.map eR›,some<|vk false o,some<|ju p true r,p7,F,p9]) (ds:=[bkD false S W Rn Lv z]) rfl (by simp) (λ_ _ _ _ _ _ _ _ _ _=>rfl) (by rw[show fzs [bkD false S W Rn Lv z]=[bkD false S W Rn Lv z] by rw[fzs,J7 false S W Rn Lv z];rfl];exact eb)<|Qu _ _ _ _ _;have m3:=jls (p:=p) (x:=r) (i:=6) (pe:=J1 jF 0 "book_behind" (pV 6) #[pV 2]) (ρ:=[some<|jq false p,some<|.str nm,some<|bkD false S W Rn Lv z,some<|.int c,‹a.map eR›,some<|vk false o,some<|ju p true r,p7,F,p9]) rfl mm;rw[j] at m3;have l:uY yF 0 #[pF<|pV 0,pF<|pV 2,pF<|pV 3,pF<|pV 4] [some<|jq false p,some<|.str nm,some<|bkD false S W Rn Lv z,some<|.int c,‹a.map eR›,some<|vk false o,none,none,none,none]=some (ju p true x0):=by
  rw[uY];have:#[pF<|pV 0,pF<|pV 2,pF<|pV 3,pF<|pV 4] [some<|jq false p,some<|.str nm,some<|bkD false S W Rn Lv z,some<|.int c,‹a.map eR›,some<|vk false o,none,none,none,none]=some [jq false p,bkD false S W Rn Lv z,.int c,.lst false<|a.map eR]:=by simp[k,D,yL]
  rw[this,L4,ei];simp[k,D,yL]
 simp[wA,jK,jfX,en,h.fz false,k,l,m1,E [some<|jq false p,some<|.str nm,some<|bkD false S W Rn Lv z,some<|.int c,‹a.map eR›,some<|vk false o,some<|ju p true x1,none,none,none] (by simp[i2,f.frzr])<|by simp[i1],L,j6,Kw,jcf,Q,m3,-yI,-uY,-jjy,-J1]
def jgq(h1:p ρ=some e)(h2:jlN e=some m)(a:ρ[i]?=some (↑l))(c:l.length+m.length<=50000):jjw i p ρ=some (.nx<|ρ.set i<|↑(l++m)):=by
 rw[jjw,h1,L4,h2,L4,pV,a];exact congrArg (λb=>bif b then _ else none)<|jb ∅
def jhb:Nat->List (List Nat)->(List Nat->Int)->Int->List En
 | _,[],_,_=>[]
 | k,c::E,f,L=>⟨k,jjx,c,L,got L<|f c⟩::jhb (k+1) E (put f c<|f c-got L (f c)) (L-got L (f c))
theorem jgd:∀ E k f L,jim k E f L=(jhb k E f L).map e5
 | [],_,_,_=>rfl
 | c::E,k,f,L=>by rw[jim,jhb,jgd E,L5];rfl
theorem wq:∀ E k f L,(jhb k E f L).length=E.length
 | [],_,_,_=>rfl
 | c::E,k,f,L=>by rw[jhb,M1,M1,wq E]
theorem jb9:∀ E k f L,∀ e∈jhb k E f L,e.kd=jjx
 | [],_,_,_,_,h=>by cases h
 | c::E,k,f,L,e,h=>by
  rcases M4.mp h with rfl | h
  ·rfl
  ·exact jb9 E _ _ _ e h
noncomputable abbrev LG:=List Nat×List Nat×En
noncomputable def e7(q:LG):D:=.tup [.str q.1,.str q.2.1,.int q.2.2.pl,.str q.2.2.kd,.str q.2.2.nm,.int q.2.2.nd,.int q.2.2.gt]
def vb(l:List LG):frzs (l.map e7)=true:=kY (λ_=>rfl) _
def VT(l:List LG):fzs (l.map e7)=l.map e7:=kK (λ_=>rfl) _
def Yj(M)(f):(sz' M f).map (·.1)=M:=by unfold sz';rw[U0];exact List.map_id _
def KU(h:q∈sz' M f):∃ n,q.2=f n:=by
 obtain⟨n,_,rfl⟩:=M5.mp h;exact⟨n,rfl⟩
theorem Qn:∀{ms}{l},MvsOk nm N c l ms->∀ m∈ms,m.2.1∈N/\0<=m.2.2/\m.2.2<=c
 | [],_,_,m,h=>by cases h
 | a::ms,l,k,m,h=>by
  rcases M4.mp h with rfl | h
  ·exact⟨k.1.ot,Int.le_of_lt k.1.po,k.1.hi⟩
  ·exact Qn k.2 m h
def jll(h:PoolOk O p)(n):0<=jfY p n/\jfY p n<=10 ^ 12:=by
 refine⟨JM (λq b=>?_) n,xW (by decide) (λq b=>?_) n⟩
 all_goals
  obtain⟨a,c,rfl⟩:=M5.mp b;have:=h.told a c
  lia
def jfF{nm}{PP}(j:jd PP (.int 0)=some (.str nm))(es:List En):jV (jc [] 0) qT (p2 jg (yk #[pF<|p2 jd (pV 1)<|pI 0,pS []])<|pV 0) (es.map e5) [none,some PP]=some ((es.map λe=>((nm,[],e):LG)).map e7):=by
 rw[U0];refine jw rfl (λρ=>∃ o,ρ=[o,some PP]) ?_ ⟨none,rfl⟩;rintro e b ρ ⟨o,rfl⟩;refine⟨[some<|e5 e,some PP],rfl,?_,_,rfl⟩;have a:jg (.tup [.str nm,.str []]) (e5 e)=some (e7 (nm,[],e)):=rfl;simp[j,a,jb]
def jcJ{nm ord}{PP}(j:jd PP (.int 0)=some (.str nm))(es:List En):jV (jc [] 0) qT (p2 jg (yk #[pF<|p2 jd (pV 1)<|pI 0,pF<|pV 2])<|pV 0) (es.map e5) [none,some PP,some<|.str ord]=some ((es.map λe=>((nm,ord,e):LG)).map e7):=by
 rw[U0];refine jw rfl (λρ=>∃ o,ρ=[o,some PP,some<|.str ord]) ?_ ⟨none,rfl⟩;rintro e b ρ ⟨o,rfl⟩;refine⟨[some<|e5 e,some PP,some<|.str ord],rfl,?_,_,rfl⟩;have a:jg (.tup [.str nm,.str ord]) (e5 e)=some (e7 (nm,ord,e)):=rfl;simp[j,a,jb]
structure SgOk(p:PoolS)(N:W1)(L0:LN)(c:Int)(mv:List MV)(ln':LN)(sg:List LG):Prop where
 s:∃(lg EN:List En),(∀ e∈lg,e.kd=jjx)/\∃ o∈p.orders,sg=(lg.map λe=>((p.nm,[],e):LG))++(EN.map λe=>((p.nm,o.nm,e):LG))/\J33 p.nm N (ruF o) L0 c 0 EN mv
 c:Can ln' (reN p.nm L0 mv)
 l:LnOk N (reN p.nm L0 mv)
def xj{p:PoolS}{N O:W1}{c B:Int}{Q:LN}(h:PoolOk O p)(hO:∀ w∈O,w∈N)(R:p.nm∈N)(hN:N.length<=6)(T:LnOk N Q)(hB0:0<=B)(hB:B<=10 ^ 19)(U:0<=c)(hc:c<=2 ^ 900){S W Rn Lv:List W2}{z d:Int}(b:BkOk p B S W Rn Lv)(s:0<=d):
  Ex8 λ(S' W' R' L':List W2) (z':Int) (ln':LN) (mv:List MV) (sg:List LG)=>An7 (vY [jq false p,bkD false S W Rn Lv z,.lst false<|Q.map eR,.int c,.int d] =
    some (.tup [bkD false S' W' R' L' z',.lst true<|ln'.map eR,.lst false<|mv.map eM,.lst false<|sg.map e7])) (BkOk p (B+10 ^ 12) S' W' R' L') (LnOk N ln') (∀ m∈mv,m.2.1∈N/\0<=m.2.2/\m.2.2<=c) (mv.length<=300) (sg.length<=310) (SgOk p N Q c mv ln' sg):=by
 have lR:Rn.length<=10:=by have:=congrArg List.length b.r1;rw[L1,L1] at this;have:=h.told2;lia
 have lV:Lv.length<=10:=by have:=congrArg List.length b.l1;rw[L1,L1] at this;have:=h.marks2;lia
 have y:=jeL (x:=z) (L:=d) h b.s1 b.w1 lR lV;have u:=jgn (E:=p.eats) (JM b.s2) s;generalize hF:(eat p.eats (fnOf S) d).1=F at y u;generalize(eat p.eats (fnOf S) d).2=lft at y u;rw[jgd] at y;have V:=wq p.eats 0 (fnOf S) d;have A:=jb9 p.eats 0 (fnOf S) d;generalize jhb 0 p.eats (fnOf S) d=lg at y V A;have no:=jlE h (S:=S) (W:=W) (Lv:=Lv) (x:=z) b.r1;have G:(sz' p.C F).map (·.1)=p.C:=Yj _ _;have H:(ow' W F).map (·.1)=p.C:=by unfold ow';rw[U0];exact b.w1
 have wd:=zm h (Rn:=Rn) (Lv:=Lv) (x:=z+lft) G H;have b1:BkOk p (B+10 ^ 12) (sz' p.C F) (wd' p (fnOf<|sz' p.C F)<|ow' W F) Rn Lv:=by
  refine⟨G,λq g=>?_,?_,λq g=>?_,b.r1,b.l1,b.l2,b.r2⟩
  ·obtain⟨n,e⟩:=KU g;rw[e];exact(u.1 n).1
  ·unfold wd';rw[U0];exact H
  ·unfold wd' at g;obtain⟨r,hr,rfl⟩:=M5.mp g;obtain⟨t,ht,rfl⟩:=M5.mp hr;have h1:=b.w2 t ht;have h2:=jll h t.1;constructor
   ·lia
   ·lia
 obtain⟨x,EN,R',ef,⟨od,X,Y,v⟩,Z,hRn,hel,mvl,cz,xe⟩:=jg6 h hO R hN T ∅ ∅ U hc (z:=z+lft) b1 (jel h Rn);obtain⟨ln',eb,hln,I⟩:=jbY R hN T v.mv;have j:jd (jq false p) (.int 0)=some (.str p.nm):=rfl;have lc1:=jfF (PP:=jq false p) j lg;have J:=jcJ (ord:=jjn p Rn) (PP:=jq false p) j EN;refine⟨sz' p.C x.sz,sz' p.C x.ow,R',sz' p.P x.lv,z+lft,ln',x.mv,(lg.map λe=>((p.nm,[],e):LG))++EN.map λe=>((p.nm,jjn p Rn,e):LG),?_,⟨Yj _ _,λq g=>?_,Yj _ _,λq g=>?_,Z,Yj _ _,λq g=>?_,hRn⟩,hln,Qn v.mv,mvl,by have:=h.eats2;simp;lia,⟨⟨lg,EN,A,od,X,by rw[Y],?_⟩,I,wy R T v.mv⟩⟩
 rotate_left
 ·obtain⟨n,e⟩:=KU g;rw[e];exact v.sz n
 ·obtain⟨n,e⟩:=KU g;rw[e];exact v.ow n
 ·obtain⟨n,e⟩:=KU g;rw[e];exact v.lv n
 ·have js:=v.js;rw[cz,xe] at js;exact js
 have fp:=h.fz false;have fpz:=h.frz;have hb1:=J7 false S W Rn Lv z;have hb2:=qW S W Rn Lv z;have hb3:=J7 true (sz' p.C F) (ow' W F) Rn Lv<|z+lft;have hb4:=qW (sz' p.C F) (ow' W F) Rn Lv<|z+lft;have hb5:=J7 false (sz' p.C F) (ow' W F) Rn Lv<|z+lft;have hb8:=J7 true (sz' p.C x.sz) (sz' p.C x.ow) R' (sz' p.P x.lv)<|z+lft;have K:=qW (sz' p.C x.sz) (sz' p.C x.ow) R' (sz' p.P x.lv)<|z+lft;have hl1:lim lg.length=true:=jb (by have:=h.eats2;lia);have M:lim EN.length=true:=jb ∅;generalize hG1:(lg.map λe=>((p.nm,[],e):LG))=G1 at *;generalize hG2:(EN.map λe=>((p.nm,jjn p Rn,e):LG))=G2 at *;have g1l:G1.length<=1000:=by rw[<- hG1,L1];have:=h.eats2;lia
 have g2l:G2.length<=1000:=by rw[<- hG2,L1];lia
 have hl3:lim (G1.length+G2.length)=true:=jb ∅;generalize jq false p=PP,bkD false S W Rn Lv z=B0,bkD false (sz' p.C F) (ow' W F) Rn Lv (z+lft)=B2,bkD true (sz' p.C x.sz) (sz' p.C x.ow) R' (sz' p.P x.lv) (z+lft)=B4 at *;have t0:∀{a b:D},jd (.tup [a,b]) (.int 0)=some a:=rfl;have t1:∀{a b:D},jd (.tup [a,b]) (.int 1)=some b:=rfl;have f:∀{a b c:D},jd (.tup [a,b,c]) (.int 0)=some a:=rfl;have k:∀{a b c:D},jd (.tup [a,b,c]) (.int 1)=some b:=rfl;have o:∀{a b c:D},jd (.tup [a,b,c]) (.int 2)=some c:=rfl;have ha1:fzs (G1.map e7++G2.map e7)=G1.map e7++G2.map e7:=by rw[<- N4,VT]
 have ha2:frzs (G1.map e7++G2.map e7)=true:=by rw[<- N4,vb]
 have hx:=jgq (i:=8) (p:=yw (Yd<|p2 jd (pV 7)<|pI 0) (jc [] 0) qT (p2 jg (yk #[pF<|p2 jd (pV 1)<|pI 0,pF<|pV 2])<|pV 0) [none,some 0,some 6]) (ρ:=[some PP,some B0,‹Q.map eR›,some<|.int c,some<|.int d,some<|.tup [.lst false<|lg.map e5,B2],some<|.str<|jjn p Rn,some<|.tup [.lst true<|EN.map e5,B4,.lst true<|x.mv.map eM],↑(G1.map e7)]) (e:=.lst true<|G2.map e7) (m:=G2.map e7) (l:=G1.map e7) (by simp[ -p2];simp[f,jch,M,jx,J,-yk]) (by show(bif frzs (G2.map e7) then _ else _)=_;rw[vb];rfl) rfl (by rw[L1,L1];lia);simp[vY,jK,Vy,hx,y,fp,fpz,hb1,hb2,hb3,hb4,hb5,J7 false (sz' p.C F) (wd' p (fnOf<|sz' p.C F)<|ow' W F) Rn Lv<|z+lft,qW (sz' p.C F) (wd' p (fnOf<|sz' p.C F)<|ow' W F) Rn Lv<|z+lft,hb8,K,no,t0,t1,wd,jgv,jch,J6,yL,ef,jx,lc1,J,hl1,M,f,k,o,QA,VZ,j,eb,jb,VT,vb,hl3,ha1,-yk,-List.map_map];simp[f,k,o,K,J6,yL,QA,VZ,j,eb,ha2,jb]
structure Bk where
 S:List W2
 W:List W2
 R:List W2
 L:List W2
 x:Int
def qN(o:Bool)(b:Bk):D:=bkD o b.S b.W b.R b.L b.x
inductive Bks (B:Int):List PoolS->List Bk->Prop where
 | nil:Bks B [] []
 | cons {p:PoolS}{b:Bk}{ps:List PoolS}{bs:List Bk}(h:BkOk p B b.S b.W b.R b.L) (t:Bks B ps bs):Bks B (p::ps) (b::bs)
structure WsOk(n:Nat)(K:Int)(ws:List Int):Prop where
 len:ws.length=n
 ok:∀ v∈ws,0<=v/\v<=K
def zB(o)(b):fz (qN o b)=qN false b:=J7 ..
def Kl(b):frz (qN false b)=true:=qW ..
def Y1(l:List Bk):frzs (l.map<|qN false)=true:=kY (Kl) _
def wT(l:List Bk):fzs (l.map<|qN false)=l.map (qN false):=kK (zB _) _
def WsOk.set(h:WsOk n K ws)(b:K<=K')  (c:0<=v) (h1:v<=K'):WsOk n K' (ws.set j v):=by
 refine⟨by rw[List.length_set];exact h.len,λu a=>?_⟩;rcases List.mem_or_eq_of_mem_set a with q | q
 ·have:=h.ok u q;lia
 ·lia
noncomputable def wtF(f:List Nat->Int)(ws:List Int)(w:List Nat)(g:Int):List Int:=ws.set (f w).toNat (ws.getD (f w).toNat 0+g)
def wtM(f:List Nat->Int)(ws:List Int)(ms:List MV):List Int:=ms.foldl (λW m=>wtF f W m.2.1 m.2.2) ws
def jal{N}{f:List Nat->Int}{c}{n:Nat}(p:∀ w,0<=f w/\f w<n){a0 a1 a2 a3 a4 a5 a7 a9 a10 a a12}(x:0<=c):∀{ms}{ws}{K}{o13 o14 o15},WsOk n K ws->(∀ m∈ms,m.2.1∈N/\0<=m.2.2/\m.2.2<=c) ->
  Ex4 λws' o13' o14' o15'=>An3 (jG (gT 3<|gC (jc [] 13)<|gC (jc [] 14)<|gC (jc [] 15) gN) vN (ms.map eM) [a0,a1,a2,a3,a4,a5,↑(ws.map D.int),a7,some<|dct true N f,a9,a10,a,a12,o13,o14,o15]=some (.nx [a0,a1,a2,a3,a4,a5,↑(ws'.map D.int),a7,some<|dct true N f,a9,a10,a,a12,o13',o14',o15'])) (WsOk n (K+c*ms.length) ws') (ws'=wtM f ws ms):=by
 intro ms
 induction ms with
 | nil=>
  intro ws K o13 o14 o15 h _;exact⟨ws,o13,o14,o15,rfl,by simpa using h,rfl⟩
 | cons m ms q=>
  intro ws K o13 o14 o15 h l;obtain⟨r,y,z⟩:=l m (by simp);have g:=p m.2.1;have o:(f m.2.1).toNat<ws.length:=by rw[h.len];lia
  have A:=h.ok _<|List.getElem_mem o;have j:ixN (ws.map D.int).length (f m.2.1)=some (f m.2.1).toNat:=by
   have:=QM (n:=(ws.map D.int).length) (i:=(f m.2.1).toNat) (by rw[L1];lia);rw[Int.toNat_of_nonneg g.1] at this;exact this
  have b:(ws.map D.int)[(f m.2.1).toNat]?=some (.int ws[(f m.2.1).toNat]):=by simp
  have d:(ws.map D.int).set (f m.2.1).toNat (.int<|ws[(f m.2.1).toNat]+m.2.2)=(ws.set (f m.2.1).toNat (ws[(f m.2.1).toNat]+m.2.2)).map D.int:=by simp
  obtain⟨ws',o13',o14',o15',e,k,s⟩:=q (ws:=ws.set (f m.2.1).toNat (ws[(f m.2.1).toNat]+m.2.2)) (K:=K+c) (h.set ∅ ∅ ∅)<|λt k=>l t (by simp[k]);refine⟨ws',o13',o14',o15',?_,?_,by rw[s];show _=wtM f (wtF f ws m.2.1 m.2.2) ms;unfold wtF;rw[List.getD_eq_getElem?_getD,X5 o];rfl⟩
  ·have u:vN [a0,a1,a2,a3,a4,a5,↑(ws.map D.int),a7,some<|dct true N f,a9,a10,a,a12,some<|.str m.1,some<|.str m.2.1,some<|.int m.2.2]=some (.nx [a0,a1,a2,a3,a4,a5,↑((ws.set (f m.2.1).toNat (ws[(f m.2.1).toNat]+m.2.2)).map D.int),a7,some<|dct true N f,a9,a10,a,a12,some<|.str m.1,some<|.str m.2.1,some<|.int m.2.2]):=by
    rw[<- d];simp only[vN,Q8,p2,pV0,pVs,L4,yA r,jb7,Yz,j,b];rfl
   rw[L5,lpE ?_ u,e];rfl
  ·have v:K+c*((m::ms).length:Int)=K+c+c*ms.length:=by rw[M1];push_cast;rw[Int.mul_add];lia
   rw[v];exact k
def Jh(bs:List Bk)(ln:LN)(ws:List Int):D:=.tup [.lst false<|bs.map<|qN false,.lst false<|ln.map eR,.lst false<|ws.map D.int]
structure TurnOk(p:PoolS)(N:W1)(f:List Nat->Int)(s:Nat)(ic:Int)(ln:LN)(ws:List Int)(ln':LN)(ws':List Int)(seg:List LG):Prop where
 t:∃ mv,SgOk p N ln (ic+ws.getD s 0) mv ln' seg/\ws'=wtM f (ws.set s 0) mv
def jfb{N}{f:List Nat->Int}{B K}{p:PoolS}{X:W1}(h:PoolOk X p)(hX:∀ w∈X,w∈N)(hn:p.nm∈N)(hN:N.length<=6){n:Nat}(hf:∀ w,0<=f w/\f w<n)(C:0<=B)(hB:B<=10 ^ 19)(hA:10 ^ 31<=K)(hK:K<=2 ^ 890)
  {bs:List Bk}{ln0:LN}{ws0:List Int}{e los:List Int}{s:Nat}{b:Bk}(hb:bs[s]?=some b) (E:BkOk p B b.S b.W b.R b.L) {g lo:Int}(hi:e[s]?=some g) (hi0:0<=g) (hi1:g<=10 ^ 31) (t:los[s]?=some lo) (F:0<=lo) (hs:s<n)
  {acc:List Bk}(hacc:acc.length<=10) {ln:LN}(hL:LnOk N ln) {ob:Bool}{ws:List Int}(G:WsOk n K ws) {log:List LG}(hlog:log.length<=2000) {a0 o11 o12 o13 o14 o15:Option D}:
  Ex9 λb' ln' ws' seg o11' o12' o13' o14' o15'=>An6 (kR [a0,some<|Jh bs ln0 ws0,‹e.map D.int›,‹los.map D.int›,↑(acc.map<|qN false),some<|.lst ob<|ln.map eR,↑(ws.map D.int),↑(log.map e7),some<|dct true N f,some<|.int s,some<|jq false p,o11,o12,o13,o14,o15] =
    some (.nx [a0,some<|Jh bs ln0 ws0,‹e.map D.int›,‹los.map D.int›,↑((acc++[b']).map (qN false)),‹ln'.map eR›,↑(ws'.map D.int),↑((log++seg).map e7),some<|dct true N f,some<|.int s,some<|jq false p,o11',o12',o13',o14',o15'])) (BkOk p (B+10 ^ 12) b'.S b'.W b'.R b'.L) (LnOk N ln') (WsOk n (1024*K) ws') (seg.length<=310) (TurnOk p N f s g ln ws ln' ws' seg):=by
 have q:s<ws.length:=by rw[G.len];exact hs
 have hwv:=G.ok _<|List.getElem_mem q;obtain⟨j,k,l,m,o,ln',mv,seg,ep,H,u,I,mvl,x,J⟩:=xj (c:=g+ws[s]) h hX hn hN hL C hB ∅ ∅ E F;have M:WsOk n K (ws.set s 0):=G.set (Int.le_refl _) ∅ ∅;obtain⟨ws',o13',o14',o15',ew,r,O⟩:=jal hf (a4:=↑((acc++[(⟨j,k,l,m,o⟩:Bk)]).map (qN false))) ∅ M I;refine⟨⟨j,k,l,m,o⟩,ln',ws',seg,some<|.int<|g+ws[s],some<|.tup [bkD false j k l m o,.lst false<|ln'.map eR,.lst false<|mv.map eM,.lst false<|seg.map e7],o13',o14',o15',?_,H,u,⟨r.len,λv hv=>⟨(r.ok v hv).1,?_⟩⟩,x,⟨mv,by rw[List.getD_eq_getElem?_getD,X5 q];exact J,O⟩⟩
 rotate_left
 ·have h1:=(r.ok v hv).2;have h2:(g+ws[s])*mv.length<=(g+ws[s])*300:=Int.mul_le_mul_of_nonneg_left ∅ ∅
  lia
 have P:jd (.lst false<|bs.map<|qN false) (.int s)=some (qN false b):=by
  have y:=(L9.mp hb).1;rw[jaz ∅ (by rw[L1];lia),N7,List.getElem?_map,hb];rfl
 have Q:jd (.lst false<|e.map D.int) (.int s)=some (.int g):=by
  have y:=(L9.mp hi).1;rw[jaz ∅ (by rw[L1];lia),N7,List.getElem?_map,hi];rfl
 have T:jd (.lst false<|los.map D.int) (.int s)=some (.int lo):=by
  have y:=(L9.mp t).1;rw[jaz ∅ (by rw[L1];lia),N7,List.getElem?_map,t];rfl
 have U:jd (.lst true<|ws.map D.int) (.int s)=some (.int ws[s]):=by
  rw[jaz ∅ (by rw[L1];lia),N7,List.getElem?_map,X5 q];rfl
 have V:jd (Jh bs ln0 ws0) (.int 0)=‹bs.map (qN false)›:=rfl;have z:ixN (ws.map D.int).length s=some s:=QM (by rw[L1];exact q);have A:(ws.map D.int).set s (.int 0)=(ws.set s 0).map D.int:=by rw[List.map_set]
 have Y:fz (qN false b)=qN false b:=zB _ _;have Z:frz (qN false b)=true:=Kl _;have hb3:fz (bkD false j k l m o)=bkD false j k l m o:=J7 ..;have hb4:frz (bkD false j k l m o)=true:=qW ..;have ep':vY [jq false p,qN false b,.lst false<|ln.map eR,.int<|g+ws[s],.int lo]=some (.tup [bkD false j k l m o,.lst true<|ln'.map eR,.lst false<|mv.map eM,.lst false<|seg.map e7]):=ep;have ea:(acc++[(⟨j,k,l,m,o⟩:Bk)]).map (qN false)=acc.map (qN false)++[bkD false j k l m o]:=by rw[N4];rfl
 rw[ea] at ew ⊢;have hal:lim (acc.map<|qN false).length=true:=kN ∅;have hx:=jgq (i:=7) (p:=p2 jd (pV 12)<|pI 3) (ρ:=[a0,some<|Jh bs ln0 ws0,‹e.map D.int›,‹los.map D.int›,↑(acc.map (qN false)++[bkD false j k l m o]),‹ln'.map eR›,↑(ws'.map D.int),↑(log.map e7),some<|dct true N f,some<|.int s,some<|jq false p,some<|.int<|g+ws[s],some<|.tup [bkD false j k l m o,.lst false<|ln'.map eR,.lst false<|mv.map eM,.lst false<|seg.map e7],o13',o14',o15']) rfl (by show(bif frzs (seg.map e7) then _ else _)=_;rw[vb];rfl) rfl (by rw[L1,L1];lia);have em:(log++seg).map e7=log.map e7++seg.map e7:=N4;rw[em];have v0:∀{a b c d},jd (.tup [a,b,c,d]) (.int 0)=some a:=rfl;have v1:∀{a b c d},jd (.tup [a,b,c,d]) (.int 1)=some b:=rfl;have v2:∀{a b c d},jd (.tup [a,b,c,d]) (.int 2)=some c:=rfl;generalize acc.map (qN false)=AC at *;apply sq (by simp[Q,U];rfl);apply sq (by simp[z,-List.length_map];rw[A]);apply sq (by simp[V,P,T,ep',h.fz false,h.frz,Y,Z,J6,yL,-List.map_set];rfl);apply sq (by simp[hb3,hb4,v0,J6,yL,QA,VZ,VT,vb,hal,-List.map_set];rfl);apply sq (by simp[v1,yL,-List.map_set];rfl);apply sq (by rw[qF];simp[v2,VZ,QA,-List.map_set];exact ew);exact hx
def jpF(n):(1:Int)<=1024 ^ n:=by
 induction n with
 | zero=>decide
 | succ n a=>rw[Int.pow_succ];lia
def jcA{K:Int}(h:0<=K)(n):K<=K*1024 ^ n:=by
 have:=Int.mul_le_mul_of_nonneg_left (jpF n) h
 lia
inductive DR (N:W1) (f:List Nat->Int) (inc:List Int):Nat->List PoolS->LN->List Int->LN->List Int->List LG->Prop
 | nil {s ln ws}:DR N f inc s [] ln ws ln ws []
 | cons {s p Q ln ws ln1 ws1 sg ln2 ws2 sg2}(t:TurnOk p N f s (inc.getD s 0) ln ws ln1 ws1 sg) (l:sg.length<=310) (r:DR N f inc (s+1) Q ln1 ws1 ln2 ws2 sg2):DR N f inc s (p::Q) ln ws ln2 ws2 (sg++sg2)
theorem uF{N}{f:List Nat->Int}{n:Nat}(V:N.length<=6)(W:∀ w,0<=f w/\f w<n){bs}{ws0 a los:List Int}(o:a.length=n)(r:los.length=n)(hi:∀ v∈a,0<=v/\v<=10 ^ 31)(h:∀ v∈los,0<=v){a0}{B}(i:0<=B)(Y:B<=10 ^ 19):
  ∀{Q}{s}{acc}{ln}{ob}{ws}{log}{K}{o9 o10 o11 o12 o13 o14 o15},(∀ p∈Q,p.nm∈N/\∃ X,PoolOk X p/\∀ w∈X,w∈N)->Bks B Q (bs.drop s)->s+Q.length=n->n<=6->acc.length=s->LnOk N ln->WsOk n K ws->log.length<=400*s->10 ^ 31<=K->K*1024 ^ Q.length<=2 ^ 890 ->
  Ex12 λbs' ln' ob' ws' (seg:List LG) o9' o10' o11' o12' o13' o14' o15'=>An6 (jG (gT 2<|gC (jc [] 9)<|gC (jc [] 10) gN) kR (jL s<|Q.map<|jq false) [a0,some<|Jh bs ln0 ws0,‹a.map D.int›,‹los.map D.int›,↑(acc.map<|qN false),some<|.lst ob<|ln.map eR,↑(ws.map D.int),↑(log.map e7),some<|dct true N f,o9,o10,o11,o12,o13,o14,o15] =
    some (.nx [a0,some<|Jh bs ln0 ws0,‹a.map D.int›,‹los.map D.int›,↑((acc++bs').map (qN false)),some<|.lst ob'<|ln'.map eR,↑(ws'.map D.int),↑((log++seg).map e7),some<|dct true N f,o9',o10',o11',o12',o13',o14',o15'])) (Bks (B+10 ^ 12) Q bs') (LnOk N ln') (WsOk n (K*1024 ^ Q.length) ws') (seg.length<=400*Q.length)<|DR N f a s Q ln ws ln' ws' seg
 | [],s,acc,ln,ob,ws,log,K,o9,o10,o11,o12,o13,o14,o15,_,hb,hs0,_,_,hL,hw,_,_,_=>by
  refine⟨[],ln,ob,ws,[],o9,o10,o11,o12,o13,o14,o15,by simp[jL],.nil,hL,by simpa using hw,by simp,.nil⟩
 | p::Q,s,acc,ln,ob,ws,log,K,o9,o10,o11,o12,o13,o14,o15,hQ,hb,hs,hn3,hacc,hL,hw,hlog,hA,hK=>by
  obtain⟨t,X,Z,hX⟩:=hQ p (by simp);rw[M1] at hs hK;rw[Int.pow_succ] at hK;have u:K*(1024 ^ Q.length*1024)=1024*K*1024 ^ Q.length:=by rw[Int.mul_comm (1024 ^ Q.length) 1024,<- Int.mul_assoc,Int.mul_comm K 1024]
  have hK2:=jcA (K:=1024*K) ∅ Q.length;generalize j:bs.drop s=bd at hb;cases hb with
  | @cons _ b _ x y d=>
   have z:bs[s]?=some b:=by
    have:=congrArg (·[0]?) j;simpa using this
   have g:bs.drop (s+1)=x:=by
    have:=congrArg (List.drop 1) j;simpa using this
   have c:s<a.length:=by lia
   have k:s<los.length:=by lia
   obtain⟨b',ln',ws',seg,o11',o12',o13',o14',o15',e,A,C,E,sl,F⟩:=jfb Z hX t V W i Y hA ∅ z y (X5 c) (hi _<|List.getElem_mem c).1 (hi _<|List.getElem_mem c).2 (X5 k) (h _<|List.getElem_mem k) ∅ (acc:=acc) ∅ hL hw (log:=log) ∅;obtain⟨bs',G,ob',H,l,p9,I,J,L,M,O,P,R,S,T,U,sg2,m⟩:=uF V W o r hi h (a0:=a0) i Y (ln0:=ln0) (ws0:=ws0) (Q:=Q) (acc:=acc++[b']) (log:=log++seg) (λq hq=>hQ q<|by simp[hq]) (by rw[g];exact d) ∅ hn3 (by simp;lia) C E (by simp;lia) ∅ ∅;refine⟨b'::bs',G,ob',H,seg++l,p9,I,J,L,M,O,P,?_,.cons A S,T,?_,?_,.cons (by rw[List.getD_eq_getElem?_getD,X5 c];exact F) sl m⟩
   ·rw[L5,jL,lpE ?_ e,R];simp only[List.append_assoc,List.singleton_append];rfl
   ·rw[M1,Int.pow_succ,u];exact U
   ·rw[N3,M1];lia
noncomputable def anm:Nat->List PoolS->List W2
 | _,[]=>[]
 | s,p::Q=>(p.nm,(s:Int))::anm (s+1) Q
theorem wE:∀ Q s,(anm s Q).map (·.1)=Q.map (·.nm)
 | [],_=>rfl
 | p::Q,s=>by rw[anm,L5,L5,wE Q]
theorem jfH:∀ Q s,∀ q∈anm s Q,0<=q.2/\q.2<=(s:Int)+Q.length-1
 | [],_,q,h=>by cases h
 | p::Q,s,q,h=>by
  rw[M1];rcases M4.mp h with rfl | h
  ·lia
  ·have:=jfH Q (s+1) q h;lia
theorem jdg:∀ Q s,(anm s Q).length=Q.length
 | [],_=>rfl
 | p::Q,s=>by rw[anm,M1,jdg Q,M1]
theorem wv:∀ Q s o o',jV (gT 2<|gC (jc [] 0)<|gC (jc [] 1) gN) qT (yk #[pF<|p2 jd (pV 1)<|pI 0,pF<|pV 0]) (jL s<|Q.map<|jq false) [o,o']=some ((anm s Q).map e2)
 | [],_,_,_=>rfl
 | p::Q,s,o,o'=>by
  have a:(yk #[pF<|p2 jd (pV 1)<|pI 0,pF<|pV 0]) [some<|.int s,some<|jq false p]=some (e2 (p.nm,s)):=by rfl
  rw[L5,jL,cpE ?_ a,wv Q (s+1) (some<|.int s)<|some<|jq false p];rfl;rfl
def jft{ns:List Int}{i:Nat}(hi:i<3):(yd (nmL ns) (some<|3+4*(0+(i:Int)))<|some<|7+4*(0+(i:Int))).length=4:=by
 unfold nmL;rw[Ku,L1];have:i=0\/i=1\/i=2:=by lia
 rcases this with rfl | rfl | rfl<;>rfl
def PtW(ns:List Int)(i:Nat)(w:List Nat):Prop:=w=VU ns (6+4*i)\/w=VU ns (6+4*i)++[104]
def jjl(hi:i<3)(d:j<3)(h:PtW ns i w)(h':PtW ns j w):i=j:=by
 have e:∀{a b:Nat},a<16->b<16->(VU ns a).length=(VU ns b).length:=λ_ _=>by unfold VU;simp
 have l:=e (show 6+4*i<16 by lia) (show 6+4*j<16 by lia);have k:∀{a b:List Nat},a.length=b.length->a≠b++[104]:=λq z=>by have:=congrArg List.length z;rw[N3,List.length_singleton] at this;lia
 have c:VU ns (6+4*i)=VU ns (6+4*j)->i=j:=λz=>by have:=wL ∅ ∅ z;lia
 rcases h with rfl | rfl<;>rcases h' with z | z
 ·exact c z
 ·exact absurd z<|k l
 ·exact absurd z.symm<|k l.symm
 ·exact c<|List.append_cancel_right z
def jmw{ns:List Int}{i:Nat}(hi:i<3):(yd (nmL ns) (some<|3+4*(0+(i:Int)))<|some<|7+4*(0+(i:Int))).getD (3:Int).toNat []=VU ns (6+4*i):=by
 unfold nmL;rw[Ku];have:i=0\/i=1\/i=2:=by lia
 rcases this with rfl | rfl | rfl<;>rfl
def jc1{ns:List Int}{i:Nat}{most many:Int}(hi:i<3)(hm:0<many)(S:many<=3){acc:List PoolS}(ha:acc.length<=10){o6 o7 o8 o9:Option D}:
  Ex6 λ(p:PoolS) (o6' o7' o8' o9':Option D) (X:W1)=>An5 (vO [‹ns.map D.int›,some<|.int most,↑((nmL ns).map D.str),some<|.int many,↑(acc.map<|jq true),some<|.int<|0+(i:Int),o6,o7,o8,o9] =
   some (.nx [‹ns.map D.int›,some<|.int most,↑((nmL ns).map D.str),some<|.int many,↑((acc++[p]).map (jq true)),some<|.int<|0+(i:Int),o6',o7',o8',o9'])) (PoolOk X p) (p.nm=(nmL ns).getD i []) (∀ w∈X,w∈yd (nmL ns) none (some many)) (∀ w∈p.marks.map (·.1),PtW ns i w):=by
 have f:=jft (ns:=ns) hi;have e:=jmw (ns:=ns) hi;have u:=kr true (nmL ns) (some<|3+4*(0+(i:Int)))<|some<|7+4*(0+(i:Int));have n:∀ w∈yd (nmL ns) (some<|3+4*(0+(i:Int))) (some<|7+4*(0+(i:Int))),Wd w/\w.length<=6:=λw b=>jcK<|jZ b;have v:(yd (nmL ns) (some<|3+4*(0+(i:Int)))<|some<|7+4*(0+(i:Int))).Nodup:=kc<|Qo ns;generalize yd (nmL ns) (some<|3+4*(0+(i:Int))) (some<|7+4*(0+(i:Int)))=M at f u n v e;have T:=jv (ns:=ns) (k:=905+(0+(i:Int))) (many:=3) ∅ ∅ (by decide);have b1:=j7 ns (905+(0+(i:Int))) (many:=3) (by decide);have b2:=yb ns (905+(0+(i:Int))) (many:=3) (by decide);have y:=kr true M none<|some<|1+drw ns (905+(0+(i:Int))) 3;have z:0<(yd M none<|some<|1+drw ns (905+(0+(i:Int))) 3).length:=by
  rw[Jj _ ∅,X6];lia
 have g:(yd M none<|some<|1+drw ns (905+(0+(i:Int))) 3).length<=10:=N6 (yR _ _ _) ∅;have A:∀ w∈yd M none (some<|1+drw ns (905+(0+(i:Int))) 3),Wd w:=λw b=>(n w<|jZ b).1;have B:(yd M none<|some<|1+drw ns (905+(0+(i:Int))) 3).Nodup:=kc v;generalize yd M none (some<|1+drw ns (905+(0+(i:Int))) 3)=C at y z g A B;have E:=ki (o:=true) (l:=M) (i:=3) (by decide) ∅;have h:=n _<|yo (l:=M) (i:=(3:Int).toNat) (d:=[]) (by rw[f];decide);generalize M.getD (3:Int).toNat []=a at E h e;have U:=jv (ns:=ns) (k:=910+(0+(i:Int))) (many:=3) ∅ ∅ (by decide);have F:jh2 none (some<|drw ns (910+(0+(i:Int))) 3) (.lst true [.str a,.str<|a++[104]])=↑((yd [a,a++[104]] none<|some<|drw ns (910+(0+(i:Int))) 3).map D.str):=kr true [a,a++[104]] none _;have G:(yd [a,a++[104]] none<|some<|drw ns (910+(0+(i:Int))) 3).length<=10:=N6 (yR _ _ _) (by simp);have H:∀ w∈yd [a,a++[104]] none (some<|drw ns (910+(0+(i:Int))) 3),Wd w:=by
  intro w b;have:=jZ b;simp only[M4,List.not_mem_nil,or_false] at this;rcases this with rfl | rfl
  ·exact h.1
  ·refine⟨by rw[N3];have:=h.2;simp only[M1,List.length_nil];lia,λc j=>?_⟩;rcases N1.mp j with j | j
   ·exact h.1.2 c j
   ·rw[M7.mp j];decide
 have I:(yd [a,a++[104]] none<|some<|drw ns (910+(0+(i:Int))) 3).Nodup:=kc (by simp);have J:∀ w∈yd [a,a++[104]] none (some<|drw ns (910+(0+(i:Int))) 3),PtW ns i w:=λw b=>by
  have:=jZ b;simp only[M4,List.not_mem_nil,or_false] at this;unfold PtW;rw[<- e];exact this
 generalize yd [a,a++[104]] none (some<|drw ns (910+(0+(i:Int))) 3)=P at F G H I J;have V:=kr true (nmL ns) none<|some many;have q:=ki (o:=true) (l:=nmL ns) (i:=0+(i:Int)) ∅ (by rw[JQ];lia);have K:=jcK<|yo (l:=nmL ns) (i:=(0+(i:Int)).toNat) (d:=[]) (by rw[JQ];lia);have m:(nmL ns).getD (0+(i:Int)).toNat []=(nmL ns).getD i []:=by congr 1;lia
 generalize(nmL ns).getD (0+(i:Int)).toNat []=nm at q K m;have L:jV (jc [] 0) (jn<|p2 QH (pV 0)<|p2 jd (pV 1)<|pV 2) (pF<|pV 0) ((yd (nmL ns) none<|some many).map D.str) [none,↑((nmL ns).map D.str),some<|.int<|0+(i:Int)]=some (((yd (nmL ns) none<|some many).filter λc=>!(c==nm)).map D.str):=by
  refine VM (λρ=>∃ o,ρ=[o,↑((nmL ns).map D.str),some<|.int<|0+(i:Int)]) ?_ ⟨none,rfl⟩;rintro x hx ρ ⟨o,rfl⟩;refine⟨_,rfl,?_,rfl,_,rfl⟩;simp only[jn,p2,pV0,pVs,L4,List.set,q,joB,jck]
 have N:((yd (nmL ns) none<|some many).filter λc=>!(c==nm)).length<=10:=by
  refine N6 (List.length_filter_le _ _) ?_;rw[Jj _ ∅,X6];lia
 have Q:∀ w∈(yd (nmL ns) none<|some many).filter λc=>!(c==nm),Wd w:=λw b=>(jcK<|jZ (List.mem_filter.mp b).1).1;have r:lim (yd (nmL ns) none<|some many).length=true:=jb<|N6 (yR _ _ _) (by rw[JQ];decide);have R:∀ w∈(yd (nmL ns) none<|some many).filter λc=>!(c==nm),w∈yd (nmL ns) none (some many):=λw b=>(List.mem_filter.mp b).1;generalize((yd (nmL ns) none<|some many).filter λc=>!(c==nm))=X at L N Q R;obtain⟨p,W,Y,s,t⟩:=jhg (ns:=ns) (k:=200*(0+(i:Int))) (nm:=nm) (C:=C) (P:=P) (O:=X) ∅ ∅ z g G N K.1 A H Q B I;refine⟨p,↑(M.map D.str),‹C.map D.str›,‹P.map D.str›,‹X.map D.str›,X,?_,Y,s.trans m,R,t▸J⟩;have Z:a.length+[104].length<=100000:=by have:=h.2;simp only[M1,List.length_nil];lia
 simp(disch:=first | lia | (simp;done) | (simp;lia)) [vO,vm,u,T,y,E,U,jfQ Z,F,V,jx,L,r,q,W,jb,-Int.zero_add,-jn]
structure DealOk(Ps:List PoolS):Prop where
 len1:0<Ps.length
 len2:Ps.length<=3
 nmn:(Ps.map (·.nm)).Nodup
 ok:∀ p∈Ps,∃ X,PoolOk X p/\∀ w∈X,w∈Ps.map (·.nm)
 pd:Ps.Pairwise λp q=>∀ w∈p.marks.map (·.1),w∉q.marks.map (·.1)
def jgV(ns:List Int)  (h1:1<=most) (h2:most<=3):∃ Ps:List PoolS,vZ [.lst false<|ns.map D.int,.int most]=↑(Ps.map<|jq true)/\DealOk Ps:=by
 have en:=jfk ns;have A:=jv (ns:=ns) (k:=904) (many:=most) (by decide) (by decide) ∅;have L:=j7 ns 904 (many:=most) ∅;have M:=yb ns 904 (many:=most) ∅;obtain⟨N,e,Ps,r,c,d,g,l,rfl,b,s,o⟩:=Y5 (G:=jc [] 5) (f:=vO) (xs:=Vs 0 (1+drw ns 904 most).toNat) (λi ρ=>∃(Ps:List PoolS) (r c d g l:Option D),ρ=[‹ns.map D.int›,some<|.int most,↑((nmL ns).map D.str),some<|.int<|1+drw ns 904 most,↑(Ps.map<|jq true),r,c,d,g,l]/\Ps.map (·.nm)=(nmL ns).take i/\(∀ p∈Ps,∃ X,PoolOk X p/\∀ w∈X,w∈yd (nmL ns) none (some<|1+drw ns 904 most))/\∀ j p,Ps[j]?=some p->∀ w∈p.marks.map (·.1),PtW ns j w) (by
  rintro i x ρ B ⟨Ps,r,c,d,g,l,rfl,b,s,o⟩;obtain⟨rfl,hi⟩:=V2 B;have m:Ps.length=i:=by have:=congrArg List.length b;rw[L1,X6,JQ] at this;lia
  obtain⟨p,C,E,F,H,X,e,t,u,v,y⟩:=jc1 (ns:=ns) (i:=i) (most:=most) (many:=1+drw ns 904 most) ∅ ∅ ∅ (acc:=Ps) ∅ (o6:=c) (o7:=d) (o8:=g) (o9:=l);refine⟨_,_,rfl,.inl e,Ps++[p],_,_,_,_,_,rfl,?_,λq a=>?_,λj q a=>?_⟩
  ·have n:i<(nmL ns).length:=by rw[JQ];lia
   rw[N4,b,List.take_succ_eq_append_getElem n,List.map_singleton,u,List.getD_eq_getElem?_getD,X5 n];rfl
  ·rcases N1.mp a with a | a
   ·exact s q a
   ·rw[M7.mp a];exact⟨X,t,v⟩
  ·rw[List.getElem?_append] at a;split at a
   ·exact o j q a
   ·have:j=i:=by
     have:=(L9.mp a).1;rw[List.length_singleton] at this
     lia
    subst this;rw[m,Nat.sub_self] at a;cases a;exact y) (ρ:=[‹ns.map D.int›,some<|.int most,↑((nmL ns).map D.str),some<|.int<|1+drw ns 904 most,some<|.lst true [],none,none,none,none,none]) ⟨[],none,none,none,none,none,rfl,rfl,by simp,by simp⟩
 rw[yQ] at b;have z:=qu (j:=1+drw ns 904 most) ∅ ∅;have m:Ps.length=(1+drw ns 904 most).toNat:=by have:=congrArg List.length b;rw[L1,X6,JQ] at this;lia
 refine⟨Ps,?_,by lia,by lia,by rw[b];exact(Qo ns).sublist (List.take_sublist _ _),λp t=>?_,List.pairwise_iff_getElem.mpr λi j hi I J w h1 h2=>?_⟩
 ·simp(disch:=first | lia | (simp;done) | (simp;lia)) [vZ,jK,VV,en,A,z,e,jb]
 ·obtain⟨X,h,v⟩:=s p t;refine⟨X,h,λw K=>?_⟩;have:=v w K;rw[Jj _ ∅] at this;rw[b];exact this
 ·have:=jjl ∅ ∅ (o i _ (X5 hi) w h1) (o j _ (X5 I) w h2)
  lia
noncomputable abbrev j8(Ps:List PoolS):List (List Nat):=Ps.map (·.nm)
def vA(h:DealOk Ps)(o):fzs (Ps.map<|jq o)=Ps.map (jq false):=by
 rw[vT,U0];exact List.map_congr_left λx a=>by obtain⟨X,b,_⟩:=h.ok x a;exact b.fz o
def yC(h:DealOk Ps):frzs (Ps.map<|jq false)=true:=yj λd hd=>by
 obtain⟨x,a,rfl⟩:=M5.mp hd;obtain⟨X,b,_⟩:=h.ok x a;exact b.frz
structure StOk(Ps:List PoolS)(B K:Int)(bs:List Bk)(ln:LN)(ws:List Int):Prop where
 b:Bks B Ps bs
 l:LnOk (j8 Ps) ln
 w:WsOk Ps.length K ws
structure FlowOk(n:Nat)(inc los:List Int):Prop where
 il:inc.length=n
 ll:los.length=n
 i:∀ v∈inc,0<=v/\v<=10 ^ 31
 l:∀ v∈los,0<=v
def jbT{K:Int}(h:0<=K){n}(a:n<=3):K*1024 ^ n<=K*2 ^ 30:=by
 refine Int.mul_le_mul_of_nonneg_left ?_ h;have:n=0\/n=1\/n=2\/n=3:=by lia
 rcases this with rfl | rfl | rfl | rfl<;>decide
def jlv{Ps}(h:DealOk Ps){B K}{bs}{ws d los}(st:StOk Ps B K bs ln ws)(j:FlowOk Ps.length d los)(k:0<=B)(I:B<=10 ^ 19)(J:10 ^ 31<=K)(Q:K*2 ^ 30<=2 ^ 890):
  Ex5 λbs' ln' ob ws' (log:List LG)=>An4 (qo [.lst false<|Ps.map<|jq false,Jh bs ln ws,.lst false<|d.map D.int,.lst false<|los.map D.int]=some (.tup [.tup [.lst true<|bs'.map<|qN false,.lst ob<|ln'.map eR,.lst true<|ws'.map D.int],.lst true<|log.map e7])) (StOk Ps (B+10 ^ 12) (K*2 ^ 30) bs' ln' ws') (log.length<=400*Ps.length) (DR (j8 Ps) (fnOf<|anm 0 Ps) d 0 Ps ln ws ln' ws' log):=by
 have l1:=h.len1;have l2:=h.len2;have m:=jbT (K:=K) ∅ l2;have g:=jfH Ps 0;have c:=wE Ps 0;have L:∀ w,0<=fnOf (anm 0 Ps) w/\fnOf (anm 0 Ps) w<Ps.length:=λw=>by
  have a:=JM (λq n=>(g q n).1) w;have b:=xW (B:=Ps.length-1) ∅ (λq n=>by have:=(g q n).2;lia) w
  lia
 obtain⟨bs',ln',ob,ws',log,M,r,t,u,x,y,z,e,A,C,f,N,E⟩:=uF (by rw[L1];lia) L (ln0:=ln) (ws0:=ws) j.il j.ll j.i j.l (a0:=‹Ps.map (jq false)›) k I (s:=0) (acc:=[]) (ob:=true) (log:=[]) (o9:=none) (o10:=none) (o11:=none) (o12:=none) (o13:=none) (o14:=none) (o15:=none) (λp G=>⟨M5.mpr ⟨p,G,rfl⟩,h.ok p G⟩) st.b ∅ ∅ rfl st.l st.w (by simp) J ∅;rw[X4,X4,List.map_nil,List.map_nil] at e;refine⟨bs',ln',ob,ws',log,?_,⟨A,C,⟨f.len,λv H=>⟨(f.ok v H).1,Int.le_trans (f.ok v H).2 m⟩⟩⟩,N,E⟩;have O:jd (Jh bs ln ws) (.int 1)=‹ln.map eR›:=rfl;have P:jd (Jh bs ln ws) (.int 2)=‹ws.map D.int›:=rfl;have jmt:Vd [.lst false<|ln.map eR]=↑(ln.map eR):=by
  show(bif frzs (ln.map eR) then _ else _)=_;rw[yL];rfl
 have hd:vh [.lst true<|(anm 0 Ps).map e2]=some (dct true (j8 Ps)<|fnOf<|anm 0 Ps):=by
  have:=yG (o:=true) (by rw[c];exact h.nmn) (by rw[jdg];lia);rw[c] at this;exact this
 have F:lim (jL 0<|Ps.map<|jq false).length=true:=jb (by rw[yH,L1];lia);simp[qo,jK,VF,O,P,jmt,wv Ps 0 none none,hd,yC h,vA h false,F,jx,e,jb]
def jdh{ns:List Int}{k:Int}(h:0<=k)(h1:k<=100000)(n:ns.length<=63):∃(v:Int),An3 (yf [.lst false<|ns.map D.int,.int k]=some (.int v)) (0<=v) (v<=10 ^ 31):=by
 have a:=jv (ns:=ns) (k:=k) (many:=6) h ∅ (by decide);have i:=j7 ns k (many:=6) (by decide);have j:=yb ns k (many:=6) (by decide);generalize drw ns k 6=w at a i j;by_cases b:w=0
 ·exact⟨0,by simp[yf,jK,v8,a,b],by decide,by decide⟩
 by_cases d:w<4
 ·have e:=jv (ns:=ns) (k:=k+1) (many:=45) ∅ ∅ (by decide);exact⟨drw ns (k+1) 45,by simp[yf,jK,v8,a,b,d,e],j7 ns (k+1)<|by decide,by have:=yb ns (k+1) (many:=45) (by decide);lia⟩
 by_cases g:w=4
 ·have e:=jv (ns:=ns) (k:=k+1) (many:=30) ∅ ∅ (by decide);have l:=JF (ns:=ns) (k:=k+2) ∅ ∅;have g1:=Ky ns<|k+2;have g2:=xY ns<|k+2;have g3:=j7 ns (k+1) (many:=30) (by decide);have g4:=yb ns (k+1) (many:=30) (by decide);refine⟨coi ns (k+2)*drw ns (k+1) 30,?_,Int.mul_nonneg ∅ g3,Int.le_trans (Int.mul_le_mul g2 (Int.le_of_lt g4) g3<|by decide)<|by decide⟩;simp(disch:=lia) [yf,jK,v8,a,b,d,g,e,l,vm]
 have m:jg (.lst false<|ns.map D.int) (.lst true [.int 0])=↑((ns++[0]).map D.int):=by
  show(bif lim ((ns.map D.int).length+1)&&(frzs (ns.map D.int)&&frzs [.int 0]) then some (D.lst true<|ns.map D.int++[.int 0]) else none)=_;rw[jb<|by rw[L1];lia,Qw,N4];rfl
 have g1:=N9 k (show((ns.length:Int)+1)≠0 by lia);have g2:=N8 k (show 0<((ns.length:Int)+1) by lia);have ix:jd (.lst true<|(ns++[0]).map D.int) (.int<|k%((ns.length:Int)+1))=some (.int<|(ns++[0]).getD (k%((ns.length:Int)+1)).toNat 0):=by
  have f:(k%((ns.length:Int)+1)).toNat<(ns++[0]).length:=by rw[N3];simp only[M1,List.length_nil];lia
  rw[jaz g1<|by rw[L1,N3];simp only[M1,List.length_nil];lia,List.getElem?_map,List.getD_eq_getElem?_getD,X5 f];rfl
 have p3:Vl (.int 10) (.int 30)=some (.int<|10 ^ 30):=rfl;generalize(ns++[0]).getD (k%((ns.length:Int)+1)).toNat 0=c at ix;refine⟨c%10 ^ 30,?_,N9 _<|by decide,by have:=N8 c (show(0:Int)<10 ^ 30 by decide);lia⟩;simp(disch:=lia) [yf,jK,v8,a,b,d,g,m,ix,p3,Y8,jb,-List.map_append]
noncomputable abbrev DY:=List Int×List Int
noncomputable def jW(d:DY):D:=.tup [.lst false<|d.1.map D.int,.lst false<|d.2.map D.int]
def jbj(l:List DY):frzs (l.map jW)=true:=yj λd hd=>by obtain⟨p,_,rfl⟩:=M5.mp hd;simp[jW,qx]
def jgc(l:List DY):fzs (l.map jW)=l.map jW:=Jk λd hd=>by obtain⟨p,_,rfl⟩:=M5.mp hd;simp[jW,qR]
section
variable {ns:List Int}{n:Nat}
def ja7(d:ns.length<=63)(g:n<=3){t:Nat}(h:t<=20){i:Nat}(hi:i<n){los:List Int}(e:los.length<=10){a1 a2 a4 o7:Option D}:∃ v o7',yZ [‹ns.map D.int›,a1,a2,some<|.int<|0+(t:Int),a4,↑(los.map D.int),some<|.int<|0+(i:Int),o7]=some (.nx [‹ns.map D.int›,a1,a2,some<|.int<|0+(t:Int),a4,↑((los++[v]).map D.int),some<|.int<|0+(i:Int),o7'])/\0<=v:=by
 obtain⟨v,b,f,j⟩:=jdh (ns:=ns) (k:=2000+37*(0+(t:Int))+7*(0+(i:Int))) ∅ ∅ d;have c:=jv (ns:=ns) (k:=3000+5*(0+(t:Int))+(0+(i:Int))) (many:=4) ∅ ∅ (by decide);by_cases q:drw ns (3000+5*(0+(t:Int))+(0+(i:Int))) 4=0
 ·have a:xa [.bl<|drw ns (3000+5*(0+(t:Int))+(0+(i:Int))) 4==0]=some (.int 1):=by rw[q];rfl
  refine⟨v,some<|.int v,?_,f⟩;simp(disch:=first | lia | (simp;done) | (simp;lia)) [yZ,b,c,a,vm,jb,-Int.zero_add]
 ·have a:xa [.bl<|drw ns (3000+5*(0+(t:Int))+(0+(i:Int))) 4==0]=some (.int 0):=by rw[U1.mpr q];rfl
  refine⟨0,some<|.int v,?_,by decide⟩;simp(disch:=first | lia | (simp;done) | (simp;lia)) [yZ,b,c,a,vm,jb,-Int.zero_add]
def jcw(z:ns.length<=63)(B:n<=3){t:Nat}(R:t<20){acc:List DY}(A:acc.length<=100){o4 o5 o6 o7:Option D}:Ex5 λ(d:DY) (o4' o5' o6' o7':Option D)=>An2 (vQ [‹ns.map D.int›,some<|.int (n:Int),↑(acc.map jW),some<|.int<|0+(t:Int),o4,o5,o6,o7]=some (.nx [‹ns.map D.int›,some<|.int (n:Int),↑((acc++[d]).map jW),some<|.int<|0+(t:Int),o4',o5',o6',o7'])) (FlowOk n d.1 d.2):=by
 obtain⟨S,C,h,E⟩:=wt (G:=jc [] 0) (p:=jl yf #[pV 1,p2 jg (p2 jg (pI 1000)<|p2 yi (pI 37)<|pV 2)<|p2 yi (pI 7)<|pV 0])
  (Good:=λy=>∃ v:Int,y=.int v/\(0<=v/\v<=10 ^ 31)) (P:=λρ=>∃ o,ρ=[o,‹ns.map D.int›,some<|.int<|0+(t:Int)]) (xs:=Vs 0 n) (by
   rintro x s ρ ⟨o,rfl⟩;obtain⟨i,hi,rfl⟩:=M5.mp s;have hi:=List.mem_range.mp hi;obtain⟨v,F,H,I⟩:=jdh (ns:=ns) (k:=1000+37*(0+(t:Int))+7*(0+(i:Int))) ∅ ∅ z;refine⟨_,.int v,rfl,?_,⟨v,rfl,H,I⟩,some<|.int<|0+(i:Int),rfl⟩;simp(disch:=first | lia | (simp;done) | (simp;lia)) [F,vm,-Int.zero_add]) (ρ:=[none,‹ns.map D.int›,some<|.int<|0+(t:Int)]) ⟨none,rfl⟩
 obtain⟨b,rfl,l⟩:=KW E;rw[L1,yQ] at h;obtain⟨T,e,a,o6',o7',rfl,g,c⟩:=Y5 (G:=jc [] 6) (f:=yZ) (xs:=Vs 0 n) (λi ρ=>∃(a:List Int) (o6 o7:Option D),ρ=[‹ns.map D.int›,some<|.int (n:Int),↑(acc.map jW),some<|.int<|0+(t:Int),↑(b.map D.int),↑(a.map D.int),o6,o7]/\a.length=i/\∀ v∈a,0<=v) (by
  rintro i x ρ s ⟨a,o6,o7,rfl,g,c⟩;obtain⟨rfl,hi⟩:=V2 s;obtain⟨v,o7',J,K⟩:=ja7 (ns:=ns) (n:=n) z B (t:=t) ∅ (i:=i) hi (los:=a) ∅ (a1:=some<|.int (n:Int)) (a2:=↑(acc.map jW)) (a4:=↑(b.map D.int)) (o7:=o7);refine⟨_,_,rfl,.inl J,a++[v],_,_,rfl,by simp[g],λu m=>?_⟩;rcases N1.mp m with m | m
  ·exact c u m
  ·rw[M7.mp m];exact K) (ρ:=[‹ns.map D.int›,some<|.int (n:Int),↑(acc.map jW),some<|.int<|0+(t:Int),↑(b.map D.int),some<|.lst true [],o6,o7]) ⟨[],o6,o7,rfl,rfl,by simp⟩
 rw[yQ] at g;have q:=qu (j:=(n:Int)) ∅ ∅;rw[N7] at q;refine⟨(b,a),‹b.map D.int›,‹a.map D.int›,o6',o7',?_,⟨h,g,l,c⟩⟩;have L:(acc++[(b,a)]).map jW=acc.map jW++[.tup [.lst false<|b.map D.int,.lst false<|a.map D.int]]:=by rw[N4];rfl
 rw[L];have w:lim (Vs 0 n).length=true:=jb (by rw[yQ];lia);have r:lim (acc.map jW).length=true:=jb (by rw[L1];lia);have M:=qx b;have N:=qx a;have O:=qR b;have Q:=qR a;generalize acc.map jW=AC,b.map D.int=II,a.map D.int=LL at *;simp(disch:=first | lia | (simp;done) | (simp;lia)) [vQ,q,w,jx,C,e,M,N,O,Q,r,jb,-Int.zero_add,-jl]
def ji6(ns:List Int)(r:ns.length<=63){n:Nat}(s:n<=3):∃(ds:List DY),An3 (vX [.lst false<|ns.map D.int,.int (n:Int)]=↑(ds.map jW)) (ds.length<=20) (∀ d∈ds,FlowOk n d.1 d.2):=by
 obtain⟨m,v,w⟩:∃ m:Nat,jae [.int (ns.length:Int),.int 20]=some (.int (m:Int))/\m<=20:=by
  by_cases q:(20:Int)<ns.length
  ·refine⟨20,?_,by lia⟩;show some (D.int<|if(20:Int)<ns.length then 20 else ns.length)=_;rw[if_pos q];rfl
  ·refine⟨ns.length,?_,by lia⟩;show some (D.int<|if(20:Int)<ns.length then 20 else ns.length)=_;rw[if_neg q]
 obtain⟨F,e,ds,o,b,c,g,h,rfl,a,p⟩:=Y5 (G:=jc [] 3) (f:=vQ) (xs:=Vs 0 m) (λi ρ=>∃(ds:List DY) (o b c g h:Option D),ρ=[‹ns.map D.int›,some<|.int (n:Int),↑(ds.map jW),o,b,c,g,h]/\ds.length=i/\∀ d∈ds,FlowOk n d.1 d.2) (by
  rintro i x ρ y ⟨ds,o,b,c,g,h,rfl,a,p⟩;obtain⟨rfl,hi⟩:=V2 y;obtain⟨d,z,A,B,C,E,hd⟩:=jcw (ns:=ns) (n:=n) r s (t:=i) ∅ (acc:=ds) ∅ (o4:=b) (o5:=c) (o6:=g) (o7:=h);refine⟨_,_,rfl,.inl E,ds++[d],_,_,_,_,_,rfl,by simp[a],λu k=>?_⟩;rcases N1.mp k with k | k
  ·exact p u k
  ·rw[M7.mp k];exact hd) (ρ:=[‹ns.map D.int›,some<|.int (n:Int),some<|.lst true [],none,none,none,none,none]) ⟨[],none,none,none,none,none,rfl,rfl,by simp⟩
 rw[yQ] at a;have l:=qu (j:=(m:Int)) ∅ ∅;rw[N7] at l;refine⟨ds,?_,by lia,p⟩;simp[vX,jK,VJ,v,l,e,jb,-uI]
end
structure RD where
 bs:List Bk
 ln:LN
 ws:List Int
 log:List LG
def jT(r:RD):D:=.tup [Jh r.bs r.ln r.ws,.lst false<|r.log.map e7]
def JZ(bs)(ln)(ws):frz (Jh bs ln ws)=true:=by simp[Jh,Y1,yL]
def jc4(bs)(ln)(ws):fz (Jh bs ln ws)=Jh bs ln ws:=by simp[Jh,wT,J6]
def jaV(l:List RD):frzs (l.map jT)=true:=kY (λp=>by simp[jT,JZ,vb]) _
def jjD(l:List RD):fzs (l.map jT)=l.map jT:=kK (λp=>by simp[jT,jc4,VT]) _
structure RdOk(Ps:List PoolS)(r:RD):Prop where
 b:∃ B,Bks B Ps r.bs
 l:r.log.length<=2400
 n:LnOk (j8 Ps) r.ln
abbrev atF(Ps:List PoolS):List Nat->Int:=fnOf<|anm 0 Ps
inductive RunR (Ps:List PoolS):LN->List Int->List DY->List RD->Prop
 | nil {ln ws}:RunR Ps ln ws [] []
 | cons {ln ws d ds r rs}(h:DR (j8 Ps) (atF Ps) d.1 0 Ps ln ws r.ln r.ws r.log) (o:RdOk Ps r) (w:r.ws.length=Ps.length) (t:RunR Ps r.ln r.ws ds rs):RunR Ps ln ws (d::ds) (r::rs)
theorem uz(h:DealOk Ps)  : ∀{ds:List DY}{bs}{ln}{ws}{B K}{st}{acc}{o4 o5 o6},(∀ d∈ds,FlowOk Ps.length d.1 d.2)->StOk Ps B K bs ln ws->fz st=Jh bs ln ws->0<=B->B+10 ^ 12*ds.length<=10 ^ 19->10 ^ 31<=K->K*(2 ^ 30) ^ ds.length<=2 ^ 890->acc.length+ds.length<=1000 ->
  Ex5 λrs st' o4' o5' o6'=>An3 (jG (gT 2<|gC (jc [] 4)<|gC (jc [] 5) gN) xO (ds.map jW) [‹Ps.map (jq false)›,a1,some st,↑(acc.map jT),o4,o5,o6]=some (.nx [‹Ps.map (jq false)›,a1,some st',↑((acc++rs).map jT),o4',o5',o6'])) (rs.length=ds.length)<|RunR Ps ln ws ds rs
 | [],bs,ln,ws,B,K,st,acc,o4,o5,o6,_,_,_,_,_,_,_,_=>⟨[],st,o4,o5,o6,by simp,rfl,.nil⟩
 | d::ds,bs,ln,ws,B,K,st,acc,o4,o5,o6,hd,t,k,m,u,v,s,y=>by
  rw[M1] at u s y;rw[Int.pow_succ] at s;have z:∀ n:Nat,(1:Int)<=(2 ^ 30) ^ n:=λn=>by
   induction n with
   | zero=>decide
   | succ n I=>rw[Int.pow_succ];lia
  have A:K*2 ^ 30<=K*2 ^ 30*(2 ^ 30) ^ ds.length:=by
   have:=Int.mul_le_mul_of_nonneg_left (z ds.length) (show 0<=K*2 ^ 30 by lia)
   lia
  obtain⟨a,c,ob,f,log,e,g,C,o⟩:=jlv h t (hd d<|by simp) m ∅ v ∅;obtain⟨rs,st',o4',o5',o6',i,p,j⟩:=uz h (a1:=a1) (ds:=ds) (acc:=acc++[⟨a,c,f,log⟩]) (o4:=‹d.1.map D.int›) (o5:=‹d.2.map D.int›) (o6:=some<|jT ⟨a,c,f,log⟩) (λx E=>hd x<|by simp[E]) g (jc4 _ _ _) ∅ ∅ ∅ ∅ (by simp;lia);refine⟨⟨a,c,f,log⟩::rs,st',o4',o5',o6',?_,by rw[M1,M1,p],.cons o ⟨⟨_,g.b⟩,by have:=h.len2;lia,g.l⟩ g.w.len j⟩;have F:(acc++[(⟨a,c,f,log⟩:RD)]).map jT=acc.map jT++[jT ⟨a,c,f,log⟩]:=by simp
  rw[F] at i;rw[L5,lpF ?_,i];simp only[List.append_assoc,List.singleton_append];show(some _).bind _=_;have G:fz (.tup [.tup [.lst true<|a.map<|qN false,.lst ob<|c.map eR,.lst true<|f.map D.int],.lst true<|log.map e7])=jT ⟨a,c,f,log⟩:=by simp[jT,Jh,wT,J6,VT]
  have q:frz (jT ⟨a,c,f,log⟩)=true:=by simp[jT,JZ,vb]
  have H:jd (jT ⟨a,c,f,log⟩) (.int 0)=some (Jh a c f):=rfl;have r:lim (acc.map jT).length=true:=kN ∅;generalize acc.map jT=AC at *;simp[xO,k,yC h,vA h false,JZ bs ln ws,jc4 bs ln ws,e,G,q,H,JZ a c f,r]
def bk0(p:PoolS):Bk:=⟨uM p,qe p,qe p,jaN p,0⟩
def jmD(h:PoolOk O p):BkOk p 0 (bk0 p).S (bk0 p).W (bk0 p).R (bk0 p).L:=by
 refine⟨?_,λq a=>?_,?_,λq a=>?_,?_,?_,λq a=>?_,λq a=>?_⟩
 ·show(uM p).map (·.1)=_;unfold uM;rw[U0];rfl
 ·obtain⟨c,b,rfl⟩:=M5.mp a;have:=h.told c b
  lia
 ·show(qe p).map (·.1)=_;unfold qe;rw[U0];rfl
 ·obtain⟨c,b,rfl⟩:=M5.mp a;exact⟨Int.le_refl _,Int.le_refl _⟩
 ·show(qe p).map (·.1)=_;unfold qe;rw[U0];rfl
 ·show(jaN p).map (·.1)=_;unfold jaN;rw[U0];rfl
 ·obtain⟨c,b,rfl⟩:=M5.mp a;exact Int.le_refl _
 ·obtain⟨c,b,rfl⟩:=M5.mp a;exact Int.le_refl _
theorem jo4:∀{Q},(∀ p∈Q,∃ X,PoolOk X p)->Bks 0 Q (Q.map bk0)
 | [],_=>.nil
 | p::Q,h=>by
  obtain⟨X,a⟩:=h p (by simp);exact .cons (jmD a)<|jo4 λq b=>h q (by simp[b])
noncomputable def zs(Ps:List PoolS):List Int:=Ps.map λ_=>0
def jjs(Ps:List PoolS):D:=.tup [.lst true<|(Ps.map bk0).map (qN true),.lst true [],.lst true<|(zs Ps).map D.int]
def jhk(Ps):fz (jjs Ps)=Jh (Ps.map bk0) [] (zs Ps):=by
 have:fzs ((Ps.map bk0).map (qN true))=(Ps.map bk0).map (qN false):=by
  rw[vT,U0];exact List.map_congr_left λx _=>zB _ _
 simp[jjs,Jh,this,-List.map_map]
def jaO(Ps):clean (jjs Ps)=true:=by
 have a:ym ((Ps.map bk0).map (qN true))=true:=by
  rw[yJ,List.all_map,List.all_eq_true];intro x _;exact Qu ..
 simp[jjs,a,-List.map_map]
def jd6(h:DealOk Ps):V0 [.lst false<|Ps.map<|jq false]=some (jjs Ps):=by
 have l2:=h.len2;have l1:lim Ps.length=true:=jb ∅;have c1:jV (jc [] 0) qT (jl yV #[pV 0]) (Ps.map<|jq false) [none]=some ((Ps.map bk0).map (qN true)):=by
  rw[U0];refine jw rfl (λρ=>∃ o,ρ=[o]) ?_ ⟨none,rfl⟩;rintro p b ρ ⟨o,rfl⟩;obtain⟨X,a,_⟩:=h.ok p b;refine⟨[some<|jq false p],rfl,?_,_,rfl⟩;show _=some (bkD true (uM p) (qe p) (qe p) (jaN p) 0);simp[a.fz false,a.frz,V1 a]
 have c:jV (jc [] 0) qT (pI 0) (Ps.map<|jq false) [none]=some ((zs Ps).map D.int):=by
  unfold zs;rw[U0];exact jw rfl (λρ=>∃ o,ρ=[o]) (by simp) ⟨none,rfl⟩
 have d:lim (Ps.map<|jq false).length=true:=by rw[L1];exact l1
 unfold jjs;simp[V0,jK,jbL,yC h,d,jx,c1,c,jb,-List.length_map]
def jdD{c:Int}(a:1<=c)(m n)(h:m<=n):c ^ m<=c ^ n:=by
 induction n with
 | zero=>
  have:m=0:=by lia
  subst this;exact Int.le_refl _
 | succ n b=>
  by_cases q:m=n+1
  ·lia
  ·have e:=b ∅;have d:0<=c ^ n:=Int.pow_nonneg ∅;have f:=Int.mul_le_mul_of_nonneg_left a d
   lia
def jlq:(10:Int) ^ 31*(2 ^ 30) ^ 20<=2 ^ 890:=by
 have a:(10:Int) ^ 31<=2 ^ 200:=by decide
 have b:((2:Int) ^ 30) ^ 20=2 ^ 600:=by rfl
 exact Int.le_trans (Int.mul_le_mul_of_nonneg_right a<|Int.pow_nonneg<|by decide)<|jdD (by decide) 800 890 (by decide)
def jlQ{Ps}(h:DealOk Ps){ds:List DY}(hd:∀ d∈ds,FlowOk Ps.length d.1 d.2)(b:ds.length<=20):∃(rs:List RD),An3 (jet [.lst false<|Ps.map<|jq false,.lst false<|ds.map jW]=↑(rs.map jT)) (rs.length=ds.length) (RunR Ps [] (zs Ps) ds rs):=by
 have c:StOk Ps 0 (10 ^ 31) (Ps.map bk0) [] (zs Ps):=⟨jo4 λp f=>by obtain⟨X,g,_⟩:=h.ok p f;exact⟨X,g⟩,⟨by simp,by simp⟩,⟨by simp[zs],λv i=>by obtain⟨p,_,rfl⟩:=M5.mp i;exact⟨Int.le_refl _,by decide⟩⟩⟩;have j:(10:Int) ^ 31*(2 ^ 30) ^ ds.length<=2 ^ 890:=by
  have k:∀ m n:Nat,m<=n->((2:Int) ^ 30) ^ m<=(2 ^ 30) ^ n:=jdD (by decide);exact Int.le_trans (Int.mul_le_mul_of_nonneg_left (k ds.length 20 b)<|show 0<=10 ^ 31 by decide) jlq
 obtain⟨rs,l,o,q,r,e,a,s⟩:=uz h (a1:=‹ds.map jW›) (acc:=[]) (o4:=none) (o5:=none) (o6:=none) hd c (jhk Ps) (by decide) ∅ (by decide) j (by simp;lia);rw[X4,List.map_nil] at e;refine⟨rs,?_,a,s⟩;simp[jet,jK,jkg,vA h false,jbj ds,jgc ds,jaO Ps,jd6 h,e,jb]
def plt:Nat->D->Prop
 | 0,_=>False
 | n+1,d=>(∃ i,d=.int i)\/(∃ w,d=.str w) \/ ∃ l,(d=.tup l\/d=.lst false l)/\l.length<=3000/\frzs l=true/\∀ x∈l,plt n x
theorem wQ:∀{n d},plt n d->yu n [d]=some (.bl true)
 | n+1,d,h=>by
  show fnP 1 (qY<|yu n) [d]=_;rcases h with⟨i,rfl⟩ | ⟨w,rfl⟩ | ⟨l,hd,u,b,j⟩
  ·rfl
  ·rfl
  ·have k:itB d=some l:=by rcases hd with rfl | rfl<;>(show(bif frzs l then some l else none)=_;rw[b];rfl)
   have ty:((tyD d).bind λt=>some<|D.bl<|Jt t "list"||Jt t "tuple")=some (.bl true):=by rcases hd with rfl | rfl<;>rfl
   have c:jV (jc [] 0) qT (jl (yu n) #[pV 0]) l [none]=some (l.map λ_=>.bl true):=by
    refine jw (en:=id) (List.map_id l).symm (λρ=>∃ o,ρ=[o]) ?_ ⟨none,rfl⟩;rintro x f ρ ⟨o,rfl⟩;refine⟨[some x],rfl,?_,_,rfl⟩;have g:frzs [x]=true:=by
     have:=kB l▸b;have:=List.all_eq_true.mp this x f;rw[JI,this];rfl
    have p:=yS _ g;have e:=wQ<|j x f;generalize yu n=m at e;simp[g,p,e]
   have q:jkd [.lst true<|l.map λ_=>D.bl true]=some (.bl true):=by
    have:∀ l:List D,JJ (l.map λ_=>D.bl true)=some (l.map λ_=>true):=λl=>by
     induction l with
     | nil=>rfl
     | cons a l r=>show(JJ<|l.map λ_=>D.bl true).bind _=_;rw[r];rfl
    show(JJ<|l.map λ_=>D.bl true).bind _=_;rw[this];simp
   have s:lim l.length=true:=jb ∅;generalize yu n=m at c;simp[jK,qY,ty,k,s,jx,c,q]
noncomputable def ruL(o:OrdS):List D:=List.replicate o.parts.length (.tup [])++o.rules
noncomputable def ruK(os:List OrdS):List KA:=os.map λo=>.str o.nm
def ruV(os:List OrdS):List D:=os.map λo=>.lst false<|ruL o
def ui(n):frzs (List.replicate n<|.tup [])=true:=yj λd hd=>by rw[(List.mem_replicate.mp hd).2];rfl
def QX(a b:List D)(h:frzs a=true)(k:frzs b=true):frzs (a++b)=true:=by rw[kB,List.all_append,<- kB,<- kB,h,k];rfl
theorem uq{C P O a0}:∀{os acc:List OrdS}{o2 o3 o4},(∀ x∈os,OrdOk C P O x)->((acc++os).map (·.nm)).Nodup->(acc++os).length<=20 ->
  Ex3 λo2' o3' o4'=>jG (gT 3<|gC (jc [] 2)<|gC (jc [] 3)<|gC (jc [] 4) gN) vp (os.map<|vk false) [a0,some<|.dK true (ruK acc)<|ruV acc,o2,o3,o4]=some (.nx [a0,some<|.dK true (ruK<|acc++os)<|ruV<|acc++os,o2',o3',o4'])
 | [],acc,o2,o3,o4,_,_,_=>⟨o2,o3,o4,by rw[M9];rfl⟩
 | x::os,acc,o2,o3,o4,h,nd,f=>by
  have b:=h x (by simp);obtain⟨o2',o3',o4',e⟩:=uq (a0:=a0) (os:=os) (acc:=acc++[x]) (o2:=some<|.str x.nm) (o3:=‹x.parts.map e2›) (o4:=‹x.rules›) (λq c=>h q<|by simp[c]) ⇑nd ⇑f;refine⟨o2',o3',o4',?_⟩;rw[List.append_assoc] at e;rw[L5,lpE rfl ?_,e]
  ·rfl
  have pl:=b.plen;have r:=b.len;have g:=b.frzr;have j:Qf (.lst true [.tup []]) (.int x.parts.length)=↑(List.replicate x.parts.length<|.tup []):=by
   show(bif _&&_&&_ then some (D.lst true (List.replicate (x.parts.length:Int).toNat [D.tup []]).flatten) else none)=_;rw[N7,show ∀ n,(List.replicate n [D.tup []]).flatten=List.replicate n (.tup []) from λn=>by simp,show(frzs [.tup []]&&decide (([D.tup []]:List D).length<=1000)&&(decide (0<=(x.parts.length:Int))&&decide ((x.parts.length:Int)<=1000)))=true by rw[X0<|by lia:(0:Int)<=x.parts.length,X0<|by lia:(x.parts.length:Int)<=1000];rfl];rfl
  have fr:=ui x.parts.length;have k:jg (.lst true<|List.replicate x.parts.length<|.tup []) (.lst false x.rules)=↑(ruL x):=by
   show(bif lim ((List.replicate x.parts.length<|D.tup []).length+x.rules.length)&&(frzs (List.replicate x.parts.length<|.tup [])&&frzs x.rules) then _ else _)=_;rw[jb<|by rw[List.length_replicate];lia,fr,g];rfl
  have i:frzs (ruL x)=true:=QX _ _ fr g;have d:fz (.lst true<|ruL x)=.lst false (ruL x):=by rw[fz,yS _ i]
  have l:¬ KA.str x.nm∈ruK acc:=λz=>by
   obtain⟨q,c,e⟩:=M5.mp z;rw[N4,U8] at nd;exact nd.2.2 _ (M5.mpr ⟨q,c,rfl⟩) x.nm (by simp) (by injection e)
  have m:kn (ruK acc) (ruV acc) (.str x.nm) (.lst false<|ruL x)=(ruK<|acc++[x],ruV<|acc++[x]):=by
   unfold kn;rw[if_neg l];simp[ruK,ruV]
  have o:lim (ruK acc).length=true:=by unfold ruK;exact kN (by simp at f;lia)
  have p:kC (.str x.nm)=some (.str x.nm):=rfl;have a:frz (.lst false<|ruL x)=true:=i;generalize ruK acc=ks,ruV acc=vs at *;simp[vp,j,k,d,a,m,o,p,jb]
def jei{O p}(h:PoolOk O p):ku [jq false p]=some (.dK true (ruK p.orders)<|ruV p.orders):=by
 obtain⟨a,b,c,e⟩:=uq (a0:=some<|jq false p) (acc:=[]) (o2:=none) (o3:=none) (o4:=none) h.orders ⇑h.ordn (by have:=h.orders2;simp;lia);have e:jG (gT 3<|gC (jc [] 2)<|gC (jc [] 3)<|gC (jc [] 4) gN) vp (p.orders.map<|vk false) [some<|jq false p,some<|.dK true [] [],none,none,none]=_:=e;have d:jd (jq false p) (.int 4)=‹p.orders.map (vk false)›:=rfl;simp[ku,jK,YM,d,v9 h.orders,yS _<|v9 h.orders,e]
def jky{O p}(h:PoolOk O p){o}(a:o∈p.orders):yq (.dK false (ruK p.orders)<|ruV p.orders) (.str o.nm)=‹ruL o›:=by
 show KR (ruK p.orders) (ruV p.orders) (.str o.nm)=_;have:=YU o.nm<|p.orders.map λo=>(o.nm,D.lst false<|ruL o);rw[U0,U0] at this;exact this.trans<|Vb (by rw[U0];exact h.ordn) (o.nm,D.lst false<|ruL o)<|M5.mpr ⟨o,a,rfl⟩
def jmN{O p}(h:PoolOk O p):frzs (ruV p.orders)=true:=yj λd hd=>by
 obtain⟨o,a,rfl⟩:=M5.mp hd;show frzs (ruL o)=true;exact QX _ _ (ui _) (h.orders o a).frzr
theorem jgu{w}:∀{Q:List PoolS}{s:Nat},w∈Q.map (·.nm)->fnOf (anm s Q) w=(s:Int)+((Q.map (·.nm)).idxOf w:Nat)
 | p::Q,s,h=>by
  show(if p.nm=w then some (s:Int) else lkp w (anm (s+1) Q)).getD 0=_;rw[L5,List.idxOf_cons];by_cases e:p.nm=w
  ·rw[if_pos e,beq_iff_eq.mpr e];simp
  ·rw[if_neg e,U1.mpr e];have:=jgu (s:=s+1)<|(M4.mp h).resolve_left λz=>e z.symm;unfold fnOf at this;rw[this];simp;lia
def lwA(nm:List Nat)(A:LN)(e:En):LN:=if e.kd=jS then YN A (nm,e.nm) (fnL A (nm,e.nm)+e.gt) else if e.kd=yy then YN A (e.nm,nm) (fnL A (e.nm,nm)-e.gt) else A
def jgs(nm A e):fnL (lwA nm A e)=lbF nm (fnL A) e:=by
 unfold lwA lbF;split
 ·exact Kt ..
 ·split
  ·exact Kt ..
  ·rfl
def jac(Ps:List PoolS):jV (jc [] 0) qT (pF<|p2 jd (pV 0)<|pI 0) (Ps.map<|jq false) [none]=some ((j8 Ps).map D.str):=by
 rw[U0];exact jw (en:=jq false) rfl (λρ=>∃ o,ρ=[o]) (by rintro q a ρ ⟨o,rfl⟩;exact⟨[some<|jq false q],rfl,rfl,_,rfl⟩) ⟨none,rfl⟩
def jcx(A:LN)(a b:List Nat):(zy (A.map kL) (A.map vL) [.str a,.str b]).getD (.int 0)=.int (fnL A (a,b)):=by
 rw[JU (a,b)];unfold fnL;cases yD A (a,b)<;>rfl
def jfo{Ps}(hP:DealOk Ps){O p}(h:PoolOk O p){o}(K:o∈p.orders){A:LN}(N:A.length<=1000){W:List Int}(L:W.length=Ps.length){e:En}(k:qE e=true)(d:LbC p.nm (j8 Ps) (ruF o) (fnL A) e):
  vz [.lst false<|Ps.map<|jq false,dLn true A,.lst true<|W.map D.int,e7 (p.nm,o.nm,e),.dK false (ruK p.orders)<|ruV p.orders]=some (.bl true,dLn true<|lwA p.nm A e,.lst true<|(wtF (atF Ps) W e.nm e.gt).map D.int):=by
 have c1:=jac Ps;have l2:=hP.len2;have hi:(j8 Ps).idxOf e.nm<W.length:=by rw[L,<- L1 (f:=(·.nm))];exact List.idxOf_lt_length_iff.mpr d.n
 have x:(atF Ps e.nm).toNat=(j8 Ps).idxOf e.nm:=by
  show(fnOf (anm 0 Ps) e.nm).toNat=_;rw[jgu d.n];simp
 have M:wtF (atF Ps) W e.nm e.gt=W.set ((j8 Ps).idxOf e.nm) (W[(j8 Ps).idxOf e.nm]+e.gt):=by
  unfold wtF;rw[x,List.getD_eq_getElem?_getD,X5 hi];rfl
 have s:JS (.lst true<|(j8 Ps).map D.str) [.str e.nm]=some (.int ((j8 Ps).idxOf e.nm:Nat)):=by
  rw[V7,uQ,L4,X0 d.n];rfl
 rw[M,List.map_set];generalize(j8 Ps).idxOf e.nm=i at hi s;have t:jd (.lst true<|W.map D.int) (.int i)=some (.int W[i]):=by
  rw[jaz ∅ (by rw[L1];lia),N7,List.getElem?_map,X5 hi];rfl
 have c:ixN (W.map D.int).length i=some i:=QM (by rw[L1];exact hi);have F:lim (Ps.map<|jq false).length=true:=kN ∅;have G:itB (.lst false<|Ps.map<|jq false)=some (Ps.map<|jq false):=by show(bif frzs (Ps.map<|jq false) then _ else _)=_;rw[yC hP];rfl
 have y:lim (A.map kL).length=true:=kN ∅;have H:=jky h K;have g0:=d.g0;have g1:=d.g1;have g:e.kd=jS\/e.kd=yy:=by simpa [qE] using k
 obtain⟨pl,kd,a,nd,gt⟩:=e;dsimp only at s;generalize(j8 Ps).map D.str=NN at c1 s;generalize Ps.map (jq false)=PP,ruK p.orders=RK,ruV p.orders=RV at *;have v:jdv (dP<|pF<|pV 3) (gT 7<|gC (jc [1,2] 5)<|gC (jc [1,2] 6)<|gC (jc [1,2] 7)<|gC (jc [1,2] 8)<|gC (jc [1,2] 9)<|gC (jc [1,2] 10)<|gC (jc [1,2] 11) gN) [‹PP›,some<|dLn true A,↑(W.map D.int),some<|e7 (p.nm,o.nm,⟨pl,kd,a,nd,gt⟩),some<|.dK false RK RV,none,none,none,none,none,none,none,none,none,none] =
   some (.nx [‹PP›,some<|dLn true A,↑(W.map D.int),some<|e7 (p.nm,o.nm,⟨pl,kd,a,nd,gt⟩),some<|.dK false RK RV,some<|.str p.nm,some<|.str o.nm,some<|.int pl,some<|.str kd,some<|.str a,some<|.int nd,some<|.int gt,none,none,none]):=rfl
 rcases g with g | g
 ·dsimp only at g;subst g;obtain⟨j,I,z,m⟩:=d.l rfl;dsimp only at I z m g0 g1 hi;have u:jd (.lst false<|ruL o) (.int pl)=some (.tup [.str jS,.str a,.int j]):=by
   have P:=(L9.mp z).1;rw[jaz I<|by unfold ruL;lia];exact z
  have r2:jd (.tup [.str jS,.str a,.int j]) (.int 2)=some (.int j):=rfl;have w:=jcx A p.nm a;have pt:=YC (p.nm,a) (fnL A (p.nm,a)+gt) A;have r:lwA p.nm A ⟨pl,jS,a,nd,gt⟩=YN A (p.nm,a) (fnL A (p.nm,a)+gt):=rfl;rw[r];have J:ji3 [.int 0,.int<|j-fnL A (p.nm,a)]=some (.int nd):=by
   show some (D.int<|if 0<j-fnL A (p.nm,a) then j-fnL A (p.nm,a) else 0)=_;rw[m];unfold mx0;congr 2;split<;>split<;>lia
  have B:¬ gt=0->fnL A (p.nm,a)+gt<=j:=λq=>by unfold mx0 at m;split at m<;>lia
  generalize fnL A (p.nm,a)=f at *;unfold dLn at v ⊢;generalize A.map kL=ks,A.map vL=vs at *;have C:qZ [‹PP›,some<|.dT true ks vs,↑(W.map D.int),some<|e7 (p.nm,o.nm,⟨pl,jS,a,nd,gt⟩),some<|.dK false RK RV,none,none,none,none,none,none,none,none,none,none]=some (.rt (.bl true) [‹PP›,some<|.dT true ((YN A (p.nm,a)<|f+gt).map kL)<|(YN A (p.nm,a)<|f+gt).map vL,↑((W.map D.int).set i (.int<|W[i]+gt)),some<|e7 (p.nm,o.nm,⟨pl,jS,a,nd,gt⟩),some<|.dK false RK RV,some<|.str p.nm,some<|.str o.nm,some<|.int pl,some<|.str jS,some<|.str a,some<|.int nd,some<|.int gt,some<|.int i,some<|.int f,some<|.int j]):=by
   refine sq v ?_;apply sq (by simp[G,F,jx,c1,s,-V7];rfl);apply sq (by simp[t,c,-List.length_map];rfl);by_cases E:gt=0
   ·subst E;simp only[Int.add_zero] at pt ⊢;simp[w,H,u,r2,y,pt,J]
   ·simp[w,H,u,r2,y,pt,J,E,B E]
  rw[vz,jgU];simp[C]
 ·dsimp only at g;subst g;have m:=d.b rfl;dsimp only at m g0 g1 hi;have w:=jcx A a p.nm;have pt:=YC (a,p.nm) (fnL A (a,p.nm)-gt) A;have r:lwA p.nm A ⟨pl,yy,a,nd,gt⟩=YN A (a,p.nm) (fnL A (a,p.nm)-gt):=rfl;rw[r];generalize fnL A (a,p.nm)=f at *;subst m;unfold dLn at v ⊢;generalize A.map kL=ks,A.map vL=vs at *;have C:qZ [‹PP›,some<|.dT true ks vs,↑(W.map D.int),some<|e7 (p.nm,o.nm,⟨pl,yy,a,nd,gt⟩),some<|.dK false RK RV,none,none,none,none,none,none,none,none,none,none]=some (.rt (.bl true) [‹PP›,some<|.dT true ((YN A (a,p.nm)<|nd-gt).map kL)<|(YN A (a,p.nm)<|nd-gt).map vL,↑((W.map D.int).set i (.int<|W[i]+gt)),some<|e7 (p.nm,o.nm,⟨pl,yy,a,nd,gt⟩),some<|.dK false RK RV,some<|.str p.nm,some<|.str o.nm,some<|.int pl,some<|.str yy,some<|.str a,some<|.int nd,some<|.int gt,some<|.int i,some<|.int nd,none]):=by
   refine sq v ?_;apply sq (by simp[G,F,jx,c1,s,-V7];rfl);apply sq (by simp[t,c,-List.length_map];rfl);simp[w,y,pt,g1]
  rw[vz,jgU];simp[C]
structure AOk(N:W1)(A:LN):Prop where
 nd:(A.map (·.1)).Nodup
 mem:∀ r∈A,r.1.1∈N/\r.1.2∈N
def AOk.len{N A}(h:AOk N A)(b:N.length<=6):A.length<=36:=by
 have:=LnOk.len (N:=N) (l:=A.map λr=>(r.1,0)) ⟨by rw[U0];exact h.nd,λr c=>by obtain⟨q,a,rfl⟩:=M5.mp c;exact⟨(h.mem q a).1,(h.mem q a).2,Int.le_refl _⟩⟩ b
 rwa [L1] at this
def AOk.put{N A k v}(h:AOk N A)(h1:k.1∈N)(h2:k.2∈N):AOk N (YN A k v):=by
 unfold YN;split
 ·refine⟨by rw[Qd];exact h.nd,λr c=>?_⟩;obtain⟨q,f,rfl⟩:=M5.mp c;exact h.mem q f
 ·next e=>
  refine⟨?_,λr c=>?_⟩
  ·rw[N4,U8];exact⟨h.nd,by simp,λa g b d=>by simp at d;rintro rfl;exact e<|d▸g⟩
  ·rcases N1.mp c with c | c
   ·exact h.mem r c
   ·rw[M7.mp c];exact⟨h1,h2⟩
def AOk.lw{N A nm}(h:AOk N A)(a:nm∈N){e:En}(b:e.nm∈N):AOk N (lwA nm A e):=by
 unfold lwA;split
 ·exact h.put a b
 ·split
  ·exact h.put b a
  ·exact h
def wtL(f:List Nat->Int)(W:List Int)(es:List En):List Int:=es.foldl (λW e=>if qE e then wtF f W e.nm e.gt else W) W
def jc8(f W w g):(wtF f W w g).length=W.length:=by unfold wtF;exact List.length_set ..
def jfi(f W w):wtF f W w 0=W:=by
 unfold wtF;rw[Int.add_zero];by_cases h:(f w).toNat<W.length
 ·rw[List.getD_eq_getElem?_getD,X5 h];exact List.set_getElem_self h
 ·exact List.set_eq_of_length_le ∅
theorem jkY{nm N J f}:∀{es W g},LbAll nm N J g es->wtL f W es=wtM f W (mvE es)
 | [],_,_,_=>rfl
 | e::es,W,g,h=>by
  show wtL f (if qE e then wtF f W e.nm e.gt else W) es=wtM f W (mvE<|[e]++es);rw[YL,jkY h.2];by_cases b:qE e=true
  ·rw[if_pos b];by_cases q:0<e.gt
   ·have a:mvE [e]=[(e.kd,e.nm,e.gt)]:=by unfold mvE;rw[List.filter_cons_of_pos (p:=λe=>qE e&&decide (0<e.gt))<|by simp[b,q]];rfl
    rw[a];rfl
   ·have a:mvE [e]=[]:=by unfold mvE;rw[List.filter_cons_of_neg (p:=λe=>qE e&&decide (0<e.gt))<|by simp[q]];rfl
    have:e.gt=0:=by have:=(h.1 b).g0;lia
    rw[a,this,jfi];rfl
  ·rw[if_neg b];have a:mvE [e]=[]:=by unfold mvE;rw[List.filter_cons_of_neg (p:=λe=>qE e&&decide (0<e.gt))<|by simp[b]];rfl
   rw[a];rfl
def lpC{G:D->Rh->Option Rh}{f:FS}{x xs ρ a b}(h:G x ρ=some a)(k:f a=some (.ct b)):jG G f (x::xs) ρ=jG G f xs b:=by
 rw[jM,h,L4,k];rfl
section
variable {tl:List D}{Ps:List PoolS}(hP:DealOk Ps){O:W1}{p:PoolS}(h:PoolOk O p){LG':D}
include hP h
theorem Yo:∀{l:List LG}{A:LN}{W:List Int}{g o6},(∀ x∈l,x.1≠p.nm\/x.2.2.kd∈G3) ->
  ∃ o6',jG (jc [3,4] 6) jj (l.map e7++tl) [‹Ps.map (jq false)›,some<|jq false p,some LG',some<|dLn true A,↑(W.map D.int),some<|.int g,o6]=jG (jc [3,4] 6) jj tl [‹Ps.map (jq false)›,some<|jq false p,some LG',some<|dLn true A,↑(W.map D.int),some<|.int g,o6']
 | [],A,W,g,o6,_=>⟨o6,rfl⟩
 | x::l,A,W,g,o6,d=>by
  obtain⟨o6',e⟩:=Yo (l:=l) (A:=A) (W:=W) (g:=g) (o6:=some<|e7 x) λq h=>d q (by simp[h]);refine⟨o6',?_⟩;rw[L5,List.cons_append,lpE rfl ?_,e];have b:jd (e7 x) (.int 0)=some (.str x.1):=rfl;have i:jd (e7 x) (.int 3)=some (.str x.2.2.kd):=rfl;have c:jd (jq false p) (.int 0)=some (.str p.nm):=rfl;have a:=KC true true x.2.2.kd G3;rw[show G3.map D.str=[.str [101,97,116],.str [103,117,97,114,100],.str [116,119,105,99,101]] from rfl] at a;generalize jq false p=EP,Ps.map (jq false)=PP,e7 x=EX at *;rcases d x (by simp) with q | q
  ·simp[jj,b,c,U1.mpr q]
  ·rw[X0 q] at a;by_cases f:x.1=p.nm
   ·simp[jj,b,c,i,f,a,jb]
   ·simp[jj,b,c,U1.mpr f]
theorem xh(t:p.nm∈j8 Ps){o}(u:o∈p.orders):∀{es:List En}{A:LN}{W:List Int}{g o6},LbAll p.nm (j8 Ps) (ruF o) (fnL A) es->AOk (j8 Ps) A->W.length=Ps.length ->
  Ex2 λA' o6'=>An3 (jG (jc [3,4] 6) jj ((es.map λe=>((p.nm,o.nm,e):LG)).map e7++tl) [‹Ps.map (jq false)›,some<|jq false p,some LG',some<|dLn true A,↑(W.map D.int),some<|.int g,o6]=jG (jc [3,4] 6) jj tl [‹Ps.map (jq false)›,some<|jq false p,some LG',some<|dLn true A',↑((wtL (atF Ps) W es).map D.int),some<|.int<|g+tot es,o6']) (fnL A'=jdI p.nm (fnL A) es)<|AOk (j8 Ps) A'
 | [],A,W,g,o6,_,m,_=>⟨A,o6,by rw[show tot []=0 from rfl,Int.add_zero];rfl,rfl,m⟩
 | e::es,A,W,g,o6,v,m,w=>by
  have l2:=hP.len2;have x:jd (e7 (p.nm,o.nm,e)) (.int 0)=some (.str p.nm):=rfl;have y:jd (e7 (p.nm,o.nm,e)) (.int 3)=some (.str e.kd):=rfl;have C:jd (e7 (p.nm,o.nm,e)) (.int 6)=some (.int e.gt):=rfl;have z:jd (jq false p) (.int 0)=some (.str p.nm):=rfl;have a:=KC true true e.kd G3;rw[show G3.map D.str=[.str [101,97,116],.str [103,117,97,114,100],.str [116,119,105,99,101]] from rfl] at a;have c:=KC true true e.kd [jS,yy];rw[show [jS,yy].map D.str=[.str [108,101,110,100],.str [98,97,99,107]] from rfl] at c;have s:tot (e::es)=tot [e]+tot es:=K0 [e] es;rw[Ks] at s;by_cases b:qE e=true
  ·have E:=v.1 b;have bk:e.kd∈[jS,yy]:=by simpa [qE] using b
   have f:¬ e.kd∈G3:=by
    have:e.kd=jS\/e.kd=yy:=by simpa [qE] using b
    rcases this with q | q<;>rw[q]<;>decide
   rw[X1 f] at a;rw[X0 bk] at c;rw[if_neg f] at s;have mv:=jfo hP h u (by have:=m.len (by rw[L1];lia);lia) w b E;have d:=v.2;rw[<- jgs] at d;obtain⟨A',o6',l,i,j⟩:=xh t u (es:=es) (A:=lwA p.nm A e) (W:=wtF (atF Ps) W e.nm e.gt) (g:=g+e.gt) (o6:=some<|e7 (p.nm,o.nm,e)) d (m.lw t E.n) (by rw[jc8];exact w);refine⟨A',o6',?_,by rw[i,jgs];rfl,j⟩;have k:wtL (atF Ps) W (e::es)=wtL (atF Ps) (wtF (atF Ps) W e.nm e.gt) es:=by show wtL _ (if qE e then _ else _) es=_;rw[if_pos b]
   rw[k,s,<- Int.add_assoc,L5,L5,List.cons_append,lpE rfl ?_,l];have G:=yC hP;have H:=h.frz;have I:=h.fz false;have J:=jei h;have F:=jmN h;have K:=yS _ F;generalize L:jq false p=EP,Ps.map (jq false)=PP at *;have B:frz (e7 (p.nm,o.nm,e))=true:=rfl;generalize e7 (p.nm,o.nm,e)=EX,ruK p.orders=RK,ruV p.orders=RV at *;have M:fz (.dK true RK RV)=.dK false RK RV:=by rw[fz,K]
   have N:frz (.dK false RK RV)=true:=F;simp[jj,x,z,y,C,a,c,G,H,I,B,J,M,N,mv,jmZ,Vn,jb]
  ·have d:=v.2;have r:¬ e.kd=jS/\¬ e.kd=yy:=by simpa [qE] using b
   have bk:¬ e.kd∈[jS,yy]:=by simpa using r
   rw[show lbF p.nm (fnL A) e=fnL A by unfold lbF;rw[if_neg r.1,if_neg r.2]] at d;have O:jdI p.nm (fnL A) (e::es)=jdI p.nm (fnL A) es:=by show jdI p.nm (lbF p.nm (fnL A) e) es=_;unfold lbF;rw[if_neg r.1,if_neg r.2]
   have k:wtL (atF Ps) W (e::es)=wtL (atF Ps) W es:=by show wtL _ (if qE e then _ else _) es=_;rw[if_neg b]
   rw[X1 bk] at c;obtain⟨A',o6',l,i,j⟩:=xh t u (es:=es) (A:=A) (W:=W) (g:=g+if e.kd∈G3 then 0 else e.gt) (o6:=some<|e7 (p.nm,o.nm,e)) d m w;refine⟨A',o6',?_,by rw[O];exact i,j⟩;rw[k,s,<- Int.add_assoc,L5,L5,List.cons_append];generalize jq false p=EP,Ps.map (jq false)=PP at *;by_cases f:e.kd∈G3
   ·rw[X0 f] at a;rw[if_pos f,Int.add_zero] at l;rw[if_pos f,Int.add_zero,lpE rfl ?_,l];generalize e7 (p.nm,o.nm,e)=EX at *;simp[jj,x,z,y,a,jb]
   ·rw[X1 f] at a;rw[if_neg f] at l;rw[if_neg f,lpC rfl ?_,l];generalize e7 (p.nm,o.nm,e)=EX at *;simp[jj,x,z,y,C,a,c,jb]
end
theorem VY{k v}:∀{l:LN},yD l k=some v->(k,v)∈l
 | r::l,h=>by
  rw[yD] at h;split at h
  ·next e=>cases h;rw[<- e];exact L7
  ·exact L6 _<|VY h
def jlU{N l a}(h:LnOk N l)(c:Can a l):fnL a=fnL l:=funext λk=>by
 have nd:(a.map (·.1)).Nodup:=(c.1.map (·.1)).nodup_iff.mpr (h.nd.sublist<|List.Sublist.map _ List.filter_sublist);have b:∀ v,(k,v)∈a↔(k,v)∈l/\0<v:=λv=>by rw[c.1.mem_iff,List.mem_filter];simp
 unfold fnL;cases e:yD a k with
 | some v=>
  have:=(b v).mp (VY e);rw[(Yp h.nd).mp this.1]
 | none=>
  cases e2:yD l k with
  | none=>rfl
  | some v=>
   have m:=VY e2;have p:=(h.mem _ m).2.2;by_cases z:0<v
   ·rw[(Yp nd).mp ((b v).mpr ⟨m,z⟩)] at e;cases e
   ·show 0=v;dsimp only at p;lia
def jfh{l a}(c:Can a l):Can a a:=⟨by
 rw[List.filter_eq_self.mpr λr b=>(List.mem_filter.mp<|c.1.mem_iff.mp b).2],c.2⟩
def jcP{Ps}(hP:DealOk Ps){O p}(h:PoolOk O p)(y:p.nm∈j8 Ps){A ln d:LN}{c mv q}(s:SgOk p (j8 Ps) ln c mv d q)(B:AOk (j8 Ps) A)(r:fnL A=fnL ln){W:List Int}(C:W.length=Ps.length){pre post:List LG}(h1:∀ x∈pre,x.1≠p.nm)(h2:∀ x∈post,x.1≠p.nm):
  ∃ A',An3 (vP [.lst false<|Ps.map<|jq false,jq false p,.lst false<|(pre++(q++post)).map e7,dLn true A,.lst true<|W.map D.int]=some (.int c,dLn true A',.lst true<|(wtM (atF Ps) W mv).map D.int)) (AOk (j8 Ps) A') (fnL A'=fnL d):=by
 obtain⟨a,EN,k,o,E,rfl,js⟩:=s.s;have lb:=js.lb;rw[<- r] at lb;obtain⟨F,t⟩:=Yo (tl:=((a.map λe=>((p.nm,[],e):LG))++(EN.map λe=>((p.nm,o.nm,e):LG))++post).map e7) hP h (LG':=.lst false<|(pre++((a.map λe=>((p.nm,[],e):LG))++(EN.map λe=>((p.nm,o.nm,e):LG))++post)).map e7) (l:=pre) (A:=A) (W:=W) (g:=0) (o6:=none) λx f=>.inl<|h1 x f;obtain⟨G,i⟩:=Yo (tl:=((EN.map λe=>((p.nm,o.nm,e):LG))++post).map e7) hP h (LG':=.lst false<|(pre++((a.map λe=>((p.nm,[],e):LG))++(EN.map λe=>((p.nm,o.nm,e):LG))++post)).map e7) (l:=a.map λe=>((p.nm,[],e):LG)) (A:=A) (W:=W) (g:=0) (o6:=F) λx f=>.inr (by obtain⟨e,H,rfl⟩:=M5.mp f;show e.kd∈G3;rw[k e H];decide);obtain⟨A',I,b,m,n⟩:=xh (tl:=post.map e7) hP h (LG':=.lst false<|(pre++((a.map λe=>((p.nm,[],e):LG))++(EN.map λe=>((p.nm,o.nm,e):LG))++post)).map e7) y E (W:=W) (g:=0) (o6:=G) lb B C;obtain⟨P,j⟩:=Yo (tl:=[]) hP h (LG':=.lst false<|(pre++((a.map λe=>((p.nm,[],e):LG))++(EN.map λe=>((p.nm,o.nm,e):LG))++post)).map e7) (l:=post) (A:=A') (W:=wtL (atF Ps) W EN) (g:=0+tot EN) (o6:=I) λx f=>.inl<|h2 x f;have J:(0:Int)+tot EN=c:=js.cs;rw[J] at b j;rw[jkY js.lb,<- js.me] at b j;rw[M9] at j;have u:(pre++((a.map λe=>((p.nm,[],e):LG))++(EN.map λe=>((p.nm,o.nm,e):LG))++post)).map e7=pre.map e7++((a.map λe=>((p.nm,[],e):LG))++(EN.map λe=>((p.nm,o.nm,e):LG))++post).map e7:=N4;have v:((a.map λe=>((p.nm,[],e):LG))++(EN.map λe=>((p.nm,o.nm,e):LG))++post).map e7=(a.map λe=>((p.nm,[],e):LG)).map e7++((EN.map λe=>((p.nm,o.nm,e):LG))++post).map e7:=by rw[List.append_assoc,N4]
 have w:((EN.map λe=>((p.nm,o.nm,e):LG))++post).map e7=(EN.map λe=>((p.nm,o.nm,e):LG)).map e7++post.map e7:=N4;have e:=(congrArg (λz=>jG (jc [3,4] 6) jj z _) u).trans (t.trans<|(congrArg (λz=>jG (jc [3,4] 6) jj z _) v).trans (i.trans<|(congrArg (λz=>jG (jc [3,4] 6) jj z _) w).trans (b.trans j)));clear t i b j u v w;refine⟨A',?_,n,?_⟩
 ·generalize pre++((a.map λe=>((p.nm,[],e):LG))++(EN.map λe=>((p.nm,o.nm,e):LG))++post)=L at e ⊢;have K:=vb L;have M:=VT L;generalize L.map e7=LL,Ps.map (jq false)=PP,jq false p=EP at *;have N:jG (jc [3,4] 6) jj LL [‹PP›,some EP,‹LL›,some<|dLn true A,↑(W.map D.int),some<|.int 0,none]=some (.nx _):=e;rw[vP,jgU];simp[J8,K,M,N]
 ·rw[m,r,<- wZ js.lb,<- js.me,jlU s.l s.c]
inductive Own (Q:List PoolS) (x:LG):Prop
 | mk:x.1∈Q.map (·.nm)->Own Q x
def jl8{p N f c mv b d}(s:SgOk p N f c mv b d):∀ x∈d,x.1=p.nm:=λx a=>by
 obtain⟨g,EN,_,o,_,rfl,_⟩:=s.s;rcases N1.mp a with a | a<;>(obtain⟨e,_,rfl⟩:=M5.mp a;rfl)
theorem jlK{N f a}:∀{Q s ln ws ln' ws' sg},DR N f a s Q ln ws ln' ws' sg->∀ x∈sg,x.1∈Q.map (·.nm)
 | _,_,_,_,_,_,_,.nil,x,h=>by cases h
 | _,_,_,_,_,_,_,.cons t l r,x,h=>by
  obtain⟨mv,b,_⟩:=t.t;rw[L5,M4];exact(N1.mp h).imp (jl8 b x) (jlK r x)
theorem jdy(f):∀(ms:List MV) W,(wtM f W ms).length=W.length
 | [],_=>rfl
 | m::ms,W=>by show(wtM f (wtF f W m.2.1 m.2.2) ms).length=_;rw[jdy f ms,jc8]
theorem VH{Ps}(hP:DealOk Ps){d:DY}(hd:d.1.length=Ps.length){a0 a2 a3 a7 a8 a13}:∀{Q s ln ws ln2 ws2 sg}{pre:List LG}{A:LN}{o10 o11 o12},DR (j8 Ps) (atF Ps) d.1 s Q ln ws ln2 ws2 sg->(∀ p∈Q,p.nm∈j8 Ps/\∃ X,PoolOk X p)->(Q.map (·.nm)).Nodup->(∀ x∈pre,¬ x.1∈Q.map (·.nm))->AOk (j8 Ps) A->fnL A=fnL ln->ws.length=Ps.length->s+Q.length=Ps.length->Can ln ln ->
  Ex4 λA' o10' o11' o12'=>An5 (jG (gT 2<|gC (jc [] 10)<|gC (jc [] 11) gN) jb0 (jL s<|Q.map<|jq false) [a0,‹Ps.map (jq false)›,a2,a3,some<|dLn true A,↑(ws.map D.int),some<|jW d,a7,a8,‹(pre++sg).map e7›,o10,o11,o12,a13] =
   some (.nx [a0,‹Ps.map (jq false)›,a2,a3,some<|dLn true A',↑(ws2.map D.int),some<|jW d,a7,a8,‹(pre++sg).map e7›,o10',o11',o12',a13])) (AOk (j8 Ps) A') (fnL A'=fnL ln2) (ws2.length=Ps.length)<|Can ln2 ln2
 | _,_,_,_,_,_,_,pre,A,o10,o11,o12,.nil,_,_,_,hA,hf,hw,_,hc=>⟨A,o10,o11,o12,rfl,hA,hf,hw,hc⟩
 | _,_,_,_,_,_,_,pre,A,o10,o11,o12,@DR.cons _ _ _ s p Q ln ws ln1 ws1 sg ln2 ws2 sg2 t l r,hQ,nd,hpre,hA,hf,hw,hs,hc=>by
  rw[M1] at hs;rw[L5,List.nodup_cons] at nd;obtain⟨J,X,I⟩:=hQ p (by simp);obtain⟨mv,a,f⟩:=t.t;have g:s<ws.length:=by lia
  have n:s<d.1.length:=by lia
  obtain⟨R,m,o,w⟩:=jcP hP I J a hA hf (W:=ws.set s 0) (by rw[List.length_set];exact hw) (pre:=pre) (post:=sg2) (λx b z=>hpre x b<|by rw[z];simp)<|λx b z=>nd.1<|z▸jlK r x b;rw[<- f] at m;obtain⟨A',y,B,C,e,E,F,G,H⟩:=VH hP hd (a0:=a0) (a2:=a2) (a3:=a3) (a7:=a7) (a8:=a8) (a13:=a13) (pre:=pre++sg) (o10:=some<|.int s) (o11:=some<|jq false p) (o12:=some<|.int<|d.1.getD s 0+ws.getD s 0) r (λq K=>hQ q<|by simp[K]) nd.2 (λx b z=>by
   rcases N1.mp b with b | b
   ·exact hpre x b (by simp[z])
   ·exact nd.1<|jl8 a x b▸z) o w (by rw[f,jdy,List.length_set];exact hw) ∅ (jfh a.c)
  rw[List.append_assoc] at e;refine⟨A',y,B,C,?_,E,F,G,H⟩;rw[L5,jL,lpE rfl ?_,e];have L:jd (jW d) (.int 0)=‹d.1.map D.int›:=rfl;have h:jd (.lst false<|d.1.map D.int) (.int s)=some (.int<|d.1.getD s 0):=by
   rw[jaz ∅ (by rw[L1];lia),N7,List.getElem?_map,List.getD_eq_getElem?_getD,X5 n];rfl
  have i:jd (.lst true<|ws.map D.int) (.int s)=some (.int<|ws.getD s 0):=by
   rw[jaz ∅ (by rw[L1];lia),N7,List.getElem?_map,List.getD_eq_getElem?_getD,X5 g];rfl
  have j:ixN (ws.map D.int).length s=some s:=QM (by rw[L1];exact g);have k:(ws.map D.int).set s (.int 0)=(ws.set s 0).map D.int:=by rw[List.map_set]
  have M:=vb<|pre++(sg++sg2);have N:=yC hP;have O:=vA hP false;have P:=I.frz;generalize(pre++(sg++sg2)).map e7=LL at *;generalize Ps.map (jq false)=PP,jq false p=EP,jW d=DD at *;clear e a t;generalize d.1.getD s 0=u at h m ⊢;generalize ws.getD s 0=v at i m ⊢;apply sq (by simp[L,h,i];rfl);apply sq (by simp[j,-List.length_map];rw[k]);simp[O,N,P,M,m,Vn,dOp,-List.map_set]
def jmQ{Ps}(hP:DealOk Ps){l:LN}(h:∀ r∈l,r.1.1∈j8 Ps/\r.1.2∈j8 Ps)(o):okE 20 (.lst o<|l.map eR)=true:=vE λd hd=>by
 have a:∀ w∈j8 Ps,∀ c∈w,c<1114112:=λw e=>by obtain⟨p,f,rfl⟩:=M5.mp e;obtain⟨X,g,_⟩:=hP.ok p f;exact g.nm.2
 obtain⟨q,b,rfl⟩:=M5.mp hd;show ve 18 [.str q.1.1,.str q.1.2,.int q.2]=true;simp[ve,yg<|a _ (h q b).1,yg<|a _ (h q b).2]
def jlS{Ps}(hP:DealOk Ps){A ln:LN}(a:AOk (j8 Ps) A)(d:(ln.map (·.1)).Nodup)(f:fnL A=fnL ln)(g:Can ln ln):qQ [.lst true<|(A.filter λr=>decide<|0<r.2).map eR]=↑(ln.map eR):=by
 have l2:=hP.len2;have k:=a.len (by rw[L1];lia);have h:LnOk (j8 Ps) (A.filter λr=>decide<|0<r.2):=⟨a.nd.sublist<|List.Sublist.map _ List.filter_sublist,λr i=>by
  obtain⟨b,c⟩:=List.mem_filter.mp i;exact⟨(a.mem r b).1,(a.mem r b).2,Int.le_of_lt<|X2 c⟩⟩
 obtain⟨j,e,_,b,c⟩:=jdm h;have:j=ln:=jlr a.nd d f ⟨b,c⟩ g;subst this;rw[Qi,V9,L4,e,X0<|by rw[L1];have:=List.length_filter_le (λr:EN×Int=>decide<|0<r.2) A;lia];rfl
def jeF{Ps}(hP:DealOk Ps){d:DY}(hd:d.1.length=Ps.length){ln ws}{r:RD}(u:DR (j8 Ps) (atF Ps) d.1 0 Ps ln ws r.ln r.ws r.log)(j:RdOk Ps r){A:LN}(v:AOk (j8 Ps) A)(w:fnL A=fnL ln)(x:ws.length=Ps.length)(y:Can ln ln){a0 a2 a3 o8 o9 o10 o11 o12 o13}:
  Ex4 λA' o10' o11' o12'=>An5 (Kc [a0,‹Ps.map (jq false)›,a2,a3,some<|dLn true A,↑(ws.map D.int),some<|jW d,some<|jT r,o8,o9,o10,o11,o12,o13] =
   some (.nx [a0,‹Ps.map (jq false)›,a2,a3,some<|dLn true A',↑(r.ws.map D.int),some<|jW d,some<|jT r,some<|Jh r.bs r.ln r.ws,‹r.log.map e7›,o10',o11',o12',↑(r.ln.map eR)])) (AOk (j8 Ps) A') (fnL A'=fnL r.ln) (r.ws.length=Ps.length) (Can r.ln r.ln):=by
 obtain⟨A',c,f,h,e,i,k,o,l⟩:=VH hP hd (a0:=a0) (a2:=a2) (a3:=a3) (a7:=some<|jT r) (a8:=some<|Jh r.bs r.ln r.ws) (a13:=o13) (pre:=[]) (A:=A) (o10:=o10) (o11:=o11) (o12:=o12) u (λp t=>⟨M5.mpr ⟨p,t,rfl⟩,by obtain⟨X,z,_⟩:=hP.ok p t;exact⟨X,z⟩⟩) hP.nmn (by simp) v w x ∅ y;rw[X4] at e;refine⟨A',c,f,h,?_,i,k,o,l⟩;have l2:=hP.len2;have P:=i.len (by rw[L1];lia);have B:=JX A';have C:=jlS hP i j.n.nd k l;have E:lim (A'.map kL).length=true:=kN ∅;have F:QH (.lst false<|r.ln.map eR) (.lst true<|r.ln.map eR)=some (.bl false):=jiN (jmQ hP (λq m=>⟨(j.n.mem q m).1,(j.n.mem q m).2.1⟩) _) (jmQ hP (λq m=>⟨(j.n.mem q m).1,(j.n.mem q m).2.1⟩) _) (by rw[fz,fz]);have G:QH (.lst false<|r.ws.map D.int) (.lst true<|r.ws.map D.int)=some (.bl false):=by rw[jgK];simp
 have H:jd (Jh r.bs r.ln r.ws) (.int 1)=‹r.ln.map eR›:=rfl;have I:jd (Jh r.bs r.ln r.ws) (.int 2)=‹r.ws.map D.int›:=rfl;have J:frz (jT r)=true:=by simp[jT,JZ,vb]
 have K:=yC hP;have L:=vA hP false;have M:jdv (dP<|pF<|pV 7) (gT 2<|gC (jc [] 8)<|gC (jc [] 9) gN) [a0,‹Ps.map (jq false)›,a2,a3,some<|dLn true A,↑(ws.map D.int),some<|jW d,some<|jT r,o8,o9,o10,o11,o12,o13]=some (.nx [a0,‹Ps.map (jq false)›,a2,a3,some<|dLn true A,↑(ws.map D.int),some<|jW d,some<|jT r,some<|Jh r.bs r.ln r.ws,‹r.log.map e7›,o10,o11,o12,o13]):=by
  have g:∀ ρ:Rh,gT 2 (gC (jc [] 8)<|gC (jc [] 9) gN) (jT r) ρ=gT 2 (gC (jc [] 8)<|gC (jc [] 9) gN) (.tup [Jh r.bs r.ln r.ws,.lst false<|r.log.map e7]) ρ:=λ_=>rfl;generalize Ps.map (jq false)=PP,r.log.map e7=LL,Jh r.bs r.ln r.ws=ST,jT r=RR at *;simp[J,g]
 refine sq M ?_;generalize Ps.map (jq false)=PP,r.log.map e7=LL,Jh r.bs r.ln r.ws=ST,jT r=RR,jW d=DD at *;apply sq (by simp[K,L,e];rfl);have N:jB (dCB qQ<|yM (jfc 4 (λ_ _ n=>some<|decide<|0<n)<|λa b n=>.tup [kaD a,kaD b,.int n]) jc2) (jc [] 13) [a0,‹PP›,a2,a3,some<|dLn true A',↑(r.ws.map D.int),some DD,some RR,some ST,‹LL›,c,f,h,o13]=some (.nx [a0,‹PP›,a2,a3,some<|dLn true A',↑(r.ws.map D.int),some DD,some RR,some ST,‹LL›,c,f,h,↑(r.ln.map eR)]):=by
  have O:jfV (dLn true A')=some (A'.map kL,A'.map vL):=rfl;have s:Vt (λ_ _ n=>some<|decide<|0<n) (λa b n=>.tup [kaD a,kaD b,.int n]) (A'.map kL) (A'.map vL)=some ((A'.filter λr=>decide<|0<r.2).map eR):=B;generalize dLn true A'=DA,A'.map kL=ks,A'.map vL=vs at *;generalize(A'.filter λr=>decide<|0<r.2).map eR=RW at *;simp[dCB,O,E,s,C,-Qi]
 refine sq N ?_;generalize r.ln.map eR=LN at *;simp[H,I,F,G]
theorem K4{Ps}(hP:DealOk Ps){a0 a2 a3}:∀{ds rs ln ws}{A:LN}{o6 o7 o8 o9 o10 o11 o12 o13},RunR Ps ln ws ds rs->(∀ d∈ds,FlowOk Ps.length d.1 d.2)->AOk (j8 Ps) A->fnL A=fnL ln->ws.length=Ps.length->Can ln ln ->
  ∃ ρ',jG (gT 2<|gC (jc [] 6)<|gC (jc [] 7) gN) Kc (jgg (ds.map jW)<|rs.map jT) [a0,‹Ps.map (jq false)›,a2,a3,some<|dLn true A,↑(ws.map D.int),o6,o7,o8,o9,o10,o11,o12,o13]=some (.nx<|a0::‹Ps.map (jq false)›::a2::ρ')
 | _,_,ln,ws,A,o6,o7,o8,o9,o10,o11,o12,o13,.nil,_,_,_,_,_=>⟨_,rfl⟩
 | _,_,ln,ws,A,o6,o7,o8,o9,o10,o11,o12,o13,@RunR.cons _ _ _ d ds r rs h o w t,hd,hA,hf,hw,hc=>by
  obtain⟨m,a,b,c,k,f,g,i,j⟩:=jeF hP (hd d<|by simp).il h o hA hf hw hc (a0:=a0) (a2:=a2) (a3:=a3) (o8:=o8) (o9:=o9) (o10:=o10) (o11:=o11) (o12:=o12) (o13:=o13);obtain⟨ρ',e⟩:=K4 hP (a0:=a0) (a2:=a2) (a3:=a3) (o6:=some<|jW d) (o7:=some<|jT r) (o8:=some<|Jh r.bs r.ln r.ws) (o9:=‹r.log.map e7›) (o10:=a) (o11:=b) (o12:=c) (o13:=↑(r.ln.map eR)) t (λq l=>hd q<|by simp[l]) f g i j;refine⟨ρ',?_⟩;rw[L5,L5,jgg,lpE rfl k,e]
def jaK{n l}(a:l.length<=3000)(b:frzs l=true)(c:∀ x∈l,plt n x):plt (n+1) (.lst false l):=.inr<|.inr ⟨l,.inr rfl,a,b,c⟩
def uU{n l}(a:l.length<=3000)(b:frzs l=true)(c:∀ x∈l,plt n x):plt (n+1) (.tup l):=.inr<|.inr ⟨l,.inl rfl,a,b,c⟩
def zN{n i}:plt (n+1) (.int i):=.inl ⟨i,rfl⟩
def zJ{n w}:plt (n+1) (.str w):=.inr<|.inl ⟨w,rfl⟩
def wj{n}{S:List W2}(h:S.length<=10):plt (n+3) (.lst false<|S.map e2):=jaK (by rw[L1];lia) (yh S) λx b=>by
 obtain⟨q,_,rfl⟩:=M5.mp b;exact uU (by simp) rfl λy a=>by
  rcases M4.mp a with rfl | a
  ·exact zJ
  ·rw[M7.mp a];exact zN
theorem jf5{n B}:∀{Q bs},Bks B Q bs->(∀ p∈Q,∃ X,PoolOk X p)->∀ b∈bs,plt (n+4)<|qN false b
 | _,_,.cons h t,c,b,a=>by
  rcases M4.mp a with rfl | a
  ·obtain⟨X,d⟩:=c _ L7;have j:=d.told2;have k:=d.marks2;have f:=congrArg List.length h.s1;have lw:=congrArg List.length h.w1;have g:=congrArg List.length h.r1;have ll:=congrArg List.length h.l1;rw[L1,L1] at f lw g ll;refine uU (by simp) (Kl _) λy e=>?_;simp only[M4,List.not_mem_nil,or_false] at e;rcases e with rfl | rfl | rfl | rfl | rfl
   ·exact wj ∅
   ·exact wj ∅
   ·exact wj ∅
   ·exact wj ∅
   ·exact zN
  ·exact jf5 t (λq i=>c q<|L6 _ i) b a
theorem jdi{B}:∀{Q bs},Bks B Q bs->bs.length=Q.length
 | _,_,.nil=>rfl
 | _,_,.cons _ t=>by rw[M1,M1,jdi t]
def jjK{Ps}(hP:DealOk Ps){r:RD}(h:RdOk Ps r)(g:r.ws.length=Ps.length):plt 7 (jT r):=by
 have l2:=hP.len2;obtain⟨B,e⟩:=h.b;have bl:=jdi e;have i:=h.n.len (by rw[L1];lia);have ll:=h.l;refine uU (by simp) (by simp[JZ,vb]) λy a=>?_;simp only[M4,List.not_mem_nil,or_false] at a;rcases a with rfl | rfl
 ·refine uU (by simp) (by simp[Y1,yL]) λy a=>?_;simp only[M4,List.not_mem_nil,or_false] at a;rcases a with rfl | rfl | rfl
  ·exact jaK (by rw[L1];lia) (Y1 _) λx c=>by
    obtain⟨b,d,rfl⟩:=M5.mp c;exact jf5 e (λp f=>by obtain⟨X,c,_⟩:=hP.ok p f;exact⟨X,c⟩) b d
  ·exact jaK (by rw[L1];lia) (yL _) λx c=>by
    obtain⟨q,_,rfl⟩:=M5.mp c;exact uU (by simp) rfl λy a=>by
     simp only[M4,List.not_mem_nil,or_false] at a;rcases a with rfl | rfl | rfl
     ·exact zJ
     ·exact zJ
     ·exact zN
  ·exact jaK (by rw[L1];lia) (qx _) λx c=>by
    obtain⟨q,_,rfl⟩:=M5.mp c;exact zN
 ·exact jaK (by rw[L1];lia) (vb _) λx c=>by
   obtain⟨q,_,rfl⟩:=M5.mp c;exact uU (by simp) rfl λy a=>by
    simp only[M4,List.not_mem_nil,or_false] at a;rcases a with rfl | rfl | rfl | rfl | rfl | rfl | rfl
    ·exact zJ
    ·exact zJ
    ·exact zN
    ·exact zJ
    ·exact zJ
    ·exact zN
    ·exact zN
theorem jc5{Ps}(hP:DealOk Ps):∀{ds rs ln ws},RunR Ps ln ws ds rs->∀ r∈rs,plt 7<|jT r
 | _,_,_,_,.cons h o w t,r,a=>by
  rcases M4.mp a with rfl | a
  ·exact jjK hP o w
  ·exact jc5 hP t r a
def jfs(ns:List Int)(J:ns.length<=63)(W:∀ x∈ns,Builtin.Int.intBits x<=2 ^ 20):jag [.lst false<|ns.map D.int]=some (.bl true):=by
 obtain⟨b,K,h⟩:=jgV ns (most:=3) (by decide) (by decide);obtain⟨c,s,t,hd⟩:=ji6 ns J (n:=b.length) h.len2;obtain⟨e,u,v,C⟩:=jlQ h hd t;have l2:=h.len2;obtain⟨Y,L⟩:=K4 h (a0:=‹ns.map D.int›) (a2:=‹c.map jW›) (a3:=‹e.map jT›) (A:=[]) (o6:=none) (o7:=none) (o8:=none) (o9:=none) (o10:=none) (o11:=none) (o12:=none) (o13:=none) C hd ⟨by simp,by simp⟩ rfl (by simp[zs]) ⟨List.Perm.refl _,.nil⟩;have w:jG (gT 2<|gC (jc [] 6)<|gC (jc [] 7) gN) Kc (jgg (c.map jW)<|e.map jT) [‹ns.map D.int›,‹b.map (jq false)›,‹c.map jW›,‹e.map jT›,some<|.dT true [] [],↑((zs b).map D.int),none,none,none,none,none,none,none,none]=_:=L;have pl:vD [.lst false<|e.map jT]=some (.bl true):=wQ (n:=8) (jaK (by rw[L1];lia) (jaV e) λx z=>by obtain⟨r,B,rfl⟩:=M5.mp z;exact jc5 h C r B);have E:=yC h;have F:=vA h true;have G:=vA h false;have M:=jbj c;have H:=jgc c;have N:=jaV e;have I:=jjD e;have O:=Qw ns;have k:qv [.lst true<|b.map<|jq true]=some (.int (b.length:Int)):=by simp
 have f:qv [.lst false<|b.map<|jq false]=some (.int (b.length:Int)):=by simp
 have g:qv [.lst false<|e.map jT]=some (.int (c.length:Int)):=by simp[v]
 have j:qv [.lst false<|c.map jW]=some (.int (c.length:Int)):=by simp
 have m:∀ o,okE 20 (.lst o<|b.map<|jq o)=true:=λo=>vE λd hd=>by
  obtain⟨p,P,rfl⟩:=M5.mp hd;obtain⟨X,z,_⟩:=h.ok p P;exact z.ok o 13
 have Q:vU (.lst false<|b.map<|jq false) (.lst true<|b.map<|jq true)=some (.bl true):=jbm (m _) (m _) (by rw[fz,fz,F,G]);have q:∀ o,okE 20 (.lst o<|c.map jW)=true:=λo=>vE λd hd=>by
  obtain⟨y,_,rfl⟩:=M5.mp hd;show ve 18 [.lst false<|y.1.map D.int,.lst false<|y.2.map D.int]=true;have a:∀ l:List Int,okE 18 (.lst false<|l.map D.int)=true:=λl=>vE λd hd=>by obtain⟨i,_,rfl⟩:=M5.mp hd;rfl
  simp[ve,a]
 have R:vU (.lst false<|c.map jW) (.lst true<|c.map jW)=some (.bl true):=jbm (q _) (q _) (by rw[fz,fz]);have cz:jV (jc [] 0) qT (pI 0) (b.map<|jq false) [none]=some ((zs b).map D.int):=by
  unfold zs;rw[U0];exact jw rfl (λρ=>∃ o,ρ=[o]) (by simp) ⟨none,rfl⟩
 have S:lim (b.map<|jq false).length=true:=kN ∅;have T:itB (.lst false<|b.map<|jq false)=some (b.map<|jq false):=by show(bif frzs (b.map<|jq false) then _ else _)=_;rw[E];rfl
 have U:jgN 2 [.lst false<|c.map jW,.lst false<|e.map jT]=some (jgg (c.map jW)<|e.map jT):=by rw[jpC rfl rfl<|by simp;lia,H,I]
 have V:Jt "list" "list" = true:=rfl;generalize b.map (jq true)=PT,b.map (jq false)=PP,c.map jW=DD,e.map jT=RR at *;simp[jag,jK,jkO,K,s,u,k,f,g,j,E,F,G,M,H,N,I,O,V,pl,T,S,jx,cz,U,w,Q,R,jb]
end K33
set_option maxHeartbeats 0
namespace K33
open PySem L2 QD
def all_mk{l:PySem.W.OpenLaw}{w:World}{K:W4}{mg:W6}{fa a:Addr}(hfa:mg "law" = some (.ref fa))(_:PySem.W.nsIn K mainGlobals "Fall" = some (some<|.ref a))(T:Txt l.prog w K mg λ_=>a):∃ fd:FuncData,(∀(s:Shared) (v:Value),BindsTo s fd ⟨[v],[]⟩ [("_law_script",v)])/\∀ base:Heap,K.In base->base.Ns mainGlobals mg->FnOk l.prog w K mg base CX0 10 fa fd ["_law_script"] (λvs H Q E=>∀ C:Addr,spP ⟨K,λ_=>C⟩ jag 1 vs H Q E):=by
 obtain⟨f',fd',F',G'⟩:=(jjC T).2.2.2.2.2.2.2.2;cases hfa.symm.trans F'.mgf;obtain⟨⟨oc,od,kV,doc,pm,an,cdv,ct,osl,rfl,_,_⟩,_⟩:=F'.fn;exact⟨_,λs v=>.of_eq rfl,λbase _ _=>(G' base).imp λvs H Q E h=>h a⟩
def walk{l:PySem.W.OpenLaw}{q:Program}{loose:List Str}{XP:(Str->Option Value)->Heap->Prop}{YP:World->Heap->Prop}{d:DefRec}{K:Params->PySem.W.Frag}(hn:l.most=some 63)(hdf:d.params.defaults=[])
  (hY:∀(w:World) (h:Heap),YP w h->(K w.params).In h)
  (F:∀(w:World) (mg:W6) (fa:Addr) (h:Heap),(K w.params).In h->h.Ns mainGlobals mg->mg d.name=some (.ref fa) ->
   ∃ fd:FuncData,(∀(s:Shared) (u:Value),BindsTo s fd ⟨[u],[]⟩ [("_law_script",u)])/\∀ base:Heap,(K w.params).In base->base.Ns mainGlobals mg->FnOk l.prog w (K w.params) mg base CX0 10 fa fd ["_law_script"] (λvs H Q E=>∀ C:Addr,spP ⟨K w.params,λ_=>C⟩ jag 1 vs H Q E)):
  PySem.W.WalkO q loose XP YP l.row.toRowW d [] (λf vs=>PySem.call f vs):=
 L2.walk_ofB (n:=63) (k:=10) (x:="_law_script") (CX:=λ_=>CX0) (sp:=λw=>(λvs H Q E=>∀ C:Addr,spP ⟨K w.params,λ_=>C⟩ jag 1 vs H Q E)) hn (by decide) hdf ⟨rfl,by decide,by decide⟩ hY F (λ_ H a ns hl hb _ hS=>λC=>jkj (jfs ns hl hb) hS) λ_ _ _ _ _ z=>z
end K33
namespace PySem.W.Fast
def tw3452756351154828375:=0
def tw8332633187365191778:=0
def tw18109556919395076033:=0
def tw18212449183315227602:=0
def tw3601833793054451318:=0
def tw4742752819151209107:=0
def tw594558213320854179:=0
def tw8662430923969593449:=0
def tw16924062427757688115:=0
def tw16865144017985997910:=0
def tw14334057176244230166:=0
def tw3158363151478445111:=0
def tw7730755441029189491:=0
def tw9839822308001268259:=0
def tw13535190706843829532:=0
def tw12361616407364704220:=0
def tw11443214111706864213:=0
def tw5404623636072386379:=0
def tw14241813083147784606:=0
def tw2210018978689010874:=0
def tw12323069638460895473:=0
def tw162938160811882070:=0
def tw3350559811151164680:=0
def tw15665665590310533903:=0
def tw282129776649117172:=0
def tw4332412065259747721:=0
def tw12951933845318478498:=0
def tw10253683652641719833:=0
def tw3485953379631815824:=0
def tw13949229055978735250:=0
def tw8789696343757767124:=0
def tw15723364126466036511:=0
def tw14153463020406451263:=0
def tw10452784572855812261:=0
def tw9721818951685074528:=0
def tw17871930639164888930:=0
def tw880729105073326689:=0
def tw11496491981600945895:=0
def tw230667684576771755:=0
def tw13965140004661395233:=0
def tw787986003710441786:=0
def tw11064939340644860400:=0
def tw17965275946144017429:=0
def tw17428574310989002204:=0
def tw6101165866395777987:=0
def tw10425934694217970122:=0
def tw13187823038901230997:=0
def tw15519621113133991897:=0
def tw7715941098359125648:=0
def tw421107014976570926:=0
def tw6465264316446151290:=0
def tw9036701107614924783:=0
def tw7732613732652202259:=0
def tw2144007651233860345:=0
def tw16212744919181283883:=0
def tw13001424400673629207:=0
def tw16931150910806635289:=0
def tw5296302171029736174:=0
def tw743124748388332316:=0
def tw15396514999081416477:=0
def tw17774540964168155458:=0
def tw11139316432222533866:=0
def tw10290721871545479066:=0
def tw13118579870393247105:=0
def tw9471235839842010990:=0
def tw2089694352288996059:=0
def tw9608186528025692214:=0
def tw3162043979945427056:=0
def tw16162003399690572531:=0
def tw13183063535795712310:=0
def tw12754505167385134077:=0
def tw3048754400507130220:=0
def tw8542699289146294084:=0
def tw4150318499000256621:=0
def tw8033695806970056600:=0
def tw17574073072247360867:=0
def tw83122151747663260:=0
def tw8076530880731421803:=0
def tw15044839608268093214:=0
def tw94984970524236167:=0
def tw17926689909896730786:=0
def tw10083720501049018991:=0
def tw11058977450361202652:=0
def tw16227134590134612822:=0
def tw8566792811694195976:=0
def tw1403460124637729105:=0
def tw7455140422606349771:=0
def tw16583777225801909044:=0
def tw1312243964990162209:=0
def tw11080452566725144438:=0
def tw7139430515760495810:=0
def tw11038633847950150250:=0
def tw8247970285778558995:=0
def tw949982099012524076:=0
def tw6724391530393305616:=0
def tw17071255417872758660:=0
def tw16071296542583887654:=0
def tw2440827794343113695:=0
def tw15139355007325601959:=0
def tw5984578817381319960:=0
def tw574644469918772695:=0
def tw1323717409297973251:=0
def tw13040413405581718219:=0
def tw1056333585790386472:=0
def tw1004777411414227178:=0
def tw15106967588388185886:=0
def tw7393017166483349993:=0
def tw18029879089129007180:=0
def tw18096413861780358878:=0
def tw4213128481095249589:=0
def tw15627282613783293761:=0
def tw8515237222661002387:=0
end PySem.W.Fast
set_option maxHeartbeats 0
open PySem PySem.W PyProof.Rows
set_option maxRecDepth 100000 in
set_option maxHeartbeats 0 in
theorem PySem.Challenge.cw_tranchefall_k33_loans_and_what_waits_holds : PySem.Challenge.rw_tranchefall_k33_loans_and_what_waits.Holds := by
 w_on;o_law;k_head;(case hw=>w_witness2)
 k_fill
 refine K33.walk (l:=PySem.Challenge.rw_tranchefall_k33_loans_and_what_waits) rfl rfl (λw h Y=>PySem.W.kIn_of Y) ?F
 case F =>
  intro w mg fa h KX G hmg;refine' K33.all_mk hmg ?c ?t
  (case c=>k_is)
  case t =>
   constructor
   all_goals first
    | ((first | refine⟨QD.fsc,QD.hasF KX G (by k_is) (by k_is) (by k_is) (by k_is) ?_⟩ | refine⟨QD.fsc,QD.hasM (by k_is) (by k_is) (by k_is) (by k_is) (by k_is) ?_⟩);intro _ _ _ _ _ _;(repeat refine QD.uS λ_=>?_);exact QD.u0 rfl)
    | exact PySem.W.mg_none_of KX G (by k_is) | exact PySem.W.mg_of KX G (by k_is) | exact⟨by k_is,by k_is,by k_is,by k_is⟩ | k_is | (show PySem.W.findIn _ _ _=_;k_is)
