import PyProof.Rows.All
import Wide.All
import OpenK.AllK
import Wide.FinOn
import Lean
import PyProof.EqAt
import PyProof.EqKinds
import PyProof.TupleCall
import KE.KItemsList
import KE.KRevIter
import PyProof.CollectIter
import PyProof.DictWalks
import PyProof.WalksMore
import PyProof.SumWalkG
import KE.KSortTup
import PyProof.Draws
import KE.KTupSum
import PySem.Challenge.RW_tranchefall_k50_rows_of_claims
set_option Elab.async false
set_option linter.all false
set_option compiler.extract_closed false
set_option genSizeOf false
noncomputable section
local macro_rules|`(↥$x)=>`(($x).heap.objs.size)|`(⇑$x)=>`(by simpa using $x)|`(∅)=>`(by lia)
section
open PySem PySem.Spec PyProof.Rows
abbrev L1:=@List.length_map
abbrev L3:=@wpAny_bind
abbrev L4:=@Option.bind_some
abbrev L5:=@List.map_cons
abbrev L6:=@List.mem_cons_of_mem
abbrev L7:=@List.mem_cons_self
abbrev L8:=@Heap.get?_push_of_some
abbrev L9:=@List.getElem?_eq_some_iff
abbrev M0:=@Bool.and_eq_true
abbrev M3:=@List.length_cons
abbrev M4:=@Bool.false_ne_true
abbrev M5:=@List.mem_cons
abbrev M7:=@List.mem_map
abbrev M8:=@wpAny_pure
abbrev M9:=@List.mem_singleton
abbrev N0:=@Nat.le_refl
abbrev N1:=@List.append_nil
abbrev N2:=@Heap.lt_size
abbrev N3:=@List.mem_append
abbrev N4:=@List.size_toArray
abbrev N5:=@List.length_append
abbrev N6:=@List.map_append
abbrev N7:=@Nat.ne_of_lt
abbrev N8:=@Nat.le_trans
abbrev N9:=@Int.toNat_natCast
abbrev U0:=@Int.emod_lt_of_pos
abbrev U1:=@Int.emod_nonneg
abbrev U2:=@List.map_map
abbrev U3:=@beq_eq_false_iff_ne
abbrev U4:=@List.mem_append_right
abbrev U5:=@Nat.lt_of_lt_of_le
abbrev U6:=@Nat.zero_le
abbrev U7:=@wpAny_field
abbrev U8:=@List.zip_cons_cons
abbrev U9:=@List.count_append
abbrev X0:=@List.nodup_append
abbrev X3:=@List.foldl_cons
abbrev X4:=@decide_eq_true
abbrev X5:=@decide_eq_false
abbrev X6:=@of_decide_eq_true
abbrev X7:=@Option.some.inj
abbrev X8:=@List.nil_append
abbrev X9:=@List.getElem?_eq_getElem
abbrev E1:=@List.length_take
abbrev E2:=@Heap.get?_push_size
abbrev E3:=@Nat.lt_of_le_of_lt
end
abbrev J0:=PySem.Value->PySem.Shared->Prop
abbrev W0:=List (PySem.Addr×PySem.Obj)
abbrev W1:=List (List Nat)
abbrev W4:=PySem.W.Frag
abbrev W5:=List PySem.Addr
abbrev W6:=PySem.Str->Option PySem.Value
namespace L2
inductive Ex2 {α β:Type}(P:α->β->Prop):Prop | mk:∀ x0 x1,P x0 x1->Ex2 P
inductive Ex3 {α β γ:Type}(P:α->β->γ->Prop):Prop | mk:∀ x0 x1 x2,P x0 x1 x2->Ex3 P
inductive Ex4 {α β γ δ:Type}(P:α->β->γ->δ->Prop):Prop | mk:∀ x0 x1 x2 x3,P x0 x1 x2 x3->Ex4 P
inductive Ex5 {α β γ δ ε:Type}(P:α->β->γ->δ->ε->Prop):Prop | mk:∀ x0 x1 x2 x3 x4,P x0 x1 x2 x3 x4->Ex5 P
inductive Ex6 {α β γ δ ε ζ:Type}(P:α->β->γ->δ->ε->ζ->Prop):Prop | mk:∀ x0 x1 x2 x3 x4 x5,P x0 x1 x2 x3 x4 x5->Ex6 P
inductive Ex8 {α β γ δ ε ζ η θ:Type}(P:α->β->γ->δ->ε->ζ->η->θ->Prop):Prop | mk:∀ x0 x1 x2 x3 x4 x5 x6 x7,P x0 x1 x2 x3 x4 x5 x6 x7->Ex8 P
inductive Ex9 {α β γ δ ε ζ η θ ι:Type}(P:α->β->γ->δ->ε->ζ->η->θ->ι->Prop):Prop | mk:∀ x0 x1 x2 x3 x4 x5 x6 x7 x8,P x0 x1 x2 x3 x4 x5 x6 x7 x8->Ex9 P
inductive Ex12 {α β γ δ ε ζ η θ ι κ μ ν:Type}(P:α->β->γ->δ->ε->ζ->η->θ->ι->κ->μ->ν->Prop):Prop | mk:∀ x0 x1 x2 x3 x4 x5 x6 x7 x8 x9 x10 x11,P x0 x1 x2 x3 x4 x5 x6 x7 x8 x9 x10 x11->Ex12 P
inductive An2 (a b:Prop):Prop | mk:a->b->An2 a b
inductive An3 (a b c:Prop):Prop | mk:a->b->c->An3 a b c
inductive An4 (a b c d:Prop):Prop | mk:a->b->c->d->An4 a b c d
inductive An5 (a b c d e:Prop):Prop | mk:a->b->c->d->e->An5 a b c d e
inductive An6 (a b c d e f:Prop):Prop | mk:a->b->c->d->e->f->An6 a b c d e f
inductive An7 (a b c d e f g:Prop):Prop | mk:a->b->c->d->e->f->g->An7 a b c d e f g
end L2
set_option maxRecDepth 100000
namespace L2
open PySem PySem.Spec PyProof.Rows
noncomputable abbrev Key:=Sum Int Str
noncomputable def jbp:Key->Value->Bool
 | .inl k,v=>Value.isInt k v
 | .inr x,v=>Value.isStrOf x v
noncomputable def jp5(w:World):Key->Int
 | .inl k=>hashInt k
 | .inr x=>hashStr w x
def jX:∀{k}{v},jbp k v=true->(∃ i t,k=Sum.inl i/\v=Value.int i t)\/(∃ x t,k=Sum.inr x/\v=Value.str x t)
 | .inl i,v,h=>by
  obtain⟨t,e⟩:=Value.isInt_shape h;exact .inl ⟨i,t,rfl,e⟩
 | .inr x,v,h=>by
  obtain⟨t,e⟩:=Value.isStrOf_shape h;exact .inr ⟨x,t,rfl,e⟩
def jca(i)(t):jbp (.inl i) (.int i t)=true:=by simp[jbp,Value.isInt]
def jce(x)(t):jbp (.inr x) (.str x t)=true:=by simp[jbp,Value.isStrOf]
def jla(a b):decide ((Sum.inl a:Key)=Sum.inl b)=(a==b):=by
 by_cases e:a=b
 ·subst e;simp
 ·have h:¬ (Sum.inl a:Key)=Sum.inl b:=λq=>e<|Sum.inl.inj q;rw[X5 h];exact(U3.mpr e).symm
def jkP(a b):decide ((Sum.inr a:Key)=Sum.inr b)=decide (a=b):=by
 by_cases e:a=b
 ·subst e;simp
 ·have h:¬ (Sum.inr a:Key)=Sum.inr b:=λq=>e<|Sum.inr.inj q;rw[X5 h,X5 e]
def jnA(a)(b):decide ((Sum.inl a:Key)=Sum.inr b)=false:=X5 (λq=>nomatch q)
def jm4(a)(b):decide ((Sum.inr a:Key)=Sum.inl b)=false:=X5 (λq=>nomatch q)
def jW(prog)(w):PySem.KeyKind prog w Key where
 is:=jbp
 hash:=jp5 w
 inj:=λv a b ha hb=>by
  rcases jX ha with⟨i,t,rfl,rfl⟩ | ⟨x,t,rfl,rfl⟩
  ·rcases jX hb with⟨j,u,rfl,e⟩ | ⟨y,u,rfl,e⟩
   ·injection e with e1 _;rw[e1]
   ·exact nomatch e
  ·rcases jX hb with⟨j,u,rfl,e⟩ | ⟨y,u,rfl,e⟩
   ·exact nomatch e
   ·injection e with e1 _;rw[e1]
 byValue:=λk v h=>by
  rcases jX h with⟨i,t,rfl,rfl⟩ | ⟨x,t,rfl,rfl⟩<;>rfl
 pyHash:=λhv h=>by
  rcases jX hv with⟨i,t,rfl,rfl⟩ | ⟨x,t,rfl,rfl⟩
  ·exact wpAny_pyHash_int h
  ·exact wpAny_pyHash_str h
 eqBool:=λhu hv h=>by
  rcases jX hu with⟨i,t,rfl,rfl⟩ | ⟨x,t,rfl,rfl⟩
  ·rcases jX hv with⟨j,u,rfl,rfl⟩ | ⟨y,u,rfl,rfl⟩
   ·rw[jla] at h;exact wpAny_eqBool_int h
   ·rw[jnA] at h;exact SeqAt.EqAt.int_str i t y u _ _ _ _ h
  ·rcases jX hv with⟨j,u,rfl,rfl⟩ | ⟨y,u,rfl,rfl⟩
   ·rw[jm4] at h;exact SeqAt.EqAt.str_int x t j u _ _ _ _ h
   ·rw[jkP] at h;exact wpAny_eqBool_str h
 «strs»:=λk x t v h=>by
  rcases jX h with⟨i,u,rfl,e⟩ | ⟨y,u,rfl,e⟩
  ·exact nomatch e
  ·injection e with e1 _;subst e1;cases v<;>rfl
def xM(prog)(w)(i)(t):(jW prog w).is (.inl i) (.int i t)=true:=jca i t
def wm(prog)(w)(x)(t):(jW prog w).is (.inr x) (.str x t)=true:=jce x t
inductive V where
 | non | bl (b:Bool) | int (i:Int) | str (x:Str) | byt (b:Array UInt8) | flt (b:UInt64) | ref (a:Addr) | ty (n:String)
 deriving DecidableEq
def RelV:V->Value->Prop
 | .non,u=>u=Value.none
 | .bl b,u=>u=Value.bool b
 | .int i,u=>∃ t,u=Value.int i t
 | .str x,u=>∃ t,u=Value.str x t
 | .byt b,u=>∃ t,u=Value.bytes b t
 | .flt b,u=>∃ t,u=Value.float b t
 | .ref a,u=>u=Value.ref a
 | .ty n,u=>u=Value.type n
abbrev Vals:List V->List Value->Prop:=Paired RelV
def Vals.length(r:Vals xs us):xs.length=us.length:=Paired.length r
theorem Vals.get:∀{xs}{us}{i:Nat}{x},Vals xs us->xs[i]?=some x->∃ u,us[i]?=some u/\RelV x u
 | _,_,_,_,.nil,e=>by simp at e
 | _,_,0,_,.cons r _,e=>by simp at e;subst e;exact⟨_,rfl,r⟩
 | _,_,i+1,x,.cons _ t,e=>by
  obtain⟨u,a,b⟩:=Vals.get t ⇑e;exact⟨u,by simpa using a,b⟩
theorem Vals.set(r:RelV x u):∀{xs}{us} i,Vals xs us->Vals (xs.set i x) (us.set i u)
 | _,_,_,.nil=>.nil
 | _,_,0,.cons _ t=>.cons r t
 | _,_,i+1,.cons q t=>.cons q<|Vals.set r i t
theorem Vals.append:∀{xs ys}{us ws},Vals xs us->Vals ys ws->Vals (xs++ys) (us++ws)
 | _,_,_,_,.nil,s=>s
 | _,_,_,_,.cons r t,s=>.cons r<|Vals.append t s
theorem Vals.take:∀{xs}{us} n,Vals xs us->Vals (xs.take n) (us.take n)
 | _,_,0,_=>.nil
 | _,_,_+1,.nil=>.nil
 | _,_,n+1,.cons r t=>.cons r<|Vals.take n t
theorem Vals.drop:∀{xs}{us} n,Vals xs us->Vals (xs.drop n) (us.drop n)
 | _,_,0,r=>r
 | _,_,_+1,.nil=>.nil
 | _,_,n+1,.cons _ t=>Vals.drop n t
def RelO:Option V->Option Value->Prop
 | some v,some u=>RelV v u
 | none,none=>True
 | _,_=>False
def KV{κ}:List (κ×V)->List (κ×Value)->Prop:=Paired λp q=>p.1=q.1/\RelV p.2 q.2
noncomputable def kV:Key->V
 | .inl i=>.int i
 | .inr x=>.str x
inductive HO where
  | lst (xs:List V)
  | tup (xs:List V)
  | dK (kvs:List (Key×V)) | dT (kvs:List (List Key×V))
  | set (S:Int->Bool) (n:Nat)
  | ins (C dx:Addr) (fs:List (Str×V))
  | own (x:Addr)
  | xd (fs:List (Str×V))
  | met (f x:Addr)
  | rng (lo hi:Int)
  | frz (o:Obj) (u:HO)
  | tbl (ps:Array Value)
  | ext (φ:Heap->Prop)
noncomputable abbrev Hp:=Addr->Option HO
noncomputable def upd(H:Hp)(a:Addr)(o:HO):Hp:=λb=>if b=a then some o else H b
def jh:upd H a o a=some o:=by unfold upd;rw[if_pos rfl]
def je(h:b≠a):upd H a o b=H b:=by unfold upd;rw[if_neg h]
def jdR:upd (upd H a o) a u=upd H a u:=by
 funext b;unfold upd;split<;>rfl
def jpr{H:Hp}{a b}{o u}(h:H a=some o)(h':H b=some u)(d:o≠u):a≠b:=by
 intro e;subst e;rw[h] at h';exact d<|X7 h'
def kJ{H:Hp}{a b}{o}(h:H a=some o)(h':H b=none):a≠b:=by
 intro e;subst e;rw[h] at h';cases h'
def IsTupN(h:Heap)(a:Addr)(its:Array Value):Prop:=IsTup h a its/\∃ o,h.get? a=some o/\o.dict=none
def IsTupN.new(h:Heap)(its):IsTupN (h.push {cls:=.type "tuple",data:=.seq its}) h.objs.size its:=⟨IsTup.new h its,_,E2 _ rfl,rfl⟩
def IsTupN.lt(x:IsTupN h a its):a<h.objs.size:=x.1.lt
section
variable (P:Program)(w:World)
def ObjOk(H:Hp)(h:Heap)(a:Addr):HO->Prop
 | .lst xs=>xs.length<=sizeLine/\∃ its n,Vals xs its/\h.get? a=some {cls:=.type "list",data:=.seq its.toArray n}
 | .tup xs=>xs.length<=sizeLine/\∃ its:List Value,Vals xs its/\IsTupN h a its.toArray
 | .dK kvs=>kvs.length<=sizeLine/\(a==sysModules)=false/\∃ vs,KV kvs vs/\h.DictOf (jW P w) a vs
 | .dT kvs=>kvs.length<=sizeLine/\(a==sysModules)=false/\∃ xs:List (List Key×Addr×Value),
   Paired (λp q=>p.1=q.1/\H q.2.1=some (.tup<|p.1.map kV)/\RelV p.2 q.2.2) kvs xs /\
   ∃ o es ep,h.get? a=some o/\o.ExactDict/\o.data=.dict es ep/\es.toList=xs.map (entryOfKey<|tupleKind<|jW P w)/\(xs.map (·.1)).Nodup
 | .set S n=>h.SetOf (intKind P w) a S n
 | .ins C dx fs=>H dx=some (.own a)/\fs.length<=1000/\dx≠a/\h.get? a=some (PySem.W.instObj C dx) /\
   ∃ mA,h.Ns1 dx mA/\(∀ f,RelO (fs.lookup f)<|mA f)/\PySem.Within mA (fs.map (·.1))
 | .own _=>∃ o,h.get? a=some o
 | .xd fs=>∃ mA,h.Ns1 a mA/\∀ f,RelO (fs.lookup f)<|mA f
 | .rng lo hi=>∃ t u v,h.get? a=some {cls:=.type "range",data:=.fields #[.int lo t,.int hi u,.int 1 v]}
 | .frz o u=>h.get? a=some o/\ObjOk H h a u
 | .tbl ps=>h.get? a=some {cls:=.none,data:=.fields ps}
 | .met f x=>h.get? a=some (PySem.W.methodObj (.ref f)<|.ref x)
 | .ext φ=>φ h/\(∃ o,h.get? a=some o)/\∀ h1 h2:Heap,φ h1->(∀ o,h1.get? a=some o->h2.get? a=some o)->φ h2
def HOk(H:Hp)(h:Heap):Prop:=∀ a o,H a=some o->ObjOk P w H h a o
end
section
variable {P:Program}{w:World}{H H':Hp}{h h':Heap}{a:Addr}{o:HO}
def ObjOk.lt(x:ObjOk P w H h a o):a<h.objs.size:=by
 cases o with
 | lst c=>obtain⟨_,_,_,_,e⟩:=x;exact N2 e
 | tup c=>obtain⟨_,_,_,p⟩:=x;exact p.lt
 | dK b=>obtain⟨_,_,_,_,o,_,_,e,_⟩:=x;exact N2 e
 | dT b=>obtain⟨_,_,_,_,o,_,_,e,_⟩:=x;exact N2 e
 | set S n=>obtain⟨o,_,_,_,e,_⟩:=x;exact N2 e
 | ins C d fs=>obtain⟨_,_,_,e,_⟩:=x;exact N2 e
 | own y=>obtain⟨_,e⟩:=x;exact N2 e
 | xd fs=>obtain⟨_,⟨_,_,_,e,_⟩,_⟩:=x;exact N2 e
 | rng lo hi=>obtain⟨_,_,_,e⟩:=x;exact N2 e
 | frz ob u=>obtain⟨e,_⟩:=x;exact N2 e
 | tbl g=>exact N2<|x
 | met f y=>exact N2<|x
 | ext φ=>obtain⟨_,⟨_,e⟩,_⟩:=x;exact N2 e
theorem Paired.mapP:∀{l₁}{l₂},Paired F l₁ l₂->(∀ a b,F a b->G a b)->Paired G l₁ l₂
 | _,_,.nil,_=>.nil
 | _,_,.cons r t,f=>.cons (f _ _ r)<|Paired.mapP t f
def ObjOk.stay(x:ObjOk P w H h a o)(k:∀ b u,(b=a\/H b=some (.own a))->h.get? b=some u->h'.get? b=some u)
  (B:∀ b,H b=some (.own a)->H' b=some (.own a)) (D:∀ b xs,H b=some (.tup xs)->H' b=some (.tup xs)):ObjOk P w H' h' a o:=by
 induction o with
 | lst xs=>obtain⟨z,j,n,r,e⟩:=x;exact⟨z,j,n,r,k _ _ (.inl rfl) e⟩
 | tup xs=>obtain⟨z,j,r,⟨ob,e,c⟩,l,e2,E⟩:=x;exact⟨z,j,r,⟨ob,k _ _ (.inl rfl) e,c⟩,l,k _ _ (.inl rfl) e2,E⟩
 | dK m=>obtain⟨z,y,vs,r,ob,g,i,e,c⟩:=x;exact⟨z,y,vs,r,ob,g,i,k _ _ (.inl rfl) e,c⟩
 | dT m=>
  obtain⟨z,y,xs,r,ob,g,i,e,c⟩:=x;exact⟨z,y,xs,Paired.mapP r λp q z=>⟨z.1,D _ _ z.2.1,z.2.2⟩,ob,g,i,k _ _ (.inl rfl) e,c⟩
 | set S n=>obtain⟨ob,g,i,t,e,c⟩:=x;exact⟨ob,g,i,t,k _ _ (.inl rfl) e,c⟩
 | ins C G fs=>
  obtain⟨d,z,ne,e,s,⟨od,g,i,e2,c⟩,r⟩:=x;exact⟨B _ d,z,ne,k _ _ (.inl rfl) e,s,⟨od,g,i,k _ _ (.inr d) e2,c⟩,r⟩
 | own y=>obtain⟨ob,e⟩:=x;exact⟨ob,k _ _ (.inl rfl) e⟩
 | xd fs=>obtain⟨s,⟨od,g,i,e,c⟩,r⟩:=x;exact⟨s,⟨od,g,i,k _ _ (.inl rfl) e,c⟩,r⟩
 | rng lo hi=>obtain⟨t,u,v,e⟩:=x;exact⟨t,u,v,k _ _ (.inl rfl) e⟩
 | frz ob u F=>obtain⟨e,q⟩:=x;exact⟨k _ _ (.inl rfl) e,F q⟩
 | tbl I=>
  have e:=x;exact k a _ (.inl rfl) e
 | met f y=>
  have e:=x;exact k a _ (.inl rfl) e
 | ext φ=>obtain⟨p,⟨o,e⟩,A⟩:=x;exact⟨A _ _ p λo q=>k _ _ (.inl rfl) q,⟨o,k _ _ (.inl rfl) e⟩,A⟩
def HOk.lt(x:HOk P w H h)(e:H a=some o):a<h.objs.size:=(x a o e).lt
def HOk.fresh(x:HOk P w H h)(e:h.objs.size<=a):H a=none:=by
 cases q:H a with
 | none=>rfl
 | some u=>exact absurd (U5 (x.lt q) e)<|Nat.lt_irrefl _
def HOk.kept(x:HOk P w H h)(k:∀ b u,h.get? b=some u->h'.get? b=some u):HOk P w H h':=λa o e=>
 (x a o e).stay (λb u _ q=>k b u q) (λ_ q=>q) λ_ _ q=>q
def HOk.laid(x:HOk P w H h)(k:∀ b u,h.get? b=some u->h'.get? b=some u)(f:h.objs.size<=a)(new:ObjOk P w (upd H a o) h' a o):HOk P w (upd H a o) h':=λb u e=>by
 have d:=x.fresh f;by_cases hb:b=a
 ·subst hb;rw[jh] at e;cases e;exact new
 ·rw[je hb] at e;exact(x b u e).stay (λc v _ q=>k c v q) (λc q=>by rw[je<|kJ q d];exact q) λc g q=>by rw[je<|kJ q d];exact q
end
def Rd(H:Hp)(a:Addr)(u:HO):Prop:=H a=some u \/ ∃ o,H a=some (.frz o u)
def Rd.ok(r:Rd H a u)(x:HOk P w H h):ObjOk P w H h a u:=by
 rcases r with r | ⟨o,r⟩
 ·exact x a u r
 ·obtain⟨_,q⟩:=x a _ r;exact q
def Mut:Option HO->Prop
 | some (.lst _)=>True
 | some (.dK _)=>True
 | some (.dT _)=>True
 | some (.set _ _)=>True
 | some (.ins _ _ _)=>True
 | some (.ext _)=>True
 | _=>False
section
variable {P:Program}{w:World}{H:Hp}{h h':Heap}{x e:Addr}{o':HO}
def HOk.write(ok:HOk P w H h)(g:Mut<|H x)(m:e=x\/H e=some (.own x))(k:∀ b u,b≠e->h.get? b=some u->h'.get? b=some u)(l:∃ u,h'.get? e=some u)
  (new:ObjOk P w (upd H x o') h' x o'):HOk P w (upd H x o') h':=λb u q=>by
 have d:∀ c y,H c=some (.own y)->c≠x:=λc y r z=>by subst z;rw[r] at g;exact g
 have f:∀ c i,H c=some (.tup i)->c≠x:=λc i r z=>by subst z;rw[r] at g;exact g
 by_cases hb:b=x
 ·subst hb;rw[jh] at q;cases q;exact new
 ·rw[je hb] at q;by_cases a:b=e
  ·have n:H b=some (.own x):=by
    rcases m with z | z
    ·exact absurd (a.trans z) hb
    ·rw[a];exact z
   rw[q] at n;cases n;obtain⟨v,o⟩:=l;exact⟨v,by rw[a];exact o⟩
  ·refine(ok b u q).stay (λc v j r=>k c v ?_ r) (λc r=>by rw[je<|d c b r];exact r) λc i r=>by rw[je<|f c i r];exact r
   rcases j with rfl | j
   ·exact a
   ·rintro rfl;rcases m with z | z
    ·exact d c b j z
    ·rw[j] at z;cases z;exact hb rfl
end
structure Un(fs ex:W5)(H H':Hp)(h h':Heap):Prop where
 keep:∀ b o,h.get? b=some o->H b=none->b∉fs->b∉ex->h'.get? b=some o
 slot:∀ b o,h.get? b=some o->H b=none->b∈fs->b∉ex->∃ sl,h'.get? b=some {o with slots:=sl}
 free:∀ b o,h.get? b=some o->H b=none->b∉ex->H' b=none
 there:∀ b o,h.get? b=some o->b∉ex->∃ o',h'.get? b=some o'
 tups:∀ b xs,H b=some (.tup xs)->H' b=some (.tup xs)
 frzs:∀ b o u,H b=some (.frz o u)->H' b=some (.frz o u)
 tbls:∀ b ps,H b=some (.tbl ps)->∃ more,H' b=some (.tbl<|ps++more)
section
variable {fs fs' ex ex':W5}{H H1 H2:Hp}{h h1 h2 h':Heap}{a x e:Addr}{o:HO}
def Un.any(u:Un fs ex H H1 h h1)  (q:h.get? b=some ob) (n:H b=none) (a:b∉ex):∃ sl,h1.get? b=some {ob with slots:=sl}:=by
 by_cases hb:b∈fs
 ·exact u.slot b ob q n hb a
 ·exact⟨ob.slots,u.keep b ob q n hb a⟩
def Un.kept(k:∀ b u,h.get? b=some u->h'.get? b=some u):Un fs ex H H h h':=
 ⟨λb ob q _ _ _=>k b ob q,λb ob q _ _ _=>⟨ob.slots,k b ob q⟩,λ_ _ _ n _=>n,λb ob q _=>⟨ob,k b ob q⟩,λ_ _ q=>q,λ_ _ _ q=>q,λ_ a q=>⟨#[],by rw[q];simp⟩⟩
def Un.refl:Un fs ex H H h h:=Un.kept λ_ _ q=>q
def Un.laid(k:∀ b u,h.get? b=some u->h'.get? b=some u)(d:h.objs.size<=a)(c:H a=none):Un fs ex H (upd H a o) h h' where
 keep:=λb u q _ _ _=>k b u q
 slot:=λb u q _ _ _=>⟨u.slots,k b u q⟩
 free:=λb u q n _=>by rw[je<|N7<|U5 (N2 q) d];exact n
 there:=λb u q _=>⟨u,k b u q⟩
 tups:=λb e q=>by rw[je<|kJ q c];exact q
 frzs:=λb u e q=>by rw[je<|kJ q c];exact q
 tbls:=λb f q=>⟨#[],by rw[je<|kJ q c,q];simp⟩
def Un.write(c:Mut<|H x)(i:e=x\/H e=some (.own x))(k:∀ b u,b≠e->h.get? b=some u->h'.get? b=some u)(d:∃ u,h'.get? e=some u):Un fs ex H (upd H x o) h h':=by
 have g:∀ b,H b=none->b≠x:=λb n z=>by subst z;rw[n] at c;exact c
 have hb:∀ b,H b=none->b≠e:=λb n z=>by
  subst z;rcases i with r | r
  ·exact g b n r
  ·rw[n] at r;cases r
 have f:∀ b u,H b=some u->¬ Mut (some u)->b≠x:=λb u q nm z=>by subst z;rw[q] at c;exact nm c
 refine⟨λb u q n _ _=>k b u (hb b n) q,λb u q n _ _=>⟨u.slots,k b u (hb b n) q⟩,λb u q n _=>by rw[je<|g b n];exact n,λb u q _=>?_,
  λb j q=>by rw[je<|f b _ q λz=>z];exact q,λb u j q=>by rw[je<|f b _ q λz=>z];exact q,λb l q=>⟨#[],by rw[je<|f b _ q λz=>z,q];simp⟩⟩
 by_cases a:b=e
 ·subst a;exact d
 ·exact⟨u,k b u a q⟩
end
noncomputable def trk(h:Heap)(H:Hp):List Addr:=(List.range h.objs.size).filter λa=>(H a).isSome
def jgV(h:Heap)(H:Hp):Heap:=PySem.W.hideAll h<|trk h H
def jbz(h)(H):(jgV h H).objs.size=h.objs.size:=PySem.W.hideAll_size _ _
def jgx(e:h.get? b=some o)(n:H b=none):(jgV h H).get? b=some o:=
 PySem.W.hideAll_get _ e λa=>by
  have q:=(List.mem_filter.mp a).2;rw[n] at q;simp at q
def jiQ(e:(jgV h H).get? b=some o):h.get? b=some o/\H b=none:=by
 have a:=PySem.W.of_hideAll (trk h H) e;refine⟨a,?_⟩;cases q:H b with
 | none=>rfl
 | some x=>
  have c:b∈trk h H:=List.mem_filter.mpr ⟨List.mem_range.mpr<|N2 a,by simp[q]⟩;have z:(jgV h H).get? b=none:=PySem.W.hideAll_none (trk h H) c;rw[z] at e;cases e
noncomputable def jjg(g h:Heap)(L:Addr):List (Addr×Obj):=(List.range h.objs.size).filterMap λa=>if a=L\/(g.get? a).isSome=true then none else(h.get? a).map λo=>(a,o)
def J7(g h:Heap)(L d:Addr):List (Addr×Obj):=(jjg g h L).filter λp=>decide<|p.1≠d
structure Mod(K:W4)(mg:W6)(base:Heap):Prop where
 kin:K.In base
 glob:base.Ns mainGlobals mg
 blt:∃ mb,base.Ns builtinsNs mb/\∀ x:Str,x≠"__name__"->mb x=bootBuiltins x
 nolimit:base.NoLimit
structure Cx where
 prog:Program
 w:World
 K:PySem.W.Frag
 mg:Str->Option Value
 base:Heap
 A:Around
 N:List Str
 s₀:Shared
 H₀:Hp
 env:Env
 outer:List Env
 stack:List Env
 ex:List Addr
 fn:Str->Bool
 calm:Bool
 pn:List (Addr×Obj)
 xe:Value->Shared->Prop
noncomputable def frs(l:List Env):List Addr:=l.filterMap (·.frame)
abbrev Cx.fs(X:Cx):List Addr:=frs X.outer
def Vis(sc:Scope)(x:Str):Prop:=sc.names.lookup x=some .local\/sc.names.lookup x=some .cell\/sc.names.lookup x=some .free
def Loc(sc:Scope)(x:Str):Prop:=sc.names.lookup x=some .local\/sc.names.lookup x=some .cell
def jqa(env:Env)(h:Heap)(m:W6)(x:Str)(u:Value):Prop:=
 (env.kindOf x=some .local/\m x=some u)\/((env.kindOf x=some .cell\/env.kindOf x=some .free)/\∃ c,env.cells.lookup x=some c/\h.IsCell c (some u))
structure Cx.Ok(X:Cx):Prop where
 mod:Mod X.K X.mg X.base
 kind:X.env.scope.kind=.function
 glob:X.env.globals=mainGlobals
 blt:X.env.builtins=builtinsNs
 above:X.s₀.heap.objs.size<=X.env.locals
 inj:∀ x y c,X.env.cells.lookup x=some c->X.env.cells.lookup y=some c->x=y
 has:∀ x,(X.env.kindOf x=some .cell\/X.env.kindOf x=some .free)->∃ c,X.env.cells.lookup x=some c
 cab:∀ x c,X.fn x=true->X.env.cells.lookup x=some c->X.s₀.heap.objs.size<=c
 hd:X.calm=true->X.A.handled=none
 frames:X.A.frames=some X.stack
 stk:X.stack=X.outer\/(X.stack=X.env::X.outer/\X.env.frame=some X.env.locals)
 exf:∀ b∈X.ex,b≠X.env.locals/\∀ x c,X.env.cells.lookup x=some c->c≠b
 bs:∀ b o,X.base.get? b=some o->X.s₀.heap.get? b=some o/\X.H₀ b=none
 bsz:X.base.objs.size<=X.s₀.heap.objs.size
 noex:∀ b o,X.base.get? b=some o->b∉X.ex
 exfs:∀ b∈X.ex,b∉X.fs
 funs:X.s₀.heap.FunFrames X.base X.outer
 frf:∀ b∈X.fs,X.H₀ b=none
structure Inv(X:Cx)(pins:W0)(σ:List<|Option V)(H:Hp)(s:Shared):Prop where
 ok:X.Ok
 os:s.os=X.s₀.os
 bare:AllBare s.gens
 base:Un X.fs X.ex X.H₀ H X.s₀.heap s.heap
 loc:∃ m,s.heap.Ns X.env.locals m/\∀(i:Nat) (x:Str) (v:V),X.N[i]?=some x->σ[i]?=some (some v)->Vis X.env.scope x->∃ u,RelV v u/\jqa X.env s.heap m x u
 cell:∀ x c,X.env.cells.lookup x=some c->∃ v,s.heap.IsCell c v
 free:H X.env.locals=none
 freeC:∀ x c,X.env.cells.lookup x=some c->H c=none
 pin:∀ p∈X.pn++pins,s.heap.get? p.1=some p.2/\H p.1=none/\p.1≠X.env.locals/\p.1∉X.fs/\∀ v,p.2.data≠.cell v
 hok:HOk X.prog X.w H s.heap
 len:σ.length=X.N.length
section
variable {X:Cx}{pins:List (Addr×Obj)}{σ:List (Option V)}{H H':Hp}{s:Shared}{h':Heap}
def Cx.Ok.nofr(ok:X.Ok)  {o}(e:X.base.get? b=some o):b∉X.fs:=λhb=>by
 have:=(ok.funs.mem hb).1;rw[e] at this;cases this
def Inv.bs(I:Inv X pins σ H s):∀ b o,X.base.get? b=some o->s.heap.get? b=some o/\H b=none:=λb o e=>
 ⟨I.base.keep b o (I.ok.bs b o e).1 (I.ok.bs b o e).2 (I.ok.nofr e) (I.ok.noex b o e),I.base.free b o (I.ok.bs b o e).1 (I.ok.bs b o e).2 (I.ok.noex b o e)⟩
def Inv.bk(I:Inv X pins σ H s):∀ b o,X.base.get? b=some o->s.heap.get? b=some o:=λb o e=>(I.bs b o e).1
def Inv.mod(I:Inv X pins σ H s):Mod X.K X.mg X.base:=I.ok.mod
def Inv.kIn(I:Inv X pins σ H s):X.K.In s.heap:=I.ok.mod.kin.keeps I.bk
def Inv.lt(I:Inv X pins σ H s):X.env.locals < ↥s:=let ⟨_,hn,_⟩:=I.loc;hn.lt
def Inv.sz(I:Inv X pins σ H s):X.s₀.heap.objs.size<=↥s:=N8 I.ok.above<|Nat.le_of_lt I.lt
def Inv.nofs(I:Inv X pins σ H s)  (h:↥s<=a):a∉X.fs:=λhb=>by
 obtain⟨_,o,b,_⟩:=I.ok.funs.mem hb;exact absurd (U5 (N2 b)<|N8 I.sz h)<|Nat.lt_irrefl _
def Inv.cne(I:Inv X pins σ H s):∀ x c,X.env.cells.lookup x=some c->c≠X.env.locals:=λx c e z=>by
 obtain⟨v,o,d,hd⟩:=I.cell x c e;obtain⟨m,⟨f,g,h,a,b,_⟩,_⟩:=I.loc;rw[z,a] at d;cases d;rw[b] at hd;cases hd
def Inv.funs(I:Inv X pins σ H s):s.heap.FunFrames X.base X.outer:=by
 have all:∀ l,(∀ b∈frs l,b∈X.fs)->X.s₀.heap.FunFrames X.base l->s.heap.FunFrames X.base l:=by
  intro l
  induction l with
  | nil=>intro _ _;trivial
  | cons env r f=>
   intro d g;obtain⟨h,⟨L,o,a,i,j,hd⟩,k⟩:=g;have c:=d L (by unfold frs;rw[List.filterMap_cons,a];exact L7);obtain⟨m,e⟩:=I.base.slot L o j (I.ok.frf L c) c λz=>I.ok.exfs L z c;exact⟨h,⟨L,_,a,i,e,hd⟩,f (λb hb=>d b<|by unfold frs;rw[List.filterMap_cons,a];exact L6 _ hb) k⟩
 exact all X.outer (λ_ hb=>hb) I.ok.funs
def Inv.stack(I:Inv X pins σ H s):s.heap.FunFrames X.base X.stack:=by
 rcases I.ok.stk with e | ⟨e,a⟩
 ·rw[e];exact I.funs
 ·rw[e];obtain⟨m,b,_⟩:=I.loc;refine .cons (by rw[I.ok.kind];decide) a b ?_ I.funs;exact Heap.get?_none_of_le<|N8 I.ok.bsz I.ok.above
def Inv.stkSub(I:Inv X pins σ H s):∀ b∈frs X.stack,b∈X.env.locals::X.fs:=λb hb=>by
 rcases I.ok.stk with e | ⟨e,a⟩
 ·rw[e] at hb;exact L6 _ hb
 ·rw[e] at hb;unfold frs at hb;rw[List.filterMap_cons,a] at hb;exact hb
def Inv.stkFree(I:Inv X pins σ H s):∀ b∈frs X.stack,H b=none:=λb hb=>by
 rcases M5.mp (I.stkSub b hb) with e | hb
 ·rw[e];exact I.free
 ·obtain⟨_,o,a,_⟩:=I.ok.funs.mem hb;exact I.base.free b o a (I.ok.frf b hb) λz=>I.ok.exfs b z hb
def Inv.step{C}{t'}{ch:W5}(I:Inv X pins σ H s)
  (f:∀ b∈ch,(b∈X.ex\/X.s₀.heap.objs.size<=b)/\b≠X.env.locals/\(∀ x c,X.env.cells.lookup x=some c->c≠b)/\∀ p∈X.pn++pins,p.1≠b)
  (keep:∀ b o,b≠X.env.locals->b∉X.fs->b∉ch->s.heap.get? b=some o->H b=none->h'.get? b=some o)
  (slot:∀ b o,b≠X.env.locals->b∈X.fs->b∉ch->s.heap.get? b=some o->H b=none->∃ sl,h'.get? b=some {o with slots:=sl}) (free:∀ b o,b∉ch->s.heap.get? b=some o->H b=none->H' b=none)
  (there:∀ b o,b∉ch->s.heap.get? b=some o->∃ o',h'.get? b=some o')
  (tups:∀ b xs,H b=some (.tup xs)->H' b=some (.tup xs)) (frzs:∀ b o u,H b=some (.frz o u)->H' b=some (.frz o u)) (tbls:∀ b ps,H b=some (.tbl ps)->∃ more,H' b=some (.tbl<|ps++more))
  (ns:∀ m,s.heap.Ns X.env.locals m->h'.Ns X.env.locals m) (hok:HOk X.prog X.w H' h') (G:AllBare C):
  Inv X pins σ H' {s with heap:=h',gens:=C,drawn:=d',toks:=t'}:=by
 have A:∀ b o,X.s₀.heap.get? b=some o->b≠X.env.locals:=λb o e=>N7<|U5 (N2 e) I.ok.above;have j:∀ b o,X.s₀.heap.get? b=some o->b∉X.ex->b∉ch:=λb o e a hb=>by
  rcases(f b hb).1 with z | z
  ·exact a z
  ·exact absurd (U5 (N2 e) z)<|Nat.lt_irrefl _
 have g:∀ x c,X.env.cells.lookup x=some c->∀ v,s.heap.IsCell c v->h'.IsCell c v:=λx c e v ⟨o,y,hd⟩=>by
  have h:=λz=>(f c z).2.2.1 x c e rfl;by_cases D:c∈X.fs
  ·obtain⟨sl,q⟩:=slot c o (I.cne x c e) D h y<|I.freeC x c e;exact⟨_,q,hd⟩
  ·exact⟨o,keep c o (I.cne x c e) D h y<|I.freeC x c e,hd⟩
 refine⟨I.ok,I.os,G,⟨λb o e n hb a=>(keep b o (A b o e) hb (j b o e a) (I.base.keep b o e n hb a)<|I.base.free b o e n a),λb o e n hb a=>?_,λb o e n a=>?_,λb o e a=>?_,λb xs e=>tups b xs<|I.base.tups b xs e,λb o xs e=>frzs b o xs<|I.base.frzs b o xs e,λb ps e=>?_⟩,?_,λx c e=>?_,?_,λx c e=>?_,λp E=>?_,hok,I.len⟩
 ·obtain⟨sl,t⟩:=I.base.slot b o e n hb a;obtain⟨B,e2⟩:=slot b _ (A b o e) hb (j b o e a) t<|I.base.free b o e n a;exact⟨B,e2⟩
 ·obtain⟨o',t⟩:=I.base.there b o e a;exact free b o' (j b o e a) t<|I.base.free b o e n a
 ·obtain⟨o',t⟩:=I.base.there b o e a;exact there b o' (j b o e a) t
 ·obtain⟨J,t⟩:=I.base.tbls b ps e;obtain⟨K,e2⟩:=tbls b _ t;exact⟨J++K,by rw[e2,Array.append_assoc]⟩
 ·obtain⟨m,L,M⟩:=I.loc;refine⟨m,ns m L,λi x v t e2 e3=>?_⟩;obtain⟨u,r,l⟩:=M i x v t e2 e3;refine⟨u,r,?_⟩;rcases l with l | ⟨k,c,e,z⟩
  ·exact .inl l
  ·exact .inr ⟨k,c,e,g x c e _ z⟩
 ·obtain⟨v,z⟩:=I.cell x c e;exact⟨v,g x c e v z⟩
 ·obtain⟨m,⟨o,_,_,y,_⟩,_⟩:=I.loc;exact free _ o (λz=>(f _ z).2.1 rfl) y I.free
 ·obtain⟨v,o,y,hd⟩:=I.cell x c e;exact free c o (λz=>(f c z).2.2.1 x c e rfl) y<|I.freeC x c e
 ·obtain⟨e,n,ne,F,d⟩:=I.pin p E;have h:=λz=>(f p.1 z).2.2.2 p E rfl;exact⟨keep p.1 p.2 ne F h e n,free p.1 p.2 h e n,ne,F,d⟩
def Inv.un{t'}(I:Inv X pins σ H s)(u:Un X.fs [] H H' s.heap h')(hok:HOk X.prog X.w H' h'):Inv X pins σ H' {s with heap:=h',toks:=t'}:=by
 obtain⟨m,⟨o,j,k,f,r⟩,_⟩:=id I.loc;obtain⟨l,g⟩:=u.any f I.free (by simp);exact I.step (ch:=[]) (λ_ z=>nomatch z) (λb o _ hb _ e n=>u.keep b o e n hb<|by simp) (λb o _ hb _ e n=>u.slot b o e n hb<|by simp) (λb o _ e n=>u.free b o e n<|by simp) (λb o _ e=>u.there b o e<|by simp) u.tups u.frzs u.tbls (λp h=>by
  obtain⟨q,c,d,a,i⟩:=h;rw[f] at a;cases a;exact⟨_,c,d,g,i⟩) hok I.bare
def Inv.call{j}{t'}{ch}(I:Inv X pins σ H s)(u:Un (frs X.stack) ch H H' s.heap h')(hok:HOk X.prog X.w H' h')(l:AllBare j)
  (d:∀ b∈ch,(b∈X.ex\/X.s₀.heap.objs.size<=b)/\b≠X.env.locals/\(∀ x c,X.env.cells.lookup x=some c->c≠b)/\∀ p∈X.pn++pins,p.1≠b):
  Inv X pins σ H' {s with heap:=h',gens:=j,drawn:=d',toks:=t'}:=by
 obtain⟨m,⟨o,v,y,k,r⟩,_⟩:=id I.loc;obtain⟨A,g⟩:=u.any k I.free λz=>(d _ z).2.1 rfl;exact I.step d (λb o g hb a e n=>u.keep b o e n (λz=>(M5.mp<|I.stkSub b z).elim g hb) a) (λb o _ _ a e n=>u.any e n a) (λb o a e n=>u.free b o e n a) (λb o a e=>u.there b o e a) u.tups u.frzs u.tbls (λB q=>by
  obtain⟨C,h,i,f,t⟩:=q;rw[k] at f;cases f;exact⟨_,h,i,g,t⟩) hok l
def Inv.turned{t'}(I:Inv X pins σ H s)(k:∀ b o,b≠it->s.heap.get? b=some o->h'.get? b=some o)(g:H it=none)(f:it≠X.env.locals)
  (h1:it∈X.ex\/X.s₀.heap.objs.size<=it) (h2:∀ x c,X.env.cells.lookup x=some c->c≠it) (h:∀ p∈X.pn++pins,p.1≠it):Inv X pins σ H {s with heap:=h',toks:=t'}:=by
 have d:∀ b u,H b=some u->b≠it:=λb u e z=>by rw[z,g] at e;cases e
 refine I.step (ch:=[it]) (λb hb=>?_) (λb o _ _ a e _=>k b o (λz=>a<|by simp[z]) e) (λb o _ _ a e _=>⟨o.slots,k b o (λz=>a<|by simp[z]) e⟩) (λ_ _ _ _ n=>n)
  (λb o a e=>⟨o,k b o (λz=>a<|by simp[z]) e⟩) (λ_ _ e=>e) (λ_ _ _ e=>e) (λb w e=>⟨#[],by rw[e];simp⟩) (λm i=>?_) (λb u e=>?_) I.bare
 ·have e:b=it:=by simpa using hb
  subst e;exact⟨h1,f,h2,h⟩
 ·obtain⟨o,j,l,t,r⟩:=i;exact⟨o,j,l,k _ o (Ne.symm f) t,r⟩
 ·refine(I.hok b u e).stay (λc v a q=>k c v ?_ q) (λ_ q=>q) λ_ _ q=>q;rcases a with z | z
  ·rw[z];exact d b u e
  ·exact d c _ z
def Inv.tok(I:Inv X pins σ H s)(t):Inv X pins σ H {s with toks:=t}:=I.un Un.refl I.hok
def Inv.kept(I:Inv X pins σ H s)(k:∀ b u,s.heap.get? b=some u->h'.get? b=some u):Inv X pins σ H {s with heap:=h',toks:=t'}:=I.un (Un.kept k)<|I.hok.kept k
def Inv.laid(I:Inv X pins σ H s)(k:∀ b u,s.heap.get? b=some u->h'.get? b=some u)(c:↥s<=a)(new:ObjOk X.prog X.w (upd H a o) h' a o):
  Inv X pins σ (upd H a o) {s with heap:=h',toks:=t'}:=I.un (Un.laid k c<|I.hok.fresh c)<|I.hok.laid k c new
def Inv.write(I:Inv X pins σ H s)(c:Mut<|H x)(d:e=x\/H e=some (.own x))(k:∀ b u,b≠e->s.heap.get? b=some u->h'.get? b=some u)(a:∃ u,h'.get? e=some u)
  (new:ObjOk X.prog X.w (upd H x o) h' x o):Inv X pins σ (upd H x o) {s with heap:=h',toks:=t'}:=I.un (Un.write c d k a)<|I.hok.write c d k a new
def Inv.pins_of(I:Inv X pins σ H s)(h:∀ p∈pins',s.heap.get? p.1=some p.2/\H p.1=none/\p.1≠X.env.locals/\p.1∉X.fs/\∀ v,p.2.data≠.cell v):Inv X pins' σ H s:=
 ⟨I.ok,I.os,I.bare,I.base,I.loc,I.cell,I.free,I.freeC,λp a=>(N3.mp a).elim (λz=>I.pin p<|List.mem_append_left _ z) (h p),I.hok,I.len⟩
def jav{N:List Str}(c:N.Nodup){i j:Nat}(a:N[i]?=some x)(b:N[j]?=some x):i=j:=by
 obtain⟨e,d⟩:=L9.mp a;obtain⟨f,e2⟩:=L9.mp b;exact(List.getElem_inj c).mp (d.trans e2.symm)
def jdx(I:Inv X pins σ H s)(hN:X.N.Nodup)(hi:X.N[i]?=some x)(B:Loc X.env.scope x)(r:RelV v u)
  (h:∀ s',Inv X pins (σ.set i<|some v) H s'->(∃ a,Heap.SameBut a s.heap s'.heap/\(a=X.env.locals\/X.env.cells.lookup x=some a))->Q () s') (hf:X.fn x=true\/X.env.scope.names.lookup x=some .local:=by first | exact .inl rfl | exact .inr rfl | assumption):wpAny M A (storeName X.env x u) Q E s:=by
 obtain⟨m,V,hl⟩:=id I.loc;have K:(X.env.scope.kind==.class||(X.env.scope.kind==.module&&X.env.locals != X.env.globals))=false:=by rw[I.ok.kind];rfl
 have L:i<σ.length:=by rw[I.len];exact(L9.mp hi).1
 have cne:=I.cne;have g:∀{a}{J},(∃ o,s.heap.get? a=some o/\H a=none)->Heap.SameBut a s.heap J->HOk X.prog X.w H J:=λ{a J} ha f b ob e=>by
  obtain⟨_,_,C⟩:=ha;refine(I.hok b ob e).stay (λc T t q=>(f.2 c ?_).trans q) (λ_ q=>q) λ_ _ q=>q;rintro rfl;rcases t with rfl | t
  ·rw[C] at e;cases e
  ·rw[C] at t;cases t
 rcases B with D | D
 ·refine wpAny_storeName_local D V (λJ W f=>?_) K;obtain⟨oL,_,_,Y,_⟩:=id V;refine h _ ⟨I.ok,I.os,I.bare,⟨λb o e n hb B=>((f.2 b<|N7<|U5 (N2 e) I.ok.above).trans (I.base.keep b o e n hb B)),λb o e n hb B=>?_,I.base.free,λb o e B=>?_,I.base.tups,I.base.frzs,I.base.tbls⟩,⟨_,W,λj y Z l e2 e3=>?_⟩,λy c e=>?_,I.free,I.freeC,λp hp=>?_,g ⟨oL,Y,I.free⟩ f,by simpa using I.len⟩ ⟨_,f,.inl rfl⟩
  ·obtain⟨sl,l⟩:=I.base.slot b o e n hb B;exact⟨sl,(f.2 b<|N7<|U5 (N2 e) I.ok.above).trans l⟩
  ·obtain⟨o',l⟩:=I.base.there b o e B;exact⟨o',(f.2 b<|N7<|U5 (N2 e) I.ok.above).trans l⟩
  ·by_cases F:j=i
   ·subst F;rw[hi] at l;cases l;rw[List.getElem?_set_self L] at e2;cases e2;exact⟨u,r,.inl ⟨D,by simp⟩⟩
   ·rw[List.getElem?_set_ne<|Ne.symm F] at e2;obtain⟨u',r',q⟩:=hl j y Z l e2 e3;refine⟨u',r',?_⟩;rcases q with⟨k,e⟩ | ⟨k,c,e,z⟩
    ·refine .inl ⟨k,?_⟩;have:y≠x:=λe=>F<|jav hN l<|e▸hi;simp[this,e]
    ·exact .inr ⟨k,c,e,z.sameBut f<|cne y c e⟩
  ·obtain⟨T,z⟩:=I.cell y c e;exact⟨T,z.sameBut f<|cne y c e⟩
  ·obtain⟨e,n,ne,nf,d⟩:=I.pin p hp;exact⟨(f.2 p.1 ne).trans e,n,ne,nf,d⟩
 ·have G:X.fn x=true:=by
   rcases hf with z | z
   ·exact z
   ·rw[z] at D;cases D
  obtain⟨c,t⟩:=I.ok.has x<|.inl D;obtain⟨T,z⟩:=I.cell x c t;refine wpAny_storeName_cell I.ok.kind D t z<|λJ O f=>?_;obtain⟨oc,P,R⟩:=id z;refine h {s with heap:=J} ⟨I.ok,I.os,I.bare,⟨λb o e n hb B=>((f.2 b<|N7<|U5 (N2 e)<|I.ok.cab x c G t).trans (I.base.keep b o e n hb B)),λb o e n hb B=>?_,I.base.free,λb o e B=>?_,I.base.tups,I.base.frzs,I.base.tbls⟩,⟨m,V.sameBut f<|Ne.symm<|cne x c t,λj y Z l e2 e3=>?_⟩,λy U e=>?_,I.free,I.freeC,λp hp=>?_,g ⟨oc,P,I.freeC x c t⟩ f,by simpa using I.len⟩ ⟨c,f,.inr t⟩
  ·obtain⟨sl,l⟩:=I.base.slot b o e n hb B;exact⟨sl,(f.2 b<|N7<|U5 (N2 e)<|I.ok.cab x c G t).trans l⟩
  ·obtain⟨o',l⟩:=I.base.there b o e B;exact⟨o',(f.2 b<|N7<|U5 (N2 e)<|I.ok.cab x c G t).trans l⟩
  ·by_cases F:j=i
   ·subst F;rw[hi] at l;cases l;rw[List.getElem?_set_self L] at e2;cases e2;exact⟨u,r,.inr ⟨.inl D,c,t,O⟩⟩
   ·rw[List.getElem?_set_ne<|Ne.symm F] at e2;obtain⟨u',r',q⟩:=hl j y Z l e2 e3;refine⟨u',r',?_⟩;rcases q with q | ⟨k,U,e,z'⟩
    ·exact .inl q
    ·refine .inr ⟨k,U,e,z'.sameBut f ?_⟩;rintro rfl;exact F<|jav hN l<|I.ok.inj _ _ _ e t▸hi
  ·by_cases S:U=c
   ·subst S;exact⟨_,O⟩
   ·obtain⟨w2,z2⟩:=I.cell y U e;exact⟨w2,z2.sameBut f S⟩
  ·obtain⟨e,n,ne,nf,d⟩:=I.pin p hp;refine⟨(f.2 p.1 ?_).trans e,n,ne,nf,d⟩;intro q;rw[q,P] at e;exact d T (by rw[<- (X7 e)];exact R)
def YU(I:Inv X pins σ H s)(a:X.N.Nodup)(hi:X.N[i]?=some x)(b:Loc X.env.scope x)(r:RelV v u)
  (h:∀ s',Inv X pins (σ.set i<|some v) H s'->Q () s') (c:X.fn x=true\/X.env.scope.names.lookup x=some .local:=by first | exact .inl rfl | exact .inr rfl | assumption):wpAny M A (storeName X.env x u) Q E s:=
 jdx I a hi b r (λs' d _=>h s' d) c
end
abbrev XK:=Value->Option Addr->Hp->Prop
noncomputable abbrev St:=List<|Option V
abbrev VK:=V->Hp->Prop
abbrev TE:=St->Hp->VK->Prop
abbrev TT:=St->Hp->(Bool->Hp->Prop)->Prop
abbrev TA:=St->Hp->(List V->Hp->Prop)->Prop
structure Ends where
 nx:St->Hp->Prop
 rt:VK
 bk:St->Hp->Prop:=λ_ _=>False
 ct:St->Hp->Prop:=λ_ _=>False
abbrev TS:=Ends->St->Hp->Prop
def EP(X:Cx)(pins:W0)(σ:St)(Q:VK)(u:Value)(s':Shared):Prop:=∃ v H',Inv X pins σ H' s'/\RelV v u/\Q v H'
def TP(X:Cx)(pins:W0)(σ:St)(Q:Bool->Hp->Prop)(b:Bool)(s':Shared):Prop:=∃ H',Inv X pins σ H' s'/\Q b H'
def AP(X:Cx)(pins:W0)(σ:St)(Q:List V->Hp->Prop)(us:List Value)(s':Shared):Prop:=∃ vs H',Inv X pins σ H' s'/\Vals vs us/\Q vs H'
def SP(X:Cx)(pins:W0)(D:Ends)(f:Flow)(s':Shared):Prop:=
 match f with
 | .next=>∃ σ' H',Inv X pins σ' H' s'/\D.nx σ' H'
 | .brk=>∃ σ' H',Inv X pins σ' H' s'/\D.bk σ' H'
 | .cont=>∃ σ' H',Inv X pins σ' H' s'/\D.ct σ' H'
 | .ret u=>∃ v σ' H',Inv X pins σ' H' s'/\RelV v u/\D.rt v H'
def PE(X:Cx)(e:Expr)(t:TE):Prop:=
 ∀ pins s (σ:St) H Q,Inv X pins σ H s->t σ H Q->wpAny (model X.prog X.w) X.A (eval e X.env) (EP X pins σ Q) X.xe s
def PT(X:Cx)(e:Expr)(t:TT):Prop:=
 ∀ pins s (σ:St) H (Q:Bool->Hp->Prop),Inv X pins σ H s->t σ H Q->wpAny (model X.prog X.w) X.A (isTrue e X.env<|eval e X.env) (TP X pins σ Q) X.xe s
def PW(X:Cx)(e:Expr)(t:TT):Prop:=
 ∀ whole pins s (σ:St) H (Q:Bool->Hp->Prop),Inv X pins σ H s->t σ H Q->wpAny (model X.prog X.w) X.A (isTrue e X.env whole) (TP X pins σ Q) X.xe s
def PW.pt(h:PW X e t):PT X e t:=h _
def PA(X:Cx)(es:List Expr)(t:TA):Prop:=
 ∀ pos pins s (σ:St) H (Q:List V->Hp->Prop),Inv X pins σ H s->t σ H Q->wpAny (model X.prog X.w) X.A (spliced<|backTo pos<|starEach es X.env) (AP X pins σ Q) X.xe s
def PS(X:Cx)(st:Stmt)(t:TS):Prop:=
 ∀ pins s (σ:St) H D,Inv X pins σ H s->t D σ H->wpAny (model X.prog X.w) X.A (exec st X.env) (SP X pins D) X.xe s
def PSs(X:Cx)(st:List Stmt)(t:TS):Prop:=
 ∀ pins s (σ:St) H D,Inv X pins σ H s->t D σ H->wpAny (model X.prog X.w) X.A (execs st X.env) (SP X pins D) X.xe s
def thn(h:wpAny M A t Q E s)(b:∀ a s,Q a s->Q' a s):wpAny M A t Q' E s:=wpAny_mono h b λ_ _ x=>x
section
variable {X:Cx}
def jU(i:Nat):TE:=λσ H Q=>∃ v,σ[i]?=some (some v)/\Q v H
def tC(v:V):TE:=λ_ H Q=>Q v H
abbrev Nd(x:Str):Prop:=(x==("__debug__" : Str))=false
def jhg(k:X.N[i]?=some x)(n:Vis X.env.scope x)(hd:Nd x:=by decide)(g:(x==("__classdict__" : Str))=false:=by decide):PE X (.Name x pos) (jU i):=by
 intro f s σ H Q I h;obtain⟨v,e,h⟩:=h;obtain⟨m,o,p⟩:=I.loc;obtain⟨u,r,l⟩:=p i x v k e n;have b:EP X f σ Q u s:=⟨v,H,I,r,h⟩;rcases l with⟨d,q⟩ | ⟨d,c,j,a⟩
 ·exact wpAny_Name (wpAny_loadName_local I.ok.kind d o q b) hd
 ·rcases d with d | d
  ·exact wpAny_Name (wpAny_loadName_cell I.ok.kind d j a b) hd
  ·exact wpAny_Name (wpAny_loadName_free I.ok.kind d j a b g) hd
def jgJ{i j pos}:PE X (.Constant (.int i) j pos) (tC<|.int i):=λ_ _ _ H _ I h=>wpAny_Constant_int ⟨.int i,H,I.tok _,⟨_,rfl⟩,h⟩
def jph{b j pos}:PE X (.Constant (.bool b) j pos) (tC<|.bl b):=λ_ _ _ H _ I h=>Constant_bool ⟨.bl b,H,I,rfl,h⟩
def jkO{j pos}:PE X (.Constant .none j pos) (tC .non):=λ_ _ _ H _ I h=>Constant_none ⟨.non,H,I,rfl,h⟩
def jl3{x j pos}:PE X (.Constant (.str x) j pos) (tC<|.str x):=λ_ _ _ H _ I h=>Calls.Constant_str ⟨.str x,H,I.tok _,⟨_,rfl⟩,h⟩
def Gl(X:Cx)(x:Str):Prop:=X.env.kindOf x=some .globalImplicit
def KJ(I:Inv X pins σ H s)(a:Gl X x)(b:X.mg x=some u)(h:Q u s)
  (hd:Nd x:=by decide):wpAny (model X.prog X.w) X.A (eval (.Name x pos) X.env) Q E s:=
 Calls.Name_function_global I.ok.kind a (Calls.loadGlobal_global (by rw[I.ok.glob];exact I.mod.glob.keeps I.bk) b h) hd
def JN(I:Inv X pins σ H s)(a:Gl X x)(b:X.mg x=none)(c:bootBuiltins x=some u)(h:Q u s)
  (d:x≠"__name__":=by decide) (hd:Nd x:=by decide):wpAny (model X.prog X.w) X.A (eval (.Name x pos) X.env) Q E s:=by
 obtain⟨g,e,f⟩:=I.mod.blt;exact Calls.Name_function_global I.ok.kind a (Calls.loadGlobal_builtin (by rw[I.ok.glob];exact I.mod.glob.keeps I.bk) b (by rw[I.ok.blt];exact e.keeps I.bk) ((f x d).trans c) h) hd
def jiK(a:Gl X x)(b:X.mg x=some u)(r:RelV v u)(hd:Nd x:=by decide):PE X (.Name x pos) (tC v):=
 λ_ _ _ H _ I h=>KJ I a b ⟨v,H,I,r,h⟩ hd
def jhw(a:Gl X x)(b:X.mg x=none)(c:bootBuiltins x=some u)(r:RelV v u)(d:x≠"__name__":=by decide)(hd:Nd x:=by decide):PE X (.Name x pos) (tC v):=
 λ_ _ _ H _ I h=>JN I a b c ⟨v,H,I,r,h⟩ d hd
variable {a b:Expr}{ta tb:TE}{pos:Pos}
def PC(X:Cx)(op:CmpOp)(a b:Expr)(t:TE):Prop:=
 ∀ pins s (σ:St) H Q,Inv X pins σ H s->t σ H Q ->
  wpAny (model X.prog X.w) X.A (eval a X.env) (λv s₁=>wpAny (model X.prog X.w) X.A (eval b X.env) (λu s₂=>wpAny (model X.prog X.w) X.A (compareOp op v u) (EP X pins σ Q) X.xe s₂) X.xe s₁) X.xe s
def jfv(b)  (h:op≠.In) (h2:op≠.NotIn):behindInMarks op b=false:=by
 have a:(op==CmpOp.In)=false:=by cases op<;>first | rfl | exact absurd rfl h
 have e2:(op==CmpOp.NotIn)=false:=by cases op<;>first | rfl | exact absurd rfl h2
 cases b<;>simp[behindInMarks,a,e2]
def tB(t:TE):TT:=λσ H Q=>t σ H λx H1=>∃ c,x=.bl c/\Q c H1
def jnm(h:PC X op a b t)(h1:behindInMarks op b=false:=by first | exact jfv _ (by decide) (by decide) | rfl):PE X (.Compare a [op] [b] pos) t:=λc s σ H Q I d=>wpAny_Compare1 (h c s σ H Q I d) h1
def jmn(h:PE X e t)(b:∀ whole,isTrue e X.env whole=(do let v <- whole;standAt e.pos;holding [v] (truthy v)):=by intro _;rfl):PT X e (tB t):=by
 intro a s σ H Q I c;refine isTrue_plain (thn (h a s σ H _ I c) λv s1 ⟨x,f,g,r1,i⟩=>?_)<|b _;obtain⟨d,rfl,q⟩:=i;cases r1;exact wpAny_truthy_bool ⟨f,g,q⟩
variable {tA tB':TT}{J7:List Expr}
def jnk(t u:TT):TT:=λσ H Q=>t σ H λc H1=>if c=true then u σ H1 Q else Q false H1
def tOr(t u:TT):TT:=λσ H Q=>t σ H λc H1=>if c=true then Q true H1 else u σ H1 Q
def jo1(t:TT):TT:=λσ H Q=>t σ H λc H1=>Q (!c) H1
def jb1(d:PT X a tA):PW X (.BoolOp .And [a] pos) tA:=by
 intro f b s σ H Q I h;refine isTrue_and<|thn (d b s σ H Q I h) λc s1 e=>?_;cases c with
 | true=>exact isTrue_and_nil e
 | false=>exact e
def jhl(d:PT X a tA):PW X (.BoolOp .Or [a] pos) tA:=by
 intro f b s σ H Q I h;refine isTrue_or<|thn (d b s σ H Q I h) λc s1 e=>?_;cases c with
 | false=>exact isTrue_or_nil e
 | true=>exact e
def jgC(i:PT X a tA)(hb:PW X (.BoolOp .And (b::J7) pos) tB'):PW X (.BoolOp .And (a::b::J7) pos) (jnk tA tB'):=by
 intro j d s σ H Q I h;refine isTrue_and<|thn (i d s σ H _ I h) λc s1 ⟨e,f,g⟩=>?_;cases c with
 | true=>exact hb j d s1 σ e Q f g
 | false=>exact⟨e,f,g⟩
def jnu(i:PT X a tA)(hb:PW X (.BoolOp .Or (b::J7) pos) tB'):PW X (.BoolOp .Or (a::b::J7) pos) (tOr tA tB'):=by
 intro j d s σ H Q I h;refine isTrue_or<|thn (i d s σ H _ I h) λc s1 ⟨e,f,g⟩=>?_;cases c with
 | true=>exact⟨e,f,g⟩
 | false=>exact hb j d s1 σ e Q f g
def jnn(d:PT X a tA):PT X (.UnaryOp .Not a pos) (jo1 tA):=by
 intro b s σ H Q I h;exact isTrue_not<|d b s σ H (λc e=>Q (!c) e) I h
def jjU(ta tb:TE):TE:=λσ H Q=>ta σ H λx H1=>∃ c,x=.bl c/\if c=true then tb σ H1 Q else Q (.bl false) H1
def jiN(ta:TE):TE:=λσ H Q=>ta σ H λx H1=>∃ c,x=.bl c/\Q (.bl<|!c) H1
def jlX{c}(h:PE X a t):PE X (.BoolOp c [a] pos) t:=λb s σ H Q I d=>BoolOp_one<|h b s σ H Q I d
def jma(i:PE X a ta)(hb:PE X (.BoolOp .And (b::J7) pos) tb):PE X (.BoolOp .And (a::b::J7) pos) (jjU ta tb):=by
 intro d s σ H Q I h;refine BoolOp_and<|thn (i d s σ H _ I h) λv s1 j=>?_;obtain⟨x,f,g,r1,e⟩:=j;obtain⟨c,rfl,e⟩:=e;cases r1;refine wpAny_truthy_bool ?_;cases c with
 | true=>exact hb d s1 σ f Q g e
 | false=>exact⟨.bl false,f,g,rfl,e⟩
def jl8(e:PE X a ta):PE X (.UnaryOp .Not a pos) (jiN ta):=by
 intro b s σ H Q I h;refine UnaryOp_<|thn (e b s σ H _ I h) λv s1 f=>?_;obtain⟨x,g,i,r1,d⟩:=f;obtain⟨c,rfl,d⟩:=d;cases r1;exact not_of<|wpAny_truthy_bool ⟨.bl<|!c,g,i,rfl,d⟩
def tIf(t:TT)(ta tb:TE):TE:=λσ H Q=>t σ H λc H1=>if c=true then ta σ H1 Q else tb σ H1 Q
def jgt(j:PT X c tA)(k:PE X a ta)(hb:PE X b tb):PE X (.IfExp c a b pos) (tIf tA ta tb):=by
 intro e s σ H Q I h;refine wpAny_IfExp<|thn (j e s σ H _ I h) λd s1 ⟨f,g,i⟩=>?_;cases d with
 | true=>exact k e s1 σ f Q g i
 | false=>exact hb e s1 σ f Q g i
end
def SqL(K:W4)(H:Hp)(a:Addr)(xs:List V):Prop:=
 Rd H a (.lst xs) \/
  ∃ o its n,K.lookup a=some o/\o.cls=.type "list"/\o.dict=none/\o.data=.seq its n/\its.size<=sizeLine/\Vals xs its.toList
def SqT(K:W4)(H:Hp)(a:Addr)(xs:List V):Prop:=
 Rd H a (.tup xs) \/
  ∃ o its n,K.lookup a=some o/\o.cls=.type "tuple"/\o.data=.seq its n/\its.size<=sizeLine/\Vals xs its.toList
noncomputable def jqz:Value->Option V
 | .none=>some .non
 | .bool b=>some<|.bl b
 | .int i _=>some<|.int i
 | .str x _=>some<|.str x
 | .bytes b _=>some<|.byt b
 | .float b _=>some<|.flt b
 | .ref a=>some<|.ref a
 | .type n=>some<|.ty n
 | _=>none
def RelV.abs(r:RelV x u):jqz u=some x:=by
 cases x with
 | non=>cases r;rfl
 | bl _=>cases r;rfl
 | int _=>obtain⟨t,rfl⟩:=r;rfl
 | str _=>obtain⟨t,rfl⟩:=r;rfl
 | byt _=>obtain⟨t,rfl⟩:=r;rfl
 | flt _=>obtain⟨t,rfl⟩:=r;rfl
 | ref _=>cases r;rfl
 | ty _=>cases r;rfl
def RelV.inj(r:RelV x u)(q:RelV y u):x=y:=X7<|r.abs.symm.trans q.abs
theorem Vals.inj:∀{xs ys}{us},Vals xs us->Vals ys us->xs=ys
 | _,_,_,.nil,.nil=>rfl
 | _,_,_,.cons r t,.cons a b=>by rw[r.inj a,Vals.inj t b]
section
variable {X:Cx}{pins:List (Addr×Obj)}{σ:St}{H:Hp}{s:Shared}{a:Addr}{xs ys:List V}
def SqL.of{K}(h:H a=some (.lst xs)):SqL K H a xs:=.inl<|.inl h
def SqT.of{K}(h:H a=some (.tup xs)):SqT K H a xs:=.inl<|.inl h
def Inv.list(I:Inv X pins σ H s)(h:SqL X.K H a xs):∃(its:List Value),An3 (Vals xs its) (PlainL s.heap a its.toArray) (xs.length<=sizeLine):=by
 rcases h with h | ⟨o,its,n,b,c,hd,d,f,r⟩
 ·obtain⟨z,its,n,r,e⟩:=h.ok I.hok;exact⟨its,r,⟨_,n,e,rfl,rfl,rfl⟩,z⟩
 ·refine⟨its.toList,r,⟨o,n,I.kIn a o b,c,hd,by simpa using d⟩,?_⟩;have e:=r.length;simp only[Array.length_toList] at e
  lia
def Inv.tuple(I:Inv X pins σ H s)(h:SqT X.K H a xs):∃(its:List Value),An3 (Vals xs its) (IsTup s.heap a its.toArray) (xs.length<=sizeLine):=by
 rcases h with h | ⟨o,its,n,b,c,d,f,r⟩
 ·obtain⟨z,its,r,p⟩:=h.ok I.hok;exact⟨its,r,p.1,z⟩
 ·refine⟨its.toList,r,⟨o,I.kIn a o b,c,n,by simpa using d⟩,?_⟩;have e:=r.length;simp only[Array.length_toList] at e
  lia
def Inv.list_inj(I:Inv X pins σ H s)(h:SqL X.K H a xs)(h':SqL X.K H a ys):xs=ys:=by
 obtain⟨c,r,⟨o,n,e,_,_,d⟩,_⟩:=I.list h;obtain⟨b,i,⟨j,k,f,_,_,g⟩,_⟩:=I.list h';rw[e] at f;cases f;rw[d] at g;injection g with d1 _;have:c=b:=by simpa using congrArg Array.toList d1
 subst this;exact r.inj i
def Inv.tuple_inj(I:Inv X pins σ H s)(h:SqT X.K H a xs)(h':SqT X.K H a ys):xs=ys:=by
 obtain⟨c,r,⟨o,e,_,n,d⟩,_⟩:=I.tuple h;obtain⟨b,i,⟨j,f,_,k,g⟩,_⟩:=I.tuple h';rw[e] at f;cases f;rw[d] at g;injection g with d1 _;have:c=b:=by simpa using congrArg Array.toList d1
 subst this;exact r.inj i
end
noncomputable abbrev Cx.wish(X:Cx)(E:J0):Cx:={X with xe:=E}
noncomputable abbrev Cx.nox(X:Cx):Cx:=X.wish λ_ _=>False
def Cx.Ok.wish{X:Cx}(ok:X.Ok)(E):(X.wish E).Ok:=
 ⟨ok.mod,ok.kind,ok.glob,ok.blt,ok.above,ok.inj,ok.has,ok.cab,ok.hd,ok.frames,ok.stk,ok.exf,ok.bs,ok.bsz,ok.noex,ok.exfs,ok.funs,ok.frf⟩
def Cx.Ok.unwish{X:Cx}{E}(ok:(X.wish E).Ok):X.Ok:=
 ⟨ok.mod,ok.kind,ok.glob,ok.blt,ok.above,ok.inj,ok.has,ok.cab,ok.hd,ok.frames,ok.stk,ok.exf,ok.bs,ok.bsz,ok.noex,ok.exfs,ok.funs,ok.frf⟩
section
variable {X:Cx}{pins:List (Addr×Obj)}{σ:St}{H:Hp}{s:Shared}{E:J0}
def Inv.wish(I:Inv X pins σ H s)(E):Inv (X.wish E) pins σ H s:=⟨I.ok.wish E,I.os,I.bare,I.base,I.loc,I.cell,I.free,I.freeC,I.pin,I.hok,I.len⟩
def Inv.unwish(I:Inv (X.wish E) pins σ H s):Inv X pins σ H s:=⟨I.ok.unwish,I.os,I.bare,I.base,I.loc,I.cell,I.free,I.freeC,I.pin,I.hok,I.len⟩
def SP.unwish(h:SP (X.wish E) pins D f s'):SP X pins D f s':=by
 cases f with
 | next=>obtain⟨a,b,I,q⟩:=h;exact⟨a,b,I.unwish,q⟩
 | brk=>obtain⟨a,b,I,q⟩:=h;exact⟨a,b,I.unwish,q⟩
 | cont=>obtain⟨a,b,I,q⟩:=h;exact⟨a,b,I.unwish,q⟩
 | ret u=>obtain⟨v,a,b,I,r,q⟩:=h;exact⟨v,a,b,I.unwish,r,q⟩
def PSs.nox{st}{t}(h:PSs X.nox st t):PSs X st t:=λa s σ H D I b=>
 wpAny_mono (h a s σ H D (I.wish _) b) (λ_ _ q=>q.unwish) λ_ _ z=>False.elim z
end
section
variable {X:Cx}{st:Stmt}{J7:List Stmt}{t u:TS}{e:Expr}{te:TE}{pos:Pos}
def jhP:TS:=λD σ H=>D.nx σ H
def jov(t u:TS):TS:=λD σ H=>t {D with nx:=u D} σ H
def jjL:PSs X [] jhP:=λ_ _ σ H _ I h=>wpAny_execs_nil ⟨σ,H,I,h⟩
def je6(h1:PS X st t)(h2:PSs X J7 u):PSs X (st::J7) (jov t u):=by
 intro a s σ H D I h;refine wpAny_execs_cons<|thn (h1 a s σ H {D with nx:=u D} I h) λf s1 q=>?_;cases f with
 | next=>
  obtain⟨b,c,d,q⟩:=q;exact h2 a s1 b c D d q
 | ret v=>exact q
 | brk=>exact q
 | cont=>exact q
def jhU(h1:PS X st t):PSs X [st] t:=by
 intro a s σ H D I h;refine wpAny_execs_cons<|thn (h1 a s σ H D I h) λf s1 q=>?_;cases f with
 | next=>exact wpAny_execs_nil q
 | ret v=>exact q
 | brk=>exact q
 | cont=>exact q
def Inv.quiet(I:Inv X pins σ H s):interactive X.env=false:=by simp[interactive,I.ok.kind]
def JV(te:TE):TS:=λD σ H=>te σ H λ_ H1=>D.nx σ H1
def Yw(b:PE X e te)(c:swapsWith e none pos.line X.env=pure false:=by rfl):PS X (.Expr e pos) (JV te):=by
 intro a s σ H D I h;exact wpAny_Expr_any (thn (b a s σ H _ I h) λv s1 ⟨x,d,f,r1,g⟩=>⟨σ,d,f,g⟩) I.quiet c
def jpv(te:TE):TS:=λD σ H=>te σ H D.rt
def jm9(b:PE X e te):PS X (.Return (some e) pos) (jpv te):=by
 intro a s σ H D I h;exact wpAny_Return_some<|thn (b a s σ H _ I h) λv s1 ⟨x,c,d,r1,f⟩=>⟨x,σ,c,d,r1,f⟩
def jnJ(c:TT)(t u:TS):TS:=λD σ H=>c σ H λb H1=>if b=true then t D σ H1 else u D σ H1
def jlS(j:PT X c tc)(k:PSs X a t)(hb:PSs X b u):PS X (.If c a b pos) (jnJ tc t u):=by
 intro e s σ H D I h;refine wpAny_If<|thn (j e s σ H _ I h) λd s1 ⟨f,g,i⟩=>?_;cases d with
 | true=>exact k e s1 σ f D g i
 | false=>exact hb e s1 σ f D g i
end
abbrev TG:=V->St->Hp->(St->Hp->Prop)->Prop
abbrev TGs:=List V->St->Hp->(St->Hp->Prop)->Prop
def PG(X:Cx)(target:Expr)(t:TG):Prop:=
 ∀ pins s (σ:St) H v u (Q:St->Hp->Prop),Inv X pins σ H s->RelV v u->t v σ H Q ->
  wpAny (model X.prog X.w) X.A (assign target X.env u) (λ_ s'=>∃ σ' H',Inv X pins σ' H' s'/\Q σ' H') X.xe s
def PGs(X:Cx)(ts:List Expr)(t:TGs):Prop:=
 ∀ pins s (σ:St) H vs us (Q:St->Hp->Prop),Inv X pins σ H s->Vals vs us->t vs σ H Q ->
  wpAny (model X.prog X.w) X.A (assignInOrder ((assignEach ts X.env).map (·.2)) us) (λ_ s'=>∃ σ' H',Inv X pins σ' H' s'/\Q σ' H') X.xe s
abbrev joc:=V->V->V->Hp->(Hp->Prop)->Prop
def joO(X:Cx)(t:joc):Prop:=
 ∀ pins s (σ:St) H o i v ov iv u Q,Inv X pins σ H s->RelV o ov->RelV i iv->RelV v u->t o i v H Q ->
  wpAny (model X.prog X.w) X.A (setItem ov iv u) (λ_ s'=>∃ H',Inv X pins σ H' s'/\Q H') X.xe s
abbrev TIp:=V->V->Hp->VK->Prop
def PIp(X:Cx)(op:Operator)(t:TIp):Prop:=
 ∀ pins s (σ:St) H x y v u Q,Inv X pins σ H s->RelV x v->RelV y u->t x y H Q ->
  wpAny (model X.prog X.w) X.A (inplaceOp op v u) (EP X pins σ Q) X.xe s
section
variable {X:Cx}{pos:Pos}
def vX(i:Nat):TG:=λv σ H Q=>Q (σ.set i<|some v) H
def jbw(b:X.N.Nodup)(hi:X.N[i]?=some x)(c:Loc X.env.scope x)(d:X.fn x=true\/X.env.scope.names.lookup x=some .local:=by first | exact .inl rfl | exact .inr rfl | assumption):PG X (.Name x pos) (vX i):=by
 intro a s σ H v u Q I r h;exact wpAny_assign_Name<|YU I b hi c r (λf e=>⟨_,H,e,h⟩) d
def je8:TGs:=λvs σ H Q=>vs=[]/\Q σ H
def JA(t:TG)(u:TGs):TGs:=λvs σ H Q=>∃ v r,vs=v::r/\t v σ H λσ' H'=>u r σ' H' Q
def jit:PGs X [] je8:=by
 intro a s σ H vs b Q I r h;obtain⟨e,h⟩:=h;subst e;cases r;exact assignInOrder_nil ⟨σ,H,I,h⟩
def jeA(h1:PG X e t)(h2:PGs X es u)
  (b:(assignEach (e::es) X.env).map (·.2)=assign e X.env::(assignEach es X.env).map (·.2):=by rfl):PGs X (e::es) (JA t u):=by
 intro a s σ H vs l Q I r h;obtain⟨v,m,c,h⟩:=h;subst c;cases r with
 | cons r d=>
  rw[b];refine assignInOrder_cons<|thn (h1 a s σ H _ _ _ I r h) λ_ s1 f=>?_;obtain⟨g,i,j,k⟩:=f;exact h2 a s1 g i _ _ Q j d k
def jeq(K:W4)(n:Nat)(t:TGs):TG:=λv σ H Q=>∃ a xs,v=.ref a/\SqT K H a xs/\xs.length=n/\t xs σ H Q
def jmH(i:X.calm=true)(h:PGs X es t)
  (j:(assignEach es X.env).length=n:=by rfl) (d:(assignEach es X.env).findIdx? (·.1)=none:=by rfl):PG X (.Tuple es k pos) (jeq X.K n t):=by
 intro c s σ H v u Q I r f;obtain⟨a,l,m,p,q,f⟩:=f;subst m;cases r;obtain⟨w,g,x,B⟩:=I.tuple p;refine assign_Tuple_tuple (I.ok.hd i) x (by simp[j,<- q,g.length]) d λy z=>?_;have A:Inv X c σ H {s with heap:=y}:=I.kept λb o e=>z b o (N7<|N2 e) e;exact h c _ σ H l _ Q A ⇑g f
def jn3(to ti:TE)(t:joc):TG:=λv σ H Q=>to σ H λo H1=>ti σ H1 λi H2=>t o i v H2 λH3=>Q σ H3
def jlr(c:PE X o to)(hi:PE X i ti)(d:joO X t)
  (q:∀ v,assign (.Subscript o i pos) X.env v=(do
   let ov <- holding [v] (eval o X.env)
   let iv <- holding [v,ov] (eval i X.env)
   standAt pos
   holding [v,ov,iv] (setItem ov iv v)
   release [v,ov,iv] []):=by intro _;rfl):PG X (.Subscript o i pos) (jn3 to ti t):=by
 intro a s σ H v u Q I r h;refine L3<|wpAny_holding<|thn (c a s σ H _ I h) λov s1 b=>?_;obtain⟨x,e,f,r1,g⟩:=b;refine L3<|wpAny_holding<|thn (hi a s1 σ e _ f g) λiv s2 b=>?_;obtain⟨y,j,k,r2,l⟩:=b;exact L3<|wpAny_standAt<|L3<|wpAny_holding<|thn (d a s2 σ j x y v ov iv u _ k r1 r2 r l) λ_ w ⟨m,n,p⟩=>(wpAny_release ⟨σ,m,n,p⟩)
def jhh(te:TE)(g:TG):TS:=λD σ H=>te σ H λx H1=>g x σ H1 D.nx
def jmx(b:PE X e te)(c:PG X tg g)(d:swapsWithSole [tg] e pos.line X.env=pure false:=by rfl)(f:swappedStores [tg] e X.env=pure none:=by rfl)
  (h1:(assignEach [tg] X.env).map (·.2)=[assign tg X.env]:=by rfl):PS X (.Assign [tg] e pos) (jhh te g):=by
 intro a s σ H D I h;refine wpAny_Assign_stores (thn (b a s σ H _ I h) λv s1 i=>?_) d f;obtain⟨x,j,k,r1,l⟩:=i;rw[h1];exact thn (c a s1 σ j x v _ k r1 l) λ_ s2 q=>q
def jmS(b:X.N.Nodup)(hi:X.N[i]?=some x)(c:Loc X.env.scope x)(d:PE X e te)(f:swapsWith e (some<|.Name x pos') pos.line X.env=pure false:=by rfl)(g:X.fn x=true\/X.env.scope.names.lookup x=some .local:=by first | exact .inl rfl | exact .inr rfl | assumption):
  PS X (.Assign [.Name x pos'] e pos) (jhh te<|vX i):=by
 intro a s σ H D I h;refine wpAny_Assign_Name (thn (d a s σ H _ I h) λv s1 j=>?_) f;obtain⟨y,k,l,r1,m⟩:=j;exact YU l b hi c r1 (λs2 n=>⟨_,k,n,m⟩) g
def joz(i:Nat)(te:TE)(ti:TIp):TS:=λD σ H=>∃ x,σ[i]?=some (some x)/\te σ H λy H1=>ti x y H1 λz H2=>D.nx (σ.set i<|some z) H2
def jlo(n:X.N.Nodup)(hi:X.N[i]?=some x)(f:Loc X.env.scope x)(o:PE X e te)(p:PIp X op ti)(q:X.fn x=true\/X.env.scope.names.lookup x=some .local:=by first | exact .inl rfl | exact .inr rfl | assumption):
  PS X (.AugAssign (.Name x pos') op e pos) (joz i te ti):=by
 intro a s σ H D I h;obtain⟨v,t,h⟩:=h;obtain⟨m,B,C⟩:=I.loc;have g:Vis X.env.scope x:=by rcases f with k | k;exact .inl k;exact .inr<|.inl k
 obtain⟨u,r,l⟩:=C i x v hi t g;refine wpAny_AugAssign_Name ?_;have go:wpAny (model X.prog X.w) X.A (eval e X.env) (λw E=>wpAny (model X.prog X.w) X.A (inplaceOp op u w) (λr F=>wpAny (model X.prog X.w) X.A (storeName X.env x r) (λ_=>SP X a D .next) X.xe F) X.xe E) X.xe s:=by
  refine thn (o a s σ H _ I h) λw s1 j=>?_;obtain⟨y,G,J,r1,K⟩:=j;refine thn (p a s1 σ G v y u w _ J r r1 K) λz s2 j=>?_;obtain⟨S,L,M,r2,O⟩:=j;exact YU M n hi f r2 (λT P=>⟨_,L,P,O⟩) q
 rcases l with⟨b,Q⟩ | ⟨b,c,R,d⟩
 ·exact wpAny_loadName_local I.ok.kind b B Q go
 ·rcases b with b | b
  ·exact wpAny_loadName_cell I.ok.kind b R d go
  ·rcases f with k | k
   ·have:X.env.scope.names.lookup x=some .free:=b;rw[k] at this;cases this
   ·have:X.env.scope.names.lookup x=some .free:=b;rw[k] at this;cases this
def jju(to ti te:TE)(tget:V->V->Hp->VK->Prop)(tip:TIp)(tset:joc):TS:=λD σ H=>to σ H λo H1=>ti σ H1 λi H2=>tget o i H2 λx H3=>te σ H3 λy H4=>tip x y H4 λz H5=>tset o i z H5 λH6=>D.nx σ H6
def jpI(X:Cx)(t:V->V->Hp->VK->Prop):Prop:=
 ∀ pins s (σ:St) H o i ov iv Q,Inv X pins σ H s->RelV o ov->RelV i iv->t o i H Q ->
  wpAny (model X.prog X.w) X.A (getItem ov iv) (EP X pins σ Q) X.xe s
def jil(g:PE X o to)(hi:PE X i ti)(j:jpI X tget)(k:PE X e te)(l:PIp X op tip)(m:joO X tset)
  (n:∀ ov iv new,augStore i ov iv new=(do holding [new,ov,iv] (setItem ov iv new);release [new,ov,iv] [];pure .next):=by intros;rfl):PS X (.AugAssign (.Subscript o i tpos) op e pos) (jju to ti te tget tip tset):=by
 intro a s σ H D I h;refine wpAny_AugAssign_SubscriptAny (thn (g a s σ H _ I h) λov s1 b=>?_) n;obtain⟨d,p,q,r1,r⟩:=b;refine thn (hi a s1 σ p _ q r) λiv s2 b=>?_;obtain⟨f,t,u,r2,w⟩:=b;refine thn (j a s2 σ t d f ov iv _ u r1 r2 w) λc x b=>?_;obtain⟨y,z,A,B,C⟩:=b;refine thn (k a x σ z _ A C) λv E b=>?_;obtain⟨F,G,J,K,L⟩:=b;refine thn (l a E σ G y F c v _ J B K L) λnew M b=>?_;obtain⟨N,O,P,Q,R⟩:=b;exact thn (m a M σ O d f N ov iv new _ P r1 r2 Q R) λ_ V ⟨S,T,U⟩=>⟨σ,S,T,U⟩
def ipI(f:Int->Int->Int):TIp:=λx y H Q=>∃ i j,x=.int i/\y=.int j/\Q (.int<|f i j) H
def jlB:PIp X .Add (ipI λi j=>i+j):=by
 intro a s σ H x y v u Q I r1 r2 h;obtain⟨i,j,b,e2,q⟩:=h;subst b;subst e2;obtain⟨t,rfl⟩:=r1;obtain⟨c,rfl⟩:=r2;exact iadd_int ⟨.int _,H,I.tok _,⟨_,rfl⟩,q⟩
def jmf:PIp X .Sub (ipI λi j=>i-j):=by
 intro a s σ H x y v u Q I r1 r2 h;obtain⟨i,j,b,e2,q⟩:=h;subst b;subst e2;obtain⟨t,rfl⟩:=r1;obtain⟨c,rfl⟩:=r2;exact isub_int ⟨.int _,H,I.tok _,⟨_,rfl⟩,q⟩
end
structure It where
 go:Nat->Hp->Prop
 yld:Nat->Hp->V->Hp->Prop
 stop:Nat->Hp->Prop
def uy(X:Cx)(pins:W0)(H:Hp)(b:Addr):Prop:=
 H b=none/\b≠X.env.locals/\b∉X.fs/\(b∈X.ex\/X.s₀.heap.objs.size<=b)/\(∀ x c,X.env.cells.lookup x=some c->c≠b)/\∀ p∈X.pn++pins,p.1≠b
def Inv.fpOk(I:Inv X pins σ H s)(hb:↥s<=b)(a:H' b=none):uy X pins H' b:=by
 refine⟨a,Nat.ne_of_gt<|U5 I.lt hb,I.nofs hb,.inr<|N8 I.sz hb,λx c e z=>?_,λp d z=>?_⟩
 ·obtain⟨v,q⟩:=I.cell x c e;exact absurd (U5 q.lt<|by rw[z];exact hb)<|Nat.lt_irrefl _
 ·exact absurd (U5 (N2 (I.pin p d).1)<|by rw[z];exact hb)<|Nat.lt_irrefl _
structure Turn(P:Program)(w:World)(K:W4)(tg:Expr)(J:It)(fp:W5)(it:Addr)(tn:Nat->Heap->Prop):Prop where
 mem:it∈fp
 obj:∀ i h,tn i h->∀ b∈fp,∃ o,h.get? b=some o/\∀ v,o.data≠.cell v
 keep:∀ i h h',tn i h->(∀ b∈fp,∀ o,h.get? b=some o->h'.get? b=some o)->tn i h'
 item:∀(X:Cx),X.prog=P->X.w=w->X.K=K->X.calm=true->∀(i:Nat) (pins:W0) (s:Shared) (σ:St) (H:Hp) (E:J0),Inv X pins σ H s->(∀ b∈fp,uy X pins H b)->tn i s.heap->J.go i H ->
  wpAny (model P w) X.A (pyNext<|.ref it) (λr s1=>∃ u,r=some u /\
   wpAny (model P w) X.A (letOwnedTupleGo tg (.ref it) u) (λ_ s2=>∃ x H',Inv X pins σ H' s2/\RelV x u/\J.yld i H x H'/\tn (i+1) s2.heap/\∀ b∈fp,H' b=none) E s1) E s
 done:∀(X:Cx),X.prog=P->X.w=w->X.K=K->X.calm=true->∀(i:Nat) (pins:W0) (s:Shared) (σ:St) (H:Hp) (E:J0),Inv X pins σ H s->(∀ b∈fp,uy X pins H b)->tn i s.heap->J.stop i H ->
  wpAny (model P w) X.A (pyNext<|.ref it) (λr s1=>r=none/\Inv X pins σ H s1) E s
 self:∀(A:Around) (i:Nat) (s:Shared) (Q:J0) (E:J0),tn i s.heap->Q (.ref it) s->wpAny (model P w) A (pyIter<|.ref it) Q E s
abbrev TI:=St->Hp->(It->Hp->Prop)->Prop
def PIE(X:Cx)(pins:W0)(σ:St)(tg:Expr)(R:It->Hp->Prop)(itv:Value)(s2:Shared):Prop:=
 ∃(it:Addr) (fp:W5) (tn:Nat->Heap->Prop) (J:It) (H':Hp),itv=.ref it/\Inv X pins σ H' s2/\Turn X.prog X.w X.K tg J fp it tn/\tn 0 s2.heap/\(∀ b∈fp,uy X pins H' b)/\R J H'
def PI(X:Cx)(tg iter:Expr)(wi:TI):Prop:=
 ∀ pins s (σ:St) H (R:It->Hp->Prop),Inv X pins σ H s->wi σ H R ->
  wpAny (model X.prog X.w) X.A (eval iter X.env) (λv s1=>wpAny (model X.prog X.w) X.A (pyIter v) (PIE X pins σ tg R) X.xe s1) X.xe s
def jex(b:s.heap.get? it=some o)(c:o.cls=.type n)(hd:o.data=.fields vs)
  (d:["enumerate","zip","dict_itemiterator","dict_reverseitemiterator","odict_iterator","itertools.zip_longest","itertools.pairwise"].contains n=false) (a:Q () s):wpAny M A (letOwnedTupleGo tg (.ref it) u) Q E s:=by
 cases tg<;>first
  | exact M8 a
  | (cases u<;>first
    | exact M8 a
    | (refine L3 (wpAny_load b ?_)
       rw[c,hd];show wpAny M A (if(["enumerate","zip","dict_itemiterator","dict_reverseitemiterator","odict_iterator","itertools.zip_longest","itertools.pairwise"].contains n&&vs[0]?==some (rawInt _))=true then _ else _) Q E s;rw[if_neg<|by intro h;rw[d,Bool.false_and] at h;cases h];exact M8 a))
noncomputable def Itl(K:W4)(a:Addr):It:=
 ⟨λi H=>∃ xs x,SqL K H a xs/\xs[i]?=some x,λi H x H'=>H'=H/\∀ xs,SqL K H a xs->xs[i]?=some x,λi H=>∃ xs,SqL K H a xs/\xs.length<=i⟩
noncomputable def Itt(K:W4)(a:Addr):It:=
 ⟨λi H=>∃ xs x,SqT K H a xs/\xs[i]?=some x,λi H x H'=>H'=H/\∀ xs,SqT K H a xs->xs[i]?=some x,λi H=>∃ xs,SqT K H a xs/\xs.length<=i⟩
noncomputable def Itr(lo:Int)(n:Nat):It:=⟨λi _=>i<n,λi H x H'=>H'=H/\x=.int (lo+i),λi _=>n<=i⟩
def jdz{P}{w}{K}{tg}(a j):Turn P w K tg (Itl K a) [j] j (λi h=>h.IsListIter j a i) where
 mem:=by simp
 obj:=λi h f b hb=>by
  have e:b=j:=by simpa using hb
  subst e;obtain⟨o,e,c,d⟩:=f;exact⟨o,e,λv z=>by rw[d] at z;cases z⟩
 keep:=λi h q f k=>f.at (k j<|by simp)
 item:=by
  intro X r t y N i g s σ H E I m f A;subst r t y;obtain⟨O,x,n,B⟩:=A;obtain⟨C,D,p,Q⟩:=I.list n;obtain⟨u,R,S⟩:=D.get B;obtain⟨F,G,T,J,L,M⟩:=m j (by simp);refine wpAny_pyNext_list_item f p.isList ⇑R λq l U=>?_;have V:Inv X g σ H {s with heap:=q}:=I.turned (λb o hb e=>(U.2 b hb).trans e) F G J L M;obtain⟨o,e,c,d⟩:=id l;exact⟨u,rfl,jex e c d (by decide) ⟨x,H,V,S,⟨rfl,λZ W=>by rw[I.list_inj W n];exact B⟩,l,λb hb=>(m b hb).1⟩⟩
 done:=by
  intro X r t y N i g s σ H E I m f A;subst r t y;obtain⟨O,n,B⟩:=A;obtain⟨C,D,p,Q⟩:=I.list n;obtain⟨F,G,T,J,L,M⟩:=m j (by simp);have hl:=D.length;exact wpAny_pyNext_list_end (I.ok.hd N) f p.isList (by simp;lia) λq Y=>⟨rfl,I.turned (Y) F G J L M⟩
 self:=λ_ _ _ _ _ f h=>wpAny_pyIter_listiter f h
def ja4{P}{w}{K}{tg}(a j):Turn P w K tg (Itt K a) [j] j (λi h=>h.IsTupleIter j a i) where
 mem:=by simp
 obj:=λi h f b hb=>by
  have e:b=j:=by simpa using hb
  subst e;obtain⟨o,e,c,d⟩:=f;exact⟨o,e,λv z=>by rw[d] at z;cases z⟩
 keep:=λi h q f k=>f.at (k j<|by simp)
 item:=by
  intro X r t y N i g s σ H E I m f A;subst r t y;obtain⟨O,x,n,B⟩:=A;obtain⟨C,D,p,Q⟩:=I.tuple n;obtain⟨u,R,S⟩:=D.get B;obtain⟨F,G,T,J,L,M⟩:=m j (by simp);refine wpAny_pyNext_tuple_item f (p) ⇑R λq l U=>?_;have V:Inv X g σ H {s with heap:=q}:=I.turned (λb o hb e=>(U.2 b hb).trans e) F G J L M;obtain⟨o,e,c,d⟩:=id l;exact⟨u,rfl,jex e c d (by decide) ⟨x,H,V,S,⟨rfl,λZ W=>by rw[I.tuple_inj W n];exact B⟩,l,λb hb=>(m b hb).1⟩⟩
 done:=by
  intro X r t y N i g s σ H E I m f A;subst r t y;obtain⟨O,n,B⟩:=A;obtain⟨C,D,p,Q⟩:=I.tuple n;obtain⟨F,G,T,J,L,M⟩:=m j (by simp);have hl:=D.length;exact wpAny_pyNext_tuple_end (I.ok.hd N) f (p) (by simp;lia) λq Y=>⟨rfl,I.turned (Y) F G J L M⟩
 self:=λ_ _ _ _ _ f h=>wpAny_pyIter_tupleiter f h
def jaP{P}{w}{K}{tg}(c)(lo)(n):Turn P w K tg (Itr lo n) [c] c (λi h=>IsRangeIter h c (lo+(i:Nat)*1) ((n:Int)-(i:Nat)) 1) where
 mem:=by simp
 obj:=λi h a b hb=>by
  have e:b=c:=by simpa using hb
  subst e;exact⟨_,a,λv z=>by
   cases z⟩
 keep:=λi h j a k=>k c (by simp) _ a
 item:=by
  intro X y A B l i d s σ H E I g a m;subst y A B;obtain⟨p,q,C,r,u,x⟩:=g c (by simp);refine(Walks.range (prog:=X.prog) (w:=X.w) (I.ok.hd l) c lo 1 n).item i s _ _ m a λv j D F f G=>?_;obtain⟨t,rfl⟩:=F;have J:Inv X d σ H {s with heap:=j,toks:=D}:=I.turned (λb o hb e=>G b o ⇑hb e) p q r u x;refine⟨_,rfl,jex f rfl rfl (by decide) ⟨.int<|lo+i,H,J,⟨t,?_⟩,⟨rfl,rfl⟩,f,λb hb=>(g b hb).1⟩⟩;rw[Int.mul_one]
 done:=by
  intro X y A B l i d s σ H E I g a m;obtain⟨p,q,C,r,u,x⟩:=g c (by simp);exact wpAny_pyNext_range_end (I.ok.hd l) a (by have:n<=i:=m;lia) λj L=>⟨rfl,I.turned (L) p q r u x⟩
 self:=λ_ _ _ _ _ a h=>wpAny_pyIter_rangeiter a h
section
variable {X:Cx}{tg:Expr}
def jgb{pins}{s}{R}{E}{lo hi}{c}(I:Inv X pins σ H s)(h1:-(2 ^ 62)<=lo)(h2:lo<2 ^ 62)(d:-(2 ^ 62)<=hi)(f:hi<2 ^ 62)
  (q:R (Itr lo (hi-lo).toNat) H):wpAny (model X.prog X.w) X.A (pyIter<|.ref ↥s) (PIE X pins σ tg R) E { s with heap:=s.heap.push {cls:=.type "range",data:=.fields #[.int lo t,.int hi u,.int 1 v]},toks:=c }:=by
 refine wpAny_pyIter_range (IsRange.new ..) (small_one h1 h2 d f) ?_;have a:Inv X pins σ H { s with heap:=s.heap.push {cls:=.type "range",data:=.fields #[.int lo t,.int hi u,.int 1 v]},toks:=c }:=I.kept λb o e=>L8 _ e;refine⟨(s.heap.push {cls:=.type "range",data:=.fields #[.int lo t,.int hi u,.int 1 v]}).objs.size,[(s.heap.push {cls:=.type "range",data:=.fields #[.int lo t,.int hi u,.int 1 v]}).objs.size],_,_,H,rfl,
  a.kept λb o e=>L8 _ e,jaP _ lo (hi-lo).toNat,?_,λb hb=>?_,q⟩
 ·have g:lo+((0:Nat):Int)*1=lo:=by simp
  have e2:(((hi-lo).toNat:Nat):Int)-((0:Nat):Int)=Builtin.Range.rangeSize lo hi 1:=by rw[rangeSize_one];split<;>lia
  rw[g,e2];exact E2 _ rfl
 ·have e:b=(s.heap.push {cls:=.type "range",data:=.fields #[.int lo t,.int hi u,.int 1 v]}).objs.size:=by simpa using hb
  subst e;exact a.fpOk (N0 _)<|a.hok.fresh<|N0 _
def jde(ta:TA):TI:=λσ H R=>ta σ H λvs H1=>∃ j:Int,vs=[.int j]/\-(2 ^ 62)<=j/\j<2 ^ 62/\R (Itr 0 j.toNat) H1
def Q4(d:Gl X "range")(f:X.mg "range" = none)(g:PA X [a] ta)(i:starEach [a] X.env=[(false,eval a X.env)]:=by rfl):PI X tg (.Call (.Name "range" p) [a] [] pos) (jde ta):=by
 intro b s σ H R I h;refine Call_<|JN I d f boot_range<|PyProof.Rows.callWith_type1 (thn (g pos b s σ H _ I h) λn s1 ⟨vs,o,k,r1,c⟩=>?_) i rfl;obtain⟨j,e,c,l,q⟩:=c;subst e;cases r1 with
 | cons r m=>
  cases m;obtain⟨t,rfl⟩:=r;exact call_range_1<|jgb k ∅ ∅ c l ⇑q
def jll(wi:TI)(g:TG)(tb:TS):TS:=λD σ H=>wi σ H λJ H1=>∃ W:Nat->Nat->St->Hp->Prop,(∃ m,W 0 m σ H1)/\∀ i m σ H,W i m σ H ->
 (J.stop i H/\D.nx σ H)\/(J.go i H/\∃ N:St->Hp->Prop,(∀ σ' H',N σ' H'->∃ m',m'<m/\W (i+1) m' σ' H')/\∀ x H',J.yld i H x H'->g x σ H' λσ2 H2=>tb {D with nx:=N,ct:=N,bk:=D.nx} σ2 H2)
noncomputable def Ky(fp:W5)(h:Heap):List (Addr×Obj):=fp.filterMap λb=>(h.get? b).map λo=>(b,o)
def kD(hb:b∈fp)(e:h.get? b=some o):(b,o)∈Ky fp h:=List.mem_filterMap.mpr ⟨b,hb,by rw[e];rfl⟩
def jbt(a:p∈Ky fp h):p.1∈fp/\h.get? p.1=some p.2:=by
 obtain⟨b,hb,e⟩:=List.mem_filterMap.mp a;cases q:h.get? b with
 | none=>rw[q] at e;cases e
 | some o=>
  rw[q] at e;have c:=X7 e;subst c;exact⟨hb,q⟩
def Inv.pinned(I:Inv X pins σ H s)(c:∀ b∈fp,uy X pins H b)(f:∀ b∈fp,∃ o,s.heap.get? b=some o/\∀ v,o.data≠.cell v):Inv X (pins++Ky fp s.heap) σ H s:=
 I.pins_of λp g=>(N3.mp g).elim (λz=>I.pin p<|U4 _ z) λz=>by
  obtain⟨hb,e⟩:=jbt z;obtain⟨h,i,j,_⟩:=c p.1 hb;obtain⟨o,a,d⟩:=f p.1 hb;rw[e] at a;cases a;exact⟨e,h,i,j,d⟩
def Inv.unpinned(I:Inv X (pins++pl) σ H s):Inv X pins σ H s:=I.pins_of λp a=>I.pin p<|U4 _<|List.mem_append_left _ a
def jhf(z:PassesOwn (model X.prog X.w) X.A X.env X.xe)(S:X.calm=true)(hi:PI X tg iter wi)(hg:PG X tg g)(hb:PSs X body tb)
  (hs:∀ x,foldedSetIterable iter X.env x=pure x:=by intro _;rfl):PS X (.For tg iter body [] pos) (jll wi g tb):=by
 intro a s σ H D I h;refine wpAny_For (thn (hi a s σ H _ I h) λv s1 h1=>thn h1 λitv s2 h2=>?_) hs;obtain⟨it,B,U,J,H2,e,I2,T,M,V,W,⟨m0,w0⟩,turn⟩:=h2;subst e;have c:∀{q},(∀ b∈B,q b=none)->∀ b∈B,uy X a q b:=λhn b hb=>⟨hn b hb,(V b hb).2⟩;refine codeAny_forLoop_any (λn Y=>∃ i C q,Inv X a C q Y/\U i Y.heap/\(∀ b∈B,q b=none)/\W i n C q) ?_ m0 ⟨0,σ,H2,I2,M,λb hb=>(V b hb).1,w0⟩;rintro n Z ⟨i,E,L,I3,F,G,w3⟩;rcases turn i n E L w3 with⟨stop,qn⟩ | ⟨go,N,hN,step⟩
 ·refine wpAny_passesOwn z<|thn (T.done X rfl rfl rfl S i a Z E L X.xe I3 (c G) F stop) λr s4 ⟨O,I4⟩=>?_;subst O;exact wpAny_execs_nil ⟨E,L,I4,qn⟩
 ·refine wpAny_passesOwn z<|thn (T.item X rfl rfl rfl S i a Z E L X.xe I3 (c G) F go) λr s4 ⟨u,O,h4⟩=>?_;subst O;refine wpAny_passesOwn z<|thn h4 λ_ s5 P=>?_;obtain⟨x,H5,I5,r5,y5,y,Q⟩:=P;refine wpAny_passesOwn z<|thn (hg _ s5 E H5 x u _ (I5.pinned (c Q)<|T.obj _ _ y) r5<|step x H5 y5) λ_ s6 P=>?_;obtain⟨σ6,H6,I6,q6⟩:=P;refine wpAny_passesOwn z<|thn (hb _ s6 σ6 H6 _ I6 q6) λf R t=>?_;have j:∀{k}{l},Inv X (a++Ky B s5.heap) k l R->N k l->∃ m,m<n/\∃ i C q,Inv X a C q R/\U i R.heap/\(∀ b∈B,q b=none)/\W i m C q:=λ{k l} p K=>by
   obtain⟨m',hm,w7⟩:=hN k l K;refine⟨m',hm,i+1,k,l,p.unpinned,T.keep _ _ _ y λb hb o e=>(p.pin (b,o)<|U4 _<|U4 _<|kD hb e).1,λb hb=>?_,w7⟩;obtain⟨o,e,d⟩:=T.obj _ _ y b hb;exact(p.pin (b,o)<|U4 _<|U4 _<|kD hb e).2.1
  cases f with
  | next=>obtain⟨k,l,p,K⟩:=t;exact j p K
  | cont=>obtain⟨k,l,p,K⟩:=t;exact j p K
  | brk=>obtain⟨k,l,p,t⟩:=t;exact⟨k,l,p.unpinned,t⟩
  | ret v=>obtain⟨x7,k,l,p,r7,t⟩:=t;exact⟨x7,k,l,p.unpinned,r7,t⟩
end
abbrev R2:=V->V->Hp->VK->Prop
def OpR(X:Cx)(f:Value->Value->Sem Value)(r:R2):Prop:=
 ∀ pins s (σ:St) H x y v u Q,Inv X pins σ H s->RelV x v->RelV y u->r x y H Q ->
  wpAny (model X.prog X.w) X.A (f v u) (EP X pins σ Q) X.xe s
def UnR(X:Cx)(f:Value->Sem Value)(r:V->Hp->VK->Prop):Prop:=
 ∀ pins s (σ:St) H x v Q,Inv X pins σ H s->RelV x v->r x H Q ->
  wpAny (model X.prog X.w) X.A (f v) (EP X pins σ Q) X.xe s
def qe(X:Cx)(f:Value)(r:List V->Hp->VK->Prop):Prop:=
 ∀ pins s (σ:St) H xs us Q,Inv X pins σ H s->Vals xs us->r xs H Q ->
  wpAny (model X.prog X.w) X.A (call f us) (EP X pins σ Q) X.xe s
def tOp(r:R2)(ta tb:TE):TE:=λσ H Q=>ta σ H λx H1=>tb σ H1 λy H2=>r x y H2 Q
def tUn(r:V->Hp->VK->Prop)(ta:TE):TE:=λσ H Q=>ta σ H λx H1=>r x H1 Q
def rI(C:Int->Int->Prop)(g:Int->Int->V):R2:=λx y H Q=>∃ i j,x=.int i/\y=.int j/\C i j/\Q (g i j) H
def rI0(g:Int->Int->V):R2:=λx y H Q=>∃ i j,x=.int i/\y=.int j/\Q (g i j) H
def rU(g:Int->V):V->Hp->VK->Prop:=λx H Q=>∃ i,x=.int i/\Q (g i) H
section
variable {X:Cx}{a b c:Expr}{ta tb tc:TE}{pos:Pos}
def jo8(d:PE X a ta)(hb:PE X b tb){pins}{s}{R:V->V->Hp->Prop}(I:Inv X pins σ H s)
  (h:ta σ H λx H1=>tb σ H1 λy H2=>R x y H2) {Q:J0}{f:Value->Value->Sem Value}
  (e:∀ v u s2 x y H2,Inv X pins σ H2 s2->RelV x v->RelV y u->R x y H2->wpAny (model X.prog X.w) X.A (f v u) Q X.xe s2):
  wpAny (model X.prog X.w) X.A (eval a X.env) (λv s₁=>wpAny (model X.prog X.w) X.A (eval b X.env) (λu s₂=>wpAny (model X.prog X.w) X.A (f v u) Q X.xe s₂) X.xe s₁) X.xe s:=by
 refine thn (d pins s σ H _ I h) λv s1 c=>?_;obtain⟨x,H1,g,r1,i⟩:=c;refine thn (hb pins s1 σ H1 _ g i) λu s2 c=>?_;obtain⟨y,H2,j,r2,k⟩:=c;exact e v u s2 x y H2 j r1 r2 k
def K2(d:OpR X (binaryOp op) r)(e:PE X a ta)(hb:PE X b tb):PE X (.BinOp a op b pos) (tOp r ta tb):=by
 intro c s σ H Q I h;exact wpAny_BinOp<|jo8 e hb I h λv u s2 x y f g i j q=>d c s2 σ f x y v u Q g i j q
def jo5(c:UnR X (unaryOp op) r)(d:PE X a ta):PE X (.UnaryOp op a pos) (tUn r ta):=by
 intro b s σ H Q I h;exact UnaryOp_<|thn (d b s σ H _ I h) λv s1 ⟨x,e,f,r1,g⟩=>c b s1 σ e x v Q f r1 g
def opI{f}{C}{g:Int->Int->Int}
  (a:∀ i j t u s (Q:J0) (E:J0),C i j->Q (.int (g i j) s.toks) {s with toks:=s.toks+1}->wpAny (model X.prog X.w) X.A (f (.int i t)<|.int j u) Q E s):
  OpR X f (rI C λi j=>.int<|g i j):=by
 intro b s σ H x y v u Q I c d h;obtain⟨i,j,rfl,rfl,e,q⟩:=h;obtain⟨t,rfl⟩:=c;obtain⟨k,rfl⟩:=d;exact a i j t k s _ _ e ⟨.int<|g i j,H,I.tok _,⟨_,rfl⟩,q⟩
def jpY{f}{g:Int->Int->Int}
  (a:∀ i j t u s (Q:J0) (E:J0),Q (.int (g i j) s.toks) {s with toks:=s.toks+1}->wpAny (model X.prog X.w) X.A (f (.int i t)<|.int j u) Q E s):
  OpR X f (rI0 λi j=>.int<|g i j):=by
 intro b s σ H x y v u Q I c d h;obtain⟨i,j,rfl,rfl,q⟩:=h;obtain⟨t,rfl⟩:=c;obtain⟨e,rfl⟩:=d;exact a i j t e s _ _ ⟨.int<|g i j,H,I.tok _,⟨_,rfl⟩,q⟩
def jo9{f}{g:Int->Int->Bool}
  (a:∀ i j t u s (Q:J0) (E:J0),Q (.bool<|g i j) s->wpAny (model X.prog X.w) X.A (f (.int i t)<|.int j u) Q E s):
  OpR X f (rI0 λi j=>.bl<|g i j):=by
 intro b s σ H x y v u Q I c d h;obtain⟨i,j,rfl,rfl,q⟩:=h;obtain⟨t,rfl⟩:=c;obtain⟨e,rfl⟩:=d;exact a i j t e s _ _ ⟨.bl<|g i j,H,I,rfl,q⟩
def jpd(i j:Int):Prop:=0<=j/\j<=1000000/\i.natAbs<2 ^ 64
def jlu:OpR X (binaryOp .Add) (rI0 λi j=>.int<|i+j):=jpY λ_ _ _ _ _ _ _ q=>add_int q
def jlA:OpR X (binaryOp .Sub) (rI0 λi j=>.int<|i-j):=jpY λ_ _ _ _ _ _ _ q=>sub_int q
def jgE:OpR X (binaryOp .Mod) (rI (λ_ j=>0<j) λi j=>.int<|i%j):=opI λi j _ _ _ _ _ a q=>by
 exact mod_int' ∅ (by rw[Int.fmod_eq_emod_of_nonneg i ∅];exact q)
def jkJ:OpR X (binaryOp .Pow) (rI jpd λi j=>.int<|i ^ j.toNat):=opI λ_ _ _ _ _ _ _ a q=>pow_int_small a.1 a.2.1 a.2.2 q
def unI{f}{g:Int->Int}
  (a:∀ i t s (Q:J0) (E:J0),Q (.int (g i) s.toks) {s with toks:=s.toks+1}->wpAny (model X.prog X.w) X.A (f<|.int i t) Q E s):
  UnR X f (rU λi=>.int<|g i):=by
 intro b s σ H x v Q I c h;obtain⟨i,rfl,q⟩:=h;obtain⟨t,rfl⟩:=c;exact a i t s _ _ ⟨.int<|g i,H,I.tok _,⟨_,rfl⟩,q⟩
def jnB:UnR X (unaryOp .USub) (rU λi=>.int<|-i):=unI λ_ _ _ _ _ q=>neg_int q
end
noncomputable def joA:V->V->Bool
 | .non,.non=>true | .non,.int _=>true | .int _,.non=>true | .non,.bl _=>true | .bl _,.non=>true | .non,.str _=>true | .str _,.non=>true
 | .int _,.int _=>true | .bl _,.bl _=>true | .str _,.str _=>true | .byt _,.byt _=>true
 | .int _,.str _=>true | .str _,.int _=>true | .bl _,.str _=>true | .str _,.bl _=>true
 | _,_=>false
def rEq:R2:=λx y H Q=>joA x y=true/\Q (.bl<|decide<|x=y) H
def rNe:R2:=λx y H Q=>joA x y=true/\Q (.bl<|!decide (x=y)) H
def xY:decide (V.int i=V.int j)=(i==j):=by
 rw[Bool.eq_iff_iff];simp
def jbJ:decide (V.bl i=V.bl j)=(i==j):=by
 rw[Bool.eq_iff_iff];simp
def jcj:decide (V.str i=V.str j)=(i==j):=by
 rw[Bool.eq_iff_iff];simp
def jd8:decide (V.byt i=V.byt j)=(i.toList==j.toList):=by
 rw[Bool.eq_iff_iff];cases i;cases j;simp
section
variable {X:Cx}{a b c:Expr}{ta tb tc:TE}{pos:Pos}
def jO(I:Inv X pins σ H s)(q:Q (.bl k) H)(e:k=k'):EP X pins σ Q (.bool k') s:=by
 subst e;exact⟨.bl k,H,I,rfl,q⟩
def jpn:OpR X (compareOp .Eq) rEq:=by
 intro e s σ H x y v u Q I d a h;obtain⟨c,q⟩:=h;cases x with
 | non=>
  cases d;cases y with
  | non=>cases a;exact PySem.EqNone.eq_none_none<|jO I q (by simp)
  | bl j=>cases a;exact PySem.EqNone.eq_none_bool<|jO I q (by simp)
  | int j=>obtain⟨b,rfl⟩:=a;exact PySem.EqNone.eq_none_int<|jO I q (by simp)
  | str j=>obtain⟨b,rfl⟩:=a;exact PySem.EqNone.eq_none_str<|jO I q (by simp)
  | _=>exact absurd (c) M4
 | bl i=>
  cases d;cases y with
  | non=>cases a;exact PySem.EqNone.eq_bool_none<|jO I q (by simp)
  | bl j=>cases a;exact eq_bool<|jO I q jbJ
  | str j=>obtain⟨b,rfl⟩:=a;exact PySem.EqMixed.eq_bool_str<|jO I q (by simp)
  | _=>exact absurd (c) M4
 | int i=>
  obtain⟨t,rfl⟩:=d;cases y with
  | non=>cases a;exact PySem.EqNone.eq_int_none<|jO I q (by simp)
  | int j=>obtain⟨b,rfl⟩:=a;exact eq_int<|jO I q xY
  | str j=>obtain⟨b,rfl⟩:=a;exact PySem.EqMixed.eq_int_str<|jO I q (by simp)
  | _=>exact absurd (c) M4
 | str i=>
  obtain⟨t,rfl⟩:=d;cases y with
  | non=>cases a;exact PySem.EqNone.eq_str_none<|jO I q (by simp)
  | bl j=>cases a;exact PySem.EqMixed.eq_str_bool<|jO I q (by simp)
  | int j=>obtain⟨b,rfl⟩:=a;exact PySem.EqMixed.eq_str_int<|jO I q (by simp)
  | str j=>obtain⟨b,rfl⟩:=a;exact eq_str<|jO I q jcj
  | _=>exact absurd (c) M4
 | byt i=>
  obtain⟨t,rfl⟩:=d;cases y with
  | byt j=>obtain⟨b,rfl⟩:=a;exact PySem.W.eq_bytes<|jO I q jd8
  | _=>exact absurd (c) M4
 | _=>cases y<;>exact absurd (c) M4
def jor:OpR X (compareOp .NotEq) rNe:=by
 intro e s σ H x y v u Q I d a h;obtain⟨c,q⟩:=h;cases x with
 | non=>
  cases d;cases y with
  | non=>cases a;exact PySem.EqNone.ne_none_none<|jO I q (by simp)
  | bl j=>cases a;exact PySem.EqNone.ne_none_bool<|jO I q (by simp)
  | int j=>obtain⟨b,rfl⟩:=a;exact PySem.EqNone.ne_none_int<|jO I q (by simp)
  | str j=>obtain⟨b,rfl⟩:=a;exact PySem.EqNone.ne_none_str<|jO I q (by simp)
  | _=>exact absurd (c) M4
 | bl i=>
  cases d;cases y with
  | non=>cases a;exact PySem.EqNone.ne_bool_none<|jO I q (by simp)
  | bl j=>cases a;exact ne_bool<|jO I q<|congrArg not jbJ
  | str j=>obtain⟨b,rfl⟩:=a;exact PySem.EqMixed.ne_bool_str<|jO I q (by simp)
  | _=>exact absurd (c) M4
 | int i=>
  obtain⟨t,rfl⟩:=d;cases y with
  | non=>cases a;exact PySem.EqNone.ne_int_none<|jO I q (by simp)
  | int j=>obtain⟨b,rfl⟩:=a;exact ne_int<|jO I q<|congrArg not xY
  | str j=>obtain⟨b,rfl⟩:=a;exact PySem.EqMixed.ne_int_str<|jO I q (by simp)
  | _=>exact absurd (c) M4
 | str i=>
  obtain⟨t,rfl⟩:=d;cases y with
  | non=>cases a;exact PySem.EqNone.ne_str_none<|jO I q (by simp)
  | bl j=>cases a;exact PySem.EqMixed.ne_str_bool<|jO I q (by simp)
  | int j=>obtain⟨b,rfl⟩:=a;exact PySem.EqMixed.ne_str_int<|jO I q (by simp)
  | str j=>obtain⟨b,rfl⟩:=a;exact ne_str<|jO I q<|congrArg not jcj
  | _=>exact absurd (c) M4
 | byt i=>
  obtain⟨t,rfl⟩:=d;cases y with
  | byt j=>obtain⟨b,rfl⟩:=a;exact PySem.W.ne_bytes<|jO I q<|congrArg not jd8
  | _=>exact absurd (c) M4
 | _=>cases y<;>exact absurd (c) M4
def jom:OpR X (compareOp .Lt) (rI0 λi j=>.bl<|decide<|i<j):=jo9 λ_ _ _ _ _ _ _ q=>lt_int q
def jn9:OpR X (compareOp .Gt) (rI0 λi j=>.bl<|decide<|j<i):=jo9 λ_ _ _ _ _ _ _ q=>gt_int q
def jps:OpR X (compareOp .GtE) (rI0 λi j=>.bl<|decide<|j<=i):=jo9 λ_ _ _ _ _ _ _ q=>ge_int q
def jdE:OpR X (compareOp .In) (λx y H Q=>∃ i j,x=.str i/\y=.str j/\Q (.bl<|!(Builtin.Str.occurrences j i 0 j.length 1).isEmpty) H):=by
 intro a s σ H x y v u Q I b c h;obtain⟨i,j,rfl,rfl,q⟩:=h;obtain⟨t,rfl⟩:=b;obtain⟨d,rfl⟩:=c;exact in_str<|jO I q rfl
def jkQ:OpR X (compareOp .Is) (λx y H Q=>y=.non/\Q (.bl<|decide<|x=.non) H):=by
 intro a s σ H x y v u Q I b c h;obtain⟨rfl,q⟩:=h;cases c;refine is_none_gen<|jO I q ?_;cases x<;>first
  | (cases b;rfl)
  | (obtain⟨t,rfl⟩:=b;rfl)
def zV:OpR X (compareOp .NotIn) (λx y H Q=>∃ i j,x=.str i/\y=.str j/\Q (.bl<|!(!(Builtin.Str.occurrences j i 0 j.length 1).isEmpty)) H):=by
 intro a s σ H x y v u Q I b c h;obtain⟨i,j,rfl,rfl,q⟩:=h;obtain⟨t,rfl⟩:=b;obtain⟨d,rfl⟩:=c;exact notIn_str<|jO I q rfl
def Ku(b)  (h:op≠.In:=by decide) (h2:op≠.NotIn:=by decide):behindInMarks op b=false:=by
 have a:(op==CmpOp.In)=false:=by cases op<;>first | rfl | exact absurd rfl h
 have e2:(op==CmpOp.NotIn)=false:=by cases op<;>first | rfl | exact absurd rfl h2
 cases b<;>simp[behindInMarks,a,e2]
def jhS(d:OpR X (compareOp op) r)(e:PE X a ta)(hb:PE X b tb)(f:behindInMarks op b=false):PE X (.Compare a [op] [b] pos) (tOp r ta tb):=by
 intro c s σ H Q I h;exact wpAny_Compare1 (jo8 e hb I h λv u s2 x y g i j k q=>d c s2 σ g x y v u Q i j k q) f
def Vg(t:TE):TT:=λσ H Q=>t σ H λx H'=>∃ k,x=.bl k/\Q k H'
def jcQ(f:OpR X (compareOp op) r)(g:PE X a ta)(hb:PE X b tb)(i:behindInMarks op b=false):PT X (.Compare a [op] [b] pos) (Vg<|tOp r ta tb):=by
 intro d s σ H Q I h;refine wpAny_isTrue_Compare1 (thn (g d s σ H _ I h) λv s1 ⟨x,j,l,r1,m⟩=>thn (hb d s1 σ j _ l m) λu s2 ⟨y,n,o,r2,p⟩=>
  thn (f d s2 σ n x y v u _ o r1 r2 p) λc B ⟨z,q,t,w,k,e,A⟩=>?_) i
 subst e;cases w;exact wpAny_truthy_bool ⟨q,t,A⟩
def Q5:(sizeLine:Nat)<2 ^ 63:=by rw[sizeLine_eq];decide
def jaF:OpR X (binaryOp .Add) (λx y H Q=>∃ i j,x=.str i/\y=.str j/\i.length+j.length<=sizeLine/\Q (.str<|i++j) H):=by
 intro a s σ H x y v u Q I b c h;obtain⟨i,j,rfl,rfl,d,q⟩:=h;obtain⟨t,rfl⟩:=b;obtain⟨e,rfl⟩:=c;exact add_str (λe f=>⟨.str<|i++j,H,I.tok _,⟨_,rfl⟩,q⟩) d
def jj0(r:Vals [x] us):∃ u,us=[u]/\RelV x u:=by
 cases r with
 | cons r1 r2=>cases r2;exact⟨_,rfl,r1⟩
def jlK(r:Vals [x,y] us):Ex2 λu w'=>An3 (us=[u,w']) (RelV x u) (RelV y w'):=by
 cases r with
 | cons r1 r2=>
  cases r2 with
  | cons a b=>cases b;exact⟨_,_,rfl,r1,a⟩
def jcC(c:X.calm=true):qe X (.builtin "max") (λxs H Q=>∃ i j,xs=[.int i,.int j]/\Q (.int<|if j>i then j else i) H):=by
 intro b s σ H xs d Q I r h;obtain⟨i,j,rfl,q⟩:=h;obtain⟨u,e,rfl,⟨t,rfl⟩,⟨f,rfl⟩⟩:=jlK r;refine max_two_ints (I.ok.hd c) λg l k=>⟨_,H,I.kept k,?_,q⟩;by_cases a:j>i
 ·rw[if_pos a,if_pos a];exact⟨_,rfl⟩
 ·rw[if_neg a,if_neg a];exact⟨_,rfl⟩
def zL(c:X.calm=true):qe X (.builtin "min") (λxs H Q=>∃ i j,xs=[.int i,.int j]/\Q (.int<|if j<i then j else i) H):=by
 intro b s σ H xs d Q I r h;obtain⟨i,j,rfl,q⟩:=h;obtain⟨u,e,rfl,⟨t,rfl⟩,⟨f,rfl⟩⟩:=jlK r;refine min_two_ints (I.ok.hd c) λg l k=>⟨_,H,I.kept k,?_,q⟩;by_cases a:j<i
 ·rw[if_pos a,if_pos a];exact⟨_,rfl⟩
 ·rw[if_neg a,if_neg a];exact⟨_,rfl⟩
def joP(K:W4)(x:V)(H:Hp)(n:Nat):Prop:=
 match x with
 | .str y=>y.length<=sizeLine/\n=y.length
 | .byt y=>y.size<=sizeLine/\n=y.size
 | .ref p=>(∃ xs,SqL K H p xs/\n=xs.length) \/ ∃ xs,SqT K H p xs/\n=xs.length
 | _=>False
def je1:qe X (.builtin "len") (λxs H Q=>∃ x n,xs=[x]/\joP X.K x H n/\Q (.int n) H):=by
 intro i s σ H xs l Q I r h;obtain⟨x,n,rfl,e,q⟩:=h;obtain⟨u,rfl,c⟩:=jj0 r;have m:=sizeLine_eq;cases x with
 | str y=>
  obtain⟨t,rfl⟩:=c;obtain⟨j,b⟩:y.length<=sizeLine/\n=y.length:=e;subst b;exact len_str ∅ ⟨.int _,H,I.tok _,⟨_,rfl⟩,q⟩
 | byt y=>
  obtain⟨t,rfl⟩:=c;obtain⟨j,b⟩:y.size<=sizeLine/\n=y.size:=e;subst b;exact PySem.W.len_bytes ∅ ⟨.int _,H,I.tok _,⟨_,rfl⟩,q⟩
 | ref p=>
  cases c;have b:=e;rcases b with⟨xs,d,b⟩ | ⟨xs,d,b⟩
  ·subst b;obtain⟨f,g,pl,k⟩:=I.list d;have a:=g.length;exact Calls.call_len_list pl.isList (by simp only[N4];lia) ⟨.int xs.length,H,I.tok _,⟨_,by simp only[N4];rw[a]⟩,q⟩
  ·subst b;obtain⟨f,g,pl,k⟩:=I.tuple d;have a:=g.length;exact len_tuple pl (by simp only[N4];lia) ⟨.int xs.length,H,I.tok _,⟨_,by simp only[N4];rw[a]⟩,q⟩
 | _=>exact(e).elim
end
structure ObjM(h:Heap)(x dx C:Addr)(mA:W6):Prop where
 obj:h.get? x=some (PySem.W.instObj C dx)
 ns:h.Ns1 dx mA
 ne:dx≠x
def jdO{h:Heap}{mA}(n:h.Ns1 dx mA):∃ od,h.get? dx=some od/\∀ name,PySem.W.lookIn name od=some (mA name):=by
 obtain⟨o,c,k,d,hd,f,_,g⟩:=n;refine⟨o,d,λname=>?_⟩;have e:=g name;unfold nsFind findBy at e;rw[<- Array.find?_toList] at e;unfold PySem.W.lookIn;rw[hd];dsimp only;split
 ·rename_i y q;rw[q] at e;exact congrArg some e
 ·rename_i q;rw[q] at e;have a:c.toList.any (·.refKey)=false:=by
   rw[List.any_eq_false];intro y i;obtain⟨z,t,b⟩:=f y<|Array.mem_toList_iff.mp i;simp[DictEntry.refKey,b]
  have j:¬ c.toList.any (·.refKey)=true:=by rw[a];exact M4
  rw[if_neg j];exact congrArg some e
def ObjM.look(I:ObjM h x dx C mA):∃ od,PySem.W.InstAt h x (PySem.W.instObj C dx) C (some od)/\∀ name,PySem.W.lookIn name od=some (mA name):=
 let ⟨od,ho,hl⟩:=jdO I.ns
 ⟨od,⟨I.obj,rfl,rfl,ho⟩,hl⟩
section
variable {prog:Program}{w:World}{A:Around}{E:J0}{s:Shared}{K:W4}{x dx C f:Addr}{mA:W6}{name:Str}{v:Value}
def jhR{a}{Q}(X:K.In s.heap)(I:ObjM s.heap x dx C mA)(c:PySem.W.plainGet K C name=true)(d:PySem.W.hasDictIn K C=true)
  (e:PySem.W.findIn K (.ref C) name=some none) (f:mA name=some v) (b:PySem.W.handedIn v=true) (h:Q v {s with toks:=s.toks+1}):
  wpAny (model prog w) A (getAttr (.ref x) name a) Q E s:=by
 obtain⟨od,J,g⟩:=I.look;exact PySem.W.get_value X J (PySem.W.plainGet_of c).1 (PySem.W.findObj_own d e rfl<|by rw[g,f]) b h
def jeC{pl}{Q}(X:K.In s.heap)(I:ObjM s.heap x dx C mA)(a:PySem.W.plainGet K C name=true)
  (b:PySem.W.findIn K (.ref C) name=some (some<|.ref f)) (c:PySem.W.isFn K (.ref f)=true) (d:mA name=none) (h:Q (.ref f,[.ref x]) s):
  wpAny (model prog w) A (getMethod (.ref x) name pl) Q E s:=by
 obtain⟨od,J,e⟩:=I.look;exact PySem.W.method_fn X J (PySem.W.plainGet_of a).1 (PySem.W.plainGet_of a).2 b (beq_iff_eq.mp c) (by show(PySem.W.lookIn name od).map (·.isSome)=some false;rw[e,d];rfl) h
def jhE{ns}{Q}(X:K.In s.heap)(I:ObjM s.heap x dx C mA)
  (i:PySem.W.findIn K (.ref C) "__setattr__" = some (some<|.builtin "object.__setattr__")) (j:PySem.W.plainOver K C=true) (k:PySem.W.takerIn K C name=some none) (l:PySem.W.hasDictIn K C=true)
  (m:PySem.Within mA ns) (hsz:ns.length<=sizeLine)
  (h:∀ h',ObjM h' x dx C (λy=>if y=name then some v else mA y)->Heap.SameBut dx s.heap h'->Q () {s with heap:=h',toks:=s.toks+2}):
  wpAny (model prog w) A (setAttr (.ref x) name v) Q E s:=by
 obtain⟨od,J,q⟩:=I.look;refine PySem.W.set_plain X J i<|PySem.W.osa_open X J j k λb=>?_;obtain⟨r,n,d⟩:=PySem.W.any_some l;refine L3<|M8<|L3<|L3<|wpAny_loadPart I.obj<|L3<|PySem.W.Looks.here (PySem.W.looks_clsIn X n) ?_;rw[d];refine M8<|L3<|M8<|L3<|wpAny_nsSet1 I.ns λh' a c=>?_;obtain⟨t,o,p,e,f,g⟩:=a.count<|PySem.Within.cons name v m;refine L3<|wpAny_lookBehind e (by rw[f];exact pastItsLine_dict<|N8 g<|by rw[M3];lia) ?_;exact M8<|h _ ⟨(c.2 _<|Ne.symm I.ne).trans I.obj,a,I.ne⟩ c
def jeP{R}{vs}{kw}(X:K.In s.heap)(a:PySem.W.makesIn K C=true)
  (hi:PySem.W.findIn K (.ref C) "__init__" = some (some<|.ref f)) (b:PySem.W.typeIn K (.ref f)=some (.type "function"))
  (h:codeAny (model prog w) (A.under<|.builtin "type.__call__" ⟨.ref C::vs,kw⟩) (.call (.ref f) ⟨.ref (↥s+1)::vs,kw⟩) (PySem.W.InitBack (↥s+1) R)
   {s with heap:=(s.heap.push PySem.W.emptyDict).push (PySem.W.instObj C ↥s)}):
  codeAny (model prog w) A (.call (.ref C) ⟨vs,kw⟩) R s:=by
 obtain⟨c,g,d,t,os⟩:=s;exact PySem.W.make_core (PySem.W.makes_of X a) (PySem.W.looks_findIn X hi) (λself=>PySem.W.bind_fn X self b) (.inl rfl) h
end
noncomputable def Kf(f:Str)(v:V):List (Str×V)->List (Str×V)
 | []=>[(f,v)]
 | (g,x)::r=>if g=f then(g,v)::r else(g,x)::Kf f v r
theorem VQ(f g)(v):∀ fs:List (Str×V),(Kf f v fs).lookup g=if g=f then some v else fs.lookup g
 | []=>by
  show List.lookup g [(f,v)]=_;by_cases h:g=f
  ·have hb:=beq_iff_eq.mpr h;simp only[List.lookup,hb,if_pos h]
  ·have hb:=U3.mpr h;simp only[List.lookup,hb,if_neg h]
 | (k,x)::r=>by
  rw[show Kf f v ((k,x)::r)=(if k=f then(k,v)::r else(k,x)::Kf f v r) from rfl];by_cases a:k=f
  ·rw[if_pos a];by_cases h:g=k
   ·have hb:=beq_iff_eq.mpr h;simp only[List.lookup,hb,if_pos<|h.trans a]
   ·have hb:=U3.mpr h;simp only[List.lookup,hb,if_neg<|λe:g=f=>h<|e.trans a.symm]
  ·rw[if_neg a];by_cases h:g=k
   ·have hb:=beq_iff_eq.mpr h;simp only[List.lookup,hb,if_neg<|λe:g=f=>a<|h.symm.trans e]
   ·have hb:=U3.mpr h;simp only[List.lookup,hb];exact(VQ f g v r)
theorem VP(f)(v):∀ fs:List (Str×V),f∈(Kf f v fs).map (·.1)/\∀ g,g∈fs.map (·.1)->g∈(Kf f v fs).map (·.1)
 | []=>⟨by simp[Kf],λg h=>by simp at h⟩
 | (k,x)::r=>by
  obtain⟨b,c⟩:=VP f v r;rw[show Kf f v ((k,x)::r)=(if k=f then(k,v)::r else(k,x)::Kf f v r) from rfl];by_cases a:k=f
  ·rw[if_pos a];subst a;exact⟨by simp,λg h=>by simpa using h⟩
  ·rw[if_neg a];refine⟨?_,λg h=>?_⟩
   ·rw[L5];exact L6 _ b
   ·rw[L5] at h ⊢;rcases M5.mp h with e | e
    ·exact M5.mpr<|.inl e
    ·exact L6 _<|c g e
theorem VH(f)(v):∀ fs:List (Str×V),(Kf f v fs).length<=fs.length+1
 | []=>by simp[Kf]
 | (k,x)::r=>by
  have b:=VH f v r;rw[show Kf f v ((k,x)::r)=(if k=f then(k,v)::r else(k,x)::Kf f v r) from rfl];by_cases a:k=f
  ·rw[if_pos a,M3,M3];lia
  ·rw[if_neg a,M3,M3];lia
def RelO.some_of(r:RelO (some v) o):∃ u,o=some u/\RelV v u:=by
 cases o with
 | none=>exact(r).elim
 | some u=>exact⟨u,rfl,r⟩
def RelO.none_of(r:RelO none o):o=none:=by
 cases o with
 | none=>rfl
 | some u=>exact(r).elim
def jdf(r:RelV v u):PySem.W.handedIn u=true:=by
 cases v with
 | non=>cases(r);rfl
 | bl b=>cases(r);rfl
 | int i=>obtain⟨t,e⟩:=(r);cases e;rfl
 | str x=>obtain⟨t,e⟩:=(r);cases e;rfl
 | byt b=>obtain⟨t,e⟩:=(r);cases e;rfl
 | flt b=>obtain⟨t,e⟩:=(r);cases e;rfl
 | ref a=>cases(r);rfl
 | ty n=>cases(r);rfl
section
variable {P:Program}{w:World}{H H':Hp}{h h':Heap}{a C dx:Addr}{fs fs':List (Str×V)}
def xI(hok:HOk P w H h)(e:H a=some (.ins C dx fs)):∃ mA,An5 (ObjM h a dx C mA) (∀ f,RelO (fs.lookup f)<|mA f) (PySem.Within mA (fs.map (·.1))) (fs.length<=1000) (H dx=some (.own a)):=by
 obtain⟨d,z,ne,ob,mA,n,r,q⟩:=(hok a _ e);exact⟨mA,⟨ob,n,ne⟩,r,q,z,d⟩
end
structure Cls(K:W4)(C:Addr):Prop where
 pg:PySem.W.plainGet K C Str.empty=true
 hd:PySem.W.hasDictIn K C=true
 po:PySem.W.plainOver K C=true
 sa:PySem.W.findIn K (.ref C) "__setattr__" = some (some<|.builtin "object.__setattr__")
def Cls.get{K}{C}(c:Cls K C)(f):PySem.W.plainGet K C f=true:=c.pg
def NoAttr(K:W4)(C:Addr)(f:Str):Prop:=PySem.W.findIn K (.ref C) f=some none
def NoAttr.taker{K}{C}{f}(n:NoAttr K C f):PySem.W.takerIn K C f=some none:=by
 unfold PySem.W.takerIn;rw[n];rfl
structure Meth(K:W4)(C:Addr)(m:Str)(f:Addr):Prop where
 at_:PySem.W.findIn K (.ref C) m=some (some<|.ref f)
 fn:PySem.W.isFn K (.ref f)=true
 kp:PySem.W.keepIn K (.ref f)=true
section
variable {X:Cx}{pins:List (Addr×Obj)}{σ:St}{H:Hp}{s:Shared}{a C dx:Addr}{fs:List (Str×V)}{f:Str}{v:V}{A:Around}{E:J0}
def KF(I:Inv X pins σ H s)(e:H a=some (.ins C dx fs))(c:Cls X.K C)(n:NoAttr X.K C f)(l:fs.lookup f=some v)
  (h:∀ u s',Inv X pins σ H s'->RelV v u->Q u s'):wpAny (model X.prog X.w) A (getAttr (.ref a) f b) Q E s:=by
 obtain⟨i,O,r,_,_,_⟩:=xI I.hok e;obtain⟨u,g,d⟩:=RelO.some_of (by rw[<- l];exact r f);exact jhR I.kIn O (c.get f) c.hd n g (jdf d)<|h u _ (I.tok _) d
def jax(I:Inv X pins σ H s)(e:H a=some (.ins C dx fs))(c:Cls X.K C)(k:Meth X.K C m g)(l:fs.lookup m=none)
  (h:Q (.ref g,[.ref a]) s):wpAny (model X.prog X.w) A (getMethod (.ref a) m pl) Q E s:=by
 obtain⟨d,O,r,_,_,_⟩:=xI I.hok e;have b:=RelO.none_of (by rw[<- l];exact r m);exact jeC I.kIn O (c.get m) k.at_ k.fn b h
def Kn(I:Inv X pins σ H s)(e:H a=some (.ins C dx fs))(c:Cls X.K C)(n:NoAttr X.K C f)(x:fs.length<1000)(l:RelV y u)
  (h:∀ s',Inv X pins σ (upd H a<|.ins C dx<|Kf f y fs) s'->Q () s'):wpAny (model X.prog X.w) A (setAttr (.ref a) f u) Q E s:=by
 obtain⟨i,O,r,j,_,k⟩:=xI I.hok e;have m:(fs.map (·.1)).length<=sizeLine:=by rw[L1,sizeLine_eq];lia
 refine jhE I.kIn O c.sa c.po n.taker c.hd j m λp d t=>h _ ?_;have hd:∃ o,p.get? dx=some o:=let ⟨o,_,_,e',_⟩:=d.ns;⟨o,e'⟩
 refine I.write (by rw[e];exact True.intro) (.inr k) (λb q hb z=>(t.2 b hb).trans z) hd ?_;refine⟨by rw[je O.ne];exact k,?_,O.ne,d.obj,_,d.ns,λg=>?_,λg v=>?_⟩
 ·have:=VH f y fs;lia
 ·show RelO ((Kf f y fs).lookup g) (if g=f then some u else i g);rw[VQ];by_cases q:g=f
  ·rw[if_pos q,if_pos q];exact l
  ·rw[if_neg q,if_neg q];exact r g
 ·by_cases q:g=f
  ·rw[q];exact(VP f y fs).1
  ·refine(VP f y fs).2 g (j g λz=>v ?_);show(if g=f then some u else i g)=none;rw[if_neg q];exact z
def Inv.made(I:Inv X pins σ H s):Inv X pins σ (upd (upd H ↥s (.own<|↥s+1)) (↥s+1)<|.ins C ↥s [])
  {s with heap:=(s.heap.push PySem.W.emptyDict).push (PySem.W.instObj C ↥s)}:=by
 have a:(s.heap.push PySem.W.emptyDict).get? ↥s=some PySem.W.emptyDict:=E2 s.heap rfl;have e2:((s.heap.push PySem.W.emptyDict).push (PySem.W.instObj C ↥s)).get? (↥s+1)=some (PySem.W.instObj C ↥s):=by
  have:=E2 (s.heap.push PySem.W.emptyDict) (o:=PySem.W.instObj C ↥s) rfl
  rwa [Heap.size_push] at this
 have e3:(s.heap.push PySem.W.emptyDict).Ns ↥s (λ_=>none):=⟨PySem.W.emptyDict,#[],_,a,rfl,(λe c=>absurd c<|by simp),λ_=>rfl⟩;refine(I.laid (o:=.own<|↥s+1) (t':=s.toks) (λb u q=>L8 _ q) (N0 _) ⟨_,a⟩).laid (λb u q=>L8 _ q) (Nat.le_of_eq<|Heap.size_push _ _) ?_;have ne:↥s≠↥s+1:=N7<|Nat.lt_succ_self _;refine⟨by rw[je ne,jh],U6 _,ne,e2,λ_=>none,(Heap.Ns1.of_empty e3).at λo q=>L8 _ q,λ_=>True.intro,λy d=>absurd rfl d⟩
def jhX(hb:attributeBase e f env (eval e env)=eval e env)
  (h:wpAny (model prog w) A (eval e env) (λo s₁=>wpAny (model prog w) A (getAttr o f true) Q E s₁) E s):wpAny (model prog w) A (eval (.Attribute e f pos) env) Q E s:=
 Attribute_any_ h (by rw[arm_eval_Attribute,hb])
end
def jer(K:W4)(ta:TE)(f:Str):TE:=λσ H Q=>ta σ H λx H1=>∃ a C dx fs v,x=.ref a/\H1 a=some (.ins C dx fs)/\Cls K C/\NoAttr K C f/\fs.lookup f=some v/\Q v H1
def jpe(K:W4)(ta tv:TE)(f:Str):TS:=λD σ H=>tv σ H λy H1=>ta σ H1 λx H2=>∃ a C dx fs,x=.ref a/\H2 a=some (.ins C dx fs)/\Cls K C/\NoAttr K C f/\fs.length<1000 /\
 D.nx σ (upd H2 a<|.ins C dx<|Kf f y fs)
def jnN(X:Cx)(op:Operator)(rd:V->V->Hp->VK->Prop):Prop:=
 ∀ pins s (σ:St) H x y u v Q,Inv X pins σ H s->RelV x u->RelV y v->rd x y H Q->wpAny (model X.prog X.w) X.A (inplaceOp op u v) (EP X pins σ Q) X.xe s
def xC(K:W4)(ta tv:TE)(rd:V->V->Hp->VK->Prop)(f:Str):TS:=λD σ H=>ta σ H λx H1=>∃ a C dx fs v,x=.ref a/\H1 a=some (.ins C dx fs)/\Cls K C/\NoAttr K C f/\fs.lookup f=some v /\
 tv σ H1 λy H2=>rd v y H2 λz H3=>∃ dx' fs',H3 a=some (.ins C dx' fs')/\fs'.length<1000/\D.nx σ (upd H3 a<|.ins C dx'<|Kf f z fs')
section
variable {X:Cx}{o e value:Expr}{f:Str}{pos pos' tpos:Pos}{ta tv:TE}
def ux(d:PE X e ta)(hb:attributeBase e f X.env (eval e X.env)=eval e X.env):PE X (.Attribute e f pos) (jer X.K ta f):=by
 intro b s σ H Q I h;refine jhX hb<|thn (d b s σ H _ I h) λu s1 g=>?_;obtain⟨x,i,j,k,a,C,r,fs,v,ex,m,c,n,l,q⟩:=g;subst ex;obtain rfl:u=Value.ref a:=k;exact KF j m c n l λt s2 o p=>⟨v,i,o,p,q⟩
def jlf(d:PE X o ta)(e:PE X value tv)(g:swapsWith value (some<|.Attribute o f pos') pos.line X.env=pure false):PS X (.Assign [.Attribute o f pos'] value pos) (jpe X.K ta tv f):=by
 intro b s σ H D I h;refine plainObj_wpAny_Assign_Attribute (thn (e b s σ H _ I h) λu s1 ⟨y,i,j,k,q⟩=>thn (d b s1 σ i _ j q) λm s2 p=>?_) g;obtain⟨x,A,r,t,a,C,B,fs,ex,v,c,n,l,w⟩:=p;subst ex;obtain rfl:m=Value.ref a:=t;exact Kn r v c n l k λE z=>⟨σ,_,z,w⟩
def jbT(i:PE X o ta)(j:PE X value tv)(d:jnN X op rd):PS X (.AugAssign (.Attribute o f tpos) op value pos) (xC X.K ta tv rd f):=by
 intro b s σ H D I h;refine wpAny_AugAssign_AttributeAny<|thn (i b s σ H _ I h) λk s1 e=>?_;obtain⟨x,m,p,r,a,C,T,fs,v,ex,t,c,n,l,q⟩:=e;subst ex;obtain rfl:k=Value.ref a:=r;refine KF p t c n l λu s2 w A=>thn (j b s2 σ m _ w q) λB E ⟨y,F,G,J,L⟩=>thn (d b E σ F v y u B _ G A J L) λU V e=>?_;obtain⟨z,W,M,N,O,P,g,Q,R⟩:=e;exact Kn M g c n Q N λY S=>⟨σ,_,S,R⟩
def jpJ:V->V->Hp->VK->Prop:=λx y H Q=>∃ i j,x=.int i/\y=.int j/\Q (.int<|i+j) H
def jns:V->V->Hp->VK->Prop:=λx y H Q=>∃ i j,x=.int i/\y=.int j/\Q (.int<|i-j) H
def jnb:jnN X .Add jpJ:=by
 rintro a s σ H x y u v Q I b c ⟨i,j,rfl,rfl,q⟩;obtain⟨t,rfl⟩:=(b);obtain⟨d,rfl⟩:=(c);exact PyProof.Rows.iadd_int ⟨.int<|i+j,H,I.tok _,⟨_,rfl⟩,q⟩
def uw:jnN X .Sub jns:=by
 rintro a s σ H x y u v Q I b c ⟨i,j,rfl,rfl,q⟩;obtain⟨t,rfl⟩:=(b);obtain⟨d,rfl⟩:=(c);exact PyProof.Rows.isub_int ⟨.int<|i-j,H,I.tok _,⟨_,rfl⟩,q⟩
end
structure Room(k:Nat)(A:Around):Prop where
 hd:A.handled=none
 dp:A.depth+3*k+5<recursionLimit
 un:A.units+16*k+200<cLine
def Room.mono(r:Room k A)(h:j<=k):Room j A:=⟨r.hd,by have:=r.dp;lia,by have:=r.un;lia⟩
def Room.deeper(r:Room (k+1) A)(env):Room k (A.deeper env):=
 ⟨r.hd,by have:=r.dp;show A.depth+1+3*k+5<_;lia,by have:=r.un;show A.units+3+16*k+200<_;lia⟩
def jaS{A:Around}{us}{kw}:(A.under<|.builtin "type.__call__" ⟨.ref C::us,kw⟩).depth=A.depth+1:=by
 first | rfl | simp[Around.under,Code.weight,Code.isCreation,Code.isGuard,Code.isCaller,Code.frames,Code.isFrame,guardIds]
def jaN{A:Around}{us}{kw}:(A.under<|.builtin "type.__call__" ⟨.ref C::us,kw⟩).units=A.units+1:=by
 first | rfl | simp[Around.under,Code.cUnits,Code.frames,Code.isFrame]
def Room.make(r:Room (k+1) A)(C)(us)(kw):Room k (A.under<|.builtin "type.__call__" ⟨.ref C::us,kw⟩):=
 ⟨r.hd,by have:=r.dp;rw[jaS];lia,by have:=r.un;rw[jaN];lia⟩
def Room.depth(r:Room k A):A.depth<recursionLimit:=by have:=r.dp;lia
def Room.units(r:Room k A):A.units+64<cLine:=by have:=r.un;lia
def JC:TA:=λ_ H Q=>Q [] H
def jI(ta:TE)(tr:TA):TA:=λσ H Q=>ta σ H λx H1=>tr σ H1 λxs H2=>Q (x::xs) H2
section
variable {X:Cx}{e:Expr}{es:List Expr}{te:TE}{t:TA}{pos:Pos}
def vI:PA X [] JC:=λ_ _ _ _ H Q I h=>Calls.spliced_nil ⟨[],H,I,.nil,h⟩
abbrev SEq(X:Cx)(e:Expr)(es:List Expr):Prop:=starEach (e::es) X.env=(false,eval e X.env)::starEach es X.env
def jE(b:PE X e te)(c:PA X es t)(d:SEq X e es:=by rfl):PA X (e::es) (jI te t):=by
 intro pos a s σ H Q I h;rw[d];refine Calls.spliced_cons<|thn (b a s σ H _ I h) λu s1 f=>?_;obtain⟨x,g,i,r1,j⟩:=f;exact thn (c pos a s1 σ g _ i j) λo s2 ⟨k,l,m,r2,n⟩=>⟨x::k,l,m,.cons r1 r2,n⟩
def zi(t:TA):TE:=λσ H Q=>t σ H λxs H1=>xs.length<=sizeLine/\∀ p,H1 p=none->Q (.ref p) (upd H1 p<|.tup xs)
def joJ(t:TA):TE:=λσ H Q=>t σ H λxs H1=>xs.length<=sizeLine/\∀ p,H1 p=none->Q (.ref p) (upd H1 p<|.lst xs)
def Jg{d}(h:PA X es t):PE X (.Tuple es d pos) (zi t):=by
 intro a s σ H Q I f;refine wpAny_Tuple_spliced<|thn (h pos a s σ H _ I f) λg s1 ⟨i,j,c,r,z,q⟩=>⟨by rw[<- r.length];exact z,?_⟩;refine⟨.ref ↥s1,upd j ↥s1 (.tup i),c.laid (λb u e=>L8 _ e) (N0 _) ?_,rfl,q _<|c.hok.fresh<|N0 _⟩;exact⟨z,g,r,⟨_,E2 _ rfl,rfl,_,rfl⟩,_,E2 _ rfl,rfl⟩
def jm8(h:PA X es t):PE X (.List es pos) (joJ t):=by
 intro a s σ H Q I d;refine wpAny_List_spliced<|thn (h pos a s σ H _ I d) λf s1 ⟨g,i,c,r,z,q⟩=>⟨by rw[<- r.length];exact z,?_⟩;refine⟨.ref ↥s1,upd i ↥s1 (.lst g),c.laid (λb u e=>L8 _ e) (N0 _) ?_,rfl,q _<|c.hok.fresh<|N0 _⟩;exact⟨z,f,0,r,E2 _ rfl⟩
end
abbrev Sp:=List V->Hp->VK->XK->Prop
abbrev CXT:=List Env->Hp->Shared->XK->Value->Shared->Prop
structure Env0(P:Program)(w:World)(K:W4)(mg:W6)(base:Heap)(A:Around)(outer:List Env)(s:Shared)(H:Hp):Prop where
 frames:A.frames=some outer
 mod:Mod K mg base
 bs:∀ b o,base.get? b=some o->s.heap.get? b=some o/\H b=none
 bsz:base.objs.size<=↥s
 funs:s.heap.FunFrames base outer
 frf:∀ b∈frs outer,H b=none
 hok:HOk P w H s.heap
 bare:AllBare s.gens
def CE(outer:List Env)(P:Program)(w:World)(H:Hp)(s:Shared)(Q:VK)(u:Value)(s':Shared):Prop:=
 ∃ v H',s'.os=s.os/\AllBare s'.gens/\Un (frs outer) [] H H' s.heap s'.heap/\HOk P w H' s'.heap/\RelV v u/\Q v H'
def CR(CX:CXT)(outer:List Env)(P:Program)(w:World)(H:Hp)(s:Shared)(Q:VK)(E:XK)(r:Result)(s':Shared):Prop:=
 match r with
 | .ok (.ret u)=>CE outer P w H s Q u s'
 | .ok _=>False
 | .error e=>CX outer H s E e s'
structure FnOk(P:Program)(w:World)(K:W4)(mg:W6)(base:Heap)(CX:CXT)(k:Nat)(f:Addr)(fd:FuncData)(ps:List Str)(sp:Sp):Prop where
 len:∀ vs H Q E,sp vs H Q E->vs.length=ps.length
 run:∀(A:Around) (outer:List Env) (s:Shared) (H:Hp) (args:Args) (us:List Value) (vs:List V) (Q:VK) (E:XK),Room k A->Env0 P w K mg base A outer s H->BindsTo s fd args (ps.zip us)->Vals vs us->sp vs H Q E ->
  codeAny (model P w) A (.call (.ref f) args) (CR CX outer P w H s Q E) s
def FnOk.imp{P}{w}{K}{mg}{base}{CX}{k}{f}{fd}{ps}{sp a}(F:FnOk P w K mg base CX k f fd ps sp)
  (h:∀ vs H Q E,a vs H Q E->sp vs H Q E):FnOk P w K mg base CX k f fd ps a:=
 ⟨λvs H Q E q=>F.len vs H Q E<|h _ _ _ _ q,λA outer s H b c vs Q E d e hb g i=>F.run A outer s H b c vs Q E d e hb g<|h _ _ _ _ i⟩
def Env0.make{P}{w}{K}{mg}{base}{A}{outer}{s}{H}(e:Env0 P w K mg base A outer s H)(C)(us)(kw):
  Env0 P w K mg base (A.under<|.builtin "type.__call__" ⟨.ref C::us,kw⟩) outer s H:=⟨by first | exact e.frames | (simpa [Around.under,Code.envs,Code.isFrame,pushEnvs] using e.frames),e.mod,e.bs,e.bsz,e.funs,e.frf,e.hok,e.bare⟩
section
variable {X:Cx}{pins:List (Addr×Obj)}{σ:St}{H:Hp}{s s':Shared}
def Inv.env0(I:Inv X pins σ H s):Env0 X.prog X.w X.K X.mg X.base X.A X.stack s H:=
 ⟨I.ok.frames,I.ok.mod,I.bs,N8 I.ok.bsz I.sz,I.stack,I.stkFree,I.hok,I.bare⟩
def Inv.after(I:Inv X pins σ H s)(h:CE X.stack X.prog X.w H s Q u s'):EP X pins σ Q u s':=by
 obtain⟨v,c,os,bare,un,hok,r,q⟩:=h;obtain⟨e,g,d,t,a⟩:=s';obtain rfl:a=s.os:=os;exact⟨v,c,I.call un hok bare<|λb z=>absurd z<|by simp,r,q⟩
end
def qM(sp:Sp)(dvs:List V)(E:XK)(t:TA):TE:=λσ H Q=>t σ H λvs H1=>sp (vs++dvs) H1 Q E
def jc4(C:Addr)(m:Str)(sp:Sp)(dvs:List V)(E:XK)(ta:TE)(t:TA):TE:=λσ H Q=>ta σ H λx H1=>∃ a dx fs,x=.ref a/\H1 a=some (.ins C dx fs)/\fs.lookup m=none /\
 t σ H1 λvs H2=>sp (x::(vs++dvs)) H2 Q E
def jij(C:Addr)(sp:Sp)(dvs:List V)(E:XK)(t:TA):TE:=λσ H Q=>t σ H λvs H1=>∀ x dx,H1 x=none->H1 dx=none->dx≠x ->
 sp (.ref x::(vs++dvs)) (upd (upd H1 dx<|.own x) x<|.ins C dx []) (λv H2=>v=.non/\Q (.ref x) H2) E
def Binds(K:W4)(fd:FuncData)(ps:List Str)(ds:List Value):Prop:=
 ∀ s us,K.In s.heap->(us++ds).length=ps.length->BindsTo s fd ⟨us,[]⟩ (ps.zip<|us++ds)
def Binds.all{K}{fd}{ps}(h:∀ us:List Value,us.length=ps.length->bindArgs fd ⟨us,[]⟩=pure (ps.zip us)):Binds K fd ps []:=λs us _ a=>by
 rw[N1] at a ⊢;exact .of_eq<|h us a
def Y7(CX:CXT)(X:Cx)(E:XK):Prop:=∀ pins (σ:St) H s e s',Inv X pins σ H s->CX X.stack H s E e s'->X.xe e s'
section
variable {X:Cx}{CX:CXT}{k:Nat}{f C:Addr}{fd:FuncData}{ps:List Str}{sp:Sp}{dvs:List V}{ds:List Value}{E:XK}{x m:Str}{p pos apos:Pos}{e o:Expr}{es:List Expr}{ta:TE}{t:TA}
def jdo(F:FnOk X.prog X.w X.K X.mg X.base CX k f fd ps sp)(b:Room k X.A)(hb:Binds X.K fd ps ds)(hd:Vals dvs ds)(c:Y7 CX X E)
  (I:Inv X pins σ H s) (r:Vals vs us) (h:sp (vs++dvs) H Q E):wpAny (model X.prog X.w) X.A (call (.ref f) us) (EP X pins σ Q) X.xe s:=by
 have r2:=r.append hd;have d:(us++ds).length=ps.length:=by rw[<- r2.length];exact F.len _ _ _ _ h
 refine wpAny_call<|codeAny_mono (F.run X.A X.stack s H ⟨us,[]⟩ (us++ds) (vs++dvs) Q E b I.env0 (hb s us I.kIn d) r2 h) λr g a=>?_;cases r with
 | error e=>exact c pins σ H s e g I a
 | ok i=>
  cases i with
  | ret u=>exact I.after a
  | next=>exact False.elim a
  | brk=>exact False.elim a
  | cont=>exact False.elim a
abbrev BkE(X:Cx)(p:Pos)(l:List Expr):Prop:=(backTo p<|starEach l X.env).any (·.1)=false
def jh1(F:FnOk X.prog X.w X.K X.mg X.base CX k f fd ps sp)(g:Room k X.A)(i:Gl X x)(j:X.mg x=some (.ref f))(l:PySem.W.keepIn X.K (.ref f)=true)(hb:Binds X.K fd ps ds)(hd:Vals dvs ds)(m:Y7 CX X E)
  (n:PA X (e::es) t) (b:Nd x:=by decide) (o:SEq X e es:=by rfl) (c:BkE X pos es:=by rfl):
  PE X (.Call (.Name x p) (e::es) [] pos) (qM sp dvs E t):=by
 intro a s σ H Q I h;exact wpAny_Call_Name_kw<|KJ I i j (PySem.W.callWith_K I.ok.mod.kin l (thn (n pos a s σ H _ I h) λu s1 ⟨vs,v,d,r,q⟩=>⟨d.kIn,(jdo F g hb hd m d r q)⟩) o c) b
def je4(F:FnOk X.prog X.w X.K X.mg X.base CX k f fd ps sp)(c:Room k X.A)(d:Gl X x)(e:X.mg x=some (.ref f))(g:PySem.W.keepIn X.K (.ref f)=true)(hb:Binds X.K fd ps ds)(hd:Vals dvs ds)(i:Y7 CX X E)
  (a:Nd x:=by decide):PE X (.Call (.Name x p) [] [] pos) (qM sp dvs E JC):=by
 intro b s σ H Q I h;exact wpAny_Call_Name_kw<|KJ I d e (PySem.W.callWith_K0 I.kIn g<|jdo F c hb hd i I .nil h) a
def jdp(p:PE X o ta)(c:Cls X.K C)(i:Meth X.K C m f)(F:FnOk X.prog X.w X.K X.mg X.base CX k f fd ps sp)(v:Room k X.A)(hb:Binds X.K fd ps ds)(hd:Vals dvs ds)(y:Y7 CX X E)(z:PA X (e::es) t)
  (d:SEq X e es:=by rfl) (g:BkE X pos es:=by rfl)
  (B:eval (.Call (.Attribute o m apos) (e::es) [] pos) X.env=(do
   let ov <- eval o X.env
   standAt apos.atName
   let (f,first) <- holding [ov] (getMethod ov m pl)
   callWith pos f first (backTo pos<|starEach (e::es) X.env) (backToKw pos<|keywordEach [] X.env)):=by rfl):
  PE X (.Call (.Attribute o m apos) (e::es) [] pos) (jc4 C m sp dvs E ta t):=by
 intro b s σ H Q I h;refine PySem.W.methodCall_KW (thn (p b s σ H _ I h) λu s1 D=>?_) B;obtain⟨x,G,j,J,a,N,fs,ex,L,l,q⟩:=D;subst ex;obtain rfl:u=Value.ref a:=J;exact jax j L c i l<|PySem.W.callWith_K I.ok.mod.kin i.kp (thn (z pos b s1 σ G _ j q) λO s2 ⟨vs,P,n,r,M⟩=>⟨n.kIn,(jdo (vs:=.ref a::vs) F v hb hd y n (.cons rfl r) M)⟩) d g
structure Mk(K:W4)(C f:Addr):Prop where
 makes:PySem.W.makesIn K C=true
 init:PySem.W.findIn K (.ref C) "__init__" = some (some<|.ref f)
 fn:PySem.W.isFn K (.ref f)=true
 kp:PySem.W.keepIn K (.ref C)=true
def jgp(M:Mk X.K C f)(F:FnOk X.prog X.w X.K X.mg X.base CX k f fd ps sp)(d:Room (k+1) X.A)(hb:Binds X.K fd ps ds)(hd:Vals dvs ds)
  (g:Y7 CX X E) (I:Inv X pins σ H s) (r:Vals vs us)
  (h:∀ x dx,H x=none->H dx=none->dx≠x->sp (.ref x::(vs++dvs)) (upd (upd H dx<|.own x) x<|.ins C dx []) (λv H2=>v=.non/\Q (.ref x) H2) E):
  wpAny (model X.prog X.w) X.A (call (.ref C) us) (EP X pins σ Q) X.xe s:=by
 have c:=h (↥s+1) ↥s (I.hok.fresh<|Nat.le_succ _) (I.hok.fresh<|N0 _) (N7<|Nat.lt_succ_self _);have b:=Inv.made (C:=C) I;have r2:Vals (V.ref (↥s+1)::(vs++dvs)) (Value.ref (↥s+1)::(us++ds)):=.cons rfl<|r.append hd;have i:(Value.ref (↥s+1)::us++ds).length=ps.length:=by
  have e:=r2.length;rw[F.len _ _ _ _ c] at e;exact e.symm
 refine wpAny_call<|jeP I.kIn M.makes M.init (beq_iff_eq.mp M.fn)<|codeAny_mono (F.run _ X.stack _ _ ⟨Value.ref (↥s+1)::us,[]⟩ (Value.ref (↥s+1)::(us++ds)) _ _ E (d.make C us [])
  (b.env0.make C us []) (hb _ (Value.ref (↥s+1)::us) b.kIn i) r2 c) λr j a=>?_
 cases r with
 | error e=>exact g pins σ _ _ e j b a
 | ok l=>
  cases l with
  | ret u=>
   obtain⟨v,m,n,o,p,q⟩:=b.after a;subst p;exact⟨o,⟨V.ref<|↥s+1,m,n,rfl,q⟩⟩
  | next=>exact False.elim a
  | brk=>exact False.elim a
  | cont=>exact False.elim a
def jhF(M:Mk X.K C f)(F:FnOk X.prog X.w X.K X.mg X.base CX k f fd ps sp)(g:Room (k+1) X.A)(i:Gl X x)(j:X.mg x=some (.ref C))(hb:Binds X.K fd ps ds)(hd:Vals dvs ds)(l:Y7 CX X E)
  (m:PA X (e::es) t) (b:Nd x:=by decide) (n:SEq X e es:=by rfl) (c:BkE X pos es:=by rfl):
  PE X (.Call (.Name x p) (e::es) [] pos) (jij C sp dvs E t):=by
 intro a s σ H Q I h;exact wpAny_Call_Name_kw<|KJ I i j (PySem.W.callWith_K I.ok.mod.kin M.kp (thn (m pos a s σ H _ I h) λo s1 ⟨vs,u,d,r,q⟩=>⟨d.kIn,(jgp M F g hb hd l d r q)⟩) n c) b
end
def PK(X:Cx)(kws:List Keyword)(t:TA):Prop:=
 ∀ pos pins s (σ:St) H (Q:List V->Hp->Prop),Inv X pins σ H s->t σ H Q->wpAny (model X.prog X.w) X.A (evalAll ((backToKw pos<|keywordEach kws X.env).map (·.2))) (AP X pins σ Q) X.xe s
structure FnScope(N P:List Str)(sc:Scope):Prop where
 kind:sc.kind=.function
 co:sc.isCoroutine=false
 gen:sc.isGenerator=false
 nd:N.Nodup
 pre:N.take P.length=P
 par:∀ x∈P,sc.names.lookup x=some .local\/sc.names.lookup x=some .cell
 nofree:∀ y∈sc.names,y.2≠.free
theorem zo{kindOf}  : ∀{binds}{m},(∀ v,(x,v)∉binds)->bindL kindOf binds m x=m x
 | [],_,_=>rfl
 | (n,v)::r,m,h=>by
  unfold bindL;rw[zo λw a=>h w<|L6 _ a];split
  ·have:x≠n:=by rintro rfl;exact h v L7
   simp[this]
  ·rfl
theorem zG{kindOf}  : ∀{binds}{m},(∀ v,(x,v)∉binds)->bindC kindOf binds m x=m x
 | [],_,_=>rfl
 | (n,v)::r,m,h=>by
  unfold bindC;rw[zG λw a=>h w<|L6 _ a];split
  ·rfl
  ·have:x≠n:=by rintro rfl;exact h v L7
   simp[this]
theorem xh{kindOf}  : ∀{P:List Str}{vs}{i:Nat}{m},P.Nodup->P[i]?=some x->vs[i]?=some v->kindOf x=some .local ->
  bindL kindOf (P.zip vs) m x=some v
 | [],_,_,_,_,h,_,_=>by simp at h
 | _::_,[],_,_,_,_,h,_=>by simp at h
 | p::P,w::vs,0,m,nd,a,b,c=>by
  simp at a b;subst a;subst b;show bindL kindOf ((p,w)::P.zip vs) m p=_;unfold bindL;rw[zo λv d=>(List.nodup_cons.mp nd).1 (List.of_mem_zip d).1,if_pos c];simp
 | p::P,w::vs,i+1,m,nd,a,b,c=>by
  unfold bindL;exact xh (List.nodup_cons.mp nd).2 ⇑a ⇑b c
theorem z4{kindOf}  : ∀{P:List Str}{vs}{i:Nat}{m},P.Nodup->P[i]?=some x->vs[i]?=some v->kindOf x≠some .local ->
  bindC kindOf (P.zip vs) m x=some v
 | [],_,_,_,_,h,_,_=>by simp at h
 | _::_,[],_,_,_,_,h,_=>by simp at h
 | p::P,w::vs,0,m,nd,a,b,c=>by
  simp at a b;subst a;subst b;show bindC kindOf ((p,w)::P.zip vs) m p=_;unfold bindC;rw[zG λv d=>(List.nodup_cons.mp nd).1 (List.of_mem_zip d).1,if_neg c];simp
 | p::P,w::vs,i+1,m,nd,a,b,c=>by
  unfold bindC;exact z4 (List.nodup_cons.mp nd).2 ⇑a ⇑b c
noncomputable def start(N:List Str)(vs:List V):St:=vs.map some++List.replicate (N.length-vs.length) none
noncomputable def jhb(CX:CXT)(P:Program)(w:World)(K:W4)(mg:W6)(base:Heap)(N:List Str)(qual:Str)(scope:Scope)(f:Addr)(cd:Value)(A:Around)(outer:List Env)(s:Shared)(H:Hp)(E:XK):Cx where
 prog:=P
 w:=w
 K:=K
 mg:=mg
 base:=base
 A:=A.deeper (envOfC qual scope ↥s f cd)
 N:=N
 s₀:=s
 H₀:=H
 env:=envOfC qual scope ↥s f cd
 outer:=outer
 stack:=envOfC qual scope ↥s f cd::outer
 ex:=[]
 calm:=true
 fn:=λ_=>true
 pn:=[]
 xe:=λe s'=>wpAny (model P w) (A.deeper<|envOfC qual scope ↥s f cd) (leaving (envOfC qual scope ↥s f cd) e) (λ_ s''=>CX outer H s E e s'') (λe' s''=>CX outer H s E e' s'') s'
def uB{a:Scope}{n}(h:a.names.lookup x=some .cell):∃ c,(cellsFrom n a.names []).lookup x=some c:=by
 exact Option.isSome_iff_exists.mp<|PySem.W.cellsFrom_some a.names n []<|.inl h
def jbF{CX}{P}{w}{K}{mg}{base}{N ps}{qual}{scope}{f}{cd}{A}{outer}{s s1}{H}{E}{us}{vs}
  (S:FnScope N ps scope) (hd:A.handled=none) (g:Env0 P w K mg base A outer s H) (G:vs.length=ps.length) (r:Vals vs us)
  (x:InCallC s ↥s (bindL (envOfC qual scope ↥s f cd).kindOf (ps.zip us) λ_=>none) (cellsFrom (↥s+1) scope.names []) (bindC (envOfC qual scope ↥s f cd).kindOf (ps.zip us) λ_=>none) s1):
  Inv (jhb CX P w K mg base N qual scope f cd A outer s H E) [] (start N vs) H s1:=by
 have C:ps.length<=N.length:=by have:=congrArg List.length S.pre;rw[E1] at this;lia
 obtain⟨o,I,rfl,t⟩:=x.done;have j:∀ b:Addr,b∉(jhb CX P w K mg base N qual scope f cd A outer s H E).ex:=λb z=>absurd (show b∈([]:W5) from z) (by simp);refine⟨⟨g.mod,S.kind,rfl,rfl,N0 _,λy z c o d=>?_,λy l=>?_,λy c _ h=>?_,λ_=>hd,Around.frames_deeper g.frames,.inr ⟨rfl,rfl⟩,λb z=>absurd z<|j b,g.bs,g.bsz,λb _ _=>j b,λb z=>absurd z<|j b,g.funs,g.frf⟩,
  rfl,g.bare,Un.kept t,⟨_,x.toInCall.ns,λi y v o d J=>?_⟩,λy c h=>⟨_,x.cell y c h⟩,g.hok.fresh<|N0 _,λy c h=>?_,λp m=>absurd (show p∈([]:W0) from m)<|by simp,g.hok.kept t,?_⟩
 ·exact name_of_addr x.apart (PySem.mem_of_lookup o)<|PySem.mem_of_lookup d
 ·have l:=l;rcases l with l | l
  ·exact uB l
  ·exact absurd rfl<|S.nofree _<|PySem.mem_of_lookup l
 ·exact Nat.le_of_lt<|x.above y c<|PySem.mem_of_lookup h
 ·have hi:i<vs.length:=by
   unfold start at d;by_cases hi:i<vs.length
   ·exact hi
   ·rw[List.getElem?_append_right ⇑hi,List.getElem?_replicate] at d;split at d<;>cases d
  have D:vs[i]?=some v:=by
   unfold start at d;rw[List.getElem?_append_left ⇑hi,List.getElem?_map] at d;cases e:vs[i]? with
   | none=>rw[e] at d;cases d
   | some a=>rw[e] at d;cases d;rfl
  obtain⟨u,B,F⟩:=r.get D;have m:ps[i]?=some y:=by
   rw[<- S.pre,List.getElem?_take_of_lt ∅];exact o
  have n:ps.Nodup:=by rw[<- S.pre];exact S.nd.sublist<|List.take_sublist _ _
  refine⟨u,F,?_⟩;rcases S.par y (List.mem_of_getElem? m) with k | k
  ·exact .inl ⟨k,xh n m B k⟩
  ·obtain⟨c,e⟩:=uB k;refine .inr ⟨.inl k,c,e,?_⟩;have q:=x.cell y c e;rw[z4 n m B<|by show scope.names.lookup y≠_;rw[k];decide] at q;exact q
 ·exact g.hok.fresh<|Nat.le_of_lt<|x.above y c<|PySem.mem_of_lookup h
 ·unfold start;show _=N.length;rw[N5,L1,List.length_replicate]
  lia
def joY{CX}{P}{w}{K}{mg}{base}{k}{f}{name qual}{params}{body}{scope}{F kV h pm a ct oc}{an od}
  {p:Array (Option Value)}{N ps:List Str}{sp:Sp}(M:K.lookup f=some ⟨oc,od,.func<|PySem.W.fnOf name qual params body scope F kV h pm an a ct,p⟩) (z:PySem.W.codeIn K a qual=true) (S:FnScope N ps scope)
  (len:∀ vs H Q E,sp vs H Q E->vs.length=ps.length)
  (c:∀ A outer s H vs Q E,Room k (A.deeper<|envOfC qual scope ↥s f a)->sp vs H Q E ->
   ∃ t,PSs (jhb CX P w K mg base N qual scope f a A outer s H E) body t/\t {nx:=λ_ H'=>Q .non H',rt:=Q} (start N vs) H):
  FnOk P w K mg base CX (k+1) f (PySem.W.fnOf name qual params body scope F kV h pm an a ct) ps sp:=by
 refine⟨len,λA outer s H G O vs Q E B i hb r j=>?_⟩;have L:=i.mod.kin.keeps λb o e=>(i.bs b o e).1;have d:∀ y∈ps.zip O,scope.names.lookup y.1=some .local\/(scope.names.lookup y.1=some .cell/\((cellsFrom (↥s+1) scope.names []).lookup y.1).isSome=true):=λ⟨n,v⟩ R=>by
  rcases S.par n (List.of_mem_zip R).1 with q | q
  ·exact .inl q
  ·exact .inr ⟨q,PySem.W.cellsFrom_some _ _ _<|.inl q⟩
 refine codeAny_call_function B.depth (L _ _ M) rfl S.co S.gen rfl (PySem.W.codeRec_of L z)<|hb _ _ _ _<|wpAny_newFunctionEnv_cells S.kind d λenv T s1 x=>?_;subst T;refine⟨(i.mod.nolimit.keeps λb o e=>(i.bs b o e).1).keeps x.toInCall.keep,codeAny_func ?_⟩;obtain⟨t,U,X⟩:=c A outer s H vs Q E (B.deeper _) j;have I:Inv (jhb CX P w K mg base N qual scope f a A outer s H E) [] (start N vs) H s1:=jbF S B.hd i (len _ _ _ _ j) r x;refine wpAny_mono (U [] s1 (start N vs) H _ I X) (λY C g=>?_) λe C g=>g;have l:∀{m}{H'}{v}{u},Inv (jhb CX P w K mg base N qual scope f a A outer s H E) [] m H' C->RelV v u->Q v H'->CE outer P w H s Q u C:=
  λ{m H' v u} J D q=>⟨v,H',J.os,J.bare,J.base,J.hok,D,q⟩
 cases Y with
 | ret u=>
  obtain⟨v,m,H',J,D,q⟩:=g;exact l J D q
 | next=>
  obtain⟨m,H',J,q⟩:=g;exact l (v:=V.non) J rfl q
 | brk=>
  obtain⟨_,_,_,q⟩:=g;exact False.elim q
 | cont=>
  obtain⟨_,_,_,q⟩:=g;exact False.elim q
section
variable {X:Cx}{x:Str}{p pos:Pos}{e:Expr}{es:List Expr}{t:TA}{id T:String}{r:List V->Hp->VK->Prop}
def tCB(r:List V->Hp->VK->Prop)(t:TA):TE:=λσ H Q=>t σ H λvs H1=>r vs H1 Q
def K5(d:qe X (.builtin id) r)(f:Gl X x)(g:X.mg x=none)(i:bootBuiltins x=some (.builtin id))(j:PA X (e::es) t)(k:x≠"__name__":=by decide)(b:Nd x:=by decide)
  (l:SEq X e es:=by rfl) (c:BkE X pos es:=by rfl):PE X (.Call (.Name x p) (e::es) [] pos) (tCB r t):=by
 intro a s σ H Q I h;exact wpAny_Call_Name_kw<|JN I f g i (PyProof.Rows.callWith_builtin1 (thn (j pos a s σ H _ I h) λm s1 ⟨vs,n,o,r1,q⟩=>d a s1 σ n vs m Q o r1 q) l c) k b
def zM(d:qe X (.type T) r)(f:Gl X x)(g:X.mg x=none)(i:bootBuiltins x=some (.type T))(j:PA X (e::es) t)(k:x≠"__name__":=by decide)(b:Nd x:=by decide)
  (l:SEq X e es:=by rfl) (c:BkE X pos es:=by rfl):PE X (.Call (.Name x p) (e::es) [] pos) (tCB r t):=by
 intro a s σ H Q I h;exact wpAny_Call_Name_kw<|JN I f g i (PyProof.Rows.callWith_type1 (thn (j pos a s σ H _ I h) λm s1 ⟨vs,n,o,r1,q⟩=>d a s1 σ n vs m Q o r1 q) l c) k b
end
end L2
namespace HT
open PySem PyProof.Rows
section
open PySem.SeqAt
open PySem.AutoSeq1 (wpAny_loadPart')
open PySem.MeetsSeq PySem.MeetsSeq2 PySem.MeetsSeq3
end
section
variable {prog:Program}{w:World}{A:Around}{E:J0}{s:Shared}
def cat_tup(q:IsTup s.heap t vs.toArray)(hb:IsTup s.heap b ws.toArray)(k:vs≠[])
  (h1:ws=[]->Q (.ref t) s) (h2:ws≠[]->Q (.ref ↥s) { s with heap:=s.heap.push {cls:=.type "tuple",data:=.seq (vs++ws).toArray} })
  (hsz:vs.length+ws.length<=sizeLine):wpAny (model prog w) A (binaryOp .Add (.ref t)<|.ref b) Q E s:=by
 obtain⟨⟨cls,l,data,m⟩,f,r,n,hd⟩:=id q;obtain⟨⟨o,c,h,d⟩,a,i,p,j⟩:=id hb;subst r hd i j;have e:vs.toArray++ws.toArray=(vs++ws).toArray:=by simp
 by_cases g:ws=[]
 ·exact concat_meets ⟨_,f,rfl⟩ ⟨_,a,rfl⟩ noFill_tuple_add seq_tuple_add PySem.F.slot_tuple_add PySem.F.entry_tuple_add (PySem.F.args_tuple_add_2 _ _)
   (tuple_addW1 t b vs.toArray ws.toArray n p l c m d ⇑k (by simp[g])) ⟨f,a,h1 g⟩
 ·refine concat_meets ⟨_,f,rfl⟩ ⟨_,a,rfl⟩ noFill_tuple_add seq_tuple_add PySem.F.slot_tuple_add PySem.F.entry_tuple_add (PySem.F.args_tuple_add_2 _ _)
   (tuple_addW2 t b vs.toArray ws.toArray n p l c m d ⇑k ⇑g (by rw[N4,N4];exact hsz)) ⟨f,a,?_⟩
  rw[e];exact h2 g
noncomputable def sIx(n d:Nat):Option Int->Nat
 | none=>d
 | some v=>if v<0 then(v+(n:Int)).toNat else min v.toNat n
def sIx_none(n d):sIx n d none=d:=rfl
def sIx_nat(n d k:Nat):sIx n d (some (k:Int))=min k n:=by
 show(if k<0 then(k+(n:Int)).toNat else min (k:Int).toNat n)=min k n;rw[if_neg ∅,N9]
def sIx_le(n d)(hd:d<=n)(o):sIx n d o<=n:=by
 cases o with
 | none=>exact hd
 | some v=>
  show(if v<0 then(v+n).toNat else min v.toNat n)<=n;by_cases a:v<0
  ·rw[if_pos a];lia
  ·rw[if_neg a];exact Nat.min_le_right _ _
def jcy(v)(n d:Nat):(if v<0 then max (v+(n:Int)) 0 else min v (n:Int))=((sIx n d (some v):Nat):Int):=by
 show(if v<0 then max (v+n) 0 else min v n)=(((if v<0 then(v+n).toNat else min v.toNat n):Nat):Int);by_cases a:v<0
 ·simp only[if_pos a];lia
 ·simp only[if_neg a];lia
def jaC(lo hi)(n:Nat):Builtin.Slice.sliceAdjust lo hi 1 (n:Int)=(((sIx n 0 lo:Nat):Int),((sIx n n hi:Nat):Int)):=by
 refine Prod.ext ?_ ?_
 ·cases lo with
  | none=>rfl
  | some v=>exact jcy v n 0
 ·cases hi with
  | none=>rfl
  | some v=>exact jcy v n n
def jaH(i j:Nat):Builtin.Slice.slicePlaces (i:Int) (j:Int) 1=j-i:=by
 unfold Builtin.Slice.slicePlaces;split<;>lia
def Ki(p:IsPart v o)(h:Q o s):wpAny (model prog w) A (Builtin.Slice.slicePartIndex v) Q E s:=by
 cases p with
 | none=>exact slicePart_none h
 | int i t=>exact slicePart_int h
def YO{lo hi}{n}{Q:Int×Int×Nat->Shared->Prop}(c:s.heap.IsSliceOf sl vl vu .none)(pl:IsPart vl lo)(d:IsPart vu hi)
  (h:Q (((sIx n 0 lo:Nat):Int),1,sIx n n hi-sIx n 0 lo) s):wpAny (model prog w) A (Builtin.Slice.sliceApplied (.ref sl)<|pure (n:Int)) Q E s:=by
 obtain⟨os,a,e,b⟩:=id c;refine L3<|L3<|U7 a b rfl<|L3<|U7 a b rfl<|L3<|U7 a b rfl<|M8<|L3<|slicePart_none<|L3<|Ki pl<|L3<|Ki d<|L3<|M8 ?_;show wpAny _ _ (match Builtin.Slice.sliceAdjust lo hi 1 n with | (lo,hi)=>pure (lo,(1:Int),Builtin.Slice.slicePlaces lo hi 1)) _ _ s;rw[jaC lo hi n];show wpAny _ _ (pure (((sIx n 0 lo:Nat):Int),1,Builtin.Slice.slicePlaces ((sIx n 0 lo:Nat):Int) ((sIx n n hi:Nat):Int) 1)) _ _ s;rw[jaH];exact M8 h
def jgj(xs:Array Value)(i k:Nat):((List.range k).filterMap λ(m:Nat)=>xs[((i:Int)+(m:Int)*1).toNat]?).toArray=((xs.toList.drop i).take k).toArray:=by
 have e:(λ(m:Nat)=>xs[(i+(m:Int)*1).toNat]?)=λm=>xs[i+m]?:=by
  funext m
  have:(i+(m:Int)*1).toNat=i+m:=by lia
  rw[this]
 rw[e];have:=pick_run xs i k;rw[List.filterMap_map] at this;have e2:((λx=>xs[x]?) ∘ λx=>i+x)=λm=>xs[i+m]?:=rfl;rw[e2] at this;rw[this]
def getItem_tuple_cut{items}{lo hi}{Q}(b:IsTup s.heap t items)(g:s.heap.IsSliceOf sl vl vu .none)(pl:IsPart vl lo)(i:IsPart vu hi)
  (j:¬ (sIx items.size 0 lo=0/\sIx items.size items.size hi=items.size))
  (h:Q (.ref ↥s) { s with heap:=s.heap.push {cls:=.type "tuple",data:=.seq ((items.toList.drop<|sIx items.size 0 lo).take (sIx items.size items.size hi-sIx items.size 0 lo)).toArray} })
  (hsz:items.size<=sizeLine):wpAny (model prog w) A (getItem (.ref t)<|.ref sl) Q E s:=by
 have a:sizeOk (.seq ((items.toList.drop<|sIx items.size 0 lo).take (sIx items.size items.size hi-sIx items.size 0 lo)).toArray):=by
  show((items.toList.drop<|sIx items.size 0 lo).take (sIx items.size items.size hi-sIx items.size 0 lo)).toArray.size<=sizeLine;rw[N4,E1,List.length_drop,Array.length_toList]
  lia
 obtain⟨os,c,d,k⟩:=id g;have e:s.TypeIs (.ref sl) "slice":=⟨os,c,d⟩;unfold getItem
 try with_reducible refine wpAny_holding ?_
 first | refine L3 (M8 ?_) | skip
 refine L3<|wpAny_sequenceKey b.typeIs (by decide) ?_;refine L3<|wpAny_callSpecial?_slot b.typeIs PyProof.Rows.slot_tuple_getitem<|wpAny_call_entry PyProof.Rows.slot_tuple_getitem b.typeIs entry_tuple_getitem ?_<|args_tuple_getitem _ _
 show wpAny _ _ (Builtin.Tuple.tupleItemsOf (.ref t) >>= _) _ _ s;refine L3<|tupleItemsOf_ b<|L3<|wpAny_typeOf e<|L3<|YO g pl i ?_;have f:¬ ((((sIx items.size 0 lo:Nat):Int)==0&&(1:Int)==1&&(sIx items.size items.size hi-sIx items.size 0 lo)==items.size)=true):=by
  intro q;rw[M0,M0] at q;have l:=eq_of_beq q.1.1;have m:=eq_of_beq q.2;exact j ⟨by lia,by lia⟩
 show wpAny _ _ (if(((sIx items.size 0 lo:Nat):Int)==0&&1==1&&(sIx items.size items.size hi-sIx items.size 0 lo)==items.size)=true then _ else _) _ _ s;rw[if_neg f,jgj]
 first
  | exact L3 (wpAny_newObj_type (M8 ⟨_,rfl,M8 h⟩) a)
  | exact L3 (wpAny_newObj_type (L3 (M8 (M8 ⟨_,rfl,M8 h⟩))) a)
  | exact L3 (L3 (wpAny_newObj_type (M8 (M8 ⟨_,rfl,M8 h⟩)) a))
  | exact L3 (L3 (wpAny_newObj_type (M8 ⟨_,rfl,M8 h⟩) a))
end
end HT
namespace L2
open PySem PySem.Spec PyProof.Rows
abbrev TO:=St->Hp->(Option Int->Hp->Prop)->Prop
def PO(X:Cx)(e:Option Expr)(t:TO):Prop:=
 ∀ pins s (σ:St) H (Q:Option Int->Hp->Prop),Inv X pins σ H s->t σ H Q ->
  wpAny (model X.prog X.w) X.A (evalPart e X.env) (λu s'=>∃ o H',Inv X pins σ H' s'/\IsPart u o/\Q o H') X.xe s
def wH:TO:=λ_ H Q=>Q none H
def jj4(t:TE):TO:=λσ H Q=>t σ H λx H1=>∃ i,x=.int i/\Q (some i) H1
def Kw:∀{us},Vals (ns.map V.int) us->IntsAre us ns:=by
 induction ns with
 | nil=>intro us r;rw[List.map_nil] at r;cases r;exact .nil
 | cons n ns a=>
  intro us r;cases r with
  | cons r1 r2=>
   obtain⟨t,e⟩:=r1;subst e;exact .cons n t<|a r2
section
variable {X:Cx}{e:Expr}{te:TE}{lo hi:Option Expr}{tl th:TO}{pos p2:Pos}
def jhA:PO X none wH:=by
 intro a s σ H Q I h;exact M8 ⟨none,H,I,.none,h⟩
def jiV(h:PE X e te):PO X (some e) (jj4 te):=by
 intro a s σ H Q I b;refine thn (h a s σ H _ I b) λu s1 c=>?_;obtain⟨x,d,f,r1,g⟩:=c;obtain⟨i,rfl,q⟩:=g;obtain⟨t,rfl⟩:=r1;exact⟨some i,d,f,.int i t,q⟩
def SlR(X:Cx)(r:V->Option Int->Option Int->Hp->VK->Prop):Prop:=
 ∀ pins s (σ:St) H x v vl vu lo hi sl Q,Inv X pins σ H s->RelV x v->s.heap.IsSliceOf sl vl vu .none->IsPart vl lo->IsPart vu hi->r x lo hi H Q ->
  ∃ T id,typeLookup (.type T) "__getitem__" = pure (some<|.builtin id)/\s.TypeIs v T/\wpAny (model X.prog X.w) X.A (getItem v<|.ref sl) (EP X pins σ Q) X.xe s
def SlR.or(h:SlR X r)(h':SlR X r'):SlR X (λx lo hi H Q=>r x lo hi H Q\/r' x lo hi H Q):=by
 intro a s σ H x v b c lo hi d Q I e f pl g q;rcases q with q | q
 ·exact h a s σ H x v b c lo hi d Q I e f pl g q
 ·exact h' a s σ H x v b c lo hi d Q I e f pl g q
def tSl(r:V->Option Int->Option Int->Hp->VK->Prop)(te:TE)(tl th:TO):TE:=λσ H Q=>te σ H λx H1=>tl σ H1 λl H2=>th σ H2 λu H3=>r x l u H3 Q
def jgl{r}(j:SlR X r)(k:PE X e te)(m:PO X lo tl)(n:PO X hi th):PE X (.Subscript e (.Slice lo hi none p2) pos) (tSl r te tl th):=by
 intro a s σ H Q I h;refine Subscript_<|thn (k a s σ H _ I h) λv s1 d=>?_;obtain⟨x,o,p,r1,t⟩:=d;refine wpAny_Slice<|thn (m a s1 σ o _ p t) λf s2 ⟨l,w,y,pl,z⟩=>thn (n a s2 σ w _ y z) λg c d=>?_;obtain⟨u,i,A,B,C⟩:=d;refine M8 ?_;have D:Inv X a σ i { c with heap:=c.heap.push {cls:=.type "slice",data:=.fields #[f,g,.none]} }:=A.kept λb ob q=>L8 _ q;obtain⟨T,id,E,F,G⟩:=j a { c with heap:=c.heap.push {cls:=.type "slice",data:=.fields #[f,g,.none]} } σ i x v f g l u ↥c Q D r1 (Heap.IsSliceOf.new ..) pl B C;exact tail_any F E G (by with_unfolding_all rfl)
def jkx(xs:List V)(lo hi:Option Int):List V:=(xs.drop<|HT.sIx xs.length 0 lo).take (HT.sIx xs.length xs.length hi-HT.sIx xs.length 0 lo)
def VO(xs)(lo hi):(jkx xs lo hi).length<=xs.length:=by
 unfold jkx;rw[E1,List.length_drop]
 lia
def jpT(K:W4):V->Option Int->Option Int->Hp->VK->Prop:=λx lo hi H Q=>∃ a xs,x=.ref a/\SqT K H a xs /\
 ¬ (HT.sIx xs.length 0 lo=0/\HT.sIx xs.length xs.length hi=xs.length)/\∀ p,H p=none->Q (.ref p) (upd H p<|.tup<|jkx xs lo hi)
def jmR:SlR X (jpT X.K):=by
 intro f s σ H x v o p lo hi t Q I j k pl l h;obtain⟨a,d,rfl,m,n,q⟩:=h;cases j;obtain⟨e,r,g,i⟩:=I.tuple m;have c:e.toArray.size=d.length:=by rw[N4];exact r.length.symm
 refine⟨"tuple",_,PyProof.Rows.slot_tuple_getitem.lookup,g.typeIs,?_⟩;refine HT.getItem_tuple_cut g k pl l (by rw[c];exact n) ?_ (by rw[c];exact i);rw[c];refine⟨.ref ↥s,_,I.laid (λb ob q=>L8 _ q) (N0 _) ?_,rfl,q _<|I.hok.fresh<|N0 _⟩;exact⟨N8 (VO d lo hi) i,_,(r.drop<|HT.sIx d.length 0 lo).take (HT.sIx d.length d.length hi-HT.sIx d.length 0 lo),IsTupN.new _ _⟩
def jnf(K:W4):R2:=λx y H Q=>∃ a b xs ys,x=.ref a/\y=.ref b/\SqT K H a xs/\SqT K H b ys/\xs≠[]/\xs.length+ys.length<=sizeLine /\
 (ys=[]->Q (.ref a) H)/\(ys≠[]->∀ p,H p=none->Q (.ref p) (upd H p<|.tup<|xs++ys))
def Vals.nil_iff(r:Vals xs us):us=[]↔xs=[]:=by
 cases r with
 | nil=>simp
 | cons _ _=>simp
def jjS:OpR X (binaryOp .Add) (jnf X.K):=by
 intro c s σ H x y v u Q I f g h;obtain⟨a,b,n,o,rfl,rfl,i,hb,j,d,k,l⟩:=h;cases f;cases g;obtain⟨m,r1,p1,_⟩:=I.tuple i;obtain⟨e,r2,p2,_⟩:=I.tuple hb;refine HT.cat_tup p1 p2 (λz=>j<|r1.nil_iff.mp z) (λz=>⟨.ref a,H,I,rfl,k<|r2.nil_iff.mp z⟩) (λz=>?_) (by rw[<- r1.length,<- r2.length];exact d);refine⟨.ref ↥s,_,I.laid (λb ob q=>L8 _ q) (N0 _) ?_,rfl,l (λw=>z<|r2.nil_iff.mpr w) _<|I.hok.fresh<|N0 _⟩;exact⟨by rw[N5];exact d,_,r1.append r2,IsTupN.new _ _⟩
end
noncomputable def ixN(n:Nat)(i:Int):Option Nat:=if 0<=i then(if i<n then some i.toNat else none) else if -(n:Int)<=i then some (i+n).toNat else none
def atI{α:Type}(xs:List α)(i:Int):Option α:=(ixN xs.length i).bind λj=>xs[j]?
def xS(h:ixN n i=some j):seqIndex? i n=some j/\j<n/\-(n:Int)<=i/\i<n:=by
 unfold ixN at h;by_cases b:0<=i
 ·rw[if_pos b] at h;by_cases a:i<n
  ·rw[if_pos a] at h;have e:=X7 h;exact⟨by rw[seqIndex_of b a,e],by lia,by lia,a⟩
  ·rw[if_neg a] at h;cases h
 ·rw[if_neg b] at h;by_cases a:-n<=i
  ·rw[if_pos a] at h;exact⟨by rw[seqIndex_neg ∅ a,X7 h],by lia,a,by lia⟩
  ·rw[if_neg a] at h;cases h
def KY(h:atI xs i=some v):∃ j,An5 (seqIndex? i xs.length=some j) (xs[j]?=some v) (j<xs.length) (-(xs.length:Int)<=i) (i<xs.length):=by
 unfold atI at h;cases e:ixN xs.length i with
 | none=>rw[e] at h;cases h
 | some j=>
  rw[e] at h;obtain⟨a,b,c,d⟩:=xS e;exact⟨j,a,h,b,c,d⟩
def VT(b:Expr):Prop:=∀ o i,subscripted b false o i=operate [o,i] (getItem o i)
def IxR(X:Cx)(r:R2):Prop:=
 ∀ value slice pins s (σ:St) H x y v u Q,Inv X pins σ H s->RelV x v->RelV y u->r x y H Q ->
  subscripted slice false v u=operate [v,u] (getItem v u)->wpAny (model X.prog X.w) X.A (subscriptTail value slice v u) (EP X pins σ Q) X.xe s
def MtR(X:Cx)(id:String)(r:V->List V->Hp->VK->Prop):Prop:=
 ∀ pins s (σ:St) H x xs v us Q,Inv X pins σ H s->RelV x v->Vals xs us->r x xs H Q ->
  wpAny (model X.prog X.w) X.A (call (.builtin id)<|v::us) (EP X pins σ Q) X.xe s
section
variable {X:Cx}{a b:Expr}{ta tb:TE}{pos:Pos}
def IxR.or(h:IxR X r)(h':IxR X r'):IxR X (λx y H Q=>r x y H Q\/r' x y H Q):=by
 intro a slice b s σ H x y v u Q I c d q e;rcases q with q | q
 ·exact h a slice b s σ H x y v u Q I c d q e
 ·exact h' a slice b s σ H x y v u Q I c d q e
def jj9(d:IxR X r)(e:PE X a ta)(hb:PE X b tb)(f:VT b):PE X (.Subscript a b pos) (tOp r ta tb):=by
 intro c s σ H Q I h;exact Subscript_<|jo8 e hb I h λv u s2 x y g i j k q=>d a b c s2 σ g x y v u Q i j k q<|f _ _
def jld(K:W4):R2:=λx y H Q=>∃ p xs i v,x=.ref p/\y=.int i/\SqL K H p xs/\atI xs i=some v/\Q v H
def jpN(K:W4):R2:=λx y H Q=>∃ p xs i v,x=.ref p/\y=.int i/\SqT K H p xs/\atI xs i=some v/\Q v H
def jpG:R2:=λx y H Q=>∃ z i c,x=.str z/\y=.int i/\z.length<=sizeLine/\atI z.cps.toList i=some c/\Q (.str ⟨#[c]⟩) H
def ix_list:IxR X (jld X.K):=by
 intro d slice a s σ H x y v u Q I n o h k;obtain⟨p,G,i,z,rfl,rfl,A,B,q⟩:=h;cases n;obtain⟨t,rfl⟩:=o;obtain⟨e,r,pl,J⟩:=I.list A;obtain⟨j,c,C,L,D,E⟩:=KY B;obtain⟨w,l,f⟩:=r.get C;have F:=r.length;have M:=Q5;have b:EP X a σ Q w s:=⟨z,H,I,f,q⟩;by_cases m:0<=i
 ·have g:i.toNat=j:=by
   rw[seqIndex_of m E] at c;exact X7 c
  exact item_listR pl.isList m ∅ (by rw[g];simpa using l) b k
 ·have g:(i+e.toArray.size).toNat=j:=by
   rw[seqIndex_neg ∅ D] at c;rw[N4,<- F];exact X7 c
  exact subscriptTail_builtinR pl.isList.typeIs slot_list_getitem.lookup
   (wpAny_getItem_list_neg pl.isList ∅ (by rw[N4]<;>lia) ∅ (by rw[g];simpa using l) ⟨rfl,b⟩) k
def ix_tup:IxR X (jpN X.K):=by
 intro b slice a s σ H x y v u Q I e f h g;obtain⟨p,B,i,z,rfl,rfl,k,l,q⟩:=h;cases e;obtain⟨t,rfl⟩:=f;obtain⟨m,r,pl,C⟩:=I.tuple k;obtain⟨j,n,o,D,E,F⟩:=KY l;obtain⟨w,A,c⟩:=r.get o;have G:=Q5;have d:EP X a σ Q w s:=⟨z,H,I,c,q⟩;exact subscriptTail_builtinR pl.typeIs slot_tuple_getitem.lookup
  (getItem_tuple pl ∅ ∅ (by rw[N4,<- r.length];exact n) ⇑A ⟨rfl,d⟩) g
def jng:IxR X jpG:=by
 intro a slice b s σ H x y v u Q I e f h g;obtain⟨z,i,c,rfl,rfl,r,k,q⟩:=h;obtain⟨t,rfl⟩:=e;obtain⟨w,rfl⟩:=f;obtain⟨j,d,l,A,m,n⟩:=KY k;have o:z.cps.toList.length=z.length:=by simp[Str.length]
 rw[o] at d m n;have B:=Q5;exact tail_any (typeIs_str s z t) slot_str_getitem.lookup (getItem_str (by
  have p:decide (i < -(2 ^ 63:Int))=false:=X5 ∅;have e2:decide (i ≥ 2 ^ 63)=false:=X5 ∅;rw[p,e2,Bool.or_false]) (by rw[d];simpa using l) ⟨.str ⟨#[c]⟩,H,I.tok _,⟨_,rfl⟩,q⟩) g
def rIx(K:W4):R2:=λx y H Q=>jld K x y H Q\/jpN K x y H Q\/jpG x y H Q
def jcM:IxR X (rIx X.K):=ix_list.or<|ix_tup.or jng
def jba(its:List Value)(n j)(u):Obj.mapSeq (·.setIfInBounds j u) {cls:=.type "list",data:=.seq its.toArray n}={cls:=.type "list",data:=.seq (its.set j u).toArray n}:=by
 simp[Obj.mapSeq]
def Inv.lst(I:Inv X pins σ H s)(h:H p=some (.lst xs)):
  Ex2 λits n=>An3 (Vals xs its) (s.heap.get? p=some {cls:=.type "list",data:=.seq its.toArray n}) (xs.length<=sizeLine):=by
 obtain⟨z,its,n,r,e⟩:=I.hok p _ h;exact⟨its,n,r,e,z⟩
def Inv.lstUpd{pins}{s}{xs ys}{its a:List Value}{n c}{f}(I:Inv X pins σ H s)(h:H p=some (.lst xs))
  (g:s.heap.get? p=some {cls:=.type "list",data:=.seq its.toArray n}) (d:f {cls:=.type "list",data:=.seq its.toArray n}={cls:=.type "list",data:=.seq a.toArray c}) (r:Vals ys a) (i:ys.length<=sizeLine) (t:Nat):
  Inv X pins σ (upd H p<|.lst ys) {s with heap:=s.heap.update p f,toks:=t}:=by
 have e:(s.heap.update p f).get? p=some {cls:=.type "list",data:=.seq a.toArray c}:=by
  rw[Heap.get?_update_self f g<|by rw[d]<;>rfl,d]
 refine I.write (by rw[h];trivial) (.inl rfl) (λb u hb q=>(Heap.get?_update_other _ _<|Ne.symm hb).trans q) ⟨_,e⟩ ?_;exact⟨i,a,c,r,e⟩
def jbH:V->V->V->Hp->(Hp->Prop)->Prop:=λo i v H Q=>∃ p xs k j,o=.ref p/\i=.int k/\H p=some (.lst xs)/\ixN xs.length k=some j/\Q (upd H p<|.lst<|xs.set j v)
def jau:joO X jbH:=by
 intro a s σ H o i v E F u Q I y z A h;obtain⟨p,B,k,j,rfl,rfl,g,C,q⟩:=h;cases y;obtain⟨t,rfl⟩:=z;obtain⟨b,n,r,d,D⟩:=I.lst g;obtain⟨c,G,l,m⟩:=xS C;have e:=r.length;have J:=Q5;have w:Inv X a σ (upd H p<|.lst<|B.set j v) {s with heap:=s.heap.update p (Obj.mapSeq (·.setIfInBounds j u))}:=
  I.lstUpd g d (jba b n j u) (r.set A j) (by rw[List.length_set];exact D) s.toks
 by_cases x:0<=k
 ·have f:k.toNat=j:=by
   rw[seqIndex_of x m] at c;exact X7 c
  exact PySem.W.ki_setAt d x ∅ (by rw[N4,<- e];exact m) (by rw[f];exact⟨_,w,q⟩)
 ·have f:(k+b.toArray.size).toNat=j:=by
   rw[seqIndex_neg ∅ l] at c;rw[N4,<- e];exact X7 c
  exact PySem.W.ki_setBack d ∅ (by rw[N4,<- e];exact l) ∅ (by rw[f];exact⟨_,w,q⟩)
def xu(lo hi)(n):(sliceBounds lo hi none n).1=((HT.sIx n 0 lo:Nat):Int)/\(sliceBounds lo hi none n).2.1=((HT.sIx n n hi:Nat):Int)/\(sliceBounds lo hi none n).2.2=1:=by
 refine⟨?_,?_,rfl⟩
 ·cases lo with
  | none=>simp[sliceBounds,HT.sIx]
  | some i=>
   simp only[sliceBounds,HT.sIx,Option.getD_none,show 1>0 by decide,if_true];by_cases h:i<0
   ·simp only[h,if_true]<;>lia
   ·simp only[h,if_false]<;>lia
 ·cases hi with
  | none=>simp[sliceBounds,HT.sIx]
  | some i=>
   simp only[sliceBounds,HT.sIx,Option.getD_none,show 1>0 by decide,if_true];by_cases h:i<0
   ·simp only[h,if_true]<;>lia
   ·simp only[h,if_false]<;>lia
def Qf(its:List Value)(lo hi):slicePick its.toArray lo hi none=((its.drop<|HT.sIx its.length 0 lo).take (HT.sIx its.length its.length hi-HT.sIx its.length 0 lo)).toArray:=by
 obtain⟨a,b,c⟩:=xu lo hi its.toArray.size;unfold slicePick;rw[a,b,c];simp only[sliceRange_one,pick_run,N4]<;>rfl
def jpP(K:W4):V->Option Int->Option Int->Hp->VK->Prop:=λx lo hi H Q=>∃ a xs,x=.ref a/\SqL K H a xs/\∀ p,H p=none->Q (.ref p) (upd H p<|.lst<|jkx xs lo hi)
def jkp:SlR X (jpP X.K):=by
 intro e s σ H x v n o lo hi p Q I g i pl j h;obtain⟨a,c,rfl,k,q⟩:=h;cases g;obtain⟨l,r,f,m⟩:=I.list k;have d:=r.length;refine⟨"list",_,slot_list_getitem.lookup,f.isList.typeIs,?_⟩;refine wpAny_getItem_list_slice f.isList i pl j .none (by simp) ?_ (by rw[N4]<;>lia);rw[Qf,<- d];refine⟨.ref ↥s,_,I.laid (λb ob q=>L8 _ q) (N0 _) ?_,rfl,q _<|I.hok.fresh<|N0 _⟩;exact⟨N8 (VO c lo hi) m,_,0,(r.drop<|HT.sIx c.length 0 lo).take (HT.sIx c.length c.length hi-HT.sIx c.length 0 lo),E2 _ rfl⟩
noncomputable def VU:V->Bool
 | .non=>true
 | .bl _=>true
 | .int _=>true
 | .str _=>true
 | _=>false
noncomputable def eqV:V->V->Bool
 | .non,.non=>true
 | .bl a,.bl b=>a==b
 | .bl a,.int b=>(if a then 1 else 0)==b
 | .int a,.bl b=>a==(if b then 1 else 0)
 | .int a,.int b=>a==b
 | .str a,.str b=>a==b
 | _,_=>false
def jlk(e:RelV y u)(c:RelV x v)(g:VU y=true)(f:VU x=true):SeqAt.EqAt A s u v (eqV y x):=by
 cases y with
 | non=>
  cases e;cases x with
  | non=>cases c;exact SeqAt.EqAt.same _
  | bl b=>cases c;exact SeqAt.EqAt.none_bool b
  | int b=>obtain⟨t,rfl⟩:=c;exact SeqAt.EqAt.none_int b t
  | str b=>obtain⟨t,rfl⟩:=c;exact SeqAt.EqAt.none_str b t
  | _=>exact absurd (f) M4
 | bl a=>
  cases e;cases x with
  | non=>cases c;exact SeqAt.EqAt.bool_none a
  | bl b=>cases c;exact SeqAt.EqAt.bool_bool a b
  | int b=>obtain⟨t,rfl⟩:=c;exact SeqAt.EqAt.bool_int a b t
  | str b=>obtain⟨t,rfl⟩:=c;exact SeqAt.EqAt.bool_str a b t
  | _=>exact absurd (f) M4
 | int a=>
  obtain⟨d,rfl⟩:=e;cases x with
  | non=>cases c;exact SeqAt.EqAt.int_none a d
  | bl b=>cases c;exact SeqAt.EqAt.int_bool a d b
  | int b=>obtain⟨t,rfl⟩:=c;exact SeqAt.EqAt.int_int a d b t
  | str b=>obtain⟨t,rfl⟩:=c;exact SeqAt.EqAt.int_str a d b t
  | _=>exact absurd (f) M4
 | str a=>
  obtain⟨d,rfl⟩:=e;cases x with
  | non=>cases c;exact SeqAt.EqAt.str_none a d
  | bl b=>cases c;exact SeqAt.EqAt.str_bool a d b
  | int b=>obtain⟨t,rfl⟩:=c;exact SeqAt.EqAt.str_int a d b t
  | str b=>obtain⟨t,rfl⟩:=c;exact SeqAt.EqAt.str_str a d b t
  | _=>exact absurd (f) M4
 | _=>exact absurd (g) M4
def eqU(x:V)(u:Value):Bool:=match u with
 | .none=>eqV .non x
 | .bool b=>eqV (.bl b) x
 | .int i _=>eqV (.int i) x
 | .str z _=>eqV (.str z) x
 | _=>false
def jgL(r:RelV y u)(f:VU y=true):eqU x u=eqV y x:=by
 cases y with
 | non=>cases r;rfl
 | bl b=>cases r;rfl
 | int i=>obtain⟨t,rfl⟩:=r;rfl
 | str z=>obtain⟨t,rfl⟩:=r;rfl
 | _=>exact absurd (f) M4
theorem VG:∀{xs}{us},Vals xs us->xs.all VU=true->us.any (eqU x)=xs.any λy=>eqV y x
 | _,_,.nil,_=>rfl
 | y::xs,u::us,.cons r t,f=>by
  rw[List.all_cons,M0] at f;rw[List.any_cons,List.any_cons,jgL r f.1,VG t f.2]
theorem JR(b:RelV x v)(c:VU x=true):∀{xs}{us},Vals xs us->xs.all VU=true->∀ u∈us,SeqAt.EqAt A s u v<|eqU x u
 | _,_,.nil,_=>λu a=>by cases a
 | y::xs,u::us,.cons r t,f=>λd a=>by
  rw[List.all_cons,M0] at f;rcases M5.mp a with rfl | a
  ·rw[jgL r f.1];exact jlk r b f.1 c
  ·exact JR b c t f.2 d a
def inV(x:V)(xs:List V):Bool:=xs.any λy=>eqV y x
def rIn(K:W4)(neg:Bool):R2:=λx y H Q=>∃ p xs,y=.ref p/\(SqL K H p xs\/SqT K H p xs)/\VU x=true/\xs.all VU=true/\Q (.bl<|if neg then !inV x xs else inV x xs) H
def jcT:OpR X (compareOp .In) (rIn X.K false):=by
 intro d s σ H x y v u Q I e g h;obtain⟨p,j,rfl,b,f,fs,q⟩:=h;cases g;rcases b with b | b
 ·obtain⟨a,r,pl,i⟩:=I.list b;refine SeqAt.in_listAt (eqU x) pl.isList (λw c=>JR e f r fs w ⇑c) ⟨.bl _,H,I,rfl,?_⟩;rw[show a.toArray.any (eqU x)=a.any (eqU x) by simp,VG r fs];exact q
 ·obtain⟨a,r,pl,i⟩:=I.tuple b;refine SeqAt.in_tupleAt (eqU x) pl (λw c=>JR e f r fs w ⇑c) ⟨.bl _,H,I,rfl,?_⟩;rw[show a.toArray.any (eqU x)=a.any (eqU x) by simp,VG r fs];exact q
def z5:OpR X (compareOp .NotIn) (rIn X.K true):=by
 intro d s σ H x y v u Q I e g h;obtain⟨p,j,rfl,b,f,fs,q⟩:=h;cases g;rcases b with b | b
 ·obtain⟨a,r,pl,i⟩:=I.list b;refine SeqAt.notIn_listAt (eqU x) pl.isList (λw c=>JR e f r fs w ⇑c) ⟨.bl _,H,I,rfl,?_⟩;rw[show a.toArray.any (eqU x)=a.any (eqU x) by simp,VG r fs];exact q
 ·obtain⟨a,r,pl,i⟩:=I.tuple b;refine SeqAt.notIn_tupleAt (eqU x) pl (λw c=>JR e f r fs w ⇑c) ⟨.bl _,H,I,rfl,?_⟩;rw[show a.toArray.any (eqU x)=a.any (eqU x) by simp,VG r fs];exact q
def Q6:qe X (.type "list") (λxs H Q=>∃ p ys,xs=[.ref p]/\(SqL X.K H p ys\/SqT X.K H p ys)/\∀ l,H l=none->Q (.ref l) (upd H l<|.lst ys)):=by
 intro d s σ H xs z Q I r h;obtain⟨p,ys,rfl,f,q⟩:=h;obtain⟨u,rfl,y⟩:=jj0 r;cases y;have g:∀ a,Vals ys a->ys.length<=sizeLine->∀ i m,(∀ b x,s.heap.get? b=some x->i.get? b=some x) ->
   i.get? ↥s=some {cls:=.type "list",dict:=none,data:=.seq a.toArray m,slots:=#[]}->EP X d σ Q (.ref ↥s) {s with heap:=i}:=λa c j i m kp e=>
  ⟨.ref ↥s,_,I.laid kp (N0 _)<|show ObjOk X.prog X.w _ i _ (.lst ys) from⟨j,a,m,c,e⟩,rfl,q _<|I.hok.fresh<|N0 _⟩
 rcases f with f | f
 ·obtain⟨a,c,pl,j⟩:=I.list f;have k:=c.length;obtain⟨o,t,v,n,hd⟩:=pl.isList;exact call_list_seq p (.inl rfl) t v hd (g a c j) (by simp only[N4]<;>lia)
 ·obtain⟨a,c,pl,j⟩:=I.tuple f;have k:=c.length;obtain⟨o,t,v,n,hd⟩:=pl;exact call_list_seq p (.inr rfl) t v hd (g a c j) (by simp only[N4]<;>lia)
def Qc:qe X (.type "tuple") (λxs H Q=>∃ p ys,xs=[.ref p]/\((SqL X.K H p ys/\∀ l,H l=none->Q (.ref l) (upd H l<|.tup ys))\/(SqT X.K H p ys/\Q (.ref p) H))):=by
 intro a s σ H xs t Q I r h;obtain⟨p,ys,rfl,h⟩:=h;obtain⟨u,rfl,m⟩:=jj0 r;cases m;rcases h with⟨f,q⟩ | ⟨f,q⟩
 ·obtain⟨c,g,pl,i⟩:=I.list f;have j:=g.length;refine call_tuple_list pl.isList (λd kp=>?_) (by simp only[N4]<;>lia);have k:Inv X a σ H {s with heap:=d}:=I.kept kp;have n:Inv X a σ (upd H d.objs.size<|.tup ys) { s with heap:=d.push {cls:=.type "tuple",data:=.seq c.toArray} }:=
   k.laid (λb o e=>L8 _ e) (N0 _) (⟨i,c,g,IsTupN.new _ _⟩)
  exact⟨.ref d.objs.size,_,n,rfl,q _<|k.hok.fresh<|N0 _⟩
 ·obtain⟨c,g,pl,i⟩:=I.tuple f;exact call_tuple_same pl ⟨.ref p,H,I,rfl,q⟩
def tyV(K:W4)(T:String)(x:V)(H:Hp):Prop:=match x with
 | .str _=>T = "str"
 | .int _=>T = "int"
 | .ref p=>(T = "list"/\∃ xs,SqL K H p xs)\/(T = "tuple"/\∃ o,K.lookup p=some o/\o.cls=.type "tuple"/\o.dict=none) \/
   (T = "dict"/\((∃ kvs,H p=some (.dK kvs)) \/ ∃ kvs,H p=some (.dT kvs)))\/(T = "set"/\∃ S n,H p=some (.set S n))
 | _=>False
def jg9(I:Inv X pins σ H s)(r:RelV x v)(ty:tyV X.K T x H):
  s.TypeIs v T/\∀ a,v=.ref a->∃ ob,s.heap.get? a=some ob/\ob.dict=none:=by
 cases x with
 | str z=>
  obtain⟨t,rfl⟩:=r;cases(ty);exact⟨typeIs_str s z t,λ_ e=>nomatch e⟩
 | int i=>
  obtain⟨t,rfl⟩:=r;cases(ty);exact⟨typeIs_int s i t,λ_ e=>nomatch e⟩
 | ref p=>
  cases r;rcases ty with⟨rfl,j,f⟩ | ⟨rfl,o,b,g,hd⟩ | ⟨rfl,b⟩ | ⟨rfl,S,n,b⟩
  ·obtain⟨h,_,pl,_⟩:=I.list f;refine⟨pl.isList.typeIs,λa e=>?_⟩;cases e;obtain⟨o,n,e,c,hd,_⟩:=pl;exact⟨o,e,hd⟩
  ·refine⟨⟨o,I.kIn p o b,g⟩,λa e=>?_⟩;cases e;exact⟨o,I.kIn _ o b,hd⟩
  ·have z:∃ o,s.heap.get? p=some o/\o.ExactDict:=by
    rcases b with⟨d,b⟩ | ⟨d,b⟩
    ·obtain⟨_,_,_,_,o,_,_,e,ex,_⟩:=I.hok p _ b;exact⟨o,e,ex⟩
    ·obtain⟨_,_,_,_,o,_,_,e,ex,_⟩:=I.hok p _ b;exact⟨o,e,ex⟩
   obtain⟨o,e,ex⟩:=z;refine⟨⟨o,e,ex.1⟩,λa e2=>?_⟩;cases e2;exact⟨o,e,ex.2.1⟩
  ·obtain⟨o,_,_,_,e,ex,_⟩:=I.hok p _ b;refine⟨⟨o,e,ex.1⟩,λa e2=>?_⟩;cases e2;exact⟨o,e,ex.2.1⟩
 | _=>exact False.elim ty
def jpl(K:W4)(T:String)(r:V->List V->Hp->VK->Prop)(to:TE):TE:=λσ H Q=>to σ H λx H1=>tyV K T x H1/\r x [] H1 Q
def tBM(K:W4)(T:String)(r:V->List V->Hp->VK->Prop)(to:TE)(t:TA):TE:=λσ H Q=>to σ H λx H1=>tyV K T x H1/\t σ H1 λxs H2=>r x xs H2 Q
variable {o e:Expr}{es:List Expr}{to:TE}{t:TA}{name:Str}{apos cpos:Pos}{T id:String}{r:V->List V->Hp->VK->Prop}
def jmE(pa:PlainAttrs T)(slot:Slot T name id)(d:typeOf (.builtin id)=pure (.type "method_descriptor"))(f:MtR X id r)(g:PE X o to)
  (b:attributeBase o name X.env (eval o X.env)=eval o X.env:=by rfl) (c:(apos.endLine==cpos.line)=true:=by rfl):PE X (.Call (.Attribute o name apos) [] [] cpos) (jpl X.K T r to):=by
 intro a s σ H Q I h;refine wpAny_Call_method0_late b c<|thn (g a s σ H _ I h) λv s1 i=>?_;obtain⟨x,j,e,r1,ty,k⟩:=i;obtain⟨l,m⟩:=jg9 e r1 ty;exact⟨T,id,pa,slot,d,l,m,Calls.callWith_builtin rfl<|PySem.evalArgs_none<|f a s1 σ j x [] v [] Q e r1 .nil k⟩
def jcZ(pa:PlainAttrs T)(slot:Slot T name id)(g:typeOf (.builtin id)=pure (.type "method_descriptor"))(k:MtR X id r)(l:PE X o to)(m:PA X (e::es) t)
  (c:attributeBase o name X.env (eval o X.env)=eval o X.env:=by rfl)
  (f:((backTo cpos<|starEach (e::es) X.env).all (λx=>!x.1)&&(backToKw cpos<|keywordEach [] X.env).all (λx=>x.1.isSome)
   && decide ((e::es).length+([]:List Keyword).length+(if([]:List Keyword).isEmpty then 0 else 1)<30))=true:=by rfl)
  (d:(apos.endLine==cpos.line)=true:=by rfl) (n:SEq X e es:=by rfl) (b:BkE X cpos es:=by rfl):
  PE X (.Call (.Attribute o name apos) (e::es) [] cpos) (tBM X.K T r to t):=by
 intro a s σ H Q I h;refine wpAny_Call_method_late c f d rfl<|thn (l a s σ H _ I h) λv s1 p=>?_;obtain⟨x,q,i,r1,ty,u⟩:=p;obtain⟨w,y⟩:=jg9 i r1 ty;refine⟨T,id,pa,slot,g,w,y,?_⟩;have j:=m cpos a s1 σ q _ i u;rw[n] at j ⊢;refine Calls.callWith_builtin (by show(false||(backTo cpos<|starEach es X.env).any (·.1))=false;rw[b]<;>rfl)<|Calls.evalArgs_plain ?_;exact thn j λz s2 ⟨vs,A,B,r2,C⟩=>k a s2 σ A x vs v z Q B r1 r2 C
end
def MtM(X:Cx)(id:String)(r:V->List V->Hp->VK->Prop):Prop:=
 ∀ pins s (σ:St) H x xs v us Q,Inv X pins σ H s->RelV x v->Vals xs us->r x xs H Q ->
  wpAny (model X.prog X.w) X.A (call (.builtin id)<|v::us) (EP X pins σ Q) X.xe s
def Vals.one(h:Vals [x] us):∃ u,us=[u]/\RelV x u:=by
 cases h with | cons r t=>cases t;exact⟨_,rfl,r⟩
def Vals.two(h:Vals [x,y] us):Ex2 λu v=>An3 (us=[u,v]) (RelV x u) (RelV y v):=by
 cases h with | cons r t=>cases t with | cons q t=>cases t;exact⟨_,_,rfl,r,q⟩
def Vals.zero:∀{us},Vals [] us->us=[]
 | _,.nil=>rfl
section
variable {X:Cx}{pins:List (Addr×Obj)}{σ:St}{H:Hp}{s:Shared}{l b:Addr}{xs ys zs:List V}
def Inv.lset{its a:List Value}{n}{f}{t'}(I:Inv X pins σ H s)(b:H l=some (.lst xs))
  (e:s.heap.get? l=some {cls:=.type "list",data:=.seq its.toArray n}) (c:f its.toArray=a.toArray) (d:Vals ys a) (g:ys.length<=sizeLine):
  Inv X pins σ (upd H l<|.lst ys) {s with heap:=s.heap.update l<|Obj.mapSeq f,toks:=t'}:=by
 have q:=PySem.IsL.update e f;rw[c] at q;refine I.write (by rw[b];exact trivial) (.inl rfl) (λb' u hb h=>(Heap.get?_update_other s.heap (Obj.mapSeq f)<|Ne.symm hb).trans h) ⟨_,q⟩ ?_;exact⟨g,a,_,d,q⟩
def Inv.lnew(I:Inv X pins σ H s)(a:Vals ys its)(b:ys.length<=sizeLine):
  Inv X pins σ (upd H ↥s (.lst ys)) { s with heap:=s.heap.push {cls:=.type "list",data:=.seq its.toArray},toks:=t' }:=
 I.laid (λ_ _ q=>L8 _ q) (N0 _) ⟨b,its,0,a,E2 _ rfl⟩
def Inv.fresh(I:Inv X pins σ H s):H ↥s=none:=I.hok.fresh<|N0 _
def Inv.lstM(I:Inv X pins σ H s)(a:H l=some (.lst xs)):xs.length<=sizeLine/\∃ its n,Vals xs its/\xs.length=its.length/\s.heap.get? l=some {cls:=.type "list",data:=.seq its.toArray n}:=by
 obtain⟨z,its,n,r,e⟩:=I.hok l _ a;exact⟨z,its,n,r,r.length,e⟩
def uj(h:n<=sizeLine):Builtin.List.listTooLong n=false:=by
 exact X5 ∅
end
section
variable {X:Cx}
def Jr:V->List V->Hp->VK->Prop:=λx vs H Q=>∃ l xs y,x=.ref l/\vs=[y]/\H l=some (.lst xs)/\xs.length<sizeLine/\Q .non (upd H l<|.lst<|xs++[y])
def JL:MtM X "list.append" Jr:=by
 intro b s σ H x vs v i Q I d f h;obtain⟨l,j,y,rfl,rfl,c,k,q⟩:=h;cases d;obtain⟨u,rfl,g⟩:=f.one;obtain⟨z,a,n,r,m,e⟩:=I.lstM c;refine call_meets F.slot_list_append ⟨_,e,rfl⟩ F.entry_list_append (F.args_list_append_2 _ _) (PySem.list_append l a.toArray n u<|by rw[N4];lia) ⟨e,?_⟩;refine⟨.non,_,I.lset c e (by simp) (r.append<|.cons g .nil) ?_,rfl,q⟩;rw[N5,List.length_singleton]
 lia
def jbQ:V->List V->Hp->VK->Prop:=λx vs H Q=>∃ l xs,x=.ref l/\vs=[]/\H l=some (.lst xs)/\Q .non (upd H l<|.lst [])
def jeB:MtM X "list.clear" jbQ:=by
 intro c s σ H x vs v i Q I f g h;obtain⟨l,j,rfl,rfl,d,q⟩:=h;cases f;have a:=g.zero;subst a;obtain⟨z,b,n,r,k,e⟩:=I.lstM d;refine call_meets F.slot_list_clear ⟨_,e,rfl⟩ F.entry_list_clear (F.args_list_clear_1 _) (AutoSeq1.list_clear_list_0 l b.toArray n<|by rw[N4];lia) ⟨e,?_⟩;exact⟨.non,_,I.lset d e rfl .nil<|U6 _,rfl,q⟩
end
end L2
namespace Att
open PySem PySem.W PySem.Calls PyProof.Rows
def Vd:∀ ns vs,WellAll P h vs (ns.map WData.int)->IntsAre vs ns:=by
 intro ns
 induction ns with
 | nil=>
  intro vs w;cases w;exact .nil
 | cons n ns c=>
  intro vs w;cases w with
  | cons a b=>
   cases a;exact .cons _ _<|c _ b
def script_of{l:OpenLaw}{n}(m:l.most=some n)  {h}{b}{c}
  (e:l.row.toRowW.claim.pre b=true) (j:WellAll P h c b):
  ∃ a vs ns,c=[Value.ref a]/\b=[WData.list<|ns.map WData.int]/\h.get? a=some {cls:=.type "list",data:=.seq vs.toArray}/\IntsAre vs ns/\ns.length<=n:=by
 obtain⟨d,r,rfl,o,p⟩:=hasAllW_cons<|(pre_splitW e).1;obtain rfl:=hasAllW_nil p;obtain⟨u,rfl,s⟩:=hasW_list o;obtain⟨ns,rfl⟩:=items_int s;have f:ns.length<=n:=by
  have i:(WTm.not<|.lt (.lit<|.int n)<|.len<|.arg 0).holds [] {args:=[.list<|ns.map .int]}=true:=by
   have i:=(holds_andW<|(pre_splitW e).2).1;rw[m] at i;exact i
  have k:=condW_of i<|w_not<|w_lt w_lit<|w_len_list<|w_arg rfl;refine Nat.le_of_not_lt λq=>?_
  first
   | (rw[X4 q'] at k;exact absurd k (by decide))
   | (simp at k;lia)
 cases j with
 | cons w1 w2=>
  cases w2;cases w1 with
  | list t g=>exact⟨_,_,ns,rfl,rfl,t,Vd ns _ g,f⟩
def post_true(l:OpenLaw)(a):l.row.toRowW.claim.post a (.bool true) a=true:=
 postW_of
  (by first | rfl | decide | simp[WShape.has,WShape.arms,WShape.armsAll])
  (w_eq_bool (w_res rfl) w_lit) rfl
end Att
namespace L2
open PySem PySem.Spec PyProof.Rows
theorem zf:∀{vs}{ns},IntsAre vs ns->Vals (ns.map V.int) vs
 | _,_,.nil=>.nil
 | _,_,.cons n t h=>.cons ⟨t,rfl⟩<|zf h
def jnV(H:Hp):Prop:=∀ b,H b=none \/ ∃ o xs,H b=some (.frz o<|.lst xs)
def jfK{P}{w}{K}{mg D}{CX}{k}{fa a}{fd}{x}{sp}{c}{vs}{ns}
  (M:K.In c.heap) (l:c.heap.Ns mainGlobals mg) (hb:c.heap.Ns builtinsNs D) (E:∀ x:Str,x≠"__name__"->D x=bootBuiltins x) (n:c.heap.NoLimit) (T:c.gens = #[])
  (A:c.heap.get? a=some {cls:=.type "list",data:=.seq vs.toArray}) (hi:IntsAre vs ns) (N:ns.length<=sizeLine) (U:Room k callerA)
  (F:∀ base:Heap,K.In base->base.Ns mainGlobals mg->FnOk P w K mg base CX k fa fd [x] sp) (j:∀ s u,BindsTo s fd ⟨[u],[]⟩ [(x,u)])
  (G:∀ H:Hp,jnV H->SqL K H a (ns.map V.int)->sp [.ref a] H (λv _=>v=.bl true) λ_ _ _=>False)
  (I:∀ H e s',CX [] H c (λ_ _ _=>False) e s'->False):
  codeAny (model P w) callerA (.call (.ref fa) ⟨[.ref a],[]⟩) (λr s'=>r=.ok (.ret<|.bool true)/\OldK c.heap s'.heap/\s'.os=c.os/\AllBare s'.gens) c:=by
 have O:=zf hi;have i:∀ H:Hp,jnV H->SqL K H a (ns.map V.int)->HOk P w H c.heap->(∀ b,H b≠none->b=a)->(H a≠none->K.lookup a=none) ->
   codeAny (model P w) callerA (.call (.ref fa) ⟨[.ref a],[]⟩) (λr s'=>r=.ok (.ret<|.bool true)/\OldK c.heap s'.heap/\s'.os=c.os/\AllBare s'.gens) c:=by
  intro H Q W hok R X;have f:∀{b}{o},c.heap.get? b=some o->H b=none->(jgV c.heap H).get? b=some o:=jgx;have J:∀{b}{o}{B}{C},c.heap.get? b=some o->o.data=.dict B C->H b=none:=λ{b o B C} e d=>by
   cases q:H b with
   | none=>rfl
   | some u=>
    have L:=R b (by rw[q];simp);subst L;rw[A] at e;cases e;cases d
  have g:∀{b}{m},c.heap.Ns b m->(jgV c.heap H).Ns b m:=λ{b m} ⟨o,B,C,e,d,r⟩=>⟨o,B,C,f e<|J e d,d,r⟩;have p:=λb o e=>f (M b o e) (by
   cases q:H b with
   | none=>rfl
   | some u=>
    have L:=R b (by rw[q];simp);subst L;rw[X<|by rw[q];simp] at e;cases e)
  have Y:Mod K mg (jgV c.heap H):=⟨p,g l,⟨D,g hb,E⟩,let ⟨mc,h1,h2⟩:=n;⟨mc,g h1,h2⟩⟩;have Z:Env0 P w K mg (jgV c.heap H) callerA [] c H:=⟨rfl,Y,λb o e=>jiQ e,Nat.le_of_eq<|jbz _ _,trivial,λb hb=>absurd (show b∈([]:W5) from hb)<|by simp,hok,.of_eq T⟩;refine codeAny_mono ((F _ p<|g l).run callerA [] c H ⟨[.ref a],[]⟩ [.ref a] [.ref a] _ _ U Z (j c<|.ref a) (.cons rfl .nil) (G H Q W)) λr s' h=>?_;cases r with
  | error e=>exact(I H e s' h).elim
  | ok fl=>
   cases fl with
   | next=>exact False.elim h
   | brk=>exact False.elim h
   | cont=>exact False.elim h
   | ret u=>
    obtain⟨v,H',os,bare,un,t,r',q⟩:=h;subst q;obtain rfl:u=Value.bool true:=r';refine⟨rfl,OldK.of_keep λb o e=>?_,os,bare⟩;cases q:H b with
    | none=>exact un.keep b o e q (by intro z;exact absurd (show b∈([]:W5) from z)<|by simp) (by simp)
    | some u=>
     rcases Q b with z | ⟨ob,xs,z⟩
     ·rw[q] at z;cases z
     ·have z2:=un.frzs b ob _ z;obtain⟨S,_⟩:=hok b _ z;obtain⟨e2,_⟩:=t b _ z2;rw[e] at S;cases S;exact e2
 cases hk:K.lookup a with
 | some o=>
  have e:=M a o hk;rw[A] at e;cases e;refine i (λ_=>none) (λ_=>.inl rfl) (.inr ⟨_,vs.toArray,_,hk,rfl,rfl,rfl,by rw[N4,hi.length];exact N,by simpa using O⟩) (λb u z=>by have y:=z;cases y) (λb z=>absurd rfl z)<|absurd rfl
 | none=>
  refine i (λb=>if b=a then some (.frz {cls:=.type "list",data:=.seq vs.toArray} (.lst<|ns.map V.int)) else none) (λb=>?_) (.inl<|.inr ⟨{cls:=.type "list",data:=.seq vs.toArray},if_pos rfl⟩) (λb u z=>?_) (λb z=>?_) λ_=>hk
  ·by_cases hb:b=a
   ·exact .inr ⟨_,_,if_pos hb⟩
   ·exact .inl<|if_neg hb
  ·by_cases hb:b=a
   ·have y:=(if_pos hb).symm.trans z;cases y;subst hb;exact⟨A,by rw[L1];exact N,vs,_,O,A⟩
   ·have y:=(if_neg hb).symm.trans z;cases y
  ·by_cases hb:b=a
   ·exact hb
   ·exact absurd (if_neg hb) z
noncomputable def qC(s:Stmt)(j:Nat):Stmt:=match s with
 | .ClassDef _ _ _ body _ _ _ _ _ _ _=>body.getD j<|.Pass ⟨0,0,0,0⟩
 | _=>.Pass ⟨0,0,0,0⟩
noncomputable def qF(s:Stmt):Arguments:=match s with
 | .FunctionDef _ a _ _ _ _ _ _ _ _=>a
 | _=>{posonlyargs:=[],args:=[],vararg:=none,kwonlyargs:=[],kw_defaults:=[],kwarg:=none,defaults:=[]}
noncomputable def vO(s:Stmt):List Stmt:=match s with
 | .FunctionDef _ _ b _ _ _ _ _ _ _=>b
 | _=>[]
noncomputable def jD(s:Stmt):Scope:=match s with
 | .FunctionDef _ _ _ _ _ _ sc _ _ _=>sc
 | _=>{kind:=.function,names:=[],isGenerator:=false,isCoroutine:=false}
noncomputable abbrev CX0:CXT:=λ_ _ _ _ _ _=>False
noncomputable abbrev E0:XK:=λ_ _ _=>False
def jds:Y7 CX0 X E0:=λ_ _ _ _ _ _ _ h=>h.elim
structure Fun(K:W4)(x qual:Str)(st:Stmt)(f:Addr)(fd:FuncData):Prop where
 ex:∃(oc:Value) (od:Option Addr) (kV doc pm:Value) (an:Option Addr) (cdv ct:Value) (osl:Array<|Option Value),
  fd=PySem.W.fnOf x qual (qF st) (vO st) (jD st) .none kV doc pm an cdv ct/\K.lookup f=some ⟨oc,od,.func fd,osl⟩/\PySem.W.codeIn K cdv qual=true
 kp:PySem.W.keepIn K (.ref f)=true
section
variable {P:Program}{w:World}{K:W4}{mg:W6}{base:Heap}
def Fun.ok{x qual}{st}{f}{fd}{N ps}{k}{sp}(F:Fun K x qual st f fd)(S:FnScope N ps<|jD st)(len:∀ vs H Q E,sp vs H Q E->vs.length=ps.length)
  (a:∀ cdv A outer s H vs Q E,Room k (A.deeper<|envOfC qual (jD st) ↥s f cdv)->sp vs H Q E ->
   ∃ t,PSs (jhb CX0 P w K mg base N qual (jD st) f cdv A outer s H E).nox (vO st) t/\t {nx:=λ_ H'=>Q .non H',rt:=Q} (start N vs) H):FnOk P w K mg base CX0 (k+1) f fd ps sp:=by
 obtain⟨oc,od,kV,d,j,l,cdv,ct,e,rfl,g,b⟩:=F.ex;refine joY g b S len λA outer s H vs Q E i c=>?_;obtain⟨t,h,q⟩:=a cdv A outer s H vs Q E i c;exact⟨t,h.nox,q⟩
def Fun.binds{x qual}{st}{f}{fd}{ps}(F:Fun K x qual st f fd)
  (h:∀ kV doc pm an cdv ct us,us.length=ps.length->bindArgs (PySem.W.fnOf x qual (qF st) (vO st) (jD st) .none kV doc pm an cdv ct) ⟨us,[]⟩=pure (ps.zip us)):Binds K fd ps []:=by
 obtain⟨oc,od,kV,doc,pm,an,cdv,ct,a,rfl,c,b⟩:=F.ex;exact .all<|h kV doc pm an cdv ct
def jae{x qual}{st}{f}{oc}{od an}{d}{kV b pm a ct}(l:K.lookup f=some ⟨oc,od,.func<|PySem.W.fnOf x qual (qF st) (vO st) (jD st) .none kV b pm an a ct,d⟩)
  (c:PySem.W.codeIn K a qual=true) (k:PySem.W.keepIn K (.ref f)=true):Fun K x qual st f (PySem.W.fnOf x qual (qF st) (vO st) (jD st) .none kV b pm an a ct):=⟨⟨oc,od,kV,b,pm,an,a,ct,d,rfl,l,c⟩,k⟩
end
def Yk(a:Room k A):A.units+1<cLine:=E3 (Nat.add_le_add_left (by decide:1<=64) _) a.units
def jb8(h:n<=1000):n<sizeLine:=E3 h (by decide)
def jgh{A B:Prop}(h:B):if false=true then A else B:=by
 exact h
def jet{A B:Prop}(h:A):if true=true then A else B:=by
 exact h
theorem xt(I:Nat->Shared->Prop)
  (turn:∀ n s,I n s->wpAny (model prog w) A (pyNext it) (λr s₁=>match r with
   | none=>R (.ok .next) s₁
   | some v=>wpAny (model prog w) A (letOwnedTupleGo target it v) (λ_ s₁'=>wpAny (model prog w) A (assign target env v) (λ_ s₂=>
     wpAny (model prog w) A (forIn ifs true λc r=>if r=true then do let ok <- isTrue c env (eval c env);pure (ForInStep.yield ok) else pure (ForInStep.yield r)) (λok s₃=>
      if ok=true then wpAny (model prog w) A (eval elt env) (λx s₄=>
       wpAny (model prog w) A (call (.builtin "list.append") [acc,x]) (λ_ s₅=>∃ m,m<n/\I m s₅) (λ_ _=>False) s₄) (λ_ _=>False) s₃
      else ∃ m,m<n/\I m s₃) (λ_ _=>False) s₂) (λ_ _=>False) s₁') (λ_ _=>False) s₁) (λ_ _=>False) s)
  (n:Nat) (h:I n s):
  codeAny (model prog w) A (.compLoop (.ListComp elt [⟨target,iter,ifs,0⟩] scope pos) 0 it acc env) R s:=by
 have up:∀{α}{t}{Q:α->Shared->Prop}{E:J0}{s},wpAny (model prog w) A t Q (λ_ _=>False) s->wpAny (model prog w) A t Q E s:=
  λh=>wpAny_mono h (λ_ _ x=>x) λ_ _ z=>z.elim
 refine codeAny_loop rfl I (λn s e=>(wpAny_noted<|L3<|wpAny_standAt<|L3<|thn (up<|turn n s e) λr s₁ b=>?_)) n h;cases r with
 | none=>exact M8 b
 | some v=>
  refine L3<|thn (up b) λ_ s₁' a=>L3<|thn (up a) λ_ s₂ f=>L3<|thn (up f) λok s₃ d=>?_;cases ok with
  | false=>exact M8 ⟨rfl,d⟩
  | true=>
   exact L3<|L3<|thn (up d) λx s₄ g=>L3<|thn (up g) λ_ s₅ i=>M8<|M8 ⟨rfl,i⟩
noncomputable def jfL(env:Env):List (Str×NameKind)->List (Str×Addr)->List (Str×Addr)
 | [],cs=>cs
 | (n,k)::r,cs=>jfL env r (if k==NameKind.free then(match env.cells.lookup n with | some a=>(n,a)::cs | none=>cs) else cs)
def wQ(scope:Scope)(env:Env):List (Str×Addr):=jfL env scope.names []
theorem jki:∀ l cs,(∀ n k,(n,k)∈l->k=NameKind.free->∃ c,env.cells.lookup n=some c) ->
  (forIn (m:=Sem) l cs λx r=>match x with | (n,k)=>if k==NameKind.free then do let a <- cellOf env n;pure (ForInStep.yield<|(n,a)::r) else pure (ForInStep.yield r))=pure (jfL env l cs)
 | [],cs,_=>rfl
 | (n,k)::r,cs,h=>by
  rw[List.forIn_cons];by_cases b:(k==NameKind.free)=true
  ·obtain⟨c,j⟩:=h n k L7 ∅;have o:cellOf env n=pure c:=by unfold cellOf;rw[j]
   have d:=jki r ((n,c)::cs) λe f g i=>h e f (L6 _ g) i;simp only[b,if_true,o,pure_bind];rw[d]
   conv=>rhs;unfold jfL
   simp only[b,if_true,j]
  ·have d:=jki r cs λe f g i=>h e f (L6 _ g) i;simp only[b,if_false,pure_bind,Bool.false_eq_true];rw[d]
   conv=>rhs;unfold jfL
   simp only[b,if_false,Bool.false_eq_true]
def jbf(h:∀ n k,(n,k)∈scope.names->k=NameKind.free->∃ c,env.cells.lookup n=some c):closureFor scope env=pure (wQ scope env):=by
 unfold closureFor wQ;show(forIn scope.names [] λx r=>match x with | (n,k)=>if k==NameKind.free then do let a <- cellOf env n;pure (ForInStep.yield<|(n,a)::r) else pure (ForInStep.yield r)) >>= (pure)=_;rw[jki scope.names [] h,pure_bind]
theorem jgO:∀ l cs,(x,c)∈jfL env l cs->(x,c)∈cs\/env.cells.lookup x=some c
 | [],_,h=>.inl h
 | (n,k)::r,cs,h=>by
  rcases jgO r _ h with z | z
  ·grind
  ·lia
theorem jbu:∀ l cs,(x,c)∈cs->(x,c)∈jfL env l cs
 | [],_,h=>h
 | (n,k)::r,cs,h=>by
  refine jbu r _ ?_;split
  ·split
   ·exact L6 _ h
   ·exact h
  ·exact h
theorem jgU(a:env.cells.lookup x=some c):∀ l cs,(x,NameKind.free)∈l->(x,c)∈jfL env l cs
 | [],_,h=>nomatch h
 | (n,k)::r,cs,h=>by
  rcases M5.mp h with e | e
  ·cases e;refine jbu r _ ?_;simp only[ a];exact L7
  ·exact jgU a r _ e
theorem JG:∀{l:List (Str×β)}{c},(x,c)∈l->∃ d,l.lookup x=some d
 | (n,a)::r,c,h=>by
  rw[List.lookup_cons];cases e:x==n with
  | true=>exact⟨a,rfl⟩
  | false=>
   rcases M5.mp h with z | z
   ·lia
   ·exact JG z
def Vf(h:(wQ scope env).lookup x=some c):env.cells.lookup x=some c:=by
 rcases jgO scope.names [] (PySem.mem_of_lookup h) with z | z
 ·exact nomatch z
 ·exact z
def jdc(a:env.cells.lookup x=some c)(f:(x,NameKind.free)∈scope.names):(wQ scope env).lookup x=some c:=by
 obtain⟨d,e⟩:=JG<|jgU a scope.names [] f;have b:(wQ scope env).lookup x=some d:=e;rw[b,<- Vf b,a]
def JD(h:(n,k)∈(relabel scope env).names):(n,k)∈scope.names\/(k=.cell/\(n,NameKind.free)∈scope.names):=by
 obtain⟨⟨a,b⟩,c,e⟩:=M7.mp h;dsimp only at e;split at e
 ·lia
 ·lia
def kr(scope:Scope)(env:Env)(C:Addr):List (Str×Addr):=cellsFrom (C+1) scope.names<|wQ scope env
theorem jcJ:∀{names}{n:Nat}{acc:List (Str×Addr)},(∀ x y c,acc.lookup x=some c->acc.lookup y=some c->x=y)->(∀ x c,acc.lookup x=some c->c<n)->∀ x y c,(cellsFrom n names acc).lookup x=some c->(cellsFrom n names acc).lookup y=some c->x=y
 | [],n,acc,h,_=>h
 | (a,k)::r,n,acc,h,hb=>by
  unfold cellsFrom;split
  ·refine jcJ (λx y c b d=>?_)<|λx c b=>?_
   ·grind
   ·grind
  ·exact jcJ h hb
def jmt(h:∀ x y c,(wQ scope env).lookup x=some c->(wQ scope env).lookup y=some c->x=y)(hb:∀ x c,(wQ scope env).lookup x=some c->c<C+1)(x y)(c)(h1:(kr scope env C).lookup x=some c)(h2:(kr scope env C).lookup y=some c):x=y:=jcJ h hb x y c h1 h2
theorem wJ:∀{names}{n}{acc},(∃ c,acc.lookup x=some c)->∃ c,(cellsFrom n names acc).lookup x=some c
 | [],_,_,h=>h
 | (a,k)::r,n,acc,h=>by
  unfold cellsFrom;split
  ·refine wJ ?_;rw[List.lookup_cons];cases x==a with
   | true=>exact⟨n,rfl⟩
   | false=>exact h
  ·exact wJ h
theorem jdm:∀{names}{n}{acc},(x,NameKind.cell)∈names->∃ c,(cellsFrom n names acc).lookup x=some c
 | [],_,_,h=>nomatch h
 | (a,k)::r,n,acc,h=>by
  unfold cellsFrom;rcases M5.mp h with e | e
  ·cases e;refine wJ ⟨n,?_⟩;rw[List.lookup_cons,beq_self_eq_true]
  ·split
   ·exact jdm e
   ·exact jdm e
def jlm(h:(x,NameKind.cell)∈scope.names):∃ c,(kr scope env C).lookup x=some c:=jdm h
theorem xP:∀{names}{n}{acc},(x,NameKind.cell)∉names->(cellsFrom n names acc).lookup x=acc.lookup x
 | [],_,_,_=>rfl
 | (a,k)::r,n,acc,h=>by
  unfold cellsFrom;split
  ·rename_i b;have b:=eq_of_beq b;subst b;rw[xP λz=>h<|L6 _ z,List.lookup_cons];have:(x==a)=false:=U3.mpr λz=>h (by rw[z];exact L7);rw[this]
  ·exact xP λz=>h<|L6 _ z
theorem xJ:∀ names (h:Heap) acc x c,(cellsFrom h.objs.size names acc).lookup x=some c->(h.objs.size<=c/\(pushCells h names).IsCell c none)\/acc.lookup x=some c
 | [],_,_,_,_,e=>.inr e
 | (a,k)::r,h,acc,x,c,e=>by
  unfold cellsFrom at e;unfold pushCells;split at e
  ·rename_i b;rw[if_pos b];rcases xJ r (h.push {cls:=.type "cell",data:=.cell none}) ((a,h.objs.size)::acc) x c (by rw[Heap.size_push];exact e) with q | q
   ·rw[Heap.size_push] at q;exact .inl ⟨Nat.le_of_succ_le q.1,q.2⟩
   ·rw[List.lookup_cons] at q;cases e1:x==a with
    | true=>
     rw[e1] at q;cases q;exact .inl ⟨N0 _,⟨_,pushCells_keeps r _ _ _<|E2 _ rfl,rfl⟩⟩
    | false=>rw[e1] at q;exact .inr q
  ·rename_i b;rw[if_neg b];exact xJ r h acc x c e
theorem V7:∀ l cs,(x,c)∈jfL env l cs->(x,c)∈cs\/(x,NameKind.free)∈l
 | [],_,h=>.inl h
 | (n,k)::r,cs,h=>by
  rcases V7 r _ h with z | z
  ·grind
  ·exact .inr<|L6 _ z
def jcY(h:(wQ scope env).lookup x=some c):(x,NameKind.free)∈scope.names:=by
 rcases V7 scope.names [] (PySem.mem_of_lookup h) with z | z
 ·exact nomatch z
 ·exact z
def Qo 
  (h:Q (newEnv scope ↥s globals (cellsFrom (↥s+1) scope.names cl) qual none .none (some env) builtinsNs) { s with heap:=pushCells (s.heap.push {cls:=.type "dict",data:=.dict #[]}) scope.names }):
  wpAny M A (newFunctionEnv scope globals cl [] qual none .none<|some env) Q E s:=by
 simp only[newFunctionEnv,Option.isSome_some];refine L3<|wpAny_alloc ?_;refine L3<|wpAny_layCells _ (λnm kd a=>by cases hq:kd==NameKind.cell<;>simp[hq]) _ _ _ _ ?_;rw[Heap.size_push ..];exact L3<|M8<|M8 h
def j7(X:Cx)(scope:Scope)(N':List Str)(C:Addr)(s₃:Shared)(H₃:Hp)(fp:W5):Cx:=
 {X with N:=N',s₀:=s₃,H₀:=H₃,env:=compEnvC scope (kr scope X.env C) C X.env,outer:=X.stack,stack:=X.stack,ex:=fp,fn:=λx=>scope.names.lookup x==some NameKind.cell,pn:=[],xe:=λ_ _=>False}
structure BlockOk(X:Cx)(scope:Scope)(N':List Str)(ix:List<|Option Nat):Prop where
 kind:scope.kind=.function
 names:∀ y∈scope.names,y.2=.local->scope.names.lookup y.1=some .local
 cells:∀ y∈scope.names,y.2=.cell->scope.names.lookup y.1=some .cell
 uniq:∀ y∈scope.names,y.2=.free->scope.names.lookup y.1=some .free
 outer:∀ y∈scope.names,y.2=.free->X.env.kindOf y.1=some .cell\/X.env.kindOf y.1=some .free
 nd:N'.Nodup
 len:ix.length=N'.length
 at_:∀(i j:Nat) (x:Str),ix[i]?=some (some j)->N'[i]?=some x->X.N[j]?=some x/\(x,NameKind.free)∈scope.names
 func:X.env.scope.kind=.function
def BlockOk.free(B:BlockOk X scope N' ix)  (h:(x,NameKind.free)∈scope.names):(kr scope X.env C).lookup x=(wQ scope X.env).lookup x:=
 xP λz=>by
  have a:=B.cells _ z rfl;rw[B.uniq _ h rfl] at a;cases a
noncomputable def ym(ix:List<|Option Nat)(σ:St):St:=ix.map λo=>o.bind λj=>(σ[j]?).join
abbrev BW:=Nat->Nat->St->Hp->Prop
def jat(tc:TT)(te:TE)(g:TG)(J:It)(p:Addr)(σ':St)(H1:Hp)(Q:Hp->Prop):Prop:=
 ∃ W:BW,(∃ m,W 0 m σ' H1)/\∀ i m σ2 H2,W i m σ2 H2->(J.stop i H2/\Q H2) \/
  (J.go i H2/\∀ x H3,J.yld i H2 x H3->g x σ2 H3 λσ4 H4=>tc σ4 H4 λb H5=>if b=true then
   te σ4 H5 λy H6=>∃ ys,H6 p=some (.lst ys)/\ys.length<sizeLine/\∃ m',m'<m/\W (i+1) m' σ4 (upd H6 p<|.lst<|ys++[y])
   else ∃ m',m'<m/\W (i+1) m' σ4 H5)
def V3(wi:TI)(g:TG)(tc:TT)(te:TE)(ix:List<|Option Nat):TE:=λσ H Q=>wi σ H λJ H1=>∀ p,H1 p=none->jat tc te g J p (ym ix σ) (upd H1 p<|.lst []) λH2=>Q (.ref p) H2
def PIf(X:Cx)(ifs:List Expr)(tc:TT):Prop:=(ifs=[]/\tc=λ_ H Q=>Q true H) \/ ∃ c,ifs=[c]/\PT X c tc
def jdg(B:BlockOk X scope N' ix)(I:Inv X pins σ H s)(h:∀ b∈fp,uy X pins H b)(n:∀ b∈fp,b < ↥s)
  (F:h₁.Ns ↥s (λ_=>none)) (E:∀ b o,s.heap.get? b=some o->h₁.get? b=some o)
  (g:∀ x c,(kr scope X.env ↥s).lookup x=some c->(↥s+1<=c/\h₁.IsCell c none)\/(wQ scope X.env).lookup x=some c):
  Inv (j7 X scope N' ↥s s H fp) [] (ym ix σ) H {s with heap:=h₁,toks:=t}:=by
 have d:∀ x c,(wQ scope X.env).lookup x=some c->X.env.cells.lookup x=some c:=λx c e=>Vf e;have G:∀ x c,X.env.cells.lookup x=some c->c < ↥s:=λx c e=>by
  obtain⟨v,o,w,_⟩:=I.cell x c e;exact N2 w
 refine⟨⟨I.ok.mod,B.kind,I.ok.glob,I.ok.blt,N0 _,jmt (λx y c A C=>I.ok.inj x y c (d x c A)<|d y c C)<|λx c e=>Nat.lt_succ_of_lt<|G x c<|d x c e,λx J=>?_,(λx c A C=>?_),I.ok.hd,I.ok.frames,.inl rfl,λb hb=>⟨N7<|n b hb,λx c e=>?_⟩,
  I.bs,N8 I.ok.bsz I.sz,λb o e hb=>?_,λb hb z=>?_,I.stack,I.stkFree⟩,rfl,I.bare,Un.kept E,⟨_,F,λi x v A C P=>?_⟩,λx c e=>?_,I.hok.fresh<|N0 _,λx c e=>?_,(λp Q=>nomatch (Q)),I.hok.kept E,?_⟩
 ·have K:=J;have f:(x,NameKind.free)∈scope.names\/(x,NameKind.cell)∈scope.names:=by
   rcases K with q | q
   ·rcases JD (PySem.mem_of_lookup q) with z | z
    ·lia
    ·lia
   ·rcases JD (PySem.mem_of_lookup q) with z | z
    ·lia
    ·lia
  rcases f with f | f
  ·obtain⟨c,L⟩:=I.ok.has x<|B.outer _ f rfl;exact⟨c,by show(kr scope X.env ↥s).lookup x=some c;rw[B.free f];exact jdc L f⟩
  ·exact jlm f
 ·-- the block's own cells are new
  have J:=A;rcases g x c C with⟨q,_⟩ | q
  ·exact Nat.le_of_succ_le q
  ·exfalso;have h:=jcY q;have D:=B.uniq _ h rfl;rw[eq_of_beq J] at D;cases D
 ·rcases g x c e with⟨q,_⟩ | q
  ·exact Nat.ne_of_gt<|U5 (n b hb)<|Nat.le_of_succ_le q
  ·exact(h b hb).2.2.2.2.1 x c (d x c q)
 ·rcases(h b hb).2.2.2.1 with z | z
  ·exact I.ok.noex b o e z
  ·exact absurd (U5 (N2 e)<|N8 I.ok.bsz z)<|Nat.lt_irrefl _
 ·rcases M5.mp (I.stkSub b z) with q | q
  ·exact(h b hb).2.1 q
  ·exact(h b hb).2.2.1 q
 ·have a:=C;unfold ym at a;rw[List.getElem?_map] at a;cases e:ix[i]? with
  | none=>rw[e] at a;cases a
  | some o=>
   rw[e] at a;cases o with
   | none=>cases a
   | some j=>
    have N:(σ[j]?).join=some v:=X7 a;have R:σ[j]?=some (some v):=by grind
    obtain⟨S,f⟩:=B.at_ i j x e A;have M:=B.outer _ f rfl;obtain⟨m,U,T⟩:=I.loc;obtain⟨u,r,l⟩:=T j x v S R<|M.elim (λz=>.inr<|.inl z) λz=>.inr<|.inr z;refine⟨u,r,.inr ?_⟩;rcases l with⟨k,_⟩ | ⟨_,c,L,z⟩
    ·lia
    ·refine⟨?_,c,by show(kr scope X.env ↥s).lookup x=some c;rw[B.free f];exact jdc L f,?_⟩
     ·rcases P with y | y | y
      ·have:=PySem.mem_of_lookup y;rcases JD this with O | O
       ·have D:=B.names _ O rfl;rw[B.uniq _ f rfl] at D;cases D
       ·lia
      ·exact .inl y
      ·exact .inr y
     ·obtain⟨o,w,hd⟩:=z;exact⟨o,E c o w,hd⟩
 ·rcases g x c e with⟨_,q⟩ | q
  ·exact⟨none,q⟩
  ·obtain⟨v,o,w,hd⟩:=I.cell x c<|d x c q;exact⟨v,o,E c o w,hd⟩
 ·rcases g x c e with⟨q,_⟩ | q
  ·exact I.hok.fresh<|Nat.le_of_succ_le q
  ·exact I.freeC x c<|d x c q
 ·show(ym ix σ).length=N'.length;unfold ym;rw[L1,B.len]
def Inv.other(I:Inv X pins σ H s)(f:uy X pins H C)(a:Heap.SameBut C s.heap h'):Inv X pins σ H {s with heap:=h'}:=
 I.turned (a.extBut) f.1 f.2.1 f.2.2.2.1 f.2.2.2.2.1 f.2.2.2.2.2
def JP{X:Cx}{ifs:List Expr}{N':List Str}{ix:List (Option Nat)}{pins:List (Addr×Obj)}{s:Shared}{Q:Addr->Hp->Prop}{D:Option (Value->Sem Unit)}{QQ:J0}(B:BlockOk X scope N' ix)(hc:X.calm=true)(hi:PI X tg iter wi)
  (hg:∀ C s H fp,PG (j7 X scope N' C s H fp) tg g) (hif:∀ C s H fp,PIf (j7 X scope N' C s H fp) ifs tc) (he:∀ C s H fp,PE (j7 X scope N' C s H fp) elt te)
  (hs:∀ x,foldedSetIterable iter X.env x=pure x) (I:Inv X pins σ H s)
  (h:wi σ H λJ H1=>∀ p,H1 p=none->jat tc te g J p (ym ix σ) (upd H1 p<|.lst []) (Q p))
  (hend:∀ p C s' H',Q p H'->Inv X pins σ H' s'->uy X pins H' C->(∃ m,s'.heap.Ns C m)->compPost (model X.prog X.w) X.A X.xe D QQ (.ref p) C (.ok .next) s'):
  wpAny (model X.prog X.w) X.A (comprehension (.ListComp elt [⟨tg,iter,ifs,0⟩] scope pos) scope X.env pos' (newList []) false (eval iter X.env) D) QQ X.xe s:=by
 refine wpAny_comprehension_free rfl hs (jbf λn k hm hk=>I.ok.has n<|B.outer _ hm hk) B.kind B.names<|thn (hi pins s σ H _ I h) λv s1 h1=>thn h1 λitv s2 h2=>?_;obtain⟨it,fp,tn,J,L,rfl,I2,T,V,f2,h2⟩:=h2;refine wpAny_newObj_type<|Qo ?_;dsimp only;have I3:Inv X pins σ (upd L ↥s2 (.lst [])) { s2 with heap:=s2.heap.push {cls:=.type "list",data:=.seq ([]:List Value).toArray} }:=I2.lnew .nil<|U6 _;generalize hs3:({ s2 with heap:=s2.heap.push {cls:=.type "list",data:=.seq ([]:List Value).toArray} }:Shared)=s3 at I3;have e3:s3.heap=s2.heap.push {cls:=.type "list",data:=.seq ([]:List Value).toArray}:=by lia
 have hk3:∀ b o,s2.heap.get? b=some o->s3.heap.get? b=some o:=λb o e=>by rw[e3];exact L8 _ e
 have Y:∀ b∈fp,b < ↥s3:=λb hb=>by
  obtain⟨o,e,_⟩:=T.obj _ _ V b hb;exact N2<|hk3 b o e
 have nep:∀ b∈fp,b≠↥s2:=λb hb z=>by
  obtain⟨o,e,_⟩:=T.obj _ _ V b hb;exact absurd (N2 e) ∅
 have M:∀ b∈fp,uy X pins (upd L ↥s2 (.lst [])) b:=λb hb=>⟨by rw[je<|nep b hb];exact(f2 b hb).1,(f2 b hb).2⟩;have hh₁:∃ N,N=pushCells (s3.heap.push {cls:=.type "dict",data:=.dict #[]}) scope.names:=⟨_,rfl⟩;obtain⟨N,O⟩:=hh₁;rw[<- e3,<- O];have hk4:∀ b o,s3.heap.get? b=some o->N.get? b=some o:=λb o e=>by
  rw[O];exact pushCells_keeps _ _ b o<|L8 _ e
 have hns4:N.Ns ↥s3 (λ_=>none):=by
  rw[O];exact(Heap.Ns.new s3.heap<|.type "dict").keeps (pushCells_keeps _ _)
 have P:∀ x c,(kr scope X.env ↥s3).lookup x=some c->(↥s3+1<=c/\N.IsCell c none)\/(wQ scope X.env).lookup x=some c:=λx c e=>by
  have q:=xJ scope.names (s3.heap.push {cls:=.type "dict",data:=.dict #[]}) (wQ scope X.env) x c (by rw[Heap.size_push];exact e);rw[Heap.size_push,<- O] at q;exact q
 have I4:Inv (j7 X scope N' ↥s3 s3 (upd L ↥s2 (.lst [])) fp) [] (ym ix σ) (upd L ↥s2 (.lst [])) {s3 with heap:=N,toks:=s2.toks}:=jdg B I3 M Y hns4 hk4 P;have st4:tn 0 N:=T.keep _ _ _ V λb hb o e=>hk4 b o<|hk3 b o e;obtain⟨W,⟨m0,w0⟩,turn⟩:=h2 _ I2.fresh;have hg':=hg ↥s3 s3 (upd L ↥s2 (.lst [])) fp;have R:=hif ↥s3 s3 (upd L ↥s2 (.lst [])) fp;have he':=he ↥s3 s3 (upd L ↥s2 (.lst [])) fp;generalize a:j7 X scope N' ↥s3 s3 (upd L ↥s2 (.lst [])) fp=X' at I4 hg' R he';have Z:X'.prog=X.prog:=by rw[<- a];rfl
 have eW:X'.w=X.w:=by rw[<- a];rfl
 have eK:X'.K=X.K:=by rw[<- a];rfl
 have eA:X'.A=X.A:=by rw[<- a];rfl
 have eC:X'.calm=true:=by rw[<- a];exact hc
 have eE:X'.env=compEnvC scope (kr scope X.env ↥s3) ↥s3 X.env:=by rw[<- a];rfl
 have eX:X'.xe=λ_ _=>False:=by rw[<- a];rfl
 have E:∀{H':Hp},(∀ b∈fp,H' b=none)->∀ b∈fp,uy X' [] H' b:=λhn b hb=>by
  refine⟨hn b hb,?_,?_,?_,?_,?_⟩
  ·rw[eE];exact N7<|Y b hb
  ·rw[<- a];intro z;rcases M5.mp (I3.stkSub b z) with q | q
   ·exact(M b hb).2.1 q
   ·exact(M b hb).2.2.1 q
  ·rw[<- a];exact .inl hb
  ·rw[eE];intro x c e;rcases P x c e with⟨q,_⟩ | q
   ·exact Nat.ne_of_gt<|U5 (Y b hb)<|Nat.le_of_succ_le q
   ·exact(M b hb).2.2.2.2.1 x c (Vf q)
  ·rw[<- a];exact(λp hp=>nomatch (hp))
 have fin:∀{f:St}{H':Hp}{s':Shared},Inv X' [] f H' s'->Q ↥s2 H'->compPost (model X.prog X.w) X.A X.xe D QQ (.ref ↥s2) ↥s3 (.ok .next) s':=λ{f H' s'} J q=>by
  have hL:X'.env.locals=↥s3:=by rw[eE];rfl
  have un:Un (frs X.stack) fp (upd L ↥s2 (.lst [])) H' s3.heap s'.heap:=by
   have z:=J.base;rw[<- a] at z;exact z
  have hos:s'.os=s3.os:=by
   have z:=J.os;rw[<- a] at z;exact z
  have hok:HOk X.prog X.w H' s'.heap:=by
   have z:=J.hok;rw[Z,eW] at z;exact z
  have fc:H' ↥s3=none:=by
   have z:=J.free;rw[hL] at z;exact z
  have I5:Inv X pins σ H' s':=by
   obtain⟨hh,gg,dd,tt,oo⟩:=s';obtain rfl:oo=s3.os:=hos;exact I3.call un hok J.bare λb hb=>⟨(M b hb).2.2.2.1,(M b hb).2.1,(M b hb).2.2.2.2.1,(M b hb).2.2.2.2.2⟩
  obtain⟨m,hn,_⟩:=J.loc;rw[hL] at hn;exact hend _ _ s' H' q I5 (I3.fpOk (N0 _) fc) ⟨m,hn⟩
 have loop:∀ s',s'=({s3 with heap:=N,toks:=s2.toks}:Shared)->codeAny (model X.prog X.w) X.A (.compLoop (.ListComp elt [⟨tg,iter,ifs,0⟩] scope pos) 0 (.ref it) (.ref ↥s2) X'.env) (compPost (model X.prog X.w) X.A X.xe D QQ (.ref ↥s2) ↥s3) s':=by
  rintro s' rfl;refine xt (λn s'=>∃ i f H',Inv X' [] f H' s'/\tn i s'.heap/\(∀ b∈fp,H' b=none)/\W i n f H') ?_ m0 ⟨0,_,_,I4,st4,λb hb=>(M b hb).1,w0⟩;rintro n s5 ⟨i,σ5,H5,I5,st5,fr5,w5⟩;have it5:=T.item X' Z eW eK eC i [] s5 σ5 H5 (λ_ _=>False) I5 (E fr5) st5;have dn5:=T.done X' Z eW eK eC i [] s5 σ5 H5 (λ_ _=>False) I5 (E fr5) st5;rw[eA] at it5 dn5;rcases turn i n σ5 H5 w5 with⟨stop,qn⟩ | ⟨go,step⟩
  ·refine thn (dn5 stop) λr s6 ⟨hr,I6⟩=>?_;subst hr;exact fin I6 qn
  ·refine thn (it5 go) λr s6 ⟨u,hr,h6⟩=>?_;subst hr;refine thn h6 λ_ s7 hh=>?_;obtain⟨x,H7,I7,r7,y7,st7,fr7⟩:=hh;have a7:=hg' _ s7 σ5 H7 x u _ (I7.pinned (E fr7)<|T.obj _ _ st7) r7<|step x H7 y7;rw[Z,eW,eA,eX] at a7;refine thn a7 λ_ s8 hh=>?_;obtain⟨F,H8,I8,q8⟩:=hh;have G:∀{j:Shared}{t:Hp},Inv X' ([]++Ky fp s7.heap) F t j->(∃ l,l<n/\W (i+1) l F t)->∃ m,m<n/\∃ i f H',Inv X' [] f H' j/\tn i j.heap/\(∀ b∈fp,H' b=none)/\W i m f H':=λ{j t} S ⟨l,hm,w9⟩=>by
    refine⟨l,hm,i+1,F,t,S.unpinned,T.keep _ _ _ st7 λb hb o e=>(S.pin (b,o)<|U4 _<|U4 _<|kD hb e).1,λb hb=>?_,w9⟩;obtain⟨o,e,d⟩:=T.obj _ _ st7 b hb;exact(S.pin (b,o)<|U4 _<|U4 _<|kD hb e).2.1
   have J7:∀(b:Bool) (j:Shared) (t:Hp),Inv X' ([]++Ky fp s7.heap) F t j->(if b=true then te F t λy H6=>∃ ys,H6 ↥s2=some (.lst ys)/\ys.length<sizeLine/\∃ l,l<n/\W (i+1) l F (upd H6 ↥s2 (.lst<|ys++[y]))
     else ∃ l,l<n/\W (i+1) l F t) ->
     if b=true then wpAny (model X.prog X.w) X.A (eval elt X'.env) (λx s₄=>wpAny (model X.prog X.w) X.A (call (.builtin "list.append") [.ref ↥s2,x]) (λ_ s₅=>∃ m,m<n/\∃ i f H',Inv X' [] f H' s₅/\tn i s₅.heap/\(∀ b∈fp,H' b=none)/\W i m f H') (λ_ _=>False) s₄) (λ_ _=>False) j
     else ∃ m,m<n/\∃ i f H',Inv X' [] f H' j/\tn i j.heap/\(∀ b∈fp,H' b=none)/\W i m f H':=λb j t S q9=>by
    cases b with
    | false=>
     exact G S q9
    | true=>
     have a9:=he' _ j F t _ S q9;rw[Z,eW,eA,eX] at a9;refine thn a9 λyv s10 hh=>?_;obtain⟨y,H10,I10,r10,ys,e10,l10,q10⟩:=hh;have a10:=JL _ s10 F H10 (.ref ↥s2) [y] (.ref ↥s2) [yv] (λ_ H'=>∃ l,l<n/\W (i+1) l F H') I10 rfl (.cons r10 .nil) ⟨_,ys,y,rfl,rfl,e10,l10,q10⟩;rw[Z,eW,eA,eX] at a10;exact thn a10 λ_ s11 ⟨_,H11,I11,_,q11⟩=>G I11 q11
   rcases R with⟨e1,e2⟩ | ⟨c,e1,e2⟩
   ·subst e1;rw[e2] at q8;exact wpAny_tests_nil<|J7 true s8 H8 I8 q8
   ·subst e1;have a8:=e2 _ s8 F H8 _ I8 q8;rw[Z,eW,eA,eX] at a8;exact wpAny_tests_one<|thn a8 λb j ⟨t,S,q9⟩=>J7 b j t S q9
 have U:codeAny (model X.prog X.w) X.A (.compStart (.ListComp elt [⟨tg,iter,ifs,0⟩] scope pos) 0 (.ref it) (.ref ↥s2) X'.env) (compPost (model X.prog X.w) X.A X.xe D QQ (.ref ↥s2) ↥s3) {s3 with heap:=N,toks:=s2.toks}:=
  codeAny_compStart_list (loop _ rfl) (T.self _ 0 _ _ _ st4<|loop _ rfl)
 rw[eE] at U;subst hs3;exact U
def jbZ(B:BlockOk X scope N' ix)(c:X.calm=true)(hi:PI X tg iter wi)
  (d:∀ C s H fp,PG (j7 X scope N' C s H fp) tg g) (a:∀ C s H fp,PIf (j7 X scope N' C s H fp) ifs tc) (e:∀ C s H fp,PE (j7 X scope N' C s H fp) elt te)
  (i:∀ x,foldedSetIterable iter X.env x=pure x:=by intro _;rfl):PE X (.ListComp elt [⟨tg,iter,ifs,0⟩] scope pos) (V3 wi g tc te ix):=by
 intro b s σ H Q I h;exact JP B c hi d a e i I h λp C o j q k f ⟨m,l⟩=>⟨m,l,λr n=>⟨.ref p,j,k.other f n,rfl,q⟩⟩
def Kh(B:BlockOk X scope N' ix)(y:X.calm=true)(hi:PI X tg iter wi)
  (A:∀ C s H fp,PG (j7 X scope N' C s H fp) tg g) (b:∀ C s H fp,PIf (j7 X scope N' C s H fp) ifs tc) (E:∀ C s H fp,PE (j7 X scope N' C s H fp) elt te)
  (F:X.N.Nodup) (c:X.N[i]?=some x) (G:Loc X.env.scope x)
  (hsw:swapsWith (.ListComp elt [⟨tg,iter,ifs,0⟩] scope pos) (some<|.Name x pos') spos.line X.env=pure true)
  (J:∀ x,foldedSetIterable iter X.env x=pure x:=by intro _;rfl)
  (K:X.fn x=true\/X.env.scope.names.lookup x=some .local:=by first | exact .inl rfl | exact .inr rfl | assumption):
  PS X (.Assign [.Name x pos'] (.ListComp elt [⟨tg,iter,ifs,0⟩] scope pos) spos) (jhh (V3 wi g tc te ix)<|vX i):=by
 intro a s σ H D I h;rw[exec_Assign_Name_used _ _ _ _ hsw];refine L3<|wpAny_standAt<|L3<|L3<|thn (JP B y hi A b E J I h λp C k l q n f ⟨m,L⟩=>?_) λ_ k M=>M8<|M8 M;obtain⟨o,O,P,Q,r⟩:=id L;have hd:∀ v,o.data≠.cell v:=λv z=>by
  obtain⟨d,_⟩:=r;rw[d] at z;cases z
 have R:Inv X (a++[(C,o)]) σ l k:=n.pins_of λt j=>by
  rcases N3.mp j with z | z
  ·exact n.pin t<|U4 _ z
  ·have e:t=(C,o):=by simpa using z
   subst e;exact⟨Q,f.1,f.2.1,f.2.2.1,hd⟩
 refine wpAny_assign_Name<|YU R F c G (v:=.ref p) rfl (λs2 u=>?_) K;have w:=u.pin (C,o)<|U4 _<|U4 _<|M9.mpr rfl;refine⟨m,⟨o,O,P,w.1,r⟩,λT S=>⟨_,l,(u.unpinned).other ⟨w.2.1,f.2⟩ S,q⟩⟩
noncomputable def S(l:List Nat):Str:=⟨l.toArray⟩
def Jk(l):(S l).cps.toList=l:=by simp[S]
def Ju(l):(S l).length=l.length:=by simp[S,Str.length]
def jly(h:S a=S b):a=b:=by
 rw[<- Jk a,<- Jk b,h]
def joo(a b):(S a=S b)=(a=b):=propext ⟨jly,λh=>by rw[h]⟩
def jhT(a b):S a++S b=S (a++b):=by
 apply PyProof.Rows.ext_toList;rw[PySem.W.KT.app_list,Jk,Jk,Jk]
def jkD(c):(⟨#[c]⟩:Str)=S [c]:=rfl
def J9{α:Type}(xs:List α)(lo hi:Option Int):List α:=(xs.drop<|HT.sIx xs.length 0 lo).take (HT.sIx xs.length xs.length hi-HT.sIx xs.length 0 lo)
def jia(xs:List α)(k:Nat):J9 xs none (some (k:Int))=xs.take k:=by
 unfold J9;rw[HT.sIx_none,HT.sIx_nat];simp[List.take_eq_take_iff]
def jdW(xs:List α)(k:Nat):J9 xs (some (k:Int)) none=xs.drop k:=by
 unfold J9;rw[HT.sIx_none,HT.sIx_nat];by_cases h:k<=xs.length
 ·rw[Nat.min_eq_left h,List.take_of_length_le];rw[List.length_drop]
  lia
 ·have e:xs.drop k=[]:=List.drop_eq_nil_of_le ∅;rw[e,Nat.min_eq_right ∅];simp
def jdb(lo hi)(n):Builtin.Str.strSliceIndices lo hi 1 n=(List.range<|HT.sIx n n hi-HT.sIx n 0 lo).map (HT.sIx n 0 lo+·):=by
 have a:∀ o d,(match o with | none=>d | some i=>(let i:=if i<0 then i+n else i;if 1>0 then max 0 (min i n) else max (-1) (min i<|n-1)))=((HT.sIx n d o:Nat):Int):=by
  intro o d;cases o with
  | none=>rfl
  | some v=>
   show(if 1>0 then max 0 (min (if v<0 then v+n else v) n) else _)=(((if v<0 then(v+n).toNat else min v.toNat n):Nat):Int);by_cases b:v<0
   ·lia
   ·lia
 rw[<- sliceRange_one,<- a lo 0,<- a hi n];rfl
def jkb(l)(lo hi):Txt.slice (S l) lo hi=S (J9 l lo hi):=by
 have hb:HT.sIx l.length l.length hi<=l.length:=HT.sIx_le _ _ (N0 _) _;have e:(Builtin.Str.strSliceIndices lo hi 1 (S l).length).filterMap ((S l).cps[·]?)=J9 l lo hi:=by
  rw[Ju,jdb];by_cases b:HT.sIx l.length 0 lo<=HT.sIx l.length l.length hi
  ·have c:=(StrLaws.picks l (HT.sIx l.length l.length hi-HT.sIx l.length 0 lo)<|HT.sIx l.length 0 lo) ∅;unfold J9;rw[<- c];simp[S]
  ·have z:HT.sIx l.length l.length hi-HT.sIx l.length 0 lo=0:=by lia
   unfold J9;rw[z];simp
 unfold Txt.slice;split
 ·rename_i g;have d:(Builtin.Str.strSliceIndices lo hi 1 (S l).length).length=(S l).length:=by lia
  rw[Ju,jdb,L1,List.length_range] at d;unfold J9;by_cases a:l.length=0
  ·have:=List.length_eq_zero_iff.mp a;subst this;simp
  ·have f:HT.sIx l.length 0 lo=0:=by lia
   rw[f,List.drop_zero,List.take_of_length_le ∅]
 ·rw[e];rfl
def jpW:V->Option Int->Option Int->Hp->VK->Prop:=λx lo hi H Q=>∃ l,x=.str (S l)/\l.length<=sizeLine/\Q (.str<|S<|J9 l lo hi) H
def jgF(p:IsPart v o):∃ q:Option (Int×Tok),v=partValue q/\q.map (·.1)=o:=by
 cases p with
 | none=>exact⟨none,rfl,rfl⟩
 | int i t=>exact⟨some (i,t),rfl,rfl⟩
def jnG:SlR X jpW:=by
 intro a s σ H x v n o lo hi p Q I e f pl g h;obtain⟨l,rfl,i,q⟩:=h;obtain⟨t,rfl⟩:=e;obtain⟨b,rfl,j⟩:=jgF pl;obtain⟨c,rfl,m⟩:=jgF g;refine⟨"str",_,F.slot_str_getitem.lookup,typeIs_str _ _ _,wpAny_getItem_str_slice (st:=none) f rfl ?_⟩;have key:∀ d k,EP X a σ Q (.str (Txt.slice (S l) lo hi) d) {s with toks:=k}:=λd k=>by
  rw[jkb l lo hi];exact⟨.str<|S<|J9 l lo hi,H,I.tok k,⟨d,rfl⟩,q⟩
 have e2:sliceMade (S l) t b c none=(if(1==1&&(Builtin.Str.strSliceIndices lo hi 1 (S l).length).length==(S l).length)=true then Made.val (.str (S l) t) else Made.str ⟨((Builtin.Str.strSliceIndices lo hi 1 (S l).length).filterMap ((S l).cps[·]?)).toArray⟩):=by
  unfold sliceMade slicePicked;rw[j,m];rfl
 rw[e2];refine post_val_or_str ⟨?_,key⟩;exact N8 (Txt.slice_le (S l) lo hi) (by rw[Ju];exact i)
def Its(l:List Nat):It:=⟨λi _=>i<l.length,λi H x H'=>H'=H/\∃ c,l[i]?=some c/\x=.str (S [c]),λi _=>l.length<=i⟩
def jfD{tg}{P}{w}{K}(a)(l)(t)(ty)(j:ty = "str_ascii_iterator" \/ ty = "str_iterator")
  (W:∀ A:Around,A.handled=none->Walks P w A a [a] [a] (S l).cps.size (SignAt<|S l) (λi h=>h.IsStrIter a ty (S l) t i)):Turn P w K tg (Its l) [a] a (λi h=>h.IsStrIter a ty (S l) t i) where
 mem:=by simp
 obj:=λi h f b hb=>by
  have e:b=a:=by simpa using hb
  subst e;obtain⟨o,e,c,d⟩:=f;exact⟨o,e,λv z=>by rw[d] at z;cases z⟩
 keep:=λi h n f k=>by
  obtain⟨o,e,r⟩:=f;exact⟨o,k a (by simp) o e,r⟩
 item:=by
  intro X N O Q p i g s σ H E I q f F;obtain⟨x,y,R,B,C,D⟩:=q a (by simp);have G:(S l).cps.size=l.length:=by rfl
  refine(W X.A<|I.ok.hd p).item i s _ _ (by rw[G];exact F) f λv n T U m V=>?_;obtain⟨c,u,J,rfl⟩:=U;have Y:Inv X g σ H {s with heap:=n,toks:=T}:=I.turned (λb o hb e=>V b o ⇑hb e) x y B C D;obtain⟨o,e,ct,d⟩:=id m;refine⟨_,rfl,jex e ct d (by rcases j with z | z<;>subst z<;>decide) ⟨.str<|S [c],H,Y,⟨u,rfl⟩,⟨rfl,c,by simpa [S] using J,rfl⟩,m,λb hb=>(q b hb).1⟩⟩
 done:=by
  intro X N O Q p i g s σ H E I q f F;obtain⟨x,y,R,B,C,D⟩:=q a (by simp);have M:(S l).cps[i]?=none:=by
   have:l.length<=i:=F;simp[S,this]
  rcases j with z | z
  ·subst z;exact wpAny_pyNext_ascii_end (I.ok.hd p) f M λn L=>⟨rfl,I.turned (L) x y B C D⟩
  ·subst z;exact wpAny_pyNext_wide_end (I.ok.hd p) f M λn L=>⟨rfl,I.turned (L) x y B C D⟩
 self:=λ_ _ _ _ _ f h=>by
  rcases j with z | z
  ·subst z;exact wpAny_pyIter_striter_ascii f h
  ·subst z;exact wpAny_pyIter_striter_wide f h
def jlU:OpR X (compareOp .In) (λx y H Q=>∃ c l,x=.str (S [c])/\y=.str (S l)/\Q (.bl<|decide<|c∈l) H):=by
 intro a s σ H x y v u Q I b d h;obtain⟨c,l,rfl,rfl,q⟩:=h;refine jdE a s σ H _ _ v u Q I b d ⟨_,_,rfl,rfl,?_⟩;rw[<- jkD,StrLaws.found_one,Jk];exact q
def jcI:OpR X (compareOp .NotIn) (λx y H Q=>∃ c l,x=.str (S [c])/\y=.str (S l)/\Q (.bl<|!decide (c∈l)) H):=by
 intro a s σ H x y v u Q I b d h;obtain⟨c,l,rfl,rfl,q⟩:=h;refine zV a s σ H _ _ v u Q I b d ⟨_,_,rfl,rfl,?_⟩;rw[<- jkD,StrLaws.found_one,Jk];exact q
def jiM:OpR X (binaryOp .Add) (λx y H Q=>∃ a b,x=.str (S a)/\y=.str (S b)/\a.length+b.length<=sizeLine/\Q (.str<|S<|a++b) H):=by
 intro c s σ H x y v u Q I d e h;obtain⟨a,b,rfl,rfl,f,q⟩:=h;refine jaF c s σ H _ _ v u Q I d e ⟨_,_,rfl,rfl,by rw[Ju,Ju];exact f,?_⟩;rw[jhT];exact q
def jhL:OpR X (binaryOp .Mult) (rI (λi j=>Builtin.Int.intBits i<=2 ^ 20/\Builtin.Int.intBits j<=2 ^ 20) λi j=>.int<|i*j):=opI λ_ _ _ _ _ _ _ a q=>mul_int q<|IntMulOk.of_bits a.1 a.2
def jaI(h:i.natAbs<2 ^ m)(a:m<=2 ^ 20):Builtin.Int.intBits i<=2 ^ 20:=N8 (PySem.intBits_le_iff.mpr h) a
def SqX(K:W4)(H:Hp)(a:Addr)(xs:List V):Prop:=
 Rd H a (.lst xs) \/ ∃ its n,K.lookup a=some {cls:=.type "list",data:=.seq its n}/\its.size<=sizeLine/\Vals xs its.toList
def SqX.sq{K}{H}{a}{xs}(h:SqX K H a xs):SqL K H a xs:=by
 rcases h with h | ⟨b,n,c,d,r⟩
 ·exact .inl h
 ·exact .inr ⟨_,b,n,c,rfl,rfl,rfl,d,r⟩
def SqX.of{K}{H}{a}{xs}(h:H a=some (.lst xs)):SqX K H a xs:=.inl<|.inl h
def Inv.listX(I:Inv X pins σ H s)(h:SqX X.K H a xs):Ex2 λits n=>An3 (Vals xs its) (s.heap.get? a=some {cls:=.type "list",data:=.seq its.toArray n}) (xs.length<=sizeLine):=by
 rcases h with h | ⟨its,n,b,c,r⟩
 ·obtain⟨z,its,n,r,e⟩:=h.ok I.hok;exact⟨its,n,r,e,z⟩
 ·refine⟨its.toList,n,r,by simpa using I.kIn a _ b,?_⟩;have e:=r.length;simp only[Array.length_toList] at e
  lia
def jk9(K:W4):R2:=λx y H Q=>∃ l b xs zs,x=.ref l/\y=.ref b/\SqX K H l xs/\SqX K H b zs/\xs.length+zs.length<=sizeLine/\∀ p,H p=none->Q (.ref p) (upd H p<|.lst<|xs++zs)
def jjw:OpR X (binaryOp .Add) (jk9 X.K):=by
 intro d s σ H x y v u Q I f g h;obtain⟨l,b,o,zs,rfl,rfl,i,j,p,q⟩:=h;cases f;cases g;obtain⟨c,n,r,e,_⟩:=I.listX i;obtain⟨a,t,r2,e2,_⟩:=I.listX j;have w:=r.length;have k:=r2.length;refine PySem.P.add_list e e2 ?_ (by rw[N4,N4];lia);have m:c.toArray++a.toArray=(c++a).toArray:=by simp
 rw[m];exact⟨.ref _,_,I.lnew (r.append r2)<|by rw[N5];lia,rfl,q _ I.fresh⟩
def wG{ns:List Int}(h:PySem.W.WData.layableAll [PySem.W.WData.list<|ns.map PySem.W.WData.int]=true):∀ x∈ns,Builtin.Int.intBits x<=2 ^ 20:=by
 intro x b;have e:PySem.W.ofPy (.list<|ns.map .int)=PySem.W.WData.list (ns.map PySem.W.WData.int):=by
  have c:∀ ms:List Int,PySem.W.ofPys (ms.map PyData.int)=ms.map PySem.W.WData.int:=by
   intro ms
   induction ms with
   | nil=>rfl
   | cons m ms f=>simp[PySem.W.ofPys,PySem.W.ofPy,f]
  simp[PySem.W.ofPy,c]
 have a:=PySem.W.lay0_ofPy (s:=.list .int) (d:=.list<|ns.map .int) rfl (by simp[Shape.has]) (by rw[e];exact((PySem.W.layW_cons h).1));have g:PyData.layable0 (.list<|ns.map .int)=true:=by
  simp[PyData.layableAll0] at a;exact a
 exact PyData.bits_item_of_ints g b
def walk_ofB{l:PySem.W.OpenLaw}{n k}{j}{Q}{L}{d}{K:Params->PySem.W.Frag}{CX:World->CXT}{sp:World->Sp} 
  (R:l.most=some n) (z:n<=sizeLine) (A:d.params.defaults=[]) (S:Room k callerA)
  (U:∀ w h,L w h->(K w.params).In h)
  (F:∀ w mg fa h,(K w.params).In h->h.Ns mainGlobals mg->mg d.name=some (.ref fa) ->
   ∃ fd:FuncData,(∀ s u,BindsTo s fd ⟨[u],[]⟩ [(x,u)]) /\
    ∀ base:Heap,(K w.params).In base->base.Ns mainGlobals mg->FnOk l.prog w (K w.params) mg base (CX w) k fa fd [x] (sp w))
  (B:∀ w H a (ns:List Int),ns.length<=n->(∀ x∈ns,Builtin.Int.intBits x<=2 ^ 20)->jnV H->SqX (K w.params) H a (ns.map V.int)->sp w [.ref a] H (λv _=>v=.bl true) λ_ _ _=>False)
  (C:∀ w H s e s',CX w [] H s (λ_ _ _=>False) e s'->False):
  PySem.W.WalkO q j Q L l.row.toRowW d [] (λf vs=>PySem.call f vs):=by
 intro w s₀ X mg mb G Y fa o pm cd Z dV kV ho hd hcd M D hg N O as t y hrd E hlo;obtain rfl:dV=.none:=PySem.W.Dflts.none M A;obtain rfl:kV=.none:=PySem.W.Dflts.noKw M;obtain⟨a,vs,ns,rfl,rfl,c,p,i⟩:=Att.script_of R t E;have I:=U w _ Y;obtain⟨fd,hb,hF⟩:=F w mg fa _ I G.T.g D;refine PySem.W.enter_call<|codeAny_mono (jfK I G.T.g G.T.b G.T.builtins G.T.nolimit hg c p (N8 i z) S hF hb (λH hO hS=>B w H a ns i (wG y) hO ?_) λH e s'=>C w H X e s') λr s' hq=>?_
 ·rcases hS with h | ⟨o,its,m,P,_,_,J,hz,r⟩
  ·exact .inl h
  ·have e:=I a o P;rw[c] at e;cases e;cases J;exact .inr ⟨_,_,P,hz,r⟩
 ·obtain⟨rfl,h2,h3,h4⟩:=hq;exact⟨.inl ⟨.bool true,.bool true,[],rfl,λ_=>rfl,.bool true,Att.post_true l _,λ_=>⟨List.Pairwise.nil,λ_ hm=>(nomatch hm)⟩⟩,h2,h3,h4⟩
noncomputable def Qh(sc:Scope)(N:List Str)(scope:Scope)(N':List Str)(ix:List<|Option Nat):Bool:=
 decide (scope.kind=.function)&&decide (sc.kind=.function)&&scope.names.all (λy=>!decide (y.2=.cell)||decide (scope.names.lookup y.1=some .cell))&&scope.names.all (λy=>!decide (y.2=.local)||decide (scope.names.lookup y.1=some .local)) &&
 scope.names.all (λy=>!decide (y.2=.free)||(decide (scope.names.lookup y.1=some .free)&&(decide (sc.names.lookup y.1=some .cell)||decide (sc.names.lookup y.1=some .free))))&&decide N'.Nodup&&decide (ix.length=N'.length) &&
 (List.range ix.length).all (λi=>match ix[i]? with | some (some j)=>(match N'[i]? with | some x=>decide (N[j]?=some x)&&decide ((x,NameKind.free)∈scope.names) | none=>true) | _=>true)
def jjz{X}{scope}{N'}{ix}(b)(N)(h1:X.env.scope=b)(h2:X.N=N)(h:Qh b N scope N' ix=true):BlockOk X scope N' ix:=by
 subst h1;subst h2;unfold Qh at h;simp only[M0,decide_eq_true_eq,List.all_eq_true,Bool.or_eq_true,Bool.not_eq_true',decide_eq_false_iff_not] at h;obtain⟨⟨⟨⟨⟨⟨⟨d,f⟩,g⟩,k⟩,c⟩,l⟩,m⟩,n⟩:=h;refine⟨d,λy a e=>((k y a).elim (absurd e) id),λy a e=>((g y a).elim (absurd e) id),λy a e=>((c y a).elim (absurd e) λz=>z.1),λy a e=>((c y a).elim (absurd e) λz=>z.2),l,m,λi j x h1 h2=>?_,f⟩
 ·have hi:=(L9.mp h1).1;have z:=n i<|List.mem_range.mpr hi;rw[h1,h2] at z;simp only[M0,decide_eq_true_eq] at z;exact z
structure FnFact(K:W4)(mg:W6)(x qual:Str)(st:Stmt)(f:Addr)(fd:FuncData)(ps:List Str):Prop where
 fn:Fun K x qual st f fd
 mgf:mg x=some (.ref f)
 bd:Binds K fd ps []
section
variable {X:Cx}{k:Nat}{f:Addr}{fd:FuncData}{ps:List Str}{sp:Sp}{x qual:Str}{st:Stmt}{p pos:Pos}{e:Expr}{es:List Expr}{t:TA}
def jfl(F:FnFact X.K X.mg x qual st f fd ps)(G:FnOk X.prog X.w X.K X.mg X.base CX0 k f fd ps sp)(c:Room k X.A)(d:PA X (e::es) t)(g:Gl X x:=by rfl)(a:Nd x:=by decide)
  (h:SEq X e es:=by rfl) (b:BkE X pos es:=by rfl):PE X (.Call (.Name x p) (e::es) [] pos) (qM sp [] E0 t):=
 jh1 G c g F.mgf F.fn.kp F.bd .nil jds d a h b
def jnr(F:FnFact X.K X.mg x qual st f fd ps)(G:FnOk X.prog X.w X.K X.mg X.base CX0 k f fd ps sp)(b:Room k X.A)(c:Gl X x:=by rfl)(a:Nd x:=by decide):PE X (.Call (.Name x p) [] [] pos) (qM sp [] E0 JC):=
 je4 G b c F.mgf F.fn.kp F.bd .nil jds a
theorem xy:∀ l,Vals (l.map λp=>V.str p.1)<|strValues l
 | []=>.nil
 | (x,t)::r=>.cons ⟨t,rfl⟩<|xy r
def je5:MtR X "str.split" (λx vs H Q=>∃ a b,x=.str a/\vs=[.str b]/\(b.length==0)=false/\a.length+2<=sizeLine/\∀ p,H p=none->Q (.ref p) (upd H p<|.lst<|(Txt.split a b).map V.str)):=by
 intro d s σ H x vs v r Q I j m h;obtain⟨a,b,rfl,rfl,g,w,q⟩:=h;obtain⟨t,rfl⟩:=j;obtain⟨u,rfl,n⟩:=m.one;obtain⟨f,rfl⟩:=n;have c:∀ l k,l.map (·.1)=Txt.split a b->l.length<=sizeLine->EP X d σ Q (.ref ↥s) { s with toks:=k,heap:=s.heap.push {cls:=.type "list",data:=.seq (strValues l).toArray} }:=λl k e o=>by
  have e2:(Txt.split a b).map V.str=l.map λp=>V.str p.1:=by
   rw[<- e,U2];rfl
  refine⟨.ref ↥s,_,I.lnew (xy l)<|by rw[L1];exact o,rfl,?_⟩;rw[<- e2];exact q _ I.fresh
 have i:(Builtin.Str.partsBetween a (Builtin.Str.occurrences a b 0 a.length<|a.length+1) b.length).length<=sizeLine:=by
  have y:=StrLaws.occ_length_le a b 0 a.length<|a.length+1;rw[length_partsBetween];lia
 cases h1:(decide (a.length<b.length)||decide (Builtin.Str.strKind a<Builtin.Str.strKind b))
 ·cases hf:(Builtin.Str.occurrences a b 0 a.length<|a.length+1).isEmpty
  ·refine call_meets F.slot_str_split (typeIs_str _ _ _) F.entry_str_split (F.args_str_split_2 _ _) (meets_str_split_sep a b t f h1 g hf ∅ i) ?_;rw[strsFrom_eq];refine c (numbered s.toks _) _ ((numbered_texts _ _).trans ((if_neg<|ne_true_of_eq_false h1).trans (if_neg<|ne_true_of_eq_false hf)).symm) ?_;have e:=congrArg List.length<|numbered_texts s.toks<|Builtin.Str.partsBetween a (Builtin.Str.occurrences a b 0 a.length<|a.length+1) b.length;rw[L1] at e;rw[e];exact i
  ·exact call_meets F.slot_str_split (typeIs_str _ _ _) F.entry_str_split (F.args_str_split_2 _ _) (meets_str_split_not_found a b t f h1 g hf)<|c [(a,t)] s.toks ((if_neg<|ne_true_of_eq_false h1).trans (if_pos hf)).symm (by show 1<=sizeLine;decide)
 ·exact call_meets F.slot_str_split (typeIs_str _ _ _) F.entry_str_split (F.args_str_split_2 _ _) (meets_str_split_cannot_occur a b t f h1)<|c [(a,t)] s.toks (if_pos h1).symm (by show 1<=sizeLine;decide)
end
def jjx:OpR X (binaryOp .Mult) (λx y H Q=>∃ a n,x=.str (S a)/\y=.int n/\a.length<=1000/\0<=n/\n<=1000/\Q (.str<|S (List.replicate n.toNat a).flatten) H):=by
 intro f s σ H x y v u Q I g i h;obtain⟨a,n,rfl,rfl,j,w,l,q⟩:=h;obtain⟨k,rfl⟩:∃ k:Nat,n=k:=⟨n.toNat,by lia⟩;have m:k<=1000:=by lia
 obtain⟨t,rfl⟩:=g;obtain⟨o,rfl⟩:=i;have hok:MulOk (S a) k:=by
  refine⟨by simp;lia,λd c=>?_,λd c=>?_⟩
  ·rw[Ju];have A:1000<=(2 ^ 63-1)/(k:Int):=by
    rw[Int.le_ediv_iff_mul_le ∅]
    lia
   lia
  ·rw[Ju,N9];have B:a.length*k<=sizeLine:=N8 (Nat.mul_le_mul j m) (by decide);exact X5 ∅
 have e:Txt.mul (S a) k=S (List.replicate k a).flatten:=by
  have p:∀ n b,((List.replicate n a.toArray).foldl (·++·) b).toList=b.toList++(List.replicate n a).flatten:=by
   intro n
   induction n with
   | zero=>intro b;simp
   | succ n r=>intro b;rw[List.replicate_succ,X3,r];simp[List.replicate_succ]
  unfold Txt.mul;apply PyProof.Rows.ext_toList;rw[Jk];by_cases d:(k:Int)<1
  ·have:k=0:=by lia
   subst this;simp[Str.empty]
  ·rw[if_neg d];by_cases c:((k:Int)==1||(S a).length==0)=true
   ·rw[if_pos c,Jk];rw[Ju] at c;simp at c;rcases c with z | z
    ·have:k=1:=by lia
     subst this;simp
    ·subst z;simp
   ·rw[if_neg c,N9];exact(p k #[])
 refine SB.mul hok λo C=>?_;rw[e];exact⟨.str _,H,I.tok _,⟨_,rfl⟩,q⟩
section
variable {X:Cx}{pins:List (Addr×Obj)}{σ:St}{H:Hp}{s:Shared}{h':Heap}
def Inv.turnedNew{t'}{f:W5}{T:Addr}{xs}{its}(I:Inv X pins σ H s)(k:∀ b o,b∉f->s.heap.get? b=some o->h'.get? b=some o)(g:∀ b∈f,uy X pins H b)
  (h:↥s<=T) (j:IsTupN h' T its) (l:Vals xs its.toList) (p:xs.length<=sizeLine):Inv X pins σ (upd H T<|.tup xs) {s with heap:=h',toks:=t'}:=by
 have i:∀ b u,H b=some u->b∉f:=λb u e z=>by rw[(g b z).1] at e;cases e
 have d:∀ b u,H b=some u->b≠T:=λb u e z=>by rw[z,I.hok.fresh h] at e;cases e
 refine I.step (λb hb=>?_) (λb o _ _ a e _=>k b o a e) (λb o _ _ a e _=>⟨o.slots,k b o a e⟩) (λb o _ e n=>?_)
  (λb o a e=>⟨o,k b o a e⟩) (λb t e=>by rw[je<|d b _ e];exact e) (λb o u e=>by rw[je<|d b _ e];exact e) (λb F e=>⟨#[],by rw[je<|d b _ e,e];simp⟩) (λm w=>?_) (λb u e=>?_) I.bare
 ·obtain⟨_,x,_,y,A,B⟩:=g b hb;exact⟨y,x,A,B⟩
 ·rw[je<|λz=>absurd (N2 e)<|by rw[z];exact Nat.not_lt.mpr h];exact n
 ·obtain⟨o,C,D,E,r⟩:=w;refine⟨o,C,D,k _ o (λz=>(g _ z).2.1 rfl) E,r⟩
 ·by_cases hb:b=T
  ·subst hb;rw[jh] at e;cases e;exact⟨p,its.toList,l,by simpa using j⟩
  ·rw[je hb] at e;refine(I.hok b u e).stay (λc v a q=>k c v ?_ q) (λc q=>by rw[je<|d c _ q];exact q) λc t q=>by rw[je<|d c _ q];exact q
   rcases a with z | z
   ·rw[z];exact i b u e
   ·exact i c _ z
def Inv.turnedL{t'}{d:W5}(I:Inv X pins σ H s)(k:∀ b o,b∉d->s.heap.get? b=some o->h'.get? b=some o)(f:∀ b∈d,uy X pins H b):Inv X pins σ H {s with heap:=h',toks:=t'}:=by
 have g:∀ b u,H b=some u->b∉d:=λb u e z=>by rw[(f b z).1] at e;cases e
 refine I.step (λb hb=>?_) (λb o _ _ a e _=>k b o a e) (λb o _ _ a e _=>⟨o.slots,k b o a e⟩) (λb o _ e n=>n)
  (λb o a e=>⟨o,k b o a e⟩) (λb y e=>e) (λb o u e=>e) (λb A e=>⟨#[],by rw[e];simp⟩) (λm h=>?_) (λb u e=>?_) I.bare
 ·obtain⟨_,i,_,j,l,p⟩:=f b hb;exact⟨j,i,l,p⟩
 ·obtain⟨o,t,w,x,r⟩:=h;refine⟨o,t,w,k _ o (λz=>(f _ z).2.1 rfl) x,r⟩
 ·refine(I.hok b u e).stay (λc v a q=>k c v ?_ q) (λ_ q=>q) λ_ _ q=>q;rcases a with z | z
  ·rw[z];exact g b u e
  ·exact g c _ z
end
def jjJ{A}{E}{s:Shared}{i}{n}{us}{C:J0}
  (h:IsEnum s.heap e it n was) (hi:s.heap.IsListIter it l i) (G:s.heap.IsList l us) (H:us[i]?=some x) (ne:e≠it)
  (go:∀ k,IsEnumOut k e it (n+1) x ↥s->k.IsListIter it l (i+1)->k.get? ↥s=some {cls:=.type "tuple",data:=.seq #[.int n s.toks,x]} ->
   (∀ b o,b≠e->b≠it->s.heap.get? b=some o->k.get? b=some o)->C (.ref ↥s) {s with heap:=k,toks:=s.toks+1}):
  wpAny (model prog w) A (Builtin.«enumerate.__next__» ⟨[.ref e],[]⟩) (λfin s'=>∃ v,fin=.done (.ret v)/\C v s') E s:=by
 obtain⟨j,g,d,c,os⟩:=s;show wpAny _ _ (field (.ref e) 2 >>= _) _ _ _;refine L3<|U7 h rfl rfl<|L3<|wpAny_nextOf_list_item hi G H λO I m=>?_;have p:=(m.2 e ne).trans h;refine L3<|U7 p rfl rfl<|L3<|U7 p rfl rfl<|L3<|wpAny_mkInt<|L3<|wpAny_setField_rec p (by simp) λk2 e2 q=>(L3<|wpAny_setField_rec e2 (by simp) λk3 e3 t=>(L3<|wpAny_newTuple ?_));have f:IsEnum (k3.push {cls:=.type "tuple",data:=.seq #[.int n c,x]}) e it (n+1) was:=L8 _ e3;generalize u:k3.push {cls:=.type "tuple",data:=.seq #[.int n c,x]}=k4 at f;have F:k3.objs.size=j.objs.size:=by rw[t.1,q.1,m.1]
 have lt:=N2 h;have J:k4.get? j.objs.size=some {cls:=.type "tuple",data:=.seq #[.int n c,x]}:=by rw[<- u,<- F];exact E2 _ rfl
 have kp:∀ b o,b≠e->b≠it->j.get? b=some o->k4.get? b=some o:=λb o a y hb=>by
  rw[<- u];exact L8 _<|t.extBut b o a<|q.extBut b o a<|m.extBut b o y hb
 have K:k4.IsListIter it l (i+1):=by
  rw[<- u];obtain⟨o,L,r⟩:=(I.extBut q.extBut ne.symm).extBut t.extBut ne.symm;exact⟨o,L8 _ L,r⟩
 show wpAny _ _ (Builtin.SmallTypes.ownedTupleIsFree (.ref e) >>= _) _ _ ⟨k4,g,d,c+1,os⟩;rw[F];refine L3<|L3<|U7 f rfl rfl<|M8<|L3<|wpAny_rule<|L3<|U7 f rfl rfl<|L3<|wpAny_setField_rec f (by simp) λP e5 z=>(L3<|L3<|wpAny_setField_rec e5 (by simp) λQ M B=>(wpAny_setField_rec M (by simp) λN e7 D=>(L3<|wpAny_letGo<|M8 ⟨_,rfl,go N e7 (((K.extBut z.extBut ne.symm).extBut B.extBut ne.symm).extBut D.extBut ne.symm) (D.extBut _ _ (Nat.ne_of_gt lt)<|B.extBut _ _ (Nat.ne_of_gt lt)<|z.extBut _ _ (Nat.ne_of_gt lt) J)<|λb o a y hb=>D.extBut b o a<|B.extBut b o a<|z.extBut b o a<|kp b o a y hb⟩)))
def jjf 
  (a:IsEnum s.heap e it n was) (hi:s.heap.IsListIter it l i) (c:s.heap.IsList l us) (d:us[i]?=some x) (ne:e≠it)
  (go:∀ k,IsEnumOut k e it (n+1) x ↥s->k.IsListIter it l (i+1)->k.get? ↥s=some {cls:=.type "tuple",data:=.seq #[.int n s.toks,x]} ->
   (∀ b o,b≠e->b≠it->s.heap.get? b=some o->k.get? b=some o)->C (some<|.ref ↥s) {s with heap:=k,toks:=s.toks+1}):wpAny (model prog w) A (pyNext<|.ref e) C E s:=by
 have ty:s.TypeIs (.ref e) "enumerate":=⟨_,a,rfl⟩;exact L3<|wpAny_attempt<|wpAny_callSpecial?_slot ty F.slot_enumerate_next<|wpAny_call_entry F.slot_enumerate_next ty F.entry_enumerate_next (jjJ a hi c d ne λk c1 f g h=>M8<|go k c1 f g h)<|F.args_enumerate_next_1 _
def jhu(d:A.handled=none)
  (c:IsEnum s.heap e it n was) (hi:s.heap.IsListIter it l i) (f:s.heap.IsList l us) (a:us[i]?=none)
  (go:∀ k,Heap.ExtBut it s.heap k->C none {s with heap:=k}):wpAny (model prog w) A (pyNext<|.ref e) C E s:=by
 have ty:s.TypeIs (.ref e) "enumerate":=⟨_,c,rfl⟩;refine L3<|wpAny_attempt<|wpAny_callSpecial?_slot ty F.slot_enumerate_next<|wpAny_call_entry F.slot_enumerate_next ty F.entry_enumerate_next ?_<|F.args_enumerate_next_1 _;show wpAny _ _ (field (.ref e) 2 >>= _) _ _ _;refine L3<|U7 c rfl rfl<|L3<|wpAny_nextOf_list_end d hi f a λk x b a=>?_;obtain⟨o,g,h⟩:=a;exact L3<|wpAny_isInstance ⟨o,g,h⟩ isSubtype_stop<|M8<|go _ b
def Itn(K:W4)(l:Addr)(n:Int):It:=
 ⟨λi H=>∃ xs x,SqL K H l xs/\xs[i]?=some x,λi H x H'=>∃ p v,(∀ xs,SqL K H l xs->xs[i]?=some v)/\x=.ref p/\H p=none/\H'=upd H p (.tup [.int<|n+i,v]),λi H=>∃ xs,SqL K H l xs/\xs.length<=i⟩
def jdZ{P}{w}{K}{elts}{m}{pos}(e a l)(n)(r:e≠a)(W:l≠e)(Y:l≠a):
  Turn P w K (.Tuple elts m pos) (Itn K l n) [e,a] e (λi h=>(∃ old,IsEnum h e a (n+i) old)/\h.IsListIter a l i) where
 mem:=by simp
 obj:=λi h c b hb=>by
  obtain⟨⟨old,d⟩,o,D,F,hd⟩:=c;rcases(⇑hb:b=e\/b=a) with z | z
  ·subst z;exact⟨_,d,λv q=>by cases q⟩
  ·subst z;exact⟨o,D,λv q=>by rw[hd] at q;cases q⟩
 keep:=λi h h' c k=>by
  obtain⟨⟨old,d⟩,hit⟩:=c;exact⟨⟨old,k e (by simp) _ d⟩,hit.at<|k a<|by simp⟩
 item:=by
  intro X G J L F i t s σ H E I B c M;subst G J L;obtain⟨U,x,C,N⟩:=M;obtain⟨O,Q,p,Z⟩:=I.list C;obtain⟨u,hu,ru⟩:=Q.get N;obtain⟨⟨old,d⟩,hit⟩:=c;refine jjf d hit p.isList ⇑hu r λh1 D y hT hk=>⟨_,rfl,wpAny_letOwnedTupleGo_enum D λV R g=>?_⟩;have f:=N2 d;have A:=(g.2 _<|Nat.ne_of_gt f).trans hT;have kk:∀ b o,b∉[e,a]->s.heap.get? b=some o->V.get? b=some o:=λb o hb q=>by
   have j:b≠e/\b≠a:=by simpa using hb
   exact(g.2 b j.1).trans (hk b o j.1 j.2 q)
  have I1:=I.turnedNew (t':=s.toks+1) (xs:=[.int<|n+i,x]) kk B (N0 _) ⟨⟨_,A,rfl,_,rfl⟩,_,A,rfl⟩ (.cons ⟨_,rfl⟩<|.cons ru .nil) (by show 2<=sizeLine;decide);have S:IsEnum V e a (n+((i+1:Nat):Int)) u:=by
   have q:=R;rw[show n+((i+1:Nat):Int)=n+i+1 by lia];exact q
  refine⟨.ref ↥s,_,I1,rfl,⟨_,x,(λys hy=>by rw[I.list_inj hy C];exact N),rfl,I.hok.fresh<|N0 _,rfl⟩,⟨⟨_,S⟩,y.at λo q=>(g.2 a r.symm).trans q⟩,λb hb=>?_⟩;rw[je]
  ·exact(B b hb).1
  ·intro z;have:b < ↥s:=by
    obtain⟨oi,T,_⟩:=id hit;rcases(⇑hb:b=e\/b=a) with q | q
    ·rw[q];exact f
    ·rw[q];exact N2 T
   exact absurd this (by rw[z];exact Nat.lt_irrefl _)
 done:=by
  intro X G J L F i t s σ H E I B c M;subst G J L;obtain⟨U,C,N⟩:=M;obtain⟨O,Q,p,Z⟩:=I.list C;obtain⟨⟨old,d⟩,hit⟩:=c;have hl:=Q.length;exact jhu (I.ok.hd F) d hit p.isList (by simp;lia) λh1 eb=>⟨rfl,I.turnedL (λb o hb q=>eb b o (by simp at hb;exact hb.2) q) B⟩
 self:=λ_ _ _ _ _ c h=>wpAny_pyIter_enum c.1.choose_spec h
def jh8(K:W4)(tl:TA):TI:=λσ H R=>tl σ H λvs H1=>∃ a xs,vs=[.ref a]/\SqL K H1 a xs/\R (Itn K a 0) H1
section
variable {X:Cx}
def jjh{elts}{n}{tpos p pos}{a}{ta}(k:Gl X "enumerate")(m:X.mg "enumerate" = none)(r:PA X [a] ta)(t:starEach [a] X.env=[(false,eval a X.env)]:=by rfl):
  PI X (.Tuple elts n tpos) (.Call (.Name "enumerate" p) [a] [] pos) (jh8 X.K ta):=by
 intro c s σ H R I h;refine Call_<|JN I k m (show bootBuiltins "enumerate" = some (.type "enumerate") by decide +kernel)<|PyProof.Rows.callWith_type1 (thn (r pos c s σ H _ I h) λE s1 ⟨vs,i,g,r1,v⟩=>?_) t rfl;obtain⟨l,F,rfl,w,q⟩:=v;obtain⟨u,rfl,x⟩:=r1.one;cases x;obtain⟨y,G,pl,J⟩:=g.list w;have d:l < ↥s1:=by
  obtain⟨o,_,e,_⟩:=pl;exact N2 e
 refine call_enumerate_list pl.isList λA j hit B C=>?_;have D:Inv X c σ i {s1 with heap:=A}:=g.kept C;refine PySem.wpAny_pyIter_enum j ⟨↥s1+1,[↥s1+1,↥s1],_,_,i,rfl,D,jdZ _ _ l 0 (Nat.succ_ne_self _) (N7<|Nat.lt_succ_of_lt d)<|N7 d,⟨⟨_,by simpa using j⟩,hit⟩,λb hb=>?_,q⟩;have f:↥s1<=b:=by
  rcases(⇑hb:b=↥s1+1\/b=↥s1) with z | z
  ·rw[z];exact Nat.le_succ _
  ·rw[z];exact N0 _
 exact g.fpOk f<|g.hok.fresh f
end
section
variable {X:Cx}
def jcE(c:X.calm=true):qe X (.builtin "sum") (λxs H Q=>∃(p:Addr) (ns:List Int),xs=[.ref p]/\SqL X.K H p (ns.map V.int)/\Q (.int ns.sum) H):=by
 intro a s σ H xs k Q I r h;obtain⟨p,ns,rfl,d,q⟩:=h;obtain⟨u,rfl,e⟩:=r.one;cases e;obtain⟨f,g,pl,l⟩:=I.list d;have hi:=Kw g;obtain⟨zs,b⟩:=hi.allInts.items;refine sum_intListG (I.ok.hd c) (b▸pl.isList) λm n o i=>?_;have j:ns=zs.toList.map (·.1):=by
  rw[<- nums_intItems,<- b];exact(hi.numsOf).symm
 have e2:preSum (numAt zs) zs.size=ns.sum:=by
  rw[preSum_eq,List.take_of_length_le<|by simp,j]
 rw[e2];exact⟨.int ns.sum,H,I.kept i,⟨_,rfl⟩,q⟩
inductive TyQ (K:W4) (H:Hp):V->String->Prop where
 | non:TyQ K H .non "NoneType"
 | bl (x:Bool):TyQ K H (.bl x) "bool"
 | int (i:Int):TyQ K H (.int i) "int"
 | str (x:Str):TyQ K H (.str x) "str"
 | lst {a:Addr}{xs:List V}(e:SqL K H a xs):TyQ K H (.ref a) "list"
 | tup {a:Addr}{xs:List V}(e:SqT K H a xs):TyQ K H (.ref a) "tuple"
 | dK {a:Addr}{kvs:List (Key×V)}(e:H a=some (.dK kvs)):TyQ K H (.ref a) "dict"
def xa:qe X (.builtin "isinstance") (λxs H Q=>∃ x T t b,xs=[x,.ty T]/\TyQ X.K H x t/\PySem.W.kitOne X.K (.type t) (.type T)=some b/\Q (.bl b) H):=by
 intro d s σ H xs w Q I r h;obtain⟨x,T,t,b,rfl,ty,e,q⟩:=h;obtain⟨u,v,rfl,r1,r2⟩:=r.two;cases r2;have c:∀ k,EP X d σ Q (.bool b) {s with toks:=k}:=λk=>⟨.bl b,H,I.tok k,rfl,q⟩;cases ty with
 | non=>cases(r1);exact PySem.W.kia_one PySem.W.kitx_none I.kIn True.intro e (λz=>nomatch z) c
 | bl y=>cases(r1);exact PySem.W.kia_one PySem.W.kitx_bool I.kIn True.intro e (λz=>nomatch z) c
 | int i=>obtain⟨t,q⟩:=(r1);cases q;exact PySem.W.kia_one PySem.W.kitx_int I.kIn True.intro e (λz=>nomatch z) c
 | str y=>obtain⟨t,q⟩:=(r1);cases q;exact PySem.W.kia_one PySem.W.kitx_str I.kIn True.intro e (λz=>nomatch z) c
 | @lst a xs f=>
  cases(r1);obtain⟨l,_,⟨o,n,g,j,_,_⟩,_⟩:=I.list f;exact PySem.W.kia_one PySem.W.kitx_list I.kIn ⟨o,g,j⟩ e (λz=>nomatch z) c
 | @tup a xs f=>
  cases(r1);obtain⟨l,_,⟨o,g,j,_⟩,_⟩:=I.tuple f;exact PySem.W.kia_one PySem.W.kitx_tuple I.kIn ⟨o,g,j⟩ e (λz=>nomatch z) c
 | @dK a m f=>
  cases(r1);obtain⟨_,_,vs,_,p⟩:=(I.hok a _ f);obtain⟨o,A,B,g,j,_⟩:=p;exact PySem.W.kia_one PySem.W.kitx_dict I.kIn ⟨o,g,j.1⟩ e (λz=>nomatch z) c
end
section
variable {κ:Type} [DecidableEq κ]
noncomputable def VZ(kvs:List<|κ×V)(k:κ):Option V:=(kvs.find? λkv=>decide<|kv.1=k).map (·.2)
noncomputable def JE(kvs:List<|κ×V)(k:κ)(v:V):List (κ×V):=
 if(kvs.any λkv=>decide<|kv.1=k)=true then kvs.map (λkv=>if kv.1=k then(kv.1,v) else kv) else kvs++[(k,v)]
def JI{p}{r:List (κ×V)}(e:p.1=k):VZ (p::r) k=some p.2:=by simp[VZ,List.find?_cons,e]
def J2{p}{r:List (κ×V)}(e:¬ p.1=k):VZ (p::r) k=VZ r k:=by simp[VZ,List.find?_cons,e]
theorem uG(k):∀ kvs:List (κ×V),(kvs.any λkv=>decide<|kv.1=k)=(VZ kvs k).isSome
 | []=>rfl
 | p::r=>by
  rw[List.any_cons];by_cases e:p.1=k
  ·simp only[JI e,X4 e,Bool.true_or,Option.isSome_some]
  ·rw[J2 e,X5 e,Bool.false_or];exact uG k r
def Jm(a)(k:κ)(v):(JE a k v).length<=a.length+1:=by
 unfold JE;split
 ·rw[L1];lia
 ·rw[N5,M3,List.length_nil];lia
def RelO.isSome_eq(r:RelO o u):o.isSome=u.isSome:=by
 cases o with
 | none=>cases u with
  | none=>rfl
  | some _=>exact(r).elim
 | some _=>cases u with
  | none=>exact(r).elim
  | some _=>rfl
def RelO.getD(r:RelO o u)(rd:RelV d d'):RelV (o.getD d) (u.getD d'):=by
 cases o with
 | none=>cases u with
  | none=>exact rd
  | some _=>exact(r).elim
 | some _=>cases u with
  | none=>exact(r).elim
  | some _=>exact r
def KV.val(r:KV kvs vs)(k:κ):RelO (VZ kvs k) (valueAt vs k):=by
 induction r with
 | nil=>exact True.intro
 | @cons p q i a h t f=>
  obtain⟨d,g⟩:=h;by_cases e:p.1=k
  ·have c:=d.symm.trans e;have b:valueAt (q::a) k=some q.2:=by simp[valueAt,List.find?_cons,c]
   rw[JI e,b];exact g
  ·have c:¬ q.1=k:=λz=>e<|d.trans z;have b:valueAt (q::a) k=valueAt a k:=by simp[valueAt,List.find?_cons,c]
   rw[J2 e,b];exact f
def KV.any(r:KV kvs vs)(k:κ):(kvs.any λkv=>decide<|kv.1=k)=vs.any λkv=>decide (kv.1=k):=by
 induction r with
 | nil=>rfl
 | cons h t a=>rw[List.any_cons,List.any_cons,a,h.1]
def KV.repl(r:KV kvs vs)(k:κ)  (b:RelV y u):
  KV (kvs.map λkv=>if kv.1=k then(kv.1,y) else kv) (vs.map λkv=>if kv.1=k then(kv.1,u) else kv):=by
 induction r with
 | nil=>exact .nil
 | @cons p q f g h t c=>
  rw[L5,L5];refine .cons ?_ c;obtain⟨a,d⟩:=h;by_cases e:p.1=k
  ·rw[if_pos e,if_pos<|a.symm.trans e];exact⟨a,b⟩
  ·rw[if_neg e,if_neg<|λz=>e<|a.trans z];exact⟨a,d⟩
def KV.put(r:KV kvs vs)(k:κ)  (a:RelV y u):KV (JE kvs k y) (stored vs k u):=by
 unfold JE stored;rw[r.any k];by_cases e:(vs.any λb=>decide<|b.1=k)=true
 ·rw[if_pos e,if_pos e];exact r.repl k a
 ·rw[if_neg e,if_neg e];exact Paired.snoc r ⟨rfl,a⟩
def KV.length(r:KV kvs vs):kvs.length=vs.length:=Paired.length r
end
def jdP(r:RelV (kV k) u):(jW P w).is k u=true:=by
 cases k with
 | inl i=>obtain⟨t,e⟩:=(r);subst e;exact xM P w i t
 | inr x=>obtain⟨t,e⟩:=(r);subst e;exact wm P w x t
theorem zC:∀{ks}{us},Vals (ks.map kV) us->ItemsAre (jW P w) ks us
 | [],_,r=>by rw[List.map_nil] at r;cases r;exact .nil
 | k::ks,_,r=>by
  cases r with
  | cons h t=>exact .cons (jdP h)<|zC t
abbrev KT(H:Hp):List (List Key×V)->List (List Key×Addr×Value)->Prop:=Paired λp q=>p.1=q.1/\H q.2.1=some (.tup<|p.1.map kV)/\RelV p.2 q.2.2
def KT.val(r:KT H kvs xs)(k):RelO (VZ kvs k) ((atKey xs k).map (·.2)):=by
 induction r with
 | nil=>exact True.intro
 | @cons p q i a h t f=>
  obtain⟨d,_,g⟩:=h;by_cases e:p.1=k
  ·have c:=d.symm.trans e;have b:atKey (q::a) k=some q.2:=by simp[atKey,List.find?_cons,c]
   rw[JI e,b];exact g
  ·have c:¬ q.1=k:=λz=>e<|d.trans z;have b:atKey (q::a) k=atKey a k:=by simp[atKey,List.find?_cons,c]
   rw[J2 e,b];exact f
def KT.repl(r:KT H kvs xs)(k)  (c:RelV y u):
  KT H (kvs.map λkv=>if kv.1=k then(kv.1,y) else kv) (xs.map<|putAt k u):=by
 induction r with
 | nil=>exact .nil
 | @cons p q g i h t d=>
  rw[L5,L5];refine .cons ?_ d;obtain⟨a,b,f⟩:=h;unfold putAt;by_cases e:p.1=k
  ·rw[if_pos e,if_pos<|a.symm.trans e];exact⟨a,b,c⟩
  ·rw[if_neg e,if_neg<|λz=>e<|a.trans z];exact⟨a,b,f⟩
def KT.put(r:KT H kvs xs)(k)  (hb:H b=some (.tup<|k.map kV)) (a:RelV y u):
  KT H (JE kvs k y) (storedH xs k b u):=by
 have e:(kvs.any λc=>decide<|c.1=k)=(atKey xs k).isSome:=by
  rw[uG,(r.val k).isSome_eq,Option.isSome_map]
 unfold JE storedH;rw[e];by_cases q:(atKey xs k).isSome=true
 ·rw[if_pos q,if_pos q];exact r.repl k a
 ·rw[if_neg q,if_neg q];exact Paired.snoc r ⟨rfl,hb,a⟩
def KT.keeps(r:KT H kvs xs)(a:∀ b ys,H b=some (.tup ys)->H' b=some (.tup ys)):KT H' kvs xs:=
 Paired.mapP r λ_ _ z=>⟨z.1,a _ _ z.2.1,z.2.2⟩
def jmd(ok:HOk P w H h)(e:Rd H a u):ObjOk P w H h a u:=e.ok ok
def xZ(ok:HOk P w H h)(e:Rd H a<|.dK kvs):kvs.length<=sizeLine/\(a==sysModules)=false/\∃ vs,KV kvs vs/\h.DictOf (jW P w) a vs:=
 jmd ok e
def jms(ok:HOk P w H h)(e:H a=some (.dK kvs)):kvs.length<=sizeLine/\(a==sysModules)=false/\∃ vs,KV kvs vs/\h.DictOf (jW P w) a vs:=xZ ok<|.inl e
def xc(ok:HOk P w H h)(e:H a=some (.tup<|ks.map kV)):(tupleKind<|jW P w).is h ks a:=by
 obtain⟨_,b,r,⟨o,c,d,n,f⟩,_⟩:=(ok a _ e);exact⟨o,b.toArray,n,c,d,f,by simpa using zC r⟩
def ja7(ok:HOk P w H h)(e:Rd H a<|.dT kvs):kvs.length<=sizeLine/\(a==sysModules)=false /\
  ∃ xs,KT H kvs xs/\h.DictOfH (tupleKind<|jW P w) a xs:=by
 obtain⟨z,y,xs,r,o,d,f,g,i,j,k,n⟩:=(jmd ok e);refine⟨z,y,xs,r,o,d,f,g,i,j,k,λx b=>?_,n⟩;have all:∀{l}{m},KT H l m->∀ x∈m,(tupleKind<|jW P w).is h x.1 x.2.1:=by
  intro l m q
  induction q with
  | nil=>intro x b;exact nomatch b
  | @cons p q u v c t s=>
   intro x b;rcases M5.mp b with e | b
   ·subst e;exact xc ok (by rw[<- c.1];exact c.2.1)
   ·exact s x b
 exact all r x b
def jmG(ok:HOk P w H h)(e:H a=some (.dT kvs)):kvs.length<=sizeLine/\(a==sysModules)=false /\
  ∃ xs,KT H kvs xs/\h.DictOfH (tupleKind<|jW P w) a xs:=ja7 ok<|.inl e
def DGet(H:Hp)(a:Addr)(y:V)(r:Option V):Prop:=
 (∃ kvs k,Rd H a (.dK kvs)/\y=kV k/\r=VZ kvs k) \/ ∃ kvs k b,Rd H a (.dT kvs)/\y=.ref b/\H b=some (.tup<|k.map kV)/\r=VZ kvs k
def DPut(H:Hp)(a:Addr)(y v:V)(H':Hp):Prop:=
 (∃ kvs k,H a=some (.dK kvs)/\y=kV k/\kvs.length<sizeLine/\H'=upd H a (.dK<|JE kvs k v)) \/
 ∃ kvs k b,H a=some (.dT kvs)/\y=.ref b/\H b=some (.tup<|k.map kV)/\kvs.length<sizeLine/\H'=upd H a (.dT<|JE kvs k v)
theorem DGet.k{H}{a}{b}{k}(e:H a=some (.dK b)):DGet H a (kV k) (VZ b k):=.inl ⟨b,k,.inl e,rfl,rfl⟩
def DGet.t{c}{k}(e:H a=some (.dT c))(d:H b=some (.tup<|k.map kV)):DGet H a (.ref b) (VZ c k):=.inr ⟨c,k,b,.inl e,rfl,d,rfl⟩
theorem DPut.k{H}{a}{b}{k}{v}(e:H a=some (.dK b))(c:b.length<sizeLine):DPut H a (kV k) v (upd H a<|.dK<|JE b k v):=.inl ⟨b,k,e,rfl,c,rfl⟩
def DPut.t{c}{k}(e:H a=some (.dT c))(d:H b=some (.tup<|k.map kV))(f:c.length<sizeLine):
  DPut H a (.ref b) v (upd H a<|.dT<|JE c k v):=.inr ⟨c,k,b,e,rfl,d,f,rfl⟩
def Inv.big(I:Inv X pins σ H s):sysModules < ↥s:=by
 have h:=(I.mod.glob.keeps I.bk).lt;exact Nat.lt_trans (by decide) h
def Q3(q:A.units+1<cLine)(I:Inv X pins σ H s)(g:DGet H a y<|some v)(o:RelV y u)(h:∀ w' s',Inv X pins σ H s'->RelV v w'->Q w' s'):
  wpAny (model X.prog X.w) A (getItem (.ref a) u) Q E s:=by
 rcases g with⟨f,k,e,i,l⟩ | ⟨f,k,b,e,i,r,l⟩
 ·subst i;obtain⟨z,hd,vs,c,j⟩:=xZ I.hok e;obtain⟨w',m,d⟩:=RelO.some_of (by rw[l];exact c.val k);exact wpAny_getItem_of (jdP o) j.mapOf m<|h w' _ (I.tok _) d
 ·subst i;cases(o);obtain⟨z,hd,x,c,j⟩:=ja7 I.hok e;obtain⟨w',m,d⟩:=RelO.some_of (by rw[l];exact c.val k);obtain⟨p,t,n⟩:=Option.map_eq_some_iff.mp m;refine wpAny_getItem_heap (tupleKind_room_in1 q) (xc I.hok r) j t ?_;rw[n];exact h w' _ (I.tok _) d
def jkm(m:A.units+1<cLine)(I:Inv X pins σ H s)(g:DGet H a y o)(j:RelV y u)(h:∀ s',Inv X pins σ H s'->Q (.bool<|!o.isSome) s'):
  wpAny (model X.prog X.w) A (compareOp .NotIn u<|.ref a) Q E s:=by
 rcases g with⟨d,k,e,f,l⟩ | ⟨d,k,b,e,f,n,l⟩
 ·subst f;obtain⟨z,hd,vs,c,i⟩:=xZ I.hok e;refine wpAny_notIn_of (jdP j) hd i.mapOf ?_;rw[<- (c.val k).isSome_eq,<- l];exact h _<|I.tok _
 ·subst f;cases(j);obtain⟨z,hd,p,c,i⟩:=ja7 I.hok e;refine wpAny_notIn_heap (tupleKind_room_in1 m) (xc I.hok n) hd i ?_;have q:=(c.val k).isSome_eq;rw[Option.isSome_map] at q;rw[<- q,<- l];exact h _<|I.tok _
def xF(I:Inv X pins σ H s)(c:Mut<|H a)(d:Heap.SameBut a s.heap h')(e:∃ q,h'.get? a=some q)(new:ObjOk X.prog X.w (upd H a ob) h' a ob):
  Inv X pins σ (upd H a ob) {s with heap:=h',toks:=t'}:=
 I.write c (.inl rfl) (λb q hb z=>(d.2 b hb).trans z) e new
def jlM(z:kvs.length<=sizeLine)(hd:(a==sysModules)=false)(b:KV kvs vs)(c:h'.DictOf (jW P w) a vs):
  ObjOk P w H' h' a (.dK kvs):=⟨z,hd,vs,b,c⟩
def jk8{A:Around}(G:∀ kvs,H a=some (.dT kvs)->A.units+1<cLine)(I:Inv X pins σ H s)(g:DPut H a y v H')(x:RelV y u)(B:RelV v r)(h:∀ s',Inv X pins σ H' s'->Q () s'):
  wpAny (model X.prog X.w) A.in1 (dictSet a u r) Q E s:=by
 rcases g with⟨kvs,k,e,j,l,m⟩ | ⟨kvs,k,b,e,j,C,l,m⟩
 ·subst j m;obtain⟨z,hd,vs,d,n⟩:=jms I.hok e;have o:vs.length<=sizeLine:=by rw[<- d.length];exact z
  have p:(JE kvs k v).length<=sizeLine:=by have:=Jm kvs k v;lia
  refine wpAny_dictSet_pairs (hsz:=o) (jdP x) n λD f t=>h _ ?_;have J:∃ q,D.get? a=some q:=let ⟨q,_,_,i,_⟩:=f;⟨q,i⟩
  exact xF I (by rw[e];exact True.intro) t J<|jlM p hd (d.put k B) f
 ·subst j m;cases(x);obtain⟨z,hd,K,d,n⟩:=jmG I.hok e;have o:K.length<=sizeLine:=by rw[<- Paired.length d];exact z
  have p:(JE kvs k v).length<=sizeLine:=by have:=Jm kvs k v;lia
  refine wpAny_dictSet_heap (hsz:=o) (tupleKind_room_in1<|G _ e) (xc I.hok C) n λD f t=>h _ ?_;obtain⟨q,L,M,i,N,O,P,_,R⟩:=f;refine xF I (by rw[e];exact True.intro) t ⟨q,i⟩ ⟨p,hd,_,(d.put k C B).keeps λc S F=>?_,q,L,M,i,N,O,P,R⟩;rw[je<|jpr F e<|λz=>nomatch z];exact F
def zu(c:A.units+1<cLine)(I:Inv X pins σ H s)(g:DPut H a y v H')(f:RelV y u)(i:RelV v r)(h:∀ s',Inv X pins σ H' s'->Q () s'):
  wpAny (model X.prog X.w) A (setItem (.ref a) u r) Q E s:=by
 have b:s.TypeIs (.ref a) "dict":=by
  rcases g with⟨_,_,e,_⟩ | ⟨_,_,_,e,_⟩
  ·obtain⟨_,_,_,_,d⟩:=jms I.hok e;exact d.typeIs
  ·obtain⟨_,_,_,_,d⟩:=jmG I.hok e;exact d.typeIs
 unfold setItem;refine wpAny_holding<|L3<|wpAny_sequenceKey b (by decide) ?_;refine L3<|wpAny_callSpecial?_slot (name:=Str.ofString "__setitem__") b PySem.F.slot_dict_setitem<|wpAny_call_entry PySem.F.slot_dict_setitem b PySem.F.entry_dict_setitem ?_<|PySem.F.args_dict_setitem_3 _ _ _;refine L3<|wpAny_notOrdered_dict b ?_;show wpAny _ _ (dictSet a u r >>= _) _ _ s;exact L3<|jk8 (λ_ _=>c) I g f i λs1 J=>M8 ⟨.none,rfl,M8<|h s1 J⟩
def joC(i:Expr):Prop:=∀ ov iv,subscripted i false ov iv=operate [ov,iv] (getItem ov iv)
def jhV{prog}{w}{A}{E}{s}{env}{value slice}{pos}{T id}{Q}
  (d:typeLookup (.type T) "__getitem__" = pure (some<|.builtin id)) (e:joC slice)
  (h:wpAny (model prog w) A (eval value env) (λo s₁=>wpAny (model prog w) A (eval slice env) (λi s₂=>s₂.TypeIs o T/\wpAny (model prog w) A (getItem o i) Q E s₂) E s₁) E s):
  wpAny (model prog w) A (eval (.Subscript value slice pos) env) Q E s:=by
 refine Subscript_<|wpAny_mono h (λo s₁ f=>wpAny_mono f (λi s₂ b=>?_) λ_ _ x=>x) λ_ _ x=>x;obtain⟨g,b⟩:=b;refine L3 ?_;refine L3<|wpAny_specialOf g d ?_;have a:wpAny (model prog w) A (subscripted slice false o i) (λr c=>wpAny (model prog w) A (letTemporaryGo value o r >>= λ_=>pure r) Q E c) E s₂:=by
  rw[e o i];exact wpAny_operating<|wpAny_mono b (λr c j=>L3<|wpAny_letTemporaryGo<|M8 j) λ_ _ x=>x
 first
  | exact M8 (L3 a)
  | exact L3 (M8 (L3 a))
  | exact L3 a
def wI(I:Inv X pins σ H s)(g:DGet H a y o):s.TypeIs (.ref a) "dict":=by
 rcases g with⟨c,k,e,_,_⟩ | ⟨c,k,b,e,_,_,_⟩
 ·obtain⟨_,_,vs,_,d⟩:=xZ I.hok e;exact d.typeIs
 ·obtain⟨_,_,f,_,d⟩:=ja7 I.hok e;exact d.typeIs
def jiJ(td ty:TE):TE:=λσ H Q=>td σ H λx H1=>ty σ H1 λy H2=>∃ a v,x=.ref a/\DGet H2 a y (some v)/\Q v H2
def Qx(ty td:TE):TE:=λσ H Q=>ty σ H λy H1=>td σ H1 λx H2=>∃ a o,x=.ref a/\DGet H2 a y o/\Q (.bl<|!o.isSome) H2
def Qt(td ty tv:TE):TS:=λD σ H=>tv σ H λv H1=>td σ H1 λx H2=>ty σ H2 λy H3=>∃ a H4,x=.ref a/\DPut H3 a y v H4/\D.nx σ H4
def Q9(td ty tv:TE)(rd:V->V->Hp->VK->Prop):TS:=λD σ H=>td σ H λx H1=>ty σ H1 λy H2=>∃ a v,x=.ref a/\DGet H2 a y (some v) /\
 tv σ H2 λy2 H3=>rd v y2 H3 λz H4=>∃ H5,DPut H4 a y z H5/\D.nx σ H5
def jh0(e:X.A.units+1<cLine)(f:PE X o td)(hi:PE X i ty)(j:joC i):PE X (.Subscript o i pos) (jiJ td ty):=by
 intro b s σ H Q I h;refine jhV PySem.F.slot_dict_getitem.lookup j<|thn (f b s σ H _ I h) λu s1 ⟨x,k,l,m,n⟩=>thn (hi b s1 σ k _ l n) λz s2 p=>?_;obtain⟨y,q,d,r,a,v,ex,g,t⟩:=p;subst ex;obtain rfl:u=Value.ref a:=m;exact⟨wI d g,Q3 e d g r λB C w c=>⟨v,q,w,c,t⟩⟩
def jdK(c:X.A.units+1<cLine)(hi:PE X i ty)(d:PE X o td):PC X .NotIn i o (Qx ty td):=by
 intro b s σ H Q I h;refine thn (hi b s σ H _ I h) λv s1 ⟨y,e,f,j,k⟩=>thn (d b s1 σ e _ f k) λu s2 l=>?_;obtain⟨x,m,n,p,a,q,ex,g,r⟩:=l;subst ex;obtain rfl:u=Value.ref a:=p;exact jkm c n g j λw t=>⟨.bl<|!q.isSome,m,t,rfl,r⟩
def Qz(c:X.A.units+1<cLine)(d:PE X o td)(hi:PE X i ty)(e:PE X value tv)(f:swapsWith value (some<|.Subscript o i pos') pos.line X.env=pure false):
  PS X (.Assign [.Subscript o i pos'] value pos) (Qt td ty tv):=by
 intro b s σ H D I h;refine wpAny_Assign_Subscript (thn (e b s σ H _ I h) λr s1 ⟨v,j,k,l,m⟩=>thn (d b s1 σ j _ k m) λu s2 ⟨x,n,p,q,t⟩=>thn (hi b s2 σ n _ p t) λG J w=>?_) f;obtain⟨y,K,z,B,a,C,ex,g,E⟩:=w;subst ex;obtain rfl:u=Value.ref a:=q;exact zu c z g B l λL F=>⟨σ,C,F,E⟩
def KZ(j:X.A.units+1<cLine)(l:PE X o td)(hi:PE X i ty)(m:PE X value tv)(c:jnN X op rd)
  (n:∀ ov iv new,augStore i ov iv new=(do holding [new,ov,iv] (setItem ov iv new);release [new,ov,iv] [];pure .next)):PS X (.AugAssign (.Subscript o i tpos) op value pos) (Q9 td ty tv rd):=by
 intro b s σ H D I h;refine wpAny_AugAssign_SubscriptAny (thn (l b s σ H _ I h) λu s1 ⟨x,p,q,r,t⟩=>thn (hi b s1 σ p _ q t) λiv s2 d=>?_) n;obtain⟨y,w,B,k,a,v,ex,g,C⟩:=d;subst ex;obtain rfl:u=Value.ref a:=r;refine Q3 j B g k λE F G e=>thn (m b F σ w _ G C) λw2 J ⟨K,L,M,f,N⟩=>thn (c b J σ L v K E w2 _ M e f N) λU V d=>?_;obtain⟨z,W,O,P,Q,R,S⟩:=d;exact zu j O R k P λY T=>⟨σ,Q,T,S⟩
def uv(h:Heap)(hb:sysModules<h.objs.size):ObjOk P w H (h.push {cls:=.type "dict",data:=.dict #[]}) h.objs.size (.dK []):=
 ⟨U6 _,U3.mpr<|Ne.symm<|N7 hb,[],.nil,Heap.DictOf.new h⟩
def uR(h:Heap)(hb:sysModules<h.objs.size):ObjOk P w H (h.push {cls:=.type "dict",data:=.dict #[]}) h.objs.size (.dT []):=
 ⟨U6 _,U3.mpr<|Ne.symm<|N7 hb,[],.nil,_,#[],0,E2 _ rfl,⟨rfl,rfl,rfl⟩,rfl,rfl,List.nodup_nil⟩
def jcu:TE:=λ_ H Q=>∀ p,H p=none->Q (.ref p) (upd H p<|.dK [])
def jbR:TE:=λ_ H Q=>∀ p,H p=none->Q (.ref p) (upd H p<|.dT [])
def jfH:PE X (.Dict [] [] pos) jcu:=λa s σ H Q I h=>
 wpAny_Dict_empty ⟨.ref ↥s,_,I.laid (λ_ _ q=>L8 _ q) (N0 _)<|uv s.heap I.big,rfl,h _<|I.hok.fresh<|N0 _⟩
def jfe:PE X (.Dict [] [] pos) jbR:=λa s σ H Q I h=>
 wpAny_Dict_empty ⟨.ref ↥s,_,I.laid (λ_ _ q=>L8 _ q) (N0 _)<|uR s.heap I.big,rfl,h _<|I.hok.fresh<|N0 _⟩
structure M1(X:Cx)(o:Expr)(m:Str)(apos:Pos)(e:Expr)(cpos:Pos):Prop where
 base:attributeBase o m X.env (eval o X.env)=eval o X.env
 few:((backTo cpos<|starEach [e] X.env).all (λx=>!x.1)&&(backToKw cpos<|keywordEach [] X.env).all (λx=>x.1.isSome)
  && decide (([e]:List Expr).length+([]:List Keyword).length+(if([]:List Keyword).isEmpty then 0 else 1)<30))=true
 line:(apos.endLine==cpos.line)=true
 trees:backTo cpos (starEach [e] X.env)=[(false,eval e X.env)]
structure M2(X:Cx)(o:Expr)(m:Str)(apos:Pos)(e f:Expr)(cpos:Pos):Prop where
 base:attributeBase o m X.env (eval o X.env)=eval o X.env
 few:((backTo cpos<|starEach [e,f] X.env).all (λx=>!x.1)&&(backToKw cpos<|keywordEach [] X.env).all (λx=>x.1.isSome)
  && decide (([e,f]:List Expr).length+([]:List Keyword).length+(if([]:List Keyword).isEmpty then 0 else 1)<30))=true
 line:(apos.endLine==cpos.line)=true
 trees:backTo cpos (starEach [e,f] X.env)=[(false,eval e X.env),(false,eval f X.env)]
def IsD(H:Hp)(a:Addr):Prop:=(∃ kvs,Rd H a<|.dK kvs) \/ ∃ kvs,Rd H a<|.dT kvs
def jc9(I:Inv X pins σ H s)(d:IsD H a):
  s.TypeIs (.ref a) "dict"/\(∀ b,Value.ref a=.ref b->∃ ob,s.heap.get? b=some ob/\ob.dict=none)/\(a==sysModules)=false:=by
 rcases d with⟨f,e⟩ | ⟨f,e⟩
 ·obtain⟨_,hd,vs,_,c⟩:=xZ I.hok e;refine⟨c.typeIs,λb q=>?_,hd⟩;cases q;obtain⟨ob,_,_,g,h,_⟩:=c;exact⟨ob,g,h.2.1⟩
 ·obtain⟨_,hd,i,_,c⟩:=ja7 I.hok e;refine⟨c.typeIs,λb q=>?_,hd⟩;cases q;obtain⟨ob,_,_,g,h,_⟩:=c;exact⟨ob,g,h.2.1⟩
def jnD(n:A.units+1<cLine)(I:Inv X pins σ H s)(g:DGet H a y o)(m:RelV y u)(rd:RelV d r)(h:∀ w' s',Inv X pins σ H s'->RelV (o.getD d) w'->Q w' s'):
  wpAny (model X.prog X.w) A (call (.builtin "dict.get") [.ref a,u,r]) Q E s:=by
 rcases g with⟨i,k,e,j,l⟩ | ⟨i,k,b,e,j,p,l⟩
 ·subst j;obtain⟨z,hd,vs,c,f⟩:=xZ I.hok e;refine call_meetsIn PySem.F.slot_dict_get f.typeIs PySem.F.entry_dict_get (PySem.F.args_dict_get_3 _ _ _) (meets_dict_get_default (jW X.prog X.w) a (jdP m) hd r) ⟨_,f.mapOf,h _ _ (I.tok _) ?_⟩;rw[l];exact(c.val k).getD rd
 ·subst j;cases(m);obtain⟨z,hd,q,c,f⟩:=ja7 I.hok e;refine call_meetsIn PySem.F.slot_dict_get f.typeIs PySem.F.entry_dict_get (PySem.F.args_dict_get_3 _ _ _) (meetsH_dict_get_default (tupleKind<|jW X.prog X.w) a b hd r) ⟨tupleKind_room_in1 n,k,q,xc I.hok p,f,h _ _ (I.tok _) ?_⟩;rw[l];exact(c.val k).getD rd
def VB(td ty tx:TE):TE:=λσ H Q=>td σ H λx H1=>∃ a,x=.ref a/\IsD H1 a/\ty σ H1 λy H2=>tx σ H2 λz H3=>∃ o,DGet H3 a y o/\Q (o.getD z) H3
def Qq(j:X.A.units+1<cLine)(k:PE X o td)(l:PE X e ty)(n:PE X f tx)(m:M2 X o "get" apos e f cpos):PE X (.Call (.Attribute o "get" apos) [e,f] [] cpos) (VB td ty tx):=by
 intro b s σ H Q I h;refine wpAny_Call_method m.base m.few m.line PySem.F.plainAttrs_dict PySem.F.slot_dict_get PySem.F.type_dict_get<|thn (k b s σ H _ I h) λu s1 p=>?_;obtain⟨x,q,i,r,a,ex,d,t⟩:=p;subst ex;obtain rfl:u=Value.ref a:=r;obtain⟨v,w,_⟩:=jc9 i d;refine⟨v,w,?_⟩;rw[m.trees];refine Calls.callWith_builtin rfl<|Calls.evalArgs_plain<|Calls.spliced_cons<|thn (l b s1 σ q _ i t) λN s2 ⟨y,B,C,D,E⟩=>
  Calls.spliced_cons (thn (n b s2 σ B _ C E) λO P ⟨z,G,J,K,R,g,L⟩=>Calls.spliced_nil ?_)
 exact jnD j J g D K λS T M c=>⟨_,G,M,c,L⟩
end L2
namespace PySem
open Sem (wp)
namespace F
def lk_list_keys:typeLookup (.type "list") "keys" = pure none:=by rw[typeLookup_type,builtinLookup_eq_fast];kernel_rfl
def lk_list_getattr:typeLookup (.type "list") "__getattr__" = pure none:=by rw[typeLookup_type,builtinLookup_eq_fast];kernel_rfl
def plain_dict_loop:plainId "dict.update.loop" = true:=by decide +kernel
def entry_dict_loop:entryFor table "dict.update.loop" = some Builtin.«dict.update.loop»:=entryFor_of_fast (by kernel_rfl)
end F
section
variable {prog:Program}{w:World}{A:Around}{E:J0}{h:Heap}{g:Array GenState}{d:Drawn}{t:Nat}{os:OsState}{a:Addr}{o:Obj}
def F.sub_attrErr:isSubtype (.type "AttributeError") (.type "AttributeError")=pure true:=by rw[isSubtype_type];kernel_rfl
def jeS{x nm}{e}{y}{Q}(a:h.get? e=some {cls:=.type "AttributeError",data:=.fields #[y,.none,.none,.none,.bool false,.none,unsetMember,unsetMember]})
  (c:∀ h',(∀ b o,b≠e->h.get? b=some o->h'.get? b=some o)->(∃ ob,h'.get? e=some ob/\ob.cls=.type "AttributeError")->Q () ⟨h',g,d,t,os⟩):
  wpAny (model prog w) A (noteAttr (.ref e) x nm) Q E ⟨h,g,d,t,os⟩:=by
 have i:=F.sub_attrErr
 repeat (any_goals (first | assumption | wp_step))
 refine c _ (λb o hb f=>?_) ⟨_,Heap.get?_update_self _ a rfl,rfl⟩
 ·rw[Heap.get?_update_ne _ _ _ _ hb];exact f
def ja6{α}{x}{nm a}{Q}(j:a.length<=sizeLine)(k:A.handled=none)
  (l:∀ h' e t',(∀ b o,h.get? b=some o->h'.get? b=some o)->h.get? e=none->(∃ ob,h'.get? e=some ob/\ob.cls=.type "AttributeError")->E (.ref e) ⟨h',g,d,t',os⟩):
  wpAny (model prog w) A (raiseAttrError x nm a:Sem α) Q E ⟨h,g,d,t,os⟩:=by
 refine L3<|wpAny_mkStr (L3<|L3<|wpAny_newObj_type ?_) j;refine L3<|wpAny_of_eq (by simp only[firstArgMember];rfl) ?_;refine wpAny_newObj_type<|L3<|wpAny_mkText<|L3<|jeS (E2 _ rfl) λh' m n=>?_;refine L3<|wpAny_handled ?_;rw[k];have c:∀ f,E (.ref (h.push {cls:=.type "tuple",data:=.seq #[Value.str a t]}).objs.size) ⟨h',g,d,f,os⟩:=λf=>l h' _ _ (λb o hb=>m b o (λz=>by
  have i:=N2 hb;rw[z] at i;exact absurd i<|Nat.not_lt.mpr<|by simp)<|L8 _<|L8 _ hb) (Heap.get?_none_of_le<|by simp) n
 first
  | exact wpAny_throw (c _)
  | exact L3 (M8 (wpAny_throw (c _)))
def jaB{its}{n}{sl}{c}{Q}(f:A.handled=none)(j:h.get? a=some {cls:=.type "list",data:=.seq its n,slots:=sl})
  (i:∀ h' e t',(∀ b o,h.get? b=some o->h'.get? b=some o)->h.get? e=none->(∃ ob,h'.get? e=some ob/\ob.cls=.type "AttributeError")->E (.ref e) ⟨h',g,d,t',os⟩):
  wpAny (model prog w) A (Builtin.«object.__getattribute__» ⟨[.ref a,.str "keys" c],[]⟩) Q E ⟨h,g,d,t,os⟩:=by
 have k:=F.lk_list_keys
 repeat (any_goals (first | assumption | wp_step))
 exact ja6 (by decide +kernel) f i
def jc0{its}{n}{sl}{f}{R}(i:A.handled=none)(c:h.get? a=some {cls:=.type "list",data:=.seq its n,slots:=sl})
  (j:∀ h' e t',(∀ b o,h.get? b=some o->h'.get? b=some o)->h.get? e=none->(∃ ob,h'.get? e=some ob/\ob.cls=.type "AttributeError")->R (.error<|.ref e) ⟨h',g,d,t',os⟩):
  codeAny (model prog w) A (.call (.builtin "list.__getattribute__") ⟨[.ref a,.str "keys" f],[]⟩) R ⟨h,g,d,t,os⟩:=by
 exact codeAny_call_builtin F.slot_list_getattribute.plain F.entry_list_ga<|F.slot_list_getattribute.check _ _ _ _ _ _ _ _ (⟨_,c,rfl⟩) (F.args_list_getattribute_2 _ _)<|jaB (i) c j
def jhO{its}{n}{sl}{j}{Q}(k:A.handled=none)(l:h.get? a=some {cls:=.type "list",data:=.seq its n,slots:=sl})
  (m:∀ h' e t',(∀ b o,h.get? b=some o->h'.get? b=some o)->h.get? e=none->(∃ ob,h'.get? e=some ob/\ob.cls=.type "AttributeError")->E (.ref e) ⟨h',g,d,t',os⟩):
  wpAny (model prog w) A (getAttrBy (.ref a) (.str "keys" j) false) Q E ⟨h,g,d,t,os⟩:=by
 have v:=F.sub_attrErr;have x:=F.slot_list_getattribute.lookup;have y:=F.slot_list_getattribute.bind<|.ref a;have z:=F.lk_list_getattr
 repeat (any_goals (first | assumption | wp_step))
 refine jc0 k l λh' e t' p q i=>?_;have c:=i;obtain⟨ob,f,r⟩:=i;have s:(⟨h',g,d,t',os⟩:Shared).TypeIs (.ref e) "AttributeError":=⟨_,f,r⟩;have u:=m h' e t' p q c
 repeat (any_goals (first | assumption | wp_step))
def jda{its}{n}{sl}{Q}(f:A.handled=none)(i:h.get? a=some {cls:=.type "list",data:=.seq its n,slots:=sl})
  (j:∀ h' t',(∀ b o,h.get? b=some o->h'.get? b=some o)->Q none ⟨h',g,d,t',os⟩):wpAny (model prog w) A (getAttr? (.ref a) "keys") Q E ⟨h,g,d,t,os⟩:=by
 refine L3<|wpAny_mkText<|L3<|wpAny_attempt<|jhO f i λh' e t' k r l=>?_;obtain⟨ob,c,m⟩:=l;have p:(⟨h',g,d,t',os⟩:Shared).TypeIs (.ref e) "AttributeError":=⟨_,c,m⟩;have s:=F.sub_attrErr;have q:=j h' t' k
 repeat (any_goals (first | assumption | wp_step))
end
section
variable {prog:Program}{w:World}{K:Type} [DecidableEq K] {knd:KeyKind prog w K}{A:Around}{E:J0}{s:Shared}
def jaU(d:s.heap.get? p=some o)(b:o.cls=.type "tuple")(hd:o.data=.seq #[key,x] m)(e:Q [key,x] s):wpAny (model prog w) A (Builtin.Dict.pairItems<|.ref p) Q E s:=by
 obtain⟨oc,od,a,c⟩:=o;subst b;subst hd
 repeat (any_goals (first | assumption | wp_step))
end
end PySem
namespace L2
open PySem PySem.Spec PyProof.Rows
def J3{D}{o u}(b:H D=none)(e:H a=some u):upd H D o a=some u:=by rw[je λz=>by rw[z,b] at e;cases e];exact e
def ur{K}{D}{o}(b:H D=none)(h:SqL K H a xs):SqL K (upd H D o) a xs:=Or.imp_left (Or.imp (J3 b) λ⟨q,h⟩=>⟨q,J3 b h⟩) h
def jfT{K}{D}{o}(b:H D=none)(h:SqT K H a xs):SqT K (upd H D o) a xs:=Or.imp_left (Or.imp (J3 b) λ⟨q,h⟩=>⟨q,J3 b h⟩) h
def jjC{X}{A:Around}{R}{Hs:Nat->Hp}{ys:List V}{c M D}(S:A.handled=none)(T:∀ i kvs,Hs i D=some (.dT kvs)->A.units+1<cLine)
  (d:∀ i,SqL X.K (Hs i) M ys/\uy X pins (Hs i) c)
  (U:∀(j:Nat) y,ys[j]?=some y->∃ t a b,y=.ref t/\SqT X.K (Hs j) t [a,b]/\DPut (Hs j) D a b (Hs<|j+1))
  (W:∀ s',Inv X pins σ (Hs ys.length) s'->R (.ok<|.ret .none) s'):∀ k i s,i+k=ys.length->Inv X pins σ (Hs i) s->s.heap.IsListIter c M i ->
  codeAny (model X.prog X.w) A (.builtin "dict.update.loop" ⟨[.ref D,.ref c,rawInt i,.none],[]⟩) R s:=by
 intro k
 induction k with
 | zero=>
  intro i s N I m;obtain⟨q,r,p,_⟩:=I.list (d i).1;obtain⟨x,B,Y,C,E,G⟩:=(d i).2;refine codeAny_builtin F.entry_dict_loop<|L3<|wpAny_pyNext_list_end (A:=A.in1) S m p.isList (by have:=r.length;simp;lia) λH Z=>?_;have h:Inv X pins σ (Hs i) {s with heap:=H}:=I.turned (λb o hb e=>Z b o hb e) x B C E G;have fin:=W _ (by rw[<- N];exact h)
  repeat (any_goals (first | assumption | wp_step))
 | succ k ih=>
  intro i s N I m;obtain⟨q,r,p,_⟩:=I.list (d i).1;have hf:=(d i).2;obtain⟨x,B,Y,C,E,G⟩:=hf;have O:=X9 (l:=ys) (i:=i) ∅;obtain⟨t,a,b,ey,hT,g⟩:=U i _ O;obtain⟨u,L,P⟩:=r.get O;rw[ey] at P;cases(P);refine codeAny_builtin F.entry_dict_loop<|L3<|wpAny_pyNext_list_item m p.isList ⇑L λH f sb=>?_;have h:Inv X pins σ (Hs i) {s with heap:=H}:=I.turned (λb o hb e=>(sb.2 b hb).trans e) x B C E G;obtain⟨Q,tv,⟨o,e,hc,n,hd⟩,_⟩:=h.tuple hT;obtain⟨u1,u2,rfl,r1,r2⟩:=tv.two;obtain⟨oi,ei,ci,di⟩:=id f;have I2:=h.pinned (fp:=[c]) (λb hb=>by rw[M9.mp hb];exact(d i).2) λb hb=>⟨oi,by rw[M9.mp hb];exact ei,λv z=>by rw[di] at z;cases z⟩;refine L3<|wpAny_holding<|L3<|wpAny_tryCatch<|jaU e hc hd<|wpAny_holding<|jk8 (T i) I2 g r1 r2 λs' J=>M8 ⟨plainId_quiet F.plain_dict_loop _,?_⟩;exact ih (i+1) s' ∅ J.unpinned (f.at λo e=>(J.pin (c,o)<|U4 _<|U4 _<|kD (by simp) e).1)
def jl6{α κ} [DecidableEq κ] {f:α->κ}{g:α->V}{ps:List α}:∀{qs},(ps.foldl (λa x=>JE a (f x)<|g x) qs).length<=qs.length+ps.length:=by
 induction ps with
 | nil=>intro qs;simp
 | cons p ps b=>
  intro qs;have c:=b (qs:=JE qs (f p)<|g p);have d:=Jm qs (f p)<|g p;rw[X3,M3]
  lia
def Kq{X α κ} [DecidableEq κ] (L:X.calm=true) {f:α->κ}{g ky:α->V}{ob:List (κ×V)->HO}{ok:Hp->α->Prop}(S:∀ l m,ob l=.dT m->X.A.units+10<cLine)
  (T:∀(h:Heap) H,sysModules<h.objs.size->ObjOk X.prog X.w H (h.push {cls:=.type "dict",data:=.dict #[]}) h.objs.size (ob []))
  (U:∀ H D l x,H D=none->ok H x->l.length<sizeLine->DPut (upd H D<|ob l) D (ky x) (g x) (upd H D<|ob<|JE l (f x)<|g x)):
  qe X (.type "dict") (λxs H Q=>∃(p:Addr) (ys:List V) (ps:List α),xs=[.ref p]/\SqL X.K H p ys/\ys.length=ps.length/\ps.length<=100000 /\
  (∀(j:Nat) y,ys[j]?=some y->∃ kv t,ps[j]?=some kv/\y=.ref t/\SqT X.K H t [ky kv,g kv]/\ok H kv)/\∀ D,H D=none->Q (.ref D) (upd H D<|ob<|ps.foldl (λa kv=>JE a (f kv)<|g kv) [])):=by
 intro c s σ H xs us Q I r h;obtain⟨p,ys,ps,rfl,M,W,hz,Y,q⟩:=h;obtain⟨u,rfl,Z⟩:=r.one;cases Z;have k:=I.hok.fresh<|N0 ↥s;have N:Inv X c σ (upd H ↥s (ob [])) { s with heap:=s.heap.push {cls:=.type "dict",data:=.dict #[]} }:=I.laid (λb o e=>L8 _ e) (N0 _)<|T _ _ I.big;obtain⟨its,rv,⟨o,n,e,v,B,C⟩,_⟩:=N.list<|ur k M;obtain⟨oc,od,E,osl⟩:=o;subst v B C;refine callType_codes (Q₁:=λobj O=>obj=.ref ↥s/\O={ s with heap:=s.heap.push {cls:=.type "dict",data:=.dict #[]} }) F.kt_called_dict (F.kt_typeCall_dict_1 _) F.entry_dict_init (kt_code_dict_new _ ⟨rfl,rfl⟩) ?_;rintro obj O ⟨rfl,rfl⟩;have P:=Heap.DictOf.typeIs (s:={ s with heap:=s.heap.push {cls:=.type "dict",data:=.dict #[]} })<|Heap.DictOf.new (knd:=jW X.prog X.w) s.heap;refine⟨P,F.args_dict_init_2 _ _,L3<|L3<|wpAny_notOrdered_dict P<|M8<|L3<|wpAny_typeOf ⟨_,e,rfl⟩<|L3<|jda (I.ok.hd L) e λh2 t2 d=>?_⟩;rw[if_pos<|show(Option.isNone none)=true from rfl];refine L3<|wpAny_rule<|L3<|wpAny_pyIter_list (l:=p) ⟨_,d _ _ e,rfl,n,rfl⟩<|M8 ⟨plainId_quiet F.plain_dict_loop _,?_⟩;have R:Inv X c σ (upd H ↥s (ob [])) {s with heap:=h2,toks:=t2}:=N.kept d;have G:=N2<|d _ _<|E2 _ rfl;refine jjC (A:=X.A.in1) (Hs:=λi=>upd H ↥s (ob<|(ps.take i).foldl (λa kv=>JE a (f kv)<|g kv) [])) (I.ok.hd L) (λi m z=>?_) (λi=>⟨ur k M,R.fpOk (N0 _) ?_⟩) (λj y hy=>?_) (λs' J=>?_) ys.length 0 _ (Nat.zero_add _) (R.kept λb o e=>L8 _ e) ⟨_,E2 _ rfl,rfl,rfl⟩
 ·rw[jh] at z;have:=S _ _<|X7 z;show X.A.units+1+1<_
  lia
 ·rw[je<|Ne.symm<|N7 G];exact I.hok.fresh ∅
 ·obtain⟨kv,t,e1,rfl,h3,h4⟩:=Y j y hy;refine⟨t,_,_,rfl,jfT k h3,?_⟩;rw[List.take_add_one,e1,List.foldl_append];exact U _ _ _ _ k h4 (by have:=jl6 (f:=f) (g:=g) (ps:=ps.take j) (qs:=[]);have:sizeLine=16777216:=rfl;simp at *;lia)
 ·rw[W,List.take_length] at J;exact⟨rfl,.ref _,_,J,rfl,q _ k⟩
def jbe{X}(i:X.calm=true):qe X (.type "dict") (λxs H Q=>∃(p:Addr) (ys:List V) (ps:List<|Key×V),xs=[.ref p]/\SqL X.K H p ys/\ys.length=ps.length/\ps.length<=100000 /\
  (∀(j:Nat) y,ys[j]?=some y->∃ kv t,ps[j]?=some kv/\y=.ref t/\SqT X.K H t [kV kv.1,kv.2])/\∀ D,H D=none->Q (.ref D) (upd H D<|.dK<|ps.foldl (λa kv=>JE a kv.1 kv.2) [])):=
 λd s σ H xs m Q I r ⟨p,ys,ps,n,q,u,w,z,A⟩=>Kq (ok:=λ_ _=>True) (ky:=λx=>kV x.1) (f:=(·.1)) (g:=(·.2)) (ob:=.dK) i (λ_ _ e=>nomatch e) (λh H b=>uv h b)
  (λH D l x E _ B=>by have:=DPut.k (k:=x.1) (v:=x.2) (jh (H:=H) (a:=D) (o:=.dK l)) B;rw[jdR] at this;exact this) d s σ H xs m Q I r
  ⟨p,ys,ps,n,q,u,w,λj y C=>let ⟨kv,t,a,b,c⟩:=z j y C;⟨kv,t,a,b,c,trivial⟩,A⟩
def wX{X}(c:X.calm=true)(d:X.A.units+10<cLine):qe X (.type "dict") (λxs H Q=>∃(p:Addr) (ys:List V) (ps:List<|List Key×Addr×V),xs=[.ref p]/\SqL X.K H p ys/\ys.length=ps.length/\ps.length<=100000 /\
  (∀(j:Nat) y,ys[j]?=some y->∃ kv t,ps[j]?=some kv/\y=.ref t/\SqT X.K H t [.ref kv.2.1,kv.2.2]/\H kv.2.1=some (.tup<|kv.1.map kV))/\∀ D,H D=none->Q (.ref D) (upd H D<|.dT<|ps.foldl (λa kv=>JE a kv.1 kv.2.2) [])):=
 Kq (ok:=λH (x:List Key×Addr×V)=>H x.2.1=some (.tup<|x.1.map kV)) c (λ_ _ _=>d) (λh H b=>uR h b)
  λH D l (x:List Key×Addr×V) e f g=>by have:=DPut.t (k:=x.1) (b:=x.2.1) (v:=x.2.2) (jh (H:=H) (a:=D) (o:=.dT l)) (J3 e f) g;rw[jdR] at this;exact this
def Inv.layAll(I:Inv X pins σ H s)(k:∀ b u,s.heap.get? b=some u->h'.get? b=some u)(a:∀ b,H b≠none->H' b=H b)
  (new:∀ b o,H b=none->H' b=some o->↥s<=b/\ObjOk X.prog X.w H' h' b o):Inv X pins σ H' {s with heap:=h',toks:=t'}:=by
 refine I.un ⟨λb u q _ _ _=>k b u q,λb u q _ _ _=>⟨u.slots,k b u q⟩,λb u q n _=>?_,λb u q _=>⟨u,k b u q⟩,λb f q=>?_,λb o u q=>?_,λb g q=>⟨#[],?_⟩⟩ λb o e=>?_
 ·cases e:H' b with
  | none=>rfl
  | some o=>exact absurd (N2 q)<|Nat.not_lt.mpr (new b o n e).1
 ·rw[a b<|by rw[q];exact λz=>nomatch z];exact q
 ·rw[a b<|by rw[q];exact λz=>nomatch z];exact q
 ·rw[a b (by rw[q];exact λz=>nomatch z),q];simp
 ·by_cases n:H b=none
  ·exact(new b o n e).2
  ·have d:=e;rw[a b n] at d;exact(I.hok b o d).stay (λc u _ q=>k c u q) (λc q=>by rw[a c<|by rw[q];exact λz=>nomatch z];exact q) λc f q=>by rw[a c<|by rw[q];exact λz=>nomatch z];exact q
def joS(h:(jW P w).is k u=true):RelV (kV k) u:=by
 rcases jX h with⟨i,t,rfl,rfl⟩ | ⟨x,t,rfl,rfl⟩
 ·exact⟨t,rfl⟩
 ·exact⟨t,rfl⟩
def jZ(H:Hp)(as:W5)(kvs:List<|Key×V)(l:Addr):Hp:=λb=>if b=l then some (.lst<|as.map V.ref) else
 match (as.zip kvs).find? (λp=>p.1==b) with
 | some p=>some<|.tup [kV p.2.1,p.2.2]
 | none=>H b
def KG{as:W5}{a}(d:as.Nodup){j:Nat}{p:Key×V}(h1:as[j]?=some b)(h2:a[j]?=some p):(as.zip a).find? (λq=>q.1==b)=some (b,p):=by
 induction as generalizing a j with
 | nil=>simp at h1
 | cons c as e=>
  cases a with
  | nil=>simp at h2
  | cons q a=>
   rw[U8,List.find?_cons];cases j with
   | zero=>
    simp at h1 h2;subst h1;subst h2;simp
   | succ j=>
    simp at h1 h2;have f:c≠b:=λz=>(List.nodup_cons.mp d).1 (z▸List.mem_of_getElem? h1);have:=U3.mpr f;simp only[this];exact e (List.nodup_cons.mp d).2 h1 h2
def qc{as:W5}{a:List (Key×V)}(h:b∉as):(as.zip a).find? (λq=>q.1==b)=none:=by
 rw[List.find?_eq_none];intro q c z;have:q.1=b:=by simpa using z
 exact h<|this▸(List.of_mem_zip c).1
theorem jk3:∀{A}{B:List (Key×Value)}{j:Nat},KV A B->B[j]?=some (kk,x)->∃ y,A[j]?=some (kk,y)/\RelV y x
 | [],_,j,.nil,e=>by simp at e
 | p0::A,c::B,0,.cons a b,e=>by
  simp at e;subst e;refine⟨p0.2,?_,a.2⟩;have:p0.1=kk:=a.1;simp[<- this]
 | p0::A,c::B,j+1,.cons a b,e=>by
  obtain⟨y,d,e2⟩:=jk3 b ⇑e;exact⟨y,by simpa using d,e2⟩
def wU(td:TE):TE:=λσ H Q=>td σ H λx H1=>∃ a kvs,x=.ref a/\Rd H1 a (.dK kvs)/\∀ l as,H1 l=none->as.length=kvs.length->(l::as).Nodup->(∀ b∈as,H1 b=none)->Q (.ref l) (jZ H1 as kvs l)
def jc8(S:X.calm=true)(T:Gl X "list")(U:X.mg "list" = none)(V:bootBuiltins "list" = some (.type "list"))(Y:PE X o td)
  (l:attributeBase o "items" X.env (eval o X.env)=eval o X.env:=by rfl) (m:(apos.endLine==cpos.line)=true:=by rfl)
  (Z:starEach [.Call (.Attribute o "items" apos) [] [] cpos] X.env=(false,eval (.Call (.Attribute o "items" apos) [] [] cpos) X.env)::starEach [] X.env:=by rfl)
  (E:(backTo pos<|starEach [] X.env).any (·.1)=false:=by rfl)
  (hbt:backTo pos (starEach [.Call (.Attribute o "items" apos) [] [] cpos] X.env)=[(false,eval (.Call (.Attribute o "items" apos) [] [] cpos) X.env)]:=by rfl):
  PE X (.Call (.Name "list" p) [.Call (.Attribute o "items" apos) [] [] cpos] [] pos) (wU td):=by
 intro B s σ H Q I h;refine wpAny_Call_Name_kw<|JN I T U V (PyProof.Rows.callWith_type1 (Calls.spliced_cons<|wpAny_Call_method0_late l m<|thn (Y B s σ H _ I h) λv s1 hh=>?_) Z E) (by decide) (by decide);obtain⟨x,H1,g,r1,a,n,ex,L,M⟩:=hh;subst ex;obtain rfl:v=Value.ref a:=r1;obtain⟨N,hd,vs,G,J⟩:=xZ g.hok L;obtain⟨t1,t2,_⟩:=jc9 g<|.inl ⟨n,L⟩;refine⟨"dict","dict.items",PySem.F.plainAttrs_dict,PySem.F.slot_dict_items,PySem.F.type_dict_items,t1,t2,Calls.callWith_builtin rfl<|PySem.evalArgs_none<|call_meetsIn PySem.F.slot_dict_items J.typeIs PySem.F.entry_dict_items (PySem.F.args_dict_items_1 _) (meets_dict_items (jW X.prog X.w) a hd) ⟨⟨vs,J⟩,(Calls.spliced_nil ?_)⟩⟩;obtain⟨ob,es,ep,d1,d2⟩:=J;have K:(s1.heap.push {cls:=.type "dict_items",data:=.fields #[.ref a]}).DictAt (jW X.prog X.w) a vs ep:=⟨ob,es,L8 _ d1,d2⟩;refine PySem.W.kdx_call (g.ok.hd S) ⟨_,E2 _ rfl,rfl,rfl⟩ K (by rw[<- G.length];exact N) λh' tk acc c i hk O P C k=>?_;have d:(s1.heap.push ({cls:=.type "dict_items",data:=.fields #[.ref a]}:Obj)).objs.size=↥s1+1:=Heap.size_push _ _;have nd:=C.rise.imp N7;have r:i.length=n.length:=by rw[P,G.length]
 have f:∀ b∈i,↥s1<=b:=λb hb=>by have q:=C.above b hb;rw[d] at q;lia
 have D:=λb hb=>Nat.ne_of_gt<|C.above b hb;refine⟨.ref _,jZ H1 i n (s1.heap.push ({cls:=.type "dict_items",data:=.fields #[.ref a]}:Obj)).objs.size,g.layAll (λb u e=>hk b u<|L8 _ e) (λb hb=>?_)<|λb u hb e=>?_,rfl,M _ i (g.hok.fresh<|by rw[d];lia) r (List.nodup_cons.mpr ⟨λz=>D _ z rfl,nd⟩) λb hb=>g.hok.fresh<|f b hb⟩
 ·unfold jZ;rw[if_neg<|λz=>hb<|by rw[z];exact g.hok.fresh<|by rw[d];lia,qc λz=>hb<|g.hok.fresh<|f b z]
 ·unfold jZ at e;by_cases t:b=(s1.heap.push ({cls:=.type "dict_items",data:=.fields #[.ref a]}:Obj)).objs.size
  ·rw[if_pos t] at e;cases e;subst t;refine⟨by rw[d];lia,by rw[L1,r];exact N,i.map Value.ref,c,?_,?_⟩
   ·clear O k C P nd r f D M
    induction i with
    | nil=>exact .nil
    | cons x i ih=>exact .cons rfl ih
   ·rw[O,<- k]
  ·rw[if_neg t] at e;by_cases A:b∈i
   ·obtain⟨j,R⟩:=List.mem_iff_getElem?.mp A;obtain⟨key,kk,x,e1,e2,e3⟩:=C.pairs j b R;obtain⟨y,ey,r1⟩:=jk3 G e1;rw[KG nd R ey] at e;cases e;exact⟨f b A,show 2<=sizeLine by decide,[key,x],.cons (joS e2)<|.cons r1 .nil,⟨_,e3,rfl,0,rfl⟩,_,e3,rfl⟩
   ·rw[qc A] at e;exact absurd e (by rw[hb];exact λz=>nomatch z)
section
variable {prog:Program}{w:World}{A:Around}{E:J0}{s:Shared}
def jfi{j t}{n}{a}{y}{C}(d:s.heap.IsTupleIter j t n)(e:s.heap.IsTuple t a)(f:a[n]?=some y)
  (go:∀ k,k.IsTupleIter j t (n+1)->Heap.SameBut j s.heap k->C y {s with heap:=k}):wpAny (model prog w) A (Builtin.SmallTypes.nextOf<|.ref j) C E s:=by
 obtain⟨h,c,ci,b⟩:=id d;obtain⟨ot,gt,_,mt,g⟩:=e;refine L3<|wpAny_callSpecial?_slot d.typeIs F.slot_tuple_iterator_next<|wpAny_call_entry F.slot_tuple_iterator_next d.typeIs F.entry_tuple_iterator_next ?_<|F.args_tuple_iterator_next_1 _;show wpAny _ _ (field (.ref j) 0 >>= _) _ _ s;refine L3<|U7 c b rfl<|L3<|U7 c b rfl<|L3<|wpAny_seqItems gt g ?_;simp only[N9,f];refine L3<|wpAny_setField c b (by simp)<|M8 ⟨y,rfl,M8<|go _ ⟨_,Heap.get?_update_self _ c<|Obj.isFreed_of_fields<|Obj.data_mapFields b _,(Obj.cls_mapFields ..).trans ci,?_⟩<|Heap.SameBut.update ..⟩;rw[Obj.data_mapFields b];simp[rawInt]
variable {z TI TO j1 j2 l t:Addr}{m:Nat}{us vs:Array Value}{u v a b:Value}
end
def jn8(l)(items)(n)(b)(a)(d)(e)(sl)(f:¬(!items.isEmpty&&Builtin.List.listTooLong (items.size+a.size))=true)(h1:items.size<=sizeLine)(h2:items.size+a.size<=sizeLine+1):
  Meets (Builtin.«list.extend» ⟨[.ref l,.ref b],[]⟩) (λ_ R s=>s.heap.get? l=some {cls:=.type "list",dict:=none,data:=.seq items n,slots:=#[]}/\s.heap.get? b=some {cls:=.type "list",dict:=e,data:=.seq a d,slots:=sl}/\R (.ok<|.ret Value.none) {s with heap:=s.heap.update l (Obj.mapSeq λx=>x++a)}):=
 .of_wp λprog w A R s h=>by
  rcases s with⟨g,i,j,k,os⟩;obtain⟨c,hb,q⟩:=h;have m:(items++a).size<=sizeLine+1:=by rw[Array.size_append];exact h2
  wp_walk using(wpAny_updateSeq c rfl),wpAny_loadPart' c,wpAny_loadPart' hb
  exact⟨_,rfl,q⟩
def jpB(l)(items)(n)(b)(a)(d)(e)(sl)(f:¬(!items.isEmpty&&Builtin.List.listTooLong (items.size+a.size))=true)(h1:items.size<=sizeLine)(h2:items.size+a.size<=sizeLine+1):
  Meets (Builtin.«list.extend» ⟨[.ref l,.ref b],[]⟩) (λ_ R s=>s.heap.get? l=some {cls:=.type "list",dict:=none,data:=.seq items n,slots:=#[]}/\s.heap.get? b=some {cls:=.type "tuple",dict:=e,data:=.seq a d,slots:=sl}/\R (.ok<|.ret Value.none) {s with heap:=s.heap.update l (Obj.mapSeq λx=>x++a)}):=
 .of_wp λprog w A R s h=>by
  rcases s with⟨g,i,j,k,os⟩;obtain⟨c,hb,q⟩:=h;have m:(items++a).size<=sizeLine+1:=by rw[Array.size_append];exact h2
  wp_walk using(wpAny_updateSeq c rfl),wpAny_loadPart' c,wpAny_loadPart' hb
  exact⟨_,rfl,q⟩
def jkq(K:W4):V->List V->Hp->VK->Prop:=λx vs H Q=>∃ l b xs zs,x=.ref l/\vs=[.ref b]/\H l=some (.lst xs)/\(SqL K H b zs\/SqT K H b zs)/\xs.length+zs.length<=sizeLine/\Q .non (upd H l<|.lst<|xs++zs)
def jhM:MtM X "list.extend" (jkq X.K):=by
 intro t s σ H x vs v D Q I y A h;obtain⟨l,b,E,zs,rfl,rfl,m,g,w,q⟩:=h;cases y;obtain⟨u,rfl,B⟩:=A.one;cases B;obtain⟨z,c,n,r,G,e⟩:=I.lstM m;rcases g with g | g
 ·obtain⟨a,r2,p2,_⟩:=I.list g;obtain⟨⟨cls,i,data,j⟩,k,e2,o,hd,C⟩:=p2
  first | subst o | skip
  have f:c.toArray.size+a.toArray.size<=sizeLine:=by rw[N4,N4,<- r.length,<- r2.length];exact w
  have d:¬ (!c.toArray.isEmpty&&Builtin.List.listTooLong (c.toArray.size+a.toArray.size))=true:=by
   rw[uj f,Bool.and_false];exact M4
  have p:s.heap.get? b=some {cls:=.type "list",dict:=i,data:=.seq a.toArray k,slots:=j}:=by
   rw[e2];simp_all
  refine call_meets PySem.F.slot_list_extend ⟨_,e,rfl⟩ PySem.F.entry_list_extend (PySem.F.args_list_extend_2 _ _) (jn8 l c.toArray n b a.toArray k i j d ∅ ∅) ⟨e,p,⟨.non,_,I.lset m e (by simp) (r.append r2) ?_,rfl,q⟩⟩;rw[N5]
  lia
 ·obtain⟨a,r2,p2,_⟩:=I.tuple g;obtain⟨⟨cls,i,data,j⟩,e2,o,k,hd⟩:=p2;subst o hd;have f:c.toArray.size+a.toArray.size<=sizeLine:=by rw[N4,N4,<- r.length,<- r2.length];exact w
  have d:¬ (!c.toArray.isEmpty&&Builtin.List.listTooLong (c.toArray.size+a.toArray.size))=true:=by
   rw[uj f,Bool.and_false];exact M4
  refine call_meets PySem.F.slot_list_extend ⟨_,e,rfl⟩ PySem.F.entry_list_extend (PySem.F.args_list_extend_2 _ _) (jpB l c.toArray n b a.toArray k i j d ∅ ∅) ⟨e,e2,⟨.non,_,I.lset m e (by simp) (r.append r2) ?_,rfl,q⟩⟩;rw[N5]
  lia
def jb9:qe X (.type "int") (λxs H Q=>∃ b:Bool,xs=[.bl b]/\Q (.int<|if b then 1 else 0) H):=by
 intro a s σ H xs d Q I r h;obtain⟨b,rfl,q⟩:=h;obtain⟨u,rfl,c⟩:=r.one;cases c;exact call_int_bool ⟨.int<|if b then 1 else 0,H,I.tok _,⟨_,rfl⟩,q⟩
section
def jmv(ft:TypeCalled T nw it)
  (c1:checkTypeCall T ⟨xs,kw⟩=pure ()) (d:checkBuiltinCall nw ⟨.type T::xs,kw⟩=pure ()) (f:entryFor table nw=some Bn) (i:entryFor table it=some Bi)
  (g:Meets (Bn ⟨.type T::xs,kw⟩) Sn) (h:Sn A.in1 (wants Q1 E) s)
  (nx:∀ obj s1,Q1 obj s1->s1.TypeIs obj T/\argsOk it ⟨obj::xs,kw⟩/\∃ Si,MeetsIn prog w (Bi ⟨obj::xs,kw⟩) Si/\Si A.in1 (wants (λr s2=>r=.none/\Q obj s2) E) s1):
  wpAny (model prog w) A (call (.type T) xs kw) Q E s:=by
 obtain⟨c,p,q⟩:=ft.mro;have t:=ft.made;have u:=ft.sub;refine wpAny_call<|codeAny_of_tree<|M8 ⟨Code.quiet_builtin _<|by decide +kernel,codeAny_builtin F.entry_type_call ?_⟩;have v:=ft.notType;have x:=ft.canCreate
 repeat (any_goals (first | assumption | wp_step))
 refine codeAny_mono (codeAny_call_builtin ft.plain f<|wpAny_of_eq d<|g prog w A.in1 _ s h) λr s1 b=>?_;cases r with
 | error e=>exact b
 | ok j=>
  cases j with
  | ret obj=>
   obtain⟨k,l,Si,m,n⟩:=nx _ _ b;have y:=ft.init.lookup;have z:=ft.init.bind obj
   repeat (any_goals (first | assumption | wp_step))
   refine codeAny_mono (codeAny_call_builtin ft.init.plain i<|ft.init.check _ _ _ _ _ _ _ _ k l<|m A.in1 _ s1 n) λr2 s2 a=>?_;cases r2 with
   | error e=>exact a
   | ok o=>
    cases o with
    | ret r=>
     obtain⟨rfl,B⟩:=a
     repeat (any_goals (first | assumption | wp_step))
    | _=>exact a.elim
  | _=>exact b.elim
def jmW(c:typeLookup (.type T) "__init__" = pure (some<|.builtin "object.__init__"))
  (d:Bind.madeBy (.type T)=pure (some nw)) (e:(some nw != some "object.__new__")=true):
  Meets (Builtin.«object.__init__» ⟨self::x::xs,kw⟩) (λ_ R s=>s.TypeIs self T/\R (.ok<|.ret .none) s):=by
 refine Meets.of_wp λprog w A R s a=>?_;obtain⟨f,b⟩:=a
 repeat (any_goals (first | assumption | wp_step))
 exact⟨_,rfl,b⟩
def jpg(a b):checkTypeCall "enumerate" ⟨[a],[("start",b)]⟩=pure ():=by kernel_rfl
def jpk(a b):checkBuiltinCall "enumerate.__new__" ⟨[.type "enumerate",a],[("start",b)]⟩=pure ():=by kernel_rfl
def joh(a b c):argsOk "object.__init__" ⟨[a,b],[("start",c)]⟩:=by
 unfold argsOk;rw[signature?_of (n:=['_','_','t','i','n','i','_','_']) (by kernel_rfl) F.owner_object];kernel_rfl
open AutoSeq1 (wpAny_loadPart') in
def jii(l)(us)(m)(dc)(sl)(n)(t)(j:Builtin.SmallTypes.fitsIndex n=true):
  Meets (Builtin.«enumerate.__new__» ⟨[.type "enumerate",.ref l],[("start",.int n t)]⟩) (λ_ R s=>s.heap.get? l=some {cls:=.type "list",dict:=dc,data:=.seq us m,slots:=sl} /\
   R (.ok<|.ret<|.ref (s.heap.push {cls:=.type "list_iterator",data:=.fields #[.ref l,.int 0 0]}).objs.size)
    { s with heap:=(s.heap.push {cls:=.type "list_iterator",data:=.fields #[.ref l,.int 0 0]}).push {cls:=.type "enumerate",data:=.fields #[.none,.bool false,.ref ↥s,rawInt n,.none,.none]} }):=
 .of_wp λprog w A R s h=>by
  obtain⟨f,g,d,i,os⟩:=s;obtain⟨a,h⟩:=h;have e:=sub_enumerate;have b:Heap.IsList (Shared.heap ⟨f,g,d,i,os⟩) l us:=⟨_,a,rfl,m,rfl⟩
  wp_walk using wpAny_loadPart' a
  refine wpAny_stack_any λk=>M8 ?_;split
  ·rename_i c _ _ _ _ _;cases(c==Value.type "enumerate")
   ·wp_walk using wpAny_loadPart' a,wpAny_pyIter_list b
    exact⟨_,rfl,h⟩
   ·wp_walk using wpAny_loadPart' a,wpAny_pyIter_list b
    exact⟨_,rfl,h⟩
  ·wp_walk using wpAny_loadPart' a,wpAny_pyIter_list b
   exact⟨_,rfl,h⟩
def jkc(e:s.heap.IsList l us)(f:Builtin.SmallTypes.fitsIndex n=true)
  (go:∀ k,IsEnum k (↥s+1) ↥s n .none->k.IsListIter ↥s l 0->(∀ b o,s.heap.get? b=some o->k.get? b=some o)->C (.ref<|↥s+1) {s with heap:=k}):
  wpAny (model prog w) A (call (.type "enumerate") [.ref l] [("start",.int n t)]) C E s:=by
 obtain⟨⟨c,g,p,h⟩,i,j,m,hd⟩:=e;subst j hd;refine jmv (Q1:=λobj s1=>s1.TypeIs obj "enumerate"/\C obj s1) F.called_enumerate (jpg _ _) (jpk _ _) F.entry_enumerate_new F.entry_object_init (jii l us m g h n t f) ⟨i,?_⟩
  λobj _ q=>⟨q.1,joh _ _ _,_,(jmW F.called_enumerate.init.lookup F.called_enumerate.made<|by decide).inModel _ _,q.1,rfl,q.2⟩
 have a:(s.heap.push {cls:=.type "list_iterator",data:=.fields #[.ref l,.int 0 0]}).objs.size=↥s+1:=Heap.size_push ..;rw[a];have d:IsEnum ((s.heap.push {cls:=.type "list_iterator",data:=.fields #[.ref l,.int 0 0]}).push {cls:=.type "enumerate",data:=.fields #[.none,.bool false,.ref ↥s,rawInt n,.none,.none]}) (↥s+1) ↥s n .none:=by
  have q:=E2 (s.heap.push {cls:=.type "list_iterator",data:=.fields #[.ref l,.int 0 0]}) (o:={cls:=.type "enumerate",data:=.fields #[.none,.bool false,.ref ↥s,rawInt n,.none,.none]}) rfl;rw[a] at q;exact q
 exact⟨⟨_,d,rfl⟩,go _ d ⟨_,L8 _<|E2 _ rfl,rfl,rfl⟩ λb o x=>L8 _<|L8 _ x⟩
end
def job(K:W4)(tl:TA)(tb:TE):TI:=λσ H R=>tl σ H λvs H1=>tb σ H1 λv H2=>∃ a xs n,vs=[.ref a]/\v=.int n/\Builtin.SmallTypes.fitsIndex n=true/\SqL K H2 a xs/\R (Itn K a n) H2
def jn7{X}{elts}{m}{tpos p pos d}{a b}{ta}{tb}(D:Gl X "enumerate")(E:X.mg "enumerate" = none)(F:PA X [a] ta)(hb:PE X b tb)(G:starEach [a] X.env=[(false,eval a X.env)]:=by rfl):
  PI X (.Tuple elts m tpos) (.Call (.Name "enumerate" p) [a] [⟨some "start",b,d⟩] pos) (job X.K ta tb):=by
 intro c s σ H R I h;refine wpAny_Call_Name_kw<|JN I D E (show bootBuiltins "enumerate" = some (.type "enumerate") by decide +kernel)<|L3<|wpAny_holding ?_;have k:=F pos c s σ H _ I h;rw[G] at k ⊢;refine wpAny_mono (evalArgs_kw (Q:=λx s1=>wpAny (model X.prog X.w) X.A (call (.type "enumerate") x.pos x.kw) (λv s1=>wpAny (model X.prog X.w) X.A (pyIter v) (PIE X c σ (.Tuple elts m tpos) R) X.xe s1) X.xe s1) rfl<|thn k λY s1 ⟨vs,J,L,r1,M⟩=>?_) (λx s1 j=>L3<|wpAny_standAt ?_) λ_ _ x=>x
 ·refine wpAny_evalAll_cons<|L3<|thn (hb c s1 σ J _ L M) λv s2 ⟨y,B,i,r2,N⟩=>L3<|wpAny_standAt<|M8<|wpAny_evalAll_nil ?_;obtain⟨l,Z,n,rfl,rfl,O,P,q⟩:=N;obtain⟨u,rfl,S⟩:=r1.one;cases S;obtain⟨t,rfl⟩:=r2;obtain⟨T,rv,pl,hz⟩:=i.list P;have f:l < ↥s2:=by
   obtain⟨o,_,e,_⟩:=pl;exact N2 e
  refine jkc pl.isList O λj C hit U=>?_;have V:Inv X c σ B {s2 with heap:=j}:=i.kept U;refine PySem.wpAny_pyIter_enum C ⟨↥s2+1,[↥s2+1,↥s2],_,_,B,rfl,V,jdZ _ _ l n (Nat.succ_ne_self _) (N7<|Nat.lt_succ_of_lt f)<|N7 f,⟨⟨_,by simpa using C⟩,hit⟩,λb hb=>?_,q⟩;have g:↥s2<=b:=by
   rcases(⇑hb:b=↥s2+1\/b=↥s2) with z | z
   ·rw[z];exact Nat.le_succ _
   ·rw[z];exact N0 _
  exact i.fpOk g<|i.hok.fresh g
 ·exact L3<|M8<|L3<|wpAny_mono j (λr s2 W=>L3<|wpAny_holding<|wpAny_point<|M8 W) λ_ _ x=>x
section
variable {prog:Program}{w:World}{A:Around}{E:J0}{s:Shared}
def jko{j t}{n}{a}{C}(f:A.handled=none)(b:s.heap.IsTupleIter j t n)(g:s.heap.IsTuple t a)(h:a[n]?=none)
  (go:∀ k e,Heap.ExtBut j s.heap k->(∃ o,k.get? e=some o/\o.cls=.type "StopIteration")->E (.ref e) {s with heap:=k}):wpAny (model prog w) A (Builtin.SmallTypes.nextOf<|.ref j) C E s:=by
 obtain⟨l,c,ci,d⟩:=id b;obtain⟨ot,gt,_,mt,i⟩:=g;refine L3<|wpAny_callSpecial?_slot b.typeIs F.slot_tuple_iterator_next<|wpAny_call_entry F.slot_tuple_iterator_next b.typeIs F.entry_tuple_iterator_next ?_<|F.args_tuple_iterator_next_1 _;show wpAny _ _ (field (.ref j) 0 >>= _) _ _ s;refine L3<|U7 c d rfl<|L3<|U7 c d rfl<|L3<|wpAny_seqItems gt i ?_;simp only[N9,h];refine L3<|wpAny_rule<|L3<|wpAny_setField c d (by simp)<|L3<|L3<|wpAny_newObj_type ?_ (by size_fits);refine L3<|wpAny_of_eq (by first | rfl | (simp only[firstArgMember];rfl)) ?_;refine wpAny_newObj_type (L3<|wpAny_handled ?_) (by size_fits)
 first | rw[f] | rw[f]
 exact L3<|M8<|wpAny_throw<|go _ _ (((Heap.SameBut.update ..).extBut.push _).push _) ⟨_,E2 _ rfl,rfl⟩
variable {z TI TO j1 j2 l t:Addr}{m:Nat}{us vs:Array Value}{u v a b:Value}
end
end L2
namespace PySem
open Sem (wp)
namespace F
end F
end PySem
namespace L2
open PySem PySem.Spec PyProof.Rows
def JB:entryFor table "dict_itemiterator.__iter__" = some Builtin.«dict_keyiterator.__iter__» :=
 entryFor_alias (id':="dict_keyiterator.__iter__") (by kernel_rfl) rfl (by decide +kernel) (by kernel_rfl)
def KP(hit:IsItemIter s.heap it d i n ep ok ov)(h:Q (.ref it) s):wpAny (model prog w) A (pyIter<|.ref it) Q E s:=by
 have a:s.TypeIs (.ref it) "dict_itemiterator":=⟨_,hit,rfl⟩;exact wpAny_pyIter_slot a PySem.F.slot_dict_itemiterator_iter<|wpAny_call_entry PySem.F.slot_dict_itemiterator_iter a JB (M8 ⟨_,rfl,"dict_itemiterator",_,a,PySem.F.slot_dict_itemiterator_next.lookup,h⟩)<|PySem.F.args_dict_itemiterator_iter_1 _
end L2
namespace PySem
open Sem (wp)
end PySem
namespace L2
open PySem PySem.Spec PyProof.Rows
end L2
namespace PySem
open PySem.W PyProof.Rows PySem.Calls
noncomputable def kEv{α}(lt:Nat->Nat->Bool):KasT α->α
 | .ret a=>a
 | .ask i j k=>kEv lt<|k<|lt i j
def kOk{α}(lt:Nat->Nat->Bool)(n:Nat):KasT α->Prop
 | .ret _=>True
 | .ask i j k=>i<n/\j<n/\kOk lt n (k<|lt i j)
theorem qU:∀ t:KasT α,kEv lt (t.bind f)=kEv lt (f<|kEv lt t)
 | .ret a=>rfl
 | .ask i j k=>qU<|k<|lt i j
theorem qR:∀ t:KasT α,kOk lt n t->kOk lt n (f<|kEv lt t)->kOk lt n (t.bind f)
 | .ret a,_,h=>h
 | .ask i j k,b,c=>⟨b.1,b.2.1,qR (k<|lt i j) b.2.2 c⟩
theorem jg1(c:∀ i j C,i<n->j<n->C (lt i j) s->cmp i j C s):∀ t:KasT α,kOk lt n t->Q (kEv lt t) s->t.kasWp cmp Q s
 | .ret a,_,h=>h
 | .ask i j k,b,h=>c i j _ b.1 b.2.1<|jg1 c (k<|lt i j) b.2.2 h
def Pm(n:Nat)(p:Array Nat):Prop:=p.toList.Perm<|List.range n
def Pm.lt(h:Pm n p)(a:0<n)(i):p.getD i 0<n:=by
 by_cases hi:i<p.size
 ·have e:p.getD i 0=p[i]:=by simp[Array.getD,hi]
  rw[e];have b:p[i]∈p.toList:=by simp
  exact List.mem_range.mp<|h.mem_iff.mp b
 ·have e:p.getD i 0=0:=by simp[Array.getD,hi]
  rw[e];exact a
def Pm.swap(h:Pm n p)(i j:Nat):Pm n (p.swapIfInBounds i j):=by
 refine List.Perm.trans ?_ h;rw[Array.swapIfInBounds_def];split
 ·split
  ·exact(Array.perm_iff_toList_perm.mp<|Array.swap_perm _ _)
  ·exact List.Perm.refl _
 ·exact List.Perm.refl _
theorem Pm.swaps(u v:Nat->Nat):∀(l:List Nat) {p},Pm n p->Pm n (l.foldl (λa k=>a.swapIfInBounds (u k)<|v k) p)
 | [],_,h=>h
 | k::l,p,h=>Pm.swaps u v l<|h.swap _ _
def Pm.rev(h:Pm n p)(i j):Pm n (kas_rev p i j):=Pm.swaps _ _ _ h
def Pm.bub(h:Pm n p)(k m):Pm n (bubble p k m):=Pm.swaps _ _ _ h
section
variable {lt:Nat->Nat->Bool}{n:Nat}
theorem jcL(a:0<n)  (h:Pm n p):∀ f m,kOk lt n<|kas_asc p f m
 | 0,_=>trivial
 | f+1,m=>by
  refine⟨h.lt a _,h.lt a _,?_⟩;dsimp only;split
  ·trivial
  ·exact jcL a h f<|m+1
theorem Qs(b:0<n):∀ f {p} m q,Pm n p->kOk lt n (kas_desc f p m q)/\Pm n (kEv lt<|kas_desc f p m q).1
 | 0,_,_,_,h=>⟨trivial,h⟩
 | f+1,p,m,q,h=>by
  have a:=h.lt b;cases hc:lt (p.getD m 0) (p.getD (m-1) 0) with
  | true=>
   by_cases e:q>0
   ·have c:=Qs b f (p:=kas_rev p (m-(q+1)) m) (m+1) 0<|h.rev _ _;have d:=e;simp only[kas_desc,kOk,kEv,hc,if_true,gt_iff_lt,d,a,true_and];exact c
   ·have c:=Qs b f (m+1) 0 h;simp only[kas_desc,kOk,kEv,hc,if_true,gt_iff_lt,e,if_false,a,true_and];exact c
  | false=>
   cases hd:lt (p.getD (m-1) 0) (p.getD m 0) with
   | true=>
    simp only[kas_desc,kOk,kEv,hc,hd,if_true,Bool.false_eq_true,if_false,a,true_and];exact h
   | false=>
    simp only[kas_desc,kOk,kEv,hc,hd,Bool.false_eq_true,if_false,a,true_and];exact(Qs b f (m+1) (q+1) h)
def YZ(a:0<n)  (h:Pm n p) (m k):kOk lt n (kas_tail3 m k p)/\Pm n (kEv lt<|kas_tail3 m k p).2:=by
 unfold kas_tail3;exact⟨qR _ (jcL a (h.rev _ _) _ _) trivial,by rw[qU];exact h.rev _ _⟩
def kQ(a:0<n)  (h:Pm n p) (m k):kOk lt n (kas_descPart m k p)/\Pm n (kEv lt<|kas_descPart m k p).2:=by
 unfold kas_descPart;have hd:=Qs (lt:=lt) a (k-(m+1)) (m+1) 0 h;refine⟨qR _ hd.1 ?_,?_⟩
 ·split
  ·exact(YZ a (hd.2.rev _ _) _ _).1
  ·exact(YZ a hd.2 _ _).1
 ·rw[qU];split
  ·exact(YZ a (hd.2.rev _ _) _ _).2
  ·exact(YZ a hd.2 _ _).2
def jfn(a:0<n)  (h:Pm n p) (k):kOk lt n (kas_count k p)/\Pm n (kEv lt<|kas_count k p).2:=by
 unfold kas_count;refine⟨qR _ (jcL (lt:=lt) a h (k-1) 1) ?_,?_⟩
 ·generalize kEv lt (kas_asc p (k-1) 1)=m;split
  ·trivial
  ·split
   ·refine⟨h.lt a _,h.lt a _,?_⟩;dsimp only;split
    ·trivial
    ·exact(kQ a (h.rev _ _) _ _).1
   ·exact(kQ a h _ _).1
 ·rw[qU];split
  ·exact h
  ·split
   ·dsimp only[kEv];split
    ·exact h
    ·exact(kQ a (h.rev _ _) _ _).2
   ·exact(kQ a h _ _).2
theorem KR(a:0<n)  (h:Pm n p) (k):∀ f l r,kOk lt n<|kas_place p k f l r
 | 0,_,_=>trivial
 | f+1,l,r=>by
  unfold kas_place;split
  ·trivial
  ·refine⟨h.lt a _,h.lt a _,?_⟩;dsimp only;split
   ·exact KR a h k f _ _
   ·exact KR a h k f _ _
theorem jbN(a:0<n):∀ f {p} k,Pm n p->kOk lt n (kas_bin f p k)/\Pm n (kEv lt<|kas_bin f p k)
 | 0,_,_,h=>⟨trivial,h⟩
 | f+1,p,k,h=>by
  unfold kas_bin;have b:=jbN a f (p:=bubble p k<|k-kEv lt (kas_place p k k 0 k)) (k+1)<|h.bub _ _;exact⟨qR _ (KR (lt:=lt) a h k k 0 k) b.1,by rw[qU];exact b.2⟩
def wy(b:0<n):kOk lt n (kas_sort n)/\Pm n (kEv lt<|kas_sort n):=by
 unfold kas_sort;have c:Pm n (List.toArray<|List.range n):=List.Perm.refl _;have a:=jfn (lt:=lt) b c n;refine⟨qR _ a.1 ?_,?_⟩
 ·split
  ·exact(jbN b _ _ a.2).1
  ·trivial
 ·rw[qU];split
  ·exact(jbN b _ _ a.2).2
  ·exact a.2
end
end PySem
set_option maxHeartbeats 4000000
namespace PySem
open PySem.W PyProof.Rows PySem.Calls
def VW{α:Type}(lt:Nat->Nat->Bool)(vs:List α)(d:α):List α:=if vs.length<2 then vs else(kEv lt<|kas_sort vs.length).toList.map λi=>vs.getD i d
def uT(lt)(vs)(d:α):(VW lt vs d).length=vs.length:=by
 unfold VW;split
 ·rfl
 ·rename_i h;rw[L1];have:=((wy (lt:=lt) (n:=vs.length) ∅).2).length_eq;rw[this,List.length_range]
def zK(m:s.heap.get? a=some (seqObj "list" vs.toArray n))(r:vs.length<64)
  (F:2<=vs.length->∀ s':Shared,(∀ b o,b≠a->s.heap.get? b=some o->s'.heap.get? b=some o)->∀{Q:SortKind->Shared->Prop},Q κ s'->wpAny (model prog w) A (keyKind' vs.toArray) Q (λ_ _=>False) s')
  (t:∀ s':Shared,(∀ b o,b≠a->s.heap.get? b=some o->s'.heap.get? b=some o)->∀ i j,i<vs.length->j<vs.length->∀{C:Bool->Shared->Prop},C (lt i j) s'->wpAny (model prog w) A (keyLt' κ (vs.getD i Value.none)<|vs.getD j Value.none) C (λ_ _=>False) s')
  (h:P (.done<|.ret .none) {s with heap:=sortedHeap s.heap a vs (VW lt vs Value.none).toArray}):
  wpAny (model prog w) A (Builtin.«list.sort» ⟨[.ref a],[]⟩) P E s:=by
 rw[list_sort_plain];have z:=N2 m;refine L3<|listItems_at m rfl<|L3<|listUpdate_at m rfl ?_;obtain⟨u,g⟩:∃ u,(s.heap.update a<|Obj.mapSeq λ_=>#[]).get? a=some (seqObj "list" #[] u):=⟨_,get?_update_seq m<|λ_=>#[]⟩;refine L3<|seqEpoch_at g rfl<|L3<|wpAny_newTuple<|L3<|wpAny_newList<|wpAny_holding ?_;have d:(((s.heap.update a<|Obj.mapSeq λ_=>#[]).push (seqObj "tuple" vs.toArray 0)).push (seqObj "list" #[] 0)).get? a=some (seqObj "list" #[] u):=by
  rw[Heap.get?_push_ne _ _ _<|by rw[size_push',Heap.size_update];exact N7<|Nat.lt_succ_of_lt z,Heap.get?_push_ne _ _ _<|by rw[Heap.size_update];exact N7 z];exact g
 have keep:∀ b o,b≠a->s.heap.get? b=some o->(((s.heap.update a<|Obj.mapSeq λ_=>#[]).push (seqObj "tuple" vs.toArray 0)).push (seqObj "list" #[] 0)).get? b=some o:=λb o hb e=>
  L8 _ (L8 _<|by rw[Heap.get?_update_ne _ _ _ _ hb];exact e)
 dsimp only;have v:vs.toArray.size=vs.length:=by simp
 by_cases q:vs.toArray.size<2
 ·have c:VW lt vs Value.none=vs:=by unfold VW;rw[if_pos ∅]
  rw[c] at h;rw[if_pos q,if_pos q];refine L3<|M8<|L3<|M8 ?_;have H:(arrOf<|SortSt.mk' general' (vs.toArray.zip vs.toArray) #[] 7 none).map (·.2)=vs.toArray:=by
   apply Array.toList_inj.mp;simp;exact List.map_snd_zip<|N0 _
  rw[H];refine L3<|seqEpoch_at d rfl ?_;refine L3<|listUpdate_at d rfl ?_ (hsz2:=by rw[v,sizeLine_eq];lia);simp only[bne_self_eq_false,Bool.false_eq_true,if_false];exact M8 h
 ·have k:2<=vs.length:=by lia
  have c:VW lt vs Value.none=(kEv lt<|kas_sort vs.length).toList.map λi=>vs.getD i Value.none:=by unfold VW;rw[if_neg ∅]
  rw[if_neg q,if_neg q];refine L3<|wpAny_mono (F k {s with heap:=((s.heap.update a<|Obj.mapSeq λ_=>#[]).push (seqObj "tuple" vs.toArray 0)).push (seqObj "list" #[] 0)} keep (Q:=λB s0=>B=κ/\s0={s with heap:=((s.heap.update a<|Obj.mapSeq λ_=>#[]).push (seqObj "tuple" vs.toArray 0)).push (seqObj "list" #[] 0)}) ⟨rfl,rfl⟩) ?_ λ_ _ x=>x.elim;rintro B s0 ⟨rfl,rfl⟩;have l:=kat_run (E:=E)
   (Q:=λf s'=>s'={s with heap:=((s.heap.update a<|Obj.mapSeq λ_=>#[]).push (seqObj "tuple" vs.toArray 0)).push (seqObj "list" #[] 0)}/\arrOf f=(kEv lt<|kas_sort vs.length).map (kas_item<|vs.toArray.zip vs.toArray)/\failedOf f=none)
   (G:=λp s'=>p=kEv lt (kas_sort vs.length)/\s'={s with heap:=((s.heap.update a<|Obj.mapSeq λ_=>#[]).push (seqObj "tuple" vs.toArray 0)).push (seqObj "list" #[] 0)})
   rfl k r (λp f s' N I J D=>⟨D.2,by rw[<- D.1];exact I,J⟩)
   (jg1 (λi j C hi K L=>t {s with heap:=((s.heap.update a<|Obj.mapSeq λ_=>#[]).push (seqObj "tuple" vs.toArray 0)).push (seqObj "list" #[] 0)} keep i j hi K L) _ (wy (lt:=lt) (n:=vs.length) ∅).1 ⟨rfl,rfl⟩)
  refine L3<|wpAny_mono l ?_ λ_ _ e=>e;rintro⟨⟨⟩,f⟩ s' ⟨rfl,y,M⟩;rw[kat_snds rfl y,<- c];refine L3<|seqEpoch_at d rfl ?_;refine L3<|listUpdate_at d rfl ?_ (hsz2:=by rw[N4,uT,sizeLine_eq];lia);rw[M];simp only[bne_self_eq_false,Bool.false_eq_true,if_false];exact M8 h
def V0(r:s.heap.IsList l vs.toArray)(m:vs.length<64)
  (t:2<=vs.length->∀ A' s',(∀ b o,s.heap.get? b=some o->s'.heap.get? b=some o)->∀{Q:SortKind->Shared->Prop},Q κ s'->wpAny (model prog w) A' (keyKind' vs.toArray) Q (λ_ _=>False) s')
  (a:∀ A' s',(∀ b o,s.heap.get? b=some o->s'.heap.get? b=some o)->∀ i j,i<vs.length->j<vs.length->∀{C:Bool->Shared->Prop},C (lt i j) s'->wpAny (model prog w) A' (keyLt' κ (vs.getD i Value.none)<|vs.getD j Value.none) C (λ_ _=>False) s')
  (h:∀ h' c,(∀ b o,s.heap.get? b=some o->h'.get? b=some o)->h'.get? (↥s+1)=some (seqObj "list" (VW lt vs Value.none).toArray c)->Q (.ref<|↥s+1) {s with heap:=h'}):
  wpAny (model prog w) A (call (.builtin "sorted") [.ref l]) Q E s:=by
 refine Calls.call_function_entry kind_sorted plain_sorted entry_sorted (args_sorted1 _)<|L3<|M8 ?_;refine L3<|collect_list r ?_ (by rw[sizeLine_eq];lia);refine L3<|wpAny_newList ?_ (by rw[sizeLine_eq];lia);have e:((s.heap.push<|seqObj "list" #[] 0).update ↥s (Obj.mapSeq (·++vs.toArray))).objs.size=↥s+1:=by
  rw[Heap.size_update,size_push']
 have f:(((s.heap.push<|seqObj "list" #[] 0).update ↥s (Obj.mapSeq (·++vs.toArray))).push (seqObj "list" vs.toArray 0)).get? (↥s+1)=some (seqObj "list" vs.toArray 0):=by
  rw[<- e];exact E2 _ rfl
 have keep:∀ b o,s.heap.get? b=some o->(((s.heap.push<|seqObj "list" #[] 0).update ↥s (Obj.mapSeq (·++vs.toArray))).push (seqObj "list" vs.toArray 0)).get? b=some o:=λb o q=>by
  have a:=N2 q;rw[Heap.get?_push_ne _ _ _<|by rw[e];exact N7<|Nat.lt_succ_of_lt a,Heap.get?_update_ne _ _ _ _<|N7 a,Heap.get?_push_ne _ _ _<|N7 a];exact q
 rw[e];have d:∀{s':Shared},(∀ b o,b≠↥s+1->(((s.heap.push<|seqObj "list" #[] 0).update ↥s (Obj.mapSeq (·++vs.toArray))).push (seqObj "list" vs.toArray 0)).get? b=some o->s'.heap.get? b=some o)->∀ b o,s.heap.get? b=some o->s'.heap.get? b=some o:=λk b o q=>
  k b o (N7<|Nat.lt_succ_of_lt<|N2 q) (keep b o q)
 refine L3<|wpAny_holding<|wpAny_call_entry slot_list_sort ⟨_,f,rfl⟩ entry_list_sort ?body (args_list_sort _)
 case body=>
  refine zK f m (λu s' k=>t u _ s'<|d k) (λs' k=>a _ s'<|d k) ?_;have g:∃ c,(sortedHeap (((s.heap.push<|seqObj "list" #[] 0).update ↥s (Obj.mapSeq (·++vs.toArray))).push (seqObj "list" vs.toArray 0)) (↥s+1) vs (VW lt vs Value.none).toArray).get? (↥s+1)=some (seqObj "list" (VW lt vs Value.none).toArray c):=by
   obtain⟨p,n⟩:∃ p,((((s.heap.push<|seqObj "list" #[] 0).update ↥s (Obj.mapSeq (·++vs.toArray))).push (seqObj "list" vs.toArray 0)).update (↥s+1) (Obj.mapSeq λ_=>#[])).get? (↥s+1)=some (seqObj "list" #[] p):=⟨_,get?_update_seq f<|λ_=>#[]⟩;exact⟨_,get?_update_seq (L8 _<|L8 _ n) λ_=>(VW lt vs Value.none).toArray⟩
  obtain⟨c,v⟩:=g;refine⟨_,rfl,M8 ⟨_,rfl,h _ c (λb o q=>?_) v⟩⟩;have hb:=N7<|Nat.lt_succ_of_lt<|N2 q;show(Heap.update _ _ _).get? b=some o;rw[Heap.get?_update_ne _ _ _ _ hb];exact L8 _<|L8 _ (by rw[Heap.get?_update_ne _ _ _ _ hb];exact keep b o q)
noncomputable abbrev je0:=Str×Str×Int
noncomputable def zT(x y:je0):Bool:=if x.1=y.1 then(if x.2.1=y.2.1 then decide (x.2.2<y.2.2) else decide (x.2.1.cps.toList<y.2.1.cps.toList)) else decide (x.1.cps.toList<y.1.cps.toList)
def ja5(h:Heap)(v:Value)(r:je0):Prop:=∃ a o m t1 t2 t3,v=.ref a/\h.get? a=some o/\o.cls=.type "tuple"/\o.data=.seq #[.str r.1 t1,.str r.2.1 t2,.int r.2.2 t3] m
def jlP(d:ja5 s.heap v x)(e:ja5 s.heap u y)  (h:C (zT x y) s):wpAny (model prog w) A (keyLt' (tuples' true) v u) C E s:=by
 obtain⟨a,o,m,j,k,l,rfl,f,n,g⟩:=d;obtain⟨b,p,q,r,t,z,rfl,i,k2,k3⟩:=e;refine kat_lt f g i k3 ?_;unfold zT at h;refine kat_cons<|wpAny_eqBool_str ?_;by_cases c:x.1=y.1
 ·rw[if_pos c] at h;rw[X4 c];refine kat_yes<|kat_cons<|wpAny_eqBool_str ?_;by_cases e2:x.2.1=y.2.1
  ·rw[if_pos e2] at h;rw[X4 e2];refine kat_yes<|kat_cons<|wpAny_eqBool_int ?_;by_cases e3:x.2.2=y.2.2
   ·rw[show(x.2.2==y.2.2)=true by simp[e3]];refine kat_yes<|kat_nil ?_;have:decide (x.2.2<y.2.2)=decide (3<3):=by rw[e3];simp
    rw[this] at h;exact h
   ·rw[show(x.2.2==y.2.2)=false by simp[e3]];exact kat_no<|kat_one _ _<|wpAny_lt_int h
  ·rw[if_neg e2] at h;rw[X5 e2];exact kat_no<|kat_one _ _<|lt_str h
 ·rw[if_neg c] at h;rw[X5 c];exact kat_no<|oneLt_str h
def jdY{A}{E}{s}{vs:List Value}{rs:List je0}(c:vs.length=rs.length)(b:∀(j:Nat) v,vs[j]?=some v->∃ r,rs[j]?=some r/\ja5 s.heap v r)(u:0<vs.length){Q}(h:Q (tuples' true) s):wpAny (model prog w) A (keyKind' vs.toArray) Q E s:=by
 have key:∀ vs (rs:List je0),vs.length=rs.length->(∀(j:Nat) v,vs[j]?=some v->∃ r,rs[j]?=some r/\ja5 s.heap v r)->∃ fs:List Value,KatTups s.heap vs fs/\fs.length=vs.length/\∀ v∈fs,∃ x t,v=Value.str x t:=by
  intro vs
  induction vs with
  | nil=>intro rs _ _;exact⟨[],KatTups.nil,rfl,λv b=>(nomatch b)⟩
  | cons v vs d=>
   intro rs c b;cases rs with
   | nil=>simp at c
   | cons r rs=>
    obtain⟨fs,k,l,f⟩:=d rs ⇑c λj v e=>b (j+1) v ⇑e;obtain⟨g,e,a,o,m,i,y,z,rfl,n,p,q⟩:=b 0 v rfl;refine⟨.str g.1 i::fs,KatTups.cons n p q rfl k,by simp[l],λv b=>?_⟩;rcases M5.mp b with rfl | b
    ·exact⟨_,_,rfl⟩
    ·exact f v b
 obtain⟨fs,k,l,f⟩:=key vs rs c b;refine kat_kind (T:=.type "str") k ∅ (λv b=>?_) (by rfl) h;obtain⟨x,t,rfl⟩:=f v b;exact Looks.of_pure rfl
def YQ{A}{E}{s:Shared}{vs}{rs:List je0}{Q}(u:s.heap.IsList l vs.toArray)(n:vs.length<64)(g:vs.length=rs.length)(x:∀(j:Nat) v,vs[j]?=some v->∃ r,rs[j]?=some r/\ja5 s.heap v r)
  (h:∀ h' c,(∀ b o,s.heap.get? b=some o->h'.get? b=some o)->h'.get? (↥s+1)=some (seqObj "list" (VW (λi j=>zT (rs.getD i ("","",0))<|rs.getD j ("","",0)) vs Value.none).toArray c)->Q (.ref<|↥s+1) {s with heap:=h'}):
  wpAny (model prog w) A (call (.builtin "sorted") [.ref l]) Q E s:=by
 have up:∀(d:Shared),(∀ b o,s.heap.get? b=some o->d.heap.get? b=some o)->∀ j v,vs[j]?=some v->∃ r,rs[j]?=some r/\ja5 d.heap v r:=λd f j v k=>by
  obtain⟨r,e,a,o,m,y,z,B,p,D,q,F⟩:=x j v k;exact⟨r,e,a,o,m,y,z,B,p,f a o D,q,F⟩
 refine V0 u n (λq G d f Q H=>jdY g (up d f) ∅ H) (λG d f i j hi k C t=>?_) h;obtain⟨r1,p,I⟩:=up d f i _<|X9 hi;obtain⟨r2,e2,J⟩:=up d f j _<|X9 k;have K:vs.getD i Value.none=vs[i]:=by simp[hi]
 have g2:vs.getD j Value.none=vs[j]:=by simp[k]
 rw[K,g2];refine jlP I J ?_;have L:rs.getD i ("","",0)=r1:=by rw[List.getD_eq_getElem?_getD,p];rfl
 have M:rs.getD j ("","",0)=r2:=by rw[List.getD_eq_getElem?_getD,e2];rfl
 rw[L,M] at t;exact t
end PySem
namespace PySem
open Sem (wp)
section
variable {prog:Program}{w:World}{A:Around}{E:J0}{h:Heap}{g:Array GenState}{dr:Drawn}{t:Nat}{os:OsState}
def joi{a d:Addr}{i ep:Nat}{es:Array DictEntry}{od:Obj}{en:DictEntry}{ok k:Value}{Q:Option Value->Shared->Prop}(hit:IsItemIter h a d i es.size ep ok k)(L:h.get? d=some od)(s:od.data=.dict es ep)(M:es[i]?=some en)
  (N:∀ h',IsItemIterOut h' a d (i+1) es.size ep en.key en.val h.objs.size->h'.get? h.objs.size=some {cls:=.type "tuple",data:=.seq #[en.key,en.val]}->(∀ b o,b≠a->h.get? b=some o->h'.get? b=some o)->Q (some<|.ref h.objs.size) ⟨h',g,dr,t,os⟩):
  wpAny (model prog w) A (pyNext<|.ref a) Q E ⟨h,g,dr,t,os⟩:=by
 have q:Shared.TypeIs ⟨h,g,dr,t,os⟩ (.ref a) "dict_itemiterator":=⟨_,hit,rfl⟩;obtain⟨oc,O,P,R⟩:=od;subst s;have S:¬ ((i:Int)<0):=by lia
 refine L3<|wpAny_attempt<|wpAny_callSpecial?_slot (name:=Str.ofString "__next__") q F.slot_dict_itemiterator_next ?_;refine wpAny_call_entry F.slot_dict_itemiterator_next q F.entry_dict_itemiterator_next ?_<|F.args_dict_itemiterator_next_1 _
 repeat (any_goals (first | assumption | wp_step))
 rw[if_neg S,N9,M];refine L3 ?_;refine L3<|wpAny_typeNameOfWhole_itemiter q<|M8 ?n1
 case n1=>
  refine L3<|wpAny_isOneOf_itemiter q<|show wpAny _ _ (setField (.ref a) 3 (rawInt<|i+1) >>= _) _ _ _ from L3 (wpAny_setField_rec hit (by simp) λc T U=>?_);have l:Heap.SameBut a h c:=U;have m:IsItemIter c a d (i+1) es.size ep ok k:=by
   have e:((i+1:Nat):Int)=i+1:=by lia
   unfold IsItemIter;rw[e];simpa [rawInt] using T
  have n:Shared.TypeIs ⟨c,g,dr,t,os⟩ (.ref a) "dict_itemiterator":=⟨_,m,rfl⟩;refine L3<|wpAny_holding<|L3<|wpAny_isOneOf_itemiter n<|L3<|wpAny_isOneOf_itemiter n ?_;unfold Builtin.Dict_items.pairFromOwner;refine L3<|wpAny_newTuple ?_;have K:c.objs.size=h.objs.size:=l.1;have p:IsItemIter (c.push {cls:=.type "tuple",data:=.seq #[en.key,en.val]}) a d (i+1) es.size ep ok k:=L8 _ m;have f:(c.push {cls:=.type "tuple",data:=.seq #[en.key,en.val]}).get? h.objs.size=some {cls:=.type "tuple",data:=.seq #[en.key,en.val]}:=by rw[<- K];exact E2 _ rfl
  have j:∀ b o,b≠a->h.get? b=some o->(c.push {cls:=.type "tuple",data:=.seq #[en.key,en.val]}).get? b=some o:=λb o hb e=>L8 _<|l.extBut b o hb e;have u:h.objs.size≠a:=Nat.ne_of_gt<|N2 hit;rw[K];generalize c.push ({cls:=.type "tuple",data:=.seq #[en.key,en.val]}:Obj)=k2 at p f j;refine L3 ?_;unfold Builtin.Dict_items.ownedTupleIsFree;refine L3<|U7 p rfl (x:=.none) rfl<|M8 ?_;simp only[if_true];refine L3<|U7 p rfl (x:=ok) rfl<|L3<|U7 p rfl (x:=k) rfl<|L3<|wpAny_setField_rec p (by simp) λk3 V W=>?_;have v:Heap.SameBut a k2 k3:=W;have y:IsItemIter k3 a d (i+1) es.size ep en.key k:=V;refine L3<|wpAny_setField_rec y (by simp) λz X Y=>?_;have B:Heap.SameBut a k3 z:=Y;have C:IsItemIter z a d (i+1) es.size ep en.key en.val:=X;refine L3<|wpAny_setField_rec C (by simp) λD Z b5=>?_;have G:Heap.SameBut a z D:=b5;have H:IsItemIterOut D a d (i+1) es.size ep en.key en.val h.objs.size:=Z;refine L3<|wpAny_setField_rec H (by simp) λr q6 b6=>?_;have I:Heap.SameBut a D r:=b6;have J:IsItemIterOut r a d (i+1) es.size ep en.key en.val h.objs.size:=q6;have up:∀ b o,b≠a->k2.get? b=some o->r.get? b=some o:=λb o hb e=>I.extBut b o hb<|G.extBut b o hb<|B.extBut b o hb<|v.extBut b o hb e;exact L3<|wpAny_letGo<|M8<|M8 ⟨_,rfl,M8<|N r J (up _ _ u f) λb o hb e=>up b o hb<|j b o hb e⟩
def jqj{a d}{i ep}{es}{od}{ok e}{Q}(f:A.handled=none)(hit:IsItemIter h a d i es.size ep ok e)(j:h.get? d=some od)(b:od.data=.dict es ep)(k:es[i]?=none)
  (l:∀ h',Heap.ExtBut a h h'->Q none ⟨h',g,dr,t,os⟩):wpAny (model prog w) A (pyNext<|.ref a) Q E ⟨h,g,dr,t,os⟩:=by
 have c:Shared.TypeIs ⟨h,g,dr,t,os⟩ (.ref a) "dict_itemiterator":=⟨_,hit,rfl⟩;obtain⟨oc,m,n,o⟩:=od;subst b;have p:¬ ((i:Int)<0):=by lia
 refine L3<|wpAny_attempt<|wpAny_callSpecial?_slot c F.slot_dict_itemiterator_next ?_;refine wpAny_call_entry F.slot_dict_itemiterator_next c F.entry_dict_itemiterator_next ?_<|F.args_dict_itemiterator_next_1 _
 repeat (any_goals (first | assumption | wp_step))
 rw[if_neg p,N9,k];refine L3 ?_;refine L3<|wpAny_typeNameOfWhole_itemiter c<|M8 ?n1
 case n1=>
  refine(show wpAny _ _ (setField (.ref a) 2 .none >>= _) _ _ _ from L3 (wpAny_setField hit rfl (by simp) ?_));refine(L3 ?_);simp only[newExc,newTuple];refine L3<|wpAny_newObj_type (L3<|wpAny_of_eq (by first | rfl | (simp only[firstArgMember];rfl))<|wpAny_newObj_type ?_<|by size_fits) (by size_fits);simp only[raiseNew];refine L3<|wpAny_handled ?_;rw[f];refine L3<|M8<|wpAny_throw ?_;refine L3<|wpAny_isInstance ⟨_,E2 _ rfl,rfl⟩ isSubtype_stop<|M8<|l _ ?_;exact((Heap.SameBut.update ..).extBut.push _).push _
def wR{d}{od}{es:Array DictEntry}{ep:Nat}{Q}(a:h.get? d=some od)(c:od.ExactDict)(hd:(d==sysModules)=false)
  (e:Q (.ref h.objs.size) ⟨h.push {cls:=.type "dict_items",data:=.fields #[.ref d]},g,dr,t,os⟩):wpAny (model prog w) A (call (.builtin "dict.items") [.ref d]) Q E ⟨h,g,dr,t,os⟩:=by
 have b:Shared.TypeIs ⟨h,g,dr,t,os⟩ (.ref d) "dict":=⟨od,a,c.1⟩;refine wpAny_call_entry F.slot_dict_items b F.entry_dict_items (L3<|L3<|wpAny_notOrdered_dict b<|M8 ?_)<|F.args_dict_items_1 _;unfold Builtin.Dict.showsAll;rw[if_neg<|by rw[hd];exact M4];exact L3<|M8<|L3<|wpAny_newObj_type<|M8 ⟨_,rfl,e⟩
def jnS{v d}{od}{es}{ep}{Q}(e:h.IsItemsView v d)(a:h.get? d=some od)(b:od.data=.dict es ep)
  (i:Q (.ref h.objs.size) ⟨h.push {cls:=.type "dict_itemiterator",data:=.fields #[.none,.bool false,.ref d,.int 0 0,.int es.size 0,.int ep 0,.none,.none]},g,dr,t,os⟩):wpAny (model prog w) A (pyIter<|.ref v) Q E ⟨h,g,dr,t,os⟩:=by
 obtain⟨k,c,l,j⟩:=id e;have f:Shared.TypeIs ⟨h,g,dr,t,os⟩ (.ref v) "dict_items":=e.typeIs;refine wpAny_pyIter_slot f F.slot_dict_items_iter<|wpAny_call_entry F.slot_dict_items_iter f F.entry_dict_items_iter ?_<|F.args_dict_items_iter_1 _;unfold Builtin.«dict_items.__iter__»;refine L3<|M8<|L3 ?_;unfold Builtin.Dict_items.dictOf;refine L3<|U7 c j rfl<|M8<|L3 ?_;refine L3<|wpAny_dictEntries a b<|L3<|wpAny_dictEpoch a b ?_;have ow:Builtin.Dict_items.ownsTuple "dict_itemiterator" = true:=by decide
 simp only[ow,if_true];refine wpAny_newObj_type (M8 ⟨_,rfl,"dict_itemiterator",_,⟨_,E2 _ rfl,rfl⟩,F.slot_dict_itemiterator_next.lookup,?_⟩) (by simp only[sizeOk,Builtin.Dict_items.ownedTupleFields,N4,N5,M3,List.length_nil,sizeLine_eq];lia);simpa [rawInt,Builtin.Dict_items.ownedTupleFields] using i
end
end PySem
namespace L2
open PySem PySem.Spec PyProof.Rows
def jpC(a:Addr)(o:Obj)(kvs:List<|List Key×V):It:=
 ⟨λi H=>H a=some (.frz o<|.dT kvs)/\i<kvs.length,λi H x H'=>∃ p kv b,kvs[i]?=some kv/\x=.ref p/\H p=none/\H b=some (.tup<|kv.1.map kV)/\H'=upd H p (.tup [.ref b,kv.2]),λi H=>H a=some (.frz o<|.dT kvs)/\kvs.length<=i⟩
def jm7{P}{w}{H}{h}{a}{o}{b}(ok:HOk P w H h)(e:H a=some (.frz o<|.dT b)):
  h.get? a=some o/\(a==sysModules)=false/\o.ExactDict/\∃ xs es ep,KT H b xs/\o.data=.dict es ep/\es.toList=xs.map (entryOfKey<|tupleKind<|jW P w):=by
 obtain⟨c,f⟩:=(ok a _ e);obtain⟨_,g,xs,r,i,es,ep,d,g2,g3,g4,_⟩:=(f);rw[c] at d;cases d;exact⟨c,g,g2,xs,es,ep,r,g3,g4⟩
def jpx{H}{a}{xs}(r:KT H a xs):∀{i:Nat}{q},xs[i]?=some q->∃ v,An3 (a[i]?=some (q.1,v)) (H q.2.1=some (.tup<|q.1.map kV)) (RelV v q.2.2):=by
 induction r with
 | nil=>intro i q e;simp at e
 | @cons p q c d h _ b=>
  intro i x e;cases i with
  | zero=>cases e;exact⟨p.2,by rw[<- h.1];rfl,by rw[<- h.1];exact h.2.1,h.2.2⟩
  | succ i=>exact b ⇑e
def jey{P}{w}{K}{elts}{m}{pos}(a f)(o)(A)(es)(ep)(x:o.data=.dict es ep):
  Turn P w K (.Tuple elts m pos) (jpC a o A) [f] f (λi h=>∃ ok ov,IsItemIter h f a i es.size ep ok ov) where
 mem:=by simp
 obj:=λi h d b hb=>by
  have e:b=f:=by simpa using hb
  subst e;obtain⟨ok,ov,c⟩:=d;exact⟨_,c,λv q=>by cases q⟩
 keep:=λi h V d k=>by
  obtain⟨ok,ov,c⟩:=d;exact⟨ok,ov,k f (by simp) _ c⟩
 item:=by
  intro X W Y Z R i n s σ H E I y d B;obtain⟨C,S⟩:=B;obtain⟨D,g2,gx,p,F,G,r,g3,g4⟩:=jm7 I.hok C;rw[x] at g3;cases g3;have g:=Paired.length r;obtain⟨q,T⟩:∃ q,p[i]?=some q:=⟨p[i]'∅,by simp[<- g,S]⟩;obtain⟨v,J,hb,rv⟩:=jpx r T;obtain⟨ok,ov,c⟩:=d;have j:=N2 c;have L:es[i]?=some (entryOfKey (tupleKind<|jW X.prog X.w) q):=by rw[<- Array.getElem?_toList,g4,List.getElem?_map,T];rfl
  obtain⟨M,gg,dd,U,os⟩:=s;refine joi c D x L λh1 N hT hk=>⟨_,rfl,wpAny_letOwnedTupleGo_items N λh2 O Q=>?_⟩;have l:=Q;have t:=(l.2 _<|Nat.ne_of_gt j).trans hT;have kk:∀ b o,b∉[f]->M.get? b=some o->h2.get? b=some o:=λb o hb q=>by
   have u:b≠f:=by simpa using hb
   exact(l.2 b u).trans (hk b o u q)
  have I1:=I.turnedNew (t':=U) (xs:=[.ref q.2.1,v]) kk y (N0 _) ⟨⟨_,t,rfl,_,rfl⟩,_,t,rfl⟩ (.cons rfl<|.cons rv .nil) (by show 2<=sizeLine;decide);refine⟨.ref M.objs.size,_,I1,rfl,⟨_,(q.1,v),q.2.1,J,rfl,I.hok.fresh<|N0 _,hb,rfl⟩,⟨_,_,O⟩,λb hb=>?_⟩;rw[je]
  ·exact(y b hb).1
  ·intro z;have e:b=f:=by simpa using hb
   exact absurd j (by rw[<- e,z];exact Nat.lt_irrefl _)
 done:=by
  intro X W Y Z R i n s σ H E I y d B;obtain⟨C,S⟩:=B;obtain⟨D,g2,gx,p,F,G,r,g3,g4⟩:=jm7 I.hok C;rw[x] at g3;cases g3;have g:=Paired.length r;have hes:es.size=p.length:=by rw[<- Array.length_toList,g4,L1]
  obtain⟨ok,ov,c⟩:=d;obtain⟨M,gg,dd,U,os⟩:=s;exact jqj (I.ok.hd R) c D x (Array.getElem?_eq_none ∅) λV eb=>⟨rfl,I.turnedL (λb o hb q=>eb b o ⇑hb q) y⟩
 self:=λ_ _ _ _ _ d h=>by
  obtain⟨ok,ov,c⟩:=d;exact KP c h
def jnO(te:TE):TI:=λσ H R=>te σ H λx H1=>∃ a kvs,x=.ref a/\H1 a=some (.dT kvs)/\∀ o,R (jpC a o kvs)<|upd H1 a<|.frz o<|.dT kvs
section
variable {X:Cx}
def Inv.frzT{pins}{σ:St}{H}{s}{a}{c}(I:Inv X pins σ H s)(e:H a=some (.dT c)):
  Ex3 λo es ep=>An5 (o.data=.dict es ep) (s.heap.get? a=some o) o.ExactDict ((a==sysModules)=false) (Inv X pins σ (upd H a<|.frz o<|.dT c) s):=by
 obtain⟨z,hd,i,r,o,es,ep,d,g,h,j,k⟩:=(I.hok a _ e);refine⟨o,es,ep,h,d,g,hd,?_⟩;refine xF I (by rw[e];exact trivial) ⟨rfl,λ_ _=>rfl⟩ ⟨o,d⟩<|⟨d,z,hd,i,KT.keeps (r)<|λb l f=>?_,o,es,ep,d,g,h,j,k⟩;rw[je<|λz=>by rw[z,e] at f;cases f];exact f
def jno{elts}{m}{tpos apos cpos}{e}{te}(D:PE X e te)
  (f:attributeBase e "items" X.env (eval e X.env)=eval e X.env:=by rfl) (g:(apos.endLine==cpos.line)=true:=by rfl):PI X (.Tuple elts m tpos) (.Call (.Attribute e "items" apos) [] [] cpos) (jnO te):=by
 intro d s σ H R I h;refine wpAny_Call_method0_late f g<|thn (D d s σ H _ I h) λv s1 ⟨x,E,k,r1,a,i,ex,l,q⟩=>?_;subst ex;obtain rfl:v=Value.ref a:=r1;obtain⟨G,J,_⟩:=jc9 k<|.inr ⟨i,.inl l⟩;obtain⟨S,n,p,T,r,K,t,_⟩:=k.frzT l;obtain⟨c,L,M,N,os⟩:=s1;refine⟨"dict","dict.items",PySem.F.plainAttrs_dict,PySem.F.slot_dict_items,PySem.F.type_dict_items,G,J,Calls.callWith_builtin rfl<|PySem.evalArgs_none<|wR (es:=n) (ep:=p) r K t ?_⟩;have z:∀ b u,c.get? b=some u->(c.push ({cls:=.type "dict_items",data:=.fields #[.ref a]}:Obj)).get? b=some u:=λb u q=>L8 _ q;have A:Inv X d σ E ⟨c.push {cls:=.type "dict_items",data:=.fields #[.ref a]},L,M,N,os⟩:=k.kept z;have O:(c.push ({cls:=.type "dict_items",data:=.fields #[.ref a]}:Obj)).IsItemsView c.objs.size a:=⟨_,E2 _ rfl,rfl,rfl⟩;obtain⟨o,w,y,C,P,U,hd,B⟩:=A.frzT l;refine jnS O P C ?_;generalize c.push ({cls:=.type "dict_items",data:=.fields #[.ref a]}:Obj)=hp2 at *;have Q:∀ b u,hp2.get? b=some u->(hp2.push ({cls:=.type "dict_itemiterator",data:=.fields #[.none,.bool false,.ref a,.int 0 0,.int w.size 0,.int y 0,.none,.none]}:Obj)).get? b=some u:=λb u q=>L8 _ q;refine⟨hp2.objs.size,[hp2.objs.size],_,_,_,rfl,B.kept Q,jey a _ o i w y C,⟨.none,.none,E2 _ rfl⟩,λb hb=>?_,q o⟩;have j:hp2.objs.size<=b:=by
  have:b=hp2.objs.size:=by simpa using hb
  rw[this];exact N0 _
 exact B.fpOk j<|B.hok.fresh j
end
end L2
set_option maxHeartbeats 1000000
namespace PySem
namespace F
end F
end PySem
namespace L2
open PySem PySem.Spec PyProof.Rows
structure Z3(z TI TO j1 j2 j3 t l m:Addr):Prop where
 TIz:TI≠z
 TOz:TO≠z
 j1z:j1≠z
 j2z:j2≠z
 j3z:j3≠z
 TITO:TI≠TO
 TIj1:TI≠j1
 TIj2:TI≠j2
 TIj3:TI≠j3
 TOj1:TO≠j1
 TOj2:TO≠j2
 TOj3:TO≠j3
 j12:j1≠j2
 j13:j1≠j3
 j23:j2≠j3
 out:∀ x,x=t\/x=l\/x=m->x≠z/\x≠TO/\x≠j1/\x≠j2/\x≠j3
end L2
namespace PySem
namespace F
end F
end PySem
namespace L2
open PySem PySem.Spec PyProof.Rows
end L2
namespace PySem
open Sem (wp)
namespace F
end F
end PySem
namespace L2
open PySem PySem.Spec PyProof.Rows
end L2
namespace PySem
open L2 PyProof.Rows
end PySem
namespace L2
open PySem PySem.Spec PyProof.Rows
def jb4(c:X.calm=true):qe X (.builtin "sum") (λxs H Q=>∃(p:Addr) (ns:List Int),xs=[.ref p]/\SqT X.K H p (ns.map V.int)/\Q (.int ns.sum) H):=by
 intro a s σ H xs k Q I r h;obtain⟨p,ns,rfl,d,q⟩:=h;obtain⟨u,rfl,e⟩:=r.one;cases e;obtain⟨f,g,pl,l⟩:=I.tuple d;have hi:=Kw g;obtain⟨zs,b⟩:=hi.allInts.items;refine PySem.W.ktm_sumG (I.ok.hd c) (b▸pl) λm n o i=>?_;have j:ns=zs.toList.map (·.1):=by
  rw[<- nums_intItems,<- b];exact(hi.numsOf).symm
 have e2:preSum (numAt zs) zs.size=ns.sum:=by
  rw[preSum_eq,List.take_of_length_le<|by simp,j]
 rw[e2];exact⟨.int ns.sum,H,I.kept i,⟨_,rfl⟩,q⟩
abbrev Km(h:Heap)(T:Addr)(xs:List Value):Prop:=h.get? T=some {cls:=.type "tuple",data:=.seq xs.toArray}
def ItAt(h:Heap)(j c:Addr)(n:Nat)(vs:Array Value):Bool->Prop
 | true=>h.IsListIter j c n/\h.IsList c vs
 | false=>h.IsTupleIter j c n/\h.IsTuple c vs
def ItAt.ext{h k}{j c a}{n}{vs}{K}(q:ItAt h j c n vs K)(b:Heap.SameBut a h k)(d:j≠a)(e:c≠a):ItAt k j c n vs K:=by
 cases K<;>exact⟨q.1.extBut b.extBut d,q.2.extBut b.extBut e⟩
def ItAt.up{h k}{j c}{n}{vs}{K}(q:ItAt h j c n vs K)(a:∀ o,h.get? j=some o->k.get? j=some o)(b:∀ o,h.get? c=some o->k.get? c=some o):ItAt k j c n vs K:=by
 cases K <;>
 ·obtain⟨⟨d,e,f⟩,g,e2,i⟩:=q;exact⟨⟨d,a _ e,f⟩,g,b _ e2,i⟩
section
variable {prog:Program}{w:World}{A:Around}{E:J0}{s:Shared}
def jio{j c}{n}{vs}{K}{x}{C}(q:ItAt s.heap j c n vs K)(a:c≠j)(e:vs[n]?=some x)
  (go:∀ k,ItAt k j c (n+1) vs K->Heap.SameBut j s.heap k->C x {s with heap:=k}):wpAny (model prog w) A (Builtin.SmallTypes.nextOf<|.ref j) C E s:=by
 cases K with
 | true=>exact wpAny_nextOf_list_item q.1 q.2 e λk p b=>go k ⟨p,q.2.extBut (Heap.SameBut.extBut b) a⟩ b
 | false=>exact jfi q.1 q.2 e λk p b=>go k ⟨p,q.2.extBut (Heap.SameBut.extBut b) a⟩ b
def jmK(a:Km s.heap T xs)(b:xs.length<=1000)
  (h:∀ h',Km h' T (xs.set k x)->Heap.SameBut T s.heap h'->Q () {s with heap:=h'}):wpAny (model prog w) A (updateSeq T (·.setIfInBounds k x)) Q E s:=by
 have l:xs.toArray.size<=1000:=by simpa using b
 exact wpAny_updateSeq a rfl (h _ (by rw[Km,Heap.get?_update_self _ a rfl];simp[Obj.mapSeq])<|Heap.SameBut.update ..) (N8 l<|by decide) (by rw[Array.size_setIfInBounds];exact N8 l<|by decide)
def jqd{α:Type}{β}{f}{b}{Q:β->Shared->Prop}(St:Nat->Heap->Prop):∀(l:List α) k {s},St k s.heap ->
  (∀ i x h,l[i]?=some x->St (k+i) h->wpAny (model prog w) A (f (x,k+i) b) (λr s'=>r=.yield b/\∃ h',s'={s with heap:=h'}/\St (k+i+1) h') E {s with heap:=h}) ->
  (∀ h,St (k+l.length) h->Q b {s with heap:=h})->wpAny (model prog w) A (forIn (l.zipIdx k) b f) Q E s:=by
 intro l
 induction l with
 | nil=>
  intro k s a _ c;exact M8<|c _ a
 | cons x l g=>
  intro k s a d c;rw[List.zipIdx_cons,List.forIn_cons];refine L3<|wpAny_mono (d 0 x s.heap rfl a) ?_<|λ_ _ z=>z
  ·rintro r s' ⟨rfl,h',rfl,j⟩;exact g (k+1) j (λi x h e q=>by have:=d (i+1) x h ⇑e (by rw[show k+(i+1)=k+1+i by lia];exact q);rw[show k+(i+1)=k+1+i by lia] at this;exact this)<|λh q=>c h (by rw[M3,show k+(l.length+1)=k+1+l.length by lia];exact q)
structure Zi where
 j:Addr
 c:Addr
 vs:Array Value
 x:Value
 k:Bool
structure ZA(z TI TO:Addr)(its:List Zi):Prop where
 TIz:TI≠z
 TOz:TO≠z
 TITO:TI≠TO
 jz:∀ q∈its,q.j≠z/\q.j≠TI/\q.j≠TO
 cz:∀ q∈its,q.c≠z/\q.c≠TO/\∀ r∈its,q.c≠r.j
 nd:(its.map (·.j)).Nodup
variable {z TI TO:Addr}{its:List Zi}{n:Nat}{os:List Value}
structure ZSn(s:Shared)(z TI TO:Addr)(its:List Zi)(n:Nat)(os:List Value)(i:Nat)(h:Heap):Prop where
 a:IsZip h z TI TO .ellipsis
 b:Km h TO ((its.take i).map (·.x)++os.drop i)
 c:∀(m:Nat) (q:Zi),its[m]?=some q->ItAt h q.j q.c (if m<i then n+1 else n) q.vs q.k
 d:h.objs.size=↥s
 e:∀ a o,a≠z->a≠TO->(∀ q∈its,a≠q.j)->s.heap.get? a=some o->h.get? a=some o
def jjc{C:J0}(D:ZA z TI TO its)(y:IsZip s.heap z TI TO .none)(qI:Km s.heap TI<|its.map λq=>.ref q.j)(X:Km s.heap TO os)(Y:its≠[])(Z:os.length=its.length)(hl:its.length<=1000)
  (q:∀ r∈its,ItAt s.heap r.j r.c n r.vs r.k/\r.vs[n]?=some r.x)
  (go:∀ k,IsZip k z TI TO (rawInt ↥s)->Km k TO (its.map (·.x))->(∀ r∈its,ItAt k r.j r.c (n+1) r.vs r.k)->Km k ↥s (its.map (·.x)) ->
   (∀ a o,a≠z->a≠TO->(∀ r∈its,a≠r.j)->s.heap.get? a=some o->k.get? a=some o)->C (.ref ↥s) {s with heap:=k}):
  wpAny (model prog w) A (Builtin.«zip.__next__» ⟨[.ref z],[]⟩) (λfin s'=>∃ v,fin=.done (.ret v)/\C v s') E s:=by
 refine(show wpAny (model prog w) A (field (.ref z) 2 >>= _) _ _ _ from L3 (U7 y rfl rfl<|L3<|U7 y rfl rfl<|L3<|wpAny_seqItems qI rfl ?_));have he:(its.map λq=>Value.ref q.j).toArray.isEmpty=false:=by cases its<;>simp at Y ⊢
 simp only[he];refine(L3<|L3<|U7 y rfl rfl<|M8<|L3<|wpAny_rule<|L3<|U7 y rfl rfl<|L3<|wpAny_setField_rec y (by simp) λk1 z1 H=>(L3<|jqd (ZSn s z TI TO its n os) (its.map λq=>Value.ref q.j) 0 (s:={s with heap:=k1}) ⟨z1,?_,λm r e=>?_,H.1,λa o g _ _ e=>H.extBut _ _ g e⟩ (λi x h e S=>?_) λh S=>?_))
 ·rw[List.take_zero,List.drop_zero];exact H.extBut _ _ D.TOz X
 ·have f:=List.mem_of_getElem? e;exact(q r f).1.ext H (D.jz r f).1 (D.cz r f).1
 ·rw[Nat.zero_add] at S ⊢;rw[List.getElem?_map] at e;obtain⟨r,u,rfl⟩:=Option.map_eq_some_iff.mp e;have f:=List.mem_of_getElem? u;have hi:=(L9.mp u).1;have hit:=S.c i r u;rw[if_neg<|Nat.lt_irrefl _] at hit;refine L3<|wpAny_onRaise (L3<|jio hit ((D.cz r f).2.2 r f) (q r f).2 λk2 p B=>M8 ?_)
  have P:=B.extBut _ _ (D.jz r f).2.2.symm S.b;refine L3<|wpAny_seqItems P rfl<|L3<|jmK P (by simp;lia) λk3 o3 F=>?_;refine L3<|wpAny_letGo<|M8 ⟨rfl,k3,rfl,?_⟩;have K:∀ m t,its[m]?=some t->m≠i->t.j≠r.j:=λm t l L ej=>by
   have:=(List.getElem_inj (h₀:=by simpa using((L9.mp l).1)) (h₁:=by simpa using hi) D.nd).mp (by simp[(L9.mp l).2,(L9.mp u).2,ej]);exact L this
  refine⟨F.extBut _ _ D.TOz.symm<|B.extBut _ _ (D.jz r f).1.symm S.a,?_,λm t l=>?_,by rw[F.1,B.1];exact S.d,λa o g I J e=>F.extBut _ _ I<|B.extBut _ _ (J r f)<|S.e a o g I J e⟩
  ·have ee:(List.map (·.x) (its.take i)++os.drop i).set i r.x=List.map (·.x) (its.take<|i+1)++os.drop (i+1):=by
    rw[List.take_add_one,u,Option.toList,N6,List.append_assoc,List.set_append_right _ _<|by simp;lia];have M:i<os.length:=by lia
    rw[List.drop_eq_getElem_cons M];have:i-(List.map (·.x)<|its.take i).length=0:=by simp;lia
    rw[this];rfl
   rw[<- ee];exact o3
  ·have N:=List.mem_of_getElem? l;by_cases e2:m=i
   ·subst e2;cases u.symm.trans l;rw[if_pos<|Nat.lt_succ_self _];exact p.ext F (D.jz r f).2.2 (D.cz r f).2.1
   ·have x1:=((S.c m t l).ext B (K m t l e2) ((D.cz t N).2.2 r f)).ext F (D.jz t N).2.2 (D.cz t N).2.1;have:(m<i+1)=(m<i):=by apply propext;lia
    simp only[this];exact x1
 ·rw[Nat.zero_add,L1] at S;have O:=S.b;rw[List.take_length,<- Z,List.drop_length,N1] at O;refine L3<|wpAny_seqItems O rfl<|L3<|wpAny_newTuple ?_;have Q:=N2 S.a;refine(L3 ?_);have z8:IsZip (h.push {cls:=.type "tuple",data:=.seq (its.map (·.x)).toArray}) z TI TO .ellipsis:=L8 _ S.a;refine L3<|wpAny_setField_rec z8 (by simp) λk9 z9 R=>(wpAny_setField_rec z9 (by simp) λT U V=>?_);have up:∀ c o,c≠z->h.get? c=some o->T.get? c=some o:=λc o g e=>V.extBut _ _ g<|R.extBut _ _ g<|L8 _ e;have W:=V.extBut _ _ (Nat.ne_of_gt Q)<|R.extBut _ _ (Nat.ne_of_gt Q)<|E2 _ rfl;rw[S.d] at U W;refine M8 ⟨_,rfl,?_⟩;rw[S.d];refine go T U (up _ _ D.TOz O) (λr f=>?_) W λa o g I J e=>up a o g<|S.e a o g I J e;obtain⟨m,G,rfl⟩:=List.getElem_of_mem f;have x:=S.c m _<|X9 G;rw[if_pos G] at x;refine x.up (λo e=>up _ _ (D.jz _ f).1 e)<|λo e=>up _ _ (D.cz _ f).1 e
def jkS{j c}{vs}{K}{C}(a:A.handled=none)(q:ItAt s.heap j c n vs K)(e:vs[n]?=none)
  (go:∀ k e,Heap.ExtBut j s.heap k->(∃ o,k.get? e=some o/\o.cls=.type "StopIteration")->E (.ref e) {s with heap:=k}):wpAny (model prog w) A (Builtin.SmallTypes.nextOf<|.ref j) C E s:=by
 cases K with
 | true=>exact wpAny_nextOf_list_end a q.1 q.2 e go
 | false=>exact jko a q.1 q.2 e go
def jmC{C}{r}(u:A.handled=none)(D:ZA z TI TO<|r::its)(b:IsZip s.heap z TI TO .none)(qI:Km s.heap TI<|(r::its).map λq=>.ref q.j)(q:ItAt s.heap r.j r.c n r.vs r.k)(ex:r.vs[n]?=none)
  (go:∀ k e,(∀ a o,a≠z->a≠TO->(∀ t∈r::its,a≠t.j)->s.heap.get? a=some o->k.get? a=some o)->(∃ o,k.get? e=some o/\o.cls=.type "StopIteration")->E (.ref e) {s with heap:=k}):
  wpAny (model prog w) A (Builtin.«zip.__next__» ⟨[.ref z],[]⟩) C E s:=by
 have d:r∈r::its:=L7;refine(show wpAny (model prog w) A (field (.ref z) 2 >>= _) _ _ _ from L3 (U7 b rfl rfl<|L3<|U7 b rfl rfl<|L3<|wpAny_seqItems qI rfl<|L3<|L3<|U7 b rfl rfl<|M8<|L3<|wpAny_rule<|L3<|U7 b rfl rfl<|L3<|wpAny_setField_rec b (by simp) λG v g=>(L3<|L3<|L3<|wpAny_onRaise (L3<|jkS u (q.ext g (D.jz r d).1 (D.cz r d).1) ex λk2 e h y=>?_))));obtain⟨B,f,i⟩:=y;have l:=h _ _ (D.jz r d).1.symm v;have ne:e≠z:=λx=>by subst x;rw[l] at f;cases f;simp at i
 exact wpAny_setField_rec l (by simp) λk3 _ m=>go k3 e (λc o p _ F x=>m.extBut _ _ p<|h _ _ (F r d)<|g.extBut _ _ p x) ⟨B,m.extBut _ _ ne f,i⟩
def jhZ{C}(D:ZA z TI TO its)(b:IsZip s.heap z TI TO .none)(qI:Km s.heap TI<|its.map λq=>.ref q.j)(d:Km s.heap TO os)(e:its≠[])(f:os.length=its.length)(g:its.length<=1000)
  (q:∀ r∈its,ItAt s.heap r.j r.c n r.vs r.k/\r.vs[n]?=some r.x)
  (go:∀ k,IsZip k z TI TO (rawInt ↥s)->Km k TO (its.map (·.x))->(∀ r∈its,ItAt k r.j r.c (n+1) r.vs r.k)->Km k ↥s (its.map (·.x)) ->
   (∀ a o,a≠z->a≠TO->(∀ r∈its,a≠r.j)->s.heap.get? a=some o->k.get? a=some o)->C (some<|.ref ↥s) {s with heap:=k}):wpAny (model prog w) A (pyNext<|.ref z) C E s:=by
 have ty:s.TypeIs (.ref z) "zip":=⟨_,b,rfl⟩;exact L3<|wpAny_attempt<|wpAny_callSpecial?_slot ty F.slot_zip_next<|wpAny_call_entry F.slot_zip_next ty F.entry_zip_next
  (jjc D b qI d e f g q λk c1 h i l m=>M8<|go k c1 h i l m) (F.args_zip_next_1 _)
def jjy{C}{r}(d:A.handled=none)(D:ZA z TI TO<|r::its)(b:IsZip s.heap z TI TO .none)(qI:Km s.heap TI<|(r::its).map λq=>.ref q.j)(q:ItAt s.heap r.j r.c n r.vs r.k)(ex:r.vs[n]?=none)
  (go:∀ k,(∀ a o,a≠z->a≠TO->(∀ t∈r::its,a≠t.j)->s.heap.get? a=some o->k.get? a=some o)->C none {s with heap:=k}):wpAny (model prog w) A (pyNext<|.ref z) C E s:=by
 have ty:s.TypeIs (.ref z) "zip":=⟨_,b,rfl⟩;refine L3<|wpAny_attempt<|wpAny_callSpecial?_slot ty F.slot_zip_next<|wpAny_call_entry F.slot_zip_next ty F.entry_zip_next (jmC d D b qI q ex λk e kp f=>?_)<|F.args_zip_next_1 _;obtain⟨o,g,h⟩:=f;exact L3<|wpAny_isInstance ⟨o,g,h⟩ isSubtype_stop<|M8<|go _ kp
end
section
variable {prog:Program}{w:World}{A:Around}{E:J0}{s:Shared}
def SqH(h:Heap)(c:Addr)(vs:Array Value):Bool->Prop
 | true=>h.IsList c vs
 | false=>h.IsTuple c vs
def SqH.push{h}{c}{vs}{K}(q:SqH h c vs K)(o):SqH (h.push o) c vs K:=by
 cases K <;>
 ·obtain⟨a,e,t⟩:=q;exact⟨a,L8 _ e,t⟩
def jh6{c}{vs}{K}{Q}(q:SqH s.heap c vs K)
  (go:∀ o:Obj,ItAt (s.heap.push o) ↥s c 0 vs K->Q (.ref ↥s) {s with heap:=s.heap.push o}):wpAny (model prog w) A (pyIter<|.ref c) Q E s:=by
 cases K with
 | true=>exact wpAny_pyIter_list q<|go _ ⟨⟨_,E2 _ rfl,rfl,rfl⟩,SqH.push q _⟩
 | false=>exact wpAny_pyIter_tuple q<|go _ ⟨⟨_,E2 _ rfl,rfl,rfl⟩,SqH.push q _⟩
def jeM:∀(l:List<|Addr×Array Value×Bool) acc {s:Shared},(∀ p∈l,SqH s.heap p.1 p.2.1 p.2.2) ->
  (∀ k:Heap,k.objs.size=↥s+l.length->(∀ i p,l[i]?=some p->ItAt k (↥s+i) p.1 0 p.2.1 p.2.2)->(∀ c o,s.heap.get? c=some o->k.get? c=some o) ->
   Q (acc++((List.range' ↥s l.length).map Value.ref).toArray) {s with heap:=k}) ->
  wpAny (model prog w) A (forIn (l.map λp=>Value.ref p.1) acc λx r=>do pure (ForInStep.yield<|r.push<|<- holding r.toList (pyIter x))) Q E s:=by
 intro l
 induction l with
 | nil=>
  intro acc s _ go;exact M8 ⇑(go s.heap rfl (by simp) λ_ _ e=>e)
 | cons p l d=>
  intro acc s h go;rw[L5,List.forIn_cons];refine L3<|L3<|wpAny_holding<|jh6 (h p L7) λo q=>(M8<|d _ (λr f=>(h r<|L6 _ f).push _) λk b hi a=>?_);have s1:(s.heap.push o).objs.size=↥s+1:=Heap.size_push ..;simp only[s1] at b hi ⊢;have g:=go k (by rw[b,M3];lia) (λi r e=>?_) λc j e=>a c j<|L8 _ e
  ·rw[M3,List.range'_succ,L5] at g;have e2:acc.push (.ref ↥s)++((List.range' (↥s+1) l.length).map Value.ref).toArray=acc++(Value.ref ↥s::(List.range' (↥s+1) l.length).map Value.ref).toArray:=by apply Array.ext';simp
   rw[e2];exact g
  ·cases i with
   | zero=>cases e;exact q.up (a _)<|a _
   | succ i=>rw[show ↥s+(i+1)=↥s+1+i by lia];exact hi i r ⇑e
def jaY{Q}{l:List (Addr×Array Value×Bool)}(h:∀ p∈l,SqH s.heap p.1 p.2.1 p.2.2)
  (go:∀ k:Heap,k.objs.size=↥s+l.length->(∀ i p,l[i]?=some p->ItAt k (↥s+i) p.1 0 p.2.1 p.2.2)->(∀ c o,s.heap.get? c=some o->k.get? c=some o) ->
   Q ((List.range' ↥s l.length).map Value.ref) {s with heap:=k}):wpAny (model prog w) A (Builtin.SmallTypes.iterAll<|l.map λp=>Value.ref p.1) Q E s:=by
 refine L3<|jeM l #[] h λk a b d=>M8 ?_;have:=go k a b d;simpa using this
def jjW(l:List<|Addr×Array Value×Bool)(a:l.length<=1000):Meets (Builtin.«zip.__new__» ⟨.type "zip"::l.map λp=>.ref p.1,[]⟩) (λ_ R s=>(∀ p∈l,SqH s.heap p.1 p.2.1 p.2.2)/\∀ k:Heap,k.objs.size=↥s+l.length->(∀ i p,l[i]?=some p->ItAt k (↥s+i) p.1 0 p.2.1 p.2.2)->(∀ c o,s.heap.get? c=some o->k.get? c=some o) ->
   R (.ok<|.ret<|.ref<|k.objs.size+2) { s with heap:=((k.push {cls:=.type "tuple",data:=.seq ((List.range' ↥s l.length).map Value.ref).toArray}).push {cls:=.type "tuple",data:=.seq (l.map λ_=>Value.none).toArray}).push {cls:=.type "zip",data:=.fields #[.none,.bool false,.bool false,.ref k.objs.size,.ref<|k.objs.size+1]} }):=
 .of_wp λprog w A R s h=>by
  obtain⟨d,h⟩:=h;have b:=sub_zip
  wp_walk using jaY d
  intro k e e2 e3;have f:(List.map (λ_=>Value.none)<|List.map Value.ref<|List.range' ↥s l.length)=l.map λ_=>Value.none:=by
   rw[U2];apply List.ext_getElem<;>simp
  rw[f];refine L3<|wpAny_newTuple ?_ (by simp;exact N8 a<|by decide);refine L3 (wpAny_newTuple ?_<|by simp;exact N8 a<|by decide)
  wp_walk
  refine⟨_,rfl,?_⟩;rw[Heap.size_push,Heap.size_push];exact(h k e e2 e3)
def jjM{l:List (Addr×Array Value×Bool)}{C}(j:l.length<=1000)(a:checkTypeCall "zip" ⟨l.map λp=>.ref p.1,[]⟩=pure ())(b:checkBuiltinCall "zip.__new__" ⟨.type "zip"::l.map λp=>.ref p.1,[]⟩=pure ())(hok:∀ obj,argsOk "object.__init__" ⟨obj::l.map λp=>.ref p.1,[]⟩)
  (h1:∀ p∈l,SqH s.heap p.1 p.2.1 p.2.2)
  (go:∀ k N,N=↥s+l.length->IsZip k (N+2) N (N+1) .none->Km k N ((List.range' ↥s l.length).map Value.ref)->Km k (N+1) (l.map λ_=>.none)->(∀ i p,l[i]?=some p->ItAt k (↥s+i) p.1 0 p.2.1 p.2.2)->(∀ c o,s.heap.get? c=some o->k.get? c=some o)->C (.ref<|N+2) {s with heap:=k}):
  wpAny (model prog w) A (call (.type "zip")<|l.map λp=>.ref p.1) C E s:=by
 refine callType_new F.called_zip (by decide) a b hok F.entry_zip_new (jjW l j) ⟨h1,λk m e2 e3=>?_⟩;have d:∀(h:Heap) o,(h.push o).objs.size=h.objs.size+1:=λh o=>Heap.size_push ..;have f:=E2 (((k.push {cls:=.type "tuple",data:=.seq ((List.range' ↥s l.length).map Value.ref).toArray}).push {cls:=.type "tuple",data:=.seq (l.map λ_=>Value.none).toArray})) (o:={cls:=.type "zip",data:=.fields #[.none,.bool false,.bool false,.ref k.objs.size,.ref<|k.objs.size+1]}) rfl;rw[d,d] at f;have up:∀ c o,k.get? c=some o->(((k.push {cls:=.type "tuple",data:=.seq ((List.range' ↥s l.length).map Value.ref).toArray}).push {cls:=.type "tuple",data:=.seq (l.map λ_=>Value.none).toArray}).push {cls:=.type "zip",data:=.fields #[.none,.bool false,.bool false,.ref k.objs.size,.ref<|k.objs.size+1]}).get? c=some o:=λc o x=>L8 _<|L8 _<|L8 _ x;have g:=E2 (k.push {cls:=.type "tuple",data:=.seq ((List.range' ↥s l.length).map Value.ref).toArray}) (o:={cls:=.type "tuple",data:=.seq (l.map λ_=>Value.none).toArray}) rfl;rw[d] at g;exact⟨⟨_,f,rfl⟩,go _ k.objs.size m f (L8 _<|L8 _<|E2 k rfl) (L8 _ g) (λi p e=>(e2 i p e).up (up _) (up _)) λc o x=>up c o<|e3 c o x⟩
end
def SqB(K:W4)(H:Hp)(c:Addr):Bool->List V->Prop
 | true,q=>SqL K H c q
 | false,q=>SqT K H c q
def ItB(h:Heap)(j c:Addr)(n:Nat):Bool->Prop
 | true=>h.IsListIter j c n
 | false=>h.IsTupleIter j c n
structure Zp where
 j:Addr
 c:Addr
 k:Bool
def IzN(K:W4)(as:List<|Addr×Bool):It:=
 ⟨λi H=>∀ a∈as,∃ q x,SqB K H a.1 a.2 q/\q[i]?=some x,
  λi H x H'=>∃ p xs,xs.length=as.length/\(∀(m:Nat) a,as[m]?=some a->∀ q,SqB K H a.1 a.2 q->∃ u,xs[m]?=some u/\q[i]?=some u)/\x=.ref p/\H p=none/\H'=upd H p (.tup xs),
  λi H=>∃ a r q,as=a::r/\SqB K H a.1 a.2 q/\q.length<=i⟩
def jgT(I:Inv X pins σ H s)(h:SqB X.K H c k q)(hi:ItB s.heap j c n k):∃ us:List Value,Vals q us/\ItAt s.heap j c n us.toArray k:=by
 cases k with
 | true=>
  obtain⟨us,a,p,_⟩:=I.list h;exact⟨us,a,hi,p.isList⟩
 | false=>
  obtain⟨us,a,p,_⟩:=I.tuple h;exact⟨us,a,hi,p⟩
def jjI(I:Inv X pins σ H s)(h:SqB X.K H c k q)(h':SqB X.K H c k q'):q=q':=by
 cases k with
 | true=>exact I.list_inj h h'
 | false=>exact I.tuple_inj h h'
def zis(I:Inv X pins σ H s):∀ ps:List Zp,(∀ p∈ps,∃ q x,SqB X.K H p.c p.k q/\q[i]?=some x)->(∀ p∈ps,ItB s.heap p.j p.c i p.k) ->
  Ex2 λ(its:List Zi) (xs:List V)=>An4 (its.map (λr=>(⟨r.j,r.c,r.k⟩:Zp))=ps) (Vals xs (its.map (·.x))) (∀ r∈its,ItAt s.heap r.j r.c i r.vs r.k/\r.vs[i]?=some r.x) (∀(m:Nat) p,ps[m]?=some p->∀ q,SqB X.K H p.c p.k q->∃ u,xs[m]?=some u/\q[i]?=some u):=by
 intro ps
 induction ps with
 | nil=>
  intro _ _;exact⟨[],[],rfl,.nil,by simp,by simp⟩
 | cons p ps o=>
  intro g h;obtain⟨its,xs,e,v,a,b⟩:=o (λr d=>g r<|by simp[d]) λr d=>h r (by simp[d]);obtain⟨q,x,l,n⟩:=g p (by simp);obtain⟨w,y,z⟩:=jgT I l<|h p (by simp);obtain⟨u,A,B⟩:=y.get n;refine⟨⟨p.j,p.c,w.toArray,u,p.k⟩::its,x::xs,by rw[L5,e],.cons B v,λr d=>?_,λm t e2 C f=>?_⟩
  ·rcases M5.mp d with rfl | d
   ·exact⟨z,by simpa using A⟩
   ·exact a r d
  ·cases m with
   | zero=>cases e2;exact⟨x,rfl,by rw[jjI I f l];exact n⟩
   | succ m=>exact b m t ⇑e2 C f
structure ZP(z TI TO:Addr)(ps:List Zp):Prop where
 TIz:TI≠z
 TOz:TO≠z
 TITO:TI≠TO
 jz:∀ q∈ps,q.j≠z/\q.j≠TI/\q.j≠TO
 cz:∀ q∈ps,q.c≠z/\q.c≠TO/\∀ r∈ps,q.c≠r.j
 nd:(ps.map (·.j)).Nodup
def ZP.za{z TI TO}{ps}{its}(D:ZP z TI TO ps)(e:its.map (λr=>(⟨r.j,r.c,r.k⟩:Zp))=ps):ZA z TI TO its:=by
 subst e;refine⟨D.TIz,D.TOz,D.TITO,λq a=>D.jz _<|List.mem_map_of_mem a,λq a=>?_,by have:=D.nd;rwa [U2] at this⟩;have:=D.cz _<|List.mem_map_of_mem a;exact⟨this.1,this.2.1,λr b=>this.2.2 _<|List.mem_map_of_mem b⟩
def ItB.obj(q:ItB h j c n k):∃ o,h.get? j=some o/\∀ v,o.data≠.cell v:=by
 cases k <;>
 ·obtain⟨o,e,_,d⟩:=q;exact⟨o,e,λv z=>by rw[d] at z;cases z⟩
def ItB.up(q:ItB h j c n b)(a:∀ o,h.get? j=some o->k.get? j=some o):ItB k j c n b:=by
 cases b <;>
 ·obtain⟨o,e,t⟩:=q;exact⟨o,a _ e,t⟩
def ItAt.itB(q:ItAt h j c n vs k):ItB h j c n k:=by
 cases k<;>exact q.1
def jjo{P}{w}{K}{elts}{n}{pos}(z TI TO)(ps)(D:ZP z TI TO ps)(hn:ps≠[])(hl:ps.length<=1000):
  Turn P w K (.Tuple elts n pos) (IzN K<|ps.map λp=>(p.c,p.k)) (z::TI::TO::ps.map (·.j)) z (λi h=>IsZip h z TI TO .none/\Km h TI (ps.map λp=>.ref p.j)/\(∃ os,os.length=ps.length/\Km h TO os)/\∀ p∈ps,ItB h p.j p.c i p.k) where
 mem:=by simp
 obj:=λi h g b hb=>by
  obtain⟨l,u,⟨os,_,C⟩,B⟩:=g;rcases(⇑hb:b=z\/b=TI\/b=TO \/ ∃ p∈ps,p.j=b) with q | q | q | ⟨p,d,q⟩<;>subst q
  ·exact⟨_,l,λv q=>by cases q⟩
  ·exact⟨_,u,λv q=>by cases q⟩
  ·exact⟨_,C,λv q=>by cases q⟩
  ·exact(B p d).obj
 keep:=λi h h' g k=>by
  obtain⟨l,u,⟨os,M,C⟩,B⟩:=g;exact⟨k z (by simp) _ l,k TI (by simp) _ u,⟨os,M,k TO (by simp) _ C⟩,λp d=>(B p d).up (k p.j<|by simp;exact .inr<|.inr<|.inr ⟨p,d,rfl⟩)⟩
 item:=by
  intro X Q R S Z i F s σ H E I N g T;subst Q R S;obtain⟨l,u,⟨os,M,C⟩,B⟩:=g;obtain⟨y,xs,e,G,hi,hx⟩:=zis I ps (λp d=>T (p.c,p.k)<|M7.mpr ⟨p,d,rfl⟩) B;have el:y.length=ps.length:=by rw[<- e,L1]
  have ej:(y.map λq=>Value.ref q.j)=ps.map λp=>Value.ref p.j:=by rw[<- e,U2];rfl
  have mp:∀ p∈ps,∃ r∈y,r.j=p.j/\r.c=p.c/\r.k=p.k:=λp d=>by
   rw[<- e] at d;obtain⟨r,J,rfl⟩:=M7.mp d;exact⟨r,J,rfl,rfl,rfl⟩
  refine jhZ (D.za e) l (by rw[ej];exact u) C (λz=>hn<|by rw[<- e,z];rfl) (by rw[M,el]) ∅ hi λhh a1 a2 a3 a4 O=>?_;refine⟨_,rfl,wpAny_letOwnedTupleGo_zip a1 λh7 U f=>?_⟩;have lt:∀{c o},s.heap.get? c=some o->c < ↥s:=N2;have L:=(f.2 _<|Nat.ne_of_gt<|lt l).trans a4;have nj:∀{b},(∀ p∈ps,b≠p.j)->∀ r∈y,b≠r.j:=λh r J=>by
   have:=h ⟨r.j,r.c,r.k⟩ (by rw[<- e];exact List.mem_map_of_mem J);exact this
  have kk:∀ b o,b∉z::TI::TO::ps.map (·.j)->s.heap.get? b=some o->h7.get? b=some o:=λb o hb q=>by
   have A:b≠z/\b≠TI/\b≠TO/\∀ p∈ps,b≠p.j:=by
    simp at hb;exact⟨hb.1,hb.2.1,hb.2.2.1,λp d x=>hb.2.2.2 p d x.symm⟩
   exact(f.2 b A.1).trans (O b o A.1 A.2.2.1 (nj A.2.2.2) q)
  have I1:=I.turnedNew (t':=s.toks) kk N (N0 _) ⟨⟨_,L,rfl,_,rfl⟩,_,L,rfl⟩ ⇑G (by have:=G.length;simp at this;exact N8 (by lia:xs.length<=1000)<|by decide);refine⟨.ref ↥s,_,I1,rfl,⟨_,xs,by have:=G.length;simp at this;simp;lia,λm a em q V=>?_,rfl,I.hok.fresh<|N0 _,rfl⟩,⟨U,(f.2 TI D.TIz).trans (O _ _ D.TIz D.TITO (nj λp d x=>(D.jz p d).2.1 x.symm) u),⟨_,by rw[L1,el],(f.2 TO D.TOz).trans a2⟩,λp d=>?_⟩,λb hb=>?_⟩
  ·rw[List.getElem?_map] at em;obtain⟨p,ep,rfl⟩:=Option.map_eq_some_iff.mp em;exact hx m p ep q V
  ·obtain⟨r,J,rj,rc,rk⟩:=mp p d;rw[<- rj,<- rc,<- rk];refine(a3 r J).itB.up λo q=>(f.2 _ ?_).trans q;rw[rj];exact(D.jz p d).1
  ·rw[je]
   ·exact(N b hb).1
   ·intro q;have:b < ↥s:=by
     rcases(⇑hb:b=z\/b=TI\/b=TO \/ ∃ p∈ps,p.j=b) with w | w | w | ⟨p,d,w⟩
     ·rw[w];exact lt l
     ·rw[w];exact lt u
     ·rw[w];exact lt C
     ·obtain⟨o,e,_⟩:=(B p d).obj;rw[<- w];exact lt e
    exact absurd this (by rw[q];exact Nat.lt_irrefl _)
 done:=by
  intro X Q R S Z i F s σ H E I N g T;subst Q R S;obtain⟨l,u,⟨os,M,C⟩,B⟩:=g;obtain⟨a,r,q,ea,V,hx⟩:=T;cases ps with
  | nil=>cases ea
  | cons p ps=>
   cases ea;obtain⟨us,G,it⟩:=jgT I V<|B p (by simp);have hl1:=G.length;have ee:((⟨p.j,p.c,us.toArray,.none,p.k⟩:Zi)::ps.map λp=>⟨p.j,p.c,#[],.none,p.k⟩).map (λr=>(⟨r.j,r.c,r.k⟩:Zp))=p::ps:=by
    rw[L5,U2];exact congrArg (p::·)<|List.map_id _
   refine jjy (I.ok.hd Z) (D.za ee) l (by rw[show Km s.heap TI _=Km s.heap TI ((p::ps).map λp=>.ref p.j) by rw[L5,U2];rfl];exact u) it (by simp;lia) λhh O=>⟨rfl,I.turnedL (λb o hb q=>?_) N⟩;simp only[M5,M7,not_or,L5] at hb;refine O b o hb.1 hb.2.2.1 (λt W x=>?_) q;rcases M5.mp W with rfl | W
   ·exact hb.2.2.2.1 x
   ·obtain⟨p',Y,rfl⟩:=M7.mp W;exact hb.2.2.2.2 ⟨p',Y,x.symm⟩
 self:=λ_ _ _ _ _ g h=>wpAny_pyIter_zip g.1 h
end L2
namespace PySem
namespace F
def typeCall_zip_N3(a b c):checkTypeCall "zip" ⟨[a,b,c],[]⟩=pure ():=by kernel_rfl
def newCall_zip_N3(a b c):checkBuiltinCall "zip.__new__" ⟨[.type "zip",a,b,c],[]⟩=pure ():=by kernel_rfl
def args_object_init_N4(a b c d):argsOk "object.__init__" ⟨[a,b,c,d],[]⟩:=by
 unfold argsOk;kernel_rfl
end F
end PySem
namespace L2
open PySem PySem.Spec PyProof.Rows
def iZN(K:W4)(m:Nat)(tl:TA):TI:=λσ H R=>tl σ H λvs H1=>∃ as:List (Addr×Bool),as.length=m/\vs=as.map (λa=>.ref a.1)/\(∀ a∈as,∃ q,SqB K H1 a.1 a.2 q)/\R (IzN K as) H1
theorem zqs(I:Inv X pins σ H s):∀ as:List (Addr×Bool),(∀ a∈as,∃ q,SqB X.K H a.1 a.2 q)->∃ l:List (Addr×Array Value×Bool),l.map (λp=>(p.1,p.2.2))=as/\∀ p∈l,SqH s.heap p.1 p.2.1 p.2.2/\p.1 < ↥s
 | [],_=>⟨[],rfl,by simp⟩
 | (a,k)::as,h=>by
  obtain⟨l,e,d⟩:=zqs I as λb hb=>h b (by simp[hb]);obtain⟨q,c⟩:=h (a,k) (by simp);have:∃ vs:Array Value,SqH s.heap a vs k/\a < ↥s:=by
   cases k with
   | true=>
    obtain⟨f,g,p,_⟩:=I.list c;obtain⟨o,_,e,_⟩:=id p;exact⟨_,p.isList,N2 e⟩
   | false=>
    obtain⟨f,g,p,_⟩:=I.tuple c;obtain⟨o,e,_⟩:=id p;exact⟨_,p,N2 e⟩
  obtain⟨vs,i,j⟩:=this;exact⟨(a,vs,k)::l,by rw[L5,e],λp m=>(M5.mp m).elim (λz=>by rw[z];exact⟨i,j⟩) (d p)⟩
def zps(S:Nat)(l:List<|Addr×Array Value×Bool):List Zp:=(l.zipIdx S).map λq=>⟨q.2,q.1.1,q.1.2.2⟩
def jpc(S):∀ l:List (Addr×Array Value×Bool),(zps S l).map (·.j)=List.range' S l.length:=by
 intro l
 induction l generalizing S with
 | nil=>rfl
 | cons p l a=>have:=a<|S+1;unfold zps at this ⊢;rw[List.zipIdx_cons,L5,L5,this,M3,List.range'_succ]
def joL(S):∀ l:List (Addr×Array Value×Bool),(zps S l).map (λp=>(p.c,p.k))=l.map λp=>(p.1,p.2.2):=by
 intro l
 induction l generalizing S with
 | nil=>rfl
 | cons p l a=>have:=a<|S+1;unfold zps at this ⊢;rw[List.zipIdx_cons,L5,L5,this,L5]
def KS{S}:∀{l}{q},q∈zps S l->∃ i p,l[i]?=some p/\q=⟨S+i,p.1,p.2.2⟩:=by
 intro l q h;obtain⟨⟨p,m⟩,a,rfl⟩:=M7.mp h;have:=List.mem_zipIdx a;refine⟨m-S,p,?_,?_⟩
 ·rw[X9 ∅];exact congrArg some this.2.2.symm
 ·have:S+(m-S)=m:=by lia
  rw[this]
def zn1(N):N≠N+2/\N+1≠N+2/\N≠N+1:=by lia
def zn2{S L i N}(h:i<L)(e:N=S+L):S+i≠N+2/\S+i≠N/\S+i≠N+1:=by lia
def zn3{c S L N}(h:c<S)(e:N=S+L):c≠N+2/\c≠N+1/\∀ i,c≠S+i:=⟨by lia,by lia,λi=>by lia⟩
def zn4{S L N b}(e:N=S+L)(h:b=N+2\/b=N\/b=N+1):S<=b:=by lia
def jlj(I:Inv X pins σ H s)  (x:as≠[]) (Q:as.length<=1000) (c:∀ a∈as,∃ q,SqB X.K H a.1 a.2 q) (q:R (IzN X.K as) H)
  (d:checkTypeCall "zip" ⟨as.map λp=>.ref p.1,[]⟩=pure ()) (f:checkBuiltinCall "zip.__new__" ⟨.type "zip"::as.map λp=>.ref p.1,[]⟩=pure ()) (hok:∀ obj,argsOk "object.__init__" ⟨obj::as.map λp=>.ref p.1,[]⟩):
  wpAny (model X.prog X.w) X.A (call (.type "zip")<|as.map λp=>.ref p.1) (λv s1=>wpAny (model X.prog X.w) X.A (pyIter v) (PIE X pins σ (.Tuple elts n tpos) R) X.xe s1) X.xe s:=by
 obtain⟨l,e,o⟩:=zqs I as c;have S:l.length=as.length:=by rw[<- e,L1]
 have y:(as.map λp=>Value.ref p.1)=l.map λp=>Value.ref p.1:=by rw[<- e,U2];rfl
 rw[y] at d f hok ⊢;refine jjM ∅ d f hok (λp B=>(o p B).1) λC N g t E F G J=>?_;have L:Inv X pins σ H {s with heap:=C}:=I.kept J;refine PySem.wpAny_pyIter_zip t ?_;have h:=jpc ↥s l;have u:=joL ↥s l;have D:ZP (N+2) N (N+1) (zps ↥s l):=by
  refine⟨(zn1 N).1,(zn1 N).2.1,(zn1 N).2.2,λq c=>?_,λq c=>?_,by rw[h];exact List.nodup_range'⟩
  ·obtain⟨i,p,k,rfl⟩:=KS c;exact zn2 (L9.mp k).1 g
  ·obtain⟨i,p,k,rfl⟩:=KS c;have:=zn3 (o p<|List.mem_of_getElem? k).2 g;refine⟨this.1,this.2.1,λr M=>?_⟩;obtain⟨O,U,_,rfl⟩:=KS M;exact this.2.2 O
 have T:=jjo (P:=X.prog) (w:=X.w) (K:=X.K) (elts:=elts) (n:=n) (pos:=tpos) (N+2) N (N+1) (zps ↥s l) D (λz=>x<|by rw[<- e,<- u,z];rfl) (by have:=congrArg List.length h;rw[L1,List.length_range'] at this;lia);rw[u,e] at T;refine⟨N+2,_,_,_,H,rfl,L,T,⟨t,?_,⟨_,?_,F⟩,λq c=>?_⟩,λb hb=>?_,q⟩
 ·rw[show(zps ↥s l).map (λp=>Value.ref p.j)=((zps ↥s l).map (·.j)).map Value.ref by rw[U2];rfl,h];exact E
 ·have:=congrArg List.length h;rw[L1,List.length_range'] at this;rw[L1];lia
 ·obtain⟨i,p,k,rfl⟩:=KS c;exact(G i p k).itB
 ·have m:↥s<=b:=by
   rw[h] at hb;rcases M5.mp hb with z | hb
   ·exact zn4 g<|.inl z
   rcases M5.mp hb with z | hb
   ·exact zn4 g<|.inr<|.inl z
   rcases M5.mp hb with z | hb
   ·exact zn4 g<|.inr<|.inr z
   exact(List.mem_range'_1.mp hb).1
  exact I.fpOk m<|I.hok.fresh m
theorem Vv:∀{as:List (Addr×Bool)}{us},Vals (as.map λa=>V.ref a.1) us->us=as.map λa=>Value.ref a.1
 | [],_,h=>by cases h;rfl
 | a::as,_,h=>by
  cases h with
  | cons b c=>cases b;rw[Vv c];rfl
def jme(e:Gl X "zip")(f:X.mg "zip" = none)(g:PA X [a,b] ta)(i:starEach [a,b] X.env=[(false,eval a X.env),(false,eval b X.env)]:=by rfl)(c:starEach [b] X.env=[(false,eval b X.env)]:=by rfl):
  PI X (.Tuple elts n tpos) (.Call (.Name "zip" p) [a,b] [] pos) (iZN X.K 2 ta):=by
 intro d s σ H R I h;refine Call_<|JN I e f (show bootBuiltins "zip" = some (.type "zip") by decide +kernel)<|PyProof.Rows.callWith_type1 (thn (g pos d s σ H _ I h) λr s1 ⟨vs,t,j,r1,k⟩=>?_) (by rw[i,c]) (by rw[c];rfl);obtain⟨l,l2,rfl,m,q⟩:=k;cases Vv r1
 match l,l2 with
 | [x,y],_=>exact jlj j (by simp) (by simp) m q (F.typeCall_zip_2 _ _) (F.newCall_zip_2 _ _) λo=>F.args_object_init_3 o _ _
def jkU(f:Gl X "zip")(g:X.mg "zip" = none)(i:PA X [a,b,c] ta)(j:starEach [a,b,c] X.env=[(false,eval a X.env),(false,eval b X.env),(false,eval c X.env)]:=by rfl)(d:starEach [b,c] X.env=[(false,eval b X.env),(false,eval c X.env)]:=by rfl):
  PI X (.Tuple elts n tpos) (.Call (.Name "zip" p) [a,b,c] [] pos) (iZN X.K 3 ta):=by
 intro e s σ H R I h;refine Call_<|JN I f g (show bootBuiltins "zip" = some (.type "zip") by decide +kernel)<|PyProof.Rows.callWith_type1 (thn (i pos e s σ H _ I h) λt s1 ⟨vs,u,k,r1,l⟩=>?_) (by rw[j,d]) (by rw[d];rfl);obtain⟨m,l2,rfl,r,q⟩:=l;cases Vv r1
 match m,l2 with
 | [x,y,z],_=>exact jlj k (by simp) (by simp) r q (F.typeCall_zip_N3 _ _ _) (F.newCall_zip_N3 _ _ _) λo=>F.args_object_init_N4 o _ _ _
end L2
namespace QD
open PySem L2
inductive KA where
 | int (i:Int) | str (s:List Nat)
 deriving DecidableEq
inductive D where
 | non | bl (b:Bool) | int (i:Int) | str (s:List Nat)
 | tup (l:List D) | lst (o:Bool) (l:List D)
 | dK (o:Bool) (ks:List KA) (l:List D)
 | dT (o:Bool) (ks:List (List KA)) (l:List D)
 | ins (o:Bool) (c:Nat) (ns:List Str) (l:List D)
 | dead
  | tok (a:Addr)
 | kt (k:List KA)
  | exc (c:Nat) (p:Int)
def xo(C a dx:Addr):Heap->Prop:=λh=>∃ o vs,h.get? a=some o/\o.cls=.ref C/\o.dict=some dx/\o.data=.fields vs
mutual
noncomputable def fz:D->D
 | .tup l=>.tup<|fzs l
 | .lst _ l=>.lst false<|fzs l
 | .dK _ ks l=>.dK false ks<|fzs l
 | .dT _ ks l=>.dT false ks<|fzs l
 | .ins _ c ns l=>.ins false c ns<|fzs l
 | .non=>.non | .bl b=>.bl b | .int i=>.int i | .str s=>.str s | .dead=>.dead | .tok a=>.tok a | .kt k=>.kt k | .exc c p=>.exc c p
noncomputable def fzs:List D->List D
 | []=>[]
 | d::l=>fz d::fzs l
end
mutual
noncomputable def frz:D->Bool
 | .tup l=>frzs l
 | .lst o l=>!o&&frzs l
 | .dK o _ l=>!o&&frzs l
 | .dT o _ l=>!o&&frzs l
 | .ins o _ _ l=>!o&&frzs l
 | .non=>true | .bl _=>true | .int _=>true | .str _=>true | .dead=>true | .tok _=>true | .kt _=>true | .exc _ _=>true
noncomputable def frzs:List D->Bool
 | []=>true
 | d::l=>frz d&&frzs l
end
mutual
theorem jha:∀ d:D,frz d=true->fz d=d
 | .tup l,h=>by rw[frz] at h;rw[fz,jL l h]
 | .lst o l,h=>by rw[frz,M0] at h;rw[fz,jL l h.2];cases o<;>simp_all
 | .dK o ks l,h=>by rw[frz,M0] at h;rw[fz,jL l h.2];cases o<;>simp_all
 | .dT o ks l,h=>by rw[frz,M0] at h;rw[fz,jL l h.2];cases o<;>simp_all
 | .ins o c ns l,h=>by rw[frz,M0] at h;rw[fz,jL l h.2];cases o<;>simp_all
 | .non,_=>rfl | .bl _,_=>rfl | .int _,_=>rfl | .str _,_=>rfl | .dead,_=>rfl | .tok _,_=>rfl | .kt _,_=>rfl | .exc _ _,_=>rfl
theorem jL:∀ l:List D,frzs l=true->fzs l=l
 | [],_=>rfl
 | d::l,h=>by rw[frzs,M0] at h;rw[fzs,jha d h.1,jL l h.2]
end
mutual
theorem jmq:∀ d:D,frz (fz d)=true
 | .tup l=>by rw[fz,frz];exact qY l
 | .lst o l=>by rw[fz,frz,qY l];rfl
 | .dK o ks l=>by rw[fz,frz,qY l];rfl
 | .dT o ks l=>by rw[fz,frz,qY l];rfl
 | .ins o c ns l=>by rw[fz,frz,qY l];rfl
 | .non=>rfl | .bl _=>rfl | .int _=>rfl | .str _=>rfl | .dead=>rfl | .tok _=>rfl | .kt _=>rfl | .exc _ _=>rfl
theorem qY:∀ l:List D,frzs (fzs l)=true
 | []=>rfl
 | d::l=>by rw[fzs,frzs,jmq d,qY l];rfl
end
theorem kN:∀ l:List D,fzs l=l.map fz
 | []=>rfl
 | d::l=>by rw[fzs,kN l];rfl
theorem JQ:∀ l:List D,frzs l=l.all frz
 | []=>rfl
 | d::l=>by rw[frzs,JQ l];rfl
structure RC where
 K:PySem.W.Frag
 cls:Nat->Addr
def kaV:KA->Key
 | .int i=>.inl i
 | .str s=>.inr<|S s
noncomputable abbrev Zn:=Addr->Prop
def FT(R:RC)(Z:Zn)(H:Hp)(a:Addr)(vs:List V):Prop:=
 (Z a/\Rd H a (.tup vs)) \/ ∃ o its n,R.K.lookup a=some o/\o.cls=.type "tuple"/\o.data=.seq its n/\its.size<=sizeLine/\Vals vs its.toList/\o.dict=none
def FL(R:RC)(Z:Zn)(H:Hp)(a:Addr)(vs:List V):Prop:=
 (Z a/\Rd H a (.lst vs)) \/ ∃ its n,R.K.lookup a=some {cls:=.type "list",data:=.seq its n}/\its.size<=sizeLine/\Vals vs its.toList
def DkA(o:Bool)(H:Hp)(a:Addr)(kvs:List<|Key×V):Prop:=bif o then H a=some (.dK kvs) else Rd H a (.dK kvs)
inductive RpC (rs:List V->List Addr->Prop) (C:Addr->List V->List Addr->Prop) (v:V):Prop
 | mk:∀(a:Addr) (vs:List V) (O':W5),v=.ref a->rs vs O'->C a vs O'->RpC rs C v
inductive RpS (rd:V->List Addr->Prop) (rs:List V->List Addr->Prop) (vs:List V) (O:W5):Prop
 | mk:∀(v:V) (vs':List V) (O1 O2:W5),vs=v::vs'->O=O1++O2->rd v O1->rs vs' O2->RpS rd rs vs O
mutual
def Rep(R:RC)(Z:Zn)(H:Hp):D->V->List Addr->Prop
 | .non,v,O=>v=.non/\O=[]
 | .bl b,v,O=>v=.bl b/\O=[]
 | .int i,v,O=>v=.int i/\O=[]
 | .str s,v,O=>v=.str (S s)/\O=[]
 | .dead,_,O=>O=[]
 | .tok a,v,O=>v=.ref a/\O=[]
 | .kt k,v,O=>∃ a,v=.ref a/\Z a/\H a=some (.tup<|(k.map kaV).map kV)/\O=[]
 | .exc c p,v,O=>∃ a dx,v=.ref a/\Z a/\Z dx/\H a=some (.ext<|xo (R.cls c) a dx)/\H dx=some (.xd [("place",.int p)])/\O=[]
 | .tup l,v,O=>∃ a vs,v=.ref a/\FT R Z H a vs/\Reps R Z H l vs O
 | .lst o l,v,O=>RpC (λvs O'=>Reps R Z H l vs O') (λa vs O'=>bif o then H a=some (.lst vs)/\O=a::O' else FL R Z H a vs/\O'=[]/\O=[]) v
 | .dK o ks l,v,O=>RpC (λvs O'=>Reps R Z H l vs O') (λa vs O'=>ks.length=l.length/\DkA o H a ((ks.map kaV).zip vs)/\bif o then O=a::O' else Z a/\O'=[]/\O=[]) v
 | .dT o ks l,v,O=>RpC (λvs O'=>Reps R Z H l vs O') (λa vs O'=>ks.length=l.length/\H a=some (.dT<|(ks.map<|List.map kaV).zip vs)/\bif o then O=a::O' else Z a/\O'=[]/\O=[]) v
 | .ins o c ns l,v,O=>∃ a dx vs O',v=.ref a/\Reps R Z H l vs O'/\ns.length=l.length/\H a=some (.ins (R.cls c) dx<|ns.zip vs)/\bif o then O=a::O' else Z a/\O'=[]/\O=[]
def Reps(R:RC)(Z:Zn)(H:Hp):List D->List V->List Addr->Prop
 | [],vs,O=>vs=[]/\O=[]
 | d::ds,vs,O=>RpS (λv O1=>Rep R Z H d v O1) (λvs' O2=>Reps R Z H ds vs' O2) vs O
end
def FT.sq(h:FT R Z H a vs):SqT R.K H a vs:=by
 rcases h with⟨_,h⟩ | ⟨o,b,n,c,d,e,f,g,_⟩
 ·exact .inl h
 ·exact .inr ⟨o,b,n,c,d,e,f,g⟩
def FL.sqx(h:FL R Z H a vs):SqX R.K H a vs:=by
 rcases h with⟨_,h⟩ | h
 ·exact .inl h
 ·exact .inr h
def FL.sq(h:FL R Z H a vs):SqL R.K H a vs:=h.sqx.sq
def Rd.agree(e:H' a=H a)(h:Rd H a u):Rd H' a u:=by
 unfold Rd at h ⊢;rw[e];exact h
def FT.frame(b:∀ a,Z a->Z' a)(c:∀ a,Z a->H' a=H a)(h:FT R Z H a vs):FT R Z' H' a vs:=by
 rcases h with⟨z,h⟩ | h
 ·exact .inl ⟨b a z,Rd.agree (c a z) h⟩
 ·exact .inr h
def FL.frame(b:∀ a,Z a->Z' a)(c:∀ a,Z a->H' a=H a)(h:FL R Z H a vs):FL R Z' H' a vs:=by
 rcases h with⟨z,h⟩ | h
 ·exact .inl ⟨b a z,Rd.agree (c a z) h⟩
 ·exact .inr h
mutual
theorem Rep.frame(hz:∀ a,Z a->Z' a)(hH:∀ a,Z a->H' a=H a):∀{d:D}{v:V}{O:W5},Rep R Z H d v O->(∀ a∈O,H' a=H a)->Rep R Z' H' d v O
 | .non,_,_,h,_=>by rw[Rep] at h ⊢;exact h
 | .bl _,_,_,h,_=>by rw[Rep] at h ⊢;exact h
 | .int _,_,_,h,_=>by rw[Rep] at h ⊢;exact h
 | .str _,_,_,h,_=>by rw[Rep] at h ⊢;exact h
 | .dead,_,_,h,_=>by rw[Rep] at h ⊢;exact h
 | .tok _,_,_,h,_=>by rw[Rep] at h ⊢;exact h
 | .kt _,_,_,h,_=>by
  rw[Rep] at h ⊢;obtain⟨a,e,z,x,o⟩:=h;exact⟨a,e,hz a z,(hH a z).trans x,o⟩
 | .exc _ _,_,_,h,_=>by
  rw[Rep] at h ⊢;obtain⟨a,dx,e,z1,z2,h1,h2,h3⟩:=h;exact⟨a,dx,e,hz a z1,hz dx z2,(hH a z1).trans h1,(hH dx z2).trans h2,h3⟩
 | .tup l,_,_,h,hO=>by
  rw[Rep] at h ⊢;obtain⟨a,vs,e,t,r⟩:=h;exact⟨a,vs,e,t.frame hz hH,Reps.frame hz hH r hO⟩
 | .lst o l,_,_,h,hO=>by
  rw[Rep] at h ⊢;obtain⟨a,vs,O',e,r,h⟩:=h;cases o with
  | true=>
   obtain⟨h1,rfl⟩:=h;exact⟨a,vs,O',e,Reps.frame hz hH r λb hb=>hO b<|L6 _ hb,by rw[cond_true,hO a L7];exact⟨h1,rfl⟩⟩
  | false=>
   obtain⟨h1,rfl,rfl⟩:=h;exact⟨a,vs,[],e,Reps.frame hz hH r (λb hb=>nomatch hb),h1.frame hz hH,rfl,rfl⟩
 | .dK o ks l,_,_,h,hO=>by
  rw[Rep] at h ⊢;obtain⟨a,vs,O',e,r,hl,hd,h⟩:=h;cases o with
  | true=>
   have h:=(show _=_ from h);subst h;exact⟨a,vs,O',e,Reps.frame hz hH r λb hb=>hO b<|L6 _ hb,hl,by show H' a=some _;rw[hO a L7];exact hd,rfl⟩
  | false=>
   obtain⟨h1,rfl,rfl⟩:=h;exact⟨a,vs,[],e,Reps.frame hz hH r (λb hb=>nomatch hb),hl,Rd.agree (hH a h1) hd,hz a h1,rfl,rfl⟩
 | .dT o ks l,_,_,h,hO=>by
  rw[Rep] at h ⊢;obtain⟨a,vs,O',e,r,hl,hd,h⟩:=h;cases o with
  | true=>
   have h:=(show _=_ from h);subst h;exact⟨a,vs,O',e,Reps.frame hz hH r λb hb=>hO b<|L6 _ hb,hl,by rw[hO a L7];exact hd,rfl⟩
  | false=>
   obtain⟨h1,rfl,rfl⟩:=h;exact⟨a,vs,[],e,Reps.frame hz hH r (λb hb=>nomatch hb),hl,by rw[hH a h1];exact hd,hz a h1,rfl,rfl⟩
 | .ins o c ns l,_,_,h,hO=>by
  rw[Rep] at h ⊢;obtain⟨a,dx,vs,O',e,r,hl,hd,h⟩:=h;cases o with
  | true=>
   have h:=(show _=_ from h);subst h;exact⟨a,dx,vs,O',e,Reps.frame hz hH r λb hb=>hO b<|L6 _ hb,hl,by rw[hO a L7];exact hd,rfl⟩
  | false=>
   obtain⟨h1,rfl,rfl⟩:=h;exact⟨a,dx,vs,[],e,Reps.frame hz hH r (λb hb=>nomatch hb),hl,by rw[hH a h1];exact hd,hz a h1,rfl,rfl⟩
theorem Reps.frame(hz:∀ a,Z a->Z' a)(hH:∀ a,Z a->H' a=H a):∀{l:List D}{vs:List V}{O:W5},Reps R Z H l vs O->(∀ a∈O,H' a=H a)->Reps R Z' H' l vs O
 | [],_,_,h,_=>by rw[Reps] at h ⊢;exact h
 | d::l,_,_,h,hO=>by
  rw[Reps] at h ⊢;obtain⟨v,vs,O1,O2,e,rfl,r1,r2⟩:=h;exact⟨v,vs,O1,O2,e,rfl,Rep.frame hz hH r1 λa ha=>hO a<|List.mem_append_left _ ha,Reps.frame hz hH r2 λa ha=>hO a<|U4 _ ha⟩
end
mutual
theorem Rep.nil:∀{d:D}{v:V}{O:W5},Rep R Z H d v O->frz d=true->O=[]
 | .non,_,_,h,_=>by rw[Rep] at h;exact h.2
 | .bl _,_,_,h,_=>by rw[Rep] at h;exact h.2
 | .int _,_,_,h,_=>by rw[Rep] at h;exact h.2
 | .str _,_,_,h,_=>by rw[Rep] at h;exact h.2
 | .dead,_,_,h,_=>by rw[Rep] at h;exact h
 | .tok _,_,_,h,_=>by rw[Rep] at h;exact h.2
 | .kt _,_,_,h,_=>by rw[Rep] at h;obtain⟨_,_,_,_,h⟩:=h;exact h
 | .exc _ _,_,_,h,_=>by rw[Rep] at h;obtain⟨_,_,_,_,_,_,_,h⟩:=h;exact h
 | .tup l,_,_,h,f=>by
  rw[Rep] at h;rw[frz] at f;obtain⟨a,vs,e,t,r⟩:=h;exact Reps.nil r f
 | .lst o l,_,_,h,f=>by
  rw[Rep] at h;rw[frz] at f;obtain⟨a,vs,O',e,r,h⟩:=h;cases o with
  | true=>exact absurd f (by simp)
  | false=>exact h.2.2
 | .dK o ks l,_,_,h,f=>by
  rw[Rep] at h;rw[frz] at f;obtain⟨a,vs,O',e,r,hl,hd,h⟩:=h;cases o with
  | true=>exact absurd f (by simp)
  | false=>exact h.2.2
 | .dT o ks l,_,_,h,f=>by
  rw[Rep] at h;rw[frz] at f;obtain⟨a,vs,O',e,r,hl,hd,h⟩:=h;cases o with
  | true=>exact absurd f (by simp)
  | false=>exact h.2.2
 | .ins o c ns l,_,_,h,f=>by
  rw[Rep] at h;rw[frz] at f;obtain⟨a,dx,vs,O',e,r,hl,hd,h⟩:=h;cases o with
  | true=>exact absurd f (by simp)
  | false=>exact h.2.2
theorem Reps.nil:∀{l:List D}{vs:List V}{O:W5},Reps R Z H l vs O->frzs l=true->O=[]
 | [],_,_,h,_=>by rw[Reps] at h;exact h.2
 | d::l,_,_,h,f=>by
  rw[Reps] at h;rw[frzs,M0] at f;obtain⟨v,vs,O1,O2,e,rfl,r1,r2⟩:=h;rw[Rep.nil r1 f.1,Reps.nil r2 f.2];rfl
end
mutual
theorem Rep.freeze:∀{d:D}{v:V}{O:W5},Rep R Z H d v O->(∀ a,Z a->Z' a)->(∀ a∈O,Z' a)->Rep R Z' H (fz d) v []
 | .non,_,_,h,_,_=>by rw[Rep] at h;rw[fz,Rep];exact⟨h.1,rfl⟩
 | .bl _,_,_,h,_,_=>by rw[Rep] at h;rw[fz,Rep];exact⟨h.1,rfl⟩
 | .int _,_,_,h,_,_=>by rw[Rep] at h;rw[fz,Rep];exact⟨h.1,rfl⟩
 | .str _,_,_,h,_,_=>by rw[Rep] at h;rw[fz,Rep];exact⟨h.1,rfl⟩
 | .dead,_,_,h,_,_=>by rw[fz,Rep]
 | .tok _,_,_,h,_,_=>by rw[Rep] at h;rw[fz,Rep];exact⟨h.1,rfl⟩
 | .kt _,_,_,h,hz,_=>by
  rw[Rep] at h;rw[fz,Rep];obtain⟨a,e,z,x,o⟩:=h;exact⟨a,e,hz a z,x,rfl⟩
 | .exc _ _,_,_,h,hz,_=>by
  rw[Rep] at h;rw[fz,Rep];obtain⟨a,dx,e,z1,z2,h1,h2,_⟩:=h;exact⟨a,dx,e,hz a z1,hz dx z2,h1,h2,rfl⟩
 | .tup l,_,_,h,hz,hO=>by
  rw[Rep] at h;rw[fz,Rep];obtain⟨a,vs,e,t,r⟩:=h;exact⟨a,vs,e,t.frame hz λ_ _=>rfl,Reps.freeze r hz hO⟩
 | .lst o l,_,_,h,hz,hO=>by
  rw[Rep] at h;rw[fz,Rep];obtain⟨a,vs,O',e,r,h⟩:=h;cases o with
  | true=>
   obtain⟨h1,rfl⟩:=h;exact⟨a,vs,[],e,Reps.freeze r hz λb hb=>hO b<|L6 _ hb,.inl ⟨hO a L7,.inl h1⟩,rfl,rfl⟩
  | false=>
   obtain⟨h1,rfl,rfl⟩:=h;exact⟨a,vs,[],e,Reps.freeze r hz (λb hb=>nomatch hb),h1.frame hz<|λ_ _=>rfl,rfl,rfl⟩
 | .dK o ks l,_,_,h,hz,hO=>by
  rw[Rep] at h;rw[fz,Rep];obtain⟨a,vs,O',e,r,hl,hd,h⟩:=h;have hl':ks.length=(fzs l).length:=by rw[kN,L1];exact hl
  cases o with
  | true=>
   have h:=(show _=_ from h);subst h;exact⟨a,vs,[],e,Reps.freeze r hz λb hb=>hO b<|L6 _ hb,hl',.inl hd,hO a L7,rfl,rfl⟩
  | false=>
   obtain⟨h1,rfl,rfl⟩:=h;exact⟨a,vs,[],e,Reps.freeze r hz (λb hb=>nomatch hb),hl',hd,hz a h1,rfl,rfl⟩
 | .dT o ks l,_,_,h,hz,hO=>by
  rw[Rep] at h;rw[fz,Rep];obtain⟨a,vs,O',e,r,hl,hd,h⟩:=h;have hl':ks.length=(fzs l).length:=by rw[kN,L1];exact hl
  cases o with
  | true=>
   have h:=(show _=_ from h);subst h;exact⟨a,vs,[],e,Reps.freeze r hz λb hb=>hO b<|L6 _ hb,hl',hd,hO a L7,rfl,rfl⟩
  | false=>
   obtain⟨h1,rfl,rfl⟩:=h;exact⟨a,vs,[],e,Reps.freeze r hz (λb hb=>nomatch hb),hl',hd,hz a h1,rfl,rfl⟩
 | .ins o c ns l,_,_,h,hz,hO=>by
  rw[Rep] at h;rw[fz,Rep];obtain⟨a,dx,vs,O',e,r,hl,hd,h⟩:=h;have hl':ns.length=(fzs l).length:=by rw[kN,L1];exact hl
  cases o with
  | true=>
   have h:=(show _=_ from h);subst h;exact⟨a,dx,vs,[],e,Reps.freeze r hz λb hb=>hO b<|L6 _ hb,hl',hd,hO a L7,rfl,rfl⟩
  | false=>
   obtain⟨h1,rfl,rfl⟩:=h;exact⟨a,dx,vs,[],e,Reps.freeze r hz (λb hb=>nomatch hb),hl',hd,hz a h1,rfl,rfl⟩
theorem Reps.freeze:∀{l:List D}{vs:List V}{O:W5},Reps R Z H l vs O->(∀ a,Z a->Z' a)->(∀ a∈O,Z' a)->Reps R Z' H (fzs l) vs []
 | [],_,_,h,_,_=>by rw[Reps] at h;rw[fzs,Reps];exact⟨h.1,rfl⟩
 | d::l,_,_,h,hz,hO=>by
  rw[Reps] at h;rw[fzs,Reps];obtain⟨v,vs,O1,O2,e,rfl,r1,r2⟩:=h;exact⟨v,vs,[],[],e,rfl,Rep.freeze r1 hz λa ha=>hO a<|List.mem_append_left _ ha,Reps.freeze r2 hz λa ha=>hO a<|U4 _ ha⟩
end
theorem Reps.length:∀{l}{vs}{O},Reps R Z H l vs O->vs.length=l.length
 | [],_,_,h=>by rw[Reps] at h;rw[h.1];rfl
 | d::l,_,_,h=>by
  obtain⟨v,vs,a,b,rfl,rfl,r1,r2⟩:=h;rw[M3,M3,Reps.length r2]
theorem Reps.append:∀{l m}{vs ws}{O P},Reps R Z H l vs O->Reps R Z H m ws P->Reps R Z H (l++m) (vs++ws) (O++P)
 | [],m,_,_,_,_,h,k=>by rw[Reps] at h;obtain⟨rfl,rfl⟩:=h;exact k
 | d::l,m,_,_,_,_,h,k=>by
  obtain⟨v,vs,a,b,rfl,rfl,r1,r2⟩:=h;exact⟨v,_,a,_,rfl,List.append_assoc ..,r1,Reps.append r2 k⟩
def Reps.one(h:Rep R Z H d v O):Reps R Z H [d] [v] O:=by
 exact⟨v,[],O,[],rfl,(N1 O).symm,h,by rw[Reps];exact⟨rfl,rfl⟩⟩
def Reps.cons(h:Rep R Z H d v O)(k:Reps R Z H l vs P):Reps R Z H (d::l) (v::vs) (O++P):=by
 exact⟨v,vs,O,P,rfl,rfl,h,k⟩
def Reps.empty:Reps R Z H [] [] []:=by rw[Reps];exact⟨rfl,rfl⟩
theorem Reps.at:∀{l}{vs}{O}{i}{d},Reps R Z H l vs O->l[i]?=some d ->
  Ex4 λv A P B=>An4 (vs[i]?=some v) (O=A++P++B) (Rep R Z H d v P)<|∀{Z'}{H'}{d'}{v'}{P'},Rep R Z' H' d' v' P'->(∀ a,Z a->Z' a)->(∀ a,Z a->H' a=H a)->(∀ a∈A,H' a=H a)->(∀ a∈B,H' a=H a)->Reps R Z' H' (l.set i d') (vs.set i v') (A++P'++B)
 | [],_,_,_,_,_,e=>by simp at e
 | c::l,_,_,0,d,h,e=>by
  obtain⟨v,vs,b,j,rfl,rfl,r1,r2⟩:=h;have e:c=d:=by simpa using e
  subst e;exact⟨v,[],b,j,rfl,rfl,r1,λr f g m n=>⟨_,vs,_,j,rfl,rfl,r,Reps.frame f g r2 n⟩⟩
 | c::l,_,_,i+1,d,h,e=>by
  obtain⟨v,vs,b,j,rfl,rfl,r1,r2⟩:=h;obtain⟨w,A,P,B,p,rfl,q,k⟩:=Reps.at r2 ⇑e;exact⟨w,b++A,P,B,by simpa using p,by simp,q,λ{Z' H' d' v' P'} r f g m n=>⟨v,_,b,A++P'++B,rfl,by simp,Rep.frame f g r1 λa o=>m a<|List.mem_append_left _ o,k r f g (λa o=>m a<|U4 _ o) n⟩⟩
def Reps.item{l}{vs}{i:Nat}(h:Reps R Z H l vs [])(e:l[i]?=some d):∃ v,vs[i]?=some v/\Rep R Z H d v []:=by
 obtain⟨v,A,P,B,a,e2,r,_⟩:=h.at e;have:P=[]:=by
  have:=congrArg List.length e2;simp at this;exact List.eq_nil_of_length_eq_zero ∅
 subst this;exact⟨v,a,r⟩
theorem Reps.take:∀{l}{vs} n,Reps R Z H l vs []->Reps R Z H (l.take n) (vs.take n) []
 | _,_,0,_=>by simp;exact .empty
 | [],_,n+1,h=>by rw[Reps] at h;rw[h.1];exact .empty
 | d::l,_,n+1,h=>by
  obtain⟨v,vs,a,b,rfl,e,r1,r2⟩:=h;obtain⟨rfl,rfl⟩:=List.append_eq_nil_iff.mp e.symm;exact .cons r1<|Reps.take n r2
theorem Reps.drop:∀{l}{vs} n,Reps R Z H l vs []->Reps R Z H (l.drop n) (vs.drop n) []
 | _,_,0,h=>h
 | [],_,n+1,h=>by rw[Reps] at h;rw[h.1];exact .empty
 | d::l,_,n+1,h=>by
  obtain⟨v,vs,a,b,rfl,e,r1,r2⟩:=h;obtain⟨rfl,rfl⟩:=List.append_eq_nil_iff.mp e.symm;exact Reps.drop n r2
structure WF(Z:Zn)(H:Hp)(O:W5):Prop where
 nd:O.Nodup
 nz:∀ a∈O,¬ Z a
 od:∀ a∈O,H a≠none
 zd:∀ a,Z a->H a≠none
structure Go(Z:Zn)(H:Hp)(O:W5)(Z':Zn)(H':Hp)(O':W5):Prop where
 wf:WF Z' H' O'
 zz:∀ a,Z a->Z' a
 fr:∀ a,H a≠none->a∉O->H' a=H a
 zn:∀ a,Z' a->Z a\/a∈O\/H a=none
 sub:∀ a∈O',a∈O\/H a=none
 dm:∀ a,H a≠none->H' a≠none
def Go.refl(w:WF Z H O):Go Z H O Z H O:=⟨w,λ_ z=>z,λ_ _ _=>rfl,λ_ z=>.inl z,λ_ h=>.inl h,λ_ h=>h⟩
def Go.trans(g:Go Z H O Z' H' O')(k:Go Z' H' O' Z'' H'' O''):Go Z H O Z'' H'' O'':=by
 refine⟨k.wf,λa z=>k.zz a<|g.zz a z,λa h n=>?_,λa z=>?_,λa h=>?_,λa h=>k.dm a<|g.dm a h⟩
 ·rw[k.fr a (g.dm a h) λb=>(g.sub a b).elim n h,g.fr a h n]
 ·rcases k.zn a z with z | z | z
  ·exact g.zn a z
  ·rcases g.sub a z with q | q
   ·lia
   ·lia
  ·by_cases h:H a=none
   ·lia
   ·exact absurd z<|g.dm a h
 ·rcases k.sub a h with q | q
  ·exact g.sub a q
  ·by_cases h:H a=none
   ·lia
   ·exact absurd q<|g.dm a h
def Go.zH(w:WF Z H O)(g:Go Z H O Z' H' O'):∀ a,Z a->H' a=H a:=λa z=>g.fr a (w.zd a z) λh=>w.nz a h z
def WF.sub(w:WF Z H O)(h:∀ a∈O',a∈O)(n:O'.Nodup):WF Z H O':=⟨n,λa z=>w.nz a<|h a z,λa z=>w.od a<|h a z,w.zd⟩
def WF.mid(w:WF Z H<|A++O++B):WF Z H O:=w.sub (λa h=>by simp[h]) (by have:=w.nd;simp[X0] at this;exact this.2.1.1)
def WF.left(w:WF Z H<|A++B):WF Z H A:=w.sub (λa h=>by simp[h]) (X0.mp w.nd).1
def WF.right(w:WF Z H<|A++B):WF Z H B:=w.sub (λa h=>by simp[h]) (X0.mp w.nd).2.1
def Go.frame(w:WF Z H<|A++O++B)(g:Go Z H O Z' H' O'):Go Z H (A++O++B) Z' H' (A++O'++B):=by
 have nd:=w.nd;simp only[X0,N3] at nd;have new:∀ a∈O',a∉A/\a∉B:=λa h=>by
  rcases g.sub a h with q | q
  ·exact⟨λz=>nd.1.2.2 a z a q rfl,λz=>nd.2.2 a (.inr q) a z rfl⟩
  ·exact⟨λz=>w.od a (by simp[z]) q,λz=>w.od a (by simp[z]) q⟩
 have keep:∀ a,a∈A\/a∈B->a∉O:=λa h z=>by
  rcases h with h | h
  ·exact nd.1.2.2 a h a z rfl
  ·exact nd.2.2 a (.inr z) a h rfl
 refine⟨⟨?_,λa h z=>?_,λa h=>?_,g.wf.zd⟩,g.zz,λa h n=>?_,λa z=>?_,λa h=>?_,g.dm⟩
 ·simp only[X0,N3];exact⟨⟨nd.1.1,g.wf.nd,λa h b k e=>(new b k).1 (e▸h)⟩,nd.2.1,λa h b k e=>by
   rcases h with h | h
   ·exact nd.2.2 a (.inl h) b k e
   ·exact(new a h).2 (e▸k)⟩
 ·simp only[N3] at h;rcases h with(h | h) | h
  ·rcases g.zn a z with q | q | q
   ·exact w.nz a (by simp[h]) q
   ·exact keep a (.inl h) q
   ·exact w.od a (by simp[h]) q
  ·exact g.wf.nz a h z
  ·rcases g.zn a z with q | q | q
   ·exact w.nz a (by simp[h]) q
   ·exact keep a (.inr h) q
   ·exact w.od a (by simp[h]) q
 ·simp only[N3] at h;rcases h with(h | h) | h
  ·exact g.dm a<|w.od a (by simp[h])
  ·exact g.wf.od a h
  ·exact g.dm a<|w.od a (by simp[h])
 ·simp only[N3,not_or] at n;exact g.fr a h n.1.2
 ·rcases g.zn a z with q | q | q
  ·lia
  ·exact .inr<|.inl (by simp[q])
  ·lia
 ·simp only[N3] at h ⊢;rcases h with(h | h) | h
  ·lia
  ·rcases g.sub a h with q | q
   ·lia
   ·lia
  ·lia
def Go.keepA(w:WF Z H<|A++O++B)(g:Go Z H O Z' H' O'):(∀ a∈A,H' a=H a)/\∀ a∈B,H' a=H a:=by
 have nd:=w.nd;simp only[X0,N3] at nd;exact⟨λa h=>g.fr a (w.od a<|by simp[h]) λz=>nd.1.2.2 a h a z rfl,λa h=>g.fr a (w.od a<|by simp[h]) λz=>nd.2.2 a (.inr z) a h rfl⟩
def Go.drop(g:Go Z H O Z' H' O')(h:∀ a∈O'',a∈O')(n:O''.Nodup):Go Z H O Z' H' O'':=⟨g.wf.sub h n,g.zz,g.fr,g.zn,λa q=>g.sub a<|h a q,g.dm⟩
def Go.dropL(g:Go Z H O Z' H'<|A++B):Go Z H O Z' H' B:=g.drop (λa h=>by simp[h]) (X0.mp g.wf.nd).2.1
def Go.dropR(g:Go Z H O Z' H'<|A++B):Go Z H O Z' H' A:=g.drop (λa h=>by simp[h]) (X0.mp g.wf.nd).1
def Go.freeze(w:WF Z H O):Go Z H O (λa=>Z a\/a∈O) H []:=
 ⟨⟨List.nodup_nil,λa h=>(nomatch h),λa h=>(nomatch h),λa h=>h.elim (w.zd a)<|w.od a⟩,λa z=>.inl z,λ_ _ _=>rfl,λa z=>z.elim .inl λq=>.inr<|.inl q,λa h=>(nomatch h),λ_ h=>h⟩
def Go.newF(w:WF Z H O)(b:H p=none):Go Z H O (λa=>Z a\/a=p) (upd H p o) O:=by
 have ne:∀ a,H a≠none->a≠p:=λa h e=>h<|e▸b;refine⟨⟨w.nd,λa h z=>z.elim (w.nz a h)<|ne a<|w.od a h,λa h=>?_,λa z=>?_⟩,λa z=>.inl z,λa h _=>je<|ne a h,λa z=>z.elim .inl λe=>.inr<|.inr<|e▸b,λa h=>.inl h,λa h=>?_⟩
 ·rw[je<|ne a<|w.od a h];exact w.od a h
 ·by_cases e:a=p
  ·rw[e,jh];exact λh=>nomatch h
  ·rw[je e];exact w.zd a<|z.resolve_right e
 ·rw[je<|ne a h];exact h
def Go.newO(w:WF Z H O)(b:H p=none):Go Z H O Z (upd H p o) (p::O):=by
 have ne:∀ a,H a≠none->a≠p:=λa h e=>h<|e▸b;refine⟨⟨List.nodup_cons.mpr ⟨λh=>w.od p h b,w.nd⟩,λa h z=>?_,λa h=>?_,λa z=>?_⟩,λa z=>z,λa h _=>je<|ne a h,λa z=>.inl z,λa h=>?_,λa h=>?_⟩
 ·rcases M5.mp h with e | e
  ·exact w.zd a z<|e▸b
  ·exact w.nz a e z
 ·rcases M5.mp h with e | e
  ·rw[e,jh];exact λh=>nomatch h
  ·rw[je<|ne a<|w.od a e];exact w.od a e
 ·rw[je<|ne a<|w.zd a z];exact w.zd a z
 ·grind
 ·rw[je<|ne a h];exact h
def Go.put(w:WF Z H O)(c:p∈O):Go Z H O Z (upd H p o) O:=by
 have b:∀ a,upd H p o a=none->a≠p/\H a=none:=λa h=>by
  by_cases e:a=p
  ·rw[e,jh] at h;cases h
  ·rw[je e] at h;exact⟨e,h⟩
 exact⟨⟨w.nd,w.nz,λa h z=>w.od a h (b a z).2,λa z e=>w.zd a z (b a e).2⟩,λa z=>z,λa h n=>je λe=>n<|e▸c,λa z=>.inl z,λa h=>.inl h,λa h z=>h (b a z).2⟩
noncomputable def jgN:D->Option Bool
 | .bl b=>some b
 | _=>none
@[simp] def blOf_bl(b):jgN (.bl b)=some b:=rfl
def xR(h:jgN d=some b):d=.bl b:=by cases d<;>cases h<;>rfl
noncomputable def vz:D->Option Int
 | .int i=>some i
 | _=>none
@[simp] def jcq(i):vz (.int i)=some i:=rfl
def jK(h:vz d=some n):d=.int n:=by cases d<;>cases h<;>rfl
noncomputable def K3:D->Option (List D)
 | .lst true l=>some l
 | _=>none
@[simp] def Vw(l):K3 (.lst true l)=some l:=rfl
def Y2(h:K3 d=some l):d=.lst true l:=by
 cases d with
 | lst o _=>cases o<;>cases h;rfl
 | _=>cases h
noncomputable def jcv:D->Option (List D)
 | .tup l=>some l
 | _=>none
@[simp] def tupOf_tup(l):jcv (.tup l)=some l:=rfl
noncomputable def jgW:D->Option (List KA×List D)
 | .dK true ks l=>some (ks,l)
 | _=>none
@[simp] def dkOf_dK(ks)(l):jgW (.dK true ks l)=some (ks,l):=rfl
def wZ(h:jgW d=some p):d=.dK true p.1 p.2:=by
 cases d with
 | dK o _ _=>cases o<;>cases h;rfl
 | _=>cases h
noncomputable def ji6:D->Option (List KA×List D)
 | .dK _ ks l=>some (ks,l)
 | _=>none
@[simp] def dkAny_e(o)(ks)(l):ji6 (.dK o ks l)=some (ks,l):=rfl
def jfZ(h:ji6 d=some p):∃ o,d=.dK o p.1 p.2:=by
 cases d with
 | dK o _ _=>cases h;exact⟨o,rfl⟩
 | _=>cases h
noncomputable def jfb:D->Option (List (List KA)×List D)
 | .dT true ks l=>some (ks,l)
 | _=>none
@[simp] def dtOf_dT(ks)(l):jfb (.dT true ks l)=some (ks,l):=rfl
def QN(h:jfb d=some p):d=.dT true p.1 p.2:=by
 cases d with
 | dT o _ _=>cases o<;>cases h;rfl
 | _=>cases h
noncomputable def xk:D->Option (Nat×List Str×List D)
 | .ins true c ns l=>some (c,ns,l)
 | _=>none
@[simp] def insOf_ins(c)(ns)(l):xk (.ins true c ns l)=some (c,ns,l):=rfl
def JS(h:xk d=some (c,ns,l)):d=.ins true c ns l:=by
 cases d with
 | ins o _ _ _=>cases o<;>cases h;rfl
 | _=>cases h
noncomputable def joG:D->Option (Nat×List Str×List D)
 | .ins _ c ns l=>some (c,ns,l)
 | _=>none
@[simp] def inOf_ins(o)(c)(ns)(l):joG (.ins o c ns l)=some (c,ns,l):=rfl
def jic(h:joG d=some (c,ns,l)):∃ o,d=.ins o c ns l:=by
 cases d with
 | ins o _ _ _=>cases h;exact⟨o,rfl⟩
 | _=>cases h
noncomputable def jjN:D->Option (List D)
 | .lst _ l=>some l
 | _=>none
@[simp] def lsOf_lst(o)(l):jjN (.lst o l)=some l:=rfl
def Vc(h:jjN d=some l):∃ o,d=.lst o l:=by
 cases d with
 | lst o _=>cases h;exact⟨o,rfl⟩
 | _=>cases h
def KI(h:jcv d=some l):d=.tup l:=by cases d<;>cases h<;>rfl
noncomputable def jeo:List D->Option D
 | [x]=>some x
 | _=>none
def kq(h:jeo l=some x):l=[x]:=by
 match l with
 | [_]=>cases h;rfl
noncomputable def two1:List D->Option (D×D)
 | [x,y]=>some (x,y)
 | _=>none
def two1_of(h:two1 l=some p):l=[p.1,p.2]:=by
 match l with
 | [_,_]=>cases h;rfl
def ob{α β:Type}{C:Prop}{o}{f:α->Option β}{b}(e:o.bind f=some b)(k:∀ a,o=some a->f a=some b->C):C:=by
 cases o with
 | none=>cases e
 | some a=>exact k a rfl e
def oc{β:Type}{C:Prop}{c}{x}{b:β}(e:(bif c then x else none)=some b)(k:c=true->x=some b->C):C:=by
 cases c with
 | false=>cases e
 | true=>exact k rfl e
noncomputable abbrev Rh:=List<|Option D
def Slots(R:RC)(Z:Zn)(H:Hp):Rh->St->List Addr->Prop
 | [],σ,O=>σ=[]/\O=[]
 | none::ρ,σ,O=>∃ s σ',σ=s::σ'/\Slots R Z H ρ σ' O
 | some d::ρ,σ,O=>∃ v σ' O1 O2,σ=some v::σ'/\O=O1++O2/\Rep R Z H d v O1/\Slots R Z H ρ σ' O2
theorem Slots.frame(c:∀ a,Z a->Z' a)(f:∀ a,Z a->H' a=H a):∀{ρ}{σ}{O},Slots R Z H ρ σ O->(∀ a∈O,H' a=H a)->Slots R Z' H' ρ σ O
 | [],_,_,h,_=>h
 | none::ρ,_,_,h,b=>by
  obtain⟨s,g,e,r⟩:=h;exact⟨s,g,e,Slots.frame c f r b⟩
 | some d::ρ,_,_,h,b=>by
  obtain⟨v,g,j,k,e,rfl,r1,r2⟩:=h;exact⟨v,g,j,k,e,rfl,r1.frame c f λa i=>b a<|List.mem_append_left _ i,Slots.frame c f r2 λa i=>b a<|U4 _ i⟩
inductive SPut (R:RC) (Z:Zn) (H:Hp) (ρ:Rh) (σ:St) (O:W5) (i:Nat):Prop
 | mk:∀(A P B:W5),O=A++P++B->(∀ d,ρ[i]?=some (some d)->∃ v,σ[i]?=some (some v)/\Rep R Z H d v P) ->
  (∀{Z':Zn}{H':Hp}{d':D}{v':V}{P':W5},Rep R Z' H' d' v' P'->(∀ a,Z a->Z' a)->(∀ a,Z a->H' a=H a)->(∀ a∈A,H' a=H a)->(∀ a∈B,H' a=H a)->Slots R Z' H' (ρ.set i<|some d') (σ.set i<|some v') (A++P'++B)) ->
  Slots R Z H (ρ.set i none) σ (A++B)->SPut R Z H ρ σ O i
theorem Slots.put:∀{ρ}{σ}{O}{i},Slots R Z H ρ σ O->i<ρ.length->SPut R Z H ρ σ O i
 | [],_,_,_,_,hi=>absurd hi<|Nat.not_lt_zero _
 | none::ρ,_,_,0,h,hi=>by
  obtain⟨s,b,rfl,r⟩:=h;refine⟨[],[],_,rfl,λd e=>by simp at e,λq f g k j=>⟨_,b,_,_,rfl,rfl,q,Slots.frame f g r j⟩,⟨s,b,rfl,r⟩⟩
 | some c::ρ,_,_,0,h,hi=>by
  obtain⟨v,b,l,o,rfl,rfl,r1,r2⟩:=h;refine⟨[],l,o,rfl,λd e=>?_,λq f g k j=>⟨_,b,_,_,rfl,rfl,q,Slots.frame f g r2 j⟩,⟨_,b,rfl,r2⟩⟩
  ·have e:c=d:=by simpa using e
   subst e;exact⟨v,rfl,r1⟩
 | none::ρ,_,_,i+1,h,hi=>by
  obtain⟨s,b,rfl,r⟩:=h;obtain⟨A,P,B,rfl,m,k2,k3⟩:=Slots.put r ⇑hi;refine⟨A,P,B,rfl,λd e=>m d ⇑e,λq f g k j=>⟨s,_,rfl,k2 q f g k j⟩,⟨s,b,rfl,k3⟩⟩
 | some c::ρ,_,_,i+1,h,hi=>by
  obtain⟨v,b,l,o,rfl,rfl,r1,r2⟩:=h;obtain⟨A,P,B,rfl,m,k2,k3⟩:=Slots.put r2 ⇑hi;refine⟨l++A,P,B,by simp,λd e=>m d ⇑e,λ{t u w x p} q f g k j=>⟨v,_,l,A++p++B,rfl,by simp,r1.frame f g λa n=>k a<|List.mem_append_left _ n,k2 q f g (λa n=>k a<|U4 _ n) j⟩,⟨v,b,l,A++B,rfl,by simp,r1,k3⟩⟩
theorem yE:∀{l:List α}{i}{x},l[i]?=some x->l.set i x=l
 | [],_,_,h=>by simp at h
 | y::l,0,x,h=>by simp at h;subst h;rfl
 | y::l,i+1,x,h=>by rw[List.set_cons_succ,yE ⇑h]
abbrev FE:=Rh->Option (D×Rh)
abbrev FT':=Rh->Option (Bool×Rh)
abbrev FA:=Rh->Option (List D×Rh)
def DE(R:RC)(te:TE)(f:FE):Prop:=∀{σ}{ρ ρ'}{Z}{H}{O}{d},WF Z H O->Slots R Z H ρ σ O->f ρ=some (d,ρ') ->
 ∀{Q},(∀{v}{Z'}{H'}{P O'},Go Z H O Z' H' (P++O')->Rep R Z' H' d v P->Slots R Z' H' ρ' σ O'->Q v H')->te σ H Q
def DT(R:RC)(tt:TT)(f:FT'):Prop:=∀{σ}{ρ ρ'}{Z}{H}{O}{b},WF Z H O->Slots R Z H ρ σ O->f ρ=some (b,ρ') ->
 ∀{Q:Bool->Hp->Prop},(∀{Z'}{H'}{O'},Go Z H O Z' H' O'->Slots R Z' H' ρ' σ O'->Q b H')->tt σ H Q
def DA(R:RC)(ta:TA)(f:FA):Prop:=∀{σ}{ρ ρ'}{Z}{H}{O}{ds},WF Z H O->Slots R Z H ρ σ O->f ρ=some (ds,ρ') ->
 ∀{Q:List V->Hp->Prop},(∀{vs}{Z'}{H'}{P O'},Go Z H O Z' H' (P++O')->Reps R Z' H' ds vs P->Slots R Z' H' ρ' σ O'->Q vs H')->ta σ H Q
def DO(R:RC)(r:R2)(g:D->D->Option D):Prop:=∀{Z}{H}{x y d}{v u}{O1 O2},WF Z H (O1++O2)->Rep R Z H x v O1->Rep R Z H y u O2->g x y=some d ->
 ∀{Q},(∀{w}{Z'}{H'}{P},Go Z H (O1++O2) Z' H' P->Rep R Z' H' d w P->Q w H')->r v u H Q
def DC(R:RC)(r:List V->Hp->VK->Prop)(g:List D->Option D):Prop:=∀{Z}{H}{xs}{d}{vs}{O},WF Z H O->Reps R Z H xs vs O->g xs=some d ->
 ∀{Q},(∀{w}{Z'}{H'}{P},Go Z H O Z' H' P->Rep R Z' H' d w P->Q w H')->r vs H Q
inductive Out where
 | nx (ρ:Rh) | rt (d:D) (ρ:Rh) | bk (ρ:Rh) | ct (ρ:Rh)
abbrev FS:=Rh->Option Out
noncomputable def Out.thn:Out->FS->Option Out
 | .nx ρ,g=>g ρ
 | .rt d ρ,_=>some<|.rt d ρ
 | .bk ρ,_=>some<|.bk ρ
 | .ct ρ,_=>some<|.ct ρ
@[simp] def thn_nx(ρ)(g):(Out.nx ρ).thn g=g ρ:=rfl
@[simp] def thn_rt(d)(ρ)(g):(Out.rt d ρ).thn g=some (.rt d ρ):=rfl
@[simp] def thn_bk(ρ)(g):(Out.bk ρ).thn g=some (.bk ρ):=rfl
@[simp] def thn_ct(ρ)(g):(Out.ct ρ).thn g=some (.ct ρ):=rfl
noncomputable def Out.val:Out->Option D
 | .rt d _=>some d
 | .nx _=>some .non
 | _=>none
@[simp] def val_rt(d)(ρ):(Out.rt d ρ).val=some d:=rfl
@[simp] def val_nx(ρ):(Out.nx ρ).val=some .non:=rfl
noncomputable def Out.loop:Out->FS->Option Out
 | .nx ρ,g=>g ρ
 | .ct ρ,g=>g ρ
 | .bk ρ,_=>some<|.nx ρ
 | .rt d ρ,_=>some<|.rt d ρ
@[simp] def wt(ρ)(g):(Out.nx ρ).loop g=g ρ:=rfl
@[simp] def loop_ct(ρ)(g):(Out.ct ρ).loop g=g ρ:=rfl
@[simp] def loop_bk(ρ)(g):(Out.bk ρ).loop g=some (.nx ρ):=rfl
@[simp] def loop_rt(d)(ρ)(g):(Out.rt d ρ).loop g=some (.rt d ρ):=rfl
abbrev PF:=Rh->Option D
noncomputable def pV(i:Nat):PF:=λρ=>match ρ[i]? with
 | some (some d)=>some d
 | _=>none
def Ys(h:pV i ρ=some d):ρ[i]?=some (some d):=by
 unfold pV at h;split at h
 ·lia
 ·cases h
def Keep(pm:List Nat)(σ σ':St):Prop:=∀ i∈pm,σ'[i]?=σ[i]?
def OutOk(R:RC)(pm:List Nat)(Z:Zn)(H:Hp)(O:W5)(σ:St)(D':Ends):Out->Prop
 | .nx ρ'=>∀{σ'}{Z'}{H'}{O'},Go Z H O Z' H' O'->Slots R Z' H' ρ' σ' O'->Keep pm σ σ'->D'.nx σ' H'
 | .bk ρ'=>∀{σ'}{Z'}{H'}{O'},Go Z H O Z' H' O'->Slots R Z' H' ρ' σ' O'->Keep pm σ σ'->D'.bk σ' H'
 | .ct ρ'=>∀{σ'}{Z'}{H'}{O'},Go Z H O Z' H' O'->Slots R Z' H' ρ' σ' O'->Keep pm σ σ'->D'.ct σ' H'
 | .rt d ρ'=>∀{v}{σ'}{Z'}{H'}{P O'},Go Z H O Z' H' (P++O')->Rep R Z' H' d v P->Slots R Z' H' ρ' σ' O'->Keep pm σ σ'->D'.rt v H'
def DS(R:RC)(pm:List Nat)(ts:TS)(f:FS):Prop:=∀{σ}{ρ}{Z}{H}{O}{o},WF Z H O->Slots R Z H ρ σ O->f ρ=some o->∀{D'},OutOk R pm Z H O σ D' o->ts D' σ H
def DG(R:RC)(pm:List Nat)(tg:TG)(f:D->Rh->Option Rh):Prop:=∀{σ}{ρ ρ'}{Z}{H}{O P}{d}{v},WF Z H (P++O)->Rep R Z H d v P->Slots R Z H ρ σ O->f d ρ=some ρ' ->
 ∀{Q:St->Hp->Prop},(∀{σ'}{Z'}{H'}{O'},Go Z H (P++O) Z' H' O'->Slots R Z' H' ρ' σ' O'->Keep pm σ σ'->Q σ' H')->tg v σ H Q
def Keep.refl(pm)(σ):Keep pm σ σ:=λ_ _=>rfl
def Keep.trans(h:Keep pm σ σ')(k:Keep pm σ' σ''):Keep pm σ σ'':=λi hi=>(k i hi).trans (h i hi)
def Keep.set(h:i∉pm):Keep pm σ (σ.set i x):=λj a=>by
 have ne:i≠j:=λe=>h ∅;rw[List.getElem?_set,if_neg ne]
@[simp] def dMv(i:Nat)(ρ:Rh):Option (D×Rh):=(pV i ρ).bind λd=>some (d,ρ.set i none)
def joV:DE R (jU i) (dMv i):=by
 intro σ ρ m Z H O d w h e Q k;refine ob e λc f e=>?_;have f:=Ys f;obtain⟨A,P,B,rfl,j,k2,k3⟩:=h.put (L9.mp f).1;obtain⟨v,l,r⟩:=j c f;cases e;refine⟨v,l,k ((Go.refl w).drop (λa q=>?_) ?_) r k3⟩
 ·simp at q ⊢;rcases q with q | q | q<;>simp[q]
 ·have nd:=w.nd;simp only[X0,N3] at nd ⊢;exact⟨nd.1.2.1,⟨nd.1.1,nd.2.1,λa g b hb=>nd.2.2 a (.inl g) b hb⟩,λa g b hb e=>hb.elim (λq=>nd.1.2.2 b q a g e.symm) λq=>nd.2.2 a (.inr g) b q e⟩
def jcw(b:Go Z H O Z' H'<|P1++O1)(g2:Go Z' H' O1 Z'' H''<|P2++O2):Go Z H O Z'' H'' (P1++(P2++O2))/\(∀ a,Z' a->Z'' a)/\(∀ a,Z' a->H'' a=H' a)/\∀ a∈P1,H'' a=H' a:=by
 have w:WF Z' H' (P1++O1++[]):=by simpa using b.wf
 refine⟨b.trans<|by simpa using(g2.frame w),g2.zz,(g2.zH b.wf.right),(Go.keepA w g2).1⟩
@[simp] def dOp(g:D->D->Option D)(fa:FE)(fb:FE)(ρ:Rh):Option (D×Rh):=(fa ρ).bind λr=>(fb r.2).bind λt=>(g r.1 t.1).bind λz=>some (z,t.2)
def jfc(n:DO R r g)(o:DE R ta fa)(hb:DE R tb fb):DE R (tOp r ta tb) (dOp g fa fb):=by
 intro σ ρ B Z H O d w h e Q k;refine ob e λp q e=>?_;obtain⟨x,C⟩:=p;refine ob e λp e2 e=>?_;obtain⟨y,D⟩:=p;refine ob e λz e3 e=>?_;cases e;refine o w h q λ{v E F b G} c r1 s1=>(hb c.wf.right s1 e2 λ{u f i j l} g2 r2 s2=>?_);obtain⟨g3,zz,s,t⟩:=jcw c g2;have a:Go Z H O f i (b++j++l):=by simpa using g3
 refine n a.wf.left (r1.frame zz s t) r2 e3 λ{I Z3 J K} g4 A=>?_;have m:WF f i ([]++(b++j)++l):=by simpa using a.wf
 refine k (a.trans<|by simpa using(g4.frame m)) A<|s2.frame g4.zz (g4.zH a.wf.left) (Go.keepA m g4).2
@[simp] def Je(ρ:Rh):Option (List D×Rh):=some ([],ρ)
@[simp] def jq(fa:FE)(fr:FA)(ρ:Rh):Option (List D×Rh):=(fa ρ).bind λx=>(fr x.2).bind λy=>some (x.1::y.1,y.2)
def jmI:DA R JC Je:=by
 intro σ ρ a Z H O d w h e Q k;cases e;exact k (Go.refl w) Reps.empty h
def ji3(b:DE R ta fa)(c:DA R tr fr):DA R (jI ta tr) (jq fa fr):=by
 intro σ ρ j Z H O d w h e Q k;refine ob e λp f e=>?_;obtain⟨x,l⟩:=p;refine ob e λp e2 e=>?_;obtain⟨m,n⟩:=p;cases e;refine b w h f λ{v o q r s} a r1 s1=>(c a.wf.right s1 e2 λ{t u y z A} g2 r2 s2=>?_);obtain⟨g3,zz,g,i⟩:=jcw a g2;exact k ⇑g3 (.cons (r1.frame zz g i) r2) s2
noncomputable def dCB(g:List D->Option D)(fa:FA):FE:=λρ=>(fa ρ).bind λp5=>(g p5.1).bind λz=>some (z,p5.2)
def jlG(c:DC R r g)(f:DA R ta fa):DE R (tCB r ta) (dCB g fa):=by
 intro σ ρ q Z H O d w h e Q k;refine ob e λp i e=>?_;obtain⟨x,s⟩:=p;refine ob e λz e3 e=>?_;cases e;refine f w h i λ{v j l m n} a r1 s1=>(c a.wf.left r1 e3 λ{t Z3 u y} g4 o=>?_);have b:WF j l ([]++m++n):=by simpa using a.wf
 refine k (a.trans<|by simpa using(g4.frame b)) o<|s1.frame g4.zz (g4.zH a.wf.left) (Go.keepA b g4).2
def K1(fa:FA):FE:=dCB (λxs=>bif decide (xs.length<=1000) then some (.tup xs) else none) fa
def jhi(h:n<=1000):n<=sizeLine:=Nat.le_of_lt<|jb8 h
def Rep.tupNew(w:WF Z H O)(b:H p=none)(r:Reps R Z H l vs O):Rep R (λa=>Z a\/a=p) (upd H p<|.tup vs) (.tup l) (.ref p) O:=by
 have ne:∀ a,H a≠none->a≠p:=λa h e=>h<|e▸b;exact⟨p,vs,rfl,.inl ⟨.inr rfl,.inl jh⟩,r.frame (λa z=>.inl z) (λa z=>je<|ne a<|w.zd a z) λa h=>je<|ne a<|w.od a h⟩
def Rep.lstNew(w:WF Z H O)(b:H p=none)(r:Reps R Z H l vs O):Rep R Z (upd H p<|.lst vs) (.lst true l) (.ref p) (p::O):=by
 have ne:∀ a,H a≠none->a≠p:=λa h e=>h<|e▸b;exact⟨p,vs,O,rfl,r.frame (λa z=>z) (λa z=>je<|ne a<|w.zd a z) λa h=>je<|ne a<|w.od a h,jh,rfl⟩
def jmZ(c:DA R ta fa):DE R (zi ta) (K1 fa):=by
 refine jlG ?_ c;intro Z H f d vs O w r e Q k;dsimp only at e;by_cases a:f.length<=1000
 ·rw[X4 a,cond_true] at e;cases e;exact⟨by rw[r.length];exact jhi a,λp b=>k (Go.newF w b)<|Rep.tupNew w b r⟩
 ·lia
noncomputable def jbj(fa:FE):FT':=λρ=>match fa ρ with
 | some (.bl b,ρ1)=>some (b,ρ1)
 | _=>none
def Rep.bl_of(r:Rep R Z H (.bl b) v O):v=.bl b/\O=[]:=by rw[Rep] at r;exact r
def jjk(a:DE R ta fa):DT R (Vg ta) (jbj fa):=by
 intro σ ρ g Z H O b w h e Q k;unfold jbj at e;split at e
 ·rename_i c i d;cases e;refine a w h d λ{v j l m n} f r1 s1=>?_;obtain⟨rfl,rfl⟩:=r1.bl_of;exact⟨b,rfl,k f s1⟩
 ·cases e
noncomputable def jnP(fa fb:FT'):FT':=λρ=>(fa ρ).bind λp8=>bif p8.1 then fb p8.2 else some (false,p8.2)
noncomputable def dOr(fa fb:FT'):FT':=λρ=>(fa ρ).bind λp9=>bif p9.1 then some (true,p9.2) else fb p9.2
def jkE(d:DT R ta fa)(hb:DT R tb fb):DT R (jnk ta tb) (jnP fa fb):=by
 intro σ ρ g Z H O b w h e Q k;refine ob e λp f e=>?_;obtain⟨c,i⟩:=p;refine d w h f λ{j l m} a s1=>?_;cases c with
 | true=>exact jet<|hb a.wf s1 e λ{n o q} g2 s2=>k (a.trans g2) s2
 | false=>cases e;exact jgh<|k a s1
def jo6(d:DT R ta fa)(hb:DT R tb fb):DT R (tOr ta tb) (dOr fa fb):=by
 intro σ ρ g Z H O b w h e Q k;refine ob e λp f e=>?_;obtain⟨c,i⟩:=p;refine d w h f λ{j l m} a s1=>?_;cases c with
 | true=>cases e;exact jet<|k a s1
 | false=>exact jgh<|hb a.wf s1 e λ{n o q} g2 s2=>k (a.trans g2) s2
def Rep.bl_mk:Rep R Z H (.bl b) (.bl b) []:=by rw[Rep];exact⟨rfl,rfl⟩
def OutOk.pre(g:Go Z H O Z1 H1 O1)(kp:Keep pm σ σ1)(k:OutOk R pm Z H O σ D' o):OutOk R pm Z1 H1 O1 σ1 D' o:=by
 cases o with
 | nx ρ=>exact λg2 s2 k2=>k (g.trans g2) s2<|kp.trans k2
 | bk ρ=>exact λg2 s2 k2=>k (g.trans g2) s2<|kp.trans k2
 | ct ρ=>exact λg2 s2 k2=>k (g.trans g2) s2<|kp.trans k2
 | rt d ρ=>exact λg2 r2 s2 k2=>k (g.trans g2) r2 s2<|kp.trans k2
@[simp] def jN(ρ:Rh):Option Out:=some<|.nx ρ
noncomputable def jf(f g:FS):FS:=λρ=>match f ρ with
 | some (.nx ρ1)=>g ρ1
 | o=>o
@[simp] def jhj:jf f g ρ=(f ρ).bind λo=>o.thn g:=by
 unfold jf;cases h:f ρ with
 | none=>rfl
 | some o=>cases o<;>rfl
def jhN:DS R pm jhP jN:=by
 intro σ ρ Z H O o w h e a k;cases e;exact k (Go.refl w) h<|Keep.refl _ _
def jkK(c:DS R pm t f)(i:DS R pm u g):DS R pm (jov t u) (jf f g):=by
 intro σ ρ Z H O o w h e n k;rw[jhj] at e;refine ob e λj l e=>c w h l ?_;cases j with
 | nx a=>exact λ{p q r s} b s1 m=>i b.wf s1 e<|k.pre b m
 | bk a=>cases e;exact k
 | ct a=>cases e;exact k
 | rt d a=>cases e;exact k
@[simp] def sBreak(ρ:Rh):Option Out:=some<|.bk ρ
@[simp] def sCont(ρ:Rh):Option Out:=some<|.ct ρ
@[simp] def KO(fe:FE)(ρ:Rh):Option Out:=(fe ρ).bind λx=>some<|.nx x.2
def jkf(a:DE R ta fa):DS R pm (JV ta) (KO fa):=by
 intro σ ρ Z H O o w h e d k;refine ob e λp b e=>?_;obtain⟨x,f⟩:=p;cases e;exact a w h b λc r1 s1=>k c.dropL s1<|Keep.refl _ _
@[simp] def yb(fe:FE)(ρ:Rh):Option Out:=(fe ρ).bind λx=>some<|.rt x.1 x.2
def jmL(a:DE R ta fa):DS R pm (jpv ta) (yb fa):=by
 intro σ ρ Z H O o w h e d k;refine ob e λp b e=>?_;obtain⟨x,f⟩:=p;cases e;exact a w h b λc r1 s1=>k c r1 s1<|Keep.refl _ _
@[simp] def sRetN(ρ:Rh):Option Out:=some<|.rt .non ρ
@[simp] def sIf(ft:FT')(f:FS)(g:FS)(ρ:Rh):Option Out:=(ft ρ).bind λx=>bif x.1 then f x.2 else g x.2
def jmk(b:DT R tt ft)(d:DS R pm t f)(i:DS R pm u g):DS R pm (jnJ tt t u) (sIf ft f g):=by
 intro σ ρ Z H O o w h e l k;refine ob e λp j e=>?_;obtain⟨c,m⟩:=p;refine b w h j λ{n q r} a s1=>?_;cases c with
 | true=>exact jet<|d a.wf s1 e<|k.pre a<|Keep.refl _ _
 | false=>exact jgh<|i a.wf s1 e<|k.pre a<|Keep.refl _ _
@[simp] def sNever(ρ:Rh):Option Out:=none
@[simp] def jc(pm:List Nat)(i:Nat)(d:D)(ρ:Rh):Option Rh:=bif decide (i<ρ.length)&&!decide (i∈pm) then some (ρ.set i<|some d) else none
def Vx:DG R pm (vX i) (jc pm i):=by
 intro σ ρ g Z H O P d v w r h e Q k;unfold jc at e;by_cases hi:i<ρ.length
 ·by_cases f:i∈pm
  ·lia
  ·rw[X4 hi,X5 f] at e;cases e;obtain⟨A,j,B,rfl,l,k2,k3⟩:=h.put hi;refine k ((Go.refl w).drop (λa q=>?_) ?_) (k2 r (λ_ z=>z) (λ_ _=>rfl) (λ_ _=>rfl)<|λ_ _=>rfl)<|Keep.set f
   ·simp at q ⊢;rcases q with q | q | q<;>simp[q]
   ·have nd:=w.nd;simp only[X0,N3] at nd ⊢;exact⟨⟨nd.2.1.1.1,nd.1,λa c b hb e=>nd.2.2 b hb a (.inl<|.inl c) e.symm⟩,nd.2.1.2.1,λa c b hb e=>c.elim (λq=>nd.2.1.2.2 a (.inl q) b hb e) λq=>nd.2.2 a q b (.inr hb) e⟩
 ·lia
@[simp] def jt(fe:FE)(G:D->Rh->Option Rh)(ρ:Rh):Option Out:=(fe ρ).bind λx=>(G x.1 x.2).bind λr=>some<|.nx r
def uq(b:DE R ta fa)(c:DG R pm tg g):DS R pm (jhh ta tg) (jt fa g):=by
 intro σ ρ Z H O o w h e f k;refine ob e λp d e=>?_;obtain⟨x,i⟩:=p;refine ob e λj e2 e=>?_;cases e;exact b w h d λa r1 s1=>c a.wf r1 s1 e2 λg2 s2 k2=>k (Go.trans a g2) s2 k2
noncomputable def gN:List D->Rh->Option Rh:=λds ρ=>match ds with
 | []=>some ρ
 | _=>none
noncomputable def gC(g:D->Rh->Option Rh)(gs:List D->Rh->Option Rh):List D->Rh->Option Rh:=λds ρ=>match ds with
 | []=>none
 | d::r=>(g d ρ).bind λρ1=>gs r ρ1
noncomputable def gT(n:Nat)(gs:List D->Rh->Option Rh):D->Rh->Option Rh:=λd ρ=>match d with
 | .tup l=>bif decide (l.length=n) then gs l ρ else none
 | _=>none
abbrev PTf:=Rh->Option Bool
abbrev PAf:=Rh->Option (List D)
mutual
theorem Rep.dom:∀{d:D}{v:V}{O:W5},Rep R Z H d v O->∀ a∈O,H a≠none
 | .non,_,_,h,a,ha=>by rw[Rep] at h;rw[h.2] at ha;cases ha
 | .bl _,_,_,h,a,ha=>by rw[Rep] at h;rw[h.2] at ha;cases ha
 | .int _,_,_,h,a,ha=>by rw[Rep] at h;rw[h.2] at ha;cases ha
 | .str _,_,_,h,a,ha=>by rw[Rep] at h;rw[h.2] at ha;cases ha
 | .dead,_,_,h,a,ha=>by rw[Rep] at h;rw[h] at ha;cases ha
 | .tok _,_,_,h,a,ha=>by rw[Rep] at h;rw[h.2] at ha;cases ha
 | .kt _,_,_,h,a,ha=>by rw[Rep] at h;obtain⟨_,_,_,_,h⟩:=h;rw[h] at ha;cases ha
 | .exc _ _,_,_,h,a,ha=>by rw[Rep] at h;obtain⟨_,_,_,_,_,_,_,h⟩:=h;rw[h] at ha;cases ha
 | .tup l,_,_,h,a,ha=>by
  rw[Rep] at h;obtain⟨b,vs,e,t,r⟩:=h;exact Reps.dom r a ha
 | .lst o l,_,_,h,a,ha=>by
  rw[Rep] at h;obtain⟨b,vs,O',e,r,h⟩:=h;cases o with
  | true=>
   obtain⟨h1,rfl⟩:=h;rcases M5.mp ha with e | e
   ·rw[e,h1];exact λz=>(nomatch z)
   ·exact Reps.dom r a e
  | false=>rw[h.2.2] at ha;cases ha
 | .dK o ks l,_,_,h,a,ha=>by
  rw[Rep] at h;obtain⟨b,vs,O',e,r,hl,hd,h⟩:=h;cases o with
  | true=>
   have h:=(show _=_ from h);subst h;rcases M5.mp ha with e | e
   ·rw[e,hd];exact λz=>(nomatch z)
   ·exact Reps.dom r a e
  | false=>rw[h.2.2] at ha;cases ha
 | .dT o ks l,_,_,h,a,ha=>by
  rw[Rep] at h;obtain⟨b,vs,O',e,r,hl,hd,h⟩:=h;cases o with
  | true=>
   have h:=(show _=_ from h);subst h;rcases M5.mp ha with e | e
   ·rw[e,hd];exact λz=>(nomatch z)
   ·exact Reps.dom r a e
  | false=>rw[h.2.2] at ha;cases ha
 | .ins o c ns l,_,_,h,a,ha=>by
  rw[Rep] at h;obtain⟨b,dx,vs,O',e,r,hl,hd,h⟩:=h;cases o with
  | true=>
   have h:=(show _=_ from h);subst h;rcases M5.mp ha with e | e
   ·rw[e,hd];exact λz=>(nomatch z)
   ·exact Reps.dom r a e
  | false=>rw[h.2.2] at ha;cases ha
theorem Reps.dom:∀{l:List D}{vs:List V}{O:W5},Reps R Z H l vs O->∀ a∈O,H a≠none
 | [],_,_,h,a,ha=>by rw[Reps] at h;rw[h.2] at ha;cases ha
 | d::l,_,_,h,a,ha=>by
  rw[Reps] at h;obtain⟨v,vs,O1,O2,e,rfl,r1,r2⟩:=h;rcases N3.mp ha with q | q
  ·exact Rep.dom r1 a q
  ·exact Reps.dom r2 a q
end
theorem Slots.dom:∀{ρ}{σ}{O},Slots R Z H ρ σ O->∀ a∈O,H a≠none
 | [],_,_,h,a,b=>by rw[h.2] at b;cases b
 | none::ρ,_,_,h,a,b=>by obtain⟨s,c,rfl,r⟩:=h;exact Slots.dom r a b
 | some d::ρ,_,_,h,a,b=>by
  obtain⟨v,c,e,f,rfl,rfl,r1,r2⟩:=h;rcases N3.mp b with q | q
  ·exact r1.dom a q
  ·exact Slots.dom r2 a q
abbrev Zd(Z:Zn)(H:Hp):Prop:=∀ a,Z a->H a≠none
def wf0(z:Zd Z H):WF Z H []:=⟨List.nodup_nil,λa h=>(nomatch h),λa h=>(nomatch h),z⟩
def Go.id(z:Zd Z H):Go Z H [] Z H []:=Go.refl<|wf0 z
def Go.same(g:Go Z H [] Z' H' P):∀ a,H a≠none->H' a=H a:=λa h=>g.fr a h<|λz=>(nomatch z)
def Go.rep(z:Zd Z H)(g:Go Z H [] Z' H' P)(r:Rep R Z H d v O):Rep R Z' H' d v O:=r.frame g.zz (λa h=>g.same a<|z a h) λa h=>g.same a<|r.dom a h
def Go.reps(z:Zd Z H)(g:Go Z H [] Z' H' P)(r:Reps R Z H l vs O):Reps R Z' H' l vs O:=r.frame g.zz (λa h=>g.same a<|z a h) λa h=>g.same a<|r.dom a h
def Go.slots(z:Zd Z H)(g:Go Z H [] Z' H' P)(r:Slots R Z H ρ σ O):Slots R Z' H' ρ σ O:=r.frame g.zz (λa h=>g.same a<|z a h) λa h=>g.same a<|r.dom a h
def Go.pair(g:Go Z H [] Z' H' P)(k:Go Z' H' [] Z'' H'' P2):Go Z H [] Z'' H'' (P++P2):=by
 have w:WF Z' H' (P++[]++[]):=by simpa using g.wf
 exact g.trans (by simpa using(k.frame w))
def Go.to0(g:Go Z H O Z' H' P):Go Z H O Z' H' []:=g.drop (λa h=>(nomatch h)) List.nodup_nil
def Go.widen(w:WF Z H O)(g:Go Z H [] Z' H' P):Go Z H O Z' H' (P++O):=by
 simpa using(g.frame (A:=[]) ⇑w)
def PP(R:RC)(te:TE)(p:PF):Prop:=∀{σ}{ρ}{Z}{H}{O}{d},Zd Z H->Slots R Z H ρ σ O->p ρ=some d ->
 ∀{Q},(∀{v}{Z'}{H'}{P},Go Z H [] Z' H' P->Rep R Z' H' d v P->Q v H')->te σ H Q
def PB(R:RC)(te:TE)(p:PF):Prop:=∀{σ}{ρ}{Z}{H}{O}{d},Zd Z H->Slots R Z H ρ σ O->p ρ=some d ->
 ∀{Q},(∀{v}{Z'}{H'}{P},Go Z H [] Z' H' []->Rep R Z' H' d v P->Q v H')->te σ H Q
def PPs(R:RC)(ta:TA)(p:PAf):Prop:=∀{σ}{ρ}{Z}{H}{O}{ds},Zd Z H->Slots R Z H ρ σ O->p ρ=some ds ->
 ∀{Q:List V->Hp->Prop},(∀{vs}{Z'}{H'}{P},Go Z H [] Z' H' P->Reps R Z' H' ds vs P->Q vs H')->ta σ H Q
def PBs(R:RC)(ta:TA)(p:PAf):Prop:=∀{σ}{ρ}{Z}{H}{O}{ds},Zd Z H->Slots R Z H ρ σ O->p ρ=some ds ->
 ∀{Q:List V->Hp->Prop},(∀{vs}{Z'}{H'}{P},Go Z H [] Z' H' []->Reps R Z' H' ds vs P->Q vs H')->ta σ H Q
def PTt(R:RC)(tt:TT)(p:PTf):Prop:=∀{σ}{ρ}{Z}{H}{O}{b},Zd Z H->Slots R Z H ρ σ O->p ρ=some b ->
 ∀{Q:Bool->Hp->Prop},(∀{Z'}{H'},Go Z H [] Z' H' []->Q b H')->tt σ H Q
def PP.b(h:PP R te p):PB R te p:=λz s e _ k=>h z s e λg r=>k g.to0 r
def PPs.b(h:PPs R te p):PBs R te p:=λz s e _ k=>h z s e λg r=>k g.to0 r
@[simp] def pF(pa:PF)(ρ:Rh):Option D:=(pa ρ).bind λd=>bif frz d then some d else none
def PB.f(h:PB R te p):PP R te (pF p):=by
 intro σ ρ Z H O d z s e Q k;refine ob e λc a e=>oc e λb e=>?_;cases e;exact h z s a λg r=>by
  cases r.nil b;exact k g r
@[simp] def dP(pa:PF)(ρ:Rh):Option (D×Rh):=(pa ρ).bind λd=>some (d,ρ)
@[simp] def dPT(q:PTf)(ρ:Rh):Option (Bool×Rh):=(q ρ).bind λd=>some (d,ρ)
theorem PP.d(h:PP R te p):DE R te (dP p):=by
 intro σ ρ b Z H O d w s e Q k;refine ob e λc a e=>?_;cases e;exact h w.zd s a λg r=>k (g.widen w) r<|g.slots w.zd s
theorem PTt.d(h:PTt R te p):DT R te (dPT p):=by
 intro σ ρ b Z H O d w s e Q k;refine ob e λc a e=>?_;cases e;exact h w.zd s a λg=>k ⇑(g.widen w) (g.slots w.zd s)
@[simp] def pC(d:D)(ρ:Rh):Option D:=some d
abbrev pI(i:Int):PF:=pC<|.int i
abbrev pS(l:List Nat):PF:=pC<|.str l
def jgI:PB R (jU i) (pV i):=by
 intro σ ρ Z H O d z s e Q k;unfold pV at e;split at e
 ·rename_i c a;cases e;obtain⟨A,P,B,rfl,b,_⟩:=s.put (L9.mp a).1;obtain⟨v,f,r⟩:=b d a;exact⟨v,f,k (Go.id z) r⟩
 ·cases e
def jny(a:∀ Z H,Rep R Z H d v []):PP R (tC v) (pC d):=by
 intro σ ρ Z H O b z s e Q k;cases e;exact k (Go.id z)<|a Z H
def Rep.int_mk:Rep R Z H (.int i) (.int i) []:=by rw[Rep];exact⟨rfl,rfl⟩
def Rep.str_mk:Rep R Z H (.str s) (.str<|S s) []:=by rw[Rep];exact⟨rfl,rfl⟩
def Rep.non_mk:Rep R Z H .non .non []:=by rw[Rep];exact⟨rfl,rfl⟩
def Rep.int_of(r:Rep R Z H (.int i) v O):v=.int i/\O=[]:=by rw[Rep] at r;exact r
def Rep.str_of(r:Rep R Z H (.str s) v O):v=.str (S s)/\O=[]:=by rw[Rep] at r;exact r
def Rep.non_of(r:Rep R Z H .non v O):v=.non/\O=[]:=by rw[Rep] at r;exact r
def BO(R:RC)(r:R2)(g:D->D->Option D):Prop:=∀{Z}{H}{x y d}{v u}{O1 O2},Zd Z H->Rep R Z H x v O1->Rep R Z H y u O2->g x y=some d ->
 ∀{Q},(∀{w}{Z'}{H'}{P},Go Z H [] Z' H' P->Rep R Z' H' d w P->Q w H')->r v u H Q
def BO'(R:RC)(r:R2)(g:D->D->Option D):Prop:=∀{Z}{H}{x y d}{v u}{O1 O2},Zd Z H->Rep R Z H x v O1->Rep R Z H y u O2->g x y=some d ->
 ∀{Q},(∀{w}{P},Rep R Z H d w P->Q w H)->r v u H Q
def BU(R:RC)(r:V->Hp->VK->Prop)(g:D->Option D):Prop:=∀{Z}{H}{x d}{v}{O},Zd Z H->Rep R Z H x v O->g x=some d ->
 ∀{Q},(∀{w}{Z'}{H'}{P},Go Z H [] Z' H' P->Rep R Z' H' d w P->Q w H')->r v H Q
def BC(R:RC)(r:List V->Hp->VK->Prop)(g:List D->Option D):Prop:=∀{Z}{H}{xs}{d}{vs}{O},Zd Z H->Reps R Z H xs vs O->g xs=some d ->
 ∀{Q},(∀{w}{Z'}{H'}{P},Go Z H [] Z' H' P->Rep R Z' H' d w P->Q w H')->r vs H Q
@[simp] def p2(G:D->D->Option D)(pa:PF)(pb:PF)(ρ:Rh):Option D:=(pa ρ).bind λx=>(pb ρ).bind λy=>G x y
@[simp] def p1(G:D->Option D)(pa:PF)(ρ:Rh):Option D:=(pa ρ).bind G
def Qe(b:BO R r g)(c:PB R ta pa)(hb:PB R tb pb):PP R (tOp r ta tb) (p2 g pa pb):=by
 intro σ ρ Z H O d z s e Q k;exact ob e λx f e=>ob e λy e2 e=>(c z s f λ{v i j l} a r1=>(hb a.wf.zd (a.slots z s) e2 λ{u m n o} g2 r2=>(b g2.wf.zd (g2.rep a.wf.zd r1) r2 e λg3 h=>k ((a.pair g2).pair g3) h)))
def joI(b:BO' R r g)(c:PB R ta pa)(hb:PB R tb pb):PB R (tOp r ta tb) (p2 g pa pb):=by
 intro σ ρ Z H O d z s e Q k;exact ob e λx f e=>ob e λy e2 e=>(c z s f λ{v h i j} a r1=>(hb a.wf.zd (a.slots z s) e2 λ{u l m n} g2 r2=>(b g2.wf.zd (g2.rep a.wf.zd r1) r2 e<|k<|a.pair g2)))
def jow(b:BU R r g)(c:PB R ta pa):PP R (tUn r ta) (p1 g pa):=by
 intro σ ρ Z H O d z s e Q k;exact ob e λx f e=>(c z s f λ{v i j l} a r1=>b a.wf.zd r1 e λg3 h=>k ⇑(a.pair g3) h)
@[simp] def pN(ρ:Rh):Option (List D):=some []
@[simp] def ja(pa:PF)(p:PAf)(ρ:Rh):Option (List D):=(pa ρ).bind λx=>(p ρ).bind λxs=>some<|x::xs
def pps_nil:PPs R JC pN:=by
 intro σ ρ Z H O d z s e Q k;cases e;exact k (Go.id z) Reps.empty
def jfA(b:PP R ta pa)(c:PPs R tr pr):PPs R (jI ta tr) (ja pa pr):=by
 intro σ ρ Z H O d z s e Q k;refine ob e λx f e=>ob e λg e2 e=>?_;cases e;exact b z s f λ{v h i j} a r1=>(c a.wf.zd (a.slots z s) e2 λ{u l m n} g2 r2=>(k (a.pair g2)<|.cons (g2.rep a.wf.zd r1) r2))
def jc2:PBs R JC pN:=pps_nil.b
def jgy(b:PB R ta pa)(c:PBs R tr pr):PBs R (jI ta tr) (ja pa pr):=by
 intro σ ρ Z H O d z s e Q k;refine ob e λx f e=>ob e λg e2 e=>?_;cases e;exact b z s f λ{v h i j} a r1=>(c a.wf.zd (a.slots z s) e2 λ{u l m n} g2 r2=>(k (a.pair g2)<|.cons (g2.rep a.wf.zd r1) r2))
@[simp] def pCB(G:List D->Option D)(p:PAf)(ρ:Rh):Option D:=(p ρ).bind G
def jhs(b:BC R r g)(c:PBs R ta pa):PP R (tCB r ta) (pCB g pa):=by
 intro σ ρ Z H O d z s e Q k;exact ob e λx f e=>(c z s f λ{v i j l} a r1=>b a.wf.zd r1 e λg3 h=>k ⇑(a.pair g3) h)
noncomputable def lim(n:Nat):Bool:=decide<|n<=100000
def Jj(h:lim n=true):n<=sizeLine:=N8 (X6 h) (by decide)
def VA(h:lim n=true):n<sizeLine:=E3 (X6 h) (by decide)
@[simp] def yF(p:PAf)(ρ:Rh):Option D:=(p ρ).bind λxs=>bif lim xs.length then some (.tup xs) else none
@[simp] def Yb(p:PAf)(ρ:Rh):Option D:=(p ρ).bind λxs=>bif lim xs.length then some (.lst true xs) else none
def jkL(c:PPs R ta pa):PP R (zi ta) (yF pa):=by
 intro σ ρ Z H O d z s e Q k;refine ob e λh f e=>oc e λg e=>?_;cases e;exact c z s f λ{v i j l} a r1=>⟨by rw[r1.length];exact Jj g,λp b=>k (a.trans<|Go.newF a.wf b)<|Rep.tupNew a.wf b r1⟩
def jkY(c:PPs R ta pa):PP R (joJ ta) (Yb pa):=by
 intro σ ρ Z H O d z s e Q k;refine ob e λh f e=>oc e λg e=>?_;cases e;exact c z s f λ{v i j l} a r1=>⟨by rw[r1.length];exact Jj g,λp b=>k (a.trans<|Go.newO a.wf b)<|Rep.lstNew a.wf b r1⟩
@[simp] def jj(pa:PF)(ρ:Rh):Option Bool:=(pa ρ).bind jgN
@[simp] def uQ(q:PTf)(q':PTf)(ρ:Rh):Option Bool:=(q ρ).bind λb=>bif b then q' ρ else some false
@[simp] def qOr(q:PTf)(q':PTf)(ρ:Rh):Option Bool:=(q ρ).bind λb=>bif b then some true else q' ρ
@[simp] def jkt(q:PTf)(ρ:Rh):Option Bool:=(q ρ).bind λb=>some<|!b
def jc1(a:PB R ta pa):PTt R (Vg ta) (jj pa):=by
 intro σ ρ Z H O b z s e Q k;refine ob e λx c e=>?_;cases xR e;refine a z s c λ{v f g h} d r1=>?_;obtain⟨rfl,rfl⟩:=r1.bl_of;exact⟨b,rfl,k d⟩
def jlE(d:PTt R ta pa)(hb:PTt R tb pb):PTt R (jnk ta tb) (uQ pa pb):=by
 intro σ ρ Z H O b z s e Q k;refine ob e λc f e=>(d z s f λ{g h} a=>?_);cases c with
 | true=>exact jet<|hb a.wf.zd (a.slots z s) e λg2=>k<|a.pair g2
 | false=>cases e;exact jgh<|k a
def jo7(d:PTt R ta pa)(hb:PTt R tb pb):PTt R (tOr ta tb) (qOr pa pb):=by
 intro σ ρ Z H O b z s e Q k;refine ob e λc f e=>(d z s f λ{g h} a=>?_);cases c with
 | true=>cases e;exact jet<|k a
 | false=>exact jgh<|hb a.wf.zd (a.slots z s) e λg2=>k<|a.pair g2
def jhQ(a:PTt R ta pa):PTt R (jo1 ta) (jkt pa):=by
 intro σ ρ Z H O b z s e Q k;refine ob e λc d e=>?_;cases e;exact a z s d λ{g h} f=>k f
@[simp] def jj5(pa:PF)(pb:PF)(ρ:Rh):Option D:=(pa ρ).bind λd=>(jgN d).bind λb=>bif b then pb ρ else some (.bl false)
@[simp] def pOr(pa:PF)(pb:PF)(ρ:Rh):Option D:=(pa ρ).bind λd=>(jgN d).bind λb=>bif b then some (.bl true) else pb ρ
@[simp] def jo2(pa:PF)(ρ:Rh):Option D:=(pa ρ).bind λd=>(jgN d).bind λb=>some<|.bl<|!b
def jni(b:PB R ta pa)(hb:PP R tb pb):PP R (jjU ta tb) (jj5 pa pb):=by
 intro σ ρ Z H O d z s e Q k;refine ob e λx f e=>ob e λc e2 e=>?_;cases xR e2;refine b z s f λ{v g h i} a r1=>?_;obtain⟨rfl,rfl⟩:=r1.bl_of;refine⟨c,rfl,?_⟩;cases c with
 | true=>exact jet<|hb a.wf.zd (a.slots z s) e λg2 r2=>k ⇑(a.pair g2) r2
 | false=>cases e;exact jgh<|k a .bl_mk
def jmi(a:PB R ta pa):PP R (jiN ta) (jo2 pa):=by
 intro σ ρ Z H O d z s e Q k;refine ob e λx b e=>ob e λc e2 e=>?_;cases xR e2;cases e;refine a z s b λ{v g h i} f r1=>?_;obtain⟨rfl,rfl⟩:=r1.bl_of;exact⟨c,rfl,k f .bl_mk⟩
@[simp] def pIf(q:PTf)(pa:PF)(pb:PF)(ρ:Rh):Option D:=(q ρ).bind λb=>bif b then pa ρ else pb ρ
def jpD(b:PTt R tt pt)(f:PP R ta pa)(hb:PP R tb pb):PP R (tIf tt ta tb) (pIf pt pa pb):=by
 intro σ ρ Z H O d z s e Q k;refine ob e λc g e=>(b z s g λ{h i} a=>?_);cases c with
 | true=>exact jet<|f a.wf.zd (a.slots z s) e λg2 r2=>k ⇑(a.pair g2) r2
 | false=>exact jgh<|hb a.wf.zd (a.slots z s) e λg2 r2=>k ⇑(a.pair g2) r2
@[simp] def pChain(G:D->D->Option D)(G':D->D->Option D)(pa:PF)(pb:PF)(pc:PF)(ρ:Rh):Option D:=(pa ρ).bind λx=>(pb ρ).bind λy=>(G x y).bind λd=>(jgN d).bind λb=>bif b then((pc ρ).bind λw=>G' y w) else some (.bl false)
def jiD(R:RC)(J:It)(Z:Zn)(H:Hp)(xs:List D):Prop:=∀{Z1}{H1},(∀ a,Z a->Z1 a)->(∀ a,Z a->H1 a=H a)->Zd Z1 H1->∀ i:Nat,
 (xs.length<=i->J.stop i H1)/\∀ x,xs[i]?=some x->J.go i H1/\∀ u H2,J.yld i H1 u H2->∃ Z2,Go Z1 H1 [] Z2 H2 []/\Rep R Z2 H2 x u []
def PIt(R:RC)(wi:TI)(p:PAf):Prop:=∀{σ}{ρ}{Z}{H}{O}{xs},Zd Z H->Slots R Z H ρ σ O->p ρ=some xs ->
 ∀{Q:It->Hp->Prop},(∀{J}{Z'}{H'},Go Z H [] Z' H' []->jiD R J Z' H' xs->Q J H')->wi σ H Q
def jlt(K:W4)(tl:TE):TI:=λσ H Q=>tl σ H λx H1=>
 (∃ a,x=.ref a/\(∃ xs,SqL K H1 a xs)/\Q (Itl K a) H1)\/(∃ a,x=.ref a/\(∃ xs,SqT K H1 a xs)/\Q (Itt K a) H1) \/ ∃ l,x=.str (S l)/\Q (Its l) H1
def jg2(y:PE X l tl):PI X tg l (jlt X.K tl):=by
 intro c s σ H Q I h;have k:∀ v s1,EP X c σ (λx f=>(∃ a,x=.ref a/\(∃ g,SqL X.K f a g)/\Q (Itl X.K a) f)\/(∃ a,x=.ref a/\(∃ g,SqT X.K f a g)/\Q (Itt X.K a) f) \/ ∃ l,x=.str (S l)/\Q (Its l) f) v s1->wpAny (model X.prog X.w) X.A (pyIter v) (PIE X c σ tg Q) X.xe s1:=by
  rintro v s1 ⟨x,f,d,r1,z⟩;rcases z with⟨a,rfl,⟨g,m⟩,q⟩ | ⟨a,rfl,⟨g,m⟩,q⟩ | ⟨l,rfl,q⟩
  ·cases r1;obtain⟨n,B,p,C⟩:=d.list m;refine wpAny_pyIter_list p.isList ⟨↥s1,[↥s1],_,_,f,rfl,d.kept λb o e=>L8 _ e,jdz a _,⟨_,E2 _ rfl,rfl,rfl⟩,λb hb=>?_,q⟩;have e:b=↥s1:=by simpa using hb
   subst e;exact d.fpOk (N0 _)<|d.hok.fresh<|N0 _
  ·cases r1;obtain⟨n,B,p,C⟩:=d.tuple m;refine wpAny_pyIter_tuple (p) ⟨↥s1,[↥s1],_,_,f,rfl,d.kept λb o e=>L8 _ e,ja4 a _,⟨_,E2 _ rfl,rfl,rfl⟩,λb hb=>?_,q⟩;have e:b=↥s1:=by simpa using hb
   subst e;exact d.fpOk (N0 _)<|d.hok.fresh<|N0 _
  ·obtain⟨t,rfl⟩:=r1;have j:∀ ty,(ty = "str_ascii_iterator" \/ ty = "str_iterator")->(∀ A:Around,A.handled=none->Walks X.prog X.w A ↥s1 [↥s1] [↥s1] (S l).cps.size (SignAt<|S l) (λi h=>h.IsStrIter ↥s1 ty (S l) t i)) ->
     PIE X c σ tg Q (.ref ↥s1) { s1 with heap:=s1.heap.push {cls:=.type ty,data:=.fields #[.str (S l) t,.int 0 0]} }:=λty r W=>by
    refine⟨↥s1,[↥s1],_,_,f,rfl,d.kept λb o e=>L8 _ e,jfD _ l t ty r W,⟨_,E2 _ rfl,rfl,rfl⟩,λb hb=>?_,q⟩;have e:b=↥s1:=by simpa using hb
    subst e;exact d.fpOk (N0 _)<|d.hok.fresh<|N0 _
   cases ha:(S l).cps.all (· < 128)
   ·exact wpAny_pyIter_wide ha<|j _ (.inr rfl) λD u=>Walks.strWide u _ (S l) t
   ·exact wpAny_pyIter_ascii ha<|j _ (.inl rfl) λD u=>Walks.strAscii u _ (S l) t
 exact thn (y c s σ H _ I h) k
def K7:D->Option (List D)
 | .lst _ l=>some<|fzs l
 | .tup l=>some<|fzs l
 | .str s=>some<|s.map λc=>.str [c]
 | _=>none
@[simp] def pIt(pa:PF)(ρ:Rh):Option (List D):=(pa ρ).bind K7
def jm6(h:FL R Z H a vs)(r:Reps R Z H l vs []):jiD R (Itl R.K a) Z H l:=by
 intro j o d f zd i;have b:=(h.frame d f).sq;refine⟨λhi=>⟨vs,b,by rw[r.length];exact hi⟩,λx k=>?_⟩;obtain⟨v,g,m⟩:=(r.frame d f λa n=>(nomatch n)).item k;refine⟨⟨vs,v,b,g⟩,λu p c=>?_⟩;obtain⟨rfl,c⟩:=c;have e:=c vs b;rw[g] at e;cases e;exact⟨j,Go.id zd,m⟩
def jlb(h:FT R Z H a vs)(r:Reps R Z H l vs []):jiD R (Itt R.K a) Z H l:=by
 intro j o d f zd i;have b:=(h.frame d f).sq;refine⟨λhi=>⟨vs,b,by rw[r.length];exact hi⟩,λx k=>?_⟩;obtain⟨v,g,m⟩:=(r.frame d f λa n=>(nomatch n)).item k;refine⟨⟨vs,v,b,g⟩,λu p c=>?_⟩;obtain⟨rfl,c⟩:=c;have e:=c vs b;rw[g] at e;cases e;exact⟨j,Go.id zd,m⟩
def jgH:jiD R (Its s) Z H (s.map λc=>.str [c]):=by
 intro d g h j zd i;refine⟨λhi=>by show s.length<=i;simpa using hi,λx a=>?_⟩;rw[List.getElem?_map] at a;cases e:s[i]? with
 | none=>rw[e] at a;cases a
 | some c=>
  rw[e] at a;cases a;refine⟨(L9.mp e).1,λu k f=>?_⟩;obtain⟨rfl,l,b,rfl⟩:=f;rw[e] at b;cases b;exact⟨d,Go.id zd,.str_mk⟩
def Go.fz(g:Go Z H [] Z' H' P):Go Z H [] (λa=>Z' a\/a∈P) H' []:=g.trans<|Go.freeze g.wf
def joe(h:PP R te p):PIt R (jlt R.K te) (pIt p):=by
 intro σ ρ Z H O m z s e Q k;refine ob e λd g e=>(h z s g λ{v i n j} c r1=>?_);have r2:=r1.freeze (Z':=λa=>i a\/a∈j) (λa z=>.inl z) λa z=>.inr z;cases d with
 | lst o l=>
  cases e;obtain⟨a,vs,q,rfl,f,b,rfl,_⟩:=r2;exact .inl ⟨a,rfl,⟨vs,FL.sq b⟩,k c.fz<|jm6 b f⟩
 | tup l=>
  cases e;obtain⟨a,vs,rfl,b,f⟩:=r2;exact .inr<|.inl ⟨a,rfl,⟨vs,FT.sq b⟩,k c.fz<|jlb b f⟩
 | str t=>
  cases e;obtain⟨rfl,rfl⟩:=r1.str_of;exact .inr<|.inr ⟨t,rfl,k c jgH⟩
 | _=>cases e
noncomputable def kY(lo:Int)(n:Nat):List D:=(List.range n).map λ(i:Nat)=>D.int<|lo+(i:Int)
def jgZ:jiD R (Itr lo n) Z H (kY lo n):=by
 intro b d e f zd i;refine⟨λhi=>by show n<=i;simpa [kY] using hi,λx a=>?_⟩;unfold kY at a;rw[List.getElem?_map] at a;by_cases hi:i<n
 ·rw[List.getElem?_range hi] at a;cases a;refine⟨hi,λu g c=>?_⟩;obtain⟨rfl,rfl⟩:=c;exact⟨b,Go.id zd,.int_mk⟩
 ·rw[List.getElem?_eq_none ⇑hi] at a;cases a
noncomputable def V4(i:Int):Bool:=Nat.ble i.natAbs 4611686018427387903
def qB(h:V4 i=true):-(2 ^ 62)<=i/\i<2 ^ 62:=by
 have h:=Nat.le_of_ble_eq_true h;constructor<;>lia
def V8(l:List D):Option (List D):=(jeo l).bind λx=>(vz x).bind λj=>bif V4 j then some (kY 0 j.toNat) else none
@[simp] def kG(p:PAf)(ρ:Rh):Option (List D):=(p ρ).bind V8
def Reps.one_of(r:Reps R Z H [d] vs O):∃ v,vs=[v]/\Rep R Z H d v O:=by
 obtain⟨v,a,b,c,rfl,rfl,r1,r2⟩:=r;obtain⟨rfl,rfl⟩:=r2;exact⟨v,rfl,by simpa using r1⟩
def Reps.two_of(r:Reps R Z H [d,e] vs O):Ex4 λv u O1 O2=>An4 (vs=[v,u]) (O=O1++O2) (Rep R Z H d v O1) (Rep R Z H e u O2):=by
 obtain⟨v,a,O1,O2,rfl,rfl,r1,r2⟩:=r;obtain⟨u,rfl,b⟩:=r2.one_of;exact⟨v,u,O1,O2,rfl,rfl,r1,b⟩
def jhy(h:PBs R ta p):PIt R (jde ta) (kG p):=by
 intro σ ρ Z H O d z s e Q k;refine ob e λl b e=>ob e λx e2 e=>ob e λj e3 e=>oc e λa e=>?_;cases e;cases kq e2;cases jK e3;refine h z s b λ{v f g i} c r1=>?_;obtain⟨u,rfl,r2⟩:=r1.one_of;obtain⟨rfl,_⟩:=r2.int_of;exact⟨j,rfl,(qB a).1,(qB a).2,k c jgZ⟩
def PGt(R:RC)(pm:List Nat)(tg:TG)(f:D->Rh->Option Rh):Prop:=∀{σ}{ρ ρ'}{Z}{H}{O}{d}{v},Rep R Z H d v []->Slots R Z H ρ σ O->f d ρ=some ρ' ->
 ∀{Q:St->Hp->Prop},(∀{σ'}{O'},(∀ a∈O',a∈O)->(O.Nodup->O'.Nodup)->Slots R Z H ρ' σ' O'->Keep pm σ σ'->Q σ' H)->tg v σ H Q
def jlq(R:RC)(pm:List Nat)(tg:TGs)(f:List D->Rh->Option Rh):Prop:=∀{σ}{ρ ρ'}{Z}{H}{O}{ds}{vs},Reps R Z H ds vs []->Slots R Z H ρ σ O->f ds ρ=some ρ' ->
 ∀{Q:St->Hp->Prop},(∀{σ'}{O'},(∀ a∈O',a∈O)->(O.Nodup->O'.Nodup)->Slots R Z H ρ' σ' O'->Keep pm σ σ'->Q σ' H)->tg vs σ H Q
def jgA:PGt R pm (vX i) (jc pm i):=by
 intro σ ρ c Z H O d v r h e Q k;unfold jc at e;by_cases hi:i<ρ.length
 ·by_cases b:i∈pm
  ·lia
  ·rw[X4 hi,X5 b] at e;cases e;obtain⟨A,f,B,rfl,g,k2,k3⟩:=h.put hi;refine k (λa q=>?_) (λnd=>?_) (k2 r (λ_ z=>z) (λ_ _=>rfl) (λ_ _=>rfl)<|λ_ _=>rfl)<|Keep.set b
   ·simp at q ⊢;rcases q with q | q<;>simp[q]
   ·grind
 ·lia
def jfJ:jlq R pm je8 gN:=by
 intro σ ρ c Z H O b vs r h e Q k;cases b with
 | cons _ _=>cases e
 | nil=>
  cases e;obtain⟨rfl,_⟩:=r;exact⟨rfl,k (λa h=>h) (λh=>h) h<|Keep.refl _ _⟩
def jdI(f:PGt R pm t g)(i:jlq R pm u gs):jlq R pm (JA t u) (gC g gs):=by
 intro σ ρ s Z H O c vs r h e Q k;cases c with
 | nil=>cases e
 | cons d c=>
  refine ob e λw j e=>?_;obtain⟨v,b,x,y,rfl,e3,r1,r2⟩:=r;obtain⟨rfl,rfl⟩:=List.append_eq_nil_iff.mp e3.symm;exact⟨v,b,rfl,f r1 h j λs1 l m n=>i r2 m e λs2 o p k2=>k (λa q=>s1 a<|s2 a q) (λq=>o<|l q) p<|n.trans k2⟩
def jjd(f:jlq R pm u gs):PGt R pm (jeq R.K n u) (gT n gs):=by
 intro σ ρ i Z H O d v r h e Q k;cases d with
 | tup l=>
  unfold gT at e;dsimp only at e;by_cases b:l.length=n
  ·rw[X4 b,cond_true] at e;obtain⟨a,vs,rfl,g,c⟩:=r;exact⟨a,vs,rfl,g.sq,by rw[c.length];exact b,f c h e k⟩
  ·lia
 | _=>cases e
noncomputable def jY(g:D->Rh->Option Rh)(f:FS):List D->FS
 | [],ρ=>some<|.nx ρ
 | x::xs,ρ=>(g x ρ).bind λr=>(f r).bind λo=>o.loop<|jY g f xs
@[simp] def qh(p:PAf)(G:D->Rh->Option Rh)(f:FS)(ρ:Rh):Option Out:=(p ρ).bind λxs=>jY G f xs ρ
def qw{l:List α}{i}(h:l[i]?=some x):l.drop i=x::l.drop (i+1):=by
 obtain⟨hi,rfl⟩:=L9.mp h;exact List.drop_eq_getElem_cons hi
inductive LpF (R:RC) (pm:List Nat) (g:D->Rh->Option Rh) (f:FS) (σ:L2.St) (Z0:Zn) (H0:Hp) (O:W5) (xs:List D) (o:Out) (i m:Nat) (σ':L2.St) (H':Hp):Prop
 | mk:m=xs.length-i->i<=xs.length->∀(ρ':Rh) (Z':Zn) (O':W5),Go Z0 H0 O Z' H' O'->Slots R Z' H' ρ' σ' O'->Keep pm σ σ'->jY g f (xs.drop i) ρ'=some o->LpF R pm g f σ Z0 H0 O xs o i m σ' H'
def jkM(hi:PIt R wi p)(L:PGt R pm tg g)(M:DS R pm tb f):DS R pm (jll wi tg tb) (qh p g f):=by
 intro σ ρ Z H O o w s e D' k;refine ob e λc N e=>(hi w.zd s N λ{J y A} G P=>?_);have a:Go Z H O y A O:=by simpa using G.widen w
 refine⟨LpF R pm g f σ y A O c o,
  ⟨c.length,rfl,U6 _,ρ,y,O,Go.refl a.wf,G.slots w.zd s,Keep.refl _ _,e⟩,?_⟩
 rintro i m σ' Q ⟨rfl,S,ρ',T,I,h,s1,kp,e2⟩;have r:=P h.zz (h.zH a.wf) h.wf.zd i;by_cases B:i<c.length
 ·right
  have K:c[i]?=some c[i]:=by simp
  obtain⟨go,U⟩:=r.2 _ K;rw[qw K] at e2;refine ob e2 λρ1 e3 e2=>ob e2 λV W e2=>⟨go,λC n=>∃ b q z,Go y A O q n z/\Slots R q n b C z/\Keep pm σ C/\jY g f (c.drop<|i+1) b=some o,λC n ⟨b,q,z,X,Y,a3,a4⟩=>⟨c.length-(i+1),by lia,rfl,B,b,q,z,X,Y,a3,a4⟩,λu n hy=>?_⟩;obtain⟨q,g2,r2⟩:=U u n hy;have t:Go T Q I q n I:=by simpa using g2.widen h.wf
  refine L r2 (g2.slots h.wf.zd s1) e3 λ{σ3 O3} sub nd s3 k3=>?_;have g3:=(h.trans t).drop sub (nd t.wf.nd);refine M g3.wf s3 W ?_;cases V with
  | nx b=>exact λ{D v E x} g4 j l=>⟨b,v,x,g3.trans g4,j,kp.trans<|k3.trans l,e2⟩
  | ct b=>exact λ{D v E x} g4 j l=>⟨b,v,x,g3.trans g4,j,kp.trans<|k3.trans l,e2⟩
  | bk b=>cases e2;exact λ{D v E x} g4 j l=>k (a.trans<|g3.trans g4) j<|kp.trans<|k3.trans l
  | rt d b=>cases e2;exact λ{v4 D v E P4 x} g4 r4 j l=>k (a.trans<|g3.trans g4) r4 j<|kp.trans<|k3.trans l
 ·left
  have F:i=c.length:=by lia
  refine⟨r.1 ∅,?_⟩;rw[F,List.drop_length] at e2;cases e2;exact k (a.trans h) s1 kp
noncomputable def jo(ix:List<|Option Nat)(ρ:Rh):Rh:=ix.map λo=>o.bind λj=>(ρ[j]?).join
def Vj(s:Slots R Z H ρ σ O):∀ ix:List (Option Nat),∃ O',Slots R Z H (jo ix ρ) (ym ix σ) O':=by
 intro ix
 induction ix with
 | nil=>
  exact⟨[],rfl,rfl⟩
 | cons o ix a=>
  obtain⟨O',a⟩:=a;show ∃ O',Slots R Z H ((o.bind λj=>(ρ[j]?).join)::jo ix ρ) ((o.bind λj=>(σ[j]?).join)::ym ix σ) O';cases e:o.bind λj=>(ρ[j]?).join with
  | none=>exact⟨O',_,_,rfl,a⟩
  | some d=>
   cases o with
   | none=>cases e
   | some j=>
    have f:(ρ[j]?).join=some d:=e;have e2:ρ[j]?=some (some d):=by grind
    obtain⟨A,P,B,_,b,_⟩:=s.put (L9.mp e2).1;obtain⟨v,c,r⟩:=b d e2;refine⟨P++O',v,_,P,O',?_,rfl,r,a⟩;show((σ[j]?).join::ym ix σ)=some v::ym ix σ;rw[c];rfl
@[simp] def qT(ρ:Rh):Option Bool:=some true
def jhG:PTt R (λ_ H Q=>Q true H) qT:=by
 intro σ ρ Z H O b z s e Q k;cases e;exact k<|Go.id z
noncomputable def ya(g:D->Rh->Option Rh)(q:PTf)(p:PF):List D->Rh->Option (List D)
 | [],_=>some []
 | x::xs,ρ=>(g x ρ).bind λρ1=>(q ρ1).bind λb=>bif b then((p ρ1).bind λy=>(ya g q p xs ρ1).bind λys=>some<|y::ys) else ya g q p xs ρ1
@[simp] def yi(pi:PAf)(G:D->Rh->Option Rh)(q:PTf)(pa:PF)(ix:List<|Option Nat)(ρ:Rh):Option D:=(pi ρ).bind λxs=>bif lim xs.length then((ya G q pa xs<|jo ix ρ).bind λys=>some<|.lst true ys) else none
noncomputable def spP(R:RC)(m:List D->Option D)(n:Nat):Sp:=λvs H Q _=>∃ Z ds d,Zd Z H/\ds.length=n/\Reps R Z H ds vs []/\m ds=some d/\∀{v}{Z'}{H'}{P},Go Z H [] Z' H' P->Rep R Z' H' d v P->Q v H'
def fnP(n:Nat)(f:FS)(ds:List D):Option D:=(f<|ds.map some++List.replicate (n-ds.length) none).bind Out.val
theorem Yl:∀ n:Nat,Slots R Z H (List.replicate n none) (List.replicate n none) []
 | 0=>⟨rfl,rfl⟩
 | n+1=>⟨none,_,rfl,Yl n⟩
theorem Yh:∀{ds}{vs}{O}{ρ}{σ}{P},Reps R Z H ds vs O->Slots R Z H ρ σ P->Slots R Z H (ds.map some++ρ) (vs.map some++σ) (O++P)
 | [],_,_,_,_,_,r,s=>by rw[Reps] at r;obtain⟨rfl,rfl⟩:=r;exact s
 | d::ds,_,_,_,_,_,r,s=>by
  obtain⟨v,a,b,c,rfl,rfl,r1,r2⟩:=r;exact⟨v,_,b,_,rfl,List.append_assoc ..,r1,Yh r2 s⟩
def jhz(b:DS R [] ts f)(h:spP R (fnP N.length f) n vs H Q E):ts {nx:=λ_ H'=>Q .non H',rt:=Q} (L2.start N vs) H:=by
 obtain⟨Z,a,d,z,l,r,e,k⟩:=h;have s:Slots R Z H (a.map some++List.replicate (N.length-a.length) none) (L2.start N vs) []:=by
  unfold L2.start;rw[r.length];exact(Yh r<|Yl<|N.length-a.length)
 refine ob e λo c e=>?_;cases o with
 | rt m i=>cases e;exact b (wf0 z) s c λg j _ _=>k g.dropR j
 | nx i=>cases e;exact b (wf0 z) s c λg _ _=>k g.to0 .non_mk
 | _=>cases e
def jjK(h:spP R m n vs H Q E):vs.length=n:=by
 obtain⟨Z,b,d,z,a,r,_⟩:=h;rw[r.length,a]
mutual
noncomputable def vn:D->Bool
 | .tup l=>yr l
 | .lst o l=>o&&yr l
 | .dK o _ l=>o&&yr l
 | .dT o _ l=>o&&yr l
 | .ins o _ _ l=>o&&yr l
 | .non=>true | .bl _=>true | .int _=>true | .str _=>true | .dead=>true | .tok _=>true | .kt _=>false | .exc _ _=>false
noncomputable def yr:List D->Bool
 | []=>true
 | d::l=>vn d&&yr l
end
mutual
theorem Rep.thaw(ht:∀ a vs,Z a->Rd H a (.tup vs)->Z' a):∀{d:D}{v:V}{O:W5},Rep R Z H d v O->vn d=true->Rep R Z' H d v O
 | .non,_,_,h,_=>by rw[Rep] at h ⊢;exact h
 | .bl _,_,_,h,_=>by rw[Rep] at h ⊢;exact h
 | .int _,_,_,h,_=>by rw[Rep] at h ⊢;exact h
 | .str _,_,_,h,_=>by rw[Rep] at h ⊢;exact h
 | .dead,_,_,h,_=>by rw[Rep] at h ⊢;exact h
 | .tok _,_,_,h,_=>by rw[Rep] at h ⊢;exact h
 | .kt _,_,_,_,f=>by rw[vn] at f;cases f
 | .exc _ _,_,_,_,f=>by rw[vn] at f;cases f
 | .tup l,_,_,h,f=>by
  rw[Rep] at h ⊢;rw[vn] at f;obtain⟨a,vs,e,t,r⟩:=h;refine⟨a,vs,e,?_,Reps.thaw ht r f⟩;rcases t with⟨z,q⟩ | q
  ·exact .inl ⟨ht a vs z q,q⟩
  ·exact .inr q
 | .lst o l,_,_,h,f=>by
  rw[Rep] at h ⊢;rw[vn,M0] at f;obtain⟨a,vs,O',e,r,h⟩:=h;cases f.1;exact⟨a,vs,O',e,Reps.thaw ht r f.2,h⟩
 | .dK o ks l,_,_,h,f=>by
  rw[Rep] at h ⊢;rw[vn,M0] at f;obtain⟨a,vs,O',e,r,h⟩:=h;cases f.1;exact⟨a,vs,O',e,Reps.thaw ht r f.2,h⟩
 | .dT o ks l,_,_,h,f=>by
  rw[Rep] at h ⊢;rw[vn,M0] at f;obtain⟨a,vs,O',e,r,h⟩:=h;cases f.1;exact⟨a,vs,O',e,Reps.thaw ht r f.2,h⟩
 | .ins o c ns l,_,_,h,f=>by
  rw[Rep] at h ⊢;rw[vn,M0] at f;obtain⟨a,dx,vs,O',e,r,h⟩:=h;cases f.1;exact⟨a,dx,vs,O',e,Reps.thaw ht r f.2,h⟩
theorem Reps.thaw(ht:∀ a vs,Z a->Rd H a (.tup vs)->Z' a):∀{l:List D}{vs:List V}{O:W5},Reps R Z H l vs O->yr l=true->Reps R Z' H l vs O
 | [],_,_,h,_=>by rw[Reps] at h ⊢;exact h
 | d::l,_,_,h,f=>by
  rw[Reps] at h ⊢;rw[yr,M0] at f;obtain⟨v,vs,O1,O2,e,rfl,r1,r2⟩:=h;exact⟨v,vs,O1,O2,e,rfl,Rep.thaw ht r1 f.1,Reps.thaw ht r2 f.2⟩
end
mutual
theorem Rep.notTup:∀{d:D}{v:V}{O:W5},Rep R Z H d v O->∀ a∈O,∀ vs,¬ Rd H a (.tup vs)
 | .non,_,_,h,a,ha=>by rw[Rep] at h;rw[h.2] at ha;cases ha
 | .bl _,_,_,h,a,ha=>by rw[Rep] at h;rw[h.2] at ha;cases ha
 | .int _,_,_,h,a,ha=>by rw[Rep] at h;rw[h.2] at ha;cases ha
 | .str _,_,_,h,a,ha=>by rw[Rep] at h;rw[h.2] at ha;cases ha
 | .dead,_,_,h,a,ha=>by rw[Rep] at h;rw[h] at ha;cases ha
 | .tok _,_,_,h,a,ha=>by rw[Rep] at h;rw[h.2] at ha;cases ha
 | .kt _,_,_,h,a,ha=>by rw[Rep] at h;obtain⟨_,_,_,_,h⟩:=h;rw[h] at ha;cases ha
 | .exc _ _,_,_,h,a,ha=>by rw[Rep] at h;obtain⟨_,_,_,_,_,_,_,h⟩:=h;rw[h] at ha;cases ha
 | .tup l,_,_,h,a,ha=>by
  rw[Rep] at h;obtain⟨b,vs,e,t,r⟩:=h;exact Reps.notTup r a ha
 | .lst o l,_,_,h,a,ha=>by
  rw[Rep] at h;obtain⟨b,vs,O',e,r,h⟩:=h;cases o with
  | true=>
   obtain⟨h1,rfl⟩:=h;rcases M5.mp ha with e | e
   ·subst e;rintro ws (q | ⟨_,q⟩)<;>rw[h1] at q<;>cases q
   ·exact Reps.notTup r a e
  | false=>rw[h.2.2] at ha;cases ha
 | .dK o ks l,_,_,h,a,ha=>by
  rw[Rep] at h;obtain⟨b,vs,O',e,r,hl,hd,h⟩:=h;cases o with
  | true=>
   have h:=(show _=_ from h);subst h;rcases M5.mp ha with e | e
   ·subst e;rintro ws (q | ⟨_,q⟩)<;>rw[hd] at q<;>cases q
   ·exact Reps.notTup r a e
  | false=>rw[h.2.2] at ha;cases ha
 | .dT o ks l,_,_,h,a,ha=>by
  rw[Rep] at h;obtain⟨b,vs,O',e,r,hl,hd,h⟩:=h;cases o with
  | true=>
   have h:=(show _=_ from h);subst h;rcases M5.mp ha with e | e
   ·subst e;rintro ws (q | ⟨_,q⟩)<;>rw[hd] at q<;>cases q
   ·exact Reps.notTup r a e
  | false=>rw[h.2.2] at ha;cases ha
 | .ins o c ns l,_,_,h,a,ha=>by
  rw[Rep] at h;obtain⟨b,dx,vs,O',e,r,hl,hd,h⟩:=h;cases o with
  | true=>
   have h:=(show _=_ from h);subst h;rcases M5.mp ha with e | e
   ·subst e;rintro ws (q | ⟨_,q⟩)<;>rw[hd] at q<;>cases q
   ·exact Reps.notTup r a e
  | false=>rw[h.2.2] at ha;cases ha
theorem Reps.notTup:∀{l:List D}{vs:List V}{O:W5},Reps R Z H l vs O->∀ a∈O,∀ vs,¬ Rd H a (.tup vs)
 | [],_,_,h,a,ha=>by rw[Reps] at h;rw[h.2] at ha;cases ha
 | d::l,_,_,h,a,ha=>by
  rw[Reps] at h;obtain⟨v,vs,O1,O2,e,rfl,r1,r2⟩:=h;rcases N3.mp ha with q | q
  ·exact Rep.notTup r1 a q
  ·exact Reps.notTup r2 a q
end
@[simp] def ju(m:List D->Option D)(p:PAf)(ρ:Rh):Option D:=(p ρ).bind λds=>(m<|fzs ds).bind λd=>bif frzs ds||vn d then some d else none
def vH(l):(fzs l).length=l.length:=by rw[kN,L1]
def jdl(e:Zd Z H)(r1:Reps R Z H ds vs P1)(f:ds.length=n)(e2:m (fzs ds)=some d)(b:(frzs ds||vn d)=true)
  (k:∀{v}{Z'}{H'}{P},Go Z H [] Z' H' P->Rep R Z' H' d v P->Q v H'):spP R m n (vs++[]) H Q E:=by
 refine⟨λa=>Z a\/a∈P1,fzs ds,d,λa h=>h.elim (e a)<|r1.dom a,by rw[vH];exact f,by rw[N1];exact r1.freeze (λa z=>.inl z) λa z=>.inr z,e2,λ{v Z' H' P} g2 r2=>?_⟩;rw[Bool.or_eq_true] at b;rcases b with b | b
 ·cases r1.nil b;exact k ⟨g2.wf,λa z=>g2.zz a<|.inl z,g2.fr,λa z=>(g2.zn a z).imp (λq=>q.resolve_right<|λq=>(nomatch q)) id,g2.sub,g2.dm⟩ r2
 ·refine k (Z':=λa=>Z' a/\(a∉P1\/Z a)) ⟨⟨g2.wf.nd,λa h q=>g2.wf.nz a h q.1,g2.wf.od,λa q=>g2.wf.zd a q.1⟩,λa z=>⟨g2.zz a<|.inl z,.inr z⟩,g2.fr,λa z=>?_,g2.sub,g2.dm⟩<|r2.thaw (λa ws za g=>⟨za,?_⟩) b
  ·rcases g2.zn a z.1 with(q | q) | q
   ·lia
   ·lia
   ·lia
  ·by_cases c:a∈P1
   ·exact absurd (Rd.agree (g2.same a<|r1.dom a c).symm g)<|r1.notTup a c ws
   ·lia
def jcP(f:PBs R ta p)(g:∀ ρ ds,p ρ=some ds->ds.length=n):PP R (qM (spP R m n) [] E0 ta) (ju m p):=by
 intro σ ρ Z H O d z s e Q k;refine ob e λds a e=>ob e λc e2 e=>oc e λh e=>?_;cases e;exact f z s a λb r1=>jdl b.wf.zd r1 (g ρ ds a) e2 h λg2 r2=>k ⇑(b.pair g2) r2
@[simp] def sFz(i:Nat)(f:FS)(ρ:Rh):Option Out:=match pV i ρ with | some d=>f (ρ.set i<|some<|fz d) | none=>f ρ
def joD(h:DS R pm t f):DS R pm t (sFz i f):=by
 intro σ ρ Z H O o w s e j k;unfold sFz at e;split at e
 ·rename_i d hd;have hd:=Ys hd;obtain⟨A,P,B,rfl,b,k2,_⟩:=s.put (L9.mp hd).1;obtain⟨v,c,r⟩:=b d hd;have g:=(Go.freeze w.mid).frame w;have s2:=k2 (r.freeze (Z':=λa=>Z a\/a∈P) (λa z=>.inl z) λa z=>.inr z) (λa z=>.inl z) (λ_ _=>rfl) (λ_ _=>rfl)<|λ_ _=>rfl;rw[yE c] at s2;exact h g.wf s2 e<|k.pre g<|Keep.refl _ _
 ·exact h w s e k
def YT{l m:W5}(h:∀ c,l.count c<=m.count c)(n:m.Nodup):l.Nodup:=List.nodup_iff_count.mpr λc=>N8 (h c)<|List.nodup_iff_count.mp n c
def jao{l m:W5}(h:∀ c,l.count c<=m.count c):∀ c∈l,c∈m:=λc a=>List.count_pos_iff.mp<|U5 (List.count_pos_iff.mpr a)<|h c
def Go.at(g:Go Z H O Z' H' P)(b:a∉O)(h:H a=some o):H' a=some o:=(g.fr a ∅ b).trans h
def Go.at0(g:Go Z H [] Z' H' P)(h:H a=some o):H' a=some o:=g.at (λz=>nomatch z) h
noncomputable abbrev Ln:=D->Option (D×(D->D))
inductive LnR (R:RC) (Z:Zn) (H:Hp) (ρ:Rh) (σ:L2.St) (O:W5) (tb:TE) (i:Nat) (x:D) (k:D->D):Prop
 | mk:∀(v:V) (A P B:W5),O=A++P++B->Rep R Z H x v P->(∀{Q:VK},Q v H->tb σ H Q) ->
  (∀{Z':Zn}{H':Hp}{x':D}{P':W5},Rep R Z' H' x' v P'->(∀ a,Z a->Z' a)->(∀ a,Z a->H' a=H a)->(∀ a∈A,H' a=H a)->(∀ a∈B,H' a=H a)->Slots R Z' H' (ρ.set i<|some<|k x') σ (A++P'++B))->LnR R Z H ρ σ O tb i x k
def jep(R:RC)(tb:TE)(i:Nat)(L:Ln):Prop:=∀{σ}{ρ}{Z}{H}{O}{d x}{k},Slots R Z H ρ σ O->ρ[i]?=some (some d)->L d=some (x,k)->LnR R Z H ρ σ O tb i x k
noncomputable def kB:Ln:=λd=>some (d,λx=>x)
def Ji:jep R (jU i) i kB:=by
 intro σ ρ Z H O d x k s h e;cases e;obtain⟨A,P,B,rfl,b,k2,_⟩:=s.put (L9.mp h).1;obtain⟨v,a,r⟩:=b _ h;refine⟨v,A,P,B,rfl,r,λq=>⟨v,a,q⟩,λc f g j l=>?_⟩;have q:=k2 c f g j l;rw[yE a] at q;exact q
inductive OwR (R:RC) (Z:Zn) (H:Hp) (l:List D) (sh:Addr->List V->HO) (sd:Prop) (v:V) (O:W5):Prop
 | mk:∀(a dx:Addr) (vs:List V) (O':W5),v=.ref a->Reps R Z H l vs O'->sd->H a=some (sh dx vs)->O=a::O'->OwR R Z H l sh sd v O
def Own(R:RC)(T:D)(l:List D)(sh:Addr->List V->HO)(sd:Prop):Prop:=∀{Z}{H}{v}{O},Rep R Z H T v O↔OwR R Z H l sh sd v O
def YD:Own R (.lst true l) l (λ_ vs=>.lst vs) True:=by
 intro Z H v O;exact⟨λh=>by obtain⟨a,vs,b,e,c,d,f⟩:=h;exact⟨a,0,vs,b,e,c,trivial,d,f⟩,λh=>by obtain⟨a,_,vs,b,e,c,_,d,f⟩:=h;exact⟨a,vs,b,e,c,d,f⟩⟩
def jbb:Own R (.dK true ks l) l (λ_ vs=>.dK<|(ks.map kaV).zip vs) (ks.length=l.length):=by
 intro Z H v O;exact⟨λh=>by obtain⟨a,vs,b,e,c,h,d,f⟩:=h;exact⟨a,0,vs,b,e,c,h,d,f⟩,λh=>by obtain⟨a,_,vs,b,e,c,h,d,f⟩:=h;exact⟨a,vs,b,e,c,h,d,f⟩⟩
def je3:Own R (.dT true ks l) l (λ_ vs=>.dT<|(ks.map<|List.map kaV).zip vs) (ks.length=l.length):=by
 intro Z H v O;exact⟨λh=>by obtain⟨a,vs,b,e,c,h,d,f⟩:=h;exact⟨a,0,vs,b,e,c,h,d,f⟩,λh=>by obtain⟨a,_,vs,b,e,c,h,d,f⟩:=h;exact⟨a,vs,b,e,c,h,d,f⟩⟩
def ow_ins:Own R (.ins true c ns l) l (λdx vs=>.ins (R.cls c) dx<|ns.zip vs) (ns.length=l.length):=by
 intro Z H v O;exact⟨λh=>by obtain⟨a,dx,vs,b,e,d,h,f,g⟩:=h;exact⟨a,dx,vs,b,e,d,h,f,g⟩,λh=>by obtain⟨a,dx,vs,b,e,d,h,f,g⟩:=h;exact⟨a,dx,vs,b,e,d,h,f,g⟩⟩
def qx{R}{Z}{H}{C:Prop}{σ}{ρ}{O P0}{i}{tb}{L}{t y}{n}{l}{o}{p}(E:jep R tb i L)(w:WF Z H<|P0++O)(s:Slots R Z H ρ σ O)(hi:pV i ρ=some t)(e:L t=some (y,n))(F:Own R y l o p)
  (k:∀ a dx vs O',Reps R Z H l vs O'->p->H a=some (o dx vs)->(∀{Q},Q (.ref a) H->tb σ H Q)->(∀{O2 P1}{Z2}{H2}{x'}{l'}{vs'}{sh':Addr->List V->HO}{sd'},Own R x' l' sh' sd'->sd'->Go Z H [] Z2 H2 P1->Reps R Z2 H2 l' vs' O2->(∀ q,O2.count q<=O'.count q+P0.count q+P1.count q) ->
   ∃ O3,Go Z H (P0++O) Z2 (upd H2 a<|sh' dx vs') O3/\Slots R Z2 (upd H2 a<|sh' dx vs') (ρ.set i<|some<|n x') σ O3)->C):C:=by
 obtain⟨v,A,P,B,rfl,r,G,I⟩:=E s (Ys hi) e;obtain⟨a,dx,vs,O',rfl,J,hd,K,rfl⟩:=F.mp r;refine k a dx vs O' J hd K G λ{O2 P1 Z2 H2 x' l' vs' sh' sd'} h j g M cnt=>?_;have f:=g.widen w;have nd:=f.wf.nd;have ct:=List.nodup_iff_count.mp nd a;simp only[U9,List.count_cons,if_true] at ct;have pos:∀{m:W5},a∈m->0<m.count a:=List.count_pos_iff.mpr;generalize N:sh' dx vs'=ob;have c:∀ b,Z2 b->upd H2 a ob b=H2 b:=λb hb=>je λz=>f.wf.nz a (by simp)<|z▸hb;have d:∀ m:List Addr,(∀ b∈m,b∈A++(a::O')++B)->m.count a=0->∀ b∈m,upd H2 a ob b=H b:=λm S U b hb=>(je λz=>by subst z;have:=pos hb;lia).trans (g.same b<|w.od b<|U4 _<|S b hb);have T:=I (h.mpr ⟨a,dx,vs',O2,rfl,M.frame (λ_ z=>z) c λb hb=>je λz=>by subst z;have:=pos hb;have:=cnt b;lia,j,by rw[N];exact jh,rfl⟩) g.zz (λx u=>(c x<|g.zz x u).trans (g.same x<|w.zd x u)) (d A (λb hb=>by simp[hb]) ∅)<|d B (λb hb=>by simp[hb]) ∅;have D:∀ q,(A++(a::O2)++B).count q<=(P1++(P0++(A++(a::O')++B))).count q:=λq=>by
  have:=cnt q;simp only[U9,List.count_cons];lia
 exact⟨_,(f.trans<|Go.put f.wf<|by simp).drop (jao D) (YT D nd),T⟩
@[simp] def qf(i:Nat)(L:Ln)(pv:PF)(ρ:Rh):Option Out:=(pv ρ).bind λd=>(pV i ρ).bind λt=>(L t).bind λy=>(K3 y.1).bind λl=>bif lim l.length then some (.nx<|ρ.set i<|some<|y.2<|.lst true<|l++[d]) else none
def jbK{R}{pm}{i}{tb te}{L}{p}(j:jep R tb i L)(h:PP R te p):DS R pm (JV<|tBM R.K "list" Jr tb<|jI te JC) (qf i L p):=by
 intro σ ρ Z H O o w s e x k;refine ob e λd m e=>ob e λt hi e=>ob e λ⟨y,z⟩ e3 e=>ob e λl n e=>oc e λb e=>?_;cases e;cases Y2 n;refine qx (P0:=[]) j w s hi e3 YD λa _ vs A f _ g r put=>r ⟨.inl ⟨rfl,vs,SqL.of g⟩,h w.zd s m λ{u B C D} c r1=>?_⟩;obtain⟨E,g3,v⟩:=put YD trivial c ((c.reps w.zd f).append (.one r1)) λq=>by simp
 exact⟨a,vs,u,rfl,rfl,c.at0 g,by rw[f.length];exact VA b,k g3 v<|Keep.refl _ _⟩
@[simp] def jaz(i:Nat)(pa:PF)(ρ:Rh):Option Out:=(pa ρ).bind λd=>(pV i ρ).bind λx=>(K3 x).bind λl=>bif lim l.length then some (.nx<|ρ.set i<|some<|.lst true<|l++[d]) else none
def jlQ(h:PP R te p):DS R pm (JV<|tBM R.K "list" Jr (jU i)<|jI te JC) (jaz i p):=jbK Ji h
def YH(h:OpR X f r)(h':OpR X f r'):OpR X f (λx y H Q=>r x y H Q\/r' x y H Q):=by
 intro a s σ H x y v u Q I b c q;rcases q with q | q
 ·exact h a s σ H x y v u Q I b c q
 ·exact h' a s σ H x y v u Q I b c q
def Rep.lst_of(r:Rep R Z H (.lst o l) v O):Ex3 λa vs O'=>An3 (v=.ref a) (SqX R.K H a vs) (Reps R Z H l vs O'):=by
 obtain⟨a,vs,O',rfl,b,h⟩:=r;cases o with
 | true=>exact⟨a,vs,O',rfl,SqX.of h.1,b⟩
 | false=>exact⟨a,vs,O',rfl,FL.sqx h.1,b⟩
def Rep.tup_of(r:Rep R Z H (.tup l) v O):Ex2 λa vs=>An3 (v=.ref a) (SqT R.K H a vs) (Reps R Z H l vs O):=by
 obtain⟨a,vs,rfl,h,b⟩:=r;exact⟨a,vs,rfl,h.sq,b⟩
def Reps.frozen(r:Reps R Z H l vs O)(f:frzs l=true):Reps R Z H l vs []:=by
 cases r.nil f;exact r
noncomputable def jnh(i:Int):Bool:=decide<|Builtin.Int.intBits i<=2 ^ 20
def jcm(h:i.natAbs<2 ^ 1000):jnh i=true:=X4<|jaI h (by decide)
def jk(x y:D):Option D:=match x with
 | .int i=>(match y with
  | .int j=>some<|.int<|i+j
  | _=>none)
 | .str a=>(match y with
  | .str b=>bif lim (a.length+b.length) then some (.str<|a++b) else none
  | _=>none)
 | .lst _ a=>(match y with
  | .lst _ b=>bif lim (a.length+b.length)&&(frzs a&&frzs b) then some (.lst true<|a++b) else none
  | _=>none)
 | .tup a=>(match y with
  | .tup b=>bif lim (a.length+b.length)&&(frzs a&&frzs b)&&!a.isEmpty then some (.tup<|a++b) else none
  | _=>none)
 | _=>none
def jpf:R2:=λx y H Q=>∃ a b,x=.str (S a)/\y=.str (S b)/\a.length+b.length<=sizeLine/\Q (.str<|S<|a++b) H
def jbG(K:W4):R2:=λx y H Q=>rI0 (λi j=>.int<|i+j) x y H Q\/jpf x y H Q\/jk9 K x y H Q\/jnf K x y H Q
def jd1:OpR X (binaryOp .Add) (jbG X.K):=YH jlu<|YH jiM<|YH jjw jjS
def jgS:BO R (jbG R.K) jk:=by
 intro Z H x y d v u C D z g h e Q k;cases x with
 | int i=>
  cases y with
  | int j=>
   cases e;obtain⟨rfl,_⟩:=g.int_of;obtain⟨rfl,_⟩:=h.int_of;exact .inl ⟨i,j,rfl,rfl,k (Go.id z) .int_mk⟩
  | _=>cases e
 | str a=>
  cases y with
  | str b=>
   refine oc e λc e=>?_;cases e;obtain⟨rfl,_⟩:=g.str_of;obtain⟨rfl,_⟩:=h.str_of;exact .inr<|.inl ⟨a,b,rfl,rfl,Jj c,k (Go.id z) .str_mk⟩
  | _=>cases e
 | lst o a=>
  cases y with
  | lst E b=>
   refine oc e λc e=>?_;cases e;simp only[M0] at c;obtain⟨p,vs,F,rfl,l,f⟩:=g.lst_of;obtain⟨q,ws,s,rfl,m,rt⟩:=h.lst_of;have t:=(f.frozen c.2.1).append (rt.frozen c.2.2);exact .inr<|.inr<|.inl ⟨p,q,vs,ws,rfl,rfl,l,m,by rw[f.length,rt.length];exact Jj c.1,λb hb=>k (Go.newO (wf0 z) hb)<|Rep.lstNew (wf0 z) hb t⟩
  | _=>cases e
 | tup a=>
  cases y with
  | tup b=>
   refine oc e λc e=>?_;cases e;simp only[M0] at c;obtain⟨p,vs,rfl,l,f⟩:=g.tup_of;obtain⟨q,ws,rfl,m,rt⟩:=h.tup_of;have n:vs≠[]:=by
    intro w;have:=f.length;rw[w] at this;have r:=List.eq_nil_of_length_eq_zero this.symm;rw[r] at c;simp at c
   refine .inr<|.inr<|.inr ⟨p,q,vs,ws,rfl,rfl,l,m,n,by rw[f.length,rt.length];exact Jj c.1.1,(λr=>?_),λ_ b hb=>k (Go.newF (wf0 z) hb)<|Rep.tupNew (wf0 z) hb<|(f.frozen c.1.2.1).append (rt.frozen c.1.2.2)⟩;have A:=List.eq_nil_of_length_eq_zero (by rw[<- rt.length,r];rfl);subst A;rw[N1] at k;have B:=f.nil c.1.2.1;subst B;exact k (Go.id z) g
  | _=>cases e
 | _=>cases e
def two(f:Int->Int->Option D)(x y:D):Option D:=(vz x).bind λi=>(vz y).bind λj=>f i j
def two_of(e:two f x y=some d):Ex2 λi j=>An3 (x=.int i) (y=.int j) (f i j=some d):=ob e λi a e=>ob e λj e2 e=>⟨i,j,jK a,jK e2,e⟩
def Yo:D->D->Option D:=two λi j=>some<|.int<|i-j
def jlx:BO R (rI0 λi j=>.int<|i-j) Yo:=by
 intro Z H x y d v u c f z a b e Q k;replace e:=two_of e;obtain⟨i,j,rfl,rfl,e⟩:=e;cases e;obtain⟨rfl,_⟩:=a.int_of;obtain⟨rfl,_⟩:=b.int_of;exact⟨i,j,rfl,rfl,k (Go.id z) .int_mk⟩
def yR(x y:D):Option D:=match y with
 | .int n=>(match x with
  | .int i=>bif jnh i&&jnh n then some (.int<|i*n) else none
  | .str a=>bif decide (a.length<=1000)&&(decide (0<=n)&&decide (n<=1000)) then some (.str (List.replicate n.toNat a).flatten) else none
  | _=>none)
 | _=>none
def jjX:R2:=λx y H Q=>rI (λi j=>Builtin.Int.intBits i<=2 ^ 20/\Builtin.Int.intBits j<=2 ^ 20) (λi j=>.int<|i*j) x y H Q \/
 ∃ a n,x=.str (S a)/\y=.int n/\a.length<=1000/\0<=n/\n<=1000/\Q (.str<|S (List.replicate n.toNat a).flatten) H
def jh4:OpR X (binaryOp .Mult) jjX:=YH jhL jjx
def jkZ:BO R jjX yR:=by
 intro Z H x y d v u g h z c f e Q k;cases y with
 | int n=>
  cases x with
  | int i=>
   refine oc e λb e=>?_;cases e;rw[M0] at b;obtain⟨rfl,_⟩:=c.int_of;obtain⟨rfl,_⟩:=f.int_of;exact .inl ⟨i,n,rfl,rfl,⟨X6 b.1,X6 b.2⟩,k (Go.id z) .int_mk⟩
  | str a=>
   refine oc e λb e=>?_;cases e;simp only[M0,decide_eq_true_eq] at b;obtain⟨rfl,_⟩:=c.str_of;obtain⟨rfl,_⟩:=f.int_of;exact .inr ⟨a,n,rfl,rfl,b.1,b.2.1,b.2.2,k (Go.id z) .str_mk⟩
  | _=>cases e
 | _=>cases e
noncomputable def jaO(j:Int):Bool:=decide (0<j)&&decide (j<2 ^ 300)
def jb0(h:jaO j=true):0<j/\j.natAbs.log2<9000:=by
 unfold jaO at h;simp only[M0,decide_eq_true_eq] at h;refine⟨h.1,?_⟩;have a:j.natAbs<2 ^ 300:=by lia
 have b:j.natAbs≠0:=by lia
 have:=(Nat.log2_lt b).mpr a
 lia
def jgq:OpR X (binaryOp .FloorDiv) (rI (λ_ j=>jaO j=true) λi j=>.int<|i/j):=opI λi j t u s Q E a q=>by
 obtain⟨b,c⟩:=jb0 a;rw[(Int.fdiv_eq_ediv_of_nonneg i<|Int.le_of_lt b).symm] at q;exact PyProof.Rows.floordiv_int ∅ q (.inl<|PyProof.noPylong_of_log2 c)
def jH:D->D->Option D:=two λi j=>bif jaO j then some (.int<|i/j) else none
def jl:D->D->Option D:=two λi j=>bif decide (0<j) then some (.int<|i%j) else none
def Jo:D->D->Option D:=two λi j=>bif decide (0<=j)&&decide (j<=100)&&decide (i.natAbs<2 ^ 64) then some (.int<|i ^ j.toNat) else none
def jlI:BO R (rI (λ_ j=>jaO j=true) λi j=>.int<|i/j) jH:=by
 intro Z H x y d v u f g z a b e Q k;replace e:=two_of e;obtain⟨i,j,rfl,rfl,e⟩:=e;refine oc e λc e=>?_;cases e;obtain⟨rfl,_⟩:=a.int_of;obtain⟨rfl,_⟩:=b.int_of;exact⟨i,j,rfl,rfl,c,k (Go.id z) .int_mk⟩
def jhc:BO R (rI (λ_ j=>0<j) λi j=>.int<|i%j) jl:=by
 intro Z H x y d v u f g z b c e Q k;replace e:=two_of e;obtain⟨i,j,rfl,rfl,e⟩:=e;by_cases a:0<j
 ·rw[X4 a] at e;cases e;obtain⟨rfl,_⟩:=b.int_of;obtain⟨rfl,_⟩:=c.int_of;exact⟨i,j,rfl,rfl,a,k (Go.id z) .int_mk⟩
 ·lia
def jk7:BO R (rI jpd λi j=>.int<|i ^ j.toNat) Jo:=by
 intro Z H x y d v u f g z b c e Q k;replace e:=two_of e;obtain⟨i,j,rfl,rfl,e⟩:=e;refine oc e λa e=>?_;cases e;simp only[M0,decide_eq_true_eq] at a;obtain⟨rfl,_⟩:=b.int_of;obtain⟨rfl,_⟩:=c.int_of;exact⟨i,j,rfl,rfl,⟨a.1.1,by lia,a.2⟩,k (Go.id z) .int_mk⟩
noncomputable def QA:D->Option D
 | .int i=>some<|.int<|-i
 | _=>none
def jkV:BU R (rU λi=>.int<|-i) QA:=by
 intro Z H x d v O z a e Q k;cases x with
 | int i=>
  cases e;obtain⟨rfl,_⟩:=a.int_of;exact⟨i,rfl,k (Go.id z) .int_mk⟩
 | _=>cases e
def opB(g:Int->Int->Bool):D->D->Option D:=two λi j=>some<|.bl<|g i j
def jok:BO R (rI0 λi j=>.bl<|g i j) (opB g):=by
 intro Z H x y d v u c f z a b e Q k;replace e:=two_of e;obtain⟨i,j,rfl,rfl,e⟩:=e;cases e;obtain⟨rfl,_⟩:=a.int_of;obtain⟨rfl,_⟩:=b.int_of;exact⟨i,j,rfl,rfl,k (Go.id z) .bl_mk⟩
abbrev jkv:D->D->Option D:=opB λi j=>decide<|i<j
abbrev YK:D->D->Option D:=opB λi j=>decide<|j<i
abbrev jpz:D->D->Option D:=opB λi j=>decide<|j<=i
noncomputable def jeK:D->Bool
 | .non=>true
 | _=>false
noncomputable def jmO:D->Bool
 | .dead=>true
 | _=>false
def jfa(x y:D):Option D:=bif jeK y&&!jmO x then some (.bl<|jeK x) else none
def jfw(h:jeK y=true):y=.non:=by
 cases y with
 | non=>rfl
 | _=>cases h
def jcR(r:Rep R Z H x v O)(hd:∀(h:x=.dead),False):decide (v=V.non)=jeK x:=by
 cases x with
 | non=>obtain⟨rfl,_⟩:=r.non_of;rfl
 | bl b=>obtain⟨rfl,_⟩:=r.bl_of;rfl
 | int i=>obtain⟨rfl,_⟩:=r.int_of;rfl
 | str s=>obtain⟨rfl,_⟩:=r.str_of;rfl
 | tup l=>rw[Rep] at r;obtain⟨a,vs,rfl,_⟩:=r;rfl
 | lst o l=>rw[Rep] at r;obtain⟨a,vs,d,rfl,_⟩:=r;rfl
 | dK o e l=>rw[Rep] at r;obtain⟨a,vs,d,rfl,_⟩:=r;rfl
 | dT o e l=>rw[Rep] at r;obtain⟨a,vs,d,rfl,_⟩:=r;rfl
 | ins o c ns l=>rw[Rep] at r;obtain⟨a,f,vs,d,rfl,_⟩:=r;rfl
 | tok a=>rw[Rep] at r;obtain⟨rfl,_⟩:=r;rfl
 | kt k=>rw[Rep] at r;obtain⟨a,rfl,_⟩:=r;rfl
 | exc c p=>rw[Rep] at r;obtain⟨a,f,rfl,_⟩:=r;rfl
 | dead=>exact(hd rfl).elim
def jpy:BO R (λx y H Q=>y=.non/\Q (.bl<|decide<|x=.non) H) jfa:=by
 intro Z H x y d v u f g z b c e Q k;refine oc e λa e=>?_;cases e;rw[M0] at a;have hd:∀(h:x=.dead),False:=λh=>by rw[h] at a;exact absurd a.2 (by decide)
 cases jfw a.1;obtain⟨rfl,_⟩:=c.non_of;refine⟨rfl,?_⟩;rw[jcR b hd];exact k (Go.id z) .bl_mk
noncomputable def Jn:D->Bool
 | .non=>true | .bl _=>true | .int _=>true | .str _=>true
 | _=>false
noncomputable def eqF:D->D->Bool
 | .non,y=>match y with | .non=>true | _=>false
 | .bl a,y=>match y with | .bl b=>a==b | _=>false
 | .int a,y=>match y with | .int b=>a==b | _=>false
 | .str a,y=>match y with | .str b=>a==b | _=>false
 | _,_=>false
noncomputable def Ql:D->D->Bool
 | .bl _,.int _=>false
 | .int _,.bl _=>false
 | _,_=>true
def jcn(d:Rep R Z H x v O1)(c:Rep R Z H y u O2)(h:(Jn x&&Jn y&&Ql x y)=true):joA v u=true/\decide (v=u)=eqF x y:=by
 cases x with
 | non=>
  obtain⟨rfl,_⟩:=d.non_of;cases y with
  | non=>obtain⟨rfl,_⟩:=c.non_of;exact⟨rfl,rfl⟩
  | bl b=>obtain⟨rfl,_⟩:=c.bl_of;exact⟨rfl,rfl⟩
  | int b=>obtain⟨rfl,_⟩:=c.int_of;exact⟨rfl,rfl⟩
  | str b=>obtain⟨rfl,_⟩:=c.str_of;exact⟨rfl,rfl⟩
  | _=>cases h
 | bl a=>
  obtain⟨rfl,_⟩:=d.bl_of;cases y with
  | non=>obtain⟨rfl,_⟩:=c.non_of;exact⟨rfl,rfl⟩
  | bl b=>obtain⟨rfl,_⟩:=c.bl_of;exact⟨rfl,by rw[jbJ];rfl⟩
  | str b=>obtain⟨rfl,_⟩:=c.str_of;exact⟨rfl,rfl⟩
  | _=>cases h
 | int a=>
  obtain⟨rfl,_⟩:=d.int_of;cases y with
  | non=>obtain⟨rfl,_⟩:=c.non_of;exact⟨rfl,rfl⟩
  | int b=>obtain⟨rfl,_⟩:=c.int_of;exact⟨rfl,by rw[xY];rfl⟩
  | str b=>obtain⟨rfl,_⟩:=c.str_of;exact⟨rfl,rfl⟩
  | _=>cases h
 | str a=>
  obtain⟨rfl,_⟩:=d.str_of;cases y with
  | non=>obtain⟨rfl,_⟩:=c.non_of;exact⟨rfl,rfl⟩
  | bl b=>obtain⟨rfl,_⟩:=c.bl_of;exact⟨rfl,rfl⟩
  | int b=>obtain⟨rfl,_⟩:=c.int_of;exact⟨rfl,rfl⟩
  | str b=>
   obtain⟨rfl,_⟩:=c.str_of;refine⟨rfl,?_⟩;rw[Bool.eq_iff_iff];simp[eqF,joo]
  | _=>cases h
 | _=>cases h
def inL(x:D)(l:List D):Bool:=l.any λy=>eqF y x
def jho(x:D)(l:List D):Bool:=Jn x&&l.all λy=>Jn y&&Ql y x
def QR(neg:Bool)(x y:D):Option D:=match y with
 | .str s=>(match x with
  | .str [c]=>some<|.bl<|neg != decide (c∈s)
  | _=>none)
 | .lst _ l=>bif jho x l then some (.bl<|neg != inL x l) else none
 | .tup l=>bif jho x l then some (.bl<|neg != inL x l) else none
 | _=>none
def Reps.flat(c:Rep R Z H x v P)(d:Jn x=true):∀{l}{vs}{O},Reps R Z H l vs O->(l.all λy=>Jn y&&Ql y x)=true->VU v=true/\vs.all VU=true/\inV v vs=inL x l:=by
 intro l
 induction l with
 | nil=>
  intro _ _ h _;obtain⟨rfl,_⟩:=h;refine⟨?_,rfl,rfl⟩;cases x with
  | non=>obtain⟨rfl,_⟩:=c.non_of;rfl
  | bl b=>obtain⟨rfl,_⟩:=c.bl_of;rfl
  | int b=>obtain⟨rfl,_⟩:=c.int_of;rfl
  | str b=>obtain⟨rfl,_⟩:=c.str_of;rfl
  | _=>cases d
 | cons y l e=>
  intro _ _ h f;obtain⟨u,vs,k,m,rfl,rfl,r1,r2⟩:=h;rw[List.all_cons,M0] at f;obtain⟨g,i,j⟩:=e r2 f.2;have key:VU u=true/\eqV u v=eqF y x:=by
   cases y with
   | non=>
    obtain⟨rfl,_⟩:=r1.non_of;cases x with
    | non=>obtain⟨rfl,_⟩:=c.non_of;exact⟨rfl,rfl⟩
    | bl b=>obtain⟨rfl,_⟩:=c.bl_of;exact⟨rfl,rfl⟩
    | int b=>obtain⟨rfl,_⟩:=c.int_of;exact⟨rfl,rfl⟩
    | str b=>obtain⟨rfl,_⟩:=c.str_of;exact⟨rfl,rfl⟩
    | _=>cases d
   | bl a=>
    obtain⟨rfl,_⟩:=r1.bl_of;cases x with
    | non=>obtain⟨rfl,_⟩:=c.non_of;exact⟨rfl,rfl⟩
    | bl b=>obtain⟨rfl,_⟩:=c.bl_of;exact⟨rfl,rfl⟩
    | str b=>obtain⟨rfl,_⟩:=c.str_of;exact⟨rfl,rfl⟩
    | int b=>exact absurd f.1 (by simp[Ql])
    | _=>cases d
   | int a=>
    obtain⟨rfl,_⟩:=r1.int_of;cases x with
    | non=>obtain⟨rfl,_⟩:=c.non_of;exact⟨rfl,rfl⟩
    | int b=>obtain⟨rfl,_⟩:=c.int_of;exact⟨rfl,rfl⟩
    | str b=>obtain⟨rfl,_⟩:=c.str_of;exact⟨rfl,rfl⟩
    | bl b=>exact absurd f.1 (by simp[Ql])
    | _=>cases d
   | str a=>
    obtain⟨rfl,_⟩:=r1.str_of;cases x with
    | non=>obtain⟨rfl,_⟩:=c.non_of;exact⟨rfl,rfl⟩
    | bl b=>obtain⟨rfl,_⟩:=c.bl_of;exact⟨rfl,rfl⟩
    | int b=>obtain⟨rfl,_⟩:=c.int_of;exact⟨rfl,rfl⟩
    | str b=>
     obtain⟨rfl,_⟩:=c.str_of;refine⟨rfl,?_⟩;rw[Bool.eq_iff_iff];simp[eqF,eqV,joo]
    | _=>cases d
   | _=>exact absurd f.1 (by simp[Jn])
  refine⟨g,by rw[List.all_cons,key.1,i];rfl,?_⟩;show(eqV u v||inV v vs)=(eqF y x||inL x l);rw[key.2,j]
def jqb(neg:Bool):R2:=λx y H Q=>∃ c l,x=.str (S [c])/\y=.str (S l)/\Q (.bl<|if neg then !decide (c∈l) else decide (c∈l)) H
def jky(K:W4)(neg:Bool):R2:=λx y H Q=>jqb neg x y H Q\/rIn K neg x y H Q
def jmh:OpR X (compareOp .In) (jky X.K false):=YH jlU jcT
def jbL:OpR X (compareOp .NotIn) (jky X.K true):=YH jcI z5
def wE(a b):(if a=true then !b else b)=(a != b):=by cases a<;>cases b<;>rfl
def jlN:BO R (jky R.K neg) (QR neg):=by
 intro Z H x y d v u q r z b g e Q k;cases y with
 | str s=>
  cases x with
  | str t=>
   match t,e,b with
   | [c],e,b=>
    cases e;obtain⟨rfl,_⟩:=b.str_of;obtain⟨rfl,_⟩:=g.str_of;refine .inl ⟨c,s,rfl,rfl,?_⟩;rw[wE];exact k (Go.id z) .bl_mk
   | [],e,b=>cases e
   | _::_::_,e,b=>cases e
  | _=>cases e
 | lst o l=>
  have f:=e;refine oc f λa f=>?_;cases f;unfold jho at a;rw[M0] at a;obtain⟨p,vs,w,rfl,h,i⟩:=g.lst_of;obtain⟨j,m,n⟩:=i.flat b a.1 a.2;refine .inr ⟨p,vs,rfl,.inl h.sq,j,m,?_⟩;rw[n,wE];exact k (Go.id z) .bl_mk
 | tup l=>
  have f:=e;refine oc f λa f=>?_;cases f;unfold jho at a;rw[M0] at a;obtain⟨p,vs,rfl,h,i⟩:=g.tup_of;obtain⟨j,m,n⟩:=i.flat b a.1 a.2;refine .inr ⟨p,vs,rfl,.inr h,j,m,?_⟩;rw[n,wE];exact k (Go.id z) .bl_mk
 | _=>cases e
def jd(x y:D):Option D:=match y with
 | .int i=>(match x with
  | .lst _ l=>atI l i
  | .tup l=>atI l i
  | .str s=>bif lim s.length then(atI s i).bind λc=>some (.str [c]) else none
  | _=>none)
 | _=>none
def Reps.atI(r:Reps R Z H l vs O)(e:L2.atI l i=some d):∃ v P,L2.atI vs i=some v/\Rep R Z H d v P:=by
 unfold L2.atI at e ⊢;rw[r.length];cases h:ixN l.length i with
 | none=>rw[h] at e;cases e
 | some j=>
  rw[h] at e;obtain⟨v,A,P,B,a,_,r1,_⟩:=r.at<|e;exact⟨v,P,a,r1⟩
def jnl:BO' R (rIx R.K) jd:=by
 intro Z H x y d v u n q z a j e Q k;cases y with
 | int i=>
  obtain⟨rfl,_⟩:=j.int_of;cases x with
  | lst o l=>
   obtain⟨p,vs,r,rfl,b,f⟩:=a.lst_of;obtain⟨w,P,g,r1⟩:=f.atI e;exact .inl ⟨p,vs,i,w,rfl,rfl,b.sq,g,k r1⟩
  | tup l=>
   obtain⟨p,vs,rfl,b,f⟩:=a.tup_of;obtain⟨w,P,g,r1⟩:=f.atI e;exact .inr<|.inl ⟨p,vs,i,w,rfl,rfl,b,g,k r1⟩
  | str s=>
   obtain⟨rfl,_⟩:=a.str_of;refine oc e λm e=>ob e λc h e=>?_;cases e;refine .inr<|.inr ⟨S s,i,c,rfl,rfl,by rw[Ju];exact Jj m,by rw[Jk];exact h,?_⟩;exact k .str_mk
  | _=>cases e
 | _=>cases e
abbrev OF:=Rh->Option (Option Int)
def PO'(R:RC)(t:TO)(p:OF):Prop:=∀{σ}{ρ}{Z}{H}{O}{i},Zd Z H->Slots R Z H ρ σ O->p ρ=some i ->
 ∀{Q:Option Int->Hp->Prop},(∀{Z'}{H'},Go Z H [] Z' H' []->Q i H')->t σ H Q
@[simp] def oN(ρ:Rh):Option (Option Int):=some none
@[simp] def oS(pa:PF)(ρ:Rh):Option (Option Int):=(pa ρ).bind λd=>(vz d).bind λi=>some<|some i
def jqm:PO' R wH oN:=by
 intro σ ρ Z H O i z s e Q k;cases e;exact k<|Go.id z
def jp0(h:PB R te p):PO' R (jj4 te) (oS p):=by
 intro σ ρ Z H O i z s e Q k;refine ob e λx a e=>ob e λj e2 e=>?_;cases e;cases jK e2;refine h z s a λ{v c d f} b r1=>?_;obtain⟨rfl,_⟩:=r1.int_of;exact⟨j,rfl,k b⟩
def jn5(lo hi:Option Int):D->Option D
 | .str s=>bif lim s.length then some (.str<|J9 s lo hi) else none
 | .lst _ l=>bif frzs l then some (.lst true<|J9 l lo hi) else none
 | .tup l=>bif frzs l&&decide ((J9 l lo hi).length<l.length) then some (.tup<|J9 l lo hi) else none
 | _=>none
def jol(K:W4):V->Option Int->Option Int->Hp->VK->Prop:=λx lo hi H Q=>jpW x lo hi H Q\/jpP K x lo hi H Q\/jpT K x lo hi H Q
def jqg:SlR X (jol X.K):=SlR.or jnG<|SlR.or jkp jmR
@[simp] def pSl(pa:PF)(pl:OF)(ph:OF)(ρ:Rh):Option D:=(pa ρ).bind λx=>(pl ρ).bind λlo=>(ph ρ).bind λhi=>jn5 lo hi x
def Reps.cut(r:Reps R Z H l vs [])(lo hi):Reps R Z H (J9 l lo hi) (jkx vs lo hi) []:=by
 unfold J9 jkx;rw[r.length];exact(r.drop _).take _
def jo4(q:PB R te pa)(r:PO' R tl pl)(u:PO' R th ph):PP R (tSl (jol R.K) te tl th) (pSl pa pl ph):=by
 intro σ ρ Z H O d z s e Q k;refine ob e λx w e=>ob e λlo e2 e=>ob e λhi e3 e=>(q z s w λ{v y A B} h r1=>(r h.wf.zd (h.slots z s) e2 λ{C D} g2=>?_));have f:=h.pair g2;refine u g2.wf.zd (f.slots z s) e3 λ{Z3 E} g3=>?_;have a:=f.pair g3;have j:=(g2.pair g3).rep h.wf.zd r1;cases x with
 | str t=>
  refine oc e λc e=>?_;cases e;obtain⟨rfl,_⟩:=j.str_of;exact .inl ⟨t,rfl,Jj c,k a .str_mk⟩
 | lst o l=>
  refine oc e λc e=>?_;cases e;obtain⟨p,vs,F,rfl,m,i⟩:=j.lst_of;have g:=g3.wf.zd;exact .inr<|.inl ⟨p,vs,rfl,m.sq,λb hb=>k ⇑(a.pair<|Go.newO (wf0 g) hb) (Rep.lstNew (wf0 g) hb<|(i.frozen c).cut lo hi)⟩
 | tup l=>
  refine oc e λc e=>?_;cases e;simp only[M0,decide_eq_true_eq] at c;obtain⟨p,vs,rfl,m,i⟩:=j.tup_of;have g:=g3.wf.zd;refine .inr<|.inr ⟨p,vs,rfl,m,?_,λb hb=>k ⇑(a.pair<|Go.newF (wf0 g) hb) (Rep.tupNew (wf0 g) hb<|(i.frozen c.1).cut lo hi)⟩;rintro⟨w1,w2⟩;have n:=c.2;unfold J9 at n;rw[i.length] at w1 w2;rw[w1,w2,List.drop_zero,Nat.sub_zero,List.take_length] at n;exact absurd n<|Nat.lt_irrefl _
 | _=>cases e
def jqu:D->Option D
 | .lst _ l=>some<|.int l.length
 | .tup l=>some<|.int l.length
 | .str s=>bif lim s.length then some (.int s.length) else none
 | _=>none
def qj(l:List D):Option D:=(jeo l).bind jqu
def jlV:BC R (λxs H Q=>∃ x n,xs=[x]/\joP R.K x H n/\Q (.int n) H) qj:=by
 intro Z H xs d vs O z r e Q k;refine ob e λx c e=>?_;rw[kq c] at r;obtain⟨v,rfl,r1⟩:=r.one_of;cases x with
 | lst o l=>
  cases e;obtain⟨p,ws,g,rfl,a,b⟩:=r1.lst_of;exact⟨_,_,rfl,.inl ⟨ws,a.sq,rfl⟩,by rw[b.length];exact k (Go.id z) .int_mk⟩
 | tup l=>
  cases e;obtain⟨p,ws,rfl,a,b⟩:=r1.tup_of;exact⟨_,_,rfl,.inr ⟨ws,a,rfl⟩,by rw[b.length];exact k (Go.id z) .int_mk⟩
 | str s=>
  refine oc e λf e=>?_;cases e;obtain⟨rfl,_⟩:=r1.str_of;exact⟨_,_,rfl,⟨by rw[Ju];exact Jj f,rfl⟩,by rw[Ju];exact k (Go.id z) .int_mk⟩
 | _=>cases e
noncomputable def uc:List D->Option (List Int)
 | []=>some []
 | d::l=>match d with
  | .int i=>((uc l).bind λr=>some<|i::r)
  | _=>none
def Reps.ints:∀{l}{vs}{O}{ns},Reps R Z H l vs O->uc l=some ns->vs=ns.map V.int:=by
 intro l
 induction l with
 | nil=>intro vs O ns h e;rw[Reps] at h;cases e;exact h.1
 | cons d l a=>
  intro vs O ns h e;obtain⟨v,vs,c,f,rfl,rfl,r1,r2⟩:=h;cases d with
  | int i=>
   refine ob e λr b e=>?_;cases e;rw[a r2 b,r1.int_of.1];rfl
  | _=>cases e
def jbS(l:List D):Option D:=(jeo l).bind λx=>(jjN x).bind λl=>(uc l).bind λns=>some<|.int ns.sum
def jlO:BC R (λxs H Q=>∃(p:Addr) (ns:List Int),xs=[.ref p]/\SqL R.K H p (ns.map V.int)/\Q (.int ns.sum) H) jbS:=by
 intro Z H xs d vs O z r e Q k;refine ob e λx a e=>ob e λl b e=>ob e λns c e=>?_;cases e;obtain⟨o,rfl⟩:=Vc b;rw[kq a] at r;obtain⟨v,rfl,r1⟩:=r.one_of;obtain⟨p,ws,h,rfl,f,g⟩:=r1.lst_of;have:=g.ints c;subst this;exact⟨p,ns,rfl,f.sq,k (Go.id z) .int_mk⟩
def f2I(g:Int->Int->Int)(l:List D):Option D:=(two1 l).bind λp=>two (λi j=>some<|.int<|g i j) p.1 p.2
def jj3:BC R (λxs H Q=>∃ i j,xs=[.int i,.int j]/\Q (.int<|g i j) H) (f2I g):=by
 intro Z H xs d vs O z r e Q k;refine ob e λp a e=>?_;obtain⟨i,j,e2,e3,e⟩:=two_of e;cases e;rw[two1_of a,e2,e3] at r;obtain⟨v,u,b,c,rfl,_,r1,r2⟩:=r.two_of;obtain⟨rfl,_⟩:=r1.int_of;obtain⟨rfl,_⟩:=r2.int_of;exact⟨i,j,rfl,k (Go.id z) .int_mk⟩
abbrev jmy:List D->Option D:=f2I λi j=>if j>i then j else i
abbrev xB:List D->Option D:=f2I λi j=>if j<i then j else i
def jqw:D->Option D
 | .lst _ l=>bif frzs l then some (.lst true l) else none
 | .tup l=>bif frzs l then some (.lst true l) else none
 | _=>none
def VX(l:List D):Option D:=(jeo l).bind jqw
def YA(l:List D):Option D:=(jeo l).bind λx=>(jjN x).bind λl=>bif frzs l then some (.tup l) else none
def jks:BC R (λxs H Q=>∃ p ys,xs=[.ref p]/\(SqL R.K H p ys\/SqT R.K H p ys)/\∀ l,H l=none->Q (.ref l) (upd H l<|.lst ys)) VX:=by
 intro Z H xs d vs O z r e Q k;refine ob e λx g e=>?_;rw[kq g] at r;obtain⟨v,rfl,r1⟩:=r.one_of;cases x with
 | lst o l=>
  refine oc e λa e=>?_;cases e;obtain⟨p,ws,h,rfl,c,f⟩:=r1.lst_of;exact⟨p,ws,rfl,.inl c.sq,λb hb=>k (Go.newO (wf0 z) hb)<|Rep.lstNew (wf0 z) hb<|f.frozen a⟩
 | tup l=>
  refine oc e λa e=>?_;cases e;obtain⟨p,ws,rfl,c,f⟩:=r1.tup_of;exact⟨p,ws,rfl,.inr c,λb hb=>k (Go.newO (wf0 z) hb)<|Rep.lstNew (wf0 z) hb<|f.frozen a⟩
 | _=>cases e
def jfp:BC R (λxs H Q=>∃ p ys,xs=[.ref p]/\((SqL R.K H p ys/\∀ l,H l=none->Q (.ref l) (upd H l<|.tup ys))\/(SqT R.K H p ys/\Q (.ref p) H))) YA:=by
 intro Z H xs d vs O z r e Q k;refine ob e λx a e=>ob e λl c e=>oc e λf e=>?_;cases e;obtain⟨o,rfl⟩:=Vc c;rw[kq a] at r;obtain⟨v,rfl,r1⟩:=r.one_of;obtain⟨p,ws,i,rfl,g,h⟩:=r1.lst_of;exact⟨p,ws,rfl,.inl ⟨g.sq,λb hb=>k (Go.newF (wf0 z) hb)<|Rep.tupNew (wf0 z) hb<|h.frozen f⟩⟩
noncomputable def tyD:D->Option String
 | .non=>some "NoneType" | .bl _=>some "bool" | .int _=>some "int" | .str _=>some "str" | .tup _=>some "tuple" | .lst _ _=>some "list"
 | .dK true _ _=>some "dict"
 | _=>none
noncomputable def wA(t T:String):Bool:=t==T||(t=="bool"&&T=="int")
@[simp] def xj(T:String)(pa:PF)(ρ:Rh):Option D:=(pa ρ).bind λd=>(tyD d).bind λt=>some<|.bl<|wA t T
def ji4(K)  (a:t∈["NoneType","bool","int","str","tuple","list","dict"]) (b:T∈["bool","int","str","tuple","list","dict"]):PySem.W.kitOne K (.type t) (.type T)=some (wA t T):=by
 simp only[M5,List.not_mem_nil,or_false] at a b;rcases a with rfl | rfl | rfl | rfl | rfl | rfl | rfl<;>rcases b with rfl | rfl | rfl | rfl | rfl | rfl<;>rfl
def Rep.ty(r:Rep R Z H x v O)(e:tyD x=some t):TyQ R.K H v t/\t∈["NoneType","bool","int","str","tuple","list","dict"]:=by
 cases x with
 | non=>cases e;obtain⟨rfl,_⟩:=r.non_of;exact⟨.non,by simp⟩
 | bl b=>cases e;obtain⟨rfl,_⟩:=r.bl_of;exact⟨.bl _,by simp⟩
 | int i=>cases e;obtain⟨rfl,_⟩:=r.int_of;exact⟨.int _,by simp⟩
 | str s=>cases e;obtain⟨rfl,_⟩:=r.str_of;exact⟨.str _,by simp⟩
 | tup l=>cases e;obtain⟨p,ws,rfl,c,d⟩:=r.tup_of;exact⟨.tup c,by simp⟩
 | lst o l=>cases e;obtain⟨p,ws,f,rfl,c,d⟩:=r.lst_of;exact⟨.lst c.sq,by simp⟩
 | dK o g l=>cases o with
  | false=>cases e
  | true=>cases e;rw[Rep] at r;obtain⟨a,vs,f,rfl,_,_,hd,_⟩:=r;exact⟨.dK hd,by simp⟩
 | _=>cases e
def jkR(a:T∈["bool","int","str","tuple","list","dict"])  (h:PB R te p):
  PP R (tCB (λxs H Q=>∃ x T t b,xs=[x,.ty T]/\TyQ R.K H x t/\PySem.W.kitOne R.K (.type t) (.type T)=some b/\Q (.bl b) H)<|jI te<|jI (tC<|.ty T) JC) (xj T p):=by
 intro σ ρ Z H O d z s e Q k;refine ob e λx c e=>ob e λt e2 e=>?_;cases e;refine h z s c λ{v j l m} f r1=>?_;obtain⟨g,i⟩:=r1.ty e2;exact⟨v,T,t,wA t T,rfl,g,ji4 _ i a,k f .bl_mk⟩
noncomputable def yB:Nat->List D->List D
 | _,[]=>[]
 | k,x::l=>.tup [.int k,x]::yB (k+1) l
theorem J1:∀ k l,(yB k l).length=l.length
 | _,[]=>rfl
 | k,x::l=>by rw[yB,M3,M3,J1]
theorem zB:∀ k l i (y:D),(yB k l)[i]?=some y->∃ x,l[i]?=some x/\y=.tup [.int ((k+i:Nat):Int),x]
 | _,[],_,_,e=>by simp[yB] at e
 | k,x::l,0,y,e=>by simp[yB] at e;exact⟨x,rfl,e.symm⟩
 | k,x::l,i+1,y,e=>by
  obtain⟨z,a,e2⟩:=zB (k+1) l i y (by simpa [yB] using e);exact⟨z,by simpa using a,by rw[e2];congr 3;lia⟩
noncomputable def jcX:List D->List D->List D
 | x::l,y::m=>.tup [x,y]::jcX l m
 | _,_=>[]
def jg0(l:List D):Option (List D):=(jeo l).bind λx=>(jjN x).bind λl=>some<|yB 0<|fzs l
@[simp] def Vn(p:PAf)(ρ:Rh):Option (List D):=(p ρ).bind jg0
def jfY(z:Zd Z H)(b:H p=none)(r1:Rep R Z H x u [])(r2:Rep R Z H y v []):Rep R (λa=>Z a\/a=p) (upd H p<|.tup [u,v]) (.tup [x,y]) (.ref p) []:=
 Rep.tupNew (wf0 z) b (.cons r1<|.cons r2 .empty)
def jcH(k:FL R Z H a ws)(rs:Reps R Z H l ws [])(m:L.length=l.length)(o:∀(i:Nat) y,L[i]?=some y->∃ x,l[i]?=some x/\y=.tup [.int<|n+i,x]):jiD R (Itn R.K a n) Z H L:=by
 intro A B d e zd i;have b:=(k.frame d e).sq;have f:=rs.frame d e λa p=>(nomatch p);refine⟨λhi=>⟨ws,b,by rw[f.length,<- m];exact hi⟩,λx r=>?_⟩;obtain⟨y,s,rfl⟩:=o i x r;obtain⟨u,g,v⟩:=f.item s;refine⟨⟨ws,u,b,g⟩,λw C c=>?_⟩;obtain⟨q,t,z,rfl,h,rfl⟩:=c;have j:=z ws b;rw[g] at j;cases j;exact⟨_,Go.newF (wf0 zd) h,jfY zd h .int_mk v⟩
def jgv(h:PPs R ta p):PIt R (jh8 R.K ta) (Vn p):=by
 intro σ ρ Z H O j z s e Q k;refine ob e λx c e=>ob e λy e2 e=>ob e λl e3 e=>?_;cases e;obtain⟨o,rfl⟩:=Vc e3;cases kq e2;refine h z s c λ{vs d m f} g r1=>?_;obtain⟨v,rfl,r2⟩:=r1.one_of;obtain⟨a,ws,n,rfl,i,b,rfl,_⟩:=(r2.freeze (Z':=λa=>d a\/a∈f) (λa z=>.inl z) λa z=>.inr z);exact⟨a,ws,rfl,FL.sq b,k g.fz<|jcH b i (J1 _ _) ⇑(zB 0 _)⟩
def jgM(h:ixN n i=some j):j<n:=(xS h).2.1
@[simp] def gIx(pm:List Nat)(i:Nat)(pi:PF)(d:D)(ρ:Rh):Option Rh:=(pi ρ).bind λk=>(vz k).bind λk=>(pV i ρ).bind λx=>(K3 x).bind λl=>(ixN l.length k).bind λj=>some<|ρ.set i<|some<|.lst true<|l.set j d
def jcK(rs:Reps R Z H l vs O)(a:j<l.length)(rd:Rep R Z H d u P):∃ O2,Reps R Z H (l.set j d) (vs.set j u) O2/\∀ q,O2.count q<=O.count q+P.count q:=by
 obtain⟨b,c,e,f,g,rfl,h,put⟩:=rs.at (show l[j]?=some l[j] by simp[a]);exact⟨_,put rd (λ_ z=>z) (λ_ _=>rfl) (λ_ _=>rfl)<|λ_ _=>rfl,λq=>by simp only[U9];lia⟩
def jpo(h:PB R te pi):DG R pm (jn3 (jU i) te jbH) (gIx pm i pi):=by
 intro σ ρ A Z H O P d v w r s e Q k;refine ob e λx f e=>ob e λn e3 e=>ob e λy g e=>ob e λl m e=>ob e λj e2 e=>?_;cases e;cases jK e3;cases Y2 m;refine qx Ji w s g rfl YD λa _ vs B c _ o p put=>p<|h w.zd s f λ{u C D E} b r1=>?_;obtain⟨rfl,_⟩:=r1.int_of;obtain⟨F,r2,t⟩:=jcK (b.reps w.zd c) (jgM e2)<|b.rep w.zd r;obtain⟨G,g3,z⟩:=put YD trivial b r2 λq=>by have:=t q;simp;lia
 exact⟨a,vs,n,j,rfl,rfl,b.at0 o,by rw[c.length];exact e2,k g3 z<|Keep.refl _ _⟩
@[simp] def xr(i:Nat)(pi:PF)(g:Int->Int->Int)(pe:PF)(ρ:Rh):Option Out:=(pi ρ).bind λk=>(vz k).bind λk=>(pV i ρ).bind λx=>(K3 x).bind λl=>(ixN l.length k).bind λj=>(l[j]?).bind λy=>(vz y).bind λa=>(pe ρ).bind λz=>(vz z).bind λb=>some<|.nx<|ρ.set i<|some<|.lst true<|l.set j<|.int<|g a b
def jfm(hi:PB R ti pi)(p:PB R te pe):DS R pm (jju (jU i) ti te (jld R.K) (ipI g) jbH) (xr i pi g pe):=by
 intro σ ρ Z H O o w s e F k;refine ob e λc1 r e=>ob e λn t e=>ob e λh v e=>ob e λl e5 e=>ob e λj e2 e=>ob e λG z e=>ob e λx A e=>ob e λI e3 e=>ob e λy e7 e=>?_;cases e;cases jK t;cases Y2 e5;cases jK A;cases jK e7;refine qx (P0:=[]) Ji w s v rfl YD λa _ vs J d _ m B put=>B<|hi w.zd s r λ{u L M N} c r1=>?_;obtain⟨rfl,_⟩:=r1.int_of;obtain⟨P,Q,f,r2⟩:=d.atI (by unfold L2.atI;rw[e2];exact z);obtain⟨rfl,_⟩:=r2.int_of;refine⟨a,vs,n,.int x,rfl,rfl,SqL.of<|c.at0 m,f,p c.wf.zd (c.slots w.zd s) e3 λ{S Z3 T U} g3 C=>?_⟩;obtain⟨rfl,_⟩:=C.int_of;have b:=c.pair g3;obtain⟨V,D,h⟩:=jcK (b.reps w.zd d) (jgM e2)<|Rep.int_mk;obtain⟨W,g4,E⟩:=put YD trivial b D λq=>by have:=h q;simp at this ⊢;lia
 exact⟨x,y,rfl,rfl,a,vs,n,j,rfl,rfl,b.at0 m,by rw[d.length];exact e2,k g4 E<|Keep.refl _ _⟩
end QD
namespace QD
open PySem L2 PySem.Spec PyProof.Rows
section
variable (c:Nat->Addr)(pm:List Nat)(X:Cx)
structure QP(e:Expr)(te:TE)(p:PF):Prop where
 sem:PE X e te
 den:PP ⟨X.K,c⟩ te p
structure QB(e:Expr)(te:TE)(p:PF):Prop where
 sem:PE X e te
 den:PB ⟨X.K,c⟩ te p
structure QPs(es:List Expr)(ta:TA)(p:PAf):Prop where
 sem:PA X es ta
 den:PPs ⟨X.K,c⟩ ta p
structure QBs(es:List Expr)(ta:TA)(p:PAf):Prop where
 sem:PA X es ta
 den:PBs ⟨X.K,c⟩ ta p
 n:∀ ρ ds,p ρ=some ds->ds.length=es.length
structure QT(e:Expr)(tt:TT)(q:PTf):Prop where
 sem:PT X e tt
 den:PTt ⟨X.K,c⟩ tt q
structure QW(e:Expr)(tt:TT)(q:PTf):Prop where
 sem:PW X e tt
 den:PTt ⟨X.K,c⟩ tt q
structure QI(tg e:Expr)(wi:TI)(p:PAf):Prop where
 sem:PI X tg e wi
 den:PIt ⟨X.K,c⟩ wi p
structure QG(tg:Expr)(t:TG)(g:D->Rh->Option Rh):Prop where
 sem:PG X tg t
 den:PGt ⟨X.K,c⟩ pm t g
structure QGs(tg:List Expr)(t:TGs)(g:List D->Rh->Option Rh):Prop where
 sem:PGs X tg t
 den:jlq ⟨X.K,c⟩ pm t g
structure QE(e:Expr)(te:TE)(f:FE):Prop where
 sem:PE X e te
 den:DE ⟨X.K,c⟩ te f
structure QS(st:Stmt)(ts:TS)(f:FS):Prop where
 sem:PS X st ts
 den:DS ⟨X.K,c⟩ pm ts f
structure QSs(st:List Stmt)(ts:TS)(f:FS):Prop where
 sem:PSs X st ts
 den:DS ⟨X.K,c⟩ pm ts f
structure QO(e:Option Expr)(t:TO)(p:OF):Prop where
 sem:PO X e t
 den:PO' ⟨X.K,c⟩ t p
structure QIf(ifs:List Expr)(tc:TT)(q:PTf):Prop where
 sem:PIf X ifs tc
 den:PTt ⟨X.K,c⟩ tc q
end
section
variable {cl:Nat->Addr}{pm:List Nat}{X:Cx}{a b c e o:Expr}{es:List Expr}{ta tb tc te:TE}{pa pb pc pe:PF}{tA tB:TT}{qa qb:PTf}{tr:TA}{pr:PAf}{pos:Pos}
def QP.bb(h:QP cl X e te pe):QB cl X e te pe:=⟨h.sem,PP.b h.den⟩
def QB.f(h:QB cl X e te pe):QP cl X e te (pF pe):=⟨h.sem,PB.f h.den⟩
def QP.d(h:QP cl X e te pe):QE cl X e te (dP pe):=⟨h.sem,PP.d h.den⟩
def joZ(i){x}(b:X.N[i]?=some x:=by rfl)(c:Vis X.env.scope x:=by first | exact Or.inl rfl | exact Or.inr (Or.inl rfl) | exact Or.inr<|Or.inr rfl)(hd:Nd x:=by decide)
  (a:(x==("__classdict__" : Str))=false:=by decide):QB cl X (.Name x pos) (jU i) (pV i):=⟨jhg b c hd a,jgI⟩
def jqf(i){x}(b:X.N[i]?=some x:=by rfl)(c:Vis X.env.scope x:=by first | exact Or.inl rfl | exact Or.inr (Or.inl rfl) | exact Or.inr<|Or.inr rfl)(hd:Nd x:=by decide)
  (a:(x==("__classdict__" : Str))=false:=by decide):QE cl X (.Name x pos) (jU i) (dMv i):=⟨jhg b c hd a,joV⟩
def jnx{i}{j}:QP cl X (.Constant (.int i) j pos) (tC<|.int i) (pI i):=⟨jgJ,jny λ_ _=>.int_mk⟩
def jqx{i}{j}:QP cl X (.Constant (.bool i) j pos) (tC<|.bl i) (pC<|.bl i):=⟨jph,jny λ_ _=>.bl_mk⟩
def joB{j}:QP cl X (.Constant .none j pos) (tC .non) (pC .non):=⟨jkO,jny λ_ _=>.non_mk⟩
def jod{x}{j}(l)(h:x=S l):QP cl X (.Constant (.str x) j pos) (tC<|.str x) (pS l):=⟨jl3,by subst h;exact jny λ_ _=>.str_mk⟩
def jqh{x}{p}(d)(a:X.mg x=some (.ref p))(b:∀ Z H,Rep ⟨X.K,cl⟩ Z H d (.ref p) [])(c:Gl X x:=by rfl)(hd:Nd x:=by decide):QP cl X (.Name x pos) (tC<|.ref p) (pC d):=
 ⟨jiK c a rfl hd,jny b⟩
def jkG(c:QB cl X a ta pa)(hb:QB cl X b tb pb):QP cl X (.BinOp a .Add b pos) (tOp (jbG X.K) ta tb) (p2 jk pa pb):=⟨K2 jd1 c.sem hb.sem,Qe jgS c.den hb.den⟩
def jpA(c:QB cl X a ta pa)(hb:QB cl X b tb pb):QP cl X (.BinOp a .Sub b pos) (tOp (rI0 λi j=>.int<|i-j) ta tb) (p2 Yo pa pb):=⟨K2 jlA c.sem hb.sem,Qe jlx c.den hb.den⟩
def joj(c:QB cl X a ta pa)(hb:QB cl X b tb pb):QP cl X (.BinOp a .Mult b pos) (tOp jjX ta tb) (p2 yR pa pb):=⟨K2 jh4 c.sem hb.sem,Qe jkZ c.den hb.den⟩
def jn6(c:QB cl X a ta pa)(hb:QB cl X b tb pb):QP cl X (.BinOp a .FloorDiv b pos) (tOp (rI (λ_ j=>jaO j=true) λi j=>.int<|i/j) ta tb) (p2 jH pa pb):=⟨K2 jgq c.sem hb.sem,Qe jlI c.den hb.den⟩
def jpb(c:QB cl X a ta pa)(hb:QB cl X b tb pb):QP cl X (.BinOp a .Mod b pos) (tOp (rI (λ_ j=>0<j) λi j=>.int<|i%j) ta tb) (p2 jl pa pb):=⟨K2 jgE c.sem hb.sem,Qe jhc c.den hb.den⟩
def jof(c:QB cl X a ta pa)(hb:QB cl X b tb pb):QP cl X (.BinOp a .Pow b pos) (tOp (rI jpd λi j=>.int<|i ^ j.toNat) ta tb) (p2 Jo pa pb):=⟨K2 jkJ c.sem hb.sem,Qe jk7 c.den hb.den⟩
def joR(b:QB cl X a ta pa):QP cl X (.UnaryOp .USub a pos) (tUn (rU λi=>.int<|-i) ta) (p1 QA pa):=⟨jo5 jnB b.sem,jow jkV b.den⟩
def joE(b:QB cl X a ta pa):QP cl X (.UnaryOp .Not a pos) (jiN ta) (jo2 pa):=⟨jl8 b.sem,jmi b.den⟩
structure CmpR(cl:Nat->Addr)(X:Cx)(op:CmpOp)(b:Expr)(r:R2)(g:D->D->Option D):Prop where
 o:OpR X (compareOp op) r
 g:BO ⟨X.K,cl⟩ r g
 m:behindInMarks op b=false
def jqr:CmpR cl X .Lt b (rI0 λi j=>.bl<|decide<|i<j) jkv:=⟨jom,jok,Ku _⟩
def jpZ:CmpR cl X .Gt b (rI0 λi j=>.bl<|decide<|j<i) YK:=⟨jn9,jok,Ku _⟩
def jqc:CmpR cl X .GtE b (rI0 λi j=>.bl<|decide<|j<=i) jpz:=⟨jps,jok,Ku _⟩
def jqp:CmpR cl X .Is b (λx y H Q=>y=.non/\Q (.bl<|decide<|x=.non) H) jfa:=⟨jkQ,jpy,Ku _⟩
def jp3(a:behindInMarks .In b=false):CmpR cl X .In b (jky X.K false) (QR false):=⟨jmh,jlN,a⟩
def c_notin(a:behindInMarks .NotIn b=false):CmpR cl X .NotIn b (jky X.K true) (QR true):=⟨jbL,jlN,a⟩
def jpt{c}{r}{g}(h:CmpR cl X c b r g)(d:QB cl X a ta pa)(hb:QB cl X b tb pb):QP cl X (.Compare a [c] [b] pos) (tOp r ta tb) (p2 g pa pb):=⟨jhS h.o d.sem hb.sem h.m,Qe h.g d.den hb.den⟩
def jmU{c}{r}{g}(h:CmpR cl X c b r g)(d:QB cl X a ta pa)(hb:QB cl X b tb pb):QT cl X (.Compare a [c] [b] pos) (Vg<|tOp r ta tb) (jj<|p2 g pa pb):=⟨jcQ h.o d.sem hb.sem h.m,jc1<|PP.b<|Qe h.g d.den hb.den⟩
def jnt(b:QB cl X a ta pa)(c:∀ whole,isTrue a X.env whole=(do let v <- whole;standAt a.pos;holding [v] (truthy v)):=by intro _;rfl):QT cl X a (L2.tB ta) (jj pa):=⟨jmn b.sem c,jc1 b.den⟩
def jlY(b:QT cl X a tA qa):QT cl X (.UnaryOp .Not a pos) (jo1 tA) (jkt qa):=⟨jnn b.sem,jhQ b.den⟩
def jhW(b:QT cl X a tA qa):QW cl X (.BoolOp .And [a] pos) tA qa:=⟨jb1 b.sem,b.den⟩
def jmN(b:QT cl X a tA qa):QW cl X (.BoolOp .Or [a] pos) tA qa:=⟨jhl b.sem,b.den⟩
def jmm(c:QT cl X a tA qa)(hb:QW cl X (.BoolOp .And (b::es) pos) tB qb):QW cl X (.BoolOp .And (a::b::es) pos) (jnk tA tB) (uQ qa qb):=⟨jgC c.sem hb.sem,jlE c.den hb.den⟩
def jos(c:QT cl X a tA qa)(hb:QW cl X (.BoolOp .Or (b::es) pos) tB qb):QW cl X (.BoolOp .Or (a::b::es) pos) (tOr tA tB) (qOr qa qb):=⟨jnu c.sem hb.sem,jo7 c.den hb.den⟩
def QW.t(h:QW cl X a tA qa):QT cl X a tA qa:=⟨PW.pt h.sem,h.den⟩
def jpE{b}(h:QP cl X a ta pa):QP cl X (.BoolOp b [a] pos) ta pa:=⟨jlX h.sem,h.den⟩
def jon(c:QB cl X a ta pa)(hb:QP cl X (.BoolOp .And (b::es) pos) tb pb):QP cl X (.BoolOp .And (a::b::es) pos) (jjU ta tb) (jj5 pa pb):=⟨jma c.sem hb.sem,jni c.den hb.den⟩
def jp4(d:QT cl X c tA qa)(e:QP cl X a ta pa)(hb:QP cl X b tb pb):QP cl X (.IfExp c a b pos) (tIf tA ta tb) (pIf qa pa pb):=⟨jgt d.sem e.sem hb.sem,jpD d.den e.den hb.den⟩
def jmP:QPs cl X [] JC pN:=⟨vI,pps_nil⟩
def jji(a:QP cl X e te pe)(b:QPs cl X es tr pr)(c:SEq X e es:=by rfl):QPs cl X (e::es) (jI te tr) (ja pe pr):=⟨jE a.sem b.sem c,jfA a.den b.den⟩
def jmD:QBs cl X [] JC pN:=⟨vI,jc2,λρ a e=>by cases e;rfl⟩
def jjn(b:QB cl X e te pe)(a:QBs cl X es tr pr)(c:SEq X e es:=by rfl):QBs cl X (e::es) (jI te tr) (ja pe pr):=
 ⟨jE b.sem a.sem c,jgy b.den a.den,λρ f h=>by
  refine ob h λx g h=>ob h λd e2 h=>?_;cases h;rw[M3,M3,a.n ρ d e2]⟩
def jn2{a}(h:QPs cl X es tr pr):QP cl X (.Tuple es a pos) (zi tr) (yF pr):=⟨Jg h.sem,jkL h.den⟩
def jpu(h:QPs cl X es tr pr):QP cl X (.List es pos) (joJ tr) (Yb pr):=⟨jm8 h.sem,jkY h.den⟩
def jpR(c:QB cl X a ta pa)(hb:QB cl X b tb pb)(d:VT b:=by exact λ_ _=>rfl):QB cl X (.Subscript a b pos) (tOp (rIx X.K) ta tb) (p2 jd pa pb):=⟨jj9 jcM c.sem hb.sem d,joI jnl c.den hb.den⟩
def jjQ:QO cl X none wH oN:=⟨jhA,jqm⟩
def ji1(h:QB cl X e te pe):QO cl X (some e) (jj4 te) (oS pe):=⟨jiV h.sem,jp0 h.den⟩
def jqn{lo hi}{tl th}{pl c}{b}(d:QB cl X a ta pa)(e:QO cl X lo tl pl)(f:QO cl X hi th c):QP cl X (.Subscript a (.Slice lo hi none b) pos) (tSl (jol X.K) ta tl th) (pSl pa pl c):=
 ⟨jgl jqg d.sem e.sem f.sem,jo4 d.den e.den f.den⟩
def OkF(P:Program)(w:World)(K:W4)(mg:W6)(x:Str)(st:Stmt)(k:Nat)(ps:List Str)(sp:Sp):Prop:=∃ f fd,FnFact K mg x x st f fd ps/\∀ base,FnOk P w K mg base CX0 k f fd ps sp
def jhn{k n}{ps}{m}{x}{st}{p}(O:OkF X.prog X.w X.K X.mg x st k ps<|spP ⟨X.K,cl⟩ m n)(d:Room k X.A)
  (a:QBs cl X (e::es) tr pr) (f:(e::es).length=n:=by rfl) (g:Gl X x:=by rfl) (b:Nd x:=by decide)
  (i:SEq X e es:=by rfl) (c:BkE X pos es:=by rfl):QP cl X (.Call (.Name x p) (e::es) [] pos) (qM (spP ⟨X.K,cl⟩ m n) [] E0 tr) (ju m pr):=by
 obtain⟨_,_,F,G⟩:=O;exact⟨jfl F (G _) d a.sem g b i c,jcP a.den λρ j h=>(a.n ρ j h).trans f⟩
def jin{k n}{f}{fd}{ps}{m}{x qual}{st}{p}(F:FnFact X.K X.mg x qual st f fd ps)(G:FnOk X.prog X.w X.K X.mg X.base CX0 k f fd ps<|spP ⟨X.K,cl⟩ m n)(b:Room k X.A)
  (c:0=n:=by rfl) (d:Gl X x:=by rfl) (a:Nd x:=by decide):QP cl X (.Call (.Name x p) [] [] pos) (qM (spP ⟨X.K,cl⟩ m n) [] E0 JC) (ju m pN):=
 ⟨jnr F G b d a,jcP jc2 λρ e h=>by cases h;exact c⟩
def VD{x}{p}{id}{r}{g}(d:qe X (.builtin id) r)(hb:BC ⟨X.K,cl⟩ r g)(f:X.mg x=none)(h:bootBuiltins x=some (.builtin id))(c:QBs cl X (e::es) tr pr)(i:Gl X x:=by rfl)
  (j:x≠"__name__":=by decide) (a:Nd x:=by decide) (k:SEq X e es:=by rfl) (b:BkE X pos es:=by rfl):
  QP cl X (.Call (.Name x p) (e::es) [] pos) (tCB r tr) (pCB g pr):=⟨K5 d i f h c.sem j a k b,jhs hb c.den⟩
def Qa{x}{p}{T}{r}{g}(d:qe X (.type T) r)(hb:BC ⟨X.K,cl⟩ r g)(f:X.mg x=none)(h:bootBuiltins x=some (.type T))(c:QBs cl X (e::es) tr pr)(i:Gl X x:=by rfl)
  (j:x≠"__name__":=by decide) (a:Nd x:=by decide) (k:SEq X e es:=by rfl) (b:BkE X pos es:=by rfl):
  QP cl X (.Call (.Name x p) (e::es) [] pos) (tCB r tr) (pCB g pr):=⟨zM d i f h c.sem j a k b,jhs hb c.den⟩
def joH(b:X.mg "len" = none){p}(c:QBs cl X [e] tr pr)(d:Gl X "len":=by rfl)(f:starEach [e] X.env=(false,eval e X.env)::starEach [] X.env:=by rfl)(a:(backTo pos<|starEach [] X.env).any (·.1)=false:=by rfl):
  QP cl X (.Call (.Name "len" p) [e] [] pos) (tCB (λxs H Q=>∃ x n,xs=[x]/\joP X.K x H n/\Q (.int n) H) tr) (pCB qj pr):=VD je1 jlV b PySem.boot_len c d (by decide) (by decide) f a
def ze:bootBuiltins "sum" = some (.builtin "sum"):=by decide +kernel
def jcr:bootBuiltins "max" = some (.builtin "max"):=by decide +kernel
def xv:bootBuiltins "min" = some (.builtin "min"):=by decide +kernel
def YN:bootBuiltins "isinstance" = some (.builtin "isinstance"):=by decide +kernel
def zN:bootBuiltins "int" = some (.type "int"):=by decide +kernel
def jdL:bootBuiltins "str" = some (.type "str"):=by decide +kernel
def Yi:bootBuiltins "list" = some (.type "list"):=by decide +kernel
def Y5:bootBuiltins "tuple" = some (.type "tuple"):=by decide +kernel
def jbh:bootBuiltins "bool" = some (.type "bool"):=by decide +kernel
def jaE:bootBuiltins "dict" = some (.type "dict"):=by decide +kernel
def jbv{T}{x}{p p1}(j:T∈["bool","int","str","tuple","list","dict"])(k:X.mg "isinstance" = none)(c:X.mg x=none)(d:bootBuiltins x=some (.type T))(h:QB cl X a ta pa)(l:Gl X "isinstance":=by rfl)(e:Gl X x:=by rfl)
  (m:x≠"__name__":=by decide) (f:Nd x:=by decide) (i:starEach [a,.Name x p1] X.env=(false,eval a X.env)::starEach [.Name x p1] X.env:=by rfl) (g:(backTo pos<|starEach [.Name x p1] X.env).any (·.1)=false:=by rfl)
  (h1:starEach [.Name x p1] X.env=(false,eval (.Name x p1) X.env)::starEach [] X.env:=by rfl):
  QP cl X (.Call (.Name "isinstance" p) [a,.Name x p1] [] pos) (tCB (λxs H Q=>∃ x T t b,xs=[x,.ty T]/\TyQ X.K H x t/\PySem.W.kitOne X.K (.type t) (.type T)=some b/\Q (.bl b) H)<|jI ta<|jI (tC<|.ty T) JC) (xj T pa):=
 ⟨K5 xa l k YN (jE h.sem (jE (jhw e c d rfl m f) vI h1) i) (by decide) (by decide) i g,jkR j h.den⟩
variable {tg iter elt:Expr}{ifs:List Expr}{wi:TI}{pi:PAf}{t:TG}{g:D->Rh->Option Rh}
def jmj(h:QP cl X e te pe):QI cl X tg e (jlt X.K te) (pIt pe):=⟨jg2 h.sem,joe h.den⟩
def jiT{p}(b:X.mg "range" = none)(h:QBs cl X [a] tr pr)(c:Gl X "range":=by rfl)(d:starEach [a] X.env=[(false,eval a X.env)]:=by rfl):QI cl X tg (.Call (.Name "range" p) [a] [] pos) (jde tr) (kG pr):=⟨Q4 c b h.sem d,jhy h.den⟩
def jie{elts}{n}{tpos p}(b:X.mg "enumerate" = none)(h:QPs cl X [a] tr pr)(c:Gl X "enumerate":=by rfl)(d:starEach [a] X.env=[(false,eval a X.env)]:=by rfl):QI cl X (.Tuple elts n tpos) (.Call (.Name "enumerate" p) [a] [] pos) (jh8 X.K tr) (Vn pr):=⟨jjh c b h.sem d,jgv h.den⟩
def jhC{i}{x}(a:X.N.Nodup)(hi:X.N[i]?=some x:=by rfl)(b:Loc X.env.scope x:=by first | exact Or.inl rfl | exact Or.inr rfl)(c:X.fn x=true\/X.env.scope.names.lookup x=some .local:=by first | exact .inl rfl | exact .inr rfl):
  QG cl pm X (.Name x pos) (vX i) (jc pm i):=⟨jbw a hi b c,jgA⟩
def jiW:QGs cl pm X [] je8 gN:=⟨jit,jfJ⟩
def jfM{ts}{a}(h1:QG cl pm X e t g)(h2:QGs cl pm X es ts a)(b:(assignEach (e::es) X.env).map (·.2)=assign e X.env::(assignEach es X.env).map (·.2):=by rfl):QGs cl pm X (e::es) (JA t ts) (gC g a):=⟨jeA h1.sem h2.sem b,jdI h1.den h2.den⟩
def jgP{ts}{b}{k n}(c:X.calm=true)(h:QGs cl pm X es ts b)(d:(assignEach es X.env).length=n:=by rfl)(a:(assignEach es X.env).findIdx? (·.1)=none:=by rfl):QG cl pm X (.Tuple es k pos) (jeq X.K n ts) (gT n b):=⟨jmH c h.sem d a,jjd h.den⟩
def jgr:QIf cl X [] (λ_ H Q=>Q true H) qT:=⟨.inl ⟨rfl,rfl⟩,jhG⟩
def jgn(h:QT cl X c tA qa):QIf cl X [c] tA qa:=⟨.inr ⟨c,rfl,h.sem⟩,h.den⟩
variable {st:Stmt}{J7:List Stmt}{ts tu:TS}{f fe:FS}{fE:FE}
def jiY:QSs cl pm X [] jhP jN:=⟨jjL,jhN⟩
def jiw(h:QS cl pm X st ts f):QSs cl pm X [st] ts f:=⟨jhU h.sem,h.den⟩
def jfI(h:QS cl pm X st ts f)(k:QSs cl pm X J7 tu fe):QSs cl pm X (st::J7) (jov ts tu) (jf f fe):=⟨je6 h.sem k.sem,jkK h.den k.den⟩
def jir(h:QE cl X e te fE)(a:swapsWith e none pos.line X.env=pure false:=by rfl):QS cl pm X (.Expr e pos) (JV te) (KO fE):=⟨Yw h.sem a,jkf h.den⟩
def jk0(h:QE cl X e te fE):QS cl pm X (.Return (some e) pos) (jpv te) (yb fE):=⟨jm9 h.sem,jmL h.den⟩
def joT{x y}(a:QT cl X c tA qa)(b:QSs cl pm X x ts f)(hb:QSs cl pm X y tu fe):QS cl pm X (.If c x y pos) (jnJ tA ts tu) (sIf (dPT qa) f fe):=⟨jlS a.sem b.sem hb.sem,jmk (PTt.d a.den) b.den hb.den⟩
def jlF{i}{x}{pos'}(a:X.N.Nodup)(h:QE cl X e te fE)(hi:X.N[i]?=some x:=by rfl)(b:Loc X.env.scope x:=by first | exact Or.inl rfl | exact Or.inr rfl)(c:swapsWith e (some<|.Name x pos') pos.line X.env=pure false:=by rfl)
  (d:X.fn x=true\/X.env.scope.names.lookup x=some .local:=by first | exact .inl rfl | exact .inr rfl):QS cl pm X (.Assign [.Name x pos'] e pos) (jhh te<|vX i) (jt fE<|jc pm i):=⟨jmS a hi b h.sem c d,uq h.den Vx⟩
@[simp] def sAsgT(fe:FE)(G:D->Rh->Option Rh)(ρ:Rh):Option Out:=(fe ρ).bind λx=>(bif frz x.1 then G x.1 x.2 else none).bind λr=>some<|.nx r
def jf6{i}{x}{a c}(d:QB cl X (.Name x a) (jU i)<|pV i)(hi:QB cl X b tb pb)(h:QE cl X e te fE)
  (f:∀ v,assign (.Subscript (.Name x a) b c) X.env v=(do
   let ov <- holding [v] (eval (.Name x a) X.env)
   let iv <- holding [v,ov] (eval b X.env)
   standAt c
   holding [v,ov,iv] (setItem ov iv v)
   release [v,ov,iv] []):=by intro _;rfl)
  (g:swapsWithSole [.Subscript (.Name x a) b c] e pos.line X.env=pure false:=by rfl) (j:swappedStores [.Subscript (.Name x a) b c] e X.env=pure none:=by rfl)
  (h1:(assignEach [.Subscript (.Name x a) b c] X.env).map (·.2)=[assign (.Subscript (.Name x a) b c) X.env]:=by rfl):
  QS cl pm X (.Assign [.Subscript (.Name x a) b c] e pos) (jhh te<|jn3 (jU i) tb jbH) (jt fE<|gIx pm i pb):=⟨jmx h.sem (jlr d.sem hi.sem jau f) g j h1,uq h.den<|jpo hi.den⟩
def jfS:jpI X (jld X.K):=by
 intro a s σ H o i A B Q I r1 r2 h;obtain⟨p,C,k,z,rfl,rfl,m,n,q⟩:=h;cases r1;obtain⟨t,rfl⟩:=r2;obtain⟨d,r,pl,D⟩:=I.list m;obtain⟨j,c,u,E,v,x⟩:=KY n;obtain⟨w,g,e⟩:=r.get u;have y:=r.length;have F:=Q5;have b:EP X a σ Q w s:=⟨z,H,I,e,q⟩;by_cases l:0<=k
 ·have f:k.toNat=j:=by
   rw[seqIndex_of l x] at c;exact X7 c
  exact wpAny_getItem_list pl.isList l ∅ (by rw[f];simpa using g) b
 ·have f:(k+d.toArray.size).toNat=j:=by
   rw[seqIndex_neg ∅ v] at c;rw[N4,<- y];exact X7 c
  exact wpAny_getItem_list_neg pl.isList ∅ (by rw[N4]<;>lia) ∅ (by rw[f];simpa using g) b
def jgz{i}{x}{a c}{f}{d}(g:QB cl X (.Name x a) (jU i)<|pV i)(hi:QB cl X b tb pb)(j:PIp X f<|ipI d)(h:QB cl X e te pe)
  (k:∀ ov iv new,augStore b ov iv new=(do holding [new,ov,iv] (setItem ov iv new);release [new,ov,iv] [];pure .next):=by intros;rfl):QS cl pm X (.AugAssign (.Subscript (.Name x a) b c) f e pos) (jju (jU i) tb te (jld X.K) (ipI d) jbH) (xr i pb d pe):=
 ⟨jil g.sem hi.sem jfS h.sem j jau k,jfm hi.den h.den⟩
@[simp] def jfW(pm:List Nat)(i:Nat)(g:Int->Int->Int)(pa:PF)(ρ:Rh):Option Out:=(pV i ρ).bind λx=>(vz x).bind λa=>(pa ρ).bind λy=>(vz y).bind λb=>(jc pm i (.int<|g a b) ρ).bind λr=>some<|.nx r
def jiq{R}{i}{b}{p}(h:PB R te p):DS R pm (joz i te<|ipI b) (jfW pm i b p):=by
 intro σ ρ Z H O o w s e m k;refine ob e λc1 a e=>ob e λx e3 e=>ob e λn f e=>ob e λy g e=>ob e λq e2 e=>?_;cases e;cases jK e3;cases jK g;have a:=Ys a;obtain⟨A,P,B,rfl,j,_,_⟩:=s.put (L9.mp a).1;obtain⟨v,l,r⟩:=j _ a;obtain⟨rfl,_⟩:=r.int_of;refine⟨_,l,h w.zd s f λ{u t z C} c r1=>?_⟩;obtain⟨rfl,_⟩:=r1.int_of;have d:=c.widen w;exact⟨x,y,rfl,rfl,Vx d.wf (Rep.int_mk) (c.slots w.zd s) e2 λg2 s2 k2=>k (d.trans g2) s2 k2⟩
def jhH{i}{x}{pos'}{b}{a}(c:X.N.Nodup)(d:PIp X b<|ipI a)(h:QB cl X e te pe)(hi:X.N[i]?=some x:=by rfl)(f:Loc X.env.scope x:=by first | exact Or.inl rfl | exact Or.inr rfl)
  (g:X.fn x=true\/X.env.scope.names.lookup x=some .local:=by first | exact .inl rfl | exact .inr rfl):QS cl pm X (.AugAssign (.Name x pos') b e pos) (joz i te<|ipI a) (jfW pm i a pe):=⟨jlo c hi f h.sem d g,jiq h.den⟩
def jmb{i}{x}{a apos cpos}(j:QB cl X (.Name x a) (jU i)<|pV i)(h:QP cl X e te pe)(c:attributeBase (.Name x a) "append" X.env (eval (.Name x a) X.env)=eval (.Name x a) X.env:=by rfl)
  (f:((backTo cpos<|starEach [e] X.env).all (λx=>!x.1)&&(backToKw cpos<|keywordEach [] X.env).all (λx=>x.1.isSome)
   && decide ([e].length+([]:List Keyword).length+(if([]:List Keyword).isEmpty then 0 else 1)<30))=true:=by rfl)
  (d:(apos.endLine==cpos.line)=true:=by rfl) (g:starEach [e] X.env=(false,eval e X.env)::starEach [] X.env:=by rfl) (b:(backTo cpos<|starEach [] X.env).any (·.1)=false:=by rfl)
  (hsw:swapsWith (.Call (.Attribute (.Name x a) "append" apos) [e] [] cpos) none pos.line X.env=pure false:=by rfl):
  QS cl pm X (.Expr (.Call (.Attribute (.Name x a) "append" apos) [e] [] cpos) pos) (JV<|tBM X.K "list" Jr (jU i)<|jI te JC) (jaz i pe):=
 ⟨Yw (jcZ PySem.F.plainAttrs_list PySem.F.slot_list_append PySem.F.type_list_append JL j.sem (jE h.sem vI g) c f d g b) hsw,jlQ h.den⟩
def jlw{body}(b:PassesOwn (model X.prog X.w) X.A X.env X.xe)(c:X.calm=true)(hi:QI cl X tg iter wi pi)(a:QG cl pm X tg t g)(hb:QSs cl pm X body ts f)(d:∀ x,foldedSetIterable iter X.env x=pure x:=by intro _;rfl):QS cl pm X (.For tg iter body [] pos) (jll wi t ts) (qh pi g f):=
 ⟨jhf b c hi.sem a.sem hb.sem d,jkM hi.den a.den hb.den⟩
def QS.fz(i)(h:QS cl pm X st ts f):QS cl pm X st ts (sFz i f):=⟨h.sem,joD h.den⟩
def joU{P}{w}{K}{mg}{base}{x qual}{a}{fa}{fd}{N ps}{k n}{fs}(F:Fun K x qual a fa fd)(c:FnScope N ps<|jD a)(d:ps.length=n)
  (b:∀ cdv A outer s H E,Room k (A.deeper<|envOfC qual (jD a) ↥s fa cdv) ->
   ∃ ts,QSs cl [] (jhb CX0 P w K mg base N qual (jD a) fa cdv A outer s H E).nox (vO a) ts fs):FnOk P w K mg base CX0 (k+1) fa fd ps (spP ⟨K,cl⟩ (fnP N.length fs) n):=by
 refine F.ok c (λvs H Q E h=>by rw[jjK h,d]) λcdv A outer s H vs Q E e h=>?_;obtain⟨ts,q⟩:=b cdv A outer s H E e;exact⟨ts,q.sem,jhz q.den h⟩
end
mutual
noncomputable def jdD:D->PyData
 | .non=>.none | .bl b=>.bool b | .int i=>.int i | .str s=>.str<|S s
 | .tup l=>.tuple<|qA l
 | .lst _ l=>.list<|qA l
 | .dK _ _ _=>.none | .dT _ _ _=>.none | .ins _ _ _ _=>.none | .dead=>.none | .tok _=>.none | .kt _=>.none | .exc _ _=>.none
noncomputable def qA:List D->List PyData
 | []=>[]
 | d::l=>jdD d::qA l
end
mutual
noncomputable def okE:Nat->D->Bool
 | _,.non=>true | _,.bl _=>true | _,.int _=>true
 | _,.str s=>s.all λc=>decide<|c<1114112
 | n+1,.tup l=>kz n l
 | n+1,.lst _ l=>kz n l
 | _,_=>false
noncomputable def kz:Nat->List D->Bool
 | _,[]=>true
 | n,d::l=>okE n d&&kz n l
end
mutual
noncomputable def eqD:D->D->Bool
 | .non,y=>match y with | .non=>true | _=>false
 | .bl a,y=>match y with | .bl b=>a==b | .int j=>(if a then 1 else 0)==j | _=>false
 | .int i,y=>match y with | .bl b=>i==(if b then 1 else 0) | .int j=>i==j | _=>false
 | .str a,y=>match y with | .str b=>a==b | _=>false
 | .tup l,y=>match y with | .tup m=>xA l m | _=>false
 | .lst _ l,y=>match y with | .lst _ m=>xA l m | _=>false
 | _,_=>false
noncomputable def xA:List D->List D->Bool
 | [],[]=>true
 | x::l,y::m=>eqD x y&&xA l m
 | _,_=>false
end
noncomputable def jqe:D->Bool
 | .non=>true | .bl _=>true | .int _=>true | .str _=>true | .tup _=>true | .lst _ _=>true | _=>false
def yA{n x}{p:Prop}(h:okE n x=true)(k:jqe x=false):p:=by
 cases x<;>cases k<;>cases n<;>cases h
theorem Qm:∀ n l,kz n l=l.all (okE n)
 | _,[]=>rfl
 | n,d::l=>by rw[kz,Qm n l];rfl
mutual
theorem jdT:∀(n:Nat) (x y:D),okE n x=true->okE n y=true->PyData.eqv (jdD x) (jdD y)=eqD x y
 | n,.non,y,hx,hy=>by cases y<;>first | rfl | (cases n<;>simp_all [okE])
 | n,.bl a,y,hx,hy=>by cases y<;>first | rfl | (cases n<;>simp_all [okE])
 | n,.int a,y,hx,hy=>by cases y<;>first | rfl | (cases n<;>simp_all [okE])
 | n,.str a,y,hx,hy=>by
  cases y with
  | str b=>
   show(S a==S b)=(a==b);rw[Bool.eq_iff_iff];simp[joo]
  | _=>first | rfl | (cases n<;>simp_all [okE])
 | 0,.tup l,y,hx,hy=>by simp[okE] at hx
 | n+1,.tup l,y,hx,hy=>by
  cases y with
  | tup m=>show PyData.eqvAll (qA l) (qA m)=xA l m;exact wY n l m (by simpa [okE] using hx) (by simpa [okE] using hy)
  | _=>first | rfl | (simp_all [okE])
 | 0,.lst o l,y,hx,hy=>by simp[okE] at hx
 | n+1,.lst o l,y,hx,hy=>by
  cases y with
  | lst o' m=>show PyData.eqvAll (qA l) (qA m)=xA l m;exact wY n l m (by simpa [okE] using hx) (by simpa [okE] using hy)
  | _=>first | rfl | (simp_all [okE])
 | n,.dK _ _ _,y,hx,hy=>yA hx rfl
 | n,.dT _ _ _,y,hx,hy=>yA hx rfl
 | n,.ins _ _ _ _,y,hx,hy=>yA hx rfl
 | n,.dead,y,hx,hy=>yA hx rfl
 | n,.tok _,y,hx,hy=>yA hx rfl
 | n,.kt _,y,hx,hy=>yA hx rfl
 | n,.exc _ _,y,hx,hy=>yA hx rfl
theorem wY:∀(n:Nat) (l m:List D),kz n l=true->kz n m=true->PyData.eqvAll (qA l) (qA m)=xA l m
 | n,[],[],_,_=>rfl
 | n,[],_::_,_,_=>rfl
 | n,_::_,[],_,_=>rfl
 | n,x::l,y::m,hx,hy=>by
  rw[kz,M0] at hx hy;show(PyData.eqv (jdD x) (jdD y)&&PyData.eqvAll (qA l) (qA m))=(eqD x y&&xA l m);rw[jdT n x y hx.1 hy.1,wY n l m hx.2 hy.2]
end
mutual
theorem uU:∀(n:Nat) (x:D),okE n x=true->(jdD x).canLay0=true/\(jdD x).depth<=n
 | n,.non,_=>⟨rfl,U6 _⟩
 | n,.bl _,_=>⟨rfl,U6 _⟩
 | n,.int _,_=>⟨rfl,U6 _⟩
 | n,.str s,h=>by
  refine⟨?_,U6 _⟩;have h:(s.all λc=>decide<|c<1114112)=true:=by cases n<;>simpa [okE] using h
  show PyData.strOk (S s)=true;unfold PyData.strOk S;rw[Array.all_eq_true'];intro c hc;rw[List.all_eq_true] at h;exact h c ⇑hc
 | 0,.tup l,h=>by simp[okE] at h
 | n+1,.tup l,h=>by
  obtain⟨h1,h2⟩:=Vp n l (by simpa [okE] using h);exact⟨h1,Nat.succ_le_succ h2⟩
 | 0,.lst o l,h=>by simp[okE] at h
 | n+1,.lst o l,h=>by
  obtain⟨h1,h2⟩:=Vp n l (by simpa [okE] using h);exact⟨h1,Nat.succ_le_succ h2⟩
 | n,.dK _ _ _,hx=>yA hx rfl
 | n,.dT _ _ _,hx=>yA hx rfl
 | n,.ins _ _ _ _,hx=>yA hx rfl
 | n,.dead,hx=>yA hx rfl
 | n,.tok _,hx=>yA hx rfl
 | n,.kt _,hx=>yA hx rfl
 | n,.exc _ _,hx=>yA hx rfl
theorem Vp:∀(n:Nat) (l:List D),kz n l=true->PyData.canLayAll0 (qA l)=true/\PyData.depthAll (qA l)<=n
 | n,[],_=>⟨rfl,U6 _⟩
 | n,x::l,h=>by
  rw[kz,M0] at h;obtain⟨h1,h2⟩:=uU n x h.1;obtain⟨h3,h4⟩:=Vp n l h.2;rw[qA];refine⟨?_,?_⟩
  ·show((jdD x).canLay0&&PyData.canLayAll0 (qA l))=true;rw[h1,h3];rfl
  ·show max (jdD x).depth (PyData.depthAll<|qA l)<=n;exact Nat.max_le.mpr ⟨h2,h4⟩
end
mutual
theorem Rep.reads(I:Inv X pins σ H s):∀(n:Nat) {x:D}{v:V}{u:Value}{O:W5},Rep ⟨X.K,cl⟩ Z H x v O->RelV v u->okE n x=true->∃ as,Reads s.heap u (jdD x) as
 | n,.non,_,_,_,r,q,_=>by obtain⟨rfl,_⟩:=r.non_of;cases q;exact⟨_,.none⟩
 | n,.bl b,_,_,_,r,q,_=>by obtain⟨rfl,_⟩:=r.bl_of;cases q;exact⟨_,.bool b⟩
 | n,.int i,_,_,_,r,q,_=>by obtain⟨rfl,_⟩:=r.int_of;obtain⟨t,rfl⟩:=q;exact⟨_,.int i t⟩
 | n,.str w,_,_,_,r,q,_=>by obtain⟨rfl,_⟩:=r.str_of;obtain⟨t,rfl⟩:=q;exact⟨_,.str _ t⟩
 | 0,.tup l,_,_,_,r,q,h=>by simp[okE] at h
 | n+1,.tup l,_,_,_,r,q,h=>by
  obtain⟨a,vs,rfl,hx,rs⟩:=r.tup_of;cases q;obtain⟨its,rv,⟨o,h1,h2,k,h3⟩,_⟩:=I.tuple hx;obtain⟨as,hr⟩:=Reps.reads I n rs rv (by simpa [okE] using h);exact⟨_,reads_tuple_at h1 h2 h3 ⇑hr⟩
 | 0,.lst o l,_,_,_,r,q,h=>by simp[okE] at h
 | n+1,.lst o l,_,_,_,r,q,h=>by
  obtain⟨a,vs,O',rfl,hx,rs⟩:=r.lst_of;cases q;obtain⟨its,rv,⟨o,k,h1,h2,_,h3⟩,_⟩:=I.list hx.sq;obtain⟨as,hr⟩:=Reps.reads I n rs rv (by simpa [okE] using h);exact⟨_,reads_list_at h1 h2 h3 ⇑hr⟩
 | n,.dK _ _ _,_,_,_,_,_,hx=>yA hx rfl
 | n,.dT _ _ _,_,_,_,_,_,hx=>yA hx rfl
 | n,.ins _ _ _ _,_,_,_,_,_,hx=>yA hx rfl
 | n,.dead,_,_,_,_,_,hx=>yA hx rfl
 | n,.tok _,_,_,_,_,_,hx=>yA hx rfl
 | n,.kt _,_,_,_,_,_,hx=>yA hx rfl
 | n,.exc _ _,_,_,_,_,_,hx=>yA hx rfl
theorem Reps.reads(I:Inv X pins σ H s):∀(n:Nat) {l:List D}{vs:List V}{us:List Value}{O:W5},Reps ⟨X.K,cl⟩ Z H l vs O->Vals vs us->kz n l=true->∃ as,ReadsAll s.heap us (qA l) as
 | n,[],_,_,_,r,q,_=>by rw[Reps] at r;obtain⟨rfl,_⟩:=r;cases q;exact⟨_,.nil⟩
 | n,x::l,_,_,_,r,q,h=>by
  rw[Reps] at r;obtain⟨v,vs,O1,O2,rfl,rfl,r1,r2⟩:=r;rw[kz,M0] at h;cases q with
  | cons q1 q2=>
   obtain⟨as,h1⟩:=Rep.reads I n r1 q1 h.1;obtain⟨bs,h2⟩:=Reps.reads I n r2 q2 h.2;exact⟨_,.cons h1 h2⟩
end
def jhK(R:RC)(neg:Bool):R2:=λx y H Q=>∃ Z d e O P,Rep R Z H d x O/\Rep R Z H e y P/\okE 20 d=true/\okE 20 e=true/\Q (.bl<|neg != eqD d e) H
def jnM(h:okE 20 x=true):SeqAt.shaped (jdD x)=true:=by
 obtain⟨a,b⟩:=uU 20 x h;unfold SeqAt.shaped;rw[a,Bool.true_and];exact X4<|N8 b (by decide)
def jlz(f:X.A.units+64<cLine):OpR X (compareOp .Eq) (jhK ⟨X.K,cl⟩ false):=by
 intro c s σ H x y v u Q I g i h;obtain⟨Z,d,e,O,P,r1,r2,a,b,q⟩:=h;obtain⟨l,j⟩:=r1.reads I 20 g a;obtain⟨bs,k⟩:=r2.reads I 20 i b;refine eq_dataH j k (jnM a) (jnM b) f ?_;rw[jdT 20 d e a b];exact⟨.bl _,H,I,rfl,by simpa using q⟩
def jl7(f:X.A.units+64<cLine):OpR X (compareOp .NotEq) (jhK ⟨X.K,cl⟩ true):=by
 intro c s σ H x y v u Q I g i h;obtain⟨Z,d,e,O,P,r1,r2,a,b,q⟩:=h;obtain⟨l,j⟩:=r1.reads I 20 g a;obtain⟨bs,k⟩:=r2.reads I 20 i b;refine ne_dataH j k (jnM a) (jnM b) f ?_;rw[jdT 20 d e a b];exact⟨.bl _,H,I,rfl,by simpa using q⟩
def kH(x y:D):Option D:=bif Jn x&&Jn y&&Ql x y then some (.bl<|eqF x y) else bif okE 20 x&&okE 20 y then some (.bl<|eqD x y) else none
def QU(x y:D):Option D:=bif Jn x&&Jn y&&Ql x y then some (.bl<|!eqF x y) else bif okE 20 x&&okE 20 y then some (.bl<|!eqD x y) else none
def jn4:BO R (λx y H Q=>rEq x y H Q\/jhK R false x y H Q) kH:=by
 intro Z H x y d v u f g z b c e Q k;unfold kH at e;cases hl:Jn x&&Jn y&&Ql x y with
 | true=>
  rw[hl] at e;cases e;obtain⟨h,i⟩:=jcn b c hl;exact .inl ⟨h,by rw[i];exact k (Go.id z) .bl_mk⟩
 | false=>
  rw[hl,cond_false] at e;refine oc e λa e=>?_;cases e;rw[M0] at a;exact .inr ⟨Z,x,y,f,g,b,c,a.1,a.2,by simpa using k (Go.id z) .bl_mk⟩
def jnW:BO R (λx y H Q=>rNe x y H Q\/jhK R true x y H Q) QU:=by
 intro Z H x y d v u f g z b c e Q k;unfold QU at e;cases hl:Jn x&&Jn y&&Ql x y with
 | true=>
  rw[hl] at e;cases e;obtain⟨h,i⟩:=jcn b c hl;exact .inl ⟨h,by rw[i];exact k (Go.id z) .bl_mk⟩
 | false=>
  rw[hl,cond_false] at e;refine oc e λa e=>?_;cases e;rw[M0] at a;exact .inr ⟨Z,x,y,f,g,b,c,a.1,a.2,by simpa using k (Go.id z) .bl_mk⟩
def jp1(a:Room k X.A):CmpR cl X .Eq b (λx y H Q=>rEq x y H Q\/jhK ⟨X.K,cl⟩ false x y H Q) kH:=⟨YH jpn<|jlz a.units,jn4,Ku _⟩
def c_ne(a:Room k X.A):CmpR cl X .NotEq b (λx y H Q=>rNe x y H Q\/jhK ⟨X.K,cl⟩ true x y H Q) QU:=⟨YH jor<|jl7 a.units,jnW,Ku _⟩
def BM(R:RC)(T:String)(r:V->List V->Hp->VK->Prop)(g:D->List D->Option D):Prop:=∀{Z}{H}{x d}{xs}{v}{vs}{O1 O2},Zd Z H->Rep R Z H x v O1->Reps R Z H xs vs O2->g x xs=some d ->
 ∀{Q},(∀{w}{Z'}{H'}{P},Go Z H [] Z' H' P->Rep R Z' H' d w P->Q w H')->r v vs H Q
noncomputable def isT:String->D->Bool
 | "str",.str _=>true
 | _,_=>false
@[simp] def pBM(T:String)(g:D->List D->Option D)(pa:PF)(pr:PAf)(ρ:Rh):Option D:=(pa ρ).bind λx=>bif isT T x then(pr ρ).bind λxs=>g x xs else none
def jmT(r:Rep R Z H x v O)(h:isT T x=true):tyV R.K T v H:=by
 unfold isT at h;split at h
 ·obtain⟨rfl,_⟩:=r.str_of;rfl
 ·cases h
def joW(b:BM R T r g)(c:PB R to pa)(f:PBs R ta pr):PP R (tBM R.K T r to ta) (pBM T g pa pr):=by
 intro σ ρ Z H O d z s e Q k;exact ob e λx h e=>oc e λi e=>ob e λl e2 e=>(c z s h λ{v m n o} a r1=>⟨jmT r1 i,(f a.wf.zd (a.slots z s) e2 λ{vs p q t} g2 r2=>(b g2.wf.zd (g2.rep a.wf.zd r1) r2 e λg3 j=>k ((a.pair g2).pair g3) j))⟩)
end QD
namespace QD
open PySem L2
section
variable {R:RC}{Z Z':Zn}{H H':Hp}{pm:List Nat}
def ItB(R:RC)(J:It)(Z:Zn)(H:Hp)(xs:List D):Prop:=∀{Z1}{H1},(∀ a,Z a->Z1 a)->(∀ a,H a≠none->H1 a=H a)->Zd Z1 H1->∀ i:Nat,
 (xs.length<=i->J.stop i H1)/\∀ x,xs[i]?=some x->J.go i H1/\∀ u H2,J.yld i H1 u H2->∃ Z2,Go Z1 H1 [] Z2 H2 []/\Rep R Z2 H2 x u []
def jnR(R:RC)(wi:TI)(p:PAf):Prop:=∀{σ}{ρ}{Z}{H}{O}{xs},Zd Z H->Slots R Z H ρ σ O->p ρ=some xs ->
 ∀{Q:It->Hp->Prop},(∀{J}{Z'}{H'},Go Z H [] Z' H' []->ItB R J Z' H' xs->Q J H')->wi σ H Q
def PIt.b(h:PIt R wi p):jnR R wi p:=by
 intro σ ρ Z H O j z s e Q k;refine h z s e λg c=>k g ?_;intro l m d f zd i;exact c d (λa z=>f a<|g.wf.zd a z) zd i
def itB:D->Option (List D)
 | .lst _ l=>bif frzs l then some l else none
 | .tup l=>bif frzs l then some l else none
 | .str s=>some<|s.map λc=>.str [c]
 | _=>none
@[simp] def Yz(p:PF)(ρ:Rh):Option (List D):=(p ρ).bind itB
def jff(b:∀ a,H a≠none->H' a=H a)(h:SqX K H a vs):SqX K H' a vs:=by
 rcases h with h | h
 ·refine .inl<|Rd.agree (b a ?_) h;rcases h with h | ⟨o,h⟩<;>rw[h]<;>exact λz=>(nomatch z)
 ·exact .inr h
def jeO(b:∀ a,H a≠none->H' a=H a)(h:SqT K H a vs):SqT K H' a vs:=by
 rcases h with h | h
 ·refine .inl<|Rd.agree (b a ?_) h;rcases h with h | ⟨o,h⟩<;>rw[h]<;>exact λz=>(nomatch z)
 ·exact .inr h
def jnj(h:PB R te p):jnR R (jlt R.K te) (Yz p):=by
 intro σ ρ Z H O N z s e Q k;refine ob e λc C e=>?_;cases c with
 | lst o l=>
  refine oc e λD e=>?_;cases e;refine h z s C λ{v G I J} f r1=>?_;obtain⟨a,vs,P,rfl,q,r⟩:=r1.lst_of;have E:=r.frozen D;refine .inl ⟨a,rfl,⟨vs,q.sq⟩,k f ?_⟩;intro B L y g zd i;have d:=SqX.sq<|jff g q;have j:=E.frame y (λb z=>g b<|f.wf.zd b z) λb hb=>(nomatch hb);refine⟨λhi=>⟨vs,d,by rw[r.length];exact hi⟩,λx m=>?_⟩;obtain⟨u,A,F⟩:=j.item m;refine⟨⟨vs,u,d,A⟩,λw M n=>?_⟩;obtain⟨rfl,n⟩:=n;have e2:=n vs d;rw[A] at e2;cases e2;exact⟨B,Go.id zd,F⟩
 | tup l=>
  refine oc e λD e=>?_;cases e;refine h z s C λ{v G I J} f r1=>?_;obtain⟨a,vs,rfl,q,r⟩:=r1.tup_of;refine .inr<|.inl ⟨a,rfl,⟨vs,q⟩,k f ?_⟩;intro B L y g zd i;have d:=jeO g q;have j:=(r.frozen D).frame y (λb z=>g b<|f.wf.zd b z) λb hb=>(nomatch hb);refine⟨λhi=>⟨vs,d,by rw[r.length];exact hi⟩,λx m=>?_⟩;obtain⟨u,A,F⟩:=j.item m;refine⟨⟨vs,u,d,A⟩,λw M n=>?_⟩;obtain⟨rfl,n⟩:=n;have e2:=n vs d;rw[A] at e2;cases e2;exact⟨B,Go.id zd,F⟩
 | str t=>
  cases e;refine h z s C λ{v G I J} f r1=>?_;obtain⟨rfl,_⟩:=r1.str_of;refine .inr<|.inr ⟨t,rfl,k f ?_⟩;intro B L y g zd i;exact jgH y (λb z=>g b<|f.wf.zd b z) zd i
 | _=>cases e
inductive CpI (R:RC) (g:D->Rh->Option Rh) (q:PTf) (p:PF) (Z0:Zn) (H0:Hp) (a:Addr) (xs all:List D) (i m:Nat) (σ2:L2.St) (H2:Hp):Prop
 | mk:m=xs.length-i->i<=xs.length->∀(ρ2:Rh) (Z2:Zn) (O2:W5) (ys:List D) (vs:List V) (Py:W5) (J7:List D),Go Z0 H0 [] Z2 H2 (a::Py)->H2 a=some (.lst vs)->Reps R Z2 H2 ys vs Py->(∀ b∈O2,b≠a)->Slots R Z2 H2 ρ2 σ2 O2->ya g q p (xs.drop i) ρ2=some J7->all=ys++J7->ys.length<=i->CpI R g q p Z0 H0 a xs all i m σ2 H2
def JP{tg}{tc}{te}{g}{q}{p}{ix}(hg:PGt R [] tg g)(hq:PTt R tc q)(he:PP R te p)
  {J:It}{d:Zn}{c:Hp}{ρ:Rh}{σ:L2.St}{O:W5}{xs all:List D}(w:Zd d c) (s:Slots R d c ρ σ O) (it:ItB R J d c xs) (hl:lim xs.length=true) (e2:ya g q p xs (jo ix ρ)=some all)
  {Q:VK}(k:∀{v}{Z'}{H'}{P},Go d c [] Z' H' P->Rep R Z' H' (.lst true all) v P->Q v H'):∀ a,c a=none->jat tc te tg J a (ym ix σ) (upd c a<|.lst []) λH2=>Q (.ref a) H2:=by
 intro a X;obtain⟨Oi,Y⟩:=Vj s ix;have Z:Go d c [] d (upd c a<|.lst []) [a]:=Go.newO (wf0 w) X;refine⟨CpI R g q p d c a xs all,
  ⟨xs.length,rfl,U6 _,_,d,Oi,[],[],[],all,Z,jh,Reps.empty,λb hb e=>Y.dom b hb<|e▸X,Z.slots w Y,e2,rfl,N0 _⟩,?_⟩
 rintro i m σ2 H2 ⟨rfl,L,ρ2,Z2,O2,ys,vs,l,J7,g2,M,F,N,s2,e3,G,n⟩;have x:=it g2.zz (g2.same) g2.wf.zd i;by_cases A:i<xs.length
 ·right
  have hx:xs[i]?=some xs[i]:=by simp
  obtain⟨go,yl⟩:=x.2 _ hx;refine⟨go,λu H3 hy=>?_⟩;obtain⟨Z3,g3,r3⟩:=yl u H3 hy;rw[qw hx] at e3;refine ob e3 λρ3 e5 e3=>(hg r3 (g3.slots g2.wf.zd s2) e5 λ{σ4 O4} sub nd H _=>(ob e3 λb e6 e3=>(hq g3.wf.zd H e6 λ{Z5 H5} C=>?_)));have h:=g3.pair C;cases b with
  | true=>
   refine jet<|ob e3 λy e7 e3=>ob e3 λS e8 e3=>?_;cases e3;refine he C.wf.zd (C.slots g3.wf.zd H) e7 λ{I r j t} g6 r6=>?_;have o:Go Z2 H2 [] r j t:=by simpa using h.pair g6
   have T:j a=some (.lst vs):=by rw[o.same a ∅];exact M
   have U:vs.length<sizeLine:=by
    rw[F.length];exact VA<|X4<|N8 n<|N8 L<|X6 hl
   have K:Go d c [] r j (a::l++t):=by
    have f:=o.frame (B:=[]) ⇑g2.wf;exact g2.trans ⇑f
   have V:=K.wf;have gB:Go r j (a::l++t) r (upd j a<|.lst<|vs++[I]) (a::l++t):=Go.put V L7;have ne:∀ b,b∈l++t->upd j a (.lst<|vs++[I]) b=j b:=λb hb=>je λz=>(List.nodup_cons.mp V.nd).1 (z▸hb);have E:∀ b,r b->upd j a (.lst<|vs++[I]) b=j b:=λb hb=>je λz=>V.nz a L7<|z▸hb;refine⟨vs,T,U,xs.length-(i+1),by lia,rfl,A,ρ3,r,O4,ys++[y],vs++[I],l++t,S,K.trans gB,jh,?_,λb hb=>N b<|sub b hb,(((C.pair g6).slots g3.wf.zd H).frame (λb z=>z) E λb hb=>je<|N b<|sub b hb),e8,by rw[G];simp,by rw[N5];exact Nat.add_le_add_right n 1⟩
   ·refine((o.reps g2.wf.zd F).append (.one r6)).frame (λb z=>z) E ne
  | false=>
   refine jgh ?_;have K:Go d c [] Z5 H5 (a::l):=by
    exact g2.trans (by simpa using(h.frame (B:=[]) ⇑g2.wf))
   exact⟨xs.length-(i+1),by lia,rfl,A,ρ3,Z5,O4,ys,vs,l,J7,K,by rw[h.same a ∅];exact M,h.reps g2.wf.zd F,λb hb=>N b<|sub b hb,C.slots g3.wf.zd H,e3,G,Nat.le_succ_of_le n⟩
 ·left
  have W:i=xs.length:=by lia
  refine⟨x.1 ∅,?_⟩;rw[W,List.drop_length] at e3;cases e3;rw[N1] at G;subst G;exact k g2 ⟨a,vs,l,rfl,F,M,rfl⟩
def u4{wi}{tg}{tc}{te}{pi}{g}{q}{p}{ix}(hi:jnR R wi pi)(b:PGt R [] tg g)(c:PTt R tc q)(f:PP R te p):
  PP R (V3 wi tg tc te ix) (yi pi g q p ix):=by
 intro σ ρ Z H O d z s e Q k;refine ob e λm h e=>oc e λi e=>ob e λall e2 e=>?_;cases e;exact hi z s h λ{J n o} a j=>(JP b c f a.wf.zd (a.slots z s) j i e2 λl r1=>k ⇑(a.pair l) r1)
end
section
variable {cl:Nat->Addr}{pm:List Nat}{X:Cx}{c e elt tg iter:Expr}{te:TE}{pe:PF}{ifs:List Expr}{wi:TI}{pi:PAf}{t:TG}{g:D->Rh->Option Rh}{pos:Pos}{ts:TS}{f:FS}
structure QIb(cl:Nat->Addr)(X:Cx)(tg e:Expr)(wi:TI)(p:PAf):Prop where
 sem:PI X tg e wi
 den:jnR ⟨X.K,cl⟩ wi p
def QI.b'(h:QI cl X tg e wi pi):QIb cl X tg e wi pi:=⟨h.sem,PIt.b h.den⟩
def ji5(h:QB cl X e te pe):QIb cl X tg e (jlt X.K te) (Yz pe):=⟨jg2 h.sem,jnj h.den⟩
def jjF{scope}{N'}{ix}{a}{c}(B:BlockOk X scope N' ix)(f:X.calm=true)(hi:QIb cl X tg iter wi pi)
  (d:∀ C s H fp,QG cl [] (j7 X scope N' C s H fp) tg t g) (b:∀ C s H fp,QIf cl (j7 X scope N' C s H fp) ifs a c) (e:∀ C s H fp,QP cl (j7 X scope N' C s H fp) elt te pe)
  (h:∀ x,foldedSetIterable iter X.env x=pure x:=by intro _;rfl):QP cl X (.ListComp elt [⟨tg,iter,ifs,0⟩] scope pos) (V3 wi t a te ix) (yi pi g c pe ix):=
 ⟨jbZ B f hi.sem (λC s H fp=>(d C s H fp).sem) (λC s H fp=>(b C s H fp).sem) (λC s H fp=>(e C s H fp).sem) h,
  u4 hi.den (d 0 X.s₀ X.H₀ []).den (b 0 X.s₀ X.H₀ []).den (e 0 X.s₀ X.H₀ []).den⟩
def xG{i}{x}{pos' a}{scope}{N'}{ix}{b}{f}(B:BlockOk X scope N' ix)(k:X.calm=true)(hi:QIb cl X tg iter wi pi)
  (h:∀ C s H fp,QG cl [] (j7 X scope N' C s H fp) tg t g) (c:∀ C s H fp,QIf cl (j7 X scope N' C s H fp) ifs b f) (j:∀ C s H fp,QP cl (j7 X scope N' C s H fp) elt te pe)
  (l:X.N.Nodup) (e:X.N[i]?=some x:=by rfl) (m:Loc X.env.scope x:=by first | exact Or.inl rfl | exact Or.inr rfl)
  (hsw:swapsWith (.ListComp elt [⟨tg,iter,ifs,0⟩] scope pos) (some<|.Name x pos') a.line X.env=pure true:=by with_unfolding_all rfl)
  (n:∀ x,foldedSetIterable iter X.env x=pure x:=by intro _;rfl)
  (o:X.fn x=true\/X.env.scope.names.lookup x=some .local:=by first | exact .inl rfl | exact .inr rfl):
  QS cl pm X (.Assign [.Name x pos'] (.ListComp elt [⟨tg,iter,ifs,0⟩] scope pos) a) (jhh (V3 wi t b te ix)<|vX i) (jt (dP<|yi pi g f pe ix)<|jc pm i):=
 ⟨Kh B k hi.sem (λC s H fp=>(h C s H fp).sem) (λC s H fp=>(c C s H fp).sem) (λC s H fp=>(j C s H fp).sem) l e m hsw n o,
  uq (PP.d<|u4 hi.den (h 0 X.s₀ X.H₀ []).den (c 0 X.s₀ X.H₀ []).den (j 0 X.s₀ X.H₀ []).den) Vx⟩
end
@[simp] def pV0:pV 0 (o::ρ)=o:=by unfold pV;cases o<;>rfl
@[simp] def pVs:pV (i+1) (o::ρ)=pV i ρ:=rfl
@[simp] def gN_e:gN [] ρ=some ρ:=rfl
@[simp] def gC_e:gC G Gs (d::r) ρ=(G d ρ).bind λρ1=>Gs r ρ1:=rfl
@[simp] def gT_e:gT n Gs (.tup l) ρ=bif decide (l.length=n) then Gs l ρ else none:=rfl
@[simp] def itB_lst(o)(l):itB (.lst o l)=bif frzs l then some l else none:=rfl
@[simp] def itB_tup(l):itB (.tup l)=bif frzs l then some l else none:=rfl
@[simp] def itB_str(l):itB (.str l)=some (l.map λc=>D.str [c]):=rfl
@[simp] def enumOf_e(o)(l):jg0 [.lst o l]=some (yB 0<|fzs l):=rfl
def xp(h:-(2 ^ 62)<j)(k:j<2 ^ 62):V4 j=true:=Nat.ble_eq_true_of_le ∅
def yw(h:-(2 ^ 62)<j)(k:j<2 ^ 62):V8 [.int j]=some (kY 0 j.toNat):=by
 show(bif V4 j then some (kY 0 j.toNat) else none)=_;rw[xp h k];rfl
def jx(n)(f)(ds):fnP n f ds=(f<|ds.map some++List.replicate (n-ds.length) none).bind Out.val:=rfl
@[simp] def sLoop_nil:jY G f [] ρ=some (.nx ρ):=rfl
def yx:jY G f (x::xs) ρ=(G x ρ).bind λr=>(f r).bind λo=>o.loop (jY G f xs):=rfl
@[simp] def cLoop_nil:ya G q p [] ρ=some []:=rfl
def yP:ya G q p (x::xs) ρ=(G x ρ).bind λr=>(q r).bind λb=>bif b then((p r).bind λy=>(ya G q p xs r).bind λys=>some<|y::ys) else ya G q p xs r:=rfl
def vR(P:Nat->Rh->Prop)(step:∀ i x ρ,xs[i]?=some x->P i ρ->∃ ρ1 ρ2,G x ρ=some ρ1/\(f ρ1=some (.nx ρ2)\/f ρ1=some (.ct ρ2))/\P (i+1) ρ2)  (c:P 0 ρ):
  ∃ ρ',jY G f xs ρ=some (.nx ρ')/\P xs.length ρ':=by
 have key:∀ n i ρ,xs.length-i=n->i<=xs.length->P i ρ->∃ ρ',jY G f (xs.drop i) ρ=some (.nx ρ')/\P xs.length ρ':=by
  intro n
  induction n with
  | zero=>
   intro i ρ d hi p;have:i=xs.length:=by lia
   subst this;exact⟨ρ,by rw[List.drop_length];rfl,p⟩
  | succ n e=>
   intro i ρ d hi p;have a:i<xs.length:=by lia
   have b:xs[i]?=some xs[i]:=by simp[a]
   obtain⟨ρ1,ρ2,g,e2,p2⟩:=step i _ ρ b p;obtain⟨ρ',e3,p3⟩:=e (i+1) ρ2 ∅ a p2;refine⟨ρ',?_,p3⟩;rw[qw b,yx,g];rcases e2 with e2 | e2<;>simp[e2,e3]
 exact key _ 0 ρ rfl (U6 _) c
def jC{G}{xs}{l:List α}{en}{out}(a:xs=l.map en)(P:Rh->Prop)(step:∀ x∈l,∀ ρ,P ρ->∃ ρ1,G (en x) ρ=some ρ1/\p ρ1=some (out x)/\P ρ1){ρ}(b:P ρ):ya G qT p xs ρ=some (l.map out):=by
 subst a
 induction l generalizing ρ with
 | nil=>rfl
 | cons x l c=>
  obtain⟨ρ1,d,e2,p1⟩:=step x L7 ρ b;rw[L5,yP,d];simp[e2,c (λy e=>step y<|L6 _ e) p1]
@[simp] def cond_dec(p) [Decidable p] (x y:α):(bif decide p then x else y)=if p then x else y:=by by_cases h:p<;>simp[h]
@[simp] def cond_beq_int(i j:Int)(x y:α):(bif i==j then x else y)=if i=j then x else y:=by
 by_cases h:i=j
 ·subst h;simp
 ·rw[if_neg h,U3.mpr h];rfl
@[simp] def ite_bind(p) [Decidable p] (x y:Option α) (f:α->Option β):(if p then x else y).bind f=if p then x.bind f else y.bind f:=by by_cases h:p<;>simp[h]
@[simp] def add_ii(i j):jk (.int i) (.int j)=some (.int<|i+j):=rfl
@[simp] def sub_ii(i j):Yo (.int i) (.int j)=some (.int<|i-j):=rfl
def qv(h:i.natAbs<2 ^ 1000)(k:j.natAbs<2 ^ 1000):yR (.int i) (.int j)=some (.int<|i*j):=by
 show(bif jnh i&&jnh j then some (D.int<|i*j) else none)=_;rw[jcm h,jcm k];rfl
def jy(h:0<j)(k:j<2 ^ 300):jH (.int i) (.int j)=some (.int<|i/j):=by
 show(bif decide (0<j)&&decide (j<2 ^ 300) then some (D.int<|i/j) else none)=_;rw[X4 h,X4 k];rfl
def ji(h:0<j):jl (.int i) (.int j)=some (.int<|i%j):=by
 show(bif decide (0<j) then some (D.int<|i%j) else none)=_;rw[X4 h];rfl
@[simp] def opB_ii(g)(i j):opB g (.int i) (.int j)=some (.bl<|g i j):=rfl
@[simp] def eq_ii(i j):kH (.int i) (.int j)=some (.bl<|i==j):=rfl
@[simp] def ne_ii(i j):QU (.int i) (.int j)=some (.bl<|!(i==j)):=rfl
@[simp] def jec(g)(i j):f2I g [.int i,.int j]=some (.int<|g i j):=rfl
@[simp] def frz_int(i):frz (.int i)=true:=rfl
@[simp] def frz_bl(i):frz (.bl i)=true:=rfl
@[simp] def frz_str(i):frz (.str i)=true:=rfl
@[simp] def frz_non:frz .non=true:=rfl
@[simp] def fz_int(i):fz (.int i)=.int i:=rfl
@[simp] def fz_bl(i):fz (.bl i)=.bl i:=rfl
@[simp] def fz_str(i):fz (.str i)=.str i:=rfl
@[simp] def fz_non:fz .non=.non:=rfl
@[simp] def fz_lst(o)(l):fz (.lst o l)=.lst false (fzs l):=rfl
@[simp] def fz_tup(l):fz (.tup l)=.tup (fzs l):=rfl
@[simp] def frz_lst(o)(l):frz (.lst o l)=(!o&&frzs l):=rfl
@[simp] def frz_tup(l):frz (.tup l)=frzs l:=rfl
@[simp] def fzs_nil:fzs []=[]:=rfl
@[simp] def jfh(d)(l):fzs (d::l)=fz d::fzs l:=rfl
@[simp] def frzs_nil:frzs []=true:=rfl
@[simp] def JO(d)(l):frzs (d::l)=(frz d&&frzs l):=rfl
@[simp] def clean_int(i):vn (.int i)=true:=rfl
@[simp] def clean_bl(i):vn (.bl i)=true:=rfl
@[simp] def clean_str(i):vn (.str i)=true:=rfl
@[simp] def clean_non:vn .non=true:=rfl
@[simp] def clean_lst(o)(l):vn (.lst o l)=(o&&yr l):=rfl
@[simp] def clean_tup(l):vn (.tup l)=yr l:=rfl
@[simp] def cleans_nil:yr []=true:=rfl
@[simp] def cleans_cons(d)(l):yr (d::l)=(vn d&&yr l):=rfl
@[simp] def fzs_ints(l:List Int):fzs (l.map D.int)=l.map D.int:=by
 rw[kN,U2];rfl
@[simp] def frzs_ints(l:List Int):frzs (l.map D.int)=true:=by
 rw[JQ,List.all_map,List.all_eq_true];intro x _;rfl
theorem yO:∀ l:List D,yr l=l.all vn
 | []=>rfl
 | d::l=>by rw[yr,yO l];rfl
@[simp] def cleans_ints(l:List Int):yr (l.map D.int)=true:=by
 rw[yO,List.all_map,List.all_eq_true];intro x _;rfl
@[simp] def intsD_ints(l):uc (l.map D.int)=some l:=by
 induction l with
 | nil=>rfl
 | cons x l a=>show(uc<|l.map D.int).bind _=_;rw[a];rfl
@[simp] def fSum_lst(o)(l):jbS [.lst o l]=(uc l).bind λns=>some (.int ns.sum):=rfl
@[simp] def fLen_lst(o)(l):qj [.lst o l]=some (.int l.length):=rfl
@[simp] def fLen_tup(l):qj [.tup l]=some (.int l.length):=rfl
@[simp] def fList_lst(o)(l):VX [.lst o l]=bif frzs l then some (.lst true l) else none:=rfl
@[simp] def itemsOf_lst(o)(l):K7 (.lst o l)=some (fzs l):=rfl
@[simp] def itemsOf_tup(l):K7 (.tup l)=some (fzs l):=rfl
@[simp] def tyD_int(i):tyD (.int i)=some "int":=rfl
@[simp] def tyD_bl(i):tyD (.bl i)=some "bool":=rfl
@[simp] def tyD_str(i):tyD (.str i)=some "str":=rfl
@[simp] def tyD_non:tyD .non=some "NoneType":=rfl
@[simp] def tyD_lst(o)(l):tyD (.lst o l)=some "list":=rfl
@[simp] def tyD_tup(l):tyD (.tup l)=some "tuple":=rfl
theorem xq:∀(l m:List Int),xA (l.map D.int) (m.map D.int)=decide (l=m)
 | [],[]=>rfl
 | [],_::_=>rfl
 | _::_,[]=>rfl
 | x::l,y::m=>by
  show((x==y)&&xA (l.map D.int) (m.map D.int))=_;rw[xq l m];by_cases h:x=y<;>simp[h]
def zS(n)(l:List Int):kz n (l.map D.int)=true:=by
 rw[Qm,List.all_map,List.all_eq_true];intro x _;cases n<;>rfl
def jjY(o o')(l m:List Int):kH (.lst o<|l.map D.int) (.lst o'<|m.map D.int)=some (.bl<|decide<|l=m):=by
 show(bif okE 20 (.lst o<|l.map D.int)&&okE 20 (.lst o'<|m.map D.int) then some (D.bl<|xA (l.map D.int)<|m.map D.int) else none)=_;rw[xq];show(bif kz 19 (l.map D.int)&&kz 19 (m.map D.int) then _ else _)=_;rw[zS,zS];rfl
def jm0{c}{m}{ns:List Int}(h:m [.lst false<|ns.map D.int]=some (.bl true))(d:SqX K H a<|ns.map V.int):spP ⟨K,c⟩ m 1 [.ref a] H (λv _=>v=.bl true) E:=by
 refine⟨λb=>b=a/\H a≠none,[.lst false<|ns.map D.int],.bl true,λb hb=>by rw[hb.1];exact hb.2,rfl,.one ?_,h,λg r=>r.bl_of.1⟩;have e:∀(l:List Int),Reps ⟨K,c⟩ (λb=>b=a/\H a≠none) H (l.map D.int) (l.map V.int) []:=by
  intro l
  induction l with
  | nil=>exact .empty
  | cons x l f=>exact .cons .int_mk f
 refine⟨a,ns.map V.int,[],rfl,e ns,⟨?_,rfl,rfl⟩⟩;rcases d with d | d
 ·refine .inl ⟨⟨rfl,?_⟩,d⟩;rcases d with d | ⟨o,d⟩<;>rw[d]<;>exact λz=>(nomatch z)
 ·exact .inr d
end QD
namespace L2
open PySem PySem.Spec PyProof.Rows
theorem Vz:∀{ws}{us},Vals (ws.map V.str) us->∃ l:List (Str×Tok),us=strValues l/\l.map (·.1)=ws
 | [],us,h=>by
  cases h;exact⟨[],rfl,rfl⟩
 | w::ws,us,h=>by
  cases h with
  | cons a b=>
   obtain⟨t,rfl⟩:=a;obtain⟨l,rfl,e⟩:=Vz b;exact⟨(w,t)::l,rfl,by rw[L5,e]⟩
def jj7{X}:MtR X "str.join" (λx vs H Q=>∃ a p ws,x=.str a/\vs=[.ref p]/\SqL X.K H p (ws.map V.str)/\JoinOk a ws=true/\Q (.str<|Txt.join a ws) H):=by
 intro c s σ H x vs v j Q I d b h;obtain⟨a,p,ws,rfl,rfl,f,hok,q⟩:=h;obtain⟨t,rfl⟩:=d;obtain⟨u,rfl,g⟩:=b.one;cases g;obtain⟨i,b,pl,m⟩:=I.list f;obtain⟨l,rfl,e⟩:=Vz b;exact SC.join pl.isList e hok λn k=>⟨.str _,H,I.tok _,⟨_,rfl⟩,q⟩
end L2
namespace QD
open PySem L2 PySem.Spec PyProof.Rows
noncomputable def V1(sep:List Nat):List (List Nat)->List Nat
 | []=>[]
 | [x]=>x
 | x::y::r=>x++sep++V1 sep (y::r)
theorem jdt(a):∀ ws:List (List Nat),Str.join (S a) (ws.map S)=S (V1 a ws)
 | []=>rfl
 | [x]=>rfl
 | x::y::r=>by
  show S x++S a++Str.join (S a) ((y::r).map S)=_;rw[jdt a<|y::r,jhT,jhT];rfl
noncomputable def VY:List D->Option (List<|List Nat)
 | []=>some []
 | .str w::l=>match VY l with
  | some ws=>some<|w::ws
  | none=>none
 | _::_=>none
@[simp] def strsD_strs(l):VY (l.map D.str)=some l:=by
 induction l with
 | nil=>rfl
 | cons x l a=>simp[VY,a]
section
variable {R:RC}{Z:Zn}{H:Hp}
theorem jaa:∀{l}{ws}{vs}{O},VY l=some ws->Reps R Z H l vs O->vs=(ws.map S).map V.str
 | [],ws,vs,O,e,r=>by
  cases e;have:=r.length;exact List.length_eq_zero_iff.mp this
 | x::l,ws,vs,O,e,r=>by
  cases x with
  | str w=>
   simp only[VY] at e;cases e1:VY l with
   | none=>rw[e1] at e;cases e
   | some a=>
    rw[e1] at e;cases e;obtain⟨v,b,P,c,rfl,-,r1,r2⟩:=r;obtain⟨rfl,_⟩:=r1.str_of;rw[jaa e1 r2];rfl
  | _=>cases e
noncomputable def Ye(sep:List Nat)(ws:W1):Bool:=decide<|(ws.map List.length).sum+ws.length*sep.length<=1000000
def jeh{a}{ws}(h:Ye a ws=true):JoinOk (S a) (ws.map S)=true:=by
 have h:=X6 h;unfold JoinOk;rw[StrLaws.joinTotal];have e:((ws.map S).map (·.length))=ws.map List.length:=by
  rw[U2];exact List.map_congr_left λw _=>Ju w
 rw[e,L1,Ju];unfold Builtin.Str.tooLong;have:sizeLine=16777216:=by decide
 simp
 lia
def jbg:D->List D->Option D
 | .str sep,[.lst _ l]=>match VY l with
  | some ws=>bif Ye sep ws then some (.str<|V1 sep ws) else none
  | none=>none
 | _,_=>none
def jjZ:BM R "str" (λx vs H Q=>∃ a p ws,x=.str a/\vs=[.ref p]/\SqL R.K H p (ws.map V.str)/\JoinOk a ws=true/\Q (.str<|Txt.join a ws) H) jbg:=by
 intro Z H x d g v vs h i z r c e Q k;unfold jbg at e;split at e
 ·rename_i b o l;cases e1:VY l with
  | none=>rw[e1] at e;cases e
  | some ws=>
   rw[e1] at e;dsimp only at e;cases hm:Ye b ws with
   | false=>rw[hm] at e;cases e
   | true=>
    rw[hm] at e;cases e;obtain⟨rfl,_⟩:=r.str_of;obtain⟨v,rfl,r1⟩:=c.one_of;clear c;obtain⟨p,j,m,rfl,f,c⟩:=r1.lst_of;have:=jaa e1 c;subst this;refine⟨S b,p,ws.map S,rfl,rfl,f.sq,jeh hm,?_⟩;have e2:Txt.join (S b) (ws.map S)=S (V1 b ws):=(StrLaws.glued_eq_join _ _).trans (jdt b ws);rw[e2];exact k (Go.id z) .str_mk
 ·cases e
def jgX(a b:List Nat):List (List Nat):=(Txt.split (S a)<|S b).map λw=>w.cps.toList
def Q2:D->List D->Option D
 | .str a,[.str b]=>bif !b.isEmpty&&decide (a.length<=1000000) then some (.lst true<|(jgX a b).map D.str) else none
 | _,_=>none
def jek(ws:List Str):Reps R Z H ((ws.map λw=>w.cps.toList).map D.str) (ws.map V.str) []:=by
 induction ws with
 | nil=>exact .empty
 | cons w ws a=>
  exact .cons (O:=[]) .str_mk a
def jgu:BM R "str" (λx vs H Q=>∃ a b,x=.str a/\vs=[.str b]/\(b.length==0)=false/\a.length+2<=sizeLine/\∀ p,H p=none->Q (.ref p) (upd H p<|.lst<|(Txt.split a b).map V.str)) Q2:=by
 intro Z H x d h v vs i j z r c e Q k;unfold Q2 at e;split at e
 ·rename_i a b;refine oc e λf e=>?_;cases e;simp only[M0,decide_eq_true_eq,Bool.not_eq_true',List.isEmpty_eq_false_iff] at f;obtain⟨rfl,_⟩:=r.str_of;obtain⟨v,rfl,r1⟩:=c.one_of;clear c;obtain⟨rfl,_⟩:=r1.str_of;have l:sizeLine=16777216:=by decide
  refine⟨_,_,rfl,rfl,?_,?_,λp g=>k (Go.newO (wf0 z) g)<|Rep.lstNew (wf0 z) g<|jek _⟩
  ·rw[Ju];have:=List.length_pos_iff.mpr f.1;exact U3.mpr ∅
  ·rw[Ju];lia
 ·cases e
end
section
variable {cl:Nat->Addr}{X:Cx}{o e:Expr}{es:List Expr}{to:TE}{po:PF}{tr:TA}{pr:PAf}{name:Str}{apos cpos:Pos}{T id:String}{r:V->List V->Hp->VK->Prop}{g:D->List D->Option D}
def jpV(pa:PlainAttrs T)(slot:Slot T name id)(f:typeOf (.builtin id)=pure (.type "method_descriptor"))(j:MtR X id r)(hb:BM ⟨X.K,cl⟩ T r g)(h:QB cl X o to po)(i:QBs cl X (e::es) tr pr)
  (b:attributeBase o name X.env (eval o X.env)=eval o X.env:=by rfl)
  (d:((backTo cpos<|starEach (e::es) X.env).all (λx=>!x.1)&&(backToKw cpos<|keywordEach [] X.env).all (λx=>x.1.isSome)
   && decide ((e::es).length+([]:List Keyword).length+(if([]:List Keyword).isEmpty then 0 else 1)<30))=true:=by rfl)
  (c:(apos.endLine==cpos.line)=true:=by rfl) (k:SEq X e es:=by rfl) (a:BkE X cpos es:=by rfl):
  QP cl X (.Call (.Attribute o name apos) (e::es) [] cpos) (tBM X.K T r to tr) (pBM T g po pr):=
 ⟨jcZ pa slot f j h.sem i.sem b d c k a,joW hb h.den i.den⟩
end
@[simp] def isT_str(w):isT "str" (.str w)=true:=rfl
@[simp] def fJoin_e(a)(o)(l):jbg (.str a) [.lst o l]=(VY l).bind λws=>bif Ye a ws then some (.str<|V1 a ws) else none:=by
 unfold jbg;cases h:VY l<;>simp[h]
end QD
namespace QK
open PySem L2 QD PySem.Spec PyProof.Rows
section
variable {cl:Nat->Addr}{pm:List Nat}{X:Cx}{a b c e o:Expr}{es:List Expr}{ta tb tc te to:TE}{pa pb pc pe po:PF}{tr:TA}{pr:PAf}{pos:Pos}{K:W4}
variable {tg iter elt:Expr}{ifs:List Expr}{wi:TI}{pi:PAf}{t:TG}{g:D->Rh->Option Rh}
def add(c:X.K=K)(d:QB cl X a ta pa)(hb:QB cl X b tb pb):QP cl X (.BinOp a .Add b pos) (tOp (jbG K) ta tb) (p2 jk pa pb):=by subst c;exact jkG d hb
def ix(c:X.K=K)(d:QB cl X a ta pa)(hb:QB cl X b tb pb)(e:VT b:=by exact λ_ _=>rfl):QB cl X (.Subscript a b pos) (tOp (rIx K) ta tb) (p2 jd pa pb):=by subst c;exact jpR d hb e
def call{k n}{ps}{m}{x}{st}{p}(c:X.K=K)(O:OkF X.prog X.w X.K X.mg x st k ps<|spP ⟨X.K,cl⟩ m n)(d:Room k X.A)
  (f:QBs cl X (e::es) tr pr) (g:(e::es).length=n:=by rfl) (h:Gl X x:=by rfl) (a:Nd x:=by decide)
  (i:SEq X e es:=by rfl) (b:BkE X pos es:=by rfl):QP cl X (.Call (.Name x p) (e::es) [] pos) (qM (spP ⟨K,cl⟩ m n) [] E0 tr) (ju m pr):=by
 subst c;exact jhn O d f g h a i b
theorem c_notin(a:X.K=K)(c:behindInMarks .NotIn b=false):CmpR cl X .NotIn b (jky K true) (QR true):=by subst a;exact QD.c_notin c
theorem c_ne{k}(a:X.K=K)(c:Room k X.A):CmpR cl X .NotEq b (λx y H Q=>rNe x y H Q\/jhK ⟨K,cl⟩ true x y H Q) QU:=by subst a;exact QD.c_ne c
def g_tup{ts}{b}{k n}(c:X.K=K)(d:X.calm=true)(h:QGs cl pm X es ts b)(e:(assignEach es X.env).length=n:=by rfl)(a:(assignEach es X.env).findIdx? (·.1)=none:=by rfl):QG cl pm X (.Tuple es k pos) (jeq K n ts) (gT n b):=by subst c;exact jgP d h e a
end
end QK
namespace QD
open PySem L2 PySem.Spec PyProof.Rows
@[simp] def jeg(i:Nat)(p:PAf)(ρ:Rh):Option (D×Rh):=(pV i ρ).bind λd=>(p ρ).bind λds=>bif lim (ds.length+1) then some (.tup<|d::ds,ρ.set i none) else none
def jev(s:PPs R ta p):DE R (zi<|jI (jU i) ta) (jeg i p):=by
 intro σ ρ E Z H O d w h e Q k;refine ob e λc j e=>ob e λF t e=>oc e λu e=>?_;cases e;have j:=Ys j;obtain⟨A,P,B,rfl,x,k2,k3⟩:=h.put (L9.mp j).1;obtain⟨v,y,r⟩:=x c j;refine⟨v,y,s w.zd h t λ{vs C n D} l r1=>⟨by rw[M3,r1.length];exact Jj u,λq m=>?_⟩⟩;have o:=l.widen w;have f:=o.wf.nd;have g2:Go Z H (A++P++B) C n ((P++D)++(A++B)):=o.drop (λa q=>by simp at q ⊢;rcases q with q | q | q | q<;>simp[q]) (by
  simp only[X0,N3] at f ⊢;refine⟨⟨f.2.1.1.2.1,f.1,λa g b hb e=>f.2.2 b hb a (.inl<|.inr g) e.symm⟩,⟨f.2.1.1.1,f.2.1.2.1,λa g b hb=>f.2.1.2.2 a (.inl g) b hb⟩,λa g b hb e=>?_⟩;rcases g with g | g
  ·rcases hb with hb | hb
   ·exact f.2.1.1.2.2 b hb a g e.symm
   ·exact f.2.1.2.2 a (.inr g) b hb e
  ·rcases hb with hb | hb
   ·exact f.2.2 a g b (.inl<|.inl hb) e
   ·exact f.2.2 a g b (.inr hb) e)
 have ne:∀ a,n a≠none->a≠q:=λa h e=>h<|e▸m;have s1:=l.slots w.zd k3;refine k (g2.trans<|Go.newF g2.wf m) (Rep.tupNew g2.wf.left m<|Reps.cons (l.rep w.zd r) r1)<|s1.frame (λa z=>.inl z) (λa z=>je<|ne a<|g2.wf.zd a z) λa g=>je<|ne a<|s1.dom a g
def jjl{a}(i)  (b:QB cl X (.Name x xpos) (jU i)<|pV i) (h:QPs cl X es tr pr) (c:starEach (.Name x xpos::es) X.env=(false,eval (.Name x xpos) X.env)::starEach es X.env:=by rfl):
  QE cl X (.Tuple (.Name x xpos::es) a pos) (zi<|jI (jU i) tr) (jeg i pr):=⟨Jg<|jE b.sem h.sem c,jev h.den⟩
structure QGo(cl:Nat->Addr)(pm:List Nat)(X:Cx)(tg:Expr)(t:TG)(g:D->Rh->Option Rh):Prop where
 sem:PG X tg t
 den:DG ⟨X.K,cl⟩ pm t g
def jiX(a:X.N.Nodup)(hi:X.N[i]?=some x:=by rfl)(b:Loc X.env.scope x:=by first | exact Or.inl rfl | exact Or.inr rfl)(c:X.fn x=true\/X.env.scope.names.lookup x=some .local:=by first | exact .inl rfl | exact .inr rfl):
  QGo cl pm X (.Name x pos) (vX i) (jc pm i):=⟨jbw a hi b c,Vx⟩
section
variable {R:RC}{Z Z':Zn}{H H':Hp}{pm:List Nat}
noncomputable def yU:D->Option KA
 | .int i=>some<|.int i
 | .str s=>some<|.str s
 | _=>none
def yc(e:yU d=some k)(r:Rep R Z H d v O):v=kV (kaV k)/\O=[]:=by
 cases d with
 | int i=>cases e;rw[Rep] at r;exact r
 | str s=>cases e;rw[Rep] at r;exact r
 | _=>cases e
def KK(h:kaV a=kaV b):a=b:=by
 cases a<;>cases b<;>simp only[kaV] at h
 ·cases h;rfl
 ·cases h
 ·cases h
 ·have:=jly<|Sum.inr.inj h;rw[this]
noncomputable def qu:List KA->List D->KA->Option D
 | k::ks,d::l,a=>if k=a then some d else qu ks l a
 | _,_,_=>none
theorem kP:∀{ks}{l}{vs}{O}{a},Reps R Z H l vs O->ks.length=l.length ->
  (∀ d,qu ks l a=some d->∃ v P,VZ ((ks.map kaV).zip vs) (kaV a)=some v/\Rep R Z H d v P)/\(qu ks l a=none->VZ ((ks.map kaV).zip vs) (kaV a)=none)
 | [],l,vs,O,a,r,c=>⟨λd e=>(by cases l<;>cases e),λ_=>rfl⟩
 | k::ks,[],vs,O,a,r,c=>by simp at c
 | k::ks,x::l,vs,O,a,r,c=>by
  obtain⟨v,b,f,i,rfl,rfl,r1,r2⟩:=r;by_cases e:k=a
  ·subst e;refine⟨λd h=>?_,λh=>?_⟩
   ·simp only[qu,if_true] at h;cases h;exact⟨v,f,JI rfl,r1⟩
   ·simp[qu] at h
  ·have g:=λz=>e<|KK z;have q:VZ (((k::ks).map kaV).zip (v::b)) (kaV a)=VZ ((ks.map kaV).zip b) (kaV a):=J2 g;rw[q];simp only[qu,if_neg e];exact(kP (a:=a) r2 ⇑c)
def DkA.rd(h:DkA o H a kvs):Rd H a (.dK kvs):=by
 cases o with
 | true=>exact .inl h
 | false=>exact h
def DGet.r(e:Rd H a<|.dK kvs):DGet H a (kV k) (VZ kvs k):=.inl ⟨kvs,k,e,rfl,rfl⟩
def Rep.dK_of(r:Rep R Z H (.dK o ks l) v O):Ex3 λa vs O'=>An4 (v=.ref a) (Rd H a<|.dK<|(ks.map kaV).zip vs) (Reps R Z H l vs O') (ks.length=l.length):=by
 obtain⟨a,vs,O',rfl,b,c,d,_⟩:=r;exact⟨a,vs,O',rfl,d.rd,b,c⟩
def jkg:PP R jcu (pC<|.dK true [] []):=by
 intro σ ρ Z H O d z s e Q k;cases e;intro p a;exact k (Go.newO (wf0 z) a) ⟨p,[],[],rfl,.empty,rfl,jh,rfl⟩
def yI:D->D->Option D
 | .dK _ ks l,y=>(yU y).bind λk=>qu ks l k
 | _,_=>none
def jh2(c:PB R td pa)(hb:PB R ty pb):PB R (jiJ td ty) (p2 yI pa pb):=by
 intro σ ρ Z H O d z s e Q k;refine ob e λx f e=>ob e λy e2 e=>(c z s f λ{v m n q} b r1=>(hb b.wf.zd (b.slots z s) e2 λ{u t A B} g2 r2=>?_));cases x with
 | dK o C l=>
  refine ob e λa e3 e=>?_;obtain⟨p,vs,D,rfl,g,h,i⟩:=(g2.rep b.wf.zd r1).dK_of;obtain⟨rfl,_⟩:=yc e3 r2;obtain⟨w,P,j,rw⟩:=(kP h i).1 d e;exact⟨p,w,rfl,j▸DGet.r g,k (b.pair g2) rw⟩
 | _=>cases e
def Vh(x y z:D):Option D:=match x with
 | .dK _ ks l=>(yU y).bind λk=>some<|(qu ks l k).getD z
 | _=>none
@[simp] def p3(g:D->D->D->Option D)(pa:PF)(pb:PF)(pc:PF)(ρ:Rh):Option D:=(pa ρ).bind λx=>(pb ρ).bind λy=>(pc ρ).bind λz=>g x y z
def jeJ(j:PB R td pa)(hb:PB R ty pb)(m:PB R tx pc):PB R (VB td ty tx) (p3 Vh pa pb pc):=by
 intro σ ρ Z H O d z s e Q k;refine ob e λx n e=>ob e λy e2 e=>ob e λc q e=>?_;cases x with
 | dK o A l=>
  refine ob e λa e3 e=>?_;cases e;refine j z s n λ{v I J K} i r1=>?_;obtain⟨p,vs,L,rfl,B,M,N⟩:=r1.dK_of;refine⟨p,rfl,.inl ⟨_,B⟩,(hb i.wf.zd (i.slots z s) e2 λ{u S T U} g2 r2=>?_)⟩;have b:=i.pair g2;refine m g2.wf.zd (b.slots z s) q λ{t Z3 V W} g3 C=>?_;obtain⟨X,D,E,F,f,g,h,_⟩:=((g2.pair g3).rep i.wf.zd r1);cases F;obtain⟨rfl,_⟩:=yc e3 r2;cases ev:qu A l a with
  | none=>exact⟨none,(kP f g).2 ev▸DGet.r h.rd,k (b.pair g3)<|by rw[ev];exact C⟩
  | some d=>
   obtain⟨w,P,G,rw⟩:=(kP f g).1 d ev;exact⟨some w,G▸DGet.r h.rd,k (b.pair g3)<|by rw[ev];exact rw⟩
 | _=>cases e
def ja1(neg:Bool)(y x:D):Option D:=match x with
 | .dK _ ks l=>(yU y).bind λk=>some<|.bl<|neg != (qu ks l k).isSome
 | _=>none
def jgf{f ty}{pa pb}{b}(j:PB R ty pa)(hb:PB R f pb){σ}{ρ}{Z}{H}{O}{d}(z:Zd Z H)(s:Slots R Z H ρ σ O)(e:p2 (ja1 b) pa pb ρ=some d)
  {Q:VK}(k:∀{v}{Z'}{H'}{P},Go Z H [] Z' H' P->Rep R Z' H' d v P->Q v H'):ty σ H λy H1=>f σ H1 λx H2=>∃ a o,x=.ref a/\DGet H2 a y o/\Q (.bl<|b != o.isSome) H2:=by
 refine ob e λy m e=>ob e λx e2 e=>(j z s m λ{v A H1 B} c r1=>(hb c.wf.zd (c.slots z s) e2 λ{u C H2 D} g2 r2=>?_));cases x with
 | dK o n l=>
  refine ob e λa e3 e=>?_;cases e;obtain⟨p,vs,E,rfl,g,h,i⟩:=r2.dK_of;obtain⟨rfl,_⟩:=yc e3 r1;cases ev:qu n l a with
  | none=>
   refine⟨p,none,rfl,(kP h i).2 ev▸DGet.r g,k (c.pair g2) ?_⟩;rw[ev];exact .bl_mk
  | some d=>
   obtain⟨w,P,q,t⟩:=(kP h i).1 d ev;refine⟨p,some w,rfl,q▸DGet.r g,k (c.pair g2) ?_⟩;rw[ev];exact .bl_mk
 | _=>cases e
def jcx{a ty}{pa pb}(b:PB R ty pa)(hb:PB R a pb):PP R (Qx ty a) (p2 (ja1 true) pa pb):=λz s e _ k=>by
 have:=jgf b hb z s e k;simpa [Qx] using this
noncomputable def wK:List KA->List D->KA->D->List D
 | k::ks,x::l,a,d=>(if k=a then d else x)::wK ks l a d
 | _,_,_,_=>[]
theorem K9:∀{ks}{l} a d,ks.length=l.length->(wK ks l a d).length=l.length
 | [],[],_,_,_=>rfl
 | [],_::_,_,_,h=>by simp at h
 | _::_,[],_,_,h=>by simp at h
 | k::ks,x::l,a,d,h=>by rw[wK,M3,M3,K9 a d ⇑h]
theorem u7(rd:Rep R Z H d v [])(a):∀{ks}{l}{vs}{O},Reps R Z H l vs O->ks.length=l.length ->
  Ex2 λvs2 O2=>An3 (Reps R Z H (wK ks l a d) vs2 O2) ((ks.map kaV).zip vs2=((ks.map kaV).zip vs).map (λkv=>if kv.1=kaV a then(kv.1,v) else kv))<|O2.Sublist O
 | [],[],vs,O,r,b=>by
  obtain⟨rfl,rfl⟩:=r;exact⟨[],[],.empty,rfl,.slnil⟩
 | [],_::_,_,_,_,h=>by simp at h
 | _::_,[],_,_,_,h=>by simp at h
 | k::ks,x::l,vs,O,r,b=>by
  obtain⟨w,j,m,O2,rfl,rfl,r1,r2⟩:=r;obtain⟨c,f,g,e3,i⟩:=u7 rd a r2 ⇑b;by_cases e:k=a
  ·subst e;refine⟨v::c,[]++f,?_,?_,(i.trans<|List.sublist_append_right _ _)⟩
   ·rw[wK,if_pos rfl];exact Reps.cons rd g
   ·simp only[L5,U8,if_true,e3]
  ·have n:=λz=>e<|KK z;refine⟨w::c,m++f,?_,?_,(List.Sublist.append (List.Sublist.refl _) i)⟩
   ·rw[wK,if_neg e];exact Reps.cons r1 g
   ·simp only[L5,U8,if_neg n,e3]
theorem xW(a):∀{ks:List KA}{vs:List V},ks.length=vs.length->(((ks.map kaV).zip vs).any λkv=>decide<|kv.1=kaV a)=decide (a∈ks)
 | [],vs,_=>by simp
 | k::ks,[],h=>by simp at h
 | k::ks,v::vs,h=>by
  rw[L5,U8,List.any_cons,xW a ⇑h];by_cases e:k=a
  ·subst e;simp
  ·have b:¬ (kaV k=kaV a):=λz=>e<|KK z;have e2:¬ (a=k):=λz=>e z.symm;simp[b,e2]
def vV(ks:List KA)(l:List D)(a:KA)(d:D):List KA×List D:=if a∈ks then(ks,wK ks l a d) else(ks++[a],l++[d])
def Y0(rd:Rep R Z H d v [])(a)  (r:Reps R Z H l vs O) (b:ks.length=l.length):
  Ex2 λvs2 O2=>An4 (Reps R Z H (vV ks l a d).2 vs2 O2) ((((vV ks l a d).1).map kaV).zip vs2=JE ((ks.map kaV).zip vs) (kaV a) v) (O2.Sublist O) ((vV ks l a d).1.length=(vV ks l a d).2.length):=by
 have c:ks.length=vs.length:=by rw[r.length];exact b
 unfold vV JE;rw[xW a c];by_cases e:a∈ks
 ·rw[if_pos e,X4 e,if_pos rfl];obtain⟨f,P,r2,e2,g⟩:=u7 rd a r b;exact⟨f,P,r2,e2,g,by rw[K9 a d b];exact b⟩
 ·rw[if_neg e,X5 e,if_neg<|λz=>(nomatch z)];refine⟨vs++[v],O++[],r.append<|Reps.one rd,?_,by simp,by simp[b]⟩;rw[N6,List.zip_append ⇑c];rfl
@[simp] def jjO(i:Nat)(pk:PF)(pv:PF)(ρ:Rh):Option Out:=(pv ρ).bind λd=>(pV i ρ).bind λx=>(jgW x).bind λp=>(pk ρ).bind λy=>(yU y).bind λa=>bif frz d&&lim p.1.length then some (.nx<|ρ.set i<|some<|.dK true (vV p.1 p.2 a d).1 (vV p.1 p.2 a d).2) else none
def Vr{ks:List α}{vs:List V}{f:α->β}(h:lim ks.length=true):((ks.map f).zip vs).length<sizeLine:=by rw[List.length_zip,L1];exact E3 (Nat.min_le_left _ _)<|VA h
def jjv{i}{ty tv}{pk pv}(n:PB R ty pk)(p:PB R tv pv):DS R pm (Qt (jU i) ty tv) (jjO i pk pv):=by
 intro σ ρ Z H O o w s e F k;refine ob e λd q e=>ob e λx r e=>ob e λ⟨G,l⟩ f e=>ob e λy e2 e=>ob e λc e3 e=>oc e λg e=>?_;cases e;cases wZ f;rw[M0] at g;refine p w.zd s q λ{u I J K} b r1=>?_;cases r1.nil g.1;have s1:=b.slots w.zd s;have m:=b.widen w;refine qx Ji m.wf s1 r rfl jbb λa _ vs L v h z A put=>A<|n b.wf.zd s1 e2 λ{t M N P} g2 r2=>?_;obtain⟨rfl,_⟩:=yc e3 r2;obtain⟨B,Q,C,f,D,j⟩:=Y0 (g2.rep b.wf.zd r1) c (g2.reps b.wf.zd v) h;obtain⟨S,g3,E⟩:=put jbb j g2 C ⇑D.count_le;refine⟨a,_,rfl,DPut.k (g2.at0 z)<|Vr g.2,?_⟩;rw[<- f];exact k (m.trans g3) E<|Keep.refl _ _
end
def jlC:QP cl X (.Dict [] [] pos) jcu (pC<|.dK true [] []):=⟨jfH,jkg⟩
def jnq(d:Room k X.A)(c:QB cl X a ta pa)(hb:QB cl X b tb pb)(e:joC b:=by exact λ_ _=>rfl):QB cl X (.Subscript a b pos) (jiJ ta tb) (p2 yI pa pb):=⟨jh0 (Yk d) c.sem hb.sem e,jh2 c.den hb.den⟩
def jiH(d:Room k X.A)(a:QB cl X o to po)(b:QB cl X e te pe)(c:QB cl X f tf pf)(m:M2 X o "get" apos e f cpos:=by exact⟨rfl,rfl,rfl,rfl⟩):
  QB cl X (.Call (.Attribute o "get" apos) [e,f] [] cpos) (VB to te tf) (p3 Vh po pe pf):=⟨Qq (Yk d) a.sem b.sem c.sem m,jeJ a.den b.den c.den⟩
def jhD(c:Room k X.A)(d:QB cl X (.Name x xpos) (jU i)<|pV i)(hb:QB cl X b tb pb)(a:QB cl X e te pe)(f:swapsWith e (some<|.Subscript (.Name x xpos) b pos') pos.line X.env=pure false:=by rfl):
  QS cl pm X (.Assign [.Subscript (.Name x xpos) b pos'] e pos) (Qt (jU i) tb te) (jjO i pb pe):=⟨Qz (Yk c) d.sem hb.sem a.sem f,jjv hb.den a.den⟩
@[simp] def keyOf_int(i):yU (.int i)=some (.int i):=rfl
@[simp] def keyOf_str(s):yU (.str s)=some (.str s):=rfl
@[simp] def opDIx_e(o)(ks)(l)(y):yI (.dK o ks l) y=(yU y).bind λk=>qu ks l k:=rfl
@[simp] def opDGet_e(o)(ks)(l)(y z):Vh (.dK o ks l) y z=(yU y).bind λk=>some ((qu ks l k).getD z):=rfl
@[simp] def opDIn_e(a o)(ks)(l)(y):ja1 a y (.dK o ks l)=(yU y).bind λk=>some (.bl<|a != (qu ks l k).isSome):=rfl
def jim{P}{w}{K}{cl}{mg}{base}{k n}{f}{fd}{ps}:FnOk P w K mg base CX0 k f fd ps (spP ⟨K,cl⟩ (λ_=>none) n):=
 ⟨λvs H Q E ⟨_,_,_,_,_,_,h,_⟩=>(nomatch h),λA outer s H a b vs Q E _ _ _ _ ⟨_,_,_,_,_,_,h,_⟩=>(nomatch h)⟩
def Vo:List D->Option (List<|KA×D)
 | []=>some []
 | .tup [k,v]::l=>(yU k).bind λa=>(Vo l).bind λr=>some<|(a,v)::r
 | _::_=>none
def wF(ps:List<|KA×D):List KA×List D:=ps.foldl (λacc kv=>vV acc.1 acc.2 kv.1 kv.2) ([],[])
def yT:List D->Option D
 | [.lst _ l]=>(Vo l).bind λps=>bif frzs (ps.map (·.2))&&lim ps.length then some (.dK true (wF ps).1 (wF ps).2) else none
 | _=>none
def ja2:∀{l}{ps}{ys}{O},Vo l=some ps->Reps R Z H l ys O->frzs (ps.map (·.2))=true ->
  ∃(ws:List V),An3 (Reps R Z H (ps.map (·.2)) ws []) (ys.length=ps.length) (∀(j:Nat) y,ys[j]?=some y->∃ kv t,((ps.map λp=>kaV p.1).zip ws)[j]?=some kv/\y=.ref t/\SqT R.K H t [kV kv.1,kv.2]):=by
 intro l
 induction l with
 | nil=>
  intro ps ys O e r b;cases e;obtain⟨rfl,rfl⟩:=r;exact⟨[],.empty,rfl,λj y c=>by simp at c⟩
 | cons d l h=>
  intro ps ys O e r b
  match d,e with
  | .tup [k,v],e=>
   refine ob e λa i e=>ob e λm e2 e=>?_;cases e;obtain⟨B,n,C,D,rfl,rfl,r1,r2⟩:=r;rw[L5,JO,M0] at b;obtain⟨ws,f,o,q⟩:=h e2 r2 b.2;obtain⟨t,vs,rfl,s,x⟩:=r1;obtain⟨u,w,E,F,rfl,-,z,g⟩:=x.two_of;obtain⟨rfl,_⟩:=yc i z;have A:=g.nil b.1;subst A;refine⟨w::ws,Reps.cons g f,by simp[o],λj y c=>?_⟩;cases j with
   | zero=>
    cases c;exact⟨(kaV a,w),t,rfl,rfl,s.sq⟩
   | succ j=>exact q j y ⇑c
def jdw:∀{ps:List (KA×D)}{ws}{ks}{l}{us},Reps R Z H (ps.map (·.2)) ws []->Reps R Z H l us []->ks.length=l.length ->
  ∃ us',An3 (Reps R Z H (ps.foldl (λacc kv=>vV acc.1 acc.2 kv.1 kv.2) (ks,l)).2 us' []) ((((ps.foldl (λacc kv=>vV acc.1 acc.2 kv.1 kv.2) (ks,l)).1).map kaV).zip us'=(((ps.map λp=>kaV p.1).zip ws).foldl (λa kv=>JE a kv.1 kv.2) ((ks.map kaV).zip us))) ((ps.foldl (λacc kv=>vV acc.1 acc.2 kv.1 kv.2) (ks,l)).1.length=(ps.foldl (λacc kv=>vV acc.1 acc.2 kv.1 kv.2) (ks,l)).2.length):=by
 intro ps
 induction ps with
 | nil=>
  intro ws ks l us b r c;exact⟨us,r,by simp,c⟩
 | cons p ps g=>
  intro ws ks l us b r c;obtain⟨w,h,o,q,rfl,e,r1,r2⟩:=b;obtain⟨rfl,rfl⟩:=List.append_eq_nil_iff.mp e.symm;obtain⟨i,s,j,e3,k,d⟩:=Y0 r1 p.1 r c;have:=List.sublist_nil.mp k;subst this;obtain⟨us',m,n,f⟩:=g r2 j d;refine⟨us',m,?_,f⟩;rw[L5,U8,X3,X3,n,e3]
def jib:BC R (λxs H Q=>∃(p:Addr) (ys:List V) (ps:List<|Key×V),xs=[.ref p]/\SqL R.K H p ys/\ys.length=ps.length/\ps.length<=100000 /\
  (∀(j:Nat) y,ys[j]?=some y->∃ kv t,ps[j]?=some kv/\y=.ref t/\SqT R.K H t [kV kv.1,kv.2])/\∀ D,H D=none->Q (.ref D) (upd H D<|.dK<|ps.foldl (λa kv=>JE a kv.1 kv.2) [])) yT:=by
 intro Z H xs d vs O z r e Q k
 match xs,e,r with
 | [.lst o l],e,r=>
  refine ob e λps n e=>oc e λf e=>?_;cases e;rw[M0] at f;obtain⟨v,rfl,r1⟩:=r.one_of;obtain⟨p,ys,C,rfl,s,u⟩:=r1.lst_of;obtain⟨ws,b,w,q⟩:=ja2 n u f.1;obtain⟨g,A,B,i⟩:=jdw (ks:=[]) b .empty rfl;have c:ws.length=ps.length:=by rw[b.length];simp
  refine⟨p,ys,(ps.map λp=>kaV p.1).zip ws,rfl,s.sq,by simp[w,c],by simp[c];exact X6 f.2,q,λD m=>?_⟩;refine k (Go.newO (wf0 z) m) ?_;have ne:∀ a,H a≠none->a≠D:=λa h e=>h<|e▸m;exact⟨D,g,[],rfl,A.frame (λa z=>z) (λa h=>je<|ne a<|z a h)<|λa h=>(nomatch h),i,by show upd H D _ D=some _;rw[jh];exact congrArg (λx=>some<|HO.dK x) B.symm,rfl⟩
@[simp] def fDict_e(o)(l):yT [.lst o l]=(Vo l).bind λps=>bif frzs (ps.map (·.2))&&lim ps.length then some (.dK true (wF ps).1 (wF ps).2) else none:=rfl
end QD
namespace QK
open PySem L2 QD PySem.Spec PyProof.Rows
end QK
namespace QD
open PySem L2 PySem.Spec PyProof.Rows
@[simp] def sRev(i:Nat)(ρ:Rh):Option Out:=(pV i ρ).bind λx=>(K3 x).bind λl=>bif frzs l then some (.nx<|ρ.set i<|some<|.lst true l.reverse) else none
end QD
namespace L2
open PySem PySem.Spec PyProof.Rows
end L2
namespace QD
open PySem L2 PySem.Spec PyProof.Rows
def sub_mid{A P B O:W5}:(P++O).Sublist ((A++P++B)++O):=
 List.Sublist.append ((List.sublist_append_right A P).trans (List.sublist_append_left _ B)) (List.Sublist.refl O)
def Go.dropS(g:Go Z H O Z' H' O')(h:O''.Sublist O'):Go Z H O Z' H' O'':=g.drop (λa b=>h.subset b)<|g.wf.nd.sublist h
def jg7(h:L2.atI l j=some x):∃ i,ixN l.length j=some i/\l[i]?=some x:=by
 unfold L2.atI at h;cases e:ixN l.length j with
 | none=>rw[e] at h;cases h
 | some i=>rw[e] at h;exact⟨i,rfl,h⟩
def jdr(h:ixN l.length j=some i)(k:l[i]?=some x):L2.atI l j=some x:=by
 unfold L2.atI;rw[h];exact k
def dIx(fe:FE)(j:Int):FE:=λρ=>match fe ρ with
 | some (.tup l,ρ1)=>(L2.atI l j).bind λd=>some (d,ρ1)
 | some (.lst _ l,ρ1)=>(L2.atI l j).bind λd=>some (d,ρ1)
 | _=>none
def joM{j}(h:DE R te fe):DE R (tOp (rIx R.K) te<|tC<|.int j) (dIx fe j):=by
 intro σ ρ I Z H O d w s e Q k;unfold dIx at e;split at e
 ·rename_i l z n;refine ob e λx e2 e=>?_;cases e;refine h w s n λ{v C D P p} g r s1=>?_;obtain⟨a,vs,rfl,E,b⟩:=r;obtain⟨i,hi,q⟩:=jg7 e2;obtain⟨u,A,c,B,f,rfl,m,_⟩:=b.at q;exact .inr<|.inl ⟨a,vs,j,u,rfl,rfl,E.sq,jdr (by rw[b.length];exact hi) f,k (g.dropS sub_mid) m s1⟩
 ·rename_i o l z n;refine ob e λx e2 e=>?_;cases e;refine h w s n λ{v C D P p} g r s1=>?_;obtain⟨a,vs,J,rfl,b,hb⟩:=r;obtain⟨i,hi,q⟩:=jg7 e2;obtain⟨u,A,c,B,f,rfl,m,_⟩:=b.at q;cases o with
  | true=>
   obtain⟨t,rfl⟩:=hb;have F:(c++p).Sublist ((a::(A++c++B))++p):=sub_mid.trans<|List.sublist_cons_self _ _;exact .inl ⟨a,vs,j,u,rfl,rfl,(SqX.of t).sq,jdr (by rw[b.length];exact hi) f,k (g.dropS F) m s1⟩
  | false=>
   obtain⟨t,G,rfl⟩:=hb;have y:c=[]:=by
    have:=List.append_eq_nil_iff.mp G;exact(List.append_eq_nil_iff.mp this.1).2
   subst y;exact .inl ⟨a,vs,j,u,rfl,rfl,t.sq,jdr (by rw[b.length];exact hi) f,k g m s1⟩
 ·cases e
structure QDs(cl:Nat->Addr)(X:Cx)(es:List Expr)(ta:TA)(f:FA):Prop where
 sem:PA X es ta
 den:DA ⟨X.K,cl⟩ ta f
def jl9:QDs cl X [] JC Je:=⟨vI,jmI⟩
def jkh(h1:QE cl X e te fE)(h2:QDs cl X es tr fr)(a:SEq X e es:=by rfl):QDs cl X (e::es) (jI te tr) (jq fE fr):=⟨jE h1.sem h2.sem a,ji3 h1.den h2.den⟩
def jmB{a}(h:QDs cl X es tr fr):QE cl X (.Tuple es a pos) (zi tr) (K1 fr):=⟨Jg h.sem,jmZ h.den⟩
def jpj{j2}(b:QE cl X a ta fE)(c:VT (.Constant (.int j) j2 jpos):=by exact λ_ _=>rfl):QE cl X (.Subscript a (.Constant (.int j) j2 jpos) pos) (tOp (rIx X.K) ta<|tC<|.int j) (dIx fE j):=⟨jj9 jcM b.sem jgJ c,joM b.den⟩
@[simp] def jm1:K1 fa ρ=(fa ρ).bind λx=>bif decide (x.1.length<=1000) then some (.tup x.1,x.2) else none:=by
 unfold K1 dCB;cases fa ρ with
 | none=>rfl
 | some x=>
  obtain⟨d,r⟩:=x;dsimp only[Option.bind];cases decide (d.length<=1000)<;>rfl
section
variable {R:RC}{Z Z':Zn}{H H':Hp}{pm:List Nat}
@[simp] def jct(i:Nat)(pk:PF)(g:Int->Int->Int)(pv:PF)(ρ:Rh):Option Out:=(pk ρ).bind λy=>(yU y).bind λc=>(pV i ρ).bind λx=>(jgW x).bind λkl=>(qu kl.1 kl.2 c).bind λm=>(vz m).bind λm=>(pv ρ).bind λn=>(vz n).bind λn=>
  bif lim kl.1.length then some (.nx<|ρ.set i<|some<|.dK true (vV kl.1 kl.2 c<|.int<|g m n).1 (vV kl.1 kl.2 c<|.int<|g m n).2) else none
def vA(i:Nat)(L:Ln)(pk:PF)(g:Int->Int->Int)(pv:PF)(ρ:Rh):Option Out:=(pk ρ).bind λy=>(yU y).bind λc=>(pV i ρ).bind λt=>(L t).bind λy=>(jgW y.1).bind λkl=>(qu kl.1 kl.2 c).bind λm=>(vz m).bind λm=>(pv ρ).bind λn=>(vz n).bind λn=>
  bif lim kl.1.length then some (.nx<|ρ.set i<|some<|y.2<|.dK true (vV kl.1 kl.2 c<|.int<|g m n).1 (vV kl.1 kl.2 c<|.int<|g m n).2) else none
def Qy{i}{L}{tb ty tv}{pk pv}{g}{rd}(j:∀{m n}{H}{Q},Q (.int<|g m n) H->rd (.int m) (.int n) H Q)(C:jep R tb i L)(D:PB R ty pk)(E:PB R tv pv):DS R pm (Q9 tb ty tv rd) (vA i L pk g pv):=by
 intro σ ρ Z H O o w s e V k;refine ob e λq F e=>ob e λc e5 e=>ob e λt hi e=>ob e λ⟨y,W⟩ e3 e=>ob e λ⟨X,l⟩ G e=>ob e λx I e=>ob e λm J e=>ob e λY K e=>ob e λn e2 e=>oc e λd e=>?_;cases e;cases wZ G;cases jK J;cases jK e2;refine qx (P0:=[]) C w s hi e3 jbb λa _ vs O' A f B M put=>M<|D w.zd s F λ{z Z1 H1 P1} h r1=>?_;obtain⟨rfl,_⟩:=yc e5 r1;obtain⟨mv,P3,p,r⟩:=(kP A f).1 _ I;obtain⟨rfl,_⟩:=r.int_of;refine⟨a,.int m,rfl,by rw[<- p];exact DGet.k<|h.at0 B,E h.wf.zd (h.slots w.zd s) K λ{u Z2 H2 P4} g2 r2=>?_⟩;obtain⟨rfl,_⟩:=r2.int_of;have b:=h.trans g2;obtain⟨N,O2,P,e7,S,v⟩:=Y0 (Rep.int_mk) c (b.reps w.zd A) f;obtain⟨O3,T,U⟩:=put jbb v b P ⇑S.count_le;refine j ⟨_,DPut.k (b.at0 B)<|Vr d,?_⟩;rw[<- e7];exact k T U<|Keep.refl _ _
def jkd{i}{ty tv}{pk pv}{g}{rd}(a:∀{m n}{H}{Q},Q (.int<|g m n) H->rd (.int m) (.int n) H Q)(b:PB R ty pk)(c:PB R tv pv):DS R pm (Q9 (jU i) ty tv rd) (jct i pk g pv):=Qy a Ji b c
noncomputable def kaD:KA->D
 | .int i=>.int i
 | .str s=>.str s
@[simp] def yM(pd:PF)(ρ:Rh):Option D:=(pd ρ).bind λd=>(ji6 d).bind λk=>bif frzs k.2 then some (.lst true<|(k.1.zip k.2).map λp=>.tup [kaD p.1,p.2]) else none
def wo(a):Rep R Z H (kaD a) (kV<|kaV a) []:=by
 cases a with
 | int i=>exact .int_mk
 | str s=>exact .str_mk
def jcg(h:PB R td pd):PP R (wU td) (yM pd):=by
 intro σ ρ Z H O d z s e Q k;refine ob e λx e1 e=>ob e λ⟨w,l⟩ e2 e=>oc e λhf e=>?_;cases e;obtain⟨o,rfl⟩:=jfZ e2;refine h z s e1 λ{v E y P} g r=>?_;obtain⟨a,vs,O',rfl,Y,F,ea,hb⟩:=r;refine⟨a,_,rfl,(by cases o with | true=>exact .inl ea | false=>exact ea),λn i M C N has=>?_⟩;have m:=List.nodup_cons.mp N;have L:∀ b,y b≠none->jZ y i ((w.map kaV).zip vs) n b=y b:=λb hb=>by
  unfold jZ;rw[if_neg λq=>hb<|by rw[q];exact M,qc λq=>hb<|has b q]
 have zd:=g.wf.zd;have G:∀ b∈i,jZ y i ((w.map kaV).zip vs) n b≠none:=λb hb=>by
  obtain⟨j,hj⟩:=List.mem_iff_getElem?.mp hb;have S:j<((w.map kaV).zip vs).length:=by rw[<- C];exact(L9.mp hj).1
  unfold jZ;rw[if_neg<|show ¬ b=n from λq=>m.1<|q▸hb,KG m.2 hj<|X9 S];exact λz=>nomatch z
 have I:jZ y i ((w.map kaV).zip vs) n n=some (.lst<|i.map V.ref):=by unfold jZ;rw[if_pos rfl]
 have g2:Go E y [] (λb=>E b\/b∈i) (jZ y i ((w.map kaV).zip vs) n) [n]:=by
  refine⟨⟨by simp,λb hb q=>?_,λb hb=>?_,λb q=>?_⟩,λb q=>.inl q,λb hb _=>L b hb,λb q=>?_,λb hb=>?_,λb hb=>?_⟩
  ·rw[M9.mp hb] at q;rcases q with q | q
   ·exact zd _ q M
   ·exact m.1 q
  ·rw[M9.mp hb,I];exact λz=>nomatch z
  ·rcases q with q | q
   ·rw[L b<|zd b q];exact zd b q
   ·exact G b q
  ·rcases q with q | q
   ·exact .inl q
   ·exact .inr<|.inr<|has b q
  ·rw[M9.mp hb];exact .inr M
  ·rw[L b hb];exact hb
 refine k (g.trans g2) ⟨n,i.map V.ref,[],rfl,?_,I,rfl⟩;have T:Reps R (λb=>E b\/b∈i) (jZ y i ((w.map kaV).zip vs) n) l vs []:=(Y.frozen hf).frame (λb q=>.inl q) (λb q=>L b<|zd b q) (λb hb=>nomatch hb);have key:∀(t:W5) (f:List KA) D A,Reps R (λb=>E b\/b∈i) (jZ y i ((w.map kaV).zip vs) n) D A []->f.length=D.length->t.length=f.length ->
   (∀(j:Nat) b c u,t[j]?=some b->f[j]?=some c->A[j]?=some u->b∈i/\jZ y i ((w.map kaV).zip vs) n b=some (.tup [kV<|kaV c,u])) ->
   Reps R (λb=>E b\/b∈i) (jZ y i ((w.map kaV).zip vs) n) ((f.zip D).map λp=>.tup [kaD p.1,p.2]) (t.map V.ref) []:=by
  intro t
  induction t with
  | nil=>
   intro f D A _ U B _;have:=List.length_eq_zero_iff.mp B.symm;subst this;exact .empty
  | cons b t ih=>
   intro f D A rr U B hp;cases f with
   | nil=>simp at B
   | cons c f=>
    cases D with
    | nil=>simp at U
    | cons d D=>
     obtain⟨u,J,O1,O2,rfl,eO,r1,r2⟩:=rr;obtain⟨rfl,rfl⟩:=List.append_eq_nil_iff.mp eO.symm;obtain⟨hb,eb⟩:=hp 0 b c u rfl rfl rfl;exact Reps.cons (O:=[]) ⟨b,[kV<|kaV c,u],rfl,.inl ⟨.inr hb,.inl eb⟩,Reps.cons (wo c)<|.one r1⟩<|ih f D J r2 ⇑U ⇑B λj b' c' u' K W X=>hp (j+1) b' c' u' ⇑K ⇑W ⇑X
 refine key i w l vs T F (by rw[C,List.length_zip,L1,Y.length,F];simp) λj b c u K W X=>⟨List.mem_of_getElem? K,?_⟩;have hz:((w.map kaV).zip vs)[j]?=some (kaV c,u):=by
  rw[List.getElem?_zip_eq_some];exact⟨by rw[List.getElem?_map,W];rfl,X⟩
 unfold jZ;rw[if_neg<|show ¬ b=n from λq=>m.1<|q▸List.mem_of_getElem? K,KG m.2 K hz]
end
section
variable {cl:Nat->Addr}{pm:List Nat}{X:Cx}{a b e o tg iter:Expr}{body:List Stmt}{ta tb te to:TE}{pa pb pe po:PF}{pos:Pos}{k:Nat}{t:TG}{g:D->Rh->Option Rh}{fE:FE}{ts:TS}{f:FS}
def jf1{i}{x}{a tpos}(d:Room k X.A)(f:QB cl X (.Name x a) (jU i)<|pV i)(hb:QB cl X b tb pb)(c:QB cl X e te pe)
  (g:∀ ov iv new,augStore b ov iv new=(do holding [new,ov,iv] (setItem ov iv new);release [new,ov,iv] [];pure .next):=by intros;rfl):
  QS cl pm X (.AugAssign (.Subscript (.Name x a) b tpos) .Sub e pos) (Q9 (jU i) tb te jns) (jct i pb (λm n=>m-n) pe):=⟨KZ (Yk d) f.sem hb.sem c.sem uw g,jkd (λq=>⟨_,_,rfl,rfl,q⟩) hb.den c.den⟩
def jgm(f:X.calm=true)(g:X.mg "list" = none)(e:QB cl X o to po)(h:Gl X "list":=by rfl)
  (a:attributeBase o "items" X.env (eval o X.env)=eval o X.env:=by rfl) (b:(apos.endLine==cpos.line)=true:=by rfl)
  (i:starEach [.Call (.Attribute o "items" apos) [] [] cpos] X.env=(false,eval (.Call (.Attribute o "items" apos) [] [] cpos) X.env)::starEach [] X.env:=by rfl)
  (c:(backTo pos<|starEach [] X.env).any (·.1)=false:=by rfl)
  (d:backTo pos (starEach [.Call (.Attribute o "items" apos) [] [] cpos] X.env)=[(false,eval (.Call (.Attribute o "items" apos) [] [] cpos) X.env)]:=by rfl):
  QP cl X (.Call (.Name "list" p) [.Call (.Attribute o "items" apos) [] [] cpos] [] pos) (wU to) (yM po):=⟨jc8 f h g Yi e.sem a b i c d,jcg e.den⟩
end
noncomputable def jnY:List Str->List Tok->List Value
 | x::xs,t::ts=>.str x t::jnY xs ts
 | _,_=>[]
theorem QY:∀{xs}{ts},xs.length=ts.length->Vals (xs.map V.str) (jnY xs ts)
 | [],[],_=>.nil
 | x::xs,t::ts,h=>.cons ⟨t,rfl⟩<|QY ⇑h
 | [],_::_,h=>by simp at h
 | _::_,[],h=>by simp at h
def jdA(ws:W1):Reps R Z H (ws.map D.str) ((ws.map S).map V.str) []:=by
 induction ws with
 | nil=>exact .empty
 | cons w ws a=>exact .cons .str_mk a
def jdX{K}{n}{sl}{xs}{ts}{ws:W1}(c:ws.map S=xs)(h:K.lookup a=some ⟨.type "tuple",none,.seq (jnY xs ts).toArray n,sl⟩)(d:xs.length=ts.length)(e:xs.length<=1000)(cl)(Z)(H):Rep ⟨K,cl⟩ Z H (.tup<|ws.map D.str) (.ref a) []:=by
 subst c;have b:=QY d;refine⟨a,(ws.map S).map V.str,rfl,.inr ⟨_,_,n,h,rfl,rfl,?_,by simpa using b⟩,jdA ws⟩;have:=b.length;rw[L1] at this;rw[N4,<- this];exact jhi e
noncomputable def spM(R:RC)(m:List D->Option (D×D))(n j:Nat):Sp:=λvs H Q _=>∃ Z ds d c O u,WF Z H O/\ds.length=n/\Reps R Z H ds vs O/\vs[j]?=some u/\m ds=some (d,c) /\
 ∀{v}{Z'}{H'}{P O'},Go Z H O Z' H' (P++O')->Rep R Z' H' d v P->Rep R Z' H' c u O'->Q v H'
def YJ(j:Nat):Out->Option (D×D)
 | .rt d ρ=>(pV j ρ).bind λc=>some (d,c)
 | .nx ρ=>(pV j ρ).bind λc=>some (.non,c)
 | _=>none
def fnM(n j:Nat)(f:FS):List D->Option (D×D):=λds=>(f<|ds.map some++List.replicate (n-ds.length) none).bind (YJ j)
def vW:fnM n j f ds=(f<|ds.map some++List.replicate (n-ds.length) none).bind (YJ j):=rfl
def Go.pick(g:Go Z H O Z' H'<|P++(A++Q++B)):Go Z H O Z' H' (P++Q):=g.drop (λa h=>by simp at h ⊢;rcases h with h | h<;>simp[h]) (by
 have nd:=g.wf.nd;simp only[X0,N3] at nd ⊢;exact⟨nd.1,nd.2.1.1.2.1,λa c b hb=>nd.2.2 a c b<|.inl<|.inr hb⟩)
def jjE(y:DS R [j] ts f)(h:spM R (fnM N.length j f) n j vs H Q E):ts {nx:=λ_ H'=>Q .non H',rt:=Q} (L2.start N vs) H:=by
 obtain⟨Z,m,d,c,O,u,w,K,r,z,e,k⟩:=h;have s:Slots R Z H (m.map some++List.replicate (N.length-m.length) none) (L2.start N vs) O:=by
  have q:=Yh r<|Yl<|N.length-m.length;unfold L2.start;rw[r.length];rw[N1] at q;exact q
 have p:(L2.start N vs)[j]?=some (some u):=by
  unfold L2.start;rw[List.getElem?_append_left<|by simpa using((L9.mp z).1),List.getElem?_map,z];rfl
 have key:∀{a}{i}{l}{H'}{P t}{v},a[j]?=some (some c)->Go Z H O l H' (P++t)->Rep R l H' d v P->Slots R l H' a i t->Keep [j] (L2.start N vs) i->Q v H':=by
  intro a i l H' P t v b g D x kp;obtain⟨A,L,B,rfl,F,_,_⟩:=x.put (L9.mp b).1;obtain⟨M,G,I⟩:=F c b;have:i[j]?=some (some u):=by rw[kp j<|by simp,p]
  rw[G] at this;cases this;exact k g.pick D I
 refine ob e λo C e=>?_;cases o with
 | rt S a=>exact ob e λJ b e=>by cases e;exact y w s C<|key<|Ys b
 | nx a=>exact ob e λJ b e=>by cases e;exact y w s C λg x kp=>key (Ys b) ⇑g .non_mk x kp
 | bk a=>cases e
 | ct a=>cases e
def jiU(h:spM R m n j vs H Q E):vs.length=n:=by
 obtain⟨Z,b,d,c,O,u,w,a,r,_⟩:=h;rw[r.length,a]
def PJ(R:RC)(i j:Nat)(ta:TA)(p:PAf):Prop:=∀{σ}{ρ}{Z}{H}{O}{ds},Zd Z H->Slots R Z H ρ σ O->p ρ=some ds->∀{u},σ[i]?=some (some u) ->
 ∀{Q:List V->Hp->Prop},(∀{v1 v2}{Z'}{H'},Go Z H [] Z' H' []->v1.length=j->Reps R Z' H' (ds.take j) v1 []->Reps R Z' H' (ds.drop j) v2 []->Q (v1++u::v2) H')->ta σ H Q
@[simp] def pFs(p:PAf)(ρ:Rh):Option (List D):=(p ρ).bind λds=>bif frzs ds then some ds else none
def jjt(a:PPs R tr pr):PJ R i 0 (jI (jU i) tr) (pFs pr):=by
 intro σ ρ Z H O g z s e u b Q k;refine ob e λl c e=>oc e λd e=>?_;cases e;refine⟨u,b,a z s c λ{vs h j m} f r1=>?_⟩;cases r1.nil d;exact k f rfl ⇑Reps.empty ⇑r1
def jjm(h:PB R ta pa)(m:PJ R i j tr pr):PJ R i (j+1) (jI ta tr) (ja (pF pa) pr):=by
 intro σ ρ Z H O x z s e u n Q k;refine ob e λd a e=>ob e λl e2 e=>?_;cases e;have o:frz d=true:=by
  refine ob a λc e3 a=>?_;cases hc:frz c with
  | false=>rw[hc] at a;cases a
  | true=>rw[hc] at a;cases a;exact hc
 refine h.f z s a λ{v y A B} b r1=>?_;cases r1.nil o;refine m b.wf.zd (b.slots z s) e2 n λ{g C p q} g2 r t w=>?_;have g3:Go Z H [] p q []:=by simpa using b.pair g2
 exact k (v1:=v::g) g3 (by simp[r]) (.cons (g2.rep b.wf.zd r1) t) ⇑w
@[simp] def j8(m:List D->Option (D×D))(i:Nat)(j:Nat)(p:PAf)(ρ:Rh):Option (D×Rh):=(p ρ).bind λds=>(pV i ρ).bind λc=>(m<|ds.take j++c::ds.drop j).bind λr=>some (r.1,ρ.set i<|some r.2)
def Go.turn(g:Go Z H O Z' H'<|A++(P++Q)++B):Go Z H O Z' H' (P++(A++Q++B)):=g.drop (λa h=>by simp at h ⊢;rcases h with h | h | h | h<;>simp[h]) (by
 have nd:=g.wf.nd;simp only[X0,N3] at nd ⊢;obtain⟨⟨i,⟨j,k,l⟩,d⟩,m,f⟩:=nd;refine⟨j,⟨⟨i,k,λa c b hb=>d a c b<|.inr hb⟩,m,λa c b hb=>f a (c.elim .inl λq=>.inr<|.inr q) b hb⟩,λa c b hb e=>?_⟩;rcases hb with(hb | hb) | hb
 ·exact d b hb a (.inl c) e.symm
 ·exact l a c b hb e
 ·exact f a (.inr<|.inl c) b hb e)
def jfq(h:PJ R i j ta p)(y:∀ ρ ds,p ρ=some ds->ds.length+1=n/\j<=ds.length):DE R (qM (spM R m n j) [] E0 ta) (j8 m i j p):=by
 intro σ ρ N Z H O d w s e Q k;refine ob e λds q e=>ob e λc a e=>ob e λ⟨z,C⟩ e2 e=>?_;cases e;have a:=Ys a;have hi:=(L9.mp a).1;obtain⟨S,T,U,_,D,_,_⟩:=s.put hi;obtain⟨u,g,_⟩:=D c a;refine h w.zd s q g λ{E F l r} t G I J=>?_;have b:Go Z H O l r O:=by simpa using t.widen w
 obtain⟨A,P,B,rfl,K,k2,_⟩:=(t.slots w.zd s).put hi;obtain⟨V,f,L⟩:=K c a;rw[g] at f;cases f;obtain⟨W,X⟩:=y ρ ds q;have M:Reps R l r (ds.take j++c::ds.drop j) (E++u::F) P:=by
  have:=I.append<|Reps.cons L J;simpa using this
 refine⟨l,ds.take j++c::ds.drop j,z,C,P,u,b.wf.mid,by simp;lia,by rw[N1];exact M,by rw[N1,List.getElem?_append_right ∅,G];simp,e2,λ{v Y H2 P2 O2} g2 r2 o=>?_⟩;have x:=Go.keepA b.wf g2;have s2:=k2 o g2.zz (g2.zH b.wf.mid) x.1 x.2;rw[yE g] at s2;exact k (b.trans<|g2.frame b.wf).turn r2 s2
def jfr(i:Nat)(r:D×Rh):Option Out:=match r.2[i]? with
 | some (some (.lst true l))=>bif lim l.length then some (.nx<|r.2.set i<|some<|.lst true<|l++[r.1]) else none
 | _=>none
noncomputable def jeF:Option (Option D)->Bool
 | some (some (.lst true _))=>true
 | _=>false
def V2(i:Nat)(fe:FE):FS:=λρ=>bif jeF ρ[i]? then(fe ρ).bind (jfr i) else none
def jiS(h:DE R te fe):DS R pm (JV<|tBM R.K "list" Jr (jU i)<|jI te JC) (V2 i fe):=by
 intro σ ρ Z H O o w s e D' k;unfold V2 at e;cases hown:jeF ρ[i]? with
 | false=>rw[hown] at e;cases e
 | true=>
 rw[hown,cond_true] at e;obtain⟨F,C⟩:∃ F,ρ[i]?=some (some<|.lst true F):=by
  unfold jeF at hown;split at hown
  ·rename_i F q;exact⟨F,q⟩
  ·lia
 refine ob e λr V e=>?_;obtain⟨d,ρ1⟩:=r;unfold jfr at e;split at e
 ·rename_i l Q;refine oc e λD e=>?_;cases e;obtain⟨A0,P0,B0,_,W,_,_⟩:=s.put (L9.mp C).1;obtain⟨v0,j,X⟩:=W _ C;obtain⟨a,G,O0,rfl,Y,I,_⟩:=X;refine⟨.ref a,j,.inl ⟨rfl,G,SqL.of I⟩,(h w s V λ{u n E p O1} S r1 s1=>?_)⟩;obtain⟨A,P,B,rfl,k1,k2,_⟩:=s1.put (L9.mp Q).1;obtain⟨v,T,rl⟩:=k1 _ Q;rw[j] at T;cases T;obtain⟨a',vs,t,J,U,ea,rfl⟩:=rl;cases J;refine⟨a,vs,u,rfl,rfl,ea,by rw[U.length];exact VA D,?_⟩;have w1:=S.wf;have nd:=w1.nd;simp only[X0,N3,List.nodup_cons,M5] at nd;obtain⟨n1,⟨⟨nA,⟨na,nO⟩,nAO⟩,nB,g⟩,L⟩:=nd;have ne:∀ b,b∈p\/b∈A\/b∈t\/b∈B\/n b->b≠a:=by
   intro b hb e;subst e;rcases hb with hb | hb | hb | hb | hb
   ·lia
   ·lia
   ·lia
   ·exact g b (.inr<|.inl rfl) b hb rfl
   ·exact w1.nz b (by simp) hb
  have M:Reps R n (upd E a<|.lst<|vs++[u]) l vs t:=U.frame (λ_ z=>z) (λb z=>je<|ne b<|.inr<|.inr<|.inr<|.inr z) λb hb=>je<|ne b<|.inr<|.inr<|.inl hb;have N:Rep R n (upd E a<|.lst<|vs++[u]) d u p:=r1.frame (λ_ z=>z) (λb z=>je<|ne b<|.inr<|.inr<|.inr<|.inr z) λb hb=>je<|ne b<|.inl hb;have r2:Rep R n (upd E a<|.lst<|vs++[u]) (.lst true<|l++[d]) (.ref a) (a::(t++p)):=by
   refine⟨a,vs++[u],t++p,rfl,?_,jh,rfl⟩;have:=M.append<|Reps.cons N Reps.empty;simpa using this
  have s2:=k2 r2 (λ_ z=>z) (λb z=>je<|ne b<|.inr<|.inr<|.inr<|.inr z) (λb hb=>je<|ne b<|.inr<|.inl hb)<|λb hb=>je<|ne b<|.inr<|.inr<|.inr<|.inl hb;rw[yE j] at s2;have g2:Go n E (p++(A++a::t++B)) n (upd E a<|.lst<|vs++[u]) (A++(a::(t++p))++B):=by
   refine⟨⟨?_,λb hb=>w1.nz b (by simp at hb ⊢;rcases hb with hb | hb | hb | hb | hb<;>simp[hb]),λb hb=>?_,λb hb=>?_⟩,λ_ z=>z,λb hb hn=>je<|λe=>hn<|by simp[e],λ_ z=>.inl z,λb hb=>.inl (by simp at hb ⊢;rcases hb with hb | hb | hb | hb | hb<;>simp[hb]),λb hb=>?_⟩
   ·simp only[X0,N3,List.nodup_cons,M5];refine⟨⟨nA,⟨λz=>z.elim na λq=>L a q a (.inl<|.inr<|.inl rfl) rfl,nO,n1,λx f y m e=>L y m x (.inl<|.inr<|.inr f) e.symm⟩,λx f y m e=>?_⟩,nB,λx f y m e=>?_⟩
    ·grind
    ·rcases f with f | f | f | f
     ·exact g x (.inl f) y m e
     ·exact g x (.inr<|.inl f) y m e
     ·exact g x (.inr<|.inr f) y m e
     ·exact L x f y (.inr m) e
   ·by_cases c:b=a
    ·rw[c,jh];exact λz=>(nomatch z)
    ·rw[je c];exact w1.od b (by simp at hb ⊢;rcases hb with hb | hb | hb | hb | hb<;>simp[hb])
   ·by_cases c:b=a
    ·rw[c,jh];exact λz=>(nomatch z)
    ·rw[je c];exact w1.zd b hb
   ·by_cases c:b=a
    ·rw[c,jh];exact λz=>(nomatch z)
    ·rw[je c];exact hb
  exact k (S.trans g2) s2<|Keep.refl _ _
 ·cases e
structure QJ(cl:Nat->Addr)(X:Cx)(i j:Nat)(es:List Expr)(ta:TA)(p:PAf):Prop where
 sem:PA X es ta
 den:PJ ⟨X.K,cl⟩ i j ta p
 n:∀ ρ ds,p ρ=some ds->ds.length+1=es.length/\j<=ds.length
def ji2(b:QB cl X (.Name x pos) (jU i)<|pV i)(a:QPs cl X es tr pr)(c:∀ ρ ds,pr ρ=some ds->ds.length=es.length)(d:starEach (.Name x pos::es) X.env=(false,eval (.Name x pos) X.env)::starEach es X.env:=by rfl):QJ cl X i 0 (.Name x pos::es) (jI (jU i) tr) (pFs pr):=
 ⟨jE b.sem a.sem d,jjt a.den,λρ ds h=>by
  refine ob h λl e h=>?_;cases hf:frzs l with
  | false=>rw[hf] at h;cases h
  | true=>rw[hf] at h;cases h;exact⟨by rw[M3,c ρ _ e],U6 _⟩⟩
def jjb(b:QB cl X e te pe)(a:QJ cl X i j es tr pr)(c:SEq X e es:=by rfl):QJ cl X i (j+1) (e::es) (jI te tr) (ja (pF pe) pr):=
 ⟨jE b.sem a.sem c,jjm b.den a.den,λρ f h=>by
  refine ob h λd g h=>ob h λl e2 h=>?_;cases h;have:=a.n ρ l e2;simp only[M3]
  lia⟩
def jip{cl}{X}{e}{es}{pos p}{x}{tr}{pr}{i j}{k n}{f}{fd}{ps}{m}{qual}{st}(F:FnFact X.K X.mg x qual st f fd ps)(G:FnOk X.prog X.w X.K X.mg X.base CX0 k f fd ps<|spM ⟨X.K,cl⟩ m n j)(d:Room k X.A)
  (a:QJ cl X i j (e::es) tr pr) (g:(e::es).length=n:=by rfl) (l:Gl X x:=by rfl) (b:Nd x:=by decide)
  (o:SEq X e es:=by rfl) (c:BkE X pos es:=by rfl):QE cl X (.Call (.Name x p) (e::es) [] pos) (qM (spM ⟨X.K,cl⟩ m n j) [] E0 tr) (j8 m i j pr):=
 ⟨jfl F G d a.sem l b o c,jfq a.den λρ q h=>by rw[<- g];exact a.n ρ q h⟩
def jlc{cl}{P}{w}{K}{mg}{base}{x qual}{a}{fa}{fd}{N ps}{k n j}{fs}(F:Fun K x qual a fa fd)(c:FnScope N ps<|jD a)(d:ps.length=n)
  (b:∀ cdv A outer s H E,Room k (A.deeper<|envOfC qual (jD a) ↥s fa cdv) ->
   ∃ ts,QSs cl [j] (jhb CX0 P w K mg base N qual (jD a) fa cdv A outer s H E).nox (vO a) ts fs):FnOk P w K mg base CX0 (k+1) fa fd ps (spM ⟨K,cl⟩ (fnM N.length j fs) n j):=by
 refine F.ok c (λvs H Q E h=>by rw[jiU h,d]) λcdv A outer s H vs Q E e h=>?_;obtain⟨ts,q⟩:=b cdv A outer s H E e;exact⟨ts,q.sem,jjE q.den h⟩
def BO.o(h:BO R r g):DO R r g:=λw r1 r2 e _ k=>h w.zd r1 r2 e λg3 a=>k (g3.widen w).dropR a
def oF(g:D->D->Option D):D->D->Option D:=λx y=>(g x y).bind λd=>bif frz d then some d else none
def BO'.o(h:BO' R r g):DO R r (oF g):=by
 intro Z H x y d v u i j w r1 r2 e Q k;refine ob e λc b e=>oc e λf e=>?_;cases e;refine h w.zd r1 r2 b λ{l P} a=>?_;cases a.nil f;exact k ((Go.refl w).to0) a
def vU(m:List D->Option D)(fa:FA):FE:=λρ=>(fa ρ).bind λr=>bif frzs r.1 then(m r.1).bind λd=>some (d,r.2) else none
def jfy(f:DA R ta fa)(g:∀ ρ r,fa ρ=some r->r.1.length=n):DE R (qM (spP R m n) [] E0 ta) (vU m fa):=by
 intro σ ρ l Z H O d w s e Q k;refine ob e λr b e=>?_;obtain⟨h,o⟩:=r;refine oc e λi e=>ob e λc e2 e=>?_;cases e;refine f w s b λ{vs j p q t} a r1 s1=>?_;cases r1.nil i;refine⟨j,h,d,a.wf.zd,g ρ _ b,by rw[N1];exact r1,e2,λ{v u x y} g2 r2=>?_⟩;exact k (a.trans<|by simpa using(g2.widen a.wf)) r2<|g2.slots a.wf.zd s1
noncomputable def qk(g:D->Rh->Option Rh)(fe:FE):List D->Rh->Option (List D×Rh)
 | [],ρ=>some ([],ρ)
 | x::xs,ρ=>(g x ρ).bind λρ1=>(fe ρ1).bind λr=>(qk g fe xs r.2).bind λt=>some (r.1::t.1,t.2)
def YM(i:Nat)(ρ:Rh):Bool:=(ρ.set i none).all λo=>match o with
 | none=>true
 | some d=>frz d
def zh(pi:PAf)(g:D->Rh->Option Rh)(fe:FE)(ix:List<|Option Nat)(i i':Nat):FE:=λρ=>(pi ρ).bind λxs=>match ρ[i]? with
 | some (some _)=>bif lim xs.length&&YM i' (jo ix ρ) then(qk g fe xs<|jo ix ρ).bind λt=>match t.2[i']? with
   | some (some c)=>some (.lst true t.1,ρ.set i<|some c)
   | _=>none
  else none
 | _=>none
theorem Vq:∀{ρ}{σ}{O},Slots R Z H ρ σ O->(∀ o∈ρ,∀ d,o=some d->frz d=true)->Slots R Z H ρ σ []
 | [],_,_,h,_=>⟨h.1,rfl⟩
 | none::ρ,_,_,h,f=>by
  obtain⟨s,a,e,r⟩:=h;exact⟨s,a,e,Vq r λo b=>f o<|by simp[b]⟩
 | some d::ρ,_,_,h,f=>by
  obtain⟨v,a,c,g,e,_,r1,r2⟩:=h;cases r1.nil (f (some d) (by simp) d rfl);exact⟨v,a,[],[],e,rfl,r1,Vq r2 λo b=>f o<|by simp[b]⟩
def xi(s:Slots R Z H ρ σ O)(a:ix[i']?=some (some i))(g:ρ[i]?=some (some c))(h:σ[i]?=some (some u))(j:Rep R Z H c u P)(k:YM i' (jo ix ρ)=true):
  Slots R Z H (jo ix ρ) (ym ix σ) P/\(ym ix σ)[i']?=some (some u):=by
 obtain⟨t,l⟩:=Vj s ix;have m:=(L9.mp a).1;have hb:(jo ix ρ)[i']?=some (some c):=by
  unfold jo;rw[List.getElem?_map,a];show some ((ρ[i]?).join)=_;rw[g];rfl
 have f:(ym ix σ)[i']?=some (some u):=by
  unfold ym;rw[List.getElem?_map,a];show some ((σ[i]?).join)=_;rw[h];rfl
 have b:=(L9.mp hb).1;obtain⟨A,v,B,_,_,_,k3⟩:=l.put b;have n:=Vq k3 λo p d hd=>by
  have:=List.all_eq_true.mp k o p;rw[hd] at this;exact this
 obtain⟨w,x,y,r,_,k2,_⟩:=n.put (by rw[List.length_set];exact b);have q:=k2 j (λ_ z=>z) (λ_ _=>rfl) (λ_ _=>rfl)<|λ_ _=>rfl;have e:=r.symm;rw[List.append_eq_nil_iff,List.append_eq_nil_iff] at e;rw[e.1.1,e.2,List.set_set,yE hb,yE f] at q;exact⟨by simpa using q,f⟩
def jiv(hi:PIt R wi pi)(hg:PGt R [i'] tg g)(he:DE R te fe)(hix:ix[i']?=some (some i)):
  DE R (V3 wi tg (λ_ H Q=>Q true H) te ix) (zh pi g fe ix i i'):=by
 intro σ ρ ρ' Z H O d w s e Q k;refine ob e λj e1 e=>?_;split at e
 ·rename_i c hc;refine oc e λhl e=>?_;rw[M0] at hl;refine ob e λt e2 e=>?_;obtain⟨all,ρE⟩:=t;split at e
  ·rename_i c' C;cases e;refine hi w.zd s e1 λ{J o p} g0 it=>?_;intro a ha;have X:Go Z H O o p O:=by simpa using g0.widen w
   have s0:=g0.slots w.zd s;obtain⟨A,P,B,rfl,k1,k2,_⟩:=s0.put (L9.mp hc).1;obtain⟨u,hu,rc⟩:=k1 c hc;obtain⟨si,hsu⟩:=xi s0 hix hc hu rc hl.2;have D:=X.wf.mid;have gp:Go o p P o (upd p a<|.lst []) (a::P):=Go.newO D ha;have E:∀ b,p b≠none->b≠a:=λb h e=>h<|e▸ha;refine⟨λi m Y v=>m=j.length-i/\i<=j.length/\∃ ρ2 F G I vs f J7,Go o p P F v (a::f++G)/\v a=some (.lst vs)/\Reps R F v I vs f/\Slots R F v ρ2 Y G/\Keep [i'] (ym ix σ) Y/\qk g fe (j.drop i) ρ2=some (J7,ρE)/\all=I++J7/\I.length<=i,
    ⟨j.length,rfl,U6 _,_,o,P,[],[],[],all,by simpa using gp,jh,Reps.empty,si.frame (λ_ z=>z) (λb z=>je<|E b<|D.zd b z)<|λb hb=>je<|E b<|D.od b hb,Keep.refl _ _,e2,rfl,N0 _⟩,?_⟩
   rintro n m Y v ⟨rfl,hn',ρ2,F,G,I,vs,f,J7,g2,ea,ry,s2,kp,e3,e4,K⟩;have L:=it g2.zz (g2.zH D) g2.wf.zd n;by_cases M:n<j.length
   ·right
    have hx:j[n]?=some j[n]:=by simp[M]
    obtain⟨go,yl⟩:=L.2 _ hx;refine⟨go,λu3 H3 hy=>?_⟩;obtain⟨Z3,g3,r3⟩:=yl u3 H3 hy;have N:Go F v (a::f++G) Z3 H3 (a::f++G):=by simpa using g3.widen g2.wf
    rw[qw hx] at e3;refine ob e3 λρ3 e5 e3=>(hg r3 (g3.slots g2.wf.zd s2) e5 λ{σ4 O4} sub nd s4 k4=>(jet<|ob e3 λr e6 e3=>?_));obtain⟨y,ρ6⟩:=r;refine ob e3 λt e8 e3=>?_;obtain⟨ys2,ρF⟩:=t;cases e3;have n3:=X0.mp N.wf.nd;have g4:=(g2.trans N).drop (λb hb=>by rcases N3.mp hb with q | q<;>simp only[N3];exact .inl q;exact .inr<|sub b q) (X0.mpr ⟨n3.1,nd n3.2.1,λx hx y hy=>n3.2.2 x hx y<|sub y hy⟩);refine he g4.wf.right s4 e6 λ{v6 S l T U} g6 r6 s6=>?_;have w4:WF Z3 H3 (a::f++O4++[]):=by simpa using g4.wf
    have V:=(Go.keepA w4 g6).1;have gA:Go o p P S l (a::f++(T++U)):=by
     exact g4.trans (by simpa using(g6.frame w4))
    have w6:=gA.wf;have ea6:l a=some (.lst vs):=by rw[V a<|by simp,g3.same a<|by rw[ea];exact λz=>(nomatch z)];exact ea
    have hvl:vs.length<sizeLine:=by
     rw[ry.length];exact VA<|X4<|N8 K<|N8 hn'<|X6 hl.1
    have gB:Go S l (a::f++(T++U)) S (upd l a<|.lst<|vs++[v6]) (a::f++(T++U)):=Go.put w6 (by simp);have ne:∀ b,b∈f++(T++U)->upd l a (.lst<|vs++[v6]) b=l b:=λb hb=>je λz=>(List.nodup_cons.mp w6.nd).1 (z▸hb);have W:∀ b,S b->upd l a (.lst<|vs++[v6]) b=l b:=λb hb=>je λz=>w6.nz a (by simp)<|z▸hb;refine⟨vs,ea6,hvl,j.length-(n+1),by lia,rfl,M,ρ6,S,U,I++[y],vs++[v6],f++T,ys2,?_,jh,?_,(s6.frame (λb z=>z) W λb hb=>ne b<|by simp[hb]),kp.trans k4,e8,by rw[e4];simp,by rw[N5];exact Nat.add_le_add_right K 1⟩
    ·have:=gA.trans gB;simpa using this
    ·refine(((g3.reps g2.wf.zd ry).frame g6.zz (g6.zH g4.wf.right) λb hb=>V b<|by simp[hb]).append (.one r6)).frame (λb z=>z) W λb hb=>ne b ?_;rcases N3.mp hb with q | q<;>simp[q]
   ·left
    have hi2:n=j.length:=by lia
    refine⟨L.1 ∅,?_⟩;rw[hi2,List.drop_length] at e3;cases e3;rw[N1] at e4;subst e4;obtain⟨A',P',B',rfl,k1',_,_⟩:=s2.put (L9.mp C).1;obtain⟨u',hu',rc'⟩:=k1' c' C;have:Y[i']?=some (some u):=by rw[kp i'<|by simp,hsu]
    rw[hu'] at this;cases this;have g5:=g2.pick;have V:=Go.keepA X.wf g5;have s5:=k2 rc' g5.zz (g5.zH D) V.1 V.2;rw[yE hu] at s5;exact k (X.trans<|g5.frame X.wf).turn ⟨a,vs,f,rfl,ry,ea,rfl⟩ s5
  ·cases e
 ·cases e
def BC.o(h:BC R r g):DC R r g:=λw r1 e _ k=>h w.zd r1 e λg3 a=>k (g3.widen w).dropR a
def DIt(R:RC)(wi:TI)(fi:FA):Prop:=∀{σ}{ρ ρ'}{Z}{H}{O}{xs},WF Z H O->Slots R Z H ρ σ O->fi ρ=some (xs,ρ') ->
 ∀{Q:It->Hp->Prop},(∀{J}{Z'}{H'}{O'},Go Z H O Z' H' O'->Slots R Z' H' ρ' σ O'->jiD R J Z' H' xs->Q J H')->wi σ H Q
def jcf(fa:FA):FA:=λρ=>(fa ρ).bind λr=>(V8 r.1).bind λxs=>some (xs,r.2)
def jjr(h:DA R ta fa):DIt R (jde ta) (jcf fa):=by
 intro σ ρ f Z H O g w s e Q k;refine ob e λ⟨i,l⟩ b e=>ob e λm e2 e=>ob e2 λx e3 e2=>ob e2 λj c e2=>oc e2 λa e2=>?_;cases e;cases e2;cases kq e3;cases jK c;refine h w s b λ{vs n o p q} d r1 s1=>?_;obtain⟨u,rfl,r2⟩:=r1.one_of;obtain⟨rfl,rfl⟩:=r2.int_of;exact⟨j,rfl,(qB a).1,(qB a).2,k ⇑d s1 jgZ⟩
def jd0(p:FA)(g:D->Rh->Option Rh)(f:FS):FS:=λρ=>(p ρ).bind λr=>jY g f r.1 r.2
def jif(hi:DIt R wi p)(L:PGt R pm tg g)(M:DS R pm tb f):DS R pm (jll wi tg tb) (jd0 p g f):=by
 intro σ ρ Z H O o w s e D' k;refine ob e λr N e=>?_;obtain⟨c,P⟩:=r;refine hi w s N λ{J B G O0} a s0 Q=>?_;refine⟨LpF R pm g f σ B G O0 c o,
  ⟨c.length,rfl,U6 _,P,B,O0,Go.refl a.wf,s0,Keep.refl _ _,e⟩,?_⟩
 rintro i m σ' S ⟨rfl,T,ρ',U,I,h,s1,kp,e2⟩;have t:=Q h.zz (h.zH a.wf) h.wf.zd i;by_cases v:i<c.length
 ·right
  have K:c[i]?=some c[i]:=by simp[v]
  obtain⟨go,V⟩:=t.2 _ K;rw[qw K] at e2;refine ob e2 λρ1 e3 e2=>ob e2 λW X e2=>⟨go,λC n=>∃ b q A,Go B G O0 q n A/\Slots R q n b C A/\Keep pm σ C/\jY g f (c.drop<|i+1) b=some o,λC n ⟨b,q,A,Y,a2,a3,a4⟩=>⟨c.length-(i+1),by lia,rfl,v,b,q,A,Y,a2,a3,a4⟩,λu n hy=>?_⟩;obtain⟨q,g2,r2⟩:=V u n hy;have x:Go U S I q n I:=by simpa using g2.widen h.wf
  refine L r2 (g2.slots h.wf.zd s1) e3 λ{σ3 O3} sub nd s3 k3=>?_;have g3:=(h.trans x).drop sub (nd x.wf.nd);refine M g3.wf s3 X ?_;cases W with
  | nx b=>exact λ{D y E z} g4 j l=>⟨b,y,z,g3.trans g4,j,kp.trans<|k3.trans l,e2⟩
  | ct b=>exact λ{D y E z} g4 j l=>⟨b,y,z,g3.trans g4,j,kp.trans<|k3.trans l,e2⟩
  | bk b=>cases e2;exact λ{D y E z} g4 j l=>k (a.trans<|g3.trans g4) j<|kp.trans<|k3.trans l
  | rt d b=>cases e2;exact λ{v4 D y E P4 z} g4 r4 j l=>k (a.trans<|g3.trans g4) r4 j<|kp.trans<|k3.trans l
 ·left
  have F:i=c.length:=by lia
  refine⟨t.1 ∅,?_⟩;rw[F,List.drop_length] at e2;cases e2;exact k (a.trans h) s1 kp
structure QTE(cl:Nat->Addr)(X:Cx)(e:Expr)(tt:TT)(f:FT'):Prop where
 sem:PT X e tt
 den:DT ⟨X.K,cl⟩ tt f
structure QWE(cl:Nat->Addr)(X:Cx)(e:Expr)(tt:TT)(f:FT'):Prop where
 sem:PW X e tt
 den:DT ⟨X.K,cl⟩ tt f
def QT.d(h:QT cl X e tA qa):QTE cl X e tA (dPT qa):=⟨h.sem,PTt.d h.den⟩
def jmF{cl}{X}{a b}{ta tb}{fa fb}{pos}{K}(d:X.K=K)(c:QE cl X a ta fa)(hb:QE cl X b tb fb):QE cl X (.BinOp a .Add b pos) (tOp (jbG K) ta tb) (dOp jk fa fb):=by subst d;exact⟨K2 jd1 c.sem hb.sem,jfc (BO.o jgS) c.den hb.den⟩
def jlL(c:QE cl X a ta fa)(hb:QE cl X b tb fb):QE cl X (.BinOp a .Mod b pos) (tOp (rI (λ_ j=>0<j) λi j=>.int<|i%j) ta tb) (dOp jl fa fb):=⟨K2 jgE c.sem hb.sem,jfc (BO.o jhc) c.den hb.den⟩
def jmX(h:CmpR cl X op b r gg)(c:QE cl X a ta fa)(hb:QE cl X b tb fb):QTE cl X (.Compare a [op] [b] pos) (Vg<|tOp r ta tb) (jbj<|dOp gg fa fb):=⟨jcQ h.o c.sem hb.sem h.m,jjk<|jfc (BO.o h.g) c.den hb.den⟩
def jls(b:QTE cl X a tA ft):QWE cl X (.BoolOp .Or [a] pos) tA ft:=⟨jhl b.sem,b.den⟩
def jis(b:QTE cl X a tA ft):QWE cl X (.BoolOp .And [a] pos) tA ft:=⟨jb1 b.sem,b.den⟩
def jpp{cl}{X}{a b}{es}{tA tB}{ft fu}{pos}(c:QTE cl X a tA ft)(hb:QWE cl X (.BoolOp .Or (b::es) pos) tB fu):QWE cl X (.BoolOp .Or (a::b::es) pos) (tOr tA tB) (dOr ft fu):=⟨jnu c.sem hb.sem,jo6 c.den hb.den⟩
def jnp{cl}{X}{a b}{es}{tA tB}{ft fu}{pos}(c:QTE cl X a tA ft)(hb:QWE cl X (.BoolOp .And (b::es) pos) tB fu):QWE cl X (.BoolOp .And (a::b::es) pos) (jnk tA tB) (jnP ft fu):=⟨jgC c.sem hb.sem,jkE c.den hb.den⟩
def QWE.test(h:QWE cl X a tA ft):QTE cl X a tA ft:=⟨PW.pt h.sem,h.den⟩
def joK(a:QTE cl X c tA ft)(b:QSs cl pm X x ts f)(hb:QSs cl pm X y tu f2):QS cl pm X (.If c x y pos) (jnJ tA ts tu) (sIf ft f f2):=⟨jlS a.sem b.sem hb.sem,jmk a.den b.den hb.den⟩
def jn1{cl}{X}{a b}{ta tb}{fa fb}{pos}{K}(d:X.K=K)(c:QE cl X a ta fa)(hb:QE cl X b tb fb)(e:VT b:=by exact λ_ _=>rfl):QE cl X (.Subscript a b pos) (tOp (rIx K) ta tb) (dOp (oF jd) fa fb):=by subst d;exact⟨jj9 jcM c.sem hb.sem e,jfc (BO'.o jnl) c.den hb.den⟩
def jiy{cl}{X}{e}{es}{tr}{fr}{pos}{K}{k n}{fn}{fd}{ps}{m}{x qual}{st}{p}(d:X.K=K)(F:FnFact X.K X.mg x qual st fn fd ps)(G:FnOk X.prog X.w X.K X.mg X.base CX0 k fn fd ps<|spP ⟨X.K,cl⟩ m n)(f:Room k X.A)
  (c:QDs cl X (e::es) tr fr) (g:∀ ρ r,fr ρ=some r->r.1.length=n) (h:Gl X x:=by rfl) (a:Nd x:=by decide)
  (i:SEq X e es:=by rfl) (b:BkE X pos es:=by rfl):QE cl X (.Call (.Name x p) (e::es) [] pos) (qM (spP ⟨K,cl⟩ m n) [] E0 tr) (vU m fr):=by
 subst d;exact⟨jfl F G f c.sem h a i b,jfy c.den g⟩
def uK{cl}{X}{e}{es}{tr}{fr}{pos}{K:W4}{x}{p}{id}{r}{c}(f:qe X (.builtin id) r)(hb:BC ⟨X.K,cl⟩ r c)(g:X.mg x=none)(h:bootBuiltins x=some (.builtin id))(d:QDs cl X (e::es) tr fr)(i:Gl X x:=by rfl)
  (j:x≠"__name__":=by decide) (a:Nd x:=by decide) (k:SEq X e es:=by rfl) (b:BkE X pos es:=by rfl):
  QE cl X (.Call (.Name x p) (e::es) [] pos) (tCB r tr) (dCB c fr):=⟨K5 f i g h d.sem j a k b,jlG (BC.o hb) d.den⟩
structure QIE(cl:Nat->Addr)(X:Cx)(tg e:Expr)(wi:TI)(p:FA):Prop where
 sem:PI X tg e wi
 den:DIt ⟨X.K,cl⟩ wi p
def jeU(b:X.mg "range" = none)(h:QDs cl X [a] tr fr)(c:Gl X "range":=by rfl)(d:starEach [a] X.env=[(false,eval a X.env)]:=by rfl):QIE cl X tg (.Call (.Name "range" p) [a] [] pos) (jde tr) (jcf fr):=⟨Q4 c b h.sem d,jjr h.den⟩
def jlg(b:PassesOwn (model X.prog X.w) X.A X.env X.xe)(c:X.calm=true)(hi:QIE cl X tg iter wi fi)(a:QG cl pm X tg t g)(hb:QSs cl pm X body ts f)(d:∀ x,foldedSetIterable iter X.env x=pure x:=by intro _;rfl):QS cl pm X (.For tg iter body [] pos) (jll wi t ts) (jd0 fi g f):=
 ⟨jhf b c hi.sem a.sem hb.sem d,jif hi.den a.den hb.den⟩
def jmz(g:QB cl X (.Name x xpos) (jU i)<|pV i)(h:QE cl X e te fe)(b:attributeBase (.Name x xpos) "append" X.env (eval (.Name x xpos) X.env)=eval (.Name x xpos) X.env:=by rfl)
  (d:((backTo cpos<|starEach [e] X.env).all (λx=>!x.1)&&(backToKw cpos<|keywordEach [] X.env).all (λx=>x.1.isSome)
   && decide ([e].length+([]:List Keyword).length+(if([]:List Keyword).isEmpty then 0 else 1)<30))=true:=by rfl)
  (c:(apos.endLine==cpos.line)=true:=by rfl) (f:starEach [e] X.env=(false,eval e X.env)::starEach [] X.env:=by rfl) (a:(backTo cpos<|starEach [] X.env).any (·.1)=false:=by rfl)
  (hsw:swapsWith (.Call (.Attribute (.Name x xpos) "append" apos) [e] [] cpos) none pos.line X.env=pure false:=by rfl):
  QS cl pm X (.Expr (.Call (.Attribute (.Name x xpos) "append" apos) [e] [] cpos) pos) (JV<|tBM X.K "list" Jr (jU i)<|jI te JC) (V2 i fe):=
 ⟨Yw (jcZ PySem.F.plainAttrs_list PySem.F.slot_list_append PySem.F.type_list_append JL g.sem (jE h.sem vI f) b d c f a) hsw,jiS h.den⟩
def jay(B:BlockOk X scope N' ix)(e:X.calm=true)(hi:QI cl X tg iter wi pi)(a:ix[o']?=some (some o))
  (c:∀ C s H fp,QG cl [o'] (j7 X scope N' C s H fp) tg t g) (d:∀ C s H fp,QE cl (j7 X scope N' C s H fp) elt te fe)
  (f:X.N.Nodup) (b:X.N[i]?=some x:=by rfl) (h:Loc X.env.scope x:=by first | exact Or.inl rfl | exact Or.inr rfl)
  (hsw:swapsWith (.ListComp elt [⟨tg,iter,[],0⟩] scope pos) (some<|.Name x pos') spos.line X.env=pure true:=by with_unfolding_all rfl)
  (j:∀ x,foldedSetIterable iter X.env x=pure x:=by intro _;rfl)
  (k:X.fn x=true\/X.env.scope.names.lookup x=some .local:=by first | exact .inl rfl | exact .inr rfl):
  QS cl pm X (.Assign [.Name x pos'] (.ListComp elt [⟨tg,iter,[],0⟩] scope pos) spos) (jhh (V3 wi t (λ_ H Q=>Q true H) te ix)<|vX i) (jt (zh pi g fe ix o o')<|jc pm i):=
 ⟨Kh B e hi.sem (λC s H fp=>(c C s H fp).sem) (λC s H fp=>.inl ⟨rfl,rfl⟩) (λC s H fp=>(d C s H fp).sem) f b h hsw j k,
  uq (jiv hi.den (c 0 X.s₀ X.H₀ []).den (d 0 X.s₀ X.H₀ []).den a) Vx⟩
def jal:∀ ρ ds,pN ρ=some ds->ds.length=0:=λρ ds h=>by cases h;rfl
def zR(h:∀ ρ ds,pr ρ=some ds->ds.length=n):∀ ρ ds,ja p pr ρ=some ds->ds.length=n+1:=λρ ds e=>by
 refine ob e λd a e=>ob e λl e2 e=>?_;cases e;rw[M3,h ρ l e2]
def jeW:∀ ρ r,Je ρ=some r->r.1.length=0:=λρ r h=>by cases h;rfl
def jbM(h:∀ ρ r,fr ρ=some r->r.1.length=n):∀ ρ r,jq fe fr ρ=some r->r.1.length=n+1:=λρ r e=>by
 refine ob e λq b e=>?_;obtain⟨d,a⟩:=q;refine ob e λt e2 e=>?_;obtain⟨l,c⟩:=t;cases e;exact congrArg (·+1)<|h a _ e2
def jk2:D->Option (List D)
 | .lst _ m=>bif frzs m then some m else none
 | .tup m=>bif frzs m then some m else none
 | _=>none
def jiP(i:Nat)(p:PF)(ρ:Rh):Option Out:=(p ρ).bind λe=>(jk2 e).bind λm=>(pV i ρ).bind λx=>(K3 x).bind λl=>bif lim (l.length+m.length) then some (.nx<|ρ.set i<|some<|.lst true<|l++m) else none
def jli(h:PB R te p):DS R pm (JV<|tBM R.K "list" (jkq R.K) (jU i)<|jI te JC) (jiP i p):=by
 intro σ ρ Z H O o w s e G k;refine ob e λd z e=>ob e λm e2 e=>ob e λx A e=>ob e λl e3 e=>oc e λc e=>?_;cases e;cases Y2 e3;unfold JV tBM;refine qx (P0:=[]) Ji w s A rfl YD λa _ vs I t _ v B put=>B ⟨.inl ⟨rfl,vs,SqL.of v⟩,h w.zd s z λ{u C f J} g r1=>?_⟩;have D:∃ b zs,u=.ref b/\(SqL R.K f b zs\/SqT R.K f b zs)/\Reps R C f m zs []:=by
  cases d with
  | lst L E=>
   refine oc e2 λj e2=>?_;cases e2;obtain⟨b,zs,F,rfl,n,r⟩:=r1.lst_of;exact⟨b,zs,rfl,.inl n.sq,r.frozen j⟩
  | tup E=>
   refine oc e2 λj e2=>?_;cases e2;obtain⟨b,zs,rfl,n,r⟩:=r1.tup_of;exact⟨b,zs,rfl,.inr n,r.frozen j⟩
  | _=>cases e2
 obtain⟨b,zs,rfl,hb,y⟩:=D;obtain⟨M,g2,s2⟩:=put YD trivial g ((g.reps w.zd t).append y) λq=>by simp
 exact⟨a,b,vs,zs,rfl,rfl,g.at0 v,hb,by rw[t.length,y.length];exact Jj c,k g2 s2<|Keep.refl _ _⟩
noncomputable def jeb:List D->Option D
 | [.bl b]=>some<|.int (if b then 1 else 0)
 | _=>none
def jjD:BC R (λxs H Q=>∃ b:Bool,xs=[.bl b]/\Q (.int<|if b then 1 else 0) H) jeb:=by
 intro Z H xs d vs O z r e Q k;unfold jeb at e;split at e
 ·rename_i b;cases e;obtain⟨v,rfl,r1⟩:=r.one_of;obtain⟨rfl,_⟩:=r1.bl_of;exact⟨b,rfl,k (Go.id z) .int_mk⟩
 ·cases e
@[simp] def fIntB_e(b):jeb [.bl b]=some (.int<|if b then 1 else 0):=rfl
def jk4(g:QB cl X (.Name x xpos) (jU i)<|pV i)(h:QB cl X e te pe)(b:attributeBase (.Name x xpos) "extend" X.env (eval (.Name x xpos) X.env)=eval (.Name x xpos) X.env:=by rfl)
  (d:((backTo cpos<|starEach [e] X.env).all (λx=>!x.1)&&(backToKw cpos<|keywordEach [] X.env).all (λx=>x.1.isSome)
   && decide ([e].length+([]:List Keyword).length+(if([]:List Keyword).isEmpty then 0 else 1)<30))=true:=by rfl)
  (c:(apos.endLine==cpos.line)=true:=by rfl) (f:starEach [e] X.env=(false,eval e X.env)::starEach [] X.env:=by rfl) (a:(backTo cpos<|starEach [] X.env).any (·.1)=false:=by rfl)
  (hsw:swapsWith (.Call (.Attribute (.Name x xpos) "extend" apos) [e] [] cpos) none pos.line X.env=pure false:=by rfl):
  QS cl pm X (.Expr (.Call (.Attribute (.Name x xpos) "extend" apos) [e] [] cpos) pos) (JV<|tBM X.K "list" (jkq X.K) (jU i)<|jI te JC) (jiP i pe):=
 ⟨Yw (jcZ PySem.F.plainAttrs_list PySem.F.slot_list_extend PySem.F.type_list_extend jhM g.sem (jE h.sem vI f) b d c f a) hsw,jli h.den⟩
end QD
namespace QD
open PySem L2
def jb(h:n<=100000):lim n=true:=X4 h
def yD{f:α->β}{l:List α}(h:l.length<=100000):lim (l.map f).length=true:=jb (by rw[L1];exact h)
def wV(a:0<=i)(h:i<l.length):atI l i=l[i.toNat]?:=by
 unfold atI ixN;rw[if_pos ∅,if_pos ∅];rfl
def kO(h:(kY lo n)[i]?=some x):x=.int (lo+i)/\i<n:=by
 unfold kY at h;rw[List.getElem?_map] at h;by_cases hi:i<n
 ·rw[List.getElem?_range hi] at h;cases h;exact⟨rfl,hi⟩
 ·rw[List.getElem?_eq_none ⇑hi] at h;cases h
def jP(lo)(n):(kY lo n).length=n:=by simp[kY]
@[simp] def eq_ss(a b):kH (.str a) (.str b)=some (.bl<|a==b):=rfl
@[simp] def ne_ss(a b):QU (.str a) (.str b)=some (.bl<|!(a==b)):=rfl
@[simp] def is_i(i):jfa (.int i) .non=some (.bl false):=rfl
@[simp] def is_n:jfa .non .non=some (.bl true):=rfl
@[simp] def is_s(a):jfa (.str a) .non=some (.bl false):=rfl
@[simp] def in_cs(a)(c)(s):QR a (.str [c]) (.str s)=some (.bl<|a != decide (c∈s)):=rfl
@[simp] def neg_i(i):QA (.int i)=some (.int<|-i):=rfl
def uW(h:a.length+b.length<=100000):jk (.str a) (.str b)=some (.str<|a++b):=by
 show(bif lim (a.length+b.length) then some (D.str<|a++b) else none)=_;rw[jb h];rfl
def jp9(a:s.length<=100000)(b:0<=i)(h:i<s.length):jd (.str s) (.int i)=some (.str [s.getD i.toNat 0]):=by
 show(bif lim s.length then((atI s i).bind λc=>some<|D.str [c]) else none)=_;rw[jb a,wV b h];have:i.toNat<s.length:=by lia
 simp[this]
def jfR(xs:List α)  (h:0<=k):J9 xs none (some k)=xs.take k.toNat:=by
 obtain⟨n,rfl⟩:∃ n:Nat,k=n:=⟨k.toNat,by lia⟩;rw[jia];simp
def jbk(xs:List α)  (h:0<=k):J9 xs (some k) none=xs.drop k.toNat:=by
 obtain⟨n,rfl⟩:∃ n:Nat,k=n:=⟨k.toNat,by lia⟩;rw[jdW];simp
def jqt(a:s.length<=100000):jn5 lo hi (.str s)=some (.str<|J9 s lo hi):=by
 show(bif lim s.length then some (D.str<|J9 s lo hi) else none)=_;rw[jb a];rfl
@[simp] def itemsOf_str(s):K7 (.str s)=some (s.map λc=>D.str [c]):=rfl
@[simp] def fTuple_lst(o)(l):YA [.lst o l]=bif frzs l then some (.tup l) else none:=rfl
def zI(w)(l:W1):jho (.str w) (l.map D.str)=true:=by
 unfold jho;rw[M0];refine⟨rfl,List.all_eq_true.mpr λy a=>?_⟩;obtain⟨z,_,rfl⟩:=M7.mp a;rfl
def uD(w)(l:W1):inL (.str w) (l.map D.str)=decide (w∈l):=by
 unfold inL;rw[Bool.eq_iff_iff,List.any_eq_true,decide_eq_true_eq];constructor
 ·rintro⟨y,a,e⟩;obtain⟨z,b,rfl⟩:=M7.mp a;have:z=w:=by
   exact eq_of_beq e
  exact this▸b
 ·intro h;exact⟨.str w,M7.mpr ⟨w,h,rfl⟩,by show(w==w)=true;simp⟩
mutual
theorem jfV:∀(n:Nat) (d:D),okE n d=true->eqD d d=true
 | n,.non,_=>rfl
 | n,.bl _,_=>by show(_==_)=true;simp
 | n,.int _,_=>by show(_==_)=true;simp
 | n,.str _,_=>by show(_==_)=true;simp
 | n+1,.tup l,h=>by rw[eqD];exact Vb n l (by simpa [okE] using h)
 | n+1,.lst _ l,h=>by rw[eqD];exact Vb n l (by simpa [okE] using h)
 | 0,.tup l,h=>by simp[okE] at h
 | 0,.lst _ l,h=>by simp[okE] at h
 | n,.dK _ _ _,h=>by cases n<;>simp[okE] at h
 | n,.dT _ _ _,h=>by cases n<;>simp[okE] at h
 | n,.ins _ _ _ _,h=>by cases n<;>simp[okE] at h
 | n,.dead,h=>by cases n<;>simp[okE] at h
 | n,.tok _,h=>by cases n<;>simp[okE] at h
 | n,.kt _,h=>by cases n<;>simp[okE] at h
 | n,.exc _ _,h=>by cases n<;>simp[okE] at h
theorem Vb:∀(n:Nat) (l:List D),kz n l=true->xA l l=true
 | n,[],_=>rfl
 | n,d::l,h=>by
  rw[kz,M0] at h;rw[xA,jfV n d h.1,Vb n l h.2];rfl
end
def Vm(h:∀ d∈l,okE n d=true):kz n l=true:=by rw[Qm];exact List.all_eq_true.mpr h
theorem qN:∀{l},(∀ d∈l,frz d=true)->frzs l=true
 | [],_=>rfl
 | d::l,h=>by rw[JO,h d<|by simp,qN λx a=>h x<|by simp[a]];rfl
theorem uE:∀{l},(∀ d∈l,fz d=d)->fzs l=l
 | [],_=>rfl
 | d::l,h=>by rw[jfh,h d<|by simp,uE λx a=>h x<|by simp[a]]
def yH{f:α->D}(h:∀ x,frz (f x)=true)(l:List α):frzs (l.map f)=true:=qN λd hd=>by obtain⟨p,_,rfl⟩:=M7.mp hd;exact h p
def vk{f:α->D}(h:∀ x,fz (f x)=f x)(l:List α):fzs (l.map f)=l.map f:=uE λd hd=>by obtain⟨p,_,rfl⟩:=M7.mp hd;exact h p
def Jp(h:∀ c∈w,c<1114112):okE n (.str w)=true:=by
 exact List.all_eq_true.mpr λc a=>X4<|h c a
@[simp] def okE_int(n)(i):okE n (.int i)=true:=by cases n<;>rfl
theorem Kk(a):∀ w ws,V1 a (w::ws)=w++(ws.map (a++·)).flatten
 | w,[]=>by simp[V1]
 | w,v::ws=>by rw[V1,Kk a v ws];simp
theorem KN{G}{Good:D->Prop}{P:Rh->Prop}:∀{xs}(_:∀ x∈xs,∀ ρ,P ρ->∃ ρ1 y,G x ρ=some ρ1/\p ρ1=some y/\Good y/\P ρ1) {ρ}(_:P ρ),∃ ys,An3 (ya G qT p xs ρ=some ys) (ys.length=xs.length)<|∀ y∈ys,Good y
 | [],_,ρ,_=>⟨[],rfl,rfl,by simp⟩
 | x::xs,step,ρ,b=>by
  obtain⟨ρ1,y,c,e2,d,p1⟩:=step x (by simp) ρ b;obtain⟨ys,e3,e,f⟩:=KN (xs:=xs) (λz a=>step z<|by simp[a]) p1;refine⟨y::ys,?_,by simp[e],?_⟩
  ·rw[yP,c];simp[e2,e3]
  ·intro z a;rcases M5.mp a with rfl | a
   ·exact d
   ·exact f z a
theorem YS{f:α->D}{Q:α->Prop}:∀{ys},(∀ y∈ys,∃ a,y=f a/\Q a)->∃ l:List α,ys=l.map f/\∀ a∈l,Q a
 | [],_=>⟨[],rfl,by simp⟩
 | y::ys,h=>by
  obtain⟨a,e,q⟩:=h y (by simp);obtain⟨l,e2,c⟩:=YS (ys:=ys) λz d=>h z (by simp[d]);exact⟨a::l,by rw[e,e2];rfl,λb hb=>(M5.mp hb).elim (λz=>z▸q) (c b)⟩
def jbs(a:0<=i)(h:i<l.length):jd (.lst o l) (.int i)=l[i.toNat]?:=wV a h
def jkj(a:0<=i)(h:i<l.length):jd (.tup l) (.int i)=l[i.toNat]?:=wV a h
def Wd(w:List Nat):Prop:=w.length<=30/\∀ c∈w,c<1114112
@[simp] def kU(l:W1):fzs (l.map D.str)=l.map D.str:=by
 rw[kN,U2];rfl
@[simp] def yk(l:W1):frzs (l.map D.str)=true:=by
 rw[JQ,List.all_map,List.all_eq_true];intro x _;rfl
@[simp] def cleans_strs(l:W1):yr (l.map D.str)=true:=by
 rw[yO,List.all_map,List.all_eq_true];intro x _;rfl
def xX{l:W1}{i:Int}(a:0<=i)(h:i<l.length):jd (.lst o<|l.map D.str) (.int i)=some (.str<|l.getD i.toNat []):=by
 rw[jbs a<|by rw[L1];exact h,List.getElem?_map,List.getD_eq_getElem?_getD,X9 ∅];rfl
def Y1{l:List α}{i}(h:i<l.length):l.getD i d∈l:=by
 rw[List.getD_eq_getElem?_getD,X9 h];exact List.getElem_mem h
def jac(h:x∈J9 l lo hi):x∈l:=List.mem_of_mem_drop<|List.mem_of_mem_take h
def xw(St:List α->Rh->Prop)(Ok:α->Prop)(b M):∀{xs}{acc}{ρ},
  (∀ x∈xs,∀ acc ρ,acc.length<=M->(∀ a∈acc,Ok a)->St acc ρ->∃ ρ1 ρ2 L,G x ρ=some ρ1/\f ρ1=some (.nx ρ2)/\L.length<=b/\(∀ a∈L,Ok a)/\St (acc++L) ρ2) ->
  acc.length+b*xs.length<=M->(∀ a∈acc,Ok a)->St acc ρ->Ex2 λρ' T=>An4 (jY G f xs ρ=some (.nx ρ')) (St (acc++T) ρ') (T.length<=b*xs.length) (∀ a∈T,Ok a):=by
 intro xs
 induction xs with
 | nil=>
  intro acc ρ step g c d;exact⟨ρ,[],rfl,by rw[N1];exact d,by simp,by simp⟩
 | cons x xs i=>
  intro acc ρ step g c d;rw[M3,Nat.mul_succ] at g;obtain⟨ρ1,ρ2,L,j,e2,n,h,k⟩:=step x (by simp) acc ρ ∅ c d;obtain⟨ρ',T,e3,l,o,e⟩:=i (λy m=>step y<|by simp[m]) (by rw[N5];lia) (λa q=>(N3.mp q).elim (c a) (h a)) k;refine⟨ρ',L++T,?_,by rw[<- List.append_assoc];exact l,by rw[N5,M3,Nat.mul_succ];lia,λa q=>(N3.mp q).elim (h a) (e a)⟩;rw[yx,j,L4,e2,L4,wt,e3]
def Kg{G}{l:List α}{en out}{b}(P:Rh->Prop)(step:∀ x∈l,∀ ρ,P ρ->∃ ρ1,G (en x) ρ=some ρ1/\q ρ1=some (b x)/\p ρ1=some (out x)/\P ρ1){ρ}(a:P ρ):ya G q p (l.map en) ρ=some ((l.filter b).map out):=by
 induction l generalizing ρ with
 | nil=>rfl
 | cons x l c=>
  obtain⟨ρ1,d,e2,e3,p1⟩:=step x L7 ρ a;have:=c (λy e=>step y<|L6 _ e) p1;rw[L5,yP,d,L4,e2,L4];cases hb:b x with
  | true=>simp[e3,this,hb]
  | false=>simp[this,hb]
mutual
theorem jlp:∀(n:Nat) (d:D),okE n d=true->eqD (fz d) d=true
 | n,.non,_=>rfl
 | n,.bl _,_=>by show(_==_)=true;simp
 | n,.int _,_=>by show(_==_)=true;simp
 | n,.str _,_=>by show(_==_)=true;simp
 | n+1,.tup l,h=>by rw[fz,eqD];exact wN n l (by simpa [okE] using h)
 | n+1,.lst _ l,h=>by rw[fz,eqD];exact wN n l (by simpa [okE] using h)
 | 0,.tup l,h=>by simp[okE] at h
 | 0,.lst _ l,h=>by simp[okE] at h
 | n,.dK _ _ _,h=>by cases n<;>simp[okE] at h
 | n,.dT _ _ _,h=>by cases n<;>simp[okE] at h
 | n,.ins _ _ _ _,h=>by cases n<;>simp[okE] at h
 | n,.dead,h=>by cases n<;>simp[okE] at h
 | n,.tok _,h=>by cases n<;>simp[okE] at h
 | n,.kt _,h=>by cases n<;>simp[okE] at h
 | n,.exc _ _,h=>by cases n<;>simp[okE] at h
theorem wN:∀(n:Nat) (l:List D),kz n l=true->xA (fzs l) l=true
 | n,[],_=>rfl
 | n,d::l,h=>by
  rw[kz,M0] at h;rw[fzs,xA,jlp n d h.1,wN n l h.2];rfl
end
mutual
theorem jlJ:∀(n:Nat) (d e:D),okE n d=true->fz d=fz e->eqD d e=true
 | n,.non,e,_,h=>by cases e<;>simp[fz] at h;rfl
 | n,.bl _,e,_,h=>by cases e<;>simp[fz] at h;subst h;show(_==_)=true;simp
 | n,.int _,e,_,h=>by cases e<;>simp[fz] at h;subst h;show(_==_)=true;simp
 | n,.str _,e,_,h=>by cases e<;>simp[fz] at h;subst h;show(_==_)=true;simp
 | n+1,.tup l,e,h,q=>by
  cases e<;>simp[fz] at q;rw[eqD];exact wu n l _ (by simpa [okE] using h) q
 | n+1,.lst _ l,e,h,q=>by
  cases e<;>simp[fz] at q;rw[eqD];exact wu n l _ (by simpa [okE] using h) q
 | 0,.tup l,e,h,_=>by simp[okE] at h
 | 0,.lst _ l,e,h,_=>by simp[okE] at h
 | n,.dK _ _ _,e,h,_=>by cases n<;>simp[okE] at h
 | n,.dT _ _ _,e,h,_=>by cases n<;>simp[okE] at h
 | n,.ins _ _ _ _,e,h,_=>by cases n<;>simp[okE] at h
 | n,.dead,e,h,_=>by cases n<;>simp[okE] at h
 | n,.tok _,e,h,_=>by cases n<;>simp[okE] at h
 | n,.kt _,e,h,_=>by cases n<;>simp[okE] at h
 | n,.exc _ _,e,h,_=>by cases n<;>simp[okE] at h
theorem wu:∀(n:Nat) (l m:List D),kz n l=true->fzs l=fzs m->xA l m=true
 | n,[],[],_,_=>rfl
 | n,[],_::_,_,q=>by simp[fzs] at q
 | n,_::_,[],_,q=>by simp[fzs] at q
 | n,d::l,e::m,h,q=>by
  rw[kz,M0] at h;rw[fzs,fzs] at q;injection q with q1 q2;rw[xA,jlJ n d e h.1 q1,wu n l m h.2 q2];rfl
end
theorem Vl:∀ l:List (List Nat×D),Vo (l.map λp=>.tup [.str p.1,p.2])=some (l.map λp=>(KA.str p.1,p.2))
 | []=>rfl
 | p::l=>by
  rw[L5,Vo,Vl l];rfl
theorem VJ:∀(ps:List<|KA×D) ks vs,(ks++ps.map (·.1)).Nodup->ps.foldl (λacc kv=>vV acc.1 acc.2 kv.1 kv.2) (ks,vs)=(ks++ps.map (·.1),vs++ps.map (·.2))
 | [],ks,vs,_=>by simp
 | p::ps,ks,vs,h=>by
  have a:p.1∉ks:=by
   intro z;exact(X0.mp h).2.2 p.1 z p.1 (by simp) rfl
  have b:vV ks vs p.1 p.2=(ks++[p.1],vs++[p.2]):=by unfold vV;rw[if_neg a]
  show ps.foldl _ (vV ks vs p.1 p.2)=_;rw[b,VJ ps (ks++[p.1]) (vs++[p.2]) ⇑h];simp
def V6{l:List (List Nat×D)}(f:(l.map (·.1)).Nodup)(g:∀ p∈l,frz p.2=true)(i:l.length<=100000):yT [.lst o<|l.map λp=>.tup [.str p.1,p.2]]=some (.dK true (l.map λp=>KA.str p.1) (l.map (·.2))):=by
 have j:((l.map λp=>(KA.str p.1,p.2)).map (·.1)).Nodup:=by
  rw[U2];have:((λx:KA×D=>x.1) ∘ λp:List Nat×D=>(KA.str p.1,p.2))=KA.str ∘ (·.1):=rfl;rw[this,<- U2];exact List.Pairwise.map _ (λa b h z=>h<|by cases z;rfl) f
 show((Vo<|l.map λp=>.tup [.str p.1,p.2]).bind λc=>bif frzs (c.map (·.2))&&lim c.length then some (D.dK true (wF c).1 (wF c).2) else none)=_;rw[Vl,L4];have e:((l.map λp=>(KA.str p.1,p.2)).map (·.2))=l.map (·.2):=by rw[U2];rfl
 rw[e,qN (by intro d hd;obtain⟨p,k,rfl⟩:=M7.mp hd;exact g p k),L1,jb i];unfold wF;rw[VJ (l.map λp=>(KA.str p.1,p.2)) [] [] ⇑j,e];simp[U2]
noncomputable def lkp{α:Type}(w:List Nat):List (List Nat×α)->Option α
 | []=>none
 | p::l=>if p.1=w then some p.2 else lkp w l
theorem Q8(w):∀ l:List (List Nat×D),qu (l.map λp=>KA.str p.1) (l.map (·.2)) (.str w)=lkp w l
 | []=>rfl
 | p::l=>by
  rw[L5,L5,qu,lkp,Q8 w l];by_cases h:p.1=w
  ·rw[if_pos h,if_pos<|by rw[h]]
  ·rw[if_neg h,if_neg<|λz=>h<|by cases z;rfl]
theorem jck(f:α->β)(w):∀ l:List (List Nat×α),lkp w (l.map λp=>(p.1,f p.2))=(lkp w l).map f
 | []=>rfl
 | p::l=>by
  rw[L5,lkp,lkp,jck f w l];by_cases h:p.1=w
  ·rw[if_pos h,if_pos h];rfl
  ·rw[if_neg h,if_neg h]
theorem jam:∀{l:List (List Nat×α)},w∈l.map (·.1)->∃ a,lkp w l=some a/\(w,a)∈l
 | [],h=>by cases h
 | p::l,h=>by
  rw[lkp];by_cases e:p.1=w
  ·rw[if_pos e];exact⟨p.2,rfl,by rw[<- e];simp⟩
  ·rw[if_neg e];obtain⟨a,b,c⟩:=jam<|(M5.mp h).resolve_left λz=>e z.symm;exact⟨a,b,by simp[c]⟩
noncomputable def dct(o:Bool)(N:W1)(f:List Nat->Int):D:=.dK o (N.map KA.str)<|N.map λn=>D.int<|f n
theorem YV(f:List Nat->Int):∀{N:W1},c∈N->qu (N.map KA.str) (N.map λn=>D.int<|f n) (.str c)=some (.int<|f c)
 | [],h=>by cases h
 | n::N,h=>by
  rw[L5,L5,qu];by_cases e:n=c
  ·rw[if_pos<|by rw[e],e]
  ·rw[if_neg λz=>e<|by cases z;rfl];exact YV f<|(M5.mp h).resolve_left λz=>e z.symm
def yq(h:c∈N):yI (dct o N f) (.str c)=some (.int<|f c):=YV f h
theorem jah(f:List Nat->Int)(c)(v):∀ N:List (List Nat),wK (N.map KA.str) (N.map λn=>D.int<|f n) (.str c) (.int v)=N.map λn=>D.int (if n=c then v else f n)
 | []=>rfl
 | n::N=>by
  rw[L5,L5,wK,jah f c v N,L5];by_cases e:n=c
  ·rw[if_pos<|by rw[e],if_pos e]
  ·rw[if_neg λz=>e (by cases z;rfl),if_neg e]
def uZ{N:W1}{f:List Nat->Int}{c}{v}(h:c∈N):vV (N.map KA.str) (N.map λn=>D.int<|f n) (.str c) (.int v)=(N.map KA.str,N.map λn=>D.int<|if n=c then v else f n):=by
 unfold vV;rw[if_pos<|M7.mpr ⟨c,h,rfl⟩,jah]
theorem zw:∀{l:List (List Nat×α)},(l.map (·.1)).Nodup->∀ p∈l,lkp p.1 l=some p.2
 | [],_,_,h=>by cases h
 | q::l,a,p,h=>by
  rw[L5,List.nodup_cons] at a;rw[lkp];rcases M5.mp h with rfl | h
  ·rw[if_pos rfl]
  ·rw[if_neg λz=>a.1<|by rw[z];exact M7.mpr ⟨p,h,rfl⟩];exact zw a.2 p h
def fnOf(S:List<|List Nat×Int)(n:List Nat):Int:=(lkp n S).getD 0
def Kd{S}(a:(S.map (·.1)).Nodup){p}(h:p∈S):fnOf S p.1=p.2:=by
 unfold fnOf;rw[zw a p h];rfl
def yt{S}(b:(S.map (·.1)).Nodup)(c:S.length<=100000):yT [.lst o<|S.map λp=>.tup [.str p.1,.int p.2]]=some (dct true (S.map (·.1))<|fnOf S):=by
 have e:=V6 (o:=o) (l:=S.map λq=>(q.1,D.int q.2)) (by rw[U2];exact b) (by intro q d;obtain⟨a,_,rfl⟩:=M7.mp d;rfl) (by rw[L1];exact c);rw[U2,U2,U2] at e;refine e.trans ?_;unfold dct;rw[U2,U2];congr 2;refine List.map_congr_left λp f=>?_;show D.int p.2=D.int (fnOf S p.1);rw[Kd b f]
def uJ(N:W1)(f:List Nat->Int):frzs (N.map λn=>D.int<|f n)=true:=qN λd hd=>by
 obtain⟨n,_,rfl⟩:=M7.mp hd;rfl
def zE(N:W1)(f:List Nat->Int):(((N.map KA.str).zip (N.map λn=>D.int<|f n)).map λp=>D.tup [kaD p.1,p.2])=N.map λn=>D.tup [.str n,.int<|f n]:=by
 induction N with
 | nil=>rfl
 | cons n N a=>
  rw[L5,L5,U8,L5,L5,a];rfl
@[simp] def dkOf_dct(N)(f):jgW (dct true N f)=some (N.map KA.str,N.map λn=>D.int<|f n):=rfl
def jiO(h:fe ρ=some (.tup l,ρ1)):dIx fe j ρ=(L2.atI l j).bind λd=>some (d,ρ1):=by
 unfold dIx;rw[h]
variable {ρ:Rh}{fa fb fe:FE}{ft fu:FT'}{fr:FA}{p:PAf}{pi:PAf}{g:D->D->Option D}{gl:List D->Option D}{G:D->Rh->Option Rh}{f:FS}{m:List D->Option (D×D)}{mp:List D->Option D}{i j:Nat}
@[simp] def dCBx_e:dCB gl fr ρ=(fr ρ).bind λr=>(gl r.1).bind λz=>some (z,r.2):=rfl
@[simp] def dTestx_e:jbj fa ρ=(fa ρ).bind λr=>(jgN r.1).bind λb=>some (b,r.2):=by
 unfold jbj;cases fa ρ with
 | none=>rfl
 | some r=>
  obtain⟨x,a⟩:=r;cases x<;>rfl
@[simp] def dOrx_e:dOr ft fu ρ=(ft ρ).bind λr=>bif r.1 then some (true,r.2) else fu r.2:=by
 unfold dOr;cases ft ρ with
 | none=>rfl
 | some r=>obtain⟨b,a⟩:=r;rfl
@[simp] def dAndx_e:jnP ft fu ρ=(ft ρ).bind λr=>bif r.1 then fu r.2 else some (false,r.2):=by
 unfold jnP;cases ft ρ with
 | none=>rfl
 | some r=>obtain⟨b,a⟩:=r;rfl
@[simp] def oF_e:oF g x y=(g x y).bind λd=>bif frz d then some d else none:=rfl
@[simp] def uu:vU mp fr ρ=(fr ρ).bind λr=>bif frzs r.1 then(mp r.1).bind λd=>some (d,r.2) else none:=rfl
def jmw:pV i ρ=(ρ[i]?).join:=by
 unfold pV;cases h:ρ[i]? with
 | none=>rfl
 | some o=>cases o<;>rfl
@[simp] def dRng1_e:jcf fr ρ=(fr ρ).bind λr=>(V8 r.1).bind λxs=>some (xs,r.2):=rfl
@[simp] def sForE_e:jd0 fr G f ρ=(fr ρ).bind λr=>jY G f r.1 r.2:=rfl
noncomputable def jox:Option D->Bool
 | some (.lst true _)=>true
 | _=>false
@[simp] def ownD_e:jox (some<|.lst true l)=true:=rfl
def joy(i:Nat)(r:D×Rh):Option D->Option Out
 | some (.lst true l)=>bif lim l.length then some (.nx<|r.2.set i<|some<|.lst true<|l++[r.1]) else none
 | _=>none
@[simp] def appD_e:joy i r (some<|.lst true l)=(bif lim l.length then some (.nx<|r.2.set i<|some<|.lst true<|l++[r.1]) else none):=rfl
@[simp] def sAppE_e:V2 i fe ρ=(bif jox (pV i ρ) then(fe ρ).bind (λr=>joy i r<|pV i r.2) else none):=by
 have a:jeF ρ[i]?=jox (pV i ρ):=by
  rw[jmw];cases h:ρ[i]? with
  | none=>rfl
  | some o=>
   cases o with
   | none=>rfl
   | some d=>
    cases d with
    | lst b l=>cases b<;>rfl
    | _=>rfl
 have c:jfr i=λr=>joy i r (pV i r.2):=by
  funext r
  unfold jfr;rw[jmw];cases h:r.2[i]? with
  | none=>rfl
  | some o=>
   cases o with
   | none=>rfl
   | some d=>
    cases d with
    | lst b l=>cases b<;>rfl
    | _=>rfl
 unfold V2;rw[a,c]
def dFz(fe:FE):FE:=λρ=>(fe ρ).bind λr=>some (fz r.1,r.2)
@[simp] def dFz_e:dFz fe ρ=(fe ρ).bind λr=>some (fz r.1,r.2):=rfl
def DE.fz(h:DE R te fe):DE R te (dFz fe):=by
 intro σ ρ m Z H O d w s e Q k;refine ob e λr j e=>?_;obtain⟨c,n⟩:=r;cases e;refine h w s j λ{v f g i l} b r1 s1=>?_;have w1:WF f g ([]++i++l):=by simpa using b.wf
 have r2:Rep R (λa=>f a\/a∈i) g (QD.fz c) v []:=r1.freeze (λa z=>.inl z) λa z=>.inr z;exact k (b.trans<|by simpa using((Go.freeze b.wf.left).frame w1)) r2<|s1.frame (λa z=>.inl z) (λ_ _=>rfl) λ_ _=>rfl
def QE.fz(h:QE cl X e te fe):QE cl X e te (dFz fe):=⟨h.sem,DE.fz h.den⟩
end QD
namespace L2
open PySem PySem.Spec PyProof.Rows
def jb2(h:Builtin.Int.intBits a+Builtin.Int.intBits b<=2 ^ 21):IntMulOk a b:=by
 have e:Builtin.Int.intTooBig (Builtin.Int.intBits a+Builtin.Int.intBits b)=false:=by
  unfold Builtin.Int.intTooBig;have:2 ^ 21<=bitsLine:=by decide
  simp
  lia
 unfold IntMulOk;rw[e,Bool.and_false];exact M4
def jhx:OpR X (binaryOp .Mult) (rI (λi j=>Builtin.Int.intBits i+Builtin.Int.intBits j<=2 ^ 21) λi j=>.int<|i*j):=opI λ_ _ _ _ _ _ _ a q=>mul_int q<|jb2 a
end L2
namespace QD
open PySem L2 PySem.Spec PyProof.Rows
def VI:D->D->Option D:=two λi j=>bif decide (Builtin.Int.intBits i+Builtin.Int.intBits j<=2 ^ 21) then some (.int<|i*j) else none
def jkr:BO R (rI (λi j=>Builtin.Int.intBits i+Builtin.Int.intBits j<=2 ^ 21) λi j=>.int<|i*j) VI:=by
 intro Z H x y d v u f g z a b e Q k;replace e:=two_of e;obtain⟨i,j,rfl,rfl,e⟩:=e;refine oc e λc e=>?_;cases e;obtain⟨rfl,_⟩:=a.int_of;obtain⟨rfl,_⟩:=b.int_of;exact⟨i,j,rfl,rfl,X6 c,k (Go.id z) .int_mk⟩
def jnv(c:QB cl X a ta pa)(hb:QB cl X b tb pb):QP cl X (.BinOp a .Mult b pos) (tOp (rI (λi j=>Builtin.Int.intBits i+Builtin.Int.intBits j<=2 ^ 21) λi j=>.int<|i*j) ta tb) (p2 VI pa pb):=⟨K2 jhx c.sem hb.sem,Qe jkr c.den hb.den⟩
def jig(h:i.natAbs<2 ^ (2 ^ 20+1))(k:j.natAbs<2 ^ 1000):VI (.int i) (.int j)=some (.int<|i*j):=by
 have a:=PySem.intBits_le_iff.mpr h;have b:=PySem.intBits_le_iff.mpr k;show(bif decide (Builtin.Int.intBits i+Builtin.Int.intBits j<=2 ^ 21) then some (D.int<|i*j) else none)=_;rw[X4 ∅];rfl
def Yd(h:i.natAbs<2 ^ 1000)(k:j.natAbs<2 ^ 1000):VI (.int i) (.int j)=some (.int<|i*j):=by
 have a:=PySem.intBits_le_iff.mpr h;have b:=PySem.intBits_le_iff.mpr k;show(bif decide (Builtin.Int.intBits i+Builtin.Int.intBits j<=2 ^ 21) then some (D.int<|i*j) else none)=_;rw[X4 ∅];rfl
def jc3(n)(a:100<=n)(h:Builtin.Int.intBits z<=n)(b:k.natAbs<2 ^ 100):(z+k).natAbs<2 ^ (n+1):=by
 have c:=PySem.intBits_le_iff.mp h;have d:2 ^ 100<=2 ^ n:=Nat.pow_le_pow_right (by decide) a;have e:2 ^ (n+1)=2 ^ n+2 ^ n:=by rw[Nat.pow_succ,Nat.mul_two]
 lia
def jeL(h:Builtin.Int.intBits z<=2 ^ 20)(a:k.natAbs<2 ^ 100):(z+k).natAbs<2 ^ (2 ^ 20+1):=jc3 (2 ^ 20) (by decide) h a
noncomputable def YR:Int->List D->List D
 | _,[]=>[]
 | n,x::l=>.tup [.int n,x]::YR (n+1) l
theorem zZ:∀ n l,(YR n l).length=l.length
 | _,[]=>rfl
 | n,x::l=>by rw[YR,M3,M3,zZ]
theorem xf:∀ n l (i:Nat) y,(YR n l)[i]?=some y->∃ x,l[i]?=some x/\y=.tup [.int<|n+i,x]
 | _,[],_,_,e=>by simp[YR] at e
 | n,x::l,0,y,e=>by simp[YR] at e;exact⟨x,rfl,by rw[<- e];simp⟩
 | n,x::l,i+1,y,e=>by
  obtain⟨z,a,e2⟩:=xf (n+1) l i y (by simpa [YR] using e);exact⟨z,by simpa using a,by rw[e2];congr 3;lia⟩
def jml(p:PAf)(q:PF)(ρ:Rh):Option (List D):=(p ρ).bind λx=>(jeo x).bind λx=>(jjN x).bind λl=>(q ρ).bind λy=>(vz y).bind λn=>bif V4 n then some (YR n<|fzs l) else none
def jm3(h:PPs R ta p)(d:PB R tb q):PIt R (job R.K ta tb) (jml p q):=by
 intro σ ρ Z H O C z s e Q k;refine ob e λx f e=>ob e λy e3 e=>ob e λl g e=>ob e λD e2 e=>ob e λn e5 e=>oc e λi e=>?_;cases e;cases jK e5;obtain⟨o,rfl⟩:=Vc g;cases kq e3;refine h z s f λ{vs j E m} r r1=>?_;obtain⟨v,rfl,r2⟩:=r1.one_of;obtain⟨a,ws,F,rfl,t,w,rfl,_⟩:=(r2.freeze (Z':=λa=>j a\/a∈m) (λa z=>.inl z) λa z=>.inr z);have b:=r.fz;refine d b.wf.zd (b.slots z s) e2 λ{u G I J} g2 A=>?_;obtain⟨rfl,_⟩:=A.int_of;have c:=w.frame g2.zz<|λa z=>g2.same a<|b.wf.zd a z;have hb:=qB i;refine⟨a,ws,n,rfl,rfl,by unfold Builtin.SmallTypes.fitsIndex;simp;lia,FL.sq c,k (b.pair g2) ?_⟩;exact jcH c (t.frame g2.zz (λa z=>g2.same a<|b.wf.zd a z)<|λa B=>(nomatch B)) (zZ _ _)<|xf _ _
noncomputable def J8:List (List KA)->List D->List KA->Option D
 | k::ks,d::l,a=>if k=a then some d else J8 ks l a
 | _,_,_=>none
def Qr{a b:List KA}(h:a.map kaV=b.map kaV):a=b:=by
 induction a generalizing b with
 | nil=>cases b with
  | nil=>rfl
  | cons y b=>simp at h
 | cons x a c=>cases b with
  | nil=>simp at h
  | cons y b=>
   simp only[L5,List.cons.injEq] at h;rw[KK h.1,c h.2]
theorem Ja:∀{ks}{l}{vs}{O}{a},Reps R Z H l vs O->ks.length=l.length ->
  (∀ d,J8 ks l a=some d->∃ v P,VZ ((ks.map<|List.map kaV).zip vs) (a.map kaV)=some v/\Rep R Z H d v P)/\(J8 ks l a=none->VZ ((ks.map<|List.map kaV).zip vs) (a.map kaV)=none)
 | [],l,vs,O,a,r,c=>⟨λd e=>(by cases l<;>cases e),λ_=>rfl⟩
 | k::ks,[],vs,O,a,r,c=>by simp at c
 | k::ks,x::l,vs,O,a,r,c=>by
  obtain⟨v,b,f,i,rfl,rfl,r1,r2⟩:=r;by_cases e:k=a
  ·subst e;refine⟨λd h=>?_,λh=>?_⟩
   ·simp only[J8,if_true] at h;cases h;exact⟨v,f,JI rfl,r1⟩
   ·simp[J8] at h
  ·have g:=λz=>e<|Qr z;have q:VZ (((k::ks).map (List.map kaV)).zip (v::b)) (a.map kaV)=VZ ((ks.map<|List.map kaV).zip b) (a.map kaV):=J2 g;rw[q];simp only[J8,if_neg e];exact(Ja (a:=a) r2 ⇑c)
def jf2:PP R jbR (pC<|.dT true [] []):=by
 intro σ ρ Z H O d z s e Q k;cases e;intro p a;exact k (Go.newO (wf0 z) a) ⟨p,[],[],rfl,.empty,rfl,jh,rfl⟩
abbrev jbY(ta tb:TE):TE:=zi<|jI ta<|jI tb JC
def jf3(pa pb:PF)(ρ:Rh):Option (List KA):=(pa ρ).bind λx=>(pb ρ).bind λy=>(yU x).bind λa=>(yU y).bind λb=>some [a,b]
def JH (d : PB R ta pa) (hb : PB R tb pb)  (z : Zd Z H) (s : Slots R Z H ρ σ O) (e : jf3 pa pb ρ = some k)
     (go:∀{p}{Z'}{H'},Go Z H [] Z' H' []->Z' p->H' p=some (.tup<|(k.map kaV).map kV)->Q (.ref p) H'):jbY ta tb σ H Q:=by
 refine ob e λx f e=>ob e λy e2 e=>ob e λa e3 e=>ob e λb g e=>?_;cases e;refine d z s f λ{v i j l} c r1=>(hb c.wf.zd (c.slots z s) e2 λ{u m n o} g2 r2=>?_);obtain⟨rfl,_⟩:=yc e3 r1;obtain⟨rfl,_⟩:=yc g r2;refine⟨by show 2<=sizeLine;decide,λp h=>?_⟩;exact go ((c.pair g2).trans (Go.newF g2.wf h)) (.inr rfl) jh
def Rep.dT_of(r:Rep R Z H (.dT o ks l) v O):Ex3 λa vs O'=>An4 (v=.ref a) (H a=some (.dT<|(ks.map<|List.map kaV).zip vs)) (Reps R Z H l vs O') (ks.length=l.length):=by
 obtain⟨a,vs,O',rfl,b,c,d,_⟩:=r;exact⟨a,vs,O',rfl,d,b,c⟩
def Va(x:D)(k:List KA)(z:D):Option D:=match x with
 | .dT _ ks l=>some<|(J8 ks l k).getD z
 | _=>none
@[simp] def opTGet_e(o)(ks)(l)(k)(z):Va (.dT o ks l) k z=some ((J8 ks l k).getD z):=rfl
@[simp] def xE(pd:PF)(pa:PF)(pb:PF)(pc:PF)(ρ:Rh):Option D:=(pd ρ).bind λx=>(jf3 pa pb ρ).bind λk=>(pc ρ).bind λz=>Va x k z
@[simp] def pKey_e:jf3 pa pb ρ=(pa ρ).bind λx=>(pb ρ).bind λy=>(yU x).bind λa=>(yU y).bind λb=>some [a,b]:=rfl
def jgk(hd:PB R td pd)(n:PB R ta pa)(hb:PB R tb pb)(q:PB R tx pc):PB R (VB td (jbY ta tb) tx) (xE pd pa pb pc):=by
 intro σ ρ Z H O d z s e Q k;refine ob e λx r e=>ob e λy e2 e=>ob e λc u e=>?_;cases x with
 | dT o A l=>
  cases e;refine hd z s r λ{v J K L} j r1=>?_;obtain⟨p,vs,M,rfl,B,N,S⟩:=r1.dT_of;refine⟨p,rfl,.inr ⟨_,.inl B⟩,(JH n hb j.wf.zd (j.slots z s) e2 λ{b T U} g2 V m=>?_)⟩;have a:=j.pair g2;refine q g2.wf.zd (a.slots z s) u λ{t Z3 C W} g3 D=>?_;obtain⟨X,E,F,G,f,g,h,_⟩:=((g2.pair g3).rep j.wf.zd r1);cases G;have i:C b=some (.tup<|(y.map kaV).map kV):=by rw[g3.same b<|by rw[m];exact λz=>(nomatch z)];exact m
  cases ev:J8 A l y with
  | none=>exact⟨none,(Ja f g).2 ev▸DGet.t h i,k (a.pair g3)<|by rw[ev];exact D⟩
  | some d=>
   obtain⟨w,P,I,rw⟩:=(Ja f g).1 d ev;exact⟨some w,I▸DGet.t h i,k (a.pair g3)<|by rw[ev];exact rw⟩
 | _=>cases e
noncomputable def ja0:List (List KA)->List D->List KA->D->List D
 | k::ks,x::l,a,d=>(if k=a then d else x)::ja0 ks l a d
 | _,_,_,_=>[]
theorem K4:∀{ks}{l} a d,ks.length=l.length->(ja0 ks l a d).length=l.length
 | [],[],_,_,_=>rfl
 | [],_::_,_,_,h=>by simp at h
 | _::_,[],_,_,h=>by simp at h
 | k::ks,x::l,a,d,h=>by rw[ja0,M3,M3,K4 a d ⇑h]
theorem jaj(rd:Rep R Z H d v [])(a):∀{ks}{l}{vs}{O},Reps R Z H l vs O->ks.length=l.length ->
  Ex2 λvs2 O2=>An3 (Reps R Z H (ja0 ks l a d) vs2 O2) ((ks.map<|List.map kaV).zip vs2=((ks.map<|List.map kaV).zip vs).map (λkv=>if kv.1=a.map kaV then(kv.1,v) else kv))<|O2.Sublist O
 | [],[],vs,O,r,b=>by
  obtain⟨rfl,rfl⟩:=r;exact⟨[],[],.empty,rfl,.slnil⟩
 | [],_::_,_,_,_,h=>by simp at h
 | _::_,[],_,_,_,h=>by simp at h
 | k::ks,x::l,vs,O,r,b=>by
  obtain⟨w,j,m,O2,rfl,rfl,r1,r2⟩:=r;obtain⟨c,f,g,e3,i⟩:=jaj rd a r2 ⇑b;by_cases e:k=a
  ·subst e;refine⟨v::c,[]++f,?_,?_,(i.trans<|List.sublist_append_right _ _)⟩
   ·rw[ja0,if_pos rfl];exact Reps.cons rd g
   ·simp only[L5,U8,if_true,e3]
  ·have n:=λz=>e<|Qr z;refine⟨w::c,m++f,?_,?_,(List.Sublist.append (List.Sublist.refl _) i)⟩
   ·rw[ja0,if_neg e];exact Reps.cons r1 g
   ·simp only[L5,U8,if_neg n,e3]
theorem jak(a):∀{ks:List (List KA)}{vs:List V},ks.length=vs.length->(((ks.map<|List.map kaV).zip vs).any λkv=>decide<|kv.1=a.map kaV)=decide (a∈ks)
 | [],vs,_=>by simp
 | k::ks,[],h=>by simp at h
 | k::ks,v::vs,h=>by
  rw[L5,U8,List.any_cons,jak a ⇑h];by_cases e:k=a
  ·subst e;simp
  ·have b:¬ (k.map kaV=a.map kaV):=λz=>e<|Qr z;have e2:¬ (a=k):=λz=>e z.symm;simp[b,e2]
def kW(ks:List<|List KA)(l:List D)(a:List KA)(d:D):List (List KA)×List D:=if a∈ks then(ks,ja0 ks l a d) else(ks++[a],l++[d])
def YX(rd:Rep R Z H d v [])(a)  (r:Reps R Z H l vs O) (b:ks.length=l.length):
  Ex2 λvs2 O2=>An4 (Reps R Z H (kW ks l a d).2 vs2 O2) ((((kW ks l a d).1).map (List.map kaV)).zip vs2=JE ((ks.map<|List.map kaV).zip vs) (a.map kaV) v) (O2.Sublist O) ((kW ks l a d).1.length=(kW ks l a d).2.length):=by
 have c:ks.length=vs.length:=by rw[r.length];exact b
 unfold kW JE;rw[jak a c];by_cases e:a∈ks
 ·rw[if_pos e,X4 e,if_pos rfl];obtain⟨f,P,r2,e2,g⟩:=jaj rd a r b;exact⟨f,P,r2,e2,g,by rw[K4 a d b];exact b⟩
 ·rw[if_neg e,X5 e,if_neg<|λz=>(nomatch z)];refine⟨vs++[v],O++[],r.append<|Reps.one rd,?_,by simp,by simp[b]⟩;rw[N6,List.zip_append ⇑c];rfl
@[simp] def jjq(i:Nat)(pa:PF)(pb:PF)(pv:PF)(ρ:Rh):Option Out:=(pv ρ).bind λd=>(pV i ρ).bind λx=>(jfb x).bind λp=>(jf3 pa pb ρ).bind λa=>bif frz d&&lim p.1.length then some (.nx<|ρ.set i<|some<|.dT true (kW p.1 p.2 a d).1 (kW p.1 p.2 a d).2) else none
def jhI{R}{pm}{i}{ta tb tv}{pa pb pv}(n:PB R ta pa)(hb:PB R tb pb)(p:PB R tv pv):DS R pm (Qt (jU i) (jbY ta tb) tv) (jjq i pa pb pv):=by
 intro σ ρ Z H O o w s e I k;refine ob e λd q e=>ob e λx r e=>ob e λ⟨J,l⟩ v e=>ob e λc e2 e=>oc e λg e=>?_;cases e;cases QN v;rw[M0] at g;refine p w.zd s q λ{u K L M} f r1=>?_;cases r1.nil g.1;have m:=f.widen w;have s1:=f.slots w.zd s;refine qx Ji m.wf s1 r rfl je3 λa _ vs N y h z A put=>A<|JH n hb f.wf.zd s1 e2 λ{b P Q} g2 S B=>?_;obtain⟨C,T,D,E,F,j⟩:=YX (g2.rep f.wf.zd r1) c (g2.reps f.wf.zd y) h;obtain⟨U,g3,G⟩:=put je3 j g2 D ⇑F.count_le;refine⟨a,_,rfl,DPut.t (g2.at0 z) B<|Vr g.2,?_⟩;rw[<- E];exact k (m.trans g3) G<|Keep.refl _ _
def jpi(c:X.mg "enumerate" = none)(h:QPs cl X [a] tr pr)(hb:QB cl X b tb pb)(d:Gl X "enumerate":=by rfl)(e:starEach [a] X.env=[(false,eval a X.env)]:=by rfl):
  QI cl X (.Tuple elts n tpos) (.Call (.Name "enumerate" p) [a] [⟨some "start",b,kpos⟩] pos) (job X.K tr tb) (jml pr pb):=⟨jn7 d c h.sem hb.sem e,jm3 h.den hb.den⟩
def jjT:QP cl X (.Dict [] [] pos) jbR (pC<|.dT true [] []):=⟨jfe,jf2⟩
def jje{d}(h:Room k X.A)(e:QB cl X o to po)(f:QB cl X a ta pa)(hb:QB cl X b tb pb)(g:QB cl X c tc pc)(m:M2 X o "get" apos (.Tuple [a,b] d tpos) c cpos:=by exact⟨rfl,rfl,rfl,rfl⟩)
  (h1:starEach [a,b] X.env=(false,eval a X.env)::starEach [b] X.env:=by rfl) (h2:starEach [b] X.env=(false,eval b X.env)::starEach [] X.env:=by rfl):
  QB cl X (.Call (.Attribute o "get" apos) [.Tuple [a,b] d tpos,c] [] cpos) (VB to (jbY ta tb) tc) (xE po pa pb pc):=
 ⟨Qq (Yk h) e.sem (Jg<|jE f.sem (jE hb.sem vI h2) h1) g.sem m,jgk e.den f.den hb.den g.den⟩
def jiR{c}(g:Room k X.A)(h:QB cl X (.Name x xpos) (jU i)<|pV i)(d:QB cl X a ta pa)(hb:QB cl X b tb pb)(f:QB cl X e te pe)
  (j:swapsWith e (some<|.Subscript (.Name x xpos) (.Tuple [a,b] c tpos) pos') pos.line X.env=pure false:=by rfl)
  (h1:starEach [a,b] X.env=(false,eval a X.env)::starEach [b] X.env:=by rfl) (h2:starEach [b] X.env=(false,eval b X.env)::starEach [] X.env:=by rfl):
  QS cl pm X (.Assign [.Subscript (.Name x xpos) (.Tuple [a,b] c tpos) pos'] e pos) (Qt (jU i) (jbY ta tb) te) (jjq i pa pb pe):=
 ⟨Qz (Yk g) h.sem (Jg<|jE d.sem (jE hb.sem vI h2) h1) f.sem j,jhI d.den hb.den f.den⟩
end QD
namespace L2
open PySem PySem.Spec PyProof.Rows
end L2
namespace QD
open PySem L2 PySem.Spec PyProof.Rows
def pFz(p:PF):PF:=λρ=>(p ρ).bind λd=>some<|fz d
@[simp] def pFz_e:pFz p ρ=(p ρ).bind λd=>some (fz d):=rfl
def jot(h:PP R te p):PB R te (pFz p):=by
 intro σ ρ Z H O d z s e Q k;refine ob e λx b e=>?_;cases e;exact h z s b λ{v c f P} g r=>(k g.fz<|r.freeze (λa z=>.inl z) λa z=>.inr z)
def QP.fzb(h:QP cl X e te pe):QB cl X e te (pFz pe):=⟨h.sem,jot h.den⟩
noncomputable def JF:List Str->List D->Str->Option D
 | n::ns,d::l,f=>if f=n then some d else JF ns l f
 | _,_,_=>none
theorem ud:∀{ns}{l}{vs}{O},Reps R Z H l vs O->ns.length=l.length->JF ns l f=some d->∃ v P,(ns.zip vs).lookup f=some v/\Rep R Z H d v P
 | [],l,vs,O,_,_,h=>by cases l<;>cases h
 | n::ns,[],vs,O,_,a,_=>by simp at a
 | n::ns,x::l,vs,O,r,a,h=>by
  obtain⟨v,b,c,i,rfl,rfl,r1,r2⟩:=r;rw[JF] at h;by_cases e:f=n
  ·rw[if_pos e] at h;cases h;exact⟨v,c,by rw[U8,List.lookup_cons,e];simp,r1⟩
  ·rw[if_neg e] at h;obtain⟨w,P,g,e2⟩:=ud r2 ⇑a h;refine⟨w,P,?_,e2⟩;rw[U8,List.lookup_cons];have:(f==n)=false:=by simp[e]
   rw[this];exact g
def ww(c:Nat)(f:Str):D->Option D
 | .ins _ c' ns l=>bif c'==c then JF ns l f else none
 | _=>none
@[simp] def fldOf_ins:ww c f (.ins o c' ns l)=bif c'==c then JF ns l f else none:=rfl
@[simp] def Jt(c:Nat)(f:Str)(po:PF)(ρ:Rh):Option D:=(po ρ).bind (ww c f)
def jmr(g:Cls R.K<|R.cls c)(i:NoAttr R.K (R.cls c) f)(h:PB R ta p):PB R (jer R.K ta f) (Jt c f p):=by
 intro σ ρ Z H O d z s e Q k;refine ob e λx j e=>?_;cases x with
 | ins o m ns l=>
  refine oc e λn q=>?_;obtain rfl:m=c:=by simpa using n
  refine h z s j λ{v C D E} r r1=>?_;obtain⟨a,t,vs,F,rfl,u,y,A,_⟩:=r1;obtain⟨w,P,B,b⟩:=ud u y q;exact⟨a,_,t,_,w,rfl,A,g,i,B,k r b⟩
 | _=>cases e
noncomputable def Jd:List Str->List D->Str->D->List Str×List D
 | n::ns,x::l,f,d=>if n=f then(n::ns,d::l) else(n::(Jd ns l f d).1,x::(Jd ns l f d).2)
 | _,_,f,d=>([f],[d])
theorem Y4(rd:Rep R Z H d v P):∀{ns}{l}{vs}{O},Reps R Z H l vs O->ns.length=l.length ->
  Ex2 λvs2 O2=>An4 (Reps R Z H (Jd ns l f d).2 vs2 O2) ((Jd ns l f d).1.zip vs2=Kf f v (ns.zip vs)) ((Jd ns l f d).1.length=(Jd ns l f d).2.length)<|∀ c,O2.count c<=O.count c+P.count c
 | [],[],vs,O,r,_=>by
  obtain⟨rfl,rfl⟩:=r;exact⟨[v],P,.one rd,rfl,rfl,λc=>by simp⟩
 | [],_::_,_,_,_,a=>by simp at a
 | _::_,[],_,_,_,a=>by simp at a
 | n::ns,x::l,vs,O,r,a=>by
  obtain⟨u,b,g,O2,rfl,rfl,r1,r2⟩:=r;rw[Jd];by_cases e:n=f
  ·rw[if_pos e];refine⟨v::b,P++O2,Reps.cons rd r2,?_,a,λc=>by simp only[U9];lia⟩;rw[U8,U8,Kf,if_pos e]
  ·rw[if_neg e];obtain⟨vs2,h,i,e3,j,k⟩:=Y4 rd r2 ⇑a;refine⟨u::vs2,g++h,Reps.cons r1 i,?_,by simp[j],λc=>by have:=k c;simp only[U9];lia⟩;rw[U8,U8,Kf,if_neg e,e3]
@[simp] def JK(i:Nat)(c:Nat)(f:Str)(pv:PF)(ρ:Rh):Option Out:=(pv ρ).bind λd=>(pV i ρ).bind λt=>(xk t).bind λy=>bif y.1==c&&decide (y.2.1.length<=900) then some (.nx<|ρ.set i<|some<|.ins true c (Jd y.2.1 y.2.2 f d).1 (Jd y.2.1 y.2.2 f d).2) else none
def jdH{l:List α}{m:List β}(h:decide (l.length<=900)=true):(l.zip m).length<1000:=by
 rw[List.length_zip];exact E3 (Nat.min_le_left _ _) ∅
def jl1{R}{pm}{i c}{f}{tv}{pv}(m:Cls R.K<|R.cls c)(n:NoAttr R.K (R.cls c) f)(p:PP R tv pv):DS R pm (jpe R.K (jU i) tv f) (JK i c f pv):=by
 intro σ ρ Z H O o w s e I k;refine ob e λd r e=>ob e λt v e=>ob e λ⟨x,ns,l⟩ e2 e=>oc e λb e=>?_;cases e;cases JS e2;rw[M0] at b;obtain rfl:x=c:=by simpa using b.1
 refine p w.zd s r λ{u J L M} j r1=>?_;have g:=j.widen w;refine qx Ji g.wf (j.slots w.zd s) v rfl ow_ins λa y vs N z h A B put=>B ?_;obtain⟨C,P,D,e3,E,F⟩:=Y4 r1 z h;obtain⟨Q,g3,G⟩:=put ow_ins E (Go.id g.wf.zd) D λq=>by have:=F q;simp;lia
 refine⟨a,_,y,_,rfl,A,m,n,jdH b.2,?_⟩;rw[<- e3];exact k (g.trans g3) G<|Keep.refl _ _
def jmA(b:Cls X.K<|cl c)(d:NoAttr X.K (cl c) f)(a:QB cl X o to po)(hb:attributeBase o f X.env (eval o X.env)=eval o X.env:=by rfl):QB cl X (.Attribute o f pos) (jer X.K to f) (Jt c f po):=⟨ux a.sem hb,jmr b d a.den⟩
def jlW(b:Cls X.K<|cl c)(d:NoAttr X.K (cl c) f)(g:QB cl X (.Name x xpos) (jU i)<|pV i)(a:QP cl X e te pe)(h:swapsWith e (some<|.Attribute (.Name x xpos) f pos') pos.line X.env=pure false:=by rfl):
  QS cl pm X (.Assign [.Attribute (.Name x xpos) f pos'] e pos) (jpe X.K (jU i) te f) (JK i c f pe):=⟨jlf g.sem a.sem h,jl1 b d a.den⟩
noncomputable def jln:List Str->Str->Option Nat
 | [],_=>none
 | n::ns,f=>if f=n then some 0 else(jln ns f).map (·+1)
theorem jan:∀{ns}{f}{vs}{j}{v:V},jln ns f=some j->ns.length=vs.length->vs[j]?=some v->(ns.zip vs).lookup f=some v
 | [],_,_,_,_,h,_,_=>by cases h
 | n::ns,f,[],_,_,_,a,_=>by simp at a
 | n::ns,f,u::vs,j,v,h,a,b=>by
  rw[jln] at h;by_cases e:f=n
  ·rw[if_pos e] at h;cases h;cases b;rw[U8,List.lookup_cons,e];simp
  ·rw[if_neg e] at h;cases hp:jln ns f with
   | none=>rw[hp] at h;cases h
   | some i=>
    rw[hp] at h;cases h;rw[U8,List.lookup_cons,show(f==n)=false by simp[e]];exact jan hp ⇑a ⇑b
theorem KM:∀{ns}{l}{vs:List V},ns.length=l.length->vs.length=l.length->JF ns l f=none->(ns.zip vs).lookup f=none
 | [],_,_,_,_,_=>rfl
 | n::ns,[],_,a,_,_=>by simp at a
 | n::ns,x::l,[],_,b,_=>by simp at b
 | n::ns,x::l,v::vs,a,b,h=>by
  rw[JF] at h;by_cases e:f=n
  ·rw[if_pos e] at h;cases h
  ·rw[if_neg e] at h;rw[U8,List.lookup_cons,show(f==n)=false by simp[e]];exact KM ⇑a ⇑b h
@[simp] def yV(m:List D->Option (D×D))(i c:Nat)(mn:Str)(p:PAf)(ρ:Rh):Option (D×Rh):=(p ρ).bind λds=>(pV i ρ).bind λt=>(xk t).bind λy=>bif y.1==c&&(frzs ds&&(JF y.2.1 y.2.2 mn).isNone) then(m<|t::ds).bind λr=>some (r.1,ρ.set i<|some r.2) else none
def jfU(h:PPs R ta p)(K:∀ ρ ds,p ρ=some ds->ds.length+1=n):DE R (jc4 (R.cls c) mn (spM R m n 0) [] E0 (jU i) ta) (yV m i c mn p):=by
 intro σ ρ ρ' Z H O d w s e Q k;refine ob e λds D e=>ob e λy b e=>ob e λ⟨j,ns,l⟩ e3 e=>oc e λE e=>ob e λ⟨L,M⟩ e2 e=>?_;cases e;cases JS e3;have b:=Ys b;rw[M0,M0] at E;obtain⟨o,q,r⟩:=E;obtain rfl:j=c:=by simpa using o
 have hi:=(L9.mp b).1;obtain⟨A0,P0,B0,_,N,_,_⟩:=s.put hi;obtain⟨u,t,S⟩:=N _ b;obtain⟨a,T,vs,O',rfl,U,x,V,_⟩:=S;refine⟨.ref a,t,a,T,_,rfl,V,KM x U.length<|Option.isNone_iff_eq_none.mp r,(h w.zd s D λ{W z F P1} G I=>?_)⟩;cases I.nil q;have f:Go Z H O z F O:=by simpa using G.widen w
 obtain⟨A,P,B,rfl,X,k2,_⟩:=(G.slots w.zd s).put hi;obtain⟨u',g,Y⟩:=X _ b;rw[t] at g;cases g;have rr:Reps R z F (.ins true j ns l::ds) (.ref a::W) P:=by
  have:=Reps.cons Y I;simpa using this
 refine⟨z,.ins true j ns l::ds,L,M,P,.ref a,f.wf.mid,by have:=K ρ ds D;simpa using this,by rw[N1];exact rr,rfl,e2,λ{v Z2 H2 P2 O2} g2 r2 C=>?_⟩;have J:=Go.keepA f.wf g2;have s2:=k2 C g2.zz (g2.zH f.wf.mid) J.1 J.2;rw[yE t] at s2;exact k (f.trans<|g2.frame f.wf).turn r2 s2
noncomputable def jmu:D×D->Option D
 | (.non,t)=>some t
 | _=>none
@[simp] def nonOf_non(t):jmu (.non,t)=some t:=rfl
@[simp] def jaL(m:List D->Option (D×D))(c:Nat)(p:PAf)(ρ:Rh):Option D:=(p ρ).bind λds=>bif frzs ds then(m<|.ins true c [] []::ds).bind jmu else none
def jix(h:PPs R ta p)(y:∀ ρ ds,p ρ=some ds->ds.length+1=n):PP R (jij (R.cls c) (spM R m n 0) [] E0 ta) (jaL m c p):=by
 intro σ ρ Z H O d z s e Q k;refine ob e λds q e=>oc e λA e=>ob e λ⟨x,t⟩ e2 e=>?_;cases x with
 | non=>
  cases e;refine h z s q λ{F B r G} f u=>?_;cases u.nil A;intro x b C g i;have w:=Go.newF (o:=.own x) (wf0 f.wf.zd) g;have j:upd r b (.own x) x=none:=by rw[je<|λe=>i e.symm];exact C
  have g2:=w.trans<|Go.newO (o:=.ins (R.cls c) b []) w.wf j;have D:Rep R (λa=>B a\/a=b) (upd (upd r b<|.own x) x<|.ins (R.cls c) b []) (.ins true c [] []) (.ref x) [x]:=by
   exact⟨x,b,[],[],rfl,.empty,rfl,jh,rfl⟩
  refine⟨_,.ins true c [] []::ds,.non,d,[x],.ref x,g2.wf,by have:=y ρ ds q;simpa using this,by rw[N1];have:=Reps.cons D<|g2.reps f.wf.zd u;simpa using this,rfl,e2,λ{v Z3 I J K} g3 E l=>?_⟩;obtain⟨rfl,rfl⟩:=E;exact⟨rfl,k (by simpa using(f.trans g2).trans g3) l⟩
 | _=>cases e
section
variable {cl:Nat->Addr}{pm:List Nat}{X:Cx}{e:Expr}{es:List Expr}{tr:TA}{pr:PAf}{pos p apos:Pos}
structure MtFact(K:W4)(C:Addr)(x qual:Str)(st:Stmt)(f:Addr)(fd:FuncData)(ps:List Str):Prop where
 fn:Fun K x qual st f fd
 mt:Meth K C x f
 bd:Binds K fd ps []
def OkM(P:Program)(w:World)(K:W4)(mg:W6)(C:Addr)(x qual:Str)(st:Stmt)(k:Nat)(ps:List Str)(sp:Sp):Prop:=∃ f fd,MtFact K C x qual st f fd ps/\∀ base,FnOk P w K mg base CX0 k f fd ps sp
def jhY{k n i c}{ps}{m}{x mn qual}{st}{pl}(g:Cls X.K<|cl c)(O:OkM X.prog X.w X.K X.mg (cl c) mn qual st k ps<|spM ⟨X.K,cl⟩ m n 0)(h:Room k X.A)(j:QB cl X (.Name x p) (jU i)<|pV i)(d:QPs cl X (e::es) tr pr)(l:∀ ρ ds,pr ρ=some ds->ds.length+1=n)
  (a:SEq X e es:=by rfl) (b:BkE X pos es:=by rfl)
  (o:eval (.Call (.Attribute (.Name x p) mn apos) (e::es) [] pos) X.env=(do
   let ov <- eval (.Name x p) X.env
   standAt apos.atName
   let (f,first) <- holding [ov] (getMethod ov mn pl)
   callWith pos f first (backTo pos<|starEach (e::es) X.env) (backToKw pos<|keywordEach [] X.env)):=by rfl):
  QE cl X (.Call (.Attribute (.Name x p) mn apos) (e::es) [] pos) (jc4 (cl c) mn (spM ⟨X.K,cl⟩ m n 0) [] E0 (jU i) tr) (yV m i c mn pr):=by
 obtain⟨_,_,F,G⟩:=O;exact⟨jdp j.sem g F.mt (G _) h F.bd .nil jds d.sem a b o,jfU d.den l⟩
def jnw{k n c}{ps}{m}{x qual}{st}(f:PySem.W.makesIn X.K (cl c)=true)(g:PySem.W.keepIn X.K (.ref<|cl c)=true)(O:OkM X.prog X.w X.K X.mg (cl c) "__init__" qual st k ps<|spM ⟨X.K,cl⟩ m n 0)(h:Room (k+1) X.A)(i:X.mg x=some (.ref<|cl c))(d:QPs cl X (e::es) tr pr)(j:∀ ρ ds,pr ρ=some ds->ds.length+1=n)(l:Gl X x:=by rfl)
  (a:Nd x:=by decide) (o:SEq X e es:=by rfl) (b:BkE X pos es:=by rfl):
  QP cl X (.Call (.Name x p) (e::es) [] pos) (jij (cl c) (spM ⟨X.K,cl⟩ m n 0) [] E0 tr) (jaL m c pr):=by
 obtain⟨_,_,F,G⟩:=O;exact⟨jhF ⟨f,F.mt.at_,F.mt.fn,g⟩ (G _) h l i F.bd .nil jds d.sem a o b,jix d.den j⟩
end
@[simp] def Yj(m:List D->Option D)(c:Nat)(mn:Str)(po:PF)(p:PAf)(ρ:Rh):Option D:=(po ρ).bind λs=>(joG s).bind λy=>bif y.1==c&&(JF y.2.1 y.2.2 mn).isNone then(p ρ).bind λds=>(m<|fzs<|s::ds).bind λd=>bif frzs (s::ds)||vn d then some d else none else none
def jj1(r:PB R to po)(t:PBs R ta p)(u:∀ ρ ds,p ρ=some ds->ds.length+1=n):PP R (jc4 (R.cls c) mn (spP R m n) [] E0 to ta) (Yj m c mn po p):=by
 intro σ ρ Z H O d z s e Q k;refine ob e λE v e=>ob e λ⟨w,ns,l⟩ e3 e=>oc e λf e=>ob e λds j e=>ob e λc0 e2 e=>oc e λx e=>?_;cases e;obtain⟨o,rfl⟩:=jic e3;rw[M0] at f;obtain rfl:w=c:=by simpa using f.1
 refine r z s v λ{F G I J} b q=>?_;have g:=q;obtain⟨a,y,A,K,rfl,B,h,C,_⟩:=g;exact⟨a,y,_,rfl,C,KM h B.length<|Option.isNone_iff_eq_none.mp f.2,t b.wf.zd (b.slots z s) j λi D=>jdl i.wf.zd (Reps.cons (i.rep b.wf.zd q) D) (u ρ ds j) e2 x λg2 r2=>k (by simpa using(b.pair i).pair g2) r2⟩
def qW(c:Nat)(f:Str)(L:Ln)(d:D):Option (D×(D->D)):=(L d).bind λy=>(xk y.1).bind λq=>bif q.1==c then(jln q.2.1 f).bind λj=>(q.2.2[j]?).bind λx=>some (x,λx'=>y.2<|.ins true q.1 q.2.1<|q.2.2.set j x') else none
def jkI(F:Cls R.K<|R.cls c)(G:NoAttr R.K (R.cls c) f)(h:jep R tb i L):jep R (jer R.K tb f) i (qW c f L):=by
 intro σ ρ Z H O d x k s hd e;refine ob e λ⟨y,k0⟩ I e=>ob e λ⟨J,ns,l⟩ e3 e=>oc e λM e=>ob e λj N e=>ob e λx0 e2 e=>?_;cases e;cases JS e3;obtain rfl:J=c:=by simpa using M
 obtain⟨v,A,P,B,rfl,r,Q,S⟩:=h s hd I;obtain⟨a,p,vs,O',rfl,t,m,w,rfl⟩:=r;obtain⟨u,T,U,V,z,rfl,W,n⟩:=t.at e2;refine⟨u,A++(a::T),U,V++B,by simp,W,λq=>Q ⟨a,_,p,_,u,rfl,w,F,G,jan N (by rw[t.length];exact m) z,q⟩,λ{Z' H' x' X} Y C D o E=>?_⟩;have g:=n Y C D (λb hb=>o b<|by simp[hb])<|λb hb=>E b (by simp[hb]);rw[yE z] at g;have s2:=S (ow_ins.mpr ⟨a,p,vs,_,rfl,g,by rw[List.length_set];exact m,(o a<|by simp).trans w,rfl⟩) C D (λb hb=>o b<|by simp[hb])<|λb hb=>E b (by simp[hb]);simpa using s2
structure QL(cl:Nat->Addr)(X:Cx)(e:Expr)(tb:TE)(i:Nat)(L:Ln):Prop where
 sem:PE X e tb
 den:jep ⟨X.K,cl⟩ tb i L
section
variable {cl:Nat->Addr}{pm:List Nat}{X:Cx}{o e j:Expr}{es:List Expr}{to te tb tj:TE}{po pe pj:PF}{tr:TA}{pr:PAf}{pos p apos:Pos}{L L':Ln}{i:Nat}
def jmQ{k n c}{ps}{m}{mn qual}{st}{pl}(i:Cls X.K<|cl c)(O:OkM X.prog X.w X.K X.mg (cl c) mn qual st k ps<|spP ⟨X.K,cl⟩ m n)(j:Room k X.A)(g:QB cl X o to po)(a:QBs cl X (e::es) tr pr)(l:(e::es).length+1=n:=by rfl)
  (b:SEq X e es:=by rfl) (d:BkE X pos es:=by rfl)
  (p:eval (.Call (.Attribute o mn apos) (e::es) [] pos) X.env=(do
   let ov <- eval o X.env
   standAt apos.atName
   let (f,first) <- holding [ov] (getMethod ov mn pl)
   callWith pos f first (backTo pos<|starEach (e::es) X.env) (backToKw pos<|keywordEach [] X.env)):=by rfl):
  QP cl X (.Call (.Attribute o mn apos) (e::es) [] pos) (jc4 (cl c) mn (spP ⟨X.K,cl⟩ m n) [] E0 to tr) (Yj m c mn po pr):=by
 obtain⟨_,_,F,G⟩:=O;exact⟨jdp g.sem i F.mt (G _) j F.bd .nil jds a.sem b d p,jj1 g.den a.den λρ q h=>by rw[a.n ρ q h];exact l⟩
def jk5{x}(a:QB cl X (.Name x p) (jU i)<|pV i):QL cl X (.Name x p) (jU i) i kB:=⟨a.sem,Ji⟩
def jkC{c}{f}(a:Cls X.K<|cl c)(b:NoAttr X.K (cl c) f)(h:QL cl X o tb i L)(hb:attributeBase o f X.env (eval o X.env)=eval o X.env:=by rfl):QL cl X (.Attribute o f pos) (jer X.K tb f) i (qW c f L):=
 ⟨ux h.sem hb,jkI a b h.den⟩
def jkn{cpos}(f:QL cl X o tb i L)(h:QP cl X e te pe)(b:attributeBase o "append" X.env (eval o X.env)=eval o X.env:=by rfl)
  (d:((backTo cpos<|starEach [e] X.env).all (λx=>!x.1)&&(backToKw cpos<|keywordEach [] X.env).all (λx=>x.1.isSome)
   && decide ([e].length+([]:List Keyword).length+(if([]:List Keyword).isEmpty then 0 else 1)<30))=true:=by rfl)
  (c:(apos.endLine==cpos.line)=true:=by rfl) (g:starEach [e] X.env=(false,eval e X.env)::starEach [] X.env:=by rfl) (a:(backTo cpos<|starEach [] X.env).any (·.1)=false:=by rfl)
  (hsw:swapsWith (.Call (.Attribute o "append" apos) [e] [] cpos) none pos.line X.env=pure false:=by rfl):
  QS cl pm X (.Expr (.Call (.Attribute o "append" apos) [e] [] cpos) pos) (JV<|tBM X.K "list" Jr tb<|jI te JC) (qf i L pe):=
 ⟨Yw (jcZ PySem.F.plainAttrs_list PySem.F.slot_list_append PySem.F.type_list_append JL f.sem (jE h.sem vI g) b d c g a) hsw,jbK f.den h.den⟩
end
abbrev jl2(ta tb tc:TE):TE:=zi<|jI ta<|jI tb<|jI tc JC
def jdi(pa pb pc:PF)(ρ:Rh):Option (List KA):=(pa ρ).bind λx=>(pb ρ).bind λy=>(pc ρ).bind λz=>(yU x).bind λa=>(yU y).bind λb=>(yU z).bind λc=>some [a,b,c]
@[simp] def pKey3_e:jdi pa pb pc ρ=(pa ρ).bind λx=>(pb ρ).bind λy=>(pc ρ).bind λz=>(yU x).bind λa=>(yU y).bind λb=>(yU z).bind λc=>some [a,b,c]:=rfl
def jht(R:RC)(tk:TE)(pk:Rh->Option (List KA)):Prop:=∀{σ}{ρ}{Z}{H}{O}{k},Zd Z H->Slots R Z H ρ σ O->pk ρ=some k ->
 ∀{Q},(∀{p}{Z'}{H'},Go Z H [] Z' H' []->Z' p->H' p=some (.tup<|(k.map kaV).map kV)->Q (.ref p) H')->tk σ H Q
def jqo(g:PB R ta pa)(hb:PB R tb pb)(h:PB R tc pc):jht R (jl2 ta tb tc) (jdi pa pb pc):=by
 intro σ ρ Z H O k z s e Q go;refine ob e λx i e=>ob e λy e2 e=>ob e λq e3 e=>ob e λa j e=>ob e λb e5 e=>ob e λc l e=>?_;cases e;refine g z s i λ{v o r t} f r1=>(hb f.wf.zd (f.slots z s) e2 λ{u w A B} g2 r2=>?_);have d:=f.pair g2;refine h g2.wf.zd (d.slots z s) e3 λ{C Z3 D E} g3 m=>?_;obtain⟨rfl,_⟩:=yc j r1;obtain⟨rfl,_⟩:=yc e5 r2;obtain⟨rfl,_⟩:=yc l m;refine⟨by show 3<=sizeLine;decide,λp n=>?_⟩;exact go ((d.pair g3).trans (Go.newF g3.wf n)) (.inr rfl) jh
def Kc(pd:PF)(pk:Rh->Option (List KA))(pc:PF):PF:=λρ=>(pd ρ).bind λx=>(pk ρ).bind λk=>(pc ρ).bind λz=>Va x k z
@[simp] def pKGet3_e:Kc pd pk pc ρ=(pd ρ).bind λx=>(pk ρ).bind λk=>(pc ρ).bind λz=>Va x k z:=rfl
def jeI(hd:PB R td pd)(n:jht R tk pk)(q:PB R tx pc):PB R (VB td tk tx) (Kc pd pk pc):=by
 intro σ ρ Z H O d z s e Q k;refine ob e λx r e=>ob e λy e2 e=>ob e λc u e=>?_;cases x with
 | dT o A l=>
  cases e;refine hd z s r λ{v J K L} j r1=>?_;obtain⟨p,vs,M,rfl,B,N,S⟩:=r1.dT_of;refine⟨p,rfl,.inr ⟨_,.inl B⟩,(n j.wf.zd (j.slots z s) e2 λ{b T U} g2 V m=>?_)⟩;have a:=j.pair g2;refine q g2.wf.zd (a.slots z s) u λ{t Z3 C W} g3 D=>?_;obtain⟨X,E,F,G,f,g,h,_⟩:=((g2.pair g3).rep j.wf.zd r1);cases G;have i:C b=some (.tup<|(y.map kaV).map kV):=by rw[g3.same b<|by rw[m];exact λz=>(nomatch z)];exact m
  cases ev:J8 A l y with
  | none=>exact⟨none,(Ja f g).2 ev▸DGet.t h i,k (a.pair g3)<|by rw[ev];exact D⟩
  | some d=>
   obtain⟨w,P,I,rw⟩:=(Ja f g).1 d ev;exact⟨some w,I▸DGet.t h i,k (a.pair g3)<|by rw[ev];exact rw⟩
 | _=>cases e
def V5(i:Nat)(pk:Rh->Option (List KA))(pv:PF):FS:=λρ=>(pv ρ).bind λd=>(pV i ρ).bind λx=>(jfb x).bind λp=>(pk ρ).bind λa=>bif frz d&&lim p.1.length then some (.nx<|ρ.set i<|some<|.dT true (kW p.1 p.2 a d).1 (kW p.1 p.2 a d).2) else none
@[simp] def sKSet3_e{i}{pk}{pv}{ρ}:V5 i pk pv ρ=(pv ρ).bind λd=>(pV i ρ).bind λx=>(jfb x).bind λp=>(pk ρ).bind λa=>bif frz d&&lim p.1.length then some (.nx<|ρ.set i<|some<|.dT true (kW p.1 p.2 a d).1 (kW p.1 p.2 a d).2) else none:=rfl
def jgd{R}{pm}{i}{G tv}{pk}{pv}(S:jht R G pk)(T:PB R tv pv):DS R pm (Qt (jU i) G tv) (V5 i pk pv):=by
 intro σ ρ Z H O o w s e D' k;unfold V5 at e;cases e1:pv ρ with
 | none=>rw[e1] at e;cases e
 | some d=>
  rw[e1,L4] at e;cases e5:pV i ρ with
  | none=>rw[e5] at e;cases e
  | some x=>
   rw[e5,L4] at e;cases e6:jfb x with
   | none=>rw[e6] at e;cases e
   | some q=>
    rw[e6,L4] at e;obtain⟨j,l⟩:=q;cases QN e6;have I:=Ys e5;cases e2:pk ρ with
    | none=>rw[e2] at e;cases e
    | some c=>
     rw[e2,L4] at e;cases hm:frz d&&lim j.length with
     | false=>rw[hm] at e;cases e
     | true=>
      rw[hm] at e;cases e;rw[M0] at hm;refine T w.zd s e1 λ{u Z1 H1 P1} n r1=>?_;cases r1.nil hm.1;have f:=n.widen w;have s1:=n.slots w.zd s;obtain⟨A,P,B,rfl,U,k2,_⟩:=s1.put (L9.mp I).1;obtain⟨v,J,r⟩:=U _ I;obtain⟨a,vs,K,rfl,V,C,L,rfl⟩:=r;refine⟨.ref a,J,(S n.wf.zd s1 e2 λ{b M y} g2 zb W=>?_)⟩;have g:=g2.widen f.wf;have D:y a=some (.dT<|(j.map<|List.map kaV).zip vs):=by rw[g2.same a<|by rw[L];exact λz=>(nomatch z)];exact L
      obtain⟨h,E,X,Y,N,F⟩:=YX (g2.rep n.wf.zd r1) c (g2.reps n.wf.zd V) C;refine⟨a,_,rfl,DPut.t D W<|by rw[List.length_zip,L1];exact E3 (Nat.min_le_left _ _)<|VA hm.2,?_⟩;rw[<- Y];have nd:=g.wf.nd;have cnt:=List.nodup_iff_count.mp nd a;simp only[U9,List.count_cons,beq_self_eq_true,if_true] at cnt;have pos:∀{m:W5},a∈m->0<m.count a:=List.count_pos_iff.mpr;have p:∀ b,M b->upd y a (.dT<|((kW j l c d).1.map (List.map kaV)).zip h) b=y b:=λb hb=>je λz=>g.wf.nz a (by simp)<|z▸hb;have hr:Rep R M (upd y a<|.dT<|((kW j l c d).1.map (List.map kaV)).zip h) (.dT true (kW j l c d).1 (kW j l c d).2) (.ref a) (a::E):=by
       exact⟨a,h,E,rfl,X.frame (λb z=>z) p (λb hb=>je λz=>by subst z;have:=pos<|N.subset hb;lia),F,jh,rfl⟩
      have s2:=k2 hr (g2.zz) (λb hb=>(p b<|g2.zz b hb).trans (g2.same b<|n.wf.zd b hb)) (λb hb=>(je λz=>by subst z;have:=pos hb;lia).trans (g2.same b<|f.wf.od b<|by simp[hb]))<|λb hb=>(je λz=>by subst z;have:=pos hb;lia).trans (g2.same b<|f.wf.od b<|by simp[hb]);rw[yE J] at s2;have Q:∀ x,(A++(a::E)++B).count x<=(A++(a::K)++B).count x:=λx=>by
       have:=N.count_le x;simp only[U9,List.count_cons];lia
      exact k ((f.trans g).trans ((Go.put (o:=.dT<|((kW j l c d).1.map (List.map kaV)).zip h) g.wf<|show a∈A++(a::K)++B by simp).drop (jao Q) (YT Q nd))) s2<|Keep.refl _ _
structure QK3(cl:Nat->Addr)(X:Cx)(e:Expr)(tk:TE)(pk:Rh->Option (List KA)):Prop where
 sem:PE X e tk
 den:jht ⟨X.K,cl⟩ tk pk
def qk3{f}(d:QB cl X a ta pa)(hb:QB cl X b tb pb)(e:QB cl X c tc pc)
  (h1:starEach [a,b,c] X.env=(false,eval a X.env)::starEach [b,c] X.env:=by rfl) (h2:starEach [b,c] X.env=(false,eval b X.env)::starEach [c] X.env:=by rfl) (g:starEach [c] X.env=(false,eval c X.env)::starEach [] X.env:=by rfl):
  QK3 cl X (.Tuple [a,b,c] f tpos) (jl2 ta tb tc) (jdi pa pb pc):=⟨Jg<|jE d.sem (jE hb.sem (jE e.sem vI g) h2) h1,jqo d.den hb.den e.den⟩
def jj8(f:Room k X.A)(a:QB cl X o to po)(b:QK3 cl X e tk pk)(d:QB cl X c tc pc)(m:M2 X o "get" apos e c cpos:=by exact⟨rfl,rfl,rfl,rfl⟩):
  QB cl X (.Call (.Attribute o "get" apos) [e,c] [] cpos) (VB to tk tc) (Kc po pk pc):=⟨Qq (Yk f) a.sem b.sem d.sem m,jeI a.den b.den d.den⟩
def jfN(c:Room k X.A)(d:QB cl X (.Name x xpos) (jU i)<|pV i)(a:QK3 cl X f tk pk)(b:QB cl X e te pe)
  (g:swapsWith e (some<|.Subscript (.Name x xpos) f pos') pos.line X.env=pure false:=by rfl):
  QS cl pm X (.Assign [.Subscript (.Name x xpos) f pos'] e pos) (Qt (jU i) tk te) (V5 i pk pe):=⟨Qz (Yk c) d.sem a.sem b.sem g,jgd a.den b.den⟩
section
variable {R:RC}{Z Z' Z2:Zn}{H H' H2:Hp}{pm:List Nat}
def jbE(rd:Rep R Z H d v P)(a)  (r:Reps R Z H l vs O) (b:ks.length=l.length) (c:a∉ks):
  Reps R Z H (vV ks l a d).2 (vs++[v]) (O++P)/\(((vV ks l a d).1).map kaV).zip (vs++[v])=JE ((ks.map kaV).zip vs) (kaV a) v/\(vV ks l a d).1.length=(vV ks l a d).2.length:=by
 have e:ks.length=vs.length:=by rw[r.length];exact b
 unfold vV JE;rw[xW a e,if_neg c,X5 c,if_neg<|λz=>(nomatch z)];refine⟨r.append<|Reps.one rd,?_,by simp[b]⟩;rw[N6,List.zip_append ⇑e];rfl
def Vi(i:Nat)(L:Ln)(pk pv:PF)(ρ:Rh):Option Out:=(pv ρ).bind λd=>(pV i ρ).bind λt=>(L t).bind λy=>(jgW y.1).bind λkl=>(pk ρ).bind λq=>(yU q).bind λa=>bif lim kl.1.length&&(frz d||!decide (a∈kl.1)) then some (.nx<|ρ.set i<|some<|y.2<|.dK true (vV kl.1 kl.2 a d).1 (vV kl.1 kl.2 a d).2) else none
def jfs{i}{L}{tb ty tv}{pk pv}(B:jep R tb i L)(C:PB R ty pk)(D:PP R tv pv):DS R pm (Qt tb ty tv) (Vi i L pk pv):=by
 intro σ ρ Z H O o w s e U k;refine ob e λd E e=>ob e λt hi e=>ob e λ⟨y,V⟩ e3 e=>ob e λ⟨g,l⟩ e7 e=>ob e λq F e=>ob e λc e5 e=>oc e λx e=>?_;cases e;cases wZ e7;rw[M0] at x;refine D w.zd s E λ{u W X G} h r1=>?_;have s1:=h.slots w.zd s;have A:=h.widen w;refine qx B A.wf s1 hi e3 jbb λa _ vs I J j K M put=>M<|C h.wf.zd s1 F λ{z N P Y} g2 r2=>?_;obtain⟨rfl,_⟩:=yc e5 r2;have m:=g2.rep h.wf.zd r1;have n:=g2.reps h.wf.zd J;have key:∃ b p,Reps R N P (vV g l c d).2 b p/\(((vV g l c d).1).map kaV).zip b=JE ((g.map kaV).zip vs) (kaV c) u/\(∀ q,p.count q<=I.count q+G.count q)/\(vV g l c d).1.length=(vV g l c d).2.length:=by
  cases hf:frz d with
  | true=>
   cases r1.nil hf;obtain⟨b,p,r,v,Q,f⟩:=Y0 m c n j;exact⟨b,p,r,v,⇑Q.count_le,f⟩
  | false=>
   have S:c∉g:=by
    have:=x.2;rw[hf] at this;simpa using this
   obtain⟨r,v,f⟩:=jbE m c n j S;exact⟨_,_,r,v,λq=>by rw[U9];exact N0 _,f⟩
 obtain⟨b,p,r,v,cn,f⟩:=key;obtain⟨O3,g3,T⟩:=put jbb f g2 r ⇑cn;refine⟨a,_,rfl,DPut.k (g2.at0 K)<|Vr x.1,?_⟩;rw[<- v];exact k (A.trans g3) T<|Keep.refl _ _
def YF(i:Nat)(L:Ln)(c:Nat)(f:Str)(g:Int->Int->Int)(pv:PF)(ρ:Rh):Option Out:=(pV i ρ).bind λt=>(L t).bind λy=>(xk y.1).bind λq=>(JF q.2.1 q.2.2 f).bind λm=>(vz m).bind λm=>(pv ρ).bind λn=>(vz n).bind λn=>
 bif q.1==c&&decide (q.2.1.length<=900) then some (.nx<|ρ.set i<|some<|y.2<|.ins true c (Jd q.2.1 q.2.2 f<|.int<|g m n).1 (Jd q.2.1 q.2.2 f<|.int<|g m n).2) else none
def jf5{i c}{f}{L}{tb tv}{pv}{g}{rd}(d:∀{m n}{H}{Q},Q (.int<|g m n) H->rd (.int m) (.int n) H Q)(A:Cls R.K<|R.cls c)(B:NoAttr R.K (R.cls c) f)(C:jep R tb i L)(D:PB R tv pv):DS R pm (xC R.K tb tv rd f) (YF i L c f g pv):=by
 intro σ ρ Z H O o w s e U k;refine ob e λt hi e=>ob e λ⟨y,V⟩ e3 e=>ob e λ⟨E,ns,l⟩ F e=>ob e λx G e=>ob e λm I e=>ob e λW J e=>ob e λn e2 e=>oc e λh e=>?_;cases e;cases JS F;cases jK I;cases jK e2;rw[M0] at h;obtain rfl:E=c:=by simpa using h.1
 refine qx (P0:=[]) C w s hi e3 ow_ins λa r vs X v b z M put=>?_;obtain⟨mv,Y,j,p⟩:=ud v b G;obtain⟨rfl,_⟩:=p.int_of;refine M ⟨a,_,r,_,_,rfl,z,A,B,j,D w.zd s J λ{u Z2 H2 P4} g2 r2=>?_⟩;obtain⟨rfl,_⟩:=r2.int_of;obtain⟨N,O2,P,e7,q,S⟩:=Y4 (Rep.int_mk) (g2.reps w.zd v) b;obtain⟨O3,g3,T⟩:=put ow_ins q g2 P ⇑S;refine d ⟨r,_,g2.at0 z,jdH h.2,?_⟩;rw[<- e7];exact k g3 T<|Keep.refl _ _
end
section
variable {cl:Nat->Addr}{pm:List Nat}{X:Cx}{o b e:Expr}{to tb te:TE}{po pb pe:PF}{pos p fp tpos:Pos}{k i:Nat}{L:Ln}
def jeR(d:Room k X.A)(a:QL cl X o to i L)(hb:QB cl X b tb pb)(c:QP cl X e te pe)(f:swapsWith e (some<|.Subscript o b pos') pos.line X.env=pure false:=by rfl):
  QS cl pm X (.Assign [.Subscript o b pos'] e pos) (Qt to tb te) (Vi i L pb pe):=⟨Qz (Yk d) a.sem hb.sem c.sem f,jfs a.den hb.den c.den⟩
def jd2(d:Room k X.A)(a:QL cl X o to i L)(hb:QB cl X b tb pb)(c:QB cl X e te pe)
  (f:∀ ov iv new,augStore b ov iv new=(do holding [new,ov,iv] (setItem ov iv new);release [new,ov,iv] [];pure .next):=by intro _ _ _;rfl):
  QS cl pm X (.AugAssign (.Subscript o b tpos) .Add e pos) (Q9 to tb te jpJ) (vA i L pb (λm n=>m+n) pe):=⟨KZ (Yk d) a.sem hb.sem c.sem jnb f,Qy (λq=>⟨_,_,rfl,rfl,q⟩) a.den hb.den c.den⟩
def jby(d:Room k X.A)(a:QL cl X o to i L)(hb:QB cl X b tb pb)(c:QB cl X e te pe)
  (f:∀ ov iv new,augStore b ov iv new=(do holding [new,ov,iv] (setItem ov iv new);release [new,ov,iv] [];pure .next):=by intro _ _ _;rfl):
  QS cl pm X (.AugAssign (.Subscript o b tpos) .Sub e pos) (Q9 to tb te jns) (vA i L pb (λm n=>m-n) pe):=⟨KZ (Yk d) a.sem hb.sem c.sem uw f,Qy (λq=>⟨_,_,rfl,rfl,q⟩) a.den hb.den c.den⟩
def jd3{c}{f}(d:Cls X.K<|cl c)(g:NoAttr X.K (cl c) f)(a:QL cl X o to i L)(b:QB cl X e te pe):
  QS cl pm X (.AugAssign (.Attribute o f tpos) .Sub e pos) (xC X.K to te jns f) (YF i L c f (λm n=>m-n) pe):=⟨jbT a.sem b.sem uw,jf5 (λq=>⟨_,_,rfl,rfl,q⟩) d g a.den b.den⟩
end
namespace QK
def fld{K}{cl}{X}{o}{to}{po}{pos}{c}{f}(a:X.K=K)(b:Cls X.K<|cl c)(d:NoAttr X.K (cl c) f)(e:QB cl X o to po)(hb:attributeBase o f X.env (eval o X.env)=eval o X.env:=by rfl):QB cl X (.Attribute o f pos) (jer K to f) (Jt c f po):=by subst a;exact jmA b d e hb
end QK
section
variable {R:RC}{Z Z':Zn}{H H':Hp}{pm:List Nat}
def Jz(m:List D->Option (D×D))(i:Nat)(L:Ln)(p:PAf)(ρ:Rh):Option (D×Rh):=(pV i ρ).bind λt=>(L t).bind λy=>(p ρ).bind λds=>bif frzs ds then(m<|y.1::ds).bind λr=>some (r.1,ρ.set i<|some<|y.2 r.2) else none
def jbD(q:jep R tb i L)(u:PPs R tr p)(x:∀ ρ ds,p ρ=some ds->ds.length+1=n):DE R (qM (spM R m n 0) [] E0<|jI tb tr) (Jz m i L p):=by
 intro σ ρ J Z H O d w s e Q k;refine ob e λt hi e=>ob e λ⟨y,K⟩ e3 e=>ob e λds j e=>oc e λC e=>ob e λ⟨D,E⟩ e2 e=>?_;cases e;obtain⟨v,A,P,B,rfl,r,F,G⟩:=q s (Ys hi) e3;refine F<|u w.zd s j λ{vs f l M} b r1=>?_;cases r1.nil C;have c:Go Z H (A++P++B) f l (A++P++B):=by simpa using b.widen w
 have I:Reps R f l (y::ds) (v::vs) P:=by
  have:=Reps.cons (b.rep w.zd r) r1;simpa using this
 refine⟨f,y::ds,D,E,P,v,c.wf.mid,by have:=x ρ ds j;simpa using this,by rw[N1];exact I,rfl,e2,λ{N S T U V} g2 r2 g=>?_⟩;have o:=Go.keepA c.wf g2;exact k (c.trans<|g2.frame c.wf).turn r2 (G g (λa z=>g2.zz a<|b.zz a z) (λa z=>(g2.zH c.wf.mid a<|b.zz a z).trans (b.same a<|w.zd a z)) (λa h=>(o.1 a h).trans (b.same a<|w.od a<|by simp[h]))<|λa h=>(o.2 a h).trans (b.same a<|w.od a<|by simp[h]))
def jf0(i:Nat)(pa pb:PF)(g:Int->Int->Int)(pv:PF):FS:=λρ=>(pV i ρ).bind λx=>(jfb x).bind λp=>(jf3 pa pb ρ).bind λa=>(J8 p.1 p.2 a).bind λy=>(vz y).bind λm=>(pv ρ).bind λz=>(vz z).bind λn=>
 bif lim p.1.length then some (.nx<|ρ.set i<|some<|.dT true (kW p.1 p.2 a<|.int<|g m n).1 (kW p.1 p.2 a<|.int<|g m n).2) else none
def jjG{i}{ta tb tv}{pa pb pv}{g}{rd}(j:∀{m n}{H}{Q},Q (.int<|g m n) H->rd (.int m) (.int n) H Q)(D:PB R ta pa)(hb:PB R tb pb)(E:PB R tv pv):DS R pm (Q9 (jU i) (jbY ta tb) tv rd) (jf0 i pa pb g pv):=by
 intro σ ρ Z H O o w s e T k;refine ob e λx F e=>ob e λ⟨U,l⟩ G e=>ob e λc e2 e=>ob e λy e3 e=>ob e λm I e=>ob e λz e7 e=>ob e λn J e=>oc e λf e=>?_;cases e;cases QN G;cases jK I;cases jK J;refine qx (P0:=[]) Ji w s F rfl je3 λa _ vs V A h B K put=>K<|JH D hb w.zd s e2 λ{b W X} g2 Y C=>?_;obtain⟨mv,P3,p,q⟩:=(Ja A h).1 _ e3;obtain⟨rfl,_⟩:=q.int_of;refine⟨a,.int m,rfl,by rw[<- p];exact DGet.t (g2.at0 B) C,E g2.wf.zd (g2.slots w.zd s) e7 λ{u Z3 H3 P4} g3 L=>?_⟩;obtain⟨rfl,_⟩:=L.int_of;have d:=g2.trans g3;obtain⟨M,O2,r,N,P,v⟩:=YX (Rep.int_mk) c (d.reps w.zd A) h;obtain⟨O3,g4,S⟩:=put je3 v d r ⇑P.count_le;refine j ⟨_,DPut.t (d.at0 B) (g3.at0 C)<|Vr f,?_⟩;rw[<- N];exact k g4 S<|Keep.refl _ _
end
section
variable {cl:Nat->Addr}{pm:List Nat}{X:Cx}{o e:Expr}{es:List Expr}{to te:TE}{po pe:PF}{tr:TA}{pr:PAf}{pos p:Pos}{i:Nat}{L:Ln}
def jga{k n}{ps}{m}{x}{st}(O:OkF X.prog X.w X.K X.mg x st k ps<|spM ⟨X.K,cl⟩ m n 0)(f:Room k X.A)
  (c:QL cl X o to i L) (d:QPs cl X es tr pr) (g:∀ ρ ds,pr ρ=some ds->ds.length+1=n) (h:Gl X x:=by rfl) (a:Nd x:=by decide)
  (e:starEach (o::es) X.env=(false,eval o X.env)::starEach es X.env:=by rfl) (b:BkE X pos es:=by rfl):QE cl X (.Call (.Name x p) (o::es) [] pos) (qM (spM ⟨X.K,cl⟩ m n 0) [] E0<|jI to tr) (Jz m i L pr):=by
 obtain⟨_,_,F,G⟩:=O;exact⟨jfl F (G _) f (jE c.sem d.sem e) h a e b,jbD c.den d.den g⟩
def jfk{a b}{ta tb}{pa pb}{x}{f}{k}{c d tpos}(j:Room k X.A)(l:QB cl X (.Name x c) (jU i)<|pV i)(g:QB cl X a ta pa)(hb:QB cl X b tb pb)(h:QB cl X e te pe)
  (o:∀ ov iv new,augStore (.Tuple [a,b] f d) ov iv new=(do holding [new,ov,iv] (setItem ov iv new);release [new,ov,iv] [];pure .next):=by intro _ _ _;rfl)
  (h1:starEach [a,b] X.env=(false,eval a X.env)::starEach [b] X.env:=by rfl) (h2:starEach [b] X.env=(false,eval b X.env)::starEach [] X.env:=by rfl):
  QS cl pm X (.AugAssign (.Subscript (.Name x c) (.Tuple [a,b] f d) tpos) .Sub e pos) (Q9 (jU i) (jbY ta tb) te jns) (jf0 i pa pb (λm n=>m-n) pe):=
 ⟨KZ (Yk j) l.sem (Jg<|jE g.sem (jE hb.sem vI h2) h1) h.sem uw o,jjG (λq=>⟨_,_,rfl,rfl,q⟩) g.den hb.den h.den⟩
def jfd(d:Room k X.A)(c:QB cl X a ta pa)(hb:QB cl X b tb pb)(e:behindInMarks .NotIn b=false:=by with_unfolding_all rfl):QP cl X (.Compare a [.NotIn] [b] pos) (Qx ta tb) (p2 (ja1 true) pa pb):=
 ⟨jnm (jdK (Yk d) c.sem hb.sem) e,jcx c.den hb.den⟩
end
section
variable {R:RC}{Z Z':Zn}{H H':Hp}{pm:List Nat}
def wj(K:W4):List V->Hp->VK->Prop:=(λxs H Q=>∃(p:Addr) (ys:List V) (ps:List<|List Key×Addr×V),xs=[.ref p]/\SqL K H p ys/\ys.length=ps.length/\ps.length<=100000 /\
  (∀(j:Nat) y,ys[j]?=some y->∃ kv t,ps[j]?=some kv/\y=.ref t/\SqT K H t [.ref kv.2.1,kv.2.2]/\H kv.2.1=some (.tup<|kv.1.map kV))/\∀ D,H D=none->Q (.ref D) (upd H D<|.dT<|ps.foldl (λa kv=>JE a kv.1 kv.2.2) []))
def PK(R:RC)(te:TE)(pk:Rh->Option (List KA))(pv:PF):Prop:=∀{σ}{ρ}{Z}{H}{O}{c}{d},Zd Z H->Slots R Z H ρ σ O->pk ρ=some c->pv ρ=some d->frz d=true ->
 ∀{Q},(∀{t b}{u}{Z'}{H'},Go Z H [] Z' H' []->Z' t->Z' b->H' t=some (.tup [.ref b,u])->H' b=some (.tup<|(c.map kaV).map kV)->Rep R Z' H' d u []->Q (.ref t) H')->te σ H Q
def jh7(g:D->Rh->Option Rh)(q:PTf)(pk:Rh->Option (List KA))(pv:PF):List D->Rh->Option (List<|List KA×D)
 | [],_=>some []
 | x::xs,ρ=>(g x ρ).bind λρ1=>(q ρ1).bind λb=>bif b then(pk ρ1).bind λc=>(pv ρ1).bind λd=>bif frz d then(jh7 g q pk pv xs ρ1).bind λr=>some ((c,d)::r) else none else jh7 g q pk pv xs ρ1
def jbP(ps:List<|List KA×D):List (List KA)×List D:=ps.foldl (λacc kv=>kW acc.1 acc.2 kv.1 kv.2) ([],[])
@[simp] def pDictP(pi:PAf)(g:D->Rh->Option Rh)(q:PTf)(pk:Rh->Option (List KA))(pv:PF)(ix:List<|Option Nat)(ρ:Rh):Option D:=(pi ρ).bind λxs=>bif lim xs.length then(jh7 g q pk pv xs<|jo ix ρ).bind λall=>some (.dT true (jbP all).1 (jbP all).2) else none
theorem zW:∀{ps:List (List KA×D)}{ws:List (List Key×Addr×V)}{ks}{l}{us},ws.map (·.1)=ps.map (λy=>y.1.map kaV)->Reps R Z H (ps.map (·.2)) (ws.map (·.2.2)) []->Reps R Z H l us []->ks.length=l.length ->
  ∃ us',An3 (Reps R Z H (ps.foldl (λacc kv=>kW acc.1 acc.2 kv.1 kv.2) (ks,l)).2 us' []) ((((ps.foldl (λacc kv=>kW acc.1 acc.2 kv.1 kv.2) (ks,l)).1).map (List.map kaV)).zip us'=(ws.foldl (λa kv=>JE a kv.1 kv.2.2)<|(ks.map<|List.map kaV).zip us))<|(ps.foldl (λacc kv=>kW acc.1 acc.2 kv.1 kv.2) (ks,l)).1.length=(ps.foldl (λacc kv=>kW acc.1 acc.2 kv.1 kv.2) (ks,l)).2.length
 | [],[],ks,l,us,_,_,r,b=>⟨us,r,by simp,b⟩
 | [],w::ws,ks,l,us,h,_,_,_=>by simp at h
 | p::ps,[],ks,l,us,h,_,_,_=>by simp at h
 | p::ps,w::ws,ks,l,us,j,c,r,b=>by
  obtain⟨v,k,u,x,m,e,r1,r2⟩:=c;obtain⟨rfl,rfl⟩:=List.append_eq_nil_iff.mp e.symm;obtain⟨rfl,rfl⟩:=List.cons.inj m;rw[L5,L5] at j;obtain⟨d,f⟩:=List.cons.inj j;obtain⟨n,z,o,e3,q,g⟩:=YX r1 p.1 r b;have:=List.sublist_nil.mp q;subst this;obtain⟨us',s,t,i⟩:=zW f r2 o g;refine⟨us',s,?_,i⟩;rw[X3,X3,t,e3,d]
end
section
variable {cl:Nat->Addr}{pm:List Nat}{X:Cx}{tg iter elt:Expr}{ifs:List Expr}{wi:TI}{pi:PAf}{t:TG}{g:D->Rh->Option Rh}{te:TE}{pk:Rh->Option (List KA)}{pv:PF}{pos cpos p:Pos}
structure QKv(cl:Nat->Addr)(X:Cx)(e:Expr)(te:TE)(pk:Rh->Option (List KA))(pv:PF):Prop where
 sem:PE X e te
 den:PK ⟨X.K,cl⟩ te pk pv
end
end QD
namespace L2
open PySem PySem.Spec PyProof.Rows
def jc5(h:Vals ys its):Vals (VW lt ys .non) (VW lt its Value.none):=by
 unfold VW;rw[<- h.length];split
 ·exact h
 ·generalize(kEv lt<|PySem.W.kas_sort ys.length).toList=l;have get:∀ ys its,Vals ys its->∀ i,RelV (ys.getD i .non) (its.getD i Value.none):=by
   intro ys its h
   induction h with
   | nil=>intro i;simp;rfl
   | cons b _ a=>
    intro i;cases i with
    | zero=>exact b
    | succ i=>exact a i
  induction l with
  | nil=>exact .nil
  | cons i l a=>exact .cons (get ys its h i) a
def jel(K:W4):List V->Hp->VK->Prop:=λxs H Q=>∃(p:Addr) (ys:List V) (rs:List je0),xs=[.ref p]/\SqL K H p ys/\ys.length=rs.length/\ys.length<64 /\
 (∀(j:Nat) y,ys[j]?=some y->∃ r t,rs[j]?=some r/\y=.ref t/\SqT K H t [.str r.1,.str r.2.1,.int r.2.2])/\∀ D,H D=none->Q (.ref D) (upd H D<|.lst<|VW (λi j=>zT (rs.getD i ("","",0))<|rs.getD j ("","",0)) ys .non)
def jgo(h:Vals ys its):∀(j:Nat) v,its[j]?=some v->∃ y,ys[j]?=some y/\RelV y v:=by
 induction h with
 | nil=>intro j v e;simp at e
 | @cons y u ys c a _ b=>
  intro j v e;cases j with
  | zero=>cases e;exact⟨y,rfl,a⟩
  | succ j=>exact b j v ⇑e
def zX:qe X (.builtin "sorted") (jel X.K):=by
 intro w s σ H xs us Q I r h;obtain⟨p,z,a,rfl,A,hl,hz,B,q⟩:=h;obtain⟨u,rfl,C⟩:=r.one;cases C;obtain⟨D,b,⟨o,n,e,d,E,f⟩,_⟩:=I.list A;have F:=b.length.symm;refine YQ (rs:=a) ⟨o,e,d,n,f⟩ ∅ ∅ (λj v G=>?_) λh' c J L=>?_
 ·obtain⟨y,M,N⟩:=jgo b j v G;obtain⟨r,t,O,rfl,g⟩:=B j y M;cases(N);obtain⟨x,P,⟨R,e2,k,S,l⟩,_⟩:=I.tuple g;cases P with
  | cons T k2=>
   cases k2 with
   | cons k3 U=>
    cases U with
    | cons V W=>
     cases W;rename_i v1 v2 v3;obtain⟨Y,rfl⟩:=(T);obtain⟨Z,rfl⟩:=(k3);obtain⟨t3,rfl⟩:=(V);exact⟨r,O,t,R,S,Y,Z,t3,rfl,e2,k,l⟩
 ·have m:=I.hok.fresh<|Nat.le_succ ↥s;refine⟨.ref<|↥s+1,_,I.laid (o:=.lst<|VW (λi j=>zT (a.getD i ("","",0))<|a.getD j ("","",0)) z .non) J (Nat.le_succ _) ⟨?_,_,c,jc5 b,L⟩,rfl,q _ m⟩;rw[uT]
  lia
end L2
namespace QD
open PySem L2 PySem.Spec PyProof.Rows
noncomputable def jiA:D->Option (List Nat)
 | .str s=>some s
 | _=>none
def ue{d}{n}(h:jiA d=some n):d=.str n:=by cases d<;>cases h<;>rfl
noncomputable def jpH:List D->Option (D×D×D)
 | [x,y,z]=>some (x,y,z)
 | _=>none
def jkl{l}{p}(h:jpH l=some p):l=[p.1,p.2.1,p.2.2]:=by
 match l with
 | [_,_,_]=>cases h;rfl
def jp2(d:D):Option je0:=(jcv d).bind λt=>(jpH t).bind λp=>(jiA p.1).bind λa=>(jiA p.2.1).bind λb=>(vz p.2.2).bind λn=>some (S a,S b,n)
def ja9:List D->Option (List je0)
 | []=>some []
 | d::l=>(jp2 d).bind λx=>(ja9 l).bind λr=>some<|x::r
def we(rs:List je0)(l:List D):List D:=VW (λi j=>zT (rs.getD i ("","",0))<|rs.getD j ("","",0)) l .non
def Qn:List D->Option D
 | [.lst _ l]=>(ja9 l).bind λrs=>bif decide (l.length<64) then some (.lst true<|we rs l) else none
 | _=>none
@[simp] def fSorted_e(o)(l):Qn [.lst o l]=(ja9 l).bind λrs=>bif decide (l.length<64) then some (.lst true<|we rs l) else none:=rfl
def jee:∀{l}{rs}{ys}{O},ja9 l=some rs->Reps R Z H l ys O->O=[]/\ys.length=rs.length/\∀(j:Nat) y,ys[j]?=some y->∃ r t,rs[j]?=some r/\y=.ref t/\SqT R.K H t [.str r.1,.str r.2.1,.int r.2.2]:=by
 intro l
 induction l with
 | nil=>
  intro rs ys O e r;cases e;obtain⟨rfl,rfl⟩:=r;exact⟨rfl,rfl,λj y f=>by simp at f⟩
 | cons d l i=>
  intro rs ys O e r;refine ob e λx c e=>ob e λk e2 e=>ob c λt m c=>ob c λq o c=>ob c λa p c=>ob c λb s c=>ob c λn u c=>?_;cases e;cases c;rw[Reps,KI m,jkl o,ue p,ue s,jK u] at r;obtain⟨G,v,I,J,rfl,rfl,r1,r2⟩:=r;obtain⟨rfl,w,q⟩:=i e2 r2;have z:=r1.nil (by rfl);subst z;obtain⟨t,vs,rfl,A,g⟩:=r1;obtain⟨L,B,M,N,rfl,P,C,h⟩:=g;obtain⟨Q,T,U,V,rfl,D,E,F⟩:=h.two_of;obtain⟨rfl,_⟩:=C.str_of;obtain⟨rfl,_⟩:=E.str_of;obtain⟨rfl,_⟩:=F.int_of;refine⟨rfl,by simp[w],λj y f=>?_⟩;cases j with
  | zero=>cases f;exact⟨(S a,S b,n),t,rfl,rfl,A.sq⟩
  | succ j=>exact q j y ⇑f
def jcN(r:Reps R Z H l vs [])(a:List Nat):Reps R Z H (a.map λi=>l.getD i .non) (a.map λi=>vs.getD i .non) []:=by
 have get:∀ l vs,Reps R Z H l vs []->∀ i,Rep R Z H (l.getD i .non) (vs.getD i .non) []:=by
  intro l
  induction l with
  | nil=>
   intro vs r i;obtain⟨rfl,_⟩:=r;simp;exact .non_mk
  | cons d l b=>
   intro vs r i;obtain⟨v,c,f,g,rfl,e,r1,r2⟩:=r;obtain⟨rfl,rfl⟩:=List.append_eq_nil_iff.mp e.symm;cases i with
   | zero=>exact r1
   | succ i=>exact b c r2 i
 induction a with
 | nil=>exact .empty
 | cons i a b=>exact Reps.cons (get l vs r i) b
def jbO:BC R (jel R.K) Qn:=by
 intro Z H m d vs O z r e Q k
 match m,e,r with
 | [.lst o l],e,r=>
  refine ob e λc n e=>oc e λs e=>?_;cases e;obtain⟨v,rfl,r1⟩:=r.one_of;obtain⟨p,f,x,rfl,t,b⟩:=r1.lst_of;obtain⟨rfl,u,q⟩:=jee n b;refine⟨p,f,c,rfl,t.sq,u,by rw[b.length];exact(X6 s),q,λD g=>?_⟩;refine k (Go.newO (wf0 z) g) ?_;have ne:∀ a,H a≠none->a≠D:=λa h e=>h<|e▸g;have w:Reps R Z H (we c l) (VW (λi j=>zT (c.getD i ("","",0))<|c.getD j ("","",0)) f .non) []:=by
   unfold we VW;rw[b.length];split
   ·exact b
   ·exact jcN b _
  exact⟨D,_,[],rfl,w.frame (λa z=>z) (λa h=>je<|ne a<|z a h)<|λa h=>(nomatch h),jh,rfl⟩
def zt:bootBuiltins "sorted" = some (.builtin "sorted"):=by boot_fast
def jbq:(we rs l).Perm l:=by
 unfold we VW;split
 ·exact List.Perm.refl _
 ·rename_i h;refine(((wy (lt:=λi j=>zT (rs.getD i ("","",0))<|rs.getD j ("","",0)) (n:=l.length) ∅).2).map λi=>l.getD i .non).trans ?_;have:(List.range l.length).map (λi=>l.getD i .non)=l:=by
   apply List.ext_getElem
   ·simp
   ·intro i b a;simp[List.getD_eq_getElem?_getD,X9 a]
  rw[this]
noncomputable def two2:List KA->Option (KA×KA)
 | [a,b]=>some (a,b)
 | _=>none
def two2_of{k}{p}(h:two2 k=some p):k=[p.1,p.2]:=by
 match k with
 | [_,_]=>cases h;rfl
def kS:List (List KA)->List D->Option (List D)
 | [],[]=>some []
 | k::ks,d::l=>(two2 k).bind λp=>(vz d).bind λn=>(kS ks l).bind λr=>some<|bif decide (0<n) then .tup [kaD p.1,kaD p.2,.int n]::r else r
 | _,_=>none
@[simp] def jnQ(i:Nat)(ρ:Rh):Option (D×Rh):=(pV i ρ).bind λt=>(jfb t).bind λp=>bif lim p.1.length then(kS p.1 p.2).bind λr=>some (.lst true r,ρ.set i none) else none
theorem YE:∀{ks}{l}{r},kS ks l=some r->frzs l=true/\ks.length=l.length
 | [],[],_,_=>⟨rfl,rfl⟩
 | [],_::_,_,e=>by cases e
 | _::_,[],_,e=>by cases e
 | k::ks,d::l,r,e=>by
  refine ob e λp c e=>ob e λn e2 e=>ob e λf e3 e=>?_;obtain⟨a,b⟩:=YE e3;cases jK e2;exact⟨by rw[JO,a];rfl,by simp[b]⟩
def zO:∀{ks:List (List KA)}{l:List D}{r}{i},kS (ks.drop i) (l.drop i)=some r->i<ks.length->Ex4 λa b n r'=>An4 (ks[i]?=some [a,b]) (l[i]?=some (.int n)) (kS (ks.drop<|i+1) (l.drop<|i+1)=some r') (r=bif decide (0<n) then .tup [kaD a,kaD b,.int n]::r' else r'):=by
 intro ks l r i e hi;rw[List.drop_eq_getElem_cons hi] at e;have c:i<l.length:=by
  by_cases h:i<l.length
  ·exact h
  ·rw[List.drop_eq_nil_of_le (as:=l) ∅] at e;cases e
 rw[List.drop_eq_getElem_cons c] at e;rw[X9 hi,X9 c];refine ob e λp d e=>ob e λn e2 e=>ob e λr' e3 e=>?_;cases e;exact⟨p.1,p.2,n,r',by rw[two2_of d],by rw[jK e2],e3,rfl⟩
section
variable {R:RC}{Z Z':Zn}{H H':Hp}{pm:List Nat}
inductive CpP (R:RC) (Z0:Zn) (H0:Hp) (a:Addr) (ks:List<|List KA) (l all:List D) (i m:Nat) (σ2:L2.St) (H2:Hp):Prop
 | mk:m=ks.length-i->i<=ks.length->σ2.length=2->∀(Z2:Zn) (ys:List D) (vs:List V) (J7:List D),Go Z0 H0 [] Z2 H2 [a]->H2 a=some (.lst vs)->Reps R Z2 H2 ys vs []->kS (ks.drop i) (l.drop i)=some J7->all=ys++J7->ys.length<=i->CpP R Z0 H0 a ks l all i m σ2 H2
def jf7{J}{o}{r}{c}{ks}{l}{us}{all}(D:Zd r c)(hd:c J=some (.frz o<|.dT<|(ks.map<|List.map kaV).zip us))(ru:Reps R r c l us [])(E:ks.length=l.length)(hl:lim ks.length=true)(e:kS ks l=some all)
  {Q:VK}(k:∀{a}{Z'}{H'}{vs},Go r c [] Z' H' [a]->H' a=some (.lst vs)->Reps R Z' H' all vs []->Q (.ref a) H'):∀ a,c a=none ->
  jat (Vg<|tOp (rI0 λi j=>.bl<|decide<|j<i) (jU 1)<|tC<|.int 0) (zi<|jI (tOp (rIx R.K) (jU 0)<|tC<|.int 0)<|jI (tOp (rIx R.K) (jU 0)<|tC<|.int 1)<|jI (jU 1) JC) (jeq R.K 2<|JA (vX 0)<|JA (vX 1) je8) (jpC J o<|(ks.map<|List.map kaV).zip us) a [none,none] (upd c a<|.lst []) λH2=>Q (.ref a) H2:=by
 intro a ha;have N:us.length=ks.length:=by rw[ru.length];exact E.symm
 have v:((ks.map<|List.map kaV).zip us).length=ks.length:=by rw[List.length_zip,L1,N,Nat.min_self]
 have gp:Go r c [] r (upd c a<|.lst []) [a]:=Go.newO (wf0 D) ha;refine⟨CpP R r c a ks l all,
  ⟨ks.length,rfl,U6 _,rfl,r,[],[],all,gp,jh,Reps.empty,e,rfl,N0 _⟩,?_⟩
 rintro i m O H2 ⟨rfl,P,hσ,s,ys,vs,J7,g2,F,L,e3,C,y⟩;have hJ:H2 J=some (.frz o<|.dT<|(ks.map<|List.map kaV).zip us):=by rw[g2.same J<|by rw[hd];exact λz=>(nomatch z)];exact hd
 by_cases t:i<ks.length
 ·right
  refine⟨⟨hJ,by rw[v];exact t⟩,?_⟩;rintro u H3 ⟨p,kv,b,G,rfl,hp,hb,rfl⟩;obtain⟨d,g,n,r',hk,hn,e5,rfl⟩:=zO e3 t;obtain⟨w,hw,S⟩:=(g2.reps D ru).item hn;obtain⟨rfl,_⟩:=S.int_of;have hz:((ks.map<|List.map kaV).zip us)[i]?=some ([kaV d,kaV g],.int n):=by
   rw[List.getElem?_zip_eq_some];exact⟨by rw[List.getElem?_map,hk];rfl,hw⟩
  rw[hz] at G;cases G;have T:b≠p:=λz=>by rw[z,hp] at hb;cases hb
  have H:upd H2 p (.tup [.ref b,.int n]) b=some (.tup [kV<|kaV d,kV<|kaV g]):=by rw[je T];exact hb
  have g3:Go s H2 [] s (upd H2 p<|.tup [.ref b,.int n]) []:=(Go.newO (wf0 g2.wf.zd) hp).drop (λ_ h=>(nomatch h)) List.nodup_nil;refine⟨p,[.ref b,.int n],rfl,SqT.of jh,rfl,.ref b,[.int n],rfl,.int n,[],rfl,rfl,?_⟩;have s0:((O.set 0<|some<|.ref b).set 1 (some<|.int n))[0]?=some (some<|.ref b):=by
   rw[List.getElem?_set_ne<|by decide,List.getElem?_set_self ∅]
  have s1:((O.set 0<|some<|.ref b).set 1 (some<|.int n))[1]?=some (some<|.int n):=by
   rw[List.getElem?_set_self<|by rw[List.length_set];lia]
  have I:((O.set 0<|some<|V.ref b).set 1 (some<|V.int n)).length=2:=by simp[hσ]
  refine⟨.int n,s1,n,0,rfl,rfl,decide<|0<n,rfl,?_⟩;cases hpos:decide (0<n) with
  | true=>
   refine jet ?_;rw[hpos,cond_true] at C;refine⟨.ref b,s0,.inr<|.inl ⟨b,_,0,_,rfl,rfl,SqT.of H,rfl,⟨.ref b,s0,.inr<|.inl ⟨b,_,1,_,rfl,rfl,SqT.of H,rfl,?_⟩⟩⟩⟩;refine⟨.int n,s1,by show 3<=sizeLine;decide,λq hq=>?_⟩;have gq:Go s (upd H2 p<|.tup [.ref b,.int n]) [] (λx=>s x\/x=q) (upd (upd H2 p<|.tup [.ref b,.int n]) q<|.tup [kV<|kaV d,kV<|kaV g,.int n]) []:=Go.newF (wf0 g3.wf.zd) hq;have A:=g3.trans gq;have U:upd (upd H2 p<|.tup [.ref b,.int n]) q (.tup [kV<|kaV d,kV<|kaV g,.int n]) a=some (.lst vs):=by rw[A.same a<|by rw[F];exact λz=>(nomatch z)];exact F
   have W:vs.length<sizeLine:=by
    rw[L.length];exact VA<|X4<|N8 y<|N8 P<|X6 hl
   have M:Go r c [] (λx=>s x\/x=q) (upd (upd H2 p<|.tup [.ref b,.int n]) q<|.tup [kV<|kaV d,kV<|kaV g,.int n]) [a]:=by
    have f:=A.frame (B:=[]) ⇑g2.wf;exact g2.trans ⇑f
   have w6:=M.wf;have X:∀ x,(s x\/x=q)->upd (upd (upd H2 p<|.tup [.ref b,.int n]) q<|.tup [kV<|kaV d,kV<|kaV g,.int n]) a (.lst<|vs++[.ref q]) x=upd (upd H2 p<|.tup [.ref b,.int n]) q (.tup [kV<|kaV d,kV<|kaV g,.int n]) x:=λx Y=>je λz=>w6.nz a L7<|z▸Y;have rq:Rep R (λx=>s x\/x=q) (upd (upd H2 p<|.tup [.ref b,.int n]) q<|.tup [kV<|kaV d,kV<|kaV g,.int n]) (.tup [kaD d,kaD g,.int n]) (.ref q) []:=
    Rep.tupNew (wf0 g3.wf.zd) hq (Reps.cons (wo d)<|Reps.cons (wo g)<|Reps.cons .int_mk .empty)
   have rr:=((A.reps g2.wf.zd L).append (.one rq)).frame (λ_ z=>z) X (λx Y=>(nomatch Y));exact⟨vs,U,W,ks.length-(i+1),by lia,rfl,t,I,_,ys++[.tup [kaD d,kaD g,.int n]],vs++[.ref q],r',M.trans<|Go.put (o:=.lst<|vs++[.ref q]) w6 L7,jh,by simpa using rr,e5,by rw[C];simp,by rw[N5];exact Nat.add_le_add_right y 1⟩
  | false=>
   refine jgh ?_;rw[hpos,cond_false] at C;have M:Go r c [] s (upd H2 p<|.tup [.ref b,.int n]) [a]:=by
    exact g2.trans (by simpa using(g3.frame (B:=[]) ⇑g2.wf))
   exact⟨ks.length-(i+1),by lia,rfl,t,I,s,ys,vs,r',M,by rw[g3.same a<|by rw[F];exact λz=>(nomatch z)];exact F,g3.reps g2.wf.zd L,e5,C,Nat.le_succ_of_le y⟩
 ·left
  have Z:i=ks.length:=by lia
  refine⟨⟨hJ,by rw[v];lia⟩,?_⟩;rw[Z,List.drop_length,E,List.drop_length] at e3;cases e3;rw[N1] at C;subst C;exact k g2 F L
def jl5{i}:DE R (V3 (jnO<|jU i) (jeq R.K 2<|JA (vX 0)<|JA (vX 1) je8) (Vg<|tOp (rI0 λi j=>.bl<|decide<|j<i) (jU 1)<|tC<|.int 0) (zi<|jI (tOp (rIx R.K) (jU 0)<|tC<|.int 0)<|jI (tOp (rIx R.K) (jU 0)<|tC<|.int 1)<|jI (jU 1) JC) [none,none]) (jnQ i):=by
 intro σ ρ N Z H O d w s e Q k;refine ob e λx e5 e=>ob e λq D e=>?_;obtain⟨p,l⟩:=q;cases QN D;have t:=Ys e5;refine oc e λf e=>ob e λall e7 e=>?_;cases e;obtain⟨A,P,B,rfl,E,_,k3⟩:=s.put (L9.mp t).1;obtain⟨v,F,r⟩:=E _ t;obtain⟨c,u,S,rfl,y,n,G,rfl⟩:=r;cases y.nil (YE e7).1;refine⟨.ref c,F,c,_,rfl,G,λo=>?_⟩;have I:Go Z H (A++[c]++B) Z (upd H c<|.frz o<|.dT<|(p.map<|List.map kaV).zip u) (A++[c]++B):=Go.put w (by simp);have nd:=w.nd;have ct:=List.nodup_iff_count.mp nd c;simp only[U9,List.count_cons,List.count_nil,beq_self_eq_true,if_true] at ct;have pos:∀{m:W5},c∈m->0<m.count c:=List.count_pos_iff.mpr;have J:∀ b∈A++B,b≠c:=λb hb z=>by subst z;have:=pos hb;rw[U9] at this;lia
 have C:∀ q,(A++B).count q<=(A++[c]++B).count q:=λq=>by simp only[U9];lia
 have h:=I.drop (jao C)<|YT C nd;have g:∀ b,Z b->upd H c (.frz o<|.dT<|(p.map<|List.map kaV).zip u) b=H b:=λb hb=>je λz=>w.nz c (by simp)<|z▸hb;exact jf7 h.wf.zd jh (y.frame (λ_ z=>z) g λb hb=>(nomatch hb)) n f e7 λ{a T U vs} g2 L M=>(k (h.trans<|g2.widen h.wf) ⟨a,vs,[],rfl,M,L,rfl⟩<|g2.slots h.wf.zd<|k3.frame (λ_ z=>z) g λb hb=>je<|J b hb)
end
section
variable {cl:Nat->Addr}{pm:List Nat}{X:Cx}{pos p:Pos}
def joQ{i}{x}{scope}{N'}{elt tg c:Expr}{elts}{m}{tpos apos cpos}(B:BlockOk X scope N' [none,none])(e:X.calm=true)(f:QB cl X (.Name x p) (jU i)<|pV i)
  (g:∀ C s H fp,PG (j7 X scope N' C s H fp) (.Tuple elts m tpos)<|jeq X.K 2<|JA (vX 0)<|JA (vX 1) je8)
  (d:∀ C s H fp,PT (j7 X scope N' C s H fp) c<|Vg<|tOp (rI0 λi j=>.bl<|decide<|j<i) (jU 1)<|tC<|.int 0)
  (h:∀ C s H fp,PE (j7 X scope N' C s H fp) elt<|zi<|jI (tOp (rIx X.K) (jU 0)<|tC<|.int 0)<|jI (tOp (rIx X.K) (jU 0)<|tC<|.int 1)<|jI (jU 1) JC)
  (a:attributeBase (.Name x p) "items" X.env (eval (.Name x p) X.env)=eval (.Name x p) X.env:=by rfl) (b:(apos.endLine==cpos.line)=true:=by rfl)
  (k:∀ z,foldedSetIterable (.Call (.Attribute (.Name x p) "items" apos) [] [] cpos) X.env z=pure z:=by intro _;rfl):
  QE cl X (.ListComp elt [⟨.Tuple elts m tpos,.Call (.Attribute (.Name x p) "items" apos) [] [] cpos,[c],0⟩] scope pos)
   (V3 (jnO<|jU i) (jeq X.K 2<|JA (vX 0)<|JA (vX 1) je8) (Vg<|tOp (rI0 λi j=>.bl<|decide<|j<i) (jU 1)<|tC<|.int 0) (zi<|jI (tOp (rIx X.K) (jU 0)<|tC<|.int 0)<|jI (tOp (rIx X.K) (jU 0)<|tC<|.int 1)<|jI (jU 1) JC) [none,none]) (jnQ i):=
 ⟨jbZ B e (jno f.sem a b) g (λC s H fp=>.inr ⟨c,rfl,d C s H fp⟩) h k,jl5⟩
end
noncomputable def jaJ:List D->List D->List D->List D
 | a::l,b::m,c::n=>.tup [a,b,c]::jaJ l m n
 | _,_,_=>[]
theorem Qv:∀{ns}{l}{vs}{O},Reps R Z H l vs O->ns.length=l.length->JF ns l f=some d->Ex2 λv P=>An3 ((ns.zip vs).lookup f=some v) (Rep R Z H d v P)<|∀ q,P.count q<=O.count q
 | [],l,vs,O,_,_,h=>by cases l<;>cases h
 | n::ns,[],vs,O,_,a,_=>by simp at a
 | n::ns,x::l,vs,O,r,a,h=>by
  obtain⟨v,b,c,i,rfl,rfl,r1,r2⟩:=r;rw[JF] at h;by_cases e:f=n
  ·rw[if_pos e] at h;cases h;exact⟨v,c,by rw[U8,List.lookup_cons,e];simp,r1,λq=>by rw[U9];lia⟩
  ·rw[if_neg e] at h;obtain⟨w,P,g,e2,e3⟩:=Qv r2 ⇑a h;refine⟨w,P,?_,e2,λq=>by have:=e3 q;rw[U9];lia⟩;rw[U8,List.lookup_cons,show(f==n)=false by simp[e]];exact g
theorem jag(j:f≠g):∀{ns}{l}{vs}{O},Reps R Z H l vs O->ns.length=l.length->JF ns l f=some d->JF ns l g=some c ->
  Ex4 λv P w Q=>An5 ((ns.zip vs).lookup f=some v) ((ns.zip vs).lookup g=some w) (Rep R Z H d v P) (Rep R Z H c w Q)<|∀ q,P.count q+Q.count q<=O.count q
 | [],l,vs,O,_,_,h,_=>by cases l<;>cases h
 | n::ns,[],vs,O,_,m,_,_=>by simp at m
 | n::ns,x::l,vs,O,r,m,h,k=>by
  obtain⟨v,s,p,u,rfl,rfl,r1,r2⟩:=r;rw[JF] at h k;by_cases e:f=n
  ·have i:g≠n:=λz=>j<|e.trans z.symm;rw[if_pos e] at h;rw[if_neg i] at k;cases h;obtain⟨w,Q,o,e2,e3⟩:=Qv r2 ⇑m k;refine⟨v,p,w,Q,by rw[U8,List.lookup_cons,e];simp,?_,r1,e2,λq=>by have:=e3 q;rw[U9];lia⟩;rw[U8,List.lookup_cons,show(g==n)=false by simp[i]];exact o
  ·rw[if_neg e] at h;by_cases i:g=n
   ·rw[if_pos i] at k;cases k;obtain⟨w,Q,o,e2,e3⟩:=Qv r2 ⇑m h;refine⟨w,Q,v,p,?_,by rw[U8,List.lookup_cons,i];simp,e2,r1,λq=>by have:=e3 q;rw[U9];lia⟩;rw[U8,List.lookup_cons,show(f==n)=false by simp[e]];exact o
   ·rw[if_neg i] at k;obtain⟨a,P,b,Q,o,e2,e3,t,e5⟩:=jag j r2 ⇑m h k;refine⟨a,P,b,Q,?_,?_,e3,t,λq=>by have:=e5 q;rw[U9];lia⟩
    ·rw[U8,List.lookup_cons,show(f==n)=false by simp[e]];exact o
    ·rw[U8,List.lookup_cons,show(g==n)=false by simp[i]];exact e2
@[simp] def jku(i:Nat)(c:Nat)(f:Str)(g:Str)(pe:PF)(ρ:Rh):Option (D×Rh):=(pV i ρ).bind λt=>(xk t).bind λy=>bif y.1==c&&!decide (f=g) then(JF y.2.1 y.2.2 f).bind λa=>(JF y.2.1 y.2.2 g).bind λb=>(pe ρ).bind λr=>some (.tup [a,r,b],ρ.set i none) else none
def jk6(L:Cls R.K<|R.cls c)(Y:NoAttr R.K (R.cls c) f)(hg:NoAttr R.K (R.cls c) g)(he:PP R te pe):DE R (zi<|jI (jer R.K (jU i) f)<|jI te<|jI (jer R.K (jU i) g) JC) (jku i c f g pe):=by
 intro σ ρ ρ' Z H O d w s e Q k;refine ob e λt e1 e=>ob e λ⟨c',ns,l⟩ e2 e=>oc e λE e=>ob e λa e3 e=>ob e λb e4 e=>ob e λr e5 e=>?_;cases e;cases JS e2;have M:=Ys e1;rw[M0] at E;obtain rfl:c'=c:=by simpa using E.1
 have F:f≠g:=by simpa using E.2
 obtain⟨A,P,B,rfl,k1,_,k3⟩:=s.put (L9.mp M).1;obtain⟨v,N,rp⟩:=k1 _ M;obtain⟨x,S,vs,G,rfl,rs,I,T,rfl⟩:=rp;obtain⟨m,Pf,n,Pg,lf,lg,rf,rg,cn⟩:=jag F rs I e3 e4;refine⟨.ref x,N,x,_,S,_,m,rfl,T,L,Y,lf,(he w.zd s e5 λ{p o j D} u r1=>?_)⟩;refine⟨.ref x,N,x,_,S,_,n,rfl,u.at0 T,L,hg,lg,by show 3<=sizeLine;decide,λq U=>?_⟩;have J:=u.widen w;have gN:Go o j (D++(A++(x::G)++B)) (λy=>o y\/y=q) (upd j q<|.tup [m,p,n]) (D++(A++(x::G)++B)):=Go.newF J.wf U;have ne:∀ y,j y≠none->y≠q:=λy h e=>h<|e▸U;have zn:∀ y,o y->upd j q (.tup [m,p,n]) y=j y:=λy C=>je<|ne y<|J.wf.zd y C;have up:∀{d}{v}{V},Rep R o j d v V->Rep R (λy=>o y\/y=q) (upd j q<|.tup [m,p,n]) d v V:=λW=>W.frame (λ_ z=>.inl z) zn λy C=>je<|ne y<|W.dom y C;have s1:=(u.slots w.zd k3);have s2:Slots R (λy=>o y\/y=q) (upd j q<|.tup [m,p,n]) (ρ.set i none) σ (A++B):=s1.frame (λ_ z=>.inl z) zn λy C=>je<|ne y<|s1.dom y C;have X:∀ y,((Pf++(D++Pg))++(A++B)).count y<=(D++(A++(x::G)++B)).count y:=λy=>by
  have:=cn y;simp only[U9,List.count_cons];lia
 refine k ((J.trans gN).drop (jao X) (YT X gN.wf.nd)) ⟨q,[m,p,n],rfl,.inl ⟨.inr rfl,.inl jh⟩,?_⟩ s2;have:=Reps.cons (up<|u.rep w.zd rf)<|Reps.cons (up r1)<|Reps.one<|up<|u.rep w.zd rg;simpa using this
def jnU{cl}{X}{e}{te}{pe}{pos p}{i k}{x f g}{m}{p2 b a}(n:Cls X.K<|cl k)(o:NoAttr X.K (cl k) f)(q:NoAttr X.K (cl k) g)(r:QB cl X (.Name x p) (jU i)<|pV i)(l:QP cl X e te pe)(c:QB cl X (.Name x p2) (jU i)<|pV i)
  (hb:attributeBase (.Name x p) f X.env (eval (.Name x p) X.env)=eval (.Name x p) X.env:=by rfl) (d:attributeBase (.Name x p2) g X.env (eval (.Name x p2) X.env)=eval (.Name x p2) X.env:=by rfl)
  (s:starEach [.Attribute (.Name x p) f b,e,.Attribute (.Name x p2) g a] X.env=(false,eval (.Attribute (.Name x p) f b) X.env)::starEach [e,.Attribute (.Name x p2) g a] X.env:=by rfl)
  (h:starEach [e,.Attribute (.Name x p2) g a] X.env=(false,eval e X.env)::starEach [.Attribute (.Name x p2) g a] X.env:=by rfl)
  (j:starEach [.Attribute (.Name x p2) g a] X.env=(false,eval (.Attribute (.Name x p2) g a) X.env)::starEach [] X.env:=by rfl):
  QE cl X (.Tuple [.Attribute (.Name x p) f b,e,.Attribute (.Name x p2) g a] m pos) (zi<|jI (jer X.K (jU i) f)<|jI te<|jI (jer X.K (jU i) g) JC) (jku i k f g pe):=
 ⟨Jg<|jE (ux r.sem hb) (jE l.sem (jE (ux c.sem d) vI j) h) s,jk6 n o q l.den⟩
end QD
namespace QD
open PySem L2
def jkB(B:BlockOk X scope N' [none,none])(e:X.calm=true)(f:QB cl X (.Name x p) (jU i)<|pV i)
  (h:∀ C s H fp,QG cl [] (j7 X scope N' C s H fp) (.Tuple elts m tpos) (jeq X.K 2<|JA (vX 0)<|JA (vX 1) je8) g)
  (d:∀ C s H fp,QT cl (j7 X scope N' C s H fp) c (Vg<|tOp (rI0 λi j=>.bl<|decide<|j<i) (jU 1)<|tC<|.int 0) q)
  (k:∀ C s H fp,QP cl (j7 X scope N' C s H fp) elt (zi<|jI (tOp (rIx X.K) (jU 0)<|tC<|.int 0)<|jI (tOp (rIx X.K) (jU 0)<|tC<|.int 1)<|jI (jU 1) JC) pe)
  (a:attributeBase (.Name x p) "items" X.env (eval (.Name x p) X.env)=eval (.Name x p) X.env:=by rfl) (b:(apos.endLine==cpos.line)=true:=by rfl)
  (l:∀ z,foldedSetIterable (.Call (.Attribute (.Name x p) "items" apos) [] [] cpos) X.env z=pure z:=by intro _;rfl):
  QE cl X (.ListComp elt [⟨.Tuple elts m tpos,.Call (.Attribute (.Name x p) "items" apos) [] [] cpos,[c],0⟩] scope pos)
   (V3 (jnO<|jU i) (jeq X.K 2<|JA (vX 0)<|JA (vX 1) je8) (Vg<|tOp (rI0 λi j=>.bl<|decide<|j<i) (jU 1)<|tC<|.int 0) (zi<|jI (tOp (rIx X.K) (jU 0)<|tC<|.int 0)<|jI (tOp (rIx X.K) (jU 0)<|tC<|.int 1)<|jI (jU 1) JC) [none,none]) (jnQ i):=
 joQ (tg:=elt) B e f (λC s H fp=>(h C s H fp).sem) (λC s H fp=>(d C s H fp).sem) (λC s H fp=>(k C s H fp).sem) a b l
end QD
namespace L2
open PySem PySem.Spec PyProof.Rows
end L2
namespace QD
open PySem L2 PySem.Spec PyProof.Rows
mutual
noncomputable def pln:D->Bool
 | .tup l=>jnL l
 | .non=>true | .bl _=>true | .int _=>true | .str _=>true
 | .lst _ _=>false | .dK _ _ _=>false | .dT _ _ _=>false | .ins _ _ _ _=>false | .dead=>false | .tok _=>false | .kt _=>false | .exc _ _=>false
noncomputable def jnL:List D->Bool
 | []=>true
 | d::l=>pln d&&jnL l
end
mutual
theorem Rep.cutA{a:Addr}(ha:∀ vs,¬ Rd H a (.tup vs))(hH:∀ b,b≠a->H' b=H b):∀{d:D}{v:V}{O:W5},pln d=true->Rep R Z H d v O->Rep R (λb=>Z b/\b≠a) H' d v O
 | .non,_,_,_,r=>by rw[Rep] at r ⊢;exact r
 | .bl _,_,_,_,r=>by rw[Rep] at r ⊢;exact r
 | .int _,_,_,_,r=>by rw[Rep] at r ⊢;exact r
 | .str _,_,_,_,r=>by rw[Rep] at r ⊢;exact r
 | .tup l,_,_,h,r=>by
  rw[pln] at h;rw[Rep] at r ⊢;obtain⟨p,vs,e,t,r⟩:=r;refine⟨p,vs,e,?_,Reps.cutA ha hH h r⟩;rcases t with⟨z,t⟩ | t
  ·have ne:p≠a:=λq=>ha vs<|q▸t;exact .inl ⟨⟨z,ne⟩,Rd.agree (hH p ne) t⟩
  ·exact .inr t
 | .lst _ _,_,_,h,_=>by rw[pln] at h;cases h
 | .dK _ _ _,_,_,h,_=>by rw[pln] at h;cases h
 | .dT _ _ _,_,_,h,_=>by rw[pln] at h;cases h
 | .ins _ _ _ _,_,_,h,_=>by rw[pln] at h;cases h
 | .dead,_,_,h,_=>by rw[pln] at h;cases h
 | .tok _,_,_,h,_=>by rw[pln] at h;cases h
 | .kt _,_,_,h,_=>by rw[pln] at h;cases h
 | .exc _ _,_,_,h,_=>by rw[pln] at h;cases h
theorem Reps.cutA{a:Addr}(ha:∀ vs,¬ Rd H a (.tup vs))(hH:∀ b,b≠a->H' b=H b):∀{l:List D}{vs:List V}{O:W5},jnL l=true->Reps R Z H l vs O->Reps R (λb=>Z b/\b≠a) H' l vs O
 | [],_,_,_,r=>by rw[Reps] at r ⊢;exact r
 | d::l,_,_,h,r=>by
  rw[jnL,M0] at h;rw[Reps] at r ⊢;obtain⟨v,vs',O1,O2,e1,e2,r1,r2⟩:=r;exact⟨v,vs',O1,O2,e1,e2,Rep.cutA ha hH h.1 r1,Reps.cutA ha hH h.2 r2⟩
end
def jaM(i:Nat):FS:=λρ=>match ρ[i]? with
 | some (some (.lst true l))=>bif frzs l then some (.nx<|ρ.set i<|some<|.lst true []) else none
 | _=>none
def jh5:DS R pm (JV<|jpl R.K "list" jbQ<|jU i) (jaM i):=by
 intro σ ρ Z H O o w s e t k;unfold jaM at e;split at e
 ·rename_i l d;refine oc e λh e=>?_;cases e;obtain⟨A,P,B,rfl,j,k2,_⟩:=s.put (L9.mp d).1;obtain⟨v,f,r⟩:=j _ d;obtain⟨a,vs,u,rfl,m,g,rfl⟩:=r;have n:=m.nil h;subst n;refine⟨.ref a,f,.inl ⟨rfl,vs,SqL.of g⟩,⟨a,vs,rfl,rfl,g,?_⟩⟩;have p:Go Z H (A++[a]++B) Z (upd H a<|.lst []) (A++[a]++B):=Go.put w (by simp);have c:∀ b,Z b->upd H a (.lst []) b=H b:=λb hb=>je λz=>w.nz a (by simp)<|z▸hb;have nd:=w.nd;simp only[X0,N3,List.nodup_cons,M5,not_or] at nd;have q:Rep R Z (upd H a<|.lst []) (.lst true []) (.ref a) [a]:=by
   exact⟨a,[],[],rfl,.empty,jh,rfl⟩
  have s2:=k2 q (λb hb=>hb) c (λb hb=>je λz=>by subst z;exact(nd.1.2.2 b hb b<|.inl rfl) rfl) (λb hb=>je λz=>by subst z;exact(nd.2.2 b (.inr<|.inl rfl) b hb) rfl);rw[yE f] at s2;exact k p s2<|Keep.refl _ _
 ·cases e
def jiL(c:QB cl X (.Name x xpos) (jU i)<|pV i)
  (a:attributeBase (.Name x xpos) "clear" X.env (eval (.Name x xpos) X.env)=eval (.Name x xpos) X.env:=by rfl) (b:(apos.endLine==cpos.line)=true:=by rfl)
  (hsw:swapsWith (.Call (.Attribute (.Name x xpos) "clear" apos) [] [] cpos) none pos.line X.env=pure false:=by rfl):
  QS cl pm X (.Expr (.Call (.Attribute (.Name x xpos) "clear" apos) [] [] cpos) pos) (JV<|jpl X.K "list" jbQ<|jU i) (jaM i):=
 ⟨Yw (jmE PySem.F.plainAttrs_list PySem.F.slot_list_clear PySem.F.type_list_clear jeB c.sem a b) hsw,jh5⟩
@[simp] def sLClr_e:jaM i ρ=(pV i ρ).bind λx=>(K3 x).bind λl=>bif frzs l then some (.nx<|ρ.set i<|some<|.lst true []) else none:=by
 unfold jaM pV;cases h:ρ[i]? with
 | none=>rfl
 | some o=>cases o with
  | none=>rfl
  | some x=>cases x with
   | lst o l=>cases o<;>rfl
   | _=>rfl
def jpL(K:W4)(mg:W6)(x:Str)(st:Stmt)(ps:List Str):Prop:=∃ f fd,FnFact K mg x x st f fd ps
def jpM(K:W4)(C:Addr)(x qual:Str)(st:Stmt)(ps:List Str):Prop:=∃ f fd,MtFact K C x qual st f fd ps
section
variable {K:W4}{mg:W6}{h:Heap}{x qual:Str}{st:Stmt}{ps:List Str}{a C:Addr}{od an:Option Addr}{sl:Array (Option Value)}{oc kV dc pm cd ct:Value}
def hasF(X:K.In h)(G:h.Ns mainGlobals mg)(c:PySem.W.nsIn K mainGlobals x=some (some<|.ref a))(e2:K.lookup a=some ⟨oc,od,.func<|PySem.W.fnOf x x (qF st) (vO st) (jD st) .none kV dc pm an cd ct,sl⟩)(e3:PySem.W.codeIn K cd x=true)(b:PySem.W.keepIn K (.ref a)=true)
  (hb:∀ kV doc pm an cdv ct us,us.length=ps.length->bindArgs (PySem.W.fnOf x x (qF st) (vO st) (jD st) .none kV doc pm an cdv ct) ⟨us,[]⟩=pure (ps.zip us)):jpL K mg x st ps:=⟨_,_,jae e2 e3 b,PySem.W.mg_of X G c,(jae e2 e3 b).binds hb⟩
def hasM(c:PySem.W.findIn K (.ref C) x=some (some<|.ref a))(e5:PySem.W.isFn K (.ref a)=true)(e2:K.lookup a=some ⟨oc,od,.func<|PySem.W.fnOf x qual (qF st) (vO st) (jD st) .none kV dc pm an cd ct,sl⟩)(e3:PySem.W.codeIn K cd qual=true)(b:PySem.W.keepIn K (.ref a)=true)
  (hb:∀ kV doc pm an cdv ct us,us.length=ps.length->bindArgs (PySem.W.fnOf x qual (qF st) (vO st) (jD st) .none kV doc pm an cdv ct) ⟨us,[]⟩=pure (ps.zip us)):jpM K C x qual st ps:=⟨_,_,jae e2 e3 b,⟨c,e5,b⟩,(jae e2 e3 b).binds hb⟩
end
def fsc{N ps}{h}(a:h.kind=.function:=by rfl)(b:h.isCoroutine=false:=by rfl)(c:h.isGenerator=false:=by rfl)(d:N.Nodup:=by decide +kernel)(e:N.take ps.length=ps:=by rfl)
  (f:∀ x∈ps,h.names.lookup x=some .local\/h.names.lookup x=some .cell:=by decide +kernel) (g:∀ y∈h.names,y.2≠.free:=by decide +kernel):FnScope N ps h:=⟨a,b,c,d,e,f,g⟩
def jeY(K:W4)(mg:W6)(x:Str)(st:Stmt)(N:List Str)(n:Nat):Prop:=FnScope N (N.take n) (jD st)/\jpL K mg x st (N.take n)
def jmJ(K:W4)(C:Addr)(x qual:Str)(st:Stmt)(N:List Str)(n:Nat):Prop:=FnScope N (N.take n) (jD st)/\jpM K C x qual st (N.take n)
section
variable (P:Program)(w:World)(cl:Nat->Addr){K:W4}{mg:W6}{C:Addr}{x qual:Str}{st:Stmt}{N:List Str}{n:Nat}
abbrev NP(_:jeY K mg x st N n)(k:Nat)(m:List D->Option D):Prop:=OkF P w K mg x st k (N.take n)<|spP ⟨K,cl⟩ m n
abbrev NM(_:jeY K mg x st N n)(k:Nat)(m:List D->Option (D×D)):Prop:=OkF P w K mg x st k (N.take n)<|spM ⟨K,cl⟩ m n 0
abbrev OP(mg:W6)(_:jmJ K C x qual st N n)(k:Nat)(m:List D->Option D):Prop:=OkM P w K mg C x qual st k (N.take n)<|spP ⟨K,cl⟩ m n
abbrev OM(mg:W6)(_:jmJ K C x qual st N n)(k:Nat)(m:List D->Option (D×D)):Prop:=OkM P w K mg C x qual st k (N.take n)<|spM ⟨K,cl⟩ m n 0
end
section
variable {P:Program}{w:World}{k:Nat}{sp:Sp}{K:W4}{mg:W6}{C:Addr}{x qual:Str}{st:Stmt}{N:List Str}{n:Nat}
def okN(h:jeY K mg x st N n)(g:∀ f fd,FnScope N (N.take n) (jD st)->FnFact K mg x x st f fd (N.take n)->∀ base,FnOk P w K mg base CX0 k f fd (N.take n) sp):OkF P w K mg x st k (N.take n) sp:=by
 obtain⟨S,f,fd,F⟩:=h;exact⟨f,fd,F,g f fd S F⟩
def okO(h:jmJ K C x qual st N n)(g:∀ f fd,FnScope N (N.take n) (jD st)->MtFact K C x qual st f fd (N.take n)->∀ base,FnOk P w K mg base CX0 k f fd (N.take n) sp):OkM P w K mg C x qual st k (N.take n) sp:=by
 obtain⟨S,f,fd,F⟩:=h;exact⟨f,fd,F,g f fd S F⟩
end
def u0{α:Type}{P:List α->Prop}(h:P []):∀ us:List α,us.length=0->P us
 | [],_=>h
def uS{α:Type}{P:List α->Prop}{n}(h:∀ a,∀ us:List α,us.length=n->P (a::us)):∀ us:List α,us.length=n+1->P us
 | a::us,e=>h a us<|Nat.succ.inj e
def jeN{a b}(h:a)(k:a->b):a/\b:=⟨h,k h⟩
section
variable {cl:Nat->Addr}{X:Cx}{pos:Pos}{x:Str}{scope:Scope}{N':List Str}{i:Nat}
def qS{j}{l}(h:x=S l:=by decide +kernel):QP cl X (.Constant (.str x) j pos) (tC<|.str x) (pS l):=jod l h
def qI{i}{j}:QB cl X (.Constant (.int i) j pos) (tC<|.int i) (pI i):=QP.bb jnx
end
end QD
namespace L2
open PySem PySem.Spec PyProof.Rows
end L2
namespace QD
open PySem L2 PySem.Spec PyProof.Rows
noncomputable def blN(N:List Str):List (Option Nat)->List Str->List Str
 | [],_=>[]
 | none::l,xs=>xs.headD ""::blN N l xs.tail
 | some j::l,xs=>N.getD j ""::blN N l xs
noncomputable def jpS(sc:Scope):List Str:=(sc.names.filter λy=>decide (y.2=.local)||decide (y.2=.cell)).tail.map (·.1)
def bkN(_:FnScope N ps sc)  (h1:X.env.scope=sc:=by rfl) (h2:X.N=N:=by rfl) (h:Qh sc N scope (blN N ix<|jpS scope) ix=true:=by decide +kernel):BlockOk X scope (blN N ix<|jpS scope) ix:=jjz sc N h1 h2 h
def jo0{p:PAf}{n}(h:∀ ρ ds,p ρ=some ds->ds.length=n):∀ ρ ds,p ρ=some ds->ds.length+1=n+1:=λρ ds e=>by rw[h ρ ds e]
def ndN(h:N'.Nodup):(j7 X scope N' C s H fp).N.Nodup:=h
section
open Classical in
end
def okR{P:Program}{w:World}{K:W4}{mg:W6}{cl:Nat->Addr}{x:Str}{st:Stmt}{N:List Str}{n:Nat}{r:Nat->List D->Option D}(h:jeY K mg x st N n)(a:∀ ds,r 0 ds=none)
  (g:∀ j f fd,FnScope N (N.take n) (jD st)->FnFact K mg x x st f fd (N.take n)->OkF P w K mg x st j (N.take n) (spP ⟨K,cl⟩ (r j) n)->∀ base,FnOk P w K mg base CX0 (j+1) f fd (N.take n)<|spP ⟨K,cl⟩ (r<|j+1) n) (k:Nat):OkF P w K mg x st k (N.take n) (spP ⟨K,cl⟩ (r k) n):=by
 obtain⟨S,f,fd,F⟩:=h;refine⟨f,fd,F,?_⟩
 induction k with
 | zero=>exact λbase=>by rw[show r 0=λ_=>none from funext a];exact jim
 | succ j b=>exact g j f fd S F ⟨f,fd,F,b⟩
end QD
namespace QD
open PySem L2
def jfG(c:X.K=K)(O:OkF X.prog X.w X.K X.mg x st k ps<|spM ⟨X.K,cl⟩ m n j)(d:Room k X.A)
  (f:QJ cl X i j (e::es) tr pr) (g:(e::es).length=n:=by rfl) (h:Gl X x:=by rfl) (a:Nd x:=by decide)
  (l:SEq X e es:=by rfl) (b:BkE X pos es:=by rfl):QE cl X (.Call (.Name x p) (e::es) [] pos) (qM (spM ⟨K,cl⟩ m n j) [] E0 tr) (j8 m i j pr):=by
 subst c;obtain⟨_,_,F,G⟩:=O;exact jip F (G _) d f g h a l b
abbrev NJ(P:Program)(w:World)(cl:Nat->Addr){K}{mg}{x}{st}{N}{n}(_:jeY K mg x st N n)(k:Nat)(j:Nat)(m:List D->Option (D×D)):Prop:=OkF P w K mg x st k (N.take n)<|spM ⟨K,cl⟩ m n j
noncomputable def jnI:D->Option (List KA)
 | .kt k=>some k
 | _=>none
def jcG(h:jnI d=some k):d=.kt k:=by
 cases d with
 | kt b=>cases h;rfl
 | _=>cases h
@[simp] def ktOf_kt(k):jnI (.kt k)=some k:=rfl
@[simp] def pKt(i:Nat)(ρ:Rh):Option (List KA):=(pV i ρ).bind jnI
def jiF:jht R (jU i) (pKt i):=by
 intro σ ρ Z H O k z s e Q go;refine ob e λd b e=>?_;cases jcG e;refine jgI z s b λ{v g h j} c r1=>?_;obtain⟨a,rfl,za,f,_⟩:=r1;exact go c za f
def jqv(a:PB R ta pa)(hb:PB R tb pb):jht R (jbY ta tb) (jf3 pa pb):=by
 intro σ ρ Z H O k z s e Q go;exact JH a hb z s e go
@[simp] def jnH(pk:Rh->Option (List KA))(ρ:Rh):Option (D×Rh):=(pk ρ).bind λk=>some (.kt k,ρ)
def jnC(b:jht R tk pk):DE R tk (jnH pk):=by
 intro σ ρ i Z H O d w s e Q k;refine ob e λc f e=>?_;cases e;refine b w.zd s f λ{p j l} a g h=>?_;exact k (a.widen w) (by rw[Rep];exact⟨p,rfl,g,h,rfl⟩)<|a.slots w.zd s
def jmM(l:List D):Option D:=(jeo l).bind λx=>(jcv x).bind λl=>(uc l).bind λns=>some<|.int ns.sum
def jiz:BC R (λxs H Q=>∃(p:Addr) (ns:List Int),xs=[.ref p]/\SqT R.K H p (ns.map V.int)/\Q (.int ns.sum) H) jmM:=by
 intro Z H xs d vs O z r e Q k;refine ob e λx a e=>ob e λl b e=>ob e λns c e=>?_;cases e;cases KI b;rw[kq a] at r;obtain⟨v,rfl,r1⟩:=r.one_of;obtain⟨p,ws,rfl,f,g⟩:=r1;have:=g.ints c;subst this;exact⟨p,ns,rfl,f.sq,k (Go.id z) .int_mk⟩
def jmY(a:QB cl X (.Name x pos) (jU i)<|pV i):QK3 cl X (.Name x pos) (jU i) (pKt i):=⟨a.sem,jiF⟩
def qk2{d}(c:QB cl X a ta pa)(hb:QB cl X b tb pb)(h1:starEach [a,b] X.env=(false,eval a X.env)::starEach [b] X.env:=by rfl)(h2:starEach [b] X.env=(false,eval b X.env)::starEach [] X.env:=by rfl):
  QK3 cl X (.Tuple [a,b] d tpos) (jbY ta tb) (jf3 pa pb):=⟨Jg<|jE c.sem (jE hb.sem vI h2) h1,jqv c.den hb.den⟩
def jgg(b:X.K=K)(O:OkF X.prog X.w X.K X.mg x st k ps<|spP ⟨X.K,cl⟩ m n)(c:Room k X.A)(d:0=n:=by rfl)(e:Gl X x:=by rfl)(a:Nd x:=by decide):QP cl X (.Call (.Name x p) [] [] pos) (qM (spP ⟨K,cl⟩ m n) [] E0 JC) (ju m pN):=by
 subst b;obtain⟨_,_,F,G⟩:=O;exact jin F (G _) c d e a
def jgB(c:X.K=K)(O:OkF X.prog X.w X.K X.mg x st k ps<|spP ⟨X.K,cl⟩ m n)(d:Room k X.A)
  (f:QDs cl X (e::es) tr fr) (g:∀ ρ r,fr ρ=some r->r.1.length=n) (h:Gl X x:=by rfl) (a:Nd x:=by decide)
  (i:SEq X e es:=by rfl) (b:BkE X pos es:=by rfl):QE cl X (.Call (.Name x p) (e::es) [] pos) (qM (spP ⟨K,cl⟩ m n) [] E0 tr) (vU m fr):=by
 subst c;obtain⟨_,_,F,G⟩:=O;exact jiy rfl F (G _) d f g h a i b
def jmg(h:QK3 cl X e tk pk):QE cl X e tk (jnH pk):=⟨h.sem,jnC h.den⟩
end QD
namespace QD
open PySem L2 PySem.Spec PyProof.Rows
noncomputable def sqD:D->Option (Bool×List D)
 | .lst _ l=>some (true,l)
 | .tup l=>some (false,l)
 | _=>none
def jjj:List D->Option (List<|Bool×List D)
 | []=>some []
 | d::ds=>(sqD d).bind λx=>(jjj ds).bind λxs=>some<|x::xs
def FB(R:RC)(Z:Zn)(H:Hp)(a:Addr):Bool->List V->Prop
 | true,w=>FL R Z H a w
 | false,w=>FT R Z H a w
def FB.frame(b:∀ a,Z a->Z' a)(c:∀ a,Z a->H' a=H a)(h:FB R Z H a k w):FB R Z' H' a k w:=by
 cases k with
 | true=>exact FL.frame b c h
 | false=>exact FT.frame b c h
def FB.sq(h:FB R Z H a k w):SqB R.K H a k w:=by
 cases k with
 | true=>exact FL.sq h
 | false=>exact FT.sq h
def jih(e:sqD d=some x)(r:Rep R Z H (fz d) v []):Ex2 λa w=>An3 (v=.ref a) (FB R Z H a x.1 w) (Reps R Z H (fzs x.2) w []):=by
 cases d with
 | lst o l=>
  cases e;obtain⟨a,w,g,rfl,b,c,rfl,_⟩:=r;exact⟨a,w,rfl,c,b⟩
 | tup l=>
  cases e;obtain⟨a,w,rfl,f,b⟩:=r;exact⟨a,w,rfl,f,b⟩
 | _=>cases e
structure Zr where
 a:Addr
 k:Bool
 w:List V
 l:List D
theorem jad:∀{ds}{xs}{vs},jjj ds=some xs->Reps R Z H (fzs ds) vs []->∃(zs:List Zr),An3 (zs.map (λz=>(z.k,z.l))=xs) (vs=zs.map (λz=>.ref z.a))<|∀ z∈zs,FB R Z H z.a z.k z.w/\Reps R Z H (fzs z.l) z.w []
 | [],xs,vs,e,r=>by
  cases e;exact⟨[],rfl,r.1,by simp⟩
 | d::ds,xs,vs,e,r=>by
  refine ob e λx b e=>ob e λn e2 e=>?_;cases e;obtain⟨v,c,o,p,rfl,f,r1,r2⟩:=r;obtain⟨rfl,rfl⟩:=List.append_eq_nil_iff.mp f.symm;obtain⟨a,w,rfl,g,h⟩:=jih b r1;obtain⟨zs,i,rfl,j⟩:=jad e2 r2;exact⟨⟨a,x.1,w,x.2⟩::zs,by rw[L5,i],rfl,λz m=>(M5.mp m).elim (λq=>by rw[q];exact⟨g,h⟩) (j z)⟩
theorem uz:∀{zs:List Zr}{us},us.length=zs.length->(∀(m:Nat) q,zs[m]?=some q->∃ u,us[m]?=some u/\Rep R Z H (g q) u [])->Reps R Z H (zs.map g) us []
 | [],[],_,_=>Reps.empty
 | [],_::_,h,_=>by simp at h
 | _::_,[],h,_=>by simp at h
 | q::zs,u::us,h,k=>by
  obtain⟨a,e,r⟩:=k 0 q rfl;cases e;exact Reps.cons r (uz ⇑h λm q e=>by have:=k (m+1) q ⇑e;simpa using this)
noncomputable def jpw(ls:List<|List D)(i:Nat):D:=.tup<|ls.map λl=>l.getD i .non
def jfO(m:Nat)(ds:List D):Option (List D):=(jjj ds).bind λxs=>bif decide (xs.length=m)&&(decide (0<m)&&xs.all λx=>decide<|(xs.headD (true,[])).2.length<=x.2.length) then some ((List.range (xs.headD (true,[])).2.length).map (jpw<|xs.map λx=>fzs x.2)) else none
@[simp] def pZN(m:Nat)(p:PAf)(ρ:Rh):Option (List D):=(p ρ).bind (jfO m)
def jhq(h:PPs R ta p):PIt R (iZN R.K m ta) (pZN m p):=by
 intro σ ρ Z H O W z s e Q k;refine ob e λX F e=>ob e λg e2 e=>oc e λj e=>?_;cases e;rw[M0,M0,List.all_eq_true] at j;have Y:=X6 j.2.1;refine h z s F λ{vs G H1 I} J r1=>?_;obtain⟨zs,n,rfl,r⟩:=jad e2<|r1.freeze (Z':=λa=>G a\/a∈I) (λa z=>.inl z) λa z=>.inr z;have A:zs.length=g.length:=by rw[<- n,L1]
 refine⟨zs.map λz=>(z.a,z.k),by rw[L1,A,X6 j.1],by rw[U2];rfl,λa d=>?_,k J.fz ?_⟩
 ·obtain⟨q,b,rfl⟩:=M7.mp d;exact⟨q.w,(r q b).1.sq⟩
 intro B t f C zd i;have fr:∀ q∈zs,SqB R.K t q.a q.k q.w/\Reps R B t (fzs q.l) q.w []:=λq b=>⟨((r q b).1.frame f C).sq,(r q b).2.frame f C λa d=>(nomatch d)⟩;refine⟨λhi=>?_,λx o=>?_⟩
 ·cases zs with
  | nil=>simp at A;lia
  | cons q zs=>
   refine⟨_,_,q.w,rfl,(fr q<|by simp).1,?_⟩;rw[L1,List.length_range] at hi;rw[(fr q<|by simp).2.length,vH];rw[<- n] at hi;exact hi
 ·rw[List.getElem?_map] at o;obtain⟨c,D,rfl⟩:=Option.map_eq_some_iff.mp o;have L:i<(g.headD (true,[])).2.length:=by have:=(L9.mp D).1;simpa using this
  have:c=i:=by have:=(L9.mp D).2;simpa using this.symm
  subst this;have get:∀ q∈zs,∃ u,q.w[c]?=some u/\Rep R B t ((fzs q.l).getD c .non) u []:=λq b=>by
   have l1:c<(fzs q.l).length:=by
    rw[vH];have:(g.headD (true,[])).2.length<=q.l.length:=(λx o=>X6<|j.2.2 x o) (q.k,q.l) (by rw[<- n];exact M7.mpr ⟨q,b,rfl⟩)
    lia
   have e3:(fzs q.l)[c]?=some ((fzs q.l).getD c .non):=by rw[List.getD_eq_getElem?_getD,X9 l1];rfl
   exact(fr q b).2.item e3
  refine⟨λa d=>?_,λu H3 M=>?_⟩
  ·obtain⟨q,b,rfl⟩:=M7.mp d;obtain⟨u,v,_⟩:=get q b;exact⟨q.w,u,(fr q b).1,v⟩
  ·obtain⟨pp,us,N,v,rfl,E,rfl⟩:=M;refine⟨_,Go.newF (wf0 zd) E,Rep.tupNew (wf0 zd) E ?_⟩;have P:(g.map λx=>fzs x.2).map (λl=>l.getD c .non)=zs.map λq=>(fzs q.l).getD c .non:=by rw[<- n,U2,U2];rfl
   rw[P];refine uz (by rw[N,L1]) λm q y=>?_;obtain⟨u,S,T⟩:=v m (q.a,q.k) (by rw[List.getElem?_map,y];rfl) q.w (fr q<|List.mem_of_getElem? y).1;obtain⟨u',U,V⟩:=get q<|List.mem_of_getElem? y;cases T.symm.trans U;exact⟨u,S,V⟩
def jlR(d:X.mg "zip" = none)(h:QPs cl X [a,b] tr pr)(e:Gl X "zip":=by rfl)(f:starEach [a,b] X.env=[(false,eval a X.env),(false,eval b X.env)]:=by rfl)(c:starEach [b] X.env=[(false,eval b X.env)]:=by rfl):
  QI cl X (.Tuple elts n tpos) (.Call (.Name "zip" p) [a,b] [] pos) (iZN X.K 2 tr) (pZN 2 pr):=⟨jme e d h.sem f c,jhq h.den⟩
def jkT(e:X.mg "zip" = none)(h:QPs cl X [a,b,c] tr pr)(f:Gl X "zip":=by rfl)(g:starEach [a,b,c] X.env=[(false,eval a X.env),(false,eval b X.env),(false,eval c X.env)]:=by rfl)(d:starEach [b,c] X.env=[(false,eval b X.env),(false,eval c X.env)]:=by rfl):
  QI cl X (.Tuple elts n tpos) (.Call (.Name "zip" p) [a,b,c] [] pos) (iZN X.K 3 tr) (pZN 3 pr):=⟨jkU f e h.sem g d,jhq h.den⟩
end QD
namespace QD
open PySem L2
theorem jaq:∀{l m},l.length<=m.length->(List.range l.length).map (jpw [l,m])=jcX l m
 | [],m,_=>by cases m<;>rfl
 | a::l,[],h=>by simp at h
 | a::l,b::m,h=>by
  rw[M3,List.range_succ_eq_map,L5,U2,jcX,<- jaq ⇑h];rfl
def jog(h1:sqD d=some (k,l))(h2:sqD e=some (k',m))(h:l.length<=m.length):jfO 2 [d,e]=some (jcX (fzs l)<|fzs m):=by
 have a:jjj [d,e]=some [(k,l),(k',m)]:=by simp[jjj,h1,h2]
 have e2:=jaq (l:=fzs l) (m:=fzs m) (by rw[vH,vH];exact h);rw[vH] at e2;unfold jfO;rw[a,L4,<- e2];simp[h]
theorem Q7:∀{l m n},l.length<=m.length->l.length<=n.length->(List.range l.length).map (jpw [l,m,n])=jaJ l m n
 | [],m,n,_,_=>by cases m<;>cases n<;>rfl
 | a::l,[],_,h,_=>by simp at h
 | a::l,b::m,[],_,h=>by simp at h
 | a::l,b::m,c::n,h,d=>by
  rw[M3,List.range_succ_eq_map,L5,U2,jaJ,<- Q7 ⇑h ⇑d];rfl
def jqy(h1:sqD d=some (k,l))(h2:sqD e=some (k',m))(a:sqD f=some (k2,n))(h:l.length<=m.length)(h':l.length<=n.length):jfO 3 [d,e,f]=some (jaJ (fzs l) (fzs m)<|fzs n):=by
 have b:jjj [d,e,f]=some [(k,l),(k',m),(k2,n)]:=by simp[jjj,h1,h2,a]
 have e2:=Q7 (l:=fzs l) (m:=fzs m) (n:=fzs n) (by rw[vH,vH];exact h) (by rw[vH,vH];exact h');rw[vH] at e2;unfold jfO;rw[b,L4,<- e2];simp[h,h']
end QD
namespace QD
open PySem L2 PySem.Spec PyProof.Rows
section
variable {R:RC}{Z Z':Zn}{H H':Hp}
def jqk(d:D):Option (List KA×D):=(jcv d).bind λl=>(two1 l).bind λp=>(jnI p.1).bind λk=>bif frz p.2 then some (k,p.2) else none
def wL:List D->Option (List<|List KA×D)
 | []=>some []
 | d::l=>(jqk d).bind λp=>(wL l).bind λr=>some<|p::r
def uL(ds:List D):Option D:=(jeo ds).bind λd=>(jjN d).bind λl=>(wL l).bind λps=>bif lim l.length then some (.dT true (jbP ps).1 (jbP ps).2) else none
structure KvA(R:RC)(Z:Zn)(H:Hp)(ys:List<|List KA×D)(vs:List V)(ps:List<|List Key×Addr×V):Prop where
 l:vs.length=ps.length
 i:∀(j:Nat) (v:V),vs[j]?=some v->∃ kv t,ps[j]?=some kv/\v=.ref t/\SqT R.K H t [.ref kv.2.1,kv.2.2]/\H kv.2.1=some (.tup<|kv.1.map kV)
 k:ps.map (·.1)=ys.map λy=>y.1.map kaV
 r:Reps R Z H (ys.map (·.2)) (ps.map (·.2.2)) []
def kva:∀{l:List D}{ys:List (List KA×D)}{vs:List V}{O:W5},wL l=some ys->Reps R Z H l vs O->∃ ps,KvA R Z H ys vs ps:=by
 intro l
 induction l with
 | nil=>
  intro ys vs O e r;cases e;rw[Reps] at r;obtain⟨rfl,_⟩:=r;exact⟨[],rfl,λj v h=>by simp at h,rfl,Reps.empty⟩
 | cons d l o=>
  intro ys vs O e r;rw[wL] at e;refine ob e λp c e=>ob e λs e2 e=>?_;cases e;refine ob c λt e3 c=>ob c λq x c=>ob c λk e5 c=>oc c λy c=>?_;cases c;rw[Reps] at r;obtain⟨v,z,E,F,rfl,_,r1,r2⟩:=r;obtain⟨ps,h⟩:=o e2 r2;rw[KI e3,two1_of x,jcG e5,Rep] at r1;obtain⟨a,ws,rfl,A,f⟩:=r1;rw[Reps] at f;obtain⟨w,B,G,I,rfl,_,g,f⟩:=f;rw[Rep] at g;obtain⟨b,rfl,_,hb,_⟩:=g;rw[Reps] at f;obtain⟨u,C,J,K,rfl,_,m,f⟩:=f;rw[Reps] at f;obtain⟨rfl,_⟩:=f;cases m.nil y;refine⟨(k.map kaV,b,u)::ps,by simp[h.l],λj v n=>?_,by simp[h.k],Reps.cons (O:=[]) (P:=[]) m h.r⟩;cases j with
  | zero=>cases n;exact⟨_,a,rfl,rfl,A.sq,hb⟩
  | succ j=>exact h.i j v n
def jft:BC R (wj R.K) uL:=by
 intro Z H A d vs O z r e Q k;refine ob e λx q e=>ob e λl e2 e=>ob e λs e3 e=>oc e λt e=>?_;cases e;rw[kq q] at r;obtain⟨o,rfl⟩:=Vc e2;obtain⟨v,rfl,r1⟩:=r.one_of;obtain⟨p,g,B,rfl,u,j⟩:=r1.lst_of;obtain⟨m,h⟩:=kva e3 j;obtain⟨c,w,y,f⟩:=zW (ps:=s) (ks:=[]) (l:=[]) (us:=[]) h.k h.r .empty rfl;refine⟨p,g,m,rfl,u.sq,h.l,?_,h.i,λD n=>?_⟩
 ·rw[<- h.l,j.length];exact X6 t
 ·refine k (Go.newO (wf0 z) n) ?_;rw[Rep];refine⟨D,c,[],rfl,w.frame (λa z=>z) (λb h=>je<|by rintro rfl;exact z _ h n)<|λa h=>(nomatch h),f,?_,rfl⟩;rw[jh];exact congrArg (λx=>some<|HO.dT x) y.symm
@[simp] def pKy(pa pb:PF)(ρ:Rh):Option D:=(jf3 pa pb ρ).bind λk=>some<|.kt k
def joq{ta tb:TE}{pa pb:PF}(a:PB R ta pa)(hb:PB R tb pb):PP R (jbY ta tb) (pKy pa pb):=by
 intro σ ρ Z H O d z s e Q k;refine ob e λc b e=>?_;cases e;exact JH a hb z s b λg f h=>k g (by rw[Rep];exact⟨_,rfl,f,h,rfl⟩)
end
section
variable {cl:Nat->Addr}{X:Cx}{a b e:Expr}{ta tb:TE}{pa pb:PF}{tr:TA}{pr:PAf}{pos:Pos}
def jqs{d}{tpos:Pos}(c:QB cl X a ta pa)(hb:QB cl X b tb pb)(h1:starEach [a,b] X.env=(false,eval a X.env)::starEach [b] X.env:=by rfl)(h2:starEach [b] X.env=(false,eval b X.env)::starEach [] X.env:=by rfl):
  QP cl X (.Tuple [a,b] d tpos) (jbY ta tb) (pKy pa pb):=⟨Jg<|jE c.sem (jE hb.sem vI h2) h1,joq (R:=⟨X.K,cl⟩) c.den hb.den⟩
def jiZ{k:Nat}{p:Pos}(c:Room k X.A)(d:X.calm=true)(f:X.mg "dict" = none)(g:bootBuiltins "dict" = some (.type "dict"))(b:QBs cl X [e] tr pr)(h:Gl X "dict":=by rfl)
  (i:starEach [e] X.env=(false,eval e X.env)::starEach [] X.env:=by rfl) (a:(backTo pos<|starEach [] X.env).any (·.1)=false:=by rfl):
  QP cl X (.Call (.Name "dict" p) [e] [] pos) (tCB (wj X.K) tr) (pCB uL pr):=⟨zM (r:=wj X.K) (wX d<|by have:=c.un;omega) h f g b.sem (by decide) (by decide) i a,jhs jft b.den⟩
end
end QD
namespace K50
set_option hygiene false
local macro_rules|`(‹$x›)=>`(some<|.lst false $x)|`(↑$x)=>`(some<|.lst true $x)
local macro_rules|`(#[])=>`(pN)|`(#[$x])=>`(ja $x pN)|`(#[$x,$y,*])=>`(ja $x #[$y,*])
open PySem L2 QD
noncomputable def top(i:Nat):Stmt:=PySem.Challenge.pw_tranchefall_k50_rows_of_claims.main.body.getD i<|.Pass ⟨0,0,0,0⟩
noncomputable def vD:D:=.tup [.str [112,97,114,116],.str [112,97,121],.str [115,104,97,114,101],.str [114,101,112,97,121],.str [114,101,115,116],.str [103,117,97,114,100]]
def Vy:FS:=(yb<|dP<|pCB jbS #[yi (Yz<|pV 0) (jc [] 0) qT (pF<|p2 jd (pV 0)<|pI 1) [none]])
def kZ:List D->Option D:=fnP 1 Vy
def yp:FS:=(sIf (dPT<|jj<|p2 kH (p2 jd (pV 2)<|pI 0)<|pV 1) (yb<|dP<|pF<|pV 2)
 jN)
def JZ:FS:=(jf (qh (pIt<|pF<|p2 jd (pV 0)<|pI 4) (jc [] 2) yp)<|yb<|dP<|pC .non)
def vE:List D->Option D:=fnP 3 JZ
def vi:FS:=(sIf (dPT<|jj<|p2 jpz (p2 yI (pV 1)<|pV 2)<|pV 3) (yb<|dP<|pF<|pV 4)
 jN)
def qL:FS:=(jf (qh (pIt<|pF<|p2 jd (pV 0)<|pI 5) (gT 3<|gC (jc [] 2)<|gC (jc [] 3)<|gC (jc [] 4) gN) vi)<|yb<|dP<|pF<|p2 jd (p2 jd (p2 jd (pV 0)<|pI 4)<|pI 0)<|pI 0)
def vm:List D->Option D:=fnP 5 qL
def qD:FS:=(yb<|dP<|pCB uL #[yi (Yz<|pV 0) (gT 3<|gC (jc [] 0)<|gC (jc [] 1)<|gC (jc [] 2) gN) qT (yF #[pKy (pV 0)<|pV 1,pF<|pV 2]) [none,none,none]])
def yn:List D->Option D:=fnP 1 qD
def Js:FS:=(sIf (dPT<|jj<|p2 kH (pV 2)<|pS [108,101,110,100]) (jjq 0 (pV 1) (pV 3)<|p2 jk (xE (pV 0) (pV 1) (pV 3)<|pI 0)<|pV 4)<|jf0 0 (pV 3) (pV 1) (λm n=>m-n)<|pV 4)
def yK:List D->Option (D×D):=fnM 5 0 Js
def qX:FS:=(sIf (dPT<|uQ (jj<|p2 YK (pV 4)<|pI 0)<|jj<|p2 jkv (p2 jd (pV 3)<|pV 5)<|pV 6) (jf (xr 3 (pV 5) (λi j=>i+j)<|pI 1)<|jfW [] 4 (λi j=>i-j)<|pI 1)
 jN)
def Qi:FS:=(jf (jt (dP<|pCB jbS #[pV 0])<|jc [] 2)<|jf (sIf (dPT<|jj<|p2 jpz (pV 1)<|pV 2) (yb<|dP<|pCB VX #[pV 0])
 jN)<|jf (jt (dP<|yi (Yz<|pV 0) (jc [] 0) qT (p2 jH (p2 yR (pV 1)<|pV 0)<|pV 2) [none,some 1,some 2])<|jc [] 3)<|jf (jt (dP<|p2 Yo (pV 1)<|pCB jbS #[pV 3])<|jc [] 4)<|jf (qh (Vn #[pF<|pV 0]) (gT 2<|gC (jc [] 5)<|gC (jc [] 6) gN) qX)<|yb<|dMv 3)
def qP:List D->Option D:=fnP 7 Qi
def jV:FS:=(jf (jt (dP<|pF<|p2 jd (pV 1)<|pI 0)<|jc [] 2)<|jf (jt (dP<|pF<|p2 jd (pV 1)<|pI 1)<|jc [] 3)<|jf (sIf (dPT<|jj<|p2 kH (pV 2)<|pS [112,97,121]) (yb<|dP<|pF<|p2 yI (Jt 0 "owed"<|pV 0)<|pV 3)
 jN)<|jf (sIf (dPT<|jj<|p2 kH (pV 2)<|pS [114,101,112,97,121]) (yb<|dP<|p2 jk (p2 yI (Jt 0 "owed"<|pV 0)<|pV 3)<|p2 yI (Jt 0 "sizes"<|pV 0)<|pV 3)
 jN)<|jf (sIf (dPT<|jj<|p2 kH (pV 2)<|pS [102,105,108,108]) (yb<|dP<|pCB jmy #[p2 Yo (p2 yI (Jt 0 "marks"<|pV 0)<|pV 3)<|p2 yI (Jt 0 "levels"<|pV 0)<|pV 3,pI 0])
 jN)<|jf (sIf (dPT<|jj<|p2 kH (pV 2)<|pS [108,101,110,100]) (yb<|dP<|pCB jmy #[p2 Yo (p2 jd (pV 1)<|pI 2)<|xE (Jt 0 "loans"<|pV 0) (Jt 0 "pool_name"<|pV 0) (pV 3)<|pI 0,pI 0])
 jN)<|jf (sIf (dPT<|jj<|p2 kH (pV 2)<|pS [98,97,99,107]) (yb<|dP<|pF<|xE (Jt 0 "loans"<|pV 0) (pV 3) (Jt 0 "pool_name"<|pV 0)<|pI 0)
 jN)<|yb<|dP<|pF<|Jt 0 "cash"<|pV 0)
def jg:List D->Option D:=fnP 4 jV
def vf:FS:=(jf (jt (dP<|pF<|p2 yI (Jt 0 "owed"<|pV 0)<|pV 3)<|jc [0] 4)<|jf (jt (dP<|pCB xB #[pV 4,p2 yI (Jt 0 "levels"<|pV 0)<|pV 2])<|jc [0] 5)<|jf (vA 0 (qW 0 "levels" kB) (pV 2) (λm n=>m-n)<|pV 5)<|jf (vA 0 (qW 0 "owed" kB) (pV 3) (λm n=>m-n)<|pV 5)<|qf 0 (qW 0 "entries" kB)<|yF #[pF<|pV 1,pS [103,117,97,114,100],pF<|pV 3,pF<|pV 4,pF<|pV 5])
def yu:List D->Option (D×D):=fnM 6 0 vf
def jG:FS:=(jf (jt (dP<|jj5 (p2 YK (p2 yI (pV 2)<|pV 4)<|pI 0)<|p2 (ja1 true) (pV 4)<|Jt 0 "served"<|pV 0)<|jc [] 6)<|jaz 3<|yF #[pF<|pV 4,pIf (jj<|pV 6) (p2 jk (pV 5)<|pI 1)<|pI 0])
def v8:FS:=(jf (jt (dP<|pCB yT #[p2 jd (pV 1)<|pI 0])<|jc [] 2)<|jf (jt (dP<|Yb pN)<|jc [] 3)<|jf (qh (pIt<|pF<|p2 jd (pV 1)<|pI 2) (gT 2<|gC (jc [] 4)<|gC (jc [] 5) gN) jG)<|yb<|K1<|jq (dP<|yM<|Jt 0 "sizes"<|pV 0)<|jq (dP<|yM<|Jt 0 "owed"<|pV 0)<|jq (dMv 3)<|jq (dP<|yM<|Jt 0 "levels"<|pV 0)<|jq (dP<|pF<|p2 jd (pV 1)<|pI 4) Je)
def jM:List D->Option D:=fnP 7 v8
def VF:FS:=(jf (jt (dP<|pCB xB #[pV 4,p2 yI (pV 3)<|pV 7])<|jc [] 8)<|jf (jaz 5<|yF #[pF<|pV 6,pS [101,97,116],pF<|pV 7,pF<|pV 4,pF<|pV 8])<|jf (jct 3 (pV 7) (λm n=>m-n)<|pV 8)<|jfW [] 4 (λi j=>i-j)<|pV 8)
def jcz:FS:=(jf (jt (dP<|pCB yT #[p2 jd (pV 1)<|pI 0])<|jc [] 3)<|jf (jt (dP<|pF<|pV 2)<|jc [] 4)<|jf (jt (dP<|Yb pN)<|jc [] 5)<|jf (qh (Vn #[pF<|p2 jd (pV 0)<|pI 3]) (gT 2<|gC (jc [] 6)<|gC (jc [] 7) gN) VF)<|jf (jt (dP<|yi (Yz<|p2 jd (pV 1)<|pI 1) (gT 2<|gC (jc [] 0)<|gC (jc [] 1) gN) qT (yF #[pF<|pV 0,pIf (jj<|p2 YK (p2 yI (pV 2)<|pV 0)<|pI 0) (pF<|pV 1)<|pI 0]) [none,none,some 3])<|jc [] 9)<|yb<|K1<|jq (dMv 5)<|jq (K1<|jq (dP<|yM<|pV 3)<|jq (dMv 9)<|jq (dP<|pCB VX #[p2 jd (pV 1)<|pI 2])<|jq (dP<|pCB VX #[p2 jd (pV 1)<|pI 3])<|jq (dP<|p2 jk (p2 jd (pV 1)<|pI 4)<|pV 4) Je) Je)
def KU:List D->Option D:=fnP 10 jcz
def YL:FS:=(jf (jt (dP<|yi (Yz<|p2 jd (pV 0)<|pI 1) (jc [] 0) qT (yF #[pF<|p2 jd (pV 0)<|pI 0,pF<|p2 jd (pV 0)<|pI 1]) [none])<|jc [] 1)<|jf (jt (dP<|yi (Yz<|p2 jd (pV 0)<|pI 1) (jc [] 0) qT (yF #[pF<|p2 jd (pV 0)<|pI 0,pI 0]) [none])<|jc [] 2)<|jf (jt (dP<|yi (Yz<|p2 jd (pV 0)<|pI 1) (jc [] 0) qT (yF #[pF<|p2 jd (pV 0)<|pI 0,pI 0]) [none])<|jc [] 3)<|yb<|K1<|jq (dMv 1)<|jq (dMv 2)<|jq (dMv 3)<|jq (dP<|yi (Yz<|p2 jd (pV 0)<|pI 2) (jc [] 0) qT (yF #[pF<|p2 jd (pV 0)<|pI 0,pI 0]) [none])<|jq (dP<|pI 0) Je)
def vj:List D->Option D:=fnP 4 YL
def Vs:FS:=(jf (jt (dP<|pCB yT #[p2 jd (pV 1)<|pI 0])<|jc [] 2)<|jf (jt (dP<|pCB yT #[yi (Yz<|p2 jd (pV 0)<|pI 1) (jc [] 0) qT (yF #[pF<|p2 jd (pV 0)<|pI 0,pF<|p2 jd (pV 0)<|pI 2]) [none]])<|jc [] 3)<|jf (jt (dP<|yi (Yz<|p2 jd (pV 1)<|pI 1) (gT 2<|gC (jc [] 0)<|gC (jc [] 1) gN) qT (yF #[pF<|pV 0,pIf (jj<|p2 YK (p2 yI (pV 2)<|pV 0)<|pI 0) (p2 jk (pV 1)<|p2 yI (pV 3)<|pV 0)<|pF<|pV 1]) [none,none,some 2,some 3])<|jc [] 4)<|sFz 4<|yb<|dP<|yF #[pF<|p2 jd (pV 1)<|pI 0,pF<|pV 4,pF<|p2 jd (pV 1)<|pI 2,pF<|p2 jd (pV 1)<|pI 3,pF<|p2 jd (pV 1)<|pI 4])
def kK:List D->Option D:=fnP 5 Vs
def kM:FS:=(jf (jt (jnH<|jf3 (p2 jd (pV 4)<|pI 3)<|p2 jd (pV 4)<|pI 4)<|jc [] 5)<|V5 1 (pKt 5)<|p2 jk (Kc (pV 1) (pKt 5)<|pI 0)<|p2 jd (pV 4)<|pI 6)
def kT:FS:=(qh (pIt<|pF<|pV 3) (jc [] 4) kM)
def VN:FS:=(jf (jt (dP<|pC<|.dT true [] [])<|jc [] 1)<|jf (qh (pIt<|pF<|pV 0) (gT 2<|gC (jc [] 2)<|gC (jc [] 3) gN) kT)<|yb<|dMv 1)
def kR:List D->Option D:=fnP 6 VN
def vT:FS:=(jjO 1 (pV 5)<|p2 jk (p3 Vh (pV 1) (pV 5)<|pI 0)<|pCB xB #[pV 6,pI 1])
def vK:FS:=(qh (pIt<|pF<|p2 jd (pV 4)<|pI 2) (gT 2<|gC (jc [] 5)<|gC (jc [] 6) gN) vT)
def vM:FS:=(qh (pIt<|pF<|p2 jd (pV 2)<|pI 0) (jc [] 4) vK)
def JU:FS:=(jf (jt (dP<|pC<|.dK true [] [])<|jc [] 1)<|jf (qh (pIt<|pF<|pV 0) (gT 2<|gC (jc [] 2)<|gC (jc [] 3) gN) vM)<|yb<|dMv 1)
def vF:List D->Option D:=fnP 7 JU
def Jh:FS:=(jf (jt (dP<|pS [112,111,111,108,32,99,108,97,105,109,32,112,111,116,32,101,97,116,32,111,114,100,101,114,32,112,97,114,116,32,112,97,121,32,115,104,97,114,101,32,114,101,112,97,121,32,102,105,108,108,32,108,101,110,100,32,98,97,99,107,32,114,101,115,116,32,108,111,111,107,32,103,117,97,114,100,32,100,101,98,116,32,111,110,32,108,97,116,101,32,101,97,114,108,121,32,113,117,105,116])<|jc [] 0)<|yb<|dP<|pBM "str" Q2 (pV 0) #[pS [32]])
def vg:List D->Option D:=fnP 1 Jh
def Yq:FS:=(jf (jt (dP<|pI 0)<|jc [] 2)<|jf (sIf (dPT<|jj<|p2 YK (pCB qj #[pV 0])<|pI 0) (jt (dP<|pF<|p2 jd (pV 0)<|p2 jl (pV 1)<|pCB qj #[pV 0])<|jc [] 2)
 jN)<|jf (jt (dP<|p2 jk (pI 91343852333181432387730302044767688731)<|p2 VI (p2 VI (pI 7919000003)<|pV 1)<|pV 1)<|jc [] 3)<|yb<|dP<|p2 jl (p2 VI (p2 jk (p2 jk (pV 2)<|pV 1)<|pI 1)<|pV 3)<|pI 170141183460469231731687303715884105727)
def j9:List D->Option D:=fnP 4 Yq
def vJ:FS:=(jf (sIf (dPT<|jj<|p2 kH (p2 jl (pV 0)<|pI 4)<|pI 0) (yb<|dP<|pF<|p2 jd (Yb #[pI 1,p2 Jo (pI 10)<|pI 12])<|p2 jl (p2 jH (pV 0)<|pI 4)<|pI 2)
 jN)<|jf (sIf (dPT<|jj<|p2 kH (p2 jl (pV 0)<|pI 4)<|pI 1) (yb<|dP<|p2 jk (pI 1)<|p2 jl (p2 jH (pV 0)<|pI 4)<|pI 20)
 jN)<|yb<|dP<|p2 jk (pI 1)<|p2 jl (p2 jH (pV 0)<|pI 4)<|p2 Jo (pI 10)<|pI 12)
def jB:List D->Option D:=fnP 1 vJ
def jF:FS:=(jf (sIf (dPT<|jj<|p2 kH (p2 jd (pV 3)<|pI 0)<|pS [115,104,97,114,101]) (jiP 1<|p2 jd (pV 3)<|pI 1)
 jN)<|sIf (dPT<|jj<|p2 kH (p2 jd (pV 3)<|pI 0)<|pS [114,101,112,97,121]) (jaz 1<|pF<|p2 jd (pV 3)<|pI 1)
 jN)
def yz:FS:=(qh (pIt<|pF<|p2 jd (pV 2)<|pI 2) (jc [] 3) jF)
def vZ:FS:=(jf (jt (dP<|Yb pN)<|jc [] 1)<|jf (qh (pIt<|pF<|pV 0) (jc [] 2) yz)<|yb<|dMv 1)
def yh:List D->Option D:=fnP 4 vZ
def yo:FS:=(jf (jt (dP<|p2 jl (pV 0)<|pI 6)<|jc [] 1)<|jf (sIf (dPT<|jj<|p2 kH (pV 1)<|pI 0) (yb<|dP<|pI 0)
 jN)<|jf (sIf (dPT<|jj<|p2 jkv (pV 1)<|pI 3) (yb<|dP<|p2 jl (p2 jH (pV 0)<|pI 6)<|pI 60)
 jN)<|jf (sIf (dPT<|jj<|p2 kH (pV 1)<|pI 3) (yb<|dP<|p2 jl (p2 jH (pV 0)<|pI 6)<|pI 2000)
 jN)<|jf (sIf (dPT<|jj<|p2 kH (pV 1)<|pI 4) (yb<|dP<|p2 jl (p2 jH (pV 0)<|pI 6)<|p2 Jo (pI 10)<|pI 13)
 jN)<|yb<|dP<|p2 jl (p2 jH (pV 0)<|pI 6)<|p2 Jo (pI 10)<|pI 30)
def jQ:List D->Option D:=fnP 2 yo
def yX:FS:=(jf (jt (dP<|p2 jl (pV 0)<|pI 6)<|jc [] 1)<|jf (sIf (dPT<|jj<|p2 jkv (pV 1)<|pI 3) (yb<|dP<|pI 0)
 jN)<|jf (sIf (dPT<|jj<|p2 kH (pV 1)<|pI 3) (yb<|dP<|p2 jl (p2 jH (pV 0)<|pI 6)<|pI 40)
 jN)<|jf (sIf (dPT<|jj<|p2 kH (pV 1)<|pI 4) (yb<|dP<|p2 jl (p2 jH (pV 0)<|pI 6)<|p2 Jo (pI 10)<|pI 13)
 jN)<|yb<|dP<|p2 jl (p2 jH (pV 0)<|pI 6)<|p2 Jo (pI 10)<|pI 29)
def yf:List D->Option D:=fnP 2 yX
def qJ:FS:=(jf (jt (jnH<|jdi (p2 jd (pV 3)<|pI 0) (p2 jd (pV 3)<|pI 3)<|p2 jd (pV 3)<|pI 4)<|jc [] 4)<|V5 1 (pKt 4)<|p2 jk (Kc (pV 1) (pKt 4)<|pI 0)<|p2 jd (pV 3)<|pI 6)
def qE:FS:=(qh (pIt<|pF<|p2 jd (pV 2)<|pI 1) (jc [] 3) qJ)
def V9:FS:=(jf (jt (dP<|pC<|.dT true [] [])<|jc [] 1)<|jf (qh (pIt<|pF<|pV 0) (jc [] 2) qE)<|yb<|dMv 1)
def qZ:List D->Option D:=fnP 5 V9
def wk:FS:=(jf (jt (dP<|ju kZ #[pV 0])<|jc [] 2)<|jf (sIf (dPT<|jj<|p2 YK (pV 2)<|pI 10) (jf (jt (dP<|yi (Yz<|pV 0) (jc [] 0) qT (p2 jH (p2 jk (p2 yR (pV 1)<|p2 jd (pV 0)<|pI 1)<|pI 9)<|pI 10) [none,some 1])<|jc [] 3)<|yb<|jeg 3 #[p2 Yo (pCB jbS #[pV 3])<|pV 1])
 jN)<|jf (jt (dP<|yi (Yz<|pV 0) (jc [] 0) qT (p2 jH (p2 yR (pV 1)<|p2 jd (pV 0)<|pI 1)<|pI 10) [none,some 1])<|jc [] 3)<|jf (jt (dP<|p2 Yo (p2 jH (p2 yR (pV 1)<|pV 2)<|pI 10)<|pCB jbS #[pV 3])<|jc [] 4)<|sFz 3<|yb<|dP<|yF #[yi (Vn #[pF<|pV 3]) (gT 2<|gC (jc [] 0)<|gC (jc [] 1) gN) qT (pIf (jj<|p2 jkv (pV 0)<|pV 2) (p2 jk (pV 1)<|pI 1)<|pF<|pV 1) [none,none,some 4],pI 0])
def VM:List D->Option D:=fnP 5 wk
def vy:FS:=(KO<|Jz yK 3 kB #[pF<|pV 1,pF<|pV 4,pF<|pV 5,pF<|pV 6])
def Jl:FS:=(jf (jt (dP<|ju yn #[pV 0])<|jc [] 3)<|jf (qh (pIt<|pF<|pV 2) (gT 3<|gC (jc [] 4)<|gC (jc [] 5)<|gC (jc [] 6) gN) vy)<|yb<|dCB Qn<|jq (jnQ 3) Je)
def vh:List D->Option D:=fnP 7 Jl
def qH:FS:=(jf (JK 0 0 "pool_name"<|pF<|p2 jd (pV 1)<|pI 0)<|jf (JK 0 0 "marks"<|pCB yT #[p2 jd (pV 1)<|pI 2])<|jf (JK 0 0 "sizes"<|pCB yT #[p2 jd (pV 2)<|pI 0])<|jf (JK 0 0 "owed"<|pCB yT #[p2 jd (pV 2)<|pI 1])<|jf (JK 0 0 "levels"<|pCB yT #[p2 jd (pV 2)<|pI 3])<|jf (JK 0 0 "loans"<|ju yn #[pV 4])<|jf (JK 0 0 "cash"<|pF<|pV 3)<|jf (JK 0 0 "served"<|pC<|.dK true [] [])<|jf (JK 0 0 "entries"<|Yb pN)<|JK 0 0 "moves"<|Yb pN)
def yS:List D->Option (D×D):=fnM 5 0 qH
def yL:FS:=(sIf (dPT<|jj<|p2 kH (pV 1)<|pS [112,97,121]) (vA 0 (qW 0 "owed" kB) (pV 2) (λm n=>m-n)<|pV 3)<|sIf (dPT<|jj<|p2 kH (pV 1)<|pS [114,101,112,97,121]) (jf (jt (dP<|pCB xB #[pV 3,p2 yI (Jt 0 "owed"<|pV 0)<|pV 2])<|jc [0] 4)<|jf (vA 0 (qW 0 "owed" kB) (pV 2) (λm n=>m-n)<|pV 4)<|vA 0 (qW 0 "sizes" kB) (pV 2) (λm n=>m-n)<|p2 Yo (pV 3)<|pV 4)<|sIf (dPT<|jj<|p2 kH (pV 1)<|pS [102,105,108,108]) (vA 0 (qW 0 "levels" kB) (pV 2) (λm n=>m+n)<|pV 3)<|sIf (dPT<|uQ (jj<|p2 (QR false) (pV 1)<|yF #[pS [108,101,110,100],pS [98,97,99,107]])<|jj<|p2 YK (pV 3)<|pI 0) (jf (KO<|Jz yK 0 (qW 0 "loans" kB) #[pF<|Jt 0 "pool_name"<|pV 0,pF<|pV 1,pF<|pV 2,pF<|pV 3])<|qf 0 (qW 0 "moves" kB)<|yF #[pF<|pV 1,pF<|pV 2,pF<|pV 3])
 jN)
def jv:List D->Option (D×D):=fnM 5 0 yL
def yG:FS:=(jf (YF 0 kB 0 "cash" (λm n=>m-n)<|pV 8)<|jf (vA 0 (qW 0 "owed" kB) (pV 6) (λm n=>m-n)<|pV 8)<|jf (qf 0 (qW 0 "entries" kB)<|yF #[pF<|pV 1,pS [115,104,97,114,101],pF<|pV 6,pF<|pV 7,pF<|pV 8])<|sIf (dPT<|jj<|pV 5) (Vi 0 (qW 0 "served" kB) (pV 6)<|pC<|.bl true)
 jN)
def va:FS:=(jf (jt (dP<|yi (Yz<|pV 2) (jc [] 0) qT (pF<|p2 yI (Jt 0 "owed"<|pV 1)<|pV 0) [none,some 0])<|jc [0] 3)<|jf (jt (dP<|ju qP #[pV 3,Jt 0 "cash"<|pV 0])<|jc [0] 4)<|jf (jt (dP<|jj5 (p2 YK (pCB jbS #[pV 3])<|pI 0)<|p2 kH (pV 4)<|pV 3)<|jc [0] 5)<|sFz 3<|sFz 4<|qh (pZN 3 #[pF<|pV 2,pF<|pV 3,pF<|pV 4]) (gT 3<|gC (jc [0] 6)<|gC (jc [0] 7)<|gC (jc [0] 8) gN) yG)
def jR:List D->Option (D×D):=fnM 9 0 va
def jdQ:FS:=(yb<|dP<|yF #[yi (Yz<|pV 0) (jc [] 0) qT (ju vj #[pV 0]) [none],Yb pN,yi (Yz<|pV 0) (jc [] 0) qT (pI 0) [none]])
def Jy:List D->Option D:=fnP 1 jdQ
def VE:FS:=(yb<|dP<|ju vm #[pV 0,pCB yT #[p2 jd (pV 1)<|pI 2]])
def vQ:List D->Option D:=fnP 2 VE
def Kr:FS:=(jf (jt (dP<|p2 jk (p2 jd (pV 1)<|pI 0)<|pI 1)<|gIx [1] 1<|pI 0)<|yb<|dP<|ju j9 #[pV 0,p2 jd (pV 1)<|pI 0])
def jn:List D->Option (D×D):=fnM 2 1 Kr
def Yu:FS:=(jf (jt (dP<|pS [97,98,99,100,101,102,103,104,105,106,107,108,109,110,111,112,113,114,115,116,117,118,119,120,121,122])<|jc [] 2)<|jf (jt (dP<|p2 jk (pI 2)<|p2 jl (pV 0)<|pI 6)<|jc [] 3)<|jf (jt (dP<|p2 jl (p2 jH (pV 0)<|pI 6)<|p2 Yo (pV 3)<|pI 1)<|jc [] 4)<|jf (jt (dP<|pBM "str" jbg (pS []) #[yi (kG #[pV 3]) (jc [] 0) qT (pF<|p2 jd (pV 1)<|p2 jl (p2 jk (p2 jH (pV 2)<|pI 42)<|p2 yR (p2 yR (pV 0)<|pV 0)<|p2 jl (p2 jH (pV 2)<|pI 1100)<|pI 5)<|pI 26) [none,some 2,some 0]])<|jc [] 5)<|jf (jt (dP<|p2 jk (p2 jd (pV 2)<|p2 jl (p2 jk (p2 jH (pV 0)<|pI 7)<|p2 jH (pV 1)<|pI 26)<|pI 26)<|p2 jd (pV 2)<|p2 jl (p2 jk (p2 jH (pV 0)<|pI 3)<|pV 1)<|pI 26)<|jc [] 6)<|jf (jt (dP<|p2 jk (p2 jk (pSl (pV 5) oN<|oS<|pV 4)<|pV 6)<|pSl (pV 5) (oS<|p2 jk (pV 4)<|pI 2) oN)<|jc [] 5)<|jf (sIf (dPT<|jj<|p2 (QR false) (pV 5)<|ju vg pN) (jt (dP<|p2 jk (pV 5)<|pS [122])<|jc [] 5)
 jN)<|yb<|dMv 5)
def jr:List D->Option D:=fnP 7 Yu
def Ka:FS:=(jf (jt (dP<|p2 jl (pV 0)<|pI 7)<|jc [] 4)<|jf (jt (dP<|pCB qj #[pV 1])<|jc [] 5)<|jf (jt (dP<|pF<|p2 jd (p2 jd (pV 1)<|p2 jl (p2 jH (pV 0)<|pI 7)<|pV 5)<|pI 0)<|jc [] 6)<|jf (sIf (dPT<|uQ (jj<|p2 kH (pV 4)<|pI 1)<|jj<|p2 YK (pV 5)<|pI 1) (jf (jt (dP<|p2 jk (pI 2)<|p2 jl (p2 jH (pV 0)<|pI 50)<|p2 Yo (pV 5)<|pI 1)<|jc [] 7)<|yb<|dP<|yF #[pS [115,104,97,114,101],pCB YA #[yi (kG #[pV 7]) (jc [] 0) qT (pF<|p2 jd (p2 jd (pV 1)<|p2 jl (p2 jk (p2 jH (pV 2)<|pI 400)<|pV 0)<|pV 3)<|pI 0) [none,some 1,some 0,some 5]]])
 jN)<|jf (sIf (dPT<|jj<|p2 kH (pV 4)<|pI 2) (yb<|dP<|yF #[pS [114,101,112,97,121],pF<|pV 6])
 jN)<|jf (sIf (dPT<|uQ (jj<|p2 kH (pV 4)<|pI 3)<|jj<|p2 YK (pCB qj #[pV 2])<|pI 0) (yb<|dP<|yF #[pS [102,105,108,108],pF<|p2 jd (p2 jd (pV 2)<|p2 jl (p2 jH (pV 0)<|pI 50)<|pCB qj #[pV 2])<|pI 0])
 jN)<|jf (sIf (dPT<|uQ (jj<|p2 kH (pV 4)<|pI 4)<|jj<|p2 YK (pCB qj #[pV 3])<|pI 0) (yb<|dP<|yF #[pS [108,101,110,100],pF<|p2 jd (pV 3)<|p2 jl (p2 jH (pV 0)<|pI 50)<|pCB qj #[pV 3],ju jB #[p2 jH (pV 0)<|pI 400]])
 jN)<|jf (sIf (dPT<|uQ (jj<|p2 kH (pV 4)<|pI 5)<|jj<|p2 YK (pCB qj #[pV 3])<|pI 0) (yb<|dP<|yF #[pS [98,97,99,107],pF<|p2 jd (pV 3)<|p2 jl (p2 jH (pV 0)<|pI 50)<|pCB qj #[pV 3]])
 jN)<|yb<|dP<|yF #[pS [112,97,121],pF<|pV 6])
def yQ:List D->Option D:=fnP 8 Ka
def qG:FS:=(jf (jt (dP<|yi (kG #[pCB qj #[pV 1]]) (jc [] 0) qT (ju jQ #[ju j9 #[pV 1,p2 jk (p2 jk (pI 700)<|p2 yR (pI 12)<|pV 2)<|pV 0]]) [none,some 0,some 3])<|jc [] 4)<|jf (jt (dP<|yi (kG #[pCB qj #[pV 1]]) (jc [] 0) qT (ju yf #[ju j9 #[pV 1,p2 jk (p2 jk (pI 706)<|p2 yR (pI 12)<|pV 2)<|pV 0]]) [none,some 0,some 3])<|jc [] 5)<|sFz 4<|sFz 5<|jaz 2<|yF #[pF<|pV 4,pF<|pV 5])
def Kb:FS:=(jf (jt (dP<|Yb pN)<|jc [] 2)<|jf (qh (kG #[p2 jl (ju j9 #[pV 0,pI 690])<|pI 7]) (jc [] 3) qG)<|yb<|dMv 2)
def kC:List D->Option D:=fnP 6 Kb
def vS:FS:=(jf (jt (dP<|pF<|p2 jd (p2 jd (pV 3)<|pI 0)<|pV 4)<|jc [0] 6)<|jf (jt (dP<|pCB xB #[pV 6,Jt 0 "cash"<|pV 0])<|jc [0] 7)<|jf (YF 0 kB 0 "cash" (λm n=>m-n)<|pV 7)<|qf 0 (qW 0 "entries" kB)<|yF #[pF<|pV 4,pS [112,97,114,116],pF<|p2 jd (pV 5)<|pI 0,pF<|pV 6,pF<|pV 7])
def yW:FS:=(jf (jt (dP<|pF<|Jt 0 "cash"<|pV 0)<|jc [0] 2)<|jf (jt (dP<|ju VM #[pV 1,pV 2])<|jc [0] 3)<|jf (qh (Vn #[pF<|pV 1]) (gT 2<|gC (jc [0] 4)<|gC (jc [0] 5) gN) vS)<|sIf (dPT<|jj<|p2 YK (p2 jd (pV 3)<|pI 1)<|pI 0) (qf 0 (qW 0 "entries" kB)<|yF #[p1 QA<|pI 1,pS [116,119,105,99,101],pS [],pCB jbS #[p2 jd (pV 3)<|pI 0],pF<|pV 2])
 jN)
def jS:List D->Option (D×D):=fnM 8 0 yW
def yd:FS:=(jf (jt (dP<|pF<|p2 jd (pV 2)<|pI 0)<|jc [0] 3)<|jf (jt (dP<|pF<|p2 jd (pV 2)<|pI 1)<|jc [0] 4)<|jf (jt (dP<|Yj jg 0 "need_of" (pV 0) #[pV 2])<|jc [0] 5)<|jf (jt (dP<|pCB xB #[pV 5,Jt 0 "cash"<|pV 0])<|jc [0] 6)<|jf (YF 0 kB 0 "cash" (λm n=>m-n)<|pV 6)<|jf (qf 0 (qW 0 "entries" kB)<|yF #[pF<|pV 1,pF<|pV 3,pF<|pV 4,pF<|pV 5,pF<|pV 6])<|jf (KO<|yV jv 0 0 "give" #[pF<|pV 3,pF<|pV 4,pF<|pV 6])<|sIf (dPT<|uQ (jj<|p2 (QR false) (pV 3)<|yF #[pS [112,97,121],pS [114,101,112,97,121]])<|uQ (jj<|p2 kH (pV 6)<|pV 5)<|jj<|p2 YK (pV 5)<|pI 0) (Vi 0 (qW 0 "served" kB) (pV 4)<|pC<|.bl true)
 jN)
def js:List D->Option (D×D):=fnM 7 0 yd
def qr:FS:=(yb<|dP<|pIf (jj<|p2 YK (pCB qj #[pV 1])<|pI 0) (pF<|p2 jd (p2 jd (pV 1)<|p1 QA<|pI 1)<|pI 0)<|ju Jy #[pV 0])
def vp:List D->Option D:=fnP 2 qr
def vB:FS:=(V2 8<|K1<|jq (dP<|pF<|p2 jd (p2 jd (pV 3)<|p2 jl (p2 jk (p2 jH (pV 6)<|pI 100)<|pV 9)<|pV 7)<|pI 0)<|jq (dOp jk (dP<|pI 1)<|dOp jl (j8 jn 1 1<|ja (pF<|pV 0)<|pFs pN)<|dP<|pI 10) Je)
def Vu:FS:=(jf (jt (j8 jn 1 1<|ja (pF<|pV 0)<|pFs pN)<|jc [1] 6)<|jf (jt (dP<|pCB qj #[pV 3])<|jc [1] 7)<|jf (jt (dP<|Yb pN)<|jc [1] 8)<|jf (qh (kG #[p2 yR (p2 jl (pV 6)<|p2 jk (pV 7)<|pI 1)<|p2 jl (p2 jH (pV 6)<|pI 10)<|pI 2]) (jc [1] 9) vB)<|jf (jt (zh (kG #[p2 jl (p2 jH (pV 6)<|pI 1000)<|pI 9]) (jc [2] 0) (vU yQ<|jq (j8 jn 2 1<|ja (pF<|pV 1)<|pFs pN)<|jq (dP<|pF<|pV 3)<|jq (dP<|pF<|pV 4)<|jq (dP<|pF<|pV 5) Je) [none,some 0,some 1,some 3,some 4,some 5] 1 2)<|jc [1] 10)<|jf (jaz 10<|yF #[pS [114,101,115,116],pF<|p2 jd (p2 jd (pV 3)<|p2 jl (p2 jH (pV 6)<|pI 10000)<|pV 7)<|pI 0])<|yb<|K1<|jq (dP<|pF<|pV 2)<|jq (dMv 8)<|jq (dMv 10) Je)
def vN:List D->Option (D×D):=fnM 11 1 Vu
def kj:FS:=(V2 7<|K1<|jq (dOp (oF jd) (dOp (oF jd) (dP<|pF<|pV 3)<|dOp jl (j8 jn 1 1<|ja (pF<|pV 0)<|pFs pN)<|dP<|pCB qj #[pV 3])<|dP<|pI 0)<|jq (dP<|pF<|p2 jd (pV 6)<|pV 8) Je)
def ql:FS:=(jf (jt (dP<|ju yh #[pV 4])<|jc [1] 5)<|jf (jt (dP<|yi (Yz<|pV 2) (jc [] 0) (jj<|p2 (QR true) (p2 jd (pV 0)<|pI 0)<|pV 1) (pF<|p2 jd (pV 0)<|pI 0) [none,some 5])<|jc [1] 6)<|jf (jt (dP<|Yb pN)<|jc [1] 7)<|jf (sIf (dPT<|jj<|p2 YK (pCB qj #[pV 3])<|pI 0) (jd0 (jcf<|jq (dCB xB<|jq (dP<|pCB qj #[pV 6])<|jq (dOp jl (j8 jn 1 1<|ja (pF<|pV 0)<|pFs pN)<|dP<|pI 4) Je) Je) (jc [1] 8) kj)
 jN)<|yb<|dMv 7)
def vw:List D->Option (D×D):=fnM 9 1 ql
def qV:FS:=(sIf (dPT<|jj<|p2 kH (p2 jd (pV 8)<|pI 0)<|pS [115,104,97,114,101]) (KO<|yV jR 6 0 "take_share" #[pF<|pV 7,pF<|p2 jd (pV 8)<|pI 1])<|KO<|yV js 6 0 "take_rule" #[pF<|pV 7,pF<|pV 8])
def KH:FS:=(KO<|yV yu 6 0 "take_guard" #[pF<|pV 7,pF<|p2 jd (pV 9)<|pI 0,pF<|p2 jd (pV 9)<|pI 1])
def jgR:FS:=(jf (jt (dP<|ju vE #[pV 0,pV 1])<|jc [] 5)<|jf (jt (dP<|jaL yS 0 #[pF<|pV 0,pF<|pV 2,pF<|pV 3,pF<|pV 4])<|jc [] 6)<|jf (KO<|yV jS 6 0 "take_parts" #[pF<|p2 jd (pV 5)<|pI 1])<|jf (qh (jml #[pF<|p2 jd (pV 5)<|pI 2] (pCB qj #[p2 jd (pV 5)<|pI 1])) (gT 2<|gC (jc [] 7)<|gC (jc [] 8) gN) qV)<|jf (qh (Vn #[pF<|p2 jd (pV 0)<|pI 6]) (gT 2<|gC (jc [] 7)<|gC (jc [] 9) gN) KH)<|yb<|jku 6 0 "entries" "moves"<|Yj jM 0 "book_behind" (pV 6) #[pV 2])
def jai:List D->Option D:=fnP 10 jgR
def yC:FS:=(jf (jt (dP<|pF<|p2 jd (p2 jd (pV 3)<|p2 jl (pV 8)<|pCB qj #[pV 3])<|pI 0)<|jc [1] 9)<|jf (sIf (dOr (jbj<|dOp YK (dOp jl (j8 jn 1 1<|ja (pF<|pV 0)<|pFs pN)<|dP<|pI 3)<|dP<|pI 0)<|dPT<|jj<|p2 (QR false) (pV 9)<|yi (Yz<|pV 7) (jc [] 0) qT (pF<|p2 jd (pV 0)<|pI 0) [none]) (jt (dP<|ju jr #[pV 2,p2 jk (pI 100)<|pV 8])<|jc [1] 9)
 jN)<|sFz 9<|V2 7<|dFz<|j8 vN 1 1<|ja (pF<|pV 0)<|pFs #[pF<|pV 9,pF<|pV 3,pF<|pV 4,pF<|pV 5])
def YI:FS:=(jf (jt (dP<|Yb pN)<|jc [1] 7)<|jf (jd0 (jcf<|jq (dOp jk (dP<|pI 1)<|dOp jl (j8 jn 1 1<|ja (pF<|pV 0)<|pFs pN)<|dP<|pF<|pV 6) Je) (jc [1] 8) yC)<|yb<|dMv 7)
def kg:List D->Option (D×D):=fnM 10 1 YI
def Ko:FS:=(jf (jt (dP<|ju KU #[pV 0,pV 1,pV 4])<|jc [] 5)<|jf (jt (dP<|ju vQ #[pV 0,pV 1])<|jc [] 6)<|jf (sFz 5<|jt (dP<|ju jai #[pV 0,pV 6,ju kK #[pV 0,p2 jd (pV 5)<|pI 1],pV 3,pV 2])<|jc [] 7)<|jf (jt (dP<|yi (Yz<|p2 jd (pV 5)<|pI 0) (jc [] 0) qT (p2 jk (yF #[pF<|p2 jd (pV 1)<|pI 0,pS []])<|pV 0) [none,some 0])<|jc [] 8)<|jf (jiP 8<|yi (Yz<|p2 jd (pV 7)<|pI 0) (jc [] 0) qT (p2 jk (yF #[pF<|p2 jd (pV 1)<|pI 0,pF<|pV 2])<|pV 0) [none,some 0,some 6])<|sFz 7<|sFz 8<|yb<|dP<|yF #[pF<|p2 jd (pV 7)<|pI 1,ju vh #[pV 2,p2 jd (pV 0)<|pI 0,p2 jd (pV 7)<|pI 2],pF<|p2 jd (pV 7)<|pI 2,pF<|pV 8])
def kF:List D->Option D:=fnP 9 Ko
def kh:FS:=(jf (jt (vU jB<|jq (j8 jn 1 1<|ja (pF<|pV 0)<|pFs pN) Je)<|jc [1] 9)<|V2 7<|K1<|jq (dP<|ju jr #[pV 2,p2 jk (p2 jk (p2 yR (pI 10)<|pV 3)<|pI 1)<|pV 8])<|jq (dP<|pF<|pV 9)<|jq (vU jB<|jq (j8 jn 1 1<|ja (pF<|pV 0)<|pFs pN) Je) Je)
def vY:FS:=(jf (jt (j8 jn 1 1<|ja (pF<|pV 0)<|pFs pN)<|jc [1] 15)<|jaz 14<|yF #[pF<|p2 jd (p2 jd (pV 7)<|p2 jl (pV 15)<|pV 11)<|pI 0,p2 jk (pI 1)<|p2 jl (p2 jH (pV 15)<|pI 10)<|pI 9,pF<|p2 jd (p2 jd (pV 13)<|p2 jl (p2 jH (pV 15)<|pI 100)<|pCB qj #[pV 13])<|pI 0])
def Kt:FS:=(jf (jt (j8 jn 1 1<|ja (pF<|pV 0)<|pFs pN)<|jc [1] 6)<|jf (jt (dP<|Yb pN)<|jc [1] 7)<|jf (qh (kG #[p2 jk (pI 1)<|p2 jl (pV 6)<|pI 6]) (jc [1] 8) kh)<|jf (jt (zh (kG #[p2 jl (p2 jH (pV 6)<|pI 6)<|pI 4]) (jc [4] 0) (K1<|jq (dP<|ju jr #[pV 1,p2 jk (p2 jk (p2 yR (pI 10)<|pV 2)<|pI 7)<|pV 0])<|jq (vU jB<|jq (j8 jn 4 1<|ja (pF<|pV 3)<|pFs pN) Je) Je) [none,some 2,some 3,some 0,some 1] 1 4)<|jc [1] 10)<|jf (jt (dP<|pCB qj #[pV 7])<|jc [1] 11)<|jf (jt (dP<|yi (kG #[p2 jl (p2 jH (pV 6)<|pI 24)<|p2 jk (pV 11)<|pI 1]) (jc [] 0) qT (pF<|p2 jd (p2 jd (pV 1)<|p2 jl (p2 jk (p2 jH (pV 2)<|pI 100)<|pV 0)<|pV 3)<|pI 0) [none,some 7,some 6,some 11])<|jc [1] 12)<|jf (sFz 7<|sFz 10<|jt (j8 kg 1 1<|ja (pF<|pV 0)<|pFs #[pF<|pV 2,pF<|pV 7,pF<|pV 10,pF<|pV 4,pF<|pV 5])<|jc [1] 13)<|jf (jt (dP<|Yb pN)<|jc [1] 14)<|jf (qh (kG #[p2 jl (p2 jH (pV 6)<|pI 1000)<|pI 5]) (jc [1] 8) vY)<|jf (sFz 7<|sFz 10<|sFz 13<|jt (j8 vw 1 1<|ja (pF<|pV 0)<|pFs #[pF<|pV 7,pF<|pV 10,pF<|pV 13])<|jc [1] 16)<|sFz 7<|sFz 10<|sFz 12<|sFz 13<|sFz 14<|sFz 16<|yb<|dP<|yF #[ju jr #[pV 2,p2 yR (pI 10)<|pV 3],pF<|pV 7,pF<|pV 10,pF<|pV 12,pF<|pV 13,pF<|pV 14,pF<|pV 16])
def Jb:List D->Option (D×D):=fnM 17 1 Kt
def kc:FS:=(xr 6 (p2 yI (pV 8)<|pV 14) (λi j=>i+j)<|pV 15)
def qp:FS:=(jf (jt (dP<|p2 jk (p2 jd (pV 2)<|pV 9)<|p2 jd (pV 6)<|pV 9)<|jc [] 11)<|jf (jt (dP<|pI 0)<|gIx [] 6<|pV 9)<|jf (sFz 5<|jt (dP<|ju kF #[pV 10,p2 jd (p2 jd (pV 1)<|pI 0)<|pV 9,pV 5,pV 11,p2 jd (pV 3)<|pV 9])<|jc [] 12)<|jf (sFz 12<|jaz 4<|pF<|p2 jd (pV 12)<|pI 0)<|jf (jt (dP<|pF<|p2 jd (pV 12)<|pI 1)<|jc [] 5)<|jf (qh (pIt<|pF<|p2 jd (pV 12)<|pI 2) (gT 3<|gC (jc [] 13)<|gC (jc [] 14)<|gC (jc [] 15) gN) kc)<|jiP 7<|p2 jd (pV 12)<|pI 3)
def KB:FS:=(jf (jt (dP<|Yb pN)<|jc [] 4)<|jf (jt (dP<|pCB VX #[p2 jd (pV 1)<|pI 1])<|jc [] 5)<|jf (jt (dP<|pCB VX #[p2 jd (pV 1)<|pI 2])<|jc [] 6)<|jf (jt (dP<|Yb pN)<|jc [] 7)<|jf (jt (dP<|pCB yT #[yi (Vn #[pF<|pV 0]) (gT 2<|gC (jc [] 0)<|gC (jc [] 1) gN) qT (yF #[pF<|p2 jd (pV 1)<|pI 0,pF<|pV 0]) [none,none]])<|jc [] 8)<|jf (qh (Vn #[pF<|pV 0]) (gT 2<|gC (jc [] 9)<|gC (jc [] 10) gN) qp)<|yb<|K1<|jq (K1<|jq (dMv 4)<|jq (dMv 5)<|jq (dMv 6) Je)<|jq (dMv 7) Je)
def qQ:List D->Option D:=fnP 16 KB
def v9:FS:=(jf (jt (dP<|yi (Yz<|pV 5) (jc [] 0) (jj<|p2 QU (pV 0)<|p2 jd (pV 1)<|pV 2) (pF<|pV 0) [none,some 5,some 7])<|jc [] 8)<|sFz 8<|V2 6<|j8 Jb 1 1<|ja (pF<|pV 0)<|pFs #[pF<|pV 2,pF<|pV 7,pF<|pV 8,pF<|p2 jd (Yb #[pI 5,pI 2])<|pCB jeb #[p2 kH (pV 4)<|pI 6]])
def Kl:FS:=(jf (jt (dP<|Yb #[pI 0])<|jc [] 1)<|jf (jt (dP<|p2 jl (ju j9 #[pV 0,pI 0])<|p2 Jo (pI 10)<|pI 12)<|jc [] 2)<|jf (jt (j8 jn 1 1<|ja (pF<|pV 0)<|pFs pN)<|jc [] 3)<|jf (jt (dP<|pF<|p2 jd (Yb #[pI 1,pI 2,pI 3,pI 1,pI 2,pI 6])<|p2 jl (pV 3)<|pI 6)<|jc [] 4)<|jf (jt (dP<|yi (kG #[pV 4]) (jc [] 0) qT (ju jr #[pV 1,p2 yR (pI 10)<|pV 0]) [none,some 2])<|jc [] 5)<|jf (jt (dP<|Yb pN)<|jc [] 6)<|jf (qh (kG #[pV 4]) (jc [] 7) v9)<|yb<|dMv 6)
def kI:List D->Option D:=fnP 9 Kl
def xT:FS:=(jf (sFz 2<|jt (dP<|ju qQ #[pV 0,pV 2,pV 4,pV 5])<|jc [] 6)<|jf (sFz 6<|jaz 3<|pF<|pV 6)<|jt (dP<|pF<|p2 jd (pV 6)<|pI 0)<|jc [] 2)
def jlT:FS:=(jf (jt (dP<|ju Jy #[pV 0])<|jc [] 2)<|jf (jt (dP<|Yb pN)<|jc [] 3)<|jf (qh (pIt<|pF<|pV 1) (gT 2<|gC (jc [] 4)<|gC (jc [] 5) gN) xT)<|yb<|dMv 3)
def wW:List D->Option D:=fnP 7 jlT
def ku:FS:=(jf (jt (dP<|yi (Yz<|p2 jk (pC vD)<|yF #[pS [101,97,116]]) (jc [] 0) qT (pF<|xE (pV 1) (pV 0) (pV 2)<|pI 0) [none,some 3,some 10])<|jc [] 11)<|jf (jt (dP<|yF #[pF<|p2 yI (pV 9)<|pV 10,pF<|p2 yI (pV 8)<|pV 10,pF<|p3 Vh (pV 4) (pV 10)<|pI 0])<|jc [] 12)<|jaz 5<|p2 jk (p2 jk (yF #[pF<|p2 jd (pV 6)<|pI 0,pF<|pV 10])<|pCB YA #[pV 11])<|pV 12)
def ko:FS:=(jf (jt (dP<|pCB yT #[p2 jd (pV 7)<|pI 0])<|jc [] 8)<|jf (jt (dP<|pCB yT #[p2 jd (pV 7)<|pI 1])<|jc [] 9)<|qh (pIt<|yi (Yz<|p2 jd (pV 6)<|pI 1) (jc [] 0) qT (pF<|p2 jd (pV 0)<|pI 0) [none]) (jc [] 10) ku)
def YG:FS:=(jf (jt (dP<|ju wW #[pV 0,pV 1])<|jc [] 2)<|jf (sFz 2<|jt (dP<|ju kR #[pV 2])<|jc [] 3)<|jf (jt (dP<|ju vF #[pV 2])<|jc [] 4)<|jf (jt (dP<|Yb pN)<|jc [] 5)<|jf (qh (pZN 2 #[pF<|pV 0,pF<|p2 jd (pFz<|ju vp #[pV 0,pV 2])<|pI 0]) (gT 2<|gC (jc [] 6)<|gC (jc [] 7) gN) ko)<|yb<|dMv 5)
def vq:List D->Option D:=fnP 13 YG
def Jv:FS:=(jaz 10<|pF<|Kc (pV 4) (jdi (p2 jd (pV 7)<|pI 0) (pV 11)<|p2 jd (pV 9)<|pI 0)<|pI 0)
def Jw:FS:=(jf (jt (dP<|Yb #[pF<|p2 jd (pV 7)<|pI 0,pF<|p2 jd (pV 9)<|pI 0])<|jc [] 10)<|jf (qh (pIt<|Yb #[pS [112,97,114,116],pS [112,97,121],pS [115,104,97,114,101],pS [114,101,112,97,121],pS [114,101,115,116],pS [103,117,97,114,100],pS [101,97,116]]) (jc [] 11) Jv)<|jf (jt (dP<|yi (Yz<|pV 2) (jc [] 0) (jj<|p2 YK (p2 jd (p2 jd (p2 jd (p2 jd (p2 jd (p2 jd (pV 0)<|pI 0)<|pI 0)<|pV 1)<|pI 2)<|pV 2)<|pI 1)<|pI 0) (pI 1) [none,some 6,some 8])<|jc [] 12)<|jaz 5<|pCB YA #[p2 jk (pV 10)<|Yb #[pF<|p2 jd (p2 jd (p2 jd (p2 jd (pV 3)<|pV 6)<|pI 1)<|pV 8)<|pI 1,pF<|p2 jd (p2 jd (p2 jd (p2 jd (pV 3)<|pV 6)<|pI 0)<|pV 8)<|pI 1,pCB qj #[pV 12]]])
def k8:FS:=(qh (Vn #[pF<|p2 jd (pV 7)<|pI 1]) (gT 2<|gC (jc [] 8)<|gC (jc [] 9) gN) Jw)
def Ve:FS:=(jf (jt (dP<|ju wW #[pV 0,pV 1])<|jc [] 2)<|jf (sFz 2<|jt (dIx (dP<|ju Jy #[pV 0]) 0)<|jc [] 3)<|jf (sIf (dPT<|jj<|p2 QU (pV 2)<|Yb pN) (jt (dP<|pF<|p2 jd (p2 jd (p2 jd (pV 2)<|p1 QA<|pI 1)<|pI 0)<|pI 0)<|jc [] 3)
 jN)<|jf (jt (dP<|ju qZ #[pV 2])<|jc [] 4)<|jf (jt (dP<|Yb pN)<|jc [] 5)<|jf (qh (Vn #[pF<|pV 0]) (gT 2<|gC (jc [] 6)<|gC (jc [] 7) gN) k8)<|yb<|dMv 5)
def qo:List D->Option D:=fnP 13 Ve
def v7(jT:List D->Option D):FS:=(sIf (dPT<|jkt<|jj<|ju jT #[pV 2,pV 3]) (yb<|dP<|pC<|.bl false)
 jN)
def kE(jT:List D->Option D):FS:=(jf (sIf (dPT<|qOr (jj<|xj "list"<|pV 1)<|jj<|xj "tuple"<|pV 1) (jf (sIf (dPT<|jj<|p2 QU (xj "list"<|pV 1)<|xj "list"<|pV 0) (yb<|dP<|pC<|.bl false)
 jN)<|jf (sIf (dPT<|jj<|p2 QU (xj "tuple"<|pV 1)<|xj "tuple"<|pV 0) (yb<|dP<|pC<|.bl false)
 jN)<|jf (sIf (dPT<|jj<|p2 QU (pCB qj #[pV 0])<|pCB qj #[pV 1]) (yb<|dP<|pC<|.bl false)
 jN)<|jf (qh (pZN 2 #[pF<|pV 0,pF<|pV 1]) (gT 2<|gC (jc [] 2)<|gC (jc [] 3) gN)<|v7 jT)<|yb<|dP<|pC<|.bl true)
 jN)<|jf (sIf (dPT<|jj<|p2 jfa (pV 1)<|pC .non) (yb<|dP<|p2 jfa (pV 0)<|pC .non)
 jN)<|jf (sIf (dPT<|jj<|xj "str"<|pV 1) (yb<|dP<|jj5 (xj "str"<|pV 0)<|p2 kH (pV 0)<|pV 1)
 jN)<|yb<|dP<|jj5 (xj "int"<|pV 0)<|jj5 (jo2<|xj "bool"<|pV 0)<|p2 kH (pV 0)<|pV 1)
def ye:Nat->List D->Option D
 | 0=>λ_=>none
 | n+1=>fnP 4<|kE<|ye n
def jT:List D->Option D:=ye 9
def jnE:FS:=(jf (jt (dP<|ju kI #[pV 0])<|jc [] 1)<|jf (sFz 1<|jt (dP<|ju kC #[pV 0,pV 1])<|jc [] 2)<|jf (sFz 2<|jt (dP<|ju vq #[pV 1,pV 2])<|jc [] 3)<|jf (sIf (dPT<|qOr (jkt<|jj<|ju jT #[pV 1,ju kI #[pV 0]])<|jkt<|jj<|ju jT #[pV 2,ju kC #[pV 0,pV 1]]) (yb<|dP<|pC<|.bl false)
 jN)<|jf (jt (dP<|ju qo #[pV 1,pV 2])<|jc [] 4)<|jf (sIf (dPT<|jkt<|jj<|ju jT #[pV 3,pV 4]) (yb<|dP<|pC<|.bl false)
 jN)<|jf (jaM 3)<|yb<|dP<|ju jT #[ju vq #[pV 1,pV 2],pV 4])
def jaA:List D->Option D:=fnP 5 jnE
def jpK(st:Stmt):List Str:=((jD st).names.filter λp=>decide (p.2=.local)||decide (p.2=.cell)).map (·.1)
abbrev qg(K:W4)(mg:W6)(x:Str)(st:Stmt)(n:Nat):Prop:=jeY K mg x st (jpK st) n
abbrev jke(K:W4)(C:Addr)(x qual:Str)(st:Stmt)(n:Nat):Prop:=jmJ K C x qual st (jpK st) n
structure Txt(P:Program)(w:World)(K:W4)(mg:W6)(cl:Nat->Addr)(vC:Addr):Prop where
 aa:mg "CLAIM_KINDS" = some (.ref vC)
 ab:∀(cl:Nat->Addr) (Z:Zn) (H:Hp),Rep ⟨K,cl⟩ Z H vD (.ref vC) []
 C0:Cls K (cl 0)
 mk0:PySem.W.makesIn K (cl 0)=true
 kc0:PySem.W.keepIn K (.ref<|cl 0)=true
 mg0:mg "Fall" = some (.ref<|cl 0)
 ac:NoAttr K (cl 0) "owed"
 ad:NoAttr K (cl 0) "sizes"
 ae:NoAttr K (cl 0) "marks"
 af:NoAttr K (cl 0) "levels"
 ag:NoAttr K (cl 0) "loans"
 ah:NoAttr K (cl 0) "pool_name"
 ai:NoAttr K (cl 0) "cash"
 aj:NoAttr K (cl 0) "entries"
 ak:NoAttr K (cl 0) "served"
 al:NoAttr K (cl 0) "moves"
 am:mg "bool" = none
 ao:mg "dict" = none
 ap:mg "enumerate" = none
 aq:mg "int" = none
 ar:mg "isinstance" = none
 au:mg "len" = none
 av:mg "list" = none
 aw:mg "max" = none
 ax:mg "min" = none
 ay:mg "range" = none
 az:mg "sorted" = none
 aA:mg "str" = none
 aB:mg "sum" = none
 aC:mg "tuple" = none
 aD:mg "zip" = none
 aE:qg K mg "tenths_of" (top 2) 1
 aF:qg K mg "order_named" (top 4) 2
 aG:qg K mg "look_order" (top 5) 2
 aH:qg K mg "loans_by_ends" (top 6) 1
 aI:qg K mg "move_loan" (top 7) 5
 aJ:jeY K mg "shared" (top 10) ["needs","cash","whole","gets","left","at","need"] 2
 aK:jke K (cl 0) "need_of" "Fall.need_of" (qC (top 13) 3) 2
 aL:jke K (cl 0) "take_guard" "Fall.take_guard" (qC (top 13) 6) 4
 aM:jke K (cl 0) "book_behind" "Fall.book_behind" (qC (top 13) 7) 2
 aN:qg K mg "eaten" (top 15) 3
 aO:qg K mg "begun_book" (top 18) 1
 aP:qg K mg "with_dues" (top 20) 2
 aQ:qg K mg "coins_got" (top 28) 1
 aR:qg K mg "days_missed" (top 29) 1
 aS:qg K mg "_law_keywords" (top 31) 0
 aT:qg K mg "_law_draw" (top 32) 2
 aU:qg K mg "_law_coins" (top 35) 1
 aV:qg K mg "_law_shared_names" (top 39) 1
 aW:qg K mg "_law_income" (top 43) 1
 aX:qg K mg "_law_loss" (top 44) 1
 aY:qg K mg "_law_sums" (top 47) 1
 aZ:qg K mg "asked" (top 1) 2
 b7:qg K mg "loans_behind" (top 8) 3
 b8:jke K (cl 0) "__init__" "Fall.__init__" (qC (top 13) 0) 5
 b9:jke K (cl 0) "give" "Fall.give" (qC (top 13) 4) 4
 ba:jmJ K (cl 0) "take_share" "Fall.take_share" (qC (top 13) 5) ["self","place","names","needs","gets","full","name","need","got"] 3
 bc:qg K mg "begun" (top 17) 1
 be:qg K mg "order_now" (top 19) 2
 bf:qg K mg "_law_next" (top 33) 2
 bh:qg K mg "_law_name" (top 34) 2
 bi:qg K mg "_law_rule" (top 36) 4
 bj:qg K mg "_law_days" (top 45) 2
 bm:jke K (cl 0) "take_parts" "Fall.take_parts" (qC (top 13) 1) 2
 bn:jke K (cl 0) "take_rule" "Fall.take_rule" (qC (top 13) 2) 3
 bo:qg K mg "last_state" (top 27) 2
 bp:qg K mg "_law_order" (top 37) 6
 bt:qg K mg "_law_guards" (top 40) 5
 bu:qg K mg "fell" (top 12) 5
 bv:qg K mg "_law_orders" (top 38) 7
 bw:qg K mg "pool_day" (top 21) 5
 bx:qg K mg "_law_pool" (top 41) 6
 bz:jeY K mg "day_done" (top 22) ["deal","state","incomes","losses","books","loans","waiting","log","at_of","at","pool","came","told","kind","other","coins"] 4
 bA:jeY K mg "_law_deal" (top 42) ["_law_script","_law_at","_law_seed","_law_n","_law_many","_law_names","_law_deal_here","_law_k","_law_others"] 1
 bB:qg K mg "ran" (top 23) 2
 bC:qg K mg "claim_rows" (top 26) 2
 bD:qg K mg "_law_due" (top 48) 2
 bE:qg K mg "_law_same" (top 46) 2
 bF:qg K mg "law" (top 49) 1
section
variable {P:Program}{w:World}{K:W4}{mg:W6}{cl:Nat->Addr}{vC:Addr}(T:Txt P w K mg cl vC)
include T
set_option maxHeartbeats 40000000 in
def jlv:((((NP P w cl T.aE 1 kZ/\NP P w cl T.aF 1 vE)/\NP P w cl T.aG 1 vm/\NP P w cl T.aH 1 yn/\NM P w cl T.aI 1 yK)/\(NP P w cl T.aJ 1 qP/\OP P w cl mg T.aK 1 jg)/\OM P w cl mg T.aL 1 yu/\OP P w cl mg T.aM 1 jM/\NP P w cl T.aN 1 KU)/\((NP P w cl T.aO 1 vj/\NP P w cl T.aP 1 kK)/\NP P w cl T.aQ 1 kR/\NP P w cl T.aR 1 vF/\NP P w cl T.aS 1 vg)/\(NP P w cl T.aT 1 j9/\NP P w cl T.aU 1 jB/\NP P w cl T.aV 1 yh)/\NP P w cl T.aW 1 jQ/\NP P w cl T.aX 1 yf/\NP P w cl T.aY 1 qZ) /\
 (((NP P w cl T.aZ 2 VM/\NP P w cl T.b7 2 vh)/\OM P w cl mg T.b8 2 yS/\OM P w cl mg T.b9 2 jv/\OM P w cl mg T.ba 2 jR)/\(NP P w cl T.bc 2 Jy/\NP P w cl T.be 2 vQ/\NJ P w cl T.bf 2 1 jn)/\NP P w cl T.bh 2 jr/\NP P w cl T.bi 2 yQ/\NP P w cl T.bj 2 kC) /\
 ((OM P w cl mg T.bm 3 jS/\OM P w cl mg T.bn 3 js)/\NP P w cl T.bo 3 vp/\NJ P w cl T.bp 3 1 vN/\NJ P w cl T.bt 3 1 vw) /\
 (NP P w cl T.bu 4 jai/\NJ P w cl T.bv 4 1 kg) /\
 (NP P w cl T.bw 5 kF/\NJ P w cl T.bx 5 1 Jb) /\
 (NP P w cl T.bz 6 qQ/\NP P w cl T.bA 6 kI) /\
 NP P w cl T.bB 7 wW /\
 (NP P w cl T.bC 8 vq/\NP P w cl T.bD 8 qo) /\
 NP P w cl T.bE 9 jT /\
 NP P w cl T.bF 10 jaA:=by
 cases T;refine jeN ?_ λa=>jeN ?_ λb=>jeN ?_ λc=>jeN ?_ λh=>jeN ?_ λi=>jeN ?_ λk=>jeN ?_ λm=>jeN ?_ λl=>jeN ?_ λn=>?_
 all_goals repeat' apply And.intro
 all_goals
  (first | refine okR (by assumption) (λ_=>rfl) (λj f fd S F _ base=>?_) _ | refine okN (by assumption) λf fd S F base=>?_ | refine okO (by assumption) λf fd S F base=>?_)
  (first | refine' joU F.fn S rfl λe A outer s H E g=>?_ | refine' jlc F.fn S rfl λe A outer s H E g=>?_)
  apply Exists.intro
  repeat' first | exact rfl | (show QB _ _ _ _ _;first | apply joZ | apply qI | apply jpR | apply jmA | apply jnq | apply jje | apply jj8 | apply jiH | apply QP.fzb | apply QK.ix | apply QK.fld | apply QP.bb) | (show QSs _ _ _ _ _ _;first | apply jiw | apply jfI | apply jiY) | (show QP _ _ _ _ _;first | ((with_reducible show QP _ _ _ _ (pCB jmM _));refine' VD (jb4 rfl) jiz ?_ ze ?_) | ((with_reducible show QP _ _ _ _ (pCB yT _));refine' Qa (jbe rfl) jib ?_ jaE ?_) | ((with_reducible show QP _ _ _ _ (pCB jbS _));refine' VD (jcE rfl) jlO ?_ ze ?_) | ((with_reducible show QP _ _ _ _ (pCB xB _));refine' VD (zL rfl) jj3 ?_ xv ?_) | ((with_reducible show QP _ _ _ _ (pCB VX _));refine' Qa Q6 jks ?_ Yi ?_) | ((with_reducible show QP _ _ _ _ (pCB YA _));refine' Qa Qc jfp ?_ Y5 ?_) | ((with_reducible show QP _ _ _ _ (pCB jmy _));refine' VD (jcC rfl) jj3 ?_ jcr ?_) | ((with_reducible show QP _ _ _ _ (pCB jeb _));refine' Qa jb9 jjD ?_ zN ?_) | ((with_reducible show QP _ _ _ _ (xj "list" _));refine' jbv (T:="list") (by decide) ?_ ?_ Yi ?_) | ((with_reducible show QP _ _ _ _ (xj "tuple" _));refine' jbv (T:="tuple") (by decide) ?_ ?_ Y5 ?_) | ((with_reducible show QP _ _ _ _ (xj "str" _));refine' jbv (T:="str") (by decide) ?_ ?_ jdL ?_) | ((with_reducible show QP _ _ _ _ (xj "int" _));refine' jbv (T:="int") (by decide) ?_ ?_ zN ?_) | ((with_reducible show QP _ _ _ _ (xj "bool" _));refine' jbv (T:="bool") (by decide) ?_ ?_ jbh ?_) | ((with_reducible show QP _ _ _ _ (pBM "str" Q2 _ _));refine' jpV PySem.F.plainAttrs_str PySem.F.slot_str_split PySem.F.type_str_split je5 jgu ?_ ?_) | ((with_reducible show QP _ _ _ _ (pBM "str" jbg _ _));refine' jpV PySem.F.plainAttrs_str PySem.F.slot_str_join PySem.F.type_str_join jj7 jjZ ?_ ?_) | apply jpb | apply qS | apply jhn | apply jn2 | apply jn6 | apply jkG | apply jnx | apply jpu | apply joH | apply joj | apply jjF | apply jqx | apply jpA | apply jof | apply jon | apply jp4 | apply jpE | apply jgm | apply joB | apply jnv | apply joR | apply jjT | apply jlC | apply jqn | apply jmQ | apply jqs | apply jiZ | apply jfd | apply jgg | apply jnw | apply jqh | apply joE | apply QK.add | apply QK.call | apply jpt | apply QB.f) | (show QPs _ _ _ _ _;first | apply jji | apply jmP) | (show QE _ _ _ _ _;first | ((with_reducible show QE _ _ _ _ (dCB Qn _));refine' uK zX jbO ?_ zt ?_) | ((with_reducible show QE _ _ _ _ (dCB xB _));refine' uK (zL rfl) jj3 ?_ xv ?_) | apply jqf | apply jfG | apply jmB | apply jhY | apply jlL | apply jgB | apply jmg | apply jga | apply jmF | apply jn1 | apply jjl | apply jkB | apply jnU | apply QE.fz | apply jpj | apply QP.d) | (show QBs _ _ _ _ _;first | apply jjn | apply jmD) | (show QS _ _ _ _ _ _;first | apply jk0 | apply joT | apply jlw | apply QS.fz | apply xG (hsw:=by with_unfolding_all rfl) | apply jmb | apply jlW | apply jir | apply jby | apply jkn | apply jmz | apply jk4 | apply jd3 | apply jgz | apply jhH | apply jfN | apply jeR | apply jf6 | apply jay | apply jlg | apply jiR | apply jfk | apply jf1 | apply jhD | apply jd2 | apply joK | apply jiL | apply jlF) | (show QG _ _ _ _ _ _;first | apply jhC | apply jgP | apply QK.g_tup) | (show QT _ _ _ _ _;first | apply jlY | apply jmU | apply jnt | apply QW.t) | (show QGs _ _ _ _ _ _;first | apply jfM | apply jiW) | (show QDs _ _ _ _ _;first | apply jkh | apply jl9) | (show QIb _ _ _ _ _ _;first | apply ji5 | apply QI.b') | (show QL _ _ _ _ _ _;first | apply jk5 | apply jkC) | (show QI _ _ _ _ _ _;first | apply jmj | apply jiT | apply jie | apply jlR | apply jkT | apply jpi) | (show QJ _ _ _ _ _ _ _;first | apply ji2 | apply jjb) | (show QW _ _ _ _ _;first | apply jmm | apply jhW | apply jmN | apply jos) | (show QK3 _ _ _ _ _;first | apply jmY | apply qk3 | apply qk2) | apply jgn | (show QO _ _ _ _ _;first | apply jjQ | apply ji1) | apply jeU | (show QTE _ _ _ _ _;first | apply jmX | apply QT.d | apply QWE.test) | apply jp1 | apply jpZ | apply jqr | apply c_ne | apply jp3 | apply jqc | apply jqp | apply QK.c_notin | apply QK.c_ne | apply jal | apply zR | (show QWE _ _ _ _ _;first | apply jpp | apply jnp | apply jls | apply jis) | apply jbM | apply jeW | (show ∀(Z:Zn) (H:Hp),Rep _ _ _ _ _ _;intro _ _;apply_assumption) | exact Or.inl rfl | exact Or.inr rfl | exact Or.inr (Or.inl rfl) | exact Or.inr (Or.inr rfl) | exact λ_=>rfl | exact λ_ _=>rfl | exact λ_ _ _=>rfl | exact g.mono (by decide) | exact g.mono (by first | exact N0 _ | exact N8 (by decide)<|Nat.le_add_right _ _) | apply jgr | exact S.nd | (show BlockOk _ _ _ _;exact bkN S) | exact PassesOwn.never | exact jlB | exact jmf | (intro _ _ _ _;first | show QE _ _ _ _ _ | show QP _ _ _ _ _ | show QG _ _ _ _ _ _ | show QIf _ _ _ _ _ | show QT _ _ _ _ _ | show QKv _ _ _ _ _ _) | exact⟨rfl,rfl,rfl,rfl⟩ | exact ndN (by decide +kernel) | decide +kernel | with_unfolding_all rfl | assumption | exact a.1.1.1.1 | exact a.1.1.1.2 | exact a.1.1.2.1 | exact a.1.1.2.2.1 | exact a.1.1.2.2.2 | exact a.1.2.1.1 | exact a.1.2.1.2 | exact a.1.2.2.1 | exact a.1.2.2.2.1 | exact a.1.2.2.2.2 | exact a.2.1.1.1 | exact a.2.1.1.2 | exact a.2.1.2.1 | exact a.2.1.2.2.1 | exact a.2.1.2.2.2 | exact a.2.2.1.1 | exact a.2.2.1.2.1 | exact a.2.2.1.2.2 | exact a.2.2.2.1 | exact a.2.2.2.2.1 | exact a.2.2.2.2.2 | exact b.1.1.1 | exact b.1.1.2 | exact b.1.2.1 | exact b.1.2.2.1 | exact b.1.2.2.2 | exact b.2.1.1 | exact b.2.1.2.1 | exact b.2.1.2.2 | exact b.2.2.1 | exact b.2.2.2.1 | exact b.2.2.2.2 | exact c.1.1 | exact c.1.2 | exact c.2.1 | exact c.2.2.1 | exact c.2.2.2 | exact h.1 | exact h.2 | exact i.1 | exact i.2 | exact k.1 | exact k.2 | exact m | exact l.1 | exact l.2 | exact n | apply zR | apply jal | apply jiX | apply jo0
end
abbrev Lt(w:List Nat):Prop:=∀ c∈w,97<=c/\c<=122
def jcc(h1:Lt a)(h2:Lt b):Lt (a++b):=λc d=>(N3.mp d).elim (h1 c) (h2 c)
def jg3(h:97<=c/\c<=122):Lt [c]:=λd hd=>by rw[M9.mp hd];exact h
abbrev uF(ns:List Int):Prop:=∀ x∈ns,Builtin.Int.intBits x<=2 ^ 20
def QF(ns)(hb:uF ns)  (g:0<=k) (h1:k<=100000):∃ v,An3 (j9 [.lst false<|ns.map D.int,.int k]=some (.int v)) (0<=v) (v<170141183460469231731687303715884105727):=by
 have m:0<=7919000003*k*k/\7919000003*k*k<=7919000003*100000*100000:=⟨Int.mul_nonneg ∅ g,Int.mul_le_mul ∅ h1 g ∅⟩;have a:(91343852333181432387730302044767688731+7919000003*k*k).natAbs<2 ^ 1000:=by lia
 cases ns with
 | nil=>
  have h:=Yd (i:=0+k+1) ∅ a;refine⟨(0+k+1)*(91343852333181432387730302044767688731+7919000003*k*k)%170141183460469231731687303715884105727,?_,U1 _<|by decide,U0 _<|by decide⟩;simp(disch:=lia) [j9,jx,Yq,Yd,ji,-Int.zero_add]
 | cons c C=>
  have j:0<((c::C).length:Int):=by simp
  have g2:=U0 k j;have b:(k%((c::C).length:Int)).toNat<(c::C).length:=by lia
  have hi:jd (.lst false<|(c::C).map D.int) (.int<|k%((c::C).length:Int))=some (.int (c::C)[(k%((c::C).length:Int)).toNat]):=by
   rw[jbs (U1 k<|show((c::C).length:Int)≠0 by lia)<|by rw[L1];exact g2,List.getElem?_map,X9 b];rfl
  have l:=hb _<|List.getElem_mem b;generalize(c::C)[(k%((c::C).length:Int)).toNat]=z at hi l;have h:=jig (i:=z+k+1) (by rw[Int.add_assoc];exact jeL l ∅) a;have d:((c::C).length:Int)=(((c::C).map D.int).length:Int):=by simp
  rw[d] at hi g2 j;refine⟨(z+k+1)*(91343852333181432387730302044767688731+7919000003*k*k)%170141183460469231731687303715884105727,?_,U1 _<|by decide,U0 _<|by decide⟩;generalize(c::C).map D.int=NS at *;have e:0<NS.length:=by lia
  have f:¬ NS=[]:=λz=>by rw[z] at e;simp at e
  simp(disch:=lia) [j9,jx,Yq,Yd,ji,f,hi,h]
def vb(ns:List Int):frzs (ns.map D.int)=true:=yH (λ_=>rfl) _
def Ym(ns:List Int):fzs (ns.map D.int)=ns.map D.int:=vk (λ_=>rfl) _
noncomputable abbrev At(n:Int):D:=.lst true [.int n]
theorem ve(ns)(hb:uF ns)  (c:0<=n) (h1:n<100000):∃ v,jn [.lst false<|ns.map D.int,At n]=some (.int v,At<|n+1)/\0<=v:=by
 obtain⟨v,e,g,_⟩:=QF ns hb (k:=n+1) ∅ ∅;refine⟨v,?_,g⟩;have a:jd (At n) (.int 0)=some (.int n):=rfl;have b:jd (At<|n+1) (.int 0)=some (.int<|n+1):=rfl;unfold jn;rw[vW];simp[Kr,a,b,ixN,e,YJ]
def YW(e:0<=n):∃ v,An3 (jB [.int n]=some (.int v)) (1<=v) (v<=1000000000000):=by
 have p3:Jo (.int 10) (.int 12)=some (.int 1000000000000):=rfl;by_cases a:n%4=0
 ·by_cases c:n/4%2=0
  ·exact⟨1,by simp(disch:=lia) [jB,jx,vJ,ji,jy,a,c,jb];rfl,by decide,by decide⟩
  ·have d:n/4%2=1:=by lia
   exact⟨1000000000000,by simp(disch:=lia) [jB,jx,vJ,ji,jy,a,d,jb];rfl,by decide,by decide⟩
 ·by_cases b:n%4=1
  ·exact⟨1+n/4%20,by simp(disch:=lia) [jB,jx,vJ,ji,jy,b],by lia,by lia⟩
  ·exact⟨1+n/4%1000000000000,by simp(disch:=lia) [jB,jx,vJ,ji,jy,a,b,p3],by lia,by lia⟩
noncomputable def ABC:List Nat:=[97,98,99,100,101,102,103,104,105,106,107,108,109,110,111,112,113,114,115,116,117,118,119,120,121,122]
def jdn(a:0<=i)(h1:i<26):jd (.str ABC) (.int i)=some (.str [ABC.getD i.toNat 0]):=jp9 (by decide) a (by have:ABC.length=26:=rfl;lia)
def jbB(i:Int)(a:0<=i)(h1:i<26):97<=ABC.getD i.toNat 0/\ABC.getD i.toNat 0<=122:=by
 have:∀ c∈ABC,97<=c/\c<=122:=by decide
 exact this _<|Y1 (by have:ABC.length=26:=rfl;lia)
def jj2:∀ i,i<26->∀ j,j<26->ABC.getD i 0=ABC.getD j 0->i=j:=by decide
noncomputable def KW:List (List Nat):=[[112,111,111,108],[99,108,97,105,109],[112,111,116],[101,97,116],[111,114,100,101,114],[112,97,114,116],[112,97,121],[115,104,97,114,101],[114,101,112,97,121],[102,105,108,108],[108,101,110,100],[98,97,99,107],[114,101,115,116],[108,111,111,107],[103,117,97,114,100],[100,101,98,116],[111,110],[108,97,116,101],[101,97,114,108,121],[113,117,105,116]]
def xD:vg []=↑(KW.map D.str):=by
 have a:jgX [112,111,111,108,32,99,108,97,105,109,32,112,111,116,32,101,97,116,32,111,114,100,101,114,32,112,97,114,116,32,112,97,121,32,115,104,97,114,101,32,114,101,112,97,121,32,102,105,108,108,32,108,101,110,100,32,98,97,99,107,32,114,101,115,116,32,108,111,111,107,32,103,117,97,114,100,32,100,101,98,116,32,111,110,32,108,97,116,101,32,101,97,114,108,121,32,113,117,105,116] [32]=KW:=by decide +kernel
 have b:Q2 (.str [112,111,111,108,32,99,108,97,105,109,32,112,111,116,32,101,97,116,32,111,114,100,101,114,32,112,97,114,116,32,112,97,121,32,115,104,97,114,101,32,114,101,112,97,121,32,102,105,108,108,32,108,101,110,100,32,98,97,99,107,32,114,101,115,116,32,108,111,111,107,32,103,117,97,114,100,32,100,101,98,116,32,111,110,32,108,97,116,101,32,101,97,114,108,121,32,113,117,105,116]) [.str [32]]=↑(KW.map D.str):=by
  rw[<- a];rfl
 simp[vg,jx,Jh,b]
def jhp(w)(o)(l:W1):QR false (.str w) (.lst o<|l.map D.str)=some (.bl<|decide<|w∈l):=by
 show(bif jho (.str w) (l.map D.str) then some (D.bl<|false != inL (.str w) (l.map D.str)) else none)=_;rw[zI,uD];simp
def jdC:∀ ws:List (List Nat),V1 [] ws=ws.flatten
 | []=>rfl
 | w::ws=>by rw[Kk];simp
structure Nm(w:List Nat):Prop where
 l:w.length<=9
 r:Lt w
def jci{l:W1}(h:∀ w∈l,w.length=1/\Lt w):(l.map List.length).sum=l.length/\l.flatten.length=l.length/\Lt l.flatten:=by
 induction l with
 | nil=>exact⟨rfl,rfl,λc a=>by simp at a⟩
 | cons w l b=>
  have d:=b λx e=>h x (by simp[e]);have f:=h w (by simp);refine⟨by simp only[L5,List.sum_cons,M3];lia,by simp only[List.flatten_cons,N5,M3];lia,?_⟩;intro c a;rw[List.flatten_cons,N3] at a;exact a.elim (f.2 c)<|d.2.2 c
noncomputable def sp(s:Int):Int:=s/6%(2+s%6-1)
noncomputable def two(s k:Int):List Nat:=[ABC.getD ((s/7+k/26)%26).toNat 0,ABC.getD ((s/3+k)%26).toNat 0]
def nmW(s:Int)(W:List Nat)(k:Int):List Nat:=J9 W none (some<|sp s)++two s k++J9 W (some<|sp s+2) none
def nmF(s:Int)(W:List Nat)(k:Int):List Nat:=if nmW s W k∈KW then nmW s W k++[122] else nmW s W k
def joF(a:0<=s):0<=sp s/\sp s+2<=2+s%6:=by
 have b:=U1 (s/6) (show(2+s%6-1)≠0 by lia);have g2:=U0 (s/6) (show 0<(2+s%6-1) by lia);unfold sp
 lia
structure Bse(s:Int)(W:List Nat):Prop where
 s0:0<=s
 l:W.length=(2+s%6).toNat
 r:Lt W
def two_lt(b:0<=s)(d:0<=k):Lt (two s k):=λc a=>by
 simp only[two,M5,List.not_mem_nil,or_false] at a;rcases a with rfl | rfl
 ·exact jbB _ ∅ ∅
 ·exact jbB _ ∅ ∅
def u9(h:Bse s W)(d:0<=k):(nmW s W k).length=(2+s%6).toNat/\Lt (nmW s W k):=by
 have b:=joF h.s0;have e:=h.l;refine⟨?_,jcc (jcc (λc a=>h.r c<|jac a)<|two_lt h.s0 d) λc a=>h.r c<|jac a⟩;unfold nmW;rw[N5,N5,jfR _ b.1,jbk _ ∅,E1,List.length_drop];show min _ _+2+_=_
 lia
def um(h:Bse s W)(b:0<=k):Nm (nmF s W k):=by
 have a:=u9 h b;unfold nmF;split
 ·exact⟨by rw[N5,List.length_singleton];lia,jcc a.2<|jg3 ⟨by decide,by decide⟩⟩
 ·exact⟨by lia,a.2⟩
def Qb(h:Bse s W)(f:0<=k)(l:k<676)(g:0<=k')(m:k'<676)(e:nmF s W k=nmF s W k'):k=k':=by
 have a:=(u9 h f).1;have b:=(u9 h g).1;have e2:nmW s W k=nmW s W k':=by
  unfold nmF at e;by_cases c:nmW s W k∈KW<;>by_cases d:nmW s W k'∈KW
  ·rw[if_pos c,if_pos d] at e;exact List.append_cancel_right e
  ·rw[if_pos c,if_neg d] at e;have:=congrArg List.length e;simp at this;lia
  ·rw[if_neg c,if_pos d] at e;have:=congrArg List.length e;simp at this;lia
  ·lia
 injection (List.append_cancel_left<|List.append_cancel_right e2) with e4 e5;injection e5 with e5 _;have i:∀{x y:Int},ABC.getD (x%26).toNat 0=ABC.getD (y%26).toNat 0->x%26=y%26:=λe=>by have:=jj2 _ (by omega) _ (by omega) e;omega
 have j:=i e4;have e5:=i e5;have hd:∀{x:Int},0<=x->x<676->x/26%26=x/26:=λa b=>Int.emod_eq_of_lt (Int.ediv_nonneg a<|by decide)<|Int.ediv_lt_of_lt_mul (by decide) b;rw[Int.emod_add_cancel_left,hd f l,hd g m] at j;rw[<- Int.mul_ediv_add_emod k 26,j,Int.emod_add_cancel_left.mp e5,Int.mul_ediv_add_emod]
def jiI{s:Int}(I:0<=s):∃ W:List Nat,Bse s W/\∀ k:Int,0<=k->jr [.int s,.int k]=some (.str<|nmF s W k):=by
 have g:=yw (j:=2+s%6) ∅ ∅;have h:lim (kY 0 (2+s%6).toNat).length=true:=jb (by rw[jP];lia);obtain⟨S,l,v,J⟩:=KN (G:=jc [] 0) (p:=pF<|p2 jd (pV 1)<|p2 jl (p2 jk (p2 jH (pV 2)<|pI 42)<|p2 yR (p2 yR (pV 0)<|pV 0)<|p2 jl (p2 jH (pV 2)<|pI 1100)<|pI 5)<|pI 26) (Good:=λd=>∃ w,d=.str w/\(w.length=1/\Lt w)) (P:=λρ=>∃ o,ρ=[o,some<|.str ABC,some<|.int s]) (xs:=kY 0 (2+s%6).toNat) (by
  rintro x K ρ ⟨o,rfl⟩;obtain⟨i,hi,rfl⟩:=M7.mp K;have hi:=List.mem_range.mp hi;have L:0<=(0+i)*(0+(i:Int))/\(0+i)*(0+(i:Int))<=8*8:=⟨Int.mul_nonneg ∅ ∅,Int.mul_le_mul ∅ ∅ ∅ ∅⟩;have l:=jdn (i:=(s/42+(0+i)*(0+i)*(s/1100%5))%26) ∅ ∅;have y:=jbB ((s/42+(0+i)*(0+i)*(s/1100%5))%26) ∅ ∅;generalize ABC.getD ((s/42+(0+i)*(0+i)*(s/1100%5))%26).toNat 0=c at l y;refine⟨[some<|.int<|0+i,some<|.str ABC,some<|.int s],.str [c],rfl,?_,⟨[c],rfl,rfl,jg3 y⟩,_,rfl⟩;simp(disch:=lia) [qv,ji,jy,l,-Int.zero_add]) (ρ:=[none,some<|.str ABC,some<|.int s]) ⟨none,rfl⟩
 rw[jP] at v;obtain⟨W,rfl,M⟩:=YS (f:=D.str) (Q:=λw=>w.length=1/\Lt w) J;rw[L1] at v;obtain⟨T,U,N⟩:=jci M;have z:Ye [] W=true:=by
  unfold Ye;simp only[List.length_nil,Nat.mul_zero];exact X4 ∅
 have A:Bse s W.flatten:=⟨I,by lia,N⟩;refine⟨W.flatten,A,λk O=>?_⟩;have B:=jdn (i:=(s/7+k/26)%26) ∅ ∅;have e2:=jdn (i:=(s/3+k)%26) ∅ ∅;have C:=u9 A O;have m:∀ lo hi,jn5 lo hi (.str W.flatten)=some (.str<|J9 W.flatten lo hi):=λlo hi=>jqt ∅;have q:jl (.int<|s/6) (.int<|2+s%6-1)=some (.int<|s/6%(2+s%6-1)):=ji ∅;have r:s/6%(2+s%6-1)=sp s:=rfl;rw[r] at q;unfold nmF nmW two at *;generalize ABC.getD ((s/7+k/26)%26).toNat 0=c1,ABC.getD ((s/3+k)%26).toNat 0=c2,sp s=sp at *;have s1:=m none<|some sp;have s2:=m (some<|sp+2) none;generalize J9 W.flatten none (some sp)=X1,J9 W.flatten (some<|sp+2) none=X2 at *;have t:=C.1;rw[N5,N5] at t;have a0:jk (.str [c1]) (.str [c2])=some (.str [c1,c2]):=uW (a:=[c1]) (b:=[c2]) (by simp);have E:=uW (a:=X1) (b:=[c1,c2]) ∅;have F:=uW (a:=X1++([c1,c2])) (b:=X2) (by simp at *;lia);generalize X1++([c1,c2])++X2=w at *;have H:=jhp w true KW;have R:=uW (a:=w) (b:=[122]) (by have:=C.1;simp;lia);have ek:=xD;have u:V1 [] W=W.flatten:=jdC W;rw[<- u] at s1 s2;generalize KW.map D.str=KL at *;have n:([97,98,99,100,101,102,103,104,105,106,107,108,109,110,111,112,113,114,115,116,117,118,119,120,121,122]:List Nat)=ABC:=rfl;by_cases e:w∈KW
 ·rw[if_pos e];unfold jr;rw[jx];unfold Yu;rw[n];simp(disch:=lia) [ji,jy,q,g,h,l,z,B,e2,a0,s1,s2,E,F,ek,H,R,e,jo,List.getElem?_cons_zero,Option.join,-List.append_assoc]
 ·rw[if_neg e];unfold jr;rw[jx];unfold Yu;rw[n];simp(disch:=lia) [ji,jy,q,g,h,l,z,B,e2,a0,s1,s2,E,F,ek,H,e,jo,List.getElem?_cons_zero,Option.join,-List.append_assoc]
def sq(h:f ρ=some (.nx ρ'))(k:g ρ'=r):jf f g ρ=r:=by
 rw[jhj,h];exact k
def lpF(h:(G x ρ).bind f=some (.nx ρ2)):jY G f (x::xs) ρ=jY G f xs ρ2:=by
 refine ob h λr a b=>?_;rw[yx,a,L4,b];rfl
def cpE(h:G x ρ=some ρ1)(k:p ρ1=some y):ya G qT p (x::xs) ρ=(ya G qT p xs ρ1).bind λys=>some (y::ys):=by
 rw[yP,h,L4,qT,L4,cond_true,k];rfl
def lpE(h:G x ρ=some ρ1)(k:f ρ1=some (.nx ρ2)):jY G f (x::xs) ρ=jY G f xs ρ2:=by
 rw[yx,h,L4,k];rfl
noncomputable abbrev ki:List Nat:=[115,104,97,114,101]
noncomputable abbrev YC:List Nat:=[114,101,112,97,121]
noncomputable abbrev jkz:List Nat:=[112,97,121]
noncomputable abbrev ja3:List Nat:=[102,105,108,108]
noncomputable abbrev qd:List Nat:=[108,101,110,100]
noncomputable abbrev VS:List Nat:=[98,97,99,107]
noncomputable abbrev jfB:List Nat:=[114,101,115,116]
def jcD(C P O:W1)(kw w:List Nat):Prop:=((kw=jkz\/kw=YC\/kw=jfB)/\w∈C)\/(kw=ja3/\w∈P)\/(kw=VS/\w∈O)
inductive RuleS (C P O:W1):D->Prop where
 | two (kw w:List Nat) (hk:kw≠ki) (h1:Wd kw) (h2:Wd w) (hm:jcD C P O kw w):RuleS C P O (.tup [.str kw,.str w])
 | share (ws:W1) (hl:ws.length<=6) (h:∀ w∈ws,Wd w) (hm:∀ w∈ws,w∈C) (nd:ws.Nodup):RuleS C P O (.tup [.str ki,.tup (ws.map D.str)])
 | lend (w:List Nat) (i:Int) (h:Wd w) (hm:w∈O):RuleS C P O (.tup [.str [108,101,110,100],.str w,.int i])
def RuleS.fz(h:RuleS C P O d):QD.fz d=d:=by cases h<;>simp
def RuleS.frz(h:RuleS C P O d):QD.frz d=true:=by cases h<;>simp
def JX(h:w.all (λc=>decide<|c<200)=true)(a:w.length<=30):Wd w:=⟨a,λc b=>by
 have:=X6<|List.all_eq_true.mp h c b;lia⟩
noncomputable abbrev W2:=List Nat×Int
noncomputable def e2(p:W2):D:=.tup [.str p.1,.int p.2]
def JM(l:List W2):fzs (l.map e2)=l.map e2:=vk (λ_=>rfl) _
def yg(l:List W2):frzs (l.map e2)=true:=yH (λ_=>rfl) _
def Qk{l:List W2}(h:∀ p∈l,Wd p.1)(n):kz (n+1) (l.map e2)=true:=Vm λd hd=>by
 obtain⟨p,a,rfl⟩:=M7.mp hd;show kz n [.str p.1,.int p.2]=true;simp[kz,Jp (h p a).2]
structure OrdS where
 nm:List Nat
 parts:List W2
 rules:List D
def yj(o:Bool)(x:OrdS):D:=.tup [.str x.nm,.lst false<|x.parts.map e2,.lst o x.rules]
structure OrdOk(C P O:W1)(x:OrdS):Prop where
 nm:Wd x.nm
 parts:∀ p∈x.parts,Wd p.1/\1<=p.2/\p.2<=10/\p.1∈C
 plen:x.parts.length<=10
 rules:∀ d∈x.rules,RuleS C P O d
 len:x.rules.length<=10
def OrdOk.fzr(h:OrdOk C P O x):fzs x.rules=x.rules:=uE λd hd=>(h.rules d hd).fz
def OrdOk.frzr(h:OrdOk C P O x):frzs x.rules=true:=qN λd hd=>(h.rules d hd).frz
def OrdOk.frz(h:OrdOk C P O x):QD.frz (yj false x)=true:=by
 simp[yj,h.frzr,yg]
noncomputable abbrev W3:=List Nat×Int×Int
noncomputable def e3(p:W3):D:=.tup [.str p.1,.int p.2.1,.int p.2.2]
noncomputable abbrev WL:=List Nat×Int×List Nat
noncomputable def eL(p:WL):D:=.tup [.str p.1,.int p.2.1,.str p.2.2]
noncomputable abbrev WG:=List Nat×List Nat
noncomputable def eG(p:WG):D:=.tup [.str p.1,.str p.2]
def Kv(l:List W3):fzs (l.map e3)=l.map e3:=vk (λ_=>rfl) _
def km(l:List W3):frzs (l.map e3)=true:=yH (λ_=>rfl) _
def jem(l:List WL):fzs (l.map eL)=l.map eL:=vk (λ_=>rfl) _
def QH(l:List WL):frzs (l.map eL)=true:=yH (λ_=>rfl) _
def jg8(l:List WG):fzs (l.map eG)=l.map eG:=vk (λ_=>rfl) _
def xV(l:List WG):frzs (l.map eG)=true:=yH (λ_=>rfl) _
def Nm.wd(h:Nm w):Wd w:=⟨by have:=h.l;lia,λc a=>by have:=h.r c a;lia⟩
noncomputable def cyc(C:W1)(a:Int)(q:Nat):List (List Nat):=(List.range q).map λi:Nat=>C.getD ((a+(0+(i:Int)))%(C.length:Int)).toNat []
def jbI{C:W1}{a}(h:0<C.length)(i:Nat):((a+(0+(i:Int)))%(C.length:Int)).toNat<C.length:=by
 have y:=U0 (a+(0+i)) (show 0<(C.length:Int) by lia)
 lia
def jei(h:0<C.length):∀ w∈cyc C a q,w∈C:=λw b=>by
 obtain⟨i,_,rfl⟩:=M7.mp b;exact Y1<|jbI h i
def xU:(cyc C a q).length=q:=by simp[cyc]
def zU{C}{a}{q}(h:0<C.length)(f:q<=C.length)(d:C.Nodup):(cyc C a q).Nodup:=by
 unfold cyc List.Nodup;rw[List.pairwise_map];refine List.Pairwise.imp_of_mem ?_<|List.nodup_range;intro i j hi c b e;refine b ?_;have hi:=List.mem_range.mp hi;have c:=List.mem_range.mp c;rw[List.getD_eq_getElem?_getD,List.getD_eq_getElem?_getD,X9<|jbI (a:=a) h i,X9<|jbI (a:=a) h j,Option.getD_some,Option.getD_some] at e;have e2:=(List.getElem_inj d).mp e;have g:=U1 (a+(0+i)) (show(C.length:Int)≠0 by lia);have k:=U1 (a+(0+j)) (show(C.length:Int)≠0 by lia);have e3:(a+(0+i))%C.length=(a+(0+j))%C.length:=by lia
 have l:=Int.mul_ediv_add_emod (a+(0+i)) C.length;have m:=Int.mul_ediv_add_emod (a+(0+j)) C.length;generalize(a+(0+i))/C.length=u at *;generalize(a+(0+j))/C.length=v at *;have n:u-v=0:=by
  by_cases z:u-v=0
  ·exact z
  ·exfalso;rcases Int.lt_or_gt_of_ne z with z | z
   ·have:=Int.mul_le_mul_of_nonneg_left (show u-v<=-1 by lia) (show 0<=(C.length:Int) by lia)
    lia
   ·have:=Int.mul_le_mul_of_nonneg_left (show 1<=u-v by lia) (show 0<=(C.length:Int) by lia)
    lia
 lia
def jaw{T:List W3}{i:Int}(h:0<=i)(h2:i<T.length):∃ t∈T,jd (.lst o<|T.map e3) (.int i)=some (e3 t)/\(T.map (·.1)).getD i.toNat []=t.1:=by
 have a:i.toNat<T.length:=by lia
 refine⟨T[i.toNat],List.getElem_mem a,?_,?_⟩
 ·rw[jbs h<|by rw[L1];exact h2,List.getElem?_map,X9 a];rfl
 ·grind
def jkH{T:List W2}{i:Int}(h:0<=i)(h2:i<T.length):∃ t∈T,jd (.lst o<|T.map e2) (.int i)=some (e2 t):=by
 have a:i.toNat<T.length:=by lia
 refine⟨T[i.toNat],List.getElem_mem a,?_⟩;rw[jbs h<|by rw[L1];exact h2,List.getElem?_map,X9 a];rfl
def i30:jd (e3 t) (.int 0)=some (.str t.1):=rfl
def i20:jd (e2 t) (.int 0)=some (.str t.1):=rfl
def uN{T:List W3}{n c}{q}(g:0<T.length)(d:T.length<=6)(h:0<c)(e:c<=1000)(j:0<=n):ya (jc [] 0) qT (pF<|p2 jd (p2 jd (pV 1)<|p2 jl (p2 jk (p2 jH (pV 2)<|pI c)<|pV 0)<|pV 3)<|pI 0) (kY 0 q) [none,some<|.lst o<|T.map e3,some<|.int n,some<|.int (T.length:Int)]=some ((cyc (T.map (·.1)) (n/c) q).map D.str):=by
 unfold cyc;rw[U2];refine jC rfl (λρ=>∃ z,ρ=[z,some<|.lst o<|T.map e3,some<|.int n,some<|.int T.length]) ?_ ⟨none,rfl⟩;rintro i hi ρ ⟨z,rfl⟩;obtain⟨t,_,f,gt⟩:=jaw (o:=o) (U1 (n/c+(0+i))<|show(T.length:Int)≠0 by lia)<|U0 (n/c+(0+i)) (show 0<(T.length:Int) by lia);have a:jl (.int<|n/c+(0+i)) (.int T.length)=some (.int<|(n/c+(0+i))%T.length):=ji ∅;have b:jH (.int n) (.int c)=some (.int<|n/c):=jy ∅ ∅;refine⟨[some<|.int<|0+i,some<|.lst o<|T.map e3,some<|.int n,some<|.int T.length],rfl,?_,_,rfl⟩;show _=some (D.str ((T.map (·.1)).getD ((n/c+(0+i))%((T.map (·.1)).length:Int)).toNat []));rw[L1,gt];simp[b,a,f,i30 (t:=t),-Int.zero_add]
def Yv:FS:=(jf (sIf (dPT<|uQ (jj<|p2 kH (pV 4)<|pI 1)<|jj<|p2 YK (pV 5)<|pI 1) (jf (jt (dP<|p2 jk (pI 2)<|p2 jl (p2 jH (pV 0)<|pI 50)<|p2 Yo (pV 5)<|pI 1)<|jc [] 7)<|yb<|dP<|yF #[pS [115,104,97,114,101],pCB YA #[yi (kG #[pV 7]) (jc [] 0) qT (pF<|p2 jd (p2 jd (pV 1)<|p2 jl (p2 jk (p2 jH (pV 2)<|pI 400)<|pV 0)<|pV 3)<|pI 0) [none,some 1,some 0,some 5]]])
 jN)<|jf (sIf (dPT<|jj<|p2 kH (pV 4)<|pI 2) (yb<|dP<|yF #[pS [114,101,112,97,121],pF<|pV 6])
 jN)<|jf (sIf (dPT<|uQ (jj<|p2 kH (pV 4)<|pI 3)<|jj<|p2 YK (pCB qj #[pV 2])<|pI 0) (yb<|dP<|yF #[pS [102,105,108,108],pF<|p2 jd (p2 jd (pV 2)<|p2 jl (p2 jH (pV 0)<|pI 50)<|pCB qj #[pV 2])<|pI 0])
 jN)<|jf (sIf (dPT<|uQ (jj<|p2 kH (pV 4)<|pI 4)<|jj<|p2 YK (pCB qj #[pV 3])<|pI 0) (yb<|dP<|yF #[pS [108,101,110,100],pF<|p2 jd (pV 3)<|p2 jl (p2 jH (pV 0)<|pI 50)<|pCB qj #[pV 3],ju jB #[p2 jH (pV 0)<|pI 400]])
 jN)<|jf (sIf (dPT<|uQ (jj<|p2 kH (pV 4)<|pI 5)<|jj<|p2 YK (pCB qj #[pV 3])<|pI 0) (yb<|dP<|yF #[pS [98,97,99,107],pF<|p2 jd (pV 3)<|p2 jl (p2 jH (pV 0)<|pI 50)<|pCB qj #[pV 3]])
 jN)<|yb<|dP<|yF #[pS [112,97,121],pF<|pV 6])
def jfj:Ka=jf (jt (dP<|p2 jl (pV 0)<|pI 7)<|jc [] 4) (jf (jt (dP<|pCB qj #[pV 1])<|jc [] 5)<|jf (jt (dP<|pF<|p2 jd (p2 jd (pV 1)<|p2 jl (p2 jH (pV 0)<|pI 7)<|pV 5)<|pI 0)<|jc [] 6) Yv):=rfl
def ji7{n:Int}(P:0<=n){T:List W3}{M:List W2}{O:W1}(h1:1<=T.length)(h2:T.length<=6)(hM:M.length<=100)(hO:O.length<=100)(x:∀ t∈T,Wd t.1)(Q:∀ t∈M,Wd t.1)(K:∀ w∈O,Wd w)(R:(T.map (·.1)).Nodup):∃ r,yQ [.int n,.lst false<|T.map e3,.lst false<|M.map e2,.lst false<|O.map D.str]=some r/\RuleS (T.map (·.1)) (M.map (·.1)) O r:=by
 obtain⟨c,y,S,_⟩:=jaw (o:=false) (U1 (n/7)<|show(T.length:Int)≠0 by lia)<|U0 (n/7) (show 0<(T.length:Int) by lia);have k:c.1∈T.map (·.1):=M7.mpr ⟨c,y,rfl⟩;have b:(((T.map e3).length:Nat):Int)=T.length:=by simp
 have f:(((M.map e2).length:Nat):Int)=M.length:=by simp
 have g:(((O.map D.str).length:Nat):Int)=O.length:=by simp
 have A:jl (.int<|n/7) (.int T.length)=some (.int<|n/7%T.length):=ji ∅;have pre:yQ [.int n,.lst false<|T.map e3,.lst false<|M.map e2,.lst false<|O.map D.str]=(Yv [some<|.int n,‹T.map e3›,‹M.map e2›,‹O.map D.str›,some<|.int<|n%7,some<|.int T.length,some<|.str c.1,none]).bind Out.val:=by
  simp(disch:=lia) [yQ,jx,jfj,ji,jy,b,A,S,i30 (t:=c)]
 rw[pre];by_cases w1:n%7=1/\1<(T.length:Int)
 ·have d1:=U1 (n/50) (show(T.length:Int)-1≠0 by lia);have d2:=U0 (n/50) (show 0<(T.length:Int)-1 by lia);have U:jl (.int<|n/50) (.int<|T.length-1)=some (.int<|n/50%(T.length-1)):=ji ∅;generalize n/50%(T.length-1)=sz at *;have B:=yw (j:=2+sz) ∅ ∅;have E:lim (kY 0 (2+sz).toNat).length=true:=jb (by rw[jP];lia);have V:=uN (o:=false) (T:=T) (n:=n) (c:=400) (q:=(2+sz).toNat) ∅ h2 (by decide) (by decide) P;have L:0<(T.map (·.1)).length:=by rw[L1];lia
  have N:=jei (C:=T.map (·.1)) (a:=n/400) (q:=(2+sz).toNat) L;refine⟨.tup [.str ki,.tup ((cyc (T.map (·.1)) (n/400) (2+sz).toNat).map D.str)],?_,.share _ (by rw[xU];lia) (λw W=>by obtain⟨t,X,rfl⟩:=M7.mp<|N w W;exact x t X) N<|zU L (by rw[L1];lia) R⟩;have Y:lim ((cyc (T.map (·.1)) (n/400) (2+sz).toNat).map D.str).length=true:=jb (by rw[L1,xU];lia);have Z:=yk (cyc (T.map (·.1)) (n/400) (2+sz).toNat);generalize(cyc (T.map (·.1)) (n/400) (2+sz).toNat).map D.str=WW at *;generalize T.map e3=CC,M.map e2=PP,O.map D.str=OO,kY 0 (2+sz).toNat=RR at *;simp(disch:=lia) [Yv,ji,jy,b,w1.1,w1.2,U,B,E,V,Z,kU (cyc (T.map (·.1)) (n/400) (2+sz).toNat),Y,jb,jo,List.getElem?_cons_zero,Option.join]
 have F:n%7=1->¬ 1<(T.length:Int):=λz q=>w1 ⟨z,q⟩;by_cases w2:n%7=2
 ·refine⟨.tup [.str YC,.str c.1],?_,.two _ _ (by decide) (JX rfl<|by decide) (x c y)<|.inl ⟨.inr<|.inl rfl,k⟩⟩;generalize T.map e3=CC,M.map e2=PP,O.map D.str=OO at *;generalize(T.length:Int)=tl at *;generalize(M.length:Int)=ml at *;generalize(O.length:Int)=ol at *;simp(disch:=lia) [Yv,ji,jy,b,w2,jb]
 by_cases G:n%7=3/\(0:Int)<(M.length:Int)
 ·have p1:=U1 (n/50) (show(M.length:Int)≠0 by lia);have p2:=U0 (n/50) (show 0<(M.length:Int) by lia);obtain⟨q,h,m⟩:=jkH (o:=false) p1 p2;have q0:=i20 (t:=q);have e:jl (.int<|n/50) (.int (M.length:Int))=some (.int<|n/50%(M.length:Int)):=ji ∅;refine⟨.tup [.str ja3,.str q.1],?_,.two _ _ (by decide) (JX rfl<|by decide) (Q q h)<|.inr<|.inl ⟨rfl,M7.mpr ⟨q,h,rfl⟩⟩⟩;generalize T.map e3=CC,M.map e2=PP,O.map D.str=OO at *;generalize(T.length:Int)=tl at *;generalize(M.length:Int)=ml at *;generalize(O.length:Int)=ol at *;generalize e2 q=EQ at *;simp(disch:=lia) [Yv,ji,jy,b,f,G.1,G.2,e,m,q0,jb]
 have H:n%7=3->¬ (0:Int)<(M.length:Int):=λz q=>G ⟨z,q⟩;have p:(0:Int)<(O.length:Int)->∃ q∈O,jd (.lst false<|O.map D.str) (.int<|n/50%(O.length:Int))=some (.str q)/\jl (.int<|n/50) (.int (O.length:Int))=some (.int<|n/50%(O.length:Int)):=λz=>by
  have p2:=U0 (n/50) z;exact⟨_,Y1 (l:=O) (i:=(n/50%(O.length:Int)).toNat) (d:=[]) ∅,xX (o:=false) (l:=O) (U1 (n/50)<|show(O.length:Int)≠0 by lia) p2,ji ∅⟩
 by_cases s:n%7=4/\(0:Int)<(O.length:Int)
 ·obtain⟨q,h,m,e⟩:=p s.2;obtain⟨v,ev,_⟩:=YW (n:=n/400) ∅;refine⟨.tup [.str qd,.str q,.int v],?_,.lend _ _ (K q h) h⟩;generalize T.map e3=CC,M.map e2=PP,O.map D.str=OO at *;generalize(T.length:Int)=tl at *;generalize(M.length:Int)=ml at *;generalize(O.length:Int)=ol at *;simp(disch:=lia) [Yv,ji,jy,b,f,g,s.1,s.2,e,m,ev,jb]
 have I:n%7=4->¬ (0:Int)<(O.length:Int):=λz q=>s ⟨z,q⟩;by_cases u:n%7=5/\(0:Int)<(O.length:Int)
 ·obtain⟨q,h,m,e⟩:=p u.2;refine⟨.tup [.str VS,.str q],?_,.two _ _ (by decide) (JX rfl<|by decide) (K q h)<|.inr<|.inr ⟨rfl,h⟩⟩;generalize T.map e3=CC,M.map e2=PP,O.map D.str=OO at *;generalize(T.length:Int)=tl at *;generalize(M.length:Int)=ml at *;generalize(O.length:Int)=ol at *;simp(disch:=lia) [Yv,ji,jy,b,f,g,u.1,u.2,e,m,jb]
 have J:n%7=5->¬ (0:Int)<(O.length:Int):=λz q=>u ⟨z,q⟩;refine⟨.tup [.str jkz,.str c.1],?_,.two _ _ (by decide) (JX rfl<|by decide) (x c y)<|.inl ⟨.inl rfl,k⟩⟩;generalize T.map e3=CC,M.map e2=PP,O.map D.str=OO at *;generalize(T.length:Int)=tl at *;generalize(M.length:Int)=ml at *;generalize(O.length:Int)=ol at *;have z:n%7=0\/n%7=1\/n%7=3\/n%7=4\/n%7=5\/n%7=6:=by lia
 rcases z with z | z | z | z | z | z
 ·simp(disch:=lia) [Yv,ji,jy,z,jb]
 ·simp(disch:=lia) [Yv,ji,jy,z,F z,jb]
 ·simp(disch:=lia) [Yv,ji,jy,f,z,H z,jb]
 ·simp(disch:=lia) [Yv,ji,jy,g,z,I z,jb]
 ·simp(disch:=lia) [Yv,ji,jy,g,z,J z,jb]
 ·simp(disch:=lia) [Yv,ji,jy,z,jb]
def jgc{G}{Good:D->Prop}{P:Nat->Rh->Prop}:∀{xs}{k}(_:∀ x∈xs,∀ k' ρ,k'<k+xs.length->P k' ρ->∃ ρ1 y ρ2,G x ρ=some ρ1/\fe ρ1=some (y,ρ2)/\Good y/\P (k'+1) ρ2) {ρ}(_:P k ρ),Ex2 λys ρ'=>An4 (qk G fe xs ρ=some (ys,ρ')) (ys.length=xs.length) (∀ y∈ys,Good y) (P (k+xs.length) ρ'):=by
 intro xs
 induction xs with
 | nil=>
  intro k _ ρ b;exact⟨[],ρ,rfl,rfl,by simp,b⟩
 | cons x xs c=>
  intro k step ρ b;obtain⟨ρ1,y,ρ2,d,e2,g,p1⟩:=step x (by simp) k ρ (by simp) b;obtain⟨ys,ρ',e3,e,f,p2⟩:=c (λz a k' ρ h=>step z (by simp[a]) k' ρ<|by rw[M3];lia) p1;refine⟨y::ys,ρ',?_,by simp[e],λz a=>?_,by rw[M3,show k+(xs.length+1)=k+1+xs.length by lia];exact p2⟩
  ·rw[qk,d,L4,e2,L4,e3];rfl
  ·rcases M5.mp a with rfl | a
   ·lia
   ·exact f z a
def NmI(sd:Int)(W:List Nat)(hi:Int)(w:List Nat):Prop:=∃ k:Int,0<=k/\k<hi/\w=nmF sd W k
structure Ctx(ns:List Int)(sd:Int)(W:List Nat)(C:List W3)(P:List W2)(O:W1):Prop where
 b:uF ns
 bs:Bse sd W
 nm:∀ k:Int,0<=k->jr [.int sd,.int k]=some (.str<|nmF sd W k)
 c1:1<=C.length
 c6:C.length<=6
 p:P.length<=10
 o:O.length<=10
 cn:(C.map (·.1)).Nodup
 ci:∀ c∈C,NmI sd W 100 c.1
 pw:∀ c∈P,Wd c.1
 ow:∀ w∈O,Wd w
def NmI.wd(b:Bse sd W)(h:NmI sd W hi w):Wd w:=by
 obtain⟨k,a,_,rfl⟩:=h;exact(um b a).wd
def Ctx.cw(h:Ctx ns sd W C P O):∀ c∈C,Wd c.1:=λc a=>(h.ci c a).wd h.bs
def jbl(x:OrdS):D:=.tup [.str x.nm,.lst true<|x.parts.map e2,.lst true x.rules]
def jaX(h:Ctx ns sd W C P O)  (p:0<=m) (d:0<=n) (e:n<100000)  (r:L.length<=100) :
  ∃ q:W2,(Wd q.1/\1<=q.2/\q.2<=10/\q.1∈C.map (·.1))/\vB [‹ns.map D.int›,some<|At n,some nm,‹C.map e3›,‹P.map e2›,‹O.map D.str›,some<|.int m,some<|.int (C.length:Int),↑(L.map e2),some<|.int<|0+(i:Int),o10] =
   some (.nx [‹ns.map D.int›,some<|At<|n+1,some nm,‹C.map e3›,‹P.map e2›,‹O.map D.str›,some<|.int m,some<|.int (C.length:Int),↑((L++[q]).map e2),some<|.int<|0+(i:Int),o10]):=by
 obtain⟨v,j,s⟩:=ve ns h.b d e;have k:=h.c1;obtain⟨a,g,f,_⟩:=jaw (o:=false) (U1 (m/100+(0+i))<|show(C.length:Int)≠0 by lia)<|U0 (m/100+(0+i)) (show 0<(C.length:Int) by lia);have l:jl (.int<|m/100+(0+i)) (.int C.length)=some (.int<|(m/100+(0+i))%C.length):=ji ∅;refine⟨(a.1,1+v%10),⟨h.cw a g,by lia,by lia,M7.mpr ⟨a,g,rfl⟩⟩,?_⟩;have c:lim (L.map e2).length=true:=yD ∅;rw[N6];show _=some (Out.nx [_,_,_,_,_,_,_,_,↑(L.map e2++[.tup [.str a.1,.int<|1+v%10]]),_,_]);generalize L.map e2=LL at *;simp(disch:=lia) [vB,jy,ji,f,i30 (t:=a),j,c,-Int.zero_add]
def jeX(h:Ctx ns sd W C P O)  (g:0<=n) (j:n+20<=100000)  (y:k<=9):∃ Rs:List D,∃ o0:Option D,
  qk (jc [2] 0) (vU yQ<|jq (j8 jn 2 1<|ja (pF<|pV 1)<|pFs pN)<|jq (dP<|pF<|pV 3)<|jq (dP<|pF<|pV 4)<|jq (dP<|pF<|pV 5) Je) (kY 0 k) [none,‹ns.map D.int›,some<|At n,‹C.map e3›,‹P.map e2›,‹O.map D.str›] =
   some (Rs,[o0,‹ns.map D.int›,some<|At<|n+k,‹C.map e3›,‹P.map e2›,‹O.map D.str›])/\Rs.length=k/\∀ r∈Rs,RuleS (C.map (·.1)) (P.map (·.1)) O r:=by
 obtain⟨l,z,e,f,m,o0,rfl⟩:=jgc (G:=jc [2] 0) (fe:=vU yQ<|jq (j8 jn 2 1<|ja (pF<|pV 1)<|pFs pN)<|jq (dP<|pF<|pV 3)<|jq (dP<|pF<|pV 4)<|jq (dP<|pF<|pV 5) Je) (P:=λk ρ=>∃ o,ρ=[o,‹ns.map D.int›,some<|At<|n+k,‹C.map e3›,‹P.map e2›,‹O.map D.str›]) (xs:=kY 0 k) (k:=0) (by
  rintro x q a ρ c ⟨o,rfl⟩;rw[jP] at c;obtain⟨i,hi,rfl⟩:=M7.mp q;obtain⟨v,s,t⟩:=ve ns h.b (n:=n+a) ∅ ∅;obtain⟨r,u,w⟩:=ji7 t h.c1 h.c6 (by have:=h.p;lia) (by have:=h.o;lia) h.cw h.pw h.ow h.cn;have d:=vb ns;refine⟨[some<|.int<|0+i,‹ns.map D.int›,some<|At<|n+a,‹C.map e3›,‹P.map e2›,‹O.map D.str›],r,[some<|.int<|0+i,‹ns.map D.int›,some<|At<|n+a+1,‹C.map e3›,‹P.map e2›,‹O.map D.str›],rfl,?_,w,some<|.int<|0+i,?_⟩
  ·generalize ns.map D.int=NS at *;simp[s,u,d,km C,yg P,-Int.zero_add]
  ·rw[show n+((a+1:Nat):Int)=n+a+1 by lia]) (ρ:=[none,‹ns.map D.int›,some<|At n,‹C.map e3›,‹P.map e2›,‹O.map D.str›]) ⟨none,by simp⟩
 rw[jP] at f;refine⟨l,o0,?_,f,m⟩;rw[e,jP,show n+((0+k:Nat):Int)=n+k by lia]
def jf4(h:Ctx ns sd W C P O)  (v:0<=n) (U:n+50<=100000) (nm:List Nat) (V:Wd nm):Ex2 λ(x:OrdS) (n':Int)=>An5 (vN [.lst false<|ns.map D.int,At n,.str nm,.lst false<|C.map e3,.lst false<|P.map e2,.lst false<|O.map D.str]=some (jbl x,At n')) (x.nm=nm) (n<=n') (n'<=n+20) (OrdOk (C.map (·.1)) (P.map (·.1)) O x):=by
 obtain⟨m,X,Y⟩:=ve ns h.b v ∅;have Z:=h.c1;have hc6:=h.c6;have S:=U1 m (show(C.length:Int)+1≠0 by lia);have a2:=U0 m (show 0<(C.length:Int)+1 by lia);have g:jl (.int m) (.int<|C.length+1)=some (.int<|m%(C.length+1)):=ji ∅;generalize m%(C.length+1)=q1 at S a2 g;have w:0<=m/10%2/\m/10%2<=1:=by lia
 have A:0<=q1*(m/10%2)/\q1*(m/10%2)<=6*1:=⟨Int.mul_nonneg S w.1,Int.mul_le_mul ∅ w.2 w.1 ∅⟩;have a:yR (.int q1) (.int<|m/10%2)=some (.int<|q1*(m/10%2)):=qv ∅ ∅;generalize q1*(m/10%2)=q at A a;obtain⟨ρ',B,L,e,rfl,E,d⟩:=vR (G:=jc [1] 9) (f:=vB) (xs:=kY 0 q.toNat) (λi ρ=>∃(L:List W2) (e:Option D),ρ=[‹ns.map D.int›,some<|At<|n+1+i,some<|.str nm,‹C.map e3›,‹P.map e2›,‹O.map D.str›,some<|.int m,some<|.int C.length,↑(L.map e2),e,none]/\L.length=i/\∀ q∈L,Wd q.1/\1<=q.2/\q.2<=10/\q.1∈C.map (·.1)) (by
  rintro i x ρ hx ⟨L,e,rfl,E,d⟩;obtain⟨rfl,hi⟩:=kO hx;obtain⟨z,zk,ez⟩:=jaX h (n:=n+1+i) Y ∅ ∅ (nm:=.str nm) (L:=L) ∅ (i:=i) (o10:=none);refine⟨_,_,rfl,.inl ez,L++[z],some<|.int<|0+i,?_,by simp[E],λq A=>(N3.mp A).elim (d q) λy=>by rw[M9.mp y];exact zk⟩;rw[show n+1+(((i+1:Nat)):Int)=n+1+i+1 by lia]) (ρ:=[‹ns.map D.int›,some<|At<|n+1,some<|.str nm,‹C.map e3›,‹P.map e2›,‹O.map D.str›,some<|.int m,some<|.int C.length,some<|.lst true [],none,none]) ⟨[],none,by simp,rfl,by simp⟩
 rw[jP] at E B;have F:n+1+((q.toNat):Int)=n+1+q:=by lia
 rw[F] at B;obtain⟨l,o0,p,hRl,hR⟩:=jeX h (n:=n+1+q) ∅ ∅ (k:=(m/1000%9).toNat) ∅;have H:n+1+q+(((m/1000%9).toNat:Nat):Int)=n+1+q+m/1000%9:=by lia
 rw[H] at p;obtain⟨c,T,ic,_⟩:=jaw (o:=false) (U1 (m/10000)<|show(C.length:Int)≠0 by lia)<|U0 (m/10000) (show 0<(C.length:Int) by lia);have I:jl (.int<|m/10000) (.int C.length)=some (.int<|m/10000%C.length):=ji ∅;refine⟨⟨nm,L,l++[.tup [.str jfB,.str c.1]]⟩,n+1+q+m/1000%9,?_,rfl,by lia,by lia,⟨V,d,by show L.length<=10;lia,λr s=>?_,by show(l++[_]).length<=10;simp;lia⟩⟩
 rotate_left
 ·rcases N3.mp s with s | s
  ·exact hR r s
  ·rw[M9.mp s];exact .two _ _ (by decide) (JX rfl<|by decide) (h.cw c T)<|.inl ⟨.inr<|.inr rfl,M7.mpr ⟨c,T,rfl⟩⟩
 have u:=vb ns;have J:(((C.map e3).length:Nat):Int)=C.length:=by simp
 have K:lim l.length=true:=jb ∅;have M:zh (kG #[p2 jl (p2 jH (pV 6)<|pI 1000)<|pI 9]) (jc [2] 0) (vU yQ<|jq (j8 jn 2 1<|ja (pF<|pV 1)<|pFs pN)<|jq (dP<|pF<|pV 3)<|jq (dP<|pF<|pV 4)<|jq (dP<|pF<|pV 5) Je) [none,some 0,some 1,some 3,some 4,some 5] 1 2
   [‹ns.map D.int›,some<|At<|n+1+q,some<|.str nm,‹C.map e3›,‹P.map e2›,‹O.map D.str›,some<|.int m,some<|.int C.length,↑(L.map e2),e,none] =
   some (.lst true l,[‹ns.map D.int›,some<|At<|n+1+q+m/1000%9,some<|.str nm,‹C.map e3›,‹P.map e2›,‹O.map D.str›,some<|.int m,some<|.int C.length,↑(L.map e2),e,none]):=by
  have N:kG #[p2 jl (p2 jH (pV 6)<|pI 1000)<|pI 9] [‹ns.map D.int›,some<|At<|n+1+q,some<|.str nm,‹C.map e3›,‹P.map e2›,‹O.map D.str›,some<|.int m,some<|.int C.length,↑(L.map e2),e,none]=some (kY 0 (m/1000%9).toNat):=by
   simp(disch:=lia) [jy,ji,yw (j:=m/1000%9) ∅ ∅]
  have Q:YM 2 [none,‹ns.map D.int›,some<|At<|n+1+q,‹C.map e3›,‹P.map e2›,‹O.map D.str›]=true:=by
   simp[YM,u,km C,yg P,yk O]
  have R:lim (kY 0 (m/1000%9).toNat).length=true:=jb (by rw[jP];lia);unfold zh;rw[N,L4];show(bif lim (kY 0 (m/1000%9).toNat).length&&YM 2 [none,‹ns.map D.int›,some<|At<|n+1+q,‹C.map e3›,‹P.map e2›,‹O.map D.str›] then(qk _ _ _ [none,‹ns.map D.int›,some<|At<|n+1+q,‹C.map e3›,‹P.map e2›,‹O.map D.str›]).bind _ else none)=_;rw[R,Q,p];rfl
 unfold vN;rw[vW];show _=some (D.tup [.str nm,.lst true<|L.map e2,.lst true<|l++[.tup [.str [114,101,115,116],.str c.1]]],At _);simp(disch:=lia) [Vu,X,u,J,g,jy,ji,a,yw (j:=q) ∅ ∅,B,M,I,ic,i30 (t:=c),K,jb,YJ,-uu]
def O0(x):jd (yj false x) (.int 0)=some (.str x.nm):=rfl
def vt{C P O}{os:List OrdS}(h:∀ x∈os,OrdOk C P O x):frzs (os.map<|yj false)=true:=qN λd hd=>by
 obtain⟨x,a,rfl⟩:=M7.mp hd;exact(h x a).frz
def OrdOk.fzt(h:OrdOk C P O x):QD.fz (jbl x)=yj false x:=by
 simp[jbl,yj,JM x.parts,h.fzr]
def xK{ns:List Int}{C:List W3}{P:List W2}{O:W1}{W:List Nat}{a:Int}(h:Ctx ns a W C P O){n:Int}(L:0<=n)(hn1:n+100<=100000)  {X:List OrdS}(hX:X.length<=100) (M:∀ x∈X,OrdOk (C.map (·.1)) (P.map (·.1)) O x) (hXn:(X.map (·.nm)).Nodup) {i:Nat}(hi:i<10) (N:∀ x∈X,NmI a W (100+i) x.nm) {o9:Option D}:
  Ex3 λ(x:OrdS) (n':Int) (o9':Option D)=>An6 (yC [‹ns.map D.int›,some<|At n,some<|.int a,‹C.map e3›,‹P.map e2›,‹O.map D.str›,some mo,↑(X.map<|yj false),some<|.int<|0+(i:Int),o9] =
   some (.nx [‹ns.map D.int›,some<|At n',some<|.int a,‹C.map e3›,‹P.map e2›,‹O.map D.str›,some mo,↑((X++[x]).map (yj false)),some<|.int<|0+(i:Int),o9'])) (n<=n') (n'<=n+21) (OrdOk (C.map (·.1)) (P.map (·.1)) O x) (x.nm∉X.map (·.nm)) (NmI a W (100+i+1) x.nm):=by
 obtain⟨v,Q,hv⟩:=ve ns h.b L ∅;have hc1:=h.c1;obtain⟨c,Y,R,_⟩:=jaw (o:=false) (U1 (0+i)<|show(C.length:Int)≠0 by lia)<|U0 (0+i) (show 0<(C.length:Int) by lia);have c0:=i30 (t:=c);have j:jl (.int<|0+i) (.int C.length)=some (.int<|(0+i)%C.length):=ji ∅;have Z:=h.nm (100+(0+i)) ∅;have l:=vb ns;have m:=km C;have p:=yg P;have q:=yk O;have r:(((C.map e3).length:Nat):Int)=C.length:=by simp
 have B:=vt M;have s:lim (X.map<|yj false).length=true:=yD ∅;have u:ya (jc [] 0) qT (pF<|p2 jd (pV 0)<|pI 0) (X.map<|yj false) [none]=some ((X.map (·.nm)).map D.str):=by
  rw[U2];refine jC (en:=yj false) rfl (λρ=>∃ o,ρ=[o]) ?_ ⟨none,rfl⟩;rintro x hx ρ ⟨o,rfl⟩;have:=O0 x;refine⟨[some<|yj false x],rfl,?_,_,rfl⟩;simp[this]
 have f:QR false (.str c.1) (.lst true ((X.map (·.nm)).map D.str))=some (.bl (decide (c.1∈X.map (·.nm)))):=jhp _ true _;generalize(X.map (·.nm)).map D.str=NN at u f;generalize E:decide (c.1∈X.map (·.nm))=bq at f;have F:∀ nm:List Nat,Wd nm->∃(x:OrdS) (n':Int),vN [.lst false<|ns.map D.int,At<|n+1,.str nm,.lst false<|C.map e3,.lst false<|P.map e2,.lst false<|O.map D.str]=some (jbl x,At n')/\n+1<=n'/\n'<=n+21/\OrdOk (C.map (·.1)) (P.map (·.1)) O x/\x.nm=nm:=λnm wn=>by
  obtain⟨x,n',e,a0,S,I,A⟩:=jf4 h (n:=n+1) ∅ ∅ nm wn;exact⟨x,n',e,S,by lia,A,a0⟩
 by_cases hb:0<v%3\/bq=true
 ·have T:NmI a W (100+i+1) (nmF a W<|100+(0+i)):=⟨100+(0+i),by lia,by lia,rfl⟩;have G:nmF a W (100+(0+i))∉X.map (·.nm):=λz=>by
   obtain⟨y,hy,ey⟩:=M7.mp z;obtain⟨k,U,k1,ek⟩:=N y hy;have:=Qb h.bs (k:=k) (k':=100+(0+i)) U ∅ ∅ ∅ (ek.symm.trans ey)
   lia
  obtain⟨x,n',J,S,I,A,H⟩:=F _<|T.wd h.bs;refine⟨x,n',some<|.str<|nmF a W<|100+(0+i),?_,by lia,I,A,by rw[H];exact G,by rw[H];exact T⟩;clear G T;generalize nmF a W (100+(0+i))=w at *;rw[N6];show _=some (Out.nx [_,_,_,_,_,_,_,↑(X.map (yj false)++[yj false x]),_,_]);generalize ns.map D.int=NS,C.map e3=CC,P.map e2=PP,O.map D.str=OO at *;have K:=A.fzt;generalize X.map (yj false)=XX,jbl x=xx,e3 c=EC,yj false x=yy at *;by_cases d:0<v%3
  ·simp(disch:=lia) [yC,r,j,R,c0,Q,l,ji,d,Z,m,p,q,J,s,K,-Int.zero_add]
  ·have g:bq=true:=hb.resolve_left d;simp(disch:=lia) [yC,r,j,R,c0,Q,l,ji,d,s,B,jo,u,f,g,Z,m,p,q,J,K,-Int.zero_add]
 ·have d:¬ 0<v%3:=λz=>hb<|.inl z;have g:bq=false:=by cases bq with
   | false=>rfl
   | true=>exact absurd (.inr rfl) hb
  have V:NmI a W (100+i+1) c.1:=by
   obtain⟨k,U,k1,ek⟩:=h.ci c Y;exact⟨k,U,by lia,ek⟩
  obtain⟨x,n',J,S,I,A,H⟩:=F c.1<|h.cw c Y;refine⟨x,n',some<|.str c.1,?_,by lia,I,A,by rw[H];exact of_decide_eq_false<|E.trans g,by rw[H];exact V⟩;rw[N6];show _=some (Out.nx [_,_,_,_,_,_,_,↑(X.map (yj false)++[yj false x]),_,_]);generalize ns.map D.int=NS,C.map e3=CC,P.map e2=PP,O.map D.str=OO at *;have K:=A.fzt;generalize X.map (yj false)=XX,jbl x=xx,e3 c=EC,yj false x=yy at *;simp(disch:=lia) [yC,r,j,R,c0,Q,l,ji,d,s,B,jo,u,f,g,m,p,q,J,K,-Int.zero_add]
def jef(h:Ctx ns sd W C P O)  (l:0<=n) (A:n+500<=100000) (R:1<=mo) (S:mo<=5):
  Ex2 λ(X:List OrdS) (n':Int)=>An7 (kg [.lst false<|ns.map D.int,At n,.int sd,.lst false<|C.map e3,.lst false<|P.map e2,.lst false<|O.map D.str,.int mo]=some (.lst true<|X.map<|yj false,At n')) (n<=n') (n'<=n+150) (1<=X.length) (X.length<=5) (∀ x∈X,OrdOk (C.map (·.1)) (P.map (·.1)) O x) ((X.map (·.nm)).Nodup):=by
 obtain⟨v,B,T⟩:=ve ns h.b l ∅;have E:=U1 v (show mo≠0 by lia);have F:=U0 v (show 0<mo by lia);have f:jl (.int v) (.int mo)=some (.int<|v%mo):=ji ∅;generalize v%mo=k at E F f;obtain⟨U,H,X,n',m,o,rfl,p,I,w,g,c,d⟩:=vR (G:=jc [1] 8) (xs:=kY 0 (1+k).toNat) (λi ρ=>∃ X n' m o,ρ=[‹ns.map D.int›,some<|At n',some<|.int sd,‹C.map e3›,‹P.map e2›,‹O.map D.str›,some<|.int mo,↑(X.map<|yj false),m,o]/\X.length=i/\n+1<=n'/\n'<=n+1+21*i/\(∀ x∈X,OrdOk (C.map (·.1)) (P.map (·.1)) O x)/\(X.map (·.nm)).Nodup/\∀ x∈X,NmI sd W (100+i) x.nm) (by
  rintro i x ρ J ⟨X,n',m,o,rfl,p,I,w,g,c,d⟩;obtain⟨rfl,hi⟩:=kO J;obtain⟨y,K,r,L,c1,V,M,s,t⟩:=xK h (n:=n') ∅ ∅ ∅ g c ∅ d;refine⟨_,_,rfl,.inl L,X++[y],K,some<|.int<|0+i,r,rfl,by simp[p],by lia,by lia,λz e=>?_,?_,λz e=>?_⟩
  ·exact(N3.mp e).elim (g z) λq=>by rw[M9.mp q];exact M
  ·rw[N6];exact X0.mpr ⟨c,by simp,λa N b hb q=>by cases q;cases M9.mp hb;exact s N⟩
  ·rcases N3.mp e with e | e
   ·obtain⟨k,u,Q,ek⟩:=d z e;exact⟨k,u,by lia,ek⟩
   ·obtain⟨k,u,Q,ek⟩:=t;rw[M9.mp e];exact⟨k,u,by lia,ek⟩) (ρ:=[‹ns.map D.int›,some<|At<|n+1,some<|.int sd,‹C.map e3›,‹P.map e2›,‹O.map D.str›,some<|.int mo,some<|.lst true [],none,none]) ⟨[],n+1,none,none,rfl,rfl,by lia,by lia,by simp,by simp,by simp⟩
 rw[jP] at p w;refine⟨X,n',?_,by lia,by lia,by lia,by lia,g,c⟩;unfold kg;rw[vW];simp(disch:=lia) [YI,B,f,yw (j:=1+k) ∅ ∅,H,jb,YJ]
def jd9(h1:p ρ=some e)(h2:jk2 e=some m)(a:ρ[i]?=some (↑l))(c:l.length+m.length<=50000):jiP i p ρ=some (.nx<|ρ.set i<|↑(l++m)):=by
 have b:pV i ρ=↑l:=by unfold pV;rw[a]
 unfold jiP;rw[h1,L4,h2,L4,b];show(bif lim (l.length+m.length) then _ else _)=_;rw[jb ∅];rfl
def xQ(f:RuleS C P O r)  (l:N.length<=960):∃ T:List (List Nat),T.length<=6/\jF [a0,↑(N.map D.str),a2,some r]=some (.nx [a0,↑((N++T).map D.str),a2,some r]):=by
 have b:lim (N.map D.str).length=true:=yD ∅;cases f with
 | two kw x g w1 w2 c=>
  have a:jd (.tup [.str kw,.str x]) (.int 0)=some (.str kw):=rfl;have d:jd (.tup [.str kw,.str x]) (.int 1)=some (.str x):=rfl;by_cases k2:kw=YC
  ·subst k2;refine⟨[x],by simp,?_⟩;rw[N6];generalize N.map D.str=NN at *;simp[jF,a,d,b]
  ·have k3:=U3.mpr k2;refine⟨[],by simp,?_⟩;rw[N1];simp[jF,a,k3,U3.mpr g]
 | share ws j h c nd=>
  have a:jd (.tup [.str ki,.tup<|ws.map D.str]) (.int 0)=some (.str ki):=rfl;have d:jd (.tup [.str ki,.tup<|ws.map D.str]) (.int 1)=some (.tup<|ws.map D.str):=rfl;refine⟨ws,j,?_⟩;rw[N6];have k:=jd9 (i:=1) (p:=p2 jd (pV 3)<|pI 1) (ρ:=[a0,↑(N.map D.str),a2,some<|.tup [.str ki,.tup<|ws.map D.str]]) (e:=.tup<|ws.map D.str) (by rfl) (by show(bif frzs (ws.map D.str) then _ else _)=_;rw[yk ws];rfl) rfl (by rw[L1,L1];lia);simp[jF,a,k]
 | lend x v h c=>
  have a:jd (.tup [.str qd,.str x,.int v]) (.int 0)=some (.str qd):=rfl;refine⟨[],by simp,?_⟩;rw[N1];simp[jF,a]
def jcs{C P O}{X:List OrdS}(q:X.length<=5)(k:∀ x∈X,OrdOk C P O x):∃ N:List (List Nat),yh [.lst false<|X.map<|yj false]=↑(N.map D.str):=by
 have c:=vt k;obtain⟨r,T,e,⟨i,b,rfl⟩,m,_⟩:=xw (G:=jc [] 2) (f:=yz) (λa ρ=>∃ i b,ρ=[‹X.map (yj false)›,↑(a.map D.str),i,b]) (λ_=>True) 60 660 (acc:=[]) (ρ:=[‹X.map (yj false)›,some<|.lst true [],none,none]) (by
  rintro d hd a ρ l _ ⟨i,b,rfl⟩;obtain⟨x,n,rfl⟩:=M7.mp hd;have h:=k x n;have g:=h.frzr;obtain⟨s,T,e,⟨j,rfl⟩,m,_⟩:=xw (G:=jc [] 3) (λa ρ=>∃ b,ρ=[‹X.map (yj false)›,↑(a.map D.str),some<|yj false x,b]) (λ_=>True) 6 960 (ρ:=[‹X.map (yj false)›,↑(a.map D.str),some<|yj false x,b]) (by
   rintro d hd a ρ l _ ⟨b,rfl⟩;obtain⟨T,o,eT⟩:=xQ (h.rules _ hd) l;exact⟨_,_,T,rfl,eT,o,λ_ _=>trivial,_,rfl⟩) (by have:=h.len;lia) (λ_ _=>trivial) ⟨b,rfl⟩
  have p:jd (yj false x) (.int 2)=‹x.rules›:=rfl;refine⟨[‹X.map (yj false)›,↑(a.map D.str),some<|yj false x,b],_,T,rfl,?_,by have:=h.len;lia,λ_ _=>trivial,some<|yj false x,j,rfl⟩;simp[yz,p,g,jL _ g,e]) (by rw[L1];simp;lia) (λ_ _=>trivial) ⟨none,none,rfl⟩
 refine⟨T,?_⟩;simp[yh,jx,vZ,c,jL _ c,e,jb]
def jiu(w)(o)(l:W1):QR true (.str w) (.lst o<|l.map D.str)=some (.bl<|!decide (w∈l)):=by
 show(bif jho (.str w) (l.map D.str) then some (D.bl<|true != inL (.str w) (l.map D.str)) else none)=_;rw[zI,uD];simp
def jid{C:List W3}{N:W1}:∀{ρ:Rh},(∃ o,ρ=[o,↑(N.map D.str)])->∃(F:W1),An3 (ya (jc [] 0) (jj<|p2 (QR true) (p2 jd (pV 0)<|pI 0)<|pV 1) (pF<|p2 jd (pV 0)<|pI 0) (C.map e3) ρ=some (F.map D.str)) (F.length<=C.length) (∀ w∈F,w∈C.map (·.1)):=by
 induction C with
 | nil=>intro ρ _;exact⟨[],rfl,by simp,by simp⟩
 | cons c C g=>
  rintro ρ ⟨o,rfl⟩;obtain⟨F,e,j,d⟩:=g ⟨_,rfl⟩;have c0:=i30 (t:=c);have f:jc [] 0 (e3 c) [o,↑(N.map D.str)]=some [some<|e3 c,↑(N.map D.str)]:=rfl;have a:jj (p2 (QR true) (p2 jd (pV 0)<|pI 0)<|pV 1) [some<|e3 c,↑(N.map D.str)]=some (!decide (c.1∈N)):=by
   simp[c0,jiu c.1 true N]
  have i:pF (p2 jd (pV 0)<|pI 0) [some<|e3 c,↑(N.map D.str)]=some (.str c.1):=by rfl
  rw[L5];by_cases h:c.1∈N
  ·refine⟨F,?_,by rw[M3];lia,λw b=>L6 _<|d w b⟩;rw[X4 h] at a;rw[yP,f,L4,a];exact e
  ·refine⟨c.1::F,?_,by simp;lia,λw b=>(M5.mp b).elim (λz=>by rw[z];exact L7 ..) λz=>L6 _<|d w z⟩;rw[X5 h] at a;rw[yP,f,L4,a,L4,Bool.not_false,cond_true,i,L4,e];rfl
def wB{ns}(hb:uF ns){P:List W2}(r:1<=P.length){F:W1}{n}(b:0<=n)(d:n<100000){a2 a4 a5}{L}(s:L.length<=100){i}(hi:i<F.length):
  ∃ q:List Nat×List Nat,(q.1∈P.map (·.1)/\q.2∈F)/\kj [‹ns.map D.int›,some<|At n,a2,‹P.map e2›,a4,a5,↑(F.map D.str),↑(L.map eG),some<|.int<|0+(i:Int)] =
   some (.nx [‹ns.map D.int›,some<|At<|n+1,a2,‹P.map e2›,a4,a5,↑(F.map D.str),↑((L++[q]).map eG),some<|.int<|0+(i:Int)]):=by
 obtain⟨v,h,u⟩:=ve ns hb b d;obtain⟨c,j,k⟩:=jkH (o:=false) (U1 v<|show(P.length:Int)≠0 by lia)<|U0 v (show 0<(P.length:Int) by lia);have m:frz (e2 c)=true:=rfl;have e:jl (.int v) (.int P.length)=some (.int<|v%P.length):=ji ∅;have f:=xX (o:=true) (l:=F) (i:=0+i) ∅ ∅;have g:F.getD (0+(i:Int)).toNat []∈F:=Y1 ∅;generalize F.getD (0+(i:Int)).toNat []=w at f g;have p:(((P.map e2).length:Nat):Int)=P.length:=by simp
 have a:lim (L.map eG).length=true:=yD ∅;refine⟨(c.1,w),⟨M7.mpr ⟨c,j,rfl⟩,g⟩,?_⟩;rw[N6];show _=some (Out.nx [_,_,_,_,_,_,_,↑((L.map eG)++[.tup [.str c.1,.str w]]),_]);generalize(L.map eG)=LL at *;simp(disch:=lia) [kj,h,yg P,e,k,m,i20 (t:=c),f,a,-Int.zero_add]
def jcA{ns}(hb:uF ns){C:List W3}(Y:C.length<=6){P:List W2}(Z:P.length<=100){w A B}{X:List OrdS}(E:X.length<=5)(r:∀ x∈X,OrdOk w A B x){n}(g:0<=n)(H:n+50<=100000):
  Ex2 λ(L:List<|List Nat×List Nat) (n':Int)=>An5 (vw [.lst false<|ns.map D.int,At n,.lst false<|C.map e3,.lst false<|P.map e2,.lst false<|X.map<|yj false]=some (.lst true<|L.map eG,At n')) (n<=n') (n'<=n+10) (L.length<=6) (∀ q∈L,q.1∈P.map (·.1)/\q.2∈C.map (·.1)):=by
 obtain⟨N,s⟩:=jcs E r;have c:=km C;have I:=Kv C;have h:=vt r;have d:=jL _ h;have lC:lim (C.map e3).length=true:=yD ∅;have J:yr (N.map D.str)=true:=by simp
 obtain⟨F,t,hF,l⟩:=jid (C:=C) (ρ:=jo [none,some 5] [‹ns.map D.int›,some<|At n,‹C.map e3›,‹P.map e2›,‹X.map (yj false)›,↑(N.map D.str),none,none,none]) ⟨none,rfl⟩;have K:(((F.map D.str).length:Nat):Int)=F.length:=by simp
 have M:(((P.map e2).length:Nat):Int)=P.length:=by simp
 by_cases O:P.length=0
 ·have m:=List.eq_nil_of_length_eq_zero O;subst m;refine⟨[],n,?_,by lia,by lia,by simp,by simp⟩;unfold vw;rw[vW];simp only[List.map_nil] at *;simp(disch:=lia) [ql,s,d,c,t,jb,YJ]
 ·obtain⟨v,Q,hv⟩:=ve ns hb g ∅;have R:0<P.length:=by lia
  have e:0<P.length:=by lia
  have b:xB [.int F.length,.int<|v%4]=some (.int<|if v%4<F.length then v%4 else F.length):=rfl;have S:0<=(if v%4<F.length then v%4 else F.length):=by lia
  have T:(if v%4<F.length then v%4 else F.length)<=F.length:=by lia
  have k2:(if v%4<F.length then v%4 else F.length)<=3:=by lia
  generalize(if v%4<F.length then v%4 else F.length)=k at b S T k2;obtain⟨ρ',u,L,o,rfl,p,a⟩:=vR (G:=jc [1] 8) (xs:=kY 0 k.toNat) (λi ρ=>∃ L o,ρ=[‹ns.map D.int›,some<|At<|n+1+i,‹C.map e3›,‹P.map e2›,‹X.map (yj false)›,↑(N.map D.str),↑(F.map D.str),↑(L.map eG),o]/\L.length=i/\∀ q∈L,q.1∈P.map (·.1)/\q.2∈F) (by
   rintro i x ρ U ⟨L,o,rfl,p,a⟩;obtain⟨rfl,hi⟩:=kO U;obtain⟨z,V,W⟩:=wB hb (P:=P) ∅ (F:=F) (n:=n+1+i) ∅ ∅ (L:=L) ∅ (i:=i) ∅;refine⟨_,_,rfl,.inl W,L++[z],some<|.int<|0+i,?_,by simp[p],λq f=>(N3.mp f).elim (a q) λy=>by rw[M9.mp y];exact V⟩;rw[show n+1+(((i+1:Nat)):Int)=n+1+i+1 by lia]) (ρ:=[‹ns.map D.int›,some<|At<|n+1,‹C.map e3›,‹P.map e2›,‹X.map (yj false)›,↑(N.map D.str),↑(F.map D.str),some<|.lst true [],none]) ⟨[],none,by simp,rfl,by simp⟩
  rw[jP] at p u;refine⟨L,n+1+(k.toNat:Int),?_,by lia,by lia,by lia,λq f=>⟨(a q f).1,l _ (a q f).2⟩⟩;unfold vw;rw[vW];simp(disch:=lia) [ql,s,d,c,t,e,Q,ji,b,yw (j:=k) ∅ ∅,u,jb,YJ]
def uX{c a:Int}{W}(b:Bse c W)(g:0<=a){q:Nat}(h:a+q<=676):((List.range q).map λj:Nat=>nmF c W<|a+(0+(j:Int))).Nodup:=by
 unfold List.Nodup;rw[List.pairwise_map];refine List.Pairwise.imp_of_mem ?_<|List.nodup_range;intro i j hi d f e;have hi:=List.mem_range.mp hi;have d:=List.mem_range.mp d;have:=Qb b ∅ ∅ ∅ ∅ e
 lia
def jbm{ns}(hb:uF ns){n a k}{W}(nm:∀ k:Int,0<=k->jr [.int a,.int k]=some (.str<|nmF a W k))(s:0<=k)(j:k<=10)(c:0<=n)(l:n+5<=100000){a4 a5 a6}{C:List W3}(t:C.length<=100){i:Nat}{o9 b0 b1 b2 b3 b4 b5 b6}:
  Ex3 λx x2 o9'=>An2 (1<=x/\x<=1000000000000/\1<=x2/\x2<=1000000000000) (kh [‹ns.map D.int›,some<|At n,some<|.int a,some<|.int k,a4,a5,a6,↑(C.map e3),some<|.int<|0+(i:Int),o9,b0,b1,b2,b3,b4,b5,b6] =
   some (.nx [‹ns.map D.int›,some<|At<|n+1+1,some<|.int a,some<|.int k,a4,a5,a6,↑((C++[(nmF a W<|10*k+1+(0+(i:Int)),x,x2)]).map e3),some<|.int<|0+(i:Int),o9',b0,b1,b2,b3,b4,b5,b6])):=by
 obtain⟨v,m,o⟩:=ve ns hb c ∅;obtain⟨x,ex,p,q⟩:=YW o;obtain⟨u,d,e⟩:=ve ns hb (n:=n+1) ∅ ∅;obtain⟨x2,f,g,h⟩:=YW e;have r:=nm (10*k+1+(0+i)) ∅;have b:lim (C.map e3).length=true:=yD ∅;refine⟨x,x2,some<|.int x,⟨p,q,g,h⟩,?_⟩;generalize nmF a W (10*k+1+(0+i))=w at *;rw[N6];show _=some (Out.nx [_,_,_,_,_,_,_,↑(C.map e3++[.tup [.str w,.int x,.int x2]]),_,_,_,_,_,_,_,_,_]);generalize C.map e3=CC at *;simp(disch:=lia) [kh,m,ex,d,f,r,qv,b,-Int.zero_add]
theorem zg(hb:uF ns)  (nm:∀ k:Int,0<=k->jr [.int sd,.int k]=some (.str<|nmF sd W k)) (d:0<=k) (a:k<=10):∀(q i:Nat) {n:Int}(_:0<=n) (_:n+q+20<=100000) o,∃ P:List W2,∃ o0:Option D,
  qk (jc [4] 0) (K1<|jq (dP<|ju jr #[pV 1,p2 jk (p2 jk (p2 yR (pI 10)<|pV 2)<|pI 7)<|pV 0])<|jq (vU jB<|jq (j8 jn 4 1<|ja (pF<|pV 3)<|pFs pN) Je) Je) ((List.range' i q).map λi:Nat=>D.int<|0+(i:Int)) [o,some<|.int sd,some<|.int k,‹ns.map D.int›,some<|At n] =
   some (P.map e2,[o0,some<|.int sd,some<|.int k,‹ns.map D.int›,some<|At<|n+q])/\P.map (·.1)=((List.range' i q).map λj:Nat=>nmF sd W<|10*k+7+(0+(j:Int)))/\∀ p∈P,1<=p.2/\p.2<=1000000000000
 | 0,i,n,_,_,o=>⟨[],o,by rw[show n+((0:Nat):Int)=n by lia];rfl,rfl,by simp⟩
 | q+1,i,n,u,w,o=>by
  obtain⟨v,f,g⟩:=ve ns hb (n:=n) ∅ ∅;obtain⟨c,h,c1,l⟩:=YW g;obtain⟨P,o0,e,m,b⟩:=zg hb nm d a q (i+1) (n:=n+1) ∅ ∅ (some<|.int<|0+i);refine⟨(nmF sd W<|10*k+7+(0+i),c)::P,o0,?_,?_,λp r=>?_⟩
  ·have s:(K1<|jq (dP<|ju jr #[pV 1,p2 jk (p2 jk (p2 yR (pI 10)<|pV 2)<|pI 7)<|pV 0])<|jq (vU jB<|jq (j8 jn 4 1<|ja (pF<|pV 3)<|pFs pN) Je) Je) [some<|.int<|0+i,some<|.int sd,some<|.int k,‹ns.map D.int›,some<|At n]=some (.tup [.str<|nmF sd W<|10*k+7+(0+i),.int c],[some<|.int<|0+i,some<|.int sd,some<|.int k,‹ns.map D.int›,some<|At<|n+1]):=by
    simp(disch:=lia) [f,h,nm (10*k+7+(0+i)) ∅,qv,-Int.zero_add]
   have t:jc [4] 0 (.int<|0+i) [o,some<|.int sd,some<|.int k,‹ns.map D.int›,some<|At n]=some [some<|.int<|0+i,some<|.int sd,some<|.int k,‹ns.map D.int›,some<|At n]:=rfl;rw[List.range'_succ,L5,qk,t,L4,s,L4,e,show n+((q+1:Nat):Int)=n+1+q by lia];rfl
  ·rw[List.range'_succ,L5,L5,m]
  ·exact(M5.mp r).elim (λz=>by rw[z];exact⟨c1,l⟩) (b p)
def jjP(hb:uF ns)  (nm:∀ k:Int,0<=k->jr [.int sd,.int k]=some (.str<|nmF sd W k)) (c:0<=k) (a:k<=10)  (b:0<=n) (d:n+40<=100000)  (e:q<=9):∃ P:List W2,∃ o0:Option D,
  qk (jc [4] 0) (K1<|jq (dP<|ju jr #[pV 1,p2 jk (p2 jk (p2 yR (pI 10)<|pV 2)<|pI 7)<|pV 0])<|jq (vU jB<|jq (j8 jn 4 1<|ja (pF<|pV 3)<|pFs pN) Je) Je) (kY 0 q) [none,some<|.int sd,some<|.int k,‹ns.map D.int›,some<|At n] =
   some (P.map e2,[o0,some<|.int sd,some<|.int k,‹ns.map D.int›,some<|At<|n+q])/\P.map (·.1)=((List.range q).map λj:Nat=>nmF sd W<|10*k+7+(0+(j:Int)))/\∀ p∈P,1<=p.2/\p.2<=1000000000000:=by
 have:=zg hb nm c a q 0 b ∅ none;rw[<- List.range_eq_range'] at this;exact this
def jql{X:List OrdS}{i:Int}(a:0<=i)(h:i<X.length):∃ x∈X,jd (.lst o<|X.map<|yj false) (.int i)=some (yj false x):=by
 have hi:i.toNat<X.length:=by lia
 exact⟨X[i.toNat],List.getElem_mem hi,by rw[jbs a<|by rw[L1];exact h,List.getElem?_map,X9 hi];rfl⟩
def jdv{ns}(hb:uF ns){n}(a:0<=n)(d:n+5<=100000){C:List W3}(p:1<=C.length){X:List OrdS}(q:1<=X.length)  {L}(r:L.length<=100) {i:Nat}{a2 a3 a4 a5 a6 a9 b0 b2 b5 b6}:
  ∃ l b5',(l.1∈C.map (·.1)/\l.2.2∈X.map (·.nm))/\vY [‹ns.map D.int›,some<|At n,a2,a3,a4,a5,a6,‹C.map e3›,some<|.int<|0+(i:Int),a9,b0,some<|.int (C.length:Int),b2,some<|.lst o<|X.map<|yj false,↑(L.map eL),b5,b6] =
   some (.nx [‹ns.map D.int›,some<|At<|n+1,a2,a3,a4,a5,a6,‹C.map e3›,some<|.int<|0+(i:Int),a9,b0,some<|.int (C.length:Int),b2,some<|.lst o<|X.map<|yj false,↑((L++[l]).map eL),b5',b6]):=by
 obtain⟨v,e,s⟩:=ve ns hb a ∅;obtain⟨c,f,g,_⟩:=jaw (o:=false) (U1 v<|show(C.length:Int)≠0 by lia)<|U0 v (show 0<(C.length:Int) by lia);have h:jl (.int v) (.int C.length)=some (.int<|v%C.length):=ji ∅;obtain⟨x,j,ix⟩:=jql (o:=o) (U1 (v/100)<|show(X.length:Int)≠0 by lia)<|U0 (v/100) (show 0<(X.length:Int) by lia);have k:jl (.int<|v/100) (.int X.length)=some (.int<|v/100%X.length):=ji ∅;have m:(((X.map<|yj false).length:Nat):Int)=X.length:=by simp
 have b:lim (L.map eL).length=true:=yD ∅;refine⟨(c.1,1+v/10%9,x.nm),some<|.int v,⟨M7.mpr ⟨c,f,rfl⟩,M7.mpr ⟨x,j,rfl⟩⟩,?_⟩;rw[N6];show _=some (Out.nx [_,_,_,_,_,_,_,_,_,_,_,_,_,_,↑(L.map eL++[.tup [.str c.1,.int<|1+v/10%9,.str x.nm]]),_,_]);simp(disch:=lia) [vY,e,g,i30 (t:=c),jy,ji,ix,O0 x,jb]
structure PoolS where
 nm:List Nat
 told:List W3
 marks:List W2
 eats:List (List Nat)
 orders:List OrdS
 looks:List WL
 guards:List WG
def jJ(o:Bool)(p:PoolS):D:=.tup [.str p.nm,.lst false<|p.told.map e3,.lst false<|p.marks.map e2,.lst o<|p.eats.map D.str,.lst false<|p.orders.map<|yj false,.lst false<|p.looks.map eL,.lst false<|p.guards.map eG]
structure PoolOk(O:W1)(p:PoolS):Prop where
 nm:Wd p.nm
 told:∀ c∈p.told,Wd c.1/\1<=c.2.1/\c.2.1<=10 ^ 12/\1<=c.2.2/\c.2.2<=10 ^ 12
 toldn:(p.told.map (·.1)).Nodup
 told1:0<p.told.length
 told2:p.told.length<=10
 marks:∀ c∈p.marks,Wd c.1/\1<=c.2/\c.2<=10 ^ 12
 marksn:(p.marks.map (·.1)).Nodup
 marks2:p.marks.length<=10
 eats:∀ w∈p.eats,Wd w
 eatsm:∀ w∈p.eats,w∈p.told.map (·.1)
 eatsn:p.eats.Nodup
 eats2:p.eats.length<=10
 orders:∀ x∈p.orders,OrdOk (p.told.map (·.1)) (p.marks.map (·.1)) O x
 ordn:(p.orders.map (·.nm)).Nodup
 orders1:0<p.orders.length
 orders2:p.orders.length<=10
 looks:∀ x∈p.looks,x.1∈p.told.map (·.1)/\Wd x.1/\Wd x.2.2
 looksm:∀ x∈p.looks,x.2.2∈p.orders.map (·.nm)
 looks2:p.looks.length<=10
 guards:∀ x∈p.guards,Wd x.1/\Wd x.2/\x.1∈p.marks.map (·.1)/\x.2∈p.told.map (·.1)
 guards2:p.guards.length<=10
def PoolOk.fz(h:PoolOk O p)(o):QD.fz (jJ o p)=jJ false p:=by
 simp[jJ,Kv,JM,jL _<|vt h.orders,jem,jg8]
def PoolOk.frz(h:PoolOk O p):QD.frz (jJ false p)=true:=by
 simp[jJ,km,yg,vt h.orders,QH,xV]
def jc6(hb:uF ns)  (bs:Bse sd W) (nm:∀ k:Int,0<=k->jr [.int sd,.int k]=some (.str<|nmF sd W k)) (hk:0<=k) (hk2:k<=5) (hn0:0<=n) (hn1:n+1000<=100000) (m1:1<=mo) (m2:mo<=5)  (hO:O.length<=10) (hOw:∀ w∈O,Wd w):
  Ex2 λ(p:PoolS) (n':Int)=>An6 (Jb [.lst false<|ns.map D.int,At n,.int sd,.int k,.lst false<|O.map D.str,.int mo]=some (jJ false p,At n')) (n<=n') (n'<=n+300) (p.nm=nmF sd W (10*k)) (PoolOk O p) (∀ c∈p.told,∃ j:Int,1<=j/\j<=9/\c.1=nmF sd W (10*k+j)):=by
 obtain⟨m,em,hm⟩:=ve ns hb hn0 ∅;have N:=yw (j:=1+m%6) ∅ ∅;obtain⟨ρ',e1,C,g,h,rfl,r,I⟩:=vR (G:=jc [1] 8) (f:=kh) (xs:=kY 0 (1+m%6).toNat) (λi ρ=>∃(C:List W3) (g h:Option D),ρ=[‹ns.map D.int›,some<|At<|n+1+2*(i:Int),some<|.int sd,some<|.int k,‹O.map D.str›,some<|.int mo,some<|.int m,↑(C.map e3),g,h,none,none,none,none,none,none,none]/\C.map (·.1)=((List.range i).map λj:Nat=>nmF sd W<|10*k+1+(0+(j:Int)))/\∀ c∈C,1<=c.2.1/\c.2.1<=1000000000000/\1<=c.2.2/\c.2.2<=1000000000000) (by
  rintro i x ρ e ⟨C,g,h,rfl,r,I⟩;obtain⟨rfl,hi⟩:=kO e;have hCl:C.length=i:=by have:=congrArg List.length r;rw[L1,L1,List.length_range] at this;exact this
  obtain⟨z1,z2,o9',zb,ez⟩:=jbm hb (n:=n+1+2*(i:Int)) nm hk ∅ ∅ ∅ (a4:=‹O.map D.str›) (a5:=some<|.int mo) (a6:=some<|.int m) (C:=C) ∅ (i:=i) (o9:=h) (b0:=none) (b1:=none) (b2:=none) (b3:=none) (b4:=none) (b5:=none) (b6:=none);refine⟨_,_,rfl,.inl ez,C++[(nmF sd W<|10*k+1+(0+(i:Int)),z1,z2)],some<|.int<|0+(i:Int),o9',?_,by rw[N6,r,List.range_succ,N6];rfl,λc b=>(N3.mp b).elim (I c) λy=>by rw[M9.mp y];exact zb⟩;rw[show n+1+2*(((i+1:Nat)):Int)=n+1+2*(i:Int)+1+1 by lia]) (ρ:=[‹ns.map D.int›,some<|At<|n+1,some<|.int sd,some<|.int k,‹O.map D.str›,some<|.int mo,some<|.int m,some<|.lst true [],none,none,none,none,none,none,none,none,none]) ⟨[],none,none,by simp,rfl,by simp⟩
 rw[jP] at r e1;have hCl:C.length=(1+m%6).toNat:=by have:=congrArg List.length r;rw[L1,L1,List.length_range] at this;exact this
 have s:(C.map (·.1)).Nodup:=by rw[r];exact uX bs ∅ ∅
 have R:∀ c∈C,NmI sd W 100 c.1:=λc b=>by
  have:=List.mem_map_of_mem (f:=(·.1)) b;rw[r] at this;obtain⟨j,M,S⟩:=M7.mp this;have M:=List.mem_range.mp M;exact⟨_,by lia,by lia,S.symm⟩
 have U:∀ c∈C,∃ j:Int,1<=j/\j<=9/\c.1=nmF sd W (10*k+j):=λc b=>by
  have:=List.mem_map_of_mem (f:=(·.1)) b;rw[r] at this;obtain⟨j,M,S⟩:=M7.mp this;have M:=List.mem_range.mp M;exact⟨1+(0+j),by lia,by lia,by rw[<- S,Int.add_assoc]⟩
 have J:1<=C.length:=by lia
 have t:C.length<=6:=by lia
 generalize hn2:n+1+2*(((1+m%6).toNat:Nat):Int)=n2 at e1;obtain⟨P,o0,V,u,hPb⟩:=jjP hb nm hk ∅ (n:=n2) ∅ ∅ (q:=(m/6%4).toNat) ∅;have hP:P.length=(m/6%4).toNat:=by have:=congrArg List.length u;rw[L1,L1,List.length_range] at this;exact this
 have Y:(P.map (·.1)).Nodup:=by rw[u];exact uX bs ∅ ∅
 have v:∀ c∈P,Wd c.1:=λc b=>by
  have:=List.mem_map_of_mem (f:=(·.1)) b;rw[u] at this;obtain⟨j,M,S⟩:=M7.mp this;rw[<- S];exact(um bs ∅).wd
 have Z:=yw (j:=m/6%4) ∅ ∅;generalize hn3:n2+(((m/6%4).toNat:Nat):Int)=n3 at V;have v3:n2<=n3/\n3<=n2+3:=by lia
 clear hn3;have frN:=vb ns;have hdc:zh (kG #[p2 jl (p2 jH (pV 6)<|pI 6)<|pI 4]) (jc [4] 0) (K1<|jq (dP<|ju jr #[pV 1,p2 jk (p2 jk (p2 yR (pI 10)<|pV 2)<|pI 7)<|pV 0])<|jq (vU jB<|jq (j8 jn 4 1<|ja (pF<|pV 3)<|pFs pN) Je) Je) [none,some 2,some 3,some 0,some 1] 1 4
   [‹ns.map D.int›,some<|At n2,some<|.int sd,some<|.int k,‹O.map D.str›,some<|.int mo,some<|.int m,↑(C.map e3),g,h,none,none,none,none,none,none,none] =
   some (.lst true<|P.map e2,[‹ns.map D.int›,some<|At n3,some<|.int sd,some<|.int k,‹O.map D.str›,some<|.int mo,some<|.int m,↑(C.map e3),g,h,none,none,none,none,none,none,none]):=by
  have hpi:kG #[p2 jl (p2 jH (pV 6)<|pI 6)<|pI 4] [‹ns.map D.int›,some<|At n2,some<|.int sd,some<|.int k,‹O.map D.str›,some<|.int mo,some<|.int m,↑(C.map e3),g,h,none,none,none,none,none,none,none]=some (kY 0 (m/6%4).toNat):=by
   simp(disch:=lia) [jy,ji,Z]
  have hfb:YM 4 [none,some<|.int sd,some<|.int k,‹ns.map D.int›,some<|At n2]=true:=by simp[YM,frN]
  have hlm:lim (kY 0 (m/6%4).toNat).length=true:=jb (by rw[jP];lia);unfold zh;rw[hpi,L4];show(bif lim (kY 0 (m/6%4).toNat).length&&YM 4 [none,some<|.int sd,some<|.int k,‹ns.map D.int›,some<|At n2] then(qk _ _ _ [none,some<|.int sd,some<|.int k,‹ns.map D.int›,some<|At n2]).bind _ else none)=_;rw[hlm,hfb,V];rfl
 have a1:=U1 (m/24) (show(C.length:Int)+1≠0 by lia);have a2:=U0 (m/24) (show 0<(C.length:Int)+1 by lia);have hmc:jl (.int<|m/24) (.int<|(C.length:Int)+1)=some (.int<|m/24%((C.length:Int)+1)):=ji ∅;generalize m/24%((C.length:Int)+1)=q at a1 a2 hmc;have hrg3:=yw (j:=q) ∅ ∅;have hlm3:lim (kY 0 q.toNat).length=true:=jb (by rw[jP];lia);have er3:=uN (o:=true) (T:=C) (n:=m) (c:=100) (q:=q.toNat) ∅ t (by decide) (by decide) hm;have A:=jei (C:=C.map (·.1)) (a:=m/100) (q:=q.toNat) (by rw[L1];lia);have K:=zU (C:=C.map (·.1)) (a:=m/100) (q:=q.toNat) (by rw[L1];lia) (by rw[L1];lia) s;have hEl:=xU (C:=C.map (·.1)) (a:=m/100) (q:=q.toNat);generalize cyc (C.map (·.1)) (m/100) q.toNat=E at er3 A K hEl;have cx:Ctx ns sd W C P O:=⟨hb,bs,nm,J,t,by lia,hO,s,R,v,hOw⟩;obtain⟨X,H,e4,b1,b2,hX1,hX5,B,hXn⟩:=jef cx (n:=n3) (mo:=mo) ∅ ∅ m1 m2;have hrg5:=yw (j:=m/1000%5) ∅ ∅;obtain⟨ρ5,e5,L,p8,p15,rfl,hL,d⟩:=vR (G:=jc [1] 8) (f:=vY) (xs:=kY 0 (m/1000%5).toNat) (λi ρ=>∃(L:List WL) (g Q:Option D),ρ=[‹ns.map D.int›,some<|At<|H+(i:Int),some<|.int sd,some<|.int k,‹O.map D.str›,some<|.int mo,some<|.int m,‹C.map e3›,g,h,‹P.map e2›,some<|.int (C.length:Int),↑(E.map D.str),↑(X.map<|yj false),↑(L.map eL),Q,none]/\L.length=i/\∀ l∈L,l.1∈C.map (·.1)/\l.2.2∈X.map (·.nm)) (by
  rintro i x ρ e ⟨L,g,Q,rfl,hL,d⟩;obtain⟨rfl,hi⟩:=kO e;obtain⟨z,b5',zm,ez⟩:=jdv hb (n:=H+(i:Int)) ∅ ∅ (C:=C) J (X:=X) hX1 (o:=true) (L:=L) ∅ (i:=i) (a2:=some<|.int sd) (a3:=some<|.int k) (a4:=‹O.map D.str›) (a5:=some<|.int mo) (a6:=some<|.int m) (a9:=h) (b0:=‹P.map e2›) (b2:=↑(E.map D.str)) (b5:=Q) (b6:=none);refine⟨_,_,rfl,.inl ez,L++[z],some<|.int<|0+(i:Int),b5',?_,by simp[hL],λq hq=>(N3.mp hq).elim (d q) λy=>by rw[M9.mp y];exact zm⟩;rw[show H+(((i+1:Nat)):Int)=H+(i:Int)+1 by lia]) (ρ:=[‹ns.map D.int›,some<|At H,some<|.int sd,some<|.int k,‹O.map D.str›,some<|.int mo,some<|.int m,‹C.map e3›,g,h,‹P.map e2›,some<|.int (C.length:Int),↑(E.map D.str),↑(X.map<|yj false),some<|.lst true [],none,none]) ⟨[],g,none,by simp,rfl,by simp⟩
 rw[jP] at hL e5;generalize hn5:H+(((m/1000%5).toNat:Nat):Int)=n5 at e5;have v5:H<=n5/\n5<=H+4:=by lia
 clear hn5;obtain⟨G,n6,e6,d1,d2,hG,F⟩:=jcA hb (C:=C) t (P:=P) ∅ (X:=X) hX5 B (n:=n5) ∅ ∅;have ew:=nm (10*k) ∅;have wC:∀ w∈C.map (·.1),Wd w:=λw hw=>by obtain⟨c,b,rfl⟩:=M7.mp hw;exact cx.cw c b
 have wP:∀ w∈P.map (·.1),Wd w:=λw hw=>by obtain⟨c,b,rfl⟩:=M7.mp hw;exact v c b
 refine⟨⟨nmF sd W<|10*k,C,P,E,X,L,G⟩,n6,?_,by lia,by lia,rfl,⟨(um bs ∅).wd,λc b=>⟨cx.cw c b,I c b⟩,s,J,N8 t<|by decide,λc b=>⟨v c b,hPb c b⟩,Y,by show P.length<=10;lia,λw hw=>wC w<|A w hw,A,K,by show E.length<=10;lia,B,hXn,hX1,N8 hX5<|by decide,λx e=>⟨(d x e).1,wC _ (d x e).1,by obtain⟨y,hy,ey⟩:=M7.mp (d x e).2;rw[<- ey];exact(B y hy).nm⟩,λx e=>(d x e).2,by show L.length<=10;lia,λx e=>⟨wP _ (F x e).1,wC _ (F x e).2,F x e⟩,by show G.length<=10;lia⟩,U⟩;clear U s R Y v A K hXn d F r u;generalize nmF sd W (10*k)=w at *;show _=some (D.tup [.str w,.lst false<|C.map e3,.lst false<|P.map e2,.lst false<|E.map D.str,.lst false<|X.map<|yj false,.lst false<|L.map eL,.lst false<|G.map eG],At n6);have frC:=km C;have fzC:=Kv C;have frP:=yg P;have fzP:=JM P;have frE:=yk E;have fzE:=kU E;have frX:=vt B;have fzX:=jL _ frX;have frL:=QH L;have fzL:=jL _ frL;have frG:=xV G;have fzG:=jL _ frG;have frO:=yk O;have hlC:(((C.map e3).length:Nat):Int)=(C.length:Int):=by rw[L1]
 have hbk:jo [none,some 7,some 6,some 11] [‹ns.map D.int›,some<|At n3,some<|.int sd,some<|.int k,‹O.map D.str›,some<|.int mo,some<|.int m,↑(C.map e3),g,h,↑(P.map e2),some<|.int (C.length:Int),none,none,none,none,none]=[none,↑(C.map e3),some<|.int m,some<|.int (C.length:Int)]:=rfl;unfold Jb;rw[vW];generalize ns.map D.int=NS,C.map e3=CC,P.map e2=PP,E.map D.str=EE,X.map (yj false)=XX,L.map eL=LL,G.map eG=GG,O.map D.str=OO at *;simp(disch:=lia) [Kt,em,frN,ji,jy,N,e1,hdc,hlC,hmc,hrg3,hlm3,hbk,er3,fzC,fzP,frC,frP,frO,e4,hrg5,e5,fzX,frX,e6,fzE,frE,fzL,frL,fzG,frG,qv,ew,jb,YJ,-uu,-jm1]
 try rfl
structure DealOk(Ps:List PoolS):Prop where
 len1:0<Ps.length
 len2:Ps.length<=6
 nmn:(Ps.map (·.nm)).Nodup
 ok:∀ p∈Ps,∃ X,PoolOk X p/\∀ w∈X,w∈Ps.map (·.nm)
 cl:∀ p∈Ps,∀ q∈Ps,∀ w,w∈p.told.map (·.1)->w∈q.told.map (·.1)->p.nm=q.nm
def jcp{ns}(hb:uF ns){n a}{W}(bs:Bse a W)(nm:∀ k:Int,0<=k->jr [.int a,.int k]=some (.str<|nmF a W k))(d:0<=n)(e:n+1000<=100000){M:Nat}{N:W1}(J:N.length<=6)(f:∀ w∈N,Wd w){i}(hi:i<N.length){B}(K:B.length<=100){a3 o8}:
  Ex3 λp n' o8'=>An6 (v9 [‹ns.map D.int›,some<|At n,some<|.int a,a3,some<|.int (M:Int),↑(N.map D.str),↑(B.map<|jJ false),some<|.int<|0+(i:Int),o8] =
   some (.nx [‹ns.map D.int›,some<|At n',some<|.int a,a3,some<|.int (M:Int),↑(N.map D.str),↑((B++[p]).map (jJ false)),some<|.int<|0+(i:Int),o8'])) (n<=n') (n'<=n+300) (p.nm=nmF a W (10*(0+(i:Int)))) (∀ c∈p.told,∃ j:Int,1<=j/\j<=9/\c.1=nmF a W (10*(0+(i:Int))+j)) (∃ X,PoolOk X p/\∀ w∈X,w∈N):=by
 have E:=xX (o:=true) (l:=N) (i:=0+i) ∅ ∅;generalize N.getD (0+(i:Int)).toNat []=u at E;have s:ya (jc [] 0) (jj<|p2 QU (pV 0)<|p2 jd (pV 1)<|pV 2) (pF<|pV 0) (N.map D.str) (jo [none,some 5,some 7] [‹ns.map D.int›,some<|At n,some<|.int a,a3,some<|.int M,↑(N.map D.str),↑(B.map<|jJ false),some<|.int<|0+i,o8])=some ((N.filter λw=>!(w==u)).map D.str):=by
  refine Kg (λρ=>∃ o,ρ=[o,↑(N.map D.str),some<|.int<|0+i]) ?_ ⟨none,rfl⟩;rintro w b ρ ⟨o,rfl⟩;refine⟨[some<|.str w,↑(N.map D.str),some<|.int<|0+i],rfl,?_,rfl,_,rfl⟩;simp[E,-Int.zero_add]
 have I:(N.filter λw=>!(w==u)).length<=N.length:=List.length_filter_le _ _;have g:∀ w∈N.filter (λw=>!(w==u)),w∈N:=λw b=>(List.mem_filter.mp b).1;generalize(N.filter λw=>!(w==u))=O at s I g;have h:=vb ns;have m:=yk O;have q:=kU O;have r:=yk N;have F:lim (N.map D.str).length=true:=yD ∅;have G:lim (B.map<|jJ false).length=true:=yD ∅;by_cases H:M=6
 ·subst H;rw[show((6:Nat):Int)=6 from rfl] at s ⊢;obtain⟨p,n',t,v,x,pn,y,z⟩:=jc6 hb (k:=0+i) (mo:=2) bs nm ∅ ∅ d e (by decide) (by decide) ∅ (λw b=>f w<|g w b);refine⟨p,n',‹O.map D.str›,?_,v,x,pn,z,O,y,g⟩;have A:jd (.lst true [.int 5,.int 2]) (.int 1)=some (.int 2):=rfl;simp(disch:=lia) [v9,r,F,s,q,h,m,A,t,G,jb,-Int.zero_add]
 ·have C:¬ (M:Int)=6:=by lia
  obtain⟨p,n',t,v,x,pn,y,z⟩:=jc6 hb (k:=0+i) (mo:=5) bs nm ∅ ∅ d e (by decide) (by decide) ∅ (λw b=>f w<|g w b);refine⟨p,n',‹O.map D.str›,?_,v,x,pn,z,O,y,g⟩;have A:jd (.lst true [.int 5,.int 2]) (.int 0)=some (.int 5):=rfl;simp(disch:=lia) [v9,r,F,s,q,h,m,C,H,A,t,G,jb,-Int.zero_add]
def jiG{ns}(hb:uF ns):Ex3 λsd W B=>An3 (Bse sd W) (kI [.lst false<|ns.map D.int]=↑(B.map<|jJ false)) (DealOk B):=by
 obtain⟨s0,T,U,_⟩:=QF ns hb (k:=0) (by decide) (by decide);obtain⟨v,V,hv⟩:=ve ns hb (n:=0) (by decide) (by decide);obtain⟨W,bs,nm⟩:=jiI (s:=s0%1000000000000) ∅;have t:Jo (.int 10) (.int 12)=some (.int 1000000000000):=rfl;have Y:∃ M:Nat,1<=M/\M<=6/\jd (.lst true [.int 1,.int 2,.int 3,.int 1,.int 2,.int 6]) (.int<|v%6)=some (.int M):=by
  have:v%6=0\/v%6=1\/v%6=2\/v%6=3\/v%6=4\/v%6=5:=by lia
  rcases this with h | h | h | h | h | h<;>rw[h]
  ·exact⟨1,by decide,by decide,rfl⟩
  ·exact⟨2,by decide,by decide,rfl⟩
  ·exact⟨3,by decide,by decide,rfl⟩
  ·exact⟨1,by decide,by decide,rfl⟩
  ·exact⟨2,by decide,by decide,rfl⟩
  ·exact⟨6,by decide,by decide,rfl⟩
 obtain⟨M,M1,M6,Z⟩:=Y;have e6:V8 [.int M]=some (kY 0 M):=by
  have:=yw (j:=M) ∅ ∅;simpa using this
 have u:lim (kY 0 M).length=true:=jb (by rw[jP];lia);have f:ya (jc [] 0) qT (ju jr #[pV 1,p2 yR (pI 10)<|pV 0]) (kY 0 M) (jo [none,some 2] [‹ns.map D.int›,some<|At 1,some<|.int<|s0%1000000000000,some<|.int v,some<|.int M,none,none,none,none])=some (((List.range M).map λj:Nat=>nmF (s0%1000000000000) W<|10*(0+j)).map D.str):=by
  rw[U2];refine jC (l:=List.range M) rfl (λρ=>∃ o,ρ=[o,some<|.int<|s0%1000000000000]) ?_ ⟨none,rfl⟩;rintro i hi ρ ⟨o,rfl⟩;have hi:=List.mem_range.mp hi;refine⟨[some<|.int<|0+i,some<|.int<|s0%1000000000000],rfl,?_,_,rfl⟩;simp(disch:=lia) [qv,nm (10*(0+i)) ∅,-Int.zero_add]
 have g:∀ w∈(List.range M).map λj:Nat=>nmF (s0%1000000000000) W<|10*(0+j),Wd w:=λw hw=>by
  obtain⟨j,_,rfl⟩:=M7.mp hw;exact(um bs ∅).wd
 have m:((List.range M).map λj:Nat=>nmF (s0%1000000000000) W<|10*(0+j)).Nodup:=by
  unfold List.Nodup;rw[List.pairwise_map];refine List.Pairwise.imp_of_mem ?_<|List.nodup_range;intro i j hi Q hij e;have hi:=List.mem_range.mp hi;have Q:=List.mem_range.mp Q;have:=Qb bs ∅ ∅ ∅ ∅ e
  lia
 have y:((List.range M).map λj:Nat=>nmF (s0%1000000000000) W<|10*(0+j)).length=M:=by rw[L1,List.length_range]
 have R:∀ i:Nat,i<M->((List.range M).map λj:Nat=>nmF (s0%1000000000000) W<|10*(0+j)).take (i+1)=((List.range M).map λj:Nat=>nmF (s0%1000000000000) W<|10*(0+j)).take i++[nmF (s0%1000000000000) W<|10*(0+i)]:=λi hi=>by
  rw[List.take_add_one,List.getElem?_map,List.getElem?_range hi];rfl
 generalize((List.range M).map λj:Nat=>nmF (s0%1000000000000) W<|10*(0+j))=N at f g m y R;obtain⟨ρ',A,B,d,C,E,rfl,b,b1,b2,F,r⟩:=vR (G:=jc [] 7) (xs:=kY 0 M) (λi ρ=>∃ B d C E,ρ=[‹ns.map D.int›,some<|At d,some<|.int<|s0%1000000000000,some<|.int v,some<|.int M,↑(N.map D.str),↑(B.map<|jJ false),C,E]/\B.map (·.nm)=N.take i/\1<=d/\d<=1+300*i/\(∀ p∈B,∃ X,PoolOk X p/\∀ w∈X,w∈N)/\∀ p∈B,∃ k:Nat,k<6/\p.nm=nmF (s0%1000000000000) W (10*(0+(k:Int)))/\∀ c∈p.told,∃ j:Int,1<=j/\j<=9/\c.1=nmF (s0%1000000000000) W (10*(0+(k:Int))+j)) (by
  rintro i x ρ hx ⟨B,d,C,E,rfl,b,b1,b2,F,r⟩;obtain⟨rfl,hi⟩:=kO hx;have H:B.length<=i:=by have:=congrArg List.length b;rw[L1,E1] at this;lia
  obtain⟨p,n2,I,e,c1,S,pn,pj,J⟩:=jcp hb (n:=d) bs nm ∅ ∅ ∅ g (i:=i) ∅ (B:=B) ∅;refine⟨_,_,rfl,.inl e,B++[p],n2,some<|.int<|0+i,I,rfl,by rw[N6,b,R i hi,<- pn];rfl,by lia,by lia,λz a=>?_,λz a=>?_⟩
  ·rcases N3.mp a with a | a
   ·exact F z a
   ·rw[M9.mp a];exact J
  ·rcases N3.mp a with a | a
   ·exact r z a
   ·rw[M9.mp a];exact⟨i,by lia,pn,pj⟩) (ρ:=[‹ns.map D.int›,some<|At 1,some<|.int<|s0%1000000000000,some<|.int v,some<|.int M,↑(N.map D.str),some<|.lst true [],none,none]) ⟨[],1,none,none,rfl,rfl,by lia,by lia,by simp,by simp⟩
 rw[jP,<- y,List.take_length] at b;have H:B.length=M:=by have:=congrArg List.length b;rw[L1,y] at this;exact this
 refine⟨_,W,B,bs,?_,⟨by lia,by lia,by rw[b];exact m,by rw[b];exact F,λp K q L w O P=>?_⟩⟩
 rotate_left
 ·obtain⟨k1,l1,A,f1⟩:=r p K;obtain⟨k2,l2,e2,f2⟩:=r q L;obtain⟨c1,m1,rfl⟩:=M7.mp O;obtain⟨S,m2,f⟩:=M7.mp P;obtain⟨j1,g1,g2,d1⟩:=f1 c1 m1;obtain⟨j2,g3,g4,d2⟩:=f2 S m2;rw[d1,d2] at f;have:=Qb bs ∅ ∅ ∅ ∅ f;rw[A,e2,show(k1:Int)=k2 by lia]
 simp(disch:=lia) [kI,jx,Kl,jb,vb ns,Ym ns,T,t,ji,V,Z,e6,u,f,A,-Int.zero_add]
def jcb(c:0<=n):∃ v,jQ [.int n]=some (.int v)/\0<=v/\v<10 ^ 30:=by
 have a:Jo (.int 10) (.int 13)=some (.int 10000000000000):=rfl;have b:Jo (.int 10) (.int 30)=some (.int 1000000000000000000000000000000):=rfl;have o:n%6=0\/n%6=1\/n%6=2\/n%6=3\/n%6=4\/n%6=5:=by lia
 rcases o with o | o | o | o | o | o
 ·exact⟨0,by simp(disch:=lia) [jQ,jx,yo,ji,jy,o],by decide,by decide⟩
 ·exact⟨n/6%60,by simp(disch:=lia) [jQ,jx,yo,ji,jy,o],by lia,by lia⟩
 ·exact⟨n/6%60,by simp(disch:=lia) [jQ,jx,yo,ji,jy,o],by lia,by lia⟩
 ·exact⟨n/6%2000,by simp(disch:=lia) [jQ,jx,yo,ji,jy,o],by lia,by lia⟩
 ·exact⟨n/6%10000000000000,by simp(disch:=lia) [jQ,jx,yo,ji,jy,o,a],by lia,by lia⟩
 ·exact⟨n/6%1000000000000000000000000000000,by simp(disch:=lia) [jQ,jx,yo,ji,jy,o,b],by lia,by lia⟩
def jhr(c:0<=n):∃ v,yf [.int n]=some (.int v)/\0<=v/\v<10 ^ 30:=by
 have a:Jo (.int 10) (.int 13)=some (.int 10000000000000):=rfl;have b:Jo (.int 10) (.int 29)=some (.int 100000000000000000000000000000):=rfl;have o:n%6=0\/n%6=1\/n%6=2\/n%6=3\/n%6=4\/n%6=5:=by lia
 rcases o with o | o | o | o | o | o
 ·exact⟨0,by simp(disch:=lia) [yf,jx,yX,ji,jy,o],by decide,by decide⟩
 ·exact⟨0,by simp(disch:=lia) [yf,jx,yX,ji,jy,o],by decide,by decide⟩
 ·exact⟨0,by simp(disch:=lia) [yf,jx,yX,ji,jy,o],by decide,by decide⟩
 ·exact⟨n/6%40,by simp(disch:=lia) [yf,jx,yX,ji,jy,o],by lia,by lia⟩
 ·exact⟨n/6%10000000000000,by simp(disch:=lia) [yf,jx,yX,ji,jy,o,a],by lia,by lia⟩
 ·exact⟨n/6%100000000000000000000000000000,by simp(disch:=lia) [yf,jx,yX,ji,jy,o,b],by lia,by lia⟩
noncomputable abbrev Dy:=List Int×List Int
noncomputable def Y3(y:Dy):D:=.tup [.lst false<|y.1.map D.int,.lst false<|y.2.map D.int]
structure DyOk(k:Nat)(y:Dy):Prop where
 a:y.1.length=k
 b:y.2.length=k
 a0:∀ v∈y.1,0<=v/\v<10 ^ 30
 b0:∀ v∈y.2,0<=v/\v<10 ^ 30
def jd7{ns}(hb:uF ns){a}(F:a.length<=10){Y}(H:Y.length<=100){i:Nat}(hi:i<=10){o4 o5}:
  Ex3 λy o4' o5'=>An2 (qG [‹ns.map D.int›,‹a›,↑(Y.map Y3),some<|.int<|0+(i:Int),o4,o5] =
   some (.nx [‹ns.map D.int›,‹a›,↑((Y++[y]).map Y3),some<|.int<|0+(i:Int),o4',o5'])) (DyOk a.length y):=by
 have f:V8 [.int a.length]=some (kY 0 a.length):=by
  have:=yw (j:=a.length) ∅ ∅;simpa using this
 have g:lim (kY 0 a.length).length=true:=jb (by rw[jP];lia);have b:∀ e base ρ,0<=base->base<=1000->(∀ n:Int,0<=n->∃ v,e [.int n]=some (.int v)/\0<=v/\v<10 ^ 30)->(∃ o,ρ=[o,‹ns.map D.int›,some<|.int<|0+i]) ->
   ∃ V:List Int,ya (jc [] 0) qT (ju e #[ju j9 #[pV 1,p2 jk (p2 jk (pI base)<|p2 yR (pI 12)<|pV 2)<|pV 0]]) (kY 0 a.length) ρ=some (V.map D.int)/\V.length=a.length/\∀ v∈V,0<=v/\v<10 ^ 30:=by
  intro e base ρ I J q r;obtain⟨K,s,h,t⟩:=KN (G:=jc [] 0) (p:=ju e #[ju j9 #[pV 1,p2 jk (p2 jk (pI base)<|p2 yR (pI 12)<|pV 2)<|pV 0]]) (Good:=λd=>∃ v,d=.int v/\(0<=v/\v<10 ^ 30)) (P:=λρ=>∃ o,ρ=[o,‹ns.map D.int›,some<|.int<|0+i]) (xs:=kY 0 a.length) (by
   rintro x u ρ ⟨o,rfl⟩;obtain⟨j,m,rfl⟩:=M7.mp u;have m:=List.mem_range.mp m;obtain⟨d,w,hd,_⟩:=QF ns hb (k:=base+12*(0+i)+(0+j)) ∅ ∅;obtain⟨v,z,A⟩:=q d hd;refine⟨[some<|.int<|0+j,‹ns.map D.int›,some<|.int<|0+i],.int v,rfl,?_,⟨v,rfl,A⟩,_,rfl⟩;simp(disch:=lia) [qv,vb ns,Ym ns,w,z,-Int.zero_add]) r
  rw[jP] at h;obtain⟨V,rfl,B⟩:=YS t;rw[L1] at h;exact⟨V,s,h,B⟩
 obtain⟨V,C,l1,E⟩:=b jQ 700 (jo [none,some 0,some 3] [‹ns.map D.int›,‹a›,↑(Y.map Y3),some<|.int<|0+i,o4,o5]) (by decide) (by decide) (λn l=>jcb l) ⟨none,rfl⟩;obtain⟨W,e2,l2,w2⟩:=b yf 706 (jo [none,some 0,some 3] [‹ns.map D.int›,‹a›,↑(Y.map Y3),some<|.int<|0+i,↑(V.map D.int),o5]) (by decide) (by decide) (λn l=>jhr l) ⟨none,rfl⟩;have c:lim (Y.map Y3).length=true:=yD ∅;refine⟨(V,W),‹V.map D.int›,‹W.map D.int›,?_,l1,l2,E,w2⟩;rw[N6];show _=some (Out.nx [_,_,↑(Y.map Y3++[.tup [.lst false<|V.map D.int,.lst false<|W.map D.int]]),_,_,_]);simp(disch:=lia) [qG,f,g,C,e2,vb V,Ym V,vb W,Ym W,c,jb,-Int.zero_add]
def jjH(hb:uF ns)  (m:DD.length<=10) (s:frzs DD=true):∃(Y:List Dy),An3 (kC [.lst false<|ns.map D.int,.lst false DD]=↑(Y.map Y3)) (Y.length<=6) (∀ y∈Y,DyOk DD.length y):=by
 obtain⟨s0,n,o,_⟩:=QF ns hb (k:=690) (by decide) (by decide);obtain⟨t,p,Y,b,c,d,rfl,f,g⟩:=vR (G:=jc [] 3) (xs:=kY 0 (s0%7).toNat) (λi ρ=>∃ Y b c d,ρ=[‹ns.map D.int›,‹DD›,↑(Y.map Y3),b,c,d]/\Y.length=i/\∀ y∈Y,DyOk DD.length y) (by
  rintro i x ρ q ⟨Y,b,c,d,rfl,f,g⟩;obtain⟨rfl,hi⟩:=kO q;obtain⟨y,h,l,e,r⟩:=jd7 hb m (Y:=Y) ∅ (i:=i) ∅;refine⟨_,_,rfl,.inl e,Y++[y],some<|.int<|0+i,h,l,rfl,by simp[f],λz a=>?_⟩;rcases N3.mp a with a | a
  ·exact g z a
  ·rw[M9.mp a];exact r) (ρ:=[‹ns.map D.int›,‹DD›,some<|.lst true [],none,none,none]) ⟨[],none,none,none,rfl,rfl,by simp⟩
 rw[jP] at f;refine⟨Y,?_,by lia,g⟩;simp(disch:=lia) [kC,jx,Kb,vb ns,Ym ns,n,ji,yw (j:=s0%7) ∅ ∅,p,jb]
def alk(n:Nat)(d:D):Prop:=ye n [d,d]=some (.bl true)
def ji0(n)(i):alk (n+1) (.int i):=by
 unfold alk ye;have a:jfa (.int i) .non=some (.bl false):=rfl;simp[jx,kE,wA,a]
def jjA(n)(i):alk (n+1) (.str i):=by
 unfold alk ye;have a:jfa (.str i) .non=some (.bl false):=rfl;simp[jx,kE,wA,a]
theorem QM:∀{l}{o2 o3},frzs l=true->(∀ x∈l,alk n x)->∃ o2' o3',jY (gT 2<|gC (jc [] 2)<|gC (jc [] 3) gN) (v7<|ye n) (jcX l l) [a0,a1,o2,o3]=some (.nx [a0,a1,o2',o3'])
 | [],o2,o3,_,_=>⟨o2,o3,rfl⟩
 | x::l,o2,o3,a,h=>by
  rw[JO,M0] at a;obtain⟨r2,c,e⟩:=QM a.2<|λy d=>h y (by simp[d]);refine⟨r2,c,?_⟩;have b:ye n [x,x]=some (.bl true):=h x (by simp);have f:(gT 2<|gC (jc [] 2)<|gC (jc [] 3) gN) (.tup [x,x]) [a0,a1,o2,o3]=some [a0,a1,some x,some x]:=rfl;have hb:v7 (ye n) [a0,a1,some x,some x]=some (.nx [a0,a1,some x,some x]):=by simp[v7,jha x a.1,b]
  rw[jcX,yx,f,L4,hb,L4,wt,e]
def jiE(b:frzs l=true)(g:l.length<=1000)(h:∀ x∈l,alk n x):alk (n+1) (.lst false l):=by
 unfold alk ye;obtain⟨r2,i,e⟩:=QM (a0:=‹l›) (a1:=‹l›) (o2:=none) (o3:=none) b h;have a:=jL l b;have c:QU (.bl true) (.bl true)=some (.bl false):=rfl;have d:QU (.bl false) (.bl false)=some (.bl false):=rfl;have f:jfO 2 [.lst false l,.lst false l]=some (jcX l l):=by rw[jog rfl rfl<|N0 _,a]
 simp[jx,kE,wA,b,a,f,c,d,e]
def jka(b:frzs l=true)(g:l.length<=1000)(h:∀ x∈l,alk n x):alk (n+1) (.tup l):=by
 unfold alk ye;obtain⟨r2,i,e⟩:=QM (a0:=some<|.tup l) (a1:=some<|.tup l) (o2:=none) (o3:=none) b h;have a:=jL l b;have c:QU (.bl true) (.bl true)=some (.bl false):=rfl;have d:QU (.bl false) (.bl false)=some (.bl false):=rfl;have f:jfO 2 [.tup l,.tup l]=some (jcX l l):=by rw[jog rfl rfl<|N0 _,a]
 simp[jx,kE,wA,b,a,f,c,d,e]
def pln:Nat->D->Bool
 | 0,_=>false
 | _+1,.int _=>true
 | _+1,.str _=>true
 | n+1,.tup l=>decide (l.length<=1000)&&l.all (pln n)
 | n+1,.lst o l=>!o&&(decide (l.length<=1000)&&l.all (pln n))
 | _+1,_=>false
theorem Qg:∀ n d,pln n d=true->frz d=true
 | 0,_,h=>by cases h
 | n+1,.int _,_=>rfl
 | n+1,.str _,_=>rfl
 | n+1,.tup l,h=>by
  simp only[pln,M0,List.all_eq_true] at h;rw[frz,JQ,List.all_eq_true];exact λx a=>Qg n x<|h.2 x a
 | n+1,.lst o l,h=>by
  simp only[pln,M0,List.all_eq_true] at h;rw[frz,JQ,M0,List.all_eq_true];exact⟨h.1,λx a=>Qg n x<|h.2.2 x a⟩
 | n+1,.non,h=>by cases h
 | n+1,.bl _,h=>by cases h
 | n+1,.dK _ _ _,h=>by cases h
 | n+1,.dT _ _ _,h=>by cases h
 | n+1,.ins _ _ _ _,h=>by cases h
 | n+1,.dead,h=>by cases h
 | n+1,.tok _,h=>by cases h
 | n+1,.kt _,h=>by cases h
theorem wz:∀ n d,pln n d=true->alk n d
 | 0,_,h=>by cases h
 | n+1,.int _,_=>ji0 n _
 | n+1,.str _,_=>jjA n _
 | n+1,.tup l,h=>by
  have a:=Qg _ _ h;simp only[pln,M0,List.all_eq_true,decide_eq_true_eq] at h;exact jka (by rw[frz] at a;exact a) h.1 λx b=>wz n x<|h.2 x b
 | n+1,.lst o l,h=>by
  have a:=Qg _ _ h;simp only[pln,M0,List.all_eq_true,decide_eq_true_eq] at h;rw[frz,M0] at a;obtain⟨c,e,f⟩:=h;cases o with
  | true=>cases c
  | false=>exact jiE a.2 e λx b=>wz n x<|f x b
 | n+1,.non,h=>by cases h
 | n+1,.bl _,h=>by cases h
 | n+1,.dK _ _ _,h=>by cases h
 | n+1,.dT _ _ _,h=>by cases h
 | n+1,.ins _ _ _ _,h=>by cases h
 | n+1,.dead,h=>by cases h
 | n+1,.tok _,h=>by cases h
 | n+1,.kt _,h=>by cases h
theorem K0:∀ n d,pln n d=true->pln (n+1) d=true
 | 0,_,h=>by cases h
 | n+1,.int _,_=>rfl
 | n+1,.str _,_=>rfl
 | n+1,.tup l,h=>by
  simp only[pln,M0,List.all_eq_true] at h ⊢;exact⟨h.1,λx a=>by have:=K0 n x<|h.2 x a;simpa [pln] using this⟩
 | n+1,.lst o l,h=>by
  simp only[pln,M0,List.all_eq_true] at h ⊢;exact⟨h.1,h.2.1,λx a=>by have:=K0 n x<|h.2.2 x a;simpa [pln] using this⟩
 | n+1,.non,h=>by cases h
 | n+1,.bl _,h=>by cases h
 | n+1,.dK _ _ _,h=>by cases h
 | n+1,.dT _ _ _,h=>by cases h
 | n+1,.ins _ _ _ _,h=>by cases h
 | n+1,.dead,h=>by cases h
 | n+1,.tok _,h=>by cases h
 | n+1,.kt _,h=>by cases h
def J5(h:pln n d=true)(a:n<=m):pln m d=true:=by
 induction a with
 | refl=>exact h
 | step _ b=>exact K0 _ _ b
def yZ{n}{f}{l:List α}(a:l.length<=1000)(h:∀ x∈l,pln n (f x)=true):pln (n+1) (.lst false<|l.map f)=true:=by
 simp only[pln,M0,List.all_eq_true,decide_eq_true_eq];exact⟨rfl,by rw[L1];exact a,λx b=>by obtain⟨y,c,rfl⟩:=M7.mp b;exact h y c⟩
def xO(h:pln 9 d=true):jT [d,d]=some (.bl true):=wz 9 d h
def jo3(h:RuleS C P O r):pln 3 r=true:=by
 cases h with
 | two kw x=>simp[pln]
 | share ws a=>simp[pln];lia
 | lend x v=>simp[pln]
def jnZ{C P O}(h:OrdOk C P O x):pln 5 (yj false x)=true:=by
 have a:pln 4 (.lst false<|x.parts.map e2)=true:=J5 (yZ (n:=2) (by have:=h.plen;lia) λy _=>by simp[e2,pln]) (by decide);have b:pln 4 (.lst false x.rules)=true:=by
  have:=yZ (f:=id) (by have:=h.len;lia) λy c=>jo3 (h.rules y c)
  rwa [List.map_id] at this
 unfold yj;unfold pln;simp only[List.all_cons,List.all_nil,a,b];rfl
def jk1{O}(h:PoolOk O p):pln 7 (jJ false p)=true:=by
 have a:pln 6 (.lst false<|p.told.map e3)=true:=J5 (yZ (n:=2) (by have:=h.told2;lia) λy _=>by simp[e3,pln]) (by decide);have b:pln 6 (.lst false<|p.marks.map e2)=true:=J5 (yZ (n:=2) (by have:=h.marks2;lia) λy _=>by simp[e2,pln]) (by decide);have c:pln 6 (.lst false<|p.eats.map D.str)=true:=J5 (yZ (n:=2) (by have:=h.eats2;lia) λy _=>by simp[pln]) (by decide);have d:=yZ (by have:=h.orders2;lia) λy e=>jnZ<|h.orders y e;have f:pln 6 (.lst false<|p.looks.map eL)=true:=J5 (yZ (n:=2) (by have:=h.looks2;lia) λy _=>by simp[eL,pln]) (by decide);have g:pln 6 (.lst false<|p.guards.map eG)=true:=J5 (yZ (n:=2) (by have:=h.guards2;lia) λy _=>by simp[eG,pln]) (by decide);unfold jJ;unfold pln;simp only[List.all_cons,List.all_nil,a,b,c,d,f,g];rfl
theorem z6:∀{ks}{l},ks.length=l.length->a∈ks->J8 ks (ja0 ks l a d) k=if k=a then some d else J8 ks l k
 | [],_,_,h=>by cases h
 | _::_,[],h,_=>by simp at h
 | x::ks,y::l,b,h=>by
  rw[ja0,J8,J8];by_cases e:x=k
  ·subst e;rw[if_pos rfl,if_pos rfl];by_cases e2:x=a
   ·rw[if_pos e2,if_pos e2]
   ·rw[if_neg e2,if_neg e2]
  ·rw[if_neg e,if_neg e];by_cases c:a∈ks
   ·exact z6 ⇑b c
   ·have g:a=x:=by
     rcases M5.mp h with h | h
     ·exact h
     ·exact absurd h c
    subst g;have:∀{ks}{l},ks.length=l.length->¬ a∈ks->ja0 ks l a d=l:=by
     intro ks
     induction ks with
     | nil=>intro l b _;cases l with
      | nil=>rfl
      | cons _ _=>simp at b
     | cons x ks i=>intro l b f;cases l with
      | nil=>simp at b
      | cons y l=>
       rw[ja0,if_neg<|λe=>f<|by rw[e];exact L7,i ⇑b (λh=>f<|L6 _ h)]
    rw[this ⇑b c,if_neg<|λz=>e z.symm]
theorem xl:∀{ks}{l},ks.length=l.length->¬ a∈ks->J8 (ks++[a]) (l++[d]) k=if k=a then some d else J8 ks l k
 | [],[],_,_=>by
  show(if a=k then some d else J8 [] [] k)=_;by_cases e:a=k
  ·subst e;simp
  ·rw[if_neg e,if_neg<|λz=>e z.symm]
 | [],_::_,h,_=>by simp at h
 | _::_,[],h,_=>by simp at h
 | x::ks,y::l,b,h=>by
  rw[List.cons_append,List.cons_append,J8,J8,xl ⇑b (λz=>h<|L6 _ z)];by_cases e:x=k
  ·subst e;rw[if_pos rfl,if_pos rfl,if_neg<|λz=>h<|by rw[z];exact L7]
  ·rw[if_neg e,if_neg e]
def jgw(b:ks.length=l.length):J8 (kW ks l a d).1 (kW ks l a d).2 k=if k=a then some d else J8 ks l k:=by
 unfold kW;by_cases h:a∈ks
 ·rw[if_pos h];exact z6 b h
 ·rw[if_neg h];exact xl b h
def uC(b:ks.length=l.length):(kW ks l a d).1.length=(kW ks l a d).2.length/\(kW ks l a d).1.length<=ks.length+1:=by
 unfold kW;by_cases h:a∈ks
 ·rw[if_pos h];exact⟨by rw[K4 a d b];exact b,Nat.le_succ _⟩
 ·rw[if_neg h];exact⟨by simp[b],by simp⟩
def jeE(y):frz (Y3 y)=true:=by
 show frz (D.tup [.lst false<|y.1.map D.int,.lst false<|y.2.map D.int])=true;simp[vb y.1,vb y.2]
def J4(E:List Dy):frzs (E.map Y3)=true:=yH (λy=>jeE y) _
def jou(c:k<=100)(h1:y.1.length<=k)(h2:y.2.length<=k):pln 3 (Y3 y)=true:=by
 have a:pln 2 (.lst false<|y.1.map D.int)=true:=yZ ∅ λ_ _=>rfl;have b:pln 2 (.lst false<|y.2.map D.int)=true:=yZ ∅ λ_ _=>rfl;unfold Y3;unfold pln;simp only[List.all_cons,List.all_nil,a,b];rfl
def jkX{l:List α}{i}(h:i<l.length):atI l (i:Int)=l[i]?:=by
 unfold atI ixN;simp
def jdy(h:i<n):ixN n (i:Int)=some i:=by
 unfold ixN;rw[if_pos ∅,if_pos ∅];simp
noncomputable def low(c T n:Int):Int:=c*n/T
def VV(c T:Int):List Int->Int->List Int×Int
 | [],left=>([],left)
 | n::ns,left=>if 0<left/\low c T n<n then((low c T n+1)::(VV c T ns<|left-1).1,(VV c T ns<|left-1).2) else(low c T n::(VV c T ns left).1,(VV c T ns left).2)
theorem Qu(c T):∀ ns left,(VV c T ns left).1.length=ns.length
 | [],_=>rfl
 | n::ns,left=>by
  rw[VV];split
  ·simp[Qu c T ns]
  ·simp[Qu c T ns]
def wg{a b w}{L}{g n left}{i:Nat}(d:atI L (i:Int)=some (.int g))(e:ixN L.length (i:Int)=some i)(c:L[i]?=some (.int g)):
  qX [a,b,w,↑L,some<|.int left,some<|.int i,some<|.int n] =
   some (.nx<|if 0<left/\g<n then [a,b,w,↑(L.set i<|.int<|g+1),some<|.int<|left-1,some<|.int i,some<|.int n] else [a,b,w,↑L,some<|.int left,some<|.int i,some<|.int n]):=by
 by_cases f:0<left<;>by_cases h:g<n<;>simp[qX,jd,d,f,h,e,c]
def wD(a b w)(c T):∀ ns pre left o5 o6,
  ∃ o5' o6',jY (gT 2<|gC (jc [] 5)<|gC (jc [] 6) gN) qX (yB pre.length<|ns.map D.int) [a,b,w,↑((pre++ns.map (low c T)).map D.int),some<|.int left,o5,o6] =
   some (.nx [a,b,w,↑((pre++(VV c T ns left).1).map D.int),some<|.int (VV c T ns left).2,o5',o6']):=by
 intro ns
 induction ns with
 | nil=>
  intro pre left o5 o6;exact⟨o5,o6,by simp[yB,VV]⟩
 | cons n ns k=>
  intro pre left o5 o6;have d:=wg (a:=a) (b:=b) (w:=w) (L:=(pre++low c T n::ns.map (low c T)).map D.int) (g:=low c T n) (n:=n) (left:=left) (i:=pre.length)
   (by rw[jkX<|by simp];simp) (jdy<|by simp) (by simp)
  have f:((pre++low c T n::ns.map (low c T)).map D.int).set pre.length (D.int<|low c T n+1)=(pre++(low c T n+1)::ns.map (low c T)).map D.int:=by simp
  rw[f] at d;have l:(gT 2<|gC (jc [] 5)<|gC (jc [] 6) gN) (.tup [.int pre.length,.int n]) [a,b,w,↑((pre++low c T n::ns.map (low c T)).map D.int),some<|.int left,o5,o6]=some [a,b,w,↑((pre++low c T n::ns.map (low c T)).map D.int),some<|.int left,some<|.int pre.length,some<|.int n]:=rfl;rw[L5,yB,yx,L5,l,L4,d,L4,wt];by_cases h:0<left/\low c T n<n
  ·obtain⟨o5',o6',e⟩:=k (pre++[low c T n+1]) (left-1) (some<|.int pre.length)<|some<|.int n;refine⟨o5',o6',?_⟩;have j:(pre++[low c T n+1]).length=pre.length+1:=by simp
   rw[j] at e;rw[VV,if_pos h,if_pos h];simp only[List.append_assoc] at e;exact e
  ·obtain⟨o5',o6',e⟩:=k (pre++[low c T n]) left (some<|.int pre.length) (some<|.int n);refine⟨o5',o6',?_⟩;have j:(pre++[low c T n]).length=pre.length+1:=by simp
   rw[j] at e;rw[VV,if_neg h,if_neg h];simp only[List.append_assoc] at e;exact e
def vx(ns:List Int)(c:Int):List Int:=if ns.sum<=c then ns else(VV c ns.sum ns<|c-(ns.map<|low c ns.sum).sum).1
def jc7(f:ns.length<=20)(a:∀ x∈ns,0<=x/\x<=10 ^ 20)(g:0<=c)(h1:c<=2 ^ 900)(i:ns.sum<=10 ^ 30):
  qP [.lst false<|ns.map D.int,.int c]=↑((vx ns c).map D.int):=by
 by_cases h:ns.sum<=c
 ·simp[qP,jx,Qi,vx,h]
 ·have b:ya (jc [] 0) qT (p2 jH (p2 yR (pV 1)<|pV 0)<|pV 2) (ns.map D.int) (jo [none,some 1,some 2] [‹ns.map D.int›,some<|.int c,some<|.int ns.sum,none,none,none,none])=some (ns.map λn=>D.int<|low c ns.sum n):=by
   refine jC rfl (λρ=>∃ o,ρ=[o,some<|.int c,some<|.int ns.sum]) ?_ ⟨none,rfl⟩;rintro x d ρ ⟨o,rfl⟩;have:=a x d;refine⟨[some<|.int x,some<|.int c,some<|.int ns.sum],rfl,?_,some<|.int x,rfl⟩;simp(disch:=lia) [qv,jy,low]
  obtain⟨j,k,e⟩:=wD (‹ns.map D.int›) (some<|.int c) (some<|.int ns.sum) c ns.sum ns [] (c-(ns.map<|low c ns.sum).sum) none none;simp only[X8,List.length_nil,U2] at e;have e2:(D.int ∘ low c ns.sum)=λn=>D.int (low c ns.sum n):=rfl;rw[e2] at e;have e3:ns.map (λn=>D.int<|low c ns.sum n)=(ns.map<|low c ns.sum).map D.int:=by simp
  rw[e3] at b e;simp(disch:=lia) [qP,jx,Qi,vx,h,b,e,jb,-List.map_map]
theorem K6(c T):∀ ns left,(VV c T ns left).1.sum+(VV c T ns left).2=(ns.map<|low c T).sum+left
 | [],left=>by simp[VV]
 | n::ns,left=>by
  rw[VV];split
  ·have:=K6 c T ns<|left-1;simp only[List.sum_cons,L5]
   lia
  ·have:=K6 c T ns left;simp only[List.sum_cons,L5]
   lia
def cnt(c T:Int):List Int->Int
 | []=>0
 | n::ns=>(if low c T n<n then 1 else 0)+cnt c T ns
theorem jg4(c T):∀ ns:List Int,0<=cnt c T ns
 | []=>by simp[cnt]
 | n::ns=>by
  have:=jg4 c T ns;rw[cnt];split<;>lia
theorem J6(c T):∀ ns left,0<=left->left<=cnt c T ns->(VV c T ns left).2=0
 | [],left,h,k=>by simp[VV,cnt] at *;lia
 | n::ns,left,h,k=>by
  rw[cnt] at k;rw[VV];have:=jg4 c T ns;split
  ·next g=>
   exact J6 c T ns (left-1) ∅ ∅
  ·next g=>
   by_cases g2:low c T n<n
   ·rw[if_pos g2] at k;exact J6 c T ns left h ∅
   ·rw[if_neg g2] at k;exact J6 c T ns left h ∅
def jdq(b:0<=c)(f:c<T)(a:0<=n):T*low c T n<=c*n/\c*n<=T*low c T n+T*(if low c T n<n then 1 else 0)/\0<=low c T n/\low c T n<=n:=by
 unfold low;have e:=Int.mul_ediv_add_emod (c*n) T;have h:=U1 (c*n) (show T≠0 by lia);have r1:=U0 (c*n) (show 0<T by lia);have d:0<=c*n/T:=Int.ediv_nonneg (Int.mul_nonneg b a) ∅;have l1:c*n/T<=n:=by
  have:c*n<=T*n:=Int.mul_le_mul_of_nonneg_right ∅ a;exact Int.ediv_le_of_le_mul ∅ ∅
 refine⟨by lia,?_,d,l1⟩;split
 ·lia
 ·next g=>
  have e2:c*n/T=n:=by lia
  have:c*n<=T*n:=Int.mul_le_mul_of_nonneg_right ∅ a
  lia
theorem uA(a:0<=c)(b:c<T):∀ ns,(∀ x∈ns,0<=x)->T*(ns.map<|low c T).sum<=c*ns.sum/\c*ns.sum<=T*(ns.map<|low c T).sum+T*cnt c T ns
 | [],_=>by simp[cnt]
 | n::ns,h=>by
  have i:=uA a b ns<|λx d=>h x (by simp[d]);have j:=jdq a b<|h n (by simp);simp only[L5,List.sum_cons,cnt]
  lia
def jja(d:0<=c)(e:c<ns.sum)(h:∀ x∈ns,0<=x):
  0<=c-(ns.map<|low c ns.sum).sum/\(VV c ns.sum ns<|c-(ns.map<|low c ns.sum).sum).1.sum=c:=by
 have b:=uA d e ns h;have f:(ns.map<|low c ns.sum).sum<=c:=by
  refine Int.le_of_mul_le_mul_left (a:=ns.sum) ?_ ∅;rw[Int.mul_comm ns.sum c];exact b.1
 have g:c<=(ns.map<|low c ns.sum).sum+cnt c ns.sum ns:=by
  refine Int.le_of_mul_le_mul_left (a:=ns.sum) ?_ ∅;rw[Int.mul_add,Int.mul_comm ns.sum c];exact b.2
 have l:=J6 c ns.sum ns (c-(ns.map<|low c ns.sum).sum) ∅ ∅;have s:=K6 c ns.sum ns<|c-(ns.map<|low c ns.sum).sum;exact⟨by lia,by lia⟩
theorem jg6:∀(ns:List Int),(∀ x∈ns,0<=x/\x<=b)->0<=ns.sum/\ns.sum<=b*ns.length
 | [],_=>by simp
 | n::ns,h=>by
  have i:=jg6 ns<|λx a=>h x (by simp[a]);have j:=h n (by simp);simp only[List.sum_cons,M3]
  lia
def xN:(vx ns c).length=ns.length:=by
 unfold vx;split
 ·rfl
 ·exact Qu _ _ _ _
structure PtOk(p:W2):Prop where
 lo:1<=p.2
 hi:p.2<=10
noncomputable def ts(P:List W2):List Int:=P.map (·.2)
noncomputable def ups(c:Int)(P:List W2):List Int:=P.map λp=>(c*p.2+9)/10
noncomputable def uo(c:Int)(P:List W2):List Int:=P.map λp=>c*p.2/10
noncomputable def jeu(odd:Int):Nat->List Int->List Int
 | _,[]=>[]
 | k,x::l=>(if(k:Int)<odd then x+1 else x)::jeu odd (k+1) l
theorem uP(a):∀ k l,(jeu a k l).length=l.length
 | _,[]=>rfl
 | k,x::l=>by rw[jeu,M3,M3,uP]
theorem jd6(a):∀ k l,(∀ x∈l,0<=x)->∀ x∈jeu a k l,0<=x
 | _,[],_,x,b=>by simp[jeu] at b
 | k,y::l,h,x,b=>by
  have d:=h y (by simp);rcases M5.mp b with rfl | b
  ·lia
  ·exact jd6 a (k+1) l (λz c=>h z<|by simp[c]) x b
def yN(P:List W2)(c:Int):List Int×Int:=if 10<(ts P).sum then(ups c P,(ups c P).sum-c) else(jeu (c*(ts P).sum/10-(uo c P).sum) 0<|uo c P,0)
def jn0(h:∀ p∈P,PtOk p):0<=(ts P).sum/\(ts P).sum<=10*P.length:=by
 induction P with
 | nil=>simp[ts]
 | cons p P c=>
  have a:=c λx d=>h x (by simp[d]);have b:=h p (by simp);have e:=b.lo;have f:=b.hi;simp only[ts,L5,List.sum_cons,M3] at a ⊢
  lia
def Q0(P:List W2):frzs (P.map e2)=true/\fzs (P.map e2)=P.map e2:=by
 refine⟨qN λd hd=>?_,uE λd hd=>?_⟩
 all_goals obtain⟨p,a,rfl⟩:=M7.mp hd;rfl
def jcF(b:P.length<=10):kZ [.lst false<|P.map e2]=some (.int (ts P).sum):=by
 have a:ya (jc [] 0) qT (pF<|p2 jd (pV 0)<|pI 1) (P.map e2) (jo [none] [‹P.map e2›])=some (P.map λp=>D.int p.2):=by
  refine jC rfl (λρ=>∃ o,ρ=[o]) ?_ ⟨none,rfl⟩;rintro x c ρ ⟨o,rfl⟩;exact⟨_,rfl,rfl,_,rfl⟩
 have e:(P.map λp=>D.int p.2)=(ts P).map D.int:=by unfold ts;rw[U2];rfl
 rw[e] at a;simp(disch:=lia) [kZ,jx,Vy,(Q0 P).1,a,jb]
theorem zx(a):∀ l k o0 o1,ya (gT 2<|gC (jc [] 0)<|gC (jc [] 1) gN) qT (pIf (jj<|p2 jkv (pV 0)<|pV 2) (p2 jk (pV 1)<|pI 1)<|pF<|pV 1) (yB k<|l.map D.int) [o0,o1,some<|.int a]=some ((jeu a k l).map D.int)
 | [],k,o0,o1=>rfl
 | x::l,k,o0,o1=>by
  have c:(gT 2<|gC (jc [] 0)<|gC (jc [] 1) gN) (.tup [.int k,.int x]) [o0,o1,some<|.int a]=some [some<|.int k,some<|.int x,some<|.int a]:=rfl;have b:=zx a l (k+1) (some<|.int k)<|some<|.int x;rw[L5,yB,yP,c,L4];by_cases h:k<a
  ·simp[h,b,jeu]
  ·simp[h,b,jeu]
def je9(m:P.length<=10)(a:∀ p∈P,PtOk p)(r:0<=c)(h1:c<=2 ^ 900):VM [.lst false<|P.map e2,.int c]=some (.tup [.lst true<|(yN P c).1.map D.int,.int (yN P c).2]):=by
 have l:=jcF m;have hb:=jn0 a;have f:=Q0 P;by_cases h:10<(ts P).sum
 ·have b:ya (jc [] 0) qT (p2 jH (p2 jk (p2 yR (pV 1)<|p2 jd (pV 0)<|pI 1)<|pI 9)<|pI 10) (P.map e2) (jo [none,some 1] [‹P.map e2›,some<|.int c,some<|.int (ts P).sum,none,none])=some (P.map λp=>D.int<|(c*p.2+9)/10):=by
   refine jC rfl (λρ=>∃ o,ρ=[o,some<|.int c]) ?_ ⟨none,rfl⟩;rintro x d ρ ⟨o,rfl⟩;refine⟨[some<|e2 x,some<|.int c],rfl,?_,_,rfl⟩;have g:jd (e2 x) (.int 1)=some (.int x.2):=rfl;have n:=(a x d).lo;have q:=(a x d).hi;simp(disch:=lia) [g,qv,jy]
  have e:(P.map λp=>D.int<|(c*p.2+9)/10)=(ups c P).map D.int:=by unfold ups;rw[U2];rfl
  rw[e] at b;have i:yN P c=(ups c P,(ups c P).sum-c):=if_pos h;rw[i];simp(disch:=lia) [VM,jx,wk,f.1,f.2,l,h,b,jb]
 ·have b:ya (jc [] 0) qT (p2 jH (p2 yR (pV 1)<|p2 jd (pV 0)<|pI 1)<|pI 10) (P.map e2) (jo [none,some 1] [‹P.map e2›,some<|.int c,some<|.int (ts P).sum,none,none])=some (P.map λp=>D.int<|c*p.2/10):=by
   refine jC rfl (λρ=>∃ o,ρ=[o,some<|.int c]) ?_ ⟨none,rfl⟩;rintro x d ρ ⟨o,rfl⟩;refine⟨[some<|e2 x,some<|.int c],rfl,?_,_,rfl⟩;have g:jd (e2 x) (.int 1)=some (.int x.2):=rfl;have n:=(a x d).lo;have q:=(a x d).hi;simp(disch:=lia) [g,qv,jy]
  have e:(P.map λp=>D.int<|c*p.2/10)=(uo c P).map D.int:=by unfold uo;rw[U2];rfl
  rw[e] at b;have i:yN P c=(jeu (c*(ts P).sum/10-(uo c P).sum) 0<|uo c P,0):=if_neg h;rw[i];have j:jo [none,none,some 4] [‹P.map e2›,some<|.int c,some<|.int (ts P).sum,‹(uo c P).map D.int›,some<|.int<|c*(ts P).sum/10-(uo c P).sum]=[none,none,some<|.int<|c*(ts P).sum/10-(uo c P).sum]:=rfl;have k:lim (yB 0<|(uo c P).map D.int).length=true:=jb (by rw[J1];simp[uo];lia);simp(disch:=lia) [VM,jx,wk,f.1,f.2,l,h,b,jb,qv,jy,j,zx (c*(ts P).sum/10-(uo c P).sum) (uo c P) 0 none none,k,-List.map_map]
def jfx:(yN P c).1.length=P.length:=by
 unfold yN;split
 ·simp[ups]
 ·rw[uP];simp[uo]
def jjs(d:∀ p∈P,PtOk p)(e:0<=c):∀ x∈(yN P c).1,0<=x:=by
 have b:∀ p∈P,0<=c*p.2:=λp h=>Int.mul_nonneg e (by have:=(d p h).lo;lia);unfold yN;split
 ·intro x a;obtain⟨p,h,rfl⟩:=M7.mp a;have:=b p h
  lia
 ·refine jd6 _ _ _ λx a=>?_;obtain⟨p,h,rfl⟩:=M7.mp a;have:=b p h
  lia
theorem ub(a:0<=c)(d:c<T):∀ ns left,(∀ x∈ns,0<=x)->∀(i:Nat) g n,(VV c T ns left).1[i]?=some g->ns[i]?=some n->0<=g/\g<=n
 | [],left,_,i,g,n,_,h=>by simp at h
 | m::ns,left,hp,i,g,n,h1,h2=>by
  have b:=jdq a d<|hp m (by simp);rw[VV] at h1;cases i with
  | zero=>
   simp at h2;split at h1<;>simp at h1<;>subst h1<;>lia
  | succ i=>
   simp at h2;split at h1
   ·simp at h1;exact ub a d ns _ (λx e=>hp x<|by simp[e]) i g n h1 h2
   ·simp at h1;exact ub a d ns _ (λx e=>hp x<|by simp[e]) i g n h1 h2
def jcW{ns}{c}(a:0<=c)(h:∀ x∈ns,0<=x){i:Nat}{g n}(h1:(vx ns c)[i]?=some g)(h2:ns[i]?=some n):0<=g/\g<=n:=by
 unfold vx at h1;split at h1
 ·rw[h2] at h1;cases h1;exact⟨h _<|List.mem_of_getElem? h2,Int.le_refl _⟩
 ·exact ub a ∅ ns _ h i g n h1 h2
def jaW(a:0<=c)(h:∀ x∈ns,0<=x):(vx ns c=ns/\ns.sum<=c)\/(vx ns c).sum=c:=by
 unfold vx;split
 ·lia
 ·exact .inr (jja a ∅ h).2
def jbW(l:List W2):yr (l.map e2)=true:=by
 rw[yO,List.all_map,List.all_eq_true];intro x _;rfl
noncomputable def got(L s:Int):Int:=if s<L then s else L
noncomputable def jmV:List Nat:=[101,97,116]
noncomputable def put(f:List Nat->Int)(c:List Nat)(v:Int):List Nat->Int:=λn=>if n=c then v else f n
def eat:List (List Nat)->(List Nat->Int)->Int->(List Nat->Int)×Int
 | [],f,L=>(f,L)
 | c::E,f,L=>eat E (put f c<|f c-got L (f c))<|L-got L (f c)
def jjV:Nat->List (List Nat)->(List Nat->Int)->Int->List D
 | _,[],_,_=>[]
 | k,c::E,f,L=>.tup [.int k,.str jmV,.str c,.int L,.int<|got L<|f c]::jjV (k+1) E (put f c<|f c-got L (f c)) (L-got L (f c))
def jgD(h:0<=L)(h':0<=s):0<=got L s/\got L s<=L/\got L s<=s:=by unfold got;split<;>lia
def jar(h:∀ n,0<=f n)(a:0<=v)(n):0<=put f c v n:=by
 unfold put;by_cases e:n=c
 ·lia
 ·rw[if_neg e];exact h n
theorem jg5:∀{E}{f}{L},(∀ n,0<=f n)->0<=L->(∀ n,0<=(eat E f L).1 n/\(eat E f L).1 n<=f n)/\0<=(eat E f L).2
 | [],f,L,h,a=>⟨λn=>⟨h n,Int.le_refl _⟩,a⟩
 | c::E,f,L,h,a=>by
  have g:=jgD a<|h c;have q:=jg5 (E:=E) (f:=put f c<|f c-got L (f c)) (L:=L-got L (f c)) (jar h ∅) ∅;refine⟨λn=>⟨(q.1 n).1,Int.le_trans (q.1 n).2 ?_⟩,q.2⟩;unfold put;split
  ·lia
  ·lia
def jnd(h:d≠c):put f c u d=f d:=if_neg h
def bkD(o:Bool)(S W Rn Lv:List W2)(x:Int):D:=.tup [.lst o<|S.map e2,.lst o<|W.map e2,.lst o<|Rn.map e2,.lst o<|Lv.map e2,.int x]
def YB(o)(S W Rn Lv)(x):fz (bkD o S W Rn Lv x)=bkD false S W Rn Lv x:=by simp[bkD,JM]
def Jq(S W Rn Lv)(x):frz (bkD false S W Rn Lv x)=true:=by simp[bkD,yg]
def zF(S W Rn Lv)(x):vn (bkD true S W Rn Lv x)=true:=by simp[bkD,jbW]
theorem Kx(g:N.length<=1000):∀{E}{s}{f}{L}{acc}{o6 o7 o8},(∀ c∈E,c∈N)->acc.length+E.length<=1000 ->
  Ex3 λo6' o7' o8'=>jY (gT 2<|gC (jc [] 6)<|gC (jc [] 7) gN) VF (yB s<|E.map D.str) [a0,a1,a2,some<|dct true N f,some<|.int L,↑acc,o6,o7,o8,o9] =
   some (.nx [a0,a1,a2,some<|dct true N (eat E f L).1,some<|.int (eat E f L).2,↑(acc++jjV s E f L),o6',o7',o8',o9])
 | [],s,f,L,acc,o6,o7,o8,_,_=>⟨o6,o7,o8,by rw[jjV,N1];rfl⟩
 | c::E,s,f,L,acc,o6,o7,o8,b,h=>by
  rw[M3] at h;have a:=b c (by simp);obtain⟨o6',o7',o8',e⟩:=Kx (a0:=a0) (a1:=a1) (a2:=a2) (o9:=o9) g (E:=E) (f:=put f c<|f c-got L (f c)) (L:=L-got L (f c)) (acc:=acc++[.tup [.int s,.str jmV,.str c,.int L,.int<|got L<|f c]]) (o6:=some<|.int s) (o7:=some<|.str c) (o8:=some<|.int<|got L<|f c) (λd hd=>b d<|by simp[hd]) (by rw[N5];simp only[M3,List.length_nil];lia);refine⟨o6',o7',o8',?_⟩;have i:xB [.int L,.int<|f c]=some (.int<|got L<|f c):=rfl;rw[L5,yB,lpF ?_,e,jjV,eat];simp;simp(disch:=first | lia | (simp;done) | (simp;lia)) [VF,yq (o:=true) (f:=f) a,i,YV f a,uZ (f:=f) (v:=f c-got L (f c)) a,jb,jmV];simp[dct,put]
noncomputable def sz'(N:W1)(f:List Nat->Int):List W2:=N.map λn=>(n,f n)
noncomputable def ow'(W:List W2)(f:List Nat->Int):List W2:=W.map λq=>(q.1,if 0<f q.1 then q.2 else 0)
def jcl(d:∀ q∈W,q.1∈N):ya (gT 2<|gC (jc [] 0)<|gC (jc [] 1) gN) qT (yF #[pF<|pV 0,pIf (jj<|p2 YK (p2 yI (pV 2)<|pV 0)<|pI 0) (pF<|pV 1)<|pI 0]) (W.map e2) [none,none,some<|dct true N f]=some ((ow' W f).map e2):=by
 unfold ow';rw[U2];refine jC rfl (λρ=>∃ o a,ρ=[o,a,some<|dct true N f]) ?_ ⟨none,none,rfl⟩;rintro q e ρ ⟨o,a,rfl⟩;have b:=yq (o:=true) (f:=f)<|d q e;refine⟨[some<|.str q.1,some<|.int q.2,some<|dct true N f],rfl,?_,_,_,rfl⟩;by_cases c:0<f q.1
 ·simp[b,c,jb,e2]
 ·simp[b,c,jb,e2]
def je7{p}{S W Rn Lv}{x L}{O}(h:PoolOk O p)(a:S.map (·.1)=p.told.map (·.1))(d:W.map (·.1)=p.told.map (·.1))(F:Rn.length<=10)(G:Lv.length<=10):
  KU [jJ false p,bkD false S W Rn Lv x,.int L]=some (.tup [.lst true<|jjV 0 p.eats (fnOf S) L,bkD true (sz' (p.told.map (·.1)) (eat p.eats (fnOf S) L).1) (ow' W (eat p.eats (fnOf S) L).1) Rn Lv<|x+(eat p.eats (fnOf S) L).2]):=by
 have H:=h.told2;have nd:(S.map (·.1)).Nodup:=by rw[a];exact h.toldn
 have i:S.length<=10:=by
  have:=congrArg List.length a;rw[L1,L1] at this
  lia
 have j:W.length<=10:=by
  have:=congrArg List.length d;rw[L1,L1] at this
  lia
 have k:=h.eats2;have l:jd (bkD false S W Rn Lv x) (.int 0)=‹S.map e2›:=rfl;have m:jd (bkD false S W Rn Lv x) (.int 1)=‹W.map e2›:=rfl;have o:jd (bkD false S W Rn Lv x) (.int 2)=‹Rn.map e2›:=rfl;have r:jd (bkD false S W Rn Lv x) (.int 3)=‹Lv.map e2›:=rfl;have t:jd (bkD false S W Rn Lv x) (.int 4)=some (.int x):=rfl;have u:jd (jJ false p) (.int 3)=‹p.eats.map D.str›:=rfl;have v:yT [.lst false<|S.map e2]=some (dct true (p.told.map (·.1))<|fnOf S):=by rw[<- a];exact yt nd ∅
 obtain⟨w,y,z,e⟩:=Kx (a0:=some<|jJ false p) (a1:=some<|bkD false S W Rn Lv x) (a2:=some<|.int L) (o9:=none) (by rw[L1];lia) (s:=0) (f:=fnOf S) (L:=L) (acc:=[]) (o6:=none) (o7:=none) (o8:=none) h.eatsm (by simp;lia);have A:=jcl (N:=p.told.map (·.1)) (f:=(eat p.eats (fnOf S) L).1) (λq B=>by rw[<- d];exact M7.mpr ⟨q,B,rfl⟩);have g:=zE (p.told.map (·.1)) (eat p.eats (fnOf S) L).1;have b:((p.told.map (·.1)).map λn=>D.tup [.str n,.int<|(eat p.eats (fnOf S) L).1 n])=(sz' (p.told.map (·.1)) (eat p.eats (fnOf S) L).1).map e2:=by simp[sz',e2]
 rw[b] at g;have C:lim W.length=true:=jb ∅;have c:∀ ρ,pV 3 ρ=some (dct true (p.told.map (·.1)) (eat p.eats (fnOf S) L).1)->yM (pV 3) ρ=↑((sz' (p.told.map (·.1)) (eat p.eats (fnOf S) L).1).map e2):=by
  intro ρ E;rw[yM,E];show(bif frzs ((p.told.map (·.1)).map λn=>D.int<|(eat p.eats (fnOf S) L).1 n) then _ else _)=_;rw[uJ,<- g];rfl
 generalize bkD false S W Rn Lv x=BK at *;simp(disch:=first | lia | (simp;done) | (simp;lia)) [KU,jx,jcz,l,m,o,r,t,u,v,e,jo,yg,A,c,jb,bkD,-yM]
def Yn{S:List W2}(h:∀ q∈S,0<=q.2)(n):0<=fnOf S n:=by
 unfold fnOf
 induction S with
 | nil=>exact Int.le_refl _
 | cons q S a=>
  rw[lkp];by_cases e:q.1=n
  ·rw[if_pos e];exact h q (by simp)
  ·rw[if_neg e];exact a λr b=>h r (by simp[b])
def hit(rn:List W2):List WL->Option (List Nat)
 | []=>none
 | x::l=>if x.2.1<=(lkp x.1 rn).getD 0 then some x.2.2 else hit rn l
def jdF:∀{L}{o2 o3 o4},(∀ x∈L,x.1∈rn.map (·.1)) ->
  Ex3 λo2' o3' o4'=>jY (gT 3<|gC (jc [] 2)<|gC (jc [] 3)<|gC (jc [] 4) gN) vi (L.map eL) [some<|jJ false p,some<|.dK false (rn.map λq=>KA.str q.1)<|rn.map λq=>D.int q.2,o2,o3,o4] =
   match hit rn L with
   | some w=>some<|.rt (.str w) [some<|jJ false p,some<|.dK false (rn.map λq=>KA.str q.1)<|rn.map λq=>D.int q.2,o2',o3',o4']
   | none=>some (.nx [some<|jJ false p,some<|.dK false (rn.map λq=>KA.str q.1)<|rn.map λq=>D.int q.2,o2',o3',o4']):=by
 intro L
 induction L with
 | nil=>
  intro o2 o3 o4 _;exact⟨o2,o3,o4,rfl⟩
 | cons x L i=>
  intro o2 o3 o4 h;obtain⟨r,c,_⟩:=jam<|h x (by simp);have j:qu (rn.map λq=>KA.str q.1) (rn.map λq=>D.int q.2) (.str x.1)=some (.int r):=by
   have a:=Q8 x.1<|rn.map λq=>(q.1,D.int q.2);rw[U2,U2,jck D.int x.1 rn,c] at a;exact a
  have f:=j;have g:(gT 3<|gC (jc [] 2)<|gC (jc [] 3)<|gC (jc [] 4) gN) (eL x) [some<|jJ false p,some<|.dK false (rn.map λq=>KA.str q.1)<|rn.map λq=>D.int q.2,o2,o3,o4]=some [some<|jJ false p,some<|.dK false (rn.map λq=>KA.str q.1)<|rn.map λq=>D.int q.2,some<|.str x.1,some<|.int x.2.1,some<|.str x.2.2]:=rfl;by_cases b:x.2.1<=r
  ·have d:hit rn (x::L)=some x.2.2:=by rw[hit,c];exact if_pos b
   refine⟨some<|.str x.1,some<|.int x.2.1,some<|.str x.2.2,?_⟩;rw[d,L5,yx,g,L4];simp[vi,f,b]
  ·have d:hit rn (x::L)=hit rn L:=by rw[hit,c];exact if_neg b
   obtain⟨o2',o3',o4',e⟩:=i (o2:=some<|.str x.1) (o3:=some<|.int x.2.1) (o4:=some<|.str x.2.2) λy k=>h y (by simp[k]);refine⟨o2',o3',o4',?_⟩;rw[d,<- e,L5,yx,g,L4];simp[vi,f,b]
noncomputable def jkw(p:PoolS):List Nat:=(p.orders.map (·.nm)).headD []
def jeQ(h:PoolOk O p):∃ d,jd (.lst false<|p.orders.map<|yj false) (.int 0)=some d/\jd d (.int 0)=some (.str<|jkw p):=by
 have a:=h.orders1;unfold jkw;cases e:p.orders with
 | nil=>rw[e] at a;simp at a
 | cons x l=>exact⟨yj false x,by rw[jbs (by decide)<|by simp];rfl,rfl⟩
def jkk(h:PoolOk O p)  (b:rn.map (·.1)=p.told.map (·.1)):
  vm [jJ false p,.dK false (rn.map λq=>KA.str q.1)<|rn.map λq=>D.int q.2]=some (.str<|(hit rn p.looks).getD (jkw p)):=by
 obtain⟨c,f,g,e⟩:=jdF (p:=p) (o2:=none) (o3:=none) (o4:=none) (by rw[b];exact λx i=>(h.looks x i).1);obtain⟨d,jh9,jnK⟩:=jeQ h;have a:jd (jJ false p) (.int 5)=‹p.looks.map eL›:=rfl;have j:jd (jJ false p) (.int 4)=‹p.orders.map (yj false)›:=rfl;cases hh:hit rn p.looks with
 | none=>
  rw[hh] at e;simp[vm,jx,qL,a,j,QH,jem,e,jh9,jnK]
 | some w=>
  rw[hh] at e;simp[vm,jx,qL,a,QH,jem,e]
def jm2{O}{p}(h:PoolOk O p){sz ow b lv:List W2}{x}(c:b.map (·.1)=p.told.map (·.1)):
  vQ [jJ false p,.tup [.lst false<|sz.map e2,.lst false<|ow.map e2,.lst false<|b.map e2,.lst false<|lv.map e2,.int x]]=some (.str<|(hit b p.looks).getD (jkw p)):=by
 have j:b.length<=10:=by
  have:=congrArg List.length c;rw[L1,L1] at this;have:=h.told2
  lia
 have f:jd (.tup [.lst false<|sz.map e2,.lst false<|ow.map e2,.lst false<|b.map e2,.lst false<|lv.map e2,.int x]) (.int 2)=‹b.map e2›:=rfl;have g:yT [.lst false<|b.map e2]=some (.dK true (b.map λq=>KA.str q.1)<|b.map λq=>D.int q.2):=by
  have:=V6 (o:=false) (l:=b.map λq=>(q.1,D.int q.2)) (by rw[U2];have:=h.toldn;rw[<- c] at this;exact this) (by intro q i;obtain⟨a,_,rfl⟩:=M7.mp i;rfl) (by rw[L1];lia);rw[U2,U2,U2] at this;exact this
 have d:fzs (b.map λq=>D.int q.2)=b.map λq=>D.int q.2:=vk (λ_=>rfl) _;have e:fz (.dK true (b.map λq=>KA.str q.1)<|b.map λq=>D.int q.2)=.dK false (b.map λq=>KA.str q.1) (b.map λq=>D.int q.2):=by rw[fz,d]
 simp[vQ,jx,VE,f,g,h.fz false,e,jkk h c]
noncomputable def qK(p:PoolS):List W2:=p.told.map λc=>(c.1,0)
noncomputable def jaZ(p:PoolS):List W2:=p.told.map λc=>(c.1,c.2.1)
noncomputable def jaQ(p:PoolS):List W2:=p.marks.map λc=>(c.1,0)
def w8(l:List W3):ya (jc [] 0) qT (yF #[pF<|p2 jd (pV 0)<|pI 0,pI 0]) (l.map e3) [none]=some ((l.map λc=>((c.1,0):W2)).map e2):=by
 rw[U2];refine jC rfl (λρ=>∃ o,ρ=[o]) ?_ ⟨none,rfl⟩;rintro c b ρ ⟨o,rfl⟩;refine⟨[some<|e3 c],rfl,?_,_,rfl⟩;have a:jd (e3 c) (.int 0)=some (.str c.1):=rfl;simp[a,jb,e2]
def jaG(l:List W3):ya (jc [] 0) qT (yF #[pF<|p2 jd (pV 0)<|pI 0,pF<|p2 jd (pV 0)<|pI 1]) (l.map e3) [none]=some ((l.map λc=>((c.1,c.2.1):W2)).map e2):=by
 rw[U2];refine jC rfl (λρ=>∃ o,ρ=[o]) ?_ ⟨none,rfl⟩;rintro c d ρ ⟨o,rfl⟩;refine⟨[some<|e3 c],rfl,?_,_,rfl⟩;have a:jd (e3 c) (.int 0)=some (.str c.1):=rfl;have b:jd (e3 c) (.int 1)=some (.int c.2.1):=rfl;simp[a,b,jb,e2]
def jd4(l:List W2):ya (jc [] 0) qT (yF #[pF<|p2 jd (pV 0)<|pI 0,pI 0]) (l.map e2) [none]=some ((l.map λc=>((c.1,0):W2)).map e2):=by
 rw[U2];refine jC rfl (λρ=>∃ o,ρ=[o]) ?_ ⟨none,rfl⟩;rintro c a ρ ⟨o,rfl⟩;refine⟨[some<|e2 c],rfl,?_,_,rfl⟩;have b:jd (e2 c) (.int 0)=some (.str c.1):=rfl;simp[ jb];rfl
def jjp(p:PoolS)(rn:List W2):List Nat:=(hit rn p.looks).getD (jkw p)
def jlh{O}{p}(h:PoolOk O p){S W Rn Lv}{x}(a:Rn.map (·.1)=p.told.map (·.1)):vQ [jJ false p,bkD false S W Rn Lv x]=some (.str<|jjp p Rn):=jm2 h a
theorem jdV:∀{L},hit rn L=some w->∃ x∈L,x.2.2=w
 | [],h=>by simp[hit] at h
 | x::L,h=>by
  rw[hit] at h;split at h
  ·cases h;exact⟨x,by simp,rfl⟩
  ·obtain⟨y,a,e⟩:=jdV h;exact⟨y,by simp[a],e⟩
def jap(h:PoolOk O p)(a):jjp p a∈p.orders.map (·.nm):=by
 unfold jjp;cases e:hit a p.looks with
 | some w=>
  obtain⟨x,c,rfl⟩:=jdV e;exact h.looksm x c
 | none=>
  have b:=h.orders1;unfold jkw;cases e:p.orders with
  | nil=>rw[e] at b;simp at b
  | cons x l=>simp
def QC(h:PoolOk O p):vj [jJ false p]=some (bkD true (jaZ p) (qK p) (qK p) (jaQ p) 0):=by
 have a:jd (jJ false p) (.int 1)=‹p.told.map e3›:=rfl;have b:jd (jJ false p) (.int 2)=‹p.marks.map e2›:=rfl;have c:=h.told2;have d:=h.marks2;have l1:lim p.told.length=true:=jb ∅;have l2:lim p.marks.length=true:=jb ∅;simp[vj,jx,YL,a,b,km,yg,l1,l2,jo,w8 p.told,jaG p.told,jd4 p.marks,bkD,jaZ,qK,jaQ,-List.map_map]
def jhd(p:PoolS):List Nat->Int:=fnOf<|p.told.map λc=>(c.1,c.2.2)
def wd'(p:PoolS)(f:List Nat->Int)(W:List W2):List W2:=W.map λq=>(q.1,if 0<f q.1 then q.2+jhd p q.1 else q.2)
def jen(l:List W3):ya (jc [] 0) qT (yF #[pF<|p2 jd (pV 0)<|pI 0,pF<|p2 jd (pV 0)<|pI 2]) (l.map e3) [none]=some ((l.map λc=>((c.1,c.2.2):W2)).map e2):=by
 rw[U2];refine jC rfl (λρ=>∃ o,ρ=[o]) ?_ ⟨none,rfl⟩;rintro c d ρ ⟨o,rfl⟩;refine⟨[some<|e3 c],rfl,?_,_,rfl⟩;have a:jd (e3 c) (.int 0)=some (.str c.1):=rfl;have b:jd (e3 c) (.int 2)=some (.int c.2.2):=rfl;simp[a,b,jb,e2]
def zj{O}{p}(h:PoolOk O p){S W Rn Lv}{x}(b:S.map (·.1)=p.told.map (·.1))(e:W.map (·.1)=p.told.map (·.1)):
  kK [jJ false p,bkD false S W Rn Lv x]=some (bkD false S (wd' p (fnOf S) W) Rn Lv x):=by
 have B:=h.told2;have nd:(S.map (·.1)).Nodup:=by rw[b];exact h.toldn
 have m:S.length<=10:=by
  have:=congrArg List.length b;rw[L1,L1] at this
  lia
 have n:W.length<=10:=by
  have:=congrArg List.length e;rw[L1,L1] at this
  lia
 have g:jd (bkD false S W Rn Lv x) (.int 0)=‹S.map e2›:=rfl;have r:jd (bkD false S W Rn Lv x) (.int 1)=‹W.map e2›:=rfl;have s:jd (bkD false S W Rn Lv x) (.int 2)=‹Rn.map e2›:=rfl;have t:jd (bkD false S W Rn Lv x) (.int 3)=‹Lv.map e2›:=rfl;have u:jd (bkD false S W Rn Lv x) (.int 4)=some (.int x):=rfl;have v:jd (jJ false p) (.int 1)=‹p.told.map e3›:=rfl;have w:yT [.lst false<|S.map e2]=some (dct true (p.told.map (·.1))<|fnOf S):=by rw[<- b];exact yt nd ∅
 have a:(p.told.map λc=>((c.1,c.2.2):W2)).map (·.1)=p.told.map (·.1):=by simp
 have d:yT [.lst true<|(p.told.map λc=>((c.1,c.2.2):W2)).map e2]=some (dct true (p.told.map (·.1))<|jhd p):=by
  have:=yt (o:=true) (by rw[a];exact h.toldn) (by rw[L1];lia);rw[a] at this;exact this
 have y:ya (gT 2<|gC (jc [] 0)<|gC (jc [] 1) gN) qT (yF #[pF<|pV 0,pIf (jj<|p2 YK (p2 yI (pV 2)<|pV 0)<|pI 0) (p2 jk (pV 1)<|p2 yI (pV 3)<|pV 0)<|pF<|pV 1]) (W.map e2) [none,none,some (dct true (p.told.map (·.1))<|fnOf S),some (dct true (p.told.map (·.1))<|jhd p)]=some ((wd' p (fnOf S) W).map e2):=by
  unfold wd';rw[U2];refine jC rfl (λρ=>∃ o i,ρ=[o,i,some (dct true (p.told.map (·.1))<|fnOf S),some (dct true (p.told.map (·.1))<|jhd p)]) ?_ ⟨none,none,rfl⟩;rintro q z ρ ⟨o,i,rfl⟩;have j:q.1∈p.told.map (·.1):=by rw[<- e];exact M7.mpr ⟨q,z,rfl⟩
  have k:=yq (o:=true) (f:=fnOf S) j;have A:=yq (o:=true) (f:=jhd p) j;refine⟨[some<|.str q.1,some<|.int q.2,some (dct true (p.told.map (·.1))<|fnOf S),some (dct true (p.told.map (·.1))<|jhd p)],rfl,?_,_,_,rfl⟩;by_cases l:0<fnOf S q.1
  ·simp[k,A,l,jb,e2]
  ·simp[k,l,jb,e2]
 have l1:lim p.told.length=true:=jb ∅;have l2:lim W.length=true:=jb ∅;generalize C:bkD false S W Rn Lv x=BK at *;simp(disch:=first | lia | (simp;done) | (simp;lia)) [kK,jx,Vs,g,r,v,w,d,jen p.told,y,jo,yg,JM,km,Kv,l1,l2,jb,bkD,-yF,-pIf,-List.map_map];simp(disch:=first | lia | (simp;done) | (simp;lia)) [g,s,t,u,yg,jb]
noncomputable abbrev EN:=List Nat×List Nat
abbrev LN:=List<|EN×Int
noncomputable def kL(r:EN×Int):List KA:=[.str r.1.1,.str r.1.2]
noncomputable def vL(r:EN×Int):D:=.int r.2
def dLn(o:Bool)(l:LN):D:=.dT o (l.map kL)<|l.map vL
noncomputable def Jf:LN->EN->Option Int
 | [],_=>none
 | r::l,k=>if r.1=k then some r.2 else Jf l k
noncomputable def jhk(l:LN)(k:EN)(v:Int):LN:=l.map λr=>(r.1,if r.1=k then v else r.2)
def jes(l:LN)(k:EN)(v:Int):LN:=if k∈l.map (·.1) then jhk l k v else l++[(k,v)]
def jlD:([KA.str a,KA.str b]=[KA.str c,KA.str d])=((a,b)=((c,d):EN)):=by simp
def jdG(r)(k):(kL r=[KA.str k.1,KA.str k.2])=(r.1=k):=by
 obtain⟨⟨a,b⟩,n⟩:=r;obtain⟨c,d⟩:=k;exact jlD
theorem Vk(k):∀ l:LN,J8 (l.map kL) (l.map vL) [.str k.1,.str k.2]=(Jf l k).map D.int
 | []=>rfl
 | r::l=>by
  rw[L5,L5,J8,Jf];by_cases h:r.1=k
  ·rw[if_pos h,if_pos<|by rw[jdG];exact h];rfl
  ·rw[if_neg h,if_neg<|by rw[jdG];exact h,Vk k l]
theorem jcB(k)(v):∀ l:LN,ja0 (l.map kL) (l.map vL) [.str k.1,.str k.2] (.int v)=(jhk l k v).map vL
 | []=>rfl
 | r::l=>by
  rw[L5,L5,ja0,jcB k v l];by_cases h:r.1=k
  ·rw[if_pos<|by rw[jdG];exact h];simp[jhk,h,vL]
  ·rw[if_neg<|by rw[jdG];exact h];simp[jhk,h]
theorem jb7(k):∀ l:LN,([KA.str k.1,KA.str k.2]∈l.map kL)↔k∈l.map (·.1)
 | []=>by simp
 | r::l=>by
  rw[L5,L5,M5,M5,jb7 k l];have:=jdG r k;constructor
  ·lia
  ·lia
def jcd(l)(k)(v):(jhk l k v).map (·.1)=l.map (·.1):=by unfold jhk;rw[U2];rfl
def ji9(l)(k)(v):(jhk l k v).map kL=l.map kL:=by unfold jhk;rw[U2];rfl
def wx(k)(v)(l):kW (l.map kL) (l.map vL) [.str k.1,.str k.2] (.int v)=((jes l k v).map kL,(jes l k v).map vL):=by
 unfold kW jes;by_cases h:k∈l.map (·.1)
 ·rw[if_pos h,if_pos<|(jb7 k l).mpr h,jcB,ji9]
 ·rw[if_neg h,if_neg λz=>h<|(jb7 k l).mp z];simp[kL,vL]
structure LnOk(N:W1)(l:LN):Prop where
 nd:(l.map (·.1)).Nodup
 mem:∀ r∈l,r.1.1∈N/\r.1.2∈N/\0<=r.2
def jd5(h:LnOk N l)  (h1:k.1∈N) (h2:k.2∈N) (d:0<=v):LnOk N (jes l k v):=by
 unfold jes;by_cases e:k∈l.map (·.1)
 ·rw[if_pos e];refine⟨by rw[jcd];exact h.nd,λr c=>?_⟩;obtain⟨q,f,rfl⟩:=M7.mp c;have:=h.mem q f;refine⟨this.1,this.2.1,?_⟩;split
  ·lia
  ·lia
 ·rw[if_neg e];refine⟨?_,λr c=>?_⟩
  ·rw[N6,X0];exact⟨h.nd,by simp,λa g b hb=>by simp at hb;rintro rfl;exact e<|hb▸g⟩
  ·rcases N3.mp c with c | c
   ·exact h.mem r c
   ·rw[M9.mp c];exact⟨h1,h2,d⟩
theorem wv{N:W1}  : ∀{l},(∀ r∈l,r.1.1∈N/\r.1.2∈N/\0<=r.2)->0<=(Jf l k).getD 0
 | [],_=>Int.le_refl _
 | r::l,h=>by
  rw[Jf];split
  ·exact(h r<|by simp).2.2
  ·exact wv λq a=>h q (by simp[a])
theorem QX [DecidableEq α]:∀{l m:List α},l.Nodup->(∀ x∈l,x∈m)->l.length<=m.length
 | [],m,_,_=>by simp
 | a::l,m,b,d=>by
  have e:=d a (by simp);rw[List.nodup_cons] at b;have:=QX b.2 λx f=>by
   have c:x≠a:=λz=>b.1<|z▸f;exact(List.mem_erase_of_ne c).mpr (d x<|by simp[f])
  rw[List.length_erase_of_mem e] at this;have g:=List.length_pos_of_mem e;simp only[M3]
  lia
def LnOk.len(h:LnOk N l)(c:N.length<=6):l.length<=36:=by
 have:=QX (m:=N.flatMap λa=>N.map λb=>(a,b)) h.nd λx d=>by
  obtain⟨r,f,rfl⟩:=M7.mp d;have:=h.mem r f;exact List.mem_flatMap.mpr ⟨r.1.1,this.1,M7.mpr ⟨r.1.2,this.2.1,rfl⟩⟩
 rw[L1,List.length_flatMap] at this;have e:(N.map λa=>(N.map λb=>((a,b):EN)).length)=N.map λ_=>N.length:=by simp
 have e2:∀ n (M:W1),(M.map λ_=>n).sum=M.length*n:=λn M=>by
  induction M with
  | nil=>simp
  | cons a M g=>simp only[L5,List.sum_cons,M3,Nat.succ_mul];lia
 rw[e,e2] at this;have i:=Nat.mul_le_mul c c
 lia
noncomputable abbrev MV:=List Nat×List Nat×Int
noncomputable def eM(m:MV):D:=.tup [.str m.1,.str m.2.1,.int m.2.2]
def mvF(nm:List Nat)(l:LN)(m:MV):LN:=if m.1=qd then jes l (nm,m.2.1) ((Jf l (nm,m.2.1)).getD 0+m.2.2) else jes l (m.2.1,nm) ((Jf l (m.2.1,nm)).getD 0-m.2.2)
structure MvOk(nm:List Nat)(N:W1)(c:Int)(l:LN)(m:MV):Prop where
 kd:m.1=qd\/(m.1=VS/\m.2.2<=(Jf l (m.2.1,nm)).getD 0)
 ot:m.2.1∈N
 po:0<m.2.2
 hi:m.2.2<=c
def jgY(h:LnOk N l)(a:nm∈N)(k:MvOk nm N c l m):LnOk N (mvF nm l m):=by
 unfold mvF;have po:=k.po;rcases k.kd with e | ⟨e,e2⟩
 ·rw[if_pos e];have:=wv (k:=(nm,m.2.1)) h.mem;exact jd5 h a k.ot ∅
 ·rw[if_neg ∅];exact jd5 h k.ot a ∅
def jaV(h:0<c)(h2:c<=(Jf l k).getD 0):∃ v,Jf l k=some v:=by
 cases e:Jf l k with
 | some v=>exact⟨v,rfl⟩
 | none=>rw[e] at h2;simp at h2;lia
def jdU(h:l.length<=100)(k:MvOk nm N c l m):yK [dLn true l,.str nm,.str m.1,.str m.2.1,.int m.2.2]=some (.non,dLn true<|mvF nm l m):=by
 have a:lim l.length=true:=jb ∅;rcases k.kd with e | ⟨e,e2⟩
 ·have b:=Vk (nm,m.2.1) l;have p1:=wx (nm,m.2.1) ((Jf l (nm,m.2.1)).getD 0+m.2.2) l;have g:Va (dLn true l) [.str nm,.str m.2.1] (.int 0)=some (.int<|(Jf l (nm,m.2.1)).getD 0):=by
   show some ((J8 (l.map kL) (l.map vL) [.str nm,.str m.2.1]).getD (.int 0))=_;rw[b];cases Jf l (nm,m.2.1)<;>rfl
  have d:mvF nm l m=jes l (nm,m.2.1) ((Jf l (nm,m.2.1)).getD 0+m.2.2):=if_pos e;rw[d];simp only[dLn] at *;simp[yK,vW,Js,e,g,p1,a,YJ]
 ·obtain⟨v,f⟩:=jaV k.po e2;have b:=Vk (m.2.1,nm) l;rw[f] at b;have d:mvF nm l m=jes l (m.2.1,nm) (v-m.2.2):=by unfold mvF;rw[if_neg ∅,f];rfl
  rw[d];simp only[dLn] at *;simp[yK,vW,Js,jf0,e,b,wx (m.2.1,nm) (v-m.2.2) l,a,YJ]
noncomputable def eR(r:EN×Int):D:=.tup [.str r.1.1,.str r.1.2,.int r.2]
def vG(l:LN):frzs (l.map eR)=true:=yH (λ_=>rfl) _
def Yy(l:LN):fzs (l.map eR)=l.map eR:=vk (λ_=>rfl) _
def zr(l):vn (dLn true l)=true:=by
 have:yr (l.map vL)=true:=by rw[yO,List.all_map,List.all_eq_true];intro x _;rfl
 simp[dLn,vn,this]
theorem uk:∀(l a:LN),((a++l).map (·.1)).Nodup->(l.map λr=>(kL r,vL r)).foldl (λacc kv=>kW acc.1 acc.2 kv.1 kv.2) (a.map kL,a.map vL)=((a++l).map kL,(a++l).map vL)
 | [],a,_=>by simp
 | r::l,a,h=>by
  have b:r.1∉a.map (·.1):=by
   rw[N6,X0] at h;intro z;exact h.2.2 _ z r.1 (by simp) rfl
  have e:kW (a.map kL) (a.map vL) (kL r) (vL r)=((a++[r]).map kL,(a++[r]).map vL):=by
   have:=wx r.1 r.2 a;unfold jes at this;rw[if_neg b] at this;exact this
  show List.foldl _ (kW (a.map kL) (a.map vL) (kL r)<|vL r) _=_;rw[e,uk l (a++[r]) ⇑h];simp
theorem zY:∀(l:LN) o0 o1 o2,ya (gT 3<|gC (jc [] 0)<|gC (jc [] 1)<|gC (jc [] 2) gN) qT (yF #[pKy (pV 0)<|pV 1,pF<|pV 2]) (l.map eR) [o0,o1,o2]=some (l.map λr=>.tup [.kt<|kL r,vL r])
 | [],_,_,_=>rfl
 | r::l,o0,o1,o2=>by
  have a:=zY l (some<|.str r.1.1) (some<|.str r.1.2)<|some<|.int r.2;have b:gT 3 (gC (jc [] 0)<|gC (jc [] 1)<|gC (jc [] 2) gN) (eR r) [o0,o1,o2]=some [some<|.str r.1.1,some<|.str r.1.2,some<|.int r.2]:=rfl;rw[L5,yP,b,L4];simp[a,qT,kL,vL,yU,jb]
theorem jmo:∀ l:LN,wL (l.map λr=>.tup [.kt<|kL r,vL r])=some (l.map λr=>(kL r,vL r))
 | []=>rfl
 | r::l=>by rw[L5,wL,jmo l];rfl
def jdk(h:(l.map (·.1)).Nodup)(b:l.length<=1000):yn [.lst false<|l.map eR]=some (dLn true l):=by
 have e:=zY l none none none;have d:jbP (l.map λr=>(kL r,vL r))=(l.map kL,l.map vL):=uk l [] ⇑h;have a:lim l.length=true:=jb ∅;have fd:uL [.lst true<|l.map λr=>.tup [.kt<|kL r,vL r]]=some (dLn true l):=by
  show(wL _).bind _=_;rw[jmo,L4,d];simp[a,dLn]
 simp[yn,jx,qD,jo,e,fd,vG,a]
def reN(nm:List Nat)(l:LN)(ms:List MV):LN:=ms.foldl (mvF nm) l
def MvsOk(nm:List Nat)(N:W1)(c:Int):LN->List MV->Prop
 | _,[]=>True
 | l,m::ms=>MvOk nm N c l m/\MvsOk nm N c (mvF nm l m) ms
theorem MvsOk.snoc:∀{ms}{l},MvsOk nm N c l ms->MvOk nm N c (reN nm l ms) m->MvsOk nm N c l (ms++[m])
 | [],l,_,h=>⟨h,trivial⟩
 | a::ms,l,h,k=>⟨h.1,MvsOk.snoc h.2 k⟩
def uO(nm)(l)(ms)(m):reN nm l (ms++[m])=mvF nm (reN nm l ms) m:=by simp[reN]
theorem jbX(a:nm∈N):∀{ms}{l},LnOk N l->MvsOk nm N c l ms->LnOk N (reN nm l ms)
 | [],l,h,_=>h
 | m::ms,l,h,k=>jbX a (l:=mvF nm l m) (jgY h a k.1) k.2
theorem VR(a:nm∈N)(b:N.length<=6)  : ∀{ms}{l}{o4 o5 o6},LnOk N l->MvsOk nm N c l ms ->
  Ex3 λo4' o5' o6'=>jY (gT 3<|gC (jc [] 4)<|gC (jc [] 5)<|gC (jc [] 6) gN) vy (ms.map eM) [a0,some<|.str nm,a2,some<|dLn true l,o4,o5,o6]=some (.nx [a0,some<|.str nm,a2,some<|dLn true<|reN nm l ms,o4',o5',o6'])
 | [],l,o4,o5,o6,_,_=>⟨o4,o5,o6,rfl⟩
 | m::ms,l,o4,o5,o6,h,k=>by
  obtain⟨o4',o5',o6',e⟩:=VR a b (o4:=some<|.str m.1) (o5:=some<|.str m.2.1) (o6:=some<|.int m.2.2) (jgY h a k.1) k.2;refine⟨o4',o5',o6',?_⟩;have d:=jdU (by have:=h.len b;lia) k.1;rw[L5,lpF ?_,e];rfl;show(some _).bind _=_;simp[vy,d,Jz,kB]
theorem Kz:∀ l:LN,kS (l.map kL) (l.map vL)=some ((l.filter λr=>decide<|0<r.2).map eR)
 | []=>rfl
 | r::l=>by
  show(kS (l.map kL)<|l.map vL).bind _=_;rw[Kz l,L4,List.filter_cons];by_cases h:0<r.2
  ·simp[h];rfl
  ·simp[h]
theorem uH:∀ l:LN,∃ rs,ja9 (l.map eR)=some rs
 | []=>⟨[],rfl⟩
 | r::l=>by
  obtain⟨rs,e⟩:=uH l;exact⟨(S r.1.1,S r.1.2,r.2)::rs,by show(ja9<|l.map eR).bind _=_;rw[e];rfl⟩
noncomputable def jpF:D->EN
 | .tup [.str a,.str b,_]=>(a,b)
 | _=>([],[])
def jj6(h:LnOk N l)  : ∃(l':LN),An3 (we rs (l.map eR)=l'.map eR) (LnOk N l') (l'.length=l.length):=by
 have p:=jbq (rs:=rs) (l:=l.map eR);obtain⟨l',e,b⟩:=YS λy c=>by
  obtain⟨r,a,rfl⟩:=M7.mp<|p.mem_iff.mp c;exact⟨r,rfl,a⟩
 refine⟨l',e,⟨?_,λr a=>h.mem r<|b r a⟩,?_⟩
 ·rw[e] at p;have p2:=p.map jpF;rw[U2,U2] at p2;have d:(jpF ∘ eR)=λr:EN×Int=>r.1:=by funext r;rfl
  exact p2.nodup_iff.mpr h.nd
 ·have:=p.length_eq;rw[e,L1,L1] at this;exact this
def jhv(h:LnOk N l):LnOk N (l.filter λr=>decide<|0<r.2):=
 ⟨h.nd.sublist<|List.Sublist.map _<|List.filter_sublist,λr a=>h.mem r (List.mem_filter.mp a).1⟩
def jcV(m:nm∈N)(b:N.length<=6)  (h:LnOk N l) (k:MvsOk nm N c l ms):
  ∃ l':LN,vh [.lst false<|l.map eR,.str nm,.lst false<|ms.map eM]=↑(l'.map eR)/\LnOk N l':=by
 have y:=h.len b;have p:=jdk h.nd ∅;have n:=jbX m h k;have q:=n.len b;obtain⟨s,t,u,e⟩:=VR m b (a0:=‹l.map eR›) (a2:=‹ms.map eM›) (o4:=none) (o5:=none) (o6:=none) h k;obtain⟨o,e3⟩:=uH<|(reN nm l ms).filter λr=>decide<|0<r.2;obtain⟨l',v,w,_⟩:=jj6 (rs:=o)<|jhv n;have x:=Kz<|reN nm l ms;have d:(((reN nm l ms).filter λr=>decide<|0<r.2).map eR).length<64:=by
  rw[L1];have:=List.length_filter_le (λr:EN×Int=>decide<|0<r.2)<|reN nm l ms
  lia
 have f:frzs (ms.map eM)=true:=yH (λ_=>rfl) _;have a:fzs (ms.map eM)=ms.map eM:=vk (λ_=>rfl) _;have g:jfb (dLn true<|reN nm l ms)=some ((reN nm l ms).map kL,(reN nm l ms).map vL):=rfl;have i:lim ((reN nm l ms).map kL).length=true:=yD ∅;have j:=zr l;refine⟨l',?_,w⟩;simp[vh,jx,Jl,p,j,vG,Yy,f,a,e,g,x,e3,v,dCB,-List.length_map,i,d]
noncomputable def NS:List Str:=["pool_name","marks","sizes","owed","levels","loans","cash","served","entries","moves"]
abbrev I10(o:Bool)(a0 a1 a2 a3 a4 a5 a6 a7 a8 a9:D):D:=.ins o 0 NS [a0,a1,a2,a3,a4,a5,a6,a7,a8,a9]
def jpQ:JF NS [a0,a1,a2,a3,a4,a5,a6,a7,a8,a9] "pool_name" = some a0:=rfl
def jh9:JF NS [a0,a1,a2,a3,a4,a5,a6,a7,a8,a9] "marks" = some a1:=rfl
def jnK:JF NS [a0,a1,a2,a3,a4,a5,a6,a7,a8,a9] "sizes" = some a2:=rfl
def jmc:JF NS [a0,a1,a2,a3,a4,a5,a6,a7,a8,a9] "owed" = some a3:=rfl
def jqq:JF NS [a0,a1,a2,a3,a4,a5,a6,a7,a8,a9] "levels" = some a4:=rfl
def jpU:JF NS [a0,a1,a2,a3,a4,a5,a6,a7,a8,a9] "loans" = some a5:=rfl
def jpX:JF NS [a0,a1,a2,a3,a4,a5,a6,a7,a8,a9] "cash" = some a6:=rfl
def jp7:JF NS [a0,a1,a2,a3,a4,a5,a6,a7,a8,a9] "entries" = some a8:=rfl
def jp6:JF NS [a0,a1,a2,a3,a4,a5,a6,a7,a8,a9] "moves" = some a9:=rfl
def g2:qW 0 "sizes" kB (I10 true a0 a1 a2 a3 a4 a5 a6 a7 a8 a9)=some (a2,λz=>I10 true a0 a1 z a3 a4 a5 a6 a7 a8 a9):=rfl
def g3:qW 0 "owed" kB (I10 true a0 a1 a2 a3 a4 a5 a6 a7 a8 a9)=some (a3,λz=>I10 true a0 a1 a2 z a4 a5 a6 a7 a8 a9):=rfl
def g4:qW 0 "levels" kB (I10 true a0 a1 a2 a3 a4 a5 a6 a7 a8 a9)=some (a4,λz=>I10 true a0 a1 a2 a3 z a5 a6 a7 a8 a9):=rfl
def g7:qW 0 "served" kB (I10 true a0 a1 a2 a3 a4 a5 a6 a7 a8 a9)=some (a7,λz=>I10 true a0 a1 a2 a3 a4 a5 a6 z a8 a9):=rfl
def g8:qW 0 "entries" kB (I10 true a0 a1 a2 a3 a4 a5 a6 a7 a8 a9)=some (a8,λz=>I10 true a0 a1 a2 a3 a4 a5 a6 a7 z a9):=rfl
def g9:qW 0 "moves" kB (I10 true a0 a1 a2 a3 a4 a5 a6 a7 a8 a9)=some (a9,λz=>I10 true a0 a1 a2 a3 a4 a5 a6 a7 a8 z):=rfl
def jqi:Jd NS [a0,a1,a2,a3,a4,a5,a6,a7,a8,a9] "cash" z=(NS,[a0,a1,a2,a3,a4,a5,z,a7,a8,a9]):=rfl
def jeH{a0 a1 a2 a3 a4 a5 a7 a8 a9}{ρ}{i}{pv}{m n}(a:pV i ρ=some (I10 true a0 a1 a2 a3 a4 a5 (.int m) a7 a8 a9))(b:pv ρ=some (.int n)):
  YF i kB 0 "cash" (λm n=>m-n) pv ρ=some (.nx<|ρ.set i<|some<|I10 true a0 a1 a2 a3 a4 a5 (.int<|m-n) a7 a8 a9):=by
 have e:(NS.length<=900)=True:=by simp[NS]
 unfold YF;rw[a];simp[kB,jpX,jqi,b,e]
def KQ{ρ}{i}{w}{L}{pk pv}{t}{N}{f}{a}{g}{n}(c:pV i ρ=some t)(d:L t=some (dct true N f,a))(e:pk ρ=some (.str w))(h:pv ρ=some (.int n))(b:w∈N)(j:N.length<=1000):
  vA i L pk g pv ρ=some (.nx<|ρ.set i<|some<|a<|dct true N<|put f w<|g (f w) n):=by
 rw[vA,e,L4,show yU (.str w)=some (.str w) from rfl,L4,c,L4,d,L4,show jgW (dct true N f,a).1=some (N.map KA.str,N.map λn=>D.int<|f n) from rfl,L4,YV f b,L4,show vz (.int<|f w)=some (f w) from rfl,L4,h,L4,show vz (.int n)=some n from rfl,L4,yD ∅,cond_true,uZ b];rfl
noncomputable def dSv(o:Bool)(l:W1):D:=.dK o (l.map KA.str)<|l.map λ_=>D.bl true
noncomputable def Yp(l:W1)(w:List Nat):List (List Nat):=if w∈l then l else l++[w]
def jkN(l)(w):vV (l.map KA.str) (l.map λ_=>D.bl true) (.str w) (.bl true)=((Yp l w).map KA.str,(Yp l w).map λ_=>D.bl true):=by
 have b:(KA.str w∈l.map KA.str)↔w∈l:=by simp
 have c:∀ l:List (List Nat),wK (l.map KA.str) (l.map λ_=>D.bl true) (.str w) (.bl true)=l.map λ_=>D.bl true:=λl=>by
  induction l with
  | nil=>rfl
  | cons a l d=>rw[L5,L5,wK,d];split<;>rfl
 unfold vV Yp;by_cases h:w∈l
 ·rw[if_pos h,if_pos<|b.mpr h,c]
 ·rw[if_neg h,if_neg λz=>h<|b.mp z];simp
def jmp(a:pV i ρ=some (I10 true a0 a1 a2 a3 a4 a5 a6 (dSv true l) a8 a9))(b:pk ρ=some (.str w))(c:l.length<=1000):
  Vi i (qW 0 "served" kB) pk (pC<|.bl true) ρ=some (.nx<|ρ.set i<|some<|I10 true a0 a1 a2 a3 a4 a5 a6 (dSv true<|Yp l w) a8 a9):=by
 unfold Vi;rw[show(pC<|D.bl true) ρ=some (.bl true) from rfl,L4,a,L4,g7,L4];show((pk ρ).bind λq=>_)=_;rw[b,L4];show(bif lim (l.map KA.str).length&&(true||_) then some (Out.nx<|ρ.set i<|some<|I10 true a0 a1 a2 a3 a4 a5 a6 (.dK true (vV (l.map KA.str) (l.map λ_=>D.bl true) (.str w)<|.bl true).1 (vV (l.map KA.str) (l.map λ_=>D.bl true) (.str w)<|.bl true).2) a8 a9) else none)=_;rw[yD ∅,jkN];rfl
def jfu(h:yI a3 (.str w)=some (.int v)):jg [I10 false a0 a1 a2 a3 a4 a5 a6 a7 a8 a9,.tup [.str jkz,.str w]]=some (.int v):=by
 simp[jg,jx,jV,jmc,h,jkj]
def jaK(h:yI a3 (.str w)=some (.int v))(h2:yI a2 (.str w)=some (.int u)):jg [I10 false a0 a1 a2 a3 a4 a5 a6 a7 a8 a9,.tup [.str YC,.str w]]=some (.int<|v+u):=by
 simp[jg,jx,jV,jmc,jnK,h,h2,jkj]
def jdu(h:yI a1 (.str w)=some (.int v))(h2:yI a4 (.str w)=some (.int u)):∃ z,jg [I10 false a0 a1 a2 a3 a4 a5 a6 a7 a8 a9,.tup [.str ja3,.str w]]=some (.int z)/\0<=z:=by
 refine⟨if v-u<0 then 0 else v-u,?_,by split<;>lia⟩;have a:jmy [.int<|v-u,.int 0]=some (.int<|if v-u<0 then 0 else v-u):=rfl;simp[jg,jx,jV,jh9,jqq,h,h2,jkj,a]
def jdM:∃ z,jg [I10 false (.str nm) a1 a2 a3 a4 (dLn false l) a6 a7 a8 a9,.tup [.str qd,.str w,.int j]]=some (.int z)/\0<=z:=by
 have a:Va (dLn false l) [.str nm,.str w] (.int 0)=some (.int<|(Jf l (nm,w)).getD 0):=by
  show some ((J8 (l.map kL) (l.map vL) [.str nm,.str w]).getD (.int 0))=_;rw[Vk (nm,w) l];cases Jf l (nm,w)<;>rfl
 generalize(Jf l (nm,w)).getD 0=u at a;refine⟨if j-u<0 then 0 else j-u,?_,by split<;>lia⟩;have b:jmy [.int<|j-u,.int 0]=some (.int<|if j-u<0 then 0 else j-u):=rfl;simp[jg,jx,jV,jpU,jpQ,a,jkj,b]
def zq:jg [I10 false (.str nm) a1 a2 a3 a4 (dLn false l) a6 a7 a8 a9,.tup [.str VS,.str w]]=some (.int<|(Jf l (w,nm)).getD 0):=by
 have a:Va (dLn false l) [.str w,.str nm] (.int 0)=some (.int<|(Jf l (w,nm)).getD 0):=by
  show some ((J8 (l.map kL) (l.map vL) [.str w,.str nm]).getD (.int 0))=_;rw[Vk (w,nm) l];cases Jf l (w,nm)<;>rfl
 simp[jg,jx,jV,jpU,jpQ,a,jkj]
def jdS:jg [I10 false a0 a1 a2 a3 a4 a5 (.int v) a7 a8 a9,.tup [.str jfB,.str w]]=some (.int v):=by
 simp[jg,jx,jV,jpX,jkj]
structure En where
 pl:Int
 kd:List Nat
 nm:List Nat
 nd:Int
 gt:Int
noncomputable def e5(e:En):D:=.tup [.int e.pl,.str e.kd,.str e.nm,.int e.nd,.int e.gt]
structure Fl where
 sz:List Nat->Int
 ow:List Nat->Int
 lv:List Nat->Int
 ln:LN
 cash:Int
 sv:List (List Nat)
 en:List En
 mv:List MV
noncomputable abbrev PoolS.C(p:PoolS):List (List Nat):=p.told.map (·.1)
noncomputable abbrev PoolS.P(p:PoolS):List (List Nat):=p.marks.map (·.1)
def jA(p:PoolS)(o:Bool)(x:Fl):D:=I10 o (.str p.nm) (dct o p.P<|fnOf p.marks) (dct o p.C x.sz) (dct o p.C x.ow) (dct o p.P x.lv) (dLn o x.ln) (.int x.cash) (dSv o x.sv) (.lst o<|x.en.map e5)<|.lst o<|x.mv.map eM
def jl0(o)(N)(f):fz (dct o N f)=dct false N f:=by
 have:fzs (N.map λn=>D.int<|f n)=N.map λn=>D.int (f n):=vk (λ_=>rfl) _;simp[dct,fz,this]
def jnz(o)(l):fz (dLn o l)=dLn false l:=by
 have:fzs (l.map vL)=l.map vL:=vk (λ_=>rfl) _;simp[dLn,fz,this]
def jkA(o)(l):fz (dSv o l)=dSv false l:=by
 have:fzs (l.map λ_=>D.bl true)=l.map λ_=>D.bl true:=vk (λ_=>rfl) _;unfold dSv;rw[fz,this]
def jgQ(l:List En):fzs (l.map e5)=l.map e5:=vk (λ_=>rfl) _
def jcO(l:List En):frzs (l.map e5)=true:=yH (λ_=>rfl) _
def QZ(l:List MV):fzs (l.map eM)=l.map eM:=vk (λ_=>rfl) _
def Qw(l:List MV):frzs (l.map eM)=true:=yH (λ_=>rfl) _
def jh3(p)(o)(x):fz (jA p o x)=jA p false x:=by
 unfold jA I10;simp[ jl0,jnz,jkA,fz,jgQ,QZ]
section
variable {p:PoolS}{x:Fl}{ρ:Rh}{w:List Nat}
def wS{i}{pv}{n}(a:pV i ρ=some (jA p true x))(b:pv ρ=some (.int n)):
  YF i kB 0 "cash" (λm n=>m-n) pv ρ=some (.nx<|ρ.set i<|some<|jA p true {x with cash:=x.cash-n}):=jeH a b
def xn{i}{pv}{e}(a:pV i ρ=some (jA p true x))(b:pv ρ=some (e5 e))(c:x.en.length<=1000):
  qf i (qW 0 "entries" kB) pv ρ=some (.nx<|ρ.set i<|some<|jA p true {x with en:=x.en++[e]}):=by
 rw[qf,b,L4,a,L4];unfold jA;rw[g8,L4,Vw,L4,yD ∅,cond_true,N6];rfl
def jpa{i}{pv}{m}(a:pV i ρ=some (jA p true x))(b:pv ρ=some (eM m))(c:x.mv.length<=1000):
  qf i (qW 0 "moves" kB) pv ρ=some (.nx<|ρ.set i<|some<|jA p true {x with mv:=x.mv++[m]}):=by
 rw[qf,b,L4,a,L4];unfold jA;rw[g9,L4,Vw,L4,yD ∅,cond_true,N6];rfl
def jfQ{i}{pk pv}{n}(a:pV i ρ=some (jA p true x))(b:pk ρ=some (.str w))(c:pv ρ=some (.int n))(d:w∈p.C)(e:p.C.length<=1000):
  vA i (qW 0 "owed" kB) pk (λm n=>m-n) pv ρ=some (.nx<|ρ.set i<|some<|jA p true {x with ow:=put x.ow w (x.ow w-n)}):=KQ a g3 b c d e
def jop{i}{pk pv}{n}(a:pV i ρ=some (jA p true x))(b:pk ρ=some (.str w))(c:pv ρ=some (.int n))(d:w∈p.C)(e:p.C.length<=1000):
  vA i (qW 0 "sizes" kB) pk (λm n=>m-n) pv ρ=some (.nx<|ρ.set i<|some<|jA p true {x with sz:=put x.sz w (x.sz w-n)}):=KQ a g2 b c d e
def jnT{i}{pk pv}{n}(a:pV i ρ=some (jA p true x))(b:pk ρ=some (.str w))(c:pv ρ=some (.int n))(d:w∈p.P)(e:p.P.length<=1000):
  vA i (qW 0 "levels" kB) pk (λm n=>m+n) pv ρ=some (.nx<|ρ.set i<|some<|jA p true {x with lv:=put x.lv w (x.lv w+n)}):=KQ a g4 b c d e
def jm5{i}{pk pv}{n}(a:pV i ρ=some (jA p true x))(b:pk ρ=some (.str w))(c:pv ρ=some (.int n))(d:w∈p.P)(e:p.P.length<=1000):
  vA i (qW 0 "levels" kB) pk (λm n=>m-n) pv ρ=some (.nx<|ρ.set i<|some<|jA p true {x with lv:=put x.lv w (x.lv w-n)}):=KQ a g4 b c d e
def jlH{i}{pk}(a:pV i ρ=some (jA p true x))(b:pk ρ=some (.str w))(c:x.sv.length<=1000):
  Vi i (qW 0 "served" kB) pk (pC<|.bl true) ρ=some (.nx<|ρ.set i<|some<|jA p true {x with sv:=Yp x.sv w}):=jmp a b c
def joa{o}:ww 0 "pool_name" (jA p o x)=some (.str p.nm):=rfl
def jiB{o}:ww 0 "owed" (jA p o x)=some (dct o p.C x.ow):=rfl
def joX{o}:ww 0 "levels" (jA p o x)=some (dct o p.P x.lv):=rfl
def Qd{o}:ww 0 "cash" (jA p o x)=some (.int x.cash):=rfl
def jnX{o}:ww 0 "served" (jA p o x)=some (dSv o x.sv):=rfl
def jf8{c}(a:w∈p.C)(b:p.C.length<=1000):jv [jA p true x,.str jkz,.str w,.int c]=some (.non,jA p true {x with ow:=put x.ow w (x.ow w-c)}):=by
 simp[jv,vW,yL,jfQ (ρ:=[some<|jA p true x,some<|.str jkz,some<|.str w,some<|.int c,none]) (i:=0) (pk:=pV 2) (pv:=pV 3) rfl rfl rfl a b,YJ]
def jbo{c}(a:w∈p.C)(b:p.C.length<=1000):jv [jA p true x,.str YC,.str w,.int c]=some (.non,jA p true {x with ow:=put x.ow w<|x.ow w-got c (x.ow w),sz:=put x.sz w (x.sz w-(c-got c (x.ow w)))}):=by
 have d:xB [.int c,.int<|x.ow w]=some (.int<|got c<|x.ow w):=rfl;simp[jv,vW,yL,jfQ (ρ:=[some<|jA p true x,some<|.str YC,some<|.str w,some<|.int c,some<|.int<|got c<|x.ow w]) (i:=0) (pk:=pV 2) (pv:=pV 4) rfl rfl rfl a b,jop (ρ:=[some<|jA p true {x with ow:=put x.ow w (x.ow w-got c (x.ow w))},some<|.str YC,some<|.str w,some<|.int c,some<|.int<|got c<|x.ow w]) (i:=0) (pk:=pV 2) (pv:=p2 Yo (pV 3)<|pV 4) (n:=c-got c (x.ow w)) rfl rfl (by simp) a b,jiB (p:=p) (x:=x) (o:=true),yq (o:=true) (f:=x.ow) a,d,YJ]
def jb3{c}(a:w∈p.P)(b:p.P.length<=1000):jv [jA p true x,.str ja3,.str w,.int c]=some (.non,jA p true {x with lv:=put x.lv w (x.lv w+c)}):=by
 simp[jv,vW,yL,jnT (ρ:=[some<|jA p true x,some<|.str ja3,some<|.str w,some<|.int c,none]) (i:=0) (pk:=pV 2) (pv:=pV 3) rfl rfl rfl a b,YJ]
def jjB{kw}(h:kw=qd\/kw=VS):QR false (.str kw) (.tup [.str [108,101,110,100],.str [98,97,99,107]])=some (.bl true):=by
 rcases h with rfl | rfl<;>rfl
def jed{m}{N}{c}(k:MvOk p.nm N c x.ln m)(d:x.ln.length<=100)(e:x.mv.length<=1000):jv [jA p true x,.str m.1,.str m.2.1,.int m.2.2]=some (.non,jA p true {x with ln:=mvF p.nm x.ln m,mv:=x.mv++[m]}):=by
 have b:=k.kd.imp id (·.1);have a:∀ r:Rh,Jz yK 0 (qW 0 "loans" kB) #[pF<|Jt 0 "pool_name"<|pV 0,pF<|pV 1,pF<|pV 2,pF<|pV 3] (some (jA p true x)::some (.str m.1)::some (.str m.2.1)::some (.int m.2.2)::r)=some (.non,some (jA p true {x with ln:=mvF p.nm x.ln m})::some (.str m.1)::some (.str m.2.1)::some (.int m.2.2)::r):=by
  intro r;have f:qW 0 "loans" kB (jA p true x)=some (dLn true x.ln,λz=>I10 true (.str p.nm) (dct true p.P<|fnOf p.marks) (dct true p.C x.sz) (dct true p.C x.ow) (dct true p.P x.lv) z (.int x.cash) (dSv true x.sv) (.lst true<|x.en.map e5)<|.lst true<|x.mv.map eM):=rfl;have e2:jA p true {x with ln:=mvF p.nm x.ln m}=I10 true (.str p.nm) (dct true p.P<|fnOf p.marks) (dct true p.C x.sz) (dct true p.C x.ow) (dct true p.P x.lv) (dLn true<|mvF p.nm x.ln m) (.int x.cash) (dSv true x.sv) (.lst true<|x.en.map e5) (.lst true<|x.mv.map eM):=rfl;rw[e2];unfold Jz;simp[joa (p:=p) (x:=x) (o:=true),f,jdU d k]
 have g:(m.1==jkz)=false:=by lia
 have h:(m.1==YC)=false:=by lia
 have j:(m.1==ja3)=false:=by lia
 simp[jv,vW,yL,a,jpa (ρ:=[some<|jA p true {x with ln:=mvF p.nm x.ln m},some<|.str m.1,some<|.str m.2.1,some<|.int m.2.2,none]) (i:=0) (pv:=yF #[pF<|pV 1,pF<|pV 2,pF<|pV 3]) (m:=m) rfl (by rfl) e,jjB b,k.po,g,h,j,YJ,jb,-qf]
def Vt{kw}{c}(h:kw=jfB\/((kw=qd\/kw=VS)/\¬ 0<c)):jv [jA p true x,.str kw,.str w,.int c]=some (.non,jA p true x):=by
 rcases h with rfl | ⟨rfl | rfl,h⟩
 ·rfl
 ·have a:=jjB<|.inl rfl;simp[jv,vW,yL,a,h,YJ,jb]
 ·have a:=jjB<|.inr rfl;simp[jv,vW,yL,a,h,YJ,jb]
end
def JY(a:pV i ρ=some (jA p true x))(b:pa ρ=some ds)(c:frzs ds=true)
  (d:∀ a0 a1 a2 a3 a4 a5 a6 a7 a8 a9:D,JF NS [a0,a1,a2,a3,a4,a5,a6,a7,a8,a9] mn=none):yV m i 0 mn pa ρ=(m<|jA p true x::ds).bind λr=>some (r.1,ρ.set i<|some r.2):=by
 rw[yV,b,L4,a,L4];show(bif true&&(frzs ds&&(JF NS _ mn).isNone) then _ else none)=_;rw[d,c];rfl
def jbV(a:po ρ=some (jA p o x))(b:pa ρ=some ds)
  (c:∀ a0 a1 a2 a3 a4 a5 a6 a7 a8 a9:D,JF NS [a0,a1,a2,a3,a4,a5,a6,a7,a8,a9] mn=none) (e:m (jA p false x::fzs ds)=some r) (f:vn r=true):Yj m 0 mn po pa ρ=some r:=by
 rw[Yj,a,L4];show(bif true&&(JF NS _ mn).isNone then(pa ρ).bind λds=>(m<|fzs<|jA p o x::ds).bind λd=>bif frzs (jA p o x::ds)||vn d then some d else none else none)=_;rw[c,b,L4,fzs,jh3,e,L4,f,Bool.or_true];rfl
def jfP(k:jd d (.int 0)=some (.str kw))(l:jd d (.int 1)=some (.str w))(fd:fz d=d)
  (j:jg [jA p false x,d]=some (.int nd))
  (give:jv [jA p true {x with cash:=x.cash-got nd x.cash,en:=x.en++[⟨pl,kw,w,nd,got nd x.cash⟩]},.str kw,.str w,.int<|got nd x.cash]=some (.non,jA p true y))
  (h:QR false (.str kw) (.tup [.str [112,97,121],.str [114,101,112,97,121]])=some (.bl b)) (q:x.en.length<=1000) (t:y.sv.length<=1000):
  js [jA p true x,.int pl,d]=some (.non,jA p true<|if b=true/\got nd x.cash=nd/\0<nd then{y with sv:=Yp y.sv w} else y):=by
 have m:xB [.int nd,.int x.cash]=some (.int<|got nd x.cash):=rfl;generalize A:got nd x.cash=g at *;have n:=Qd (p:=p) (x:=x) (o:=true);have a:∀ r:Rh,Yj jg 0 "need_of" (pV 0) #[pV 2] (some (jA p true x)::some (.int pl)::some d::r)=some (.int nd):=λr=>jbV rfl (ds:=[d]) (by simp) (λ_ _ _ _ _ _ _ _ _ _=>rfl) (by rw[show fzs [d]=[d] by rw[fzs,fd];rfl];exact j) rfl;have c:=wS (ρ:=[some<|jA p true x,some<|.int pl,some d,some<|.str kw,some<|.str w,some<|.int nd,some<|.int g]) (i:=0) (pv:=pV 6) rfl rfl;have e:=xn (ρ:=[some<|jA p true {x with cash:=x.cash-g},some<|.int pl,some d,some<|.str kw,some<|.str w,some<|.int nd,some<|.int g]) (i:=0) (pv:=yF #[pF<|pV 1,pF<|pV 3,pF<|pV 4,pF<|pV 5,pF<|pV 6]) (e:=⟨pl,kw,w,nd,g⟩) rfl (by rfl) q;have f:yV jv 0 0 "give" #[pF<|pV 3,pF<|pV 4,pF<|pV 6] [some<|jA p true {x with cash:=x.cash-g,en:=x.en++[⟨pl,kw,w,nd,g⟩]},some<|.int pl,some d,some<|.str kw,some<|.str w,some<|.int nd,some<|.int g]=some (.non,[some<|jA p true y,some<|.int pl,some d,some<|.str kw,some<|.str w,some<|.int nd,some<|.int g]):=by
  rw[JY rfl (ds:=[.str kw,.str w,.int g]) (by simp) rfl<|λ_ _ _ _ _ _ _ _ _ _=>rfl,give];rfl
 have s:=jlH (ρ:=[some<|jA p true y,some<|.int pl,some d,some<|.str kw,some<|.str w,some<|.int nd,some<|.int g]) (i:=0) (pk:=pV 4) rfl rfl t;have z:jA p true (if b=true/\g=nd/\0<nd then{y with sv:=Yp y.sv w} else y)=if b=true/\g=nd/\0<nd then jA p true {y with sv:=Yp y.sv w} else jA p true y:=by lia
 rw[z];cases b with
 | false=>simp[js,vW,yd,k,l,a,n,m,c,e,f,h,YJ,jb,-qf,-Yj,-yV]
 | true=>
  by_cases u:g=nd
  ·subst u;by_cases v:0<g
   ·simp[js,vW,yd,k,l,a,n,m,c,e,f,s,h,v,YJ,jb,-jec,-qf,-Yj,-yV]
   ·simp[js,vW,yd,k,l,a,n,m,c,e,f,s,h,v,YJ,jb,-jec,-qf,-Yj,-yV]
  ·simp[js,vW,yd,k,l,a,n,m,c,e,f,s,h,u,YJ,jb,-jec,-qf,-Yj,-yV]
noncomputable def CK:List (List Nat):=[[112,97,114,116],[112,97,121],[115,104,97,114,101],[114,101,112,97,121],[114,101,115,116],[103,117,97,114,100],[101,97,116]]
def Ch(w:List Nat):Prop:=∀ c∈w,c<1114112
structure EnOk(C:W1)(e:En):Prop where
 c:e.kd∈CK->e.nm∈C
 k:Ch e.kd
 n:Ch e.nm
def PoolOk.cw{O p c}(h:PoolOk O p)(a:c∈p.told.map (·.1)):Ch c:=by obtain⟨t,b,rfl⟩:=M7.mp a;exact(h.told t b).1.2
def Yr{C}{l}{a}(h:∀ e∈l,EnOk C e)(b:EnOk C a):∀ e∈l++[a],EnOk C e:=λe c=>(N3.mp c).elim (h e) λq=>by rw[M9.mp q];exact b
structure FlOk(p:PoolS)(N:W1)(c B:Int)(L0:LN)(x:Fl):Prop where
 sz:∀ n,0<=x.sz n
 ow:∀ n,0<=x.ow n/\x.ow n<=B
 lv:∀ n,0<=x.lv n
 ln:x.ln=reN p.nm L0 x.mv
 mv:MvsOk p.nm N c L0 x.mv
 c0:0<=x.cash
 c1:x.cash<=c
 svl:x.sv.length<=x.en.length
 mvl:x.mv.length<=x.en.length
 ek:∀ e∈x.en,EnOk p.C e
def z7(l)(w):(Yp l w).length<=l.length+1:=by
 unfold Yp;split<;>simp
def jeD [Decidable q] (ky:FlOk p N c B L0 y) (a:y.sv.length+1<=y.en.length):FlOk p N c B L0 (if q then{y with sv:=Yp y.sv w} else y)/\(if q then{y with sv:=Yp y.sv w} else y).en=y.en:=by
 split
 ·exact⟨⟨ky.sz,ky.ow,ky.lv,ky.ln,ky.mv,ky.c0,ky.c1,N8 (z7 _ _) a,ky.mvl,ky.ek⟩,rfl⟩
 ·exact⟨ky,rfl⟩
def jas(h:∀ n,0<=f n/\f n<=B)(a:0<=v)(h1:v<=B)(n):0<=put f w v n/\put f w v n<=B:=by
 unfold put;split
 ·exact⟨a,h1⟩
 ·exact h n
def jbC(h:PoolOk O p)(I:∀ w∈O,w∈N)(Q:p.nm∈N)(R:N.length<=6)(S:LnOk N L0)(k:FlOk p N c B L0 x) 
  (J:(d=.tup [.str kw,.str w]/\jcD p.C p.P O kw w)\/(∃ j,kw=qd/\d=.tup [.str kw,.str w,.int j]/\w∈O)) (D:Ch w) (T:x.en.length<=900):
  ∃ x' e,js [jA p true x,.int pl,d]=some (.non,jA p true x')/\FlOk p N c B L0 x'/\x'.en=x.en++[e]:=by
 have K:p.C.length<=1000:=by have:=h.told2;rw[L1];lia
 have U:p.P.length<=1000:=by have:=h.marks2;rw[L1];lia
 have c0:=k.c0;have c1:=k.c1;have svl:=k.svl;have mvl:=k.mvl;have o:LnOk N x.ln:=by rw[k.ln];exact jbX Q S k.mv
 have V:=o.len R;have r:(kw∈CK->w∈p.C)/\Ch kw:=by
  rcases J with⟨_,⟨rfl | rfl | rfl,a⟩ | ⟨rfl,_⟩ | ⟨rfl,_⟩⟩ | ⟨_,rfl,_⟩
  ·exact⟨λ_=>a,by unfold Ch;decide⟩
  ·exact⟨λ_=>a,by unfold Ch;decide⟩
  ·exact⟨λ_=>a,by unfold Ch;decide⟩
  all_goals exact⟨λq=>absurd q<|by decide,by unfold Ch;decide⟩
 have key:∀{nd:Int}{y:Fl}{b:Bool},jd d (.int 0)=some (.str kw)->jd d (.int 1)=some (.str w)->fz d=d->jg [jA p false x,d]=some (.int nd)->0<=nd ->
   (0<=got nd x.cash->got nd x.cash<=nd->got nd x.cash<=x.cash->jv [jA p true {x with cash:=x.cash-got nd x.cash,en:=x.en++[⟨pl,kw,w,nd,got nd x.cash⟩]},.str kw,.str w,.int<|got nd x.cash]=some (.non,jA p true y)/\
    y.cash=x.cash-got nd x.cash/\y.en=x.en++[⟨pl,kw,w,nd,got nd x.cash⟩]/\y.sv=x.sv/\(∀ n,0<=y.sz n)/\(∀ n,0<=y.ow n/\y.ow n<=B)/\(∀ n,0<=y.lv n)/\y.ln=reN p.nm L0 y.mv/\MvsOk p.nm N c L0 y.mv/\y.mv.length<=x.mv.length+1) ->
   QR false (.str kw) (.tup [.str [112,97,121],.str [114,101,112,97,121]])=some (.bl b) ->
   ∃ x' e,js [jA p true x,.int pl,d]=some (.non,jA p true x')/\FlOk p N c B L0 x'/\x'.en=x.en++[e]:=by
  intro nd y b f g fd s W give E;have F:0<=got nd x.cash/\got nd x.cash<=nd/\got nd x.cash<=x.cash:=by unfold got;split<;>lia
  obtain⟨X,L,G,H,Y,Z,y6,y7,y8,y9⟩:=give F.1 F.2.1 F.2.2;have e:=jfP (p:=p) (x:=x) (w:=w) (pl:=pl) (y:=y) f g fd s X E ∅ (by rw[H];lia);have M:y.en.length=x.en.length+1:=by rw[G];simp
  have ky:FlOk p N c B L0 y:=⟨Y,Z,y6,y7,y8,by rw[L];lia,by rw[L];lia,by rw[H];lia,by rw[M];exact N8 y9<|Nat.succ_le_succ mvl,by rw[G];exact Yr k.ek ⟨r.1,r.2,D⟩⟩;obtain⟨r1,r2⟩:=jeD (w:=w) (q:=b=true/\got nd x.cash=nd/\0<nd) ky (by rw[H,M];lia);exact⟨_,_,e,r1,r2.trans G⟩
 rcases J with⟨rfl,hk⟩ | ⟨j,rfl,rfl,a⟩
 ·have f:jd (.tup [.str kw,.str w]) (.int 0)=some (.str kw):=rfl;have g:jd (.tup [.str kw,.str w]) (.int 1)=some (.str w):=rfl;rcases hk with⟨rfl | rfl | rfl,a⟩ | ⟨rfl,a⟩ | ⟨rfl,a⟩
  ·refine key (b:=true) f g rfl (jfu<|yq a) (k.ow w).1 (λm i g2=>⟨jf8 a K,rfl,rfl,rfl,k.sz,?_,k.lv,k.ln,k.mv,by simp⟩) rfl;have:=k.ow w;exact jas k.ow (by dsimp only;lia) (by dsimp only;lia)
  ·have hs:=k.sz w;have ho:=k.ow w;refine key (b:=true) f g rfl (jaK (yq a)<|yq a) ∅ (λm i g2=>⟨jbo a K,rfl,rfl,rfl,?_,?_,k.lv,k.ln,k.mv,by simp⟩) rfl
   ·refine jar k.sz ?_;unfold got;split<;>lia
   ·refine jas k.ow ?_ ?_
    all_goals
     unfold got;split<;>lia
  ·refine key (b:=false) f g rfl jdS c0 (λm i g2=>⟨Vt<|.inl rfl,rfl,rfl,rfl,k.sz,k.ow,k.lv,k.ln,k.mv,by simp⟩) rfl
  ·obtain⟨z,v,A⟩:=jdu (a0:=.str p.nm) (a1:=dct false p.P<|fnOf p.marks) (a2:=dct false p.C x.sz) (a3:=dct false p.C x.ow) (a4:=dct false p.P x.lv) (a5:=dLn false x.ln) (a6:=.int x.cash) (a7:=dSv false x.sv) (a8:=.lst false<|x.en.map e5) (a9:=.lst false<|x.mv.map eM) (w:=w) (yq a)<|yq a;refine key (b:=false) f g rfl v A (λm i g2=>⟨jb3 a U,rfl,rfl,rfl,k.sz,k.ow,?_,k.ln,k.mv,by simp⟩) rfl;have:=k.lv w;exact jar k.lv (by dsimp only;lia)
  ·have t:0<=(Jf x.ln (w,p.nm)).getD 0:=wv o.mem;by_cases u:0<got ((Jf x.ln (w,p.nm)).getD 0) x.cash
   ·refine key (b:=false) (y:={x with cash:=x.cash-got ((Jf x.ln (w,p.nm)).getD 0) x.cash,en:=x.en++[⟨pl,VS,w,(Jf x.ln (w,p.nm)).getD 0,got ((Jf x.ln (w,p.nm)).getD 0) x.cash⟩],ln:=mvF p.nm x.ln (VS,w,got ((Jf x.ln (w,p.nm)).getD 0) x.cash),mv:=x.mv++[(VS,w,got ((Jf x.ln (w,p.nm)).getD 0) x.cash)]}) f g rfl zq t (λm i g2=>?_) rfl;have mk:MvOk p.nm N c x.ln (VS,w,got ((Jf x.ln (w,p.nm)).getD 0) x.cash):=⟨.inr ⟨rfl,i⟩,I w a,u,by dsimp only;lia⟩;refine⟨jed (x:={x with cash:=x.cash-got ((Jf x.ln (w,p.nm)).getD 0) x.cash,en:=x.en++[⟨pl,VS,w,(Jf x.ln (w,p.nm)).getD 0,got ((Jf x.ln (w,p.nm)).getD 0) x.cash⟩]}) mk ∅ ∅,rfl,rfl,rfl,k.sz,k.ow,k.lv,?_,?_,by simp⟩
    ·dsimp only;rw[uO,<- k.ln]
    ·exact MvsOk.snoc k.mv (by rw[<- k.ln];exact mk)
   ·exact key (b:=false) f g rfl zq t (λm i g2=>⟨Vt<|.inr ⟨.inr rfl,u⟩,rfl,rfl,rfl,k.sz,k.ow,k.lv,k.ln,k.mv,by simp⟩) rfl
 ·have f:jd (.tup [.str qd,.str w,.int j]) (.int 0)=some (.str qd):=rfl;have g:jd (.tup [.str qd,.str w,.int j]) (.int 1)=some (.str w):=rfl;obtain⟨z,v,A⟩:=jdM (a1:=dct false p.P<|fnOf p.marks) (a2:=dct false p.C x.sz) (a3:=dct false p.C x.ow) (a4:=dct false p.P x.lv) (l:=x.ln) (nm:=p.nm) (a6:=.int x.cash) (a7:=dSv false x.sv) (a8:=.lst false<|x.en.map e5) (a9:=.lst false<|x.mv.map eM) (w:=w) (j:=j);by_cases u:0<got z x.cash
  ·refine key (b:=false) (y:={x with cash:=x.cash-got z x.cash,en:=x.en++[⟨pl,qd,w,z,got z x.cash⟩],ln:=mvF p.nm x.ln (qd,w,got z x.cash),mv:=x.mv++[(qd,w,got z x.cash)]}) f g rfl v A (λm i g2=>?_) rfl;have mk:MvOk p.nm N c x.ln (qd,w,got z x.cash):=⟨.inl rfl,I w a,u,by dsimp only;lia⟩;refine⟨jed (x:={x with cash:=x.cash-got z x.cash,en:=x.en++[⟨pl,qd,w,z,got z x.cash⟩]}) mk ∅ ∅,rfl,rfl,rfl,k.sz,k.ow,k.lv,?_,?_,by simp⟩
   ·dsimp only;rw[uO,<- k.ln]
   ·exact MvsOk.snoc k.mv (by rw[<- k.ln];exact mk)
  ·exact key (b:=false) f g rfl v A (λm i g2=>⟨Vt<|.inr ⟨.inl rfl,u⟩,rfl,rfl,rfl,k.sz,k.ow,k.lv,k.ln,k.mv,by simp⟩) rfl
noncomputable abbrev W3s:=List Nat×Int×Int
noncomputable def eT(t:W3s):D:=.tup [.str t.1,.int t.2.1,.int t.2.2]
def shE(pl:Int)(t:W3s):En:=⟨pl,ki,t.1,t.2.1,t.2.2⟩
theorem jdN:∀(ws:W1) (ns gs:List Int),jaJ (ws.map D.str) (ns.map D.int) (gs.map D.int)=(ws.zip<|ns.zip gs).map eT
 | [],_,_=>rfl
 | _::_,[],_=>rfl
 | _::_,_::_,[]=>rfl
 | w::ws,n::ns,g::gs=>by
  rw[L5,L5,L5,jaJ,jdN ws ns gs];rfl
theorem Kp(h:PoolOk O p)  : ∀{T:List W3s}{x}{o6 o7 o8},FlOk p N c B L0 x->x.en.length+T.length<=950->(T.map (·.1)).Nodup ->
  (∀ t∈T,t.1∈p.C/\t.2.1=x.ow t.1/\0<=t.2.2/\t.2.2<=t.2.1)->(T.map (·.2.2)).sum<=x.cash ->
  Ex4 λ(x':Fl) (o6' o7' o8':Option D)=>An3 (jY (gT 3<|gC (jc [0] 6)<|gC (jc [0] 7)<|gC (jc [0] 8) gN) yG (T.map eT) [some<|jA p true x,some<|.int pl,a2,a3,a4,some<|.bl b,o6,o7,o8]=some (.nx [some<|jA p true x',some<|.int pl,a2,a3,a4,some<|.bl b,o6',o7',o8'])) (FlOk p N c B L0 x')<|x'.en=x.en++T.map (shE pl)
 | [],x,o6,o7,o8,k,_,_,_,_=>⟨x,o6,o7,o8,rfl,k,by simp⟩
 | t::T,x,o6,o7,o8,k,v,nd,g,w=>by
  obtain⟨d,y,A,E⟩:=g t (by simp);rw[L5,List.nodup_cons] at nd;rw[M3] at v;rw[L5,List.sum_cons] at w;have F:0<=(T.map (·.2.2)).sum:=by
   have:∀(T:List W3s),(∀ t∈T,0<=t.2.2)->0<=(T.map (·.2.2)).sum:=λT=>by
    induction T with
    | nil=>intro _;simp
    | cons a T G=>intro q;rw[L5,List.sum_cons];have:=G<|λt g=>q t (by simp[g]);have:=q a (by simp);lia
   exact this T λj l=>(g j<|by simp[l]).2.2.1
  have H:p.C.length<=1000:=by have:=h.told2;rw[L1];lia
  have c1:=k.c1;have svl:=k.svl;have mvl:=k.mvl;have I:=k.ow t.1
  let J:Fl:={x with cash:=x.cash-t.2.2}
  let K:Fl:={J with ow:=put x.ow t.1 (x.ow t.1-t.2.2)}
  let o:Fl:={K with en:=x.en++[shE pl t]}
  let m:Fl:=if b=true then{o with sv:=Yp x.sv t.1} else o
  have L:FlOk p N c B L0 m:=by
   have M:(x.en++[shE pl t]).length=x.en.length+1:=by simp
   have hb:∀ n,0<=put x.ow t.1 (x.ow t.1-t.2.2) n/\put x.ow t.1 (x.ow t.1-t.2.2) n<=B:=jas k.ow ∅ ∅;have P:=z7 x.sv t.1;have f:0<=x.cash-t.2.2/\x.cash-t.2.2<=c:=by lia
   cases b with
   | true=>exact⟨k.sz,hb,k.lv,k.ln,k.mv,f.1,f.2,by lia,by lia,Yr k.ek ⟨λ_=>d,by show Ch ki;unfold Ch;decide,h.cw d⟩⟩
   | false=>exact⟨k.sz,hb,k.lv,k.ln,k.mv,f.1,f.2,by lia,by lia,Yr k.ek ⟨λ_=>d,by show Ch ki;unfold Ch;decide,h.cw d⟩⟩
  have u:m.en=x.en++[shE pl t]:=by lia
  have S:m.cash=x.cash-t.2.2:=by lia
  have Q:m.ow=put x.ow t.1 (x.ow t.1-t.2.2):=by lia
  obtain⟨x',o6',o7',o8',e,R,r⟩:=Kp h (pl:=pl) L (by rw[u];simp;lia) nd.2 (λj l=>by
   have:=g j (by simp[l]);have s:j.1≠t.1:=λz=>nd.1<|z▸M7.mpr ⟨j,l,rfl⟩;rw[Q,jnd s];exact this) ∅
  refine⟨x',o6',o7',o8',?_,R,by rw[r,u];simp⟩;rw[L5,lpF ?_,e];show yG [some<|jA p true x,some<|.int pl,a2,a3,a4,some<|.bl b,some<|.str t.1,some<|.int t.2.1,some<|.int t.2.2]=_;apply sq<|wS rfl rfl;apply sq<|jfQ rfl rfl rfl d H;apply sq<|xn (e:=shE pl t) rfl (by rfl) ∅;cases b with
  | false=>rfl
  | true=>exact jlH (pk:=pV 6) (ρ:=[some<|jA p true o,some<|.int pl,a2,a3,a4,some<|.bl true,some<|.str t.1,some<|.int t.2.1,some<|.int t.2.2]) (i:=0) rfl rfl ∅
def u5(l:List Int):frzs (l.map D.int)=true:=yH (λ_=>rfl) _
def K8(l:List Int):fzs (l.map D.int)=l.map D.int:=vk (λ_=>rfl) _
def Ke(l:List Int):yr (l.map D.int)=true:=by
 rw[yO,List.all_map,List.all_eq_true];intro x _;rfl
theorem xL:∀{a:List α}{b:List β},a.length=b.length->(a.zip b).map (·.2)=b
 | [],[],_=>rfl
 | [],_::_,h=>by simp at h
 | _::_,[],h=>by simp at h
 | a::l,b::m,h=>by simp at h;simp[xL h]
theorem jdJ:∀{a:List α}{b:List β},a.length=b.length->(a.zip b).map (·.1)=a
 | [],[],_=>rfl
 | [],_::_,h=>by simp at h
 | _::_,[],h=>by simp at h
 | a::l,b::m,h=>by simp at h;simp[jdJ h]
def jbd{x}{N O}{c B}(h:PoolOk O p)(k:FlOk p N c B L0 x)(hB:B<=10 ^ 20)(hc:c<=2 ^ 900){pl:Int}{ws:W1}(hl:ws.length<=20)(Q:∀ w∈ws,w∈p.C)(nd:ws.Nodup)(V:x.en.length<=900):
  Ex2 λx' es=>An4 (jR [jA p true x,.int pl,.tup<|ws.map D.str]=some (.non,jA p true x')) (FlOk p N c B L0 x') (x'.en=x.en++es) (es.length=ws.length):=by
 have c0:=k.c0;have c1:=k.c1
 let ns:=ws.map x.ow
 have d:∀ v∈ns,0<=v/\v<=10 ^ 20:=λv H=>by
  obtain⟨w,_,rfl⟩:=M7.mp H;have:=k.ow w
  lia
 have r:=λv H=>(d v H).1;have j:ns.length=ws.length:=L1 ..;have s:ns.sum<=10 ^ 30:=by
  have:=jg6 ns d
  lia
 have l:(vx ns x.cash).length=ws.length:=by rw[xN,j]
 let a:=vx ns x.cash
 let T:=ws.zip<|ns.zip a
 have I:T.map (·.1)=ws:=jdJ (by rw[List.length_zip,j,l];simp);have J:T.map (·.2)=ns.zip a:=xL (by rw[List.length_zip,j,l];simp);have K:T.map (·.2.2)=a:=by
  have:T.map (·.2.2)=(T.map (·.2)).map (·.2):=by simp
  rw[this,J];exact xL ∅
 have L:T.length=ws.length:=by rw[<- I,L1]
 have u:∀ t∈T,t.1∈p.C/\t.2.1=x.ow t.1/\0<=t.2.2/\t.2.2<=t.2.1:=by
  intro t M;obtain⟨i,hi⟩:=List.mem_iff_getElem?.mp M;rw[List.getElem?_zip_eq_some] at hi;obtain⟨R,y⟩:=hi;rw[List.getElem?_zip_eq_some] at y;obtain⟨y,W⟩:=y;have hb:=jcW c0 r W y;have m:=y;rw[List.getElem?_map,R] at m;simp at m;exact⟨Q _<|List.mem_of_getElem? R,m.symm,hb⟩
 have X:∀ g∈a,0<=g:=λg S=>by
  rw[<- K] at S;obtain⟨t,M,rfl⟩:=M7.mp S;exact(u t M).2.2.1
 have Y:a.sum<=x.cash:=by
  rcases jaW c0 r with⟨q1,q2⟩ | q
  ·lia
  ·lia
 let b:Bool:=decide (0<ns.sum)&&decide (a=ns)
 obtain⟨x',Z,o7,o8,e,k',P⟩:=Kp h (a2:=some<|.tup<|ws.map D.str) (a3:=‹ns.map D.int›) (a4:=‹a.map D.int›) (b:=b) (o6:=none) (o7:=none) (o8:=none) k ∅ ∅ u ∅;refine⟨x',T.map<|shE pl,?_,k',P,by rw[L1,L]⟩;have U:ya (jc [] 0) qT (pF<|p2 yI (Jt 0 "owed"<|pV 1)<|pV 0) (ws.map D.str) [none,some<|jA p true x]=some (ns.map D.int):=by
  rw[U2];refine jC rfl (λρ=>∃ o,ρ=[o,some<|jA p true x]) ?_ ⟨none,rfl⟩;rintro q hq ρ ⟨o,rfl⟩;refine⟨[some<|.str q,some<|jA p true x],rfl,?_,_,rfl⟩;simp[jiB (p:=p) (x:=x) (o:=true),yq (o:=true) (f:=x.ow)<|Q q hq]
 have z:=Qd (p:=p) (x:=x) (o:=true);have A:lim ws.length=true:=jb ∅;have E:=jjY true true a ns;have F:jfO 3 [.tup<|ws.map D.str,.lst false<|ns.map D.int,.lst false<|a.map D.int]=some (T.map eT):=by
  rw[jqy rfl rfl rfl (by rw[L1,L1];lia)<|by rw[L1,L1];exact Nat.le_of_eq l.symm,kU,K8,K8,jdN ws ns a]
 have G:qP [.lst false<|ns.map D.int,.int x.cash]=↑(a.map D.int):=(jc7 ∅ d c0 ∅ s);have hb:b=(decide (0<ns.sum)&&decide (a=ns)):=rfl
 clear_value T a ns b
 by_cases q:0<ns.sum
 ·have n:b=decide (a=ns):=by lia
  rw[n] at e;simp[jR,vW,va,jo,U,z,A,G,E,u5,K8,Ke,q,F,e,YJ,yk,kU]
 ·have n:b=false:=by lia
  rw[n] at e;simp[jR,vW,va,jo,U,z,A,G,E,u5,K8,Ke,q,F,e,YJ,yk,kU]
noncomputable abbrev uM:List Nat:=[103,117,97,114,100]
noncomputable abbrev jfF:List Nat:=[112,97,114,116]
noncomputable abbrev jbA:List Nat:=[116,119,105,99,101]
def jbn(h:PoolOk O p)(k:FlOk p N c B L0 x)  (h1:po∈p.P) (h2:cl∈p.C) (b:x.en.length<=900):
  Ex2 λx' e=>An3 (yu [jA p true x,.int pl,.str po,.str cl]=some (.non,jA p true x')) (FlOk p N c B L0 x') (x'.en=x.en++[e]):=by
 have d:p.C.length<=1000:=by have:=h.told2;rw[L1];lia
 have i:p.P.length<=1000:=by have:=h.marks2;rw[L1];lia
 have j:=k.ow cl;have svl:=k.svl;have mvl:=k.mvl;have l:xB [.int<|x.ow cl,.int<|x.lv po]=some (.int<|got (x.ow cl)<|x.lv po):=rfl;have v:=jgD j.1<|k.lv po;generalize got (x.ow cl) (x.lv po)=g at *
 let m:Fl:={x with lv:=put x.lv po (x.lv po-g)}
 let n:Fl:={m with ow:=put x.ow cl (x.ow cl-g)}
 let a:Fl:={n with en:=x.en++[⟨pl,uM,cl,x.ow cl,g⟩]}
 have q:(x.en++[(⟨pl,uM,cl,x.ow cl,g⟩:En)]).length=x.en.length+1:=by simp
 refine⟨a,⟨pl,uM,cl,x.ow cl,g⟩,?_,⟨k.sz,jas k.ow ∅ ∅,jar k.lv ∅,k.ln,k.mv,k.c0,k.c1,by lia,by lia,Yr k.ek ⟨λ_=>h2,by show Ch uM;unfold Ch;decide,h.cw h2⟩⟩,rfl⟩;have r:=jiB (p:=p) (x:=x) (o:=true);have s:=yq (o:=true) (f:=x.ow) h2;have t:=joX (p:=p) (x:=x) (o:=true);have u:=yq (o:=true) (f:=x.lv) h1;show((vf [some<|jA p true x,some<|.int pl,some<|.str po,some<|.str cl,none,none]).bind (YJ 0))=_;have e:vf [some<|jA p true x,some<|.int pl,some<|.str po,some<|.str cl,none,none]=some (.nx [some<|jA p true a,some<|.int pl,some<|.str po,some<|.str cl,some<|.int<|x.ow cl,some<|.int g]):=by
  apply sq (ρ':=[some<|jA p true x,some<|.int pl,some<|.str po,some<|.str cl,some<|.int<|x.ow cl,none]) (by generalize jA p true x=X at *;generalize dct true p.C x.ow=D1 at *;simp[r,s]);apply sq (ρ':=[some<|jA p true x,some<|.int pl,some<|.str po,some<|.str cl,some<|.int<|x.ow cl,some<|.int g]) (by generalize jA p true x=X at *;generalize dct true p.P x.lv=D2 at *;simp[t,u,l]);apply sq<|jm5 rfl rfl rfl h1 i;apply sq<|jfQ rfl rfl rfl h2 d;exact xn rfl (by rfl) ∅
 rw[e];rfl
def jaT{p}{x:Fl}{N}{c B}{f}{ts}{a1 a2}{A:List Int}(h:jd ts (.int 0)=↑(A.map D.int))(i:∀ v∈A,0<=v):∀{Q:List W2}{s}{x}{o4 o5 o6 o7},(∀ q∈Q,q.1∈p.C/\Ch q.1)->FlOk p N c B f x->s+Q.length=A.length->x.en.length+Q.length<=900 ->
  Ex6 λx' es o4' o5' o6' o7'=>An4 (jY (gT 2<|gC (jc [0] 4)<|gC (jc [0] 5) gN) vS (yB s<|Q.map e2) [some<|jA p true x,a1,a2,some ts,o4,o5,o6,o7]=some (.nx [some<|jA p true x',a1,a2,some ts,o4',o5',o6',o7'])) (FlOk p N c B f x') (x'.en=x.en++es) (es.length=Q.length):=by
 intro Q
 induction Q with
 | nil=>
  intro s x o4 o5 o6 o7 _ k _ _;exact⟨x,[],o4,o5,o6,o7,rfl,k,by simp,rfl⟩
 | cons q Q r=>
  intro s x o4 o5 o6 o7 j k t l;rw[M3] at t l;have a:s<A.length:=by lia
  have b:jd (.lst true<|A.map D.int) (.int s)=some (.int A[s]):=by
   rw[jbs ∅ (by rw[L1];lia),N9,List.getElem?_map,X9 a];rfl
  have d:=i _<|List.getElem_mem a;generalize A[s]=ask at b d;have c0:=k.c0;have c1:=k.c1;have svl:=k.svl;have mvl:=k.mvl;have u:xB [.int ask,.int x.cash]=some (.int<|got ask x.cash):=rfl;have H:0<=got ask x.cash/\got ask x.cash<=ask/\got ask x.cash<=x.cash:=by unfold got;split<;>lia
  generalize got ask x.cash=g at *
  let w:Fl:={x with cash:=x.cash-g}
  let y:Fl:={w with en:=x.en++[⟨s,jfF,q.1,ask,g⟩]}
  have z:(x.en++[(⟨s,jfF,q.1,ask,g⟩:En)]).length=x.en.length+1:=by simp
  have k2:FlOk p N c B f y:=⟨k.sz,k.ow,k.lv,k.ln,k.mv,by lia,by lia,by lia,by lia,Yr k.ek ⟨λ_=>(j q<|by simp).1,by show Ch jfF;unfold Ch;decide,(j q<|by simp).2⟩⟩;obtain⟨x',es,o4',o5',o6',o7',e,E,m,n⟩:=r (s:=s+1) (λq F=>j q<|by simp[F]) k2 ∅ ∅;refine⟨x',⟨s,jfF,q.1,ask,g⟩::es,o4',o5',o6',o7',?_,E,by rw[m];show(x.en++[_])++es=_;simp,by rw[M3,M3,n]⟩;have I:jd (e2 q) (.int 0)=some (.str q.1):=rfl;have G:=Qd (p:=p) (x:=x) (o:=true);rw[L5,yB,lpF ?_,e];apply sq (ρ':=[some<|jA p true x,a1,a2,some ts,some<|.int s,some<|e2 q,some<|.int ask,o7]) (by generalize jA p true x=X at *;simp[h,b]);apply sq (ρ':=[some<|jA p true x,a1,a2,some ts,some<|.int s,some<|e2 q,some<|.int ask,some<|.int g]) (by generalize jA p true x=X at *;simp[G,u]);apply sq<|wS rfl rfl;exact xn rfl (by rfl) ∅
def jfg{C P O}{os:List OrdS}(h:∀ x∈os,OrdOk C P O x):fzs (os.map<|yj false)=os.map (yj false):=jL _<|vt h
def jaR:∀{os:List OrdS}{o2},(∀ x∈os,OrdOk C P O x)->nm∈os.map (·.nm) ->
  ∃ o∈os,o.nm=nm/\∃ r,jY (jc [] 2) yp (os.map<|yj false) [a0,some<|.str nm,o2]=some (.rt (yj false o) r):=by
 intro os
 induction os with
 | nil=>
  intro o2 _ h;simp at h
 | cons o os f=>
  intro o2 c h;have d:jd (yj false o) (.int 0)=some (.str o.nm):=rfl;by_cases q:o.nm=nm
  ·refine⟨o,by simp,q,[a0,some<|.str nm,some<|yj false o],?_⟩;have a:(o.nm==nm)=true:=by lia
   rw[L5,yx];simp[yp,d,a,(c o<|by simp).frz]
  ·have a:=U3.mpr q;have g:nm∈os.map (·.nm):=by grind
   obtain⟨i,b,j,r,e⟩:=f (λx k=>c x<|by simp[k]) g;refine⟨i,by simp[b],j,r,?_⟩;have hb:yp [a0,some<|.str nm,some<|yj false o]=some (.nx [a0,some<|.str nm,some<|yj false o]):=by
    simp[yp,d,a]
   rw[L5,lpE ?_ hb,e];rfl
def jfE{p}{O}(h:PoolOk O p){nm}(a:nm∈p.orders.map (·.nm)):∃ o∈p.orders,o.nm=nm/\vE [jJ false p,.str nm]=some (yj false o):=by
 obtain⟨o,b,c,r,e⟩:=jaR (a0:=some<|jJ false p) (o2:=none) h.orders a;refine⟨o,b,c,?_⟩;have d:jd (jJ false p) (.int 4)=‹p.orders.map (yj false)›:=rfl;simp[vE,jx,JZ,d,vt h.orders,jfg h.orders,e]
theorem zc:∀{ns}{l},f∉ns->ns.length=l.length->Jd ns l f v=(ns++[f],l++[v])
 | [],[],_,_=>rfl
 | [],_::_,_,e=>by simp at e
 | _::_,[],_,e=>by simp at e
 | n::ns,x::l,h,e=>by rw[Jd,if_neg λz=>h<|by simp[z],zc (λz=>h<|by simp[z]) ⇑e];rfl
def kn{f}{pv}{r:Rh}{ns}{l}{v}(a:pv (some (.ins true 0 ns l)::r)=some v)(h:f∉ns/\ns.length<=900:=by decide)(e:ns.length=l.length:=by rfl):JK 0 0 f pv (some (.ins true 0 ns l)::r)=some (.nx<|some (.ins true 0 (ns++[f])<|l++[v])::r):=by
 rw[JK,a,L4];show(bif (0==0)&&decide (ns.length<=900) then some (Out.nx<|some (D.ins true 0 (Jd ns l f v).1 (Jd ns l f v).2)::r) else none)=_;rw[zc h.1 e,X4 h.2];rfl
def jiC{p}{O}(h:PoolOk O p){S W Rn Lv}{z c}{ln}(a:S.map (·.1)=p.C)(b:W.map (·.1)=p.C)(d:Lv.map (·.1)=p.P)(f:(ln.map (·.1)).Nodup)(e:ln.length<=1000):
  yS [.ins true 0 [] [],jJ false p,bkD false S W Rn Lv z,.int c,.lst false<|ln.map eR]=some (.non,jA p true ⟨fnOf S,fnOf W,fnOf Lv,ln,c,[],[],[]⟩):=by
 have t:=h.told2;have u:=h.marks2;have w:S.length<=10:=by have:=congrArg List.length a;rw[L1,L1] at this;lia
 have x:W.length<=10:=by have:=congrArg List.length b;rw[L1,L1] at this;lia
 have y:Lv.length<=10:=by have:=congrArg List.length d;rw[L1,L1] at this;lia
 have g:yT [.lst false<|p.marks.map e2]=some (dct true p.P<|fnOf p.marks):=yt h.marksn ∅;have i:yT [.lst false<|S.map e2]=some (dct true p.C<|fnOf S):=by rw[<- a];exact yt (by rw[a];exact h.toldn) ∅
 have j:yT [.lst false<|W.map e2]=some (dct true p.C<|fnOf W):=by rw[<- b];exact yt (by rw[b];exact h.toldn) ∅
 have k:yT [.lst false<|Lv.map e2]=some (dct true p.P<|fnOf Lv):=by rw[<- d];exact yt (by rw[d];exact h.marksn) ∅
 have eL:=jdk f e;have l:=zr ln;have m:jd (bkD false S W Rn Lv z) (.int 0)=‹S.map e2›:=rfl;have n:jd (bkD false S W Rn Lv z) (.int 1)=‹W.map e2›:=rfl;have o:jd (bkD false S W Rn Lv z) (.int 3)=‹Lv.map e2›:=rfl;have q:jd (jJ false p) (.int 0)=some (.str p.nm):=rfl;have r:jd (jJ false p) (.int 2)=‹p.marks.map e2›:=rfl;generalize bkD false S W Rn Lv z=BK,jJ false p=PP at *;show _=some (D.non,D.ins true 0 NS [.str p.nm,dct true p.P<|fnOf p.marks,dct true p.C<|fnOf S,dct true p.C<|fnOf W,dct true p.P<|fnOf Lv,dLn true ln,.int c,.dK true [] [],.lst true [],.lst true []]);generalize dct true p.P (fnOf p.marks)=a1,dct true p.C (fnOf S)=a2,dct true p.C (fnOf W)=a3,dct true p.P (fnOf Lv)=a4,dLn true ln=a5 at *;have s:qH [some<|.ins true 0 [] [],some PP,some BK,some<|.int c,‹ln.map eR›]=some (.nx [some<|.ins true 0 NS [.str p.nm,a1,a2,a3,a4,a5,.int c,.dK true [] [],.lst true [],.lst true []],some PP,some BK,some<|.int c,‹ln.map eR›]):=by
  apply sq<|kn (v:=.str p.nm) (by simp[q]);apply sq<|kn (v:=a1) (by simp[r,g]);apply sq<|kn (v:=a2) (by simp[m,i]);apply sq<|kn (v:=a3) (by simp[n,j]);apply sq<|kn (v:=a4) (by simp[o,k]);apply sq<|kn (v:=a5) (by simp[eL,l,Yy]);apply sq<|kn (v:=.int c) (by simp);apply sq<|kn rfl;apply sq<|kn (v:=.lst true []) (by rfl);exact kn (by rfl)
 exact congrArg (Option.bind · (YJ 0)) s
def jpq(o)(w):∀ l:List (List Nat),∃ b,ja1 true (.str w) (dSv o l)=some (.bl b):=λl=>⟨_,rfl⟩
def wb(s:NC.length<=1000)  : ∀{R:List W2}{acc}{o4 o5 o6},(∀ q∈R,q.1∈NC/\0<=q.2)->acc.length+R.length<=1000 ->
  Ex4 λ(R':List W2) (o4' o5' o6':Option D)=>An3 (jY (gT 2<|gC (jc [] 4)<|gC (jc [] 5) gN) jG (R.map e2) [some<|jA p false x,a1,some<|dct true NC f,↑(acc.map e2),o4,o5,o6]=some (.nx [some<|jA p false x,a1,some<|dct true NC f,↑((acc++R').map e2),o4',o5',o6'])) (R'.map (·.1)=R.map (·.1)) (∀ q∈R',0<=q.2):=by
 intro R
 induction R with
 | nil=>
  intro acc o4 o5 o6 _ _;exact⟨[],o4,o5,o6,by simp,rfl,by simp⟩
 | cons q R t=>
  intro acc o4 o5 o6 c u;rw[M3] at u;obtain⟨b,hb⟩:=jpq false q.1 x.sv;have m:=jnX (p:=p) (x:=x) (o:=false);have g:=yq (o:=true) (f:=f) (c q<|by simp).1;have key:∃ d o6',jG [some<|jA p false x,a1,some<|dct true NC f,↑(acc.map e2),some<|.str q.1,some<|.int q.2,o6]=some (.nx [some<|jA p false x,a1,some<|dct true NC f,↑((acc++[d]).map e2),some<|.str q.1,some<|.int q.2,o6'])/\d.1=q.1/\0<=d.2:=by
   by_cases n:0<f q.1
   ·cases b with
    | true=>exact⟨(q.1,q.2+1),some<|.bl true,by simp(disch:=first | lia | (simp;done) | (simp;lia)) [jG,g,m,hb,n,jb,e2],rfl,by have:=(c q<|by simp).2;dsimp only;lia⟩
    | false=>exact⟨(q.1,0),some<|.bl false,by simp(disch:=first | lia | (simp;done) | (simp;lia)) [jG,g,m,hb,jb,e2],rfl,Int.le_refl _⟩
   ·exact⟨(q.1,0),some<|.bl false,by simp(disch:=first | lia | (simp;done) | (simp;lia)) [jG,g,n,jb,e2],rfl,Int.le_refl _⟩
  obtain⟨d,o6',h,hd,i⟩:=key;obtain⟨R',o4',o5',a,e,j,k⟩:=t (acc:=acc++[d]) (λr l=>c r<|by simp[l]) (by simp;lia);refine⟨d::R',o4',o5',a,?_,by rw[L5,L5,j,hd],λr l=>(M5.mp l).elim (λz=>by rw[z];exact i) (k r)⟩;rw[L5,lpE ?_ h,e];simp;rfl
def Yg(h:po ρ=some (dct o M f)):yM po ρ=↑((sz' M f).map e2):=by
 unfold yM;rw[h];show(bif frzs (M.map λn=>D.int<|f n) then some (D.lst true<|((M.map KA.str).zip (M.map λn=>D.int<|f n)).map λp=>D.tup [kaD p.1,p.2]) else none)=_;rw[uJ,zE];simp[sz',e2]
def jfC{x}{O}(h:PoolOk O p){S W Rn Lv}{z}(a:S.map (·.1)=p.C)(b:Rn.map (·.1)=p.C)(c:∀ q∈Rn,0<=q.2):
  ∃(R':List W2),An3 (R'.map (·.1)=p.C) (∀ q∈R',0<=q.2) (jM [jA p false x,bkD false S W Rn Lv z]=some (bkD true (sz' p.C x.sz) (sz' p.C x.ow) R' (sz' p.P x.lv) z)):=by
 have w:=h.told2;have y:S.length<=10:=by have:=congrArg List.length a;rw[L1,L1] at this;lia
 have A:Rn.length<=10:=by have:=congrArg List.length b;rw[L1,L1] at this;lia
 have j:yT [.lst false<|S.map e2]=some (dct true p.C<|fnOf S):=by rw[<- a];exact yt (by rw[a];exact h.toldn) ∅
 obtain⟨R',k,l,m,e,d,g⟩:=wb (p:=p) (x:=x) (NC:=p.C) (f:=fnOf S) (by rw[L1];lia) (a1:=some<|bkD false S W Rn Lv z) (acc:=[]) (o4:=none) (o5:=none) (o6:=none) (λq i=>⟨by rw[<- b];exact M7.mpr ⟨q,i,rfl⟩,c q i⟩) (by simp;lia);rw[X8,List.map_nil] at e;refine⟨R',by rw[d,b],g,?_⟩;have n:jd (bkD false S W Rn Lv z) (.int 0)=‹S.map e2›:=rfl;have o:jd (bkD false S W Rn Lv z) (.int 2)=‹Rn.map e2›:=rfl;have s:jd (bkD false S W Rn Lv z) (.int 4)=some (.int z):=rfl;have t:∀ r:Rh,yM (Jt 0 "sizes"<|pV 0) (some (jA p false x)::r)=↑((sz' p.C x.sz).map e2):=λr=>Yg rfl;have u:∀ r:Rh,yM (Jt 0 "owed"<|pV 0) (some (jA p false x)::r)=↑((sz' p.C x.ow).map e2):=λr=>Yg rfl;have v:∀ r:Rh,yM (Jt 0 "levels"<|pV 0) (some (jA p false x)::r)=↑((sz' p.P x.lv).map e2):=λr=>Yg rfl;show _=some (D.tup [.lst true<|(sz' p.C x.sz).map e2,.lst true<|(sz' p.C x.ow).map e2,.lst true<|R'.map e2,.lst true<|(sz' p.P x.lv).map e2,.int z]);simp(disch:=first | lia | (simp;done) | (simp;lia)) [jM,jx,v8,n,o,s,j,yg,JM,e,t,u,v,jb,-yM]
def jbi{Q:List W2}(h:PoolOk O p)(k:FlOk p N c B L0 x)(L:c<=2 ^ 900)  (l:∀ q∈Q,Wd q.1/\1<=q.2/\q.2<=10/\q.1∈p.C) (m:Q.length<=10) (F:x.en.length<=100):
  Ex2 λx' es=>An4 (jS [jA p true x,.lst false<|Q.map e2]=some (.non,jA p true x')) (FlOk p N c B L0 x') (x'.en=x.en++es) (es.length<=11):=by
 have c0:=k.c0;have c1:=k.c1;have t:∀ q∈Q,PtOk q:=λq g=>⟨(l q g).2.1,(l q g).2.2.1⟩;have u:=je9 m t c0 ∅;have M:=jfx (P:=Q) (c:=x.cash);obtain⟨b,es,v,w,y,z,e,a,f,G⟩:=jaT (ts:=.tup [.lst true<|(yN Q x.cash).1.map D.int,.int (yN Q x.cash).2]) (a1:=‹Q.map e2›) (a2:=some<|.int x.cash) rfl (jjs t c0) (Q:=Q) (s:=0) (x:=x) (o4:=none) (o5:=none) (o6:=none) (o7:=none) (λq g=>⟨(l q g).2.2.2,(l q g).1.2⟩) k ∅ ∅;have j:=Qd (p:=p) (x:=x) (o:=true);have H:jd (.tup [.lst true<|(yN Q x.cash).1.map D.int,.int (yN Q x.cash).2]) (.int 0)=↑((yN Q x.cash).1.map D.int):=rfl;have A:jd (.tup [.lst true<|(yN Q x.cash).1.map D.int,.int (yN Q x.cash).2]) (.int 1)=some (.int (yN Q x.cash).2):=rfl;by_cases E:0<(yN Q x.cash).2
 ·let d:En:=⟨-1,jbA,[],(yN Q x.cash).1.sum,x.cash⟩
  let n:Fl:={b with en:=b.en++[d]}
  have R:(b.en++[d]).length=b.en.length+1:=by simp
  have I:=a.svl;have J:=a.mvl;refine⟨n,es++[d],?_,⟨a.sz,a.ow,a.lv,a.ln,a.mv,a.c0,a.c1,by lia,by lia,Yr a.ek ⟨λq=>absurd q<|by show ¬ jbA∈CK;decide,by show Ch jbA;unfold Ch;decide,λ_ h=>nomatch h⟩⟩,by show b.en++[d]=_;rw[f];simp,by simp;lia⟩;have r:b.en.length<=1000:=by rw[f,N5];lia
  have s2:=xn (ρ:=[some<|jA p true b,‹Q.map e2›,some<|.int x.cash,some<|.tup [.lst true<|(yN Q x.cash).1.map D.int,.int (yN Q x.cash).2],v,w,y,z]) (i:=0) (pv:=yF #[p1 QA<|pI 1,pS [116,119,105,99,101],pS [],pCB jbS #[p2 jd (pV 3)<|pI 0],pF<|pV 2]) (e:=d) rfl (by simp[jb,e5,d,H]) r;have K:jA p true {b with en:=b.en++[d]}=jA p true n:=rfl;rw[K] at s2
  clear_value n d
  simp[jS,vW,yW,j,u,yg,JM,e,A,E,s2,YJ,-qf]
 ·refine⟨b,es,?_,a,f,by lia⟩;simp[jS,vW,yW,j,u,yg,JM,e,A,E,YJ]
def je2 (h : PoolOk O p) (r : ∀ w ∈ O, w ∈ N) (s : p.nm ∈ N) (t : N.length <= 6) (u : LnOk N L0) (v : B <= 10 ^ 20) (y : c <= 2 ^ 900)  (k : FlOk p N c B L0 x)  (z : RuleS p.C p.P O d)  (A : x.en.length <= 800)
     : ∃ x' es,qV [a0,a1,a2,a3,a4,a5,some<|jA p true x,some<|.int pl,some d,a9]=some (.nx [a0,a1,a2,a3,a4,a5,some<|jA p true x',some<|.int pl,some d,a9])/\FlOk p N c B L0 x'/\x'.en=x.en++es/\es.length<=20:=by
 have a:∀{kw w},((d=.tup [.str kw,.str w]/\jcD p.C p.P O kw w)\/(∃ j,kw=qd/\d=.tup [.str kw,.str w,.int j]/\w∈O))->(kw==ki)=false->Ch w->jd d (.int 0)=some (.str kw)->frz d=true->fz d=d ->
   ∃ x' es,qV [a0,a1,a2,a3,a4,a5,some<|jA p true x,some<|.int pl,some d,a9]=some (.nx [a0,a1,a2,a3,a4,a5,some<|jA p true x',some<|.int pl,some d,a9])/\FlOk p N c B L0 x'/\x'.en=x.en++es/\es.length<=20:=by
  intro kw w hd g l n b E;obtain⟨x',e,ex,o,F⟩:=jbC h r s t u k hd l ∅;refine⟨x',[e],?_,o,F,by simp⟩;have m:=JY (m:=js) (mn:="take_rule") (pa:=#[pF<|pV 7,pF<|pV 8]) (ρ:=[a0,a1,a2,a3,a4,a5,some<|jA p true x,some<|.int pl,some d,a9]) (i:=6) (ds:=[.int pl,d]) rfl (by simp[b]) (by simp[b])<|λ_ _ _ _ _ _ _ _ _ _=>rfl;rw[ex,L4] at m;simp[qV,n,g,m,-yV]
 cases z with
 | two kw w g J G f=>
  exact a (.inl ⟨rfl,f⟩) (U3.mpr g) G.2 rfl rfl rfl
 | lend w i q f=>exact a (.inr ⟨i,rfl,rfl,f⟩) rfl q.2 rfl rfl rfl
 | share ws H q f nd=>
  obtain⟨x',es,ex,o,bl,I⟩:=jbd h k v y (N8 H<|by decide) f nd ∅;refine⟨x',es,?_,o,bl,by lia⟩;have m:=JY (m:=jR) (mn:="take_share") (pa:=#[pF<|pV 7,pF<|p2 jd (pV 8)<|pI 1]) (ρ:=[a0,a1,a2,a3,a4,a5,some<|jA p true x,some<|.int pl,some<|.tup [.str ki,.tup<|ws.map D.str],a9]) (i:=6) (ds:=[.int pl,.tup<|ws.map D.str]) rfl (by simp[jkj]) (by simp)<|λ_ _ _ _ _ _ _ _ _ _=>rfl;rw[ex,L4] at m;have n:jd (.tup [.str ki,.tup<|ws.map D.str]) (.int 0)=some (.str ki):=rfl;simp[qV,n,m,-yV]
def jbc(h:PoolOk O p)(j:∀ w∈O,w∈N)(l:p.nm∈N)(m:N.length<=6)(n:LnOk N L0)(o:B<=10 ^ 20)(q:c<=2 ^ 900)  : ∀{R}{s}{x}{o7 o8},(∀ d∈R,RuleS p.C p.P O d)->FlOk p N c B L0 x->x.en.length+20*R.length<=800 ->
  Ex4 λx' es o7' o8'=>An4 (jY (gT 2<|gC (jc [] 7)<|gC (jc [] 8) gN) qV (YR s R) [a0,a1,a2,a3,a4,a5,some<|jA p true x,o7,o8,a9]=some (.nx [a0,a1,a2,a3,a4,a5,some<|jA p true x',o7',o8',a9])) (FlOk p N c B L0 x') (x'.en=x.en++es) (es.length<=20*R.length):=by
 intro R
 induction R with
 | nil=>
  intro s x o7 o8 _ k _;exact⟨x,[],o7,o8,rfl,k,by simp,by simp⟩
 | cons d R r=>
  intro s x o7 o8 i k b;rw[M3] at b;obtain⟨y,f,t,u,a,z⟩:=je2 h j l m n o q k (i d<|by simp) ∅;obtain⟨x',es,o7',o8',e,v,g,A⟩:=r (λd hd=>i d<|by simp[hd]) u (by rw[a,N5];lia);refine⟨x',f++es,o7',o8',?_,v,by rw[g,a,List.append_assoc],by rw[N5,M3];lia⟩;rw[YR,lpE ?_ t,e];rfl
def wq(h:PoolOk O p)  : ∀{G:List WG}{s}{x}{o7 o9},(∀ g∈G,g.1∈p.P/\g.2∈p.C)->FlOk p N c B L0 x->x.en.length+G.length<=900 ->
  Ex4 λx' es o7' o9'=>An4 (jY (gT 2<|gC (jc [] 7)<|gC (jc [] 9) gN) KH (yB s<|G.map eG) [a0,a1,a2,a3,a4,a5,some<|jA p true x,o7,a8,o9]=some (.nx [a0,a1,a2,a3,a4,a5,some<|jA p true x',o7',a8,o9'])) (FlOk p N c B L0 x') (x'.en=x.en++es) (es.length=G.length):=by
 intro G
 induction G with
 | nil=>
  intro s x o7 o9 _ k _;exact⟨x,[],o7,o9,rfl,k,by simp,rfl⟩
 | cons g G j=>
  intro s x o7 o9 b k d;rw[M3] at d;obtain⟨t,l,ex,n,a⟩:=jbn h k (b g<|by simp).1 (b g<|by simp).2 ∅;obtain⟨x',es,o7',o9',e,o,f,q⟩:=j (o7:=some<|.int s) (o9:=some<|eG g) (λg r=>b g<|by simp[r]) n (by rw[a,N5,List.length_singleton];lia);refine⟨x',l::es,o7',o9',?_,o,by rw[f,a];simp,by rw[M3,q,M3]⟩;have u:jd (eG g) (.int 0)=some (.str g.1):=rfl;have v:jd (eG g) (.int 1)=some (.str g.2):=rfl;have m:=JY (m:=yu) (mn:="take_guard") (pa:=#[pF<|pV 7,pF<|p2 jd (pV 9)<|pI 0,pF<|p2 jd (pV 9)<|pI 1]) (ρ:=[a0,a1,a2,a3,a4,a5,some<|jA p true x,some<|.int s,a8,some<|eG g]) (i:=6) (ds:=[.int s,.str g.1,.str g.2]) rfl (by rfl) rfl<|λ_ _ _ _ _ _ _ _ _ _=>rfl;rw[ex,L4] at m;rw[L5,yB,lpF ?_,e];simp[KH,m,-yV]
def jne(a:pV i ρ=some (jA p true x))(b:pe ρ=some r):jku i 0 "entries" "moves" pe ρ=some (.tup [.lst true<|x.en.map e5,r,.lst true<|x.mv.map eM],ρ.set i none):=by
 rw[jku,a,L4];have c:xk (jA p true x)=some (0,NS,[.str p.nm,dct true p.P<|fnOf p.marks,dct true p.C x.sz,dct true p.C x.ow,dct true p.P x.lv,dLn true x.ln,.int x.cash,dSv true x.sv,.lst true<|x.en.map e5,.lst true<|x.mv.map eM]):=rfl;rw[c,L4,jp7,jp6,b];rfl
structure BkOk(p:PoolS)(B:Int)(S W Rn Lv:List W2):Prop where
 s1:S.map (·.1)=p.C
 s2:∀ q∈S,0<=q.2
 w1:W.map (·.1)=p.C
 w2:∀ q∈W,0<=q.2/\q.2<=B
 r1:Rn.map (·.1)=p.C
 l1:Lv.map (·.1)=p.P
 l2:∀ q∈Lv,0<=q.2
 r2:∀ q∈Rn,0<=q.2
def wa{B}{S:List W2}(a:0<=B)(h:∀ q∈S,q.2<=B)(n):fnOf S n<=B:=by
 unfold fnOf
 induction S with
 | nil=>exact a
 | cons q S b=>
  rw[lkp];by_cases e:q.1=n
  ·rw[if_pos e];exact h q (by simp)
  ·rw[if_neg e];exact b λr c=>h r (by simp[c])
def jhJ{p:PoolS}{N O:W1}{c B:Int}{a:LN}(h:PoolOk O p)(hO:∀ w∈O,w∈N)(hn:p.nm∈N)(U:N.length<=6)(E:LnOk N a)(F:0<=B)(hB:B<=10 ^ 20)(G:0<=c)(V:c<=2 ^ 900){S W Rn Lv:List W2}{z:Int}(b:BkOk p B S W Rn Lv){nm:List Nat}(hm:nm∈p.orders.map (·.nm)):
  Ex3 λ(x:Fl) (es:List En) (R':List W2)=>An7 (jai [jJ false p,.str nm,bkD false S W Rn Lv z,.int c,.lst false<|a.map eR]=some (.tup [.lst true<|es.map e5,bkD true (sz' p.C x.sz) (sz' p.C x.ow) R' (sz' p.P x.lv) z,.lst true<|x.mv.map eM])) (FlOk p N c B a x) (R'.map (·.1)=p.C) (∀ q∈R',0<=q.2) (es.length<=300) (x.mv.length<=300) (∀ e∈es,EnOk p.C e):=by
 obtain⟨o,ho,X,en⟩:=jfE h hm;have f:=h.orders o ho;have hll:=E.len U;have Y:=jiC h (c:=c) (z:=z) (Rn:=Rn) b.s1 b.w1 b.l1 E.nd ∅;have Z:FlOk p N c B a ⟨fnOf S,fnOf W,fnOf Lv,a,c,[],[],[]⟩:=⟨Yn b.s2,λn=>⟨Yn (λq H=>(b.w2 q H).1) n,wa F (λq H=>(b.w2 q H).2) n⟩,Yn b.l2,rfl,trivial,G,Int.le_refl _,by simp,by simp,by simp⟩;have d:(⟨fnOf S,fnOf W,fnOf Lv,a,c,[],[],[]⟩:Fl).en=[]:=rfl;generalize(⟨fnOf S,fnOf W,fnOf Lv,a,c,[],[],[]⟩:Fl)=x0 at Y Z d;obtain⟨x1,es,e1,k1,t,esl⟩:=jbi h Z V f.parts f.plen (by rw[d];simp);have x1l:x1.en.length<=11:=by rw[t,d,X8];lia
 have rl:=f.len;obtain⟨x2,I,J,D,K,k2,u,n2⟩:=jbc h hO hn U E hB V (a0:=some<|jJ false p) (a1:=some<|.str nm) (a2:=some<|bkD false S W Rn Lv z) (a3:=some<|.int c) (a4:=‹a.map eR›) (a5:=some<|yj false o) (a9:=none) (s:=o.parts.length) (o7:=none) (o8:=none) f.rules k1 ∅;have g2:=h.guards2;obtain⟨j,L,p7,p9,M,k3,Q,n3⟩:=wq h (a0:=some<|jJ false p) (a1:=some<|.str nm) (a2:=some<|bkD false S W Rn Lv z) (a3:=some<|.int c) (a4:=‹a.map eR›) (a5:=some<|yj false o) (a8:=D) (s:=0) (x:=x2) (o7:=J) (o9:=none) (λg hg=>(h.guards g hg).2.2) k2 (by rw[u,N5];lia);obtain⟨R',R,T,eb⟩:=jfC (x:=j) h (S:=S) (W:=W) (Rn:=Rn) (Lv:=Lv) (z:=z) b.s1 b.r1 b.r2;have v:(es++(I++L)).length<=300:=by
  simp only[N5]
  lia
 have k:j.en=es++(I++L):=by rw[Q,u,t,d];simp
 have mvl:=k3.mvl;refine⟨j,es++(I++L),R',?_,k3,R,T,v,by rw[k] at mvl;lia,by rw[<- k];exact k3.ek⟩;have i1:jd (yj false o) (.int 1)=‹o.parts.map e2›:=rfl;have i2:jd (yj false o) (.int 2)=‹o.rules›:=rfl;have j6:jd (jJ false p) (.int 6)=‹p.guards.map eG›:=rfl;have l:=h.frz;have y:=Jq S W Rn Lv z;have m1:=JY (p:=p) (x:=x0) (m:=jS) (mn:="take_parts") (pa:=#[pF<|p2 jd (pV 5)<|pI 1]) (ρ:=[some<|jJ false p,some<|.str nm,some<|bkD false S W Rn Lv z,some<|.int c,‹a.map eR›,some<|yj false o,some<|jA p true x0,none,none,none]) (i:=6) (ds:=[.lst false<|o.parts.map e2]) rfl (by simp[i1,yg]) (by simp[yg])<|λ_ _ _ _ _ _ _ _ _ _=>rfl;rw[e1,L4] at m1;have A:∀ ρ:Rh,#[pF<|p2 jd (pV 5)<|pI 2] ρ=some [.lst false o.rules]->pCB qj #[p2 jd (pV 5)<|pI 1] ρ=some (.int o.parts.length)->jml #[pF<|p2 jd (pV 5)<|pI 2] (pCB qj #[p2 jd (pV 5)<|pI 1]) ρ=some (YR o.parts.length o.rules):=by
  intro ρ q1 q2;unfold jml;rw[q1,q2];have:=f.plen;show(bif V4 o.parts.length then some (YR _<|fzs o.rules) else none)=_;rw[xp ∅ ∅,f.fzr];rfl
 have h1:=A [some<|jJ false p,some<|.str nm,some<|bkD false S W Rn Lv z,some<|.int c,‹a.map eR›,some<|yj false o,some<|jA p true x1,none,none,none] (by simp[i2,f.frzr]) (by simp[i1]);have mm:=jbV (p:=p) (x:=j) (o:=true) (m:=jM) (mn:="book_behind") (po:=pV 6) (pa:=#[pV 2]) (ρ:=[some<|jJ false p,some<|.str nm,some<|bkD false S W Rn Lv z,some<|.int c,‹a.map eR›,some<|yj false o,some<|jA p true j,p7,D,p9]) (ds:=[bkD false S W Rn Lv z]) rfl (by simp) (λ_ _ _ _ _ _ _ _ _ _=>rfl) (by rw[show fzs [bkD false S W Rn Lv z]=[bkD false S W Rn Lv z] by rw[fzs,YB false S W Rn Lv z];rfl];exact eb)<|zF _ _ _ _ _;have m3:=jne (p:=p) (x:=j) (i:=6) (pe:=Yj jM 0 "book_behind" (pV 6) #[pV 2]) (ρ:=[some<|jJ false p,some<|.str nm,some<|bkD false S W Rn Lv z,some<|.int c,‹a.map eR›,some<|yj false o,some<|jA p true j,p7,D,p9]) rfl mm;rw[k] at m3;have r:jaL yS 0 #[pF<|pV 0,pF<|pV 2,pF<|pV 3,pF<|pV 4] [some<|jJ false p,some<|.str nm,some<|bkD false S W Rn Lv z,some<|.int c,‹a.map eR›,some<|yj false o,none,none,none,none]=some (jA p true x0):=by
  rw[jaL];have:#[pF<|pV 0,pF<|pV 2,pF<|pV 3,pF<|pV 4] [some<|jJ false p,some<|.str nm,some<|bkD false S W Rn Lv z,some<|.int c,‹a.map eR›,some<|yj false o,none,none,none,none]=some [jJ false p,bkD false S W Rn Lv z,.int c,.lst false<|a.map eR]:=by simp[l,y,vG]
  rw[this,L4,Y];simp[l,y,vG]
 simp[jai,jx,jgR,en,h.fz false,l,r,m1,h1,K,j6,xV,jg8,M,m3,-yV,-jaL,-jku,-Yj]
def ji8:Nat->List (List Nat)->(List Nat->Int)->Int->List En
 | _,[],_,_=>[]
 | k,c::E,f,L=>⟨k,jmV,c,L,got L<|f c⟩::ji8 (k+1) E (put f c<|f c-got L (f c)) (L-got L (f c))
theorem jgK:∀ E k f L,jjV k E f L=(ji8 k E f L).map e5
 | [],_,_,_=>rfl
 | c::E,k,f,L=>by rw[jjV,ji8,jgK E,L5];rfl
theorem u6:∀ E k f L,(ji8 k E f L).length=E.length
 | [],_,_,_=>rfl
 | c::E,k,f,L=>by rw[ji8,M3,M3,u6 E]
theorem jb6{C}:∀ E k f L,(∀ w∈E,w∈C/\Ch w)->∀ e∈ji8 k E f L,EnOk C e
 | [],_,_,_,_,_,h=>by cases h
 | c::E,k,f,L,a,e,h=>by
  rcases M5.mp h with rfl | h
  ·exact⟨λ_=>(a c<|by simp).1,by show Ch jmV;unfold Ch;decide,(a c<|by simp).2⟩
  ·exact jb6 E _ _ _ (λw b=>a w<|by simp[b]) e h
noncomputable abbrev LG:=List Nat×List Nat×En
noncomputable def e7(q:LG):D:=.tup [.str q.1,.str q.2.1,.int q.2.2.pl,.str q.2.2.kd,.str q.2.2.nm,.int q.2.2.nd,.int q.2.2.gt]
def kX(l:List LG):frzs (l.map e7)=true:=yH (λ_=>rfl) _
def Y9(l:List LG):fzs (l.map e7)=l.map e7:=vk (λ_=>rfl) _
def YY(M)(f):(sz' M f).map (·.1)=M:=by unfold sz';rw[U2];exact List.map_id _
def Qj(h:q∈sz' M f):∃ n,q.2=f n:=by
 obtain⟨n,_,rfl⟩:=M7.mp h;exact⟨n,rfl⟩
theorem zJ:∀{ms}{l},MvsOk nm N c l ms->∀ m∈ms,m.2.1∈N/\0<=m.2.2/\m.2.2<=c
 | [],_,_,m,h=>by cases h
 | a::ms,l,k,m,h=>by
  rcases M5.mp h with rfl | h
  ·exact⟨k.1.ot,Int.le_of_lt k.1.po,k.1.hi⟩
  ·exact zJ k.2 m h
def jkW(h:PoolOk O p)(n):0<=jhd p n/\jhd p n<=10 ^ 12:=by
 refine⟨Yn (λq b=>?_) n,wa (by decide) (λq b=>?_) n⟩
 all_goals
  obtain⟨a,c,rfl⟩:=M7.mp b;have:=h.told a c
  lia
def jew{nm}{PP}(j:jd PP (.int 0)=some (.str nm))(es:List En):ya (jc [] 0) qT (p2 jk (yF #[pF<|p2 jd (pV 1)<|pI 0,pS []])<|pV 0) (es.map e5) [none,some PP]=some ((es.map λe=>((nm,[],e):LG)).map e7):=by
 rw[U2];refine jC rfl (λρ=>∃ o,ρ=[o,some PP]) ?_ ⟨none,rfl⟩;rintro e b ρ ⟨o,rfl⟩;refine⟨[some<|e5 e,some PP],rfl,?_,_,rfl⟩;have a:jk (.tup [.str nm,.str []]) (e5 e)=some (e7 (nm,[],e)):=rfl;simp[j,a,jb]
def jdh{nm ord}{PP}(j:jd PP (.int 0)=some (.str nm))(es:List En):ya (jc [] 0) qT (p2 jk (yF #[pF<|p2 jd (pV 1)<|pI 0,pF<|pV 2])<|pV 0) (es.map e5) [none,some PP,some<|.str ord]=some ((es.map λe=>((nm,ord,e):LG)).map e7):=by
 rw[U2];refine jC rfl (λρ=>∃ o,ρ=[o,some PP,some<|.str ord]) ?_ ⟨none,rfl⟩;rintro e b ρ ⟨o,rfl⟩;refine⟨[some<|e5 e,some PP,some<|.str ord],rfl,?_,_,rfl⟩;have a:jk (.tup [.str nm,.str ord]) (e5 e)=some (e7 (nm,ord,e)):=rfl;simp[j,a,jb]
def xH{p:PoolS}{N O:W1}{c B:Int}{Q:LN}(h:PoolOk O p)(hO:∀ w∈O,w∈N)(hn:p.nm∈N)(hN:N.length<=6)(hL:LnOk N Q)(hB0:0<=B)(hB:B<=10 ^ 19)(R:0<=c)(hc:c<=2 ^ 900){S W Rn Lv:List W2}{z d:Int}(b:BkOk p B S W Rn Lv)(u:0<=d):
  Ex8 λ(S' W' R' L':List W2) (z':Int) (ln':LN) (mv:List MV) (sg:List LG)=>An7 (kF [jJ false p,bkD false S W Rn Lv z,.lst false<|Q.map eR,.int c,.int d] =
    some (.tup [bkD false S' W' R' L' z',.lst true<|ln'.map eR,.lst false<|mv.map eM,.lst false<|sg.map e7])) (BkOk p (B+10 ^ 12) S' W' R' L') (LnOk N ln') (∀ m∈mv,m.2.1∈N/\0<=m.2.2/\m.2.2<=c) (mv.length<=300) (sg.length<=310) (∀ x∈sg,x.1=p.nm/\Ch x.2.1/\EnOk p.C x.2.2):=by
 have lR:Rn.length<=10:=by have:=congrArg List.length b.r1;rw[L1,L1] at this;have:=h.told2;lia
 have lV:Lv.length<=10:=by have:=congrArg List.length b.l1;rw[L1,L1] at this;have:=h.marks2;lia
 have y:=je7 (x:=z) (L:=d) h b.s1 b.w1 lR lV;have v:=jg5 (E:=p.eats) (Yn b.s2) u;generalize hF:(eat p.eats (fnOf S) d).1=F at y v;generalize(eat p.eats (fnOf S) d).2=lft at y v;rw[jgK] at y;have T:=u6 p.eats 0 (fnOf S) d;have A:=jb6 p.eats 0 (fnOf S) d λw hw=>⟨h.eatsm w hw,(h.eats w hw).2⟩;generalize ji8 0 p.eats (fnOf S) d=lg at y T A;have no:=jlh h (S:=S) (W:=W) (Lv:=Lv) (x:=z) b.r1;have G:(sz' p.C F).map (·.1)=p.C:=YY _ _;have H:(ow' W F).map (·.1)=p.C:=by unfold ow';rw[U2];exact b.w1
 have wd:=zj h (Rn:=Rn) (Lv:=Lv) (x:=z+lft) G H;have b1:BkOk p (B+10 ^ 12) (sz' p.C F) (wd' p (fnOf<|sz' p.C F)<|ow' W F) Rn Lv:=by
  refine⟨G,λq f=>?_,?_,λq f=>?_,b.r1,b.l1,b.l2,b.r2⟩
  ·obtain⟨n,e⟩:=Qj f;rw[e];exact(v.1 n).1
  ·unfold wd';rw[U2];exact H
  ·unfold wd' at f;obtain⟨r,hr,rfl⟩:=M7.mp f;obtain⟨t,ht,rfl⟩:=M7.mp hr;have h1:=b.w2 t ht;have h2:=jkW h t.1;constructor
   ·lia
   ·lia
 obtain⟨x,EN,R',ef,I,U,V,hel,mvl,X⟩:=jhJ h hO hn hN hL ∅ ∅ R hc (z:=z+lft) b1 (jap h Rn);obtain⟨ln',eb,Y⟩:=jcV hn hN hL I.mv;have j:jd (jJ false p) (.int 0)=some (.str p.nm):=rfl;have Z:=jew (PP:=jJ false p) j lg;have J:=jdh (ord:=jjp p Rn) (PP:=jJ false p) j EN;refine⟨sz' p.C x.sz,sz' p.C x.ow,R',sz' p.P x.lv,z+lft,ln',x.mv,(lg.map λe=>((p.nm,[],e):LG))++EN.map λe=>((p.nm,jjp p Rn,e):LG),?_,⟨YY _ _,λq f=>?_,YY _ _,λq f=>?_,U,YY _ _,λq f=>?_,V⟩,Y,zJ I.mv,mvl,by have:=h.eats2;simp;lia,λq f=>?_⟩
 rotate_left
 ·obtain⟨n,e⟩:=Qj f;rw[e];exact I.sz n
 ·obtain⟨n,e⟩:=Qj f;rw[e];exact I.ow n
 ·obtain⟨n,e⟩:=Qj f;rw[e];exact I.lv n
 ·rcases N3.mp f with f | f
  ·obtain⟨e,he,rfl⟩:=M7.mp f;exact⟨rfl,λ_ h=>(nomatch h),A e he⟩
  ·obtain⟨e,he,rfl⟩:=M7.mp f;exact⟨rfl,by obtain⟨o,ho,eo⟩:=M7.mp<|jap h Rn;rw[<- eo];exact(h.orders o ho).nm.2,X e he⟩
 have fp:=h.fz false;have fpz:=h.frz;have hb1:=YB false S W Rn Lv z;have hb2:=Jq S W Rn Lv z;have hb3:=YB true (sz' p.C F) (ow' W F) Rn Lv<|z+lft;have hb4:=Jq (sz' p.C F) (ow' W F) Rn Lv<|z+lft;have hb5:=YB false (sz' p.C F) (ow' W F) Rn Lv<|z+lft;have hb8:=YB true (sz' p.C x.sz) (sz' p.C x.ow) R' (sz' p.P x.lv)<|z+lft;have K:=Jq (sz' p.C x.sz) (sz' p.C x.ow) R' (sz' p.P x.lv)<|z+lft;have hl1:lim lg.length=true:=jb (by have:=h.eats2;lia);have M:lim EN.length=true:=jb ∅;generalize hG1:(lg.map λe=>((p.nm,[],e):LG))=G1 at *;generalize hG2:(EN.map λe=>((p.nm,jjp p Rn,e):LG))=G2 at *;have g1l:G1.length<=1000:=by rw[<- hG1,L1];have:=h.eats2;lia
 have g2l:G2.length<=1000:=by rw[<- hG2,L1];lia
 have hl3:lim (G1.length+G2.length)=true:=jb ∅;generalize jJ false p=PP,bkD false S W Rn Lv z=B0,bkD false (sz' p.C F) (ow' W F) Rn Lv (z+lft)=B2,bkD true (sz' p.C x.sz) (sz' p.C x.ow) R' (sz' p.P x.lv) (z+lft)=B4 at *;have t0:∀{a b:D},jd (.tup [a,b]) (.int 0)=some a:=rfl;have t1:∀{a b:D},jd (.tup [a,b]) (.int 1)=some b:=rfl;have g:∀{a b c:D},jd (.tup [a,b,c]) (.int 0)=some a:=rfl;have k:∀{a b c:D},jd (.tup [a,b,c]) (.int 1)=some b:=rfl;have s:∀{a b c:D},jd (.tup [a,b,c]) (.int 2)=some c:=rfl;have ha1:fzs (G1.map e7++G2.map e7)=G1.map e7++G2.map e7:=by rw[<- N6,Y9]
 have ha2:frzs (G1.map e7++G2.map e7)=true:=by rw[<- N6,kX]
 have hx:=jd9 (i:=8) (p:=yi (Yz<|p2 jd (pV 7)<|pI 0) (jc [] 0) qT (p2 jk (yF #[pF<|p2 jd (pV 1)<|pI 0,pF<|pV 2])<|pV 0) [none,some 0,some 6]) (ρ:=[some PP,some B0,‹Q.map eR›,some<|.int c,some<|.int d,some<|.tup [.lst false<|lg.map e5,B2],some<|.str<|jjp p Rn,some<|.tup [.lst true<|EN.map e5,B4,.lst true<|x.mv.map eM],↑(G1.map e7)]) (e:=.lst true<|G2.map e7) (m:=G2.map e7) (l:=G1.map e7) (by simp[ -p2];simp[g,jcO,M,jo,J,-yF]) (by show(bif frzs (G2.map e7) then _ else _)=_;rw[kX];rfl) rfl (by rw[L1,L1];lia);simp[kF,jx,Ko,hx,y,fp,fpz,hb1,hb2,hb3,hb4,hb5,YB false (sz' p.C F) (wd' p (fnOf<|sz' p.C F)<|ow' W F) Rn Lv<|z+lft,Jq (sz' p.C F) (wd' p (fnOf<|sz' p.C F)<|ow' W F) Rn Lv<|z+lft,hb8,K,no,t0,t1,wd,jgQ,jcO,Yy,vG,ef,jo,Z,J,hl1,M,g,k,s,QZ,Qw,j,eb,jb,Y9,kX,hl3,ha1,-yF,-List.map_map];simp[g,k,s,K,Yy,vG,QZ,Qw,j,eb,ha2,jb]
structure Bk where
 S:List W2
 W:List W2
 R:List W2
 L:List W2
 x:Int
def yJ(o:Bool)(b:Bk):D:=bkD o b.S b.W b.R b.L b.x
inductive Bks (B:Int):List PoolS->List Bk->Prop where
 | nil:Bks B [] []
 | cons {p:PoolS}{b:Bk}{ps:List PoolS}{bs:List Bk}(h:BkOk p B b.S b.W b.R b.L) (t:Bks B ps bs):Bks B (p::ps) (b::bs)
structure WsOk(n:Nat)(K:Int)(ws:List Int):Prop where
 len:ws.length=n
 ok:∀ v∈ws,0<=v/\v<=K
def ua(o)(b):fz (yJ o b)=yJ false b:=YB ..
def u8(b):frz (yJ false b)=true:=Jq ..
def JT(l:List Bk):frzs (l.map<|yJ false)=true:=yH (λp=>u8 p) _
def JW(l:List Bk):fzs (l.map<|yJ false)=l.map (yJ false):=vk (λp=>ua _ p) _
def WsOk.set(h:WsOk n K ws)(b:K<=K')  (c:0<=v) (h1:v<=K'):WsOk n K' (ws.set j v):=by
 refine⟨by rw[List.length_set];exact h.len,λu a=>?_⟩;rcases List.mem_or_eq_of_mem_set a with q | q
 ·have:=h.ok u q;lia
 ·lia
def ja8{N}{f:List Nat->Int}{c}{n:Nat}(r:∀ w,0<=f w/\f w<n){a0 a1 a2 a3 a4 a5 a7 a9 a b d}(y:0<=c):∀{ms:List MV}{ws}{K}{o13 o14 o15},WsOk n K ws->(∀ m∈ms,m.2.1∈N/\0<=m.2.2/\m.2.2<=c) ->
  Ex4 λws' o13' o14' o15'=>An2 (jY (gT 3<|gC (jc [] 13)<|gC (jc [] 14)<|gC (jc [] 15) gN) kc (ms.map eM) [a0,a1,a2,a3,a4,a5,↑(ws.map D.int),a7,some<|dct true N f,a9,a,b,d,o13,o14,o15]=some (.nx [a0,a1,a2,a3,a4,a5,↑(ws'.map D.int),a7,some<|dct true N f,a9,a,b,d,o13',o14',o15'])) (WsOk n (K+c*ms.length) ws'):=by
 intro ms
 induction ms with
 | nil=>
  intro ws K o13 o14 o15 h _;exact⟨ws,o13,o14,o15,rfl,by simpa using h⟩
 | cons m ms s=>
  intro ws K o13 o14 o15 h q;obtain⟨t,z,A⟩:=q m (by simp);have k:=r m.2.1;have u:(f m.2.1).toNat<ws.length:=by rw[h.len];lia
  have B:=h.ok _<|List.getElem_mem u;have l:ixN (ws.map D.int).length (f m.2.1)=some (f m.2.1).toNat:=by
   have:=jdy (n:=(ws.map D.int).length) (i:=(f m.2.1).toNat) (by rw[L1];lia);rw[Int.toNat_of_nonneg k.1] at this;exact this
  have g:(ws.map D.int)[(f m.2.1).toNat]?=some (.int ws[(f m.2.1).toNat]):=by simp
  have j:(ws.map D.int).set (f m.2.1).toNat (.int<|ws[(f m.2.1).toNat]+m.2.2)=(ws.set (f m.2.1).toNat (ws[(f m.2.1).toNat]+m.2.2)).map D.int:=by simp
  obtain⟨ws',o13',o14',o15',e,p⟩:=s (ws:=ws.set (f m.2.1).toNat (ws[(f m.2.1).toNat]+m.2.2)) (K:=K+c) (h.set ∅ ∅ ∅)<|λv p=>q v (by simp[p]);refine⟨ws',o13',o14',o15',?_,?_⟩
  ·have hb:kc [a0,a1,a2,a3,a4,a5,↑(ws.map D.int),a7,some<|dct true N f,a9,a,b,d,some<|.str m.1,some<|.str m.2.1,some<|.int m.2.2]=some (.nx [a0,a1,a2,a3,a4,a5,↑((ws.set (f m.2.1).toNat (ws[(f m.2.1).toNat]+m.2.2)).map D.int),a7,some<|dct true N f,a9,a,b,d,some<|.str m.1,some<|.str m.2.1,some<|.int m.2.2]):=by
    rw[<- j];simp only[kc,xr,p2,pV0,pVs,L4,yq (o:=true) (f:=f) t,jcq,Vw,l,g];rfl
   rw[L5,lpE ?_ hb,e];rfl
  ·have x:K+c*((m::ms).length:Int)=K+c+c*ms.length:=by rw[M3];push_cast;rw[Int.mul_add];lia
   rw[x];exact p
def Jx(bs:List Bk)(ln:LN)(ws:List Int):D:=.tup [.lst false<|bs.map<|yJ false,.lst false<|ln.map eR,.lst false<|ws.map D.int]
def jfX{N}{f:List Nat->Int}{B K}{p:PoolS}{X:W1}(h:PoolOk X p)(hX:∀ w∈X,w∈N)(hn:p.nm∈N)(hN:N.length<=6){n:Nat}(hf:∀ w,0<=f w/\f w<n)(G:0<=B)(hB:B<=10 ^ 19)(hA:10 ^ 31<=K)(hK:K<=2 ^ 890)
  {bs:List Bk}{ln0:LN}{ws0:List Int}{e g:List Int}{s:Nat}{b:Bk}(hb:bs[s]?=some b) (H:BkOk p B b.S b.W b.R b.L) {q lo:Int}(hi:e[s]?=some q) (hi0:0<=q) (hi1:q<=10 ^ 31) (u:g[s]?=some lo) (I:0<=lo) (hs:s<n)
  {acc:List Bk}(hacc:acc.length<=10) {ln:LN}(hL:LnOk N ln) {ob:Bool}{ws:List Int}(J:WsOk n K ws) {log:List LG}(hlog:log.length<=2000) {a0 o11 o12 o13 o14 o15:Option D}:
  Ex9 λb' ln' ws' seg o11' o12' o13' o14' o15'=>An6 (qp [a0,some<|Jx bs ln0 ws0,‹e.map D.int›,‹g.map D.int›,↑(acc.map<|yJ false),some<|.lst ob<|ln.map eR,↑(ws.map D.int),↑(log.map e7),some<|dct true N f,some<|.int s,some<|jJ false p,o11,o12,o13,o14,o15] =
    some (.nx [a0,some<|Jx bs ln0 ws0,‹e.map D.int›,‹g.map D.int›,↑((acc++[b']).map (yJ false)),‹ln'.map eR›,↑(ws'.map D.int),↑((log++seg).map e7),some<|dct true N f,some<|.int s,some<|jJ false p,o11',o12',o13',o14',o15'])) (BkOk p (B+10 ^ 12) b'.S b'.W b'.R b'.L) (LnOk N ln') (WsOk n (1024*K) ws') (seg.length<=310) (∀ x∈seg,x.1=p.nm/\Ch x.2.1/\EnOk p.C x.2.2):=by
 have r:s<ws.length:=by rw[J.len];exact hs
 have hwv:=J.ok _<|List.getElem_mem r;obtain⟨j,k,l,m,o,ln',mv,seg,ep,M,y,O,mvl,z,P⟩:=xH (c:=q+ws[s]) h hX hn hN hL G hB ∅ ∅ H I;have Q:WsOk n K (ws.set s 0):=J.set (Int.le_refl _) ∅ ∅;obtain⟨ws',o13',o14',o15',ew,t⟩:=ja8 hf (a4:=↑((acc++[(⟨j,k,l,m,o⟩:Bk)]).map (yJ false))) ∅ Q O;refine⟨⟨j,k,l,m,o⟩,ln',ws',seg,some<|.int<|q+ws[s],some<|.tup [bkD false j k l m o,.lst false<|ln'.map eR,.lst false<|mv.map eM,.lst false<|seg.map e7],o13',o14',o15',?_,M,y,⟨t.len,λv hv=>⟨(t.ok v hv).1,?_⟩⟩,z,P⟩
 rotate_left
 ·have h1:=(t.ok v hv).2;have h2:(q+ws[s])*mv.length<=(q+ws[s])*300:=Int.mul_le_mul_of_nonneg_left ∅ ∅
  lia
 have T:jd (.lst false<|bs.map<|yJ false) (.int s)=some (yJ false b):=by
  have A:=(L9.mp hb).1;rw[jbs ∅ (by rw[L1];lia),N9,List.getElem?_map,hb];rfl
 have U:jd (.lst false<|e.map D.int) (.int s)=some (.int q):=by
  have A:=(L9.mp hi).1;rw[jbs ∅ (by rw[L1];lia),N9,List.getElem?_map,hi];rfl
 have V:jd (.lst false<|g.map D.int) (.int s)=some (.int lo):=by
  have A:=(L9.mp u).1;rw[jbs ∅ (by rw[L1];lia),N9,List.getElem?_map,u];rfl
 have Y:jd (.lst true<|ws.map D.int) (.int s)=some (.int ws[s]):=by
  rw[jbs ∅ (by rw[L1];lia),N9,List.getElem?_map,X9 r];rfl
 have Z:jd (Jx bs ln0 ws0) (.int 0)=‹bs.map (yJ false)›:=rfl;have E:ixN (ws.map D.int).length s=some s:=jdy (by rw[L1];exact r);have F:(ws.map D.int).set s (.int 0)=(ws.set s 0).map D.int:=by rw[List.map_set]
 have hb1:fz (yJ false b)=yJ false b:=ua _ _;have hb2:frz (yJ false b)=true:=u8 _;have hb3:fz (bkD false j k l m o)=bkD false j k l m o:=YB ..;have hb4:frz (bkD false j k l m o)=true:=Jq ..;have ep':kF [jJ false p,yJ false b,.lst false<|ln.map eR,.int<|q+ws[s],.int lo]=some (.tup [bkD false j k l m o,.lst true<|ln'.map eR,.lst false<|mv.map eM,.lst false<|seg.map e7]):=ep;have ea:(acc++[(⟨j,k,l,m,o⟩:Bk)]).map (yJ false)=acc.map (yJ false)++[bkD false j k l m o]:=by rw[N6];rfl
 rw[ea] at ew ⊢;have hal:lim (acc.map<|yJ false).length=true:=yD ∅;have hx:=jd9 (i:=7) (p:=p2 jd (pV 12)<|pI 3) (ρ:=[a0,some<|Jx bs ln0 ws0,‹e.map D.int›,‹g.map D.int›,↑(acc.map (yJ false)++[bkD false j k l m o]),‹ln'.map eR›,↑(ws'.map D.int),↑(log.map e7),some<|dct true N f,some<|.int s,some<|jJ false p,some<|.int<|q+ws[s],some<|.tup [bkD false j k l m o,.lst false<|ln'.map eR,.lst false<|mv.map eM,.lst false<|seg.map e7],o13',o14',o15']) rfl (by show(bif frzs (seg.map e7) then _ else _)=_;rw[kX];rfl) rfl (by rw[L1,L1];lia);have em:(log++seg).map e7=log.map e7++seg.map e7:=N6;rw[em];have v0:∀{a b c d},jd (.tup [a,b,c,d]) (.int 0)=some a:=rfl;have v1:∀{a b c d},jd (.tup [a,b,c,d]) (.int 1)=some b:=rfl;have v2:∀{a b c d},jd (.tup [a,b,c,d]) (.int 2)=some c:=rfl;generalize acc.map (yJ false)=AC at *;apply sq (by simp[U,Y];rfl);apply sq (by simp[E,-List.length_map];rw[F]);apply sq (by simp[Z,T,V,ep',h.fz false,h.frz,hb1,hb2,Yy,vG,-List.map_set];rfl);apply sq (by simp[hb3,hb4,v0,Yy,vG,QZ,Qw,Y9,kX,hal,-List.map_set];rfl);apply sq (by simp[v1,vG,-List.map_set];rfl);apply sq (by rw[qh];simp[v2,Qw,QZ,-List.map_set];exact ew);exact hx
def jp8(n):(1:Int)<=1024 ^ n:=by
 induction n with
 | zero=>decide
 | succ n a=>rw[Int.pow_succ];lia
def jch{K:Int}(h:0<=K)(n):K<=K*1024 ^ n:=by
 have:=Int.mul_le_mul_of_nonneg_left (jp8 n) h
 lia
def jpm(Ps:List PoolS)(x:LG):Prop:=∃ p∈Ps,x.1=p.nm/\Ch x.2.1/\EnOk p.C x.2.2
theorem ui{N}{f:List Nat->Int}{n:Nat}(hN:N.length<=6)(hf:∀ w,0<=f w/\f w<n){bs}{ws0 a c:List Int}(u:a.length=n)(y:c.length=n)(hi:∀ v∈a,0<=v/\v<=10 ^ 31)(i:∀ v∈c,0<=v){a0}{B}(j:0<=B)(hB:B<=10 ^ 19):
  ∀{Q}{s}{acc}{ln}{ob}{ws}{log}{K}{o9 o10 o11 o12 o13 o14 o15},(∀ p∈Q,p.nm∈N/\∃ X,PoolOk X p/\∀ w∈X,w∈N)->Bks B Q (bs.drop s)->s+Q.length=n->n<=6->acc.length=s->LnOk N ln->WsOk n K ws->log.length<=400*s->10 ^ 31<=K->K*1024 ^ Q.length<=2 ^ 890 ->
  Ex12 λ(bs':List Bk) (ln':LN) (ob':Bool) (ws':List Int) (seg:List LG) (o9' o10' o11' o12' o13' o14' o15':Option D)=>An6 (jY (gT 2<|gC (jc [] 9)<|gC (jc [] 10) gN) qp (yB s<|Q.map<|jJ false) [a0,some<|Jx bs ln0 ws0,‹a.map D.int›,‹c.map D.int›,↑(acc.map<|yJ false),some<|.lst ob<|ln.map eR,↑(ws.map D.int),↑(log.map e7),some<|dct true N f,o9,o10,o11,o12,o13,o14,o15] =
    some (.nx [a0,some<|Jx bs ln0 ws0,‹a.map D.int›,‹c.map D.int›,↑((acc++bs').map (yJ false)),some<|.lst ob'<|ln'.map eR,↑(ws'.map D.int),↑((log++seg).map e7),some<|dct true N f,o9',o10',o11',o12',o13',o14',o15'])) (Bks (B+10 ^ 12) Q bs') (LnOk N ln') (WsOk n (K*1024 ^ Q.length) ws') (seg.length<=400*Q.length)<|∀ x∈seg,jpm Q x
 | [],s,acc,ln,ob,ws,log,K,o9,o10,o11,o12,o13,o14,o15,_,hb,_,_,_,hL,hw,_,_,_=>by
  refine⟨[],ln,ob,ws,[],o9,o10,o11,o12,o13,o14,o15,by simp[yB],.nil,hL,by simpa using hw,by simp,by simp⟩
 | p::Q,s,acc,ln,ob,ws,log,K,o9,o10,o11,o12,o13,o14,o15,hQ,hb,hs,hn3,hacc,hL,hw,hlog,hA,hK=>by
  obtain⟨z,X,hp,hX⟩:=hQ p (by simp);rw[M3] at hs hK;rw[Int.pow_succ] at hK;have A:K*(1024 ^ Q.length*1024)=1024*K*1024 ^ Q.length:=by rw[Int.mul_comm (1024 ^ Q.length) 1024,<- Int.mul_assoc,Int.mul_comm K 1024]
  have hK2:=jch (K:=1024*K) ∅ Q.length;generalize k:bs.drop s=bd at hb;cases hb with
  | @cons _ b _ C E d=>
   have F:bs[s]?=some b:=by
    have:=congrArg (·[0]?) k;simpa using this
   have g:bs.drop (s+1)=C:=by
    have:=congrArg (List.drop 1) k;simpa using this
   have h:s<a.length:=by lia
   have l:s<c.length:=by lia
   obtain⟨b',ln',ws',seg,o11',o12',o13',o14',o15',e,G,H,I,sl,J⟩:=jfX hp hX z hN hf j hB hA ∅ F E (X9 h) (hi _<|List.getElem_mem h).1 (hi _<|List.getElem_mem h).2 (X9 l) (i _<|List.getElem_mem l) ∅ (acc:=acc) ∅ hL hw (log:=log) ∅;obtain⟨bs',L,ob',M,m,p9,O,P,R,S,T,U,V,W,Y,Z,sg2,o⟩:=ui hN hf u y hi i (a0:=a0) j hB (ln0:=ln0) (ws0:=ws0) (Q:=Q) (acc:=acc++[b']) (log:=log++seg) (λq hq=>hQ q<|by simp[hq]) (by rw[g];exact d) ∅ hn3 (by simp;lia) H I (by simp;lia) ∅ ∅;refine⟨b'::bs',L,ob',M,seg++m,p9,O,P,R,S,T,U,?_,.cons G W,Y,?_,?_,λx t=>?_⟩
   ·rw[L5,yB,lpE ?_ e,V];simp only[List.append_assoc,List.singleton_append];rfl
   ·rw[M3,Int.pow_succ,A];exact Z
   ·rw[N5,M3];lia
   ·rcases N3.mp t with t | t
    ·exact⟨p,by simp,J x t⟩
    ·obtain⟨q,hq,r⟩:=o x t;exact⟨q,by simp[hq],r⟩
noncomputable def anm:Nat->List PoolS->List W2
 | _,[]=>[]
 | s,p::Q=>(p.nm,(s:Int))::anm (s+1) Q
theorem uV:∀ Q s,(anm s Q).map (·.1)=Q.map (·.nm)
 | [],_=>rfl
 | p::Q,s=>by rw[anm,L5,L5,uV Q]
theorem jhe:∀ Q s,∀ q∈anm s Q,0<=q.2/\q.2<=(s:Int)+Q.length-1
 | [],_,q,h=>by cases h
 | p::Q,s,q,h=>by
  rw[M3];rcases M5.mp h with rfl | h
  ·lia
  ·have:=jhe Q (s+1) q h;lia
theorem jdd:∀ Q s,(anm s Q).length=Q.length
 | [],_=>rfl
 | p::Q,s=>by rw[anm,M3,jdd Q,M3]
theorem jaf:∀ Q s o o',ya (gT 2<|gC (jc [] 0)<|gC (jc [] 1) gN) qT (yF #[pF<|p2 jd (pV 1)<|pI 0,pF<|pV 0]) (yB s<|Q.map<|jJ false) [o,o']=some ((anm s Q).map e2)
 | [],_,_,_=>rfl
 | p::Q,s,o,o'=>by
  have j:jd (jJ false p) (.int 0)=some (.str p.nm):=rfl;have hb:(yF #[pF<|p2 jd (pV 1)<|pI 0,pF<|pV 0]) [some<|.int s,some<|jJ false p]=some (e2 (p.nm,s)):=by rfl
  rw[L5,yB,cpE ?_ hb,jaf Q (s+1) (some<|.int s)<|some<|jJ false p];rfl;rfl
noncomputable abbrev jez(Ps:List PoolS):List (List Nat):=Ps.map (·.nm)
def vP(h:DealOk Ps)(o):fzs (Ps.map<|jJ o)=Ps.map (jJ false):=by
 rw[kN,U2];exact List.map_congr_left λx a=>by obtain⟨X,b,_⟩:=h.ok x a;exact b.fz o
def yY(h:DealOk Ps):frzs (Ps.map<|jJ false)=true:=qN λd hd=>by
 obtain⟨x,a,rfl⟩:=M7.mp hd;obtain⟨X,b,_⟩:=h.ok x a;exact b.frz
structure StOk(Ps:List PoolS)(B K:Int)(bs:List Bk)(ln:LN)(ws:List Int):Prop where
 b:Bks B Ps bs
 l:LnOk (jez Ps) ln
 w:WsOk Ps.length K ws
structure FlowOk(n:Nat)(inc los:List Int):Prop where
 il:inc.length=n
 ll:los.length=n
 i:∀ v∈inc,0<=v/\v<=10 ^ 31
 l:∀ v∈los,0<=v
def jdj{K:Int}(h:0<=K){n}(a:n<=6):K*1024 ^ n<=K*2 ^ 60:=by
 refine Int.mul_le_mul_of_nonneg_left ?_ h;have:n=0\/n=1\/n=2\/n=3\/n=4\/n=5\/n=6:=by lia
 rcases this with rfl | rfl | rfl | rfl | rfl | rfl | rfl<;>decide
def jna{c}(h:DealOk c){B K}{bs}{ws g j}(st:StOk c B K bs ln ws)(m:FlowOk c.length g j)(n:0<=B)(M:B<=10 ^ 19)(N:10 ^ 31<=K)(T:K*2 ^ 60<=2 ^ 890):
  Ex5 λ(bs':List Bk) (ln':LN) (ob:Bool) (ws':List Int) (log:List LG)=>An4 (qQ [.lst false<|c.map<|jJ false,Jx bs ln ws,.lst false<|g.map D.int,.lst false<|j.map D.int]=some (.tup [.tup [.lst true<|bs'.map<|yJ false,.lst ob<|ln'.map eR,.lst true<|ws'.map D.int],.lst true<|log.map e7])) (StOk c (B+10 ^ 12) (K*2 ^ 60) bs' ln' ws') (log.length<=400*c.length) (∀ x∈log,jpm c x):=by
 have l1:=h.len1;have l2:=h.len2;have r:=jdj (K:=K) ∅ l2;have k:=jhe c 0;have d:=uV c 0;have O:∀ w,0<=fnOf (anm 0 c) w/\fnOf (anm 0 c) w<c.length:=λw=>by
  have a:=Yn (λq t=>(k q t).1) w;have b:=wa (B:=c.length-1) ∅ (λq t=>by have:=(k q t).2;lia) w
  lia
 obtain⟨bs',ln',ob,ws',log,P,u,y,z,A,C,E,e,F,G,f,Q,H⟩:=ui (by rw[L1];exact l2) O (ln0:=ln) (ws0:=ws) m.il m.ll m.i m.l (a0:=‹c.map (jJ false)›) n M (s:=0) (acc:=[]) (ob:=true) (log:=[]) (o9:=none) (o10:=none) (o11:=none) (o12:=none) (o13:=none) (o14:=none) (o15:=none) (λp J=>⟨M7.mpr ⟨p,J,rfl⟩,h.ok p J⟩) st.b ∅ l2 rfl st.l st.w (by simp) N ∅;rw[X8,X8,List.map_nil,List.map_nil] at e;refine⟨bs',ln',ob,ws',log,?_,⟨F,G,⟨f.len,λv L=>⟨(f.ok v L).1,Int.le_trans (f.ok v L).2 r⟩⟩⟩,Q,H⟩;have R:jd (Jx bs ln ws) (.int 1)=‹ln.map eR›:=rfl;have S:jd (Jx bs ln ws) (.int 2)=‹ws.map D.int›:=rfl;have jh9:VX [.lst false<|ln.map eR]=↑(ln.map eR):=by
  show(bif frzs (ln.map eR) then _ else _)=_;rw[vG];rfl
 have jnK:VX [.lst false<|ws.map D.int]=↑(ws.map D.int):=by simp
 have hd:yT [.lst true<|(anm 0 c).map e2]=some (dct true (jez c)<|fnOf<|anm 0 c):=by
  have:=yt (o:=true) (by rw[d];exact h.nmn) (by rw[jdd];lia);rw[d] at this;exact this
 have I:lim (yB 0<|c.map<|jJ false).length=true:=jb (by rw[J1,L1];lia);simp[qQ,jx,KB,R,S,jh9,jaf c 0 none none,hd,yY h,vP h false,I,jo,e,jb]
structure RD where
 bs:List Bk
 ln:LN
 ws:List Int
 log:List LG
def jw(r:RD):D:=.tup [Jx r.bs r.ln r.ws,.lst false<|r.log.map e7]
def VC(bs)(ln)(ws):frz (Jx bs ln ws)=true:=by simp[Jx,JT,vG]
def uY(bs)(ln)(ws):fz (Jx bs ln ws)=Jx bs ln ws:=by simp[Jx,JW,Yy]
def Yc(l:List RD):frzs (l.map jw)=true:=yH (λp=>by simp[jw,VC,kX]) _
def Ks(l:List RD):fzs (l.map jw)=l.map jw:=vk (λp=>by simp[jw,uY,Y9]) _
structure RdOk(Ps:List PoolS)(r:RD):Prop where
 b:∃ B,Bks B Ps r.bs
 l:r.log.length<=2400
 e:∀ x∈r.log,jpm Ps x
 n:LnOk (jez Ps) r.ln
theorem ut(h:DealOk Ps)  : ∀{ds:List Dy}{bs}{ln}{ws}{B K}{st}{acc}{o4 o5 o6},(∀ d∈ds,FlowOk Ps.length d.1 d.2)->StOk Ps B K bs ln ws->fz st=Jx bs ln ws->0<=B->B+10 ^ 12*ds.length<=10 ^ 19->10 ^ 31<=K->K*(2 ^ 60) ^ ds.length<=2 ^ 890->acc.length+ds.length<=1000 ->
  Ex5 λ(rs:List RD) (st':D) (o4' o5' o6':Option D)=>An3 (jY (gT 2<|gC (jc [] 4)<|gC (jc [] 5) gN) xT (ds.map Y3) [‹Ps.map (jJ false)›,a1,some st,↑(acc.map jw),o4,o5,o6]=some (.nx [‹Ps.map (jJ false)›,a1,some st',↑((acc++rs).map jw),o4',o5',o6'])) (rs.length=ds.length)<|∀ r∈rs,RdOk Ps r
 | [],bs,ln,ws,B,K,st,acc,o4,o5,o6,_,_,_,_,_,_,_,_=>⟨[],st,o4,o5,o6,by simp,rfl,by simp⟩
 | d::ds,bs,ln,ws,B,K,st,acc,o4,o5,o6,hd,v,k,m,w,y,u,z=>by
  rw[M3] at w u z;rw[Int.pow_succ] at u;have A:∀ n:Nat,(1:Int)<=(2 ^ 60) ^ n:=λn=>by
   induction n with
   | zero=>decide
   | succ n L=>rw[Int.pow_succ];lia
  have C:K*((2 ^ 60) ^ ds.length*2 ^ 60)=K*2 ^ 60*(2 ^ 60) ^ ds.length:=by rw[Int.mul_comm ((2 ^ 60) ^ ds.length)<|2 ^ 60,<- Int.mul_assoc]
  have E:K*2 ^ 60<=K*2 ^ 60*(2 ^ 60) ^ ds.length:=by
   have:=Int.mul_le_mul_of_nonneg_left (A ds.length) (show 0<=K*2 ^ 60 by lia)
   lia
  obtain⟨a,c,ob,f,log,e,g,F,o⟩:=jna h v (hd d<|by simp) m ∅ y ∅;obtain⟨rs,st',o4',o5',o6',i,p,j⟩:=ut h (a1:=a1) (ds:=ds) (acc:=acc++[⟨a,c,f,log⟩]) (o4:=‹d.1.map D.int›) (o5:=‹d.2.map D.int›) (o6:=some<|jw ⟨a,c,f,log⟩) (λx G=>hd x<|by simp[G]) g (uY _ _ _) ∅ ∅ ∅ ∅ (by simp;lia);refine⟨⟨a,c,f,log⟩::rs,st',o4',o5',o6',?_,by rw[M3,M3,p],λr q=>?_⟩
  rotate_left
  ·rcases M5.mp q with rfl | q
   ·exact⟨⟨_,g.b⟩,by have:=h.len2;lia,o,g.l⟩
   ·exact j r q
  have H:(acc++[(⟨a,c,f,log⟩:RD)]).map jw=acc.map jw++[jw ⟨a,c,f,log⟩]:=by simp
  rw[H] at i;rw[L5,lpF ?_,i];simp only[List.append_assoc,List.singleton_append];show(some _).bind _=_;have I:fz (.tup [.tup [.lst true<|a.map<|yJ false,.lst ob<|c.map eR,.lst true<|f.map D.int],.lst true<|log.map e7])=jw ⟨a,c,f,log⟩:=by simp[jw,Jx,JW,Yy,Y9]
  have s:frz (jw ⟨a,c,f,log⟩)=true:=by simp[jw,VC,kX]
  have J:jd (jw ⟨a,c,f,log⟩) (.int 0)=some (Jx a c f):=rfl;have t:lim (acc.map jw).length=true:=yD ∅;generalize acc.map jw=AC at *;simp[xT,k,yY h,vP h false,VC bs ln ws,uY bs ln ws,e,I,s,J,VC a c f,t]
def bk0(p:PoolS):Bk:=⟨jaZ p,qK p,qK p,jaQ p,0⟩
def jl4(h:PoolOk O p):BkOk p 0 (bk0 p).S (bk0 p).W (bk0 p).R (bk0 p).L:=by
 refine⟨?_,λq a=>?_,?_,λq a=>?_,?_,?_,λq a=>?_,λq a=>?_⟩
 ·show(jaZ p).map (·.1)=_;unfold jaZ;rw[U2];rfl
 ·obtain⟨c,b,rfl⟩:=M7.mp a;have:=h.told c b
  lia
 ·show(qK p).map (·.1)=_;unfold qK;rw[U2];rfl
 ·obtain⟨c,b,rfl⟩:=M7.mp a;exact⟨Int.le_refl _,Int.le_refl _⟩
 ·show(qK p).map (·.1)=_;unfold qK;rw[U2];rfl
 ·show(jaQ p).map (·.1)=_;unfold jaQ;rw[U2];rfl
 ·obtain⟨c,b,rfl⟩:=M7.mp a;exact Int.le_refl _
 ·obtain⟨c,b,rfl⟩:=M7.mp a;exact Int.le_refl _
theorem joN:∀{Q},(∀ p∈Q,∃ X,PoolOk X p)->Bks 0 Q (Q.map bk0)
 | [],_=>.nil
 | p::Q,h=>by
  obtain⟨X,a⟩:=h p (by simp);exact .cons (jl4 a)<|joN λq b=>h q (by simp[b])
noncomputable def zs(Ps:List PoolS):List Int:=Ps.map λ_=>0
def jjR(Ps:List PoolS):D:=.tup [.lst true<|(Ps.map bk0).map (yJ true),.lst true [],.lst true<|(zs Ps).map D.int]
def jbU(a):fz (jjR a)=Jx (a.map bk0) [] (zs a):=by
 have:fzs ((a.map bk0).map (yJ true))=(a.map bk0).map (yJ false):=by
  rw[kN,U2];exact List.map_congr_left λx _=>ua _ _
 simp[jjR,Jx,this,-List.map_map]
def Kj(b):vn (jjR b)=true:=by
 have a:yr ((b.map bk0).map (yJ true))=true:=by
  rw[yO,List.all_map,List.all_eq_true];intro x _;exact zF ..
 simp[jjR,a,-List.map_map]
def Qp(h:DealOk Ps):Jy [.lst false<|Ps.map<|jJ false]=some (jjR Ps):=by
 have l2:=h.len2;have l1:lim Ps.length=true:=jb ∅;have c1:ya (jc [] 0) qT (ju vj #[pV 0]) (Ps.map<|jJ false) [none]=some ((Ps.map bk0).map (yJ true)):=by
  rw[U2];refine jC rfl (λρ=>∃ o,ρ=[o]) ?_ ⟨none,rfl⟩;rintro p b ρ ⟨o,rfl⟩;obtain⟨X,a,_⟩:=h.ok p b;refine⟨[some<|jJ false p],rfl,?_,_,rfl⟩;have jh9:=a.fz false;show _=some (bkD true (jaZ p) (qK p) (qK p) (jaQ p) 0);simp[jh9,a.frz,QC a]
 have c:ya (jc [] 0) qT (pI 0) (Ps.map<|jJ false) [none]=some ((zs Ps).map D.int):=by
  unfold zs;rw[U2];exact jC rfl (λρ=>∃ o,ρ=[o]) (by simp) ⟨none,rfl⟩
 have d:lim (Ps.map<|jJ false).length=true:=by rw[L1];exact l1
 unfold jjR;simp[Jy,jx,jdQ,yY h,d,jo,c1,c,jb,-List.length_map]
def jcS{c:Int}(a:1<=c)(m n)(h:m<=n):c ^ m<=c ^ n:=by
 induction n with
 | zero=>
  have:m=0:=by lia
  subst this;exact Int.le_refl _
 | succ n b=>
  by_cases q:m=n+1
  ·lia
  ·have e:=b ∅;have d:0<=c ^ n:=Int.pow_nonneg ∅;have f:=Int.mul_le_mul_of_nonneg_left a d
   lia
def jnF:(10:Int) ^ 31*(2 ^ 60) ^ 6<=2 ^ 890:=by
 have a:(10:Int) ^ 31<=2 ^ 200:=by decide
 have b:((2:Int) ^ 60) ^ 6=2 ^ 360:=by rfl
 exact Int.le_trans (Int.mul_le_mul_of_nonneg_right a<|Int.pow_nonneg<|by decide)<|jcS (by decide) 560 890 (by decide)
def jkF{a}(h:DealOk a){ds:List Dy}(hd:∀ d∈ds,FlowOk a.length d.1 d.2)(c:ds.length<=6):∃(rs:List RD),An3 (wW [.lst false<|a.map<|jJ false,.lst false<|ds.map Y3]=↑(rs.map jw)) (rs.length=ds.length) (∀ r∈rs,RdOk a r):=by
 have f:StOk a 0 (10 ^ 31) (a.map bk0) [] (zs a):=⟨joN λp g=>by obtain⟨X,i,_⟩:=h.ok p g;exact⟨X,i⟩,⟨by simp,by simp⟩,⟨by simp[zs],λv j=>by obtain⟨p,_,rfl⟩:=M7.mp j;exact⟨Int.le_refl _,by decide⟩⟩⟩;have k:(10:Int) ^ 31*(2 ^ 60) ^ ds.length<=2 ^ 890:=by
  have l:∀ m n:Nat,m<=n->((2:Int) ^ 60) ^ m<=(2 ^ 60) ^ n:=jcS (by decide);exact Int.le_trans (Int.mul_le_mul_of_nonneg_left (l ds.length 6 c)<|show 0<=10 ^ 31 by decide) jnF
 obtain⟨rs,o,q,s,t,e,b,u⟩:=ut h (a1:=‹ds.map Y3›) (acc:=[]) (o4:=none) (o5:=none) (o6:=none) hd f (jbU a) (by decide) ∅ (by decide) k (by simp;lia);rw[X8,List.map_nil] at e;refine⟨rs,?_,b,u⟩;have jmc:=J4 ds;simp[wW,jx,jlT,vP h false,jmc,jL _ jmc,Kj a,Qp h,e,jb]
noncomputable def VL(kf:LG->List KA)(log:List LG)(k:List KA):Int:=((log.filter λx=>decide<|kf x=k).map (·.2.2.gt)).sum
def jb5(kf x log k):VL kf (x::log) k=(if k=kf x then x.2.2.gt else 0)+VL kf log k:=by
 unfold VL;by_cases h:kf x=k
 ·simp[h]
 ·have a:¬ k=kf x:=λz=>h z.symm;simp[h,a]
def jgi(kf a b k):VL kf (a++b) k=VL kf a k+VL kf b k:=by unfold VL;rw[List.filter_append,N6,List.sum_append]
structure IntT(F:List KA->Int)(N:Nat)(ks:List<|List KA)(l:List D):Prop where
 n:ks.length=l.length
 m:ks.length<=N
 v:∀ k,(J8 ks l k).getD (.int 0)=.int (F k)
def IntT.put{F n}{ks}{l}(h:IntT F n ks l)(a)(i):IntT (λk=>if k=a then i else F k) (n+1) (kW ks l a<|.int i).1 (kW ks l a<|.int i).2:=by
 refine⟨(uC h.n).1,N8 (uC h.n).2 (Nat.succ_le_succ h.m),λk=>?_⟩;rw[jgw h.n];by_cases e:k=a
 ·rw[if_pos e,if_pos e];rfl
 ·rw[if_neg e,if_neg e];exact h.v k
section
variable {kf:LG->List KA}{G:D->Rh->Option Rh}{f:FS}{fr:List (List KA)->List D->Rh->Prop}
def jea(step:∀ x F n ks l ρ,IntT F n ks l->n<100000->fr ks l ρ->∃ ρ1 ρ',G (e7 x) ρ=some ρ1/\f ρ1=some (.nx ρ')/\fr (kW ks l (kf x)<|.int<|F (kf x)+x.2.2.gt).1 (kW ks l (kf x)<|.int<|F (kf x)+x.2.2.gt).2 ρ'):
  ∀{log}{F n ks l ρ},IntT F n ks l->n+log.length<=100000->fr ks l ρ->Ex3 λks' l' ρ'=>An3 (IntT (λk=>F k+VL kf log k) (n+log.length) ks' l') (jY G f (log.map e7) ρ=some (.nx ρ')) (fr ks' l' ρ'):=by
 intro log
 induction log with
 | nil=>
  intro F n ks l ρ h _ a;exact⟨ks,l,ρ,by simpa [VL] using h,rfl,a⟩
 | cons x log g=>
  intro F n ks l ρ h i a;rw[M3] at i;obtain⟨ρ1,o,j,e2,b⟩:=step x F n ks l ρ h ∅ a;obtain⟨ks',l',ρ',c,e,d⟩:=g (h.put (kf x)<|F (kf x)+x.2.2.gt) ∅ b;refine⟨ks',l',ρ',⟨c.n,by have:=c.m;rw[M3];lia,λk=>?_⟩,by rw[L5,lpE j e2,e],d⟩;rw[c.v,jb5];by_cases q:k=kf x
  ·subst q;simp[Int.add_assoc]
  ·simp[q]
def jhm(step:∀ r F n ks l ρ,r.log.length<=2400->IntT F n ks l->n+r.log.length<=100000->fr ks l ρ->∃ ks' l' ρ1 ρ',IntT (λk=>F k+VL kf r.log k) (n+r.log.length) ks' l'/\G (jw r) ρ=some ρ1/\f ρ1=some (.nx ρ')/\fr ks' l' ρ'):
  ∀{rs:List RD}{F n ks l ρ},(∀ r∈rs,r.log.length<=2400)->IntT F n ks l->n+2400*rs.length<=100000->fr ks l ρ->Ex4 λm ks' l' ρ'=>An3 (IntT (λk=>F k+VL kf (rs.flatMap (·.log)) k) m ks' l') (jY G f (rs.map jw) ρ=some (.nx ρ')) (fr ks' l' ρ'):=by
 intro rs
 induction rs with
 | nil=>
  intro F n ks l ρ _ h _ a;exact⟨n,ks,l,ρ,by simpa [VL] using h,rfl,a⟩
 | cons r rs i=>
  intro F n ks l ρ g h j a;rw[M3] at j;have o:=g r (by simp);obtain⟨p,l1,ρ1,w,s,t,e2,b⟩:=step r F n ks l ρ o h ∅ a;obtain⟨m,ks',l',ρ',c,e,d⟩:=i (λq u=>g q<|by simp[u]) s ∅ b;refine⟨m,ks',l',ρ',⟨c.n,c.m,λk=>?_⟩,by rw[L5,lpE t e2,e],d⟩;rw[c.v,List.flatMap_cons,jgi,Int.add_assoc]
end
noncomputable def k2(x:LG):List KA:=[.str x.2.2.kd,.str x.2.2.nm]
noncomputable def k3(x:LG):List KA:=[.str x.1,.str x.2.2.kd,.str x.2.2.nm]
def jpO:IntT (λ_=>0) 0 [] []:=⟨rfl,N0 _,λ_=>rfl⟩
def zQ{p}{rs:List RD}(q:∀ r∈rs,RdOk p r)(B:rs.length<=10):Ex3 λm ks l=>An2 (IntT (VL k2 (rs.flatMap (·.log))) m ks l) (kR [.lst false<|rs.map jw]=some (.dT true ks l)):=by
 obtain⟨m,ks,l,s,h,e,c,d,a,b,rfl⟩:=jhm (G:=gT 2<|gC (jc [] 2)<|gC (jc [] 3) gN) (f:=kT) (fr:=λks l ρ=>∃ c d a b,ρ=[‹rs.map jw›,some<|.dT true ks l,c,d,a,b]) (by
  rintro r F n ks l ρ C h k ⟨c,d,a,b,rfl⟩;obtain⟨g,t,s,u,e,i,j,rfl⟩:=jea (kf:=k2) (G:=jc [] 4) (f:=kM) (fr:=λks l ρ=>∃ a b,ρ=[‹rs.map jw›,some<|.dT true ks l,some<|Jx r.bs r.ln r.ws,‹r.log.map e7›,a,b]) (by
   rintro x F n ks l ρ h k ⟨a,b,rfl⟩;refine⟨_,_,rfl,?_,some<|e7 x,some<|.kt<|k2 x,rfl⟩;have w:jd (e7 x) (.int 3)=some (.str x.2.2.kd):=rfl;have y:jd (e7 x) (.int 4)=some (.str x.2.2.nm):=rfl;have z:jd (e7 x) (.int 6)=some (.int x.2.2.gt):=rfl;have A:lim ks.length=true:=jb (by have:=h.m;lia);have o:=h.v<|k2 x;unfold k2 at o ⊢;simp[kM,w,y,z,o,A]) h k ⟨a,b,rfl⟩
  refine⟨g,t,_,_,u,rfl,?_,some<|Jx r.bs r.ln r.ws,‹r.log.map e7›,i,j,rfl⟩;simp[kT,kX r.log,Y9 r.log,e]) (λr h=>(q r h).l) jpO ∅ ⟨none,none,none,none,rfl⟩
 refine⟨m,ks,l,by simpa using h,?_⟩;simp[kR,jx,VN,Yc rs,Ks rs,e]
def wc{o}{rs:List RD}(p:∀ r∈rs,RdOk o r)(C:rs.length<=10):Ex3 λm ks l=>An2 (IntT (VL k3 (rs.flatMap (·.log))) m ks l) (qZ [.lst false<|rs.map jw]=some (.dT true ks l)):=by
 obtain⟨m,ks,l,q,h,e,c,a,b,rfl⟩:=jhm (G:=jc [] 2) (f:=qE) (fr:=λks l ρ=>∃ c a b,ρ=[‹rs.map jw›,some<|.dT true ks l,c,a,b]) (by
  rintro r F n ks l ρ D h j ⟨c,a,b,rfl⟩;obtain⟨d,s,q,t,e,g,i,rfl⟩:=jea (kf:=k3) (G:=jc [] 3) (f:=qJ) (fr:=λks l ρ=>∃ a b,ρ=[‹rs.map jw›,some<|.dT true ks l,some<|jw r,a,b]) (by
   rintro x F n ks l ρ h j ⟨a,b,rfl⟩;refine⟨_,_,rfl,?_,some<|e7 x,some<|.kt<|k3 x,rfl⟩;have u:jd (e7 x) (.int 0)=some (.str x.1):=rfl;have w:jd (e7 x) (.int 3)=some (.str x.2.2.kd):=rfl;have y:jd (e7 x) (.int 4)=some (.str x.2.2.nm):=rfl;have z:jd (e7 x) (.int 6)=some (.int x.2.2.gt):=rfl;have A:lim ks.length=true:=jb (by have:=h.m;lia);have k:=h.v<|k3 x;unfold k3 at k ⊢;simp[qJ,u,w,y,z,k,A]) h j ⟨a,b,rfl⟩
  refine⟨d,s,_,_,t,rfl,?_,some<|jw r,g,i,rfl⟩;have B:jd (jw r) (.int 1)=‹r.log.map e7›:=rfl;simp[qE,B,kX r.log,Y9 r.log,e]) (λr h=>(p r h).l) jpO ∅ ⟨none,none,none,rfl⟩
 refine⟨m,ks,l,by simpa using h,?_⟩;simp[qZ,jx,V9,Yc rs,Ks rs,e]
noncomputable def mn(i:Int):Int:=if 1<i then 1 else i
def Yx(S:List W2)(k:KA):Int:=((S.filter λq=>decide<|KA.str q.1=k).map λq=>mn q.2).sum
def Y8(x S k):Yx (x::S) k=(if k=.str x.1 then mn x.2 else 0)+Yx S k:=by
 unfold Yx;by_cases h:KA.str x.1=k
 ·simp[h]
 ·have a:¬ k=.str x.1:=λz=>h z.symm;simp[h,a]
def Jc(a b k):Yx (a++b) k=Yx a k+Yx b k:=by unfold Yx;rw[List.filter_append,N6,List.sum_append]
structure IntK(F:KA->Int)(N:Nat)(ks:List KA)(l:List D):Prop where
 n:ks.length=l.length
 m:ks.length<=N
 v:∀ k,(qu ks l k).getD (.int 0)=.int (F k)
def IntK.to{F a N ks l}(h:IntK F N ks l)(e:∀ k,F k=a k):IntK a N ks l:=⟨h.n,h.m,λk=>by rw[<- e];exact h.v k⟩
theorem xz:∀{ks}{l},ks.length=l.length->a∈ks->qu ks (wK ks l a d) k=if k=a then some d else qu ks l k
 | [],_,_,h=>by cases h
 | _::_,[],h,_=>by simp at h
 | x::ks,y::l,b,h=>by
  rw[wK,qu,qu];by_cases e:x=k
  ·subst e;rw[if_pos rfl,if_pos rfl];by_cases e2:x=a
   ·rw[if_pos e2,if_pos e2]
   ·rw[if_neg e2,if_neg e2]
  ·rw[if_neg e,if_neg e];by_cases c:a∈ks
   ·exact xz ⇑b c
   ·have g:a=x:=by
     rcases M5.mp h with h | h
     ·exact h
     ·exact absurd h c
    subst g;have:∀{ks}{l},ks.length=l.length->¬ a∈ks->wK ks l a d=l:=by
     intro ks
     induction ks with
     | nil=>intro l b _;cases l with
      | nil=>rfl
      | cons _ _=>simp at b
     | cons x ks i=>intro l b f;cases l with
      | nil=>simp at b
      | cons y l=>
       rw[wK,if_neg<|λe=>f<|by rw[e];exact L7,i ⇑b (λh=>f<|L6 _ h)]
    rw[this ⇑b c,if_neg<|λz=>e z.symm]
theorem zy:∀{ks}{l},ks.length=l.length->¬ a∈ks->qu (ks++[a]) (l++[d]) k=if k=a then some d else qu ks l k
 | [],[],_,_=>by
  show(if a=k then some d else qu [] [] k)=_;by_cases e:a=k
  ·subst e;simp
  ·rw[if_neg e,if_neg<|λz=>e z.symm]
 | [],_::_,h,_=>by simp at h
 | _::_,[],h,_=>by simp at h
 | x::ks,y::l,b,h=>by
  rw[List.cons_append,List.cons_append,qu,qu,zy ⇑b (λz=>h<|L6 _ z)];by_cases e:x=k
  ·subst e;rw[if_pos rfl,if_pos rfl,if_neg<|λz=>h<|by rw[z];exact L7]
  ·rw[if_neg e,if_neg e]
def jfo(b:ks.length=l.length):qu (vV ks l a d).1 (vV ks l a d).2 k=if k=a then some d else qu ks l k:=by
 unfold vV;by_cases h:a∈ks
 ·rw[if_pos h];exact xz b h
 ·rw[if_neg h];exact zy b h
def uh(b:ks.length=l.length):(vV ks l a d).1.length=(vV ks l a d).2.length/\(vV ks l a d).1.length<=ks.length+1:=by
 unfold vV;by_cases h:a∈ks
 ·rw[if_pos h];exact⟨by rw[K9 a d b];exact b,Nat.le_succ _⟩
 ·rw[if_neg h];exact⟨by simp[b],by simp⟩
def IntK.put{F n}{ks}{l}(h:IntK F n ks l)(a)(i):IntK (λk=>if k=a then i else F k) (n+1) (vV ks l a<|.int i).1 (vV ks l a<|.int i).2:=by
 refine⟨(uh h.n).1,N8 (uh h.n).2 (Nat.succ_le_succ h.m),λk=>?_⟩;rw[jfo h.n];by_cases e:k=a
 ·rw[if_pos e,if_pos e];rfl
 ·rw[if_neg e,if_neg e];exact h.v k
def jfz{a0 a2 a3 a4}:∀{S}{F n}{ks}{l}{o5 o6},IntK F n ks l->n+S.length<=100000->Ex4 λks' l' o5' o6'=>An2 (IntK (λk=>F k+Yx S k) (n+S.length) ks' l') (jY (gT 2<|gC (jc [] 5)<|gC (jc [] 6) gN) vT (S.map e2) [a0,some<|.dK true ks l,a2,a3,a4,o5,o6]=some (.nx [a0,some<|.dK true ks' l',a2,a3,a4,o5',o6'])):=by
 intro S
 induction S with
 | nil=>
  intro F n ks l o5 o6 h _;exact⟨ks,l,o5,o6,by simpa [Yx] using h,rfl⟩
 | cons x S b=>
  intro F n ks l o5 o6 h c;rw[M3] at c;have a:xB [.int x.2,.int 1]=some (.int<|mn x.2):=rfl;obtain⟨ks',l',o5',o6',d,e⟩:=b (o5:=some<|.str x.1) (o6:=some<|.int x.2) (h.put (.str x.1)<|F (.str x.1)+mn x.2) ∅;refine⟨ks',l',o5',o6',by rw[M3,show n+(S.length+1)=n+1+S.length by lia];exact d.to λk=>by rw[Y8];by_cases q:k=.str x.1<;>simp[q,Int.add_assoc],?_⟩;have f:lim ks.length=true:=jb (by have:=h.m;lia);have g:Vh (.dK true ks l) (.str x.1) (.int 0)=some (.int<|F<|.str x.1):=by
   show some ((qu ks l<|.str x.1).getD (.int 0))=_;rw[h.v<|.str x.1]
  rw[L5,lpE rfl ?_,e];have i:yU (.str x.1)=some (.str x.1):=rfl;simp[vT,g,a,f,i]
theorem xb:∀{Q}{bs}{F n}{ks}{l}{o4 o5 o6},Bks B Q bs->(∀ p∈Q,∃ X,PoolOk X p)->IntK F n ks l->n+10*bs.length<=100000->Ex6 λm ks' l' o4' o5' o6'=>An3 (IntK (λk=>F k+Yx (bs.flatMap (·.R)) k) m ks' l') (m<=n+10*bs.length)<|jY (jc [] 4) vK (bs.map<|yJ false) [a0,some<|.dK true ks l,a2,a3,o4,o5,o6]=some (.nx [a0,some<|.dK true ks' l',a2,a3,o4',o5',o6'])
 | _,[],F,n,ks,l,o4,o5,o6,_,_,h,_=>⟨n,ks,l,o4,o5,o6,by simpa [Yx] using h,by simp,rfl⟩
 | Q,b::bs,F,n,ks,l,o4,o5,o6,hb,c,h,d=>by
  rw[M3] at d;cases hb with
  | @cons p _ v _ hb a=>
   obtain⟨X,f⟩:=c p (by simp);have w:b.R.length<=10:=by
    have:=congrArg List.length hb.r1;rw[L1,L1] at this;have:=f.told2
    lia
   obtain⟨g,l1,i,j,o,r⟩:=jfz (a0:=a0) (a2:=a2) (a3:=a3) (a4:=some<|yJ false b) (S:=b.R) (o5:=o5) (o6:=o6) h ∅;obtain⟨m,ks',l',o4',o5',o6',s,x,e⟩:=xb (o4:=some<|yJ false b) (o5:=i) (o6:=j) a (λq t=>c q<|by simp[t]) o ∅;refine⟨m,ks',l',o4',o5',o6',s.to λk=>by rw[List.flatMap_cons,Jc,Int.add_assoc],by rw[M3];lia,?_⟩;rw[L5,lpE rfl ?_,e];have u:jd (yJ false b) (.int 2)=‹b.R.map e2›:=rfl;simp[vK,u,yg b.R,JM b.R,r]
def Bks.len:∀{Q}{bs},Bks B Q bs->bs.length=Q.length
 | _,_,.nil=>rfl
 | _,_,.cons _ t=>by rw[M3,M3,t.len]
def jf9(a:DealOk Ps):∀{rs:List RD}{F n}{ks}{l}{o2 o3 o4 o5 o6},(∀ r∈rs,RdOk Ps r)->IntK F n ks l->n+60*rs.length<=100000->Ex8 λm ks' l' o2' o3' o4' o5' o6'=>An2 (IntK (λk=>F k+Yx (rs.flatMap λr=>r.bs.flatMap (·.R)) k) m ks' l') (jY (gT 2<|gC (jc [] 2)<|gC (jc [] 3) gN) vM (rs.map jw) [a0,some<|.dK true ks l,o2,o3,o4,o5,o6]=some (.nx [a0,some<|.dK true ks' l',o2',o3',o4',o5',o6'])):=by
 intro rs
 induction rs with
 | nil=>
  intro F n ks l o2 o3 o4 o5 o6 _ h _;exact⟨n,ks,l,o2,o3,o4,o5,o6,by simpa [Yx] using h,rfl⟩
 | cons r rs d=>
  intro F n ks l o2 o3 o4 o5 o6 c h f;rw[M3] at f;obtain⟨B,hb⟩:=(c r<|by simp).b;have bl:=hb.len;have l2:=a.len2;obtain⟨z,g,l1,i,j,o,s,A,t⟩:=xb (a0:=a0) (a2:=some<|Jx r.bs r.ln r.ws) (a3:=‹r.log.map e7›) (o4:=o4) (o5:=o5) (o6:=o6) hb (λp u=>by obtain⟨X,v,_⟩:=a.ok p u;exact⟨X,v⟩) h ∅;obtain⟨m,ks',l',o2',o3',o4',o5',o6',w,e⟩:=d (o2:=some<|Jx r.bs r.ln r.ws) (o3:=‹r.log.map e7›) (o4:=i) (o5:=j) (o6:=o) (λq x=>c q<|by simp[x]) s ∅;refine⟨m,ks',l',o2',o3',o4',o5',o6',w.to λk=>by rw[List.flatMap_cons,Jc,Int.add_assoc],?_⟩;rw[L5,lpE rfl ?_,e];have y:jd (Jx r.bs r.ln r.ws) (.int 0)=‹r.bs.map (yJ false)›:=rfl;simp[vM,y,JT r.bs,JW r.bs,t]
def jco{a}(b:DealOk a){rs:List RD}(c:∀ r∈rs,RdOk a r)(o:rs.length<=10):Ex3 λm ks l=>An2 (IntK (Yx (rs.flatMap λr=>r.bs.flatMap (·.R))) m ks l) (vF [.lst false<|rs.map jw]=some (.dK true ks l)):=by
 obtain⟨m,ks,l,d,f,g,i,j,h,e⟩:=jf9 (a0:=‹rs.map jw›) b (n:=0) (ks:=[]) (l:=[]) (o2:=none) (o3:=none) (o4:=none) (o5:=none) (o6:=none) c ⟨rfl,N0 _,λ_=>rfl⟩ ∅;refine⟨m,ks,l,h.to λk=>Int.zero_add _,?_⟩;simp[vF,jx,JU,Yc rs,Ks rs,e]
def jhB{a}(c:DealOk a){rs}(i:∀ r∈rs,RdOk a r):Ex3 λd B bs=>An4 (Bks B a bs) (vp [.lst false<|a.map<|jJ false,.lst false<|rs.map jw]=some d) (jd (fz d) (.int 0)=‹bs.map (yJ false)›) ((rs=[]/\bs=a.map bk0)\/(rs≠[]/\∃ r,jd (.lst false<|rs.map jw) (.int<|-1)=some (jw r)/\bs=r.bs)):=by
 by_cases e:rs=[]
 ·subst e;refine⟨jjR a,0,a.map bk0,joN λp j=>by obtain⟨X,k,_⟩:=c.ok p j;exact⟨X,k⟩,?_,by rw[jbU];rfl,.inl ⟨rfl,rfl⟩⟩;simp[vp,jx,qr,yY c,vP c false,Qp c]
 ·have o:=List.length_pos_iff.mpr e;obtain⟨B,hb⟩:=(i (rs[rs.length-1]'∅)<|List.getElem_mem _).b;generalize l:rs[rs.length-1]'∅=r at hb;have h:jd (.lst false<|rs.map jw) (.int<|-1)=some (jw r):=by
   show atI (rs.map jw) (-1)=_;have:ixN (rs.map jw).length (-1)=some (rs.length-1):=by
    unfold ixN;simp
    lia
   unfold atI;rw[this];show(rs.map jw)[rs.length-1]?=_;rw[List.getElem?_map,X9 ∅,l];rfl
  refine⟨Jx r.bs r.ln r.ws,B,r.bs,hb,?_,by rw[uY];rfl,.inr ⟨e,r,h,rfl⟩⟩;have m:jd (jw r) (.int 0)=some (Jx r.bs r.ln r.ws):=rfl;have f:(((rs.map jw).length:Nat):Int)=rs.length:=by rw[L1]
  have g:0<rs.length:=by lia
  have n:QA (.int 1)=some (.int<|-1):=rfl;simp[vp,jx,qr,f,g,e,n,h,m,VC r.bs r.ln r.ws]
structure Row where
 p:List Nat
 c:List Nat
 a:Int
 b:Int
 d:Int
 e:Int
 f:Int
 g:Int
 h:Int
 ow:Int
 sz:Int
 ms:Int
noncomputable def vv(r:Row):D:=.tup [.str r.p,.str r.c,.int r.a,.int r.b,.int r.d,.int r.e,.int r.f,.int r.g,.int r.h,.int r.ow,.int r.sz,.int r.ms]
noncomputable def jdB(g:List Nat->Int)(p:PoolS)(c:List Nat)(ow sz ms:Int):Row:=⟨p.nm,c,g [112,97,114,116],g [112,97,121],g [115,104,97,114,101],g [114,101,112,97,121],g [114,101,115,116],g [103,117,97,114,100],g [101,97,116],ow,sz,ms⟩
def jgs(z:PoolOk O p)  (h:IntT F n ks l)  (i:IntK FK n2 ks2 l2)  (e:c∈p.C)  (B:A.length<=1000) :
  Ex3 λr o11' o12'=>An2 (r=jdB (λk=>F [.str k,.str c]) p c (g c) (f c) (FK<|.str c)) (ku [a0,a1,a2,some<|.dT true ks l,some<|.dK true ks2 l2,↑(A.map vv),some<|jJ false p,a7,some<|dct true p.C f,some<|dct true p.C g,some<|.str c,o11,o12] =
   some (.nx [a0,a1,a2,some<|.dT true ks l,some<|.dK true ks2 l2,↑((A++[r]).map vv),some<|jJ false p,a7,some<|dct true p.C f,some<|dct true p.C g,some<|.str c,o11',o12'])):=by
 have j:jd (jJ false p) (.int 0)=some (.str p.nm):=rfl;have m:Vh (.dK true ks2 l2) (.str c) (.int 0)=some (.int<|FK<|.str c):=by
  show some ((qu ks2 l2<|.str c).getD (.int 0))=_;rw[i.v]
 have q:jk vD (.tup [.str [101,97,116]])=some (.tup<|CK.map D.str):=rfl;have a:ya (jc [] 0) qT (pF<|xE (pV 1) (pV 0) (pV 2)<|pI 0) (CK.map D.str) [none,some<|.dT true ks l,some<|.str c]=some (CK.map λk=>D.int<|F [.str k,.str c]):=by
  refine jC rfl (λρ=>∃ o,ρ=[o,some<|.dT true ks l,some<|.str c]) ?_ ⟨none,rfl⟩;rintro k E ρ ⟨o,rfl⟩;refine⟨[some<|.str k,some<|.dT true ks l,some<|.str c],rfl,?_,_,rfl⟩;have s:∀ w:List Nat,yU (.str w)=some (.str w):=λ_=>rfl;simp[s,h.v [.str k,.str c]]
 have t:lim CK.length=true:=rfl;have u:itB (.tup<|CK.map D.str)=some (CK.map D.str):=rfl;have x:YA [.lst true<|CK.map λk=>D.int<|F [.str k,.str c]]=some (.tup<|CK.map λk=>D.int<|F [.str k,.str c]):=rfl;have b:jk (.tup [.str p.nm,.str c]) (.tup<|CK.map λk=>D.int<|F [.str k,.str c])=some (.tup<|.str p.nm::.str c::CK.map λk=>D.int<|F [.str k,.str c]):=rfl;have d:jk (.tup<|.str p.nm::.str c::CK.map λk=>D.int<|F [.str k,.str c]) (.tup [.int<|g c,.int<|f c,.int<|FK<|.str c])=some (vv<|jdB (λk=>F [.str k,.str c]) p c (g c) (f c)<|FK<|.str c):=rfl;have y:lim (A.map vv).length=true:=yD ∅;refine⟨_,↑(CK.map λk=>D.int<|F [.str k,.str c]),some<|.tup [.int<|g c,.int<|f c,.int<|FK<|.str c],rfl,?_⟩;rw[N6,List.map_singleton];generalize A.map vv=AA at *;apply sq (by simp[q,u,jo,a,t,jb];rfl);apply sq (by simp[yq e,yq e,m,jb];rfl);simp[j,x,b,d,y,jb]
def jeT(d:PoolOk O p)  (h:IntT F n ks l)  (i:IntK FK n2 ks2 l2)  : ∀{N:W1}{A}{o10 o11 o12},(∀ w∈N,w∈p.C)->A.length+N.length<=1000->
  Ex4 λR o10' o11' o12'=>An2 (R=N.map (λc=>jdB (λk=>F [.str k,.str c]) p c (g c) (f c)<|FK<|.str c)) (jY (jc [] 10) ku (N.map D.str) [a0,a1,a2,some<|.dT true ks l,some<|.dK true ks2 l2,↑(A.map vv),some<|jJ false p,a7,some<|dct true p.C f,some<|dct true p.C g,o10,o11,o12] =
   some (.nx [a0,a1,a2,some<|.dT true ks l,some<|.dK true ks2 l2,↑((A++R).map vv),some<|jJ false p,a7,some<|dct true p.C f,some<|dct true p.C g,o10',o11',o12'])):=by
 intro N
 induction N with
 | nil=>
  intro A o10 o11 o12 _ _;exact⟨[],o10,o11,o12,rfl,by rw[N1];rfl⟩
 | cons w N j=>
  intro A o10 o11 o12 b m;rw[M3] at m;obtain⟨r,o,q,s,e⟩:=jgs d h i (b w<|by simp) (A:=A) ∅;obtain⟨R,o10',o11',o12',t,a⟩:=j (A:=A++[r]) (λz u=>b z<|by simp[u]) (by simp;lia);refine⟨r::R,o10',o11',o12',by rw[L5,t,s],?_⟩;rw[L5,lpE rfl e,a,List.append_assoc,List.singleton_append]
def jbr(F:List KA->Int)(FK:KA->Int)(q:PoolS×Bk):List Row:=q.1.C.map λc=>jdB (λk=>F [.str k,.str c]) q.1 c (fnOf q.2.W c) (fnOf q.2.S c)<|FK<|.str c
def jej(u:IntT F n ks l)  (v:IntK FK n2 ks2 l2)  : ∀{Q}{bs}{A}{o6 o7 o8 o9 o10 o11 o12},Bks B Q bs->(∀ p∈Q,∃ X,PoolOk X p)->A.length+10*Q.length<=1000->
  Ex8 λR o6' o7' o8' o9' o10' o11' o12'=>An2 (R=(Q.zip bs).flatMap (jbr F FK)) (jY (gT 2<|gC (jc [] 6)<|gC (jc [] 7) gN) ko (jcX (Q.map<|jJ false)<|bs.map<|yJ false) [a0,a1,a2,some<|.dT true ks l,some<|.dK true ks2 l2,↑(A.map vv),o6,o7,o8,o9,o10,o11,o12] =
   some (.nx [a0,a1,a2,some<|.dT true ks l,some<|.dK true ks2 l2,↑((A++R).map vv),o6',o7',o8',o9',o10',o11',o12'])):=by
 intro Q
 induction Q with
 | nil=>
  intro bs A o6 o7 o8 o9 o10 o11 o12 h _ _;cases h;exact⟨[],o6,o7,o8,o9,o10,o11,o12,rfl,by rw[N1];rfl⟩
 | cons p Q y=>
  intro bs A o6 o7 o8 o9 o10 o11 o12 h r z;cases h with
  | @cons _ b _ bs hb t=>
   rw[M3] at z;obtain⟨X,c⟩:=r p (by simp);have P:=c.told2;have E:=congrArg List.length hb.s1;have G:=congrArg List.length hb.w1;rw[L1,L1] at E G;have d:yT [.lst false<|b.S.map e2]=some (dct true p.C<|fnOf b.S):=by
    have:=yt (o:=false) (by rw[hb.s1];exact c.toldn) ∅;rw[hb.s1] at this;exact this
   have f:yT [.lst false<|b.W.map e2]=some (dct true p.C<|fnOf b.W):=by
    have:=yt (o:=false) (by rw[hb.w1];exact c.toldn) ∅;rw[hb.w1] at this;exact this
   have g:ya (jc [] 0) qT (pF<|p2 jd (pV 0)<|pI 0) (p.told.map e3) [none]=some (p.C.map D.str):=by
    rw[U2];refine jC rfl (λρ=>∃ o,ρ=[o]) ?_ ⟨none,rfl⟩;rintro x T ρ ⟨o,rfl⟩;refine⟨[some<|e3 x],rfl,?_,_,rfl⟩;have:=i30 (t:=x);simp[this]
   obtain⟨i,j,k,m,a,H⟩:=jeT c u v (a0:=a0) (a1:=a1) (a2:=a2) (a7:=some<|yJ false b) (A:=A) (o10:=o10) (o11:=o11) (o12:=o12) (λw I=>I) (by rw[L1];lia);have s:i.length<=10:=by rw[a,L1,L1];lia
   obtain⟨R,o6',o7',o8',o9',o10',o11',o12',J,e⟩:=y (A:=A++i) (o6:=some<|jJ false p) (o7:=some<|yJ false b) (o8:=some<|dct true p.C<|fnOf b.S) (o9:=some<|dct true p.C<|fnOf b.W) (o10:=j) (o11:=k) (o12:=m) t (λq K=>r q<|by simp[K]) (by rw[N5];lia);refine⟨i++R,o6',o7',o8',o9',o10',o11',o12',by rw[U8,List.flatMap_cons,a,J];rfl,?_⟩;rw[L5,L5,jcX,lpE rfl ?_,e,List.append_assoc];have L:jd (jJ false p) (.int 1)=‹p.told.map e3›:=rfl;have b0:jd (yJ false b) (.int 0)=‹b.S.map e2›:=rfl;have M:jd (yJ false b) (.int 1)=‹b.W.map e2›:=rfl;have N:=kU p.C;have ll:lim (p.told.map e3).length=true:=yD ∅;have O:=km p.told;generalize p.told.map e3=TT,p.C.map D.str=NN at *;simp[ko,L,b0,M,d,f,ll,O,Kv p.told,jo,g,yk p.C,N,H]
def jik{a}(b:DealOk a){ds:List Dy}(hd:∀ d∈ds,FlowOk a.length d.1 d.2)(s:ds.length<=6):Ex3 λrs B bs=>An6 (wW [.lst false<|a.map<|jJ false,.lst false<|ds.map Y3]=↑(rs.map jw)) (rs.length=ds.length) (∀ r∈rs,RdOk a r) (Bks B a bs) ((rs=[]/\bs=a.map bk0)\/(rs≠[]/\∃ r,jd (.lst false<|rs.map jw) (.int<|-1)=some (jw r)/\bs=r.bs)) (vq [.lst false<|a.map<|jJ false,.lst false<|ds.map Y3]=↑(((a.zip bs).flatMap (jbr (VL k2 (rs.flatMap (·.log))) (Yx (rs.flatMap λr=>r.bs.flatMap (·.R))))).map vv)):=by
 obtain⟨rs,m,g,f⟩:=jkF b hd s;obtain⟨n,K,l,t,u⟩:=zQ f ∅;obtain⟨L,v,l2,w,x⟩:=jco b f ∅;obtain⟨d,B,bs,hb,y,z,c⟩:=jhB b f;have C:=b.len2;have bl:=hb.len;obtain⟨R,D,E,F,G,h,i,j,H,e⟩:=jej t w (a0:=‹a.map (jJ false)›) (a1:=‹ds.map Y3›) (a2:=‹rs.map jw›) (A:=[]) (o6:=none) (o7:=none) (o8:=none) (o9:=none) (o10:=none) (o11:=none) (o12:=none) hb (λp I=>by obtain⟨X,J,_⟩:=b.ok p I;exact⟨X,J⟩) (by simp;lia);refine⟨rs,B,bs,m,g,f,hb,c,?_⟩;rw[<- H];rw[X8,List.map_nil] at e;have o:=vP b false;have q:=J4 ds;have k:jfO 2 [.lst false<|a.map<|jJ false,.lst false<|bs.map<|yJ false]=some (jcX (a.map<|jJ false)<|bs.map<|yJ false):=by rw[jog rfl rfl<|by simp;lia,o,JW]
 simp[vq,jx,YG,yY b,o,q,jL _ q,m,Yc rs,Ks rs,u,x,y,z,JT bs,k,e,jb]
def Bks.get{B}:∀{Q bs}{a:Nat}{p},Bks B Q bs->Q[a]?=some p->∃ b,bs[a]?=some b/\BkOk p B b.S b.W b.R b.L
 | _,_,0,_,.cons h _,e=>by cases e;exact⟨_,rfl,h⟩
 | _,_,a+1,_,.cons _ t,e=>t.get ⇑e
def col{S:List W2}{T:List W3}{t}{j:Nat}(h:S.map (·.1)=T.map (·.1))(nd:(T.map (·.1)).Nodup)(e:T[j]?=some t):∃ v,S[j]?=some (t.1,v)/\fnOf S t.1=v:=by
 have a:(S.map (·.1))[j]?=some t.1:=by rw[h,List.getElem?_map,e];rfl
 rw[List.getElem?_map] at a;obtain⟨q,e2,e3⟩:=Option.map_eq_some_iff.mp a;refine⟨q.2,by rw[e2,<- e3],?_⟩;rw[<- e3];exact Kd (by rw[h];exact nd)<|List.mem_of_getElem? e2
theorem JJ{c}:∀{S},¬ c∈S.map (·.1)->Yx S (.str c)=0
 | [],_=>rfl
 | q::S,h=>by
  rw[L5,M5] at h;rw[Y8,if_neg<|λz=>h<|.inl (by injection z),JJ λz=>h<|.inr z];rfl
theorem jab:∀{S}{q},(S.map (·.1)).Nodup->q∈S->Yx S (.str q.1)=mn q.2
 | x::S,q,nd,h=>by
  rw[L5,List.nodup_cons] at nd;rw[Y8];rcases M5.mp h with rfl | h
  ·rw[if_pos rfl,JJ nd.1,Int.add_zero]
  ·rw[if_neg<|λz=>nd.1 (by injection z with z;rw[<- z];exact M7.mpr ⟨q,h,rfl⟩),jab nd.2 h,Int.zero_add]
theorem QV{B c}:∀{Q bs},Bks B Q bs->(∀ q∈Q,¬ c∈q.C)->Yx (bs.flatMap (·.R)) (.str c)=0
 | _,_,.nil,_=>rfl
 | _,_,.cons h t,a=>by
  rw[List.flatMap_cons,Jc,QV t<|λq m=>a q<|by simp[m],JJ<|by rw[h.r1];exact a _<|by simp];rfl
theorem uI{B c b}:∀{Q bs}{a},Bks B Q bs->bs[a]?=some b->(∀(i:Nat) q,Q[i]?=some q->c∈q.C->i=a)->Yx (bs.flatMap (·.R)) (.str c)=Yx b.R (.str c)
 | _,_,0,.cons h t,e,d=>by
  cases e;rw[List.flatMap_cons,Jc,QV t (λq m z=>by obtain⟨i,hi⟩:=List.mem_iff_getElem?.mp m;exact absurd (d (i+1) q ⇑hi z)<|by simp),Int.add_zero]
 | _,_,a+1,.cons h t,e,d=>by
  rw[List.flatMap_cons,Jc,JJ<|by rw[h.r1];exact λz=>absurd (d 0 _ rfl z)<|by simp,uI t ⇑e (λi q hi z=>by have:=d (i+1) q ⇑hi z;simpa using this),Int.zero_add]
noncomputable def jaD(a j:Nat)(r:RD):Bool:=decide (0<((r.bs[a]?.bind (·.R[j]?)).map (·.2)).getD 0)
def jeG{b}(d:DealOk b){a}{p c}(e:b[a]?=some p)(f:c∈p.C)(i:Nat)(q)(e2:b[i]?=some q)(g:c∈q.C):i=a:=by
 have:=d.cl p (List.mem_of_getElem? e) q (List.mem_of_getElem? e2) c f g;refine(List.getElem?_inj (by rw[L1];exact(L9.mp e2).1) d.nmn).mp ?_;rw[List.getElem?_map,List.getElem?_map,e,e2,Option.map_some,Option.map_some,this]
theorem jbx{d}(f:DealOk d){a j}{p t}(e:d[a]?=some p)(g:p.told[j]?=some t):∀{rs:List RD},(∀ r∈rs,RdOk d r)->Yx (rs.flatMap λr=>r.bs.flatMap (·.R)) (.str t.1)=((rs.filter<|jaD a j).length:Int)/\∀ r∈rs,∃ br q,r.bs[a]?=some br/\br.R[j]?=some q
 | [],_=>⟨rfl,by simp⟩
 | r::rs,k=>by
  obtain⟨n,o⟩:=jbx f e g (rs:=rs) λq c=>k q (by simp[c]);obtain⟨B,hb⟩:=(k r<|by simp).b;obtain⟨b,h,bk⟩:=hb.get e;obtain⟨X,l,_⟩:=f.ok p<|List.mem_of_getElem? e;have s:t.1∈p.C:=M7.mpr ⟨t,List.mem_of_getElem? g,rfl⟩;obtain⟨v,i,_⟩:=col bk.r1 l.toldn g;have m:=List.mem_of_getElem? i;have s1:Yx (r.bs.flatMap (·.R)) (.str t.1)=mn v:=by
   rw[uI hb h<|jeG f e s];exact jab (by rw[bk.r1];exact l.toldn) m
  have w:=bk.r2 _ m;refine⟨?_,λq c=>?_⟩
  ·have u:jaD a j r=decide (0<v):=by unfold jaD;rw[h,L4,i];rfl
   rw[List.flatMap_cons,Jc,s1,n,List.filter_cons,u];unfold mn;by_cases z:0<v
   ·rw[if_pos<|X4 z,M3];split<;>lia
   ·rw[X5 z,if_neg M4];split<;>lia
  ·rcases M5.mp c with rfl | c
   ·exact⟨b,_,h,i⟩
   ·exact o q c
def jnc{a}(f:DealOk a){p}(g:p∈a){c}(h:c∈p.C){k}(i:k∈CK){rs:List RD}(j:∀ r∈rs,RdOk a r):VL k3 (rs.flatMap (·.log)) [.str p.nm,.str k,.str c]=VL k2 (rs.flatMap (·.log)) [.str k,.str c]:=by
 unfold VL;rw[List.filter_congr];intro x l;obtain⟨r,m,n⟩:=List.mem_flatMap.mp l;obtain⟨q,o,s,_,e2⟩:=(j r m).e x n;refine decide_eq_decide.mpr ⟨λz=>?_,λz=>?_⟩
 ·unfold k3 at z;unfold k2;injection z
 ·unfold k2 at z;unfold k3;have b:x.2.2.kd=k:=by injection z with z _;injection z
  have d:x.2.2.nm=c:=by injection z with _ z;injection z with z _;injection z
  have:=f.cl p g q o c h (by rw[<- d];exact e2.c<|by rw[b];exact i);rw[s,b,d,this]
theorem KC{a0 a1 a2 a3 a5 a6 a8 a}{F n ks l}(b:IntT F n ks l){p}{t}:∀{N:W1}{acc}{o11},acc.length+N.length<=1000 ->
  ∃ o11',jY (jc [] 11) Jv (N.map D.str) [a0,a1,a2,a3,some<|.dT true ks l,a5,a6,some<|jJ false p,a8,some<|e3 t,↑acc,o11,a] =
   some (.nx [a0,a1,a2,a3,some<|.dT true ks l,a5,a6,some<|jJ false p,a8,some<|e3 t,↑(acc++N.map λk=>.int<|F [.str p.nm,.str k,.str t.1]),o11',a])
 | [],acc,o11,_=>⟨o11,by rw[List.map_nil,List.map_nil,N1];rfl⟩
 | k::N,acc,o11,h=>by
  rw[M3] at h;obtain⟨o11',e⟩:=KC b (N:=N) (acc:=acc++[.int<|F [.str p.nm,.str k,.str t.1]]) (o11:=some<|.str k) (by simp;lia);refine⟨o11',?_⟩;rw[L5,lpE rfl ?_,e,List.append_assoc]
  ·rfl
  have c:jd (jJ false p) (.int 0)=some (.str p.nm):=rfl;have d:∀ w:List Nat,yU (.str w)=some (.str w):=λ_=>rfl;have f:lim acc.length=true:=jb ∅;simp[Jv,c,i30 (t:=t),d,b.v [.str p.nm,.str k,.str t.1],f]
def jeZ{a0 a1 o10 o11 o12}{ob}{bs:List Bk}{rs:List RD}{F n ks l}(B:IntT F n ks l){p:PoolS}{t:W3}{a j:Nat}{b:Bk}{w s:Int}(hb:bs[a]?=some b)(C:b.W[j]?=some (t.1,w))(E:b.S[j]?=some (t.1,s))(G:∀ r∈rs,∃ br q,r.bs[a]?=some br/\br.R[j]?=some q)(Y:rs.length<=10){A:List Row}(Z:A.length<=1000):
  Ex3 λo10' o11' o12'=>Jw [a0,a1,‹rs.map jw›,some<|.lst ob<|bs.map<|yJ ob,some<|.dT true ks l,↑(A.map vv),some<|.int a,some<|jJ false p,some<|.int j,some<|e3 t,o10,o11,o12] =
   some (.nx [a0,a1,‹rs.map jw›,some<|.lst ob<|bs.map<|yJ ob,some<|.dT true ks l,↑((A++[jdB (λk=>F [.str p.nm,.str k,.str t.1]) p t.1 w s ((rs.filter<|jaD a j).length:Int)]).map vv),some<|.int a,some<|jJ false p,some<|.int j,some<|e3 t,o10',o11',o12']):=by
 have H:jd (jJ false p) (.int 0)=some (.str p.nm):=rfl;obtain⟨h,ek⟩:=KC (a5:=↑(A.map vv)) B (N:=CK) (acc:=[.str p.nm,.str t.1]) (by simp[CK]);have c:∀{o}{α}{f}{l:List α}{i:Nat}{x},l[i]?=some x->jd (.lst o<|l.map f) (.int i)=some (f x):=λ{o α f l i x} e=>by
  have I:=(L9.mp e).1;rw[jbs ∅ (by rw[L1];lia),N9,List.getElem?_map,e];rfl
 have g:ya (jc [] 0) (jj<|p2 YK (p2 jd (p2 jd (p2 jd (p2 jd (p2 jd (p2 jd (pV 0)<|pI 0)<|pI 0)<|pV 1)<|pI 2)<|pV 2)<|pI 1)<|pI 0) (pI 1) (rs.map jw) [none,some<|.int a,some<|.int j]=some ((rs.filter<|jaD a j).map λ_=>.int 1):=by
  refine Kg (λρ=>∃ o,ρ=[o,some<|.int a,some<|.int j]) ?_ ⟨none,rfl⟩;rintro r u ρ ⟨o,rfl⟩;obtain⟨br,q,y,z⟩:=G r u;refine⟨[some<|jw r,some<|.int a,some<|.int j],rfl,?_,rfl,_,rfl⟩;have J:jd (jw r) (.int 0)=some (Jx r.bs r.ln r.ws):=rfl;have K:jd (Jx r.bs r.ln r.ws) (.int 0)=‹r.bs.map (yJ false)›:=rfl;have L:jd (yJ false br) (.int 2)=‹br.R.map e2›:=rfl;have M:=c (o:=false) (f:=e2) z;have O:jd (e2 q) (.int 1)=some (.int q.2):=rfl;have P:jaD a j r=decide (0<q.2):=by unfold jaD;rw[y,L4,z];rfl
  rw[P];simp[J,K,c (o:=false) (f:=yJ false) y,L,M,O]
 have v:lim (rs.map jw).length=true:=yD ∅;have Q:jd (yJ ob b) (.int 1)=some (.lst ob<|b.W.map e2):=by cases ob<;>rfl
 have T:jd (e2 (t.1,w)) (.int 1)=some (.int w):=rfl;have U:jd (yJ ob b) (.int 0)=some (.lst ob<|b.S.map e2):=by cases ob<;>rfl
 have V:jd (e2 (t.1,s)) (.int 1)=some (.int s):=rfl;have X:lim (A.map vv).length=true:=yD ∅;have d:((((rs.filter<|jaD a j).map λ_=>D.int 1).length:Nat):Int)=((rs.filter<|jaD a j).length:Int):=by rw[L1]
 generalize(rs.filter<|jaD a j).length=m at d;generalize(rs.filter<|jaD a j).map (λ_=>D.int 1)=MM at g d;refine⟨↑([.str p.nm,.str t.1]++CK.map λk=>D.int<|F [.str p.nm,.str k,.str t.1]),h,↑MM,?_⟩;rw[N6];generalize A.map vv=AA at *;apply sq (by simp[H,i30 (t:=t),jb];rfl);apply sq (by rw[qh];exact ek);apply sq (by simp[jo,Yc rs,Ks rs,g,v,-List.length_map];rfl);simp[c (o:=ob) (f:=yJ ob) hb,Q,c (o:=ob) (f:=e2) C,T,U,c (o:=ob) (f:=e2) E,V,d,X,jb,CK];rfl
structure At2(F:List KA->Int)(F2:List KA->Int)(FK:KA->Int)(bs:List Bk)(rs:List RD)(p:PoolS)(a j:Nat)(b:Bk)(t:W3):Prop where
 hb:bs[a]?=some b
 w:b.W[j]?=some (t.1,fnOf b.W t.1)
 s:b.S[j]?=some (t.1,fnOf b.S t.1)
 r:∀ r∈rs,∃ br q,r.bs[a]?=some br/\br.R[j]?=some q
 k:∀ k∈CK,F [.str p.nm,.str k,.str t.1]=F2 [.str k,.str t.1]
 m:FK (.str t.1)=((rs.filter<|jaD a j).length:Int)
def At2.row{F c FK bs rs p a j b t}(h:At2 F c FK bs rs p a j b t):jdB (λk=>F [.str p.nm,.str k,.str t.1]) p t.1 (fnOf b.W t.1) (fnOf b.S t.1) ((rs.filter<|jaD a j).length:Int)=jdB (λk=>c [.str k,.str t.1]) p t.1 (fnOf b.W t.1) (fnOf b.S t.1) (FK<|.str t.1):=by
 have k:=h.k;simp[CK] at k;simp only[jdB,k,h.m]
theorem KD{a0 a1}{ob}{bs}{rs}{F n ks l}{d FK}(e:IntT F n ks l){p}{a}{b}(f:rs.length<=10):∀{T:List W3}{s}{A}{o8 o9 o10 o11 o12},(∀ i t,T[i]?=some t->At2 F d FK bs rs p a (s+i) b t)->A.length+T.length<=1000 ->
  Ex5 λo8' o9' o10' o11' o12'=>jY (gT 2<|gC (jc [] 8)<|gC (jc [] 9) gN) Jw (yB s<|T.map e3) [a0,a1,‹rs.map jw›,some<|.lst ob<|bs.map<|yJ ob,some<|.dT true ks l,↑(A.map vv),some<|.int a,some<|jJ false p,o8,o9,o10,o11,o12] =
   some (.nx [a0,a1,‹rs.map jw›,some<|.lst ob<|bs.map<|yJ ob,some<|.dT true ks l,↑((A++T.map λt=>jdB (λk=>d [.str k,.str t.1]) p t.1 (fnOf b.W t.1) (fnOf b.S t.1)<|FK<|.str t.1).map vv),some<|.int a,some<|jJ false p,o8',o9',o10',o11',o12'])
 | [],s,A,o8,o9,o10,o11,o12,_,_=>⟨o8,o9,o10,o11,o12,by rw[List.map_nil,List.map_nil,N1];rfl⟩
 | t::T,s,A,o8,o9,o10,o11,o12,h,j=>by
  rw[M3] at j;have c:=h 0 t rfl;obtain⟨m,o,q,g⟩:=jeZ e c.hb c.w c.s c.r f (A:=A) ∅;rw[c.row] at g;obtain⟨o8',o9',o10',o11',o12',e2⟩:=KD e f (A:=A++[jdB (λk=>d [.str k,.str t.1]) p t.1 (fnOf b.W t.1) (fnOf b.S t.1)<|FK<|.str t.1]) (λi u v=>by have:=h (i+1) u ⇑v;rwa [show s+(i+1)=s+1+i by lia] at this) (by simp;lia);refine⟨o8',o9',o10',o11',o12',?_⟩;rw[L5,yB,lpE rfl g];refine e2.trans ?_;rw[List.append_assoc];rfl
theorem xg{a0 a1}{ob}{bs}{rs}{F n ks l}{d FK}(g:IntT F n ks l)(m:rs.length<=10):∀{Q:List PoolS}{cs}{s}{A}{o6 o7 o8 o9 o10 o11 o12},Q.length=cs.length->(∀ i p b,Q[i]?=some p->cs[i]?=some b->p.told.length<=10/\∀ j t,p.told[j]?=some t->At2 F d FK bs rs p (s+i) j b t)->A.length+10*Q.length<=1000 ->
  ∃ o6' o7' o8' o9' o10' o11' o12',jY (gT 2<|gC (jc [] 6)<|gC (jc [] 7) gN) k8 (yB s<|Q.map<|jJ false) [a0,a1,‹rs.map jw›,some<|.lst ob<|bs.map<|yJ ob,some<|.dT true ks l,↑(A.map vv),o6,o7,o8,o9,o10,o11,o12] =
   some (.nx [a0,a1,‹rs.map jw›,some<|.lst ob<|bs.map<|yJ ob,some<|.dT true ks l,↑((A++(Q.zip cs).flatMap (jbr d FK)).map vv),o6',o7',o8',o9',o10',o11',o12'])
 | [],cs,s,A,o6,o7,o8,o9,o10,o11,o12,_,_,_=>⟨o6,o7,o8,o9,o10,o11,o12,by rw[List.zip_nil_left,List.flatMap_nil,N1];rfl⟩
 | p::Q,[],s,A,o6,o7,o8,o9,o10,o11,o12,h,_,_=>by simp at h
 | p::Q,b::cs,s,A,o6,o7,o8,o9,o10,o11,o12,e,h,o=>by
  rw[M3] at o;obtain⟨r,u⟩:=h 0 p b rfl rfl;obtain⟨E,G,v,w,x,f⟩:=KD g m (A:=A) (λi t y=>by rw[Nat.zero_add];exact u i t y) ∅;have a:(p.told.map λt=>jdB (λk=>d [.str k,.str t.1]) p t.1 (fnOf b.W t.1) (fnOf b.S t.1)<|FK<|.str t.1)=jbr d FK (p,b):=by
   show _=(p.told.map (·.1)).map _;rw[U2];rfl
  rw[a] at f;have z:(jbr d FK (p,b)).length<=10:=by rw[<- a,L1];exact r
  obtain⟨o6',o7',o8',o9',o10',o11',o12',e2⟩:=xg g m (A:=A++jbr d FK (p,b)) ⇑e (λi q c B C=>by have:=h (i+1) q c ⇑B ⇑C;rwa [show s+(i+1)=s+1+i by lia] at this) (by rw[N5];lia);refine⟨o6',o7',o8',o9',o10',o11',o12',?_⟩;rw[L5,yB,lpE rfl ?_,e2,U8,List.flatMap_cons,List.append_assoc];have D:jd (jJ false p) (.int 1)=‹p.told.map e3›:=rfl;rw[N6] at f ⊢;simp[k8,D,km p.told,Kv p.told];exact f
def jge{N}{S:List W2}(a:∀ w∈N,Wd w)(e:S.map (·.1)=N):∀ q∈S,Wd q.1:=λq b=>a _ (by rw[<- e];exact M7.mpr ⟨q,b,rfl⟩)
theorem jgG{B}:∀{Q bs},Bks B Q bs->(∀ p∈Q,∃ X,PoolOk X p)->kz 16 (bs.map<|yJ false)=true
 | _,_,.nil,_=>rfl
 | p::_,_,.cons bk t,h=>by
  obtain⟨X,d⟩:=h p (by simp);show((kz 14 _&&(kz 14 _&&(kz 14 _&&(kz 14 _&&(true&&true)))))&&kz 16 _)=true;have c:∀ w∈p.C,Wd w:=λw a=>by obtain⟨t,b,rfl⟩:=M7.mp a;exact(d.told t b).1
  rw[Qk (jge c bk.s1) 13,Qk (jge c bk.w1) 13,Qk (jge c bk.r1) 13,Qk (jge (λw a=>by obtain⟨t,b,rfl⟩:=M7.mp a;exact(d.marks t b).1) bk.l1) 13,jgG t λq e=>h q<|by simp[e]];rfl
def jle{f}(j:DealOk f){r}(h:RdOk f r):okE 19 (jw r)=true:=by
 obtain⟨B,hb⟩:=h.b;have g:∀ w∈jez f,Ch w:=λw o=>by obtain⟨p,i,rfl⟩:=M7.mp o;obtain⟨X,a,_⟩:=j.ok p i;exact a.nm.2
 have s:=jgG hb λp i=>by obtain⟨X,a,_⟩:=j.ok p i;exact⟨X,a⟩
 have t:kz 16 (r.ln.map eR)=true:=Vm λd hd=>by
  obtain⟨q,c,rfl⟩:=M7.mp hd;have m:=h.n.mem q c;show kz 15 [.str q.1.1,.str q.1.2,.int q.2]=true;simp[kz,Jp<|g _ m.1,Jp<|g _ m.2.1]
 have u:kz 16 (r.ws.map D.int)=true:=Vm λd hd=>by obtain⟨q,c,rfl⟩:=M7.mp hd;rfl
 have v:kz 17 (r.log.map e7)=true:=Vm λd hd=>by
  obtain⟨x,a,rfl⟩:=M7.mp hd;obtain⟨q,c,y,e2,e3⟩:=h.e x a;have l:=g q.nm<|M7.mpr ⟨q,c,rfl⟩;rw[<- y] at l;show kz 16 [.str x.1,.str x.2.1,.int x.2.2.pl,.str x.2.2.kd,.str x.2.2.nm,.int x.2.2.nd,.int x.2.2.gt]=true;simp[kz,Jp l,Jp e2,Jp e3.k,Jp e3.n]
 show((kz 16 _&&(kz 16 _&&(kz 16 _&&true)))&&(kz 17 _&&true))=true;rw[s,t,u,v];rfl
def jlZ{c}(f:DealOk c){ds:List Dy}{rs}{B}{bs}(C:wW [.lst false<|c.map<|jJ false,.lst false<|ds.map Y3]=↑(rs.map jw))(Q:rs.length<=10)(x:∀ r∈rs,RdOk c r)(hb:Bks B c bs)
  (g:(rs=[]/\bs=c.map bk0)\/(rs≠[]/\∃ r,jd (.lst false<|rs.map jw) (.int<|-1)=some (jw r)/\bs=r.bs)):
  qo [.lst false<|c.map<|jJ false,.lst false<|ds.map Y3]=↑(((c.zip bs).flatMap (jbr (VL k2 (rs.flatMap (·.log))) (Yx (rs.flatMap λr=>r.bs.flatMap (·.R))))).map vv):=by
 obtain⟨n,S,l,V,E⟩:=wc x Q;have l2:=f.len2;have main:∀ ob,∃ F G H I h m o,jY (gT 2<|gC (jc [] 6)<|gC (jc [] 7) gN) k8 (yB 0<|c.map<|jJ false) [‹c.map (jJ false)›,‹ds.map Y3›,‹rs.map jw›,some<|.lst ob<|bs.map<|yJ ob,some<|.dT true S l,some<|.lst true [],none,none,none,none,none,none,none] =
   some (.nx [‹c.map (jJ false)›,‹ds.map Y3›,‹rs.map jw›,some<|.lst ob<|bs.map<|yJ ob,some<|.dT true S l,↑(((c.zip bs).flatMap (jbr (VL k2 (rs.flatMap (·.log))) (Yx (rs.flatMap λr=>r.bs.flatMap (·.R))))).map vv),F,G,H,I,h,m,o]):=λob=>by
  refine xg V Q (A:=[]) hb.len.symm (λi p b y v=>?_) (by simp;lia);obtain⟨X,J,_⟩:=f.ok p<|List.mem_of_getElem? y;refine⟨J.told2,λj t z=>?_⟩;rw[Nat.zero_add];obtain⟨b',T,bk⟩:=hb.get y;rw[v] at T;cases T;obtain⟨w,W,Y⟩:=col bk.w1 J.toldn z;obtain⟨s,K,fs⟩:=col bk.s1 J.toldn z;obtain⟨Z,m2⟩:=jbx f y z x;exact⟨v,by rw[Y];exact W,by rw[fs];exact K,m2,λk hk=>jnc f (List.mem_of_getElem? y) (M7.mpr ⟨t,List.mem_of_getElem? z,rfl⟩) hk x,Z⟩
 have L:=yY f;have M:=vP f false;have N:=J4 ds;have U:=jL _ N;have bg:=Qp f;have u:∀ r:Rh,dIx (dP<|ju Jy #[pV 0]) 0 (‹c.map (jJ false)›::r)=some (.lst true<|(c.map bk0).map (yJ true),‹c.map (jJ false)›::r):=λr=>by
  rw[jiO (l:=[.lst true<|(c.map bk0).map (yJ true),.lst true [],.lst true<|(zs c).map D.int]) (ρ1:=‹c.map (jJ false)›::r)<|by generalize c.map (jJ false)=PP at *;simp[L,M,bg,Kj c,-List.map_map];rfl];rfl
 generalize(c.zip bs).flatMap (jbr (VL k2 (rs.flatMap (·.log))) (Yx (rs.flatMap λr=>r.bs.flatMap (·.R))))=RO at main ⊢;rcases g with⟨O,P⟩ | ⟨O,r,i1,P⟩
 ·obtain⟨F,G,H,I,h,m,o,e⟩:=main true;subst O;have ne:QU (.lst false []) (.lst true [])=some (.bl false):=rfl;rw[P,List.map_nil] at e;rw[List.map_nil] at C E;generalize(c.map bk0).map (yJ true)=BB at u e;simp[qo,jx,Ve,C,L,M,N,U,u,ne,E,e,jb]
 ·obtain⟨F,G,H,I,h,m,o,e⟩:=main false;have ok:okE 20 (.lst false<|rs.map jw)=true:=Vm λd hd=>by obtain⟨q,hq,rfl⟩:=M7.mp hd;exact jle f<|x q hq
  have ne:QU (.lst false<|rs.map jw) (.lst true [])=some (.bl true):=by
   cases rs with
   | nil=>exact absurd rfl O
   | cons a rs=>
    show(bif okE 20 _&&true then some (D.bl<|!eqD _ _) else none)=_;rw[ok];rfl
  rw[P] at e;have ng:QA (.int 1)=some (.int<|-1):=rfl;have i2:jd (jw r) (.int 0)=some (Jx r.bs r.ln r.ws):=rfl;have i3:jd (Jx r.bs r.ln r.ws) (.int 0)=‹r.bs.map (yJ false)›:=rfl;simp[qo,jx,Ve,C,L,M,N,U,Yc rs,Ks rs,u,ne,ng,i1,i2,i3,JT r.bs,JW r.bs,E,e,jb]
theorem jcU{F FK}:∀{Q:List PoolS}{bs},(∀ p∈Q,p.told.length<=10)->((Q.zip bs).flatMap (jbr F FK)).length<=10*Q.length
 | [],_,_=>by simp
 | p::Q,[],_=>by simp
 | p::Q,b::bs,h=>by
  have:=jcU (F:=F) (FK:=FK) (Q:=Q) (bs:=bs) λq a=>h q (by simp[a]);have d:=h p (by simp);have c:(jbr F FK (p,b)).length=p.told.length:=by show((p.told.map (·.1)).map _).length=_;rw[L1,L1]
  rw[U8,List.flatMap_cons,N5,M3,c]
  lia
def jeV(ns:List Int)(M:ns.length<=63)(hb:∀ x∈ns,Builtin.Int.intBits x<=2 ^ 20):jaA [.lst false<|ns.map D.int]=some (.bl true):=by
 obtain⟨_,_,B,_,z,c⟩:=jiG hb;have o:=yY c;have N:=c.len2;obtain⟨Y,A,C,e⟩:=jjH hb (by rw[L1];lia) o;rw[L1] at e;have s:=J4 Y;have h:∀ y∈Y,FlowOk B.length y.1 y.2:=λy f=>by
  have q:=e y f;exact⟨q.a,q.b,λv i=>by have:=q.a0 v i;lia,λv i=>(q.b0 v i).1⟩
 obtain⟨g,K,bs,E,G,H,j,d,t⟩:=jik c h C;have u:=jlZ c E ∅ H j d;have I:=jcU (F:=VL k2 (g.flatMap (·.log))) (FK:=Yx (g.flatMap λr=>r.bs.flatMap (·.R))) (bs:=bs) λp l=>by obtain⟨X,m,_⟩:=c.ok p l;exact m.told2
 generalize(B.zip bs).flatMap (jbr (VL k2 (g.flatMap (·.log))) (Yx (g.flatMap λr=>r.bs.flatMap (·.R))))=R at t u I;have s1:jT [.lst false<|R.map vv,.lst false<|R.map vv]=some (.bl true):=xO<|J5 (yZ (n:=2) ∅ λq _=>by simp[vv,pln]) (by decide);have s2:jT [.lst false<|B.map<|jJ false,.lst false<|B.map<|jJ false]=some (.bl true):=xO<|J5 (yZ ∅ λp l=>by obtain⟨X,m,_⟩:=c.ok p l;exact jk1 m) (by decide);have J:jT [.lst false<|Y.map Y3,.lst false<|Y.map Y3]=some (.bl true):=xO<|J5 (yZ ∅ λy f=>jou (k:=10) (by decide) (by have:=(e y f).a;lia)<|by have:=(e y f).b;lia) (by decide);have w:frzs (R.map vv)=true:=yH (λ_=>rfl) _;have L:yr (R.map vv)=true:=by rw[yO,List.all_map,List.all_eq_true];intro x _;rfl
 simp[jaA,jx,jnE,vb ns,Ym ns,z,A,o,vP c false,s,jL _ s,t,u,s1,s2,J,w,jL _ w,L,jb]
end K50
set_option maxHeartbeats 0
namespace K50
open PySem L2 QD
def kinds{K:W4}{a:Addr}{n:Nat}{s:Array (Option Value)}{b c d e f g:Tok}(h:K.lookup a=some ⟨.type "tuple",none,.seq (List.toArray [.str "part" b,.str "pay" c,.str "share" d,.str "repay" e,.str "rest" f,.str "guard" g]) n,s⟩)(cl:Nat->Addr)(Z:Zn)(H:Hp):Rep ⟨K,cl⟩ Z H vD (.ref a) []:=jdX (xs:=["part","pay","share","repay","rest","guard"]) (ts:=[b,c,d,e,f,g]) (ws:=[[112,97,114,116],[112,97,121],[115,104,97,114,101],[114,101,112,97,121],[114,101,115,116],[103,117,97,114,100]]) (by decide +kernel) h rfl (by decide) cl Z H
def all_mk{l:PySem.W.OpenLaw}{w:World}{K:W4}{mg:W6}{fa a b:Addr}(hfa:mg "law" = some (.ref fa))(_:PySem.W.nsIn K mainGlobals "Fall" = some (some<|.ref a))(_:PySem.W.nsIn K mainGlobals "CLAIM_KINDS" = some (some<|.ref b))(T:Txt l.prog w K mg (λ_=>a) b):∃ fd:FuncData,(∀(s:Shared) (v:Value),BindsTo s fd ⟨[v],[]⟩ [("_law_script",v)])/\∀ base:Heap,K.In base->base.Ns mainGlobals mg->FnOk l.prog w K mg base CX0 10 fa fd ["_law_script"] (λvs H Q E=>∀ C:Addr,spP ⟨K,λ_=>C⟩ jaA 1 vs H Q E):=by
 obtain⟨f',fd',F',G'⟩:=(jlv T).2.2.2.2.2.2.2.2.2;cases hfa.symm.trans F'.mgf;obtain⟨⟨oc,od,kV,doc,pm,an,cdv,ct,osl,rfl,_,_⟩,_⟩:=F'.fn;exact⟨_,λs v=>.of_eq rfl,λbase _ _=>(G' base).imp λvs H Q E h=>h a⟩
def walk{l:PySem.W.OpenLaw}{q:Program}{loose:List Str}{XP:(Str->Option Value)->Heap->Prop}{YP:World->Heap->Prop}{d:DefRec}{K:Params->PySem.W.Frag}(hn:l.most=some 63)(hdf:d.params.defaults=[])
  (hY:∀(w:World) (h:Heap),YP w h->(K w.params).In h)
  (F:∀(w:World) (mg:W6) (fa:Addr) (h:Heap),(K w.params).In h->h.Ns mainGlobals mg->mg d.name=some (.ref fa) ->
   ∃ fd:FuncData,(∀(s:Shared) (u:Value),BindsTo s fd ⟨[u],[]⟩ [("_law_script",u)])/\∀ base:Heap,(K w.params).In base->base.Ns mainGlobals mg->FnOk l.prog w (K w.params) mg base CX0 10 fa fd ["_law_script"] (λvs H Q E=>∀ C:Addr,spP ⟨K w.params,λ_=>C⟩ jaA 1 vs H Q E)):
  PySem.W.WalkO q loose XP YP l.row.toRowW d [] (λf vs=>PySem.call f vs):=
 L2.walk_ofB (n:=63) (k:=10) (x:="_law_script") (CX:=λ_=>CX0) (sp:=λw=>(λvs H Q E=>∀ C:Addr,spP ⟨K w.params,λ_=>C⟩ jaA 1 vs H Q E)) hn (by decide) hdf ⟨rfl,by decide,by decide⟩ hY F (λ_ H a ns hl hb _ hS=>λC=>jm0 (jeV ns hl hb) hS) λ_ _ _ _ _ z=>z
end K50
namespace PySem.W.Fast
def tw7048655122758000678:=0
def tw5480316378286228004:=0
def tw767703730123473820:=0
def tw10361007311756047531:=0
def tw2472247004960222953:=0
def tw9496068893860857434:=0
def tw16774158983502739974:=0
def tw181592658111897968:=0
def tw5506996848385688380:=0
def tw1545646979832203002:=0
def tw9356243975747944103:=0
def tw10821810494064325735:=0
def tw17789393203398012814:=0
def tw5686019350250314546:=0
def tw2809418027473553627:=0
def tw4417276286605102113:=0
def tw16659559468441179140:=0
def tw18234070055594853733:=0
def tw9391375362685507243:=0
def tw9806434150495187890:=0
def tw7122783390499178012:=0
def tw13302221078246662220:=0
def tw889200561671779983:=0
def tw3290848062008406259:=0
def tw7219581955689800421:=0
def tw11336316271856831209:=0
def tw14130039011107271579:=0
def tw15262424030649340065:=0
def tw12402450983632124258:=0
def tw502885715406300111:=0
def tw17237323811264336968:=0
def tw1372634168232111750:=0
def tw13041733256981446148:=0
def tw11172913965820167488:=0
def tw2579374371456487173:=0
def tw14552284741972319118:=0
def tw10143495762951212037:=0
def tw16588752075108700142:=0
def tw12090119704161491867:=0
def tw7212870625166375112:=0
def tw12458124396108978838:=0
def tw15523748290050114899:=0
def tw13680810127775096179:=0
def tw3603105354213477768:=0
def tw12856520887910403189:=0
def tw16358357730388821838:=0
def tw8444606614840572356:=0
def tw14025807689484483277:=0
def tw6545275790397910371:=0
def tw14119348853918328009:=0
def tw3028344837323046566:=0
def tw10491673912519028992:=0
def tw18048807439833425839:=0
def tw15002490298120011115:=0
def tw2700492676867205625:=0
def tw5339057710044828770:=0
def tw5001321784763367367:=0
def tw4302574682559650538:=0
def tw10168290550078979900:=0
def tw8345636612113873023:=0
def tw2721037543373563533:=0
def tw9288056115810997694:=0
def tw8732528970859618483:=0
def tw479975714783328608:=0
def tw11845006029405993810:=0
def tw5487030864038313279:=0
def tw16991123901812029453:=0
def tw1642405280810752451:=0
def tw11327758439403869360:=0
def tw2459703924128615236:=0
def tw4733340399429638291:=0
def tw6845880658892075314:=0
def tw5577931122596738722:=0
def tw10128537950467130303:=0
def tw16678605106150031090:=0
def tw10139767867145016007:=0
def tw49661254872492120:=0
def tw16797535035587710397:=0
def tw7814534913423085706:=0
def tw17361382172729581630:=0
def tw2866107830484177301:=0
def tw9026904849057033873:=0
def tw10042199238819529665:=0
def tw5663637219013988810:=0
def tw3241270542351493287:=0
def tw13430612347884698514:=0
def tw2500990593127404801:=0
def tw3561568474156678159:=0
def tw12229349904619854235:=0
def tw17848719921067015387:=0
def tw13942476154137152717:=0
def tw9651571059945873474:=0
def tw7567453893160466103:=0
def tw7333245179061476430:=0
def tw7750416960689021488:=0
def tw8187181005172958029:=0
def tw6199038631783281128:=0
def tw14602351835334235930:=0
def tw5888232839087016771:=0
def tw16745364967839163302:=0
def tw11606220946148692949:=0
def tw5132608379598947913:=0
def tw4189820603883222141:=0
def tw18133835140575584599:=0
def tw7682062547080638038:=0
def tw6192622460049690786:=0
def tw7134222589863440987:=0
def tw9752992037509066390:=0
def tw6560020423189600707:=0
def tw4877478535092240897:=0
end PySem.W.Fast
set_option maxHeartbeats 0
open PySem PySem.W PyProof.Rows
set_option maxRecDepth 100000 in
set_option maxHeartbeats 0 in
theorem PySem.Challenge.cw_tranchefall_k50_rows_of_claims_holds : PySem.Challenge.rw_tranchefall_k50_rows_of_claims.Holds := by
 w_on;o_law;k_head;(case hw=>w_witness2)
 k_fill
 refine K50.walk (l:=PySem.Challenge.rw_tranchefall_k50_rows_of_claims) rfl rfl (λw h Y=>PySem.W.kIn_of Y) ?F
 case F =>
  intro w mg fa h KX G hmg;refine' K50.all_mk hmg ?c ?d ?t
  (case c | d=>k_is)
  case t =>
   constructor
   all_goals first
    | ((first | refine⟨QD.fsc,QD.hasF KX G (by k_is) (by k_is) (by k_is) (by k_is) ?_⟩ | refine⟨QD.fsc,QD.hasM (by k_is) (by k_is) (by k_is) (by k_is) (by k_is) ?_⟩);intro _ _ _ _ _ _;(repeat refine QD.uS λ_=>?_);exact QD.u0 rfl)
    | exact K50.kinds (by k_is) | exact PySem.W.mg_none_of KX G (by k_is) | exact PySem.W.mg_of KX G (by k_is) | exact⟨by k_is,by k_is,by k_is,by k_is⟩ | k_is | (show PySem.W.findIn _ _ _=_;k_is)
