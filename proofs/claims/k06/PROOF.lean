import PyProof.Rows.All
import Wide.All
import OpenK.AllK
import Wide.FinOn
import Lean
import PyProof.EqAt
import PyProof.EqKinds
import PyProof.TupleCall
import KE.KItemsList
import KE.KRevIter
import PyProof.CollectIter
import PyProof.DictWalks
import PyProof.WalksMore
import PyProof.SumWalkG
import KE.KSortTup
import PyProof.Draws
import KE.KTupSum
import PyProof.DictValues
import KE.KDictList
import PyProof.Rows.SortShell
import PySem.Challenge.RW_tranchefall_k06_deals_shown
set_option Elab.async false
set_option linter.all false
set_option compiler.extract_closed false
set_option genSizeOf false
noncomputable section
local macro_rules|`(↥$x)=>`(($x).heap.objs.size)|`(⇑$x)=>`(by simpa using $x)|`(∅)=>`(by lia)
section
open PySem PySem.Spec PyProof.Rows
abbrev L0:=@List.length_map
abbrev L1:=@wpAny_bind
abbrev L3:=@Option.bind_some
abbrev L4:=@List.map_cons
abbrev L5:=@List.mem_cons_of_mem
abbrev L6:=@List.mem_cons_self
abbrev L8:=@Heap.get?_push_of_some
abbrev L9:=@List.getElem?_eq_some_iff
abbrev M0:=@Bool.and_eq_true
abbrev M2:=@List.length_cons
abbrev M3:=@Bool.false_ne_true
abbrev M4:=@List.mem_cons
abbrev M5:=@List.mem_map
abbrev M7:=@wpAny_pure
abbrev M8:=@List.mem_singleton
abbrev M9:=@Nat.le_refl
abbrev N0:=@List.append_nil
abbrev N3:=@Heap.lt_size
abbrev N4:=@List.mem_append
abbrev N5:=@List.size_toArray
abbrev N6:=@List.length_append
abbrev N7:=@List.map_append
abbrev N8:=@Nat.ne_of_lt
abbrev N9:=@Nat.le_trans
abbrev U0:=@Int.toNat_natCast
abbrev U3:=@Int.emod_lt_of_pos
abbrev U7:=@Int.emod_nonneg
abbrev U8:=@List.map_map
abbrev U9:=@beq_eq_false_iff_ne
abbrev X0:=@List.mem_append_right
abbrev X3:=@Nat.lt_of_lt_of_le
abbrev X4:=@Nat.zero_le
abbrev X5:=@wpAny_field
abbrev X6:=@List.zip_cons_cons
abbrev X7:=@List.count_append
abbrev X8:=@List.nodup_append
abbrev X9:=@decide_eq_true
abbrev E1:=@decide_eq_false
abbrev E2:=@of_decide_eq_true
abbrev E3:=@Option.some.inj
abbrev E4:=@List.nil_append
abbrev E5:=@List.getElem?_eq_getElem
abbrev E6:=@List.length_take
abbrev E7:=@Heap.get?_push_size
abbrev E8:=@Nat.lt_of_le_of_lt
end
abbrev J0:=PySem.Value->PySem.Shared->Prop
abbrev J1:=List (PySem.Addr×PySem.Obj)
abbrev J2:=List (List Nat)
abbrev J4:=PySem.W.Frag
abbrev J9:=List PySem.Addr
abbrev K6:=PySem.Str->Option PySem.Value
namespace L2
inductive Ex2 {α β:Type}(P:α->β->Prop):Prop | mk:∀ x0 x1,P x0 x1->Ex2 P
inductive Ex3 {α β γ:Type}(P:α->β->γ->Prop):Prop | mk:∀ x0 x1 x2,P x0 x1 x2->Ex3 P
inductive Ex4 {α β γ δ:Type}(P:α->β->γ->δ->Prop):Prop | mk:∀ x0 x1 x2 x3,P x0 x1 x2 x3->Ex4 P
inductive An3 (a b c:Prop):Prop | mk:a->b->c->An3 a b c
inductive An4 (a b c d:Prop):Prop | mk:a->b->c->d->An4 a b c d
inductive An5 (a b c d e:Prop):Prop | mk:a->b->c->d->e->An5 a b c d e
end L2
set_option maxRecDepth 100000
namespace L2
open PySem PySem.Spec PyProof.Rows
noncomputable abbrev Key:=Sum Int Str
noncomputable def uf:Key->Value->Bool
 | .inl k,v=>Value.isInt k v
 | .inr x,v=>Value.isStrOf x v
noncomputable def jpz(w:World):Key->Int
 | .inl k=>hashInt k
 | .inr x=>hashStr w x
def yz:∀{k}{v},uf k v=true->(∃ i t,k=Sum.inl i/\v=Value.int i t)\/(∃ x t,k=Sum.inr x/\v=Value.str x t)
 | .inl i,v,h=>by
  obtain⟨t,e⟩:=Value.isInt_shape h;exact .inl ⟨i,t,rfl,e⟩
 | .inr x,v,h=>by
  obtain⟨t,e⟩:=Value.isStrOf_shape h;exact .inr ⟨x,t,rfl,e⟩
def ja4(i)(t):uf (.inl i) (.int i t)=true:=by simp[uf,Value.isInt]
def zI(x)(t):uf (.inr x) (.str x t)=true:=by simp[uf,Value.isStrOf]
def jjO(a b):decide ((Sum.inl a:Key)=Sum.inl b)=(a==b):=by
 by_cases e:a=b
 ·subst e;simp
 ·have h:¬ (Sum.inl a:Key)=Sum.inl b:=λq=>e<|Sum.inl.inj q;rw[E1 h];exact(U9.mpr e).symm
def jkx(a b):decide ((Sum.inr a:Key)=Sum.inr b)=decide (a=b):=by
 by_cases e:a=b
 ·subst e;simp
 ·have h:¬ (Sum.inr a:Key)=Sum.inr b:=λq=>e<|Sum.inr.inj q;rw[E1 h,E1 e]
def jj6(a)(b):decide ((Sum.inl a:Key)=Sum.inr b)=false:=E1 (λq=>nomatch q)
def jjd(a)(b):decide ((Sum.inr a:Key)=Sum.inl b)=false:=E1 (λq=>nomatch q)
def yj(prog)(w):PySem.KeyKind prog w Key where
 is:=uf
 hash:=jpz w
 inj:=λv a b ha hb=>by
  rcases yz ha with⟨i,t,rfl,rfl⟩ | ⟨x,t,rfl,rfl⟩
  ·rcases yz hb with⟨j,u,rfl,e⟩ | ⟨y,u,rfl,e⟩
   ·injection e with e1 _;rw[e1]
   ·exact nomatch e
  ·rcases yz hb with⟨j,u,rfl,e⟩ | ⟨y,u,rfl,e⟩
   ·exact nomatch e
   ·injection e with e1 _;rw[e1]
 byValue:=λk v h=>by
  rcases yz h with⟨i,t,rfl,rfl⟩ | ⟨x,t,rfl,rfl⟩<;>rfl
 pyHash:=λhv h=>by
  rcases yz hv with⟨i,t,rfl,rfl⟩ | ⟨x,t,rfl,rfl⟩
  ·exact wpAny_pyHash_int h
  ·exact wpAny_pyHash_str h
 eqBool:=λhu hv h=>by
  rcases yz hu with⟨i,t,rfl,rfl⟩ | ⟨x,t,rfl,rfl⟩
  ·rcases yz hv with⟨j,u,rfl,rfl⟩ | ⟨y,u,rfl,rfl⟩
   ·rw[jjO] at h;exact wpAny_eqBool_int h
   ·rw[jj6] at h;exact SeqAt.EqAt.int_str i t y u _ _ _ _ h
  ·rcases yz hv with⟨j,u,rfl,rfl⟩ | ⟨y,u,rfl,rfl⟩
   ·rw[jjd] at h;exact SeqAt.EqAt.str_int x t j u _ _ _ _ h
   ·rw[jkx] at h;exact wpAny_eqBool_str h
 «strs»:=λk x t v h=>by
  rcases yz h with⟨i,u,rfl,e⟩ | ⟨y,u,rfl,e⟩
  ·exact nomatch e
  ·injection e with e1 _;subst e1;cases v<;>rfl
def jam(prog)(w)(k)(v):(yj prog w).is k v=uf k v:=rfl
def wF(prog)(w)(i)(t):(yj prog w).is (.inl i) (.int i t)=true:=ja4 i t
def JS(prog)(w)(x)(t):(yj prog w).is (.inr x) (.str x t)=true:=zI x t
inductive V where
 | non | bl (b:Bool) | int (i:Int) | str (x:Str) | byt (b:Array UInt8) | flt (b:UInt64) | ref (a:Addr) | ty (n:String)
 deriving DecidableEq
def RelV:V->Value->Prop
 | .non,u=>u=Value.none
 | .bl b,u=>u=Value.bool b
 | .int i,u=>∃ t,u=Value.int i t
 | .str x,u=>∃ t,u=Value.str x t
 | .byt b,u=>∃ t,u=Value.bytes b t
 | .flt b,u=>∃ t,u=Value.float b t
 | .ref a,u=>u=Value.ref a
 | .ty n,u=>u=Value.type n
abbrev Vals:List V->List Value->Prop:=Paired RelV
def Vals.length(r:Vals xs us):xs.length=us.length:=Paired.length r
theorem Vals.get:∀{xs}{us}{i:Nat}{x},Vals xs us->xs[i]?=some x->∃ u,us[i]?=some u/\RelV x u
 | _,_,_,_,.nil,e=>by simp at e
 | _,_,0,_,.cons r _,e=>by simp at e;subst e;exact⟨_,rfl,r⟩
 | _,_,i+1,x,.cons _ t,e=>by
  obtain⟨u,a,b⟩:=Vals.get t ⇑e;exact⟨u,by simpa using a,b⟩
theorem Vals.set(r:RelV x u):∀{xs}{us} i,Vals xs us->Vals (xs.set i x) (us.set i u)
 | _,_,_,.nil=>.nil
 | _,_,0,.cons _ t=>.cons r t
 | _,_,i+1,.cons q t=>.cons q<|Vals.set r i t
theorem Vals.append:∀{xs ys}{us ws},Vals xs us->Vals ys ws->Vals (xs++ys) (us++ws)
 | _,_,_,_,.nil,s=>s
 | _,_,_,_,.cons r t,s=>.cons r<|Vals.append t s
theorem Vals.take:∀{xs}{us} n,Vals xs us->Vals (xs.take n) (us.take n)
 | _,_,0,_=>.nil
 | _,_,_+1,.nil=>.nil
 | _,_,n+1,.cons r t=>.cons r<|Vals.take n t
theorem Vals.drop:∀{xs}{us} n,Vals xs us->Vals (xs.drop n) (us.drop n)
 | _,_,0,r=>r
 | _,_,_+1,.nil=>.nil
 | _,_,n+1,.cons _ t=>Vals.drop n t
def RelO:Option V->Option Value->Prop
 | some v,some u=>RelV v u
 | none,none=>True
 | _,_=>False
def KV{κ}:List (κ×V)->List (κ×Value)->Prop:=Paired λp q=>p.1=q.1/\RelV p.2 q.2
noncomputable def kV:Key->V
 | .inl i=>.int i
 | .inr x=>.str x
inductive HO where
  | lst (xs:List V)
  | tup (xs:List V)
  | dK (kvs:List (Key×V)) | dT (kvs:List (List Key×V))
  | set (S:Int->Bool) (n:Nat)
  | ins (C dx:Addr) (fs:List (Str×V))
  | own (x:Addr)
  | xd (fs:List (Str×V))
  | met (f x:Addr)
  | rng (lo hi:Int)
  | frz (o:Obj) (u:HO)
  | tbl (ps:Array Value)
  | ext (φ:Heap->Prop)
noncomputable abbrev Hp:=Addr->Option HO
noncomputable def upd(H:Hp)(a:Addr)(o:HO):Hp:=λb=>if b=a then some o else H b
def jV:upd H a o a=some o:=by unfold upd;rw[if_pos rfl]
def ji(h:b≠a):upd H a o b=H b:=by unfold upd;rw[if_neg h]
def jnu{H:Hp}{a b}{o u}(h:H a=some o)(h':H b=some u)(d:o≠u):a≠b:=by
 intro e;subst e;rw[h] at h';exact d<|E3 h'
def kL{H:Hp}{a b}{o}(h:H a=some o)(h':H b=none):a≠b:=by
 intro e;subst e;rw[h] at h';cases h'
def IsTupN(h:Heap)(a:Addr)(its:Array Value):Prop:=IsTup h a its/\∃ o,h.get? a=some o/\o.dict=none
def IsTupN.new(h:Heap)(its):IsTupN (h.push {cls:=.type "tuple",data:=.seq its}) h.objs.size its:=⟨IsTup.new h its,_,E7 _ rfl,rfl⟩
def IsTupN.lt(x:IsTupN h a its):a<h.objs.size:=x.1.lt
section
variable (P:Program)(w:World)
def ObjOk(H:Hp)(h:Heap)(a:Addr):HO->Prop
 | .lst xs=>xs.length<=sizeLine/\∃ its n,Vals xs its/\h.get? a=some {cls:=.type "list",data:=.seq its.toArray n}
 | .tup xs=>xs.length<=sizeLine/\∃ its:List Value,Vals xs its/\IsTupN h a its.toArray
 | .dK kvs=>kvs.length<=sizeLine/\(a==sysModules)=false/\∃ vs,KV kvs vs/\h.DictOf (yj P w) a vs
 | .dT kvs=>kvs.length<=sizeLine/\(a==sysModules)=false/\∃ xs:List (List Key×Addr×Value),
   Paired (λp q=>p.1=q.1/\H q.2.1=some (.tup<|p.1.map kV)/\RelV p.2 q.2.2) kvs xs /\
   ∃ o es ep,h.get? a=some o/\o.ExactDict/\o.data=.dict es ep/\es.toList=xs.map (entryOfKey<|tupleKind<|yj P w)/\(xs.map (·.1)).Nodup
 | .set S n=>h.SetOf (intKind P w) a S n
 | .ins C dx fs=>H dx=some (.own a)/\fs.length<=1000/\dx≠a/\h.get? a=some (PySem.W.instObj C dx) /\
   ∃ mA,h.Ns1 dx mA/\(∀ f,RelO (fs.lookup f)<|mA f)/\PySem.Within mA (fs.map (·.1))
 | .own _=>∃ o,h.get? a=some o
 | .xd fs=>∃ mA,h.Ns1 a mA/\∀ f,RelO (fs.lookup f)<|mA f
 | .rng lo hi=>∃ t u v,h.get? a=some {cls:=.type "range",data:=.fields #[.int lo t,.int hi u,.int 1 v]}
 | .frz o u=>h.get? a=some o/\ObjOk H h a u
 | .tbl ps=>h.get? a=some {cls:=.none,data:=.fields ps}
 | .met f x=>h.get? a=some (PySem.W.methodObj (.ref f)<|.ref x)
 | .ext φ=>φ h/\(∃ o,h.get? a=some o)/\∀ h1 h2:Heap,φ h1->(∀ o,h1.get? a=some o->h2.get? a=some o)->φ h2
def HOk(H:Hp)(h:Heap):Prop:=∀ a o,H a=some o->ObjOk P w H h a o
end
section
variable {P:Program}{w:World}{H H':Hp}{h h':Heap}{a:Addr}{o:HO}
def ObjOk.lt(x:ObjOk P w H h a o):a<h.objs.size:=by
 cases o with
 | lst xs=>obtain⟨_,_,_,_,e⟩:=x;exact N3 e
 | tup xs=>obtain⟨_,_,_,p⟩:=x;exact p.lt
 | dK b=>obtain⟨_,_,_,_,o,_,_,e,_⟩:=x;exact N3 e
 | dT b=>obtain⟨_,_,_,_,o,_,_,e,_⟩:=x;exact N3 e
 | set S n=>obtain⟨o,_,_,_,e,_⟩:=x;exact N3 e
 | ins C c fs=>obtain⟨_,_,_,e,_⟩:=x;exact N3 e
 | own y=>obtain⟨_,e⟩:=x;exact N3 e
 | xd fs=>obtain⟨_,⟨_,_,_,e,_⟩,_⟩:=x;exact N3 e
 | rng d g=>obtain⟨_,_,_,e⟩:=x;exact N3 e
 | frz ob u=>obtain⟨e,_⟩:=x;exact N3 e
 | tbl i=>exact N3<|x
 | met f y=>exact N3<|x
 | ext φ=>obtain⟨_,⟨_,e⟩,_⟩:=x;exact N3 e
theorem Paired.mapP:∀{l₁}{l₂},Paired F l₁ l₂->(∀ a b,F a b->G a b)->Paired G l₁ l₂
 | _,_,.nil,_=>.nil
 | _,_,.cons r t,f=>.cons (f _ _ r)<|Paired.mapP t f
def ObjOk.stay(x:ObjOk P w H h a o)(k:∀ b u,(b=a\/H b=some (.own a))->h.get? b=some u->h'.get? b=some u)
  (B:∀ b,H b=some (.own a)->H' b=some (.own a)) (D:∀ b xs,H b=some (.tup xs)->H' b=some (.tup xs)):ObjOk P w H' h' a o:=by
 induction o with
 | lst xs=>obtain⟨z,j,n,r,e⟩:=x;exact⟨z,j,n,r,k _ _ (.inl rfl) e⟩
 | tup xs=>obtain⟨z,j,r,⟨ob,e,c⟩,l,e2,E⟩:=x;exact⟨z,j,r,⟨ob,k _ _ (.inl rfl) e,c⟩,l,k _ _ (.inl rfl) e2,E⟩
 | dK m=>obtain⟨z,y,vs,r,ob,g,i,e,c⟩:=x;exact⟨z,y,vs,r,ob,g,i,k _ _ (.inl rfl) e,c⟩
 | dT m=>
  obtain⟨z,y,xs,r,ob,g,i,e,c⟩:=x;exact⟨z,y,xs,Paired.mapP r λp q z=>⟨z.1,D _ _ z.2.1,z.2.2⟩,ob,g,i,k _ _ (.inl rfl) e,c⟩
 | set S n=>obtain⟨ob,g,i,t,e,c⟩:=x;exact⟨ob,g,i,t,k _ _ (.inl rfl) e,c⟩
 | ins C G fs=>
  obtain⟨d,z,ne,e,s,⟨od,g,i,e2,c⟩,r⟩:=x;exact⟨B _ d,z,ne,k _ _ (.inl rfl) e,s,⟨od,g,i,k _ _ (.inr d) e2,c⟩,r⟩
 | own y=>obtain⟨ob,e⟩:=x;exact⟨ob,k _ _ (.inl rfl) e⟩
 | xd fs=>obtain⟨s,⟨od,g,i,e,c⟩,r⟩:=x;exact⟨s,⟨od,g,i,k _ _ (.inl rfl) e,c⟩,r⟩
 | rng I J=>obtain⟨t,u,v,e⟩:=x;exact⟨t,u,v,k _ _ (.inl rfl) e⟩
 | frz ob u F=>obtain⟨e,q⟩:=x;exact⟨k _ _ (.inl rfl) e,F q⟩
 | tbl K=>
  have e:=x;exact k a _ (.inl rfl) e
 | met f y=>
  have e:=x;exact k a _ (.inl rfl) e
 | ext φ=>obtain⟨p,⟨o,e⟩,A⟩:=x;exact⟨A _ _ p λo q=>k _ _ (.inl rfl) q,⟨o,k _ _ (.inl rfl) e⟩,A⟩
def HOk.lt(x:HOk P w H h)(e:H a=some o):a<h.objs.size:=(x a o e).lt
def HOk.fresh(x:HOk P w H h)(e:h.objs.size<=a):H a=none:=by
 cases q:H a with
 | none=>rfl
 | some u=>exact absurd (X3 (x.lt q) e)<|Nat.lt_irrefl _
def HOk.kept(x:HOk P w H h)(k:∀ b u,h.get? b=some u->h'.get? b=some u):HOk P w H h':=λa o e=>
 (x a o e).stay (λb u _ q=>k b u q) (λ_ q=>q) λ_ _ q=>q
def HOk.laid(x:HOk P w H h)(k:∀ b u,h.get? b=some u->h'.get? b=some u)(hp:h.objs.size<=a)(new:ObjOk P w (upd H a o) h' a o):HOk P w (upd H a o) h':=λb u e=>by
 have d:=x.fresh hp;by_cases f:b=a
 ·subst f;rw[jV] at e;cases e;exact new
 ·rw[ji f] at e;exact(x b u e).stay (λc v _ q=>k c v q) (λc q=>by rw[ji<|kL q d];exact q) λc xs q=>by rw[ji<|kL q d];exact q
end
def Rd(H:Hp)(a:Addr)(u:HO):Prop:=H a=some u \/ ∃ o,H a=some (.frz o u)
def Rd.ok(r:Rd H a u)(x:HOk P w H h):ObjOk P w H h a u:=by
 rcases r with r | ⟨o,r⟩
 ·exact x a u r
 ·obtain⟨_,q⟩:=x a _ r;exact q
def Mut:Option HO->Prop
 | some (.lst _)=>True
 | some (.dK _)=>True
 | some (.dT _)=>True
 | some (.set _ _)=>True
 | some (.ins _ _ _)=>True
 | some (.ext _)=>True
 | _=>False
section
variable {P:Program}{w:World}{H:Hp}{h h':Heap}{x e:Addr}{o':HO}
def HOk.write(ok:HOk P w H h)(g:Mut<|H x)(m:e=x\/H e=some (.own x))(k:∀ b u,b≠e->h.get? b=some u->h'.get? b=some u)(l:∃ u,h'.get? e=some u)
  (new:ObjOk P w (upd H x o') h' x o'):HOk P w (upd H x o') h':=λb u q=>by
 have d:∀ c y,H c=some (.own y)->c≠x:=λc y r z=>by subst z;rw[r] at g;exact g
 have f:∀ c xs,H c=some (.tup xs)->c≠x:=λc xs r z=>by subst z;rw[r] at g;exact g
 by_cases i:b=x
 ·subst i;rw[jV] at q;cases q;exact new
 ·rw[ji i] at q;by_cases a:b=e
  ·have n:H b=some (.own x):=by
    rcases m with z | z
    ·exact absurd (a.trans z) i
    ·rw[a];exact z
   rw[q] at n;cases n;obtain⟨v,o⟩:=l;exact⟨v,by rw[a];exact o⟩
  ·refine(ok b u q).stay (λc v j r=>k c v ?_ r) (λc r=>by rw[ji<|d c b r];exact r) λc xs r=>by rw[ji<|f c xs r];exact r
   rcases j with rfl | j
   ·exact a
   ·rintro rfl;rcases m with z | z
    ·exact d c b j z
    ·rw[j] at z;cases z;exact i rfl
end
structure Un(fs ex:J9)(H H':Hp)(h h':Heap):Prop where
 keep:∀ b o,h.get? b=some o->H b=none->b∉fs->b∉ex->h'.get? b=some o
 slot:∀ b o,h.get? b=some o->H b=none->b∈fs->b∉ex->∃ sl,h'.get? b=some {o with slots:=sl}
 free:∀ b o,h.get? b=some o->H b=none->b∉ex->H' b=none
 there:∀ b o,h.get? b=some o->b∉ex->∃ o',h'.get? b=some o'
 tups:∀ b xs,H b=some (.tup xs)->H' b=some (.tup xs)
 frzs:∀ b o u,H b=some (.frz o u)->H' b=some (.frz o u)
 tbls:∀ b ps,H b=some (.tbl ps)->∃ more,H' b=some (.tbl<|ps++more)
section
variable {fs fs' ex ex':J9}{H H1 H2:Hp}{h h1 h2 h':Heap}{a x e:Addr}{o:HO}
def Un.any(u:Un fs ex H H1 h h1)  (q:h.get? b=some ob) (n:H b=none) (a:b∉ex):∃ sl,h1.get? b=some {ob with slots:=sl}:=by
 by_cases c:b∈fs
 ·exact u.slot b ob q n c a
 ·exact⟨ob.slots,u.keep b ob q n c a⟩
def Un.kept(k:∀ b u,h.get? b=some u->h'.get? b=some u):Un fs ex H H h h':=
 ⟨λb ob q _ _ _=>k b ob q,λb ob q _ _ _=>⟨ob.slots,k b ob q⟩,λ_ _ _ n _=>n,λb ob q _=>⟨ob,k b ob q⟩,λ_ _ q=>q,λ_ _ _ q=>q,λ_ a q=>⟨#[],by rw[q];simp⟩⟩
def Un.refl:Un fs ex H H h h:=Un.kept λ_ _ q=>q
def Un.laid(k:∀ b u,h.get? b=some u->h'.get? b=some u)(hp:h.objs.size<=a)(hn:H a=none):Un fs ex H (upd H a o) h h' where
 keep:=λb u q _ _ _=>k b u q
 slot:=λb u q _ _ _=>⟨u.slots,k b u q⟩
 free:=λb u q n _=>by rw[ji<|N8<|X3 (N3 q) hp];exact n
 there:=λb u q _=>⟨u,k b u q⟩
 tups:=λb xs q=>by rw[ji<|kL q hn];exact q
 frzs:=λb u xs q=>by rw[ji<|kL q hn];exact q
 tbls:=λb c q=>⟨#[],by rw[ji<|kL q hn,q];simp⟩
def Un.write(c:Mut<|H x)(j:e=x\/H e=some (.own x))(k:∀ b u,b≠e->h.get? b=some u->h'.get? b=some u)(d:∃ u,h'.get? e=some u):Un fs ex H (upd H x o) h h':=by
 have g:∀ b,H b=none->b≠x:=λb n z=>by subst z;rw[n] at c;exact c
 have i:∀ b,H b=none->b≠e:=λb n z=>by
  subst z;rcases j with r | r
  ·exact g b n r
  ·rw[n] at r;cases r
 have f:∀ b u,H b=some u->¬ Mut (some u)->b≠x:=λb u q nm z=>by subst z;rw[q] at c;exact nm c
 refine⟨λb u q n _ _=>k b u (i b n) q,λb u q n _ _=>⟨u.slots,k b u (i b n) q⟩,λb u q n _=>by rw[ji<|g b n];exact n,λb u q _=>?_,
  λb xs q=>by rw[ji<|f b _ q λz=>z];exact q,λb u xs q=>by rw[ji<|f b _ q λz=>z];exact q,λb l q=>⟨#[],by rw[ji<|f b _ q λz=>z,q];simp⟩⟩
 by_cases a:b=e
 ·subst a;exact d
 ·exact⟨u,k b u a q⟩
end
noncomputable def trk(h:Heap)(H:Hp):List Addr:=(List.range h.objs.size).filter λa=>(H a).isSome
def jft(h:Heap)(H:Hp):Heap:=PySem.W.hideAll h<|trk h H
def jc3(h)(H):(jft h H).objs.size=h.objs.size:=PySem.W.hideAll_size _ _
def jeY(e:h.get? b=some o)(n:H b=none):(jft h H).get? b=some o:=
 PySem.W.hideAll_get _ e λa=>by
  have q:=(List.mem_filter.mp a).2;rw[n] at q;simp at q
def jgP(e:(jft h H).get? b=some o):h.get? b=some o/\H b=none:=by
 have a:=PySem.W.of_hideAll (trk h H) e;refine⟨a,?_⟩;cases q:H b with
 | none=>rfl
 | some x=>
  have c:b∈trk h H:=List.mem_filter.mpr ⟨List.mem_range.mpr<|N3 a,by simp[q]⟩;have z:(jft h H).get? b=none:=PySem.W.hideAll_none (trk h H) c;rw[z] at e;cases e
noncomputable def jgc(g h:Heap)(L:Addr):List (Addr×Obj):=(List.range h.objs.size).filterMap λa=>if a=L\/(g.get? a).isSome=true then none else(h.get? a).map λo=>(a,o)
def Yu(g h:Heap)(L d:Addr):List (Addr×Obj):=(jgc g h L).filter λp=>decide<|p.1≠d
structure Mod(K:J4)(mg:K6)(base:Heap):Prop where
 kin:K.In base
 glob:base.Ns mainGlobals mg
 blt:∃ mb,base.Ns builtinsNs mb/\∀ x:Str,x≠"__name__"->mb x=bootBuiltins x
 nolimit:base.NoLimit
structure Cx where
 prog:Program
 w:World
 K:PySem.W.Frag
 mg:Str->Option Value
 base:Heap
 A:Around
 N:List Str
 s₀:Shared
 H₀:Hp
 env:Env
 outer:List Env
 stack:List Env
 ex:List Addr
 fn:Str->Bool
 calm:Bool
 pn:List (Addr×Obj)
 xe:Value->Shared->Prop
noncomputable def frs(l:List Env):List Addr:=l.filterMap (·.frame)
abbrev Cx.fs(X:Cx):List Addr:=frs X.outer
def Vis(sc:Scope)(x:Str):Prop:=sc.names.lookup x=some .local\/sc.names.lookup x=some .cell\/sc.names.lookup x=some .free
def Loc(sc:Scope)(x:Str):Prop:=sc.names.lookup x=some .local\/sc.names.lookup x=some .cell
def jo8(env:Env)(h:Heap)(m:K6)(x:Str)(u:Value):Prop:=
 (env.kindOf x=some .local/\m x=some u)\/((env.kindOf x=some .cell\/env.kindOf x=some .free)/\∃ c,env.cells.lookup x=some c/\h.IsCell c (some u))
structure Cx.Ok(X:Cx):Prop where
 mod:Mod X.K X.mg X.base
 kind:X.env.scope.kind=.function
 glob:X.env.globals=mainGlobals
 blt:X.env.builtins=builtinsNs
 above:X.s₀.heap.objs.size<=X.env.locals
 inj:∀ x y c,X.env.cells.lookup x=some c->X.env.cells.lookup y=some c->x=y
 has:∀ x,(X.env.kindOf x=some .cell\/X.env.kindOf x=some .free)->∃ c,X.env.cells.lookup x=some c
 cab:∀ x c,X.fn x=true->X.env.cells.lookup x=some c->X.s₀.heap.objs.size<=c
 hd:X.calm=true->X.A.handled=none
 frames:X.A.frames=some X.stack
 stk:X.stack=X.outer\/(X.stack=X.env::X.outer/\X.env.frame=some X.env.locals)
 exf:∀ b∈X.ex,b≠X.env.locals/\∀ x c,X.env.cells.lookup x=some c->c≠b
 bs:∀ b o,X.base.get? b=some o->X.s₀.heap.get? b=some o/\X.H₀ b=none
 bsz:X.base.objs.size<=X.s₀.heap.objs.size
 noex:∀ b o,X.base.get? b=some o->b∉X.ex
 exfs:∀ b∈X.ex,b∉X.fs
 funs:X.s₀.heap.FunFrames X.base X.outer
 frf:∀ b∈X.fs,X.H₀ b=none
structure Inv(X:Cx)(pins:J1)(σ:List<|Option V)(H:Hp)(s:Shared):Prop where
 ok:X.Ok
 os:s.os=X.s₀.os
 bare:AllBare s.gens
 base:Un X.fs X.ex X.H₀ H X.s₀.heap s.heap
 loc:∃ m,s.heap.Ns X.env.locals m/\∀(i:Nat) (x:Str) (v:V),X.N[i]?=some x->σ[i]?=some (some v)->Vis X.env.scope x->∃ u,RelV v u/\jo8 X.env s.heap m x u
 cell:∀ x c,X.env.cells.lookup x=some c->∃ v,s.heap.IsCell c v
 free:H X.env.locals=none
 freeC:∀ x c,X.env.cells.lookup x=some c->H c=none
 pin:∀ p∈X.pn++pins,s.heap.get? p.1=some p.2/\H p.1=none/\p.1≠X.env.locals/\p.1∉X.fs/\∀ v,p.2.data≠.cell v
 hok:HOk X.prog X.w H s.heap
 len:σ.length=X.N.length
section
variable {X:Cx}{pins:List (Addr×Obj)}{σ:List (Option V)}{H H':Hp}{s:Shared}{h':Heap}
def Cx.Ok.nofr(ok:X.Ok)  {o}(e:X.base.get? b=some o):b∉X.fs:=λa=>by
 have:=(ok.funs.mem a).1;rw[e] at this;cases this
def Inv.bs(I:Inv X pins σ H s):∀ b o,X.base.get? b=some o->s.heap.get? b=some o/\H b=none:=λb o e=>
 ⟨I.base.keep b o (I.ok.bs b o e).1 (I.ok.bs b o e).2 (I.ok.nofr e) (I.ok.noex b o e),I.base.free b o (I.ok.bs b o e).1 (I.ok.bs b o e).2 (I.ok.noex b o e)⟩
def Inv.bk(I:Inv X pins σ H s):∀ b o,X.base.get? b=some o->s.heap.get? b=some o:=λb o e=>(I.bs b o e).1
def Inv.mod(I:Inv X pins σ H s):Mod X.K X.mg X.base:=I.ok.mod
def Inv.kIn(I:Inv X pins σ H s):X.K.In s.heap:=I.ok.mod.kin.keeps I.bk
def Inv.lt(I:Inv X pins σ H s):X.env.locals < ↥s:=let ⟨_,hn,_⟩:=I.loc;hn.lt
def Inv.sz(I:Inv X pins σ H s):X.s₀.heap.objs.size<=↥s:=N9 I.ok.above<|Nat.le_of_lt I.lt
def Inv.nofs(I:Inv X pins σ H s)  (h:↥s<=a):a∉X.fs:=λb=>by
 obtain⟨_,o,c,_⟩:=I.ok.funs.mem b;exact absurd (X3 (N3 c)<|N9 I.sz h)<|Nat.lt_irrefl _
def Inv.cne(I:Inv X pins σ H s):∀ x c,X.env.cells.lookup x=some c->c≠X.env.locals:=λx c e z=>by
 obtain⟨v,o,d,hd⟩:=I.cell x c e;obtain⟨m,⟨f,g,h,a,b,_⟩,_⟩:=I.loc;rw[z,a] at d;cases d;rw[b] at hd;cases hd
def Inv.funs(I:Inv X pins σ H s):s.heap.FunFrames X.base X.outer:=by
 have all:∀ l,(∀ b∈frs l,b∈X.fs)->X.s₀.heap.FunFrames X.base l->s.heap.FunFrames X.base l:=by
  intro l
  induction l with
  | nil=>intro _ _;trivial
  | cons env r g=>
   intro f h;obtain⟨i,⟨L,o,a,j,k,hd⟩,m⟩:=h;have c:=f L (by unfold frs;rw[List.filterMap_cons,a];exact L6);obtain⟨n,e⟩:=I.base.slot L o k (I.ok.frf L c) c λz=>I.ok.exfs L z c;exact⟨i,⟨L,_,a,j,e,hd⟩,g (λb d=>f b<|by unfold frs;rw[List.filterMap_cons,a];exact L5 _ d) m⟩
 exact all X.outer (λ_ d=>d) I.ok.funs
def Inv.stack(I:Inv X pins σ H s):s.heap.FunFrames X.base X.stack:=by
 rcases I.ok.stk with e | ⟨e,a⟩
 ·rw[e];exact I.funs
 ·rw[e];obtain⟨m,b,_⟩:=I.loc;refine .cons (by rw[I.ok.kind];decide) a b ?_ I.funs;exact Heap.get?_none_of_le<|N9 I.ok.bsz I.ok.above
def Inv.stkSub(I:Inv X pins σ H s):∀ b∈frs X.stack,b∈X.env.locals::X.fs:=λb a=>by
 rcases I.ok.stk with e | ⟨e,c⟩
 ·rw[e] at a;exact L5 _ a
 ·rw[e] at a;unfold frs at a;rw[List.filterMap_cons,c] at a;exact a
def Inv.stkFree(I:Inv X pins σ H s):∀ b∈frs X.stack,H b=none:=λb a=>by
 rcases M4.mp (I.stkSub b a) with e | a
 ·rw[e];exact I.free
 ·obtain⟨_,o,c,_⟩:=I.ok.funs.mem a;exact I.base.free b o c (I.ok.frf b a) λz=>I.ok.exfs b z a
def Inv.step{D}{t'}{ch:J9}(I:Inv X pins σ H s)
  (f:∀ b∈ch,(b∈X.ex\/X.s₀.heap.objs.size<=b)/\b≠X.env.locals/\(∀ x c,X.env.cells.lookup x=some c->c≠b)/\∀ p∈X.pn++pins,p.1≠b)
  (keep:∀ b o,b≠X.env.locals->b∉X.fs->b∉ch->s.heap.get? b=some o->H b=none->h'.get? b=some o)
  (slot:∀ b o,b≠X.env.locals->b∈X.fs->b∉ch->s.heap.get? b=some o->H b=none->∃ sl,h'.get? b=some {o with slots:=sl}) (free:∀ b o,b∉ch->s.heap.get? b=some o->H b=none->H' b=none)
  (there:∀ b o,b∉ch->s.heap.get? b=some o->∃ o',h'.get? b=some o')
  (tups:∀ b xs,H b=some (.tup xs)->H' b=some (.tup xs)) (frzs:∀ b o u,H b=some (.frz o u)->H' b=some (.frz o u)) (tbls:∀ b ps,H b=some (.tbl ps)->∃ more,H' b=some (.tbl<|ps++more))
  (ns:∀ m,s.heap.Ns X.env.locals m->h'.Ns X.env.locals m) (hok:HOk X.prog X.w H' h') (J:AllBare D):
  Inv X pins σ H' {s with heap:=h',gens:=D,drawn:=d',toks:=t'}:=by
 have B:∀ b o,X.s₀.heap.get? b=some o->b≠X.env.locals:=λb o e=>N8<|X3 (N3 e) I.ok.above;have j:∀ b o,X.s₀.heap.get? b=some o->b∉X.ex->b∉ch:=λb o e a y=>by
  rcases(f b y).1 with z | z
  ·exact a z
  ·exact absurd (X3 (N3 e) z)<|Nat.lt_irrefl _
 have g:∀ x c,X.env.cells.lookup x=some c->∀ v,s.heap.IsCell c v->h'.IsCell c v:=λx c e v ⟨o,A,hd⟩=>by
  have h:=λz=>(f c z).2.2.1 x c e rfl;by_cases E:c∈X.fs
  ·obtain⟨sl,q⟩:=slot c o (I.cne x c e) E h A<|I.freeC x c e;exact⟨_,q,hd⟩
  ·exact⟨o,keep c o (I.cne x c e) E h A<|I.freeC x c e,hd⟩
 refine⟨I.ok,I.os,J,⟨λb o e n y a=>(keep b o (B b o e) y (j b o e a) (I.base.keep b o e n y a)<|I.base.free b o e n a),λb o e n y a=>?_,λb o e n a=>?_,λb o e a=>?_,λb xs e=>tups b xs<|I.base.tups b xs e,λb o xs e=>frzs b o xs<|I.base.frzs b o xs e,λb ps e=>?_⟩,?_,λx c e=>?_,?_,λx c e=>?_,λp F=>?_,hok,I.len⟩
 ·obtain⟨sl,t⟩:=I.base.slot b o e n y a;obtain⟨C,e2⟩:=slot b _ (B b o e) y (j b o e a) t<|I.base.free b o e n a;exact⟨C,e2⟩
 ·obtain⟨o',t⟩:=I.base.there b o e a;exact free b o' (j b o e a) t<|I.base.free b o e n a
 ·obtain⟨o',t⟩:=I.base.there b o e a;exact there b o' (j b o e a) t
 ·obtain⟨K,t⟩:=I.base.tbls b ps e;obtain⟨L,e2⟩:=tbls b _ t;exact⟨K++L,by rw[e2,Array.append_assoc]⟩
 ·obtain⟨m,M,N⟩:=I.loc;refine⟨m,ns m M,λi x v t e2 e3=>?_⟩;obtain⟨u,r,l⟩:=N i x v t e2 e3;refine⟨u,r,?_⟩;rcases l with l | ⟨k,c,e,z⟩
  ·exact .inl l
  ·exact .inr ⟨k,c,e,g x c e _ z⟩
 ·obtain⟨v,z⟩:=I.cell x c e;exact⟨v,g x c e v z⟩
 ·obtain⟨m,⟨o,_,_,A,_⟩,_⟩:=I.loc;exact free _ o (λz=>(f _ z).2.1 rfl) A I.free
 ·obtain⟨v,o,A,hd⟩:=I.cell x c e;exact free c o (λz=>(f c z).2.2.1 x c e rfl) A<|I.freeC x c e
 ·obtain⟨e,n,ne,G,d⟩:=I.pin p F;have h:=λz=>(f p.1 z).2.2.2 p F rfl;exact⟨keep p.1 p.2 ne G h e n,free p.1 p.2 h e n,ne,G,d⟩
def Inv.un{t'}(I:Inv X pins σ H s)(u:Un X.fs [] H H' s.heap h')(hok:HOk X.prog X.w H' h'):Inv X pins σ H' {s with heap:=h',toks:=t'}:=by
 obtain⟨m,⟨o,k,l,g,r⟩,_⟩:=id I.loc;obtain⟨p,h⟩:=u.any g I.free (by simp);exact I.step (ch:=[]) (λ_ z=>nomatch z) (λb o _ c _ e n=>u.keep b o e n c<|by simp) (λb o _ c _ e n=>u.slot b o e n c<|by simp) (λb o _ e n=>u.free b o e n<|by simp) (λb o _ e=>u.there b o e<|by simp) u.tups u.frzs u.tbls (λq i=>by
  obtain⟨t,d,f,a,j⟩:=i;rw[g] at a;cases a;exact⟨_,d,f,h,j⟩) hok I.bare
def Inv.call{j}{t'}{ch}(I:Inv X pins σ H s)(u:Un (frs X.stack) ch H H' s.heap h')(hok:HOk X.prog X.w H' h')(l:AllBare j)
  (d:∀ b∈ch,(b∈X.ex\/X.s₀.heap.objs.size<=b)/\b≠X.env.locals/\(∀ x c,X.env.cells.lookup x=some c->c≠b)/\∀ p∈X.pn++pins,p.1≠b):
  Inv X pins σ H' {s with heap:=h',gens:=j,drawn:=d',toks:=t'}:=by
 obtain⟨m,⟨o,y,A,k,r⟩,_⟩:=id I.loc;obtain⟨B,g⟩:=u.any k I.free λz=>(d _ z).2.1 rfl;exact I.step d (λb o g q a e n=>u.keep b o e n (λz=>(M4.mp<|I.stkSub b z).elim g q) a) (λb o _ _ a e n=>u.any e n a) (λb o a e n=>u.free b o e n a) (λb o a e=>u.there b o e a) u.tups u.frzs u.tbls (λC t=>by
  obtain⟨D,h,i,f,v⟩:=t;rw[k] at f;cases f;exact⟨_,h,i,g,v⟩) hok l
def Inv.turned{t'}(I:Inv X pins σ H s)(k:∀ b o,b≠it->s.heap.get? b=some o->h'.get? b=some o)(hn:H it=none)(f:it≠X.env.locals)
  (h1:it∈X.ex\/X.s₀.heap.objs.size<=it) (h2:∀ x c,X.env.cells.lookup x=some c->c≠it) (g:∀ p∈X.pn++pins,p.1≠it):Inv X pins σ H {s with heap:=h',toks:=t'}:=by
 have d:∀ b u,H b=some u->b≠it:=λb u e z=>by rw[z,hn] at e;cases e
 refine I.step (ch:=[it]) (λb h=>?_) (λb o _ _ a e _=>k b o (λz=>a<|by simp[z]) e) (λb o _ _ a e _=>⟨o.slots,k b o (λz=>a<|by simp[z]) e⟩) (λ_ _ _ _ n=>n)
  (λb o a e=>⟨o,k b o (λz=>a<|by simp[z]) e⟩) (λ_ _ e=>e) (λ_ _ _ e=>e) (λb w e=>⟨#[],by rw[e];simp⟩) (λm i=>?_) (λb u e=>?_) I.bare
 ·have e:b=it:=by simpa using h
  subst e;exact⟨h1,f,h2,g⟩
 ·obtain⟨o,j,l,t,r⟩:=i;exact⟨o,j,l,k _ o (Ne.symm f) t,r⟩
 ·refine(I.hok b u e).stay (λc v a q=>k c v ?_ q) (λ_ q=>q) λ_ _ q=>q;rcases a with z | z
  ·rw[z];exact d b u e
  ·exact d c _ z
def Inv.tok(I:Inv X pins σ H s)(t):Inv X pins σ H {s with toks:=t}:=I.un Un.refl I.hok
def Inv.kept(I:Inv X pins σ H s)(k:∀ b u,s.heap.get? b=some u->h'.get? b=some u):Inv X pins σ H {s with heap:=h',toks:=t'}:=I.un (Un.kept k)<|I.hok.kept k
def Inv.laid(I:Inv X pins σ H s)(k:∀ b u,s.heap.get? b=some u->h'.get? b=some u)(hp:↥s<=a)(new:ObjOk X.prog X.w (upd H a o) h' a o):
  Inv X pins σ (upd H a o) {s with heap:=h',toks:=t'}:=I.un (Un.laid k hp<|I.hok.fresh hp)<|I.hok.laid k hp new
def Inv.write(I:Inv X pins σ H s)(c:Mut<|H x)(d:e=x\/H e=some (.own x))(k:∀ b u,b≠e->s.heap.get? b=some u->h'.get? b=some u)(a:∃ u,h'.get? e=some u)
  (new:ObjOk X.prog X.w (upd H x o) h' x o):Inv X pins σ (upd H x o) {s with heap:=h',toks:=t'}:=I.un (Un.write c d k a)<|I.hok.write c d k a new
def Inv.pins_of(I:Inv X pins σ H s)(h:∀ p∈pins',s.heap.get? p.1=some p.2/\H p.1=none/\p.1≠X.env.locals/\p.1∉X.fs/\∀ v,p.2.data≠.cell v):Inv X pins' σ H s:=
 ⟨I.ok,I.os,I.bare,I.base,I.loc,I.cell,I.free,I.freeC,λp a=>(N4.mp a).elim (λz=>I.pin p<|List.mem_append_left _ z) (h p),I.hok,I.len⟩
def um{N:List Str}(c:N.Nodup){i j:Nat}(a:N[i]?=some x)(b:N[j]?=some x):i=j:=by
 obtain⟨e,d⟩:=L9.mp a;obtain⟨f,e2⟩:=L9.mp b;exact(List.getElem_inj c).mp (d.trans e2.symm)
def jcz(I:Inv X pins σ H s)(hN:X.N.Nodup)(hi:X.N[i]?=some x)(B:Loc X.env.scope x)(r:RelV v u)
  (h:∀ s',Inv X pins (σ.set i<|some v) H s'->(∃ a,Heap.SameBut a s.heap s'.heap/\(a=X.env.locals\/X.env.cells.lookup x=some a))->Q () s') (hf:X.fn x=true\/X.env.scope.names.lookup x=some .local:=by first | exact .inl rfl | exact .inr rfl | assumption):wpAny M A (storeName X.env x u) Q E s:=by
 obtain⟨m,W,hl⟩:=id I.loc;have L:(X.env.scope.kind==.class||(X.env.scope.kind==.module&&X.env.locals != X.env.globals))=false:=by rw[I.ok.kind];rfl
 have O:i<σ.length:=by rw[I.len];exact(L9.mp hi).1
 have cne:=I.cne;have g:∀{a}{K},(∃ o,s.heap.get? a=some o/\H a=none)->Heap.SameBut a s.heap K->HOk X.prog X.w H K:=λ{a K} ha f b ob e=>by
  obtain⟨_,_,C⟩:=ha;refine(I.hok b ob e).stay (λc U t q=>(f.2 c ?_).trans q) (λ_ q=>q) λ_ _ q=>q;rintro rfl;rcases t with rfl | t
  ·rw[C] at e;cases e
  ·rw[C] at t;cases t
 rcases B with D | D
 ·refine wpAny_storeName_local D W (λK Y f=>?_) L;obtain⟨oL,_,_,Z,_⟩:=id W;refine h _ ⟨I.ok,I.os,I.bare,⟨λb o e n F B=>((f.2 b<|N8<|X3 (N3 e) I.ok.above).trans (I.base.keep b o e n F B)),λb o e n F B=>?_,I.base.free,λb o e B=>?_,I.base.tups,I.base.frzs,I.base.tbls⟩,⟨_,Y,λj y v' l e2 e3=>?_⟩,λy c e=>?_,I.free,I.freeC,λp hp=>?_,g ⟨oL,Z,I.free⟩ f,by simpa using I.len⟩ ⟨_,f,.inl rfl⟩
  ·obtain⟨sl,l⟩:=I.base.slot b o e n F B;exact⟨sl,(f.2 b<|N8<|X3 (N3 e) I.ok.above).trans l⟩
  ·obtain⟨o',l⟩:=I.base.there b o e B;exact⟨o',(f.2 b<|N8<|X3 (N3 e) I.ok.above).trans l⟩
  ·by_cases G:j=i
   ·subst G;rw[hi] at l;cases l;rw[List.getElem?_set_self O] at e2;cases e2;exact⟨u,r,.inl ⟨D,by simp⟩⟩
   ·rw[List.getElem?_set_ne<|Ne.symm G] at e2;obtain⟨u',r',q⟩:=hl j y v' l e2 e3;refine⟨u',r',?_⟩;rcases q with⟨k,e⟩ | ⟨k,c,e,z⟩
    ·refine .inl ⟨k,?_⟩;have:y≠x:=λe=>G<|um hN l<|e▸hi;simp[this,e]
    ·exact .inr ⟨k,c,e,z.sameBut f<|cne y c e⟩
  ·obtain⟨U,z⟩:=I.cell y c e;exact⟨U,z.sameBut f<|cne y c e⟩
  ·obtain⟨e,n,ne,nf,d⟩:=I.pin p hp;exact⟨(f.2 p.1 ne).trans e,n,ne,nf,d⟩
 ·have J:X.fn x=true:=by
   rcases hf with z | z
   ·exact z
   ·rw[z] at D;cases D
  obtain⟨c,t⟩:=I.ok.has x<|.inl D;obtain⟨U,z⟩:=I.cell x c t;refine wpAny_storeName_cell I.ok.kind D t z<|λK P f=>?_;obtain⟨oc,R,S⟩:=id z;refine h {s with heap:=K} ⟨I.ok,I.os,I.bare,⟨λb o e n F B=>((f.2 b<|N8<|X3 (N3 e)<|I.ok.cab x c J t).trans (I.base.keep b o e n F B)),λb o e n F B=>?_,I.base.free,λb o e B=>?_,I.base.tups,I.base.frzs,I.base.tbls⟩,⟨m,W.sameBut f<|Ne.symm<|cne x c t,λj y v' l e2 e3=>?_⟩,λy V e=>?_,I.free,I.freeC,λp hp=>?_,g ⟨oc,R,I.freeC x c t⟩ f,by simpa using I.len⟩ ⟨c,f,.inr t⟩
  ·obtain⟨sl,l⟩:=I.base.slot b o e n F B;exact⟨sl,(f.2 b<|N8<|X3 (N3 e)<|I.ok.cab x c J t).trans l⟩
  ·obtain⟨o',l⟩:=I.base.there b o e B;exact⟨o',(f.2 b<|N8<|X3 (N3 e)<|I.ok.cab x c J t).trans l⟩
  ·by_cases G:j=i
   ·subst G;rw[hi] at l;cases l;rw[List.getElem?_set_self O] at e2;cases e2;exact⟨u,r,.inr ⟨.inl D,c,t,P⟩⟩
   ·rw[List.getElem?_set_ne<|Ne.symm G] at e2;obtain⟨u',r',q⟩:=hl j y v' l e2 e3;refine⟨u',r',?_⟩;rcases q with q | ⟨k,V,e,z'⟩
    ·exact .inl q
    ·refine .inr ⟨k,V,e,z'.sameBut f ?_⟩;rintro rfl;exact G<|um hN l<|I.ok.inj _ _ _ e t▸hi
  ·by_cases T:V=c
   ·subst T;exact⟨_,P⟩
   ·obtain⟨w2,z2⟩:=I.cell y V e;exact⟨w2,z2.sameBut f T⟩
  ·obtain⟨e,n,ne,nf,d⟩:=I.pin p hp;refine⟨(f.2 p.1 ?_).trans e,n,ne,nf,d⟩;intro q;rw[q,R] at e;exact d U (by rw[<- (E3 e)];exact S)
def Qp(I:Inv X pins σ H s)(a:X.N.Nodup)(hi:X.N[i]?=some x)(b:Loc X.env.scope x)(r:RelV v u)
  (h:∀ s',Inv X pins (σ.set i<|some v) H s'->Q () s') (c:X.fn x=true\/X.env.scope.names.lookup x=some .local:=by first | exact .inl rfl | exact .inr rfl | assumption):wpAny M A (storeName X.env x u) Q E s:=
 jcz I a hi b r (λs' d _=>h s' d) c
end
abbrev XK:=Value->Option Addr->Hp->Prop
noncomputable abbrev St:=List<|Option V
abbrev VK:=V->Hp->Prop
abbrev TE:=St->Hp->VK->Prop
abbrev TT:=St->Hp->(Bool->Hp->Prop)->Prop
abbrev TA:=St->Hp->(List V->Hp->Prop)->Prop
structure Ends where
 nx:St->Hp->Prop
 rt:VK
 bk:St->Hp->Prop:=λ_ _=>False
 ct:St->Hp->Prop:=λ_ _=>False
abbrev TS:=Ends->St->Hp->Prop
def EP(X:Cx)(pins:J1)(σ:St)(Q:VK)(u:Value)(s':Shared):Prop:=∃ v H',Inv X pins σ H' s'/\RelV v u/\Q v H'
def TP(X:Cx)(pins:J1)(σ:St)(Q:Bool->Hp->Prop)(b:Bool)(s':Shared):Prop:=∃ H',Inv X pins σ H' s'/\Q b H'
def AP(X:Cx)(pins:J1)(σ:St)(Q:List V->Hp->Prop)(us:List Value)(s':Shared):Prop:=∃ vs H',Inv X pins σ H' s'/\Vals vs us/\Q vs H'
def SP(X:Cx)(pins:J1)(D:Ends)(f:Flow)(s':Shared):Prop:=
 match f with
 | .next=>∃ σ' H',Inv X pins σ' H' s'/\D.nx σ' H'
 | .brk=>∃ σ' H',Inv X pins σ' H' s'/\D.bk σ' H'
 | .cont=>∃ σ' H',Inv X pins σ' H' s'/\D.ct σ' H'
 | .ret u=>∃ v σ' H',Inv X pins σ' H' s'/\RelV v u/\D.rt v H'
def PE(X:Cx)(e:Expr)(t:TE):Prop:=
 ∀ pins s (σ:St) H Q,Inv X pins σ H s->t σ H Q->wpAny (model X.prog X.w) X.A (eval e X.env) (EP X pins σ Q) X.xe s
def PT(X:Cx)(e:Expr)(t:TT):Prop:=
 ∀ pins s (σ:St) H (Q:Bool->Hp->Prop),Inv X pins σ H s->t σ H Q->wpAny (model X.prog X.w) X.A (isTrue e X.env<|eval e X.env) (TP X pins σ Q) X.xe s
def PW(X:Cx)(e:Expr)(t:TT):Prop:=
 ∀ whole pins s (σ:St) H (Q:Bool->Hp->Prop),Inv X pins σ H s->t σ H Q->wpAny (model X.prog X.w) X.A (isTrue e X.env whole) (TP X pins σ Q) X.xe s
def PW.pt(h:PW X e t):PT X e t:=h _
def PA(X:Cx)(es:List Expr)(t:TA):Prop:=
 ∀ pos pins s (σ:St) H (Q:List V->Hp->Prop),Inv X pins σ H s->t σ H Q->wpAny (model X.prog X.w) X.A (spliced<|backTo pos<|starEach es X.env) (AP X pins σ Q) X.xe s
def PS(X:Cx)(st:Stmt)(t:TS):Prop:=
 ∀ pins s (σ:St) H D,Inv X pins σ H s->t D σ H->wpAny (model X.prog X.w) X.A (exec st X.env) (SP X pins D) X.xe s
def PSs(X:Cx)(st:List Stmt)(t:TS):Prop:=
 ∀ pins s (σ:St) H D,Inv X pins σ H s->t D σ H->wpAny (model X.prog X.w) X.A (execs st X.env) (SP X pins D) X.xe s
def thn(h:wpAny M A t Q E s)(b:∀ a s,Q a s->Q' a s):wpAny M A t Q' E s:=wpAny_mono h b λ_ _ x=>x
section
variable {X:Cx}
def Jt(i:Nat):TE:=λσ H Q=>∃ v,σ[i]?=some (some v)/\Q v H
def tC(v:V):TE:=λ_ H Q=>Q v H
abbrev Nd(x:Str):Prop:=(x==("__debug__" : Str))=false
def jfH(j:X.N[i]?=some x)(k:Vis X.env.scope x)(hd:Nd x:=by decide)(f:(x==("__classdict__" : Str))=false:=by decide):PE X (.Name x pos) (Jt i):=by
 intro d s σ H Q I h;obtain⟨v,e,h⟩:=h;obtain⟨m,n,o⟩:=I.loc;obtain⟨u,r,l⟩:=o i x v j e k;have fin:EP X d σ Q u s:=⟨v,H,I,r,h⟩;rcases l with⟨b,p⟩ | ⟨b,c,g,a⟩
 ·exact wpAny_Name (wpAny_loadName_local I.ok.kind b n p fin) hd
 ·rcases b with b | b
  ·exact wpAny_Name (wpAny_loadName_cell I.ok.kind b g a fin) hd
  ·exact wpAny_Name (wpAny_loadName_free I.ok.kind b g a fin f) hd
def jfV{i j pos}:PE X (.Constant (.int i) j pos) (tC<|.int i):=λ_ _ _ H _ I h=>wpAny_Constant_int ⟨.int i,H,I.tok _,⟨_,rfl⟩,h⟩
def jne{b j pos}:PE X (.Constant (.bool b) j pos) (tC<|.bl b):=λ_ _ _ H _ I h=>Constant_bool ⟨.bl b,H,I,rfl,h⟩
def jk8{j pos}:PE X (.Constant .none j pos) (tC .non):=λ_ _ _ H _ I h=>Constant_none ⟨.non,H,I,rfl,h⟩
def jjp{x j pos}:PE X (.Constant (.str x) j pos) (tC<|.str x):=λ_ _ _ H _ I h=>Calls.Constant_str ⟨.str x,H,I.tok _,⟨_,rfl⟩,h⟩
def Gl(X:Cx)(x:Str):Prop:=X.env.kindOf x=some .globalImplicit
def qP(I:Inv X pins σ H s)(a:Gl X x)(b:X.mg x=some u)(h:Q u s)
  (hd:Nd x:=by decide):wpAny (model X.prog X.w) X.A (eval (.Name x pos) X.env) Q E s:=
 Calls.Name_function_global I.ok.kind a (Calls.loadGlobal_global (by rw[I.ok.glob];exact I.mod.glob.keeps I.bk) b h) hd
def YQ(I:Inv X pins σ H s)(a:Gl X x)(b:X.mg x=none)(c:bootBuiltins x=some u)(h:Q u s)
  (hn:x≠"__name__":=by decide) (hd:Nd x:=by decide):wpAny (model X.prog X.w) X.A (eval (.Name x pos) X.env) Q E s:=by
 obtain⟨f,d,e⟩:=I.mod.blt;exact Calls.Name_function_global I.ok.kind a (Calls.loadGlobal_builtin (by rw[I.ok.glob];exact I.mod.glob.keeps I.bk) b (by rw[I.ok.blt];exact d.keeps I.bk) ((e x hn).trans c) h) hd
def wA(a:Gl X x)(b:X.mg x=some u)(r:RelV v u)(hd:Nd x:=by decide):PE X (.Name x pos) (tC v):=
 λ_ _ _ H _ I h=>qP I a b ⟨v,H,I,r,h⟩ hd
def jgT(a:Gl X x)(b:X.mg x=none)(c:bootBuiltins x=some u)(r:RelV v u)(hn:x≠"__name__":=by decide)(hd:Nd x:=by decide):PE X (.Name x pos) (tC v):=
 λ_ _ _ H _ I h=>YQ I a b c ⟨v,H,I,r,h⟩ hn hd
variable {a b:Expr}{ta tb:TE}{pos:Pos}
def PC(X:Cx)(op:CmpOp)(a b:Expr)(t:TE):Prop:=
 ∀ pins s (σ:St) H Q,Inv X pins σ H s->t σ H Q ->
  wpAny (model X.prog X.w) X.A (eval a X.env) (λv s₁=>wpAny (model X.prog X.w) X.A (eval b X.env) (λu s₂=>wpAny (model X.prog X.w) X.A (compareOp op v u) (EP X pins σ Q) X.xe s₂) X.xe s₁) X.xe s
def u6(b)  (h:op≠.In) (h2:op≠.NotIn):behindInMarks op b=false:=by
 have a:(op==CmpOp.In)=false:=by cases op<;>first | rfl | exact absurd rfl h
 have e2:(op==CmpOp.NotIn)=false:=by cases op<;>first | rfl | exact absurd rfl h2
 cases b<;>simp[behindInMarks,a,e2]
def tB(t:TE):TT:=λσ H Q=>t σ H λx H1=>∃ c,x=.bl c/\Q c H1
def jlv(h:PC X op a b t)(h1:behindInMarks op b=false:=by first | exact u6 _ (by decide) (by decide) | rfl):PE X (.Compare a [op] [b] pos) t:=λc s σ H Q I d=>wpAny_Compare1 (h c s σ H Q I d) h1
def jkj(h:PC X op a b t)(h1:behindInMarks op b=false:=by first | exact u6 _ (by decide) (by decide) | rfl):PT X (.Compare a [op] [b] pos) (tB t):=by
 intro e s σ H Q I f;refine wpAny_isTrue_Compare1 (thn (h e s σ H _ I f) λv n h1=>thn h1 λu o g=>thn g λc p i=>?_) h1;obtain⟨x,j,k,l,m⟩:=i;obtain⟨d,rfl,q⟩:=m;cases l;exact wpAny_truthy_bool ⟨j,k,q⟩
def jkA(h:PE X e t)(b:∀ whole,isTrue e X.env whole=(do let v <- whole;standAt e.pos;holding [v] (truthy v)):=by intro _;rfl):PT X e (tB t):=by
 intro a s σ H Q I c;refine isTrue_plain (thn (h a s σ H _ I c) λv k ⟨x,f,g,i,j⟩=>?_)<|b _;obtain⟨d,rfl,q⟩:=j;cases i;exact wpAny_truthy_bool ⟨f,g,q⟩
variable {tA tB':TT}{Yu:List Expr}
def jmo(t u:TT):TT:=λσ H Q=>t σ H λc H1=>if c=true then u σ H1 Q else Q false H1
def tOr(t u:TT):TT:=λσ H Q=>t σ H λc H1=>if c=true then Q true H1 else u σ H1 Q
def jnD(t:TT):TT:=λσ H Q=>t σ H λc H1=>Q (!c) H1
def jh5(d:PT X a tA):PW X (.BoolOp .And [a] pos) tA:=by
 intro f b s σ H Q I h;refine isTrue_and<|thn (d b s σ H Q I h) λc g e=>?_;cases c with
 | true=>exact isTrue_and_nil e
 | false=>exact e
def jfm(d:PT X a tA):PW X (.BoolOp .Or [a] pos) tA:=by
 intro f b s σ H Q I h;refine isTrue_or<|thn (d b s σ H Q I h) λc g e=>?_;cases c with
 | false=>exact isTrue_or_nil e
 | true=>exact e
def jiS(i:PT X a tA)(j:PW X (.BoolOp .And (b::Yu) pos) tB'):PW X (.BoolOp .And (a::b::Yu) pos) (jmo tA tB'):=by
 intro k d s σ H Q I h;refine isTrue_and<|thn (i d s σ H _ I h) λc l ⟨e,f,g⟩=>?_;cases c with
 | true=>exact j k d l σ e Q f g
 | false=>exact⟨e,f,g⟩
def jjE(i:PT X a tA)(j:PW X (.BoolOp .Or (b::Yu) pos) tB'):PW X (.BoolOp .Or (a::b::Yu) pos) (tOr tA tB'):=by
 intro k d s σ H Q I h;refine isTrue_or<|thn (i d s σ H _ I h) λc l ⟨e,f,g⟩=>?_;cases c with
 | true=>exact⟨e,f,g⟩
 | false=>exact j k d l σ e Q f g
def jle(d:PT X a tA):PT X (.UnaryOp .Not a pos) (jnD tA):=by
 intro b s σ H Q I h;exact isTrue_not<|d b s σ H (λc e=>Q (!c) e) I h
def jfW(ta tb:TE):TE:=λσ H Q=>ta σ H λx H1=>∃ c,x=.bl c/\if c=true then tb σ H1 Q else Q (.bl false) H1
def jm1(ta tb:TE):TE:=λσ H Q=>ta σ H λx H1=>∃ c,x=.bl c/\if c=true then Q (.bl true) H1 else tb σ H1 Q
def jgJ(ta:TE):TE:=λσ H Q=>ta σ H λx H1=>∃ c,x=.bl c/\Q (.bl<|!c) H1
def jiV{c}(h:PE X a t):PE X (.BoolOp c [a] pos) t:=λb s σ H Q I d=>BoolOp_one<|h b s σ H Q I d
def ji1(i:PE X a ta)(j:PE X (.BoolOp .And (b::Yu) pos) tb):PE X (.BoolOp .And (a::b::Yu) pos) (jfW ta tb):=by
 intro d s σ H Q I h;refine BoolOp_and<|thn (i d s σ H _ I h) λv k l=>?_;obtain⟨x,f,g,m,e⟩:=l;obtain⟨c,rfl,e⟩:=e;cases m;refine wpAny_truthy_bool ?_;cases c with
 | true=>exact j d k σ f Q g e
 | false=>exact⟨.bl false,f,g,rfl,e⟩
def jng(i:PE X a ta)(j:PE X (.BoolOp .Or (b::Yu) pos) tb):PE X (.BoolOp .Or (a::b::Yu) pos) (jm1 ta tb):=by
 intro d s σ H Q I h;refine BoolOp_or<|thn (i d s σ H _ I h) λv k l=>?_;obtain⟨x,f,g,m,e⟩:=l;obtain⟨c,rfl,e⟩:=e;cases m;refine wpAny_truthy_bool ?_;cases c with
 | false=>exact j d k σ f Q g e
 | true=>exact⟨.bl true,f,g,rfl,e⟩
def jkH(e:PE X a ta):PE X (.UnaryOp .Not a pos) (jgJ ta):=by
 intro b s σ H Q I h;refine UnaryOp_<|thn (e b s σ H _ I h) λv k f=>?_;obtain⟨x,g,i,j,d⟩:=f;obtain⟨c,rfl,d⟩:=d;cases j;exact not_of<|wpAny_truthy_bool ⟨.bl<|!c,g,i,rfl,d⟩
def tIf(t:TT)(ta tb:TE):TE:=λσ H Q=>t σ H λc H1=>if c=true then ta σ H1 Q else tb σ H1 Q
def jeo(k:PT X c tA)(l:PE X a ta)(m:PE X b tb):PE X (.IfExp c a b pos) (tIf tA ta tb):=by
 intro e s σ H Q I h;refine wpAny_IfExp<|thn (k e s σ H _ I h) λd f ⟨g,i,j⟩=>?_;cases d with
 | true=>exact l e f σ g Q i j
 | false=>exact m e f σ g Q i j
end
def SqL(K:J4)(H:Hp)(a:Addr)(xs:List V):Prop:=
 Rd H a (.lst xs) \/
  ∃ o its n,K.lookup a=some o/\o.cls=.type "list"/\o.dict=none/\o.data=.seq its n/\its.size<=sizeLine/\Vals xs its.toList
def SqT(K:J4)(H:Hp)(a:Addr)(xs:List V):Prop:=
 Rd H a (.tup xs) \/
  ∃ o its n,K.lookup a=some o/\o.cls=.type "tuple"/\o.data=.seq its n/\its.size<=sizeLine/\Vals xs its.toList
noncomputable def joV:Value->Option V
 | .none=>some .non
 | .bool b=>some<|.bl b
 | .int i _=>some<|.int i
 | .str x _=>some<|.str x
 | .bytes b _=>some<|.byt b
 | .float b _=>some<|.flt b
 | .ref a=>some<|.ref a
 | .type n=>some<|.ty n
 | _=>none
def RelV.abs(r:RelV x u):joV u=some x:=by
 cases x with
 | non=>cases r;rfl
 | bl _=>cases r;rfl
 | int _=>obtain⟨t,rfl⟩:=r;rfl
 | str _=>obtain⟨t,rfl⟩:=r;rfl
 | byt _=>obtain⟨t,rfl⟩:=r;rfl
 | flt _=>obtain⟨t,rfl⟩:=r;rfl
 | ref _=>cases r;rfl
 | ty _=>cases r;rfl
def RelV.inj(r:RelV x u)(q:RelV y u):x=y:=E3<|r.abs.symm.trans q.abs
theorem Vals.inj:∀{xs ys}{us},Vals xs us->Vals ys us->xs=ys
 | _,_,_,.nil,.nil=>rfl
 | _,_,_,.cons r t,.cons a b=>by rw[r.inj a,Vals.inj t b]
section
variable {X:Cx}{pins:List (Addr×Obj)}{σ:St}{H:Hp}{s:Shared}{a:Addr}{xs ys:List V}
def SqL.of{K}(h:H a=some (.lst xs)):SqL K H a xs:=.inl<|.inl h
def Inv.list(I:Inv X pins σ H s)(h:SqL X.K H a xs):∃(its:List Value),An3 (Vals xs its) (PlainL s.heap a its.toArray) (xs.length<=sizeLine):=by
 rcases h with h | ⟨o,its,n,b,c,hd,d,f,r⟩
 ·obtain⟨z,its,n,r,e⟩:=h.ok I.hok;exact⟨its,r,⟨_,n,e,rfl,rfl,rfl⟩,z⟩
 ·refine⟨its.toList,r,⟨o,n,I.kIn a o b,c,hd,by simpa using d⟩,?_⟩;have e:=r.length;simp only[Array.length_toList] at e
  lia
def Inv.tuple(I:Inv X pins σ H s)(h:SqT X.K H a xs):∃(its:List Value),An3 (Vals xs its) (IsTup s.heap a its.toArray) (xs.length<=sizeLine):=by
 rcases h with h | ⟨o,its,n,b,c,d,f,r⟩
 ·obtain⟨z,its,r,p⟩:=h.ok I.hok;exact⟨its,r,p.1,z⟩
 ·refine⟨its.toList,r,⟨o,I.kIn a o b,c,n,by simpa using d⟩,?_⟩;have e:=r.length;simp only[Array.length_toList] at e
  lia
def Inv.list_inj(I:Inv X pins σ H s)(h:SqL X.K H a xs)(h':SqL X.K H a ys):xs=ys:=by
 obtain⟨c,r,⟨o,n,e,_,_,d⟩,_⟩:=I.list h;obtain⟨b,i,⟨j,k,f,_,_,g⟩,_⟩:=I.list h';rw[e] at f;cases f;rw[d] at g;injection g with d1 _;have:c=b:=by simpa using congrArg Array.toList d1
 subst this;exact r.inj i
def Inv.tuple_inj(I:Inv X pins σ H s)(h:SqT X.K H a xs)(h':SqT X.K H a ys):xs=ys:=by
 obtain⟨c,r,⟨o,e,_,n,d⟩,_⟩:=I.tuple h;obtain⟨b,i,⟨j,f,_,k,g⟩,_⟩:=I.tuple h';rw[e] at f;cases f;rw[d] at g;injection g with d1 _;have:c=b:=by simpa using congrArg Array.toList d1
 subst this;exact r.inj i
end
noncomputable abbrev Cx.wish(X:Cx)(E:J0):Cx:={X with xe:=E}
noncomputable abbrev Cx.nox(X:Cx):Cx:=X.wish λ_ _=>False
def Cx.Ok.wish{X:Cx}(ok:X.Ok)(E):(X.wish E).Ok:=
 ⟨ok.mod,ok.kind,ok.glob,ok.blt,ok.above,ok.inj,ok.has,ok.cab,ok.hd,ok.frames,ok.stk,ok.exf,ok.bs,ok.bsz,ok.noex,ok.exfs,ok.funs,ok.frf⟩
def Cx.Ok.unwish{X:Cx}{E}(ok:(X.wish E).Ok):X.Ok:=
 ⟨ok.mod,ok.kind,ok.glob,ok.blt,ok.above,ok.inj,ok.has,ok.cab,ok.hd,ok.frames,ok.stk,ok.exf,ok.bs,ok.bsz,ok.noex,ok.exfs,ok.funs,ok.frf⟩
section
variable {X:Cx}{pins:List (Addr×Obj)}{σ:St}{H:Hp}{s:Shared}{E:J0}
def Inv.wish(I:Inv X pins σ H s)(E):Inv (X.wish E) pins σ H s:=⟨I.ok.wish E,I.os,I.bare,I.base,I.loc,I.cell,I.free,I.freeC,I.pin,I.hok,I.len⟩
def Inv.unwish(I:Inv (X.wish E) pins σ H s):Inv X pins σ H s:=⟨I.ok.unwish,I.os,I.bare,I.base,I.loc,I.cell,I.free,I.freeC,I.pin,I.hok,I.len⟩
def SP.unwish(h:SP (X.wish E) pins D f s'):SP X pins D f s':=by
 cases f with
 | next=>obtain⟨a,b,I,q⟩:=h;exact⟨a,b,I.unwish,q⟩
 | brk=>obtain⟨a,b,I,q⟩:=h;exact⟨a,b,I.unwish,q⟩
 | cont=>obtain⟨a,b,I,q⟩:=h;exact⟨a,b,I.unwish,q⟩
 | ret u=>obtain⟨v,a,b,I,r,q⟩:=h;exact⟨v,a,b,I.unwish,r,q⟩
def PSs.nox{st}{t}(h:PSs X.nox st t):PSs X st t:=λa s σ H D I b=>
 wpAny_mono (h a s σ H D (I.wish _) b) (λ_ _ q=>q.unwish) λ_ _ z=>False.elim z
end
section
variable {X:Cx}{st:Stmt}{Yu:List Stmt}{t u:TS}{e:Expr}{te:TE}{pos:Pos}
def jhX:TS:=λD σ H=>D.nx σ H
def jjr(t u:TS):TS:=λD σ H=>t {D with nx:=u D} σ H
def jg5:PSs X [] jhX:=λ_ _ σ H _ I h=>wpAny_execs_nil ⟨σ,H,I,h⟩
def jaa(h1:PS X st t)(h2:PSs X Yu u):PSs X (st::Yu) (jjr t u):=by
 intro a s σ H D I h;refine wpAny_execs_cons<|thn (h1 a s σ H {D with nx:=u D} I h) λf b q=>?_;cases f with
 | next=>
  obtain⟨c,d,e,q⟩:=q;exact h2 a b c d D e q
 | ret v=>exact q
 | brk=>exact q
 | cont=>exact q
def jbq(h1:PS X st t):PSs X [st] t:=by
 intro a s σ H D I h;refine wpAny_execs_cons<|thn (h1 a s σ H D I h) λf b q=>?_;cases f with
 | next=>exact wpAny_execs_nil q
 | ret v=>exact q
 | brk=>exact q
 | cont=>exact q
def Inv.quiet(I:Inv X pins σ H s):interactive X.env=false:=by simp[interactive,I.ok.kind]
def qL(te:TE):TS:=λD σ H=>te σ H λ_ H1=>D.nx σ H1
def JX(b:PE X e te)(c:swapsWith e none pos.line X.env=pure false:=by rfl):PS X (.Expr e pos) (qL te):=by
 intro a s σ H D I h;exact wpAny_Expr_any (thn (b a s σ H _ I h) λv i ⟨x,d,f,j,g⟩=>⟨σ,d,f,g⟩) I.quiet c
def jkf(te:TE):TS:=λD σ H=>te σ H D.rt
def jfu(b:PE X e te):PS X (.Return (some e) pos) (jkf te):=by
 intro a s σ H D I h;exact wpAny_Return_some<|thn (b a s σ H _ I h) λv i ⟨x,c,d,f,g⟩=>⟨x,σ,c,d,f,g⟩
def jg6:TS:=λD _ H=>D.rt .non H
def jgk:PS X (.Return none pos) jg6:=λ_ _ σ H _ I h=>wpAny_Return_none ⟨.non,σ,H,I,rfl,h⟩
def jl2(c:TT)(t u:TS):TS:=λD σ H=>c σ H λb H1=>if b=true then t D σ H1 else u D σ H1
def jlB(k:PT X c tc)(l:PSs X a t)(m:PSs X b u):PS X (.If c a b pos) (jl2 tc t u):=by
 intro e s σ H D I h;refine wpAny_If<|thn (k e s σ H _ I h) λd f ⟨g,i,j⟩=>?_;cases d with
 | true=>exact l e f σ g D i j
 | false=>exact m e f σ g D i j
def jc4:TS:=λ_ _ _=>False
def jdx:PS X st jc4:=λ_ _ _ _ _ _ h=>h.elim
end
abbrev TG:=V->St->Hp->(St->Hp->Prop)->Prop
abbrev TGs:=List V->St->Hp->(St->Hp->Prop)->Prop
def PG(X:Cx)(target:Expr)(t:TG):Prop:=
 ∀ pins s (σ:St) H v u (Q:St->Hp->Prop),Inv X pins σ H s->RelV v u->t v σ H Q ->
  wpAny (model X.prog X.w) X.A (assign target X.env u) (λ_ s'=>∃ σ' H',Inv X pins σ' H' s'/\Q σ' H') X.xe s
def PGs(X:Cx)(ts:List Expr)(t:TGs):Prop:=
 ∀ pins s (σ:St) H vs us (Q:St->Hp->Prop),Inv X pins σ H s->Vals vs us->t vs σ H Q ->
  wpAny (model X.prog X.w) X.A (assignInOrder ((assignEach ts X.env).map (·.2)) us) (λ_ s'=>∃ σ' H',Inv X pins σ' H' s'/\Q σ' H') X.xe s
abbrev jow:=V->V->V->Hp->(Hp->Prop)->Prop
def joE(X:Cx)(t:jow):Prop:=
 ∀ pins s (σ:St) H o i v ov iv u Q,Inv X pins σ H s->RelV o ov->RelV i iv->RelV v u->t o i v H Q ->
  wpAny (model X.prog X.w) X.A (setItem ov iv u) (λ_ s'=>∃ H',Inv X pins σ H' s'/\Q H') X.xe s
abbrev TIp:=V->V->Hp->VK->Prop
def PIp(X:Cx)(op:Operator)(t:TIp):Prop:=
 ∀ pins s (σ:St) H x y v u Q,Inv X pins σ H s->RelV x v->RelV y u->t x y H Q ->
  wpAny (model X.prog X.w) X.A (inplaceOp op v u) (EP X pins σ Q) X.xe s
section
variable {X:Cx}{pos:Pos}
def Va(i:Nat):TG:=λv σ H Q=>Q (σ.set i<|some v) H
def jc6(b:X.N.Nodup)(hi:X.N[i]?=some x)(c:Loc X.env.scope x)(d:X.fn x=true\/X.env.scope.names.lookup x=some .local:=by first | exact .inl rfl | exact .inr rfl | assumption):PG X (.Name x pos) (Va i):=by
 intro a s σ H v u Q I r h;exact wpAny_assign_Name<|Qp I b hi c r (λf e=>⟨_,H,e,h⟩) d
def jmL:TGs:=λvs σ H Q=>vs=[]/\Q σ H
def jhq(t:TG)(u:TGs):TGs:=λvs σ H Q=>∃ v r,vs=v::r/\t v σ H λσ' H'=>u r σ' H' Q
def jh6:PGs X [] jmL:=by
 intro a s σ H vs b Q I r h;obtain⟨e,h⟩:=h;subst e;cases r;exact assignInOrder_nil ⟨σ,H,I,h⟩
def je1(h1:PG X e t)(h2:PGs X es u)
  (b:(assignEach (e::es) X.env).map (·.2)=assign e X.env::(assignEach es X.env).map (·.2):=by rfl):PGs X (e::es) (jhq t u):=by
 intro a s σ H vs m Q I r h;obtain⟨v,n,c,h⟩:=h;subst c;cases r with
 | cons r d=>
  rw[b];refine assignInOrder_cons<|thn (h1 a s σ H _ _ _ I r h) λ_ f g=>?_;obtain⟨i,j,k,l⟩:=g;exact h2 a f i j _ _ Q k d l
def jnC(K:J4)(n:Nat)(t:TGs):TG:=λv σ H Q=>∃ a xs,v=.ref a/\SqT K H a xs/\xs.length=n/\t xs σ H Q
def jjW(i:X.calm=true)(h:PGs X es t)
  (hn:(assignEach es X.env).length=n:=by rfl) (d:(assignEach es X.env).findIdx? (·.1)=none:=by rfl):PG X (.Tuple es k pos) (jnC X.K n t):=by
 intro c s σ H v u Q I r f;obtain⟨a,xs,j,l,m,f⟩:=f;subst j;cases r;obtain⟨p,g,q,z⟩:=I.tuple l;refine assign_Tuple_tuple (I.ok.hd i) q (by simp[hn,<- m,g.length]) d λw x=>?_;have y:Inv X c σ H {s with heap:=w}:=I.kept λb o e=>x b o (N8<|N3 e) e;exact h c _ σ H xs _ Q y ⇑g f
def jmK(to ti:TE)(t:jow):TG:=λv σ H Q=>to σ H λo H1=>ti σ H1 λi H2=>t o i v H2 λH3=>Q σ H3
def jjX(c:PE X o to)(hi:PE X i ti)(d:joE X t)
  (B:∀ v,assign (.Subscript o i pos) X.env v=(do
   let ov <- holding [v] (eval o X.env)
   let iv <- holding [v,ov] (eval i X.env)
   standAt pos
   holding [v,ov,iv] (setItem ov iv v)
   release [v,ov,iv] []):=by intro _;rfl):PG X (.Subscript o i pos) (jmK to ti t):=by
 intro a s σ H v u Q I r h;refine L1<|wpAny_holding<|thn (c a s σ H _ I h) λov e b=>?_;obtain⟨x,f,g,j,k⟩:=b;refine L1<|wpAny_holding<|thn (hi a e σ f _ g k) λiv l b=>?_;obtain⟨y,m,n,p,q⟩:=b;exact L1<|wpAny_standAt<|L1<|wpAny_holding<|thn (d a l σ m x y v ov iv u _ n j p r q) λ_ C ⟨w,z,A⟩=>(wpAny_release ⟨σ,w,z,A⟩)
def jdn(te:TE)(g:TG):TS:=λD σ H=>te σ H λx H1=>g x σ H1 D.nx
def jkZ(b:PE X e te)(c:PG X tg g)(d:swapsWithSole [tg] e pos.line X.env=pure false:=by rfl)(f:swappedStores [tg] e X.env=pure none:=by rfl)
  (h1:(assignEach [tg] X.env).map (·.2)=[assign tg X.env]:=by rfl):PS X (.Assign [tg] e pos) (jdn te g):=by
 intro a s σ H D I h;refine wpAny_Assign_stores (thn (b a s σ H _ I h) λv i j=>?_) d f;obtain⟨x,k,l,m,n⟩:=j;rw[h1];exact thn (c a i σ k x v _ l m n) λ_ o q=>q
def jfl(b:X.N.Nodup)(hi:X.N[i]?=some x)(c:Loc X.env.scope x)(d:PE X e te)(f:swapsWith e (some<|.Name x pos') pos.line X.env=pure false:=by rfl)(g:X.fn x=true\/X.env.scope.names.lookup x=some .local:=by first | exact .inl rfl | exact .inr rfl | assumption):
  PS X (.Assign [.Name x pos'] e pos) (jdn te<|Va i):=by
 intro a s σ H D I h;refine wpAny_Assign_Name (thn (d a s σ H _ I h) λv p j=>?_) f;obtain⟨y,k,l,m,n⟩:=j;exact Qp l b hi c m (λq o=>⟨_,k,o,n⟩) g
def ipI(f:Int->Int->Int):TIp:=λx y H Q=>∃ i j,x=.int i/\y=.int j/\Q (.int<|f i j) H
def jkO:PIp X .Add (ipI λi j=>i+j):=by
 intro a s σ H x y v u Q I b c h;obtain⟨i,j,d,e2,q⟩:=h;subst d;subst e2;obtain⟨t,rfl⟩:=b;obtain⟨e,rfl⟩:=c;exact iadd_int ⟨.int _,H,I.tok _,⟨_,rfl⟩,q⟩
def jls:PIp X .Sub (ipI λi j=>i-j):=by
 intro a s σ H x y v u Q I b c h;obtain⟨i,j,d,e2,q⟩:=h;subst d;subst e2;obtain⟨t,rfl⟩:=b;obtain⟨e,rfl⟩:=c;exact isub_int ⟨.int _,H,I.tok _,⟨_,rfl⟩,q⟩
end
structure It where
 go:Nat->Hp->Prop
 yld:Nat->Hp->V->Hp->Prop
 stop:Nat->Hp->Prop
def jas(X:Cx)(pins:J1)(H:Hp)(b:Addr):Prop:=
 H b=none/\b≠X.env.locals/\b∉X.fs/\(b∈X.ex\/X.s₀.heap.objs.size<=b)/\(∀ x c,X.env.cells.lookup x=some c->c≠b)/\∀ p∈X.pn++pins,p.1≠b
def Inv.fpOk(I:Inv X pins σ H s)(a:↥s<=b)(hn:H' b=none):jas X pins H' b:=by
 refine⟨hn,Nat.ne_of_gt<|X3 I.lt a,I.nofs a,.inr<|N9 I.sz a,λx c e z=>?_,λp d z=>?_⟩
 ·obtain⟨v,q⟩:=I.cell x c e;exact absurd (X3 q.lt<|by rw[z];exact a)<|Nat.lt_irrefl _
 ·exact absurd (X3 (N3 (I.pin p d).1)<|by rw[z];exact a)<|Nat.lt_irrefl _
structure Turn(P:Program)(w:World)(K:J4)(tg:Expr)(J:It)(fp:J9)(it:Addr)(tn:Nat->Heap->Prop):Prop where
 mem:it∈fp
 obj:∀ i h,tn i h->∀ b∈fp,∃ o,h.get? b=some o/\∀ v,o.data≠.cell v
 keep:∀ i h h',tn i h->(∀ b∈fp,∀ o,h.get? b=some o->h'.get? b=some o)->tn i h'
 item:∀(X:Cx),X.prog=P->X.w=w->X.K=K->X.calm=true->∀(i:Nat) (pins:J1) (s:Shared) (σ:St) (H:Hp) (E:J0),Inv X pins σ H s->(∀ b∈fp,jas X pins H b)->tn i s.heap->J.go i H ->
  wpAny (model P w) X.A (pyNext<|.ref it) (λr s1=>∃ u,r=some u /\
   wpAny (model P w) X.A (letOwnedTupleGo tg (.ref it) u) (λ_ s2=>∃ x H',Inv X pins σ H' s2/\RelV x u/\J.yld i H x H'/\tn (i+1) s2.heap/\∀ b∈fp,H' b=none) E s1) E s
 done:∀(X:Cx),X.prog=P->X.w=w->X.K=K->X.calm=true->∀(i:Nat) (pins:J1) (s:Shared) (σ:St) (H:Hp) (E:J0),Inv X pins σ H s->(∀ b∈fp,jas X pins H b)->tn i s.heap->J.stop i H ->
  wpAny (model P w) X.A (pyNext<|.ref it) (λr s1=>r=none/\Inv X pins σ H s1) E s
 self:∀(A:Around) (i:Nat) (s:Shared) (Q:J0) (E:J0),tn i s.heap->Q (.ref it) s->wpAny (model P w) A (pyIter<|.ref it) Q E s
abbrev TI:=St->Hp->(It->Hp->Prop)->Prop
def PIE(X:Cx)(pins:J1)(σ:St)(tg:Expr)(R:It->Hp->Prop)(itv:Value)(s2:Shared):Prop:=
 ∃(it:Addr) (fp:J9) (tn:Nat->Heap->Prop) (J:It) (H':Hp),itv=.ref it/\Inv X pins σ H' s2/\Turn X.prog X.w X.K tg J fp it tn/\tn 0 s2.heap/\(∀ b∈fp,jas X pins H' b)/\R J H'
def PI(X:Cx)(tg iter:Expr)(wi:TI):Prop:=
 ∀ pins s (σ:St) H (R:It->Hp->Prop),Inv X pins σ H s->wi σ H R ->
  wpAny (model X.prog X.w) X.A (eval iter X.env) (λv s1=>wpAny (model X.prog X.w) X.A (pyIter v) (PIE X pins σ tg R) X.xe s1) X.xe s
def jdN(b:s.heap.get? it=some o)(c:o.cls=.type n)(hd:o.data=.fields vs)
  (hn:["enumerate","zip","dict_itemiterator","dict_reverseitemiterator","odict_iterator","itertools.zip_longest","itertools.pairwise"].contains n=false) (a:Q () s):wpAny M A (letOwnedTupleGo tg (.ref it) u) Q E s:=by
 cases tg<;>first
  | exact M7 a
  | (cases u<;>first
    | exact M7 a
    | (refine L1 (wpAny_load b ?_)
       rw[c,hd];show wpAny M A (if(["enumerate","zip","dict_itemiterator","dict_reverseitemiterator","odict_iterator","itertools.zip_longest","itertools.pairwise"].contains n&&vs[0]?==some (rawInt _))=true then _ else _) Q E s;rw[if_neg<|by intro h;rw[hn,Bool.false_and] at h;cases h];exact M7 a))
noncomputable def Itl(K:J4)(a:Addr):It:=
 ⟨λi H=>∃ xs x,SqL K H a xs/\xs[i]?=some x,λi H x H'=>H'=H/\∀ xs,SqL K H a xs->xs[i]?=some x,λi H=>∃ xs,SqL K H a xs/\xs.length<=i⟩
noncomputable def Itt(K:J4)(a:Addr):It:=
 ⟨λi H=>∃ xs x,SqT K H a xs/\xs[i]?=some x,λi H x H'=>H'=H/\∀ xs,SqT K H a xs->xs[i]?=some x,λi H=>∃ xs,SqT K H a xs/\xs.length<=i⟩
noncomputable def Itr(lo:Int)(n:Nat):It:=⟨λi _=>i<n,λi H x H'=>H'=H/\x=.int (lo+i),λi _=>n<=i⟩
def jbQ{P}{w}{K}{tg}(a j):Turn P w K tg (Itl K a) [j] j (λi h=>h.IsListIter j a i) where
 mem:=by simp
 obj:=λi h f b l=>by
  have e:b=j:=by simpa using l
  subst e;obtain⟨o,e,c,d⟩:=f;exact⟨o,e,λv z=>by rw[d] at z;cases z⟩
 keep:=λi h r f k=>f.at (k j<|by simp)
 item:=by
  intro X t y A O i g s σ H E I n f B;subst t y A;obtain⟨xs,x,q,C⟩:=B;obtain⟨D,F,p,Q⟩:=I.list q;obtain⟨u,R,S⟩:=F.get C;obtain⟨G,J,T,L,M,N⟩:=n j (by simp);refine wpAny_pyNext_list_item f p.isList ⇑R λr m U=>?_;have V:Inv X g σ H {s with heap:=r}:=I.turned (λb o l e=>(U.2 b l).trans e) G J L M N;obtain⟨o,e,c,d⟩:=id m;exact⟨u,rfl,jdN e c d (by decide) ⟨x,H,V,S,⟨rfl,λZ W=>by rw[I.list_inj W q];exact C⟩,m,λb l=>(n b l).1⟩⟩
 done:=by
  intro X t y A O i g s σ H E I n f B;subst t y A;obtain⟨xs,q,C⟩:=B;obtain⟨D,F,p,Q⟩:=I.list q;obtain⟨G,J,T,L,M,N⟩:=n j (by simp);have hl:=F.length;exact wpAny_pyNext_list_end (I.ok.hd O) f p.isList (by simp;lia) λr Y=>⟨rfl,I.turned (Y) G J L M N⟩
 self:=λ_ _ _ _ _ f h=>wpAny_pyIter_listiter f h
def jaV{P}{w}{K}{tg}(a j):Turn P w K tg (Itt K a) [j] j (λi h=>h.IsTupleIter j a i) where
 mem:=by simp
 obj:=λi h f b l=>by
  have e:b=j:=by simpa using l
  subst e;obtain⟨o,e,c,d⟩:=f;exact⟨o,e,λv z=>by rw[d] at z;cases z⟩
 keep:=λi h r f k=>f.at (k j<|by simp)
 item:=by
  intro X t y A O i g s σ H E I n f B;subst t y A;obtain⟨xs,x,q,C⟩:=B;obtain⟨D,F,p,Q⟩:=I.tuple q;obtain⟨u,R,S⟩:=F.get C;obtain⟨G,J,T,L,M,N⟩:=n j (by simp);refine wpAny_pyNext_tuple_item f (p) ⇑R λr m U=>?_;have V:Inv X g σ H {s with heap:=r}:=I.turned (λb o l e=>(U.2 b l).trans e) G J L M N;obtain⟨o,e,c,d⟩:=id m;exact⟨u,rfl,jdN e c d (by decide) ⟨x,H,V,S,⟨rfl,λZ W=>by rw[I.tuple_inj W q];exact C⟩,m,λb l=>(n b l).1⟩⟩
 done:=by
  intro X t y A O i g s σ H E I n f B;subst t y A;obtain⟨xs,q,C⟩:=B;obtain⟨D,F,p,Q⟩:=I.tuple q;obtain⟨G,J,T,L,M,N⟩:=n j (by simp);have hl:=F.length;exact wpAny_pyNext_tuple_end (I.ok.hd O) f (p) (by simp;lia) λr Y=>⟨rfl,I.turned (Y) G J L M N⟩
 self:=λ_ _ _ _ _ f h=>wpAny_pyIter_tupleiter f h
def jaO{P}{w}{K}{tg}(c)(lo)(n):Turn P w K tg (Itr lo n) [c] c (λi h=>IsRangeIter h c (lo+(i:Nat)*1) ((n:Int)-(i:Nat)) 1) where
 mem:=by simp
 obj:=λi h a b f=>by
  have e:b=c:=by simpa using f
  subst e;exact⟨_,a,λv z=>by
   cases z⟩
 keep:=λi h l a k=>k c (by simp) _ a
 item:=by
  intro X A B C m i d s σ H E I j a p;subst A B C;obtain⟨q,r,D,u,x,y⟩:=j c (by simp);refine(Walks.range (prog:=X.prog) (w:=X.w) (I.ok.hd m) c lo 1 n).item i s _ _ p a λv l F G g J=>?_;obtain⟨t,rfl⟩:=G;have L:Inv X d σ H {s with heap:=l,toks:=F}:=I.turned (λb o f e=>J b o ⇑f e) q r u x y;refine⟨_,rfl,jdN g rfl rfl (by decide) ⟨.int<|lo+i,H,L,⟨t,?_⟩,⟨rfl,rfl⟩,g,λb f=>(j b f).1⟩⟩;rw[Int.mul_one]
 done:=by
  intro X A B C m i d s σ H E I j a p;obtain⟨q,r,D,u,x,y⟩:=j c (by simp);exact wpAny_pyNext_range_end (I.ok.hd m) a (by have:n<=i:=p;lia) λl M=>⟨rfl,I.turned (M) q r u x y⟩
 self:=λ_ _ _ _ _ a h=>wpAny_pyIter_rangeiter a h
section
variable {X:Cx}{tg:Expr}
def jeu{pins}{s}{R}{E}{lo hi}{c}(I:Inv X pins σ H s)(h1:-(2 ^ 62)<=lo)(h2:lo<2 ^ 62)(d:-(2 ^ 62)<=hi)(f:hi<2 ^ 62)
  (q:R (Itr lo (hi-lo).toNat) H):wpAny (model X.prog X.w) X.A (pyIter<|.ref ↥s) (PIE X pins σ tg R) E { s with heap:=s.heap.push {cls:=.type "range",data:=.fields #[.int lo t,.int hi u,.int 1 v]},toks:=c }:=by
 refine wpAny_pyIter_range (IsRange.new ..) (small_one h1 h2 d f) ?_;have a:Inv X pins σ H { s with heap:=s.heap.push {cls:=.type "range",data:=.fields #[.int lo t,.int hi u,.int 1 v]},toks:=c }:=I.kept λb o e=>L8 _ e;refine⟨(s.heap.push {cls:=.type "range",data:=.fields #[.int lo t,.int hi u,.int 1 v]}).objs.size,[(s.heap.push {cls:=.type "range",data:=.fields #[.int lo t,.int hi u,.int 1 v]}).objs.size],_,_,H,rfl,
  a.kept λb o e=>L8 _ e,jaO _ lo (hi-lo).toNat,?_,λb g=>?_,q⟩
 ·have h:lo+((0:Nat):Int)*1=lo:=by simp
  have e2:(((hi-lo).toNat:Nat):Int)-((0:Nat):Int)=Builtin.Range.rangeSize lo hi 1:=by rw[rangeSize_one];split<;>lia
  rw[h,e2];exact E7 _ rfl
 ·have e:b=(s.heap.push {cls:=.type "range",data:=.fields #[.int lo t,.int hi u,.int 1 v]}).objs.size:=by simpa using g
  subst e;exact a.fpOk (M9 _)<|a.hok.fresh<|M9 _
def jcW(ta:TA):TI:=λσ H R=>ta σ H λvs H1=>∃ j:Int,vs=[.int j]/\-(2 ^ 62)<=j/\j<2 ^ 62/\R (Itr 0 j.toNat) H1
def xA(d:Gl X "range")(f:X.mg "range" = none)(g:PA X [a] ta)(i:starEach [a] X.env=[(false,eval a X.env)]:=by rfl):PI X tg (.Call (.Name "range" p) [a] [] pos) (jcW ta):=by
 intro b s σ H R I h;refine Call_<|YQ I d f boot_range<|PyProof.Rows.callWith_type1 (thn (g pos b s σ H _ I h) λo u ⟨vs,v,k,l,c⟩=>?_) i rfl;obtain⟨j,e,c,m,q⟩:=c;subst e;cases l with
 | cons r n=>
  cases n;obtain⟨t,rfl⟩:=r;exact call_range_1<|jeu k ∅ ∅ c m ⇑q
def jko(wi:TI)(g:TG)(tb:TS):TS:=λD σ H=>wi σ H λJ H1=>∃ W:Nat->Nat->St->Hp->Prop,(∃ m,W 0 m σ H1)/\∀ i m σ H,W i m σ H ->
 (J.stop i H/\D.nx σ H)\/(J.go i H/\∃ N:St->Hp->Prop,(∀ σ' H',N σ' H'->∃ m',m'<m/\W (i+1) m' σ' H')/\∀ x H',J.yld i H x H'->g x σ H' λσ2 H2=>tb {D with nx:=N,ct:=N,bk:=D.nx} σ2 H2)
noncomputable def Kl(fp:J9)(h:Heap):List (Addr×Obj):=fp.filterMap λb=>(h.get? b).map λo=>(b,o)
def qZ(a:b∈fp)(e:h.get? b=some o):(b,o)∈Kl fp h:=List.mem_filterMap.mpr ⟨b,a,by rw[e];rfl⟩
def jcy(hp:p∈Kl fp h):p.1∈fp/\h.get? p.1=some p.2:=by
 obtain⟨b,a,e⟩:=List.mem_filterMap.mp hp;cases q:h.get? b with
 | none=>rw[q] at e;cases e
 | some o=>
  rw[q] at e;have c:=E3 e;subst c;exact⟨a,q⟩
def Inv.pinned(I:Inv X pins σ H s)(f:∀ b∈fp,jas X pins H b)(g:∀ b∈fp,∃ o,s.heap.get? b=some o/\∀ v,o.data≠.cell v):Inv X (pins++Kl fp s.heap) σ H s:=
 I.pins_of λp h=>(N4.mp h).elim (λz=>I.pin p<|X0 _ z) λz=>by
  obtain⟨a,e⟩:=jcy z;obtain⟨i,j,k,_⟩:=f p.1 a;obtain⟨o,c,d⟩:=g p.1 a;rw[e] at c;cases c;exact⟨e,i,j,k,d⟩
def Inv.unpinned(I:Inv X (pins++pl) σ H s):Inv X pins σ H s:=I.pins_of λp a=>I.pin p<|X0 _<|List.mem_append_left _ a
def jfv(hp:PassesOwn (model X.prog X.w) X.A X.env X.xe)(S:X.calm=true)(hi:PI X tg iter wi)(hg:PG X tg g)(c:PSs X body tb)
  (hs:∀ x,foldedSetIterable iter X.env x=pure x:=by intro _;rfl):PS X (.For tg iter body [] pos) (jko wi g tb):=by
 intro a s σ H D I h;refine wpAny_For (thn (hi a s σ H _ I h) λv s1 h1=>thn h1 λitv s2 h2=>?_) hs;obtain⟨it,B,U,J,H2,e,I2,T,M,V,W,⟨m0,w0⟩,turn⟩:=h2;subst e;have j:∀{t},(∀ b∈B,t b=none)->∀ b∈B,jas X a t b:=λhn b c=>⟨hn b c,(V b c).2⟩;refine codeAny_forLoop_any (λn Y=>∃ i C t,Inv X a C t Y/\U i Y.heap/\(∀ b∈B,t b=none)/\W i n C t) ?_ m0 ⟨0,σ,H2,I2,M,λb c=>(V b c).1,w0⟩;rintro n Z ⟨i,E,L,I3,F,G,w3⟩;rcases turn i n E L w3 with⟨stop,qn⟩ | ⟨go,N,hN,step⟩
 ·refine wpAny_passesOwn hp<|thn (T.done X rfl rfl rfl S i a Z E L X.xe I3 (j G) F stop) λr s4 ⟨O,I4⟩=>?_;subst O;exact wpAny_execs_nil ⟨E,L,I4,qn⟩
 ·refine wpAny_passesOwn hp<|thn (T.item X rfl rfl rfl S i a Z E L X.xe I3 (j G) F go) λr s4 ⟨u,O,h4⟩=>?_;subst O;refine wpAny_passesOwn hp<|thn h4 λ_ s5 P=>?_;obtain⟨x,H5,I5,r5,y5,z,Q⟩:=P;refine wpAny_passesOwn hp<|thn (hg _ s5 E H5 x u _ (I5.pinned (j Q)<|T.obj _ _ z) r5<|step x H5 y5) λ_ s6 P=>?_;obtain⟨σ6,H6,I6,q6⟩:=P;refine wpAny_passesOwn hp<|thn (c _ s6 σ6 H6 _ I6 q6) λf R y=>?_;have k:∀{l}{p},Inv X (a++Kl B s5.heap) l p R->N l p->∃ m,m<n/\∃ i C t,Inv X a C t R/\U i R.heap/\(∀ b∈B,t b=none)/\W i m C t:=λ{l p} q K=>by
   obtain⟨m',hm,w7⟩:=hN l p K;refine⟨m',hm,i+1,l,p,q.unpinned,T.keep _ _ _ z λb c o e=>(q.pin (b,o)<|X0 _<|X0 _<|qZ c e).1,λb c=>?_,w7⟩;obtain⟨o,e,d⟩:=T.obj _ _ z b c;exact(q.pin (b,o)<|X0 _<|X0 _<|qZ c e).2.1
  cases f with
  | next=>obtain⟨l,p,q,K⟩:=y;exact k q K
  | cont=>obtain⟨l,p,q,K⟩:=y;exact k q K
  | brk=>obtain⟨l,p,q,y⟩:=y;exact⟨l,p,q.unpinned,y⟩
  | ret v=>obtain⟨x7,l,p,q,r7,y⟩:=y;exact⟨x7,l,p,q.unpinned,r7,y⟩
end
abbrev R2:=V->V->Hp->VK->Prop
def OpR(X:Cx)(f:Value->Value->Sem Value)(r:R2):Prop:=
 ∀ pins s (σ:St) H x y v u Q,Inv X pins σ H s->RelV x v->RelV y u->r x y H Q ->
  wpAny (model X.prog X.w) X.A (f v u) (EP X pins σ Q) X.xe s
def UnR(X:Cx)(f:Value->Sem Value)(r:V->Hp->VK->Prop):Prop:=
 ∀ pins s (σ:St) H x v Q,Inv X pins σ H s->RelV x v->r x H Q ->
  wpAny (model X.prog X.w) X.A (f v) (EP X pins σ Q) X.xe s
def CallR(X:Cx)(f:Value)(r:List V->Hp->VK->Prop):Prop:=
 ∀ pins s (σ:St) H xs us Q,Inv X pins σ H s->Vals xs us->r xs H Q ->
  wpAny (model X.prog X.w) X.A (call f us) (EP X pins σ Q) X.xe s
def tOp(r:R2)(ta tb:TE):TE:=λσ H Q=>ta σ H λx H1=>tb σ H1 λy H2=>r x y H2 Q
def tUn(r:V->Hp->VK->Prop)(ta:TE):TE:=λσ H Q=>ta σ H λx H1=>r x H1 Q
def rI(C:Int->Int->Prop)(g:Int->Int->V):R2:=λx y H Q=>∃ i j,x=.int i/\y=.int j/\C i j/\Q (g i j) H
def rI0(g:Int->Int->V):R2:=λx y H Q=>∃ i j,x=.int i/\y=.int j/\Q (g i j) H
def rU(g:Int->V):V->Hp->VK->Prop:=λx H Q=>∃ i,x=.int i/\Q (g i) H
section
variable {X:Cx}{a b c:Expr}{ta tb tc:TE}{pos:Pos}
def jmX(d:PE X a ta)(e:PE X b tb){pins}{s}{R:V->V->Hp->Prop}(I:Inv X pins σ H s)
  (h:ta σ H λx H1=>tb σ H1 λy H2=>R x y H2) {Q:J0}{f:Value->Value->Sem Value}
  (g:∀ v u s2 x y H2,Inv X pins σ H2 s2->RelV x v->RelV y u->R x y H2->wpAny (model X.prog X.w) X.A (f v u) Q X.xe s2):
  wpAny (model X.prog X.w) X.A (eval a X.env) (λv s₁=>wpAny (model X.prog X.w) X.A (eval b X.env) (λu s₂=>wpAny (model X.prog X.w) X.A (f v u) Q X.xe s₂) X.xe s₁) X.xe s:=by
 refine thn (d pins s σ H _ I h) λv i c=>?_;obtain⟨x,H1,j,k,l⟩:=c;refine thn (e pins i σ H1 _ j l) λu s2 c=>?_;obtain⟨y,H2,m,n,o⟩:=c;exact g v u s2 x y H2 m k n o
def Kg(d:OpR X (binaryOp op) r)(e:PE X a ta)(f:PE X b tb):PE X (.BinOp a op b pos) (tOp r ta tb):=by
 intro c s σ H Q I h;exact wpAny_BinOp<|jmX e f I h λv u g x y i j k l q=>d c g σ i x y v u Q j k l q
def jj2(c:UnR X (unaryOp op) r)(d:PE X a ta):PE X (.UnaryOp op a pos) (tUn r ta):=by
 intro b s σ H Q I h;exact UnaryOp_<|thn (d b s σ H _ I h) λv e ⟨x,f,g,i,j⟩=>c b e σ f x v Q g i j
def opI{f}{C}{g:Int->Int->Int}
  (a:∀ i j t u s (Q:J0) (E:J0),C i j->Q (.int (g i j) s.toks) {s with toks:=s.toks+1}->wpAny (model X.prog X.w) X.A (f (.int i t)<|.int j u) Q E s):
  OpR X f (rI C λi j=>.int<|g i j):=by
 intro b s σ H x y v u Q I c d h;obtain⟨i,j,rfl,rfl,e,q⟩:=h;obtain⟨t,rfl⟩:=c;obtain⟨k,rfl⟩:=d;exact a i j t k s _ _ e ⟨.int<|g i j,H,I.tok _,⟨_,rfl⟩,q⟩
def joD{f}{g:Int->Int->Int}
  (a:∀ i j t u s (Q:J0) (E:J0),Q (.int (g i j) s.toks) {s with toks:=s.toks+1}->wpAny (model X.prog X.w) X.A (f (.int i t)<|.int j u) Q E s):
  OpR X f (rI0 λi j=>.int<|g i j):=by
 intro b s σ H x y v u Q I c d h;obtain⟨i,j,rfl,rfl,q⟩:=h;obtain⟨t,rfl⟩:=c;obtain⟨e,rfl⟩:=d;exact a i j t e s _ _ ⟨.int<|g i j,H,I.tok _,⟨_,rfl⟩,q⟩
def jlV{f}{g:Int->Int->Bool}
  (a:∀ i j t u s (Q:J0) (E:J0),Q (.bool<|g i j) s->wpAny (model X.prog X.w) X.A (f (.int i t)<|.int j u) Q E s):
  OpR X f (rI0 λi j=>.bl<|g i j):=by
 intro b s σ H x y v u Q I c d h;obtain⟨i,j,rfl,rfl,q⟩:=h;obtain⟨t,rfl⟩:=c;obtain⟨e,rfl⟩:=d;exact a i j t e s _ _ ⟨.bl<|g i j,H,I,rfl,q⟩
def jm5(i j:Int):Prop:=0<=j/\j<=1000000/\i.natAbs<2 ^ 64
def jkd:OpR X (binaryOp .Add) (rI0 λi j=>.int<|i+j):=joD λ_ _ _ _ _ _ _ q=>add_int q
def jj8:OpR X (binaryOp .Sub) (rI0 λi j=>.int<|i-j):=joD λ_ _ _ _ _ _ _ q=>sub_int q
def jfI:OpR X (binaryOp .Mod) (rI (λ_ j=>0<j) λi j=>.int<|i%j):=opI λi j _ _ _ _ _ a q=>by
 exact mod_int' ∅ (by rw[Int.fmod_eq_emod_of_nonneg i ∅];exact q)
def jkk:OpR X (binaryOp .Pow) (rI jm5 λi j=>.int<|i ^ j.toNat):=opI λ_ _ _ _ _ _ _ a q=>pow_int_small a.1 a.2.1 a.2.2 q
def unI{f}{g:Int->Int}
  (a:∀ i t s (Q:J0) (E:J0),Q (.int (g i) s.toks) {s with toks:=s.toks+1}->wpAny (model X.prog X.w) X.A (f<|.int i t) Q E s):
  UnR X f (rU λi=>.int<|g i):=by
 intro b s σ H x v Q I c h;obtain⟨i,rfl,q⟩:=h;obtain⟨t,rfl⟩:=c;exact a i t s _ _ ⟨.int<|g i,H,I.tok _,⟨_,rfl⟩,q⟩
def jfs:UnR X (unaryOp .USub) (rU λi=>.int<|-i):=unI λ_ _ _ _ _ q=>neg_int q
end
noncomputable def jmn:V->V->Bool
 | .non,.non=>true | .non,.int _=>true | .int _,.non=>true | .non,.bl _=>true | .bl _,.non=>true | .non,.str _=>true | .str _,.non=>true
 | .int _,.int _=>true | .bl _,.bl _=>true | .str _,.str _=>true | .byt _,.byt _=>true
 | .int _,.str _=>true | .str _,.int _=>true | .bl _,.str _=>true | .str _,.bl _=>true
 | _,_=>false
def rEq:R2:=λx y H Q=>jmn x y=true/\Q (.bl<|decide<|x=y) H
def rNe:R2:=λx y H Q=>jmn x y=true/\Q (.bl<|!decide (x=y)) H
def wu:decide (V.int i=V.int j)=(i==j):=by
 rw[Bool.eq_iff_iff];simp
def jbE:decide (V.bl i=V.bl j)=(i==j):=by
 rw[Bool.eq_iff_iff];simp
def jbR:decide (V.str i=V.str j)=(i==j):=by
 rw[Bool.eq_iff_iff];simp
def jcb:decide (V.byt i=V.byt j)=(i.toList==j.toList):=by
 rw[Bool.eq_iff_iff];cases i;cases j;simp
section
variable {X:Cx}{a b c:Expr}{ta tb tc:TE}{pos:Pos}
def j4(I:Inv X pins σ H s)(q:Q (.bl k) H)(e:k=k'):EP X pins σ Q (.bool k') s:=by
 subst e;exact⟨.bl k,H,I,rfl,q⟩
def jn9:OpR X (compareOp .Eq) rEq:=by
 intro e s σ H x y v u Q I d a h;obtain⟨c,q⟩:=h;cases x with
 | non=>
  cases d;cases y with
  | non=>cases a;exact PySem.EqNone.eq_none_none<|j4 I q (by simp)
  | bl j=>cases a;exact PySem.EqNone.eq_none_bool<|j4 I q (by simp)
  | int j=>obtain⟨b,rfl⟩:=a;exact PySem.EqNone.eq_none_int<|j4 I q (by simp)
  | str j=>obtain⟨b,rfl⟩:=a;exact PySem.EqNone.eq_none_str<|j4 I q (by simp)
  | _=>exact absurd (c) M3
 | bl i=>
  cases d;cases y with
  | non=>cases a;exact PySem.EqNone.eq_bool_none<|j4 I q (by simp)
  | bl j=>cases a;exact eq_bool<|j4 I q jbE
  | str j=>obtain⟨b,rfl⟩:=a;exact PySem.EqMixed.eq_bool_str<|j4 I q (by simp)
  | _=>exact absurd (c) M3
 | int i=>
  obtain⟨t,rfl⟩:=d;cases y with
  | non=>cases a;exact PySem.EqNone.eq_int_none<|j4 I q (by simp)
  | int j=>obtain⟨b,rfl⟩:=a;exact eq_int<|j4 I q wu
  | str j=>obtain⟨b,rfl⟩:=a;exact PySem.EqMixed.eq_int_str<|j4 I q (by simp)
  | _=>exact absurd (c) M3
 | str i=>
  obtain⟨t,rfl⟩:=d;cases y with
  | non=>cases a;exact PySem.EqNone.eq_str_none<|j4 I q (by simp)
  | bl j=>cases a;exact PySem.EqMixed.eq_str_bool<|j4 I q (by simp)
  | int j=>obtain⟨b,rfl⟩:=a;exact PySem.EqMixed.eq_str_int<|j4 I q (by simp)
  | str j=>obtain⟨b,rfl⟩:=a;exact eq_str<|j4 I q jbR
  | _=>exact absurd (c) M3
 | byt i=>
  obtain⟨t,rfl⟩:=d;cases y with
  | byt j=>obtain⟨b,rfl⟩:=a;exact PySem.W.eq_bytes<|j4 I q jcb
  | _=>exact absurd (c) M3
 | _=>cases y<;>exact absurd (c) M3
def jmq:OpR X (compareOp .NotEq) rNe:=by
 intro e s σ H x y v u Q I d a h;obtain⟨c,q⟩:=h;cases x with
 | non=>
  cases d;cases y with
  | non=>cases a;exact PySem.EqNone.ne_none_none<|j4 I q (by simp)
  | bl j=>cases a;exact PySem.EqNone.ne_none_bool<|j4 I q (by simp)
  | int j=>obtain⟨b,rfl⟩:=a;exact PySem.EqNone.ne_none_int<|j4 I q (by simp)
  | str j=>obtain⟨b,rfl⟩:=a;exact PySem.EqNone.ne_none_str<|j4 I q (by simp)
  | _=>exact absurd (c) M3
 | bl i=>
  cases d;cases y with
  | non=>cases a;exact PySem.EqNone.ne_bool_none<|j4 I q (by simp)
  | bl j=>cases a;exact ne_bool<|j4 I q<|congrArg not jbE
  | str j=>obtain⟨b,rfl⟩:=a;exact PySem.EqMixed.ne_bool_str<|j4 I q (by simp)
  | _=>exact absurd (c) M3
 | int i=>
  obtain⟨t,rfl⟩:=d;cases y with
  | non=>cases a;exact PySem.EqNone.ne_int_none<|j4 I q (by simp)
  | int j=>obtain⟨b,rfl⟩:=a;exact ne_int<|j4 I q<|congrArg not wu
  | str j=>obtain⟨b,rfl⟩:=a;exact PySem.EqMixed.ne_int_str<|j4 I q (by simp)
  | _=>exact absurd (c) M3
 | str i=>
  obtain⟨t,rfl⟩:=d;cases y with
  | non=>cases a;exact PySem.EqNone.ne_str_none<|j4 I q (by simp)
  | bl j=>cases a;exact PySem.EqMixed.ne_str_bool<|j4 I q (by simp)
  | int j=>obtain⟨b,rfl⟩:=a;exact PySem.EqMixed.ne_str_int<|j4 I q (by simp)
  | str j=>obtain⟨b,rfl⟩:=a;exact ne_str<|j4 I q<|congrArg not jbR
  | _=>exact absurd (c) M3
 | byt i=>
  obtain⟨t,rfl⟩:=d;cases y with
  | byt j=>obtain⟨b,rfl⟩:=a;exact PySem.W.ne_bytes<|j4 I q<|congrArg not jcb
  | _=>exact absurd (c) M3
 | _=>cases y<;>exact absurd (c) M3
def jnB:OpR X (compareOp .Lt) (rI0 λi j=>.bl<|decide<|i<j):=jlV λ_ _ _ _ _ _ _ q=>lt_int q
def jmw:OpR X (compareOp .LtE) (rI0 λi j=>.bl<|decide<|i<=j):=jlV λ_ _ _ _ _ _ _ q=>le_int q
def jnA:OpR X (compareOp .Gt) (rI0 λi j=>.bl<|decide<|j<i):=jlV λ_ _ _ _ _ _ _ q=>gt_int q
def jnS:OpR X (compareOp .GtE) (rI0 λi j=>.bl<|decide<|j<=i):=jlV λ_ _ _ _ _ _ _ q=>ge_int q
def jcD:OpR X (compareOp .In) (λx y H Q=>∃ i j,x=.str i/\y=.str j/\Q (.bl<|!(Builtin.Str.occurrences j i 0 j.length 1).isEmpty) H):=by
 intro a s σ H x y v u Q I b c h;obtain⟨i,j,rfl,rfl,q⟩:=h;obtain⟨t,rfl⟩:=b;obtain⟨d,rfl⟩:=c;exact in_str<|j4 I q rfl
def jiZ:OpR X (compareOp .Is) (λx y H Q=>y=.non/\Q (.bl<|decide<|x=.non) H):=by
 intro a s σ H x y v u Q I b c h;obtain⟨rfl,q⟩:=h;cases c;refine is_none_gen<|j4 I q ?_;cases x<;>first
  | (cases b;rfl)
  | (obtain⟨t,rfl⟩:=b;rfl)
def jhR:OpR X (compareOp .IsNot) (λx y H Q=>y=.non/\Q (.bl<|!decide (x=.non)) H):=by
 intro a s σ H x y v u Q I b c h;obtain⟨rfl,q⟩:=h;cases c;refine isnot_none_gen<|j4 I q ?_;cases x<;>first
  | (cases b;rfl)
  | (obtain⟨t,rfl⟩:=b;rfl)
def xB:OpR X (compareOp .NotIn) (λx y H Q=>∃ i j,x=.str i/\y=.str j/\Q (.bl<|!(!(Builtin.Str.occurrences j i 0 j.length 1).isEmpty)) H):=by
 intro a s σ H x y v u Q I b c h;obtain⟨i,j,rfl,rfl,q⟩:=h;obtain⟨t,rfl⟩:=b;obtain⟨d,rfl⟩:=c;exact notIn_str<|j4 I q rfl
def YO(b)  (h:op≠.In:=by decide) (h2:op≠.NotIn:=by decide):behindInMarks op b=false:=by
 have a:(op==CmpOp.In)=false:=by cases op<;>first | rfl | exact absurd rfl h
 have e2:(op==CmpOp.NotIn)=false:=by cases op<;>first | rfl | exact absurd rfl h2
 cases b<;>simp[behindInMarks,a,e2]
def jgY(d:OpR X (compareOp op) r)(e:PE X a ta)(f:PE X b tb)(g:behindInMarks op b=false):PE X (.Compare a [op] [b] pos) (tOp r ta tb):=by
 intro c s σ H Q I h;exact wpAny_Compare1 (jmX e f I h λv u i x y j k l m q=>d c i σ j x y v u Q k l m q) g
def zJ(t:TE):TT:=λσ H Q=>t σ H λx H'=>∃ k,x=.bl k/\Q k H'
def jcu(f:OpR X (compareOp op) r)(g:PE X a ta)(i:PE X b tb)(j:behindInMarks op b=false):PT X (.Compare a [op] [b] pos) (zJ<|tOp r ta tb):=by
 intro d s σ H Q I h;refine wpAny_isTrue_Compare1 (thn (g d s σ H _ I h) λv l ⟨x,m,n,o,p⟩=>thn (i d l σ m _ n p) λu q ⟨y,t,w,A,B⟩=>
  thn (f d q σ t x y v u _ w o A B) λc G ⟨z,C,D,E,k,e,F⟩=>?_) j
 subst e;cases E;exact wpAny_truthy_bool ⟨C,D,F⟩
def jdg(r r':R2)(ta tb tc:TE):TE:=λσ H Q=>ta σ H λx H1=>tb σ H1 λy H2=>r x y H2 λz H3=>∃ k,z=.bl k /\
 (if k=true then tc σ H3 λw' H4=>r' y w' H4 Q else Q (.bl false) H3)
def jds(n:OpR X (compareOp op) r)(g:OpR X (compareOp op') r')(o:PE X a ta)(p:PE X b tb)(q:PE X c tc)
  (t:lastMarks [op,op'] [b,c]=false:=by with_unfolding_all rfl):PT X (.Compare a [op,op'] [b,c] pos) (zJ<|jdg r r' ta tb tc):=by
 intro f s σ H Q I h;refine isTrue_chain (thn (o f s σ H _ I h) λv w ⟨x,A,B,C,D⟩=>test_link<|thn (p f w σ A _ B D) λu E ⟨y,F,G,i,J⟩=>
  thn (n f E σ F x y v u _ G C i J) λd K ⟨z,j,l,L,k,e,m⟩=>?_) t
 subst e;cases L;refine wpAny_truthy_bool ?_;cases k with
 | false=>
  obtain⟨k',M,N⟩:=m;cases M;exact ite_ff ⟨j,l,N⟩
 | true=>
  refine ite_tt<|test_last<|thn (q f K σ j _ l m) λO P ⟨R,S,T,U,V⟩=>thn (g f P σ S y R u O _ T i U V) λd' s5 W=>?_;obtain⟨z2,Y,Z,r5,k2,e2,q5⟩:=W;subst e2;cases r5;exact wpAny_truthy_bool ⟨Y,Z,q5⟩
def uW:(sizeLine:Nat)<2 ^ 63:=by rw[sizeLine_eq];decide
def jaI:OpR X (binaryOp .Add) (λx y H Q=>∃ i j,x=.str i/\y=.str j/\i.length+j.length<=sizeLine/\Q (.str<|i++j) H):=by
 intro a s σ H x y v u Q I b c h;obtain⟨i,j,rfl,rfl,d,q⟩:=h;obtain⟨t,rfl⟩:=b;obtain⟨e,rfl⟩:=c;exact add_str (λe f=>⟨.str<|i++j,H,I.tok _,⟨_,rfl⟩,q⟩) d
def jdQ(r:Vals [x] us):∃ u,us=[u]/\RelV x u:=by
 cases r with
 | cons a b=>cases b;exact⟨_,rfl,a⟩
def jmP(r:Vals [x,y] us):Ex2 λu w'=>An3 (us=[u,w']) (RelV x u) (RelV y w'):=by
 cases r with
 | cons a b=>
  cases b with
  | cons c d=>cases d;exact⟨_,_,rfl,a,c⟩
def jb1(c:X.calm=true):CallR X (.builtin "min") (λxs H Q=>∃ i j,xs=[.int i,.int j]/\Q (.int<|if j<i then j else i) H):=by
 intro b s σ H xs d Q I r h;obtain⟨i,j,rfl,q⟩:=h;obtain⟨u,e,rfl,⟨t,rfl⟩,⟨f,rfl⟩⟩:=jmP r;refine min_two_ints (I.ok.hd c) λg l k=>⟨_,H,I.kept k,?_,q⟩;by_cases a:j<i
 ·rw[if_pos a,if_pos a];exact⟨_,rfl⟩
 ·rw[if_neg a,if_neg a];exact⟨_,rfl⟩
def zZ:CallR X (.type "str") (λxs H Q=>∃ i,xs=[.int i]/\i.natAbs.log2<1920/\Q (.str<|toString i) H):=by
 intro a s σ H xs c Q I r h;obtain⟨i,rfl,b,q⟩:=h;obtain⟨u,rfl,t,rfl⟩:=jdQ r;exact PySem.P.str_of_int b ⟨.str _,H,I.tok _,⟨_,rfl⟩,q⟩
def jk2(K:J4)(x:V)(H:Hp)(n:Nat):Prop:=
 match x with
 | .str y=>y.length<=sizeLine/\n=y.length
 | .byt y=>y.size<=sizeLine/\n=y.size
 | .ref p=>(∃ xs,SqL K H p xs/\n=xs.length) \/ ∃ xs,SqT K H p xs/\n=xs.length
 | _=>False
def jeP:CallR X (.builtin "len") (λxs H Q=>∃ x n,xs=[x]/\jk2 X.K x H n/\Q (.int n) H):=by
 intro j s σ H xs m Q I r h;obtain⟨x,n,rfl,e,q⟩:=h;obtain⟨u,rfl,c⟩:=jdQ r;have o:=sizeLine_eq;cases x with
 | str y=>
  obtain⟨t,rfl⟩:=c;obtain⟨k,b⟩:y.length<=sizeLine/\n=y.length:=e;subst b;exact len_str ∅ ⟨.int _,H,I.tok _,⟨_,rfl⟩,q⟩
 | byt y=>
  obtain⟨t,rfl⟩:=c;obtain⟨k,b⟩:y.size<=sizeLine/\n=y.size:=e;subst b;exact PySem.W.len_bytes ∅ ⟨.int _,H,I.tok _,⟨_,rfl⟩,q⟩
 | ref p=>
  cases c;have b:=e;rcases b with⟨xs,d,b⟩ | ⟨xs,d,b⟩
  ·subst b;obtain⟨f,g,i,l⟩:=I.list d;have a:=g.length;exact Calls.call_len_list i.isList (by simp only[N5];lia) ⟨.int xs.length,H,I.tok _,⟨_,by simp only[N5];rw[a]⟩,q⟩
  ·subst b;obtain⟨f,g,i,l⟩:=I.tuple d;have a:=g.length;exact len_tuple i (by simp only[N5];lia) ⟨.int xs.length,H,I.tok _,⟨_,by simp only[N5];rw[a]⟩,q⟩
 | _=>exact(e).elim
end
structure ObjM(h:Heap)(x dx C:Addr)(mA:K6):Prop where
 obj:h.get? x=some (PySem.W.instObj C dx)
 ns:h.Ns1 dx mA
 ne:dx≠x
def jb7{h:Heap}{mA}(n:h.Ns1 dx mA):∃ od,h.get? dx=some od/\∀ name,PySem.W.lookIn name od=some (mA name):=by
 obtain⟨o,c,k,d,hd,f,_,g⟩:=n;refine⟨o,d,λname=>?_⟩;have e:=g name;unfold nsFind findBy at e;rw[<- Array.find?_toList] at e;unfold PySem.W.lookIn;rw[hd];dsimp only;split
 ·rename_i y q;rw[q] at e;exact congrArg some e
 ·rename_i q;rw[q] at e;have a:c.toList.any (·.refKey)=false:=by
   rw[List.any_eq_false];intro y i;obtain⟨z,t,b⟩:=f y<|Array.mem_toList_iff.mp i;simp[DictEntry.refKey,b]
  have j:¬ c.toList.any (·.refKey)=true:=by rw[a];exact M3
  rw[if_neg j];exact congrArg some e
def ObjM.look(I:ObjM h x dx C mA):∃ od,PySem.W.InstAt h x (PySem.W.instObj C dx) C (some od)/\∀ name,PySem.W.lookIn name od=some (mA name):=
 let ⟨od,ho,hl⟩:=jb7 I.ns
 ⟨od,⟨I.obj,rfl,rfl,ho⟩,hl⟩
section
variable {prog:Program}{w:World}{A:Around}{E:J0}{s:Shared}{K:J4}{x dx C f:Addr}{mA:K6}{name:Str}{v:Value}
def jhP{a}{Q}(X:K.In s.heap)(I:ObjM s.heap x dx C mA)(c:PySem.W.plainGet K C name=true)(d:PySem.W.hasDictIn K C=true)
  (e:PySem.W.findIn K (.ref C) name=some none) (f:mA name=some v) (b:PySem.W.handedIn v=true) (h:Q v {s with toks:=s.toks+1}):
  wpAny (model prog w) A (getAttr (.ref x) name a) Q E s:=by
 obtain⟨od,J,g⟩:=I.look;exact PySem.W.get_value X J (PySem.W.plainGet_of c).1 (PySem.W.findObj_own d e rfl<|by rw[g,f]) b h
def jdG{pl}{Q}(X:K.In s.heap)(I:ObjM s.heap x dx C mA)(a:PySem.W.plainGet K C name=true)
  (b:PySem.W.findIn K (.ref C) name=some (some<|.ref f)) (c:PySem.W.isFn K (.ref f)=true) (d:mA name=none) (h:Q (.ref f,[.ref x]) s):
  wpAny (model prog w) A (getMethod (.ref x) name pl) Q E s:=by
 obtain⟨od,J,e⟩:=I.look;exact PySem.W.method_fn X J (PySem.W.plainGet_of a).1 (PySem.W.plainGet_of a).2 b (beq_iff_eq.mp c) (by show(PySem.W.lookIn name od).map (·.isSome)=some false;rw[e,d];rfl) h
def jhy{ns}{Q}(X:K.In s.heap)(I:ObjM s.heap x dx C mA)
  (i:PySem.W.findIn K (.ref C) "__setattr__" = some (some<|.builtin "object.__setattr__")) (hp:PySem.W.plainOver K C=true) (j:PySem.W.takerIn K C name=some none) (k:PySem.W.hasDictIn K C=true)
  (l:PySem.Within mA ns) (hsz:ns.length<=sizeLine)
  (h:∀ h',ObjM h' x dx C (λy=>if y=name then some v else mA y)->Heap.SameBut dx s.heap h'->Q () {s with heap:=h',toks:=s.toks+2}):
  wpAny (model prog w) A (setAttr (.ref x) name v) Q E s:=by
 obtain⟨od,J,p⟩:=I.look;refine PySem.W.set_plain X J i<|PySem.W.osa_open X J hp j λb=>?_;obtain⟨q,m,d⟩:=PySem.W.any_some k;refine L1<|M7<|L1<|L1<|wpAny_loadPart I.obj<|L1<|PySem.W.Looks.here (PySem.W.looks_clsIn X m) ?_;rw[d];refine M7<|L1<|M7<|L1<|wpAny_nsSet1 I.ns λh' a c=>?_;obtain⟨oD,n,o,e,f,g⟩:=a.count<|PySem.Within.cons name v l;refine L1<|wpAny_lookBehind e (by rw[f];exact pastItsLine_dict<|N9 g<|by rw[M2];lia) ?_;exact M7<|h _ ⟨(c.2 _<|Ne.symm I.ne).trans I.obj,a,I.ne⟩ c
def jdz{R}{vs}{kw}(X:K.In s.heap)(a:PySem.W.makesIn K C=true)
  (hi:PySem.W.findIn K (.ref C) "__init__" = some (some<|.ref f)) (b:PySem.W.typeIn K (.ref f)=some (.type "function"))
  (h:codeAny (model prog w) (A.under<|.builtin "type.__call__" ⟨.ref C::vs,kw⟩) (.call (.ref f) ⟨.ref (↥s+1)::vs,kw⟩) (PySem.W.InitBack (↥s+1) R)
   {s with heap:=(s.heap.push PySem.W.emptyDict).push (PySem.W.instObj C ↥s)}):
  codeAny (model prog w) A (.call (.ref C) ⟨vs,kw⟩) R s:=by
 obtain⟨c,g,d,t,os⟩:=s;exact PySem.W.make_core (PySem.W.makes_of X a) (PySem.W.looks_findIn X hi) (λself=>PySem.W.bind_fn X self b) (.inl rfl) h
end
noncomputable def Qv(f:Str)(v:V):List (Str×V)->List (Str×V)
 | []=>[(f,v)]
 | (g,x)::r=>if g=f then(g,v)::r else(g,x)::Qv f v r
theorem Vl(f g)(v):∀ fs:List (Str×V),(Qv f v fs).lookup g=if g=f then some v else fs.lookup g
 | []=>by
  show List.lookup g [(f,v)]=_;by_cases h:g=f
  ·have a:=beq_iff_eq.mpr h;simp only[List.lookup,a,if_pos h]
  ·have a:=U9.mpr h;simp only[List.lookup,a,if_neg h]
 | (k,x)::r=>by
  rw[show Qv f v ((k,x)::r)=(if k=f then(k,v)::r else(k,x)::Qv f v r) from rfl];by_cases b:k=f
  ·rw[if_pos b];by_cases h:g=k
   ·have a:=beq_iff_eq.mpr h;simp only[List.lookup,a,if_pos<|h.trans b]
   ·have a:=U9.mpr h;simp only[List.lookup,a,if_neg<|λe:g=f=>h<|e.trans b.symm]
  ·rw[if_neg b];by_cases h:g=k
   ·have a:=beq_iff_eq.mpr h;simp only[List.lookup,a,if_neg<|λe:g=f=>b<|h.symm.trans e]
   ·have a:=U9.mpr h;simp only[List.lookup,a];exact(Vl f g v r)
theorem VD(f)(v):∀ fs:List (Str×V),f∈(Qv f v fs).map (·.1)/\∀ g,g∈fs.map (·.1)->g∈(Qv f v fs).map (·.1)
 | []=>⟨by simp[Qv],λg h=>by simp at h⟩
 | (k,x)::r=>by
  obtain⟨b,c⟩:=VD f v r;rw[show Qv f v ((k,x)::r)=(if k=f then(k,v)::r else(k,x)::Qv f v r) from rfl];by_cases a:k=f
  ·rw[if_pos a];subst a;exact⟨by simp,λg h=>by simpa using h⟩
  ·rw[if_neg a];refine⟨?_,λg h=>?_⟩
   ·rw[L4];exact L5 _ b
   ·rw[L4] at h ⊢;rcases M4.mp h with e | e
    ·exact M4.mpr<|.inl e
    ·exact L5 _<|c g e
theorem Vs(f)(v):∀ fs:List (Str×V),(Qv f v fs).length<=fs.length+1
 | []=>by simp[Qv]
 | (k,x)::r=>by
  have b:=Vs f v r;rw[show Qv f v ((k,x)::r)=(if k=f then(k,v)::r else(k,x)::Qv f v r) from rfl];by_cases a:k=f
  ·rw[if_pos a,M2,M2];lia
  ·rw[if_neg a,M2,M2];lia
def RelO.some_of(r:RelO (some v) o):∃ u,o=some u/\RelV v u:=by
 cases o with
 | none=>exact(r).elim
 | some u=>exact⟨u,rfl,r⟩
def RelO.none_of(r:RelO none o):o=none:=by
 cases o with
 | none=>rfl
 | some u=>exact(r).elim
def jco(r:RelV v u):PySem.W.handedIn u=true:=by
 cases v with
 | non=>cases(r);rfl
 | bl b=>cases(r);rfl
 | int i=>obtain⟨t,e⟩:=(r);cases e;rfl
 | str x=>obtain⟨t,e⟩:=(r);cases e;rfl
 | byt b=>obtain⟨t,e⟩:=(r);cases e;rfl
 | flt b=>obtain⟨t,e⟩:=(r);cases e;rfl
 | ref a=>cases(r);rfl
 | ty n=>cases(r);rfl
section
variable {P:Program}{w:World}{H H':Hp}{h h':Heap}{a C dx:Addr}{fs fs':List (Str×V)}
def wJ(hok:HOk P w H h)(e:H a=some (.ins C dx fs)):∃ mA,An5 (ObjM h a dx C mA) (∀ f,RelO (fs.lookup f)<|mA f) (PySem.Within mA (fs.map (·.1))) (fs.length<=1000) (H dx=some (.own a)):=by
 obtain⟨d,z,ne,ob,mA,n,r,q⟩:=(hok a _ e);exact⟨mA,⟨ob,n,ne⟩,r,q,z,d⟩
end
structure Cls(K:J4)(C:Addr):Prop where
 pg:PySem.W.plainGet K C Str.empty=true
 hd:PySem.W.hasDictIn K C=true
 po:PySem.W.plainOver K C=true
 sa:PySem.W.findIn K (.ref C) "__setattr__" = some (some<|.builtin "object.__setattr__")
def Cls.get{K}{C}(c:Cls K C)(f):PySem.W.plainGet K C f=true:=c.pg
def NoAttr(K:J4)(C:Addr)(f:Str):Prop:=PySem.W.findIn K (.ref C) f=some none
def NoAttr.taker{K}{C}{f}(n:NoAttr K C f):PySem.W.takerIn K C f=some none:=by
 unfold PySem.W.takerIn;rw[n];rfl
structure Meth(K:J4)(C:Addr)(m:Str)(f:Addr):Prop where
 at_:PySem.W.findIn K (.ref C) m=some (some<|.ref f)
 fn:PySem.W.isFn K (.ref f)=true
 kp:PySem.W.keepIn K (.ref f)=true
section
variable {X:Cx}{pins:List (Addr×Obj)}{σ:St}{H:Hp}{s:Shared}{a C dx:Addr}{fs:List (Str×V)}{f:Str}{v:V}{A:Around}{E:J0}
def jax(I:Inv X pins σ H s)(e:H a=some (.ins C dx fs))(c:Cls X.K C)(n:NoAttr X.K C f)(l:fs.lookup f=some v)
  (h:∀ u s',Inv X pins σ H s'->RelV v u->Q u s'):wpAny (model X.prog X.w) A (getAttr (.ref a) f b) Q E s:=by
 obtain⟨i,O,r,_,_,_⟩:=wJ I.hok e;obtain⟨u,g,d⟩:=RelO.some_of (by rw[<- l];exact r f);exact jhP I.kIn O (c.get f) c.hd n g (jco d)<|h u _ (I.tok _) d
def Kw(I:Inv X pins σ H s)(e:H a=some (.ins C dx fs))(c:Cls X.K C)(k:Meth X.K C m g)(l:fs.lookup m=none)
  (h:Q (.ref g,[.ref a]) s):wpAny (model X.prog X.w) A (getMethod (.ref a) m pl) Q E s:=by
 obtain⟨d,O,r,_,_,_⟩:=wJ I.hok e;have b:=RelO.none_of (by rw[<- l];exact r m);exact jdG I.kIn O (c.get m) k.at_ k.fn b h
def jak(I:Inv X pins σ H s)(e:H a=some (.ins C dx fs))(c:Cls X.K C)(n:NoAttr X.K C f)(hl:fs.length<1000)(l:RelV y u)
  (h:∀ s',Inv X pins σ (upd H a<|.ins C dx<|Qv f y fs) s'->Q () s'):wpAny (model X.prog X.w) A (setAttr (.ref a) f u) Q E s:=by
 obtain⟨i,O,r,j,_,k⟩:=wJ I.hok e;have m:(fs.map (·.1)).length<=sizeLine:=by rw[L0,sizeLine_eq];lia
 refine jhy I.kIn O c.sa c.po n.taker c.hd j m λp d t=>h _ ?_;have hd:∃ o,p.get? dx=some o:=let ⟨o,_,_,e',_⟩:=d.ns;⟨o,e'⟩
 refine I.write (by rw[e];exact True.intro) (.inr k) (λb q v z=>(t.2 b v).trans z) hd ?_;refine⟨by rw[ji O.ne];exact k,?_,O.ne,d.obj,_,d.ns,λg=>?_,λg x=>?_⟩
 ·have:=Vs f y fs;lia
 ·show RelO ((Qv f y fs).lookup g) (if g=f then some u else i g);rw[Vl];by_cases q:g=f
  ·rw[if_pos q,if_pos q];exact l
  ·rw[if_neg q,if_neg q];exact r g
 ·by_cases q:g=f
  ·rw[q];exact(VD f y fs).1
  ·refine(VD f y fs).2 g (j g λz=>x ?_);show(if g=f then some u else i g)=none;rw[if_neg q];exact z
def Inv.made(I:Inv X pins σ H s):Inv X pins σ (upd (upd H ↥s (.own<|↥s+1)) (↥s+1)<|.ins C ↥s [])
  {s with heap:=(s.heap.push PySem.W.emptyDict).push (PySem.W.instObj C ↥s)}:=by
 have a:(s.heap.push PySem.W.emptyDict).get? ↥s=some PySem.W.emptyDict:=E7 s.heap rfl;have e2:((s.heap.push PySem.W.emptyDict).push (PySem.W.instObj C ↥s)).get? (↥s+1)=some (PySem.W.instObj C ↥s):=by
  have:=E7 (s.heap.push PySem.W.emptyDict) (o:=PySem.W.instObj C ↥s) rfl
  rwa [Heap.size_push] at this
 have e3:(s.heap.push PySem.W.emptyDict).Ns ↥s (λ_=>none):=⟨PySem.W.emptyDict,#[],_,a,rfl,(λe c=>absurd c<|by simp),λ_=>rfl⟩;refine(I.laid (o:=.own<|↥s+1) (t':=s.toks) (λb u q=>L8 _ q) (M9 _) ⟨_,a⟩).laid (λb u q=>L8 _ q) (Nat.le_of_eq<|Heap.size_push _ _) ?_;have ne:↥s≠↥s+1:=N8<|Nat.lt_succ_self _;refine⟨by rw[ji ne,jV],X4 _,ne,e2,λ_=>none,(Heap.Ns1.of_empty e3).at λo q=>L8 _ q,λ_=>True.intro,λy d=>absurd rfl d⟩
def jir(a:attributeBase e f env (eval e env)=eval e env)
  (h:wpAny (model prog w) A (eval e env) (λo s₁=>wpAny (model prog w) A (getAttr o f true) Q E s₁) E s):wpAny (model prog w) A (eval (.Attribute e f pos) env) Q E s:=
 Attribute_any_ h (by rw[arm_eval_Attribute,a])
end
def jiK(K:J4)(ta:TE)(f:Str):TE:=λσ H Q=>ta σ H λx H1=>∃ a C dx fs v,x=.ref a/\H1 a=some (.ins C dx fs)/\Cls K C/\NoAttr K C f/\fs.lookup f=some v/\Q v H1
def jmS(K:J4)(ta tv:TE)(f:Str):TS:=λD σ H=>tv σ H λy H1=>ta σ H1 λx H2=>∃ a C dx fs,x=.ref a/\H2 a=some (.ins C dx fs)/\Cls K C/\NoAttr K C f/\fs.length<1000 /\
 D.nx σ (upd H2 a<|.ins C dx<|Qv f y fs)
section
variable {X:Cx}{o e value:Expr}{f:Str}{pos pos' tpos:Pos}{ta tv:TE}
def jfK(d:PE X e ta)(g:attributeBase e f X.env (eval e X.env)=eval e X.env):PE X (.Attribute e f pos) (jiK X.K ta f):=by
 intro b s σ H Q I h;refine jir g<|thn (d b s σ H _ I h) λu t i=>?_;obtain⟨x,j,k,m,a,C,w,fs,v,ex,o,c,n,l,q⟩:=i;subst ex;obtain rfl:u=Value.ref a:=m;exact jax k o c n l λy z p r=>⟨v,j,p,r,q⟩
def jkJ(d:PE X o ta)(e:PE X value tv)(g:swapsWith value (some<|.Attribute o f pos') pos.line X.env=pure false):PS X (.Assign [.Attribute o f pos'] value pos) (jmS X.K ta tv f):=by
 intro b s σ H D I h;refine plainObj_wpAny_Assign_Attribute (thn (e b s σ H _ I h) λu i ⟨y,j,k,m,q⟩=>thn (d b i σ j _ k q) λp B r=>?_) g;obtain⟨x,E,t,v,a,C,F,fs,ex,w,c,n,l,z⟩:=r;subst ex;obtain rfl:p=Value.ref a:=v;exact jak t w c n l m λG A=>⟨σ,_,A,z⟩
end
structure Room(k:Nat)(A:Around):Prop where
 hd:A.handled=none
 dp:A.depth+3*k+5<recursionLimit
 un:A.units+16*k+200<cLine
def Room.mono(r:Room k A)(h:j<=k):Room j A:=⟨r.hd,by have:=r.dp;lia,by have:=r.un;lia⟩
def Room.deeper(r:Room (k+1) A)(env):Room k (A.deeper env):=
 ⟨r.hd,by have:=r.dp;show A.depth+1+3*k+5<_;lia,by have:=r.un;show A.units+3+16*k+200<_;lia⟩
def jaR{A:Around}{us}{kw}:(A.under<|.builtin "type.__call__" ⟨.ref C::us,kw⟩).depth=A.depth+1:=by
 first | rfl | simp[Around.under,Code.weight,Code.isCreation,Code.isGuard,Code.isCaller,Code.frames,Code.isFrame,guardIds]
def jaM{A:Around}{us}{kw}:(A.under<|.builtin "type.__call__" ⟨.ref C::us,kw⟩).units=A.units+1:=by
 first | rfl | simp[Around.under,Code.cUnits,Code.frames,Code.isFrame]
def Room.make(r:Room (k+1) A)(C)(us)(kw):Room k (A.under<|.builtin "type.__call__" ⟨.ref C::us,kw⟩):=
 ⟨r.hd,by have:=r.dp;rw[jaR];lia,by have:=r.un;rw[jaM];lia⟩
def Room.depth(r:Room k A):A.depth<recursionLimit:=by have:=r.dp;lia
def Room.units(r:Room k A):A.units+64<cLine:=by have:=r.un;lia
def Jl:TA:=λ_ H Q=>Q [] H
def vq(ta:TE)(tr:TA):TA:=λσ H Q=>ta σ H λx H1=>tr σ H1 λxs H2=>Q (x::xs) H2
section
variable {X:Cx}{e:Expr}{es:List Expr}{te:TE}{t:TA}{pos:Pos}
def JC:PA X [] Jl:=λ_ _ _ _ H Q I h=>Calls.spliced_nil ⟨[],H,I,.nil,h⟩
abbrev SEq(X:Cx)(e:Expr)(es:List Expr):Prop:=starEach (e::es) X.env=(false,eval e X.env)::starEach es X.env
def vy(b:PE X e te)(c:PA X es t)(d:SEq X e es:=by rfl):PA X (e::es) (vq te t):=by
 intro pos a s σ H Q I h;rw[d];refine Calls.spliced_cons<|thn (b a s σ H _ I h) λu f g=>?_;obtain⟨x,i,j,k,l⟩:=g;exact thn (c pos a f σ i _ j l) λq r ⟨xs,m,n,o,p⟩=>⟨x::xs,m,n,.cons k o,p⟩
def jlp(t:TA):TE:=λσ H Q=>t σ H λxs H1=>xs.length<=sizeLine/\∀ p,H1 p=none->Q (.ref p) (upd H1 p<|.tup xs)
def jnT(t:TA):TE:=λσ H Q=>t σ H λxs H1=>xs.length<=sizeLine/\∀ p,H1 p=none->Q (.ref p) (upd H1 p<|.lst xs)
def jfp{f}(h:PA X es t):PE X (.Tuple es f pos) (jlp t):=by
 intro a s σ H Q I g;refine wpAny_Tuple_spliced<|thn (h pos a s σ H _ I g) λi c ⟨xs,j,d,r,z,q⟩=>⟨by rw[<- r.length];exact z,?_⟩;refine⟨.ref ↥c,upd j ↥c (.tup xs),d.laid (λb u e=>L8 _ e) (M9 _) ?_,rfl,q _<|d.hok.fresh<|M9 _⟩;exact⟨z,i,r,⟨_,E7 _ rfl,rfl,_,rfl⟩,_,E7 _ rfl,rfl⟩
def jkg(h:PA X es t):PE X (.List es pos) (jnT t):=by
 intro a s σ H Q I f;refine wpAny_List_spliced<|thn (h pos a s σ H _ I f) λg c ⟨xs,i,d,r,z,q⟩=>⟨by rw[<- r.length];exact z,?_⟩;refine⟨.ref ↥c,upd i ↥c (.lst xs),d.laid (λb u e=>L8 _ e) (M9 _) ?_,rfl,q _<|d.hok.fresh<|M9 _⟩;exact⟨z,g,0,r,E7 _ rfl⟩
end
abbrev Sp:=List V->Hp->VK->XK->Prop
abbrev CXT:=List Env->Hp->Shared->XK->Value->Shared->Prop
structure Env0(P:Program)(w:World)(K:J4)(mg:K6)(base:Heap)(A:Around)(outer:List Env)(s:Shared)(H:Hp):Prop where
 frames:A.frames=some outer
 mod:Mod K mg base
 bs:∀ b o,base.get? b=some o->s.heap.get? b=some o/\H b=none
 bsz:base.objs.size<=↥s
 funs:s.heap.FunFrames base outer
 frf:∀ b∈frs outer,H b=none
 hok:HOk P w H s.heap
 bare:AllBare s.gens
def CE(outer:List Env)(P:Program)(w:World)(H:Hp)(s:Shared)(Q:VK)(u:Value)(s':Shared):Prop:=
 ∃ v H',s'.os=s.os/\AllBare s'.gens/\Un (frs outer) [] H H' s.heap s'.heap/\HOk P w H' s'.heap/\RelV v u/\Q v H'
def CR(CX:CXT)(outer:List Env)(P:Program)(w:World)(H:Hp)(s:Shared)(Q:VK)(E:XK)(r:Result)(s':Shared):Prop:=
 match r with
 | .ok (.ret u)=>CE outer P w H s Q u s'
 | .ok _=>False
 | .error e=>CX outer H s E e s'
structure FnOk(P:Program)(w:World)(K:J4)(mg:K6)(base:Heap)(CX:CXT)(k:Nat)(f:Addr)(fd:FuncData)(ps:List Str)(sp:Sp):Prop where
 len:∀ vs H Q E,sp vs H Q E->vs.length=ps.length
 run:∀(A:Around) (outer:List Env) (s:Shared) (H:Hp) (args:Args) (us:List Value) (vs:List V) (Q:VK) (E:XK),Room k A->Env0 P w K mg base A outer s H->BindsTo s fd args (ps.zip us)->Vals vs us->sp vs H Q E ->
  codeAny (model P w) A (.call (.ref f) args) (CR CX outer P w H s Q E) s
def FnOk.imp{P}{w}{K}{mg}{base}{CX}{k}{f}{fd}{ps}{sp a}(F:FnOk P w K mg base CX k f fd ps sp)
  (h:∀ vs H Q E,a vs H Q E->sp vs H Q E):FnOk P w K mg base CX k f fd ps a:=
 ⟨λvs H Q E q=>F.len vs H Q E<|h _ _ _ _ q,λA outer s H b c vs Q E d e g i j=>F.run A outer s H b c vs Q E d e g i<|h _ _ _ _ j⟩
def Env0.make{P}{w}{K}{mg}{base}{A}{outer}{s}{H}(e:Env0 P w K mg base A outer s H)(C)(us)(kw):
  Env0 P w K mg base (A.under<|.builtin "type.__call__" ⟨.ref C::us,kw⟩) outer s H:=⟨by first | exact e.frames | (simpa [Around.under,Code.envs,Code.isFrame,pushEnvs] using e.frames),e.mod,e.bs,e.bsz,e.funs,e.frf,e.hok,e.bare⟩
section
variable {X:Cx}{pins:List (Addr×Obj)}{σ:St}{H:Hp}{s s':Shared}
def Inv.env0(I:Inv X pins σ H s):Env0 X.prog X.w X.K X.mg X.base X.A X.stack s H:=
 ⟨I.ok.frames,I.ok.mod,I.bs,N9 I.ok.bsz I.sz,I.stack,I.stkFree,I.hok,I.bare⟩
def Inv.after(I:Inv X pins σ H s)(h:CE X.stack X.prog X.w H s Q u s'):EP X pins σ Q u s':=by
 obtain⟨v,c,os,bare,un,hok,r,q⟩:=h;obtain⟨e,g,d,t,a⟩:=s';obtain rfl:a=s.os:=os;exact⟨v,c,I.call un hok bare<|λb z=>absurd z<|by simp,r,q⟩
end
def JH(sp:Sp)(dvs:List V)(E:XK)(t:TA):TE:=λσ H Q=>t σ H λvs H1=>sp (vs++dvs) H1 Q E
def Y5(C:Addr)(m:Str)(sp:Sp)(dvs:List V)(E:XK)(ta:TE)(t:TA):TE:=λσ H Q=>ta σ H λx H1=>∃ a dx fs,x=.ref a/\H1 a=some (.ins C dx fs)/\fs.lookup m=none /\
 t σ H1 λvs H2=>sp (x::(vs++dvs)) H2 Q E
def jcs(C:Addr)(sp:Sp)(dvs:List V)(E:XK)(t:TA):TE:=λσ H Q=>t σ H λvs H1=>∀ x dx,H1 x=none->H1 dx=none->dx≠x ->
 sp (.ref x::(vs++dvs)) (upd (upd H1 dx<|.own x) x<|.ins C dx []) (λv H2=>v=.non/\Q (.ref x) H2) E
def Binds(K:J4)(fd:FuncData)(ps:List Str)(ds:List Value):Prop:=
 ∀ s us,K.In s.heap->(us++ds).length=ps.length->BindsTo s fd ⟨us,[]⟩ (ps.zip<|us++ds)
def Binds.all{K}{fd}{ps}(h:∀ us:List Value,us.length=ps.length->bindArgs fd ⟨us,[]⟩=pure (ps.zip us)):Binds K fd ps []:=λs us _ a=>by
 rw[N0] at a ⊢;exact .of_eq<|h us a
def Yj(CX:CXT)(X:Cx)(E:XK):Prop:=∀ pins (σ:St) H s e s',Inv X pins σ H s->CX X.stack H s E e s'->X.xe e s'
section
variable {X:Cx}{CX:CXT}{k:Nat}{f C:Addr}{fd:FuncData}{ps:List Str}{sp:Sp}{dvs:List V}{ds:List Value}{E:XK}{x m:Str}{p pos apos:Pos}{e o:Expr}{es:List Expr}{ta:TE}{t:TA}
def ux(F:FnOk X.prog X.w X.K X.mg X.base CX k f fd ps sp)(c:Room k X.A)(d:Binds X.K fd ps ds)(hd:Vals dvs ds)(g:Yj CX X E)
  (I:Inv X pins σ H s) (r:Vals vs us) (h:sp (vs++dvs) H Q E):wpAny (model X.prog X.w) X.A (call (.ref f) us) (EP X pins σ Q) X.xe s:=by
 have b:=r.append hd;have i:(us++ds).length=ps.length:=by rw[<- b.length];exact F.len _ _ _ _ h
 refine wpAny_call<|codeAny_mono (F.run X.A X.stack s H ⟨us,[]⟩ (us++ds) (vs++dvs) Q E c I.env0 (d s us I.kIn i) b h) λr j a=>?_;cases r with
 | error e=>exact g pins σ H s e j I a
 | ok l=>
  cases l with
  | ret u=>exact I.after a
  | next=>exact False.elim a
  | brk=>exact False.elim a
  | cont=>exact False.elim a
abbrev BkE(X:Cx)(p:Pos)(l:List Expr):Prop:=(backTo p<|starEach l X.env).any (·.1)=false
def jf8(F:FnOk X.prog X.w X.K X.mg X.base CX k f fd ps sp)(g:Room k X.A)(i:Gl X x)(j:X.mg x=some (.ref f))(l:PySem.W.keepIn X.K (.ref f)=true)(m:Binds X.K fd ps ds)(hd:Vals dvs ds)(n:Yj CX X E)
  (o:PA X (e::es) t) (b:Nd x:=by decide) (u:SEq X e es:=by rfl) (c:BkE X pos es:=by rfl):
  PE X (.Call (.Name x p) (e::es) [] pos) (JH sp dvs E t):=by
 intro a s σ H Q I h;exact wpAny_Call_Name_kw<|qP I i j (PySem.W.callWith_K I.ok.mod.kin l (thn (o pos a s σ H _ I h) λv y ⟨vs,z,d,r,q⟩=>⟨d.kIn,(ux F g m hd n d r q)⟩) u c) b
def jd2(F:FnOk X.prog X.w X.K X.mg X.base CX k f fd ps sp)(c:Room k X.A)(d:Gl X x)(e:X.mg x=some (.ref f))(g:PySem.W.keepIn X.K (.ref f)=true)(i:Binds X.K fd ps ds)(hd:Vals dvs ds)(j:Yj CX X E)
  (a:Nd x:=by decide):PE X (.Call (.Name x p) [] [] pos) (JH sp dvs E Jl):=by
 intro b s σ H Q I h;exact wpAny_Call_Name_kw<|qP I d e (PySem.W.callWith_K0 I.kIn g<|ux F c i hd j I .nil h) a
def jcP(p:PE X o ta)(c:Cls X.K C)(i:Meth X.K C m f)(F:FnOk X.prog X.w X.K X.mg X.base CX k f fd ps sp)(v:Room k X.A)(y:Binds X.K fd ps ds)(hd:Vals dvs ds)(z:Yj CX X E)(B:PA X (e::es) t)
  (d:SEq X e es:=by rfl) (g:BkE X pos es:=by rfl)
  (D:eval (.Call (.Attribute o m apos) (e::es) [] pos) X.env=(do
   let ov <- eval o X.env
   standAt apos.atName
   let (f,first) <- holding [ov] (getMethod ov m pl)
   callWith pos f first (backTo pos<|starEach (e::es) X.env) (backToKw pos<|keywordEach [] X.env)):=by rfl):
  PE X (.Call (.Attribute o m apos) (e::es) [] pos) (Y5 C m sp dvs E ta t):=by
 intro b s σ H Q I h;refine PySem.W.methodCall_KW (thn (p b s σ H _ I h) λu G J=>?_) D;obtain⟨x,L,j,M,a,P,fs,ex,N,l,q⟩:=J;subst ex;obtain rfl:u=Value.ref a:=M;exact Kw j N c i l<|PySem.W.callWith_K I.ok.mod.kin i.kp (thn (B pos b G σ L _ j q) λR S ⟨vs,T,n,r,O⟩=>⟨n.kIn,(ux (vs:=.ref a::vs) F v y hd z n (.cons rfl r) O)⟩) d g
def uX(g:PE X o ta)(c:Cls X.K C)(e:Meth X.K C m f)(F:FnOk X.prog X.w X.K X.mg X.base CX k f fd ps sp)(i:Room k X.A)(j:Binds X.K fd ps ds)(hd:Vals dvs ds)(n:Yj CX X E)
  (p:eval (.Call (.Attribute o m apos) [] [] pos) X.env=(do
   let ov <- eval o X.env
   standAt apos.atName
   let (f,first) <- holding [ov] (getMethod ov m pl)
   callWith pos f first (backTo pos<|starEach [] X.env) (backToKw pos<|keywordEach [] X.env)):=by rfl):
  PE X (.Call (.Attribute o m apos) [] [] pos) (Y5 C m sp dvs E ta Jl):=by
 intro b s σ H Q I h;refine PySem.W.methodCall_KW (thn (g b s σ H _ I h) λu y r=>?_) p;obtain⟨x,z,d,t,a,B,fs,ex,v,l,q⟩:=r;subst ex;obtain rfl:u=Value.ref a:=t;exact Kw d v c e l<|PySem.W.callWith_K0 d.kIn e.kp<|ux (vs:=[.ref a]) F i j hd n d (.cons rfl .nil) q
structure Mk(K:J4)(C f:Addr):Prop where
 makes:PySem.W.makesIn K C=true
 init:PySem.W.findIn K (.ref C) "__init__" = some (some<|.ref f)
 fn:PySem.W.isFn K (.ref f)=true
 kp:PySem.W.keepIn K (.ref C)=true
def jae(M:Mk X.K C f)(F:FnOk X.prog X.w X.K X.mg X.base CX k f fd ps sp)(g:Room (k+1) X.A)(i:Binds X.K fd ps ds)(hd:Vals dvs ds)
  (j:Yj CX X E) (I:Inv X pins σ H s) (r:Vals vs us)
  (h:∀ x dx,H x=none->H dx=none->dx≠x->sp (.ref x::(vs++dvs)) (upd (upd H dx<|.own x) x<|.ins C dx []) (λv H2=>v=.non/\Q (.ref x) H2) E):
  wpAny (model X.prog X.w) X.A (call (.ref C) us) (EP X pins σ Q) X.xe s:=by
 have c:=h (↥s+1) ↥s (I.hok.fresh<|Nat.le_succ _) (I.hok.fresh<|M9 _) (N8<|Nat.lt_succ_self _);have b:=Inv.made (C:=C) I;have d:Vals (V.ref (↥s+1)::(vs++dvs)) (Value.ref (↥s+1)::(us++ds)):=.cons rfl<|r.append hd;have l:(Value.ref (↥s+1)::us++ds).length=ps.length:=by
  have e:=d.length;rw[F.len _ _ _ _ c] at e;exact e.symm
 refine wpAny_call<|jdz I.kIn M.makes M.init (beq_iff_eq.mp M.fn)<|codeAny_mono (F.run _ X.stack _ _ ⟨Value.ref (↥s+1)::us,[]⟩ (Value.ref (↥s+1)::(us++ds)) _ _ E (g.make C us [])
  (b.env0.make C us []) (i _ (Value.ref (↥s+1)::us) b.kIn l) d c) λr m a=>?_
 cases r with
 | error e=>exact j pins σ _ _ e m b a
 | ok n=>
  cases n with
  | ret u=>
   obtain⟨v,o,p,q,t,y⟩:=b.after a;subst t;exact⟨q,⟨V.ref<|↥s+1,o,p,rfl,y⟩⟩
  | next=>exact False.elim a
  | brk=>exact False.elim a
  | cont=>exact False.elim a
def jgl(M:Mk X.K C f)(F:FnOk X.prog X.w X.K X.mg X.base CX k f fd ps sp)(g:Room (k+1) X.A)(i:Gl X x)(j:X.mg x=some (.ref C))(l:Binds X.K fd ps ds)(hd:Vals dvs ds)(m:Yj CX X E)
  (n:PA X (e::es) t) (b:Nd x:=by decide) (o:SEq X e es:=by rfl) (c:BkE X pos es:=by rfl):
  PE X (.Call (.Name x p) (e::es) [] pos) (jcs C sp dvs E t):=by
 intro a s σ H Q I h;exact wpAny_Call_Name_kw<|qP I i j (PySem.W.callWith_K I.ok.mod.kin M.kp (thn (n pos a s σ H _ I h) λu v ⟨vs,y,d,r,q⟩=>⟨d.kIn,(jae M F g l hd m d r q)⟩) o c) b
def jdM(M:Mk X.K C f)(F:FnOk X.prog X.w X.K X.mg X.base CX k f fd ps sp)(c:Room (k+1) X.A)(d:Gl X x)(e:X.mg x=some (.ref C))(g:Binds X.K fd ps ds)(hd:Vals dvs ds)(i:Yj CX X E)
  (a:Nd x:=by decide):PE X (.Call (.Name x p) [] [] pos) (jcs C sp dvs E Jl):=by
 intro b s σ H Q I h;exact wpAny_Call_Name_kw<|qP I d e (PySem.W.callWith_K0 I.kIn M.kp<|jae M F c g hd i I .nil h) a
end
def PK(X:Cx)(kws:List Keyword)(t:TA):Prop:=
 ∀ pos pins s (σ:St) H (Q:List V->Hp->Prop),Inv X pins σ H s->t σ H Q->wpAny (model X.prog X.w) X.A (evalAll ((backToKw pos<|keywordEach kws X.env).map (·.2))) (AP X pins σ Q) X.xe s
structure FnScope(N P:List Str)(sc:Scope):Prop where
 kind:sc.kind=.function
 co:sc.isCoroutine=false
 gen:sc.isGenerator=false
 nd:N.Nodup
 pre:N.take P.length=P
 par:∀ x∈P,sc.names.lookup x=some .local\/sc.names.lookup x=some .cell
 nofree:∀ y∈sc.names,y.2≠.free
theorem xh{kindOf}  : ∀{binds}{m},(∀ v,(x,v)∉binds)->bindL kindOf binds m x=m x
 | [],_,_=>rfl
 | (n,v)::r,m,h=>by
  unfold bindL;rw[xh λw a=>h w<|L5 _ a];split
  ·have:x≠n:=by rintro rfl;exact h v L6
   simp[this]
  ·rfl
theorem zB{kindOf}  : ∀{binds}{m},(∀ v,(x,v)∉binds)->bindC kindOf binds m x=m x
 | [],_,_=>rfl
 | (n,v)::r,m,h=>by
  unfold bindC;rw[zB λw a=>h w<|L5 _ a];split
  ·rfl
  ·have:x≠n:=by rintro rfl;exact h v L6
   simp[this]
theorem Q8{kindOf}  : ∀{P:List Str}{vs}{i:Nat}{m},P.Nodup->P[i]?=some x->vs[i]?=some v->kindOf x=some .local ->
  bindL kindOf (P.zip vs) m x=some v
 | [],_,_,_,_,h,_,_=>by simp at h
 | _::_,[],_,_,_,_,h,_=>by simp at h
 | p::P,w::vs,0,m,nd,a,b,c=>by
  simp at a b;subst a;subst b;show bindL kindOf ((p,w)::P.zip vs) m p=_;unfold bindL;rw[xh λv d=>(List.nodup_cons.mp nd).1 (List.of_mem_zip d).1,if_pos c];simp
 | p::P,w::vs,i+1,m,nd,a,b,c=>by
  unfold bindL;exact Q8 (List.nodup_cons.mp nd).2 ⇑a ⇑b c
theorem xC{kindOf}  : ∀{P:List Str}{vs}{i:Nat}{m},P.Nodup->P[i]?=some x->vs[i]?=some v->kindOf x≠some .local ->
  bindC kindOf (P.zip vs) m x=some v
 | [],_,_,_,_,h,_,_=>by simp at h
 | _::_,[],_,_,_,_,h,_=>by simp at h
 | p::P,w::vs,0,m,nd,a,b,c=>by
  simp at a b;subst a;subst b;show bindC kindOf ((p,w)::P.zip vs) m p=_;unfold bindC;rw[zB λv d=>(List.nodup_cons.mp nd).1 (List.of_mem_zip d).1,if_neg c];simp
 | p::P,w::vs,i+1,m,nd,a,b,c=>by
  unfold bindC;exact xC (List.nodup_cons.mp nd).2 ⇑a ⇑b c
noncomputable def start(N:List Str)(vs:List V):St:=vs.map some++List.replicate (N.length-vs.length) none
noncomputable def jeg(CX:CXT)(P:Program)(w:World)(K:J4)(mg:K6)(base:Heap)(N:List Str)(qual:Str)(scope:Scope)(f:Addr)(cd:Value)(A:Around)(outer:List Env)(s:Shared)(H:Hp)(E:XK):Cx where
 prog:=P
 w:=w
 K:=K
 mg:=mg
 base:=base
 A:=A.deeper (envOfC qual scope ↥s f cd)
 N:=N
 s₀:=s
 H₀:=H
 env:=envOfC qual scope ↥s f cd
 outer:=outer
 stack:=envOfC qual scope ↥s f cd::outer
 ex:=[]
 calm:=true
 fn:=λ_=>true
 pn:=[]
 xe:=λe s'=>wpAny (model P w) (A.deeper<|envOfC qual scope ↥s f cd) (leaving (envOfC qual scope ↥s f cd) e) (λ_ s''=>CX outer H s E e s'') (λe' s''=>CX outer H s E e' s'') s'
def uA{a:Scope}{n}(h:a.names.lookup x=some .cell):∃ c,(cellsFrom n a.names []).lookup x=some c:=by
 exact Option.isSome_iff_exists.mp<|PySem.W.cellsFrom_some a.names n []<|.inl h
def jcJ{CX}{P}{w}{K}{mg}{base}{N ps}{qual}{scope}{f}{cd}{A}{outer}{s B}{H}{E}{us}{vs}
  (S:FnScope N ps scope) (hd:A.handled=none) (g:Env0 P w K mg base A outer s H) (hl:vs.length=ps.length) (r:Vals vs us)
  (x:InCallC s ↥s (bindL (envOfC qual scope ↥s f cd).kindOf (ps.zip us) λ_=>none) (cellsFrom (↥s+1) scope.names []) (bindC (envOfC qual scope ↥s f cd).kindOf (ps.zip us) λ_=>none) B):
  Inv (jeg CX P w K mg base N qual scope f cd A outer s H E) [] (start N vs) H B:=by
 have F:ps.length<=N.length:=by have:=congrArg List.length S.pre;rw[E6] at this;lia
 obtain⟨o,J,rfl,C⟩:=x.done;have j:∀ b:Addr,b∉(jeg CX P w K mg base N qual scope f cd A outer s H E).ex:=λb z=>absurd (show b∈([]:J9) from z) (by simp);refine⟨⟨g.mod,S.kind,rfl,rfl,M9 _,λy z c o d=>?_,λy l=>?_,λy c _ h=>?_,λ_=>hd,Around.frames_deeper g.frames,.inr ⟨rfl,rfl⟩,λb z=>absurd z<|j b,g.bs,g.bsz,λb _ _=>j b,λb z=>absurd z<|j b,g.funs,g.frf⟩,
  rfl,g.bare,Un.kept C,⟨_,x.toInCall.ns,λi y v o d L=>?_⟩,λy c h=>⟨_,x.cell y c h⟩,g.hok.fresh<|M9 _,λy c h=>?_,λp m=>absurd (show p∈([]:J1) from m)<|by simp,g.hok.kept C,?_⟩
 ·exact name_of_addr x.apart (PySem.mem_of_lookup o)<|PySem.mem_of_lookup d
 ·have l:=l;rcases l with l | l
  ·exact uA l
  ·exact absurd rfl<|S.nofree _<|PySem.mem_of_lookup l
 ·exact Nat.le_of_lt<|x.above y c<|PySem.mem_of_lookup h
 ·have t:i<vs.length:=by
   unfold start at d;by_cases t:i<vs.length
   ·exact t
   ·rw[List.getElem?_append_right ⇑t,List.getElem?_replicate] at d;split at d<;>cases d
  have G:vs[i]?=some v:=by
   unfold start at d;rw[List.getElem?_append_left ⇑t,List.getElem?_map] at d;cases e:vs[i]? with
   | none=>rw[e] at d;cases d
   | some a=>rw[e] at d;cases d;rfl
  obtain⟨u,D,I⟩:=r.get G;have m:ps[i]?=some y:=by
   rw[<- S.pre,List.getElem?_take_of_lt ∅];exact o
  have n:ps.Nodup:=by rw[<- S.pre];exact S.nd.sublist<|List.take_sublist _ _
  refine⟨u,I,?_⟩;rcases S.par y (List.mem_of_getElem? m) with k | k
  ·exact .inl ⟨k,Q8 n m D k⟩
  ·obtain⟨c,e⟩:=uA k;refine .inr ⟨.inl k,c,e,?_⟩;have q:=x.cell y c e;rw[xC n m D<|by show scope.names.lookup y≠_;rw[k];decide] at q;exact q
 ·exact g.hok.fresh<|Nat.le_of_lt<|x.above y c<|PySem.mem_of_lookup h
 ·unfold start;show _=N.length;rw[N6,L0,List.length_replicate]
  lia
def jnm{CX}{P}{w}{K}{mg}{base}{k}{f}{name qual}{params}{body}{scope}{D kV h pm a ct oc}{an od}
  {m:Array (Option Value)}{N ps:List Str}{sp:Sp}(M:K.lookup f=some ⟨oc,od,.func<|PySem.W.fnOf name qual params body scope D kV h pm an a ct,m⟩) (p:PySem.W.codeIn K a qual=true) (S:FnScope N ps scope)
  (len:∀ vs H Q E,sp vs H Q E->vs.length=ps.length)
  (c:∀ A outer s H vs Q E,Room k (A.deeper<|envOfC qual scope ↥s f a)->sp vs H Q E ->
   ∃ t,PSs (jeg CX P w K mg base N qual scope f a A outer s H E) body t/\t {nx:=λ_ H'=>Q .non H',rt:=Q} (start N vs) H):
  FnOk P w K mg base CX (k+1) f (PySem.W.fnOf name qual params body scope D kV h pm an a ct) ps sp:=by
 refine⟨len,λA outer s H F O vs Q E z i R r j=>?_⟩;have G:=i.mod.kin.keeps λb o e=>(i.bs b o e).1;have d:∀ y∈ps.zip O,scope.names.lookup y.1=some .local\/(scope.names.lookup y.1=some .cell/\((cellsFrom (↥s+1) scope.names []).lookup y.1).isSome=true):=λ⟨n,v⟩ T=>by
  rcases S.par n (List.of_mem_zip T).1 with q | q
  ·exact .inl q
  ·exact .inr ⟨q,PySem.W.cellsFrom_some _ _ _<|.inl q⟩
 refine codeAny_call_function z.depth (G _ _ M) rfl S.co S.gen rfl (PySem.W.codeRec_of G p)<|R _ _ _ _<|wpAny_newFunctionEnv_cells S.kind d λenv U L x=>?_;subst U;refine⟨(i.mod.nolimit.keeps λb o e=>(i.bs b o e).1).keeps x.toInCall.keep,codeAny_func ?_⟩;obtain⟨t,X,Y⟩:=c A outer s H vs Q E (z.deeper _) j;have I:Inv (jeg CX P w K mg base N qual scope f a A outer s H E) [] (start N vs) H L:=jcJ S z.hd i (len _ _ _ _ j) r x;refine wpAny_mono (X [] L (start N vs) H _ I Y) (λZ B g=>?_) λe B g=>g;have fin:∀{l}{H'}{v}{u},Inv (jeg CX P w K mg base N qual scope f a A outer s H E) [] l H' B->RelV v u->Q v H'->CE outer P w H s Q u B:=
  λ{l H' v u} J C q=>⟨v,H',J.os,J.bare,J.base,J.hok,C,q⟩
 cases Z with
 | ret u=>
  obtain⟨v,l,H',J,C,q⟩:=g;exact fin J C q
 | next=>
  obtain⟨l,H',J,q⟩:=g;exact fin (v:=V.non) J rfl q
 | brk=>
  obtain⟨_,_,_,q⟩:=g;exact False.elim q
 | cont=>
  obtain⟨_,_,_,q⟩:=g;exact False.elim q
section
variable {X:Cx}{x:Str}{p pos:Pos}{e:Expr}{es:List Expr}{t:TA}{id T:String}{r:List V->Hp->VK->Prop}
def tCB(r:List V->Hp->VK->Prop)(t:TA):TE:=λσ H Q=>t σ H λvs H1=>r vs H1 Q
def Qx(d:CallR X (.builtin id) r)(f:Gl X x)(g:X.mg x=none)(i:bootBuiltins x=some (.builtin id))(j:PA X (e::es) t)(hn:x≠"__name__":=by decide)(b:Nd x:=by decide)
  (k:SEq X e es:=by rfl) (c:BkE X pos es:=by rfl):PE X (.Call (.Name x p) (e::es) [] pos) (tCB r t):=by
 intro a s σ H Q I h;exact wpAny_Call_Name_kw<|YQ I f g i (PyProof.Rows.callWith_builtin1 (thn (j pos a s σ H _ I h) λl m ⟨vs,n,o,q,u⟩=>d a m σ n vs l Q o q u) k c) hn b
def jbI(d:CallR X (.type T) r)(f:Gl X x)(g:X.mg x=none)(i:bootBuiltins x=some (.type T))(j:PA X (e::es) t)(hn:x≠"__name__":=by decide)(b:Nd x:=by decide)
  (k:SEq X e es:=by rfl) (c:BkE X pos es:=by rfl):PE X (.Call (.Name x p) (e::es) [] pos) (tCB r t):=by
 intro a s σ H Q I h;exact wpAny_Call_Name_kw<|YQ I f g i (PyProof.Rows.callWith_type1 (thn (j pos a s σ H _ I h) λl m ⟨vs,n,o,q,u⟩=>d a m σ n vs l Q o q u) k c) hn b
end
end L2
namespace HT
open PySem PyProof.Rows
section
open PySem.SeqAt
open PySem.AutoSeq1 (wpAny_loadPart')
open PySem.MeetsSeq PySem.MeetsSeq2 PySem.MeetsSeq3
end
section
variable {prog:Program}{w:World}{A:Around}{E:J0}{s:Shared}
def cat_tup(p:IsTup s.heap t vs.toArray)(q:IsTup s.heap b ws.toArray)(k:vs≠[])
  (h1:ws=[]->Q (.ref t) s) (h2:ws≠[]->Q (.ref ↥s) { s with heap:=s.heap.push {cls:=.type "tuple",data:=.seq (vs++ws).toArray} })
  (hsz:vs.length+ws.length<=sizeLine):wpAny (model prog w) A (binaryOp .Add (.ref t)<|.ref b) Q E s:=by
 obtain⟨⟨cls,dd,data,l⟩,f,r,n,hd⟩:=id p;obtain⟨⟨m,c,h,d⟩,a,i,o,j⟩:=id q;subst r hd i j;have e:vs.toArray++ws.toArray=(vs++ws).toArray:=by simp
 by_cases g:ws=[]
 ·exact concat_meets ⟨_,f,rfl⟩ ⟨_,a,rfl⟩ noFill_tuple_add seq_tuple_add PySem.F.slot_tuple_add PySem.F.entry_tuple_add (PySem.F.args_tuple_add_2 _ _)
   (tuple_addW1 t b vs.toArray ws.toArray n o dd c l d ⇑k (by simp[g])) ⟨f,a,h1 g⟩
 ·refine concat_meets ⟨_,f,rfl⟩ ⟨_,a,rfl⟩ noFill_tuple_add seq_tuple_add PySem.F.slot_tuple_add PySem.F.entry_tuple_add (PySem.F.args_tuple_add_2 _ _)
   (tuple_addW2 t b vs.toArray ws.toArray n o dd c l d ⇑k ⇑g (by rw[N5,N5];exact hsz)) ⟨f,a,?_⟩
  rw[e];exact h2 g
noncomputable def sIx(n d:Nat):Option Int->Nat
 | none=>d
 | some v=>if v<0 then(v+(n:Int)).toNat else min v.toNat n
def sIx_none(n d):sIx n d none=d:=rfl
def sIx_nat(n d k:Nat):sIx n d (some (k:Int))=min k n:=by
 show(if k<0 then(k+(n:Int)).toNat else min (k:Int).toNat n)=min k n;rw[if_neg ∅,U0]
def sIx_le(n d)(hd:d<=n)(o):sIx n d o<=n:=by
 cases o with
 | none=>exact hd
 | some v=>
  show(if v<0 then(v+n).toNat else min v.toNat n)<=n;by_cases a:v<0
  ·rw[if_pos a];lia
  ·rw[if_neg a];exact Nat.min_le_right _ _
def jda(v)(n d:Nat):(if v<0 then max (v+(n:Int)) 0 else min v (n:Int))=((sIx n d (some v):Nat):Int):=by
 show(if v<0 then max (v+n) 0 else min v n)=(((if v<0 then(v+n).toNat else min v.toNat n):Nat):Int);by_cases a:v<0
 ·simp only[if_pos a];lia
 ·simp only[if_neg a];lia
def jaK(lo hi)(n:Nat):Builtin.Slice.sliceAdjust lo hi 1 (n:Int)=(((sIx n 0 lo:Nat):Int),((sIx n n hi:Nat):Int)):=by
 refine Prod.ext ?_ ?_
 ·cases lo with
  | none=>rfl
  | some v=>exact jda v n 0
 ·cases hi with
  | none=>rfl
  | some v=>exact jda v n n
def jap(i j:Nat):Builtin.Slice.slicePlaces (i:Int) (j:Int) 1=j-i:=by
 unfold Builtin.Slice.slicePlaces;split<;>lia
def Kk(p:IsPart v o)(h:Q o s):wpAny (model prog w) A (Builtin.Slice.slicePartIndex v) Q E s:=by
 cases p with
 | none=>exact slicePart_none h
 | int i t=>exact slicePart_int h
def Y9{lo hi}{n}{Q:Int×Int×Nat->Shared->Prop}(c:s.heap.IsSliceOf sl vl vu .none)(pl:IsPart vl lo)(d:IsPart vu hi)
  (h:Q (((sIx n 0 lo:Nat):Int),1,sIx n n hi-sIx n 0 lo) s):wpAny (model prog w) A (Builtin.Slice.sliceApplied (.ref sl)<|pure (n:Int)) Q E s:=by
 obtain⟨os,a,e,b⟩:=id c;refine L1<|L1<|X5 a b rfl<|L1<|X5 a b rfl<|L1<|X5 a b rfl<|M7<|L1<|slicePart_none<|L1<|Kk pl<|L1<|Kk d<|L1<|M7 ?_;show wpAny _ _ (match Builtin.Slice.sliceAdjust lo hi 1 n with | (lo,hi)=>pure (lo,(1:Int),Builtin.Slice.slicePlaces lo hi 1)) _ _ s;rw[jaK lo hi n];show wpAny _ _ (pure (((sIx n 0 lo:Nat):Int),1,Builtin.Slice.slicePlaces ((sIx n 0 lo:Nat):Int) ((sIx n n hi:Nat):Int) 1)) _ _ s;rw[jap];exact M7 h
def jfg(xs:Array Value)(i k:Nat):((List.range k).filterMap λ(m:Nat)=>xs[((i:Int)+(m:Int)*1).toNat]?).toArray=((xs.toList.drop i).take k).toArray:=by
 have e:(λ(m:Nat)=>xs[(i+(m:Int)*1).toNat]?)=λm=>xs[i+m]?:=by
  funext m
  have:(i+(m:Int)*1).toNat=i+m:=by lia
  rw[this]
 rw[e];have:=pick_run xs i k;rw[List.filterMap_map] at this;have e2:((λx=>xs[x]?) ∘ λx=>i+x)=λm=>xs[i+m]?:=rfl;rw[e2] at this;rw[this]
def getItem_tuple_cut{a}{lo hi}{Q}(c:IsTup s.heap t a)(i:s.heap.IsSliceOf sl vl vu .none)(pl:IsPart vl lo)(j:IsPart vu hi)
  (k:¬ (sIx a.size 0 lo=0/\sIx a.size a.size hi=a.size))
  (h:Q (.ref ↥s) { s with heap:=s.heap.push {cls:=.type "tuple",data:=.seq ((a.toList.drop<|sIx a.size 0 lo).take (sIx a.size a.size hi-sIx a.size 0 lo)).toArray} })
  (hsz:a.size<=sizeLine):wpAny (model prog w) A (getItem (.ref t)<|.ref sl) Q E s:=by
 have b:sizeOk (.seq ((a.toList.drop<|sIx a.size 0 lo).take (sIx a.size a.size hi-sIx a.size 0 lo)).toArray):=by
  show((a.toList.drop<|sIx a.size 0 lo).take (sIx a.size a.size hi-sIx a.size 0 lo)).toArray.size<=sizeLine;rw[N5,E6,List.length_drop,Array.length_toList]
  lia
 obtain⟨os,d,e,l⟩:=id i;have f:s.TypeIs (.ref sl) "slice":=⟨os,d,e⟩;unfold getItem
 try with_reducible refine wpAny_holding ?_
 first | refine L1 (M7 ?_) | skip
 refine L1<|wpAny_sequenceKey c.typeIs (by decide) ?_;refine L1<|wpAny_callSpecial?_slot c.typeIs PyProof.Rows.slot_tuple_getitem<|wpAny_call_entry PyProof.Rows.slot_tuple_getitem c.typeIs entry_tuple_getitem ?_<|args_tuple_getitem _ _
 show wpAny _ _ (Builtin.Tuple.tupleItemsOf (.ref t) >>= _) _ _ s;refine L1<|tupleItemsOf_ c<|L1<|wpAny_typeOf f<|L1<|Y9 i pl j ?_;have g:¬ ((((sIx a.size 0 lo:Nat):Int)==0&&(1:Int)==1&&(sIx a.size a.size hi-sIx a.size 0 lo)==a.size)=true):=by
  intro q;rw[M0,M0] at q;have m:=eq_of_beq q.1.1;have n:=eq_of_beq q.2;exact k ⟨by lia,by lia⟩
 show wpAny _ _ (if(((sIx a.size 0 lo:Nat):Int)==0&&1==1&&(sIx a.size a.size hi-sIx a.size 0 lo)==a.size)=true then _ else _) _ _ s;rw[if_neg g,jfg]
 first
  | exact L1 (wpAny_newObj_type (M7 ⟨_,rfl,M7 h⟩) b)
  | exact L1 (wpAny_newObj_type (L1 (M7 (M7 ⟨_,rfl,M7 h⟩))) b)
  | exact L1 (L1 (wpAny_newObj_type (M7 (M7 ⟨_,rfl,M7 h⟩)) b))
  | exact L1 (L1 (wpAny_newObj_type (M7 ⟨_,rfl,M7 h⟩) b))
end
end HT
namespace L2
open PySem PySem.Spec PyProof.Rows
abbrev TO:=St->Hp->(Option Int->Hp->Prop)->Prop
def PO(X:Cx)(e:Option Expr)(t:TO):Prop:=
 ∀ pins s (σ:St) H (Q:Option Int->Hp->Prop),Inv X pins σ H s->t σ H Q ->
  wpAny (model X.prog X.w) X.A (evalPart e X.env) (λu s'=>∃ o H',Inv X pins σ H' s'/\IsPart u o/\Q o H') X.xe s
def uc:TO:=λ_ H Q=>Q none H
def jhA(t:TE):TO:=λσ H Q=>t σ H λx H1=>∃ i,x=.int i/\Q (some i) H1
section
variable {X:Cx}{e:Expr}{te:TE}{lo hi:Option Expr}{tl th:TO}{pos p2:Pos}
def jg0:PO X none uc:=by
 intro a s σ H Q I h;exact M7 ⟨none,H,I,.none,h⟩
def jgE(h:PE X e te):PO X (some e) (jhA te):=by
 intro a s σ H Q I b;refine thn (h a s σ H _ I b) λu k c=>?_;obtain⟨x,d,f,g,j⟩:=c;obtain⟨i,rfl,q⟩:=j;obtain⟨t,rfl⟩:=g;exact⟨some i,d,f,.int i t,q⟩
def SlR(X:Cx)(r:V->Option Int->Option Int->Hp->VK->Prop):Prop:=
 ∀ pins s (σ:St) H x v vl vu lo hi sl Q,Inv X pins σ H s->RelV x v->s.heap.IsSliceOf sl vl vu .none->IsPart vl lo->IsPart vu hi->r x lo hi H Q ->
  ∃ T id,typeLookup (.type T) "__getitem__" = pure (some<|.builtin id)/\s.TypeIs v T/\wpAny (model X.prog X.w) X.A (getItem v<|.ref sl) (EP X pins σ Q) X.xe s
def SlR.or(h:SlR X r)(h':SlR X r'):SlR X (λx lo hi H Q=>r x lo hi H Q\/r' x lo hi H Q):=by
 intro a s σ H x v b c lo hi d Q I e f g i q;rcases q with q | q
 ·exact h a s σ H x v b c lo hi d Q I e f g i q
 ·exact h' a s σ H x v b c lo hi d Q I e f g i q
def tSl(r:V->Option Int->Option Int->Hp->VK->Prop)(te:TE)(tl th:TO):TE:=λσ H Q=>te σ H λx H1=>tl σ H1 λl H2=>th σ H2 λu H3=>r x l u H3 Q
def jdv{r}(j:SlR X r)(k:PE X e te)(hl:PO X lo tl)(m:PO X hi th):PE X (.Subscript e (.Slice lo hi none p2) pos) (tSl r te tl th):=by
 intro a s σ H Q I h;refine Subscript_<|thn (k a s σ H _ I h) λv n d=>?_;obtain⟨x,o,p,t,w⟩:=d;refine wpAny_Slice<|thn (hl a n σ o _ p w) λf y ⟨l,z,A,B,C⟩=>thn (m a y σ z _ A C) λg c d=>?_;obtain⟨u,i,D,E,F⟩:=d;refine M7 ?_;have G:Inv X a σ i { c with heap:=c.heap.push {cls:=.type "slice",data:=.fields #[f,g,.none]} }:=D.kept λb ob q=>L8 _ q;obtain⟨T,id,J,K,L⟩:=j a { c with heap:=c.heap.push {cls:=.type "slice",data:=.fields #[f,g,.none]} } σ i x v f g l u ↥c Q G t (Heap.IsSliceOf.new ..) B E F;exact tail_any K J L (by with_unfolding_all rfl)
def jiG(xs:List V)(lo hi:Option Int):List V:=(xs.drop<|HT.sIx xs.length 0 lo).take (HT.sIx xs.length xs.length hi-HT.sIx xs.length 0 lo)
def VC(xs)(lo hi):(jiG xs lo hi).length<=xs.length:=by
 unfold jiG;rw[E6,List.length_drop]
 lia
def jox(K:J4):V->Option Int->Option Int->Hp->VK->Prop:=λx lo hi H Q=>∃ a xs,x=.ref a/\SqT K H a xs /\
 ¬ (HT.sIx xs.length 0 lo=0/\HT.sIx xs.length xs.length hi=xs.length)/\∀ p,H p=none->Q (.ref p) (upd H p<|.tup<|jiG xs lo hi)
def jlR:SlR X (jox X.K):=by
 intro f s σ H x v t u d g w Q I k l m n h;obtain⟨a,xs,rfl,o,p,q⟩:=h;cases k;obtain⟨e,r,i,j⟩:=I.tuple o;have c:e.toArray.size=xs.length:=by rw[N5];exact r.length.symm
 refine⟨"tuple",_,PyProof.Rows.slot_tuple_getitem.lookup,i.typeIs,?_⟩;refine HT.getItem_tuple_cut i l m n (by rw[c];exact p) ?_ (by rw[c];exact j);rw[c];refine⟨.ref ↥s,_,I.laid (λb ob q=>L8 _ q) (M9 _) ?_,rfl,q _<|I.hok.fresh<|M9 _⟩;exact⟨N9 (VC xs d g) j,_,(r.drop<|HT.sIx xs.length 0 d).take (HT.sIx xs.length xs.length g-HT.sIx xs.length 0 d),IsTupN.new _ _⟩
def jiQ(K:J4):R2:=λx y H Q=>∃ a b xs ys,x=.ref a/\y=.ref b/\SqT K H a xs/\SqT K H b ys/\xs≠[]/\xs.length+ys.length<=sizeLine /\
 (ys=[]->Q (.ref a) H)/\(ys≠[]->∀ p,H p=none->Q (.ref p) (upd H p<|.tup<|xs++ys))
def Vals.nil_iff(r:Vals xs us):us=[]↔xs=[]:=by
 cases r with
 | nil=>simp
 | cons _ _=>simp
def jhE:OpR X (binaryOp .Add) (jiQ X.K):=by
 intro e s σ H x y v u Q I i j h;obtain⟨a,b,xs,r,rfl,rfl,k,l,m,f,n,o⟩:=h;cases i;cases j;obtain⟨p,d,p1,_⟩:=I.tuple k;obtain⟨g,c,p2,_⟩:=I.tuple l;refine HT.cat_tup p1 p2 (λz=>m<|d.nil_iff.mp z) (λz=>⟨.ref a,H,I,rfl,n<|c.nil_iff.mp z⟩) (λz=>?_) (by rw[<- d.length,<- c.length];exact f);refine⟨.ref ↥s,_,I.laid (λb ob q=>L8 _ q) (M9 _) ?_,rfl,o (λw=>z<|c.nil_iff.mpr w) _<|I.hok.fresh<|M9 _⟩;exact⟨by rw[N6];exact f,_,d.append c,IsTupN.new _ _⟩
end
noncomputable def ixN(n:Nat)(i:Int):Option Nat:=if 0<=i then(if i<n then some i.toNat else none) else if -(n:Int)<=i then some (i+n).toNat else none
def atI{α:Type}(xs:List α)(i:Int):Option α:=(ixN xs.length i).bind λj=>xs[j]?
def xJ(h:ixN n i=some j):seqIndex? i n=some j/\j<n/\-(n:Int)<=i/\i<n:=by
 unfold ixN at h;by_cases b:0<=i
 ·rw[if_pos b] at h;by_cases a:i<n
  ·rw[if_pos a] at h;have e:=E3 h;exact⟨by rw[seqIndex_of b a,e],by lia,by lia,a⟩
  ·rw[if_neg a] at h;cases h
 ·rw[if_neg b] at h;by_cases a:-n<=i
  ·rw[if_pos a] at h;exact⟨by rw[seqIndex_neg ∅ a,E3 h],by lia,a,by lia⟩
  ·rw[if_neg a] at h;cases h
def wy(h:atI xs i=some v):∃ j,An5 (seqIndex? i xs.length=some j) (xs[j]?=some v) (j<xs.length) (-(xs.length:Int)<=i) (i<xs.length):=by
 unfold atI at h;cases e:ixN xs.length i with
 | none=>rw[e] at h;cases h
 | some j=>
  rw[e] at h;obtain⟨a,b,c,d⟩:=xJ e;exact⟨j,a,h,b,c,d⟩
def Vo(b:Expr):Prop:=∀ o i,subscripted b false o i=operate [o,i] (getItem o i)
def IxR(X:Cx)(r:R2):Prop:=
 ∀ value slice pins s (σ:St) H x y v u Q,Inv X pins σ H s->RelV x v->RelV y u->r x y H Q ->
  subscripted slice false v u=operate [v,u] (getItem v u)->wpAny (model X.prog X.w) X.A (subscriptTail value slice v u) (EP X pins σ Q) X.xe s
def MtR(X:Cx)(id:String)(r:V->List V->Hp->VK->Prop):Prop:=
 ∀ pins s (σ:St) H x xs v us Q,Inv X pins σ H s->RelV x v->Vals xs us->r x xs H Q ->
  wpAny (model X.prog X.w) X.A (call (.builtin id)<|v::us) (EP X pins σ Q) X.xe s
section
variable {X:Cx}{a b:Expr}{ta tb:TE}{pos:Pos}
def IxR.or(h:IxR X r)(h':IxR X r'):IxR X (λx y H Q=>r x y H Q\/r' x y H Q):=by
 intro a slice b s σ H x y v u Q I c d q e;rcases q with q | q
 ·exact h a slice b s σ H x y v u Q I c d q e
 ·exact h' a slice b s σ H x y v u Q I c d q e
def jf0(d:IxR X r)(e:PE X a ta)(f:PE X b tb)(g:Vo b):PE X (.Subscript a b pos) (tOp r ta tb):=by
 intro c s σ H Q I h;exact Subscript_<|jmX e f I h λv u i x y j k l m q=>d a b c i σ j x y v u Q k l m q<|g _ _
def jol(K:J4):R2:=λx y H Q=>∃ p xs i v,x=.ref p/\y=.int i/\SqL K H p xs/\atI xs i=some v/\Q v H
def joi(K:J4):R2:=λx y H Q=>∃ p xs i v,x=.ref p/\y=.int i/\SqT K H p xs/\atI xs i=some v/\Q v H
def jov:R2:=λx y H Q=>∃ z i c,x=.str z/\y=.int i/\z.length<=sizeLine/\atI z.cps.toList i=some c/\Q (.str ⟨#[c]⟩) H
def ix_list:IxR X (jol X.K):=by
 intro c slice a s σ H x y v u Q I n o h k;obtain⟨p,xs,i,z,rfl,rfl,A,B,q⟩:=h;cases n;obtain⟨t,rfl⟩:=o;obtain⟨d,r,e,G⟩:=I.list A;obtain⟨j,b,C,J,D,E⟩:=wy B;obtain⟨w,l,f⟩:=r.get C;have F:=r.length;have L:=uW;have fin:EP X a σ Q w s:=⟨z,H,I,f,q⟩;by_cases m:0<=i
 ·have g:i.toNat=j:=by
   rw[seqIndex_of m E] at b;exact E3 b
  exact item_listR e.isList m ∅ (by rw[g];simpa using l) fin k
 ·have g:(i+d.toArray.size).toNat=j:=by
   rw[seqIndex_neg ∅ D] at b;rw[N5,<- F];exact E3 b
  exact subscriptTail_builtinR e.isList.typeIs slot_list_getitem.lookup
   (wpAny_getItem_list_neg e.isList ∅ (by rw[N5]<;>lia) ∅ (by rw[g];simpa using l) ⟨rfl,fin⟩) k
def ix_tup:IxR X (joi X.K):=by
 intro b slice a s σ H x y v u Q I e f h g;obtain⟨p,xs,i,z,rfl,rfl,k,l,q⟩:=h;cases e;obtain⟨t,rfl⟩:=f;obtain⟨m,r,d,B⟩:=I.tuple k;obtain⟨j,n,o,C,D,E⟩:=wy l;obtain⟨w,A,c⟩:=r.get o;have F:=uW;have fin:EP X a σ Q w s:=⟨z,H,I,c,q⟩;exact subscriptTail_builtinR d.typeIs slot_tuple_getitem.lookup
  (getItem_tuple d ∅ ∅ (by rw[N5,<- r.length];exact n) ⇑A ⟨rfl,fin⟩) g
def jkp:IxR X jov:=by
 intro a slice b s σ H x y v u Q I e f h g;obtain⟨z,i,c,rfl,rfl,r,k,q⟩:=h;obtain⟨t,rfl⟩:=e;obtain⟨w,rfl⟩:=f;obtain⟨j,d,l,A,m,n⟩:=wy k;have o:z.cps.toList.length=z.length:=by simp[Str.length]
 rw[o] at d m n;have B:=uW;exact tail_any (typeIs_str s z t) slot_str_getitem.lookup (getItem_str (by
  have p:decide (i < -(2 ^ 63:Int))=false:=E1 ∅;have e2:decide (i ≥ 2 ^ 63)=false:=E1 ∅;rw[p,e2,Bool.or_false]) (by rw[d];simpa using l) ⟨.str ⟨#[c]⟩,H,I.tok _,⟨_,rfl⟩,q⟩) g
def rIx(K:J4):R2:=λx y H Q=>jol K x y H Q\/joi K x y H Q\/jov x y H Q
def jbY:IxR X (rIx X.K):=ix_list.or<|ix_tup.or jkp
def jaL(its:List Value)(n j)(u):Obj.mapSeq (·.setIfInBounds j u) {cls:=.type "list",data:=.seq its.toArray n}={cls:=.type "list",data:=.seq (its.set j u).toArray n}:=by
 simp[Obj.mapSeq]
def Inv.lst(I:Inv X pins σ H s)(h:H p=some (.lst xs)):
  Ex2 λits n=>An3 (Vals xs its) (s.heap.get? p=some {cls:=.type "list",data:=.seq its.toArray n}) (xs.length<=sizeLine):=by
 obtain⟨z,its,n,r,e⟩:=I.hok p _ h;exact⟨its,n,r,e,z⟩
def Inv.lstUpd{pins}{s}{xs ys}{its a:List Value}{n c}{f}(I:Inv X pins σ H s)(h:H p=some (.lst xs))
  (g:s.heap.get? p=some {cls:=.type "list",data:=.seq its.toArray n}) (d:f {cls:=.type "list",data:=.seq its.toArray n}={cls:=.type "list",data:=.seq a.toArray c}) (r:Vals ys a) (hz:ys.length<=sizeLine) (t:Nat):
  Inv X pins σ (upd H p<|.lst ys) {s with heap:=s.heap.update p f,toks:=t}:=by
 have e:(s.heap.update p f).get? p=some {cls:=.type "list",data:=.seq a.toArray c}:=by
  rw[Heap.get?_update_self f g<|by rw[d]<;>rfl,d]
 refine I.write (by rw[h];trivial) (.inl rfl) (λb u i q=>(Heap.get?_update_other _ _<|Ne.symm i).trans q) ⟨_,e⟩ ?_;exact⟨hz,a,c,r,e⟩
def jgU:V->V->V->Hp->(Hp->Prop)->Prop:=λo i v H Q=>∃ p xs k j,o=.ref p/\i=.int k/\H p=some (.lst xs)/\ixN xs.length k=some j/\Q (upd H p<|.lst<|xs.set j v)
def jdP:joE X jgU:=by
 intro a s σ H o i v D E u Q I y z A h;obtain⟨p,xs,k,j,rfl,rfl,g,B,q⟩:=h;cases y;obtain⟨t,rfl⟩:=z;obtain⟨b,n,r,d,C⟩:=I.lst g;obtain⟨c,F,l,m⟩:=xJ B;have e:=r.length;have G:=uW;have w:Inv X a σ (upd H p<|.lst<|xs.set j v) {s with heap:=s.heap.update p (Obj.mapSeq (·.setIfInBounds j u))}:=
  I.lstUpd g d (jaL b n j u) (r.set A j) (by rw[List.length_set];exact C) s.toks
 by_cases x:0<=k
 ·have f:k.toNat=j:=by
   rw[seqIndex_of x m] at c;exact E3 c
  exact PySem.W.ki_setAt d x ∅ (by rw[N5,<- e];exact m) (by rw[f];exact⟨_,w,q⟩)
 ·have f:(k+b.toArray.size).toNat=j:=by
   rw[seqIndex_neg ∅ l] at c;rw[N5,<- e];exact E3 c
  exact PySem.W.ki_setBack d ∅ (by rw[N5,<- e];exact l) ∅ (by rw[f];exact⟨_,w,q⟩)
def xz(lo hi)(n):(sliceBounds lo hi none n).1=((HT.sIx n 0 lo:Nat):Int)/\(sliceBounds lo hi none n).2.1=((HT.sIx n n hi:Nat):Int)/\(sliceBounds lo hi none n).2.2=1:=by
 refine⟨?_,?_,rfl⟩
 ·cases lo with
  | none=>simp[sliceBounds,HT.sIx]
  | some i=>
   simp only[sliceBounds,HT.sIx,Option.getD_none,show 1>0 by decide,if_true];by_cases h:i<0
   ·simp only[h,if_true]<;>lia
   ·simp only[h,if_false]<;>lia
 ·cases hi with
  | none=>simp[sliceBounds,HT.sIx]
  | some i=>
   simp only[sliceBounds,HT.sIx,Option.getD_none,show 1>0 by decide,if_true];by_cases h:i<0
   ·simp only[h,if_true]<;>lia
   ·simp only[h,if_false]<;>lia
def Qo(its:List Value)(lo hi):slicePick its.toArray lo hi none=((its.drop<|HT.sIx its.length 0 lo).take (HT.sIx its.length its.length hi-HT.sIx its.length 0 lo)).toArray:=by
 obtain⟨a,b,c⟩:=xz lo hi its.toArray.size;unfold slicePick;rw[a,b,c];simp only[sliceRange_one,pick_run,N5]<;>rfl
def jom(K:J4):V->Option Int->Option Int->Hp->VK->Prop:=λx lo hi H Q=>∃ a xs,x=.ref a/\SqL K H a xs/\∀ p,H p=none->Q (.ref p) (upd H p<|.lst<|jiG xs lo hi)
def jii:SlR X (jom X.K):=by
 intro e s σ H x v p t d f u Q I i j k l h;obtain⟨a,xs,rfl,m,q⟩:=h;cases i;obtain⟨n,r,g,o⟩:=I.list m;have c:=r.length;refine⟨"list",_,slot_list_getitem.lookup,g.isList.typeIs,?_⟩;refine wpAny_getItem_list_slice g.isList j k l .none (by simp) ?_ (by rw[N5]<;>lia);rw[Qo,<- c];refine⟨.ref ↥s,_,I.laid (λb ob q=>L8 _ q) (M9 _) ?_,rfl,q _<|I.hok.fresh<|M9 _⟩;exact⟨N9 (VC xs d f) o,_,0,(r.drop<|HT.sIx xs.length 0 d).take (HT.sIx xs.length xs.length f-HT.sIx xs.length 0 d),E7 _ rfl⟩
noncomputable def VE:V->Bool
 | .non=>true
 | .bl _=>true
 | .int _=>true
 | .str _=>true
 | _=>false
noncomputable def eqV:V->V->Bool
 | .non,.non=>true
 | .bl a,.bl b=>a==b
 | .bl a,.int b=>(if a then 1 else 0)==b
 | .int a,.bl b=>a==(if b then 1 else 0)
 | .int a,.int b=>a==b
 | .str a,.str b=>a==b
 | _,_=>false
def jjk(e:RelV y u)(c:RelV x v)(g:VE y=true)(f:VE x=true):SeqAt.EqAt A s u v (eqV y x):=by
 cases y with
 | non=>
  cases e;cases x with
  | non=>cases c;exact SeqAt.EqAt.same _
  | bl b=>cases c;exact SeqAt.EqAt.none_bool b
  | int b=>obtain⟨t,rfl⟩:=c;exact SeqAt.EqAt.none_int b t
  | str b=>obtain⟨t,rfl⟩:=c;exact SeqAt.EqAt.none_str b t
  | _=>exact absurd (f) M3
 | bl a=>
  cases e;cases x with
  | non=>cases c;exact SeqAt.EqAt.bool_none a
  | bl b=>cases c;exact SeqAt.EqAt.bool_bool a b
  | int b=>obtain⟨t,rfl⟩:=c;exact SeqAt.EqAt.bool_int a b t
  | str b=>obtain⟨t,rfl⟩:=c;exact SeqAt.EqAt.bool_str a b t
  | _=>exact absurd (f) M3
 | int a=>
  obtain⟨d,rfl⟩:=e;cases x with
  | non=>cases c;exact SeqAt.EqAt.int_none a d
  | bl b=>cases c;exact SeqAt.EqAt.int_bool a d b
  | int b=>obtain⟨t,rfl⟩:=c;exact SeqAt.EqAt.int_int a d b t
  | str b=>obtain⟨t,rfl⟩:=c;exact SeqAt.EqAt.int_str a d b t
  | _=>exact absurd (f) M3
 | str a=>
  obtain⟨d,rfl⟩:=e;cases x with
  | non=>cases c;exact SeqAt.EqAt.str_none a d
  | bl b=>cases c;exact SeqAt.EqAt.str_bool a d b
  | int b=>obtain⟨t,rfl⟩:=c;exact SeqAt.EqAt.str_int a d b t
  | str b=>obtain⟨t,rfl⟩:=c;exact SeqAt.EqAt.str_str a d b t
  | _=>exact absurd (f) M3
 | _=>exact absurd (g) M3
def eqU(x:V)(u:Value):Bool:=match u with
 | .none=>eqV .non x
 | .bool b=>eqV (.bl b) x
 | .int i _=>eqV (.int i) x
 | .str z _=>eqV (.str z) x
 | _=>false
def jfS(r:RelV y u)(f:VE y=true):eqU x u=eqV y x:=by
 cases y with
 | non=>cases r;rfl
 | bl b=>cases r;rfl
 | int i=>obtain⟨t,rfl⟩:=r;rfl
 | str z=>obtain⟨t,rfl⟩:=r;rfl
 | _=>exact absurd (f) M3
theorem Vq:∀{xs}{us},Vals xs us->xs.all VE=true->us.any (eqU x)=xs.any λy=>eqV y x
 | _,_,.nil,_=>rfl
 | y::xs,u::us,.cons r t,f=>by
  rw[List.all_cons,M0] at f;rw[List.any_cons,List.any_cons,jfS r f.1,Vq t f.2]
theorem Yo(b:RelV x v)(c:VE x=true):∀{xs}{us},Vals xs us->xs.all VE=true->∀ u∈us,SeqAt.EqAt A s u v<|eqU x u
 | _,_,.nil,_=>λu a=>by cases a
 | y::xs,u::us,.cons r t,f=>λd a=>by
  rw[List.all_cons,M0] at f;rcases M4.mp a with rfl | a
  ·rw[jfS r f.1];exact jjk r b f.1 c
  ·exact Yo b c t f.2 d a
def inV(x:V)(xs:List V):Bool:=xs.any λy=>eqV y x
def rIn(K:J4)(neg:Bool):R2:=λx y H Q=>∃ p xs,y=.ref p/\(SqL K H p xs\/SqT K H p xs)/\VE x=true/\xs.all VE=true/\Q (.bl<|if neg then !inV x xs else inV x xs) H
def jcO:OpR X (compareOp .In) (rIn X.K false):=by
 intro e s σ H x y v u Q I f i h;obtain⟨p,xs,rfl,b,g,fs,q⟩:=h;cases i;rcases b with b | b
 ·obtain⟨a,r,c,j⟩:=I.list b;refine SeqAt.in_listAt (eqU x) c.isList (λw d=>Yo f g r fs w ⇑d) ⟨.bl _,H,I,rfl,?_⟩;rw[show a.toArray.any (eqU x)=a.any (eqU x) by simp,Vq r fs];exact q
 ·obtain⟨a,r,c,j⟩:=I.tuple b;refine SeqAt.in_tupleAt (eqU x) c (λw d=>Yo f g r fs w ⇑d) ⟨.bl _,H,I,rfl,?_⟩;rw[show a.toArray.any (eqU x)=a.any (eqU x) by simp,Vq r fs];exact q
def zX:OpR X (compareOp .NotIn) (rIn X.K true):=by
 intro e s σ H x y v u Q I f i h;obtain⟨p,xs,rfl,b,g,fs,q⟩:=h;cases i;rcases b with b | b
 ·obtain⟨a,r,c,j⟩:=I.list b;refine SeqAt.notIn_listAt (eqU x) c.isList (λw d=>Yo f g r fs w ⇑d) ⟨.bl _,H,I,rfl,?_⟩;rw[show a.toArray.any (eqU x)=a.any (eqU x) by simp,Vq r fs];exact q
 ·obtain⟨a,r,c,j⟩:=I.tuple b;refine SeqAt.notIn_tupleAt (eqU x) c (λw d=>Yo f g r fs w ⇑d) ⟨.bl _,H,I,rfl,?_⟩;rw[show a.toArray.any (eqU x)=a.any (eqU x) by simp,Vq r fs];exact q
def CallR.or(h:CallR X f r)(h':CallR X f r'):CallR X f (λxs H Q=>r xs H Q\/r' xs H Q):=by
 intro a s σ H xs b Q I c q;rcases q with q | q
 ·exact h a s σ H xs b Q I c q
 ·exact h' a s σ H xs b Q I c q
def zC:CallR X (.type "list") (λxs H Q=>∃ p ys,xs=[.ref p]/\(SqL X.K H p ys\/SqT X.K H p ys)/\∀ l,H l=none->Q (.ref l) (upd H l<|.lst ys)):=by
 intro d s σ H xs z Q I r h;obtain⟨p,ys,rfl,f,q⟩:=h;obtain⟨u,rfl,y⟩:=jdQ r;cases y;have fin:∀ a,Vals ys a->ys.length<=sizeLine->∀ g k,(∀ b x,s.heap.get? b=some x->g.get? b=some x) ->
   g.get? ↥s=some {cls:=.type "list",dict:=none,data:=.seq a.toArray k,slots:=#[]}->EP X d σ Q (.ref ↥s) {s with heap:=g}:=λa c i g k kp e=>
  ⟨.ref ↥s,_,I.laid kp (M9 _)<|show ObjOk X.prog X.w _ g _ (.lst ys) from⟨i,a,k,c,e⟩,rfl,q _<|I.hok.fresh<|M9 _⟩
 rcases f with f | f
 ·obtain⟨a,c,m,i⟩:=I.list f;have j:=c.length;obtain⟨o,t,v,n,hd⟩:=m.isList;exact call_list_seq p (.inl rfl) t v hd (fin a c i) (by simp only[N5]<;>lia)
 ·obtain⟨a,c,m,i⟩:=I.tuple f;have j:=c.length;obtain⟨o,t,v,n,hd⟩:=m;exact call_list_seq p (.inr rfl) t v hd (fin a c i) (by simp only[N5]<;>lia)
def kW:CallR X (.type "tuple") (λxs H Q=>∃ p ys,xs=[.ref p]/\((SqL X.K H p ys/\∀ l,H l=none->Q (.ref l) (upd H l<|.tup ys))\/(SqT X.K H p ys/\Q (.ref p) H))):=by
 intro a s σ H xs v Q I r h;obtain⟨p,ys,rfl,h⟩:=h;obtain⟨u,rfl,n⟩:=jdQ r;cases n;rcases h with⟨f,q⟩ | ⟨f,q⟩
 ·obtain⟨c,g,i,j⟩:=I.list f;have k:=g.length;refine call_tuple_list i.isList (λd kp=>?_) (by simp only[N5]<;>lia);have m:Inv X a σ H {s with heap:=d}:=I.kept kp;have t:Inv X a σ (upd H d.objs.size<|.tup ys) { s with heap:=d.push {cls:=.type "tuple",data:=.seq c.toArray} }:=
   m.laid (λb o e=>L8 _ e) (M9 _) (⟨j,c,g,IsTupN.new _ _⟩)
  exact⟨.ref d.objs.size,_,t,rfl,q _<|m.hok.fresh<|M9 _⟩
 ·obtain⟨c,g,i,j⟩:=I.tuple f;exact call_tuple_same i ⟨.ref p,H,I,rfl,q⟩
def tyV(K:J4)(T:String)(x:V)(H:Hp):Prop:=match x with
 | .str _=>T = "str"
 | .int _=>T = "int"
 | .ref p=>(T = "list"/\∃ xs,SqL K H p xs)\/(T = "tuple"/\∃ o,K.lookup p=some o/\o.cls=.type "tuple"/\o.dict=none) \/
   (T = "dict"/\((∃ kvs,H p=some (.dK kvs)) \/ ∃ kvs,H p=some (.dT kvs)))\/(T = "set"/\∃ S n,H p=some (.set S n))
 | _=>False
def jlS(I:Inv X pins σ H s)(r:RelV x v)(ty:tyV X.K T x H):
  s.TypeIs v T/\∀ a,v=.ref a->∃ ob,s.heap.get? a=some ob/\ob.dict=none:=by
 cases x with
 | str z=>
  obtain⟨t,rfl⟩:=r;cases(ty);exact⟨typeIs_str s z t,λ_ e=>nomatch e⟩
 | int i=>
  obtain⟨t,rfl⟩:=r;cases(ty);exact⟨typeIs_int s i t,λ_ e=>nomatch e⟩
 | ref p=>
  cases r;rcases ty with⟨rfl,xs,g⟩ | ⟨rfl,o,b,h,hd⟩ | ⟨rfl,b⟩ | ⟨rfl,S,n,b⟩
  ·obtain⟨j,_,f,_⟩:=I.list g;refine⟨f.isList.typeIs,λa e=>?_⟩;cases e;obtain⟨o,n,e,c,hd,_⟩:=f;exact⟨o,e,hd⟩
  ·refine⟨⟨o,I.kIn p o b,h⟩,λa e=>?_⟩;cases e;exact⟨o,I.kIn _ o b,hd⟩
  ·have z:∃ o,s.heap.get? p=some o/\o.ExactDict:=by
    rcases b with⟨d,b⟩ | ⟨d,b⟩
    ·obtain⟨_,_,_,_,o,_,_,e,ex,_⟩:=I.hok p _ b;exact⟨o,e,ex⟩
    ·obtain⟨_,_,_,_,o,_,_,e,ex,_⟩:=I.hok p _ b;exact⟨o,e,ex⟩
   obtain⟨o,e,ex⟩:=z;refine⟨⟨o,e,ex.1⟩,λa e2=>?_⟩;cases e2;exact⟨o,e,ex.2.1⟩
  ·obtain⟨o,_,_,_,e,ex,_⟩:=I.hok p _ b;refine⟨⟨o,e,ex.1⟩,λa e2=>?_⟩;cases e2;exact⟨o,e,ex.2.1⟩
 | _=>exact False.elim ty
def tBM(K:J4)(T:String)(r:V->List V->Hp->VK->Prop)(to:TE)(t:TA):TE:=λσ H Q=>to σ H λx H1=>tyV K T x H1/\t σ H1 λxs H2=>r x xs H2 Q
variable {o e:Expr}{es:List Expr}{to:TE}{t:TA}{name:Str}{apos cpos:Pos}{T id:String}{r:V->List V->Hp->VK->Prop}
def wX(pa:PlainAttrs T)(slot:Slot T name id)(g:typeOf (.builtin id)=pure (.type "method_descriptor"))(l:MtR X id r)(m:PE X o to)(n:PA X (e::es) t)
  (c:attributeBase o name X.env (eval o X.env)=eval o X.env:=by rfl)
  (f:((backTo cpos<|starEach (e::es) X.env).all (λx=>!x.1)&&(backToKw cpos<|keywordEach [] X.env).all (λx=>x.1.isSome)
   && decide ((e::es).length+([]:List Keyword).length+(if([]:List Keyword).isEmpty then 0 else 1)<30))=true:=by rfl)
  (d:(apos.endLine==cpos.line)=true:=by rfl) (p:SEq X e es:=by rfl) (b:BkE X cpos es:=by rfl):
  PE X (.Call (.Attribute o name apos) (e::es) [] cpos) (tBM X.K T r to t):=by
 intro a s σ H Q I h;refine wpAny_Call_method_late c f d rfl<|thn (m a s σ H _ I h) λv q u=>?_;obtain⟨x,w,i,j,ty,y⟩:=u;obtain⟨z,A⟩:=jlS i j ty;refine⟨T,id,pa,slot,g,z,A,?_⟩;have k:=n cpos a q σ w _ i y;rw[p] at k ⊢;refine Calls.callWith_builtin (by show(false||(backTo cpos<|starEach es X.env).any (·.1))=false;rw[b]<;>rfl)<|Calls.evalArgs_plain ?_;exact thn k λB C ⟨vs,D,E,F,G⟩=>l a C σ D x vs v B Q E j F G
end
def MtM(X:Cx)(id:String)(r:V->List V->Hp->VK->Prop):Prop:=
 ∀ pins s (σ:St) H x xs v us Q,Inv X pins σ H s->RelV x v->Vals xs us->r x xs H Q ->
  wpAny (model X.prog X.w) X.A (call (.builtin id)<|v::us) (EP X pins σ Q) X.xe s
def Vals.one(h:Vals [x] us):∃ u,us=[u]/\RelV x u:=by
 cases h with | cons r t=>cases t;exact⟨_,rfl,r⟩
def Vals.two(h:Vals [x,y] us):Ex2 λu v=>An3 (us=[u,v]) (RelV x u) (RelV y v):=by
 cases h with | cons r t=>cases t with | cons q t=>cases t;exact⟨_,_,rfl,r,q⟩
section
variable {X:Cx}{pins:List (Addr×Obj)}{σ:St}{H:Hp}{s:Shared}{l b:Addr}{xs ys zs:List V}
def Inv.lset{its a:List Value}{n}{f}{t'}(I:Inv X pins σ H s)(b:H l=some (.lst xs))
  (e:s.heap.get? l=some {cls:=.type "list",data:=.seq its.toArray n}) (c:f its.toArray=a.toArray) (d:Vals ys a) (hz:ys.length<=sizeLine):
  Inv X pins σ (upd H l<|.lst ys) {s with heap:=s.heap.update l<|Obj.mapSeq f,toks:=t'}:=by
 have q:=PySem.IsL.update e f;rw[c] at q;refine I.write (by rw[b];exact trivial) (.inl rfl) (λb' u g h=>(Heap.get?_update_other s.heap (Obj.mapSeq f)<|Ne.symm g).trans h) ⟨_,q⟩ ?_;exact⟨hz,a,_,d,q⟩
def Inv.lnew(I:Inv X pins σ H s)(a:Vals ys its)(hz:ys.length<=sizeLine):
  Inv X pins σ (upd H ↥s (.lst ys)) { s with heap:=s.heap.push {cls:=.type "list",data:=.seq its.toArray},toks:=t' }:=
 I.laid (λ_ _ q=>L8 _ q) (M9 _) ⟨hz,its,0,a,E7 _ rfl⟩
def Inv.fresh(I:Inv X pins σ H s):H ↥s=none:=I.hok.fresh<|M9 _
def Inv.lstM(I:Inv X pins σ H s)(a:H l=some (.lst xs)):xs.length<=sizeLine/\∃ its n,Vals xs its/\xs.length=its.length/\s.heap.get? l=some {cls:=.type "list",data:=.seq its.toArray n}:=by
 obtain⟨z,its,n,r,e⟩:=I.hok l _ a;exact⟨z,its,n,r,r.length,e⟩
def uL(h:n<=sizeLine):Builtin.List.listTooLong n=false:=by
 exact E1 ∅
end
section
variable {X:Cx}
def JV:V->List V->Hp->VK->Prop:=λx vs H Q=>∃ l xs y,x=.ref l/\vs=[y]/\H l=some (.lst xs)/\xs.length<sizeLine/\Q .non (upd H l<|.lst<|xs++[y])
def Ye:MtM X "list.append" JV:=by
 intro b s σ H x vs v i Q I d f h;obtain⟨l,xs,y,rfl,rfl,c,j,q⟩:=h;cases d;obtain⟨u,rfl,g⟩:=f.one;obtain⟨z,a,n,r,k,e⟩:=I.lstM c;refine call_meets F.slot_list_append ⟨_,e,rfl⟩ F.entry_list_append (F.args_list_append_2 _ _) (PySem.list_append l a.toArray n u<|by rw[N5];lia) ⟨e,?_⟩;refine⟨.non,_,I.lset c e (by simp) (r.append<|.cons g .nil) ?_,rfl,q⟩;rw[N6,List.length_singleton]
 lia
end
end L2
namespace Att
open PySem PySem.W PySem.Calls PyProof.Rows
def VX:∀ ns vs,WellAll P h vs (ns.map WData.int)->IntsAre vs ns:=by
 intro ns
 induction ns with
 | nil=>
  intro vs w;cases w;exact .nil
 | cons n ns c=>
  intro vs w;cases w with
  | cons a b=>
   cases a;exact .cons _ _<|c _ b
def script_of{l:OpenLaw}{n}(hn:l.most=some n)  {h}{b}{c}
  (e:l.row.toRowW.claim.pre b=true) (j:WellAll P h c b):
  ∃ a vs ns,c=[Value.ref a]/\b=[WData.list<|ns.map WData.int]/\h.get? a=some {cls:=.type "list",data:=.seq vs.toArray}/\IntsAre vs ns/\ns.length<=n:=by
 obtain⟨d,r,rfl,m,o⟩:=hasAllW_cons<|(pre_splitW e).1;obtain rfl:=hasAllW_nil o;obtain⟨xs,rfl,p⟩:=hasW_list m;obtain⟨ns,rfl⟩:=items_int p;have f:ns.length<=n:=by
  have i:(WTm.not<|.lt (.lit<|.int n)<|.len<|.arg 0).holds [] {args:=[.list<|ns.map .int]}=true:=by
   have i:=(holds_andW<|(pre_splitW e).2).1;rw[hn] at i;exact i
  have k:=condW_of i<|w_not<|w_lt w_lit<|w_len_list<|w_arg rfl;refine Nat.le_of_not_lt λq=>?_
  first
   | (rw[X9 q'] at k;exact absurd k (by decide))
   | (simp at k;lia)
 cases j with
 | cons s t=>
  cases t;cases s with
  | list u g=>exact⟨_,_,ns,rfl,rfl,u,VX ns _ g,f⟩
def post_true(l:OpenLaw)(a):l.row.toRowW.claim.post a (.bool true) a=true:=
 postW_of
  (by first | rfl | decide | simp[WShape.has,WShape.arms,WShape.armsAll])
  (w_eq_bool (w_res rfl) w_lit) rfl
end Att
namespace L2
open PySem PySem.Spec PyProof.Rows
theorem zG:∀{vs}{ns},IntsAre vs ns->Vals (ns.map V.int) vs
 | _,_,.nil=>.nil
 | _,_,.cons n t h=>.cons ⟨t,rfl⟩<|zG h
def joa(H:Hp):Prop:=∀ b,H b=none \/ ∃ o xs,H b=some (.frz o<|.lst xs)
def jeJ{P}{w}{K}{mg E}{CX}{k}{fa a}{fd}{x}{sp}{c}{vs}{ns}
  (N:K.In c.heap) (n:c.heap.Ns mainGlobals mg) (g:c.heap.Ns builtinsNs E) (G:∀ x:Str,x≠"__name__"->E x=bootBuiltins x) (p:c.heap.NoLimit) (T:c.gens = #[])
  (B:c.heap.get? a=some {cls:=.type "list",data:=.seq vs.toArray}) (hi:IntsAre vs ns) (hl:ns.length<=sizeLine) (U:Room k callerA)
  (F:∀ base:Heap,K.In base->base.Ns mainGlobals mg->FnOk P w K mg base CX k fa fd [x] sp) (l:∀ s u,BindsTo s fd ⟨[u],[]⟩ [(x,u)])
  (I:∀ H:Hp,joa H->SqL K H a (ns.map V.int)->sp [.ref a] H (λv _=>v=.bl true) λ_ _ _=>False)
  (J:∀ H e s',CX [] H c (λ_ _ _=>False) e s'->False):
  codeAny (model P w) callerA (.call (.ref fa) ⟨[.ref a],[]⟩) (λr s'=>r=.ok (.ret<|.bool true)/\OldK c.heap s'.heap/\s'.os=c.os/\AllBare s'.gens) c:=by
 have O:=zG hi;have j:∀ H:Hp,joa H->SqL K H a (ns.map V.int)->HOk P w H c.heap->(∀ b,H b≠none->b=a)->(H a≠none->K.lookup a=none) ->
   codeAny (model P w) callerA (.call (.ref fa) ⟨[.ref a],[]⟩) (λr s'=>r=.ok (.ret<|.bool true)/\OldK c.heap s'.heap/\s'.os=c.os/\AllBare s'.gens) c:=by
  intro H Q W hok R X;have f:∀{b}{o},c.heap.get? b=some o->H b=none->(jft c.heap H).get? b=some o:=jeY;have L:∀{b}{o}{C}{D},c.heap.get? b=some o->o.data=.dict C D->H b=none:=λ{b o C D} e d=>by
   cases q:H b with
   | none=>rfl
   | some u=>
    have M:=R b (by rw[q];simp);subst M;rw[B] at e;cases e;cases d
  have i:∀{b}{m},c.heap.Ns b m->(jft c.heap H).Ns b m:=λ{b m} ⟨o,C,D,e,d,r⟩=>⟨o,C,D,f e<|L e d,d,r⟩;have t:=λb o e=>f (N b o e) (by
   cases q:H b with
   | none=>rfl
   | some u=>
    have M:=R b (by rw[q];simp);subst M;rw[X<|by rw[q];simp] at e;cases e)
  have Y:Mod K mg (jft c.heap H):=⟨t,i n,⟨E,i g,G⟩,let ⟨mc,h1,h2⟩:=p;⟨mc,i h1,h2⟩⟩;have Z:Env0 P w K mg (jft c.heap H) callerA [] c H:=⟨rfl,Y,λb o e=>jgP e,Nat.le_of_eq<|jc3 _ _,trivial,λb g=>absurd (show b∈([]:J9) from g)<|by simp,hok,.of_eq T⟩;refine codeAny_mono ((F _ t<|i n).run callerA [] c H ⟨[.ref a],[]⟩ [.ref a] [.ref a] _ _ U Z (l c<|.ref a) (.cons rfl .nil) (I H Q W)) λr s' h=>?_;cases r with
  | error e=>exact(J H e s' h).elim
  | ok fl=>
   cases fl with
   | next=>exact False.elim h
   | brk=>exact False.elim h
   | cont=>exact False.elim h
   | ret u=>
    obtain⟨v,H',os,bare,un,y,r',q⟩:=h;subst q;obtain rfl:u=Value.bool true:=r';refine⟨rfl,OldK.of_keep λb o e=>?_,os,bare⟩;cases q:H b with
    | none=>exact un.keep b o e q (by intro z;exact absurd (show b∈([]:J9) from z)<|by simp) (by simp)
    | some u=>
     rcases Q b with z | ⟨ob,xs,z⟩
     ·rw[q] at z;cases z
     ·have z2:=un.frzs b ob _ z;obtain⟨S,_⟩:=hok b _ z;obtain⟨e2,_⟩:=y b _ z2;rw[e] at S;cases S;exact e2
 cases hk:K.lookup a with
 | some o=>
  have e:=N a o hk;rw[B] at e;cases e;refine j (λ_=>none) (λ_=>.inl rfl) (.inr ⟨_,vs.toArray,_,hk,rfl,rfl,rfl,by rw[N5,hi.length];exact hl,by simpa using O⟩) (λb u z=>by have A:=z;cases A) (λb z=>absurd rfl z)<|absurd rfl
 | none=>
  refine j (λb=>if b=a then some (.frz {cls:=.type "list",data:=.seq vs.toArray} (.lst<|ns.map V.int)) else none) (λb=>?_) (.inl<|.inr ⟨{cls:=.type "list",data:=.seq vs.toArray},if_pos rfl⟩) (λb u z=>?_) (λb z=>?_) λ_=>hk
  ·by_cases g:b=a
   ·exact .inr ⟨_,_,if_pos g⟩
   ·exact .inl<|if_neg g
  ·by_cases g:b=a
   ·have A:=(if_pos g).symm.trans z;cases A;subst g;exact⟨B,by rw[L0];exact hl,vs,_,O,B⟩
   ·have A:=(if_neg g).symm.trans z;cases A
  ·by_cases g:b=a
   ·exact g
   ·exact absurd (if_neg g) z
noncomputable def y0(s:Stmt)(j:Nat):Stmt:=match s with
 | .ClassDef _ _ _ body _ _ _ _ _ _ _=>body.getD j<|.Pass ⟨0,0,0,0⟩
 | _=>.Pass ⟨0,0,0,0⟩
noncomputable def qv(s:Stmt):Arguments:=match s with
 | .FunctionDef _ a _ _ _ _ _ _ _ _=>a
 | _=>{posonlyargs:=[],args:=[],vararg:=none,kwonlyargs:=[],kw_defaults:=[],kwarg:=none,defaults:=[]}
noncomputable def vT(s:Stmt):List Stmt:=match s with
 | .FunctionDef _ _ b _ _ _ _ _ _ _=>b
 | _=>[]
noncomputable def jG(s:Stmt):Scope:=match s with
 | .FunctionDef _ _ _ _ _ _ sc _ _ _=>sc
 | _=>{kind:=.function,names:=[],isGenerator:=false,isCoroutine:=false}
noncomputable abbrev CX0:CXT:=λ_ _ _ _ _ _=>False
noncomputable abbrev E0:XK:=λ_ _ _=>False
def zU:Yj CX0 X E0:=λ_ _ _ _ _ _ _ h=>h.elim
structure Fun(K:J4)(x qual:Str)(st:Stmt)(f:Addr)(fd:FuncData):Prop where
 ex:∃(oc:Value) (od:Option Addr) (kV doc pm:Value) (an:Option Addr) (cdv ct:Value) (osl:Array<|Option Value),
  fd=PySem.W.fnOf x qual (qv st) (vT st) (jG st) .none kV doc pm an cdv ct/\K.lookup f=some ⟨oc,od,.func fd,osl⟩/\PySem.W.codeIn K cdv qual=true
 kp:PySem.W.keepIn K (.ref f)=true
section
variable {P:Program}{w:World}{K:J4}{mg:K6}{base:Heap}
def Fun.ok{x qual}{st}{f}{fd}{N ps}{k}{sp}(F:Fun K x qual st f fd)(S:FnScope N ps<|jG st)(len:∀ vs H Q E,sp vs H Q E->vs.length=ps.length)
  (a:∀ cdv A outer s H vs Q E,Room k (A.deeper<|envOfC qual (jG st) ↥s f cdv)->sp vs H Q E ->
   ∃ t,PSs (jeg CX0 P w K mg base N qual (jG st) f cdv A outer s H E).nox (vT st) t/\t {nx:=λ_ H'=>Q .non H',rt:=Q} (start N vs) H):FnOk P w K mg base CX0 (k+1) f fd ps sp:=by
 obtain⟨oc,od,kV,d,pm,j,cdv,ct,e,rfl,g,b⟩:=F.ex;refine jnm g b S len λA outer s H vs Q E i c=>?_;obtain⟨t,h,q⟩:=a cdv A outer s H vs Q E i c;exact⟨t,h.nox,q⟩
def Fun.binds{x qual}{st}{f}{fd}{ps}(F:Fun K x qual st f fd)
  (h:∀ kV doc pm an cdv ct us,us.length=ps.length->bindArgs (PySem.W.fnOf x qual (qv st) (vT st) (jG st) .none kV doc pm an cdv ct) ⟨us,[]⟩=pure (ps.zip us)):Binds K fd ps []:=by
 obtain⟨oc,od,kV,doc,pm,an,cdv,ct,a,rfl,c,b⟩:=F.ex;exact .all<|h kV doc pm an cdv ct
def ui{x qual}{st}{f}{oc}{od an}{d}{kV b pm a ct}(l:K.lookup f=some ⟨oc,od,.func<|PySem.W.fnOf x qual (qv st) (vT st) (jG st) .none kV b pm an a ct,d⟩)
  (c:PySem.W.codeIn K a qual=true) (k:PySem.W.keepIn K (.ref f)=true):Fun K x qual st f (PySem.W.fnOf x qual (qv st) (vT st) (jG st) .none kV b pm an a ct):=⟨⟨oc,od,kV,b,pm,an,a,ct,d,rfl,l,c⟩,k⟩
end
def jlt(a:Room k A):A.units+1<cLine:=E8 (Nat.add_le_add_left (by decide:1<=64) _) a.units
def jbM(h:n<=1000):n<sizeLine:=E8 h (by decide)
def jeG{A B:Prop}(h:B):if false=true then A else B:=by
 exact h
def jdp{A B:Prop}(h:A):if true=true then A else B:=by
 exact h
def Q7(I:Nat->Shared->Prop)
  (turn:∀ n s,I n s->wpAny (model prog w) A (pyNext it) (λr s₁=>match r with
   | none=>R (.ok .next) s₁
   | some v=>wpAny (model prog w) A (letOwnedTupleGo target it v) (λ_ s₁'=>wpAny (model prog w) A (assign target env v) (λ_ s₂=>
     wpAny (model prog w) A (forIn ifs true λc r=>if r=true then do let ok <- isTrue c env (eval c env);pure (ForInStep.yield ok) else pure (ForInStep.yield r)) (λok s₃=>
      if ok=true then wpAny (model prog w) A (eval elt env) (λx s₄=>
       wpAny (model prog w) A (call (.builtin "list.append") [acc,x]) (λ_ s₅=>∃ m,m<n/\I m s₅) (λ_ _=>False) s₄) (λ_ _=>False) s₃
      else ∃ m,m<n/\I m s₃) (λ_ _=>False) s₂) (λ_ _=>False) s₁') (λ_ _=>False) s₁) (λ_ _=>False) s)
  (n:Nat) (h:I n s):
  codeAny (model prog w) A (.compLoop (.ListComp elt [⟨target,iter,ifs,0⟩] scope pos) 0 it acc env) R s:=by
 have up:∀{α}{t}{Q:α->Shared->Prop}{E:J0}{s},wpAny (model prog w) A t Q (λ_ _=>False) s->wpAny (model prog w) A t Q E s:=
  λh=>wpAny_mono h (λ_ _ x=>x) λ_ _ z=>z.elim
 refine codeAny_loop rfl I (λn s e=>(wpAny_noted<|L1<|wpAny_standAt<|L1<|thn (up<|turn n s e) λr s₁ b=>?_)) n h;cases r with
 | none=>exact M7 b
 | some v=>
  refine L1<|thn (up b) λ_ s₁' a=>L1<|thn (up a) λ_ s₂ f=>L1<|thn (up f) λok s₃ d=>?_;cases ok with
  | false=>exact M7 ⟨rfl,d⟩
  | true=>
   exact L1<|L1<|thn (up d) λx s₄ g=>L1<|thn (up g) λ_ s₅ i=>M7<|M7 ⟨rfl,i⟩
noncomputable def jeq(env:Env):List (Str×NameKind)->List (Str×Addr)->List (Str×Addr)
 | [],cs=>cs
 | (n,k)::r,cs=>jeq env r (if k==NameKind.free then(match env.cells.lookup n with | some a=>(n,a)::cs | none=>cs) else cs)
def xU(scope:Scope)(env:Env):List (Str×Addr):=jeq env scope.names []
theorem jhL:∀ l cs,(∀ n k,(n,k)∈l->k=NameKind.free->∃ c,env.cells.lookup n=some c) ->
  (forIn (m:=Sem) l cs λx r=>match x with | (n,k)=>if k==NameKind.free then do let a <- cellOf env n;pure (ForInStep.yield<|(n,a)::r) else pure (ForInStep.yield r))=pure (jeq env l cs)
 | [],cs,_=>rfl
 | (n,k)::r,cs,h=>by
  rw[List.forIn_cons];by_cases b:(k==NameKind.free)=true
  ·obtain⟨c,j⟩:=h n k L6 ∅;have o:cellOf env n=pure c:=by unfold cellOf;rw[j]
   have d:=jhL r ((n,c)::cs) λe f g i=>h e f (L5 _ g) i;simp only[b,if_true,o,pure_bind];rw[d]
   conv=>rhs;unfold jeq
   simp only[b,if_true,j]
  ·have d:=jhL r cs λe f g i=>h e f (L5 _ g) i;simp only[b,if_false,pure_bind,Bool.false_eq_true];rw[d]
   conv=>rhs;unfold jeq
   simp only[b,if_false,Bool.false_eq_true]
def jaQ(h:∀ n k,(n,k)∈scope.names->k=NameKind.free->∃ c,env.cells.lookup n=some c):closureFor scope env=pure (xU scope env):=by
 unfold closureFor xU;show(forIn scope.names [] λx r=>match x with | (n,k)=>if k==NameKind.free then do let a <- cellOf env n;pure (ForInStep.yield<|(n,a)::r) else pure (ForInStep.yield r)) >>= (pure)=_;rw[jhL scope.names [] h,pure_bind]
theorem jfP:∀ l cs,(x,c)∈jeq env l cs->(x,c)∈cs\/env.cells.lookup x=some c
 | [],_,h=>.inl h
 | (n,k)::r,cs,h=>by
  rcases jfP r _ h with z | z
  ·grind
  ·lia
theorem jbB:∀ l cs,(x,c)∈cs->(x,c)∈jeq env l cs
 | [],_,h=>h
 | (n,k)::r,cs,h=>by
  refine jbB r _ ?_;split
  ·split
   ·exact L5 _ h
   ·exact h
  ·exact h
theorem jfC(a:env.cells.lookup x=some c):∀ l cs,(x,NameKind.free)∈l->(x,c)∈jeq env l cs
 | [],_,h=>nomatch h
 | (n,k)::r,cs,h=>by
  rcases M4.mp h with e | e
  ·cases e;refine jbB r _ ?_;simp only[ a];exact L6
  ·exact jfC a r _ e
theorem J3:∀{l:List (Str×β)}{c},(x,c)∈l->∃ d,l.lookup x=some d
 | (n,a)::r,c,h=>by
  rw[List.lookup_cons];cases e:x==n with
  | true=>exact⟨a,rfl⟩
  | false=>
   rcases M4.mp h with z | z
   ·lia
   ·exact J3 z
def VU(h:(xU scope env).lookup x=some c):env.cells.lookup x=some c:=by
 rcases jfP scope.names [] (PySem.mem_of_lookup h) with z | z
 ·exact nomatch z
 ·exact z
def jbZ(a:env.cells.lookup x=some c)(f:(x,NameKind.free)∈scope.names):(xU scope env).lookup x=some c:=by
 obtain⟨d,e⟩:=J3<|jfC a scope.names [] f;have b:(xU scope env).lookup x=some d:=e;rw[b,<- VU b,a]
def JR(h:(n,k)∈(relabel scope env).names):(n,k)∈scope.names\/(k=.cell/\(n,NameKind.free)∈scope.names):=by
 obtain⟨⟨a,b⟩,c,e⟩:=M5.mp h;dsimp only at e;split at e
 ·lia
 ·lia
def kD(scope:Scope)(env:Env)(C:Addr):List (Str×Addr):=cellsFrom (C+1) scope.names<|xU scope env
theorem jbS:∀{names}{n:Nat}{acc:List (Str×Addr)},(∀ x y c,acc.lookup x=some c->acc.lookup y=some c->x=y)->(∀ x c,acc.lookup x=some c->c<n)->∀ x y c,(cellsFrom n names acc).lookup x=some c->(cellsFrom n names acc).lookup y=some c->x=y
 | [],n,acc,h,_=>h
 | (a,k)::r,n,acc,h,b=>by
  unfold cellsFrom;split
  ·refine jbS (λx y c d e=>?_)<|λx c d=>?_
   ·grind
   ·grind
  ·exact jbS h b
def jlj(h:∀ x y c,(xU scope env).lookup x=some c->(xU scope env).lookup y=some c->x=y)(a:∀ x c,(xU scope env).lookup x=some c->c<C+1)(x y)(c)(h1:(kD scope env C).lookup x=some c)(h2:(kD scope env C).lookup y=some c):x=y:=jbS h a x y c h1 h2
theorem wI:∀{names}{n}{acc},(∃ c,acc.lookup x=some c)->∃ c,(cellsFrom n names acc).lookup x=some c
 | [],_,_,h=>h
 | (a,k)::r,n,acc,h=>by
  unfold cellsFrom;split
  ·refine wI ?_;rw[List.lookup_cons];cases x==a with
   | true=>exact⟨n,rfl⟩
   | false=>exact h
  ·exact wI h
theorem jbL:∀{names}{n}{acc},(x,NameKind.cell)∈names->∃ c,(cellsFrom n names acc).lookup x=some c
 | [],_,_,h=>nomatch h
 | (a,k)::r,n,acc,h=>by
  unfold cellsFrom;rcases M4.mp h with e | e
  ·cases e;refine wI ⟨n,?_⟩;rw[List.lookup_cons,beq_self_eq_true]
  ·split
   ·exact jbL e
   ·exact jbL e
def jjK(h:(x,NameKind.cell)∈scope.names):∃ c,(kD scope env C).lookup x=some c:=jbL h
theorem wo:∀{names}{n}{acc},(x,NameKind.cell)∉names->(cellsFrom n names acc).lookup x=acc.lookup x
 | [],_,_,_=>rfl
 | (a,k)::r,n,acc,h=>by
  unfold cellsFrom;split
  ·rename_i b;have b:=eq_of_beq b;subst b;rw[wo λz=>h<|L5 _ z,List.lookup_cons];have:(x==a)=false:=U9.mpr λz=>h (by rw[z];exact L6);rw[this]
  ·exact wo λz=>h<|L5 _ z
theorem xW:∀ names (h:Heap) acc x c,(cellsFrom h.objs.size names acc).lookup x=some c->(h.objs.size<=c/\(pushCells h names).IsCell c none)\/acc.lookup x=some c
 | [],_,_,_,_,e=>.inr e
 | (a,k)::r,h,acc,x,c,e=>by
  unfold cellsFrom at e;unfold pushCells;split at e
  ·rename_i b;rw[if_pos b];rcases xW r (h.push {cls:=.type "cell",data:=.cell none}) ((a,h.objs.size)::acc) x c (by rw[Heap.size_push];exact e) with q | q
   ·rw[Heap.size_push] at q;exact .inl ⟨Nat.le_of_succ_le q.1,q.2⟩
   ·rw[List.lookup_cons] at q;cases e1:x==a with
    | true=>
     rw[e1] at q;cases q;exact .inl ⟨M9 _,⟨_,pushCells_keeps r _ _ _<|E7 _ rfl,rfl⟩⟩
    | false=>rw[e1] at q;exact .inr q
  ·rename_i b;rw[if_neg b];exact xW r h acc x c e
theorem Kn:∀ l cs,(x,c)∈jeq env l cs->(x,c)∈cs\/(x,NameKind.free)∈l
 | [],_,h=>.inl h
 | (n,k)::r,cs,h=>by
  rcases Kn r _ h with z | z
  ·grind
  ·exact .inr<|L5 _ z
def jck(h:(xU scope env).lookup x=some c):(x,NameKind.free)∈scope.names:=by
 rcases Kn scope.names [] (PySem.mem_of_lookup h) with z | z
 ·exact nomatch z
 ·exact z
def Qa 
  (h:Q (newEnv scope ↥s globals (cellsFrom (↥s+1) scope.names cl) qual none .none (some env) builtinsNs) { s with heap:=pushCells (s.heap.push {cls:=.type "dict",data:=.dict #[]}) scope.names }):
  wpAny M A (newFunctionEnv scope globals cl [] qual none .none<|some env) Q E s:=by
 simp only[newFunctionEnv,Option.isSome_some];refine L1<|wpAny_alloc ?_;refine L1<|wpAny_layCells _ (λnm a b=>by cases hq:a==NameKind.cell<;>simp[hq]) _ _ _ _ ?_;rw[Heap.size_push ..];exact L1<|M7<|M7 h
def y3(X:Cx)(scope:Scope)(N':List Str)(C:Addr)(s₃:Shared)(H₃:Hp)(fp:J9):Cx:=
 {X with N:=N',s₀:=s₃,H₀:=H₃,env:=compEnvC scope (kD scope X.env C) C X.env,outer:=X.stack,stack:=X.stack,ex:=fp,fn:=λx=>scope.names.lookup x==some NameKind.cell,pn:=[],xe:=λ_ _=>False}
structure BlockOk(X:Cx)(scope:Scope)(N':List Str)(ix:List<|Option Nat):Prop where
 kind:scope.kind=.function
 names:∀ y∈scope.names,y.2=.local->scope.names.lookup y.1=some .local
 cells:∀ y∈scope.names,y.2=.cell->scope.names.lookup y.1=some .cell
 uniq:∀ y∈scope.names,y.2=.free->scope.names.lookup y.1=some .free
 outer:∀ y∈scope.names,y.2=.free->X.env.kindOf y.1=some .cell\/X.env.kindOf y.1=some .free
 nd:N'.Nodup
 len:ix.length=N'.length
 at_:∀(i j:Nat) (x:Str),ix[i]?=some (some j)->N'[i]?=some x->X.N[j]?=some x/\(x,NameKind.free)∈scope.names
 func:X.env.scope.kind=.function
def BlockOk.free(B:BlockOk X scope N' ix)  (h:(x,NameKind.free)∈scope.names):(kD scope X.env C).lookup x=(xU scope X.env).lookup x:=
 wo λz=>by
  have a:=B.cells _ z rfl;rw[B.uniq _ h rfl] at a;cases a
noncomputable def yQ(ix:List<|Option Nat)(σ:St):St:=ix.map λo=>o.bind λj=>(σ[j]?).join
abbrev BW:=Nat->Nat->St->Hp->Prop
def jbk(tc:TT)(te:TE)(g:TG)(J:It)(p:Addr)(σ':St)(H1:Hp)(Q:Hp->Prop):Prop:=
 ∃ W:BW,(∃ m,W 0 m σ' H1)/\∀ i m σ2 H2,W i m σ2 H2->(J.stop i H2/\Q H2) \/
  (J.go i H2/\∀ x H3,J.yld i H2 x H3->g x σ2 H3 λσ4 H4=>tc σ4 H4 λb H5=>if b=true then
   te σ4 H5 λy H6=>∃ ys,H6 p=some (.lst ys)/\ys.length<sizeLine/\∃ m',m'<m/\W (i+1) m' σ4 (upd H6 p<|.lst<|ys++[y])
   else ∃ m',m'<m/\W (i+1) m' σ4 H5)
def xM(wi:TI)(g:TG)(tc:TT)(te:TE)(ix:List<|Option Nat):TE:=λσ H Q=>wi σ H λJ H1=>∀ p,H1 p=none->jbk tc te g J p (yQ ix σ) (upd H1 p<|.lst []) λH2=>Q (.ref p) H2
def PIf(X:Cx)(ifs:List Expr)(tc:TT):Prop:=(ifs=[]/\tc=λ_ H Q=>Q true H) \/ ∃ c,ifs=[c]/\PT X c tc
def jbH(B:BlockOk X scope N' ix)(I:Inv X pins σ H s)(n:∀ b∈fp,jas X pins H b)(w:∀ b∈fp,b < ↥s)
  (G:h₁.Ns ↥s (λ_=>none)) (F:∀ b o,s.heap.get? b=some o->h₁.get? b=some o)
  (g:∀ x c,(kD scope X.env ↥s).lookup x=some c->(↥s+1<=c/\h₁.IsCell c none)\/(xU scope X.env).lookup x=some c):
  Inv (y3 X scope N' ↥s s H fp) [] (yQ ix σ) H {s with heap:=h₁,toks:=t}:=by
 have d:∀ x c,(xU scope X.env).lookup x=some c->X.env.cells.lookup x=some c:=λx c e=>VU e;have J:∀ x c,X.env.cells.lookup x=some c->c < ↥s:=λx c e=>by
  obtain⟨v,o,A,_⟩:=I.cell x c e;exact N3 A
 refine⟨⟨I.ok.mod,B.kind,I.ok.glob,I.ok.blt,M9 _,jlj (λx y c C D=>I.ok.inj x y c (d x c C)<|d y c D)<|λx c e=>Nat.lt_succ_of_lt<|J x c<|d x c e,λx K=>?_,(λx c C D=>?_),I.ok.hd,I.ok.frames,.inl rfl,λb h=>⟨N8<|w b h,λx c e=>?_⟩,
  I.bs,N9 I.ok.bsz I.sz,λb o e h=>?_,λb h z=>?_,I.stack,I.stkFree⟩,rfl,I.bare,Un.kept F,⟨_,G,λi x v C D Q=>?_⟩,λx c e=>?_,I.hok.fresh<|M9 _,λx c e=>?_,(λp R=>nomatch (R)),I.hok.kept F,?_⟩
 ·have L:=K;have f:(x,NameKind.free)∈scope.names\/(x,NameKind.cell)∈scope.names:=by
   rcases L with q | q
   ·rcases JR (PySem.mem_of_lookup q) with z | z
    ·lia
    ·lia
   ·rcases JR (PySem.mem_of_lookup q) with z | z
    ·lia
    ·lia
  rcases f with f | f
  ·obtain⟨c,M⟩:=I.ok.has x<|B.outer _ f rfl;exact⟨c,by show(kD scope X.env ↥s).lookup x=some c;rw[B.free f];exact jbZ M f⟩
  ·exact jjK f
 ·-- the block's own cells are new
  have K:=C;rcases g x c D with⟨q,_⟩ | q
  ·exact Nat.le_of_succ_le q
  ·exfalso;have n:=jck q;have E:=B.uniq _ n rfl;rw[eq_of_beq K] at E;cases E
 ·rcases g x c e with⟨q,_⟩ | q
  ·exact Nat.ne_of_gt<|X3 (w b h)<|Nat.le_of_succ_le q
  ·exact(n b h).2.2.2.2.1 x c (d x c q)
 ·rcases(n b h).2.2.2.1 with z | z
  ·exact I.ok.noex b o e z
  ·exact absurd (X3 (N3 e)<|N9 I.ok.bsz z)<|Nat.lt_irrefl _
 ·rcases M4.mp (I.stkSub b z) with q | q
  ·exact(n b h).2.1 q
  ·exact(n b h).2.2.1 q
 ·have a:=D;unfold yQ at a;rw[List.getElem?_map] at a;cases e:ix[i]? with
  | none=>rw[e] at a;cases a
  | some o=>
   rw[e] at a;cases o with
   | none=>cases a
   | some j=>
    have O:(σ[j]?).join=some v:=E3 a;have S:σ[j]?=some (some v):=by grind
    obtain⟨T,f⟩:=B.at_ i j x e C;have N:=B.outer _ f rfl;obtain⟨m,V,U⟩:=I.loc;obtain⟨u,r,l⟩:=U j x v T S<|N.elim (λz=>.inr<|.inl z) λz=>.inr<|.inr z;refine⟨u,r,.inr ?_⟩;rcases l with⟨k,_⟩ | ⟨_,c,M,z⟩
    ·lia
    ·refine⟨?_,c,by show(kD scope X.env ↥s).lookup x=some c;rw[B.free f];exact jbZ M f,?_⟩
     ·rcases Q with y | y | y
      ·have:=PySem.mem_of_lookup y;rcases JR this with P | P
       ·have E:=B.names _ P rfl;rw[B.uniq _ f rfl] at E;cases E
       ·lia
      ·exact .inl y
      ·exact .inr y
     ·obtain⟨o,A,hd⟩:=z;exact⟨o,F c o A,hd⟩
 ·rcases g x c e with⟨_,q⟩ | q
  ·exact⟨none,q⟩
  ·obtain⟨v,o,A,hd⟩:=I.cell x c<|d x c q;exact⟨v,o,F c o A,hd⟩
 ·rcases g x c e with⟨q,_⟩ | q
  ·exact I.hok.fresh<|Nat.le_of_succ_le q
  ·exact I.freeC x c<|d x c q
 ·show(yQ ix σ).length=N'.length;unfold yQ;rw[L0,B.len]
def Inv.other(I:Inv X pins σ H s)(f:jas X pins H C)(a:Heap.SameBut C s.heap h'):Inv X pins σ H {s with heap:=h'}:=
 I.turned (a.extBut) f.1 f.2.1 f.2.2.2.1 f.2.2.2.2.1 f.2.2.2.2.2
def Yd{X:Cx}{ifs:List Expr}{N':List Str}{ix:List (Option Nat)}{pins:List (Addr×Obj)}{s:Shared}{Q:Addr->Hp->Prop}{F:Option (Value->Sem Unit)}{QQ:J0}(B:BlockOk X scope N' ix)(hc:X.calm=true)(hi:PI X tg iter wi)
  (hg:∀ C s H fp,PG (y3 X scope N' C s H fp) tg g) (hif:∀ C s H fp,PIf (y3 X scope N' C s H fp) ifs tc) (he:∀ C s H fp,PE (y3 X scope N' C s H fp) elt te)
  (hs:∀ x,foldedSetIterable iter X.env x=pure x) (I:Inv X pins σ H s)
  (h:wi σ H λJ H1=>∀ p,H1 p=none->jbk tc te g J p (yQ ix σ) (upd H1 p<|.lst []) (Q p))
  (hend:∀ p C s' H',Q p H'->Inv X pins σ H' s'->jas X pins H' C->(∃ m,s'.heap.Ns C m)->compPost (model X.prog X.w) X.A X.xe F QQ (.ref p) C (.ok .next) s'):
  wpAny (model X.prog X.w) X.A (comprehension (.ListComp elt [⟨tg,iter,ifs,0⟩] scope pos) scope X.env pos' (newList []) false (eval iter X.env) F) QQ X.xe s:=by
 refine wpAny_comprehension_free rfl hs (jaQ λn k hm hk=>I.ok.has n<|B.outer _ hm hk) B.kind B.names<|thn (hi pins s σ H _ I h) λv s1 h1=>thn h1 λitv a h2=>?_;obtain⟨it,fp,tn,J,N,rfl,I2,T,Z,f2,h2⟩:=h2;refine wpAny_newObj_type<|Qa ?_;dsimp only;have I3:Inv X pins σ (upd N ↥a (.lst [])) { a with heap:=a.heap.push {cls:=.type "list",data:=.seq ([]:List Value).toArray} }:=I2.lnew .nil<|X4 _;generalize hs3:({ a with heap:=a.heap.push {cls:=.type "list",data:=.seq ([]:List Value).toArray} }:Shared)=s3 at I3;have e3:s3.heap=a.heap.push {cls:=.type "list",data:=.seq ([]:List Value).toArray}:=by lia
 have hk3:∀ b o,a.heap.get? b=some o->s3.heap.get? b=some o:=λb o e=>by rw[e3];exact L8 _ e
 have lt3:∀ b∈fp,b < ↥s3:=λb f=>by
  obtain⟨o,e,_⟩:=T.obj _ _ Z b f;exact N3<|hk3 b o e
 have nep:∀ b∈fp,b≠↥a:=λb f z=>by
  obtain⟨o,e,_⟩:=T.obj _ _ Z b f;exact absurd (N3 e) ∅
 have O:∀ b∈fp,jas X pins (upd N ↥a (.lst [])) b:=λb f=>⟨by rw[ji<|nep b f];exact(f2 b f).1,(f2 b f).2⟩;have hh₁:∃ P,P=pushCells (s3.heap.push {cls:=.type "dict",data:=.dict #[]}) scope.names:=⟨_,rfl⟩;obtain⟨P,R⟩:=hh₁;rw[<- e3,<- R];have hk4:∀ b o,s3.heap.get? b=some o->P.get? b=some o:=λb o e=>by
  rw[R];exact pushCells_keeps _ _ b o<|L8 _ e
 have hns4:P.Ns ↥s3 (λ_=>none):=by
  rw[R];exact(Heap.Ns.new s3.heap<|.type "dict").keeps (pushCells_keeps _ _)
 have S:∀ x c,(kD scope X.env ↥s3).lookup x=some c->(↥s3+1<=c/\P.IsCell c none)\/(xU scope X.env).lookup x=some c:=λx c e=>by
  have q:=xW scope.names (s3.heap.push {cls:=.type "dict",data:=.dict #[]}) (xU scope X.env) x c (by rw[Heap.size_push];exact e);rw[Heap.size_push,<- R] at q;exact q
 have I4:Inv (y3 X scope N' ↥s3 s3 (upd N ↥a (.lst [])) fp) [] (yQ ix σ) (upd N ↥a (.lst [])) {s3 with heap:=P,toks:=a.toks}:=jbH B I3 O lt3 hns4 hk4 S;have st4:tn 0 P:=T.keep _ _ _ Z λb f o e=>hk4 b o<|hk3 b o e;obtain⟨W,⟨m0,w0⟩,turn⟩:=h2 _ I2.fresh;have hg':=hg ↥s3 s3 (upd N ↥a (.lst [])) fp;have U:=hif ↥s3 s3 (upd N ↥a (.lst [])) fp;have he':=he ↥s3 s3 (upd N ↥a (.lst [])) fp;generalize j:y3 X scope N' ↥s3 s3 (upd N ↥a (.lst [])) fp=X' at I4 hg' U he';have eP:X'.prog=X.prog:=by rw[<- j];rfl
 have eW:X'.w=X.w:=by rw[<- j];rfl
 have eK:X'.K=X.K:=by rw[<- j];rfl
 have eA:X'.A=X.A:=by rw[<- j];rfl
 have eC:X'.calm=true:=by rw[<- j];exact hc
 have eE:X'.env=compEnvC scope (kD scope X.env ↥s3) ↥s3 X.env:=by rw[<- j];rfl
 have eX:X'.xe=λ_ _=>False:=by rw[<- j];rfl
 have G:∀{H':Hp},(∀ b∈fp,H' b=none)->∀ b∈fp,jas X' [] H' b:=λhn b f=>by
  refine⟨hn b f,?_,?_,?_,?_,?_⟩
  ·rw[eE];exact N8<|lt3 b f
  ·rw[<- j];intro z;rcases M4.mp (I3.stkSub b z) with q | q
   ·exact(O b f).2.1 q
   ·exact(O b f).2.2.1 q
  ·rw[<- j];exact .inl f
  ·rw[eE];intro x c e;rcases S x c e with⟨q,_⟩ | q
   ·exact Nat.ne_of_gt<|X3 (lt3 b f)<|Nat.le_of_succ_le q
   ·exact(O b f).2.2.2.2.1 x c (VU q)
  ·rw[<- j];exact(λp hp=>nomatch (hp))
 have fin:∀{l:St}{H':Hp}{s':Shared},Inv X' [] l H' s'->Q ↥a H'->compPost (model X.prog X.w) X.A X.xe F QQ (.ref ↥a) ↥s3 (.ok .next) s':=λ{l H' s'} J q=>by
  have hL:X'.env.locals=↥s3:=by rw[eE];rfl
  have un:Un (frs X.stack) fp (upd N ↥a (.lst [])) H' s3.heap s'.heap:=by
   have z:=J.base;rw[<- j] at z;exact z
  have hos:s'.os=s3.os:=by
   have z:=J.os;rw[<- j] at z;exact z
  have hok:HOk X.prog X.w H' s'.heap:=by
   have z:=J.hok;rw[eP,eW] at z;exact z
  have fc:H' ↥s3=none:=by
   have z:=J.free;rw[hL] at z;exact z
  have I5:Inv X pins σ H' s':=by
   obtain⟨hh,gg,dd,tt,oo⟩:=s';obtain rfl:oo=s3.os:=hos;exact I3.call un hok J.bare λb f=>⟨(O b f).2.2.2.1,(O b f).2.1,(O b f).2.2.2.2.1,(O b f).2.2.2.2.2⟩
  obtain⟨m,hn,_⟩:=J.loc;rw[hL] at hn;exact hend _ _ s' H' q I5 (I3.fpOk (M9 _) fc) ⟨m,hn⟩
 have loop:∀ s',s'=({s3 with heap:=P,toks:=a.toks}:Shared)->codeAny (model X.prog X.w) X.A (.compLoop (.ListComp elt [⟨tg,iter,ifs,0⟩] scope pos) 0 (.ref it) (.ref ↥a) X'.env) (compPost (model X.prog X.w) X.A X.xe F QQ (.ref ↥a) ↥s3) s':=by
  rintro s' rfl;refine Q7 (λn s'=>∃ i l H',Inv X' [] l H' s'/\tn i s'.heap/\(∀ b∈fp,H' b=none)/\W i n l H') ?_ m0 ⟨0,_,_,I4,st4,λb f=>(O b f).1,w0⟩;rintro n s5 ⟨i,σ5,H5,I5,st5,fr5,w5⟩;have it5:=T.item X' eP eW eK eC i [] s5 σ5 H5 (λ_ _=>False) I5 (G fr5) st5;have dn5:=T.done X' eP eW eK eC i [] s5 σ5 H5 (λ_ _=>False) I5 (G fr5) st5;rw[eA] at it5 dn5;rcases turn i n σ5 H5 w5 with⟨stop,qn⟩ | ⟨go,step⟩
  ·refine thn (dn5 stop) λr s6 ⟨hr,I6⟩=>?_;subst hr;exact fin I6 qn
  ·refine thn (it5 go) λr s6 ⟨u,hr,h6⟩=>?_;subst hr;refine thn h6 λ_ s7 hh=>?_;obtain⟨x,H7,I7,r7,y7,st7,fr7⟩:=hh;have a7:=hg' _ s7 σ5 H7 x u _ (I7.pinned (G fr7)<|T.obj _ _ st7) r7<|step x H7 y7;rw[eP,eW,eA,eX] at a7;refine thn a7 λ_ s8 hh=>?_;obtain⟨L,H8,I8,q8⟩:=hh;have M:∀{t:Shared}{E:Hp},Inv X' ([]++Kl fp s7.heap) L E t->(∃ D,D<n/\W (i+1) D L E)->∃ m,m<n/\∃ i l H',Inv X' [] l H' t/\tn i t.heap/\(∀ b∈fp,H' b=none)/\W i m l H':=λ{t E} V ⟨D,hm,w9⟩=>by
    refine⟨D,hm,i+1,L,E,V.unpinned,T.keep _ _ _ st7 λb f o e=>(V.pin (b,o)<|X0 _<|X0 _<|qZ f e).1,λb f=>?_,w9⟩;obtain⟨o,e,d⟩:=T.obj _ _ st7 b f;exact(V.pin (b,o)<|X0 _<|X0 _<|qZ f e).2.1
   have Yu:∀(b:Bool) (t:Shared) (E:Hp),Inv X' ([]++Kl fp s7.heap) L E t->(if b=true then te L E λy H6=>∃ ys,H6 ↥a=some (.lst ys)/\ys.length<sizeLine/\∃ D,D<n/\W (i+1) D L (upd H6 ↥a (.lst<|ys++[y]))
     else ∃ D,D<n/\W (i+1) D L E) ->
     if b=true then wpAny (model X.prog X.w) X.A (eval elt X'.env) (λx s₄=>wpAny (model X.prog X.w) X.A (call (.builtin "list.append") [.ref ↥a,x]) (λ_ s₅=>∃ m,m<n/\∃ i l H',Inv X' [] l H' s₅/\tn i s₅.heap/\(∀ b∈fp,H' b=none)/\W i m l H') (λ_ _=>False) s₄) (λ_ _=>False) t
     else ∃ m,m<n/\∃ i l H',Inv X' [] l H' t/\tn i t.heap/\(∀ b∈fp,H' b=none)/\W i m l H':=λb t E V q9=>by
    cases b with
    | false=>
     exact M V q9
    | true=>
     have a9:=he' _ t L E _ V q9;rw[eP,eW,eA,eX] at a9;refine thn a9 λyv s10 hh=>?_;obtain⟨y,H10,I10,r10,ys,e10,l10,q10⟩:=hh;have a10:=Ye _ s10 L H10 (.ref ↥a) [y] (.ref ↥a) [yv] (λ_ H'=>∃ D,D<n/\W (i+1) D L H') I10 rfl (.cons r10 .nil) ⟨_,ys,y,rfl,rfl,e10,l10,q10⟩;rw[eP,eW,eA,eX] at a10;exact thn a10 λ_ s11 ⟨_,H11,I11,_,q11⟩=>M I11 q11
   rcases U with⟨e1,e2⟩ | ⟨c,e1,e2⟩
   ·subst e1;rw[e2] at q8;exact wpAny_tests_nil<|Yu true s8 H8 I8 q8
   ·subst e1;have a8:=e2 _ s8 L H8 _ I8 q8;rw[eP,eW,eA,eX] at a8;exact wpAny_tests_one<|thn a8 λb t ⟨E,V,q9⟩=>Yu b t E V q9
 have Y:codeAny (model X.prog X.w) X.A (.compStart (.ListComp elt [⟨tg,iter,ifs,0⟩] scope pos) 0 (.ref it) (.ref ↥a) X'.env) (compPost (model X.prog X.w) X.A X.xe F QQ (.ref ↥a) ↥s3) {s3 with heap:=P,toks:=a.toks}:=
  codeAny_compStart_list (loop _ rfl) (T.self _ 0 _ _ _ st4<|loop _ rfl)
 rw[eE] at Y;subst hs3;exact Y
def jgD(B:BlockOk X scope N' ix)(c:X.calm=true)(hi:PI X tg iter wi)
  (d:∀ C s H fp,PG (y3 X scope N' C s H fp) tg g) (a:∀ C s H fp,PIf (y3 X scope N' C s H fp) ifs tc) (e:∀ C s H fp,PE (y3 X scope N' C s H fp) elt te)
  (i:∀ x,foldedSetIterable iter X.env x=pure x:=by intro _;rfl):PE X (.ListComp elt [⟨tg,iter,ifs,0⟩] scope pos) (xM wi g tc te ix):=by
 intro b s σ H Q I h;exact Yd B c hi d a e i I h λp C o j q k f ⟨m,l⟩=>⟨m,l,λr n=>⟨.ref p,j,k.other f n,rfl,q⟩⟩
def KM(B:BlockOk X scope N' ix)(y:X.calm=true)(hi:PI X tg iter wi)
  (A:∀ C s H fp,PG (y3 X scope N' C s H fp) tg g) (b:∀ C s H fp,PIf (y3 X scope N' C s H fp) ifs tc) (E:∀ C s H fp,PE (y3 X scope N' C s H fp) elt te)
  (F:X.N.Nodup) (c:X.N[i]?=some x) (G:Loc X.env.scope x)
  (hsw:swapsWith (.ListComp elt [⟨tg,iter,ifs,0⟩] scope pos) (some<|.Name x pos') spos.line X.env=pure true)
  (J:∀ x,foldedSetIterable iter X.env x=pure x:=by intro _;rfl)
  (K:X.fn x=true\/X.env.scope.names.lookup x=some .local:=by first | exact .inl rfl | exact .inr rfl | assumption):
  PS X (.Assign [.Name x pos'] (.ListComp elt [⟨tg,iter,ifs,0⟩] scope pos) spos) (jdn (xM wi g tc te ix)<|Va i):=by
 intro a s σ H D I h;rw[exec_Assign_Name_used _ _ _ _ hsw];refine L1<|wpAny_standAt<|L1<|L1<|thn (Yd B y hi A b E J I h λp C k l q n f ⟨m,L⟩=>?_) λ_ k M=>M7<|M7 M;obtain⟨o,O,P,Q,r⟩:=id L;have hd:∀ v,o.data≠.cell v:=λv z=>by
  obtain⟨d,_⟩:=r;rw[d] at z;cases z
 have R:Inv X (a++[(C,o)]) σ l k:=n.pins_of λt j=>by
  rcases N4.mp j with z | z
  ·exact n.pin t<|X0 _ z
  ·have e:t=(C,o):=by simpa using z
   subst e;exact⟨Q,f.1,f.2.1,f.2.2.1,hd⟩
 refine wpAny_assign_Name<|Qp R F c G (v:=.ref p) rfl (λT u=>?_) K;have w:=u.pin (C,o)<|X0 _<|X0 _<|M8.mpr rfl;refine⟨m,⟨o,O,P,w.1,r⟩,λU S=>⟨_,l,(u.unpinned).other ⟨w.2.1,f.2⟩ S,q⟩⟩
noncomputable def S(l:List Nat):Str:=⟨l.toArray⟩
def vE(l):(S l).cps.toList=l:=by simp[S]
def ql(l):(S l).length=l.length:=by simp[S,Str.length]
def jgi(h:S a=S b):a=b:=by
 rw[<- vE a,<- vE b,h]
def jm0(a b):(S a=S b)=(a=b):=propext ⟨jgi,λh=>by rw[h]⟩
def jhg(a b):S a++S b=S (a++b):=by
 apply PyProof.Rows.ext_toList;rw[PySem.W.KT.app_list,vE,vE,vE]
def jj9(c):(⟨#[c]⟩:Str)=S [c]:=rfl
def JY{α:Type}(xs:List α)(lo hi:Option Int):List α:=(xs.drop<|HT.sIx xs.length 0 lo).take (HT.sIx xs.length xs.length hi-HT.sIx xs.length 0 lo)
def jiu(xs:List α)(k:Nat):JY xs none (some (k:Int))=xs.take k:=by
 unfold JY;rw[HT.sIx_none,HT.sIx_nat];simp[List.take_eq_take_iff]
def jcg(xs:List α)(k:Nat):JY xs (some (k:Int)) none=xs.drop k:=by
 unfold JY;rw[HT.sIx_none,HT.sIx_nat];by_cases h:k<=xs.length
 ·rw[Nat.min_eq_left h,List.take_of_length_le];rw[List.length_drop]
  lia
 ·have e:xs.drop k=[]:=List.drop_eq_nil_of_le ∅;rw[e,Nat.min_eq_right ∅];simp
def jc8(lo hi)(n):Builtin.Str.strSliceIndices lo hi 1 n=(List.range<|HT.sIx n n hi-HT.sIx n 0 lo).map (HT.sIx n 0 lo+·):=by
 have a:∀ o d,(match o with | none=>d | some i=>(let i:=if i<0 then i+n else i;if 1>0 then max 0 (min i n) else max (-1) (min i<|n-1)))=((HT.sIx n d o:Nat):Int):=by
  intro o d;cases o with
  | none=>rfl
  | some v=>
   show(if 1>0 then max 0 (min (if v<0 then v+n else v) n) else _)=(((if v<0 then(v+n).toNat else min v.toNat n):Nat):Int);by_cases b:v<0
   ·lia
   ·lia
 rw[<- sliceRange_one,<- a lo 0,<- a hi n];rfl
def jgh(l)(lo hi):Txt.slice (S l) lo hi=S (JY l lo hi):=by
 have g:HT.sIx l.length l.length hi<=l.length:=HT.sIx_le _ _ (M9 _) _;have e:(Builtin.Str.strSliceIndices lo hi 1 (S l).length).filterMap ((S l).cps[·]?)=JY l lo hi:=by
  rw[ql,jc8];by_cases b:HT.sIx l.length 0 lo<=HT.sIx l.length l.length hi
  ·have c:=(StrLaws.picks l (HT.sIx l.length l.length hi-HT.sIx l.length 0 lo)<|HT.sIx l.length 0 lo) ∅;unfold JY;rw[<- c];simp[S]
  ·have z:HT.sIx l.length l.length hi-HT.sIx l.length 0 lo=0:=by lia
   unfold JY;rw[z];simp
 unfold Txt.slice;split
 ·rename_i h;have d:(Builtin.Str.strSliceIndices lo hi 1 (S l).length).length=(S l).length:=by lia
  rw[ql,jc8,L0,List.length_range] at d;unfold JY;by_cases a:l.length=0
  ·have:=List.length_eq_zero_iff.mp a;subst this;simp
  ·have f:HT.sIx l.length 0 lo=0:=by lia
   rw[f,List.drop_zero,List.take_of_length_le ∅]
 ·rw[e];rfl
def joy:V->Option Int->Option Int->Hp->VK->Prop:=λx lo hi H Q=>∃ l,x=.str (S l)/\l.length<=sizeLine/\Q (.str<|S<|JY l lo hi) H
def jfO(p:IsPart v o):∃ q:Option (Int×Tok),v=partValue q/\q.map (·.1)=o:=by
 cases p with
 | none=>exact⟨none,rfl,rfl⟩
 | int i t=>exact⟨some (i,t),rfl,rfl⟩
def jkt:SlR X joy:=by
 intro c s σ H x v r u a b w Q I g i j m h;obtain⟨l,rfl,n,q⟩:=h;obtain⟨t,rfl⟩:=g;obtain⟨d,rfl,o⟩:=jfO j;obtain⟨e,rfl,p⟩:=jfO m;refine⟨"str",_,F.slot_str_getitem.lookup,typeIs_str _ _ _,wpAny_getItem_str_slice (st:=none) i rfl ?_⟩;have key:∀ f k,EP X c σ Q (.str (Txt.slice (S l) a b) f) {s with toks:=k}:=λf k=>by
  rw[jgh l a b];exact⟨.str<|S<|JY l a b,H,I.tok k,⟨f,rfl⟩,q⟩
 have e2:sliceMade (S l) t d e none=(if(1==1&&(Builtin.Str.strSliceIndices a b 1 (S l).length).length==(S l).length)=true then Made.val (.str (S l) t) else Made.str ⟨((Builtin.Str.strSliceIndices a b 1 (S l).length).filterMap ((S l).cps[·]?)).toArray⟩):=by
  unfold sliceMade slicePicked;rw[o,p];rfl
 rw[e2];refine post_val_or_str ⟨?_,key⟩;exact N9 (Txt.slice_le (S l) a b) (by rw[ql];exact n)
def Its(l:List Nat):It:=⟨λi _=>i<l.length,λi H x H'=>H'=H/\∃ c,l[i]?=some c/\x=.str (S [c]),λi _=>l.length<=i⟩
def jea{tg}{P}{w}{K}(a)(l)(t)(ty)(j:ty = "str_ascii_iterator" \/ ty = "str_iterator")
  (W:∀ A:Around,A.handled=none->Walks P w A a [a] [a] (S l).cps.size (SignAt<|S l) (λi h=>h.IsStrIter a ty (S l) t i)):Turn P w K tg (Its l) [a] a (λi h=>h.IsStrIter a ty (S l) t i) where
 mem:=by simp
 obj:=λi h f b m=>by
  have e:b=a:=by simpa using m
  subst e;obtain⟨o,e,c,d⟩:=f;exact⟨o,e,λv z=>by rw[d] at z;cases z⟩
 keep:=λi h p f k=>by
  obtain⟨o,e,r⟩:=f;exact⟨o,k a (by simp) o e,r⟩
 item:=by
  intro X O Q R q i g s σ H E I x f G;obtain⟨y,B,T,C,D,F⟩:=x a (by simp);have J:(S l).cps.size=l.length:=by rfl
  refine(W X.A<|I.ok.hd q).item i s _ _ (by rw[J];exact G) f λv p U V n Y=>?_;obtain⟨c,u,L,rfl⟩:=V;have Z:Inv X g σ H {s with heap:=p,toks:=U}:=I.turned (λb o m e=>Y b o ⇑m e) y B C D F;obtain⟨o,e,ct,d⟩:=id n;refine⟨_,rfl,jdN e ct d (by rcases j with z | z<;>subst z<;>decide) ⟨.str<|S [c],H,Z,⟨u,rfl⟩,⟨rfl,c,by simpa [S] using L,rfl⟩,n,λb m=>(x b m).1⟩⟩
 done:=by
  intro X O Q R q i g s σ H E I x f G;obtain⟨y,B,T,C,D,F⟩:=x a (by simp);have N:(S l).cps[i]?=none:=by
   have:l.length<=i:=G;simp[S,this]
  rcases j with z | z
  ·subst z;exact wpAny_pyNext_ascii_end (I.ok.hd q) f N λp M=>⟨rfl,I.turned (M) y B C D F⟩
  ·subst z;exact wpAny_pyNext_wide_end (I.ok.hd q) f N λp M=>⟨rfl,I.turned (M) y B C D F⟩
 self:=λ_ _ _ _ _ f h=>by
  rcases j with z | z
  ·subst z;exact wpAny_pyIter_striter_ascii f h
  ·subst z;exact wpAny_pyIter_striter_wide f h
def jk6:OpR X (compareOp .In) (λx y H Q=>∃ c l,x=.str (S [c])/\y=.str (S l)/\Q (.bl<|decide<|c∈l) H):=by
 intro a s σ H x y v u Q I b d h;obtain⟨c,l,rfl,rfl,q⟩:=h;refine jcD a s σ H _ _ v u Q I b d ⟨_,_,rfl,rfl,?_⟩;rw[<- jj9,StrLaws.found_one,vE];exact q
def ja0:OpR X (compareOp .NotIn) (λx y H Q=>∃ c l,x=.str (S [c])/\y=.str (S l)/\Q (.bl<|!decide (c∈l)) H):=by
 intro a s σ H x y v u Q I b d h;obtain⟨c,l,rfl,rfl,q⟩:=h;refine xB a s σ H _ _ v u Q I b d ⟨_,_,rfl,rfl,?_⟩;rw[<- jj9,StrLaws.found_one,vE];exact q
def jh4:OpR X (binaryOp .Add) (λx y H Q=>∃ a b,x=.str (S a)/\y=.str (S b)/\a.length+b.length<=sizeLine/\Q (.str<|S<|a++b) H):=by
 intro c s σ H x y v u Q I d e h;obtain⟨a,b,rfl,rfl,f,q⟩:=h;refine jaI c s σ H _ _ v u Q I d e ⟨_,_,rfl,rfl,by rw[ql,ql];exact f,?_⟩;rw[jhg];exact q
def jhs:OpR X (binaryOp .Mult) (rI (λi j=>Builtin.Int.intBits i<=2 ^ 20/\Builtin.Int.intBits j<=2 ^ 20) λi j=>.int<|i*j):=opI λ_ _ _ _ _ _ _ a q=>mul_int q<|IntMulOk.of_bits a.1 a.2
def jaq(h:i.natAbs<2 ^ m)(a:m<=2 ^ 20):Builtin.Int.intBits i<=2 ^ 20:=N9 (PySem.intBits_le_iff.mpr h) a
def V6{A}{bs:List Bool}{its}(r:Vals (bs.map V.bl) its):TruthOf P w A (λi v=>its.toArray[i]?=some v) (λi=>bs.getD i false):=by
 intro i v s Q E c d;have a:its[i]?=some v:=by simpa using c
 have h:=(L9.mp a).1;have e:=r.length;rw[L0] at e;have f:(bs.map V.bl)[i]?=some (V.bl<|bs.getD i false):=by grind
 obtain⟨u,b,g⟩:=r.get f;rw[a] at b;cases b;cases g;exact M7 d
def ja7:∀(bs:List Bool),(List.range bs.length).all (λi=>bs.getD i false)=bs.all (λb=>b):=by
 intro bs;rw[Bool.eq_iff_iff,List.all_eq_true,List.all_eq_true];constructor
 ·intro h b d;obtain⟨i,c,e⟩:=List.mem_iff_getElem.mp d;have:=h i<|List.mem_range.mpr c;rw[List.getD_eq_getElem?_getD,E5 c,e] at this;exact this
 ·intro h i c;have a:=List.mem_range.mp c;rw[List.getD_eq_getElem?_getD,E5 a];exact h _<|List.getElem_mem a
def jbr:∀(bs:List Bool),(List.range bs.length).any (λi=>bs.getD i false)=bs.any (λb=>b):=by
 intro bs;rw[Bool.eq_iff_iff,List.any_eq_true,List.any_eq_true];constructor
 ·rintro⟨i,c,h⟩;have a:=List.mem_range.mp c;rw[List.getD_eq_getElem?_getD,E5 a] at h;exact⟨_,List.getElem_mem a,h⟩
 ·rintro⟨b,d,h⟩;obtain⟨i,c,e⟩:=List.mem_iff_getElem.mp d;refine⟨i,List.mem_range.mpr c,?_⟩;rw[List.getD_eq_getElem?_getD,E5 c,e];exact h
def jeE(k:X.calm=true):CallR X (.builtin "all") (λxs H Q=>∃(p:Addr) (bs:List Bool),xs=[.ref p]/\SqL X.K H p (bs.map V.bl)/\Q (.bl<|bs.all λb=>b) H):=by
 intro f s σ H xs w Q I r h;obtain⟨p,bs,rfl,l,q⟩:=h;obtain⟨u,rfl,m⟩:=r.one;cases m;obtain⟨a,g,c,x⟩:=I.list l;have d:p < ↥s:=by
  obtain⟨o,n,e,_⟩:=c;exact N3 e
 have j:=g.length;rw[L0] at j;refine call_all_walk<|wpAny_pyIter_list c.isList ⟨↥s,_,_,_,_,_,λi=>bs.getD i false,rfl,Walks.list (by exact I.ok.hd k) ↥s p (N8 d) a.toArray,⟨⟨_,E7 _ rfl,rfl,rfl⟩,?_⟩,V6 g,λy z t=>?_⟩
 ·obtain⟨o,e,r⟩:=c.isList;exact⟨o,L8 _ e,r⟩
 ·rw[N5,<- j,ja7];refine⟨.bl<|bs.all λb=>b,H,I.kept λb o e=>t b o ?_<|L8 _ e,rfl,q⟩;intro v;have:b=↥s:=by simpa using v
  exact absurd (N3 e) ∅
def jeV(k:X.calm=true):CallR X (.builtin "any") (λxs H Q=>∃(p:Addr) (bs:List Bool),xs=[.ref p]/\SqL X.K H p (bs.map V.bl)/\Q (.bl<|bs.any λb=>b) H):=by
 intro f s σ H xs w Q I r h;obtain⟨p,bs,rfl,l,q⟩:=h;obtain⟨u,rfl,m⟩:=r.one;cases m;obtain⟨a,g,c,x⟩:=I.list l;have d:p < ↥s:=by
  obtain⟨o,n,e,_⟩:=c;exact N3 e
 have j:=g.length;rw[L0] at j;refine call_any_walk<|wpAny_pyIter_list c.isList ⟨↥s,_,_,_,_,_,λi=>bs.getD i false,rfl,Walks.list (by exact I.ok.hd k) ↥s p (N8 d) a.toArray,⟨⟨_,E7 _ rfl,rfl,rfl⟩,?_⟩,V6 g,λy z t=>?_⟩
 ·obtain⟨o,e,r⟩:=c.isList;exact⟨o,L8 _ e,r⟩
 ·rw[N5,<- j,jbr];refine⟨.bl<|bs.any λb=>b,H,I.kept λb o e=>t b o ?_<|L8 _ e,rfl,q⟩;intro v;have:b=↥s:=by simpa using v
  exact absurd (N3 e) ∅
def SqX(K:J4)(H:Hp)(a:Addr)(xs:List V):Prop:=
 Rd H a (.lst xs) \/ ∃ its n,K.lookup a=some {cls:=.type "list",data:=.seq its n}/\its.size<=sizeLine/\Vals xs its.toList
def SqX.sq{K}{H}{a}{xs}(h:SqX K H a xs):SqL K H a xs:=by
 rcases h with h | ⟨b,n,c,d,r⟩
 ·exact .inl h
 ·exact .inr ⟨_,b,n,c,rfl,rfl,rfl,d,r⟩
def SqX.of{K}{H}{a}{xs}(h:H a=some (.lst xs)):SqX K H a xs:=.inl<|.inl h
def Inv.listX(I:Inv X pins σ H s)(h:SqX X.K H a xs):Ex2 λits n=>An3 (Vals xs its) (s.heap.get? a=some {cls:=.type "list",data:=.seq its.toArray n}) (xs.length<=sizeLine):=by
 rcases h with h | ⟨its,n,b,c,r⟩
 ·obtain⟨z,its,n,r,e⟩:=h.ok I.hok;exact⟨its,n,r,e,z⟩
 ·refine⟨its.toList,n,r,by simpa using I.kIn a _ b,?_⟩;have e:=r.length;simp only[Array.length_toList] at e
  lia
def jiY(K:J4):R2:=λx y H Q=>∃ l b xs zs,x=.ref l/\y=.ref b/\SqX K H l xs/\SqX K H b zs/\xs.length+zs.length<=sizeLine/\∀ p,H p=none->Q (.ref p) (upd H p<|.lst<|xs++zs)
def jha:OpR X (binaryOp .Add) (jiY X.K):=by
 intro d s σ H x y v u Q I g i h;obtain⟨l,b,xs,p,rfl,rfl,j,k,t,q⟩:=h;cases g;cases i;obtain⟨c,n,r,e,_⟩:=I.listX j;obtain⟨a,w,f,e2,_⟩:=I.listX k;have z:=r.length;have m:=f.length;refine PySem.P.add_list e e2 ?_ (by rw[N5,N5];lia);have o:c.toArray++a.toArray=(c++a).toArray:=by simp
 rw[o];exact⟨.ref _,_,I.lnew (r.append f)<|by rw[N6];lia,rfl,q _ I.fresh⟩
def xI{ns:List Int}(h:PySem.W.WData.layableAll [PySem.W.WData.list<|ns.map PySem.W.WData.int]=true):∀ x∈ns,Builtin.Int.intBits x<=2 ^ 20:=by
 intro x c;have e:PySem.W.ofPy (.list<|ns.map .int)=PySem.W.WData.list (ns.map PySem.W.WData.int):=by
  have f:∀ a:List Int,PySem.W.ofPys (a.map PyData.int)=a.map PySem.W.WData.int:=by
   intro a
   induction a with
   | nil=>rfl
   | cons m a g=>simp[PySem.W.ofPys,PySem.W.ofPy,g]
  simp[PySem.W.ofPy,f]
 have b:=PySem.W.lay0_ofPy (s:=.list .int) (d:=.list<|ns.map .int) rfl (by simp[Shape.has]) (by rw[e];exact((PySem.W.layW_cons h).1));have i:PyData.layable0 (.list<|ns.map .int)=true:=by
  simp[PyData.layableAll0] at b;exact b
 exact PyData.bits_item_of_ints i c
def walk_ofB{l:PySem.W.OpenLaw}{n k}{j}{Q}{L}{d}{K:Params->PySem.W.Frag}{CX:World->CXT}{sp:World->Sp} 
  (hn:l.most=some n) (z:n<=sizeLine) (A:d.params.defaults=[]) (R:Room k callerA)
  (S:∀ w h,L w h->(K w.params).In h)
  (F:∀ w mg fa h,(K w.params).In h->h.Ns mainGlobals mg->mg d.name=some (.ref fa) ->
   ∃ fd:FuncData,(∀ s u,BindsTo s fd ⟨[u],[]⟩ [(x,u)]) /\
    ∀ base:Heap,(K w.params).In base->base.Ns mainGlobals mg->FnOk l.prog w (K w.params) mg base (CX w) k fa fd [x] (sp w))
  (B:∀ w H a (ns:List Int),ns.length<=n->(∀ x∈ns,Builtin.Int.intBits x<=2 ^ 20)->joa H->SqX (K w.params) H a (ns.map V.int)->sp w [.ref a] H (λv _=>v=.bl true) λ_ _ _=>False)
  (C:∀ w H s e s',CX w [] H s (λ_ _ _=>False) e s'->False):
  PySem.W.WalkO q j Q L l.row.toRowW d [] (λf vs=>PySem.call f vs):=by
 intro w s₀ U mg mb G Y fa o pm cd X Z kV ho hd hcd M D hg N O as t y hrd E hlo;obtain rfl:Z=.none:=PySem.W.Dflts.none M A;obtain rfl:kV=.none:=PySem.W.Dflts.noKw M;obtain⟨a,vs,ns,rfl,rfl,c,p,i⟩:=Att.script_of hn t E;have I:=S w _ Y;obtain⟨fd,hb,hF⟩:=F w mg fa _ I G.T.g D;refine PySem.W.enter_call<|codeAny_mono (jeJ I G.T.g G.T.b G.T.builtins G.T.nolimit hg c p (N9 i z) R hF hb (λH hO hS=>B w H a ns i (xI y) hO ?_) λH e s'=>C w H U e s') λr s' hq=>?_
 ·rcases hS with h | ⟨o,its,m,P,_,_,J,hz,r⟩
  ·exact .inl h
  ·have e:=I a o P;rw[c] at e;cases e;cases J;exact .inr ⟨_,_,P,hz,r⟩
 ·obtain⟨rfl,h2,h3,h4⟩:=hq;exact⟨.inl ⟨.bool true,.bool true,[],rfl,λ_=>rfl,.bool true,Att.post_true l _,λ_=>⟨List.Pairwise.nil,λ_ hm=>(nomatch hm)⟩⟩,h2,h3,h4⟩
noncomputable def Qw(sc:Scope)(N:List Str)(scope:Scope)(N':List Str)(ix:List<|Option Nat):Bool:=
 decide (scope.kind=.function)&&decide (sc.kind=.function)&&scope.names.all (λy=>!decide (y.2=.cell)||decide (scope.names.lookup y.1=some .cell))&&scope.names.all (λy=>!decide (y.2=.local)||decide (scope.names.lookup y.1=some .local)) &&
 scope.names.all (λy=>!decide (y.2=.free)||(decide (scope.names.lookup y.1=some .free)&&(decide (sc.names.lookup y.1=some .cell)||decide (sc.names.lookup y.1=some .free))))&&decide N'.Nodup&&decide (ix.length=N'.length) &&
 (List.range ix.length).all (λi=>match ix[i]? with | some (some j)=>(match N'[i]? with | some x=>decide (N[j]?=some x)&&decide ((x,NameKind.free)∈scope.names) | none=>true) | _=>true)
def jgn{X}{scope}{N'}{ix}(b)(N)(h1:X.env.scope=b)(h2:X.N=N)(h:Qw b N scope N' ix=true):BlockOk X scope N' ix:=by
 subst h1;subst h2;unfold Qw at h;simp only[M0,decide_eq_true_eq,List.all_eq_true,Bool.or_eq_true,Bool.not_eq_true',decide_eq_false_iff_not] at h;obtain⟨⟨⟨⟨⟨⟨⟨d,f⟩,g⟩,k⟩,c⟩,l⟩,m⟩,n⟩:=h;refine⟨d,λy a e=>((k y a).elim (absurd e) id),λy a e=>((g y a).elim (absurd e) id),λy a e=>((c y a).elim (absurd e) λz=>z.1),λy a e=>((c y a).elim (absurd e) λz=>z.2),l,m,λi j x h1 h2=>?_,f⟩
 ·have o:=(L9.mp h1).1;have z:=n i<|List.mem_range.mpr o;rw[h1,h2] at z;simp only[M0,decide_eq_true_eq] at z;exact z
structure FnFact(K:J4)(mg:K6)(x qual:Str)(st:Stmt)(f:Addr)(fd:FuncData)(ps:List Str):Prop where
 fn:Fun K x qual st f fd
 mgf:mg x=some (.ref f)
 bd:Binds K fd ps []
section
variable {X:Cx}{k:Nat}{f:Addr}{fd:FuncData}{ps:List Str}{sp:Sp}{x qual:Str}{st:Stmt}{p pos:Pos}{e:Expr}{es:List Expr}{t:TA}
def jhI(F:FnFact X.K X.mg x qual st f fd ps)(G:FnOk X.prog X.w X.K X.mg X.base CX0 k f fd ps sp)(c:Room k X.A)(d:PA X (e::es) t)(g:Gl X x:=by rfl)(a:Nd x:=by decide)
  (h:SEq X e es:=by rfl) (b:BkE X pos es:=by rfl):PE X (.Call (.Name x p) (e::es) [] pos) (JH sp [] E0 t):=
 jf8 G c g F.mgf F.fn.kp F.bd .nil zU d a h b
def jkT(F:FnFact X.K X.mg x qual st f fd ps)(G:FnOk X.prog X.w X.K X.mg X.base CX0 k f fd ps sp)(b:Room k X.A)(c:Gl X x:=by rfl)(a:Nd x:=by decide):PE X (.Call (.Name x p) [] [] pos) (JH sp [] E0 Jl):=
 jd2 G b c F.mgf F.fn.kp F.bd .nil zU a
theorem zw:∀ l,Vals (l.map λp=>V.str p.1)<|strValues l
 | []=>.nil
 | (x,t)::r=>.cons ⟨t,rfl⟩<|zw r
def je6:MtR X "str.split" (λx vs H Q=>∃ a b,x=.str a/\vs=[.str b]/\(b.length==0)=false/\a.length+2<=sizeLine/\∀ p,H p=none->Q (.ref p) (upd H p<|.lst<|(Txt.split a b).map V.str)):=by
 intro c s σ H x vs v o Q I i j h;obtain⟨a,b,rfl,rfl,f,r,q⟩:=h;obtain⟨t,rfl⟩:=i;obtain⟨u,rfl,m⟩:=j.one;obtain⟨d,rfl⟩:=m;have fin:∀ l k,l.map (·.1)=Txt.split a b->l.length<=sizeLine->EP X c σ Q (.ref ↥s) { s with toks:=k,heap:=s.heap.push {cls:=.type "list",data:=.seq (strValues l).toArray} }:=λl k e n=>by
  have e2:(Txt.split a b).map V.str=l.map λp=>V.str p.1:=by
   rw[<- e,U8];rfl
  refine⟨.ref ↥s,_,I.lnew (zw l)<|by rw[L0];exact n,rfl,?_⟩;rw[<- e2];exact q _ I.fresh
 have g:(Builtin.Str.partsBetween a (Builtin.Str.occurrences a b 0 a.length<|a.length+1) b.length).length<=sizeLine:=by
  have w:=StrLaws.occ_length_le a b 0 a.length<|a.length+1;rw[length_partsBetween];lia
 cases h1:(decide (a.length<b.length)||decide (Builtin.Str.strKind a<Builtin.Str.strKind b))
 ·cases hf:(Builtin.Str.occurrences a b 0 a.length<|a.length+1).isEmpty
  ·refine call_meets F.slot_str_split (typeIs_str _ _ _) F.entry_str_split (F.args_str_split_2 _ _) (meets_str_split_sep a b t d h1 f hf ∅ g) ?_;rw[strsFrom_eq];refine fin (numbered s.toks _) _ ((numbered_texts _ _).trans ((if_neg<|ne_true_of_eq_false h1).trans (if_neg<|ne_true_of_eq_false hf)).symm) ?_;have e:=congrArg List.length<|numbered_texts s.toks<|Builtin.Str.partsBetween a (Builtin.Str.occurrences a b 0 a.length<|a.length+1) b.length;rw[L0] at e;rw[e];exact g
  ·exact call_meets F.slot_str_split (typeIs_str _ _ _) F.entry_str_split (F.args_str_split_2 _ _) (meets_str_split_not_found a b t d h1 f hf)<|fin [(a,t)] s.toks ((if_neg<|ne_true_of_eq_false h1).trans (if_pos hf)).symm (by show 1<=sizeLine;decide)
 ·exact call_meets F.slot_str_split (typeIs_str _ _ _) F.entry_str_split (F.args_str_split_2 _ _) (meets_str_split_cannot_occur a b t d h1)<|fin [(a,t)] s.toks (if_pos h1).symm (by show 1<=sizeLine;decide)
end
def jcj:CallR X (.type "int") (λxs H Q=>∃ w:List Nat,xs=[.str<|S w]/\NumText.AllDigits w/\w≠[]/\w.length<=600/\Q (.int (NumText.digitsVal w:Nat)) H):=by
 intro a s σ H xs d Q I r h;obtain⟨w,rfl,hd,b,f,q⟩:=h;obtain⟨u,rfl,c⟩:=r.one;obtain⟨t,rfl⟩:=c;have e:intText? (S w)=some ((NumText.digitsVal w:Nat):Int):=by
  have z:=intText_digits (by rw[vE];exact hd) (by rw[vE];exact b) (by rw[ql];lia);exact z
 exact PySem.W.KIN.call_text e (by rw[ql];lia) ⟨.int _,H,I.tok _,⟨_,rfl⟩,q⟩
noncomputable def JP(m:Nat):List Nat:=(Nat.toDigits 10 m).map Char.toNat
def jlA(m):Str.ofString (toString ((m:Nat):Int))=S (JP m):=by
 apply PyProof.Rows.ext_toList;rw[PySem.W.KIN.signs_num,vE];rfl
def jd9(m):NumText.digitsVal (JP m)=m:=PySem.W.KIN.val_back m
def u5(a:1<=k)(b:m<10 ^ k):(JP m).length<=k:=by
 unfold JP;rw[L0];exact PyProof.Rows.digits10_le a b
def jcl(h:m<2 ^ 200):m.log2<1920:=by
 by_cases a:m=0
 ·subst a;decide
 ·have:=(Nat.log2_lt a).mpr h
  lia
def jbo:CallR X (.type "str") (λxs H Q=>∃ i:Int,xs=[.int i]/\0<=i/\i<2 ^ 200/\Q (.str<|S<|JP i.toNat) H):=by
 intro a s σ H xs b Q I r h;obtain⟨i,rfl,c,d,q⟩:=h;obtain⟨m,rfl⟩:∃ m:Nat,i=m:=⟨i.toNat,by lia⟩;refine zZ a s σ H _ b Q I r ⟨_,rfl,jcl ∅,?_⟩;rw[jlA m];exact q
def ja8:CallR X (.type "str") (λxs H Q=>∃ x,xs=[.str x]/\Q (.str x) H):=by
 intro a s σ H xs c Q I r h;obtain⟨x,rfl,q⟩:=h;obtain⟨u,rfl,b⟩:=r.one;obtain⟨t,rfl⟩:=b;exact PySem.P.str_of_str ⟨.str x,H,I,⟨_,rfl⟩,q⟩
def jgS:OpR X (binaryOp .Mult) (λx y H Q=>∃ a n,x=.str (S a)/\y=.int n/\a.length<=1000/\0<=n/\n<=1000/\Q (.str<|S (List.replicate n.toNat a).flatten) H):=by
 intro f s σ H x y v u Q I g i h;obtain⟨a,n,rfl,rfl,j,w,l,q⟩:=h;obtain⟨k,rfl⟩:∃ k:Nat,n=k:=⟨n.toNat,by lia⟩;have m:k<=1000:=by lia
 obtain⟨t,rfl⟩:=g;obtain⟨o,rfl⟩:=i;have hok:MulOk (S a) k:=by
  refine⟨by simp;lia,λd c=>?_,λd c=>?_⟩
  ·rw[ql];have A:1000<=(2 ^ 63-1)/(k:Int):=by
    rw[Int.le_ediv_iff_mul_le ∅]
    lia
   lia
  ·rw[ql,U0];have B:a.length*k<=sizeLine:=N9 (Nat.mul_le_mul j m) (by decide);exact E1 ∅
 have e:Txt.mul (S a) k=S (List.replicate k a).flatten:=by
  have p:∀ n b,((List.replicate n a.toArray).foldl (·++·) b).toList=b.toList++(List.replicate n a).flatten:=by
   intro n
   induction n with
   | zero=>intro b;simp
   | succ n r=>intro b;rw[List.replicate_succ,List.foldl_cons,r];simp[List.replicate_succ]
  unfold Txt.mul;apply PyProof.Rows.ext_toList;rw[vE];by_cases d:(k:Int)<1
  ·have:k=0:=by lia
   subst this;simp[Str.empty]
  ·rw[if_neg d];by_cases c:((k:Int)==1||(S a).length==0)=true
   ·rw[if_pos c,vE];rw[ql] at c;simp at c;rcases c with z | z
    ·have:k=1:=by lia
     subst this;simp
    ·subst z;simp
   ·rw[if_neg c,U0];exact(p k #[])
 refine SB.mul hok λo C=>?_;rw[e];exact⟨.str _,H,I.tok _,⟨_,rfl⟩,q⟩
section
variable {X:Cx}{pins:List (Addr×Obj)}{σ:St}{H:Hp}{s:Shared}{h':Heap}
def Inv.turnedNew{t'}{g:J9}{T:Addr}{xs}{its}(I:Inv X pins σ H s)(k:∀ b o,b∉g->s.heap.get? b=some o->h'.get? b=some o)(h:∀ b∈g,jas X pins H b)
  (hT:↥s<=T) (j:IsTupN h' T its) (l:Vals xs its.toList) (hz:xs.length<=sizeLine):Inv X pins σ (upd H T<|.tup xs) {s with heap:=h',toks:=t'}:=by
 have i:∀ b u,H b=some u->b∉g:=λb u e z=>by rw[(h b z).1] at e;cases e
 have d:∀ b u,H b=some u->b≠T:=λb u e z=>by rw[z,I.hok.fresh hT] at e;cases e
 refine I.step (λb f=>?_) (λb o _ _ a e _=>k b o a e) (λb o _ _ a e _=>⟨o.slots,k b o a e⟩) (λb o _ e n=>?_)
  (λb o a e=>⟨o,k b o a e⟩) (λb p e=>by rw[ji<|d b _ e];exact e) (λb o u e=>by rw[ji<|d b _ e];exact e) (λb E e=>⟨#[],by rw[ji<|d b _ e,e];simp⟩) (λm t=>?_) (λb u e=>?_) I.bare
 ·obtain⟨_,w,_,x,y,A⟩:=h b f;exact⟨x,w,y,A⟩
 ·rw[ji<|λz=>absurd (N3 e)<|by rw[z];exact Nat.not_lt.mpr hT];exact n
 ·obtain⟨o,B,C,D,r⟩:=t;refine⟨o,B,C,k _ o (λz=>(h _ z).2.1 rfl) D,r⟩
 ·by_cases f:b=T
  ·subst f;rw[jV] at e;cases e;exact⟨hz,its.toList,l,by simpa using j⟩
  ·rw[ji f] at e;refine(I.hok b u e).stay (λc v a q=>k c v ?_ q) (λc q=>by rw[ji<|d c _ q];exact q) λc p q=>by rw[ji<|d c _ q];exact q
   rcases a with z | z
   ·rw[z];exact i b u e
   ·exact i c _ z
def Inv.turnedL{t'}{d:J9}(I:Inv X pins σ H s)(k:∀ b o,b∉d->s.heap.get? b=some o->h'.get? b=some o)(f:∀ b∈d,jas X pins H b):Inv X pins σ H {s with heap:=h',toks:=t'}:=by
 have g:∀ b u,H b=some u->b∉d:=λb u e z=>by rw[(f b z).1] at e;cases e
 refine I.step (λb h=>?_) (λb o _ _ a e _=>k b o a e) (λb o _ _ a e _=>⟨o.slots,k b o a e⟩) (λb o _ e n=>n)
  (λb o a e=>⟨o,k b o a e⟩) (λb A e=>e) (λb o u e=>e) (λb B e=>⟨#[],by rw[e];simp⟩) (λm i=>?_) (λb u e=>?_) I.bare
 ·obtain⟨_,j,_,l,p,t⟩:=f b h;exact⟨l,j,p,t⟩
 ·obtain⟨o,w,x,y,r⟩:=i;refine⟨o,w,x,k _ o (λz=>(f _ z).2.1 rfl) y,r⟩
 ·refine(I.hok b u e).stay (λc v a q=>k c v ?_ q) (λ_ q=>q) λ_ _ q=>q;rcases a with z | z
  ·rw[z];exact g b u e
  ·exact g c _ z
end
def jhY{A}{E}{s:Shared}{i}{n}{us}{C:J0}
  (h:IsEnum s.heap e it n was) (hi:s.heap.IsListIter it l i) (hl:s.heap.IsList l us) (I:us[i]?=some x) (ne:e≠it)
  (go:∀ k,IsEnumOut k e it (n+1) x ↥s->k.IsListIter it l (i+1)->k.get? ↥s=some {cls:=.type "tuple",data:=.seq #[.int n s.toks,x]} ->
   (∀ b o,b≠e->b≠it->s.heap.get? b=some o->k.get? b=some o)->C (.ref ↥s) {s with heap:=k,toks:=s.toks+1}):
  wpAny (model prog w) A (Builtin.«enumerate.__next__» ⟨[.ref e],[]⟩) (λfin s'=>∃ v,fin=.done (.ret v)/\C v s') E s:=by
 obtain⟨j,g,d,c,os⟩:=s;show wpAny _ _ (field (.ref e) 2 >>= _) _ _ _;refine L1<|X5 h rfl rfl<|L1<|wpAny_nextOf_list_item hi hl I λQ J m=>?_;have p:=(m.2 e ne).trans h;refine L1<|X5 p rfl rfl<|L1<|X5 p rfl rfl<|L1<|wpAny_mkInt<|L1<|wpAny_setField_rec p (by simp) λR e2 q=>(L1<|wpAny_setField_rec e2 (by simp) λt e3 u=>(L1<|wpAny_newTuple ?_));have f:IsEnum (t.push {cls:=.type "tuple",data:=.seq #[.int n c,x]}) e it (n+1) was:=L8 _ e3;generalize y:t.push {cls:=.type "tuple",data:=.seq #[.int n c,x]}=k4 at f;have H:t.objs.size=j.objs.size:=by rw[u.1,q.1,m.1]
 have lt:=N3 h;have K:k4.get? j.objs.size=some {cls:=.type "tuple",data:=.seq #[.int n c,x]}:=by rw[<- y,<- H];exact E7 _ rfl
 have kp:∀ b o,b≠e->b≠it->j.get? b=some o->k4.get? b=some o:=λb o a z B=>by
  rw[<- y];exact L8 _<|u.extBut b o a<|q.extBut b o a<|m.extBut b o z B
 have L:k4.IsListIter it l (i+1):=by
  rw[<- y];obtain⟨o,M,r⟩:=(J.extBut q.extBut ne.symm).extBut u.extBut ne.symm;exact⟨o,L8 _ M,r⟩
 show wpAny _ _ (Builtin.SmallTypes.ownedTupleIsFree (.ref e) >>= _) _ _ ⟨k4,g,d,c+1,os⟩;rw[H];refine L1<|L1<|X5 f rfl rfl<|M7<|L1<|wpAny_rule<|L1<|X5 f rfl rfl<|L1<|wpAny_setField_rec f (by simp) λS N D=>(L1<|L1<|wpAny_setField_rec N (by simp) λT e6 F=>(wpAny_setField_rec e6 (by simp) λO P G=>(L1<|wpAny_letGo<|M7 ⟨_,rfl,go O P (((L.extBut D.extBut ne.symm).extBut F.extBut ne.symm).extBut G.extBut ne.symm) (G.extBut _ _ (Nat.ne_of_gt lt)<|F.extBut _ _ (Nat.ne_of_gt lt)<|D.extBut _ _ (Nat.ne_of_gt lt) K)<|λb o a z B=>G.extBut b o a<|F.extBut b o a<|D.extBut b o a<|kp b o a z B⟩)))
def jgQ 
  (a:IsEnum s.heap e it n was) (hi:s.heap.IsListIter it l i) (hl:s.heap.IsList l us) (c:us[i]?=some x) (ne:e≠it)
  (go:∀ k,IsEnumOut k e it (n+1) x ↥s->k.IsListIter it l (i+1)->k.get? ↥s=some {cls:=.type "tuple",data:=.seq #[.int n s.toks,x]} ->
   (∀ b o,b≠e->b≠it->s.heap.get? b=some o->k.get? b=some o)->C (some<|.ref ↥s) {s with heap:=k,toks:=s.toks+1}):wpAny (model prog w) A (pyNext<|.ref e) C E s:=by
 have ty:s.TypeIs (.ref e) "enumerate":=⟨_,a,rfl⟩;exact L1<|wpAny_attempt<|wpAny_callSpecial?_slot ty F.slot_enumerate_next<|wpAny_call_entry F.slot_enumerate_next ty F.entry_enumerate_next (jhY a hi hl c ne λk c1 d f g=>M7<|go k c1 d f g)<|F.args_enumerate_next_1 _
def jgG(d:A.handled=none)
  (c:IsEnum s.heap e it n was) (hi:s.heap.IsListIter it l i) (hl:s.heap.IsList l us) (a:us[i]?=none)
  (go:∀ k,Heap.ExtBut it s.heap k->C none {s with heap:=k}):wpAny (model prog w) A (pyNext<|.ref e) C E s:=by
 have ty:s.TypeIs (.ref e) "enumerate":=⟨_,c,rfl⟩;refine L1<|wpAny_attempt<|wpAny_callSpecial?_slot ty F.slot_enumerate_next<|wpAny_call_entry F.slot_enumerate_next ty F.entry_enumerate_next ?_<|F.args_enumerate_next_1 _;show wpAny _ _ (field (.ref e) 2 >>= _) _ _ _;refine L1<|X5 c rfl rfl<|L1<|wpAny_nextOf_list_end d hi hl a λk x b a=>?_;obtain⟨o,f,g⟩:=a;exact L1<|wpAny_isInstance ⟨o,f,g⟩ isSubtype_stop<|M7<|go _ b
def Itn(K:J4)(l:Addr)(n:Int):It:=
 ⟨λi H=>∃ xs x,SqL K H l xs/\xs[i]?=some x,λi H x H'=>∃ p v,(∀ xs,SqL K H l xs->xs[i]?=some v)/\x=.ref p/\H p=none/\H'=upd H p (.tup [.int<|n+i,v]),λi H=>∃ xs,SqL K H l xs/\xs.length<=i⟩
def jhx{P}{w}{K}{elts}{m}{pos}(e c l)(n)(y:e≠c)(Y:l≠e)(Z:l≠c):
  Turn P w K (.Tuple elts m pos) (Itn K l n) [e,c] e (λi h=>(∃ old,IsEnum h e c (n+i) old)/\h.IsListIter c l i) where
 mem:=by simp
 obj:=λi h d b f=>by
  obtain⟨⟨old,g⟩,o,G,J,hd⟩:=d;rcases(⇑f:b=e\/b=c) with z | z
  ·subst z;exact⟨_,g,λv q=>by cases q⟩
  ·subst z;exact⟨o,G,λv q=>by rw[hd] at q;cases q⟩
 keep:=λi h h' d k=>by
  obtain⟨⟨old,g⟩,a⟩:=d;exact⟨⟨old,k e (by simp) _ g⟩,a.at<|k c<|by simp⟩
 item:=by
  intro X L M N J i A s σ H E I D d O;subst L M N;obtain⟨xs,x,F,Q⟩:=O;obtain⟨R,S,p,hz⟩:=I.list F;obtain⟨u,hu,ru⟩:=S.get Q;obtain⟨⟨old,g⟩,a⟩:=d;refine jgQ g a p.isList ⇑hu y λh1 G B hT hk=>⟨_,rfl,wpAny_letOwnedTupleGo_enum G λW T r=>?_⟩;have j:=N3 g;have C:=(r.2 _<|Nat.ne_of_gt j).trans hT;have kk:∀ b o,b∉[e,c]->s.heap.get? b=some o->W.get? b=some o:=λb o f q=>by
   have t:b≠e/\b≠c:=by simpa using f
   exact(r.2 b t.1).trans (hk b o t.1 t.2 q)
  have I1:=I.turnedNew (t':=s.toks+1) (xs:=[.int<|n+i,x]) kk D (M9 _) ⟨⟨_,C,rfl,_,rfl⟩,_,C,rfl⟩ (.cons ⟨_,rfl⟩<|.cons ru .nil) (by show 2<=sizeLine;decide);have U:IsEnum W e c (n+((i+1:Nat):Int)) u:=by
   have q:=T;rw[show n+((i+1:Nat):Int)=n+i+1 by lia];exact q
  refine⟨.ref ↥s,_,I1,rfl,⟨_,x,(λys hy=>by rw[I.list_inj hy F];exact Q),rfl,I.hok.fresh<|M9 _,rfl⟩,⟨⟨_,U⟩,B.at λo q=>(r.2 c y.symm).trans q⟩,λb f=>?_⟩;rw[ji]
  ·exact(D b f).1
  ·intro z;have:b < ↥s:=by
    obtain⟨oi,V,_⟩:=id a;rcases(⇑f:b=e\/b=c) with q | q
    ·rw[q];exact j
    ·rw[q];exact N3 V
   exact absurd this (by rw[z];exact Nat.lt_irrefl _)
 done:=by
  intro X L M N J i A s σ H E I D d O;subst L M N;obtain⟨xs,F,Q⟩:=O;obtain⟨R,S,p,hz⟩:=I.list F;obtain⟨⟨old,g⟩,a⟩:=d;have hl:=S.length;exact jgG (I.ok.hd J) g a p.isList (by simp;lia) λh1 eb=>⟨rfl,I.turnedL (λb o f q=>eb b o (by simp at f;exact f.2) q) D⟩
 self:=λ_ _ _ _ _ d h=>wpAny_pyIter_enum d.1.choose_spec h
section
variable {X:Cx}
inductive TyQ (K:J4) (H:Hp):V->String->Prop where
 | non:TyQ K H .non "NoneType"
 | bl (x:Bool):TyQ K H (.bl x) "bool"
 | int (i:Int):TyQ K H (.int i) "int"
 | str (x:Str):TyQ K H (.str x) "str"
 | lst {a:Addr}{xs:List V}(e:SqL K H a xs):TyQ K H (.ref a) "list"
 | tup {a:Addr}{xs:List V}(e:SqT K H a xs):TyQ K H (.ref a) "tuple"
 | dK {a:Addr}{kvs:List (Key×V)}(e:H a=some (.dK kvs)):TyQ K H (.ref a) "dict"
def xk:CallR X (.builtin "isinstance") (λxs H Q=>∃ x T t b,xs=[x,.ty T]/\TyQ X.K H x t/\PySem.W.kitOne X.K (.type t) (.type T)=some b/\Q (.bl b) H):=by
 intro d s σ H xs A Q I r h;obtain⟨x,T,t,b,rfl,ty,e,q⟩:=h;obtain⟨u,v,rfl,c,m⟩:=r.two;cases m;have fin:∀ k,EP X d σ Q (.bool b) {s with toks:=k}:=λk=>⟨.bl b,H,I.tok k,rfl,q⟩;cases ty with
 | non=>cases(c);exact PySem.W.kia_one PySem.W.kitx_none I.kIn True.intro e (λz=>nomatch z) fin
 | bl y=>cases(c);exact PySem.W.kia_one PySem.W.kitx_bool I.kIn True.intro e (λz=>nomatch z) fin
 | int i=>obtain⟨t,q⟩:=(c);cases q;exact PySem.W.kia_one PySem.W.kitx_int I.kIn True.intro e (λz=>nomatch z) fin
 | str y=>obtain⟨t,q⟩:=(c);cases q;exact PySem.W.kia_one PySem.W.kitx_str I.kIn True.intro e (λz=>nomatch z) fin
 | @lst a xs f=>
  cases(c);obtain⟨l,_,⟨o,n,g,j,_,_⟩,_⟩:=I.list f;exact PySem.W.kia_one PySem.W.kitx_list I.kIn ⟨o,g,j⟩ e (λz=>nomatch z) fin
 | @tup a xs f=>
  cases(c);obtain⟨l,_,⟨o,g,j,_⟩,_⟩:=I.tuple f;exact PySem.W.kia_one PySem.W.kitx_tuple I.kIn ⟨o,g,j⟩ e (λz=>nomatch z) fin
 | @dK a w f=>
  cases(c);obtain⟨_,_,vs,_,p⟩:=(I.hok a _ f);obtain⟨o,B,C,g,j,_⟩:=p;exact PySem.W.kia_one PySem.W.kitx_dict I.kIn ⟨o,g,j.1⟩ e (λz=>nomatch z) fin
end
section
variable {κ:Type} [DecidableEq κ]
noncomputable def Ky(kvs:List<|κ×V)(k:κ):Option V:=(kvs.find? λkv=>decide<|kv.1=k).map (·.2)
noncomputable def xF(kvs:List<|κ×V)(k:κ)(v:V):List (κ×V):=
 if(kvs.any λkv=>decide<|kv.1=k)=true then kvs.map (λkv=>if kv.1=k then(kv.1,v) else kv) else kvs++[(k,v)]
def Vc{p}{r:List (κ×V)}(e:p.1=k):Ky (p::r) k=some p.2:=by simp[Ky,List.find?_cons,e]
def Vh{p}{r:List (κ×V)}(e:¬ p.1=k):Ky (p::r) k=Ky r k:=by simp[Ky,List.find?_cons,e]
theorem ut(k):∀ kvs:List (κ×V),(kvs.any λkv=>decide<|kv.1=k)=(Ky kvs k).isSome
 | []=>rfl
 | p::r=>by
  rw[List.any_cons];by_cases e:p.1=k
  ·simp only[Vc e,X9 e,Bool.true_or,Option.isSome_some]
  ·rw[Vh e,E1 e,Bool.false_or];exact ut k r
def VG(a)(k:κ)(v):(xF a k v).length<=a.length+1:=by
 unfold xF;split
 ·rw[L0];lia
 ·rw[N6,M2,List.length_nil];lia
def RelO.isSome_eq(r:RelO o u):o.isSome=u.isSome:=by
 cases o with
 | none=>cases u with
  | none=>rfl
  | some _=>exact(r).elim
 | some _=>cases u with
  | none=>exact(r).elim
  | some _=>rfl
def RelO.getD(r:RelO o u)(rd:RelV d d'):RelV (o.getD d) (u.getD d'):=by
 cases o with
 | none=>cases u with
  | none=>exact rd
  | some _=>exact(r).elim
 | some _=>cases u with
  | none=>exact(r).elim
  | some _=>exact r
def KV.val(r:KV kvs vs)(k:κ):RelO (Ky kvs k) (valueAt vs k):=by
 induction r with
 | nil=>exact True.intro
 | @cons p q i a h t f=>
  obtain⟨d,g⟩:=h;by_cases e:p.1=k
  ·have c:=d.symm.trans e;have b:valueAt (q::a) k=some q.2:=by simp[valueAt,List.find?_cons,c]
   rw[Vc e,b];exact g
  ·have c:¬ q.1=k:=λz=>e<|d.trans z;have b:valueAt (q::a) k=valueAt a k:=by simp[valueAt,List.find?_cons,c]
   rw[Vh e,b];exact f
def KV.any(r:KV kvs vs)(k:κ):(kvs.any λkv=>decide<|kv.1=k)=vs.any λkv=>decide (kv.1=k):=by
 induction r with
 | nil=>rfl
 | cons h t a=>rw[List.any_cons,List.any_cons,a,h.1]
def KV.repl(r:KV kvs vs)(k:κ)  (b:RelV y u):
  KV (kvs.map λkv=>if kv.1=k then(kv.1,y) else kv) (vs.map λkv=>if kv.1=k then(kv.1,u) else kv):=by
 induction r with
 | nil=>exact .nil
 | @cons p q f g h t c=>
  rw[L4,L4];refine .cons ?_ c;obtain⟨a,d⟩:=h;by_cases e:p.1=k
  ·rw[if_pos e,if_pos<|a.symm.trans e];exact⟨a,b⟩
  ·rw[if_neg e,if_neg<|λz=>e<|a.trans z];exact⟨a,d⟩
def KV.put(r:KV kvs vs)(k:κ)  (a:RelV y u):KV (xF kvs k y) (stored vs k u):=by
 unfold xF stored;rw[r.any k];by_cases e:(vs.any λb=>decide<|b.1=k)=true
 ·rw[if_pos e,if_pos e];exact r.repl k a
 ·rw[if_neg e,if_neg e];exact Paired.snoc r ⟨rfl,a⟩
def KV.length(r:KV kvs vs):kvs.length=vs.length:=Paired.length r
end
def jaz(r:RelV (kV k) u):(yj P w).is k u=true:=by
 cases k with
 | inl i=>obtain⟨t,e⟩:=(r);subst e;exact wF P w i t
 | inr x=>obtain⟨t,e⟩:=(r);subst e;exact JS P w x t
theorem xj:∀{ks}{us},Vals (ks.map kV) us->ItemsAre (yj P w) ks us
 | [],_,r=>by rw[List.map_nil] at r;cases r;exact .nil
 | k::ks,_,r=>by
  cases r with
  | cons h t=>exact .cons (jaz h)<|xj t
abbrev KT(H:Hp):List (List Key×V)->List (List Key×Addr×Value)->Prop:=Paired λp q=>p.1=q.1/\H q.2.1=some (.tup<|p.1.map kV)/\RelV p.2 q.2.2
def KT.val(r:KT H kvs xs)(k):RelO (Ky kvs k) ((atKey xs k).map (·.2)):=by
 induction r with
 | nil=>exact True.intro
 | @cons p q i a h t f=>
  obtain⟨d,_,g⟩:=h;by_cases e:p.1=k
  ·have c:=d.symm.trans e;have b:atKey (q::a) k=some q.2:=by simp[atKey,List.find?_cons,c]
   rw[Vc e,b];exact g
  ·have c:¬ q.1=k:=λz=>e<|d.trans z;have b:atKey (q::a) k=atKey a k:=by simp[atKey,List.find?_cons,c]
   rw[Vh e,b];exact f
def KT.repl(r:KT H kvs xs)(k)  (c:RelV y u):
  KT H (kvs.map λkv=>if kv.1=k then(kv.1,y) else kv) (xs.map<|putAt k u):=by
 induction r with
 | nil=>exact .nil
 | @cons p q g i h t d=>
  rw[L4,L4];refine .cons ?_ d;obtain⟨a,b,f⟩:=h;unfold putAt;by_cases e:p.1=k
  ·rw[if_pos e,if_pos<|a.symm.trans e];exact⟨a,b,c⟩
  ·rw[if_neg e,if_neg<|λz=>e<|a.trans z];exact⟨a,b,f⟩
def KT.put(r:KT H kvs xs)(k)  (c:H b=some (.tup<|k.map kV)) (a:RelV y u):
  KT H (xF kvs k y) (storedH xs k b u):=by
 have e:(kvs.any λd=>decide<|d.1=k)=(atKey xs k).isSome:=by
  rw[ut,(r.val k).isSome_eq,Option.isSome_map]
 unfold xF storedH;rw[e];by_cases q:(atKey xs k).isSome=true
 ·rw[if_pos q,if_pos q];exact r.repl k a
 ·rw[if_neg q,if_neg q];exact Paired.snoc r ⟨rfl,c,a⟩
def KT.keeps(r:KT H kvs xs)(a:∀ b ys,H b=some (.tup ys)->H' b=some (.tup ys)):KT H' kvs xs:=
 Paired.mapP r λ_ _ z=>⟨z.1,a _ _ z.2.1,z.2.2⟩
def jlQ(ok:HOk P w H h)(e:Rd H a u):ObjOk P w H h a u:=e.ok ok
def jkv(ok:HOk P w H h)(e:Rd H a<|.dK kvs):kvs.length<=sizeLine/\(a==sysModules)=false/\∃ vs,KV kvs vs/\h.DictOf (yj P w) a vs:=
 jlQ ok e
def jj5(ok:HOk P w H h)(e:H a=some (.dK kvs)):kvs.length<=sizeLine/\(a==sysModules)=false/\∃ vs,KV kvs vs/\h.DictOf (yj P w) a vs:=jkv ok<|.inl e
def jbp(ok:HOk P w H h)(e:H a=some (.tup<|ks.map kV)):(tupleKind<|yj P w).is h ks a:=by
 obtain⟨_,b,r,⟨o,c,d,n,f⟩,_⟩:=(ok a _ e);exact⟨o,b.toArray,n,c,d,f,by simpa using xj r⟩
def jiT(ok:HOk P w H h)(e:Rd H a<|.dT kvs):kvs.length<=sizeLine/\(a==sysModules)=false /\
  ∃ xs,KT H kvs xs/\h.DictOfH (tupleKind<|yj P w) a xs:=by
 obtain⟨z,y,xs,r,o,d,f,g,i,j,k,n⟩:=(jlQ ok e);refine⟨z,y,xs,r,o,d,f,g,i,j,k,λx b=>?_,n⟩;have all:∀{l}{m},KT H l m->∀ x∈m,(tupleKind<|yj P w).is h x.1 x.2.1:=by
  intro l m q
  induction q with
  | nil=>intro x b;exact nomatch b
  | @cons p q u v c t s=>
   intro x b;rcases M4.mp b with e | b
   ·subst e;exact jbp ok (by rw[<- c.1];exact c.2.1)
   ·exact s x b
 exact all r x b
def jk5(ok:HOk P w H h)(e:H a=some (.dT kvs)):kvs.length<=sizeLine/\(a==sysModules)=false /\
  ∃ xs,KT H kvs xs/\h.DictOfH (tupleKind<|yj P w) a xs:=jiT ok<|.inl e
def DGet(H:Hp)(a:Addr)(y:V)(r:Option V):Prop:=
 (∃ kvs k,Rd H a (.dK kvs)/\y=kV k/\r=Ky kvs k) \/ ∃ kvs k b,Rd H a (.dT kvs)/\y=.ref b/\H b=some (.tup<|k.map kV)/\r=Ky kvs k
def DPut(H:Hp)(a:Addr)(y v:V)(H':Hp):Prop:=
 (∃ kvs k,H a=some (.dK kvs)/\y=kV k/\kvs.length<sizeLine/\H'=upd H a (.dK<|xF kvs k v)) \/
 ∃ kvs k b,H a=some (.dT kvs)/\y=.ref b/\H b=some (.tup<|k.map kV)/\kvs.length<sizeLine/\H'=upd H a (.dT<|xF kvs k v)
theorem DPut.k{H}{a}{b}{k}{v}(e:H a=some (.dK b))(hl:b.length<sizeLine):DPut H a (kV k) v (upd H a<|.dK<|xF b k v):=.inl ⟨b,k,e,rfl,hl,rfl⟩
def Inv.big(I:Inv X pins σ H s):sysModules < ↥s:=by
 have h:=(I.mod.glob.keeps I.bk).lt;exact Nat.lt_trans (by decide) h
def jps(j:A.units+1<cLine)(I:Inv X pins σ H s)(g:DGet H a y o)(i:RelV y u)(h:∀ s',Inv X pins σ H s'->Q (.bool o.isSome) s'):
  wpAny (model X.prog X.w) A (compareOp .In u<|.ref a) Q E s:=by
 rcases g with⟨d,k,e,f,l⟩ | ⟨d,k,b,e,f,m,l⟩
 ·subst f;obtain⟨z,hd,vs,c,dd⟩:=jkv I.hok e;refine wpAny_in_of (jaz i) hd dd.mapOf ?_;rw[<- (c.val k).isSome_eq,<- l];exact h _<|I.tok _
 ·subst f;cases(i);obtain⟨z,hd,xs,c,dd⟩:=jiT I.hok e;refine wpAny_in_heap (tupleKind_room_in1 j) (jbp I.hok m) hd dd ?_;have q:=(c.val k).isSome_eq;rw[Option.isSome_map] at q;rw[<- q,<- l];exact h _<|I.tok _
def jbe(I:Inv X pins σ H s)(c:Mut<|H a)(d:Heap.SameBut a s.heap h')(e:∃ q,h'.get? a=some q)(new:ObjOk X.prog X.w (upd H a ob) h' a ob):
  Inv X pins σ (upd H a ob) {s with heap:=h',toks:=t'}:=
 I.write c (.inl rfl) (λb q f z=>(d.2 b f).trans z) e new
def jkr(z:kvs.length<=sizeLine)(hd:(a==sysModules)=false)(b:KV kvs vs)(dd:h'.DictOf (yj P w) a vs):
  ObjOk P w H' h' a (.dK kvs):=⟨z,hd,vs,b,dd⟩
def jmD{A:Around}(F:∀ kvs,H a=some (.dT kvs)->A.units+1<cLine)(I:Inv X pins σ H s)(g:DPut H a y v H')(t:RelV y u)(x:RelV v r)(h:∀ s',Inv X pins σ H' s'->Q () s'):
  wpAny (model X.prog X.w) A.in1 (dictSet a u r) Q E s:=by
 rcases g with⟨kvs,k,e,j,l,m⟩ | ⟨kvs,k,b,e,j,B,l,m⟩
 ·subst j m;obtain⟨z,hd,vs,d,dd⟩:=jj5 I.hok e;have n:vs.length<=sizeLine:=by rw[<- d.length];exact z
  have o:(xF kvs k v).length<=sizeLine:=by have:=VG kvs k v;lia
  refine wpAny_dictSet_pairs (hsz:=n) (jaz t) dd λC f p=>h _ ?_;have G:∃ q,C.get? a=some q:=let ⟨q,_,_,i,_⟩:=f;⟨q,i⟩
  exact jbe I (by rw[e];exact True.intro) p G<|jkr o hd (d.put k x) f
 ·subst j m;cases(t);obtain⟨z,hd,xs,d,dd⟩:=jk5 I.hok e;have n:xs.length<=sizeLine:=by rw[<- Paired.length d];exact z
  have o:(xF kvs k v).length<=sizeLine:=by have:=VG kvs k v;lia
  refine wpAny_dictSet_heap (hsz:=n) (tupleKind_room_in1<|F _ e) (jbp I.hok B) dd λC f p=>h _ ?_;obtain⟨q,J,K,i,L,M,N,_,O⟩:=f;refine jbe I (by rw[e];exact True.intro) p ⟨q,i⟩ ⟨o,hd,_,(d.put k B x).keeps λc P D=>?_,q,J,K,i,L,M,N,O⟩;rw[ji<|jnu D e<|λz=>nomatch z];exact D
def jdc(c:A.units+1<cLine)(I:Inv X pins σ H s)(g:DPut H a y v H')(f:RelV y u)(i:RelV v r)(h:∀ s',Inv X pins σ H' s'->Q () s'):
  wpAny (model X.prog X.w) A (setItem (.ref a) u r) Q E s:=by
 have b:s.TypeIs (.ref a) "dict":=by
  rcases g with⟨_,_,e,_⟩ | ⟨_,_,_,e,_⟩
  ·obtain⟨_,_,_,_,d⟩:=jj5 I.hok e;exact d.typeIs
  ·obtain⟨_,_,_,_,d⟩:=jk5 I.hok e;exact d.typeIs
 unfold setItem;refine wpAny_holding<|L1<|wpAny_sequenceKey b (by decide) ?_;refine L1<|wpAny_callSpecial?_slot (name:=Str.ofString "__setitem__") b PySem.F.slot_dict_setitem<|wpAny_call_entry PySem.F.slot_dict_setitem b PySem.F.entry_dict_setitem ?_<|PySem.F.args_dict_setitem_3 _ _ _;refine L1<|wpAny_notOrdered_dict b ?_;show wpAny _ _ (dictSet a u r >>= _) _ _ s;exact L1<|jmD (λ_ _=>c) I g f i λj J=>M7 ⟨.none,rfl,M7<|h j J⟩
def jnn(i:Expr):Prop:=∀ ov iv,subscripted i false ov iv=operate [ov,iv] (getItem ov iv)
def jis{prog}{w}{A}{E}{s}{env}{value slice}{pos}{T id}{Q}
  (hl:typeLookup (.type T) "__getitem__" = pure (some<|.builtin id)) (c:jnn slice)
  (h:wpAny (model prog w) A (eval value env) (λo s₁=>wpAny (model prog w) A (eval slice env) (λi s₂=>s₂.TypeIs o T/\wpAny (model prog w) A (getItem o i) Q E s₂) E s₁) E s):
  wpAny (model prog w) A (eval (.Subscript value slice pos) env) Q E s:=by
 refine Subscript_<|wpAny_mono h (λo s₁ d=>wpAny_mono d (λi s₂ a=>?_) λ_ _ x=>x) λ_ _ x=>x;obtain⟨e,a⟩:=a;refine L1 ?_;refine L1<|wpAny_specialOf e hl ?_;have fin:wpAny (model prog w) A (subscripted slice false o i) (λr b=>wpAny (model prog w) A (letTemporaryGo value o r >>= λ_=>pure r) Q E b) E s₂:=by
  rw[c o i];exact wpAny_operating<|wpAny_mono a (λr b f=>L1<|wpAny_letTemporaryGo<|M7 f) λ_ _ x=>x
 first
  | exact M7 (L1 fin)
  | exact L1 (M7 (L1 fin))
  | exact L1 fin
def jma(ty td:TE):TE:=λσ H Q=>ty σ H λy H1=>td σ H1 λx H2=>∃ a o,x=.ref a/\DGet H2 a y o/\Q (.bl o.isSome) H2
def jhD(td ty tv:TE):TS:=λD σ H=>tv σ H λv H1=>td σ H1 λx H2=>ty σ H2 λy H3=>∃ a H4,x=.ref a/\DPut H3 a y v H4/\D.nx σ H4
def jk1(c:X.A.units+1<cLine)(hi:PE X i ty)(d:PE X o td):PC X .In i o (jma ty td):=by
 intro b s σ H Q I h;refine thn (hi b s σ H _ I h) λw e ⟨y,f,j,k,l⟩=>thn (d b e σ f _ j l) λu z m=>?_;obtain⟨x,n,p,q,a,r,ex,g,t⟩:=m;subst ex;obtain rfl:u=Value.ref a:=q;exact jps c p g k λB v=>⟨.bl r.isSome,n,v,rfl,t⟩
def jhj(c:X.A.units+1<cLine)(d:PE X o td)(hi:PE X i ty)(e:PE X value tv)(f:swapsWith value (some<|.Subscript o i pos') pos.line X.env=pure false):
  PS X (.Assign [.Subscript o i pos'] value pos) (jhD td ty tv):=by
 intro b s σ H D I h;refine wpAny_Assign_Subscript (thn (e b s σ H _ I h) λr j ⟨v,k,l,m,n⟩=>thn (d b j σ k _ l n) λu p ⟨x,q,t,w,z⟩=>thn (hi b p σ q _ t z) λK L B=>?_) f;obtain⟨y,M,C,E,a,F,ex,g,G⟩:=B;subst ex;obtain rfl:u=Value.ref a:=w;exact jdc c C g E m λN J=>⟨σ,F,J,G⟩
def jeX(h:Heap)(a:sysModules<h.objs.size):ObjOk P w H (h.push {cls:=.type "dict",data:=.dict #[]}) h.objs.size (.dK []):=
 ⟨X4 _,U9.mpr<|Ne.symm<|N8 a,[],.nil,Heap.DictOf.new h⟩
def jb3:TE:=λ_ H Q=>∀ p,H p=none->Q (.ref p) (upd H p<|.dK [])
def je4:PE X (.Dict [] [] pos) jb3:=λa s σ H Q I h=>
 wpAny_Dict_empty ⟨.ref ↥s,_,I.laid (λ_ _ q=>L8 _ q) (M9 _)<|jeX s.heap I.big,rfl,h _<|I.hok.fresh<|M9 _⟩
structure M1(X:Cx)(o:Expr)(m:Str)(apos:Pos)(e:Expr)(cpos:Pos):Prop where
 base:attributeBase o m X.env (eval o X.env)=eval o X.env
 few:((backTo cpos<|starEach [e] X.env).all (λx=>!x.1)&&(backToKw cpos<|keywordEach [] X.env).all (λx=>x.1.isSome)
  && decide (([e]:List Expr).length+([]:List Keyword).length+(if([]:List Keyword).isEmpty then 0 else 1)<30))=true
 line:(apos.endLine==cpos.line)=true
 trees:backTo cpos (starEach [e] X.env)=[(false,eval e X.env)]
end L2
namespace PySem
open Sem (wp)
namespace F
end F
end PySem
namespace L2
open PySem PySem.Spec PyProof.Rows
def Inv.layAll(I:Inv X pins σ H s)(k:∀ b u,s.heap.get? b=some u->h'.get? b=some u)(a:∀ b,H b≠none->H' b=H b)
  (new:∀ b o,H b=none->H' b=some o->↥s<=b/\ObjOk X.prog X.w H' h' b o):Inv X pins σ H' {s with heap:=h',toks:=t'}:=by
 refine I.un ⟨λb u q _ _ _=>k b u q,λb u q _ _ _=>⟨u.slots,k b u q⟩,λb u q n _=>?_,λb u q _=>⟨u,k b u q⟩,λb xs q=>?_,λb o u q=>?_,λb f q=>⟨#[],?_⟩⟩ λb o e=>?_
 ·cases e:H' b with
  | none=>rfl
  | some o=>exact absurd (N3 q)<|Nat.not_lt.mpr (new b o n e).1
 ·rw[a b<|by rw[q];exact λz=>nomatch z];exact q
 ·rw[a b<|by rw[q];exact λz=>nomatch z];exact q
 ·rw[a b (by rw[q];exact λz=>nomatch z),q];simp
 ·by_cases n:H b=none
  ·exact(new b o n e).2
  ·have d:=e;rw[a b n] at d;exact(I.hok b o d).stay (λc u _ q=>k c u q) (λc q=>by rw[a c<|by rw[q];exact λz=>nomatch z];exact q) λc xs q=>by rw[a c<|by rw[q];exact λz=>nomatch z];exact q
structure KD(P:Program)(w:World)(K:J4)(a:Addr)(kvs:List<|Key×V):Prop where
 nm:(a==sysModules)=false
 dd:∀ h:Heap,K.In h->∃ vs,KV kvs vs/\h.DictOf (yj P w) a vs
def jhQ(kvs:List<|Key×V)(ty:TE):TE:=λσ H Q=>ty σ H λy H1=>∃ k v,y=kV k/\Ky kvs k=some v/\Q v H1
def jbA(kvs:List<|Key×V)(ty:TE):TE:=λσ H Q=>ty σ H λy H1=>∃ k,y=kV k/\Q ((Ky kvs k).getD .non) H1
def jg8{X:Cx}{h:Heap}{vs}(dd:h.DictOf (yj X.prog X.w) a vs):∃ o,An3 (h.get? a=some o) (o.cls=.type "dict") (o.dict=none):=by
 obtain⟨ob,_,_,c,b,_⟩:=dd;exact⟨ob,c,b.1,b.2.1⟩
def jge(D:KD X.prog X.w X.K a kvs)(f:Gl X x)(g:X.mg x=some (.ref a))(hi:PE X i ty)(j:jnn i)(hd:Nd x:=by decide):PE X (.Subscript (.Name x p) i pos) (jhQ kvs ty):=by
 intro b s σ H Q I h;refine jis PySem.F.slot_dict_getitem.lookup j<|qP I f g (thn (hi b s σ H _ I h) λt u ⟨y,l,e,m,k,v,n,o,q⟩=>?_) hd;subst n;obtain⟨vs,c,dd⟩:=D.dd _ e.kIn;obtain⟨z,r,d⟩:=RelO.some_of (by rw[<- o];exact c.val k);exact⟨dd.typeIs,wpAny_getItem_of (jaz m) dd.mapOf r ⟨v,l,e.tok _,d,q⟩⟩
def jem{X}{c}(D:KD X.prog X.w X.K a c)(j:Gl X x)(l:X.mg x=some (.ref a))(n:PE X e ty)(m:M1 X (.Name x p) "get" apos e cpos)(hd:Nd x:=by decide):PE X (.Call (.Attribute (.Name x p) "get" apos) [e] [] cpos) (jbA c ty):=by
 intro d s σ H Q I h;obtain⟨vs,o,dd⟩:=D.dd _ I.kIn;refine wpAny_Call_method m.base m.few m.line PySem.F.plainAttrs_dict PySem.F.slot_dict_get PySem.F.type_dict_get<|qP I j l ⟨dd.typeIs,λb q=>?_,?_⟩ hd
 ·cases q;obtain⟨ob,r,_,t⟩:=jg8 dd;exact⟨ob,r,t⟩
 rw[m.trees];refine Calls.callWith_builtin rfl<|Calls.evalArgs_plain<|Calls.spliced_cons<|thn (n d s σ H _ I h) λC E ⟨y,u,i,v,k,z,A⟩=>Calls.spliced_nil ?_;subst z;obtain⟨B,f,g⟩:=D.dd _ i.kIn;refine call_meetsIn PySem.F.slot_dict_get g.typeIs PySem.F.entry_dict_get (PySem.F.args_dict_get_2 _ _) (meets_dict_get (yj X.prog X.w) a (jaz v) D.nm) ⟨_,g.mapOf,_,u,i.tok _,?_,A⟩;exact(f.val k).getD rfl
noncomputable def jgs(w:World):List Str->List Tok->List Value->List DictEntry
 | x::xs,t::ts,v::vs=>⟨PyData.keyHash w.params x,.str x t,v⟩::jgs w xs ts vs
 | _,_,_=>[]
theorem KU:∀{xs}{ts}{us},xs.length=ts.length->xs.length=us.length->Pairs (yj P w) (jgs w xs ts us) ((xs.map λx=>(Sum.inr x:Key)).zip us)
 | [],[],[],_,_=>.nil
 | x::xs,t::ts,u::us,a,b=>.cons (JS P w x t) rfl<|KU ⇑a ⇑b
 | [],_::_,_,h,_=>by simp at h
 | [],[],_::_,_,h=>by simp at h
 | _::_,[],_,h,_=>by simp at h
 | _::_,_::_,[],_,h=>by simp at h
theorem zO:∀{xs}{ts}{us},∀ q∈jgs w xs ts us,∃ k,(yj P w).is k q.key=true/\q.hash=(yj P w).hash k
 | x::xs,t::ts,u::us,q,h=>by
  rcases M4.mp h with rfl | h
  ·exact⟨.inr x,JS P w x t,rfl⟩
  ·exact zO q h
 | [],_,_,q,h=>by simp[jgs] at h
 | _::_,[],_,q,h=>by simp[jgs] at h
 | _::_,_::_,[],q,h=>by simp[jgs] at h
theorem jfj:∀{ks:List Key}{vs}{us},Vals vs us->KV (ks.zip vs) (ks.zip us)
 | [],_,_,_=>by simp[KV];exact .nil
 | k::ks,[],_,.nil=>by simp[KV];exact .nil
 | k::ks,v::vs,u::us,.cons a b=>by
  exact .cons ⟨rfl,a⟩<|jfj b
def jcf{K:J4}{ks:List Key}{xs:List Str}{ts}{us}{vs}{c}(d:ks=xs.map λx=>(Sum.inr x:Key))(h:K.lookup a=some {cls:=.type "dict",data:=.dict (jgs w xs ts us).toArray c})
  (f:(a==sysModules)=false) (h1:xs.length=ts.length) (h2:xs.length=us.length) (g:Vals vs us) (hn:xs.Nodup):KD P w K a (ks.zip vs):=by
 subst d;refine⟨f,λk i=>⟨(xs.map λx=>(Sum.inr x:Key)).zip us,jfj g,⟨_,_,c,i a _ h,⟨rfl,rfl,rfl⟩,rfl,λq j=>zO q ⇑j,by simpa using KU h1 h2,?_⟩⟩⟩;have e:((xs.map λx=>(Sum.inr x:Key)).zip us).map (·.1)=xs.map λx=>(Sum.inr x:Key):=by
  rw[List.map_fst_zip];rw[L0];lia
 rw[e];exact List.Pairwise.map _ (λa b h z=>h<|by cases z;rfl) hn
section
variable {prog:Program}{w:World}{A:Around}{E:J0}{s:Shared}
def jew{j t}{n}{a}{y}{C}(d:s.heap.IsTupleIter j t n)(e:s.heap.IsTuple t a)(f:a[n]?=some y)
  (go:∀ k,k.IsTupleIter j t (n+1)->Heap.SameBut j s.heap k->C y {s with heap:=k}):wpAny (model prog w) A (Builtin.SmallTypes.nextOf<|.ref j) C E s:=by
 obtain⟨i,c,ci,b⟩:=id d;obtain⟨l,g,_,mt,h⟩:=e;refine L1<|wpAny_callSpecial?_slot d.typeIs F.slot_tuple_iterator_next<|wpAny_call_entry F.slot_tuple_iterator_next d.typeIs F.entry_tuple_iterator_next ?_<|F.args_tuple_iterator_next_1 _;show wpAny _ _ (field (.ref j) 0 >>= _) _ _ s;refine L1<|X5 c b rfl<|L1<|X5 c b rfl<|L1<|wpAny_seqItems g h ?_;simp only[U0,f];refine L1<|wpAny_setField c b (by simp)<|M7 ⟨y,rfl,M7<|go _ ⟨_,Heap.get?_update_self _ c<|Obj.isFreed_of_fields<|Obj.data_mapFields b _,(Obj.cls_mapFields ..).trans ci,?_⟩<|Heap.SameBut.update ..⟩;rw[Obj.data_mapFields b];simp[rawInt]
variable {z TI TO j1 j2 l t:Addr}{m:Nat}{us vs:Array Value}{u v a b:Value}
end
def wv:fillsNumberSlot (.type "tuple") "mul" = pure false:=
 PySem.fillsNumberSlot_seq PySem.F.slot_tuple_mul.lookup (by decide +kernel) PySem.F.slot_tuple_rmul.lookup (by decide +kernel)
def wR:seqRepeat? (.type "tuple")=pure (some<|.builtin "tuple.__mul__"):=by
 delta seqRepeat?
 rw[PySem.seqSlot_of (name:="__mul__") PySem.F.slot_tuple_mul.lookup<|by decide +kernel,PySem.seqSlot_of (name:="__rmul__") PySem.F.slot_tuple_rmul.lookup<|by decide +kernel];rfl
def jdI(a)(t)(l)(b)(n)(dd)(sl):
  Meets (Builtin.«int.__rmul__» ⟨[.int a t,.ref l],[]⟩) (λ_ R s=>s.heap.get? l=some {cls:=.type "tuple",dict:=dd,data:=.seq b n,slots:=sl}/\R (.ok<|.ret Value.notImplemented) s):=
 .of_wp λprog w A R s h=>by
  rcases s with⟨c,d,e,f,os⟩;obtain⟨g,q⟩:=h
  wp_walk
  exact⟨_,rfl,q⟩
def jfc(l)(a)(n)(dd)(sl)(u):
  Meets (Builtin.«tuple.__mul__» ⟨[.ref l,.int 1 u],[]⟩) (λ_ R s=>s.heap.get? l=some {cls:=.type "tuple",dict:=dd,data:=.seq a n,slots:=sl}/\R (.ok<|.ret<|.ref l) s):=
 .of_wp λprog w A R s h=>by
  rcases s with⟨c,d,e,f,os⟩;obtain⟨b,q⟩:=h
  wp_walk using wpAny_loadPart' b
  exact⟨_,rfl,q⟩
def jdH(l)(a)(n)(dd)(sl)(x)(u)(r:2<=x)(h1:x<=1000)(b:¬ a.isEmpty=true)(hz:a.size<=1000):
  Meets (Builtin.«tuple.__mul__» ⟨[.ref l,.int x u],[]⟩) (λ_ R s=>s.heap.get? l=some {cls:=.type "tuple",dict:=dd,data:=.seq a n,slots:=sl}/\R (.ok<|.ret<|.ref ↥s) { s with heap:=s.heap.push {cls:=.type "tuple",data:=.seq ((List.replicate x.toNat a).foldl (·++·) #[])} }):=
 .of_wp λprog w A R s h=>by
  rcases s with⟨t,v,y,z,os⟩;obtain⟨f,q⟩:=h;have B:a.size*x<=1000*1000:=Int.mul_le_mul ∅ ∅ ∅ ∅;have c1:¬ ((decide (x < -(2 ^ 63))||decide (x ≥ 2 ^ 63))=true):=by simp;lia
  have g:¬ ((a.isEmpty||x==1)=true):=by simp at b ⊢;exact⟨b,by lia⟩
  have i:¬ ((decide (x<=0)||a.isEmpty)=true):=by simp at b ⊢;exact⟨by lia,b⟩
  have j:¬ (a.size*x>(2 ^ 63-1)/8):=by lia
  wp_walk using wpAny_loadPart' f
  rw[if_neg c1];refine L1<|wpAny_tupleItemsOf f rfl ?_;rw[if_neg g,if_neg i];rw[if_neg j];have C:¬ (Builtin.Tuple.tupleTooMany (a.size*x)=true):=by
   unfold Builtin.Tuple.tupleTooMany;simp[sizeLine];lia
  have m:¬ ((List.foldl (λd e=>d++e) #[] (List.replicate x.toNat a)).size>sizeLine):=by
   have o:∀ k c,((List.replicate k a).foldl (λd e=>d++e) c).size=c.size+k*a.size:=by
    intro k
    induction k with
    | zero=>intro c;simp
    | succ k p=>intro c;rw[List.replicate_succ,List.foldl_cons,p,Array.size_append,Nat.succ_mul];lia
   rw[o];have:(1000*1000:Nat)<=sizeLine:=by decide
   simp only[N5,List.length_nil]
   lia
  wp_walk
  exact⟨_,rfl,q⟩
theorem uT(xs:List Value):∀ n acc,((List.replicate n xs.toArray).foldl (·++·) acc.toArray)=(acc++(List.replicate n xs).flatten).toArray
 | 0,acc=>by simp
 | n+1,acc=>by
  rw[List.replicate_succ,List.foldl_cons,show acc.toArray++xs.toArray=(acc++xs).toArray by simp,uT xs n,List.replicate_succ,List.flatten_cons,List.append_assoc]
theorem ur(r:Vals xs us):∀ n:Nat,Vals (List.replicate n xs).flatten (List.replicate n us).flatten
 | 0=>.nil
 | n+1=>by
  exact r.append<|ur r n
def jf1(K:J4):R2:=λx y H Q=>∃ a xs n,x=.ref a/\y=.int n/\SqT K H a xs/\xs≠[]/\xs.length<=1000/\1<=n/\n<=1000/\(n=1->Q (.ref a) H)/\(n≠1->∀ p,H p=none->Q (.ref p) (upd H p<|.tup (List.replicate n.toNat xs).flatten))
def jgL:OpR X (binaryOp .Mult) (jf1 X.K):=by
 intro k s σ H x y v u Q I p r h;obtain⟨a,xs,n,rfl,rfl,t,w,l,J,A,B,C⟩:=h;cases p;obtain⟨f,rfl⟩:=r;obtain⟨c,g,p1,_⟩:=I.tuple t;obtain⟨⟨cls,dd,data,i⟩,d,D,m,hd⟩:=id p1;subst D hd;refine wpAny_binaryOp_repeat_ref (by decide) ⟨_,d,rfl⟩ (λE=>typeIs_int E n f) wv PySem.F.fills_int_mul PySem.F.slot_int_rmul wR PySem.F.slot_int_index.lookup<|call_meets PySem.F.slot_int_rmul (typeIs_int s n f) PySem.F.entry_int_rmul (PySem.F.args_int_rmul_2 _ _) (jdI n f a c.toArray m dd i) ⟨d,rfl,⟨_,d,rfl⟩,?_⟩
 by_cases o:n=1
 ·subst o;exact call_meets PySem.F.slot_tuple_mul ⟨_,d,rfl⟩ PySem.F.entry_tuple_mul (PySem.F.args_tuple_mul_2 _ _) (jfc a c.toArray m dd i f) ⟨d,.ref a,H,I,rfl,B rfl⟩
 ·have e:=uT c n.toNat [];have j:¬ c.toArray.isEmpty=true:=by
   simp;exact λz=>w<|g.nil_iff.mp z
  refine call_meets PySem.F.slot_tuple_mul ⟨_,d,rfl⟩ PySem.F.entry_tuple_mul (PySem.F.args_tuple_mul_2 _ _) (jdH a c.toArray m dd i n f ∅ A j (by rw[N5,<- g.length];exact l)) ⟨d,?_⟩;rw[show(#[]:Array Value)=([]:List Value).toArray from rfl,e,E4];refine⟨.ref ↥s,_,I.laid (λb ob q=>L8 _ q) (M9 _) ?_,rfl,C o _<|I.hok.fresh<|M9 _⟩;refine⟨?_,_,ur g n.toNat,IsTupN.new _ _⟩;have G:n.toNat*xs.length<=1000*1000:=Nat.mul_le_mul ∅ l;have:((List.replicate n.toNat xs).flatten).length=n.toNat*xs.length:=by simp
  rw[this];exact N9 G (by decide)
def jme(neg:Bool)(kvs:List<|Key×V)(ty:TE):TE:=λσ H Q=>ty σ H λy H1=>∃ k,y=kV k/\Q (.bl<|neg != (Ky kvs k).isSome) H1
def jkn(D:KD X.prog X.w X.K a kvs)(e:Gl X x)(f:X.mg x=some (.ref a))(hi:PE X i ty)(hd:Nd x:=by decide):PC X .In i (.Name x p) (jme false kvs ty):=by
 intro b s σ H Q I h;refine thn (hi b s σ H _ I h) λn o ⟨y,g,c,j,k,l,m⟩=>qP c e f ?_ hd;subst l;obtain⟨vs,d,dd⟩:=D.dd _ c.kIn;refine wpAny_in_of (jaz j) D.nm dd.mapOf ?_;rw[<- (d.val k).isSome_eq];refine⟨.bl (Ky kvs k).isSome,g,c.tok _,rfl,?_⟩;simpa using m
def jnb(l)(c)(n)(b)(a)(e)(dd)(sl)(g:¬(!c.isEmpty&&Builtin.List.listTooLong (c.size+a.size))=true)(h1:c.size<=sizeLine)(h2:c.size+a.size<=sizeLine+1):
  Meets (Builtin.«list.extend» ⟨[.ref l,.ref b],[]⟩) (λ_ R s=>s.heap.get? l=some {cls:=.type "list",dict:=none,data:=.seq c n,slots:=#[]}/\s.heap.get? b=some {cls:=.type "list",dict:=dd,data:=.seq a e,slots:=sl}/\R (.ok<|.ret Value.none) {s with heap:=s.heap.update l (Obj.mapSeq λx=>x++a)}):=
 .of_wp λprog w A R s h=>by
  rcases s with⟨i,j,k,m,os⟩;obtain⟨d,f,q⟩:=h;have o:(c++a).size<=sizeLine+1:=by rw[Array.size_append];exact h2
  wp_walk using(wpAny_updateSeq d rfl),wpAny_loadPart' d,wpAny_loadPart' f
  exact⟨_,rfl,q⟩
def jmi(l)(c)(n)(b)(a)(e)(dd)(sl)(g:¬(!c.isEmpty&&Builtin.List.listTooLong (c.size+a.size))=true)(h1:c.size<=sizeLine)(h2:c.size+a.size<=sizeLine+1):
  Meets (Builtin.«list.extend» ⟨[.ref l,.ref b],[]⟩) (λ_ R s=>s.heap.get? l=some {cls:=.type "list",dict:=none,data:=.seq c n,slots:=#[]}/\s.heap.get? b=some {cls:=.type "tuple",dict:=dd,data:=.seq a e,slots:=sl}/\R (.ok<|.ret Value.none) {s with heap:=s.heap.update l (Obj.mapSeq λx=>x++a)}):=
 .of_wp λprog w A R s h=>by
  rcases s with⟨i,j,k,m,os⟩;obtain⟨d,f,q⟩:=h;have o:(c++a).size<=sizeLine+1:=by rw[Array.size_append];exact h2
  wp_walk using(wpAny_updateSeq d rfl),wpAny_loadPart' d,wpAny_loadPart' f
  exact⟨_,rfl,q⟩
def xK(K:J4):V->List V->Hp->VK->Prop:=λx vs H Q=>∃ l b xs zs,x=.ref l/\vs=[.ref b]/\H l=some (.lst xs)/\(SqL K H b zs\/SqT K H b zs)/\xs.length+zs.length<=sizeLine/\Q .non (upd H l<|.lst<|xs++zs)
def wx:MtM X "list.extend" (xK X.K):=by
 intro t s σ H x vs v D Q I y A h;obtain⟨l,b,xs,E,rfl,rfl,m,g,w,q⟩:=h;cases y;obtain⟨u,rfl,B⟩:=A.one;cases B;obtain⟨z,c,n,r,G,e⟩:=I.lstM m;rcases g with g | g
 ·obtain⟨a,i,p2,_⟩:=I.list g;obtain⟨⟨cls,dd,data,j⟩,k,e2,o,hd,C⟩:=p2
  first | subst o | skip
  have f:c.toArray.size+a.toArray.size<=sizeLine:=by rw[N5,N5,<- r.length,<- i.length];exact w
  have d:¬ (!c.toArray.isEmpty&&Builtin.List.listTooLong (c.toArray.size+a.toArray.size))=true:=by
   rw[uL f,Bool.and_false];exact M3
  have p:s.heap.get? b=some {cls:=.type "list",dict:=dd,data:=.seq a.toArray k,slots:=j}:=by
   rw[e2];simp_all
  refine call_meets PySem.F.slot_list_extend ⟨_,e,rfl⟩ PySem.F.entry_list_extend (PySem.F.args_list_extend_2 _ _) (jnb l c.toArray n b a.toArray k dd j d ∅ ∅) ⟨e,p,⟨.non,_,I.lset m e (by simp) (r.append i) ?_,rfl,q⟩⟩;rw[N6]
  lia
 ·obtain⟨a,i,p2,_⟩:=I.tuple g;obtain⟨⟨cls,dd,data,j⟩,e2,o,k,hd⟩:=p2;subst o hd;have f:c.toArray.size+a.toArray.size<=sizeLine:=by rw[N5,N5,<- r.length,<- i.length];exact w
  have d:¬ (!c.toArray.isEmpty&&Builtin.List.listTooLong (c.toArray.size+a.toArray.size))=true:=by
   rw[uL f,Bool.and_false];exact M3
  refine call_meets PySem.F.slot_list_extend ⟨_,e,rfl⟩ PySem.F.entry_list_extend (PySem.F.args_list_extend_2 _ _) (jmi l c.toArray n b a.toArray k dd j d ∅ ∅) ⟨e,e2,⟨.non,_,I.lset m e (by simp) (r.append i) ?_,rfl,q⟩⟩;rw[N6]
  lia
def jbu:CallR X (.type "int") (λxs H Q=>∃ b:Bool,xs=[.bl b]/\Q (.int<|if b then 1 else 0) H):=by
 intro a s σ H xs d Q I r h;obtain⟨b,rfl,q⟩:=h;obtain⟨u,rfl,c⟩:=r.one;cases c;exact call_int_bool ⟨.int<|if b then 1 else 0,H,I.tok _,⟨_,rfl⟩,q⟩
section
def jjF(ft:TypeCalled T nw it)
  (c1:checkTypeCall T ⟨xs,kw⟩=pure ()) (d:checkBuiltinCall nw ⟨.type T::xs,kw⟩=pure ()) (f:entryFor table nw=some Bn) (i:entryFor table it=some Bi)
  (g:Meets (Bn ⟨.type T::xs,kw⟩) Sn) (h:Sn A.in1 (wants Q1 E) s)
  (nx:∀ obj s1,Q1 obj s1->s1.TypeIs obj T/\argsOk it ⟨obj::xs,kw⟩/\∃ Si,MeetsIn prog w (Bi ⟨obj::xs,kw⟩) Si/\Si A.in1 (wants (λr s2=>r=.none/\Q obj s2) E) s1):
  wpAny (model prog w) A (call (.type T) xs kw) Q E s:=by
 obtain⟨c,q,t⟩:=ft.mro;have u:=ft.made;have m3:=ft.sub;refine wpAny_call<|codeAny_of_tree<|M7 ⟨Code.quiet_builtin _<|by decide +kernel,codeAny_builtin F.entry_type_call ?_⟩;have v:=ft.notType;have x:=ft.canCreate
 repeat (any_goals (first | assumption | wp_step))
 refine codeAny_mono (codeAny_call_builtin ft.plain f<|wpAny_of_eq d<|g prog w A.in1 _ s h) λr s1 b=>?_;cases r with
 | error e=>exact b
 | ok j=>
  cases j with
  | ret obj=>
   obtain⟨k,l,Si,m,n⟩:=nx _ _ b;have y:=ft.init.lookup;have z:=ft.init.bind obj
   repeat (any_goals (first | assumption | wp_step))
   refine codeAny_mono (codeAny_call_builtin ft.init.plain i<|ft.init.check _ _ _ _ _ _ _ _ k l<|m A.in1 _ s1 n) λo s2 a=>?_;cases o with
   | error e=>exact a
   | ok p=>
    cases p with
    | ret r=>
     obtain⟨rfl,B⟩:=a
     repeat (any_goals (first | assumption | wp_step))
    | _=>exact a.elim
  | _=>exact b.elim
def jlu(hl:typeLookup (.type T) "__init__" = pure (some<|.builtin "object.__init__"))
  (c:Bind.madeBy (.type T)=pure (some nw)) (hn:(some nw != some "object.__new__")=true):
  Meets (Builtin.«object.__init__» ⟨self::x::xs,kw⟩) (λ_ R s=>s.TypeIs self T/\R (.ok<|.ret .none) s):=by
 refine Meets.of_wp λprog w A R s a=>?_;obtain⟨d,b⟩:=a
 repeat (any_goals (first | assumption | wp_step))
 exact⟨_,rfl,b⟩
def jm7(a b):checkTypeCall "enumerate" ⟨[a],[("start",b)]⟩=pure ():=by kernel_rfl
def jnW(a b):checkBuiltinCall "enumerate.__new__" ⟨[.type "enumerate",a],[("start",b)]⟩=pure ():=by kernel_rfl
def jn4(a b c):argsOk "object.__init__" ⟨[a,b],[("start",c)]⟩:=by
 unfold argsOk;rw[signature?_of (n:=['_','_','t','i','n','i','_','_']) (by kernel_rfl) F.owner_object];kernel_rfl
open AutoSeq1 (wpAny_loadPart') in
def jhd(l)(us)(m)(dc)(sl)(n)(t)(hn:Builtin.SmallTypes.fitsIndex n=true):
  Meets (Builtin.«enumerate.__new__» ⟨[.type "enumerate",.ref l],[("start",.int n t)]⟩) (λ_ R s=>s.heap.get? l=some {cls:=.type "list",dict:=dc,data:=.seq us m,slots:=sl} /\
   R (.ok<|.ret<|.ref (s.heap.push {cls:=.type "list_iterator",data:=.fields #[.ref l,.int 0 0]}).objs.size)
    { s with heap:=(s.heap.push {cls:=.type "list_iterator",data:=.fields #[.ref l,.int 0 0]}).push {cls:=.type "enumerate",data:=.fields #[.none,.bool false,.ref ↥s,rawInt n,.none,.none]} }):=
 .of_wp λprog w A R s h=>by
  obtain⟨f,g,d,i,os⟩:=s;obtain⟨a,h⟩:=h;have e:=sub_enumerate;have b:Heap.IsList (Shared.heap ⟨f,g,d,i,os⟩) l us:=⟨_,a,rfl,m,rfl⟩
  wp_walk using wpAny_loadPart' a
  refine wpAny_stack_any λj=>M7 ?_;split
  ·rename_i c _ _ _ _ _;cases(c==Value.type "enumerate")
   ·wp_walk using wpAny_loadPart' a,wpAny_pyIter_list b
    exact⟨_,rfl,h⟩
   ·wp_walk using wpAny_loadPart' a,wpAny_pyIter_list b
    exact⟨_,rfl,h⟩
  ·wp_walk using wpAny_loadPart' a,wpAny_pyIter_list b
   exact⟨_,rfl,h⟩
def jhz(f:s.heap.IsList l us)(hn:Builtin.SmallTypes.fitsIndex n=true)
  (go:∀ k,IsEnum k (↥s+1) ↥s n .none->k.IsListIter ↥s l 0->(∀ b o,s.heap.get? b=some o->k.get? b=some o)->C (.ref<|↥s+1) {s with heap:=k}):
  wpAny (model prog w) A (call (.type "enumerate") [.ref l] [("start",.int n t)]) C E s:=by
 obtain⟨⟨c,g,p,h⟩,i,j,m,hd⟩:=f;subst j hd;refine jjF (Q1:=λobj a=>a.TypeIs obj "enumerate"/\C obj a) F.called_enumerate (jm7 _ _) (jnW _ _) F.entry_enumerate_new F.entry_object_init (jhd l us m g h n t hn) ⟨i,?_⟩
  λobj _ q=>⟨q.1,jn4 _ _ _,_,(jlu F.called_enumerate.init.lookup F.called_enumerate.made<|by decide).inModel _ _,q.1,rfl,q.2⟩
 have d:(s.heap.push {cls:=.type "list_iterator",data:=.fields #[.ref l,.int 0 0]}).objs.size=↥s+1:=Heap.size_push ..;rw[d];have e:IsEnum ((s.heap.push {cls:=.type "list_iterator",data:=.fields #[.ref l,.int 0 0]}).push {cls:=.type "enumerate",data:=.fields #[.none,.bool false,.ref ↥s,rawInt n,.none,.none]}) (↥s+1) ↥s n .none:=by
  have q:=E7 (s.heap.push {cls:=.type "list_iterator",data:=.fields #[.ref l,.int 0 0]}) (o:={cls:=.type "enumerate",data:=.fields #[.none,.bool false,.ref ↥s,rawInt n,.none,.none]}) rfl;rw[d] at q;exact q
 exact⟨⟨_,e,rfl⟩,go _ e ⟨_,L8 _<|E7 _ rfl,rfl,rfl⟩ λb o x=>L8 _<|L8 _ x⟩
end
def jmZ(K:J4)(tl:TA)(tb:TE):TI:=λσ H R=>tl σ H λvs H1=>tb σ H1 λv H2=>∃ a xs n,vs=[.ref a]/\v=.int n/\Builtin.SmallTypes.fitsIndex n=true/\SqL K H2 a xs/\R (Itn K a n) H2
def jnq{X}{elts}{m}{tpos p pos g}{a b}{ta}{tb}(L:Gl X "enumerate")(M:X.mg "enumerate" = none)(N:PA X [a] ta)(B:PE X b tb)(O:starEach [a] X.env=[(false,eval a X.env)]:=by rfl):
  PI X (.Tuple elts m tpos) (.Call (.Name "enumerate" p) [a] [⟨some "start",b,g⟩] pos) (jmZ X.K ta tb):=by
 intro c s σ H R I h;refine wpAny_Call_Name_kw<|YQ I L M (show bootBuiltins "enumerate" = some (.type "enumerate") by decide +kernel)<|L1<|wpAny_holding ?_;have E:=N pos c s σ H _ I h;rw[O] at E ⊢;refine wpAny_mono (evalArgs_kw (Q:=λx f=>wpAny (model X.prog X.w) X.A (call (.type "enumerate") x.pos x.kw) (λv f=>wpAny (model X.prog X.w) X.A (pyIter v) (PIE X c σ (.Tuple elts m tpos) R) X.xe f) X.xe f) rfl<|thn E λus f ⟨vs,P,S,T,U⟩=>?_) (λx f C=>L1<|wpAny_standAt ?_) λ_ _ x=>x
 ·refine wpAny_evalAll_cons<|L1<|thn (B c f σ P _ S U) λv d ⟨y,F,k,V,W⟩=>L1<|wpAny_standAt<|M7<|wpAny_evalAll_nil ?_;obtain⟨l,xs,n,rfl,rfl,Y,Z,q⟩:=W;obtain⟨u,rfl,ru⟩:=T.one;cases ru;obtain⟨t,rfl⟩:=V;obtain⟨its,rv,G,hz⟩:=k.list Z;have i:l < ↥d:=by
   obtain⟨o,_,e,_⟩:=G;exact N3 e
  refine jhz G.isList Y λC J D hk=>?_;have I3:Inv X c σ F {d with heap:=C}:=k.kept hk;refine PySem.wpAny_pyIter_enum J ⟨↥d+1,[↥d+1,↥d],_,_,F,rfl,I3,jhx _ _ l n (Nat.succ_ne_self _) (N8<|Nat.lt_succ_of_lt i)<|N8 i,⟨⟨_,by simpa using J⟩,D⟩,λb B=>?_,q⟩;have j:↥d<=b:=by
   rcases(⇑B:b=↥d+1\/b=↥d) with z | z
   ·rw[z];exact Nat.le_succ _
   ·rw[z];exact M9 _
  exact k.fpOk j<|k.hok.fresh j
 ·exact L1<|M7<|L1<|wpAny_mono C (λr d hr=>L1<|wpAny_holding<|wpAny_point<|M7 hr) λ_ _ x=>x
section
variable {prog:Program}{w:World}{A:Around}{E:J0}{s:Shared}
def jin{j t}{n}{a}{C}(f:A.handled=none)(b:s.heap.IsTupleIter j t n)(g:s.heap.IsTuple t a)(h:a[n]?=none)
  (go:∀ k e,Heap.ExtBut j s.heap k->(∃ o,k.get? e=some o/\o.cls=.type "StopIteration")->E (.ref e) {s with heap:=k}):wpAny (model prog w) A (Builtin.SmallTypes.nextOf<|.ref j) C E s:=by
 obtain⟨m,c,ci,d⟩:=id b;obtain⟨p,i,_,mt,l⟩:=g;refine L1<|wpAny_callSpecial?_slot b.typeIs F.slot_tuple_iterator_next<|wpAny_call_entry F.slot_tuple_iterator_next b.typeIs F.entry_tuple_iterator_next ?_<|F.args_tuple_iterator_next_1 _;show wpAny _ _ (field (.ref j) 0 >>= _) _ _ s;refine L1<|X5 c d rfl<|L1<|X5 c d rfl<|L1<|wpAny_seqItems i l ?_;simp only[U0,h];refine L1<|wpAny_rule<|L1<|wpAny_setField c d (by simp)<|L1<|L1<|wpAny_newObj_type ?_ (by size_fits);refine L1<|wpAny_of_eq (by first | rfl | (simp only[firstArgMember];rfl)) ?_;refine wpAny_newObj_type (L1<|wpAny_handled ?_) (by size_fits)
 first | rw[f] | rw[f]
 exact L1<|M7<|wpAny_throw<|go _ _ (((Heap.SameBut.update ..).extBut.push _).push _) ⟨_,E7 _ rfl,rfl⟩
variable {z TI TO j1 j2 l t:Addr}{m:Nat}{us vs:Array Value}{u v a b:Value}
end
end L2
namespace PySem
open Sem (wp)
namespace F
end F
end PySem
namespace L2
open PySem PySem.Spec PyProof.Rows
end L2
namespace PySem
open Sem (wp)
end PySem
namespace L2
open PySem PySem.Spec PyProof.Rows
end L2
namespace PySem
open PySem.W PyProof.Rows PySem.Calls
end PySem
set_option maxHeartbeats 4000000
namespace PySem
open PySem.W PyProof.Rows PySem.Calls
end PySem
namespace PySem
open Sem (wp)
end PySem
namespace L2
open PySem PySem.Spec PyProof.Rows
end L2
set_option maxHeartbeats 1000000
namespace PySem
namespace F
end F
end PySem
namespace L2
open PySem PySem.Spec PyProof.Rows
structure Z3(z TI TO j1 j2 j3 t l m:Addr):Prop where
 TIz:TI≠z
 TOz:TO≠z
 j1z:j1≠z
 j2z:j2≠z
 j3z:j3≠z
 TITO:TI≠TO
 TIj1:TI≠j1
 TIj2:TI≠j2
 TIj3:TI≠j3
 TOj1:TO≠j1
 TOj2:TO≠j2
 TOj3:TO≠j3
 j12:j1≠j2
 j13:j1≠j3
 j23:j2≠j3
 out:∀ x,x=t\/x=l\/x=m->x≠z/\x≠TO/\x≠j1/\x≠j2/\x≠j3
end L2
namespace PySem
namespace F
end F
end PySem
namespace L2
open PySem PySem.Spec PyProof.Rows
end L2
namespace PySem
open Sem (wp)
namespace F
end F
end PySem
namespace L2
open PySem PySem.Spec PyProof.Rows
end L2
namespace PySem
open L2 PyProof.Rows
section
variable {prog:Program}{w:World}{K:Type} [DecidableEq K] {knd:KeyKind prog w K}{A:Around}{E:J0}{s:Shared}
noncomputable def Yy(acc:List K):List K->List K
 | []=>acc
 | k::ks=>if k∈acc then Yy acc ks else Yy (acc++[k]) ks
def Qr{S}{n}{x}{Q}(b:knd.is k x=true)(c:x.scannable=true)(h:Heap.SetOf knd s.heap a S n)(hn:n+1<scanBound)
  (q:∀ h':Heap,Heap.SameBut a s.heap h'->Heap.SetOf knd h' a (λk'=>S k'||decide (k'=k)) (if S k=true then n else n+1)->Q (!S k) {s with heap:=h',toks:=s.toks+1}):wpAny (model prog w) A (setAdd a x) Q E s:=by
 exact wpAny_holding<|L1<|knd.pyHash b<|wpAny_setAddHashed_of b c h hn q
def jdL{R}(hh:A.handled=none)  (C:ax≠I) (n:S0≠I) (N:S0≠ax) {a}{ks:List K}(D:a.size=ks.length) (O:∀(j:Nat) v,a[j]?=some v->∃ k,ks[j]?=some k/\knd.is k v=true/\v.scannable=true):
  ∀ m i s acc,a.size-i=m->i<=a.size->(s.heap.IsListIter I ax i/\s.heap.IsList ax a)->Heap.SetOf knd s.heap S0 (λk=>decide<|k∈acc) acc.length->acc.length+m+1<scanBound ->
  (∀ h' tk,Heap.SetOf knd h' S0 (λk=>decide<|k∈Yy acc (ks.drop i)) (Yy acc<|ks.drop i).length->(∀ b o,b≠I->b≠S0->s.heap.get? b=some o->h'.get? b=some o)->R (.ok<|.ret .none) {s with heap:=h',toks:=tk}) ->
  codeAny (model prog w) A (.builtin "set.update.loop" ⟨[.ref S0,.ref I],[]⟩) R s:=by
 intro m
 induction m with
 | zero=>
  intro i s acc hk hi p hd hz M;have P:i=a.size:=by lia
  subst P;have W:=Walks.list (prog:=prog) (w:=w) (A:=A.in1) (hh) I ax C a;refine codeAny_builtin F.entry_set_update_loop<|L1<|W.done s _ _ p λh' tk d=>?_;have fin:=M h' tk (by
   rw[D,List.drop_length];obtain⟨o,Q,S,t,T,e2⟩:=hd;exact⟨o,Q,S,t,d S0 o ⇑n T,e2⟩)<|λb o f _ e=>d b o ⇑f e
  repeat (any_goals (first | assumption | wp_step))
 | succ m ih=>
  intro i s acc hk hi p hd hz M;have q:i<a.size:=by lia
  have W:=Walks.list (prog:=prog) (w:=w) (A:=A.in1) (hh) I ax C a;refine codeAny_builtin F.entry_set_update_loop<|L1<|W.item i s _ _ q p λv h' tk hP E d=>?_;obtain⟨k,G,U,V⟩:=O i v hP;have X:Heap.SetOf knd h' S0 (λk=>decide<|k∈acc) acc.length:=by
   obtain⟨o,Q,S,t,T,e2⟩:=hd;exact⟨o,Q,S,t,d S0 o ⇑n T,e2⟩
  refine L1<|wpAny_holding<|Qr U V X ∅ λY Z B=>(M7 ⟨plainId_quiet F.plain_set_update_loop _,?_⟩);have H:ks.drop i=k::ks.drop (i+1):=by
   have J:i<ks.length:=by lia
   rw[List.drop_eq_getElem_cons J];rw[E5 J] at G;rw[E3 G]
  have l:=W.frame (i+1) h' Y E λb f o e=>(Z.2 b (by
   rcases M4.mp f with rfl | f
   ·exact λz=>n z.symm
   ·rw[M8.mp f];exact λz=>N z.symm)).trans e
  by_cases L:k∈acc
  ·have r:Heap.SetOf knd Y S0 (λk=>decide<|k∈acc) acc.length:=by
    rw[if_pos<|X9 L] at B;have e:(λc=>decide (c∈acc)||decide (c=k))=λc=>decide (c∈acc):=by
     funext c
     by_cases h:c=k
     ·subst h;simp[L]
     ·simp[h]
    rw[e] at B;exact B
   refine ih (i+1) _ acc ∅ q l r ∅ λh3 u x y=>(M h3 u ?_ λb o f g e=>y b o f g<|(Z.2 b g).trans (d b o ⇑f e));rw[H,Yy,if_pos L];exact x
  ·have r:Heap.SetOf knd Y S0 (λc=>decide<|c∈acc++[k]) (acc++[k]).length:=by
    rw[if_neg<|by simp[L]] at B;have e:(λc=>decide (c∈acc)||decide (c=k))=λc=>decide (c∈acc++[k]):=by
     funext c
     simp
    rw[e] at B;rw[N6];exact B
   refine ih (i+1) _ (acc++[k]) ∅ q l r (by rw[N6];simp;lia) λh3 u x y=>?_;refine M h3 u ?_ λb o f g e=>y b o f g<|(Z.2 b g).trans (d b o ⇑f e);rw[H,Yy,if_neg L];exact x
end
end PySem
namespace L2
open PySem PySem.Spec PyProof.Rows
section
variable {prog:Program}{w:World}{A:Around}{E:J0}{s:Shared}{K:Type} [DecidableEq K] {knd:KeyKind prog w K}
noncomputable abbrev zE(led:Bool):Obj:={cls:=.type "set",dict:=none,data:=.set #[] 0 (.fresh 0 0 led)}
def jdJ(a):Meets (Builtin.«set.__new__» ⟨[.type "set",a],[]⟩) (λ_ R s=>∀ led:Bool,R (.ok<|.ret<|.ref ↥s) {s with heap:=s.heap.push (zE led)}):=
 .of_wp λprog w A R s h=>by
  obtain⟨c,g,d,e,os⟩:=s;have b:=sub_set_self
  wp_walk
  exact wpAny_askSetting<|M7<|L1<|wpAny_alloc<|M7<|M7 ⟨_,rfl,h _⟩
def ji7{T b d}{i j}{xs}{kw}{k}{Q Q1}(ft:TypeCalled T b d)
  (c1:checkTypeCall T ⟨xs,kw⟩=pure ()) (l:checkBuiltinCall b ⟨.type T::xs,kw⟩=pure ()) (m:entryFor table b=some i) (n:entryFor table d=some j)
  (g:Meets (i ⟨.type T::xs,kw⟩) k) (h:k A.in1 (wants Q1 E) s)
  (nx:∀ obj s1,Q1 obj s1->s1.TypeIs obj T/\(∀{B}{C:Unit->Shared->Prop}{F:J0},C () s1->wpAny (model prog w) B (checkBuiltinCall d ⟨obj::xs,kw⟩) C F s1)/\∃ Si,MeetsIn prog w (j ⟨obj::xs,kw⟩) Si/\Si A.in1 (wants (λr s2=>r=.none/\Q obj s2) E) s1):
  wpAny (model prog w) A (call (.type T) xs kw) Q E s:=by
 obtain⟨c,x,y⟩:=ft.mro;have z:=ft.made;have m3:=ft.sub;refine wpAny_call<|codeAny_of_tree<|M7 ⟨Code.quiet_builtin _<|by decide +kernel,codeAny_builtin F.entry_type_call ?_⟩;have D:=ft.notType;have G:=ft.canCreate
 repeat (any_goals (first | assumption | wp_step))
 refine codeAny_mono (codeAny_call_builtin ft.plain m<|wpAny_of_eq l<|g prog w A.in1 _ s h) λr s1 f=>?_;cases r with
 | error e=>exact f
 | ok o=>
  cases o with
  | ret obj=>
   obtain⟨H,p,Si,q,t⟩:=nx _ _ f;have I:=ft.init.lookup;have J:=ft.init.bind obj
   repeat (any_goals (first | assumption | wp_step))
   refine codeAny_mono (codeAny_call_builtin ft.init.plain n<|p<|q A.in1 _ s1 t) λu s2 a=>?_;cases u with
   | error e=>exact a
   | ok v=>
    cases v with
    | ret r=>
     obtain⟨rfl,K⟩:=a
     repeat (any_goals (first | assumption | wp_step))
    | _=>exact a.elim
  | _=>exact f.elim
def jaC{c l}{us}{m}{dc}{sl}{d}{ks}(a:us.size=ks.length)(f:∀(j:Nat) v,us[j]?=some v->∃ k,ks[j]?=some k/\knd.is k v=true/\v.scannable=true)(g:ks.length+1<scanBound)(hn:c≠l):
  MeetsIn prog w (Builtin.«set.__init__» ⟨[.ref c,.ref l],[]⟩) (λA R s=>A.handled=none/\s.heap.get? c=some (zE d)/\s.heap.get? l=some {cls:=.type "list",dict:=dc,data:=.seq us m,slots:=sl} /\
   ∀ h' tk,Heap.SetOf knd h' c (λk=>decide<|k∈Yy [] ks) (Yy [] ks).length->(∀ b o,b < ↥s->b≠c->s.heap.get? b=some o->h'.get? b=some o)->R (.ok<|.ret .none) {s with heap:=h',toks:=tk}):=by
 intro A R s ⟨q,i,n,go⟩;have p:s.heap.IsList l us:=⟨_,n,rfl,m,rfl⟩;have x:=F.sub_list_set;have y:=F.sub_list_frozenset;unfold Builtin.«set.__init__» noKeywords Builtin.Frozenset.updateFrom;generalize h:pyIter=PI
 wp_walk
 subst h;refine wpAny_pyIter_list p<|L1<|wpAny_runValue ?_;have r:=N8<|N3 n;have t:=N8<|N3 i;refine jdL (by simp[q]) r t hn a f (us.size-0) 0 { s with heap:=s.heap.push {cls:=.type "list_iterator",data:=.fields #[.ref l,.int 0 0]} } [] rfl (X4 _) ⟨⟨_,E7 _ rfl,rfl,rfl⟩,p.push _⟩ ?_ (by rw[a];simpa using g) λh' tk hd u=>?_
 ·exact(PyProof.Rows.setObjOf_fresh d).setOf (L8 _ i) (by unfold scanBound;lia)
 ·exact M7<|M7<|go h' tk hd λb o g hn e=>u b o (N8 g) hn<|L8 _ e
def jdw{l}{us}{ks}{Q}(p:A.handled=none)(r:s.heap.IsList l us)(d:us.size=ks.length)(g:∀(j:Nat) v,us[j]?=some v->∃ k,ks[j]?=some k/\knd.is k v=true/\v.scannable=true)(t:ks.length+1<scanBound)
  (go:∀ h' tk,Heap.SetOf knd h' ↥s (λk=>decide<|k∈Yy [] ks) (Yy [] ks).length->(∀ b o,s.heap.get? b=some o->h'.get? b=some o)->Q (.ref ↥s) {s with heap:=h',toks:=tk}):
  wpAny (model prog w) A (call (.type "set") [.ref l] []) Q E s:=by
 obtain⟨⟨c,y,z,B⟩,i,u,m,hd⟩:=r;subst u hd;refine ji7 (Q1:=λobj n=>∃ a,obj=.ref ↥s/\n={s with heap:=s.heap.push (zE a)}) F.called_set (F.typeCall_set_1 _) (F.newCall_set_1 _) F.entry_set_new F.entry_set_init (jdJ _) (λa=>⟨a,rfl,rfl⟩) λobj n q=>?_;obtain⟨a,rfl,rfl⟩:=q;have h:(s.heap.push<|zE a).get? ↥s=some (zE a):=E7 _ rfl;refine⟨⟨_,h,rfl⟩,(check_set_init_1 ⟨_,h,rfl⟩),_,jaC d g t<|Nat.ne_of_gt<|N3 i,by simp[p],h,L8 _ i,λh' tk hd x=>⟨rfl,go h' tk hd λb o e=>?_⟩⟩;have f:=N3 e;exact x b o (by rw[Heap.size_push];exact Nat.lt_succ_of_lt f) (N8 f)<|L8 _ e
end
def wb(K:J4)(t:TE):TE:=λσ H Q=>t σ H λx H1=>∃ a ns,x=.ref a/\SqL K H1 a (ns.map V.str)/\ns.length<=1000/\Q (.int ((Yy [] ns).length:Nat)) H1
section
variable {X:Cx}{a:Expr}{ta:TE}{p p2 pos pos2:Pos}
theorem Vi{α β} [DecidableEq α] [DecidableEq β] {f:β->α}(a:∀ x y,f x=f y->x=y):∀ l acc,(Yy (acc.map f)<|l.map f).length=(Yy acc l).length
 | [],acc=>by rw[List.map_nil,Yy,Yy,L0]
 | b::l,acc=>by
  rw[L4,Yy,Yy];by_cases h:b∈acc
  ·rw[if_pos h,if_pos<|M5.mpr ⟨b,h,rfl⟩];exact Vi a l acc
  ·rw[if_neg h,if_neg λz=>h<|by obtain⟨c,d,e⟩:=M5.mp z;rw[<- a _ _ e];exact d];have:=Vi a l<|acc++[b];rw[N7] at this;exact this
def jc5(C:X.calm=true)(D:Gl X "len")(E:X.mg "len" = none)(k:Gl X "set")(m:X.mg "set" = none)(F:PE X a ta)
  (G:starEach [.Call (.Name "set" p2) [a] [] pos2] X.env=(false,eval (.Call (.Name "set" p2) [a] [] pos2) X.env)::starEach [] X.env:=by rfl)
  (n:(backTo pos<|starEach [] X.env).any (·.1)=false:=by rfl)
  (J:backTo pos (starEach [.Call (.Name "set" p2) [a] [] pos2] X.env)=[(false,eval (.Call (.Name "set" p2) [a] [] pos2) X.env)]:=by rfl)
  (q:starEach [a] X.env=(false,eval a X.env)::starEach [] X.env:=by rfl) (d:(backTo pos2<|starEach [] X.env).any (·.1)=false:=by rfl)
  (f:backTo pos2 (starEach [a] X.env)=[(false,eval a X.env)]:=by rfl):
  PE X (.Call (.Name "len" p) [.Call (.Name "set" p2) [a] [] pos2] [] pos) (wb X.K ta):=by
 intro g s σ H Q I h;refine wpAny_Call_Name_kw<|YQ I D E (PySem.boot_len) (PyProof.Rows.callWith_builtin1 (Calls.spliced_cons<|wpAny_Call_Name_kw<|YQ I k m (show bootBuiltins "set" = some (.type "set") by decide +kernel) (PyProof.Rows.callWith_type1 ?_ q d) (by decide)<|by decide) G n) (by decide) (by decide);rw[f];refine Calls.spliced_cons<|thn (F g s σ H _ I h) λv s1 ⟨x,L,r,M,l,ns,ex,N,hn,O⟩=>Calls.spliced_nil ?_;subst ex;obtain rfl:v=Value.ref l:=M;obtain⟨P,A,R,hz⟩:=r.list N;have c:=A.length;rw[L0] at c;refine jdw (knd:=yj X.prog X.w) (ks:=ns.map Sum.inr) (r.ok.hd C) R.isList (by rw[N5,L0];exact c.symm) (λj v y=>?_) (by rw[L0];unfold scanBound;lia) λh' tk S T=>Calls.spliced_nil ?_
 ·rw[List.getElem?_toArray] at y;have i:j<ns.length:=by have:=(L9.mp y).1;lia
  obtain⟨u,B,U⟩:=A.get (by rw[List.getElem?_map,E5 i];rfl);rw[y] at B;cases B;obtain⟨t,rfl⟩:=U;exact⟨Sum.inr ns[j],by rw[List.getElem?_map,E5 i];rfl,by rw[jam];exact zI _ _,rfl⟩
 ·obtain⟨o,es,ep,t,V,e2,e3,_,_,W,Y,e6⟩:=S;refine call_len_set V e2 e3 Y (by unfold scanBound at W;lia) ?_;have z:(Yy []<|ns.map (Sum.inr:_->Key)).length=(Yy [] ns).length:=Vi (λ_ _ e=>Sum.inr.inj e) ns [];refine⟨.int ((Yy [] ns).length:Nat),L,r.layAll T (λ_ _=>rfl) (λb o Z e=>by rw[Z] at e;cases e),?_,O⟩;rw[e6,z];exact⟨_,rfl⟩
end
abbrev KZ(h:Heap)(T:Addr)(xs:List Value):Prop:=h.get? T=some {cls:=.type "tuple",data:=.seq xs.toArray}
def ItAt(h:Heap)(j c:Addr)(n:Nat)(vs:Array Value):Bool->Prop
 | true=>h.IsListIter j c n/\h.IsList c vs
 | false=>h.IsTupleIter j c n/\h.IsTuple c vs
def ItAt.ext{h k}{j c a}{n}{vs}{K}(q:ItAt h j c n vs K)(b:Heap.SameBut a h k)(d:j≠a)(e:c≠a):ItAt k j c n vs K:=by
 cases K<;>exact⟨q.1.extBut b.extBut d,q.2.extBut b.extBut e⟩
def ItAt.up{h k}{j c}{n}{vs}{K}(q:ItAt h j c n vs K)(a:∀ o,h.get? j=some o->k.get? j=some o)(b:∀ o,h.get? c=some o->k.get? c=some o):ItAt k j c n vs K:=by
 cases K <;>
 ·obtain⟨⟨d,e,f⟩,g,e2,i⟩:=q;exact⟨⟨d,a _ e,f⟩,g,b _ e2,i⟩
section
variable {prog:Program}{w:World}{A:Around}{E:J0}{s:Shared}
def jgy{j c}{n}{vs}{K}{x}{C}(q:ItAt s.heap j c n vs K)(a:c≠j)(e:vs[n]?=some x)
  (go:∀ k,ItAt k j c (n+1) vs K->Heap.SameBut j s.heap k->C x {s with heap:=k}):wpAny (model prog w) A (Builtin.SmallTypes.nextOf<|.ref j) C E s:=by
 cases K with
 | true=>exact wpAny_nextOf_list_item q.1 q.2 e λk p b=>go k ⟨p,q.2.extBut (Heap.SameBut.extBut b) a⟩ b
 | false=>exact jew q.1 q.2 e λk p b=>go k ⟨p,q.2.extBut (Heap.SameBut.extBut b) a⟩ b
def jkY(hT:KZ s.heap T xs)(a:xs.length<=1000)
  (h:∀ h',KZ h' T (xs.set k x)->Heap.SameBut T s.heap h'->Q () {s with heap:=h'}):wpAny (model prog w) A (updateSeq T (·.setIfInBounds k x)) Q E s:=by
 have l:xs.toArray.size<=1000:=by simpa using a
 exact wpAny_updateSeq hT rfl (h _ (by rw[KZ,Heap.get?_update_self _ hT rfl];simp[Obj.mapSeq])<|Heap.SameBut.update ..) (N9 l<|by decide) (by rw[Array.size_setIfInBounds];exact N9 l<|by decide)
def jpq{α:Type}{β}{f}{b}{Q:β->Shared->Prop}(St:Nat->Heap->Prop):∀(l:List α) k {s},St k s.heap ->
  (∀ i x h,l[i]?=some x->St (k+i) h->wpAny (model prog w) A (f (x,k+i) b) (λr s'=>r=.yield b/\∃ h',s'={s with heap:=h'}/\St (k+i+1) h') E {s with heap:=h}) ->
  (∀ h,St (k+l.length) h->Q b {s with heap:=h})->wpAny (model prog w) A (forIn (l.zipIdx k) b f) Q E s:=by
 intro l
 induction l with
 | nil=>
  intro k s a _ c;exact M7<|c _ a
 | cons x l g=>
  intro k s a d c;rw[List.zipIdx_cons,List.forIn_cons];refine L1<|wpAny_mono (d 0 x s.heap rfl a) ?_<|λ_ _ z=>z
  ·rintro r s' ⟨rfl,h',rfl,j⟩;exact g (k+1) j (λi x h e q=>by have:=d (i+1) x h ⇑e (by rw[show k+(i+1)=k+1+i by lia];exact q);rw[show k+(i+1)=k+1+i by lia] at this;exact this)<|λh q=>c h (by rw[M2,show k+(l.length+1)=k+1+l.length by lia];exact q)
structure Zi where
 j:Addr
 c:Addr
 vs:Array Value
 x:Value
 k:Bool
structure ZA(z TI TO:Addr)(its:List Zi):Prop where
 TIz:TI≠z
 TOz:TO≠z
 TITO:TI≠TO
 jz:∀ q∈its,q.j≠z/\q.j≠TI/\q.j≠TO
 cz:∀ q∈its,q.c≠z/\q.c≠TO/\∀ r∈its,q.c≠r.j
 nd:(its.map (·.j)).Nodup
variable {z TI TO:Addr}{its:List Zi}{n:Nat}{os:List Value}
structure ZSn(s:Shared)(z TI TO:Addr)(its:List Zi)(n:Nat)(os:List Value)(i:Nat)(h:Heap):Prop where
 a:IsZip h z TI TO .ellipsis
 b:KZ h TO ((its.take i).map (·.x)++os.drop i)
 c:∀(m:Nat) (q:Zi),its[m]?=some q->ItAt h q.j q.c (if m<i then n+1 else n) q.vs q.k
 d:h.objs.size=↥s
 e:∀ a o,a≠z->a≠TO->(∀ q∈its,a≠q.j)->s.heap.get? a=some o->h.get? a=some o
def jgr{C:J0}(D:ZA z TI TO its)(y:IsZip s.heap z TI TO .none)(qI:KZ s.heap TI<|its.map λq=>.ref q.j)(Y:KZ s.heap TO os)(Z:its≠[])(ho:os.length=its.length)(hl:its.length<=1000)
  (q:∀ r∈its,ItAt s.heap r.j r.c n r.vs r.k/\r.vs[n]?=some r.x)
  (go:∀ k,IsZip k z TI TO (rawInt ↥s)->KZ k TO (its.map (·.x))->(∀ r∈its,ItAt k r.j r.c (n+1) r.vs r.k)->KZ k ↥s (its.map (·.x)) ->
   (∀ a o,a≠z->a≠TO->(∀ r∈its,a≠r.j)->s.heap.get? a=some o->k.get? a=some o)->C (.ref ↥s) {s with heap:=k}):
  wpAny (model prog w) A (Builtin.«zip.__next__» ⟨[.ref z],[]⟩) (λfin s'=>∃ v,fin=.done (.ret v)/\C v s') E s:=by
 refine(show wpAny (model prog w) A (field (.ref z) 2 >>= _) _ _ _ from L1 (X5 y rfl rfl<|L1<|X5 y rfl rfl<|L1<|wpAny_seqItems qI rfl ?_));have he:(its.map λq=>Value.ref q.j).toArray.isEmpty=false:=by cases its<;>simp at Z ⊢
 simp only[he];refine(L1<|L1<|X5 y rfl rfl<|M7<|L1<|wpAny_rule<|L1<|X5 y rfl rfl<|L1<|wpAny_setField_rec y (by simp) λk1 z1 I=>(L1<|jpq (ZSn s z TI TO its n os) (its.map λq=>Value.ref q.j) 0 (s:={s with heap:=k1}) ⟨z1,?_,λm r e=>?_,I.1,λa o g _ _ e=>I.extBut _ _ g e⟩ (λi x h e S=>?_) λh S=>?_))
 ·rw[List.take_zero,List.drop_zero];exact I.extBut _ _ D.TOz Y
 ·have f:=List.mem_of_getElem? e;exact(q r f).1.ext I (D.jz r f).1 (D.cz r f).1
 ·rw[Nat.zero_add] at S ⊢;rw[List.getElem?_map] at e;obtain⟨r,u,rfl⟩:=Option.map_eq_some_iff.mp e;have f:=List.mem_of_getElem? u;have hi:=(L9.mp u).1;have B:=S.c i r u;rw[if_neg<|Nat.lt_irrefl _] at B;refine L1<|wpAny_onRaise (L1<|jgy B ((D.cz r f).2.2 r f) (q r f).2 λk2 p F=>M7 ?_)
  have Q:=F.extBut _ _ (D.jz r f).2.2.symm S.b;refine L1<|wpAny_seqItems Q rfl<|L1<|jkY Q (by simp;lia) λk3 o3 G=>?_;refine L1<|wpAny_letGo<|M7 ⟨rfl,k3,rfl,?_⟩;have L:∀ m t,its[m]?=some t->m≠i->t.j≠r.j:=λm t l M ej=>by
   have:=(List.getElem_inj (h₀:=by simpa using((L9.mp l).1)) (h₁:=by simpa using hi) D.nd).mp (by simp[(L9.mp l).2,(L9.mp u).2,ej]);exact M this
  refine⟨G.extBut _ _ D.TOz.symm<|F.extBut _ _ (D.jz r f).1.symm S.a,?_,λm t l=>?_,by rw[G.1,F.1];exact S.d,λa o g J K e=>G.extBut _ _ J<|F.extBut _ _ (K r f)<|S.e a o g J K e⟩
  ·have ee:(List.map (·.x) (its.take i)++os.drop i).set i r.x=List.map (·.x) (its.take<|i+1)++os.drop (i+1):=by
    rw[List.take_add_one,u,Option.toList,N7,List.append_assoc,List.set_append_right _ _<|by simp;lia];have N:i<os.length:=by lia
    rw[List.drop_eq_getElem_cons N];have:i-(List.map (·.x)<|its.take i).length=0:=by simp;lia
    rw[this];rfl
   rw[<- ee];exact o3
  ·have O:=List.mem_of_getElem? l;by_cases e2:m=i
   ·subst e2;cases u.symm.trans l;rw[if_pos<|Nat.lt_succ_self _];exact p.ext G (D.jz r f).2.2 (D.cz r f).2.1
   ·have x1:=((S.c m t l).ext F (L m t l e2) ((D.cz t O).2.2 r f)).ext G (D.jz t O).2.2 (D.cz t O).2.1;have:(m<i+1)=(m<i):=by apply propext;lia
    simp only[this];exact x1
 ·rw[Nat.zero_add,L0] at S;have P:=S.b;rw[List.take_length,<- ho,List.drop_length,N0] at P;refine L1<|wpAny_seqItems P rfl<|L1<|wpAny_newTuple ?_;have R:=N3 S.a;refine(L1 ?_);have z8:IsZip (h.push {cls:=.type "tuple",data:=.seq (its.map (·.x)).toArray}) z TI TO .ellipsis:=L8 _ S.a;refine L1<|wpAny_setField_rec z8 (by simp) λk9 z9 T=>(wpAny_setField_rec z9 (by simp) λU V W=>?_);have up:∀ c o,c≠z->h.get? c=some o->U.get? c=some o:=λc o g e=>W.extBut _ _ g<|T.extBut _ _ g<|L8 _ e;have X:=W.extBut _ _ (Nat.ne_of_gt R)<|T.extBut _ _ (Nat.ne_of_gt R)<|E7 _ rfl;rw[S.d] at V X;refine M7 ⟨_,rfl,?_⟩;rw[S.d];refine go U V (up _ _ D.TOz P) (λr f=>?_) X λa o g J K e=>up a o g<|S.e a o g J K e;obtain⟨m,H,rfl⟩:=List.getElem_of_mem f;have x:=S.c m _<|E5 H;rw[if_pos H] at x;refine x.up (λo e=>up _ _ (D.jz _ f).1 e)<|λo e=>up _ _ (D.cz _ f).1 e
def ji5{j c}{vs}{K}{C}(a:A.handled=none)(q:ItAt s.heap j c n vs K)(e:vs[n]?=none)
  (go:∀ k e,Heap.ExtBut j s.heap k->(∃ o,k.get? e=some o/\o.cls=.type "StopIteration")->E (.ref e) {s with heap:=k}):wpAny (model prog w) A (Builtin.SmallTypes.nextOf<|.ref j) C E s:=by
 cases K with
 | true=>exact wpAny_nextOf_list_end a q.1 q.2 e go
 | false=>exact jin a q.1 q.2 e go
def jjS{C}{r}(u:A.handled=none)(D:ZA z TI TO<|r::its)(b:IsZip s.heap z TI TO .none)(qI:KZ s.heap TI<|(r::its).map λq=>.ref q.j)(q:ItAt s.heap r.j r.c n r.vs r.k)(ex:r.vs[n]?=none)
  (go:∀ k e,(∀ a o,a≠z->a≠TO->(∀ t∈r::its,a≠t.j)->s.heap.get? a=some o->k.get? a=some o)->(∃ o,k.get? e=some o/\o.cls=.type "StopIteration")->E (.ref e) {s with heap:=k}):
  wpAny (model prog w) A (Builtin.«zip.__next__» ⟨[.ref z],[]⟩) C E s:=by
 have d:r∈r::its:=L6;refine(show wpAny (model prog w) A (field (.ref z) 2 >>= _) _ _ _ from L1 (X5 b rfl rfl<|L1<|X5 b rfl rfl<|L1<|wpAny_seqItems qI rfl<|L1<|L1<|X5 b rfl rfl<|M7<|L1<|wpAny_rule<|L1<|X5 b rfl rfl<|L1<|wpAny_setField_rec b (by simp) λH v g=>(L1<|L1<|L1<|wpAny_onRaise (L1<|ji5 u (q.ext g (D.jz r d).1 (D.cz r d).1) ex λI e h y=>?_))));obtain⟨B,f,i⟩:=y;have l:=h _ _ (D.jz r d).1.symm v;have ne:e≠z:=λx=>by subst x;rw[l] at f;cases f;simp at i
 exact wpAny_setField_rec l (by simp) λF _ m=>go F e (λc o p _ G x=>m.extBut _ _ p<|h _ _ (G r d)<|g.extBut _ _ p x) ⟨B,m.extBut _ _ ne f,i⟩
def jgO{C}(D:ZA z TI TO its)(b:IsZip s.heap z TI TO .none)(qI:KZ s.heap TI<|its.map λq=>.ref q.j)(d:KZ s.heap TO os)(e:its≠[])(f:os.length=its.length)(hl:its.length<=1000)
  (q:∀ r∈its,ItAt s.heap r.j r.c n r.vs r.k/\r.vs[n]?=some r.x)
  (go:∀ k,IsZip k z TI TO (rawInt ↥s)->KZ k TO (its.map (·.x))->(∀ r∈its,ItAt k r.j r.c (n+1) r.vs r.k)->KZ k ↥s (its.map (·.x)) ->
   (∀ a o,a≠z->a≠TO->(∀ r∈its,a≠r.j)->s.heap.get? a=some o->k.get? a=some o)->C (some<|.ref ↥s) {s with heap:=k}):wpAny (model prog w) A (pyNext<|.ref z) C E s:=by
 have ty:s.TypeIs (.ref z) "zip":=⟨_,b,rfl⟩;exact L1<|wpAny_attempt<|wpAny_callSpecial?_slot ty F.slot_zip_next<|wpAny_call_entry F.slot_zip_next ty F.entry_zip_next
  (jgr D b qI d e f hl q λk c1 g h i l=>M7<|go k c1 g h i l) (F.args_zip_next_1 _)
def jfX{C}{r}(d:A.handled=none)(D:ZA z TI TO<|r::its)(b:IsZip s.heap z TI TO .none)(qI:KZ s.heap TI<|(r::its).map λq=>.ref q.j)(q:ItAt s.heap r.j r.c n r.vs r.k)(ex:r.vs[n]?=none)
  (go:∀ k,(∀ a o,a≠z->a≠TO->(∀ t∈r::its,a≠t.j)->s.heap.get? a=some o->k.get? a=some o)->C none {s with heap:=k}):wpAny (model prog w) A (pyNext<|.ref z) C E s:=by
 have ty:s.TypeIs (.ref z) "zip":=⟨_,b,rfl⟩;refine L1<|wpAny_attempt<|wpAny_callSpecial?_slot ty F.slot_zip_next<|wpAny_call_entry F.slot_zip_next ty F.entry_zip_next (jjS d D b qI q ex λk e kp f=>?_)<|F.args_zip_next_1 _;obtain⟨o,g,h⟩:=f;exact L1<|wpAny_isInstance ⟨o,g,h⟩ isSubtype_stop<|M7<|go _ kp
end
section
variable {prog:Program}{w:World}{A:Around}{E:J0}{s:Shared}
def SqH(h:Heap)(c:Addr)(vs:Array Value):Bool->Prop
 | true=>h.IsList c vs
 | false=>h.IsTuple c vs
def SqH.push{h}{c}{vs}{K}(q:SqH h c vs K)(o):SqH (h.push o) c vs K:=by
 cases K <;>
 ·obtain⟨a,e,t⟩:=q;exact⟨a,L8 _ e,t⟩
def jg1{c}{vs}{K}{Q}(q:SqH s.heap c vs K)
  (go:∀ o:Obj,ItAt (s.heap.push o) ↥s c 0 vs K->Q (.ref ↥s) {s with heap:=s.heap.push o}):wpAny (model prog w) A (pyIter<|.ref c) Q E s:=by
 cases K with
 | true=>exact wpAny_pyIter_list q<|go _ ⟨⟨_,E7 _ rfl,rfl,rfl⟩,SqH.push q _⟩
 | false=>exact wpAny_pyIter_tuple q<|go _ ⟨⟨_,E7 _ rfl,rfl,rfl⟩,SqH.push q _⟩
def jdR:∀(l:List<|Addr×Array Value×Bool) acc {s:Shared},(∀ p∈l,SqH s.heap p.1 p.2.1 p.2.2) ->
  (∀ k:Heap,k.objs.size=↥s+l.length->(∀ i p,l[i]?=some p->ItAt k (↥s+i) p.1 0 p.2.1 p.2.2)->(∀ c o,s.heap.get? c=some o->k.get? c=some o) ->
   Q (acc++((List.range' ↥s l.length).map Value.ref).toArray) {s with heap:=k}) ->
  wpAny (model prog w) A (forIn (l.map λp=>Value.ref p.1) acc λx r=>do pure (ForInStep.yield<|r.push<|<- holding r.toList (pyIter x))) Q E s:=by
 intro l
 induction l with
 | nil=>
  intro acc s _ go;exact M7 ⇑(go s.heap rfl (by simp) λ_ _ e=>e)
 | cons p l f=>
  intro acc s h go;rw[L4,List.forIn_cons];refine L1<|L1<|wpAny_holding<|jg1 (h p L6) λo q=>(M7<|f _ (λr j=>(h r<|L5 _ j).push _) λk b d a=>?_);have m:(s.heap.push o).objs.size=↥s+1:=Heap.size_push ..;simp only[m] at b d ⊢;have g:=go k (by rw[b,M2];lia) (λi r e=>?_) λc n e=>a c n<|L8 _ e
  ·rw[M2,List.range'_succ,L4] at g;have e2:acc.push (.ref ↥s)++((List.range' (↥s+1) l.length).map Value.ref).toArray=acc++(Value.ref ↥s::(List.range' (↥s+1) l.length).map Value.ref).toArray:=by apply Array.ext';simp
   rw[e2];exact g
  ·cases i with
   | zero=>cases e;exact q.up (a _)<|a _
   | succ i=>rw[show ↥s+(i+1)=↥s+1+i by lia];exact d i r ⇑e
def jal{Q}{l:List (Addr×Array Value×Bool)}(h:∀ p∈l,SqH s.heap p.1 p.2.1 p.2.2)
  (go:∀ k:Heap,k.objs.size=↥s+l.length->(∀ i p,l[i]?=some p->ItAt k (↥s+i) p.1 0 p.2.1 p.2.2)->(∀ c o,s.heap.get? c=some o->k.get? c=some o) ->
   Q ((List.range' ↥s l.length).map Value.ref) {s with heap:=k}):wpAny (model prog w) A (Builtin.SmallTypes.iterAll<|l.map λp=>Value.ref p.1) Q E s:=by
 refine L1<|jdR l #[] h λk a b d=>M7 ?_;have:=go k a b d;simpa using this
def jgH(l:List<|Addr×Array Value×Bool)(hl:l.length<=1000):Meets (Builtin.«zip.__new__» ⟨.type "zip"::l.map λp=>.ref p.1,[]⟩) (λ_ R s=>(∀ p∈l,SqH s.heap p.1 p.2.1 p.2.2)/\∀ k:Heap,k.objs.size=↥s+l.length->(∀ i p,l[i]?=some p->ItAt k (↥s+i) p.1 0 p.2.1 p.2.2)->(∀ c o,s.heap.get? c=some o->k.get? c=some o) ->
   R (.ok<|.ret<|.ref<|k.objs.size+2) { s with heap:=((k.push {cls:=.type "tuple",data:=.seq ((List.range' ↥s l.length).map Value.ref).toArray}).push {cls:=.type "tuple",data:=.seq (l.map λ_=>Value.none).toArray}).push {cls:=.type "zip",data:=.fields #[.none,.bool false,.bool false,.ref k.objs.size,.ref<|k.objs.size+1]} }):=
 .of_wp λprog w A R s h=>by
  obtain⟨b,h⟩:=h;have a:=sub_zip
  wp_walk using jal b
  intro k d e2 e3;have e:(List.map (λ_=>Value.none)<|List.map Value.ref<|List.range' ↥s l.length)=l.map λ_=>Value.none:=by
   rw[U8];apply List.ext_getElem<;>simp
  rw[e];refine L1<|wpAny_newTuple ?_ (by simp;exact N9 hl<|by decide);refine L1 (wpAny_newTuple ?_<|by simp;exact N9 hl<|by decide)
  wp_walk
  refine⟨_,rfl,?_⟩;rw[Heap.size_push,Heap.size_push];exact(h k d e2 e3)
def jh3{l:List (Addr×Array Value×Bool)}{C}(hl:l.length<=1000)(a:checkTypeCall "zip" ⟨l.map λp=>.ref p.1,[]⟩=pure ())(b:checkBuiltinCall "zip.__new__" ⟨.type "zip"::l.map λp=>.ref p.1,[]⟩=pure ())(hok:∀ obj,argsOk "object.__init__" ⟨obj::l.map λp=>.ref p.1,[]⟩)
  (h1:∀ p∈l,SqH s.heap p.1 p.2.1 p.2.2)
  (go:∀ k N,N=↥s+l.length->IsZip k (N+2) N (N+1) .none->KZ k N ((List.range' ↥s l.length).map Value.ref)->KZ k (N+1) (l.map λ_=>.none)->(∀ i p,l[i]?=some p->ItAt k (↥s+i) p.1 0 p.2.1 p.2.2)->(∀ c o,s.heap.get? c=some o->k.get? c=some o)->C (.ref<|N+2) {s with heap:=k}):
  wpAny (model prog w) A (call (.type "zip")<|l.map λp=>.ref p.1) C E s:=by
 refine callType_new F.called_zip (by decide) a b hok F.entry_zip_new (jgH l hl) ⟨h1,λk j e2 e3=>?_⟩;have d:∀(h:Heap) o,(h.push o).objs.size=h.objs.size+1:=λh o=>Heap.size_push ..;have f:=E7 (((k.push {cls:=.type "tuple",data:=.seq ((List.range' ↥s l.length).map Value.ref).toArray}).push {cls:=.type "tuple",data:=.seq (l.map λ_=>Value.none).toArray})) (o:={cls:=.type "zip",data:=.fields #[.none,.bool false,.bool false,.ref k.objs.size,.ref<|k.objs.size+1]}) rfl;rw[d,d] at f;have up:∀ c o,k.get? c=some o->(((k.push {cls:=.type "tuple",data:=.seq ((List.range' ↥s l.length).map Value.ref).toArray}).push {cls:=.type "tuple",data:=.seq (l.map λ_=>Value.none).toArray}).push {cls:=.type "zip",data:=.fields #[.none,.bool false,.bool false,.ref k.objs.size,.ref<|k.objs.size+1]}).get? c=some o:=λc o x=>L8 _<|L8 _<|L8 _ x;have g:=E7 (k.push {cls:=.type "tuple",data:=.seq ((List.range' ↥s l.length).map Value.ref).toArray}) (o:={cls:=.type "tuple",data:=.seq (l.map λ_=>Value.none).toArray}) rfl;rw[d] at g;exact⟨⟨_,f,rfl⟩,go _ k.objs.size j f (L8 _<|L8 _<|E7 k rfl) (L8 _ g) (λi p e=>(e2 i p e).up (up _) (up _)) λc o x=>up c o<|e3 c o x⟩
end
def SqB(K:J4)(H:Hp)(c:Addr):Bool->List V->Prop
 | true,q=>SqL K H c q
 | false,q=>SqT K H c q
def ItB(h:Heap)(j c:Addr)(n:Nat):Bool->Prop
 | true=>h.IsListIter j c n
 | false=>h.IsTupleIter j c n
structure Zp where
 j:Addr
 c:Addr
 k:Bool
def IzN(K:J4)(as:List<|Addr×Bool):It:=
 ⟨λi H=>∀ a∈as,∃ q x,SqB K H a.1 a.2 q/\q[i]?=some x,
  λi H x H'=>∃ p xs,xs.length=as.length/\(∀(m:Nat) a,as[m]?=some a->∀ q,SqB K H a.1 a.2 q->∃ u,xs[m]?=some u/\q[i]?=some u)/\x=.ref p/\H p=none/\H'=upd H p (.tup xs),
  λi H=>∃ a r q,as=a::r/\SqB K H a.1 a.2 q/\q.length<=i⟩
def jfy(I:Inv X pins σ H s)(h:SqB X.K H c k q)(hi:ItB s.heap j c n k):∃ us:List Value,Vals q us/\ItAt s.heap j c n us.toArray k:=by
 cases k with
 | true=>
  obtain⟨us,a,p,_⟩:=I.list h;exact⟨us,a,hi,p.isList⟩
 | false=>
  obtain⟨us,a,p,_⟩:=I.tuple h;exact⟨us,a,hi,p⟩
def jhc(I:Inv X pins σ H s)(h:SqB X.K H c k q)(h':SqB X.K H c k q'):q=q':=by
 cases k with
 | true=>exact I.list_inj h h'
 | false=>exact I.tuple_inj h h'
def zis(I:Inv X pins σ H s):∀ ps:List Zp,(∀ p∈ps,∃ q x,SqB X.K H p.c p.k q/\q[i]?=some x)->(∀ p∈ps,ItB s.heap p.j p.c i p.k) ->
  Ex2 λ(its:List Zi) (xs:List V)=>An4 (its.map (λr=>(⟨r.j,r.c,r.k⟩:Zp))=ps) (Vals xs (its.map (·.x))) (∀ r∈its,ItAt s.heap r.j r.c i r.vs r.k/\r.vs[i]?=some r.x) (∀(m:Nat) p,ps[m]?=some p->∀ q,SqB X.K H p.c p.k q->∃ u,xs[m]?=some u/\q[i]?=some u):=by
 intro ps
 induction ps with
 | nil=>
  intro _ _;exact⟨[],[],rfl,.nil,by simp,by simp⟩
 | cons p ps o=>
  intro g h;obtain⟨its,xs,e,v,a,b⟩:=o (λr d=>g r<|by simp[d]) λr d=>h r (by simp[d]);obtain⟨q,x,l,n⟩:=g p (by simp);obtain⟨w,y,z⟩:=jfy I l<|h p (by simp);obtain⟨u,A,B⟩:=y.get n;refine⟨⟨p.j,p.c,w.toArray,u,p.k⟩::its,x::xs,by rw[L4,e],.cons B v,λr d=>?_,λm t e2 C f=>?_⟩
  ·rcases M4.mp d with rfl | d
   ·exact⟨z,by simpa using A⟩
   ·exact a r d
  ·cases m with
   | zero=>cases e2;exact⟨x,rfl,by rw[jhc I f l];exact n⟩
   | succ m=>exact b m t ⇑e2 C f
structure ZP(z TI TO:Addr)(ps:List Zp):Prop where
 TIz:TI≠z
 TOz:TO≠z
 TITO:TI≠TO
 jz:∀ q∈ps,q.j≠z/\q.j≠TI/\q.j≠TO
 cz:∀ q∈ps,q.c≠z/\q.c≠TO/\∀ r∈ps,q.c≠r.j
 nd:(ps.map (·.j)).Nodup
def ZP.za{z TI TO}{ps}{its}(D:ZP z TI TO ps)(e:its.map (λr=>(⟨r.j,r.c,r.k⟩:Zp))=ps):ZA z TI TO its:=by
 subst e;refine⟨D.TIz,D.TOz,D.TITO,λq a=>D.jz _<|List.mem_map_of_mem a,λq a=>?_,by have:=D.nd;rwa [U8] at this⟩;have:=D.cz _<|List.mem_map_of_mem a;exact⟨this.1,this.2.1,λr b=>this.2.2 _<|List.mem_map_of_mem b⟩
def ItB.obj(q:ItB h j c n k):∃ o,h.get? j=some o/\∀ v,o.data≠.cell v:=by
 cases k <;>
 ·obtain⟨o,e,_,d⟩:=q;exact⟨o,e,λv z=>by rw[d] at z;cases z⟩
def ItB.up(q:ItB h j c n b)(a:∀ o,h.get? j=some o->k.get? j=some o):ItB k j c n b:=by
 cases b <;>
 ·obtain⟨o,e,t⟩:=q;exact⟨o,a _ e,t⟩
def ItAt.itB(q:ItAt h j c n vs k):ItB h j c n k:=by
 cases k<;>exact q.1
def jiC{P}{w}{K}{elts}{n}{pos}(z TI TO)(ps)(D:ZP z TI TO ps)(hn:ps≠[])(hl:ps.length<=1000):
  Turn P w K (.Tuple elts n pos) (IzN K<|ps.map λp=>(p.c,p.k)) (z::TI::TO::ps.map (·.j)) z (λi h=>IsZip h z TI TO .none/\KZ h TI (ps.map λp=>.ref p.j)/\(∃ os,os.length=ps.length/\KZ h TO os)/\∀ p∈ps,ItB h p.j p.c i p.k) where
 mem:=by simp
 obj:=λi h l b f=>by
  obtain⟨u,y,⟨os,_,F⟩,C⟩:=l;rcases(⇑f:b=z\/b=TI\/b=TO \/ ∃ p∈ps,p.j=b) with q | q | q | ⟨p,d,q⟩<;>subst q
  ·exact⟨_,u,λv q=>by cases q⟩
  ·exact⟨_,y,λv q=>by cases q⟩
  ·exact⟨_,F,λv q=>by cases q⟩
  ·exact(C p d).obj
 keep:=λi h h' l k=>by
  obtain⟨u,y,⟨os,N,F⟩,C⟩:=l;exact⟨k z (by simp) _ u,k TI (by simp) _ y,⟨os,N,k TO (by simp) _ F⟩,λp d=>(C p d).up (k p.j<|by simp;exact .inr<|.inr<|.inr ⟨p,d,rfl⟩)⟩
 item:=by
  intro X R S T hc i G s σ H E I O l U;subst R S T;obtain⟨u,y,⟨os,N,F⟩,C⟩:=l;obtain⟨A,xs,e,J,hi,hx⟩:=zis I ps (λp d=>U (p.c,p.k)<|M5.mpr ⟨p,d,rfl⟩) C;have el:A.length=ps.length:=by rw[<- e,L0]
  have ej:(A.map λq=>Value.ref q.j)=ps.map λp=>Value.ref p.j:=by rw[<- e,U8];rfl
  have mp:∀ p∈ps,∃ r∈A,r.j=p.j/\r.c=p.c/\r.k=p.k:=λp d=>by
   rw[<- e] at d;obtain⟨r,L,rfl⟩:=M5.mp d;exact⟨r,L,rfl,rfl,rfl⟩
  refine jgO (D.za e) u (by rw[ej];exact y) F (λz=>hn<|by rw[<- e,z];rfl) (by rw[N,el]) ∅ hi λhh a1 a2 a3 a4 Q=>?_;refine⟨_,rfl,wpAny_letOwnedTupleGo_zip a1 λh7 V g=>?_⟩;have lt:∀{c o},s.heap.get? c=some o->c < ↥s:=N3;have M:=(g.2 _<|Nat.ne_of_gt<|lt u).trans a4;have nj:∀{b},(∀ p∈ps,b≠p.j)->∀ r∈A,b≠r.j:=λh r L=>by
   have:=h ⟨r.j,r.c,r.k⟩ (by rw[<- e];exact List.mem_map_of_mem L);exact this
  have kk:∀ b o,b∉z::TI::TO::ps.map (·.j)->s.heap.get? b=some o->h7.get? b=some o:=λb o f q=>by
   have B:b≠z/\b≠TI/\b≠TO/\∀ p∈ps,b≠p.j:=by
    simp at f;exact⟨f.1,f.2.1,f.2.2.1,λp d x=>f.2.2.2 p d x.symm⟩
   exact(g.2 b B.1).trans (Q b o B.1 B.2.2.1 (nj B.2.2.2) q)
  have I1:=I.turnedNew (t':=s.toks) kk O (M9 _) ⟨⟨_,M,rfl,_,rfl⟩,_,M,rfl⟩ ⇑J (by have:=J.length;simp at this;exact N9 (by lia:xs.length<=1000)<|by decide);refine⟨.ref ↥s,_,I1,rfl,⟨_,xs,by have:=J.length;simp at this;simp;lia,λm a em q W=>?_,rfl,I.hok.fresh<|M9 _,rfl⟩,⟨V,(g.2 TI D.TIz).trans (Q _ _ D.TIz D.TITO (nj λp d x=>(D.jz p d).2.1 x.symm) y),⟨_,by rw[L0,el],(g.2 TO D.TOz).trans a2⟩,λp d=>?_⟩,λb f=>?_⟩
  ·rw[List.getElem?_map] at em;obtain⟨p,ep,rfl⟩:=Option.map_eq_some_iff.mp em;exact hx m p ep q W
  ·obtain⟨r,L,rj,rc,rk⟩:=mp p d;rw[<- rj,<- rc,<- rk];refine(a3 r L).itB.up λo q=>(g.2 _ ?_).trans q;rw[rj];exact(D.jz p d).1
  ·rw[ji]
   ·exact(O b f).1
   ·intro q;have:b < ↥s:=by
     rcases(⇑f:b=z\/b=TI\/b=TO \/ ∃ p∈ps,p.j=b) with w | w | w | ⟨p,d,w⟩
     ·rw[w];exact lt u
     ·rw[w];exact lt y
     ·rw[w];exact lt F
     ·obtain⟨o,e,_⟩:=(C p d).obj;rw[<- w];exact lt e
    exact absurd this (by rw[q];exact Nat.lt_irrefl _)
 done:=by
  intro X R S T hc i G s σ H E I O l U;subst R S T;obtain⟨u,y,⟨os,N,F⟩,C⟩:=l;obtain⟨a,r,q,ea,W,hx⟩:=U;cases ps with
  | nil=>cases ea
  | cons p ps=>
   cases ea;obtain⟨us,J,it⟩:=jfy I W<|C p (by simp);have hl1:=J.length;have ee:((⟨p.j,p.c,us.toArray,.none,p.k⟩:Zi)::ps.map λp=>⟨p.j,p.c,#[],.none,p.k⟩).map (λr=>(⟨r.j,r.c,r.k⟩:Zp))=p::ps:=by
    rw[L4,U8];exact congrArg (p::·)<|List.map_id _
   refine jfX (I.ok.hd hc) (D.za ee) u (by rw[show KZ s.heap TI _=KZ s.heap TI ((p::ps).map λp=>.ref p.j) by rw[L4,U8];rfl];exact y) it (by simp;lia) λhh Q=>⟨rfl,I.turnedL (λb o f q=>?_) O⟩;simp only[M4,M5,not_or,L4] at f;refine Q b o f.1 f.2.2.1 (λt Y x=>?_) q;rcases M4.mp Y with rfl | Y
   ·exact f.2.2.2.1 x
   ·obtain⟨p',Z,rfl⟩:=M5.mp Y;exact f.2.2.2.2 ⟨p',Z,x.symm⟩
 self:=λ_ _ _ _ _ l h=>wpAny_pyIter_zip l.1 h
end L2
namespace PySem
namespace F
end F
end PySem
namespace L2
open PySem PySem.Spec PyProof.Rows
def iZN(K:J4)(m:Nat)(tl:TA):TI:=λσ H R=>tl σ H λvs H1=>∃ as:List (Addr×Bool),as.length=m/\vs=as.map (λa=>.ref a.1)/\(∀ a∈as,∃ q,SqB K H1 a.1 a.2 q)/\R (IzN K as) H1
theorem zqs(I:Inv X pins σ H s):∀ as:List (Addr×Bool),(∀ a∈as,∃ q,SqB X.K H a.1 a.2 q)->∃ l:List (Addr×Array Value×Bool),l.map (λp=>(p.1,p.2.2))=as/\∀ p∈l,SqH s.heap p.1 p.2.1 p.2.2/\p.1 < ↥s
 | [],_=>⟨[],rfl,by simp⟩
 | (a,k)::as,h=>by
  obtain⟨l,e,d⟩:=zqs I as λb f=>h b (by simp[f]);obtain⟨q,c⟩:=h (a,k) (by simp);have:∃ vs:Array Value,SqH s.heap a vs k/\a < ↥s:=by
   cases k with
   | true=>
    obtain⟨g,i,p,_⟩:=I.list c;obtain⟨o,_,e,_⟩:=id p;exact⟨_,p.isList,N3 e⟩
   | false=>
    obtain⟨g,i,p,_⟩:=I.tuple c;obtain⟨o,e,_⟩:=id p;exact⟨_,p,N3 e⟩
  obtain⟨vs,j,m⟩:=this;exact⟨(a,vs,k)::l,by rw[L4,e],λp n=>(M4.mp n).elim (λz=>by rw[z];exact⟨j,m⟩) (d p)⟩
def zps(S:Nat)(l:List<|Addr×Array Value×Bool):List Zp:=(l.zipIdx S).map λq=>⟨q.2,q.1.1,q.1.2.2⟩
def jnz(S):∀ l:List (Addr×Array Value×Bool),(zps S l).map (·.j)=List.range' S l.length:=by
 intro l
 induction l generalizing S with
 | nil=>rfl
 | cons p l a=>have:=a<|S+1;unfold zps at this ⊢;rw[List.zipIdx_cons,L4,L4,this,M2,List.range'_succ]
def jmJ(S):∀ l:List (Addr×Array Value×Bool),(zps S l).map (λp=>(p.c,p.k))=l.map λp=>(p.1,p.2.2):=by
 intro l
 induction l generalizing S with
 | nil=>rfl
 | cons p l a=>have:=a<|S+1;unfold zps at this ⊢;rw[List.zipIdx_cons,L4,L4,this,L4]
def Qg{S}:∀{l}{q},q∈zps S l->∃ i p,l[i]?=some p/\q=⟨S+i,p.1,p.2.2⟩:=by
 intro l q h;obtain⟨⟨p,m⟩,a,rfl⟩:=M5.mp h;have:=List.mem_zipIdx a;refine⟨m-S,p,?_,?_⟩
 ·rw[E5 ∅];exact congrArg some this.2.2.symm
 ·have:S+(m-S)=m:=by lia
  rw[this]
def zn1(N):N≠N+2/\N+1≠N+2/\N≠N+1:=by lia
def zn2{S L i N}(h:i<L)(e:N=S+L):S+i≠N+2/\S+i≠N/\S+i≠N+1:=by lia
def zn3{c S L N}(h:c<S)(e:N=S+L):c≠N+2/\c≠N+1/\∀ i,c≠S+i:=⟨by lia,by lia,λi=>by lia⟩
def zn4{S L N b}(e:N=S+L)(h:b=N+2\/b=N\/b=N+1):S<=b:=by lia
def jmH(I:Inv X pins σ H s)  (hn:as≠[]) (hl:as.length<=1000) (d:∀ a∈as,∃ q,SqB X.K H a.1 a.2 q) (q:R (IzN X.K as) H)
  (f:checkTypeCall "zip" ⟨as.map λp=>.ref p.1,[]⟩=pure ()) (g:checkBuiltinCall "zip.__new__" ⟨.type "zip"::as.map λp=>.ref p.1,[]⟩=pure ()) (hok:∀ obj,argsOk "object.__init__" ⟨obj::as.map λp=>.ref p.1,[]⟩):
  wpAny (model X.prog X.w) X.A (call (.type "zip")<|as.map λp=>.ref p.1) (λv s1=>wpAny (model X.prog X.w) X.A (pyIter v) (PIE X pins σ (.Tuple elts n tpos) R) X.xe s1) X.xe s:=by
 obtain⟨l,e,t⟩:=zqs I as d;have Q:l.length=as.length:=by rw[<- e,L0]
 have y:(as.map λp=>Value.ref p.1)=l.map λp=>Value.ref p.1:=by rw[<- e,U8];rfl
 rw[y] at f g hok ⊢;refine jh3 ∅ f g hok (λp B=>(t p B).1) λC N h u E F G J=>?_;have L:Inv X pins σ H {s with heap:=C}:=I.kept J;refine PySem.wpAny_pyIter_zip u ?_;have k:=jnz ↥s l;have x:=jmJ ↥s l;have D:ZP (N+2) N (N+1) (zps ↥s l):=by
  refine⟨(zn1 N).1,(zn1 N).2.1,(zn1 N).2.2,λq d=>?_,λq d=>?_,by rw[k];exact List.nodup_range'⟩
  ·obtain⟨i,p,m,rfl⟩:=Qg d;exact zn2 (L9.mp m).1 h
  ·obtain⟨i,p,m,rfl⟩:=Qg d;have:=zn3 (t p<|List.mem_of_getElem? m).2 h;refine⟨this.1,this.2.1,λr M=>?_⟩;obtain⟨O,S,_,rfl⟩:=Qg M;exact this.2.2 O
 have T:=jiC (P:=X.prog) (w:=X.w) (K:=X.K) (elts:=elts) (n:=n) (pos:=tpos) (N+2) N (N+1) (zps ↥s l) D (λz=>hn<|by rw[<- e,<- x,z];rfl) (by have:=congrArg List.length k;rw[L0,List.length_range'] at this;lia);rw[x,e] at T;refine⟨N+2,_,_,_,H,rfl,L,T,⟨u,?_,⟨_,?_,F⟩,λq d=>?_⟩,λb c=>?_,q⟩
 ·rw[show(zps ↥s l).map (λp=>Value.ref p.j)=((zps ↥s l).map (·.j)).map Value.ref by rw[U8];rfl,k];exact E
 ·have:=congrArg List.length k;rw[L0,List.length_range'] at this;rw[L0];lia
 ·obtain⟨i,p,m,rfl⟩:=Qg d;exact(G i p m).itB
 ·have o:↥s<=b:=by
   rw[k] at c;rcases M4.mp c with z | c
   ·exact zn4 h<|.inl z
   rcases M4.mp c with z | c
   ·exact zn4 h<|.inr<|.inl z
   rcases M4.mp c with z | c
   ·exact zn4 h<|.inr<|.inr z
   exact(List.mem_range'_1.mp c).1
  exact I.fpOk o<|I.hok.fresh o
theorem zu:∀{as:List (Addr×Bool)}{us},Vals (as.map λa=>V.ref a.1) us->us=as.map λa=>Value.ref a.1
 | [],_,h=>by cases h;rfl
 | a::as,_,h=>by
  cases h with
  | cons b c=>cases b;rw[zu c];rfl
def jkB(e:Gl X "zip")(f:X.mg "zip" = none)(g:PA X [a,b] ta)(i:starEach [a,b] X.env=[(false,eval a X.env),(false,eval b X.env)]:=by rfl)(c:starEach [b] X.env=[(false,eval b X.env)]:=by rfl):
  PI X (.Tuple elts n tpos) (.Call (.Name "zip" p) [a,b] [] pos) (iZN X.K 2 ta):=by
 intro d s σ H R I h;refine Call_<|YQ I e f (show bootBuiltins "zip" = some (.type "zip") by decide +kernel)<|PyProof.Rows.callWith_type1 (thn (g pos d s σ H _ I h) λu v ⟨vs,w,j,k,l⟩=>?_) (by rw[i,c]) (by rw[c];rfl);obtain⟨m,r,rfl,t,q⟩:=l;cases zu k
 match m,r with
 | [x,y],_=>exact jmH j (by simp) (by simp) t q (F.typeCall_zip_2 _ _) (F.newCall_zip_2 _ _) λo=>F.args_object_init_3 o _ _
end L2
namespace PySem
open Sem (wp)
end PySem
namespace L2
open PySem PySem.Spec PyProof.Rows
end L2
namespace PyProof.Rows
open PySem
end PyProof.Rows
namespace QD
open PySem L2
inductive KA where
 | int (i:Int) | str (s:List Nat)
 deriving DecidableEq
inductive D where
 | non | bl (b:Bool) | int (i:Int) | str (s:List Nat)
 | tup (l:List D) | lst (o:Bool) (l:List D)
 | dK (o:Bool) (ks:List KA) (l:List D)
 | dT (o:Bool) (ks:List (List KA)) (l:List D)
 | ins (o:Bool) (c:Nat) (ns:List Str) (l:List D)
 | dead
  | tok (a:Addr)
 | kt (k:List KA)
  | exc (c:Nat) (p:Int)
def xo(C a dx:Addr):Heap->Prop:=λh=>∃ o vs,h.get? a=some o/\o.cls=.ref C/\o.dict=some dx/\o.data=.fields vs
mutual
noncomputable def fz:D->D
 | .tup l=>.tup<|fzs l
 | .lst _ l=>.lst false<|fzs l
 | .dK _ ks l=>.dK false ks<|fzs l
 | .dT _ ks l=>.dT false ks<|fzs l
 | .ins _ c ns l=>.ins false c ns<|fzs l
 | .non=>.non | .bl b=>.bl b | .int i=>.int i | .str s=>.str s | .dead=>.dead | .tok a=>.tok a | .kt k=>.kt k | .exc c p=>.exc c p
noncomputable def fzs:List D->List D
 | []=>[]
 | d::l=>fz d::fzs l
end
mutual
noncomputable def frz:D->Bool
 | .tup l=>frzs l
 | .lst o l=>!o&&frzs l
 | .dK o _ l=>!o&&frzs l
 | .dT o _ l=>!o&&frzs l
 | .ins o _ _ l=>!o&&frzs l
 | .non=>true | .bl _=>true | .int _=>true | .str _=>true | .dead=>true | .tok _=>true | .kt _=>true | .exc _ _=>true
noncomputable def frzs:List D->Bool
 | []=>true
 | d::l=>frz d&&frzs l
end
mutual
theorem yh:∀ d:D,frz d=true->fz d=d
 | .tup l,h=>by rw[frz] at h;rw[fz,jg l h]
 | .lst o l,h=>by rw[frz,M0] at h;rw[fz,jg l h.2];cases o<;>simp_all
 | .dK o ks l,h=>by rw[frz,M0] at h;rw[fz,jg l h.2];cases o<;>simp_all
 | .dT o ks l,h=>by rw[frz,M0] at h;rw[fz,jg l h.2];cases o<;>simp_all
 | .ins o c ns l,h=>by rw[frz,M0] at h;rw[fz,jg l h.2];cases o<;>simp_all
 | .non,_=>rfl | .bl _,_=>rfl | .int _,_=>rfl | .str _,_=>rfl | .dead,_=>rfl | .tok _,_=>rfl | .kt _,_=>rfl | .exc _ _,_=>rfl
theorem jg:∀ l:List D,frzs l=true->fzs l=l
 | [],_=>rfl
 | d::l,h=>by rw[frzs,M0] at h;rw[fzs,yh d h.1,jg l h.2]
end
mutual
theorem jkE:∀ d:D,frz (fz d)=true
 | .tup l=>by rw[fz,frz];exact Jh l
 | .lst o l=>by rw[fz,frz,Jh l];rfl
 | .dK o ks l=>by rw[fz,frz,Jh l];rfl
 | .dT o ks l=>by rw[fz,frz,Jh l];rfl
 | .ins o c ns l=>by rw[fz,frz,Jh l];rfl
 | .non=>rfl | .bl _=>rfl | .int _=>rfl | .str _=>rfl | .dead=>rfl | .tok _=>rfl | .kt _=>rfl | .exc _ _=>rfl
theorem Jh:∀ l:List D,frzs (fzs l)=true
 | []=>rfl
 | d::l=>by rw[fzs,frzs,jkE d,Jh l];rfl
end
theorem JT:∀ l:List D,fzs l=l.map fz
 | []=>rfl
 | d::l=>by rw[fzs,JT l];rfl
theorem kT:∀ l:List D,frzs l=l.all frz
 | []=>rfl
 | d::l=>by rw[frzs,kT l];rfl
structure RC where
 K:PySem.W.Frag
 cls:Nat->Addr
def kaV:KA->Key
 | .int i=>.inl i
 | .str s=>.inr<|S s
noncomputable abbrev Zn:=Addr->Prop
def FT(R:RC)(Z:Zn)(H:Hp)(a:Addr)(vs:List V):Prop:=
 (Z a/\Rd H a (.tup vs)) \/ ∃ o its n,R.K.lookup a=some o/\o.cls=.type "tuple"/\o.data=.seq its n/\its.size<=sizeLine/\Vals vs its.toList/\o.dict=none
def FL(R:RC)(Z:Zn)(H:Hp)(a:Addr)(vs:List V):Prop:=
 (Z a/\Rd H a (.lst vs)) \/ ∃ its n,R.K.lookup a=some {cls:=.type "list",data:=.seq its n}/\its.size<=sizeLine/\Vals vs its.toList
def DkA(o:Bool)(H:Hp)(a:Addr)(kvs:List<|Key×V):Prop:=bif o then H a=some (.dK kvs) else Rd H a (.dK kvs)
inductive RpC (rs:List V->List Addr->Prop) (C:Addr->List V->List Addr->Prop) (v:V):Prop
 | mk:∀(a:Addr) (vs:List V) (O':J9),v=.ref a->rs vs O'->C a vs O'->RpC rs C v
inductive RpS (rd:V->List Addr->Prop) (rs:List V->List Addr->Prop) (vs:List V) (O:J9):Prop
 | mk:∀(v:V) (vs':List V) (O1 O2:J9),vs=v::vs'->O=O1++O2->rd v O1->rs vs' O2->RpS rd rs vs O
mutual
def Rep(R:RC)(Z:Zn)(H:Hp):D->V->List Addr->Prop
 | .non,v,O=>v=.non/\O=[]
 | .bl b,v,O=>v=.bl b/\O=[]
 | .int i,v,O=>v=.int i/\O=[]
 | .str s,v,O=>v=.str (S s)/\O=[]
 | .dead,_,O=>O=[]
 | .tok a,v,O=>v=.ref a/\O=[]
 | .kt k,v,O=>∃ a,v=.ref a/\Z a/\H a=some (.tup<|(k.map kaV).map kV)/\O=[]
 | .exc c p,v,O=>∃ a dx,v=.ref a/\Z a/\Z dx/\H a=some (.ext<|xo (R.cls c) a dx)/\H dx=some (.xd [("place",.int p)])/\O=[]
 | .tup l,v,O=>∃ a vs,v=.ref a/\FT R Z H a vs/\Reps R Z H l vs O
 | .lst o l,v,O=>RpC (λvs O'=>Reps R Z H l vs O') (λa vs O'=>bif o then H a=some (.lst vs)/\O=a::O' else FL R Z H a vs/\O'=[]/\O=[]) v
 | .dK o ks l,v,O=>RpC (λvs O'=>Reps R Z H l vs O') (λa vs O'=>ks.length=l.length/\DkA o H a ((ks.map kaV).zip vs)/\bif o then O=a::O' else Z a/\O'=[]/\O=[]) v
 | .dT o ks l,v,O=>RpC (λvs O'=>Reps R Z H l vs O') (λa vs O'=>ks.length=l.length/\H a=some (.dT<|(ks.map<|List.map kaV).zip vs)/\bif o then O=a::O' else Z a/\O'=[]/\O=[]) v
 | .ins o c ns l,v,O=>∃ a dx vs O',v=.ref a/\Reps R Z H l vs O'/\ns.length=l.length/\H a=some (.ins (R.cls c) dx<|ns.zip vs)/\bif o then O=a::O' else Z a/\O'=[]/\O=[]
def Reps(R:RC)(Z:Zn)(H:Hp):List D->List V->List Addr->Prop
 | [],vs,O=>vs=[]/\O=[]
 | d::ds,vs,O=>RpS (λv O1=>Rep R Z H d v O1) (λvs' O2=>Reps R Z H ds vs' O2) vs O
end
def FT.sq(h:FT R Z H a vs):SqT R.K H a vs:=by
 rcases h with⟨_,h⟩ | ⟨o,b,n,c,d,e,f,g,_⟩
 ·exact .inl h
 ·exact .inr ⟨o,b,n,c,d,e,f,g⟩
def FL.sqx(h:FL R Z H a vs):SqX R.K H a vs:=by
 rcases h with⟨_,h⟩ | h
 ·exact .inl h
 ·exact .inr h
def FL.sq(h:FL R Z H a vs):SqL R.K H a vs:=h.sqx.sq
def Rd.agree(e:H' a=H a)(h:Rd H a u):Rd H' a u:=by
 unfold Rd at h ⊢;rw[e];exact h
def FT.frame(hz:∀ a,Z a->Z' a)(b:∀ a,Z a->H' a=H a)(h:FT R Z H a vs):FT R Z' H' a vs:=by
 rcases h with⟨z,h⟩ | h
 ·exact .inl ⟨hz a z,Rd.agree (b a z) h⟩
 ·exact .inr h
def FL.frame(hz:∀ a,Z a->Z' a)(b:∀ a,Z a->H' a=H a)(h:FL R Z H a vs):FL R Z' H' a vs:=by
 rcases h with⟨z,h⟩ | h
 ·exact .inl ⟨hz a z,Rd.agree (b a z) h⟩
 ·exact .inr h
mutual
theorem Rep.frame(hz:∀ a,Z a->Z' a)(hH:∀ a,Z a->H' a=H a):∀{d:D}{v:V}{O:J9},Rep R Z H d v O->(∀ a∈O,H' a=H a)->Rep R Z' H' d v O
 | .non,_,_,h,_=>by rw[Rep] at h ⊢;exact h
 | .bl _,_,_,h,_=>by rw[Rep] at h ⊢;exact h
 | .int _,_,_,h,_=>by rw[Rep] at h ⊢;exact h
 | .str _,_,_,h,_=>by rw[Rep] at h ⊢;exact h
 | .dead,_,_,h,_=>by rw[Rep] at h ⊢;exact h
 | .tok _,_,_,h,_=>by rw[Rep] at h ⊢;exact h
 | .kt _,_,_,h,_=>by
  rw[Rep] at h ⊢;obtain⟨a,e,z,x,o⟩:=h;exact⟨a,e,hz a z,(hH a z).trans x,o⟩
 | .exc _ _,_,_,h,_=>by
  rw[Rep] at h ⊢;obtain⟨a,dx,e,z1,z2,h1,h2,h3⟩:=h;exact⟨a,dx,e,hz a z1,hz dx z2,(hH a z1).trans h1,(hH dx z2).trans h2,h3⟩
 | .tup l,_,_,h,hO=>by
  rw[Rep] at h ⊢;obtain⟨a,vs,e,t,r⟩:=h;exact⟨a,vs,e,t.frame hz hH,Reps.frame hz hH r hO⟩
 | .lst o l,_,_,h,hO=>by
  rw[Rep] at h ⊢;obtain⟨a,vs,O',e,r,h⟩:=h;cases o with
  | true=>
   obtain⟨h1,rfl⟩:=h;exact⟨a,vs,O',e,Reps.frame hz hH r λb hb=>hO b<|L5 _ hb,by rw[cond_true,hO a L6];exact⟨h1,rfl⟩⟩
  | false=>
   obtain⟨h1,rfl,rfl⟩:=h;exact⟨a,vs,[],e,Reps.frame hz hH r (λb hb=>nomatch hb),h1.frame hz hH,rfl,rfl⟩
 | .dK o ks l,_,_,h,hO=>by
  rw[Rep] at h ⊢;obtain⟨a,vs,O',e,r,hl,hd,h⟩:=h;cases o with
  | true=>
   have h:=(show _=_ from h);subst h;exact⟨a,vs,O',e,Reps.frame hz hH r λb hb=>hO b<|L5 _ hb,hl,by show H' a=some _;rw[hO a L6];exact hd,rfl⟩
  | false=>
   obtain⟨h1,rfl,rfl⟩:=h;exact⟨a,vs,[],e,Reps.frame hz hH r (λb hb=>nomatch hb),hl,Rd.agree (hH a h1) hd,hz a h1,rfl,rfl⟩
 | .dT o ks l,_,_,h,hO=>by
  rw[Rep] at h ⊢;obtain⟨a,vs,O',e,r,hl,hd,h⟩:=h;cases o with
  | true=>
   have h:=(show _=_ from h);subst h;exact⟨a,vs,O',e,Reps.frame hz hH r λb hb=>hO b<|L5 _ hb,hl,by rw[hO a L6];exact hd,rfl⟩
  | false=>
   obtain⟨h1,rfl,rfl⟩:=h;exact⟨a,vs,[],e,Reps.frame hz hH r (λb hb=>nomatch hb),hl,by rw[hH a h1];exact hd,hz a h1,rfl,rfl⟩
 | .ins o c ns l,_,_,h,hO=>by
  rw[Rep] at h ⊢;obtain⟨a,dx,vs,O',e,r,hl,hd,h⟩:=h;cases o with
  | true=>
   have h:=(show _=_ from h);subst h;exact⟨a,dx,vs,O',e,Reps.frame hz hH r λb hb=>hO b<|L5 _ hb,hl,by rw[hO a L6];exact hd,rfl⟩
  | false=>
   obtain⟨h1,rfl,rfl⟩:=h;exact⟨a,dx,vs,[],e,Reps.frame hz hH r (λb hb=>nomatch hb),hl,by rw[hH a h1];exact hd,hz a h1,rfl,rfl⟩
theorem Reps.frame(hz:∀ a,Z a->Z' a)(hH:∀ a,Z a->H' a=H a):∀{l:List D}{vs:List V}{O:J9},Reps R Z H l vs O->(∀ a∈O,H' a=H a)->Reps R Z' H' l vs O
 | [],_,_,h,_=>by rw[Reps] at h ⊢;exact h
 | d::l,_,_,h,hO=>by
  rw[Reps] at h ⊢;obtain⟨v,vs,O1,O2,e,rfl,r1,r2⟩:=h;exact⟨v,vs,O1,O2,e,rfl,Rep.frame hz hH r1 λa ha=>hO a<|List.mem_append_left _ ha,Reps.frame hz hH r2 λa ha=>hO a<|X0 _ ha⟩
end
mutual
theorem Rep.nil:∀{d:D}{v:V}{O:J9},Rep R Z H d v O->frz d=true->O=[]
 | .non,_,_,h,_=>by rw[Rep] at h;exact h.2
 | .bl _,_,_,h,_=>by rw[Rep] at h;exact h.2
 | .int _,_,_,h,_=>by rw[Rep] at h;exact h.2
 | .str _,_,_,h,_=>by rw[Rep] at h;exact h.2
 | .dead,_,_,h,_=>by rw[Rep] at h;exact h
 | .tok _,_,_,h,_=>by rw[Rep] at h;exact h.2
 | .kt _,_,_,h,_=>by rw[Rep] at h;obtain⟨_,_,_,_,h⟩:=h;exact h
 | .exc _ _,_,_,h,_=>by rw[Rep] at h;obtain⟨_,_,_,_,_,_,_,h⟩:=h;exact h
 | .tup l,_,_,h,f=>by
  rw[Rep] at h;rw[frz] at f;obtain⟨a,vs,e,t,r⟩:=h;exact Reps.nil r f
 | .lst o l,_,_,h,f=>by
  rw[Rep] at h;rw[frz] at f;obtain⟨a,vs,O',e,r,h⟩:=h;cases o with
  | true=>exact absurd f (by simp)
  | false=>exact h.2.2
 | .dK o ks l,_,_,h,f=>by
  rw[Rep] at h;rw[frz] at f;obtain⟨a,vs,O',e,r,hl,hd,h⟩:=h;cases o with
  | true=>exact absurd f (by simp)
  | false=>exact h.2.2
 | .dT o ks l,_,_,h,f=>by
  rw[Rep] at h;rw[frz] at f;obtain⟨a,vs,O',e,r,hl,hd,h⟩:=h;cases o with
  | true=>exact absurd f (by simp)
  | false=>exact h.2.2
 | .ins o c ns l,_,_,h,f=>by
  rw[Rep] at h;rw[frz] at f;obtain⟨a,dx,vs,O',e,r,hl,hd,h⟩:=h;cases o with
  | true=>exact absurd f (by simp)
  | false=>exact h.2.2
theorem Reps.nil:∀{l:List D}{vs:List V}{O:J9},Reps R Z H l vs O->frzs l=true->O=[]
 | [],_,_,h,_=>by rw[Reps] at h;exact h.2
 | d::l,_,_,h,f=>by
  rw[Reps] at h;rw[frzs,M0] at f;obtain⟨v,vs,O1,O2,e,rfl,r1,r2⟩:=h;rw[Rep.nil r1 f.1,Reps.nil r2 f.2];rfl
end
mutual
theorem Rep.freeze:∀{d:D}{v:V}{O:J9},Rep R Z H d v O->(∀ a,Z a->Z' a)->(∀ a∈O,Z' a)->Rep R Z' H (fz d) v []
 | .non,_,_,h,_,_=>by rw[Rep] at h;rw[fz,Rep];exact⟨h.1,rfl⟩
 | .bl _,_,_,h,_,_=>by rw[Rep] at h;rw[fz,Rep];exact⟨h.1,rfl⟩
 | .int _,_,_,h,_,_=>by rw[Rep] at h;rw[fz,Rep];exact⟨h.1,rfl⟩
 | .str _,_,_,h,_,_=>by rw[Rep] at h;rw[fz,Rep];exact⟨h.1,rfl⟩
 | .dead,_,_,h,_,_=>by rw[fz,Rep]
 | .tok _,_,_,h,_,_=>by rw[Rep] at h;rw[fz,Rep];exact⟨h.1,rfl⟩
 | .kt _,_,_,h,hz,_=>by
  rw[Rep] at h;rw[fz,Rep];obtain⟨a,e,z,x,o⟩:=h;exact⟨a,e,hz a z,x,rfl⟩
 | .exc _ _,_,_,h,hz,_=>by
  rw[Rep] at h;rw[fz,Rep];obtain⟨a,dx,e,z1,z2,h1,h2,_⟩:=h;exact⟨a,dx,e,hz a z1,hz dx z2,h1,h2,rfl⟩
 | .tup l,_,_,h,hz,hO=>by
  rw[Rep] at h;rw[fz,Rep];obtain⟨a,vs,e,t,r⟩:=h;exact⟨a,vs,e,t.frame hz λ_ _=>rfl,Reps.freeze r hz hO⟩
 | .lst o l,_,_,h,hz,hO=>by
  rw[Rep] at h;rw[fz,Rep];obtain⟨a,vs,O',e,r,h⟩:=h;cases o with
  | true=>
   obtain⟨h1,rfl⟩:=h;exact⟨a,vs,[],e,Reps.freeze r hz λb hb=>hO b<|L5 _ hb,.inl ⟨hO a L6,.inl h1⟩,rfl,rfl⟩
  | false=>
   obtain⟨h1,rfl,rfl⟩:=h;exact⟨a,vs,[],e,Reps.freeze r hz (λb hb=>nomatch hb),h1.frame hz<|λ_ _=>rfl,rfl,rfl⟩
 | .dK o ks l,_,_,h,hz,hO=>by
  rw[Rep] at h;rw[fz,Rep];obtain⟨a,vs,O',e,r,hl,hd,h⟩:=h;have hl':ks.length=(fzs l).length:=by rw[JT,L0];exact hl
  cases o with
  | true=>
   have h:=(show _=_ from h);subst h;exact⟨a,vs,[],e,Reps.freeze r hz λb hb=>hO b<|L5 _ hb,hl',.inl hd,hO a L6,rfl,rfl⟩
  | false=>
   obtain⟨h1,rfl,rfl⟩:=h;exact⟨a,vs,[],e,Reps.freeze r hz (λb hb=>nomatch hb),hl',hd,hz a h1,rfl,rfl⟩
 | .dT o ks l,_,_,h,hz,hO=>by
  rw[Rep] at h;rw[fz,Rep];obtain⟨a,vs,O',e,r,hl,hd,h⟩:=h;have hl':ks.length=(fzs l).length:=by rw[JT,L0];exact hl
  cases o with
  | true=>
   have h:=(show _=_ from h);subst h;exact⟨a,vs,[],e,Reps.freeze r hz λb hb=>hO b<|L5 _ hb,hl',hd,hO a L6,rfl,rfl⟩
  | false=>
   obtain⟨h1,rfl,rfl⟩:=h;exact⟨a,vs,[],e,Reps.freeze r hz (λb hb=>nomatch hb),hl',hd,hz a h1,rfl,rfl⟩
 | .ins o c ns l,_,_,h,hz,hO=>by
  rw[Rep] at h;rw[fz,Rep];obtain⟨a,dx,vs,O',e,r,hl,hd,h⟩:=h;have hl':ns.length=(fzs l).length:=by rw[JT,L0];exact hl
  cases o with
  | true=>
   have h:=(show _=_ from h);subst h;exact⟨a,dx,vs,[],e,Reps.freeze r hz λb hb=>hO b<|L5 _ hb,hl',hd,hO a L6,rfl,rfl⟩
  | false=>
   obtain⟨h1,rfl,rfl⟩:=h;exact⟨a,dx,vs,[],e,Reps.freeze r hz (λb hb=>nomatch hb),hl',hd,hz a h1,rfl,rfl⟩
theorem Reps.freeze:∀{l:List D}{vs:List V}{O:J9},Reps R Z H l vs O->(∀ a,Z a->Z' a)->(∀ a∈O,Z' a)->Reps R Z' H (fzs l) vs []
 | [],_,_,h,_,_=>by rw[Reps] at h;rw[fzs,Reps];exact⟨h.1,rfl⟩
 | d::l,_,_,h,hz,hO=>by
  rw[Reps] at h;rw[fzs,Reps];obtain⟨v,vs,O1,O2,e,rfl,r1,r2⟩:=h;exact⟨v,vs,[],[],e,rfl,Rep.freeze r1 hz λa ha=>hO a<|List.mem_append_left _ ha,Reps.freeze r2 hz λa ha=>hO a<|X0 _ ha⟩
end
theorem Reps.length:∀{l}{vs}{O},Reps R Z H l vs O->vs.length=l.length
 | [],_,_,h=>by rw[Reps] at h;rw[h.1];rfl
 | d::l,_,_,h=>by
  obtain⟨v,vs,b,c,rfl,rfl,e,a⟩:=h;rw[M2,M2,Reps.length a]
theorem Reps.append:∀{l m}{vs ws}{O P},Reps R Z H l vs O->Reps R Z H m ws P->Reps R Z H (l++m) (vs++ws) (O++P)
 | [],m,_,_,_,_,h,k=>by rw[Reps] at h;obtain⟨rfl,rfl⟩:=h;exact k
 | d::l,m,_,_,_,_,h,k=>by
  obtain⟨v,vs,a,e,rfl,rfl,b,c⟩:=h;exact⟨v,_,a,_,rfl,List.append_assoc ..,b,Reps.append c k⟩
def Reps.one(h:Rep R Z H d v O):Reps R Z H [d] [v] O:=by
 exact⟨v,[],O,[],rfl,(N0 O).symm,h,by rw[Reps];exact⟨rfl,rfl⟩⟩
def Reps.cons(h:Rep R Z H d v O)(k:Reps R Z H l vs P):Reps R Z H (d::l) (v::vs) (O++P):=by
 exact⟨v,vs,O,P,rfl,rfl,h,k⟩
def Reps.empty:Reps R Z H [] [] []:=by rw[Reps];exact⟨rfl,rfl⟩
theorem Reps.at:∀{l}{vs}{O}{i}{d},Reps R Z H l vs O->l[i]?=some d ->
  Ex4 λv A P B=>An4 (vs[i]?=some v) (O=A++P++B) (Rep R Z H d v P)<|∀{Z'}{H'}{d'}{v'}{P'},Rep R Z' H' d' v' P'->(∀ a,Z a->Z' a)->(∀ a,Z a->H' a=H a)->(∀ a∈A,H' a=H a)->(∀ a∈B,H' a=H a)->Reps R Z' H' (l.set i d') (vs.set i v') (A++P'++B)
 | [],_,_,_,_,_,e=>by simp at e
 | c::l,_,_,0,d,h,e=>by
  obtain⟨v,vs,b,j,rfl,rfl,m,n⟩:=h;have e:c=d:=by simpa using e
  subst e;exact⟨v,[],b,j,rfl,rfl,m,λr f g o p=>⟨_,vs,_,j,rfl,rfl,r,Reps.frame f g n p⟩⟩
 | c::l,_,_,i+1,d,h,e=>by
  obtain⟨v,vs,b,j,rfl,rfl,m,n⟩:=h;obtain⟨w,A,P,B,s,rfl,t,k⟩:=Reps.at n ⇑e;exact⟨w,b++A,P,B,by simpa using s,by simp,t,λ{Z' H' d' v' P'} r f g o p=>⟨v,_,b,A++P'++B,rfl,by simp,Rep.frame f g m λa q=>o a<|List.mem_append_left _ q,k r f g (λa q=>o a<|X0 _ q) p⟩⟩
def Reps.item{l}{vs}{i:Nat}(h:Reps R Z H l vs [])(e:l[i]?=some d):∃ v,vs[i]?=some v/\Rep R Z H d v []:=by
 obtain⟨v,A,P,B,a,e2,r,_⟩:=h.at e;have:P=[]:=by
  have:=congrArg List.length e2;simp at this;exact List.eq_nil_of_length_eq_zero ∅
 subst this;exact⟨v,a,r⟩
theorem Reps.take:∀{l}{vs} n,Reps R Z H l vs []->Reps R Z H (l.take n) (vs.take n) []
 | _,_,0,_=>by simp;exact .empty
 | [],_,n+1,h=>by rw[Reps] at h;rw[h.1];exact .empty
 | d::l,_,n+1,h=>by
  obtain⟨v,vs,c,f,rfl,e,a,b⟩:=h;obtain⟨rfl,rfl⟩:=List.append_eq_nil_iff.mp e.symm;exact .cons a<|Reps.take n b
theorem Reps.drop:∀{l}{vs} n,Reps R Z H l vs []->Reps R Z H (l.drop n) (vs.drop n) []
 | _,_,0,h=>h
 | [],_,n+1,h=>by rw[Reps] at h;rw[h.1];exact .empty
 | d::l,_,n+1,h=>by
  obtain⟨v,vs,b,c,rfl,e,f,a⟩:=h;obtain⟨rfl,rfl⟩:=List.append_eq_nil_iff.mp e.symm;exact Reps.drop n a
structure WF(Z:Zn)(H:Hp)(O:J9):Prop where
 nd:O.Nodup
 nz:∀ a∈O,¬ Z a
 od:∀ a∈O,H a≠none
 zd:∀ a,Z a->H a≠none
structure Go(Z:Zn)(H:Hp)(O:J9)(Z':Zn)(H':Hp)(O':J9):Prop where
 wf:WF Z' H' O'
 zz:∀ a,Z a->Z' a
 fr:∀ a,H a≠none->a∉O->H' a=H a
 zn:∀ a,Z' a->Z a\/a∈O\/H a=none
 sub:∀ a∈O',a∈O\/H a=none
 dm:∀ a,H a≠none->H' a≠none
def Go.refl(w:WF Z H O):Go Z H O Z H O:=⟨w,λ_ z=>z,λ_ _ _=>rfl,λ_ z=>.inl z,λ_ h=>.inl h,λ_ h=>h⟩
def Go.trans(g:Go Z H O Z' H' O')(k:Go Z' H' O' Z'' H'' O''):Go Z H O Z'' H'' O'':=by
 refine⟨k.wf,λa z=>k.zz a<|g.zz a z,λa h n=>?_,λa z=>?_,λa h=>?_,λa h=>k.dm a<|g.dm a h⟩
 ·rw[k.fr a (g.dm a h) λb=>(g.sub a b).elim n h,g.fr a h n]
 ·rcases k.zn a z with z | z | z
  ·exact g.zn a z
  ·rcases g.sub a z with q | q
   ·lia
   ·lia
  ·by_cases h:H a=none
   ·lia
   ·exact absurd z<|g.dm a h
 ·rcases k.sub a h with q | q
  ·exact g.sub a q
  ·by_cases h:H a=none
   ·lia
   ·exact absurd q<|g.dm a h
def Go.zH(w:WF Z H O)(g:Go Z H O Z' H' O'):∀ a,Z a->H' a=H a:=λa z=>g.fr a (w.zd a z) λh=>w.nz a h z
def WF.sub(w:WF Z H O)(h:∀ a∈O',a∈O)(n:O'.Nodup):WF Z H O':=⟨n,λa z=>w.nz a<|h a z,λa z=>w.od a<|h a z,w.zd⟩
def WF.mid(w:WF Z H<|A++O++B):WF Z H O:=w.sub (λa h=>by simp[h]) (by have:=w.nd;simp[X8] at this;exact this.2.1.1)
def WF.left(w:WF Z H<|A++B):WF Z H A:=w.sub (λa h=>by simp[h]) (X8.mp w.nd).1
def WF.right(w:WF Z H<|A++B):WF Z H B:=w.sub (λa h=>by simp[h]) (X8.mp w.nd).2.1
def Go.frame(w:WF Z H<|A++O++B)(g:Go Z H O Z' H' O'):Go Z H (A++O++B) Z' H' (A++O'++B):=by
 have nd:=w.nd;simp only[X8,N4] at nd;have new:∀ a∈O',a∉A/\a∉B:=λa h=>by
  rcases g.sub a h with q | q
  ·exact⟨λz=>nd.1.2.2 a z a q rfl,λz=>nd.2.2 a (.inr q) a z rfl⟩
  ·exact⟨λz=>w.od a (by simp[z]) q,λz=>w.od a (by simp[z]) q⟩
 have keep:∀ a,a∈A\/a∈B->a∉O:=λa h z=>by
  rcases h with h | h
  ·exact nd.1.2.2 a h a z rfl
  ·exact nd.2.2 a (.inr z) a h rfl
 refine⟨⟨?_,λa h z=>?_,λa h=>?_,g.wf.zd⟩,g.zz,λa h n=>?_,λa z=>?_,λa h=>?_,g.dm⟩
 ·simp only[X8,N4];exact⟨⟨nd.1.1,g.wf.nd,λa h b k e=>(new b k).1 (e▸h)⟩,nd.2.1,λa h b k e=>by
   rcases h with h | h
   ·exact nd.2.2 a (.inl h) b k e
   ·exact(new a h).2 (e▸k)⟩
 ·simp only[N4] at h;rcases h with(h | h) | h
  ·rcases g.zn a z with q | q | q
   ·exact w.nz a (by simp[h]) q
   ·exact keep a (.inl h) q
   ·exact w.od a (by simp[h]) q
  ·exact g.wf.nz a h z
  ·rcases g.zn a z with q | q | q
   ·exact w.nz a (by simp[h]) q
   ·exact keep a (.inr h) q
   ·exact w.od a (by simp[h]) q
 ·simp only[N4] at h;rcases h with(h | h) | h
  ·exact g.dm a<|w.od a (by simp[h])
  ·exact g.wf.od a h
  ·exact g.dm a<|w.od a (by simp[h])
 ·simp only[N4,not_or] at n;exact g.fr a h n.1.2
 ·rcases g.zn a z with q | q | q
  ·lia
  ·exact .inr<|.inl (by simp[q])
  ·lia
 ·simp only[N4] at h ⊢;rcases h with(h | h) | h
  ·lia
  ·rcases g.sub a h with q | q
   ·lia
   ·lia
  ·lia
def Go.keepA(w:WF Z H<|A++O++B)(g:Go Z H O Z' H' O'):(∀ a∈A,H' a=H a)/\∀ a∈B,H' a=H a:=by
 have nd:=w.nd;simp only[X8,N4] at nd;exact⟨λa h=>g.fr a (w.od a<|by simp[h]) λz=>nd.1.2.2 a h a z rfl,λa h=>g.fr a (w.od a<|by simp[h]) λz=>nd.2.2 a (.inr z) a h rfl⟩
def Go.drop(g:Go Z H O Z' H' O')(h:∀ a∈O'',a∈O')(n:O''.Nodup):Go Z H O Z' H' O'':=⟨g.wf.sub h n,g.zz,g.fr,g.zn,λa q=>g.sub a<|h a q,g.dm⟩
def Go.dropL(g:Go Z H O Z' H'<|A++B):Go Z H O Z' H' B:=g.drop (λa h=>by simp[h]) (X8.mp g.wf.nd).2.1
def Go.dropR(g:Go Z H O Z' H'<|A++B):Go Z H O Z' H' A:=g.drop (λa h=>by simp[h]) (X8.mp g.wf.nd).1
def Go.freeze(w:WF Z H O):Go Z H O (λa=>Z a\/a∈O) H []:=
 ⟨⟨List.nodup_nil,λa h=>(nomatch h),λa h=>(nomatch h),λa h=>h.elim (w.zd a)<|w.od a⟩,λa z=>.inl z,λ_ _ _=>rfl,λa z=>z.elim .inl λq=>.inr<|.inl q,λa h=>(nomatch h),λ_ h=>h⟩
def Go.newF(w:WF Z H O)(hp:H p=none):Go Z H O (λa=>Z a\/a=p) (upd H p o) O:=by
 have ne:∀ a,H a≠none->a≠p:=λa h e=>h<|e▸hp;refine⟨⟨w.nd,λa h z=>z.elim (w.nz a h)<|ne a<|w.od a h,λa h=>?_,λa z=>?_⟩,λa z=>.inl z,λa h _=>ji<|ne a h,λa z=>z.elim .inl λe=>.inr<|.inr<|e▸hp,λa h=>.inl h,λa h=>?_⟩
 ·rw[ji<|ne a<|w.od a h];exact w.od a h
 ·by_cases e:a=p
  ·rw[e,jV];exact λh=>nomatch h
  ·rw[ji e];exact w.zd a<|z.resolve_right e
 ·rw[ji<|ne a h];exact h
def Go.newO(w:WF Z H O)(hp:H p=none):Go Z H O Z (upd H p o) (p::O):=by
 have ne:∀ a,H a≠none->a≠p:=λa h e=>h<|e▸hp;refine⟨⟨List.nodup_cons.mpr ⟨λh=>w.od p h hp,w.nd⟩,λa h z=>?_,λa h=>?_,λa z=>?_⟩,λa z=>z,λa h _=>ji<|ne a h,λa z=>.inl z,λa h=>?_,λa h=>?_⟩
 ·rcases M4.mp h with e | e
  ·exact w.zd a z<|e▸hp
  ·exact w.nz a e z
 ·rcases M4.mp h with e | e
  ·rw[e,jV];exact λh=>nomatch h
  ·rw[ji<|ne a<|w.od a e];exact w.od a e
 ·rw[ji<|ne a<|w.zd a z];exact w.zd a z
 ·grind
 ·rw[ji<|ne a h];exact h
def Go.put(w:WF Z H O)(hp:p∈O):Go Z H O Z (upd H p o) O:=by
 have b:∀ a,upd H p o a=none->a≠p/\H a=none:=λa h=>by
  by_cases e:a=p
  ·rw[e,jV] at h;cases h
  ·rw[ji e] at h;exact⟨e,h⟩
 exact⟨⟨w.nd,w.nz,λa h z=>w.od a h (b a z).2,λa z e=>w.zd a z (b a e).2⟩,λa z=>z,λa h n=>ji λe=>n<|e▸hp,λa z=>.inl z,λa h=>.inl h,λa h z=>h (b a z).2⟩
noncomputable def jfq:D->Option Bool
 | .bl b=>some b
 | _=>none
@[simp] def blOf_bl(b):jfq (.bl b)=some b:=rfl
def Vt(h:jfq d=some b):d=.bl b:=by cases d<;>cases h<;>rfl
noncomputable def Jp:D->Option Int
 | .int i=>some i
 | _=>none
@[simp] def intOf_int(i):Jp (.int i)=some i:=rfl
def k8(h:Jp d=some n):d=.int n:=by cases d<;>cases h<;>rfl
noncomputable def Jq:D->Option (List D)
 | .lst true l=>some l
 | _=>none
@[simp] def lstOf_lst(l):Jq (.lst true l)=some l:=rfl
def Jg(h:Jq d=some l):d=.lst true l:=by
 cases d with
 | lst o _=>cases o<;>cases h;rfl
 | _=>cases h
noncomputable def jiE:D->Option (List KA×List D)
 | .dK true ks l=>some (ks,l)
 | _=>none
@[simp] def dkOf_dK(ks)(l):jiE (.dK true ks l)=some (ks,l):=rfl
def jiB(h:jiE d=some p):d=.dK true p.1 p.2:=by
 cases d with
 | dK o _ _=>cases o<;>cases h;rfl
 | _=>cases h
noncomputable def jiW:D->Option (List KA×List D)
 | .dK _ ks l=>some (ks,l)
 | _=>none
@[simp] def dkAny_e(o)(ks)(l):jiW (.dK o ks l)=some (ks,l):=rfl
noncomputable def jl0:D->Option (List (List KA)×List D)
 | .dT true ks l=>some (ks,l)
 | _=>none
@[simp] def dtOf_dT(ks)(l):jl0 (.dT true ks l)=some (ks,l):=rfl
noncomputable def zM:D->Option (Nat×List Str×List D)
 | .ins true c ns l=>some (c,ns,l)
 | _=>none
@[simp] def insOf_ins(c)(ns)(l):zM (.ins true c ns l)=some (c,ns,l):=rfl
def Vb(h:zM d=some (c,ns,l)):d=.ins true c ns l:=by
 cases d with
 | ins o _ _ _=>cases o<;>cases h;rfl
 | _=>cases h
noncomputable def jf5:D->Option (Nat×List Str×List D)
 | .ins _ c ns l=>some (c,ns,l)
 | _=>none
@[simp] def inOf_ins(o)(c)(ns)(l):jf5 (.ins o c ns l)=some (c,ns,l):=rfl
def jiA(h:jf5 d=some (c,ns,l)):∃ o,d=.ins o c ns l:=by
 cases d with
 | ins o _ _ _=>cases h;exact⟨o,rfl⟩
 | _=>cases h
noncomputable def jhb:D->Option (List D)
 | .lst _ l=>some l
 | _=>none
@[simp] def lsOf_lst(o)(l):jhb (.lst o l)=some l:=rfl
def xR(h:jhb d=some l):∃ o,d=.lst o l:=by
 cases d with
 | lst o _=>cases h;exact⟨o,rfl⟩
 | _=>cases h
noncomputable def jd8:List D->Option D
 | [x]=>some x
 | _=>none
def qr(h:jd8 l=some x):l=[x]:=by
 match l with
 | [_]=>cases h;rfl
noncomputable def two1:List D->Option (D×D)
 | [x,y]=>some (x,y)
 | _=>none
def two1_of(h:two1 l=some p):l=[p.1,p.2]:=by
 match l with
 | [_,_]=>cases h;rfl
def ob{α β:Type}{C:Prop}{o}{f:α->Option β}{b}(e:o.bind f=some b)(k:∀ a,o=some a->f a=some b->C):C:=by
 cases o with
 | none=>cases e
 | some a=>exact k a rfl e
def oc{β:Type}{C:Prop}{c}{x}{b:β}(e:(bif c then x else none)=some b)(k:c=true->x=some b->C):C:=by
 cases c with
 | false=>cases e
 | true=>exact k rfl e
noncomputable abbrev Rh:=List<|Option D
def Slots(R:RC)(Z:Zn)(H:Hp):Rh->St->List Addr->Prop
 | [],σ,O=>σ=[]/\O=[]
 | none::ρ,σ,O=>∃ s σ',σ=s::σ'/\Slots R Z H ρ σ' O
 | some d::ρ,σ,O=>∃ v σ' O1 O2,σ=some v::σ'/\O=O1++O2/\Rep R Z H d v O1/\Slots R Z H ρ σ' O2
theorem Slots.frame(hz:∀ a,Z a->Z' a)(c:∀ a,Z a->H' a=H a):∀{ρ}{σ}{O},Slots R Z H ρ σ O->(∀ a∈O,H' a=H a)->Slots R Z' H' ρ σ O
 | [],_,_,h,_=>h
 | none::ρ,_,_,h,b=>by
  obtain⟨s,f,e,r⟩:=h;exact⟨s,f,e,Slots.frame hz c r b⟩
 | some d::ρ,_,_,h,b=>by
  obtain⟨v,f,i,j,e,rfl,k,l⟩:=h;exact⟨v,f,i,j,e,rfl,k.frame hz c λa g=>b a<|List.mem_append_left _ g,Slots.frame hz c l λa g=>b a<|X0 _ g⟩
theorem Slots.length:∀{ρ}{σ}{O},Slots R Z H ρ σ O->σ.length=ρ.length
 | [],_,_,h=>by rw[h.1];rfl
 | none::ρ,_,_,h=>by obtain⟨s,a,rfl,r⟩:=h;rw[M2,M2,Slots.length r]
 | some d::ρ,_,_,h=>by obtain⟨v,a,c,e,rfl,rfl,f,b⟩:=h;rw[M2,M2,Slots.length b]
inductive SPut (R:RC) (Z:Zn) (H:Hp) (ρ:Rh) (σ:St) (O:J9) (i:Nat):Prop
 | mk:∀(A P B:J9),O=A++P++B->(∀ d,ρ[i]?=some (some d)->∃ v,σ[i]?=some (some v)/\Rep R Z H d v P) ->
  (∀{Z':Zn}{H':Hp}{d':D}{v':V}{P':J9},Rep R Z' H' d' v' P'->(∀ a,Z a->Z' a)->(∀ a,Z a->H' a=H a)->(∀ a∈A,H' a=H a)->(∀ a∈B,H' a=H a)->Slots R Z' H' (ρ.set i<|some d') (σ.set i<|some v') (A++P'++B)) ->
  Slots R Z H (ρ.set i none) σ (A++B)->SPut R Z H ρ σ O i
theorem Slots.put:∀{ρ}{σ}{O}{i},Slots R Z H ρ σ O->i<ρ.length->SPut R Z H ρ σ O i
 | [],_,_,_,_,j=>absurd j<|Nat.not_lt_zero _
 | none::ρ,_,_,0,h,j=>by
  obtain⟨s,b,rfl,r⟩:=h;refine⟨[],[],_,rfl,λd e=>by simp at e,λq f g l k=>⟨_,b,_,_,rfl,rfl,q,Slots.frame f g r k⟩,⟨s,b,rfl,r⟩⟩
 | some c::ρ,_,_,0,h,j=>by
  obtain⟨v,b,m,x,rfl,rfl,n,o⟩:=h;refine⟨[],m,x,rfl,λd e=>?_,λq f g l k=>⟨_,b,_,_,rfl,rfl,q,Slots.frame f g o k⟩,⟨_,b,rfl,o⟩⟩
  ·have e:c=d:=by simpa using e
   subst e;exact⟨v,rfl,n⟩
 | none::ρ,_,_,i+1,h,j=>by
  obtain⟨s,b,rfl,r⟩:=h;obtain⟨A,P,B,rfl,p,t,u⟩:=Slots.put r ⇑j;refine⟨A,P,B,rfl,λd e=>p d ⇑e,λq f g l k=>⟨s,_,rfl,t q f g l k⟩,⟨s,b,rfl,u⟩⟩
 | some c::ρ,_,_,i+1,h,j=>by
  obtain⟨v,b,m,x,rfl,rfl,n,o⟩:=h;obtain⟨A,P,B,rfl,p,t,u⟩:=Slots.put o ⇑j;refine⟨m++A,P,B,by simp,λd e=>p d ⇑e,λ{z C D E y} q f g l k=>⟨v,_,m,A++y++B,rfl,by simp,n.frame f g λa w=>l a<|List.mem_append_left _ w,t q f g (λa w=>l a<|X0 _ w) k⟩,⟨v,b,m,A++B,rfl,by simp,n,u⟩⟩
theorem yH:∀{l:List α}{i}{x},l[i]?=some x->l.set i x=l
 | [],_,_,h=>by simp at h
 | y::l,0,x,h=>by simp at h;subst h;rfl
 | y::l,i+1,x,h=>by rw[List.set_cons_succ,yH ⇑h]
abbrev FE:=Rh->Option (D×Rh)
abbrev FT':=Rh->Option (Bool×Rh)
abbrev FA:=Rh->Option (List D×Rh)
def DE(R:RC)(te:TE)(f:FE):Prop:=∀{σ}{ρ ρ'}{Z}{H}{O}{d},WF Z H O->Slots R Z H ρ σ O->f ρ=some (d,ρ') ->
 ∀{Q},(∀{v}{Z'}{H'}{P O'},Go Z H O Z' H' (P++O')->Rep R Z' H' d v P->Slots R Z' H' ρ' σ O'->Q v H')->te σ H Q
def DT(R:RC)(tt:TT)(f:FT'):Prop:=∀{σ}{ρ ρ'}{Z}{H}{O}{b},WF Z H O->Slots R Z H ρ σ O->f ρ=some (b,ρ') ->
 ∀{Q:Bool->Hp->Prop},(∀{Z'}{H'}{O'},Go Z H O Z' H' O'->Slots R Z' H' ρ' σ O'->Q b H')->tt σ H Q
def DA(R:RC)(ta:TA)(f:FA):Prop:=∀{σ}{ρ ρ'}{Z}{H}{O}{ds},WF Z H O->Slots R Z H ρ σ O->f ρ=some (ds,ρ') ->
 ∀{Q:List V->Hp->Prop},(∀{vs}{Z'}{H'}{P O'},Go Z H O Z' H' (P++O')->Reps R Z' H' ds vs P->Slots R Z' H' ρ' σ O'->Q vs H')->ta σ H Q
def DO(R:RC)(r:R2)(g:D->D->Option D):Prop:=∀{Z}{H}{x y d}{v u}{O1 O2},WF Z H (O1++O2)->Rep R Z H x v O1->Rep R Z H y u O2->g x y=some d ->
 ∀{Q},(∀{w}{Z'}{H'}{P},Go Z H (O1++O2) Z' H' P->Rep R Z' H' d w P->Q w H')->r v u H Q
def DC(R:RC)(r:List V->Hp->VK->Prop)(g:List D->Option D):Prop:=∀{Z}{H}{xs}{d}{vs}{O},WF Z H O->Reps R Z H xs vs O->g xs=some d ->
 ∀{Q},(∀{w}{Z'}{H'}{P},Go Z H O Z' H' P->Rep R Z' H' d w P->Q w H')->r vs H Q
inductive Out where
 | nx (ρ:Rh) | rt (d:D) (ρ:Rh) | bk (ρ:Rh) | ct (ρ:Rh)
abbrev FS:=Rh->Option Out
noncomputable def Out.thn:Out->FS->Option Out
 | .nx ρ,g=>g ρ
 | .rt d ρ,_=>some<|.rt d ρ
 | .bk ρ,_=>some<|.bk ρ
 | .ct ρ,_=>some<|.ct ρ
@[simp] def thn_nx(ρ)(g):(Out.nx ρ).thn g=g ρ:=rfl
@[simp] def thn_rt(d)(ρ)(g):(Out.rt d ρ).thn g=some (.rt d ρ):=rfl
@[simp] def thn_bk(ρ)(g):(Out.bk ρ).thn g=some (.bk ρ):=rfl
@[simp] def thn_ct(ρ)(g):(Out.ct ρ).thn g=some (.ct ρ):=rfl
noncomputable def Out.val:Out->Option D
 | .rt d _=>some d
 | .nx _=>some .non
 | _=>none
@[simp] def val_rt(d)(ρ):(Out.rt d ρ).val=some d:=rfl
@[simp] def val_nx(ρ):(Out.nx ρ).val=some .non:=rfl
noncomputable def Out.loop:Out->FS->Option Out
 | .nx ρ,g=>g ρ
 | .ct ρ,g=>g ρ
 | .bk ρ,_=>some<|.nx ρ
 | .rt d ρ,_=>some<|.rt d ρ
@[simp] def jcL(ρ)(g):(Out.nx ρ).loop g=g ρ:=rfl
@[simp] def loop_ct(ρ)(g):(Out.ct ρ).loop g=g ρ:=rfl
@[simp] def loop_bk(ρ)(g):(Out.bk ρ).loop g=some (.nx ρ):=rfl
@[simp] def loop_rt(d)(ρ)(g):(Out.rt d ρ).loop g=some (.rt d ρ):=rfl
abbrev PF:=Rh->Option D
noncomputable def pV(i:Nat):PF:=λρ=>match ρ[i]? with
 | some (some d)=>some d
 | _=>none
def VH(h:pV i ρ=some d):ρ[i]?=some (some d):=by
 unfold pV at h;split at h
 ·lia
 ·cases h
def Keep(pm:List Nat)(σ σ':St):Prop:=∀ i∈pm,σ'[i]?=σ[i]?
def OutOk(R:RC)(pm:List Nat)(Z:Zn)(H:Hp)(O:J9)(σ:St)(D':Ends):Out->Prop
 | .nx ρ'=>∀{σ'}{Z'}{H'}{O'},Go Z H O Z' H' O'->Slots R Z' H' ρ' σ' O'->Keep pm σ σ'->D'.nx σ' H'
 | .bk ρ'=>∀{σ'}{Z'}{H'}{O'},Go Z H O Z' H' O'->Slots R Z' H' ρ' σ' O'->Keep pm σ σ'->D'.bk σ' H'
 | .ct ρ'=>∀{σ'}{Z'}{H'}{O'},Go Z H O Z' H' O'->Slots R Z' H' ρ' σ' O'->Keep pm σ σ'->D'.ct σ' H'
 | .rt d ρ'=>∀{v}{σ'}{Z'}{H'}{P O'},Go Z H O Z' H' (P++O')->Rep R Z' H' d v P->Slots R Z' H' ρ' σ' O'->Keep pm σ σ'->D'.rt v H'
def DS(R:RC)(pm:List Nat)(ts:TS)(f:FS):Prop:=∀{σ}{ρ}{Z}{H}{O}{o},WF Z H O->Slots R Z H ρ σ O->f ρ=some o->∀{D'},OutOk R pm Z H O σ D' o->ts D' σ H
def DG(R:RC)(pm:List Nat)(tg:TG)(f:D->Rh->Option Rh):Prop:=∀{σ}{ρ ρ'}{Z}{H}{O P}{d}{v},WF Z H (P++O)->Rep R Z H d v P->Slots R Z H ρ σ O->f d ρ=some ρ' ->
 ∀{Q:St->Hp->Prop},(∀{σ'}{Z'}{H'}{O'},Go Z H (P++O) Z' H' O'->Slots R Z' H' ρ' σ' O'->Keep pm σ σ'->Q σ' H')->tg v σ H Q
def Keep.refl(pm)(σ):Keep pm σ σ:=λ_ _=>rfl
def Keep.trans(h:Keep pm σ σ')(k:Keep pm σ' σ''):Keep pm σ σ'':=λi a=>(k i a).trans (h i a)
def Keep.set(h:i∉pm):Keep pm σ (σ.set i x):=λj a=>by
 have ne:i≠j:=λe=>h ∅;rw[List.getElem?_set,if_neg ne]
@[simp] def dMv(i:Nat)(ρ:Rh):Option (D×Rh):=(pV i ρ).bind λd=>some (d,ρ.set i none)
def jmY:DE R (Jt i) (dMv i):=by
 intro σ ρ o Z H O d w h e Q k;refine ob e λc f e=>?_;have f:=VH f;obtain⟨A,P,B,rfl,l,p,m⟩:=h.put (L9.mp f).1;obtain⟨v,n,r⟩:=l c f;cases e;refine⟨v,n,k ((Go.refl w).drop (λa q=>?_) ?_) r m⟩
 ·simp at q ⊢;rcases q with q | q | q<;>simp[q]
 ·have nd:=w.nd;simp only[X8,N4] at nd ⊢;exact⟨nd.1.2.1,⟨nd.1.1,nd.2.1,λa g b j=>nd.2.2 a (.inl g) b j⟩,λa g b j e=>j.elim (λq=>nd.1.2.2 b q a g e.symm) λq=>nd.2.2 a (.inr g) b q e⟩
def jbm(c:Go Z H O Z' H'<|P1++O1)(b:Go Z' H' O1 Z'' H''<|P2++O2):Go Z H O Z'' H'' (P1++(P2++O2))/\(∀ a,Z' a->Z'' a)/\(∀ a,Z' a->H'' a=H' a)/\∀ a∈P1,H'' a=H' a:=by
 have w:WF Z' H' (P1++O1++[]):=by simpa using c.wf
 refine⟨c.trans<|by simpa using(b.frame w),b.zz,(b.zH c.wf.right),(Go.keepA w b).1⟩
@[simp] def dOp(g:D->D->Option D)(fa:FE)(fb:FE)(ρ:Rh):Option (D×Rh):=(fa ρ).bind λr=>(fb r.2).bind λt=>(g r.1 t.1).bind λz=>some (z,t.2)
def jdy(o:DO R r g)(q:DE R ta fa)(s:DE R tb fb):DE R (tOp r ta tb) (dOp g fa fb):=by
 intro σ ρ J Z H O d w h e Q k;refine ob e λp t e=>?_;obtain⟨x,K⟩:=p;refine ob e λp e2 e=>?_;obtain⟨y,L⟩:=p;refine ob e λz e3 e=>?_;cases e;refine q w h t λ{v M N c P} f A B=>(s f.wf.right B e2 λ{u i j l m} C D E=>?_);obtain⟨g3,zz,F,G⟩:=jbm f C;have a:Go Z H O i j (c++l++m):=by simpa using g3
 refine o a.wf.left (A.frame zz F G) D e3 λ{S Z3 T U} b I=>?_;have n:WF i j ([]++(c++l)++m):=by simpa using a.wf
 refine k (a.trans<|by simpa using(b.frame n)) I<|E.frame b.zz (b.zH a.wf.left) (Go.keepA n b).2
@[simp] def YG(ρ:Rh):Option (List D×Rh):=some ([],ρ)
@[simp] def jT(fa:FE)(fr:FA)(ρ:Rh):Option (List D×Rh):=(fa ρ).bind λx=>(fr x.2).bind λy=>some (x.1::y.1,y.2)
def jka:DA R Jl YG:=by
 intro σ ρ a Z H O d w h e Q k;cases e;exact k (Go.refl w) Reps.empty h
def jgm(b:DE R ta fa)(c:DA R tr fr):DA R (vq ta tr) (jT fa fr):=by
 intro σ ρ q Z H O d w h e Q k;refine ob e λp f e=>?_;obtain⟨x,r⟩:=p;refine ob e λp e2 e=>?_;obtain⟨xs,s⟩:=p;cases e;refine b w h f λ{v t u y z} a g i=>(c a.wf.right i e2 λ{A B C D E} j l m=>?_);obtain⟨g3,zz,n,o⟩:=jbm a j;exact k ⇑g3 (.cons (g.frame zz n o) l) m
noncomputable def dCB(g:List D->Option D)(fa:FA):FE:=λρ=>(fa ρ).bind λp5=>(g p5.1).bind λz=>some (z,p5.2)
def jlM(f:DC R r g)(i:DA R ta fa):DE R (tCB r ta) (dCB g fa):=by
 intro σ ρ u Z H O d w h e Q k;refine ob e λp j e=>?_;obtain⟨x,y⟩:=p;refine ob e λz e3 e=>?_;cases e;refine i w h j λ{v l m n o} a q s=>(f a.wf.left q e3 λ{A Z3 B C} b t=>?_);have c:WF l m ([]++n++o):=by simpa using a.wf
 refine k (a.trans<|by simpa using(b.frame c)) t<|s.frame b.zz (b.zH a.wf.left) (Go.keepA c b).2
def uG(fa:FA):FE:=dCB (λxs=>bif decide (xs.length<=1000) then some (.tup xs) else none) fa
def jbx(h:n<=1000):n<=sizeLine:=Nat.le_of_lt<|jbM h
def Rep.tupNew(w:WF Z H O)(hp:H p=none)(r:Reps R Z H l vs O):Rep R (λa=>Z a\/a=p) (upd H p<|.tup vs) (.tup l) (.ref p) O:=by
 have ne:∀ a,H a≠none->a≠p:=λa h e=>h<|e▸hp;exact⟨p,vs,rfl,.inl ⟨.inr rfl,.inl jV⟩,r.frame (λa z=>.inl z) (λa z=>ji<|ne a<|w.zd a z) λa h=>ji<|ne a<|w.od a h⟩
def Rep.lstNew(w:WF Z H O)(hp:H p=none)(r:Reps R Z H l vs O):Rep R Z (upd H p<|.lst vs) (.lst true l) (.ref p) (p::O):=by
 have ne:∀ a,H a≠none->a≠p:=λa h e=>h<|e▸hp;exact⟨p,vs,O,rfl,r.frame (λa z=>z) (λa z=>ji<|ne a<|w.zd a z) λa h=>ji<|ne a<|w.od a h,jV,rfl⟩
def jjy(c:DA R ta fa):DE R (jlp ta) (uG fa):=by
 refine jlM ?_ c;intro Z H xs d vs O w r e Q k;dsimp only at e;by_cases a:xs.length<=1000
 ·rw[X9 a,cond_true] at e;cases e;exact⟨by rw[r.length];exact jbx a,λp b=>k (Go.newF w b)<|Rep.tupNew w b r⟩
 ·lia
noncomputable def jaG(fa:FE):FT':=λρ=>match fa ρ with
 | some (.bl b,ρ1)=>some (b,ρ1)
 | _=>none
def Rep.bl_of(r:Rep R Z H (.bl b) v O):v=.bl b/\O=[]:=by rw[Rep] at r;exact r
def jhV(a:DE R ta fa):DT R (zJ ta) (jaG fa):=by
 intro σ ρ j Z H O b w h e Q k;unfold jaG at e;split at e
 ·rename_i c l d;cases e;refine a w h d λ{v m n o p} f g i=>?_;obtain⟨rfl,rfl⟩:=g.bl_of;exact⟨b,rfl,k f i⟩
 ·cases e
noncomputable def dOr(fa fb:FT'):FT':=λρ=>(fa ρ).bind λp9=>bif p9.1 then some (true,p9.2) else fb p9.2
def jmA(f:DT R ta fa)(g:DT R tb fb):DT R (tOr ta tb) (dOr fa fb):=by
 intro σ ρ m Z H O b w h e Q k;refine ob e λp i e=>?_;obtain⟨c,n⟩:=p;refine f w h i λ{o q r} a d=>?_;cases c with
 | true=>cases e;exact jdp<|k a d
 | false=>exact jeG<|g a.wf d e λ{s t u} j l=>k (a.trans j) l
def Rep.bl_mk:Rep R Z H (.bl b) (.bl b) []:=by rw[Rep];exact⟨rfl,rfl⟩
def OutOk.pre(g:Go Z H O Z1 H1 O1)(kp:Keep pm σ σ1)(k:OutOk R pm Z H O σ D' o):OutOk R pm Z1 H1 O1 σ1 D' o:=by
 cases o with
 | nx ρ=>exact λa b c=>k (g.trans a) b<|kp.trans c
 | bk ρ=>exact λa b c=>k (g.trans a) b<|kp.trans c
 | ct ρ=>exact λa b c=>k (g.trans a) b<|kp.trans c
 | rt d ρ=>exact λa e b c=>k (g.trans a) e b<|kp.trans c
@[simp] def jn(ρ:Rh):Option Out:=some<|.nx ρ
noncomputable def jj(f g:FS):FS:=λρ=>match f ρ with
 | some (.nx ρ1)=>g ρ1
 | o=>o
@[simp] def jfN:jj f g ρ=(f ρ).bind λo=>o.thn g:=by
 unfold jj;cases h:f ρ with
 | none=>rfl
 | some o=>cases o<;>rfl
def jhJ:DS R pm jhX jn:=by
 intro σ ρ Z H O o w h e a k;cases e;exact k (Go.refl w) h<|Keep.refl _ _
def ji2(c:DS R pm t f)(i:DS R pm u g):DS R pm (jjr t u) (jj f g):=by
 intro σ ρ Z H O o w h e p k;rw[jfN] at e;refine ob e λj l e=>c w h l ?_;cases j with
 | nx a=>exact λ{q r s v} b m n=>i b.wf m e<|k.pre b n
 | bk a=>cases e;exact k
 | ct a=>cases e;exact k
 | rt d a=>cases e;exact k
@[simp] def sBreak(ρ:Rh):Option Out:=some<|.bk ρ
@[simp] def sCont(ρ:Rh):Option Out:=some<|.ct ρ
@[simp] def xT(fe:FE)(ρ:Rh):Option Out:=(fe ρ).bind λx=>some<|.nx x.2
def jhH(a:DE R ta fa):DS R pm (qL ta) (xT fa):=by
 intro σ ρ Z H O o w h e f k;refine ob e λp b e=>?_;obtain⟨x,g⟩:=p;cases e;exact a w h b λc i d=>k c.dropL d<|Keep.refl _ _
@[simp] def jS(fe:FE)(ρ:Rh):Option Out:=(fe ρ).bind λx=>some<|.rt x.1 x.2
def jll(a:DE R ta fa):DS R pm (jkf ta) (jS fa):=by
 intro σ ρ Z H O o w h e g k;refine ob e λp b e=>?_;obtain⟨x,i⟩:=p;cases e;exact a w h b λc d f=>k c d f<|Keep.refl _ _
@[simp] def jeK(ρ:Rh):Option Out:=some<|.rt .non ρ
def jhf:DS R pm jg6 jeK:=by
 intro σ ρ Z H O o w h e a k;cases e;exact k (Go.refl w) (by rw[Rep];exact⟨rfl,rfl⟩) h<|Keep.refl _ _
@[simp] def sIf(ft:FT')(f:FS)(g:FS)(ρ:Rh):Option Out:=(ft ρ).bind λx=>bif x.1 then f x.2 else g x.2
def jks(d:DT R tt ft)(i:DS R pm t f)(j:DS R pm u g):DS R pm (jl2 tt t u) (sIf ft f g):=by
 intro σ ρ Z H O o w h e m k;refine ob e λp l e=>?_;obtain⟨c,n⟩:=p;refine d w h l λ{q r s} a b=>?_;cases c with
 | true=>exact jdp<|i a.wf b e<|k.pre a<|Keep.refl _ _
 | false=>exact jeG<|j a.wf b e<|k.pre a<|Keep.refl _ _
@[simp] def qf(ρ:Rh):Option Out:=none
def jd5:DS R pm jc4 qf:=by
 intro σ ρ Z H O o w h e a k;cases e
@[simp] def jl(pm:List Nat)(i:Nat)(d:D)(ρ:Rh):Option Rh:=bif decide (i<ρ.length)&&!decide (i∈pm) then some (ρ.set i<|some d) else none
def Qb:DG R pm (Va i) (jl pm i):=by
 intro σ ρ m Z H O P d v w r h e Q k;unfold jl at e;by_cases g:i<ρ.length
 ·by_cases j:i∈pm
  ·lia
  ·rw[X9 g,E1 j] at e;cases e;obtain⟨A,n,B,rfl,o,l,p⟩:=h.put g;refine k ((Go.refl w).drop (λa q=>?_) ?_) (l r (λ_ z=>z) (λ_ _=>rfl) (λ_ _=>rfl)<|λ_ _=>rfl)<|Keep.set j
   ·simp at q ⊢;rcases q with q | q | q<;>simp[q]
   ·have nd:=w.nd;simp only[X8,N4] at nd ⊢;exact⟨⟨nd.2.1.1.1,nd.1,λa f b c e=>nd.2.2 b c a (.inl<|.inl f) e.symm⟩,nd.2.1.2.1,λa f b c e=>f.elim (λq=>nd.2.1.2.2 a (.inl q) b c e) λq=>nd.2.2 a q b (.inr c) e⟩
 ·lia
@[simp] def yB(fe:FE)(G:D->Rh->Option Rh)(ρ:Rh):Option Out:=(fe ρ).bind λx=>(G x.1 x.2).bind λr=>some<|.nx r
def uO(b:DE R ta fa)(c:DG R pm tg g):DS R pm (jdn ta tg) (yB fa g):=by
 intro σ ρ Z H O o w h e n k;refine ob e λp d e=>?_;obtain⟨x,q⟩:=p;refine ob e λr e2 e=>?_;cases e;exact b w h d λa f i=>c a.wf f i e2 λj l m=>k (Go.trans a j) l m
noncomputable def gN:List D->Rh->Option Rh:=λds ρ=>match ds with
 | []=>some ρ
 | _=>none
noncomputable def gC(g:D->Rh->Option Rh)(gs:List D->Rh->Option Rh):List D->Rh->Option Rh:=λds ρ=>match ds with
 | []=>none
 | d::r=>(g d ρ).bind λρ1=>gs r ρ1
noncomputable def gT(n:Nat)(gs:List D->Rh->Option Rh):D->Rh->Option Rh:=λd ρ=>match d with
 | .tup l=>bif decide (l.length=n) then gs l ρ else none
 | _=>none
abbrev PTf:=Rh->Option Bool
abbrev PAf:=Rh->Option (List D)
mutual
theorem Rep.dom:∀{d:D}{v:V}{O:J9},Rep R Z H d v O->∀ a∈O,H a≠none
 | .non,_,_,h,a,ha=>by rw[Rep] at h;rw[h.2] at ha;cases ha
 | .bl _,_,_,h,a,ha=>by rw[Rep] at h;rw[h.2] at ha;cases ha
 | .int _,_,_,h,a,ha=>by rw[Rep] at h;rw[h.2] at ha;cases ha
 | .str _,_,_,h,a,ha=>by rw[Rep] at h;rw[h.2] at ha;cases ha
 | .dead,_,_,h,a,ha=>by rw[Rep] at h;rw[h] at ha;cases ha
 | .tok _,_,_,h,a,ha=>by rw[Rep] at h;rw[h.2] at ha;cases ha
 | .kt _,_,_,h,a,ha=>by rw[Rep] at h;obtain⟨_,_,_,_,h⟩:=h;rw[h] at ha;cases ha
 | .exc _ _,_,_,h,a,ha=>by rw[Rep] at h;obtain⟨_,_,_,_,_,_,_,h⟩:=h;rw[h] at ha;cases ha
 | .tup l,_,_,h,a,ha=>by
  rw[Rep] at h;obtain⟨b,vs,e,t,r⟩:=h;exact Reps.dom r a ha
 | .lst o l,_,_,h,a,ha=>by
  rw[Rep] at h;obtain⟨b,vs,O',e,r,h⟩:=h;cases o with
  | true=>
   obtain⟨h1,rfl⟩:=h;rcases M4.mp ha with e | e
   ·rw[e,h1];exact λz=>(nomatch z)
   ·exact Reps.dom r a e
  | false=>rw[h.2.2] at ha;cases ha
 | .dK o ks l,_,_,h,a,ha=>by
  rw[Rep] at h;obtain⟨b,vs,O',e,r,hl,hd,h⟩:=h;cases o with
  | true=>
   have h:=(show _=_ from h);subst h;rcases M4.mp ha with e | e
   ·rw[e,hd];exact λz=>(nomatch z)
   ·exact Reps.dom r a e
  | false=>rw[h.2.2] at ha;cases ha
 | .dT o ks l,_,_,h,a,ha=>by
  rw[Rep] at h;obtain⟨b,vs,O',e,r,hl,hd,h⟩:=h;cases o with
  | true=>
   have h:=(show _=_ from h);subst h;rcases M4.mp ha with e | e
   ·rw[e,hd];exact λz=>(nomatch z)
   ·exact Reps.dom r a e
  | false=>rw[h.2.2] at ha;cases ha
 | .ins o c ns l,_,_,h,a,ha=>by
  rw[Rep] at h;obtain⟨b,dx,vs,O',e,r,hl,hd,h⟩:=h;cases o with
  | true=>
   have h:=(show _=_ from h);subst h;rcases M4.mp ha with e | e
   ·rw[e,hd];exact λz=>(nomatch z)
   ·exact Reps.dom r a e
  | false=>rw[h.2.2] at ha;cases ha
theorem Reps.dom:∀{l:List D}{vs:List V}{O:J9},Reps R Z H l vs O->∀ a∈O,H a≠none
 | [],_,_,h,a,ha=>by rw[Reps] at h;rw[h.2] at ha;cases ha
 | d::l,_,_,h,a,ha=>by
  rw[Reps] at h;obtain⟨v,vs,O1,O2,e,rfl,r1,r2⟩:=h;rcases N4.mp ha with q | q
  ·exact Rep.dom r1 a q
  ·exact Reps.dom r2 a q
end
theorem Slots.dom:∀{ρ}{σ}{O},Slots R Z H ρ σ O->∀ a∈O,H a≠none
 | [],_,_,h,a,b=>by rw[h.2] at b;cases b
 | none::ρ,_,_,h,a,b=>by obtain⟨s,c,rfl,r⟩:=h;exact Slots.dom r a b
 | some d::ρ,_,_,h,a,b=>by
  obtain⟨v,c,g,i,rfl,rfl,e,f⟩:=h;rcases N4.mp b with q | q
  ·exact e.dom a q
  ·exact Slots.dom f a q
abbrev Zd(Z:Zn)(H:Hp):Prop:=∀ a,Z a->H a≠none
def wf0(z:Zd Z H):WF Z H []:=⟨List.nodup_nil,λa h=>(nomatch h),λa h=>(nomatch h),z⟩
def Go.id(z:Zd Z H):Go Z H [] Z H []:=Go.refl<|wf0 z
def Go.same(g:Go Z H [] Z' H' P):∀ a,H a≠none->H' a=H a:=λa h=>g.fr a h<|λz=>(nomatch z)
def Go.rep(z:Zd Z H)(g:Go Z H [] Z' H' P)(r:Rep R Z H d v O):Rep R Z' H' d v O:=r.frame g.zz (λa h=>g.same a<|z a h) λa h=>g.same a<|r.dom a h
def Go.reps(z:Zd Z H)(g:Go Z H [] Z' H' P)(r:Reps R Z H l vs O):Reps R Z' H' l vs O:=r.frame g.zz (λa h=>g.same a<|z a h) λa h=>g.same a<|r.dom a h
def Go.slots(z:Zd Z H)(g:Go Z H [] Z' H' P)(r:Slots R Z H ρ σ O):Slots R Z' H' ρ σ O:=r.frame g.zz (λa h=>g.same a<|z a h) λa h=>g.same a<|r.dom a h
def Go.pair(g:Go Z H [] Z' H' P)(k:Go Z' H' [] Z'' H'' P2):Go Z H [] Z'' H'' (P++P2):=by
 have w:WF Z' H' (P++[]++[]):=by simpa using g.wf
 exact g.trans (by simpa using(k.frame w))
def Go.to0(g:Go Z H O Z' H' P):Go Z H O Z' H' []:=g.drop (λa h=>(nomatch h)) List.nodup_nil
def Go.widen(w:WF Z H O)(g:Go Z H [] Z' H' P):Go Z H O Z' H' (P++O):=by
 simpa using(g.frame (A:=[]) ⇑w)
def PP(R:RC)(te:TE)(p:PF):Prop:=∀{σ}{ρ}{Z}{H}{O}{d},Zd Z H->Slots R Z H ρ σ O->p ρ=some d ->
 ∀{Q},(∀{v}{Z'}{H'}{P},Go Z H [] Z' H' P->Rep R Z' H' d v P->Q v H')->te σ H Q
def PB(R:RC)(te:TE)(p:PF):Prop:=∀{σ}{ρ}{Z}{H}{O}{d},Zd Z H->Slots R Z H ρ σ O->p ρ=some d ->
 ∀{Q},(∀{v}{Z'}{H'}{P},Go Z H [] Z' H' []->Rep R Z' H' d v P->Q v H')->te σ H Q
def PPs(R:RC)(ta:TA)(p:PAf):Prop:=∀{σ}{ρ}{Z}{H}{O}{ds},Zd Z H->Slots R Z H ρ σ O->p ρ=some ds ->
 ∀{Q:List V->Hp->Prop},(∀{vs}{Z'}{H'}{P},Go Z H [] Z' H' P->Reps R Z' H' ds vs P->Q vs H')->ta σ H Q
def PBs(R:RC)(ta:TA)(p:PAf):Prop:=∀{σ}{ρ}{Z}{H}{O}{ds},Zd Z H->Slots R Z H ρ σ O->p ρ=some ds ->
 ∀{Q:List V->Hp->Prop},(∀{vs}{Z'}{H'}{P},Go Z H [] Z' H' []->Reps R Z' H' ds vs P->Q vs H')->ta σ H Q
def PTt(R:RC)(tt:TT)(p:PTf):Prop:=∀{σ}{ρ}{Z}{H}{O}{b},Zd Z H->Slots R Z H ρ σ O->p ρ=some b ->
 ∀{Q:Bool->Hp->Prop},(∀{Z'}{H'},Go Z H [] Z' H' []->Q b H')->tt σ H Q
def PP.b(h:PP R te p):PB R te p:=λz s e _ k=>h z s e λg r=>k g.to0 r
def PPs.b(h:PPs R te p):PBs R te p:=λz s e _ k=>h z s e λg r=>k g.to0 r
@[simp] def pF(pa:PF)(ρ:Rh):Option D:=(pa ρ).bind λd=>bif frz d then some d else none
def PB.f(h:PB R te p):PP R te (pF p):=by
 intro σ ρ Z H O d z s e Q k;refine ob e λc a e=>oc e λb e=>?_;cases e;exact h z s a λg r=>by
  cases r.nil b;exact k g r
@[simp] def dP(pa:PF)(ρ:Rh):Option (D×Rh):=(pa ρ).bind λd=>some (d,ρ)
@[simp] def dPT(q:PTf)(ρ:Rh):Option (Bool×Rh):=(q ρ).bind λd=>some (d,ρ)
theorem PP.d(h:PP R te p):DE R te (dP p):=by
 intro σ ρ b Z H O d w s e Q k;refine ob e λc a e=>?_;cases e;exact h w.zd s a λg r=>k (g.widen w) r<|g.slots w.zd s
theorem PTt.d(h:PTt R te p):DT R te (dPT p):=by
 intro σ ρ b Z H O d w s e Q k;refine ob e λc a e=>?_;cases e;exact h w.zd s a λg=>k ⇑(g.widen w) (g.slots w.zd s)
@[simp] def pC(d:D)(ρ:Rh):Option D:=some d
abbrev pI(i:Int):PF:=pC<|.int i
abbrev pS(l:List Nat):PF:=pC<|.str l
def jlm:PB R (Jt i) (pV i):=by
 intro σ ρ Z H O d z s e Q k;unfold pV at e;split at e
 ·rename_i c a;cases e;obtain⟨A,P,B,rfl,b,_⟩:=s.put (L9.mp a).1;obtain⟨v,f,r⟩:=b d a;exact⟨v,f,k (Go.id z) r⟩
 ·cases e
def jhN(a:∀ Z H,Rep R Z H d v []):PP R (tC v) (pC d):=by
 intro σ ρ Z H O b z s e Q k;cases e;exact k (Go.id z)<|a Z H
def Rep.int_mk:Rep R Z H (.int i) (.int i) []:=by rw[Rep];exact⟨rfl,rfl⟩
def Rep.str_mk:Rep R Z H (.str s) (.str<|S s) []:=by rw[Rep];exact⟨rfl,rfl⟩
def Rep.non_mk:Rep R Z H .non .non []:=by rw[Rep];exact⟨rfl,rfl⟩
def Rep.int_of(r:Rep R Z H (.int i) v O):v=.int i/\O=[]:=by rw[Rep] at r;exact r
def Rep.str_of(r:Rep R Z H (.str s) v O):v=.str (S s)/\O=[]:=by rw[Rep] at r;exact r
def Rep.non_of(r:Rep R Z H .non v O):v=.non/\O=[]:=by rw[Rep] at r;exact r
def BO(R:RC)(r:R2)(g:D->D->Option D):Prop:=∀{Z}{H}{x y d}{v u}{O1 O2},Zd Z H->Rep R Z H x v O1->Rep R Z H y u O2->g x y=some d ->
 ∀{Q},(∀{w}{Z'}{H'}{P},Go Z H [] Z' H' P->Rep R Z' H' d w P->Q w H')->r v u H Q
def BO'(R:RC)(r:R2)(g:D->D->Option D):Prop:=∀{Z}{H}{x y d}{v u}{O1 O2},Zd Z H->Rep R Z H x v O1->Rep R Z H y u O2->g x y=some d ->
 ∀{Q},(∀{w}{P},Rep R Z H d w P->Q w H)->r v u H Q
def BU(R:RC)(r:V->Hp->VK->Prop)(g:D->Option D):Prop:=∀{Z}{H}{x d}{v}{O},Zd Z H->Rep R Z H x v O->g x=some d ->
 ∀{Q},(∀{w}{Z'}{H'}{P},Go Z H [] Z' H' P->Rep R Z' H' d w P->Q w H')->r v H Q
def BC(R:RC)(r:List V->Hp->VK->Prop)(g:List D->Option D):Prop:=∀{Z}{H}{xs}{d}{vs}{O},Zd Z H->Reps R Z H xs vs O->g xs=some d ->
 ∀{Q},(∀{w}{Z'}{H'}{P},Go Z H [] Z' H' P->Rep R Z' H' d w P->Q w H')->r vs H Q
@[simp] def p2(G:D->D->Option D)(pa:PF)(pb:PF)(ρ:Rh):Option D:=(pa ρ).bind λx=>(pb ρ).bind λy=>G x y
@[simp] def p1(G:D->Option D)(pa:PF)(ρ:Rh):Option D:=(pa ρ).bind G
def Kf(c:BO R r g)(f:PB R ta pa)(h:PB R tb pb):PP R (tOp r ta tb) (p2 g pa pb):=by
 intro σ ρ Z H O d z s e Q k;exact ob e λx i e=>ob e λy e2 e=>(f z s i λ{v n o p} a j=>(h a.wf.zd (a.slots z s) e2 λ{u q t w} b l=>(c b.wf.zd (b.rep a.wf.zd j) l e λg3 m=>k ((a.pair b).pair g3) m)))
def jnG(c:BO' R r g)(f:PB R ta pa)(h:PB R tb pb):PB R (tOp r ta tb) (p2 g pa pb):=by
 intro σ ρ Z H O d z s e Q k;exact ob e λx i e=>ob e λy e2 e=>(f z s i λ{v m n o} a j=>(h a.wf.zd (a.slots z s) e2 λ{u p q t} b l=>(c b.wf.zd (b.rep a.wf.zd j) l e<|k<|a.pair b)))
def jmv(b:BU R r g)(c:PB R ta pa):PP R (tUn r ta) (p1 g pa):=by
 intro σ ρ Z H O d z s e Q k;exact ob e λx f e=>(c z s f λ{v j l m} a h=>b a.wf.zd h e λg3 i=>k ⇑(a.pair g3) i)
@[simp] def pN(ρ:Rh):Option (List D):=some []
@[simp] def ja(pa:PF)(p:PAf)(ρ:Rh):Option (List D):=(pa ρ).bind λx=>(p ρ).bind λxs=>some<|x::xs
def pps_nil:PPs R Jl pN:=by
 intro σ ρ Z H O d z s e Q k;cases e;exact k (Go.id z) Reps.empty
def je5(c:PP R ta pa)(f:PPs R tr pr):PPs R (vq ta tr) (ja pa pr):=by
 intro σ ρ Z H O d z s e Q k;refine ob e λx g e=>ob e λxs e2 e=>?_;cases e;exact c z s g λ{v j l m} a h=>(f a.wf.zd (a.slots z s) e2 λ{u n o p} b i=>(k (a.pair b)<|.cons (b.rep a.wf.zd h) i))
def xV:PBs R Jl pN:=pps_nil.b
def jfd(c:PB R ta pa)(f:PBs R tr pr):PBs R (vq ta tr) (ja pa pr):=by
 intro σ ρ Z H O d z s e Q k;refine ob e λx g e=>ob e λxs e2 e=>?_;cases e;exact c z s g λ{v j l m} a h=>(f a.wf.zd (a.slots z s) e2 λ{u n o p} b i=>(k (a.pair b)<|.cons (b.rep a.wf.zd h) i))
@[simp] def pCB(G:List D->Option D)(p:PAf)(ρ:Rh):Option D:=(p ρ).bind G
def jlz(b:BC R r g)(c:PBs R ta pa):PP R (tCB r ta) (pCB g pa):=by
 intro σ ρ Z H O d z s e Q k;exact ob e λx f e=>(c z s f λ{v j l m} a h=>b a.wf.zd h e λg3 i=>k ⇑(a.pair g3) i)
noncomputable def lim(n:Nat):Bool:=decide<|n<=100000
def qN(h:lim n=true):n<=sizeLine:=N9 (E2 h) (by decide)
def zT(h:lim n=true):n<sizeLine:=E8 (E2 h) (by decide)
@[simp] def kC(p:PAf)(ρ:Rh):Option D:=(p ρ).bind λxs=>bif lim xs.length then some (.tup xs) else none
@[simp] def kF(p:PAf)(ρ:Rh):Option D:=(p ρ).bind λxs=>bif lim xs.length then some (.lst true xs) else none
def jlG(f:PPs R ta pa):PP R (jlp ta) (kC pa):=by
 intro σ ρ Z H O d z s e Q k;refine ob e λxs g e=>oc e λh e=>?_;cases e;exact f z s g λ{v i j l} a b=>⟨by rw[b.length];exact qN h,λp c=>k (a.trans<|Go.newF a.wf c)<|Rep.tupNew a.wf c b⟩
def jkz(f:PPs R ta pa):PP R (jnT ta) (kF pa):=by
 intro σ ρ Z H O d z s e Q k;refine ob e λxs g e=>oc e λh e=>?_;cases e;exact f z s g λ{v i j l} a b=>⟨by rw[b.length];exact qN h,λp c=>k (a.trans<|Go.newO a.wf c)<|Rep.lstNew a.wf c b⟩
@[simp] def jd(pa:PF)(ρ:Rh):Option Bool:=(pa ρ).bind jfq
@[simp] def xE(q:PTf)(q':PTf)(ρ:Rh):Option Bool:=(q ρ).bind λb=>bif b then q' ρ else some false
@[simp] def qOr(q:PTf)(q':PTf)(ρ:Rh):Option Bool:=(q ρ).bind λb=>bif b then some true else q' ρ
@[simp] def jdo(q:PTf)(ρ:Rh):Option Bool:=(q ρ).bind λb=>some<|!b
def Qz(a:PB R ta pa):PTt R (zJ ta) (jd pa):=by
 intro σ ρ Z H O b z s e Q k;refine ob e λx c e=>?_;cases Vt e;refine a z s c λ{v g h i} d f=>?_;obtain⟨rfl,rfl⟩:=f.bl_of;exact⟨b,rfl,k d⟩
def ji9(d:PTt R ta pa)(f:PTt R tb pb):PTt R (jmo ta tb) (xE pa pb):=by
 intro σ ρ Z H O b z s e Q k;refine ob e λc g e=>(d z s g λ{i j} a=>?_);cases c with
 | true=>exact jdp<|f a.wf.zd (a.slots z s) e λh=>k<|a.pair h
 | false=>cases e;exact jeG<|k a
def jm6(d:PTt R ta pa)(f:PTt R tb pb):PTt R (tOr ta tb) (qOr pa pb):=by
 intro σ ρ Z H O b z s e Q k;refine ob e λc g e=>(d z s g λ{i j} a=>?_);cases c with
 | true=>cases e;exact jdp<|k a
 | false=>exact jeG<|f a.wf.zd (a.slots z s) e λh=>k<|a.pair h
def jhi(a:PTt R ta pa):PTt R (jnD ta) (jdo pa):=by
 intro σ ρ Z H O b z s e Q k;refine ob e λc d e=>?_;cases e;exact a z s d λ{g h} f=>k f
@[simp] def jci(pa:PF)(pb:PF)(ρ:Rh):Option D:=(pa ρ).bind λd=>(jfq d).bind λb=>bif b then pb ρ else some (.bl false)
@[simp] def pOr(pa:PF)(pb:PF)(ρ:Rh):Option D:=(pa ρ).bind λd=>(jfq d).bind λb=>bif b then some (.bl true) else pb ρ
@[simp] def jfU(pa:PF)(ρ:Rh):Option D:=(pa ρ).bind λd=>(jfq d).bind λb=>some<|.bl<|!b
def jkW(b:PB R ta pa)(f:PP R tb pb):PP R (jfW ta tb) (jci pa pb):=by
 intro σ ρ Z H O d z s e Q k;refine ob e λx g e=>ob e λc e2 e=>?_;cases Vt e2;refine b z s g λ{v l m n} a h=>?_;obtain⟨rfl,rfl⟩:=h.bl_of;refine⟨c,rfl,?_⟩;cases c with
 | true=>exact jdp<|f a.wf.zd (a.slots z s) e λi j=>k ⇑(a.pair i) j
 | false=>cases e;exact jeG<|k a .bl_mk
def jnQ(b:PB R ta pa)(f:PP R tb pb):PP R (jm1 ta tb) (pOr pa pb):=by
 intro σ ρ Z H O d z s e Q k;refine ob e λx g e=>ob e λc e2 e=>?_;cases Vt e2;refine b z s g λ{v l m n} a h=>?_;obtain⟨rfl,rfl⟩:=h.bl_of;refine⟨c,rfl,?_⟩;cases c with
 | true=>cases e;exact jdp<|k a .bl_mk
 | false=>exact jeG<|f a.wf.zd (a.slots z s) e λi j=>k ⇑(a.pair i) j
def jiN(a:PB R ta pa):PP R (jgJ ta) (jfU pa):=by
 intro σ ρ Z H O d z s e Q k;refine ob e λx b e=>ob e λc e2 e=>?_;cases Vt e2;cases e;refine a z s b λ{v h i j} f g=>?_;obtain⟨rfl,rfl⟩:=g.bl_of;exact⟨c,rfl,k f .bl_mk⟩
@[simp] def pIf(q:PTf)(pa:PF)(pb:PF)(ρ:Rh):Option D:=(q ρ).bind λb=>bif b then pa ρ else pb ρ
def jnM(g:PTt R tt pt)(h:PP R ta pa)(i:PP R tb pb):PP R (tIf tt ta tb) (pIf pt pa pb):=by
 intro σ ρ Z H O d z s e Q k;refine ob e λc j e=>(g z s j λ{l m} a=>?_);cases c with
 | true=>exact jdp<|h a.wf.zd (a.slots z s) e λb f=>k ⇑(a.pair b) f
 | false=>exact jeG<|i a.wf.zd (a.slots z s) e λb f=>k ⇑(a.pair b) f
@[simp] def K3(G:D->D->Option D)(G':D->D->Option D)(pa:PF)(pb:PF)(pc:PF)(ρ:Rh):Option D:=(pa ρ).bind λx=>(pb ρ).bind λy=>(G x y).bind λd=>(jfq d).bind λb=>bif b then((pc ρ).bind λw=>G' y w) else some (.bl false)
def je2(m:BO R r g)(h:BO R r' g')(n:PB R ta pa)(o:PB R tb pb)(p:PB R tc pc):PP R (jdg r r' ta tb tc) (K3 g g' pa pb pc):=by
 intro σ ρ Z H O d z s e Q k;refine ob e λx t e=>ob e λy e2 e=>(n z s t λ{v G I J} c w=>(o c.wf.zd (c.slots z s) e2 λ{u K L M} f j=>(ob e λq e3 e=>ob e λb A l=>?_)));cases Vt A;refine m f.wf.zd (f.rep c.wf.zd w) j e3 λ{N Z3 P S} g3 B=>?_;obtain⟨rfl,rfl⟩:=B.bl_of;have a:=(c.pair f).pair g3;refine⟨b,rfl,?_⟩;cases b with
 | false=>cases l;exact jeG<|k ⇑a .bl_mk
 | true=>
  exact jdp<|ob l λT C e=>(p g3.wf.zd (a.slots z s) C λ{U V W X} i D=>(h i.wf.zd (i.rep g3.wf.zd<|g3.rep f.wf.zd j) D e λE F=>k (by simpa using(a.pair i).pair E) F))
def jik(R:RC)(J:It)(Z:Zn)(H:Hp)(xs:List D):Prop:=∀{Z1}{H1},(∀ a,Z a->Z1 a)->(∀ a,Z a->H1 a=H a)->Zd Z1 H1->∀ i:Nat,
 (xs.length<=i->J.stop i H1)/\∀ x,xs[i]?=some x->J.go i H1/\∀ u H2,J.yld i H1 u H2->∃ Z2,Go Z1 H1 [] Z2 H2 []/\Rep R Z2 H2 x u []
def PIt(R:RC)(wi:TI)(p:PAf):Prop:=∀{σ}{ρ}{Z}{H}{O}{xs},Zd Z H->Slots R Z H ρ σ O->p ρ=some xs ->
 ∀{Q:It->Hp->Prop},(∀{J}{Z'}{H'},Go Z H [] Z' H' []->jik R J Z' H' xs->Q J H')->wi σ H Q
def jjU(K:J4)(tl:TE):TI:=λσ H Q=>tl σ H λx H1=>
 (∃ a,x=.ref a/\(∃ xs,SqL K H1 a xs)/\Q (Itl K a) H1)\/(∃ a,x=.ref a/\(∃ xs,SqT K H1 a xs)/\Q (Itt K a) H1) \/ ∃ l,x=.str (S l)/\Q (Its l) H1
def jfF(hl:PE X l tl):PI X tg l (jjU X.K tl):=by
 intro d s σ H Q I h;have k:∀ v c,EP X d σ (λx g=>(∃ a,x=.ref a/\(∃ xs,SqL X.K g a xs)/\Q (Itl X.K a) g)\/(∃ a,x=.ref a/\(∃ xs,SqT X.K g a xs)/\Q (Itt X.K a) g) \/ ∃ l,x=.str (S l)/\Q (Its l) g) v c->wpAny (model X.prog X.w) X.A (pyIter v) (PIE X d σ tg Q) X.xe c:=by
  rintro v c ⟨x,g,f,m,z⟩;rcases z with⟨a,rfl,⟨xs,n⟩,q⟩ | ⟨a,rfl,⟨xs,n⟩,q⟩ | ⟨l,rfl,q⟩
  ·cases m;obtain⟨r,B,p,C⟩:=f.list n;refine wpAny_pyIter_list p.isList ⟨↥c,[↥c],_,_,g,rfl,f.kept λb o e=>L8 _ e,jbQ a _,⟨_,E7 _ rfl,rfl,rfl⟩,λb j=>?_,q⟩;have e:b=↥c:=by simpa using j
   subst e;exact f.fpOk (M9 _)<|f.hok.fresh<|M9 _
  ·cases m;obtain⟨r,B,p,C⟩:=f.tuple n;refine wpAny_pyIter_tuple (p) ⟨↥c,[↥c],_,_,g,rfl,f.kept λb o e=>L8 _ e,jaV a _,⟨_,E7 _ rfl,rfl,rfl⟩,λb j=>?_,q⟩;have e:b=↥c:=by simpa using j
   subst e;exact f.fpOk (M9 _)<|f.hok.fresh<|M9 _
  ·obtain⟨t,rfl⟩:=m;have fin:∀ ty,(ty = "str_ascii_iterator" \/ ty = "str_iterator")->(∀ A:Around,A.handled=none->Walks X.prog X.w A ↥c [↥c] [↥c] (S l).cps.size (SignAt<|S l) (λi h=>h.IsStrIter ↥c ty (S l) t i)) ->
     PIE X d σ tg Q (.ref ↥c) { c with heap:=c.heap.push {cls:=.type ty,data:=.fields #[.str (S l) t,.int 0 0]} }:=λty u W=>by
    refine⟨↥c,[↥c],_,_,g,rfl,f.kept λb o e=>L8 _ e,jea _ l t ty u W,⟨_,E7 _ rfl,rfl,rfl⟩,λb j=>?_,q⟩;have e:b=↥c:=by simpa using j
    subst e;exact f.fpOk (M9 _)<|f.hok.fresh<|M9 _
   cases ha:(S l).cps.all (· < 128)
   ·exact wpAny_pyIter_wide ha<|fin _ (.inr rfl) λD y=>Walks.strWide y _ (S l) t
   ·exact wpAny_pyIter_ascii ha<|fin _ (.inl rfl) λD y=>Walks.strAscii y _ (S l) t
 exact thn (hl d s σ H _ I h) k
def Qc:D->Option (List D)
 | .lst _ l=>some<|fzs l
 | .tup l=>some<|fzs l
 | .str s=>some<|s.map λc=>.str [c]
 | _=>none
@[simp] def pIt(pa:PF)(ρ:Rh):Option (List D):=(pa ρ).bind Qc
def jkX(h:FL R Z H a vs)(r:Reps R Z H l vs []):jik R (Itl R.K a) Z H l:=by
 intro j p d f zd i;have b:=(h.frame d f).sq;refine⟨λk=>⟨vs,b,by rw[r.length];exact k⟩,λx m=>?_⟩;obtain⟨v,g,n⟩:=(r.frame d f λa o=>(nomatch o)).item m;refine⟨⟨vs,v,b,g⟩,λu q c=>?_⟩;obtain⟨rfl,c⟩:=c;have e:=c vs b;rw[g] at e;cases e;exact⟨j,Go.id zd,n⟩
def jiR(h:FT R Z H a vs)(r:Reps R Z H l vs []):jik R (Itt R.K a) Z H l:=by
 intro j p d f zd i;have b:=(h.frame d f).sq;refine⟨λk=>⟨vs,b,by rw[r.length];exact k⟩,λx m=>?_⟩;obtain⟨v,g,n⟩:=(r.frame d f λa o=>(nomatch o)).item m;refine⟨⟨vs,v,b,g⟩,λu q c=>?_⟩;obtain⟨rfl,c⟩:=c;have e:=c vs b;rw[g] at e;cases e;exact⟨j,Go.id zd,n⟩
def jfz:jik R (Its s) Z H (s.map λc=>.str [c]):=by
 intro d h j k zd i;refine⟨λf=>by show s.length<=i;simpa using f,λx a=>?_⟩;rw[List.getElem?_map] at a;cases e:s[i]? with
 | none=>rw[e] at a;cases a
 | some c=>
  rw[e] at a;cases a;refine⟨(L9.mp e).1,λu l g=>?_⟩;obtain⟨rfl,m,b,rfl⟩:=g;rw[e] at b;cases b;exact⟨d,Go.id zd,.str_mk⟩
def Go.fz(g:Go Z H [] Z' H' P):Go Z H [] (λa=>Z' a\/a∈P) H' []:=g.trans<|Go.freeze g.wf
def jnf(h:PP R te p):PIt R (jjU R.K te) (pIt p):=by
 intro σ ρ Z H O xs z s e Q k;refine ob e λd j e=>(h z s j λ{v m q n} c g=>?_);have i:=g.freeze (Z':=λa=>m a\/a∈n) (λa z=>.inl z) λa z=>.inr z;cases d with
 | lst o l=>
  cases e;obtain⟨a,vs,r,rfl,f,b,rfl,_⟩:=i;exact .inl ⟨a,rfl,⟨vs,FL.sq b⟩,k c.fz<|jkX b f⟩
 | tup l=>
  cases e;obtain⟨a,vs,rfl,b,f⟩:=i;exact .inr<|.inl ⟨a,rfl,⟨vs,FT.sq b⟩,k c.fz<|jiR b f⟩
 | str t=>
  cases e;obtain⟨rfl,rfl⟩:=g.str_of;exact .inr<|.inr ⟨t,rfl,k c jfz⟩
 | _=>cases e
noncomputable def qW(lo:Int)(n:Nat):List D:=(List.range n).map λ(i:Nat)=>D.int<|lo+(i:Int)
def jfG:jik R (Itr lo n) Z H (qW lo n):=by
 intro c e f g zd i;refine⟨λb=>by show n<=i;simpa [qW] using b,λx a=>?_⟩;unfold qW at a;rw[List.getElem?_map] at a;by_cases b:i<n
 ·rw[List.getElem?_range b] at a;cases a;refine⟨b,λu h d=>?_⟩;obtain⟨rfl,rfl⟩:=d;exact⟨c,Go.id zd,.int_mk⟩
 ·rw[List.getElem?_eq_none ⇑b] at a;cases a
noncomputable def K8(i:Int):Bool:=Nat.ble i.natAbs 4611686018427387903
def qE(h:K8 i=true):-(2 ^ 62)<=i/\i<2 ^ 62:=by
 have h:=Nat.le_of_ble_eq_true h;constructor<;>lia
def xg(l:List D):Option (List D):=(jd8 l).bind λx=>(Jp x).bind λj=>bif K8 j then some (qW 0 j.toNat) else none
@[simp] def qx(p:PAf)(ρ:Rh):Option (List D):=(p ρ).bind xg
def Reps.one_of(r:Reps R Z H [d] vs O):∃ v,vs=[v]/\Rep R Z H d v O:=by
 obtain⟨v,a,e,f,rfl,rfl,b,c⟩:=r;obtain⟨rfl,rfl⟩:=c;exact⟨v,rfl,by simpa using b⟩
def Reps.two_of(r:Reps R Z H [d,e] vs O):Ex4 λv u O1 O2=>An4 (vs=[v,u]) (O=O1++O2) (Rep R Z H d v O1) (Rep R Z H e u O2):=by
 obtain⟨v,a,O1,O2,rfl,rfl,b,c⟩:=r;obtain⟨u,rfl,f⟩:=c.one_of;exact⟨v,u,O1,O2,rfl,rfl,b,f⟩
def jgX(h:PBs R ta p):PIt R (jcW ta) (qx p):=by
 intro σ ρ Z H O xs z s e Q k;refine ob e λl b e=>ob e λx e2 e=>ob e λj e3 e=>oc e λa e=>?_;cases e;cases qr e2;cases k8 e3;refine h z s b λ{v g i m} c d=>?_;obtain⟨u,rfl,f⟩:=d.one_of;obtain⟨rfl,_⟩:=f.int_of;exact⟨j,rfl,(qE a).1,(qE a).2,k c jfG⟩
def PGt(R:RC)(pm:List Nat)(tg:TG)(f:D->Rh->Option Rh):Prop:=∀{σ}{ρ ρ'}{Z}{H}{O}{d}{v},Rep R Z H d v []->Slots R Z H ρ σ O->f d ρ=some ρ' ->
 ∀{Q:St->Hp->Prop},(∀{σ'}{O'},(∀ a∈O',a∈O)->(O.Nodup->O'.Nodup)->Slots R Z H ρ' σ' O'->Keep pm σ σ'->Q σ' H)->tg v σ H Q
def jkb(R:RC)(pm:List Nat)(tg:TGs)(f:List D->Rh->Option Rh):Prop:=∀{σ}{ρ ρ'}{Z}{H}{O}{ds}{vs},Reps R Z H ds vs []->Slots R Z H ρ σ O->f ds ρ=some ρ' ->
 ∀{Q:St->Hp->Prop},(∀{σ'}{O'},(∀ a∈O',a∈O)->(O.Nodup->O'.Nodup)->Slots R Z H ρ' σ' O'->Keep pm σ σ'->Q σ' H)->tg vs σ H Q
def jff:PGt R pm (Va i) (jl pm i):=by
 intro σ ρ g Z H O d v r h e Q k;unfold jl at e;by_cases b:i<ρ.length
 ·by_cases c:i∈pm
  ·lia
  ·rw[X9 b,E1 c] at e;cases e;obtain⟨A,j,B,rfl,l,f,m⟩:=h.put b;refine k (λa q=>?_) (λnd=>?_) (f r (λ_ z=>z) (λ_ _=>rfl) (λ_ _=>rfl)<|λ_ _=>rfl)<|Keep.set c
   ·simp at q ⊢;rcases q with q | q<;>simp[q]
   ·grind
 ·lia
def jeU:jkb R pm jmL gN:=by
 intro σ ρ c Z H O b vs r h e Q k;cases b with
 | cons _ _=>cases e
 | nil=>
  cases e;obtain⟨rfl,_⟩:=r;exact⟨rfl,k (λa h=>h) (λh=>h) h<|Keep.refl _ _⟩
def jcm(f:PGt R pm t g)(i:jkb R pm u gs):jkb R pm (jhq t u) (gC g gs):=by
 intro σ ρ A Z H O c vs r h e Q k;cases c with
 | nil=>cases e
 | cons d c=>
  refine ob e λB j e=>?_;obtain⟨v,b,C,D,rfl,e3,l,m⟩:=r;obtain⟨rfl,rfl⟩:=List.append_eq_nil_iff.mp e3.symm;exact⟨v,b,rfl,f l h j λn o p s=>i m p e λw x y z=>k (λa q=>n a<|w a q) (λq=>x<|o q) y<|s.trans z⟩
def jia(f:jkb R pm u gs):PGt R pm (jnC R.K n u) (gT n gs):=by
 intro σ ρ i Z H O d v r h e Q k;cases d with
 | tup l=>
  unfold gT at e;dsimp only at e;by_cases b:l.length=n
  ·rw[X9 b,cond_true] at e;obtain⟨a,vs,rfl,g,c⟩:=r;exact⟨a,vs,rfl,g.sq,by rw[c.length];exact b,f c h e k⟩
  ·lia
 | _=>cases e
noncomputable def vH(g:D->Rh->Option Rh)(f:FS):List D->FS
 | [],ρ=>some<|.nx ρ
 | x::xs,ρ=>(g x ρ).bind λr=>(f r).bind λo=>o.loop<|vH g f xs
@[simp] def Qd(p:PAf)(G:D->Rh->Option Rh)(f:FS)(ρ:Rh):Option Out:=(p ρ).bind λxs=>vH G f xs ρ
def qH{l:List α}{i}(h:l[i]?=some x):l.drop i=x::l.drop (i+1):=by
 obtain⟨a,rfl⟩:=L9.mp h;exact List.drop_eq_getElem_cons a
inductive LpF (R:RC) (pm:List Nat) (g:D->Rh->Option Rh) (f:FS) (σ:L2.St) (Z0:Zn) (H0:Hp) (O:J9) (xs:List D) (o:Out) (i m:Nat) (σ':L2.St) (H':Hp):Prop
 | mk:m=xs.length-i->i<=xs.length->∀(ρ':Rh) (Z':Zn) (O':J9),Go Z0 H0 O Z' H' O'->Slots R Z' H' ρ' σ' O'->Keep pm σ σ'->vH g f (xs.drop i) ρ'=some o->LpF R pm g f σ Z0 H0 O xs o i m σ' H'
def jjl(hi:PIt R wi p)(P:PGt R pm tg g)(Q:DS R pm tb f):DS R pm (jko wi tg tb) (Qd p g f):=by
 intro σ ρ Z H O o w s e D' k;refine ob e λxs S e=>(hi w.zd s S λ{J y B} I T=>?_);have a:Go Z H O y B O:=by simpa using I.widen w
 refine⟨LpF R pm g f σ y B O xs o,
  ⟨xs.length,rfl,X4 _,ρ,y,O,Go.refl a.wf,I.slots w.zd s,Keep.refl _ _,e⟩,?_⟩
 rintro i m σ' U ⟨rfl,V,ρ',W,K,c,L,kp,e2⟩;have r:=T c.zz (c.zH a.wf) c.wf.zd i;by_cases C:i<xs.length
 ·right
  have M:xs[i]?=some xs[i]:=by simp
  obtain⟨go,X⟩:=r.2 _ M;rw[qH M] at e2;refine ob e2 λρ1 e3 e2=>ob e2 λY e4 e2=>⟨go,λD n=>∃ b q z,Go y B O q n z/\Slots R q n b D z/\Keep pm σ D/\vH g f (xs.drop<|i+1) b=some o,λD n ⟨b,q,z,a1,a2,a3,a4⟩=>⟨xs.length-(i+1),by lia,rfl,C,b,q,z,a1,a2,a3,a4⟩,λu n hy=>?_⟩;obtain⟨q,N,r2⟩:=X u n hy;have t:Go W U K q n K:=by simpa using N.widen c.wf
  refine P r2 (N.slots c.wf.zd L) e3 λ{σ3 O3} sub nd s3 A=>?_;have g3:=(c.trans t).drop sub (nd t.wf.nd);refine Q g3.wf s3 e4 ?_;cases Y with
  | nx b=>exact λ{E v F x} h j l=>⟨b,v,x,g3.trans h,j,kp.trans<|A.trans l,e2⟩
  | ct b=>exact λ{E v F x} h j l=>⟨b,v,x,g3.trans h,j,kp.trans<|A.trans l,e2⟩
  | bk b=>cases e2;exact λ{E v F x} h j l=>k (a.trans<|g3.trans h) j<|kp.trans<|A.trans l
  | rt d b=>cases e2;exact λ{v4 E v F P4 x} h r4 j l=>k (a.trans<|g3.trans h) r4 j<|kp.trans<|A.trans l
 ·left
  have G:i=xs.length:=by lia
  refine⟨r.1 ∅,?_⟩;rw[G,List.drop_length] at e2;cases e2;exact k (a.trans c) L kp
noncomputable def jp(ix:List<|Option Nat)(ρ:Rh):Rh:=ix.map λo=>o.bind λj=>(ρ[j]?).join
def Vm(s:Slots R Z H ρ σ O):∀ ix:List (Option Nat),∃ O',Slots R Z H (jp ix ρ) (yQ ix σ) O':=by
 intro ix
 induction ix with
 | nil=>
  exact⟨[],rfl,rfl⟩
 | cons o ix a=>
  obtain⟨O',a⟩:=a;show ∃ O',Slots R Z H ((o.bind λj=>(ρ[j]?).join)::jp ix ρ) ((o.bind λj=>(σ[j]?).join)::yQ ix σ) O';cases e:o.bind λj=>(ρ[j]?).join with
  | none=>exact⟨O',_,_,rfl,a⟩
  | some d=>
   cases o with
   | none=>cases e
   | some j=>
    have f:(ρ[j]?).join=some d:=e;have e2:ρ[j]?=some (some d):=by grind
    obtain⟨A,P,B,_,b,_⟩:=s.put (L9.mp e2).1;obtain⟨v,c,r⟩:=b d e2;refine⟨P++O',v,_,P,O',?_,rfl,r,a⟩;show((σ[j]?).join::yQ ix σ)=some v::yQ ix σ;rw[c];rfl
@[simp] def qT(ρ:Rh):Option Bool:=some true
def jgB:PTt R (λ_ H Q=>Q true H) qT:=by
 intro σ ρ Z H O b z s e Q k;cases e;exact k<|Go.id z
noncomputable def yP(g:D->Rh->Option Rh)(q:PTf)(p:PF):List D->Rh->Option (List D)
 | [],_=>some []
 | x::xs,ρ=>(g x ρ).bind λρ1=>(q ρ1).bind λb=>bif b then((p ρ1).bind λy=>(yP g q p xs ρ1).bind λys=>some<|y::ys) else yP g q p xs ρ1
@[simp] def yS(pi:PAf)(G:D->Rh->Option Rh)(q:PTf)(pa:PF)(ix:List<|Option Nat)(ρ:Rh):Option D:=(pi ρ).bind λxs=>bif lim xs.length then((yP G q pa xs<|jp ix ρ).bind λys=>some<|.lst true ys) else none
noncomputable def spP(R:RC)(m:List D->Option D)(n:Nat):Sp:=λvs H Q _=>∃ Z ds d,Zd Z H/\ds.length=n/\Reps R Z H ds vs []/\m ds=some d/\∀{v}{Z'}{H'}{P},Go Z H [] Z' H' P->Rep R Z' H' d v P->Q v H'
def fnP(n:Nat)(f:FS)(ds:List D):Option D:=(f<|ds.map some++List.replicate (n-ds.length) none).bind Out.val
theorem Ji:∀ n:Nat,Slots R Z H (List.replicate n none) (List.replicate n none) []
 | 0=>⟨rfl,rfl⟩
 | n+1=>⟨none,_,rfl,Ji n⟩
theorem Jc:∀{ds}{vs}{O}{ρ}{σ}{P},Reps R Z H ds vs O->Slots R Z H ρ σ P->Slots R Z H (ds.map some++ρ) (vs.map some++σ) (O++P)
 | [],_,_,_,_,_,r,s=>by rw[Reps] at r;obtain⟨rfl,rfl⟩:=r;exact s
 | d::ds,_,_,_,_,_,r,s=>by
  obtain⟨v,a,b,f,rfl,rfl,c,e⟩:=r;exact⟨v,_,b,_,rfl,List.append_assoc ..,c,Jc e s⟩
def jgF(b:DS R [] ts f)(h:spP R (fnP N.length f) n vs H Q E):ts {nx:=λ_ H'=>Q .non H',rt:=Q} (L2.start N vs) H:=by
 obtain⟨Z,a,d,z,l,r,e,k⟩:=h;have s:Slots R Z H (a.map some++List.replicate (N.length-a.length) none) (L2.start N vs) []:=by
  unfold L2.start;rw[r.length];exact(Jc r<|Ji<|N.length-a.length)
 refine ob e λo c e=>?_;cases o with
 | rt m i=>cases e;exact b (wf0 z) s c λg j _ _=>k g.dropR j
 | nx i=>cases e;exact b (wf0 z) s c λg _ _=>k g.to0 .non_mk
 | _=>cases e
def jgN(h:spP R m n vs H Q E):vs.length=n:=by
 obtain⟨Z,b,d,z,a,r,_⟩:=h;rw[r.length,a]
mutual
noncomputable def kE:D->Bool
 | .tup l=>yY l
 | .lst o l=>o&&yY l
 | .dK o _ l=>o&&yY l
 | .dT o _ l=>o&&yY l
 | .ins o _ _ l=>o&&yY l
 | .non=>true | .bl _=>true | .int _=>true | .str _=>true | .dead=>true | .tok _=>true | .kt _=>false | .exc _ _=>false
noncomputable def yY:List D->Bool
 | []=>true
 | d::l=>kE d&&yY l
end
mutual
theorem Rep.thaw(ht:∀ a vs,Z a->Rd H a (.tup vs)->Z' a):∀{d:D}{v:V}{O:J9},Rep R Z H d v O->kE d=true->Rep R Z' H d v O
 | .non,_,_,h,_=>by rw[Rep] at h ⊢;exact h
 | .bl _,_,_,h,_=>by rw[Rep] at h ⊢;exact h
 | .int _,_,_,h,_=>by rw[Rep] at h ⊢;exact h
 | .str _,_,_,h,_=>by rw[Rep] at h ⊢;exact h
 | .dead,_,_,h,_=>by rw[Rep] at h ⊢;exact h
 | .tok _,_,_,h,_=>by rw[Rep] at h ⊢;exact h
 | .kt _,_,_,_,f=>by rw[kE] at f;cases f
 | .exc _ _,_,_,_,f=>by rw[kE] at f;cases f
 | .tup l,_,_,h,f=>by
  rw[Rep] at h ⊢;rw[kE] at f;obtain⟨a,vs,e,t,r⟩:=h;refine⟨a,vs,e,?_,Reps.thaw ht r f⟩;rcases t with⟨z,q⟩ | q
  ·exact .inl ⟨ht a vs z q,q⟩
  ·exact .inr q
 | .lst o l,_,_,h,f=>by
  rw[Rep] at h ⊢;rw[kE,M0] at f;obtain⟨a,vs,O',e,r,h⟩:=h;cases f.1;exact⟨a,vs,O',e,Reps.thaw ht r f.2,h⟩
 | .dK o ks l,_,_,h,f=>by
  rw[Rep] at h ⊢;rw[kE,M0] at f;obtain⟨a,vs,O',e,r,h⟩:=h;cases f.1;exact⟨a,vs,O',e,Reps.thaw ht r f.2,h⟩
 | .dT o ks l,_,_,h,f=>by
  rw[Rep] at h ⊢;rw[kE,M0] at f;obtain⟨a,vs,O',e,r,h⟩:=h;cases f.1;exact⟨a,vs,O',e,Reps.thaw ht r f.2,h⟩
 | .ins o c ns l,_,_,h,f=>by
  rw[Rep] at h ⊢;rw[kE,M0] at f;obtain⟨a,dx,vs,O',e,r,h⟩:=h;cases f.1;exact⟨a,dx,vs,O',e,Reps.thaw ht r f.2,h⟩
theorem Reps.thaw(ht:∀ a vs,Z a->Rd H a (.tup vs)->Z' a):∀{l:List D}{vs:List V}{O:J9},Reps R Z H l vs O->yY l=true->Reps R Z' H l vs O
 | [],_,_,h,_=>by rw[Reps] at h ⊢;exact h
 | d::l,_,_,h,f=>by
  rw[Reps] at h ⊢;rw[yY,M0] at f;obtain⟨v,vs,O1,O2,e,rfl,r1,r2⟩:=h;exact⟨v,vs,O1,O2,e,rfl,Rep.thaw ht r1 f.1,Reps.thaw ht r2 f.2⟩
end
mutual
theorem Rep.notTup:∀{d:D}{v:V}{O:J9},Rep R Z H d v O->∀ a∈O,∀ vs,¬ Rd H a (.tup vs)
 | .non,_,_,h,a,ha=>by rw[Rep] at h;rw[h.2] at ha;cases ha
 | .bl _,_,_,h,a,ha=>by rw[Rep] at h;rw[h.2] at ha;cases ha
 | .int _,_,_,h,a,ha=>by rw[Rep] at h;rw[h.2] at ha;cases ha
 | .str _,_,_,h,a,ha=>by rw[Rep] at h;rw[h.2] at ha;cases ha
 | .dead,_,_,h,a,ha=>by rw[Rep] at h;rw[h] at ha;cases ha
 | .tok _,_,_,h,a,ha=>by rw[Rep] at h;rw[h.2] at ha;cases ha
 | .kt _,_,_,h,a,ha=>by rw[Rep] at h;obtain⟨_,_,_,_,h⟩:=h;rw[h] at ha;cases ha
 | .exc _ _,_,_,h,a,ha=>by rw[Rep] at h;obtain⟨_,_,_,_,_,_,_,h⟩:=h;rw[h] at ha;cases ha
 | .tup l,_,_,h,a,ha=>by
  rw[Rep] at h;obtain⟨b,vs,e,t,r⟩:=h;exact Reps.notTup r a ha
 | .lst o l,_,_,h,a,ha=>by
  rw[Rep] at h;obtain⟨b,vs,O',e,r,h⟩:=h;cases o with
  | true=>
   obtain⟨h1,rfl⟩:=h;rcases M4.mp ha with e | e
   ·subst e;rintro ws (q | ⟨_,q⟩)<;>rw[h1] at q<;>cases q
   ·exact Reps.notTup r a e
  | false=>rw[h.2.2] at ha;cases ha
 | .dK o ks l,_,_,h,a,ha=>by
  rw[Rep] at h;obtain⟨b,vs,O',e,r,hl,hd,h⟩:=h;cases o with
  | true=>
   have h:=(show _=_ from h);subst h;rcases M4.mp ha with e | e
   ·subst e;rintro ws (q | ⟨_,q⟩)<;>rw[hd] at q<;>cases q
   ·exact Reps.notTup r a e
  | false=>rw[h.2.2] at ha;cases ha
 | .dT o ks l,_,_,h,a,ha=>by
  rw[Rep] at h;obtain⟨b,vs,O',e,r,hl,hd,h⟩:=h;cases o with
  | true=>
   have h:=(show _=_ from h);subst h;rcases M4.mp ha with e | e
   ·subst e;rintro ws (q | ⟨_,q⟩)<;>rw[hd] at q<;>cases q
   ·exact Reps.notTup r a e
  | false=>rw[h.2.2] at ha;cases ha
 | .ins o c ns l,_,_,h,a,ha=>by
  rw[Rep] at h;obtain⟨b,dx,vs,O',e,r,hl,hd,h⟩:=h;cases o with
  | true=>
   have h:=(show _=_ from h);subst h;rcases M4.mp ha with e | e
   ·subst e;rintro ws (q | ⟨_,q⟩)<;>rw[hd] at q<;>cases q
   ·exact Reps.notTup r a e
  | false=>rw[h.2.2] at ha;cases ha
theorem Reps.notTup:∀{l:List D}{vs:List V}{O:J9},Reps R Z H l vs O->∀ a∈O,∀ vs,¬ Rd H a (.tup vs)
 | [],_,_,h,a,ha=>by rw[Reps] at h;rw[h.2] at ha;cases ha
 | d::l,_,_,h,a,ha=>by
  rw[Reps] at h;obtain⟨v,vs,O1,O2,e,rfl,r1,r2⟩:=h;rcases N4.mp ha with q | q
  ·exact Rep.notTup r1 a q
  ·exact Reps.notTup r2 a q
end
@[simp] def jK(m:List D->Option D)(p:PAf)(ρ:Rh):Option D:=(p ρ).bind λds=>(m<|fzs ds).bind λd=>bif frzs ds||kE d then some d else none
def Ys(l):(fzs l).length=l.length:=by rw[JT,L0]
def jcH(i:Zd Z H)(e:Reps R Z H ds vs P1)(hn:ds.length=n)(e2:m (fzs ds)=some d)(c:(frzs ds||kE d)=true)
  (k:∀{v}{Z'}{H'}{P},Go Z H [] Z' H' P->Rep R Z' H' d v P->Q v H'):spP R m n (vs++[]) H Q E:=by
 refine⟨λa=>Z a\/a∈P1,fzs ds,d,λa h=>h.elim (i a)<|e.dom a,by rw[Ys];exact hn,by rw[N0];exact e.freeze (λa z=>.inl z) λa z=>.inr z,e2,λ{v Z' H' P} b f=>?_⟩;rw[Bool.or_eq_true] at c;rcases c with c | c
 ·cases e.nil c;exact k ⟨b.wf,λa z=>b.zz a<|.inl z,b.fr,λa z=>(b.zn a z).imp (λq=>q.resolve_right<|λq=>(nomatch q)) id,b.sub,b.dm⟩ f
 ·refine k (Z':=λa=>Z' a/\(a∉P1\/Z a)) ⟨⟨b.wf.nd,λa h q=>b.wf.nz a h q.1,b.wf.od,λa q=>b.wf.zd a q.1⟩,λa z=>⟨b.zz a<|.inl z,.inr z⟩,b.fr,λa z=>?_,b.sub,b.dm⟩<|f.thaw (λa j za l=>⟨za,?_⟩) c
  ·rcases b.zn a z.1 with(q | q) | q
   ·lia
   ·lia
   ·lia
  ·by_cases g:a∈P1
   ·exact absurd (Rd.agree (b.same a<|e.dom a g).symm l)<|e.notTup a g j
   ·lia
def ja2(f:PBs R ta p)(hn:∀ ρ ds,p ρ=some ds->ds.length=n):PP R (JH (spP R m n) [] E0 ta) (jK m p):=by
 intro σ ρ Z H O d z s e Q k;refine ob e λds a e=>ob e λc e2 e=>oc e λg e=>?_;cases e;exact f z s a λb h=>jcH b.wf.zd h (hn ρ ds a) e2 g λi j=>k ⇑(b.pair i) j
@[simp] def sFz(i:Nat)(f:FS)(ρ:Rh):Option Out:=match pV i ρ with | some d=>f (ρ.set i<|some<|fz d) | none=>f ρ
def jni(h:DS R pm t f):DS R pm t (sFz i f):=by
 intro σ ρ Z H O o w s e m k;unfold sFz at e;split at e
 ·rename_i d hd;have hd:=VH hd;obtain⟨A,P,B,rfl,c,j,_⟩:=s.put (L9.mp hd).1;obtain⟨v,l,r⟩:=c d hd;have g:=(Go.freeze w.mid).frame w;have b:=j (r.freeze (Z':=λa=>Z a\/a∈P) (λa z=>.inl z) λa z=>.inr z) (λa z=>.inl z) (λ_ _=>rfl) (λ_ _=>rfl)<|λ_ _=>rfl;rw[yH l] at b;exact h g.wf b e<|k.pre g<|Keep.refl _ _
 ·exact h w s e k
def Ve{l m:J9}(h:∀ c,l.count c<=m.count c)(n:m.Nodup):l.Nodup:=List.nodup_iff_count.mpr λc=>N9 (h c)<|List.nodup_iff_count.mp n c
def uu{l m:J9}(h:∀ c,l.count c<=m.count c):∀ c∈l,c∈m:=λc a=>List.count_pos_iff.mp<|X3 (List.count_pos_iff.mpr a)<|h c
def Go.at(g:Go Z H O Z' H' P)(hn:a∉O)(h:H a=some o):H' a=some o:=(g.fr a ∅ hn).trans h
def Go.at0(g:Go Z H [] Z' H' P)(h:H a=some o):H' a=some o:=g.at (λz=>nomatch z) h
noncomputable abbrev Ln:=D->Option (D×(D->D))
inductive LnR (R:RC) (Z:Zn) (H:Hp) (ρ:Rh) (σ:L2.St) (O:J9) (tb:TE) (i:Nat) (x:D) (k:D->D):Prop
 | mk:∀(v:V) (A P B:J9),O=A++P++B->Rep R Z H x v P->(∀{Q:VK},Q v H->tb σ H Q) ->
  (∀{Z':Zn}{H':Hp}{x':D}{P':J9},Rep R Z' H' x' v P'->(∀ a,Z a->Z' a)->(∀ a,Z a->H' a=H a)->(∀ a∈A,H' a=H a)->(∀ a∈B,H' a=H a)->Slots R Z' H' (ρ.set i<|some<|k x') σ (A++P'++B))->LnR R Z H ρ σ O tb i x k
def Ki(R:RC)(tb:TE)(i:Nat)(L:Ln):Prop:=∀{σ}{ρ}{Z}{H}{O}{d x}{k},Slots R Z H ρ σ O->ρ[i]?=some (some d)->L d=some (x,k)->LnR R Z H ρ σ O tb i x k
noncomputable def qo:Ln:=λd=>some (d,λx=>x)
def K0:Ki R (Jt i) i qo:=by
 intro σ ρ Z H O d x k s h e;cases e;obtain⟨A,P,B,rfl,b,c,_⟩:=s.put (L9.mp h).1;obtain⟨v,a,r⟩:=b _ h;refine⟨v,A,P,B,rfl,r,λq=>⟨v,a,q⟩,λf g j l m=>?_⟩;have q:=c f g j l m;rw[yH a] at q;exact q
inductive OwR (R:RC) (Z:Zn) (H:Hp) (l:List D) (sh:Addr->List V->HO) (sd:Prop) (v:V) (O:J9):Prop
 | mk:∀(a dx:Addr) (vs:List V) (O':J9),v=.ref a->Reps R Z H l vs O'->sd->H a=some (sh dx vs)->O=a::O'->OwR R Z H l sh sd v O
def Own(R:RC)(T:D)(l:List D)(sh:Addr->List V->HO)(sd:Prop):Prop:=∀{Z}{H}{v}{O},Rep R Z H T v O↔OwR R Z H l sh sd v O
def YU:Own R (.lst true l) l (λ_ vs=>.lst vs) True:=by
 intro Z H v O;exact⟨λh=>by obtain⟨a,vs,b,e,c,d,f⟩:=h;exact⟨a,0,vs,b,e,c,trivial,d,f⟩,λh=>by obtain⟨a,_,vs,b,e,c,_,d,f⟩:=h;exact⟨a,vs,b,e,c,d,f⟩⟩
def ji8:Own R (.dK true ks l) l (λ_ vs=>.dK<|(ks.map kaV).zip vs) (ks.length=l.length):=by
 intro Z H v O;exact⟨λh=>by obtain⟨a,vs,b,e,c,h,d,f⟩:=h;exact⟨a,0,vs,b,e,c,h,d,f⟩,λh=>by obtain⟨a,_,vs,b,e,c,h,d,f⟩:=h;exact⟨a,vs,b,e,c,h,d,f⟩⟩
def ow_ins:Own R (.ins true c ns l) l (λdx vs=>.ins (R.cls c) dx<|ns.zip vs) (ns.length=l.length):=by
 intro Z H v O;exact⟨λh=>by obtain⟨a,dx,vs,b,e,d,h,f,g⟩:=h;exact⟨a,dx,vs,b,e,d,h,f,g⟩,λh=>by obtain⟨a,dx,vs,b,e,d,h,f,g⟩:=h;exact⟨a,dx,vs,b,e,d,h,f,g⟩⟩
def Kx{R}{Z}{H}{C:Prop}{σ}{ρ}{O P0}{i}{tb}{L}{t y}{p}{l}{u}{D}(G:Ki R tb i L)(w:WF Z H<|P0++O)(s:Slots R Z H ρ σ O)(hi:pV i ρ=some t)(e:L t=some (y,p))(hT:Own R y l u D)
  (k:∀ a dx vs O',Reps R Z H l vs O'->D->H a=some (u dx vs)->(∀{Q},Q (.ref a) H->tb σ H Q)->(∀{O2 P1}{Z2}{H2}{x'}{l'}{vs'}{sh':Addr->List V->HO}{sd'},Own R x' l' sh' sd'->sd'->Go Z H [] Z2 H2 P1->Reps R Z2 H2 l' vs' O2->(∀ q,O2.count q<=O'.count q+P0.count q+P1.count q) ->
   ∃ O3,Go Z H (P0++O) Z2 (upd H2 a<|sh' dx vs') O3/\Slots R Z2 (upd H2 a<|sh' dx vs') (ρ.set i<|some<|p x') σ O3)->C):C:=by
 obtain⟨v,A,P,B,rfl,r,I,J⟩:=G s (VH hi) e;obtain⟨a,dx,vs,O',rfl,K,hd,M,rfl⟩:=hT.mp r;refine k a dx vs O' K hd M I λ{O2 P1 Z2 H2 x' l' vs' sh' sd'} n o g N d=>?_;have j:=g.widen w;have nd:=j.wf.nd;have ct:=List.nodup_iff_count.mp nd a;simp only[X7,List.count_cons,if_true] at ct;have pos:∀{m:J9},a∈m->0<m.count a:=List.count_pos_iff.mpr;generalize S:sh' dx vs'=ob;have f:∀ b,Z2 b->upd H2 a ob b=H2 b:=λb c=>ji λz=>j.wf.nz a (by simp)<|z▸c;have h:∀ m:List Addr,(∀ b∈m,b∈A++(a::O')++B)->m.count a=0->∀ b∈m,upd H2 a ob b=H b:=λm T W b c=>(ji λz=>by subst z;have:=pos c;lia).trans (g.same b<|w.od b<|X0 _<|T b c);have U:=J (n.mpr ⟨a,dx,vs',O2,rfl,N.frame (λ_ z=>z) f λb c=>ji λz=>by subst z;have:=pos c;have:=d b;lia,o,by rw[S];exact jV,rfl⟩) g.zz (λx E=>(f x<|g.zz x E).trans (g.same x<|w.zd x E)) (h A (λb c=>by simp[c]) ∅)<|h B (λb c=>by simp[c]) ∅;have F:∀ q,(A++(a::O2)++B).count q<=(P1++(P0++(A++(a::O')++B))).count q:=λq=>by
  have:=d q;simp only[X7,List.count_cons];lia
 exact⟨_,(j.trans<|Go.put j.wf<|by simp).drop (uu F) (Ve F nd),U⟩
@[simp] def YB(i:Nat)(L:Ln)(pv:PF)(ρ:Rh):Option Out:=(pv ρ).bind λd=>(pV i ρ).bind λt=>(L t).bind λy=>(Jq y.1).bind λl=>bif lim l.length then some (.nx<|ρ.set i<|some<|y.2<|.lst true<|l++[d]) else none
def ja3{R}{pm}{i}{tb te}{L}{p}(j:Ki R tb i L)(h:PP R te p):DS R pm (qL<|tBM R.K "list" JV tb<|vq te Jl) (YB i L p):=by
 intro σ ρ Z H O o w s e A k;refine ob e λd m e=>ob e λt n e=>ob e λ⟨y,B⟩ e3 e=>ob e λl r e=>oc e λb e=>?_;cases e;cases Jg r;refine Kx (P0:=[]) j w s n e3 YU λa _ vs C f _ g v put=>v ⟨.inl ⟨rfl,vs,SqL.of g⟩,h w.zd s m λ{u D E F} c x=>?_⟩;obtain⟨G,g3,z⟩:=put YU trivial c ((c.reps w.zd f).append (.one x)) λq=>by simp
 exact⟨a,vs,u,rfl,rfl,c.at0 g,by rw[f.length];exact zT b,k g3 z<|Keep.refl _ _⟩
@[simp] def jaA(i:Nat)(pa:PF)(ρ:Rh):Option Out:=(pa ρ).bind λd=>(pV i ρ).bind λx=>(Jq x).bind λl=>bif lim l.length then some (.nx<|ρ.set i<|some<|.lst true<|l++[d]) else none
def jkC(h:PP R te p):DS R pm (qL<|tBM R.K "list" JV (Jt i)<|vq te Jl) (jaA i p):=ja3 K0 h
def YX(h:OpR X f r)(h':OpR X f r'):OpR X f (λx y H Q=>r x y H Q\/r' x y H Q):=by
 intro a s σ H x y v u Q I b c q;rcases q with q | q
 ·exact h a s σ H x y v u Q I b c q
 ·exact h' a s σ H x y v u Q I b c q
def Rep.lst_of(r:Rep R Z H (.lst o l) v O):Ex3 λa vs O'=>An3 (v=.ref a) (SqX R.K H a vs) (Reps R Z H l vs O'):=by
 obtain⟨a,vs,O',rfl,b,h⟩:=r;cases o with
 | true=>exact⟨a,vs,O',rfl,SqX.of h.1,b⟩
 | false=>exact⟨a,vs,O',rfl,FL.sqx h.1,b⟩
def Rep.tup_of(r:Rep R Z H (.tup l) v O):Ex2 λa vs=>An3 (v=.ref a) (SqT R.K H a vs) (Reps R Z H l vs O):=by
 obtain⟨a,vs,rfl,h,b⟩:=r;exact⟨a,vs,rfl,h.sq,b⟩
def Reps.frozen(r:Reps R Z H l vs O)(f:frzs l=true):Reps R Z H l vs []:=by
 cases r.nil f;exact r
noncomputable def jj7(i:Int):Bool:=decide<|Builtin.Int.intBits i<=2 ^ 20
def jbF(h:i.natAbs<2 ^ 1000):jj7 i=true:=X9<|jaq h (by decide)
def jO(x y:D):Option D:=match x with
 | .int i=>(match y with
  | .int j=>some<|.int<|i+j
  | _=>none)
 | .str a=>(match y with
  | .str b=>bif lim (a.length+b.length) then some (.str<|a++b) else none
  | _=>none)
 | .lst _ a=>(match y with
  | .lst _ b=>bif lim (a.length+b.length)&&(frzs a&&frzs b) then some (.lst true<|a++b) else none
  | _=>none)
 | .tup a=>(match y with
  | .tup b=>bif lim (a.length+b.length)&&(frzs a&&frzs b)&&!a.isEmpty then some (.tup<|a++b) else none
  | _=>none)
 | _=>none
def jn1:R2:=λx y H Q=>∃ a b,x=.str (S a)/\y=.str (S b)/\a.length+b.length<=sizeLine/\Q (.str<|S<|a++b) H
def jbX(K:J4):R2:=λx y H Q=>rI0 (λi j=>.int<|i+j) x y H Q\/jn1 x y H Q\/jiY K x y H Q\/jiQ K x y H Q
def ja5:OpR X (binaryOp .Add) (jbX X.K):=YX jkd<|YX jh4<|YX jha jhE
def jfJ:BO R (jbX R.K) jO:=by
 intro Z H x y d v u E F z g l e Q k;cases x with
 | int i=>
  cases y with
  | int j=>
   cases e;obtain⟨rfl,_⟩:=g.int_of;obtain⟨rfl,_⟩:=l.int_of;exact .inl ⟨i,j,rfl,rfl,k (Go.id z) .int_mk⟩
  | _=>cases e
 | str a=>
  cases y with
  | str b=>
   refine oc e λc e=>?_;cases e;obtain⟨rfl,_⟩:=g.str_of;obtain⟨rfl,_⟩:=l.str_of;exact .inr<|.inl ⟨a,b,rfl,rfl,qN c,k (Go.id z) .str_mk⟩
  | _=>cases e
 | lst o a=>
  cases y with
  | lst G b=>
   refine oc e λc e=>?_;cases e;simp only[M0] at c;obtain⟨p,vs,I,rfl,m,f⟩:=g.lst_of;obtain⟨q,n,w,rfl,r,rt⟩:=l.lst_of;have A:=(f.frozen c.2.1).append (rt.frozen c.2.2);exact .inr<|.inr<|.inl ⟨p,q,vs,n,rfl,rfl,m,r,by rw[f.length,rt.length];exact qN c.1,λb h=>k (Go.newO (wf0 z) h)<|Rep.lstNew (wf0 z) h A⟩
  | _=>cases e
 | tup a=>
  cases y with
  | tup b=>
   refine oc e λc e=>?_;cases e;simp only[M0] at c;obtain⟨p,vs,rfl,m,f⟩:=g.tup_of;obtain⟨q,n,rfl,r,rt⟩:=l.tup_of;have s:vs≠[]:=by
    intro B;have:=f.length;rw[B] at this;have t:=List.eq_nil_of_length_eq_zero this.symm;rw[t] at c;simp at c
   refine .inr<|.inr<|.inr ⟨p,q,vs,n,rfl,rfl,m,r,s,by rw[f.length,rt.length];exact qN c.1.1,(λt=>?_),λ_ b h=>k (Go.newF (wf0 z) h)<|Rep.tupNew (wf0 z) h<|(f.frozen c.1.2.1).append (rt.frozen c.1.2.2)⟩;have C:=List.eq_nil_of_length_eq_zero (by rw[<- rt.length,t];rfl);subst C;rw[N0] at k;have D:=f.nil c.1.2.1;subst D;exact k (Go.id z) g
  | _=>cases e
 | _=>cases e
def two(f:Int->Int->Option D)(x y:D):Option D:=(Jp x).bind λi=>(Jp y).bind λj=>f i j
def two_of(e:two f x y=some d):Ex2 λi j=>An3 (x=.int i) (y=.int j) (f i j=some d):=ob e λi a e=>ob e λj e2 e=>⟨i,j,k8 a,k8 e2,e⟩
def Qq:D->D->Option D:=two λi j=>some<|.int<|i-j
def jku:BO R (rI0 λi j=>.int<|i-j) Qq:=by
 intro Z H x y d v u c f z a b e Q k;replace e:=two_of e;obtain⟨i,j,rfl,rfl,e⟩:=e;cases e;obtain⟨rfl,_⟩:=a.int_of;obtain⟨rfl,_⟩:=b.int_of;exact⟨i,j,rfl,rfl,k (Go.id z) .int_mk⟩
def qh(x y:D):Option D:=match y with
 | .int n=>(match x with
  | .int i=>bif jj7 i&&jj7 n then some (.int<|i*n) else none
  | .str a=>bif decide (a.length<=1000)&&(decide (0<=n)&&decide (n<=1000)) then some (.str (List.replicate n.toNat a).flatten) else none
  | _=>none)
 | _=>none
def jij:R2:=λx y H Q=>rI (λi j=>Builtin.Int.intBits i<=2 ^ 20/\Builtin.Int.intBits j<=2 ^ 20) (λi j=>.int<|i*j) x y H Q \/
 ∃ a n,x=.str (S a)/\y=.int n/\a.length<=1000/\0<=n/\n<=1000/\Q (.str<|S (List.replicate n.toNat a).flatten) H
def jiD:OpR X (binaryOp .Mult) jij:=YX jhs jgS
def jke:BO R jij qh:=by
 intro Z H x y d v u g h z c f e Q k;cases y with
 | int n=>
  cases x with
  | int i=>
   refine oc e λb e=>?_;cases e;rw[M0] at b;obtain⟨rfl,_⟩:=c.int_of;obtain⟨rfl,_⟩:=f.int_of;exact .inl ⟨i,n,rfl,rfl,⟨E2 b.1,E2 b.2⟩,k (Go.id z) .int_mk⟩
  | str a=>
   refine oc e λb e=>?_;cases e;simp only[M0,decide_eq_true_eq] at b;obtain⟨rfl,_⟩:=c.str_of;obtain⟨rfl,_⟩:=f.int_of;exact .inr ⟨a,n,rfl,rfl,b.1,b.2.1,b.2.2,k (Go.id z) .str_mk⟩
  | _=>cases e
 | _=>cases e
noncomputable def jav(j:Int):Bool:=decide (0<j)&&decide (j<2 ^ 300)
def jcU(h:jav j=true):0<j/\j.natAbs.log2<9000:=by
 unfold jav at h;simp only[M0,decide_eq_true_eq] at h;refine⟨h.1,?_⟩;have a:j.natAbs<2 ^ 300:=by lia
 have b:j.natAbs≠0:=by lia
 have:=(Nat.log2_lt b).mpr a
 lia
def jel:OpR X (binaryOp .FloorDiv) (rI (λ_ j=>jav j=true) λi j=>.int<|i/j):=opI λi j t u s Q E a q=>by
 obtain⟨b,c⟩:=jcU a;rw[(Int.fdiv_eq_ediv_of_nonneg i<|Int.le_of_lt b).symm] at q;exact PyProof.Rows.floordiv_int ∅ q (.inl<|PyProof.noPylong_of_log2 c)
def yf:D->D->Option D:=two λi j=>bif jav j then some (.int<|i/j) else none
def jA:D->D->Option D:=two λi j=>bif decide (0<j) then some (.int<|i%j) else none
def xQ:D->D->Option D:=two λi j=>bif decide (0<=j)&&decide (j<=100)&&decide (i.natAbs<2 ^ 64) then some (.int<|i ^ j.toNat) else none
def jjY:BO R (rI (λ_ j=>jav j=true) λi j=>.int<|i/j) yf:=by
 intro Z H x y d v u f g z a b e Q k;replace e:=two_of e;obtain⟨i,j,rfl,rfl,e⟩:=e;refine oc e λc e=>?_;cases e;obtain⟨rfl,_⟩:=a.int_of;obtain⟨rfl,_⟩:=b.int_of;exact⟨i,j,rfl,rfl,c,k (Go.id z) .int_mk⟩
def jfD:BO R (rI (λ_ j=>0<j) λi j=>.int<|i%j) jA:=by
 intro Z H x y d v u f g z b c e Q k;replace e:=two_of e;obtain⟨i,j,rfl,rfl,e⟩:=e;by_cases a:0<j
 ·rw[X9 a] at e;cases e;obtain⟨rfl,_⟩:=b.int_of;obtain⟨rfl,_⟩:=c.int_of;exact⟨i,j,rfl,rfl,a,k (Go.id z) .int_mk⟩
 ·lia
def jkR:BO R (rI jm5 λi j=>.int<|i ^ j.toNat) xQ:=by
 intro Z H x y d v u f g z b c e Q k;replace e:=two_of e;obtain⟨i,j,rfl,rfl,e⟩:=e;refine oc e λa e=>?_;cases e;simp only[M0,decide_eq_true_eq] at a;obtain⟨rfl,_⟩:=b.int_of;obtain⟨rfl,_⟩:=c.int_of;exact⟨i,j,rfl,rfl,⟨a.1.1,by lia,a.2⟩,k (Go.id z) .int_mk⟩
noncomputable def VF:D->Option D
 | .int i=>some<|.int<|-i
 | _=>none
def jk4:BU R (rU λi=>.int<|-i) VF:=by
 intro Z H x d v O z a e Q k;cases x with
 | int i=>
  cases e;obtain⟨rfl,_⟩:=a.int_of;exact⟨i,rfl,k (Go.id z) .int_mk⟩
 | _=>cases e
def opB(g:Int->Int->Bool):D->D->Option D:=two λi j=>some<|.bl<|g i j
def jmb:BO R (rI0 λi j=>.bl<|g i j) (opB g):=by
 intro Z H x y d v u c f z a b e Q k;replace e:=two_of e;obtain⟨i,j,rfl,rfl,e⟩:=e;cases e;obtain⟨rfl,_⟩:=a.int_of;obtain⟨rfl,_⟩:=b.int_of;exact⟨i,j,rfl,rfl,k (Go.id z) .bl_mk⟩
abbrev jmQ:D->D->Option D:=opB λi j=>decide<|i<j
abbrev jfa:D->D->Option D:=opB λi j=>decide<|i<=j
abbrev Y0:D->D->Option D:=opB λi j=>decide<|j<i
abbrev jl9:D->D->Option D:=opB λi j=>decide<|j<=i
noncomputable def jaU:D->Bool
 | .non=>true
 | _=>false
noncomputable def jfR:D->Bool
 | .dead=>true
 | _=>false
def Kp(x y:D):Option D:=bif jaU y&&!jfR x then some (.bl<|jaU x) else none
def qR(x y:D):Option D:=bif jaU y&&!jfR x then some (.bl<|!jaU x) else none
def uw(h:jaU y=true):y=.non:=by
 cases y with
 | non=>rfl
 | _=>cases h
def xu(r:Rep R Z H x v O)(hd:∀(h:x=.dead),False):decide (v=V.non)=jaU x:=by
 cases x with
 | non=>obtain⟨rfl,_⟩:=r.non_of;rfl
 | bl b=>obtain⟨rfl,_⟩:=r.bl_of;rfl
 | int i=>obtain⟨rfl,_⟩:=r.int_of;rfl
 | str s=>obtain⟨rfl,_⟩:=r.str_of;rfl
 | tup l=>rw[Rep] at r;obtain⟨a,vs,rfl,_⟩:=r;rfl
 | lst o l=>rw[Rep] at r;obtain⟨a,vs,d,rfl,_⟩:=r;rfl
 | dK o ks l=>rw[Rep] at r;obtain⟨a,vs,d,rfl,_⟩:=r;rfl
 | dT o ks l=>rw[Rep] at r;obtain⟨a,vs,d,rfl,_⟩:=r;rfl
 | ins o c ns l=>rw[Rep] at r;obtain⟨a,e,vs,d,rfl,_⟩:=r;rfl
 | tok a=>rw[Rep] at r;obtain⟨rfl,_⟩:=r;rfl
 | kt k=>rw[Rep] at r;obtain⟨a,rfl,_⟩:=r;rfl
 | exc c p=>rw[Rep] at r;obtain⟨a,e,rfl,_⟩:=r;rfl
 | dead=>exact(hd rfl).elim
def jnj:BO R (λx y H Q=>y=.non/\Q (.bl<|decide<|x=.non) H) Kp:=by
 intro Z H x y d v u f g z b c e Q k;refine oc e λa e=>?_;cases e;rw[M0] at a;have hd:∀(h:x=.dead),False:=λh=>by rw[h] at a;exact absurd a.2 (by decide)
 cases uw a.1;obtain⟨rfl,_⟩:=c.non_of;refine⟨rfl,?_⟩;rw[xu b hd];exact k (Go.id z) .bl_mk
def jdB:BO R (λx y H Q=>y=.non/\Q (.bl<|!decide (x=.non)) H) qR:=by
 intro Z H x y d v u f g z b c e Q k;refine oc e λa e=>?_;cases e;rw[M0] at a;have hd:∀(h:x=.dead),False:=λh=>by rw[h] at a;exact absurd a.2 (by decide)
 cases uw a.1;obtain⟨rfl,_⟩:=c.non_of;refine⟨rfl,?_⟩;rw[xu b hd];exact k (Go.id z) .bl_mk
noncomputable def JQ:D->Bool
 | .non=>true | .bl _=>true | .int _=>true | .str _=>true
 | _=>false
noncomputable def eqF:D->D->Bool
 | .non,y=>match y with | .non=>true | _=>false
 | .bl a,y=>match y with | .bl b=>a==b | _=>false
 | .int a,y=>match y with | .int b=>a==b | _=>false
 | .str a,y=>match y with | .str b=>a==b | _=>false
 | _,_=>false
noncomputable def K9:D->D->Bool
 | .bl _,.int _=>false
 | .int _,.bl _=>false
 | _,_=>true
def jbP(d:Rep R Z H x v O1)(c:Rep R Z H y u O2)(h:(JQ x&&JQ y&&K9 x y)=true):jmn v u=true/\decide (v=u)=eqF x y:=by
 cases x with
 | non=>
  obtain⟨rfl,_⟩:=d.non_of;cases y with
  | non=>obtain⟨rfl,_⟩:=c.non_of;exact⟨rfl,rfl⟩
  | bl b=>obtain⟨rfl,_⟩:=c.bl_of;exact⟨rfl,rfl⟩
  | int b=>obtain⟨rfl,_⟩:=c.int_of;exact⟨rfl,rfl⟩
  | str b=>obtain⟨rfl,_⟩:=c.str_of;exact⟨rfl,rfl⟩
  | _=>cases h
 | bl a=>
  obtain⟨rfl,_⟩:=d.bl_of;cases y with
  | non=>obtain⟨rfl,_⟩:=c.non_of;exact⟨rfl,rfl⟩
  | bl b=>obtain⟨rfl,_⟩:=c.bl_of;exact⟨rfl,by rw[jbE];rfl⟩
  | str b=>obtain⟨rfl,_⟩:=c.str_of;exact⟨rfl,rfl⟩
  | _=>cases h
 | int a=>
  obtain⟨rfl,_⟩:=d.int_of;cases y with
  | non=>obtain⟨rfl,_⟩:=c.non_of;exact⟨rfl,rfl⟩
  | int b=>obtain⟨rfl,_⟩:=c.int_of;exact⟨rfl,by rw[wu];rfl⟩
  | str b=>obtain⟨rfl,_⟩:=c.str_of;exact⟨rfl,rfl⟩
  | _=>cases h
 | str a=>
  obtain⟨rfl,_⟩:=d.str_of;cases y with
  | non=>obtain⟨rfl,_⟩:=c.non_of;exact⟨rfl,rfl⟩
  | bl b=>obtain⟨rfl,_⟩:=c.bl_of;exact⟨rfl,rfl⟩
  | int b=>obtain⟨rfl,_⟩:=c.int_of;exact⟨rfl,rfl⟩
  | str b=>
   obtain⟨rfl,_⟩:=c.str_of;refine⟨rfl,?_⟩;rw[Bool.eq_iff_iff];simp[eqF,jm0]
  | _=>cases h
 | _=>cases h
def inL(x:D)(l:List D):Bool:=l.any λy=>eqF y x
def jeA(x:D)(l:List D):Bool:=JQ x&&l.all λy=>JQ y&&K9 y x
def yZ(neg:Bool)(x y:D):Option D:=match y with
 | .str s=>(match x with
  | .str [c]=>some<|.bl<|neg != decide (c∈s)
  | _=>none)
 | .lst _ l=>bif jeA x l then some (.bl<|neg != inL x l) else none
 | .tup l=>bif jeA x l then some (.bl<|neg != inL x l) else none
 | _=>none
def Reps.flat(c:Rep R Z H x v P)(d:JQ x=true):∀{l}{vs}{O},Reps R Z H l vs O->(l.all λy=>JQ y&&K9 y x)=true->VE v=true/\vs.all VE=true/\inV v vs=inL x l:=by
 intro l
 induction l with
 | nil=>
  intro _ _ h _;obtain⟨rfl,_⟩:=h;refine⟨?_,rfl,rfl⟩;cases x with
  | non=>obtain⟨rfl,_⟩:=c.non_of;rfl
  | bl b=>obtain⟨rfl,_⟩:=c.bl_of;rfl
  | int b=>obtain⟨rfl,_⟩:=c.int_of;rfl
  | str b=>obtain⟨rfl,_⟩:=c.str_of;rfl
  | _=>cases d
 | cons y l g=>
  intro _ _ h f;obtain⟨u,vs,n,o,rfl,rfl,e,i⟩:=h;rw[List.all_cons,M0] at f;obtain⟨j,k,m⟩:=g i f.2;have key:VE u=true/\eqV u v=eqF y x:=by
   cases y with
   | non=>
    obtain⟨rfl,_⟩:=e.non_of;cases x with
    | non=>obtain⟨rfl,_⟩:=c.non_of;exact⟨rfl,rfl⟩
    | bl b=>obtain⟨rfl,_⟩:=c.bl_of;exact⟨rfl,rfl⟩
    | int b=>obtain⟨rfl,_⟩:=c.int_of;exact⟨rfl,rfl⟩
    | str b=>obtain⟨rfl,_⟩:=c.str_of;exact⟨rfl,rfl⟩
    | _=>cases d
   | bl a=>
    obtain⟨rfl,_⟩:=e.bl_of;cases x with
    | non=>obtain⟨rfl,_⟩:=c.non_of;exact⟨rfl,rfl⟩
    | bl b=>obtain⟨rfl,_⟩:=c.bl_of;exact⟨rfl,rfl⟩
    | str b=>obtain⟨rfl,_⟩:=c.str_of;exact⟨rfl,rfl⟩
    | int b=>exact absurd f.1 (by simp[K9])
    | _=>cases d
   | int a=>
    obtain⟨rfl,_⟩:=e.int_of;cases x with
    | non=>obtain⟨rfl,_⟩:=c.non_of;exact⟨rfl,rfl⟩
    | int b=>obtain⟨rfl,_⟩:=c.int_of;exact⟨rfl,rfl⟩
    | str b=>obtain⟨rfl,_⟩:=c.str_of;exact⟨rfl,rfl⟩
    | bl b=>exact absurd f.1 (by simp[K9])
    | _=>cases d
   | str a=>
    obtain⟨rfl,_⟩:=e.str_of;cases x with
    | non=>obtain⟨rfl,_⟩:=c.non_of;exact⟨rfl,rfl⟩
    | bl b=>obtain⟨rfl,_⟩:=c.bl_of;exact⟨rfl,rfl⟩
    | int b=>obtain⟨rfl,_⟩:=c.int_of;exact⟨rfl,rfl⟩
    | str b=>
     obtain⟨rfl,_⟩:=c.str_of;refine⟨rfl,?_⟩;rw[Bool.eq_iff_iff];simp[eqF,eqV,jm0]
    | _=>cases d
   | _=>exact absurd f.1 (by simp[JQ])
  refine⟨j,by rw[List.all_cons,key.1,k];rfl,?_⟩;show(eqV u v||inV v vs)=(eqF y x||inL x l);rw[key.2,m]
def joM(neg:Bool):R2:=λx y H Q=>∃ c l,x=.str (S [c])/\y=.str (S l)/\Q (.bl<|if neg then !decide (c∈l) else decide (c∈l)) H
def jgK(K:J4)(neg:Bool):R2:=λx y H Q=>joM neg x y H Q\/rIn K neg x y H Q
def jk7:OpR X (compareOp .In) (jgK X.K false):=YX jk6 jcO
def ja1:OpR X (compareOp .NotIn) (jgK X.K true):=YX ja0 zX
def wm(a b):(if a=true then !b else b)=(a != b):=by cases a<;>cases b<;>rfl
def jk0:BO R (jgK R.K neg) (yZ neg):=by
 intro Z H x y d v u q r z b g e Q k;cases y with
 | str s=>
  cases x with
  | str t=>
   match t,e,b with
   | [c],e,b=>
    cases e;obtain⟨rfl,_⟩:=b.str_of;obtain⟨rfl,_⟩:=g.str_of;refine .inl ⟨c,s,rfl,rfl,?_⟩;rw[wm];exact k (Go.id z) .bl_mk
   | [],e,b=>cases e
   | _::_::_,e,b=>cases e
  | _=>cases e
 | lst o l=>
  have f:=e;refine oc f λa f=>?_;cases f;unfold jeA at a;rw[M0] at a;obtain⟨p,vs,w,rfl,h,i⟩:=g.lst_of;obtain⟨j,m,n⟩:=i.flat b a.1 a.2;refine .inr ⟨p,vs,rfl,.inl h.sq,j,m,?_⟩;rw[n,wm];exact k (Go.id z) .bl_mk
 | tup l=>
  have f:=e;refine oc f λa f=>?_;cases f;unfold jeA at a;rw[M0] at a;obtain⟨p,vs,rfl,h,i⟩:=g.tup_of;obtain⟨j,m,n⟩:=i.flat b a.1 a.2;refine .inr ⟨p,vs,rfl,.inr h,j,m,?_⟩;rw[n,wm];exact k (Go.id z) .bl_mk
 | _=>cases e
def jf(x y:D):Option D:=match y with
 | .int i=>(match x with
  | .lst _ l=>atI l i
  | .tup l=>atI l i
  | .str s=>bif lim s.length then(atI s i).bind λc=>some (.str [c]) else none
  | _=>none)
 | _=>none
def Reps.atI(r:Reps R Z H l vs O)(e:L2.atI l i=some d):∃ v P,L2.atI vs i=some v/\Rep R Z H d v P:=by
 unfold L2.atI at e ⊢;rw[r.length];cases h:ixN l.length i with
 | none=>rw[h] at e;cases e
 | some j=>
  rw[h] at e;obtain⟨v,A,P,B,a,_,b,_⟩:=r.at<|e;exact⟨v,P,a,b⟩
def jlF:BO' R (rIx R.K) jf:=by
 intro Z H x y d v u q r z a m e Q k;cases y with
 | int i=>
  obtain⟨rfl,_⟩:=m.int_of;cases x with
  | lst o l=>
   obtain⟨p,vs,t,rfl,b,f⟩:=a.lst_of;obtain⟨w,P,g,j⟩:=f.atI e;exact .inl ⟨p,vs,i,w,rfl,rfl,b.sq,g,k j⟩
  | tup l=>
   obtain⟨p,vs,rfl,b,f⟩:=a.tup_of;obtain⟨w,P,g,j⟩:=f.atI e;exact .inr<|.inl ⟨p,vs,i,w,rfl,rfl,b,g,k j⟩
  | str s=>
   obtain⟨rfl,_⟩:=a.str_of;refine oc e λn e=>ob e λc h e=>?_;cases e;refine .inr<|.inr ⟨S s,i,c,rfl,rfl,by rw[ql];exact qN n,by rw[vE];exact h,?_⟩;exact k .str_mk
  | _=>cases e
 | _=>cases e
abbrev OF:=Rh->Option (Option Int)
def PO'(R:RC)(t:TO)(p:OF):Prop:=∀{σ}{ρ}{Z}{H}{O}{i},Zd Z H->Slots R Z H ρ σ O->p ρ=some i ->
 ∀{Q:Option Int->Hp->Prop},(∀{Z'}{H'},Go Z H [] Z' H' []->Q i H')->t σ H Q
@[simp] def oN(ρ:Rh):Option (Option Int):=some none
@[simp] def oS(pa:PF)(ρ:Rh):Option (Option Int):=(pa ρ).bind λd=>(Jp d).bind λi=>some<|some i
def joS:PO' R uc oN:=by
 intro σ ρ Z H O i z s e Q k;cases e;exact k<|Go.id z
def joN(h:PB R te p):PO' R (jhA te) (oS p):=by
 intro σ ρ Z H O i z s e Q k;refine ob e λx a e=>ob e λj e2 e=>?_;cases e;cases k8 e2;refine h z s a λ{v d f g} b c=>?_;obtain⟨rfl,_⟩:=c.int_of;exact⟨j,rfl,k b⟩
def jiL(lo hi:Option Int):D->Option D
 | .str s=>bif lim s.length then some (.str<|JY s lo hi) else none
 | .lst _ l=>bif frzs l then some (.lst true<|JY l lo hi) else none
 | .tup l=>bif frzs l&&decide ((JY l lo hi).length<l.length) then some (.tup<|JY l lo hi) else none
 | _=>none
def jmR(K:J4):V->Option Int->Option Int->Hp->VK->Prop:=λx lo hi H Q=>joy x lo hi H Q\/jom K x lo hi H Q\/jox K x lo hi H Q
def joZ:SlR X (jmR X.K):=SlR.or jkt<|SlR.or jii jlR
@[simp] def pSl(pa:PF)(pl:OF)(ph:OF)(ρ:Rh):Option D:=(pa ρ).bind λx=>(pl ρ).bind λlo=>(ph ρ).bind λhi=>jiL lo hi x
def Reps.cut(r:Reps R Z H l vs [])(lo hi):Reps R Z H (JY l lo hi) (jiG vs lo hi) []:=by
 unfold JY jiG;rw[r.length];exact(r.drop _).take _
def jmc(B:PB R te pa)(hl:PO' R tl pl)(C:PO' R th ph):PP R (tSl (jmR R.K) te tl th) (pSl pa pl ph):=by
 intro σ ρ Z H O d z s e Q k;refine ob e λx D e=>ob e λu e2 e=>ob e λw e3 e=>(B z s D λ{v F G I} i E=>(hl i.wf.zd (i.slots z s) e2 λ{J L} m=>?_));have f:=i.pair m;refine C m.wf.zd (f.slots z s) e3 λ{Z3 M} g3=>?_;have a:=f.pair g3;have n:=(m.pair g3).rep i.wf.zd E;cases x with
 | str t=>
  refine oc e λc e=>?_;cases e;obtain⟨rfl,_⟩:=n.str_of;exact .inl ⟨t,rfl,qN c,k a .str_mk⟩
 | lst o l=>
  refine oc e λc e=>?_;cases e;obtain⟨p,vs,N,rfl,q,j⟩:=n.lst_of;have g:=g3.wf.zd;exact .inr<|.inl ⟨p,vs,rfl,q.sq,λb h=>k ⇑(a.pair<|Go.newO (wf0 g) h) (Rep.lstNew (wf0 g) h<|(j.frozen c).cut u w)⟩
 | tup l=>
  refine oc e λc e=>?_;cases e;simp only[M0,decide_eq_true_eq] at c;obtain⟨p,vs,rfl,q,j⟩:=n.tup_of;have g:=g3.wf.zd;refine .inr<|.inr ⟨p,vs,rfl,q,?_,λb h=>k ⇑(a.pair<|Go.newF (wf0 g) h) (Rep.tupNew (wf0 g) h<|(j.frozen c.1).cut u w)⟩;rintro⟨y,A⟩;have r:=c.2;unfold JY at r;rw[j.length] at y A;rw[y,A,List.drop_zero,Nat.sub_zero,List.take_length] at r;exact absurd r<|Nat.lt_irrefl _
 | _=>cases e
def jpc:D->Option D
 | .lst _ l=>some<|.int l.length
 | .tup l=>some<|.int l.length
 | .str s=>bif lim s.length then some (.int s.length) else none
 | _=>none
def vg(l:List D):Option D:=(jd8 l).bind jpc
def jjb:BC R (λxs H Q=>∃ x n,xs=[x]/\jk2 R.K x H n/\Q (.int n) H) vg:=by
 intro Z H xs d vs O z r e Q k;refine ob e λx g e=>?_;rw[qr g] at r;obtain⟨v,rfl,a⟩:=r.one_of;cases x with
 | lst o l=>
  cases e;obtain⟨p,b,i,rfl,c,f⟩:=a.lst_of;exact⟨_,_,rfl,.inl ⟨b,c.sq,rfl⟩,by rw[f.length];exact k (Go.id z) .int_mk⟩
 | tup l=>
  cases e;obtain⟨p,b,rfl,c,f⟩:=a.tup_of;exact⟨_,_,rfl,.inr ⟨b,c,rfl⟩,by rw[f.length];exact k (Go.id z) .int_mk⟩
 | str s=>
  refine oc e λh e=>?_;cases e;obtain⟨rfl,_⟩:=a.str_of;exact⟨_,_,rfl,⟨by rw[ql];exact qN h,rfl⟩,by rw[ql];exact k (Go.id z) .int_mk⟩
 | _=>cases e
noncomputable def Jz:List D->Option (List Bool)
 | []=>some []
 | d::l=>match d with
  | .bl i=>((Jz l).bind λr=>some<|i::r)
  | _=>none
def Reps.bools:∀{l}{vs}{O}{ns},Reps R Z H l vs O->Jz l=some ns->vs=ns.map V.bl:=by
 intro l
 induction l with
 | nil=>intro vs O ns h e;rw[Reps] at h;cases e;exact h.1
 | cons d l a=>
  intro vs O ns h e;obtain⟨v,vs,g,j,rfl,rfl,b,c⟩:=h;cases d with
  | bl i=>
   refine ob e λr f e=>?_;cases e;rw[a c f,b.bl_of.1];rfl
  | _=>cases e
def jlc:List D->Option D
 | [.lst _ l]=>(Jz l).bind λns=>some<|.bl<|ns.all λb=>b
 | _=>none
def jlY(l:List D):Option D:=(jd8 l).bind λx=>(jhb x).bind λl=>(Jz l).bind λns=>some<|.bl<|ns.any λb=>b
def jiM:BC R (λxs H Q=>∃(p:Addr) (bs:List Bool),xs=[.ref p]/\SqL R.K H p (bs.map V.bl)/\Q (.bl<|bs.all λb=>b) H) jlc:=by
 intro Z H xs d vs O z r e Q k
 match xs,e,r with
 | [.lst o l],e,r=>
  refine ob e λns a e=>?_;cases e;obtain⟨v,rfl,c⟩:=r.one_of;obtain⟨p,h,i,rfl,f,g⟩:=c.lst_of;have:=g.bools a;subst this;exact⟨p,ns,rfl,f.sq,k (Go.id z) .bl_mk⟩
def ji4:BC R (λxs H Q=>∃(p:Addr) (bs:List Bool),xs=[.ref p]/\SqL R.K H p (bs.map V.bl)/\Q (.bl<|bs.any λb=>b) H) jlY:=by
 intro Z H xs d vs O z r e Q k;refine ob e λx a e=>ob e λl c e=>ob e λns f e=>?_;cases e;obtain⟨o,rfl⟩:=xR c;rw[qr a] at r;obtain⟨v,rfl,g⟩:=r.one_of;obtain⟨p,j,m,rfl,h,i⟩:=g.lst_of;have:=i.bools f;subst this;exact⟨p,ns,rfl,h.sq,k (Go.id z) .bl_mk⟩
def f2I(g:Int->Int->Int)(l:List D):Option D:=(two1 l).bind λp=>two (λi j=>some<|.int<|g i j) p.1 p.2
def jmN:BC R (λxs H Q=>∃ i j,xs=[.int i,.int j]/\Q (.int<|g i j) H) (f2I g):=by
 intro Z H xs d vs O z r e Q k;refine ob e λp a e=>?_;obtain⟨i,j,e2,e3,e⟩:=two_of e;cases e;rw[two1_of a,e2,e3] at r;obtain⟨v,u,f,h,rfl,_,b,c⟩:=r.two_of;obtain⟨rfl,_⟩:=b.int_of;obtain⟨rfl,_⟩:=c.int_of;exact⟨i,j,rfl,k (Go.id z) .int_mk⟩
abbrev jnh:List D->Option D:=f2I λi j=>if j<i then j else i
noncomputable def jaZ(w:List Nat):Bool:=!w.isEmpty&&(decide (w.length<=600)&&w.all λc=>decide (48<=c)&&decide (c<=57))
def jl6:List D->Option D
 | [.str w]=>bif jaZ w then some (.int (NumText.digitsVal w:Nat)) else none
 | _=>none
def V8:List D->Option D
 | [.int i]=>bif decide (0<=i)&&decide (i<2 ^ 200) then some (.str<|JP i.toNat) else none
 | [.str s]=>some<|.str s
 | _=>none
def jlE:BC R (λxs H Q=>∃ w:List Nat,xs=[.str<|S w]/\NumText.AllDigits w/\w≠[]/\w.length<=600/\Q (.int (NumText.digitsVal w:Nat)) H) jl6:=by
 intro Z H xs d vs O z r e Q k
 match xs,e,r with
 | [.str w],e,r=>
  refine oc e λa e=>?_;cases e;unfold jaZ at a;simp only[M0,decide_eq_true_eq,List.all_eq_true,Bool.not_eq_true',List.isEmpty_eq_false_iff] at a;obtain⟨v,rfl,b⟩:=r.one_of;obtain⟨rfl,_⟩:=b.str_of;exact⟨w,rfl,a.2.2,a.1,a.2.1,k (Go.id z) .int_mk⟩
def jdD(h:CallR X f r)(h':CallR X f r'):CallR X f (λxs H Q=>r xs H Q\/r' xs H Q):=CallR.or h h'
def jkL:BC R (λxs H Q=>(∃ i:Int,xs=[.int i]/\0<=i/\i<2 ^ 200/\Q (.str<|S<|JP i.toNat) H) \/ ∃ x,xs=[.str x]/\Q (.str x) H) V8:=by
 intro Z H xs d vs O z r e Q k
 match xs,e,r with
 | [.int i],e,r=>
  refine oc e λa e=>?_;cases e;simp only[M0,decide_eq_true_eq] at a;obtain⟨v,rfl,b⟩:=r.one_of;obtain⟨rfl,_⟩:=b.int_of;exact .inl ⟨i,rfl,a.1,a.2,k (Go.id z) .str_mk⟩
 | [.str s],e,r=>
  cases e;obtain⟨v,rfl,b⟩:=r.one_of;obtain⟨rfl,_⟩:=b.str_of;exact .inr ⟨_,rfl,k (Go.id z) .str_mk⟩
def jpy:D->Option D
 | .lst _ l=>bif frzs l then some (.lst true l) else none
 | .tup l=>bif frzs l then some (.lst true l) else none
 | _=>none
def YA(l:List D):Option D:=(jd8 l).bind jpy
def ki(l:List D):Option D:=(jd8 l).bind λx=>(jhb x).bind λl=>bif frzs l then some (.tup l) else none
def jhm:BC R (λxs H Q=>∃ p ys,xs=[.ref p]/\(SqL R.K H p ys\/SqT R.K H p ys)/\∀ l,H l=none->Q (.ref l) (upd H l<|.lst ys)) YA:=by
 intro Z H xs d vs O z r e Q k;refine ob e λx j e=>?_;rw[qr j] at r;obtain⟨v,rfl,i⟩:=r.one_of;cases x with
 | lst o l=>
  refine oc e λc e=>?_;cases e;obtain⟨p,f,m,rfl,g,h⟩:=i.lst_of;exact⟨p,f,rfl,.inl g.sq,λb a=>k (Go.newO (wf0 z) a)<|Rep.lstNew (wf0 z) a<|h.frozen c⟩
 | tup l=>
  refine oc e λc e=>?_;cases e;obtain⟨p,f,rfl,g,h⟩:=i.tup_of;exact⟨p,f,rfl,.inr g,λb a=>k (Go.newO (wf0 z) a)<|Rep.lstNew (wf0 z) a<|h.frozen c⟩
 | _=>cases e
def je3:BC R (λxs H Q=>∃ p ys,xs=[.ref p]/\((SqL R.K H p ys/\∀ l,H l=none->Q (.ref l) (upd H l<|.tup ys))\/(SqT R.K H p ys/\Q (.ref p) H))) ki:=by
 intro Z H xs d vs O z r e Q k;refine ob e λx c e=>ob e λl f e=>oc e λg e=>?_;cases e;obtain⟨o,rfl⟩:=xR f;rw[qr c] at r;obtain⟨v,rfl,h⟩:=r.one_of;obtain⟨p,i,n,rfl,j,m⟩:=h.lst_of;exact⟨p,i,rfl,.inl ⟨j.sq,λb a=>k (Go.newF (wf0 z) a)<|Rep.tupNew (wf0 z) a<|m.frozen g⟩⟩
noncomputable def tyD:D->Option String
 | .non=>some "NoneType" | .bl _=>some "bool" | .int _=>some "int" | .str _=>some "str" | .tup _=>some "tuple" | .lst _ _=>some "list"
 | .dK true _ _=>some "dict"
 | _=>none
noncomputable def Q2(t T:String):Bool:=t==T||(t=="bool"&&T=="int")
@[simp] def QZ(T:String)(pa:PF)(ρ:Rh):Option D:=(pa ρ).bind λd=>(tyD d).bind λt=>some<|.bl<|Q2 t T
def jgw(K)  (a:t∈["NoneType","bool","int","str","tuple","list","dict"]) (hT:T∈["bool","int","str","tuple","list","dict"]):PySem.W.kitOne K (.type t) (.type T)=some (Q2 t T):=by
 simp only[M4,List.not_mem_nil,or_false] at a hT;rcases a with rfl | rfl | rfl | rfl | rfl | rfl | rfl<;>rcases hT with rfl | rfl | rfl | rfl | rfl | rfl<;>rfl
def Rep.ty(r:Rep R Z H x v O)(e:tyD x=some t):TyQ R.K H v t/\t∈["NoneType","bool","int","str","tuple","list","dict"]:=by
 cases x with
 | non=>cases e;obtain⟨rfl,_⟩:=r.non_of;exact⟨.non,by simp⟩
 | bl b=>cases e;obtain⟨rfl,_⟩:=r.bl_of;exact⟨.bl _,by simp⟩
 | int i=>cases e;obtain⟨rfl,_⟩:=r.int_of;exact⟨.int _,by simp⟩
 | str s=>cases e;obtain⟨rfl,_⟩:=r.str_of;exact⟨.str _,by simp⟩
 | tup l=>cases e;obtain⟨p,d,rfl,c,f⟩:=r.tup_of;exact⟨.tup c,by simp⟩
 | lst o l=>cases e;obtain⟨p,d,g,rfl,c,f⟩:=r.lst_of;exact⟨.lst c.sq,by simp⟩
 | dK o ks l=>cases o with
  | false=>cases e
  | true=>cases e;rw[Rep] at r;obtain⟨a,vs,g,rfl,_,_,hd,_⟩:=r;exact⟨.dK hd,by simp⟩
 | _=>cases e
def jiP(hT:T∈["bool","int","str","tuple","list","dict"])  (h:PB R te p):
  PP R (tCB (λxs H Q=>∃ x T t b,xs=[x,.ty T]/\TyQ R.K H x t/\PySem.W.kitOne R.K (.type t) (.type T)=some b/\Q (.bl b) H)<|vq te<|vq (tC<|.ty T) Jl) (QZ T p):=by
 intro σ ρ Z H O d z s e Q k;refine ob e λx a e=>ob e λt e2 e=>?_;cases e;refine h z s a λ{v j l m} c f=>?_;obtain⟨g,i⟩:=f.ty e2;exact⟨v,T,t,Q2 t T,rfl,g,jgw _ i hT,k c .bl_mk⟩
noncomputable def jaW:List D->List D->List D
 | x::l,y::m=>.tup [x,y]::jaW l m
 | _,_=>[]
def jen(z:Zd Z H)(hp:H p=none)(b:Rep R Z H x u [])(c:Rep R Z H y v []):Rep R (λa=>Z a\/a=p) (upd H p<|.tup [u,v]) (.tup [x,y]) (.ref p) []:=
 Rep.tupNew (wf0 z) hp (.cons b<|.cons c .empty)
def jfZ(hl:FL R Z H a ws)(k:Reps R Z H l ws [])(hn:L.length=l.length)(m:∀(i:Nat) y,L[i]?=some y->∃ x,l[i]?=some x/\y=.tup [.int<|n+i,x]):jik R (Itn R.K a n) Z H L:=by
 intro A B d e zd i;have b:=(hl.frame d e).sq;have f:=k.frame d e λa o=>(nomatch o);refine⟨λp=>⟨ws,b,by rw[f.length,<- hn];exact p⟩,λx r=>?_⟩;obtain⟨y,s,rfl⟩:=m i x r;obtain⟨u,g,v⟩:=f.item s;refine⟨⟨ws,u,b,g⟩,λw C c=>?_⟩;obtain⟨q,t,z,rfl,h,rfl⟩:=c;have j:=z ws b;rw[g] at j;cases j;exact⟨_,Go.newF (wf0 zd) h,jen zd h .int_mk v⟩
def jlO(h:ixN n i=some j):j<n:=(xJ h).2.1
@[simp] def gIx(pm:List Nat)(i:Nat)(pi:PF)(d:D)(ρ:Rh):Option Rh:=(pi ρ).bind λk=>(Jp k).bind λk=>(pV i ρ).bind λx=>(Jq x).bind λl=>(ixN l.length k).bind λj=>some<|ρ.set i<|some<|.lst true<|l.set j d
def jhG(a:Reps R Z H l vs O)(b:j<l.length)(rd:Rep R Z H d u P):∃ O2,Reps R Z H (l.set j d) (vs.set j u) O2/\∀ q,O2.count q<=O.count q+P.count q:=by
 obtain⟨c,e,f,g,h,rfl,i,put⟩:=a.at (show l[j]?=some l[j] by simp[b]);exact⟨_,put rd (λ_ z=>z) (λ_ _=>rfl) (λ_ _=>rfl)<|λ_ _=>rfl,λq=>by simp only[X7];lia⟩
def jn2(h:PB R te pi):DG R pm (jmK (Jt i) te jgU) (gIx pm i pi):=by
 intro σ ρ C Z H O P d v w r s e Q k;refine ob e λx f e=>ob e λn e3 e=>ob e λy g e=>ob e λl m e=>ob e λj e2 e=>?_;cases e;cases k8 e3;cases Jg m;refine Kx K0 w s g rfl YU λa _ vs D c _ o p put=>p<|h w.zd s f λ{u E F G} b t=>?_;obtain⟨rfl,_⟩:=t.int_of;obtain⟨I,z,A⟩:=jhG (b.reps w.zd c) (jlO e2)<|b.rep w.zd r;obtain⟨J,g3,B⟩:=put YU trivial b z λq=>by have:=A q;simp;lia
 exact⟨a,vs,n,j,rfl,rfl,b.at0 o,by rw[c.length];exact e2,k g3 B<|Keep.refl _ _⟩
@[simp] def sAugIx(i:Nat)(pi:PF)(g:Int->Int->Int)(pe:PF)(ρ:Rh):Option Out:=(pi ρ).bind λk=>(Jp k).bind λk=>(pV i ρ).bind λx=>(Jq x).bind λl=>(ixN l.length k).bind λj=>(l[j]?).bind λy=>(Jp y).bind λa=>(pe ρ).bind λz=>(Jp z).bind λb=>some<|.nx<|ρ.set i<|some<|.lst true<|l.set j<|.int<|g a b
end QD
namespace QD
open PySem L2 PySem.Spec PyProof.Rows
section
variable (c:Nat->Addr)(pm:List Nat)(X:Cx)
structure QP(e:Expr)(te:TE)(p:PF):Prop where
 sem:PE X e te
 den:PP ⟨X.K,c⟩ te p
structure QB(e:Expr)(te:TE)(p:PF):Prop where
 sem:PE X e te
 den:PB ⟨X.K,c⟩ te p
structure QPs(es:List Expr)(ta:TA)(p:PAf):Prop where
 sem:PA X es ta
 den:PPs ⟨X.K,c⟩ ta p
structure QBs(es:List Expr)(ta:TA)(p:PAf):Prop where
 sem:PA X es ta
 den:PBs ⟨X.K,c⟩ ta p
 n:∀ ρ ds,p ρ=some ds->ds.length=es.length
structure QT(e:Expr)(tt:TT)(q:PTf):Prop where
 sem:PT X e tt
 den:PTt ⟨X.K,c⟩ tt q
structure QW(e:Expr)(tt:TT)(q:PTf):Prop where
 sem:PW X e tt
 den:PTt ⟨X.K,c⟩ tt q
structure QI(tg e:Expr)(wi:TI)(p:PAf):Prop where
 sem:PI X tg e wi
 den:PIt ⟨X.K,c⟩ wi p
structure QG(tg:Expr)(t:TG)(g:D->Rh->Option Rh):Prop where
 sem:PG X tg t
 den:PGt ⟨X.K,c⟩ pm t g
structure QGs(tg:List Expr)(t:TGs)(g:List D->Rh->Option Rh):Prop where
 sem:PGs X tg t
 den:jkb ⟨X.K,c⟩ pm t g
structure QE(e:Expr)(te:TE)(f:FE):Prop where
 sem:PE X e te
 den:DE ⟨X.K,c⟩ te f
structure QS(st:Stmt)(ts:TS)(f:FS):Prop where
 sem:PS X st ts
 den:DS ⟨X.K,c⟩ pm ts f
structure QSs(st:List Stmt)(ts:TS)(f:FS):Prop where
 sem:PSs X st ts
 den:DS ⟨X.K,c⟩ pm ts f
structure QO(e:Option Expr)(t:TO)(p:OF):Prop where
 sem:PO X e t
 den:PO' ⟨X.K,c⟩ t p
structure QIf(ifs:List Expr)(tc:TT)(q:PTf):Prop where
 sem:PIf X ifs tc
 den:PTt ⟨X.K,c⟩ tc q
end
section
variable {cl:Nat->Addr}{pm:List Nat}{X:Cx}{a b c e o:Expr}{es:List Expr}{ta tb tc te:TE}{pa pb pc pe:PF}{tA tB:TT}{qa qb:PTf}{tr:TA}{pr:PAf}{pos:Pos}
def QP.bb(h:QP cl X e te pe):QB cl X e te pe:=⟨h.sem,PP.b h.den⟩
def QB.f(h:QB cl X e te pe):QP cl X e te (pF pe):=⟨h.sem,PB.f h.den⟩
def QP.d(h:QP cl X e te pe):QE cl X e te (dP pe):=⟨h.sem,PP.d h.den⟩
def jhh(i){x}(b:X.N[i]?=some x:=by rfl)(c:Vis X.env.scope x:=by first | exact Or.inl rfl | exact Or.inr (Or.inl rfl) | exact Or.inr<|Or.inr rfl)(hd:Nd x:=by decide)
  (a:(x==("__classdict__" : Str))=false:=by decide):QB cl X (.Name x pos) (Jt i) (pV i):=⟨jfH b c hd a,jlm⟩
def jpr(i){x}(b:X.N[i]?=some x:=by rfl)(c:Vis X.env.scope x:=by first | exact Or.inl rfl | exact Or.inr (Or.inl rfl) | exact Or.inr<|Or.inr rfl)(hd:Nd x:=by decide)
  (a:(x==("__classdict__" : Str))=false:=by decide):QE cl X (.Name x pos) (Jt i) (dMv i):=⟨jfH b c hd a,jmY⟩
def jly{i}{j}:QP cl X (.Constant (.int i) j pos) (tC<|.int i) (pI i):=⟨jfV,jhN λ_ _=>.int_mk⟩
def jpu{i}{j}:QP cl X (.Constant (.bool i) j pos) (tC<|.bl i) (pC<|.bl i):=⟨jne,jhN λ_ _=>.bl_mk⟩
def jkl{j}:QP cl X (.Constant .none j pos) (tC .non) (pC .non):=⟨jk8,jhN λ_ _=>.non_mk⟩
def jmh{x}{j}(l)(h:x=S l):QP cl X (.Constant (.str x) j pos) (tC<|.str x) (pS l):=⟨jjp,by subst h;exact jhN λ_ _=>.str_mk⟩
def jpx{x}{i}{t}(a:X.mg x=some (.int i t))(b:Gl X x:=by rfl)(hd:Nd x:=by decide):QP cl X (.Name x pos) (tC<|.int i) (pI i):=⟨wA b a ⟨t,rfl⟩ hd,jhN λ_ _=>.int_mk⟩
def joL{x y}{t}(l)(a:X.mg x=some (.str y t))(h:y=S l)(b:Gl X x:=by rfl)(hd:Nd x:=by decide):QP cl X (.Name x pos) (tC<|.str y) (pS l):=⟨wA b a ⟨t,rfl⟩ hd,by subst h;exact jhN λ_ _=>.str_mk⟩
def joW{x}{p}(d)(a:X.mg x=some (.ref p))(b:∀ Z H,Rep ⟨X.K,cl⟩ Z H d (.ref p) [])(c:Gl X x:=by rfl)(hd:Nd x:=by decide):QP cl X (.Name x pos) (tC<|.ref p) (pC d):=
 ⟨wA c a rfl hd,jhN b⟩
def jjD(c:QB cl X a ta pa)(d:QB cl X b tb pb):QP cl X (.BinOp a .Add b pos) (tOp (jbX X.K) ta tb) (p2 jO pa pb):=⟨Kg ja5 c.sem d.sem,Kf jfJ c.den d.den⟩
def jmd(c:QB cl X a ta pa)(d:QB cl X b tb pb):QP cl X (.BinOp a .Sub b pos) (tOp (rI0 λi j=>.int<|i-j) ta tb) (p2 Qq pa pb):=⟨Kg jj8 c.sem d.sem,Kf jku c.den d.den⟩
def jmt(c:QB cl X a ta pa)(d:QB cl X b tb pb):QP cl X (.BinOp a .Mult b pos) (tOp jij ta tb) (p2 qh pa pb):=⟨Kg jiD c.sem d.sem,Kf jke c.den d.den⟩
def jna(c:QB cl X a ta pa)(d:QB cl X b tb pb):QP cl X (.BinOp a .FloorDiv b pos) (tOp (rI (λ_ j=>jav j=true) λi j=>.int<|i/j) ta tb) (p2 yf pa pb):=⟨Kg jel c.sem d.sem,Kf jjY c.den d.den⟩
def jm9(c:QB cl X a ta pa)(d:QB cl X b tb pb):QP cl X (.BinOp a .Mod b pos) (tOp (rI (λ_ j=>0<j) λi j=>.int<|i%j) ta tb) (p2 jA pa pb):=⟨Kg jfI c.sem d.sem,Kf jfD c.den d.den⟩
def jnX(c:QB cl X a ta pa)(d:QB cl X b tb pb):QP cl X (.BinOp a .Pow b pos) (tOp (rI jm5 λi j=>.int<|i ^ j.toNat) ta tb) (p2 xQ pa pb):=⟨Kg jkk c.sem d.sem,Kf jkR c.den d.den⟩
def jkq(b:QB cl X a ta pa):QP cl X (.UnaryOp .USub a pos) (tUn (rU λi=>.int<|-i) ta) (p1 VF pa):=⟨jj2 jfs b.sem,jmv jk4 b.den⟩
def jnr(b:QB cl X a ta pa):QP cl X (.UnaryOp .Not a pos) (jgJ ta) (jfU pa):=⟨jkH b.sem,jiN b.den⟩
structure CmpR(cl:Nat->Addr)(X:Cx)(op:CmpOp)(b:Expr)(r:R2)(g:D->D->Option D):Prop where
 o:OpR X (compareOp op) r
 g:BO ⟨X.K,cl⟩ r g
 m:behindInMarks op b=false
def jpm:CmpR cl X .Lt b (rI0 λi j=>.bl<|decide<|i<j) jmQ:=⟨jnB,jmb,YO _⟩
def jpb:CmpR cl X .LtE b (rI0 λi j=>.bl<|decide<|i<=j) jfa:=⟨jmw,jmb,YO _⟩
def joq:CmpR cl X .Gt b (rI0 λi j=>.bl<|decide<|j<i) Y0:=⟨jnA,jmb,YO _⟩
def jpk:CmpR cl X .GtE b (rI0 λi j=>.bl<|decide<|j<=i) jl9:=⟨jnS,jmb,YO _⟩
def joK:CmpR cl X .Is b (λx y H Q=>y=.non/\Q (.bl<|decide<|x=.non) H) Kp:=⟨jiZ,jnj,YO _⟩
def jh2:CmpR cl X .IsNot b (λx y H Q=>y=.non/\Q (.bl<|!decide (x=.non)) H) qR:=⟨jhR,jdB,YO _⟩
def c_in(a:behindInMarks .In b=false):CmpR cl X .In b (jgK X.K false) (yZ false):=⟨jk7,jk0,a⟩
def c_notin(a:behindInMarks .NotIn b=false):CmpR cl X .NotIn b (jgK X.K true) (yZ true):=⟨ja1,jk0,a⟩
def jmz{c}{r}{g}(h:CmpR cl X c b r g)(d:QB cl X a ta pa)(e:QB cl X b tb pb):QP cl X (.Compare a [c] [b] pos) (tOp r ta tb) (p2 g pa pb):=⟨jgY h.o d.sem e.sem h.m,Kf h.g d.den e.den⟩
def jfk{c}{r}{g}(h:CmpR cl X c b r g)(d:QB cl X a ta pa)(e:QB cl X b tb pb):QT cl X (.Compare a [c] [b] pos) (zJ<|tOp r ta tb) (jd<|p2 g pa pb):=⟨jcu h.o d.sem e.sem h.m,Qz<|PP.b<|Kf h.g d.den e.den⟩
def jeB{e d}{r f}{g i}(h:CmpR cl X e b r g)(h':CmpR cl X d c f i)(j:QB cl X a ta pa)(k:QB cl X b tb pb)(l:QB cl X c tc pc)(m:lastMarks [e,d] [b,c]=false:=by with_unfolding_all rfl):
  QT cl X (.Compare a [e,d] [b,c] pos) (zJ<|jdg r f ta tb tc) (jd<|K3 g i pa pb pc):=⟨jds h.o h'.o j.sem k.sem l.sem m,Qz<|PP.b<|je2 h.g h'.g j.den k.den l.den⟩
def jlh(b:QB cl X a ta pa)(c:∀ whole,isTrue a X.env whole=(do let v <- whole;standAt a.pos;holding [v] (truthy v)):=by intro _;rfl):QT cl X a (L2.tB ta) (jd pa):=⟨jkA b.sem c,Qz b.den⟩
def jlJ(b:QT cl X a tA qa):QT cl X (.UnaryOp .Not a pos) (jnD tA) (jdo qa):=⟨jle b.sem,jhi b.den⟩
def jgv(b:QT cl X a tA qa):QW cl X (.BoolOp .And [a] pos) tA qa:=⟨jh5 b.sem,b.den⟩
def jju(b:QT cl X a tA qa):QW cl X (.BoolOp .Or [a] pos) tA qa:=⟨jfm b.sem,b.den⟩
def jjZ(c:QT cl X a tA qa)(d:QW cl X (.BoolOp .And (b::es) pos) tB qb):QW cl X (.BoolOp .And (a::b::es) pos) (jmo tA tB) (xE qa qb):=⟨jiS c.sem d.sem,ji9 c.den d.den⟩
def jn5(c:QT cl X a tA qa)(d:QW cl X (.BoolOp .Or (b::es) pos) tB qb):QW cl X (.BoolOp .Or (a::b::es) pos) (tOr tA tB) (qOr qa qb):=⟨jjE c.sem d.sem,jm6 c.den d.den⟩
def QW.t(h:QW cl X a tA qa):QT cl X a tA qa:=⟨PW.pt h.sem,h.den⟩
def jno{b}(h:QP cl X a ta pa):QP cl X (.BoolOp b [a] pos) ta pa:=⟨jiV h.sem,h.den⟩
def jn8(c:QB cl X a ta pa)(d:QP cl X (.BoolOp .And (b::es) pos) tb pb):QP cl X (.BoolOp .And (a::b::es) pos) (jfW ta tb) (jci pa pb):=⟨ji1 c.sem d.sem,jkW c.den d.den⟩
def joO(c:QB cl X a ta pa)(d:QP cl X (.BoolOp .Or (b::es) pos) tb pb):QP cl X (.BoolOp .Or (a::b::es) pos) (jm1 ta tb) (pOr pa pb):=⟨jng c.sem d.sem,jnQ c.den d.den⟩
def jou(d:QT cl X c tA qa)(e:QP cl X a ta pa)(f:QP cl X b tb pb):QP cl X (.IfExp c a b pos) (tIf tA ta tb) (pIf qa pa pb):=⟨jeo d.sem e.sem f.sem,jnM d.den e.den f.den⟩
def jiX:QPs cl X [] Jl pN:=⟨JC,pps_nil⟩
def jgz(a:QP cl X e te pe)(b:QPs cl X es tr pr)(c:SEq X e es:=by rfl):QPs cl X (e::es) (vq te tr) (ja pe pr):=⟨vy a.sem b.sem c,je5 a.den b.den⟩
def jfM:QBs cl X [] Jl pN:=⟨JC,xV,λρ a e=>by cases e;rfl⟩
def jcK(b:QB cl X e te pe)(a:QBs cl X es tr pr)(c:SEq X e es:=by rfl):QBs cl X (e::es) (vq te tr) (ja pe pr):=
 ⟨vy b.sem a.sem c,jfd b.den a.den,λρ d h=>by
  refine ob h λx f h=>ob h λxs e2 h=>?_;cases h;rw[M2,M2,a.n ρ xs e2]⟩
def jmE{a}(h:QPs cl X es tr pr):QP cl X (.Tuple es a pos) (jlp tr) (kC pr):=⟨jfp h.sem,jlG h.den⟩
def jm2(h:QPs cl X es tr pr):QP cl X (.List es pos) (jnT tr) (kF pr):=⟨jkg h.sem,jkz h.den⟩
def jnt(c:QB cl X a ta pa)(d:QB cl X b tb pb)(e:Vo b:=by exact λ_ _=>rfl):QB cl X (.Subscript a b pos) (tOp (rIx X.K) ta tb) (p2 jf pa pb):=⟨jf0 jbY c.sem d.sem e,jnG jlF c.den d.den⟩
def jit:QO cl X none uc oN:=⟨jg0,joS⟩
def jie(h:QB cl X e te pe):QO cl X (some e) (jhA te) (oS pe):=⟨jgE h.sem,joN h.den⟩
def jo4{lo hi}{tl th}{pl c}{b}(d:QB cl X a ta pa)(hl:QO cl X lo tl pl)(e:QO cl X hi th c):QP cl X (.Subscript a (.Slice lo hi none b) pos) (tSl (jmR X.K) ta tl th) (pSl pa pl c):=
 ⟨jdv joZ d.sem hl.sem e.sem,jmc d.den hl.den e.den⟩
def OkF(P:Program)(w:World)(K:J4)(mg:K6)(x:Str)(st:Stmt)(k:Nat)(ps:List Str)(sp:Sp):Prop:=∃ f fd,FnFact K mg x x st f fd ps/\∀ base,FnOk P w K mg base CX0 k f fd ps sp
def jfQ{k n}{ps}{m}{x}{st}{p}(O:OkF X.prog X.w X.K X.mg x st k ps<|spP ⟨X.K,cl⟩ m n)(d:Room k X.A)
  (a:QBs cl X (e::es) tr pr) (hn:(e::es).length=n:=by rfl) (f:Gl X x:=by rfl) (b:Nd x:=by decide)
  (g:SEq X e es:=by rfl) (c:BkE X pos es:=by rfl):QP cl X (.Call (.Name x p) (e::es) [] pos) (JH (spP ⟨X.K,cl⟩ m n) [] E0 tr) (jK m pr):=by
 obtain⟨_,_,F,G⟩:=O;exact⟨jhI F (G _) d a.sem f b g c,ja2 a.den λρ i h=>(a.n ρ i h).trans hn⟩
def jic{k n}{f}{fd}{ps}{m}{x qual}{st}{p}(F:FnFact X.K X.mg x qual st f fd ps)(G:FnOk X.prog X.w X.K X.mg X.base CX0 k f fd ps<|spP ⟨X.K,cl⟩ m n)(b:Room k X.A)
  (hn:0=n:=by rfl) (c:Gl X x:=by rfl) (a:Nd x:=by decide):QP cl X (.Call (.Name x p) [] [] pos) (JH (spP ⟨X.K,cl⟩ m n) [] E0 Jl) (jK m pN):=
 ⟨jkT F G b c a,ja2 xV λρ d h=>by cases h;exact hn⟩
def wz{x}{p}{id}{r}{g}(d:CallR X (.builtin id) r)(f:BC ⟨X.K,cl⟩ r g)(h:X.mg x=none)(i:bootBuiltins x=some (.builtin id))(c:QBs cl X (e::es) tr pr)(j:Gl X x:=by rfl)
  (hn:x≠"__name__":=by decide) (a:Nd x:=by decide) (k:SEq X e es:=by rfl) (b:BkE X pos es:=by rfl):
  QP cl X (.Call (.Name x p) (e::es) [] pos) (tCB r tr) (pCB g pr):=⟨Qx d j h i c.sem hn a k b,jlz f c.den⟩
def JM{x}{p}{T}{r}{g}(d:CallR X (.type T) r)(f:BC ⟨X.K,cl⟩ r g)(h:X.mg x=none)(i:bootBuiltins x=some (.type T))(c:QBs cl X (e::es) tr pr)(j:Gl X x:=by rfl)
  (hn:x≠"__name__":=by decide) (a:Nd x:=by decide) (k:SEq X e es:=by rfl) (b:BkE X pos es:=by rfl):
  QP cl X (.Call (.Name x p) (e::es) [] pos) (tCB r tr) (pCB g pr):=⟨jbI d j h i c.sem hn a k b,jlz f c.den⟩
def jkc(b:X.mg "len" = none){p}(c:QBs cl X [e] tr pr)(d:Gl X "len":=by rfl)(f:starEach [e] X.env=(false,eval e X.env)::starEach [] X.env:=by rfl)(a:(backTo pos<|starEach [] X.env).any (·.1)=false:=by rfl):
  QP cl X (.Call (.Name "len" p) [e] [] pos) (tCB (λxs H Q=>∃ x n,xs=[x]/\jk2 X.K x H n/\Q (.int n) H) tr) (pCB vg pr):=wz jeP jjb b PySem.boot_len c d (by decide) (by decide) f a
def jbO:bootBuiltins "all" = some (.builtin "all"):=by decide +kernel
def jc0:bootBuiltins "any" = some (.builtin "any"):=by decide +kernel
def jcp:bootBuiltins "min" = some (.builtin "min"):=by decide +kernel
def Y7:bootBuiltins "isinstance" = some (.builtin "isinstance"):=by decide +kernel
def VN:bootBuiltins "int" = some (.type "int"):=by decide +kernel
def Q5:bootBuiltins "str" = some (.type "str"):=by decide +kernel
def KF:bootBuiltins "list" = some (.type "list"):=by decide +kernel
def kU:bootBuiltins "tuple" = some (.type "tuple"):=by decide +kernel
def jaw:bootBuiltins "bool" = some (.type "bool"):=by decide +kernel
def jcR{T}{x}{p p1}(hT:T∈["bool","int","str","tuple","list","dict"])(j:X.mg "isinstance" = none)(c:X.mg x=none)(d:bootBuiltins x=some (.type T))(h:QB cl X a ta pa)(k:Gl X "isinstance":=by rfl)(e:Gl X x:=by rfl)
  (hn:x≠"__name__":=by decide) (f:Nd x:=by decide) (i:starEach [a,.Name x p1] X.env=(false,eval a X.env)::starEach [.Name x p1] X.env:=by rfl) (g:(backTo pos<|starEach [.Name x p1] X.env).any (·.1)=false:=by rfl)
  (h1:starEach [.Name x p1] X.env=(false,eval (.Name x p1) X.env)::starEach [] X.env:=by rfl):
  QP cl X (.Call (.Name "isinstance" p) [a,.Name x p1] [] pos) (tCB (λxs H Q=>∃ x T t b,xs=[x,.ty T]/\TyQ X.K H x t/\PySem.W.kitOne X.K (.type t) (.type T)=some b/\Q (.bl b) H)<|vq ta<|vq (tC<|.ty T) Jl) (QZ T pa):=
 ⟨Qx xk k j Y7 (vy h.sem (vy (jgT e c d rfl hn f) JC h1) i) (by decide) (by decide) i g,jiP hT h.den⟩
variable {tg iter elt:Expr}{ifs:List Expr}{wi:TI}{pi:PAf}{t:TG}{g:D->Rh->Option Rh}
def jiU(h:QP cl X e te pe):QI cl X tg e (jjU X.K te) (pIt pe):=⟨jfF h.sem,jnf h.den⟩
def jix{p}(b:X.mg "range" = none)(h:QBs cl X [a] tr pr)(c:Gl X "range":=by rfl)(d:starEach [a] X.env=[(false,eval a X.env)]:=by rfl):QI cl X tg (.Call (.Name "range" p) [a] [] pos) (jcW tr) (qx pr):=⟨xA c b h.sem d,jgX h.den⟩
def jh1{i}{x}(a:X.N.Nodup)(hi:X.N[i]?=some x:=by rfl)(b:Loc X.env.scope x:=by first | exact Or.inl rfl | exact Or.inr rfl)(c:X.fn x=true\/X.env.scope.names.lookup x=some .local:=by first | exact .inl rfl | exact .inr rfl):
  QG cl pm X (.Name x pos) (Va i) (jl pm i):=⟨jc6 a hi b c,jff⟩
def jf7:QGs cl pm X [] jmL gN:=⟨jh6,jeU⟩
def jd0{ts}{a}(h1:QG cl pm X e t g)(h2:QGs cl pm X es ts a)(b:(assignEach (e::es) X.env).map (·.2)=assign e X.env::(assignEach es X.env).map (·.2):=by rfl):QGs cl pm X (e::es) (jhq t ts) (gC g a):=⟨je1 h1.sem h2.sem b,jcm h1.den h2.den⟩
def jiO{ts}{b}{k n}(c:X.calm=true)(h:QGs cl pm X es ts b)(hn:(assignEach es X.env).length=n:=by rfl)(a:(assignEach es X.env).findIdx? (·.1)=none:=by rfl):QG cl pm X (.Tuple es k pos) (jnC X.K n ts) (gT n b):=⟨jjW c h.sem hn a,jia h.den⟩
def jep:QIf cl X [] (λ_ H Q=>Q true H) qT:=⟨.inl ⟨rfl,rfl⟩,jgB⟩
def jej(h:QT cl X c tA qa):QIf cl X [c] tA qa:=⟨.inr ⟨c,rfl,h.sem⟩,h.den⟩
variable {st:Stmt}{Yu:List Stmt}{ts tu:TS}{f fe:FS}{fE:FE}
def jip:QSs cl pm X [] jhX jn:=⟨jg5,jhJ⟩
def jgZ(h:QS cl pm X st ts f):QSs cl pm X [st] ts f:=⟨jbq h.sem,h.den⟩
def jeO(h:QS cl pm X st ts f)(k:QSs cl pm X Yu tu fe):QSs cl pm X (st::Yu) (jjr ts tu) (jj f fe):=⟨jaa h.sem k.sem,ji2 h.den k.den⟩
def jhw(h:QE cl X e te fE)(a:swapsWith e none pos.line X.env=pure false:=by rfl):QS cl pm X (.Expr e pos) (qL te) (xT fE):=⟨JX h.sem a,jhH h.den⟩
def jj1(h:QE cl X e te fE):QS cl pm X (.Return (some e) pos) (jkf te) (jS fE):=⟨jfu h.sem,jll h.den⟩
def jg2:QS cl pm X (.Return none pos) jg6 jeK:=⟨jgk,jhf⟩
def jnJ{x y}(a:QT cl X c tA qa)(b:QSs cl pm X x ts f)(e:QSs cl pm X y tu fe):QS cl pm X (.If c x y pos) (jl2 tA ts tu) (sIf (dPT qa) f fe):=⟨jlB a.sem b.sem e.sem,jks (PTt.d a.den) b.den e.den⟩
def jdW:QS cl pm X st jc4 qf:=⟨jdx,jd5⟩
def jkV{i}{x}{pos'}(a:X.N.Nodup)(h:QE cl X e te fE)(hi:X.N[i]?=some x:=by rfl)(b:Loc X.env.scope x:=by first | exact Or.inl rfl | exact Or.inr rfl)(c:swapsWith e (some<|.Name x pos') pos.line X.env=pure false:=by rfl)
  (d:X.fn x=true\/X.env.scope.names.lookup x=some .local:=by first | exact .inl rfl | exact .inr rfl):QS cl pm X (.Assign [.Name x pos'] e pos) (jdn te<|Va i) (yB fE<|jl pm i):=⟨jfl a hi b h.sem c d,uO h.den Qb⟩
@[simp] def sAsgT(fe:FE)(G:D->Rh->Option Rh)(ρ:Rh):Option Out:=(fe ρ).bind λx=>(bif frz x.1 then G x.1 x.2 else none).bind λr=>some<|.nx r
def jfh{i}{x}{a c}(d:QB cl X (.Name x a) (Jt i)<|pV i)(hi:QB cl X b tb pb)(h:QE cl X e te fE)
  (f:∀ v,assign (.Subscript (.Name x a) b c) X.env v=(do
   let ov <- holding [v] (eval (.Name x a) X.env)
   let iv <- holding [v,ov] (eval b X.env)
   standAt c
   holding [v,ov,iv] (setItem ov iv v)
   release [v,ov,iv] []):=by intro _;rfl)
  (g:swapsWithSole [.Subscript (.Name x a) b c] e pos.line X.env=pure false:=by rfl) (j:swappedStores [.Subscript (.Name x a) b c] e X.env=pure none:=by rfl)
  (h1:(assignEach [.Subscript (.Name x a) b c] X.env).map (·.2)=[assign (.Subscript (.Name x a) b c) X.env]:=by rfl):
  QS cl pm X (.Assign [.Subscript (.Name x a) b c] e pos) (jdn te<|jmK (Jt i) tb jgU) (yB fE<|gIx pm i pb):=⟨jkZ h.sem (jjX d.sem hi.sem jdP f) g j h1,uO h.den<|jn2 hi.den⟩
@[simp] def sAugI(pm:List Nat)(i:Nat)(g:Int->Int->Int)(pa:PF)(ρ:Rh):Option Out:=(pV i ρ).bind λx=>(Jp x).bind λa=>(pa ρ).bind λy=>(Jp y).bind λb=>(jl pm i (.int<|g a b) ρ).bind λr=>some<|.nx r
def jky{i}{x}{a apos cpos}(j:QB cl X (.Name x a) (Jt i)<|pV i)(h:QP cl X e te pe)(c:attributeBase (.Name x a) "append" X.env (eval (.Name x a) X.env)=eval (.Name x a) X.env:=by rfl)
  (f:((backTo cpos<|starEach [e] X.env).all (λx=>!x.1)&&(backToKw cpos<|keywordEach [] X.env).all (λx=>x.1.isSome)
   && decide ([e].length+([]:List Keyword).length+(if([]:List Keyword).isEmpty then 0 else 1)<30))=true:=by rfl)
  (d:(apos.endLine==cpos.line)=true:=by rfl) (g:starEach [e] X.env=(false,eval e X.env)::starEach [] X.env:=by rfl) (b:(backTo cpos<|starEach [] X.env).any (·.1)=false:=by rfl)
  (hsw:swapsWith (.Call (.Attribute (.Name x a) "append" apos) [e] [] cpos) none pos.line X.env=pure false:=by rfl):
  QS cl pm X (.Expr (.Call (.Attribute (.Name x a) "append" apos) [e] [] cpos) pos) (qL<|tBM X.K "list" JV (Jt i)<|vq te Jl) (jaA i pe):=
 ⟨JX (wX PySem.F.plainAttrs_list PySem.F.slot_list_append PySem.F.type_list_append Ye j.sem (vy h.sem JC g) c f d g b) hsw,jkC h.den⟩
def jjx{body}(hp:PassesOwn (model X.prog X.w) X.A X.env X.xe)(c:X.calm=true)(hi:QI cl X tg iter wi pi)(a:QG cl pm X tg t g)(b:QSs cl pm X body ts f)(d:∀ x,foldedSetIterable iter X.env x=pure x:=by intro _;rfl):QS cl pm X (.For tg iter body [] pos) (jko wi t ts) (Qd pi g f):=
 ⟨jfv hp c hi.sem a.sem b.sem d,jjl hi.den a.den b.den⟩
def QS.fz(i)(h:QS cl pm X st ts f):QS cl pm X st ts (sFz i f):=⟨h.sem,jni h.den⟩
def jnU{P}{w}{K}{mg}{base}{x qual}{a}{fa}{fd}{N ps}{k n}{fs}(F:Fun K x qual a fa fd)(c:FnScope N ps<|jG a)(hn:ps.length=n)
  (b:∀ cdv A outer s H E,Room k (A.deeper<|envOfC qual (jG a) ↥s fa cdv) ->
   ∃ ts,QSs cl [] (jeg CX0 P w K mg base N qual (jG a) fa cdv A outer s H E).nox (vT a) ts fs):FnOk P w K mg base CX0 (k+1) fa fd ps (spP ⟨K,cl⟩ (fnP N.length fs) n):=by
 refine F.ok c (λvs H Q E h=>by rw[jgN h,hn]) λcdv A outer s H vs Q E d h=>?_;obtain⟨ts,q⟩:=b cdv A outer s H E d;exact⟨ts,q.sem,jgF q.den h⟩
end
mutual
noncomputable def jcA:D->PyData
 | .non=>.none | .bl b=>.bool b | .int i=>.int i | .str s=>.str<|S s
 | .tup l=>.tuple<|qF l
 | .lst _ l=>.list<|qF l
 | .dK _ _ _=>.none | .dT _ _ _=>.none | .ins _ _ _ _=>.none | .dead=>.none | .tok _=>.none | .kt _=>.none | .exc _ _=>.none
noncomputable def qF:List D->List PyData
 | []=>[]
 | d::l=>jcA d::qF l
end
mutual
noncomputable def okE:Nat->D->Bool
 | _,.non=>true | _,.bl _=>true | _,.int _=>true
 | _,.str s=>s.all λc=>decide<|c<1114112
 | n+1,.tup l=>xD n l
 | n+1,.lst _ l=>xD n l
 | _,_=>false
noncomputable def xD:Nat->List D->Bool
 | _,[]=>true
 | n,d::l=>okE n d&&xD n l
end
mutual
noncomputable def eqD:D->D->Bool
 | .non,y=>match y with | .non=>true | _=>false
 | .bl a,y=>match y with | .bl b=>a==b | .int j=>(if a then 1 else 0)==j | _=>false
 | .int i,y=>match y with | .bl b=>i==(if b then 1 else 0) | .int j=>i==j | _=>false
 | .str a,y=>match y with | .str b=>a==b | _=>false
 | .tup l,y=>match y with | .tup m=>jaJ l m | _=>false
 | .lst _ l,y=>match y with | .lst _ m=>jaJ l m | _=>false
 | _,_=>false
noncomputable def jaJ:List D->List D->Bool
 | [],[]=>true
 | x::l,y::m=>eqD x y&&jaJ l m
 | _,_=>false
end
noncomputable def jpl:D->Bool
 | .non=>true | .bl _=>true | .int _=>true | .str _=>true | .tup _=>true | .lst _ _=>true | _=>false
def y1{n x}{p:Prop}(h:okE n x=true)(k:jpl x=false):p:=by
 cases x<;>cases k<;>cases n<;>cases h
mutual
theorem ja9:∀(n:Nat) (x y:D),okE n x=true->okE n y=true->PyData.eqv (jcA x) (jcA y)=eqD x y
 | n,.non,y,hx,hy=>by cases y<;>first | rfl | (cases n<;>simp_all [okE])
 | n,.bl a,y,hx,hy=>by cases y<;>first | rfl | (cases n<;>simp_all [okE])
 | n,.int a,y,hx,hy=>by cases y<;>first | rfl | (cases n<;>simp_all [okE])
 | n,.str a,y,hx,hy=>by
  cases y with
  | str b=>
   show(S a==S b)=(a==b);rw[Bool.eq_iff_iff];simp[jm0]
  | _=>first | rfl | (cases n<;>simp_all [okE])
 | 0,.tup l,y,hx,hy=>by simp[okE] at hx
 | n+1,.tup l,y,hx,hy=>by
  cases y with
  | tup m=>show PyData.eqvAll (qF l) (qF m)=jaJ l m;exact wE n l m (by simpa [okE] using hx) (by simpa [okE] using hy)
  | _=>first | rfl | (simp_all [okE])
 | 0,.lst o l,y,hx,hy=>by simp[okE] at hx
 | n+1,.lst o l,y,hx,hy=>by
  cases y with
  | lst o' m=>show PyData.eqvAll (qF l) (qF m)=jaJ l m;exact wE n l m (by simpa [okE] using hx) (by simpa [okE] using hy)
  | _=>first | rfl | (simp_all [okE])
 | n,.dK _ _ _,y,hx,hy=>y1 hx rfl
 | n,.dT _ _ _,y,hx,hy=>y1 hx rfl
 | n,.ins _ _ _ _,y,hx,hy=>y1 hx rfl
 | n,.dead,y,hx,hy=>y1 hx rfl
 | n,.tok _,y,hx,hy=>y1 hx rfl
 | n,.kt _,y,hx,hy=>y1 hx rfl
 | n,.exc _ _,y,hx,hy=>y1 hx rfl
theorem wE:∀(n:Nat) (l m:List D),xD n l=true->xD n m=true->PyData.eqvAll (qF l) (qF m)=jaJ l m
 | n,[],[],_,_=>rfl
 | n,[],_::_,_,_=>rfl
 | n,_::_,[],_,_=>rfl
 | n,x::l,y::m,hx,hy=>by
  rw[xD,M0] at hx hy;show(PyData.eqv (jcA x) (jcA y)&&PyData.eqvAll (qF l) (qF m))=(eqD x y&&jaJ l m);rw[ja9 n x y hx.1 hy.1,wE n l m hx.2 hy.2]
end
mutual
theorem uq:∀(n:Nat) (x:D),okE n x=true->(jcA x).canLay0=true/\(jcA x).depth<=n
 | n,.non,_=>⟨rfl,X4 _⟩
 | n,.bl _,_=>⟨rfl,X4 _⟩
 | n,.int _,_=>⟨rfl,X4 _⟩
 | n,.str s,h=>by
  refine⟨?_,X4 _⟩;have h:(s.all λc=>decide<|c<1114112)=true:=by cases n<;>simpa [okE] using h
  show PyData.strOk (S s)=true;unfold PyData.strOk S;rw[Array.all_eq_true'];intro c hc;rw[List.all_eq_true] at h;exact h c ⇑hc
 | 0,.tup l,h=>by simp[okE] at h
 | n+1,.tup l,h=>by
  obtain⟨h1,h2⟩:=V0 n l (by simpa [okE] using h);exact⟨h1,Nat.succ_le_succ h2⟩
 | 0,.lst o l,h=>by simp[okE] at h
 | n+1,.lst o l,h=>by
  obtain⟨h1,h2⟩:=V0 n l (by simpa [okE] using h);exact⟨h1,Nat.succ_le_succ h2⟩
 | n,.dK _ _ _,hx=>y1 hx rfl
 | n,.dT _ _ _,hx=>y1 hx rfl
 | n,.ins _ _ _ _,hx=>y1 hx rfl
 | n,.dead,hx=>y1 hx rfl
 | n,.tok _,hx=>y1 hx rfl
 | n,.kt _,hx=>y1 hx rfl
 | n,.exc _ _,hx=>y1 hx rfl
theorem V0:∀(n:Nat) (l:List D),xD n l=true->PyData.canLayAll0 (qF l)=true/\PyData.depthAll (qF l)<=n
 | n,[],_=>⟨rfl,X4 _⟩
 | n,x::l,h=>by
  rw[xD,M0] at h;obtain⟨h1,h2⟩:=uq n x h.1;obtain⟨h3,h4⟩:=V0 n l h.2;rw[qF];refine⟨?_,?_⟩
  ·show((jcA x).canLay0&&PyData.canLayAll0 (qF l))=true;rw[h1,h3];rfl
  ·show max (jcA x).depth (PyData.depthAll<|qF l)<=n;exact Nat.max_le.mpr ⟨h2,h4⟩
end
mutual
theorem Rep.reads(I:Inv X pins σ H s):∀(n:Nat) {x:D}{v:V}{u:Value}{O:J9},Rep ⟨X.K,cl⟩ Z H x v O->RelV v u->okE n x=true->∃ as,Reads s.heap u (jcA x) as
 | n,.non,_,_,_,r,q,_=>by obtain⟨rfl,_⟩:=r.non_of;cases q;exact⟨_,.none⟩
 | n,.bl b,_,_,_,r,q,_=>by obtain⟨rfl,_⟩:=r.bl_of;cases q;exact⟨_,.bool b⟩
 | n,.int i,_,_,_,r,q,_=>by obtain⟨rfl,_⟩:=r.int_of;obtain⟨t,rfl⟩:=q;exact⟨_,.int i t⟩
 | n,.str w,_,_,_,r,q,_=>by obtain⟨rfl,_⟩:=r.str_of;obtain⟨t,rfl⟩:=q;exact⟨_,.str _ t⟩
 | 0,.tup l,_,_,_,r,q,h=>by simp[okE] at h
 | n+1,.tup l,_,_,_,r,q,h=>by
  obtain⟨a,vs,rfl,hx,rs⟩:=r.tup_of;cases q;obtain⟨its,rv,⟨o,h1,h2,k,h3⟩,_⟩:=I.tuple hx;obtain⟨as,hr⟩:=Reps.reads I n rs rv (by simpa [okE] using h);exact⟨_,reads_tuple_at h1 h2 h3 ⇑hr⟩
 | 0,.lst o l,_,_,_,r,q,h=>by simp[okE] at h
 | n+1,.lst o l,_,_,_,r,q,h=>by
  obtain⟨a,vs,O',rfl,hx,rs⟩:=r.lst_of;cases q;obtain⟨its,rv,⟨o,k,h1,h2,_,h3⟩,_⟩:=I.list hx.sq;obtain⟨as,hr⟩:=Reps.reads I n rs rv (by simpa [okE] using h);exact⟨_,reads_list_at h1 h2 h3 ⇑hr⟩
 | n,.dK _ _ _,_,_,_,_,_,hx=>y1 hx rfl
 | n,.dT _ _ _,_,_,_,_,_,hx=>y1 hx rfl
 | n,.ins _ _ _ _,_,_,_,_,_,hx=>y1 hx rfl
 | n,.dead,_,_,_,_,_,hx=>y1 hx rfl
 | n,.tok _,_,_,_,_,_,hx=>y1 hx rfl
 | n,.kt _,_,_,_,_,_,hx=>y1 hx rfl
 | n,.exc _ _,_,_,_,_,_,hx=>y1 hx rfl
theorem Reps.reads(I:Inv X pins σ H s):∀(n:Nat) {l:List D}{vs:List V}{us:List Value}{O:J9},Reps ⟨X.K,cl⟩ Z H l vs O->Vals vs us->xD n l=true->∃ as,ReadsAll s.heap us (qF l) as
 | n,[],_,_,_,r,q,_=>by rw[Reps] at r;obtain⟨rfl,_⟩:=r;cases q;exact⟨_,.nil⟩
 | n,x::l,_,_,_,r,q,h=>by
  rw[Reps] at r;obtain⟨v,vs,O1,O2,rfl,rfl,r1,r2⟩:=r;rw[xD,M0] at h;cases q with
  | cons q1 q2=>
   obtain⟨as,h1⟩:=Rep.reads I n r1 q1 h.1;obtain⟨bs,h2⟩:=Reps.reads I n r2 q2 h.2;exact⟨_,.cons h1 h2⟩
end
def jf4(R:RC)(neg:Bool):R2:=λx y H Q=>∃ Z d e O P,Rep R Z H d x O/\Rep R Z H e y P/\okE 20 d=true/\okE 20 e=true/\Q (.bl<|neg != eqD d e) H
def jlX(h:okE 20 x=true):SeqAt.shaped (jcA x)=true:=by
 obtain⟨a,b⟩:=uq 20 x h;unfold SeqAt.shaped;rw[a,Bool.true_and];exact X9<|N9 b (by decide)
def jja(f:X.A.units+64<cLine):OpR X (compareOp .Eq) (jf4 ⟨X.K,cl⟩ false):=by
 intro c s σ H x y v u Q I g i h;obtain⟨Z,d,e,O,P,j,k,a,b,q⟩:=h;obtain⟨n,l⟩:=j.reads I 20 g a;obtain⟨bs,m⟩:=k.reads I 20 i b;refine eq_dataH l m (jlX a) (jlX b) f ?_;rw[ja9 20 d e a b];exact⟨.bl _,H,I,rfl,by simpa using q⟩
def jjT(f:X.A.units+64<cLine):OpR X (compareOp .NotEq) (jf4 ⟨X.K,cl⟩ true):=by
 intro c s σ H x y v u Q I g i h;obtain⟨Z,d,e,O,P,j,k,a,b,q⟩:=h;obtain⟨n,l⟩:=j.reads I 20 g a;obtain⟨bs,m⟩:=k.reads I 20 i b;refine ne_dataH l m (jlX a) (jlX b) f ?_;rw[ja9 20 d e a b];exact⟨.bl _,H,I,rfl,by simpa using q⟩
def ve(x y:D):Option D:=bif JQ x&&JQ y&&K9 x y then some (.bl<|eqF x y) else bif okE 20 x&&okE 20 y then some (.bl<|eqD x y) else none
def Ka(x y:D):Option D:=bif JQ x&&JQ y&&K9 x y then some (.bl<|!eqF x y) else bif okE 20 x&&okE 20 y then some (.bl<|!eqD x y) else none
def jmW:BO R (λx y H Q=>rEq x y H Q\/jf4 R false x y H Q) ve:=by
 intro Z H x y d v u f g z b c e Q k;unfold ve at e;cases hl:JQ x&&JQ y&&K9 x y with
 | true=>
  rw[hl] at e;cases e;obtain⟨h,i⟩:=jbP b c hl;exact .inl ⟨h,by rw[i];exact k (Go.id z) .bl_mk⟩
 | false=>
  rw[hl,cond_false] at e;refine oc e λa e=>?_;cases e;rw[M0] at a;exact .inr ⟨Z,x,y,f,g,b,c,a.1,a.2,by simpa using k (Go.id z) .bl_mk⟩
def jmO:BO R (λx y H Q=>rNe x y H Q\/jf4 R true x y H Q) Ka:=by
 intro Z H x y d v u f g z b c e Q k;unfold Ka at e;cases hl:JQ x&&JQ y&&K9 x y with
 | true=>
  rw[hl] at e;cases e;obtain⟨h,i⟩:=jbP b c hl;exact .inl ⟨h,by rw[i];exact k (Go.id z) .bl_mk⟩
 | false=>
  rw[hl,cond_false] at e;refine oc e λa e=>?_;cases e;rw[M0] at a;exact .inr ⟨Z,x,y,f,g,b,c,a.1,a.2,by simpa using k (Go.id z) .bl_mk⟩
def jo0(a:Room k X.A):CmpR cl X .Eq b (λx y H Q=>rEq x y H Q\/jf4 ⟨X.K,cl⟩ false x y H Q) ve:=⟨YX jn9<|jja a.units,jmW,YO _⟩
def c_ne(a:Room k X.A):CmpR cl X .NotEq b (λx y H Q=>rNe x y H Q\/jf4 ⟨X.K,cl⟩ true x y H Q) Ka:=⟨YX jmq<|jjT a.units,jmO,YO _⟩
def BM(R:RC)(T:String)(r:V->List V->Hp->VK->Prop)(g:D->List D->Option D):Prop:=∀{Z}{H}{x d}{xs}{v}{vs}{O1 O2},Zd Z H->Rep R Z H x v O1->Reps R Z H xs vs O2->g x xs=some d ->
 ∀{Q},(∀{w}{Z'}{H'}{P},Go Z H [] Z' H' P->Rep R Z' H' d w P->Q w H')->r v vs H Q
noncomputable def isT:String->D->Bool
 | "str",.str _=>true
 | _,_=>false
@[simp] def pBM(T:String)(g:D->List D->Option D)(pa:PF)(pr:PAf)(ρ:Rh):Option D:=(pa ρ).bind λx=>bif isT T x then(pr ρ).bind λxs=>g x xs else none
def jlD(r:Rep R Z H x v O)(h:isT T x=true):tyV R.K T v H:=by
 unfold isT at h;split at h
 ·obtain⟨rfl,_⟩:=r.str_of;rfl
 ·cases h
def jnd(f:BM R T r g)(h:PB R to pa)(i:PBs R ta pr):PP R (tBM R.K T r to ta) (pBM T g pa pr):=by
 intro σ ρ Z H O d z s e Q k;exact ob e λx j e=>oc e λl e=>ob e λxs e2 e=>(h z s j λ{v o p q} a c=>⟨jlD c l,(i a.wf.zd (a.slots z s) e2 λ{vs t u w} b m=>(f b.wf.zd (b.rep a.wf.zd c) m e λg3 n=>k ((a.pair b).pair g3) n))⟩)
end QD
namespace QD
open PySem L2
section
variable {R:RC}{Z Z':Zn}{H H':Hp}{pm:List Nat}
def Keep.sub(h:∀ i∈pm,i∈pm')(k:Keep pm' σ σ'):Keep pm σ σ':=λi a=>k i<|h i a
def ItB(R:RC)(J:It)(Z:Zn)(H:Hp)(xs:List D):Prop:=∀{Z1}{H1},(∀ a,Z a->Z1 a)->(∀ a,H a≠none->H1 a=H a)->Zd Z1 H1->∀ i:Nat,
 (xs.length<=i->J.stop i H1)/\∀ x,xs[i]?=some x->J.go i H1/\∀ u H2,J.yld i H1 u H2->∃ Z2,Go Z1 H1 [] Z2 H2 []/\Rep R Z2 H2 x u []
def jl5(R:RC)(wi:TI)(p:PAf):Prop:=∀{σ}{ρ}{Z}{H}{O}{xs},Zd Z H->Slots R Z H ρ σ O->p ρ=some xs ->
 ∀{Q:It->Hp->Prop},(∀{J}{Z'}{H'},Go Z H [] Z' H' []->ItB R J Z' H' xs->Q J H')->wi σ H Q
def PIt.b(h:PIt R wi p):jl5 R wi p:=by
 intro σ ρ Z H O xs z s e Q k;refine h z s e λg c=>k g ?_;intro j l d f zd i;exact c d (λa z=>f a<|g.wf.zd a z) zd i
def itB:D->Option (List D)
 | .lst _ l=>bif frzs l then some l else none
 | .tup l=>bif frzs l then some l else none
 | .str s=>some<|s.map λc=>.str [c]
 | _=>none
@[simp] def YK(p:PF)(ρ:Rh):Option (List D):=(p ρ).bind itB
def je9(b:∀ a,H a≠none->H' a=H a)(h:SqX K H a vs):SqX K H' a vs:=by
 rcases h with h | h
 ·refine .inl<|Rd.agree (b a ?_) h;rcases h with h | ⟨o,h⟩<;>rw[h]<;>exact λz=>(nomatch z)
 ·exact .inr h
def jdU(b:∀ a,H a≠none->H' a=H a)(h:SqT K H a vs):SqT K H' a vs:=by
 rcases h with h | h
 ·refine .inl<|Rd.agree (b a ?_) h;rcases h with h | ⟨o,h⟩<;>rw[h]<;>exact λz=>(nomatch z)
 ·exact .inr h
def jkK(h:PB R te p):jl5 R (jjU R.K te) (YK p):=by
 intro σ ρ Z H O xs z s e Q k;refine ob e λc D e=>?_;cases c with
 | lst o l=>
  refine oc e λE e=>?_;cases e;refine h z s D λ{v L M N} f q=>?_;obtain⟨a,vs,T,rfl,r,y⟩:=q.lst_of;have F:=y.frozen E;refine .inl ⟨a,rfl,⟨vs,r.sq⟩,k f ?_⟩;intro C P A g zd i;have d:=SqX.sq<|je9 g r;have j:=F.frame A (λb z=>g b<|f.wf.zd b z) λb G=>(nomatch G);refine⟨λI=>⟨vs,d,by rw[y.length];exact I⟩,λx m=>?_⟩;obtain⟨u,B,J⟩:=j.item m;refine⟨⟨vs,u,d,B⟩,λw S n=>?_⟩;obtain⟨rfl,n⟩:=n;have e2:=n vs d;rw[B] at e2;cases e2;exact⟨C,Go.id zd,J⟩
 | tup l=>
  refine oc e λE e=>?_;cases e;refine h z s D λ{v L M N} f q=>?_;obtain⟨a,vs,rfl,r,y⟩:=q.tup_of;refine .inr<|.inl ⟨a,rfl,⟨vs,r⟩,k f ?_⟩;intro C P A g zd i;have d:=jdU g r;have j:=(y.frozen E).frame A (λb z=>g b<|f.wf.zd b z) λb G=>(nomatch G);refine⟨λI=>⟨vs,d,by rw[y.length];exact I⟩,λx m=>?_⟩;obtain⟨u,B,J⟩:=j.item m;refine⟨⟨vs,u,d,B⟩,λw S n=>?_⟩;obtain⟨rfl,n⟩:=n;have e2:=n vs d;rw[B] at e2;cases e2;exact⟨C,Go.id zd,J⟩
 | str t=>
  cases e;refine h z s D λ{v L M N} f q=>?_;obtain⟨rfl,_⟩:=q.str_of;refine .inr<|.inr ⟨t,rfl,k f ?_⟩;intro C P A g zd i;exact jfz A (λb z=>g b<|f.wf.zd b z) zd i
 | _=>cases e
inductive CpI (R:RC) (g:D->Rh->Option Rh) (q:PTf) (p:PF) (Z0:Zn) (H0:Hp) (a:Addr) (xs all:List D) (i m:Nat) (σ2:L2.St) (H2:Hp):Prop
 | mk:m=xs.length-i->i<=xs.length->∀(ρ2:Rh) (Z2:Zn) (O2:J9) (ys:List D) (vs:List V) (Py:J9) (Yu:List D),Go Z0 H0 [] Z2 H2 (a::Py)->H2 a=some (.lst vs)->Reps R Z2 H2 ys vs Py->(∀ b∈O2,b≠a)->Slots R Z2 H2 ρ2 σ2 O2->yP g q p (xs.drop i) ρ2=some Yu->all=ys++Yu->ys.length<=i->CpI R g q p Z0 H0 a xs all i m σ2 H2
def Yd{tg}{tc}{te}{g}{q}{p}{ix}(hg:PGt R [] tg g)(hq:PTt R tc q)(he:PP R te p)
  {J:It}{j:Zn}{c:Hp}{ρ:Rh}{σ:L2.St}{O:J9}{xs all:List D}(A:Zd j c) (s:Slots R j c ρ σ O) (it:ItB R J j c xs) (hl:lim xs.length=true) (e2:yP g q p xs (jp ix ρ)=some all)
  {Q:VK}(k:∀{v}{Z'}{H'}{P},Go j c [] Z' H' P->Rep R Z' H' (.lst true all) v P->Q v H'):∀ a,c a=none->jbk tc te tg J a (yQ ix σ) (upd c a<|.lst []) λH2=>Q (.ref a) H2:=by
 intro a Z;obtain⟨Oi,si⟩:=Vm s ix;have gp:Go j c [] j (upd c a<|.lst []) [a]:=Go.newO (wf0 A) Z;refine⟨CpI R g q p j c a xs all,
  ⟨xs.length,rfl,X4 _,_,j,Oi,[],[],[],all,gp,jV,Reps.empty,λb d e=>si.dom b d<|e▸Z,gp.slots A si,e2,rfl,M9 _⟩,?_⟩
 rintro i m σ2 H2 ⟨rfl,N,ρ2,Z2,O2,ys,vs,o,Yu,h,S,H,T,s2,e3,I,r⟩;have C:=it h.zz (h.same) h.wf.zd i;by_cases E:i<xs.length
 ·right
  have hx:xs[i]?=some xs[i]:=by simp
  obtain⟨go,yl⟩:=C.2 _ hx;refine⟨go,λu H3 hy=>?_⟩;obtain⟨Z3,g3,r3⟩:=yl u H3 hy;rw[qH hx] at e3;refine ob e3 λρ3 e5 e3=>(hg r3 (g3.slots h.wf.zd s2) e5 λ{σ4 O4} sub nd K _=>(ob e3 λb e6 e3=>(hq g3.wf.zd K e6 λ{Z5 H5} F=>?_)));have l:=g3.pair F;cases b with
  | true=>
   refine jdp<|ob e3 λy e7 e3=>ob e3 λU e8 e3=>?_;cases e3;refine he F.wf.zd (F.slots g3.wf.zd K) e7 λ{L w n x} g6 r6=>?_;have t:Go Z2 H2 [] w n x:=by simpa using l.pair g6
   have V:n a=some (.lst vs):=by rw[t.same a ∅];exact S
   have W:vs.length<sizeLine:=by
    rw[H.length];exact zT<|X9<|N9 r<|N9 N<|E2 hl
   have M:Go j c [] w n (a::o++x):=by
    have f:=t.frame (B:=[]) ⇑h.wf;exact h.trans ⇑f
   have X:=M.wf;have gB:Go w n (a::o++x) w (upd n a<|.lst<|vs++[L]) (a::o++x):=Go.put X L6;have ne:∀ b,b∈o++x->upd n a (.lst<|vs++[L]) b=n b:=λb d=>ji λz=>(List.nodup_cons.mp X.nd).1 (z▸d);have G:∀ b,w b->upd n a (.lst<|vs++[L]) b=n b:=λb d=>ji λz=>X.nz a L6<|z▸d;refine⟨vs,V,W,xs.length-(i+1),by lia,rfl,E,ρ3,w,O4,ys++[y],vs++[L],o++x,U,M.trans gB,jV,?_,λb d=>T b<|sub b d,(((F.pair g6).slots g3.wf.zd K).frame (λb z=>z) G λb d=>ji<|T b<|sub b d),e8,by rw[I];simp,by rw[N6];exact Nat.add_le_add_right r 1⟩
   ·refine((t.reps h.wf.zd H).append (.one r6)).frame (λb z=>z) G ne
  | false=>
   refine jeG ?_;have M:Go j c [] Z5 H5 (a::o):=by
    exact h.trans (by simpa using(l.frame (B:=[]) ⇑h.wf))
   exact⟨xs.length-(i+1),by lia,rfl,E,ρ3,Z5,O4,ys,vs,o,Yu,M,by rw[l.same a ∅];exact S,l.reps h.wf.zd H,λb d=>T b<|sub b d,F.slots g3.wf.zd K,e3,I,Nat.le_succ_of_le r⟩
 ·left
  have Y:i=xs.length:=by lia
  refine⟨C.1 ∅,?_⟩;rw[Y,List.drop_length] at e3;cases e3;rw[N0] at I;subst I;exact k h ⟨a,vs,o,rfl,H,S,rfl⟩
def u1{wi}{tg}{tc}{te}{pi}{g}{q}{p}{ix}(hi:jl5 R wi pi)(b:PGt R [] tg g)(c:PTt R tc q)(f:PP R te p):
  PP R (xM wi tg tc te ix) (yS pi g q p ix):=by
 intro σ ρ Z H O d z s e Q k;refine ob e λxs h e=>oc e λi e=>ob e λall e2 e=>?_;cases e;exact hi z s h λ{J n o} a j=>(Yd b c f a.wf.zd (a.slots z s) j i e2 λl m=>k ⇑(a.pair l) m)
end
section
variable {cl:Nat->Addr}{pm:List Nat}{X:Cx}{c e elt tg iter:Expr}{te:TE}{pe:PF}{ifs:List Expr}{wi:TI}{pi:PAf}{t:TG}{g:D->Rh->Option Rh}{pos:Pos}{ts:TS}{f:FS}
structure QIb(cl:Nat->Addr)(X:Cx)(tg e:Expr)(wi:TI)(p:PAf):Prop where
 sem:PI X tg e wi
 den:jl5 ⟨X.K,cl⟩ wi p
def QI.b'(h:QI cl X tg e wi pi):QIb cl X tg e wi pi:=⟨h.sem,PIt.b h.den⟩
def jhM(h:QB cl X e te pe):QIb cl X tg e (jjU X.K te) (YK pe):=⟨jfF h.sem,jkK h.den⟩
def jgA{scope}{N'}{ix}{a}{c}(B:BlockOk X scope N' ix)(f:X.calm=true)(hi:QIb cl X tg iter wi pi)
  (d:∀ C s H fp,QG cl [] (y3 X scope N' C s H fp) tg t g) (b:∀ C s H fp,QIf cl (y3 X scope N' C s H fp) ifs a c) (e:∀ C s H fp,QP cl (y3 X scope N' C s H fp) elt te pe)
  (h:∀ x,foldedSetIterable iter X.env x=pure x:=by intro _;rfl):QP cl X (.ListComp elt [⟨tg,iter,ifs,0⟩] scope pos) (xM wi t a te ix) (yS pi g c pe ix):=
 ⟨jgD B f hi.sem (λC s H fp=>(d C s H fp).sem) (λC s H fp=>(b C s H fp).sem) (λC s H fp=>(e C s H fp).sem) h,
  u1 hi.den (d 0 X.s₀ X.H₀ []).den (b 0 X.s₀ X.H₀ []).den (e 0 X.s₀ X.H₀ []).den⟩
def wH{i}{x}{pos' a}{scope}{N'}{ix}{b}{f}(B:BlockOk X scope N' ix)(k:X.calm=true)(hi:QIb cl X tg iter wi pi)
  (h:∀ C s H fp,QG cl [] (y3 X scope N' C s H fp) tg t g) (c:∀ C s H fp,QIf cl (y3 X scope N' C s H fp) ifs b f) (j:∀ C s H fp,QP cl (y3 X scope N' C s H fp) elt te pe)
  (l:X.N.Nodup) (e:X.N[i]?=some x:=by rfl) (m:Loc X.env.scope x:=by first | exact Or.inl rfl | exact Or.inr rfl)
  (hsw:swapsWith (.ListComp elt [⟨tg,iter,ifs,0⟩] scope pos) (some<|.Name x pos') a.line X.env=pure true:=by with_unfolding_all rfl)
  (n:∀ x,foldedSetIterable iter X.env x=pure x:=by intro _;rfl)
  (o:X.fn x=true\/X.env.scope.names.lookup x=some .local:=by first | exact .inl rfl | exact .inr rfl):
  QS cl pm X (.Assign [.Name x pos'] (.ListComp elt [⟨tg,iter,ifs,0⟩] scope pos) a) (jdn (xM wi t b te ix)<|Va i) (yB (dP<|yS pi g f pe ix)<|jl pm i):=
 ⟨KM B k hi.sem (λC s H fp=>(h C s H fp).sem) (λC s H fp=>(c C s H fp).sem) (λC s H fp=>(j C s H fp).sem) l e m hsw n o,
  uO (PP.d<|u1 hi.den (h 0 X.s₀ X.H₀ []).den (c 0 X.s₀ X.H₀ []).den (j 0 X.s₀ X.H₀ []).den) Qb⟩
end
@[simp] def pV0:pV 0 (o::ρ)=o:=by unfold pV;cases o<;>rfl
@[simp] def pVs:pV (i+1) (o::ρ)=pV i ρ:=rfl
@[simp] def gN_e:gN [] ρ=some ρ:=rfl
@[simp] def gC_e:gC G Gs (d::r) ρ=(G d ρ).bind λρ1=>Gs r ρ1:=rfl
@[simp] def gT_e:gT n Gs (.tup l) ρ=bif decide (l.length=n) then Gs l ρ else none:=rfl
@[simp] def itB_lst(o)(l):itB (.lst o l)=bif frzs l then some l else none:=rfl
@[simp] def itB_tup(l):itB (.tup l)=bif frzs l then some l else none:=rfl
@[simp] def itB_str(l):itB (.str l)=some (l.map λc=>D.str [c]):=rfl
def jcT(h:-(2 ^ 62)<j)(k:j<2 ^ 62):K8 j=true:=Nat.ble_eq_true_of_le ∅
def vk(h:-(2 ^ 62)<j)(k:j<2 ^ 62):xg [.int j]=some (qW 0 j.toNat):=by
 show(bif K8 j then some (qW 0 j.toNat) else none)=_;rw[jcT h k];rfl
def jk(n)(f)(ds):fnP n f ds=(f<|ds.map some++List.replicate (n-ds.length) none).bind Out.val:=rfl
@[simp] def sLoop_nil:vH G f [] ρ=some (.nx ρ):=rfl
def qX:vH G f (x::xs) ρ=(G x ρ).bind λr=>(f r).bind λo=>o.loop (vH G f xs):=rfl
@[simp] def cLoop_nil:yP G q p [] ρ=some []:=rfl
def kP:yP G q p (x::xs) ρ=(G x ρ).bind λr=>(q r).bind λb=>bif b then((p r).bind λy=>(yP G q p xs r).bind λys=>some<|y::ys) else yP G q p xs r:=rfl
def kO(P:Nat->Rh->Prop)(step:∀ i x ρ,xs[i]?=some x->P i ρ->∃ ρ1 ρ2,G x ρ=some ρ1/\(f ρ1=some (.nx ρ2)\/f ρ1=some (.ct ρ2))/\P (i+1) ρ2)  (c:P 0 ρ):
  ∃ ρ',vH G f xs ρ=some (.nx ρ')/\P xs.length ρ':=by
 have key:∀ n i ρ,xs.length-i=n->i<=xs.length->P i ρ->∃ ρ',vH G f (xs.drop i) ρ=some (.nx ρ')/\P xs.length ρ':=by
  intro n
  induction n with
  | zero=>
   intro i ρ d e p;have:i=xs.length:=by lia
   subst this;exact⟨ρ,by rw[List.drop_length];rfl,p⟩
  | succ n g=>
   intro i ρ d e p;have a:i<xs.length:=by lia
   have b:xs[i]?=some xs[i]:=by simp[a]
   obtain⟨ρ1,ρ2,h,e2,p2⟩:=step i _ ρ b p;obtain⟨ρ',e3,p3⟩:=g (i+1) ρ2 ∅ a p2;refine⟨ρ',?_,p3⟩;rw[qH b,qX,h];rcases e2 with e2 | e2<;>simp[e2,e3]
 exact key _ 0 ρ rfl (X4 _) c
def jL{G}{xs}{l:List α}{en}{out}(a:xs=l.map en)(P:Rh->Prop)(step:∀ x∈l,∀ ρ,P ρ->∃ ρ1,G (en x) ρ=some ρ1/\p ρ1=some (out x)/\P ρ1){ρ}(b:P ρ):yP G qT p xs ρ=some (l.map out):=by
 subst a
 induction l generalizing ρ with
 | nil=>rfl
 | cons x l c=>
  obtain⟨ρ1,d,e2,p1⟩:=step x L6 ρ b;rw[L4,kP,d];simp[e2,c (λy e=>step y<|L5 _ e) p1]
@[simp] def cond_dec(p) [Decidable p] (x y:α):(bif decide p then x else y)=if p then x else y:=by by_cases h:p<;>simp[h]
@[simp] def cond_beq_int(i j:Int)(x y:α):(bif i==j then x else y)=if i=j then x else y:=by
 by_cases h:i=j
 ·subst h;simp
 ·rw[if_neg h,U9.mpr h];rfl
@[simp] def ite_bind(p) [Decidable p] (x y:Option α) (f:α->Option β):(if p then x else y).bind f=if p then x.bind f else y.bind f:=by by_cases h:p<;>simp[h]
@[simp] def add_ii(i j):jO (.int i) (.int j)=some (.int<|i+j):=rfl
@[simp] def sub_ii(i j):Qq (.int i) (.int j)=some (.int<|i-j):=rfl
def Kv(h:i.natAbs<2 ^ 1000)(k:j.natAbs<2 ^ 1000):qh (.int i) (.int j)=some (.int<|i*j):=by
 show(bif jj7 i&&jj7 j then some (D.int<|i*j) else none)=_;rw[jbF h,jbF k];rfl
def yx(h:0<j)(k:j<2 ^ 300):yf (.int i) (.int j)=some (.int<|i/j):=by
 show(bif decide (0<j)&&decide (j<2 ^ 300) then some (D.int<|i/j) else none)=_;rw[X9 h,X9 k];rfl
def jD(h:0<j):jA (.int i) (.int j)=some (.int<|i%j):=by
 show(bif decide (0<j) then some (D.int<|i%j) else none)=_;rw[X9 h];rfl
@[simp] def opB_ii(g)(i j):opB g (.int i) (.int j)=some (.bl<|g i j):=rfl
@[simp] def eq_ii(i j):ve (.int i) (.int j)=some (.bl<|i==j):=rfl
@[simp] def ne_ii(i j):Ka (.int i) (.int j)=some (.bl<|!(i==j)):=rfl
@[simp] def f2I_ii(g)(i j):f2I g [.int i,.int j]=some (.int<|g i j):=rfl
@[simp] def frz_int(i):frz (.int i)=true:=rfl
@[simp] def frz_bl(i):frz (.bl i)=true:=rfl
@[simp] def jhT(i):frz (.str i)=true:=rfl
@[simp] def frz_non:frz .non=true:=rfl
@[simp] def fz_int(i):fz (.int i)=.int i:=rfl
@[simp] def fz_bl(i):fz (.bl i)=.bl i:=rfl
@[simp] def fz_str(i):fz (.str i)=.str i:=rfl
@[simp] def fz_non:fz .non=.non:=rfl
@[simp] def fz_lst(o)(l):fz (.lst o l)=.lst false (fzs l):=rfl
@[simp] def fz_tup(l):fz (.tup l)=.tup (fzs l):=rfl
@[simp] def frz_lst(o)(l):frz (.lst o l)=(!o&&frzs l):=rfl
@[simp] def frz_tup(l):frz (.tup l)=frzs l:=rfl
@[simp] def fzs_nil:fzs []=[]:=rfl
@[simp] def jad(d)(l):fzs (d::l)=fz d::fzs l:=rfl
@[simp] def frzs_nil:frzs []=true:=rfl
@[simp] def qB(d)(l):frzs (d::l)=(frz d&&frzs l):=rfl
@[simp] def clean_int(i):kE (.int i)=true:=rfl
@[simp] def clean_bl(i):kE (.bl i)=true:=rfl
@[simp] def jdf(i):kE (.str i)=true:=rfl
@[simp] def clean_non:kE .non=true:=rfl
@[simp] def clean_lst(o)(l):kE (.lst o l)=(o&&yY l):=rfl
@[simp] def clean_tup(l):kE (.tup l)=yY l:=rfl
@[simp] def cleans_nil:yY []=true:=rfl
@[simp] def wL(d)(l):yY (d::l)=(kE d&&yY l):=rfl
@[simp] def fzs_ints(l:List Int):fzs (l.map D.int)=l.map D.int:=by
 rw[JT,U8];rfl
@[simp] def frzs_ints(l:List Int):frzs (l.map D.int)=true:=by
 rw[kT,List.all_map,List.all_eq_true];intro x _;rfl
theorem vt:∀ l:List D,yY l=l.all kE
 | []=>rfl
 | d::l=>by rw[yY,vt l];rfl
@[simp] def cleans_ints(l:List Int):yY (l.map D.int)=true:=by
 rw[vt,List.all_map,List.all_eq_true];intro x _;rfl
@[simp] def boolsD_bools(l):Jz (l.map D.bl)=some l:=by
 induction l with
 | nil=>rfl
 | cons x l a=>show(Jz<|l.map D.bl).bind _=_;rw[a];rfl
@[simp] def jd1(o)(l):vg [.lst o l]=some (.int l.length):=rfl
@[simp] def fLen_tup(l):vg [.tup l]=some (.int l.length):=rfl
@[simp] def fList_lst(o)(l):YA [.lst o l]=bif frzs l then some (.lst true l) else none:=rfl
@[simp] def itemsOf_lst(o)(l):Qc (.lst o l)=some (fzs l):=rfl
@[simp] def itemsOf_tup(l):Qc (.tup l)=some (fzs l):=rfl
@[simp] def tyD_int(i):tyD (.int i)=some "int":=rfl
@[simp] def tyD_bl(i):tyD (.bl i)=some "bool":=rfl
@[simp] def tyD_str(i):tyD (.str i)=some "str":=rfl
@[simp] def tyD_non:tyD .non=some "NoneType":=rfl
@[simp] def tyD_lst(o)(l):tyD (.lst o l)=some "list":=rfl
@[simp] def tyD_tup(l):tyD (.tup l)=some "tuple":=rfl
def jlg{c}{m}{ns:List Int}(h:m [.lst false<|ns.map D.int]=some (.bl true))(d:SqX K H a<|ns.map V.int):spP ⟨K,c⟩ m 1 [.ref a] H (λv _=>v=.bl true) E:=by
 refine⟨λb=>b=a/\H a≠none,[.lst false<|ns.map D.int],.bl true,λb e=>by rw[e.1];exact e.2,rfl,.one ?_,h,λg r=>r.bl_of.1⟩;have f:∀(l:List Int),Reps ⟨K,c⟩ (λb=>b=a/\H a≠none) H (l.map D.int) (l.map V.int) []:=by
  intro l
  induction l with
  | nil=>exact .empty
  | cons x l i=>exact .cons .int_mk i
 refine⟨a,ns.map V.int,[],rfl,f ns,⟨?_,rfl,rfl⟩⟩;rcases d with d | d
 ·refine .inl ⟨⟨rfl,?_⟩,d⟩;rcases d with d | ⟨o,d⟩<;>rw[d]<;>exact λz=>(nomatch z)
 ·exact .inr d
end QD
namespace L2
open PySem PySem.Spec PyProof.Rows
theorem VQ:∀{ws}{us},Vals (ws.map V.str) us->∃ l:List (Str×Tok),us=strValues l/\l.map (·.1)=ws
 | [],us,h=>by
  cases h;exact⟨[],rfl,rfl⟩
 | w::ws,us,h=>by
  cases h with
  | cons a b=>
   obtain⟨t,rfl⟩:=a;obtain⟨l,rfl,e⟩:=VQ b;exact⟨(w,t)::l,rfl,by rw[L4,e]⟩
def jaX{X}:MtR X "str.join" (λx vs H Q=>∃ a p ws,x=.str a/\vs=[.ref p]/\SqL X.K H p (ws.map V.str)/\JoinOk a ws=true/\Q (.str<|Txt.join a ws) H):=by
 intro c s σ H x vs v m Q I d b h;obtain⟨a,p,ws,rfl,rfl,f,hok,q⟩:=h;obtain⟨t,rfl⟩:=d;obtain⟨u,rfl,g⟩:=b.one;cases g;obtain⟨i,b,j,n⟩:=I.list f;obtain⟨l,rfl,e⟩:=VQ b;exact SC.join j.isList e hok λo k=>⟨.str _,H,I.tok _,⟨_,rfl⟩,q⟩
end L2
namespace QD
open PySem L2 PySem.Spec PyProof.Rows
noncomputable def ya(sep:List Nat):List (List Nat)->List Nat
 | []=>[]
 | [x]=>x
 | x::y::r=>x++sep++ya sep (y::r)
theorem QR(a):∀ ws:List (List Nat),Str.join (S a) (ws.map S)=S (ya a ws)
 | []=>rfl
 | [x]=>rfl
 | x::y::r=>by
  show S x++S a++Str.join (S a) ((y::r).map S)=_;rw[QR a<|y::r,jhg,jhg];rfl
noncomputable def Jr:List D->Option (List<|List Nat)
 | []=>some []
 | .str w::l=>match Jr l with
  | some ws=>some<|w::ws
  | none=>none
 | _::_=>none
@[simp] def kQ(l):Jr (l.map D.str)=some l:=by
 induction l with
 | nil=>rfl
 | cons x l a=>simp[Jr,a]
section
variable {R:RC}{Z:Zn}{H:Hp}
theorem QA:∀{l}{ws}{vs}{O},Jr l=some ws->Reps R Z H l vs O->vs=(ws.map S).map V.str
 | [],ws,vs,O,e,r=>by
  cases e;have:=r.length;exact List.length_eq_zero_iff.mp this
 | x::l,ws,vs,O,e,r=>by
  cases x with
  | str w=>
   simp only[Jr] at e;cases e1:Jr l with
   | none=>rw[e1] at e;cases e
   | some a=>
    rw[e1] at e;cases e;obtain⟨v,b,P,f,rfl,-,c,d⟩:=r;obtain⟨rfl,_⟩:=c.str_of;rw[QA e1 d];rfl
  | _=>cases e
noncomputable def qe(sep:List Nat)(ws:J2):Bool:=decide<|(ws.map List.length).sum+ws.length*sep.length<=1000000
def jdd{a}{ws}(h:qe a ws=true):JoinOk (S a) (ws.map S)=true:=by
 have h:=E2 h;unfold JoinOk;rw[StrLaws.joinTotal];have e:((ws.map S).map (·.length))=ws.map List.length:=by
  rw[U8];exact List.map_congr_left λw _=>ql w
 rw[e,L0,ql];unfold Builtin.Str.tooLong;have:sizeLine=16777216:=by decide
 simp
 lia
def J7:D->List D->Option D
 | .str sep,[.lst _ l]=>match Jr l with
  | some ws=>bif qe sep ws then some (.str<|ya sep ws) else none
  | none=>none
 | _,_=>none
def jcI:BM R "str" (λx vs H Q=>∃ a p ws,x=.str a/\vs=[.ref p]/\SqL R.K H p (ws.map V.str)/\JoinOk a ws=true/\Q (.str<|Txt.join a ws) H) J7:=by
 intro Z H x d xs v vs h i z r c e Q k;unfold J7 at e;split at e
 ·rename_i b o l;cases e1:Jr l with
  | none=>rw[e1] at e;cases e
  | some ws=>
   rw[e1] at e;dsimp only at e;cases hm:qe b ws with
   | false=>rw[hm] at e;cases e
   | true=>
    rw[hm] at e;cases e;obtain⟨rfl,_⟩:=r.str_of;obtain⟨v,rfl,f⟩:=c.one_of;clear c;obtain⟨p,j,m,rfl,g,c⟩:=f.lst_of;have:=QA e1 c;subst this;refine⟨S b,p,ws.map S,rfl,rfl,g.sq,jdd hm,?_⟩;have e2:Txt.join (S b) (ws.map S)=S (ya b ws):=(StrLaws.glued_eq_join _ _).trans (QR b ws);rw[e2];exact k (Go.id z) .str_mk
 ·cases e
def yO(a b:List Nat):List (List Nat):=(Txt.split (S a)<|S b).map λw=>w.cps.toList
def J6:D->List D->Option D
 | .str a,[.str b]=>bif !b.isEmpty&&decide (a.length<=1000000) then some (.lst true<|(yO a b).map D.str) else none
 | _,_=>none
def jbi(ws:List Str):Reps R Z H ((ws.map λw=>w.cps.toList).map D.str) (ws.map V.str) []:=by
 induction ws with
 | nil=>exact .empty
 | cons w ws a=>
  exact .cons (O:=[]) .str_mk a
def jey:BM R "str" (λx vs H Q=>∃ a b,x=.str a/\vs=[.str b]/\(b.length==0)=false/\a.length+2<=sizeLine/\∀ p,H p=none->Q (.ref p) (upd H p<|.lst<|(Txt.split a b).map V.str)) J6:=by
 intro Z H x d xs v vs i j z r c e Q k;unfold J6 at e;split at e
 ·rename_i a b;refine oc e λf e=>?_;cases e;simp only[M0,decide_eq_true_eq,Bool.not_eq_true',List.isEmpty_eq_false_iff] at f;obtain⟨rfl,_⟩:=r.str_of;obtain⟨v,rfl,h⟩:=c.one_of;clear c;obtain⟨rfl,_⟩:=h.str_of;have l:sizeLine=16777216:=by decide
  refine⟨_,_,rfl,rfl,?_,?_,λp g=>k (Go.newO (wf0 z) g)<|Rep.lstNew (wf0 z) g<|jbi _⟩
  ·rw[ql];have:=List.length_pos_iff.mpr f.1;exact U9.mpr ∅
  ·rw[ql];lia
 ·cases e
end
section
variable {cl:Nat->Addr}{X:Cx}{o e:Expr}{es:List Expr}{to:TE}{po:PF}{tr:TA}{pr:PAf}{name:Str}{apos cpos:Pos}{T id:String}{r:V->List V->Hp->VK->Prop}{g:D->List D->Option D}
def jmG(pa:PlainAttrs T)(slot:Slot T name id)(f:typeOf (.builtin id)=pure (.type "method_descriptor"))(j:MtR X id r)(k:BM ⟨X.K,cl⟩ T r g)(h:QB cl X o to po)(i:QBs cl X (e::es) tr pr)
  (b:attributeBase o name X.env (eval o X.env)=eval o X.env:=by rfl)
  (d:((backTo cpos<|starEach (e::es) X.env).all (λx=>!x.1)&&(backToKw cpos<|keywordEach [] X.env).all (λx=>x.1.isSome)
   && decide ((e::es).length+([]:List Keyword).length+(if([]:List Keyword).isEmpty then 0 else 1)<30))=true:=by rfl)
  (c:(apos.endLine==cpos.line)=true:=by rfl) (l:SEq X e es:=by rfl) (a:BkE X cpos es:=by rfl):
  QP cl X (.Call (.Attribute o name apos) (e::es) [] cpos) (tBM X.K T r to tr) (pBM T g po pr):=
 ⟨wX pa slot f j h.sem i.sem b d c l a,jnd k h.den i.den⟩
end
@[simp] def isT_str(w):isT "str" (.str w)=true:=rfl
@[simp] def Qy(a)(o)(l):J7 (.str a) [.lst o l]=(Jr l).bind λws=>bif qe a ws then some (.str<|ya a ws) else none:=by
 unfold J7;cases h:Jr l<;>simp[h]
end QD
namespace QK
open PySem L2 QD PySem.Spec PyProof.Rows
section
variable {cl:Nat->Addr}{pm:List Nat}{X:Cx}{a b c e o:Expr}{es:List Expr}{ta tb tc te to:TE}{pa pb pc pe po:PF}{tr:TA}{pr:PAf}{pos:Pos}{K:J4}
variable {tg iter elt:Expr}{ifs:List Expr}{wi:TI}{pi:PAf}{t:TG}{g:D->Rh->Option Rh}
def add(c:X.K=K)(d:QB cl X a ta pa)(e:QB cl X b tb pb):QP cl X (.BinOp a .Add b pos) (tOp (jbX K) ta tb) (p2 jO pa pb):=by subst c;exact jjD d e
def ix(c:X.K=K)(d:QB cl X a ta pa)(e:QB cl X b tb pb)(f:Vo b:=by exact λ_ _=>rfl):QB cl X (.Subscript a b pos) (tOp (rIx K) ta tb) (p2 jf pa pb):=by subst c;exact jnt d e f
def call{k n}{ps}{m}{x}{st}{p}(c:X.K=K)(O:OkF X.prog X.w X.K X.mg x st k ps<|spP ⟨X.K,cl⟩ m n)(d:Room k X.A)
  (f:QBs cl X (e::es) tr pr) (hn:(e::es).length=n:=by rfl) (g:Gl X x:=by rfl) (a:Nd x:=by decide)
  (h:SEq X e es:=by rfl) (b:BkE X pos es:=by rfl):QP cl X (.Call (.Name x p) (e::es) [] pos) (JH (spP ⟨K,cl⟩ m n) [] E0 tr) (jK m pr):=by
 subst c;exact jfQ O d f hn g a h b
theorem c_in(a:X.K=K)(c:behindInMarks .In b=false):CmpR cl X .In b (jgK K false) (yZ false):=by subst a;exact QD.c_in c
theorem c_notin(a:X.K=K)(c:behindInMarks .NotIn b=false):CmpR cl X .NotIn b (jgK K true) (yZ true):=by subst a;exact QD.c_notin c
theorem c_ne{k}(a:X.K=K)(c:Room k X.A):CmpR cl X .NotEq b (λx y H Q=>rNe x y H Q\/jf4 ⟨K,cl⟩ true x y H Q) Ka:=by subst a;exact QD.c_ne c
theorem join(b:X.K=K):MtR X "str.join" (λx vs H Q=>∃ a p ws,x=.str a/\vs=[.ref p]/\SqL K H p (ws.map V.str)/\JoinOk a ws=true/\Q (.str<|Txt.join a ws) H):=by subst b;exact jaX
def bm{name}{apos cpos}{T id}{r}{g}(h:X.K=K)(pa:PlainAttrs T)(slot:Slot T name id)(f:typeOf (.builtin id)=pure (.type "method_descriptor"))(i:MtR X id r)(j:BM ⟨X.K,cl⟩ T r g)(k:QB cl X o to po)(l:QBs cl X (e::es) tr pr)
  (b:attributeBase o name X.env (eval o X.env)=eval o X.env:=by rfl)
  (d:((backTo cpos<|starEach (e::es) X.env).all (λx=>!x.1)&&(backToKw cpos<|keywordEach [] X.env).all (λx=>x.1.isSome)
   && decide ((e::es).length+([]:List Keyword).length+(if([]:List Keyword).isEmpty then 0 else 1)<30))=true:=by rfl)
  (c:(apos.endLine==cpos.line)=true:=by rfl) (m:SEq X e es:=by rfl) (a:BkE X cpos es:=by rfl):
  QP cl X (.Call (.Attribute o name apos) (e::es) [] cpos) (tBM K T r to tr) (pBM T g po pr):=by
 subst h;exact jmG pa slot f i j k l b d c m a
end
end QK
namespace QD
open PySem L2 PySem.Spec PyProof.Rows
@[simp] def dTupMv(i:Nat)(p:PAf)(ρ:Rh):Option (D×Rh):=(pV i ρ).bind λd=>(p ρ).bind λds=>bif lim (ds.length+1) then some (.tup<|d::ds,ρ.set i none) else none
structure QGo(cl:Nat->Addr)(pm:List Nat)(X:Cx)(tg:Expr)(t:TG)(g:D->Rh->Option Rh):Prop where
 sem:PG X tg t
 den:DG ⟨X.K,cl⟩ pm t g
def jbT(a:X.N.Nodup)(hi:X.N[i]?=some x:=by rfl)(b:Loc X.env.scope x:=by first | exact Or.inl rfl | exact Or.inr rfl)(c:X.fn x=true\/X.env.scope.names.lookup x=some .local:=by first | exact .inl rfl | exact .inr rfl):
  QGo cl pm X (.Name x pos) (Va i) (jl pm i):=⟨jc6 a hi b c,Qb⟩
section
variable {R:RC}{Z Z':Zn}{H H':Hp}{pm:List Nat}
noncomputable def kS:D->Option KA
 | .int i=>some<|.int i
 | .str s=>some<|.str s
 | _=>none
def qM(e:kS d=some k)(r:Rep R Z H d v O):v=kV (kaV k)/\O=[]:=by
 cases d with
 | int i=>cases e;rw[Rep] at r;exact r
 | str s=>cases e;rw[Rep] at r;exact r
 | _=>cases e
def x6(h:kaV a=kaV b):a=b:=by
 cases a<;>cases b<;>simp only[kaV] at h
 ·cases h;rfl
 ·cases h
 ·cases h
 ·have:=jgi<|Sum.inr.inj h;rw[this]
noncomputable def JZ:List KA->List D->KA->Option D
 | k::ks,d::l,a=>if k=a then some d else JZ ks l a
 | _,_,_=>none
theorem qY:∀{ks}{l}{vs}{O}{a},Reps R Z H l vs O->ks.length=l.length ->
  (∀ d,JZ ks l a=some d->∃ v P,Ky ((ks.map kaV).zip vs) (kaV a)=some v/\Rep R Z H d v P)/\(JZ ks l a=none->Ky ((ks.map kaV).zip vs) (kaV a)=none)
 | [],l,vs,O,a,r,c=>⟨λd e=>(by cases l<;>cases e),λ_=>rfl⟩
 | k::ks,[],vs,O,a,r,c=>by simp at c
 | k::ks,x::l,vs,O,a,r,c=>by
  obtain⟨v,b,f,m,rfl,rfl,g,i⟩:=r;by_cases e:k=a
  ·subst e;refine⟨λd h=>?_,λh=>?_⟩
   ·simp only[JZ,if_true] at h;cases h;exact⟨v,f,Vc rfl,g⟩
   ·simp[JZ] at h
  ·have j:=λz=>e<|x6 z;have q:Ky (((k::ks).map kaV).zip (v::b)) (kaV a)=Ky ((ks.map kaV).zip b) (kaV a):=Vh j;rw[q];simp only[JZ,if_neg e];exact(qY (a:=a) i ⇑c)
def DkA.rd(h:DkA o H a kvs):Rd H a (.dK kvs):=by
 cases o with
 | true=>exact .inl h
 | false=>exact h
def DGet.r(e:Rd H a<|.dK kvs):DGet H a (kV k) (Ky kvs k):=.inl ⟨kvs,k,e,rfl,rfl⟩
def Rep.dK_of(r:Rep R Z H (.dK o ks l) v O):Ex3 λa vs O'=>An4 (v=.ref a) (Rd H a<|.dK<|(ks.map kaV).zip vs) (Reps R Z H l vs O') (ks.length=l.length):=by
 obtain⟨a,vs,O',rfl,b,c,d,_⟩:=r;exact⟨a,vs,O',rfl,d.rd,b,c⟩
def jif:PP R jb3 (pC<|.dK true [] []):=by
 intro σ ρ Z H O d z s e Q k;cases e;intro p a;exact k (Go.newO (wf0 z) a) ⟨p,[],[],rfl,.empty,rfl,jV,rfl⟩
@[simp] def p3(g:D->D->D->Option D)(pa:PF)(pb:PF)(pc:PF)(ρ:Rh):Option D:=(pa ρ).bind λx=>(pb ρ).bind λy=>(pc ρ).bind λz=>g x y z
def jc1(neg:Bool)(y x:D):Option D:=match x with
 | .dK _ ks l=>(kS y).bind λk=>some<|.bl<|neg != (JZ ks l k).isSome
 | _=>none
def jd4{f ty}{pa pb}{b}(m:PB R ty pa)(n:PB R f pb){σ}{ρ}{Z}{H}{O}{d}(z:Zd Z H)(s:Slots R Z H ρ σ O)(e:p2 (jc1 b) pa pb ρ=some d)
  {Q:VK}(k:∀{v}{Z'}{H'}{P},Go Z H [] Z' H' P->Rep R Z' H' d v P->Q v H'):ty σ H λy H1=>f σ H1 λx H2=>∃ a o,x=.ref a/\DGet H2 a y o/\Q (.bl<|b != o.isSome) H2:=by
 refine ob e λy q e=>ob e λx e2 e=>(m z s q λ{v D H1 E} c t=>(n c.wf.zd (c.slots z s) e2 λ{u F H2 G} g A=>?_));cases x with
 | dK o ks l=>
  refine ob e λa e3 e=>?_;cases e;obtain⟨p,vs,I,rfl,h,i,j⟩:=A.dK_of;obtain⟨rfl,_⟩:=qM e3 t;cases ev:JZ ks l a with
  | none=>
   refine⟨p,none,rfl,(qY i j).2 ev▸DGet.r h,k (c.pair g) ?_⟩;rw[ev];exact .bl_mk
  | some d=>
   obtain⟨w,P,B,C⟩:=(qY i j).1 d ev;refine⟨p,some w,rfl,B▸DGet.r h,k (c.pair g) ?_⟩;rw[ev];exact .bl_mk
 | _=>cases e
def jjq{a ty}{pa pb}(b:PB R ty pa)(c:PB R a pb):PP R (jma ty a) (p2 (jc1 false) pa pb):=λz s e _ k=>by
 have:=jd4 b c z s e k;simpa [jma] using this
noncomputable def jgV:List KA->List D->KA->D->List D
 | k::ks,x::l,a,d=>(if k=a then d else x)::jgV ks l a d
 | _,_,_,_=>[]
theorem u7:∀{ks}{l} a d,ks.length=l.length->(jgV ks l a d).length=l.length
 | [],[],_,_,_=>rfl
 | [],_::_,_,_,h=>by simp at h
 | _::_,[],_,_,h=>by simp at h
 | k::ks,x::l,a,d,h=>by rw[jgV,M2,M2,u7 a d ⇑h]
theorem uj(rd:Rep R Z H d v [])(a):∀{ks}{l}{vs}{O},Reps R Z H l vs O->ks.length=l.length ->
  Ex2 λvs2 O2=>An3 (Reps R Z H (jgV ks l a d) vs2 O2) ((ks.map kaV).zip vs2=((ks.map kaV).zip vs).map (λkv=>if kv.1=kaV a then(kv.1,v) else kv))<|O2.Sublist O
 | [],[],vs,O,r,b=>by
  obtain⟨rfl,rfl⟩:=r;exact⟨[],[],.empty,rfl,.slnil⟩
 | [],_::_,_,_,_,h=>by simp at h
 | _::_,[],_,_,_,h=>by simp at h
 | k::ks,x::l,vs,O,r,b=>by
  obtain⟨w,j,m,O2,rfl,rfl,n,o⟩:=r;obtain⟨c,f,g,e3,i⟩:=uj rd a o ⇑b;by_cases e:k=a
  ·subst e;refine⟨v::c,[]++f,?_,?_,(i.trans<|List.sublist_append_right _ _)⟩
   ·rw[jgV,if_pos rfl];exact Reps.cons rd g
   ·simp only[L4,X6,if_true,e3]
  ·have p:=λz=>e<|x6 z;refine⟨w::c,m++f,?_,?_,(List.Sublist.append (List.Sublist.refl _) i)⟩
   ·rw[jgV,if_neg e];exact Reps.cons n g
   ·simp only[L4,X6,if_neg p,e3]
theorem ua(a):∀{ks:List KA}{vs:List V},ks.length=vs.length->(((ks.map kaV).zip vs).any λkv=>decide<|kv.1=kaV a)=decide (a∈ks)
 | [],vs,_=>by simp
 | k::ks,[],h=>by simp at h
 | k::ks,v::vs,h=>by
  rw[L4,X6,List.any_cons,ua a ⇑h];by_cases e:k=a
  ·subst e;simp
  ·have b:¬ (kaV k=kaV a):=λz=>e<|x6 z;have e2:¬ (a=k):=λz=>e z.symm;simp[b,e2]
def V7(ks:List KA)(l:List D)(a:KA)(d:D):List KA×List D:=if a∈ks then(ks,jgV ks l a d) else(ks++[a],l++[d])
def jdY(rd:Rep R Z H d v [])(a)  (r:Reps R Z H l vs O) (hl:ks.length=l.length):
  Ex2 λvs2 O2=>An4 (Reps R Z H (V7 ks l a d).2 vs2 O2) ((((V7 ks l a d).1).map kaV).zip vs2=xF ((ks.map kaV).zip vs) (kaV a) v) (O2.Sublist O) ((V7 ks l a d).1.length=(V7 ks l a d).2.length):=by
 have b:ks.length=vs.length:=by rw[r.length];exact hl
 unfold V7 xF;rw[ua a b];by_cases e:a∈ks
 ·rw[if_pos e,X9 e,if_pos rfl];obtain⟨c,P,f,e2,g⟩:=uj rd a r hl;exact⟨c,P,f,e2,g,by rw[u7 a d hl];exact hl⟩
 ·rw[if_neg e,E1 e,if_neg<|λz=>(nomatch z)];refine⟨vs++[v],O++[],r.append<|Reps.one rd,?_,by simp,by simp[hl]⟩;rw[N7,List.zip_append ⇑b];rfl
@[simp] def sDSet(i:Nat)(pk:PF)(pv:PF)(ρ:Rh):Option Out:=(pv ρ).bind λd=>(pV i ρ).bind λx=>(jiE x).bind λp=>(pk ρ).bind λy=>(kS y).bind λa=>bif frz d&&lim p.1.length then some (.nx<|ρ.set i<|some<|.dK true (V7 p.1 p.2 a d).1 (V7 p.1 p.2 a d).2) else none
def jiv{ks:List α}{vs:List V}{f:α->β}(h:lim ks.length=true):((ks.map f).zip vs).length<sizeLine:=by rw[List.length_zip,L0];exact E8 (Nat.min_le_left _ _)<|zT h
end
def jjG:QP cl X (.Dict [] [] pos) jb3 (pC<|.dK true [] []):=⟨je4,jif⟩
@[simp] def keyOf_int(i):kS (.int i)=some (.int i):=rfl
@[simp] def keyOf_str(s):kS (.str s)=some (.str s):=rfl
@[simp] def opDIn_e(a o)(ks)(l)(y):jc1 a y (.dK o ks l)=(kS y).bind λk=>some (.bl<|a != (JZ ks l k).isSome):=rfl
def jgp{P}{w}{K}{cl}{mg}{base}{k n}{f}{fd}{ps}:FnOk P w K mg base CX0 k f fd ps (spP ⟨K,cl⟩ (λ_=>none) n):=
 ⟨λvs H Q E ⟨_,_,_,_,_,_,h,_⟩=>(nomatch h),λA outer s H a b vs Q E _ _ _ _ ⟨_,_,_,_,_,_,h,_⟩=>(nomatch h)⟩
end QD
namespace QK
open PySem L2 QD PySem.Spec PyProof.Rows
end QK
namespace QD
open PySem L2 PySem.Spec PyProof.Rows
@[simp] def sRev(i:Nat)(ρ:Rh):Option Out:=(pV i ρ).bind λx=>(Jq x).bind λl=>bif frzs l then some (.nx<|ρ.set i<|some<|.lst true l.reverse) else none
end QD
namespace L2
open PySem PySem.Spec PyProof.Rows
end L2
namespace QD
open PySem L2 PySem.Spec PyProof.Rows
def jfr(h:ixN l.length j=some i)(k:l[i]?=some x):L2.atI l j=some x:=by
 unfold L2.atI;rw[h];exact k
structure QDs(cl:Nat->Addr)(X:Cx)(es:List Expr)(ta:TA)(f:FA):Prop where
 sem:PA X es ta
 den:DA ⟨X.K,cl⟩ ta f
def jj0:QDs cl X [] Jl YG:=⟨JC,jka⟩
def jgC(h1:QE cl X e te fE)(h2:QDs cl X es tr fr)(a:SEq X e es:=by rfl):QDs cl X (e::es) (vq te tr) (jT fE fr):=⟨vy h1.sem h2.sem a,jgm h1.den h2.den⟩
def jjn{a}(h:QDs cl X es tr fr):QE cl X (.Tuple es a pos) (jlp tr) (uG fr):=⟨jfp h.sem,jjy h.den⟩
@[simp] def ji0:uG fa ρ=(fa ρ).bind λx=>bif decide (x.1.length<=1000) then some (.tup x.1,x.2) else none:=by
 unfold uG dCB;cases fa ρ with
 | none=>rfl
 | some x=>
  obtain⟨d,r⟩:=x;dsimp only[Option.bind];cases decide (d.length<=1000)<;>rfl
section
variable {R:RC}{Z Z':Zn}{H H':Hp}{pm:List Nat}
@[simp] def sDAugI(i:Nat)(pk:PF)(g:Int->Int->Int)(pv:PF)(ρ:Rh):Option Out:=(pk ρ).bind λy=>(kS y).bind λc=>(pV i ρ).bind λx=>(jiE x).bind λkl=>(JZ kl.1 kl.2 c).bind λm=>(Jp m).bind λm=>(pv ρ).bind λn=>(Jp n).bind λn=>
  bif lim kl.1.length then some (.nx<|ρ.set i<|some<|.dK true (V7 kl.1 kl.2 c<|.int<|g m n).1 (V7 kl.1 kl.2 c<|.int<|g m n).2) else none
noncomputable def kaD:KA->D
 | .int i=>.int i
 | .str s=>.str s
@[simp] def pDItems(pd:PF)(ρ:Rh):Option D:=(pd ρ).bind λd=>(jiW d).bind λk=>bif frzs k.2 then some (.lst true<|(k.1.zip k.2).map λp=>.tup [kaD p.1,p.2]) else none
end
def jaf(ks:List KA)(l:List D)(p:PF):PF:=λρ=>(p ρ).bind λy=>(kS y).bind λk=>JZ ks l k
def jdV(ks:List KA)(l:List D)(p:PF):PF:=λρ=>(p ρ).bind λy=>(kS y).bind λk=>some<|(JZ ks l k).getD .non
@[simp] def pKIx_e:jaf ks l p ρ=(p ρ).bind λy=>(kS y).bind λk=>JZ ks l k:=rfl
@[simp] def pKGet_e:jdV ks l p ρ=(p ρ).bind λy=>(kS y).bind λk=>some ((JZ ks l k).getD .non):=rfl
def jjL(a:∀ Z H,Reps R Z H l vs [])(hl:ks.length=l.length)(h:PB R ty p):PB R (jhQ ((ks.map kaV).zip vs) ty) (jaf ks l p):=by
 intro σ ρ Z H O d z s e Q k;refine ob e λy b e=>ob e λc e2 e=>(h z s b λ{v f g n} i j=>?_);obtain⟨rfl,_⟩:=qM e2 j;obtain⟨u,P,m,rd⟩:=(qY (a f g) hl).1 d e;exact⟨kaV c,u,rfl,m,k i rd⟩
def jhp(g:∀ Z H,Reps R Z H l vs [])(hl:ks.length=l.length)(h:PB R ty p):PB R (jbA ((ks.map kaV).zip vs) ty) (jdV ks l p):=by
 intro σ ρ Z H O d z s e Q k;refine ob e λy i e=>ob e λc e2 e=>(h z s i λ{v j m q} b n=>?_);obtain⟨rfl,_⟩:=qM e2 n;refine⟨kaV c,rfl,?_⟩;have f:=qY (a:=c) (g j m) hl;cases e3:JZ ks l c with
 | none=>
  rw[e3] at e;cases e;rw[f.2 e3];exact k b .non_mk
 | some x=>
  rw[e3] at e;cases e;obtain⟨u,P,o,rd⟩:=f.1 x e3;rw[o];exact k b rd
noncomputable def jmB:List Str->List Tok->List Value
 | x::xs,t::ts=>.str x t::jmB xs ts
 | _,_=>[]
theorem zt:∀{xs}{ts},xs.length=ts.length->Vals (xs.map V.str) (jmB xs ts)
 | [],[],_=>.nil
 | x::xs,t::ts,h=>.cons ⟨t,rfl⟩<|zt ⇑h
 | [],_::_,h=>by simp at h
 | _::_,[],h=>by simp at h
def jdi(ws:J2):Reps R Z H (ws.map D.str) ((ws.map S).map V.str) []:=by
 induction ws with
 | nil=>exact .empty
 | cons w ws a=>exact .cons .str_mk a
def j6{K}{n}{sl}{xs}{ts}{ws:J2}(c:ws.map S=xs)(h:K.lookup a=some ⟨.type "tuple",none,.seq (jmB xs ts).toArray n,sl⟩)(hl:xs.length=ts.length)(hz:xs.length<=1000)(cl)(Z)(H):Rep ⟨K,cl⟩ Z H (.tup<|ws.map D.str) (.ref a) []:=by
 subst c;have b:=zt hl;refine⟨a,(ws.map S).map V.str,rfl,.inr ⟨_,_,n,h,rfl,rfl,?_,by simpa using b⟩,jdi ws⟩;have:=b.length;rw[L0] at this;rw[N5,<- this];exact jbx hz
def jkP{cl}{X}{i}{ty}{pi}{pos p}{x}{a}{ks}{l}{vs}(b:X.mg x=some (.ref a))(c:KD X.prog X.w X.K a<|(ks.map kaV).zip vs)(d:∀ Z H,Reps ⟨X.K,cl⟩ Z H l vs [])(hl:ks.length=l.length)(hi:QB cl X i ty pi)(e:jnn i:=by exact λ_ _=>rfl)(f:Gl X x:=by rfl)(hd:Nd x:=by decide):
  QB cl X (.Subscript (.Name x p) i pos) (jhQ ((ks.map kaV).zip vs) ty) (jaf ks l pi):=⟨jge c f b hi.sem e hd,jjL d hl hi.den⟩
def jhO{cl}{X}{e}{te}{pe}{p apos cpos}{x}{a}{ks}{l}{vs}(c:X.mg x=some (.ref a))(d:KD X.prog X.w X.K a<|(ks.map kaV).zip vs)(f:∀ Z H,Reps ⟨X.K,cl⟩ Z H l vs [])(hl:ks.length=l.length)(b:QB cl X e te pe)(m:M1 X (.Name x p) "get" apos e cpos:=by exact⟨rfl,rfl,rfl,rfl⟩)(g:Gl X x:=by rfl)(hd:Nd x:=by decide):
  QB cl X (.Call (.Attribute (.Name x p) "get" apos) [e] [] cpos) (jbA ((ks.map kaV).zip vs) te) (jdV ks l pe):=⟨jem d g c b.sem m hd,jhp f hl b.den⟩
def uB:D->D->Option D
 | .tup l,.int n=>bif frzs l&&!l.isEmpty&&decide (l.length<=1000)&&(decide (1<=n)&&decide (n<=1000)) then some (.tup (List.replicate n.toNat l).flatten) else none
 | _,_=>none
theorem uM(r:Reps R Z H l vs []):∀ n:Nat,Reps R Z H (List.replicate n l).flatten (List.replicate n vs).flatten []
 | 0=>.empty
 | n+1=>by
  exact r.append<|uM r n
def jim:BO R (jf1 R.K) uB:=by
 intro Z H x y d v u r s z g i e Q k;cases x with
 | tup l=>
  cases y with
  | int n=>
   refine oc e λa e=>?_;cases e;simp only[M0,decide_eq_true_eq] at a;obtain⟨p,vs,rfl,j,c⟩:=g.tup_of;obtain⟨rfl,_⟩:=i.int_of;have f:vs≠[]:=by
    intro m;have:=c.length;rw[m] at this;rw[List.eq_nil_of_length_eq_zero this.symm] at a;simp at a
   refine⟨p,vs,n,rfl,rfl,j,f,by rw[c.length];exact a.1.2,a.2.1,a.2.2,λo=>?_,λ_ b h=>k (Go.newF (wf0 z) h)<|Rep.tupNew (wf0 z) h<|uM (c.frozen a.1.1.1) n.toNat⟩;subst o;have q:=c.nil a.1.1.1;subst q;have:(List.replicate (1:Int).toNat l).flatten=l:=by simp
   rw[this] at k;exact k (Go.id z) g
  | _=>cases e
 | _=>cases y<;>cases e
def jl7(neg:Bool)(ks:List KA)(l:List D)(p:PF):PF:=λρ=>(p ρ).bind λy=>(kS y).bind λk=>some<|.bl<|neg != (JZ ks l k).isSome
@[simp] def pKIn_e:jl7 neg ks l p ρ=(p ρ).bind λy=>(kS y).bind λk=>some (.bl<|neg != (JZ ks l k).isSome):=rfl
def jlx(f:∀ Z H,Reps R Z H l vs [])(hl:ks.length=l.length)(h:PB R ty p):PP R (jme neg ((ks.map kaV).zip vs) ty) (jl7 neg ks l p):=by
 intro σ ρ Z H O d z s e Q k;refine ob e λy g e=>ob e λc e2 e=>?_;cases e;refine h z s g λ{v i j q} m n=>?_;obtain⟨rfl,_⟩:=qM e2 n;refine⟨kaV c,rfl,?_⟩;have b:=qY (a:=c) (f i j) hl;have:(Ky ((ks.map kaV).zip vs)<|kaV c).isSome=(JZ ks l c).isSome:=by
  cases e3:JZ ks l c with
  | none=>rw[b.2 e3];rfl
  | some x=>
   obtain⟨u,P,o,_⟩:=b.1 x e3;rw[o];rfl
 rw[this];exact k m .bl_mk
noncomputable def jm3:List Int->List Tok->List Value
 | x::xs,t::ts=>.int x t::jm3 xs ts
 | _,_=>[]
theorem xv:∀{xs}{ts},xs.length=ts.length->Vals (xs.map V.int) (jm3 xs ts)
 | [],[],_=>.nil
 | x::xs,t::ts,h=>.cons ⟨t,rfl⟩<|xv ⇑h
 | [],_::_,h=>by simp at h
 | _::_,[],h=>by simp at h
def jbc(ns:List Int):Reps R Z H (ns.map D.int) (ns.map V.int) []:=by
 induction ns with
 | nil=>exact .empty
 | cons w b a=>exact .cons .int_mk a
def xb{K}{n}{sl}{ns}{ts}(h:K.lookup a=some ⟨.type "tuple",none,.seq (jm3 ns ts).toArray n,sl⟩)(hl:ns.length=ts.length)(hz:ns.length<=1000)(cl)(Z)(H):Rep ⟨K,cl⟩ Z H (.tup<|ns.map D.int) (.ref a) []:=by
 have b:=xv hl;refine⟨a,ns.map V.int,rfl,.inr ⟨_,_,n,h,rfl,rfl,?_,by simpa using b⟩,jbc ns⟩;have:=b.length;rw[L0] at this;rw[N5,<- this];exact jbx hz
def jjH(c:QB cl X a ta pa)(d:QB cl X b tb pb):QP cl X (.BinOp a .Mult b pos) (tOp (jf1 X.K) ta tb) (p2 uB pa pb):=⟨Kg jgL c.sem d.sem,Kf jim c.den d.den⟩
def jlb{cl}{X}{i}{ty}{pi}{pos p}{x}{a}{ks}{l}{vs}(c:X.mg x=some (.ref a))(d:KD X.prog X.w X.K a<|(ks.map kaV).zip vs)(e:∀ Z H,Reps ⟨X.K,cl⟩ Z H l vs [])(hl:ks.length=l.length)(hi:QB cl X i ty pi)(f:Gl X x:=by rfl)(hd:Nd x:=by decide)(g:behindInMarks .In (.Name x p)=false:=by with_unfolding_all rfl):
  QT cl X (.Compare i [.In] [.Name x p] pos) (L2.tB<|jme false ((ks.map kaV).zip vs) ty) (jd<|jl7 false ks l pi):=⟨jkj (jkn d f c hi.sem hd) g,Qz<|PP.b<|jlx e hl hi.den⟩
@[simp] def mulT_e(l)(n):uB (.tup l) (.int n)=(bif frzs l&&!l.isEmpty&&decide (l.length<=1000)&&(decide (1<=n)&&decide (n<=1000)) then some (.tup (List.replicate n.toNat l).flatten) else none):=rfl
noncomputable def spM(R:RC)(m:List D->Option (D×D))(n j:Nat):Sp:=λvs H Q _=>∃ Z ds d c O u,WF Z H O/\ds.length=n/\Reps R Z H ds vs O/\vs[j]?=some u/\m ds=some (d,c) /\
 ∀{v}{Z'}{H'}{P O'},Go Z H O Z' H' (P++O')->Rep R Z' H' d v P->Rep R Z' H' c u O'->Q v H'
def Y4(j:Nat):Out->Option (D×D)
 | .rt d ρ=>(pV j ρ).bind λc=>some (d,c)
 | .nx ρ=>(pV j ρ).bind λc=>some (.non,c)
 | _=>none
def fnM(n j:Nat)(f:FS):List D->Option (D×D):=λds=>(f<|ds.map some++List.replicate (n-ds.length) none).bind (Y4 j)
def qJ:fnM n j f ds=(f<|ds.map some++List.replicate (n-ds.length) none).bind (Y4 j):=rfl
def Go.pick(g:Go Z H O Z' H'<|P++(A++Q++B)):Go Z H O Z' H' (P++Q):=g.drop (λa h=>by simp at h ⊢;rcases h with h | h<;>simp[h]) (by
 have nd:=g.wf.nd;simp only[X8,N4] at nd ⊢;exact⟨nd.1,nd.2.1.1.2.1,λa c b d=>nd.2.2 a c b<|.inl<|.inr d⟩)
def jhl(y:DS R [j] ts f)(h:spM R (fnM N.length j f) n j vs H Q E):ts {nx:=λ_ H'=>Q .non H',rt:=Q} (L2.start N vs) H:=by
 obtain⟨Z,m,d,c,O,u,w,K,r,z,e,k⟩:=h;have s:Slots R Z H (m.map some++List.replicate (N.length-m.length) none) (L2.start N vs) O:=by
  have q:=Jc r<|Ji<|N.length-m.length;unfold L2.start;rw[r.length];rw[N0] at q;exact q
 have p:(L2.start N vs)[j]?=some (some u):=by
  unfold L2.start;rw[List.getElem?_append_left<|by simpa using((L9.mp z).1),List.getElem?_map,z];rfl
 have key:∀{a}{i}{l}{H'}{P t}{v},a[j]?=some (some c)->Go Z H O l H' (P++t)->Rep R l H' d v P->Slots R l H' a i t->Keep [j] (L2.start N vs) i->Q v H':=by
  intro a i l H' P t v b g D x kp;obtain⟨A,L,B,rfl,F,_,_⟩:=x.put (L9.mp b).1;obtain⟨M,G,I⟩:=F c b;have:i[j]?=some (some u):=by rw[kp j<|by simp,p]
  rw[G] at this;cases this;exact k g.pick D I
 refine ob e λo C e=>?_;cases o with
 | rt S a=>exact ob e λJ b e=>by cases e;exact y w s C<|key<|VH b
 | nx a=>exact ob e λJ b e=>by cases e;exact y w s C λg x kp=>key (VH b) ⇑g .non_mk x kp
 | bk a=>cases e
 | ct a=>cases e
def jgo(h:spM R m n j vs H Q E):vs.length=n:=by
 obtain⟨Z,b,d,c,O,u,w,a,r,_⟩:=h;rw[r.length,a]
def PJ(R:RC)(i j:Nat)(ta:TA)(p:PAf):Prop:=∀{σ}{ρ}{Z}{H}{O}{ds},Zd Z H->Slots R Z H ρ σ O->p ρ=some ds->∀{u},σ[i]?=some (some u) ->
 ∀{Q:List V->Hp->Prop},(∀{v1 v2}{Z'}{H'},Go Z H [] Z' H' []->v1.length=j->Reps R Z' H' (ds.take j) v1 []->Reps R Z' H' (ds.drop j) v2 []->Q (v1++u::v2) H')->ta σ H Q
@[simp] def pFs(p:PAf)(ρ:Rh):Option (List D):=(p ρ).bind λds=>bif frzs ds then some ds else none
def jf3(b:PPs R tr pr):PJ R i 0 (vq (Jt i) tr) (pFs pr):=by
 intro σ ρ Z H O h z s e u c Q k;refine ob e λl d e=>oc e λf e=>?_;cases e;refine⟨u,c,b z s d λ{vs j m n} g a=>?_⟩;cases a.nil f;exact k g rfl ⇑Reps.empty ⇑a
def jh9(n:PB R ta pa)(o:PJ R i j tr pr):PJ R i (j+1) (vq ta tr) (ja (pF pa) pr):=by
 intro σ ρ Z H O A z s e u p Q k;refine ob e λd a e=>ob e λl e2 e=>?_;cases e;have q:frz d=true:=by
  refine ob a λc e3 a=>?_;cases hc:frz c with
  | false=>rw[hc] at a;cases a
  | true=>rw[hc] at a;cases a;exact hc
 refine n.f z s a λ{v B C D} b g=>?_;cases g.nil q;refine o b.wf.zd (b.slots z s) e2 p λ{h E r t} m w x y=>?_;have g3:Go Z H [] r t []:=by simpa using b.pair m
 exact k (v1:=v::h) g3 (by simp[w]) (.cons (m.rep b.wf.zd g) x) ⇑y
@[simp] def yu(m:List D->Option (D×D))(i:Nat)(j:Nat)(p:PAf)(ρ:Rh):Option (D×Rh):=(p ρ).bind λds=>(pV i ρ).bind λc=>(m<|ds.take j++c::ds.drop j).bind λr=>some (r.1,ρ.set i<|some r.2)
def Go.turn(g:Go Z H O Z' H'<|A++(P++Q)++B):Go Z H O Z' H' (P++(A++Q++B)):=g.drop (λa h=>by simp at h ⊢;rcases h with h | h | h | h<;>simp[h]) (by
 have nd:=g.wf.nd;simp only[X8,N4] at nd ⊢;obtain⟨⟨j,⟨k,l,m⟩,f⟩,n,i⟩:=nd;refine⟨k,⟨⟨j,l,λa d b c=>f a d b<|.inr c⟩,n,λa d b c=>i a (d.elim .inl λq=>.inr<|.inr q) b c⟩,λa d b c e=>?_⟩;rcases c with(c | c) | c
 ·exact f b c a (.inl d) e.symm
 ·exact m a d b c e
 ·exact i a (.inr<|.inl d) b c e)
def jd6(h:PJ R i j ta p)(hn:∀ ρ ds,p ρ=some ds->ds.length+1=n/\j<=ds.length):DE R (JH (spM R m n j) [] E0 ta) (yu m i j p):=by
 intro σ ρ V Z H O d w s e Q k;refine ob e λds r e=>ob e λc a e=>ob e λ⟨D,E⟩ e2 e=>?_;cases e;have a:=VH a;have t:=(L9.mp a).1;obtain⟨W,X,Y,_,F,_,_⟩:=s.put t;obtain⟨u,l,_⟩:=F c a;refine h w.zd s r l λ{G I o x} y J K L=>?_;have b:Go Z H O o x O:=by simpa using y.widen w
 obtain⟨A,P,B,rfl,M,N,_⟩:=(y.slots w.zd s).put t;obtain⟨u',f,S⟩:=M c a;rw[l] at f;cases f;obtain⟨n1,n2⟩:=hn ρ ds r;have T:Reps R o x (ds.take j++c::ds.drop j) (G++u::I) P:=by
  have:=K.append<|Reps.cons S L;simpa using this
 refine⟨o,ds.take j++c::ds.drop j,D,E,P,u,b.wf.mid,by simp;lia,by rw[N0];exact T,by rw[N0,List.getElem?_append_right ∅,J];simp,e2,λ{v Z2 H2 P2 O2} g U q=>?_⟩;have z:=Go.keepA b.wf g;have C:=N q g.zz (g.zH b.wf.mid) z.1 z.2;rw[yH l] at C;exact k (b.trans<|g.frame b.wf).turn U C
def jdE(i:Nat)(r:D×Rh):Option Out:=match r.2[i]? with
 | some (some (.lst true l))=>bif lim l.length then some (.nx<|r.2.set i<|some<|.lst true<|l++[r.1]) else none
 | _=>none
noncomputable def jee:Option (Option D)->Bool
 | some (some (.lst true _))=>true
 | _=>false
def Kc(i:Nat)(fe:FE):FS:=λρ=>bif jee ρ[i]? then(fe ρ).bind (jdE i) else none
def jhB(h:DE R te fe):DS R pm (qL<|tBM R.K "list" JV (Jt i)<|vq te Jl) (Kc i fe):=by
 intro σ ρ Z H O o w s e D' k;unfold Kc at e;cases hown:jee ρ[i]? with
 | false=>rw[hown] at e;cases e
 | true=>
 rw[hown,cond_true] at e;obtain⟨I,D⟩:∃ I,ρ[i]?=some (some<|.lst true I):=by
  unfold jee at hown;split at hown
  ·rename_i I q;exact⟨I,q⟩
  ·lia
 refine ob e λr Y e=>?_;obtain⟨d,ρ1⟩:=r;unfold jdE at e;split at e
 ·rename_i l T;refine oc e λE e=>?_;cases e;obtain⟨A0,P0,B0,_,k0,_,_⟩:=s.put (L9.mp D).1;obtain⟨v0,m,r0⟩:=k0 _ D;obtain⟨a,J,O0,rfl,rs0,L,_⟩:=r0;refine⟨.ref a,m,.inl ⟨rfl,J,SqL.of L⟩,(h w s Y λ{u p F t O1} U r1 s1=>?_)⟩;obtain⟨A,P,B,rfl,k1,k2,_⟩:=s1.put (L9.mp T).1;obtain⟨v,V,rl⟩:=k1 _ T;rw[m] at V;cases V;obtain⟨a',vs,C,M,W,ea,rfl⟩:=rl;cases M;refine⟨a,vs,u,rfl,rfl,ea,by rw[W.length];exact zT E,?_⟩;have G:=U.wf;have nd:=G.nd;simp only[X8,N4,List.nodup_cons,M4] at nd;obtain⟨n1,⟨⟨nA,⟨na,nO⟩,nAO⟩,nB,j⟩,N⟩:=nd;have ne:∀ b,b∈t\/b∈A\/b∈C\/b∈B\/p b->b≠a:=by
   intro b c e;subst e;rcases c with c | c | c | c | c
   ·lia
   ·lia
   ·lia
   ·exact j b (.inr<|.inl rfl) b c rfl
   ·exact G.nz b (by simp) c
  have Q:Reps R p (upd F a<|.lst<|vs++[u]) l vs C:=W.frame (λ_ z=>z) (λb z=>ji<|ne b<|.inr<|.inr<|.inr<|.inr z) λb c=>ji<|ne b<|.inr<|.inr<|.inl c;have S:Rep R p (upd F a<|.lst<|vs++[u]) d u t:=r1.frame (λ_ z=>z) (λb z=>ji<|ne b<|.inr<|.inr<|.inr<|.inr z) λb c=>ji<|ne b<|.inl c;have r2:Rep R p (upd F a<|.lst<|vs++[u]) (.lst true<|l++[d]) (.ref a) (a::(C++t)):=by
   refine⟨a,vs++[u],C++t,rfl,?_,jV,rfl⟩;have:=Q.append<|Reps.cons S Reps.empty;simpa using this
  have X:=k2 r2 (λ_ z=>z) (λb z=>ji<|ne b<|.inr<|.inr<|.inr<|.inr z) (λb c=>ji<|ne b<|.inr<|.inl c)<|λb c=>ji<|ne b<|.inr<|.inr<|.inr<|.inl c;rw[yH m] at X;have g2:Go p F (t++(A++a::C++B)) p (upd F a<|.lst<|vs++[u]) (A++(a::(C++t))++B):=by
   refine⟨⟨?_,λb c=>G.nz b (by simp at c ⊢;rcases c with c | c | c | c | c<;>simp[c]),λb c=>?_,λb c=>?_⟩,λ_ z=>z,λb c hn=>ji<|λe=>hn<|by simp[e],λ_ z=>.inl z,λb c=>.inl (by simp at c ⊢;rcases c with c | c | c | c | c<;>simp[c]),λb c=>?_⟩
   ·simp only[X8,N4,List.nodup_cons,M4];refine⟨⟨nA,⟨λz=>z.elim na λq=>N a q a (.inl<|.inr<|.inl rfl) rfl,nO,n1,λx g y n e=>N y n x (.inl<|.inr<|.inr g) e.symm⟩,λx g y n e=>?_⟩,nB,λx g y n e=>?_⟩
    ·grind
    ·rcases g with g | g | g | g
     ·exact j x (.inl g) y n e
     ·exact j x (.inr<|.inl g) y n e
     ·exact j x (.inr<|.inr g) y n e
     ·exact N x g y (.inr n) e
   ·by_cases f:b=a
    ·rw[f,jV];exact λz=>(nomatch z)
    ·rw[ji f];exact G.od b (by simp at c ⊢;rcases c with c | c | c | c | c<;>simp[c])
   ·by_cases f:b=a
    ·rw[f,jV];exact λz=>(nomatch z)
    ·rw[ji f];exact G.zd b c
   ·by_cases f:b=a
    ·rw[f,jV];exact λz=>(nomatch z)
    ·rw[ji f];exact c
  exact k (U.trans g2) X<|Keep.refl _ _
 ·cases e
structure QJ(cl:Nat->Addr)(X:Cx)(i j:Nat)(es:List Expr)(ta:TA)(p:PAf):Prop where
 sem:PA X es ta
 den:PJ ⟨X.K,cl⟩ i j ta p
 n:∀ ρ ds,p ρ=some ds->ds.length+1=es.length/\j<=ds.length
def jil(b:QB cl X (.Name x pos) (Jt i)<|pV i)(a:QPs cl X es tr pr)(hl:∀ ρ ds,pr ρ=some ds->ds.length=es.length)(c:starEach (.Name x pos::es) X.env=(false,eval (.Name x pos) X.env)::starEach es X.env:=by rfl):QJ cl X i 0 (.Name x pos::es) (vq (Jt i) tr) (pFs pr):=
 ⟨vy b.sem a.sem c,jf3 a.den,λρ ds h=>by
  refine ob h λl d h=>?_;cases hf:frzs l with
  | false=>rw[hf] at h;cases h
  | true=>rw[hf] at h;cases h;exact⟨by rw[M2,hl ρ _ d],X4 _⟩⟩
def jio(b:QB cl X e te pe)(a:QJ cl X i j es tr pr)(c:SEq X e es:=by rfl):QJ cl X i (j+1) (e::es) (vq te tr) (ja (pF pe) pr):=
 ⟨vy b.sem a.sem c,jh9 b.den a.den,λρ f h=>by
  refine ob h λd g h=>ob h λl e2 h=>?_;cases h;have:=a.n ρ l e2;simp only[M2]
  lia⟩
def jid{cl}{X}{e}{es}{pos p}{x}{tr}{pr}{i j}{k n}{f}{fd}{ps}{m}{qual}{st}(F:FnFact X.K X.mg x qual st f fd ps)(G:FnOk X.prog X.w X.K X.mg X.base CX0 k f fd ps<|spM ⟨X.K,cl⟩ m n j)(d:Room k X.A)
  (a:QJ cl X i j (e::es) tr pr) (hn:(e::es).length=n:=by rfl) (g:Gl X x:=by rfl) (b:Nd x:=by decide)
  (l:SEq X e es:=by rfl) (c:BkE X pos es:=by rfl):QE cl X (.Call (.Name x p) (e::es) [] pos) (JH (spM ⟨X.K,cl⟩ m n j) [] E0 tr) (yu m i j pr):=
 ⟨jhI F G d a.sem g b l c,jd6 a.den λρ o h=>by rw[<- hn];exact a.n ρ o h⟩
def jlH{cl}{P}{w}{K}{mg}{base}{x qual}{a}{fa}{fd}{N ps}{k n j}{fs}(F:Fun K x qual a fa fd)(c:FnScope N ps<|jG a)(hn:ps.length=n)
  (b:∀ cdv A outer s H E,Room k (A.deeper<|envOfC qual (jG a) ↥s fa cdv) ->
   ∃ ts,QSs cl [j] (jeg CX0 P w K mg base N qual (jG a) fa cdv A outer s H E).nox (vT a) ts fs):FnOk P w K mg base CX0 (k+1) fa fd ps (spM ⟨K,cl⟩ (fnM N.length j fs) n j):=by
 refine F.ok c (λvs H Q E h=>by rw[jgo h,hn]) λcdv A outer s H vs Q E d h=>?_;obtain⟨ts,q⟩:=b cdv A outer s H E d;exact⟨ts,q.sem,jhl q.den h⟩
def BO.o(h:BO R r g):DO R r g:=λw a b e _ k=>h w.zd a b e λg3 c=>k (g3.widen w).dropR c
def oF(g:D->D->Option D):D->D->Option D:=λx y=>(g x y).bind λd=>bif frz d then some d else none
def BO'.o(h:BO' R r g):DO R r (oF g):=by
 intro Z H x y d v u l m w b f e Q k;refine ob e λc i e=>oc e λj e=>?_;cases e;refine h w.zd b f i λ{n P} a=>?_;cases a.nil j;exact k ((Go.refl w).to0) a
def kj(m:List D->Option D)(fa:FA):FE:=λρ=>(fa ρ).bind λr=>bif frzs r.1 then(m r.1).bind λd=>some (d,r.2) else none
def jex(h:DA R ta fa)(hn:∀ ρ r,fa ρ=some r->r.1.length=n):DE R (JH (spP R m n) [] E0 ta) (kj m fa):=by
 intro σ ρ q Z H O d w s e Q k;refine ob e λr b e=>?_;obtain⟨i,t⟩:=r;refine oc e λj e=>ob e λc e2 e=>?_;cases e;refine h w s b λ{vs l u x y} a f o=>?_;cases f.nil j;refine⟨l,i,d,a.wf.zd,hn ρ _ b,by rw[N0];exact f,e2,λ{v z A B} g p=>?_⟩;exact k (a.trans<|by simpa using(g.widen a.wf)) p<|g.slots a.wf.zd o
noncomputable def qG(g:D->Rh->Option Rh)(fe:FE):List D->Rh->Option (List D×Rh)
 | [],ρ=>some ([],ρ)
 | x::xs,ρ=>(g x ρ).bind λρ1=>(fe ρ1).bind λr=>(qG g fe xs r.2).bind λt=>some (r.1::t.1,t.2)
def YS(i:Nat)(ρ:Rh):Bool:=(ρ.set i none).all λo=>match o with
 | none=>true
 | some d=>frz d
def z7(pi:PAf)(g:D->Rh->Option Rh)(fe:FE)(ix:List<|Option Nat)(i i':Nat):FE:=λρ=>(pi ρ).bind λxs=>match ρ[i]? with
 | some (some _)=>bif lim xs.length&&YS i' (jp ix ρ) then(qG g fe xs<|jp ix ρ).bind λt=>match t.2[i']? with
   | some (some c)=>some (.lst true t.1,ρ.set i<|some c)
   | _=>none
  else none
 | _=>none
theorem VY:∀{ρ}{σ}{O},Slots R Z H ρ σ O->(∀ o∈ρ,∀ d,o=some d->frz d=true)->Slots R Z H ρ σ []
 | [],_,_,h,_=>⟨h.1,rfl⟩
 | none::ρ,_,_,h,f=>by
  obtain⟨s,a,e,r⟩:=h;exact⟨s,a,e,VY r λo b=>f o<|by simp[b]⟩
 | some d::ρ,_,_,h,f=>by
  obtain⟨v,a,i,j,e,_,c,g⟩:=h;cases c.nil (f (some d) (by simp) d rfl);exact⟨v,a,[],[],e,rfl,c,VY g λo b=>f o<|by simp[b]⟩
def xw(s:Slots R Z H ρ σ O)(a:ix[i']?=some (some i))(h:ρ[i]?=some (some c))(j:σ[i]?=some (some u))(k:Rep R Z H c u P)(l:YS i' (jp ix ρ)=true):
  Slots R Z H (jp ix ρ) (yQ ix σ) P/\(yQ ix σ)[i']?=some (some u):=by
 obtain⟨x,m⟩:=Vm s ix;have n:=(L9.mp a).1;have f:(jp ix ρ)[i']?=some (some c):=by
  unfold jp;rw[List.getElem?_map,a];show some ((ρ[i]?).join)=_;rw[h];rfl
 have g:(yQ ix σ)[i']?=some (some u):=by
  unfold yQ;rw[List.getElem?_map,a];show some ((σ[i]?).join)=_;rw[j];rfl
 have b:=(L9.mp f).1;obtain⟨A,y,B,_,_,_,p⟩:=m.put b;have r:=VY p λo t d hd=>by
  have:=List.all_eq_true.mp l o t;rw[hd] at this;exact this
 obtain⟨C,D,E,v,_,w,_⟩:=r.put (by rw[List.length_set];exact b);have q:=w k (λ_ z=>z) (λ_ _=>rfl) (λ_ _=>rfl)<|λ_ _=>rfl;have e:=v.symm;rw[List.append_eq_nil_iff,List.append_eq_nil_iff] at e;rw[e.1.1,e.2,List.set_set,yH f,yH g] at q;exact⟨by simpa using q,g⟩
def jib(hi:PIt R wi pi)(hg:PGt R [i'] tg g)(he:DE R te fe)(hix:ix[i']?=some (some i)):
  DE R (xM wi tg (λ_ H Q=>Q true H) te ix) (z7 pi g fe ix i i'):=by
 intro σ ρ ρ' Z H O d w s e Q k;refine ob e λxs e1 e=>?_;split at e
 ·rename_i c hc;refine oc e λhl e=>?_;rw[M0] at hl;refine ob e λt e2 e=>?_;obtain⟨all,ρE⟩:=t;split at e
  ·rename_i c' D;cases e;refine hi w.zd s e1 λ{J p v} g0 it=>?_;intro a ha;have Y:Go Z H O p v O:=by simpa using g0.widen w
   have s0:=g0.slots w.zd s;obtain⟨A,P,B,rfl,k1,k2,_⟩:=s0.put (L9.mp hc).1;obtain⟨u,hu,rc⟩:=k1 c hc;obtain⟨si,hsu⟩:=xw s0 hix hc hu rc hl.2;have E:=Y.wf.mid;have gp:Go p v P p (upd v a<|.lst []) (a::P):=Go.newO E ha;have F:∀ b,v b≠none->b≠a:=λb h e=>h<|e▸ha;refine⟨λi m σ2 C=>m=xs.length-i/\i<=xs.length/\∃ ρ2 G I K vs j Yu,Go p v P G C (a::j++I)/\C a=some (.lst vs)/\Reps R G C K vs j/\Slots R G C ρ2 σ2 I/\Keep [i'] (yQ ix σ) σ2/\qG g fe (xs.drop i) ρ2=some (Yu,ρE)/\all=K++Yu/\K.length<=i,
    ⟨xs.length,rfl,X4 _,_,p,P,[],[],[],all,by simpa using gp,jV,Reps.empty,si.frame (λ_ z=>z) (λb z=>ji<|F b<|E.zd b z)<|λb f=>ji<|F b<|E.od b f,Keep.refl _ _,e2,rfl,M9 _⟩,?_⟩
   rintro n m σ2 C ⟨rfl,hn',ρ2,G,I,K,vs,j,Yu,l,ea,ry,s2,kp,e3,e4,L⟩;have M:=it l.zz (l.zH E) l.wf.zd n;by_cases N:n<xs.length
   ·right
    have hx:xs[n]?=some xs[n]:=by simp[N]
    obtain⟨go,yl⟩:=M.2 _ hx;refine⟨go,λu3 H3 hy=>?_⟩;obtain⟨Z3,g3,r3⟩:=yl u3 H3 hy;have S:Go G C (a::j++I) Z3 H3 (a::j++I):=by simpa using g3.widen l.wf
    rw[qH hx] at e3;refine ob e3 λρ3 e5 e3=>(hg r3 (g3.slots l.wf.zd s2) e5 λ{σ4 O4} sub nd s4 k4=>(jdp<|ob e3 λr e6 e3=>?_));obtain⟨y,ρ6⟩:=r;refine ob e3 λt e8 e3=>?_;obtain⟨ys2,ρF⟩:=t;cases e3;have n3:=X8.mp S.wf.nd;have g4:=(l.trans S).drop (λb f=>by rcases N4.mp f with q | q<;>simp only[N4];exact .inl q;exact .inr<|sub b q) (X8.mpr ⟨n3.1,nd n3.2.1,λx hx y hy=>n3.2.2 x hx y<|sub y hy⟩);refine he g4.wf.right s4 e6 λ{v6 T o U V} g6 r6 s6=>?_;have w4:WF Z3 H3 (a::j++O4++[]):=by simpa using g4.wf
    have W:=(Go.keepA w4 g6).1;have gA:Go p v P T o (a::j++(U++V)):=by
     exact g4.trans (by simpa using(g6.frame w4))
    have w6:=gA.wf;have ea6:o a=some (.lst vs):=by rw[W a<|by simp,g3.same a<|by rw[ea];exact λz=>(nomatch z)];exact ea
    have hvl:vs.length<sizeLine:=by
     rw[ry.length];exact zT<|X9<|N9 L<|N9 hn'<|E2 hl.1
    have gB:Go T o (a::j++(U++V)) T (upd o a<|.lst<|vs++[v6]) (a::j++(U++V)):=Go.put w6 (by simp);have ne:∀ b,b∈j++(U++V)->upd o a (.lst<|vs++[v6]) b=o b:=λb f=>ji λz=>(List.nodup_cons.mp w6.nd).1 (z▸f);have X:∀ b,T b->upd o a (.lst<|vs++[v6]) b=o b:=λb f=>ji λz=>w6.nz a (by simp)<|z▸f;refine⟨vs,ea6,hvl,xs.length-(n+1),by lia,rfl,N,ρ6,T,V,K++[y],vs++[v6],j++U,ys2,?_,jV,?_,(s6.frame (λb z=>z) X λb f=>ne b<|by simp[f]),kp.trans k4,e8,by rw[e4];simp,by rw[N6];exact Nat.add_le_add_right L 1⟩
    ·have:=gA.trans gB;simpa using this
    ·refine(((g3.reps l.wf.zd ry).frame g6.zz (g6.zH g4.wf.right) λb f=>W b<|by simp[f]).append (.one r6)).frame (λb z=>z) X λb f=>ne b ?_;rcases N4.mp f with q | q<;>simp[q]
   ·left
    have hi2:n=xs.length:=by lia
    refine⟨M.1 ∅,?_⟩;rw[hi2,List.drop_length] at e3;cases e3;rw[N0] at e4;subst e4;obtain⟨A',P',B',rfl,k1',_,_⟩:=s2.put (L9.mp D).1;obtain⟨u',hu',rc'⟩:=k1' c' D;have:σ2[i']?=some (some u):=by rw[kp i'<|by simp,hsu]
    rw[hu'] at this;cases this;have g5:=l.pick;have W:=Go.keepA Y.wf g5;have s5:=k2 rc' g5.zz (g5.zH E) W.1 W.2;rw[yH hu] at s5;exact k (Y.trans<|g5.frame Y.wf).turn ⟨a,vs,j,rfl,ry,ea,rfl⟩ s5
  ·cases e
 ·cases e
def BC.o(h:BC R r g):DC R r g:=λw a e _ k=>h w.zd a e λg3 b=>k (g3.widen w).dropR b
def DIt(R:RC)(wi:TI)(fi:FA):Prop:=∀{σ}{ρ ρ'}{Z}{H}{O}{xs},WF Z H O->Slots R Z H ρ σ O->fi ρ=some (xs,ρ') ->
 ∀{Q:It->Hp->Prop},(∀{J}{Z'}{H'}{O'},Go Z H O Z' H' O'->Slots R Z' H' ρ' σ O'->jik R J Z' H' xs->Q J H')->wi σ H Q
def jbU(fa:FA):FA:=λρ=>(fa ρ).bind λr=>(xg r.1).bind λxs=>some (xs,r.2)
def jgI(h:DA R ta fa):DIt R (jcW ta) (jbU fa):=by
 intro σ ρ l Z H O xs w s e Q k;refine ob e λ⟨m,n⟩ b e=>ob e λo e2 e=>ob e2 λx e3 e2=>ob e2 λj c e2=>oc e2 λa e2=>?_;cases e;cases e2;cases qr e3;cases k8 c;refine h w s b λ{vs p q r t} d f g=>?_;obtain⟨u,rfl,i⟩:=f.one_of;obtain⟨rfl,rfl⟩:=i.int_of;exact⟨j,rfl,(qE a).1,(qE a).2,k ⇑d g jfG⟩
def jcv(p:FA)(g:D->Rh->Option Rh)(f:FS):FS:=λρ=>(p ρ).bind λr=>vH g f r.1 r.2
def jga(hi:DIt R wi p)(P:PGt R pm tg g)(Q:DS R pm tb f):DS R pm (jko wi tg tb) (jcv p g f):=by
 intro σ ρ Z H O o w s e D' k;refine ob e λr S e=>?_;obtain⟨xs,T⟩:=r;refine hi w s S λ{J C I O0} a s0 U=>?_;refine⟨LpF R pm g f σ C I O0 xs o,
  ⟨xs.length,rfl,X4 _,T,C,O0,Go.refl a.wf,s0,Keep.refl _ _,e⟩,?_⟩
 rintro i m σ' V ⟨rfl,W,ρ',X,K,c,L,kp,e2⟩;have t:=U c.zz (c.zH a.wf) c.wf.zd i;by_cases v:i<xs.length
 ·right
  have M:xs[i]?=some xs[i]:=by simp[v]
  obtain⟨go,Y⟩:=t.2 _ M;rw[qH M] at e2;refine ob e2 λρ1 e3 e2=>ob e2 λo1 e4 e2=>⟨go,λD n=>∃ b q A,Go C I O0 q n A/\Slots R q n b D A/\Keep pm σ D/\vH g f (xs.drop<|i+1) b=some o,λD n ⟨b,q,A,a1,a2,a3,a4⟩=>⟨xs.length-(i+1),by lia,rfl,v,b,q,A,a1,a2,a3,a4⟩,λu n hy=>?_⟩;obtain⟨q,N,r2⟩:=Y u n hy;have x:Go X V K q n K:=by simpa using N.widen c.wf
  refine P r2 (N.slots c.wf.zd L) e3 λ{σ3 O3} sub nd s3 B=>?_;have g3:=(c.trans x).drop sub (nd x.wf.nd);refine Q g3.wf s3 e4 ?_;cases o1 with
  | nx b=>exact λ{E y F z} h j l=>⟨b,y,z,g3.trans h,j,kp.trans<|B.trans l,e2⟩
  | ct b=>exact λ{E y F z} h j l=>⟨b,y,z,g3.trans h,j,kp.trans<|B.trans l,e2⟩
  | bk b=>cases e2;exact λ{E y F z} h j l=>k (a.trans<|g3.trans h) j<|kp.trans<|B.trans l
  | rt d b=>cases e2;exact λ{v4 E y F P4 z} h r4 j l=>k (a.trans<|g3.trans h) r4 j<|kp.trans<|B.trans l
 ·left
  have G:i=xs.length:=by lia
  refine⟨t.1 ∅,?_⟩;rw[G,List.drop_length] at e2;cases e2;exact k (a.trans c) L kp
structure QTE(cl:Nat->Addr)(X:Cx)(e:Expr)(tt:TT)(f:FT'):Prop where
 sem:PT X e tt
 den:DT ⟨X.K,cl⟩ tt f
structure QWE(cl:Nat->Addr)(X:Cx)(e:Expr)(tt:TT)(f:FT'):Prop where
 sem:PW X e tt
 den:DT ⟨X.K,cl⟩ tt f
def QT.d(h:QT cl X e tA qa):QTE cl X e tA (dPT qa):=⟨h.sem,PTt.d h.den⟩
def jkD{cl}{X}{a b}{ta tb}{fa fb}{pos}{K}(e:X.K=K)(c:QE cl X a ta fa)(d:QE cl X b tb fb):QE cl X (.BinOp a .Add b pos) (tOp (jbX K) ta tb) (dOp jO fa fb):=by subst e;exact⟨Kg ja5 c.sem d.sem,jdy (BO.o jfJ) c.den d.den⟩
def jln(c:QE cl X a ta fa)(d:QE cl X b tb fb):QE cl X (.BinOp a .Mod b pos) (tOp (rI (λ_ j=>0<j) λi j=>.int<|i%j) ta tb) (dOp jA fa fb):=⟨Kg jfI c.sem d.sem,jdy (BO.o jfD) c.den d.den⟩
def jjm(h:CmpR cl X op b r gg)(c:QE cl X a ta fa)(d:QE cl X b tb fb):QTE cl X (.Compare a [op] [b] pos) (zJ<|tOp r ta tb) (jaG<|dOp gg fa fb):=⟨jcu h.o c.sem d.sem h.m,jhV<|jdy (BO.o h.g) c.den d.den⟩
def jkh(b:QTE cl X a tA ft):QWE cl X (.BoolOp .Or [a] pos) tA ft:=⟨jfm b.sem,b.den⟩
def jmV{cl}{X}{a b}{es}{tA tB}{ft fu}{pos}(c:QTE cl X a tA ft)(d:QWE cl X (.BoolOp .Or (b::es) pos) tB fu):QWE cl X (.BoolOp .Or (a::b::es) pos) (tOr tA tB) (dOr ft fu):=⟨jjE c.sem d.sem,jmA c.den d.den⟩
def QWE.test(h:QWE cl X a tA ft):QTE cl X a tA ft:=⟨PW.pt h.sem,h.den⟩
def jmp(a:QTE cl X c tA ft)(b:QSs cl pm X x ts f)(d:QSs cl pm X y tu f2):QS cl pm X (.If c x y pos) (jl2 tA ts tu) (sIf ft f f2):=⟨jlB a.sem b.sem d.sem,jks a.den b.den d.den⟩
def jmx{cl}{X}{a b}{ta tb}{fa fb}{pos}{K}(e:X.K=K)(c:QE cl X a ta fa)(d:QE cl X b tb fb)(f:Vo b:=by exact λ_ _=>rfl):QE cl X (.Subscript a b pos) (tOp (rIx K) ta tb) (dOp (oF jf) fa fb):=by subst e;exact⟨jf0 jbY c.sem d.sem f,jdy (BO'.o jlF) c.den d.den⟩
def jf6{cl}{X}{e}{es}{tr}{fr}{pos}{K}{k n}{fn}{fd}{ps}{m}{x qual}{st}{p}(d:X.K=K)(F:FnFact X.K X.mg x qual st fn fd ps)(G:FnOk X.prog X.w X.K X.mg X.base CX0 k fn fd ps<|spP ⟨X.K,cl⟩ m n)(f:Room k X.A)
  (c:QDs cl X (e::es) tr fr) (hl:∀ ρ r,fr ρ=some r->r.1.length=n) (g:Gl X x:=by rfl) (a:Nd x:=by decide)
  (h:SEq X e es:=by rfl) (b:BkE X pos es:=by rfl):QE cl X (.Call (.Name x p) (e::es) [] pos) (JH (spP ⟨K,cl⟩ m n) [] E0 tr) (kj m fr):=by
 subst d;exact⟨jhI F G f c.sem g a h b,jex c.den hl⟩
def jeb{cl}{X}{e}{es}{tr}{fr}{pos}{K:J4}{x}{p}{id}{r}{c}(f:CallR X (.builtin id) r)(g:BC ⟨X.K,cl⟩ r c)(h:X.mg x=none)(i:bootBuiltins x=some (.builtin id))(d:QDs cl X (e::es) tr fr)(j:Gl X x:=by rfl)
  (hn:x≠"__name__":=by decide) (a:Nd x:=by decide) (k:SEq X e es:=by rfl) (b:BkE X pos es:=by rfl):
  QE cl X (.Call (.Name x p) (e::es) [] pos) (tCB r tr) (dCB c fr):=⟨Qx f j h i d.sem hn a k b,jlM (BC.o g) d.den⟩
structure QIE(cl:Nat->Addr)(X:Cx)(tg e:Expr)(wi:TI)(p:FA):Prop where
 sem:PI X tg e wi
 den:DIt ⟨X.K,cl⟩ wi p
def jdT(b:X.mg "range" = none)(h:QDs cl X [a] tr fr)(c:Gl X "range":=by rfl)(d:starEach [a] X.env=[(false,eval a X.env)]:=by rfl):QIE cl X tg (.Call (.Name "range" p) [a] [] pos) (jcW tr) (jbU fr):=⟨xA c b h.sem d,jgI h.den⟩
def jlw(hp:PassesOwn (model X.prog X.w) X.A X.env X.xe)(c:X.calm=true)(hi:QIE cl X tg iter wi fi)(a:QG cl pm X tg t g)(b:QSs cl pm X body ts f)(d:∀ x,foldedSetIterable iter X.env x=pure x:=by intro _;rfl):QS cl pm X (.For tg iter body [] pos) (jko wi t ts) (jcv fi g f):=
 ⟨jfv hp c hi.sem a.sem b.sem d,jga hi.den a.den b.den⟩
def jkU(g:QB cl X (.Name x xpos) (Jt i)<|pV i)(h:QE cl X e te fe)(b:attributeBase (.Name x xpos) "append" X.env (eval (.Name x xpos) X.env)=eval (.Name x xpos) X.env:=by rfl)
  (d:((backTo cpos<|starEach [e] X.env).all (λx=>!x.1)&&(backToKw cpos<|keywordEach [] X.env).all (λx=>x.1.isSome)
   && decide ([e].length+([]:List Keyword).length+(if([]:List Keyword).isEmpty then 0 else 1)<30))=true:=by rfl)
  (c:(apos.endLine==cpos.line)=true:=by rfl) (f:starEach [e] X.env=(false,eval e X.env)::starEach [] X.env:=by rfl) (a:(backTo cpos<|starEach [] X.env).any (·.1)=false:=by rfl)
  (hsw:swapsWith (.Call (.Attribute (.Name x xpos) "append" apos) [e] [] cpos) none pos.line X.env=pure false:=by rfl):
  QS cl pm X (.Expr (.Call (.Attribute (.Name x xpos) "append" apos) [e] [] cpos) pos) (qL<|tBM X.K "list" JV (Jt i)<|vq te Jl) (Kc i fe):=
 ⟨JX (wX PySem.F.plainAttrs_list PySem.F.slot_list_append PySem.F.type_list_append Ye g.sem (vy h.sem JC f) b d c f a) hsw,jhB h.den⟩
def jah(B:BlockOk X scope N' ix)(e:X.calm=true)(hi:QI cl X tg iter wi pi)(a:ix[o']?=some (some o))
  (c:∀ C s H fp,QG cl [o'] (y3 X scope N' C s H fp) tg t g) (d:∀ C s H fp,QE cl (y3 X scope N' C s H fp) elt te fe)
  (f:X.N.Nodup) (b:X.N[i]?=some x:=by rfl) (h:Loc X.env.scope x:=by first | exact Or.inl rfl | exact Or.inr rfl)
  (hsw:swapsWith (.ListComp elt [⟨tg,iter,[],0⟩] scope pos) (some<|.Name x pos') spos.line X.env=pure true:=by with_unfolding_all rfl)
  (j:∀ x,foldedSetIterable iter X.env x=pure x:=by intro _;rfl)
  (k:X.fn x=true\/X.env.scope.names.lookup x=some .local:=by first | exact .inl rfl | exact .inr rfl):
  QS cl pm X (.Assign [.Name x pos'] (.ListComp elt [⟨tg,iter,[],0⟩] scope pos) spos) (jdn (xM wi t (λ_ H Q=>Q true H) te ix)<|Va i) (yB (z7 pi g fe ix o o')<|jl pm i):=
 ⟨KM B e hi.sem (λC s H fp=>(c C s H fp).sem) (λC s H fp=>.inl ⟨rfl,rfl⟩) (λC s H fp=>(d C s H fp).sem) f b h hsw j k,
  uO (jib hi.den (c 0 X.s₀ X.H₀ []).den (d 0 X.s₀ X.H₀ []).den a) Qb⟩
def uV:∀ ρ ds,pN ρ=some ds->ds.length=0:=λρ ds h=>by cases h;rfl
def zv(h:∀ ρ ds,pr ρ=some ds->ds.length=n):∀ ρ ds,ja p pr ρ=some ds->ds.length=n+1:=λρ ds e=>by
 refine ob e λd a e=>ob e λl e2 e=>?_;cases e;rw[M2,h ρ l e2]
def je0:∀ ρ r,YG ρ=some r->r.1.length=0:=λρ r h=>by cases h;rfl
def jcQ(h:∀ ρ r,fr ρ=some r->r.1.length=n):∀ ρ r,jT fe fr ρ=some r->r.1.length=n+1:=λρ r e=>by
 refine ob e λq b e=>?_;obtain⟨d,a⟩:=q;refine ob e λt e2 e=>?_;obtain⟨l,c⟩:=t;cases e;exact congrArg (·+1)<|h a _ e2
def Y8:D->Option (List D)
 | .lst _ m=>bif frzs m then some m else none
 | .tup m=>bif frzs m then some m else none
 | _=>none
def Ke(i:Nat)(p:PF)(ρ:Rh):Option Out:=(p ρ).bind λe=>(Y8 e).bind λm=>(pV i ρ).bind λx=>(Jq x).bind λl=>bif lim (l.length+m.length) then some (.nx<|ρ.set i<|some<|.lst true<|l++m) else none
def jlk(h:PB R te p):DS R pm (qL<|tBM R.K "list" (xK R.K) (Jt i)<|vq te Jl) (Ke i p):=by
 intro σ ρ Z H O o w s e N k;refine ob e λd B e=>ob e λm e2 e=>ob e λx C e=>ob e λl e3 e=>oc e λf e=>?_;cases e;cases Jg e3;unfold qL tBM;refine Kx (P0:=[]) K0 w s C rfl YU λa _ vs P v _ y D put=>D ⟨.inl ⟨rfl,vs,SqL.of y⟩,h w.zd s B λ{u E g Q} j z=>?_⟩;have F:∃ b c,u=.ref b/\(SqL R.K g b c\/SqT R.K g b c)/\Reps R E g m c []:=by
  cases d with
  | lst S G=>
   refine oc e2 λn e2=>?_;cases e2;obtain⟨b,c,I,rfl,r,t⟩:=z.lst_of;exact⟨b,c,rfl,.inl r.sq,t.frozen n⟩
  | tup G=>
   refine oc e2 λn e2=>?_;cases e2;obtain⟨b,c,rfl,r,t⟩:=z.tup_of;exact⟨b,c,rfl,.inr r,t.frozen n⟩
  | _=>cases e2
 obtain⟨b,c,rfl,J,A⟩:=F;obtain⟨T,L,M⟩:=put YU trivial j ((j.reps w.zd v).append A) λq=>by simp
 exact⟨a,b,vs,c,rfl,rfl,j.at0 y,J,by rw[v.length,A.length];exact qN f,k L M<|Keep.refl _ _⟩
noncomputable def jcn:List D->Option D
 | [.bl b]=>some<|.int (if b then 1 else 0)
 | _=>none
def jhU:BC R (λxs H Q=>∃ b:Bool,xs=[.bl b]/\Q (.int<|if b then 1 else 0) H) jcn:=by
 intro Z H xs d vs O z r e Q k;unfold jcn at e;split at e
 ·rename_i b;cases e;obtain⟨v,rfl,a⟩:=r.one_of;obtain⟨rfl,_⟩:=a.bl_of;exact⟨b,rfl,k (Go.id z) .int_mk⟩
 ·cases e
@[simp] def fIntB_e(b):jcn [.bl b]=some (.int<|if b then 1 else 0):=rfl
def jli(g:QB cl X (.Name x xpos) (Jt i)<|pV i)(h:QB cl X e te pe)(b:attributeBase (.Name x xpos) "extend" X.env (eval (.Name x xpos) X.env)=eval (.Name x xpos) X.env:=by rfl)
  (d:((backTo cpos<|starEach [e] X.env).all (λx=>!x.1)&&(backToKw cpos<|keywordEach [] X.env).all (λx=>x.1.isSome)
   && decide ([e].length+([]:List Keyword).length+(if([]:List Keyword).isEmpty then 0 else 1)<30))=true:=by rfl)
  (c:(apos.endLine==cpos.line)=true:=by rfl) (f:starEach [e] X.env=(false,eval e X.env)::starEach [] X.env:=by rfl) (a:(backTo cpos<|starEach [] X.env).any (·.1)=false:=by rfl)
  (hsw:swapsWith (.Call (.Attribute (.Name x xpos) "extend" apos) [e] [] cpos) none pos.line X.env=pure false:=by rfl):
  QS cl pm X (.Expr (.Call (.Attribute (.Name x xpos) "extend" apos) [e] [] cpos) pos) (qL<|tBM X.K "list" (xK X.K) (Jt i)<|vq te Jl) (Ke i pe):=
 ⟨JX (wX PySem.F.plainAttrs_list PySem.F.slot_list_extend PySem.F.type_list_extend wx g.sem (vy h.sem JC f) b d c f a) hsw,jlk h.den⟩
end QD
namespace QD
open PySem L2
def jb(h:n<=100000):lim n=true:=X9 h
def jN{f:α->β}{l:List α}(h:l.length<=100000):lim (l.map f).length=true:=jb (by rw[L0];exact h)
def jb9(a:0<=i)(h:i<l.length):atI l i=l[i.toNat]?:=by
 unfold atI ixN;rw[if_pos ∅,if_pos ∅];rfl
def Jf(h:(qW lo n)[i]?=some x):x=.int (lo+i)/\i<n:=by
 unfold qW at h;rw[List.getElem?_map] at h;by_cases a:i<n
 ·rw[List.getElem?_range a] at h;cases h;exact⟨rfl,a⟩
 ·rw[List.getElem?_eq_none ⇑a] at h;cases h
def j9(lo)(n):(qW lo n).length=n:=by simp[qW]
@[simp] def eq_ss(a b):ve (.str a) (.str b)=some (.bl<|a==b):=rfl
@[simp] def ne_ss(a b):Ka (.str a) (.str b)=some (.bl<|!(a==b)):=rfl
@[simp] def isnot_i(i):qR (.int i) .non=some (.bl true):=rfl
@[simp] def isnot_n:qR .non .non=some (.bl false):=rfl
@[simp] def isnot_s(a):qR (.str a) .non=some (.bl true):=rfl
@[simp] def is_i(i):Kp (.int i) .non=some (.bl false):=rfl
@[simp] def joC:Kp .non .non=some (.bl true):=rfl
@[simp] def is_s(a):Kp (.str a) .non=some (.bl false):=rfl
@[simp] def in_cs(a)(c)(s):yZ a (.str [c]) (.str s)=some (.bl<|a != decide (c∈s)):=rfl
@[simp] def neg_i(i):VF (.int i)=some (.int<|-i):=rfl
def ug(h:a.length+b.length<=100000):jO (.str a) (.str b)=some (.str<|a++b):=by
 show(bif lim (a.length+b.length) then some (D.str<|a++b) else none)=_;rw[jb h];rfl
def wN(h:a.length<=100000):vg [.str a]=some (.int a.length):=by
 show(bif lim a.length then some (D.int a.length) else none)=_;rw[jb h];rfl
def jhv(hl:s.length<=100000)(a:0<=i)(h:i<s.length):jf (.str s) (.int i)=some (.str [s.getD i.toNat 0]):=by
 show(bif lim s.length then((atI s i).bind λc=>some<|D.str [c]) else none)=_;rw[jb hl,jb9 a h];have:i.toNat<s.length:=by lia
 simp[this]
def je8(xs:List α)  (h:0<=k):JY xs none (some k)=xs.take k.toNat:=by
 obtain⟨n,rfl⟩:∃ n:Nat,k=n:=⟨k.toNat,by lia⟩;rw[jiu];simp
def YM(xs:List α)  (h:0<=k):JY xs (some k) none=xs.drop k.toNat:=by
 obtain⟨n,rfl⟩:∃ n:Nat,k=n:=⟨k.toNat,by lia⟩;rw[jcg];simp
def joT(hl:s.length<=100000):jiL lo hi (.str s)=some (.str<|JY s lo hi):=by
 show(bif lim s.length then some (D.str<|JY s lo hi) else none)=_;rw[jb hl];rfl
def jaB(a:0<=i)(h:i<2 ^ 200):V8 [.int i]=some (.str<|JP i.toNat):=by
 show(bif decide (0<=i)&&decide (i<2 ^ 200) then some (D.str<|JP i.toNat) else none)=_;rw[X9 a,X9 h];rfl
@[simp] def str_s(s):V8 [.str s]=some (.str s):=rfl
@[simp] def itemsOf_str(s):Qc (.str s)=some (s.map λc=>D.str [c]):=rfl
@[simp] def fAll_lst(o)(l):jlc [.lst o l]=(Jz l).bind λbs=>some (.bl<|bs.all λb=>b):=rfl
@[simp] def fTuple_lst(o)(l):ki [.lst o l]=bif frzs l then some (.tup l) else none:=rfl
def jnl(h:w≠[])(h1:w.length<=600)(h2:∀ c∈w,48<=c/\c<=57):jl6 [.str w]=some (.int (NumText.digitsVal w:Nat)):=by
 have:jaZ w=true:=by
  unfold jaZ;simp[h,h1];exact h2
 show(bif jaZ w then some (D.int (NumText.digitsVal w:Nat)) else none)=_;rw[this];rfl
def Vr(w)(l:J2):jeA (.str w) (l.map D.str)=true:=by
 unfold jeA;rw[M0];refine⟨rfl,List.all_eq_true.mpr λy a=>?_⟩;obtain⟨z,_,rfl⟩:=M5.mp a;rfl
def Qm(w)(l:J2):inL (.str w) (l.map D.str)=decide (w∈l):=by
 unfold inL;rw[Bool.eq_iff_iff,List.any_eq_true,decide_eq_true_eq];constructor
 ·rintro⟨y,a,e⟩;obtain⟨z,b,rfl⟩:=M5.mp a;have:z=w:=by
   exact eq_of_beq e
  exact this▸b
 ·intro h;exact⟨.str w,M5.mpr ⟨w,h,rfl⟩,by show(w==w)=true;simp⟩
mutual
theorem jeZ:∀(n:Nat) (d:D),okE n d=true->eqD d d=true
 | n,.non,_=>rfl
 | n,.bl _,_=>by show(_==_)=true;simp
 | n,.int _,_=>by show(_==_)=true;simp
 | n,.str _,_=>by show(_==_)=true;simp
 | n+1,.tup l,h=>by rw[eqD];exact Vw n l (by simpa [okE] using h)
 | n+1,.lst _ l,h=>by rw[eqD];exact Vw n l (by simpa [okE] using h)
 | 0,.tup l,h=>by simp[okE] at h
 | 0,.lst _ l,h=>by simp[okE] at h
 | n,.dK _ _ _,h=>by cases n<;>simp[okE] at h
 | n,.dT _ _ _,h=>by cases n<;>simp[okE] at h
 | n,.ins _ _ _ _,h=>by cases n<;>simp[okE] at h
 | n,.dead,h=>by cases n<;>simp[okE] at h
 | n,.tok _,h=>by cases n<;>simp[okE] at h
 | n,.kt _,h=>by cases n<;>simp[okE] at h
 | n,.exc _ _,h=>by cases n<;>simp[okE] at h
theorem Vw:∀(n:Nat) (l:List D),xD n l=true->jaJ l l=true
 | n,[],_=>rfl
 | n,d::l,h=>by
  rw[xD,M0] at h;rw[jaJ,jeZ n d h.1,Vw n l h.2];rfl
end
theorem vO:∀{l},(∀ d∈l,frz d=true)->frzs l=true
 | [],_=>rfl
 | d::l,h=>by rw[qB,h d<|by simp,vO λx a=>h x<|by simp[a]];rfl
theorem xq:∀{l},(∀ d∈l,fz d=d)->fzs l=l
 | [],_=>rfl
 | d::l,h=>by rw[jad,h d<|by simp,xq λx a=>h x<|by simp[a]]
def kI{f:α->D}(h:∀ x,frz (f x)=true)(l:List α):frzs (l.map f)=true:=vO λd hd=>by obtain⟨p,_,rfl⟩:=M5.mp hd;exact h p
def Vp{f:α->D}(h:∀ x,fz (f x)=f x)(l:List α):fzs (l.map f)=l.map f:=xq λd hd=>by obtain⟨p,_,rfl⟩:=M5.mp hd;exact h p
@[simp] def okE_int(n)(i):okE n (.int i)=true:=by cases n<;>rfl
theorem KI(a):∀ w ws,ya a (w::ws)=w++(ws.map (a++·)).flatten
 | w,[]=>by simp[ya]
 | w,v::ws=>by rw[ya,KI a v ws];simp
theorem uY{G}{Good:D->Prop}{P:Rh->Prop}:∀{xs}(_:∀ x∈xs,∀ ρ,P ρ->∃ ρ1 y,G x ρ=some ρ1/\p ρ1=some y/\Good y/\P ρ1) {ρ}(_:P ρ),∃ ys,An3 (yP G qT p xs ρ=some ys) (ys.length=xs.length)<|∀ y∈ys,Good y
 | [],_,ρ,_=>⟨[],rfl,rfl,by simp⟩
 | x::xs,step,ρ,b=>by
  obtain⟨ρ1,y,c,e2,d,p1⟩:=step x (by simp) ρ b;obtain⟨ys,e3,e,f⟩:=uY (xs:=xs) (λz a=>step z<|by simp[a]) p1;refine⟨y::ys,?_,by simp[e],?_⟩
  ·rw[kP,c];simp[e2,e3]
  ·intro z a;rcases M4.mp a with rfl | a
   ·exact d
   ·exact f z a
theorem Qi{f:α->D}{Q:α->Prop}:∀{ys},(∀ y∈ys,∃ a,y=f a/\Q a)->∃ l:List α,ys=l.map f/\∀ a∈l,Q a
 | [],_=>⟨[],rfl,by simp⟩
 | y::ys,h=>by
  obtain⟨a,e,q⟩:=h y (by simp);obtain⟨l,e2,c⟩:=Qi (ys:=ys) λz d=>h z (by simp[d]);exact⟨a::l,by rw[e,e2];rfl,λb g=>(M4.mp g).elim (λz=>z▸q) (c b)⟩
def jog(a:frzs l=true):jiL lo hi (.lst o l)=some (.lst true<|JY l lo hi):=by
 show(bif frzs l then some (D.lst true<|JY l lo hi) else none)=_;rw[a];rfl
def xG(a:0<=i)(h:i<l.length):jf (.lst o l) (.int i)=l[i.toNat]?:=jb9 a h
def Wd(w:List Nat):Prop:=w.length<=30/\∀ c∈w,c<1114112
@[simp] def Jk(l:J2):fzs (l.map D.str)=l.map D.str:=by
 rw[JT,U8];rfl
@[simp] def jM(l:J2):frzs (l.map D.str)=true:=by
 rw[kT,List.all_map,List.all_eq_true];intro x _;rfl
@[simp] def cleans_strs(l:J2):yY (l.map D.str)=true:=by
 rw[vt,List.all_map,List.all_eq_true];intro x _;rfl
def wg{l:J2}{i:Int}(a:0<=i)(h:i<l.length):jf (.lst o<|l.map D.str) (.int i)=some (.str<|l.getD i.toNat []):=by
 rw[xG a<|by rw[L0];exact h,List.getElem?_map,List.getD_eq_getElem?_getD,E5 ∅];rfl
def QV{l:List α}{i}(h:i<l.length):l.getD i d∈l:=by
 rw[List.getD_eq_getElem?_getD,E5 h];exact List.getElem_mem h
def uH(h:x∈JY l lo hi):x∈l:=List.mem_of_mem_drop<|List.mem_of_mem_take h
def YL{G}{l:List α}{en out}{b}(P:Rh->Prop)(step:∀ x∈l,∀ ρ,P ρ->∃ ρ1,G (en x) ρ=some ρ1/\q ρ1=some (b x)/\p ρ1=some (out x)/\P ρ1){ρ}(a:P ρ):yP G q p (l.map en) ρ=some ((l.filter b).map out):=by
 induction l generalizing ρ with
 | nil=>rfl
 | cons x l c=>
  obtain⟨ρ1,d,e2,e3,p1⟩:=step x L6 ρ a;have:=c (λy e=>step y<|L5 _ e) p1;rw[L4,kP,d,L3,e2,L3];cases hb:b x with
  | true=>simp[e3,this,hb]
  | false=>simp[this,hb]
mutual
theorem jkS:∀(n:Nat) (d:D),okE n d=true->eqD (fz d) d=true
 | n,.non,_=>rfl
 | n,.bl _,_=>by show(_==_)=true;simp
 | n,.int _,_=>by show(_==_)=true;simp
 | n,.str _,_=>by show(_==_)=true;simp
 | n+1,.tup l,h=>by rw[fz,eqD];exact wa n l (by simpa [okE] using h)
 | n+1,.lst _ l,h=>by rw[fz,eqD];exact wa n l (by simpa [okE] using h)
 | 0,.tup l,h=>by simp[okE] at h
 | 0,.lst _ l,h=>by simp[okE] at h
 | n,.dK _ _ _,h=>by cases n<;>simp[okE] at h
 | n,.dT _ _ _,h=>by cases n<;>simp[okE] at h
 | n,.ins _ _ _ _,h=>by cases n<;>simp[okE] at h
 | n,.dead,h=>by cases n<;>simp[okE] at h
 | n,.tok _,h=>by cases n<;>simp[okE] at h
 | n,.kt _,h=>by cases n<;>simp[okE] at h
 | n,.exc _ _,h=>by cases n<;>simp[okE] at h
theorem wa:∀(n:Nat) (l:List D),xD n l=true->jaJ (fzs l) l=true
 | n,[],_=>rfl
 | n,d::l,h=>by
  rw[xD,M0] at h;rw[fzs,jaJ,jkS n d h.1,wa n l h.2];rfl
end
mutual
theorem jjB:∀(n:Nat) (d e:D),okE n d=true->fz d=fz e->eqD d e=true
 | n,.non,e,_,h=>by cases e<;>simp[fz] at h;rfl
 | n,.bl _,e,_,h=>by cases e<;>simp[fz] at h;subst h;show(_==_)=true;simp
 | n,.int _,e,_,h=>by cases e<;>simp[fz] at h;subst h;show(_==_)=true;simp
 | n,.str _,e,_,h=>by cases e<;>simp[fz] at h;subst h;show(_==_)=true;simp
 | n+1,.tup l,e,h,q=>by
  cases e<;>simp[fz] at q;rw[eqD];exact ww n l _ (by simpa [okE] using h) q
 | n+1,.lst _ l,e,h,q=>by
  cases e<;>simp[fz] at q;rw[eqD];exact ww n l _ (by simpa [okE] using h) q
 | 0,.tup l,e,h,_=>by simp[okE] at h
 | 0,.lst _ l,e,h,_=>by simp[okE] at h
 | n,.dK _ _ _,e,h,_=>by cases n<;>simp[okE] at h
 | n,.dT _ _ _,e,h,_=>by cases n<;>simp[okE] at h
 | n,.ins _ _ _ _,e,h,_=>by cases n<;>simp[okE] at h
 | n,.dead,e,h,_=>by cases n<;>simp[okE] at h
 | n,.tok _,e,h,_=>by cases n<;>simp[okE] at h
 | n,.kt _,e,h,_=>by cases n<;>simp[okE] at h
 | n,.exc _ _,e,h,_=>by cases n<;>simp[okE] at h
theorem ww:∀(n:Nat) (l m:List D),xD n l=true->fzs l=fzs m->jaJ l m=true
 | n,[],[],_,_=>rfl
 | n,[],_::_,_,q=>by simp[fzs] at q
 | n,_::_,[],_,q=>by simp[fzs] at q
 | n,d::l,e::m,h,q=>by
  rw[xD,M0] at h;rw[fzs,fzs] at q;injection q with q1 q2;rw[jaJ,jjB n d e h.1 q1,ww n l m h.2 q2];rfl
end
noncomputable def lkp{α:Type}(w:List Nat):List (List Nat×α)->Option α
 | []=>none
 | p::l=>if p.1=w then some p.2 else lkp w l
def fnOf(S:List<|List Nat×Int)(n:List Nat):Int:=(lkp n S).getD 0
noncomputable def wgo(c:Nat):List Nat->List Nat->List (List Nat)
 | cur,[]=>if cur=[] then [] else [cur]
 | cur,d::r=>if d=c then(if cur=[] then wgo c [] r else cur::wgo c [] r) else wgo c (cur++[d]) r
theorem V5(c):∀ p cur r,c∉p->wgo c cur (p++r)=wgo c (cur++p) r
 | [],cur,r,_=>by simp
 | d::p,cur,r,h=>by
  rw[List.cons_append,wgo,if_neg<|λz=>h<|by simp[z],V5 c p (cur++[d]) r<|λz=>h<|by simp[z]];simp
theorem uI(c):∀ L,(∀ p∈L,c∉p)->wgo c [] (ya [c] L)=L.filter λw=>!(w==[])
 | [],_=>rfl
 | [p],h=>by
  have:=V5 c p [] []<|h p (by simp);rw[N0,E4] at this;show wgo c [] p=_;rw[this,wgo];cases p with
  | nil=>rfl
  | cons a p=>rfl
 | p::q::L,h=>by
  have e:ya [c] (p::q::L)=p++([c]++ya [c] (q::L)):=by rw[ya];simp
  rw[e,V5 c p [] _<|h p<|by simp,E4,List.cons_append,E4,wgo,if_pos rfl,uI c (q::L) λx b=>h x<|by simp[b]];cases p with
  | nil=>rfl
  | cons a p=>rfl
def xf(a)(c):(yO a [c]).filter (λw=>!(w==[]))=wgo c [] a:=by
 have d:∀ p∈yO a [c],c∉p:=by
  intro p e;obtain⟨x,f,rfl⟩:=M5.mp e;exact StrLaws.split_free (S a) c x f
 have g:ya [c] (yO a [c])=a:=by
  have b:=QR [c]<|yO a [c];have h:(yO a [c]).map S=Txt.split (S a) (S [c]):=by
   unfold yO;rw[U8]
   conv=>rhs;rw[<- List.map_id (Txt.split (S a)<|S [c])]
   exact List.map_congr_left λx _=>by
    show S x.cps.toList=x;apply PyProof.Rows.ext_toList;rw[vE]
  rw[h,StrLaws.join_split] at b;have:=congrArg (λx:Str=>x.cps.toList) b;simpa [vE] using this.symm
 rw[<- uI c _ d,g]
theorem Q3(c):∀ n r,wgo c [] (List.replicate n c++r)=wgo c [] r
 | 0,r=>by simp
 | n+1,r=>by rw[List.replicate_succ,List.cons_append,wgo,if_pos rfl,if_pos rfl,Q3 c n r]
def QF(c)  (a:w≠[]) (b:c∉w) (n) (r):wgo c [] (w++(List.replicate (n+1) c++r))=w::wgo c [] r:=by
 rw[V5 c w [] _ b,E4,List.replicate_succ,List.cons_append,wgo,if_pos rfl,if_neg a,Q3]
def jac(c)  (a:w≠[]) (b:c∉w) (n):wgo c [] (w++List.replicate n c)=[w]:=by
 cases n with
 | zero=>
  have:=V5 c w [] [] b;simp only[N0,E4] at this;rw[List.replicate_zero,N0,this,wgo,if_neg a]
 | succ n=>
  have:=QF c a b n [];rw[N0] at this;rw[this];rfl
def xP(m):JP m≠[]:=by
 intro h;unfold JP at h;rw[List.map_eq_nil_iff] at h;exact absurd h Nat.toDigits_ne_nil
variable {ρ:Rh}{fa fb fe:FE}{ft fu:FT'}{fr:FA}{p:PAf}{pi:PAf}{g:D->D->Option D}{gl:List D->Option D}{G:D->Rh->Option Rh}{f:FS}{m:List D->Option (D×D)}{mp:List D->Option D}{i j:Nat}
@[simp] def dCBx_e:dCB gl fr ρ=(fr ρ).bind λr=>(gl r.1).bind λz=>some (z,r.2):=rfl
@[simp] def dTestx_e:jaG fa ρ=(fa ρ).bind λr=>(jfq r.1).bind λb=>some (b,r.2):=by
 unfold jaG;cases fa ρ with
 | none=>rfl
 | some r=>
  obtain⟨x,a⟩:=r;cases x<;>rfl
@[simp] def dOrx_e:dOr ft fu ρ=(ft ρ).bind λr=>bif r.1 then some (true,r.2) else fu r.2:=by
 unfold dOr;cases ft ρ with
 | none=>rfl
 | some r=>obtain⟨b,a⟩:=r;rfl
@[simp] def oF_e:oF g x y=(g x y).bind λd=>bif frz d then some d else none:=rfl
@[simp] def uZ:kj mp fr ρ=(fr ρ).bind λr=>bif frzs r.1 then(mp r.1).bind λd=>some (d,r.2) else none:=rfl
def jiw:pV i ρ=(ρ[i]?).join:=by
 unfold pV;cases h:ρ[i]? with
 | none=>rfl
 | some o=>cases o<;>rfl
@[simp] def dRng1_e:jbU fr ρ=(fr ρ).bind λr=>(xg r.1).bind λxs=>some (xs,r.2):=rfl
@[simp] def sForE_e:jcv fr G f ρ=(fr ρ).bind λr=>vH G f r.1 r.2:=rfl
noncomputable def jnK:Option D->Bool
 | some (.lst true _)=>true
 | _=>false
@[simp] def ownD_e:jnK (some<|.lst true l)=true:=rfl
def jn6(i:Nat)(r:D×Rh):Option D->Option Out
 | some (.lst true l)=>bif lim l.length then some (.nx<|r.2.set i<|some<|.lst true<|l++[r.1]) else none
 | _=>none
@[simp] def appD_e:jn6 i r (some<|.lst true l)=(bif lim l.length then some (.nx<|r.2.set i<|some<|.lst true<|l++[r.1]) else none):=rfl
@[simp] def sAppE_e:Kc i fe ρ=(bif jnK (pV i ρ) then(fe ρ).bind (λr=>jn6 i r<|pV i r.2) else none):=by
 have a:jee ρ[i]?=jnK (pV i ρ):=by
  rw[jiw];cases h:ρ[i]? with
  | none=>rfl
  | some o=>
   cases o with
   | none=>rfl
   | some d=>
    cases d with
    | lst b l=>cases b<;>rfl
    | _=>rfl
 have c:jdE i=λr=>jn6 i r (pV i r.2):=by
  funext r
  unfold jdE;rw[jiw];cases h:r.2[i]? with
  | none=>rfl
  | some o=>
   cases o with
   | none=>rfl
   | some d=>
    cases d with
    | lst b l=>cases b<;>rfl
    | _=>rfl
 unfold Kc;rw[a,c]
def dFz(fe:FE):FE:=λρ=>(fe ρ).bind λr=>some (fz r.1,r.2)
@[simp] def dFz_e:dFz fe ρ=(fe ρ).bind λr=>some (fz r.1,r.2):=rfl
def DE.fz(h:DE R te fe):DE R te (dFz fe):=by
 intro σ ρ q Z H O d w s e Q k;refine ob e λr j e=>?_;obtain⟨c,t⟩:=r;cases e;refine h w s j λ{v f g i l} b m n=>?_;have o:WF f g ([]++i++l):=by simpa using b.wf
 have p:Rep R (λa=>f a\/a∈i) g (QD.fz c) v []:=m.freeze (λa z=>.inl z) λa z=>.inr z;exact k (b.trans<|by simpa using((Go.freeze b.wf.left).frame o)) p<|n.frame (λa z=>.inl z) (λ_ _=>rfl) λ_ _=>rfl
def QE.fz(h:QE cl X e te fe):QE cl X e te (dFz fe):=⟨h.sem,DE.fz h.den⟩
end QD
namespace L2
open PySem PySem.Spec PyProof.Rows
def jbK(h:Builtin.Int.intBits a+Builtin.Int.intBits b<=2 ^ 21):IntMulOk a b:=by
 have e:Builtin.Int.intTooBig (Builtin.Int.intBits a+Builtin.Int.intBits b)=false:=by
  unfold Builtin.Int.intTooBig;have:2 ^ 21<=bitsLine:=by decide
  simp
  lia
 unfold IntMulOk;rw[e,Bool.and_false];exact M3
def jhS:OpR X (binaryOp .Mult) (rI (λi j=>Builtin.Int.intBits i+Builtin.Int.intBits j<=2 ^ 21) λi j=>.int<|i*j):=opI λ_ _ _ _ _ _ _ a q=>mul_int q<|jbK a
end L2
namespace QD
open PySem L2 PySem.Spec PyProof.Rows
def Vk:D->D->Option D:=two λi j=>bif decide (Builtin.Int.intBits i+Builtin.Int.intBits j<=2 ^ 21) then some (.int<|i*j) else none
def jgR:BO R (rI (λi j=>Builtin.Int.intBits i+Builtin.Int.intBits j<=2 ^ 21) λi j=>.int<|i*j) Vk:=by
 intro Z H x y d v u f g z a b e Q k;replace e:=two_of e;obtain⟨i,j,rfl,rfl,e⟩:=e;refine oc e λc e=>?_;cases e;obtain⟨rfl,_⟩:=a.int_of;obtain⟨rfl,_⟩:=b.int_of;exact⟨i,j,rfl,rfl,E2 c,k (Go.id z) .int_mk⟩
def ji6(c:QB cl X a ta pa)(d:QB cl X b tb pb):QP cl X (.BinOp a .Mult b pos) (tOp (rI (λi j=>Builtin.Int.intBits i+Builtin.Int.intBits j<=2 ^ 21) λi j=>.int<|i*j) ta tb) (p2 Vk pa pb):=⟨Kg jhS c.sem d.sem,Kf jgR c.den d.den⟩
def jhe(h:i.natAbs<2 ^ (2 ^ 20+1))(k:j.natAbs<2 ^ 1000):Vk (.int i) (.int j)=some (.int<|i*j):=by
 have a:=PySem.intBits_le_iff.mpr h;have b:=PySem.intBits_le_iff.mpr k;show(bif decide (Builtin.Int.intBits i+Builtin.Int.intBits j<=2 ^ 21) then some (D.int<|i*j) else none)=_;rw[X9 ∅];rfl
def YH(h:i.natAbs<2 ^ 1000)(k:j.natAbs<2 ^ 1000):Vk (.int i) (.int j)=some (.int<|i*j):=by
 have a:=PySem.intBits_le_iff.mpr h;have b:=PySem.intBits_le_iff.mpr k;show(bif decide (Builtin.Int.intBits i+Builtin.Int.intBits j<=2 ^ 21) then some (D.int<|i*j) else none)=_;rw[X9 ∅];rfl
def jdj(n)(hn:100<=n)(h:Builtin.Int.intBits z<=n)(a:k.natAbs<2 ^ 100):(z+k).natAbs<2 ^ (n+1):=by
 have b:=PySem.intBits_le_iff.mp h;have c:2 ^ 100<=2 ^ n:=Nat.pow_le_pow_right (by decide) hn;have d:2 ^ (n+1)=2 ^ n+2 ^ n:=by rw[Nat.pow_succ,Nat.mul_two]
 lia
def jdK(h:Builtin.Int.intBits z<=2 ^ 20)(a:k.natAbs<2 ^ 100):(z+k).natAbs<2 ^ (2 ^ 20+1):=jdj (2 ^ 20) (by decide) h a
noncomputable def YC:Int->List D->List D
 | _,[]=>[]
 | n,x::l=>.tup [.int n,x]::YC (n+1) l
theorem zK:∀ n l,(YC n l).length=l.length
 | _,[]=>rfl
 | n,x::l=>by rw[YC,M2,M2,zK]
theorem xc:∀ n l (i:Nat) y,(YC n l)[i]?=some y->∃ x,l[i]?=some x/\y=.tup [.int<|n+i,x]
 | _,[],_,_,e=>by simp[YC] at e
 | n,x::l,0,y,e=>by simp[YC] at e;exact⟨x,rfl,by rw[<- e];simp⟩
 | n,x::l,i+1,y,e=>by
  obtain⟨z,a,e2⟩:=xc (n+1) l i y (by simpa [YC] using e);exact⟨z,by simpa using a,by rw[e2];congr 3;lia⟩
def jjo(p:PAf)(q:PF)(ρ:Rh):Option (List D):=(p ρ).bind λx=>(jd8 x).bind λx=>(jhb x).bind λl=>(q ρ).bind λy=>(Jp y).bind λn=>bif K8 n then some (YC n<|fzs l) else none
def jjV(h:PPs R ta p)(f:PB R tb q):PIt R (jmZ R.K ta tb) (jjo p q):=by
 intro σ ρ Z H O xs z s e Q k;refine ob e λx g e=>ob e λy e3 e=>ob e λl i e=>ob e λI e2 e=>ob e λn j e=>oc e λm e=>?_;cases e;cases k8 j;obtain⟨o,rfl⟩:=xR i;cases qr e3;refine h z s g λ{vs r J t} w A=>?_;obtain⟨v,rfl,B⟩:=A.one_of;obtain⟨a,C,L,rfl,D,E,rfl,_⟩:=(B.freeze (Z':=λa=>r a\/a∈t) (λa z=>.inl z) λa z=>.inr z);have b:=w.fz;refine f b.wf.zd (b.slots z s) e2 λ{u M N P} c F=>?_;obtain⟨rfl,_⟩:=F.int_of;have d:=E.frame c.zz<|λa z=>c.same a<|b.wf.zd a z;have S:=qE m;refine⟨a,C,n,rfl,rfl,by unfold Builtin.SmallTypes.fitsIndex;simp;lia,FL.sq d,k (b.pair c) ?_⟩;exact jfZ d (D.frame c.zz (λa z=>c.same a<|b.wf.zd a z)<|λa G=>(nomatch G)) (zK _ _)<|xc _ _
noncomputable def jnR:List (List KA)->List D->List KA->Option D
 | k::ks,d::l,a=>if k=a then some d else jnR ks l a
 | _,_,_=>none
def jl3(pa pb:PF)(ρ:Rh):Option (List KA):=(pa ρ).bind λx=>(pb ρ).bind λy=>(kS x).bind λa=>(kS y).bind λb=>some [a,b]
def jfn(x:D)(k:List KA)(z:D):Option D:=match x with
 | .dT _ ks l=>some<|(jnR ks l k).getD z
 | _=>none
@[simp] def opTGet_e(o)(ks)(l)(k)(z):jfn (.dT o ks l) k z=some ((jnR ks l k).getD z):=rfl
@[simp] def pTGet(pd:PF)(pa:PF)(pb:PF)(pc:PF)(ρ:Rh):Option D:=(pd ρ).bind λx=>(jl3 pa pb ρ).bind λk=>(pc ρ).bind λz=>jfn x k z
@[simp] def pKey_e:jl3 pa pb ρ=(pa ρ).bind λx=>(pb ρ).bind λy=>(kS x).bind λa=>(kS y).bind λb=>some [a,b]:=rfl
noncomputable def joH:List (List KA)->List D->List KA->D->List D
 | k::ks,x::l,a,d=>(if k=a then d else x)::joH ks l a d
 | _,_,_,_=>[]
def jmm(ks:List<|List KA)(l:List D)(a:List KA)(d:D):List (List KA)×List D:=if a∈ks then(ks,joH ks l a d) else(ks++[a],l++[d])
@[simp] def sTSet(i:Nat)(pa:PF)(pb:PF)(pv:PF)(ρ:Rh):Option Out:=(pv ρ).bind λd=>(pV i ρ).bind λx=>(jl0 x).bind λp=>(jl3 pa pb ρ).bind λa=>bif frz d&&lim p.1.length then some (.nx<|ρ.set i<|some<|.dT true (jmm p.1 p.2 a d).1 (jmm p.1 p.2 a d).2) else none
def jn3(d:X.mg "enumerate" = none)(h:QPs cl X [a] tr pr)(c:QB cl X b tb pb)(e:Gl X "enumerate":=by rfl)(f:starEach [a] X.env=[(false,eval a X.env)]:=by rfl):
  QI cl X (.Tuple elts n tpos) (.Call (.Name "enumerate" p) [a] [⟨some "start",b,kpos⟩] pos) (jmZ X.K tr tb) (jjo pr pb):=⟨jnq e d h.sem c.sem f,jjV h.den c.den⟩
end QD
namespace L2
open PySem PySem.Spec PyProof.Rows
end L2
namespace QD
open PySem L2 PySem.Spec PyProof.Rows
noncomputable def YJ:List Str->List D->Str->Option D
 | n::ns,d::l,f=>if f=n then some d else YJ ns l f
 | _,_,_=>none
theorem jcB:∀{ns}{l}{vs}{O},Reps R Z H l vs O->ns.length=l.length->YJ ns l f=some d->∃ v P,(ns.zip vs).lookup f=some v/\Rep R Z H d v P
 | [],l,vs,O,_,_,h=>by cases l<;>cases h
 | n::ns,[],vs,O,_,a,_=>by simp at a
 | n::ns,x::l,vs,O,r,a,h=>by
  obtain⟨v,b,c,k,rfl,rfl,g,i⟩:=r;rw[YJ] at h;by_cases e:f=n
  ·rw[if_pos e] at h;cases h;exact⟨v,c,by rw[X6,List.lookup_cons,e];simp,g⟩
  ·rw[if_neg e] at h;obtain⟨w,P,j,e2⟩:=jcB i ⇑a h;refine⟨w,P,?_,e2⟩;rw[X6,List.lookup_cons];have:(f==n)=false:=by simp[e]
   rw[this];exact j
def qj(c:Nat)(f:Str):D->Option D
 | .ins _ c' ns l=>bif c'==c then YJ ns l f else none
 | _=>none
@[simp] def fldOf_ins:qj c f (.ins o c' ns l)=bif c'==c then YJ ns l f else none:=rfl
@[simp] def vp(c:Nat)(f:Str)(po:PF)(ρ:Rh):Option D:=(po ρ).bind (qj c f)
def jjJ(g:Cls R.K<|R.cls c)(i:NoAttr R.K (R.cls c) f)(h:PB R ta p):PB R (jiK R.K ta f) (vp c f p):=by
 intro σ ρ Z H O d z s e Q k;refine ob e λx j e=>?_;cases x with
 | ins o m ns l=>
  refine oc e λn q=>?_;obtain rfl:m=c:=by simpa using n
  refine h z s j λ{v D E F} r t=>?_;obtain⟨a,u,vs,G,rfl,y,A,B,_⟩:=t;obtain⟨w,P,C,b⟩:=jcB y A q;exact⟨a,_,u,_,w,rfl,B,g,i,C,k r b⟩
 | _=>cases e
noncomputable def kn:List Str->List D->Str->D->List Str×List D
 | n::ns,x::l,f,d=>if n=f then(n::ns,d::l) else(n::(kn ns l f d).1,x::(kn ns l f d).2)
 | _,_,f,d=>([f],[d])
theorem xa(rd:Rep R Z H d v P):∀{ns}{l}{vs}{O},Reps R Z H l vs O->ns.length=l.length ->
  Ex2 λvs2 O2=>An4 (Reps R Z H (kn ns l f d).2 vs2 O2) ((kn ns l f d).1.zip vs2=Qv f v (ns.zip vs)) ((kn ns l f d).1.length=(kn ns l f d).2.length)<|∀ c,O2.count c<=O.count c+P.count c
 | [],[],vs,O,r,_=>by
  obtain⟨rfl,rfl⟩:=r;exact⟨[v],P,.one rd,rfl,rfl,λc=>by simp⟩
 | [],_::_,_,_,_,a=>by simp at a
 | _::_,[],_,_,_,a=>by simp at a
 | n::ns,x::l,vs,O,r,a=>by
  obtain⟨u,b,h,O2,rfl,rfl,i,g⟩:=r;rw[kn];by_cases e:n=f
  ·rw[if_pos e];refine⟨v::b,P++O2,Reps.cons rd g,?_,a,λc=>by simp only[X7];lia⟩;rw[X6,X6,Qv,if_pos e]
  ·rw[if_neg e];obtain⟨vs2,j,k,e3,m,o⟩:=xa rd g ⇑a;refine⟨u::vs2,h++j,Reps.cons i k,?_,by simp[m],λc=>by have:=o c;simp only[X7];lia⟩;rw[X6,X6,Qv,if_neg e,e3]
@[simp] def JN(i:Nat)(c:Nat)(f:Str)(pv:PF)(ρ:Rh):Option Out:=(pv ρ).bind λd=>(pV i ρ).bind λt=>(zM t).bind λy=>bif y.1==c&&decide (y.2.1.length<=900) then some (.nx<|ρ.set i<|some<|.ins true c (kn y.2.1 y.2.2 f d).1 (kn y.2.1 y.2.2 f d).2) else none
def jg4{l:List α}{m:List β}(h:decide (l.length<=900)=true):(l.zip m).length<1000:=by
 rw[List.length_zip];exact E8 (Nat.min_le_left _ _) ∅
def jjA{R}{pm}{i c}{f}{tv}{pv}(m:Cls R.K<|R.cls c)(n:NoAttr R.K (R.cls c) f)(p:PP R tv pv):DS R pm (jmS R.K (Jt i) tv f) (JN i c f pv):=by
 intro σ ρ Z H O o w s e J k;refine ob e λd r e=>ob e λt v e=>ob e λ⟨x,ns,l⟩ e2 e=>oc e λb e=>?_;cases e;cases Vb e2;rw[M0] at b;obtain rfl:x=c:=by simpa using b.1
 refine p w.zd s r λ{u L M N} j y=>?_;have g:=j.widen w;refine Kx K0 g.wf (j.slots w.zd s) v rfl ow_ins λa z vs P A h B C put=>C ?_;obtain⟨D,Q,E,e3,F,G⟩:=xa y A h;obtain⟨S,g3,I⟩:=put ow_ins F (Go.id g.wf.zd) E λq=>by have:=G q;simp;lia
 refine⟨a,_,z,_,rfl,B,m,n,jg4 b.2,?_⟩;rw[<- e3];exact k (g.trans g3) I<|Keep.refl _ _
def jd3(b:Cls X.K<|cl c)(d:NoAttr X.K (cl c) f)(a:QB cl X o to po)(e:attributeBase o f X.env (eval o X.env)=eval o X.env:=by rfl):QB cl X (.Attribute o f pos) (jiK X.K to f) (vp c f po):=⟨jfK a.sem e,jjJ b d a.den⟩
def jkw(b:Cls X.K<|cl c)(d:NoAttr X.K (cl c) f)(g:QB cl X (.Name x xpos) (Jt i)<|pV i)(a:QP cl X e te pe)(h:swapsWith e (some<|.Attribute (.Name x xpos) f pos') pos.line X.env=pure false:=by rfl):
  QS cl pm X (.Assign [.Attribute (.Name x xpos) f pos'] e pos) (jmS X.K (Jt i) te f) (JN i c f pe):=⟨jkJ g.sem a.sem h,jjA b d a.den⟩
noncomputable def jj4:List Str->Str->Option Nat
 | [],_=>none
 | n::ns,f=>if f=n then some 0 else(jj4 ns f).map (·+1)
theorem uU:∀{ns}{f}{vs}{j}{v:V},jj4 ns f=some j->ns.length=vs.length->vs[j]?=some v->(ns.zip vs).lookup f=some v
 | [],_,_,_,_,h,_,_=>by cases h
 | n::ns,f,[],_,_,_,a,_=>by simp at a
 | n::ns,f,u::vs,j,v,h,a,b=>by
  rw[jj4] at h;by_cases e:f=n
  ·rw[if_pos e] at h;cases h;cases b;rw[X6,List.lookup_cons,e];simp
  ·rw[if_neg e] at h;cases hp:jj4 ns f with
   | none=>rw[hp] at h;cases h
   | some i=>
    rw[hp] at h;cases h;rw[X6,List.lookup_cons,show(f==n)=false by simp[e]];exact uU hp ⇑a ⇑b
theorem Vj:∀{ns}{l}{vs:List V},ns.length=l.length->vs.length=l.length->YJ ns l f=none->(ns.zip vs).lookup f=none
 | [],_,_,_,_,_=>rfl
 | n::ns,[],_,a,_,_=>by simp at a
 | n::ns,x::l,[],_,b,_=>by simp at b
 | n::ns,x::l,v::vs,a,b,h=>by
  rw[YJ] at h;by_cases e:f=n
  ·rw[if_pos e] at h;cases h
  ·rw[if_neg e] at h;rw[X6,List.lookup_cons,show(f==n)=false by simp[e]];exact Vj ⇑a ⇑b h
@[simp] def zF(m:List D->Option (D×D))(i c:Nat)(mn:Str)(p:PAf)(ρ:Rh):Option (D×Rh):=(p ρ).bind λds=>(pV i ρ).bind λt=>(zM t).bind λy=>bif y.1==c&&(frzs ds&&(YJ y.2.1 y.2.2 mn).isNone) then(m<|t::ds).bind λr=>some (r.1,ρ.set i<|some r.2) else none
def jet(h:PPs R ta p)(hn:∀ ρ ds,p ρ=some ds->ds.length+1=n):DE R (Y5 (R.cls c) mn (spM R m n 0) [] E0 (Jt i) ta) (zF m i c mn p):=by
 intro σ ρ ρ' Z H O d w s e Q k;refine ob e λds E e=>ob e λy b e=>ob e λ⟨o,ns,l⟩ e3 e=>oc e λF e=>ob e λ⟨N,S⟩ e2 e=>?_;cases e;cases Vb e3;have b:=VH b;rw[M0,M0] at F;obtain⟨q,r,t⟩:=F;obtain rfl:o=c:=by simpa using q
 have G:=(L9.mp b).1;obtain⟨A0,P0,B0,_,T,_,_⟩:=s.put G;obtain⟨u,x,U⟩:=T _ b;obtain⟨a,V,vs,O',rfl,W,z,X,_⟩:=U;refine⟨.ref a,x,a,V,_,rfl,X,Vj z W.length<|Option.isNone_iff_eq_none.mp t,(h w.zd s E λ{Y C I P1} J K=>?_)⟩;cases K.nil r;have f:Go Z H O C I O:=by simpa using J.widen w
 obtain⟨A,P,B,rfl,k1,k2,_⟩:=(J.slots w.zd s).put G;obtain⟨u',g,rc⟩:=k1 _ b;rw[x] at g;cases g;have rr:Reps R C I (.ins true o ns l::ds) (.ref a::Y) P:=by
  have:=Reps.cons rc K;simpa using this
 refine⟨C,.ins true o ns l::ds,N,S,P,.ref a,f.wf.mid,by have:=hn ρ ds E;simpa using this,by rw[N0];exact rr,rfl,e2,λ{v Z2 H2 P2 O2} j r2 D=>?_⟩;have L:=Go.keepA f.wf j;have M:=k2 D j.zz (j.zH f.wf.mid) L.1 L.2;rw[yH x] at M;exact k (f.trans<|j.frame f.wf).turn r2 M
noncomputable def jdb:D×D->Option D
 | (.non,t)=>some t
 | _=>none
@[simp] def nonOf_non(t):jdb (.non,t)=some t:=rfl
@[simp] def wV(m:List D->Option (D×D))(c:Nat)(p:PAf)(ρ:Rh):Option D:=(p ρ).bind λds=>bif frzs ds then(m<|.ins true c [] []::ds).bind jdb else none
def jcX(h:PPs R ta p)(hn:∀ ρ ds,p ρ=some ds->ds.length+1=n):PP R (jcs (R.cls c) (spM R m n 0) [] E0 ta) (wV m c p):=by
 intro σ ρ Z H O d z s e Q k;refine ob e λds r e=>oc e λA e=>ob e λ⟨x,t⟩ e2 e=>?_;cases x with
 | non=>
  cases e;refine h z s r λ{F B u G} f w=>?_;cases w.nil A;intro x b C g i;have y:=Go.newF (o:=.own x) (wf0 f.wf.zd) g;have j:upd u b (.own x) x=none:=by rw[ji<|λe=>i e.symm];exact C
  have l:=y.trans<|Go.newO (o:=.ins (R.cls c) b []) y.wf j;have D:Rep R (λa=>B a\/a=b) (upd (upd u b<|.own x) x<|.ins (R.cls c) b []) (.ins true c [] []) (.ref x) [x]:=by
   exact⟨x,b,[],[],rfl,.empty,rfl,jV,rfl⟩
  refine⟨_,.ins true c [] []::ds,.non,d,[x],.ref x,l.wf,by have:=hn ρ ds r;simpa using this,by rw[N0];have:=Reps.cons D<|l.reps f.wf.zd w;simpa using this,rfl,e2,λ{v Z3 I J K} g3 E q=>?_⟩;obtain⟨rfl,rfl⟩:=E;exact⟨rfl,k (by simpa using(f.trans l).trans g3) q⟩
 | _=>cases e
section
variable {cl:Nat->Addr}{pm:List Nat}{X:Cx}{e:Expr}{es:List Expr}{tr:TA}{pr:PAf}{pos p apos:Pos}
structure MtFact(K:J4)(C:Addr)(x qual:Str)(st:Stmt)(f:Addr)(fd:FuncData)(ps:List Str):Prop where
 fn:Fun K x qual st f fd
 mt:Meth K C x f
 bd:Binds K fd ps []
def OkM(P:Program)(w:World)(K:J4)(mg:K6)(C:Addr)(x qual:Str)(st:Stmt)(k:Nat)(ps:List Str)(sp:Sp):Prop:=∃ f fd,MtFact K C x qual st f fd ps/\∀ base,FnOk P w K mg base CX0 k f fd ps sp
def jf2{k n i c}{ps}{m}{x a qual}{st}{pl}(h:Cls X.K<|cl c)(O:OkM X.prog X.w X.K X.mg (cl c) a qual st k ps<|spM ⟨X.K,cl⟩ m n 0)(j:Room k X.A)(l:QB cl X (.Name x p) (Jt i)<|pV i)(g:QPs cl X (e::es) tr pr)(hn:∀ ρ ds,pr ρ=some ds->ds.length+1=n)
  (b:SEq X e es:=by rfl) (d:BkE X pos es:=by rfl)
  (o:eval (.Call (.Attribute (.Name x p) a apos) (e::es) [] pos) X.env=(do
   let ov <- eval (.Name x p) X.env
   standAt apos.atName
   let (f,first) <- holding [ov] (getMethod ov a pl)
   callWith pos f first (backTo pos<|starEach (e::es) X.env) (backToKw pos<|keywordEach [] X.env)):=by rfl):
  QE cl X (.Call (.Attribute (.Name x p) a apos) (e::es) [] pos) (Y5 (cl c) a (spM ⟨X.K,cl⟩ m n 0) [] E0 (Jt i) tr) (zF m i c a pr):=by
 obtain⟨_,_,F,G⟩:=O;exact⟨jcP l.sem h F.mt (G _) j F.bd .nil zU g.sem b d o,jet g.den hn⟩
def jjz{k n c}{ps}{m}{x qual}{st}(f:PySem.W.makesIn X.K (cl c)=true)(hp:PySem.W.keepIn X.K (.ref<|cl c)=true)(O:OkM X.prog X.w X.K X.mg (cl c) "__init__" qual st k ps<|spM ⟨X.K,cl⟩ m n 0)(g:Room (k+1) X.A)(h:X.mg x=some (.ref<|cl c))(d:QPs cl X (e::es) tr pr)(hn:∀ ρ ds,pr ρ=some ds->ds.length+1=n)(i:Gl X x:=by rfl)
  (a:Nd x:=by decide) (j:SEq X e es:=by rfl) (b:BkE X pos es:=by rfl):
  QP cl X (.Call (.Name x p) (e::es) [] pos) (jcs (cl c) (spM ⟨X.K,cl⟩ m n 0) [] E0 tr) (wV m c pr):=by
 obtain⟨_,_,F,G⟩:=O;exact⟨jgl ⟨f,F.mt.at_,F.mt.fn,hp⟩ (G _) g i h F.bd .nil zU d.sem a j b,jcX d.den hn⟩
end
@[simp] def vG(m:List D->Option D)(c:Nat)(mn:Str)(po:PF)(p:PAf)(ρ:Rh):Option D:=(po ρ).bind λs=>(jf5 s).bind λy=>bif y.1==c&&(YJ y.2.1 y.2.2 mn).isNone then(p ρ).bind λds=>(m<|fzs<|s::ds).bind λd=>bif frzs (s::ds)||kE d then some d else none else none
def jbG(r:PB R to po)(t:PBs R ta p)(hn:∀ ρ ds,p ρ=some ds->ds.length+1=n):PP R (Y5 (R.cls c) mn (spP R m n) [] E0 to ta) (vG m c mn po p):=by
 intro σ ρ Z H O d z s e Q k;refine ob e λF u e=>ob e λ⟨v,ns,l⟩ e3 e=>oc e λf e=>ob e λds j e=>ob e λG e2 e=>oc e λw e=>?_;cases e;obtain⟨o,rfl⟩:=jiA e3;rw[M0] at f;obtain rfl:v=c:=by simpa using f.1
 refine r z s u λ{I J K L} b q=>?_;have g:=q;obtain⟨a,x,y,M,rfl,A,h,B,_⟩:=g;exact⟨a,x,_,rfl,B,Vj h A.length<|Option.isNone_iff_eq_none.mp f.2,t b.wf.zd (b.slots z s) j λi C=>jcH i.wf.zd (Reps.cons (i.rep b.wf.zd q) C) (hn ρ ds j) e2 w λD E=>k (by simpa using(b.pair i).pair D) E⟩
def qQ(c:Nat)(f:Str)(L:Ln)(d:D):Option (D×(D->D)):=(L d).bind λy=>(zM y.1).bind λq=>bif q.1==c then(jj4 q.2.1 f).bind λj=>(q.2.2[j]?).bind λx=>some (x,λx'=>y.2<|.ins true q.1 q.2.1<|q.2.2.set j x') else none
def jfw(G:Cls R.K<|R.cls c)(I:NoAttr R.K (R.cls c) f)(h:Ki R tb i L):Ki R (jiK R.K tb f) i (qQ c f L):=by
 intro σ ρ Z H O d x k s hd e;refine ob e λ⟨y,k0⟩ J e=>ob e λ⟨M,ns,l⟩ e3 e=>oc e λN e=>ob e λj Q e=>ob e λx0 e2 e=>?_;cases e;cases Vb e3;obtain rfl:M=c:=by simpa using N
 obtain⟨v,A,P,B,rfl,r,S,T⟩:=h s hd J;obtain⟨a,t,vs,O',rfl,w,n,z,rfl⟩:=r;obtain⟨u,U,V,W,C,rfl,X,o⟩:=w.at e2;refine⟨u,A++(a::U),V,W++B,by simp,X,λq=>S ⟨a,_,t,_,u,rfl,z,G,I,uU Q (by rw[w.length];exact n) C,q⟩,λ{Z' H' x' Y} r' D E p F=>?_⟩;have g:=o r' D E (λb m=>p b<|by simp[m])<|λb m=>F b (by simp[m]);rw[yH C] at g;have s2:=T (ow_ins.mpr ⟨a,t,vs,_,rfl,g,by rw[List.length_set];exact n,(p a<|by simp).trans z,rfl⟩) D E (λb m=>p b<|by simp[m])<|λb m=>F b (by simp[m]);simpa using s2
def lIx(j:Int)(L:Ln):Ln:=λd=>(L d).bind λy=>match y.1 with
 | .tup l=>(ixN l.length j).bind λn=>(l[n]?).bind λx=>some (x,λx'=>y.2<|.tup<|l.set n x')
 | .lst true l=>(ixN l.length j).bind λn=>(l[n]?).bind λx=>some (x,λx'=>y.2<|.lst true<|l.set n x')
 | _=>none
def jkM(V:∀{σ}{H}{Q:VK},Q (.int j) H->tj σ H Q)(h:Ki R tb i L):Ki R (tOp (rIx R.K) tb tj) i (lIx j L):=by
 intro σ ρ Z H O d x k s hd e;refine ob e λy W e=>?_;obtain⟨y,k0⟩:=y;dsimp only at e;split at e
 ·rename_i l;refine ob e λn F e=>ob e λx0 e2 e=>?_;cases e;obtain⟨v,A,P,B,rfl,r,G,I⟩:=h s hd W;obtain⟨a,vs,rfl,X,w⟩:=r;obtain⟨u,z,J,C,D,rfl,M,g⟩:=w.at e2;refine⟨u,A++z,J,C++B,by simp,M,λq=>G<|V<|.inr<|.inl ⟨a,vs,j,u,rfl,rfl,X.sq,jfr (by rw[w.length];exact F) D,q⟩,λ{N S T m} U o p t E=>?_⟩;have c:=g U o p (λb f=>t b<|by simp[f])<|λb f=>E b (by simp[f]);rw[yH D] at c;have rt:Rep R N S (.tup<|l.set n T) (.ref a) (z++m++C):=by
   exact⟨a,vs,rfl,X.frame o p,c⟩
  have s2:=I rt o p (λb f=>t b<|by simp[f])<|λb f=>E b (by simp[f]);simpa using s2
 ·rename_i l;refine ob e λn F e=>ob e λx0 e2 e=>?_;cases e;obtain⟨v,A,P,B,rfl,r,G,I⟩:=h s hd W;obtain⟨a,vs,O',rfl,w,Y,rfl⟩:=r;obtain⟨u,z,J,C,D,rfl,M,g⟩:=w.at e2;refine⟨u,A++(a::z),J,C++B,by simp,M,λq=>G<|V<|.inl ⟨a,vs,j,u,rfl,rfl,SqL.of Y,jfr (by rw[w.length];exact F) D,q⟩,λ{N S T m} U o p t E=>?_⟩;have c:=g U o p (λb f=>t b<|by simp[f])<|λb f=>E b (by simp[f]);rw[yH D] at c;have rt:Rep R N S (.lst true<|l.set n T) (.ref a) (a::(z++m++C)):=by
   exact⟨a,vs,_,rfl,c,(t a<|by simp).trans Y,rfl⟩
  simpa using(I rt o p (λb f=>t b<|by simp[f])<|λb f=>E b<|by simp[f])
 ·cases e
noncomputable def spX(te:TE)(n:Nat):Sp:=λvs H Q _=>vs.length=n/\te (vs.map some) H Q
def Vz(c:Nat)(mn:Str)(L':Ln)(L:Ln):Ln:=λd=>(L d).bind λy=>match y.1 with
 | .ins true c' ns l=>bif c'==c&&(YJ ns l mn).isNone then(L'<|.ins true c' ns l).bind λz=>some (z.1,λx'=>y.2<|z.2 x') else none
 | _=>none
def jhk(h':Ki R te 0 L')(h:Ki R tb i L):Ki R (Y5 (R.cls c) mn (spX te 1) [] E0 tb Jl) i (Vz c mn L' L):=by
 intro σ ρ Z H O d x k s hd e;unfold Vz at e;cases e0:L d with
 | none=>rw[e0] at e;cases e
 | some y=>
  obtain⟨y,k0⟩:=y;rw[e0,L3] at e;dsimp only at e;split at e
  ·rename_i g ns l;cases hm:g==c&&(YJ ns l mn).isNone with
   | false=>rw[hm] at e;cases e
   | true=>
    rw[hm,cond_true] at e;rw[M0] at hm;have j:g=c:=by simpa using hm.1
    subst j;cases e1:L' (.ins true g ns l) with
    | none=>rw[e1] at e;cases e
    | some z=>
     obtain⟨z,w⟩:=z;rw[e1,L3] at e;cases e;obtain⟨v,A,P,B,rfl,r,M,N⟩:=h s hd e0;have Q:=r;obtain⟨a,S,vs,O',rfl,T,m,U,_⟩:=Q;have V:Slots R Z H [some<|.ins true g ns l] [some<|.ref a] P:=by
      have:=Jc (Reps.one r)<|Ji 0;simpa using this
     obtain⟨u,C,W,D,rfl,X,n,o⟩:=h' V rfl e1;refine⟨u,A++C,W,D++B,by simp,X,λq=>M ⟨a,S,_,rfl,U,Vj m T.length<|Option.isNone_iff_eq_none.mp hm.2,rfl,n q⟩,λ{Y H' E p} r' F G I J=>?_⟩;have rt:Rep R Y H' (w E) (.ref a) (C++p++D):=by
      obtain⟨A2,P2,B2,eO,q1,_,q3⟩:=(o r' F G (λb f=>I b<|by simp[f])<|λb f=>J b<|by simp[f]).put (i:=0) (by simp);obtain⟨v2,t,r2⟩:=q1 (w E) (by simp);cases t;have K:A2++B2=[]:=by
       have:=q3;simp at this;obtain⟨_,σ',e5,e6⟩:=this;cases e5;exact e6.2
      simp only[List.append_eq_nil_iff] at K;obtain⟨rfl,rfl⟩:=K;rw[eO];simpa using r2
     simpa using(N rt F G (λb f=>I b<|by simp[f])<|λb f=>J b<|by simp[f])
  ·cases e
structure QL(cl:Nat->Addr)(X:Cx)(e:Expr)(tb:TE)(i:Nat)(L:Ln):Prop where
 sem:PE X e tb
 den:Ki ⟨X.K,cl⟩ tb i L
section
variable {cl:Nat->Addr}{pm:List Nat}{X:Cx}{o e j:Expr}{es:List Expr}{to te tb tj:TE}{po pe pj:PF}{tr:TA}{pr:PAf}{pos p apos:Pos}{L L':Ln}{i:Nat}
def jfE{k n c}{ps}{m}{a qual}{st}{pl}(j:Cls X.K<|cl c)(O:OkM X.prog X.w X.K X.mg (cl c) a qual st k ps<|spP ⟨X.K,cl⟩ m n)(l:Room k X.A)(i:QB cl X o to po)(b:QBs cl X (e::es) tr pr)(hn:(e::es).length+1=n:=by rfl)
  (d:SEq X e es:=by rfl) (g:BkE X pos es:=by rfl)
  (p:eval (.Call (.Attribute o a apos) (e::es) [] pos) X.env=(do
   let ov <- eval o X.env
   standAt apos.atName
   let (f,first) <- holding [ov] (getMethod ov a pl)
   callWith pos f first (backTo pos<|starEach (e::es) X.env) (backToKw pos<|keywordEach [] X.env)):=by rfl):
  QP cl X (.Call (.Attribute o a apos) (e::es) [] pos) (Y5 (cl c) a (spP ⟨X.K,cl⟩ m n) [] E0 to tr) (vG m c a po pr):=by
 obtain⟨_,_,F,G⟩:=O;exact⟨jcP i.sem j F.mt (G _) l F.bd .nil zU b.sem d g p,jbG i.den b.den λρ q h=>by rw[b.n ρ q h];exact hn⟩
def jjw{x}(a:QB cl X (.Name x p) (Jt i)<|pV i):QL cl X (.Name x p) (Jt i) i qo:=⟨a.sem,K0⟩
def jk9{c}{f}(a:Cls X.K<|cl c)(b:NoAttr X.K (cl c) f)(h:QL cl X o tb i L)(d:attributeBase o f X.env (eval o X.env)=eval o X.env:=by rfl):QL cl X (.Attribute o f pos) (jiK X.K tb f) i (qQ c f L):=
 ⟨jfK h.sem d,jfw a b h.den⟩
def jjt{z}{j2}{a b}(h:QL cl X o tb i L)(c:Vo (.UnaryOp .USub (.Constant (.int z) j2 a) b):=by exact λ_ _=>rfl):
  QL cl X (.Subscript o (.UnaryOp .USub (.Constant (.int z) j2 a) b) pos) (tOp (rIx X.K) tb<|tUn (rU λi=>.int<|-i)<|tC<|.int z) i (lIx (-z) L):=
 ⟨jf0 jbY h.sem (jj2 jfs jfV) c,jkM (λq=>⟨z,rfl,q⟩) h.den⟩
def jh8{k c}{f}{fd}{ps}{a qual}{st}{pl}(b:Cls X.K<|cl c)(F:MtFact X.K (cl c) a qual st f fd ps)(d:Ki ⟨X.K,cl⟩ te 0 L')
  (G:FnOk X.prog X.w X.K X.mg X.base CX0 k f fd ps<|spX te 1) (e:Room k X.A) (h:QL cl X o tb i L)
  (g:eval (.Call (.Attribute o a apos) [] [] pos) X.env=(do
   let ov <- eval o X.env
   standAt apos.atName
   let (f,first) <- holding [ov] (getMethod ov a pl)
   callWith pos f first (backTo pos<|starEach [] X.env) (backToKw pos<|keywordEach [] X.env)):=by rfl):
  QL cl X (.Call (.Attribute o a apos) [] [] pos) (Y5 (cl c) a (spX te 1) [] E0 tb Jl) i (Vz c a L' L):=
 ⟨uX h.sem b F.mt G e F.bd .nil zU g,jhk d h.den⟩
def jgW{cpos}(hl:QL cl X o tb i L)(h:QP cl X e te pe)(b:attributeBase o "append" X.env (eval o X.env)=eval o X.env:=by rfl)
  (d:((backTo cpos<|starEach [e] X.env).all (λx=>!x.1)&&(backToKw cpos<|keywordEach [] X.env).all (λx=>x.1.isSome)
   && decide ([e].length+([]:List Keyword).length+(if([]:List Keyword).isEmpty then 0 else 1)<30))=true:=by rfl)
  (c:(apos.endLine==cpos.line)=true:=by rfl) (f:starEach [e] X.env=(false,eval e X.env)::starEach [] X.env:=by rfl) (a:(backTo cpos<|starEach [] X.env).any (·.1)=false:=by rfl)
  (hsw:swapsWith (.Call (.Attribute o "append" apos) [e] [] cpos) none pos.line X.env=pure false:=by rfl):
  QS cl pm X (.Expr (.Call (.Attribute o "append" apos) [e] [] cpos) pos) (qL<|tBM X.K "list" JV tb<|vq te Jl) (YB i L pe):=
 ⟨JX (wX PySem.F.plainAttrs_list PySem.F.slot_list_append PySem.F.type_list_append Ye hl.sem (vy h.sem JC f) b d c f a) hsw,ja3 hl.den h.den⟩
end
def jpe{cl}{P}{w}{K}{mg}{base}{x qual}{a}{fa}{fd}{N ps}{k}{te}{L}(F:Fun K x qual a fa fd)(c:FnScope N ps<|jG a)(hn:ps.length=1)(d:N.length=1)
  (e:Ki ⟨K,cl⟩ te 0 L)
  (b:∀ cdv A outer s H E,Room k (A.deeper<|envOfC qual (jG a) ↥s fa cdv) ->
   PSs (jeg CX0 P w K mg base N qual (jG a) fa cdv A outer s H E).nox (vT a) (jkf te)):∃ te,Ki ⟨K,cl⟩ te 0 L/\FnOk P w K mg base CX0 (k+1) fa fd ps (spX te 1):=by
 refine⟨te,e,F.ok c (λvs H Q E h=>by rw[h.1,hn]) λcdv A outer s H vs Q E f h=>⟨_,b cdv A outer s H E f,?_⟩⟩;unfold L2.start;rw[h.1,d];simpa [jkf] using h.2
def Kb(i:Nat)(p:PF):FS:=λρ=>(p ρ).bind λe=>(Jq e).bind λm=>(pV i ρ).bind λt=>(Jq t).bind λl=>bif lim (l.length+m.length) then some (.nx<|ρ.set i<|some<|.lst true<|l++m) else none
@[simp] def sExtO_e:Kb i p ρ=(p ρ).bind λe=>(Jq e).bind λm=>(pV i ρ).bind λt=>(Jq t).bind λl=>bif lim (l.length+m.length) then some (.nx<|ρ.set i<|some<|.lst true<|l++m) else none:=rfl
def jg7(h:PP R te p):DS R pm (qL<|tBM R.K "list" (xK R.K) (Jt i)<|vq te Jl) (Kb i p):=by
 intro σ ρ Z H O o w s e D' k;unfold Kb at e;cases e1:p ρ with
 | none=>rw[e1] at e;cases e
 | some d=>
 rw[e1,L3] at e;cases e2:Jq d with
 | none=>rw[e2] at e;cases e
 | some m=>
 rw[e2,L3] at e;cases Jg e2;cases e3:pV i ρ with
 | none=>rw[e3] at e;cases e
 | some t=>
 rw[e3,L3] at e;cases e4:Jq t with
 | none=>rw[e4] at e;cases e
 | some l=>
 rw[e4,L3] at e;cases Jg e4;have L:=VH e3;cases hlim:lim (l.length+m.length) with
 | false=>rw[hlim] at e;cases e
 | true=>
 rw[hlim] at e;cases e;obtain⟨A,P,B,rfl,V,W,_⟩:=s.put (L9.mp L).1;obtain⟨v,M,r⟩:=V _ L;obtain⟨a,vs,f,rfl,N,G,rfl⟩:=r;refine⟨.ref a,M,.inl ⟨rfl,vs,SqL.of G⟩,(h w.zd s e1 λ{u Q C P1} g X=>?_)⟩;obtain⟨b,n,y,rfl,S,Y,rfl⟩:=X;have I:C a=some (.lst vs):=by rw[g.same a<|by rw[G];exact λz=>(nomatch z)];exact G
 refine⟨a,b,vs,n,rfl,rfl,I,.inl<|SqL.of Y,by rw[N.length,S.length];exact qN hlim,?_⟩;have E:=g.widen w;have gC:=E.trans<|Go.put (o:=.lst<|vs++n) E.wf (show a∈b::y++(A++(a::f)++B) by simp);have nd:=E.wf.nd;have J:=List.nodup_iff_count.mp nd a;simp only[X7,List.count_cons,beq_self_eq_true,if_true] at J;have pos:∀{m:J9},a∈m->0<m.count a:=List.count_pos_iff.mpr;have j:∀ q,Q q->upd C a (.lst<|vs++n) q=C q:=λq c=>ji λz=>E.wf.nz a (by simp)<|z▸c;have nO:∀ q∈f,q≠a:=λq c z=>by subst z;have:=pos c;lia
 have nP:∀ q∈y,q≠a:=λq c z=>by subst z;have:=pos c;lia
 have nA:∀ q∈A,q≠a:=λq c z=>by subst z;have:=pos c;lia
 have nB:∀ q∈B,q≠a:=λq c z=>by subst z;have:=pos c;lia
 have rt:Rep R Q (upd C a<|.lst<|vs++n) (.lst true<|l++m) (.ref a) (a::(f++y)):=by
  exact⟨a,vs++n,f++y,rfl,((g.reps w.zd N).frame (λ_ z=>z) j (λq c=>ji<|nO q c)).append (S.frame (λ_ z=>z) j<|λq c=>ji<|nP q c),jV,rfl⟩
 have D:∀ x,x∈A++(a::f)++B->x≠a->upd C a (.lst<|vs++n) x=H x:=λx F hn=>(ji hn).trans (g.same x<|w.od x F);have T:=W rt g.zz (λx F=>(j x<|g.zz x F).trans (g.same x<|w.zd x F)) (λq c=>D q (by simp[c])<|nA q c)<|λq c=>D q (by simp[c])<|nB q c;rw[yH M] at T;have U:∀ q,(A++(a::(f++y))++B).count q<=(b::y++(A++(a::f)++B)).count q:=λq=>by
  simp only[X7,List.count_cons];lia
 exact k (gC.drop (uu U)<|Ve U nd) T<|Keep.refl _ _
def jho(g:QB cl X (.Name x xpos) (Jt i)<|pV i)(h:QP cl X e te pe)(b:attributeBase (.Name x xpos) "extend" X.env (eval (.Name x xpos) X.env)=eval (.Name x xpos) X.env:=by rfl)
  (d:((backTo cpos<|starEach [e] X.env).all (λx=>!x.1)&&(backToKw cpos<|keywordEach [] X.env).all (λx=>x.1.isSome)
   && decide ([e].length+([]:List Keyword).length+(if([]:List Keyword).isEmpty then 0 else 1)<30))=true:=by rfl)
  (c:(apos.endLine==cpos.line)=true:=by rfl) (f:starEach [e] X.env=(false,eval e X.env)::starEach [] X.env:=by rfl) (a:(backTo cpos<|starEach [] X.env).any (·.1)=false:=by rfl)
  (hsw:swapsWith (.Call (.Attribute (.Name x xpos) "extend" apos) [e] [] cpos) none pos.line X.env=pure false:=by rfl):
  QS cl pm X (.Expr (.Call (.Attribute (.Name x xpos) "extend" apos) [e] [] cpos) pos) (qL<|tBM X.K "list" (xK X.K) (Jt i)<|vq te Jl) (Kb i pe):=
 ⟨JX (wX PySem.F.plainAttrs_list PySem.F.slot_list_extend PySem.F.type_list_extend wx g.sem (vy h.sem JC f) b d c f a) hsw,jg7 h.den⟩
section
variable {R:RC}{Z Z' Z2:Zn}{H H' H2:Hp}{pm:List Nat}
def jb2(rd:Rep R Z H d v P)(a)  (r:Reps R Z H l vs O) (hl:ks.length=l.length) (hn:a∉ks):
  Reps R Z H (V7 ks l a d).2 (vs++[v]) (O++P)/\(((V7 ks l a d).1).map kaV).zip (vs++[v])=xF ((ks.map kaV).zip vs) (kaV a) v/\(V7 ks l a d).1.length=(V7 ks l a d).2.length:=by
 have b:ks.length=vs.length:=by rw[r.length];exact hl
 unfold V7 xF;rw[ua a b,if_neg hn,E1 hn,if_neg<|λz=>(nomatch z)];refine⟨r.append<|Reps.one rd,?_,by simp[hl]⟩;rw[N7,List.zip_append ⇑b];rfl
def YY(i:Nat)(L:Ln)(pk pv:PF)(ρ:Rh):Option Out:=(pv ρ).bind λd=>(pV i ρ).bind λt=>(L t).bind λy=>(jiE y.1).bind λkl=>(pk ρ).bind λq=>(kS q).bind λa=>bif lim kl.1.length&&(frz d||!decide (a∈kl.1)) then some (.nx<|ρ.set i<|some<|y.2<|.dK true (V7 kl.1 kl.2 a d).1 (V7 kl.1 kl.2 a d).2) else none
def jec{i}{L}{tb ty tv}{pk pv}(C:Ki R tb i L)(D:PB R ty pk)(E:PP R tv pv):DS R pm (jhD tb ty tv) (YY i L pk pv):=by
 intro σ ρ Z H O o w s e D' k;refine ob e λd F e=>ob e λt G e=>ob e λ⟨y,k0⟩ e3 e=>ob e λ⟨ks,l⟩ I e=>ob e λq J e=>ob e λc K e=>oc e λv e=>?_;cases e;cases jiB I;rw[M0] at v;refine E w.zd s F λ{u Z1 H1 M} g x=>?_;have A:=g.slots w.zd s;have B:=g.widen w;refine Kx C B.wf A G e3 ji8 λa _ vs N P h Q S put=>S<|D g.wf.zd A J λ{z T U P2} r V=>?_;obtain⟨rfl,_⟩:=qM K V;have j:=r.rep g.wf.zd x;have m:=r.reps g.wf.zd P;have key:∃ b n,Reps R T U (V7 ks l c d).2 b n/\(((V7 ks l c d).1).map kaV).zip b=xF ((ks.map kaV).zip vs) (kaV c) u/\(∀ q,n.count q<=N.count q+M.count q)/\(V7 ks l c d).1.length=(V7 ks l c d).2.length:=by
  cases hf:frz d with
  | true=>
   cases x.nil hf;obtain⟨b,n,p,e6,W,f⟩:=jdY j c m h;exact⟨b,n,p,e6,⇑W.count_le,f⟩
  | false=>
   have X:c∉ks:=by
    have:=v.2;rw[hf] at this;simpa using this
   obtain⟨p,e6,f⟩:=jb2 j c m h X;exact⟨_,_,p,e6,λq=>by rw[X7];exact M9 _,f⟩
 obtain⟨b,n,p,e6,cn,f⟩:=key;obtain⟨O3,g3,Y⟩:=put ji8 f r p ⇑cn;refine⟨a,_,rfl,DPut.k (r.at0 Q)<|jiv v.1,?_⟩;rw[<- e6];exact k (B.trans g3) Y<|Keep.refl _ _
end
section
variable {cl:Nat->Addr}{pm:List Nat}{X:Cx}{o b e:Expr}{to tb te:TE}{po pb pe:PF}{pos p fp tpos:Pos}{k i:Nat}{L:Ln}
def jeh(d:Room k X.A)(hl:QL cl X o to i L)(a:QB cl X b tb pb)(c:QP cl X e te pe)(f:swapsWith e (some<|.Subscript o b pos') pos.line X.env=pure false:=by rfl):
  QS cl pm X (.Assign [.Subscript o b pos'] e pos) (jhD to tb te) (YY i L pb pe):=⟨jhj (jlt d) hl.sem a.sem c.sem f,jec hl.den a.den c.den⟩
end
namespace QK
def fld{K}{cl}{X}{o}{to}{po}{pos}{c}{f}(a:X.K=K)(b:Cls X.K<|cl c)(d:NoAttr X.K (cl c) f)(e:QB cl X o to po)(g:attributeBase o f X.env (eval o X.env)=eval o X.env:=by rfl):QB cl X (.Attribute o f pos) (jiK K to f) (vp c f po):=by subst a;exact jd3 b d e g
def meth{K}{cl}{X}{o e}{es}{to}{po}{tr}{pr}{pos apos}{k n c}{ps}{m}{a qual}{st}{pl}(g:X.K=K)(h:Cls X.K<|cl c)(O:OkM X.prog X.w X.K X.mg (cl c) a qual st k ps<|spP ⟨X.K,cl⟩ m n)(i:Room k X.A)(j:QB cl X o to po)(l:QBs cl X (e::es) tr pr)(hn:(e::es).length+1=n:=by rfl)
  (b:SEq X e es:=by rfl) (d:BkE X pos es:=by rfl)
  (p:eval (.Call (.Attribute o a apos) (e::es) [] pos) X.env=(do
   let ov <- eval o X.env
   standAt apos.atName
   let (f,first) <- holding [ov] (getMethod ov a pl)
   callWith pos f first (backTo pos<|starEach (e::es) X.env) (backToKw pos<|keywordEach [] X.env)):=by rfl):
  QP cl X (.Call (.Attribute o a apos) (e::es) [] pos) (Y5 (cl c) a (spP ⟨K,cl⟩ m n) [] E0 to tr) (vG m c a po pr):=by subst g;exact jfE h O i j l hn b d p
end QK
section
variable {cl:Nat->Addr}{pm:List Nat}{X:Cx}{o e:Expr}{es:List Expr}{to te:TE}{po pe:PF}{tr:TA}{pr:PAf}{pos p:Pos}{i:Nat}{L:Ln}
def jmU(e:Room k X.A)(c:QB cl X a ta pa)(d:QB cl X b tb pb)(f:behindInMarks .In b=false:=by with_unfolding_all rfl):QP cl X (.Compare a [.In] [b] pos) (jma ta tb) (p2 (jc1 false) pa pb):=
 ⟨jlv (jk1 (jlt e) c.sem d.sem) f,jjq c.den d.den⟩
end
section
variable {R:RC}{Z Z':Zn}{H H':Hp}{pm:List Nat}
def PK(R:RC)(te:TE)(pk:Rh->Option (List KA))(pv:PF):Prop:=∀{σ}{ρ}{Z}{H}{O}{c}{d},Zd Z H->Slots R Z H ρ σ O->pk ρ=some c->pv ρ=some d->frz d=true ->
 ∀{Q},(∀{t b}{u}{Z'}{H'},Go Z H [] Z' H' []->Z' t->Z' b->H' t=some (.tup [.ref b,u])->H' b=some (.tup<|(c.map kaV).map kV)->Rep R Z' H' d u []->Q (.ref t) H')->te σ H Q
def jgf(g:D->Rh->Option Rh)(q:PTf)(pk:Rh->Option (List KA))(pv:PF):List D->Rh->Option (List<|List KA×D)
 | [],_=>some []
 | x::xs,ρ=>(g x ρ).bind λρ1=>(q ρ1).bind λb=>bif b then(pk ρ1).bind λc=>(pv ρ1).bind λd=>bif frz d then(jgf g q pk pv xs ρ1).bind λr=>some ((c,d)::r) else none else jgf g q pk pv xs ρ1
def jjs(ps:List<|List KA×D):List (List KA)×List D:=ps.foldl (λacc kv=>jmm acc.1 acc.2 kv.1 kv.2) ([],[])
@[simp] def pDictP(pi:PAf)(g:D->Rh->Option Rh)(q:PTf)(pk:Rh->Option (List KA))(pv:PF)(ix:List<|Option Nat)(ρ:Rh):Option D:=(pi ρ).bind λxs=>bif lim xs.length then(jgf g q pk pv xs<|jp ix ρ).bind λall=>some (.dT true (jjs all).1 (jjs all).2) else none
end
section
variable {cl:Nat->Addr}{pm:List Nat}{X:Cx}{tg iter elt:Expr}{ifs:List Expr}{wi:TI}{pi:PAf}{t:TG}{g:D->Rh->Option Rh}{te:TE}{pk:Rh->Option (List KA)}{pv:PF}{pos cpos p:Pos}
structure QKv(cl:Nat->Addr)(X:Cx)(e:Expr)(te:TE)(pk:Rh->Option (List KA))(pv:PF):Prop where
 sem:PE X e te
 den:PK ⟨X.K,cl⟩ te pk pv
end
end QD
namespace L2
open PySem PySem.Spec PyProof.Rows
end L2
namespace QD
open PySem L2 PySem.Spec PyProof.Rows
noncomputable def two2:List KA->Option (KA×KA)
 | [a,b]=>some (a,b)
 | _=>none
def jgd(q:KA->KA->Int->Option Bool)(el:KA->KA->Int->D):List (List KA)->List D->Option (List D)
 | [],[]=>some []
 | k::ks,d::l=>(two2 k).bind λp=>(Jp d).bind λn=>(q p.1 p.2 n).bind λt=>(jgd q el ks l).bind λr=>some<|bif t then el p.1 p.2 n::r else r
 | _,_=>none
section
variable {R:RC}{tc:TT}{te ts:TE}{q:KA->KA->Int->Option Bool}{el:KA->KA->Int->D}
@[simp] def jmr(fe:FE)(q:KA->KA->Int->Option Bool)(el:KA->KA->Int->D)(ρ:Rh):Option (D×Rh):=(fe ρ).bind λt=>(jl0 t.1).bind λp=>bif lim p.1.length then(jgd q el p.1 p.2).bind λr=>some (.lst true r,t.2) else none
@[simp] def dPos(i:Nat)(ρ:Rh):Option (D×Rh):=jmr (dMv i) (λ_ _ n=>some<|decide<|0<n) (λa b n=>.tup [kaD a,kaD b,.int n]) ρ
end
@[simp] def dMv3(i:Nat)(c:Nat)(f:Str)(g:Str)(pe:PF)(ρ:Rh):Option (D×Rh):=(pV i ρ).bind λt=>(zM t).bind λy=>bif y.1==c&&!decide (f=g) then(YJ y.2.1 y.2.2 f).bind λa=>(YJ y.2.1 y.2.2 g).bind λb=>(pe ρ).bind λr=>some (.tup [a,r,b],ρ.set i none) else none
end QD
namespace QD
open PySem L2
end QD
namespace L2
open PySem PySem.Spec PyProof.Rows
end L2
namespace QD
open PySem L2 PySem.Spec PyProof.Rows
mutual
noncomputable def pln:D->Bool
 | .tup l=>jlZ l
 | .non=>true | .bl _=>true | .int _=>true | .str _=>true
 | .lst _ _=>false | .dK _ _ _=>false | .dT _ _ _=>false | .ins _ _ _ _=>false | .dead=>false | .tok _=>false | .kt _=>false | .exc _ _=>false
noncomputable def jlZ:List D->Bool
 | []=>true
 | d::l=>pln d&&jlZ l
end
mutual
theorem Rep.cutA{a:Addr}(ha:∀ vs,¬ Rd H a (.tup vs))(hH:∀ b,b≠a->H' b=H b):∀{d:D}{v:V}{O:J9},pln d=true->Rep R Z H d v O->Rep R (λb=>Z b/\b≠a) H' d v O
 | .non,_,_,_,r=>by rw[Rep] at r ⊢;exact r
 | .bl _,_,_,_,r=>by rw[Rep] at r ⊢;exact r
 | .int _,_,_,_,r=>by rw[Rep] at r ⊢;exact r
 | .str _,_,_,_,r=>by rw[Rep] at r ⊢;exact r
 | .tup l,_,_,h,r=>by
  rw[pln] at h;rw[Rep] at r ⊢;obtain⟨p,vs,e,t,r⟩:=r;refine⟨p,vs,e,?_,Reps.cutA ha hH h r⟩;rcases t with⟨z,t⟩ | t
  ·have ne:p≠a:=λq=>ha vs<|q▸t;exact .inl ⟨⟨z,ne⟩,Rd.agree (hH p ne) t⟩
  ·exact .inr t
 | .lst _ _,_,_,h,_=>by rw[pln] at h;cases h
 | .dK _ _ _,_,_,h,_=>by rw[pln] at h;cases h
 | .dT _ _ _,_,_,h,_=>by rw[pln] at h;cases h
 | .ins _ _ _ _,_,_,h,_=>by rw[pln] at h;cases h
 | .dead,_,_,h,_=>by rw[pln] at h;cases h
 | .tok _,_,_,h,_=>by rw[pln] at h;cases h
 | .kt _,_,_,h,_=>by rw[pln] at h;cases h
 | .exc _ _,_,_,h,_=>by rw[pln] at h;cases h
theorem Reps.cutA{a:Addr}(ha:∀ vs,¬ Rd H a (.tup vs))(hH:∀ b,b≠a->H' b=H b):∀{l:List D}{vs:List V}{O:J9},jlZ l=true->Reps R Z H l vs O->Reps R (λb=>Z b/\b≠a) H' l vs O
 | [],_,_,_,r=>by rw[Reps] at r ⊢;exact r
 | d::l,_,_,h,r=>by
  rw[jlZ,M0] at h;rw[Reps] at r ⊢;obtain⟨v,vs',O1,O2,e1,e2,r1,r2⟩:=r;exact⟨v,vs',O1,O2,e1,e2,Rep.cutA ha hH h.1 r1,Reps.cutA ha hH h.2 r2⟩
end
def joj(K:J4)(mg:K6)(x:Str)(st:Stmt)(ps:List Str):Prop:=∃ f fd,FnFact K mg x x st f fd ps
def joo(K:J4)(C:Addr)(x qual:Str)(st:Stmt)(ps:List Str):Prop:=∃ f fd,MtFact K C x qual st f fd ps
section
variable {K:J4}{mg:K6}{h:Heap}{x qual:Str}{st:Stmt}{ps:List Str}{a C:Addr}{od an:Option Addr}{sl:Array (Option Value)}{oc kV dc pm cd ct:Value}
def hasF(X:K.In h)(G:h.Ns mainGlobals mg)(c:PySem.W.nsIn K mainGlobals x=some (some<|.ref a))(e2:K.lookup a=some ⟨oc,od,.func<|PySem.W.fnOf x x (qv st) (vT st) (jG st) .none kV dc pm an cd ct,sl⟩)(e3:PySem.W.codeIn K cd x=true)(b:PySem.W.keepIn K (.ref a)=true)
  (d:∀ kV doc pm an cdv ct us,us.length=ps.length->bindArgs (PySem.W.fnOf x x (qv st) (vT st) (jG st) .none kV doc pm an cdv ct) ⟨us,[]⟩=pure (ps.zip us)):joj K mg x st ps:=⟨_,_,ui e2 e3 b,PySem.W.mg_of X G c,(ui e2 e3 b).binds d⟩
def hasM(c:PySem.W.findIn K (.ref C) x=some (some<|.ref a))(d:PySem.W.isFn K (.ref a)=true)(e2:K.lookup a=some ⟨oc,od,.func<|PySem.W.fnOf x qual (qv st) (vT st) (jG st) .none kV dc pm an cd ct,sl⟩)(e3:PySem.W.codeIn K cd qual=true)(b:PySem.W.keepIn K (.ref a)=true)
  (e:∀ kV doc pm an cdv ct us,us.length=ps.length->bindArgs (PySem.W.fnOf x qual (qv st) (vT st) (jG st) .none kV doc pm an cdv ct) ⟨us,[]⟩=pure (ps.zip us)):joo K C x qual st ps:=⟨_,_,ui e2 e3 b,⟨c,d,b⟩,(ui e2 e3 b).binds e⟩
end
def fsc{N ps}{h}(a:h.kind=.function:=by rfl)(b:h.isCoroutine=false:=by rfl)(c:h.isGenerator=false:=by rfl)(d:N.Nodup:=by decide +kernel)(e:N.take ps.length=ps:=by rfl)
  (f:∀ x∈ps,h.names.lookup x=some .local\/h.names.lookup x=some .cell:=by decide +kernel) (g:∀ y∈h.names,y.2≠.free:=by decide +kernel):FnScope N ps h:=⟨a,b,c,d,e,f,g⟩
def kf(K:J4)(mg:K6)(x:Str)(st:Stmt)(N:List Str)(n:Nat):Prop:=FnScope N (N.take n) (jG st)/\joj K mg x st (N.take n)
def Q0(K:J4)(C:Addr)(x qual:Str)(st:Stmt)(N:List Str)(n:Nat):Prop:=FnScope N (N.take n) (jG st)/\joo K C x qual st (N.take n)
section
variable (P:Program)(w:World)(cl:Nat->Addr){K:J4}{mg:K6}{C:Addr}{x qual:Str}{st:Stmt}{N:List Str}{n:Nat}
abbrev NP(_:kf K mg x st N n)(k:Nat)(m:List D->Option D):Prop:=OkF P w K mg x st k (N.take n)<|spP ⟨K,cl⟩ m n
abbrev OP(mg:K6)(_:Q0 K C x qual st N n)(k:Nat)(m:List D->Option D):Prop:=OkM P w K mg C x qual st k (N.take n)<|spP ⟨K,cl⟩ m n
abbrev OM(mg:K6)(_:Q0 K C x qual st N n)(k:Nat)(m:List D->Option (D×D)):Prop:=OkM P w K mg C x qual st k (N.take n)<|spM ⟨K,cl⟩ m n 0
end
section
variable {P:Program}{w:World}{k:Nat}{sp:Sp}{K:J4}{mg:K6}{C:Addr}{x qual:Str}{st:Stmt}{N:List Str}{n:Nat}
def okN(h:kf K mg x st N n)(g:∀ f fd,FnScope N (N.take n) (jG st)->FnFact K mg x x st f fd (N.take n)->∀ base,FnOk P w K mg base CX0 k f fd (N.take n) sp):OkF P w K mg x st k (N.take n) sp:=by
 obtain⟨S,f,fd,F⟩:=h;exact⟨f,fd,F,g f fd S F⟩
def okO(h:Q0 K C x qual st N n)(g:∀ f fd,FnScope N (N.take n) (jG st)->MtFact K C x qual st f fd (N.take n)->∀ base,FnOk P w K mg base CX0 k f fd (N.take n) sp):OkM P w K mg C x qual st k (N.take n) sp:=by
 obtain⟨S,f,fd,F⟩:=h;exact⟨f,fd,F,g f fd S F⟩
end
def u0{α:Type}{P:List α->Prop}(h:P []):∀ us:List α,us.length=0->P us
 | [],_=>h
def uS{α:Type}{P:List α->Prop}{n}(h:∀ a,∀ us:List α,us.length=n->P (a::us)):∀ us:List α,us.length=n+1->P us
 | a::us,e=>h a us<|Nat.succ.inj e
def jph{a b}(h:a)(k:a->b):a/\b:=⟨h,k h⟩
section
variable {cl:Nat->Addr}{X:Cx}{pos:Pos}{x:Str}{scope:Scope}{N':List Str}{i:Nat}
def qS{j}{l}(h:x=S l:=by decide +kernel):QP cl X (.Constant (.str x) j pos) (tC<|.str x) (pS l):=jmh l h
def qI{i}{j}:QB cl X (.Constant (.int i) j pos) (tC<|.int i) (pI i):=QP.bb jly
end
end QD
namespace L2
open PySem PySem.Spec PyProof.Rows
end L2
namespace QD
open PySem L2 PySem.Spec PyProof.Rows
def QM:D->Option D
 | .lst _ l=>(Jr l).bind λws=>bif decide (ws.length<=1000) then some (.int ((Yy [] ws).length:Nat)) else none
 | _=>none
@[simp] def jby(o)(l):QM (.lst o l)=(Jr l).bind λws=>bif decide (ws.length<=1000) then some (.int ((Yy [] ws).length:Nat)) else none:=rfl
def Qj(p:PF):PF:=λρ=>(p ρ).bind QM
@[simp] def pLenSet_e:Qj p ρ=(p ρ).bind QM:=rfl
def jbC(h:PB R te p):PP R (wb R.K te) (Qj p):=by
 intro σ ρ Z H O d z s e Q k;refine ob e λx c e=>?_;cases x with
 | lst o l=>
  refine ob e λb e2 e=>oc e λf e=>?_;cases e;refine h z s c λ{v n q P} g r=>?_;obtain⟨a,vs,t,rfl,i,j⟩:=r.lst_of;have:=QA e2 j;subst this;refine⟨a,b.map S,rfl,i.sq,by rw[L0];exact E2 f,?_⟩;have m:(Yy []<|b.map S).length=(Yy [] b).length:=Vi (λ_ _ e=>jgi e) b [];rw[m];exact k g .int_mk
 | _=>cases e
def jfb{cl}{X}{a}{ta}{pa}{pos p p2 pos2}(j:X.calm=true)(k:X.mg "len" = none)(d:X.mg "set" = none)(i:QB cl X a ta pa)(l:Gl X "len":=by rfl)(e:Gl X "set":=by rfl)
  (m:starEach [.Call (.Name "set" p2) [a] [] pos2] X.env=(false,eval (.Call (.Name "set" p2) [a] [] pos2) X.env)::starEach [] X.env:=by rfl)
  (f:(backTo pos<|starEach [] X.env).any (·.1)=false:=by rfl)
  (g:backTo pos (starEach [.Call (.Name "set" p2) [a] [] pos2] X.env)=[(false,eval (.Call (.Name "set" p2) [a] [] pos2) X.env)]:=by rfl)
  (h:starEach [a] X.env=(false,eval a X.env)::starEach [] X.env:=by rfl) (b:(backTo pos2<|starEach [] X.env).any (·.1)=false:=by rfl)
  (c:backTo pos2 (starEach [a] X.env)=[(false,eval a X.env)]:=by rfl):
  QP cl X (.Call (.Name "len" p) [.Call (.Name "set" p2) [a] [] pos2] [] pos) (wb X.K ta) (Qj pa):=⟨jc5 j l k e d i.sem m f g h b c,jbC i.den⟩
noncomputable def blN(N:List Str):List (Option Nat)->List Str->List Str
 | [],_=>[]
 | none::l,xs=>xs.headD ""::blN N l xs.tail
 | some j::l,xs=>N.getD j ""::blN N l xs
noncomputable def jod(sc:Scope):List Str:=(sc.names.filter λy=>decide (y.2=.local)||decide (y.2=.cell)).tail.map (·.1)
def bkN(_:FnScope N ps sc)  (h1:X.env.scope=sc:=by rfl) (h2:X.N=N:=by rfl) (h:Qw sc N scope (blN N ix<|jod scope) ix=true:=by decide +kernel):BlockOk X scope (blN N ix<|jod scope) ix:=jgn sc N h1 h2 h
def jmg{p:PAf}{n}(h:∀ ρ ds,p ρ=some ds->ds.length=n):∀ ρ ds,p ρ=some ds->ds.length+1=n+1:=λρ ds e=>by rw[h ρ ds e]
def ndN(h:N'.Nodup):(y3 X scope N' C s H fp).N.Nodup:=h
section
open Classical in
noncomputable def uni(F:Addr->Option Out):Option Out:=if h:∃ o,∀ a,F a=some o then some h.choose else none
def jk3(h:uni F=some o)(a:Addr):F a=some o:=by
 unfold uni at h;split at h
 ·rename_i q;rw[<- h];exact q.choose_spec a
 ·cases h
def jji(h:∀ a,F a=some o):uni F=some o:=by
 have q:∃ o,∀ a,F a=some o:=⟨o,h⟩;unfold uni;rw[dif_pos q];exact(q.choose_spec 0).symm.trans (h 0)
noncomputable def jjh:D->Option Addr
 | .tok a=>some a
 | _=>none
def jdA(h:jjh d=some a):d=.tok a:=by
 cases d with
 | tok b=>cases h;rfl
 | _=>cases h
end
def okR{P:Program}{w:World}{K:J4}{mg:K6}{cl:Nat->Addr}{x:Str}{st:Stmt}{N:List Str}{n:Nat}{r:Nat->List D->Option D}(h:kf K mg x st N n)(a:∀ ds,r 0 ds=none)
  (g:∀ j f fd,FnScope N (N.take n) (jG st)->FnFact K mg x x st f fd (N.take n)->OkF P w K mg x st j (N.take n) (spP ⟨K,cl⟩ (r j) n)->∀ base,FnOk P w K mg base CX0 (j+1) f fd (N.take n)<|spP ⟨K,cl⟩ (r<|j+1) n) (k:Nat):OkF P w K mg x st k (N.take n) (spP ⟨K,cl⟩ (r k) n):=by
 obtain⟨S,f,fd,F⟩:=h;refine⟨f,fd,F,?_⟩
 induction k with
 | zero=>exact λbase=>by rw[show r 0=λ_=>none from funext a];exact jgp
 | succ j b=>exact g j f fd S F ⟨f,fd,F,b⟩
end QD
namespace QD
open PySem L2
def jeD(c:X.K=K)(O:OkF X.prog X.w X.K X.mg x st k ps<|spM ⟨X.K,cl⟩ m n j)(d:Room k X.A)
  (f:QJ cl X i j (e::es) tr pr) (hn:(e::es).length=n:=by rfl) (g:Gl X x:=by rfl) (a:Nd x:=by decide)
  (h:SEq X e es:=by rfl) (b:BkE X pos es:=by rfl):QE cl X (.Call (.Name x p) (e::es) [] pos) (JH (spM ⟨K,cl⟩ m n j) [] E0 tr) (yu m i j pr):=by
 subst c;obtain⟨_,_,F,G⟩:=O;exact jid F (G _) d f hn g a h b
abbrev NJ(P:Program)(w:World)(cl:Nat->Addr){K}{mg}{x}{st}{N}{n}(_:kf K mg x st N n)(k:Nat)(j:Nat)(m:List D->Option (D×D)):Prop:=OkF P w K mg x st k (N.take n)<|spM ⟨K,cl⟩ m n j
@[simp] def dKey(pk:Rh->Option (List KA))(ρ:Rh):Option (D×Rh):=(pk ρ).bind λk=>some (.kt k,ρ)
def jeN(b:X.K=K)(O:OkF X.prog X.w X.K X.mg x st k ps<|spP ⟨X.K,cl⟩ m n)(c:Room k X.A)(hn:0=n:=by rfl)(d:Gl X x:=by rfl)(a:Nd x:=by decide):QP cl X (.Call (.Name x p) [] [] pos) (JH (spP ⟨K,cl⟩ m n) [] E0 Jl) (jK m pN):=by
 subst b;obtain⟨_,_,F,G⟩:=O;exact jic F (G _) c hn d a
def jd7(c:X.K=K)(O:OkF X.prog X.w X.K X.mg x st k ps<|spP ⟨X.K,cl⟩ m n)(d:Room k X.A)
  (f:QDs cl X (e::es) tr fr) (hl:∀ ρ r,fr ρ=some r->r.1.length=n) (g:Gl X x:=by rfl) (a:Nd x:=by decide)
  (h:SEq X e es:=by rfl) (b:BkE X pos es:=by rfl):QE cl X (.Call (.Name x p) (e::es) [] pos) (JH (spP ⟨K,cl⟩ m n) [] E0 tr) (kj m fr):=by
 subst c;obtain⟨_,_,F,G⟩:=O;exact jf6 rfl F (G _) d f hl g a h b
end QD
namespace QD
open PySem L2 PySem.Spec PyProof.Rows
noncomputable def sqD:D->Option (Bool×List D)
 | .lst _ l=>some (true,l)
 | .tup l=>some (false,l)
 | _=>none
def jlK:List D->Option (List<|Bool×List D)
 | []=>some []
 | d::ds=>(sqD d).bind λx=>(jlK ds).bind λxs=>some<|x::xs
def FB(R:RC)(Z:Zn)(H:Hp)(a:Addr):Bool->List V->Prop
 | true,w=>FL R Z H a w
 | false,w=>FT R Z H a w
def FB.frame(hz:∀ a,Z a->Z' a)(b:∀ a,Z a->H' a=H a)(h:FB R Z H a k w):FB R Z' H' a k w:=by
 cases k with
 | true=>exact FL.frame hz b h
 | false=>exact FT.frame hz b h
def FB.sq(h:FB R Z H a k w):SqB R.K H a k w:=by
 cases k with
 | true=>exact FL.sq h
 | false=>exact FT.sq h
def jgg(e:sqD d=some x)(r:Rep R Z H (fz d) v []):Ex2 λa w=>An3 (v=.ref a) (FB R Z H a x.1 w) (Reps R Z H (fzs x.2) w []):=by
 cases d with
 | lst o l=>
  cases e;obtain⟨a,w,g,rfl,b,c,rfl,_⟩:=r;exact⟨a,w,rfl,c,b⟩
 | tup l=>
  cases e;obtain⟨a,w,rfl,f,b⟩:=r;exact⟨a,w,rfl,f,b⟩
 | _=>cases e
structure Zr where
 a:Addr
 k:Bool
 w:List V
 l:List D
theorem u8:∀{ds}{xs}{vs},jlK ds=some xs->Reps R Z H (fzs ds) vs []->∃(zs:List Zr),An3 (zs.map (λz=>(z.k,z.l))=xs) (vs=zs.map (λz=>.ref z.a))<|∀ z∈zs,FB R Z H z.a z.k z.w/\Reps R Z H (fzs z.l) z.w []
 | [],xs,vs,e,r=>by
  cases e;exact⟨[],rfl,r.1,by simp⟩
 | d::ds,xs,vs,e,r=>by
  refine ob e λx b e=>ob e λp e2 e=>?_;cases e;obtain⟨v,c,s,t,rfl,f,g,h⟩:=r;obtain⟨rfl,rfl⟩:=List.append_eq_nil_iff.mp f.symm;obtain⟨a,w,rfl,i,j⟩:=jgg b g;obtain⟨zs,m,rfl,n⟩:=u8 e2 h;exact⟨⟨a,x.1,w,x.2⟩::zs,by rw[L4,m],rfl,λz o=>(M4.mp o).elim (λq=>by rw[q];exact⟨i,j⟩) (n z)⟩
theorem uD:∀{zs:List Zr}{us},us.length=zs.length->(∀(m:Nat) q,zs[m]?=some q->∃ u,us[m]?=some u/\Rep R Z H (g q) u [])->Reps R Z H (zs.map g) us []
 | [],[],_,_=>Reps.empty
 | [],_::_,h,_=>by simp at h
 | _::_,[],h,_=>by simp at h
 | q::zs,u::us,h,k=>by
  obtain⟨a,e,r⟩:=k 0 q rfl;cases e;exact Reps.cons r (uD ⇑h λm q e=>by have:=k (m+1) q ⇑e;simpa using this)
noncomputable def jon(ls:List<|List D)(i:Nat):D:=.tup<|ls.map λl=>l.getD i .non
def jiH(m:Nat)(ds:List D):Option (List D):=(jlK ds).bind λxs=>bif decide (xs.length=m)&&(decide (0<m)&&xs.all λx=>decide<|(xs.headD (true,[])).2.length<=x.2.length) then some ((List.range (xs.headD (true,[])).2.length).map (jon<|xs.map λx=>fzs x.2)) else none
@[simp] def pZN(m:Nat)(p:PAf)(ρ:Rh):Option (List D):=(p ρ).bind (jiH m)
def jla(h:PPs R ta p):PIt R (iZN R.K m ta) (pZN m p):=by
 intro σ ρ Z H O xs z s e Q k;refine ob e λds I e=>ob e λj e2 e=>oc e λn e=>?_;cases e;rw[M0,M0,List.all_eq_true] at n;have h0:=E2 n.2.1;refine h z s I λ{vs J H1 L} M N=>?_;obtain⟨d,o,rfl,t⟩:=u8 e2<|N.freeze (Z':=λa=>J a\/a∈L) (λa z=>.inl z) λa z=>.inr z;have C:d.length=j.length:=by rw[<- o,L0]
 refine⟨d.map λz=>(z.a,z.k),by rw[L0,C,E2 n.1],by rw[U8];rfl,λa f=>?_,k M.fz ?_⟩
 ·obtain⟨q,b,rfl⟩:=M5.mp f;exact⟨q.w,(t q b).1.sq⟩
 intro D v g E zd i;have fr:∀ q∈d,SqB R.K v q.a q.k q.w/\Reps R D v (fzs q.l) q.w []:=λq b=>⟨((t q b).1.frame g E).sq,(t q b).2.frame g E λa f=>(nomatch f)⟩;refine⟨λy=>?_,λx r=>?_⟩
 ·cases d with
  | nil=>simp at C;lia
  | cons q d=>
   refine⟨_,_,q.w,rfl,(fr q<|by simp).1,?_⟩;rw[L0,List.length_range] at y;rw[(fr q<|by simp).2.length,Ys];rw[<- o] at y;exact y
 ·rw[List.getElem?_map] at r;obtain⟨c,F,rfl⟩:=Option.map_eq_some_iff.mp r;have P:i<(j.headD (true,[])).2.length:=by have:=(L9.mp F).1;simpa using this
  have:c=i:=by have:=(L9.mp F).2;simpa using this.symm
  subst this;have get:∀ q∈d,∃ u,q.w[c]?=some u/\Rep R D v ((fzs q.l).getD c .non) u []:=λq b=>by
   have l1:c<(fzs q.l).length:=by
    rw[Ys];have:(j.headD (true,[])).2.length<=q.l.length:=(λx r=>E2<|n.2.2 x r) (q.k,q.l) (by rw[<- o];exact M5.mpr ⟨q,b,rfl⟩)
    lia
   have e3:(fzs q.l)[c]?=some ((fzs q.l).getD c .non):=by rw[List.getD_eq_getElem?_getD,E5 l1];rfl
   exact(fr q b).2.item e3
  refine⟨λa f=>?_,λu H3 S=>?_⟩
  ·obtain⟨q,b,rfl⟩:=M5.mp f;obtain⟨u,A,_⟩:=get q b;exact⟨q.w,u,(fr q b).1,A⟩
  ·obtain⟨pp,us,T,A,rfl,G,rfl⟩:=S;refine⟨_,Go.newF (wf0 zd) G,Rep.tupNew (wf0 zd) G ?_⟩;have U:(j.map λx=>fzs x.2).map (λl=>l.getD c .non)=d.map λq=>(fzs q.l).getD c .non:=by rw[<- o,U8,U8];rfl
   rw[U];refine uD (by rw[T,L0]) λm q B=>?_;obtain⟨u,V,W⟩:=A m (q.a,q.k) (by rw[List.getElem?_map,B];rfl) q.w (fr q<|List.mem_of_getElem? B).1;obtain⟨u',X,Y⟩:=get q<|List.mem_of_getElem? B;cases W.symm.trans X;exact⟨u,V,Y⟩
def jjv(d:X.mg "zip" = none)(h:QPs cl X [a,b] tr pr)(e:Gl X "zip":=by rfl)(f:starEach [a,b] X.env=[(false,eval a X.env),(false,eval b X.env)]:=by rfl)(c:starEach [b] X.env=[(false,eval b X.env)]:=by rfl):
  QI cl X (.Tuple elts n tpos) (.Call (.Name "zip" p) [a,b] [] pos) (iZN X.K 2 tr) (pZN 2 pr):=⟨jkB e d h.sem f c,jla h.den⟩
end QD
namespace QD
open PySem L2
theorem uN:∀{l m},l.length<=m.length->(List.range l.length).map (jon [l,m])=jaW l m
 | [],m,_=>by cases m<;>rfl
 | a::l,[],h=>by simp at h
 | a::l,b::m,h=>by
  rw[M2,List.range_succ_eq_map,L4,U8,jaW,<- uN ⇑h];rfl
def jnp(h1:sqD d=some (k,l))(h2:sqD e=some (k',m))(h:l.length<=m.length):jiH 2 [d,e]=some (jaW (fzs l)<|fzs m):=by
 have a:jlK [d,e]=some [(k,l),(k',m)]:=by simp[jlK,h1,h2]
 have e2:=uN (l:=fzs l) (m:=fzs m) (by rw[Ys,Ys];exact h);rw[Ys] at e2;unfold jiH;rw[a,L3,<- e2];simp[h]
end QD
namespace QD
open PySem L2 PySem.Spec PyProof.Rows
section
variable {R:RC}{Z Z':Zn}{H H':Hp}
@[simp] def pKy(pa pb:PF)(ρ:Rh):Option D:=(jl3 pa pb ρ).bind λk=>some<|.kt k
end
@[simp] def dCallA(m:List D->Option (D×D×D))(i0 i1:Nat)(j:Nat)(p:PAf)(ρ:Rh):Option (D×Rh):=bif decide (i0=i1) then none else(p ρ).bind λds=>(pV i0 ρ).bind λc0=>(pV i1 ρ).bind λc1=>(m<|ds.take j++c0::c1::ds.drop j).bind λr=>some (r.1,(ρ.set i0<|some r.2.1).set i1 (some r.2.2))
end QD
namespace L2
open PySem PySem.Spec PyProof.Rows
end L2
namespace QD
open PySem L2 PySem.Spec PyProof.Rows
@[simp] def dPosU(i:Nat)(q:KA->KA->Int->Option Bool)(el:KA->KA->Int->D)(ρ:Rh):Option (D×Rh):=(pV i ρ).bind λt=>(jl0 t).bind λp=>bif lim p.1.length then(jgd q el p.1 p.2).bind λr=>some (.lst true r,ρ) else none
@[simp] def pLM(g:D->List D->Option D)(pa:PF)(pr:PAf)(ρ:Rh):Option D:=(pa ρ).bind λx=>(jhb x).bind λ_=>(pr ρ).bind λxs=>g x xs
end QD
namespace PySem
open PySem.W PyProof.Rows PySem.Calls
end PySem
namespace QD
open PySem L2 PySem.Spec PyProof.Rows
end QD
namespace L2
open PySem PySem.Spec PyProof.Rows
end L2
namespace QD
open PySem L2 PySem.Spec PyProof.Rows
@[simp] def sPClr(i:Nat)(L:Ln)(ρ:Rh):Option Out:=(pV i ρ).bind λt=>(L t).bind λy=>(Jq y.1).bind λ_=>some<|.nx<|ρ.set i<|some<|y.2<|.lst true []
end QD
namespace L2
open PySem PySem.Spec PyProof.Rows
end L2
namespace QD
open PySem L2 PySem.Spec PyProof.Rows
@[simp] def pRvL(p:PAf)(ρ:Rh):Option (List D):=(p ρ).bind λl=>(jd8 l).bind λx=>(jhb x).bind λl=>some (fzs l).reverse
section
variable {R:RC}
@[simp] def jgu(i:Nat)(L:Ln)(p:PF)(ρ:Rh):Option Out:=(p ρ).bind λd=>(Y8 d).bind λm=>(pV i ρ).bind λt=>(L t).bind λy=>(Jq y.1).bind λl=>bif lim (l.length+m.length) then some (.nx<|ρ.set i<|some<|y.2<|.lst true<|l++m) else none
def jht{pm i tb te L p}(C:Ki R tb i L)(h:PB R te p):DS R pm (qL<|tBM R.K "list" (xK R.K) tb<|vq te Jl) (jgu i L p):=by
 intro σ ρ Z H O o w s e T k;refine ob e λd D e=>ob e λm e2 e=>ob e λt E e=>ob e λ⟨y,U⟩ F e=>ob e λl e3 e=>oc e λf e=>?_;cases e;cases Jg e3;unfold qL tBM;refine Kx (P0:=[]) C w s E F YU λa _ vs V x _ z G put=>G ⟨.inl ⟨rfl,vs,SqL.of z⟩,h w.zd s D λ{u I g W} j A=>?_⟩;have J:∃ b c,u=.ref b/\(SqL R.K g b c\/SqT R.K g b c)/\Reps R I g m c []:=by
  cases d with
  | lst X M=>
   refine oc e2 λn e2=>?_;cases e2;obtain⟨b,c,N,rfl,r,v⟩:=A.lst_of;exact⟨b,c,rfl,.inl r.sq,v.frozen n⟩
  | tup M=>
   refine oc e2 λn e2=>?_;cases e2;obtain⟨b,c,rfl,r,v⟩:=A.tup_of;exact⟨b,c,rfl,.inr r,v.frozen n⟩
  | _=>cases e2
 obtain⟨b,c,rfl,P,B⟩:=J;obtain⟨Y,Q,S⟩:=put YU trivial j ((j.reps w.zd x).append B) λq=>by simp
 exact⟨a,b,vs,c,rfl,rfl,j.at0 z,P,by rw[x.length,B.length];exact qN f,k Q S<|Keep.refl _ _⟩
def bkL(i x:Nat)(L:Ln)(a:Addr):Out->Option Out
 | .nx ρ2=>(pV x ρ2).bind λd=>(pV i ρ2).bind λt=>(L t).bind λy=>(jjh y.1).bind λb=>if b=a then some (.nx<|(ρ2.set x<|some .dead).set i (some<|y.2 d)) else none
 | _=>none
def wY(i x:Nat)(pm:List Nat)(L:Ln)(f:FS)(ρ:Rh):Option Out:=(pV i ρ).bind λt=>(L t).bind λy=>(zM y.1).bind λ_=>bif decide (x<ρ.length)&&(!decide (x∈pm)&&!decide (x=i)) then uni λa=>(f<|(ρ.set i<|some<|y.2<|.tok a).set x (some y.1)).bind (bkL i x L a) else none
def jh7{pm i x tb L tB K}(M:Ki R tb i L)(Y:DS R (x::pm) tB K):DS R pm (jjr (jdn tb<|Va x) tB) (wY i x pm L K):=by
 intro σ ρ Z H O o w s e D' k;refine ob e λt hi e=>ob e λ⟨y,k0⟩ e3 e=>ob e λ⟨c,ns,l⟩ e4 e=>oc e λN e=>?_;simp only[M0,decide_eq_true_eq,Bool.not_eq_true',decide_eq_false_iff_not] at N;obtain⟨C,D,E⟩:=N;cases Vb e4;have F:=VH hi;obtain⟨v,A,P,B,rfl,r,ht,kb⟩:=M s F e3;obtain⟨a,dx,vs,p,rfl,rs,hd,ea,rfl⟩:=ow_ins.mp r;refine ob (jk3 e a) λo1 e1 e=>?_;have s1:=kb (x':=.tok a) (P':=[]) (by rw[Rep];exact⟨rfl,rfl⟩) (λ_ z=>z) (λ_ _=>rfl) (λ_ _=>rfl)<|λ_ _=>rfl;obtain⟨Q,Px,S,eO,_,kk,_⟩:=s1.put (i:=x) (by rw[List.length_set];exact C);have s2:=kk r (λ_ z=>z) (λ_ _=>rfl) (λ_ _=>rfl)<|λ_ _=>rfl;have T:∀ q,(Q++(a::p)++S).count q<=(A++(a::p)++B).count q:=λq=>by
  have:=congrArg (List.count q) eO;simp only[X7,List.count_nil] at this ⊢
  lia
 have U:Go Z H (A++(a::p)++B) Z H (Q++(a::p)++S):=(Go.refl w).drop (uu T) (Ve T w.nd);refine ht<|Y U.wf s2 e1 ?_;have sl:=s.length;cases o1 with
 | nx ρ2=>
  intro σ' Z' H' O2 g s' kp;refine ob e λd f1 e=>ob e λt2 f2 e=>ob e λ⟨y2,k2⟩ f3 e=>ob e λb f4 u=>?_;by_cases G:b=a
  ·rw[if_pos G] at u;subst G;cases u;cases jdA f4;have f:σ'[x]?=some (some<|.ref b):=by rw[kp x<|by simp,List.getElem?_set,if_pos rfl,if_pos<|by rw[<- sl] at C;exact C]
   have h:=VH f1;obtain⟨A3,V,B3,rfl,m1,m2,_⟩:=s'.put (i:=x) (L9.mp h).1;obtain⟨v5,m,r5⟩:=m1 _ h;rw[f] at m;cases m;have W:=m2 (d':=.dead) (v':=.ref b) (P':=[]) (by rw[Rep]) (λ_ z=>z) (λ_ _=>rfl) (λ_ _=>rfl)<|λ_ _=>rfl;rw[yH f] at W;obtain⟨v2,A2,P2,B2,I,X,_,J⟩:=M W (by rw[List.getElem?_set,if_neg E];exact VH f2) f3;rw[Rep] at X;obtain⟨rfl,rfl⟩:=X;have s7:=J r5 (λ_ z=>z) (λ_ _=>rfl) (λ_ _=>rfl)<|λ_ _=>rfl;have n:∀ q,(A2++V++B2).count q<=(A3++V++B3).count q:=λq=>by
    have:=congrArg (List.count q) I;simp only[X7,List.count_nil] at this ⊢
    lia
   exact k ((U.trans g).drop (uu n) (Ve n g.wf.nd)) s7<|(Keep.set D).trans (kp.sub λj hj=>by simp[hj])
  ·rw[if_neg G] at u;cases u
 | _=>cases e
end
section
variable {cl:Nat->Addr}{X:Cx}{pm:List Nat}
def jg3{o tb i L e te pe apos cpos pos}(hl:QL cl X o tb i L)(h:QB cl X e te pe)(b:attributeBase o "extend" X.env (eval o X.env)=eval o X.env:=by rfl)
  (d:((backTo cpos<|starEach [e] X.env).all (λx=>!x.1)&&(backToKw cpos<|keywordEach [] X.env).all (λx=>x.1.isSome)
   && decide ([e].length+([]:List Keyword).length+(if([]:List Keyword).isEmpty then 0 else 1)<30))=true:=by rfl)
  (c:(apos.endLine==cpos.line)=true:=by rfl) (f:starEach [e] X.env=(false,eval e X.env)::starEach [] X.env:=by rfl) (a:(backTo cpos<|starEach [] X.env).any (·.1)=false:=by rfl)
  (hsw:swapsWith (.Call (.Attribute o "extend" apos) [e] [] cpos) none pos.line X.env=pure false:=by rfl):
  QS cl pm X (.Expr (.Call (.Attribute o "extend" apos) [e] [] cpos) pos) (qL<|tBM X.K "list" (xK X.K) tb<|vq te Jl) (jgu i L pe):=
 ⟨JX (wX PySem.F.plainAttrs_list PySem.F.slot_list_extend PySem.F.type_list_extend wx hl.sem (vy h.sem JC f) b d c f a) hsw,jht (R:=⟨X.K,cl⟩) hl.den h.den⟩
def jdr{e tb i x L b a apos B tu fe}(d:X.N.Nodup)(hl:QL cl X e tb i L)(c:QSs cl (x::pm) X B tu fe)
  (hi:X.N[x]?=some b:=by rfl) (f:Loc X.env.scope b:=by first | exact Or.inl rfl | exact Or.inr rfl)
  (g:swapsWith e (some<|.Name b a) apos.line X.env=pure false:=by rfl)
  (h:X.fn b=true\/X.env.scope.names.lookup b=some .local:=by first | exact .inl rfl | exact .inr rfl):
  QSs cl pm X (.Assign [.Name b a] e apos::B) (jjr (jdn tb<|Va x) tu) (wY i x pm L fe):=
 ⟨jaa (jfl d hi f hl.sem g h) c.sem,jh7 hl.den c.den⟩
end
section
variable {cl:Nat->Addr}{X:Cx}{o:Expr}{to:TE}{po:PF}{pos apos:Pos}
def jcF{k n c}{ps}{m}{a qual}{st}{pl}(d:Cls X.K<|cl c)(O:OkM X.prog X.w X.K X.mg (cl c) a qual st k ps<|spP ⟨X.K,cl⟩ m n)(e:Room k X.A)(b:QB cl X o to po)(hn:1=n:=by rfl)
  (g:eval (.Call (.Attribute o a apos) [] [] pos) X.env=(do
   let ov <- eval o X.env
   standAt apos.atName
   let (f,first) <- holding [ov] (getMethod ov a pl)
   callWith pos f first (backTo pos<|starEach [] X.env) (backToKw pos<|keywordEach [] X.env)):=by rfl):
  QP cl X (.Call (.Attribute o a apos) [] [] pos) (Y5 (cl c) a (spP ⟨X.K,cl⟩ m n) [] E0 to Jl) (vG m c a po pN):=by
 obtain⟨_,_,F,G⟩:=O;exact⟨uX b.sem d F.mt (G _) e F.bd .nil zU g,jbG b.den xV λρ i h=>by cases h;exact hn⟩
def QK.methZ{K}{k n c}{ps}{m}{a qual}{st}{pl}(b:X.K=K)(d:Cls X.K<|cl c)(O:OkM X.prog X.w X.K X.mg (cl c) a qual st k ps<|spP ⟨X.K,cl⟩ m n)(e:Room k X.A)(g:QB cl X o to po)(hn:1=n:=by rfl)
  (h:eval (.Call (.Attribute o a apos) [] [] pos) X.env=(do
   let ov <- eval o X.env
   standAt apos.atName
   let (f,first) <- holding [ov] (getMethod ov a pl)
   callWith pos f first (backTo pos<|starEach [] X.env) (backToKw pos<|keywordEach [] X.env)):=by rfl):
  QP cl X (.Call (.Attribute o a apos) [] [] pos) (Y5 (cl c) a (spP ⟨K,cl⟩ m n) [] E0 to Jl) (vG m c a po pN):=by subst b;exact jcF d O e g hn h
def jgx{k c}{ps}{m}{x qual}{st}{p}(b:PySem.W.makesIn X.K (cl c)=true)(hp:PySem.W.keepIn X.K (.ref<|cl c)=true)(O:OkM X.prog X.w X.K X.mg (cl c) "__init__" qual st k ps<|spM ⟨X.K,cl⟩ m 1 0)(d:Room (k+1) X.A)(e:X.mg x=some (.ref<|cl c))(f:Gl X x:=by rfl)
  (a:Nd x:=by decide):QP cl X (.Call (.Name x p) [] [] pos) (jcs (cl c) (spM ⟨X.K,cl⟩ m 1 0) [] E0 Jl) (wV m c pN):=by
 obtain⟨_,_,F,G⟩:=O;exact⟨jdM ⟨b,F.mt.at_,F.mt.fn,hp⟩ (G _) d f e F.bd .nil zU a,jcX pps_nil λρ g h=>by cases h;rfl⟩
def OkQ(P:Program)(w:World)(K:J4)(mg:K6)(cl:Nat->Addr)(C:Addr)(x qual:Str)(st:Stmt)(ps:List Str)(L:Ln):Prop:=∀ base,∃ te,Ki ⟨K,cl⟩ te 0 L/\∃ f fd,MtFact K C x qual st f fd ps/\FnOk P w K mg base CX0 1 f fd ps (spX te 1)
def OkQ.te{P w K mg cl C x qual st ps L}(O:OkQ P w K mg cl C x qual st ps L)(base:Heap):TE:=(O base).choose
def jeR{c i a qual st ps L' L tb pl}(b:Cls X.K<|cl c)(O:OkQ X.prog X.w X.K X.mg cl (cl c) a qual st ps L')(d:Room 1 X.A)(h:QL cl X o tb i L)
  (e:eval (.Call (.Attribute o a apos) [] [] pos) X.env=(do
   let ov <- eval o X.env
   standAt apos.atName
   let (f,first) <- holding [ov] (getMethod ov a pl)
   callWith pos f first (backTo pos<|starEach [] X.env) (backToKw pos<|keywordEach [] X.env)):=by rfl):
  QL cl X (.Call (.Attribute o a apos) [] [] pos) (Y5 (cl c) a (spX (O.te X.base) 1) [] E0 tb Jl) i (Vz c a L' L):=by
 obtain⟨g,_,_,F,G⟩:=(O X.base).choose_spec;exact jh8 b F g G d h e
end
section
variable {R:RC}
def jh0{tb tj o i L}(t:∀{σ}{H}{Q:VK},Q (.int<|-1) H->tj σ H Q)(h:Ki R tb i L):Ki R (tIf (zJ<|tOp (rI0 λi j=>.bl<|decide<|j<i) (tCB (λxs H Q=>∃ x n,xs=[x]/\jk2 R.K x H n/\Q (.int n) H)<|vq tb Jl)<|tC<|.int 0) (tOp (rIx R.K) tb tj) o) i (lIx (-1) L):=by
 intro σ ρ Z H O d x k s hd e;obtain⟨v,A,P,B,u,r,w,z⟩:=jkM (tj:=tj) t h s hd e;refine⟨v,A,P,B,u,r,λ{Q} q=>?_,z⟩;refine ob e λy C e=>?_;obtain⟨y,N⟩:=y;obtain⟨D,S,T,U,E,m,b,_⟩:=h s hd C;have key:∃ p n,D=.ref p/\jk2 R.K (.ref p) H n/\0<n:=by
  dsimp only at e;split at e
  ·rename_i l;refine ob e λn F e=>ob e λG c e=>?_;obtain⟨a,vs,rfl,I,f⟩:=m;exact⟨a,vs.length,rfl,.inr ⟨vs,I.sq,rfl⟩,by rw[f.length];exact E8 (X4 _) (L9.mp c).1⟩
  ·rename_i l;refine ob e λn F e=>ob e λG c e=>?_;obtain⟨a,vs,V,rfl,f,J,rfl⟩:=m;exact⟨a,vs.length,rfl,.inl ⟨vs,SqL.of J,rfl⟩,by rw[f.length];exact E8 (X4 _) (L9.mp c).1⟩
  ·cases e
 obtain⟨p,n,rfl,M,W⟩:=key;have g:(0:Int)<n:=by lia
 refine b ⟨_,n,rfl,M,(n:Int),0,rfl,rfl,_,rfl,?_⟩;show if decide _=true then _ else _
 rw[if_pos<|X9 g];exact w q
end
section
variable {R:RC}
def jeL(l:List D):Option D:=(jd8 l).bind λx=>match x with
 | .tup l=>bif frzs l then some (.tup l) else none
 | _=>none
@[simp] def fTupT_e(l):jeL [.tup l]=bif frzs l then some (.tup l) else none:=rfl
def jb5:BC R (λxs H Q=>∃ p ys,xs=[.ref p]/\((SqL R.K H p ys/\∀ l,H l=none->Q (.ref l) (upd H l<|.tup ys))\/(SqT R.K H p ys/\Q (.ref p) H))) jeL:=by
 intro Z H xs d vs O z r e Q k;refine ob e λx b e=>?_;rw[qr b] at r;obtain⟨v,rfl,a⟩:=r.one_of;cases x with
 | tup l=>
  refine oc e λc e=>?_;cases e;have n:=Rep.nil (d:=.tup l) a c;obtain⟨p,f,rfl,g,h⟩:=Rep.tup_of a;exact⟨p,f,rfl,.inr ⟨g,k (Go.id z)<|n▸a⟩⟩
 | _=>cases e
end
end QD
namespace K06
set_option hygiene false
local macro_rules|`(‹$x›)=>`(some<|.lst false $x)|`(↑$x)=>`(some<|.lst true $x)
local macro_rules|`(#[])=>`(pN)|`(#[$x])=>`(ja $x pN)|`(#[$x,$y,*])=>`(ja $x #[$y,*])
open PySem L2 QD
noncomputable def top(i:Nat):Stmt:=PySem.Challenge.pw_tranchefall_k06_deals_shown.main.body.getD i<|.Pass ⟨0,0,0,0⟩
noncomputable def ks_NAME_COUNTS:List KA:=[.str [101,97,116],.str [115,104,97,114,101]]
noncomputable def v8:List D:=[.tup [.int 1,.int 6],.tup [.int 2,.int 6]]
noncomputable def ks_FORMS:List KA:=[.str [112,111,111,108],.str [99,108,97,105,109],.str [112,111,116],.str [111,114,100,101,114],.str [112,97,114,116],.str [112,97,121],.str [114,101,112,97,121],.str [102,105,108,108],.str [108,101,110,100],.str [98,97,99,107],.str [114,101,115,116],.str [108,111,111,107],.str [103,117,97,114,100]]
noncomputable def wS:List D:=[.tup [.str [110,97,109,101]],.tup [.str [110,97,109,101],.str [99,111,105,110,115],.str [99,111,105,110,115]],.tup [.str [110,97,109,101],.str [99,111,105,110,115]],.tup [.str [110,97,109,101]],.tup [.str [110,97,109,101],.str [116,101,110,116,104,115]],.tup [.str [110,97,109,101]],.tup [.str [110,97,109,101]],.tup [.str [110,97,109,101]],.tup [.str [110,97,109,101],.str [99,111,105,110,115]],.tup [.str [110,97,109,101]],.tup [.str [110,97,109,101]],.tup [.str [110,97,109,101],.str [100,97,121,115],.str [110,97,109,101]],.tup [.str [110,97,109,101],.str [110,97,109,101]]]
noncomputable def ks_STAGES:List KA:=[.str [99,108,97,105,109],.str [112,111,116],.str [101,97,116],.str [111,114,100,101,114],.str [112,97,114,116],.str [112,97,121],.str [115,104,97,114,101],.str [114,101,112,97,121],.str [102,105,108,108],.str [108,101,110,100],.str [98,97,99,107],.str [114,101,115,116],.str [108,111,111,107],.str [103,117,97,114,100]]
noncomputable def yW:List D:=[.int 1,.int 2,.int 3,.int 4,.int 4,.int 4,.int 4,.int 4,.int 4,.int 4,.int 4,.int 4,.int 5,.int 6]
noncomputable def Je:D:=.tup [.str [112,111,111,108],.str [99,108,97,105,109],.str [112,111,116],.str [101,97,116],.str [111,114,100,101,114],.str [112,97,114,116],.str [112,97,121],.str [115,104,97,114,101],.str [114,101,112,97,121],.str [102,105,108,108],.str [108,101,110,100],.str [98,97,99,107],.str [114,101,115,116],.str [108,111,111,107],.str [103,117,97,114,100],.str [100,101,98,116],.str [111,110],.str [108,97,116,101],.str [101,97,114,108,121],.str [113,117,105,116]]
noncomputable def ks_MOST:List KA:=[.str [112,111,111,108],.str [99,108,97,105,109],.str [112,111,116],.str [111,114,100,101,114],.str [112,97,114,116],.str [108,111,111,107],.str [103,117,97,114,100]]
noncomputable def Ko:List D:=[.int 6,.int 6,.int 3,.int 5,.int 6,.int 4,.int 3]
noncomputable def VZ:D:=.tup [.str [112,97,121],.str [115,104,97,114,101],.str [114,101,112,97,121],.str [102,105,108,108],.str [108,101,110,100],.str [98,97,99,107],.str [114,101,115,116]]
noncomputable def ks_GREATEST:List KA:=[.str [99,111,105,110,115],.str [116,101,110,116,104,115],.str [100,97,121,115],.str [100,97,121],.str [98,121]]
noncomputable def Jm:List D:=[.int 1000000000000,.int 10,.int 9,.int 60,.int 30]
def JB:FS:=(jS<|dP<|pBM "str" J7 (pS [32]) #[yS (YK<|pV 0) (jl [] 0) qT (pCB V8 #[pV 0]) [none]])
def y6:List D->Option D:=fnP 1 JB
def YW:FS:=(jS<|dP<|yS (YK<|pV 1) (jl [] 0) qT (p2 jO (kC #[pF<|pV 1])<|pV 0) [none,some 0])
def yw:List D->Option D:=fnP 2 YW
def Jd:FS:=(jj (sIf (dPT<|jd<|p2 ve (p2 jf (pV 0)<|pI 0)<|pS [115,104,97,114,101]) (jS<|dP<|p2 jO (kC #[pS [115,104,97,114,101]])<|pCB jeL #[p2 jf (pV 0)<|pI 1])
 jn)<|jS<|dP<|pF<|pV 0)
def yT:List D->Option D:=fnP 1 Jd
def Yh:FS:=(jj (sIf (dPT<|jd<|p2 ve (p2 jf (pV 0)<|pI 0)<|pS [115,104,97,114,101]) (jS<|dP<|kC #[pS [115,104,97,114,101],pCB ki #[pSl (pV 0) (oS<|pI 1) oN]])
 jn)<|jS<|dP<|pCB ki #[pV 0])
def km:List D->Option D:=fnP 1 Yh
def vM:FS:=(jj (JN 0 0 "name"<|pF<|pV 1)<|jj (JN 0 0 "parts"<|kF pN)<|JN 0 0 "rules"<|kF pN)
def yi:List D->Option (D×D):=fnM 2 0 vM
def ye:FS:=(jS<|dP<|jci (p2 Y0 (pCB vg #[vp 0 "rules"<|pV 0])<|pI 0)<|p2 ve (p2 jf (p2 jf (vp 0 "rules"<|pV 0)<|p1 VF<|pI 1)<|pI 0)<|pS [114,101,115,116])
def jv:List D->Option D:=fnP 1 ye
def jc:FS:=(jj (sIf (dPT<|xE (jd<|p2 ve (p2 jf (pV 2)<|pI 0)<|pS [115,104,97,114,101])<|jd<|p2 (yZ false) (pV 1)<|p2 jf (pV 2)<|pI 1) (jS<|dP<|pC<|.bl true)
 jn)<|sIf (dPT<|xE (jd<|p2 ve (p2 jf (pV 2)<|pI 0)<|pS [114,101,112,97,121])<|jd<|p2 ve (pV 1)<|p2 jf (pV 2)<|pI 1) (jS<|dP<|pC<|.bl true)
 jn)
def yD:FS:=(jj (Qd (pIt<|pF<|vp 0 "rules"<|pV 0) (jl [] 2) jc)<|jS<|dP<|pC<|.bl false)
def jw:List D->Option D:=fnP 3 yD
def vn:FS:=(jS<|dP<|kC #[pF<|vp 0 "name"<|pV 0,pCB YA #[vp 0 "parts"<|pV 0],pCB YA #[vp 0 "rules"<|pV 0]])
def jQ:List D->Option D:=fnP 1 vn
def vW:FS:=(jj (JN 0 1 "name"<|pF<|pV 1)<|jj (JN 0 1 "claims"<|kF pN)<|jj (JN 0 1 "pots"<|kF pN)<|jj (JN 0 1 "eat"<|kF pN)<|jj (JN 0 1 "orders"<|kF pN)<|jj (JN 0 1 "looks"<|kF pN)<|JN 0 1 "guards"<|kF pN)
def j5:List D->Option (D×D):=fnM 2 0 vW
def vL:FS:=(jS<|dP<|p2 (yZ false) (pV 1)<|yS (YK<|vp 1 "claims"<|pV 0) (jl [] 0) qT (pF<|p2 jf (pV 0)<|pI 0) [none])
def jt:List D->Option D:=fnP 2 vL
def kg:FS:=(jS<|dP<|p2 (yZ false) (pV 1)<|yS (YK<|vp 1 "pots"<|pV 0) (jl [] 0) qT (pF<|p2 jf (pV 0)<|pI 0) [none])
def j8:List D->Option D:=fnP 2 kg
def vI:FS:=(jS<|dP<|p2 (yZ false) (pV 1)<|yS (YK<|vp 1 "orders"<|pV 0) (jl [] 0) qT (pF<|vp 0 "name"<|pV 0) [none])
def jZ:List D->Option D:=fnP 2 vI
def vF:FS:=(jS<|dP<|p2 (yZ false) (pV 1)<|yS (YK<|vp 1 "guards"<|pV 0) (jl [] 0) qT (pF<|p2 jf (pV 0)<|pI 1) [none])
def yg:List D->Option D:=fnP 2 vF
def Kr:FS:=(jS<|dP<|yS (YK<|pBM "str" J6 (pV 0) #[pS [32]]) (jl [] 0) (jd<|p2 Ka (pV 0)<|pS []) (pF<|pV 0) [none])
def Ja:List D->Option D:=fnP 1 Kr
def KK:FS:=(jS<|dP<|pCB jlc #[yS (YK<|pV 0) (jl [] 0) qT (p2 (yZ false) (pV 0)<|pV 1) [none,some 1]])
def kK:List D->Option D:=fnP 2 KK
def Kd:FS:=(jj (sIf (dPT<|jd<|jl7 false ks_NAME_COUNTS v8<|pV 0) (jj (yB (dP<|pF<|jaf ks_NAME_COUNTS v8<|pV 0)<|jl [] 2)<|jS<|dP<|pIf (jd<|K3 jfa jfa (p2 jf (pV 2)<|pI 0) (pV 1)<|p2 jf (pV 2)<|pI 1) (p2 uB (kC #[pS [110,97,109,101]])<|pV 1)<|pC .non)
 jn)<|jS<|dP<|pF<|jdV ks_FORMS wS<|pV 0)
def jW:List D->Option D:=fnP 3 Kd
def vV:FS:=(jj (JN 0 2 "pools"<|kF pN)<|jj (JN 0 2 "names"<|pC<|.dK true [] [])<|JN 0 2 "loan_rows"<|kF pN)
def yo:List D->Option (D×D):=fnM 1 0 vV
def yM:FS:=(jS<|dP<|pIf (jd<|p2 Y0 (pCB vg #[vp 2 "pools"<|pV 0])<|pI 0) (pF<|p2 jf (vp 2 "pools"<|pV 0)<|p1 VF<|pI 1)<|pC .non)
def jq:Ln:=(lIx (-1)<|qQ 2 "pools" qo)
def ju:List D->Option D:=fnP 1 yM
def vv:FS:=(jj (sIf (dPT<|jd<|p2 Y0 (pCB vg #[vp 1 "guards"<|pV 0])<|pI 0) (jS<|dP<|pF<|jaf ks_STAGES yW<|pS [103,117,97,114,100])
 jn)<|jj (sIf (dPT<|jd<|p2 Y0 (pCB vg #[vp 1 "looks"<|pV 0])<|pI 0) (jS<|dP<|pF<|jaf ks_STAGES yW<|pS [108,111,111,107])
 jn)<|jj (sIf (dPT<|jd<|p2 Y0 (pCB vg #[vp 1 "orders"<|pV 0])<|pI 0) (jS<|dP<|pF<|jaf ks_STAGES yW<|pS [111,114,100,101,114])
 jn)<|jj (sIf (dPT<|jd<|p2 Y0 (pCB vg #[vp 1 "eat"<|pV 0])<|pI 0) (jS<|dP<|pF<|jaf ks_STAGES yW<|pS [101,97,116])
 jn)<|jj (sIf (dPT<|jd<|p2 Y0 (pCB vg #[vp 1 "pots"<|pV 0])<|pI 0) (jS<|dP<|pF<|jaf ks_STAGES yW<|pS [112,111,116])
 jn)<|jS<|dP<|pF<|jaf ks_STAGES yW<|pS [99,108,97,105,109])
def yX:List D->Option D:=fnP 1 vv
def ym:FS:=(jj (sIf (dPT<|jd<|p2 ve (pV 1)<|pS [99,108,97,105,109]) (jS<|dP<|pF<|vp 1 "claims"<|pV 0)
 jn)<|jj (sIf (dPT<|jd<|p2 ve (pV 1)<|pS [112,111,116]) (jS<|dP<|pF<|vp 1 "pots"<|pV 0)
 jn)<|jj (sIf (dPT<|jd<|p2 ve (pV 1)<|pS [111,114,100,101,114]) (jS<|dP<|pF<|vp 1 "orders"<|pV 0)
 jn)<|jj (sIf (dPT<|jd<|p2 ve (pV 1)<|pS [112,97,114,116]) (jS<|dP<|pF<|vp 0 "parts"<|p2 jf (vp 1 "orders"<|pV 0)<|p1 VF<|pI 1)
 jn)<|jj (sIf (dPT<|jd<|p2 ve (pV 1)<|pS [108,111,111,107]) (jS<|dP<|pF<|vp 1 "looks"<|pV 0)
 jn)<|jS<|dP<|pF<|vp 1 "guards"<|pV 0)
def jr:List D->Option D:=fnP 2 ym
def JA:FS:=(jj (yB (dP<|pS [112,111,111,108,32,99,108,97,105,109,32,112,111,116,32,101,97,116,32,111,114,100,101,114,32,112,97,114,116,32,112,97,121,32,115,104,97,114,101,32,114,101,112,97,121,32,102,105,108,108,32,108,101,110,100,32,98,97,99,107,32,114,101,115,116,32,108,111,111,107,32,103,117,97,114,100,32,100,101,98,116,32,111,110,32,108,97,116,101,32,101,97,114,108,121,32,113,117,105,116])<|jl [] 0)<|jS<|dP<|pBM "str" J6 (pV 0) #[pS [32]])
def vD:List D->Option D:=fnP 1 JA
def Yx:FS:=(jj (yB (dP<|pI 0)<|jl [] 2)<|jj (sIf (dPT<|jd<|p2 Y0 (pCB vg #[pV 0])<|pI 0) (yB (dP<|pF<|p2 jf (pV 0)<|p2 jA (pV 1)<|pCB vg #[pV 0])<|jl [] 2)
 jn)<|jj (yB (dP<|p2 jO (pI 91343852333181432387730302044767688731)<|p2 Vk (p2 Vk (pI 7919000003)<|pV 1)<|pV 1)<|jl [] 3)<|jS<|dP<|p2 jA (p2 Vk (p2 jO (p2 jO (pV 2)<|pV 1)<|pI 1)<|pV 3)<|pI 170141183460469231731687303715884105727)
def v9:List D->Option D:=fnP 4 Yx
def ka:FS:=(jj (sIf (dPT<|jd<|p2 ve (p2 jA (pV 0)<|pI 4)<|pI 0) (jS<|dP<|pF<|p2 jf (kF #[pI 1,p2 xQ (pI 10)<|pI 12])<|p2 jA (p2 yf (pV 0)<|pI 4)<|pI 2)
 jn)<|jj (sIf (dPT<|jd<|p2 ve (p2 jA (pV 0)<|pI 4)<|pI 1) (jS<|dP<|p2 jO (pI 1)<|p2 jA (p2 yf (pV 0)<|pI 4)<|pI 20)
 jn)<|jS<|dP<|p2 jO (pI 1)<|p2 jA (p2 yf (pV 0)<|pI 4)<|p2 xQ (pI 10)<|pI 12)
def jJ:List D->Option D:=fnP 1 ka
def jF:FS:=(jj (sIf (dPT<|jd<|p2 ve (p2 jf (pV 3)<|pI 0)<|pS [115,104,97,114,101]) (Ke 1<|p2 jf (pV 3)<|pI 1)
 jn)<|sIf (dPT<|jd<|p2 ve (p2 jf (pV 3)<|pI 0)<|pS [114,101,112,97,121]) (jaA 1<|pF<|p2 jf (pV 3)<|pI 1)
 jn)
def yq:FS:=(Qd (pIt<|pF<|p2 jf (pV 2)<|pI 2) (jl [] 3) jF)
def kz:FS:=(jj (yB (dP<|kF pN)<|jl [] 1)<|jj (Qd (pIt<|pF<|pV 0) (jl [] 2) yq)<|jS<|dMv 1)
def yJ:List D->Option D:=fnP 4 kz
def jB:FS:=(sIf (dPT<|jd<|p2 ve (p2 jf (pV 3)<|pI 0)<|pS [115,104,97,114,101]) (jaA 1<|p2 jO (kF #[pS [115,104,97,114,101]])<|pCB YA #[p2 jf (pV 3)<|pI 1])<|jaA 1<|yS (YK<|pV 3) (jl [] 0) qT (pCB V8 #[pV 0]) [none])
def vo:FS:=(jj (jaA 1<|kF #[pS [111,114,100,101,114],pF<|p2 jf (pV 2)<|pI 0])<|jj (Kb 1<|yS (YK<|p2 jf (pV 2)<|pI 1) (jl [] 0) qT (kF #[pS [112,97,114,116],pF<|p2 jf (pV 0)<|pI 0,pCB V8 #[p2 jf (pV 0)<|pI 1]]) [none])<|Qd (pIt<|pF<|p2 jf (pV 2)<|pI 2) (jl [] 3) jB)
def vP:FS:=(jj (yB (dP<|kF #[kF #[pS [112,111,111,108],pF<|p2 jf (pV 0)<|pI 0]])<|jl [] 1)<|jj (Kb 1<|yS (YK<|p2 jf (pV 0)<|pI 1) (jl [] 0) qT (kF #[pS [99,108,97,105,109],pF<|p2 jf (pV 0)<|pI 0,pCB V8 #[p2 jf (pV 0)<|pI 1],pCB V8 #[p2 jf (pV 0)<|pI 2]]) [none])<|jj (Kb 1<|yS (YK<|p2 jf (pV 0)<|pI 2) (jl [] 0) qT (kF #[pS [112,111,116],pF<|p2 jf (pV 0)<|pI 0,pCB V8 #[p2 jf (pV 0)<|pI 1]]) [none])<|jj (sIf (dPT<|jd<|p2 Y0 (pCB vg #[p2 jf (pV 0)<|pI 3])<|pI 0) (jaA 1<|p2 jO (kF #[pS [101,97,116]])<|p2 jf (pV 0)<|pI 3)
 jn)<|jj (Qd (pIt<|pF<|p2 jf (pV 0)<|pI 4) (jl [] 2) vo)<|jj (Kb 1<|yS (YK<|p2 jf (pV 0)<|pI 5) (jl [] 0) qT (kF #[pS [108,111,111,107],pF<|p2 jf (pV 0)<|pI 0,pCB V8 #[p2 jf (pV 0)<|pI 1],pF<|p2 jf (pV 0)<|pI 2]) [none])<|jj (Kb 1<|yS (YK<|p2 jf (pV 0)<|pI 6) (jl [] 0) qT (kF #[pS [103,117,97,114,100],pF<|p2 jf (pV 0)<|pI 0,pF<|p2 jf (pV 0)<|pI 1]) [none])<|jS<|dMv 1)
def vU:List D->Option D:=fnP 4 vP
def Yg:FS:=(jS<|dP<|pBM "str" J7 (pS [10]) #[yS (YK<|pV 0) (jl [] 0) qT (jK y6 #[pV 0]) [none]])
def v7:List D->Option D:=fnP 1 Yg
def qA:FS:=(jj (yB (dP<|kF #[kC #[pS [111,114,100,101,114],pF<|p2 jf (pV 0)<|pI 0]])<|jl [] 1)<|jj (Ke 1<|jK yw #[pS [112,97,114,116],p2 jf (pV 0)<|pI 1])<|jj (Ke 1<|yS (YK<|p2 jf (pV 0)<|pI 2) (jl [] 0) qT (jK yT #[pV 0]) [none])<|jS<|dMv 1)
def qu:List D->Option D:=fnP 2 qA
def yI:FS:=(jS<|dP<|pCB jlY #[yS (YK<|vp 1 "orders"<|pV 0) (jl [] 0) qT (vG jw 0 "shares_or_repays" (pV 0) #[pV 1]) [none,some 1]])
def jy:List D->Option D:=fnP 2 yI
def vJ:FS:=(jj (yB (dP<|yS (YK<|vp 1 "orders"<|pV 0) (jl [] 0) qT (vG jQ 0 "order_told" (pV 0) pN) [none])<|jl [] 1)<|jS<|uG<|jT (dP<|pF<|vp 1 "name"<|pV 0)<|jT (dP<|pCB YA #[vp 1 "claims"<|pV 0])<|jT (dP<|pCB YA #[vp 1 "pots"<|pV 0])<|jT (dP<|pCB YA #[vp 1 "eat"<|pV 0])<|jT (dMv 1)<|jT (dP<|pCB YA #[vp 1 "looks"<|pV 0])<|jT (dP<|pCB YA #[vp 1 "guards"<|pV 0]) YG)
def jY:List D->Option D:=fnP 2 vJ
def xp:FS:=(jj (sIf (dPT<|jdo<|jd<|K3 jfa jfa (pI 1) (pCB vg #[pV 0])<|pI 8) (jS<|dP<|pC<|.bl false)
 jn)<|jS<|dP<|jci (jK kK #[pV 0,pS [97,98,99,100,101,102,103,104,105,106,107,108,109,110,111,112,113,114,115,116,117,118,119,120,121,122]])<|p2 (yZ true) (pV 0)<|pC Je)
def J5:List D->Option D:=fnP 1 xp
def vb:FS:=(jj (sIf (dPT<|qOr (jdo<|jd<|K3 jfa jfa (pI 1) (pCB vg #[pV 0])<|pI 13)<|jdo<|jd<|jK kK #[pV 0,pS [48,49,50,51,52,53,54,55,56,57]]) (jS<|dP<|pC .non)
 jn)<|jj (sIf (dPT<|xE (jd<|p2 ve (p2 jf (pV 0)<|pI 0)<|pS [48])<|jd<|p2 Ka (pV 0)<|pS [48]) (jS<|dP<|pC .non)
 jn)<|jS<|dP<|pCB jl6 #[pV 0])
def yn:List D->Option D:=fnP 1 vb
def vz:FS:=(jj (sIf (dPT<|jd<|p2 ve (pCB vg #[vp 1 "orders"<|pV 0])<|pI 0) (jS<|dP<|pC<|.bl true)
 jn)<|jj (yB (dP<|pF<|p2 jf (vp 1 "orders"<|pV 0)<|p1 VF<|pI 1)<|jl [] 2)<|jS<|dP<|pOr (vG jv 0 "has_rest" (pV 2) pN)<|jci (p2 ve (pV 1)<|pS [112,97,114,116])<|p2 Y0 (pCB vg #[vp 0 "rules"<|pV 2])<|pI 0)
def yr:List D->Option D:=fnP 3 vz
def kR:FS:=(jj (sIf (dPT<|qOr (jd<|p2 Kp (pV 0)<|pC .non)<|jd<|p2 (yZ true) (pV 1)<|kC #[pS [111,114,100,101,114],pS [108,111,111,107],pS [103,117,97,114,100],pS [112,111,111,108]]) (jS<|dP<|pC<|.bl false)
 jn)<|jj (sIf (dPT<|xE (jd<|p2 Y0 (pCB vg #[vp 1 "orders"<|pV 0])<|pI 0)<|jdo<|jd<|vG jv 0 "has_rest" (p2 jf (vp 1 "orders"<|pV 0)<|p1 VF<|pI 1) pN) (jS<|dP<|pC<|.bl true)
 jn)<|jj (sIf (dPT<|xE (jd<|p2 Ka (pV 1)<|pS [111,114,100,101,114])<|jd<|p2 ve (pCB vg #[vp 1 "orders"<|pV 0])<|pI 0) (jS<|dP<|pC<|.bl true)
 jn)<|jS<|dP<|jci (p2 (yZ false) (pV 1)<|kC #[pS [111,114,100,101,114],pS [112,111,111,108]])<|p2 ve (pCB vg #[vp 1 "claims"<|pV 0])<|pI 0)
def yc:List D->Option D:=fnP 2 kR
def vw:FS:=(jj (yB (dP<|pF<|p2 jf (pV 2)<|pI 0)<|jl [] 3)<|jj (sIf (dPT<|jd<|p2 (yZ false) (pV 3)<|kC #[pS [112,111,111,108],pS [99,108,97,105,109],pS [112,111,116]]) (jS<|dP<|p2 (jc1 false) (p2 jf (pV 2)<|pI 1)<|vp 2 "names"<|pV 0)
 jn)<|jj (sIf (dPT<|jd<|p2 ve (pV 3)<|pS [111,114,100,101,114]) (jS<|dP<|vG jZ 1 "has_order" (pV 1) #[p2 jf (pV 2)<|pI 1])
 jn)<|jj (sIf (dPT<|jd<|p2 (yZ false) (pV 3)<|kC #[pS [101,97,116],pS [115,104,97,114,101]]) (jS<|dP<|p2 jmQ (Qj<|pSl (pV 2) (oS<|pI 1) oN)<|p2 Qq (pCB vg #[pV 2])<|pI 1)
 jn)<|jj (sIf (dPT<|jd<|p2 ve (pV 3)<|pS [112,97,114,116]) (jS<|dP<|p2 (yZ false) (p2 jf (pV 2)<|pI 1)<|yS (YK<|vp 0 "parts"<|p2 jf (vp 1 "orders"<|pV 1)<|p1 VF<|pI 1) (jl [] 0) qT (pF<|p2 jf (pV 0)<|pI 0) [none])
 jn)<|jj (sIf (dPT<|jd<|p2 ve (pV 3)<|pS [103,117,97,114,100]) (jS<|dP<|vG yg 1 "has_guard" (pV 1) #[p2 jf (pV 2)<|pI 2])
 jn)<|jS<|dP<|pC<|.bl false)
def jR:List D->Option D:=fnP 4 vw
def j7:FS:=(jj (yB (dP<|pF<|p2 jf (pV 1)<|pI 0)<|jl [] 2)<|jj (sIf (dPT<|jd<|p2 (yZ false) (pV 2)<|kC #[pS [101,97,116],pS [115,104,97,114,101]]) (jS<|dP<|jfU<|pCB jlc #[yS (YK<|pSl (pV 1) (oS<|pI 1) oN) (jl [] 0) qT (vG jt 1 "has_claim" (pV 1) #[pV 0]) [none,some 0]])
 jn)<|jj (sIf (dPT<|jd<|p2 (yZ false) (pV 2)<|kC #[pS [112,97,114,116],pS [112,97,121],pS [114,101,112,97,121],pS [114,101,115,116]]) (jS<|dP<|jfU<|vG jt 1 "has_claim" (pV 0) #[p2 jf (pV 1)<|pI 1])
 jn)<|jj (sIf (dPT<|jd<|p2 ve (pV 2)<|pS [102,105,108,108]) (jS<|dP<|jfU<|vG j8 1 "has_pot" (pV 0) #[p2 jf (pV 1)<|pI 1])
 jn)<|jj (sIf (dPT<|jd<|p2 ve (pV 2)<|pS [108,111,111,107]) (jS<|dP<|jfU<|jci (vG jt 1 "has_claim" (pV 0) #[p2 jf (pV 1)<|pI 1])<|vG jZ 1 "has_order" (pV 0) #[p2 jf (pV 1)<|pI 3])
 jn)<|jj (sIf (dPT<|jd<|p2 ve (pV 2)<|pS [103,117,97,114,100]) (jS<|dP<|jfU<|jci (vG j8 1 "has_pot" (pV 0) #[p2 jf (pV 1)<|pI 1])<|vG jt 1 "has_claim" (pV 0) #[p2 jf (pV 1)<|pI 2])
 jn)<|jS<|dP<|pC<|.bl false)
def jh:List D->Option D:=fnP 3 j7
def yt:FS:=(jj (sIf (dPT<|jd<|p2 ve (pV 2)<|pS [112,111,111,108]) (jS<|dP<|p2 jl9 (pCB vg #[vp 2 "pools"<|pV 0])<|jaf ks_MOST Ko<|pS [112,111,111,108])
 jn)<|jj (sIf (dPT<|jd<|p2 (yZ false) (pV 2)<|kC #[pS [101,97,116],pS [114,101,115,116]]) (jS<|dP<|pC<|.bl false)
 jn)<|jj (sIf (dPT<|jd<|p2 (yZ false) (pV 2)<|pC VZ) (jS<|dP<|p2 jl9 (pCB vg #[vp 0 "rules"<|p2 jf (vp 1 "orders"<|pV 1)<|p1 VF<|pI 1])<|pI 8)
 jn)<|jS<|dP<|p2 jl9 (pCB vg #[jK jr #[pV 1,pV 2]])<|jaf ks_MOST Ko<|pV 2)
def jo:List D->Option D:=fnP 3 yt
def KC:FS:=(jj (yB (dP<|p2 jO (p2 jf (pV 1)<|pI 0)<|pI 1)<|gIx [1] 1<|pI 0)<|jS<|dP<|jK v9 #[pV 0,p2 jf (pV 1)<|pI 0])
def js:List D->Option (D×D):=fnM 2 1 KC
def Yw:FS:=(jj (yB (dP<|pS [97,98,99,100,101,102,103,104,105,106,107,108,109,110,111,112,113,114,115,116,117,118,119,120,121,122])<|jl [] 2)<|jj (yB (dP<|p2 jO (pI 2)<|p2 jA (pV 0)<|pI 6)<|jl [] 3)<|jj (yB (dP<|p2 jA (p2 yf (pV 0)<|pI 6)<|p2 Qq (pV 3)<|pI 1)<|jl [] 4)<|jj (yB (dP<|pBM "str" J7 (pS []) #[yS (qx #[pV 3]) (jl [] 0) qT (pF<|p2 jf (pV 1)<|p2 jA (p2 jO (p2 yf (pV 2)<|pI 42)<|p2 qh (p2 qh (pV 0)<|pV 0)<|p2 jA (p2 yf (pV 2)<|pI 1100)<|pI 5)<|pI 26) [none,some 2,some 0]])<|jl [] 5)<|jj (yB (dP<|p2 jO (p2 jf (pV 2)<|p2 jA (p2 jO (p2 yf (pV 0)<|pI 7)<|p2 yf (pV 1)<|pI 26)<|pI 26)<|p2 jf (pV 2)<|p2 jA (p2 jO (p2 yf (pV 0)<|pI 3)<|pV 1)<|pI 26)<|jl [] 6)<|jj (yB (dP<|p2 jO (p2 jO (pSl (pV 5) oN<|oS<|pV 4)<|pV 6)<|pSl (pV 5) (oS<|p2 jO (pV 4)<|pI 2) oN)<|jl [] 5)<|jj (sIf (dPT<|jd<|p2 (yZ false) (pV 5)<|jK vD pN) (yB (dP<|p2 jO (pV 5)<|pS [122])<|jl [] 5)
 jn)<|jS<|dMv 5)
def jC:List D->Option D:=fnP 7 Yw
def K7:FS:=(jj (yB (dP<|p2 jA (pV 0)<|pI 7)<|jl [] 4)<|jj (yB (dP<|pCB vg #[pV 1])<|jl [] 5)<|jj (yB (dP<|pF<|p2 jf (p2 jf (pV 1)<|p2 jA (p2 yf (pV 0)<|pI 7)<|pV 5)<|pI 0)<|jl [] 6)<|jj (sIf (dPT<|xE (jd<|p2 ve (pV 4)<|pI 1)<|jd<|p2 Y0 (pV 5)<|pI 1) (jj (yB (dP<|p2 jO (pI 2)<|p2 jA (p2 yf (pV 0)<|pI 50)<|p2 Qq (pV 5)<|pI 1)<|jl [] 7)<|jS<|dP<|kC #[pS [115,104,97,114,101],pCB ki #[yS (qx #[pV 7]) (jl [] 0) qT (pF<|p2 jf (p2 jf (pV 1)<|p2 jA (p2 jO (p2 yf (pV 2)<|pI 400)<|pV 0)<|pV 3)<|pI 0) [none,some 1,some 0,some 5]]])
 jn)<|jj (sIf (dPT<|jd<|p2 ve (pV 4)<|pI 2) (jS<|dP<|kC #[pS [114,101,112,97,121],pF<|pV 6])
 jn)<|jj (sIf (dPT<|xE (jd<|p2 ve (pV 4)<|pI 3)<|jd<|p2 Y0 (pCB vg #[pV 2])<|pI 0) (jS<|dP<|kC #[pS [102,105,108,108],pF<|p2 jf (p2 jf (pV 2)<|p2 jA (p2 yf (pV 0)<|pI 50)<|pCB vg #[pV 2])<|pI 0])
 jn)<|jj (sIf (dPT<|xE (jd<|p2 ve (pV 4)<|pI 4)<|jd<|p2 Y0 (pCB vg #[pV 3])<|pI 0) (jS<|dP<|kC #[pS [108,101,110,100],pF<|p2 jf (pV 3)<|p2 jA (p2 yf (pV 0)<|pI 50)<|pCB vg #[pV 3],jK jJ #[p2 yf (pV 0)<|pI 400]])
 jn)<|jj (sIf (dPT<|xE (jd<|p2 ve (pV 4)<|pI 5)<|jd<|p2 Y0 (pCB vg #[pV 3])<|pI 0) (jS<|dP<|kC #[pS [98,97,99,107],pF<|p2 jf (pV 3)<|p2 jA (p2 yf (pV 0)<|pI 50)<|pCB vg #[pV 3]])
 jn)<|jS<|dP<|kC #[pS [112,97,121],pF<|pV 6])
def vd:List D->Option D:=fnP 8 K7
def vY:FS:=(Kb 1<|jK vU #[pV 2])
def VS:FS:=(jj (yB (dP<|kF pN)<|jl [] 1)<|jj (Qd (pIt<|pF<|pV 0) (jl [] 2) vY)<|jS<|dMv 1)
def qd:List D->Option D:=fnP 3 VS
def vZ:FS:=(Ke 1<|jK qu #[pV 2])
def JO:FS:=(jj (yB (dP<|kF #[kC #[pS [112,111,111,108],pF<|p2 jf (pV 0)<|pI 0]])<|jl [] 1)<|jj (Ke 1<|jK yw #[pS [99,108,97,105,109],p2 jf (pV 0)<|pI 1])<|jj (Ke 1<|jK yw #[pS [112,111,116],p2 jf (pV 0)<|pI 2])<|jj (sIf (dPT<|jd<|p2 Y0 (pCB vg #[p2 jf (pV 0)<|pI 3])<|pI 0) (jaA 1<|p2 jO (kC #[pS [101,97,116]])<|pCB ki #[p2 jf (pV 0)<|pI 3])
 jn)<|jj (Qd (pIt<|pF<|p2 jf (pV 0)<|pI 4) (jl [] 2) vZ)<|jj (Ke 1<|jK yw #[pS [108,111,111,107],p2 jf (pV 0)<|pI 5])<|jj (Ke 1<|jK yw #[pS [103,117,97,114,100],p2 jf (pV 0)<|pI 6])<|jS<|dMv 1)
def JU:List D->Option D:=fnP 3 JO
def jP:FS:=(jj (yB (dP<|pF<|p2 jf (pV 1)<|pI 0)<|jl [0] 2)<|jj (yB (dP<|pCB ki #[pSl (pV 1) (oS<|pI 1) oN])<|jl [0] 3)<|sIf (dPT<|jd<|p2 ve (pV 2)<|pS [99,108,97,105,109]) (YB 0 (qQ 1 "claims" qo)<|pF<|pV 3)<|sIf (dPT<|jd<|p2 ve (pV 2)<|pS [112,111,116]) (YB 0 (qQ 1 "pots" qo)<|pF<|pV 3)<|sIf (dPT<|jd<|p2 ve (pV 2)<|pS [101,97,116]) (jgu 0 (qQ 1 "eat" qo)<|pF<|pV 3)<|sIf (dPT<|jd<|p2 ve (pV 2)<|pS [111,114,100,101,114]) (YB 0 (qQ 1 "orders" qo)<|wV yi 0 #[pF<|p2 jf (pV 1)<|pI 1])<|sIf (dPT<|jd<|p2 ve (pV 2)<|pS [112,97,114,116]) (YB 0 (qQ 0 "parts"<|lIx (-1)<|qQ 1 "orders" qo)<|pF<|pV 3)<|sIf (dPT<|jd<|p2 ve (pV 2)<|pS [108,111,111,107]) (YB 0 (qQ 1 "looks" qo)<|pF<|pV 3)<|sIf (dPT<|jd<|p2 ve (pV 2)<|pS [103,117,97,114,100]) (YB 0 (qQ 1 "guards" qo)<|pF<|pV 3)<|YB 0 (qQ 0 "rules"<|lIx (-1)<|qQ 1 "orders" qo)<|jK km #[pV 1])
def je:List D->Option (D×D):=fnM 4 0 jP
def YF:FS:=(jj (sIf (dPT<|jd<|p2 ve (pV 1)<|pS [110,97,109,101]) (jS<|dP<|pIf (jd<|jK J5 #[pV 0]) (pF<|pV 0)<|pC .non)
 jn)<|jj (yB (dP<|jK yn #[pV 0])<|jl [] 2)<|jj (sIf (dPT<|qOr (jd<|p2 Kp (pV 2)<|pC .non)<|jdo<|jd<|K3 jfa jfa (pI 1) (pV 2)<|jaf ks_GREATEST Jm<|pV 1) (jS<|dP<|pC .non)
 jn)<|jS<|dP<|pF<|pV 2)
def vx:List D->Option D:=fnP 3 YF
def yF:FS:=(jj (sIf (dPT<|jd<|p2 ve (pV 1)<|pS [112,111,111,108]) (jS<|dP<|pC<|.bl false)
 jn)<|jj (sIf (dPT<|qOr (jd<|p2 Kp (pV 0)<|pC .non)<|jd<|p2 jmQ (jaf ks_STAGES yW<|pV 1)<|jK yX #[pV 0]) (jS<|dP<|pC<|.bl true)
 jn)<|jj (sIf (dPT<|jd<|p2 ve (pV 1)<|pS [101,97,116]) (jS<|dP<|p2 Y0 (pCB vg #[vp 1 "eat"<|pV 0])<|pI 0)
 jn)<|jj (sIf (dPT<|qOr (jd<|p2 ve (pV 1)<|pS [112,97,114,116])<|jd<|p2 (yZ false) (pV 1)<|pC VZ) (jS<|dP<|jK yr #[pV 0,pV 1])
 jn)<|jS<|dP<|pC<|.bl false)
def jE:List D->Option D:=fnP 2 yF
def vB:FS:=(sIf (dPT<|qOr (jd<|p2 ve (pV 6)<|pV 5)<|jd<|p2 (yZ true) (pV 6)<|pV 3) qf
 jn)
def YR:FS:=(jj (yB (dP<|vG ju 2 "last_pool" (pV 0) pN)<|jl [] 2)<|jj (sIf (dPT<|qOr (jd<|p2 Kp (pV 2)<|pC .non)<|jd<|jK yc #[pV 2,pS [112,111,111,108]]) qf
 jn)<|jj (yB (dP<|yS (YK<|vp 2 "pools"<|pV 0) (jl [] 0) qT (pF<|vp 1 "name"<|pV 0) [none])<|jl [] 3)<|Qd (pIt<|pF<|vp 2 "loan_rows"<|pV 0) (gT 3<|gC (jl [] 4)<|gC (jl [] 5)<|gC (jl [] 6) gN) vB)
def vN:List D->Option D:=fnP 7 YR
def vX:FS:=(Kc 8<|uG<|jT (dP<|pF<|p2 jf (p2 jf (pV 3)<|p2 jA (p2 jO (p2 yf (pV 6)<|pI 100)<|pV 9)<|pV 7)<|pI 0)<|jT (dOp jO (dP<|pI 1)<|dOp jA (yu js 1 1<|ja (pF<|pV 0)<|pFs pN)<|dP<|pI 10) YG)
def VL:FS:=(jj (yB (yu js 1 1<|ja (pF<|pV 0)<|pFs pN)<|jl [1] 6)<|jj (yB (dP<|pCB vg #[pV 3])<|jl [1] 7)<|jj (yB (dP<|kF pN)<|jl [1] 8)<|jj (Qd (qx #[p2 qh (p2 jA (pV 6)<|p2 jO (pV 7)<|pI 1)<|p2 jA (p2 yf (pV 6)<|pI 10)<|pI 2]) (jl [1] 9) vX)<|jj (yB (z7 (qx #[p2 jA (p2 yf (pV 6)<|pI 1000)<|pI 9]) (jl [2] 0) (kj vd<|jT (yu js 2 1<|ja (pF<|pV 1)<|pFs pN)<|jT (dP<|pF<|pV 3)<|jT (dP<|pF<|pV 4)<|jT (dP<|pF<|pV 5) YG) [none,some 0,some 1,some 3,some 4,some 5] 1 2)<|jl [1] 10)<|jj (jaA 10<|kC #[pS [114,101,115,116],pF<|p2 jf (p2 jf (pV 3)<|p2 jA (p2 yf (pV 6)<|pI 10000)<|pV 7)<|pI 0])<|jS<|uG<|jT (dP<|pF<|pV 2)<|jT (dMv 8)<|jT (dMv 10) YG)
def kc:List D->Option (D×D):=fnM 11 1 VL
def kH:FS:=(Kc 7<|uG<|jT (dOp (oF jf) (dOp (oF jf) (dP<|pF<|pV 3)<|dOp jA (yu js 1 1<|ja (pF<|pV 0)<|pFs pN)<|dP<|pCB vg #[pV 3])<|dP<|pI 0)<|jT (dP<|pF<|p2 jf (pV 6)<|pV 8) YG)
def qD:FS:=(jj (yB (dP<|jK yJ #[pV 4])<|jl [1] 5)<|jj (yB (dP<|yS (YK<|pV 2) (jl [] 0) (jd<|p2 (yZ true) (p2 jf (pV 0)<|pI 0)<|pV 1) (pF<|p2 jf (pV 0)<|pI 0) [none,some 5])<|jl [1] 6)<|jj (yB (dP<|kF pN)<|jl [1] 7)<|jj (sIf (dPT<|jd<|p2 Y0 (pCB vg #[pV 3])<|pI 0) (jcv (jbU<|jT (dCB jnh<|jT (dP<|pCB vg #[pV 6])<|jT (dOp jA (yu js 1 1<|ja (pF<|pV 0)<|pFs pN)<|dP<|pI 4) YG) YG) (jl [1] 8) kH)
 jn)<|jS<|dMv 7)
def vK:List D->Option (D×D):=fnM 9 1 qD
def vC:FS:=(Ke 1<|jK JU #[pV 2])
def Y1:FS:=(jj (yB (dP<|kF pN)<|jl [] 1)<|jj (Qd (pIt<|pF<|pV 0) (jl [] 2) vC)<|jS<|dP<|jK v7 #[pV 1])
def ky:List D->Option D:=fnP 3 Y1
def kB:FS:=(jj (yB (dP<|jK vx #[pV 4,pV 5])<|jl [] 6)<|jj (sIf (dPT<|jd<|p2 Kp (pV 6)<|pC .non) qf
 jn)<|jaA 3<|pF<|pV 6)
def KB:FS:=(jj (sIf (dPT<|qOr (jd<|p2 Kp (pV 1)<|pC .non)<|jd<|p2 Ka (pCB vg #[pV 1])<|p2 Qq (pCB vg #[pV 0])<|pI 1) qf
 jn)<|jj (yB (dP<|kF #[pF<|p2 jf (pV 0)<|pI 0])<|jl [] 3)<|jj (Qd (pZN 2 #[pSl (pV 0) (oS<|pI 1) oN,pF<|pV 1]) (gT 2<|gC (jl [] 4)<|gC (jl [] 5) gN) kB)<|jS<|dMv 3)
def Jj:List D->Option D:=fnP 7 KB
def yp:FS:=(jj (yB (dP<|pF<|p2 jf (pV 1)<|pI 0)<|jl [0] 3)<|jj (sIf (dPT<|jd<|p2 (yZ false) (pV 3)<|kC #[pS [112,111,111,108],pS [99,108,97,105,109],pS [112,111,116]]) (YY 0 (qQ 2 "names" qo) (p2 jf (pV 1)<|pI 1)<|pC<|.bl true)
 jn)<|jj (sIf (dPT<|jd<|p2 ve (pV 3)<|pS [112,111,111,108]) (jj (YB 0 (qQ 2 "pools" qo)<|wV j5 1 #[pF<|p2 jf (pV 1)<|pI 1])
 jeK)
 jn)<|wY 0 4 [0] (Vz 2 "last_pool" jq qo)<|jj (sIf (dPT<|jd<|p2 (yZ false) (pV 3)<|kC #[pS [108,101,110,100],pS [98,97,99,107]]) (YB 0 (qQ 2 "loan_rows" qo)<|kC #[pF<|pV 2,pF<|vp 1 "name"<|pV 4,pF<|p2 jf (pV 1)<|pI 1])
 jn)<|xT<|zF je 4 1 "put" #[pF<|pV 1])
def jx:List D->Option (D×D):=fnM 5 0 yp
def qK:FS:=(jj (yB (dP<|vG ju 2 "last_pool" (pV 0) pN)<|jl [] 3)<|jj (sIf (dPT<|jd<|jK jE #[pV 3,p2 jf (pV 1)<|pI 0]) qf
 jn)<|jj (sIf (dPT<|jd<|jK yc #[pV 3,p2 jf (pV 1)<|pI 0]) qf
 jn)<|jj (sIf (dPT<|jd<|jK jR #[pV 0,pV 3,pV 1]) qf
 jn)<|jj (sIf (dPT<|jd<|jK jh #[pV 3,pV 1]) qf
 jn)<|jj (sIf (dPT<|xE (jd<|p2 ve (p2 jf (pV 1)<|pI 0)<|pS [103,117,97,114,100])<|jd<|vG jy 1 "shares_or_repays" (pV 3) #[p2 jf (pV 1)<|pI 2]) qf
 jn)<|sIf (dPT<|jd<|jK jo #[pV 0,pV 3,p2 jf (pV 1)<|pI 0]) qf
 jn)
def yN:List D->Option D:=fnP 4 qK
def y9:FS:=(jj (yB (dP<|pF<|p2 jf (p2 jf (pV 3)<|p2 jA (pV 8)<|pCB vg #[pV 3])<|pI 0)<|jl [1] 9)<|jj (sIf (dOr (jaG<|dOp Y0 (dOp jA (yu js 1 1<|ja (pF<|pV 0)<|pFs pN)<|dP<|pI 3)<|dP<|pI 0)<|dPT<|jd<|p2 (yZ false) (pV 9)<|yS (YK<|pV 7) (jl [] 0) qT (pF<|p2 jf (pV 0)<|pI 0) [none]) (yB (dP<|jK jC #[pV 2,p2 jO (pI 100)<|pV 8])<|jl [1] 9)
 jn)<|sFz 9<|Kc 7<|dFz<|yu kc 1 1<|ja (pF<|pV 0)<|pFs #[pF<|pV 9,pF<|pV 3,pF<|pV 4,pF<|pV 5])
def Y2:FS:=(jj (yB (dP<|kF pN)<|jl [1] 7)<|jj (jcv (jbU<|jT (dOp jO (dP<|pI 1)<|dOp jA (yu js 1 1<|ja (pF<|pV 0)<|pFs pN)<|dP<|pF<|pV 6) YG) (jl [1] 8) y9)<|jS<|dMv 7)
def ku:List D->Option (D×D):=fnM 10 1 Y2
def QU:FS:=(jj (yB (dP<|jK Ja #[pV 0])<|jl [] 2)<|jj (sIf (dPT<|jd<|p2 ve (pCB vg #[pV 2])<|pI 0) (jS<|dP<|pC .non)
 jn)<|jS<|dP<|jK Jj #[pV 2,jK jW #[p2 jf (pV 2)<|pI 0,p2 Qq (pCB vg #[pV 2])<|pI 1],pV 1])
def kX:List D->Option D:=fnP 3 QU
def ko:FS:=(jj (yB (kj jJ<|jT (yu js 1 1<|ja (pF<|pV 0)<|pFs pN) YG)<|jl [1] 9)<|Kc 7<|uG<|jT (dP<|jK jC #[pV 2,p2 jO (p2 jO (p2 qh (pI 10)<|pV 3)<|pI 1)<|pV 8])<|jT (dP<|pF<|pV 9)<|jT (kj jJ<|jT (yu js 1 1<|ja (pF<|pV 0)<|pFs pN) YG) YG)
def kx:FS:=(jj (yB (yu js 1 1<|ja (pF<|pV 0)<|pFs pN)<|jl [1] 15)<|jaA 14<|kC #[pF<|p2 jf (p2 jf (pV 7)<|p2 jA (pV 15)<|pV 11)<|pI 0,p2 jO (pI 1)<|p2 jA (p2 yf (pV 15)<|pI 10)<|pI 9,pF<|p2 jf (p2 jf (pV 13)<|p2 jA (p2 yf (pV 15)<|pI 100)<|pCB vg #[pV 13])<|pI 0])
def KJ:FS:=(jj (yB (yu js 1 1<|ja (pF<|pV 0)<|pFs pN)<|jl [1] 6)<|jj (yB (dP<|kF pN)<|jl [1] 7)<|jj (Qd (qx #[p2 jO (pI 1)<|p2 jA (pV 6)<|pI 6]) (jl [1] 8) ko)<|jj (yB (z7 (qx #[p2 jA (p2 yf (pV 6)<|pI 6)<|pI 4]) (jl [4] 0) (uG<|jT (dP<|jK jC #[pV 1,p2 jO (p2 jO (p2 qh (pI 10)<|pV 2)<|pI 7)<|pV 0])<|jT (kj jJ<|jT (yu js 4 1<|ja (pF<|pV 3)<|pFs pN) YG) YG) [none,some 2,some 3,some 0,some 1] 1 4)<|jl [1] 10)<|jj (yB (dP<|pCB vg #[pV 7])<|jl [1] 11)<|jj (yB (dP<|yS (qx #[p2 jA (p2 yf (pV 6)<|pI 24)<|p2 jO (pV 11)<|pI 1]) (jl [] 0) qT (pF<|p2 jf (p2 jf (pV 1)<|p2 jA (p2 jO (p2 yf (pV 2)<|pI 100)<|pV 0)<|pV 3)<|pI 0) [none,some 7,some 6,some 11])<|jl [1] 12)<|jj (sFz 7<|sFz 10<|yB (yu ku 1 1<|ja (pF<|pV 0)<|pFs #[pF<|pV 2,pF<|pV 7,pF<|pV 10,pF<|pV 4,pF<|pV 5])<|jl [1] 13)<|jj (yB (dP<|kF pN)<|jl [1] 14)<|jj (Qd (qx #[p2 jA (p2 yf (pV 6)<|pI 1000)<|pI 5]) (jl [1] 8) kx)<|jj (sFz 7<|sFz 10<|sFz 13<|yB (yu vK 1 1<|ja (pF<|pV 0)<|pFs #[pF<|pV 7,pF<|pV 10,pF<|pV 13])<|jl [1] 16)<|sFz 7<|sFz 10<|sFz 12<|sFz 13<|sFz 14<|sFz 16<|jS<|dP<|kC #[jK jC #[pV 2,p2 qh (pI 10)<|pV 3],pF<|pV 7,pF<|pV 10,pF<|pV 12,pF<|pV 13,pF<|pV 14,pF<|pV 16])
def Jb:List D->Option (D×D):=fnM 17 1 KJ
def yU:FS:=(jj (yB (dP<|jK kX #[pV 4,pV 3])<|jl [] 5)<|sIf (dPT<|jd<|p2 qR (pV 5)<|pC .non) (jj (xT<|dP<|jK yN #[pV 1,pV 5,pV 3])<|sFz 5<|xT<|zF jx 1 2 "take_row" #[pF<|pV 5,pF<|pV 3])
 jn)
def Vx:FS:=(jj (yB (dP<|wV yo 2 pN)<|jl [] 1)<|jj (yB (dP<|pBM "str" J6 (pV 0) #[pS [10]])<|jl [] 2)<|jj (sFz 2<|Qd (jjo #[pF<|pV 2] (pI 1)) (gT 2<|gC (jl [] 3)<|gC (jl [] 4) gN) yU)<|jj (xT<|dP<|jK vN #[pV 1,pCB vg #[pV 2]])<|sFz 1<|jS<|dP<|yS (YK<|vp 2 "pools"<|pV 1) (jl [] 0) qT (vG jY 1 "pool_told" (pV 0) pN) [none])
def kY:List D->Option D:=fnP 6 Vx
def kq:FS:=(jj (yB (dP<|yS (YK<|pV 5) (jl [] 0) (jd<|p2 Ka (pV 0)<|p2 jf (pV 1)<|pV 2) (pF<|pV 0) [none,some 5,some 7])<|jl [] 8)<|sFz 8<|Kc 6<|yu Jb 1 1<|ja (pF<|pV 0)<|pFs #[pF<|pV 2,pF<|pV 7,pF<|pV 8,pF<|p2 jf (kF #[pI 5,pI 2])<|pCB jcn #[p2 ve (pV 4)<|pI 6]])
def Kh:FS:=(jj (yB (dP<|kF #[pI 0])<|jl [] 1)<|jj (yB (dP<|p2 jA (jK v9 #[pV 0,pI 0])<|p2 xQ (pI 10)<|pI 12)<|jl [] 2)<|jj (yB (yu js 1 1<|ja (pF<|pV 0)<|pFs pN)<|jl [] 3)<|jj (yB (dP<|pF<|p2 jf (kF #[pI 1,pI 2,pI 3,pI 1,pI 2,pI 6])<|p2 jA (pV 3)<|pI 6)<|jl [] 4)<|jj (yB (dP<|yS (qx #[pV 4]) (jl [] 0) qT (jK jC #[pV 1,p2 qh (pI 10)<|pV 0]) [none,some 2])<|jl [] 5)<|jj (yB (dP<|kF pN)<|jl [] 6)<|jj (Qd (qx #[pV 4]) (jl [] 7) kq)<|jS<|dMv 6)
def kN:List D->Option D:=fnP 9 Kh
def kr(yR:List D->Option D):FS:=(sIf (dPT<|jdo<|jd<|jK yR #[pV 2,pV 3]) (jS<|dP<|pC<|.bl false)
 jn)
def kM(yR:List D->Option D):FS:=(jj (sIf (dPT<|qOr (jd<|QZ "list"<|pV 1)<|jd<|QZ "tuple"<|pV 1) (jj (sIf (dPT<|jd<|p2 Ka (QZ "list"<|pV 1)<|QZ "list"<|pV 0) (jS<|dP<|pC<|.bl false)
 jn)<|jj (sIf (dPT<|jd<|p2 Ka (QZ "tuple"<|pV 1)<|QZ "tuple"<|pV 0) (jS<|dP<|pC<|.bl false)
 jn)<|jj (sIf (dPT<|jd<|p2 Ka (pCB vg #[pV 0])<|pCB vg #[pV 1]) (jS<|dP<|pC<|.bl false)
 jn)<|jj (Qd (pZN 2 #[pF<|pV 0,pF<|pV 1]) (gT 2<|gC (jl [] 2)<|gC (jl [] 3) gN)<|kr yR)<|jS<|dP<|pC<|.bl true)
 jn)<|jj (sIf (dPT<|jd<|p2 Kp (pV 1)<|pC .non) (jS<|dP<|p2 Kp (pV 0)<|pC .non)
 jn)<|jj (sIf (dPT<|jd<|QZ "str"<|pV 1) (jS<|dP<|jci (QZ "str"<|pV 0)<|p2 ve (pV 0)<|pV 1)
 jn)<|jS<|dP<|jci (QZ "int"<|pV 0)<|jci (jfU<|QZ "bool"<|pV 0)<|p2 ve (pV 0)<|pV 1)
def yG:Nat->List D->Option D
 | 0=>λ_=>none
 | n+1=>fnP 4<|kM<|yG n
def yR:List D->Option D:=yG 9
def jld:FS:=(jj (yB (dP<|jK kN #[pV 0])<|jl [] 1)<|jj (sFz 1<|yB (dP<|jK ky #[pV 1])<|jl [] 2)<|jj (sIf (dPT<|qOr (jdo<|jd<|QZ "str"<|pV 2)<|jd<|p2 Ka (pV 2)<|pBM "str" J7 (pS [10]) #[yS (pIt<|jK qd #[pV 1]) (jl [] 0) qT (pBM "str" J7 (pS [32]) #[pV 0]) [none]]) (jS<|dP<|pC<|.bl false)
 jn)<|jj (sIf (dPT<|jdo<|jd<|jK yR #[pV 1,jK kN #[pV 0]]) (jS<|dP<|pC<|.bl false)
 jn)<|jS<|dP<|jK yR #[jK kY #[pV 2],pV 1])
def jay:List D->Option D:=fnP 3 jld
structure Txt(P:Program)(w:World)(K:J4)(mg:K6)(cl:Nat->Addr)(jH:Addr)(b_NAME_COUNTS_0:Addr)(b_NAME_COUNTS_1:Addr)(vR:Addr)(b_FORMS_0:Addr)(b_FORMS_1:Addr)(b_FORMS_2:Addr)(b_FORMS_3:Addr)(b_FORMS_4:Addr)(b_FORMS_5:Addr)(b_FORMS_6:Addr)(b_FORMS_7:Addr)(b_FORMS_8:Addr)(b_FORMS_9:Addr)(b_FORMS_10:Addr)(b_FORMS_11:Addr)(b_FORMS_12:Addr)(va:Addr)(t_LONGEST_NAME:Tok)(yE:Addr)(t_LETTERS:Tok)(t_LONGEST_NUMBER:Tok)(t_FIGURES:Tok)(qg:Addr)(kG:Addr)(t_MOST_RULES:Tok)(yb:Addr):Prop where
 aa:mg "NAME_COUNTS" = some (.ref jH)
 k_NAME_COUNTS:KD P w K jH ((ks_NAME_COUNTS.map kaV).zip [.ref b_NAME_COUNTS_0,.ref b_NAME_COUNTS_1])
 ab:∀(cl:Nat->Addr) (Z:Zn) (H:Hp),Reps ⟨K,cl⟩ Z H v8 [.ref b_NAME_COUNTS_0,.ref b_NAME_COUNTS_1] []
 ac:mg "FORMS" = some (.ref vR)
 k_FORMS:KD P w K vR ((ks_FORMS.map kaV).zip [.ref b_FORMS_0,.ref b_FORMS_1,.ref b_FORMS_2,.ref b_FORMS_3,.ref b_FORMS_4,.ref b_FORMS_5,.ref b_FORMS_6,.ref b_FORMS_7,.ref b_FORMS_8,.ref b_FORMS_9,.ref b_FORMS_10,.ref b_FORMS_11,.ref b_FORMS_12])
 ad:∀(cl:Nat->Addr) (Z:Zn) (H:Hp),Reps ⟨K,cl⟩ Z H wS [.ref b_FORMS_0,.ref b_FORMS_1,.ref b_FORMS_2,.ref b_FORMS_3,.ref b_FORMS_4,.ref b_FORMS_5,.ref b_FORMS_6,.ref b_FORMS_7,.ref b_FORMS_8,.ref b_FORMS_9,.ref b_FORMS_10,.ref b_FORMS_11,.ref b_FORMS_12] []
 ae:mg "STAGES" = some (.ref va)
 k_STAGES:KD P w K va ((ks_STAGES.map kaV).zip [.int 1,.int 2,.int 3,.int 4,.int 4,.int 4,.int 4,.int 4,.int 4,.int 4,.int 4,.int 4,.int 5,.int 6])
 af:∀(cl:Nat->Addr) (Z:Zn) (H:Hp),Reps ⟨K,cl⟩ Z H yW [.int 1,.int 2,.int 3,.int 4,.int 4,.int 4,.int 4,.int 4,.int 4,.int 4,.int 4,.int 4,.int 5,.int 6] []
 ag:mg "LONGEST_NAME" = some (.int 8 t_LONGEST_NAME)
 ah:mg "KEYWORDS" = some (.ref yE)
 ai:∀(cl:Nat->Addr) (Z:Zn) (H:Hp),Rep ⟨K,cl⟩ Z H Je (.ref yE) []
 aj:mg "LETTERS" = some (.str "abcdefghijklmnopqrstuvwxyz" t_LETTERS)
 ak:mg "LONGEST_NUMBER" = some (.int 13 t_LONGEST_NUMBER)
 al:mg "FIGURES" = some (.str "0123456789" t_FIGURES)
 am:mg "MOST" = some (.ref qg)
 k_MOST:KD P w K qg ((ks_MOST.map kaV).zip [.int 6,.int 6,.int 3,.int 5,.int 6,.int 4,.int 3])
 ao:∀(cl:Nat->Addr) (Z:Zn) (H:Hp),Reps ⟨K,cl⟩ Z H Ko [.int 6,.int 6,.int 3,.int 5,.int 6,.int 4,.int 3] []
 ap:mg "RULES" = some (.ref kG)
 aq:∀(cl:Nat->Addr) (Z:Zn) (H:Hp),Rep ⟨K,cl⟩ Z H VZ (.ref kG) []
 ar:mg "MOST_RULES" = some (.int 8 t_MOST_RULES)
 au:mg "GREATEST" = some (.ref yb)
 k_GREATEST:KD P w K yb ((ks_GREATEST.map kaV).zip [.int 1000000000000,.int 10,.int 9,.int 60,.int 30])
 av:∀(cl:Nat->Addr) (Z:Zn) (H:Hp),Reps ⟨K,cl⟩ Z H Jm [.int 1000000000000,.int 10,.int 9,.int 60,.int 30] []
 C0:Cls K (cl 0)
 mk0:PySem.W.makesIn K (cl 0)=true
 kc0:PySem.W.keepIn K (.ref<|cl 0)=true
 mg0:mg "OrderDraft" = some (.ref<|cl 0)
 C1:Cls K (cl 1)
 mk1:PySem.W.makesIn K (cl 1)=true
 kc1:PySem.W.keepIn K (.ref<|cl 1)=true
 mg1:mg "PoolDraft" = some (.ref<|cl 1)
 C2:Cls K (cl 2)
 mk2:PySem.W.makesIn K (cl 2)=true
 kc2:PySem.W.keepIn K (.ref<|cl 2)=true
 mg2:mg "DealDraft" = some (.ref<|cl 2)
 N0_name:NoAttr K (cl 0) "name"
 N0_parts:NoAttr K (cl 0) "parts"
 N0_rules:NoAttr K (cl 0) "rules"
 N1_name:NoAttr K (cl 1) "name"
 N1_claims:NoAttr K (cl 1) "claims"
 N1_pots:NoAttr K (cl 1) "pots"
 N1_eat:NoAttr K (cl 1) "eat"
 N1_orders:NoAttr K (cl 1) "orders"
 N1_looks:NoAttr K (cl 1) "looks"
 N1_guards:NoAttr K (cl 1) "guards"
 N2_pools:NoAttr K (cl 2) "pools"
 N2_names:NoAttr K (cl 2) "names"
 N2_loan_rows:NoAttr K (cl 2) "loan_rows"
 aw:mg "all" = none
 ay:mg "any" = none
 az:mg "bool" = none
 aA:mg "enumerate" = none
 aB:mg "int" = none
 aC:mg "isinstance" = none
 aD:mg "len" = none
 aE:mg "list" = none
 aF:mg "min" = none
 aG:mg "range" = none
 aH:mg "set" = none
 aI:mg "str" = none
 aJ:mg "tuple" = none
 aK:mg "zip" = none
 aL:kf K mg "words_joined" (top 3) ["words"] 1
 aM:kf K mg "with_first" (top 5) ["kind","told"] 2
 aN:kf K mg "rule_row" (top 7) ["rule"] 1
 aO:kf K mg "rule_of" (top 9) ["words"] 1
 aP:Q0 K (cl 0) "__init__" "OrderDraft.__init__" (y0 (top 10) 0) ["self","name"] 2
 aQ:Q0 K (cl 0) "has_rest" "OrderDraft.has_rest" (y0 (top 10) 1) ["self"] 1
 aR:Q0 K (cl 0) "shares_or_repays" "OrderDraft.shares_or_repays" (y0 (top 10) 2) ["self","claim","rule"] 2
 aS:Q0 K (cl 0) "order_told" "OrderDraft.order_told" (y0 (top 10) 3) ["self"] 1
 aT:Q0 K (cl 1) "__init__" "PoolDraft.__init__" (y0 (top 11) 0) ["self","name"] 2
 aU:Q0 K (cl 1) "has_claim" "PoolDraft.has_claim" (y0 (top 11) 2) ["self","name"] 2
 aV:Q0 K (cl 1) "has_pot" "PoolDraft.has_pot" (y0 (top 11) 3) ["self","name"] 2
 aW:Q0 K (cl 1) "has_order" "PoolDraft.has_order" (y0 (top 11) 4) ["self","name"] 2
 aX:Q0 K (cl 1) "has_guard" "PoolDraft.has_guard" (y0 (top 11) 5) ["self","claim"] 2
 aY:kf K mg "words_in" (top 27) ["row"] 1
 aZ:kf K mg "has_only" (top 28) ["word","signs"] 2
 b7:kf K mg "kinds_behind" (top 36) ["first","many","ends"] 2
 b8:Q0 K (cl 2) "__init__" "DealDraft.__init__" (y0 (top 44) 0) ["self"] 1
 b9:Q0 K (cl 2) "last_pool" "DealDraft.last_pool" (y0 (top 44) 1) ["self"] 1
 ba:kf K mg "stage_of" (top 48) ["pool"] 1
 bc:kf K mg "told_of_kind" (top 54) ["pool","kind"] 2
 be:kf K mg "_law_keywords" (top 57) ["_law_heads"] 0
 bf:kf K mg "_law_draw" (top 58) ["_law_script","_law_k","_law_cell","_law_factor"] 2
 bg:kf K mg "_law_coins" (top 61) ["_law_n"] 1
 bh:kf K mg "_law_shared_names" (top 65) ["_law_orders_here","_law_names","_law_order_here","_law_rule_here"] 1
 bi:kf K mg "_law_pool_lines" (top 69) ["_law_pool_here","_law_lines_here","_law_order_here","_law_rule_here"] 1
 bj:kf K mg "rows_joined" (top 2) ["rows"] 1
 bn:kf K mg "order_rows" (top 6) ["order","rows"] 1
 bo:Q0 K (cl 1) "shares_or_repays" "PoolDraft.shares_or_repays" (y0 (top 11) 6) ["self","claim"] 2
 bp:Q0 K (cl 1) "pool_told" "PoolDraft.pool_told" (y0 (top 11) 7) ["self","orders"] 1
 br:kf K mg "is_name" (top 29) ["word"] 1
 bt:kf K mg "number_in" (top 30) ["word"] 1
 bu:kf K mg "is_out_of_order" (top 49) ["pool","kind","order"] 2
 bv:kf K mg "is_early" (top 50) ["pool","kind"] 2
 bw:kf K mg "is_twice" (top 51) ["draft","pool","words","kind"] 3
 bx:kf K mg "names_unknown" (top 52) ["pool","words","kind"] 2
 bz:kf K mg "is_one_too_many" (top 53) ["draft","pool","kind"] 3
 bA:kf K mg "_law_next" (top 59) ["_law_script","_law_at"] 2
 bB:kf K mg "_law_name" (top 60) ["_law_seed","_law_k","_law_letters","_law_size","_law_spot","_law_word","_law_two"] 2
 bC:kf K mg "_law_rule" (top 62) ["_law_n","_law_claims","_law_pots","_law_others","_law_way","_law_many","_law_name_here","_law_size"] 4
 bD:kf K mg "_law_lines" (top 70) ["_law_deal_here","_law_lines_here","_law_pool_here"] 1
 bE:kf K mg "pool_rows" (top 4) ["pool","rows","order"] 1
 bF:Q0 K (cl 1) "put" "PoolDraft.put" (y0 (top 11) 1) ["self","words","kind","behind"] 2
 bG:kf K mg "value_in" (top 38) ["word","kind","number"] 2
 bH:kf K mg "is_misplaced" (top 47) ["pool","kind"] 2
 bI:kf K mg "refuse_end" (top 55) ["draft","many","pool","pools","place","own","other"] 2
 bJ:kf K mg "_law_order" (top 63) ["_law_script","_law_at","_law_name_here","_law_claims","_law_pots","_law_others","_law_n","_law_many","_law_parts","_law_j","_law_rules"] 6
 bK:kf K mg "_law_guards" (top 66) ["_law_script","_law_at","_law_claims","_law_pots","_law_orders_here","_law_held","_law_free","_law_guards_here","_law_j"] 5
 bL:kf K mg "shown_deal" (top 1) ["deal","rows","pool"] 1
 bM:kf K mg "row_told" (top 37) ["words","kinds","place","told","word","kind","value"] 3
 bN:Q0 K (cl 2) "take_row" "DealDraft.take_row" (y0 (top 44) 2) ["self","words","place","kind","pool"] 3
 bO:kf K mg "refuse_row" (top 46) ["draft","words","place","pool"] 3
 bP:kf K mg "_law_orders" (top 64) ["_law_script","_law_at","_law_seed","_law_claims","_law_pots","_law_others","_law_most","_law_orders_here","_law_j","_law_name_here"] 7
 bQ:kf K mg "row_of" (top 35) ["row","place","words"] 2
 bR:kf K mg "_law_pool" (top 67) ["_law_script","_law_at","_law_seed","_law_k","_law_others","_law_most","_law_n","_law_claims","_law_j","_law_size","_law_pots","_law_many","_law_eat","_law_orders_here","_law_looks","_law_m","_law_guards_here"] 6
 bS:kf K mg "read_deal" (top 45) ["text","draft","rows","place","row","words"] 1
 bT:kf K mg "_law_deal" (top 68) ["_law_script","_law_at","_law_seed","_law_n","_law_many","_law_names","_law_deal_here","_law_k","_law_others"] 1
 bU:kf K mg "_law_same" (top 71) ["_law_found","_law_due","_law_one","_law_two"] 2
 bV:kf K mg "law" (top 72) ["_law_script","_law_deal_here","_law_found"] 1
section
variable {P:Program}{w:World}{K:J4}{mg:K6}{cl:Nat->Addr}{jH:Addr}{b_NAME_COUNTS_0:Addr}{b_NAME_COUNTS_1:Addr}{vR:Addr}{b_FORMS_0:Addr}{b_FORMS_1:Addr}{b_FORMS_2:Addr}{b_FORMS_3:Addr}{b_FORMS_4:Addr}{b_FORMS_5:Addr}{b_FORMS_6:Addr}{b_FORMS_7:Addr}{b_FORMS_8:Addr}{b_FORMS_9:Addr}{b_FORMS_10:Addr}{b_FORMS_11:Addr}{b_FORMS_12:Addr}{va:Addr}{t_LONGEST_NAME:Tok}{yE:Addr}{t_LETTERS:Tok}{t_LONGEST_NUMBER:Tok}{t_FIGURES:Tok}{qg:Addr}{kG:Addr}{t_MOST_RULES:Tok}{yb:Addr}(T:Txt P w K mg cl jH b_NAME_COUNTS_0 b_NAME_COUNTS_1 vR b_FORMS_0 b_FORMS_1 b_FORMS_2 b_FORMS_3 b_FORMS_4 b_FORMS_5 b_FORMS_6 b_FORMS_7 b_FORMS_8 b_FORMS_9 b_FORMS_10 b_FORMS_11 b_FORMS_12 va t_LONGEST_NAME yE t_LETTERS t_LONGEST_NUMBER t_FIGURES qg kG t_MOST_RULES yb)
include T
def okx:OkQ P w K mg cl (cl 2) "last_pool" "DealDraft.last_pool" (y0 (top 44) 1) ["self"] jq:=by
 obtain⟨S,f,fd,F⟩:=T.b9;intro base;obtain⟨te,a,G⟩:=jpe (L:=jq) F.fn S rfl rfl (jh0 (λq=>⟨_,rfl,q⟩)<|jfw (R:=⟨K,cl⟩) T.C2 T.N2_pools K0)<|λb A outer s H E d=>jbq<|jfu<|QP.sem (c:=cl)<|jou (jfk joq (QP.bb<|jkc T.aD<|jcK (jd3 T.C2 T.N2_pools<|jhh 0) jfM) qI) (QB.f<|jnt (jd3 T.C2 T.N2_pools<|jhh 0)<|QP.bb<|jkq qI) jkl;exact⟨te,a,f,fd,F,G⟩
set_option maxHeartbeats 40000000 in
def jlC:NP P w cl T.aL 1 y6 /\
 NP P w cl T.aM 1 yw /\
 NP P w cl T.aN 1 yT /\
 NP P w cl T.aO 1 km /\
 OM P w cl mg T.aP 1 yi /\
 OP P w cl mg T.aQ 1 jv /\
 OP P w cl mg T.aR 1 jw /\
 OP P w cl mg T.aS 1 jQ /\
 OM P w cl mg T.aT 1 j5 /\
 OP P w cl mg T.aU 1 jt /\
 OP P w cl mg T.aV 1 j8 /\
 OP P w cl mg T.aW 1 jZ /\
 OP P w cl mg T.aX 1 yg /\
 NP P w cl T.aY 1 Ja /\
 NP P w cl T.aZ 1 kK /\
 NP P w cl T.b7 1 jW /\
 OM P w cl mg T.b8 1 yo /\
 OP P w cl mg T.b9 1 ju /\
 NP P w cl T.ba 1 yX /\
 NP P w cl T.bc 1 jr /\
 NP P w cl T.be 1 vD /\
 NP P w cl T.bf 1 v9 /\
 NP P w cl T.bg 1 jJ /\
 NP P w cl T.bh 1 yJ /\
 NP P w cl T.bi 1 vU /\
 NP P w cl T.bj 2 v7 /\
 NP P w cl T.bn 2 qu /\
 OP P w cl mg T.bo 2 jy /\
 OP P w cl mg T.bp 2 jY /\
 NP P w cl T.br 2 J5 /\
 NP P w cl T.bt 2 yn /\
 NP P w cl T.bu 2 yr /\
 NP P w cl T.bv 2 yc /\
 NP P w cl T.bw 2 jR /\
 NP P w cl T.bx 2 jh /\
 NP P w cl T.bz 2 jo /\
 NJ P w cl T.bA 2 1 js /\
 NP P w cl T.bB 2 jC /\
 NP P w cl T.bC 2 vd /\
 NP P w cl T.bD 2 qd /\
 NP P w cl T.bE 3 JU /\
 OM P w cl mg T.bF 3 je /\
 NP P w cl T.bG 3 vx /\
 NP P w cl T.bH 3 jE /\
 NP P w cl T.bI 3 vN /\
 NJ P w cl T.bJ 3 1 kc /\
 NJ P w cl T.bK 3 1 vK /\
 NP P w cl T.bL 4 ky /\
 NP P w cl T.bM 4 Jj /\
 OM P w cl mg T.bN 4 jx /\
 NP P w cl T.bO 4 yN /\
 NJ P w cl T.bP 4 1 ku /\
 NP P w cl T.bQ 5 kX /\
 NJ P w cl T.bR 5 1 Jb /\
 NP P w cl T.bS 6 kY /\
 NP P w cl T.bT 6 kN /\
 NP P w cl T.bU 9 yR /\
 NP P w cl T.bV 10 jay:=by
 have c:=okx T;cases T
 repeat' refine jph ?_ λ_=>?_
 all_goals
  (first | refine okR (by assumption) (λ_=>rfl) (λj f fd S F _ base=>?_) _ | refine okN (by assumption) λf fd S F base=>?_ | refine okO (by assumption) λf fd S F base=>?_)
  (first | refine' jnU F.fn S rfl λa A outer s H E b=>?_ | refine' jlH F.fn S rfl λa A outer s H E b=>?_)
  apply Exists.intro
  repeat' first | exact rfl | (show QB _ _ _ _ _;first | apply jhh | apply qI | apply jnt | apply jd3 | apply jkP | apply jhO | apply QK.ix | apply QK.fld | apply QP.bb) | (show QBs _ _ _ _ _;first | apply jcK | apply jfM) | (show QSs _ _ _ _ _ _;first | apply jgZ | apply jeO | apply jip | apply jdr) | (show QE _ _ _ _ _;first | ((with_reducible show QE _ _ _ _ (dCB jnh _));refine' jeb (jb1 rfl) jmN ?_ jcp ?_) | apply jeD | apply jpr | apply jjn | apply jln | apply jd7 | apply jkD | apply jmx | apply jf2 | apply QE.fz | apply QP.d) | (show QPs _ _ _ _ _;first | apply jgz | apply jiX) | (show QP _ _ _ _ _;first | ((with_reducible show QP _ _ _ _ (pCB YA _));refine' JM zC jhm ?_ KF ?_) | ((with_reducible show QP _ _ _ _ (pCB V8 _));refine' JM (jdD jbo ja8) jkL ?_ Q5 ?_) | ((with_reducible show QP _ _ _ _ (pCB jeL _));refine' JM kW jb5 ?_ kU ?_) | ((with_reducible show QP _ _ _ _ (pCB ki _));refine' JM kW je3 ?_ kU ?_) | ((with_reducible show QP _ _ _ _ (pCB jlc _));refine' wz (jeE rfl) jiM ?_ jbO ?_) | ((with_reducible show QP _ _ _ _ (pCB ki _));refine' JM kW jb5 ?_ kU ?_) | ((with_reducible show QP _ _ _ _ (pCB jlY _));refine' wz (jeV rfl) ji4 ?_ jc0 ?_) | ((with_reducible show QP _ _ _ _ (pCB jl6 _));refine' JM jcj jlE ?_ VN ?_) | ((with_reducible show QP _ _ _ _ (pCB jcn _));refine' JM jbu jhU ?_ VN ?_) | ((with_reducible show QP _ _ _ _ (QZ "list" _));refine' jcR (T:="list") (by decide) ?_ ?_ KF ?_) | ((with_reducible show QP _ _ _ _ (QZ "tuple" _));refine' jcR (T:="tuple") (by decide) ?_ ?_ kU ?_) | ((with_reducible show QP _ _ _ _ (QZ "str" _));refine' jcR (T:="str") (by decide) ?_ ?_ Q5 ?_) | ((with_reducible show QP _ _ _ _ (QZ "int" _));refine' jcR (T:="int") (by decide) ?_ ?_ VN ?_) | ((with_reducible show QP _ _ _ _ (QZ "bool" _));refine' jcR (T:="bool") (by decide) ?_ ?_ jaw ?_) | ((with_reducible show QP _ _ _ _ (pBM "str" J7 _ _));refine' jmG PySem.F.plainAttrs_str PySem.F.slot_str_join PySem.F.type_str_join jaX jcI ?_ ?_) | ((with_reducible show QP _ _ _ _ (pBM "str" J6 _ _));refine' jmG PySem.F.plainAttrs_str PySem.F.slot_str_split PySem.F.type_str_split je6 jey ?_ ?_) | apply qS | apply jkc | apply jfQ | apply jm2 | apply jm9 | apply jmE | apply jjD | apply jna | apply jgA | apply jpu | apply jkl | apply jly | apply jno | apply jn8 | apply jfE | apply jo4 | apply jkq | apply jmt | apply jnr | apply jmd | apply jou | apply ji6 | apply jnX | apply jpx | apply jcF | apply jjH | apply jjG | apply joL | apply joW | apply joO | apply jmU | apply jfb | apply jeN | apply jjz | apply jgx | apply QK.add | apply QK.call | apply QK.meth | apply QK.methZ | refine' QK.bm (K:=K) rfl PySem.F.plainAttrs_str PySem.F.slot_str_join PySem.F.type_str_join (QK.join (K:=K) rfl) jcI ?_ ?_ | apply jmz | apply QB.f) | (show QS _ _ _ _ _ _;first | apply jj1 | apply jnJ | apply QS.fz | apply jjx | apply jkw | apply jdW | apply jli | apply jky | apply jgW | apply jho | apply jkU | apply jhw | apply wH (hsw:=by with_unfolding_all rfl) | apply jah | apply jlw | apply jfh | apply jg3 | apply jeh | apply jg2 | apply jmp | apply jkV) | (show QT _ _ _ _ _;first | apply jlJ | apply jeB | apply jlb | apply jfk | apply jlh | apply QW.t) | (show QDs _ _ _ _ _;first | apply jgC | apply jj0) | (show QIb _ _ _ _ _ _;first | apply jhM | apply QI.b') | (show QG _ _ _ _ _ _;first | apply jh1 | apply jiO) | (show QJ _ _ _ _ _ _ _;first | apply jil | apply jio) | (show QL _ _ _ _ _ _;first | apply jk9 | apply jjw | apply jjt | apply jeR) | (show QI _ _ _ _ _ _;first | apply jiU | apply jix | apply jjv | apply jn3) | (show QW _ _ _ _ _;first | apply jgv | apply jjZ | apply jju | apply jn5) | (show QGs _ _ _ _ _ _;first | apply jd0 | apply jf7) | (show QO _ _ _ _ _;first | apply jie | apply jit) | apply jej | apply jdT | (show QTE _ _ _ _ _;first | apply jjm | apply QT.d | apply QWE.test) | (show QWE _ _ _ _ _;first | apply jmV | apply jkh) | apply jo0 | apply joq | apply c_in | apply joK | apply c_ne | apply c_notin | apply jpk | apply jpm | apply jpb | apply jh2 | apply QK.c_ne | apply QK.c_in | apply QK.c_notin | apply uV | apply zv | apply QK.join | exact Or.inl rfl | exact Or.inr rfl | exact Or.inr (Or.inl rfl) | exact Or.inr (Or.inr rfl) | exact λ_=>rfl | exact λ_ _=>rfl | exact λ_ _ _=>rfl | exact b.mono (by decide) | exact b.mono (by first | exact M9 _ | exact Nat.le_add_left _ _ | exact N9 (by decide)<|Nat.le_add_right _ _) | apply jep | exact S.nd | (show BlockOk _ _ _ _;exact bkN S) | exact PassesOwn.never | exact jkO | exact jls | (intro _ _ _ _;first | show QE _ _ _ _ _ | show QP _ _ _ _ _ | show QG _ _ _ _ _ _ | show QIf _ _ _ _ _ | show QT _ _ _ _ _ | show QKv _ _ _ _ _ _) | exact⟨rfl,rfl,rfl,rfl⟩ | exact ndN (by decide +kernel) | decide +kernel | with_unfolding_all rfl | apply jbT | assumption | apply zv | apply uV | apply jbT | apply jmg | apply jcQ | apply je0 | (show ∀(Z:Zn) (H:Hp),Rep _ _ _ _ _ _;intro _ _;apply_assumption) | (show ∀(Z:Zn) (H:Hp),Reps _ _ _ _ _ _;intro _ _;apply_assumption)
end
abbrev Lt(w:List Nat):Prop:=∀ c∈w,97<=c/\c<=122
def jct(h1:Lt a)(h2:Lt b):Lt (a++b):=λc d=>(N4.mp d).elim (h1 c) (h2 c)
def jfL(h:97<=c/\c<=122):Lt [c]:=λd hd=>by rw[M8.mp hd];exact h
abbrev jaN(ns:List Int):Prop:=∀ x∈ns,Builtin.Int.intBits x<=2 ^ 20
def jbW(ns)(o:jaN ns)  (h:0<=k) (h1:k<=100000):∃ v,v9 [.lst false<|ns.map D.int,.int k]=some (.int v)/\0<=v/\v<170141183460469231731687303715884105727:=by
 have p:0<=7919000003*k*k/\7919000003*k*k<=7919000003*100000*100000:=⟨Int.mul_nonneg ∅ h,Int.mul_le_mul ∅ h1 h ∅⟩;have a:(91343852333181432387730302044767688731+7919000003*k*k).natAbs<2 ^ 1000:=by lia
 cases ns with
 | nil=>
  have j:=YH (i:=0+k+1) ∅ a;refine⟨(0+k+1)*(91343852333181432387730302044767688731+7919000003*k*k)%170141183460469231731687303715884105727,?_,U7 _<|by decide,U3 _<|by decide⟩;simp(disch:=lia) [v9,jk,Yx,YH,jD,-Int.zero_add]
 | cons c C=>
  have l:0<((c::C).length:Int):=by simp
  have m:=U3 k l;have b:(k%((c::C).length:Int)).toNat<(c::C).length:=by lia
  have f:jf (.lst false<|(c::C).map D.int) (.int<|k%((c::C).length:Int))=some (.int (c::C)[(k%((c::C).length:Int)).toNat]):=by
   rw[xG (U7 k<|show((c::C).length:Int)≠0 by lia)<|by rw[L0];exact m,List.getElem?_map,E5 b];rfl
  have n:=o _<|List.getElem_mem b;generalize(c::C)[(k%((c::C).length:Int)).toNat]=z at f n;have j:=jhe (i:=z+k+1) (by rw[Int.add_assoc];exact jdK n ∅) a;have d:((c::C).length:Int)=(((c::C).map D.int).length:Int):=by simp
  rw[d] at f m l;refine⟨(z+k+1)*(91343852333181432387730302044767688731+7919000003*k*k)%170141183460469231731687303715884105727,?_,U7 _<|by decide,U3 _<|by decide⟩;generalize(c::C).map D.int=NS at *;have e:0<NS.length:=by lia
  have g:¬ NS=[]:=λz=>by rw[z] at e;simp at e
  simp(disch:=lia) [v9,jk,Yx,YH,jD,g,f,j]
def JI(ns:List Int):frzs (ns.map D.int)=true:=kI (λ_=>rfl) _
def jcM(ns:List Int):fzs (ns.map D.int)=ns.map D.int:=Vp (λ_=>rfl) _
noncomputable abbrev At(n:Int):D:=.lst true [.int n]
def vA(ns)(a:jaN ns)  (d:0<=n) (h1:n<100000):∃ v,js [.lst false<|ns.map D.int,At n]=some (.int v,At<|n+1)/\0<=v:=by
 obtain⟨v,e,g,_⟩:=jbW ns a (k:=n+1) ∅ ∅;refine⟨v,?_,g⟩;have b:jf (At n) (.int 0)=some (.int n):=rfl;have c:jf (At<|n+1) (.int 0)=some (.int<|n+1):=rfl;unfold js;rw[qJ];simp[KC,b,c,ixN,e,Y4]
def Vd(hn:0<=n):∃ v,jJ [.int n]=some (.int v)/\1<=v/\v<=1000000000000:=by
 have p3:xQ (.int 10) (.int 12)=some (.int 1000000000000):=rfl;by_cases a:n%4=0
 ·by_cases c:n/4%2=0
  ·exact⟨1,by simp(disch:=lia) [jJ,jk,ka,jD,yx,a,c,jb];rfl,by decide,by decide⟩
  ·have d:n/4%2=1:=by lia
   exact⟨1000000000000,by simp(disch:=lia) [jJ,jk,ka,jD,yx,a,d,jb];rfl,by decide,by decide⟩
 ·by_cases b:n%4=1
  ·exact⟨1+n/4%20,by simp(disch:=lia) [jJ,jk,ka,jD,yx,b],by lia,by lia⟩
  ·exact⟨1+n/4%1000000000000,by simp(disch:=lia) [jJ,jk,ka,jD,yx,a,b,p3],by lia,by lia⟩
noncomputable def ABC:List Nat:=[97,98,99,100,101,102,103,104,105,106,107,108,109,110,111,112,113,114,115,116,117,118,119,120,121,122]
def jdm(a:0<=i)(h1:i<26):jf (.str ABC) (.int i)=some (.str [ABC.getD i.toNat 0]):=jhv (by decide) a (by have:ABC.length=26:=rfl;lia)
def jbd(i:Int)(a:0<=i)(h1:i<26):97<=ABC.getD i.toNat 0/\ABC.getD i.toNat 0<=122:=by
 have:∀ c∈ABC,97<=c/\c<=122:=by decide
 exact this _<|QV (by have:ABC.length=26:=rfl;lia)
def jhr:∀ i,i<26->∀ j,j<26->ABC.getD i 0=ABC.getD j 0->i=j:=by decide
noncomputable def KW:List (List Nat):=[[112,111,111,108],[99,108,97,105,109],[112,111,116],[101,97,116],[111,114,100,101,114],[112,97,114,116],[112,97,121],[115,104,97,114,101],[114,101,112,97,121],[102,105,108,108],[108,101,110,100],[98,97,99,107],[114,101,115,116],[108,111,111,107],[103,117,97,114,100],[100,101,98,116],[111,110],[108,97,116,101],[101,97,114,108,121],[113,117,105,116]]
def wZ:vD []=↑(KW.map D.str):=by
 have a:yO [112,111,111,108,32,99,108,97,105,109,32,112,111,116,32,101,97,116,32,111,114,100,101,114,32,112,97,114,116,32,112,97,121,32,115,104,97,114,101,32,114,101,112,97,121,32,102,105,108,108,32,108,101,110,100,32,98,97,99,107,32,114,101,115,116,32,108,111,111,107,32,103,117,97,114,100,32,100,101,98,116,32,111,110,32,108,97,116,101,32,101,97,114,108,121,32,113,117,105,116] [32]=KW:=by decide +kernel
 have b:J6 (.str [112,111,111,108,32,99,108,97,105,109,32,112,111,116,32,101,97,116,32,111,114,100,101,114,32,112,97,114,116,32,112,97,121,32,115,104,97,114,101,32,114,101,112,97,121,32,102,105,108,108,32,108,101,110,100,32,98,97,99,107,32,114,101,115,116,32,108,111,111,107,32,103,117,97,114,100,32,100,101,98,116,32,111,110,32,108,97,116,101,32,101,97,114,108,121,32,113,117,105,116]) [.str [32]]=↑(KW.map D.str):=by
  rw[<- a];rfl
 simp[vD,jk,JA,b]
def YZ(w)(o)(l:J2):yZ false (.str w) (.lst o<|l.map D.str)=some (.bl<|decide<|w∈l):=by
 show(bif jeA (.str w) (l.map D.str) then some (D.bl<|false != inL (.str w) (l.map D.str)) else none)=_;rw[Vr,Qm];simp
def jc2:∀ ws:List (List Nat),ya [] ws=ws.flatten
 | []=>rfl
 | w::ws=>by rw[KI];simp
structure Nm(w:List Nat):Prop where
 l1:1<=w.length
 l:w.length<=8
 r:Lt w
 nk:w∉KW
def jbw{l:J2}(h:∀ w∈l,w.length=1/\Lt w):(l.map List.length).sum=l.length/\l.flatten.length=l.length/\Lt l.flatten:=by
 induction l with
 | nil=>exact⟨rfl,rfl,λc a=>by simp at a⟩
 | cons w l b=>
  have d:=b λx e=>h x (by simp[e]);have f:=h w (by simp);refine⟨by simp only[L4,List.sum_cons,M2];lia,by simp only[List.flatten_cons,N6,M2];lia,?_⟩;intro c a;rw[List.flatten_cons,N4] at a;exact a.elim (f.2 c)<|d.2.2 c
noncomputable def sp(s:Int):Int:=s/6%(2+s%6-1)
noncomputable def two(s k:Int):List Nat:=[ABC.getD ((s/7+k/26)%26).toNat 0,ABC.getD ((s/3+k)%26).toNat 0]
def nmW(s:Int)(W:List Nat)(k:Int):List Nat:=JY W none (some<|sp s)++two s k++JY W (some<|sp s+2) none
def nmF(s:Int)(W:List Nat)(k:Int):List Nat:=if nmW s W k∈KW then nmW s W k++[122] else nmW s W k
def jnV(a:0<=s):0<=sp s/\sp s+2<=2+s%6:=by
 have b:=U7 (s/6) (show(2+s%6-1)≠0 by lia);have c:=U3 (s/6) (show 0<(2+s%6-1) by lia);unfold sp
 lia
structure Bse(s:Int)(W:List Nat):Prop where
 s0:0<=s
 l:W.length=(2+s%6).toNat
 r:Lt W
def two_lt(b:0<=s)(d:0<=k):Lt (two s k):=λc a=>by
 simp only[two,M4,List.not_mem_nil,or_false] at a;rcases a with rfl | rfl
 ·exact jbd _ ∅ ∅
 ·exact jbd _ ∅ ∅
def uK(h:Bse s W)(d:0<=k):(nmW s W k).length=(2+s%6).toNat/\Lt (nmW s W k):=by
 have b:=jnV h.s0;have e:=h.l;refine⟨?_,jct (jct (λc a=>h.r c<|uH a)<|two_lt h.s0 d) λc a=>h.r c<|uH a⟩;unfold nmW;rw[N6,N6,je8 _ b.1,YM _ ∅,E6,List.length_drop];show min _ _+2+_=_
 lia
def jpv:∀ w∈KW,w++[122]∉KW:=by decide
def Km(h:Bse s W)(b:0<=k):Nm (nmF s W k):=by
 have a:=uK h b;unfold nmF;split
 ·rename_i m;exact⟨by rw[N6,List.length_singleton];lia,by rw[N6,List.length_singleton];lia,jct a.2<|jfL ⟨by decide,by decide⟩,jpv _ m⟩
 ·rename_i m;exact⟨by lia,by lia,a.2,m⟩
def Qn(h:Bse s W)(g:0<=k)(l:k<676)(i:0<=k')(m:k'<676)(e:nmF s W k=nmF s W k'):k=k':=by
 have a:=(uK h g).1;have b:=(uK h i).1;have e2:nmW s W k=nmW s W k':=by
  unfold nmF at e;by_cases d:nmW s W k∈KW<;>by_cases f:nmW s W k'∈KW
  ·rw[if_pos d,if_pos f] at e;exact List.append_cancel_right e
  ·rw[if_pos d,if_neg f] at e;have:=congrArg List.length e;simp at this;lia
  ·rw[if_neg d,if_pos f] at e;have:=congrArg List.length e;simp at this;lia
  ·lia
 injection (List.append_cancel_left<|List.append_cancel_right e2) with e4 c;injection c with c _;have j:∀{x y:Int},ABC.getD (x%26).toNat 0=ABC.getD (y%26).toNat 0->x%26=y%26:=λe=>by have:=jhr _ (by omega) _ (by omega) e;omega
 have e6:=j e4;have c:=j c;have hd:∀{x:Int},0<=x->x<676->x/26%26=x/26:=λa b=>Int.emod_eq_of_lt (Int.ediv_nonneg a<|by decide)<|Int.ediv_lt_of_lt_mul (by decide) b;rw[Int.emod_add_cancel_left,hd g l,hd i m] at e6;rw[<- Int.mul_ediv_add_emod k 26,e6,Int.emod_add_cancel_left.mp c,Int.mul_ediv_add_emod]
def jg9{s:Int}(O:0<=s):∃ W:List Nat,Bse s W/\∀ k:Int,0<=k->jC [.int s,.int k]=some (.str<|nmF s W k):=by
 have h:=vk (j:=2+s%6) ∅ ∅;have l:lim (qW 0 (2+s%6).toNat).length=true:=jb (by rw[j9];lia);obtain⟨Z,m,B,R⟩:=uY (G:=jl [] 0) (p:=pF<|p2 jf (pV 1)<|p2 jA (p2 jO (p2 yf (pV 2)<|pI 42)<|p2 qh (p2 qh (pV 0)<|pV 0)<|p2 jA (p2 yf (pV 2)<|pI 1100)<|pI 5)<|pI 26) (Good:=λd=>∃ w,d=.str w/\(w.length=1/\Lt w)) (P:=λρ=>∃ o,ρ=[o,some<|.str ABC,some<|.int s]) (xs:=qW 0 (2+s%6).toNat) (by
  rintro x S ρ ⟨o,rfl⟩;obtain⟨i,g,rfl⟩:=M5.mp S;have g:=List.mem_range.mp g;have T:0<=(0+i)*(0+(i:Int))/\(0+i)*(0+(i:Int))<=8*8:=⟨Int.mul_nonneg ∅ ∅,Int.mul_le_mul ∅ ∅ ∅ ∅⟩;have m:=jdm (i:=(s/42+(0+i)*(0+i)*(s/1100%5))%26) ∅ ∅;have C:=jbd ((s/42+(0+i)*(0+i)*(s/1100%5))%26) ∅ ∅;generalize ABC.getD ((s/42+(0+i)*(0+i)*(s/1100%5))%26).toNat 0=c at m C;refine⟨[some<|.int<|0+i,some<|.str ABC,some<|.int s],.str [c],rfl,?_,⟨[c],rfl,rfl,jfL C⟩,_,rfl⟩;simp(disch:=lia) [Kv,jD,yx,m,-Int.zero_add]) (ρ:=[none,some<|.str ABC,some<|.int s]) ⟨none,rfl⟩
 rw[j9] at B;obtain⟨W,rfl,U⟩:=Qi (f:=D.str) (Q:=λw=>w.length=1/\Lt w) R;rw[L0] at B;obtain⟨q1,q2,V⟩:=jbw U;have E:qe [] W=true:=by
  unfold qe;simp only[List.length_nil,Nat.mul_zero];exact X9 ∅
 have F:Bse s W.flatten:=⟨O,by lia,V⟩;refine⟨W.flatten,F,λk X=>?_⟩;have H:=jdm (i:=(s/7+k/26)%26) ∅ ∅;have e2:=jdm (i:=(s/3+k)%26) ∅ ∅;have I:=uK F X;have n:∀ r g,jiL r g (.str W.flatten)=some (.str<|JY W.flatten r g):=λr g=>joT ∅;have t:jA (.int<|s/6) (.int<|2+s%6-1)=some (.int<|s/6%(2+s%6-1)):=jD ∅;have u:s/6%(2+s%6-1)=sp s:=rfl;rw[u] at t;unfold nmF nmW two at *;generalize ABC.getD ((s/7+k/26)%26).toNat 0=c1,ABC.getD ((s/3+k)%26).toNat 0=c2,sp s=sp at *;have v:=n none<|some sp;have y:=n (some<|sp+2) none;generalize JY W.flatten none (some sp)=X1,JY W.flatten (some<|sp+2) none=X2 at *;have z:=I.1;rw[N6,N6] at z;have J:jO (.str [c1]) (.str [c2])=some (.str [c1,c2]):=ug (a:=[c1]) (b:=[c2]) (by simp);have K:=ug (a:=X1) (b:=[c1,c2]) ∅;have L:=ug (a:=X1++([c1,c2])) (b:=X2) (by simp at *;lia);generalize X1++([c1,c2])++X2=w at *;have M:=YZ w true KW;have Y:=ug (a:=w) (b:=[122]) (by have:=I.1;simp;lia);have N:=wZ;have A:ya [] W=W.flatten:=jc2 W;rw[<- A] at v y;generalize KW.map D.str=KL at *;have q:([97,98,99,100,101,102,103,104,105,106,107,108,109,110,111,112,113,114,115,116,117,118,119,120,121,122]:List Nat)=ABC:=rfl;by_cases e:w∈KW
 ·rw[if_pos e];unfold jC;rw[jk];unfold Yw;rw[q];simp(disch:=lia) [jD,yx,t,h,l,m,E,H,e2,J,v,y,K,L,N,M,Y,e,jp,List.getElem?_cons_zero,Option.join,-List.append_assoc]
 ·rw[if_neg e];unfold jC;rw[jk];unfold Yw;rw[q];simp(disch:=lia) [jD,yx,t,h,l,m,E,H,e2,J,v,y,K,L,N,M,e,jp,List.getElem?_cons_zero,Option.join,-List.append_assoc]
def sq(h:f ρ=some (.nx ρ'))(k:g ρ'=r):jj f g ρ=r:=by
 rw[jfN,h];exact k
def lpE(h:G x ρ=some ρ1)(k:f ρ1=some (.nx ρ2)):vH G f (x::xs) ρ=vH G f xs ρ2:=by
 rw[qX,h,L3,k];rfl
noncomputable abbrev jm:List Nat:=[115,104,97,114,101]
noncomputable abbrev kh:List Nat:=[114,101,112,97,121]
noncomputable abbrev jaY:List Nat:=[112,97,121]
noncomputable abbrev JL:List Nat:=[102,105,108,108]
noncomputable abbrev yC:List Nat:=[108,101,110,100]
noncomputable abbrev Yq:List Nat:=[98,97,99,107]
noncomputable abbrev j0:List Nat:=[114,101,115,116]
def jjC(C P O:J2)(kw w:List Nat):Prop:=((kw=jaY\/kw=kh\/kw=j0)/\w∈C)\/(kw=JL/\w∈P)\/(kw=Yq/\w∈O)
inductive RuleS (C P O:J2):D->Prop where
 | two (kw w:List Nat) (hk:kw≠jm) (h1:Wd kw) (h2:Wd w) (hm:jjC C P O kw w):RuleS C P O (.tup [.str kw,.str w])
 | share (ws:J2) (hl:ws.length<=6) (h:∀ w∈ws,Wd w) (hm:∀ w∈ws,w∈C) (nd:ws.Nodup):RuleS C P O (.tup [.str jm,.tup (ws.map D.str)])
 | lend (w:List Nat) (i:Int) (h:Wd w) (hm:w∈O):RuleS C P O (.tup [.str [108,101,110,100],.str w,.int i])
inductive Rl where
 | two (k w:List Nat)
 | share (ws:J2)
 | lend (w:List Nat) (i:Int)
def Rl.enc:Rl->D
 | .two k w=>.tup [.str k,.str w]
 | .share ws=>.tup [.str jm,.tup<|ws.map D.str]
 | .lend w i=>.tup [.str yC,.str w,.int i]
def x5(C P O:J2):Rl->Prop
 | .two k w=>((k=jaY\/k=kh)/\w∈C)\/(k=JL/\w∈P)\/(k=Yq/\w∈O)
 | .share ws=>2<=ws.length/\ws.length<=6/\ws.Nodup/\∀ w∈ws,w∈C
 | .lend w i=>w∈O/\1<=i/\i<=10 ^ 12
def RuleS.fz(h:RuleS C P O d):QD.fz d=d:=by cases h<;>simp
def RuleS.frz(h:RuleS C P O d):QD.frz d=true:=by cases h<;>simp
def Ym(h:w.all (λc=>decide<|c<200)=true)(hl:w.length<=30):Wd w:=⟨hl,λc a=>by
 have:=E2<|List.all_eq_true.mp h c a;lia⟩
noncomputable abbrev W2:=List Nat×Int
noncomputable def e2(p:W2):D:=.tup [.str p.1,.int p.2]
def KN(l:List W2):fzs (l.map e2)=l.map e2:=Vp (λ_=>rfl) _
def yA(l:List W2):frzs (l.map e2)=true:=kI (λ_=>rfl) _
structure OrdS where
 nm:List Nat
 parts:List W2
 rules:List D
def yL(o:Bool)(x:OrdS):D:=.tup [.str x.nm,.lst false<|x.parts.map e2,.lst o x.rules]
structure OrdOk(C P O:J2)(x:OrdS):Prop where
 nm:Wd x.nm
 parts:∀ p∈x.parts,Wd p.1/\1<=p.2/\p.2<=10
 plen:x.parts.length<=10
 rules:∀ d∈x.rules,RuleS C P O d
 len:x.rules.length<=10
 nk:Nm x.nm
 pm:∀ p∈x.parts,p.1∈C
 pn:(x.parts.map (·.1)).Nodup
 p6:x.parts.length<=6
 rl:∃(R:List Rl) (w:List Nat),x.rules=(R++[Rl.two j0 w]).map Rl.enc/\R.length<=8/\w∈C/\∀ t∈R,x5 C P O t
def OrdOk.fzr(h:OrdOk C P O x):fzs x.rules=x.rules:=xq λd hd=>(h.rules d hd).fz
def OrdOk.frzr(h:OrdOk C P O x):frzs x.rules=true:=vO λd hd=>(h.rules d hd).frz
def OrdOk.frz(h:OrdOk C P O x):QD.frz (yL false x)=true:=by
 simp[yL,h.frzr,yA]
noncomputable abbrev W3:=List Nat×Int×Int
noncomputable def e3(p:W3):D:=.tup [.str p.1,.int p.2.1,.int p.2.2]
noncomputable abbrev WL:=List Nat×Int×List Nat
noncomputable def eL(p:WL):D:=.tup [.str p.1,.int p.2.1,.str p.2.2]
noncomputable abbrev WG:=List Nat×List Nat
noncomputable def eG(p:WG):D:=.tup [.str p.1,.str p.2]
def zy(l:List W3):fzs (l.map e3)=l.map e3:=Vp (λ_=>rfl) _
def vQ(l:List W3):frzs (l.map e3)=true:=kI (λ_=>rfl) _
def jb8(l:List WL):fzs (l.map eL)=l.map eL:=Vp (λ_=>rfl) _
def JK(l:List WL):frzs (l.map eL)=true:=kI (λ_=>rfl) _
def jbt(l:List WG):fzs (l.map eG)=l.map eG:=Vp (λ_=>rfl) _
def qC(l:List WG):frzs (l.map eG)=true:=kI (λ_=>rfl) _
def Nm.wd(h:Nm w):Wd w:=⟨by have:=h.l;lia,λc a=>by have:=h.r c a;lia⟩
noncomputable def cyc(C:J2)(a:Int)(q:Nat):List (List Nat):=(List.range q).map λi:Nat=>C.getD ((a+(0+(i:Int)))%(C.length:Int)).toNat []
def jbD{C:J2}{a}(h:0<C.length)(i:Nat):((a+(0+(i:Int)))%(C.length:Int)).toNat<C.length:=by
 have y:=U3 (a+(0+i)) (show 0<(C.length:Int) by lia)
 lia
def xH(h:0<C.length):∀ w∈cyc C a q,w∈C:=λw b=>by
 obtain⟨i,_,rfl⟩:=M5.mp b;exact QV<|jbD h i
def Vy:(cyc C a q).length=q:=by simp[cyc]
def Yn{C}{a}{q}(h:0<C.length)(g:q<=C.length)(f:C.Nodup):(cyc C a q).Nodup:=by
 unfold cyc List.Nodup;rw[List.pairwise_map];refine List.Pairwise.imp_of_mem ?_<|List.nodup_range;intro i j c d b e;refine b ?_;have c:=List.mem_range.mp c;have d:=List.mem_range.mp d;rw[List.getD_eq_getElem?_getD,List.getD_eq_getElem?_getD,E5<|jbD (a:=a) h i,E5<|jbD (a:=a) h j,Option.getD_some,Option.getD_some] at e;have e2:=(List.getElem_inj f).mp e;have k:=U7 (a+(0+i)) (show(C.length:Int)≠0 by lia);have l:=U7 (a+(0+j)) (show(C.length:Int)≠0 by lia);have e3:(a+(0+i))%C.length=(a+(0+j))%C.length:=by lia
 have m:=Int.mul_ediv_add_emod (a+(0+i)) C.length;have n:=Int.mul_ediv_add_emod (a+(0+j)) C.length;generalize(a+(0+i))/C.length=u at *;generalize(a+(0+j))/C.length=v at *;have o:u-v=0:=by
  by_cases z:u-v=0
  ·exact z
  ·exfalso;rcases Int.lt_or_gt_of_ne z with z | z
   ·have:=Int.mul_le_mul_of_nonneg_left (show u-v<=-1 by lia) (show 0<=(C.length:Int) by lia)
    lia
   ·have:=Int.mul_le_mul_of_nonneg_left (show 1<=u-v by lia) (show 0<=(C.length:Int) by lia)
    lia
 lia
def jaj{T:List W3}{i:Int}(h:0<=i)(h2:i<T.length):∃ t∈T,jf (.lst o<|T.map e3) (.int i)=some (e3 t)/\(T.map (·.1)).getD i.toNat []=t.1:=by
 have a:i.toNat<T.length:=by lia
 refine⟨T[i.toNat],List.getElem_mem a,?_,?_⟩
 ·rw[xG h<|by rw[L0];exact h2,List.getElem?_map,E5 a];rfl
 ·grind
def jjf{T:List W2}{i:Int}(h:0<=i)(h2:i<T.length):∃ t∈T,jf (.lst o<|T.map e2) (.int i)=some (e2 t):=by
 have a:i.toNat<T.length:=by lia
 refine⟨T[i.toNat],List.getElem_mem a,?_⟩;rw[xG h<|by rw[L0];exact h2,List.getElem?_map,E5 a];rfl
def i30:jf (e3 t) (.int 0)=some (.str t.1):=rfl
def i20:jf (e2 t) (.int 0)=some (.str t.1):=rfl
def uv{T:List W3}{n c}{q}(hT:0<T.length)(d:T.length<=6)(h:0<c)(e:c<=1000)(hn:0<=n):yP (jl [] 0) qT (pF<|p2 jf (p2 jf (pV 1)<|p2 jA (p2 jO (p2 yf (pV 2)<|pI c)<|pV 0)<|pV 3)<|pI 0) (qW 0 q) [none,some<|.lst o<|T.map e3,some<|.int n,some<|.int (T.length:Int)]=some ((cyc (T.map (·.1)) (n/c) q).map D.str):=by
 unfold cyc;rw[U8];refine jL rfl (λρ=>∃ z,ρ=[z,some<|.lst o<|T.map e3,some<|.int n,some<|.int T.length]) ?_ ⟨none,rfl⟩;rintro i j ρ ⟨z,rfl⟩;obtain⟨t,_,f,g⟩:=jaj (o:=o) (U7 (n/c+(0+i))<|show(T.length:Int)≠0 by lia)<|U3 (n/c+(0+i)) (show 0<(T.length:Int) by lia);have a:jA (.int<|n/c+(0+i)) (.int T.length)=some (.int<|(n/c+(0+i))%T.length):=jD ∅;have b:yf (.int n) (.int c)=some (.int<|n/c):=yx ∅ ∅;refine⟨[some<|.int<|0+i,some<|.lst o<|T.map e3,some<|.int n,some<|.int T.length],rfl,?_,_,rfl⟩;show _=some (D.str ((T.map (·.1)).getD ((n/c+(0+i))%((T.map (·.1)).length:Int)).toNat []));rw[L0,g];simp[b,a,f,i30 (t:=t),-Int.zero_add]
def YE:FS:=(jj (sIf (dPT<|xE (jd<|p2 ve (pV 4)<|pI 1)<|jd<|p2 Y0 (pV 5)<|pI 1) (jj (yB (dP<|p2 jO (pI 2)<|p2 jA (p2 yf (pV 0)<|pI 50)<|p2 Qq (pV 5)<|pI 1)<|jl [] 7)<|jS<|dP<|kC #[pS [115,104,97,114,101],pCB ki #[yS (qx #[pV 7]) (jl [] 0) qT (pF<|p2 jf (p2 jf (pV 1)<|p2 jA (p2 jO (p2 yf (pV 2)<|pI 400)<|pV 0)<|pV 3)<|pI 0) [none,some 1,some 0,some 5]]])
 jn)<|jj (sIf (dPT<|jd<|p2 ve (pV 4)<|pI 2) (jS<|dP<|kC #[pS [114,101,112,97,121],pF<|pV 6])
 jn)<|jj (sIf (dPT<|xE (jd<|p2 ve (pV 4)<|pI 3)<|jd<|p2 Y0 (pCB vg #[pV 2])<|pI 0) (jS<|dP<|kC #[pS [102,105,108,108],pF<|p2 jf (p2 jf (pV 2)<|p2 jA (p2 yf (pV 0)<|pI 50)<|pCB vg #[pV 2])<|pI 0])
 jn)<|jj (sIf (dPT<|xE (jd<|p2 ve (pV 4)<|pI 4)<|jd<|p2 Y0 (pCB vg #[pV 3])<|pI 0) (jS<|dP<|kC #[pS [108,101,110,100],pF<|p2 jf (pV 3)<|p2 jA (p2 yf (pV 0)<|pI 50)<|pCB vg #[pV 3],jK jJ #[p2 yf (pV 0)<|pI 400]])
 jn)<|jj (sIf (dPT<|xE (jd<|p2 ve (pV 4)<|pI 5)<|jd<|p2 Y0 (pCB vg #[pV 3])<|pI 0) (jS<|dP<|kC #[pS [98,97,99,107],pF<|p2 jf (pV 3)<|p2 jA (p2 yf (pV 0)<|pI 50)<|pCB vg #[pV 3]])
 jn)<|jS<|dP<|kC #[pS [112,97,121],pF<|pV 6])
def jei:K7=jj (yB (dP<|p2 jA (pV 0)<|pI 7)<|jl [] 4) (jj (yB (dP<|pCB vg #[pV 1])<|jl [] 5)<|jj (yB (dP<|pF<|p2 jf (p2 jf (pV 1)<|p2 jA (p2 yf (pV 0)<|pI 7)<|pV 5)<|pI 0)<|jl [] 6) YE):=rfl
def jhZ{n:Int}(hn:0<=n){T:List W3}{M:List W2}{O:J2}(h1:1<=T.length)(h2:T.length<=6)(hM:M.length<=100)(hO:O.length<=100)(x:∀ t∈T,Wd t.1)(R:∀ t∈M,Wd t.1)(P:∀ w∈O,Wd w)(Q:(T.map (·.1)).Nodup):∃ r,vd [.int n,.lst false<|T.map e3,.lst false<|M.map e2,.lst false<|O.map D.str]=some r/\RuleS (T.map (·.1)) (M.map (·.1)) O r/\∃ t,r=Rl.enc t/\x5 (T.map (·.1)) (M.map (·.1)) O t:=by
 obtain⟨c,y,S,_⟩:=jaj (o:=false) (U7 (n/7)<|show(T.length:Int)≠0 by lia)<|U3 (n/7) (show 0<(T.length:Int) by lia);have g:c.1∈T.map (·.1):=M5.mpr ⟨c,y,rfl⟩;have b:(((T.map e3).length:Nat):Int)=T.length:=by simp
 have h:(((M.map e2).length:Nat):Int)=M.length:=by simp
 have k:(((O.map D.str).length:Nat):Int)=O.length:=by simp
 have A:jA (.int<|n/7) (.int T.length)=some (.int<|n/7%T.length):=jD ∅;have pre:vd [.int n,.lst false<|T.map e3,.lst false<|M.map e2,.lst false<|O.map D.str]=(YE [some<|.int n,‹T.map e3›,‹M.map e2›,‹O.map D.str›,some<|.int<|n%7,some<|.int T.length,some<|.str c.1,none]).bind Out.val:=by
  simp(disch:=lia) [vd,jk,jei,jD,yx,b,A,S,i30 (t:=c)]
 rw[pre];by_cases B:n%7=1/\1<(T.length:Int)
 ·have d1:=U7 (n/50) (show(T.length:Int)-1≠0 by lia);have d2:=U3 (n/50) (show 0<(T.length:Int)-1 by lia);have U:jA (.int<|n/50) (.int<|T.length-1)=some (.int<|n/50%(T.length-1)):=jD ∅;generalize n/50%(T.length-1)=sz at *;have E:=vk (j:=2+sz) ∅ ∅;have F:lim (qW 0 (2+sz).toNat).length=true:=jb (by rw[j9];lia);have V:=uv (o:=false) (T:=T) (n:=n) (c:=400) (q:=(2+sz).toNat) ∅ h2 (by decide) (by decide) hn;have G:0<(T.map (·.1)).length:=by rw[L0];lia
  have H:=xH (C:=T.map (·.1)) (a:=n/400) (q:=(2+sz).toNat) G;refine⟨.tup [.str jm,.tup ((cyc (T.map (·.1)) (n/400) (2+sz).toNat).map D.str)],?_,.share _ (by rw[Vy];lia) (λw W=>by obtain⟨t,X,rfl⟩:=M5.mp<|H w W;exact x t X) H<|Yn G (by rw[L0];lia) Q,.share _,rfl,by rw[Vy];lia,by rw[Vy];lia,Yn G (by rw[L0];lia) Q,H⟩;have Y:lim ((cyc (T.map (·.1)) (n/400) (2+sz).toNat).map D.str).length=true:=jb (by rw[L0,Vy];lia);have Z:=jM (cyc (T.map (·.1)) (n/400) (2+sz).toNat);generalize(cyc (T.map (·.1)) (n/400) (2+sz).toNat).map D.str=WW at *;generalize T.map e3=CC,M.map e2=PP,O.map D.str=OO,qW 0 (2+sz).toNat=RR at *;simp(disch:=lia) [YE,jD,yx,b,B.1,B.2,U,E,F,V,Z,Jk (cyc (T.map (·.1)) (n/400) (2+sz).toNat),Y,jb,jp,List.getElem?_cons_zero,Option.join]
 have I:n%7=1->¬ 1<(T.length:Int):=λz q=>B ⟨z,q⟩;by_cases w2:n%7=2
 ·refine⟨.tup [.str kh,.str c.1],?_,.two _ _ (by decide) (Ym rfl<|by decide) (x c y)<|.inl ⟨.inr<|.inl rfl,g⟩,.two _ _,rfl,.inl ⟨.inr rfl,g⟩⟩;generalize T.map e3=CC,M.map e2=PP,O.map D.str=OO at *;generalize(T.length:Int)=tl at *;generalize(M.length:Int)=ml at *;generalize(O.length:Int)=ol at *;simp(disch:=lia) [YE,jD,yx,b,w2,jb]
 by_cases J:n%7=3/\(0:Int)<(M.length:Int)
 ·have p1:=U7 (n/50) (show(M.length:Int)≠0 by lia);have p2:=U3 (n/50) (show 0<(M.length:Int) by lia);obtain⟨q,e,m⟩:=jjf (o:=false) p1 p2;have q0:=i20 (t:=q);have f:jA (.int<|n/50) (.int (M.length:Int))=some (.int<|n/50%(M.length:Int)):=jD ∅;refine⟨.tup [.str JL,.str q.1],?_,.two _ _ (by decide) (Ym rfl<|by decide) (R q e)<|.inr<|.inl ⟨rfl,M5.mpr ⟨q,e,rfl⟩⟩,.two _ _,rfl,.inr<|.inl ⟨rfl,M5.mpr ⟨q,e,rfl⟩⟩⟩;generalize T.map e3=CC,M.map e2=PP,O.map D.str=OO at *;generalize(T.length:Int)=tl at *;generalize(M.length:Int)=ml at *;generalize(O.length:Int)=ol at *;generalize e2 q=EQ at *;simp(disch:=lia) [YE,jD,yx,b,h,J.1,J.2,f,m,q0,jb]
 have K:n%7=3->¬ (0:Int)<(M.length:Int):=λz q=>J ⟨z,q⟩;have p:(0:Int)<(O.length:Int)->∃ q∈O,jf (.lst false<|O.map D.str) (.int<|n/50%(O.length:Int))=some (.str q)/\jA (.int<|n/50) (.int (O.length:Int))=some (.int<|n/50%(O.length:Int)):=λz=>by
  have p2:=U3 (n/50) z;exact⟨_,QV (l:=O) (i:=(n/50%(O.length:Int)).toNat) (d:=[]) ∅,wg (o:=false) (l:=O) (U7 (n/50)<|show(O.length:Int)≠0 by lia) p2,jD ∅⟩
 by_cases s:n%7=4/\(0:Int)<(O.length:Int)
 ·obtain⟨q,e,m,f⟩:=p s.2;obtain⟨v,ev,v1,v2⟩:=Vd (n:=n/400) ∅;refine⟨.tup [.str yC,.str q,.int v],?_,.lend _ _ (P q e) e,.lend _ _,rfl,e,v1,v2⟩;generalize T.map e3=CC,M.map e2=PP,O.map D.str=OO at *;generalize(T.length:Int)=tl at *;generalize(M.length:Int)=ml at *;generalize(O.length:Int)=ol at *;simp(disch:=lia) [YE,jD,yx,b,h,k,s.1,s.2,f,m,ev,jb]
 have L:n%7=4->¬ (0:Int)<(O.length:Int):=λz q=>s ⟨z,q⟩;by_cases u:n%7=5/\(0:Int)<(O.length:Int)
 ·obtain⟨q,e,m,f⟩:=p u.2;refine⟨.tup [.str Yq,.str q],?_,.two _ _ (by decide) (Ym rfl<|by decide) (P q e)<|.inr<|.inr ⟨rfl,e⟩,.two _ _,rfl,.inr<|.inr ⟨rfl,e⟩⟩;generalize T.map e3=CC,M.map e2=PP,O.map D.str=OO at *;generalize(T.length:Int)=tl at *;generalize(M.length:Int)=ml at *;generalize(O.length:Int)=ol at *;simp(disch:=lia) [YE,jD,yx,b,h,k,u.1,u.2,f,m,jb]
 have N:n%7=5->¬ (0:Int)<(O.length:Int):=λz q=>u ⟨z,q⟩;refine⟨.tup [.str jaY,.str c.1],?_,.two _ _ (by decide) (Ym rfl<|by decide) (x c y)<|.inl ⟨.inl rfl,g⟩,.two _ _,rfl,.inl ⟨.inl rfl,g⟩⟩;generalize T.map e3=CC,M.map e2=PP,O.map D.str=OO at *;generalize(T.length:Int)=tl at *;generalize(M.length:Int)=ml at *;generalize(O.length:Int)=ol at *;have z:n%7=0\/n%7=1\/n%7=3\/n%7=4\/n%7=5\/n%7=6:=by lia
 rcases z with z | z | z | z | z | z
 ·simp(disch:=lia) [YE,jD,yx,z,jb]
 ·simp(disch:=lia) [YE,jD,yx,z,I z,jb]
 ·simp(disch:=lia) [YE,jD,yx,h,z,K z,jb]
 ·simp(disch:=lia) [YE,jD,yx,k,z,L z,jb]
 ·simp(disch:=lia) [YE,jD,yx,k,z,N z,jb]
 ·simp(disch:=lia) [YE,jD,yx,z,jb]
def jeC{G}{Good:D->Prop}{P:Nat->Rh->Prop}:∀{xs}{k}(_:∀ x∈xs,∀ k' ρ,k'<k+xs.length->P k' ρ->∃ ρ1 y ρ2,G x ρ=some ρ1/\fe ρ1=some (y,ρ2)/\Good y/\P (k'+1) ρ2) {ρ}(_:P k ρ),∃ ys ρ',qG G fe xs ρ=some (ys,ρ')/\ys.length=xs.length/\(∀ y∈ys,Good y)/\P (k+xs.length) ρ':=by
 intro xs
 induction xs with
 | nil=>
  intro k _ ρ b;exact⟨[],ρ,rfl,rfl,by simp,b⟩
 | cons x xs c=>
  intro k step ρ b;obtain⟨ρ1,y,ρ2,d,e2,g,p1⟩:=step x (by simp) k ρ (by simp) b;obtain⟨ys,ρ',e3,e,f,p2⟩:=c (λz a k' ρ h=>step z (by simp[a]) k' ρ<|by rw[M2];lia) p1;refine⟨y::ys,ρ',?_,by simp[e],λz a=>?_,by rw[M2,show k+(xs.length+1)=k+1+xs.length by lia];exact p2⟩
  ·rw[qG,d,L3,e2,L3,e3];rfl
  ·rcases M4.mp a with rfl | a
   ·lia
   ·exact f z a
def NmI(sd:Int)(W:List Nat)(hi:Int)(w:List Nat):Prop:=∃ k:Int,0<=k/\k<hi/\w=nmF sd W k
structure Ctx(ns:List Int)(sd:Int)(W:List Nat)(C:List W3)(P:List W2)(O:J2):Prop where
 b:jaN ns
 bs:Bse sd W
 nm:∀ k:Int,0<=k->jC [.int sd,.int k]=some (.str<|nmF sd W k)
 c1:1<=C.length
 c6:C.length<=6
 p:P.length<=10
 o:O.length<=10
 cn:(C.map (·.1)).Nodup
 ci:∀ c∈C,NmI sd W 100 c.1
 pw:∀ c∈P,Wd c.1
 ow:∀ w∈O,Wd w
def NmI.wd(b:Bse sd W)(h:NmI sd W hi w):Wd w:=by
 obtain⟨k,a,_,rfl⟩:=h;exact(Km b a).wd
def Ctx.cw(h:Ctx ns sd W C P O):∀ c∈C,Wd c.1:=λc a=>(h.ci c a).wd h.bs
def Y6(x:OrdS):D:=.tup [.str x.nm,.lst true<|x.parts.map e2,.lst true x.rules]
def jef(C a)(i:Nat):cyc C a (i+1)=cyc C a i++[C.getD ((a+(0+(i:Int)))%(C.length:Int)).toNat []]:=by unfold cyc;rw[List.range_succ,N7];rfl
def jaT(h:Ctx ns sd W C P O)  (r:0<=m) (d:0<=n) (e:n<100000)  (s:L.length<=100) :
  ∃ q:W2,(Wd q.1/\1<=q.2/\q.2<=10)/\q.1=(C.map (·.1)).getD ((m/100+(0+(i:Int)))%((C.map (·.1)).length:Int)).toNat []/\vX [‹ns.map D.int›,some<|At n,some nm,‹C.map e3›,‹P.map e2›,‹O.map D.str›,some<|.int m,some<|.int (C.length:Int),↑(L.map e2),some<|.int<|0+(i:Int),o10] =
   some (.nx [‹ns.map D.int›,some<|At<|n+1,some nm,‹C.map e3›,‹P.map e2›,‹O.map D.str›,some<|.int m,some<|.int (C.length:Int),↑((L++[q]).map e2),some<|.int<|0+(i:Int),o10]):=by
 obtain⟨v,g,u⟩:=vA ns h.b d e;have j:=h.c1;obtain⟨c,k,f,l⟩:=jaj (o:=false) (U7 (m/100+(0+i))<|show(C.length:Int)≠0 by lia)<|U3 (m/100+(0+i)) (show 0<(C.length:Int) by lia);have p:jA (.int<|m/100+(0+i)) (.int C.length)=some (.int<|(m/100+(0+i))%C.length):=jD ∅;refine⟨(c.1,1+v%10),⟨h.cw c k,by lia,by lia⟩,by rw[L0];exact l.symm,?_⟩;have a:lim (L.map e2).length=true:=jN ∅;rw[N7];show _=some (Out.nx [_,_,_,_,_,_,_,_,↑(L.map e2++[.tup [.str c.1,.int<|1+v%10]]),_,_]);generalize L.map e2=LL at *;simp(disch:=lia) [vX,yx,jD,f,i30 (t:=c),g,a,-Int.zero_add]
def jeI(h:Ctx ns sd W C P O)  (g:0<=n) (j:n+20<=100000)  (z:k<=9):∃ Rs:List D,∃ o0:Option D,
  qG (jl [2] 0) (kj vd<|jT (yu js 2 1<|ja (pF<|pV 1)<|pFs pN)<|jT (dP<|pF<|pV 3)<|jT (dP<|pF<|pV 4)<|jT (dP<|pF<|pV 5) YG) (qW 0 k) [none,‹ns.map D.int›,some<|At n,‹C.map e3›,‹P.map e2›,‹O.map D.str›] =
   some (Rs,[o0,‹ns.map D.int›,some<|At<|n+k,‹C.map e3›,‹P.map e2›,‹O.map D.str›])/\Rs.length=k/\∀ r∈Rs,RuleS (C.map (·.1)) (P.map (·.1)) O r/\∃ t,r=Rl.enc t/\x5 (C.map (·.1)) (P.map (·.1)) O t:=by
 obtain⟨l,A,e,f,m,o0,rfl⟩:=jeC (G:=jl [2] 0) (fe:=kj vd<|jT (yu js 2 1<|ja (pF<|pV 1)<|pFs pN)<|jT (dP<|pF<|pV 3)<|jT (dP<|pF<|pV 4)<|jT (dP<|pF<|pV 5) YG) (P:=λk ρ=>∃ o,ρ=[o,‹ns.map D.int›,some<|At<|n+k,‹C.map e3›,‹P.map e2›,‹O.map D.str›]) (xs:=qW 0 k) (k:=0) (by
  rintro x q a ρ c ⟨o,rfl⟩;rw[j9] at c;obtain⟨i,B,rfl⟩:=M5.mp q;obtain⟨v,s,u⟩:=vA ns h.b (n:=n+a) ∅ ∅;obtain⟨r,w,y⟩:=jhZ u h.c1 h.c6 (by have:=h.p;lia) (by have:=h.o;lia) h.cw h.pw h.ow h.cn;have d:=JI ns;refine⟨[some<|.int<|0+i,‹ns.map D.int›,some<|At<|n+a,‹C.map e3›,‹P.map e2›,‹O.map D.str›],r,[some<|.int<|0+i,‹ns.map D.int›,some<|At<|n+a+1,‹C.map e3›,‹P.map e2›,‹O.map D.str›],rfl,?_,y,some<|.int<|0+i,?_⟩
  ·generalize ns.map D.int=NS at *;simp[s,w,d,vQ C,yA P,-Int.zero_add]
  ·rw[show n+((a+1:Nat):Int)=n+a+1 by lia]) (ρ:=[none,‹ns.map D.int›,some<|At n,‹C.map e3›,‹P.map e2›,‹O.map D.str›]) ⟨none,by simp⟩
 rw[j9] at f;refine⟨l,o0,?_,f,m⟩;rw[e,j9,show n+((0+k:Nat):Int)=n+k by lia]
def jed(h:Ctx ns sd W C P O)  (F:0<=n) (hn1:n+50<=100000) (nm:List Nat) (wn:Wd nm) (wk:Nm nm):∃(x:OrdS) (n':Int),kc [.lst false<|ns.map D.int,At n,.str nm,.lst false<|C.map e3,.lst false<|P.map e2,.lst false<|O.map D.str]=some (Y6 x,At n')/\x.nm=nm/\n<=n'/\n'<=n+20/\OrdOk (C.map (·.1)) (P.map (·.1)) O x:=by
 obtain⟨m,em,hm⟩:=vA ns h.b F ∅;have hc1:=h.c1;have hc6:=h.c6;have a1:=U7 m (show(C.length:Int)+1≠0 by lia);have a2:=U3 m (show 0<(C.length:Int)+1 by lia);have u:jA (.int m) (.int<|C.length+1)=some (.int<|m%(C.length+1)):=jD ∅;generalize m%(C.length+1)=q1 at a1 a2 u;have v:0<=m/10%2/\m/10%2<=1:=by lia
 have H:0<=q1*(m/10%2)/\q1*(m/10%2)<=6*1:=⟨Int.mul_nonneg a1 v.1,Int.mul_le_mul ∅ v.2 v.1 ∅⟩;have I:q1*(m/10%2)<=(C.length:Int)*1:=Int.mul_le_mul ∅ v.2 v.1 ∅;have e:qh (.int q1) (.int<|m/10%2)=some (.int<|q1*(m/10%2)):=Kv ∅ ∅;generalize q1*(m/10%2)=q at H I e;obtain⟨ρ',J,L,l,rfl,K,a,g⟩:=kO (G:=jl [1] 9) (f:=vX) (xs:=qW 0 q.toNat) (λi ρ=>∃(L:List W2) (l:Option D),ρ=[‹ns.map D.int›,some<|At<|n+1+i,some<|.str nm,‹C.map e3›,‹P.map e2›,‹O.map D.str›,some<|.int m,some<|.int C.length,↑(L.map e2),l,none]/\L.length=i/\L.map (·.1)=cyc (C.map (·.1)) (m/100) i/\∀ q∈L,Wd q.1/\1<=q.2/\q.2<=10) (by
  rintro i x ρ hx ⟨L,l,rfl,K,a,g⟩;obtain⟨rfl,hi⟩:=Jf hx;obtain⟨z,zk,zg,ez⟩:=jaT h (n:=n+1+i) hm ∅ ∅ (nm:=.str nm) (L:=L) ∅ (i:=i) (o10:=none);refine⟨_,_,rfl,.inl ez,L++[z],some<|.int<|0+i,?_,by simp[K],by rw[N7,a,jef,<- zg];rfl,λq H=>(N4.mp H).elim (g q) λy=>by rw[M8.mp y];exact zk⟩;rw[show n+1+(((i+1:Nat)):Int)=n+1+i+1 by lia]) (ρ:=[‹ns.map D.int›,some<|At<|n+1,some<|.str nm,‹C.map e3›,‹P.map e2›,‹O.map D.str›,some<|.int m,some<|.int C.length,some<|.lst true [],none,none]) ⟨[],none,by simp,rfl,rfl,by simp⟩
 rw[j9] at K a J;have M:n+1+((q.toNat):Int)=n+1+q:=by lia
 rw[M] at J;obtain⟨s,o0,A,hRl,B⟩:=jeI h (n:=n+1+q) ∅ ∅ (k:=(m/1000%9).toNat) ∅;have N:n+1+q+(((m/1000%9).toNat:Nat):Int)=n+1+q+m/1000%9:=by lia
 rw[N] at A;obtain⟨c,S,ic,_⟩:=jaj (o:=false) (U7 (m/10000)<|show(C.length:Int)≠0 by lia)<|U3 (m/10000) (show 0<(C.length:Int) by lia);have T:jA (.int<|m/10000) (.int C.length)=some (.int<|m/10000%C.length):=jD ∅;have hR:=λr d=>(B r d).1;have l0:0<(C.map (·.1)).length:=by rw[L0];lia
 have U:∃(R:List Rl) (w:List Nat),s++[.tup [.str j0,.str c.1]]=(R++[Rl.two j0 w]).map Rl.enc/\R.length<=8/\w∈C.map (·.1)/\∀ t∈R,x5 (C.map (·.1)) (P.map (·.1)) O t:=by
  obtain⟨R,eR,V⟩:=Qi (f:=Rl.enc) (Q:=x5 (C.map (·.1)) (P.map (·.1)) O) λr d=>(B r d).2;exact⟨R,c.1,by rw[N7,eR];rfl,by have:=congrArg List.length eR;rw[L0] at this;lia,M5.mpr ⟨c,S,rfl⟩,V⟩
 refine⟨⟨nm,L,s++[.tup [.str j0,.str c.1]]⟩,n+1+q+m/1000%9,?_,rfl,by lia,by lia,⟨wn,g,by show L.length<=10;lia,λr d=>?_,by show(s++[_]).length<=10;simp;lia,wk,λp hp=>?_,by show(L.map (·.1)).Nodup;rw[a];exact Yn l0 (by rw[L0];lia) h.cn,by show L.length<=6;lia,U⟩⟩
 rotate_left
 ·rcases N4.mp d with d | d
  ·exact hR r d
  ·rw[M8.mp d];exact .two _ _ (by decide) (Ym rfl<|by decide) (h.cw c S)<|.inl ⟨.inr<|.inr rfl,M5.mpr ⟨c,S,rfl⟩⟩
 ·exact xH l0 _<|a▸List.mem_map_of_mem hp
 have E:=JI ns;have X:(((C.map e3).length:Nat):Int)=C.length:=by simp
 have Y:lim s.length=true:=jb ∅;have Z:z7 (qx #[p2 jA (p2 yf (pV 6)<|pI 1000)<|pI 9]) (jl [2] 0) (kj vd<|jT (yu js 2 1<|ja (pF<|pV 1)<|pFs pN)<|jT (dP<|pF<|pV 3)<|jT (dP<|pF<|pV 4)<|jT (dP<|pF<|pV 5) YG) [none,some 0,some 1,some 3,some 4,some 5] 1 2
   [‹ns.map D.int›,some<|At<|n+1+q,some<|.str nm,‹C.map e3›,‹P.map e2›,‹O.map D.str›,some<|.int m,some<|.int C.length,↑(L.map e2),l,none] =
   some (.lst true s,[‹ns.map D.int›,some<|At<|n+1+q+m/1000%9,some<|.str nm,‹C.map e3›,‹P.map e2›,‹O.map D.str›,some<|.int m,some<|.int C.length,↑(L.map e2),l,none]):=by
  have hpi:qx #[p2 jA (p2 yf (pV 6)<|pI 1000)<|pI 9] [‹ns.map D.int›,some<|At<|n+1+q,some<|.str nm,‹C.map e3›,‹P.map e2›,‹O.map D.str›,some<|.int m,some<|.int C.length,↑(L.map e2),l,none]=some (qW 0 (m/1000%9).toNat):=by
   simp(disch:=lia) [yx,jD,vk (j:=m/1000%9) ∅ ∅]
  have hfb:YS 2 [none,‹ns.map D.int›,some<|At<|n+1+q,‹C.map e3›,‹P.map e2›,‹O.map D.str›]=true:=by
   simp[YS,E,vQ C,yA P,jM O]
  have hlm:lim (qW 0 (m/1000%9).toNat).length=true:=jb (by rw[j9];lia);unfold z7;rw[hpi,L3];show(bif lim (qW 0 (m/1000%9).toNat).length&&YS 2 [none,‹ns.map D.int›,some<|At<|n+1+q,‹C.map e3›,‹P.map e2›,‹O.map D.str›] then(qG _ _ _ [none,‹ns.map D.int›,some<|At<|n+1+q,‹C.map e3›,‹P.map e2›,‹O.map D.str›]).bind _ else none)=_;rw[hlm,hfb,A];rfl
 unfold kc;rw[qJ];show _=some (D.tup [.str nm,.lst true<|L.map e2,.lst true<|s++[.tup [.str [114,101,115,116],.str c.1]]],At _);simp(disch:=lia) [VL,em,E,X,u,yx,jD,e,vk (j:=q) ∅ ∅,J,Z,T,ic,i30 (t:=c),Y,jb,Y4,-uZ]
def NmI.nm{a W hi w}(b:Bse a W)(h:NmI a W hi w):Nm w:=by
 obtain⟨k,c,_,rfl⟩:=h;exact Km b c
def O0(x):jf (yL false x) (.int 0)=some (.str x.nm):=rfl
def vm{C P O}{os:List OrdS}(h:∀ x∈os,OrdOk C P O x):frzs (os.map<|yL false)=true:=vO λd hd=>by
 obtain⟨x,a,rfl⟩:=M5.mp hd;exact(h x a).frz
def OrdOk.fzt(h:OrdOk C P O x):QD.fz (Y6 x)=yL false x:=by
 simp[Y6,yL,KN x.parts,h.fzr]
def wB{ns:List Int}{C:List W3}{P:List W2}{O:J2}{W:List Nat}{a:Int}(h:Ctx ns a W C P O){n:Int}(T:0<=n)(hn1:n+100<=100000)  {X:List OrdS}(hX:X.length<=100) (U:∀ x∈X,OrdOk (C.map (·.1)) (P.map (·.1)) O x) (hXn:(X.map (·.nm)).Nodup) {i:Nat}(hi:i<10) (V:∀ x∈X,NmI a W (100+i) x.nm) {o9:Option D}:
  ∃(x:OrdS) (n':Int) (o9':Option D),y9 [‹ns.map D.int›,some<|At n,some<|.int a,‹C.map e3›,‹P.map e2›,‹O.map D.str›,some mo,↑(X.map<|yL false),some<|.int<|0+(i:Int),o9] =
   some (.nx [‹ns.map D.int›,some<|At n',some<|.int a,‹C.map e3›,‹P.map e2›,‹O.map D.str›,some mo,↑((X++[x]).map (yL false)),some<|.int<|0+(i:Int),o9'])/\n<=n'/\n'<=n+22/\OrdOk (C.map (·.1)) (P.map (·.1)) O x/\x.nm∉X.map (·.nm)/\NmI a W (100+i+1) x.nm:=by
 obtain⟨v,Y,hv⟩:=vA ns h.b T ∅;have hc1:=h.c1;have f1:=U7 (0+(i:Int)) (show(C.length:Int)≠0 by lia);have f2:=U3 (0+(i:Int)) (show 0<(C.length:Int) by lia);obtain⟨E,cm,M,_⟩:=jaj (o:=false) f1 f2;have F:=i30 (t:=E);have l:jA (.int<|0+(i:Int)) (.int (C.length:Int))=some (.int<|(0+(i:Int))%(C.length:Int)):=jD ∅;have f:NmI a W (100+i+1) E.1:=by
  obtain⟨k,Z,k1,ek⟩:=h.ci E cm;exact⟨k,Z,by lia,ek⟩
 have G:=f.wd h.bs;have H:=f.nm h.bs;clear cm;generalize E.1=c at F f G H;generalize e3 E=EC at M F;have ew:=h.nm (100+(0+i)) ∅;have m:=JI ns;have p:=vQ C;have q:=yA P;have r:=jM O;have s:(((C.map e3).length:Nat):Int)=C.length:=by simp
 have I:=vm U;have u:lim (X.map<|yL false).length=true:=jN ∅;have A:yP (jl [] 0) qT (pF<|p2 jf (pV 0)<|pI 0) (X.map<|yL false) [none]=some ((X.map (·.nm)).map D.str):=by
  rw[U8];refine jL (en:=yL false) rfl (λρ=>∃ o,ρ=[o]) ?_ ⟨none,rfl⟩;rintro x hx ρ ⟨o,rfl⟩;have:=O0 x;refine⟨[some<|yL false x],rfl,?_,_,rfl⟩;simp[this]
 have g:yZ false (.str c) (.lst true ((X.map (·.nm)).map D.str))=some (.bl (decide (c∈X.map (·.nm)))):=YZ _ true _;generalize(X.map (·.nm)).map D.str=NN at A g;generalize J:decide (c∈X.map (·.nm))=bq at g;have fin:∀ nm:List Nat,Wd nm->Nm nm->∃(x:OrdS) (n':Int),kc [.lst false<|ns.map D.int,At<|n+1,.str nm,.lst false<|C.map e3,.lst false<|P.map e2,.lst false<|O.map D.str]=some (Y6 x,At n')/\n+1<=n'/\n'<=n+22/\OrdOk (C.map (·.1)) (P.map (·.1)) O x/\x.nm=nm:=λnm wn wk=>by
  obtain⟨x,n',e,a0,a1,N,B⟩:=jed h (n:=n+1) ∅ ∅ nm wn wk;exact⟨x,n',e,a1,by lia,B,a0⟩
 by_cases hb:0<v%3\/bq=true
 ·have Q:NmI a W (100+i+1) (nmF a W<|100+(0+i)):=⟨100+(0+i),by lia,by lia,rfl⟩;have K:nmF a W (100+(0+i))∉X.map (·.nm):=λz=>by
   obtain⟨y,hy,ey⟩:=M5.mp z;obtain⟨k,Z,k1,ek⟩:=V y hy;have:=Qn h.bs (k:=k) (k':=100+(0+i)) Z ∅ ∅ ∅ (ek.symm.trans ey)
   lia
  obtain⟨x,n',R,a1,N,B,L⟩:=fin _ (Q.wd h.bs)<|Q.nm h.bs;refine⟨x,n',some<|.str<|nmF a W<|100+(0+i),?_,by lia,N,B,by rw[L];exact K,by rw[L];exact Q⟩;clear K Q;generalize nmF a W (100+(0+i))=w at *;rw[N7];show _=some (Out.nx [_,_,_,_,_,_,_,↑(X.map (yL false)++[yL false x]),_,_]);generalize ns.map D.int=NS,C.map e3=CC,P.map e2=PP,O.map D.str=OO at *;have S:=B.fzt;generalize X.map (yL false)=XX,Y6 x=xx,yL false x=yy at *;by_cases d:0<v%3
  ·simp(disch:=lia) [y9,s,l,M,F,Y,m,jD,d,ew,p,q,r,R,u,S,-Int.zero_add]
  ·have j:bq=true:=hb.resolve_left d;simp(disch:=lia) [y9,s,l,M,F,Y,m,jD,d,u,I,jp,A,g,j,ew,p,q,r,R,S,-Int.zero_add]
 ·have d:¬ 0<v%3:=λz=>hb<|.inl z;have j:bq=false:=by cases bq with
   | false=>rfl
   | true=>exact absurd (.inr rfl) hb
  obtain⟨x,n',R,a1,N,B,L⟩:=fin c G H;refine⟨x,n',some<|.str c,?_,by lia,N,B,by rw[L];exact of_decide_eq_false<|J.trans j,by rw[L];exact f⟩;rw[N7];show _=some (Out.nx [_,_,_,_,_,_,_,↑(X.map (yL false)++[yL false x]),_,_]);generalize ns.map D.int=NS,C.map e3=CC,P.map e2=PP,O.map D.str=OO at *;have S:=B.fzt;generalize X.map (yL false)=XX,Y6 x=xx,yL false x=yy at *;simp(disch:=lia) [y9,s,l,M,F,Y,m,jD,d,u,I,jp,A,g,j,p,q,r,R,S,-Int.zero_add]
def jcG(h:Ctx ns sd W C P O)  (l:0<=n) (B:n+500<=100000) (T:1<=mo) (U:mo<=5):
  ∃(X:List OrdS) (n':Int),ku [.lst false<|ns.map D.int,At n,.int sd,.lst false<|C.map e3,.lst false<|P.map e2,.lst false<|O.map D.str,.int mo]=some (.lst true<|X.map<|yL false,At n')/\n<=n'/\n'<=n+150/\1<=X.length/\X.length<=5/\(∀ x∈X,OrdOk (C.map (·.1)) (P.map (·.1)) O x)/\(X.map (·.nm)).Nodup:=by
 obtain⟨v,E,V⟩:=vA ns h.b l ∅;have F:=U7 v (show mo≠0 by lia);have H:=U3 v (show 0<mo by lia);have f:jA (.int v) (.int mo)=some (.int<|v%mo):=jD ∅;generalize v%mo=k at F H f;obtain⟨Y,I,X,n',m,o,rfl,p,J,A,g,c,d⟩:=kO (G:=jl [1] 8) (xs:=qW 0 (1+k).toNat) (λi ρ=>∃ X n' m o,ρ=[‹ns.map D.int›,some<|At n',some<|.int sd,‹C.map e3›,‹P.map e2›,‹O.map D.str›,some<|.int mo,↑(X.map<|yL false),m,o]/\X.length=i/\n+1<=n'/\n'<=n+1+22*i/\(∀ x∈X,OrdOk (C.map (·.1)) (P.map (·.1)) O x)/\(X.map (·.nm)).Nodup/\∀ x∈X,NmI sd W (100+i) x.nm) (by
  rintro i x ρ K ⟨X,n',m,o,rfl,p,J,A,g,c,d⟩;obtain⟨rfl,Z⟩:=Jf K;obtain⟨y,L,r,M,c1,c2,N,s,t⟩:=wB h (n:=n') ∅ ∅ ∅ g c ∅ d;refine⟨_,_,rfl,.inl M,X++[y],L,some<|.int<|0+i,r,rfl,by simp[p],by lia,by lia,λz e=>?_,?_,λz e=>?_⟩
  ·exact(N4.mp e).elim (g z) λq=>by rw[M8.mp q];exact N
  ·rw[N7];exact X8.mpr ⟨c,by simp,λa Q b R q=>by cases q;cases M8.mp R;exact s Q⟩
  ·rcases N4.mp e with e | e
   ·obtain⟨k,u,S,w⟩:=d z e;exact⟨k,u,by lia,w⟩
   ·obtain⟨k,u,S,w⟩:=t;rw[M8.mp e];exact⟨k,u,by lia,w⟩) (ρ:=[‹ns.map D.int›,some<|At<|n+1,some<|.int sd,‹C.map e3›,‹P.map e2›,‹O.map D.str›,some<|.int mo,some<|.lst true [],none,none]) ⟨[],n+1,none,none,rfl,rfl,by lia,by lia,by simp,by simp,by simp⟩
 rw[j9] at p A;refine⟨X,n',?_,by lia,by lia,by lia,by lia,g,c⟩;unfold ku;rw[qJ];simp(disch:=lia) [Y2,E,f,vk (j:=1+k) ∅ ∅,I,jb,Y4]
def jjg(h1:p ρ=some e)(h2:Y8 e=some m)(a:ρ[i]?=some (↑l))(c:l.length+m.length<=50000):Ke i p ρ=some (.nx<|ρ.set i<|↑(l++m)):=by
 have b:pV i ρ=↑l:=by unfold pV;rw[a]
 unfold Ke;rw[h1,L3,h2,L3,b];show(bif lim (l.length+m.length) then _ else _)=_;rw[jb ∅];rfl
def qV:D->List (List Nat)
 | .tup [.str _,.tup l]=>(Jr l).getD []
 | .tup [.str k,.str w]=>if k=kh then [w] else []
 | _=>[]
def jbN(ws):qV (.tup [.str jm,.tup<|ws.map D.str])=ws:=by show(Jr<|ws.map D.str).getD []=ws;rw[kQ];rfl
def VW{C P O r N a0 a2}(j:RuleS C P O r)(o:N.length<=960):(qV r).length<=6/\jF [a0,↑(N.map D.str),a2,some r]=some (.nx [a0,↑((N++qV r).map D.str),a2,some r]):=by
 have c:lim (N.map D.str).length=true:=jN ∅;cases j with
 | two kw x k q s f=>
  have b:jf (.tup [.str kw,.str x]) (.int 0)=some (.str kw):=rfl;have g:jf (.tup [.str kw,.str x]) (.int 1)=some (.str x):=rfl;by_cases d:kw=kh
  ·subst d;rw[show qV (.tup [.str kh,.str x])=[x] from rfl];refine⟨by simp,?_⟩;rw[N7];generalize N.map D.str=NN at *;simp[jF,b,g,c]
  ·have l:=U9.mpr d;rw[show qV (.tup [.str kw,.str x])=[] from if_neg d];refine⟨by simp,?_⟩;rw[N0];simp[jF,b,l,U9.mpr k]
 | share a m h f nd=>
  have b:jf (.tup [.str jm,.tup<|a.map D.str]) (.int 0)=some (.str jm):=rfl;have g:jf (.tup [.str jm,.tup<|a.map D.str]) (.int 1)=some (.tup<|a.map D.str):=rfl;rw[jbN];refine⟨m,?_⟩;rw[N7];have n:=jjg (i:=1) (p:=p2 jf (pV 3)<|pI 1) (ρ:=[a0,↑(N.map D.str),a2,some<|.tup [.str jm,.tup<|a.map D.str]]) (e:=.tup<|a.map D.str) (by rfl) (by show(bif frzs (a.map D.str) then _ else _)=_;rw[jM a];rfl) rfl (by rw[L0,L0];lia);simp[jF,b,n]
 | lend x v h f=>
  have b:jf (.tup [.str yC,.str x,.int v]) (.int 0)=some (.str yC):=rfl;rw[show qV (.tup [.str yC,.str x,.int v])=[] from rfl];refine⟨by simp,?_⟩;rw[N0];simp[jF,b]
theorem Y3{C P O a0 a2}:∀{ds:List D}{N o3},(∀ d∈ds,RuleS C P O d)->N.length+6*ds.length<=900->∃ o3',vH (jl [] 3) jF ds [a0,↑(N.map D.str),a2,o3]=some (.nx [a0,↑((N++ds.flatMap qV).map D.str),a2,o3'])
 | [],N,o3,_,_=>⟨o3,by simp⟩
 | d::ds,N,o3,h,a=>by
  rw[M2] at a;obtain⟨l1,b⟩:=VW (a0:=a0) (a2:=a2) (N:=N) (h d<|by simp) ∅;obtain⟨o3',e2⟩:=Y3 (a0:=a0) (a2:=a2) (ds:=ds) (N:=N++qV d) (o3:=some d) (λx c=>h x<|by simp[c]) (by simp;lia);exact⟨o3',by rw[lpE rfl b,e2,List.flatMap_cons,List.append_assoc]⟩
theorem uC{C P O}:∀{ds:List D},(∀ d∈ds,RuleS C P O d)->(ds.flatMap qV).length<=6*ds.length
 | [],_=>by simp
 | d::ds,h=>by
  have a:=(VW (a0:=none) (a2:=none) (N:=[]) (h d<|by simp)<|by simp).1;have b:=uC (ds:=ds) λx c=>h x (by simp[c]);rw[List.flatMap_cons,N6,M2];lia
def YI(x:OrdS):List (List Nat):=x.rules.flatMap qV
theorem VP{C P O a0}:∀{X:List OrdS}{N o2 o3},(∀ x∈X,OrdOk C P O x)->N.length+60*X.length<=600->∃ o2' o3',vH (jl [] 2) yq (X.map<|yL false) [a0,↑(N.map D.str),o2,o3]=some (.nx [a0,↑((N++X.flatMap YI).map D.str),o2',o3'])
 | [],N,o2,o3,_,_=>⟨o2,o3,by simp⟩
 | x::X,N,o2,o3,h,d=>by
  rw[M2] at d;have b:=h x (by simp);have i:=b.len;have a:=b.frzr;have j:=uC b.rules;obtain⟨p3,c⟩:=Y3 (a0:=a0) (a2:=some<|yL false x) (N:=N) (o3:=o3) b.rules ∅;obtain⟨o2',o3',e2⟩:=VP (a0:=a0) (X:=X) (N:=N++YI x) (o2:=some<|yL false x) (o3:=p3) (λy e=>h y<|by simp[e]) (by unfold YI;simp only[N6];lia);refine⟨o2',o3',?_⟩;have f:jf (yL false x) (.int 2)=‹x.rules›:=rfl;have g:yq [a0,↑(N.map D.str),some<|yL false x,o3]=some (.nx [a0,↑((N++YI x).map D.str),some<|yL false x,p3]):=by
   show _=some (Out.nx [a0,↑((N++x.rules.flatMap qV).map D.str),some<|yL false x,p3]);generalize(N++x.rules.flatMap qV).map D.str=NN at c ⊢;simp[yq,f,a,jg _ a,c]
  rw[L4,lpE rfl g,List.flatMap_cons,<- List.append_assoc];exact e2
def jbV{C P O}{X:List OrdS}(f:X.length<=5)(b:∀ x∈X,OrdOk C P O x):yJ [.lst false<|X.map<|yL false]=↑((X.flatMap YI).map D.str):=by
 have a:=vm b;obtain⟨c,d,e⟩:=VP (a0:=‹X.map (yL false)›) (N:=[]) (o2:=none) (o3:=none) b (by simp;lia);rw[E4,List.map_nil] at e;simp[yJ,jk,kz,a,jg _ a,e,jb]
def ub(w)(o)(l:J2):yZ true (.str w) (.lst o<|l.map D.str)=some (.bl<|!decide (w∈l)):=by
 show(bif jeA (.str w) (l.map D.str) then some (D.bl<|true != inL (.str w) (l.map D.str)) else none)=_;rw[Vr,Qm];simp
def jgq{C:List W3}{N:J2}{ρ:Rh}(h:∃ o,ρ=[o,↑(N.map D.str)]):yP (jl [] 0) (jd<|p2 (yZ true) (p2 jf (pV 0)<|pI 0)<|pV 1) (pF<|p2 jf (pV 0)<|pI 0) (C.map e3) ρ=some ((C.filter λc=>!decide (c.1∈N)).map λc=>.str c.1):=by
 refine YL (en:=e3) (λρ=>∃ o,ρ=[o,↑(N.map D.str)]) ?_ h;rintro c b ρ ⟨o,rfl⟩;have a:=i30 (t:=c);exact⟨[some<|e3 c,↑(N.map D.str)],rfl,by simp[a,ub c.1 true N],rfl,_,rfl⟩
def wG{ns}(h:jaN ns){P:List W2}(s:1<=P.length){F:J2}{n}(b:0<=n)(d:n<100000){a2 a4 a5}{L}(u:L.length<=100){i}(hi:i<F.length):
  ∃ q:List Nat×List Nat,(q.1∈P.map (·.1)/\q.2=F.getD i [])/\kH [‹ns.map D.int›,some<|At n,a2,‹P.map e2›,a4,a5,↑(F.map D.str),↑(L.map eG),some<|.int<|0+(i:Int)] =
   some (.nx [‹ns.map D.int›,some<|At<|n+1,a2,‹P.map e2›,a4,a5,↑(F.map D.str),↑((L++[q]).map eG),some<|.int<|0+(i:Int)]):=by
 obtain⟨v,j,x⟩:=vA ns h b d;obtain⟨c,k,m⟩:=jjf (o:=false) (U7 v<|show(P.length:Int)≠0 by lia)<|U3 v (show 0<(P.length:Int) by lia);have p:frz (e2 c)=true:=rfl;have e:jA (.int v) (.int P.length)=some (.int<|v%P.length):=jD ∅;have f:=wg (o:=true) (l:=F) (i:=0+i) ∅ ∅;have g:F.getD (0+(i:Int)).toNat []=F.getD i []:=by rw[show(0+(i:Int)).toNat=i by lia]
 generalize F.getD (0+(i:Int)).toNat []=w at f g;have r:(((P.map e2).length:Nat):Int)=P.length:=by simp
 have a:lim (L.map eG).length=true:=jN ∅;refine⟨(c.1,w),⟨M5.mpr ⟨c,k,rfl⟩,g⟩,?_⟩;rw[N7];show _=some (Out.nx [_,_,_,_,_,_,_,↑((L.map eG)++[.tup [.str c.1,.str w]]),_]);generalize(L.map eG)=LL at *;simp(disch:=lia) [kH,j,yA P,e,m,p,i20 (t:=c),f,a,-Int.zero_add]
def jbJ{ns}(H:jaN ns){C:List W3}(hC:C.length<=6){P:List W2}(hP:P.length<=100){C1 M O}{X:List OrdS}(r:(C.map (·.1)).Nodup)(Q:X.length<=5)(I:∀ x∈X,OrdOk C1 M O x){n}(s:0<=n)(R:n+50<=100000):
  ∃(L:List<|List Nat×List Nat) (n':Int),vK [.lst false<|ns.map D.int,At n,.lst false<|C.map e3,.lst false<|P.map e2,.lst false<|X.map<|yL false]=some (.lst true<|L.map eG,At n')/\n<=n'/\n'<=n+10/\L.length<=3/\(L.map (·.2)).Nodup/\∀ q∈L,q.1∈P.map (·.1)/\q.2∈C.map (·.1)/\q.2∉X.flatMap YI:=by
 have t:=jbV Q I;generalize X.flatMap YI=N at t ⊢;have g:=vQ C;have S:=zy C;have u:=vm I;have h:=jg _ u;have lC:lim (C.map e3).length=true:=jN ∅;have T:yY (N.map D.str)=true:=by simp
 have p:=jgq (C:=C) (N:=N) (ρ:=jp [none,some 5] [‹ns.map D.int›,some<|At n,‹C.map e3›,‹P.map e2›,‹X.map (yL false)›,↑(N.map D.str),none,none,none]) ⟨none,rfl⟩;have b:((C.filter λc=>!decide (c.1∈N)).map (·.1)).Sublist (C.map (·.1)):=List.Sublist.map _ List.filter_sublist;have l:∀ w∈(C.filter λc=>!decide (c.1∈N)).map (·.1),w∉N:=λw U=>by
  obtain⟨c,V,rfl⟩:=M5.mp U;simpa using(List.mem_filter.mp V).2
 rw[show(C.filter λc=>!decide (c.1∈N)).map (λc=>D.str c.1)=((C.filter λc=>!decide (c.1∈N)).map (·.1)).map D.str by rw[U8];rfl] at p;generalize(C.filter λc=>!decide (c.1∈N)).map (·.1)=F at p b l;have hF:F.length<=C.length:=by have:=b.length_le;rw[L0] at this;exact this
 have W:(((F.map D.str).length:Nat):Int)=F.length:=by simp
 have Y:(((P.map e2).length:Nat):Int)=P.length:=by simp
 by_cases Z:P.length=0
 ·have A:=List.eq_nil_of_length_eq_zero Z;subst A;refine⟨[],n,?_,by lia,by lia,by simp,by simp,by simp⟩;unfold vK;rw[qJ];simp only[List.map_nil] at *;simp(disch:=lia) [qD,t,h,g,p,jb,Y4]
 ·obtain⟨v,ev,hv⟩:=vA ns H s ∅;have hgt:0<P.length:=by lia
  have m:0<P.length:=by lia
  have d:jnh [.int F.length,.int<|v%4]=some (.int<|if v%4<F.length then v%4 else F.length):=rfl;have k0:0<=(if v%4<F.length then v%4 else F.length):=by lia
  have k1:(if v%4<F.length then v%4 else F.length)<=F.length:=by lia
  have k2:(if v%4<F.length then v%4 else F.length)<=3:=by lia
  generalize(if v%4<F.length then v%4 else F.length)=k at d k0 k1 k2;obtain⟨ρ',J,L,B,rfl,E,a,e⟩:=kO (G:=jl [1] 8) (xs:=qW 0 k.toNat) (λi ρ=>∃ L B,ρ=[‹ns.map D.int›,some<|At<|n+1+i,‹C.map e3›,‹P.map e2›,‹X.map (yL false)›,↑(N.map D.str),↑(F.map D.str),↑(L.map eG),B]/\L.length=i/\L.map (·.2)=F.take i/\∀ q∈L,q.1∈P.map (·.1)) (by
   rintro i x ρ hx ⟨L,B,rfl,E,a,e⟩;obtain⟨rfl,hi⟩:=Jf hx;obtain⟨z,K,ez⟩:=wG H (P:=P) ∅ (F:=F) (n:=n+1+i) ∅ ∅ (L:=L) ∅ (i:=i) ∅;refine⟨_,_,rfl,.inl ez,L++[z],some<|.int<|0+i,?_,by simp[E],by rw[N7,a,List.take_add_one,E5 ∅];show _++[z.2]=_;rw[K.2,List.getD_eq_getElem?_getD,E5 ∅];rfl,λq f=>(N4.mp f).elim (e q) λy=>by rw[M8.mp y];exact K.1⟩;rw[show n+1+(((i+1:Nat)):Int)=n+1+i+1 by lia]) (ρ:=[‹ns.map D.int›,some<|At<|n+1,‹C.map e3›,‹P.map e2›,‹X.map (yL false)›,↑(N.map D.str),↑(F.map D.str),some<|.lst true [],none]) ⟨[],none,by simp,rfl,by simp,by simp⟩
  rw[j9] at E a J;have o:∀ q∈L,q.2∈F:=λq f=>List.mem_of_mem_take<|a▸List.mem_map_of_mem f;refine⟨L,n+1+(k.toNat:Int),?_,by lia,by lia,by lia,by rw[a];exact(List.take_sublist _ _).nodup (b.nodup r),λq f=>⟨e q f,b.subset<|o q f,l _<|o q f⟩⟩;unfold vK;rw[qJ];simp(disch:=lia) [qD,t,h,g,p,m,ev,jD,d,vk (j:=k) ∅ ∅,J,jb,Y4]
def uR{c a:Int}{W}(b:Bse c W)(h:0<=a){q:Nat}(k:a+q<=676):((List.range q).map λj:Nat=>nmF c W<|a+(0+(j:Int))).Nodup:=by
 unfold List.Nodup;rw[List.pairwise_map];refine List.Pairwise.imp_of_mem ?_<|List.nodup_range;intro i j d f g e;have d:=List.mem_range.mp d;have f:=List.mem_range.mp f;have:=Qn b ∅ ∅ ∅ ∅ e
 lia
def jaH{ns}(j:jaN ns){n a k}{W}(nm:∀ k:Int,0<=k->jC [.int a,.int k]=some (.str<|nmF a W k))(t:0<=k)(l:k<=10)(c:0<=n)(m:n+5<=100000){a4 a5 a6}{C:List W3}(u:C.length<=100){i:Nat}{o9 b0 b1 b2 b3 b4 b5 b6}:
  ∃ x x2 o9',(1<=x/\x<=1000000000000/\1<=x2/\x2<=1000000000000)/\ko [‹ns.map D.int›,some<|At n,some<|.int a,some<|.int k,a4,a5,a6,↑(C.map e3),some<|.int<|0+(i:Int),o9,b0,b1,b2,b3,b4,b5,b6] =
   some (.nx [‹ns.map D.int›,some<|At<|n+1+1,some<|.int a,some<|.int k,a4,a5,a6,↑((C++[(nmF a W<|10*k+1+(0+(i:Int)),x,x2)]).map e3),some<|.int<|0+(i:Int),o9',b0,b1,b2,b3,b4,b5,b6]):=by
 obtain⟨v,o,p⟩:=vA ns j c ∅;obtain⟨x,ex,q,r⟩:=Vd p;obtain⟨y,d,e⟩:=vA ns j (n:=n+1) ∅ ∅;obtain⟨x2,f,g,h⟩:=Vd e;have s:=nm (10*k+1+(0+i)) ∅;have b:lim (C.map e3).length=true:=jN ∅;refine⟨x,x2,some<|.int x,⟨q,r,g,h⟩,?_⟩;generalize nmF a W (10*k+1+(0+i))=w at *;rw[N7];show _=some (Out.nx [_,_,_,_,_,_,_,↑(C.map e3++[.tup [.str w,.int x,.int x2]]),_,_,_,_,_,_,_,_,_]);generalize C.map e3=CC at *;simp(disch:=lia) [ko,o,ex,d,f,s,Kv,b,-Int.zero_add]
theorem xr(d:jaN ns)  (nm:∀ k:Int,0<=k->jC [.int sd,.int k]=some (.str<|nmF sd W k)) (f:0<=k) (a:k<=10):∀(q i:Nat) {n:Int}(_:0<=n) (_:n+q+20<=100000) o,∃ P:List W2,∃ o0:Option D,
  qG (jl [4] 0) (uG<|jT (dP<|jK jC #[pV 1,p2 jO (p2 jO (p2 qh (pI 10)<|pV 2)<|pI 7)<|pV 0])<|jT (kj jJ<|jT (yu js 4 1<|ja (pF<|pV 3)<|pFs pN) YG) YG) ((List.range' i q).map λi:Nat=>D.int<|0+(i:Int)) [o,some<|.int sd,some<|.int k,‹ns.map D.int›,some<|At n] =
   some (P.map e2,[o0,some<|.int sd,some<|.int k,‹ns.map D.int›,some<|At<|n+q])/\P.map (·.1)=((List.range' i q).map λj:Nat=>nmF sd W<|10*k+7+(0+(j:Int)))/\∀ p∈P,1<=p.2/\p.2<=1000000000000
 | 0,i,n,_,_,o=>⟨[],o,by rw[show n+((0:Nat):Int)=n by lia];rfl,rfl,by simp⟩
 | q+1,i,n,w,x,o=>by
  obtain⟨v,g,h⟩:=vA ns d (n:=n) ∅ ∅;obtain⟨c,l,c1,m⟩:=Vd h;obtain⟨P,o0,e,r,b⟩:=xr d nm f a q (i+1) (n:=n+1) ∅ ∅ (some<|.int<|0+i);refine⟨(nmF sd W<|10*k+7+(0+i),c)::P,o0,?_,?_,λp s=>?_⟩
  ·have t:(uG<|jT (dP<|jK jC #[pV 1,p2 jO (p2 jO (p2 qh (pI 10)<|pV 2)<|pI 7)<|pV 0])<|jT (kj jJ<|jT (yu js 4 1<|ja (pF<|pV 3)<|pFs pN) YG) YG) [some<|.int<|0+i,some<|.int sd,some<|.int k,‹ns.map D.int›,some<|At n]=some (.tup [.str<|nmF sd W<|10*k+7+(0+i),.int c],[some<|.int<|0+i,some<|.int sd,some<|.int k,‹ns.map D.int›,some<|At<|n+1]):=by
    simp(disch:=lia) [g,l,nm (10*k+7+(0+i)) ∅,Kv,-Int.zero_add]
   have u:jl [4] 0 (.int<|0+i) [o,some<|.int sd,some<|.int k,‹ns.map D.int›,some<|At n]=some [some<|.int<|0+i,some<|.int sd,some<|.int k,‹ns.map D.int›,some<|At n]:=rfl;rw[List.range'_succ,L4,qG,u,L3,t,L3,e,show n+((q+1:Nat):Int)=n+1+q by lia];rfl
  ·rw[List.range'_succ,L4,L4,r]
  ·exact(M4.mp s).elim (λz=>by rw[z];exact⟨c1,m⟩) (b p)
def jf9(c:jaN ns)  (nm:∀ k:Int,0<=k->jC [.int sd,.int k]=some (.str<|nmF sd W k)) (d:0<=k) (a:k<=10)  (b:0<=n) (e:n+40<=100000)  (f:q<=9):∃ P:List W2,∃ o0:Option D,
  qG (jl [4] 0) (uG<|jT (dP<|jK jC #[pV 1,p2 jO (p2 jO (p2 qh (pI 10)<|pV 2)<|pI 7)<|pV 0])<|jT (kj jJ<|jT (yu js 4 1<|ja (pF<|pV 3)<|pFs pN) YG) YG) (qW 0 q) [none,some<|.int sd,some<|.int k,‹ns.map D.int›,some<|At n] =
   some (P.map e2,[o0,some<|.int sd,some<|.int k,‹ns.map D.int›,some<|At<|n+q])/\P.map (·.1)=((List.range q).map λj:Nat=>nmF sd W<|10*k+7+(0+(j:Int)))/\∀ p∈P,1<=p.2/\p.2<=1000000000000:=by
 have:=xr c nm d a q 0 b ∅ none;rw[<- List.range_eq_range'] at this;exact this
def jo1{X:List OrdS}{i:Int}(b:0<=i)(h:i<X.length):∃ x∈X,jf (.lst o<|X.map<|yL false) (.int i)=some (yL false x):=by
 have a:i.toNat<X.length:=by lia
 exact⟨X[i.toNat],List.getElem_mem a,by rw[xG b<|by rw[L0];exact h,List.getElem?_map,E5 a];rfl⟩
def jcE{ns}(d:jaN ns){n}(a:0<=n)(e:n+5<=100000){C:List W3}(q:1<=C.length){X:List OrdS}(r:1<=X.length)  {L}(s:L.length<=100) {i:Nat}{a2 a3 a4 a5 a6 a9 b0 b2 b5 b6}:
  ∃ l b5',(l.1∈C.map (·.1)/\l.2.2∈X.map (·.nm)/\1<=l.2.1/\l.2.1<=9)/\kx [‹ns.map D.int›,some<|At n,a2,a3,a4,a5,a6,‹C.map e3›,some<|.int<|0+(i:Int),a9,b0,some<|.int (C.length:Int),b2,some<|.lst o<|X.map<|yL false,↑(L.map eL),b5,b6] =
   some (.nx [‹ns.map D.int›,some<|At<|n+1,a2,a3,a4,a5,a6,‹C.map e3›,some<|.int<|0+(i:Int),a9,b0,some<|.int (C.length:Int),b2,some<|.lst o<|X.map<|yL false,↑((L++[l]).map eL),b5',b6]):=by
 obtain⟨v,f,u⟩:=vA ns d a ∅;obtain⟨c,g,h,_⟩:=jaj (o:=false) (U7 v<|show(C.length:Int)≠0 by lia)<|U3 v (show 0<(C.length:Int) by lia);have j:jA (.int v) (.int C.length)=some (.int<|v%C.length):=jD ∅;obtain⟨x,k,ix⟩:=jo1 (o:=o) (U7 (v/100)<|show(X.length:Int)≠0 by lia)<|U3 (v/100) (show 0<(X.length:Int) by lia);have m:jA (.int<|v/100) (.int X.length)=some (.int<|v/100%X.length):=jD ∅;have p:(((X.map<|yL false).length:Nat):Int)=X.length:=by simp
 have b:lim (L.map eL).length=true:=jN ∅;refine⟨(c.1,1+v/10%9,x.nm),some<|.int v,⟨M5.mpr ⟨c,g,rfl⟩,M5.mpr ⟨x,k,rfl⟩,by dsimp only;lia,by dsimp only;lia⟩,?_⟩;rw[N7];show _=some (Out.nx [_,_,_,_,_,_,_,_,_,_,_,_,_,_,↑(L.map eL++[.tup [.str c.1,.int<|1+v/10%9,.str x.nm]]),_,_]);simp(disch:=lia) [kx,f,h,i30 (t:=c),yx,jD,ix,O0 x,jb]
structure PoolS where
 nm:List Nat
 told:List W3
 marks:List W2
 eats:List (List Nat)
 orders:List OrdS
 looks:List WL
 guards:List WG
def vc(o:Bool)(p:PoolS):D:=.tup [.str p.nm,.lst false<|p.told.map e3,.lst false<|p.marks.map e2,.lst o<|p.eats.map D.str,.lst false<|p.orders.map<|yL false,.lst false<|p.looks.map eL,.lst false<|p.guards.map eG]
structure PoolOk(O:J2)(p:PoolS):Prop where
 nm:Wd p.nm
 told:∀ c∈p.told,Wd c.1/\1<=c.2.1/\c.2.1<=10 ^ 12/\1<=c.2.2/\c.2.2<=10 ^ 12
 toldn:(p.told.map (·.1)).Nodup
 told1:0<p.told.length
 told2:p.told.length<=10
 marks:∀ c∈p.marks,Wd c.1/\1<=c.2/\c.2<=10 ^ 12
 marksn:(p.marks.map (·.1)).Nodup
 marks2:p.marks.length<=10
 eats:∀ w∈p.eats,Wd w
 eatsm:∀ w∈p.eats,w∈p.told.map (·.1)
 eatsn:p.eats.Nodup
 eats2:p.eats.length<=10
 orders:∀ x∈p.orders,OrdOk (p.told.map (·.1)) (p.marks.map (·.1)) O x
 ordn:(p.orders.map (·.nm)).Nodup
 orders1:0<p.orders.length
 orders2:p.orders.length<=10
 looks:∀ x∈p.looks,x.1∈p.told.map (·.1)/\Wd x.1/\Wd x.2.2
 looksm:∀ x∈p.looks,x.2.2∈p.orders.map (·.nm)
 looks2:p.looks.length<=10
 guards:∀ x∈p.guards,Wd x.1/\Wd x.2/\x.1∈p.marks.map (·.1)/\x.2∈p.told.map (·.1)
 guards2:p.guards.length<=10
def PoolOk.fz(h:PoolOk O p)(o):QD.fz (vc o p)=vc false p:=by
 simp[vc,zy,KN,jg _<|vm h.orders,jb8,jbt]
def PoolOk.frz(h:PoolOk O p):QD.frz (vc false p)=true:=by
 simp[vc,vQ,yA,vm h.orders,JK,qC]
noncomputable def nlP(p:PoolS):List (List Nat):=p.nm::(p.told.map (·.1)++p.marks.map (·.1))
structure PoolK(p:PoolS):Prop where
 nms:∀ w∈nlP p,Nm w
 t6:p.told.length<=6
 m3:p.marks.length<=3
 e6:p.eats.length<=6
 o5:p.orders.length<=5
 l4:p.looks.length<=4
 ld:∀ x∈p.looks,1<=x.2.1/\x.2.1<=9
 g3:p.guards.length<=3
 gn:(p.guards.map (·.2)).Nodup
 gh:∀ q∈p.guards,q.2∉p.orders.flatMap YI
def Ids(sd:Int)(W:List Nat)(k:Int)(p:PoolS):Prop:=∃ ks:List Int,nlP p=ks.map (nmF sd W)/\ks.Nodup/\∀ j∈ks,10*k<=j/\j<10*k+10
def jbz(Q:jaN ns)  (bs:Bse sd W) (nm:∀ k:Int,0<=k->jC [.int sd,.int k]=some (.str<|nmF sd W k)) (hk:0<=k) (hk2:k<=5) (hn0:0<=n) (hn1:n+1000<=100000) (m1:1<=mo) (m2:mo<=5)  (hO:O.length<=10) (hOw:∀ w∈O,Wd w):
  ∃(p:PoolS) (n':Int),Jb [.lst false<|ns.map D.int,At n,.int sd,.int k,.lst false<|O.map D.str,.int mo]=some (vc false p,At n')/\n<=n'/\n'<=n+300/\p.nm=nmF sd W (10*k)/\PoolOk O p/\PoolK p/\Ids sd W k p:=by
 obtain⟨m,em,hm⟩:=vA ns Q hn0 ∅
 have Z:=vk (j:=1+m%6) ∅ ∅;obtain⟨ρ',e1,C,u,v,rfl,J,S⟩:=kO (G:=jl [1] 8) (f:=ko) (xs:=qW 0 (1+m%6).toNat) (λi ρ=>∃(C:List W3) (u v:Option D),ρ=[‹ns.map D.int›,some<|At<|n+1+2*(i:Int),some<|.int sd,some<|.int k,‹O.map D.str›,some<|.int mo,some<|.int m,↑(C.map e3),u,v,none,none,none,none,none,none,none]/\C.map (·.1)=((List.range i).map λj:Nat=>nmF sd W<|10*k+1+(0+(j:Int)))/\∀ c∈C,1<=c.2.1/\c.2.1<=1000000000000/\1<=c.2.2/\c.2.2<=1000000000000) (by
  rintro i x ρ g ⟨C,u,v,rfl,J,S⟩;obtain⟨rfl,hi⟩:=Jf g;have hCl:C.length=i:=by have:=congrArg List.length J;rw[L0,L0,List.length_range] at this;exact this
  obtain⟨z1,z2,o9',zb,ez⟩:=jaH Q (n:=n+1+2*(i:Int)) nm hk ∅ ∅ ∅ (a4:=‹O.map D.str›) (a5:=some<|.int mo) (a6:=some<|.int m) (C:=C) ∅ (i:=i) (o9:=v) (b0:=none) (b1:=none) (b2:=none) (b3:=none) (b4:=none) (b5:=none) (b6:=none);refine⟨_,_,rfl,.inl ez,C++[(nmF sd W<|10*k+1+(0+(i:Int)),z1,z2)],some<|.int<|0+(i:Int),o9',?_,by rw[N7,J,List.range_succ,N7];rfl,λc r=>(N4.mp r).elim (S c) λy=>by rw[M8.mp y];exact zb⟩;rw[show n+1+2*(((i+1:Nat)):Int)=n+1+2*(i:Int)+1+1 by lia]) (ρ:=[‹ns.map D.int›,some<|At<|n+1,some<|.int sd,some<|.int k,‹O.map D.str›,some<|.int mo,some<|.int m,some<|.lst true [],none,none,none,none,none,none,none,none,none]) ⟨[],none,none,by simp,rfl,by simp⟩
 rw[j9] at J e1;have hCl:C.length=(1+m%6).toNat:=by have:=congrArg List.length J;rw[L0,L0,List.length_range] at this;exact this
 have B:(C.map (·.1)).Nodup:=by rw[J];exact uR bs ∅ ∅
 have hCi:∀ c∈C,NmI sd W 100 c.1:=λc r=>by
  have:=List.mem_map_of_mem (f:=(·.1)) r;rw[J] at this;obtain⟨j,A,ej⟩:=M5.mp this;have A:=List.mem_range.mp A;exact⟨_,by lia,by lia,ej.symm⟩
 have U:1<=C.length:=by lia
 have F:C.length<=6:=by lia
 clear hCl;generalize hn2:n+1+2*(((1+m%6).toNat:Nat):Int)=n2 at e1;have v2:n<=n2/\n2<=n+13:=by lia
 clear hn2
 obtain⟨P,o0,er2,H,hPb⟩:=jf9 Q nm hk ∅ (n:=n2) ∅ ∅ (q:=(m/6%4).toNat) ∅;have hP:P.length=(m/6%4).toNat:=by have:=congrArg List.length H;rw[L0,L0,List.length_range] at this;exact this
 have hPd:(P.map (·.1)).Nodup:=by rw[H];exact uR bs ∅ ∅
 have K:∀ c∈P,Wd c.1:=λc r=>by
  have:=List.mem_map_of_mem (f:=(·.1)) r;rw[H] at this;obtain⟨j,A,ej⟩:=M5.mp this;rw[<- ej];exact(Km bs ∅).wd
 have hrg2:=vk (j:=m/6%4) ∅ ∅;generalize hn3:n2+(((m/6%4).toNat:Nat):Int)=n3 at er2;have v3:n2<=n3/\n3<=n2+3:=by lia
 clear hn3;have frN:=JI ns;have hdc:z7 (qx #[p2 jA (p2 yf (pV 6)<|pI 6)<|pI 4]) (jl [4] 0) (uG<|jT (dP<|jK jC #[pV 1,p2 jO (p2 jO (p2 qh (pI 10)<|pV 2)<|pI 7)<|pV 0])<|jT (kj jJ<|jT (yu js 4 1<|ja (pF<|pV 3)<|pFs pN) YG) YG) [none,some 2,some 3,some 0,some 1] 1 4
   [‹ns.map D.int›,some<|At n2,some<|.int sd,some<|.int k,‹O.map D.str›,some<|.int mo,some<|.int m,↑(C.map e3),u,v,none,none,none,none,none,none,none] =
   some (.lst true<|P.map e2,[‹ns.map D.int›,some<|At n3,some<|.int sd,some<|.int k,‹O.map D.str›,some<|.int mo,some<|.int m,↑(C.map e3),u,v,none,none,none,none,none,none,none]):=by
  have hpi:qx #[p2 jA (p2 yf (pV 6)<|pI 6)<|pI 4] [‹ns.map D.int›,some<|At n2,some<|.int sd,some<|.int k,‹O.map D.str›,some<|.int mo,some<|.int m,↑(C.map e3),u,v,none,none,none,none,none,none,none]=some (qW 0 (m/6%4).toNat):=by
   simp(disch:=lia) [yx,jD,hrg2]
  have hfb:YS 4 [none,some<|.int sd,some<|.int k,‹ns.map D.int›,some<|At n2]=true:=by simp[YS,frN]
  have hlm:lim (qW 0 (m/6%4).toNat).length=true:=jb (by rw[j9];lia);unfold z7;rw[hpi,L3];show(bif lim (qW 0 (m/6%4).toNat).length&&YS 4 [none,some<|.int sd,some<|.int k,‹ns.map D.int›,some<|At n2] then(qG _ _ _ [none,some<|.int sd,some<|.int k,‹ns.map D.int›,some<|At n2]).bind _ else none)=_;rw[hlm,hfb,er2];rfl
 have a1:=U7 (m/24) (show(C.length:Int)+1≠0 by lia);have a2:=U3 (m/24) (show 0<(C.length:Int)+1 by lia);have hmc:jA (.int<|m/24) (.int<|(C.length:Int)+1)=some (.int<|m/24%((C.length:Int)+1)):=jD ∅;generalize m/24%((C.length:Int)+1)=q at a1 a2 hmc;have hrg3:=vk (j:=q) ∅ ∅;have hlm3:lim (qW 0 q.toNat).length=true:=jb (by rw[j9];lia);have er3:=uv (o:=true) (T:=C) (n:=m) (c:=100) (q:=q.toNat) ∅ F (by decide) (by decide) hm;have M:=xH (C:=C.map (·.1)) (a:=m/100) (q:=q.toNat) (by rw[L0];lia);have V:=Yn (C:=C.map (·.1)) (a:=m/100) (q:=q.toNat) (by rw[L0];lia) (by rw[L0];lia) B;have hEl:=Vy (C:=C.map (·.1)) (a:=m/100) (q:=q.toNat);generalize cyc (C.map (·.1)) (m/100) q.toNat=E at er3 M V hEl
 have cx:Ctx ns sd W C P O:=⟨Q,bs,nm,U,F,by lia,hO,B,hCi,K,hOw⟩;obtain⟨X,R,e4,b1,b2,hX1,Y,N,hXn⟩:=jcG cx (n:=n3) (mo:=mo) ∅ ∅ m1 m2
 have hrg5:=vk (j:=m/1000%5) ∅ ∅;obtain⟨ρ5,e5,L,p8,p15,rfl,hL,d⟩:=kO (G:=jl [1] 8) (f:=kx) (xs:=qW 0 (m/1000%5).toNat) (λi ρ=>∃(L:List WL) (u b5:Option D),ρ=[‹ns.map D.int›,some<|At<|R+(i:Int),some<|.int sd,some<|.int k,‹O.map D.str›,some<|.int mo,some<|.int m,‹C.map e3›,u,v,‹P.map e2›,some<|.int (C.length:Int),↑(E.map D.str),↑(X.map<|yL false),↑(L.map eL),b5,none]/\L.length=i/\∀ l∈L,l.1∈C.map (·.1)/\l.2.2∈X.map (·.nm)/\1<=l.2.1/\l.2.1<=9) (by
  rintro i x ρ g ⟨L,u,b5,rfl,hL,d⟩;obtain⟨rfl,hi⟩:=Jf g;obtain⟨z,b5',zm,ez⟩:=jcE Q (n:=R+(i:Int)) ∅ ∅ (C:=C) U (X:=X) hX1 (o:=true) (L:=L) ∅ (i:=i) (a2:=some<|.int sd) (a3:=some<|.int k) (a4:=‹O.map D.str›) (a5:=some<|.int mo) (a6:=some<|.int m) (a9:=v) (b0:=‹P.map e2›) (b2:=↑(E.map D.str)) (b5:=b5) (b6:=none);refine⟨_,_,rfl,.inl ez,L++[z],some<|.int<|0+(i:Int),b5',?_,by simp[hL],λq hq=>(N4.mp hq).elim (d q) λy=>by rw[M8.mp y];exact zm⟩;rw[show R+(((i+1:Nat)):Int)=R+(i:Int)+1 by lia]) (ρ:=[‹ns.map D.int›,some<|At R,some<|.int sd,some<|.int k,‹O.map D.str›,some<|.int mo,some<|.int m,‹C.map e3›,u,v,‹P.map e2›,some<|.int (C.length:Int),↑(E.map D.str),↑(X.map<|yL false),some<|.lst true [],none,none]) ⟨[],u,none,by simp,rfl,by simp⟩
 rw[j9] at hL e5;generalize hn5:R+(((m/1000%5).toNat:Nat):Int)=n5 at e5;have v5:R<=n5/\n5<=R+4:=by lia
 clear hn5;obtain⟨G,n6,e6,d1,d2,hG,hGn,t⟩:=jbJ Q (C:=C) F (P:=P) ∅ (X:=X) B Y N (n:=n5) ∅ ∅;have ew:=nm (10*k) ∅;have wC:∀ w∈C.map (·.1),Wd w:=λw I=>by obtain⟨c,r,rfl⟩:=M5.mp I;exact cx.cw c r
 have wP:∀ w∈P.map (·.1),Wd w:=λw I=>by obtain⟨c,r,rfl⟩:=M5.mp I;exact K c r
 have s:nmF sd W (10*k)::(C.map (·.1)++P.map (·.1))=(10*k::((List.range (1+m%6).toNat).map (λj:Nat=>10*k+1+(0+(j:Int)))++(List.range (m/6%4).toNat).map λj:Nat=>10*k+7+(0+(j:Int)))).map (nmF sd W)/\(10*k::((List.range (1+m%6).toNat).map (λj:Nat=>10*k+1+(0+(j:Int)))++(List.range (m/6%4).toNat).map λj:Nat=>10*k+7+(0+(j:Int)))).Nodup/\∀ j∈(10*k::((List.range (1+m%6).toNat).map (λj:Nat=>10*k+1+(0+(j:Int)))++(List.range (m/6%4).toNat).map λj:Nat=>10*k+7+(0+(j:Int)))),10*k<=j/\j<10*k+10:=by
  have nd:∀(a:Int) (q:Nat),((List.range q).map λj:Nat=>a+(0+(j:Int))).Nodup:=λa q=>by
   unfold List.Nodup;rw[List.pairwise_map];exact List.Pairwise.imp (λh e=>h ∅)<|List.nodup_range (n:=q)
  refine⟨?_,?_,?_⟩
  ·rw[L4,N7,U8,U8,J,H];rfl
  ·rw[List.nodup_cons,X8];refine⟨λz=>?_,nd _ _,nd _ _,λa ha b Q e=>?_⟩
   ·rcases N4.mp z with z | z<;>(obtain⟨j,A,ej⟩:=M5.mp z;lia)
   ·obtain⟨j,A,ej⟩:=M5.mp ha;obtain⟨j2,hj2,ej2⟩:=M5.mp Q;have:=List.mem_range.mp A
    lia
  ·intro j A;rcases M4.mp A with rfl | A
   ·lia
   ·rcases N4.mp A with z | z<;>(obtain⟨i,hi,ei⟩:=M5.mp z;have:=List.mem_range.mp hi;lia)
 refine⟨⟨nmF sd W<|10*k,C,P,E,X,L,G⟩,n6,?_,by lia,by lia,rfl,⟨(Km bs ∅).wd,λc r=>⟨cx.cw c r,S c r⟩,B,U,N9 F<|by decide,λc r=>⟨K c r,hPb c r⟩,hPd,by show P.length<=10;lia,λw I=>wC w<|M w I,M,V,by show E.length<=10;lia,N,hXn,hX1,N9 Y<|by decide,λx g=>⟨(d x g).1,wC _ (d x g).1,by obtain⟨y,hy,ey⟩:=M5.mp (d x g).2.1;rw[<- ey];exact(N y hy).nm⟩,λx g=>(d x g).2.1,by show L.length<=10;lia,λx g=>⟨wP _ (t x g).1,wC _ (t x g).2.1,(t x g).1,(t x g).2.1⟩,by show G.length<=10;lia⟩,⟨λw I=>by have I:w∈nmF sd W (10*k)::(C.map (·.1)++P.map (·.1)):=I;rw[s.1] at I;obtain⟨j,A,rfl⟩:=M5.mp I;exact Km bs<|by have:=s.2.2 j A;lia,F,by show P.length<=3;lia,by show E.length<=6;lia,Y,by show L.length<=4;lia,λx g=>(d x g).2.2,hG,hGn,λq hq=>(t q hq).2.2⟩,_,s⟩;clear B hCi hPd K M V hXn d t J H s hGn;generalize nmF sd W (10*k)=w at *;show _=some (D.tup [.str w,.lst false<|C.map e3,.lst false<|P.map e2,.lst false<|E.map D.str,.lst false<|X.map<|yL false,.lst false<|L.map eL,.lst false<|G.map eG],At n6);have frC:=vQ C;have fzC:=zy C;have frP:=yA P;have fzP:=KN P;have frE:=jM E;have fzE:=Jk E;have frX:=vm N;have fzX:=jg _ frX;have frL:=JK L;have fzL:=jg _ frL;have frG:=qC G;have fzG:=jg _ frG;have frO:=jM O;have hlC:(((C.map e3).length:Nat):Int)=(C.length:Int):=by rw[L0]
 have hbk:jp [none,some 7,some 6,some 11] [‹ns.map D.int›,some<|At n3,some<|.int sd,some<|.int k,‹O.map D.str›,some<|.int mo,some<|.int m,↑(C.map e3),u,v,↑(P.map e2),some<|.int (C.length:Int),none,none,none,none,none]=[none,↑(C.map e3),some<|.int m,some<|.int (C.length:Int)]:=rfl;unfold Jb;rw[qJ];generalize ns.map D.int=NS,C.map e3=CC,P.map e2=PP,E.map D.str=EE,X.map (yL false)=XX,L.map eL=LL,G.map eG=GG,O.map D.str=OO at *;simp(disch:=lia) [KJ,em,frN,jD,yx,Z,e1,hdc,hlC,hmc,hrg3,hlm3,hbk,er3,fzC,fzP,frC,frP,frO,e4,hrg5,e5,fzX,frX,e6,fzE,frE,fzL,frL,fzG,frG,Kv,ew,jb,Y4,-uZ,-ji0]
 try rfl
structure DealOk(Ps:List PoolS):Prop where
 len1:0<Ps.length
 len2:Ps.length<=6
 nmn:(Ps.map (·.nm)).Nodup
 ok:∀ p∈Ps,∃ X,PoolOk X p/\PoolK p/\∀ w∈X,w∈Ps.map (·.nm)/\w≠p.nm
 all:(Ps.flatMap nlP).Nodup
def jbb{ns}(E:jaN ns){n b}{W}(bs:Bse b W)(nm:∀ k:Int,0<=k->jC [.int b,.int k]=some (.str<|nmF b W k))(g:0<=n)(h:n+1000<=100000){M:Nat}{N:J2}(L:N.length<=6)(j:∀ w∈N,Wd w){i}(hi:i<N.length)(c:N.getD (0+(i:Int)).toNat []=nmF b W (10*(0+(i:Int)))){B}(P:B.length<=100){a3 F}:
  ∃ p n' o8',kq [‹ns.map D.int›,some<|At n,some<|.int b,a3,some<|.int (M:Int),↑(N.map D.str),↑(B.map<|vc false),some<|.int<|0+(i:Int),F] =
   some (.nx [‹ns.map D.int›,some<|At n',some<|.int b,a3,some<|.int (M:Int),↑(N.map D.str),↑((B++[p]).map (vc false)),some<|.int<|0+(i:Int),o8'])/\n<=n'/\n'<=n+300/\p.nm=nmF b W (10*(0+(i:Int)))/\∃ X,PoolOk X p/\PoolK p/\Ids b W (0+(i:Int)) p/\∀ w∈X,w∈N/\w≠p.nm:=by
 have G:=wg (o:=true) (l:=N) (i:=0+i) ∅ ∅;generalize N.getD (0+(i:Int)).toNat []=u at G c;have t:yP (jl [] 0) (jd<|p2 Ka (pV 0)<|p2 jf (pV 1)<|pV 2) (pF<|pV 0) (N.map D.str) (jp [none,some 5,some 7] [‹ns.map D.int›,some<|At n,some<|.int b,a3,some<|.int M,↑(N.map D.str),↑(B.map<|vc false),some<|.int<|0+i,F])=some ((N.filter λw=>!(w==u)).map D.str):=by
  refine YL (λρ=>∃ o,ρ=[o,↑(N.map D.str),some<|.int<|0+i]) ?_ ⟨none,rfl⟩;rintro w a ρ ⟨o,rfl⟩;refine⟨[some<|.str w,↑(N.map D.str),some<|.int<|0+i],rfl,?_,rfl,_,rfl⟩;simp[G,-Int.zero_add]
 have K:(N.filter λw=>!(w==u)).length<=N.length:=List.length_filter_le _ _;have d:∀ w∈N.filter (λw=>!(w==u)),w∈N/\w≠u:=λw a=>⟨(List.mem_filter.mp a).1,by simpa using(List.mem_filter.mp a).2⟩;generalize(N.filter λw=>!(w==u))=O at t K d;have m:=JI ns;have q:=jM O;have r:=Jk O;have s:=jM N;have H:lim (N.map D.str).length=true:=jN ∅;have I:lim (B.map<|vc false).length=true:=jN ∅;by_cases J:M=6
 ·subst J;rw[show((6:Nat):Int)=6 from rfl] at t ⊢;obtain⟨p,n',v,x,y,pn,z,e,f⟩:=jbz E (k:=0+i) (mo:=2) bs nm ∅ ∅ g h (by decide) (by decide) ∅ (λw a=>j w (d w a).1);refine⟨p,n',‹O.map D.str›,?_,x,y,pn,O,z,e,f,λw a=>⟨(d w a).1,by rw[pn,<- c];exact(d w a).2⟩⟩;rw[N7];have A:jf (.lst true [.int 5,.int 2]) (.int 1)=some (.int 2):=rfl;simp(disch:=lia) [kq,s,H,t,r,m,q,A,v,I,jb,-Int.zero_add]
 ·have C:¬ (M:Int)=6:=by lia
  obtain⟨p,n',v,x,y,pn,z,e,f⟩:=jbz E (k:=0+i) (mo:=5) bs nm ∅ ∅ g h (by decide) (by decide) ∅ (λw a=>j w (d w a).1);refine⟨p,n',‹O.map D.str›,?_,x,y,pn,O,z,e,f,λw a=>⟨(d w a).1,by rw[pn,<- c];exact(d w a).2⟩⟩;rw[N7];have A:jf (.lst true [.int 5,.int 2]) (.int 0)=some (.int 5):=rfl;simp(disch:=lia) [kq,s,H,t,r,m,q,C,J,A,v,I,jb,-Int.zero_add]
def jhn{ns}(f:jaN ns):∃ sd W B,Bse sd W/\kN [.lst false<|ns.map D.int]=↑(B.map<|vc false)/\DealOk B:=by
 obtain⟨s0,es,hs0,_⟩:=jbW ns f (k:=0) (by decide) (by decide);obtain⟨v,ev,hv⟩:=vA ns f (n:=0) (by decide) (by decide);obtain⟨W,bs,nm⟩:=jg9 (s:=s0%1000000000000) ∅;have H:xQ (.int 10) (.int 12)=some (.int 1000000000000):=rfl;have hM:∃ M:Nat,1<=M/\M<=6/\jf (.lst true [.int 1,.int 2,.int 3,.int 1,.int 2,.int 6]) (.int<|v%6)=some (.int M):=by
  have:v%6=0\/v%6=1\/v%6=2\/v%6=3\/v%6=4\/v%6=5:=by lia
  rcases this with h | h | h | h | h | h<;>rw[h]
  ·exact⟨1,by decide,by decide,rfl⟩
  ·exact⟨2,by decide,by decide,rfl⟩
  ·exact⟨3,by decide,by decide,rfl⟩
  ·exact⟨1,by decide,by decide,rfl⟩
  ·exact⟨2,by decide,by decide,rfl⟩
  ·exact⟨6,by decide,by decide,rfl⟩
 obtain⟨M,M1,M6,iM⟩:=hM;have e6:xg [.int M]=some (qW 0 M):=by
  have:=vk (j:=M) ∅ ∅;simpa using this
 have I:lim (qW 0 M).length=true:=jb (by rw[j9];lia);have Z:yP (jl [] 0) qT (jK jC #[pV 1,p2 qh (pI 10)<|pV 0]) (qW 0 M) (jp [none,some 2] [‹ns.map D.int›,some<|At 1,some<|.int<|s0%1000000000000,some<|.int v,some<|.int M,none,none,none,none])=some (((List.range M).map λj:Nat=>nmF (s0%1000000000000) W<|10*(0+j)).map D.str):=by
  rw[U8];refine jL (l:=List.range M) rfl (λρ=>∃ o,ρ=[o,some<|.int<|s0%1000000000000]) ?_ ⟨none,rfl⟩;rintro i d ρ ⟨o,rfl⟩;have d:=List.mem_range.mp d;refine⟨[some<|.int<|0+i,some<|.int<|s0%1000000000000],rfl,?_,_,rfl⟩;simp(disch:=lia) [Kv,nm (10*(0+i)) ∅,-Int.zero_add]
 have u:∀ w∈(List.range M).map λj:Nat=>nmF (s0%1000000000000) W<|10*(0+j),Wd w:=λw hw=>by
  obtain⟨j,_,rfl⟩:=M5.mp hw;exact(Km bs ∅).wd
 have y:((List.range M).map λj:Nat=>nmF (s0%1000000000000) W<|10*(0+j)).Nodup:=by
  unfold List.Nodup;rw[List.pairwise_map];refine List.Pairwise.imp_of_mem ?_<|List.nodup_range;intro i j d g hij e;have d:=List.mem_range.mp d;have g:=List.mem_range.mp g;have:=Qn bs ∅ ∅ ∅ ∅ e
  lia
 have J:((List.range M).map λj:Nat=>nmF (s0%1000000000000) W<|10*(0+j)).length=M:=by rw[L0,List.length_range]
 have hT:∀ i:Nat,i<M->((List.range M).map λj:Nat=>nmF (s0%1000000000000) W<|10*(0+j)).take (i+1)=((List.range M).map λj:Nat=>nmF (s0%1000000000000) W<|10*(0+j)).take i++[nmF (s0%1000000000000) W<|10*(0+i)]:=λi d=>by
  rw[List.take_add_one,List.getElem?_map,List.getElem?_range d];rfl
 have hG:∀ i:Nat,i<M->((List.range M).map λj:Nat=>nmF (s0%1000000000000) W<|10*(0+j)).getD (0+(i:Int)).toNat []=nmF (s0%1000000000000) W (10*(0+(i:Int))):=λi d=>by
  rw[List.getD_eq_getElem?_getD,List.getElem?_map,show(0+(i:Int)).toNat=i by lia,List.getElem?_range d];rfl
 generalize((List.range M).map λj:Nat=>nmF (s0%1000000000000) W<|10*(0+j))=N at Z u y J hT hG;obtain⟨ρ',e1,B,t,K,L,rfl,m,b1,b2,O,ks,q,r,c⟩:=kO (G:=jl [] 7) (xs:=qW 0 M) (λi ρ=>∃ B t K L,ρ=[‹ns.map D.int›,some<|At t,some<|.int<|s0%1000000000000,some<|.int v,some<|.int M,↑(N.map D.str),↑(B.map<|vc false),K,L]/\B.map (·.nm)=N.take i/\1<=t/\t<=1+300*i/\(∀ p∈B,∃ X,PoolOk X p/\PoolK p/\∀ w∈X,w∈N/\w≠p.nm)/\∃ ks:List Int,B.flatMap nlP=ks.map (nmF (s0%1000000000000) W)/\ks.Nodup/\∀ j∈ks,0<=j/\j<10*i) (by
  rintro i x ρ hx ⟨B,t,K,L,rfl,m,b1,b2,O,ks,q,r,c⟩;obtain⟨rfl,d⟩:=Jf hx;have P:B.length<=i:=by have:=congrArg List.length m;rw[L0,E6] at this;lia
  obtain⟨p,n2,Q,e,c1,c2,pn,X,R,S,⟨T,U,V,A⟩,Y⟩:=jbb f (n:=t) bs nm ∅ ∅ ∅ u (i:=i) ∅ (hG i d) (B:=B) ∅;refine⟨_,_,rfl,.inl e,B++[p],n2,some<|.int<|0+i,Q,rfl,by rw[N7,m,hT i d,<- pn];rfl,by lia,by lia,λz C=>?_,ks++T,?_,?_,λj g=>?_⟩
  ·rcases N4.mp C with C | C
   ·exact O z C
   ·rw[M8.mp C];exact⟨X,R,S,Y⟩
  ·rw[List.flatMap_append,q,N7,<- U];simp
  ·rw[X8];exact⟨r,V,λa F b f e=>by have:=c a F;have:=A b f;lia⟩
  ·rcases N4.mp g with g | g
   ·have:=c j g;lia
   ·have:=A j g;lia) (ρ:=[‹ns.map D.int›,some<|At 1,some<|.int<|s0%1000000000000,some<|.int v,some<|.int M,↑(N.map D.str),some<|.lst true [],none,none]) ⟨[],1,none,none,rfl,rfl,by lia,by lia,by simp,[],rfl,.nil,by simp⟩
 rw[j9,<- J,List.take_length] at m;have P:B.length=M:=by have:=congrArg List.length m;rw[L0,J] at this;exact this
 have E:(B.flatMap nlP).Nodup:=by
  rw[q];unfold List.Nodup;rw[List.pairwise_map];exact List.Pairwise.imp_of_mem (λ{a b} F f h e=>h<|Qn bs (c a F).1 (by have:=(c a F).2;rw[j9] at this;lia) (c b f).1 (by have:=(c b f).2;rw[j9] at this;lia) e) r
 refine⟨_,W,B,bs,?_,⟨by lia,by lia,by rw[m];exact y,by rw[m];exact O,E⟩⟩;simp(disch:=lia) [kN,jk,Kh,jb,JI ns,jcM ns,es,H,jD,ev,iM,e6,I,Z,e1,-Int.zero_add]
noncomputable abbrev NmK:=Nm
def jcN{w:List Nat}(h:NmK w):1<=w.length/\w.length<=8:=⟨h.l1,h.l⟩
def xZ{w:List Nat}(h:NmK w):∀ c∈w,97<=c/\c<=122:=h.r
noncomputable def jnO:List Nat:=[48,49,50,51,52,53,54,55,56,57]
def fig_mem{c:Nat}:c∈jnO↔48<=c/\c<=57:=⟨λh=>(by decide:∀ x∈jnO,48<=x/\x<=57) c h,λh=>(show 48+(c-48)=c by omega)▸(by decide:∀ d:Fin 10,48+d.1∈jnO) ⟨c-48,by omega⟩⟩
def VR(w s:List Nat)(hl:w.length<=1000):kK [.str w,.str s]=some (.bl<|w.all λc=>decide<|c∈s):=by
 have a:yP (jl [] 0) qT (p2 (yZ false) (pV 0)<|pV 1) (w.map λc=>D.str [c]) (jp [none,some 1] [some<|.str w,some<|.str s])=some (w.map λc=>D.bl<|decide<|c∈s):=by
  refine jL rfl (λρ=>∃ o,ρ=[o,some<|.str s]) ?_ ⟨none,rfl⟩;rintro x b ρ ⟨o,rfl⟩;exact⟨[some<|.str [x],some<|.str s],rfl,by simp,_,rfl⟩
 have e:(w.map λc=>D.bl<|decide<|c∈s)=(w.map λc=>decide<|c∈s).map D.bl:=by rw[U8];rfl
 rw[e] at a;simp(disch:=omega) [kK,jk,KK,a,jb,-List.map_map];rfl
def zi{w:List Nat}(hl:w.length<=1000):yn [.str w]=some (if 1<=w.length/\w.length<=13/\¬ (1<w.length/\w.getD 0 0=48)/\(∀ c∈w,48<=c/\c<=57) then .int (NumText.digitsVal w:Nat) else .non):=by
 have a:=VR w [48,49,50,51,52,53,54,55,56,57] hl;by_cases f:1<=w.length
 ·have b:(1:Int)<=w.length:=by omega
  by_cases i:w.length<=13
  ·have d:(w.length:Int)<=13:=by omega
   by_cases e:∀ c∈w,48<=c/\c<=57
   ·have j:(w.all λc=>decide<|c∈[48,49,50,51,52,53,54,55,56,57])=true:=List.all_eq_true.mpr λc k=>X9<|fig_mem.mpr<|e c k;rw[j] at a;by_cases g:w.getD 0 0=48
    ·by_cases h:1<w.length
     ·have l:¬ (w=[48]):=λz=>by rw[z] at h;exact absurd h (by decide)
      rw[if_neg<|λz=>z.2.2.1 ⟨h,g⟩];have m:(w.getD 0 0==48)=true:=by rw[g];rfl
      have n:(w==[48])=false:=U9.mpr l;simp(disch:=first | omega | (simp;done) | (simp;omega)) [yn,jk,vb,wN,jhv,b,d,a,m,n,-List.getD_eq_getElem?_getD]
     ·rw[if_pos ⟨f,i,λz=>h z.1,e⟩];have l:w=[48]:=by
       obtain⟨c,rfl⟩:=List.length_eq_one_iff.mp (show w.length=1 by omega);have:c=48:=by simpa using g
       rw[this]
      subst l;simp(disch:=first | omega | (simp;done) | (simp;omega)) [yn,jk,vb,wN,jhv,b,d,a];rfl
    ·rw[if_pos ⟨f,i,λz=>g z.2,e⟩];have m:(w.getD 0 0==48)=false:=U9.mpr g;have o:=jnl (w:=w) (λz=>by rw[z] at f;exact absurd f<|by decide) (by omega) e;simp(disch:=first | omega | (simp;done) | (simp;omega)) [yn,jk,vb,wN,jhv,b,d,a,m,o,-List.getD_eq_getElem?_getD]
   ·have j:(w.all λc=>decide<|c∈[48,49,50,51,52,53,54,55,56,57])=false:=by
     apply Bool.eq_false_iff.mpr;intro z;exact e λc k=>fig_mem.mp<|E2<|List.all_eq_true.mp z c k
    rw[j] at a;rw[if_neg<|λz=>e z.2.2.2];simp(disch:=first | omega | (simp;done) | (simp;omega)) [yn,jk,vb,wN,jhv,b,d,a]
  ·have d:¬ (w.length:Int)<=13:=by omega
   rw[if_neg<|λz=>i z.2.1];simp(disch:=first | omega | (simp;done) | (simp;omega)) [yn,jk,vb,wN,jhv,b,d,a]
 ·have b:¬ (1:Int)<=w.length:=by omega
  rw[if_neg<|λz=>f z.1];simp(disch:=first | omega | (simp;done) | (simp;omega)) [yn,jk,vb,wN,jhv,b,a]
def xy(m:Nat)(h:10<=m):JP m=JP (m/10)++[(Nat.digitChar<|m%10).toNat]:=by
 have a:m%10<10:=Nat.mod_lt m (by decide);have t:=Nat.toDigits_append_toDigits (b:=10) (n:=m/10) (d:=m%10) (by decide) (by omega) a;rw[Nat.div_add_mod,Nat.toDigits_of_lt_base a] at t;unfold JP;rw[<- t,N7];rfl
def jdh:∀ d:Nat,d<10->(Nat.digitChar d).toNat=48+d:=by decide
def VA(m:Nat):∀ c∈JP m,48<=c/\c<=57:=by
 induction m using Nat.strongRecOn with
 | _ m b=>
  by_cases h:m<10
  ·intro c a;unfold JP at a;rw[Nat.toDigits_of_lt_base h] at a;have:=jdh m h;simp at a;omega
  ·rw[xy m<|by omega];intro c a;rcases N4.mp a with a | a
   ·exact b (m/10) (by omega) c a
   ·have:=jdh (m%10)<|Nat.mod_lt m (by decide);rw[M8.mp a];omega
def jcC(m:Nat)(h1:1<=m):(JP m).getD 0 0≠48:=by
 induction m using Nat.strongRecOn with
 | _ m b=>
  by_cases h:m<10
  ·unfold JP;rw[Nat.toDigits_of_lt_base h];have:=jdh m h;simp;omega
  ·rw[xy m<|by omega];have c:=xP<|m/10;have e:(JP (m/10)++[(Nat.digitChar<|m%10).toNat]).getD 0 0=(JP<|m/10).getD 0 0:=by
    cases hq:JP (m/10) with
    | nil=>exact absurd hq c
    | cons a l=>rfl
   rw[e];exact b (m/10) (by omega) (by omega)
def jcr{n:Int}(h1:1<=n)(h2:n<=10 ^ 12):yn [.str<|JP n.toNat]=some (.int n):=by
 have a:(JP n.toNat).length<=13:=u5 (by decide) (by omega);have b:=xP n.toNat
 have c:1<=(JP n.toNat).length:=List.length_pos_iff.mpr b;rw[zi<|by omega,if_pos ⟨c,a,λz=>jcC n.toNat (by omega) z.2,VA n.toNat⟩,jd9];congr 2;omega
def jgt{w:List Nat}(h:NmK w):w∉KW:=h.nk
def jnP:Je=.tup (KW.map D.str):=rfl
def jjN(w:List Nat)(l:J2):yZ true (.str w) (.tup<|l.map D.str)=some (.bl<|true != decide (w∈l)):=by
 show(bif jeA (.str w) (l.map D.str) then some (D.bl<|true != inL (.str w) (l.map D.str)) else none)=_;rw[Vr,Qm];rfl
def xY{c:Nat}(h:97<=c/\c<=122):c∈[97,98,99,100,101,102,103,104,105,106,107,108,109,110,111,112,113,114,115,116,117,118,119,120,121,122]:=by
 have q:=(by decide:∀ d:Fin 26,97+d.1∈[97,98,99,100,101,102,103,104,105,106,107,108,109,110,111,112,113,114,115,116,117,118,119,120,121,122]) ⟨c-97,by omega⟩
 rwa [show 97+(c-97)=c by omega] at q
def jau{w:List Nat}(h:NmK w):J5 [.str w]=some (.bl true):=by
 have i:=jcN h;have b:=VR w [97,98,99,100,101,102,103,104,105,106,107,108,109,110,111,112,113,114,115,116,117,118,119,120,121,122] (by omega);rw[List.all_eq_true.mpr λc e=>X9<|xY<|xZ h c e] at b;have a:=jjN w KW;rw[E1<|jgt h] at a;have f:(1:Int)<=w.length:=by omega
 have g:(w.length:Int)<=8:=by omega
 have d:=jnP;generalize KW.map D.str=KL at a d;simp(disch:=first | omega | (simp;done) | (simp;omega)) [J5,jk,xp,wN,f,g,b,d,a]
inductive Item where
 | nm (w:List Nat) | nu (n:Int)
noncomputable def Item.enc:Item->D
 | .nm w=>.str w
 | .nu n=>.int n
def Item.wd:Item->List Nat
 | .nm w=>w
 | .nu n=>JP n.toNat
noncomputable abbrev vS:List Nat:=[110,97,109,101]
inductive Fit:Item->List Nat->Prop where
 | nm (w:List Nat) (h:NmK w):Fit (.nm w) vS
 | nu (n:Int) (k:List Nat) (g:Int) (hk:k≠vS) (hg:JZ ks_GREATEST Jm (.str k)=some (.int g)) (h1:1<=n) (h2:n<=g) (h3:g<=10 ^ 12):Fit (.nu n) k
def Fit.wd{x:Item}{k:List Nat}(h:Fit x k):x.wd≠[]/\32∉x.wd/\x.wd.length<=13:=by
 cases h with
 | nm w h=>
  have a:=jcN h;exact⟨λz=>by rw[show(Item.nm w).wd=w from rfl] at z;rw[z] at a;simp at a,λz=>by have:=xZ h 32 z;omega,by show w.length<=13;omega⟩
 | nu n k g b c d e f=>exact⟨xP _,λz=>by have:=VA _ 32 z;omega,u5 (by decide)<|by omega⟩
def Fit.str{x:Item}{k:List Nat}(h:Fit x k):V8 [x.enc]=some (.str x.wd):=by
 cases h with
 | nm w h=>rfl
 | nu n k g c d e a b=>exact jaB (by omega)<|Int.lt_of_le_of_lt (Int.le_trans a b) (by decide)
def Fit.atom{x:Item}{k:List Nat}(h:Fit x k):frz x.enc=true/\kE x.enc=true/\Kp x.enc .non=some (.bl false):=by cases h<;>exact⟨rfl,rfl,rfl⟩
def jdO{x:Item}{k:List Nat}(h:Fit x k):vx [.str x.wd,.str k]=some x.enc:=by
 cases h with
 | nm w h=>
  have e:=jau h;show vx [.str w,.str vS]=some (.str w);simp[vx,jk,YF,e]
 | nu n k g b c a d j=>
  have e:=jcr a (by omega);have f:(k==[110,97,109,101])=false:=U9.mpr b;have i:Kp (.int n) .non=some (.bl false):=rfl;show vx [.str<|JP n.toNat,.str k]=some (.int n);simp[vx,jk,YF,f,e,i,c,a,d]
structure Fm(kw:List Nat)(xs:List Item)(kinds:J2):Prop where
 kw1:kw≠[]
 kw2:Lt kw
 kw3:kw.length<=13
 at_:jW [.str kw,.int (xs.length:Int)]=some (.tup<|kinds.map D.str)
 len:xs.length=kinds.length
 few:xs.length<=6
 fit:∀(i:Nat) (x:Item) (k:List Nat),xs[i]?=some x->kinds[i]?=some k->Fit x k
def Fm.mem{kw:List Nat}{xs:List Item}{kinds:J2}(h:Fm kw xs kinds){x:Item}(b:x∈xs):∃ k,Fit x k:=by
 obtain⟨i,a⟩:=List.mem_iff_getElem?.mp b;have c:i<kinds.length:=by rw[<- h.len];exact(L9.mp a).1
 exact⟨_,h.fit i x _ a<|E5 c⟩
theorem zh{a0 a1 a2:Option D}:∀{xs:List Item}{kinds:J2}{acc:List D}{o4 o5 o6:Option D},xs.length=kinds.length->(∀(i:Nat) (x:Item) (k:List Nat),xs[i]?=some x->kinds[i]?=some k->Fit x k)->acc.length+xs.length<=1000 ->
  ∃ o4' o5' o6',vH (gT 2<|gC (jl [] 4)<|gC (jl [] 5) gN) kB (jaW (xs.map λx=>D.str x.wd)<|kinds.map D.str) [a0,a1,a2,↑acc,o4,o5,o6]=some (.nx [a0,a1,a2,↑(acc++xs.map Item.enc),o4',o5',o6'])
 | [],[],acc,o4,o5,o6,_,_,_=>⟨o4,o5,o6,by simp[jaW]⟩
 | [],_::_,_,_,_,_,h,_,_=>by simp at h
 | _::_,[],_,_,_,_,h,_,_=>by simp at h
 | x::xs,k::kinds,acc,o4,o5,o6,d,b,f=>by
  rw[M2] at f;have c:=b 0 x k rfl rfl;have g:=jdO c;obtain⟨j,l,m⟩:=c.atom;obtain⟨o4',o5',o6',e⟩:=zh (a0:=a0) (a1:=a1) (a2:=a2) (xs:=xs) (kinds:=kinds) (acc:=acc++[x.enc]) (o4:=some<|.str x.wd) (o5:=some<|.str k) (o6:=some x.enc) ⇑d (λi x k n o=>b (i+1) x k ⇑n ⇑o) (by rw[N6];simp only[M2,List.length_nil];omega);refine⟨o4',o5',o6',?_⟩;have p:(gT 2<|gC (jl [] 4)<|gC (jl [] 5) gN) (.tup [.str x.wd,.str k]) [a0,a1,a2,↑acc,o4,o5,o6]=some [a0,a1,a2,↑acc,some<|.str x.wd,some<|.str k,o6]:=rfl;have a:lim acc.length=true:=jb (by omega);have q:kB [a0,a1,a2,↑acc,some<|.str x.wd,some<|.str k,o6]=some (.nx [a0,a1,a2,↑(acc++[x.enc]),some<|.str x.wd,some<|.str k,some x.enc]):=by
   simp[kB,g,l,m,j,a]
  rw[L4,L4,jaW,qX,p,L3,q,L3,jcL,e];simp
def jhu{kw:List Nat}{xs:List Item}{kinds:J2}(h:Fm kw xs kinds)(pl:Int):Jj [.lst false<|.str kw::xs.map λx=>.str x.wd,.tup<|kinds.map D.str,.int pl]=↑(.str kw::xs.map Item.enc):=by
 have few:=h.few;have a:=h.len;obtain⟨i,o5,j,e⟩:=zh (a0:=‹.str kw::xs.map λx=>.str x.wd›) (a1:=some<|.tup<|kinds.map D.str) (a2:=some<|.int pl) (xs:=xs) (kinds:=kinds) (acc:=[.str kw]) (o4:=none) (o5:=none) (o6:=none) h.len h.fit (by simp;omega);have k:Kp (.tup<|kinds.map D.str) .non=some (.bl false):=rfl;have c:frzs (xs.map λx=>D.str x.wd)=true:=vO λd hd=>by obtain⟨x,_,rfl⟩:=M5.mp hd;rfl
 have b:fzs (xs.map λx=>D.str x.wd)=xs.map λx=>D.str x.wd:=xq λd hd=>by obtain⟨x,_,rfl⟩:=M5.mp hd;rfl
 have f:jiL (some 1) none (.lst false<|.str kw::xs.map λx=>.str x.wd)=↑(xs.map λx=>.str x.wd):=by
  rw[jog<|by rw[qB,c];rfl,YM _<|by decide];rfl
 have l:jf (.lst false<|.str kw::xs.map λx=>.str x.wd) (.int 0)=some (.str kw):=by rw[xG (by decide)<|by simp];rfl
 have m:jiH 2 [.lst true<|xs.map λx=>.str x.wd,.tup<|kinds.map D.str]=some (jaW (xs.map λx=>D.str x.wd)<|kinds.map D.str):=by rw[jnp rfl rfl<|by simp;omega,b,Jk]
 have n:((kinds.length:Int)==(xs.length:Int))=true:=by rw[a];simp
 have g:((xs.length:Int)+1-1)=xs.length:=by omega
 simp only[List.cons_append,E4] at e;simp(disch:=omega) [Jj,jk,KB,k,f,l,m,e,jb,a,g]
def jab{T:List Nat}(hT:T.length<=1000):Ja [.str T]=↑((wgo 32 [] T).map D.str):=by
 have c:yP (jl [] 0) (jd<|p2 Ka (pV 0)<|pS []) (pF<|pV 0) ((yO T [32]).map D.str) [none]=some (((yO T [32]).filter λw=>!(w==[])).map D.str):=by
  refine YL (λρ=>∃ o,ρ=[o]) ?_ ⟨none,rfl⟩;rintro w d ρ ⟨o,rfl⟩;exact⟨[some<|.str w],rfl,by simp,rfl,_,rfl⟩
 rw[xf] at c;have a:J6 (.str T) [.str [32]]=↑((yO T [32]).map D.str):=by
  show(bif !([32]:List Nat).isEmpty&&decide (T.length<=1000000) then _ else _)=_;rw[X9<|by omega];rfl
 have b:lim (yO T [32]).length=true:=by
  refine jb ?_;unfold yO;rw[L0];have:=PyProof.Rows.split_le (S T)<|S [32];rw[ql] at this;omega
 simp[Ja,jk,Kr,a,b,jp,c]
def jjc{kw:List Nat}{xs:List Item}{kinds:J2}(h:Fm kw xs kinds){T:List Nat}(hT:T.length<=1000)(j:wgo 32 [] T=kw::xs.map Item.wd)(pl:Int):kX [.str T,.int pl]=↑(.str kw::xs.map Item.enc):=by
 have f:=jab hT;rw[j] at f;have e2:=jhu h pl;have l:((kw::xs.map Item.wd).map D.str)=.str kw::xs.map λx=>D.str x.wd:=by rw[L4,U8];rfl
 rw[l] at f;have a:fzs (xs.map λx=>D.str x.wd)=xs.map λx=>D.str x.wd:=xq λd hd=>by obtain⟨x,_,rfl⟩:=M5.mp hd;rfl
 have b:=Jk kinds;have m:jf (.lst true<|.str kw::xs.map λx=>.str x.wd) (.int 0)=some (.str kw):=by rw[xG (by decide)<|by simp];rfl
 have g:yY (xs.map λx=>D.str x.wd)=true:=by rw[vt,List.all_map,List.all_eq_true];intro x _;rfl
 have c:yY (kinds.map D.str)=true:=by rw[vt,List.all_map,List.all_eq_true];intro x _;rfl
 have e:yY (xs.map Item.enc)=true:=by
  rw[vt];exact List.all_eq_true.mpr λd hd=>by obtain⟨x,n,rfl⟩:=M5.mp hd;obtain⟨k,o⟩:=h.mem n;exact o.atom.2.1
 have p:¬ ((xs.length:Int)+1=0):=by omega
 have i:((xs.length:Int)+1-1)=xs.length:=by omega
 simp[kX,jk,QU,f,m,h.at_,i,a,b,e2,g,e,c,p]
def jfe{n:Nat}(hn:n<=100)(pl:Int):kX [.str<|List.replicate n 32,.int pl]=some .non:=by
 have a:=jab (T:=List.replicate n 32) (by rw[List.length_replicate];omega);have:wgo 32 [] (List.replicate n 32)=[]:=by
  have:=Q3 32 n [];rw[N0] at this;rw[this];rfl
 rw[this] at a;simp only[List.map_nil] at a;simp[kX,jk,QU,a]
structure Txd(t:List Nat)(done:J2):Prop where
 go:∀ n r,wgo 32 [] (t++(List.replicate (n+1) 32++r))=done++wgo 32 [] r
 fin:∀ n,wgo 32 [] (t++List.replicate n 32)=done
def Txd.first{w:List Nat}(h1:w≠[])(h2:32∉w)(a:Nat):Txd (List.replicate a 32++w) [w]:=⟨λn r=>by rw[List.append_assoc,Q3,QF 32 h1 h2];rfl,λn=>by rw[List.append_assoc,Q3,jac 32 h1 h2]⟩
def Txd.step{t:List Nat}{done:J2}(h:Txd t done){w:List Nat}(h1:w≠[])(h2:32∉w)(b:Nat):Txd (t++List.replicate (b+1) 32++w) (done++[w]):=by
 refine⟨λn r=>?_,λn=>?_⟩
 ·have e:t++List.replicate (b+1) 32++w++(List.replicate (n+1) 32++r)=t++(List.replicate (b+1) 32++(w++(List.replicate (n+1) 32++r))):=by simp only[List.append_assoc]
  rw[e,h.go,QF 32 h1 h2,List.append_assoc];rfl
 ·have e:t++List.replicate (b+1) 32++w++List.replicate n 32=t++(List.replicate (b+1) 32++(w++List.replicate n 32)):=by simp only[List.append_assoc]
  rw[e,h.go,jac 32 h1 h2]
inductive Fits:List Item->List (List Nat)->Prop where
 | nil:Fits [] []
 | cons {x:Item}{k:List Nat}{xs:List Item}{ks:J2}(h:Fit x k) (t:Fits xs ks):Fits (x::xs) (k::ks)
def Q4{xs:List Item}{kinds:J2}(h:Fits xs kinds):∀(i:Nat) (x:Item) (k:List Nat),xs[i]?=some x->kinds[i]?=some k->Fit x k:=by
 induction h with
 | nil=>intro i x k h;simp at h
 | cons h _ c=>
  intro i x k a b;cases i with
  | zero=>simp at a b;subst a;subst b;exact h
  | succ i=>exact c i x k ⇑a ⇑b
noncomputable def sgo(c:Nat):List Nat->List Nat->List (List Nat)
 | cur,[]=>[cur]
 | cur,d::r=>if d=c then cur::sgo c [] r else sgo c (cur++[d]) r
theorem x9(c:Nat):∀(p cur r:List Nat),c∉p->sgo c cur (p++r)=sgo c (cur++p) r
 | [],cur,r,_=>by simp
 | d::p,cur,r,h=>by
  rw[List.cons_append,sgo,if_neg<|λz=>h<|by simp[z],x9 c p (cur++[d]) r<|λz=>h<|by simp[z]];simp
theorem Qe(c:Nat):∀(L:J2),L≠[]->(∀ p∈L,c∉p)->sgo c [] (ya [c] L)=L
 | [],h,_=>absurd rfl h
 | [p],_,h=>by
  have:=x9 c p [] []<|h p (by simp);rw[N0,E4] at this;show sgo c [] p=_;rw[this];rfl
 | p::q::L,_,h=>by
  have e:ya [c] (p::q::L)=p++([c]++ya [c] (q::L)):=by rw[ya];simp
  rw[e,x9 c p [] _<|h p<|by simp,E4,List.cons_append,E4,sgo,if_pos rfl,Qe c (q::L) (by simp) λx a=>h x<|by simp[a]]
def jai{L:J2}(g:L≠[])(h:∀ p∈L,10∉p):yO (ya [10] L) [10]=L:=by
 generalize i:ya [10] L=a;have j:∀ p∈yO a [10],10∉p:=by
  intro p d;unfold yO at d;obtain⟨x,k,rfl⟩:=M5.mp d;exact StrLaws.split_free (S a) 10 x k
 have b:ya [10] (yO a [10])=a:=by
  have e:=QR [10]<|yO a [10];have l:(yO a [10]).map S=Txt.split (S a) (S [10]):=by
   unfold yO;rw[U8]
   conv=>rhs;rw[<- List.map_id (Txt.split (S a)<|S [10])]
   exact List.map_congr_left λx _=>by
    show S x.cps.toList=x;apply PyProof.Rows.ext_toList;rw[vE]
  rw[l,StrLaws.join_split] at e;have:=congrArg (λx:Str=>x.cps.toList) e;simpa [vE] using this.symm
 have c:yO a [10]≠[]:=by
  intro z;rw[z] at b;have:a=[]:=b.symm;rw[this] at z;exact absurd z (by decide)
 have f:=Qe 10 _ c j;have e2:=Qe 10 L g h;rw[b] at f;rw[i] at e2;rw[<- f,e2]
structure Rw where
 kw:List Nat
 xs:List Item
 ks:List (List Nat)
abbrev QX(r:Rw):Prop:=Fm r.kw r.xs r.ks
def Rw.wds(r:Rw):List (List Nat):=r.kw::r.xs.map Item.wd
def Rw.told(r:Rw):List D:=.str r.kw::r.xs.map Item.enc
def Fit.sg{x:Item}{k:List Nat}(h:Fit x k):∀ c∈x.wd,33<=c/\c<127:=by
 cases h with
 | nm w h=>intro c a;have:=xZ h c a;omega
 | nu n k g b d e f i=>intro c a;have:=VA _ c a;omega
def Rw.ok{r:Rw}(h:QX r):∀ v∈r.wds,v≠[]/\(∀ c∈v,33<=c/\c<127)/\v.length<=13:=λv a=>by
 rcases M4.mp a with rfl | a
 ·exact⟨h.kw1,λc d=>by have:=h.kw2 c d;omega,h.kw3⟩
 ·obtain⟨x,e,rfl⟩:=M5.mp a;obtain⟨k,b⟩:=h.mem e;exact⟨b.wd.1,b.sg,b.wd.2.2⟩
structure LineOk(p:List Nat×Option Rw):Prop where
 len:p.1.length<=600
 no:10∉p.1
 b:p.2=none->∃ n,n<=100/\p.1=List.replicate n 32
 r:∀ r,p.2=some r->QX r/\wgo 32 [] p.1=r.wds
noncomputable def lD(p:List Nat×Option Rw):D:=.str p.1
noncomputable def rD(o:Bool)(r:Rw):D:=.lst o<|r.wds.map D.str
def jfT(r:Rw):frz (rD false r)=true:=jM _
def jnL(o)(r:Rw):fz (rD o r)=rD false r:=by show D.lst false (fzs<|r.wds.map D.str)=_;rw[Jk];rfl
theorem u4:∀ L:List (List Nat),(ya [10] L).length<=(L.map List.length).sum+L.length
 | []=>by simp[ya]
 | [p]=>by simp[ya]
 | p::q::L=>by
  have e:ya [10] (p::q::L)=p++([10]++ya [10] (q::L)):=by rw[ya];simp
  have a:=u4<|q::L;rw[e];simp only[N6,M2,L4,List.sum_cons,List.length_nil] at a ⊢;omega
noncomputable abbrev Vu:List Nat:=[99,111,105,110,115]
noncomputable abbrev jcZ:List Nat:=[116,101,110,116,104,115]
noncomputable abbrev jkN:List Nat:=[100,97,121,115]
noncomputable abbrev yk:List Nat:=[112,111,111,108]
noncomputable abbrev yK:List Nat:=[99,108,97,105,109]
noncomputable abbrev KP:List Nat:=[112,111,116]
noncomputable abbrev qp:List Nat:=[101,97,116]
noncomputable abbrev jI:List Nat:=[111,114,100,101,114]
noncomputable abbrev y8:List Nat:=[112,97,114,116]
noncomputable abbrev vh:List Nat:=[108,111,111,107]
noncomputable abbrev jU:List Nat:=[103,117,97,114,100]
def rwC(c:W3):Rw:=⟨yK,[.nm c.1,.nu c.2.1,.nu c.2.2],[vS,Vu,Vu]⟩
def rwM(c:W2):Rw:=⟨KP,[.nm c.1,.nu c.2],[vS,Vu]⟩
def rwE(k:List Nat)(ws:J2):Rw:=⟨k,ws.map .nm,ws.map λ_=>vS⟩
def rwN(k w:List Nat):Rw:=⟨k,[.nm w],[vS]⟩
def rwP(c:W2):Rw:=⟨y8,[.nm c.1,.nu c.2],[vS,jcZ]⟩
def rwL(c:WL):Rw:=⟨vh,[.nm c.1,.nu c.2.1,.nm c.2.2],[vS,jkN,vS]⟩
def rwG(c:WG):Rw:=⟨jU,[.nm c.1,.nm c.2],[vS,vS]⟩
def jl8:D->Rl
 | .tup [.str _,.tup l]=>.share<|(Jr l).getD []
 | .tup [.str _,.str w,.int i]=>.lend w i
 | .tup [.str k,.str w]=>.two k w
 | _=>.share []
def jeW:∀ t:Rl,jl8 t.enc=t
 | .two _ _=>rfl
 | .lend _ _=>rfl
 | .share a=>by show Rl.share ((Jr<|a.map D.str).getD [])=_;rw[kQ];rfl
def rwR:Rl->Rw
 | .two k w=>rwN k w
 | .share ws=>rwE jm ws
 | .lend w i=>⟨yC,[.nm w,.nu i],[vS,Vu]⟩
def vf(x:OrdS):List Rw:=rwN jI x.nm::(x.parts.map rwP++x.rules.map λd=>rwR<|jl8 d)
def yV(p:PoolS):List Rw:=rwN yk p.nm::(p.told.map rwC++p.marks.map rwM)
def VJ(p:PoolS):List Rw:=if p.eats=[] then [] else [rwE qp p.eats]
def Qk(p):(VJ p).length<=1:=by unfold VJ;split<;>simp
def jX(p:PoolS):List Rw:=yV p++VJ p++p.orders.flatMap vf++p.looks.map rwL++p.guards.map rwG
def jbg(k ws):(rwE k ws).wds=k::ws:=by show k::((ws.map Item.nm).map Item.wd)=_;rw[U8];exact congrArg _<|List.map_id _
section
variable {C P O:J2}{a0 a2:Option D}
def jcq{t:Rl}(c:x5 C P O t \/ ∃ w,t=.two j0 w){A:List Rw}(u:A.length<=10000):jB [a0,↑(A.map<|rD true),a2,some t.enc]=some (.nx [a0,↑((A++[rwR t]).map (rD true)),a2,some t.enc]):=by
 have d:lim (A.map<|rD true).length=true:=jb (by rw[L0];lia);rw[N7];cases t with
 | two k w=>
  show jB [a0,↑(A.map<|rD true),a2,some<|.tup [.str k,.str w]]=some (.nx [a0,↑(A.map (rD true)++[.lst true [.str k,.str w]]),a2,some<|.tup [.str k,.str w]]);have m:¬ k=jm:=by
   rcases c with(⟨rfl | rfl,_⟩ | ⟨rfl,_⟩ | ⟨rfl,_⟩) | ⟨j,e⟩
   all_goals first | decide | (cases e;decide)
  have b:jf (.tup [.str k,.str w]) (.int 0)=some (.str k):=rfl;generalize A.map (rD true)=AA at *;have f:V8 [.str k]=some (.str k):=rfl;have g:V8 [.str w]=some (.str w):=rfl;simp[jB,b,U9.mpr m,kP,f,g,jb,jp,d]
 | share a=>
  have n:a.length<=6:=by rcases c with h | ⟨j,e⟩;exact h.2.1;cases e
  have o:rD true (rwR<|.share a)=.lst true (.str jm::a.map D.str):=by show D.lst true ((rwE jm a).wds.map D.str)=_;rw[jbg];rfl
  rw[List.map_singleton,o];have b:jf (.tup [.str jm,.tup<|a.map D.str]) (.int 0)=some (.str jm):=rfl;have p:jf (.tup [.str jm,.tup<|a.map D.str]) (.int 1)=some (.tup<|a.map D.str):=rfl;have l:=jM a;have q:YA [.tup<|a.map D.str]=↑(a.map D.str):=by show(bif frzs (a.map D.str) then _ else _)=_;rw[l];rfl
  have r:jO (.lst true [.str jm]) (.lst true<|a.map D.str)=↑(.str jm::a.map D.str):=by
   show(bif lim (1+(a.map D.str).length)&&(frzs [.str jm]&&frzs (a.map D.str)) then _ else _)=_;rw[l,jb<|by rw[L0];lia];rfl
  show jB [a0,↑(A.map<|rD true),a2,some<|.tup [.str jm,.tup<|a.map D.str]]=some (.nx [a0,_,a2,some<|.tup [.str jm,.tup<|a.map D.str]]);generalize A.map (rD true)=AA,a.map D.str=WW at *;simp[jB,b,p,q,r,d,jb]
 | lend w i=>
  have v:1<=i/\i<=10 ^ 12:=by rcases c with h | ⟨j,e⟩;exact h.2;cases e
  show jB [a0,↑(A.map<|rD true),a2,some<|.tup [.str yC,.str w,.int i]]=some (.nx [a0,↑(A.map (rD true)++[.lst true [.str yC,.str w,.str<|JP i.toNat]]),a2,some<|.tup [.str yC,.str w,.int i]]);have b:jf (.tup [.str yC,.str w,.int i]) (.int 0)=some (.str yC):=rfl;generalize A.map (rD true)=AA at *;have f:V8 [.str yC]=some (.str yC):=rfl;have g:V8 [.str w]=some (.str w):=rfl;have s:=jaB (i:=i) ∅ ∅;simp[jB,b,kP,f,g,s,jb,jp,d]
theorem Kq:∀{R:List Rl}{A:List Rw}{o3},(∀ t∈R,x5 C P O t \/ ∃ w,t=.two j0 w)->A.length+R.length<=10000->∃ o3',vH (jl [] 3) jB (R.map Rl.enc) [a0,↑(A.map<|rD true),a2,o3]=some (.nx [a0,↑((A++R.map rwR).map (rD true)),a2,o3'])
 | [],A,o3,_,_=>⟨o3,by simp⟩
 | t::R,A,o3,h,a=>by
  rw[M2] at a;obtain⟨o3',e⟩:=Kq (R:=R) (A:=A++[rwR t]) (o3:=some t.enc) (λx b=>h x<|by simp[b]) (by simp;lia);exact⟨o3',by rw[L4,lpE rfl<|jcq (h t<|by simp) ∅,e];simp⟩
end
section
variable {C P O:J2}{a0:Option D}
def KY{l:List W2}(h:∀ p∈l,1<=p.2/\p.2<=10 ^ 12)(kw:List Nat)(f:W2->Rw)(b:∀ p,rD true (f p)=.lst true [.str kw,.str p.1,.str<|JP p.2.toNat]):yP (jl [] 0) qT (kF #[pS kw,pF<|p2 jf (pV 0)<|pI 0,pCB V8 #[p2 jf (pV 0)<|pI 1]]) (l.map e2) [none]=some ((l.map f).map (rD true)):=by
 rw[U8];refine jL (en:=e2) rfl (λρ=>∃ o,ρ=[o]) ?_ ⟨none,rfl⟩;rintro p a ρ ⟨o,rfl⟩;refine⟨[some<|e2 p],rfl,?_,_,rfl⟩;have c:jf (e2 p) (.int 1)=some (.int p.2):=rfl;have d:jf (e2 p) (.int 0)=some (.str p.1):=rfl;have s:=jaB (i:=p.2) (by have:=h p a;lia) (by have:=h p a;lia);show _=some (rD true<|f p);rw[b];generalize e2 p=E at *;simp[d,c,s,jb]
def wq{l:List W3}(h:∀ p∈l,1<=p.2.1/\p.2.1<=10 ^ 12/\1<=p.2.2/\p.2.2<=10 ^ 12):yP (jl [] 0) qT (kF #[pS yK,pF<|p2 jf (pV 0)<|pI 0,pCB V8 #[p2 jf (pV 0)<|pI 1],pCB V8 #[p2 jf (pV 0)<|pI 2]]) (l.map e3) [none]=some ((l.map rwC).map (rD true)):=by
 rw[U8];refine jL (en:=e3) rfl (λρ=>∃ o,ρ=[o]) ?_ ⟨none,rfl⟩;rintro p a ρ ⟨o,rfl⟩;refine⟨[some<|e3 p],rfl,?_,_,rfl⟩;have b:jf (e3 p) (.int 0)=some (.str p.1):=rfl;have c:jf (e3 p) (.int 1)=some (.int p.2.1):=rfl;have d:jf (e3 p) (.int 2)=some (.int p.2.2):=rfl;have s:=jaB (i:=p.2.1) (by have:=h p a;lia) (by have:=h p a;lia);have e:=jaB (i:=p.2.2) (by have:=h p a;lia) (by have:=h p a;lia);show _=some (D.lst true [.str yK,.str p.1,.str<|JP p.2.1.toNat,.str<|JP p.2.2.toNat]);generalize e3 p=E at *;simp[b,c,d,s,e,jb]
def jaP{l:List WL}(h:∀ p∈l,1<=p.2.1/\p.2.1<=9):yP (jl [] 0) qT (kF #[pS vh,pF<|p2 jf (pV 0)<|pI 0,pCB V8 #[p2 jf (pV 0)<|pI 1],pF<|p2 jf (pV 0)<|pI 2]) (l.map eL) [none]=some ((l.map rwL).map (rD true)):=by
 rw[U8];refine jL (en:=eL) rfl (λρ=>∃ o,ρ=[o]) ?_ ⟨none,rfl⟩;rintro p a ρ ⟨o,rfl⟩;refine⟨[some<|eL p],rfl,?_,_,rfl⟩;have b:jf (eL p) (.int 0)=some (.str p.1):=rfl;have c:jf (eL p) (.int 1)=some (.int p.2.1):=rfl;have d:jf (eL p) (.int 2)=some (.str p.2.2):=rfl;have s:=jaB (i:=p.2.1) (by have:=h p a;lia) (by have:=h p a;lia);show _=some (D.lst true [.str vh,.str p.1,.str<|JP p.2.1.toNat,.str p.2.2]);generalize eL p=E at *;simp[b,c,d,s,jb]
def w8(l:List WG):yP (jl [] 0) qT (kF #[pS jU,pF<|p2 jf (pV 0)<|pI 0,pF<|p2 jf (pV 0)<|pI 1]) (l.map eG) [none]=some ((l.map rwG).map (rD true)):=by
 rw[U8];refine jL (en:=eG) rfl (λρ=>∃ o,ρ=[o]) ?_ ⟨none,rfl⟩;rintro p c ρ ⟨o,rfl⟩;refine⟨[some<|eG p],rfl,?_,_,rfl⟩;have a:jf (eG p) (.int 0)=some (.str p.1):=rfl;have b:jf (eG p) (.int 1)=some (.str p.2):=rfl;show _=some (D.lst true [.str jU,.str p.1,.str p.2]);generalize eG p=E at *;simp[a,b,jb]
def QH{x:OrdS}{R:List Rl}(e:x.rules=R.map Rl.enc):(x.rules.map λd=>rwR<|jl8 d)=R.map rwR:=by
 rw[e,U8];exact List.map_congr_left λt _=>by show rwR (jl8 t.enc)=_;rw[jeW]
def Vv{x:OrdS}(h:OrdOk C P O x):(vf x).length<=20:=by
 unfold vf;have:=h.len;have:=h.p6;simp only[M2,N6,L0];lia
def jez{x:OrdS}(h:OrdOk C P O x){A:List Rw}(v:A.length<=9000){o3}:∃ o3',vo [a0,↑(A.map<|rD true),some<|yL false x,o3]=some (.nx [a0,↑((A++vf x).map (rD true)),some<|yL false x,o3']):=by
 obtain⟨R,w,c,d,y,f⟩:=h.rl;have p6:=h.p6;have g:=KY (l:=x.parts) (λp i=>by have:=h.parts p i;lia) y8 rwP λ_=>rfl;have j:=yA x.parts;have k:lim (x.parts.map e2).length=true:=jN ∅;have a:=h.frzr;have b:=jg _ a;obtain⟨o3',e⟩:=Kq (a0:=a0) (a2:=some<|yL false x) (C:=C) (P:=P) (O:=O) (R:=R++[Rl.two j0 w]) (A:=A++[rwN jI x.nm]++x.parts.map rwP) (o3:=o3) (λt m=>(N4.mp m).elim (λz=>.inl<|f t z) λz=>.inr ⟨w,M8.mp z⟩) (by simp;lia);rw[<- c] at e;refine⟨o3',?_⟩;have n:A++vf x=A++[rwN jI x.nm]++x.parts.map rwP++(R++[Rl.two j0 w]).map rwR:=by
  unfold vf;rw[QH c];simp
 rw[n];have l1:lim (A.map<|rD true).length=true:=jN ∅;have o:(A++[rwN jI x.nm]++x.parts.map rwP).map (rD true)=A.map (rD true)++[.lst true [.str jI,.str x.nm]]++(x.parts.map rwP).map (rD true):=by rw[N7,N7];rfl
 have q:lim (((A.map (rD true)++[D.lst true [.str jI,.str x.nm]]).length+((x.parts.map rwP).map (rD true)).length))=true:=jb (by simp;lia);rw[o] at e;have r:jf (yL false x) (.int 0)=some (.str x.nm):=rfl;have s:jf (yL false x) (.int 1)=‹x.parts.map e2›:=rfl;have u:jf (yL false x) (.int 2)=‹x.rules›:=rfl;generalize(A++[rwN jI x.nm]++x.parts.map rwP++(R++[Rl.two j0 w]).map rwR).map (rD true)=ZZ at *;generalize(x.parts.map rwP).map (rD true)=PP at *;generalize A.map (rD true)=AA,x.parts.map e2=QQ,x.rules=RR,yL false x=XX at *;apply sq (by simp[r,jb,l1];rfl);apply sq (by simp[s,j,k,jp,g,q,-List.length_append];rfl);rw[Qd];simp[u,a,b];simpa using e
end
def sqv{f g:FS}{ρ a:Rh}{r}(h:f ρ=some (.nx a))(k:(g a).bind Out.val=r):(jj f g ρ).bind Out.val=r:=by rw[sq h rfl];exact k
theorem zS{C P O:J2}{a0:Option D}:∀{X:List OrdS}{A:List Rw}{o2 o3},(∀ x∈X,OrdOk C P O x)->A.length+20*X.length<=8000->∃ o2' o3',vH (jl [] 2) vo (X.map<|yL false) [a0,↑(A.map<|rD true),o2,o3]=some (.nx [a0,↑((A++X.flatMap vf).map (rD true)),o2',o3'])
 | [],A,o2,o3,_,_=>⟨o2,o3,by simp⟩
 | x::X,A,o2,o3,h,b=>by
  rw[M2] at b;have a:=h x (by simp);have:=Vv a;obtain⟨p3,c⟩:=jez (a0:=a0) a (A:=A) ∅ (o3:=o3);obtain⟨o2',o3',e2⟩:=zS (a0:=a0) (X:=X) (A:=A++vf x) (o2:=some<|yL false x) (o3:=p3) (λy d=>h y<|by simp[d]) (by simp;lia);exact⟨o2',o3',by rw[L4,lpE rfl c,List.flatMap_cons,<- List.append_assoc];exact e2⟩
theorem Vf{C P O:J2}:∀{X:List OrdS},(∀ x∈X,OrdOk C P O x)->(X.flatMap vf).length<=20*X.length
 | [],_=>by simp
 | x::X,h=>by
  have a:=Vv<|h x (by simp);have b:=Vf (X:=X) λy c=>h y (by simp[c]);rw[List.flatMap_cons,N6,M2];lia
def V3{O:J2}{p:PoolS}(h:PoolOk O p)(k:PoolK p):(jX p).length<=130:=by
 have a:=Vf h.orders;have:=k.t6;have:=k.m3;have:=k.o5;have:=k.l4;have:=k.g3;have e:=Qk p;unfold jX yV;simp only[M2,N6,L0];lia
def jb0{O:J2}{p:PoolS}(h:PoolOk O p)(k:PoolK p):vU [vc false p]=↑((jX p).map (rD true)):=by
 have t6:=k.t6;have m3:=k.m3;have e6:=k.e6;have o5:=k.o5;have l4:=k.l4;have g3:=k.g3;have m:=wq (l:=p.told) λc d=>(h.told c d).2;have o:=KY (l:=p.marks) (λc d=>(h.marks c d).2) KP rwM λ_=>rfl;have q:=jaP k.ld;have r:=w8 p.guards;have ol:=Vf h.orders;have s:=vQ p.told;have t:=yA p.marks;have u:=jM p.eats;have i:=vm h.orders;have v:=JK p.looks;have w:=qC p.guards;have x:=jg _ i;have l1:lim (p.told.map e3).length=true:=jN ∅;have y:lim (p.marks.map e2).length=true:=jN ∅;have z:lim (p.looks.map eL).length=true:=jN ∅;have B:lim (p.guards.map eG).length=true:=jN ∅;have C:jf (vc false p) (.int 0)=some (.str p.nm):=rfl;have E:jf (vc false p) (.int 1)=‹p.told.map e3›:=rfl;have F:jf (vc false p) (.int 2)=‹p.marks.map e2›:=rfl;have e:jf (vc false p) (.int 3)=‹p.eats.map D.str›:=rfl;have G:jf (vc false p) (.int 4)=‹p.orders.map (yL false)›:=rfl;have H:jf (vc false p) (.int 5)=‹p.looks.map eL›:=rfl;have I:jf (vc false p) (.int 6)=‹p.guards.map eG›:=rfl;have j:sIf (dPT<|jd<|p2 Y0 (pCB vg #[p2 jf (pV 0)<|pI 3])<|pI 0) (jaA 1<|p2 jO (kF #[pS [101,97,116]])<|p2 jf (pV 0)<|pI 3) jn [some<|vc false p,↑((yV p).map (rD true)),none,none]=some (.nx [some<|vc false p,↑((yV p++VJ p).map (rD true)),none,none]):=by
  have J:lim ((yV p).map (rD true)).length=true:=jb (by unfold yV;simp;lia);by_cases a:p.eats=[]
  ·rw[show VJ p=[] from if_pos a,N0];rw[a] at e;simp[e]
  ·rw[show VJ p=[rwE qp p.eats] from if_neg a];have K:(0:Int)<((p.eats.map D.str).length:Nat):=by rw[L0];have:=List.length_pos_iff.mpr a;lia
   have L:rD true (rwE qp p.eats)=.lst true (.str qp::p.eats.map D.str):=by show D.lst true ((rwE qp p.eats).wds.map D.str)=_;rw[jbg];rfl
   have M:jO (.lst true [.str qp]) (.lst false<|p.eats.map D.str)=↑(.str qp::p.eats.map D.str):=by
    show(bif lim (1+(p.eats.map D.str).length)&&(frzs [.str qp]&&frzs (p.eats.map D.str)) then _ else _)=_;rw[u,jb<|by rw[L0];lia];rfl
   have N:vg [.lst false<|p.eats.map D.str]=some (.int ((p.eats.map D.str).length:Nat)):=rfl;have f:¬ p.eats.map D.str=[]:=by simpa using a
   rw[N7,List.map_singleton,L];generalize(yV p).map (rD true)=AA at *;generalize vc false p=PP,p.eats.map D.str=EE at *;simp[e,N,K,M,J,jb,f]
 have T:=Qk p;have P:(yV p).length<=10:=by unfold yV;simp;lia
 obtain⟨Q,R,S⟩:=zS (a0:=some<|vc false p) (A:=yV p++VJ p) (o2:=none) (o3:=none) h.orders (by simp only[N6];lia);have b:(jX p).map (rD true)=(yV p++VJ p++p.orders.flatMap vf).map (rD true)++(p.looks.map rwL).map (rD true)++(p.guards.map rwG).map (rD true):=by
  unfold jX;simp only[N7]
 have g:(yV p).map (rD true)=[.lst true [.str yk,.str p.nm]]++(p.told.map rwC).map (rD true)++(p.marks.map rwM).map (rD true):=by unfold yV;rw[L4,N7];rfl
 rw[b];rw[g] at j;have U:((p.told.map rwC).map (rD true)).length<=6:=by simp;lia
 have V:((p.marks.map rwM).map (rD true)).length<=3:=by simp;lia
 have W:((p.looks.map rwL).map (rD true)).length<=4:=by simp;lia
 have X:((p.guards.map rwG).map (rD true)).length<=3:=by simp;lia
 have Y:((yV p++VJ p++p.orders.flatMap vf).map (rD true)).length<=200:=by simp only[L0,N6];lia
 generalize(yV p++VJ p++p.orders.flatMap vf).map (rD true)=Z1 at *;generalize(yV p++VJ p).map (rD true)=Z0 at *;generalize(p.told.map rwC).map (rD true)=T1 at *;generalize(p.marks.map rwM).map (rD true)=T2 at *;generalize(p.looks.map rwL).map (rD true)=T5 at *;generalize(p.guards.map rwG).map (rD true)=T6 at *;generalize p.told.map e3=U1,p.marks.map e2=U2,p.orders.map (yL false)=U4,p.looks.map eL=U5,p.guards.map eG=U6,vc false p=PP at *;show(vP [some PP,none,none,none]).bind Out.val=_;unfold vP;apply sqv (by simp[C,jb];rfl);apply sqv (by simp[E,s,l1,jp,m,jb (n:=1+T1.length) ∅];rfl);apply sqv (by simp[F,t,y,jp,o,jb (n:=(1+T1.length)+T2.length) ∅,jb (n:=T1.length+1+T2.length) ∅];rfl);apply sqv ⇑j;apply sqv (by simp[G,i,x];exact S);apply sqv (by simp[H,v,z,jp,q,jb (n:=Z1.length+T5.length) ∅];rfl);apply sqv (by simp[I,w,B,jp,r,jb (n:=Z1.length+T5.length+T6.length) ∅,jb (n:=Z1.length+(T5.length+T6.length)) ∅];rfl);simp
theorem Ks{a0:Option D}:∀{Q:List PoolS}{A:List Rw}{o2},(∀ p∈Q,∃ X,PoolOk X p/\PoolK p)->A.length+130*Q.length<=900->∃ o2',vH (jl [] 2) vY (Q.map<|vc false) [a0,↑(A.map<|rD true),o2]=some (.nx [a0,↑((A++Q.flatMap jX).map (rD true)),o2'])
 | [],A,o2,_,_=>⟨o2,by simp⟩
 | p::Q,A,o2,h,c=>by
  rw[M2] at c;obtain⟨X,a,b⟩:=h p (by simp);have k:=V3 a b;obtain⟨o2',e⟩:=Ks (a0:=a0) (Q:=Q) (A:=A++jX p) (o2:=some<|vc false p) (λq d=>h q<|by simp[d]) (by simp;lia);have f:=jb0 a b;have g:=a.fz false;have i:=a.frz;have l1:lim ((A.map<|rD true).length+((jX p).map (rD true)).length)=true:=jb (by simp;lia);have j:vY [a0,↑(A.map<|rD true),some<|vc false p]=some (.nx [a0,↑((A++jX p).map (rD true)),some<|vc false p]):=by
   rw[N7];generalize(jX p).map (rD true)=RR at *;generalize A.map (rD true)=AA,vc false p=PP at *;simp[vY,g,i,f,l1]
  exact⟨o2',by rw[L4,lpE rfl j,List.flatMap_cons,<- List.append_assoc];exact e⟩
theorem uQ:∀{Q:List PoolS},(∀ p∈Q,∃ X,PoolOk X p/\PoolK p)->(Q.flatMap jX).length<=130*Q.length
 | [],_=>by simp
 | p::Q,h=>by
  obtain⟨X,c,d⟩:=h p (by simp);have a:=V3 c d;have b:=uQ (Q:=Q) λq e=>h q (by simp[e]);rw[List.flatMap_cons,N6,M2];lia
def Yv{Ps}(h:DealOk Ps):frzs (Ps.map<|vc false)=true:=vO λd hd=>by
 obtain⟨x,a,rfl⟩:=M5.mp hd;obtain⟨X,b,_⟩:=h.ok x a;exact b.frz
def jeF{Ps:List PoolS}(h:DealOk Ps):qd [.lst false<|Ps.map<|vc false]=↑((Ps.flatMap jX).map (rD true)):=by
 obtain⟨c,e⟩:=Ks (a0:=‹Ps.map (vc false)›) (A:=[]) (o2:=none) (λp d=>by obtain⟨X,a,b,_⟩:=h.ok p d;exact⟨X,a,b⟩) (by have:=h.len2;simp;lia);rw[E4,List.map_nil] at e;have f:=Yv h;have z:=jg _ f;generalize Ps.map (vc false)=PP at *;generalize(Ps.flatMap jX).map (rD true)=RR at *;simp[qd,jk,VS,f,z,e,jb]
def jer{n:Int}(h1:1<=n)(h2:n<=9):Fit (.nu n) jkN:=.nu n _ 9 (by decide) rfl h1 h2 (by decide)
def jaE{n:Int}(h1:1<=n)(h2:n<=10):Fit (.nu n) jcZ:=.nu n _ 10 (by decide) rfl h1 h2 (by decide)
def VO{n:Int}(h1:1<=n)(h2:n<=1000000000000):Fit (.nu n) Vu:=.nu n _ 1000000000000 (by decide) rfl h1 h2 (by decide)
noncomputable abbrev L7:List (List Nat):=[[112,111,111,108],[111,114,100,101,114],[112,97,121],[114,101,112,97,121],[102,105,108,108],[98,97,99,107],[114,101,115,116]]
noncomputable abbrev L2':List (List Nat):=[[112,111,116],[108,101,110,100]]
def jmT:∀ w∈L7,w≠[]/\(∀ c∈w,97<=c/\c<=122)/\w.length<=13:=by decide
def jnZ:∀ w∈L2',w≠[]/\(∀ c∈w,97<=c/\c<=122)/\w.length<=13:=by decide
def jnv:∀ w∈L7,jW [.str w,.int 1]=some (.tup [.str vS]):=by
 intro w h;simp only[M4,List.not_mem_nil,or_false] at h;rcases h with rfl | rfl | rfl | rfl | rfl | rfl | rfl<;>rfl
def jn0:∀ w∈L2',jW [.str w,.int 2]=some (.tup [.str vS,.str Vu]):=by
 intro w h;simp only[M4,List.not_mem_nil,or_false] at h;rcases h with rfl | rfl<;>rfl
def jjR{n:Nat}(h1:1<=n)(h2:n<=6):jW [.str [101,97,116],.int (n:Int)]=some (.tup<|(List.replicate n vS).map D.str):=by
 obtain rfl | rfl | rfl | rfl | rfl | rfl:n=1\/n=2\/n=3\/n=4\/n=5\/n=6:=by omega
 all_goals rfl
def jdu{n:Nat}(h1:2<=n)(h2:n<=6):jW [.str [115,104,97,114,101],.int (n:Int)]=some (.tup<|(List.replicate n vS).map D.str):=by
 obtain rfl | rfl | rfl | rfl | rfl:n=2\/n=3\/n=4\/n=5\/n=6:=by omega
 all_goals rfl
theorem YD:∀{ws:J2},(∀ w∈ws,NmK w)->Fits (ws.map Item.nm) (ws.map λ_=>vS)
 | [],_=>.nil
 | w::ws,h=>.cons (.nm w<|h w<|by simp)<|YD λv a=>h v (by simp[a])
def jiz{k w:List Nat}(a:k∈L7)(b:Nm w):QX (rwN k w):=by
 obtain⟨c,d,e⟩:=jmT k a;exact⟨c,d,e,jnv k a,rfl,by show 1<=6;decide,Q4<|.cons (.nm w b) .nil⟩
def joB{k:List Nat}{ws:J2}(c:(k=qp/\1<=ws.length)\/(k=jm/\2<=ws.length))(a:ws.length<=6)(h:∀ w∈ws,Nm w):QX (rwE k ws):=by
 have e:(ws.map λ_=>vS).map D.str=(List.replicate ws.length vS).map D.str:=by rw[List.map_const']
 rcases c with⟨rfl,b⟩ | ⟨rfl,b⟩
 ·exact⟨by show qp≠[];decide,by show Lt qp;unfold Lt;decide,by show(qp).length<=13;decide,by show jW [.str qp,.int ((ws.map Item.nm).length:Int)]=some (.tup<|(ws.map λ_=>vS).map D.str);rw[e,L0];exact jjR b a,by show(ws.map Item.nm).length=(ws.map λ_=>vS).length;simp,by show(ws.map Item.nm).length<=6;simpa using a,Q4<|YD h⟩
 ·exact⟨by show jm≠[];decide,by show Lt jm;unfold Lt;decide,by show(jm).length<=13;decide,by show jW [.str jm,.int ((ws.map Item.nm).length:Int)]=some (.tup<|(ws.map λ_=>vS).map D.str);rw[e,L0];exact jdu b a,by show(ws.map Item.nm).length=(ws.map λ_=>vS).length;simp,by show(ws.map Item.nm).length<=6;simpa using a,Q4<|YD h⟩
def joe{k w:List Nat}{i:Int}(a:k∈L2')(b:Nm w)(h1:1<=i)(h2:i<=10 ^ 12):QX ⟨k,[.nm w,.nu i],[vS,Vu]⟩:=by
 obtain⟨c,d,e⟩:=jnZ k a;exact⟨c,d,e,jn0 k a,rfl,by show 2<=6;decide,Q4<|.cons (.nm w b)<|.cons (VO h1 h2) .nil⟩
def joG{C P O:J2}{t:Rl}(c:x5 C P O t \/ ∃ w,t=.two j0 w/\w∈C)(b:∀ w∈C,Nm w)(l:∀ w∈P,Nm w)(h:∀ w∈O,Nm w):QX (rwR t):=by
 cases t with
 | two k w=>
  rcases c with(⟨m,a⟩ | ⟨rfl,a⟩ | ⟨rfl,a⟩) | ⟨j,e,a⟩
  ·rcases m with rfl | rfl
   ·exact jiz (by decide)<|b w a
   ·exact jiz (by decide)<|b w a
  ·exact jiz (by decide)<|l w a
  ·exact jiz (by decide)<|h w a
  ·cases e;exact jiz (by decide)<|b _ a
 | share n=>
  rcases c with⟨d,f,_,g⟩ | ⟨j,e,_⟩
  ·exact joB (.inr ⟨rfl,d⟩) f λw a=>b w<|g w a
  ·cases e
 | lend w i=>
  rcases c with⟨d,f,g⟩ | ⟨j,e,_⟩
  ·exact joe (by decide) (h w d) f g
  ·cases e
def jeS{C P O:J2}{x:OrdS}(h:OrdOk C P O x)(d:∀ w∈C,Nm w)(e:∀ w∈P,Nm w)(f:∀ w∈O,Nm w):∀ r∈vf x,QX r:=λr a=>by
 obtain⟨R,w,i,j,k,l⟩:=h.rl;unfold vf at a;rw[QH i] at a;rcases M4.mp a with rfl | a
 ·exact jiz (by decide) h.nk
 rcases N4.mp a with a | a
 ·obtain⟨p,g,rfl⟩:=M5.mp a;have b:=h.parts p g;exact⟨by show y8≠[];decide,by show Lt y8;unfold Lt;decide,by show(y8).length<=13;decide,rfl,rfl,by show 2<=6;decide,Q4<|.cons (.nm _<|d _<|h.pm p g)<|.cons (jaE b.2.1 b.2.2) .nil⟩
 ·obtain⟨t,c,rfl⟩:=M5.mp a;rcases N4.mp c with c | c
  ·exact joG (.inl<|l t c) d e f
  ·exact joG (.inr ⟨w,M8.mp c,k⟩) d e f
def jc9{O:J2}{p:PoolS}(h:PoolOk O p)(k:PoolK p)(j:∀ w∈O,Nm w):∀ r∈jX p,QX r:=λr a=>by
 have f:∀ w∈p.told.map (·.1),Nm w:=λw g=>k.nms w (by unfold nlP;simp only[M4,N4];exact .inr<|.inl g);have i:∀ w∈p.marks.map (·.1),Nm w:=λw g=>k.nms w (by unfold nlP;simp only[M4,N4];exact .inr<|.inr g);unfold jX yV at a;simp only[N4,M4] at a;rcases a with((((rfl | a | a) | a) | a) | a) | a
 ·exact jiz (by decide)<|k.nms _ (by unfold nlP;simp)
 ·obtain⟨c,e,rfl⟩:=M5.mp a;have b:=h.told c e;exact⟨by show yK≠[];decide,by show Lt yK;unfold Lt;decide,by show(yK).length<=13;decide,rfl,rfl,by show 3<=6;decide,Q4<|.cons (.nm _<|f _<|List.mem_map_of_mem e)<|.cons (VO b.2.1 b.2.2.1)<|.cons (VO b.2.2.2.1 b.2.2.2.2) .nil⟩
 ·obtain⟨c,e,rfl⟩:=M5.mp a;have b:=h.marks c e;exact joe (by decide) (i _<|List.mem_map_of_mem e) b.2.1 b.2.2
 ·unfold VJ at a;split at a
  ·cases a
  ·rename_i l;rw[M8.mp a];exact joB (.inl ⟨rfl,List.length_pos_iff.mpr l⟩) k.e6 λw g=>f w<|h.eatsm w g
 ·obtain⟨x,m,a⟩:=List.mem_flatMap.mp a;exact jeS (h.orders x m) f i j r a
 ·obtain⟨c,e,rfl⟩:=M5.mp a;have b:=h.looks c e;have d:=k.ld c e;obtain⟨y,n,o⟩:=M5.mp<|h.looksm c e;exact⟨by show vh≠[];decide,by show Lt vh;unfold Lt;decide,by show(vh).length<=13;decide,rfl,rfl,by show 3<=6;decide,Q4<|.cons (.nm _<|f _ b.1)<|.cons (jer d.1 d.2)<|.cons (.nm _<|o▸(h.orders y n).nk) .nil⟩
 ·obtain⟨c,e,rfl⟩:=M5.mp a;have b:=h.guards c e;exact⟨by show jU≠[];decide,by show Lt jU;unfold Lt;decide,by show(jU).length<=13;decide,rfl,rfl,by show 2<=6;decide,Q4<|.cons (.nm _<|i _ b.2.2.1)<|.cons (.nm _<|f _ b.2.2.2) .nil⟩
def jc7{Ps:List PoolS}(h:DealOk Ps):∀ r∈Ps.flatMap jX,QX r:=λr a=>by
 obtain⟨p,c,a⟩:=List.mem_flatMap.mp a;obtain⟨X,d,b,e⟩:=h.ok p c;refine jc9 d b (λw f=>?_) r a;obtain⟨q,g,rfl⟩:=M5.mp (e w f).1;obtain⟨_,_,i,_⟩:=h.ok q g;exact i.nms _ (by unfold nlP;simp)
noncomputable abbrev ONs:List Str:=["name","parts","rules"]
noncomputable abbrev PNs:List Str:=["name","claims","pots","eat","orders","looks","guards"]
noncomputable abbrev DNs:List Str:=["pools","names","loan_rows"]
def oF(o:Bool)(x:OrdS):List D:=[.str x.nm,.lst o<|x.parts.map e2,.lst o x.rules]
def oD(o:Bool)(x:OrdS):D:=.ins o 0 ONs<|oF o x
def pFl(o:Bool)(p:PoolS):List D:=[.str p.nm,.lst o<|p.told.map e3,.lst o<|p.marks.map e2,.lst o<|p.eats.map D.str,.lst o<|p.orders.map<|oD o,.lst o<|p.looks.map eL,.lst o<|p.guards.map eG]
def pD(o:Bool)(p:PoolS):D:=.ins o 1 PNs<|pFl o p
noncomputable abbrev WW:=Int×List Nat×List Nat
noncomputable def eW(l:WW):D:=.tup [.int l.1,.str l.2.1,.str l.2.2]
def nKs(A:List PoolS):List KA:=(A.flatMap nlP).map KA.str
def nVs(A:List PoolS):List D:=(A.flatMap nlP).map λ_=>.bl true
def dF(o:Bool)(A:List PoolS)(Ls:List WW):List D:=[.lst o<|A.map<|pD o,.dK o (nKs A)<|nVs A,.lst o<|Ls.map eW]
def dD(o:Bool)(A:List PoolS)(Ls:List WW):D:=.ins o 2 DNs<|dF o A Ls
structure Oz(x:OrdS):Prop where
 r:frzs x.rules=true
 p:x.parts.length<=10
 l:x.rules.length<=10
structure Pz(p:PoolS):Prop where
 o:∀ x∈p.orders,Oz x
 t:p.told.length<=10
 m:p.marks.length<=10
 e:p.eats.length<=10
 ol:p.orders.length<=10
 l:p.looks.length<=10
 g:p.guards.length<=10
def fzi(o:Bool)(c:Nat)(ns:List Str)(l:List D):fz (.ins o c ns l)=.ins false c ns (fzs l):=by rw[fz]
def jnk(o:Bool)(c:Nat)(ns:List Str)(l:List D):frz (.ins o c ns l)=(!o&&frzs l):=by rw[frz]
theorem Ku{α:Type}{f g:α->D}:∀{l:List α},(∀ x∈l,fz (f x)=g x)->fzs (l.map f)=l.map g
 | [],_=>rfl
 | x::l,h=>by rw[L4,L4,jad,h x<|by simp,Ku λy a=>h y<|by simp[a]]
def jmy{x}(h:Oz x)(o):fz (oD o x)=oD false x:=by
 show fz (.ins o 0 ONs [.str x.nm,.lst o<|x.parts.map e2,.lst o x.rules])=_;rw[fzi];simp[KN,jg _ h.r];rfl
def zV{x}(h:Oz x):frz (oD false x)=true:=by
 show frz (.ins false 0 ONs [.str x.nm,.lst false<|x.parts.map e2,.lst false x.rules])=_;rw[jnk];simp[yA,h.r]
def jlf{X:List OrdS}(h:∀ x∈X,Oz x)(o):fzs (X.map<|oD o)=X.map (oD false):=Ku λx a=>jmy (h x a) o
def V4{X:List OrdS}(h:∀ x∈X,Oz x):frzs (X.map<|oD false)=true:=vO λd hd=>by obtain⟨x,a,rfl⟩:=M5.mp hd;exact zV<|h x a
def jmI{p}(h:Pz p)(o):fz (pD o p)=pD false p:=by
 unfold pD;rw[fzi];simp[pFl,KN,zy,jb8,jbt,jlf h.o]
def yd{p}(h:Pz p):frz (pD false p)=true:=by
 unfold pD;rw[jnk];simp[pFl,yA,vQ,JK,qC,V4 h.o]
def jlL{X:List PoolS}(h:∀ x∈X,Pz x)(o):fzs (X.map<|pD o)=X.map (pD false):=Ku λx a=>jmI (h x a) o
def wl{X:List PoolS}(h:∀ x∈X,Pz x):frzs (X.map<|pD false)=true:=vO λd hd=>by obtain⟨x,a,rfl⟩:=M5.mp hd;exact yd<|h x a
def jmu(o ks l):fz (.dK o ks l)=.dK false ks (fzs l):=by rw[fz]
def jlI(o ks l):frz (.dK o ks l)=(!o&&frzs l):=by rw[frz]
def ji3(A:List PoolS):fzs (nVs A)=nVs A:=Vp (λ_=>rfl) _
def jiq(A:List PoolS):frzs (nVs A)=true:=kI (λ_=>rfl) _
def jki(l:List WW):fzs (l.map eW)=l.map eW:=Vp (λ_=>rfl) _
def jcc(l:List WW):frzs (l.map eW)=true:=kI (λ_=>rfl) _
def jjj{A Ls}(h:∀ p∈A,Pz p)(o):fz (dD o A Ls)=dD false A Ls:=by
 unfold dD;rw[fzi];simp[dF,jmu,ji3,jki,jlL h]
def jfB{A Ls}(h:∀ p∈A,Pz p):frz (dD false A Ls)=true:=by
 unfold dD;rw[jnk];simp[dF,jlI,jiq,jcc,wl h]
section
variable (o:Bool)(x:OrdS)(p:PoolS)(A:List PoolS)(Ls:List WW)
def jlW:jf5 (oD o x)=some (0,ONs,oF o x):=rfl
def jev:jf5 (pD o p)=some (1,PNs,pFl o p):=rfl
def joc:jf5 (dD o A Ls)=some (2,DNs,dF o A Ls):=rfl
def joA:qj 0 "name" (oD o x)=some (.str x.nm):=rfl
def jmj:qj 0 "parts" (oD o x)=some (.lst o<|x.parts.map e2):=rfl
def jiF:qj 0 "rules" (oD o x)=some (.lst o x.rules):=rfl
def jos:qj 1 "name" (pD o p)=some (.str p.nm):=rfl
def jlo:qj 1 "claims" (pD o p)=some (.lst o<|p.told.map e3):=rfl
def jl1:qj 1 "pots" (pD o p)=some (.lst o<|p.marks.map e2):=rfl
def jny:qj 1 "eat" (pD o p)=some (.lst o<|p.eats.map D.str):=rfl
def jb4:qj 1 "orders" (pD o p)=some (.lst o<|p.orders.map<|oD o):=rfl
def jnE:qj 1 "looks" (pD o p)=some (.lst o<|p.looks.map eL):=rfl
def jlU:qj 1 "guards" (pD o p)=some (.lst o<|p.guards.map eG):=rfl
def jlq:qj 2 "pools" (dD o A Ls)=some (.lst o<|A.map<|pD o):=rfl
def jlT:qj 2 "names" (dD o A Ls)=some (.dK o (nKs A)<|nVs A):=rfl
def jpa:qj 2 "loan_rows" (dD o A Ls)=some (.lst o<|Ls.map eW):=rfl
def joF:YJ ONs (oF o x) "has_rest" = none:=rfl
def jpi:YJ ONs (oF o x) "shares_or_repays" = none:=rfl
def jpg:YJ ONs (oF o x) "order_told" = none:=rfl
def jl4:YJ PNs (pFl o p) "has_claim" = none:=rfl
def jop:YJ PNs (pFl o p) "has_pot" = none:=rfl
def joz:YJ PNs (pFl o p) "has_order" = none:=rfl
def jo3:YJ PNs (pFl o p) "has_guard" = none:=rfl
def joX:YJ PNs (pFl o p) "shares_or_repays" = none:=rfl
def joI:YJ PNs (pFl o p) "pool_told" = none:=rfl
def jor:YJ DNs (dF o A Ls) "last_pool" = none:=rfl
def joQ:YJ DNs (dF o A Ls) "take_row" = none:=rfl
end
def uk(n:Nat):ixN (n+1) (-1)=some n:=by simp[ixN];omega
def qw{l:List D}{x:D}(o:Bool):jf (.lst o<|l++[x]) (.int<|-1)=some x:=by
 show(ixN (l++[x]).length (-1)).bind (λn=>(l++[x])[n]?)=some x;rw[N6,List.length_singleton,uk];simp
def jdF:VF (.int 1)=some (.int<|-1):=rfl
def Qt{α:Type}{en:α->D}{f:α->List Nat}{k:Int}(h:∀ a,jf (en a) (.int k)=some (.str<|f a))(l:List α):yP (jl [] 0) qT (pF<|p2 jf (pV 0)<|pI k) (l.map en) [none]=some ((l.map f).map D.str):=by
 rw[U8];refine jL (en:=en) rfl (λρ=>∃ o,ρ=[o]) ?_ ⟨none,rfl⟩;rintro p c ρ ⟨o,rfl⟩;refine⟨[some<|en p],rfl,?_,_,rfl⟩;have b:=h p;show _=some (D.str<|f p);generalize en p=E at *;simp[b]
section
variable {p:PoolS}(h:Pz p)(w:List Nat)
include h
theorem jeM:jt [pD false p,.str w]=some (.bl (decide (w∈p.told.map (·.1)))):=by
 have a:=jlo false p;have c:=Qt (en:=e3) (f:=(·.1)) (k:=0) (λ_=>rfl) p.told;have f:=vQ p.told;have i:=YZ w true (p.told.map (·.1));have l:lim (p.told.map e3).length=true:=jN (by have:=h.t;lia);generalize decide (w∈p.told.map (·.1))=b at *;generalize(p.told.map (·.1)).map D.str=SS at *;generalize p.told.map e3=TT,pD false p=PP at *;simp[jt,jk,vL,a,f,l,c,i,jp]
theorem jjI:j8 [pD false p,.str w]=some (.bl (decide (w∈p.marks.map (·.1)))):=by
 have a:=jl1 false p;have c:=Qt (en:=e2) (f:=(·.1)) (k:=0) (λ_=>rfl) p.marks;have f:=yA p.marks;have i:=YZ w true (p.marks.map (·.1));have l:lim (p.marks.map e2).length=true:=jN (by have:=h.m;lia);generalize decide (w∈p.marks.map (·.1))=b at *;generalize(p.marks.map (·.1)).map D.str=SS at *;generalize p.marks.map e2=TT,pD false p=PP at *;simp[j8,jk,kg,a,f,l,c,i,jp]
theorem jmf:yg [pD false p,.str w]=some (.bl (decide (w∈p.guards.map (·.2)))):=by
 have a:=jlU false p;have c:=Qt (en:=eG) (f:=(·.2)) (k:=1) (λ_=>rfl) p.guards;have f:=qC p.guards;have i:=YZ w true (p.guards.map (·.2));have l:lim (p.guards.map eG).length=true:=jN (by have:=h.g;lia);generalize decide (w∈p.guards.map (·.2))=b at *;generalize(p.guards.map (·.2)).map D.str=SS at *;generalize p.guards.map eG=TT,pD false p=PP at *;simp[yg,jk,vF,a,f,l,c,i,jp]
theorem jkI:jZ [pD false p,.str w]=some (.bl (decide (w∈p.orders.map (·.nm)))):=by
 have a:=jb4 false p;have c:yP (jl [] 0) qT (pF<|vp 0 "name"<|pV 0) (p.orders.map<|oD false) [none]=some ((p.orders.map (·.nm)).map D.str):=by
  rw[U8];refine jL (en:=oD false) rfl (λρ=>∃ o,ρ=[o]) ?_ ⟨none,rfl⟩;rintro x e ρ ⟨o,rfl⟩;refine⟨[some<|oD false x],rfl,?_,_,rfl⟩;have d:=joA false x;show _=some (D.str x.nm);generalize oD false x=E at *;simp[d]
 have f:=V4 h.o;have i:=YZ w true (p.orders.map (·.nm));have l:lim (p.orders.map<|oD false).length=true:=jN (by have:=h.ol;lia);generalize decide (w∈p.orders.map (·.nm))=b at *;generalize(p.orders.map (·.nm)).map D.str=SS at *;generalize p.orders.map (oD false)=TT,pD false p=PP at *;simp[jZ,jk,vI,a,f,l,c,i,jp]
end
def Rl.kw:Rl->List Nat
 | .two k _=>k
 | .share _=>jm
 | .lend _ _=>yC
def Rl.ix0(t:Rl):jf t.enc (.int 0)=some (.str t.kw):=by cases t<;>rfl
def Rl.frz(t:Rl):QD.frz t.enc=true:=by cases t<;>simp[Rl.enc]
def wD(R:List Rl):frzs (R.map Rl.enc)=true:=kI Rl.frz _
def jeH{x:OrdS}{R:List Rl}{w:List Nat}(e:x.rules=(R++[Rl.two j0 w]).map Rl.enc):jv [oD false x]=some (.bl true):=by
 have a:=jiF false x;rw[e,N7,List.map_singleton] at a;have h:=qw (l:=R.map Rl.enc) (x:=(Rl.two j0 w).enc) false;have b:=Rl.ix0<|.two j0 w;have g:(0:Int)<((R.map Rl.enc++[(Rl.two j0 w).enc]).length:Nat):=by simp
 have c:R.map Rl.enc++[(Rl.two j0 w).enc]≠[]:=by simp
 generalize(Rl.two j0 w).enc=TT at *;generalize R.map Rl.enc++[TT]=RR,oD false x=XX at *;simp[jv,jk,ye,a,jdF,h,b,Rl.kw,g,c]
def Jo{α:Type}(l:List α):l=[] \/ ∃ a b,l=a++[b]:=by
 cases h:l.reverse with
 | nil=>exact .inl<|List.reverse_eq_nil_iff.mp h
 | cons b a=>exact .inr ⟨a.reverse,b,by rw[<- List.reverse_reverse l,h,List.reverse_cons]⟩
def jfY{x:OrdS}{R:List Rl}(e:x.rules=R.map Rl.enc)(b:∀ t∈R,t.kw≠j0):jv [oD false x]=some (.bl false):=by
 have a:=jiF false x;rw[e] at a;rcases Jo R with rfl | ⟨R,t,rfl⟩
 ·generalize oD false x=XX at *;simp[jv,jk,ye,a]
 ·rw[N7,List.map_singleton] at a;have h:=qw (l:=R.map Rl.enc) (x:=t.enc) false;have c:=Rl.ix0 t;have g:(0:Int)<((R.map Rl.enc++[t.enc]).length:Nat):=by simp
  have d:R.map Rl.enc++[t.enc]≠[]:=by simp
  have k:=U9.mpr<|b t (by simp);generalize t.kw=kk,t.enc=TT at *;generalize R.map Rl.enc++[TT]=RR,oD false x=XX at *;simp[jv,jk,ye,a,jdF,h,c,g,d,k]
def jdS(Ls):ju [dD false [] Ls]=some .non:=by
 have a:=jlq false [] Ls;generalize dD false [] Ls=DD at *;simp[ju,jk,yM,a]
def kJ{A p}(Ls)(h:∀ q∈A++[p],Pz q):ju [dD false (A++[p]) Ls]=some (pD false p):=by
 have a:=jlq false (A++[p]) Ls;rw[N7,List.map_singleton] at a;have b:=qw (l:=A.map<|pD false) (x:=pD false p) false;have f:=yd<|h p (by simp);have z:=yh _ f;have g:(0:Int)<((A.map (pD false)++[pD false p]).length:Nat):=by simp
 have c:A.map (pD false)++[pD false p]≠[]:=by simp
 generalize dD false (A++[p]) Ls=DD,pD false p=PP at *;generalize A.map (pD false)++[PP]=AA at *;simp[ju,jk,yM,a,jdF,b,f,z,g,c]
noncomputable def stg(p:PoolS):Int:=if p.guards≠[] then 6 else if p.looks≠[] then 5 else if p.orders≠[] then 4 else if p.eats≠[] then 3 else if p.marks≠[] then 2 else 1
def sv(k:List Nat)(n:Int)(h:JZ ks_STAGES yW (.str k)=some (.int n):=by rfl):JZ ks_STAGES yW (.str k)=some (.int n):=h
def QN(p:PoolS):yX [pD false p]=some (.int<|stg p):=by
 have a:=jl1 false p;have e2:=jny false p;have e3:=jb4 false p;have b:=jnE false p;have c:=jlU false p;have i:=sv yK 1;have j:=sv KP 2;have l:=sv qp 3;have m:=sv jI 4;have n:=sv vh 5;have o:=sv jU 6;have k:∀ w,kS (.str w)=some (.str w):=λ_=>rfl;unfold stg;generalize pD false p=PP at *;by_cases d:p.guards=[]
 ·by_cases e:p.looks=[]
  ·by_cases f:p.orders=[]
   ·by_cases g:p.eats=[]
    ·by_cases h:p.marks=[]
     ·simp[yX,jk,vv,a,e2,e3,b,c,d,e,f,g,h,i,k]
     ·simp[yX,jk,vv,a,e2,e3,b,c,d,e,f,g,h,j,k,List.length_pos_iff]
    ·simp[yX,jk,vv,a,e2,e3,b,c,d,e,f,g,l,k,List.length_pos_iff]
   ·simp[yX,jk,vv,a,e2,e3,b,c,d,e,f,m,k,List.length_pos_iff]
  ·simp[yX,jk,vv,a,e2,e3,b,c,d,e,n,k,List.length_pos_iff]
 ·simp[yX,jk,vv,a,e2,e3,b,c,d,o,k,List.length_pos_iff]
def jhW(o p):Kp (pD o p) .non=some (.bl false):=rfl
def joC:Kp .non .non=some (.bl true):=rfl
def zj(w):kS (.str w)=some (.str w):=rfl
abbrev K4:List (List Nat):=[jI,vh,jU,yk]
def xN(w:List Nat)(l:J2)(b:Bool):yZ b (.str w) (.tup<|l.map D.str)=some (.bl<|b != decide (w∈l)):=by
 have:=YZ w false l;cases b
 ·have e:yZ false (.str w) (.tup<|l.map D.str)=yZ false (.str w) (.lst false<|l.map D.str):=rfl;rw[e,this];simp
 ·have e:yZ true (.str w) (.tup<|l.map D.str)=yZ true (.str w) (.lst false<|l.map D.str):=rfl;rw[e,ub];simp
def ja6(k):yc [.non,.str k]=some (.bl false):=by simp[yc,jk,kR,jb,joC]
def Yk{k:List Nat}(a:k∉K4)(p:PoolS):yc [pD false p,.str k]=some (.bl false):=by
 have i:=xN k K4 true;rw[E1 a] at i;have i:yZ true (.str k) (.tup [.str jI,.str vh,.str jU,.str yk])=some (.bl true):=i;have s:=jhW false p;generalize pD false p=PP at *;simp[yc,jk,kR,jb,s,i]
def ud{p:PoolS}(h1:p.orders=[])(h2:p.told≠[]):yc [pD false p,.str jI]=some (.bl false):=by
 have s:=jhW false p;have a:=jlo false p;have e3:=jb4 false p;rw[h1] at e3;have i:=xN jI K4 true;have j:=xN jI [jI,yk] false;have i:yZ true (.str jI) (.tup [.str jI,.str vh,.str jU,.str yk])=some (.bl false):=i;have j:yZ false (.str jI) (.tup [.str jI,.str yk])=some (.bl true):=j;generalize pD false p=PP at *;simp[yc,jk,kR,jb,s,i,j,a,e3,h2]
def Clo(p:PoolS):Prop:=∃ X x,p.orders=X++[x]/\∃(R:List Rl) (w:List Nat),x.rules=(R++[Rl.two j0 w]).map Rl.enc
def qU{p:PoolS}(hz:Pz p)(h1:Clo p)(h2:p.told≠[]){k:List Nat}(e:k∈K4):yc [pD false p,.str k]=some (.bl false):=by
 obtain⟨X,x,a,R,w,f⟩:=h1;have g:=jeH f;have d:=zV<|hz.o x (by simp[a]);have h:=yh _ d;have s:=jhW false p;have m:=jlo false p;have e3:=jb4 false p;rw[a,N7,List.map_singleton] at e3;have n:=qw (l:=X.map<|oD false) (x:=oD false x) false;have q:=jlW false x;have r:=joF false x;have i:=xN k K4 true;rw[X9 e] at i;have i:yZ true (.str k) (.tup [.str jI,.str vh,.str jU,.str yk])=some (.bl false):=i;have j:yZ false (.str k) (.tup [.str jI,.str yk])=some (.bl<|false != decide (k∈[jI,yk])):=xN k [jI,yk] false;have t:X.map (oD false)++[oD false x]≠[]:=by simp
 generalize(false != decide (k∈[jI,yk]))=b at *;generalize pD false p=PP,oF false x=FF,oD false x=XX at *;generalize X.map (oD false)++[XX]=OO at *;generalize u:(k==jI)=c at *;cases b<;>cases c<;>simp[yc,u,jk,kR,jb,s,i,j,m,e3,h2,jdF,n,q,r,g,d,h,t]
def Opn(p:PoolS)(X:List OrdS)(x:OrdS)(R:List Rl):Prop:=p.orders=X++[x]/\x.rules=R.map Rl.enc/\∀ t∈R,t.kw≠j0
def jkG{p:PoolS}(hz:Pz p){X x R}(h1:Opn p X x R){k:List Nat}(n:k=y8->R=[]):yr [pD false p,.str k]=some (.bl false):=by
 obtain⟨d,e,q⟩:=h1;have f:=jfY e q;have b:=zV<|hz.o x (by simp[d]);have g:=yh _ b;have e3:=jb4 false p;rw[d,N7,List.map_singleton] at e3;have h:=qw (l:=X.map<|oD false) (x:=oD false x) false;have i:=jlW false x;have j:=joF false x;have c:=jiF false x;rw[e] at c;have m:X.map (oD false)++[oD false x]≠[]:=by simp
 by_cases a:k=y8
 ·subst a;rw[n rfl] at c;generalize pD false p=PP,oF false x=FF,oD false x=XX at *;generalize X.map (oD false)++[XX]=OO at *;simp[yr,jk,vz,e3,jdF,h,i,j,c,f,b,g,m]
 ·have r:=U9.mpr a;generalize pD false p=PP,oF false x=FF,oD false x=XX at *;generalize X.map (oD false)++[XX]=OO at *;simp[yr,jk,vz,e3,jdF,h,i,j,f,b,g,m,r]
abbrev RUL:List (List Nat):=[jaY,jm,kh,JL,yC,Yq,j0]
def uF(k:List Nat):yZ false (.str k) VZ=some (.bl<|decide<|k∈RUL):=by
 have:=xN k RUL false;rw[show(false != decide (k∈RUL))=decide (k∈RUL) from Bool.false_bne _] at this;exact this
def u2(d):jE [d,.str yk]=some (.bl false):=by simp[jE,jk,yF]
def jcd{p:PoolS}(hz:Pz p){k:List Nat}{n:Int}(b:k∈[yK,KP,jI,vh,jU])(d:JZ ks_STAGES yW (.str k)=some (.int n))(f:stg p<=n):jE [pD false p,.str k]=some (.bl false):=by
 have s:=jhW false p;have e:=QN p;have c:=yd hz;have g:=yh _ c;have r:=uF k;have q:(k==yk)=false/\(k==qp)=false/\(k==y8)=false/\decide (k∈RUL)=false:=by
  simp only[M4,List.not_mem_nil,or_false] at b;rcases b with rfl | rfl | rfl | rfl | rfl<;>decide
 obtain⟨h,i,j,l⟩:=q;rw[l] at r;have a:¬ n<stg p:=by lia
 generalize stg p=S,pD false p=PP at *;simp[jE,jk,yF,s,h,i,j,r,zj,d,e,c,g,a,f]
def jnY{p:PoolS}(hz:Pz p)(c:stg p<=3)(d:p.eats=[]):jE [pD false p,.str qp]=some (.bl false):=by
 have s:=jhW false p;have e:=QN p;have b:=yd hz;have f:=yh _ b;have g:=sv qp 3;have e2:=jny false p;rw[d] at e2;have a:¬ 3<stg p:=by lia
 generalize stg p=S,pD false p=PP at *;simp[jE,jk,yF,s,zj,g,e,e2,b,f,a,c]
def jkF{p:PoolS}(hz:Pz p){X x R}(h1:Opn p X x R){k:List Nat}(c:k∈y8::RUL)(hp:k=y8->R=[])(d:stg p<=4):jE [pD false p,.str k]=some (.bl false):=by
 have s:=jhW false p;have e:=QN p;have b:=yd hz;have f:=yh _ b;have o:=jkG hz h1 hp;have r:=uF k;have q:(k==yk)=false/\(k==qp)=false/\((k==y8)=true\/decide (k∈RUL)=true)/\JZ ks_STAGES yW (.str k)=some (.int 4):=by
  simp only[M4,List.not_mem_nil,or_false] at c;rcases c with rfl | rfl | rfl | rfl | rfl | rfl | rfl | rfl<;>exact⟨rfl,rfl,by decide,rfl⟩
 obtain⟨g,h,l,i⟩:=q;have a:¬ 4<stg p:=by lia
 generalize j:(k==y8)=b1,stg p=S,pD false p=PP at *;cases b1 with
 | true=>simp[jE,jk,yF,s,g,h,j,zj,i,e,b,f,a,d,o]
 | false=>
  rw[l.resolve_left<|by decide] at r;simp[jE,jk,yF,s,g,h,j,r,zj,i,e,b,f,a,d,o]
def jiJ(w:List Nat)(l:J2):yZ false (.str w) (.tup<|l.map D.str)=some (.bl<|decide<|w∈l):=by rw[xN,Bool.false_bne]
abbrev T3:List (List Nat):=[yk,yK,KP]
abbrev T2:List (List Nat):=[qp,jm]
abbrev T4:List (List Nat):=[y8,jaY,kh,j0]
abbrev TE:List (List Nat):=[qp,j0]
def jfx(k:List Nat):yZ false (.str k) (.tup [.str yk,.str yK,.str KP])=some (.bl<|decide<|k∈T3):=jiJ k T3
def jdq(k:List Nat):yZ false (.str k) (.tup [.str qp,.str jm])=some (.bl<|decide<|k∈T2):=jiJ k T2
def jlP(k:List Nat):yZ false (.str k) (.tup [.str y8,.str jaY,.str kh,.str j0])=some (.bl<|decide<|k∈T4):=jiJ k T4
def jns(k:List Nat):yZ false (.str k) (.tup [.str qp,.str j0])=some (.bl<|decide<|k∈TE):=jiJ k TE
theorem jba(w:List Nat):∀ N:List (List Nat),(JZ (N.map KA.str) (N.map λ_=>D.bl true)<|.str w).isSome=decide (w∈N)
 | []=>rfl
 | n::N=>by
  have:=jba w N;rw[L4,L4,JZ];by_cases h:w=n
  ·subst h;simp
  ·rw[if_neg<|λe=>h (by cases e;rfl),this];simp[h]
def tw_n{a Q:D}{ks l}{W:List D}{k w:List Nat}(x0:jf (.lst false W) (.int 0)=some (.str k))(b:jf (.lst false W) (.int 1)=some (.str w))(hd:qj 2 "names" a=some (.dK false ks l))(c:k∈T3)(d:(JZ ks l<|.str w).isSome=false):jR [a,Q,.lst false W]=some (.bl false):=by
 have i:=jfx k;rw[X9 c] at i;simp[jR,jk,vw,x0,b,i,hd,zj,d,jb]
def tw_f{b Q:D}{W:List D}{k:List Nat}(x0:jf (.lst false W) (.int 0)=some (.str k))(a:k∈[jaY,kh,JL,yC,Yq,j0,vh]):jR [b,Q,.lst false W]=some (.bl false):=by
 have i:=jfx k;have j:=jdq k;have q:decide (k∈T3)=false/\decide (k∈T2)=false/\(k==jI)=false/\(k==y8)=false/\(k==jU)=false:=by
  simp only[M4,List.not_mem_nil,or_false] at a;rcases a with rfl | rfl | rfl | rfl | rfl | rfl | rfl<;>decide
 obtain⟨c,d,e,f,g⟩:=q;rw[c] at i;rw[d] at j;simp[jR,jk,vw,x0,i,j,e,f,g,jb]
theorem jdl:∀(ks acc:J2),(acc++ks).Nodup->Yy acc ks=acc++ks
 | [],acc,_=>by simp[Yy]
 | k::ks,acc,h=>by
  have a:k∉acc:=λz=>(X8.mp h).2.2 k z k (by simp) rfl;rw[Yy,if_neg a,jdl ks (acc++[k]) ⇑h];simp
def jdk{k:List Nat}{T:List D}(h:frzs T=true):jiL (some 1) none (.lst false<|.str k::T)=↑T:=by
 rw[jog<|by rw[qB,h];rfl,YM _<|by decide];rfl
def w0{k:List Nat}{T:List D}:jf (.lst false<|.str k::T) (.int 0)=some (.str k):=by rw[xG (by decide)<|by simp];rfl
def tw_e{b Q:D}{k:List Nat}{ws:J2}(a:k∈T2)(hn:ws.Nodup)(hl:ws.length<=6):jR [b,Q,.lst false<|.str k::ws.map D.str]=some (.bl false):=by
 have i:=jfx k;have j:=jdq k;rw[X9 a] at j;have q:decide (k∈T3)=false/\(k==jI)=false:=by
  simp only[M4,List.not_mem_nil,or_false] at a;rcases a with rfl | rfl<;>decide
 rw[q.1] at i;have s:=jdk (k:=k)<|jM ws;have c:=w0 (k:=k) (T:=ws.map D.str);have d:QM (.lst true<|ws.map D.str)=some (.int (ws.length:Nat)):=by
  rw[jby,kQ,L3,X9 ∅,jdl ws [] ⇑hn];rfl
 have e:vg [.lst false<|.str k::ws.map D.str]=some (.int<|(ws.length:Int)+1):=by rw[jd1,M2,L0];rfl
 have f:=q.2;generalize ws.map D.str=WS at *;generalize D.lst false (.str k::WS)=LL at *;have g:¬ (ws.length:Int)<(ws.length:Int)+1-1:=by lia
 simp[jR,jk,vw,c,i,j,f,s,d,e,g,jb]
def tw_o{a:D}{p:PoolS}(hz:Pz p){w:List Nat}(h:w∉p.orders.map (·.nm)):jR [a,pD false p,.lst false [.str jI,.str w]]=some (.bl false):=by
 have o:=jkI hz w;rw[E1 h] at o;have i:=jfx jI;have i:yZ false (.str jI) (.tup [.str yk,.str yK,.str KP])=some (.bl false):=i;have b:=jev false p;have c:=joz false p;have f:=yd hz;have z:=yh _ f;generalize pFl false p=FF,pD false p=PP at *;simp[jR,jk,vw,i,xG,b,c,f,z,o,jb]
def tw_g{a:D}{p:PoolS}(hz:Pz p){v w:List Nat}(h:w∉p.guards.map (·.2)):jR [a,pD false p,.lst false [.str jU,.str v,.str w]]=some (.bl false):=by
 have o:=jmf hz w;rw[E1 h] at o;have i:yZ false (.str jU) (.tup [.str yk,.str yK,.str KP])=some (.bl false):=jfx jU;have j:yZ false (.str jU) (.tup [.str qp,.str jm])=some (.bl false):=jdq jU;have b:=jev false p;have c:=jo3 false p;have f:=yd hz;have z:=yh _ f;generalize pFl false p=FF,pD false p=PP at *;simp[jR,jk,vw,i,j,xG,b,c,f,z,o,jb]
def tw_p{d:D}{p:PoolS}(hz:Pz p){X x R}(h1:Opn p X x R){w:List Nat}{n:Int}(h:w∉x.parts.map (·.1)):jR [d,pD false p,.lst false [.str y8,.str w,.int n]]=some (.bl false):=by
 obtain⟨a,_,_⟩:=h1;have i:yZ false (.str y8) (.tup [.str yk,.str yK,.str KP])=some (.bl false):=jfx y8;have j:yZ false (.str y8) (.tup [.str qp,.str jm])=some (.bl false):=jdq y8;have e3:=jb4 false p;rw[a,N7,List.map_singleton] at e3;have e:=qw (l:=X.map<|oD false) (x:=oD false x) false;have g:=jmj false x;have c:=Qt (en:=e2) (f:=(·.1)) (k:=0) (λ_=>rfl) x.parts;have f:=yA x.parts;have b:=YZ w true (x.parts.map (·.1));rw[E1 h] at b;have l:lim (x.parts.map e2).length=true:=jN (by have:=(hz.o x<|by simp[a]).p;lia);generalize(x.parts.map (·.1)).map D.str=SS at *;generalize x.parts.map e2=TT,pD false p=PP,oD false x=XX at *;generalize X.map (oD false)++[XX]=OO at *;simp[jR,jk,vw,i,j,xG,e3,e,g,c,f,l,b,jdF,jp,jb]
theorem Qu{α:Type}(b:α->Bool):∀ l:List α,Jz (l.map λa=>D.bl<|b a)=some (l.map b)
 | []=>rfl
 | a::l=>by rw[L4,L4,Jz,Qu b l];rfl
def jhK{Q:D}{W:List D}{k:List Nat}(x0:jf (.lst false W) (.int 0)=some (.str k))(a:k∈[yk,yK,KP,jI,yC,Yq]):jh [Q,.lst false W]=some (.bl false):=by
 have i:=jdq k;have j:=jlP k;have q:decide (k∈T2)=false/\decide (k∈T4)=false/\(k==JL)=false/\(k==vh)=false/\(k==jU)=false:=by
  simp only[M4,List.not_mem_nil,or_false] at a;rcases a with rfl | rfl | rfl | rfl | rfl | rfl<;>decide
 obtain⟨b,c,d,e,f⟩:=q;rw[b] at i;rw[c] at j;simp[jh,jk,j7,x0,i,j,d,e,f,jb]
section
variable {p:PoolS}(hz:Pz p)
include hz
theorem jnH{W:List D}{k w:List Nat}(x0:jf (.lst false W) (.int 0)=some (.str k))(b:jf (.lst false W) (.int 1)=some (.str w))(a:k∈T4)(c:w∈p.told.map (·.1)):jh [pD false p,.lst false W]=some (.bl false):=by
 have i:=jdq k;have j:=jlP k;rw[X9 a] at j;have q:decide (k∈T2)=false:=by
  simp only[M4,List.not_mem_nil,or_false] at a;rcases a with rfl | rfl | rfl | rfl<;>decide
 rw[q] at i;have o:=jeM hz w;rw[X9 c] at o;have d:=jev false p;have e:=jl4 false p;have f:=yd hz;have z:=yh _ f;generalize pFl false p=FF,pD false p=PP at *;simp[jh,jk,j7,x0,b,i,j,d,e,f,z,o,jb]
theorem jpn{w:List Nat}(a:w∈p.marks.map (·.1)):jh [pD false p,.lst false [.str JL,.str w]]=some (.bl false):=by
 have i:yZ false (.str JL) (.tup [.str qp,.str jm])=some (.bl false):=jdq JL;have j:yZ false (.str JL) (.tup [.str y8,.str jaY,.str kh,.str j0])=some (.bl false):=jlP JL;have o:=jjI hz w;rw[X9 a] at o;have b:=jev false p;have c:=jop false p;have f:=yd hz;have z:=yh _ f;generalize pFl false p=FF,pD false p=PP at *;simp[jh,jk,j7,xG,i,j,b,c,f,z,o,jb]
theorem joU{v w:List Nat}{n:Int}(b:v∈p.told.map (·.1))(c:w∈p.orders.map (·.nm)):jh [pD false p,.lst false [.str vh,.str v,.int n,.str w]]=some (.bl false):=by
 have i:yZ false (.str vh) (.tup [.str qp,.str jm])=some (.bl false):=jdq vh;have j:yZ false (.str vh) (.tup [.str y8,.str jaY,.str kh,.str j0])=some (.bl false):=jlP vh;have o:=jeM hz v;rw[X9 b] at o;have a:=jkI hz w;rw[X9 c] at a;have d:=jev false p;have e:=jl4 false p;have g:=joz false p;have f:=yd hz;have z:=yh _ f;generalize pFl false p=FF,pD false p=PP at *;simp[jh,jk,j7,xG,i,j,d,e,g,f,z,o,a,jb]
theorem jpw{v w:List Nat}(b:v∈p.marks.map (·.1))(c:w∈p.told.map (·.1)):jh [pD false p,.lst false [.str jU,.str v,.str w]]=some (.bl false):=by
 have i:yZ false (.str jU) (.tup [.str qp,.str jm])=some (.bl false):=jdq jU;have j:yZ false (.str jU) (.tup [.str y8,.str jaY,.str kh,.str j0])=some (.bl false):=jlP jU;have o:=jjI hz v;rw[X9 b] at o;have a:=jeM hz w;rw[X9 c] at a;have d:=jev false p;have e:=jl4 false p;have g:=jop false p;have f:=yd hz;have z:=yh _ f;generalize pFl false p=FF,pD false p=PP at *;simp[jh,jk,j7,xG,i,j,d,e,g,f,z,o,a,jb]
theorem jot{k:List Nat}{ws:J2}(d:k∈T2)(e:∀ w∈ws,w∈p.told.map (·.1))(hl:ws.length<=6):jh [pD false p,.lst false<|.str k::ws.map D.str]=some (.bl false):=by
 have i:=jdq k;rw[X9 d] at i;have s:=jdk (k:=k)<|jM ws;have g:=w0 (k:=k) (T:=ws.map D.str);have h:=jev false p;have j:=jl4 false p;have f:=yd hz;have z:=yh _ f;have c:yP (jl [] 0) qT (vG jt 1 "has_claim" (pV 1) #[pV 0]) (ws.map D.str) [none,some<|pD false p]=some (ws.map λw=>.bl (decide (w∈p.told.map (·.1)))):=by
  refine jL (en:=D.str) rfl (λρ=>∃ o,ρ=[o,some<|pD false p]) ?_ ⟨none,rfl⟩;rintro w q ρ ⟨o,rfl⟩;refine⟨[some<|.str w,some<|pD false p],rfl,?_,_,rfl⟩;have o:=jeM hz w;show _=some (D.bl (decide (w∈p.told.map (·.1))));generalize decide (w∈p.told.map (·.1))=b,pFl false p=FF,pD false p=PP at *;simp[h,j,o,f,z]
 have b:=Qu (λw=>decide (w∈p.told.map (·.1))) ws;have a:(ws.map λw=>decide (w∈p.told.map (·.1))).all (λb=>b)=true:=by
  rw[List.all_map,List.all_eq_true];intro w l;exact X9<|e w l
 have m:lim (ws.map D.str).length=true:=jN ∅;have n:=jM ws;generalize(ws.map λw=>decide (w∈p.told.map (·.1)))=BB at *;generalize(ws.map λw=>D.bl (decide (w∈p.told.map (·.1))))=CC at *;generalize ws.map D.str=WS at *;generalize D.lst false (.str k::WS)=LL,pFl false p=FF,pD false p=PP at *;simp[jh,jk,j7,g,i,s,c,b,a,m,n,jp,jb]
end
def jiy{C P O:J2}{t:Rl}(g:x5 C P O t \/ ∃ w,t=.two j0 w){w:List Nat}(h:w∉qV t.enc){a0}:jc [a0,some<|.str w,some t.enc]=some (.nx [a0,some<|.str w,some t.enc]):=by
 cases t with
 | two k v=>
  show jc [a0,some<|.str w,some<|.tup [.str k,.str v]]=some (.nx [a0,some<|.str w,some<|.tup [.str k,.str v]]);have h:w∉qV (.tup [.str k,.str v]):=h;have d:¬ k=jm:=by
   rcases g with(⟨rfl | rfl,_⟩ | ⟨rfl,_⟩ | ⟨rfl,_⟩) | ⟨m,e⟩
   all_goals first | decide | (cases e;decide)
  have b:jf (.tup [.str k,.str v]) (.int 0)=some (.str k):=rfl;have c:jf (.tup [.str k,.str v]) (.int 1)=some (.str v):=rfl;by_cases f:k=kh
  ·subst f;have l:¬ w=v:=λe=>h (by subst e;simp[qV]);simp[jc,b,c,U9.mpr d,U9.mpr l]
  ·simp[jc,b,c,U9.mpr d,U9.mpr f]
 | share a=>
  have h:w∉qV (.tup [.str jm,.tup<|a.map D.str]):=h;rw[jbN] at h;show jc [a0,some<|.str w,some<|.tup [.str jm,.tup<|a.map D.str]]=some (.nx [a0,some<|.str w,some<|.tup [.str jm,.tup<|a.map D.str]]);have b:jf (.tup [.str jm,.tup<|a.map D.str]) (.int 0)=some (.str jm):=rfl;have c:jf (.tup [.str jm,.tup<|a.map D.str]) (.int 1)=some (.tup<|a.map D.str):=rfl;have j:=jiJ w a;rw[E1 h] at j;generalize a.map D.str=WS at *;simp[jc,b,c,j]
 | lend v i=>
  show jc [a0,some<|.str w,some<|.tup [.str yC,.str v,.int i]]=some (.nx [a0,some<|.str w,some<|.tup [.str yC,.str v,.int i]]);have b:jf (.tup [.str yC,.str v,.int i]) (.int 0)=some (.str yC):=rfl;simp[jc,b]
theorem uJ{C P O:J2}{w:List Nat}{a0}:∀{R:List Rl}{o2},(∀ t∈R,x5 C P O t \/ ∃ w,t=.two j0 w)->(∀ t∈R,w∉qV t.enc)->∃ o2',vH (jl [] 2) jc (R.map Rl.enc) [a0,some<|.str w,o2]=some (.nx [a0,some<|.str w,o2'])
 | [],o2,_,_=>⟨o2,by simp⟩
 | t::R,o2,h,k=>by
  obtain⟨o2',e⟩:=uJ (R:=R) (o2:=some t.enc) (λx a=>h x<|by simp[a])<|λx a=>k x (by simp[a]);exact⟨o2',by rw[L4,lpE rfl<|jiy (h t<|by simp)<|k t<|by simp,e]⟩
def jkm{C P O:J2}{x:OrdS}(h:OrdOk C P O x){w:List Nat}(a:w∉YI x):jw [oD false x,.str w]=some (.bl false):=by
 obtain⟨R,v,f,_,_,g⟩:=h.rl;have c:=jiF false x;have d:=wD<|R++[Rl.two j0 v];have i:=jg _ d;unfold YI at a;rw[f] at c a;obtain⟨j,e⟩:=uJ (C:=C) (P:=P) (O:=O) (w:=w) (a0:=some<|oD false x) (R:=R++[Rl.two j0 v]) (o2:=none) (λt b=>(N4.mp b).elim (λz=>.inl<|g t z) λz=>.inr ⟨v,M8.mp z⟩)<|λt b z=>a<|List.mem_flatMap.mpr ⟨_,List.mem_map_of_mem b,z⟩;generalize(R++[Rl.two j0 v]).map Rl.enc=RR at *;generalize oD false x=XX at *;simp[jw,jk,yD,c,d,i,e]
def jmF{p:PoolS}(hz:Pz p){C P O:J2}(h:∀ x∈p.orders,OrdOk C P O x){w:List Nat}(e:w∉p.orders.flatMap YI):jy [pD false p,.str w]=some (.bl false):=by
 have g:=jb4 false p;have c:yP (jl [] 0) qT (vG jw 0 "shares_or_repays" (pV 0) #[pV 1]) (p.orders.map<|oD false) [none,some<|.str w]=some (p.orders.map λ_=>.bl false):=by
  refine jL (en:=oD false) rfl (λρ=>∃ o,ρ=[o,some<|.str w]) ?_ ⟨none,rfl⟩;rintro x d ρ ⟨o,rfl⟩;refine⟨[some<|oD false x,some<|.str w],rfl,?_,_,rfl⟩;have o:=jkm (h x d) (w:=w) λz=>e<|List.mem_flatMap.mpr ⟨x,d,z⟩;have i:=jlW false x;have j:=jpi false x;have f:=zV<|hz.o x d;have z:=yh _ f;show _=some (D.bl false);generalize oF false x=FF,oD false x=PP at *;simp[i,j,o,f,z]
 have b:=Qu (λ_:OrdS=>false) p.orders;have a:(p.orders.map λ_=>false).any (λb=>b)=false:=by
  rw[List.any_map,List.any_eq_false];intro x _;simp
 have f:=V4 hz.o;have l:lim (p.orders.map<|oD false).length=true:=jN (by have:=hz.ol;lia);have k:∀ l,jlY [.lst true l]=(Jz l).bind λbs=>some (.bl<|bs.any λb=>b):=λ_=>rfl;generalize(p.orders.map λ_=>false)=BB at *;generalize(p.orders.map λ_=>D.bl false)=CC at *;generalize p.orders.map (oD false)=OO,pD false p=PP at *;simp[jy,jk,yI,g,f,l,c,b,a,k,jp]
def jch{A Ls}{Q:D}(h:A.length<6):jo [dD false A Ls,Q,.str yk]=some (.bl false):=by
 have e:=jlq false A Ls;have v:JZ ks_MOST Ko (.str yk)=some (.int 6):=rfl;have g:¬ (6:Int)<=((A.map<|pD false).length:Nat):=by rw[L0];lia
 have a:(((A.map<|pD false).length:Nat):Int)<6:=by rw[L0];lia
 have b:(A.map<|pD false).length<6:=by lia
 generalize A.map (pD false)=AA,dD false A Ls=DD at *;simp[jo,jk,yt,e,v,zj,g,a,b]
def job{b Q:D}{k:List Nat}(a:k∈TE):jo [b,Q,.str k]=some (.bl false):=by
 have i:=jns k;rw[X9 a] at i;have q:(k==yk)=false:=by
  simp only[M4,List.not_mem_nil,or_false] at a;rcases a with rfl | rfl<;>decide
 simp[jo,jk,yt,i,q,jb]
def jj3{c:D}{p:PoolS}{X x R}(h1:Opn p X x R)(s:R.length<8){k:List Nat}(a:k∈[jaY,jm,kh,JL,yC,Yq]):jo [c,pD false p,.str k]=some (.bl false):=by
 have i:=jns k;have j:=uF k;have q:(k==yk)=false/\decide (k∈TE)=false/\decide (k∈RUL)=true:=by
  simp only[M4,List.not_mem_nil,or_false] at a;rcases a with rfl | rfl | rfl | rfl | rfl | rfl<;>decide
 obtain⟨d,e,f⟩:=q;rw[e] at i;rw[f] at j;obtain⟨h,m,_⟩:=h1;have e3:=jb4 false p;rw[h,N7,List.map_singleton] at e3;have n:=qw (l:=X.map<|oD false) (x:=oD false x) false;have b:=jiF false x;rw[m] at b;have o:(((R.map Rl.enc).length:Nat):Int)<8:=by rw[L0];lia
 have g:¬ (8:Int)<=((R.map Rl.enc).length:Nat):=by lia
 have r:(R.map Rl.enc).length<8:=by lia
 generalize R.map Rl.enc=RR,pD false p=PP,oD false x=XX at *;generalize X.map (oD false)++[XX]=OO at *;simp[jo,jk,yt,i,j,d,e3,n,b,jdF,g,o,r,jb]
def jiI{c Q:D}{L:List D}{n:Int}{k:List Nat}(a:k∈[yK,KP,jI,y8,vh,jU])(b:frz Q=true)(e:jr [Q,.str k]=‹L›)(d:JZ ks_MOST Ko (.str k)=some (.int n))(hl:(L.length:Int)<n):jo [c,Q,.str k]=some (.bl false):=by
 have i:=jns k;have j:=uF k;have q:(k==yk)=false/\decide (k∈TE)=false/\decide (k∈RUL)=false:=by
  simp only[M4,List.not_mem_nil,or_false] at a;rcases a with rfl | rfl | rfl | rfl | rfl | rfl<;>decide
 obtain⟨f,h,l⟩:=q;rw[h] at i;rw[l] at j;have z:=yh _ b;have g:¬ n<=(L.length:Nat):=by lia
 simp[jo,jk,yt,i,j,f,e,b,z,zj,d,g,hl,jb]
section
variable {p:PoolS}(hz:Pz p)
include hz
theorem jo6:jr [pD false p,.str yK]=‹p.told.map e3›:=by
 have a:=jlo false p;have f:=vQ p.told;have z:=jg _ f;generalize p.told.map e3=TT,pD false p=PP at *;simp[jr,jk,ym,a,f,z]
theorem jo2:jr [pD false p,.str KP]=‹p.marks.map e2›:=by
 have a:=jl1 false p;have f:=yA p.marks;have z:=jg _ f;generalize p.marks.map e2=TT,pD false p=PP at *;simp[jr,jk,ym,a,f,z]
theorem joP:jr [pD false p,.str jI]=‹p.orders.map (oD false)›:=by
 have a:=jb4 false p;have f:=V4 hz.o;have z:=jg _ f;generalize p.orders.map (oD false)=TT,pD false p=PP at *;simp[jr,jk,ym,a,f,z]
theorem jpp:jr [pD false p,.str vh]=‹p.looks.map eL›:=by
 have a:=jnE false p;have f:=JK p.looks;have z:=jg _ f;generalize p.looks.map eL=TT,pD false p=PP at *;simp[jr,jk,ym,a,f,z]
theorem jpt:jr [pD false p,.str jU]=‹p.guards.map eG›:=by
 have a:=jlU false p;have f:=qC p.guards;have z:=jg _ f;generalize p.guards.map eG=TT,pD false p=PP at *;simp[jr,jk,ym,a,f,z]
theorem jo9{X x R}(h1:Opn p X x R):jr [pD false p,.str y8]=‹x.parts.map e2›:=by
 have a:=jmj false x;have f:=yA x.parts;have z:=jg _ f;obtain⟨b,_,_⟩:=h1;have e3:=jb4 false p;rw[b,N7,List.map_singleton] at e3;have c:=qw (l:=X.map<|oD false) (x:=oD false x) false;generalize x.parts.map e2=TT,pD false p=PP,oD false x=XX at *;generalize X.map (oD false)++[XX]=OO at *;simp[jr,jk,ym,a,e3,c,jdF,f,z]
end
def y4{A:List PoolS}{Ls:List WW}{Q:D}{W:List D}{k:List Nat}(pl:Int)(hz:∀ q∈A,Pz q)(e:ju [dD false A Ls]=some Q)(c:frz Q=true)(fW:frzs W=true)(x0:jf (.lst false W) (.int 0)=some (.str k))
  (h1:jE [Q,.str k]=some (.bl false)) (h2:yc [Q,.str k]=some (.bl false)) (g:jR [dD false A Ls,Q,.lst false W]=some (.bl false)) (h:jh [Q,.lst false W]=some (.bl false))
  (a:k≠jU \/ ∃ w F,jf (.lst false W) (.int 2)=some (.str w)/\jf5 Q=some (1,PNs,F)/\YJ PNs F "shares_or_repays" = none/\jy [Q,.str w]=some (.bl false))
  (i:jo [dD false A Ls,Q,.str k]=some (.bl false)):yN [dD false A Ls,.lst false W,.int pl]=some .non:=by
 have f:=jfB (Ls:=Ls) hz;have z:=yh _ f;have j:=yh _ c;have l:=jg _ fW;have m:=joc false A Ls;have n:=jor false A Ls;generalize dF false A Ls=FF,dD false A Ls=DD at *;rcases a with a | ⟨w,F,o,p,r,a⟩
 ·have d:=U9.mpr a;simp[yN,jk,qK,m,n,e,f,z,c,j,fW,l,x0,h1,h2,g,h,d,i]
 ·generalize d:(k==jU)=b;cases b<;>simp[yN,jk,qK,m,n,e,f,z,c,j,fW,l,x0,o,h1,h2,g,h,d,a,p,r,i]
abbrev plI(a b c d e f g:D):D:=.ins true 1 PNs [a,b,c,d,e,f,g]
abbrev oI(a b c:D):D:=.ins true 0 ONs [a,b,c]
abbrev dI(P N L:D):D:=.ins true 2 DNs [P,N,L]
section
variable (a b c d e f g:D)
def jpj:qQ 1 "claims" qo (plI a b c d e f g)=some (b,λz=>plI a z c d e f g):=rfl
def jpo:qQ 1 "pots" qo (plI a b c d e f g)=some (c,λz=>plI a b z d e f g):=rfl
def jo5:qQ 1 "eat" qo (plI a b c d e f g)=some (d,λz=>plI a b c z e f g):=rfl
def jml:qQ 1 "orders" qo (plI a b c d e f g)=some (e,λz=>plI a b c d z f g):=rfl
def jpd:qQ 1 "looks" qo (plI a b c d e f g)=some (f,λz=>plI a b c d e z g):=rfl
def joJ:qQ 1 "guards" qo (plI a b c d e f g)=some (g,λz=>plI a b c d e f z):=rfl
def jof(P N L:D):qQ 2 "pools" qo (dI P N L)=some (P,λz=>dI z N L):=rfl
def jpf(P N L:D):qQ 2 "names" qo (dI P N L)=some (N,λz=>dI P z L):=rfl
def joY(P N L:D):qQ 2 "loan_rows" qo (dI P N L)=some (L,λz=>dI P N z):=rfl
end
def Qf{L:Ln}{t:D}{X:List D}{x:D}{k:D->D}(h:L t=some (.lst true<|X++[x],k)):lIx (-1) L t=some (x,λz=>k<|.lst true<|X++[z]):=by
 unfold lIx;rw[h,L3];have a:ixN (X++[x]).length (-1)=some X.length:=by rw[N6,List.length_singleton,uk]
 simp only[a,L3];simp
def jo7{L:Ln}{t n p r:D}{k:D->D}(h:L t=some (oI n p r,k)):qQ 0 "parts" L t=some (p,λz=>k<|oI n z r):=by
 unfold qQ;rw[h];rfl
def joR{L:Ln}{t n p r:D}{k:D->D}(h:L t=some (oI n p r,k)):qQ 0 "rules" L t=some (r,λz=>k<|oI n p z):=by
 unfold qQ;rw[h];rfl
section
variable {a b c d e f g:D}{l:List D}{T:List D}(hT:frzs T=true)(hl:lim l.length=true)(hn:lim T.length=true)
def tup_of{o}{T:List D}(hT:frzs T=true)(hn:lim T.length=true):ki [.lst o T]=some (.tup T):=by
 show(bif _ then _ else _)=_;simp[hT,hn]
include hT hl hn
theorem jn7:je [plI a (.lst true l) c d e f g,.lst false<|.str yK::T]=some (.non,plI a (.lst true<|l++[.tup T]) c d e f g):=by
 have s:=jdk (k:=yK) hT;have b:=w0 (k:=yK) (T:=T);have t:=tup_of (o:=true) hT hn;have z:=jg _ hT;have L:=jpj a (.lst true l) c d e f g;generalize D.lst false (.str yK::T)=WW at *;simp[je,qJ,jP,b,s,t,L,hl,hT,z,Y4]
theorem jmC:je [plI a b (.lst true l) d e f g,.lst false<|.str KP::T]=some (.non,plI a b (.lst true<|l++[.tup T]) d e f g):=by
 have s:=jdk (k:=KP) hT;have c:=w0 (k:=KP) (T:=T);have t:=tup_of (o:=true) hT hn;have z:=jg _ hT;have L:=jpo a b (.lst true l) d e f g;generalize D.lst false (.str KP::T)=WW at *;simp[je,qJ,jP,c,s,t,L,hl,hT,z,Y4]
theorem jnx:je [plI a b c d e (.lst true l) g,.lst false<|.str vh::T]=some (.non,plI a b c d e (.lst true<|l++[.tup T]) g):=by
 have s:=jdk (k:=vh) hT;have f:=w0 (k:=vh) (T:=T);have t:=tup_of (o:=true) hT hn;have z:=jg _ hT;have L:=jpd a b c d e (.lst true l) g;generalize D.lst false (.str vh::T)=WW at *;simp[je,qJ,jP,f,s,t,L,hl,hT,z,Y4]
theorem jmk:je [plI a b c d e f<|.lst true l,.lst false<|.str jU::T]=some (.non,plI a b c d e f<|.lst true<|l++[.tup T]):=by
 have s:=jdk (k:=jU) hT;have g:=w0 (k:=jU) (T:=T);have t:=tup_of (o:=true) hT hn;have z:=jg _ hT;have L:=joJ a b c d e f<|.lst true l;generalize D.lst false (.str jU::T)=WW at *;simp[je,qJ,jP,g,s,t,L,hl,hT,z,Y4]
theorem jnw{X:List D}{n r:D}:je [plI a b c d (.lst true<|X++[oI n (.lst true l) r]) f g,.lst false<|.str y8::T]=some (.non,plI a b c d (.lst true<|X++[oI n (.lst true<|l++[.tup T]) r]) f g):=by
 have s:=jdk (k:=y8) hT;have e:=w0 (k:=y8) (T:=T);have t:=tup_of (o:=true) hT hn;have z:=jg _ hT;have L:=jo7<|Qf<|jml a b c d (.lst true<|X++[oI n (.lst true l) r]) f g;generalize D.lst false (.str y8::T)=WW at *;simp[je,qJ,jP,e,s,t,L,hl,hT,z,Y4]
omit hl in
theorem jnN(d:lim (l.length+T.length)=true):je [plI a b c (.lst true l) e f g,.lst false<|.str qp::T]=some (.non,plI a b c (.lst true<|l++T) e f g):=by
 have s:=jdk (k:=qp) hT;have h:=w0 (k:=qp) (T:=T);have t:=tup_of (o:=true) hT hn;have z:=jg _ hT;have L:=jo5 a b c (.lst true l) e f g;have q:Y8 (.tup T)=some T:=by show(bif frzs T then some T else none)=_;rw[hT];rfl
 generalize D.lst false (.str qp::T)=WW at *;simp[je,qJ,jP,h,s,t,L,d,hT,z,Y4,q]
theorem jm4{X:List D}{n p:D}{k:List Nat}{t':D}(e:k∈RUL)(i:km [.lst false<|.str k::T]=some t')(j:frz t'=true):je [plI a b c d (.lst true<|X++[oI n p<|.lst true l]) f g,.lst false<|.str k::T]=some (.non,plI a b c d (.lst true<|X++[oI n p<|.lst true<|l++[t']]) f g):=by
 have s:=jdk (k:=k) hT;have m:=w0 (k:=k) (T:=T);have t:=tup_of (o:=true) hT hn;have z:=jg _ hT;have L:=joR<|Qf<|jml a b c d (.lst true<|X++[oI n p<|.lst true l]) f g;have q:(k==yK)=false/\(k==KP)=false/\(k==qp)=false/\(k==jI)=false/\(k==y8)=false/\(k==vh)=false/\(k==jU)=false:=by
  simp only[M4,List.not_mem_nil,or_false] at e;rcases e with rfl | rfl | rfl | rfl | rfl | rfl | rfl<;>decide
 obtain⟨r,u,v,w,x,y,A⟩:=q;have h:frz (.lst false<|.str k::T)=true:=by simp[hT]
 have B:=yh _ h;generalize D.lst false (.str k::T)=WW at *;simp[je,qJ,jP,m,s,t,L,hl,hT,z,Y4,r,u,v,w,x,y,A,i,j,h,B]
end
def jms{a b c d f g:D}{l:List D}{w:List Nat}(hl:lim l.length=true):je [plI a b c d (.lst true l) f g,.lst false [.str jI,.str w]]=some (.non,plI a b c d (.lst true<|l++[oI (.str w) (.lst true [])<|.lst true []]) f g):=by
 have s:=jdk (k:=jI) (T:=[.str w]) rfl;have t:=tup_of (o:=true) (T:=[.str w]) rfl<|jb (by simp);have L:=jml a b c d (.lst true l) f g;have mk:yi [.ins true 0 [] [],.str w]=some (.non,oI (.str w) (.lst true [])<|.lst true []):=by
  have p1:kn [] [] "name" (.str w)=((["name"]:List Str),[.str w]):=rfl;have p2:kn ["name"] [.str w] "parts" (.lst true [])=((["name","parts"]:List Str),[.str w,.lst true []]):=rfl;have p3:kn ["name","parts"] [.str w,.lst true []] "rules" (.lst true [])=(ONs,[.str w,.lst true [],.lst true []]):=rfl;simp[yi,qJ,vM,p1,p2,p3,jb,Y4]
 have e:jdb (D.non,oI (.str w) (.lst true [])<|.lst true [])=some (oI (.str w) (.lst true [])<|.lst true []):=rfl;generalize oI (.str w) (.lst true []) (.lst true [])=OO at *;simp[je,qJ,jP,xG,s,t,L,hl,mk,e,Y4]
def jce{AA:List D}{x N L:D}:Vz 2 "last_pool" jq qo (dI (.lst true<|AA++[x]) N L)=some (x,λz=>dI (.lst true<|AA++[z]) N L):=by
 have h:jq (dI (.lst true<|AA++[x]) N L)=some (x,λz=>dI (.lst true<|AA++[z]) N L):=Qf<|jof (.lst true<|AA++[x]) N L;have m:YJ DNs [.lst true<|AA++[x],N,L] "last_pool" = none:=rfl;unfold Vz qo;simp only[L3,m,h];rfl
def jaS:FS:=(sIf (dPT<|jd<|p2 (yZ false) (pV 3)<|kC #[pS [108,101,110,100],pS [98,97,99,107]]) (YB 0 (qQ 2 "loan_rows" qo)<|kC #[pF<|pV 2,pF<|vp 1 "name"<|pV 4,pF<|p2 jf (pV 1)<|pI 1])
 jn)
def jlr:FS:=jj jaS<|xT<|zF je 4 1 "put" #[pF<|pV 1]
abbrev TL:List (List Nat):=[yC,Yq]
def joh(k:List Nat):yZ false (.str k) (.tup [.str yC,.str Yq])=some (.bl<|decide<|k∈TL):=jiJ k TL
structure Taken(PP PP':D)(W:List D)(nm:List Nat):Prop where
 i:∃ F,PP=.ins true 1 PNs F/\YJ PNs F "put" = none
 n:qj 1 "name" PP=some (.str nm)
 f:frzs W=true
 p:je [PP,.lst false W]=some (.non,PP')
def jca{P N L:D}{W:List D}{k:List Nat}{pl:Int}{PP:D}(a:k∉TL):jaS [some<|dI P N L,‹W›,some<|.int pl,some<|.str k,some PP]=some (.nx [some<|dI P N L,‹W›,some<|.int pl,some<|.str k,some PP]):=by
 have i:=joh k;rw[E1 a] at i;simp[jaS,i,jb]
def jdC{P N:D}{a:List D}{W:List D}{k w nm:List Nat}{pl:Int}{PP:D}(b:k∈TL)(hn:qj 1 "name" PP=some (.str nm))(c:jf (.lst false W) (.int 1)=some (.str w))(hl:lim a.length=true):jaS [some<|dI P N<|.lst true a,‹W›,some<|.int pl,some<|.str k,some PP]=some (.nx [some<|dI P N<|.lst true<|a++[.tup [.int pl,.str nm,.str w]],‹W›,some<|.int pl,some<|.str k,some PP]):=by
 have i:=joh k;rw[X9 b] at i;have L:=joY P N<|.lst true a;generalize dI P N (.lst true a)=DD at *;simp[jaS,i,jb,hn,c,hl,L]
def bor{AA:List D}{N L L':D}{W:List D}{k nm:List Nat}{pl:Int}{PP b:D}(h:Taken PP b W nm)(hl:∀ a,jaS [some<|dI (.lst true<|AA++[.tok a]) N L,‹W›,some<|.int pl,some<|.str k,some PP]=some (.nx [some<|dI (.lst true<|AA++[.tok a]) N L',‹W›,some<|.int pl,some<|.str k,some PP])):
  wY 0 4 [0] (Vz 2 "last_pool" jq qo) jlr [some<|dI (.lst true<|AA++[PP]) N L,‹W›,some<|.int pl,some<|.str k,none]=some (.nx [some<|dI (.lst true<|AA++[b]) N L',‹W›,some<|.int pl,some<|.str k,some .dead]):=by
 obtain⟨F,rfl,d⟩:=h.i;have g:=h.p;have c:=h.f;have j:=jg _ c;unfold wY;have l:pV 0 [some<|dI (.lst true<|AA++[.ins true 1 PNs F]) N L,‹W›,some<|.int pl,some<|.str k,none]=some (dI (.lst true<|AA++[.ins true 1 PNs F]) N L):=rfl;rw[l,L3,jce,L3];show(some (1,PNs,F)).bind _=_;rw[L3];show uni (λa=>(jlr [some<|dI (.lst true<|AA++[.tok a]) N L,‹W›,some<|.int pl,some<|.str k,some<|.ins true 1 PNs F]).bind (bkL 0 4 (Vz 2 "last_pool" jq qo) a))=_;apply jji;intro a;have e:jlr [some<|dI (.lst true<|AA++[.tok a]) N L,‹W›,some<|.int pl,some<|.str k,some<|.ins true 1 PNs F]=some (.nx [some<|dI (.lst true<|AA++[.tok a]) N L',‹W›,some<|.int pl,some<|.str k,some b]):=by
  refine sq (hl a) ?_;generalize dI (.lst true<|AA++[.tok a]) N L'=DD at *;simp[g,c,j,d]
 rw[e,L3];rw[bkL];rw[show pV 4 [some<|dI (.lst true<|AA++[.tok a]) N L',‹W›,some<|.int pl,some<|.str k,some b]=some b from rfl,L3,show pV 0 [some<|dI (.lst true<|AA++[.tok a]) N L',‹W›,some<|.int pl,some<|.str k,some b]=some (dI (.lst true<|AA++[.tok a]) N L') from rfl,L3,jce,L3];show(some a).bind _=_;rw[L3,if_pos rfl];rfl
def uh:yp=jj (yB (dP<|pF<|p2 jf (pV 1)<|pI 0)<|jl [0] 3) (jj (sIf (dPT<|jd<|p2 (yZ false) (pV 3)<|kC #[pS [112,111,111,108],pS [99,108,97,105,109],pS [112,111,116]]) (YY 0 (qQ 2 "names" qo) (p2 jf (pV 1)<|pI 1)<|pC<|.bl true) jn)<|jj (sIf (dPT<|jd<|p2 ve (pV 3)<|pS [112,111,111,108]) (jj (YB 0 (qQ 2 "pools" qo)<|wV j5 1 #[pF<|p2 jf (pV 1)<|pI 1]) jeK) jn)<|wY 0 4 [0] (Vz 2 "last_pool" jq qo) jlr):=rfl
def wK{P N N' L P' L':D}{W:List D}{k:List Nat}{pl:Int}(x0:jf (.lst false W) (.int 0)=some (.str k))(b:k≠yk)
  (c:sIf (dPT<|jd<|p2 (yZ false) (pV 3)<|kC #[pS [112,111,111,108],pS [99,108,97,105,109],pS [112,111,116]]) (YY 0 (qQ 2 "names" qo) (p2 jf (pV 1)<|pI 1)<|pC<|.bl true) jn [some<|dI P N L,‹W›,some<|.int pl,some<|.str k,none]=some (.nx [some<|dI P N' L,‹W›,some<|.int pl,some<|.str k,none]))
  (d:wY 0 4 [0] (Vz 2 "last_pool" jq qo) jlr [some<|dI P N' L,‹W›,some<|.int pl,some<|.str k,none]=some (.nx [some<|dI P' N' L',‹W›,some<|.int pl,some<|.str k,some .dead])):jx [dI P N L,.lst false W,.int pl]=some (.non,dI P' N' L'):=by
 show(yp [some<|dI P N L,‹W›,some<|.int pl,none,none]).bind (Y4 0)=_;rw[uh];have e:∀{f g:FS}{ρ a:Rh}{r},f ρ=some (.nx a)->(g a).bind (Y4 0)=r->(jj f g ρ).bind (Y4 0)=r:=λh k=>by rw[sq h rfl];exact k
 apply @e _ _ _ [some<|dI P N L,‹W›,some<|.int pl,some<|.str k,none]
 ·generalize dI P N L=DD;simp[x0]
 apply e c;apply @e _ _ _ [some<|dI P N' L,‹W›,some<|.int pl,some<|.str k,none]
 ·have i:=U9.mpr b;generalize dI P N' L=DD at *;simp[i]
 rw[d];rfl
def jjP{P N L:D}{W:List D}{k:List Nat}{pl:Int}(a:k∉T3):sIf (dPT<|jd<|p2 (yZ false) (pV 3)<|kC #[pS [112,111,111,108],pS [99,108,97,105,109],pS [112,111,116]]) (YY 0 (qQ 2 "names" qo) (p2 jf (pV 1)<|pI 1)<|pC<|.bl true) jn [some<|dI P N L,‹W›,some<|.int pl,some<|.str k,none]=some (.nx [some<|dI P N L,‹W›,some<|.int pl,some<|.str k,none]):=by
 have i:=jfx k;rw[E1 a] at i;generalize dI P N L=DD at *;simp[i,jb]
def jfA{P L:D}{Ns:J2}{W:List D}{k w:List Nat}{pl:Int}(a:k∈T3)(b:jf (.lst false W) (.int 1)=some (.str w))(c:w∉Ns)(hl:Ns.length<=1000):sIf (dPT<|jd<|p2 (yZ false) (pV 3)<|kC #[pS [112,111,111,108],pS [99,108,97,105,109],pS [112,111,116]]) (YY 0 (qQ 2 "names" qo) (p2 jf (pV 1)<|pI 1)<|pC<|.bl true) jn [some<|dI P (.dK true (Ns.map KA.str)<|Ns.map λ_=>.bl true) L,‹W›,some<|.int pl,some<|.str k,none]=some (.nx [some<|dI P (.dK true ((Ns++[w]).map KA.str)<|(Ns++[w]).map λ_=>.bl true) L,‹W›,some<|.int pl,some<|.str k,none]):=by
 have i:=jfx k;rw[X9 a] at i;have d:=jpf P (.dK true (Ns.map KA.str)<|Ns.map λ_=>.bl true) L;have f:KA.str w∉Ns.map KA.str:=λz=>by obtain⟨v,g,e⟩:=M5.mp z;cases e;exact c g
 have h:V7 (Ns.map KA.str) (Ns.map λ_=>.bl true) (.str w) (.bl true)=((Ns++[w]).map KA.str,(Ns++[w]).map λ_=>.bl true):=by
  unfold V7;rw[if_neg f,N7,N7];rfl
 have j:lim (Ns.map KA.str).length=true:=jN ∅;have l:jiE (.dK true (Ns.map KA.str)<|Ns.map λ_=>.bl true)=some (Ns.map KA.str,Ns.map λ_=>.bl true):=rfl;generalize(Ns++[w]).map KA.str=K2 at *;generalize((Ns++[w]).map λ_=>D.bl true)=V2 at *;generalize Ns.map KA.str=K1 at *;generalize(Ns.map λ_=>D.bl true)=V1 at *;generalize D.dK true K1 V1=NN at *;generalize dI P NN L=DD at *;simp[i,jb,YY,d,l,b,zj,j,h]
def jbl{AA:List D}{L:D}{Ns:J2}{w:List Nat}{pl:Int}(b:w∉Ns)(hl:Ns.length<=1000)(c:lim AA.length=true):jx [dI (.lst true AA) (.dK true (Ns.map KA.str)<|Ns.map λ_=>.bl true) L,.lst false [.str yk,.str w],.int pl]=some (.non,dI (.lst true<|AA++[plI (.str w) (.lst true []) (.lst true []) (.lst true []) (.lst true []) (.lst true [])<|.lst true []]) (.dK true ((Ns++[w]).map KA.str)<|(Ns++[w]).map λ_=>.bl true) L):=by
 have d:=jfA (P:=.lst true AA) (L:=L) (W:=[.str yk,.str w]) (k:=yk) (pl:=pl) (by decide) (by rw[xG (by decide)<|by simp];rfl) b hl;have i:jf (.lst false [.str yk,.str w]) (.int 0)=some (.str yk):=rfl;have j:jf (.lst false [.str yk,.str w]) (.int 1)=some (.str w):=rfl;generalize D.dK true ((Ns++[w]).map KA.str) ((Ns++[w]).map λ_=>.bl true)=N2,D.dK true (Ns.map KA.str) (Ns.map λ_=>.bl true)=N1,[D.str yk,.str w]=W at *;show(yp [some<|dI (.lst true AA) N1 L,‹W›,some<|.int pl,none,none]).bind (Y4 0)=_;rw[uh];have e:∀{f g:FS}{ρ a:Rh}{r},f ρ=some (.nx a)->(g a).bind (Y4 0)=r->(jj f g ρ).bind (Y4 0)=r:=λh k=>by rw[sq h rfl];exact k
 apply @e _ _ _ [some<|dI (.lst true AA) N1 L,‹W›,some<|.int pl,some<|.str yk,none]
 ·generalize dI (.lst true AA) N1 L=DD;simp[i]
 apply e d;have mk:j5 [.ins true 1 [] [],.str w]=some (.non,plI (.str w) (.lst true []) (.lst true []) (.lst true []) (.lst true []) (.lst true [])<|.lst true []):=by
  have p1:kn [] [] "name" (.str w)=((["name"]:List Str),[.str w]):=rfl;have p2:kn ["name"] [.str w] "claims" (.lst true [])=((["name","claims"]:List Str),[.str w,.lst true []]):=rfl;have p3:kn ["name","claims"] [.str w,.lst true []] "pots" (.lst true [])=((["name","claims","pots"]:List Str),[.str w,.lst true [],.lst true []]):=rfl;have l:kn ["name","claims","pots"] [.str w,.lst true [],.lst true []] "eat" (.lst true [])=((["name","claims","pots","eat"]:List Str),[.str w,.lst true [],.lst true [],.lst true []]):=rfl;have m:kn ["name","claims","pots","eat"] [.str w,.lst true [],.lst true [],.lst true []] "orders" (.lst true [])=((["name","claims","pots","eat","orders"]:List Str),[.str w,.lst true [],.lst true [],.lst true [],.lst true []]):=rfl;have p6:kn ["name","claims","pots","eat","orders"] [.str w,.lst true [],.lst true [],.lst true [],.lst true []] "looks" (.lst true [])=((["name","claims","pots","eat","orders","looks"]:List Str),[.str w,.lst true [],.lst true [],.lst true [],.lst true [],.lst true []]):=rfl;have n:kn ["name","claims","pots","eat","orders","looks"] [.str w,.lst true [],.lst true [],.lst true [],.lst true [],.lst true []] "guards" (.lst true [])=(PNs,[.str w,.lst true [],.lst true [],.lst true [],.lst true [],.lst true [],.lst true []]):=rfl;simp[j5,qJ,vW,p1,p2,p3,l,m,p6,n,jb,Y4]
 have o:jdb (D.non,plI (.str w) (.lst true []) (.lst true []) (.lst true []) (.lst true []) (.lst true [])<|.lst true [])=some (plI (.str w) (.lst true []) (.lst true []) (.lst true []) (.lst true []) (.lst true [])<|.lst true []):=rfl;generalize plI (.str w) (.lst true []) (.lst true []) (.lst true []) (.lst true []) (.lst true []) (.lst true [])=OO at *;have p:=jof (.lst true AA) N2 L;generalize dI (.lst true AA) N2 L=DD at *;simp[j,p,c,mk,o,Y4]
def Nms(A:List PoolS):List (List Nat):=A.flatMap nlP
noncomputable def nD(N:J2):D:=.dK true (N.map KA.str)<|N.map λ_=>.bl true
def JW(B:List PoolS)(p:PoolS)(Ls:List WW):dD true (B++[p]) Ls=dI (.lst true<|B.map (pD true)++[pD true p]) (nD<|Nms B++nlP p) (.lst true<|Ls.map eW):=by
 unfold dD dF nKs nVs nD Nms;rw[N7,List.flatMap_append];simp
section
variable {B:List PoolS}{p p':PoolS}{Ls:List WW}{W:List D}{k:List Nat}{pl:Int}(x0:jf (.lst false W) (.int 0)=some (.str k))(fW:frzs W=true)(hp:je [pD true p,.lst false W]=some (.non,pD true p'))
include x0 fW hp
theorem vi(hn:nlP p'=nlP p)(c:k∉T3)(b:k∉TL):jx [dD true (B++[p]) Ls,.lst false W,.int pl]=some (.non,dD true (B++[p']) Ls):=by
 rw[JW,JW,hn];exact wK x0 (λe=>c<|e▸by decide) (jjP c)<|bor (nm:=p.nm) ⟨⟨_,rfl,rfl⟩,rfl,fW,hp⟩ λa=>jca b
theorem zf{w:List Nat}(d:jf (.lst false W) (.int 1)=some (.str w))(hn:nlP p'=nlP p)(c:k∉T3)(b:k∈TL)(hl:Ls.length<=2000):jx [dD true (B++[p]) Ls,.lst false W,.int pl]=some (.non,dD true (B++[p'])<|Ls++[(pl,p.nm,w)]):=by
 rw[JW,JW,hn,N7];exact wK x0 (λe=>c<|e▸by decide) (jjP c)<|bor (nm:=p.nm) ⟨⟨_,rfl,rfl⟩,rfl,fW,hp⟩ λa=>jdC b rfl d<|jN ∅
theorem zo{w:List Nat}(d:jf (.lst false W) (.int 1)=some (.str w))(hn:nlP p'=nlP p++[w])(e:k∈T3)(b:k≠yk)(c:k∉TL)(f:w∉Nms B++nlP p)(hl:(Nms B++nlP p).length<=1000):jx [dD true (B++[p]) Ls,.lst false W,.int pl]=some (.non,dD true (B++[p']) Ls):=by
 rw[JW,JW,hn,<- List.append_assoc];exact wK x0 b (jfA e d f hl)<|bor (nm:=p.nm) ⟨⟨_,rfl,rfl⟩,rfl,fW,hp⟩ λa=>jca c
end
def jdt(N:J2)(Ls:List WW):Prop:=∀ l∈Ls,l.2.2≠l.2.1/\l.2.2∈N
def jcx(N:J2)(A:List PoolS)(r:Rw)(A':List PoolS):Prop:=
 ∀(Ls:List WW) (pl:Int),jdt N Ls->Ls.length<=2000->yN [dD false A Ls,.lst false r.told,.int pl]=some .non/\∃ Ls',jdt N Ls'/\Ls'.length<=Ls.length+1/\jx [dD true A Ls,.lst false r.told,.int pl]=some (.non,dD true A' Ls')
def jfi{A:List PoolS}{w:List Nat}(h:w∉Nms A):(JZ (nKs A) (nVs A)<|.str w).isSome=false:=by
 unfold nKs nVs;rw[jba];exact E1 h
section
variable {N:J2}{B:List PoolS}{n:List Nat}{T:List W3}{M:List W2}{E:J2}{X:List OrdS}{L:List WL}{G:List WG}
def Jn(B:List PoolS)(p:PoolS):Nms (B++[p])=Nms B++nlP p:=by unfold Nms;simp
def jan{c:W3}(hz:∀ q∈B++[(⟨n,T,[],[],[],[],[]⟩:PoolS)],Pz q)(d:c.1∉Nms (B++[(⟨n,T,[],[],[],[],[]⟩:PoolS)]))(hl:(Nms<|B++[(⟨n,T,[],[],[],[],[]⟩:PoolS)]).length<=1000)(j:T.length<6):jcx N (B++[⟨n,T,[],[],[],[],[]⟩]) (rwC c) (B++[⟨n,T++[c],[],[],[],[],[]⟩]):=λf h i k=>by
 have a:=hz _<|X0 _<|M8.mpr rfl;have b:jf (.lst false (rwC c).told) (.int 0)=some (.str yK):=rfl;have g:jf (.lst false (rwC c).told) (.int 1)=some (.str c.1):=rfl;refine⟨y4 h hz (kJ f hz) (yd a) rfl b (jcd a (by decide) (sv yK 1)<|by simp[stg]) (Yk (by decide) _) (tw_n b g (jlT false _ f) (by decide)<|jfi d) (jhK b<|by decide) (.inl<|by decide)<|jiI (by decide) (yd a) (jo6 a) rfl<|by rw[L0];show(T.length:Int)<6;lia,f,i,by lia,?_⟩;rw[Jn] at d hl;refine zo b rfl ?_ g (by simp[nlP]) (by decide) (by decide) (by decide) d hl;have e:pD true ⟨n,T++[c],[],[],[],[],[]⟩=plI (.str n) (.lst true<|T.map e3++[e3 c]) (.lst true []) (.lst true []) (.lst true []) (.lst true []) (.lst true []):=by unfold pD pFl;rw[N7];rfl
 rw[e];exact jn7 (T:=[.str c.1,.int c.2.1,.int c.2.2]) rfl (jN ∅)<|jb (by simp)
def jeT{c:W2}(hz:∀ q∈B++[(⟨n,T,M,[],[],[],[]⟩:PoolS)],Pz q)(d:c.1∉Nms (B++[(⟨n,T,M,[],[],[],[]⟩:PoolS)]))(hl:(Nms<|B++[(⟨n,T,M,[],[],[],[]⟩:PoolS)]).length<=1000)(j:M.length<3):jcx N (B++[⟨n,T,M,[],[],[],[]⟩]) (rwM c) (B++[⟨n,T,M++[c],[],[],[],[]⟩]):=λf h i k=>by
 have a:=hz _<|X0 _<|M8.mpr rfl;have b:jf (.lst false (rwM c).told) (.int 0)=some (.str KP):=rfl;have g:jf (.lst false (rwM c).told) (.int 1)=some (.str c.1):=rfl;refine⟨y4 h hz (kJ f hz) (yd a) rfl b (jcd a (by decide) (sv KP 2)<|by simp[stg];split<;>lia) (Yk (by decide) _) (tw_n b g (jlT false _ f) (by decide)<|jfi d) (jhK b<|by decide) (.inl<|by decide)<|jiI (by decide) (yd a) (jo2 a) rfl<|by rw[L0];show(M.length:Int)<3;lia,f,i,by lia,?_⟩;rw[Jn] at d hl;refine zo b rfl ?_ g (by simp[nlP]) (by decide) (by decide) (by decide) d hl;have e:pD true ⟨n,T,M++[c],[],[],[],[]⟩=plI (.str n) (.lst true<|T.map e3) (.lst true<|M.map e2++[e2 c]) (.lst true []) (.lst true []) (.lst true []) (.lst true []):=by unfold pD pFl;rw[N7];rfl
 rw[e];exact jmC (T:=[.str c.1,.int c.2]) rfl (jN ∅)<|jb (by simp)
def uP(k:List Nat)(ws:J2):(rwE k ws).told=.str k::ws.map D.str:=by show D.str k::(ws.map Item.nm).map Item.enc=_;rw[U8];rfl
def jdX(hz:∀ q∈B++[(⟨n,T,M,[],[],[],[]⟩:PoolS)],Pz q)(e:∀ w∈E,w∈T.map (·.1))(hn:E.Nodup)(b:E.length<=6):jcx N (B++[⟨n,T,M,[],[],[],[]⟩]) (rwE qp E) (B++[⟨n,T,M,E,[],[],[]⟩]):=λc f g h=>by
 have a:=hz _<|X0 _<|M8.mpr rfl;rw[uP];have d:=w0 (k:=qp) (T:=E.map D.str);refine⟨y4 f hz (kJ c hz) (yd a) (by simp) d (jnY a (by simp[stg];split<;>lia) rfl) (Yk (by decide) _) (tw_e (by decide) hn b) (jot a (by decide) e b) (.inl<|by decide)<|job<|by decide,c,g,by lia,?_⟩;refine vi d (by simp) ?_ rfl (by decide) (by decide);exact jnN (l:=[]) (by simp) (jN ∅)<|jb (by simp;lia)
def jbf{c:WL}(hz:∀ q∈B++[(⟨n,T,M,E,X,L,[]⟩:PoolS)],Pz q)(f:Clo ⟨n,T,M,E,X,L,[]⟩)(hT:T≠[])(h1:c.1∈T.map (·.1))(h2:c.2.2∈X.map (·.nm))(j:L.length<4):jcx N (B++[⟨n,T,M,E,X,L,[]⟩]) (rwL c) (B++[⟨n,T,M,E,X,L++[c],[]⟩]):=λd g h k=>by
 have a:=hz _<|X0 _<|M8.mpr rfl;have b:jf (.lst false (rwL c).told) (.int 0)=some (.str vh):=rfl;have i:X≠[]:=λz=>by rw[z] at h2;simp at h2
 refine⟨y4 g hz (kJ d hz) (yd a) rfl b (jcd a (by decide) (sv vh 5)<|by simp[stg,i];split<;>lia) (qU a f hT<|by decide) (tw_f b<|by decide) (joU a h1 h2) (.inl<|by decide)<|jiI (by decide) (yd a) (jpp a) rfl<|by rw[L0];show(L.length:Int)<4;lia,d,h,by lia,?_⟩;refine vi b rfl ?_ rfl (by decide) (by decide);have e:pD true ⟨n,T,M,E,X,L++[c],[]⟩=plI (.str n) (.lst true<|T.map e3) (.lst true<|M.map e2) (.lst true<|E.map D.str) (.lst true<|X.map<|oD true) (.lst true<|L.map eL++[eL c]) (.lst true []):=by unfold pD pFl;rw[N7];rfl
 rw[e];exact jnx (T:=[.str c.1,.int c.2.1,.str c.2.2]) rfl (jN ∅)<|jb (by simp)
def jaF{c:WG}{C P O:J2}(hz:∀ q∈B++[(⟨n,T,M,E,X,L,G⟩:PoolS)],Pz q)(f:∀ x∈X,OrdOk C P O x)(g:Clo ⟨n,T,M,E,X,L,G⟩)(hT:T≠[])(h1:c.1∈M.map (·.1))(h2:c.2∈T.map (·.1))(l:G.length<3)(h:c.2∉G.map (·.2))(i:c.2∉X.flatMap YI):jcx N (B++[⟨n,T,M,E,X,L,G⟩]) (rwG c) (B++[⟨n,T,M,E,X,L,G++[c]⟩]):=λb j k m=>by
 have a:=hz _<|X0 _<|M8.mpr rfl;have d:jf (.lst false (rwG c).told) (.int 0)=some (.str jU):=rfl;refine⟨y4 j hz (kJ b hz) (yd a) rfl d (jcd a (by decide) (sv jU 6)<|by unfold stg;(repeat' split)<;>decide) (qU a g hT<|by decide) (tw_g a h) (jpw a h1 h2) (.inr ⟨c.2,_,rfl,jev false _,joX false _,jmF a f i⟩)<|jiI (by decide) (yd a) (jpt a) rfl<|by rw[L0];show(G.length:Int)<3;lia,b,k,by lia,?_⟩;refine vi d rfl ?_ rfl (by decide) (by decide);have e:pD true ⟨n,T,M,E,X,L,G++[c]⟩=plI (.str n) (.lst true<|T.map e3) (.lst true<|M.map e2) (.lst true<|E.map D.str) (.lst true<|X.map<|oD true) (.lst true<|L.map eL) (.lst true<|G.map eG++[eG c]):=by unfold pD pFl;rw[N7];rfl
 rw[e];exact jmk (T:=[.str c.1,.str c.2]) rfl (jN ∅)<|jb (by simp)
def jat{w:List Nat}(hz:∀ q∈B++[(⟨n,T,M,E,X,[],[]⟩:PoolS)],Pz q)(d:X=[]\/Clo ⟨n,T,M,E,X,[],[]⟩)(hT:T≠[])(h1:w∉X.map (·.nm))(h:X.length<5):jcx N (B++[⟨n,T,M,E,X,[],[]⟩]) (rwN jI w) (B++[⟨n,T,M,E,X++[⟨w,[],[]⟩],[],[]⟩]):=λc f g i=>by
 have a:=hz _<|X0 _<|M8.mpr rfl;have b:jf (.lst false (rwN jI w).told) (.int 0)=some (.str jI):=rfl;refine⟨y4 f hz (kJ c hz) (yd a) rfl b (jcd a (by decide) (sv jI 4)<|by simp[stg];(repeat' split)<;>decide) (d.elim (λz=>ud z hT) λz=>qU a z hT<|by decide) (tw_o a h1) (jhK b<|by decide) (.inl<|by decide)<|jiI (by decide) (yd a) (joP a) rfl<|by rw[L0];show(X.length:Int)<5;lia,c,g,by lia,?_⟩;refine vi b rfl ?_ rfl (by decide) (by decide);have e:pD true ⟨n,T,M,E,X++[⟨w,[],[]⟩],[],[]⟩=plI (.str n) (.lst true<|T.map e3) (.lst true<|M.map e2) (.lst true<|E.map D.str) (.lst true<|X.map (oD true)++[oI (.str w) (.lst true [])<|.lst true []]) (.lst true []) (.lst true []):=by unfold pD pFl;rw[N7];rfl
 rw[e];exact jms<|jN ∅
def jcw{w:List Nat}{Ps:List W2}{c:W2}(hz:∀ q∈B++[(⟨n,T,M,E,X++[⟨w,Ps,[]⟩],[],[]⟩:PoolS)],Pz q)(h1:c.1∈T.map (·.1))(h2:c.1∉Ps.map (·.1))(j:Ps.length<6):jcx N (B++[⟨n,T,M,E,X++[⟨w,Ps,[]⟩],[],[]⟩]) (rwP c) (B++[⟨n,T,M,E,X++[⟨w,Ps++[c],[]⟩],[],[]⟩]):=λf g i k=>by
 have a:=hz _<|X0 _<|M8.mpr rfl;have b:jf (.lst false (rwP c).told) (.int 0)=some (.str y8):=rfl;have d:Opn ⟨n,T,M,E,X++[⟨w,Ps,[]⟩],[],[]⟩ X ⟨w,Ps,[]⟩ []:=⟨rfl,rfl,λ_ h=>(nomatch h)⟩;refine⟨y4 g hz (kJ f hz) (yd a) rfl b (jkF a d (by decide) (λ_=>rfl)<|by simp[stg]) (Yk (by decide) _) (tw_p a d h2) (jnH a b rfl (by decide) h1) (.inl<|by decide)<|jiI (by decide) (yd a) (jo9 a d) rfl<|by rw[L0];show(Ps.length:Int)<6;lia,f,i,by lia,?_⟩;refine vi b rfl ?_ rfl (by decide) (by decide);have e:∀ Q:List W2,pD true ⟨n,T,M,E,X++[⟨w,Q,[]⟩],[],[]⟩=plI (.str n) (.lst true<|T.map e3) (.lst true<|M.map e2) (.lst true<|E.map D.str) (.lst true<|X.map (oD true)++[oI (.str w) (.lst true<|Q.map e2)<|.lst true []]) (.lst true []) (.lst true []):=λQ=>by unfold pD pFl;rw[N7];rfl
 rw[e,e,N7];exact jnw (T:=[.str c.1,.int c.2]) rfl (jN ∅)<|jb (by simp)
end
def jbs:∀ t:Rl,(rwR t).told=.str t.kw::(match t with | .two _ w=>[.str w] | .share ws=>ws.map D.str | .lend w i=>[.str w,.int i])
 | .two _ _=>rfl
 | .share ws=>uP jm ws
 | .lend _ _=>rfl
def jar{t:Rl}(b:∀ k w,t=.two k w->k≠jm)(hl:∀ ws,t=.share ws->ws.length<=6):km [.lst false (rwR t).told]=some t.enc:=by
 cases t with
 | two k w=>
  have c:=U9.mpr<|b k w rfl;have a:jf (.lst false (rwR<|.two k w).told) (.int 0)=some (.str k):=rfl;have t:ki [.lst false (rwR<|.two k w).told]=some (.tup [.str k,.str w]):=tup_of (T:=[.str k,.str w]) rfl<|jb (by simp);show _=some (D.tup [.str k,.str w]);generalize(rwR<|.two k w).told=WW at *;simp[km,jk,Yh,a,c,t]
 | share ws=>
  have d:=hl ws rfl;rw[show(rwR<|.share ws).told=_ from uP jm ws];have s:=jdk (k:=jm)<|jM ws;have a:=w0 (k:=jm) (T:=ws.map D.str);have t:=tup_of (o:=true) (T:=ws.map D.str) (jM ws)<|jN ∅;show _=some (D.tup [.str jm,.tup<|ws.map D.str]);generalize ws.map D.str=WS at *;generalize D.lst false (.str jm::WS)=LL at *;simp[km,jk,Yh,a,s,t,jb]
 | lend w i=>
  have a:jf (.lst false (rwR<|.lend w i).told) (.int 0)=some (.str yC):=rfl;have t:ki [.lst false (rwR<|.lend w i).told]=some (.tup [.str yC,.str w,.int i]):=tup_of (T:=[.str yC,.str w,.int i]) rfl<|jb (by simp);show _=some (D.tup [.str yC,.str w,.int i]);generalize(rwR<|.lend w i).told=WW at *;simp[km,jk,Yh,a,t]
section
variable {N:J2}{B:List PoolS}{n:List Nat}{T:List W3}{M:List W2}{E:J2}{X:List OrdS}{O:J2}{w:List Nat}{Ps:List W2}{R:List Rl}
def xi{t:Rl}(A:(x5 (T.map (·.1)) (M.map (·.1)) O t/\R.length<8) \/ ∃ w,t=.two j0 w/\w∈T.map (·.1))(U:∀ v∈O,v∈N/\v≠n)(hz:∀ q∈B++[(⟨n,T,M,E,X++[⟨w,Ps,R.map Rl.enc⟩],[],[]⟩:PoolS)],Pz q)(hR:∀ t∈R,t.kw≠j0)(hl:R.length<=9):
  jcx N (B++[⟨n,T,M,E,X++[⟨w,Ps,R.map Rl.enc⟩],[],[]⟩]) (rwR t) (B++[⟨n,T,M,E,X++[⟨w,Ps,(R++[t]).map Rl.enc⟩],[],[]⟩]):=λj I C V=>by
 have s:=hz _<|X0 _<|M8.mpr rfl;have u:Opn ⟨n,T,M,E,X++[⟨w,Ps,R.map Rl.enc⟩],[],[]⟩ X ⟨w,Ps,R.map Rl.enc⟩ R:=⟨rfl,rfl,hR⟩;have e:∀ Q:List Rl,pD true ⟨n,T,M,E,X++[⟨w,Ps,Q.map Rl.enc⟩],[],[]⟩=plI (.str n) (.lst true<|T.map e3) (.lst true<|M.map e2) (.lst true<|E.map D.str) (.lst true<|X.map (oD true)++[oI (.str w) (.lst true<|Ps.map e2)<|.lst true<|Q.map Rl.enc]) (.lst true []) (.lst true []):=λQ=>by unfold pD pFl;rw[N7];rfl
 have m:∃ G,(rwR t).told=.str t.kw::G/\frzs G=true/\G.length<=6/\t.kw∈RUL/\(∀ k w,t=.two k w->k≠jm)/\(∀ p,t=.share p->p.length<=6):=by
  rw[jbs];refine⟨_,rfl,?_⟩;cases t with
  | two k v=>
   refine⟨rfl,by simp,?_⟩;have:k∈RUL/\k≠jm:=by
    rcases A with⟨⟨rfl | rfl,_⟩ | ⟨rfl,_⟩ | ⟨rfl,_⟩,_⟩ | ⟨J,e,_⟩
    all_goals first | decide | (cases e;decide)
   exact⟨this.1,λ_ _ e=>(by cases e;exact this.2),λ_ e=>(by cases e)⟩
  | share p=>
   rcases A with⟨h,_⟩ | ⟨_,e,_⟩
   ·exact⟨jM _,by simpa using h.2.1,show jm∈RUL from by decide,λ_ _ e=>(by cases e),λ_ e=>by cases e;exact h.2.1⟩
   ·cases e
  | lend v i=>exact⟨rfl,by simp,show yC∈RUL from by decide,λ_ _ e=>(by cases e),λ_ e=>(by cases e)⟩
 obtain⟨G,H,W,lT,x,K,L⟩:=m;have Y:=jar K L;have m:frzs (rwR t).told=true:=by rw[H];simp[W]
 have f:jf (.lst false (rwR t).told) (.int 0)=some (.str t.kw):=by rw[H];exact w0
 have d:je [pD true ⟨n,T,M,E,X++[⟨w,Ps,R.map Rl.enc⟩],[],[]⟩,.lst false (rwR t).told]=some (.non,pD true ⟨n,T,M,E,X++[⟨w,Ps,(R++[t]).map Rl.enc⟩],[],[]⟩):=by
  rw[e,e,H,N7];rw[H] at Y;exact jm4 W (jN ∅) (jb ∅) x Y t.frz
 have hm:=jkF s u (k:=t.kw) (L5 _ x) (λe=>absurd (e▸x)<|by decide) (by simp[stg]);have he:=Yk (k:=t.kw) (λz=>by
  have:∀ k∈RUL,k∉K4:=by decide
  exact this _ x z) ⟨n,T,M,E,X++[⟨w,Ps,R.map Rl.enc⟩],[],[]⟩
 have hg:t.kw≠jU:=λe=>absurd (e▸x) (by decide);have y:t.kw∉T3:=λz=>by
  have:∀ k∈RUL,k∉T3:=by decide
  exact this _ x z
 have go:∀{j},jR [dD false (B++[⟨n,T,M,E,X++[⟨w,Ps,R.map Rl.enc⟩],[],[]⟩]) j,pD false ⟨n,T,M,E,X++[⟨w,Ps,R.map Rl.enc⟩],[],[]⟩,.lst false (rwR t).told]=some (.bl false)->jh [pD false ⟨n,T,M,E,X++[⟨w,Ps,R.map Rl.enc⟩],[],[]⟩,.lst false (rwR t).told]=some (.bl false)->jo [dD false (B++[⟨n,T,M,E,X++[⟨w,Ps,R.map Rl.enc⟩],[],[]⟩]) j,pD false ⟨n,T,M,E,X++[⟨w,Ps,R.map Rl.enc⟩],[],[]⟩,.str t.kw]=some (.bl false)->yN [dD false (B++[⟨n,T,M,E,X++[⟨w,Ps,R.map Rl.enc⟩],[],[]⟩]) j,.lst false (rwR t).told,.int I]=some .non:=
  λa b c=>y4 I hz (kJ _ hz) (yd s) m f hm he a b (.inl hg) c
 have Z:∀ v∈O,jdt N (j++[(I,n,v)]):=λv g l hl=>by
  rcases N4.mp hl with hl | hl
  ·exact C l hl
  ·rw[M8.mp hl];exact⟨(U v g).2,(U v g).1⟩
 cases t with
 | two k v=>
  have P:jf (.lst false (rwR<|.two k v).told) (.int 1)=some (.str v):=rfl;rcases A with⟨⟨o,g⟩ | ⟨rfl,g⟩ | ⟨rfl,g⟩,r⟩ | ⟨J,F,g⟩
  ·refine⟨go (tw_f f ?_) (jnH s f P ?_ g)<|jj3 u r ?_,j,C,by lia,vi f m d rfl y ?_⟩
   ·show k∈_;rcases o with rfl | rfl<;>decide
   ·show k∈_;rcases o with rfl | rfl<;>decide
   ·show k∈_;rcases o with rfl | rfl<;>decide
   ·show k∉_;rcases o with rfl | rfl<;>decide
  ·exact⟨go (tw_f f<|show JL∈_ from by decide) (jpn s g)<|jj3 u r<|show JL∈_ from by decide,j,C,by lia,vi f m d rfl y<|show JL∉TL from by decide⟩
  ·exact⟨go (tw_f f<|show Yq∈_ from by decide) (jhK f<|show Yq∈_ from by decide)<|jj3 u r<|show Yq∈_ from by decide,_,Z v g,by simp,zf f m d P rfl y (show Yq∈TL from by decide) V⟩
  ·cases F;exact⟨go (tw_f f<|show j0∈_ from by decide) (jnH s f P (show j0∈_ from by decide) g)<|job<|show j0∈_ from by decide,j,C,by lia,vi f m d rfl y<|show j0∉TL from by decide⟩
 | share p=>
  rcases A with⟨⟨h1,h2,S,h4⟩,r⟩ | ⟨J,F,_⟩
  ·have et:=uP jm p;refine⟨go ?_ ?_<|jj3 u r<|show jm∈_ from by decide,j,C,by lia,vi f m d rfl y<|show jm∉TL from by decide⟩
   ·rw[show(rwR<|.share p).told=_ from et];exact tw_e (by decide) S h2
   ·rw[show(rwR<|.share p).told=_ from et];exact jot s (by decide) h4 h2
  ·cases F
 | lend v i=>
  rcases A with⟨⟨g,_,_⟩,r⟩ | ⟨J,F,_⟩
  ·exact⟨go (tw_f f<|show yC∈_ from by decide) (jhK f<|show yC∈_ from by decide)<|jj3 u r<|show yC∈_ from by decide,_,Z v g,by simp,zf f m d rfl rfl y (show yC∈TL from by decide) V⟩
  ·cases F
end
def jb6{N:J2}{A:List PoolS}{w:List Nat}(hz:∀ q∈A,Pz q)(h:A=[] \/ ∃ B p,A=B++[p]/\Clo p/\p.told≠[])(d:w∉Nms A)(hl:(Nms A).length<=1000)(e:A.length<6):jcx N A (rwN yk w) (A++[⟨w,[],[],[],[],[],[]⟩]):=λa c i m=>by
 have b:jf (.lst false (rwN yk w).told) (.int 0)=some (.str yk):=rfl;have f:jf (.lst false (rwN yk w).told) (.int 1)=some (.str w):=rfl;refine⟨?_,a,i,by lia,?_⟩
 ·rcases h with rfl | ⟨B,p,rfl,j,k⟩
  ·exact y4 c hz (jdS a) rfl rfl b (u2 _) (ja6 _) (tw_n b f (jlT false _ a) (by decide)<|jfi d) (jhK b<|by decide) (.inl<|by decide)<|jch e
  ·have g:=hz p (by simp);exact y4 c hz (kJ a hz) (yd g) rfl b (u2 _) (qU g j k<|by decide) (tw_n b f (jlT false _ a) (by decide)<|jfi d) (jhK b<|by decide) (.inl<|by decide)<|jch e
 ·have l:dD true A a=dI (.lst true<|A.map<|pD true) (nD<|Nms A) (.lst true<|a.map eW):=rfl;rw[JW,l];exact jbl (AA:=A.map<|pD true) (L:=.lst true<|a.map eW) (Ns:=Nms A) (w:=w) (pl:=c) d hl<|jN ∅
inductive Steps (N:J2):List PoolS->List Rw->List PoolS->Prop where
 | nil (A:List PoolS):Steps N A [] A
 | cons {A A1 A2:List PoolS}{r:Rw}{rs:List Rw}(hz:∀ q∈A,Pz q) (h:jcx N A r A1) (k:Steps N A1 rs A2):Steps N A (r::rs) A2
def Steps.app{N A a b c d}(h:Steps N A c a)(k:Steps N a d b):Steps N A (c++d) b:=by
 induction h with
 | nil s=>exact k
 | cons e h _ f=>exact .cons e h<|f k
structure Px(B:List PoolS)(T:List W3)(M:List W2)(E:J2):Prop where
 b:∀ q∈B,Pz q
 t:T.length<=6
 m:M.length<=3
 e:E.length<=6
section
variable {N:J2}{B:List PoolS}{n:List Nat}{T:List W3}{M:List W2}{E:J2}{X:List OrdS}{L:List WL}{G:List WG}
def Px.pz(h:Px B T M E)(c:∀ x∈X,Oz x)(ol:X.length<=5)(d:L.length<=4)(gl:G.length<=3):∀ q∈B++[(⟨n,T,M,E,X,L,G⟩:PoolS)],Pz q:=λq a=>by
 rcases N4.mp a with a | a
 ·exact h.b q a
 ·rw[M8.mp a];have:=h.t;have:=h.m;have:=h.e;exact⟨c,by show T.length<=10;lia,by show M.length<=10;lia,by show E.length<=10;lia,by show X.length<=10;lia,by show L.length<=10;lia,by show G.length<=10;lia⟩
def jnF{P:OrdS->Prop}:∀ x∈([]:List OrdS),P x:=λ_ h=>(nomatch h)
def Kz{a b c:J2}{w:List Nat}(h:(a++w::b).Nodup):w∉a:=λz=>(X8.mp h).2.2 w z w (by simp) rfl
theorem YN(f:∀ q∈B,Pz q)(hl:(Nms B).length<=900):∀{U T:List W3},(T++U).length<=6->(Nms B++n::(T++U).map (·.1)).Nodup->Steps N (B++[⟨n,T,[],[],[],[],[]⟩]) (U.map rwC) (B++[⟨n,T++U,[],[],[],[],[]⟩])
 | [],T,_,_=>by rw[N0];exact .nil _
 | c::U,T,a,d=>by
  have e:T++c::U=(T++[c])++U:=by simp
  have h:T.length<6:=by simp at a;lia
  have g:∀ q∈B++[(⟨n,T,[],[],[],[],[]⟩:PoolS)],Pz q:=Px.pz ⟨f,by lia,by simp,by simp⟩ jnF (by simp) (by simp) (by simp);refine .cons g (jan g ?_ ?_ h) ?_
  ·rw[Jn];refine Kz (b:=U.map (·.1)) (c:=[]) ?_;simpa [nlP] using d
  ·rw[Jn];simp[nlP];lia
  ·rw[e] at a d ⊢;exact YN f hl a d
theorem KS(f:∀ q∈B,Pz q)(hl:(Nms B).length<=900)(g:T.length<=6):∀{U M:List W2},(M++U).length<=3->(Nms B++n::(T.map (·.1)++(M++U).map (·.1))).Nodup->Steps N (B++[⟨n,T,M,[],[],[],[]⟩]) (U.map rwM) (B++[⟨n,T,M++U,[],[],[],[]⟩])
 | [],M,_,_=>by rw[N0];exact .nil _
 | c::U,M,a,d=>by
  have e:M++c::U=(M++[c])++U:=by simp
  have i:M.length<3:=by simp at a;lia
  have h:∀ q∈B++[(⟨n,T,M,[],[],[],[]⟩:PoolS)],Pz q:=Px.pz ⟨f,g,by lia,by simp⟩ jnF (by simp) (by simp) (by simp);refine .cons h (jeT h ?_ ?_ i) ?_
  ·rw[Jn];refine Kz (b:=U.map (·.1)) (c:=[]) ?_;simpa [nlP] using d
  ·rw[Jn];simp[nlP];lia
  ·rw[e] at a d ⊢;exact KS f hl g a d
theorem VB{C P O:J2}(h:Px B T M E)(d:∀ x∈X,Oz x)(ol:X.length<5){w:List Nat}:∀{U Q:List W2},(Q++U).length<=6->(∀ q∈U,q.1∈T.map (·.1))->((Q++U).map (·.1)).Nodup->Steps N (B++[⟨n,T,M,E,X++[⟨w,Q,[]⟩],[],[]⟩]) (U.map rwP) (B++[⟨n,T,M,E,X++[⟨w,Q++U,[]⟩],[],[]⟩])
 | [],Q,_,_,_=>by rw[N0];exact .nil _
 | c::U,Q,b,f,a=>by
  have e:Q++c::U=(Q++[c])++U:=by simp
  have i:Q.length<6:=by simp at b;lia
  have g:∀ q∈B++[(⟨n,T,M,E,X++[⟨w,Q,[]⟩],[],[]⟩:PoolS)],Pz q:=h.pz (λx j=>(N4.mp j).elim (d x) λz=>by rw[M8.mp z];exact⟨rfl,by show Q.length<=10;lia,by simp⟩) (by simp;lia) (by simp) (by simp);refine .cons g (jcw g (f c<|by simp) ?_ i) ?_
  ·rw[N7,L4] at a;exact Kz (c:=[]) a
  ·rw[e] at b a ⊢;exact VB (C:=C) (P:=P) (O:=O) h d ol b (λq k=>f q<|by simp[k]) a
def jlN{C P O:J2}{u:Rl}(a:x5 C P O u):u.kw≠j0:=by
 cases u with
 | two k v=>show k≠j0;rcases a with⟨rfl | rfl,_⟩ | ⟨rfl,_⟩ | ⟨rfl,_⟩<;>decide
 | share b=>show jm≠j0;decide
 | lend v i=>show yC≠j0;decide
theorem VT{O:J2}(h:Px B T M E)(c:∀ x∈X,Oz x)(ol:X.length<5){w:List Nat}{Q:List W2}(g:Q.length<=6)(d:∀ v∈O,v∈N/\v≠n):∀{U R:List Rl},(R++U).length<=8->(∀ t∈R++U,x5 (T.map (·.1)) (M.map (·.1)) O t)->Steps N (B++[⟨n,T,M,E,X++[⟨w,Q,R.map Rl.enc⟩],[],[]⟩]) (U.map rwR) (B++[⟨n,T,M,E,X++[⟨w,Q,(R++U).map Rl.enc⟩],[],[]⟩])
 | [],R,_,_=>by rw[N0];exact .nil _
 | t::U,R,b,a=>by
  have e:R++t::U=(R++[t])++U:=by simp
  have i:R.length<8:=by simp at b;lia
  have f:∀ q∈B++[(⟨n,T,M,E,X++[⟨w,Q,R.map Rl.enc⟩],[],[]⟩:PoolS)],Pz q:=h.pz (λx j=>(N4.mp j).elim (c x) λz=>by rw[M8.mp z];exact⟨wD R,by show Q.length<=10;lia,by show(R.map Rl.enc).length<=10;rw[L0];lia⟩) (by simp;lia) (by simp) (by simp);refine .cons f (xi (.inl ⟨a t<|by simp,i⟩) d f (λu k=>?_) ∅) ?_
  ·exact jlN<|a u (by simp[k])
  ·rw[e] at b a ⊢;exact VT h c ol g d b a
def jek{C P O:J2}{x:OrdS}(h:OrdOk C P O x):Oz x:=⟨h.frzr,h.plen,h.len⟩
def jcY{O:J2}(h:Px B T M E)(hT:T≠[])(e:∀ v∈O,v∈N/\v≠n)(c:∀ x∈X,Oz x)(l:X=[]\/Clo ⟨n,T,M,E,X,[],[]⟩)(ol:X.length<5){x:OrdS}(a:OrdOk (T.map (·.1)) (M.map (·.1)) O x)(hn:x.nm∉X.map (·.nm)):Steps N (B++[⟨n,T,M,E,X,[],[]⟩]) (vf x) (B++[⟨n,T,M,E,X++[x],[],[]⟩]):=by
 obtain⟨R,v,f,d,m,g⟩:=a.rl;unfold vf;rw[QH f];have i:∀ q∈B++[(⟨n,T,M,E,X,[],[]⟩:PoolS)],Pz q:=h.pz c ∅ (by simp) (by simp);refine .cons i (jat i l hT hn ol) ?_;have j:=VB (N:=N) (n:=n) (C:=[]) (P:=[]) (O:=[]) h c ol (w:=x.nm) (U:=x.parts) (Q:=[]) ⇑a.p6 a.pm ⇑a.pn;have k:=VT (N:=N) (n:=n) (w:=x.nm) h c ol a.p6 e (U:=R) (R:=[]) ⇑d ⇑g;rw[E4] at j k;refine j.app ?_;rw[N7];refine k.app ?_;have b:∀ q∈B++[(⟨n,T,M,E,X++[⟨x.nm,x.parts,R.map Rl.enc⟩],[],[]⟩:PoolS)],Pz q:=h.pz (λy o=>(N4.mp o).elim (c y) λz=>by rw[M8.mp z];exact⟨wD R,a.plen,by show(R.map Rl.enc).length<=10;rw[L0];lia⟩) (by simp;lia) (by simp) (by simp);refine .cons b (xi (.inr ⟨v,rfl,m⟩) e b (λu p=>jlN<|g u p) ∅) ?_;rw[<- f];exact .nil _
theorem YT{O:J2}(h:Px B T M E)(hT:T≠[])(f:∀ v∈O,v∈N/\v≠n):∀{U X:List OrdS},(X=[]\/Clo ⟨n,T,M,E,X,[],[]⟩)->(∀ x∈X++U,OrdOk (T.map (·.1)) (M.map (·.1)) O x)->(X++U).length<=5->((X++U).map (·.nm)).Nodup->Steps N (B++[⟨n,T,M,E,X,[],[]⟩]) (U.flatMap vf) (B++[⟨n,T,M,E,X++U,[],[]⟩])
 | [],X,_,_,_,_=>by rw[N0];exact .nil _
 | x::U,X,i,a,d,b=>by
  have e:X++x::U=(X++[x])++U:=by simp
  have j:X.length<5:=by simp at d;lia
  have g:=a x (by simp);rw[List.flatMap_cons];refine(jcY h hT f (λy k=>jek<|a y<|by simp[k]) i j g ?_).app ?_
  ·rw[N7,L4] at b;exact Kz (c:=[]) b
  ·obtain⟨R,v,l,_⟩:=g.rl;rw[e] at a d b ⊢;exact YT h hT f (.inr ⟨X,x,rfl,R,v,l⟩) a d b
theorem Vn(h:Px B T M E)(hT:T≠[])(b:∀ x∈X,Oz x)(ol:X.length<=5)(f:∀ L,Clo ⟨n,T,M,E,X,L,[]⟩):∀{U L:List WL},(L++U).length<=4->(∀ c∈U,c.1∈T.map (·.1)/\c.2.2∈X.map (·.nm))->Steps N (B++[⟨n,T,M,E,X,L,[]⟩]) (U.map rwL) (B++[⟨n,T,M,E,X,L++U,[]⟩])
 | [],L,_,_=>by rw[N0];exact .nil _
 | c::U,L,a,g=>by
  have e:L++c::U=(L++[c])++U:=by simp
  have k:L.length<4:=by simp at a;lia
  have i:∀ q∈B++[(⟨n,T,M,E,X,L,[]⟩:PoolS)],Pz q:=h.pz b ol ∅ (by simp);have j:=g c (by simp);refine .cons i (jbf i (f L) hT j.1 j.2 k) ?_;rw[e] at a ⊢;exact Vn h hT b ol f a λd hd=>g d (by simp[hd])
theorem YV{C P O:J2}(h:Px B T M E)(hT:T≠[])(b:∀ x∈X,OrdOk C P O x)(ol:X.length<=5)(i:L.length<=4)(j:∀ G,Clo ⟨n,T,M,E,X,L,G⟩):∀{U G:List WG},(G++U).length<=3->(∀ c∈U,c.1∈M.map (·.1)/\c.2∈T.map (·.1)/\c.2∉X.flatMap YI)->((G++U).map (·.2)).Nodup->Steps N (B++[⟨n,T,M,E,X,L,G⟩]) (U.map rwG) (B++[⟨n,T,M,E,X,L,G++U⟩])
 | [],G,_,_,_=>by rw[N0];exact .nil _
 | c::U,G,f,k,a=>by
  have e:G++c::U=(G++[c])++U:=by simp
  have m:G.length<3:=by simp at f;lia
  have l:∀ q∈B++[(⟨n,T,M,E,X,L,G⟩:PoolS)],Pz q:=h.pz (λy o=>jek<|b y o) ol i ∅;have g:=k c (by simp);refine .cons l (jaF l b (j G) hT g.1 g.2.1 m ?_ g.2.2) ?_
  ·rw[N7,L4] at a;exact Kz (c:=[]) a
  ·rw[e] at f a ⊢;exact YV h hT b ol i j f (λd hd=>k d<|by simp[hd]) a
end
def jcV{O:J2}{p:PoolS}(h:PoolOk O p)(k:PoolK p):Pz p:=by
 have:=k.t6;have:=k.m3;have:=k.e6;have:=k.o5;have:=k.l4;have:=k.g3;exact⟨λx a=>jek<|h.orders x a,by lia,by lia,by lia,by lia,by lia,by lia⟩
def Vg{O:J2}{p:PoolS}(h:PoolOk O p)(a:p.orders≠[])(L:List WL)(G:List WG):Clo ⟨p.nm,p.told,p.marks,p.eats,p.orders,L,G⟩:=by
 rcases Jo p.orders with e | ⟨X,x,e⟩
 ·exact absurd e a
 ·obtain⟨R,v,b,_⟩:=(h.orders x<|by simp[e]).rl;exact⟨X,x,e,R,v,b⟩
def jaD{N O:J2}{A:List PoolS}{p:PoolS}(h:PoolOk O p)(k:PoolK p)(i:p.orders≠[])(t:∀ v∈O,v∈N/\v≠p.nm)(b:∀ q∈A,Pz q)(a:A=[] \/ ∃ B q,A=B++[q]/\Clo q/\q.told≠[])(hn:(Nms A++nlP p).Nodup)(hl:(Nms A).length<=900)(u:A.length<6):Steps N A (jX p) (A++[p]):=by
 obtain⟨n,T,M,E,X,L,G⟩:=p;have t6:T.length<=6:=k.t6;have m3:M.length<=3:=k.m3;have e6:E.length<=6:=k.e6;have o5:X.length<=5:=k.o5;have l4:L.length<=4:=k.l4;have g3:G.length<=3:=k.g3;have e:T≠[]:=λz=>by have:0<T.length:=h.told1;rw[z] at this;simp at this
 have hn:(Nms A++n::(T.map (·.1)++M.map (·.1))).Nodup:=hn;have f:(Nms A++n::T.map (·.1)).Nodup:=by
  rw[show Nms A++n::(T.map (·.1)++M.map (·.1))=(Nms A++n::T.map (·.1))++M.map (·.1) from by simp] at hn;exact(X8.mp hn).1
 show Steps N A (yV ⟨n,T,M,E,X,L,G⟩++VJ ⟨n,T,M,E,X,L,G⟩++X.flatMap vf++L.map rwL++G.map rwG) _;have s0:Steps N A [rwN yk n] (A++[⟨n,[],[],[],[],[],[]⟩]):=.cons b (jb6 b a (Kz (c:=[]) hn) ∅ u)<|.nil _;have j:=YN (N:=N) (n:=n) b hl (U:=T) (T:=[]) ⇑t6 ⇑f;have l:=KS (N:=N) (n:=n) b hl t6 (U:=M) (M:=[]) ⇑m3 ⇑hn;rw[E4] at j l;have d:Px A T M E:=⟨b,t6,m3,e6⟩;have w:Steps N (A++[⟨n,T,M,[],[],[],[]⟩]) (VJ ⟨n,T,M,E,X,L,G⟩) (A++[⟨n,T,M,E,[],[],[]⟩]):=by
  unfold VJ;by_cases g:E=[]
  ·rw[if_pos g,g];exact .nil _
  ·rw[if_neg g];have m:∀ q∈A++[(⟨n,T,M,[],[],[],[]⟩:PoolS)],Pz q:=Px.pz ⟨b,t6,m3,by simp⟩ jnF (by simp) (by simp) (by simp);exact .cons m (jdX m h.eatsm h.eatsn e6)<|.nil _
 have o:=YT (N:=N) (n:=n) d e t (U:=X) (X:=[]) (.inl rfl) ⇑h.orders ⇑o5 ⇑h.ordn;have r:=Vn (N:=N) (n:=n) d e (X:=X) (λx d=>jek<|h.orders x d) o5 (λL=>Vg h i L []) (U:=L) (L:=[]) ⇑l4 (λc a=>⟨(h.looks c a).1,h.looksm c a⟩);have s:=YV (N:=N) (n:=n) d e (X:=X) (L:=L) h.orders o5 l4 (λG=>Vg h i L G) (U:=G) (G:=[]) ⇑g3 (λc a=>⟨(h.guards c a).2.2.1,(h.guards c a).2.2.2,k.gh c a⟩) ⇑k.gn;rw[E4] at o r s;have y:Steps N A (yV ⟨n,T,M,E,X,L,G⟩) (A++[⟨n,T,M,[],[],[],[]⟩]):=s0.app<|j.app l;exact(((y.app w).app o).app r).app s
theorem K5{N:J2}:∀{Q A:List PoolS},(∀ p∈A++Q,∃ X,PoolOk X p/\PoolK p/\p.orders≠[]/\∀ w∈X,w∈N/\w≠p.nm)->(Nms<|A++Q).Nodup->(A++Q).length<=6->Steps N A (Q.flatMap jX) (A++Q)
 | [],A,_,_,_=>by rw[N0];exact .nil _
 | p::Q,A,h,d,f=>by
  have e:A++p::Q=(A++[p])++Q:=by simp
  obtain⟨X,k,l,n,o⟩:=h p (by simp);have j:∀ q∈A,Pz q:=λq s=>by obtain⟨Y,a,b,_⟩:=h q (by simp[s]);exact jcV a b
  have g:(Nms A).length<=900:=by
   have:∀{C:List PoolS},(∀ q∈C,Pz q)->(Nms C).length<=21*C.length:=by
    intro C
    induction C with
    | nil=>intro _;simp[Nms]
    | cons q C u=>
     intro i;have a:=u λr v=>i r (by simp[v]);have b:=(i q<|by simp).t;have c:=(i q<|by simp).m;unfold Nms at a ⊢;rw[List.flatMap_cons,N6,M2];simp only[nlP,M2,N6,L0]
     lia
   have a:=this j;simp at f;lia
  rw[List.flatMap_cons];refine(jaD k l n o j ?_ ?_ g<|by simp at f;lia).app ?_
  ·rcases Jo A with e | ⟨B,q,e⟩
   ·exact .inl e
   ·obtain⟨Y,a,b,c,_⟩:=h q (by simp[e]);refine .inr ⟨B,q,e,Vg a c q.looks q.guards,λz=>?_⟩;have:=a.told1;rw[z] at this;simp at this
  ·rw[e] at d;unfold Nms at d ⊢;rw[List.flatMap_append,List.flatMap_append] at d;simpa using(X8.mp d).1
  ·rw[e] at h d f ⊢;exact K5 h d f
def J8(r:Rw):frzs r.told=true:=by
 unfold Rw.told;rw[qB,jhT,Bool.true_and];exact kI (λx=>by cases x<;>rfl) _
def jao(r:Rw):yY r.told=true:=by
 unfold Rw.told;rw[wL,jdf,Bool.true_and,vt,List.all_map,List.all_eq_true];intro x _;cases x<;>rfl
def jbn{N A A' Ls}{r:Rw}(hz:∀ q∈A,Pz q)(h:jcx N A r A')(b:jdt N Ls)(c:Ls.length<=2000)(d:QX r){T:List Nat}(hT:T.length<=1000)(e:wgo 32 [] T=r.wds){a0 a2 o5:Option D}{pl:Int}:
  ∃ Ls' r5,jdt N Ls'/\Ls'.length<=Ls.length+1/\yU [a0,some<|dD true A Ls,a2,some<|.int pl,some<|.str T,o5]=some (.nx [a0,some<|dD true A' Ls',a2,some<|.int pl,some<|.str T,r5]):=by
 have f:kX [.str T,.int pl]=↑r.told:=jjc d hT e pl;obtain⟨e2,Ls',g,i,e3⟩:=h Ls pl b c;have a:=J8 r;have j:=jg _ a;have k:=jao r;have l:=jjj (Ls:=Ls) hz true;refine⟨Ls',‹r.told›,g,i,?_⟩;have m:qR (.lst true r.told) .non=some (.bl true):=rfl;have n:zM (dD true A Ls)=some (2,DNs,dF true A Ls):=rfl;have o:=joQ true A Ls;generalize r.told=RR,dF true A Ls=FF,dD true A Ls=DD,dD true A' Ls'=D2,dD false A Ls=D3 at *;simp[yU,f,m,k,l,j,a,e2,e3,n,o]
def jag{DR:D}{n:Nat}(hn:n<=100){a0 a2 o5:Option D}{pl:Int}:
  yU [a0,some DR,a2,some<|.int pl,some<|.str<|List.replicate n 32,o5]=some (.nx [a0,some DR,a2,some<|.int pl,some<|.str<|List.replicate n 32,some .non]):=by
 have a:=jfe hn pl;have b:qR .non .non=some (.bl false):=rfl;generalize List.replicate n 32=T at *;simp[yU,a,b]
theorem VI{N:J2}{a0 a2:Option D}:∀{L:List (List Nat×Option Rw)}{A A' Ls}{pl:Int}{o3 o4 o5:Option D},(∀ p∈L,LineOk p)->Steps N A (L.filterMap (·.2)) A'->jdt N Ls->Ls.length+L.length<=2000 ->
  ∃ Ls' r3 r4 r5,jdt N Ls'/\Ls'.length<=2000/\vH (gT 2<|gC (jl [] 3)<|gC (jl [] 4) gN) yU (YC pl<|L.map lD) [a0,some<|dD true A Ls,a2,o3,o4,o5]=some (.nx [a0,some<|dD true A' Ls',a2,r3,r4,r5])
 | [],A,A',Ls,pl,o3,o4,o5,_,h,a,c=>by cases h;exact⟨Ls,o3,o4,o5,a,by simpa using c,rfl⟩
 | (T,none)::L,A,A',Ls,pl,o3,o4,o5,a,h,g,c=>by
  rw[M2] at c;have f:=a (T,none) (by simp);obtain⟨n,i,d⟩:=f.b rfl;have d:T=List.replicate n 32:=d;subst d;have j:=jag (DR:=dD true A Ls) i (a0:=a0) (a2:=a2) (o5:=o5) (pl:=pl);obtain⟨Ls',r3,r4,r5,k,l,e⟩:=VI (a0:=a0) (a2:=a2) (L:=L) (A:=A) (A':=A') (Ls:=Ls) (pl:=pl+1) (o3:=some<|.int pl) (o4:=some<|.str<|List.replicate n 32) (o5:=some .non) (λq m=>a q<|by simp[m]) ⇑h g ∅;refine⟨Ls',r3,r4,r5,k,l,?_⟩;rw[L4,YC,show lD (List.replicate n 32,none)=.str (List.replicate n 32) from rfl,lpE rfl j,e]
 | (T,some r)::L,A,A',Ls,pl,o3,o4,o5,a,h,g,c=>by
  rw[M2] at c;have f:=a (T,some r) (by simp);obtain⟨o,s⟩:=f.r r rfl;have h:Steps N A (r::L.filterMap (·.2)) A':=h;cases h with
  | @cons _ t _ _ _ u v w=>
   have d:T.length<=1000:=by have:=f.len;have:T.length<=600:=this;lia
   obtain⟨x,y,z,B,j⟩:=jbn u v g ∅ o d s (a0:=a0) (a2:=a2) (o5:=o5) (pl:=pl);obtain⟨Ls',r3,r4,r5,k,l,e⟩:=VI (a0:=a0) (a2:=a2) (L:=L) (A:=t) (A':=A') (Ls:=x) (pl:=pl+1) (o3:=some<|.int pl) (o4:=some<|.str T) (o5:=y) (λq m=>a q<|by simp[m]) w z ∅;refine⟨Ls',r3,r4,r5,k,l,?_⟩;rw[L4,YC,show lD (T,some r)=.str T from rfl,lpE rfl j,e]
theorem uE{N:J2}{a0 a1 a2:Option D}:∀{Ls:List WW}{o4 o5 o6:Option D},jdt N Ls->∃ r4 r5 r6,vH (gT 3<|gC (jl [] 4)<|gC (jl [] 5)<|gC (jl [] 6) gN) vB (Ls.map eW) [a0,a1,a2,↑(N.map D.str),o4,o5,o6]=some (.nx [a0,a1,a2,↑(N.map D.str),r4,r5,r6])
 | [],o4,o5,o6,_=>⟨o4,o5,o6,rfl⟩
 | l::Ls,o4,o5,o6,h=>by
  obtain⟨r4,r5,r6,e⟩:=uE (N:=N) (a0:=a0) (a1:=a1) (a2:=a2) (Ls:=Ls) (o4:=some<|.int l.1) (o5:=some<|.str l.2.1) (o6:=some<|.str l.2.2)<|λq a=>h q (by simp[a]);obtain⟨b,c⟩:=h l (by simp);have d:vB [a0,a1,a2,↑(N.map D.str),some<|.int l.1,some<|.str l.2.1,some<|.str l.2.2]=some (.nx [a0,a1,a2,↑(N.map D.str),some<|.int l.1,some<|.str l.2.1,some<|.str l.2.2]):=by
   have i:=ub l.2.2 true N;rw[X9 c] at i;generalize N.map D.str=NN at *;simp[vB,i,U9.mpr b]
  exact⟨r4,r5,r6,by rw[L4,lpE rfl d,e]⟩
def jjM{A:List PoolS}{p:PoolS}{Ls:List WW}(hz:∀ q∈A++[p],Pz q)(hl:A.length<=10)(g:Clo p)(h:p.told≠[])(i:jdt ((A++[p]).map (·.nm)) Ls)(n:Int):vN [dD false (A++[p]) Ls,.int n]=some .non:=by
 have a:=hz p (by simp);have j:=kJ Ls hz;have l:=qU a g h (k:=yk) (by decide);obtain⟨C,F,G,e⟩:=uE (a0:=some<|dD false (A++[p]) Ls) (a1:=some<|.int n) (a2:=some<|pD false p) (o4:=none) (o5:=none) (o6:=none) i;have m:=joc false (A++[p]) Ls;have r:=jor false (A++[p]) Ls;have f:=jfB (Ls:=Ls) hz;have z:=yh _ f;have b:=yd a;have t:=yh _ b;have s:=jhW false p;have u:=jlq false (A++[p]) Ls;have e2:=jpa false (A++[p]) Ls;have c:yP (jl [] 0) qT (pF<|vp 1 "name"<|pV 0) ((A++[p]).map (pD false)) [none]=some (((A++[p]).map (·.nm)).map D.str):=by
  rw[U8];refine jL (en:=pD false) rfl (λρ=>∃ o,ρ=[o]) ?_ ⟨none,rfl⟩;rintro x a ρ ⟨o,rfl⟩;refine⟨[some<|pD false x],rfl,?_,_,rfl⟩;have v:=jos false x;show _=some (D.str x.nm);generalize pD false x=E at *;simp[v]
 have w:=wl hz;have y:lim ((A++[p]).map (pD false)).length=true:=jN (by simp;lia);have d:=jcc Ls;have B:=jg _ d;generalize((A++[p]).map (·.nm)).map D.str=NN at *;generalize(A++[p]).map (pD false)=AA at *;generalize Ls.map eW=LL,dF false (A++[p]) Ls=FF,dD false (A++[p]) Ls=DD,pD false p=PP at *;simp[vN,jk,YR,m,r,j,f,z,s,l,b,t,u,e2,c,w,y,d,B,e,jp]
def Ql(p:PoolS):D:=.tup [.str p.nm,.lst true<|p.told.map e3,.lst true<|p.marks.map e2,.lst true<|p.eats.map D.str,.lst true<|p.orders.map Y6,.lst true<|p.looks.map eL,.lst true<|p.guards.map eG]
def JJ{o}{l:List D}(h:frzs l=true):YA [.lst o l]=↑l:=by
 show(bif frzs l then _ else _)=_;rw[h];rfl
def je7{x:OrdS}(h:Oz x):jQ [oD false x]=some (Y6 x):=by
 have a:=joA false x;have e2:=jmj false x;have e3:=jiF false x;have l1:=JJ (o:=false)<|yA x.parts;have b:=JJ (o:=false) h.r;unfold Y6;generalize x.parts.map _=PP,x.rules=RR,oD false x=XX at *;simp[jQ,jk,vn,a,e2,e3,l1,b,jb]
def jes{p:PoolS}(h:Pz p):jY [pD false p]=some (Ql p):=by
 have b:=jos false p;have e2:=jlo false p;have e3:=jl1 false p;have d:=jny false p;have e:=jb4 false p;have e6:=jnE false p;have g:=jlU false p;have i:=JJ (o:=false)<|vQ p.told;have j:=JJ (o:=false)<|yA p.marks;have l4:=JJ (o:=false)<|jM p.eats;have k:=JJ (o:=false)<|JK p.looks;have m:=JJ (o:=false)<|qC p.guards;have c:yP (jl [] 0) qT (vG jQ 0 "order_told" (pV 0) pN) (p.orders.map<|oD false) [none]=some (p.orders.map Y6):=by
  refine jL (en:=oD false) rfl (λρ=>∃ o,ρ=[o]) ?_ ⟨none,rfl⟩;rintro x a ρ ⟨o,rfl⟩;refine⟨[some<|oD false x],rfl,?_,_,rfl⟩;have o:=je7<|h.o x a;have n:=jlW false x;have q:=jpg false x;have f:=zV<|h.o x a;have z:=yh _ f;generalize oF false x=FF,oD false x=PP at *;simp[n,q,o,f,z]
 have f:=V4 h.o;have l:lim (p.orders.map<|oD false).length=true:=jN (by have:=h.ol;lia);unfold Ql;generalize p.orders.map (oD false)=OO,p.orders.map Y6=O2,p.told.map _=B1,p.marks.map _=B2,p.eats.map _=B3,p.looks.map _=B4,p.guards.map _=B5,pD false p=PP at *;simp[jY,jk,vJ,b,e2,e3,d,e,e6,g,i,j,l4,k,m,c,f,l,jp,jb]
def alk(n:Nat)(d:D):Prop:=yG n [d,d]=some (.bl true)
def jig(n)(i):alk (n+1) (.int i):=by
 unfold alk yG;have a:Kp (.int i) .non=some (.bl false):=rfl;simp[jk,kM,Q2,a]
def jhF(n)(i):alk (n+1) (.str i):=by
 unfold alk yG;have a:Kp (.str i) .non=some (.bl false):=rfl;simp[jk,kM,Q2,a]
theorem QY:∀{l}{o2 o3},frzs l=true->(∀ x∈l,alk n x)->∃ o2' o3',vH (gT 2<|gC (jl [] 2)<|gC (jl [] 3) gN) (kr<|yG n) (jaW l l) [a0,a1,o2,o3]=some (.nx [a0,a1,o2',o3'])
 | [],o2,o3,_,_=>⟨o2,o3,rfl⟩
 | x::l,o2,o3,a,h=>by
  rw[qB,M0] at a;obtain⟨c,d,e⟩:=QY a.2<|λy f=>h y (by simp[f]);refine⟨c,d,?_⟩;have b:yG n [x,x]=some (.bl true):=h x (by simp);have g:(gT 2<|gC (jl [] 2)<|gC (jl [] 3) gN) (.tup [x,x]) [a0,a1,o2,o3]=some [a0,a1,some x,some x]:=rfl;have i:kr (yG n) [a0,a1,some x,some x]=some (.nx [a0,a1,some x,some x]):=by simp[kr,yh x a.1,b]
  rw[jaW,qX,g,L3,i,L3,jcL,e]
def jgb(b:frzs l=true)(hl:l.length<=1000)(h:∀ x∈l,alk n x):alk (n+1) (.lst false l):=by
 unfold alk yG;obtain⟨g,i,e⟩:=QY (a0:=‹l›) (a1:=‹l›) (o2:=none) (o3:=none) b h;have a:=jg l b;have c:Ka (.bl true) (.bl true)=some (.bl false):=rfl;have d:Ka (.bl false) (.bl false)=some (.bl false):=rfl;have f:jiH 2 [.lst false l,.lst false l]=some (jaW l l):=by rw[jnp rfl rfl<|M9 _,a]
 simp[jk,kM,Q2,b,a,f,c,d,e]
def jih(b:frzs l=true)(hl:l.length<=1000)(h:∀ x∈l,alk n x):alk (n+1) (.tup l):=by
 unfold alk yG;obtain⟨g,i,e⟩:=QY (a0:=some<|.tup l) (a1:=some<|.tup l) (o2:=none) (o3:=none) b h;have a:=jg l b;have c:Ka (.bl true) (.bl true)=some (.bl false):=rfl;have d:Ka (.bl false) (.bl false)=some (.bl false):=rfl;have f:jiH 2 [.tup l,.tup l]=some (jaW l l):=by rw[jnp rfl rfl<|M9 _,a]
 simp[jk,kM,Q2,b,a,f,c,d,e]
def pln:Nat->D->Bool
 | 0,_=>false
 | _+1,.int _=>true
 | _+1,.str _=>true
 | n+1,.tup l=>decide (l.length<=1000)&&l.all (pln n)
 | n+1,.lst o l=>!o&&(decide (l.length<=1000)&&l.all (pln n))
 | _+1,_=>false
theorem QC:∀ n d,pln n d=true->frz d=true
 | 0,_,h=>by cases h
 | n+1,.int _,_=>rfl
 | n+1,.str _,_=>rfl
 | n+1,.tup l,h=>by
  simp only[pln,M0,List.all_eq_true] at h;rw[frz,kT,List.all_eq_true];exact λx a=>QC n x<|h.2 x a
 | n+1,.lst o l,h=>by
  simp only[pln,M0,List.all_eq_true] at h;rw[frz,kT,M0,List.all_eq_true];exact⟨h.1,λx a=>QC n x<|h.2.2 x a⟩
 | n+1,.non,h=>by cases h
 | n+1,.bl _,h=>by cases h
 | n+1,.dK _ _ _,h=>by cases h
 | n+1,.dT _ _ _,h=>by cases h
 | n+1,.ins _ _ _ _,h=>by cases h
 | n+1,.dead,h=>by cases h
 | n+1,.tok _,h=>by cases h
 | n+1,.kt _,h=>by cases h
theorem xX:∀ n d,pln n d=true->alk n d
 | 0,_,h=>by cases h
 | n+1,.int _,_=>jig n _
 | n+1,.str _,_=>jhF n _
 | n+1,.tup l,h=>by
  have a:=QC _ _ h;simp only[pln,M0,List.all_eq_true,decide_eq_true_eq] at h;exact jih (by rw[frz] at a;exact a) h.1 λx b=>xX n x<|h.2 x b
 | n+1,.lst o l,h=>by
  have a:=QC _ _ h;simp only[pln,M0,List.all_eq_true,decide_eq_true_eq] at h;rw[frz,M0] at a;obtain⟨c,e,f⟩:=h;cases o with
  | true=>cases c
  | false=>exact jgb a.2 e λx b=>xX n x<|f x b
 | n+1,.non,h=>by cases h
 | n+1,.bl _,h=>by cases h
 | n+1,.dK _ _ _,h=>by cases h
 | n+1,.dT _ _ _,h=>by cases h
 | n+1,.ins _ _ _ _,h=>by cases h
 | n+1,.dead,h=>by cases h
 | n+1,.tok _,h=>by cases h
 | n+1,.kt _,h=>by cases h
theorem Qs:∀ n d,pln n d=true->pln (n+1) d=true
 | 0,_,h=>by cases h
 | n+1,.int _,_=>rfl
 | n+1,.str _,_=>rfl
 | n+1,.tup l,h=>by
  simp only[pln,M0,List.all_eq_true] at h ⊢;exact⟨h.1,λx a=>by have:=Qs n x<|h.2 x a;simpa [pln] using this⟩
 | n+1,.lst o l,h=>by
  simp only[pln,M0,List.all_eq_true] at h ⊢;exact⟨h.1,h.2.1,λx a=>by have:=Qs n x<|h.2.2 x a;simpa [pln] using this⟩
 | n+1,.non,h=>by cases h
 | n+1,.bl _,h=>by cases h
 | n+1,.dK _ _ _,h=>by cases h
 | n+1,.dT _ _ _,h=>by cases h
 | n+1,.ins _ _ _ _,h=>by cases h
 | n+1,.dead,h=>by cases h
 | n+1,.tok _,h=>by cases h
 | n+1,.kt _,h=>by cases h
def VM(h:pln n d=true)(a:n<=m):pln m d=true:=by
 induction a with
 | refl=>exact h
 | step _ b=>exact Qs _ _ b
def kZ{n}{f}{l:List α}(hl:l.length<=1000)(h:∀ x∈l,pln n (f x)=true):pln (n+1) (.lst false<|l.map f)=true:=by
 simp only[pln,M0,List.all_eq_true,decide_eq_true_eq];exact⟨rfl,by rw[L0];exact hl,λx a=>by obtain⟨y,b,rfl⟩:=M5.mp a;exact h y b⟩
def jgj(h:pln 9 d=true):yR [d,d]=some (.bl true):=xX 9 d h
def jm8(h:RuleS C P O r):pln 3 r=true:=by
 cases h with
 | two kw x=>simp[pln]
 | share a b=>simp[pln];lia
 | lend x v=>simp[pln]
def jnI{C P O}(h:OrdOk C P O x):pln 5 (yL false x)=true:=by
 have a:pln 4 (.lst false<|x.parts.map e2)=true:=VM (kZ (n:=2) (by have:=h.plen;lia) λy _=>by simp[e2,pln]) (by decide);have b:pln 4 (.lst false x.rules)=true:=by
  have:=kZ (f:=id) (by have:=h.len;lia) λy c=>jm8 (h.rules y c)
  rwa [List.map_id] at this
 unfold yL;unfold pln;simp only[List.all_cons,List.all_nil,a,b];rfl
def jjQ{O}(h:PoolOk O p):pln 7 (vc false p)=true:=by
 have a:pln 6 (.lst false<|p.told.map e3)=true:=VM (kZ (n:=2) (by have:=h.told2;lia) λy _=>by simp[e3,pln]) (by decide);have b:pln 6 (.lst false<|p.marks.map e2)=true:=VM (kZ (n:=2) (by have:=h.marks2;lia) λy _=>by simp[e2,pln]) (by decide);have c:pln 6 (.lst false<|p.eats.map D.str)=true:=VM (kZ (n:=2) (by have:=h.eats2;lia) λy _=>by simp[pln]) (by decide);have d:=kZ (by have:=h.orders2;lia) λy e=>jnI<|h.orders y e;have f:pln 6 (.lst false<|p.looks.map eL)=true:=VM (kZ (n:=2) (by have:=h.looks2;lia) λy _=>by simp[eL,pln]) (by decide);have g:pln 6 (.lst false<|p.guards.map eG)=true:=VM (kZ (n:=2) (by have:=h.guards2;lia) λy _=>by simp[eG,pln]) (by decide);unfold vc;unfold pln;simp only[List.all_cons,List.all_nil,a,b,c,d,f,g];rfl
def jhC{Ps:List PoolS}(h:DealOk Ps){T:List Nat}{L:List (List Nat×Option Rw)}(u:yO T [10]=L.map (·.1))(hT:T.length<=1000000)(v:∀ p∈L,LineOk p)(w:L.filterMap (·.2)=Ps.flatMap jX)(hl:L.length<=1600):
  kY [.str T]=↑(Ps.map Ql):=by
 have g:=K5 (N:=Ps.map (·.nm)) (Q:=Ps) (A:=[]) (λp l=>by
  obtain⟨X,a,b,c⟩:=h.ok p ⇑l;exact⟨X,a,b,λz=>by have:=a.orders1;rw[z] at this;simp at this,c⟩) h.all h.len2
 rw[E4,<- w] at g;have i:∀ q∈Ps,Pz q:=λq y=>by obtain⟨X,a,b,_⟩:=h.ok q y;exact jcV a b
 obtain⟨d,S,U,V,m,B,e⟩:=VI (N:=Ps.map (·.nm)) (a0:=some<|.str T) (a2:=‹L.map lD›) (L:=L) (A:=[]) (A':=Ps) (Ls:=[]) (pl:=1) (o3:=none) (o4:=none) (o5:=none) v g (λ_ h=>(nomatch h)) (by simp;lia);have n:J6 (.str T) [.str [10]]=↑(L.map lD):=by
  show(bif !([10]:List Nat).isEmpty&&decide (T.length<=1000000) then some (D.lst true<|(yO T [10]).map D.str) else none)=_;rw[X9 hT,u,U8];rfl
 have r:frzs (L.map lD)=true:=kI (λ_=>rfl) _;have s:=jg _ r;have mk:yo [.ins true 2 [] []]=some (.non,dD true [] []):=by
  have p1:kn [] [] "pools" (D.lst true [])=((["pools"]:List Str),[D.lst true []]):=rfl;have p2:kn ["pools"] [D.lst true []] "names" (.dK true [] [])=((["pools","names"]:List Str),[D.lst true [],.dK true [] []]):=rfl;have p3:kn ["pools","names"] [D.lst true [],.dK true [] []] "loan_rows" (.lst true [])=(DNs,[D.lst true [],.dK true [] [],.lst true []]):=rfl;simp[yo,qJ,vV,p1,p2,p3,jb,Y4];rfl
 have C:jdb (D.non,dD true [] [])=some (dD true [] []):=rfl;have t:vN [dD false Ps d,.int ((L.map lD).length:Nat)]=some .non:=by
  rcases Jo Ps with e | ⟨A,p,e⟩
  ·have:=h.len1;rw[e] at this;simp at this
  ·have E:=h.len2;obtain⟨X,a,b,_⟩:=h.ok p (by simp[e]);subst e;exact jjM i (by simp at E;lia) (Vg a (λz=>by have:=a.orders1;rw[z] at this;simp at this) p.looks p.guards) (λz=>by have:=a.told1;rw[z] at this;simp at this) m _
 have c:yP (jl [] 0) qT (vG jY 1 "pool_told" (pV 0) pN) (Ps.map<|pD false) [none]=some (Ps.map Ql):=by
  refine jL (en:=pD false) rfl (λρ=>∃ o,ρ=[o]) ?_ ⟨none,rfl⟩;rintro x l ρ ⟨o,rfl⟩;refine⟨[some<|pD false x],rfl,?_,_,rfl⟩;have o:=jes<|i x l;have F:=jev false x;have G:=joI false x;have f:=yd<|i x l;have z:=yh _ f;generalize pFl false x=FF,pD false x=PP at *;simp[F,G,o,f,z]
 have H:=jjj (Ls:=d) i true;have I:=jlq false Ps d;have J:=wl i;have K:lim (Ps.map<|pD false).length=true:=jN (by have:=h.len2;lia);have M:lim (L.map lD).length=true:=jN ∅;have j:∀ ρ:Rh,ρ[2]?=some (‹L.map lD›)->jjo #[pF<|pV 2] (pI 1) ρ=some (YC 1<|L.map lD):=by
  intro ρ O;unfold jjo;have P:pV 2 ρ=‹L.map lD›:=by rw[jiw,O];rfl
  have R:#[pF<|pV 2] ρ=some [.lst false<|L.map lD]:=by
   simp[P,r,s]
  rw[R];show(bif K8 1 then some (YC 1<|fzs<|L.map lD) else none)=_;rw[s];rfl
 have k:=j [some<|.str T,some<|dD true [] [],‹L.map lD›,none,none,none] rfl;generalize L.map lD=LL,Ps.map (pD false)=AA,Ps.map Ql=EE,dD true [] []=D0,dD true Ps d=D1,dD false Ps d=D2 at *;simp[kY,jk,Vx,mk,C,n,s,r,M,k,e,H,t,I,J,K,c,jp]
def jmM{O:J2}{p:PoolS}(h:PoolOk O p):fz (Ql p)=vc false p:=by
 have:fzs (p.orders.map Y6)=p.orders.map (yL false):=Ku λx a=>(h.orders x a).fzt;simp[Ql,vc,KN,zy,jb8,jbt,this]
def lnW(r:Rw):List Nat:=ya [32] r.wds
noncomputable def tD(r:Rw):D:=.tup r.told
theorem jfo:∀ L:List (List Nat),(ya [32] L).length<=(L.map List.length).sum+L.length
 | []=>by simp[ya]
 | [p]=>by simp[ya]
 | p::q::L=>by
  have e:ya [32] (p::q::L)=p++([32]++ya [32] (q::L)):=by rw[ya];simp
  have a:=jfo<|q::L;rw[e];simp only[N6,M2,L4,List.sum_cons,List.length_nil] at a ⊢
  lia
theorem uo{c:Nat}:∀{L:J2},(∀ p∈L,p.length<=c)->(L.map List.length).sum<=c*L.length
 | [],_=>by simp
 | p::L,h=>by
  have a:=uo (c:=c) (L:=L) λq d=>h q (by simp[d]);have b:=h p (by simp);simp only[L4,List.sum_cons,M2,Nat.mul_succ]
  lia
theorem u9:∀{W:J2}{t:List Nat}{done:J2},Txd t done->(∀ w∈W,w≠[]/\32∉w)->wgo 32 [] (t++(W.map<|λw=>32::w).flatten)=done++W
 | [],t,done,h,_=>by have:=h.fin 0;simpa using this
 | w::W,t,done,h,hW=>by
  have a:=h.step (hW w<|by simp).1 (hW w<|by simp).2 0;have b:=u9 (W:=W) a λv c=>hW v (by simp[c]);rw[List.append_assoc] at b;simpa using b
theorem wQ:∀(w:List Nat) (W:J2),ya [32] (w::W)=w++(W.map<|λw=>32::w).flatten
 | w,[]=>by simp[ya]
 | w,v::W=>by
  have e:ya [32] (w::v::W)=w++([32]++ya [32] (v::W)):=by rw[ya];simp
  rw[e,wQ v W];simp
def x8{r:Rw}(h:QX r):r.wds.length<=12:=by
 have:=h.few;unfold Rw.wds;simp;lia
def jnc{r:Rw}(h:QX r):∀ w∈r.wds,w≠[]/\32∉w:=λw a=>⟨(Rw.ok h w a).1,λz=>by have:=(Rw.ok h w a).2.1 32 z;lia⟩
def jkQ{c:Nat}{r:Rw}(h:QX r)(a:c∈lnW r):32<=c/\c<127:=by
 unfold lnW Rw.wds at a;rw[wQ] at a;have ok:=Rw.ok h;rcases N4.mp a with a | a
 ·have:=(ok r.kw<|by simp[Rw.wds]).2.1 c a;lia
 ·obtain⟨l,b,a⟩:=List.mem_flatten.mp a;obtain⟨w,d,rfl⟩:=M5.mp b;rcases M4.mp a with rfl | a
  ·decide
  ·have:=(ok w<|by unfold Rw.wds;simp only[M4];exact .inr d).2.1 c a;lia
def uz{r:Rw}(h:QX r):(lnW r).length<=200:=by
 have a:=jfo r.wds;have b:=uo (c:=13) (L:=r.wds) λw d=>(Rw.ok h w d).2.2;have:=x8 h;unfold lnW;lia
def jde{r:Rw}(h:QX r):LineOk (lnW r,some r):=by
 refine⟨by have:=uz h;lia,λz=>by have:=jkQ h z;lia,λz=>(nomatch z),λb e=>?_⟩;cases e;refine⟨h,?_⟩;show wgo 32 [] (lnW r)=r.wds;unfold lnW;have n:=jnc h;unfold Rw.wds at n ⊢;rw[wQ];exact u9 (W:=r.xs.map Item.wd) (Txd.first (n r.kw<|by simp).1 (n r.kw<|by simp).2 0) λw a=>n w<|L5 _ a
def jok{L:J2}{c:Nat}(h:∀ p∈L,p.length<=200)(hl:L.length<=1000):qe [c] L=true:=by
 have:=uo h;exact X9 (by simp only[M2,List.length_nil];lia)
def jwd{r:Rw}(h:QX r):qe [32] r.wds=true:=jok (λp a=>by have:=(Rw.ok h p a).2.2;lia) (by have:=x8 h;lia)
def VV{r:Rw}(h:QX r):y6 [tD r]=some (.str<|lnW r):=by
 have e:r.told=(Item.nm r.kw::r.xs).map Item.enc:=rfl;have g:r.wds=(Item.nm r.kw::r.xs).map Item.wd:=rfl;have c:yP (jl [] 0) qT (pCB V8 #[pV 0]) r.told [none]=some (r.wds.map D.str):=by
  rw[g,U8];refine jL (en:=Item.enc) e (λρ=>∃ o,ρ=[o]) ?_ ⟨none,rfl⟩;rintro x a ρ ⟨o,rfl⟩;refine⟨[some x.enc],rfl,?_,_,rfl⟩;have i:V8 [x.enc]=some (.str x.wd):=by
   rcases M4.mp a with rfl | a
   ·rfl
   ·obtain⟨k,b⟩:=h.mem a;exact b.str
  have d:frz x.enc=true:=by
   rcases M4.mp a with rfl | a
   ·rfl
   ·obtain⟨k,b⟩:=h.mem a;exact b.atom.1
  have m:=yh _ d;generalize x.enc=XX at *;simp[i,d,m]
 have f:=J8 r;have z:=jg _ f;have j:=jwd h;have l:=x8 h;have n:r.told.length=r.wds.length:=by simp[Rw.told,Rw.wds]
 have lt:lim r.told.length=true:=jb ∅;unfold tD lnW;generalize r.told=TT at *;generalize p:r.wds=WW at *;simp[y6,jk,JB,f,z,c,j,jp,itB,lt]
def V9{R:List Rw}(h:∀ r∈R,QX r)(hl:R.length<=1000):v7 [.lst false<|R.map tD]=some (.str<|ya [10]<|R.map lnW):=by
 have c:yP (jl [] 0) qT (jK y6 #[pV 0]) (R.map tD) [none]=some ((R.map lnW).map D.str):=by
  rw[U8];refine jL (en:=tD) rfl (λρ=>∃ o,ρ=[o]) ?_ ⟨none,rfl⟩;rintro x a ρ ⟨o,rfl⟩;refine⟨[some<|tD x],rfl,?_,_,rfl⟩;have e:=VV<|h x a;have b:frz (tD x)=true:=J8 _;have g:=yh _ b;generalize tD x=XX at *;simp[e,b,g]
 have f:frzs (R.map tD)=true:=vO λd hd=>by obtain⟨x,a,rfl⟩:=M5.mp hd;exact J8 _
 have z:=jg _ f;have j:qe [10] (R.map lnW)=true:=jok (λp i=>by obtain⟨x,a,rfl⟩:=M5.mp i;exact uz<|h x a) ⇑hl;have lt:lim (R.map tD).length=true:=jN ∅;generalize R.map tD=TT,R.map lnW=WW at *;simp[v7,jk,Yg,f,z,c,j,jp,lt]
def jcS{x:D}{b:List D}(a:frz x=true)(c:frzs b=true)(hl:b.length<=1000):jO (.tup [x]) (.tup b)=some (.tup<|x::b):=by
 have:=jb (n:=1+b.length) ∅;simp[jO,a,c,this]
def vj{α}{l:List α}{en:α->D}{g:α->Rw}(k:List Nat)(h:∀ x∈l,∃ t,en x=.tup t/\frzs t=true/\t.length<=900/\tD (g x)=.tup (.str k::t))(hl:l.length<=1000):
  yw [.str k,.lst false<|l.map en]=↑((l.map g).map tD):=by
 have c:yP (jl [] 0) qT (p2 jO (kC #[pF<|pV 1])<|pV 0) (l.map en) [none,some<|.str k]=some ((l.map g).map tD):=by
  rw[U8];refine jL (en:=en) rfl (λρ=>∃ o,ρ=[o,some<|.str k]) ?_ ⟨none,rfl⟩;rintro x a ρ ⟨o,rfl⟩;obtain⟨t,e,f,lt,e2⟩:=h x a;refine⟨[some<|en x,some<|.str k],rfl,?_,_,rfl⟩;have i:=jcS (x:=.str k) (b:=t) rfl f ∅;rw[e];show _=some (tD<|g x);rw[e2];simp[i,jb]
 have f:frzs (l.map en)=true:=vO λd hd=>by obtain⟨x,a,rfl⟩:=M5.mp hd;obtain⟨t,e,f,_⟩:=h x a;rw[e];exact f
 have z:=jg _ f;have lt:lim (l.map en).length=true:=jN ∅;generalize l.map en=TT at *;generalize(l.map g).map tD=WW at *;simp[yw,jk,YW,f,z,jp,lt,c]
def uy(k:List Nat)(ws:J2):tD (rwE k ws)=.tup (.str k::ws.map D.str):=by
 show D.tup (.str k::(ws.map Item.nm).map Item.enc)=_;rw[U8];rfl
def xL{C P O:J2}{t:Rl}(d:x5 C P O t \/ ∃ w,t=.two j0 w):yT [t.enc]=some (tD<|rwR t):=by
 cases t with
 | two k w=>
  have g:¬ k=jm:=by
   rcases d with(⟨rfl | rfl,_⟩ | ⟨rfl,_⟩ | ⟨rfl,_⟩) | ⟨j,e⟩
   all_goals first | decide | (cases e;decide)
  show yT [.tup [.str k,.str w]]=some (.tup [.str k,.str w]);have c:jf (.tup [.str k,.str w]) (.int 0)=some (.str k):=rfl;simp[yT,jk,Jd,c,U9.mpr g]
 | share a=>
  have l:a.length<=6:=by
   rcases d with h | ⟨j,h⟩
   ·exact h.2.1
   ·cases h
  have e:tD (rwR<|.share a)=.tup (.str jm::a.map D.str):=uy _ _;rw[e];have f:=jM a;have z:=jg _ f;have m:=jcS (x:=.str jm) (b:=a.map D.str) rfl f (by simp;lia);have c:jf (.tup [.str jm,.tup<|a.map D.str]) (.int 0)=some (.str jm):=rfl;have n:jf (.tup [.str jm,.tup<|a.map D.str]) (.int 1)=some (.tup<|a.map D.str):=rfl;have o:(Rl.share a).enc=.tup [.str jm,.tup<|a.map D.str]:=rfl;rw[o];generalize a.map D.str=WW at *;simp[yT,jk,Jd,f,z,c,n,m,jb]
 | lend w i=>
  show yT [.tup [.str yC,.str w,.int i]]=some (.tup [.str yC,.str w,.int i]);have c:jf (.tup [.str yC,.str w,.int i]) (.int 0)=some (.str yC):=rfl;simp[yT,jk,Jd,c]
def jje(r:Rw):frz (tD r)=true:=J8 r
def qc(R:List Rw):frzs (R.map tD)=true:=vO λd hd=>by obtain⟨x,_,rfl⟩:=M5.mp hd;exact jje x
def Qh{C P O:J2}{x:OrdS}(h:OrdOk C P O x):qu [yL false x]=↑((vf x).map tD):=by
 obtain⟨R,w,b,m,E,p⟩:=h.rl;have p6:=h.p6;have wf:=vj (l:=x.parts) (en:=e2) (g:=rwP) y8 (λc _=>⟨[.str c.1,.int c.2],rfl,rfl,by simp,rfl⟩) ∅;have i:∀ t∈R++[Rl.two j0 w],x5 C P O t \/ ∃ w,t=.two j0 w:=λt d=>(N4.mp d).elim (λz=>.inl<|p t z) λz=>.inr ⟨w,M8.mp z⟩;have a:=h.frzr;have j:=jg _ a;have c:yP (jl [] 0) qT (jK yT #[pV 0]) x.rules [none]=some (((R++[Rl.two j0 w]).map rwR).map tD):=by
  rw[b,U8];refine jL (en:=Rl.enc) rfl (λρ=>∃ o,ρ=[o]) ?_ ⟨none,rfl⟩;rintro t d ρ ⟨o,rfl⟩;refine⟨[some t.enc],rfl,?_,_,rfl⟩;have e:=xL<|i t d;have f:frz t.enc=true:=List.all_eq_true.mp ((kT x.rules).symm.trans a) _ (by rw[b];exact List.mem_map_of_mem d);have z:=yh _ f;generalize t.enc=TT at *;simp[e,f,z]
 have q:vf x=rwN jI x.nm::(x.parts.map rwP++(R++[Rl.two j0 w]).map rwR):=by
  unfold vf;rw[QH b]
 have F:x.rules.length<=9:=by rw[b];simp;lia
 have r:lim x.rules.length=true:=jb ∅;have s:jf (yL false x) (.int 0)=some (.str x.nm):=rfl;have u:jf (yL false x) (.int 1)=‹x.parts.map e2›:=rfl;have v:jf (yL false x) (.int 2)=‹x.rules›:=rfl;have k:=yA x.parts;have y:=jg _ k;have l1:((x.parts.map rwP).map tD).length<=6:=by simp;lia
 have G:(((R++[Rl.two j0 w]).map rwR).map tD).length<=9:=by simp;lia
 have A:=qc<|x.parts.map rwP;have B:=qc<|(R++[Rl.two j0 w]).map rwR;rw[q,L4,N7];show _=some (D.lst true<|.tup [.str jI,.str x.nm]::_);generalize(x.parts.map rwP).map tD=PP at *;generalize((R++[Rl.two j0 w]).map rwR).map tD=QQ at *;generalize x.parts.map e2=EE,x.rules=RR,yL false x=XX at *;show(qA [some XX,none]).bind Out.val=_;unfold qA;apply sqv (by simp[s,jb];rfl);apply sqv (by simp[Ke,u,k,y,wf,Y8,A,jb (n:=1+PP.length) ∅];rfl);apply sqv (by simp[Ke,v,a,j,r,jp,c,Y8,B,jb (n:=PP.length+1+QQ.length) ∅];rfl);simp
def jgM{C P O:J2}{X:List OrdS}(h:∀ x∈X,OrdOk C P O x):∀ x∈X,frz (yL false x)=true:=λx a=>List.all_eq_true.mp ((kT _).symm.trans (vm h)) _<|List.mem_map_of_mem a
theorem ze{C P O:J2}{a0:Option D}:∀{X:List OrdS}{A:List Rw}{o2},(∀ x∈X,OrdOk C P O x)->A.length+20*X.length<=8000->∃ o2',vH (jl [] 2) vZ (X.map<|yL false) [a0,↑(A.map tD),o2]=some (.nx [a0,↑((A++X.flatMap vf).map tD),o2'])
 | [],A,o2,_,_=>⟨o2,by simp⟩
 | x::X,A,o2,h,b=>by
  rw[M2] at b;have a:=h x (by simp);have:=Vv a;obtain⟨o2',e2⟩:=ze (a0:=a0) (X:=X) (A:=A++vf x) (o2:=some<|yL false x) (λy c=>h y<|by simp[c]) (by simp;lia);have d:vZ [a0,↑(A.map tD),some<|yL false x]=some (.nx [a0,↑((A++vf x).map tD),some<|yL false x]):=by
   have e:=Qh a;have f:=jgM h x (by simp);have z:=yh _ f;have fr:=qc<|vf x;have l:lim ((A.map tD).length+((vf x).map tD).length)=true:=jb (by simp;lia);rw[N7];generalize(vf x).map tD=RR at *;generalize A.map tD=AA,yL false x=XX at *;simp[vZ,Ke,e,f,z,Y8,fr,l]
  exact⟨o2',by rw[L4,lpE rfl d,List.flatMap_cons,<- List.append_assoc];exact e2⟩
def xt{O:J2}{p:PoolS}(h:PoolOk O p)(k:PoolK p):JU [vc false p]=↑((jX p).map tD):=by
 have t6:=k.t6;have m3:=k.m3;have e6:=k.e6;have o5:=k.o5;have l4:=k.l4;have g3:=k.g3;have u:=vj (l:=p.told) (en:=e3) (g:=rwC) yK (λc _=>⟨[.str c.1,.int c.2.1,.int c.2.2],rfl,rfl,by simp,rfl⟩) ∅;have v:=vj (l:=p.marks) (en:=e2) (g:=rwM) KP (λc _=>⟨[.str c.1,.int c.2],rfl,rfl,by simp,rfl⟩) ∅;have w:=vj (l:=p.looks) (en:=eL) (g:=rwL) vh (λc _=>⟨[.str c.1,.int c.2.1,.str c.2.2],rfl,rfl,by simp,rfl⟩) ∅;have y:=vj (l:=p.guards) (en:=eG) (g:=rwG) jU (λc _=>⟨[.str c.1,.str c.2],rfl,rfl,by simp,rfl⟩) ∅;have ol:=Vf h.orders;have j:=vQ p.told;have m:=yA p.marks;have o:=jM p.eats;have q:=vm h.orders;have r:=JK p.looks;have s:=qC p.guards;have z:=jg _ j;have B:=jg _ m;have C:=jg _ q;have E:=jg _ r;have F:=jg _ s;have G:jf (vc false p) (.int 0)=some (.str p.nm):=rfl;have H:jf (vc false p) (.int 1)=‹p.told.map e3›:=rfl;have I:jf (vc false p) (.int 2)=‹p.marks.map e2›:=rfl;have e:jf (vc false p) (.int 3)=‹p.eats.map D.str›:=rfl;have J:jf (vc false p) (.int 4)=‹p.orders.map (yL false)›:=rfl;have K:jf (vc false p) (.int 5)=‹p.looks.map eL›:=rfl;have L:jf (vc false p) (.int 6)=‹p.guards.map eG›:=rfl;have t:sIf (dPT<|jd<|p2 Y0 (pCB vg #[p2 jf (pV 0)<|pI 3])<|pI 0) (jaA 1<|p2 jO (kC #[pS [101,97,116]])<|pCB ki #[p2 jf (pV 0)<|pI 3]) jn [some<|vc false p,↑((yV p).map tD),none]=some (.nx [some<|vc false p,↑((yV p++VJ p).map tD),none]):=by
  have M:lim ((yV p).map tD).length=true:=jb (by unfold yV;simp;lia);by_cases a:p.eats=[]
  ·rw[show VJ p=[] from if_pos a,N0];rw[a] at e;simp[e]
  ·rw[show VJ p=[rwE qp p.eats] from if_neg a];have N:(0:Int)<((p.eats.map D.str).length:Nat):=by rw[L0];have:=List.length_pos_iff.mpr a;lia
   have P:=jcS (x:=.str qp) (b:=p.eats.map D.str) rfl o (by simp;lia);have Q:vg [.lst false<|p.eats.map D.str]=some (.int ((p.eats.map D.str).length:Nat)):=rfl;have f:¬ p.eats.map D.str=[]:=by simpa using a
   have R:ki [.lst false<|p.eats.map D.str]=some (.tup<|p.eats.map D.str):=by
    show(bif frzs (p.eats.map D.str) then some (D.tup<|p.eats.map D.str) else none)=_;rw[o];rfl
   rw[N7,List.map_singleton,uy];generalize(yV p).map tD=AA at *;generalize vc false p=PP,p.eats.map D.str=EE at *;simp[e,Q,N,P,M,jb,f,R]
 have Z:=Qk p;have S:(yV p).length<=10:=by unfold yV;simp;lia
 obtain⟨T,U⟩:=ze (a0:=some<|vc false p) (A:=yV p++VJ p) (o2:=none) h.orders (by simp only[N6];lia);have d:(jX p).map tD=(yV p++VJ p++p.orders.flatMap vf).map tD++(p.looks.map rwL).map tD++(p.guards.map rwG).map tD:=by
  unfold jX;simp only[N7]
 have i:(yV p).map tD=[.tup [.str yk,.str p.nm]]++(p.told.map rwC).map tD++(p.marks.map rwM).map tD:=by unfold yV;rw[L4,N7];rfl
 rw[d];rw[i] at t;have q1:((p.told.map rwC).map tD).length<=6:=by simp;lia
 have q2:((p.marks.map rwM).map tD).length<=3:=by simp;lia
 have q5:((p.looks.map rwL).map tD).length<=4:=by simp;lia
 have q6:((p.guards.map rwG).map tD).length<=3:=by simp;lia
 have q7:((yV p++VJ p++p.orders.flatMap vf).map tD).length<=200:=by simp only[L0,N6];lia
 have V:=qc<|p.told.map rwC;have W:=qc<|p.marks.map rwM;have X:=qc<|p.looks.map rwL;have Y:=qc<|p.guards.map rwG;generalize(yV p++VJ p++p.orders.flatMap vf).map tD=Z1 at *;generalize(yV p++VJ p).map tD=Z0 at *;generalize(p.told.map rwC).map tD=T1 at *;generalize(p.marks.map rwM).map tD=T2 at *;generalize(p.looks.map rwL).map tD=T5 at *;generalize(p.guards.map rwG).map tD=T6 at *;generalize p.told.map e3=U1,p.marks.map e2=U2,p.orders.map (yL false)=U4,p.looks.map eL=U5,p.guards.map eG=U6,vc false p=PP at *;show(JO [some PP,none,none]).bind Out.val=_;unfold JO;apply sqv (by simp[G,jb];rfl);apply sqv (by simp[Ke,H,j,z,u,Y8,V,jb (n:=1+T1.length) ∅];rfl);apply sqv (by simp[Ke,I,m,B,v,Y8,W,jb (n:=(1+T1.length)+T2.length) ∅,jb (n:=T1.length+1+T2.length) ∅];rfl);apply sqv ⇑t;apply sqv (by simp[J,q,C];exact U);apply sqv (by simp[Ke,K,r,E,w,Y8,X,jb (n:=Z1.length+T5.length) ∅];rfl);apply sqv (by simp[Ke,L,s,F,y,Y8,Y,jb (n:=Z1.length+T5.length+T6.length) ∅,jb (n:=Z1.length+(T5.length+T6.length)) ∅];rfl);simp
theorem KG{a0:Option D}:∀{Q:List PoolS}{A:List Rw}{o2},(∀ p∈Q,∃ X,PoolOk X p/\PoolK p)->A.length+130*Q.length<=900->∃ o2',vH (jl [] 2) vC (Q.map<|vc false) [a0,↑(A.map tD),o2]=some (.nx [a0,↑((A++Q.flatMap jX).map tD),o2'])
 | [],A,o2,_,_=>⟨o2,by simp⟩
 | p::Q,A,o2,h,c=>by
  rw[M2] at c;obtain⟨X,a,b⟩:=h p (by simp);have k:=V3 a b;obtain⟨o2',e⟩:=KG (a0:=a0) (Q:=Q) (A:=A++jX p) (o2:=some<|vc false p) (λq d=>h q<|by simp[d]) (by simp;lia);have f:=xt a b;have g:=a.fz false;have i:=a.frz;have fr:=qc<|jX p;have l1:lim ((A.map tD).length+((jX p).map tD).length)=true:=jb (by simp;lia);have j:vC [a0,↑(A.map tD),some<|vc false p]=some (.nx [a0,↑((A++jX p).map tD),some<|vc false p]):=by
   rw[N7];generalize(jX p).map tD=RR at *;generalize A.map tD=AA,vc false p=PP at *;simp[vC,Ke,g,i,f,l1,Y8,fr]
  exact⟨o2',by rw[L4,lpE rfl j,List.flatMap_cons,<- List.append_assoc];exact e⟩
def jdZ{Ps:List PoolS}(h:DealOk Ps)(c:∀ r∈Ps.flatMap jX,QX r)(hl:(Ps.flatMap jX).length<=780):ky [.lst false<|Ps.map<|vc false]=some (.str<|ya [10]<|(Ps.flatMap jX).map lnW):=by
 obtain⟨d,e⟩:=KG (a0:=‹Ps.map (vc false)›) (A:=[]) (o2:=none) (λp g=>by obtain⟨X,a,b,_⟩:=h.ok p g;exact⟨X,a,b⟩) (by have:=h.len2;simp;lia);rw[E4,List.map_nil] at e;have f:=Yv h;have z:=jg _ f;have j:=V9 c ∅;have fr:=qc<|Ps.flatMap jX;have i:=jg _ fr;generalize Ps.map (vc false)=PP at *;generalize(Ps.flatMap jX).map tD=RR at *;simp[ky,jk,Y1,f,z,e,jb,j,fr,i]
def jeQ{ns:List Int}(q:jaN ns):jay [.lst false<|ns.map D.int]=some (.bl true):=by
 obtain⟨H,W,e,_,s,hd⟩:=jhn q;have e2:=jeF hd;have j:(e.flatMap jX).length<=780:=by
  have a:=uQ (Q:=e) λp g=>by obtain⟨X,b,c,_⟩:=hd.ok p g;exact⟨X,b,c⟩
  have:=hd.len2
  lia
 have k:e.flatMap jX≠[]:=by
  have:=hd.len1;cases e with
  | nil=>simp at this
  | cons p Q=>rw[List.flatMap_cons];unfold jX yV;simp
 have i:=jc7 hd;have e3:=jdZ hd i j;have t:∀ p∈(e.flatMap jX).map (λr=>(lnW r,some r)),LineOk p:=λp g=>by obtain⟨r,h,rfl⟩:=M5.mp g;exact jde<|i r h
 have u:=jhC hd (T:=ya [10]<|(e.flatMap jX).map lnW) (L:=(e.flatMap jX).map λr=>(lnW r,some r)) (by
   rw[jai ⇑k λp g=>by obtain⟨r,h,rfl⟩:=M5.mp g;exact(jde<|i r h).no,U8];rfl)
  (by
   have a:=u4<|(e.flatMap jX).map lnW;have b:=uo (c:=200) (L:=(e.flatMap jX).map lnW) λp g=>by obtain⟨r,h,rfl⟩:=M5.mp g;exact uz<|i r h
   rw[L0] at a b
   lia) t (by rw[List.filterMap_map];exact List.filterMap_some) (by rw[L0];lia)
 have v:fzs (e.map Ql)=e.map (vc false):=Ku λp g=>by obtain⟨X,a,_⟩:=hd.ok p g;exact jmM a
 have w:yR [.lst false<|e.map<|vc false,.lst false<|e.map<|vc false]=some (.bl true):=jgj<|VM (kZ (n:=7) (by have:=hd.len2;lia) λp g=>by obtain⟨X,a,_⟩:=hd.ok p g;exact jjQ a) (by decide);have c:yP (jl [] 0) qT (pBM "str" J7 (pS [32]) #[pV 0]) ((e.flatMap jX).map (rD false)) [none]=some (((e.flatMap jX).map lnW).map D.str):=by
  rw[U8];refine jL (en:=rD false) rfl (λρ=>∃ o,ρ=[o]) ?_ ⟨none,rfl⟩;rintro r h ρ ⟨o,rfl⟩;refine⟨[some<|rD false r],rfl,?_,_,rfl⟩;have l:J7 (.str [32]) [rD false r]=some (.str<|lnW r):=by
   show J7 (.str [32]) [.lst false<|r.wds.map D.str]=_;rw[Qy,kQ,L3,jwd<|i r h];rfl
  have f:=jfT r;have z:=yh _ f;generalize rD false r=RR at *;simp[l,f,z,-Qy]
 have l:J7 (.str [10]) [.lst true<|((e.flatMap jX).map lnW).map D.str]=some (.str<|ya [10]<|(e.flatMap jX).map lnW):=by
  rw[Qy,kQ,L3,jok (λp g=>by obtain⟨r,h,rfl⟩:=M5.mp g;exact uz<|i r h)<|by rw[L0];lia];rfl
 have y:fzs ((e.flatMap jX).map (rD true))=(e.flatMap jX).map (rD false):=Ku λr _=>jnL true r;have m:=Yv hd;have A:=jg _ m;have B:=JI ns;have C:=jcM ns;have E:lim ((e.flatMap jX).map (rD false)).length=true:=jN ∅;have F:frzs ((e.flatMap jX).map (rD false))=true:=vO λd hd=>by obtain⟨x,_,rfl⟩:=M5.mp hd;exact jfT x
 generalize(e.flatMap jX).map (rD true)=R1 at *;generalize(e.flatMap jX).map (rD false)=R2 at *;generalize((e.flatMap jX).map lnW).map D.str=R3 at *;generalize ya [10] ((e.flatMap jX).map lnW)=T,e.map (vc false)=P1,e.map Ql=P2,ns.map D.int=NS at *;have G:Q2 "str" "str" = true:=by decide
 simp[jay,jk,jld,s,e2,e3,u,w,v,y,m,A,B,C,jp,c,l,E,F,G,-Qy]
end K06
set_option maxHeartbeats 0
namespace K06
open PySem L2 QD
def clF(a b c:Addr):Nat->Addr
 | 0=>a
 | 1=>b
 | _=>c
def kr_NAME_COUNTS{P:Program}{w:World}{K:J4}{jH b_NAME_COUNTS_0 b_NAME_COUNTS_1:Addr}{a b:Tok}{c:Nat}(d:K.lookup jH=some {cls:=.type "dict",data:=.dict (List.toArray [⟨PyData.keyHash w.params "eat",.str "eat" a,.ref b_NAME_COUNTS_0⟩,⟨PyData.keyHash w.params "share",.str "share" b,.ref b_NAME_COUNTS_1⟩]) c})(e:(jH==sysModules)=false):KD P w K jH ((ks_NAME_COUNTS.map kaV).zip [.ref b_NAME_COUNTS_0,.ref b_NAME_COUNTS_1]):=jcf (xs:=["eat","share"]) (ts:=[a,b]) (us:=[.ref b_NAME_COUNTS_0,.ref b_NAME_COUNTS_1]) (vs:=[.ref b_NAME_COUNTS_0,.ref b_NAME_COUNTS_1]) (by decide +kernel) d e rfl rfl (.cons rfl<|.cons rfl .nil) (by decide +kernel)
def rr_NAME_COUNTS{K:J4}{b_NAME_COUNTS_0 b_NAME_COUNTS_1:Addr}{a b c d:Tok}{e f:Nat}{g h:Array (Option Value)}(i:K.lookup b_NAME_COUNTS_0=some ⟨.type "tuple",none,.seq (List.toArray [.int 1 a,.int 6 b]) e,g⟩)(j:K.lookup b_NAME_COUNTS_1=some ⟨.type "tuple",none,.seq (List.toArray [.int 2 c,.int 6 d]) f,h⟩):∀(cl:Nat->Addr) (Z:Zn) (H:Hp),Reps ⟨K,cl⟩ Z H v8 [.ref b_NAME_COUNTS_0,.ref b_NAME_COUNTS_1] []:=(λcl Z H=>(.cons (O:=[]) (P:=[]) ((λcl Z H=>xb (ns:=[1,6]) (ts:=[a,b]) i rfl (by decide) cl Z H) cl Z H)<|.cons (O:=[]) (P:=[]) ((λcl Z H=>xb (ns:=[2,6]) (ts:=[c,d]) j rfl (by decide) cl Z H) cl Z H) .empty))
def kr_FORMS{P:Program}{w:World}{K:J4}{vR b_FORMS_0 b_FORMS_1 b_FORMS_2 b_FORMS_3 b_FORMS_4 b_FORMS_5 b_FORMS_6 b_FORMS_7 b_FORMS_8 b_FORMS_9 b_FORMS_10 b_FORMS_11 b_FORMS_12:Addr}{d e a b c f g h i j k l m:Tok}{n:Nat}(o:K.lookup vR=some {cls:=.type "dict",data:=.dict (List.toArray [⟨PyData.keyHash w.params "pool",.str "pool" d,.ref b_FORMS_0⟩,⟨PyData.keyHash w.params "claim",.str "claim" e,.ref b_FORMS_1⟩,⟨PyData.keyHash w.params "pot",.str "pot" f,.ref b_FORMS_2⟩,⟨PyData.keyHash w.params "order",.str "order" g,.ref b_FORMS_3⟩,⟨PyData.keyHash w.params "part",.str "part" h,.ref b_FORMS_4⟩,⟨PyData.keyHash w.params "pay",.str "pay" i,.ref b_FORMS_5⟩,⟨PyData.keyHash w.params "repay",.str "repay" j,.ref b_FORMS_6⟩,⟨PyData.keyHash w.params "fill",.str "fill" k,.ref b_FORMS_7⟩,⟨PyData.keyHash w.params "lend",.str "lend" l,.ref b_FORMS_8⟩,⟨PyData.keyHash w.params "back",.str "back" m,.ref b_FORMS_9⟩,⟨PyData.keyHash w.params "rest",.str "rest" a,.ref b_FORMS_10⟩,⟨PyData.keyHash w.params "look",.str "look" b,.ref b_FORMS_11⟩,⟨PyData.keyHash w.params "guard",.str "guard" c,.ref b_FORMS_12⟩]) n})(p:(vR==sysModules)=false):KD P w K vR ((ks_FORMS.map kaV).zip [.ref b_FORMS_0,.ref b_FORMS_1,.ref b_FORMS_2,.ref b_FORMS_3,.ref b_FORMS_4,.ref b_FORMS_5,.ref b_FORMS_6,.ref b_FORMS_7,.ref b_FORMS_8,.ref b_FORMS_9,.ref b_FORMS_10,.ref b_FORMS_11,.ref b_FORMS_12]):=jcf (xs:=["pool","claim","pot","order","part","pay","repay","fill","lend","back","rest","look","guard"]) (ts:=[d,e,f,g,h,i,j,k,l,m,a,b,c]) (us:=[.ref b_FORMS_0,.ref b_FORMS_1,.ref b_FORMS_2,.ref b_FORMS_3,.ref b_FORMS_4,.ref b_FORMS_5,.ref b_FORMS_6,.ref b_FORMS_7,.ref b_FORMS_8,.ref b_FORMS_9,.ref b_FORMS_10,.ref b_FORMS_11,.ref b_FORMS_12]) (vs:=[.ref b_FORMS_0,.ref b_FORMS_1,.ref b_FORMS_2,.ref b_FORMS_3,.ref b_FORMS_4,.ref b_FORMS_5,.ref b_FORMS_6,.ref b_FORMS_7,.ref b_FORMS_8,.ref b_FORMS_9,.ref b_FORMS_10,.ref b_FORMS_11,.ref b_FORMS_12]) (by decide +kernel) o p rfl rfl (.cons rfl<|.cons rfl<|.cons rfl<|.cons rfl<|.cons rfl<|.cons rfl<|.cons rfl<|.cons rfl<|.cons rfl<|.cons rfl<|.cons rfl<|.cons rfl<|.cons rfl .nil) (by decide +kernel)
def rr_FORMS{K:J4}{b_FORMS_0 b_FORMS_1 b_FORMS_2 b_FORMS_3 b_FORMS_4 b_FORMS_5 b_FORMS_6 b_FORMS_7 b_FORMS_8 b_FORMS_9 b_FORMS_10 b_FORMS_11 b_FORMS_12:Addr}{g a b c d e f h i j k l m n o p q r s t u:Tok}{B v w x C D E F G I J L M:Nat}{N y z A Q R S T U V X Y b_FORMS_9_s:Array (Option Value)}(we:K.lookup b_FORMS_0=some ⟨.type "tuple",none,.seq (List.toArray [.str "name" g]) B,N⟩)(ue:K.lookup b_FORMS_1=some ⟨.type "tuple",none,.seq (List.toArray [.str "name" h,.str "coins" i,.str "coins" j]) C,Q⟩)(xO:K.lookup b_FORMS_2=some ⟨.type "tuple",none,.seq (List.toArray [.str "name" k,.str "coins" l]) D,R⟩)(xS:K.lookup b_FORMS_3=some ⟨.type "tuple",none,.seq (List.toArray [.str "name" m]) E,S⟩)(wj:K.lookup b_FORMS_4=some ⟨.type "tuple",none,.seq (List.toArray [.str "name" n,.str "tenths" o]) F,T⟩)(wW:K.lookup b_FORMS_5=some ⟨.type "tuple",none,.seq (List.toArray [.str "name" p]) G,U⟩)(x4:K.lookup b_FORMS_6=some ⟨.type "tuple",none,.seq (List.toArray [.str "name" q]) I,V⟩)(wU:K.lookup b_FORMS_7=some ⟨.type "tuple",none,.seq (List.toArray [.str "name" r]) J,X⟩)(wc:K.lookup b_FORMS_8=some ⟨.type "tuple",none,.seq (List.toArray [.str "name" s,.str "coins" t]) L,Y⟩)(wt:K.lookup b_FORMS_9=some ⟨.type "tuple",none,.seq (List.toArray [.str "name" u]) M,b_FORMS_9_s⟩)(zq:K.lookup b_FORMS_10=some ⟨.type "tuple",none,.seq (List.toArray [.str "name" a]) v,y⟩)(Q9:K.lookup b_FORMS_11=some ⟨.type "tuple",none,.seq (List.toArray [.str "name" b,.str "days" c,.str "name" d]) w,z⟩)(Q6:K.lookup b_FORMS_12=some ⟨.type "tuple",none,.seq (List.toArray [.str "name" e,.str "name" f]) x,A⟩):∀(cl:Nat->Addr) (Z:Zn) (H:Hp),Reps ⟨K,cl⟩ Z H wS [.ref b_FORMS_0,.ref b_FORMS_1,.ref b_FORMS_2,.ref b_FORMS_3,.ref b_FORMS_4,.ref b_FORMS_5,.ref b_FORMS_6,.ref b_FORMS_7,.ref b_FORMS_8,.ref b_FORMS_9,.ref b_FORMS_10,.ref b_FORMS_11,.ref b_FORMS_12] []:=(λcl Z H=>(.cons (O:=[]) (P:=[]) ((λcl Z H=>j6 (xs:=["name"]) (ts:=[g]) (ws:=[[110,97,109,101]]) (by decide +kernel) we rfl (by decide) cl Z H) cl Z H)<|.cons (O:=[]) (P:=[]) ((λcl Z H=>j6 (xs:=["name","coins","coins"]) (ts:=[h,i,j]) (ws:=[[110,97,109,101],[99,111,105,110,115],[99,111,105,110,115]]) (by decide +kernel) ue rfl (by decide) cl Z H) cl Z H)<|.cons (O:=[]) (P:=[]) ((λcl Z H=>j6 (xs:=["name","coins"]) (ts:=[k,l]) (ws:=[[110,97,109,101],[99,111,105,110,115]]) (by decide +kernel) xO rfl (by decide) cl Z H) cl Z H)<|.cons (O:=[]) (P:=[]) ((λcl Z H=>j6 (xs:=["name"]) (ts:=[m]) (ws:=[[110,97,109,101]]) (by decide +kernel) xS rfl (by decide) cl Z H) cl Z H)<|.cons (O:=[]) (P:=[]) ((λcl Z H=>j6 (xs:=["name","tenths"]) (ts:=[n,o]) (ws:=[[110,97,109,101],[116,101,110,116,104,115]]) (by decide +kernel) wj rfl (by decide) cl Z H) cl Z H)<|.cons (O:=[]) (P:=[]) ((λcl Z H=>j6 (xs:=["name"]) (ts:=[p]) (ws:=[[110,97,109,101]]) (by decide +kernel) wW rfl (by decide) cl Z H) cl Z H)<|.cons (O:=[]) (P:=[]) ((λcl Z H=>j6 (xs:=["name"]) (ts:=[q]) (ws:=[[110,97,109,101]]) (by decide +kernel) x4 rfl (by decide) cl Z H) cl Z H)<|.cons (O:=[]) (P:=[]) ((λcl Z H=>j6 (xs:=["name"]) (ts:=[r]) (ws:=[[110,97,109,101]]) (by decide +kernel) wU rfl (by decide) cl Z H) cl Z H)<|.cons (O:=[]) (P:=[]) ((λcl Z H=>j6 (xs:=["name","coins"]) (ts:=[s,t]) (ws:=[[110,97,109,101],[99,111,105,110,115]]) (by decide +kernel) wc rfl (by decide) cl Z H) cl Z H)<|.cons (O:=[]) (P:=[]) ((λcl Z H=>j6 (xs:=["name"]) (ts:=[u]) (ws:=[[110,97,109,101]]) (by decide +kernel) wt rfl (by decide) cl Z H) cl Z H)<|.cons (O:=[]) (P:=[]) ((λcl Z H=>j6 (xs:=["name"]) (ts:=[a]) (ws:=[[110,97,109,101]]) (by decide +kernel) zq rfl (by decide) cl Z H) cl Z H)<|.cons (O:=[]) (P:=[]) ((λcl Z H=>j6 (xs:=["name","days","name"]) (ts:=[b,c,d]) (ws:=[[110,97,109,101],[100,97,121,115],[110,97,109,101]]) (by decide +kernel) Q9 rfl (by decide) cl Z H) cl Z H)<|.cons (O:=[]) (P:=[]) ((λcl Z H=>j6 (xs:=["name","name"]) (ts:=[e,f]) (ws:=[[110,97,109,101],[110,97,109,101]]) (by decide +kernel) Q6 rfl (by decide) cl Z H) cl Z H) .empty))
def kr_STAGES{P:Program}{w:World}{K:J4}{va:Addr}{i j a b c d k l m n o p q r s t e f g h u v x y z A B C:Tok}{D:Nat}(E:K.lookup va=some {cls:=.type "dict",data:=.dict (List.toArray [⟨PyData.keyHash w.params "claim",.str "claim" i,.int 1 s⟩,⟨PyData.keyHash w.params "pot",.str "pot" j,.int 2 t⟩,⟨PyData.keyHash w.params "eat",.str "eat" k,.int 3 u⟩,⟨PyData.keyHash w.params "order",.str "order" l,.int 4 v⟩,⟨PyData.keyHash w.params "part",.str "part" m,.int 4 x⟩,⟨PyData.keyHash w.params "pay",.str "pay" n,.int 4 y⟩,⟨PyData.keyHash w.params "share",.str "share" o,.int 4 z⟩,⟨PyData.keyHash w.params "repay",.str "repay" p,.int 4 A⟩,⟨PyData.keyHash w.params "fill",.str "fill" q,.int 4 B⟩,⟨PyData.keyHash w.params "lend",.str "lend" r,.int 4 C⟩,⟨PyData.keyHash w.params "back",.str "back" a,.int 4 e⟩,⟨PyData.keyHash w.params "rest",.str "rest" b,.int 4 f⟩,⟨PyData.keyHash w.params "look",.str "look" c,.int 5 g⟩,⟨PyData.keyHash w.params "guard",.str "guard" d,.int 6 h⟩]) D})(F:(va==sysModules)=false):KD P w K va ((ks_STAGES.map kaV).zip [.int 1,.int 2,.int 3,.int 4,.int 4,.int 4,.int 4,.int 4,.int 4,.int 4,.int 4,.int 4,.int 5,.int 6]):=jcf (xs:=["claim","pot","eat","order","part","pay","share","repay","fill","lend","back","rest","look","guard"]) (ts:=[i,j,k,l,m,n,o,p,q,r,a,b,c,d]) (us:=[.int 1 s,.int 2 t,.int 3 u,.int 4 v,.int 4 x,.int 4 y,.int 4 z,.int 4 A,.int 4 B,.int 4 C,.int 4 e,.int 4 f,.int 5 g,.int 6 h]) (vs:=[.int 1,.int 2,.int 3,.int 4,.int 4,.int 4,.int 4,.int 4,.int 4,.int 4,.int 4,.int 4,.int 5,.int 6]) (by decide +kernel) E F rfl rfl (.cons ⟨_,rfl⟩<|.cons ⟨_,rfl⟩<|.cons ⟨_,rfl⟩<|.cons ⟨_,rfl⟩<|.cons ⟨_,rfl⟩<|.cons ⟨_,rfl⟩<|.cons ⟨_,rfl⟩<|.cons ⟨_,rfl⟩<|.cons ⟨_,rfl⟩<|.cons ⟨_,rfl⟩<|.cons ⟨_,rfl⟩<|.cons ⟨_,rfl⟩<|.cons ⟨_,rfl⟩<|.cons ⟨_,rfl⟩ .nil) (by decide +kernel)
def rr_STAGES{K:J4}  : ∀(cl:Nat->Addr) (Z:Zn) (H:Hp),Reps ⟨K,cl⟩ Z H yW [.int 1,.int 2,.int 3,.int 4,.int 4,.int 4,.int 4,.int 4,.int 4,.int 4,.int 4,.int 4,.int 5,.int 6] []:=(λcl Z H=>(.cons (O:=[]) (P:=[]) .int_mk<|.cons (O:=[]) (P:=[]) .int_mk<|.cons (O:=[]) (P:=[]) .int_mk<|.cons (O:=[]) (P:=[]) .int_mk<|.cons (O:=[]) (P:=[]) .int_mk<|.cons (O:=[]) (P:=[]) .int_mk<|.cons (O:=[]) (P:=[]) .int_mk<|.cons (O:=[]) (P:=[]) .int_mk<|.cons (O:=[]) (P:=[]) .int_mk<|.cons (O:=[]) (P:=[]) .int_mk<|.cons (O:=[]) (P:=[]) .int_mk<|.cons (O:=[]) (P:=[]) .int_mk<|.cons (O:=[]) (P:=[]) .int_mk<|.cons (O:=[]) (P:=[]) .int_mk .empty))
def kr_KEYWORDS{K:J4}{yE:Addr}{a b c d e f g h i j k l m n o p q r s t:Tok}{u:Nat}{v:Array (Option Value)}(w:K.lookup yE=some ⟨.type "tuple",none,.seq (List.toArray [.str "pool" a,.str "claim" b,.str "pot" c,.str "eat" d,.str "order" e,.str "part" f,.str "pay" g,.str "share" h,.str "repay" i,.str "fill" j,.str "lend" k,.str "back" l,.str "rest" m,.str "look" n,.str "guard" o,.str "debt" p,.str "on" q,.str "late" r,.str "early" s,.str "quit" t]) u,v⟩):∀(cl:Nat->Addr) (Z:Zn) (H:Hp),Rep ⟨K,cl⟩ Z H Je (.ref yE) []:=(λcl Z H=>j6 (xs:=["pool","claim","pot","eat","order","part","pay","share","repay","fill","lend","back","rest","look","guard","debt","on","late","early","quit"]) (ts:=[a,b,c,d,e,f,g,h,i,j,k,l,m,n,o,p,q,r,s,t]) (ws:=[[112,111,111,108],[99,108,97,105,109],[112,111,116],[101,97,116],[111,114,100,101,114],[112,97,114,116],[112,97,121],[115,104,97,114,101],[114,101,112,97,121],[102,105,108,108],[108,101,110,100],[98,97,99,107],[114,101,115,116],[108,111,111,107],[103,117,97,114,100],[100,101,98,116],[111,110],[108,97,116,101],[101,97,114,108,121],[113,117,105,116]]) (by decide +kernel) w rfl (by decide) cl Z H)
def kr_MOST{P:Program}{w:World}{K:J4}{qg:Addr}{a b c d e f g h i j k l m n:Tok}{o:Nat}(p:K.lookup qg=some {cls:=.type "dict",data:=.dict (List.toArray [⟨PyData.keyHash w.params "pool",.str "pool" a,.int 6 h⟩,⟨PyData.keyHash w.params "claim",.str "claim" b,.int 6 i⟩,⟨PyData.keyHash w.params "pot",.str "pot" c,.int 3 j⟩,⟨PyData.keyHash w.params "order",.str "order" d,.int 5 k⟩,⟨PyData.keyHash w.params "part",.str "part" e,.int 6 l⟩,⟨PyData.keyHash w.params "look",.str "look" f,.int 4 m⟩,⟨PyData.keyHash w.params "guard",.str "guard" g,.int 3 n⟩]) o})(q:(qg==sysModules)=false):KD P w K qg ((ks_MOST.map kaV).zip [.int 6,.int 6,.int 3,.int 5,.int 6,.int 4,.int 3]):=jcf (xs:=["pool","claim","pot","order","part","look","guard"]) (ts:=[a,b,c,d,e,f,g]) (us:=[.int 6 h,.int 6 i,.int 3 j,.int 5 k,.int 6 l,.int 4 m,.int 3 n]) (vs:=[.int 6,.int 6,.int 3,.int 5,.int 6,.int 4,.int 3]) (by decide +kernel) p q rfl rfl (.cons ⟨_,rfl⟩<|.cons ⟨_,rfl⟩<|.cons ⟨_,rfl⟩<|.cons ⟨_,rfl⟩<|.cons ⟨_,rfl⟩<|.cons ⟨_,rfl⟩<|.cons ⟨_,rfl⟩ .nil) (by decide +kernel)
def rr_MOST{K:J4}  : ∀(cl:Nat->Addr) (Z:Zn) (H:Hp),Reps ⟨K,cl⟩ Z H Ko [.int 6,.int 6,.int 3,.int 5,.int 6,.int 4,.int 3] []:=(λcl Z H=>(.cons (O:=[]) (P:=[]) .int_mk<|.cons (O:=[]) (P:=[]) .int_mk<|.cons (O:=[]) (P:=[]) .int_mk<|.cons (O:=[]) (P:=[]) .int_mk<|.cons (O:=[]) (P:=[]) .int_mk<|.cons (O:=[]) (P:=[]) .int_mk<|.cons (O:=[]) (P:=[]) .int_mk .empty))
def kr_RULES{K:J4}{kG:Addr}{d e f g h i j:Tok}{a:Nat}{b:Array (Option Value)}(c:K.lookup kG=some ⟨.type "tuple",none,.seq (List.toArray [.str "pay" d,.str "share" e,.str "repay" f,.str "fill" g,.str "lend" h,.str "back" i,.str "rest" j]) a,b⟩):∀(cl:Nat->Addr) (Z:Zn) (H:Hp),Rep ⟨K,cl⟩ Z H VZ (.ref kG) []:=(λcl Z H=>j6 (xs:=["pay","share","repay","fill","lend","back","rest"]) (ts:=[d,e,f,g,h,i,j]) (ws:=[[112,97,121],[115,104,97,114,101],[114,101,112,97,121],[102,105,108,108],[108,101,110,100],[98,97,99,107],[114,101,115,116]]) (by decide +kernel) c rfl (by decide) cl Z H)
def kr_GREATEST{P:Program}{w:World}{K:J4}{yb:Addr}{a b c d e f g h i j:Tok}{k:Nat}(l:K.lookup yb=some {cls:=.type "dict",data:=.dict (List.toArray [⟨PyData.keyHash w.params "coins",.str "coins" a,.int 1000000000000 f⟩,⟨PyData.keyHash w.params "tenths",.str "tenths" b,.int 10 g⟩,⟨PyData.keyHash w.params "days",.str "days" c,.int 9 h⟩,⟨PyData.keyHash w.params "day",.str "day" d,.int 60 i⟩,⟨PyData.keyHash w.params "by",.str "by" e,.int 30 j⟩]) k})(m:(yb==sysModules)=false):KD P w K yb ((ks_GREATEST.map kaV).zip [.int 1000000000000,.int 10,.int 9,.int 60,.int 30]):=jcf (xs:=["coins","tenths","days","day","by"]) (ts:=[a,b,c,d,e]) (us:=[.int 1000000000000 f,.int 10 g,.int 9 h,.int 60 i,.int 30 j]) (vs:=[.int 1000000000000,.int 10,.int 9,.int 60,.int 30]) (by decide +kernel) l m rfl rfl (.cons ⟨_,rfl⟩<|.cons ⟨_,rfl⟩<|.cons ⟨_,rfl⟩<|.cons ⟨_,rfl⟩<|.cons ⟨_,rfl⟩ .nil) (by decide +kernel)
def rr_GREATEST{K:J4}  : ∀(cl:Nat->Addr) (Z:Zn) (H:Hp),Reps ⟨K,cl⟩ Z H Jm [.int 1000000000000,.int 10,.int 9,.int 60,.int 30] []:=(λcl Z H=>(.cons (O:=[]) (P:=[]) .int_mk<|.cons (O:=[]) (P:=[]) .int_mk<|.cons (O:=[]) (P:=[]) .int_mk<|.cons (O:=[]) (P:=[]) .int_mk<|.cons (O:=[]) (P:=[]) .int_mk .empty))
def all_mk{l:PySem.W.OpenLaw}{w:World}{K:J4}{mg:K6}{fa a0 a1 a2 jH b_NAME_COUNTS_0 b_NAME_COUNTS_1 vR b_FORMS_0 b_FORMS_1 b_FORMS_2 b_FORMS_3 b_FORMS_4 b_FORMS_5 b_FORMS_6 b_FORMS_7 b_FORMS_8 b_FORMS_9 b_FORMS_10 b_FORMS_11 b_FORMS_12 va yE qg kG yb:Addr}{t_LONGEST_NAME t_LETTERS t_LONGEST_NUMBER t_FIGURES t_MOST_RULES NAME_COUNTS_k0 NAME_COUNTS_k1 FORMS_k0 FORMS_k1 FORMS_k2 FORMS_k3 FORMS_k4 FORMS_k5 FORMS_k6 FORMS_k7 FORMS_k8 FORMS_k9 FORMS_k10 FORMS_k11 FORMS_k12 STAGES_k0 STAGES_u0 STAGES_k1 STAGES_u1 STAGES_k2 STAGES_u2 STAGES_k3 STAGES_u3 STAGES_k4 STAGES_u4 STAGES_k5 STAGES_u5 STAGES_k6 STAGES_u6 STAGES_k7 STAGES_u7 STAGES_k8 STAGES_u8 STAGES_k9 STAGES_u9 STAGES_k10 STAGES_u10 STAGES_k11 STAGES_u11 STAGES_k12 STAGES_u12 STAGES_k13 STAGES_u13 MOST_k0 MOST_u0 MOST_k1 MOST_u1 MOST_k2 MOST_u2 MOST_k3 MOST_u3 MOST_k4 MOST_u4 MOST_k5 MOST_u5 MOST_k6 MOST_u6 GREATEST_k0 GREATEST_u0 GREATEST_k1 GREATEST_u1 GREATEST_k2 GREATEST_u2 GREATEST_k3 GREATEST_u3 GREATEST_k4 GREATEST_u4:Tok}{NAME_COUNTS_ep FORMS_ep STAGES_ep MOST_ep GREATEST_ep:Nat}(hfa:mg "law" = some (.ref fa))(_:PySem.W.nsIn K mainGlobals "OrderDraft" = some (some<|.ref a0))(_:PySem.W.nsIn K mainGlobals "PoolDraft" = some (some<|.ref a1))(_:PySem.W.nsIn K mainGlobals "DealDraft" = some (some<|.ref a2))
  (_:PySem.W.nsIn K mainGlobals "NAME_COUNTS" = some (some<|.ref jH))
  (_:K.lookup jH=some {cls:=.type "dict",data:=.dict (List.toArray [⟨PyData.keyHash w.params "eat",.str "eat" NAME_COUNTS_k0,.ref b_NAME_COUNTS_0⟩,⟨PyData.keyHash w.params "share",.str "share" NAME_COUNTS_k1,.ref b_NAME_COUNTS_1⟩]) NAME_COUNTS_ep})
  (_:PySem.W.nsIn K mainGlobals "FORMS" = some (some<|.ref vR))
  (_:K.lookup vR=some {cls:=.type "dict",data:=.dict (List.toArray [⟨PyData.keyHash w.params "pool",.str "pool" FORMS_k0,.ref b_FORMS_0⟩,⟨PyData.keyHash w.params "claim",.str "claim" FORMS_k1,.ref b_FORMS_1⟩,⟨PyData.keyHash w.params "pot",.str "pot" FORMS_k2,.ref b_FORMS_2⟩,⟨PyData.keyHash w.params "order",.str "order" FORMS_k3,.ref b_FORMS_3⟩,⟨PyData.keyHash w.params "part",.str "part" FORMS_k4,.ref b_FORMS_4⟩,⟨PyData.keyHash w.params "pay",.str "pay" FORMS_k5,.ref b_FORMS_5⟩,⟨PyData.keyHash w.params "repay",.str "repay" FORMS_k6,.ref b_FORMS_6⟩,⟨PyData.keyHash w.params "fill",.str "fill" FORMS_k7,.ref b_FORMS_7⟩,⟨PyData.keyHash w.params "lend",.str "lend" FORMS_k8,.ref b_FORMS_8⟩,⟨PyData.keyHash w.params "back",.str "back" FORMS_k9,.ref b_FORMS_9⟩,⟨PyData.keyHash w.params "rest",.str "rest" FORMS_k10,.ref b_FORMS_10⟩,⟨PyData.keyHash w.params "look",.str "look" FORMS_k11,.ref b_FORMS_11⟩,⟨PyData.keyHash w.params "guard",.str "guard" FORMS_k12,.ref b_FORMS_12⟩]) FORMS_ep})
  (_:PySem.W.nsIn K mainGlobals "STAGES" = some (some<|.ref va))
  (_:K.lookup va=some {cls:=.type "dict",data:=.dict (List.toArray [⟨PyData.keyHash w.params "claim",.str "claim" STAGES_k0,.int 1 STAGES_u0⟩,⟨PyData.keyHash w.params "pot",.str "pot" STAGES_k1,.int 2 STAGES_u1⟩,⟨PyData.keyHash w.params "eat",.str "eat" STAGES_k2,.int 3 STAGES_u2⟩,⟨PyData.keyHash w.params "order",.str "order" STAGES_k3,.int 4 STAGES_u3⟩,⟨PyData.keyHash w.params "part",.str "part" STAGES_k4,.int 4 STAGES_u4⟩,⟨PyData.keyHash w.params "pay",.str "pay" STAGES_k5,.int 4 STAGES_u5⟩,⟨PyData.keyHash w.params "share",.str "share" STAGES_k6,.int 4 STAGES_u6⟩,⟨PyData.keyHash w.params "repay",.str "repay" STAGES_k7,.int 4 STAGES_u7⟩,⟨PyData.keyHash w.params "fill",.str "fill" STAGES_k8,.int 4 STAGES_u8⟩,⟨PyData.keyHash w.params "lend",.str "lend" STAGES_k9,.int 4 STAGES_u9⟩,⟨PyData.keyHash w.params "back",.str "back" STAGES_k10,.int 4 STAGES_u10⟩,⟨PyData.keyHash w.params "rest",.str "rest" STAGES_k11,.int 4 STAGES_u11⟩,⟨PyData.keyHash w.params "look",.str "look" STAGES_k12,.int 5 STAGES_u12⟩,⟨PyData.keyHash w.params "guard",.str "guard" STAGES_k13,.int 6 STAGES_u13⟩]) STAGES_ep})
  (_:PySem.W.nsIn K mainGlobals "LONGEST_NAME" = some (some<|.int 8 t_LONGEST_NAME))
  (_:PySem.W.nsIn K mainGlobals "KEYWORDS" = some (some<|.ref yE))
  (_:PySem.W.nsIn K mainGlobals "LETTERS" = some (some<|.str "abcdefghijklmnopqrstuvwxyz" t_LETTERS))
  (_:PySem.W.nsIn K mainGlobals "LONGEST_NUMBER" = some (some<|.int 13 t_LONGEST_NUMBER))
  (_:PySem.W.nsIn K mainGlobals "FIGURES" = some (some<|.str "0123456789" t_FIGURES))
  (_:PySem.W.nsIn K mainGlobals "MOST" = some (some<|.ref qg))
  (_:K.lookup qg=some {cls:=.type "dict",data:=.dict (List.toArray [⟨PyData.keyHash w.params "pool",.str "pool" MOST_k0,.int 6 MOST_u0⟩,⟨PyData.keyHash w.params "claim",.str "claim" MOST_k1,.int 6 MOST_u1⟩,⟨PyData.keyHash w.params "pot",.str "pot" MOST_k2,.int 3 MOST_u2⟩,⟨PyData.keyHash w.params "order",.str "order" MOST_k3,.int 5 MOST_u3⟩,⟨PyData.keyHash w.params "part",.str "part" MOST_k4,.int 6 MOST_u4⟩,⟨PyData.keyHash w.params "look",.str "look" MOST_k5,.int 4 MOST_u5⟩,⟨PyData.keyHash w.params "guard",.str "guard" MOST_k6,.int 3 MOST_u6⟩]) MOST_ep})
  (_:PySem.W.nsIn K mainGlobals "RULES" = some (some<|.ref kG))
  (_:PySem.W.nsIn K mainGlobals "MOST_RULES" = some (some<|.int 8 t_MOST_RULES))
  (_:PySem.W.nsIn K mainGlobals "GREATEST" = some (some<|.ref yb))
  (_:K.lookup yb=some {cls:=.type "dict",data:=.dict (List.toArray [⟨PyData.keyHash w.params "coins",.str "coins" GREATEST_k0,.int 1000000000000 GREATEST_u0⟩,⟨PyData.keyHash w.params "tenths",.str "tenths" GREATEST_k1,.int 10 GREATEST_u1⟩,⟨PyData.keyHash w.params "days",.str "days" GREATEST_k2,.int 9 GREATEST_u2⟩,⟨PyData.keyHash w.params "day",.str "day" GREATEST_k3,.int 60 GREATEST_u3⟩,⟨PyData.keyHash w.params "by",.str "by" GREATEST_k4,.int 30 GREATEST_u4⟩]) GREATEST_ep})
  (T:Txt l.prog w K mg (clF a0 a1 a2) jH b_NAME_COUNTS_0 b_NAME_COUNTS_1 vR b_FORMS_0 b_FORMS_1 b_FORMS_2 b_FORMS_3 b_FORMS_4 b_FORMS_5 b_FORMS_6 b_FORMS_7 b_FORMS_8 b_FORMS_9 b_FORMS_10 b_FORMS_11 b_FORMS_12 va t_LONGEST_NAME yE t_LETTERS t_LONGEST_NUMBER t_FIGURES qg kG t_MOST_RULES yb):∃ fd:FuncData,(∀(s:Shared) (v:Value),BindsTo s fd ⟨[v],[]⟩ [("_law_script",v)])/\∀ base:Heap,K.In base->base.Ns mainGlobals mg->FnOk l.prog w K mg base CX0 10 fa fd ["_law_script"] (λvs H Q E=>∀ cl:Nat->Addr,spP ⟨K,cl⟩ jay 1 vs H Q E):=by
 obtain⟨f',fd',F',G'⟩:=(jlC T).2.2.2.2.2.2.2.2.2.2.2.2.2.2.2.2.2.2.2.2.2.2.2.2.2.2.2.2.2.2.2.2.2.2.2.2.2.2.2.2.2.2.2.2.2.2.2.2.2.2.2.2.2.2.2.2.2;cases hfa.symm.trans F'.mgf;obtain⟨⟨oc,od,kV,doc,pm,an,cdv,ct,osl,rfl,_,_⟩,_⟩:=F'.fn;exact⟨_,λs v=>.of_eq rfl,λbase _ _=>(G' base).imp λvs H Q E h=>h<|clF a0 a1 a2⟩
def walk{l:PySem.W.OpenLaw}{q:Program}{loose:List Str}{XP:(Str->Option Value)->Heap->Prop}{YP:World->Heap->Prop}{d:DefRec}{K:Params->PySem.W.Frag}(hn:l.most=some 63)(hdf:d.params.defaults=[])
  (hY:∀(w:World) (h:Heap),YP w h->(K w.params).In h)
  (F:∀(w:World) (mg:K6) (fa:Addr) (h:Heap),(K w.params).In h->h.Ns mainGlobals mg->mg d.name=some (.ref fa) ->
   ∃ fd:FuncData,(∀(s:Shared) (u:Value),BindsTo s fd ⟨[u],[]⟩ [("_law_script",u)])/\∀ base:Heap,(K w.params).In base->base.Ns mainGlobals mg->FnOk l.prog w (K w.params) mg base CX0 10 fa fd ["_law_script"] (λvs H Q E=>∀ cl:Nat->Addr,spP ⟨K w.params,cl⟩ jay 1 vs H Q E)):
  PySem.W.WalkO q loose XP YP l.row.toRowW d [] (λf vs=>PySem.call f vs):=
 L2.walk_ofB (n:=63) (k:=10) (x:="_law_script") (CX:=λ_=>CX0) (sp:=λw=>(λvs H Q E=>∀ cl:Nat->Addr,spP ⟨K w.params,cl⟩ jay 1 vs H Q E)) hn (by decide) hdf ⟨rfl,by decide,by decide⟩ hY F (λ_ H a ns hl hb _ hS=>λ_=>jlg (jeQ hb) hS) λ_ _ _ _ _ z=>z
end K06
namespace PySem.W.Fast
def tw10353477755875147935:=0
def tw5188292796649600521:=0
def tw13469036942235047136:=0
def tw5842721309663973122:=0
def tw1941857860256835182:=0
def tw15856585606229546020:=0
def tw6029340319828218881:=0
def tw10869638989768833220:=0
def tw9298551152010962933:=0
def tw8324017510328958425:=0
def tw15900401478246734334:=0
def tw13119640305753283962:=0
def tw4376490618019062019:=0
def tw15699931003171062971:=0
def tw4186838659744445554:=0
def tw12853671817506607243:=0
def tw11390780241284223705:=0
def tw16485468015282692576:=0
def tw10257542171973464578:=0
def tw158854476800869943:=0
def tw4651963264104257159:=0
def tw8835127725180714839:=0
def tw16907693600255879199:=0
def tw15512481192454204761:=0
def tw4828282477561685371:=0
def tw412822169770682529:=0
def tw4780024279384531820:=0
def tw13257891845921579932:=0
def tw16161677573916919555:=0
def tw17557511392381955200:=0
def tw13479788696737224086:=0
def tw16808826488273968706:=0
def tw4377982694530147616:=0
def tw8260552701092291430:=0
def tw9953526602040840963:=0
def tw5258114803567152156:=0
def tw13956655715627532312:=0
def tw12311562273482104115:=0
def tw14404219509219863730:=0
def tw6400893984655195619:=0
def tw9022274066012476399:=0
def tw11676904929779437019:=0
def tw16276692932689429040:=0
def tw7090733641831077761:=0
def tw3742625189499846568:=0
def tw8732702876706320974:=0
def tw11183781958179358120:=0
def tw11723032695302276015:=0
def tw6559102527542909341:=0
def tw10899225994269279377:=0
def tw6951328392528695363:=0
def tw7753477097613991768:=0
def tw16149082114658744851:=0
def tw9918757277639766249:=0
def tw10413297932391996925:=0
def tw11527648821134018144:=0
def tw7696619793169294215:=0
def tw9204345560302112060:=0
def tw13452345003858354595:=0
def tw3293663310455654243:=0
def tw11093343697929974283:=0
def tw9064987147530325009:=0
def tw7437628185843367738:=0
def tw2410791151290446903:=0
def tw4735953617455236245:=0
def tw11604023136043986543:=0
def tw11592393015465071472:=0
def tw3751590105021690870:=0
def tw11570659511323332479:=0
def tw17590425288731141076:=0
def tw14481714118262027459:=0
def tw17723112717978230728:=0
def tw8503555524848001790:=0
def tw9656943937910955915:=0
def tw15367654446859431771:=0
def tw12227255262737061900:=0
def tw3397236247872707189:=0
def tw12222418848686789512:=0
def tw7758696285384936914:=0
def tw15374339390517452819:=0
def tw2700772652938910310:=0
def tw7803319691243053374:=0
def tw439512016998062037:=0
def tw11775928950009929374:=0
def tw85613238313822478:=0
def tw6902177540321838798:=0
def tw10444951049079553276:=0
def tw5601681872599111660:=0
def tw3283240622900229369:=0
def tw17925346317087891762:=0
def tw7401411291109918666:=0
def tw7915134251113463705:=0
def tw17869351593012741509:=0
def tw6197549996501100837:=0
def tw1617120382168605141:=0
def tw14725939738938231238:=0
def tw10564227560785635004:=0
def tw11740266556937732057:=0
def tw7047526467483065073:=0
def tw176591076027611858:=0
def tw10653403535851378422:=0
def tw11899172055887421140:=0
def tw9177034046457172081:=0
def tw9405556154459090049:=0
def tw11128902059884149113:=0
def tw15819716981974608592:=0
def tw10070467025116161632:=0
def tw3245834682831816367:=0
def tw6379877252172954007:=0
def tw6376940404311326393:=0
def tw15986941176310429598:=0
def tw16367744541046633386:=0
def tw11154253658393039521:=0
def tw8409029516650907771:=0
def tw1188982981181562731:=0
def tw7866601445688227008:=0
def tw14209243324076182342:=0
def tw7032802397296183244:=0
def tw3462777025598066058:=0
def tw5588326289311844285:=0
def tw4886621765467279841:=0
def tw8487452051700037857:=0
def tw2393841996168671362:=0
def tw16344263713828570016:=0
def tw5127595865585631780:=0
def tw3503391232223494759:=0
def tw2025411138422545035:=0
def tw18252749683799324511:=0
def tw14690351210532454267:=0
def tw15189458928463453146:=0
def tw17211251947071948256:=0
def tw3614124608649876181:=0
def tw6056835565505324363:=0
def tw12467293088201684237:=0
def tw13482239736928393146:=0
def tw5321392814871482717:=0
def tw14016575309415610052:=0
def tw14683711364196189484:=0
def tw1246629962884265913:=0
def tw16388954328449545026:=0
def tw10159930532097521877:=0
def tw17356912262428402163:=0
def tw8625217563335450506:=0
def tw2933619824254814936:=0
def tw15588682612957286601:=0
def tw12969699122801377314:=0
def tw15362817905155216597:=0
def tw6600175414093664280:=0
def tw10865496378644650057:=0
def tw4551032514878508063:=0
def tw1867794892123642031:=0
def tw6295278260988034276:=0
def tw5498242972645213140:=0
def tw1921525411663202778:=0
def tw10804709811136850055:=0
def tw12301278316555491650:=0
def tw8268595338131735932:=0
def tw5888714055362626661:=0
def tw15320374188311293704:=0
def tw7808043558051716687:=0
def tw17017877014236693382:=0
def tw9799053305667603551:=0
def tw465436788531876693:=0
def tw17350139693664117364:=0
def tw7984569000138363049:=0
def tw10987747256031378866:=0
def tw2451737447179863323:=0
def tw7672510544234644020:=0
def tw3203712513855097714:=0
def tw11382793260452576382:=0
def tw12287623246344292637:=0
def tw5128085869518733782:=0
def tw5895762645243009524:=0
def tw10638261658512759880:=0
def tw7346691815236275107:=0
def tw12744752336329443387:=0
def tw10382868537961521695:=0
def tw8088879488171424195:=0
def tw8231451066344334505:=0
def tw15232907991160203744:=0
def tw12760808610824746965:=0
def tw9873147974180484266:=0
def tw13345091711625187519:=0
def tw5038927841356938882:=0
def tw3958354494011066763:=0
def tw12088019057098840118:=0
def tw7516452738767954135:=0
def tw6546150607098135920:=0
def tw17439308355002976587:=0
def tw14218437783216522266:=0
def tw8061600144747850297:=0
def tw11343889612270835261:=0
def tw10668701753686755343:=0
def tw921914303260633583:=0
def tw16286272412238276589:=0
def tw3089558564194169749:=0
def tw18235962499328412060:=0
def tw18386259901130315273:=0
def tw571170059139317934:=0
def tw17232595562479756899:=0
def tw15345801453282572416:=0
def tw16790978147975569017:=0
def tw1844107662645255456:=0
def tw16292038770204236886:=0
def tw5636213870661054835:=0
def tw15454225851387272971:=0
def tw7859263241444379324:=0
def tw2702892753285874245:=0
def tw18226739982243179810:=0
def tw4299449219832583333:=0
def tw16071301203335636935:=0
def tw6292578331221941389:=0
def tw10257985586864722137:=0
def tw10608264891020465375:=0
def tw13863135930862769966:=0
def tw6783199016959586582:=0
def tw13984659348674006097:=0
def tw180201201356216224:=0
end PySem.W.Fast
set_option maxHeartbeats 0
open PySem PySem.W PyProof.Rows
set_option maxRecDepth 100000 in
set_option maxHeartbeats 0 in
theorem PySem.Challenge.cw_tranchefall_k06_deals_shown_holds : PySem.Challenge.rw_tranchefall_k06_deals_shown.Holds := by
 w_on;o_law;k_head;(case hw=>w_witness2)
 k_fill
 refine K06.walk (l:=PySem.Challenge.rw_tranchefall_k06_deals_shown) rfl rfl (λw h Y=>PySem.W.kIn_of Y) ?F
 case F =>
  intro w mg fa h KX G hmg;refine' K06.all_mk hmg ?c0 ?c1 ?c2 ?c3 ?c4 ?c5 ?c6 ?c7 ?c8 ?c9 ?c10 ?c11 ?c12 ?c13 ?c14 ?c15 ?c16 ?c17 ?c18 ?c19 ?t
  (case c0 | c1 | c2 | c3 | c4 | c5 | c6 | c7 | c8 | c9 | c10 | c11 | c12 | c13 | c14 | c15 | c16 | c17 | c18 | c19=>k_is)
  case t =>
   constructor
   all_goals first
    | ((first | refine⟨QD.fsc,QD.hasF KX G (by k_is) (by k_is) (by k_is) (by k_is) ?_⟩ | refine⟨QD.fsc,QD.hasM (by k_is) (by k_is) (by k_is) (by k_is) (by k_is) ?_⟩);intro _ _ _ _ _ _;(repeat refine QD.uS λ_=>?_);exact QD.u0 rfl)
    | exact K06.kr_NAME_COUNTS (by k_is) (by first | rfl | decide) | exact K06.rr_NAME_COUNTS (by k_is) (by k_is) | exact K06.kr_FORMS (by k_is) (by first | rfl | decide) | exact K06.rr_FORMS (by k_is) (by k_is) (by k_is) (by k_is) (by k_is) (by k_is) (by k_is) (by k_is) (by k_is) (by k_is) (by k_is) (by k_is) (by k_is) | exact K06.kr_STAGES (by k_is) (by first | rfl | decide) | exact K06.rr_STAGES | exact K06.kr_KEYWORDS (by k_is) | exact K06.kr_MOST (by k_is) (by first | rfl | decide) | exact K06.rr_MOST | exact K06.kr_RULES (by k_is) | exact K06.kr_GREATEST (by k_is) (by first | rfl | decide) | exact K06.rr_GREATEST
    | exact PySem.W.mg_none_of KX G (by k_is) | exact PySem.W.mg_of KX G (by k_is) | exact⟨by k_is,by k_is,by k_is,by k_is⟩ | k_is | (show PySem.W.findIn _ _ _=_;k_is)
