import PyProof.Rows.All
import Wide.All
import OpenK.AllK
import Wide.FinOn
import Lean
import PyProof.EqAt
import PyProof.EqKinds
import PyProof.TupleCall
import KE.KItemsList
import KE.KRevIter
import PyProof.CollectIter
import PyProof.DictWalks
import PyProof.WalksMore
import PyProof.SumWalkG
import KE.KSortTup
import PyProof.Draws
import PySem.Challenge.RW_tranchefall_k28_whole_fall
set_option Elab.async false
set_option linter.all false
set_option maxRecDepth 100000
noncomputable section
local macro_rules|`(↥$x)=>`(($x).heap.objs.size)|`(⇑$x)=>`(by simpa using $x)|`(∅)=>`(by lia)
section
open PySem PySem.Spec PyProof.Rows
abbrev L0:=@List.length_map
abbrev L1:=@wpAny_bind
abbrev L3:=@Option.bind_some
abbrev L4:=@List.map_cons
abbrev L5:=@List.mem_cons_of_mem
abbrev L6:=@List.mem_cons_self
abbrev L7:=@Heap.get?_push_of_some
abbrev L8:=@List.getElem?_eq_some_iff
abbrev L9:=@Bool.and_eq_true
abbrev M0:=@List.length_cons
abbrev M3:=@Bool.false_ne_true
abbrev M4:=@List.mem_cons
abbrev M5:=@List.mem_map
abbrev M6:=@wpAny_pure
abbrev M7:=@List.mem_singleton
abbrev M8:=@Nat.le_refl
abbrev M9:=@List.append_nil
abbrev N0:=@Heap.lt_size
abbrev N1:=@List.mem_append
abbrev N2:=@List.size_toArray
abbrev N3:=@List.length_append
abbrev N4:=@List.map_append
abbrev N5:=@Nat.ne_of_lt
abbrev N6:=@Nat.le_trans
abbrev N7:=@Int.toNat_natCast
abbrev N8:=@Int.emod_lt_of_pos
abbrev N9:=@Int.emod_nonneg
abbrev U0:=@List.map_map
abbrev U1:=@beq_eq_false_iff_ne
abbrev U2:=@List.mem_append_right
abbrev U3:=@Nat.lt_of_lt_of_le
abbrev U4:=@Nat.zero_le
abbrev U5:=@wpAny_field
abbrev U6:=@List.zip_cons_cons
abbrev U7:=@List.count_append
abbrev U8:=@List.nodup_append
abbrev U9:=@List.foldl_cons
abbrev X4:=@decide_eq_true
abbrev X5:=@decide_eq_false
abbrev X6:=@of_decide_eq_true
abbrev X7:=@Option.some.inj
abbrev X8:=@List.getElem?_eq_getElem
abbrev X9:=@List.length_take
abbrev E1:=@Heap.get?_push_size
abbrev E4:=@Nat.lt_of_le_of_lt
end
abbrev W0:=PySem.Value->PySem.Shared->Prop
abbrev W1:=List (PySem.Addr×PySem.Obj)
abbrev W4:=List (List Nat)
abbrev W5:=PySem.W.Frag
abbrev W6:=List PySem.Addr
abbrev W7:=PySem.Str->Option PySem.Value
namespace L2
open PySem PySem.Spec PyProof.Rows
noncomputable abbrev Key:=Sum Int Str
noncomputable def xt:Key->Value->Bool
 | .inl k,v=>Value.isInt k v
 | .inr x,v=>Value.isStrOf x v
noncomputable def jnR(w:World):Key->Int
 | .inl k=>hashInt k
 | .inr x=>hashStr w x
def yd:∀{k:Key}{v:Value},xt k v=true->(∃ i t,k=Sum.inl i/\v=Value.int i t)\/(∃ x t,k=Sum.inr x/\v=Value.str x t)
 | .inl i,v,h=>by
  obtain⟨t,e⟩:=Value.isInt_shape (k:=i) (v:=v) h;exact .inl ⟨i,t,rfl,e⟩
 | .inr x,v,h=>by
  obtain⟨t,e⟩:=Value.isStrOf_shape (x:=x) (v:=v) h;exact .inr ⟨x,t,rfl,e⟩
def jcj(i:Int)(t:Tok):xt (.inl i) (.int i t)=true:=by simp[xt,Value.isInt]
def jc1(x:Str)(t:Tok):xt (.inr x) (.str x t)=true:=by simp[xt,Value.isStrOf]
def jlz(a b:Int):decide ((Sum.inl a:Key)=Sum.inl b)=(a==b):=by
 by_cases e:a=b
 ·subst e;simp
 ·have h:¬ (Sum.inl a:Key)=Sum.inl b:=λq=>e<|Sum.inl.inj q;rw[X5 h];exact(U1.mpr e).symm
def jjb(a b:Str):decide ((Sum.inr a:Key)=Sum.inr b)=decide (a=b):=by
 by_cases e:a=b
 ·subst e;simp
 ·have h:¬ (Sum.inr a:Key)=Sum.inr b:=λq=>e<|Sum.inr.inj q;rw[X5 h,X5 e]
def jkl(a:Int)(b:Str):decide ((Sum.inl a:Key)=Sum.inr b)=false:=X5 (λq=>nomatch q)
def jkR(a:Str)(b:Int):decide ((Sum.inr a:Key)=Sum.inl b)=false:=X5 (λq=>nomatch q)
def jP(prog:Program)(w:World):PySem.KeyKind prog w Key where
 is:=xt
 hash:=jnR w
 inj:=λv a b ha hb=>by
  rcases yd ha with⟨i,t,rfl,rfl⟩ | ⟨x,t,rfl,rfl⟩
  ·rcases yd hb with⟨j,u,rfl,e⟩ | ⟨y,u,rfl,e⟩
   ·injection e with e1 _;rw[e1]
   ·exact nomatch e
  ·rcases yd hb with⟨j,u,rfl,e⟩ | ⟨y,u,rfl,e⟩
   ·exact nomatch e
   ·injection e with e1 _;rw[e1]
 byValue:=λk v h=>by
  rcases yd h with⟨i,t,rfl,rfl⟩ | ⟨x,t,rfl,rfl⟩<;>rfl
 pyHash:=λhv h=>by
  rcases yd hv with⟨i,t,rfl,rfl⟩ | ⟨x,t,rfl,rfl⟩
  ·exact wpAny_pyHash_int h
  ·exact wpAny_pyHash_str h
 eqBool:=λhu hv h=>by
  rcases yd hu with⟨i,t,rfl,rfl⟩ | ⟨x,t,rfl,rfl⟩
  ·rcases yd hv with⟨j,u,rfl,rfl⟩ | ⟨y,u,rfl,rfl⟩
   ·rw[jlz] at h;exact wpAny_eqBool_int h
   ·rw[jkl] at h;exact SeqAt.EqAt.int_str i t y u _ _ _ _ h
  ·rcases yd hv with⟨j,u,rfl,rfl⟩ | ⟨y,u,rfl,rfl⟩
   ·rw[jkR] at h;exact SeqAt.EqAt.str_int x t j u _ _ _ _ h
   ·rw[jjb] at h;exact wpAny_eqBool_str h
 «strs»:=λk x t v h=>by
  rcases yd h with⟨i,u,rfl,e⟩ | ⟨y,u,rfl,e⟩
  ·exact nomatch e
  ·injection e with e1 _;subst e1;cases v<;>rfl
def jaK(prog:Program)(w:World)(k:Key)(v:Value):(jP prog w).is k v=xt k v:=rfl
def we(prog:Program)(w:World)(i:Int)(t:Tok):(jP prog w).is (.inl i) (.int i t)=true:=jcj i t
def xJ(prog:Program)(w:World)(x:Str)(t:Tok):(jP prog w).is (.inr x) (.str x t)=true:=jc1 x t
inductive V where
 | non | bl (b:Bool) | int (i:Int) | str (x:Str) | byt (b:Array UInt8) | flt (b:UInt64) | ref (a:Addr) | ty (n:String)
 deriving DecidableEq
def RelV:V->Value->Prop
 | .non,u=>u=Value.none
 | .bl b,u=>u=Value.bool b
 | .int i,u=>∃ t,u=Value.int i t
 | .str x,u=>∃ t,u=Value.str x t
 | .byt b,u=>∃ t,u=Value.bytes b t
 | .flt b,u=>∃ t,u=Value.float b t
 | .ref a,u=>u=Value.ref a
 | .ty n,u=>u=Value.type n
abbrev Vals:List V->List Value->Prop:=Paired RelV
def Vals.length(r:Vals xs us):xs.length=us.length:=Paired.length r
theorem Vals.get:∀{xs:List V}{us:List Value}{i:Nat}{x:V},Vals xs us->xs[i]?=some x->∃ u,us[i]?=some u/\RelV x u
 | _,_,_,_,.nil,e=>by simp at e
 | _,_,0,_,.cons r _,e=>by simp at e;subst e;exact⟨_,rfl,r⟩
 | _,_,i+1,x,.cons _ t,e=>by
  obtain⟨u,a,b⟩:=Vals.get (i:=i) (x:=x) t ⇑e;exact⟨u,by simpa using a,b⟩
theorem Vals.set(r:RelV x u):∀{xs:List V}{us:List Value}(i:Nat),Vals xs us->Vals (xs.set i x) (us.set i u)
 | _,_,_,.nil=>.nil
 | _,_,0,.cons _ t=>.cons r t
 | _,_,i+1,.cons q t=>.cons q<|Vals.set r i t
theorem Vals.append:∀{xs ys:List V}{us ws:List Value},Vals xs us->Vals ys ws->Vals (xs++ys) (us++ws)
 | _,_,_,_,.nil,s=>s
 | _,_,_,_,.cons r t,s=>.cons r<|Vals.append t s
theorem Vals.take:∀{xs:List V}{us:List Value}(n:Nat),Vals xs us->Vals (xs.take n) (us.take n)
 | _,_,0,_=>.nil
 | _,_,_+1,.nil=>.nil
 | _,_,n+1,.cons r t=>.cons r<|Vals.take n t
theorem Vals.drop:∀{xs:List V}{us:List Value}(n:Nat),Vals xs us->Vals (xs.drop n) (us.drop n)
 | _,_,0,r=>r
 | _,_,_+1,.nil=>.nil
 | _,_,n+1,.cons _ t=>Vals.drop n t
def RelO:Option V->Option Value->Prop
 | some v,some u=>RelV v u
 | none,none=>True
 | _,_=>False
def KV{κ:Type}:List (κ×V)->List (κ×Value)->Prop:=Paired λ(p:κ×V) (q:κ×Value)=>p.1=q.1/\RelV p.2 q.2
noncomputable def kV:Key->V
 | .inl i=>.int i
 | .inr x=>.str x
inductive HO where
  | lst (xs:List V)
  | tup (xs:List V)
  | dK (kvs:List (Key×V)) | dT (kvs:List (List Key×V))
  | set (S:Int->Bool) (n:Nat)
  | ins (C dx:Addr) (fs:List (Str×V))
  | own (x:Addr)
  | xd (fs:List (Str×V))
  | met (f x:Addr)
  | rng (lo hi:Int)
  | frz (o:Obj) (u:HO)
  | tbl (ps:Array Value)
  | ext (φ:Heap->Prop)
noncomputable abbrev Hp:=Addr->Option HO
noncomputable def upd(H:Hp)(a:Addr)(o:HO):Hp:=λb=>if b=a then some o else H b
def jA:upd H a o a=some o:=by unfold upd;rw[if_pos rfl]
def jh(h:b≠a):upd H a o b=H b:=by unfold upd;rw[if_neg h]
def jmr{H:Hp}{a b:Addr}{o u:HO}(h:H a=some o)(h':H b=some u)(d:o≠u):a≠b:=by
 intro e;subst e;rw[h] at h';exact d<|X7 h'
def kF{H:Hp}{a b:Addr}{o:HO}(h:H a=some o)(h':H b=none):a≠b:=by
 intro e;subst e;rw[h] at h';cases h'
def IsTupN(h:Heap)(a:Addr)(its:Array Value):Prop:=IsTup h a its/\∃ o,h.get? a=some o/\o.dict=none
def IsTupN.new(h:Heap)(its:Array Value):IsTupN (h.push {cls:=.type "tuple",data:=.seq its}) h.objs.size its:=⟨IsTup.new h its,_,E1 _ rfl,rfl⟩
def IsTupN.lt(x:IsTupN h a its):a<h.objs.size:=x.1.lt
section
variable (P:Program)(w:World)
def ObjOk(H:Hp)(h:Heap)(a:Addr):HO->Prop
 | .lst xs=>xs.length<=sizeLine/\∃(its:List Value) (n:Nat),Vals xs its/\h.get? a=some {cls:=.type "list",data:=.seq its.toArray n}
 | .tup xs=>xs.length<=sizeLine/\∃ its:List Value,Vals xs its/\IsTupN h a its.toArray
 | .dK kvs=>kvs.length<=sizeLine/\(a==sysModules)=false/\∃ vs,KV kvs vs/\h.DictOf (jP P w) a vs
 | .dT kvs=>kvs.length<=sizeLine/\(a==sysModules)=false/\∃ xs:List (List Key×Addr×Value),
   Paired (λ(p:List Key×V) (q:List Key×Addr×Value)=>p.1=q.1/\H q.2.1=some (.tup<|p.1.map kV)/\RelV p.2 q.2.2) kvs xs /\
   ∃ o es ep,h.get? a=some o/\o.ExactDict/\o.data=.dict es ep/\es.toList=xs.map (entryOfKey<|tupleKind<|jP P w)/\(xs.map (·.1)).Nodup
 | .set S n=>h.SetOf (intKind P w) a S n
 | .ins C dx fs=>H dx=some (.own a)/\fs.length<=1000/\dx≠a/\h.get? a=some (PySem.W.instObj C dx) /\
   ∃ mA,h.Ns1 dx mA/\(∀ f,RelO (fs.lookup f)<|mA f)/\PySem.Within mA (fs.map (·.1))
 | .own _=>∃ o,h.get? a=some o
 | .xd fs=>∃ mA,h.Ns1 a mA/\∀ f,RelO (fs.lookup f)<|mA f
 | .rng lo hi=>∃ t u v,h.get? a=some {cls:=.type "range",data:=.fields #[.int lo t,.int hi u,.int 1 v]}
 | .frz o u=>h.get? a=some o/\ObjOk H h a u
 | .tbl ps=>h.get? a=some {cls:=.none,data:=.fields ps}
 | .met f x=>h.get? a=some (PySem.W.methodObj (.ref f)<|.ref x)
 | .ext φ=>φ h/\(∃ o,h.get? a=some o)/\∀ h1 h2:Heap,φ h1->(∀ o,h1.get? a=some o->h2.get? a=some o)->φ h2
def HOk(H:Hp)(h:Heap):Prop:=∀ a o,H a=some o->ObjOk P w H h a o
end
section
variable {P:Program}{w:World}{H H':Hp}{h h':Heap}{a:Addr}{o:HO}
def ObjOk.lt(x:ObjOk P w H h a o):a<h.objs.size:=by
 cases o with
 | lst c=>obtain⟨_,_,_,_,e⟩:=x;exact N0 e
 | tup c=>obtain⟨_,_,_,p⟩:=x;exact p.lt
 | dK b=>obtain⟨_,_,_,_,o,_,_,e,_⟩:=x;exact N0 e
 | dT b=>obtain⟨_,_,_,_,o,_,_,e,_⟩:=x;exact N0 e
 | set S n=>obtain⟨o,_,_,_,e,_⟩:=x;exact N0 e
 | ins C d fs=>obtain⟨_,_,_,e,_⟩:=x;exact N0 e
 | own y=>obtain⟨_,e⟩:=x;exact N0 e
 | xd fs=>obtain⟨_,⟨_,_,_,e,_⟩,_⟩:=x;exact N0 e
 | rng lo hi=>obtain⟨_,_,_,e⟩:=x;exact N0 e
 | frz ob u=>obtain⟨e,_⟩:=x;exact N0 e
 | tbl g=>exact N0<|show h.get? a=some _ from x
 | met f y=>exact N0<|show h.get? a=some _ from x
 | ext φ=>obtain⟨_,⟨_,e⟩,_⟩:=x;exact N0 e
theorem Paired.mapP:∀{l₁:List α}{l₂:List β},Paired F l₁ l₂->(∀ a b,F a b->G a b)->Paired G l₁ l₂
 | _,_,.nil,_=>.nil
 | _,_,.cons r t,f=>.cons (f _ _ r)<|Paired.mapP t f
def ObjOk.stay(x:ObjOk P w H h a o)(k:∀ b u,(b=a\/H b=some (.own a))->h.get? b=some u->h'.get? b=some u)
  (D:∀ b,H b=some (.own a)->H' b=some (.own a)) (E:∀ b xs,H b=some (.tup xs)->H' b=some (.tup xs)):ObjOk P w H' h' a o:=by
 induction o with
 | lst xs=>obtain⟨z,j,n,r,e⟩:=x;exact⟨z,j,n,r,k _ _ (.inl rfl) e⟩
 | tup xs=>obtain⟨z,j,r,⟨ob,e,c⟩,l,e2,F⟩:=x;exact⟨z,j,r,⟨ob,k _ _ (.inl rfl) e,c⟩,l,k _ _ (.inl rfl) e2,F⟩
 | dK m=>obtain⟨z,y,G,r,ob,g,i,e,c⟩:=x;exact⟨z,y,G,r,ob,g,i,k _ _ (.inl rfl) e,c⟩
 | dT m=>
  obtain⟨z,y,xs,r,ob,g,i,e,c⟩:=x;exact⟨z,y,xs,Paired.mapP r λp q z=>⟨z.1,E _ _ z.2.1,z.2.2⟩,ob,g,i,k _ _ (.inl rfl) e,c⟩
 | set S n=>obtain⟨ob,g,i,t,e,c⟩:=x;exact⟨ob,g,i,t,k _ _ (.inl rfl) e,c⟩
 | ins C J fs=>
  obtain⟨d,z,ne,e,s,⟨od,g,i,e2,c⟩,r⟩:=x;exact⟨D _ d,z,ne,k _ _ (.inl rfl) e,s,⟨od,g,i,k _ _ (.inr d) e2,c⟩,r⟩
 | own y=>obtain⟨ob,e⟩:=x;exact⟨ob,k _ _ (.inl rfl) e⟩
 | xd fs=>obtain⟨s,⟨od,g,i,e,c⟩,r⟩:=x;exact⟨s,⟨od,g,i,k _ _ (.inl rfl) e,c⟩,r⟩
 | rng lo hi=>obtain⟨t,u,v,e⟩:=x;exact⟨t,u,v,k _ _ (.inl rfl) e⟩
 | frz ob u I=>obtain⟨e,q⟩:=x;exact⟨k _ _ (.inl rfl) e,I q⟩
 | tbl A=>
  have e:h.get? a=some {cls:=.none,data:=.fields A}:=x;show h'.get? a=some {cls:=.none,data:=.fields A};exact k a _ (.inl rfl) e
 | met f y=>
  have e:h.get? a=some (PySem.W.methodObj (.ref f)<|.ref y):=x;show h'.get? a=some (PySem.W.methodObj (.ref f)<|.ref y);exact k a _ (.inl rfl) e
 | ext φ=>obtain⟨p,⟨o,e⟩,B⟩:=x;exact⟨B _ _ p λo q=>k _ _ (.inl rfl) q,⟨o,k _ _ (.inl rfl) e⟩,B⟩
def HOk.lt(x:HOk P w H h)(e:H a=some o):a<h.objs.size:=(x a o e).lt
def HOk.fresh(x:HOk P w H h)(e:h.objs.size<=a):H a=none:=by
 cases q:H a with
 | none=>rfl
 | some u=>exact absurd (U3 (x.lt q) e)<|Nat.lt_irrefl _
def HOk.kept(x:HOk P w H h)(k:∀ b u,h.get? b=some u->h'.get? b=some u):HOk P w H h':=λa o e=>
 (x a o e).stay (λb u _ q=>k b u q) (λ_ q=>q) λ_ _ q=>q
def HOk.laid(x:HOk P w H h)(k:∀ b u,h.get? b=some u->h'.get? b=some u)(g:h.objs.size<=a)(new:ObjOk P w (upd H a o) h' a o):HOk P w (upd H a o) h':=λb u e=>by
 have d:=x.fresh g;by_cases f:b=a
 ·subst f;rw[jA] at e;cases e;exact new
 ·rw[jh f] at e;exact(x b u e).stay (λc v _ q=>k c v q) (λc q=>by rw[jh<|kF q d];exact q) λc i q=>by rw[jh<|kF q d];exact q
end
def Rd(H:Hp)(a:Addr)(u:HO):Prop:=H a=some u \/ ∃ o,H a=some (.frz o u)
def Rd.ok(r:Rd H a u)(x:HOk P w H h):ObjOk P w H h a u:=by
 rcases r with r | ⟨o,r⟩
 ·exact x a u r
 ·obtain⟨_,q⟩:=x a _ r;exact q
def Mut:Option HO->Prop
 | some (.lst _)=>True
 | some (.dK _)=>True
 | some (.dT _)=>True
 | some (.set _ _)=>True
 | some (.ins _ _ _)=>True
 | some (.ext _)=>True
 | _=>False
section
variable {P:Program}{w:World}{H:Hp}{h h':Heap}{x e:Addr}{o':HO}
def HOk.write(ok:HOk P w H h)(g:Mut<|H x)(n:e=x\/H e=some (.own x))(k:∀ b u,b≠e->h.get? b=some u->h'.get? b=some u)(m:∃ u,h'.get? e=some u)
  (new:ObjOk P w (upd H x o') h' x o'):HOk P w (upd H x o') h':=λb u q=>by
 have d:∀ c y,H c=some (.own y)->c≠x:=λc y r z=>by subst z;rw[r] at g;exact g
 have f:∀ c i,H c=some (.tup i)->c≠x:=λc i r z=>by subst z;rw[r] at g;exact g
 by_cases j:b=x
 ·subst j;rw[jA] at q;cases q;exact new
 ·rw[jh j] at q;by_cases a:b=e
  ·have o:H b=some (.own x):=by
    rcases n with z | z
    ·exact absurd (a.trans z) j
    ·rw[a];exact z
   rw[q] at o;cases o;obtain⟨v,p⟩:=m;exact⟨v,by rw[a];exact p⟩
  ·refine(ok b u q).stay (λc v l r=>k c v ?_ r) (λc r=>by rw[jh<|d c b r];exact r) λc i r=>by rw[jh<|f c i r];exact r
   rcases l with rfl | l
   ·exact a
   ·rintro rfl;rcases n with z | z
    ·exact d c b l z
    ·rw[l] at z;cases z;exact j rfl
end
structure Un(fs ex:W6)(H H':Hp)(h h':Heap):Prop where
 keep:∀ b o,h.get? b=some o->H b=none->b∉fs->b∉ex->h'.get? b=some o
 slot:∀ b o,h.get? b=some o->H b=none->b∈fs->b∉ex->∃ sl,h'.get? b=some {o with slots:=sl}
 free:∀ b o,h.get? b=some o->H b=none->b∉ex->H' b=none
 there:∀ b o,h.get? b=some o->b∉ex->∃ o',h'.get? b=some o'
 tups:∀ b xs,H b=some (.tup xs)->H' b=some (.tup xs)
 frzs:∀ b o u,H b=some (.frz o u)->H' b=some (.frz o u)
 tbls:∀ b ps,H b=some (.tbl ps)->∃ more,H' b=some (.tbl<|ps++more)
section
variable {fs fs' ex ex':W6}{H H1 H2:Hp}{h h1 h2 h':Heap}{a x e:Addr}{o:HO}
def Un.any(u:Un fs ex H H1 h h1)  (q:h.get? b=some ob) (n:H b=none) (a:b∉ex):∃ sl,h1.get? b=some {ob with slots:=sl}:=by
 by_cases c:b∈fs
 ·exact u.slot b ob q n c a
 ·exact⟨ob.slots,u.keep b ob q n c a⟩
def Un.kept(k:∀ b u,h.get? b=some u->h'.get? b=some u):Un fs ex H H h h' :=
 ⟨λb ob q _ _ _=>k b ob q,λb ob q _ _ _=>⟨ob.slots,k b ob q⟩,λ_ _ _ n _=>n,λb ob q _=>⟨ob,k b ob q⟩,λ_ _ q=>q,λ_ _ _ q=>q,λ_ a q=>⟨#[],by rw[q];simp⟩⟩
def Un.refl:Un fs ex H H h h:=Un.kept λ_ _ q=>q
def Un.laid(k:∀ b u,h.get? b=some u->h'.get? b=some u)(d:h.objs.size<=a)(c:H a=none):Un fs ex H (upd H a o) h h' where
 keep:=λb u q _ _ _=>k b u q
 slot:=λb u q _ _ _=>⟨u.slots,k b u q⟩
 free:=λb u q n _=>by rw[jh<|N5<|U3 (N0 q) d];exact n
 there:=λb u q _=>⟨u,k b u q⟩
 tups:=λb e q=>by rw[jh<|kF q c];exact q
 frzs:=λb u e q=>by rw[jh<|kF q c];exact q
 tbls:=λb f q=>⟨#[],by rw[jh<|kF q c,q];simp⟩
def Un.write(c:Mut<|H x)(j:e=x\/H e=some (.own x))(k:∀ b u,b≠e->h.get? b=some u->h'.get? b=some u)(d:∃ u,h'.get? e=some u):Un fs ex H (upd H x o) h h':=by
 have g:∀ b,H b=none->b≠x:=λb n z=>by subst z;rw[n] at c;exact c
 have i:∀ b,H b=none->b≠e:=λb n z=>by
  subst z;rcases j with r | r
  ·exact g b n r
  ·rw[n] at r;cases r
 have f:∀ b u,H b=some u->¬ Mut (some u)->b≠x:=λb u q nm z=>by subst z;rw[q] at c;exact nm c
 refine⟨λb u q n _ _=>k b u (i b n) q,λb u q n _ _=>⟨u.slots,k b u (i b n) q⟩,λb u q n _=>by rw[jh<|g b n];exact n,λb u q _=>?_,
  λb l q=>by rw[jh<|f b _ q λz=>z];exact q,λb u l q=>by rw[jh<|f b _ q λz=>z];exact q,λb m q=>⟨#[],by rw[jh<|f b _ q λz=>z,q];simp⟩⟩
 by_cases a:b=e
 ·subst a;exact d
 ·exact⟨u,k b u a q⟩
end
noncomputable def trk(h:Heap)(H:Hp):List Addr:=(List.range h.objs.size).filter λa=>(H a).isSome
def jdU(h:Heap)(H:Hp):Heap:=PySem.W.hideAll h<|trk h H
def jce(h:Heap)(H:Hp):(jdU h H).objs.size=h.objs.size:=PySem.W.hideAll_size _ _
def jdX(e:h.get? b=some o)(n:H b=none):(jdU h H).get? b=some o :=
 PySem.W.hideAll_get _ e λa=>by
  have q:(H b).isSome=true:=(List.mem_filter.mp a).2;rw[n] at q;simp at q
def jgF(e:(jdU h H).get? b=some o):h.get? b=some o/\H b=none:=by
 have a:h.get? b=some o:=PySem.W.of_hideAll (trk h H) e;refine⟨a,?_⟩;cases q:H b with
 | none=>rfl
 | some x=>
  have c:b∈trk h H:=List.mem_filter.mpr ⟨List.mem_range.mpr<|N0 a,by simp[q]⟩;have z:(jdU h H).get? b=none:=PySem.W.hideAll_none (trk h H) c;rw[z] at e;cases e
noncomputable def jij(g h:Heap)(L:Addr):List (Addr×Obj):=(List.range h.objs.size).filterMap λa=>if a=L\/(g.get? a).isSome=true then none else(h.get? a).map λo=>(a,o)
def rest(g h:Heap)(L d:Addr):List (Addr×Obj):=(jij g h L).filter λp=>decide<|p.1≠d
structure Mod(K:W5)(mg:W7)(base:Heap):Prop where
 kin:K.In base
 glob:base.Ns mainGlobals mg
 blt:∃ mb,base.Ns builtinsNs mb/\∀ x:Str,x≠"__name__"->mb x=bootBuiltins x
 nolimit:base.NoLimit
structure Cx where
 prog:Program
 w:World
 K:PySem.W.Frag
 mg:Str->Option Value
 base:Heap
 A:Around
 N:List Str
 s₀:Shared
 H₀:Hp
 env:Env
 outer:List Env
 stack:List Env
 ex:List Addr
 fn:Str->Bool
 calm:Bool
 pn:List (Addr×Obj)
 xe:Value->Shared->Prop
noncomputable def frs(l:List Env):List Addr:=l.filterMap (·.frame)
abbrev Cx.fs(X:Cx):List Addr:=frs X.outer
def Vis(sc:Scope)(x:Str):Prop:=sc.names.lookup x=some .local\/sc.names.lookup x=some .cell\/sc.names.lookup x=some .free
def Loc(sc:Scope)(x:Str):Prop:=sc.names.lookup x=some .local\/sc.names.lookup x=some .cell
def jn5(env:Env)(h:Heap)(m:W7)(x:Str)(u:Value):Prop :=
 (env.kindOf x=some .local/\m x=some u)\/((env.kindOf x=some .cell\/env.kindOf x=some .free)/\∃ c,env.cells.lookup x=some c/\h.IsCell c (some u))
structure Cx.Ok(X:Cx):Prop where
 mod:Mod X.K X.mg X.base
 kind:X.env.scope.kind=.function
 glob:X.env.globals=mainGlobals
 blt:X.env.builtins=builtinsNs
 above:X.s₀.heap.objs.size<=X.env.locals
 inj:∀ x y c,X.env.cells.lookup x=some c->X.env.cells.lookup y=some c->x=y
 has:∀ x,(X.env.kindOf x=some .cell\/X.env.kindOf x=some .free)->∃ c,X.env.cells.lookup x=some c
 cab:∀ x c,X.fn x=true->X.env.cells.lookup x=some c->X.s₀.heap.objs.size<=c
 hd:X.calm=true->X.A.handled=none
 frames:X.A.frames=some X.stack
 stk:X.stack=X.outer\/(X.stack=X.env::X.outer/\X.env.frame=some X.env.locals)
 exf:∀ b∈X.ex,b≠X.env.locals/\∀ x c,X.env.cells.lookup x=some c->c≠b
 bs:∀ b o,X.base.get? b=some o->X.s₀.heap.get? b=some o/\X.H₀ b=none
 bsz:X.base.objs.size<=X.s₀.heap.objs.size
 noex:∀ b o,X.base.get? b=some o->b∉X.ex
 exfs:∀ b∈X.ex,b∉X.fs
 funs:X.s₀.heap.FunFrames X.base X.outer
 frf:∀ b∈X.fs,X.H₀ b=none
structure Inv(X:Cx)(pins:W1)(σ:List<|Option V)(H:Hp)(s:Shared):Prop where
 ok:X.Ok
 os:s.os=X.s₀.os
 bare:AllBare s.gens
 base:Un X.fs X.ex X.H₀ H X.s₀.heap s.heap
 loc:∃ m,s.heap.Ns X.env.locals m/\∀(i:Nat) (x:Str) (v:V),X.N[i]?=some x->σ[i]?=some (some v)->Vis X.env.scope x->∃ u,RelV v u/\jn5 X.env s.heap m x u
 cell:∀ x c,X.env.cells.lookup x=some c->∃ v,s.heap.IsCell c v
 free:H X.env.locals=none
 freeC:∀ x c,X.env.cells.lookup x=some c->H c=none
 pin:∀ p∈X.pn++pins,s.heap.get? p.1=some p.2/\H p.1=none/\p.1≠X.env.locals/\p.1∉X.fs/\∀ v,p.2.data≠.cell v
 hok:HOk X.prog X.w H s.heap
 len:σ.length=X.N.length
section
variable {X:Cx}{pins:List (Addr×Obj)}{σ:List (Option V)}{H H':Hp}{s:Shared}{h':Heap}
def Cx.Ok.nofr(ok:X.Ok)  {o:Obj}(e:X.base.get? b=some o):b∉X.fs:=λa=>by
 have:=(ok.funs.mem a).1;rw[e] at this;cases this
def Inv.bs(I:Inv X pins σ H s):∀ b o,X.base.get? b=some o->s.heap.get? b=some o/\H b=none:=λb o e=>
 ⟨I.base.keep b o (I.ok.bs b o e).1 (I.ok.bs b o e).2 (I.ok.nofr e) (I.ok.noex b o e),I.base.free b o (I.ok.bs b o e).1 (I.ok.bs b o e).2 (I.ok.noex b o e)⟩
def Inv.bk(I:Inv X pins σ H s):∀ b o,X.base.get? b=some o->s.heap.get? b=some o:=λb o e=>(I.bs b o e).1
def Inv.mod(I:Inv X pins σ H s):Mod X.K X.mg X.base:=I.ok.mod
def Inv.kIn(I:Inv X pins σ H s):X.K.In s.heap:=I.ok.mod.kin.keeps I.bk
def Inv.lt(I:Inv X pins σ H s):X.env.locals < ↥s:=let ⟨_,hn,_⟩:=I.loc;hn.lt
def Inv.sz(I:Inv X pins σ H s):X.s₀.heap.objs.size<=↥s:=N6 I.ok.above<|Nat.le_of_lt I.lt
def Inv.nofs(I:Inv X pins σ H s)  (h:↥s<=a):a∉X.fs:=λb=>by
 obtain⟨_,o,c,_⟩:=I.ok.funs.mem b;exact absurd (U3 (N0 c)<|N6 I.sz h)<|Nat.lt_irrefl _
def Inv.cne(I:Inv X pins σ H s):∀ x c,X.env.cells.lookup x=some c->c≠X.env.locals:=λx c e z=>by
 obtain⟨v,o,d,hd⟩:=I.cell x c e;obtain⟨m,⟨f,g,h,a,b,_⟩,_⟩:=I.loc;rw[z,a] at d;cases d;rw[b] at hd;cases hd
def Inv.funs(I:Inv X pins σ H s):s.heap.FunFrames X.base X.outer:=by
 have all:∀(l:List Env),(∀ b∈frs l,b∈X.fs)->X.s₀.heap.FunFrames X.base l->s.heap.FunFrames X.base l:=by
  intro l
  induction l with
  | nil=>intro _ _;trivial
  | cons env r g=>
   intro f h;obtain⟨i,⟨L,o,a,j,k,hd⟩,m⟩:=h;have c:L∈X.fs:=f L (by unfold frs;rw[List.filterMap_cons,a];exact L6);obtain⟨n,e⟩:=I.base.slot L o k (I.ok.frf L c) c λz=>I.ok.exfs L z c;exact⟨i,⟨L,_,a,j,e,hd⟩,g (λb d=>f b<|by unfold frs;rw[List.filterMap_cons,a];exact L5 _ d) m⟩
 exact all X.outer (λ_ d=>d) I.ok.funs
def Inv.stack(I:Inv X pins σ H s):s.heap.FunFrames X.base X.stack:=by
 rcases I.ok.stk with e | ⟨e,a⟩
 ·rw[e];exact I.funs
 ·rw[e];obtain⟨m,b,_⟩:=I.loc;refine .cons (by rw[I.ok.kind];decide) a b ?_ I.funs;exact Heap.get?_none_of_le<|N6 I.ok.bsz I.ok.above
def Inv.stkSub(I:Inv X pins σ H s):∀ b∈frs X.stack,b∈X.env.locals::X.fs:=λb a=>by
 rcases I.ok.stk with e | ⟨e,c⟩
 ·rw[e] at a;exact L5 _ a
 ·rw[e] at a;unfold frs at a;rw[List.filterMap_cons,c] at a;exact a
def Inv.stkFree(I:Inv X pins σ H s):∀ b∈frs X.stack,H b=none:=λb a=>by
 rcases M4.mp (I.stkSub b a) with e | a
 ·rw[e];exact I.free
 ·obtain⟨_,o,c,_⟩:=I.ok.funs.mem a;exact I.base.free b o c (I.ok.frf b a) λz=>I.ok.exfs b z a
def Inv.step{g':Array GenState}{t':Nat}{ch:W6}(I:Inv X pins σ H s)
  (f:∀ b∈ch,(b∈X.ex\/X.s₀.heap.objs.size<=b)/\b≠X.env.locals/\(∀ x c,X.env.cells.lookup x=some c->c≠b)/\∀ p∈X.pn++pins,p.1≠b)
  (keep:∀ b o,b≠X.env.locals->b∉X.fs->b∉ch->s.heap.get? b=some o->H b=none->h'.get? b=some o)
  (slot:∀ b o,b≠X.env.locals->b∈X.fs->b∉ch->s.heap.get? b=some o->H b=none->∃ sl,h'.get? b=some {o with slots:=sl}) (free:∀ b o,b∉ch->s.heap.get? b=some o->H b=none->H' b=none)
  (there:∀ b o,b∉ch->s.heap.get? b=some o->∃ o',h'.get? b=some o')
  (tups:∀ b xs,H b=some (.tup xs)->H' b=some (.tup xs)) (frzs:∀ b o u,H b=some (.frz o u)->H' b=some (.frz o u)) (tbls:∀ b ps,H b=some (.tbl ps)->∃ more,H' b=some (.tbl<|ps++more))
  (ns:∀ m,s.heap.Ns X.env.locals m->h'.Ns X.env.locals m) (hok:HOk X.prog X.w H' h') (G:AllBare g'):
  Inv X pins σ H' {s with heap:=h',gens:=g',drawn:=d',toks:=t'}:=by
 have B:∀ b o,X.s₀.heap.get? b=some o->b≠X.env.locals:=λb o e=>N5<|U3 (N0 e) I.ok.above;have j:∀ b o,X.s₀.heap.get? b=some o->b∉X.ex->b∉ch:=λb o e a y=>by
  rcases(f b y).1 with z | z
  ·exact a z
  ·exact absurd (U3 (N0 e) z)<|Nat.lt_irrefl _
 have g:∀ x c,X.env.cells.lookup x=some c->∀ v,s.heap.IsCell c v->h'.IsCell c v:=λx c e v ⟨o,A,hd⟩=>by
  have h:c∉ch:=λz=>(f c z).2.2.1 x c e rfl;by_cases D:c∈X.fs
  ·obtain⟨sl,q⟩:=slot c o (I.cne x c e) D h A<|I.freeC x c e;exact⟨_,q,hd⟩
  ·exact⟨o,keep c o (I.cne x c e) D h A<|I.freeC x c e,hd⟩
 refine⟨I.ok,I.os,G,⟨λb o e n y a=>?_,λb o e n y a=>?_,λb o e n a=>?_,λb o e a=>?_,λb xs e=>tups b xs<|I.base.tups b xs e,λb o xs e=>frzs b o xs<|I.base.frzs b o xs e,λb ps e=>?_⟩,?_,λx c e=>?_,?_,λx c e=>?_,λp E=>?_,hok,I.len⟩
 ·exact keep b o (B b o e) y (j b o e a) (I.base.keep b o e n y a)<|I.base.free b o e n a
 ·obtain⟨sl,t⟩:=I.base.slot b o e n y a;obtain⟨C,e2⟩:=slot b _ (B b o e) y (j b o e a) t<|I.base.free b o e n a;exact⟨C,e2⟩
 ·obtain⟨o',t⟩:=I.base.there b o e a;exact free b o' (j b o e a) t<|I.base.free b o e n a
 ·obtain⟨o',t⟩:=I.base.there b o e a;exact there b o' (j b o e a) t
 ·obtain⟨J,t⟩:=I.base.tbls b ps e;obtain⟨K,e2⟩:=tbls b _ t;exact⟨J++K,by rw[e2,Array.append_assoc]⟩
 ·obtain⟨m,L,M⟩:=I.loc;refine⟨m,ns m L,λi x v t e2 e3=>?_⟩;obtain⟨u,r,l⟩:=M i x v t e2 e3;refine⟨u,r,?_⟩;rcases l with l | ⟨k,c,e,z⟩
  ·exact .inl l
  ·exact .inr ⟨k,c,e,g x c e _ z⟩
 ·obtain⟨v,z⟩:=I.cell x c e;exact⟨v,g x c e v z⟩
 ·obtain⟨m,⟨o,_,_,A,_⟩,_⟩:=I.loc;exact free _ o (λz=>(f _ z).2.1 rfl) A I.free
 ·obtain⟨v,o,A,hd⟩:=I.cell x c e;exact free c o (λz=>(f c z).2.2.1 x c e rfl) A<|I.freeC x c e
 ·obtain⟨e,n,ne,F,d⟩:=I.pin p E;have h:p.1∉ch:=λz=>(f p.1 z).2.2.2 p E rfl;exact⟨keep p.1 p.2 ne F h e n,free p.1 p.2 h e n,ne,F,d⟩
def Inv.un{t':Nat}(I:Inv X pins σ H s)(u:Un X.fs [] H H' s.heap h')(hok:HOk X.prog X.w H' h'):Inv X pins σ H' {s with heap:=h',toks:=t'}:=by
 obtain⟨m,⟨o,k,l,g,r⟩,_⟩:=id I.loc;obtain⟨p,h⟩:=u.any g I.free (by simp);exact I.step (g':=s.gens) (d':=s.drawn) (ch:=[]) (λ_ z=>nomatch z) (λb o _ c _ e n=>u.keep b o e n c<|by simp) (λb o _ c _ e n=>u.slot b o e n c<|by simp) (λb o _ e n=>u.free b o e n<|by simp) (λb o _ e=>u.there b o e<|by simp) u.tups u.frzs u.tbls (λq i=>by
  obtain⟨t,d,f,a,j⟩:=i;rw[g] at a;cases a;exact⟨_,d,f,h,j⟩) hok I.bare
def Inv.call{g':Array GenState}{t':Nat}{ch:W6}(I:Inv X pins σ H s)(u:Un (frs X.stack) ch H H' s.heap h')(hok:HOk X.prog X.w H' h')(k:AllBare g')
  (d:∀ b∈ch,(b∈X.ex\/X.s₀.heap.objs.size<=b)/\b≠X.env.locals/\(∀ x c,X.env.cells.lookup x=some c->c≠b)/\∀ p∈X.pn++pins,p.1≠b):
  Inv X pins σ H' {s with heap:=h',gens:=g',drawn:=d',toks:=t'}:=by
 obtain⟨m,⟨o,v,y,j,r⟩,_⟩:=id I.loc;obtain⟨A,g⟩:=u.any j I.free λz=>(d _ z).2.1 rfl;exact I.step (ch:=ch) d (λb o g l a e n=>u.keep b o e n (λz=>(M4.mp<|I.stkSub b z).elim g l) a) (λb o _ _ a e n=>u.any e n a) (λb o a e n=>u.free b o e n a) (λb o a e=>u.there b o e a) u.tups u.frzs u.tbls (λB q=>by
  obtain⟨C,h,i,f,t⟩:=q;rw[j] at f;cases f;exact⟨_,h,i,g,t⟩) hok k
def Inv.turned{t':Nat}(I:Inv X pins σ H s)(k:∀ b o,b≠it->s.heap.get? b=some o->h'.get? b=some o)(g:H it=none)(f:it≠X.env.locals)
  (h1:it∈X.ex\/X.s₀.heap.objs.size<=it) (h2:∀ x c,X.env.cells.lookup x=some c->c≠it) (h:∀ p∈X.pn++pins,p.1≠it):Inv X pins σ H {s with heap:=h',toks:=t'}:=by
 have d:∀ b u,H b=some u->b≠it:=λb u e z=>by rw[z,g] at e;cases e
 refine I.step (g':=s.gens) (d':=s.drawn) (ch:=[it]) (λb i=>?_) (λb o _ _ a e _=>k b o (λz=>a<|by simp[z]) e) (λb o _ _ a e _=>⟨o.slots,k b o (λz=>a<|by simp[z]) e⟩) (λ_ _ _ _ n=>n)
  (λb o a e=>⟨o,k b o (λz=>a<|by simp[z]) e⟩) (λ_ _ e=>e) (λ_ _ _ e=>e) (λb y e=>⟨#[],by rw[e];simp⟩) (λm j=>?_) (λb u e=>?_) I.bare
 ·have e:b=it:=by simpa using i
  subst e;exact⟨h1,f,h2,h⟩
 ·obtain⟨o,l,t,w,r⟩:=j;exact⟨o,l,t,k _ o (Ne.symm f) w,r⟩
 ·refine(I.hok b u e).stay (λc v a q=>k c v ?_ q) (λ_ q=>q) λ_ _ q=>q;rcases a with z | z
  ·rw[z];exact d b u e
  ·exact d c _ z
def Inv.tok(I:Inv X pins σ H s)(t:Nat):Inv X pins σ H {s with toks:=t}:=I.un (h':=s.heap) (t':=t) Un.refl I.hok
def Inv.kept(I:Inv X pins σ H s)(k:∀ b u,s.heap.get? b=some u->h'.get? b=some u):Inv X pins σ H {s with heap:=h',toks:=t'}:=I.un (Un.kept k)<|I.hok.kept k
def Inv.laid(I:Inv X pins σ H s)(k:∀ b u,s.heap.get? b=some u->h'.get? b=some u)(c:↥s<=a)(new:ObjOk X.prog X.w (upd H a o) h' a o):
  Inv X pins σ (upd H a o) {s with heap:=h',toks:=t'}:=I.un (Un.laid k c<|I.hok.fresh c)<|I.hok.laid k c new
def Inv.write(I:Inv X pins σ H s)(c:Mut<|H x)(d:e=x\/H e=some (.own x))(k:∀ b u,b≠e->s.heap.get? b=some u->h'.get? b=some u)(a:∃ u,h'.get? e=some u)
  (new:ObjOk X.prog X.w (upd H x o) h' x o):Inv X pins σ (upd H x o) {s with heap:=h',toks:=t'}:=I.un (Un.write c d k a)<|I.hok.write c d k a new
def Inv.pins_of(I:Inv X pins σ H s)(h:∀ p∈pins',s.heap.get? p.1=some p.2/\H p.1=none/\p.1≠X.env.locals/\p.1∉X.fs/\∀ v,p.2.data≠.cell v):Inv X pins' σ H s :=
 ⟨I.ok,I.os,I.bare,I.base,I.loc,I.cell,I.free,I.freeC,λp a=>(N1.mp a).elim (λz=>I.pin p<|List.mem_append_left _ z) (h p),I.hok,I.len⟩
def wX{N:List Str}(c:N.Nodup){i j:Nat}(a:N[i]?=some x)(b:N[j]?=some x):i=j:=by
 obtain⟨e,d⟩:=L8.mp a;obtain⟨f,e2⟩:=L8.mp b;exact(List.getElem_inj c).mp (d.trans e2.symm)
def jaX(I:Inv X pins σ H s)(hN:X.N.Nodup)(hi:X.N[i]?=some x)(B:Loc X.env.scope x)(r:RelV v u)
  (h:∀ s',Inv X pins (σ.set i<|some v) H s'->(∃ a,Heap.SameBut a s.heap s'.heap/\(a=X.env.locals\/X.env.cells.lookup x=some a))->Q () s') (hf:X.fn x=true\/X.env.scope.names.lookup x=some .local:=by first | exact .inl rfl | exact .inr rfl | assumption):wpAny M A (storeName X.env x u) Q E s:=by
 obtain⟨m,W,hl⟩:=id I.loc;have L:(X.env.scope.kind==.class||(X.env.scope.kind==.module&&X.env.locals != X.env.globals))=false:=by rw[I.ok.kind];rfl
 have O:i<σ.length:=by rw[I.len];exact(L8.mp hi).1
 have cne:=I.cne;have g:∀{a:Addr}{K:Heap},(∃ o,s.heap.get? a=some o/\H a=none)->Heap.SameBut a s.heap K->HOk X.prog X.w H K:=λ{a K} ha f b ob e=>by
  obtain⟨_,_,C⟩:=ha;refine(I.hok b ob e).stay (λc U t q=>(f.2 c ?_).trans q) (λ_ q=>q) λ_ _ q=>q;rintro rfl;rcases t with rfl | t
  ·rw[C] at e;cases e
  ·rw[C] at t;cases t
 rcases B with D | D
 ·refine wpAny_storeName_local D W (λK Y f=>?_) L;obtain⟨oL,_,_,Z,_⟩:=id W;refine h _ ⟨I.ok,I.os,I.bare,⟨λb o e n F B=>?_,λb o e n F B=>?_,I.base.free,λb o e B=>?_,I.base.tups,I.base.frzs,I.base.tbls⟩,⟨_,Y,λj y v' l e2 e3=>?_⟩,λy c e=>?_,I.free,I.freeC,λp hp=>?_,g ⟨oL,Z,I.free⟩ f,by simpa using I.len⟩ ⟨_,f,.inl rfl⟩
  ·exact(f.2 b<|N5<|U3 (N0 e) I.ok.above).trans (I.base.keep b o e n F B)
  ·obtain⟨sl,l⟩:=I.base.slot b o e n F B;exact⟨sl,(f.2 b<|N5<|U3 (N0 e) I.ok.above).trans l⟩
  ·obtain⟨o',l⟩:=I.base.there b o e B;exact⟨o',(f.2 b<|N5<|U3 (N0 e) I.ok.above).trans l⟩
  ·by_cases G:j=i
   ·subst G;rw[hi] at l;cases l;rw[List.getElem?_set_self O] at e2;cases e2;exact⟨u,r,.inl ⟨D,by simp⟩⟩
   ·rw[List.getElem?_set_ne<|Ne.symm G] at e2;obtain⟨u',r',q⟩:=hl j y v' l e2 e3;refine⟨u',r',?_⟩;rcases q with⟨k,e⟩ | ⟨k,c,e,z⟩
    ·refine .inl ⟨k,?_⟩;have:y≠x:=λe=>G<|wX hN l<|e▸hi;simp[this,e]
    ·exact .inr ⟨k,c,e,z.sameBut f<|cne y c e⟩
  ·obtain⟨U,z⟩:=I.cell y c e;exact⟨U,z.sameBut f<|cne y c e⟩
  ·obtain⟨e,n,ne,nf,d⟩:=I.pin p hp;exact⟨(f.2 p.1 ne).trans e,n,ne,nf,d⟩
 ·have J:X.fn x=true:=by
   rcases hf with z | z
   ·exact z
   ·rw[z] at D;cases D
  obtain⟨c,t⟩:=I.ok.has x<|.inl D;obtain⟨U,z⟩:=I.cell x c t;refine wpAny_storeName_cell I.ok.kind D t z<|λK P f=>?_;obtain⟨oc,R,S⟩:=id z;refine h {s with heap:=K} ⟨I.ok,I.os,I.bare,⟨λb o e n F B=>?_,λb o e n F B=>?_,I.base.free,λb o e B=>?_,I.base.tups,I.base.frzs,I.base.tbls⟩,⟨m,W.sameBut f<|Ne.symm<|cne x c t,λj y v' l e2 e3=>?_⟩,λy V e=>?_,I.free,I.freeC,λp hp=>?_,g ⟨oc,R,I.freeC x c t⟩ f,by simpa using I.len⟩ ⟨c,f,.inr t⟩
  ·exact(f.2 b<|N5<|U3 (N0 e)<|I.ok.cab x c J t).trans (I.base.keep b o e n F B)
  ·obtain⟨sl,l⟩:=I.base.slot b o e n F B;exact⟨sl,(f.2 b<|N5<|U3 (N0 e)<|I.ok.cab x c J t).trans l⟩
  ·obtain⟨o',l⟩:=I.base.there b o e B;exact⟨o',(f.2 b<|N5<|U3 (N0 e)<|I.ok.cab x c J t).trans l⟩
  ·by_cases G:j=i
   ·subst G;rw[hi] at l;cases l;rw[List.getElem?_set_self O] at e2;cases e2;exact⟨u,r,.inr ⟨.inl D,c,t,P⟩⟩
   ·rw[List.getElem?_set_ne<|Ne.symm G] at e2;obtain⟨u',r',q⟩:=hl j y v' l e2 e3;refine⟨u',r',?_⟩;rcases q with q | ⟨k,V,e,z'⟩
    ·exact .inl q
    ·refine .inr ⟨k,V,e,z'.sameBut f ?_⟩;rintro rfl;exact G<|wX hN l<|I.ok.inj _ _ _ e t▸hi
  ·by_cases T:V=c
   ·subst T;exact⟨_,P⟩
   ·obtain⟨w2,z2⟩:=I.cell y V e;exact⟨w2,z2.sameBut f T⟩
  ·obtain⟨e,n,ne,nf,d⟩:=I.pin p hp;refine⟨(f.2 p.1 ?_).trans e,n,ne,nf,d⟩;intro q;rw[q,R] at e;have q':oc=p.2:=X7 e;exact d U (by rw[<- q'];exact S)
def YU(I:Inv X pins σ H s)(a:X.N.Nodup)(hi:X.N[i]?=some x)(b:Loc X.env.scope x)(r:RelV v u)
  (h:∀ s',Inv X pins (σ.set i<|some v) H s'->Q () s') (c:X.fn x=true\/X.env.scope.names.lookup x=some .local:=by first | exact .inl rfl | exact .inr rfl | assumption):wpAny M A (storeName X.env x u) Q E s :=
 jaX I a hi b r (λs' d _=>h s' d) c
end
abbrev XK:=Value->Option Addr->Hp->Prop
noncomputable abbrev St:=List<|Option V
abbrev VK:=V->Hp->Prop
abbrev TE:=St->Hp->VK->Prop
abbrev TT:=St->Hp->(Bool->Hp->Prop)->Prop
abbrev TA:=St->Hp->(List V->Hp->Prop)->Prop
structure Ends where
 nx:St->Hp->Prop
 rt:VK
 bk:St->Hp->Prop:=λ_ _=>False
 ct:St->Hp->Prop:=λ_ _=>False
abbrev TS:=Ends->St->Hp->Prop
def EP(X:Cx)(pins:W1)(σ:St)(Q:VK)(u:Value)(s':Shared):Prop:=∃ v H',Inv X pins σ H' s'/\RelV v u/\Q v H'
def TP(X:Cx)(pins:W1)(σ:St)(Q:Bool->Hp->Prop)(b:Bool)(s':Shared):Prop:=∃ H',Inv X pins σ H' s'/\Q b H'
def AP(X:Cx)(pins:W1)(σ:St)(Q:List V->Hp->Prop)(us:List Value)(s':Shared):Prop:=∃ vs H',Inv X pins σ H' s'/\Vals vs us/\Q vs H'
def SP(X:Cx)(pins:W1)(D:Ends)(f:Flow)(s':Shared):Prop :=
 match f with
 | .next=>∃ σ' H',Inv X pins σ' H' s'/\D.nx σ' H'
 | .brk=>∃ σ' H',Inv X pins σ' H' s'/\D.bk σ' H'
 | .cont=>∃ σ' H',Inv X pins σ' H' s'/\D.ct σ' H'
 | .ret u=>∃ v σ' H',Inv X pins σ' H' s'/\RelV v u/\D.rt v H'
def PE(X:Cx)(e:Expr)(t:TE):Prop :=
 ∀(pins:W1) (s:Shared) (σ:St) (H:Hp) (Q:VK),Inv X pins σ H s->t σ H Q->wpAny (model X.prog X.w) X.A (eval e X.env) (EP X pins σ Q) X.xe s
def PT(X:Cx)(e:Expr)(t:TT):Prop :=
 ∀(pins:W1) (s:Shared) (σ:St) (H:Hp) (Q:Bool->Hp->Prop),Inv X pins σ H s->t σ H Q->wpAny (model X.prog X.w) X.A (isTrue e X.env<|eval e X.env) (TP X pins σ Q) X.xe s
def PW(X:Cx)(e:Expr)(t:TT):Prop :=
 ∀(whole:Sem Value) (pins:W1) (s:Shared) (σ:St) (H:Hp) (Q:Bool->Hp->Prop),Inv X pins σ H s->t σ H Q->wpAny (model X.prog X.w) X.A (isTrue e X.env whole) (TP X pins σ Q) X.xe s
def PW.pt(h:PW X e t):PT X e t:=h _
def PA(X:Cx)(es:List Expr)(t:TA):Prop :=
 ∀(pos:Pos) (pins:W1) (s:Shared) (σ:St) (H:Hp) (Q:List V->Hp->Prop),Inv X pins σ H s->t σ H Q->wpAny (model X.prog X.w) X.A (spliced<|backTo pos<|starEach es X.env) (AP X pins σ Q) X.xe s
def PS(X:Cx)(st:Stmt)(t:TS):Prop :=
 ∀(pins:W1) (s:Shared) (σ:St) (H:Hp) (D:Ends),Inv X pins σ H s->t D σ H->wpAny (model X.prog X.w) X.A (exec st X.env) (SP X pins D) X.xe s
def PSs(X:Cx)(st:List Stmt)(t:TS):Prop :=
 ∀(pins:W1) (s:Shared) (σ:St) (H:Hp) (D:Ends),Inv X pins σ H s->t D σ H->wpAny (model X.prog X.w) X.A (execs st X.env) (SP X pins D) X.xe s
def thn(h:wpAny M A t Q E s)(b:∀ a s,Q a s->Q' a s):wpAny M A t Q' E s:=wpAny_mono h b λ_ _ x=>x
section
variable {X:Cx}
noncomputable def v8(i:Nat):TE:=λσ H Q=>∃ v,σ[i]?=some (some v)/\Q v H
noncomputable def tC(v:V):TE:=λ_ H Q=>Q v H
def jfS(k:X.N[i]?=some x)(n:Vis X.env.scope x)(hd:(x==("__debug__" : Str))=false:=by decide)(g:(x==("__classdict__" : Str))=false:=by decide):PE X (.Name x pos) (v8 i):=by
 intro f s σ H Q I h;obtain⟨v,e,h⟩:=h;obtain⟨m,o,p⟩:=I.loc;obtain⟨u,r,l⟩:=p i x v k e n;have b:EP X f σ Q u s:=⟨v,H,I,r,h⟩;rcases l with⟨d,q⟩ | ⟨d,c,j,a⟩
 ·exact wpAny_Name (wpAny_loadName_local I.ok.kind d o q b) hd
 ·rcases d with d | d
  ·exact wpAny_Name (wpAny_loadName_cell I.ok.kind d j a b) hd
  ·exact wpAny_Name (wpAny_loadName_free I.ok.kind d j a b g) hd
def jjG{i j pos}:PE X (.Constant (.int i) j pos) (tC<|.int i):=λ_ _ _ H _ I h=>wpAny_Constant_int ⟨.int i,H,I.tok _,⟨_,rfl⟩,h⟩
def jl5{b j pos}:PE X (.Constant (.bool b) j pos) (tC<|.bl b):=λ_ _ _ H _ I h=>Constant_bool ⟨.bl b,H,I,rfl,h⟩
def jlk{j pos}:PE X (.Constant .none j pos) (tC .non):=λ_ _ _ H _ I h=>Constant_none ⟨.non,H,I,rfl,h⟩
def ji5{x j pos}:PE X (.Constant (.str x) j pos) (tC<|.str x):=λ_ _ _ H _ I h=>Calls.Constant_str ⟨.str x,H,I.tok _,⟨_,rfl⟩,h⟩
def Gl(X:Cx)(x:Str):Prop:=X.env.kindOf x=some .globalImplicit
def jcq(I:Inv X pins σ H s)(a:Gl X x)(b:X.mg x=some u)(h:Q u s)
  (hd:(x==("__debug__" : Str))=false:=by decide):wpAny (model X.prog X.w) X.A (eval (.Name x pos) X.env) Q E s :=
 Calls.Name_function_global I.ok.kind a (Calls.loadGlobal_global (by rw[I.ok.glob];exact I.mod.glob.keeps I.bk) b h) hd
def JM(I:Inv X pins σ H s)(a:Gl X x)(b:X.mg x=none)(c:bootBuiltins x=some u)(h:Q u s)
  (d:x≠"__name__":=by decide) (hd:(x==("__debug__" : Str))=false:=by decide):wpAny (model X.prog X.w) X.A (eval (.Name x pos) X.env) Q E s:=by
 obtain⟨g,e,f⟩:=I.mod.blt;exact Calls.Name_function_global I.ok.kind a (Calls.loadGlobal_builtin (by rw[I.ok.glob];exact I.mod.glob.keeps I.bk) b (by rw[I.ok.blt];exact e.keeps I.bk) ((f x d).trans c) h) hd
def jgU(a:Gl X x)(b:X.mg x=none)(c:bootBuiltins x=some u)(r:RelV v u)(d:x≠"__name__":=by decide)(hd:(x==("__debug__" : Str))=false:=by decide):PE X (.Name x pos) (tC v) :=
 λ_ _ _ H _ I h=>JM I a b c ⟨v,H,I,r,h⟩ d hd
variable {a b:Expr}{ta tb:TE}{pos:Pos}
def PC(X:Cx)(op:CmpOp)(a b:Expr)(t:TE):Prop :=
 ∀(pins:W1) (s:Shared) (σ:St) (H:Hp) (Q:VK),Inv X pins σ H s->t σ H Q ->
  wpAny (model X.prog X.w) X.A (eval a X.env) (λv s₁=>wpAny (model X.prog X.w) X.A (eval b X.env) (λu s₂=>wpAny (model X.prog X.w) X.A (compareOp op v u) (EP X pins σ Q) X.xe s₂) X.xe s₁) X.xe s
def jfe(b:Expr)  (h:op≠.In) (h2:op≠.NotIn):behindInMarks op b=false:=by
 have a:(op==CmpOp.In)=false:=by cases op<;>first | rfl | exact absurd rfl h
 have e2:(op==CmpOp.NotIn)=false:=by cases op<;>first | rfl | exact absurd rfl h2
 cases b<;>simp[behindInMarks,a,e2]
noncomputable def tB(t:TE):TT:=λσ H Q=>t σ H λx H1=>∃ c,x=.bl c/\Q c H1
def jjK(h:PC X op a b t)(h1:behindInMarks op b=false:=by first | exact jfe _ (by decide) (by decide) | rfl):PE X (.Compare a [op] [b] pos) t:=λc s σ H Q I d=>wpAny_Compare1 (h c s σ H Q I d) h1
def jfx(h:PE X e t)(b:∀ whole,isTrue e X.env whole=(do let v <- whole;standAt e.pos;holding [v] (truthy v)):=by intro _;rfl):PT X e (tB t):=by
 intro a s σ H Q I c;refine isTrue_plain (thn (h a s σ H _ I c) λv s1 ⟨x,f,g,i,j⟩=>?_)<|b _;obtain⟨d,rfl,q⟩:=j;cases i;exact wpAny_truthy_bool ⟨f,g,q⟩
variable {tA tB':TT}{rest:List Expr}
noncomputable def jmu(t u:TT):TT:=λσ H Q=>t σ H λc H1=>if c=true then u σ H1 Q else Q false H1
noncomputable def tOr(t u:TT):TT:=λσ H Q=>t σ H λc H1=>if c=true then Q true H1 else u σ H1 Q
noncomputable def jkT(t:TT):TT:=λσ H Q=>t σ H λc H1=>Q (!c) H1
def jhr(d:PT X a tA):PW X (.BoolOp .And [a] pos) tA:=by
 intro f b s σ H Q I h;refine isTrue_and<|thn (d b s σ H Q I h) λc s1 e=>?_;cases c with
 | true=>exact isTrue_and_nil e
 | false=>exact e
def jj2(d:PT X a tA):PW X (.BoolOp .Or [a] pos) tA:=by
 intro f b s σ H Q I h;refine isTrue_or<|thn (d b s σ H Q I h) λc s1 e=>?_;cases c with
 | false=>exact isTrue_or_nil e
 | true=>exact e
def jkz(i:PT X a tA)(j:PW X (.BoolOp .And (b::rest) pos) tB'):PW X (.BoolOp .And (a::b::rest) pos) (jmu tA tB'):=by
 intro k d s σ H Q I h;refine isTrue_and<|thn (i d s σ H _ I h) λc s1 ⟨e,f,g⟩=>?_;cases c with
 | true=>exact j k d s1 σ e Q f g
 | false=>exact⟨e,f,g⟩
def jlO(i:PT X a tA)(j:PW X (.BoolOp .Or (b::rest) pos) tB'):PW X (.BoolOp .Or (a::b::rest) pos) (tOr tA tB'):=by
 intro k d s σ H Q I h;refine isTrue_or<|thn (i d s σ H _ I h) λc s1 ⟨e,f,g⟩=>?_;cases c with
 | true=>exact⟨e,f,g⟩
 | false=>exact j k d s1 σ e Q f g
def jfV(d:PT X a tA):PT X (.UnaryOp .Not a pos) (jkT tA):=by
 intro b s σ H Q I h;exact isTrue_not<|d b s σ H (λc e=>Q (!c) e) I h
noncomputable def jiH(ta tb:TE):TE:=λσ H Q=>ta σ H λx H1=>∃ c,x=.bl c/\if c=true then tb σ H1 Q else Q (.bl false) H1
noncomputable def jil(ta:TE):TE:=λσ H Q=>ta σ H λx H1=>∃ c,x=.bl c/\Q (.bl<|!c) H1
def jll{op}(h:PE X a t):PE X (.BoolOp op [a] pos) t:=λb s σ H Q I c=>BoolOp_one<|h b s σ H Q I c
def jkv(i:PE X a ta)(j:PE X (.BoolOp .And (b::rest) pos) tb):PE X (.BoolOp .And (a::b::rest) pos) (jiH ta tb):=by
 intro d s σ H Q I h;refine BoolOp_and<|thn (i d s σ H _ I h) λv s1 k=>?_;obtain⟨x,f,g,l,e⟩:=k;obtain⟨c,rfl,e⟩:=e;cases l;refine wpAny_truthy_bool ?_;cases c with
 | true=>exact j d s1 σ f Q g e
 | false=>exact⟨.bl false,f,g,rfl,e⟩
def jk0(e:PE X a ta):PE X (.UnaryOp .Not a pos) (jil ta):=by
 intro b s σ H Q I h;refine UnaryOp_<|thn (e b s σ H _ I h) λv s1 f=>?_;obtain⟨x,g,i,j,d⟩:=f;obtain⟨c,rfl,d⟩:=d;cases j;exact not_of<|wpAny_truthy_bool ⟨.bl<|!c,g,i,rfl,d⟩
noncomputable def tIf(t:TT)(ta tb:TE):TE:=λσ H Q=>t σ H λc H1=>if c=true then ta σ H1 Q else tb σ H1 Q
def jdZ(j:PT X c tA)(k:PE X a ta)(l:PE X b tb):PE X (.IfExp c a b pos) (tIf tA ta tb):=by
 intro e s σ H Q I h;refine wpAny_IfExp<|thn (j e s σ H _ I h) λd s1 ⟨f,g,i⟩=>?_;cases d with
 | true=>exact k e s1 σ f Q g i
 | false=>exact l e s1 σ f Q g i
end
def SqL(K:W5)(H:Hp)(a:Addr)(xs:List V):Prop :=
 Rd H a (.lst xs) \/
  ∃(o:Obj) (its:Array Value) (n:Nat),K.lookup a=some o/\o.cls=.type "list"/\o.dict=none/\o.data=.seq its n/\its.size<=sizeLine/\Vals xs its.toList
def SqT(K:W5)(H:Hp)(a:Addr)(xs:List V):Prop :=
 Rd H a (.tup xs) \/
  ∃(o:Obj) (its:Array Value) (n:Nat),K.lookup a=some o/\o.cls=.type "tuple"/\o.data=.seq its n/\its.size<=sizeLine/\Vals xs its.toList
noncomputable def jnT:Value->Option V
 | .none=>some .non
 | .bool b=>some<|.bl b
 | .int i _=>some<|.int i
 | .str x _=>some<|.str x
 | .bytes b _=>some<|.byt b
 | .float b _=>some<|.flt b
 | .ref a=>some<|.ref a
 | .type n=>some<|.ty n
 | _=>none
def RelV.abs(r:RelV x u):jnT u=some x:=by
 cases x with
 | non=>cases r;rfl
 | bl _=>cases r;rfl
 | int _=>obtain⟨t,rfl⟩:=r;rfl
 | str _=>obtain⟨t,rfl⟩:=r;rfl
 | byt _=>obtain⟨t,rfl⟩:=r;rfl
 | flt _=>obtain⟨t,rfl⟩:=r;rfl
 | ref _=>cases r;rfl
 | ty _=>cases r;rfl
def RelV.inj(r:RelV x u)(q:RelV y u):x=y:=X7<|r.abs.symm.trans q.abs
theorem Vals.inj:∀{xs ys:List V}{us:List Value},Vals xs us->Vals ys us->xs=ys
 | _,_,_,.nil,.nil=>rfl
 | _,_,_,.cons r t,.cons a b=>by rw[r.inj a,Vals.inj t b]
section
variable {X:Cx}{pins:List (Addr×Obj)}{σ:St}{H:Hp}{s:Shared}{a:Addr}{xs ys:List V}
def SqL.of{K:W5}(h:H a=some (.lst xs)):SqL K H a xs:=.inl<|.inl h
def SqT.of{K:W5}(h:H a=some (.tup xs)):SqT K H a xs:=.inl<|.inl h
def Inv.list(I:Inv X pins σ H s)(h:SqL X.K H a xs):∃ its:List Value,Vals xs its/\PlainL s.heap a its.toArray/\xs.length<=sizeLine:=by
 rcases h with h | ⟨o,its,n,b,c,hd,d,f,r⟩
 ·obtain⟨z,its,n,r,e⟩:=h.ok I.hok;exact⟨its,r,⟨_,n,e,rfl,rfl,rfl⟩,z⟩
 ·refine⟨its.toList,r,⟨o,n,I.kIn a o b,c,hd,by simpa using d⟩,?_⟩;have e:=r.length;simp only[Array.length_toList] at e
  lia
def Inv.tuple(I:Inv X pins σ H s)(h:SqT X.K H a xs):∃ its:List Value,Vals xs its/\IsTup s.heap a its.toArray/\xs.length<=sizeLine:=by
 rcases h with h | ⟨o,its,n,b,c,d,f,r⟩
 ·obtain⟨z,its,r,p⟩:=h.ok I.hok;exact⟨its,r,p.1,z⟩
 ·refine⟨its.toList,r,⟨o,I.kIn a o b,c,n,by simpa using d⟩,?_⟩;have e:=r.length;simp only[Array.length_toList] at e
  lia
def Inv.list_inj(I:Inv X pins σ H s)(h:SqL X.K H a xs)(h':SqL X.K H a ys):xs=ys:=by
 obtain⟨c,r,⟨o,n,e,_,_,d⟩,_⟩:=I.list h;obtain⟨b,i,⟨j,k,f,_,_,g⟩,_⟩:=I.list h';rw[e] at f;cases f;rw[d] at g;injection g with d1 _;have:c=b:=by simpa using congrArg Array.toList d1
 subst this;exact r.inj i
def Inv.tuple_inj(I:Inv X pins σ H s)(h:SqT X.K H a xs)(h':SqT X.K H a ys):xs=ys:=by
 obtain⟨c,r,⟨o,e,_,n,d⟩,_⟩:=I.tuple h;obtain⟨b,i,⟨j,f,_,k,g⟩,_⟩:=I.tuple h';rw[e] at f;cases f;rw[d] at g;injection g with d1 _;have:c=b:=by simpa using congrArg Array.toList d1
 subst this;exact r.inj i
end
noncomputable abbrev Cx.wish(X:Cx)(E:W0):Cx:={X with xe:=E}
noncomputable abbrev Cx.nox(X:Cx):Cx:=X.wish λ_ _=>False
def Cx.Ok.wish{X:Cx}(ok:X.Ok)(E:W0):(X.wish E).Ok :=
 ⟨ok.mod,ok.kind,ok.glob,ok.blt,ok.above,ok.inj,ok.has,ok.cab,ok.hd,ok.frames,ok.stk,ok.exf,ok.bs,ok.bsz,ok.noex,ok.exfs,ok.funs,ok.frf⟩
def Cx.Ok.unwish{X:Cx}{E:W0}(ok:(X.wish E).Ok):X.Ok :=
 ⟨ok.mod,ok.kind,ok.glob,ok.blt,ok.above,ok.inj,ok.has,ok.cab,ok.hd,ok.frames,ok.stk,ok.exf,ok.bs,ok.bsz,ok.noex,ok.exfs,ok.funs,ok.frf⟩
section
variable {X:Cx}{pins:List (Addr×Obj)}{σ:St}{H:Hp}{s:Shared}{E:W0}
def Inv.wish(I:Inv X pins σ H s)(E:W0):Inv (X.wish E) pins σ H s:=⟨I.ok.wish E,I.os,I.bare,I.base,I.loc,I.cell,I.free,I.freeC,I.pin,I.hok,I.len⟩
def Inv.unwish(I:Inv (X.wish E) pins σ H s):Inv X pins σ H s:=⟨I.ok.unwish,I.os,I.bare,I.base,I.loc,I.cell,I.free,I.freeC,I.pin,I.hok,I.len⟩
def SP.unwish(h:SP (X.wish E) pins D f s'):SP X pins D f s':=by
 cases f with
 | next=>obtain⟨a,b,I,q⟩:=h;exact⟨a,b,I.unwish,q⟩
 | brk=>obtain⟨a,b,I,q⟩:=h;exact⟨a,b,I.unwish,q⟩
 | cont=>obtain⟨a,b,I,q⟩:=h;exact⟨a,b,I.unwish,q⟩
 | ret u=>obtain⟨v,a,b,I,r,q⟩:=h;exact⟨v,a,b,I.unwish,r,q⟩
def PSs.nox{st:List Stmt}{t:TS}(h:PSs X.nox st t):PSs X st t:=λa s σ H D I b=>
 wpAny_mono (h a s σ H D (I.wish _) b) (λ_ _ q=>q.unwish) λ_ _ z=>False.elim z
end
section
variable {X:Cx}{st:Stmt}{rest:List Stmt}{t u:TS}{e:Expr}{te:TE}{pos:Pos}
noncomputable def jhh:TS:=λD σ H=>D.nx σ H
noncomputable def jml(t u:TS):TS:=λD σ H=>t {D with nx:=u D} σ H
def jhH:PSs X [] jhh:=λ_ _ σ H _ I h=>wpAny_execs_nil ⟨σ,H,I,h⟩
def jeQ(h1:PS X st t)(h2:PSs X rest u):PSs X (st::rest) (jml t u):=by
 intro a s σ H D I h;refine wpAny_execs_cons<|thn (h1 a s σ H {D with nx:=u D} I h) λf s1 q=>?_;cases f with
 | next=>
  obtain⟨b,c,d,q⟩:=q;exact h2 a s1 b c D d q
 | ret v=>exact q
 | brk=>exact q
 | cont=>exact q
def jgd(h1:PS X st t):PSs X [st] t:=by
 intro a s σ H D I h;refine wpAny_execs_cons<|thn (h1 a s σ H D I h) λf s1 q=>?_;cases f with
 | next=>exact wpAny_execs_nil q
 | ret v=>exact q
 | brk=>exact q
 | cont=>exact q
def Inv.quiet(I:Inv X pins σ H s):interactive X.env=false:=by simp[interactive,I.ok.kind]
noncomputable def V5(te:TE):TS:=λD σ H=>te σ H λ_ H1=>D.nx σ H1
def KZ(b:PE X e te)(c:swapsWith e none pos.line X.env=pure false:=by rfl):PS X (.Expr e pos) (V5 te):=by
 intro a s σ H D I h;exact wpAny_Expr_any (thn (b a s σ H _ I h) λv s1 ⟨x,d,f,i,g⟩=>⟨σ,d,f,g⟩) I.quiet c
noncomputable def jmt(te:TE):TS:=λD σ H=>te σ H D.rt
def jjL(b:PE X e te):PS X (.Return (some e) pos) (jmt te):=by
 intro a s σ H D I h;exact wpAny_Return_some<|thn (b a s σ H _ I h) λv s1 ⟨x,c,d,f,g⟩=>⟨x,σ,c,d,f,g⟩
noncomputable def jlC(c:TT)(t u:TS):TS:=λD σ H=>c σ H λb H1=>if b=true then t D σ H1 else u D σ H1
def jk9(j:PT X c tc)(k:PSs X a t)(l:PSs X b u):PS X (.If c a b pos) (jlC tc t u):=by
 intro e s σ H D I h;refine wpAny_If<|thn (j e s σ H _ I h) λd s1 ⟨f,g,i⟩=>?_;cases d with
 | true=>exact k e s1 σ f D g i
 | false=>exact l e s1 σ f D g i
end
abbrev TG:=V->St->Hp->(St->Hp->Prop)->Prop
abbrev TGs:=List V->St->Hp->(St->Hp->Prop)->Prop
def PG(X:Cx)(target:Expr)(t:TG):Prop :=
 ∀(pins:W1) (s:Shared) (σ:St) (H:Hp) (v:V) (u:Value) (Q:St->Hp->Prop),Inv X pins σ H s->RelV v u->t v σ H Q ->
  wpAny (model X.prog X.w) X.A (assign target X.env u) (λ_ s'=>∃ σ' H',Inv X pins σ' H' s'/\Q σ' H') X.xe s
def PGs(X:Cx)(ts:List Expr)(t:TGs):Prop :=
 ∀(pins:W1) (s:Shared) (σ:St) (H:Hp) (vs:List V) (us:List Value) (Q:St->Hp->Prop),Inv X pins σ H s->Vals vs us->t vs σ H Q ->
  wpAny (model X.prog X.w) X.A (assignInOrder ((assignEach ts X.env).map (·.2)) us) (λ_ s'=>∃ σ' H',Inv X pins σ' H' s'/\Q σ' H') X.xe s
abbrev jnv:=V->V->V->Hp->(Hp->Prop)->Prop
def jnn(X:Cx)(t:jnv):Prop :=
 ∀(pins:W1) (s:Shared) (σ:St) (H:Hp) (o i v:V) (ov iv u:Value) (Q:Hp->Prop),Inv X pins σ H s->RelV o ov->RelV i iv->RelV v u->t o i v H Q ->
  wpAny (model X.prog X.w) X.A (setItem ov iv u) (λ_ s'=>∃ H',Inv X pins σ H' s'/\Q H') X.xe s
abbrev TIp:=V->V->Hp->VK->Prop
def PIp(X:Cx)(op:Operator)(t:TIp):Prop :=
 ∀(pins:W1) (s:Shared) (σ:St) (H:Hp) (x y:V) (v u:Value) (Q:VK),Inv X pins σ H s->RelV x v->RelV y u->t x y H Q ->
  wpAny (model X.prog X.w) X.A (inplaceOp op v u) (EP X pins σ Q) X.xe s
section
variable {X:Cx}{pos:Pos}
noncomputable def KY(i:Nat):TG:=λv σ H Q=>Q (σ.set i<|some v) H
def jc3(b:X.N.Nodup)(hi:X.N[i]?=some x)(c:Loc X.env.scope x)(d:X.fn x=true\/X.env.scope.names.lookup x=some .local:=by first | exact .inl rfl | exact .inr rfl | assumption):PG X (.Name x pos) (KY i):=by
 intro a s σ H v u Q I r h;exact wpAny_assign_Name<|YU I b hi c r (λf e=>⟨_,H,e,h⟩) d
noncomputable def jmL:TGs:=λvs σ H Q=>vs=[]/\Q σ H
noncomputable def jgz(t:TG)(u:TGs):TGs:=λvs σ H Q=>∃ v r,vs=v::r/\t v σ H λσ' H'=>u r σ' H' Q
def jhj:PGs X [] jmL:=by
 intro a s σ H b c Q I r h;obtain⟨e,h⟩:=h;subst e;cases r;exact assignInOrder_nil ⟨σ,H,I,h⟩
def jdH(h1:PG X e t)(h2:PGs X es u)
  (b:(assignEach (e::es) X.env).map (·.2)=assign e X.env::(assignEach es X.env).map (·.2):=by rfl):PGs X (e::es) (jgz t u):=by
 intro a s σ H l m Q I r h;obtain⟨v,n,c,h⟩:=h;subst c;cases r with
 | cons r d=>
  rw[b];refine assignInOrder_cons<|thn (h1 a s σ H _ _ _ I r h) λ_ s1 f=>?_;obtain⟨g,i,j,k⟩:=f;exact h2 a s1 g i _ _ Q j d k
noncomputable def jlN(K:W5)(n:Nat)(t:TGs):TG:=λv σ H Q=>∃ a xs,v=.ref a/\SqT K H a xs/\xs.length=n/\t xs σ H Q
def ji8(i:X.calm=true)(h:PGs X es t)
  (j:(assignEach es X.env).length=n:=by rfl) (d:(assignEach es X.env).findIdx? (·.1)=none:=by rfl):PG X (.Tuple es k pos) (jlN X.K n t):=by
 intro c s σ H v u Q I r f;obtain⟨a,l,m,p,q,f⟩:=f;subst m;cases r;obtain⟨w,g,x,B⟩:=I.tuple p;refine assign_Tuple_tuple (I.ok.hd i) x (by simp[j,<- q,g.length]) d λy z=>?_;have A:Inv X c σ H {s with heap:=y}:=I.kept (t':=s.toks) λb o e=>z b o (N5<|N0 e) e;exact h c _ σ H l _ Q A ⇑g f
noncomputable def jm0(to ti:TE)(t:jnv):TG:=λv σ H Q=>to σ H λo H1=>ti σ H1 λi H2=>t o i v H2 λH3=>Q σ H3
def jjQ(c:PE X o to)(hi:PE X i ti)(d:jnn X t)
  (e:∀ v,assign (.Subscript o i pos) X.env v=(do
   let ov <- holding [v] (eval o X.env)
   let iv <- holding [v,ov] (eval i X.env)
   standAt pos
   holding [v,ov,iv] (setItem ov iv v)
   release [v,ov,iv] []):=by intro _;rfl):PG X (.Subscript o i pos) (jm0 to ti t):=by
 intro a s σ H v u Q I r h;rw[e];refine L1<|wpAny_holding<|thn (c a s σ H _ I h) λov s1 b=>?_;obtain⟨x,f,g,j,k⟩:=b;refine L1<|wpAny_holding<|thn (hi a s1 σ f _ g k) λiv l b=>?_;obtain⟨y,m,n,p,q⟩:=b;refine L1<|wpAny_standAt<|L1<|wpAny_holding<|thn (d a l σ m x y v ov iv u _ n j p r q) λ_ B ⟨w,z,A⟩=>?_;exact wpAny_release ⟨σ,w,z,A⟩
noncomputable def jfY(te:TE)(g:TG):TS:=λD σ H=>te σ H λx H1=>g x σ H1 D.nx
def jfE(b:PE X e te)(c:PG X tg g)(d:swapsWithSole [tg] e pos.line X.env=pure false:=by rfl)(f:swappedStores [tg] e X.env=pure none:=by rfl)
  (h1:(assignEach [tg] X.env).map (·.2)=[assign tg X.env]:=by rfl):PS X (.Assign [tg] e pos) (jfY te g):=by
 intro a s σ H D I h;refine wpAny_Assign_stores (thn (b a s σ H _ I h) λv s1 i=>?_) d f;obtain⟨x,j,k,l,m⟩:=i;rw[h1];exact thn (c a s1 σ j x v _ k l m) λ_ n q=>q
def jlx(b:X.N.Nodup)(hi:X.N[i]?=some x)(c:Loc X.env.scope x)(d:PE X e te)(f:swapsWith e (some<|.Name x pos') pos.line X.env=pure false:=by rfl)(g:X.fn x=true\/X.env.scope.names.lookup x=some .local:=by first | exact .inl rfl | exact .inr rfl | assumption):
  PS X (.Assign [.Name x pos'] e pos) (jfY te<|KY i):=by
 intro a s σ H D I h;refine wpAny_Assign_Name (thn (d a s σ H _ I h) λv s1 j=>?_) f;obtain⟨y,k,l,m,n⟩:=j;exact YU l b hi c m (λp o=>⟨_,k,o,n⟩) g
noncomputable def jnf(i:Nat)(te:TE)(ti:TIp):TS:=λD σ H=>∃ x,σ[i]?=some (some x)/\te σ H λy H1=>ti x y H1 λz H2=>D.nx (σ.set i<|some z) H2
def jkc(n:X.N.Nodup)(hi:X.N[i]?=some x)(f:Loc X.env.scope x)(o:PE X e te)(p:PIp X op ti)(q:X.fn x=true\/X.env.scope.names.lookup x=some .local:=by first | exact .inl rfl | exact .inr rfl | assumption):
  PS X (.AugAssign (.Name x pos') op e pos) (jnf i te ti):=by
 intro a s σ H D I h;obtain⟨v,t,h⟩:=h;obtain⟨m,B,C⟩:=I.loc;have g:Vis X.env.scope x:=by rcases f with k | k;exact .inl k;exact .inr<|.inl k
 obtain⟨u,r,l⟩:=C i x v hi t g;refine wpAny_AugAssign_Name ?_;have go:wpAny (model X.prog X.w) X.A (eval e X.env) (λw E=>wpAny (model X.prog X.w) X.A (inplaceOp op u w) (λr F=>wpAny (model X.prog X.w) X.A (storeName X.env x r) (λ_=>SP X a D .next) X.xe F) X.xe E) X.xe s:=by
  refine thn (o a s σ H _ I h) λw s1 j=>?_;obtain⟨y,G,J,K,L⟩:=j;refine thn (p a s1 σ G v y u w _ J r K L) λz U j=>?_;obtain⟨V,M,O,P,Q⟩:=j;exact YU O n hi f P (λW R=>⟨_,M,R,Q⟩) q
 rcases l with⟨b,S⟩ | ⟨b,c,T,d⟩
 ·exact wpAny_loadName_local I.ok.kind b B S go
 ·rcases b with b | b
  ·exact wpAny_loadName_cell I.ok.kind b T d go
  ·rcases f with k | k
   ·have:X.env.scope.names.lookup x=some .free:=b;rw[k] at this;cases this
   ·have:X.env.scope.names.lookup x=some .free:=b;rw[k] at this;cases this
noncomputable def jf8(to ti te:TE)(tget:V->V->Hp->VK->Prop)(tip:TIp)(tset:jnv):TS:=λD σ H=>to σ H λo H1=>ti σ H1 λi H2=>tget o i H2 λx H3=>te σ H3 λy H4=>tip x y H4 λz H5=>tset o i z H5 λH6=>D.nx σ H6
def jnG(X:Cx)(t:V->V->Hp->VK->Prop):Prop :=
 ∀(pins:W1) (s:Shared) (σ:St) (H:Hp) (o i:V) (ov iv:Value) (Q:VK),Inv X pins σ H s->RelV o ov->RelV i iv->t o i H Q ->
  wpAny (model X.prog X.w) X.A (getItem ov iv) (EP X pins σ Q) X.xe s
def jgC(k:PE X o to)(hi:PE X i ti)(l:jnG X tget)(m:PE X e te)(n:PIp X op tip)(p:jnn X tset)
  (q:∀ ov iv new,augStore i ov iv new=(do holding [new,ov,iv] (setItem ov iv new);release [new,ov,iv] [];pure .next):=by intros;rfl):PS X (.AugAssign (.Subscript o i tpos) op e pos) (jf8 to ti te tget tip tset):=by
 intro a s σ H D I h;refine wpAny_AugAssign_SubscriptAny (thn (k a s σ H _ I h) λov s1 b=>?_) q;obtain⟨d,r,t,f,u⟩:=b;refine thn (hi a s1 σ r _ t u) λiv w b=>?_;obtain⟨g,x,y,j,z⟩:=b;refine thn (l a w σ x d g ov iv _ y f j z) λc A b=>?_;obtain⟨B,C,E,F,G⟩:=b;refine thn (m a A σ C _ E G) λv J b=>?_;obtain⟨K,L,M,N,O⟩:=b;refine thn (n a J σ L B K c v _ M F N O) λnew P b=>?_;obtain⟨Q,R,S,T,U⟩:=b;exact thn (p a P σ R d g Q ov iv new _ S f j T U) λ_ Z ⟨V,W,Y⟩=>⟨σ,V,W,Y⟩
noncomputable def ipI(f:Int->Int->Int):TIp:=λx y H Q=>∃ i j,x=.int i/\y=.int j/\Q (.int<|f i j) H
def jkp:PIp X .Add (ipI λi j=>i+j):=by
 intro a s σ H x y v u Q I b c h;obtain⟨i,j,d,e2,q⟩:=h;subst d;subst e2;obtain⟨t,rfl⟩:=b;obtain⟨e,rfl⟩:=c;exact iadd_int ⟨.int _,H,I.tok _,⟨_,rfl⟩,q⟩
def jlq:PIp X .Sub (ipI λi j=>i-j):=by
 intro a s σ H x y v u Q I b c h;obtain⟨i,j,d,e2,q⟩:=h;subst d;subst e2;obtain⟨t,rfl⟩:=b;obtain⟨e,rfl⟩:=c;exact isub_int ⟨.int _,H,I.tok _,⟨_,rfl⟩,q⟩
end
structure It where
 go:Nat->Hp->Prop
 yld:Nat->Hp->V->Hp->Prop
 stop:Nat->Hp->Prop
def jal(X:Cx)(pins:W1)(H:Hp)(b:Addr):Prop :=
 H b=none/\b≠X.env.locals/\b∉X.fs/\(b∈X.ex\/X.s₀.heap.objs.size<=b)/\(∀ x c,X.env.cells.lookup x=some c->c≠b)/\∀ p∈X.pn++pins,p.1≠b
def Inv.fpOk(I:Inv X pins σ H s)(a:↥s<=b)(d:H' b=none):jal X pins H' b:=by
 refine⟨d,Nat.ne_of_gt<|U3 I.lt a,I.nofs a,.inr<|N6 I.sz a,λx c e z=>?_,λp f z=>?_⟩
 ·obtain⟨v,q⟩:=I.cell x c e;exact absurd (U3 q.lt<|by rw[z];exact a)<|Nat.lt_irrefl _
 ·exact absurd (U3 (N0 (I.pin p f).1)<|by rw[z];exact a)<|Nat.lt_irrefl _
structure Turn(P:Program)(w:World)(K:W5)(tg:Expr)(J:It)(fp:W6)(it:Addr)(tn:Nat->Heap->Prop):Prop where
 mem:it∈fp
 obj:∀ i h,tn i h->∀ b∈fp,∃ o,h.get? b=some o/\∀ v,o.data≠.cell v
 keep:∀ i h h',tn i h->(∀ b∈fp,∀ o,h.get? b=some o->h'.get? b=some o)->tn i h'
 item:∀(X:Cx),X.prog=P->X.w=w->X.K=K->X.calm=true->∀(i:Nat) (pins:W1) (s:Shared) (σ:St) (H:Hp) (E:W0),Inv X pins σ H s->(∀ b∈fp,jal X pins H b)->tn i s.heap->J.go i H ->
  wpAny (model P w) X.A (pyNext<|.ref it) (λr s1=>∃ u,r=some u /\
   wpAny (model P w) X.A (letOwnedTupleGo tg (.ref it) u) (λ_ s2=>∃ x H',Inv X pins σ H' s2/\RelV x u/\J.yld i H x H'/\tn (i+1) s2.heap/\∀ b∈fp,H' b=none) E s1) E s
 done:∀(X:Cx),X.prog=P->X.w=w->X.K=K->X.calm=true->∀(i:Nat) (pins:W1) (s:Shared) (σ:St) (H:Hp) (E:W0),Inv X pins σ H s->(∀ b∈fp,jal X pins H b)->tn i s.heap->J.stop i H ->
  wpAny (model P w) X.A (pyNext<|.ref it) (λr s1=>r=none/\Inv X pins σ H s1) E s
 self:∀(A:Around) (i:Nat) (s:Shared) (Q:W0) (E:W0),tn i s.heap->Q (.ref it) s->wpAny (model P w) A (pyIter<|.ref it) Q E s
abbrev TI:=St->Hp->(It->Hp->Prop)->Prop
def PIE(X:Cx)(pins:W1)(σ:St)(tg:Expr)(R:It->Hp->Prop)(itv:Value)(s2:Shared):Prop :=
 ∃(it:Addr) (fp:W6) (tn:Nat->Heap->Prop) (J:It) (H':Hp),itv=.ref it/\Inv X pins σ H' s2/\Turn X.prog X.w X.K tg J fp it tn/\tn 0 s2.heap/\(∀ b∈fp,jal X pins H' b)/\R J H'
def PI(X:Cx)(tg iter:Expr)(wi:TI):Prop :=
 ∀(pins:W1) (s:Shared) (σ:St) (H:Hp) (R:It->Hp->Prop),Inv X pins σ H s->wi σ H R ->
  wpAny (model X.prog X.w) X.A (eval iter X.env) (λv s1=>wpAny (model X.prog X.w) X.A (pyIter v) (PIE X pins σ tg R) X.xe s1) X.xe s
def je7(b:s.heap.get? it=some o)(c:o.cls=.type n)(hd:o.data=.fields vs)
  (d:["enumerate","zip","dict_itemiterator","dict_reverseitemiterator","odict_iterator","itertools.zip_longest","itertools.pairwise"].contains n=false) (a:Q () s):wpAny M A (letOwnedTupleGo tg (.ref it) u) Q E s:=by
 unfold letOwnedTupleGo;cases tg<;>first
  | exact M6 a
  | (cases u<;>first
    | exact M6 a
    | (refine L1 (wpAny_load b ?_)
       rw[c,hd];show wpAny M A (if(["enumerate","zip","dict_itemiterator","dict_reverseitemiterator","odict_iterator","itertools.zip_longest","itertools.pairwise"].contains n&&vs[0]?==some (rawInt _))=true then _ else _) Q E s;rw[if_neg<|by intro h;rw[d,Bool.false_and] at h;cases h];exact M6 a))
noncomputable def Itl(K:W5)(a:Addr):It :=
 ⟨λi H=>∃ xs x,SqL K H a xs/\xs[i]?=some x,λi H x H'=>H'=H/\∀ xs,SqL K H a xs->xs[i]?=some x,λi H=>∃ xs,SqL K H a xs/\xs.length<=i⟩
noncomputable def Itt(K:W5)(a:Addr):It :=
 ⟨λi H=>∃ xs x,SqT K H a xs/\xs[i]?=some x,λi H x H'=>H'=H/\∀ xs,SqT K H a xs->xs[i]?=some x,λi H=>∃ xs,SqT K H a xs/\xs.length<=i⟩
noncomputable def Itr(lo:Int)(n:Nat):It:=⟨λi _=>i<n,λi H x H'=>H'=H/\x=.int (lo+i),λi _=>n<=i⟩
def ja2{P:Program}{w:World}{K:W5}{tg:Expr}(a j:Addr):Turn P w K tg (Itl K a) [j] j (λi h=>h.IsListIter j a i) where
 mem:=by simp
 obj:=λi h f b l=>by
  have e:b=j:=by simpa using l
  subst e;obtain⟨o,e,c,d⟩:=f;exact⟨o,e,λv z=>by rw[d] at z;cases z⟩
 keep:=λi h n f k=>f.at λo e=>k j (by simp) o e
 item:=by
  intro X t y A O i g s σ H E I q f B;subst t y A;obtain⟨Q,x,r,C⟩:=B;obtain⟨D,F,p,R⟩:=I.list r;obtain⟨u,S,T⟩:=F.get C;obtain⟨G,J,U,L,M,N⟩:=q j (by simp);refine wpAny_pyNext_list_item f p.isList (x:=u) ⇑S λn m V=>?_;have Y:Inv X g σ H {s with heap:=n}:=I.turned (t':=s.toks) (λb o l e=>(V.2 b l).trans e) G J L M N;obtain⟨o,e,c,d⟩:=id m;exact⟨u,rfl,je7 (s:={s with heap:=n}) e c d (by decide) ⟨x,H,Y,T,⟨rfl,λys Z=>by rw[I.list_inj Z r];exact C⟩,m,λb l=>(q b l).1⟩⟩
 done:=by
  intro X t y A O i g s σ H E I q f B;subst t y A;obtain⟨Q,r,C⟩:=B;obtain⟨D,F,p,R⟩:=I.list r;obtain⟨G,J,U,L,M,N⟩:=q j (by simp);have hl:=F.length;exact wpAny_pyNext_list_end (I.ok.hd O) f p.isList (by simp;lia) λn eb=>⟨rfl,I.turned (t':=s.toks) (λb o l e=>eb b o l e) G J L M N⟩
 self:=λ_ _ _ _ _ f h=>wpAny_pyIter_listiter f h
def jaM{P:Program}{w:World}{K:W5}{tg:Expr}(a j:Addr):Turn P w K tg (Itt K a) [j] j (λi h=>h.IsTupleIter j a i) where
 mem:=by simp
 obj:=λi h f b l=>by
  have e:b=j:=by simpa using l
  subst e;obtain⟨o,e,c,d⟩:=f;exact⟨o,e,λv z=>by rw[d] at z;cases z⟩
 keep:=λi h q f k=>f.at λo e=>k j (by simp) o e
 item:=by
  intro X y A B O i g s σ H E I r f C;subst y A B;obtain⟨Q,x,t,D⟩:=C;obtain⟨m,F,p,R⟩:=I.tuple t;obtain⟨u,S,T⟩:=F.get D;obtain⟨G,J,U,L,M,N⟩:=r j (by simp);refine wpAny_pyNext_tuple_item f (show s.heap.IsTuple a m.toArray from p) (x:=u) ⇑S λq n V=>?_;have Y:Inv X g σ H {s with heap:=q}:=I.turned (t':=s.toks) (λb o l e=>(V.2 b l).trans e) G J L M N;obtain⟨o,e,c,d⟩:=id n;exact⟨u,rfl,je7 (s:={s with heap:=q}) e c d (by decide) ⟨x,H,Y,T,⟨rfl,λys Z=>by rw[I.tuple_inj Z t];exact D⟩,n,λb l=>(r b l).1⟩⟩
 done:=by
  intro X y A B O i g s σ H E I r f C;subst y A B;obtain⟨Q,t,D⟩:=C;obtain⟨m,F,p,R⟩:=I.tuple t;obtain⟨G,J,U,L,M,N⟩:=r j (by simp);have hl:=F.length;exact wpAny_pyNext_tuple_end (I.ok.hd O) f (show s.heap.IsTuple a m.toArray from p) (by simp;lia) λq eb=>⟨rfl,I.turned (t':=s.toks) (λb o l e=>eb b o l e) G J L M N⟩
 self:=λ_ _ _ _ _ f h=>wpAny_pyIter_tupleiter f h
def jaN{P:Program}{w:World}{K:W5}{tg:Expr}(c:Addr)(lo:Int)(n:Nat):Turn P w K tg (Itr lo n) [c] c (λi h=>IsRangeIter h c (lo+(i:Nat)*1) ((n:Int)-(i:Nat)) 1) where
 mem:=by simp
 obj:=λi h a b f=>by
  have e:b=c:=by simpa using f
  subst e;exact⟨_,a,λv z=>by
   have F:Data.fields _=Data.cell v:=z;cases F⟩
 keep:=λi h j a k=>k c (by simp) _ a
 item:=by
  intro X m p q r i d s σ H E I l a u;subst m p q;obtain⟨x,y,G,A,B,C⟩:=l c (by simp);have W:=Walks.range (prog:=X.prog) (w:=X.w) (I.ok.hd r) c lo 1 n;refine W.item i s _ _ u a λv j D J g L=>?_;obtain⟨t,rfl⟩:=J;have M:Inv X d σ H {s with heap:=j,toks:=D}:=I.turned (λb o f e=>L b o ⇑f e) x y A B C;refine⟨_,rfl,je7 (s:={s with heap:=j,toks:=D}) (n:="range_iterator") g rfl rfl (by decide) ⟨.int<|lo+i,H,M,⟨t,?_⟩,⟨rfl,rfl⟩,g,λb f=>(l b f).1⟩⟩;rw[Int.mul_one]
 done:=by
  intro X m p q r i d s σ H E I l a u;subst m p q;obtain⟨x,y,G,A,B,C⟩:=l c (by simp);exact wpAny_pyNext_range_end (I.ok.hd r) a (by have:n<=i:=u;lia) λj N=>⟨rfl,I.turned (t':=s.toks) (λb o f e=>N b o f e) x y A B C⟩
 self:=λ_ _ _ _ _ a h=>wpAny_pyIter_rangeiter a h
section
variable {X:Cx}{tg:Expr}
def jeD{pins:List (Addr×Obj)}{s:Shared}{R:It->Hp->Prop}{E:W0}{lo hi:Int}{tk:Nat}(I:Inv X pins σ H s)(h1:-(2 ^ 62)<=lo)(h2:lo<2 ^ 62)(c:-(2 ^ 62)<=hi)(d:hi<2 ^ 62)
  (q:R (Itr lo (hi-lo).toNat) H):wpAny (model X.prog X.w) X.A (pyIter<|.ref ↥s) (PIE X pins σ tg R) E { s with heap:=s.heap.push {cls:=.type "range",data:=.fields #[.int lo t,.int hi u,.int 1 v]},toks:=tk }:=by
 refine wpAny_pyIter_range (IsRange.new ..) (small_one h1 h2 c d) ?_;have a:Inv X pins σ H { s with heap:=s.heap.push {cls:=.type "range",data:=.fields #[.int lo t,.int hi u,.int 1 v]},toks:=tk }:=I.kept λb o e=>L7 _ e;refine⟨(s.heap.push {cls:=.type "range",data:=.fields #[.int lo t,.int hi u,.int 1 v]}).objs.size,[(s.heap.push {cls:=.type "range",data:=.fields #[.int lo t,.int hi u,.int 1 v]}).objs.size],_,_,H,rfl,
  a.kept (t':=tk) λb o e=>L7 _ e,jaN _ lo (hi-lo).toNat,?_,λb f=>?_,q⟩
 ·have g:lo+((0:Nat):Int)*1=lo:=by simp
  have e2:(((hi-lo).toNat:Nat):Int)-((0:Nat):Int)=Builtin.Range.rangeSize lo hi 1:=by rw[rangeSize_one];split<;>lia
  show IsRangeIter _ _ (lo+((0:Nat):Int)*1) ((((hi-lo).toNat:Nat):Int)-((0:Nat):Int)) 1;rw[g,e2];exact E1 _ rfl
 ·have e:b=(s.heap.push {cls:=.type "range",data:=.fields #[.int lo t,.int hi u,.int 1 v]}).objs.size:=by simpa using f
  subst e;exact a.fpOk (M8 _)<|a.hok.fresh<|M8 _
def jgV(ta:TA):TI:=λσ H R=>ta σ H λvs H1=>∃ j:Int,vs=[.int j]/\-(2 ^ 62)<=j/\j<2 ^ 62/\R (Itr 0 j.toNat) H1
def jbF(d:Gl X "range")(f:X.mg "range" = none)(g:PA X [a] ta)(i:starEach [a] X.env=[(false,eval a X.env)]:=by rfl):PI X tg (.Call (.Name "range" p) [a] [] pos) (jgV ta):=by
 intro b s σ H R I h;refine Call_<|JM I d f boot_range<|PyProof.Rows.callWith_type1 (thn (g pos b s σ H _ I h) λo s1 ⟨u,v,k,l,c⟩=>?_) i rfl;obtain⟨j,e,c,m,q⟩:=c;subst e;cases l with
 | cons r n=>
  cases n;obtain⟨t,rfl⟩:=r;exact call_range_1<|jeD k ∅ ∅ c m ⇑q
def jm4(wi:TI)(g:TG)(tb:TS):TS:=λD σ H=>wi σ H λJ H1=>∃ W:Nat->Nat->St->Hp->Prop,(∃ m,W 0 m σ H1)/\∀ i m σ H,W i m σ H ->
 (J.stop i H/\D.nx σ H)\/(J.go i H/\∃ N:St->Hp->Prop,(∀ σ' H',N σ' H'->∃ m',m'<m/\W (i+1) m' σ' H')/\∀ x H',J.yld i H x H'->g x σ H' λσ2 H2=>tb {D with nx:=N,ct:=N,bk:=D.nx} σ2 H2)
noncomputable def Kv(fp:W6)(h:Heap):List (Addr×Obj):=fp.filterMap λb=>(h.get? b).map λo=>(b,o)
def qK(a:b∈fp)(e:h.get? b=some o):(b,o)∈Kv fp h:=List.mem_filterMap.mpr ⟨b,a,by rw[e];rfl⟩
def jbR(a:p∈Kv fp h):p.1∈fp/\h.get? p.1=some p.2:=by
 obtain⟨b,c,e⟩:=List.mem_filterMap.mp a;cases q:h.get? b with
 | none=>rw[q] at e;cases e
 | some o=>
  rw[q] at e;have d:(b,o)=p:=X7 e;subst d;exact⟨c,q⟩
def Inv.pinned(I:Inv X pins σ H s)(f:∀ b∈fp,jal X pins H b)(g:∀ b∈fp,∃ o,s.heap.get? b=some o/\∀ v,o.data≠.cell v):Inv X (pins++Kv fp s.heap) σ H s :=
 I.pins_of λp h=>(N1.mp h).elim (λz=>I.pin p<|U2 _ z) λz=>by
  obtain⟨a,e⟩:=jbR z;obtain⟨i,j,k,_⟩:=f p.1 a;obtain⟨o,c,d⟩:=g p.1 a;rw[e] at c;cases c;exact⟨e,i,j,k,d⟩
def Inv.unpinned(I:Inv X (pins++pl) σ H s):Inv X pins σ H s:=I.pins_of λp a=>I.pin p<|U2 _<|List.mem_append_left _ a
def jks(B:PassesOwn (model X.prog X.w) X.A X.env X.xe)(V:X.calm=true)(hi:PI X tg iter wi)(hg:PG X tg g)(c:PSs X body tb)
  (hs:∀ x,foldedSetIterable iter X.env x=pure x:=by intro _;rfl):PS X (.For tg iter body [] pos) (jm4 wi g tb):=by
 intro a s σ H D I h;refine wpAny_For (thn (hi a s σ H _ I h) λv s1 h1=>thn h1 λitv s2 h2=>?_) hs;obtain⟨it,C,Y,J,H2,e,I2,T,O,Z,W,⟨m0,w0⟩,turn⟩:=h2;subst e
 -- what stays true of the iterator's objects through the loop
 have j:∀{t:Hp},(∀ b∈C,t b=none)->∀ b∈C,jal X a t b:=λhn b c=>⟨hn b c,(Z b c).2⟩;refine codeAny_forLoop_any (λn s'=>∃ i E t,Inv X a E t s'/\Y i s'.heap/\(∀ b∈C,t b=none)/\W i n E t) ?_ m0 ⟨0,σ,H2,I2,O,λb c=>(Z b c).1,w0⟩;rintro n s3 ⟨i,F,M,I3,G,K,w3⟩;rcases turn i n F M w3 with⟨stop,qn⟩ | ⟨go,N,hN,step⟩
 ·refine wpAny_passesOwn B<|thn (T.done X rfl rfl rfl V i a s3 F M X.xe I3 (j K) G stop) λr s4 ⟨P,I4⟩=>?_;subst P;exact wpAny_execs_nil ⟨F,M,I4,qn⟩
 ·refine wpAny_passesOwn B<|thn (T.item X rfl rfl rfl V i a s3 F M X.xe I3 (j K) G go) λr s4 ⟨u,P,h4⟩=>?_;subst P;refine wpAny_passesOwn B<|thn h4 λ_ s5 Q=>?_;obtain⟨x,H5,I5,r5,y5,z,R⟩:=Q;have S:=I5.pinned (j R)<|T.obj _ _ z;refine wpAny_passesOwn B<|thn (hg _ s5 F H5 x u _ S r5<|step x H5 y5) λ_ s6 Q=>?_;obtain⟨σ6,H6,I6,q6⟩:=Q;refine wpAny_passesOwn B<|thn (c _ s6 σ6 H6 _ I6 q6) λf U y=>?_;have k:∀{l:St}{p:Hp},Inv X (a++Kv C s5.heap) l p U->N l p->∃ m,m<n/\∃ i E t,Inv X a E t U/\Y i U.heap/\(∀ b∈C,t b=none)/\W i m E t:=λ{l p} q L=>by
   obtain⟨m',hm,w7⟩:=hN l p L;refine⟨m',hm,i+1,l,p,q.unpinned,T.keep _ _ _ z λb c o e=>(q.pin (b,o)<|U2 _<|U2 _<|qK c e).1,λb c=>?_,w7⟩;obtain⟨o,e,d⟩:=T.obj _ _ z b c;exact(q.pin (b,o)<|U2 _<|U2 _<|qK c e).2.1
  cases f with
  | next=>obtain⟨l,p,q,L⟩:=y;exact k q L
  | cont=>obtain⟨l,p,q,L⟩:=y;exact k q L
  | brk=>obtain⟨l,p,q,y⟩:=y;exact⟨l,p,q.unpinned,y⟩
  | ret v=>obtain⟨x7,l,p,q,r7,y⟩:=y;exact⟨x7,l,p,q.unpinned,r7,y⟩
end
abbrev R2:=V->V->Hp->VK->Prop
def OpR(X:Cx)(f:Value->Value->Sem Value)(r:R2):Prop :=
 ∀(pins:W1) (s:Shared) (σ:St) (H:Hp) (x y:V) (v u:Value) (Q:VK),Inv X pins σ H s->RelV x v->RelV y u->r x y H Q ->
  wpAny (model X.prog X.w) X.A (f v u) (EP X pins σ Q) X.xe s
def UnR(X:Cx)(f:Value->Sem Value)(r:V->Hp->VK->Prop):Prop :=
 ∀(pins:W1) (s:Shared) (σ:St) (H:Hp) (x:V) (v:Value) (Q:VK),Inv X pins σ H s->RelV x v->r x H Q ->
  wpAny (model X.prog X.w) X.A (f v) (EP X pins σ Q) X.xe s
def JJ(X:Cx)(f:Value)(r:List V->Hp->VK->Prop):Prop :=
 ∀(pins:W1) (s:Shared) (σ:St) (H:Hp) (xs:List V) (us:List Value) (Q:VK),Inv X pins σ H s->Vals xs us->r xs H Q ->
  wpAny (model X.prog X.w) X.A (call f us) (EP X pins σ Q) X.xe s
noncomputable def tOp(r:R2)(ta tb:TE):TE:=λσ H Q=>ta σ H λx H1=>tb σ H1 λy H2=>r x y H2 Q
noncomputable def tUn(r:V->Hp->VK->Prop)(ta:TE):TE:=λσ H Q=>ta σ H λx H1=>r x H1 Q
noncomputable def rI(C:Int->Int->Prop)(g:Int->Int->V):R2:=λx y H Q=>∃ i j,x=.int i/\y=.int j/\C i j/\Q (g i j) H
noncomputable def rI0(g:Int->Int->V):R2:=λx y H Q=>∃ i j,x=.int i/\y=.int j/\Q (g i j) H
def rU(g:Int->V):V->Hp->VK->Prop:=λx H Q=>∃ i,x=.int i/\Q (g i) H
section
variable {X:Cx}{a b c:Expr}{ta tb tc:TE}{pos:Pos}
def jm2(d:PE X a ta)(e:PE X b tb){pins:List (Addr×Obj)}{s:Shared}{R:V->V->Hp->Prop}(I:Inv X pins σ H s)
  (h:ta σ H λx H1=>tb σ H1 λy H2=>R x y H2) {Q:W0}{f:Value->Value->Sem Value}
  (g:∀ v u s2 x y H2,Inv X pins σ H2 s2->RelV x v->RelV y u->R x y H2->wpAny (model X.prog X.w) X.A (f v u) Q X.xe s2):
  wpAny (model X.prog X.w) X.A (eval a X.env) (λv s₁=>wpAny (model X.prog X.w) X.A (eval b X.env) (λu s₂=>wpAny (model X.prog X.w) X.A (f v u) Q X.xe s₂) X.xe s₁) X.xe s:=by
 refine thn (d pins s σ H _ I h) λv s1 c=>?_;obtain⟨x,H1,i,j,k⟩:=c;refine thn (e pins s1 σ H1 _ i k) λu s2 c=>?_;obtain⟨y,H2,l,m,n⟩:=c;exact g v u s2 x y H2 l j m n
def jav(d:OpR X (binaryOp op) r)(e:PE X a ta)(f:PE X b tb):PE X (.BinOp a op b pos) (tOp r ta tb):=by
 intro c s σ H Q I h;exact wpAny_BinOp<|jm2 e f I h λv u g x y i j k l q=>d c g σ i x y v u Q j k l q
def jmw(c:UnR X (unaryOp op) r)(d:PE X a ta):PE X (.UnaryOp op a pos) (tUn r ta):=by
 intro b s σ H Q I h;exact UnaryOp_<|thn (d b s σ H _ I h) λv s1 ⟨x,e,f,g,i⟩=>c b s1 σ e x v Q f g i
def opI{f:Value->Value->Sem Value}{C:Int->Int->Prop}{g:Int->Int->Int}
  (a:∀(i j:Int) (t u:Tok) (s:Shared) (Q:W0) (E:W0),C i j->Q (.int (g i j) s.toks) {s with toks:=s.toks+1}->wpAny (model X.prog X.w) X.A (f (.int i t)<|.int j u) Q E s):
  OpR X f (rI C λi j=>.int<|g i j):=by
 intro b s σ H x y v u Q I c d h;obtain⟨i,j,rfl,rfl,e,q⟩:=h;obtain⟨t,rfl⟩:=c;obtain⟨k,rfl⟩:=d;exact a i j t k s _ _ e ⟨.int<|g i j,H,I.tok _,⟨_,rfl⟩,q⟩
def jnI{f:Value->Value->Sem Value}{g:Int->Int->Int}
  (a:∀(i j:Int) (t u:Tok) (s:Shared) (Q:W0) (E:W0),Q (.int (g i j) s.toks) {s with toks:=s.toks+1}->wpAny (model X.prog X.w) X.A (f (.int i t)<|.int j u) Q E s):
  OpR X f (rI0 λi j=>.int<|g i j):=by
 intro b s σ H x y v u Q I c d h;obtain⟨i,j,rfl,rfl,q⟩:=h;obtain⟨t,rfl⟩:=c;obtain⟨e,rfl⟩:=d;exact a i j t e s _ _ ⟨.int<|g i j,H,I.tok _,⟨_,rfl⟩,q⟩
def jlJ{f:Value->Value->Sem Value}{g:Int->Int->Bool}
  (a:∀(i j:Int) (t u:Tok) (s:Shared) (Q:W0) (E:W0),Q (.bool<|g i j) s->wpAny (model X.prog X.w) X.A (f (.int i t)<|.int j u) Q E s):
  OpR X f (rI0 λi j=>.bl<|g i j):=by
 intro b s σ H x y v u Q I c d h;obtain⟨i,j,rfl,rfl,q⟩:=h;obtain⟨t,rfl⟩:=c;obtain⟨e,rfl⟩:=d;exact a i j t e s _ _ ⟨.bl<|g i j,H,I,rfl,q⟩
def jme(i j:Int):Prop:=0<=j/\j<=1000000/\i.natAbs<2 ^ 64
def jkJ:OpR X (binaryOp .Add) (rI0 λi j=>.int<|i+j):=jnI λ_ _ _ _ _ _ _ q=>add_int q
def jkG:OpR X (binaryOp .Sub) (rI0 λi j=>.int<|i-j):=jnI λ_ _ _ _ _ _ _ q=>sub_int q
def jj6:OpR X (binaryOp .Mod) (rI (λ_ j=>0<j) λi j=>.int<|i%j):=opI λi j _ _ _ _ _ a q=>by
 have b:(0:Int)<j:=a;exact mod_int' ∅ (by rw[Int.fmod_eq_emod_of_nonneg i ∅];exact q)
def jkY:OpR X (binaryOp .Pow) (rI jme λi j=>.int<|i ^ j.toNat):=opI λ_ _ _ _ _ _ _ a q=>pow_int_small a.1 a.2.1 a.2.2 q
def unI{f:Value->Sem Value}{g:Int->Int}
  (a:∀(i:Int) (t:Tok) (s:Shared) (Q:W0) (E:W0),Q (.int (g i) s.toks) {s with toks:=s.toks+1}->wpAny (model X.prog X.w) X.A (f<|.int i t) Q E s):
  UnR X f (rU λi=>.int<|g i):=by
 intro b s σ H x v Q I c h;obtain⟨i,rfl,q⟩:=h;obtain⟨t,rfl⟩:=c;exact a i t s _ _ ⟨.int<|g i,H,I.tok _,⟨_,rfl⟩,q⟩
def jjS:UnR X (unaryOp .USub) (rU λi=>.int<|-i):=unI λ_ _ _ _ _ q=>neg_int q
end
noncomputable def jnm:V->V->Bool
 | .non,.non=>true | .non,.int _=>true | .int _,.non=>true | .non,.bl _=>true | .bl _,.non=>true | .non,.str _=>true | .str _,.non=>true
 | .int _,.int _=>true | .bl _,.bl _=>true | .str _,.str _=>true | .byt _,.byt _=>true
 | .int _,.str _=>true | .str _,.int _=>true | .bl _,.str _=>true | .str _,.bl _=>true
 | _,_=>false
def rEq:R2:=λx y H Q=>jnm x y=true/\Q (.bl<|decide<|x=y) H
def rNe:R2:=λx y H Q=>jnm x y=true/\Q (.bl<|!decide (x=y)) H
def wj:decide (V.int i=V.int j)=(i==j):=by
 rw[Bool.eq_iff_iff];simp
def jbQ:decide (V.bl i=V.bl j)=(i==j):=by
 rw[Bool.eq_iff_iff];simp
def ja3:decide (V.str i=V.str j)=(i==j):=by
 rw[Bool.eq_iff_iff];simp
def jbX:decide (V.byt i=V.byt j)=(i.toList==j.toList):=by
 rw[Bool.eq_iff_iff];cases i;cases j;simp
section
variable {X:Cx}{a b c:Expr}{ta tb tc:TE}{pos:Pos}
def jY(I:Inv X pins σ H s)(q:Q (.bl k) H)(e:k=k'):EP X pins σ Q (.bool k') s:=by
 subst e;exact⟨.bl k,H,I,rfl,q⟩
def jnk:OpR X (compareOp .Eq) rEq:=by
 intro e s σ H x y v u Q I d a h;obtain⟨c,q⟩:=h;cases x with
 | non=>
  cases d;cases y with
  | non=>cases a;exact PySem.EqNone.eq_none_none<|jY I q (by simp)
  | bl j=>cases a;exact PySem.EqNone.eq_none_bool<|jY I q (by simp)
  | int j=>obtain⟨b,rfl⟩:=a;exact PySem.EqNone.eq_none_int<|jY I q (by simp)
  | str j=>obtain⟨b,rfl⟩:=a;exact PySem.EqNone.eq_none_str<|jY I q (by simp)
  | _=>exact absurd (show false=true from c) M3
 | bl i=>
  cases d;cases y with
  | non=>cases a;exact PySem.EqNone.eq_bool_none<|jY I q (by simp)
  | bl j=>cases a;exact eq_bool<|jY I q jbQ
  | str j=>obtain⟨b,rfl⟩:=a;exact PySem.EqMixed.eq_bool_str<|jY I q (by simp)
  | _=>exact absurd (show false=true from c) M3
 | int i=>
  obtain⟨t,rfl⟩:=d;cases y with
  | non=>cases a;exact PySem.EqNone.eq_int_none<|jY I q (by simp)
  | int j=>obtain⟨b,rfl⟩:=a;exact eq_int<|jY I q wj
  | str j=>obtain⟨b,rfl⟩:=a;exact PySem.EqMixed.eq_int_str<|jY I q (by simp)
  | _=>exact absurd (show false=true from c) M3
 | str i=>
  obtain⟨t,rfl⟩:=d;cases y with
  | non=>cases a;exact PySem.EqNone.eq_str_none<|jY I q (by simp)
  | bl j=>cases a;exact PySem.EqMixed.eq_str_bool<|jY I q (by simp)
  | int j=>obtain⟨b,rfl⟩:=a;exact PySem.EqMixed.eq_str_int<|jY I q (by simp)
  | str j=>obtain⟨b,rfl⟩:=a;exact eq_str<|jY I q ja3
  | _=>exact absurd (show false=true from c) M3
 | byt i=>
  obtain⟨t,rfl⟩:=d;cases y with
  | byt j=>obtain⟨b,rfl⟩:=a;exact PySem.W.eq_bytes<|jY I q jbX
  | _=>exact absurd (show false=true from c) M3
 | _=>cases y<;>exact absurd (show false=true from c) M3
def jlX:OpR X (compareOp .NotEq) rNe:=by
 intro e s σ H x y v u Q I d a h;obtain⟨c,q⟩:=h;cases x with
 | non=>
  cases d;cases y with
  | non=>cases a;exact PySem.EqNone.ne_none_none<|jY I q (by simp)
  | bl j=>cases a;exact PySem.EqNone.ne_none_bool<|jY I q (by simp)
  | int j=>obtain⟨b,rfl⟩:=a;exact PySem.EqNone.ne_none_int<|jY I q (by simp)
  | str j=>obtain⟨b,rfl⟩:=a;exact PySem.EqNone.ne_none_str<|jY I q (by simp)
  | _=>exact absurd (show false=true from c) M3
 | bl i=>
  cases d;cases y with
  | non=>cases a;exact PySem.EqNone.ne_bool_none<|jY I q (by simp)
  | bl j=>cases a;exact ne_bool<|jY I q<|congrArg not jbQ
  | str j=>obtain⟨b,rfl⟩:=a;exact PySem.EqMixed.ne_bool_str<|jY I q (by simp)
  | _=>exact absurd (show false=true from c) M3
 | int i=>
  obtain⟨t,rfl⟩:=d;cases y with
  | non=>cases a;exact PySem.EqNone.ne_int_none<|jY I q (by simp)
  | int j=>obtain⟨b,rfl⟩:=a;exact ne_int<|jY I q<|congrArg not wj
  | str j=>obtain⟨b,rfl⟩:=a;exact PySem.EqMixed.ne_int_str<|jY I q (by simp)
  | _=>exact absurd (show false=true from c) M3
 | str i=>
  obtain⟨t,rfl⟩:=d;cases y with
  | non=>cases a;exact PySem.EqNone.ne_str_none<|jY I q (by simp)
  | bl j=>cases a;exact PySem.EqMixed.ne_str_bool<|jY I q (by simp)
  | int j=>obtain⟨b,rfl⟩:=a;exact PySem.EqMixed.ne_str_int<|jY I q (by simp)
  | str j=>obtain⟨b,rfl⟩:=a;exact ne_str<|jY I q<|congrArg not ja3
  | _=>exact absurd (show false=true from c) M3
 | byt i=>
  obtain⟨t,rfl⟩:=d;cases y with
  | byt j=>obtain⟨b,rfl⟩:=a;exact PySem.W.ne_bytes<|jY I q<|congrArg not jbX
  | _=>exact absurd (show false=true from c) M3
 | _=>cases y<;>exact absurd (show false=true from c) M3
def jni:OpR X (compareOp .Lt) (rI0 λi j=>.bl<|decide<|i<j):=jlJ λ_ _ _ _ _ _ _ q=>lt_int q
def jmR:OpR X (compareOp .LtE) (rI0 λi j=>.bl<|decide<|i<=j):=jlJ λ_ _ _ _ _ _ _ q=>le_int q
def jmB:OpR X (compareOp .Gt) (rI0 λi j=>.bl<|decide<|j<i):=jlJ λ_ _ _ _ _ _ _ q=>gt_int q
def jnq:OpR X (compareOp .GtE) (rI0 λi j=>.bl<|decide<|j<=i):=jlJ λ_ _ _ _ _ _ _ q=>ge_int q
def jcw:OpR X (compareOp .In) (λx y H Q=>∃ i j,x=.str i/\y=.str j/\Q (.bl<|!(Builtin.Str.occurrences j i 0 j.length 1).isEmpty) H):=by
 intro a s σ H x y v u Q I b c h;obtain⟨i,j,rfl,rfl,q⟩:=h;obtain⟨t,rfl⟩:=b;obtain⟨d,rfl⟩:=c;exact in_str<|jY I q rfl
def jjD:OpR X (compareOp .Is) (λx y H Q=>y=.non/\Q (.bl<|decide<|x=.non) H):=by
 intro a s σ H x y v u Q I b c h;obtain⟨rfl,q⟩:=h;cases c;refine is_none_gen<|jY I q ?_;cases x<;>first
  | (cases b;rfl)
  | (obtain⟨t,rfl⟩:=b;rfl)
def ze:OpR X (compareOp .NotIn) (λx y H Q=>∃ i j,x=.str i/\y=.str j/\Q (.bl<|!(!(Builtin.Str.occurrences j i 0 j.length 1).isEmpty)) H):=by
 intro a s σ H x y v u Q I b c h;obtain⟨i,j,rfl,rfl,q⟩:=h;obtain⟨t,rfl⟩:=b;obtain⟨d,rfl⟩:=c;exact notIn_str<|jY I q rfl
def Vw(b:Expr)  (h:op≠.In:=by decide) (h2:op≠.NotIn:=by decide):behindInMarks op b=false:=by
 have a:(op==CmpOp.In)=false:=by cases op<;>first | rfl | exact absurd rfl h
 have e2:(op==CmpOp.NotIn)=false:=by cases op<;>first | rfl | exact absurd rfl h2
 cases b<;>simp[behindInMarks,a,e2]
def jgT(d:OpR X (compareOp op) r)(e:PE X a ta)(f:PE X b tb)(g:behindInMarks op b=false):PE X (.Compare a [op] [b] pos) (tOp r ta tb):=by
 intro c s σ H Q I h;exact wpAny_Compare1 (jm2 e f I h λv u i x y j k l m q=>d c i σ j x y v u Q k l m q) g
noncomputable def jap(t:TE):TT:=λσ H Q=>t σ H λx H'=>∃ k,x=.bl k/\Q k H'
def jh6(f:OpR X (compareOp op) r)(g:PE X a ta)(i:PE X b tb)(j:behindInMarks op b=false):PT X (.Compare a [op] [b] pos) (jap<|tOp r ta tb):=by
 intro d s σ H Q I h;refine wpAny_isTrue_Compare1 (thn (g d s σ H _ I h) λv s1 ⟨x,l,m,n,o⟩=>thn (i d s1 σ l _ m o) λu p ⟨y,q,t,w,A⟩=>
  thn (f d p σ q x y v u _ t n w A) λc F ⟨z,B,C,D,k,e,E⟩=>?_) j
 subst e;cases D;exact wpAny_truthy_bool ⟨B,C,E⟩
noncomputable def jdm(r r':R2)(ta tb tc:TE):TE:=λσ H Q=>ta σ H λx H1=>tb σ H1 λy H2=>r x y H2 λz H3=>∃ k,z=.bl k /\
 (if k=true then tc σ H3 λw' H4=>r' y w' H4 Q else Q (.bl false) H3)
def jdJ(n:OpR X (compareOp op) r)(g:OpR X (compareOp op') r')(o:PE X a ta)(p:PE X b tb)(q:PE X c tc)
  (t:lastMarks [op,op'] [b,c]=false:=by with_unfolding_all rfl):PT X (.Compare a [op,op'] [b,c] pos) (jap<|jdm r r' ta tb tc):=by
 intro f s σ H Q I h;refine isTrue_chain (thn (o f s σ H _ I h) λv s1 ⟨x,w,A,B,C⟩=>test_link<|thn (p f s1 σ w _ A C) λu D ⟨y,E,F,i,G⟩=>
  thn (n f D σ E x y v u _ F B i G) λd J ⟨z,j,l,K,k,e,m⟩=>?_) t
 subst e;cases K;refine wpAny_truthy_bool ?_;cases k with
 | false=>
  obtain⟨k',L,M⟩:=m;cases L;exact ite_ff ⟨j,l,M⟩
 | true=>
  refine ite_tt<|test_last<|thn (q f J σ j _ l m) λN O ⟨P,R,S,T,U⟩=>thn (g f O σ R y P u N _ S i T U) λd' s5 V=>?_;obtain⟨z2,W,Y,Z,k2,e2,q5⟩:=V;subst e2;cases Z;exact wpAny_truthy_bool ⟨W,Y,q5⟩
def Ke:(sizeLine:Nat)<2 ^ 63:=by rw[sizeLine_eq];decide
def jak:OpR X (binaryOp .Add) (λx y H Q=>∃ i j,x=.str i/\y=.str j/\i.length+j.length<=sizeLine/\Q (.str<|i++j) H):=by
 intro a s σ H x y v u Q I b c h;obtain⟨i,j,rfl,rfl,d,q⟩:=h;obtain⟨t,rfl⟩:=b;obtain⟨e,rfl⟩:=c;exact add_str (λe f=>⟨.str<|i++j,H,I.tok _,⟨_,rfl⟩,q⟩) d
def jhA(r:Vals [x] us):∃ u,us=[u]/\RelV x u:=by
 cases r with
 | cons a b=>cases b;exact⟨_,rfl,a⟩
def jjW(r:Vals [x,y] us):∃ u w',us=[u,w']/\RelV x u/\RelV y w':=by
 cases r with
 | cons a b=>
  cases b with
  | cons c d=>cases d;exact⟨_,_,rfl,a,c⟩
def jb2(c:X.calm=true):JJ X (.builtin "max") (λxs H Q=>∃ i j,xs=[.int i,.int j]/\Q (.int<|if j>i then j else i) H):=by
 intro b s σ H xs d Q I r h;obtain⟨i,j,rfl,q⟩:=h;obtain⟨u,e,rfl,⟨t,rfl⟩,⟨f,rfl⟩⟩:=jjW r;refine max_two_ints (I.ok.hd c) λg l k=>⟨_,H,I.kept k,?_,q⟩;by_cases a:j>i
 ·rw[if_pos a,if_pos a];exact⟨_,rfl⟩
 ·rw[if_neg a,if_neg a];exact⟨_,rfl⟩
def jcQ(c:X.calm=true):JJ X (.builtin "min") (λxs H Q=>∃ i j,xs=[.int i,.int j]/\Q (.int<|if j<i then j else i) H):=by
 intro b s σ H xs d Q I r h;obtain⟨i,j,rfl,q⟩:=h;obtain⟨u,e,rfl,⟨t,rfl⟩,⟨f,rfl⟩⟩:=jjW r;refine min_two_ints (I.ok.hd c) λg l k=>⟨_,H,I.kept k,?_,q⟩;by_cases a:j<i
 ·rw[if_pos a,if_pos a];exact⟨_,rfl⟩
 ·rw[if_neg a,if_neg a];exact⟨_,rfl⟩
def jlH(K:W5)(x:V)(H:Hp)(n:Nat):Prop :=
 match x with
 | .str y=>y.length<=sizeLine/\n=y.length
 | .byt y=>y.size<=sizeLine/\n=y.size
 | .ref p=>(∃ xs,SqL K H p xs/\n=xs.length) \/ ∃ xs,SqT K H p xs/\n=xs.length
 | _=>False
def jdQ:JJ X (.builtin "len") (λxs H Q=>∃ x n,xs=[x]/\jlH X.K x H n/\Q (.int n) H):=by
 intro i s σ H xs l Q I r h;obtain⟨x,n,rfl,e,q⟩:=h;obtain⟨u,rfl,c⟩:=jhA r;have m:=Ke;have o:sizeLine=16777216:=sizeLine_eq;cases x with
 | str y=>
  obtain⟨t,rfl⟩:=c;obtain⟨j,b⟩:y.length<=sizeLine/\n=y.length:=e;subst b;exact len_str ∅ ⟨.int _,H,I.tok _,⟨_,rfl⟩,q⟩
 | byt y=>
  obtain⟨t,rfl⟩:=c;obtain⟨j,b⟩:y.size<=sizeLine/\n=y.size:=e;subst b;exact PySem.W.len_bytes ∅ ⟨.int _,H,I.tok _,⟨_,rfl⟩,q⟩
 | ref p=>
  cases c;have b:(∃ xs,SqL X.K H p xs/\n=xs.length) \/ ∃ xs,SqT X.K H p xs/\n=xs.length:=e;rcases b with⟨xs,d,b⟩ | ⟨xs,d,b⟩
  ·subst b;obtain⟨f,g,pl,k⟩:=I.list d;have a:=g.length;exact Calls.call_len_list pl.isList (by simp only[N2];lia) ⟨.int xs.length,H,I.tok _,⟨_,by simp only[N2];rw[a]⟩,q⟩
  ·subst b;obtain⟨f,g,pl,k⟩:=I.tuple d;have a:=g.length;exact len_tuple pl (by simp only[N2];lia) ⟨.int xs.length,H,I.tok _,⟨_,by simp only[N2];rw[a]⟩,q⟩
 | _=>exact(show False from e).elim
end
structure ObjM(h:Heap)(x dx C:Addr)(mA:W7):Prop where
 obj:h.get? x=some (PySem.W.instObj C dx)
 ns:h.Ns1 dx mA
 ne:dx≠x
def jdp{h:Heap}{mA:W7}(n:h.Ns1 dx mA):∃ od,h.get? dx=some od/\∀ name,PySem.W.lookIn name od=some (mA name):=by
 obtain⟨o,c,k,d,hd,f,_,g⟩:=n;refine⟨o,d,λname=>?_⟩;have e:=g name;unfold nsFind findBy at e;rw[<- Array.find?_toList] at e;unfold PySem.W.lookIn;rw[hd];dsimp only;split
 ·rename_i y q;rw[q] at e;exact congrArg some e
 ·rename_i q;rw[q] at e;have a:c.toList.any (·.refKey)=false:=by
   rw[List.any_eq_false];intro y i;obtain⟨z,t,b⟩:=f y<|Array.mem_toList_iff.mp i;simp[DictEntry.refKey,b]
  have j:¬ c.toList.any (·.refKey)=true:=by rw[a];exact M3
  rw[if_neg j];exact congrArg some e
def ObjM.look(I:ObjM h x dx C mA):∃ od,PySem.W.InstAt h x (PySem.W.instObj C dx) C (some od)/\∀ name,PySem.W.lookIn name od=some (mA name) :=
 let ⟨od,ho,hl⟩:=jdp I.ns
 ⟨od,⟨I.obj,rfl,rfl,ho⟩,hl⟩
section
variable {prog:Program}{w:World}{A:Around}{E:W0}{s:Shared}{K:W5}{x dx C f:Addr}{mA:W7}{name:Str}{v:Value}
def jgl{a:Bool}{Q:W0}(X:K.In s.heap)(I:ObjM s.heap x dx C mA)(c:PySem.W.plainGet K C name=true)(d:PySem.W.hasDictIn K C=true)
  (e:PySem.W.findIn K (.ref C) name=some none) (f:mA name=some v) (b:PySem.W.handedIn v=true) (h:Q v {s with toks:=s.toks+1}):
  wpAny (model prog w) A (getAttr (.ref x) name a) Q E s:=by
 obtain⟨od,J,g⟩:=I.look;exact PySem.W.get_value X J (PySem.W.plainGet_of c).1 (PySem.W.findObj_own d e rfl<|by rw[g,f]) b h
def jd1{pl:Sem Bool}{Q:Value×List Value->Shared->Prop}(X:K.In s.heap)(I:ObjM s.heap x dx C mA)(a:PySem.W.plainGet K C name=true)
  (b:PySem.W.findIn K (.ref C) name=some (some<|.ref f)) (c:PySem.W.isFn K (.ref f)=true) (d:mA name=none) (h:Q (.ref f,[.ref x]) s):
  wpAny (model prog w) A (getMethod (.ref x) name pl) Q E s:=by
 obtain⟨od,J,e⟩:=I.look;exact PySem.W.method_fn X J (PySem.W.plainGet_of a).1 (PySem.W.plainGet_of a).2 b (beq_iff_eq.mp c) (by show(PySem.W.lookIn name od).map (·.isSome)=some false;rw[e,d];rfl) h
def jg0{ns:List Str}{Q:Unit->Shared->Prop}(X:K.In s.heap)(I:ObjM s.heap x dx C mA)
  (j:PySem.W.findIn K (.ref C) "__setattr__" = some (some<|.builtin "object.__setattr__")) (k:PySem.W.plainOver K C=true) (l:PySem.W.takerIn K C name=some none) (m:PySem.W.hasDictIn K C=true)
  (n:PySem.Within mA ns) (hsz:ns.length<=sizeLine)
  (h:∀ h',ObjM h' x dx C (λy=>if y=name then some v else mA y)->Heap.SameBut dx s.heap h'->Q () {s with heap:=h',toks:=s.toks+2}):
  wpAny (model prog w) A (setAttr (.ref x) name v) Q E s:=by
 obtain⟨od,J,u⟩:=I.look;refine PySem.W.set_plain X J j<|PySem.W.osa_open (s:={s with toks:=s.toks+1}) (r:=none) X J k l λb=>?_;obtain⟨z,o,e⟩:=PySem.W.any_some m;have p:s.heap.get? x=some ⟨.ref C,some dx,.plain,#[]⟩:=I.obj;refine L1<|M6<|L1<|L1<|wpAny_loadPart p<|L1<|PySem.W.Looks.here (s:={s with toks:=s.toks+1}) (PySem.W.looks_clsIn X o) ?_;rw[e];refine M6 (a:=some dx)<|L1<|M6<|L1 ?_;refine wpAny_nsSet1 (s:={s with toks:=s.toks+1}) I.ns λh' c d=>?_;obtain⟨B,q,t,f,g,i⟩:=c.count<|PySem.Within.cons name v n;refine L1<|wpAny_lookBehind f (by rw[g];exact pastItsLine_dict<|N6 i<|by rw[M0];lia) ?_;exact M6<|h _ ⟨(d.2 _<|Ne.symm I.ne).trans I.obj,c,I.ne⟩ d
def jen{R:Result->Shared->Prop}{vs:List Value}{kw:List (Str×Value)}(X:K.In s.heap)(a:PySem.W.makesIn K C=true)
  (hi:PySem.W.findIn K (.ref C) "__init__" = some (some<|.ref f)) (b:PySem.W.typeIn K (.ref f)=some (.type "function"))
  (h:codeAny (model prog w) (A.under<|.builtin "type.__call__" ⟨.ref C::vs,kw⟩) (.call (.ref f) ⟨.ref (↥s+1)::vs,kw⟩) (PySem.W.InitBack (↥s+1) R)
   {s with heap:=(s.heap.push PySem.W.emptyDict).push (PySem.W.instObj C ↥s)}):
  codeAny (model prog w) A (.call (.ref C) ⟨vs,kw⟩) R s:=by
 obtain⟨c,g,d,t,os⟩:=s;exact PySem.W.make_core (PySem.W.makes_of X a) (PySem.W.looks_findIn X hi) (λself=>PySem.W.bind_fn X self b) (.inl rfl) h
end
noncomputable def V7(f:Str)(v:V):List (Str×V)->List (Str×V)
 | []=>[(f,v)]
 | (g,x)::r=>if g=f then(g,v)::r else(g,x)::V7 f v r
theorem Vn(f g:Str)(v:V):∀ fs:List (Str×V),(V7 f v fs).lookup g=if g=f then some v else fs.lookup g
 | []=>by
  show List.lookup g [(f,v)]=_;by_cases h:g=f
  ·have a:(g==f)=true:=beq_iff_eq.mpr h;simp only[List.lookup,a,if_pos h]
  ·have a:(g==f)=false:=U1.mpr h;simp only[List.lookup,a,if_neg h]
 | (k,x)::r=>by
  have c:=Vn f g v r;rw[show V7 f v ((k,x)::r)=(if k=f then(k,v)::r else(k,x)::V7 f v r) from rfl];by_cases b:k=f
  ·rw[if_pos b];by_cases h:g=k
   ·have a:(g==k)=true:=beq_iff_eq.mpr h;simp only[List.lookup,a,if_pos<|h.trans b]
   ·have a:(g==k)=false:=U1.mpr h;simp only[List.lookup,a,if_neg<|λe:g=f=>h<|e.trans b.symm]
  ·rw[if_neg b];by_cases h:g=k
   ·have a:(g==k)=true:=beq_iff_eq.mpr h;simp only[List.lookup,a,if_neg<|λe:g=f=>b<|h.symm.trans e]
   ·have a:(g==k)=false:=U1.mpr h;simp only[List.lookup,a];exact c
theorem VO(f:Str)(v:V):∀ fs:List (Str×V),f∈(V7 f v fs).map (·.1)/\∀ g,g∈fs.map (·.1)->g∈(V7 f v fs).map (·.1)
 | []=>⟨by simp[V7],λg h=>by simp at h⟩
 | (k,x)::r=>by
  obtain⟨b,c⟩:=VO f v r;rw[show V7 f v ((k,x)::r)=(if k=f then(k,v)::r else(k,x)::V7 f v r) from rfl];by_cases a:k=f
  ·rw[if_pos a];subst a;exact⟨by simp,λg h=>by simpa using h⟩
  ·rw[if_neg a];refine⟨?_,λg h=>?_⟩
   ·rw[L4];exact L5 _ b
   ·rw[L4] at h ⊢;rcases M4.mp h with e | e
    ·exact M4.mpr<|.inl e
    ·exact L5 _<|c g e
theorem Vc(f:Str)(v:V):∀ fs:List (Str×V),(V7 f v fs).length<=fs.length+1
 | []=>by simp[V7]
 | (k,x)::r=>by
  have b:=Vc f v r;rw[show V7 f v ((k,x)::r)=(if k=f then(k,v)::r else(k,x)::V7 f v r) from rfl];by_cases a:k=f
  ·rw[if_pos a,M0,M0];lia
  ·rw[if_neg a,M0,M0];lia
def RelO.some_of(r:RelO (some v) o):∃ u,o=some u/\RelV v u:=by
 cases o with
 | none=>exact(show False from r).elim
 | some u=>exact⟨u,rfl,r⟩
def RelO.none_of(r:RelO none o):o=none:=by
 cases o with
 | none=>rfl
 | some u=>exact(show False from r).elim
def jcV(r:RelV v u):PySem.W.handedIn u=true:=by
 cases v with
 | non=>cases(show u=Value.none from r);rfl
 | bl b=>cases(show u=Value.bool b from r);rfl
 | int i=>obtain⟨t,e⟩:=(show ∃ t,u=Value.int i t from r);cases e;rfl
 | str x=>obtain⟨t,e⟩:=(show ∃ t,u=Value.str x t from r);cases e;rfl
 | byt b=>obtain⟨t,e⟩:=(show ∃ t,u=Value.bytes b t from r);cases e;rfl
 | flt b=>obtain⟨t,e⟩:=(show ∃ t,u=Value.float b t from r);cases e;rfl
 | ref a=>cases(show u=Value.ref a from r);rfl
 | ty n=>cases(show u=Value.type n from r);rfl
section
variable {P:Program}{w:World}{H H':Hp}{h h':Heap}{a C dx:Addr}{fs fs':List (Str×V)}
def xk(hok:HOk P w H h)(e:H a=some (.ins C dx fs)):∃ mA,ObjM h a dx C mA/\(∀ f,RelO (fs.lookup f)<|mA f)/\PySem.Within mA (fs.map (·.1))/\fs.length<=1000/\H dx=some (.own a):=by
 obtain⟨d,z,ne,ob,mA,n,r,q⟩:=(show ObjOk P w H h a (.ins C dx fs) from hok a _ e);exact⟨mA,⟨ob,n,ne⟩,r,q,z,d⟩
end
structure Cls(K:W5)(C:Addr):Prop where
 pg:PySem.W.plainGet K C Str.empty=true
 hd:PySem.W.hasDictIn K C=true
 po:PySem.W.plainOver K C=true
 sa:PySem.W.findIn K (.ref C) "__setattr__" = some (some<|.builtin "object.__setattr__")
def Cls.get{K:W5}{C:Addr}(c:Cls K C)(f:Str):PySem.W.plainGet K C f=true:=c.pg
def NoAttr(K:W5)(C:Addr)(f:Str):Prop:=PySem.W.findIn K (.ref C) f=some none
def NoAttr.taker{K:W5}{C:Addr}{f:Str}(n:NoAttr K C f):PySem.W.takerIn K C f=some none:=by
 unfold PySem.W.takerIn;rw[show PySem.W.findIn K (.ref C) f=some none from n];rfl
structure Con(K:W5)(C:Addr)(f:Str)(v:V)(u:Value):Prop where
 at_:PySem.W.findIn K (.ref C) f=some (some u)
 rel:RelV v u
 get:PySem.W.specialIn K u "__get__" = some none
 cp:PySem.W.copiedNames.contains f=false
structure Meth(K:W5)(C:Addr)(m:Str)(f:Addr):Prop where
 at_:PySem.W.findIn K (.ref C) m=some (some<|.ref f)
 fn:PySem.W.isFn K (.ref f)=true
 kp:PySem.W.keepIn K (.ref f)=true
section
variable {X:Cx}{pins:List (Addr×Obj)}{σ:St}{H:Hp}{s:Shared}{a C dx:Addr}{fs:List (Str×V)}{f:Str}{v:V}{A:Around}{E:W0}
def Ky(I:Inv X pins σ H s)(e:H a=some (.ins C dx fs))(c:Cls X.K C)(n:NoAttr X.K C f)(l:fs.lookup f=some v)
  (h:∀ u s',Inv X pins σ H s'->RelV v u->Q u s'):wpAny (model X.prog X.w) A (getAttr (.ref a) f b) Q E s:=by
 obtain⟨g,O,r,_,_,_⟩:=xk I.hok e;obtain⟨u,i,d⟩:=RelO.some_of (v:=v) (o:=g f) (by rw[<- l];exact r f);exact jgl I.kIn O (c.get f) c.hd n i (jcV d)<|h u _ (I.tok _) d
def jaz(I:Inv X pins σ H s)(e:H a=some (.ins C dx fs))(c:Cls X.K C)(k:Meth X.K C m g)(l:fs.lookup m=none)
  (h:Q (.ref g,[.ref a]) s):wpAny (model X.prog X.w) A (getMethod (.ref a) m pl) Q E s:=by
 obtain⟨b,O,r,_,_,_⟩:=xk I.hok e;have d:b m=none:=RelO.none_of (by rw[<- l];exact r m);exact jd1 I.kIn O (c.get m) k.at_ k.fn d h
def Kj(I:Inv X pins σ H s)(e:H a=some (.ins C dx fs))(c:Cls X.K C)(n:NoAttr X.K C f)(D:fs.length<1000)(l:RelV y u)
  (h:∀ s',Inv X pins σ (upd H a<|.ins C dx<|V7 f y fs) s'->Q () s'):wpAny (model X.prog X.w) A (setAttr (.ref a) f u) Q E s:=by
 obtain⟨i,O,r,j,_,k⟩:=xk I.hok e;have m:(fs.map (·.1)).length<=sizeLine:=by rw[L0,sizeLine_eq];lia
 refine jg0 I.kIn O c.sa c.po n.taker c.hd j m λp d t=>h _ ?_;have hd:∃ o,p.get? dx=some o:=let ⟨o,_,_,e',_⟩:=d.ns;⟨o,e'⟩
 refine I.write (x:=a) (e:=dx) (by rw[e];exact True.intro) (.inr k) (λb q v z=>(t.2 b v).trans z) hd ?_;refine⟨by rw[jh O.ne];exact k,?_,O.ne,d.obj,_,d.ns,λg=>?_,λg B=>?_⟩
 ·have:=Vc f y fs;lia
 ·show RelO ((V7 f y fs).lookup g) (if g=f then some u else i g);rw[Vn];by_cases q:g=f
  ·rw[if_pos q,if_pos q];exact l
  ·rw[if_neg q,if_neg q];exact r g
 ·by_cases q:g=f
  ·rw[q];exact(VO f y fs).1
  ·refine(VO f y fs).2 g (j g λz=>B ?_);show(if g=f then some u else i g)=none;rw[if_neg q];exact z
def Inv.made(I:Inv X pins σ H s):Inv X pins σ (upd (upd H ↥s (.own<|↥s+1)) (↥s+1)<|.ins C ↥s [])
  {s with heap:=(s.heap.push PySem.W.emptyDict).push (PySem.W.instObj C ↥s)}:=by
 have c:(s.heap.push PySem.W.emptyDict).get? ↥s=some PySem.W.emptyDict:=E1 s.heap rfl;have e2:((s.heap.push PySem.W.emptyDict).push (PySem.W.instObj C ↥s)).get? (↥s+1)=some (PySem.W.instObj C ↥s):=by
  have:=E1 (s.heap.push PySem.W.emptyDict) (o:=PySem.W.instObj C ↥s) rfl
  rwa [Heap.size_push] at this
 have e3:(s.heap.push PySem.W.emptyDict).Ns ↥s (λ_=>none):=⟨PySem.W.emptyDict,#[],_,c,rfl,(λe d=>absurd d<|by simp),λ_=>rfl⟩;have f:=I.laid (a:=↥s) (o:=.own<|↥s+1) (h':=s.heap.push PySem.W.emptyDict) (t':=s.toks) (λb u q=>L7 _ q) (M8 _) ⟨_,c⟩;refine f.laid (a:=↥s+1) (o:=.ins C ↥s []) (t':=s.toks) (λb u q=>L7 _ q) (Nat.le_of_eq<|Heap.size_push _ _) ?_;have ne:↥s≠↥s+1:=N5<|Nat.lt_succ_self _;refine⟨by rw[jh ne,jA],U4 _,ne,e2,λ_=>none,(Heap.Ns1.of_empty e3).at λo q=>L7 _ q,λ_=>True.intro,λy g=>absurd rfl g⟩
def jhB(a:attributeBase e f env (eval e env)=eval e env)
  (h:wpAny (model prog w) A (eval e env) (λo s₁=>wpAny (model prog w) A (getAttr o f true) Q E s₁) E s):wpAny (model prog w) A (eval (.Attribute e f pos) env) Q E s :=
 Attribute_any_ h (by rw[arm_eval_Attribute,a])
end
noncomputable def jdu(K:W5)(ta:TE)(f:Str):TE:=λσ H Q=>ta σ H λx H1=>∃ a C dx fs v,x=.ref a/\H1 a=some (.ins C dx fs)/\Cls K C/\NoAttr K C f/\fs.lookup f=some v/\Q v H1
def jmc(K:W5)(ta tv:TE)(f:Str):TS:=λD σ H=>tv σ H λy H1=>ta σ H1 λx H2=>∃ a C dx fs,x=.ref a/\H2 a=some (.ins C dx fs)/\Cls K C/\NoAttr K C f/\fs.length<1000 /\
 D.nx σ (upd H2 a<|.ins C dx<|V7 f y fs)
def jlF(X:Cx)(op:Operator)(rd:V->V->Hp->VK->Prop):Prop :=
 ∀(pins:W1) (s:Shared) (σ:St) (H:Hp) (x y:V) (u v:Value) (Q:VK),Inv X pins σ H s->RelV x u->RelV y v->rd x y H Q->wpAny (model X.prog X.w) X.A (inplaceOp op u v) (EP X pins σ Q) X.xe s
def xX(K:W5)(ta tv:TE)(rd:V->V->Hp->VK->Prop)(f:Str):TS:=λD σ H=>ta σ H λx H1=>∃ a C dx fs v,x=.ref a/\H1 a=some (.ins C dx fs)/\Cls K C/\NoAttr K C f/\fs.lookup f=some v /\
 tv σ H1 λy H2=>rd v y H2 λz H3=>∃ dx' fs',H3 a=some (.ins C dx' fs')/\fs'.length<1000/\D.nx σ (upd H3 a<|.ins C dx'<|V7 f z fs')
section
variable {X:Cx}{o e value:Expr}{f:Str}{pos pos' tpos:Pos}{ta tv:TE}
def uk(d:PE X e ta)(g:attributeBase e f X.env (eval e X.env)=eval e X.env):PE X (.Attribute e f pos) (jdu X.K ta f):=by
 intro b s σ H Q I h;refine jhB g<|thn (d b s σ H _ I h) λu s1 i=>?_;obtain⟨x,j,k,m,a,C,t,fs,v,ex,o,c,n,l,q⟩:=i;subst ex;obtain rfl:u=Value.ref a:=m;exact Ky k o c n l λw y p r=>⟨v,j,p,r,q⟩
def ji4(d:PE X o ta)(e:PE X value tv)(g:swapsWith value (some<|.Attribute o f pos') pos.line X.env=pure false):PS X (.Assign [.Attribute o f pos'] value pos) (jmc X.K ta tv f):=by
 intro b s σ H D I h;refine plainObj_wpAny_Assign_Attribute (thn (e b s σ H _ I h) λu s1 ⟨y,i,j,k,q⟩=>thn (d b s1 σ i _ j q) λm A p=>?_) g;obtain⟨x,B,r,t,a,C,E,fs,ex,v,c,n,l,w⟩:=p;subst ex;obtain rfl:m=Value.ref a:=t;exact Kj r v c n l k λF z=>⟨σ,_,z,w⟩
def jds(i:PE X o ta)(j:PE X value tv)(d:jlF X op rd):PS X (.AugAssign (.Attribute o f tpos) op value pos) (xX X.K ta tv rd f):=by
 intro b s σ H D I h;refine wpAny_AugAssign_AttributeAny<|thn (i b s σ H _ I h) λk s1 e=>?_;obtain⟨x,m,p,r,a,C,U,fs,v,ex,t,c,n,l,q⟩:=e;subst ex;obtain rfl:k=Value.ref a:=r;refine Ky p t c n l λu w A B=>thn (j b w σ m _ A q) λE F ⟨y,G,J,L,M⟩=>thn (d b F σ G v y u E _ J B L M) λV W e=>?_;obtain⟨z,Y,N,O,P,Q,g,R,S⟩:=e;exact Kj N g c n R O λZ T=>⟨σ,_,T,S⟩
def jnP:V->V->Hp->VK->Prop:=λx y H Q=>∃ i j,x=.int i/\y=.int j/\Q (.int<|i+j) H
def jlI:V->V->Hp->VK->Prop:=λx y H Q=>∃ i j,x=.int i/\y=.int j/\Q (.int<|i-j) H
def jiU:jlF X .Add jnP:=by
 rintro a s σ H x y u v Q I c d ⟨i,j,rfl,rfl,q⟩;obtain⟨t,rfl⟩:=(show ∃ t,u=Value.int i t from c);obtain⟨b,rfl⟩:=(show ∃ b,v=Value.int j b from d);exact PyProof.Rows.iadd_int ⟨.int<|i+j,H,I.tok _,⟨_,rfl⟩,q⟩
def jcS:jlF X .Sub jlI:=by
 rintro a s σ H x y u v Q I c d ⟨i,j,rfl,rfl,q⟩;obtain⟨t,rfl⟩:=(show ∃ t,u=Value.int i t from c);obtain⟨b,rfl⟩:=(show ∃ b,v=Value.int j b from d);exact PyProof.Rows.isub_int ⟨.int<|i-j,H,I.tok _,⟨_,rfl⟩,q⟩
end
section
variable {X:Cx}{pins:List (Addr×Obj)}{σ:St}{H:Hp}{s:Shared}{A:Around}{E:W0}{Q:W0}{c:Value}{b:Bool}
inductive TyOf (K:W5) (H:Hp):V->Value->Prop where
 | non:TyOf K H .non (.type "NoneType")
 | bl (x:Bool):TyOf K H (.bl x) (.type "bool")
 | int (i:Int):TyOf K H (.int i) (.type "int")
 | str (x:Str):TyOf K H (.str x) (.type "str")
 | flt (x:UInt64):TyOf K H (.flt x) (.type "float")
 | lst {a:Addr}{xs:List V}(e:H a=some (.lst xs)):TyOf K H (.ref a) (.type "list")
 | frz {a:Addr}{o:Obj}{xs:List V}(e:H a=some (.frz o (.lst xs))):TyOf K H (.ref a) (.type "list")
 | tup {a:Addr}{xs:List V}(e:H a=some (.tup xs)):TyOf K H (.ref a) (.type "tuple")
 | dK {a:Addr}{kvs:List (Key×V)}(e:H a=some (.dK kvs)):TyOf K H (.ref a) (.type "dict")
 | dT {a:Addr}{kvs:List (List Key×V)}(e:H a=some (.dT kvs)):TyOf K H (.ref a) (.type "dict")
 | ins {a C dx:Addr}{fs:List (Str×V)}(e:H a=some (.ins C dx fs)) (cl:Cls K C) (ha:PySem.W.findIn K (.ref C) "__class__" = some (some (.builtin "object.__class__")))
   (hn:PySem.W.specialIn K (.builtin "object.__class__") "__get__" = some (some<|.builtin "getset_descriptor.__get__")) (htk:PySem.W.takesIn K (.builtin "object.__class__")=some true)
   (hm:PySem.W.mroIn K C (.type "object")=some true):TyOf K H (.ref a) (.ref C)
end
structure Room(k:Nat)(A:Around):Prop where
 hd:A.handled=none
 dp:A.depth+3*k+5<recursionLimit
 un:A.units+16*k+200<cLine
def Room.mono(r:Room k A)(h:j<=k):Room j A:=⟨r.hd,by have:=r.dp;lia,by have:=r.un;lia⟩
def Room.deeper(r:Room (k+1) A)(env:Env):Room k (A.deeper env) :=
 ⟨r.hd,by have:=r.dp;show A.depth+1+3*k+5<_;lia,by have:=r.un;show A.units+3+16*k+200<_;lia⟩
def jac{A:Around}{us:List Value}{kw:List (Str×Value)}:(A.under<|.builtin "type.__call__" ⟨.ref C::us,kw⟩).depth=A.depth+1:=by
 first | rfl | simp[Around.under,Code.weight,Code.isCreation,Code.isGuard,Code.isCaller,Code.frames,Code.isFrame,guardIds]
def jaF{A:Around}{us:List Value}{kw:List (Str×Value)}:(A.under<|.builtin "type.__call__" ⟨.ref C::us,kw⟩).units=A.units+1:=by
 first | rfl | simp[Around.under,Code.cUnits,Code.frames,Code.isFrame]
def Room.make(r:Room (k+1) A)(C:Addr)(us:List Value)(kw:List<|Str×Value):Room k (A.under<|.builtin "type.__call__" ⟨.ref C::us,kw⟩) :=
 ⟨r.hd,by have:=r.dp;rw[jac];lia,by have:=r.un;rw[jaF];lia⟩
def Room.depth(r:Room k A):A.depth<recursionLimit:=by have:=r.dp;lia
def Room.units(r:Room k A):A.units+64<cLine:=by have:=r.un;lia
noncomputable def VX:TA:=λ_ H Q=>Q [] H
noncomputable def yj(ta:TE)(tr:TA):TA:=λσ H Q=>ta σ H λx H1=>tr σ H1 λxs H2=>Q (x::xs) H2
section
variable {X:Cx}{e:Expr}{es:List Expr}{te:TE}{t:TA}{pos:Pos}
def vU:PA X [] VX:=λ_ _ _ _ H Q I h=>Calls.spliced_nil ⟨[],H,I,.nil,h⟩
def jK(b:PE X e te)(c:PA X es t)(d:starEach (e::es) X.env=(false,eval e X.env)::starEach es X.env:=by rfl):PA X (e::es) (yj te t):=by
 intro pos a s σ H Q I h;rw[d];show wpAny _ _ (spliced<|(false,eval e X.env)::backTo pos (starEach es X.env)) _ _ s;refine Calls.spliced_cons<|thn (b a s σ H _ I h) λu s1 f=>?_;obtain⟨x,g,i,j,k⟩:=f;exact thn (c pos a s1 σ g _ i k) λq r ⟨l,m,n,o,p⟩=>⟨x::l,m,n,.cons j o,p⟩
def wO(t:TA):TE:=λσ H Q=>t σ H λxs H1=>xs.length<=sizeLine/\∀ p,H1 p=none->Q (.ref p) (upd H1 p<|.tup xs)
def jmP(t:TA):TE:=λσ H Q=>t σ H λxs H1=>xs.length<=sizeLine/\∀ p,H1 p=none->Q (.ref p) (upd H1 p<|.lst xs)
def Jn{x1}(h:PA X es t):PE X (.Tuple es x1 pos) (wO t):=by
 intro a s σ H Q I f;refine wpAny_Tuple_spliced<|thn (h pos a s σ H _ I f) λg s1 ⟨i,c,d,r,z,q⟩=>⟨by rw[<- r.length];exact z,?_⟩;have j:c ↥s1=none:=d.hok.fresh<|M8 _;refine⟨.ref ↥s1,upd c ↥s1 (.tup i),d.laid (t':=s1.toks) (λb u e=>L7 _ e) (M8 _) ?_,rfl,q _ j⟩;exact⟨z,g,r,⟨_,E1 _ rfl,rfl,_,rfl⟩,_,E1 _ rfl,rfl⟩
def jjX(h:PA X es t):PE X (.List es pos) (jmP t):=by
 intro a s σ H Q I f;refine wpAny_List_spliced<|thn (h pos a s σ H _ I f) λg s1 ⟨i,c,d,r,z,q⟩=>⟨by rw[<- r.length];exact z,?_⟩;have j:c ↥s1=none:=d.hok.fresh<|M8 _;refine⟨.ref ↥s1,upd c ↥s1 (.lst i),d.laid (t':=s1.toks) (λb u e=>L7 _ e) (M8 _) ?_,rfl,q _ j⟩;exact⟨z,g,0,r,E1 _ rfl⟩
end
abbrev Sp:=List V->Hp->VK->XK->Prop
abbrev CXT:=List Env->Hp->Shared->XK->Value->Shared->Prop
structure Env0(P:Program)(w:World)(K:W5)(mg:W7)(base:Heap)(A:Around)(outer:List Env)(s:Shared)(H:Hp):Prop where
 frames:A.frames=some outer
 mod:Mod K mg base
 bs:∀ b o,base.get? b=some o->s.heap.get? b=some o/\H b=none
 bsz:base.objs.size<=↥s
 funs:s.heap.FunFrames base outer
 frf:∀ b∈frs outer,H b=none
 hok:HOk P w H s.heap
 bare:AllBare s.gens
def CE(outer:List Env)(P:Program)(w:World)(H:Hp)(s:Shared)(Q:VK)(u:Value)(s':Shared):Prop :=
 ∃ v H',s'.os=s.os/\AllBare s'.gens/\Un (frs outer) [] H H' s.heap s'.heap/\HOk P w H' s'.heap/\RelV v u/\Q v H'
def CR(CX:CXT)(outer:List Env)(P:Program)(w:World)(H:Hp)(s:Shared)(Q:VK)(E:XK)(r:Result)(s':Shared):Prop :=
 match r with
 | .ok (.ret u)=>CE outer P w H s Q u s'
 | .ok _=>False
 | .error e=>CX outer H s E e s'
structure FnOk(P:Program)(w:World)(K:W5)(mg:W7)(base:Heap)(CX:CXT)(k:Nat)(f:Addr)(fd:FuncData)(ps:List Str)(sp:Sp):Prop where
 len:∀ vs H Q E,sp vs H Q E->vs.length=ps.length
 run:∀(A:Around) (outer:List Env) (s:Shared) (H:Hp) (args:Args) (us:List Value) (vs:List V) (Q:VK) (E:XK),Room k A->Env0 P w K mg base A outer s H->BindsTo s fd args (ps.zip us)->Vals vs us->sp vs H Q E ->
  codeAny (model P w) A (.call (.ref f) args) (CR CX outer P w H s Q E) s
def FnOk.imp{P:Program}{w:World}{K:W5}{mg:W7}{base:Heap}{CX:CXT}{k:Nat}{f:Addr}{fd:FuncData}{ps:List Str}{sp a:Sp}(F:FnOk P w K mg base CX k f fd ps sp)
  (h:∀ vs H Q E,a vs H Q E->sp vs H Q E):FnOk P w K mg base CX k f fd ps a :=
 ⟨λvs H Q E q=>F.len vs H Q E<|h _ _ _ _ q,λA outer s H b c vs Q E d e g i j=>F.run A outer s H b c vs Q E d e g i<|h _ _ _ _ j⟩
def Env0.make{P:Program}{w:World}{K:W5}{mg:W7}{base:Heap}{A:Around}{outer:List Env}{s:Shared}{H:Hp}(e:Env0 P w K mg base A outer s H)(C:Addr)(us:List Value)(kw:List<|Str×Value):
  Env0 P w K mg base (A.under<|.builtin "type.__call__" ⟨.ref C::us,kw⟩) outer s H:=⟨by first | exact e.frames | (simpa [Around.under,Code.envs,Code.isFrame,pushEnvs] using e.frames),e.mod,e.bs,e.bsz,e.funs,e.frf,e.hok,e.bare⟩
section
variable {X:Cx}{pins:List (Addr×Obj)}{σ:St}{H:Hp}{s s':Shared}
def Inv.env0(I:Inv X pins σ H s):Env0 X.prog X.w X.K X.mg X.base X.A X.stack s H :=
 ⟨I.ok.frames,I.ok.mod,I.bs,N6 I.ok.bsz I.sz,I.stack,I.stkFree,I.hok,I.bare⟩
def Inv.after(I:Inv X pins σ H s)(h:CE X.stack X.prog X.w H s Q u s'):EP X pins σ Q u s':=by
 obtain⟨v,c,os,bare,un,hok,r,q⟩:=h;obtain⟨e,g,d,t,a⟩:=s';obtain rfl:a=s.os:=os;exact⟨v,c,I.call (h':=e) (g':=g) (d':=d) (t':=t) (ch:=[]) un hok bare<|λb z=>absurd z<|by simp,r,q⟩
end
noncomputable def Qx(sp:Sp)(dvs:List V)(E:XK)(t:TA):TE:=λσ H Q=>t σ H λvs H1=>sp (vs++dvs) H1 Q E
noncomputable def ja7(C:Addr)(m:Str)(sp:Sp)(dvs:List V)(E:XK)(ta:TE)(t:TA):TE:=λσ H Q=>ta σ H λx H1=>∃ a dx fs,x=.ref a/\H1 a=some (.ins C dx fs)/\fs.lookup m=none /\
 t σ H1 λvs H2=>sp (x::(vs++dvs)) H2 Q E
def jhx(C:Addr)(sp:Sp)(dvs:List V)(E:XK)(t:TA):TE:=λσ H Q=>t σ H λvs H1=>∀ x dx,H1 x=none->H1 dx=none->dx≠x ->
 sp (.ref x::(vs++dvs)) (upd (upd H1 dx<|.own x) x<|.ins C dx []) (λv H2=>v=.non/\Q (.ref x) H2) E
def Binds(K:W5)(fd:FuncData)(ps:List Str)(ds:List Value):Prop :=
 ∀(s:Shared) (us:List Value),K.In s.heap->(us++ds).length=ps.length->BindsTo s fd ⟨us,[]⟩ (ps.zip<|us++ds)
def Binds.all{K:W5}{fd:FuncData}{ps:List Str}(h:∀ us:List Value,us.length=ps.length->bindArgs fd ⟨us,[]⟩=pure (ps.zip us)):Binds K fd ps []:=λs us _ a=>by
 rw[M9] at a ⊢;exact .of_eq<|h us a
def Kk(CX:CXT)(X:Cx)(E:XK):Prop:=∀(pins:W1) (σ:St) (H:Hp) (s:Shared) (e:Value) (s':Shared),Inv X pins σ H s->CX X.stack H s E e s'->X.xe e s'
section
variable {X:Cx}{CX:CXT}{k:Nat}{f C:Addr}{fd:FuncData}{ps:List Str}{sp:Sp}{dvs:List V}{ds:List Value}{E:XK}{x m:Str}{p pos apos:Pos}{e o:Expr}{es:List Expr}{ta:TE}{t:TA}
def jft(F:FnOk X.prog X.w X.K X.mg X.base CX k f fd ps sp)(c:Room k X.A)(d:Binds X.K fd ps ds)(hd:Vals dvs ds)(g:Kk CX X E)
  (I:Inv X pins σ H s) (r:Vals vs us) (h:sp (vs++dvs) H Q E):wpAny (model X.prog X.w) X.A (call (.ref f) us) (EP X pins σ Q) X.xe s:=by
 have b:Vals (vs++dvs) (us++ds):=r.append hd;have i:(us++ds).length=ps.length:=by rw[<- b.length];exact F.len _ _ _ _ h
 refine wpAny_call<|codeAny_mono (F.run X.A X.stack s H ⟨us,[]⟩ (us++ds) (vs++dvs) Q E c I.env0 (d s us I.kIn i) b h) λr j a=>?_;cases r with
 | error e=>exact g pins σ H s e j I a
 | ok l=>
  cases l with
  | ret u=>exact I.after a
  | next=>exact False.elim a
  | brk=>exact False.elim a
  | cont=>exact False.elim a
def jgu(F:FnOk X.prog X.w X.K X.mg X.base CX k f fd ps sp)(g:Room k X.A)(i:Gl X x)(j:X.mg x=some (.ref f))(l:PySem.W.keepIn X.K (.ref f)=true)(m:Binds X.K fd ps ds)(hd:Vals dvs ds)(n:Kk CX X E)
  (o:PA X (e::es) t) (b:(x==("__debug__" : Str))=false:=by decide) (u:starEach (e::es) X.env=(false,eval e X.env)::starEach es X.env:=by rfl) (c:(backTo pos<|starEach es X.env).any (·.1)=false:=by rfl):
  PE X (.Call (.Name x p) (e::es) [] pos) (Qx sp dvs E t):=by
 intro a s σ H Q I h;refine wpAny_Call_Name_kw<|jcq I i j ?_ b;refine PySem.W.callWith_K (h₀:=X.base) I.ok.mod.kin l (thn (o pos a s σ H _ I h) λv s1 ⟨y,z,d,r,q⟩=>⟨d.kIn,?_⟩) u c;exact jft F g m hd n d r q
def jb0(y:PE X o ta)(c:Cls X.K C)(i:Meth X.K C m f)(F:FnOk X.prog X.w X.K X.mg X.base CX k f fd ps sp)(z:Room k X.A)(B:Binds X.K fd ps ds)(hd:Vals dvs ds)(D:Kk CX X E)(G:PA X (e::es) t)
  (d:starEach (e::es) X.env=(false,eval e X.env)::starEach es X.env:=by rfl) (g:(backTo pos<|starEach es X.env).any (·.1)=false:=by rfl)
  (J:eval (.Call (.Attribute o m apos) (e::es) [] pos) X.env=(do
   let ov <- eval o X.env
   standAt apos.atName
   let (f,first) <- holding [ov] (getMethod ov m pl)
   callWith pos f first (backTo pos<|starEach (e::es) X.env) (backToKw pos<|keywordEach [] X.env)):=by rfl):
  PE X (.Call (.Attribute o m apos) (e::es) [] pos) (ja7 C m sp dvs E ta t):=by
 intro b s σ H Q I h;refine PySem.W.methodCall_KW (pl:=pl) (thn (y b s σ H _ I h) λu s1 L=>?_) J;obtain⟨x,M,j,N,a,R,fs,ex,O,l,q⟩:=L;subst ex;obtain rfl:u=Value.ref a:=N;refine jaz j O c i l ?_;refine PySem.W.callWith_K (first:=[.ref a]) (h₀:=X.base) I.ok.mod.kin i.kp (thn (G pos b s1 σ M _ j q) λn S ⟨p,T,v,r,P⟩=>⟨v.kIn,?_⟩) d g;exact jft (us:=.ref a::n) (vs:=.ref a::p) F z B hd D v (.cons rfl r) P
structure Mk(K:W5)(C f:Addr):Prop where
 makes:PySem.W.makesIn K C=true
 init:PySem.W.findIn K (.ref C) "__init__" = some (some<|.ref f)
 fn:PySem.W.isFn K (.ref f)=true
 kp:PySem.W.keepIn K (.ref C)=true
def jeo(M:Mk X.K C f)(F:FnOk X.prog X.w X.K X.mg X.base CX k f fd ps sp)(g:Room (k+1) X.A)(i:Binds X.K fd ps ds)(hd:Vals dvs ds)
  (j:Kk CX X E) (I:Inv X pins σ H s) (r:Vals vs us)
  (h:∀ x dx,H x=none->H dx=none->dx≠x->sp (.ref x::(vs++dvs)) (upd (upd H dx<|.own x) x<|.ins C dx []) (λv H2=>v=.non/\Q (.ref x) H2) E):
  wpAny (model X.prog X.w) X.A (call (.ref C) us) (EP X pins σ Q) X.xe s:=by
 have c:=h (↥s+1) ↥s (I.hok.fresh<|Nat.le_succ _) (I.hok.fresh<|M8 _) (N5<|Nat.lt_succ_self _);have b:=Inv.made (C:=C) I;have d:Vals (V.ref (↥s+1)::(vs++dvs)) (Value.ref (↥s+1)::(us++ds)):=.cons rfl<|r.append hd;have l:(Value.ref (↥s+1)::us++ds).length=ps.length:=by
  have e:=d.length;rw[F.len _ _ _ _ c] at e;exact e.symm
 refine wpAny_call<|jen (f:=f) I.kIn M.makes M.init (beq_iff_eq.mp M.fn)<|codeAny_mono (F.run _ X.stack _ _ ⟨Value.ref (↥s+1)::us,[]⟩ (Value.ref (↥s+1)::(us++ds)) _ _ E (g.make C us [])
  (b.env0.make C us []) (i _ (Value.ref (↥s+1)::us) b.kIn l) d c) λr m a=>?_
 cases r with
 | error e=>exact j pins σ _ _ e m b a
 | ok n=>
  cases n with
  | ret u=>
   obtain⟨v,o,p,q,t,y⟩:=b.after a;subst t;exact⟨q,⟨V.ref<|↥s+1,o,p,rfl,y⟩⟩
  | next=>exact False.elim a
  | brk=>exact False.elim a
  | cont=>exact False.elim a
def jg4(M:Mk X.K C f)(F:FnOk X.prog X.w X.K X.mg X.base CX k f fd ps sp)(g:Room (k+1) X.A)(i:Gl X x)(j:X.mg x=some (.ref C))(l:Binds X.K fd ps ds)(hd:Vals dvs ds)(m:Kk CX X E)
  (n:PA X (e::es) t) (b:(x==("__debug__" : Str))=false:=by decide) (o:starEach (e::es) X.env=(false,eval e X.env)::starEach es X.env:=by rfl) (c:(backTo pos<|starEach es X.env).any (·.1)=false:=by rfl):
  PE X (.Call (.Name x p) (e::es) [] pos) (jhx C sp dvs E t):=by
 intro a s σ H Q I h;refine wpAny_Call_Name_kw<|jcq I i j ?_ b;refine PySem.W.callWith_K (h₀:=X.base) I.ok.mod.kin M.kp (thn (n pos a s σ H _ I h) λu s1 ⟨v,y,d,r,q⟩=>⟨d.kIn,?_⟩) o c;exact jeo M F g l hd m d r q
end
section
variable {X:Cx}{CX:CXT}{k:Nat}{f C:Addr}{fd:FuncData}{ps ks:List Str}{sp:Sp}{E:XK}{x m:Str}{p pos apos kpos:Pos}{e o:Expr}{es:List Expr}{kws:List Keyword}{te ta:TE}{t tk:TA}{nm:Option Str}
structure KBinds(K:W5)(fd:FuncData)(ps ks:List Str)(g:List Value->List Value->List Value)(gV:List V->List V->List V):Prop where
 to:∀(s:Shared) (us ws:List Value),K.In s.heap->(g us ws).length=ps.length->BindsTo s fd ⟨us,ks.zip ws⟩ (ps.zip<|g us ws)
 rel:∀{vs:List V}{us:List Value}{zs:List V}{ws:List Value},Vals vs us->Vals zs ws->Vals (gV vs zs) (g us ws)
variable {g:List Value->List Value->List Value}{gV:List V->List V->List V}
end
structure FnScope(N P:List Str)(sc:Scope):Prop where
 kind:sc.kind=.function
 co:sc.isCoroutine=false
 gen:sc.isGenerator=false
 nd:N.Nodup
 pre:N.take P.length=P
 par:∀ x∈P,sc.names.lookup x=some .local\/sc.names.lookup x=some .cell
 nofree:∀ y∈sc.names,y.2≠.free
theorem Q6{kindOf:Str->Option NameKind}  : ∀{binds:List (Str×Value)}{m:W7},(∀ v,(x,v)∉binds)->bindL kindOf binds m x=m x
 | [],_,_=>rfl
 | (n,v)::r,m,h=>by
  unfold bindL;rw[Q6 λw a=>h w<|L5 _ a];split
  ·have:x≠n:=by rintro rfl;exact h v L6
   simp[this]
  ·rfl
theorem zZ{kindOf:Str->Option NameKind}  : ∀{binds:List (Str×Value)}{m:W7},(∀ v,(x,v)∉binds)->bindC kindOf binds m x=m x
 | [],_,_=>rfl
 | (n,v)::r,m,h=>by
  unfold bindC;rw[zZ λw a=>h w<|L5 _ a];split
  ·rfl
  ·have:x≠n:=by rintro rfl;exact h v L6
   simp[this]
theorem QZ{kindOf:Str->Option NameKind}  : ∀{P:List Str}{vs:List Value}{i:Nat}{m:W7},P.Nodup->P[i]?=some x->vs[i]?=some v->kindOf x=some .local ->
  bindL kindOf (P.zip vs) m x=some v
 | [],_,_,_,_,h,_,_=>by simp at h
 | _::_,[],_,_,_,_,h,_=>by simp at h
 | p::P,w::vs,0,m,nd,a,b,c=>by
  simp at a b;subst a;subst b;show bindL kindOf ((p,w)::P.zip vs) m p=_;unfold bindL;rw[Q6 λv d=>(List.nodup_cons.mp nd).1 (List.of_mem_zip d).1,if_pos c];simp
 | p::P,w::vs,i+1,m,nd,a,b,c=>by
  show bindL kindOf ((p,w)::P.zip vs) m x=_;unfold bindL;exact QZ (i:=i) (List.nodup_cons.mp nd).2 ⇑a ⇑b c
theorem zu{kindOf:Str->Option NameKind}  : ∀{P:List Str}{vs:List Value}{i:Nat}{m:W7},P.Nodup->P[i]?=some x->vs[i]?=some v->kindOf x≠some .local ->
  bindC kindOf (P.zip vs) m x=some v
 | [],_,_,_,_,h,_,_=>by simp at h
 | _::_,[],_,_,_,_,h,_=>by simp at h
 | p::P,w::vs,0,m,nd,a,b,c=>by
  simp at a b;subst a;subst b;show bindC kindOf ((p,w)::P.zip vs) m p=_;unfold bindC;rw[zZ λv d=>(List.nodup_cons.mp nd).1 (List.of_mem_zip d).1,if_neg c];simp
 | p::P,w::vs,i+1,m,nd,a,b,c=>by
  show bindC kindOf ((p,w)::P.zip vs) m x=_;unfold bindC;exact zu (i:=i) (List.nodup_cons.mp nd).2 ⇑a ⇑b c
noncomputable def start(N:List Str)(vs:List V):St:=vs.map some++List.replicate (N.length-vs.length) none
noncomputable def jfp(CX:CXT)(P:Program)(w:World)(K:W5)(mg:W7)(base:Heap)(N:List Str)(qual:Str)(scope:Scope)(f:Addr)(cd:Value)(A:Around)(outer:List Env)(s:Shared)(H:Hp)(E:XK):Cx where
 prog:=P
 w:=w
 K:=K
 mg:=mg
 base:=base
 A:=A.deeper (envOfC qual scope ↥s f cd)
 N:=N
 s₀:=s
 H₀:=H
 env:=envOfC qual scope ↥s f cd
 outer:=outer
 stack:=envOfC qual scope ↥s f cd::outer
 ex:=[]
 calm:=true
 fn:=λ_=>true
 pn:=[]
 xe:=λe s'=>wpAny (model P w) (A.deeper<|envOfC qual scope ↥s f cd) (leaving (envOfC qual scope ↥s f cd) e) (λ_ s''=>CX outer H s E e s'') (λe' s''=>CX outer H s E e' s'') s'
def uF{sc:Scope}{n:Nat}(h:sc.names.lookup x=some .cell):∃ c,(cellsFrom n sc.names []).lookup x=some c:=by
 have q:=PySem.W.cellsFrom_some sc.names n []<|.inl h;exact Option.isSome_iff_exists.mp q
def jci{CX:CXT}{P:Program}{w:World}{K:W5}{mg:W7}{base:Heap}{N ps:List Str}{qual:Str}{scope:Scope}{f:Addr}{cd:Value}{A:Around}{outer:List Env}{s s1:Shared}{H:Hp}{E:XK}{us:List Value}{vs:List V}
  (S:FnScope N ps scope) (hd:A.handled=none) (g:Env0 P w K mg base A outer s H) (I:vs.length=ps.length) (r:Vals vs us)
  (x:InCallC s ↥s (bindL (envOfC qual scope ↥s f cd).kindOf (ps.zip us) λ_=>none) (cellsFrom (↥s+1) scope.names []) (bindC (envOfC qual scope ↥s f cd).kindOf (ps.zip us) λ_=>none) s1):
  Inv (jfp CX P w K mg base N qual scope f cd A outer s H E) [] (start N vs) H s1:=by
 have D:ps.length<=N.length:=by have:=congrArg List.length S.pre;rw[X9] at this;lia
 obtain⟨t,J,rfl,B⟩:=x.done;have j:∀ b:Addr,b∉(jfp CX P w K mg base N qual scope f cd A outer s H E).ex:=λb z=>absurd (show b∈([]:W6) from z) (by simp);refine⟨⟨g.mod,S.kind,rfl,rfl,M8 _,λy z c t d=>?_,λy l=>?_,λy c _ h=>?_,λ_=>hd,Around.frames_deeper g.frames,.inr ⟨rfl,rfl⟩,λb z=>absurd z<|j b,g.bs,g.bsz,λb _ _=>j b,λb z=>absurd z<|j b,g.funs,g.frf⟩,
  rfl,g.bare,Un.kept B,⟨_,x.toInCall.ns,λi y v t d L=>?_⟩,λy c h=>⟨_,x.cell y c h⟩,g.hok.fresh<|M8 _,λy c h=>?_,λp m=>absurd (show p∈([]:W1) from m)<|by simp,g.hok.kept B,?_⟩
 ·exact name_of_addr x.apart (PySem.mem_of_lookup t)<|PySem.mem_of_lookup d
 ·have l:scope.names.lookup y=some .cell\/scope.names.lookup y=some .free:=l;rcases l with l | l
  ·exact uF l
  ·exact absurd rfl<|S.nofree _<|PySem.mem_of_lookup l
 ·exact Nat.le_of_lt<|x.above y c<|PySem.mem_of_lookup h
 ·have hi:i<vs.length:=by
   unfold start at d;by_cases hi:i<vs.length
   ·exact hi
   ·rw[List.getElem?_append_right ⇑hi] at d;rw[List.getElem?_replicate] at d;split at d<;>cases d
  have F:vs[i]?=some v:=by
   unfold start at d;rw[List.getElem?_append_left ⇑hi,List.getElem?_map] at d;cases e:vs[i]? with
   | none=>rw[e] at d;cases d
   | some a=>rw[e] at d;cases d;rfl
  obtain⟨u,C,G⟩:=r.get F;have m:ps[i]?=some y:=by
   rw[<- S.pre,List.getElem?_take_of_lt ∅];exact t
  have o:ps.Nodup:=by rw[<- S.pre];exact S.nd.sublist<|List.take_sublist _ _
  refine⟨u,G,?_⟩;rcases S.par y (List.mem_of_getElem? m) with k | k
  ·exact .inl ⟨k,QZ o m C k⟩
  ·obtain⟨c,e⟩:=uF (n:=↥s+1) k;refine .inr ⟨.inl k,c,e,?_⟩;have q:=x.cell y c e;rw[zu o m C<|by show scope.names.lookup y≠_;rw[k];decide] at q;exact q
 ·exact g.hok.fresh<|Nat.le_of_lt<|x.above y c<|PySem.mem_of_lookup h
 ·unfold start;show _=N.length;rw[N3,L0,List.length_replicate]
  lia
def jmz{CX:CXT}{P:Program}{w:World}{K:W5}{mg:W7}{base:Heap}{k:Nat}{f:Addr}{name qual:Str}{params:Arguments}{body:List Stmt}{scope:Scope}{F kV h pm a ct oc:Value}{an od:Option Addr}
  {p:Array (Option Value)}{N ps:List Str}{sp:Sp}(M:K.lookup f=some ⟨oc,od,.func<|PySem.W.fnOf name qual params body scope F kV h pm an a ct,p⟩) (z:PySem.W.codeIn K a qual=true) (S:FnScope N ps scope)
  (len:∀ vs H Q E,sp vs H Q E->vs.length=ps.length)
  (c:∀(A:Around) (outer:List Env) (s:Shared) (H:Hp) (vs:List V) (Q:VK) (E:XK),Room k (A.deeper<|envOfC qual scope ↥s f a)->sp vs H Q E ->
   ∃ t,PSs (jfp CX P w K mg base N qual scope f a A outer s H E) body t/\t {nx:=λ_ H'=>Q .non H',rt:=Q} (start N vs) H):
  FnOk P w K mg base CX (k+1) f (PySem.W.fnOf name qual params body scope F kV h pm an a ct) ps sp:=by
 refine⟨len,λA outer s H G O vs Q E B i R r j=>?_⟩;have T:=len _ _ _ _ j;have L:K.In s.heap:=i.mod.kin.keeps λb o e=>(i.bs b o e).1;have lim:s.heap.NoLimit:=i.mod.nolimit.keeps λb o e=>(i.bs b o e).1;have d:∀ y∈ps.zip O,scope.names.lookup y.1=some .local\/(scope.names.lookup y.1=some .cell/\((cellsFrom (↥s+1) scope.names []).lookup y.1).isSome=true):=λ⟨n,v⟩ U=>by
  rcases S.par n (List.of_mem_zip U).1 with q | q
  ·exact .inl q
  ·exact .inr ⟨q,PySem.W.cellsFrom_some _ _ _<|.inl q⟩
 refine codeAny_call_function B.depth (L _ _ M) rfl S.co S.gen rfl (PySem.W.codeRec_of L z)<|R _ _ _ _ ?_;refine wpAny_newFunctionEnv_cells S.kind d λenv X s1 x=>?_;subst X;refine⟨lim.keeps x.toInCall.keep,codeAny_func ?_⟩;obtain⟨t,Y,Z⟩:=c A outer s H vs Q E (B.deeper _) j;have I:Inv (jfp CX P w K mg base N qual scope f a A outer s H E) [] (start N vs) H s1:=jci S B.hd i T r x;refine wpAny_mono (Y [] s1 (start N vs) H _ I Z) (λfl C g=>?_) λe C g=>g;have l:∀{m:St}{H':Hp}{v:V}{u:Value},Inv (jfp CX P w K mg base N qual scope f a A outer s H E) [] m H' C->RelV v u->Q v H'->CE outer P w H s Q u C :=
  λ{m H' v u} J D q=>⟨v,H',J.os,J.bare,J.base,J.hok,D,q⟩
 cases fl with
 | ret u=>
  obtain⟨v,m,H',J,D,q⟩:=g;exact l J D q
 | next=>
  obtain⟨m,H',J,q⟩:=g;exact l (v:=V.non) (u:=Value.none) J rfl q
 | brk=>
  obtain⟨_,_,_,q⟩:=g;exact False.elim q
 | cont=>
  obtain⟨_,_,_,q⟩:=g;exact False.elim q
section
variable {X:Cx}{x:Str}{p pos:Pos}{e:Expr}{es:List Expr}{t:TA}{id T:String}{r:List V->Hp->VK->Prop}
noncomputable def tCB(r:List V->Hp->VK->Prop)(t:TA):TE:=λσ H Q=>t σ H λvs H1=>r vs H1 Q
def ux(d:JJ X (.builtin id) r)(f:Gl X x)(g:X.mg x=none)(i:bootBuiltins x=some (.builtin id))(j:PA X (e::es) t)(k:x≠"__name__":=by decide)(b:(x==("__debug__" : Str))=false:=by decide)
  (l:starEach (e::es) X.env=(false,eval e X.env)::starEach es X.env:=by rfl) (c:(backTo pos<|starEach es X.env).any (·.1)=false:=by rfl):PE X (.Call (.Name x p) (e::es) [] pos) (tCB r t):=by
 intro a s σ H Q I h;refine wpAny_Call_Name_kw<|JM I f g i ?_ k b;exact PyProof.Rows.callWith_builtin1 (thn (j pos a s σ H _ I h) λm s1 ⟨n,o,q,u,v⟩=>d a s1 σ o n m Q q u v) l c
def zW(d:JJ X (.type T) r)(f:Gl X x)(g:X.mg x=none)(i:bootBuiltins x=some (.type T))(j:PA X (e::es) t)(k:x≠"__name__":=by decide)(b:(x==("__debug__" : Str))=false:=by decide)
  (l:starEach (e::es) X.env=(false,eval e X.env)::starEach es X.env:=by rfl) (c:(backTo pos<|starEach es X.env).any (·.1)=false:=by rfl):PE X (.Call (.Name x p) (e::es) [] pos) (tCB r t):=by
 intro a s σ H Q I h;refine wpAny_Call_Name_kw<|JM I f g i ?_ k b;exact PyProof.Rows.callWith_type1 (thn (j pos a s σ H _ I h) λm s1 ⟨n,o,q,u,v⟩=>d a s1 σ o n m Q q u v) l c
end
end L2
namespace HT
open PySem PyProof.Rows
section
open PySem.SeqAt
open PySem.AutoSeq1 (wpAny_loadPart')
open PySem.MeetsSeq PySem.MeetsSeq2 PySem.MeetsSeq3
end
section
variable {prog:Program}{w:World}{A:Around}{E:W0}{s:Shared}
def cat_tup(q:IsTup s.heap t vs.toArray)(r:IsTup s.heap b ws.toArray)(k:vs≠[])
  (h1:ws=[]->Q (.ref t) s) (h2:ws≠[]->Q (.ref ↥s) { s with heap:=s.heap.push {cls:=.type "tuple",data:=.seq (vs++ws).toArray} })
  (hsz:vs.length+ws.length<=sizeLine):wpAny (model prog w) A (binaryOp .Add (.ref t)<|.ref b) Q E s:=by
 obtain⟨⟨cls,dd,data,l⟩,h,m,n,hd⟩:=id q;obtain⟨⟨o,c,j,d⟩,a,f,p,g⟩:=id r;simp only at m hd f g;subst m hd f g;have e:vs.toArray++ws.toArray=(vs++ws).toArray:=by simp
 by_cases i:ws=[]
 ·exact concat_meets ⟨_,h,rfl⟩ ⟨_,a,rfl⟩ noFill_tuple_add seq_tuple_add PySem.F.slot_tuple_add PySem.F.entry_tuple_add (PySem.F.args_tuple_add_2 _ _)
   (tuple_addW1 t b vs.toArray ws.toArray n p dd c l d ⇑k (by simp[i])) ⟨h,a,h1 i⟩
 ·refine concat_meets ⟨_,h,rfl⟩ ⟨_,a,rfl⟩ noFill_tuple_add seq_tuple_add PySem.F.slot_tuple_add PySem.F.entry_tuple_add (PySem.F.args_tuple_add_2 _ _)
   (tuple_addW2 t b vs.toArray ws.toArray n p dd c l d ⇑k ⇑i (by rw[N2,N2];exact hsz)) ⟨h,a,?_⟩
  rw[e];exact h2 i
noncomputable def sIx(n d:Nat):Option Int->Nat
 | none=>d
 | some v=>if v<0 then(v+(n:Int)).toNat else min v.toNat n
def sIx_none(n d:Nat):sIx n d none=d:=rfl
def sIx_nat(n d k:Nat):sIx n d (some (k:Int))=min k n:=by
 show(if(k:Int)<0 then((k:Int)+(n:Int)).toNat else min (k:Int).toNat n)=min k n;rw[if_neg ∅,N7]
def sIx_le(n d:Nat)(hd:d<=n)(o:Option Int):sIx n d o<=n:=by
 cases o with
 | none=>exact hd
 | some v=>
  show(if v<0 then(v+(n:Int)).toNat else min v.toNat n)<=n;by_cases a:v<0
  ·rw[if_pos a];lia
  ·rw[if_neg a];exact Nat.min_le_right _ _
def jbT(v:Int)(n d:Nat):(if v<0 then max (v+(n:Int)) 0 else min v (n:Int))=((sIx n d (some v):Nat):Int):=by
 show(if v<0 then max (v+(n:Int)) 0 else min v (n:Int))=(((if v<0 then(v+(n:Int)).toNat else min v.toNat n):Nat):Int);by_cases a:v<0
 ·simp only[if_pos a];lia
 ·simp only[if_neg a];lia
def jaS(lo hi:Option Int)(n:Nat):Builtin.Slice.sliceAdjust lo hi 1 (n:Int)=(((sIx n 0 lo:Nat):Int),((sIx n n hi:Nat):Int)):=by
 have a:¬ ((1:Int)<0):=by lia
 unfold Builtin.Slice.sliceAdjust;simp only[a,if_false];refine Prod.ext ?_ ?_
 ·cases lo with
  | none=>rfl
  | some v=>exact jbT v n 0
 ·cases hi with
  | none=>rfl
  | some v=>exact jbT v n n
def jaw(i j:Nat):Builtin.Slice.slicePlaces (i:Int) (j:Int) 1=j-i:=by
 unfold Builtin.Slice.slicePlaces;have a:(1:Int)>0:=by lia
 simp only[a,if_true,Int.ediv_one];split<;>lia
def Kt(p:IsPart v o)(h:Q o s):wpAny (model prog w) A (Builtin.Slice.slicePartIndex v) Q E s:=by
 cases p with
 | none=>exact slicePart_none h
 | int i t=>exact slicePart_int h
def YE{lo hi:Option Int}{n:Nat}{Q:Int×Int×Nat->Shared->Prop}(c:s.heap.IsSliceOf sl vl vu .none)(pl:IsPart vl lo)(d:IsPart vu hi)
  (h:Q (((sIx n 0 lo:Nat):Int),1,sIx n n hi-sIx n 0 lo) s):wpAny (model prog w) A (Builtin.Slice.sliceApplied (.ref sl)<|pure (n:Int)) Q E s:=by
 obtain⟨os,a,e,b⟩:=id c;unfold Builtin.Slice.sliceApplied Builtin.Slice.sliceFields;refine L1<|L1<|U5 a b (x:=vl) rfl<|L1<|U5 a b (x:=vu) rfl<|L1<|U5 a b (x:=.none) rfl<|M6 ?_;refine L1<|slicePart_none ?_;show wpAny _ _ (if((1:Int)==0)=true then _ else _) _ _ s;rw[if_neg<|by decide];refine L1<|Kt pl<|L1<|Kt d<|L1<|M6 ?_;show wpAny _ _ (match Builtin.Slice.sliceAdjust lo hi 1 (n:Int) with | (lo,hi)=>pure (lo,(1:Int),Builtin.Slice.slicePlaces lo hi 1)) _ _ s;rw[jaS lo hi n];show wpAny _ _ (pure (((sIx n 0 lo:Nat):Int),(1:Int),Builtin.Slice.slicePlaces ((sIx n 0 lo:Nat):Int) ((sIx n n hi:Nat):Int) 1)) _ _ s;rw[jaw];exact M6 h
def jdI(xs:Array Value)(i k:Nat):((List.range k).filterMap λ(m:Nat)=>xs[((i:Int)+(m:Int)*1).toNat]?).toArray=((xs.toList.drop i).take k).toArray:=by
 have e:(λ(m:Nat)=>xs[((i:Int)+(m:Int)*1).toNat]?)=λm=>xs[i+m]?:=by
  funext m
  have:((i:Int)+(m:Int)*1).toNat=i+m:=by lia
  rw[this]
 rw[e];have:=pick_run xs i k;rw[List.filterMap_map] at this;have e2:((λx=>xs[x]?) ∘ λx=>i+x)=λm=>xs[i+m]?:=rfl;rw[e2] at this;rw[this]
def getItem_tuple_cut{items:Array Value}{lo hi:Option Int}{Q:W0}(b:IsTup s.heap t items)(g:s.heap.IsSliceOf sl vl vu .none)(pl:IsPart vl lo)(i:IsPart vu hi)
  (j:¬ (sIx items.size 0 lo=0/\sIx items.size items.size hi=items.size))
  (h:Q (.ref ↥s) { s with heap:=s.heap.push {cls:=.type "tuple",data:=.seq ((items.toList.drop<|sIx items.size 0 lo).take (sIx items.size items.size hi-sIx items.size 0 lo)).toArray} })
  (hsz:items.size<=sizeLine):wpAny (model prog w) A (getItem (.ref t)<|.ref sl) Q E s:=by
 have a:sizeOk (.seq ((items.toList.drop<|sIx items.size 0 lo).take (sIx items.size items.size hi-sIx items.size 0 lo)).toArray):=by
  show((items.toList.drop<|sIx items.size 0 lo).take (sIx items.size items.size hi-sIx items.size 0 lo)).toArray.size<=sizeLine;rw[N2,X9,List.length_drop,Array.length_toList]
  lia
 have l:sIx items.size items.size hi<=items.size:=sIx_le _ _ (M8 _) hi;obtain⟨os,c,d,k⟩:=id g;have e:s.TypeIs (.ref sl) "slice":=⟨os,c,d⟩;unfold getItem
 try with_reducible refine wpAny_holding ?_
 first | refine L1 (M6 ?_) | skip
 refine L1<|wpAny_sequenceKey b.typeIs (by decide) ?_;refine L1<|wpAny_callSpecial?_slot (name:=Str.ofString "__getitem__") b.typeIs PyProof.Rows.slot_tuple_getitem<|wpAny_call_entry PyProof.Rows.slot_tuple_getitem b.typeIs entry_tuple_getitem ?_<|args_tuple_getitem _ _
 show wpAny _ _ (Builtin.Tuple.tupleItemsOf (.ref t) >>= _) _ _ s;refine L1<|tupleItemsOf_ b ?_;refine L1<|wpAny_typeOf e ?_;rw[if_pos<|by decide];refine L1<|YE g pl i ?_;have f:¬ ((((sIx items.size 0 lo:Nat):Int)==0&&(1:Int)==1&&(sIx items.size items.size hi-sIx items.size 0 lo)==items.size)=true):=by
  intro q;rw[L9,L9] at q;have n:((sIx items.size 0 lo:Nat):Int)=0:=eq_of_beq q.1.1;have o:sIx items.size items.size hi-sIx items.size 0 lo=items.size:=eq_of_beq q.2;exact j ⟨by lia,by lia⟩
 show wpAny _ _ (if(((sIx items.size 0 lo:Nat):Int)==0&&(1:Int)==1&&(sIx items.size items.size hi-sIx items.size 0 lo)==items.size)=true then _ else _) _ _ s;rw[if_neg f,jdI]
 first
  | exact L1 (m:=Builtin.Tuple.tupleExact _) (wpAny_newObj_type (M6 ⟨_,rfl,M6 h⟩) a)
  | exact L1 (m:=Builtin.Tuple.tupleExact _) (wpAny_newObj_type (L1 (M6 (M6 ⟨_,rfl,M6 h⟩))) a)
  | exact L1 (L1 (m:=Builtin.Tuple.tupleExact _) (wpAny_newObj_type (M6 (M6 ⟨_,rfl,M6 h⟩)) a))
  | exact L1 (L1 (m:=Builtin.Tuple.tupleExact _) (wpAny_newObj_type (M6 ⟨_,rfl,M6 h⟩) a))
end
end HT
namespace L2
open PySem PySem.Spec PyProof.Rows
abbrev TO:=St->Hp->(Option Int->Hp->Prop)->Prop
def PO(X:Cx)(e:Option Expr)(t:TO):Prop :=
 ∀(pins:W1) (s:Shared) (σ:St) (H:Hp) (Q:Option Int->Hp->Prop),Inv X pins σ H s->t σ H Q ->
  wpAny (model X.prog X.w) X.A (evalPart e X.env) (λu s'=>∃ o H',Inv X pins σ H' s'/\IsPart u o/\Q o H') X.xe s
noncomputable def wa:TO:=λ_ H Q=>Q none H
noncomputable def jgy(t:TE):TO:=λσ H Q=>t σ H λx H1=>∃ i,x=.int i/\Q (some i) H1
def jaO:∀{us:List Value},Vals (ns.map V.int) us->IntsAre us ns:=by
 induction ns with
 | nil=>intro us r;rw[List.map_nil] at r;cases r;exact .nil
 | cons n ns a=>
  intro us r;rw[L4] at r;cases r with
  | cons b c=>
   obtain⟨t,e⟩:=b;subst e;exact .cons n t<|a c
section
variable {X:Cx}{e:Expr}{te:TE}{lo hi:Option Expr}{tl th:TO}{pos p2:Pos}
def jhP:PO X none wa:=by
 intro a s σ H Q I h;rw[evalPart_none];exact M6 ⟨none,H,I,.none,h⟩
def jgJ(h:PE X e te):PO X (some e) (jgy te):=by
 intro a s σ H Q I b;rw[evalPart_some];refine thn (h a s σ H _ I b) λu s1 c=>?_;obtain⟨x,d,f,g,j⟩:=c;obtain⟨i,rfl,q⟩:=j;obtain⟨t,rfl⟩:=g;exact⟨some i,d,f,.int i t,q⟩
def SlR(X:Cx)(r:V->Option Int->Option Int->Hp->VK->Prop):Prop :=
 ∀(pins:W1) (s:Shared) (σ:St) (H:Hp) (x:V) (v vl vu:Value) (lo hi:Option Int) (sl:Addr) (Q:VK),Inv X pins σ H s->RelV x v->s.heap.IsSliceOf sl vl vu .none->IsPart vl lo->IsPart vu hi->r x lo hi H Q ->
  ∃ T id,typeLookup (.type T) "__getitem__" = pure (some<|.builtin id)/\s.TypeIs v T/\wpAny (model X.prog X.w) X.A (getItem v<|.ref sl) (EP X pins σ Q) X.xe s
def SlR.or(h:SlR X r)(h':SlR X r'):SlR X (λx lo hi H Q=>r x lo hi H Q\/r' x lo hi H Q):=by
 intro a s σ H x v b c lo hi d Q I e f pl g q;rcases q with q | q
 ·exact h a s σ H x v b c lo hi d Q I e f pl g q
 ·exact h' a s σ H x v b c lo hi d Q I e f pl g q
noncomputable def tSl(r:V->Option Int->Option Int->Hp->VK->Prop)(te:TE)(tl th:TO):TE:=λσ H Q=>te σ H λx H1=>tl σ H1 λl H2=>th σ H2 λu H3=>r x l u H3 Q
def jeW{r:V->Option Int->Option Int->Hp->VK->Prop}(j:SlR X r)(k:PE X e te)(m:PO X lo tl)(n:PO X hi th):PE X (.Subscript e (.Slice lo hi none p2) pos) (tSl r te tl th):=by
 intro a s σ H Q I h;refine Subscript_<|thn (k a s σ H _ I h) λv s1 g=>?_;obtain⟨x,o,p,t,y⟩:=g;refine wpAny_Slice<|thn (m a s1 σ o _ p y) λd z ⟨l,B,C,pl,D⟩=>thn (n a z σ B _ C D) λf c g=>?_;obtain⟨u,i,E,F,G⟩:=g;rw[evalPart_none];refine M6 ?_;have J:Inv X a σ i { c with heap:=c.heap.push {cls:=.type "slice",data:=.fields #[d,f,.none]} }:=E.kept (t':=c.toks) λb ob q=>L7 _ q;obtain⟨T,id,K,L,M⟩:=j a { c with heap:=c.heap.push {cls:=.type "slice",data:=.fields #[d,f,.none]} } σ i x v d f l u ↥c Q J t (Heap.IsSliceOf.new ..) pl F G;show wpAny (model X.prog X.w) X.A (subscriptTail e (.Slice lo hi none p2) v<|.ref ↥c) (EP X a σ Q) X.xe { c with heap:=c.heap.push {cls:=.type "slice",data:=.fields #[d,f,.none]} };exact tail_any (ops:=[.ref ↥c,v]) L K M (by with_unfolding_all rfl)
def jfU(xs:List V)(lo hi:Option Int):List V:=(xs.drop<|HT.sIx xs.length 0 lo).take (HT.sIx xs.length xs.length hi-HT.sIx xs.length 0 lo)
def Vb(xs:List V)(lo hi:Option Int):(jfU xs lo hi).length<=xs.length:=by
 unfold jfU;rw[X9,List.length_drop]
 lia
def jnz(K:W5):V->Option Int->Option Int->Hp->VK->Prop:=λx lo hi H Q=>∃ a xs,x=.ref a/\SqT K H a xs /\
 ¬ (HT.sIx xs.length 0 lo=0/\HT.sIx xs.length xs.length hi=xs.length)/\∀ p,H p=none->Q (.ref p) (upd H p<|.tup<|jfU xs lo hi)
def jkK:SlR X (jnz X.K):=by
 intro f s σ H x v p t lo hi u Q I j k pl l h;obtain⟨a,d,rfl,m,n,q⟩:=h;cases j;obtain⟨e,r,g,i⟩:=I.tuple m;have c:e.toArray.size=d.length:=by rw[N2];exact r.length.symm
 refine⟨"tuple",_,PyProof.Rows.slot_tuple_getitem.lookup,g.typeIs,?_⟩;refine HT.getItem_tuple_cut g k pl l (by rw[c];exact n) ?_ (by rw[c];exact i);rw[c];refine⟨.ref ↥s,_,I.laid (t':=s.toks) (o:=.tup<|jfU d lo hi) (λb ob q=>L7 _ q) (M8 _) ?_,rfl,q _<|I.hok.fresh<|M8 _⟩;exact⟨N6 (Vb d lo hi) i,_,(r.drop<|HT.sIx d.length 0 lo).take (HT.sIx d.length d.length hi-HT.sIx d.length 0 lo),IsTupN.new _ _⟩
def jj3(K:W5):R2:=λx y H Q=>∃ a b xs ys,x=.ref a/\y=.ref b/\SqT K H a xs/\SqT K H b ys/\xs≠[]/\xs.length+ys.length<=sizeLine /\
 (ys=[]->Q (.ref a) H)/\(ys≠[]->∀ p,H p=none->Q (.ref p) (upd H p<|.tup<|xs++ys))
def Vals.nil_iff(r:Vals xs us):us=[]↔xs=[]:=by
 cases r with
 | nil=>simp
 | cons _ _=>simp
def jiL:OpR X (binaryOp .Add) (jj3 X.K):=by
 intro e s σ H x y v u Q I i j h;obtain⟨a,b,k,l,rfl,rfl,m,n,p,f,r,t⟩:=h;cases i;cases j;obtain⟨A,d,p1,_⟩:=I.tuple m;obtain⟨g,c,p2,_⟩:=I.tuple n;refine HT.cat_tup p1 p2 (λz=>p<|d.nil_iff.mp z) (λz=>⟨.ref a,H,I,rfl,r<|c.nil_iff.mp z⟩) (λz=>?_) (by rw[<- d.length,<- c.length];exact f);refine⟨.ref ↥s,_,I.laid (t':=s.toks) (o:=.tup<|k++l) (λb ob q=>L7 _ q) (M8 _) ?_,rfl,t (λw=>z<|c.nil_iff.mpr w) _<|I.hok.fresh<|M8 _⟩;exact⟨by rw[N3];exact f,_,d.append c,IsTupN.new _ _⟩
end
noncomputable def ixN(n:Nat)(i:Int):Option Nat:=if 0<=i then(if i<n then some i.toNat else none) else if -(n:Int)<=i then some (i+n).toNat else none
def atI{α:Type}(xs:List α)(i:Int):Option α:=(ixN xs.length i).bind λj=>xs[j]?
def wD(h:ixN n i=some j):seqIndex? i n=some j/\j<n/\-(n:Int)<=i/\i<n:=by
 unfold ixN at h;by_cases b:0<=i
 ·rw[if_pos b] at h;by_cases a:i<n
  ·rw[if_pos a] at h;have e:i.toNat=j:=X7 h;exact⟨by rw[seqIndex_of b a,e],by lia,by lia,a⟩
  ·rw[if_neg a] at h;cases h
 ·rw[if_neg b] at h;by_cases a:-(n:Int)<=i
  ·rw[if_pos a] at h;have e:(i+n).toNat=j:=X7 h;exact⟨by rw[seqIndex_neg ∅ a,e],by lia,a,by lia⟩
  ·rw[if_neg a] at h;cases h
def Qm(h:atI xs i=some v):∃ j,seqIndex? i xs.length=some j/\xs[j]?=some v/\j<xs.length/\-(xs.length:Int)<=i/\i<xs.length:=by
 unfold atI at h;cases e:ixN xs.length i with
 | none=>rw[e] at h;cases h
 | some j=>
  rw[e] at h;obtain⟨a,b,c,d⟩:=wD e;exact⟨j,a,h,b,c,d⟩
def xP(b:Expr):Prop:=∀ o i,subscripted b false o i=operate [o,i] (getItem o i)
def IxR(X:Cx)(r:R2):Prop :=
 ∀(value slice:Expr) (pins:W1) (s:Shared) (σ:St) (H:Hp) (x y:V) (v u:Value) (Q:VK),Inv X pins σ H s->RelV x v->RelV y u->r x y H Q ->
  subscripted slice false v u=operate [v,u] (getItem v u)->wpAny (model X.prog X.w) X.A (subscriptTail value slice v u) (EP X pins σ Q) X.xe s
def MtR(X:Cx)(id:String)(r:V->List V->Hp->VK->Prop):Prop :=
 ∀(pins:W1) (s:Shared) (σ:St) (H:Hp) (x:V) (xs:List V) (v:Value) (us:List Value) (Q:VK),Inv X pins σ H s->RelV x v->Vals xs us->r x xs H Q ->
  wpAny (model X.prog X.w) X.A (call (.builtin id)<|v::us) (EP X pins σ Q) X.xe s
section
variable {X:Cx}{a b:Expr}{ta tb:TE}{pos:Pos}
def IxR.or(h:IxR X r)(h':IxR X r'):IxR X (λx y H Q=>r x y H Q\/r' x y H Q):=by
 intro value slice a s σ H x y v u Q I b c q d;rcases q with q | q
 ·exact h value slice a s σ H x y v u Q I b c q d
 ·exact h' value slice a s σ H x y v u Q I b c q d
def jlU(d:IxR X r)(e:PE X a ta)(f:PE X b tb)(g:xP b):PE X (.Subscript a b pos) (tOp r ta tb):=by
 intro c s σ H Q I h;exact Subscript_<|jm2 e f I h λv u i x y j k l m q=>d a b c i σ j x y v u Q k l m q<|g _ _
def jjm(K:W5):R2:=λx y H Q=>∃ p xs i v,x=.ref p/\y=.int i/\SqL K H p xs/\atI xs i=some v/\Q v H
def jnD(K:W5):R2:=λx y H Q=>∃ p xs i v,x=.ref p/\y=.int i/\SqT K H p xs/\atI xs i=some v/\Q v H
def jnJ:R2:=λx y H Q=>∃ z i c,x=.str z/\y=.int i/\z.length<=sizeLine/\atI z.cps.toList i=some c/\Q (.str ⟨#[c]⟩) H
def ix_list:IxR X (jjm X.K):=by
 intro value slice a s σ H x y v u Q I m n h g;obtain⟨p,G,i,z,rfl,rfl,o,A,q⟩:=h;cases m;obtain⟨t,rfl⟩:=n;obtain⟨d,r,pl,J⟩:=I.list o;obtain⟨j,c,B,L,C,D⟩:=Qm A;obtain⟨w,k,e⟩:=r.get B;have E:=r.length;have M:=Ke;have b:EP X a σ Q w s:=⟨z,H,I,e,q⟩;by_cases l:0<=i
 ·have f:i.toNat=j:=by
   rw[seqIndex_of l D] at c;exact X7 c
  exact item_listR pl.isList l ∅ (by rw[f];simpa using k) b g
 ·have f:(i+(d.toArray.size:Int)).toNat=j:=by
   rw[seqIndex_neg ∅ C] at c;rw[N2,<- E];exact X7 c
  exact subscriptTail_builtinR (x:=w) pl.isList.typeIs slot_list_getitem.lookup
   (wpAny_getItem_list_neg (Q:=λr F=>r=w/\EP X a σ Q r F) pl.isList ∅ (by rw[N2]<;>lia) ∅ (by rw[f];simpa using k) ⟨rfl,b⟩) g
def ix_tup:IxR X (jnD X.K):=by
 intro value slice a s σ H x y v u Q I d e h f;obtain⟨p,C,i,z,rfl,rfl,g,k,q⟩:=h;cases d;obtain⟨t,rfl⟩:=e;obtain⟨l,r,pl,D⟩:=I.tuple g;obtain⟨j,m,n,E,F,G⟩:=Qm k;obtain⟨w,o,b⟩:=r.get n;have A:=r.length;have J:=Ke;have c:EP X a σ Q w s:=⟨z,H,I,b,q⟩;exact subscriptTail_builtinR (x:=w) pl.typeIs slot_tuple_getitem.lookup
  (getItem_tuple (j:=j) (Q:=λr B=>r=w/\EP X a σ Q r B) pl ∅ ∅ (by rw[N2,<- A];exact m) ⇑o ⟨rfl,c⟩) f
def jkO:IxR X jnJ:=by
 intro value slice a s σ H x y v u Q I d e h f;obtain⟨z,i,c,rfl,rfl,p,g,q⟩:=h;obtain⟨t,rfl⟩:=d;obtain⟨r,rfl⟩:=e;obtain⟨j,b,k,w,l,m⟩:=Qm g;have n:z.cps.toList.length=z.length:=by simp[Str.length]
 rw[n] at b l m;have A:=Ke;exact tail_any (typeIs_str s z t) slot_str_getitem.lookup (getItem_str (c:=c) (by
  have o:decide (i < -(2 ^ 63:Int))=false:=X5 ∅;have e2:decide (i ≥ 2 ^ 63)=false:=X5 ∅;rw[o,e2,Bool.or_false]) (by rw[b];simpa using k) ⟨.str ⟨#[c]⟩,H,I.tok _,⟨_,rfl⟩,q⟩) f
def rIx(K:W5):R2:=λx y H Q=>jjm K x y H Q\/jnD K x y H Q\/jnJ x y H Q
def jkk:IxR X (rIx X.K):=ix_list.or<|ix_tup.or jkO
def jay(its:List Value)(n j:Nat)(u:Value):Obj.mapSeq (·.setIfInBounds j u) {cls:=.type "list",data:=.seq its.toArray n}={cls:=.type "list",data:=.seq (its.set j u).toArray n}:=by
 simp[Obj.mapSeq]
def Inv.lst(I:Inv X pins σ H s)(h:H p=some (.lst xs)):
  ∃(its:List Value) (n:Nat),Vals xs its/\s.heap.get? p=some {cls:=.type "list",data:=.seq its.toArray n}/\xs.length<=sizeLine:=by
 obtain⟨z,its,n,r,e⟩:=I.hok p _ h;exact⟨its,n,r,e,z⟩
def Inv.lstUpd{pins:List (Addr×Obj)}{s:Shared}{xs ys:List V}{its its':List Value}{n a:Nat}{f:Obj->Obj}(I:Inv X pins σ H s)(h:H p=some (.lst xs))
  (d:s.heap.get? p=some {cls:=.type "list",data:=.seq its.toArray n}) (c:f {cls:=.type "list",data:=.seq its.toArray n}={cls:=.type "list",data:=.seq its'.toArray a}) (r:Vals ys its') (hz:ys.length<=sizeLine) (t:Nat):
  Inv X pins σ (upd H p<|.lst ys) {s with heap:=s.heap.update p f,toks:=t}:=by
 have e:(s.heap.update p f).get? p=some {cls:=.type "list",data:=.seq its'.toArray a}:=by
  rw[Heap.get?_update_self f d<|by rw[c]<;>rfl,c]
 refine I.write (x:=p) (e:=p) (by rw[h];trivial) (.inl rfl) (λb u g q=>(Heap.get?_update_other _ _<|Ne.symm g).trans q) ⟨_,e⟩ ?_;exact⟨hz,its',a,r,e⟩
def jbg:V->V->V->Hp->(Hp->Prop)->Prop:=λo i v H Q=>∃ p xs k j,o=.ref p/\i=.int k/\H p=some (.lst xs)/\ixN xs.length k=some j/\Q (upd H p<|.lst<|xs.set j v)
def uW:jnn X jbg:=by
 intro a s σ H o i v E F u Q I y z A h;obtain⟨p,B,k,j,rfl,rfl,g,C,q⟩:=h;cases y;obtain⟨t,rfl⟩:=z;obtain⟨b,n,r,d,D⟩:=I.lst g;obtain⟨c,G,l,m⟩:=wD C;have e:=r.length;have J:=Ke;have w:Inv X a σ (upd H p<|.lst<|B.set j v) {s with heap:=s.heap.update p (Obj.mapSeq (·.setIfInBounds j u))} :=
  I.lstUpd g d (jay b n j u) (r.set A j) (by rw[List.length_set];exact D) s.toks
 by_cases x:0<=k
 ·have f:k.toNat=j:=by
   rw[seqIndex_of x m] at c;exact X7 c
  exact PySem.W.ki_setAt d x ∅ (by rw[N2,<- e];exact m) (by rw[f];exact⟨_,w,q⟩)
 ·have f:(k+(b.toArray.size:Int)).toNat=j:=by
   rw[seqIndex_neg ∅ l] at c;rw[N2,<- e];exact X7 c
  exact PySem.W.ki_setBack d ∅ (by rw[N2,<- e];exact l) ∅ (by rw[f];exact⟨_,w,q⟩)
def zf(lo hi:Option Int)(n:Nat):(sliceBounds lo hi none n).1=((HT.sIx n 0 lo:Nat):Int)/\(sliceBounds lo hi none n).2.1=((HT.sIx n n hi:Nat):Int)/\(sliceBounds lo hi none n).2.2=1:=by
 refine⟨?_,?_,rfl⟩
 ·cases lo with
  | none=>simp[sliceBounds,HT.sIx]
  | some i=>
   simp only[sliceBounds,HT.sIx,Option.getD_none,show(1:Int)>0 by decide,if_true];by_cases h:i<0
   ·simp only[h,if_true]<;>lia
   ·simp only[h,if_false]<;>lia
 ·cases hi with
  | none=>simp[sliceBounds,HT.sIx]
  | some i=>
   simp only[sliceBounds,HT.sIx,Option.getD_none,show(1:Int)>0 by decide,if_true];by_cases h:i<0
   ·simp only[h,if_true]<;>lia
   ·simp only[h,if_false]<;>lia
def K5(its:List Value)(lo hi:Option Int):slicePick its.toArray lo hi none=((its.drop<|HT.sIx its.length 0 lo).take (HT.sIx its.length its.length hi-HT.sIx its.length 0 lo)).toArray:=by
 obtain⟨a,b,c⟩:=zf lo hi its.toArray.size;unfold slicePick;rw[a,b,c];simp only[sliceRange_one,pick_run,N2]<;>rfl
def jnF(K:W5):V->Option Int->Option Int->Hp->VK->Prop:=λx lo hi H Q=>∃ a xs,x=.ref a/\SqL K H a xs/\∀ p,H p=none->Q (.ref p) (upd H p<|.lst<|jfU xs lo hi)
def jgD:SlR X (jnF X.K):=by
 intro e s σ H x v n p lo hi t Q I g i pl j h;obtain⟨a,c,rfl,k,q⟩:=h;cases g;obtain⟨l,r,f,m⟩:=I.list k;have d:=r.length;refine⟨"list",_,slot_list_getitem.lookup,f.isList.typeIs,?_⟩;refine wpAny_getItem_list_slice f.isList i pl j .none (by simp) ?_ (by rw[N2]<;>lia);rw[K5,<- d];refine⟨.ref ↥s,_,I.laid (t':=s.toks) (o:=.lst<|jfU c lo hi) (λb ob q=>L7 _ q) (M8 _) ?_,rfl,q _<|I.hok.fresh<|M8 _⟩;exact⟨N6 (Vb c lo hi) m,_,0,(r.drop<|HT.sIx c.length 0 lo).take (HT.sIx c.length c.length hi-HT.sIx c.length 0 lo),E1 _ rfl⟩
noncomputable def VI:V->Bool
 | .non=>true
 | .bl _=>true
 | .int _=>true
 | .str _=>true
 | _=>false
noncomputable def eqV:V->V->Bool
 | .non,.non=>true
 | .bl a,.bl b=>a==b
 | .bl a,.int b=>(if a then 1 else 0)==b
 | .int a,.bl b=>a==(if b then 1 else 0)
 | .int a,.int b=>a==b
 | .str a,.str b=>a==b
 | _,_=>false
def jk8(e:RelV y u)(c:RelV x v)(g:VI y=true)(f:VI x=true):SeqAt.EqAt A s u v (eqV y x):=by
 cases y with
 | non=>
  cases e;cases x with
  | non=>cases c;exact SeqAt.EqAt.same _
  | bl b=>cases c;exact SeqAt.EqAt.none_bool b
  | int b=>obtain⟨t,rfl⟩:=c;exact SeqAt.EqAt.none_int b t
  | str b=>obtain⟨t,rfl⟩:=c;exact SeqAt.EqAt.none_str b t
  | _=>exact absurd (show false=true from f) M3
 | bl a=>
  cases e;cases x with
  | non=>cases c;exact SeqAt.EqAt.bool_none a
  | bl b=>cases c;exact SeqAt.EqAt.bool_bool a b
  | int b=>obtain⟨t,rfl⟩:=c;exact SeqAt.EqAt.bool_int a b t
  | str b=>obtain⟨t,rfl⟩:=c;exact SeqAt.EqAt.bool_str a b t
  | _=>exact absurd (show false=true from f) M3
 | int a=>
  obtain⟨d,rfl⟩:=e;cases x with
  | non=>cases c;exact SeqAt.EqAt.int_none a d
  | bl b=>cases c;exact SeqAt.EqAt.int_bool a d b
  | int b=>obtain⟨t,rfl⟩:=c;exact SeqAt.EqAt.int_int a d b t
  | str b=>obtain⟨t,rfl⟩:=c;exact SeqAt.EqAt.int_str a d b t
  | _=>exact absurd (show false=true from f) M3
 | str a=>
  obtain⟨d,rfl⟩:=e;cases x with
  | non=>cases c;exact SeqAt.EqAt.str_none a d
  | bl b=>cases c;exact SeqAt.EqAt.str_bool a d b
  | int b=>obtain⟨t,rfl⟩:=c;exact SeqAt.EqAt.str_int a d b t
  | str b=>obtain⟨t,rfl⟩:=c;exact SeqAt.EqAt.str_str a d b t
  | _=>exact absurd (show false=true from f) M3
 | _=>exact absurd (show false=true from g) M3
def eqU(x:V)(u:Value):Bool:=match u with
 | .none=>eqV .non x
 | .bool b=>eqV (.bl b) x
 | .int i _=>eqV (.int i) x
 | .str z _=>eqV (.str z) x
 | _=>false
def jfT(r:RelV y u)(f:VI y=true):eqU x u=eqV y x:=by
 cases y with
 | non=>cases r;rfl
 | bl b=>cases r;rfl
 | int i=>obtain⟨t,rfl⟩:=r;rfl
 | str z=>obtain⟨t,rfl⟩:=r;rfl
 | _=>exact absurd (show false=true from f) M3
theorem VR:∀{xs:List V}{us:List Value},Vals xs us->xs.all VI=true->us.any (eqU x)=xs.any λy=>eqV y x
 | _,_,.nil,_=>rfl
 | y::xs,u::us,.cons r t,f=>by
  rw[List.all_cons,L9] at f;rw[List.any_cons,List.any_cons,jfT r f.1,VR t f.2]
theorem JR(b:RelV x v)(c:VI x=true):∀{xs:List V}{us:List Value},Vals xs us->xs.all VI=true->∀ u∈us,SeqAt.EqAt A s u v<|eqU x u
 | _,_,.nil,_=>λu a=>by cases a
 | y::xs,u::us,.cons r t,f=>λd a=>by
  rw[List.all_cons,L9] at f;rcases M4.mp a with rfl | a
  ·rw[jfT r f.1];exact jk8 r b f.1 c
  ·exact JR b c t f.2 d a
def inV(x:V)(xs:List V):Bool:=xs.any λy=>eqV y x
def rIn(K:W5)(neg:Bool):R2:=λx y H Q=>∃ p xs,y=.ref p/\(SqL K H p xs\/SqT K H p xs)/\VI x=true/\xs.all VI=true/\Q (.bl<|if neg then !inV x xs else inV x xs) H
def jbS:OpR X (compareOp .In) (rIn X.K false):=by
 intro d s σ H x y v u Q I e g h;obtain⟨p,j,rfl,b,f,fs,q⟩:=h;cases g;rcases b with b | b
 ·obtain⟨a,r,pl,i⟩:=I.list b;refine SeqAt.in_listAt (eqU x) pl.isList (λw c=>JR e f r fs w ⇑c) ⟨.bl _,H,I,rfl,?_⟩;rw[show a.toArray.any (eqU x)=a.any (eqU x) by simp,VR r fs];exact q
 ·obtain⟨a,r,pl,i⟩:=I.tuple b;refine SeqAt.in_tupleAt (eqU x) pl (λw c=>JR e f r fs w ⇑c) ⟨.bl _,H,I,rfl,?_⟩;rw[show a.toArray.any (eqU x)=a.any (eqU x) by simp,VR r fs];exact q
def zI:OpR X (compareOp .NotIn) (rIn X.K true):=by
 intro d s σ H x y v u Q I e g h;obtain⟨p,j,rfl,b,f,fs,q⟩:=h;cases g;rcases b with b | b
 ·obtain⟨a,r,pl,i⟩:=I.list b;refine SeqAt.notIn_listAt (eqU x) pl.isList (λw c=>JR e f r fs w ⇑c) ⟨.bl _,H,I,rfl,?_⟩;rw[show a.toArray.any (eqU x)=a.any (eqU x) by simp,VR r fs];exact q
 ·obtain⟨a,r,pl,i⟩:=I.tuple b;refine SeqAt.notIn_tupleAt (eqU x) pl (λw c=>JR e f r fs w ⇑c) ⟨.bl _,H,I,rfl,?_⟩;rw[show a.toArray.any (eqU x)=a.any (eqU x) by simp,VR r fs];exact q
def zS:JJ X (.type "list") (λxs H Q=>∃ p ys,xs=[.ref p]/\(SqL X.K H p ys\/SqT X.K H p ys)/\∀ l,H l=none->Q (.ref l) (upd H l<|.lst ys)):=by
 intro g s σ H xs z Q I r h;obtain⟨p,ys,rfl,i,q⟩:=h;obtain⟨u,rfl,y⟩:=jhA r;cases y;have j:∀(a:List Value),Vals ys a->ys.length<=sizeLine->∀(c:Heap) (d:Nat),(∀ b x,s.heap.get? b=some x->c.get? b=some x) ->
   c.get? ↥s=some {cls:=.type "list",dict:=none,data:=.seq a.toArray d,slots:=#[]}->EP X g σ Q (.ref ↥s) {s with heap:=c}:=λa f k c d kp e=>
  ⟨.ref ↥s,_,I.laid (t':=s.toks) kp (M8 _)<|show ObjOk X.prog X.w _ c _ (.lst ys) from⟨k,a,d,f,e⟩,rfl,q _<|I.hok.fresh<|M8 _⟩
 rcases i with i | i
 ·obtain⟨a,f,pl,k⟩:=I.list i;have m:=f.length;obtain⟨o,t,v,n,hd⟩:=pl.isList;exact call_list_seq p (.inl rfl) t v hd (λc d kp e=>j a f k c d kp e) (by simp only[N2]<;>lia)
 ·obtain⟨a,f,pl,k⟩:=I.tuple i;have m:=f.length;obtain⟨o,t,v,n,hd⟩:=pl;exact call_list_seq p (.inr rfl) t v hd (λc d kp e=>j a f k c d kp e) (by simp only[N2]<;>lia)
def Qe:JJ X (.type "tuple") (λxs H Q=>∃ p ys,xs=[.ref p]/\((SqL X.K H p ys/\∀ l,H l=none->Q (.ref l) (upd H l<|.tup ys))\/(SqT X.K H p ys/\Q (.ref p) H))):=by
 intro a s σ H xs t Q I r h;obtain⟨p,ys,rfl,h⟩:=h;obtain⟨u,rfl,m⟩:=jhA r;cases m;rcases h with⟨f,q⟩ | ⟨f,q⟩
 ·obtain⟨c,g,pl,i⟩:=I.list f;have j:=g.length;refine call_tuple_list pl.isList (λd kp=>?_) (by simp only[N2]<;>lia);have k:Inv X a σ H {s with heap:=d}:=I.kept (t':=s.toks) kp;have n:Inv X a σ (upd H d.objs.size<|.tup ys) { s with heap:=d.push {cls:=.type "tuple",data:=.seq c.toArray} } :=
   k.laid (t':=s.toks) (λb o e=>L7 _ e) (M8 _) (show ObjOk X.prog X.w _ _ _ (.tup ys) from⟨i,c,g,IsTupN.new _ _⟩)
  exact⟨.ref d.objs.size,_,n,rfl,q _<|k.hok.fresh<|M8 _⟩
 ·obtain⟨c,g,pl,i⟩:=I.tuple f;exact call_tuple_same pl ⟨.ref p,H,I,rfl,q⟩
def tyV(K:W5)(T:String)(x:V)(H:Hp):Prop:=match x with
 | .str _=>T = "str"
 | .int _=>T = "int"
 | .ref p=>(T = "list"/\∃ xs,SqL K H p xs)\/(T = "tuple"/\∃ o,K.lookup p=some o/\o.cls=.type "tuple"/\o.dict=none) \/
   (T = "dict"/\((∃ kvs,H p=some (.dK kvs)) \/ ∃ kvs,H p=some (.dT kvs)))\/(T = "set"/\∃ S n,H p=some (.set S n))
 | _=>False
def jlm(I:Inv X pins σ H s)(r:RelV x v)(ty:tyV X.K T x H):
  s.TypeIs v T/\∀ a,v=.ref a->∃ ob,s.heap.get? a=some ob/\ob.dict=none:=by
 cases x with
 | str z=>
  obtain⟨t,rfl⟩:=r;cases(show T = "str" from ty);exact⟨typeIs_str s z t,λ_ e=>nomatch e⟩
 | int i=>
  obtain⟨t,rfl⟩:=r;cases(show T = "int" from ty);exact⟨typeIs_int s i t,λ_ e=>nomatch e⟩
 | ref p=>
  cases r;rcases ty with⟨rfl,j,f⟩ | ⟨rfl,o,b,g,hd⟩ | ⟨rfl,b⟩ | ⟨rfl,S,n,b⟩
  ·obtain⟨h,_,pl,_⟩:=I.list f;refine⟨pl.isList.typeIs,λa e=>?_⟩;cases e;obtain⟨o,n,e,c,hd,_⟩:=pl;exact⟨o,e,hd⟩
  ·refine⟨⟨o,I.kIn p o b,g⟩,λa e=>?_⟩;cases e;exact⟨o,I.kIn _ o b,hd⟩
  ·have z:∃ o,s.heap.get? p=some o/\o.ExactDict:=by
    rcases b with⟨d,b⟩ | ⟨d,b⟩
    ·obtain⟨_,_,_,_,o,_,_,e,ex,_⟩:=I.hok p _ b;exact⟨o,e,ex⟩
    ·obtain⟨_,_,_,_,o,_,_,e,ex,_⟩:=I.hok p _ b;exact⟨o,e,ex⟩
   obtain⟨o,e,ex⟩:=z;refine⟨⟨o,e,ex.1⟩,λa e2=>?_⟩;cases e2;exact⟨o,e,ex.2.1⟩
  ·obtain⟨o,_,_,_,e,ex,_⟩:=I.hok p _ b;refine⟨⟨o,e,ex.1⟩,λa e2=>?_⟩;cases e2;exact⟨o,e,ex.2.1⟩
 | _=>exact False.elim ty
noncomputable def tBM(K:W5)(T:String)(r:V->List V->Hp->VK->Prop)(to:TE)(t:TA):TE:=λσ H Q=>to σ H λx H1=>tyV K T x H1/\t σ H1 λxs H2=>r x xs H2 Q
variable {o e:Expr}{es:List Expr}{to:TE}{t:TA}{name:Str}{apos cpos:Pos}{T id:String}{r:V->List V->Hp->VK->Prop}
def jem(pa:PlainAttrs T)(slot:Slot T name id)(g:typeOf (.builtin id)=pure (.type "method_descriptor"))(l:MtR X id r)(m:PE X o to)(n:PA X (e::es) t)
  (c:attributeBase o name X.env (eval o X.env)=eval o X.env:=by rfl)
  (f:((backTo cpos<|starEach (e::es) X.env).all (λx=>!x.1)&&(backToKw cpos<|keywordEach [] X.env).all (λx=>x.1.isSome)
   && decide ((e::es).length+([]:List Keyword).length+(if([]:List Keyword).isEmpty then 0 else 1)<30))=true:=by rfl)
  (d:(apos.endLine==cpos.line)=true:=by rfl) (p:starEach (e::es) X.env=(false,eval e X.env)::starEach es X.env:=by rfl) (b:(backTo cpos<|starEach es X.env).any (·.1)=false:=by rfl):
  PE X (.Call (.Attribute o name apos) (e::es) [] cpos) (tBM X.K T r to t):=by
 intro a s σ H Q I h;refine wpAny_Call_method_late c f d rfl<|thn (m a s σ H _ I h) λv s1 q=>?_;obtain⟨x,u,i,j,ty,w⟩:=q;obtain⟨y,z⟩:=jlm i j ty;refine⟨T,id,pa,slot,g,y,z,?_⟩;have k:=n cpos a s1 σ u _ i w;rw[p] at k ⊢;refine Calls.callWith_builtin (by show(false||(backTo cpos<|starEach es X.env).any (·.1))=false;rw[b]<;>rfl)<|Calls.evalArgs_plain ?_;exact thn k λA B ⟨C,D,E,F,G⟩=>l a B σ D x C v A Q E j F G
end
def MtM(X:Cx)(id:String)(r:V->List V->Hp->VK->Prop):Prop :=
 ∀(pins:W1) (s:Shared) (σ:St) (H:Hp) (x:V) (xs:List V) (v:Value) (us:List Value) (Q:VK),Inv X pins σ H s->RelV x v->Vals xs us->r x xs H Q ->
  wpAny (model X.prog X.w) X.A (call (.builtin id)<|v::us) (EP X pins σ Q) X.xe s
def Vals.one{x:V}{us:List Value}(h:Vals [x] us):∃ u,us=[u]/\RelV x u:=by
 cases h with
 | cons r h=>cases h;exact⟨_,rfl,r⟩
def Vals.two{x y:V}{us:List Value}(h:Vals [x,y] us):∃ u v,us=[u,v]/\RelV x u/\RelV y v:=by
 cases h with
 | cons r h=>
  cases h with
  | cons q h=>cases h;exact⟨_,_,rfl,r,q⟩
section
variable {X:Cx}{pins:List (Addr×Obj)}{σ:St}{H:Hp}{s:Shared}{l b:Addr}{xs ys zs:List V}
def Inv.lset{its its':List Value}{n:Nat}{f:Array Value->Array Value}{t':Nat}(I:Inv X pins σ H s)(a:H l=some (.lst xs))
  (e:s.heap.get? l=some {cls:=.type "list",data:=.seq its.toArray n}) (b:f its.toArray=its'.toArray) (c:Vals ys its') (hz:ys.length<=sizeLine):
  Inv X pins σ (upd H l<|.lst ys) {s with heap:=s.heap.update l<|Obj.mapSeq f,toks:=t'}:=by
 have q:=PySem.IsL.update e f;rw[b] at q;refine I.write (x:=l) (e:=l) (by rw[a];exact trivial) (.inl rfl) (λb' u d g=>(Heap.get?_update_other s.heap (Obj.mapSeq f)<|Ne.symm d).trans g) ⟨_,q⟩ ?_;exact⟨hz,its',_,c,q⟩
def Inv.lnew(I:Inv X pins σ H s)(a:Vals ys its)(hz:ys.length<=sizeLine):
  Inv X pins σ (upd H ↥s (.lst ys)) { s with heap:=s.heap.push {cls:=.type "list",data:=.seq its.toArray},toks:=t' } :=
 I.laid (λ_ _ q=>L7 _ q) (M8 _) ⟨hz,its,0,a,E1 _ rfl⟩
def Inv.fresh(I:Inv X pins σ H s):H ↥s=none:=I.hok.fresh<|M8 _
def Inv.lstM(I:Inv X pins σ H s)(a:H l=some (.lst xs)):xs.length<=sizeLine/\∃(its:List Value) (n:Nat),Vals xs its/\xs.length=its.length/\s.heap.get? l=some {cls:=.type "list",data:=.seq its.toArray n}:=by
 obtain⟨z,its,n,r,e⟩:=I.hok l _ a;exact⟨z,its,n,r,r.length,e⟩
def wV(h:n<=sizeLine):Builtin.List.listTooLong n=false:=by
 unfold Builtin.List.listTooLong;exact X5 ∅
end
section
variable {X:Cx}
def VU:V->List V->Hp->VK->Prop:=λx vs H Q=>∃ l xs y,x=.ref l/\vs=[y]/\H l=some (.lst xs)/\xs.length<sizeLine/\Q .non (upd H l<|.lst<|xs++[y])
def VG:MtM X "list.append" VU:=by
 intro b s σ H x i v j Q I d f h;obtain⟨l,k,y,rfl,rfl,c,m,q⟩:=h;cases d;obtain⟨u,rfl,g⟩:=f.one;obtain⟨z,a,n,r,o,e⟩:=I.lstM c;refine call_meets F.slot_list_append ⟨_,e,rfl⟩ F.entry_list_append (F.args_list_append_2 _ _) (PySem.list_append l a.toArray n u<|by rw[N2];lia) ⟨e,?_⟩;refine⟨.non,_,I.lset (its':=a++[u]) c e (by simp) (r.append<|.cons g .nil) ?_,rfl,q⟩;rw[N3,List.length_singleton]
 lia
end
end L2
namespace Att
open PySem PySem.W PySem.Calls PyProof.Rows
def VJ:∀(ns:List Int) (vs:List Value),WellAll P h vs (ns.map WData.int)->IntsAre vs ns:=by
 intro ns
 induction ns with
 | nil=>
  intro vs w;rw[List.map_nil] at w;cases w;exact .nil
 | cons n ns c=>
  intro vs w;rw[L4] at w;cases w with
  | cons a b=>
   cases a;exact .cons _ _<|c _ b
def script_of{l:OpenLaw}{n:Nat}(p:l.most=some n)  {h:Heap}{b:List WData}{c:List Value}
  (e:l.row.toRowW.claim.pre b=true) (k:WellAll P h c b):
  ∃ a vs ns,c=[Value.ref a]/\b=[WData.list<|ns.map WData.int]/\h.get? a=some {cls:=.type "list",data:=.seq vs.toArray}/\IntsAre vs ns/\ns.length<=n:=by
 have m:WShape.hasAll [] b [.list .int]=true:=(pre_splitW e).1;have o:l.pre.holds [] {args:=b}=true:=(pre_splitW e).2;obtain⟨d,r,rfl,s,t⟩:=hasAllW_cons m;obtain rfl:=hasAllW_nil t;obtain⟨z,rfl,u⟩:=hasW_list s;obtain⟨ns,rfl⟩:=items_int u;have f:ns.length<=n:=by
  unfold OpenLaw.pre at o;have i:(WTm.not<|.lt (.lit<|.int (n:Int))<|.len<|.arg 0).holds [] {args:=[.list<|ns.map .int]}=true:=by
   have i:=(holds_andW o).1;rw[p] at i;exact i
  have j:=condW_of i<|w_not<|w_lt w_lit<|w_len_list<|w_arg rfl;rw[L0] at j;refine Nat.le_of_not_lt λq=>?_;have v:(n:Int)<((ns.length:Nat):Int):=by lia
  first
   | (rw[X4 v] at j;exact absurd j (by decide))
   | (simp at j;lia)
 cases k with
 | cons w x=>
  cases x;cases w with
  | list y g=>exact⟨_,_,ns,rfl,rfl,y,VJ ns _ g,f⟩
def post_true(l:OpenLaw)(a:List WData):l.row.toRowW.claim.post a (.bool true) a=true :=
 postW_of (r:=l.row.toRowW) (X:=(true==true))
  (show WShape.has [] (.bool true) .bool=true by first | rfl | decide | simp[WShape.has,WShape.arms,WShape.armsAll])
  (show(WTm.eq .res<|.lit<|.bool true).value [] {args:=a,res:=some<|.bool true,after:=a}=some (.bool<|true==true) from w_eq_bool (w_res rfl) w_lit) rfl
end Att
namespace L2
open PySem PySem.Spec PyProof.Rows
theorem zX:∀{vs:List Value}{ns:List Int},IntsAre vs ns->Vals (ns.map V.int) vs
 | _,_,.nil=>.nil
 | _,_,.cons n t h=>.cons ⟨t,rfl⟩<|zX h
def jmW(H:Hp):Prop:=∀ b,H b=none \/ ∃ o xs,H b=some (.frz o<|.lst xs)
def jev{P:Program}{w:World}{K:W5}{mg I:W7}{CX:CXT}{k:Nat}{fa a:Addr}{fd:FuncData}{x:Str}{sp:Sp}{c:Shared}{vs:List Value}{ns:List Int}
  (Q:K.In c.heap) (p:c.heap.Ns mainGlobals mg) (g:c.heap.Ns builtinsNs I) (J:∀ x:Str,x≠"__name__"->I x=bootBuiltins x) (t:c.heap.NoLimit) (Y:c.gens = #[])
  (G:c.heap.get? a=some {cls:=.type "list",data:=.seq vs.toArray}) (hi:IntsAre vs ns) (R:ns.length<=sizeLine) (Z:Room k callerA)
  (F:∀ base:Heap,K.In base->base.Ns mainGlobals mg->FnOk P w K mg base CX k fa fd [x] sp) (l:∀(s:Shared) (u:Value),BindsTo s fd ⟨[u],[]⟩ [(x,u)])
  (L:∀ H:Hp,jmW H->SqL K H a (ns.map V.int)->sp [.ref a] H (λv _=>v=.bl true) λ_ _ _=>False)
  (M:∀ H e s',CX [] H c (λ_ _ _=>False) e s'->False):
  codeAny (model P w) callerA (.call (.ref fa) ⟨[.ref a],[]⟩) (λr s'=>r=.ok (.ret<|.bool true)/\OldK c.heap s'.heap/\s'.os=c.os/\AllBare s'.gens) c:=by
 have S:=zX hi;have y:=hi.length
 -- from an abstract heap in which nothing but the script may be tracked
 have j:∀ H:Hp,jmW H->SqL K H a (ns.map V.int)->HOk P w H c.heap->(∀ b,H b≠none->b=a)->(H a≠none->K.lookup a=none) ->
   codeAny (model P w) callerA (.call (.ref fa) ⟨[.ref a],[]⟩) (λr s'=>r=.ok (.ret<|.bool true)/\OldK c.heap s'.heap/\s'.os=c.os/\AllBare s'.gens) c:=by
  intro H T hS hok U hK;have f:∀{b:Addr}{o:Obj},c.heap.get? b=some o->H b=none->(jdU c.heap H).get? b=some o:=λe n=>jdX e n;have N:∀{b:Addr}{o:Obj}{A:Array DictEntry}{B:Nat},c.heap.get? b=some o->o.data=.dict A B->H b=none:=λ{b o A B} e d=>by
   cases q:H b with
   | none=>rfl
   | some u=>
    have O:b=a:=U b (by rw[q];simp);subst O;rw[G] at e;cases e;have d':Data.seq vs.toArray _=Data.dict A B:=d;cases d'
  have i:∀{b:Addr}{m:W7},c.heap.Ns b m->(jdU c.heap H).Ns b m:=λ{b m} ⟨o,A,B,e,d,r⟩=>⟨o,A,B,f e<|N e d,d,r⟩;have C:K.In (jdU c.heap H):=λb o e=>f (Q b o e) (by
   cases q:H b with
   | none=>rfl
   | some u=>
    have O:b=a:=U b (by rw[q];simp);subst O;rw[hK<|by rw[q];simp] at e;cases e)
  have hM:Mod K mg (jdU c.heap H):=⟨C,i p,⟨I,i g,J⟩,let ⟨mc,h1,h2⟩:=t;⟨mc,i h1,h2⟩⟩;have e0:Env0 P w K mg (jdU c.heap H) callerA [] c H:=⟨rfl,hM,λb o e=>jgF e,Nat.le_of_eq<|jce _ _,trivial,λb g=>absurd (show b∈([]:W6) from g)<|by simp,hok,.of_eq Y⟩;refine codeAny_mono ((F _ C<|i p).run callerA [] c H ⟨[.ref a],[]⟩ [.ref a] [.ref a] _ _ Z e0 (l c<|.ref a) (.cons rfl .nil) (L H T hS)) λr s' h=>?_;cases r with
  | error e=>exact(M H e s' h).elim
  | ok fl=>
   cases fl with
   | next=>exact False.elim h
   | brk=>exact False.elim h
   | cont=>exact False.elim h
   | ret u=>
    obtain⟨v,H',os,bare,un,D,r',q⟩:=h;have q':v=.bl true:=q;subst q';obtain rfl:u=Value.bool true:=r';refine⟨rfl,OldK.of_keep λb o e=>?_,os,bare⟩;cases q:H b with
    | none=>exact un.keep b o e q (by intro z;exact absurd (show b∈([]:W6) from z)<|by simp) (by simp)
    | some u=>
     rcases T b with z | ⟨ob,xs,z⟩
     ·rw[q] at z;cases z
     ·have z2:=un.frzs b ob _ z;obtain⟨X,_⟩:=hok b _ z;obtain⟨e2,_⟩:=D b _ z2;rw[e] at X;cases X;exact e2
 cases hk:K.lookup a with
 | some o=>
  -- the script is one of the module's own objects
  have e:=Q a o hk;rw[G] at e;cases e;refine j (λ_=>none) (λ_=>.inl rfl) (.inr ⟨_,vs.toArray,_,hk,rfl,rfl,rfl,by rw[N2,y];exact R,by simpa using S⟩) (λb u z=>by have E:(none:Option HO)=some u:=z;cases E) (λb z=>absurd rfl z) λz=>absurd rfl z
 | none=>
  refine j (λb=>if b=a then some (.frz {cls:=.type "list",data:=.seq vs.toArray} (.lst<|ns.map V.int)) else none) (λb=>?_) (.inl<|.inr ⟨{cls:=.type "list",data:=.seq vs.toArray},if_pos rfl⟩) (λb u z=>?_) (λb z=>?_) λ_=>hk
  ·by_cases g:b=a
   ·exact .inr ⟨_,_,if_pos g⟩
   ·exact .inl<|if_neg g
  ·by_cases g:b=a
   ·have E:=(if_pos g).symm.trans z;cases E;subst g;exact⟨G,by rw[L0];exact R,vs,_,S,G⟩
   ·have E:=(if_neg g).symm.trans z;cases E
  ·by_cases g:b=a
   ·exact g
   ·exact absurd (if_neg g) z
noncomputable def qG(s:Stmt)(j:Nat):Stmt:=match s with
 | .ClassDef _ _ _ body _ _ _ _ _ _ _=>body.getD j<|.Pass ⟨0,0,0,0⟩
 | _=>.Pass ⟨0,0,0,0⟩
noncomputable def qr(s:Stmt):Arguments:=match s with
 | .FunctionDef _ a _ _ _ _ _ _ _ _=>a
 | _=>{posonlyargs:=[],args:=[],vararg:=none,kwonlyargs:=[],kw_defaults:=[],kwarg:=none,defaults:=[]}
noncomputable def vO(s:Stmt):List Stmt:=match s with
 | .FunctionDef _ _ b _ _ _ _ _ _ _=>b
 | _=>[]
noncomputable def jL(s:Stmt):Scope:=match s with
 | .FunctionDef _ _ _ _ _ _ sc _ _ _=>sc
 | _=>{kind:=.function,names:=[],isGenerator:=false,isCoroutine:=false}
noncomputable abbrev CX0:CXT:=λ_ _ _ _ _ _=>False
noncomputable abbrev E0:XK:=λ_ _ _=>False
def jeV:Kk CX0 X E0:=λ_ _ _ _ _ _ _ h=>h.elim
structure Fun(K:W5)(x qual:Str)(st:Stmt)(f:Addr)(fd:FuncData):Prop where
 ex:∃(oc:Value) (od:Option Addr) (kV doc pm:Value) (an:Option Addr) (cdv ct:Value) (osl:Array<|Option Value),
  fd=PySem.W.fnOf x qual (qr st) (vO st) (jL st) .none kV doc pm an cdv ct/\K.lookup f=some ⟨oc,od,.func fd,osl⟩/\PySem.W.codeIn K cdv qual=true
 kp:PySem.W.keepIn K (.ref f)=true
section
variable {P:Program}{w:World}{K:W5}{mg:W7}{base:Heap}
def Fun.ok{x qual:Str}{st:Stmt}{f:Addr}{fd:FuncData}{N ps:List Str}{k:Nat}{sp:Sp}(F:Fun K x qual st f fd)(S:FnScope N ps<|jL st)(len:∀ vs H Q E,sp vs H Q E->vs.length=ps.length)
  (a:∀(cdv:Value) (A:Around) (outer:List Env) (s:Shared) (H:Hp) (vs:List V) (Q:VK) (E:XK),Room k (A.deeper<|envOfC qual (jL st) ↥s f cdv)->sp vs H Q E ->
   ∃ t,PSs (jfp CX0 P w K mg base N qual (jL st) f cdv A outer s H E).nox (vO st) t/\t {nx:=λ_ H'=>Q .non H',rt:=Q} (start N vs) H):FnOk P w K mg base CX0 (k+1) f fd ps sp:=by
 obtain⟨oc,od,kV,d,j,l,cdv,ct,e,rfl,g,b⟩:=F.ex;refine jmz g b S len λA outer s H vs Q E i c=>?_;obtain⟨t,h,q⟩:=a cdv A outer s H vs Q E i c;exact⟨t,h.nox,q⟩
def Fun.binds{x qual:Str}{st:Stmt}{f:Addr}{fd:FuncData}{ps:List Str}(F:Fun K x qual st f fd)
  (h:∀(kV doc pm:Value) (an:Option Addr) (cdv ct:Value) (us:List Value),us.length=ps.length->bindArgs (PySem.W.fnOf x qual (qr st) (vO st) (jL st) .none kV doc pm an cdv ct) ⟨us,[]⟩=pure (ps.zip us)):Binds K fd ps []:=by
 obtain⟨oc,od,kV,doc,pm,an,cdv,ct,a,rfl,c,b⟩:=F.ex;exact .all<|h kV doc pm an cdv ct
def u4{x qual:Str}{st:Stmt}{f:Addr}{oc:Value}{od an:Option Addr}{d:Array (Option Value)}{kV b pm a ct:Value}(l:K.lookup f=some ⟨oc,od,.func<|PySem.W.fnOf x qual (qr st) (vO st) (jL st) .none kV b pm an a ct,d⟩)
  (c:PySem.W.codeIn K a qual=true) (k:PySem.W.keepIn K (.ref f)=true):Fun K x qual st f (PySem.W.fnOf x qual (qr st) (vO st) (jL st) .none kV b pm an a ct):=⟨⟨oc,od,kV,b,pm,an,a,ct,d,rfl,l,c⟩,k⟩
end
def V4(a:Room k A):A.units+1<cLine:=E4 (Nat.add_le_add_left (by decide:1<=64) _) a.units
def jb1(h:n<=1000):n<sizeLine:=E4 h (by decide)
def jfm{A B:Prop}(h:B):if false=true then A else B:=by
 rw[if_neg M3];exact h
def jfW{A B:Prop}(h:A):if true=true then A else B:=by
 rw[if_pos rfl];exact h
def QV(I:Nat->Shared->Prop)
  (turn:∀ n s,I n s->wpAny (model prog w) A (pyNext it) (λr s₁=>match r with
   | none=>R (.ok .next) s₁
   | some v=>wpAny (model prog w) A (letOwnedTupleGo target it v) (λ_ s₁'=>wpAny (model prog w) A (assign target env v) (λ_ s₂=>
     wpAny (model prog w) A (forIn ifs true λc r=>if r=true then do let ok <- isTrue c env (eval c env);pure (ForInStep.yield ok) else pure (ForInStep.yield r)) (λok s₃=>
      if ok=true then wpAny (model prog w) A (eval elt env) (λx s₄=>
       wpAny (model prog w) A (call (.builtin "list.append") [acc,x]) (λ_ s₅=>∃ m,m<n/\I m s₅) (λ_ _=>False) s₄) (λ_ _=>False) s₃
      else ∃ m,m<n/\I m s₃) (λ_ _=>False) s₂) (λ_ _=>False) s₁') (λ_ _=>False) s₁) (λ_ _=>False) s)
  (n:Nat) (h:I n s):
  codeAny (model prog w) A (.compLoop (.ListComp elt [⟨target,iter,ifs,0⟩] scope pos) 0 it acc env) R s:=by
 have a:∀{α:Type}{t:Sem α}{Q:α->Shared->Prop}{E:W0}{s:Shared},wpAny (model prog w) A t Q (λ_ _=>False) s->wpAny (model prog w) A t Q E s :=
  λh=>wpAny_mono h (λ_ _ x=>x) λ_ _ z=>z.elim
 refine codeAny_loop rfl I (λn s f=>?_) n h;show wpAny _ A ((compTurn (.ListComp elt [⟨target,iter,ifs,0⟩] scope pos) 0 it acc env).onRaise (λx=>do noteFrame x env;theTreesLotGoes x)) _ _ s;refine wpAny_noted ?_;rw[compTurn_list];refine L1<|wpAny_standAt<|L1<|thn (a<|turn n s f) λr s₁ d=>?_;cases r with
 | none=>exact M6 d
 | some v=>
  refine L1<|thn (a d) λ_ s₁' b=>L1<|thn (a b) λ_ s₂ g=>L1<|thn (a g) λok s₃ e=>?_;cases ok with
  | false=>exact M6 ⟨rfl,e⟩
  | true=>
   exact L1<|L1<|thn (a e) λx s₄ i=>L1<|thn (a i) λ_ s₅ j=>M6<|M6 ⟨rfl,j⟩
noncomputable def jaH(env:Env):List (Str×NameKind)->List (Str×Addr)->List (Str×Addr)
 | [],cs=>cs
 | (n,k)::r,cs=>jaH env r (if k==NameKind.free then(match env.cells.lookup n with | some a=>(n,a)::cs | none=>cs) else cs)
def xb(scope:Scope)(env:Env):List (Str×Addr):=jaH env scope.names []
theorem jiF:∀(l:List<|Str×NameKind) (cs:List<|Str×Addr),(∀ n k,(n,k)∈l->k=NameKind.free->∃ c,env.cells.lookup n=some c) ->
  (forIn (m:=Sem) l cs λx r=>match x with | (n,k)=>if k==NameKind.free then do let a <- cellOf env n;pure (ForInStep.yield<|(n,a)::r) else pure (ForInStep.yield r))=pure (jaH env l cs)
 | [],cs,_=>rfl
 | (n,k)::r,cs,h=>by
  rw[List.forIn_cons];by_cases b:(k==NameKind.free)=true
  ·obtain⟨c,j⟩:=h n k L6 ⇑b;have o:cellOf env n=pure c:=by unfold cellOf;rw[j]
   have d:=jiF (env:=env) r ((n,c)::cs) λe f g i=>h e f (L5 _ g) i;simp only[b,if_true,o,pure_bind];rw[d]
   conv=>rhs;unfold jaH
   simp only[b,if_true,j]
  ·have d:=jiF (env:=env) r cs λe f g i=>h e f (L5 _ g) i;simp only[b,if_false,pure_bind,Bool.false_eq_true];rw[d]
   conv=>rhs;unfold jaH
   simp only[b,if_false,Bool.false_eq_true]
def u7(h:∀ n k,(n,k)∈scope.names->k=NameKind.free->∃ c,env.cells.lookup n=some c):closureFor scope env=pure (xb scope env):=by
 have e:=jiF (env:=env) scope.names [] h;unfold closureFor xb;show(forIn (m:=Sem) scope.names [] λx r=>match x with | (n,k)=>if k==NameKind.free then do let a <- cellOf env n;pure (ForInStep.yield<|(n,a)::r) else pure (ForInStep.yield r)) >>= (λb=>pure b)=_;rw[e,pure_bind]
theorem jfH:∀(l:List<|Str×NameKind) (cs:List<|Str×Addr),(x,c)∈jaH env l cs->(x,c)∈cs\/env.cells.lookup x=some c
 | [],_,h=>.inl h
 | (n,k)::r,cs,h=>by
  unfold jaH at h;rcases jfH r _ h with z | z
  ·split at z
   ·split at z
    ·rename_i a b;rcases M4.mp z with e | e
     ·cases e;exact .inr b
     ·exact .inl e
    ·exact .inl z
   ·exact .inl z
  ·exact .inr z
theorem jdj:∀(l:List<|Str×NameKind) (cs:List<|Str×Addr),(x,c)∈cs->(x,c)∈jaH env l cs
 | [],_,h=>h
 | (n,k)::r,cs,h=>by
  unfold jaH;refine jdj r _ ?_;split
  ·split
   ·exact L5 _ h
   ·exact h
  ·exact h
theorem jfy(a:env.cells.lookup x=some c):∀(l:List<|Str×NameKind) (cs:List<|Str×Addr),(x,NameKind.free)∈l->(x,c)∈jaH env l cs
 | [],_,h=>nomatch h
 | (n,k)::r,cs,h=>by
  unfold jaH;rcases M4.mp h with e | e
  ·cases e;refine jdj r _ ?_;simp only[beq_self_eq_true,if_true,a];exact L6
  ·exact jfy a r _ e
theorem JH:∀{l:List (Str×β)}{c:β},(x,c)∈l->∃ d,l.lookup x=some d
 | (n,a)::r,c,h=>by
  rw[List.lookup_cons];cases e:x==n with
  | true=>exact⟨a,rfl⟩
  | false=>
   rcases M4.mp h with z | z
   ·cases z;simp at e
   ·exact JH z
def Vf(h:(xb scope env).lookup x=some c):env.cells.lookup x=some c:=by
 rcases jfH scope.names [] (PySem.mem_of_lookup h) with z | z
 ·exact nomatch z
 ·exact z
def jbi(a:env.cells.lookup x=some c)(f:(x,NameKind.free)∈scope.names):(xb scope env).lookup x=some c:=by
 obtain⟨d,e⟩:=JH<|jfy a scope.names [] f;have b:(xb scope env).lookup x=some d:=e;rw[b,<- Vf b,a]
def Jw(h:(n,k)∈(relabel scope env).names):(n,k)∈scope.names\/(k=.cell/\(n,NameKind.free)∈scope.names):=by
 unfold relabel at h;obtain⟨⟨a,b⟩,c,e⟩:=M5.mp h;dsimp only at e;split at e
 ·rename_i d;cases e;have:b=NameKind.free:=by
   simp only[L9,beq_iff_eq] at d;exact d.1.1
  subst this;exact .inr ⟨rfl,c⟩
 ·cases e;exact .inl c
def kx(scope:Scope)(env:Env)(C:Addr):List (Str×Addr):=cellsFrom (C+1) scope.names<|xb scope env
theorem jbD:∀{names:List (Str×NameKind)}{n:Nat}{acc:List (Str×Addr)},(∀ x y c,acc.lookup x=some c->acc.lookup y=some c->x=y)->(∀ x c,acc.lookup x=some c->c<n)->∀ x y c,(cellsFrom n names acc).lookup x=some c->(cellsFrom n names acc).lookup y=some c->x=y
 | [],n,acc,h,_=>h
 | (a,k)::r,n,acc,h,e=>by
  unfold cellsFrom;split
  ·refine jbD (λx y c b d=>?_)<|λx c b=>?_
   ·rw[List.lookup_cons] at b d;cases e1:x==a with
    | true=>
     rw[e1] at b;cases b;cases e2:y==a with
     | true=>rw[eq_of_beq e1,eq_of_beq e2]
     | false=>rw[e2] at d;exact absurd (e y _ d)<|Nat.lt_irrefl _
    | false=>
     rw[e1] at b;cases e2:y==a with
     | true=>rw[e2] at d;cases d;exact absurd (e x _ b)<|Nat.lt_irrefl _
     | false=>rw[e2] at d;exact h x y c b d
   ·rw[List.lookup_cons] at b;cases e1:x==a with
    | true=>rw[e1] at b;cases b;exact Nat.lt_succ_self _
    | false=>rw[e1] at b;exact Nat.lt_succ_of_lt<|e x c b
  ·exact jbD h e
def jjd(h:∀ x y c,(xb scope env).lookup x=some c->(xb scope env).lookup y=some c->x=y)(a:∀ x c,(xb scope env).lookup x=some c->c<C+1)(x y:Str)(c:Addr)(h1:(kx scope env C).lookup x=some c)(h2:(kx scope env C).lookup y=some c):x=y:=jbD h a x y c h1 h2
theorem wB:∀{names:List (Str×NameKind)}{n:Nat}{acc:List (Str×Addr)},(∃ c,acc.lookup x=some c)->∃ c,(cellsFrom n names acc).lookup x=some c
 | [],_,_,h=>h
 | (a,k)::r,n,acc,h=>by
  unfold cellsFrom;split
  ·refine wB ?_;rw[List.lookup_cons];cases x==a with
   | true=>exact⟨n,rfl⟩
   | false=>exact h
  ·exact wB h
theorem jb7:∀{names:List (Str×NameKind)}{n:Nat}{acc:List (Str×Addr)},(x,NameKind.cell)∈names->∃ c,(cellsFrom n names acc).lookup x=some c
 | [],_,_,h=>nomatch h
 | (a,k)::r,n,acc,h=>by
  unfold cellsFrom;rcases M4.mp h with e | e
  ·cases e;rw[if_pos<|show(NameKind.cell==NameKind.cell)=true from rfl];refine wB ⟨n,?_⟩;rw[List.lookup_cons,beq_self_eq_true]
  ·split
   ·exact jb7 e
   ·exact jb7 e
def jjH(h:(x,NameKind.cell)∈scope.names):∃ c,(kx scope env C).lookup x=some c:=jb7 h
theorem xW:∀{names:List (Str×NameKind)}{n:Nat}{acc:List (Str×Addr)},(x,NameKind.cell)∉names->(cellsFrom n names acc).lookup x=acc.lookup x
 | [],_,_,_=>rfl
 | (a,k)::r,n,acc,h=>by
  unfold cellsFrom;split
  ·rename_i b;have b:=eq_of_beq b;subst b;rw[xW λz=>h<|L5 _ z,List.lookup_cons];have:(x==a)=false:=U1.mpr λz=>h (by rw[z];exact L6);rw[this]
  ·exact xW λz=>h<|L5 _ z
theorem xg:∀(names:List<|Str×NameKind) (h:Heap) (acc:List<|Str×Addr) (x:Str) (c:Addr),(cellsFrom h.objs.size names acc).lookup x=some c->(h.objs.size<=c/\(pushCells h names).IsCell c none)\/acc.lookup x=some c
 | [],_,_,_,_,e=>.inr e
 | (a,k)::r,h,acc,x,c,e=>by
  unfold cellsFrom at e;unfold pushCells;split at e
  ·rename_i b;rw[if_pos b];rcases xg r (h.push {cls:=.type "cell",data:=.cell none}) ((a,h.objs.size)::acc) x c (by rw[Heap.size_push];exact e) with q | q
   ·rw[Heap.size_push] at q;exact .inl ⟨Nat.le_of_succ_le q.1,q.2⟩
   ·rw[List.lookup_cons] at q;cases e1:x==a with
    | true=>
     rw[e1] at q;cases q;exact .inl ⟨M8 _,⟨_,pushCells_keeps r _ _ _<|E1 _ rfl,rfl⟩⟩
    | false=>rw[e1] at q;exact .inr q
  ·rename_i b;rw[if_neg b];exact xg r h acc x c e
theorem KG:∀(l:List<|Str×NameKind) (cs:List<|Str×Addr),(x,c)∈jaH env l cs->(x,c)∈cs\/(x,NameKind.free)∈l
 | [],_,h=>.inl h
 | (n,k)::r,cs,h=>by
  unfold jaH at h;rcases KG r _ h with z | z
  ·split at z
   ·rename_i a;split at z
    ·rcases M4.mp z with e | e
     ·cases e;have a:=eq_of_beq a;subst a;exact .inr L6
     ·exact .inl e
    ·exact .inl z
   ·exact .inl z
  ·exact .inr<|L5 _ z
def jck(h:(xb scope env).lookup x=some c):(x,NameKind.free)∈scope.names:=by
 rcases KG scope.names [] (PySem.mem_of_lookup h) with z | z
 ·exact nomatch z
 ·exact z
def Qt 
  (h:Q (newEnv scope ↥s globals (cellsFrom (↥s+1) scope.names cl) qual none .none (some env) builtinsNs) { s with heap:=pushCells (s.heap.push {cls:=.type "dict",data:=.dict #[]}) scope.names }):
  wpAny M A (newFunctionEnv scope globals cl [] qual none .none<|some env) Q E s:=by
 simp only[newFunctionEnv,if_true,Option.isSome_some];refine L1<|wpAny_alloc ?_;refine L1<|wpAny_layCells _ (λnm kd a=>by cases hq:kd==NameKind.cell<;>simp[hq]) _ _ _ _ ?_;rw[show({ s with heap:=s.heap.push {cls:=.type "dict",data:=.dict #[]} }:Shared).heap.objs.size=↥s+1 from Heap.size_push ..];rw[List.forIn_nil];exact L1<|M6<|M6 h
def yO(X:Cx)(scope:Scope)(N':List Str)(C:Addr)(s₃:Shared)(H₃:Hp)(fp:W6):Cx :=
 {X with N:=N',s₀:=s₃,H₀:=H₃,env:=compEnvC scope (kx scope X.env C) C X.env,outer:=X.stack,stack:=X.stack,ex:=fp,fn:=λx=>scope.names.lookup x==some NameKind.cell,pn:=[],xe:=λ_ _=>False}
structure BlockOk(X:Cx)(scope:Scope)(N':List Str)(ix:List<|Option Nat):Prop where
 kind:scope.kind=.function
 names:∀ y∈scope.names,y.2=.local->scope.names.lookup y.1=some .local
 cells:∀ y∈scope.names,y.2=.cell->scope.names.lookup y.1=some .cell
 uniq:∀ y∈scope.names,y.2=.free->scope.names.lookup y.1=some .free
 outer:∀ y∈scope.names,y.2=.free->X.env.kindOf y.1=some .cell\/X.env.kindOf y.1=some .free
 nd:N'.Nodup
 len:ix.length=N'.length
 at_:∀(i j:Nat) (x:Str),ix[i]?=some (some j)->N'[i]?=some x->X.N[j]?=some x/\(x,NameKind.free)∈scope.names
 func:X.env.scope.kind=.function
def BlockOk.free(B:BlockOk X scope N' ix)  (h:(x,NameKind.free)∈scope.names):(kx scope X.env C).lookup x=(xb scope X.env).lookup x :=
 xW λz=>by
  have a:=B.cells _ z rfl;rw[B.uniq _ h rfl] at a;cases a
noncomputable def va(ix:List<|Option Nat)(σ:St):St:=ix.map λo=>o.bind λj=>(σ[j]?).join
abbrev BW:=Nat->Nat->St->Hp->Prop
def wJ(tc:TT)(te:TE)(g:TG)(J:It)(p:Addr)(σ':St)(H1:Hp)(Q:Hp->Prop):Prop :=
 ∃ W:BW,(∃ m,W 0 m σ' H1)/\∀ i m σ2 H2,W i m σ2 H2->(J.stop i H2/\Q H2) \/
  (J.go i H2/\∀ x H3,J.yld i H2 x H3->g x σ2 H3 λσ4 H4=>tc σ4 H4 λb H5=>if b=true then
   te σ4 H5 λy H6=>∃ ys,H6 p=some (.lst ys)/\ys.length<sizeLine/\∃ m',m'<m/\W (i+1) m' σ4 (upd H6 p<|.lst<|ys++[y])
   else ∃ m',m'<m/\W (i+1) m' σ4 H5)
def wd(wi:TI)(g:TG)(tc:TT)(te:TE)(ix:List<|Option Nat):TE:=λσ H Q=>wi σ H λJ H1=>∀ p,H1 p=none->wJ tc te g J p (va ix σ) (upd H1 p<|.lst []) λH2=>Q (.ref p) H2
def PIf(X:Cx)(ifs:List Expr)(tc:TT):Prop:=(ifs=[]/\tc=λ_ H Q=>Q true H) \/ ∃ c,ifs=[c]/\PT X c tc
def jc0(B:BlockOk X scope N' ix)(I:Inv X pins σ H s)(w:∀ b∈fp,jal X pins H b)(A:∀ b∈fp,b < ↥s)
  (L:h₁.Ns ↥s (λ_=>none)) (K:∀ b o,s.heap.get? b=some o->h₁.get? b=some o)
  (h:∀ x c,(kx scope X.env ↥s).lookup x=some c->(↥s+1<=c/\h₁.IsCell c none)\/(xb scope X.env).lookup x=some c):
  Inv (yO X scope N' ↥s s H fp) [] (va ix σ) H {s with heap:=h₁,toks:=t}:=by
 have fresh:H ↥s=none:=I.hok.fresh<|M8 _;have f:∀ x c,(xb scope X.env).lookup x=some c->X.env.cells.lookup x=some c:=λx c e=>Vf e;have M:∀ x c,X.env.cells.lookup x=some c->c < ↥s:=λx c e=>by
  obtain⟨v,o,C,_⟩:=I.cell x c e;exact N0 C
 refine⟨⟨I.ok.mod,B.kind,I.ok.glob,I.ok.blt,M8 _,jjd (λx y c D E=>I.ok.inj x y c (f x c D)<|f y c E)<|λx c e=>Nat.lt_succ_of_lt<|M x c<|f x c e,λx F=>?_,(λx c D E=>?_),I.ok.hd,I.ok.frames,.inl rfl,λb n=>⟨N5<|A b n,λx c e=>?_⟩,
  λb o e=>I.bs b o e,N6 I.ok.bsz I.sz,λb o e n=>?_,λb n z=>?_,I.stack,I.stkFree⟩,rfl,I.bare,Un.kept K,⟨_,L,λi x v D E Q=>?_⟩,λx c e=>?_,fresh,λx c e=>?_,(λp R=>nomatch (show p∈([]:W1) from R)),I.hok.kept K,?_⟩
 ·have N:(relabel scope X.env).names.lookup x=some .cell\/(relabel scope X.env).names.lookup x=some .free:=F;have g:(x,NameKind.free)∈scope.names\/(x,NameKind.cell)∈scope.names:=by
   rcases N with q | q
   ·rcases Jw (PySem.mem_of_lookup q) with z | z
    ·exact .inr z
    ·exact .inl z.2
   ·rcases Jw (PySem.mem_of_lookup q) with z | z
    ·exact .inl z
    ·exact absurd z.1 (by decide)
  rcases g with g | g
  ·obtain⟨c,O⟩:=I.ok.has x<|B.outer _ g rfl;exact⟨c,by show(kx scope X.env ↥s).lookup x=some c;rw[B.free g];exact jbi O g⟩
  ·exact jjH g
 ·-- the block's own cells are new
  have F:(scope.names.lookup x==some NameKind.cell)=true:=D;have F:=eq_of_beq F;rcases h x c E with⟨q,_⟩ | q
  ·exact Nat.le_of_succ_le q
  ·exfalso;have w:=jck q;have G:=B.uniq _ w rfl;rw[F] at G;cases G
 ·rcases h x c e with⟨q,_⟩ | q
  ·exact Nat.ne_of_gt<|U3 (A b n)<|Nat.le_of_succ_le q
  ·exact(w b n).2.2.2.2.1 x c (f x c q)
 ·rcases(w b n).2.2.2.1 with z | z
  ·exact I.ok.noex b o e z
  ·exact absurd (U3 (N0 e)<|N6 I.ok.bsz z)<|Nat.lt_irrefl _
 ·rcases M4.mp (I.stkSub b z) with q | q
  ·exact(w b n).2.1 q
  ·exact(w b n).2.2.1 q
 ·have a:(va ix σ)[i]?=some (some v):=E;unfold va at a;rw[List.getElem?_map] at a;cases e:ix[i]? with
  | none=>rw[e] at a;cases a
  | some o=>
   rw[e] at a;cases o with
   | none=>cases a
   | some j=>
    have d:(σ[j]?).join=some v:=X7 a;have S:σ[j]?=some (some v):=by
     cases q:σ[j]? with
     | none=>rw[q] at d;cases d
     | some u=>rw[q] at d;rw[show u=some v from d]
    obtain⟨T,g⟩:=B.at_ i j x e D;have J:=B.outer _ g rfl;obtain⟨m,V,U⟩:=I.loc;obtain⟨u,r,l⟩:=U j x v T S<|J.elim (λz=>.inr<|.inl z) λz=>.inr<|.inr z;refine⟨u,r,.inr ?_⟩;rcases l with⟨k,_⟩ | ⟨_,c,O,z⟩
    ·rcases J with y | y<;>rw[k] at y<;>cases y
    ·refine⟨?_,c,by show(kx scope X.env ↥s).lookup x=some c;rw[B.free g];exact jbi O g,?_⟩
     ·rcases Q with y | y | y
      ·have:(x,NameKind.local)∈(relabel scope X.env).names:=PySem.mem_of_lookup y;rcases Jw this with P | P
       ·have G:=B.names _ P rfl;rw[B.uniq _ g rfl] at G;cases G
       ·exact absurd P.1 (by decide)
      ·exact .inl y
      ·exact .inr y
     ·obtain⟨o,C,hd⟩:=z;exact⟨o,K c o C,hd⟩
 ·rcases h x c e with⟨_,q⟩ | q
  ·exact⟨none,q⟩
  ·obtain⟨v,o,C,hd⟩:=I.cell x c<|f x c q;exact⟨v,o,K c o C,hd⟩
 ·rcases h x c e with⟨q,_⟩ | q
  ·exact I.hok.fresh<|Nat.le_of_succ_le q
  ·exact I.freeC x c<|f x c q
 ·show(va ix σ).length=N'.length;unfold va;rw[L0,B.len]
def Inv.other(I:Inv X pins σ H s)(f:jal X pins H C)(a:Heap.SameBut C s.heap h'):Inv X pins σ H {s with heap:=h'} :=
 I.turned (t':=s.toks) (λb o c e=>a.extBut b o c e) f.1 f.2.1 f.2.2.2.1 f.2.2.2.2.1 f.2.2.2.2.2
def J0{X:Cx}{ifs:List Expr}{N':List Str}{ix:List (Option Nat)}{pins:List (Addr×Obj)}{s:Shared}{Q:Addr->Hp->Prop}{use:Option (Value->Sem Unit)}{QQ:W0}(B:BlockOk X scope N' ix)(hc:X.calm=true)(hi:PI X tg iter wi)
  (hg:∀ C s H fp,PG (yO X scope N' C s H fp) tg g) (hif:∀ C s H fp,PIf (yO X scope N' C s H fp) ifs tc) (he:∀ C s H fp,PE (yO X scope N' C s H fp) elt te)
  (hs:∀ x,foldedSetIterable iter X.env x=pure x) (I:Inv X pins σ H s)
  (h:wi σ H λJ H1=>∀ p,H1 p=none->wJ tc te g J p (va ix σ) (upd H1 p<|.lst []) (Q p))
  (hend:∀ p C s' H',Q p H'->Inv X pins σ H' s'->jal X pins H' C->(∃ m,s'.heap.Ns C m)->compPost (model X.prog X.w) X.A X.xe use QQ (.ref p) C (.ok .next) s'):
  wpAny (model X.prog X.w) X.A (comprehension (.ListComp elt [⟨tg,iter,ifs,0⟩] scope pos) scope X.env pos' (newList []) false (eval iter X.env) use) QQ X.xe s:=by
 have Y:closureFor scope X.env=pure (xb scope X.env):=u7 λn k hm hk=>I.ok.has n<|B.outer _ hm hk;refine wpAny_comprehension_free rfl hs Y B.kind B.names<|thn (hi pins s σ H _ I h) λv s1 h1=>thn h1 λitv a h2=>?_;obtain⟨it,fp,tn,J,M,rfl,I2,T,Z,f2,h2⟩:=h2;refine wpAny_newObj_type<|Qt ?_;dsimp only;have fr2:M ↥a=none:=I2.fresh
 -- the new list
 have I3:Inv X pins σ (upd M ↥a (.lst [])) { a with heap:=a.heap.push {cls:=.type "list",data:=.seq ([]:List Value).toArray} }:=I2.lnew (t':=a.toks) .nil<|U4 _;generalize hs3:({ a with heap:=a.heap.push {cls:=.type "list",data:=.seq ([]:List Value).toArray} }:Shared)=s3 at I3;have e3:s3.heap=a.heap.push {cls:=.type "list",data:=.seq ([]:List Value).toArray}:=by rw[<- hs3]
 have hk3:∀ b o,a.heap.get? b=some o->s3.heap.get? b=some o:=λb o e=>by rw[e3];exact L7 _ e
 have lt3:∀ b∈fp,b < ↥s3:=λb f=>by
  obtain⟨o,e,_⟩:=T.obj _ _ Z b f;exact N0<|hk3 b o e
 have nep:∀ b∈fp,b≠↥a:=λb f z=>by
  obtain⟨o,e,_⟩:=T.obj _ _ Z b f;exact absurd (N0 e) (by rw[z];exact Nat.lt_irrefl _)
 have N:∀ b∈fp,jal X pins (upd M ↥a (.lst [])) b:=λb f=>⟨by rw[jh<|nep b f];exact(f2 b f).1,(f2 b f).2⟩;have sz3:↥s3=(a.heap.push {cls:=.type "list",data:=.seq ([]:List Value).toArray}).objs.size:=by rw[e3]
 have hh₁:∃ O,O=pushCells (s3.heap.push {cls:=.type "dict",data:=.dict #[]}) scope.names:=⟨_,rfl⟩;obtain⟨O,P⟩:=hh₁;rw[<- e3,<- P];have hk4:∀ b o,s3.heap.get? b=some o->O.get? b=some o:=λb o e=>by
  rw[P];exact pushCells_keeps _ _ b o<|L7 _ e
 have hns4:O.Ns ↥s3 (λ_=>none):=by
  rw[P];exact(Heap.Ns.new s3.heap<|.type "dict").keeps (pushCells_keeps _ _)
 have R:∀ x c,(kx scope X.env ↥s3).lookup x=some c->(↥s3+1<=c/\O.IsCell c none)\/(xb scope X.env).lookup x=some c:=λx c e=>by
  have q:=xg scope.names (s3.heap.push {cls:=.type "dict",data:=.dict #[]}) (xb scope X.env) x c (by rw[Heap.size_push];exact e);rw[Heap.size_push,<- P] at q;exact q
 have I4:Inv (yO X scope N' ↥s3 s3 (upd M ↥a (.lst [])) fp) [] (va ix σ) (upd M ↥a (.lst [])) {s3 with heap:=O,toks:=a.toks}:=jc0 B I3 N lt3 hns4 hk4 R;have st4:tn 0 O:=T.keep _ _ _ Z λb f o e=>hk4 b o<|hk3 b o e;obtain⟨W,⟨m0,w0⟩,turn⟩:=h2 _ fr2;have hg':=hg ↥s3 s3 (upd M ↥a (.lst [])) fp;have S:=hif ↥s3 s3 (upd M ↥a (.lst [])) fp;have he':=he ↥s3 s3 (upd M ↥a (.lst [])) fp;generalize j:yO X scope N' ↥s3 s3 (upd M ↥a (.lst [])) fp=X' at I4 hg' S he';have eP:X'.prog=X.prog:=by rw[<- j];rfl
 have eW:X'.w=X.w:=by rw[<- j];rfl
 have eK:X'.K=X.K:=by rw[<- j];rfl
 have eA:X'.A=X.A:=by rw[<- j];rfl
 have eC:X'.calm=true:=by rw[<- j];exact hc
 have eE:X'.env=compEnvC scope (kx scope X.env ↥s3) ↥s3 X.env:=by rw[<- j];rfl
 have eX:X'.xe=λ_ _=>False:=by rw[<- j];rfl
 have F:∀{H':Hp},(∀ b∈fp,H' b=none)->∀ b∈fp,jal X' [] H' b:=λhn b f=>by
  refine⟨hn b f,?_,?_,?_,?_,?_⟩
  ·rw[eE];exact N5<|lt3 b f
  ·rw[<- j];intro z;rcases M4.mp (I3.stkSub b z) with q | q
   ·exact(N b f).2.1 q
   ·exact(N b f).2.2.1 q
  ·rw[<- j];exact .inl f
  ·rw[eE];intro x c e;rcases R x c e with⟨q,_⟩ | q
   ·exact Nat.ne_of_gt<|U3 (lt3 b f)<|Nat.le_of_succ_le q
   ·exact(N b f).2.2.2.2.1 x c (Vf q)
  ·rw[<- j];exact(λp hp=>nomatch (show p∈([]:W1) from hp))
 -- the end of the block
 have fin:∀{l:St}{H':Hp}{s':Shared},Inv X' [] l H' s'->Q ↥a H'->compPost (model X.prog X.w) X.A X.xe use QQ (.ref ↥a) ↥s3 (.ok .next) s':=λ{l H' s'} J q=>by
  have hL:X'.env.locals=↥s3:=by rw[eE];rfl
  have un:Un (frs X.stack) fp (upd M ↥a (.lst [])) H' s3.heap s'.heap:=by
   have z:=J.base;rw[<- j] at z;exact z
  have hos:s'.os=s3.os:=by
   have z:=J.os;rw[<- j] at z;exact z
  have hok:HOk X.prog X.w H' s'.heap:=by
   have z:=J.hok;rw[eP,eW] at z;exact z
  have fc:H' ↥s3=none:=by
   have z:=J.free;rw[hL] at z;exact z
  have I5:Inv X pins σ H' s':=by
   obtain⟨hh,gg,dd,tt,oo⟩:=s';obtain rfl:oo=s3.os:=hos;exact I3.call (h':=hh) (g':=gg) (d':=dd) (t':=tt) (ch:=fp) un hok J.bare λb f=>⟨(N b f).2.2.2.1,(N b f).2.1,(N b f).2.2.2.2.1,(N b f).2.2.2.2.2⟩
  obtain⟨m,hn,_⟩:=J.loc;rw[hL] at hn;exact hend _ _ s' H' q I5 (I3.fpOk (M8 _) fc) ⟨m,hn⟩
 have loop:∀ s',s'=({s3 with heap:=O,toks:=a.toks}:Shared)->codeAny (model X.prog X.w) X.A (.compLoop (.ListComp elt [⟨tg,iter,ifs,0⟩] scope pos) 0 (.ref it) (.ref ↥a) X'.env) (compPost (model X.prog X.w) X.A X.xe use QQ (.ref ↥a) ↥s3) s':=by
  rintro s' rfl;refine QV (λn s'=>∃ i l H',Inv X' [] l H' s'/\tn i s'.heap/\(∀ b∈fp,H' b=none)/\W i n l H') ?_ m0 ⟨0,_,_,I4,st4,λb f=>(N b f).1,w0⟩;rintro n s5 ⟨i,σ5,H5,I5,st5,fr5,w5⟩;have it5:=T.item X' eP eW eK eC i [] s5 σ5 H5 (λ_ _=>False) I5 (F fr5) st5;have dn5:=T.done X' eP eW eK eC i [] s5 σ5 H5 (λ_ _=>False) I5 (F fr5) st5;rw[eA] at it5 dn5;rcases turn i n σ5 H5 w5 with⟨stop,qn⟩ | ⟨go,step⟩
  ·refine thn (dn5 stop) λr s6 ⟨hr,I6⟩=>?_;subst hr;exact fin I6 qn
  ·refine thn (it5 go) λr s6 ⟨u,hr,h6⟩=>?_;subst hr;refine thn h6 λ_ s7 hh=>?_;obtain⟨x,H7,I7,r7,y7,st7,fr7⟩:=hh;have I7':=I7.pinned (F fr7)<|T.obj _ _ st7;have a7:=hg' _ s7 σ5 H7 x u _ I7' r7<|step x H7 y7;rw[eP,eW,eA,eX] at a7;refine thn a7 λ_ s8 hh=>?_;obtain⟨G,H8,I8,q8⟩:=hh;have L:∀{t:Shared}{E:Hp},Inv X' ([]++Kv fp s7.heap) G E t->(∃ D,D<n/\W (i+1) D G E)->∃ m,m<n/\∃ i l H',Inv X' [] l H' t/\tn i t.heap/\(∀ b∈fp,H' b=none)/\W i m l H':=λ{t E} U ⟨D,hm,w9⟩=>by
    refine⟨D,hm,i+1,G,E,U.unpinned,T.keep _ _ _ st7 λb f o e=>(U.pin (b,o)<|U2 _<|U2 _<|qK f e).1,λb f=>?_,w9⟩;obtain⟨o,e,d⟩:=T.obj _ _ st7 b f;exact(U.pin (b,o)<|U2 _<|U2 _<|qK f e).2.1
   have rest:∀(b:Bool) (t:Shared) (E:Hp),Inv X' ([]++Kv fp s7.heap) G E t->(if b=true then te G E λy H6=>∃ ys,H6 ↥a=some (.lst ys)/\ys.length<sizeLine/\∃ D,D<n/\W (i+1) D G (upd H6 ↥a (.lst<|ys++[y]))
     else ∃ D,D<n/\W (i+1) D G E) ->
     if b=true then wpAny (model X.prog X.w) X.A (eval elt X'.env) (λx s₄=>wpAny (model X.prog X.w) X.A (call (.builtin "list.append") [.ref ↥a,x]) (λ_ s₅=>∃ m,m<n/\∃ i l H',Inv X' [] l H' s₅/\tn i s₅.heap/\(∀ b∈fp,H' b=none)/\W i m l H') (λ_ _=>False) s₄) (λ_ _=>False) t
     else ∃ m,m<n/\∃ i l H',Inv X' [] l H' t/\tn i t.heap/\(∀ b∈fp,H' b=none)/\W i m l H':=λb t E U q9=>by
    cases b with
    | false=>
     rw[if_neg M3] at q9 ⊢;exact L U q9
    | true=>
     rw[if_pos rfl] at q9 ⊢;have a9:=he' _ t G E _ U q9;rw[eP,eW,eA,eX] at a9;refine thn a9 λyv s10 hh=>?_;obtain⟨y,H10,I10,r10,ys,e10,l10,q10⟩:=hh;have a10:=VG _ s10 G H10 (.ref ↥a) [y] (.ref ↥a) [yv] (λ_ H'=>∃ D,D<n/\W (i+1) D G H') I10 rfl (.cons r10 .nil) ⟨_,ys,y,rfl,rfl,e10,l10,q10⟩;rw[eP,eW,eA,eX] at a10;exact thn a10 λ_ s11 ⟨_,H11,I11,_,q11⟩=>L I11 q11
   rcases S with⟨e1,e2⟩ | ⟨c,e1,e2⟩
   ·subst e1;rw[e2] at q8;exact wpAny_tests_nil<|rest true s8 H8 I8 q8
   ·subst e1;have a8:=e2 _ s8 G H8 _ I8 q8;rw[eP,eW,eA,eX] at a8;exact wpAny_tests_one<|thn a8 λb t ⟨E,U,q9⟩=>rest b t E U q9
 have V:codeAny (model X.prog X.w) X.A (.compStart (.ListComp elt [⟨tg,iter,ifs,0⟩] scope pos) 0 (.ref it) (.ref ↥a) X'.env) (compPost (model X.prog X.w) X.A X.xe use QQ (.ref ↥a) ↥s3) {s3 with heap:=O,toks:=a.toks} :=
  codeAny_compStart_list (loop _ rfl) (T.self _ 0 _ _ _ st4<|loop _ rfl)
 rw[eE] at V;subst hs3;exact V
def jba(B:BlockOk X scope N' ix)(d:X.calm=true)(hi:PI X tg iter wi)
  (e:∀ C s H fp,PG (yO X scope N' C s H fp) tg g) (a:∀ C s H fp,PIf (yO X scope N' C s H fp) ifs tc) (i:∀ C s H fp,PE (yO X scope N' C s H fp) elt te)
  (j:∀ x,foldedSetIterable iter X.env x=pure x:=by intro _;rfl):PE X (.ListComp elt [⟨tg,iter,ifs,0⟩] scope pos) (wd wi g tc te ix):=by
 intro c s σ H Q I h;rw[eval_ListComp];exact J0 (use:=none) (Q:=λp b=>Q (.ref p) b) B d hi e a i j I h λp C o b q k f ⟨m,l⟩=>⟨m,l,λr n=>⟨.ref p,b,k.other f n,rfl,q⟩⟩
def jaE(B:BlockOk X scope N' ix)(y:X.calm=true)(hi:PI X tg iter wi)
  (E:∀ C s H fp,PG (yO X scope N' C s H fp) tg g) (d:∀ C s H fp,PIf (yO X scope N' C s H fp) ifs tc) (F:∀ C s H fp,PE (yO X scope N' C s H fp) elt te)
  (G:X.N.Nodup) (j:X.N[i]?=some x) (J:Loc X.env.scope x)
  (hsw:swapsWith (.ListComp elt [⟨tg,iter,ifs,0⟩] scope pos) (some<|.Name x pos') spos.line X.env=pure true)
  (K:∀ x,foldedSetIterable iter X.env x=pure x:=by intro _;rfl)
  (L:X.fn x=true\/X.env.scope.names.lookup x=some .local:=by first | exact .inl rfl | exact .inr rfl | assumption):
  PS X (.Assign [.Name x pos'] (.ListComp elt [⟨tg,iter,ifs,0⟩] scope pos) spos) (jfY (wd wi g tc te ix)<|KY i):=by
 intro a s σ H D I h;rw[exec_Assign_Name_used _ _ _ _ hsw];refine L1<|wpAny_standAt<|L1 ?_;show wpAny _ X.A (do let _ <- comprehension (.ListComp elt [⟨tg,iter,ifs,0⟩] scope pos) scope X.env _ (newList []) false (eval iter X.env) (some<|assign (.Name x pos') X.env)) _ _ s;refine L1<|thn (J0 (use:=some<|assign (.Name x pos') X.env) (QQ:=λ_ b=>SP X a D .next b) (Q:=λp c=>D.nx (σ.set i<|some<|.ref p) c) B y hi E d F K I h λp C b c q n f ⟨m,M⟩=>?_) λ_ b O=>M6<|M6 O;obtain⟨o,P,R,S,r⟩:=id M;have hd:∀ v,o.data≠.cell v:=λv z=>by
  obtain⟨k,_⟩:=r;rw[k] at z;cases z
 have T:Inv X (a++[(C,o)]) σ c b:=n.pins_of λt l=>by
  rcases N1.mp l with z | z
  ·exact n.pin t<|U2 _ z
  ·have e:t=(C,o):=by simpa using z
   subst e;exact⟨S,f.1,f.2.1,f.2.2.1,hd⟩
 refine wpAny_assign_Name<|YU T G j J (v:=.ref p) rfl (λV u=>?_) L;have w:=u.pin (C,o)<|U2 _<|U2 _<|M7.mpr rfl;refine⟨m,⟨o,P,R,w.1,r⟩,λW U=>⟨_,c,(u.unpinned).other ⟨w.2.1,f.2⟩ U,q⟩⟩
noncomputable def S(l:List Nat):Str:=⟨l.toArray⟩
def Jl(l:List Nat):(S l).cps.toList=l:=by simp[S]
def Yk(l:List Nat):(S l).length=l.length:=by simp[S,Str.length]
def jlv(h:S a=S b):a=b:=by
 rw[<- Jl a,<- Jl b,h]
def jl3(a b:List Nat):(S a=S b)=(a=b):=propext ⟨jlv,λh=>by rw[h]⟩
def jh2(a b:List Nat):S a++S b=S (a++b):=by
 apply PyProof.Rows.ext_toList;rw[PySem.W.KT.app_list,Jl,Jl,Jl]
def jhT(c:Nat):(⟨#[c]⟩:Str)=S [c]:=rfl
def y4{α:Type}(xs:List α)(lo hi:Option Int):List α:=(xs.drop<|HT.sIx xs.length 0 lo).take (HT.sIx xs.length xs.length hi-HT.sIx xs.length 0 lo)
def jcU(xs:List α)(k:Nat):y4 xs (some (k:Int)) none=xs.drop k:=by
 unfold y4;rw[HT.sIx_none,HT.sIx_nat];by_cases h:k<=xs.length
 ·rw[Nat.min_eq_left h,List.take_of_length_le];rw[List.length_drop]
  lia
 ·have e:xs.drop k=[]:=List.drop_eq_nil_of_le ∅;rw[e,Nat.min_eq_right ∅];simp
def ja4(lo hi:Option Int)(n:Nat):Builtin.Str.strSliceIndices lo hi 1 n=(List.range<|HT.sIx n n hi-HT.sIx n 0 lo).map (HT.sIx n 0 lo+·):=by
 have a:∀(o:Option Int) (d:Nat),(match o with | none=>(d:Int) | some i=>(let i:=if i<0 then i+(n:Int) else i;if(1:Int)>0 then max 0 (min i n) else max (-1) (min i<|n-1)))=((HT.sIx n d o:Nat):Int):=by
  intro o d;cases o with
  | none=>rfl
  | some v=>
   show(if(1:Int)>0 then max 0 (min (if v<0 then v+(n:Int) else v) n) else _)=(((if v<0 then(v+(n:Int)).toNat else min v.toNat n):Nat):Int);rw[if_pos<|by decide];by_cases b:v<0
   ·rw[if_pos b,if_pos b];lia
   ·rw[if_neg b,if_neg b];lia
 rw[<- sliceRange_one,<- a lo 0,<- a hi n];rfl
def jf0(l:List Nat)(lo hi:Option Int):Txt.slice (S l) lo hi=S (y4 l lo hi):=by
 have i:HT.sIx l.length l.length hi<=l.length:=HT.sIx_le _ _ (M8 _) _;have j:HT.sIx l.length 0 lo<=l.length:=HT.sIx_le _ _ (U4 _) _;have e:(Builtin.Str.strSliceIndices lo hi 1 (S l).length).filterMap ((S l).cps[·]?)=y4 l lo hi:=by
  rw[Yk,ja4];have h:=StrLaws.picks l (HT.sIx l.length l.length hi-HT.sIx l.length 0 lo)<|HT.sIx l.length 0 lo;by_cases c:HT.sIx l.length 0 lo<=HT.sIx l.length l.length hi
  ·have d:=h ∅;unfold y4;rw[<- d];simp[S]
  ·have z:HT.sIx l.length l.length hi-HT.sIx l.length 0 lo=0:=by lia
   unfold y4;rw[z];simp
 unfold Txt.slice;split
 ·rename_i b;have f:(Builtin.Str.strSliceIndices lo hi 1 (S l).length).length=(S l).length:=by
   simp only[beq_self_eq_true,Bool.true_and] at b;exact beq_iff_eq.mp b
  rw[Yk,ja4,L0,List.length_range] at f;unfold y4;by_cases a:l.length=0
  ·have:l=[]:=List.length_eq_zero_iff.mp a;subst this;simp
  ·have g:HT.sIx l.length 0 lo=0:=by lia
   rw[g,List.drop_zero,List.take_of_length_le ∅]
 ·rw[e];rfl
def jnH:V->Option Int->Option Int->Hp->VK->Prop:=λx lo hi H Q=>∃ l,x=.str (S l)/\l.length<=sizeLine/\Q (.str<|S<|y4 l lo hi) H
def jfJ(p:IsPart v o):∃ q:Option (Int×Tok),v=partValue q/\q.map (·.1)=o:=by
 cases p with
 | none=>exact⟨none,rfl,rfl⟩
 | int i t=>exact⟨some (i,t),rfl,rfl⟩
def jlf:SlR X jnH:=by
 intro a s σ H x v p r lo hi w Q I f g pl i h;obtain⟨l,rfl,j,q⟩:=h;obtain⟨t,rfl⟩:=f;obtain⟨b,rfl,m⟩:=jfJ pl;obtain⟨c,rfl,n⟩:=jfJ i;refine⟨"str",_,F.slot_str_getitem.lookup,typeIs_str _ _ _,wpAny_getItem_str_slice (l:=b) (u:=c) (st:=none) g rfl ?_⟩;have o:Txt.slice (S l) lo hi=S (y4 l lo hi):=jf0 l lo hi;have e:∀ d k,EP X a σ Q (.str (Txt.slice (S l) lo hi) d) {s with toks:=k}:=λd k=>by
  rw[o];exact⟨.str<|S<|y4 l lo hi,H,I.tok k,⟨d,rfl⟩,q⟩
 have e2:sliceMade (S l) t b c none=(if((1:Int)==1&&(Builtin.Str.strSliceIndices lo hi 1 (S l).length).length==(S l).length)=true then Made.val (.str (S l) t) else Made.str ⟨((Builtin.Str.strSliceIndices lo hi 1 (S l).length).filterMap ((S l).cps[·]?)).toArray⟩):=by
  unfold sliceMade slicePicked;rw[m,n];rfl
 rw[e2];refine post_val_or_str ⟨?_,λd k=>e d k⟩;exact N6 (Txt.slice_le (S l) lo hi) (by rw[Yk];exact j)
def Its(l:List Nat):It:=⟨λi _=>i<l.length,λi H x H'=>H'=H/\∃ c,l[i]?=some c/\x=.str (S [c]),λi _=>l.length<=i⟩
def jdN{tg:Expr}{P:Program}{w:World}{K:W5}(a:Addr)(l:List Nat)(t:Tok)(ty:String)(m:ty = "str_ascii_iterator" \/ ty = "str_iterator")
  (W:∀ A:Around,A.handled=none->Walks P w A a [a] [a] (S l).cps.size (SignAt<|S l) (λi h=>h.IsStrIter a ty (S l) t i)):Turn P w K tg (Its l) [a] a (λi h=>h.IsStrIter a ty (S l) t i) where
 mem:=by simp
 obj:=λi h f b g=>by
  have e:b=a:=by simpa using g
  subst e;obtain⟨o,e,c,d⟩:=f;exact⟨o,e,λv z=>by rw[d] at z;cases z⟩
 keep:=λi h n f k=>by
  obtain⟨o,e,r⟩:=f;exact⟨o,k a (by simp) o e,r⟩
 item:=by
  intro X G J L q i j s σ H E I x f M;subst G J L;obtain⟨y,B,U,C,D,F⟩:=x a (by simp);have V:=W X.A<|I.ok.hd q;have N:(S l).cps.size=l.length:=by simp[S]
  refine V.item i s _ _ (by rw[N];exact M) f λv n R Y p Z=>?_;obtain⟨c,u,O,rfl⟩:=Y;have I1:Inv X j σ H {s with heap:=n,toks:=R}:=I.turned (λb o g e=>Z b o ⇑g e) y B C D F;obtain⟨o,e,ct,d⟩:=id p;refine⟨_,rfl,je7 (s:={s with heap:=n,toks:=R}) e ct d (by rcases m with z | z<;>subst z<;>decide) ⟨.str<|S [c],H,I1,⟨u,rfl⟩,⟨rfl,c,by simpa [S] using O,rfl⟩,p,λb g=>(x b g).1⟩⟩
 done:=by
  intro X G J L q i j s σ H E I x f M;subst G J L;obtain⟨y,B,U,C,D,F⟩:=x a (by simp);have T:(S l).cps[i]?=none:=by
   have:l.length<=i:=M;simp[S,this]
  rcases m with z | z
  ·subst z;exact wpAny_pyNext_ascii_end (I.ok.hd q) f T λn Q=>⟨rfl,I.turned (t':=s.toks) (λb o g e=>Q b o g e) y B C D F⟩
  ·subst z;exact wpAny_pyNext_wide_end (I.ok.hd q) f T λn Q=>⟨rfl,I.turned (t':=s.toks) (λb o g e=>Q b o g e) y B C D F⟩
 self:=λ_ _ _ _ _ f h=>by
  rcases m with z | z
  ·subst z;exact wpAny_pyIter_striter_ascii f h
  ·subst z;exact wpAny_pyIter_striter_wide f h
def jlo:OpR X (compareOp .In) (λx y H Q=>∃ c l,x=.str (S [c])/\y=.str (S l)/\Q (.bl<|decide<|c∈l) H):=by
 intro a s σ H x y v u Q I b d h;obtain⟨c,l,rfl,rfl,q⟩:=h;refine jcw a s σ H _ _ v u Q I b d ⟨_,_,rfl,rfl,?_⟩;rw[<- jhT,StrLaws.found_one,Jl];exact q
def jcO:OpR X (compareOp .NotIn) (λx y H Q=>∃ c l,x=.str (S [c])/\y=.str (S l)/\Q (.bl<|!decide (c∈l)) H):=by
 intro a s σ H x y v u Q I b d h;obtain⟨c,l,rfl,rfl,q⟩:=h;refine ze a s σ H _ _ v u Q I b d ⟨_,_,rfl,rfl,?_⟩;rw[<- jhT,StrLaws.found_one,Jl];exact q
def jit:OpR X (binaryOp .Add) (λx y H Q=>∃ a b,x=.str (S a)/\y=.str (S b)/\a.length+b.length<=sizeLine/\Q (.str<|S<|a++b) H):=by
 intro c s σ H x y v u Q I d e h;obtain⟨a,b,rfl,rfl,f,q⟩:=h;refine jak c s σ H _ _ v u Q I d e ⟨_,_,rfl,rfl,by rw[Yk,Yk];exact f,?_⟩;rw[jh2];exact q
def jhM:OpR X (binaryOp .Mult) (rI (λi j=>Builtin.Int.intBits i<=2 ^ 20/\Builtin.Int.intBits j<=2 ^ 20) λi j=>.int<|i*j):=opI λ_ _ _ _ _ _ _ a q=>mul_int q<|IntMulOk.of_bits a.1 a.2
def jaP(h:i.natAbs<2 ^ m)(a:m<=2 ^ 20):Builtin.Int.intBits i<=2 ^ 20:=N6 (PySem.intBits_le_iff.mpr h) a
def SqX(K:W5)(H:Hp)(a:Addr)(xs:List V):Prop :=
 Rd H a (.lst xs) \/ ∃(its:Array Value) (n:Nat),K.lookup a=some {cls:=.type "list",data:=.seq its n}/\its.size<=sizeLine/\Vals xs its.toList
def SqX.sq{K:W5}{H:Hp}{a:Addr}{xs:List V}(h:SqX K H a xs):SqL K H a xs:=by
 rcases h with h | ⟨b,n,c,d,r⟩
 ·exact .inl h
 ·exact .inr ⟨_,b,n,c,rfl,rfl,rfl,d,r⟩
def SqX.of{K:W5}{H:Hp}{a:Addr}{xs:List V}(h:H a=some (.lst xs)):SqX K H a xs:=.inl<|.inl h
def Inv.listX(I:Inv X pins σ H s)(h:SqX X.K H a xs):∃(its:List Value) (n:Nat),Vals xs its/\s.heap.get? a=some {cls:=.type "list",data:=.seq its.toArray n}/\xs.length<=sizeLine:=by
 rcases h with h | ⟨its,n,b,c,r⟩
 ·obtain⟨z,its,n,r,e⟩:=h.ok I.hok;exact⟨its,n,r,e,z⟩
 ·refine⟨its.toList,n,r,by simpa using I.kIn a _ b,?_⟩;have e:=r.length;simp only[Array.length_toList] at e
  lia
def jkC(K:W5):R2:=λx y H Q=>∃ l b xs zs,x=.ref l/\y=.ref b/\SqX K H l xs/\SqX K H b zs/\xs.length+zs.length<=sizeLine/\∀ p,H p=none->Q (.ref p) (upd H p<|.lst<|xs++zs)
def jiJ:OpR X (binaryOp .Add) (jkC X.K):=by
 intro d s σ H x y v u Q I g i h;obtain⟨l,b,p,t,rfl,rfl,j,k,w,q⟩:=h;cases g;cases i;obtain⟨c,n,r,e,_⟩:=I.listX j;obtain⟨a,z,f,e2,_⟩:=I.listX k;have A:=r.length;have m:=f.length;refine PySem.P.add_list e e2 ?_ (by rw[N2,N2];lia);have o:c.toArray++a.toArray=(c++a).toArray:=by simp
 rw[o];exact⟨.ref _,_,I.lnew (t':=s.toks) (r.append f)<|by rw[N3];lia,rfl,q _ I.fresh⟩
def xr{ns:List Int}(h:PySem.W.WData.layableAll [PySem.W.WData.list<|ns.map PySem.W.WData.int]=true):∀ x∈ns,Builtin.Int.intBits x<=2 ^ 20:=by
 intro x c;have f:(PySem.W.WData.list<|ns.map PySem.W.WData.int).layable=true:=(PySem.W.layW_cons h).1;have e:PySem.W.ofPy (.list<|ns.map .int)=PySem.W.WData.list (ns.map PySem.W.WData.int):=by
  have g:∀ a:List Int,PySem.W.ofPys (a.map PyData.int)=a.map PySem.W.WData.int:=by
   intro a
   induction a with
   | nil=>rfl
   | cons m a i=>simp[PySem.W.ofPys,PySem.W.ofPy,i]
  simp[PySem.W.ofPy,g]
 have b:=PySem.W.lay0_ofPy (s:=.list .int) (d:=.list<|ns.map .int) rfl (by simp[Shape.has]) (by rw[e];exact f);have j:PyData.layable0 (.list<|ns.map .int)=true:=by
  simp[PyData.layableAll0] at b;exact b
 exact PyData.bits_item_of_ints j c
def walk_ofB{l:PySem.W.OpenLaw}{n k:Nat}{j:List Str}{R:(Str->Option Value)->Heap->Prop}{M:World->Heap->Prop}{d:DefRec}{K:Params->PySem.W.Frag}{CX:World->CXT}{sp:World->Sp} 
  (S:l.most=some n) (A:n<=sizeLine) (B:d.params.defaults=[]) (U:Room k callerA)
  (X:∀(w:World) (h:Heap),M w h->(K w.params).In h)
  (F:∀(w:World) (mg:W7) (fa:Addr) (h:Heap),(K w.params).In h->h.Ns mainGlobals mg->mg d.name=some (.ref fa) ->
   ∃ fd:FuncData,(∀(s:Shared) (u:Value),BindsTo s fd ⟨[u],[]⟩ [(x,u)]) /\
    ∀ base:Heap,(K w.params).In base->base.Ns mainGlobals mg->FnOk l.prog w (K w.params) mg base (CX w) k fa fd [x] (sp w))
  (C:∀(w:World) (H:Hp) (a:Addr) (ns:List Int),ns.length<=n->(∀ x∈ns,Builtin.Int.intBits x<=2 ^ 20)->jmW H->SqX (K w.params) H a (ns.map V.int)->sp w [.ref a] H (λv _=>v=.bl true) λ_ _ _=>False)
  (D:∀(w:World) (H:Hp) (s:Shared) (e:Value) (s':Shared),CX w [] H s (λ_ _ _=>False) e s'->False):
  PySem.W.WalkO q j R M l.row.toRowW d [] (λf vs=>PySem.call f vs):=by
 intro w s₀ Z mg mb G Y fa o pm cd doc dV kV ho hd hcd N E hg O P as y z hrd I hlo;obtain rfl:dV=.none:=PySem.W.Dflts.none N B;obtain rfl:kV=.none:=PySem.W.Dflts.noKw N;obtain⟨a,vs,ns,rfl,rfl,c,p,i⟩:=Att.script_of S y I;have t:=xr z;have J:=X w _ Y;obtain⟨fd,hb,hF⟩:=F w mg fa _ J G.T.g E;refine PySem.W.enter_call<|codeAny_mono (jev J G.T.g G.T.b G.T.builtins G.T.nolimit hg c p (N6 i A) U hF hb (λH hO hS=>C w H a ns i t hO ?_) λH e s'=>D w H Z e s') λr s' hq=>?_
 ·rcases hS with h | ⟨o,its,m,Q,_,_,L,hz,r⟩
  ·exact .inl h
  ·have e:=J a o Q;rw[c] at e;cases e;cases L;exact .inr ⟨_,_,Q,hz,r⟩
 ·obtain⟨rfl,h2,h3,h4⟩:=hq;exact⟨.inl ⟨.bool true,.bool true,[],rfl,λ_=>rfl,.bool true,Att.post_true l _,λ_=>⟨List.Pairwise.nil,λ_ hm=>(nomatch hm)⟩⟩,h2,h3,h4⟩
noncomputable def K0(sc:Scope)(N:List Str)(scope:Scope)(N':List Str)(ix:List<|Option Nat):Bool :=
 decide (scope.kind=.function)&&decide (sc.kind=.function)&&scope.names.all (λy=>!decide (y.2=.cell)||decide (scope.names.lookup y.1=some .cell))&&scope.names.all (λy=>!decide (y.2=.local)||decide (scope.names.lookup y.1=some .local)) &&
 scope.names.all (λy=>!decide (y.2=.free)||(decide (scope.names.lookup y.1=some .free)&&(decide (sc.names.lookup y.1=some .cell)||decide (sc.names.lookup y.1=some .free))))&&decide N'.Nodup&&decide (ix.length=N'.length) &&
 (List.range ix.length).all (λi=>match ix[i]? with | some (some j)=>(match N'[i]? with | some x=>decide (N[j]?=some x)&&decide ((x,NameKind.free)∈scope.names) | none=>true) | _=>true)
def jh7{X:Cx}{scope:Scope}{N':List Str}{ix:List (Option Nat)}(sc:Scope)(N:List Str)(h1:X.env.scope=sc)(h2:X.N=N)(h:K0 sc N scope N' ix=true):BlockOk X scope N' ix:=by
 subst h1;subst h2;unfold K0 at h;simp only[L9,decide_eq_true_eq,List.all_eq_true,Bool.or_eq_true,Bool.not_eq_true',decide_eq_false_iff_not] at h;obtain⟨⟨⟨⟨⟨⟨⟨c,d⟩,f⟩,g⟩,b⟩,k⟩,l⟩,m⟩:=h;refine⟨c,λy a e=>?_,λy a e=>?_,λy a e=>?_,λy a e=>?_,k,l,λi j x h1 h2=>?_,d⟩
 ·exact(g y a).elim (λz=>absurd e z) id
 ·exact(f y a).elim (λz=>absurd e z) id
 ·exact(b y a).elim (λz=>absurd e z) λz=>z.1
 ·exact(b y a).elim (λz=>absurd e z) λz=>z.2
 ·have hi:i<ix.length:=(L8.mp h1).1;have z:=m i<|List.mem_range.mpr hi;rw[h1] at z;dsimp only at z;rw[h2] at z;dsimp only at z;simp only[L9,decide_eq_true_eq] at z;exact z
structure FnFact(K:W5)(mg:W7)(x qual:Str)(st:Stmt)(f:Addr)(fd:FuncData)(ps:List Str):Prop where
 fn:Fun K x qual st f fd
 mgf:mg x=some (.ref f)
 bd:Binds K fd ps []
section
variable {X:Cx}{k:Nat}{f:Addr}{fd:FuncData}{ps:List Str}{sp:Sp}{x qual:Str}{st:Stmt}{p pos:Pos}{e:Expr}{es:List Expr}{t:TA}
def jg7(F:FnFact X.K X.mg x qual st f fd ps)(G:FnOk X.prog X.w X.K X.mg X.base CX0 k f fd ps sp)(c:Room k X.A)(d:PA X (e::es) t)(g:Gl X x:=by rfl)(a:(x==("__debug__" : Str))=false:=by decide)
  (h:starEach (e::es) X.env=(false,eval e X.env)::starEach es X.env:=by rfl) (b:(backTo pos<|starEach es X.env).any (·.1)=false:=by rfl):PE X (.Call (.Name x p) (e::es) [] pos) (Qx sp [] E0 t) :=
 jgu G c g F.mgf F.fn.kp F.bd .nil jeV d a h b
end
def jhD:OpR X (binaryOp .Mult) (λx y H Q=>∃(a:List Nat) (n:Int),x=.str (S a)/\y=.int n/\a.length<=1000/\0<=n/\n<=1000/\Q (.str<|S (List.replicate n.toNat a).flatten) H):=by
 intro f s σ H x y v u Q I g i h;obtain⟨a,n,rfl,rfl,j,B,l,q⟩:=h;obtain⟨k,rfl⟩:∃ k:Nat,n=(k:Int):=⟨n.toNat,by lia⟩;have m:k<=1000:=by lia
 rw[N7] at q;obtain⟨t,rfl⟩:=g;obtain⟨o,rfl⟩:=i;have p:a.length*k<=1000*1000:=Nat.mul_le_mul j m;have hok:MulOk (S a) (k:Int):=by
  refine⟨by simp;lia,λd c=>?_,λd c=>?_⟩
  ·rw[Yk];have r:(1:Int)<=k:=by lia
   have C:(1000:Int)<=(2 ^ 63-1)/(k:Int):=by
    rw[Int.le_ediv_iff_mul_le ∅];have:(1000:Int)*k<=1000*1000:=by lia
    lia
   lia
  ·rw[Yk,N7];unfold Builtin.Str.tooLong;have r:a.length*k<=sizeLine:=N6 p (by decide);exact X5 ∅
 have e:Txt.mul (S a) (k:Int)=S (List.replicate k a).flatten:=by
  have w:∀(n:Nat) (b:Array Nat),((List.replicate n a.toArray).foldl (·++·) b).toList=b.toList++(List.replicate n a).flatten:=by
   intro n
   induction n with
   | zero=>intro b;simp
   | succ n A=>intro b;rw[List.replicate_succ,U9,A];simp[List.replicate_succ]
  unfold Txt.mul;apply PyProof.Rows.ext_toList;rw[Jl];by_cases d:(k:Int)<1
  ·have:k=0:=by lia
   subst this;simp[Str.empty]
  ·rw[if_neg d];by_cases c:((k:Int)==1||(S a).length==0)=true
   ·rw[if_pos c,Jl];rw[Yk] at c;simp at c;rcases c with z | z
    ·have:k=1:=by lia
     subst this;simp
    ·subst z;simp
   ·rw[if_neg c,N7];have z:=w k #[];simp only[List.nil_append] at z;exact z
 refine SB.mul hok λo D=>?_;rw[e];exact⟨.str _,H,I.tok _,⟨_,rfl⟩,q⟩
section
variable {X:Cx}{pins:List (Addr×Obj)}{σ:St}{H:Hp}{s:Shared}{h':Heap}
def Inv.turnedNew{t':Nat}{wr:W6}{T:Addr}{xs:List V}{its:Array Value}(I:Inv X pins σ H s)(k:∀ b o,b∉wr->s.heap.get? b=some o->h'.get? b=some o)(g:∀ b∈wr,jal X pins H b)
  (h:↥s<=T) (j:IsTupN h' T its) (l:Vals xs its.toList) (hz:xs.length<=sizeLine):Inv X pins σ (upd H T<|.tup xs) {s with heap:=h',toks:=t'}:=by
 have p:=I.hok.fresh h;have i:∀ b u,H b=some u->b∉wr:=λb u e z=>by rw[(g b z).1] at e;cases e
 have d:∀ b u,H b=some u->b≠T:=λb u e z=>by rw[z,p] at e;cases e
 refine I.step (g':=s.gens) (d':=s.drawn) (ch:=wr) (λb f=>?_) (λb o _ _ a e _=>k b o a e) (λb o _ _ a e _=>⟨o.slots,k b o a e⟩) (λb o _ e n=>?_)
  (λb o a e=>⟨o,k b o a e⟩) (λb t e=>by rw[jh<|d b _ e];exact e) (λb o u e=>by rw[jh<|d b _ e];exact e) (λb F e=>⟨#[],by rw[jh<|d b _ e,e];simp⟩) (λm w=>?_) (λb u e=>?_) I.bare
 ·obtain⟨_,x,_,y,A,B⟩:=g b f;exact⟨y,x,A,B⟩
 ·rw[jh<|λz=>absurd (N0 e)<|by rw[z];exact Nat.not_lt.mpr h];exact n
 ·obtain⟨o,C,D,E,r⟩:=w;refine⟨o,C,D,k _ o (λz=>(g _ z).2.1 rfl) E,r⟩
 ·by_cases f:b=T
  ·subst f;rw[jA] at e;cases e;exact⟨hz,its.toList,l,by simpa using j⟩
  ·rw[jh f] at e;refine(I.hok b u e).stay (λc v a q=>k c v ?_ q) (λc q=>by rw[jh<|d c _ q];exact q) λc t q=>by rw[jh<|d c _ q];exact q
   rcases a with z | z
   ·rw[z];exact i b u e
   ·exact i c _ z
def Inv.turnedL{t':Nat}{wr:W6}(I:Inv X pins σ H s)(k:∀ b o,b∉wr->s.heap.get? b=some o->h'.get? b=some o)(d:∀ b∈wr,jal X pins H b):Inv X pins σ H {s with heap:=h',toks:=t'}:=by
 have f:∀ b u,H b=some u->b∉wr:=λb u e z=>by rw[(d b z).1] at e;cases e
 refine I.step (g':=s.gens) (d':=s.drawn) (ch:=wr) (λb g=>?_) (λb o _ _ a e _=>k b o a e) (λb o _ _ a e _=>⟨o.slots,k b o a e⟩) (λb o _ e n=>n)
  (λb o a e=>⟨o,k b o a e⟩) (λb y e=>e) (λb o u e=>e) (λb A e=>⟨#[],by rw[e];simp⟩) (λm h=>?_) (λb u e=>?_) I.bare
 ·obtain⟨_,i,_,j,l,p⟩:=d b g;exact⟨j,i,l,p⟩
 ·obtain⟨o,t,w,x,r⟩:=h;refine⟨o,t,w,k _ o (λz=>(d _ z).2.1 rfl) x,r⟩
 ·refine(I.hok b u e).stay (λc v a q=>k c v ?_ q) (λ_ q=>q) λ_ _ q=>q;rcases a with z | z
  ·rw[z];exact f b u e
  ·exact f c _ z
end
def Ite(K:W5)(l:Addr):It :=
 ⟨λi H=>∃ xs x,SqL K H l xs/\xs[i]?=some x,λi H x H'=>∃ p v,(∀ xs,SqL K H l xs->xs[i]?=some v)/\x=.ref p/\H p=none/\H'=upd H p (.tup [.int i,v]),λi H=>∃ xs,SqL K H l xs/\xs.length<=i⟩
def ja5{P:Program}{w:World}{K:W5}{t:List Expr}{n:Nat}{pos:Pos}(e a l:Addr)(y:e≠a)(hle:l≠e)(hli:l≠a):
  Turn P w K (.Tuple t n pos) (Ite K l) [e,a] e (λi h=>(∃ old,IsEnum h e a i old)/\h.IsListIter a l i) where
 mem:=by simp
 obj:=λi h f b g=>by
  obtain⟨⟨old,j⟩,o,L,M,hd⟩:=f;rcases(⇑g:b=e\/b=a) with z | z
  ·subst z;exact⟨_,j,λv q=>by cases q⟩
  ·subst z;exact⟨o,L,λv q=>by rw[hd] at q;cases q⟩
 keep:=λi h h' f k=>by
  obtain⟨⟨old,j⟩,c⟩:=f;exact⟨⟨old,k e (by simp) _ j⟩,c.at λo q=>k a (by simp) o q⟩
 item:=by
  intro X N O Q M i A s σ H E I F f R;subst N O Q;obtain⟨xs,x,G,S⟩:=R;obtain⟨B,U,p,hz⟩:=I.list G;obtain⟨u,hu,ru⟩:=U.get S;obtain⟨⟨old,j⟩,c⟩:=f;refine wpAny_pyNext_enum_item j c p.isList (x:=u) ⇑hu y λV L C hT hsz hk=>?_;refine⟨_,rfl,wpAny_letOwnedTupleGo_enum (s:={s with heap:=V,toks:=s.toks+1}) L λJ Y d=>?_⟩;replace d:Heap.SameBut e V J:=d;have m:e < ↥s:=N0 j;have D:J.get? ↥s=_:=(d.2 _<|Nat.ne_of_gt m).trans hT;have kk:∀ b o,b∉[e,a]->s.heap.get? b=some o->J.get? b=some o:=λb o g q=>by
   have r:b≠e/\b≠a:=by simpa using g
   exact(d.2 b r.1).trans (hk b o r.1 r.2 q)
  have I1:=I.turnedNew (h':=J) (t':=s.toks+1) (wr:=[e,a]) (T:=↥s) (xs:=[.int i,x]) (its:=#[.int i s.toks,u]) kk F (M8 _) ⟨⟨_,D,rfl,_,rfl⟩,_,D,rfl⟩ (.cons ⟨_,rfl⟩<|.cons ru .nil) (by show 2<=sizeLine;decide);refine⟨.ref ↥s,_,I1,rfl,⟨_,x,(λys hy=>by rw[I.list_inj hy G];exact S),rfl,I.hok.fresh<|M8 _,rfl⟩,⟨⟨_,by simpa using Y⟩,C.at λo q=>(d.2 a y.symm).trans q⟩,λb g=>?_⟩;rw[jh]
  ·exact(F b g).1
  ·intro z;have:b < ↥s:=by
    obtain⟨oi,Z,_⟩:=id c;rcases(⇑g:b=e\/b=a) with q | q
    ·rw[q];exact m
    ·rw[q];exact N0 Z
   exact absurd this (by rw[z];exact Nat.lt_irrefl _)
 done:=by
  intro X N O Q M i A s σ H E I F f R;subst N O Q;obtain⟨xs,G,S⟩:=R;obtain⟨B,U,p,hz⟩:=I.list G;obtain⟨⟨old,j⟩,c⟩:=f;have hl:=U.length;exact wpAny_pyNext_enum_end (I.ok.hd M) j c p.isList (by simp;lia) λV eb=>⟨rfl,I.turnedL (t':=s.toks) (wr:=[e,a]) (λb o g q=>eb b o (by simp at g;exact g.2) q) F⟩
 self:=λ_ _ _ _ _ f h=>wpAny_pyIter_enum f.1.choose_spec h
def jho(K:W5)(tl:TA):TI:=λσ H R=>tl σ H λvs H1=>∃ a xs,vs=[.ref a]/\SqL K H1 a xs/\R (Ite K a) H1
section
variable {X:Cx}
def jhJ{d:List Expr}{n:Nat}{tpos p pos:Pos}{a:Expr}{ta:TA}(t:Gl X "enumerate")(v:X.mg "enumerate" = none)(w:PA X [a] ta)(x:starEach [a] X.env=[(false,eval a X.env)]:=by rfl):
  PI X (.Tuple d n tpos) (.Call (.Name "enumerate" p) [a] [] pos) (jho X.K ta):=by
 intro c s σ H R I h;refine Call_<|JM I t v (show bootBuiltins "enumerate" = some (.type "enumerate") by decide +kernel)<|PyProof.Rows.callWith_type1 (thn (w pos c s σ H _ I h) λL s1 ⟨M,k,i,y,A⟩=>?_) x rfl;obtain⟨l,N,rfl,B,q⟩:=A;obtain⟨u,rfl,C⟩:=y.one;cases C;obtain⟨D,O,pl,P⟩:=i.list B;have f:l < ↥s1:=by
  obtain⟨o,_,e,_⟩:=pl;exact N0 e
 refine call_enumerate_list pl.isList λm r j E F=>?_;have G:Inv X c σ k {s1 with heap:=m}:=i.kept (t':=s1.toks) F;refine PySem.wpAny_pyIter_enum (s:={s1 with heap:=m}) r ?_;refine⟨↥s1+1,[↥s1+1,↥s1],_,_,k,rfl,G,ja5 _ _ l (Nat.succ_ne_self _) (N5<|Nat.lt_succ_of_lt f)<|N5 f,⟨⟨_,r⟩,j⟩,λb J=>?_,q⟩;have g:↥s1<=b:=by
  rcases(⇑J:b=↥s1+1\/b=↥s1) with z | z
  ·rw[z];exact Nat.le_succ _
  ·rw[z];exact M8 _
 exact i.fpOk g<|i.hok.fresh g
end
def Itz(K:W5)(l1 l2:Addr):It :=
 ⟨λi H=>∃ xs ys x y,SqL K H l1 xs/\SqL K H l2 ys/\xs[i]?=some x/\ys[i]?=some y,λi H x H'=>∃ p u v,(∀ xs,SqL K H l1 xs->xs[i]?=some u)/\(∀ ys,SqL K H l2 ys->ys[i]?=some v)/\x=.ref p/\H p=none/\H'=upd H p (.tup [u,v]),
  λi H=>∃ xs ys,SqL K H l1 xs/\SqL K H l2 ys/\min xs.length ys.length<=i⟩
def jdG{P:Program}{w:World}{K:W5}{N:List Expr}{n:Nat}{pos:Pos}(z TI TO g j Y Z:Addr)(D:ZipApart z TI TO g j Y Z):
  Turn P w K (.Tuple N n pos) (Itz K Y Z) [z,TI,TO,g,j] z (λi h=>IsZip h z TI TO .none/\IsPair h TI (.ref g) (.ref j)/\(∃ a b,IsPair h TO a b)/\h.IsListIter g Y i/\h.IsListIter j Z i) where
 mem:=by simp
 obj:=λi h l b A=>by
  obtain⟨m,p,⟨a,c,B⟩,⟨o4,C,_,d4⟩,⟨o5,F,_,d5⟩⟩:=l;rcases(⇑A:b=z\/b=TI\/b=TO\/b=g\/b=j) with q | q | q | q | q<;>subst q
  ·exact⟨_,m,λv q=>by cases q⟩
  ·exact⟨_,p,λv q=>by cases q⟩
  ·exact⟨_,B,λv q=>by cases q⟩
  ·exact⟨_,C,λv q=>by rw[d4] at q;cases q⟩
  ·exact⟨_,F,λv q=>by rw[d5] at q;cases q⟩
 keep:=λi h h' l k=>by
  obtain⟨m,p,⟨a,c,B⟩,C,F⟩:=l;exact⟨k z (by simp) _ m,k TI (by simp) _ p,⟨a,c,k TO (by simp) _ B⟩,C.at λo q=>k g (by simp) o q,F.at λo q=>k j (by simp) o q⟩
 item:=by
  intro X hP hw hK hc i O s σ H E I S l hg;subst hP hw hK;obtain⟨xs,ys,x,y,r,t,hx,hy⟩:=hg;obtain⟨G,L,p1,hz1⟩:=I.list r;obtain⟨J,M,p2,hz2⟩:=I.list t;obtain⟨u,hu,ru⟩:=L.get hx;obtain⟨v,hv,rv⟩:=M.get hy;obtain⟨m,p,⟨a,c,B⟩,C,F⟩:=l;refine wpAny_pyNext_zip_item D m p B C F p1.isList p2.isList (x:=u) (y:=v) ⇑hu ⇑hv λhh a1 a2 a3 a4 a5 a6 U=>?_;refine⟨_,rfl,wpAny_letOwnedTupleGo_zip (s:={s with heap:=hh}) a1 λV hz6 f=>?_⟩;replace f:Heap.SameBut z hh V:=f;have lt:∀{c o},s.heap.get? c=some o->c < ↥s:=λe=>N0 e;have Q:V.get? ↥s=_:=(f.2 _<|Nat.ne_of_gt<|lt m).trans a5;have kk:∀ b o,b∉[z,TI,TO,g,j]->s.heap.get? b=some o->V.get? b=some o:=λb o A q=>by
   have d:b≠z/\b≠TI/\b≠TO/\b≠g/\b≠j:=by simpa using A
   exact(f.2 b d.1).trans (U b o d.1 d.2.2.1 d.2.2.2.1 d.2.2.2.2 q)
  have I1:=I.turnedNew (h':=V) (t':=s.toks) (wr:=[z,TI,TO,g,j]) (T:=↥s) (xs:=[x,y]) (its:=#[u,v]) kk S (M8 _) ⟨⟨_,Q,rfl,_,rfl⟩,_,Q,rfl⟩ (.cons ru<|.cons rv .nil) (by show 2<=sizeLine;decide);refine⟨.ref ↥s,_,I1,rfl,⟨_,x,y,(λzs hs=>by rw[I.list_inj hs r];exact hx),(λzs hs=>by rw[I.list_inj hs t];exact hy),rfl,I.hok.fresh<|M8 _,rfl⟩,⟨hz6,(f.2 TI D.TIz).trans (U _ _ D.TIz D.TITO D.TIi1 D.TIi2 p),⟨_,_,(f.2 TO D.TOz).trans a2⟩,a3.at λo q=>(f.2 g D.i1z).trans q,a4.at λo q=>(f.2 j D.i2z).trans q⟩,λb A=>?_⟩;rw[jh]
  ·exact(S b A).1
  ·intro q;have:b < ↥s:=by
    obtain⟨_,h4',_⟩:=id C;obtain⟨_,h5',_⟩:=id F;rcases(⇑A:b=z\/b=TI\/b=TO\/b=g\/b=j) with w | w | w | w | w<;>rw[w]
    ·exact lt m
    ·exact lt p
    ·exact lt B
    ·exact lt h4'
    ·exact lt h5'
   exact absurd this (by rw[q];exact Nat.lt_irrefl _)
 done:=by
  intro X hP hw hK hc i O s σ H E I S l hg;subst hP hw hK;obtain⟨xs,ys,r,t,hx⟩:=hg;obtain⟨G,L,p1,hz1⟩:=I.list r;obtain⟨J,M,p2,hz2⟩:=I.list t;obtain⟨m,p,⟨a,c,B⟩,C,F⟩:=l;have hl1:=L.length;have hl2:=M.length;have R:G.toArray[i]?=none\/J.toArray[i]?=none:=by
   rcases Nat.le_total xs.length ys.length with h | h
   ·exact .inl (by simp;lia)
   ·exact .inr (by simp;lia)
  exact wpAny_pyNext_zip_end (I.ok.hd hc) D m p B C F p1.isList p2.isList R λhh U=>⟨rfl,I.turnedL (t':=s.toks) (wr:=[z,TI,TO,g,j]) (λb o A q=>by
   have d:b≠z/\b≠TI/\b≠TO/\b≠g/\b≠j:=by simpa using A
   exact U b o d.1 d.2.2.1 d.2.2.2.1 d.2.2.2.2 q) S⟩
 self:=λ_ _ _ _ _ l h=>wpAny_pyIter_zip l.1 h
def jeH(n a b:Nat)(h1:a<n)(h2:b<n):ZipApart (n+4) (n+2) (n+3) n (n+1) a b:=by
 constructor<;>(show @Ne Nat _ _)<;>lia
def jmD(K:W5)(tl:TA):TI:=λσ H R=>tl σ H λvs H1=>∃ a b xs ys,vs=[.ref a,.ref b]/\SqL K H1 a xs/\SqL K H1 b ys/\R (Itz K a b) H1
section
variable {X:Cx}
def jkt{d:List Expr}{n:Nat}{tpos p pos:Pos}{a b:Expr}{ta:TA}(E:Gl X "zip")(F:X.mg "zip" = none)(G:PA X [a,b] ta)(J:starEach [a,b] X.env=[(false,eval a X.env),(false,eval b X.env)]:=by rfl)(f:starEach [b] X.env=[(false,eval b X.env)]:=by rfl):
  PI X (.Tuple d n tpos) (.Call (.Name "zip" p) [a,b] [] pos) (jmD X.K ta):=by
 intro c s σ H R I h;refine Call_<|JM I E F (show bootBuiltins "zip" = some (.type "zip") by decide +kernel)<|PyProof.Rows.callWith_type1 (thn (G pos c s σ H _ I h) λus s1 ⟨vs,y,g,L,M⟩=>?_) (by rw[J,f]) (by rw[f];rfl);obtain⟨r,t,xs,ys,rfl,w,x,q⟩:=M;obtain⟨u,v,rfl,N,O⟩:=L.two;cases N;cases O;obtain⟨A,P,i,Q⟩:=g.list w;obtain⟨B,S,j,T⟩:=g.list x;have k:r < ↥s1:=by
  obtain⟨o,_,e,_⟩:=i;exact N0 e
 have l:t < ↥s1:=by
  obtain⟨o,_,e,_⟩:=j;exact N0 e
 refine call_zip_2 i.isList j.isList λC D U V W Y a6 Z=>?_;have I2:Inv X c σ y {s1 with heap:=C}:=g.kept (t':=s1.toks) Z;refine PySem.wpAny_pyIter_zip (s:={s1 with heap:=C}) D ?_;refine⟨↥s1+4,[↥s1+4,↥s1+2,↥s1+3,↥s1,↥s1+1],_,_,y,rfl,I2,jdG _ _ _ _ _ r t<|jeH _ r t k l,⟨D,U,⟨_,_,V⟩,W,Y⟩,λb hb=>?_,q⟩;have m:↥s1<=b:=by
  rcases(⇑hb:b=↥s1+4\/b=↥s1+2\/b=↥s1+3\/b=↥s1\/b=↥s1+1) with z | z | z | z | z<;>rw[z]
  ·exact Nat.le_add_right _ 4
  ·exact Nat.le_add_right _ 2
  ·exact Nat.le_add_right _ 3
  ·exact M8 _
  ·exact Nat.le_add_right _ 1
 exact g.fpOk m<|g.hok.fresh m
def jcr(f:X.calm=true):JJ X (.builtin "sum") (λxs H Q=>∃(p:Addr) (ns:List Int),xs=[.ref p]/\SqL X.K H p (ns.map V.int)/\Q (.int ns.sum) H):=by
 intro d s σ H xs m Q I r h;obtain⟨p,ns,rfl,g,q⟩:=h;obtain⟨u,rfl,i⟩:=r.one;cases i;obtain⟨a,j,pl,n⟩:=I.list g;have hi:IntsAre a ns:=jaO j;obtain⟨b,e⟩:=hi.allInts.items;have c:s.heap.IsList p (intItems b):=e▸pl.isList;refine sum_intListG (I.ok.hd f) c λo t v k=>?_;have l:ns=b.toList.map (·.1):=by
  rw[<- nums_intItems,<- e];exact(show numsOf a.toArray.toList=ns from hi.numsOf).symm
 have e2:preSum (numAt b) b.size=ns.sum:=by
  rw[preSum_eq,List.take_of_length_le<|by simp,l]
 rw[e2];exact⟨.int ns.sum,H,I.kept k,⟨_,rfl⟩,q⟩
inductive TyQ (K:W5) (H:Hp):V->String->Prop where
 | non:TyQ K H .non "NoneType"
 | bl (x:Bool):TyQ K H (.bl x) "bool"
 | int (i:Int):TyQ K H (.int i) "int"
 | str (x:Str):TyQ K H (.str x) "str"
 | lst {a:Addr}{xs:List V}(e:SqL K H a xs):TyQ K H (.ref a) "list"
 | tup {a:Addr}{xs:List V}(e:SqT K H a xs):TyQ K H (.ref a) "tuple"
 | dK {a:Addr}{kvs:List (Key×V)}(e:H a=some (.dK kvs)):TyQ K H (.ref a) "dict"
def zJ:JJ X (.builtin "isinstance") (λxs H Q=>∃ x T t b,xs=[x,.ty T]/\TyQ X.K H x t/\PySem.W.kitOne X.K (.type t) (.type T)=some b/\Q (.bl b) H):=by
 intro f s σ H xs C Q I r h;obtain⟨x,T,t,b,rfl,ty,e,q⟩:=h;obtain⟨u,v,rfl,d,B⟩:=r.two;cases B;have c:∀ l,EP X f σ Q (.bool b) {s with toks:=l}:=λl=>⟨.bl b,H,I.tok l,rfl,q⟩;cases ty with
 | non=>cases(show u=Value.none from d);exact PySem.W.kia_one PySem.W.kitx_none I.kIn True.intro e (λz=>nomatch z) c
 | bl y=>cases(show u=Value.bool y from d);exact PySem.W.kia_one PySem.W.kitx_bool I.kIn True.intro e (λz=>nomatch z) c
 | int i=>obtain⟨t,q⟩:=(show ∃ t,u=Value.int i t from d);cases q;exact PySem.W.kia_one PySem.W.kitx_int I.kIn True.intro e (λz=>nomatch z) c
 | str y=>obtain⟨t,q⟩:=(show ∃ t,u=Value.str y t from d);cases q;exact PySem.W.kia_one PySem.W.kitx_str I.kIn True.intro e (λz=>nomatch z) c
 | @lst a xs g=>
  cases(show u=Value.ref a from d);obtain⟨m,_,⟨o,n,j,k,_,_⟩,_⟩:=I.list g;exact PySem.W.kia_one PySem.W.kitx_list I.kIn ⟨o,j,k⟩ e (λz=>nomatch z) c
 | @tup a xs g=>
  cases(show u=Value.ref a from d);obtain⟨m,_,⟨o,j,k,_⟩,_⟩:=I.tuple g;exact PySem.W.kia_one PySem.W.kitx_tuple I.kIn ⟨o,j,k⟩ e (λz=>nomatch z) c
 | @dK a A g=>
  cases(show u=Value.ref a from d);obtain⟨_,_,D,_,p⟩:=(show ObjOk X.prog X.w H s.heap a (.dK A) from I.hok a _ g);obtain⟨o,E,F,j,k,_⟩:=p;exact PySem.W.kia_one PySem.W.kitx_dict I.kIn ⟨o,j,k.1⟩ e (λz=>nomatch z) c
end
section
variable {κ:Type} [DecidableEq κ]
noncomputable def VY(kvs:List<|κ×V)(k:κ):Option V:=(kvs.find? λkv=>decide<|kv.1=k).map (·.2)
noncomputable def vX(kvs:List<|κ×V)(k:κ)(v:V):List (κ×V) :=
 if(kvs.any λkv=>decide<|kv.1=k)=true then kvs.map (λkv=>if kv.1=k then(kv.1,v) else kv) else kvs++[(k,v)]
def qN{p:κ×V}{r:List (κ×V)}(e:p.1=k):VY (p::r) k=some p.2:=by simp[VY,List.find?_cons,e]
def qP{p:κ×V}{r:List (κ×V)}(e:¬ p.1=k):VY (p::r) k=VY r k:=by simp[VY,List.find?_cons,e]
theorem uy(k:κ):∀ kvs:List (κ×V),(kvs.any λkv=>decide<|kv.1=k)=(VY kvs k).isSome
 | []=>rfl
 | p::r=>by
  rw[List.any_cons];by_cases e:p.1=k
  ·simp only[qN e,X4 e,Bool.true_or,Option.isSome_some]
  ·rw[qP e,X5 e,Bool.false_or];exact uy k r
def Js(kvs:List<|κ×V)(k:κ)(v:V):(vX kvs k v).length<=kvs.length+1:=by
 unfold vX;split
 ·rw[L0];lia
 ·rw[N3,M0,List.length_nil];lia
def RelO.isSome_eq(r:RelO o u):o.isSome=u.isSome:=by
 cases o with
 | none=>cases u with
  | none=>rfl
  | some _=>exact(show False from r).elim
 | some _=>cases u with
  | none=>exact(show False from r).elim
  | some _=>rfl
def RelO.getD(r:RelO o u)(rd:RelV d d'):RelV (o.getD d) (u.getD d'):=by
 cases o with
 | none=>cases u with
  | none=>exact rd
  | some _=>exact(show False from r).elim
 | some _=>cases u with
  | none=>exact(show False from r).elim
  | some _=>exact r
def KV.val(r:KV kvs vs)(k:κ):RelO (VY kvs k) (valueAt vs k):=by
 unfold KV at r
 induction r with
 | nil=>exact True.intro
 | @cons p q i a h t f=>
  obtain⟨d,g⟩:=h;by_cases e:p.1=k
  ·have c:q.1=k:=d.symm.trans e;have b:valueAt (q::a) k=some q.2:=by simp[valueAt,List.find?_cons,c]
   rw[qN e,b];exact g
  ·have c:¬ q.1=k:=λz=>e<|d.trans z;have b:valueAt (q::a) k=valueAt a k:=by simp[valueAt,List.find?_cons,c]
   rw[qP e,b];exact f
def KV.any(r:KV kvs vs)(k:κ):(kvs.any λkv=>decide<|kv.1=k)=vs.any λkv=>decide (kv.1=k):=by
 unfold KV at r
 induction r with
 | nil=>rfl
 | cons h t a=>rw[List.any_cons,List.any_cons,a,h.1]
def KV.repl(r:KV kvs vs)(k:κ)  (b:RelV y u):
  KV (kvs.map λkv=>if kv.1=k then(kv.1,y) else kv) (vs.map λkv=>if kv.1=k then(kv.1,u) else kv):=by
 unfold KV at r ⊢
 induction r with
 | nil=>exact .nil
 | @cons p q f g h t c=>
  rw[L4,L4];refine .cons ?_ c;obtain⟨a,d⟩:=h;by_cases e:p.1=k
  ·rw[if_pos e,if_pos<|a.symm.trans e];exact⟨a,b⟩
  ·rw[if_neg e,if_neg<|λz=>e<|a.trans z];exact⟨a,d⟩
def KV.put(r:KV kvs vs)(k:κ)  (a:RelV y u):KV (vX kvs k y) (stored vs k u):=by
 unfold vX stored;rw[r.any k];by_cases e:(vs.any λb=>decide<|b.1=k)=true
 ·rw[if_pos e,if_pos e];exact r.repl k a
 ·rw[if_neg e,if_neg e];exact Paired.snoc r ⟨rfl,a⟩
def KV.length(r:KV kvs vs):kvs.length=vs.length:=Paired.length r
end
def wt(r:RelV (kV k) u):(jP P w).is k u=true:=by
 cases k with
 | inl i=>obtain⟨t,e⟩:=(show ∃ t,u=Value.int i t from r);subst e;exact we P w i t
 | inr x=>obtain⟨t,e⟩:=(show ∃ t,u=Value.str x t from r);subst e;exact xJ P w x t
theorem QY:∀{ks:List Key}{us:List Value},Vals (ks.map kV) us->ItemsAre (jP P w) ks us
 | [],_,r=>by rw[List.map_nil] at r;cases r;exact .nil
 | k::ks,_,r=>by
  rw[L4] at r;cases r with
  | cons h t=>exact .cons (wt h)<|QY t
abbrev KT(H:Hp):List (List Key×V)->List (List Key×Addr×Value)->Prop:=Paired λp q=>p.1=q.1/\H q.2.1=some (.tup<|p.1.map kV)/\RelV p.2 q.2.2
def KT.val(r:KT H kvs xs)(k:List Key):RelO (VY kvs k) ((atKey xs k).map (·.2)):=by
 induction r with
 | nil=>exact True.intro
 | @cons p q i a h t f=>
  obtain⟨d,_,g⟩:=h;by_cases e:p.1=k
  ·have c:q.1=k:=d.symm.trans e;have b:atKey (q::a) k=some q.2:=by simp[atKey,List.find?_cons,c]
   rw[qN e,b];exact g
  ·have c:¬ q.1=k:=λz=>e<|d.trans z;have b:atKey (q::a) k=atKey a k:=by simp[atKey,List.find?_cons,c]
   rw[qP e,b];exact f
def KT.repl(r:KT H kvs xs)(k:List Key)  (c:RelV y u):
  KT H (kvs.map λkv=>if kv.1=k then(kv.1,y) else kv) (xs.map<|putAt k u):=by
 induction r with
 | nil=>exact .nil
 | @cons p q g i h t d=>
  rw[L4,L4];refine .cons ?_ d;obtain⟨a,b,f⟩:=h;unfold putAt;by_cases e:p.1=k
  ·rw[if_pos e,if_pos<|a.symm.trans e];exact⟨a,b,c⟩
  ·rw[if_neg e,if_neg<|λz=>e<|a.trans z];exact⟨a,b,f⟩
def KT.put(r:KT H kvs xs)(k:List Key)  (c:H b=some (.tup<|k.map kV)) (a:RelV y u):
  KT H (vX kvs k y) (storedH xs k b u):=by
 have e:(kvs.any λd=>decide<|d.1=k)=(atKey xs k).isSome:=by
  rw[uy,(r.val k).isSome_eq,Option.isSome_map]
 unfold vX storedH;rw[e];by_cases q:(atKey xs k).isSome=true
 ·rw[if_pos q,if_pos q];exact r.repl k a
 ·rw[if_neg q,if_neg q];exact Paired.snoc r ⟨rfl,c,a⟩
def KT.keeps(r:KT H kvs xs)(a:∀ b ys,H b=some (.tup ys)->H' b=some (.tup ys)):KT H' kvs xs :=
 Paired.mapP r λ_ _ z=>⟨z.1,a _ _ z.2.1,z.2.2⟩
def ji1(ok:HOk P w H h)(e:Rd H a u):ObjOk P w H h a u:=e.ok ok
def xz(ok:HOk P w H h)(e:Rd H a<|.dK kvs):kvs.length<=sizeLine/\(a==sysModules)=false/\∃ vs,KV kvs vs/\h.DictOf (jP P w) a vs :=
 show ObjOk P w H h a (.dK kvs) from ji1 ok e
def jjl(ok:HOk P w H h)(e:H a=some (.dK kvs)):kvs.length<=sizeLine/\(a==sysModules)=false/\∃ vs,KV kvs vs/\h.DictOf (jP P w) a vs:=xz ok<|.inl e
def V8(ok:HOk P w H h)(e:H a=some (.tup<|ks.map kV)):(tupleKind<|jP P w).is h ks a:=by
 obtain⟨_,b,r,⟨o,c,d,n,f⟩,_⟩:=(show ObjOk P w H h a (.tup<|ks.map kV) from ok a _ e);exact⟨o,b.toArray,n,c,d,f,by simpa using QY r⟩
def jar(ok:HOk P w H h)(e:Rd H a<|.dT kvs):kvs.length<=sizeLine/\(a==sysModules)=false /\
  ∃ xs,KT H kvs xs/\h.DictOfH (tupleKind<|jP P w) a xs:=by
 obtain⟨z,y,xs,r,o,d,f,g,i,j,k,n⟩:=(show ObjOk P w H h a (.dT kvs) from ji1 ok e);refine⟨z,y,xs,r,o,d,f,g,i,j,k,λx b=>?_,n⟩;have all:∀{l:List (List Key×V)}{m:List (List Key×Addr×Value)},KT H l m->∀ x∈m,(tupleKind<|jP P w).is h x.1 x.2.1:=by
  intro l m q
  induction q with
  | nil=>intro x b;exact nomatch b
  | @cons p q u v c t s=>
   intro x b;rcases M4.mp b with e | b
   ·subst e;exact V8 ok (by rw[<- c.1];exact c.2.1)
   ·exact s x b
 exact all r x b
def jmh(ok:HOk P w H h)(e:H a=some (.dT kvs)):kvs.length<=sizeLine/\(a==sysModules)=false /\
  ∃ xs,KT H kvs xs/\h.DictOfH (tupleKind<|jP P w) a xs:=jar ok<|.inl e
def DGet(H:Hp)(a:Addr)(y:V)(r:Option V):Prop :=
 (∃ kvs k,Rd H a (.dK kvs)/\y=kV k/\r=VY kvs k) \/ ∃ kvs k b,Rd H a (.dT kvs)/\y=.ref b/\H b=some (.tup<|k.map kV)/\r=VY kvs k
def DPut(H:Hp)(a:Addr)(y v:V)(H':Hp):Prop :=
 (∃ kvs k,H a=some (.dK kvs)/\y=kV k/\kvs.length<sizeLine/\H'=upd H a (.dK<|vX kvs k v)) \/
 ∃ kvs k b,H a=some (.dT kvs)/\y=.ref b/\H b=some (.tup<|k.map kV)/\kvs.length<sizeLine/\H'=upd H a (.dT<|vX kvs k v)
theorem DGet.k{H:Hp}{a:Addr}{kvs:List (Key×V)}{k:Key}(e:H a=some (.dK kvs)):DGet H a (kV k) (VY kvs k):=.inl ⟨kvs,k,.inl e,rfl,rfl⟩
def DGet.t{kvs:List (List Key×V)}{k:List Key}(e:H a=some (.dT kvs))(c:H b=some (.tup<|k.map kV)):DGet H a (.ref b) (VY kvs k):=.inr ⟨kvs,k,b,.inl e,rfl,c,rfl⟩
theorem DPut.k{H:Hp}{a:Addr}{kvs:List (Key×V)}{k:Key}{v:V}(e:H a=some (.dK kvs))(b:kvs.length<sizeLine):DPut H a (kV k) v (upd H a<|.dK<|vX kvs k v):=.inl ⟨kvs,k,e,rfl,b,rfl⟩
def DPut.t{kvs:List (List Key×V)}{k:List Key}(e:H a=some (.dT kvs))(c:H b=some (.tup<|k.map kV))(d:kvs.length<sizeLine):
  DPut H a (.ref b) v (upd H a<|.dT<|vX kvs k v):=.inr ⟨kvs,k,b,e,rfl,c,d,rfl⟩
def Inv.big(I:Inv X pins σ H s):sysModules < ↥s:=by
 have h:mainGlobals < ↥s:=(I.mod.glob.keeps I.bk).lt;exact Nat.lt_trans (by decide) h
def Q5(n:A.units+1<cLine)(I:Inv X pins σ H s)(g:DGet H a y<|some v)(m:RelV y u)(h:∀ w' s',Inv X pins σ H s'->RelV v w'->Q w' s'):
  wpAny (model X.prog X.w) A (getItem (.ref a) u) Q E s:=by
 rcases g with⟨d,k,e,f,l⟩ | ⟨d,k,b,e,f,q,l⟩
 ·subst f;obtain⟨z,hd,r,rel,dd⟩:=xz I.hok e;obtain⟨w',i,c⟩:=RelO.some_of (v:=v) (o:=valueAt r k) (by rw[l];exact rel.val k);exact wpAny_getItem_of (wt m) dd.mapOf i<|h w' _ (I.tok _) c
 ·subst f;cases(show u=Value.ref b from m);obtain⟨z,hd,t,rel,dd⟩:=jar I.hok e;obtain⟨w',i,c⟩:=RelO.some_of (v:=v) (o:=(atKey t k).map (·.2)) (by rw[l];exact rel.val k);obtain⟨p,x,j⟩:=Option.map_eq_some_iff.mp i;refine wpAny_getItem_heap (tupleKind_room_in1 n) (V8 I.hok q) dd x ?_;rw[j];exact h w' _ (I.tok _) c
def jhG(i:A.units+1<cLine)(I:Inv X pins σ H s)(g:DGet H a y o)(f:RelV y u)(h:∀ s',Inv X pins σ H s'->Q (.bool<|!o.isSome) s'):
  wpAny (model X.prog X.w) A (compareOp .NotIn u<|.ref a) Q E s:=by
 rcases g with⟨c,k,e,d,l⟩ | ⟨c,k,b,e,d,j,l⟩
 ·subst d;obtain⟨z,hd,m,rel,dd⟩:=xz I.hok e;refine wpAny_notIn_of (wt f) hd dd.mapOf ?_;rw[<- (rel.val k).isSome_eq,<- l];exact h _<|I.tok _
 ·subst d;cases(show u=Value.ref b from f);obtain⟨z,hd,n,rel,dd⟩:=jar I.hok e;refine wpAny_notIn_heap (tupleKind_room_in1 i) (V8 I.hok j) hd dd ?_;have q:=(rel.val k).isSome_eq;rw[Option.isSome_map] at q;rw[<- q,<- l];exact h _<|I.tok _
def xn(I:Inv X pins σ H s)(c:Mut<|H a)(d:Heap.SameBut a s.heap h')(f:∃ q,h'.get? a=some q)(new:ObjOk X.prog X.w (upd H a ob) h' a ob):
  Inv X pins σ (upd H a ob) {s with heap:=h',toks:=t'} :=
 I.write (x:=a) (e:=a) c (.inl rfl) (λb q g z=>(d.2 b g).trans z) f new
def jbU(z:kvs.length<=sizeLine)(hd:(a==sysModules)=false)(rel:KV kvs vs)(dd:h'.DictOf (jP P w) a vs):
  ObjOk P w H' h' a (.dK kvs):=⟨z,hd,vs,rel,dd⟩
def QH(F:A.units+1<cLine)(I:Inv X pins σ H s)(g:DPut H a y v H')(t:RelV y u)(x:RelV v r)(h:∀ s',Inv X pins σ H' s'->Q () s'):
  wpAny (model X.prog X.w) A (setItem (.ref a) u r) Q E s:=by
 rcases g with⟨d,k,e,j,l,m⟩ | ⟨d,k,b,e,j,B,l,m⟩
 ·subst j m;obtain⟨z,hd,G,rel,dd⟩:=jjl I.hok e;have n:G.length<=sizeLine:=by rw[<- rel.length];exact z
  have o:(vX d k v).length<=sizeLine:=by have:=Js d k v;lia
  refine wpAny_setItem_pairs (hsz:=n) (wt t) dd λC f p=>h _ ?_;have J:∃ q,C.get? a=some q:=let ⟨q,_,_,i,_⟩:=f;⟨q,i⟩
  exact xn I (by rw[e];exact True.intro) p J<|jbU o hd (rel.put k x) f
 ·subst j m;cases(show u=Value.ref b from t);obtain⟨z,hd,K,rel,dd⟩:=jmh I.hok e;have n:K.length<=sizeLine:=by rw[<- Paired.length rel];exact z
  have o:(vX d k v).length<=sizeLine:=by have:=Js d k v;lia
  refine wpAny_setItem_heap (hsz:=n) (tupleKind_room_in1 F) (V8 I.hok B) dd λC f p=>h _ ?_;obtain⟨q,L,M,i,N,O,P,_,R⟩:=f;refine xn I (by rw[e];exact True.intro) p ⟨q,i⟩ ⟨o,hd,_,(rel.put k B x).keeps λc S D=>?_,q,L,M,i,N,O,P,R⟩;rw[jh<|jmr D e<|λz=>nomatch z];exact D
def jlK(i:Expr):Prop:=∀ ov iv,subscripted i false ov iv=operate [ov,iv] (getItem ov iv)
def jix{prog:Program}{w:World}{A:Around}{E:W0}{s:Shared}{env:Env}{value slice:Expr}{pos:Pos}{T id:String}{Q:W0}
  (e:typeLookup (.type T) "__getitem__" = pure (some<|.builtin id)) (f:jlK slice)
  (h:wpAny (model prog w) A (eval value env) (λo s₁=>wpAny (model prog w) A (eval slice env) (λi s₂=>s₂.TypeIs o T/\wpAny (model prog w) A (getItem o i) Q E s₂) E s₁) E s):
  wpAny (model prog w) A (eval (.Subscript value slice pos) env) Q E s:=by
 refine Subscript_<|wpAny_mono h (λo s₁ g=>wpAny_mono g (λi s₂ b=>?_) λ_ _ x=>x) λ_ _ x=>x;obtain⟨c,b⟩:=b;unfold subscriptTail;refine L1 ?_;rw[getitemInPython_of_ne c.not_modules];refine L1<|wpAny_specialOf c e ?_;have a:wpAny (model prog w) A (subscripted slice false o i) (λr d=>wpAny (model prog w) A (letTemporaryGo value o r >>= λ_=>pure r) Q E d) E s₂:=by
  rw[f o i];exact wpAny_operating<|wpAny_mono b (λr d j=>L1<|wpAny_letTemporaryGo<|M6 j) λ_ _ x=>x
 first
  | exact M6 (L1 a)
  | exact L1 (M6 (L1 a))
  | exact L1 a
def xv(I:Inv X pins σ H s)(g:DGet H a y o):s.TypeIs (.ref a) "dict":=by
 rcases g with⟨c,k,e,_,_⟩ | ⟨c,k,b,e,_,_,_⟩
 ·obtain⟨_,_,d,_,dd⟩:=xz I.hok e;exact dd.typeIs
 ·obtain⟨_,_,f,_,dd⟩:=jar I.hok e;exact dd.typeIs
noncomputable def jcW(td ty:TE):TE:=λσ H Q=>td σ H λx H1=>ty σ H1 λy H2=>∃ a v,x=.ref a/\DGet H2 a y (some v)/\Q v H2
noncomputable def Qu(ty td:TE):TE:=λσ H Q=>ty σ H λy H1=>td σ H1 λx H2=>∃ a o,x=.ref a/\DGet H2 a y o/\Q (.bl<|!o.isSome) H2
noncomputable def xE(td ty tv:TE):TS:=λD σ H=>tv σ H λv H1=>td σ H1 λx H2=>ty σ H2 λy H3=>∃ a H4,x=.ref a/\DPut H3 a y v H4/\D.nx σ H4
noncomputable def jad(td ty tv:TE)(rd:V->V->Hp->VK->Prop):TS:=λD σ H=>td σ H λx H1=>ty σ H1 λy H2=>∃ a v,x=.ref a/\DGet H2 a y (some v) /\
 tv σ H2 λy2 H3=>rd v y2 H3 λz H4=>∃ H5,DPut H4 a y z H5/\D.nx σ H5
def jby(e:X.A.units+1<cLine)(f:PE X o td)(hi:PE X i ty)(j:jlK i):PE X (.Subscript o i pos) (jcW td ty):=by
 intro b s σ H Q I h;refine jix PySem.F.slot_dict_getitem.lookup j<|thn (f b s σ H _ I h) λu s1 ⟨x,k,l,m,n⟩=>thn (hi b s1 σ k _ l n) λz B p=>?_;obtain⟨y,q,d,r,a,v,ex,g,t⟩:=p;subst ex;obtain rfl:u=Value.ref a:=m;exact⟨xv d g,Q5 e d g r λC D w c=>⟨v,q,w,c,t⟩⟩
def jdk(c:X.A.units+1<cLine)(hi:PE X i ty)(d:PE X o td):PC X .NotIn i o (Qu ty td):=by
 intro b s σ H Q I h;refine thn (hi b s σ H _ I h) λv s1 ⟨y,e,f,j,k⟩=>thn (d b s1 σ e _ f k) λu w l=>?_;obtain⟨x,m,n,p,a,q,ex,g,r⟩:=l;subst ex;obtain rfl:u=Value.ref a:=p;exact jhG c n g j λz t=>⟨.bl<|!q.isSome,m,t,rfl,r⟩
def xO(c:X.A.units+1<cLine)(d:PE X o td)(hi:PE X i ty)(e:PE X value tv)(f:swapsWith value (some<|.Subscript o i pos') pos.line X.env=pure false):
  PS X (.Assign [.Subscript o i pos'] value pos) (xE td ty tv):=by
 intro b s σ H D I h;refine wpAny_Assign_Subscript (thn (e b s σ H _ I h) λr s1 ⟨v,j,k,l,m⟩=>thn (d b s1 σ j _ k m) λu n ⟨x,p,q,t,w⟩=>thn (hi b n σ p _ q w) λJ K z=>?_) f;obtain⟨y,L,B,C,a,E,ex,g,F⟩:=z;subst ex;obtain rfl:u=Value.ref a:=t;exact QH c B g C l λM G=>⟨σ,E,G,F⟩
def xS(j:X.A.units+1<cLine)(l:PE X o td)(hi:PE X i ty)(m:PE X value tv)(c:jlF X op rd)
  (n:∀ ov iv new,augStore i ov iv new=(do holding [new,ov,iv] (setItem ov iv new);release [new,ov,iv] [];pure .next)):PS X (.AugAssign (.Subscript o i tpos) op value pos) (jad td ty tv rd):=by
 intro b s σ H D I h;refine wpAny_AugAssign_SubscriptAny (thn (l b s σ H _ I h) λu s1 ⟨x,p,q,r,t⟩=>thn (hi b s1 σ p _ q t) λiv V d=>?_) n;obtain⟨y,w,B,k,a,v,ex,g,C⟩:=d;subst ex;obtain rfl:u=Value.ref a:=r;refine Q5 j B g k λE F G e=>thn (m b F σ w _ G C) λJ K ⟨L,M,N,f,O⟩=>thn (c b K σ M v L E J _ N e f O) λW Y d=>?_;obtain⟨z,Z,P,Q,R,S,T⟩:=d;exact QH j P S k Q λs6 U=>⟨σ,R,U,T⟩
def uY(h:Heap)(a:sysModules<h.objs.size):ObjOk P w H (h.push {cls:=.type "dict",data:=.dict #[]}) h.objs.size (.dK []) :=
 ⟨U4 _,U1.mpr<|Ne.symm<|N5 a,[],.nil,Heap.DictOf.new h⟩
def je5(h:Heap)(a:sysModules<h.objs.size):ObjOk P w H (h.push {cls:=.type "dict",data:=.dict #[]}) h.objs.size (.dT []) :=
 ⟨U4 _,U1.mpr<|Ne.symm<|N5 a,[],.nil,_,#[],0,E1 _ rfl,⟨rfl,rfl,rfl⟩,rfl,rfl,List.nodup_nil⟩
def jcA:TE:=λ_ H Q=>∀ p,H p=none->Q (.ref p) (upd H p<|.dK [])
def jbB:TE:=λ_ H Q=>∀ p,H p=none->Q (.ref p) (upd H p<|.dT [])
def jel:PE X (.Dict [] [] pos) jcA:=λb s σ H Q I h=>
 wpAny_Dict_empty ⟨.ref ↥s,_,I.laid (a:=↥s) (o:=.dK []) (t':=s.toks) (λ_ _ q=>L7 _ q) (M8 _)<|uY s.heap I.big,rfl,h _<|I.hok.fresh<|M8 _⟩
def jey:PE X (.Dict [] [] pos) jbB:=λb s σ H Q I h=>
 wpAny_Dict_empty ⟨.ref ↥s,_,I.laid (a:=↥s) (o:=.dT []) (t':=s.toks) (λ_ _ q=>L7 _ q) (M8 _)<|je5 s.heap I.big,rfl,h _<|I.hok.fresh<|M8 _⟩
def QC:List (TE×TE)->St->Hp->(List (V×V)->Hp->Prop)->Prop
 | [],_,H,Q=>Q [] H
 | (tk,tv)::r,σ,H,Q=>tk σ H λx H1=>tv σ H1 λy H2=>QC r σ H2 λps H3=>Q ((x,y)::ps) H3
abbrev VV:List (V×V)->List (Value×Value)->Prop:=Paired λp q=>RelV p.1 q.1/\RelV p.2 q.2
def PPs(X:Cx)(pos:Pos)(keys:List<|Option Expr)(values:List Expr)(trs:List<|TE×TE):Prop :=
 ∀(pins:W1) (s:Shared) (σ:St) (H:Hp) (Q:List (V×V)->Hp->Prop),Inv X pins σ H s->QC trs σ H Q ->
  wpAny (model X.prog X.w) X.A (evalPairs<|pairTrees keys values X.env pos) (λvs s'=>∃ ps H',Inv X pins σ H' s'/\VV ps vs/\Q ps H') X.xe s
def pps_nil:PPs X pos [] [] []:=λa s σ H Q I h=>pairTrees_nil_walk ⟨[],H,I,.nil,h⟩
def pps_cons(b:PE X k tk)(c:PE X v tv)(d:PPs X pos ks vs trs):
  PPs X pos (some k::ks) (v::vs) ((tk,tv)::trs):=λa s σ H Q I h=>
 pairTrees_cons_walk (thn (b a s σ H _ I h) λu s1 ⟨x,e,f,g,i⟩=>thn (c a s1 σ e _ f i) λw j ⟨y,l,m,n,o⟩=>
  thn (d a j σ l _ m o) λz A ⟨p,q,r,rel,t⟩=>⟨(x,y)::p,q,r,.cons ⟨g,n⟩ rel,t⟩)
def Y0(kvs more:List<|Key×V):List (Key×V):=more.foldl (λacc kv=>vX acc kv.1 kv.2) kvs
def KV.merge:∀{more:List (Key×V)}{rs:List (Key×Value)}{kvs:List (Key×V)}{vs:List (Key×Value)},KV more rs->KV kvs vs->KV (Y0 kvs more) (merged vs rs):=by
 intro more rs kvs vs r;unfold KV at r
 induction r generalizing kvs vs with
 | nil=>intro q;exact q
 | @cons p q c d h t a=>
  intro b;have e:KV (vX kvs p.1 p.2) (stored vs q.1 q.2):=by
   have:=b.put p.1 h.2;rw[<- h.1];exact this
  exact a e
theorem JS:∀(more kvs:List<|Key×V),(Y0 kvs more).length<=kvs.length+more.length
 | [],kvs=>by show kvs.length<=kvs.length+0;lia
 | p::r,kvs=>by
  have a:=JS r<|vX kvs p.1 p.2;have b:=Js kvs p.1 p.2;show(Y0 (vX kvs p.1 p.2) r).length<=_;rw[M0];lia
theorem Kq:∀{kvs:List (Key×V)}{ws:List (Value×Value)},VV (kvs.map λkv=>(kV kv.1,kv.2)) ws->∃ rs,Carries (jP P w) ws rs/\KV kvs rs
 | [],_,r=>by rw[List.map_nil] at r;cases r;exact⟨[],True.intro,.nil⟩
 | p::kvs,_,r=>by
  rw[L4] at r;cases r with
  | @cons a b e bs h t=>
   obtain⟨rs,c,q⟩:=Kq (P:=P) (w:=w) t;obtain⟨f,d⟩:=b;exact⟨(p.1,d)::rs,⟨wt h.1,rfl,c⟩,.cons ⟨rfl,h.2⟩ q⟩
def jgg(trs:List<|TE×TE):TE:=λσ H Q=>∀ p,H p=none->QC trs σ (upd H p<|.dK []) λps H2=>H2 p=some (.dK [])/\∃ kvs:List (Key×V),ps=kvs.map (λkv=>(kV kv.1,kv.2))/\kvs.length<=15/\Q (.ref p) (upd H2 p<|.dK<|Y0 [] kvs)
def jiw(h:PPs X pos keys values trs)(b:keys.all (·.isSome)=true)(l:keys.length=values.length)(m:keys≠[])
  (i:keys.length<=15):PE X (.Dict keys values pos) (jgg trs):=by
 intro d s σ H Q I q;have n:=I.hok.fresh<|M8 ↥s;have p:=I.laid (a:=↥s) (o:=.dK []) (h':=s.heap.push {cls:=.type "dict",data:=.dict #[]}) (t':=s.toks) (λ_ _ q=>L7 _ q) (M8 _)<|uY s.heap I.big;refine wpAny_Dict_walk (knd:=jP X.prog X.w) b l m i<|thn (h d _ σ _ _ p<|q _ n) λF G r=>?_;obtain⟨J,K,k,rel,e,f,t,L,u⟩:=r;subst t;obtain⟨v,c,x⟩:=Kq (P:=X.prog) (w:=X.w) rel;obtain⟨z,hd,y,A,dd⟩:=jjl k.hok e;cases A;refine⟨v,c,dd,λj g B=>⟨.ref ↥s,_,?_,rfl,u⟩⟩;have C:(Y0 [] f).length<=sizeLine:=by
  have D:=JS f [];rw[List.length_nil] at D;rw[sizeLine_eq];lia
 have E:∃ q,j.get? ↥s=some q:=let ⟨q,_,_,hq,_⟩:=g;⟨q,hq⟩
 exact xn k (by rw[e];exact True.intro) B E<|jbU C hd (x.merge .nil) g
structure M1(X:Cx)(o:Expr)(m:Str)(apos:Pos)(e:Expr)(cpos:Pos):Prop where
 base:attributeBase o m X.env (eval o X.env)=eval o X.env
 few:((backTo cpos<|starEach [e] X.env).all (λx=>!x.1)&&(backToKw cpos<|keywordEach [] X.env).all (λx=>x.1.isSome)
  && decide (([e]:List Expr).length+([]:List Keyword).length+(if([]:List Keyword).isEmpty then 0 else 1)<30))=true
 line:(apos.endLine==cpos.line)=true
 trees:backTo cpos (starEach [e] X.env)=[(false,eval e X.env)]
structure M2(X:Cx)(o:Expr)(m:Str)(apos:Pos)(e f:Expr)(cpos:Pos):Prop where
 base:attributeBase o m X.env (eval o X.env)=eval o X.env
 few:((backTo cpos<|starEach [e,f] X.env).all (λx=>!x.1)&&(backToKw cpos<|keywordEach [] X.env).all (λx=>x.1.isSome)
  && decide (([e,f]:List Expr).length+([]:List Keyword).length+(if([]:List Keyword).isEmpty then 0 else 1)<30))=true
 line:(apos.endLine==cpos.line)=true
 trees:backTo cpos (starEach [e,f] X.env)=[(false,eval e X.env),(false,eval f X.env)]
def IsD(H:Hp)(a:Addr):Prop:=(∃ kvs,Rd H a<|.dK kvs) \/ ∃ kvs,Rd H a<|.dT kvs
def jfF(I:Inv X pins σ H s)(d:IsD H a):
  s.TypeIs (.ref a) "dict"/\(∀ b,Value.ref a=.ref b->∃ ob,s.heap.get? b=some ob/\ob.dict=none)/\(a==sysModules)=false:=by
 rcases d with⟨c,e⟩ | ⟨c,e⟩
 ·obtain⟨_,hd,h,_,dd⟩:=xz I.hok e;refine⟨dd.typeIs,λb q=>?_,hd⟩;cases q;obtain⟨ob,_,_,f,g,_⟩:=dd;exact⟨ob,f,g.2.1⟩
 ·obtain⟨_,hd,i,_,dd⟩:=jar I.hok e;refine⟨dd.typeIs,λb q=>?_,hd⟩;cases q;obtain⟨ob,_,_,f,g,_⟩:=dd;exact⟨ob,f,g.2.1⟩
def jki(j:A.units+1<cLine)(I:Inv X pins σ H s)(g:DGet H a y o)(i:RelV y u)(rd:RelV d r)(h:∀ w' s',Inv X pins σ H s'->RelV (o.getD d) w'->Q w' s'):
  wpAny (model X.prog X.w) A (call (.builtin "dict.get") [.ref a,u,r]) Q E s:=by
 rcases g with⟨c,k,e,f,l⟩ | ⟨c,k,b,e,f,m,l⟩
 ·subst f;obtain⟨z,hd,p,rel,dd⟩:=xz I.hok e;refine call_meetsIn PySem.F.slot_dict_get dd.typeIs PySem.F.entry_dict_get (PySem.F.args_dict_get_3 _ _ _) (meets_dict_get_default (jP X.prog X.w) a (wt i) hd r) ⟨_,dd.mapOf,h _ _ (I.tok _) ?_⟩;rw[l];exact(rel.val k).getD rd
 ·subst f;cases(show u=Value.ref b from i);obtain⟨z,hd,n,rel,dd⟩:=jar I.hok e;refine call_meetsIn PySem.F.slot_dict_get dd.typeIs PySem.F.entry_dict_get (PySem.F.args_dict_get_3 _ _ _) (meetsH_dict_get_default (tupleKind<|jP X.prog X.w) a b hd r) ⟨tupleKind_room_in1 j,k,n,V8 I.hok m,dd,h _ _ (I.tok _) ?_⟩;rw[l];exact(rel.val k).getD rd
noncomputable def jdn(td ty tx:TE):TE:=λσ H Q=>td σ H λx H1=>∃ a,x=.ref a/\IsD H1 a/\ty σ H1 λy H2=>tx σ H2 λz H3=>∃ o,DGet H3 a y o/\Q (o.getD z) H3
def jd3(j:X.A.units+1<cLine)(k:PE X o td)(l:PE X e ty)(n:PE X f tx)(m:M2 X o "get" apos e f cpos):PE X (.Call (.Attribute o "get" apos) [e,f] [] cpos) (jdn td ty tx):=by
 intro b s σ H Q I h;refine wpAny_Call_method m.base m.few m.line PySem.F.plainAttrs_dict PySem.F.slot_dict_get PySem.F.type_dict_get<|thn (k b s σ H _ I h) λu s1 p=>?_;obtain⟨x,q,i,r,a,ex,d,t⟩:=p;subst ex;obtain rfl:u=Value.ref a:=r;obtain⟨t1,v,_⟩:=jfF i d;refine⟨t1,v,?_⟩;rw[m.trees];refine Calls.callWith_builtin rfl<|Calls.evalArgs_plain<|Calls.spliced_cons<|thn (l b s1 σ q _ i t) λN w ⟨y,B,C,D,E⟩=>
  Calls.spliced_cons (thn (n b w σ B _ C E) λO P ⟨z,G,J,K,R,g,L⟩=>Calls.spliced_nil ?_)
 exact jki j J g D K λS T M c=>⟨_,G,M,c,L⟩
end L2
namespace PySem
open Sem (wp)
namespace F
def lk_list_keys:typeLookup (.type "list") "keys" = pure none:=by rw[typeLookup_type,builtinLookup_eq_fast];kernel_rfl
def lk_list_getattr:typeLookup (.type "list") "__getattr__" = pure none:=by rw[typeLookup_type,builtinLookup_eq_fast];kernel_rfl
def plain_dict_loop:plainId "dict.update.loop" = true:=by decide +kernel
def entry_dict_loop:entryFor table "dict.update.loop" = some Builtin.«dict.update.loop»:=entryFor_of_fast (by kernel_rfl)
end F
section
variable {prog:Program}{w:World}{A:Around}{E:W0}{h:Heap}{g:Array GenState}{d:Drawn}{t:Nat}{os:OsState}{a:Addr}{o:Obj}
def F.sub_attrErr:isSubtype (.type "AttributeError") (.type "AttributeError")=pure true:=by rw[isSubtype_type];kernel_rfl
def jd8{x nm:Value}{e:Addr}{y:Value}{Q:Unit->Shared->Prop}(a:h.get? e=some {cls:=.type "AttributeError",data:=.fields #[y,.none,.none,.none,.bool false,.none,unsetMember,unsetMember]})
  (c:∀ h',(∀ b o,b≠e->h.get? b=some o->h'.get? b=some o)->(∃ ob,h'.get? e=some ob/\ob.cls=.type "AttributeError")->Q () ⟨h',g,d,t,os⟩):
  wpAny (model prog w) A (noteAttr (.ref e) x nm) Q E ⟨h,g,d,t,os⟩:=by
 have j:(⟨h,g,d,t,os⟩:Shared).TypeIs (.ref e) "AttributeError":=⟨_,a,rfl⟩;have k:=F.sub_attrErr;unfold noteAttr
 repeat (any_goals (first | assumption | wp_step))
 refine c _ (λb o f i=>?_) ?_
 ·rw[Heap.get?_update_ne _ _ _ _ f];exact i
 ·exact⟨_,Heap.get?_update_self _ a rfl,rfl⟩
def jaJ{α:Type}{x:Value}{nm c:Str}{Q:α->Shared->Prop}(l:c.length<=sizeLine)(n:A.handled=none)
  (p:∀ h' e t',(∀ b o,h.get? b=some o->h'.get? b=some o)->h.get? e=none->(∃ ob,h'.get? e=some ob/\ob.cls=.type "AttributeError")->E (.ref e) ⟨h',g,d,t',os⟩):
  wpAny (model prog w) A (raiseAttrError x nm c:Sem α) Q E ⟨h,g,d,t,os⟩:=by
 unfold raiseAttrError;refine L1<|wpAny_mkStr (L1 ?_) l;unfold newExc newTuple;refine L1<|wpAny_newObj_type ?_;refine L1 (m:=firstArgMember _ _)<|wpAny_of_eq (a:=Value.none) (by simp only[firstArgMember];rfl) ?_;refine wpAny_newObj_type ?_;refine L1<|wpAny_mkText<|L1 ?_;refine jd8 (y:=.ref h.objs.size) (E1 _ rfl) λh' q r=>?_;unfold raiseNew;refine L1<|wpAny_handled ?_;rw[n];have f:∀ i,E (.ref (h.push {cls:=.type "tuple",data:=.seq #[Value.str c t]}).objs.size) ⟨h',g,d,i,os⟩:=λi=>p h' _ _ (λb o j=>q b o (λz=>by
  have k:=N0 j;rw[z] at k;exact absurd k<|Nat.not_lt.mpr<|by simp)<|L7 _<|L7 _ j) (Heap.get?_none_of_le<|by simp) r
 first
  | exact wpAny_throw (f _)
  | exact L1 (M6 (wpAny_throw (f _)))
def jaR{its:Array Value}{n:Nat}{sl:Array (Option Value)}{tk:Tok}{Q:Fin->Shared->Prop}(c:A.handled=none)(f:h.get? a=some {cls:=.type "list",data:=.seq its n,slots:=sl})
  (i:∀ h' e t',(∀ b o,h.get? b=some o->h'.get? b=some o)->h.get? e=none->(∃ ob,h'.get? e=some ob/\ob.cls=.type "AttributeError")->E (.ref e) ⟨h',g,d,t',os⟩):
  wpAny (model prog w) A (Builtin.«object.__getattribute__» ⟨[.ref a,.str "keys" tk],[]⟩) Q E ⟨h,g,d,t,os⟩:=by
 have j:(⟨h,g,d,t,os⟩:Shared).TypeIs (.ref a) "list":=⟨_,f,rfl⟩;have k:=F.lk_list_keys
 repeat (any_goals (first | assumption | wp_step))
 exact jaJ (by decide +kernel) c i
def jdh{its:Array Value}{n:Nat}{sl:Array (Option Value)}{tk:Tok}{R:Result->Shared->Prop}(f:A.handled=none)(c:h.get? a=some {cls:=.type "list",data:=.seq its n,slots:=sl})
  (i:∀ h' e t',(∀ b o,h.get? b=some o->h'.get? b=some o)->h.get? e=none->(∃ ob,h'.get? e=some ob/\ob.cls=.type "AttributeError")->R (.error<|.ref e) ⟨h',g,d,t',os⟩):
  codeAny (model prog w) A (.call (.builtin "list.__getattribute__") ⟨[.ref a,.str "keys" tk],[]⟩) R ⟨h,g,d,t,os⟩:=by
 refine codeAny_call_builtin F.slot_list_getattribute.plain F.entry_list_ga<|F.slot_list_getattribute.check _ _ _ _ _ _ _ _ (show(⟨h,g,d,t,os⟩:Shared).TypeIs (.ref a) "list" from⟨_,c,rfl⟩) (F.args_list_getattribute_2 _ _) ?_;exact jaR (show A.in1.handled=none from f) c i
def jib{its:Array Value}{n:Nat}{sl:Array (Option Value)}{tk:Tok}{Q:W0}(k:A.handled=none)(i:h.get? a=some {cls:=.type "list",data:=.seq its n,slots:=sl})
  (l:∀ h' e t',(∀ b o,h.get? b=some o->h'.get? b=some o)->h.get? e=none->(∃ ob,h'.get? e=some ob/\ob.cls=.type "AttributeError")->E (.ref e) ⟨h',g,d,t',os⟩):
  wpAny (model prog w) A (getAttrBy (.ref a) (.str "keys" tk) false) Q E ⟨h,g,d,t,os⟩:=by
 have u:(⟨h,g,d,t,os⟩:Shared).TypeIs (.ref a) "list":=⟨_,i,rfl⟩;have v:=F.sub_attrErr;have x:=F.slot_list_getattribute.lookup;have y:=F.slot_list_getattribute.bind<|.ref a;have z:=F.lk_list_getattr
 repeat (any_goals (first | assumption | wp_step))
 refine jdh k i λh' e t' m p j=>?_;have c:=j;obtain⟨ob,f,q⟩:=j;have r:(⟨h',g,d,t',os⟩:Shared).TypeIs (.ref e) "AttributeError":=⟨_,f,q⟩;have s:=l h' e t' m p c;show wpAny (model prog w) A (getattributeRaised (Value.ref a) (Value.str (Str.ofString "keys") tk) (Value.type "list") (.ref e) none false false) Q E _;unfold getattributeRaised
 repeat (any_goals (first | assumption | wp_step))
def z6{its:Array Value}{n:Nat}{sl:Array (Option Value)}{Q:Option Value->Shared->Prop}(f:A.handled=none)(i:h.get? a=some {cls:=.type "list",data:=.seq its n,slots:=sl})
  (j:∀ h' t',(∀ b o,h.get? b=some o->h'.get? b=some o)->Q none ⟨h',g,d,t',os⟩):wpAny (model prog w) A (getAttr? (.ref a) "keys") Q E ⟨h,g,d,t,os⟩:=by
 unfold getAttr? getAttrBy?
 refine L1<|wpAny_mkText<|L1 ?_;refine wpAny_attempt ?_;refine jib f i λh' e t' k r l=>?_;obtain⟨ob,c,m⟩:=l;have p:(⟨h',g,d,t',os⟩:Shared).TypeIs (.ref e) "AttributeError":=⟨_,c,m⟩;have s:=F.sub_attrErr;have q:=j h' t' k
 repeat (any_goals (first | assumption | wp_step))
end
section
variable {prog:Program}{w:World}{K:Type} [DecidableEq K] {knd:KeyKind prog w K}{A:Around}{E:W0}{s:Shared}
def Kr(c:s.heap.get? p=some o)(b:o.cls=.type "tuple")(hd:o.data=.seq #[key,x] m)(e:Q [key,x] s):wpAny (model prog w) A (Builtin.Dict.pairItems<|.ref p) Q E s:=by
 obtain⟨oc,od,a,d⟩:=o;dsimp only at b hd;subst b;subst hd;have f:s.TypeIs (.ref p) "tuple":=⟨_,c,rfl⟩;unfold Builtin.Dict.pairItems
 repeat (any_goals (first | assumption | wp_step))
def jcN(knd:KeyKind prog w K)(h:Heap)(v:Value)(kv:K×Value):Prop:=∃ p key m o,v=.ref p/\h.get? p=some o/\o.cls=.type "tuple"/\o.data=.seq #[key,kv.2] m/\knd.is kv.1 key=true
def jbh{R:Result->Shared->Prop}(hh:A.handled=none)  (q:ax≠I) (h:D≠I) (P:D≠ax) {items:Array Value}{ps:List (K×Value)}(r:items.size=ps.length):∀(k i:Nat) (s:Shared) (kvs:List<|K×Value),
  items.size-i=k->i<=items.size->(s.heap.IsListIter I ax i/\s.heap.IsList ax items)->s.heap.DictOf knd D kvs ->
  (∀(j:Nat) (v:Value),items[j]?=some v->∃ kv,ps[j]?=some kv/\jcN knd s.heap v kv/\v≠.ref I/\v≠.ref D)->kvs.length+k<=100000 ->
  (∀ h' tk,h'.DictOf knd D ((ps.drop i).foldl (λa kv=>stored a kv.1 kv.2) kvs)->(∀ b o,b≠I->b≠D->s.heap.get? b=some o->h'.get? b=some o)->R (.ok<|.ret .none) {s with heap:=h',toks:=tk}) ->
  codeAny (model prog w) A (.builtin "dict.update.loop" ⟨[.ref D,.ref I,rawInt i,.none],[]⟩) R s:=by
 intro k
 induction k with
 | zero=>
  intro i s kvs hk hi l hd Q hz S;have T:i=items.size:=by lia
  subst T;have W:=Walks.list (prog:=prog) (w:=w) (A:=A.in1) (by exact hh) I ax q items;refine codeAny_builtin F.entry_dict_loop ?_;rw[Around.under_plainId F.plain_dict_loop _];show wpAny _ A.in1 (pyNext (.ref I) >>= _) _ _ s;refine L1<|W.done s _ _ l λh' tk c=>?_;have fin:=S h' tk (by rw[r,List.drop_length];exact hd.extBut (b:=I) (λb o d e=>c b o ⇑d e) h)<|λb o d _ e=>c b o ⇑d e;unfold Builtin.Dict.addKeywords
  repeat (any_goals (first | assumption | wp_step))
 | succ k ih=>
  intro i s kvs hk hi l hd Q hz S;have t:i<items.size:=by lia
  have W:=Walks.list (prog:=prog) (w:=w) (A:=A.in1) (by exact hh) I ax q items;refine codeAny_builtin F.entry_dict_loop ?_;rw[Around.under_plainId F.plain_dict_loop _];show wpAny _ A.in1 (pyNext (.ref I) >>= _) _ _ s;refine L1<|W.item i s _ _ t l λv h' tk hP u c=>?_;obtain⟨kv,x,⟨p,y,m,po,rfl,U,V,X,B⟩,Y,hvD⟩:=Q i v hP;have C:h'.get? p=some po:=c p _ ⇑(λz=>Y<|by rw[z]) U;have Z:h'.DictOf knd D kvs:=hd.extBut (b:=I) (λb o d e=>c b o ⇑d e) h;refine L1<|wpAny_holding ?_;refine L1<|wpAny_tryCatch<|Kr C V X ?_;show wpAny _ _ (holding [y,kv.2]<|dictSet D y kv.2) _ _ _;have hsz:sizeLine=16777216:=by decide
  refine wpAny_holding<|wpAny_dictSet_pairs B Z (λh'' E hs=>?_) ∅;refine M6 ⟨plainId_quiet F.plain_dict_loop _,?_⟩;have hd2:ps.drop i=kv::ps.drop (i+1):=by
   have G:i<ps.length:=by lia
   rw[List.drop_eq_getElem_cons G];have:ps[i]=kv:=by
    rw[X8 G] at x;exact X7 x
   rw[this]
  refine ih (i+1) _ (stored kvs kv.1 kv.2) ∅ t (W.frame (i+1) h' h'' u λb d o e=>(hs.2 b ?_).trans e) E (λj v hv=>?_) ?_ λh3 tk3 hd3 hk3=>?_
  ·rcases M4.mp d with rfl | d
   ·exact λz=>h z.symm
   ·rw[M7.mp d];exact λz=>P z.symm
  ·obtain⟨kv',H,⟨p',J,m',po',rfl,L,M,N,n⟩,f,g⟩:=Q j v hv;refine⟨kv',H,⟨p',J,m',po',rfl,?_,M,N,n⟩,f,g⟩;exact(hs.2 p' λz=>g<|by rw[z]).trans (c p' _ ⇑(λz=>f<|by rw[z]) L)
  ·have:=stored_length_le kvs kv.1 kv.2
   lia
  ·refine S h3 tk3 ?_ λb o d O e=>hk3 b o d O<|(hs.2 b O).trans (c b o ⇑d e);rw[hd2,U9];exact hd3
end
section
variable {prog:Program}{w:World}{K:Type} [DecidableEq K] {knd:KeyKind prog w K}{A:Around}{E:W0}{s:Shared}
def V1{its:Array Value}{n:Nat}{sl:Array (Option Value)}{ps:List (K×Value)}{Q:W0}(N:A.handled=none)(u:s.heap.get? p=some {cls:=.type "list",data:=.seq its n,slots:=sl})(k:its.size=ps.length)
  (R:∀(j:Nat) (v:Value),its[j]?=some v->∃ kv,ps[j]?=some kv/\jcN knd s.heap v kv) (hz:ps.length<=100000)
  (h:∀ h' tk,h'.DictOf knd ↥s (ps.foldl (λa kv=>stored a kv.1 kv.2) [])->(∀ b o,s.heap.get? b=some o->h'.get? b=some o)->Q (.ref ↥s) {s with heap:=h',toks:=tk}):
  wpAny (model prog w) A (call (.type "dict") [.ref p]) Q E s:=by
 refine callType_codes (Q₁:=λobj O=>obj=.ref ↥s/\O={ s with heap:=s.heap.push {cls:=.type "dict",data:=.dict #[]} }) F.kt_called_dict (F.kt_typeCall_dict_1 _) F.entry_dict_init (kt_code_dict_new _ ⟨rfl,rfl⟩) ?_;rintro obj O ⟨rfl,rfl⟩;have c:(s.heap.push {cls:=.type "dict",data:=.dict #[]}).DictOf knd ↥s []:=Heap.DictOf.new s.heap;refine⟨c.typeIs,F.args_dict_init_2 _ _,?_⟩;have f:(s.heap.push {cls:=.type "dict",data:=.dict #[]}).get? p=some {cls:=.type "list",data:=.seq its n,slots:=sl}:=L7 _ u;have P:s.heap.get? ↥s=none:=Heap.get?_none_of_le<|M8 _;unfold Builtin.«dict.__init__»;refine L1 ?_;unfold Builtin.Dict.selfAndRest;refine L1<|wpAny_notOrdered_dict c.typeIs ?_;show wpAny _ _ (pure (↥s,[Value.ref p])) _ _ _;refine M6 ?_;show wpAny _ _ (Builtin.Dict.updateFrom "dict.__init__" ↥s (.ref p) [] .none) _ _ _;unfold Builtin.Dict.updateFrom;refine L1<|wpAny_typeOf (T:="list") ⟨_,f,rfl⟩ ?_;rw[if_pos<|by decide];refine L1 ?_;refine z6 (its:=its) (n:=n) ?_ f λl W d=>?_
 ·exact N
 ·rw[if_pos<|show(Option.isNone (none:Option Value))=true from rfl];refine L1<|wpAny_rule ?_;have g:=d p _ f;have x:l.IsList p its:=⟨_,g,rfl,n,rfl⟩;refine L1<|wpAny_pyIter_list x ?_;have y:=d ↥s _ (E1 _ rfl);have B:p≠l.objs.size:=N5<|N0 g;have q:↥s≠l.objs.size:=N5<|N0 y;have C:↥s≠p:=λz=>by rw[<- z,P] at u;cases u
  refine M6 ⟨plainId_quiet F.plain_dict_loop _,?_⟩;refine jbh (A:=A.in1) (knd:=knd) (show A.in1.handled=none from N) B q C k its.size 0 _ [] ∅ (U4 _) ⟨⟨_,E1 _ rfl,rfl,rfl⟩,?_⟩ ?_ (λS v U=>?_) (by simp;lia) λV D G H=>?_
  ·exact⟨_,L7 _ g,rfl,n,rfl⟩
  ·exact c.extBut (b:=l.objs.size) (λb o X e=>L7 _<|d b o e) q
  ·obtain⟨kv,I,t,J,m,po,rfl,i,L,M,r⟩:=R S v U;have e2:=d t _<|L7 _ i;refine⟨kv,I,⟨t,J,m,po,rfl,L7 _ e2,L,M,r⟩,λz=>?_,λz=>?_⟩
   ·have z:t=l.objs.size:=by injection z
    exact absurd z<|N5<|N0 e2
   ·have z:t=↥s:=by injection z
    rw[z,P] at i;cases i
  ·refine⟨rfl,h V D G λb o e=>?_⟩;have e2:=d b o<|L7 _ e;exact H b o (N5<|N0 e2) (N5<|N0 e)<|L7 _ e2
end
end PySem
namespace L2
open PySem PySem.Spec PyProof.Rows
theorem ur(I:Inv X pins σ H s):∀{ys:List V}{its:List Value}{ps:List (Key×V)},Vals ys its->ys.length=ps.length ->
  (∀(j:Nat) (y:V),ys[j]?=some y->∃ kv t,ps[j]?=some kv/\y=.ref t/\SqT X.K H t [kV kv.1,kv.2]) ->
  ∃ qs:List (Key×Value),KV ps qs/\∀(j:Nat) (v:Value),its[j]?=some v->∃ kv,qs[j]?=some kv/\jcN (jP X.prog X.w) s.heap v kv
 | [],its,ps,b,a,c=>by
  cases b;have:ps=[]:=List.length_eq_zero_iff.mp a.symm;subst this;exact⟨[],.nil,λj v e=>by simp at e⟩
 | y::ys,its,[],b,a,c=>by simp at a
 | y::ys,its,kv::ps,b,a,c=>by
  cases b with
  | cons i k=>
   rename_i u D;obtain⟨qs,r,q⟩:=ur I (ps:=ps) k ⇑a λj y e=>c (j+1) y ⇑e;obtain⟨l,t,m,rfl,d⟩:=c 0 y rfl;cases m;cases(show u=Value.ref t from i);obtain⟨g,p,⟨o,e,x,n,hd⟩,_⟩:=I.tuple d;cases p with
   | cons z A=>
    cases A with
    | cons B C=>
     cases C;rename_i f val;refine⟨(kv.1,val)::qs,.cons ⟨rfl,B⟩ r,λj v h=>?_⟩;cases j with
     | zero=>
      cases h;exact⟨_,rfl,t,f,n,o,rfl,e,x,hd,wt z⟩
     | succ j=>exact q j v ⇑h
theorem jcF:∀{ps:List (Key×V)}{qs:List (Key×Value)}{a:List (Key×V)}{b:List (Key×Value)},KV ps qs->KV a b->KV (ps.foldl (λa kv=>vX a kv.1 kv.2) a) (qs.foldl (λa kv=>stored a kv.1 kv.2) b)
 | [],_,_,_,.nil,h=>h
 | p::ps,q::qs,a,b,.cons c d,h=>by
  rw[U9,U9];refine jcF d ?_;have:=h.put p.1 c.2;rw[c.1] at this ⊢;exact this
def jhU{ps:List (Key×V)}:∀{qs:List (Key×V)},(ps.foldl (λa kv=>vX a kv.1 kv.2) qs).length<=qs.length+ps.length:=by
 induction ps with
 | nil=>intro qs;simp
 | cons p ps b=>
  intro qs;rw[U9];have c:=b (qs:=vX qs p.1 p.2);have d:(vX qs p.1 p.2).length<=qs.length+1:=by unfold vX;split<;>simp
  rw[M0]
  lia
def jai{X:Cx}(C:X.calm=true):JJ X (.type "dict") (λxs H Q=>∃(p:Addr) (ys:List V) (ps:List<|Key×V),xs=[.ref p]/\SqL X.K H p ys/\ys.length=ps.length/\ps.length<=100000 /\
  (∀(j:Nat) (y:V),ys[j]?=some y->∃ kv t,ps[j]?=some kv/\y=.ref t/\SqT X.K H t [kV kv.1,kv.2])/\∀ D,H D=none->Q (.ref D) (upd H D<|.dK<|ps.foldl (λa kv=>vX a kv.1 kv.2) [])):=by
 intro x s σ H xs R Q I r h;obtain⟨p,ys,ps,rfl,E,z,F,G,q⟩:=h;obtain⟨u,rfl,J⟩:=r.one;cases J;obtain⟨i,A,⟨o,n,e,b,c,d⟩,_⟩:=I.list E;obtain⟨oc,od,k,L⟩:=o;dsimp only at b c d;subst b c d;obtain⟨B,rel,l⟩:=ur I A z G;have f:i.toArray.size=B.length:=by rw[N2,<- A.length,z,rel.length]
 refine V1 (knd:=jP X.prog X.w) (I.ok.hd C) e f (λj v M=>l j v ⇑M) (by rw[<- rel.length];exact F) λS N hd O=>?_;have g:=jcF rel (.nil:KV ([]:List<|Key×V) []);have m:=jhU (ps:=ps) (qs:=[]);have P:sizeLine=16777216:=by decide
 exact⟨.ref ↥s,_,I.laid (a:=↥s) (o:=.dK<|ps.foldl (λa kv=>vX a kv.1 kv.2) []) (t':=N) O (M8 _)<|jbU (by simp at m;lia) (U1.mpr<|Ne.symm<|N5 I.big) g hd,rfl,q _<|I.hok.fresh<|M8 _⟩
def Inv.layAll(I:Inv X pins σ H s)(k:∀ b u,s.heap.get? b=some u->h'.get? b=some u)(a:∀ b,H b≠none->H' b=H b)
  (new:∀ b o,H b=none->H' b=some o->↥s<=b/\ObjOk X.prog X.w H' h' b o):Inv X pins σ H' {s with heap:=h',toks:=t'}:=by
 refine I.un ⟨λb u q _ _ _=>k b u q,λb u q _ _ _=>⟨u.slots,k b u q⟩,λb u q n _=>?_,λb u q _=>⟨u,k b u q⟩,λb f q=>?_,λb o u q=>?_,λb g q=>⟨#[],?_⟩⟩ λb o e=>?_
 ·cases e:H' b with
  | none=>rfl
  | some o=>exact absurd (N0 q)<|Nat.not_lt.mpr (new b o n e).1
 ·rw[a b<|by rw[q];exact λz=>nomatch z];exact q
 ·rw[a b<|by rw[q];exact λz=>nomatch z];exact q
 ·rw[a b (by rw[q];exact λz=>nomatch z),q];simp
 ·by_cases n:H b=none
  ·exact(new b o n e).2
  ·have d:=e;rw[a b n] at d;exact(I.hok b o d).stay (λc u _ q=>k c u q) (λc q=>by rw[a c<|by rw[q];exact λz=>nomatch z];exact q) λc f q=>by rw[a c<|by rw[q];exact λz=>nomatch z];exact q
def jlW(h:(jP P w).is k u=true):RelV (kV k) u:=by
 rw[jaK] at h;rcases yd h with⟨i,t,rfl,rfl⟩ | ⟨x,t,rfl,rfl⟩
 ·exact⟨t,rfl⟩
 ·exact⟨t,rfl⟩
def yk(H:Hp)(as:W6)(kvs:List<|Key×V)(l:Addr):Hp:=λb=>if b=l then some (.lst<|as.map V.ref) else
 match (as.zip kvs).find? (λp=>p.1==b) with
 | some p=>some<|.tup [kV p.2.1,p.2.2]
 | none=>H b
def KP{a:W6}{kvs:List (Key×V)}(d:a.Nodup){j:Nat}{p:Key×V}(h1:a[j]?=some b)(h2:kvs[j]?=some p):(a.zip kvs).find? (λq=>q.1==b)=some (b,p):=by
 induction a generalizing kvs j with
 | nil=>simp at h1
 | cons c a e=>
  cases kvs with
  | nil=>simp at h2
  | cons q kvs=>
   rw[U6,List.find?_cons];cases j with
   | zero=>
    simp at h1 h2;subst h1;subst h2;simp
   | succ j=>
    simp at h1 h2;have f:c≠b:=λz=>(List.nodup_cons.mp d).1 (z▸List.mem_of_getElem? h1);have:(c==b)=false:=U1.mpr f;simp only[this];exact e (List.nodup_cons.mp d).2 h1 h2
def kZ{a:W6}{kvs:List (Key×V)}(h:b∉a):(a.zip kvs).find? (λq=>q.1==b)=none:=by
 rw[List.find?_eq_none];intro q c z;have:q.1=b:=by simpa using z
 exact h<|this▸(List.of_mem_zip c).1
theorem jkW:∀{A:List (Key×V)}{B:List (Key×Value)}{j:Nat},KV A B->B[j]?=some (kk,x)->∃ y,A[j]?=some (kk,y)/\RelV y x
 | [],_,j,.nil,e=>by simp at e
 | p0::A,c::B,0,.cons a b,e=>by
  simp at e;subst e;refine⟨p0.2,?_,a.2⟩;have:p0.1=kk:=a.1;simp[<- this]
 | p0::A,c::B,j+1,.cons a b,e=>by
  obtain⟨y,d,e2⟩:=jkW (j:=j) b ⇑e;exact⟨y,by simpa using d,e2⟩
def xh(td:TE):TE:=λσ H Q=>td σ H λx H1=>∃ a kvs,x=.ref a/\Rd H1 a (.dK kvs)/\∀(l:Addr) (as:W6),H1 l=none->as.length=kvs.length->(l::as).Nodup->(∀ b∈as,H1 b=none)->Q (.ref l) (yk H1 as kvs l)
def jbf(hc:X.calm=true)(hg:Gl X "list")(hm:X.mg "list" = none)(hv:bootBuiltins "list" = some (.type "list"))(ho:PE X o td)
  (n:attributeBase o "items" X.env (eval o X.env)=eval o X.env:=by rfl) (r:(apos.endLine==cpos.line)=true:=by rfl)
  (he:starEach [.Call (.Attribute o "items" apos) [] [] cpos] X.env=(false,eval (.Call (.Attribute o "items" apos) [] [] cpos) X.env)::starEach [] X.env:=by rfl)
  (G:(backTo pos<|starEach [] X.env).any (·.1)=false:=by rfl)
  (J:backTo pos (starEach [.Call (.Attribute o "items" apos) [] [] cpos] X.env)=[(false,eval (.Call (.Attribute o "items" apos) [] [] cpos) X.env)]:=by rfl):
  PE X (.Call (.Name "list" p) [.Call (.Attribute o "items" apos) [] [] cpos] [] pos) (xh td):=by
 intro C s σ H Q I h;refine wpAny_Call_Name_kw<|JM I hg hm hv ?_ (by decide) (by decide);refine PyProof.Rows.callWith_type1 ?_ he G;rw[J];refine Calls.spliced_cons<|wpAny_Call_method0_late n r<|thn (ho C s σ H _ I h) λv s1 hh=>?_;obtain⟨x,H1,l,K,a,g,ex,S,T⟩:=hh;subst ex;obtain rfl:v=Value.ref a:=K;obtain⟨U,hd,L,M,dd⟩:=xz l.hok S;obtain⟨t1,t2,_⟩:=jfF l<|.inl ⟨g,S⟩;refine⟨"dict","dict.items",PySem.F.plainAttrs_dict,PySem.F.slot_dict_items,PySem.F.type_dict_items,t1,t2,Calls.callWith_builtin rfl<|PySem.evalArgs_none ?_⟩;refine call_meetsIn PySem.F.slot_dict_items dd.typeIs PySem.F.entry_dict_items (PySem.F.args_dict_items_1 _) (meets_dict_items (jP X.prog X.w) a hd) ⟨⟨L,dd⟩,?_⟩;refine Calls.spliced_nil ?_;obtain⟨ob,es,N,d1,d2⟩:=dd;have O:(s1.heap.push {cls:=.type "dict_items",data:=.fields #[.ref a]}).DictAt (jP X.prog X.w) a L N:=⟨ob,es,L7 _ d1,d2⟩;refine PySem.W.kdx_call (s:={ s1 with heap:=s1.heap.push {cls:=.type "dict_items",data:=.fields #[.ref a]} }) (knd:=jP X.prog X.w) (kvs:=L) (ep:=N) (l.ok.hd hc) ⟨_,E1 _ rfl,rfl,rfl⟩ O (by rw[<- M.length];exact U) λh' tk acc c d hk V Y D m=>?_;have i:(s1.heap.push ({cls:=.type "dict_items",data:=.fields #[.ref a]}:Obj)).objs.size=↥s1+1:=Heap.size_push _ _;have P:∀ b u,s1.heap.get? b=some u->h'.get? b=some u:=λb u e=>hk b u<|L7 _ e;have nd:d.Nodup:=D.rise.imp λh=>N5 h;have t:d.length=g.length:=by rw[Y,M.length]
 have k:∀ b∈d,↥s1<=b:=λb f=>by have q:(s1.heap.push ({cls:=.type "dict_items",data:=.fields #[.ref a]}:Obj)).objs.size<b:=D.above b f;rw[i] at q;lia
 have E:∀ b∈d,b≠(s1.heap.push ({cls:=.type "dict_items",data:=.fields #[.ref a]}:Obj)).objs.size:=λb f=>Nat.ne_of_gt<|D.above b f;refine⟨.ref _,yk H1 d g (s1.heap.push ({cls:=.type "dict_items",data:=.fields #[.ref a]}:Obj)).objs.size,l.layAll P (λb f=>?_)<|λb u f e=>?_,rfl,T _ d (l.hok.fresh<|by rw[i];lia) t (List.nodup_cons.mpr ⟨λz=>E _ z rfl,nd⟩) λb f=>l.hok.fresh<|k b f⟩
 ·unfold yk;rw[if_neg<|λz=>f<|by rw[z];exact l.hok.fresh<|by rw[i];lia,kZ λz=>f<|l.hok.fresh<|k b z]
 ·unfold yk at e;by_cases A:b=(s1.heap.push ({cls:=.type "dict_items",data:=.fields #[.ref a]}:Obj)).objs.size
  ·rw[if_pos A] at e;cases e;subst A;refine⟨by rw[i];lia,by rw[L0,t];exact U,d.map Value.ref,c,?_,?_⟩
   ·clear V m D Y nd t k E T
    induction d with
    | nil=>exact .nil
    | cons x d ih=>exact .cons rfl ih
   ·rw[V,<- m]
  ·rw[if_neg A] at e;by_cases B:b∈d
   ·obtain⟨j,Z⟩:=List.mem_iff_getElem?.mp B;obtain⟨R,kk,x,e1,e2,e3⟩:=D.pairs j b Z;obtain⟨y,ey,K⟩:=jkW M e1;rw[KP nd Z ey] at e;cases e;exact⟨k b B,show 2<=sizeLine by decide,[R,x],.cons (jlW e2)<|.cons K .nil,⟨_,e3,rfl,0,rfl⟩,_,e3,rfl⟩
   ·rw[kZ B] at e;exact absurd e (by rw[f];exact λz=>nomatch z)
structure KD(P:Program)(w:World)(K:W5)(a:Addr)(kvs:List<|Key×V):Prop where
 nm:(a==sysModules)=false
 dd:∀ h:Heap,K.In h->∃ vs,KV kvs vs/\h.DictOf (jP P w) a vs
section
variable {prog:Program}{w:World}{A:Around}{E:W0}{s:Shared}
def jeq{j t:Addr}{n:Nat}{a:Array Value}{y:Value}{C:W0}(d:s.heap.IsTupleIter j t n)(e:s.heap.IsTuple t a)(f:a[n]?=some y)
  (go:∀ k,k.IsTupleIter j t (n+1)->Heap.SameBut j s.heap k->C y {s with heap:=k}):wpAny (model prog w) A (Builtin.SmallTypes.nextOf<|.ref j) C E s:=by
 obtain⟨i,c,g,b⟩:=id d;obtain⟨ot,gt,_,mt,h⟩:=e;delta Builtin.SmallTypes.nextOf;refine L1<|wpAny_callSpecial?_slot (name:=Str.ofString "__next__") d.typeIs F.slot_tuple_iterator_next<|wpAny_call_entry F.slot_tuple_iterator_next d.typeIs F.entry_tuple_iterator_next ?_<|F.args_tuple_iterator_next_1 _;show wpAny _ _ (field (.ref j) 0 >>= _) _ _ s;refine L1<|U5 c b (x:=.ref t) rfl ?_;show wpAny (model prog w) _ (if(Value.ref t==Value.none)=true then _ else _) _ _ s;rw[if_neg<|by exact M3];show wpAny _ _ (field (.ref j) 1 >>= _) _ _ s;refine L1<|U5 c b (x:=.int n 0) rfl ?_;show wpAny (model prog w) _ (seqItems? (.ref t) >>= _) _ _ s;refine L1<|wpAny_seqItems gt h ?_;simp only[N7,f];refine L1<|wpAny_setField c b (by simp)<|M6 ⟨y,rfl,M6<|go _ ⟨_,Heap.get?_update_self _ c<|Obj.isFreed_of_fields<|Obj.data_mapFields b _,(Obj.cls_mapFields ..).trans g,?_⟩<|Heap.SameBut.update ..⟩;rw[Obj.data_mapFields b];simp[rawInt]
variable {z TI TO j1 j2 l t:Addr}{m:Nat}{us vs:Array Value}{u v a b:Value}
end
def jmi(l:Addr)(items:Array Value)(n:Nat)(b:Addr)(a:Array Value)(e:Nat)(dd:Option Addr)(sl:Array<|Option Value)(g:¬(!items.isEmpty&&Builtin.List.listTooLong (items.size+a.size))=true)(h1:items.size<=sizeLine)(h2:items.size+a.size<=sizeLine+1):
  Meets (Builtin.«list.extend» ⟨[.ref l,.ref b],[]⟩) (λ_ R s=>s.heap.get? l=some {cls:=.type "list",dict:=none,data:=.seq items n,slots:=#[]}/\s.heap.get? b=some {cls:=.type "list",dict:=dd,data:=.seq a e,slots:=sl}/\R (.ok<|.ret Value.none) {s with heap:=s.heap.update l (Obj.mapSeq λx=>x++a)}) :=
 .of_wp λprog w A R s h=>by
  rcases s with⟨i,j,k,m,os⟩;obtain⟨c,f,q⟩:=h;have o:=AutoSeq1.idx_int;have p:=AutoSeq1.sub_tuple_tuple;have r:=AutoSeq1.sub_list_list;have t:=AutoSeq1.sub_tuple_list;have u:=AutoSeq1.sub_list_tuple;have d:(items++a).size<=sizeLine+1:=by rw[Array.size_append];exact h2
  wp_walk using(wpAny_updateSeq c rfl (hz:=h1) (_hz':=d)),wpAny_loadPart' c,wpAny_loadPart' f
  exact⟨_,rfl,q⟩
def jnj(l:Addr)(items:Array Value)(n:Nat)(b:Addr)(a:Array Value)(e:Nat)(dd:Option Addr)(sl:Array<|Option Value)(g:¬(!items.isEmpty&&Builtin.List.listTooLong (items.size+a.size))=true)(h1:items.size<=sizeLine)(h2:items.size+a.size<=sizeLine+1):
  Meets (Builtin.«list.extend» ⟨[.ref l,.ref b],[]⟩) (λ_ R s=>s.heap.get? l=some {cls:=.type "list",dict:=none,data:=.seq items n,slots:=#[]}/\s.heap.get? b=some {cls:=.type "tuple",dict:=dd,data:=.seq a e,slots:=sl}/\R (.ok<|.ret Value.none) {s with heap:=s.heap.update l (Obj.mapSeq λx=>x++a)}) :=
 .of_wp λprog w A R s h=>by
  rcases s with⟨i,j,k,m,os⟩;obtain⟨c,f,q⟩:=h;have o:=AutoSeq1.idx_int;have p:=AutoSeq1.sub_tuple_tuple;have r:=AutoSeq1.sub_list_list;have t:=AutoSeq1.sub_tuple_list;have u:=AutoSeq1.sub_list_tuple;have d:(items++a).size<=sizeLine+1:=by rw[Array.size_append];exact h2
  wp_walk using(wpAny_updateSeq c rfl (hz:=h1) (_hz':=d)),wpAny_loadPart' c,wpAny_loadPart' f
  exact⟨_,rfl,q⟩
def jhb(K:W5):V->List V->Hp->VK->Prop:=λx vs H Q=>∃ l b xs zs,x=.ref l/\vs=[.ref b]/\H l=some (.lst xs)/\(SqL K H b zs\/SqT K H b zs)/\xs.length+zs.length<=sizeLine/\Q .non (upd H l<|.lst<|xs++zs)
def jig:MtM X "list.extend" (jhb X.K):=by
 intro w s σ H x D v E Q I A B h;obtain⟨l,b,G,J,rfl,rfl,o,g,y,q⟩:=h;cases A;obtain⟨u,rfl,C⟩:=B.one;cases C;obtain⟨z,c,n,r,L,e⟩:=I.lstM o;rcases g with g | g
 ·obtain⟨a,i,p2,_⟩:=I.list g;obtain⟨⟨cls,dd,data,k⟩,m,e2,j,hd,p⟩:=p2;simp only at j hd p
  first | subst j | skip
  have f:c.toArray.size+a.toArray.size<=sizeLine:=by rw[N2,N2,<- r.length,<- i.length];exact y
  have d:¬ (!c.toArray.isEmpty&&Builtin.List.listTooLong (c.toArray.size+a.toArray.size))=true:=by
   rw[wV f,Bool.and_false];exact M3
  have t:s.heap.get? b=some {cls:=.type "list",dict:=dd,data:=.seq a.toArray m,slots:=k}:=by
   rw[e2];simp_all
  refine call_meets PySem.F.slot_list_extend ⟨_,e,rfl⟩ PySem.F.entry_list_extend (PySem.F.args_list_extend_2 _ _) (jmi l c.toArray n b a.toArray m dd k d ∅ ∅) ⟨e,t,?_⟩;refine⟨.non,_,I.lset (its':=c++a) o e (by simp) (r.append i) ?_,rfl,q⟩;rw[N3]
  lia
 ·obtain⟨a,i,p2,_⟩:=I.tuple g;obtain⟨⟨cls,dd,data,k⟩,e2,j,m,hd⟩:=p2;simp only at j hd;subst j hd;have f:c.toArray.size+a.toArray.size<=sizeLine:=by rw[N2,N2,<- r.length,<- i.length];exact y
  have d:¬ (!c.toArray.isEmpty&&Builtin.List.listTooLong (c.toArray.size+a.toArray.size))=true:=by
   rw[wV f,Bool.and_false];exact M3
  refine call_meets PySem.F.slot_list_extend ⟨_,e,rfl⟩ PySem.F.entry_list_extend (PySem.F.args_list_extend_2 _ _) (jnj l c.toArray n b a.toArray m dd k d ∅ ∅) ⟨e,e2,?_⟩;refine⟨.non,_,I.lset (its':=c++a) o e (by simp) (r.append i) ?_,rfl,q⟩;rw[N3]
  lia
section
def jj4(ft:TypeCalled T nw it)
  (c1:checkTypeCall T ⟨xs,kw⟩=pure ()) (d:checkBuiltinCall nw ⟨.type T::xs,kw⟩=pure ()) (f:entryFor table nw=some Bn) (i:entryFor table it=some Bi)
  (g:Meets (Bn ⟨.type T::xs,kw⟩) Sn) (h:Sn A.in1 (wants Q1 E) s)
  (nx:∀ obj s1,Q1 obj s1->s1.TypeIs obj T/\argsOk it ⟨obj::xs,kw⟩/\∃ Si,MeetsIn prog w (Bi ⟨obj::xs,kw⟩) Si/\Si A.in1 (wants (λr s2=>r=.none/\Q obj s2) E) s1):
  wpAny (model prog w) A (call (.type T) xs kw) Q E s:=by
 obtain⟨c,q,t⟩:=ft.mro;have u:=ft.made;have v:=ft.sub;refine wpAny_call<|codeAny_of_tree ?_;show wpAny _ _ (callAny (.type T) _) _ _ _;refine M6 ⟨Code.quiet_builtin _<|by decide +kernel,codeAny_builtin F.entry_type_call ?_⟩;rw[Around.under_plain (weight_type_call_type T xs kw)<|units_type_call_type T xs kw];have x:=ft.notType;have y:=ft.canCreate
 repeat (any_goals (first | assumption | wp_step))
 refine codeAny_mono (codeAny_call_builtin ft.plain f<|wpAny_of_eq d<|g prog w A.in1 _ s h) λr s1 b=>?_;cases r with
 | error e=>exact b
 | ok j=>
  cases j with
  | ret obj=>
   obtain⟨k,l,Si,m,n⟩:=nx _ _ b;have z:=ft.init.lookup;have B:=ft.init.bind obj
   repeat (any_goals (first | assumption | wp_step))
   refine codeAny_mono (codeAny_call_builtin ft.init.plain i<|ft.init.check _ _ _ _ _ _ _ _ k l<|m A.in1 _ s1 n) λo s2 a=>?_;cases o with
   | error e=>exact a
   | ok p=>
    cases p with
    | ret r=>
     obtain⟨rfl,C⟩:=a
     repeat (any_goals (first | assumption | wp_step))
    | _=>exact a.elim
  | _=>exact b.elim
def jkL(c:typeLookup (.type T) "__init__" = pure (some<|.builtin "object.__init__"))
  (d:Bind.madeBy (.type T)=pure (some nw)) (e:(some nw != some "object.__new__")=true):
  Meets (Builtin.«object.__init__» ⟨self::x::xs,kw⟩) (λ_ R s=>s.TypeIs self T/\R (.ok<|.ret .none) s):=by
 refine Meets.of_wp λprog w A R s a=>?_;obtain⟨f,b⟩:=a
 repeat (any_goals (first | assumption | wp_step))
 exact⟨_,rfl,b⟩
def jl1(a b:Value):checkTypeCall "enumerate" ⟨[a],[("start",b)]⟩=pure ():=by kernel_rfl
def jmk(a b:Value):checkBuiltinCall "enumerate.__new__" ⟨[.type "enumerate",a],[("start",b)]⟩=pure ():=by kernel_rfl
def jmA(a b c:Value):argsOk "object.__init__" ⟨[a,b],[("start",c)]⟩:=by
 unfold argsOk;rw[signature?_of (id:="object.__init__") (n:=['_','_','t','i','n','i','_','_']) (o:=['t','c','e','j','b','o']) (by kernel_rfl) F.owner_object];kernel_rfl
open AutoSeq1 (wpAny_loadPart') in
def jgc(l:Addr)(us:Array Value)(m:Nat)(dc:Option Addr)(sl:Array<|Option Value)(n:Int)(t:Tok)(j:Builtin.SmallTypes.fitsIndex n=true):
  Meets (Builtin.«enumerate.__new__» ⟨[.type "enumerate",.ref l],[("start",.int n t)]⟩) (λ_ R s=>s.heap.get? l=some {cls:=.type "list",dict:=dc,data:=.seq us m,slots:=sl} /\
   R (.ok<|.ret<|.ref (s.heap.push {cls:=.type "list_iterator",data:=.fields #[.ref l,.int 0 0]}).objs.size)
    { s with heap:=(s.heap.push {cls:=.type "list_iterator",data:=.fields #[.ref l,.int 0 0]}).push {cls:=.type "enumerate",data:=.fields #[.none,.bool false,.ref ↥s,rawInt n,.none,.none]} }) :=
 .of_wp λprog w A R s h=>by
  obtain⟨f,g,d,i,os⟩:=s;obtain⟨a,h⟩:=h;have e:=sub_enumerate;have b:Heap.IsList (Shared.heap ⟨f,g,d,i,os⟩) l us:=⟨_,a,rfl,m,rfl⟩
  wp_walk using wpAny_loadPart' a
  refine wpAny_stack_any λk=>M6 ?_;split
  ·rename_i c _ _ _ _ _;cases(c==Value.type "enumerate")
   ·wp_walk using wpAny_loadPart' a,wpAny_pyIter_list b
    exact⟨_,rfl,h⟩
   ·wp_walk using wpAny_loadPart' a,wpAny_pyIter_list b
    exact⟨_,rfl,h⟩
  ·wp_walk using wpAny_loadPart' a,wpAny_pyIter_list b
   exact⟨_,rfl,h⟩
def jgI(f:s.heap.IsList l us)(g:Builtin.SmallTypes.fitsIndex n=true)
  (go:∀ k,IsEnum k (↥s+1) ↥s n .none->k.IsListIter ↥s l 0->(∀ b o,s.heap.get? b=some o->k.get? b=some o)->C (.ref<|↥s+1) {s with heap:=k}):
  wpAny (model prog w) A (call (.type "enumerate") [.ref l] [("start",.int n t)]) C E s:=by
 obtain⟨⟨c,h,i,j⟩,p,a,m,hd⟩:=f;replace a:c=.type "list":=a;replace hd:i=.seq us m:=hd;subst a hd;refine jj4 (Q1:=λobj s1=>s1.TypeIs obj "enumerate"/\C obj s1) F.called_enumerate (jl1 _ _) (jmk _ _) F.entry_enumerate_new F.entry_object_init (jgc l us m h j n t g) ⟨p,?_⟩
  λobj _ q=>⟨q.1,jmA _ _ _,_,(jkL F.called_enumerate.init.lookup F.called_enumerate.made<|by decide).inModel _ _,q.1,rfl,q.2⟩
 have d:(s.heap.push {cls:=.type "list_iterator",data:=.fields #[.ref l,.int 0 0]}).objs.size=↥s+1:=Heap.size_push ..;show _/\_;rw[d];have e:IsEnum ((s.heap.push {cls:=.type "list_iterator",data:=.fields #[.ref l,.int 0 0]}).push {cls:=.type "enumerate",data:=.fields #[.none,.bool false,.ref ↥s,rawInt n,.none,.none]}) (↥s+1) ↥s n .none:=by
  have q:=E1 (s.heap.push {cls:=.type "list_iterator",data:=.fields #[.ref l,.int 0 0]}) (o:={cls:=.type "enumerate",data:=.fields #[.none,.bool false,.ref ↥s,rawInt n,.none,.none]}) rfl;rw[d] at q;exact q
 exact⟨⟨_,e,rfl⟩,go _ e ⟨_,L7 _<|E1 _ rfl,rfl,rfl⟩ λb o x=>L7 _<|L7 _ x⟩
def jhQ{A:Around}{E:W0}{s:Shared}{i:Nat}{n:Int}{us:Array Value}{C:W0}
  (H:IsEnum s.heap e it n was) (hi:s.heap.IsListIter it l i) (Q:s.heap.IsList l us) (R:us[i]?=some x) (ne:e≠it)
  (go:∀ k,IsEnumOut k e it (n+1) x ↥s->k.IsListIter it l (i+1)->k.get? ↥s=some {cls:=.type "tuple",data:=.seq #[.int n s.toks,x]} ->
   (∀ b o,b≠e->b≠it->s.heap.get? b=some o->k.get? b=some o)->C (.ref ↥s) {s with heap:=k,toks:=s.toks+1}):
  wpAny (model prog w) A (Builtin.«enumerate.__next__» ⟨[.ref e],[]⟩) (λfin s'=>∃ v,fin=.done (.ret v)/\C v s') E s:=by
 obtain⟨c,g,d,a,os⟩:=s;show wpAny _ _ (field (.ref e) 2 >>= _) _ _ _;refine L1<|U5 H rfl (x:=.ref it) rfl<|L1<|wpAny_nextOf_list_item hi Q R λf P m=>?_;replace m:Heap.SameBut it c f:=m;have B:IsEnum f e it n was:=(m.2 e ne).trans H;show wpAny _ _ (field (.ref e) 3 >>= _) _ _ ⟨f,g,d,a,os⟩;refine L1<|U5 B rfl (x:=rawInt n) rfl ?_;show wpAny _ _ (field (.ref e) 4 >>= _) _ _ ⟨f,g,d,a,os⟩;refine L1<|U5 B rfl (x:=.none) rfl ?_;show wpAny _ _ (mkInt n >>= _) _ _ ⟨f,g,d,a,os⟩;refine L1<|wpAny_mkInt ?_;show wpAny _ _ (setField (.ref e) 3 (rawInt<|n+1) >>= _) _ _ ⟨f,g,d,a+1,os⟩;refine L1<|wpAny_setField_rec B (by simp) λt e2 p=>?_;replace p:Heap.SameBut e f t:=p;replace e2:IsEnum t e it (n+1) was:=e2;show wpAny _ _ (setField (.ref e) 4 .none >>= _) _ _ ⟨t,g,d,a+1,os⟩;refine L1<|wpAny_setField_rec e2 (by simp) λh e3 q=>?_;replace q:Heap.SameBut e t h:=q;replace e3:IsEnum h e it (n+1) was:=e3;show wpAny _ _ (newTuple [.int n a,x] >>= _) _ _ ⟨h,g,d,a+1,os⟩;refine L1<|wpAny_newTuple ?_;have D:IsEnum (h.push {cls:=.type "tuple",data:=.seq #[.int n a,x]}) e it (n+1) was:=L7 _ e3;generalize F:h.push {cls:=.type "tuple",data:=.seq #[.int n a,x]}=k4 at D;have I:h.objs.size=c.objs.size:=by rw[q.1,p.1,m.1]
 have lt:e<c.objs.size:=N0 H;have S:k4.get? c.objs.size=some {cls:=.type "tuple",data:=.seq #[.int n a,x]}:=by rw[<- F,<- I];exact E1 _ rfl
 have kp:∀ b o,b≠e->b≠it->c.get? b=some o->k4.get? b=some o:=λb o j J K=>by
  rw[<- F];exact L7 _<|q.extBut b o j<|p.extBut b o j<|m.extBut b o J K
 have T:k4.IsListIter it l (i+1):=by
  rw[<- F];obtain⟨o,U,r⟩:=(P.extBut p.extBut ne.symm).extBut q.extBut ne.symm;exact⟨o,L7 _ U,r⟩
 show wpAny _ _ (Builtin.SmallTypes.ownedTupleIsFree (.ref e) >>= _) _ _ ⟨k4,g,d,a+1,os⟩;rw[I];clear F e3 q e2 p B m P I h t f;refine L1 ?_;delta Builtin.SmallTypes.ownedTupleIsFree;refine L1<|U5 D rfl (x:=.none) rfl<|M6 ?_;simp only[if_true];refine L1<|wpAny_rule<|L1<|U5 D rfl (x:=was) rfl<|L1<|wpAny_setField_rec D (by simp) λG e5 u=>?_;replace u:Heap.SameBut e k4 G:=u;replace e5:IsEnum G e it (n+1) x:=e5;show wpAny _ _ (Builtin.SmallTypes.ownedTupleHandOut (.ref e) (.ref c.objs.size) >>= _) _ _ ⟨G,g,d,a+1,os⟩;refine L1 ?_;delta Builtin.SmallTypes.ownedTupleHandOut;refine L1<|wpAny_setField_rec e5 (by simp) λL M y=>?_;replace y:Heap.SameBut e G L:=y;replace M:IsEnumOut L e it (n+1) x c.objs.size:=M;refine wpAny_setField_rec M (by simp) λN O z=>?_;replace z:Heap.SameBut e L N:=z;replace O:IsEnumOut N e it (n+1) x c.objs.size:=O;refine L1<|wpAny_letGo<|M6 ⟨_,rfl,go N O ?_ ?_ ?_⟩
 ·exact((T.extBut u.extBut ne.symm).extBut y.extBut ne.symm).extBut z.extBut ne.symm
 ·exact z.extBut _ _ (Nat.ne_of_gt lt)<|y.extBut _ _ (Nat.ne_of_gt lt)<|u.extBut _ _ (Nat.ne_of_gt lt) S
 ·exact λb o j J K=>z.extBut b o j<|y.extBut b o j<|u.extBut b o j<|kp b o j J K
def jhy 
  (a:IsEnum s.heap e it n was) (hi:s.heap.IsListIter it l i) (c:s.heap.IsList l us) (d:us[i]?=some x) (ne:e≠it)
  (go:∀ k,IsEnumOut k e it (n+1) x ↥s->k.IsListIter it l (i+1)->k.get? ↥s=some {cls:=.type "tuple",data:=.seq #[.int n s.toks,x]} ->
   (∀ b o,b≠e->b≠it->s.heap.get? b=some o->k.get? b=some o)->C (some<|.ref ↥s) {s with heap:=k,toks:=s.toks+1}):wpAny (model prog w) A (pyNext<|.ref e) C E s:=by
 have ty:s.TypeIs (.ref e) "enumerate":=⟨_,a,rfl⟩;unfold pyNext;exact L1<|wpAny_attempt<|wpAny_callSpecial?_slot (name:=Str.ofString "__next__") ty F.slot_enumerate_next<|wpAny_call_entry F.slot_enumerate_next ty F.entry_enumerate_next (jhQ a hi c d ne λk c1 f g h=>M6<|go k c1 f g h)<|F.args_enumerate_next_1 _
def jh3(d:A.handled=none)
  (c:IsEnum s.heap e it n was) (hi:s.heap.IsListIter it l i) (f:s.heap.IsList l us) (a:us[i]?=none)
  (go:∀ k,Heap.ExtBut it s.heap k->C none {s with heap:=k}):wpAny (model prog w) A (pyNext<|.ref e) C E s:=by
 have ty:s.TypeIs (.ref e) "enumerate":=⟨_,c,rfl⟩;unfold pyNext;refine L1<|wpAny_attempt<|wpAny_callSpecial?_slot (name:=Str.ofString "__next__") ty F.slot_enumerate_next<|wpAny_call_entry F.slot_enumerate_next ty F.entry_enumerate_next ?_<|F.args_enumerate_next_1 _;show wpAny _ _ (field (.ref e) 2 >>= _) _ _ _;refine L1<|U5 c rfl (x:=.ref it) rfl<|L1<|wpAny_nextOf_list_end d hi f a λk x b a=>?_;obtain⟨o,g,h⟩:=a;exact L1<|wpAny_isInstance (T:="StopIteration") (b:=true) ⟨o,g,h⟩ isSubtype_stop<|M6<|go _ b
end
def Itn(K:W5)(l:Addr)(n:Int):It :=
 ⟨λi H=>∃ xs x,SqL K H l xs/\xs[i]?=some x,λi H x H'=>∃ p v,(∀ xs,SqL K H l xs->xs[i]?=some v)/\x=.ref p/\H p=none/\H'=upd H p (.tup [.int<|n+i,v]),λi H=>∃ xs,SqL K H l xs/\xs.length<=i⟩
def jgj{P:Program}{w:World}{K:W5}{y:List Expr}{m:Nat}{pos:Pos}(e a l:Addr)(n:Int)(A:e≠a)(hle:l≠e)(hli:l≠a):
  Turn P w K (.Tuple y m pos) (Itn K l n) [e,a] e (λi h=>(∃ old,IsEnum h e a (n+i) old)/\h.IsListIter a l i) where
 mem:=by simp
 obj:=λi h f b g=>by
  obtain⟨⟨old,j⟩,o,M,N,hd⟩:=f;rcases(⇑g:b=e\/b=a) with z | z
  ·subst z;exact⟨_,j,λv q=>by cases q⟩
  ·subst z;exact⟨o,M,λv q=>by rw[hd] at q;cases q⟩
 keep:=λi h h' f k=>by
  obtain⟨⟨old,j⟩,c⟩:=f;exact⟨⟨old,k e (by simp) _ j⟩,c.at λo q=>k a (by simp) o q⟩
 item:=by
  intro X O Q R N i B s σ H E I J f S;subst O Q R;obtain⟨xs,x,L,U⟩:=S;obtain⟨C,V,p,hz⟩:=I.list L;obtain⟨u,hu,ru⟩:=V.get U;obtain⟨⟨old,j⟩,c⟩:=f;refine jhy j c p.isList (x:=u) ⇑hu A λY M D hT hk=>?_;refine⟨_,rfl,wpAny_letOwnedTupleGo_enum (s:={s with heap:=Y,toks:=s.toks+1}) M λF Z d=>?_⟩;replace d:Heap.SameBut e Y F:=d;have r:e < ↥s:=N0 j;have G:F.get? ↥s=_:=(d.2 _<|Nat.ne_of_gt r).trans hT;have kk:∀ b o,b∉[e,a]->s.heap.get? b=some o->F.get? b=some o:=λb o g q=>by
   have t:b≠e/\b≠a:=by simpa using g
   exact(d.2 b t.1).trans (hk b o t.1 t.2 q)
  have I1:=I.turnedNew (h':=F) (t':=s.toks+1) (wr:=[e,a]) (T:=↥s) (xs:=[.int<|n+i,x]) (its:=#[.int (n+i) s.toks,u]) kk J (M8 _) ⟨⟨_,G,rfl,_,rfl⟩,_,G,rfl⟩ (.cons ⟨_,rfl⟩<|.cons ru .nil) (by show 2<=sizeLine;decide);have he3:IsEnum F e a (n+((i+1:Nat):Int)) u:=by
   have q:=Z;rw[show n+((i+1:Nat):Int)=n+i+1 by lia];exact q
  refine⟨.ref ↥s,_,I1,rfl,⟨_,x,(λys hy=>by rw[I.list_inj hy L];exact U),rfl,I.hok.fresh<|M8 _,rfl⟩,⟨⟨_,he3⟩,D.at λo q=>(d.2 a A.symm).trans q⟩,λb g=>?_⟩;rw[jh]
  ·exact(J b g).1
  ·intro z;have:b < ↥s:=by
    obtain⟨oi,hoi,_⟩:=id c;rcases(⇑g:b=e\/b=a) with q | q
    ·rw[q];exact r
    ·rw[q];exact N0 hoi
   exact absurd this (by rw[z];exact Nat.lt_irrefl _)
 done:=by
  intro X O Q R N i B s σ H E I J f S;subst O Q R;obtain⟨xs,L,U⟩:=S;obtain⟨C,V,p,hz⟩:=I.list L;obtain⟨⟨old,j⟩,c⟩:=f;have hl:=V.length;exact jh3 (I.ok.hd N) j c p.isList (by simp;lia) λY eb=>⟨rfl,I.turnedL (t':=s.toks) (wr:=[e,a]) (λb o g q=>eb b o (by simp at g;exact g.2) q) J⟩
 self:=λ_ _ _ _ _ f h=>wpAny_pyIter_enum f.1.choose_spec h
def jmb(K:W5)(tl:TA)(tb:TE):TI:=λσ H R=>tl σ H λvs H1=>tb σ H1 λv H2=>∃ a xs n,vs=[.ref a]/\v=.int n/\Builtin.SmallTypes.fitsIndex n=true/\SqL K H2 a xs/\R (Itn K a n) H2
def jmn{X:Cx}{f:List Expr}{m:Nat}{tpos p pos kpos:Pos}{a b:Expr}{ta:TA}{tb:TE}(L:Gl X "enumerate")(M:X.mg "enumerate" = none)(N:PA X [a] ta)(B:PE X b tb)(E:starEach [a] X.env=[(false,eval a X.env)]:=by rfl):
  PI X (.Tuple f m tpos) (.Call (.Name "enumerate" p) [a] [⟨some "start",b,kpos⟩] pos) (jmb X.K ta tb):=by
 intro c s σ H R I h;refine wpAny_Call_Name_kw<|JM I L M (show bootBuiltins "enumerate" = some (.type "enumerate") by decide +kernel) ?_;unfold callWith;have C:((backTo pos<|starEach [a] X.env).any (·.1)||(backToKw pos<|keywordEach [⟨some "start",b,kpos⟩] X.env).any (·.1.isNone))=false:=by rw[E];rfl
 rw[C];refine L1<|wpAny_holding ?_;have F:=N pos c s σ H _ I h;rw[E] at F ⊢;refine wpAny_mono (evalArgs_kw (Q:=λx s1=>wpAny (model X.prog X.w) X.A (call (.type "enumerate") x.pos x.kw) (λv s1=>wpAny (model X.prog X.w) X.A (pyIter v) (PIE X c σ (.Tuple f m tpos) R) X.xe s1) X.xe s1) rfl<|thn F λus s1 ⟨vs,O,P,S,T⟩=>?_) (λx s1 j=>L1<|wpAny_standAt ?_) λ_ _ x=>x
 ·refine wpAny_evalAll_cons ?_;show wpAny _ _ (eval b X.env >>= λv=>standAt pos >>= λ_=>pure v) _ _ _;refine L1<|thn (B c s1 σ O _ P T) λv d ⟨y,G,k,U,V⟩=>L1<|wpAny_standAt<|M6<|wpAny_evalAll_nil ?_;obtain⟨l,xs,n,rfl,rfl,W,Y,q⟩:=V;obtain⟨u,rfl,Z⟩:=S.one;cases Z;obtain⟨t,rfl⟩:=U;obtain⟨its,rv,pl,hz⟩:=k.list Y;have g:l < ↥d:=by
   obtain⟨o,_,e,_⟩:=pl;exact N0 e
  refine jgI pl.isList W λj J D hk=>?_;have I3:Inv X c σ G {d with heap:=j}:=k.kept (t':=d.toks) hk;refine PySem.wpAny_pyIter_enum (s:={d with heap:=j}) J ?_;refine⟨↥d+1,[↥d+1,↥d],_,_,G,rfl,I3,jgj _ _ l n (Nat.succ_ne_self _) (N5<|Nat.lt_succ_of_lt g)<|N5 g,⟨⟨_,by simpa using J⟩,D⟩,λb B=>?_,q⟩;have i:↥d<=b:=by
   rcases(⇑B:b=↥d+1\/b=↥d) with z | z
   ·rw[z];exact Nat.le_succ _
   ·rw[z];exact M8 _
  exact k.fpOk i<|k.hok.fresh i
 ·refine L1<|M6 ?_;exact L1<|wpAny_mono j (λr d hr=>L1<|wpAny_holding<|wpAny_point<|M6 hr) λ_ _ x=>x
section
variable {prog:Program}{w:World}{A:Around}{E:W0}{s:Shared}
def jgX{j t:Addr}{n:Nat}{b:Array Value}{C:W0}(g:A.handled=none)(c:s.heap.IsTupleIter j t n)(h:s.heap.IsTuple t b)(i:b[n]?=none)
  (go:∀ k e,Heap.ExtBut j s.heap k->(∃ o,k.get? e=some o/\o.cls=.type "StopIteration")->E (.ref e) {s with heap:=k}):wpAny (model prog w) A (Builtin.SmallTypes.nextOf<|.ref j) C E s:=by
 obtain⟨p,d,q,f⟩:=id c;obtain⟨ot,gt,_,mt,l⟩:=h;delta Builtin.SmallTypes.nextOf;refine L1<|wpAny_callSpecial?_slot (name:=Str.ofString "__next__") c.typeIs F.slot_tuple_iterator_next<|wpAny_call_entry F.slot_tuple_iterator_next c.typeIs F.entry_tuple_iterator_next ?_<|F.args_tuple_iterator_next_1 _;show wpAny _ _ (field (.ref j) 0 >>= _) _ _ s;refine L1<|U5 d f (x:=.ref t) rfl ?_;show wpAny (model prog w) _ (if(Value.ref t==Value.none)=true then _ else _) _ _ s;rw[if_neg<|by exact M3];show wpAny _ _ (field (.ref j) 1 >>= _) _ _ s;refine L1<|U5 d f (x:=.int n 0) rfl ?_;show wpAny (model prog w) _ (seqItems? (.ref t) >>= _) _ _ s;refine L1<|wpAny_seqItems gt l ?_;simp only[N7,i];refine L1<|wpAny_rule<|L1<|wpAny_setField d f (by simp) ?_;show wpAny _ _ (newExc (.type "StopIteration") [] >>= _) _ _ _;refine L1 ?_;simp only[newExc,newTuple];refine L1<|wpAny_newObj_type ?_ (by size_fits);refine L1 (m:=firstArgMember _ _)<|wpAny_of_eq (a:=Value.none) (by first | rfl | (simp only[firstArgMember];rfl)) ?_;refine wpAny_newObj_type ?_ (by size_fits);simp only[raiseNew];refine L1<|wpAny_handled ?_
 first | rw[show A.in1.handled=none from g] | rw[g]
 refine L1<|M6<|wpAny_throw ?_;exact go _ _ (((Heap.SameBut.update ..).extBut.push _).push _) ⟨_,E1 _ rfl,rfl⟩
variable {z TI TO j1 j2 l t:Addr}{m:Nat}{us vs:Array Value}{u v a b:Value}
end
end L2
namespace PySem
open Sem (wp)
namespace F
end F
end PySem
namespace L2
open PySem PySem.Spec PyProof.Rows
end L2
namespace PySem
open Sem (wp)
section
variable {prog:Program}{w:World}{K:Type} [DecidableEq K] {knd:KeyKind prog w K}{A:Around}{E:W0}{s:Shared}
def Ja(x:IsTupleKey knd h k a)(c:∀ o,h.get? a=some o->h'.get? a=some o):IsTupleKey knd h' k a:=by
 obtain⟨o,b,n,d,e,f,g⟩:=x;exact⟨o,b,n,c o d,e,f,g⟩
def Vd{h h':Heap}{xs:List (List K×Addr×Value)}(d:h.DictOfH (tupleKind knd) D xs)(b:∀ o,h.get? D=some o->h'.get? D=some o)(c:∀ x∈xs,∀ o,h.get? x.2.1=some o->h'.get? x.2.1=some o):h'.DictOfH (tupleKind knd) D xs:=by
 obtain⟨o,e,f,g,i,j,k,l,m⟩:=d;exact⟨o,e,f,b o g,i,j,k,λx a=>Ja (l x a)<|c x a,m⟩
def xT(knd:KeyKind prog w K)(h:Heap)(v:Value)(kv:List K×Addr×Value):Prop:=∃ p m o,v=.ref p/\h.get? p=some o/\o.cls=.type "tuple"/\o.data=.seq #[.ref kv.2.1,kv.2.2] m/\IsTupleKey knd h kv.1 kv.2.1
def xq{xs:List (List K×Addr×Value)}{k:List K}{x:List K×Addr×Value}(h:x∈storedH xs k a v):x.2.1=a \/ ∃ y∈xs,x.2.1=y.2.1:=by
 unfold storedH at h;split at h
 ·obtain⟨y,b,rfl⟩:=M5.mp h;refine .inr ⟨y,b,?_⟩;unfold putAt;split<;>rfl
 ·rcases N1.mp h with h | h
  ·exact .inr ⟨x,h,rfl⟩
  ·rw[M7.mp h];exact .inl rfl
def xR(xs:List<|List K×Addr×Value)(k:List K)(a:Addr)(v:Value):(storedH xs k a v).length<=xs.length+1:=by
 unfold storedH;split<;>simp
def jaq{R:Result->Shared->Prop}(hh:A.handled=none)(hu:A.units+1<cLine)  (B:ax≠I) (q:D≠I) (Y:D≠ax) {items:Array Value}{ps:List (List K×Addr×Value)}(C:items.size=ps.length):∀(k i:Nat) (s:Shared) (xs:List<|List K×Addr×Value),
  items.size-i=k->i<=items.size->(s.heap.IsListIter I ax i/\s.heap.IsList ax items)->s.heap.DictOfH (tupleKind knd) D xs->(∀ x∈xs,x.2.1≠I) ->
  (∀(j:Nat) (v:Value),items[j]?=some v->∃ kv,ps[j]?=some kv/\xT knd s.heap v kv/\v≠.ref I/\v≠.ref D/\kv.2.1≠I/\kv.2.1≠D)->xs.length+k<=100000 ->
  (∀ h' tk,h'.DictOfH (tupleKind knd) D ((ps.drop i).foldl (λa kv=>storedH a kv.1 kv.2.1 kv.2.2) xs)->(∀ b o,b≠I->b≠D->s.heap.get? b=some o->h'.get? b=some o)->R (.ok<|.ret .none) {s with heap:=h',toks:=tk}) ->
  codeAny (model prog w) A (.builtin "dict.update.loop" ⟨[.ref D,.ref I,rawInt i,.none],[]⟩) R s:=by
 intro k
 induction k with
 | zero=>
  intro i s xs hk hi r hd d Z hz hR;have hin:i=items.size:=by lia
  subst hin;have W:=Walks.list (prog:=prog) (w:=w) (A:=A.in1) (by exact hh) I ax B items;refine codeAny_builtin F.entry_dict_loop ?_;rw[Around.under_plainId F.plain_dict_loop _];show wpAny _ A.in1 (pyNext (.ref I) >>= _) _ _ s;refine L1<|W.done s _ _ r λh' tk c=>?_;have fin:=hR h' tk (by rw[C,List.drop_length];exact Vd hd (λo e=>c D o ⇑q e)<|λx E o e=>c _ o ⇑(d x E) e)<|λb o f _ e=>c b o ⇑f e;unfold Builtin.Dict.addKeywords
  repeat (any_goals (first | assumption | wp_step))
 | succ k ih=>
  intro i s xs hk hi r hd d Z hz hR;have G:i<items.size:=by lia
  have W:=Walks.list (prog:=prog) (w:=w) (A:=A.in1) (by exact hh) I ax B items;refine codeAny_builtin F.entry_dict_loop ?_;rw[Around.under_plainId F.plain_dict_loop _];show wpAny _ A.in1 (pyNext (.ref I) >>= _) _ _ s;refine L1<|W.item i s _ _ G r λv h' tk hP H c=>?_;obtain⟨kv,J,⟨p,m,po,rfl,hpo,hpc,hpd,L⟩,hvI,hvD,M,haD⟩:=Z i v hP;have N:h'.get? p=some po:=c p _ ⇑(λz=>hvI<|by rw[z]) hpo;have t:IsTupleKey knd h' kv.1 kv.2.1:=Ja L λo e=>c _ o ⇑M e;have hd':h'.DictOfH (tupleKind knd) D xs:=Vd hd (λo e=>c D o ⇑q e)<|λx E o e=>c _ o ⇑(d x E) e;refine L1<|wpAny_holding ?_;refine L1<|wpAny_tryCatch<|Kr N hpc hpd ?_;show wpAny _ _ (holding [.ref kv.2.1,kv.2.2]<|dictSet D (.ref kv.2.1) kv.2.2) _ _ _;have hsz:sizeLine=16777216:=by decide
  refine wpAny_holding<|wpAny_dictSet_heap (hsz:=by lia) (knd:=tupleKind knd) (tupleKind_room_in1 hu) t hd' λh'' O X=>?_;refine M6 ⟨plainId_quiet F.plain_dict_loop _,?_⟩;have hd2:ps.drop i=kv::ps.drop (i+1):=by
   have P:i<ps.length:=by lia
   rw[List.drop_eq_getElem_cons P];have:ps[i]=kv:=by
    rw[X8 P] at J;exact X7 J
   rw[this]
  refine ih (i+1) _ (storedH xs kv.1 kv.2.1 kv.2.2) ∅ G (W.frame (i+1) h' h'' H λb f o e=>(X.2 b ?_).trans e) O (λx E=>?_) (λj v hv=>?_) ?_ λh3 tk3 hd3 hk3=>?_
  ·rcases M4.mp f with rfl | f
   ·exact λz=>q z.symm
   ·rw[M7.mp f];exact λz=>Y z.symm
  ·rcases xq E with e | ⟨y,hy,e⟩
   ·rw[e];exact M
   ·rw[e];exact d y hy
  ·obtain⟨kv',Q,⟨p',m',po',rfl,S,T,U,u⟩,g,h,l,n⟩:=Z j v hv;refine⟨kv',Q,⟨p',m',po',rfl,?_,T,U,Ja u λo e=>?_⟩,g,h,l,n⟩
   ·exact(X.2 p' λz=>h<|by rw[z]).trans (c p' _ ⇑(λz=>g<|by rw[z]) S)
   ·exact(X.2 _ n).trans (c _ o ⇑l e)
  ·have:=xR xs kv.1 kv.2.1 kv.2.2
   lia
  ·refine hR h3 tk3 ?_ λb o f V e=>hk3 b o f V<|(X.2 b V).trans (c b o ⇑f e);rw[hd2,U9];exact hd3
def Vm{its:Array Value}{n:Nat}{sl:Array (Option Value)}{ps:List (List K×Addr×Value)}{Q:W0}(P:A.handled=none)(Z:A.units+10<cLine)(g:s.heap.get? p=some {cls:=.type "list",data:=.seq its n,slots:=sl})(r:its.size=ps.length)
  (U:∀(j:Nat) (v:Value),its[j]?=some v->∃ kv,ps[j]?=some kv/\xT knd s.heap v kv) (hz:ps.length<=100000)
  (h:∀ h' tk,h'.DictOfH (tupleKind knd) ↥s (ps.foldl (λa kv=>storedH a kv.1 kv.2.1 kv.2.2) [])->(∀ b o,s.heap.get? b=some o->h'.get? b=some o)->Q (.ref ↥s) {s with heap:=h',toks:=tk}):
  wpAny (model prog w) A (call (.type "dict") [.ref p]) Q E s:=by
 refine callType_codes (Q₁:=λobj R=>obj=.ref ↥s/\R={ s with heap:=s.heap.push {cls:=.type "dict",data:=.dict #[]} }) F.kt_called_dict (F.kt_typeCall_dict_1 _) F.entry_dict_init (kt_code_dict_new _ ⟨rfl,rfl⟩) ?_;rintro obj R ⟨rfl,rfl⟩;have d:(s.heap.push {cls:=.type "dict",data:=.dict #[]}).DictOfH (tupleKind knd) ↥s []:=Heap.DictOfH.new s.heap;refine⟨d.typeIs,F.args_dict_init_2 _ _,?_⟩;have i:(s.heap.push {cls:=.type "dict",data:=.dict #[]}).get? p=some {cls:=.type "list",data:=.seq its n,slots:=sl}:=L7 _ g;have y:s.heap.get? ↥s=none:=Heap.get?_none_of_le<|M8 _;unfold Builtin.«dict.__init__»;refine L1 ?_;unfold Builtin.Dict.selfAndRest;refine L1<|wpAny_notOrdered_dict d.typeIs ?_;show wpAny _ _ (pure (↥s,[Value.ref p])) _ _ _;refine M6 ?_;show wpAny _ _ (Builtin.Dict.updateFrom "dict.__init__" ↥s (.ref p) [] .none) _ _ _;unfold Builtin.Dict.updateFrom;refine L1<|wpAny_typeOf (T:="list") ⟨_,i,rfl⟩ ?_;rw[if_pos<|by decide];refine L1 ?_;refine z6 (its:=its) (n:=n) ?_ i λt t2 c=>?_
 ·exact P
 ·rw[if_pos<|show(Option.isNone (none:Option Value))=true from rfl];refine L1<|wpAny_rule ?_;have k:=c p _ i;have B:t.IsList p its:=⟨_,k,rfl,n,rfl⟩;refine L1<|wpAny_pyIter_list B ?_;have C:=c ↥s _ (E1 _ rfl);have D:p≠t.objs.size:=N5<|N0 k;have G:↥s≠t.objs.size:=N5<|N0 C;have H:↥s≠p:=λz=>by rw[<- z,y] at g;cases g
  refine M6 ⟨plainId_quiet F.plain_dict_loop _,?_⟩;refine jaq (A:=A.in1) (knd:=knd) (show A.in1.handled=none from P) (show A.units+1+1<cLine by lia) D G H r its.size 0 _ [] ∅ (U4 _) ⟨⟨_,E1 _ rfl,rfl,rfl⟩,?_⟩ ?_ (λx g=>(nomatch g)) (λV v W=>?_) (by simp;lia) λX I J L=>?_
  ·exact⟨_,L7 _ k,rfl,n,rfl⟩
  ·exact Vd d (λo e=>L7 _<|c _ o e)<|λx g=>(nomatch g)
  ·obtain⟨kv,M,u,m,po,rfl,l,N,O,f⟩:=U V v W;have e2:=c u _<|L7 _ l;obtain⟨ko,S,kn,q,_⟩:=id f;have Y:=c _ _<|L7 _ q;refine⟨kv,M,⟨u,m,po,rfl,L7 _ e2,N,O,Ja f λo e=>L7 _<|c _ _<|L7 _ e⟩,λz=>?_,λz=>?_,N5<|N0 Y,λz=>?_⟩
   ·have z:u=t.objs.size:=by injection z
    exact absurd z<|N5<|N0 e2
   ·have z:u=↥s:=by injection z
    rw[z,y] at l;cases l
   ·rw[z,y] at q;cases q
  ·refine⟨rfl,h X I J λb o e=>?_⟩;have e2:=c b o<|L7 _ e;exact L b o (N5<|N0 e2) (N5<|N0 e)<|L7 _ e2
end
end PySem
namespace L2
open PySem PySem.Spec PyProof.Rows
theorem zD(I:Inv X pins σ H s):∀{ys:List V}{its:List Value}{ps:List (List Key×Addr×V)},Vals ys its->ys.length=ps.length ->
  (∀(j:Nat) (y:V),ys[j]?=some y->∃ kv t,ps[j]?=some kv/\y=.ref t/\SqT X.K H t [.ref kv.2.1,kv.2.2]/\H kv.2.1=some (.tup<|kv.1.map kV)) ->
  ∃ qs:List (List Key×Addr×Value),Paired (λ(p:List Key×Addr×V) (q:List Key×Addr×Value)=>p.1=q.1/\p.2.1=q.2.1/\RelV p.2.2 q.2.2) ps qs/\∀(j:Nat) (v:Value),its[j]?=some v->∃ kv,qs[j]?=some kv/\xT (jP X.prog X.w) s.heap v kv
 | [],its,ps,b,a,c=>by
  cases b;have:ps=[]:=List.length_eq_zero_iff.mp a.symm;subst this;exact⟨[],.nil,λj v e=>by simp at e⟩
 | y::ys,its,[],b,a,c=>by simp at a
 | y::ys,its,kv::ps,b,a,c=>by
  cases b with
  | cons i k=>
   rename_i u F;obtain⟨qs,r,q⟩:=zD I (ps:=ps) k ⇑a λj y e=>c (j+1) y ⇑e;obtain⟨l,t,m,rfl,d,x⟩:=c 0 y rfl;cases m;cases(show u=Value.ref t from i);obtain⟨g,z,⟨o,e,A,n,hd⟩,_⟩:=I.tuple d;cases z with
   | cons B C=>
    cases C with
    | cons D E=>
     cases E;rename_i f val;cases(show f=Value.ref kv.2.1 from B);refine⟨(kv.1,kv.2.1,val)::qs,.cons ⟨rfl,rfl,D⟩ r,λj v h=>?_⟩;cases j with
     | zero=>
      cases h;exact⟨_,rfl,t,n,o,rfl,e,A,hd,V8 I.hok x⟩
     | succ j=>exact q j v ⇑h
theorem jcd:∀{ps:List (List Key×Addr×V)}{qs:List (List Key×Addr×Value)}{a:List (List Key×V)}{b:List (List Key×Addr×Value)},Paired (λ(p:List Key×Addr×V) (q:List Key×Addr×Value)=>p.1=q.1/\p.2.1=q.2.1/\RelV p.2.2 q.2.2) ps qs->(∀ p∈ps,H p.2.1=some (.tup<|p.1.map kV))->KT H a b ->
  KT H (ps.foldl (λa kv=>vX a kv.1 kv.2.2) a) (qs.foldl (λa kv=>storedH a kv.1 kv.2.1 kv.2.2) b)
 | [],_,_,_,.nil,_,h=>h
 | p::ps,q::qs,a,b,.cons c e,d,h=>by
  rw[U9,U9];refine jcd e (λx f=>d x<|by simp[f]) ?_;have:=h.put p.1 (b:=p.2.1) (d p<|by simp) c.2.2;rw[c.1,c.2.1] at this;rw[c.1];exact this
def jd9{ps:List (List Key×Addr×V)}:∀{qs:List (List Key×V)},(ps.foldl (λa kv=>vX a kv.1 kv.2.2) qs).length<=qs.length+ps.length:=by
 induction ps with
 | nil=>intro qs;simp
 | cons p ps b=>
  intro qs;rw[U9];have c:=b (qs:=vX qs p.1 p.2.2);have d:(vX qs p.1 p.2.2).length<=qs.length+1:=by unfold vX;split<;>simp
  rw[M0]
  lia
def xF{X:Cx}(Z:X.calm=true)(hu:X.A.units+10<cLine):JJ X (.type "dict") (λxs H Q=>∃(p:Addr) (ys:List V) (ps:List<|List Key×Addr×V),xs=[.ref p]/\SqL X.K H p ys/\ys.length=ps.length/\ps.length<=100000 /\
  (∀(j:Nat) (y:V),ys[j]?=some y->∃ kv t,ps[j]?=some kv/\y=.ref t/\SqT X.K H t [.ref kv.2.1,kv.2.2]/\H kv.2.1=some (.tup<|kv.1.map kV))/\∀ D,H D=none->Q (.ref D) (upd H D<|.dT<|ps.foldl (λa kv=>vX a kv.1 kv.2.2) [])):=by
 intro R s σ H xs us Q I r h;obtain⟨p,ys,ps,rfl,hq,m,hz,S,q⟩:=h;obtain⟨u,rfl,ru⟩:=r.one;cases ru;obtain⟨B,T,⟨o,n,e,d,f,g⟩,_⟩:=I.list hq;obtain⟨oc,od,C,osl⟩:=o;dsimp only at d f g;subst d f g;obtain⟨U,rel,E⟩:=zD I T m S;have i:B.toArray.size=U.length:=by rw[N2,<- T.length,m,rel.length]
 have hk:∀ x∈ps,H x.2.1=some (.tup<|x.1.map kV):=λx hx=>by
  obtain⟨j,W⟩:=List.mem_iff_getElem?.mp hx;have F:j<ys.length:=by rw[m];exact(L8.mp W).1
  obtain⟨kv,t,Y,_,_,e2⟩:=S j ys[j] (X8 F);rw[W] at Y;cases Y;exact e2
 refine Vm (knd:=jP X.prog X.w) (I.ok.hd Z) hu e i (λj v hv=>E j v ⇑hv) (by rw[<- rel.length];exact hz) λh' tk hd b=>?_;have k:=jcd (H:=H) rel hk (.nil:KT H ([]:List<|List Key×V) []);have G:=jd9 (ps:=ps) (qs:=[]);have hsz:sizeLine=16777216:=by decide
 have l:=I.hok.fresh<|M8 ↥s;obtain⟨qo,es,ep,J,L,M,N,_,O⟩:=hd;refine⟨.ref ↥s,_,I.laid (a:=↥s) (o:=.dT<|ps.foldl (λa kv=>vX a kv.1 kv.2.2) []) (t':=tk) b (M8 _) ⟨by simp at G;lia,U1.mpr<|Ne.symm<|N5 I.big,_,k.keeps λc zs P=>?_,qo,es,ep,J,L,M,N,O⟩,rfl,q _ l⟩;rw[jh<|λz=>by rw[z,l] at P;cases P];exact P
end L2
namespace PySem
open PySem.W PyProof.Rows PySem.Calls
noncomputable def kEv{α:Type}(lt:Nat->Nat->Bool):KasT α->α
 | .ret a=>a
 | .ask i j k=>kEv lt<|k<|lt i j
def kOk{α:Type}(lt:Nat->Nat->Bool)(n:Nat):KasT α->Prop
 | .ret _=>True
 | .ask i j k=>i<n/\j<n/\kOk lt n (k<|lt i j)
theorem qQ:∀ t:KasT α,kEv lt (t.bind f)=kEv lt (f<|kEv lt t)
 | .ret a=>rfl
 | .ask i j k=>qQ<|k<|lt i j
theorem Je:∀ t:KasT α,kOk lt n t->kOk lt n (f<|kEv lt t)->kOk lt n (t.bind f)
 | .ret a,_,h=>h
 | .ask i j k,b,c=>⟨b.1,b.2.1,Je (k<|lt i j) b.2.2 c⟩
theorem jfr(c:∀ i j C,i<n->j<n->C (lt i j) s->cmp i j C s):∀ t:KasT α,kOk lt n t->Q (kEv lt t) s->t.kasWp cmp Q s
 | .ret a,_,h=>h
 | .ask i j k,b,h=>c i j _ b.1 b.2.1<|jfr c (k<|lt i j) b.2.2 h
def Pm(n:Nat)(p:Array Nat):Prop:=p.toList.Perm<|List.range n
def Pm.lt(h:Pm n p)(a:0<n)(i:Nat):p.getD i 0<n:=by
 by_cases hi:i<p.size
 ·have e:p.getD i 0=p[i]:=by simp[Array.getD,hi]
  rw[e];have b:p[i]∈p.toList:=by simp
  exact List.mem_range.mp<|h.mem_iff.mp b
 ·have e:p.getD i 0=0:=by simp[Array.getD,hi]
  rw[e];exact a
def Pm.swap(h:Pm n p)(i j:Nat):Pm n (p.swapIfInBounds i j):=by
 unfold Pm at *;refine List.Perm.trans ?_ h;rw[Array.swapIfInBounds_def];split
 ·split
  ·exact(Array.perm_iff_toList_perm.mp<|Array.swap_perm _ _)
  ·exact List.Perm.refl _
 ·exact List.Perm.refl _
theorem Pm.swaps(u v:Nat->Nat):∀(l:List Nat) {p:Array Nat},Pm n p->Pm n (l.foldl (λa k=>a.swapIfInBounds (u k)<|v k) p)
 | [],_,h=>h
 | k::l,p,h=>Pm.swaps u v l<|h.swap _ _
def Pm.rev(h:Pm n p)(i j:Nat):Pm n (kas_rev p i j):=Pm.swaps _ _ _ h
def Pm.bub(h:Pm n p)(k m:Nat):Pm n (bubble p k m):=Pm.swaps _ _ _ h
section
variable {lt:Nat->Nat->Bool}{n:Nat}
theorem jbE(a:0<n)  (h:Pm n p):∀ f m,kOk lt n<|kas_asc p f m
 | 0,_=>trivial
 | f+1,m=>by
  refine⟨h.lt a _,h.lt a _,?_⟩;dsimp only;split
  ·trivial
  ·exact jbE a h f<|m+1
theorem K1(d:0<n):∀(f:Nat) {p:Array Nat}(m q:Nat),Pm n p->kOk lt n (kas_desc f p m q)/\Pm n (kEv lt<|kas_desc f p m q).1
 | 0,_,_,_,h=>⟨trivial,h⟩
 | f+1,p,m,q,h=>by
  have a:=h.lt d;cases hc:lt (p.getD m 0) (p.getD (m-1) 0) with
  | true=>
   by_cases e:q>0
   ·have c:=K1 d f (p:=kas_rev p (m-(q+1)) m) (m+1) 0<|h.rev _ _;have b:0<q:=e;simp only[kas_desc,kOk,kEv,hc,if_true,gt_iff_lt,b,a,true_and];exact c
   ·have c:=K1 d f (p:=p) (m+1) 0 h;have b:¬ 0<q:=e;simp only[kas_desc,kOk,kEv,hc,if_true,gt_iff_lt,b,if_false,a,true_and];exact c
  | false=>
   cases hd:lt (p.getD (m-1) 0) (p.getD m 0) with
   | true=>
    simp only[kas_desc,kOk,kEv,hc,hd,if_true,Bool.false_eq_true,if_false,a,true_and];exact h
   | false=>
    have c:=K1 d f (p:=p) (m+1) (q+1) h;simp only[kas_desc,kOk,kEv,hc,hd,Bool.false_eq_true,if_false,a,true_and];exact c
def YT(a:0<n)  (h:Pm n p) (m k:Nat):kOk lt n (kas_tail3 m k p)/\Pm n (kEv lt<|kas_tail3 m k p).2:=by
 unfold kas_tail3;exact⟨Je _ (jbE a (h.rev _ _) _ _) trivial,by rw[qQ];exact h.rev _ _⟩
def kX(a:0<n)  (h:Pm n p) (m k:Nat):kOk lt n (kas_descPart m k p)/\Pm n (kEv lt<|kas_descPart m k p).2:=by
 unfold kas_descPart;have hd:=K1 (lt:=lt) a (k-(m+1)) (p:=p) (m+1) 0 h;refine⟨Je _ hd.1 ?_,?_⟩
 ·split
  ·exact(YT a (hd.2.rev _ _) _ _).1
  ·exact(YT a hd.2 _ _).1
 ·rw[qQ];split
  ·exact(YT a (hd.2.rev _ _) _ _).2
  ·exact(YT a hd.2 _ _).2
def jfk(a:0<n)  (h:Pm n p) (k:Nat):kOk lt n (kas_count k p)/\Pm n (kEv lt<|kas_count k p).2:=by
 unfold kas_count;have b:=jbE (lt:=lt) a h (k-1) 1;refine⟨Je _ b ?_,?_⟩
 ·generalize kEv lt (kas_asc p (k-1) 1)=m;split
  ·trivial
  ·split
   ·refine⟨h.lt a _,h.lt a _,?_⟩;dsimp only;split
    ·trivial
    ·exact(kX a (h.rev _ _) _ _).1
   ·exact(kX a h _ _).1
 ·rw[qQ];generalize kEv lt (kas_asc p (k-1) 1)=m;split
  ·exact h
  ·split
   ·dsimp only[kEv];split
    ·exact h
    ·exact(kX a (h.rev _ _) _ _).2
   ·exact(kX a h _ _).2
theorem Qw(a:0<n)  (h:Pm n p) (k:Nat):∀ f l r,kOk lt n<|kas_place p k f l r
 | 0,_,_=>trivial
 | f+1,l,r=>by
  unfold kas_place;split
  ·trivial
  ·refine⟨h.lt a _,h.lt a _,?_⟩;dsimp only;split
   ·exact Qw a h k f _ _
   ·exact Qw a h k f _ _
theorem jdq(a:0<n):∀(f:Nat) {p:Array Nat}(k:Nat),Pm n p->kOk lt n (kas_bin f p k)/\Pm n (kEv lt<|kas_bin f p k)
 | 0,_,_,h=>⟨trivial,h⟩
 | f+1,p,k,h=>by
  unfold kas_bin;have c:=Qw (lt:=lt) a h k k 0 k;have b:=jdq a f (p:=bubble p k<|k-kEv lt (kas_place p k k 0 k)) (k+1)<|h.bub _ _;exact⟨Je _ c b.1,by rw[qQ];exact b.2⟩
def wz(b:0<n):kOk lt n (kas_sort n)/\Pm n (kEv lt<|kas_sort n):=by
 unfold kas_sort;have c:Pm n (List.toArray<|List.range n):=List.Perm.refl _;have a:=jfk (lt:=lt) b c n;refine⟨Je _ a.1 ?_,?_⟩
 ·split
  ·exact(jdq b _ _ a.2).1
  ·trivial
 ·rw[qQ];split
  ·exact(jdq b _ _ a.2).2
  ·exact a.2
end
end PySem
set_option maxHeartbeats 4000000
namespace PySem
open PySem.W PyProof.Rows PySem.Calls
def VZ{α:Type}(lt:Nat->Nat->Bool)(vs:List α)(d:α):List α:=if vs.length<2 then vs else(kEv lt<|kas_sort vs.length).toList.map λi=>vs.getD i d
def w8(lt:Nat->Nat->Bool)(vs:List α)(d:α):(VZ lt vs d).length=vs.length:=by
 unfold VZ;split
 ·rfl
 ·rename_i h;rw[L0];have:=((wz (lt:=lt) (n:=vs.length) ∅).2).length_eq;rw[this,List.length_range]
def QF(m:s.heap.get? a=some (seqObj "list" vs.toArray n))(r:vs.length<64)
  (I:2<=vs.length->∀ s':Shared,(∀ b o,b≠a->s.heap.get? b=some o->s'.heap.get? b=some o)->∀{Q:SortKind->Shared->Prop},Q κ s'->wpAny (model prog w) A (keyKind' vs.toArray) Q (λ_ _=>False) s')
  (t:∀ s':Shared,(∀ b o,b≠a->s.heap.get? b=some o->s'.heap.get? b=some o)->∀ i j,i<vs.length->j<vs.length->∀{C:Bool->Shared->Prop},C (lt i j) s'->wpAny (model prog w) A (keyLt' κ (vs.getD i Value.none)<|vs.getD j Value.none) C (λ_ _=>False) s')
  (h:P (.done<|.ret .none) {s with heap:=sortedHeap s.heap a vs (VZ lt vs Value.none).toArray}):
  wpAny (model prog w) A (Builtin.«list.sort» ⟨[.ref a],[]⟩) P E s:=by
 rw[list_sort_plain];have F:a < ↥s:=N0 m;refine L1<|listItems_at m rfl ?_;refine L1<|listUpdate_at m rfl ?_;obtain⟨u,g⟩:∃ u,(s.heap.update a<|Obj.mapSeq λ_=>#[]).get? a=some (seqObj "list" #[] u):=⟨_,get?_update_seq m<|λ_=>#[]⟩;refine L1<|seqEpoch_at g rfl ?_;refine L1<|wpAny_newTuple ?_;refine L1<|wpAny_newList ?_;refine wpAny_holding ?_;have d:(((s.heap.update a<|Obj.mapSeq λ_=>#[]).push (seqObj "tuple" vs.toArray 0)).push (seqObj "list" #[] 0)).get? a=some (seqObj "list" #[] u):=by
  rw[Heap.get?_push_ne _ _ _<|by rw[size_push',Heap.size_update];exact N5<|Nat.lt_succ_of_lt F,Heap.get?_push_ne _ _ _<|by rw[Heap.size_update];exact N5 F];exact g
 have keep:∀ b o,b≠a->s.heap.get? b=some o->(((s.heap.update a<|Obj.mapSeq λ_=>#[]).push (seqObj "tuple" vs.toArray 0)).push (seqObj "list" #[] 0)).get? b=some o:=λb o J e=>
  L7 _ (L7 _<|by rw[Heap.get?_update_ne _ _ _ _ J];exact e)
 show wpAny (model prog w) A _ P E {s with heap:=((s.heap.update a<|Obj.mapSeq λ_=>#[]).push (seqObj "tuple" vs.toArray 0)).push (seqObj "list" #[] 0)};dsimp only;have v:vs.toArray.size=vs.length:=by simp
 by_cases q:vs.toArray.size<2
 ·have c:VZ lt vs Value.none=vs:=by unfold VZ;rw[if_pos ∅]
  rw[c] at h;rw[if_pos q,if_pos q];refine L1<|M6 ?_;rw[StateT.run_pure];refine L1<|M6 ?_;dsimp only;have K:(arrOf<|SortSt.mk' general' (vs.toArray.zip vs.toArray) #[] 7 none).map (·.2)=vs.toArray:=by
   show(vs.toArray.zip vs.toArray).map (·.2)=vs.toArray;apply Array.toList_inj.mp;simp;exact List.map_snd_zip<|M8 _
  rw[K];refine L1<|seqEpoch_at d rfl ?_;refine L1<|listUpdate_at d rfl ?_ (hsz2:=by show vs.toArray.size<=_;rw[v,sizeLine_eq];lia);simp only[bne_self_eq_false,Bool.false_eq_true,if_false];exact M6 h
 ·have k:2<=vs.length:=by lia
  have c:VZ lt vs Value.none=(kEv lt<|kas_sort vs.length).toList.map λi=>vs.getD i Value.none:=by unfold VZ;rw[if_neg ∅]
  rw[if_neg q,if_neg q];refine L1<|wpAny_mono (I k {s with heap:=((s.heap.update a<|Obj.mapSeq λ_=>#[]).push (seqObj "tuple" vs.toArray 0)).push (seqObj "list" #[] 0)} keep (Q:=λy s0=>y=κ/\s0={s with heap:=((s.heap.update a<|Obj.mapSeq λ_=>#[]).push (seqObj "tuple" vs.toArray 0)).push (seqObj "list" #[] 0)}) ⟨rfl,rfl⟩) ?_ λ_ _ x=>x.elim;rintro y s0 ⟨rfl,rfl⟩;have z:=wz (lt:=lt) (n:=vs.length) ∅;have l:=kat_run (prog:=prog) (w:=w) (A:=A) (E:=E) (κ:=y) (ks:=vs) (vs:=vs) (s:={s with heap:=((s.heap.update a<|Obj.mapSeq λ_=>#[]).push (seqObj "tuple" vs.toArray 0)).push (seqObj "list" #[] 0)})
   (Q:=λf s'=>s'={s with heap:=((s.heap.update a<|Obj.mapSeq λ_=>#[]).push (seqObj "tuple" vs.toArray 0)).push (seqObj "list" #[] 0)}/\arrOf f=(kEv lt<|kas_sort vs.length).map (kas_item<|vs.toArray.zip vs.toArray)/\failedOf f=none)
   (G:=λp s'=>p=kEv lt (kas_sort vs.length)/\s'={s with heap:=((s.heap.update a<|Obj.mapSeq λ_=>#[]).push (seqObj "tuple" vs.toArray 0)).push (seqObj "list" #[] 0)})
   rfl k r (λp f s' S L M H=>⟨H.2,by rw[<- H.1];exact L,M⟩)
   (jfr (n:=vs.length) (λi j C hi N O=>t {s with heap:=((s.heap.update a<|Obj.mapSeq λ_=>#[]).push (seqObj "tuple" vs.toArray 0)).push (seqObj "list" #[] 0)} keep i j hi N O) _ z.1 ⟨rfl,rfl⟩)
  refine L1<|wpAny_mono l ?_ λ_ _ e=>e;rintro⟨⟨⟩,f⟩ s' ⟨rfl,B,R⟩;dsimp only;have D:=kat_snds (vs:=vs) (ks:=vs) rfl B;rw[D,<- c];refine L1<|seqEpoch_at d rfl ?_;refine L1<|listUpdate_at d rfl ?_ (hsz2:=by show(VZ lt vs Value.none).toArray.size<=_;rw[N2,w8,sizeLine_eq];lia);rw[R];simp only[bne_self_eq_false,Bool.false_eq_true,if_false];exact M6 h
def V3(u:s.heap.IsList l vs.toArray)(n:vs.length<64)
  (v:2<=vs.length->∀(A':Around) (s':Shared),(∀ b o,s.heap.get? b=some o->s'.heap.get? b=some o)->∀{Q:SortKind->Shared->Prop},Q κ s'->wpAny (model prog w) A' (keyKind' vs.toArray) Q (λ_ _=>False) s')
  (a:∀(A':Around) (s':Shared),(∀ b o,s.heap.get? b=some o->s'.heap.get? b=some o)->∀ i j,i<vs.length->j<vs.length->∀{C:Bool->Shared->Prop},C (lt i j) s'->wpAny (model prog w) A' (keyLt' κ (vs.getD i Value.none)<|vs.getD j Value.none) C (λ_ _=>False) s')
  (h:∀ h' c,(∀ b o,s.heap.get? b=some o->h'.get? b=some o)->h'.get? (↥s+1)=some (seqObj "list" (VZ lt vs Value.none).toArray c)->Q (.ref<|↥s+1) {s with heap:=h'}):
  wpAny (model prog w) A (call (.builtin "sorted") [.ref l]) Q E s:=by
 refine Calls.call_function_entry kind_sorted plain_sorted entry_sorted (args_sorted1 _) ?_;unfold Builtin.«sorted»;refine L1 (m:=checkCount "sorted" 1 1 _)<|M6 ?_;refine L1<|collect_list u ?_ (by rw[sizeLine_eq];lia);refine L1<|wpAny_newList ?_ (by rw[sizeLine_eq];lia);have e:((s.heap.push<|seqObj "list" #[] 0).update ↥s (Obj.mapSeq (·++vs.toArray))).objs.size=↥s+1:=by
  rw[Heap.size_update,size_push']
 have f:(((s.heap.push<|seqObj "list" #[] 0).update ↥s (Obj.mapSeq (·++vs.toArray))).push (seqObj "list" vs.toArray 0)).get? (↥s+1)=some (seqObj "list" vs.toArray 0):=by
  rw[<- e];exact E1 _ rfl
 have keep:∀ b o,s.heap.get? b=some o->(((s.heap.push<|seqObj "list" #[] 0).update ↥s (Obj.mapSeq (·++vs.toArray))).push (seqObj "list" vs.toArray 0)).get? b=some o:=λb o q=>by
  have a:b < ↥s:=N0 q;rw[Heap.get?_push_ne _ _ _<|by rw[e];exact N5<|Nat.lt_succ_of_lt a,Heap.get?_update_ne _ _ _ _<|N5 a,Heap.get?_push_ne _ _ _<|N5 a];exact q
 show wpAny _ _ _ _ _ {s with heap:=((s.heap.push<|seqObj "list" #[] 0).update ↥s (Obj.mapSeq (·++vs.toArray))).push (seqObj "list" vs.toArray 0)};rw[e];have d:∀{s':Shared},(∀ b o,b≠↥s+1->(((s.heap.push<|seqObj "list" #[] 0).update ↥s (Obj.mapSeq (·++vs.toArray))).push (seqObj "list" vs.toArray 0)).get? b=some o->s'.heap.get? b=some o)->∀ b o,s.heap.get? b=some o->s'.heap.get? b=some o:=λk b o q=>
  k b o (N5<|Nat.lt_succ_of_lt<|N0 q) (keep b o q)
 refine L1<|wpAny_holding<|wpAny_call_entry slot_list_sort ⟨_,f,rfl⟩ entry_list_sort ?body (args_list_sort _)
 case body=>
  refine QF (lt:=lt) (κ:=κ) (s:={s with heap:=((s.heap.push<|seqObj "list" #[] 0).update ↥s (Obj.mapSeq (·++vs.toArray))).push (seqObj "list" vs.toArray 0)}) f n (λx s' k=>v x _ s'<|d k) (λs' k=>a _ s'<|d k) ?_;have g:∃ c,(sortedHeap (((s.heap.push<|seqObj "list" #[] 0).update ↥s (Obj.mapSeq (·++vs.toArray))).push (seqObj "list" vs.toArray 0)) (↥s+1) vs (VZ lt vs Value.none).toArray).get? (↥s+1)=some (seqObj "list" (VZ lt vs Value.none).toArray c):=by
   obtain⟨r,p⟩:∃ r,((((s.heap.push<|seqObj "list" #[] 0).update ↥s (Obj.mapSeq (·++vs.toArray))).push (seqObj "list" vs.toArray 0)).update (↥s+1) (Obj.mapSeq λ_=>#[])).get? (↥s+1)=some (seqObj "list" #[] r):=⟨_,get?_update_seq f<|λ_=>#[]⟩;exact⟨_,get?_update_seq (L7 _<|L7 _ p) λ_=>(VZ lt vs Value.none).toArray⟩
  obtain⟨c,y⟩:=g;refine⟨_,rfl,M6 ⟨_,rfl,h _ c (λb o q=>?_) y⟩⟩;have t:b≠↥s+1:=N5<|Nat.lt_succ_of_lt<|N0 q;show(Heap.update _ _ _).get? b=some o;rw[Heap.get?_update_ne _ _ _ _ t];exact L7 _<|L7 _ (by rw[Heap.get?_update_ne _ _ _ _ t];exact keep b o q)
noncomputable abbrev jb5:=Str×Str×Int
noncomputable def zT(x y:jb5):Bool:=if x.1=y.1 then(if x.2.1=y.2.1 then decide (x.2.2<y.2.2) else decide (x.2.1.cps.toList<y.2.1.cps.toList)) else decide (x.1.cps.toList<y.1.cps.toList)
def jam(h:Heap)(v:Value)(r:jb5):Prop:=∃(a:Addr) (o:Obj) (m:Nat) (t1 t2 t3:Tok),v=.ref a/\h.get? a=some o/\o.cls=.type "tuple"/\o.data=.seq #[.str r.1 t1,.str r.2.1 t2,.int r.2.2 t3] m
def jjs(d:jam s.heap v x)(e:jam s.heap u y)  (h:C (zT x y) s):wpAny (model prog w) A (keyLt' (tuples' true) v u) C E s:=by
 obtain⟨a,o,m,t1,f,g,rfl,i,r,j⟩:=d;obtain⟨b,t,z,k,l,n,rfl,p,B,q⟩:=e;refine kat_lt i j p q ?_;show KatLex prog w A true _ C [(.str x.1 t1,.str y.1 k),(.str x.2.1 f,.str y.2.1 l),(.int x.2.2 g,.int y.2.2 n)] 0 s;unfold zT at h;refine kat_cons<|wpAny_eqBool_str ?_;by_cases c:x.1=y.1
 ·rw[if_pos c] at h;rw[X4 c];refine kat_yes<|kat_cons<|wpAny_eqBool_str ?_;by_cases e2:x.2.1=y.2.1
  ·rw[if_pos e2] at h;rw[X4 e2];refine kat_yes<|kat_cons<|wpAny_eqBool_int ?_;by_cases e3:x.2.2=y.2.2
   ·rw[show(x.2.2==y.2.2)=true by simp[e3]];refine kat_yes<|kat_nil ?_;have:decide (x.2.2<y.2.2)=decide (3<3):=by rw[e3];simp
    rw[this] at h;exact h
   ·rw[show(x.2.2==y.2.2)=false by simp[e3]];exact kat_no<|kat_one _ _<|wpAny_lt_int h
  ·rw[if_neg e2] at h;rw[X5 e2];exact kat_no<|kat_one _ _<|lt_str h
 ·rw[if_neg c] at h;rw[X5 c];exact kat_no<|oneLt_str h
def ja8{A:Around}{E:W0}{s:Shared}{vs:List Value}{rs:List jb5}(c:vs.length=rs.length)(b:∀(j:Nat) (v:Value),vs[j]?=some v->∃ r,rs[j]?=some r/\jam s.heap v r)(u:0<vs.length){Q:SortKind->Shared->Prop}(h:Q (tuples' true) s):wpAny (model prog w) A (keyKind' vs.toArray) Q E s:=by
 have d:∀(vs:List Value) (rs:List jb5),vs.length=rs.length->(∀(j:Nat) (v:Value),vs[j]?=some v->∃ r,rs[j]?=some r/\jam s.heap v r)->∃ fs:List Value,KatTups s.heap vs fs/\fs.length=vs.length/\∀ v∈fs,∃ x t,v=Value.str x t:=by
  intro vs
  induction vs with
  | nil=>intro rs _ _;exact⟨[],KatTups.nil,rfl,λv b=>(nomatch b)⟩
  | cons v vs g=>
   intro rs c b;cases rs with
   | nil=>simp at c
   | cons r rs=>
    obtain⟨fs,k,l,f⟩:=g rs ⇑c λj v e=>b (j+1) v ⇑e;obtain⟨i,e,a,o,m,t1,y,z,rfl,n,p,q⟩:=b 0 v rfl;refine⟨.str i.1 t1::fs,KatTups.cons n p q rfl k,by simp[l],λv b=>?_⟩;rcases M4.mp b with rfl | b
    ·exact⟨_,_,rfl⟩
    ·exact f v b
 obtain⟨fs,k,l,f⟩:=d vs rs c b;refine kat_kind (T:=.type "str") k ∅ (λv b=>?_) (by rfl) h;obtain⟨x,t,rfl⟩:=f v b;exact Looks.of_pure rfl
def YF{A:Around}{E:W0}{s:Shared}{vs:List Value}{rs:List jb5}{Q:W0}(x:s.heap.IsList l vs.toArray)(n:vs.length<64)(g:vs.length=rs.length)(y:∀(j:Nat) (v:Value),vs[j]?=some v->∃ r,rs[j]?=some r/\jam s.heap v r)
  (h:∀ h' c,(∀ b o,s.heap.get? b=some o->h'.get? b=some o)->h'.get? (↥s+1)=some (seqObj "list" (VZ (λi j=>zT (rs.getD i ("","",0))<|rs.getD j ("","",0)) vs Value.none).toArray c)->Q (.ref<|↥s+1) {s with heap:=h'}):
  wpAny (model prog w) A (call (.builtin "sorted") [.ref l]) Q E s:=by
 have p:∀(d:Shared),(∀ b o,s.heap.get? b=some o->d.heap.get? b=some o)->∀(j:Nat) (v:Value),vs[j]?=some v->∃ r,rs[j]?=some r/\jam d.heap v r:=λd f j v k=>by
  obtain⟨r,e,a,o,m,t1,z,B,q,D,t,F⟩:=y j v k;exact⟨r,e,a,o,m,t1,z,B,q,f a o D,t,F⟩
 refine V3 (κ:=tuples' true) x n (λt G d f Q H=>ja8 g (p d f) ∅ H) (λG d f i j hi k C u=>?_) h;obtain⟨I,q,J⟩:=p d f i _<|X8 hi;obtain⟨K,e2,L⟩:=p d f j _<|X8 k;have g1:vs.getD i Value.none=vs[i]:=by simp[hi]
 have g2:vs.getD j Value.none=vs[j]:=by simp[k]
 rw[g1,g2];refine jjs J L ?_;have M:rs.getD i ("","",0)=I:=by rw[List.getD_eq_getElem?_getD,q];rfl
 have N:rs.getD j ("","",0)=K:=by rw[List.getD_eq_getElem?_getD,e2];rfl
 rw[M,N] at u;exact u
end PySem
namespace PySem
open Sem (wp)
end PySem
namespace L2
open PySem PySem.Spec PyProof.Rows
end L2
set_option maxHeartbeats 1000000
namespace PySem
namespace F
def typeCall_zip_3(a b c:Value):checkTypeCall "zip" ⟨[a,b,c],[]⟩=pure ():=by kernel_rfl
def newCall_zip_3(a b c:Value):checkBuiltinCall "zip.__new__" ⟨[.type "zip",a,b,c],[]⟩=pure ():=by kernel_rfl
end F
end PySem
namespace L2
open PySem PySem.Spec PyProof.Rows
abbrev vV(h:Heap)(T:Addr)(a b c:Value):Prop:=h.get? T=some {cls:=.type "tuple",data:=.seq #[a,b,c]}
structure Z3(z TI TO j1 j2 j3 t l m:Addr):Prop where
 TIz:TI≠z
 TOz:TO≠z
 j1z:j1≠z
 j2z:j2≠z
 j3z:j3≠z
 TITO:TI≠TO
 TIj1:TI≠j1
 TIj2:TI≠j2
 TIj3:TI≠j3
 TOj1:TO≠j1
 TOj2:TO≠j2
 TOj3:TO≠j3
 j12:j1≠j2
 j13:j1≠j3
 j23:j2≠j3
 out:∀ x,x=t\/x=l\/x=m->x≠z/\x≠TO/\x≠j1/\x≠j2/\x≠j3
section
variable {prog:Program}{w:World}{A:Around}{E:W0}{s:Shared}
def xU(d:vV s.heap T a b c)
  (h:∀ h',h'.get? T=some {cls:=.type "tuple",data:=.seq ((#[a,b,c]:Array Value).setIfInBounds k x)}->Heap.SameBut T s.heap h'->Q () {s with heap:=h'}):wpAny (model prog w) A (updateSeq T (·.setIfInBounds k x)) Q E s:=by
 refine wpAny_updateSeq d rfl<|h _ (by rw[Heap.get?_update_self _ d rfl];simp[Obj.mapSeq])<|Heap.SameBut.update ..
variable {z TI TO j1 j2 j3 t l m:Addr}{n:Nat}{ts us vs:Array Value}{x u v a b c:Value}
def jgK{C:W0}(D:Z3 z TI TO j1 j2 j3 t l m)(y:IsZip s.heap z TI TO .none)(qI:vV s.heap TI (.ref j1) (.ref j2)<|.ref j3)(qO:vV s.heap TO a b c)
  (q1:s.heap.IsTupleIter j1 t n) (q2:s.heap.IsListIter j2 l n) (q3:s.heap.IsListIter j3 m n) (w1:s.heap.IsTuple t ts) (w2:s.heap.IsList l us) (w3:s.heap.IsList m vs) (ex:ts[n]?=some x) (eu:us[n]?=some u) (ev:vs[n]?=some v)
  (go:∀ k,IsZip k z TI TO (rawInt ↥s)->vV k TO x u v->k.IsTupleIter j1 t (n+1)->k.IsListIter j2 l (n+1)->k.IsListIter j3 m (n+1)->vV k ↥s x u v ->
   (∀ c o,c≠z->c≠TO->c≠j1->c≠j2->c≠j3->s.heap.get? c=some o->k.get? c=some o)->C (.ref ↥s) {s with heap:=k}):
  wpAny (model prog w) A (Builtin.«zip.__next__» ⟨[.ref z],[]⟩) (λfin s'=>∃ v,fin=.done (.ret v)/\C v s') E s:=by
 have nt:=D.out t<|.inl rfl;have J:=D.out l<|.inr<|.inl rfl;have nm:=D.out m<|.inr<|.inr rfl;refine(show wpAny (model prog w) A (field (.ref z) 2 >>= _) _ _ _ from L1 (U5 y rfl (x:=.bool false) rfl ?_));refine(show wpAny (model prog w) A (field (.ref z) 3 >>= _) _ _ _ from L1 (U5 y rfl (x:=.ref TI) rfl<|L1<|wpAny_seqItems qI rfl ?_));refine(show wpAny (model prog w) A (Builtin.SmallTypes.ownedTupleIsFree (.ref z) >>= _) _ _ _ from L1 ?_);delta Builtin.SmallTypes.ownedTupleIsFree;refine L1<|U5 y rfl (x:=.none) rfl<|M6 ?_;simp only[if_true];refine L1<|wpAny_rule<|L1<|U5 y rfl (x:=.ref TO) rfl<|L1<|wpAny_setField_rec y (by simp) λK L f=>?_;replace L:IsZip K z TI TO .ellipsis:=L;replace f:Heap.SameBut z s.heap K:=f;refine L1 ?_;simp only[List.forIn_cons,List.forIn_nil,List.zipIdx_cons,List.zipIdx_nil];refine L1<|L1<|wpAny_onRaise (show wpAny _ _ (Builtin.SmallTypes.nextOf (.ref j1) >>= _) _ _ _ from L1 (jeq (q1.extBut f.extBut D.j1z) (w1.extBut f.extBut nt.1) ex λM p1 g=>M6 ?_))
 replace g:Heap.SameBut j1 K M:=g;have o2:vV M TO a b c:=g.extBut _ _ D.TOj1<|f.extBut _ _ D.TOz qO;refine L1<|wpAny_seqItems o2 rfl<|L1<|xU o2 λN O h=>?_;replace O:vV N TO x b c:=O;replace h:Heap.SameBut TO M N:=h;refine L1<|wpAny_letGo<|M6<|L1<|L1<|wpAny_onRaise ?_;refine(show wpAny _ _ (Builtin.SmallTypes.nextOf (.ref j2) >>= _) _ _ _ from L1 (wpAny_nextOf_list_item (((q2.extBut f.extBut D.j2z).extBut g.extBut D.j12.symm).extBut h.extBut D.TOj2.symm) (((w2.extBut f.extBut J.1).extBut g.extBut J.2.2.1).extBut h.extBut J.2.1) eu λP p2 i=>M6 ?_));replace i:Heap.SameBut j2 N P:=i;have o4:vV P TO x b c:=i.extBut _ _ D.TOj2 O;refine L1<|wpAny_seqItems o4 rfl<|L1<|xU o4 λQ R j=>?_;replace R:vV Q TO x u c:=R;replace j:Heap.SameBut TO P Q:=j;refine L1<|wpAny_letGo<|M6<|L1<|L1<|wpAny_onRaise ?_;refine(show wpAny _ _ (Builtin.SmallTypes.nextOf (.ref j3) >>= _) _ _ _ from L1 (wpAny_nextOf_list_item (((((q3.extBut f.extBut D.j3z).extBut g.extBut D.j13.symm).extBut h.extBut D.TOj3.symm).extBut i.extBut D.j23.symm).extBut j.extBut D.TOj3.symm) (((((w3.extBut f.extBut nm.1).extBut g.extBut nm.2.2.1).extBut h.extBut nm.2.1).extBut i.extBut nm.2.2.2.1).extBut j.extBut nm.2.1) ev λS p3 p=>M6 ?_));replace p:Heap.SameBut j3 Q S:=p;have o6:vV S TO x u c:=p.extBut _ _ D.TOj3 R;refine L1<|wpAny_seqItems o6 rfl<|L1<|xU o6 λd G q=>?_;replace G:vV d TO x u v:=G;replace q:Heap.SameBut TO S d:=q;refine L1<|wpAny_letGo<|M6<|M6<|L1<|wpAny_seqItems G rfl<|L1<|wpAny_newTuple ?_;have es:d.objs.size=↥s:=by rw[q.1,p.1,j.1,i.1,h.1,g.1,f.1]
 have z7:IsZip d z TI TO .ellipsis:=q.extBut _ _ D.TOz.symm<|p.extBut _ _ D.j3z.symm<|j.extBut _ _ D.TOz.symm<|i.extBut _ _ D.j2z.symm<|h.extBut _ _ D.TOz.symm<|g.extBut _ _ D.j1z.symm L;have kp:∀ c o,c≠z->c≠TO->c≠j1->c≠j2->c≠j3->s.heap.get? c=some o->d.get? c=some o:=λc o r B T U V e=>q.extBut _ _ B<|p.extBut _ _ V<|j.extBut _ _ B<|i.extBut _ _ U<|h.extBut _ _ B<|g.extBut _ _ T<|f.extBut _ _ r e;have W:d.IsTupleIter j1 t (n+1):=((((p1.extBut h.extBut D.TOj1.symm).extBut i.extBut D.j12).extBut j.extBut D.TOj1.symm).extBut p.extBut D.j13).extBut q.extBut D.TOj1.symm;have X:d.IsListIter j2 l (n+1):=((p2.extBut j.extBut D.TOj2.symm).extBut p.extBut D.j23).extBut q.extBut D.TOj2.symm;have Y:d.IsListIter j3 m (n+1):=p3.extBut q.extBut D.TOj3.symm;have zl:z<d.objs.size:=N0 z7;refine(show wpAny (model prog w) A (Builtin.SmallTypes.ownedTupleHandOut (.ref z) (.ref d.objs.size) >>= _) _ _ _ from L1 ?_);delta Builtin.SmallTypes.ownedTupleHandOut;have z8:IsZip (d.push {cls:=.type "tuple",data:=.seq #[x,u,v]}) z TI TO .ellipsis:=L7 _ z7;refine L1<|wpAny_setField_rec z8 (by simp) λk9 Z b9=>?_;replace Z:IsZip k9 z TI TO (rawInt d.objs.size):=Z;refine wpAny_setField_rec Z (by simp) λH I bA=>?_;replace I:IsZip H z TI TO (rawInt d.objs.size):=I;have F:∀ c o,c≠z->d.get? c=some o->H.get? c=some o:=λc o r e=>bA.extBut _ _ r<|b9.extBut _ _ r<|L7 _ e;have tA:vV H d.objs.size x u v:=bA.extBut _ _ (Nat.ne_of_gt zl)<|b9.extBut _ _ (Nat.ne_of_gt zl)<|E1 _ rfl;rw[es] at I tA;refine M6 ⟨_,rfl,?_⟩;show C (.ref d.objs.size) _;rw[es];obtain⟨x1,y1,r1⟩:=W;obtain⟨x2,y2,r2⟩:=X;obtain⟨x3,y3,r3⟩:=Y;exact go H I (F _ _ D.TOz G) ⟨x1,F _ _ D.j1z y1,r1⟩ ⟨x2,F _ _ D.j2z y2,r2⟩ ⟨x3,F _ _ D.j3z y3,r3⟩ tA λc o r B T U V e=>F c o r<|kp c o r B T U V e
def jj1{C:PySem.Fin->Shared->Prop}(r:A.handled=none)(D:Z3 z TI TO j1 j2 j3 t l m)(a:IsZip s.heap z TI TO .none)(qI:vV s.heap TI (.ref j1) (.ref j2)<|.ref j3)
  (u:s.heap.IsTupleIter j1 t n) (v:s.heap.IsTuple t ts) (ex:ts[n]?=none)
  (go:∀ k e,(∀ c o,c≠z->c≠TO->c≠j1->c≠j2->c≠j3->s.heap.get? c=some o->k.get? c=some o)->(∃ o,k.get? e=some o/\o.cls=.type "StopIteration")->E (.ref e) {s with heap:=k}):
  wpAny (model prog w) A (Builtin.«zip.__next__» ⟨[.ref z],[]⟩) C E s:=by
 have y:=D.out t<|.inl rfl;refine(show wpAny (model prog w) A (field (.ref z) 2 >>= _) _ _ _ from L1 (U5 a rfl (x:=.bool false) rfl ?_));refine(show wpAny (model prog w) A (field (.ref z) 3 >>= _) _ _ _ from L1 (U5 a rfl (x:=.ref TI) rfl<|L1<|wpAny_seqItems qI rfl ?_));refine(show wpAny (model prog w) A (Builtin.SmallTypes.ownedTupleIsFree (.ref z) >>= _) _ _ _ from L1 ?_);delta Builtin.SmallTypes.ownedTupleIsFree;refine L1<|U5 a rfl (x:=.none) rfl<|M6 ?_;simp only[if_true];refine L1<|wpAny_rule<|L1<|U5 a rfl (x:=.ref TO) rfl<|L1<|wpAny_setField_rec a (by simp) λg d b=>?_;replace d:IsZip g z TI TO .ellipsis:=d;replace b:Heap.SameBut z s.heap g:=b;refine L1 ?_;simp only[List.forIn_cons,List.forIn_nil,List.zipIdx_cons,List.zipIdx_nil];refine L1<|L1<|wpAny_onRaise (show wpAny _ _ (Builtin.SmallTypes.nextOf (.ref j1) >>= _) _ _ _ from L1 (jgX r (u.extBut b.extBut D.j1z) (v.extBut b.extBut y.1) ex λB e h F=>?_))
 obtain⟨G,f,i⟩:=F;have j:IsZip B z TI TO .ellipsis:=h _ _ D.j1z.symm d;have ne:e≠z:=λx=>by subst x;rw[j] at f;cases f;simp at i
 exact wpAny_setField_rec j (by simp) λH _ p=>go H e (λc o q _ I _ _ x=>p.extBut _ _ q<|h _ _ I<|b.extBut _ _ q x) ⟨G,p.extBut _ _ ne f,i⟩
def jga{C:Option Value->Shared->Prop}(D:Z3 z TI TO j1 j2 j3 t l m)(d:IsZip s.heap z TI TO .none)(qI:vV s.heap TI (.ref j1) (.ref j2)<|.ref j3)(e:vV s.heap TO a b c)
  (f:s.heap.IsTupleIter j1 t n) (g:s.heap.IsListIter j2 l n) (h:s.heap.IsListIter j3 m n) (i:s.heap.IsTuple t ts) (j:s.heap.IsList l us) (p:s.heap.IsList m vs) (ex:ts[n]?=some x) (q:us[n]?=some u) (r:vs[n]?=some v)
  (go:∀ k,IsZip k z TI TO (rawInt ↥s)->vV k TO x u v->k.IsTupleIter j1 t (n+1)->k.IsListIter j2 l (n+1)->k.IsListIter j3 m (n+1)->vV k ↥s x u v ->
   (∀ c o,c≠z->c≠TO->c≠j1->c≠j2->c≠j3->s.heap.get? c=some o->k.get? c=some o)->C (some<|.ref ↥s) {s with heap:=k}):wpAny (model prog w) A (pyNext<|.ref z) C E s:=by
 have ty:s.TypeIs (.ref z) "zip":=⟨_,d,rfl⟩;unfold pyNext;exact L1<|wpAny_attempt<|wpAny_callSpecial?_slot (name:=Str.ofString "__next__") ty F.slot_zip_next<|wpAny_call_entry F.slot_zip_next ty F.entry_zip_next
  (jgK D d qI e f g h i j p ex q r λk c1 y B G H I J=>M6<|go k c1 y B G H I J) (F.args_zip_next_1 _)
def jgw{C:Option Value->Shared->Prop}(d:A.handled=none)(D:Z3 z TI TO j1 j2 j3 t l m)(a:IsZip s.heap z TI TO .none)(qI:vV s.heap TI (.ref j1) (.ref j2)<|.ref j3)
  (f:s.heap.IsTupleIter j1 t n) (g:s.heap.IsTuple t ts) (ex:ts[n]?=none)
  (go:∀ k,(∀ c o,c≠z->c≠TO->c≠j1->c≠j2->c≠j3->s.heap.get? c=some o->k.get? c=some o)->C none {s with heap:=k}):wpAny (model prog w) A (pyNext<|.ref z) C E s:=by
 have ty:s.TypeIs (.ref z) "zip":=⟨_,a,rfl⟩;unfold pyNext;refine L1<|wpAny_attempt<|wpAny_callSpecial?_slot (name:=Str.ofString "__next__") ty F.slot_zip_next<|wpAny_call_entry F.slot_zip_next ty F.entry_zip_next (jj1 d D a qI f g ex λk e kp h=>?_)<|F.args_zip_next_1 _;obtain⟨o,i,j⟩:=h;exact L1<|wpAny_isInstance (T:="StopIteration") (b:=true) ⟨o,i,j⟩ isSubtype_stop<|M6<|go _ kp
end
noncomputable abbrev z3A(h:Heap)(t:Addr):Heap:=h.push {cls:=.type "tuple_iterator",data:=.fields #[.ref t,.int 0 0]}
abbrev z3B(h:Heap)(t l:Addr):Heap:=(z3A h t).push {cls:=.type "list_iterator",data:=.fields #[.ref l,.int 0 0]}
abbrev z3C(h:Heap)(t l m:Addr):Heap:=(z3B h t l).push {cls:=.type "list_iterator",data:=.fields #[.ref m,.int 0 0]}
abbrev z3D(h:Heap)(t l m:Addr):Heap:=(z3C h t l m).push {cls:=.type "tuple",data:=.seq #[.ref h.objs.size,.ref (z3A h t).objs.size,.ref (z3B h t l).objs.size]}
abbrev z3E(h:Heap)(t l m:Addr):Heap:=(z3D h t l m).push {cls:=.type "tuple",data:=.seq #[.none,.none,.none]}
abbrev z3F(h:Heap)(t l m:Addr):Heap:=(z3E h t l m).push {cls:=.type "zip",data:=.fields #[.none,.bool false,.bool false,.ref (z3C h t l m).objs.size,.ref (z3D h t l m).objs.size]}
def jgM(t l m:Addr)(ts us vs:Array Value):Meets (Builtin.«zip.__new__» ⟨[.type "zip",.ref t,.ref l,.ref m],[]⟩) (λ_ R s=>s.heap.IsTuple t ts/\s.heap.IsList l us/\s.heap.IsList m vs/\R (.ok<|.ret<|.ref (z3E s.heap t l m).objs.size) {s with heap:=z3F s.heap t l m}) :=
 .of_wp λprog w A R s h=>by
  obtain⟨a,g,d,b,os⟩:=s;obtain⟨e,f,i,h⟩:=h;have c:=sub_zip;have j:Heap.IsTuple (Shared.heap ⟨a,g,d,b,os⟩) t ts:=e;have e2:Heap.IsList (Shared.heap ⟨z3A a t,g,d,b,os⟩) l us:=Heap.IsList.push f _;have e3:Heap.IsList (Shared.heap ⟨z3B a t l,g,d,b,os⟩) m vs:=Heap.IsList.push (Heap.IsList.push i _) _
  wp_walk using wpAny_pyIter_tuple j,wpAny_pyIter_list e2,wpAny_pyIter_list e3
  exact⟨_,rfl,h⟩
end L2
namespace PySem
namespace F
def args_object_init_4(a b c d:Value):argsOk "object.__init__" ⟨[a,b,c,d],[]⟩:=by
 unfold argsOk;kernel_rfl
end F
end PySem
namespace L2
open PySem PySem.Spec PyProof.Rows
def jf2(h1:s.heap.IsTuple t ts)(h2:s.heap.IsList l us)(p:s.heap.IsList m vs)
  (go:∀ k,IsZip k (↥s+5) (↥s+3) (↥s+4) .none->vV k (↥s+3) (.ref ↥s) (.ref<|↥s+1) (.ref<|↥s+2)->vV k (↥s+4) .none .none .none ->
   k.IsTupleIter ↥s t 0->k.IsListIter (↥s+1) l 0->k.IsListIter (↥s+2) m 0->(∀ c o,s.heap.get? c=some o->k.get? c=some o)->C (.ref<|↥s+5) {s with heap:=k}):
  wpAny (model prog w) A (call (.type "zip") [.ref t,.ref l,.ref m]) C E s:=by
 refine callType_new F.called_zip (by decide) (F.typeCall_zip_3 _ _ _) (F.newCall_zip_3 _ _ _) (λobj=>F.args_object_init_4 obj _ _ _) F.entry_zip_new (jgM t l m ts us vs) ⟨h1,h2,p,?_⟩;have a:(z3A s.heap t).objs.size=↥s+1:=Heap.size_push ..;have b:(z3B s.heap t l).objs.size=↥s+2:=by rw[Heap.size_push,a]
 have d:(z3C s.heap t l m).objs.size=↥s+3:=by rw[Heap.size_push,b]
 have e:(z3D s.heap t l m).objs.size=↥s+4:=by rw[Heap.size_push,d]
 have g:(z3E s.heap t l m).objs.size=↥s+5:=by rw[Heap.size_push,e]
 have f:(z3F s.heap t l m).get? (z3E s.heap t l m).objs.size=some _:=E1 _ rfl;have h:(z3F s.heap t l m).get? (z3D s.heap t l m).objs.size=some _:=L7 _<|E1 _ rfl;have i:(z3F s.heap t l m).get? (z3C s.heap t l m).objs.size=some _:=L7 _<|L7 _<|E1 _ rfl;have j:(z3F s.heap t l m).get? (z3B s.heap t l).objs.size=some _:=L7 _<|L7 _<|L7 _<|E1 _ rfl;have n:(z3F s.heap t l m).get? (z3A s.heap t).objs.size=some _:=L7 _<|L7 _<|L7 _<|L7 _<|E1 _ rfl;have q:(z3F s.heap t l m).get? ↥s=some _:=L7 _<|L7 _<|L7 _<|L7 _<|L7 _<|E1 _ rfl;show _/\_;rw[d,e,g] at f;rw[a,b,d] at i;rw[e] at h;rw[b] at j;rw[a] at n;rw[g];exact⟨⟨_,f,rfl⟩,go _ f i h ⟨_,q,rfl,rfl⟩ ⟨_,n,rfl,rfl⟩ ⟨_,j,rfl,rfl⟩ λc o x=>L7 _<|L7 _<|L7 _<|L7 _<|L7 _<|L7 _ x⟩
def jir(n t l m:Nat)(h1:t<n)(h2:l<n)(c:m<n):Z3 (n+5) (n+3) (n+4) n (n+1) (n+2) t l m:=by
 refine⟨?_,?_,?_,?_,?_,?_,?_,?_,?_,?_,?_,?_,?_,?_,?_,λx b=>?_⟩
 all_goals try (show(_:Nat)≠_;lia)
 have a:x<n:=by rcases b with rfl | rfl | rfl<;>assumption
 refine⟨?_,?_,?_,?_,?_⟩<;>(show(_:Nat)≠_;exact N5<|by first | exact a | exact U3 a<|Nat.le_add_right _ _)
def Iz3(K:W5)(t l m:Addr):It :=
 ⟨λi H=>∃ ts xs ys q x y,SqT K H t ts/\SqL K H l xs/\SqL K H m ys/\ts[i]?=some q/\xs[i]?=some x/\ys[i]?=some y,
  λi H x H'=>∃ p q u v,(∀ ts,SqT K H t ts->ts[i]?=some q)/\(∀ xs,SqL K H l xs->xs[i]?=some u)/\(∀ ys,SqL K H m ys->ys[i]?=some v)/\x=.ref p/\H p=none/\H'=upd H p (.tup [q,u,v]),
  λi H=>∃ ts,SqT K H t ts/\ts.length<=i⟩
def jf9{P:Program}{w:World}{K:W5}{L:List Expr}{n:Nat}{pos:Pos}(z TI TO j1 j2 j3 t l m:Addr)(D:Z3 z TI TO j1 j2 j3 t l m):
  Turn P w K (.Tuple L n pos) (Iz3 K t l m) [z,TI,TO,j1,j2,j3] z (λi h=>IsZip h z TI TO .none/\vV h TI (.ref j1) (.ref j2) (.ref j3)/\(∃ a b c,vV h TO a b c)/\h.IsTupleIter j1 t i/\h.IsListIter j2 l i/\h.IsListIter j3 m i) where
 mem:=by simp
 obj:=λi h g b A=>by
  obtain⟨j,p,⟨a,c,e,C⟩,⟨V,B,_,d4⟩,⟨o5,F,_,d5⟩,⟨o6,G,_,d6⟩⟩:=g;rcases(⇑A:b=z\/b=TI\/b=TO\/b=j1\/b=j2\/b=j3) with q | q | q | q | q | q<;>subst q
  ·exact⟨_,j,λv q=>by cases q⟩
  ·exact⟨_,p,λv q=>by cases q⟩
  ·exact⟨_,C,λv q=>by cases q⟩
  ·exact⟨_,B,λv q=>by rw[d4] at q;cases q⟩
  ·exact⟨_,F,λv q=>by rw[d5] at q;cases q⟩
  ·exact⟨_,G,λv q=>by rw[d6] at q;cases q⟩
 keep:=λi h h' g k=>by
  obtain⟨j,p,⟨a,c,e,C⟩,⟨V,B,r4⟩,F,G⟩:=g;exact⟨k z (by simp) _ j,k TI (by simp) _ p,⟨a,c,e,k TO (by simp) _ C⟩,⟨V,k j1 (by simp) _ B,r4⟩,F.at λo q=>k j2 (by simp) o q,G.at λo q=>k j3 (by simp) o q⟩
 item:=by
  intro X hP hw hK hc i M s σ H E I Y g hg;subst hP hw hK;obtain⟨ts,xs,ys,q,x,y,r,N,O,hq,hx,hy⟩:=hg;obtain⟨Q,J,p0,hz0⟩:=I.tuple r;obtain⟨its1,rv1,p1,hz1⟩:=I.list N;obtain⟨its2,rv2,p2,hz2⟩:=I.list O;obtain⟨q',hq',rq⟩:=J.get hq;obtain⟨u,hu,ru⟩:=rv1.get hx;obtain⟨v,hv,rv⟩:=rv2.get hy;obtain⟨j,p,⟨a,c,e,C⟩,B,F,G⟩:=g;refine jga D j p C B F G p0 p1.isList p2.isList (x:=q') (u:=u) (v:=v) ⇑hq' ⇑hu ⇑hv λhh a1 a2 a3 a4 a5 a6 Z=>?_;refine⟨_,rfl,wpAny_letOwnedTupleGo_zip (s:={s with heap:=hh}) a1 λR hz7 f=>?_⟩;replace f:Heap.SameBut z hh R:=f;have lt:∀{c o},s.heap.get? c=some o->c < ↥s:=λe=>N0 e;have S:R.get? ↥s=_:=(f.2 _<|Nat.ne_of_gt<|lt j).trans a6;have kk:∀ b o,b∉[z,TI,TO,j1,j2,j3]->s.heap.get? b=some o->R.get? b=some o:=λb o A q=>by
   have d:b≠z/\b≠TI/\b≠TO/\b≠j1/\b≠j2/\b≠j3:=by simpa using A
   exact(f.2 b d.1).trans (Z b o d.1 d.2.2.1 d.2.2.2.1 d.2.2.2.2.1 d.2.2.2.2.2 q)
  have I1:=I.turnedNew (h':=R) (t':=s.toks) (wr:=[z,TI,TO,j1,j2,j3]) (T:=↥s) (xs:=[q,x,y]) (its:=#[q',u,v]) kk Y (M8 _) ⟨⟨_,S,rfl,_,rfl⟩,_,S,rfl⟩ (.cons rq<|.cons ru<|.cons rv .nil) (by show 3<=sizeLine;decide);have g4:R.IsTupleIter j1 t (i+1):=by
   obtain⟨V,e4,r4⟩:=a3;exact⟨V,(f.2 j1 D.j1z).trans e4,r4⟩
  refine⟨.ref ↥s,_,I1,rfl,⟨_,q,x,y,(λzs U=>by rw[I.tuple_inj U r];exact hq),(λzs U=>by rw[I.list_inj U N];exact hx),(λzs U=>by rw[I.list_inj U O];exact hy),rfl,I.hok.fresh<|M8 _,rfl⟩,⟨hz7,(f.2 TI D.TIz).trans (Z _ _ D.TIz D.TITO D.TIj1 D.TIj2 D.TIj3 p),⟨_,_,_,(f.2 TO D.TOz).trans a2⟩,g4,a4.at λo q=>(f.2 j2 D.j2z).trans q,a5.at λo q=>(f.2 j3 D.j3z).trans q⟩,λb A=>?_⟩;rw[jh]
  ·exact(Y b A).1
  ·intro q;have:b < ↥s:=by
    obtain⟨_,h4',_⟩:=id B;obtain⟨_,h5',_⟩:=id F;obtain⟨_,h6',_⟩:=id G;rcases(⇑A:b=z\/b=TI\/b=TO\/b=j1\/b=j2\/b=j3) with w | w | w | w | w | w<;>rw[w]
    ·exact lt j
    ·exact lt p
    ·exact lt C
    ·exact lt h4'
    ·exact lt h5'
    ·exact lt h6'
   exact absurd this (by rw[q];exact Nat.lt_irrefl _)
 done:=by
  intro X hP hw hK hc i M s σ H E I Y g hg;subst hP hw hK;obtain⟨ts,r,hx⟩:=hg;obtain⟨Q,J,p0,hz0⟩:=I.tuple r;obtain⟨j,p,⟨a,c,e,C⟩,B,F,G⟩:=g;have hl1:=J.length;exact jgw (I.ok.hd hc) D j p B p0 (by simp;lia) λhh Z=>⟨rfl,I.turnedL (t':=s.toks) (wr:=[z,TI,TO,j1,j2,j3]) (λb o A q=>by
   have d:b≠z/\b≠TI/\b≠TO/\b≠j1/\b≠j2/\b≠j3:=by simpa using A
   exact Z b o d.1 d.2.2.1 d.2.2.2.1 d.2.2.2.2.1 d.2.2.2.2.2 q) Y⟩
 self:=λ_ _ _ _ _ g h=>wpAny_pyIter_zip g.1 h
def iZ3(K:W5)(tl:TA):TI:=λσ H R=>tl σ H λvs H1=>∃ a b c ts xs ys,vs=[.ref a,.ref b,.ref c]/\SqT K H1 a ts/\SqL K H1 b xs/\SqL K H1 c ys/\R (Iz3 K a b c) H1
def jmx{X:Cx}{g:List Expr}{n:Nat}{tpos p pos:Pos}{a b c:Expr}{ta:TA}(O:Gl X "zip")(P:X.mg "zip" = none)(Q:PA X [a,b,c] ta)(S:starEach [a,b,c] X.env=[(false,eval a X.env),(false,eval b X.env),(false,eval c X.env)]:=by rfl)(i:starEach [b,c] X.env=[(false,eval b X.env),(false,eval c X.env)]:=by rfl):
  PI X (.Tuple g n tpos) (.Call (.Name "zip" p) [a,b,c] [] pos) (iZ3 X.K ta):=by
 intro d s σ H R I h;refine Call_<|JM I O P (show bootBuiltins "zip" = some (.type "zip") by decide +kernel)<|PyProof.Rows.callWith_type1 (thn (Q pos d s σ H _ I h) λus s1 ⟨vs,F,f,v,T⟩=>?_) (by rw[S,i]) (by rw[i];rfl);obtain⟨w,x,y,ts,xs,ys,rfl,A,B,C,q⟩:=T;cases v with
 | cons v D=>
  cases D with
  | cons D E=>
   cases E with
   | cons E U=>
    cases U;cases v;cases D;cases E;obtain⟨G,V,j,W⟩:=f.tuple A;obtain⟨J,Y,k,Z⟩:=f.list B;obtain⟨L,rv2,l,hz2⟩:=f.list C;have m:w < ↥s1:=by
     obtain⟨o,e,_⟩:=id j;exact N0 e
    have r:x < ↥s1:=by
     obtain⟨o,_,e,_⟩:=k;exact N0 e
    have t:y < ↥s1:=by
     obtain⟨o,_,e,_⟩:=l;exact N0 e
    refine jf2 j k.isList l.isList λM N a2 a3 a4 a5 a6 hk=>?_;have I2:Inv X d σ F {s1 with heap:=M}:=f.kept (t':=s1.toks) hk;refine PySem.wpAny_pyIter_zip (s:={s1 with heap:=M}) N ?_;refine⟨↥s1+5,[↥s1+5,↥s1+3,↥s1+4,↥s1,↥s1+1,↥s1+2],_,_,F,rfl,I2,jf9 _ _ _ _ _ _ w x y<|jir _ w x y m r t,⟨N,a2,⟨_,_,_,a3⟩,a4,a5,a6⟩,λb hb=>?_,q⟩;have u:↥s1<=b:=by
     rcases(⇑hb:b=↥s1+5\/b=↥s1+3\/b=↥s1+4\/b=↥s1\/b=↥s1+1\/b=↥s1+2) with z | z | z | z | z | z<;>rw[z]
     ·exact Nat.le_add_right _ 5
     ·exact Nat.le_add_right _ 3
     ·exact Nat.le_add_right _ 4
     ·exact M8 _
     ·exact Nat.le_add_right _ 1
     ·exact Nat.le_add_right _ 2
    exact f.fpOk u<|f.hok.fresh u
end L2
namespace PySem
open Sem (wp)
namespace F
end F
end PySem
namespace L2
open PySem PySem.Spec PyProof.Rows
end L2
namespace PySem
open L2 PyProof.Rows
end PySem
namespace L2
open PySem PySem.Spec PyProof.Rows
end L2
namespace QD
open PySem L2
inductive KA where
 | int (i:Int) | str (s:List Nat)
 deriving DecidableEq
inductive D where
 | non | bl (b:Bool) | int (i:Int) | str (s:List Nat)
 | tup (l:List D) | lst (o:Bool) (l:List D)
 | dK (o:Bool) (ks:List KA) (l:List D)
 | dT (o:Bool) (ks:List (List KA)) (l:List D)
 | ins (o:Bool) (c:Nat) (ns:List Str) (l:List D)
 | dead
  | exc (c:Nat) (p:Int)
def xo(C a dx:Addr):Heap->Prop:=λh=>∃ o vs,h.get? a=some o/\o.cls=.ref C/\o.dict=some dx/\o.data=.fields vs
mutual
noncomputable def fz:D->D
 | .tup l=>.tup<|fzs l
 | .lst _ l=>.lst false<|fzs l
 | .dK _ ks l=>.dK false ks<|fzs l
 | .dT _ ks l=>.dT false ks<|fzs l
 | .ins _ c ns l=>.ins false c ns<|fzs l
 | .non=>.non | .bl b=>.bl b | .int i=>.int i | .str s=>.str s | .dead=>.dead | .exc c p=>.exc c p
noncomputable def fzs:List D->List D
 | []=>[]
 | d::l=>fz d::fzs l
end
mutual
noncomputable def frz:D->Bool
 | .tup l=>frzs l
 | .lst o l=>!o&&frzs l
 | .dK o _ l=>!o&&frzs l
 | .dT o _ l=>!o&&frzs l
 | .ins o _ _ l=>!o&&frzs l
 | .non=>true | .bl _=>true | .int _=>true | .str _=>true | .dead=>true | .exc _ _=>true
noncomputable def frzs:List D->Bool
 | []=>true
 | d::l=>frz d&&frzs l
end
mutual
theorem kj:∀ d:D,frz d=true->fz d=d
 | .tup l,h=>by rw[frz] at h;rw[fz,qJ l h]
 | .lst o l,h=>by rw[frz,L9] at h;rw[fz,qJ l h.2];cases o<;>simp_all
 | .dK o ks l,h=>by rw[frz,L9] at h;rw[fz,qJ l h.2];cases o<;>simp_all
 | .dT o ks l,h=>by rw[frz,L9] at h;rw[fz,qJ l h.2];cases o<;>simp_all
 | .ins o c ns l,h=>by rw[frz,L9] at h;rw[fz,qJ l h.2];cases o<;>simp_all
 | .non,_=>rfl | .bl _,_=>rfl | .int _,_=>rfl | .str _,_=>rfl | .dead,_=>rfl | .exc _ _,_=>rfl
theorem qJ:∀ l:List D,frzs l=true->fzs l=l
 | [],_=>rfl
 | d::l,h=>by rw[frzs,L9] at h;rw[fzs,kj d h.1,qJ l h.2]
end
mutual
theorem jfK:∀ d:D,frz (fz d)=true
 | .tup l=>by rw[fz,frz];exact Jh l
 | .lst o l=>by rw[fz,frz,Jh l];rfl
 | .dK o ks l=>by rw[fz,frz,Jh l];rfl
 | .dT o ks l=>by rw[fz,frz,Jh l];rfl
 | .ins o c ns l=>by rw[fz,frz,Jh l];rfl
 | .non=>rfl | .bl _=>rfl | .int _=>rfl | .str _=>rfl | .dead=>rfl | .exc _ _=>rfl
theorem Jh:∀ l:List D,frzs (fzs l)=true
 | []=>rfl
 | d::l=>by rw[fzs,frzs,jfK d,Jh l];rfl
end
theorem Jz:∀ l:List D,fzs l=l.map fz
 | []=>rfl
 | d::l=>by rw[fzs,Jz l];rfl
theorem YS:∀ l:List D,frzs l=l.all frz
 | []=>rfl
 | d::l=>by rw[frzs,YS l];rfl
structure RC where
 K:PySem.W.Frag
 cls:Nat->Addr
def kaV:KA->Key
 | .int i=>.inl i
 | .str s=>.inr<|S s
noncomputable abbrev Zn:=Addr->Prop
def FT(R:RC)(Z:Zn)(H:Hp)(a:Addr)(vs:List V):Prop :=
 (Z a/\Rd H a (.tup vs)) \/ ∃(o:Obj) (its:Array Value) (n:Nat),R.K.lookup a=some o/\o.cls=.type "tuple"/\o.data=.seq its n/\its.size<=sizeLine/\Vals vs its.toList/\o.dict=none
def FL(R:RC)(Z:Zn)(H:Hp)(a:Addr)(vs:List V):Prop :=
 (Z a/\Rd H a (.lst vs)) \/ ∃(its:Array Value) (n:Nat),R.K.lookup a=some {cls:=.type "list",data:=.seq its n}/\its.size<=sizeLine/\Vals vs its.toList
def DkA(o:Bool)(H:Hp)(a:Addr)(kvs:List<|Key×V):Prop:=bif o then H a=some (.dK kvs) else Rd H a (.dK kvs)
inductive RpC (rs:List V->List Addr->Prop) (C:Addr->List V->List Addr->Prop) (v:V):Prop
 | mk:∀(a:Addr) (vs:List V) (O':W6),v=.ref a->rs vs O'->C a vs O'->RpC rs C v
inductive RpS (rd:V->List Addr->Prop) (rs:List V->List Addr->Prop) (vs:List V) (O:W6):Prop
 | mk:∀(v:V) (vs':List V) (O1 O2:W6),vs=v::vs'->O=O1++O2->rd v O1->rs vs' O2->RpS rd rs vs O
mutual
def Rep(R:RC)(Z:Zn)(H:Hp):D->V->List Addr->Prop
 | .non,v,O=>v=.non/\O=[]
 | .bl b,v,O=>v=.bl b/\O=[]
 | .int i,v,O=>v=.int i/\O=[]
 | .str s,v,O=>v=.str (S s)/\O=[]
 | .dead,_,O=>O=[]
 | .exc c p,v,O=>∃ a dx,v=.ref a/\Z a/\Z dx/\H a=some (.ext<|xo (R.cls c) a dx)/\H dx=some (.xd [("place",.int p)])/\O=[]
 | .tup l,v,O=>∃ a vs,v=.ref a/\FT R Z H a vs/\Reps R Z H l vs O
 | .lst o l,v,O=>RpC (λvs O'=>Reps R Z H l vs O') (λa vs O'=>bif o then H a=some (.lst vs)/\O=a::O' else FL R Z H a vs/\O'=[]/\O=[]) v
 | .dK o ks l,v,O=>RpC (λvs O'=>Reps R Z H l vs O') (λa vs O'=>ks.length=l.length/\DkA o H a ((ks.map kaV).zip vs)/\bif o then O=a::O' else Z a/\O'=[]/\O=[]) v
 | .dT o ks l,v,O=>RpC (λvs O'=>Reps R Z H l vs O') (λa vs O'=>ks.length=l.length/\H a=some (.dT<|(ks.map<|List.map kaV).zip vs)/\bif o then O=a::O' else Z a/\O'=[]/\O=[]) v
 | .ins o c ns l,v,O=>∃ a dx vs O',v=.ref a/\Reps R Z H l vs O'/\ns.length=l.length/\H a=some (.ins (R.cls c) dx<|ns.zip vs)/\bif o then O=a::O' else Z a/\O'=[]/\O=[]
def Reps(R:RC)(Z:Zn)(H:Hp):List D->List V->List Addr->Prop
 | [],vs,O=>vs=[]/\O=[]
 | d::ds,vs,O=>RpS (λv O1=>Rep R Z H d v O1) (λvs' O2=>Reps R Z H ds vs' O2) vs O
end
def FT.sq(h:FT R Z H a vs):SqT R.K H a vs:=by
 rcases h with⟨_,h⟩ | ⟨o,b,n,c,d,e,f,g,_⟩
 ·exact .inl h
 ·exact .inr ⟨o,b,n,c,d,e,f,g⟩
def FL.sqx(h:FL R Z H a vs):SqX R.K H a vs:=by
 rcases h with⟨_,h⟩ | h
 ·exact .inl h
 ·exact .inr h
def FL.sq(h:FL R Z H a vs):SqL R.K H a vs:=h.sqx.sq
def Rd.agree(e:H' a=H a)(h:Rd H a u):Rd H' a u:=by
 unfold Rd at h ⊢;rw[e];exact h
def FT.frame(hz:∀ a,Z a->Z' a)(b:∀ a,Z a->H' a=H a)(h:FT R Z H a vs):FT R Z' H' a vs:=by
 rcases h with⟨z,h⟩ | h
 ·exact .inl ⟨hz a z,Rd.agree (b a z) h⟩
 ·exact .inr h
def FL.frame(hz:∀ a,Z a->Z' a)(b:∀ a,Z a->H' a=H a)(h:FL R Z H a vs):FL R Z' H' a vs:=by
 rcases h with⟨z,h⟩ | h
 ·exact .inl ⟨hz a z,Rd.agree (b a z) h⟩
 ·exact .inr h
mutual
theorem Rep.frame(hz:∀ a,Z a->Z' a)(hH:∀ a,Z a->H' a=H a):∀{d:D}{v:V}{O:W6},Rep R Z H d v O->(∀ a∈O,H' a=H a)->Rep R Z' H' d v O
 | .non,_,_,h,_=>by rw[Rep] at h ⊢;exact h
 | .bl _,_,_,h,_=>by rw[Rep] at h ⊢;exact h
 | .int _,_,_,h,_=>by rw[Rep] at h ⊢;exact h
 | .str _,_,_,h,_=>by rw[Rep] at h ⊢;exact h
 | .dead,_,_,h,_=>by rw[Rep] at h ⊢;exact h
 | .exc _ _,_,_,h,_=>by
  rw[Rep] at h ⊢;obtain⟨a,dx,e,z1,z2,h1,h2,h3⟩:=h;exact⟨a,dx,e,hz a z1,hz dx z2,(hH a z1).trans h1,(hH dx z2).trans h2,h3⟩
 | .tup l,_,_,h,hO=>by
  rw[Rep] at h ⊢;obtain⟨a,vs,e,t,r⟩:=h;exact⟨a,vs,e,t.frame hz hH,Reps.frame hz hH r hO⟩
 | .lst o l,_,_,h,hO=>by
  rw[Rep] at h ⊢;obtain⟨a,vs,O',e,r,h⟩:=h;cases o with
  | true=>
   obtain⟨h1,rfl⟩:=h;exact⟨a,vs,O',e,Reps.frame hz hH r λb hb=>hO b<|L5 _ hb,by rw[cond_true,hO a L6];exact⟨h1,rfl⟩⟩
  | false=>
   obtain⟨h1,rfl,rfl⟩:=h;exact⟨a,vs,[],e,Reps.frame hz hH r (λb hb=>nomatch hb),h1.frame hz hH,rfl,rfl⟩
 | .dK o ks l,_,_,h,hO=>by
  rw[Rep] at h ⊢;obtain⟨a,vs,O',e,r,hl,hd,h⟩:=h;cases o with
  | true=>
   have h:=(show _=_ from h);subst h;exact⟨a,vs,O',e,Reps.frame hz hH r λb hb=>hO b<|L5 _ hb,hl,by show H' a=some _;rw[hO a L6];exact hd,rfl⟩
  | false=>
   obtain⟨h1,rfl,rfl⟩:=h;exact⟨a,vs,[],e,Reps.frame hz hH r (λb hb=>nomatch hb),hl,Rd.agree (hH a h1) hd,hz a h1,rfl,rfl⟩
 | .dT o ks l,_,_,h,hO=>by
  rw[Rep] at h ⊢;obtain⟨a,vs,O',e,r,hl,hd,h⟩:=h;cases o with
  | true=>
   have h:=(show _=_ from h);subst h;exact⟨a,vs,O',e,Reps.frame hz hH r λb hb=>hO b<|L5 _ hb,hl,by rw[hO a L6];exact hd,rfl⟩
  | false=>
   obtain⟨h1,rfl,rfl⟩:=h;exact⟨a,vs,[],e,Reps.frame hz hH r (λb hb=>nomatch hb),hl,by rw[hH a h1];exact hd,hz a h1,rfl,rfl⟩
 | .ins o c ns l,_,_,h,hO=>by
  rw[Rep] at h ⊢;obtain⟨a,dx,vs,O',e,r,hl,hd,h⟩:=h;cases o with
  | true=>
   have h:=(show _=_ from h);subst h;exact⟨a,dx,vs,O',e,Reps.frame hz hH r λb hb=>hO b<|L5 _ hb,hl,by rw[hO a L6];exact hd,rfl⟩
  | false=>
   obtain⟨h1,rfl,rfl⟩:=h;exact⟨a,dx,vs,[],e,Reps.frame hz hH r (λb hb=>nomatch hb),hl,by rw[hH a h1];exact hd,hz a h1,rfl,rfl⟩
theorem Reps.frame(hz:∀ a,Z a->Z' a)(hH:∀ a,Z a->H' a=H a):∀{l:List D}{vs:List V}{O:W6},Reps R Z H l vs O->(∀ a∈O,H' a=H a)->Reps R Z' H' l vs O
 | [],_,_,h,_=>by rw[Reps] at h ⊢;exact h
 | d::l,_,_,h,hO=>by
  rw[Reps] at h ⊢;obtain⟨v,vs,O1,O2,e,rfl,r1,r2⟩:=h;exact⟨v,vs,O1,O2,e,rfl,Rep.frame hz hH r1 λa ha=>hO a<|List.mem_append_left _ ha,Reps.frame hz hH r2 λa ha=>hO a<|U2 _ ha⟩
end
mutual
theorem Rep.nil:∀{d:D}{v:V}{O:W6},Rep R Z H d v O->frz d=true->O=[]
 | .non,_,_,h,_=>by rw[Rep] at h;exact h.2
 | .bl _,_,_,h,_=>by rw[Rep] at h;exact h.2
 | .int _,_,_,h,_=>by rw[Rep] at h;exact h.2
 | .str _,_,_,h,_=>by rw[Rep] at h;exact h.2
 | .dead,_,_,h,_=>by rw[Rep] at h;exact h
 | .exc _ _,_,_,h,_=>by rw[Rep] at h;obtain⟨_,_,_,_,_,_,_,h⟩:=h;exact h
 | .tup l,_,_,h,f=>by
  rw[Rep] at h;rw[frz] at f;obtain⟨a,vs,e,t,r⟩:=h;exact Reps.nil r f
 | .lst o l,_,_,h,f=>by
  rw[Rep] at h;rw[frz] at f;obtain⟨a,vs,O',e,r,h⟩:=h;cases o with
  | true=>exact absurd f (by simp)
  | false=>exact h.2.2
 | .dK o ks l,_,_,h,f=>by
  rw[Rep] at h;rw[frz] at f;obtain⟨a,vs,O',e,r,hl,hd,h⟩:=h;cases o with
  | true=>exact absurd f (by simp)
  | false=>exact h.2.2
 | .dT o ks l,_,_,h,f=>by
  rw[Rep] at h;rw[frz] at f;obtain⟨a,vs,O',e,r,hl,hd,h⟩:=h;cases o with
  | true=>exact absurd f (by simp)
  | false=>exact h.2.2
 | .ins o c ns l,_,_,h,f=>by
  rw[Rep] at h;rw[frz] at f;obtain⟨a,dx,vs,O',e,r,hl,hd,h⟩:=h;cases o with
  | true=>exact absurd f (by simp)
  | false=>exact h.2.2
theorem Reps.nil:∀{l:List D}{vs:List V}{O:W6},Reps R Z H l vs O->frzs l=true->O=[]
 | [],_,_,h,_=>by rw[Reps] at h;exact h.2
 | d::l,_,_,h,f=>by
  rw[Reps] at h;rw[frzs,L9] at f;obtain⟨v,vs,O1,O2,e,rfl,r1,r2⟩:=h;rw[Rep.nil r1 f.1,Reps.nil r2 f.2];rfl
end
mutual
theorem Rep.freeze:∀{d:D}{v:V}{O:W6},Rep R Z H d v O->(∀ a,Z a->Z' a)->(∀ a∈O,Z' a)->Rep R Z' H (fz d) v []
 | .non,_,_,h,_,_=>by rw[Rep] at h;rw[fz,Rep];exact⟨h.1,rfl⟩
 | .bl _,_,_,h,_,_=>by rw[Rep] at h;rw[fz,Rep];exact⟨h.1,rfl⟩
 | .int _,_,_,h,_,_=>by rw[Rep] at h;rw[fz,Rep];exact⟨h.1,rfl⟩
 | .str _,_,_,h,_,_=>by rw[Rep] at h;rw[fz,Rep];exact⟨h.1,rfl⟩
 | .dead,_,_,h,_,_=>by rw[fz,Rep]
 | .exc _ _,_,_,h,hz,_=>by
  rw[Rep] at h;rw[fz,Rep];obtain⟨a,dx,e,z1,z2,h1,h2,_⟩:=h;exact⟨a,dx,e,hz a z1,hz dx z2,h1,h2,rfl⟩
 | .tup l,_,_,h,hz,hO=>by
  rw[Rep] at h;rw[fz,Rep];obtain⟨a,vs,e,t,r⟩:=h;exact⟨a,vs,e,t.frame hz λ_ _=>rfl,Reps.freeze r hz hO⟩
 | .lst o l,_,_,h,hz,hO=>by
  rw[Rep] at h;rw[fz,Rep];obtain⟨a,vs,O',e,r,h⟩:=h;cases o with
  | true=>
   obtain⟨h1,rfl⟩:=h;exact⟨a,vs,[],e,Reps.freeze r hz λb hb=>hO b<|L5 _ hb,.inl ⟨hO a L6,.inl h1⟩,rfl,rfl⟩
  | false=>
   obtain⟨h1,rfl,rfl⟩:=h;exact⟨a,vs,[],e,Reps.freeze r hz (λb hb=>nomatch hb),h1.frame hz<|λ_ _=>rfl,rfl,rfl⟩
 | .dK o ks l,_,_,h,hz,hO=>by
  rw[Rep] at h;rw[fz,Rep];obtain⟨a,vs,O',e,r,hl,hd,h⟩:=h;have hl':ks.length=(fzs l).length:=by rw[Jz,L0];exact hl
  cases o with
  | true=>
   have h:=(show _=_ from h);subst h;exact⟨a,vs,[],e,Reps.freeze r hz λb hb=>hO b<|L5 _ hb,hl',.inl hd,hO a L6,rfl,rfl⟩
  | false=>
   obtain⟨h1,rfl,rfl⟩:=h;exact⟨a,vs,[],e,Reps.freeze r hz (λb hb=>nomatch hb),hl',hd,hz a h1,rfl,rfl⟩
 | .dT o ks l,_,_,h,hz,hO=>by
  rw[Rep] at h;rw[fz,Rep];obtain⟨a,vs,O',e,r,hl,hd,h⟩:=h;have hl':ks.length=(fzs l).length:=by rw[Jz,L0];exact hl
  cases o with
  | true=>
   have h:=(show _=_ from h);subst h;exact⟨a,vs,[],e,Reps.freeze r hz λb hb=>hO b<|L5 _ hb,hl',hd,hO a L6,rfl,rfl⟩
  | false=>
   obtain⟨h1,rfl,rfl⟩:=h;exact⟨a,vs,[],e,Reps.freeze r hz (λb hb=>nomatch hb),hl',hd,hz a h1,rfl,rfl⟩
 | .ins o c ns l,_,_,h,hz,hO=>by
  rw[Rep] at h;rw[fz,Rep];obtain⟨a,dx,vs,O',e,r,hl,hd,h⟩:=h;have hl':ns.length=(fzs l).length:=by rw[Jz,L0];exact hl
  cases o with
  | true=>
   have h:=(show _=_ from h);subst h;exact⟨a,dx,vs,[],e,Reps.freeze r hz λb hb=>hO b<|L5 _ hb,hl',hd,hO a L6,rfl,rfl⟩
  | false=>
   obtain⟨h1,rfl,rfl⟩:=h;exact⟨a,dx,vs,[],e,Reps.freeze r hz (λb hb=>nomatch hb),hl',hd,hz a h1,rfl,rfl⟩
theorem Reps.freeze:∀{l:List D}{vs:List V}{O:W6},Reps R Z H l vs O->(∀ a,Z a->Z' a)->(∀ a∈O,Z' a)->Reps R Z' H (fzs l) vs []
 | [],_,_,h,_,_=>by rw[Reps] at h;rw[fzs,Reps];exact⟨h.1,rfl⟩
 | d::l,_,_,h,hz,hO=>by
  rw[Reps] at h;rw[fzs,Reps];obtain⟨v,vs,O1,O2,e,rfl,r1,r2⟩:=h;exact⟨v,vs,[],[],e,rfl,Rep.freeze r1 hz λa ha=>hO a<|List.mem_append_left _ ha,Reps.freeze r2 hz λa ha=>hO a<|U2 _ ha⟩
end
theorem Reps.length:∀{l:List D}{vs:List V}{O:W6},Reps R Z H l vs O->vs.length=l.length
 | [],_,_,h=>by rw[Reps] at h;rw[h.1];rfl
 | d::l,_,_,h=>by
  rw[Reps] at h;obtain⟨v,vs,b,c,rfl,rfl,e,a⟩:=h;rw[M0,M0,Reps.length a]
theorem Reps.append:∀{l m:List D}{vs ws:List V}{O P:W6},Reps R Z H l vs O->Reps R Z H m ws P->Reps R Z H (l++m) (vs++ws) (O++P)
 | [],m,_,_,_,_,h,k=>by rw[Reps] at h;obtain⟨rfl,rfl⟩:=h;exact k
 | d::l,m,_,_,_,_,h,k=>by
  rw[Reps] at h;obtain⟨v,vs,a,e,rfl,rfl,b,c⟩:=h;rw[List.cons_append,Reps];exact⟨v,_,a,_,rfl,List.append_assoc ..,b,Reps.append c k⟩
def Reps.one(h:Rep R Z H d v O):Reps R Z H [d] [v] O:=by
 rw[Reps];exact⟨v,[],O,[],rfl,(M9 O).symm,h,by rw[Reps];exact⟨rfl,rfl⟩⟩
def Reps.cons(h:Rep R Z H d v O)(k:Reps R Z H l vs P):Reps R Z H (d::l) (v::vs) (O++P):=by
 rw[Reps];exact⟨v,vs,O,P,rfl,rfl,h,k⟩
def Reps.empty:Reps R Z H [] [] []:=by rw[Reps];exact⟨rfl,rfl⟩
theorem Reps.at:∀{l:List D}{vs:List V}{O:W6}{i:Nat}{d:D},Reps R Z H l vs O->l[i]?=some d ->
  ∃ v A P B,vs[i]?=some v/\O=A++P++B/\Rep R Z H d v P/\∀{Z':Zn}{H':Hp}{d':D}{v':V}{P':W6},Rep R Z' H' d' v' P'->(∀ a,Z a->Z' a)->(∀ a,Z a->H' a=H a)->(∀ a∈A,H' a=H a)->(∀ a∈B,H' a=H a)->Reps R Z' H' (l.set i d') (vs.set i v') (A++P'++B)
 | [],_,_,_,_,_,e=>by simp at e
 | c::l,_,_,0,d,h,e=>by
  rw[Reps] at h;obtain⟨v,vs,b,j,rfl,rfl,m,n⟩:=h;have e:c=d:=by simpa using e
  subst e;refine⟨v,[],b,j,rfl,rfl,m,λr f g o p=>?_⟩;rw[List.set_cons_zero,List.set_cons_zero,Reps];exact⟨_,vs,_,j,rfl,rfl,r,Reps.frame f g n p⟩
 | c::l,_,_,i+1,d,h,e=>by
  rw[Reps] at h;obtain⟨v,vs,b,j,rfl,rfl,m,n⟩:=h;obtain⟨w,A,P,B,s,rfl,t,k⟩:=Reps.at (i:=i) (d:=d) n ⇑e;refine⟨w,b++A,P,B,by simpa using s,by simp,t,λ{Z' H' d' v' P'} r f g o p=>?_⟩;rw[List.set_cons_succ,List.set_cons_succ,Reps];exact⟨v,_,b,A++P'++B,rfl,by simp,Rep.frame f g m λa q=>o a<|List.mem_append_left _ q,k r f g (λa q=>o a<|U2 _ q) p⟩
def Reps.item{l:List D}{vs:List V}{i:Nat}(h:Reps R Z H l vs [])(e:l[i]?=some d):∃ v,vs[i]?=some v/\Rep R Z H d v []:=by
 obtain⟨v,A,P,B,a,e2,r,_⟩:=h.at e;have:P=[]:=by
  have:=congrArg List.length e2;simp at this;exact List.eq_nil_of_length_eq_zero ∅
 subst this;exact⟨v,a,r⟩
theorem Reps.take:∀{l:List D}{vs:List V}(n:Nat),Reps R Z H l vs []->Reps R Z H (l.take n) (vs.take n) []
 | _,_,0,_=>by simp;exact .empty
 | [],_,n+1,h=>by rw[Reps] at h;rw[h.1];exact .empty
 | d::l,_,n+1,h=>by
  rw[Reps] at h;obtain⟨v,vs,c,f,rfl,e,a,b⟩:=h;obtain⟨rfl,rfl⟩:=List.append_eq_nil_iff.mp e.symm;rw[List.take_succ_cons,List.take_succ_cons];exact .cons a<|Reps.take n b
theorem Reps.drop:∀{l:List D}{vs:List V}(n:Nat),Reps R Z H l vs []->Reps R Z H (l.drop n) (vs.drop n) []
 | _,_,0,h=>h
 | [],_,n+1,h=>by rw[Reps] at h;rw[h.1];exact .empty
 | d::l,_,n+1,h=>by
  rw[Reps] at h;obtain⟨v,vs,b,c,rfl,e,f,a⟩:=h;obtain⟨rfl,rfl⟩:=List.append_eq_nil_iff.mp e.symm;rw[List.drop_succ_cons,List.drop_succ_cons];exact Reps.drop n a
structure WF(Z:Zn)(H:Hp)(O:W6):Prop where
 nd:O.Nodup
 nz:∀ a∈O,¬ Z a
 od:∀ a∈O,H a≠none
 zd:∀ a,Z a->H a≠none
structure Go(Z:Zn)(H:Hp)(O:W6)(Z':Zn)(H':Hp)(O':W6):Prop where
 wf:WF Z' H' O'
 zz:∀ a,Z a->Z' a
 fr:∀ a,H a≠none->a∉O->H' a=H a
 zn:∀ a,Z' a->Z a\/a∈O\/H a=none
 sub:∀ a∈O',a∈O\/H a=none
 dm:∀ a,H a≠none->H' a≠none
def Go.refl(w:WF Z H O):Go Z H O Z H O:=⟨w,λ_ z=>z,λ_ _ _=>rfl,λ_ z=>.inl z,λ_ h=>.inl h,λ_ h=>h⟩
def Go.trans(g:Go Z H O Z' H' O')(k:Go Z' H' O' Z'' H'' O''):Go Z H O Z'' H'' O'':=by
 refine⟨k.wf,λa z=>k.zz a<|g.zz a z,λa h n=>?_,λa z=>?_,λa h=>?_,λa h=>k.dm a<|g.dm a h⟩
 ·rw[k.fr a (g.dm a h) λb=>(g.sub a b).elim n λe=>h e,g.fr a h n]
 ·rcases k.zn a z with z | z | z
  ·exact g.zn a z
  ·rcases g.sub a z with q | q
   ·exact .inr<|.inl q
   ·exact .inr<|.inr q
  ·by_cases h:H a=none
   ·exact .inr<|.inr h
   ·exact absurd z<|g.dm a h
 ·rcases k.sub a h with q | q
  ·exact g.sub a q
  ·by_cases h:H a=none
   ·exact .inr h
   ·exact absurd q<|g.dm a h
def Go.zH(w:WF Z H O)(g:Go Z H O Z' H' O'):∀ a,Z a->H' a=H a:=λa z=>g.fr a (w.zd a z) λh=>w.nz a h z
def WF.sub(w:WF Z H O)(h:∀ a∈O',a∈O)(n:O'.Nodup):WF Z H O':=⟨n,λa z=>w.nz a<|h a z,λa z=>w.od a<|h a z,w.zd⟩
def WF.mid(w:WF Z H<|A++O++B):WF Z H O:=w.sub (λa h=>by simp[h]) (by have:=w.nd;simp[U8] at this;exact this.2.1.1)
def WF.left(w:WF Z H<|A++B):WF Z H A:=w.sub (λa h=>by simp[h]) (U8.mp w.nd).1
def WF.right(w:WF Z H<|A++B):WF Z H B:=w.sub (λa h=>by simp[h]) (U8.mp w.nd).2.1
def Go.frame(w:WF Z H<|A++O++B)(g:Go Z H O Z' H' O'):Go Z H (A++O++B) Z' H' (A++O'++B):=by
 have nd:=w.nd;simp only[U8,N1] at nd;have new:∀ a∈O',a∉A/\a∉B:=λa h=>by
  rcases g.sub a h with q | q
  ·exact⟨λz=>nd.1.2.2 a z a q rfl,λz=>nd.2.2 a (.inr q) a z rfl⟩
  ·exact⟨λz=>w.od a (by simp[z]) q,λz=>w.od a (by simp[z]) q⟩
 have keep:∀ a,a∈A\/a∈B->a∉O:=λa h z=>by
  rcases h with h | h
  ·exact nd.1.2.2 a h a z rfl
  ·exact nd.2.2 a (.inr z) a h rfl
 refine⟨⟨?_,λa h z=>?_,λa h=>?_,g.wf.zd⟩,g.zz,λa h n=>?_,λa z=>?_,λa h=>?_,g.dm⟩
 ·simp only[U8,N1];exact⟨⟨nd.1.1,g.wf.nd,λa h b k e=>(new b k).1 (e▸h)⟩,nd.2.1,λa h b k e=>by
   rcases h with h | h
   ·exact nd.2.2 a (.inl h) b k e
   ·exact(new a h).2 (e▸k)⟩
 ·simp only[N1] at h;rcases h with(h | h) | h
  ·rcases g.zn a z with q | q | q
   ·exact w.nz a (by simp[h]) q
   ·exact keep a (.inl h) q
   ·exact w.od a (by simp[h]) q
  ·exact g.wf.nz a h z
  ·rcases g.zn a z with q | q | q
   ·exact w.nz a (by simp[h]) q
   ·exact keep a (.inr h) q
   ·exact w.od a (by simp[h]) q
 ·simp only[N1] at h;rcases h with(h | h) | h
  ·exact g.dm a<|w.od a (by simp[h])
  ·exact g.wf.od a h
  ·exact g.dm a<|w.od a (by simp[h])
 ·simp only[N1,not_or] at n;exact g.fr a h n.1.2
 ·rcases g.zn a z with q | q | q
  ·exact .inl q
  ·exact .inr<|.inl (by simp[q])
  ·exact .inr<|.inr q
 ·simp only[N1] at h ⊢;rcases h with(h | h) | h
  ·exact .inl<|.inl<|.inl h
  ·rcases g.sub a h with q | q
   ·exact .inl<|.inl<|.inr q
   ·exact .inr q
  ·exact .inl<|.inr h
def Go.keepA(w:WF Z H<|A++O++B)(g:Go Z H O Z' H' O'):(∀ a∈A,H' a=H a)/\∀ a∈B,H' a=H a:=by
 have nd:=w.nd;simp only[U8,N1] at nd;exact⟨λa h=>g.fr a (w.od a<|by simp[h]) λz=>nd.1.2.2 a h a z rfl,λa h=>g.fr a (w.od a<|by simp[h]) λz=>nd.2.2 a (.inr z) a h rfl⟩
def Go.drop(g:Go Z H O Z' H' O')(h:∀ a∈O'',a∈O')(n:O''.Nodup):Go Z H O Z' H' O'':=⟨g.wf.sub h n,g.zz,g.fr,g.zn,λa q=>g.sub a<|h a q,g.dm⟩
def Go.dropL(g:Go Z H O Z' H'<|A++B):Go Z H O Z' H' B:=g.drop (λa h=>by simp[h]) (U8.mp g.wf.nd).2.1
def Go.dropR(g:Go Z H O Z' H'<|A++B):Go Z H O Z' H' A:=g.drop (λa h=>by simp[h]) (U8.mp g.wf.nd).1
def Go.freeze(w:WF Z H O):Go Z H O (λa=>Z a\/a∈O) H [] :=
 ⟨⟨List.nodup_nil,λa h=>(nomatch h),λa h=>(nomatch h),λa h=>h.elim (w.zd a)<|w.od a⟩,λa z=>.inl z,λ_ _ _=>rfl,λa z=>z.elim .inl λq=>.inr<|.inl q,λa h=>(nomatch h),λ_ h=>h⟩
def Go.newF(w:WF Z H O)(b:H p=none):Go Z H O (λa=>Z a\/a=p) (upd H p o) O:=by
 have ne:∀ a,H a≠none->a≠p:=λa h e=>h<|e▸b;refine⟨⟨w.nd,λa h z=>z.elim (w.nz a h)<|ne a<|w.od a h,λa h=>?_,λa z=>?_⟩,λa z=>.inl z,λa h _=>jh<|ne a h,λa z=>z.elim .inl λe=>.inr<|.inr<|e▸b,λa h=>.inl h,λa h=>?_⟩
 ·rw[jh<|ne a<|w.od a h];exact w.od a h
 ·by_cases e:a=p
  ·rw[e,jA];exact λh=>nomatch h
  ·rw[jh e];exact w.zd a<|z.resolve_right e
 ·rw[jh<|ne a h];exact h
def Go.newO(w:WF Z H O)(b:H p=none):Go Z H O Z (upd H p o) (p::O):=by
 have ne:∀ a,H a≠none->a≠p:=λa h e=>h<|e▸b;refine⟨⟨List.nodup_cons.mpr ⟨λh=>w.od p h b,w.nd⟩,λa h z=>?_,λa h=>?_,λa z=>?_⟩,λa z=>z,λa h _=>jh<|ne a h,λa z=>.inl z,λa h=>?_,λa h=>?_⟩
 ·rcases M4.mp h with e | e
  ·exact w.zd a z<|e▸b
  ·exact w.nz a e z
 ·rcases M4.mp h with e | e
  ·rw[e,jA];exact λh=>nomatch h
  ·rw[jh<|ne a<|w.od a e];exact w.od a e
 ·rw[jh<|ne a<|w.zd a z];exact w.zd a z
 ·rcases M4.mp h with e | e
  ·exact .inr<|e▸b
  ·exact .inl e
 ·rw[jh<|ne a h];exact h
def Go.put(w:WF Z H O)(c:p∈O):Go Z H O Z (upd H p o) O:=by
 have b:∀ a,upd H p o a=none->a≠p/\H a=none:=λa h=>by
  by_cases e:a=p
  ·rw[e,jA] at h;cases h
  ·rw[jh e] at h;exact⟨e,h⟩
 exact⟨⟨w.nd,w.nz,λa h z=>w.od a h (b a z).2,λa z e=>w.zd a z (b a e).2⟩,λa z=>z,λa h n=>jh λe=>n<|e▸c,λa z=>.inl z,λa h=>.inl h,λa h z=>h (b a z).2⟩
noncomputable def jfR:D->Option Bool
 | .bl b=>some b
 | _=>none
@[simp] def blOf_bl(b:Bool):jfR (.bl b)=some b:=rfl
def KN(h:jfR d=some b):d=.bl b:=by cases d<;>cases h<;>rfl
noncomputable def vD:D->Option Int
 | .int i=>some i
 | _=>none
@[simp] def intOf_int(i:Int):vD (.int i)=some i:=rfl
def j7(h:vD d=some n):d=.int n:=by cases d<;>cases h<;>rfl
noncomputable def zj:D->Option (List D)
 | .lst true l=>some l
 | _=>none
@[simp] def VS(l:List D):zj (.lst true l)=some l:=rfl
def YV(h:zj d=some l):d=.lst true l:=by
 cases d with
 | lst o _=>cases o<;>cases h;rfl
 | _=>cases h
noncomputable def jfg:D->Option (List D)
 | .tup l=>some l
 | _=>none
@[simp] def tupOf_tup(l:List D):jfg (.tup l)=some l:=rfl
noncomputable def jea:D->Option (List KA×List D)
 | .dK true ks l=>some (ks,l)
 | _=>none
@[simp] def dkOf_dK(ks:List KA)(l:List D):jea (.dK true ks l)=some (ks,l):=rfl
def xB(h:jea d=some p):d=.dK true p.1 p.2:=by
 cases d with
 | dK o _ _=>cases o<;>cases h;rfl
 | _=>cases h
noncomputable def jh4:D->Option (List KA×List D)
 | .dK _ ks l=>some (ks,l)
 | _=>none
@[simp] def dkAny_e(o:Bool)(ks:List KA)(l:List D):jh4 (.dK o ks l)=some (ks,l):=rfl
def jd0(h:jh4 d=some p):∃ o,d=.dK o p.1 p.2:=by
 cases d with
 | dK o _ _=>cases h;exact⟨o,rfl⟩
 | _=>cases h
noncomputable def jfl:D->Option (List (List KA)×List D)
 | .dT true ks l=>some (ks,l)
 | _=>none
@[simp] def dtOf_dT(ks:List<|List KA)(l:List D):jfl (.dT true ks l)=some (ks,l):=rfl
def wm(h:jfl d=some p):d=.dT true p.1 p.2:=by
 cases d with
 | dT o _ _=>cases o<;>cases h;rfl
 | _=>cases h
noncomputable def zL:D->Option (Nat×List Str×List D)
 | .ins true c ns l=>some (c,ns,l)
 | _=>none
@[simp] def insOf_ins(c:Nat)(ns:List Str)(l:List D):zL (.ins true c ns l)=some (c,ns,l):=rfl
def J3(h:zL d=some (c,ns,l)):d=.ins true c ns l:=by
 cases d with
 | ins o _ _ _=>cases o<;>cases h;rfl
 | _=>cases h
noncomputable def jl8:D->Option (Nat×List Str×List D)
 | .ins _ c ns l=>some (c,ns,l)
 | _=>none
@[simp] def inOf_ins(o:Bool)(c:Nat)(ns:List Str)(l:List D):jl8 (.ins o c ns l)=some (c,ns,l):=rfl
def jhq(h:jl8 d=some (c,ns,l)):∃ o,d=.ins o c ns l:=by
 cases d with
 | ins o _ _ _=>cases h;exact⟨o,rfl⟩
 | _=>cases h
noncomputable def jdw:D->Option (List D)
 | .lst _ l=>some l
 | _=>none
@[simp] def lsOf_lst(o:Bool)(l:List D):jdw (.lst o l)=some l:=rfl
def qC(h:jdw d=some l):∃ o,d=.lst o l:=by
 cases d with
 | lst o _=>cases h;exact⟨o,rfl⟩
 | _=>cases h
def uq(h:jfg d=some l):d=.tup l:=by cases d<;>cases h<;>rfl
noncomputable def jfG:List D->Option D
 | [x]=>some x
 | _=>none
def Jq(h:jfG l=some x):l=[x]:=by
 match l with
 | [_]=>cases h;rfl
noncomputable def two1:List D->Option (D×D)
 | [x,y]=>some (x,y)
 | _=>none
def two1_of(h:two1 l=some p):l=[p.1,p.2]:=by
 match l with
 | [_,_]=>cases h;rfl
def ob{α β:Type}{C:Prop}{o:Option α}{f:α->Option β}{b:β}(e:o.bind f=some b)(k:∀ a,o=some a->f a=some b->C):C:=by
 cases o with
 | none=>cases e
 | some a=>exact k a rfl e
def oc{β:Type}{C:Prop}{c:Bool}{x:Option β}{b:β}(e:(bif c then x else none)=some b)(k:c=true->x=some b->C):C:=by
 cases c with
 | false=>cases e
 | true=>exact k rfl e
noncomputable abbrev Rh:=List<|Option D
def Slots(R:RC)(Z:Zn)(H:Hp):Rh->St->List Addr->Prop
 | [],σ,O=>σ=[]/\O=[]
 | none::ρ,σ,O=>∃ s σ',σ=s::σ'/\Slots R Z H ρ σ' O
 | some d::ρ,σ,O=>∃ v σ' O1 O2,σ=some v::σ'/\O=O1++O2/\Rep R Z H d v O1/\Slots R Z H ρ σ' O2
theorem Slots.frame(hz:∀ a,Z a->Z' a)(c:∀ a,Z a->H' a=H a):∀{ρ:Rh}{σ:St}{O:W6},Slots R Z H ρ σ O->(∀ a∈O,H' a=H a)->Slots R Z' H' ρ σ O
 | [],_,_,h,_=>h
 | none::ρ,_,_,h,b=>by
  obtain⟨s,f,e,r⟩:=h;exact⟨s,f,e,Slots.frame hz c r b⟩
 | some d::ρ,_,_,h,b=>by
  obtain⟨v,f,i,j,e,rfl,k,l⟩:=h;exact⟨v,f,i,j,e,rfl,k.frame hz c λa g=>b a<|List.mem_append_left _ g,Slots.frame hz c l λa g=>b a<|U2 _ g⟩
inductive SPut (R:RC) (Z:Zn) (H:Hp) (ρ:Rh) (σ:St) (O:W6) (i:Nat):Prop
 | mk:∀(A P B:W6),O=A++P++B->(∀ d,ρ[i]?=some (some d)->∃ v,σ[i]?=some (some v)/\Rep R Z H d v P) ->
  (∀{Z':Zn}{H':Hp}{d':D}{v':V}{P':W6},Rep R Z' H' d' v' P'->(∀ a,Z a->Z' a)->(∀ a,Z a->H' a=H a)->(∀ a∈A,H' a=H a)->(∀ a∈B,H' a=H a)->Slots R Z' H' (ρ.set i<|some d') (σ.set i<|some v') (A++P'++B)) ->
  Slots R Z H (ρ.set i none) σ (A++B)->SPut R Z H ρ σ O i
theorem Slots.put:∀{ρ:Rh}{σ:St}{O:W6}{i:Nat},Slots R Z H ρ σ O->i<ρ.length->SPut R Z H ρ σ O i
 | [],_,_,_,_,hi=>absurd hi<|Nat.not_lt_zero _
 | none::ρ,_,_,0,h,hi=>by
  obtain⟨s,b,rfl,r⟩:=h;refine⟨[],[],_,rfl,λd e=>by simp at e,λq f g k j=>?_,?_⟩
  ·exact⟨_,b,_,_,rfl,rfl,q,Slots.frame f g r j⟩
  ·exact⟨s,b,rfl,r⟩
 | some c::ρ,_,_,0,h,hi=>by
  obtain⟨v,b,l,w,rfl,rfl,m,n⟩:=h;refine⟨[],l,w,rfl,λd e=>?_,λq f g k j=>?_,?_⟩
  ·have e:c=d:=by simpa using e
   subst e;exact⟨v,rfl,m⟩
  ·exact⟨_,b,_,_,rfl,rfl,q,Slots.frame f g n j⟩
  ·exact⟨_,b,rfl,n⟩
 | none::ρ,_,_,i+1,h,hi=>by
  obtain⟨s,b,rfl,r⟩:=h;obtain⟨A,P,B,rfl,o,p,t⟩:=Slots.put (i:=i) r ⇑hi;refine⟨A,P,B,rfl,λd e=>o d ⇑e,λq f g k j=>?_,?_⟩
  ·exact⟨s,_,rfl,p q f g k j⟩
  ·exact⟨s,b,rfl,t⟩
 | some c::ρ,_,_,i+1,h,hi=>by
  obtain⟨v,b,l,w,rfl,rfl,m,n⟩:=h;obtain⟨A,P,B,rfl,o,p,t⟩:=Slots.put (i:=i) n ⇑hi;refine⟨l++A,P,B,by simp,λd e=>o d ⇑e,λ{y z C D x} q f g k j=>?_,?_⟩
  ·exact⟨v,_,l,A++x++B,rfl,by simp,m.frame f g λa u=>k a<|List.mem_append_left _ u,p q f g (λa u=>k a<|U2 _ u) j⟩
  ·exact⟨v,b,l,A++B,rfl,by simp,m,t⟩
theorem qd:∀{l:List α}{i:Nat}{x:α},l[i]?=some x->l.set i x=l
 | [],_,_,h=>by simp at h
 | y::l,0,x,h=>by simp at h;subst h;rfl
 | y::l,i+1,x,h=>by rw[List.set_cons_succ,qd ⇑h]
abbrev FE:=Rh->Option (D×Rh)
abbrev FT':=Rh->Option (Bool×Rh)
abbrev FA:=Rh->Option (List D×Rh)
def DE(R:RC)(te:TE)(f:FE):Prop:=∀{σ:St}{ρ ρ':Rh}{Z:Zn}{H:Hp}{O:W6}{d:D},WF Z H O->Slots R Z H ρ σ O->f ρ=some (d,ρ') ->
 ∀{Q:VK},(∀{v:V}{Z':Zn}{H':Hp}{P O':W6},Go Z H O Z' H' (P++O')->Rep R Z' H' d v P->Slots R Z' H' ρ' σ O'->Q v H')->te σ H Q
def DT(R:RC)(tt:TT)(f:FT'):Prop:=∀{σ:St}{ρ ρ':Rh}{Z:Zn}{H:Hp}{O:W6}{b:Bool},WF Z H O->Slots R Z H ρ σ O->f ρ=some (b,ρ') ->
 ∀{Q:Bool->Hp->Prop},(∀{Z':Zn}{H':Hp}{O':W6},Go Z H O Z' H' O'->Slots R Z' H' ρ' σ O'->Q b H')->tt σ H Q
def DA(R:RC)(ta:TA)(f:FA):Prop:=∀{σ:St}{ρ ρ':Rh}{Z:Zn}{H:Hp}{O:W6}{ds:List D},WF Z H O->Slots R Z H ρ σ O->f ρ=some (ds,ρ') ->
 ∀{Q:List V->Hp->Prop},(∀{vs:List V}{Z':Zn}{H':Hp}{P O':W6},Go Z H O Z' H' (P++O')->Reps R Z' H' ds vs P->Slots R Z' H' ρ' σ O'->Q vs H')->ta σ H Q
def DC(R:RC)(r:List V->Hp->VK->Prop)(g:List D->Option D):Prop:=∀{Z:Zn}{H:Hp}{xs:List D}{d:D}{vs:List V}{O:W6},WF Z H O->Reps R Z H xs vs O->g xs=some d ->
 ∀{Q:VK},(∀{w:V}{Z':Zn}{H':Hp}{P:W6},Go Z H O Z' H' P->Rep R Z' H' d w P->Q w H')->r vs H Q
inductive Out where
 | nx (ρ:Rh) | rt (d:D) (ρ:Rh) | bk (ρ:Rh) | ct (ρ:Rh)
abbrev FS:=Rh->Option Out
noncomputable def Out.thn:Out->FS->Option Out
 | .nx ρ,g=>g ρ
 | .rt d ρ,_=>some<|.rt d ρ
 | .bk ρ,_=>some<|.bk ρ
 | .ct ρ,_=>some<|.ct ρ
@[simp] def thn_nx(ρ:Rh)(g:FS):(Out.nx ρ).thn g=g ρ:=rfl
@[simp] def thn_rt(d:D)(ρ:Rh)(g:FS):(Out.rt d ρ).thn g=some (.rt d ρ):=rfl
@[simp] def thn_bk(ρ:Rh)(g:FS):(Out.bk ρ).thn g=some (.bk ρ):=rfl
@[simp] def thn_ct(ρ:Rh)(g:FS):(Out.ct ρ).thn g=some (.ct ρ):=rfl
noncomputable def Out.val:Out->Option D
 | .rt d _=>some d
 | .nx _=>some .non
 | _=>none
@[simp] def val_rt(d:D)(ρ:Rh):(Out.rt d ρ).val=some d:=rfl
@[simp] def val_nx(ρ:Rh):(Out.nx ρ).val=some .non:=rfl
noncomputable def Out.loop:Out->FS->Option Out
 | .nx ρ,g=>g ρ
 | .ct ρ,g=>g ρ
 | .bk ρ,_=>some<|.nx ρ
 | .rt d ρ,_=>some<|.rt d ρ
@[simp] def jhe(ρ:Rh)(g:FS):(Out.nx ρ).loop g=g ρ:=rfl
@[simp] def loop_ct(ρ:Rh)(g:FS):(Out.ct ρ).loop g=g ρ:=rfl
@[simp] def loop_bk(ρ:Rh)(g:FS):(Out.bk ρ).loop g=some (.nx ρ):=rfl
@[simp] def loop_rt(d:D)(ρ:Rh)(g:FS):(Out.rt d ρ).loop g=some (.rt d ρ):=rfl
abbrev PF:=Rh->Option D
noncomputable def pV(i:Nat):PF:=λρ=>match ρ[i]? with
 | some (some d)=>some d
 | _=>none
def Va(h:pV i ρ=some d):ρ[i]?=some (some d):=by
 unfold pV at h;split at h
 ·rename_i x a;rw[a];rw[X7 h]
 ·cases h
def Keep(pm:List Nat)(σ σ':St):Prop:=∀ i∈pm,σ'[i]?=σ[i]?
def OutOk(R:RC)(pm:List Nat)(Z:Zn)(H:Hp)(O:W6)(σ:St)(D':Ends):Out->Prop
 | .nx ρ'=>∀{σ':St}{Z':Zn}{H':Hp}{O':W6},Go Z H O Z' H' O'->Slots R Z' H' ρ' σ' O'->Keep pm σ σ'->D'.nx σ' H'
 | .bk ρ'=>∀{σ':St}{Z':Zn}{H':Hp}{O':W6},Go Z H O Z' H' O'->Slots R Z' H' ρ' σ' O'->Keep pm σ σ'->D'.bk σ' H'
 | .ct ρ'=>∀{σ':St}{Z':Zn}{H':Hp}{O':W6},Go Z H O Z' H' O'->Slots R Z' H' ρ' σ' O'->Keep pm σ σ'->D'.ct σ' H'
 | .rt d ρ'=>∀{v:V}{σ':St}{Z':Zn}{H':Hp}{P O':W6},Go Z H O Z' H' (P++O')->Rep R Z' H' d v P->Slots R Z' H' ρ' σ' O'->Keep pm σ σ'->D'.rt v H'
def DS(R:RC)(pm:List Nat)(ts:TS)(f:FS):Prop:=∀{σ:St}{ρ:Rh}{Z:Zn}{H:Hp}{O:W6}{o:Out},WF Z H O->Slots R Z H ρ σ O->f ρ=some o->∀{D':Ends},OutOk R pm Z H O σ D' o->ts D' σ H
def DG(R:RC)(pm:List Nat)(tg:TG)(f:D->Rh->Option Rh):Prop:=∀{σ:St}{ρ ρ':Rh}{Z:Zn}{H:Hp}{O P:W6}{d:D}{v:V},WF Z H (P++O)->Rep R Z H d v P->Slots R Z H ρ σ O->f d ρ=some ρ' ->
 ∀{Q:St->Hp->Prop},(∀{σ':St}{Z':Zn}{H':Hp}{O':W6},Go Z H (P++O) Z' H' O'->Slots R Z' H' ρ' σ' O'->Keep pm σ σ'->Q σ' H')->tg v σ H Q
def Keep.refl(pm:List Nat)(σ:St):Keep pm σ σ:=λ_ _=>rfl
def Keep.trans(h:Keep pm σ σ')(k:Keep pm σ' σ''):Keep pm σ σ'':=λi hi=>(k i hi).trans (h i hi)
def Keep.set(h:i∉pm):Keep pm σ (σ.set i x):=λj a=>by
 have ne:i≠j:=λe=>h (by rw[e];exact a);rw[List.getElem?_set,if_neg ne]
@[simp] def dMv(i:Nat)(ρ:Rh):Option (D×Rh):=(pV i ρ).bind λd=>some (d,ρ.set i none)
def jmy:DE R (v8 i) (dMv i):=by
 intro σ ρ o Z H O d w h e Q k;refine ob e λc f e=>?_;have f:=Va f;obtain⟨A,P,B,rfl,l,p,m⟩:=h.put (L8.mp f).1;obtain⟨v,n,r⟩:=l c f;cases e;refine⟨v,n,k (P:=P) ((Go.refl w).drop (λa q=>?_) ?_) r m⟩
 ·simp at q ⊢;rcases q with q | q | q<;>simp[q]
 ·have nd:=w.nd;simp only[U8,N1] at nd ⊢;exact⟨nd.1.2.1,⟨nd.1.1,nd.2.1,λa g b j=>nd.2.2 a (.inl g) b j⟩,λa g b j e=>j.elim (λq=>nd.1.2.2 b q a g e.symm) λq=>nd.2.2 a (.inr g) b q e⟩
def jhL(g1:Go Z H O Z' H'<|P1++O1)(g2:Go Z' H' O1 Z'' H''<|P2++O2):Go Z H O Z'' H'' (P1++(P2++O2))/\(∀ a,Z' a->Z'' a)/\(∀ a,Z' a->H'' a=H' a)/\∀ a∈P1,H'' a=H' a:=by
 have w:WF Z' H' (P1++O1++[]):=by simpa using g1.wf
 have f:=g2.frame w;refine⟨g1.trans ⇑f,g2.zz,λa z=>g2.zH g1.wf.right a z,(Go.keepA w g2).1⟩
@[simp] def dOp(g:D->D->Option D)(fa:FE)(fb:FE)(ρ:Rh):Option (D×Rh):=(fa ρ).bind λr=>(fb r.2).bind λt=>(g r.1 t.1).bind λz=>some (z,t.2)
@[simp] def jng(ρ:Rh):Option (List D×Rh):=some ([],ρ)
@[simp] def xN(fa:FE)(fr:FA)(ρ:Rh):Option (List D×Rh):=(fa ρ).bind λx=>(fr x.2).bind λy=>some (x.1::y.1,y.2)
def jlj:DA R VX jng:=by
 intro σ ρ a Z H O d w h e Q k;cases e;exact k (P:=[]) (Go.refl w) Reps.empty h
def jh9(a:DE R ta fa)(b:DA R tr fr):DA R (yj ta tr) (xN fa fr):=by
 intro σ ρ o Z H O d w h e Q k;refine ob e λp c e=>?_;obtain⟨x,q⟩:=p;dsimp only at e;refine ob e λp e2 e=>?_;obtain⟨r,s⟩:=p;cases e;refine a w h c λ{v t u f y} g1 g s1=>?_;refine b g1.wf.right s1 e2 λ{z A B i C} g2 j l=>?_;obtain⟨g3,zz,m,n⟩:=jhL g1 g2;exact k (P:=f++i) ⇑g3 (.cons (g.frame zz m n) j) l
noncomputable def dCB(g:List D->Option D)(fa:FA):FE:=λρ=>(fa ρ).bind λp5=>(g p5.1).bind λz=>some (z,p5.2)
def jl9(c:DC R r g)(f:DA R ta fa):DE R (tCB r ta) (dCB g fa):=by
 intro σ ρ u Z H O d w h e Q k;refine ob e λp i e=>?_;obtain⟨x,y⟩:=p;dsimp only at e;refine ob e λz e3 e=>?_;cases e;refine f w h i λ{v j l m n} g1 o s1=>?_;refine c g1.wf.left o e3 λ{A Z3 B q} g4 s=>?_;have b:WF j l ([]++m++n):=by simpa using g1.wf
 have t:=g4.frame b;refine k (P:=q) (g1.trans ⇑t) s<|s1.frame g4.zz (λa z=>g4.zH g1.wf.left a z) (Go.keepA b g4).2
def ji6(fa:FA):FE:=dCB (λxs=>bif decide (xs.length<=1000) then some (.tup xs) else none) fa
def jiZ(h:n<=1000):n<=sizeLine:=Nat.le_of_lt<|jb1 h
def Rep.tupNew(w:WF Z H O)(b:H p=none)(r:Reps R Z H l vs O):Rep R (λa=>Z a\/a=p) (upd H p<|.tup vs) (.tup l) (.ref p) O:=by
 have ne:∀ a,H a≠none->a≠p:=λa h e=>h<|e▸b;rw[Rep];exact⟨p,vs,rfl,.inl ⟨.inr rfl,.inl jA⟩,r.frame (λa z=>.inl z) (λa z=>jh<|ne a<|w.zd a z) λa h=>jh<|ne a<|w.od a h⟩
def Rep.lstNew(w:WF Z H O)(b:H p=none)(r:Reps R Z H l vs O):Rep R Z (upd H p<|.lst vs) (.lst true l) (.ref p) (p::O):=by
 have ne:∀ a,H a≠none->a≠p:=λa h e=>h<|e▸b;rw[Rep];exact⟨p,vs,O,rfl,r.frame (λa z=>z) (λa z=>jh<|ne a<|w.zd a z) λa h=>jh<|ne a<|w.od a h,jA,rfl⟩
def jj7(g:DA R ta fa):DE R (wO ta) (ji6 fa):=by
 refine jl9 (r:=λa c Q=>a.length<=sizeLine/\∀ p,c p=none->Q (.ref p) (upd c p<|.tup a)) ?_ g;intro Z H a d h O w r e Q k;dsimp only at e;by_cases b:a.length<=1000
 ·rw[X4 b,cond_true] at e;cases e;exact⟨by rw[r.length];exact jiZ b,λp f=>k (Go.newF w f)<|Rep.tupNew w f r⟩
 ·rw[X5 b,cond_false] at e;cases e
noncomputable def wq(fa:FE):FT':=λρ=>match fa ρ with
 | some (.bl b,ρ1)=>some (b,ρ1)
 | _=>none
def Rep.bl_of(r:Rep R Z H (.bl b) v O):v=.bl b/\O=[]:=by rw[Rep] at r;exact r
def jie(a:DE R ta fa):DT R (jap ta) (wq fa):=by
 intro σ ρ g Z H O b w h e Q k;unfold wq at e;split at e
 ·rename_i c i d;cases e;refine a w h d λ{v j l m n} g1 f s1=>?_;obtain⟨rfl,rfl⟩:=f.bl_of;exact⟨b,rfl,k g1 s1⟩
 ·cases e
noncomputable def jiN(fa:FT'):FT':=λρ=>(fa ρ).bind λp10=>some (!p10.1,p10.2)
def jjk(a:DT R ta fa):DT R (jkT ta) (jiN fa):=by
 intro σ ρ f Z H O b w h e Q k;refine ob e λp d e=>?_;obtain⟨c,g⟩:=p;cases e;exact a w h d λ{i j l} g1 s1=>k g1 s1
def Rep.bl_mk:Rep R Z H (.bl b) (.bl b) []:=by rw[Rep];exact⟨rfl,rfl⟩
def OutOk.pre(g:Go Z H O Z1 H1 O1)(kp:Keep pm σ σ1)(k:OutOk R pm Z H O σ D' o):OutOk R pm Z1 H1 O1 σ1 D' o:=by
 cases o with
 | nx ρ=>exact λg2 a b=>k (g.trans g2) a<|kp.trans b
 | bk ρ=>exact λg2 a b=>k (g.trans g2) a<|kp.trans b
 | ct ρ=>exact λg2 a b=>k (g.trans g2) a<|kp.trans b
 | rt d ρ=>exact λg2 c a b=>k (g.trans g2) c a<|kp.trans b
@[simp] def jx(ρ:Rh):Option Out:=some<|.nx ρ
noncomputable def jf(f g:FS):FS:=λρ=>match f ρ with
 | some (.nx ρ1)=>g ρ1
 | o=>o
@[simp] def jfw:jf f g ρ=(f ρ).bind λo=>o.thn g:=by
 unfold jf;cases h:f ρ with
 | none=>rfl
 | some o=>cases o<;>rfl
def jhS:DS R pm jhh jx:=by
 intro σ ρ Z H O o w h e a k;cases e;exact k (Go.refl w) h<|Keep.refl _ _
def jln(c:DS R pm t f)(i:DS R pm u g):DS R pm (jml t u) (jf f g):=by
 intro σ ρ Z H O o w h e a k;rw[jfw] at e;refine ob e λj l e=>c w h l (D':={a with nx:=u a}) ?_;cases j with
 | nx b=>exact λ{n p q r} g1 s1 m=>i g1.wf s1 e<|k.pre g1 m
 | bk b=>cases e;exact k
 | ct b=>cases e;exact k
 | rt d b=>cases e;exact k
@[simp] def sBreak(ρ:Rh):Option Out:=some<|.bk ρ
@[simp] def sCont(ρ:Rh):Option Out:=some<|.ct ρ
@[simp] def K8(fe:FE)(ρ:Rh):Option Out:=(fe ρ).bind λx=>some<|.nx x.2
def jf1(a:DE R ta fa):DS R pm (V5 ta) (K8 fa):=by
 intro σ ρ Z H O o w h e c k;refine ob e λp b e=>?_;obtain⟨x,d⟩:=p;cases e;exact a w h b λg1 f s1=>k g1.dropL s1<|Keep.refl _ _
@[simp] def ym(fe:FE)(ρ:Rh):Option Out:=(fe ρ).bind λx=>some<|.rt x.1 x.2
def jkX(a:DE R ta fa):DS R pm (jmt ta) (ym fa):=by
 intro σ ρ Z H O o w h e d k;refine ob e λp b e=>?_;obtain⟨x,f⟩:=p;cases e;exact a w h b λg1 c s1=>k g1 c s1<|Keep.refl _ _
@[simp] def sRetN(ρ:Rh):Option Out:=some<|.rt .non ρ
@[simp] def sIf(ft:FT')(f:FS)(g:FS)(ρ:Rh):Option Out:=(ft ρ).bind λx=>bif x.1 then f x.2 else g x.2
def jkU(a:DT R tt ft)(b:DS R pm t f)(d:DS R pm u g):DS R pm (jlC tt t u) (sIf ft f g):=by
 intro σ ρ Z H O o w h e j k;refine ob e λp i e=>?_;obtain⟨c,l⟩:=p;dsimp only at e;refine a w h i λ{m n q} g1 s1=>?_;cases c with
 | true=>exact jfW<|b g1.wf s1 e<|k.pre g1<|Keep.refl _ _
 | false=>exact jfm<|d g1.wf s1 e<|k.pre g1<|Keep.refl _ _
@[simp] def sNever(ρ:Rh):Option Out:=none
@[simp] def jd(pm:List Nat)(i:Nat)(d:D)(ρ:Rh):Option Rh:=bif decide (i<ρ.length)&&!decide (i∈pm) then some (ρ.set i<|some d) else none
def K6:DG R pm (KY i) (jd pm i):=by
 intro σ ρ l Z H O P d v w r h e Q k;unfold jd at e;by_cases hi:i<ρ.length
 ·by_cases f:i∈pm
  ·rw[X4 f] at e;simp at e
  ·rw[X4 hi,X5 f] at e;cases e;obtain⟨A,m,B,rfl,n,j,o⟩:=h.put hi;refine k (O':=A++P++B) ((Go.refl w).drop (λa q=>?_) ?_) (j r (λ_ z=>z) (λ_ _=>rfl) (λ_ _=>rfl)<|λ_ _=>rfl)<|Keep.set f
   ·simp at q ⊢;rcases q with q | q | q<;>simp[q]
   ·have nd:=w.nd;simp only[U8,N1] at nd ⊢;exact⟨⟨nd.2.1.1.1,nd.1,λa g b c e=>nd.2.2 b c a (.inl<|.inl g) e.symm⟩,nd.2.1.2.1,λa g b c e=>g.elim (λq=>nd.2.1.2.2 a (.inl q) b c e) λq=>nd.2.2 a q b (.inr c) e⟩
 ·rw[X5 hi] at e;simp at e
@[simp] def jM(fe:FE)(G:D->Rh->Option Rh)(ρ:Rh):Option Out:=(fe ρ).bind λx=>(G x.1 x.2).bind λr=>some<|.nx r
def uT(a:DE R ta fa)(b:DG R pm tg g):DS R pm (jfY ta tg) (jM fa g):=by
 intro σ ρ Z H O o w h e j k;refine ob e λp c e=>?_;obtain⟨x,l⟩:=p;dsimp only at e;refine ob e λm e2 e=>?_;cases e;exact a w h c λg1 d s1=>b g1.wf d s1 e2 λg2 f i=>k (Go.trans g1 g2) f i
def DGs(R:RC)(pm:List Nat)(tg:TGs)(f:List D->Rh->Option Rh):Prop:=∀{σ:St}{ρ ρ':Rh}{Z:Zn}{H:Hp}{O P:W6}{ds:List D}{vs:List V},WF Z H (P++O)->Reps R Z H ds vs P->Slots R Z H ρ σ O->f ds ρ=some ρ' ->
 ∀{Q:St->Hp->Prop},(∀{σ':St}{Z':Zn}{H':Hp}{O':W6},Go Z H (P++O) Z' H' O'->Slots R Z' H' ρ' σ' O'->Keep pm σ σ'->Q σ' H')->tg vs σ H Q
noncomputable def gN:List D->Rh->Option Rh:=λds ρ=>match ds with
 | []=>some ρ
 | _=>none
noncomputable def gC(g:D->Rh->Option Rh)(gs:List D->Rh->Option Rh):List D->Rh->Option Rh:=λds ρ=>match ds with
 | []=>none
 | d::r=>(g d ρ).bind λρ1=>gs r ρ1
noncomputable def gT(n:Nat)(gs:List D->Rh->Option Rh):D->Rh->Option Rh:=λd ρ=>match d with
 | .tup l=>bif decide (l.length=n) then gs l ρ else none
 | _=>none
abbrev PTf:=Rh->Option Bool
abbrev PAf:=Rh->Option (List D)
mutual
theorem Rep.dom:∀{d:D}{v:V}{O:W6},Rep R Z H d v O->∀ a∈O,H a≠none
 | .non,_,_,h,a,ha=>by rw[Rep] at h;rw[h.2] at ha;cases ha
 | .bl _,_,_,h,a,ha=>by rw[Rep] at h;rw[h.2] at ha;cases ha
 | .int _,_,_,h,a,ha=>by rw[Rep] at h;rw[h.2] at ha;cases ha
 | .str _,_,_,h,a,ha=>by rw[Rep] at h;rw[h.2] at ha;cases ha
 | .dead,_,_,h,a,ha=>by rw[Rep] at h;rw[h] at ha;cases ha
 | .exc _ _,_,_,h,a,ha=>by rw[Rep] at h;obtain⟨_,_,_,_,_,_,_,h⟩:=h;rw[h] at ha;cases ha
 | .tup l,_,_,h,a,ha=>by
  rw[Rep] at h;obtain⟨b,vs,e,t,r⟩:=h;exact Reps.dom r a ha
 | .lst o l,_,_,h,a,ha=>by
  rw[Rep] at h;obtain⟨b,vs,O',e,r,h⟩:=h;cases o with
  | true=>
   obtain⟨h1,rfl⟩:=h;rcases M4.mp ha with e | e
   ·rw[e,h1];exact λz=>(nomatch z)
   ·exact Reps.dom r a e
  | false=>rw[h.2.2] at ha;cases ha
 | .dK o ks l,_,_,h,a,ha=>by
  rw[Rep] at h;obtain⟨b,vs,O',e,r,hl,hd,h⟩:=h;cases o with
  | true=>
   have h:=(show _=_ from h);subst h;rcases M4.mp ha with e | e
   ·rw[e,hd];exact λz=>(nomatch z)
   ·exact Reps.dom r a e
  | false=>rw[h.2.2] at ha;cases ha
 | .dT o ks l,_,_,h,a,ha=>by
  rw[Rep] at h;obtain⟨b,vs,O',e,r,hl,hd,h⟩:=h;cases o with
  | true=>
   have h:=(show _=_ from h);subst h;rcases M4.mp ha with e | e
   ·rw[e,hd];exact λz=>(nomatch z)
   ·exact Reps.dom r a e
  | false=>rw[h.2.2] at ha;cases ha
 | .ins o c ns l,_,_,h,a,ha=>by
  rw[Rep] at h;obtain⟨b,dx,vs,O',e,r,hl,hd,h⟩:=h;cases o with
  | true=>
   have h:=(show _=_ from h);subst h;rcases M4.mp ha with e | e
   ·rw[e,hd];exact λz=>(nomatch z)
   ·exact Reps.dom r a e
  | false=>rw[h.2.2] at ha;cases ha
theorem Reps.dom:∀{l:List D}{vs:List V}{O:W6},Reps R Z H l vs O->∀ a∈O,H a≠none
 | [],_,_,h,a,ha=>by rw[Reps] at h;rw[h.2] at ha;cases ha
 | d::l,_,_,h,a,ha=>by
  rw[Reps] at h;obtain⟨v,vs,O1,O2,e,rfl,r1,r2⟩:=h;rcases N1.mp ha with q | q
  ·exact Rep.dom r1 a q
  ·exact Reps.dom r2 a q
end
theorem Slots.dom:∀{ρ:Rh}{σ:St}{O:W6},Slots R Z H ρ σ O->∀ a∈O,H a≠none
 | [],_,_,h,a,b=>by rw[h.2] at b;cases b
 | none::ρ,_,_,h,a,b=>by obtain⟨s,c,rfl,r⟩:=h;exact Slots.dom r a b
 | some d::ρ,_,_,h,a,b=>by
  obtain⟨v,c,g,i,rfl,rfl,e,f⟩:=h;rcases N1.mp b with q | q
  ·exact e.dom a q
  ·exact Slots.dom f a q
abbrev Zd(Z:Zn)(H:Hp):Prop:=∀ a,Z a->H a≠none
def wf0(z:Zd Z H):WF Z H []:=⟨List.nodup_nil,λa h=>(nomatch h),λa h=>(nomatch h),z⟩
def Go.id(z:Zd Z H):Go Z H [] Z H []:=Go.refl<|wf0 z
def Go.same(g:Go Z H [] Z' H' P):∀ a,H a≠none->H' a=H a:=λa h=>g.fr a h<|λz=>(nomatch z)
def Go.rep(z:Zd Z H)(g:Go Z H [] Z' H' P)(r:Rep R Z H d v O):Rep R Z' H' d v O:=r.frame g.zz (λa h=>g.same a<|z a h) λa h=>g.same a<|r.dom a h
def Go.reps(z:Zd Z H)(g:Go Z H [] Z' H' P)(r:Reps R Z H l vs O):Reps R Z' H' l vs O:=r.frame g.zz (λa h=>g.same a<|z a h) λa h=>g.same a<|r.dom a h
def Go.slots(z:Zd Z H)(g:Go Z H [] Z' H' P)(r:Slots R Z H ρ σ O):Slots R Z' H' ρ σ O:=r.frame g.zz (λa h=>g.same a<|z a h) λa h=>g.same a<|r.dom a h
def Go.pair(g:Go Z H [] Z' H' P)(k:Go Z' H' [] Z'' H'' P2):Go Z H [] Z'' H'' (P++P2):=by
 have w:WF Z' H' (P++[]++[]):=by simpa using g.wf
 have f:=k.frame w;exact g.trans ⇑f
def Go.to0(g:Go Z H O Z' H' P):Go Z H O Z' H' []:=g.drop (λa h=>(nomatch h)) List.nodup_nil
def Go.widen(w:WF Z H O)(g:Go Z H [] Z' H' P):Go Z H O Z' H' (P++O):=by
 have f:=g.frame (A:=[]) (B:=O) ⇑w;simpa using f
def PP(R:RC)(te:TE)(p:PF):Prop:=∀{σ:St}{ρ:Rh}{Z:Zn}{H:Hp}{O:W6}{d:D},Zd Z H->Slots R Z H ρ σ O->p ρ=some d ->
 ∀{Q:VK},(∀{v:V}{Z':Zn}{H':Hp}{P:W6},Go Z H [] Z' H' P->Rep R Z' H' d v P->Q v H')->te σ H Q
def PB(R:RC)(te:TE)(p:PF):Prop:=∀{σ:St}{ρ:Rh}{Z:Zn}{H:Hp}{O:W6}{d:D},Zd Z H->Slots R Z H ρ σ O->p ρ=some d ->
 ∀{Q:VK},(∀{v:V}{Z':Zn}{H':Hp}{P:W6},Go Z H [] Z' H' []->Rep R Z' H' d v P->Q v H')->te σ H Q
def PPs(R:RC)(ta:TA)(p:PAf):Prop:=∀{σ:St}{ρ:Rh}{Z:Zn}{H:Hp}{O:W6}{ds:List D},Zd Z H->Slots R Z H ρ σ O->p ρ=some ds ->
 ∀{Q:List V->Hp->Prop},(∀{vs:List V}{Z':Zn}{H':Hp}{P:W6},Go Z H [] Z' H' P->Reps R Z' H' ds vs P->Q vs H')->ta σ H Q
def PBs(R:RC)(ta:TA)(p:PAf):Prop:=∀{σ:St}{ρ:Rh}{Z:Zn}{H:Hp}{O:W6}{ds:List D},Zd Z H->Slots R Z H ρ σ O->p ρ=some ds ->
 ∀{Q:List V->Hp->Prop},(∀{vs:List V}{Z':Zn}{H':Hp}{P:W6},Go Z H [] Z' H' []->Reps R Z' H' ds vs P->Q vs H')->ta σ H Q
def PTt(R:RC)(tt:TT)(p:PTf):Prop:=∀{σ:St}{ρ:Rh}{Z:Zn}{H:Hp}{O:W6}{b:Bool},Zd Z H->Slots R Z H ρ σ O->p ρ=some b ->
 ∀{Q:Bool->Hp->Prop},(∀{Z':Zn}{H':Hp},Go Z H [] Z' H' []->Q b H')->tt σ H Q
def PP.b(h:PP R te p):PB R te p:=λz s e _ k=>h z s e λg r=>k g.to0 r
def PPs.b(h:PPs R te p):PBs R te p:=λz s e _ k=>h z s e λg r=>k g.to0 r
@[simp] def pF(pa:PF)(ρ:Rh):Option D:=(pa ρ).bind λd=>bif frz d then some d else none
def PB.f(h:PB R te p):PP R te (pF p):=by
 intro σ ρ Z H O d z s e Q k;refine ob e λc a e=>oc e λb e=>?_;cases e;exact h z s a λg r=>by
  cases r.nil b;exact k g r
@[simp] def dP(pa:PF)(ρ:Rh):Option (D×Rh):=(pa ρ).bind λd=>some (d,ρ)
@[simp] def dPT(q:PTf)(ρ:Rh):Option (Bool×Rh):=(q ρ).bind λd=>some (d,ρ)
theorem PP.d(h:PP R te p):DE R te (dP p):=by
 intro σ ρ b Z H O d w s e Q k;refine ob e λc a e=>?_;cases e;exact h w.zd s a λg r=>k (g.widen w) r<|g.slots w.zd s
theorem PTt.d(h:PTt R te p):DT R te (dPT p):=by
 intro σ ρ b Z H O d w s e Q k;refine ob e λc a e=>?_;cases e;exact h w.zd s a λg=>k ⇑(g.widen w) (g.slots w.zd s)
@[simp] def pC(d:D)(ρ:Rh):Option D:=some d
abbrev pI(i:Int):PF:=pC<|.int i
abbrev pS(l:List Nat):PF:=pC<|.str l
def jjO:PB R (v8 i) (pV i):=by
 intro σ ρ Z H O d z s e Q k;unfold pV at e;split at e
 ·rename_i c a;cases e;obtain⟨A,P,B,rfl,b,_⟩:=s.put (L8.mp a).1;obtain⟨v,f,r⟩:=b d a;exact⟨v,f,k (Go.id z) r⟩
 ·cases e
def jlL(a:∀(Z:Zn) (H:Hp),Rep R Z H d v []):PP R (tC v) (pC d):=by
 intro σ ρ Z H O b z s e Q k;cases e;exact k (Go.id z)<|a Z H
def Rep.int_mk:Rep R Z H (.int i) (.int i) []:=by rw[Rep];exact⟨rfl,rfl⟩
def Rep.str_mk:Rep R Z H (.str s) (.str<|S s) []:=by rw[Rep];exact⟨rfl,rfl⟩
def Rep.non_mk:Rep R Z H .non .non []:=by rw[Rep];exact⟨rfl,rfl⟩
def Rep.int_of(r:Rep R Z H (.int i) v O):v=.int i/\O=[]:=by rw[Rep] at r;exact r
def Rep.str_of(r:Rep R Z H (.str s) v O):v=.str (S s)/\O=[]:=by rw[Rep] at r;exact r
def Rep.non_of(r:Rep R Z H .non v O):v=.non/\O=[]:=by rw[Rep] at r;exact r
def BO(R:RC)(r:R2)(g:D->D->Option D):Prop:=∀{Z:Zn}{H:Hp}{x y d:D}{v u:V}{O1 O2:W6},Zd Z H->Rep R Z H x v O1->Rep R Z H y u O2->g x y=some d ->
 ∀{Q:VK},(∀{w:V}{Z':Zn}{H':Hp}{P:W6},Go Z H [] Z' H' P->Rep R Z' H' d w P->Q w H')->r v u H Q
def BO'(R:RC)(r:R2)(g:D->D->Option D):Prop:=∀{Z:Zn}{H:Hp}{x y d:D}{v u:V}{O1 O2:W6},Zd Z H->Rep R Z H x v O1->Rep R Z H y u O2->g x y=some d ->
 ∀{Q:VK},(∀{w:V}{P:W6},Rep R Z H d w P->Q w H)->r v u H Q
def BU(R:RC)(r:V->Hp->VK->Prop)(g:D->Option D):Prop:=∀{Z:Zn}{H:Hp}{x d:D}{v:V}{O:W6},Zd Z H->Rep R Z H x v O->g x=some d ->
 ∀{Q:VK},(∀{w:V}{Z':Zn}{H':Hp}{P:W6},Go Z H [] Z' H' P->Rep R Z' H' d w P->Q w H')->r v H Q
def BC(R:RC)(r:List V->Hp->VK->Prop)(g:List D->Option D):Prop:=∀{Z:Zn}{H:Hp}{xs:List D}{d:D}{vs:List V}{O:W6},Zd Z H->Reps R Z H xs vs O->g xs=some d ->
 ∀{Q:VK},(∀{w:V}{Z':Zn}{H':Hp}{P:W6},Go Z H [] Z' H' P->Rep R Z' H' d w P->Q w H')->r vs H Q
@[simp] def p2(G:D->D->Option D)(pa:PF)(pb:PF)(ρ:Rh):Option D:=(pa ρ).bind λx=>(pb ρ).bind λy=>G x y
@[simp] def p1(G:D->Option D)(pa:PF)(ρ:Rh):Option D:=(pa ρ).bind G
def zm(a:BO R r g)(b:PB R ta pa)(c:PB R tb pb):PP R (tOp r ta tb) (p2 g pa pb):=by
 intro σ ρ Z H O d z s e Q k;refine ob e λx f e=>ob e λy e2 e=>?_;refine b z s f λ{v l m n} g1 h=>?_;refine c g1.wf.zd (g1.slots z s) e2 λ{u o p q} g2 i=>?_;exact a g2.wf.zd (g2.rep g1.wf.zd h) i e λg3 j=>k ((g1.pair g2).pair g3) j
def jmp(a:BO' R r g)(b:PB R ta pa)(c:PB R tb pb):PB R (tOp r ta tb) (p2 g pa pb):=by
 intro σ ρ Z H O d z s e Q k;refine ob e λx f e=>ob e λy e2 e=>?_;refine b z s f λ{v l m n} g1 h=>?_;refine c g1.wf.zd (g1.slots z s) e2 λ{u o p q} g2 i=>?_;exact a g2.wf.zd (g2.rep g1.wf.zd h) i e λj=>k (g1.pair g2) j
def jmM(a:BU R r g)(b:PB R ta pa):PP R (tUn r ta) (p1 g pa):=by
 intro σ ρ Z H O d z s e Q k;refine ob e λx c e=>?_;exact b z s c λ{v i j l} g1 f=>a g1.wf.zd f e λg3 h=>k ⇑(g1.pair g3) h
@[simp] def pN(ρ:Rh):Option (List D):=some []
@[simp] def ja(pa:PF)(p:PAf)(ρ:Rh):Option (List D):=(pa ρ).bind λx=>(p ρ).bind λxs=>some<|x::xs
def pps_nil:PPs R VX pN:=by
 intro σ ρ Z H O d z s e Q k;cases e;exact k (Go.id z) Reps.empty
def pps_cons(a:PP R ta pa)(b:PPs R tr pr):PPs R (yj ta tr) (ja pa pr):=by
 intro σ ρ Z H O d z s e Q k;refine ob e λx c e=>ob e λh e2 e=>?_;cases e;refine a z s c λ{v i j l} g1 f=>?_;refine b g1.wf.zd (g1.slots z s) e2 λ{u m n o} g2 g=>?_;exact k (g1.pair g2)<|.cons (g2.rep g1.wf.zd f) g
def jgL:PBs R VX pN:=pps_nil.b
def jeJ(a:PB R ta pa)(b:PBs R tr pr):PBs R (yj ta tr) (ja pa pr):=by
 intro σ ρ Z H O d z s e Q k;refine ob e λx c e=>ob e λh e2 e=>?_;cases e;refine a z s c λ{v i j l} g1 f=>?_;refine b g1.wf.zd (g1.slots z s) e2 λ{u m n o} g2 g=>?_;exact k (g1.pair g2)<|.cons (g2.rep g1.wf.zd f) g
@[simp] def pCB(G:List D->Option D)(p:PAf)(ρ:Rh):Option D:=(p ρ).bind G
def jjP(a:BC R r g)(b:PBs R ta pa):PP R (tCB r ta) (pCB g pa):=by
 intro σ ρ Z H O d z s e Q k;refine ob e λx c e=>?_;exact b z s c λ{v i j l} g1 f=>a g1.wf.zd f e λg3 h=>k ⇑(g1.pair g3) h
noncomputable def lim(n:Nat):Bool:=decide<|n<=100000
def Jo(h:lim n=true):n<=sizeLine:=N6 (X6 h) (by decide)
def wS(h:lim n=true):n<sizeLine:=E4 (X6 h) (by decide)
@[simp] def vh(p:PAf)(ρ:Rh):Option D:=(p ρ).bind λxs=>bif lim xs.length then some (.tup xs) else none
@[simp] def ky(p:PAf)(ρ:Rh):Option D:=(p ρ).bind λxs=>bif lim xs.length then some (.lst true xs) else none
def jjx(c:PPs R ta pa):PP R (wO ta) (vh pa):=by
 intro σ ρ Z H O d z s e Q k;refine ob e λh f e=>oc e λg e=>?_;cases e;exact c z s f λ{v i j l} g1 a=>⟨by rw[a.length];exact Jo g,λp b=>k (g1.trans<|Go.newF g1.wf b)<|Rep.tupNew g1.wf b a⟩
def jky(c:PPs R ta pa):PP R (jmP ta) (ky pa):=by
 intro σ ρ Z H O d z s e Q k;refine ob e λh f e=>oc e λg e=>?_;cases e;exact c z s f λ{v i j l} g1 a=>⟨by rw[a.length];exact Jo g,λp b=>k (g1.trans<|Go.newO g1.wf b)<|Rep.lstNew g1.wf b a⟩
@[simp] def je(pa:PF)(ρ:Rh):Option Bool:=(pa ρ).bind jfR
@[simp] def Qf(q:PTf)(q':PTf)(ρ:Rh):Option Bool:=(q ρ).bind λb=>bif b then q' ρ else some false
@[simp] def qOr(q:PTf)(q':PTf)(ρ:Rh):Option Bool:=(q ρ).bind λb=>bif b then some true else q' ρ
@[simp] def xQ(q:PTf)(ρ:Rh):Option Bool:=(q ρ).bind λb=>some<|!b
def xG(a:PB R ta pa):PTt R (jap ta) (je pa):=by
 intro σ ρ Z H O b z s e Q k;refine ob e λx c e=>?_;cases KN e;refine a z s c λ{v f g h} g1 d=>?_;obtain⟨rfl,rfl⟩:=d.bl_of;exact⟨b,rfl,k g1⟩
def ji7(a:PTt R ta pa)(d:PTt R tb pb):PTt R (jmu ta tb) (Qf pa pb):=by
 intro σ ρ Z H O b z s e Q k;refine ob e λc f e=>?_;refine a z s f λ{g h} g1=>?_;cases c with
 | true=>exact jfW<|d g1.wf.zd (g1.slots z s) e λg2=>k<|g1.pair g2
 | false=>cases e;exact jfm<|k g1
def jl2(a:PTt R ta pa)(d:PTt R tb pb):PTt R (tOr ta tb) (qOr pa pb):=by
 intro σ ρ Z H O b z s e Q k;refine ob e λc f e=>?_;refine a z s f λ{g h} g1=>?_;cases c with
 | true=>cases e;exact jfW<|k g1
 | false=>exact jfm<|d g1.wf.zd (g1.slots z s) e λg2=>k<|g1.pair g2
def jhZ(a:PTt R ta pa):PTt R (jkT ta) (xQ pa):=by
 intro σ ρ Z H O b z s e Q k;refine ob e λc d e=>?_;cases e;exact a z s d λ{f g} g1=>k g1
@[simp] def jdy(pa:PF)(pb:PF)(ρ:Rh):Option D:=(pa ρ).bind λd=>(jfR d).bind λb=>bif b then pb ρ else some (.bl false)
@[simp] def pOr(pa:PF)(pb:PF)(ρ:Rh):Option D:=(pa ρ).bind λd=>(jfR d).bind λb=>bif b then some (.bl true) else pb ρ
@[simp] def jlS(pa:PF)(ρ:Rh):Option D:=(pa ρ).bind λd=>(jfR d).bind λb=>some<|.bl<|!b
def jkQ(a:PB R ta pa)(b:PP R tb pb):PP R (jiH ta tb) (jdy pa pb):=by
 intro σ ρ Z H O d z s e Q k;refine ob e λx f e=>ob e λc e2 e=>?_;cases KN e2;refine a z s f λ{v i j l} g1 g=>?_;obtain⟨rfl,rfl⟩:=g.bl_of;refine⟨c,rfl,?_⟩;cases c with
 | true=>exact jfW<|b g1.wf.zd (g1.slots z s) e λg2 h=>k ⇑(g1.pair g2) h
 | false=>cases e;exact jfm<|k g1 .bl_mk
def jlu(a:PB R ta pa):PP R (jil ta) (jlS pa):=by
 intro σ ρ Z H O d z s e Q k;refine ob e λx b e=>ob e λc e2 e=>?_;cases KN e2;cases e;refine a z s b λ{v g h i} g1 f=>?_;obtain⟨rfl,rfl⟩:=f.bl_of;exact⟨c,rfl,k g1 .bl_mk⟩
@[simp] def pIf(q:PTf)(pa:PF)(pb:PF)(ρ:Rh):Option D:=(q ρ).bind λb=>bif b then pa ρ else pb ρ
def jl4(b:PTt R tt pt)(f:PP R ta pa)(g:PP R tb pb):PP R (tIf tt ta tb) (pIf pt pa pb):=by
 intro σ ρ Z H O d z s e Q k;refine ob e λc h e=>?_;refine b z s h λ{i j} g1=>?_;cases c with
 | true=>exact jfW<|f g1.wf.zd (g1.slots z s) e λg2 a=>k ⇑(g1.pair g2) a
 | false=>exact jfm<|g g1.wf.zd (g1.slots z s) e λg2 a=>k ⇑(g1.pair g2) a
@[simp] def jcp(G:D->D->Option D)(G':D->D->Option D)(pa:PF)(pb:PF)(pc:PF)(ρ:Rh):Option D:=(pa ρ).bind λx=>(pb ρ).bind λy=>(G x y).bind λd=>(jfR d).bind λb=>bif b then((pc ρ).bind λw=>G' y w) else some (.bl false)
def jfi(j:BO R r g)(c:BO R r' g')(l:PB R ta pa)(m:PB R tb pb)(n:PB R tc pc):PP R (jdm r r' ta tb tc) (jcp g g' pa pb pc):=by
 intro σ ρ Z H O d z s e Q k;refine ob e λx o e=>ob e λy e2 e=>?_;refine l z s o λ{v D E F} g1 p=>?_;refine m g1.wf.zd (g1.slots z s) e2 λ{u G I J} g2 h=>?_;have f:=g1.pair g2;refine ob e λq e3 e=>ob e λb e5 i=>?_;cases KN e5;refine j g2.wf.zd (g2.rep g1.wf.zd p) h e3 λ{K Z3 L M} g3 t=>?_;obtain⟨rfl,rfl⟩:=t.bl_of;have a:=f.pair g3;refine⟨b,rfl,?_⟩;cases b with
 | false=>cases i;exact jfm<|k ⇑a .bl_mk
 | true=>
  refine jfW<|ob i λN w e=>?_;refine n g3.wf.zd (a.slots z s) w λ{P S T U} g4 A=>?_;exact c g4.wf.zd (g4.rep g3.wf.zd<|g3.rep g2.wf.zd h) A e λB C=>k (by simpa using(a.pair g4).pair B) C
def jiM(R:RC)(J:It)(Z:Zn)(H:Hp)(xs:List D):Prop:=∀{Z1:Zn}{H1:Hp},(∀ a,Z a->Z1 a)->(∀ a,Z a->H1 a=H a)->Zd Z1 H1->∀ i:Nat,
 (xs.length<=i->J.stop i H1)/\∀ x,xs[i]?=some x->J.go i H1/\∀ u H2,J.yld i H1 u H2->∃ Z2,Go Z1 H1 [] Z2 H2 []/\Rep R Z2 H2 x u []
def PIt(R:RC)(wi:TI)(p:PAf):Prop:=∀{σ:St}{ρ:Rh}{Z:Zn}{H:Hp}{O:W6}{xs:List D},Zd Z H->Slots R Z H ρ σ O->p ρ=some xs ->
 ∀{Q:It->Hp->Prop},(∀{J:It}{Z':Zn}{H':Hp},Go Z H [] Z' H' []->jiM R J Z' H' xs->Q J H')->wi σ H Q
def jko(K:W5)(tl:TE):TI:=λσ H Q=>tl σ H λx H1=>
 (∃ a,x=.ref a/\(∃ xs,SqL K H1 a xs)/\Q (Itl K a) H1)\/(∃ a,x=.ref a/\(∃ xs,SqT K H1 a xs)/\Q (Itt K a) H1) \/ ∃ l,x=.str (S l)/\Q (Its l) H1
def jfO(B:PE X l tl):PI X tg l (jko X.K tl):=by
 intro c s σ H Q I h;have n:∀ v s1,EP X c σ (λx f=>(∃ a,x=.ref a/\(∃ g,SqL X.K f a g)/\Q (Itl X.K a) f)\/(∃ a,x=.ref a/\(∃ g,SqT X.K f a g)/\Q (Itt X.K a) f) \/ ∃ l,x=.str (S l)/\Q (Its l) f) v s1->wpAny (model X.prog X.w) X.A (pyIter v) (PIE X c σ tg Q) X.xe s1:=by
  rintro v s1 ⟨x,f,d,r,C⟩
  -- each by the layer's own rule,at a name that holds the value
  rcases C with⟨a,rfl,⟨g,u⟩,q⟩ | ⟨a,rfl,⟨g,u⟩,q⟩ | ⟨l,rfl,q⟩
  ·cases r;obtain⟨j,D,p,E⟩:=d.list u;refine wpAny_pyIter_list p.isList ?_;refine⟨↥s1,[↥s1],_,_,f,rfl,d.kept (t':=s1.toks) λb o e=>L7 _ e,ja2 a _,⟨_,E1 _ rfl,rfl,rfl⟩,λb k=>?_,q⟩;have e:b=↥s1:=by simpa using k
   subst e;exact d.fpOk (M8 _)<|d.hok.fresh<|M8 _
  ·cases r;obtain⟨j,D,p,E⟩:=d.tuple u;refine wpAny_pyIter_tuple (show s1.heap.IsTuple a j.toArray from p) ?_;refine⟨↥s1,[↥s1],_,_,f,rfl,d.kept (t':=s1.toks) λb o e=>L7 _ e,jaM a _,⟨_,E1 _ rfl,rfl,rfl⟩,λb k=>?_,q⟩;have e:b=↥s1:=by simpa using k
   subst e;exact d.fpOk (M8 _)<|d.hok.fresh<|M8 _
  ·obtain⟨t,rfl⟩:=r;have m:∀(ty:String),(ty = "str_ascii_iterator" \/ ty = "str_iterator")->(∀ A:Around,A.handled=none->Walks X.prog X.w A ↥s1 [↥s1] [↥s1] (S l).cps.size (SignAt<|S l) (λi h=>h.IsStrIter ↥s1 ty (S l) t i)) ->
     PIE X c σ tg Q (.ref ↥s1) { s1 with heap:=s1.heap.push {cls:=.type ty,data:=.fields #[.str (S l) t,.int 0 0]} }:=λty y W=>by
    refine⟨↥s1,[↥s1],_,_,f,rfl,d.kept (t':=s1.toks) λb o e=>L7 _ e,jdN _ l t ty y W,⟨_,E1 _ rfl,rfl,rfl⟩,λb k=>?_,q⟩;have e:b=↥s1:=by simpa using k
    subst e;exact d.fpOk (M8 _)<|d.hok.fresh<|M8 _
   cases ha:(S l).cps.all (· < 128)
   ·exact wpAny_pyIter_wide ha<|m _ (.inr rfl) λF z=>Walks.strWide z _ (S l) t
   ·exact wpAny_pyIter_ascii ha<|m _ (.inl rfl) λF z=>Walks.strAscii z _ (S l) t
 exact thn (B c s σ H _ I h) n
def Qi:D->Option (List D)
 | .lst _ l=>some<|fzs l
 | .tup l=>some<|fzs l
 | .str s=>some<|s.map λc=>.str [c]
 | _=>none
@[simp] def pIt(pa:PF)(ρ:Rh):Option (List D):=(pa ρ).bind Qi
def jkg(h:FL R Z H a vs)(r:Reps R Z H l vs []):jiM R (Itl R.K a) Z H l:=by
 intro d k f g zd i;have b:=(h.frame f g).sq;have m:Reps R d k l vs []:=r.frame f g λa n=>(nomatch n);refine⟨λhi=>⟨vs,b,by rw[r.length];exact hi⟩,λx o=>?_⟩;obtain⟨v,j,p⟩:=m.item o;refine⟨⟨vs,v,b,j⟩,λu q c=>?_⟩;obtain⟨rfl,c⟩:=c;have e:=c vs b;rw[j] at e;cases e;exact⟨d,Go.id zd,p⟩
def jkf(h:FT R Z H a vs)(r:Reps R Z H l vs []):jiM R (Itt R.K a) Z H l:=by
 intro d k f g zd i;have b:=(h.frame f g).sq;have m:Reps R d k l vs []:=r.frame f g λa n=>(nomatch n);refine⟨λhi=>⟨vs,b,by rw[r.length];exact hi⟩,λx o=>?_⟩;obtain⟨v,j,p⟩:=m.item o;refine⟨⟨vs,v,b,j⟩,λu q c=>?_⟩;obtain⟨rfl,c⟩:=c;have e:=c vs b;rw[j] at e;cases e;exact⟨d,Go.id zd,p⟩
def jfz:jiM R (Its s) Z H (s.map λc=>.str [c]):=by
 intro d g h j zd i;refine⟨λhi=>by show s.length<=i;simpa using hi,λx a=>?_⟩;rw[List.getElem?_map] at a;cases e:s[i]? with
 | none=>rw[e] at a;cases a
 | some c=>
  rw[e] at a;cases a;refine⟨(L8.mp e).1,λu k f=>?_⟩;obtain⟨rfl,l,b,rfl⟩:=f;rw[e] at b;cases b;exact⟨d,Go.id zd,.str_mk⟩
def Go.fz(g:Go Z H [] Z' H' P):Go Z H [] (λa=>Z' a\/a∈P) H' []:=g.trans<|Go.freeze g.wf
def jlZ(h:PP R te p):PIt R (jko R.K te) (pIt p):=by
 intro σ ρ Z H O q z s e Q k;refine ob e λd j e=>?_;refine h z s j λ{v m r n} g1 i=>?_;have c:=i.freeze (Z':=λa=>m a\/a∈n) (λa z=>.inl z) λa z=>.inr z;cases d with
 | lst o l=>
  cases e;rw[fz,Rep] at c;obtain⟨a,f,u,rfl,g,b,rfl,_⟩:=c;exact .inl ⟨a,rfl,⟨f,FL.sq b⟩,k g1.fz<|jkg b g⟩
 | tup l=>
  cases e;rw[fz,Rep] at c;obtain⟨a,f,rfl,b,g⟩:=c;exact .inr<|.inl ⟨a,rfl,⟨f,FT.sq b⟩,k g1.fz<|jkf b g⟩
 | str t=>
  cases e;obtain⟨rfl,rfl⟩:=i.str_of;exact .inr<|.inr ⟨t,rfl,k g1 jfz⟩
 | _=>cases e
noncomputable def qj(lo:Int)(n:Nat):List D:=(List.range n).map λ(i:Nat)=>D.int<|lo+(i:Int)
def jje:jiM R (Itr lo n) Z H (qj lo n):=by
 intro b d e f zd i;refine⟨λhi=>by show n<=i;simpa [qj] using hi,λx a=>?_⟩;unfold qj at a;rw[List.getElem?_map] at a;by_cases hi:i<n
 ·rw[List.getElem?_range hi] at a;cases a;refine⟨hi,λu g c=>?_⟩;obtain⟨rfl,rfl⟩:=c;exact⟨b,Go.id zd,.int_mk⟩
 ·rw[List.getElem?_eq_none ⇑hi] at a;cases a
noncomputable def Km(i:Int):Bool:=Nat.ble i.natAbs 4611686018427387903
def VN(h:Km i=true):-(2 ^ 62)<=i/\i<2 ^ 62:=by
 have h:=Nat.le_of_ble_eq_true h;constructor<;>lia
def VT(l:List D):Option (List D):=(jfG l).bind λx=>(vD x).bind λj=>bif Km j then some (qj 0 j.toNat) else none
@[simp] def JO(p:PAf)(ρ:Rh):Option (List D):=(p ρ).bind VT
def Reps.one_of(r:Reps R Z H [d] vs O):∃ v,vs=[v]/\Rep R Z H d v O:=by
 rw[Reps] at r;obtain⟨v,b,e,f,rfl,rfl,c,a⟩:=r;rw[Reps] at a;obtain⟨rfl,rfl⟩:=a;exact⟨v,rfl,by simpa using c⟩
def Reps.two_of(r:Reps R Z H [d,e] vs O):∃ v u O1 O2,vs=[v,u]/\O=O1++O2/\Rep R Z H d v O1/\Rep R Z H e u O2:=by
 rw[Reps] at r;obtain⟨v,a,O1,O2,rfl,rfl,b,c⟩:=r;obtain⟨u,rfl,f⟩:=c.one_of;exact⟨v,u,O1,O2,rfl,rfl,b,f⟩
def jg2(h:PBs R ta p):PIt R (jgV ta) (JO p):=by
 intro σ ρ Z H O f z s e Q k;refine ob e λl b e=>ob e λx e2 e=>ob e λj e3 e=>oc e λa e=>?_;cases e;cases Jq e2;cases j7 e3;refine h z s b λ{v g i m} g1 c=>?_;obtain⟨u,rfl,d⟩:=c.one_of;obtain⟨rfl,_⟩:=d.int_of;exact⟨j,rfl,(VN a).1,(VN a).2,k g1 jje⟩
def PGt(R:RC)(pm:List Nat)(tg:TG)(f:D->Rh->Option Rh):Prop:=∀{σ:St}{ρ ρ':Rh}{Z:Zn}{H:Hp}{O:W6}{d:D}{v:V},Rep R Z H d v []->Slots R Z H ρ σ O->f d ρ=some ρ' ->
 ∀{Q:St->Hp->Prop},(∀{σ':St}{O':W6},(∀ a∈O',a∈O)->(O.Nodup->O'.Nodup)->Slots R Z H ρ' σ' O'->Keep pm σ σ'->Q σ' H)->tg v σ H Q
def jlp(R:RC)(pm:List Nat)(tg:TGs)(f:List D->Rh->Option Rh):Prop:=∀{σ:St}{ρ ρ':Rh}{Z:Zn}{H:Hp}{O:W6}{ds:List D}{vs:List V},Reps R Z H ds vs []->Slots R Z H ρ σ O->f ds ρ=some ρ' ->
 ∀{Q:St->Hp->Prop},(∀{σ':St}{O':W6},(∀ a∈O',a∈O)->(O.Nodup->O'.Nodup)->Slots R Z H ρ' σ' O'->Keep pm σ σ'->Q σ' H)->tg vs σ H Q
def jei:PGt R pm (KY i) (jd pm i):=by
 intro σ ρ l Z H O d v r h e Q k;unfold jd at e;by_cases hi:i<ρ.length
 ·by_cases c:i∈pm
  ·rw[X4 c] at e;simp at e
  ·rw[X4 hi,X5 c] at e;cases e;obtain⟨A,m,B,rfl,n,f,o⟩:=h.put hi;refine k (O':=A++[]++B) (λa q=>?_) (λnd=>?_) (f r (λ_ z=>z) (λ_ _=>rfl) (λ_ _=>rfl)<|λ_ _=>rfl)<|Keep.set c
   ·simp at q ⊢;rcases q with q | q<;>simp[q]
   ·simp only[U8,N1] at nd;simp only[M9,U8];exact⟨nd.1.1,nd.2.1,λa g b j e=>nd.2.2 a (.inl g) b j e⟩
 ·rw[X5 hi] at e;simp at e
def jeL:jlp R pm jmL gN:=by
 intro σ ρ c Z H O b d r h e Q k;unfold gN at e;cases b with
 | cons _ _=>cases e
 | nil=>
  cases e;rw[Reps] at r;obtain⟨rfl,_⟩:=r;exact⟨rfl,k (λa h=>h) (λh=>h) h<|Keep.refl _ _⟩
def jbK(f:PGt R pm t g)(i:jlp R pm u gs):jlp R pm (jgz t u) (gC g gs):=by
 intro σ ρ z Z H O c A r h e Q k;unfold gC at e;cases c with
 | nil=>cases e
 | cons d c=>
  dsimp only at e;refine ob e λB j e=>?_;rw[Reps] at r;obtain⟨v,b,C,D,rfl,e3,l,m⟩:=r;obtain⟨rfl,rfl⟩:=List.append_eq_nil_iff.mp e3.symm;exact⟨v,b,rfl,f l h j λs1 n o p=>i m o e λs w x y=>k (λa q=>s1 a<|s a q) (λq=>w<|n q) x<|p.trans y⟩
def jgZ(f:jlp R pm u gs):PGt R pm (jlN R.K n u) (gT n gs):=by
 intro σ ρ j Z H O d v r h e Q k;cases d with
 | tup l=>
  unfold gT at e;dsimp only at e;by_cases b:l.length=n
  ·rw[X4 b,cond_true] at e;rw[Rep] at r;obtain⟨a,g,rfl,i,c⟩:=r;exact⟨a,g,rfl,i.sq,by rw[c.length];exact b,f c h e k⟩
  ·rw[X5 b,cond_false] at e;cases e
 | _=>cases e
noncomputable def yB(g:D->Rh->Option Rh)(f:FS):List D->FS
 | [],ρ=>some<|.nx ρ
 | x::xs,ρ=>(g x ρ).bind λr=>(f r).bind λo=>o.loop<|yB g f xs
@[simp] def J2(p:PAf)(G:D->Rh->Option Rh)(f:FS)(ρ:Rh):Option Out:=(p ρ).bind λxs=>yB G f xs ρ
def JZ{l:List α}{i:Nat}(h:l[i]?=some x):l.drop i=x::l.drop (i+1):=by
 obtain⟨hi,rfl⟩:=L8.mp h;exact List.drop_eq_getElem_cons hi
inductive LpF (R:RC) (pm:List Nat) (g:D->Rh->Option Rh) (f:FS) (σ:L2.St) (Z0:Zn) (H0:Hp) (O:W6) (xs:List D) (o:Out) (i m:Nat) (σ':L2.St) (H':Hp):Prop
 | mk:m=xs.length-i->i<=xs.length->∀(ρ':Rh) (Z':Zn) (O':W6),Go Z0 H0 O Z' H' O'->Slots R Z' H' ρ' σ' O'->Keep pm σ σ'->yB g f (xs.drop i) ρ'=some o->LpF R pm g f σ Z0 H0 O xs o i m σ' H'
def jkd(hi:PIt R wi p)(P:PGt R pm tg g)(Q:DS R pm tb f):DS R pm (jm4 wi tg tb) (J2 p g f):=by
 intro σ ρ Z H O o w s e D' k;refine ob e λh S e=>?_;refine hi w.zd s S λ{J r B} g0 T=>?_;have b:Go Z H O r B O:=by simpa using g0.widen w
 refine⟨LpF R pm g f σ r B O h o,
  ⟨h.length,rfl,U4 _,ρ,r,O,Go.refl b.wf,g0.slots w.zd s,Keep.refl _ _,e⟩,?_⟩
 rintro i m σ' K ⟨rfl,U,ρ',L,M,g1,s1,kp,e2⟩;have t:=T (Z1:=L) (H1:=K) g1.zz (λa z=>g1.zH b.wf a z) g1.wf.zd i;by_cases v:i<h.length
 ·right
  have N:h[i]?=some h[i]:=by simp[v]
  obtain⟨go,V⟩:=t.2 _ N;rw[JZ N] at e2;refine ob e2 λρ1 e3 e2=>ob e2 λW X e2=>?_;refine⟨go,λE j=>∃ c l C,Go r B O l j C/\Slots R l j c E C/\Keep pm σ E/\yB g f (h.drop<|i+1) c=some o,λE j ⟨c,l,C,Y,a2,a3,a4⟩=>⟨h.length-(i+1),by lia,rfl,v,c,l,C,Y,a2,a3,a4⟩,λu j hy=>?_⟩;obtain⟨l,g2,r2⟩:=V u j hy;have x:Go L K M l j M:=by simpa using g2.widen g1.wf
  refine P r2 (g2.slots g1.wf.zd s1) e3 λ{σ3 O3} sub nd s3 D=>?_;have g3:Go r B O l j O3:=(g1.trans x).drop sub (nd x.wf.nd);refine Q g3.wf s3 X ?_;cases W with
  | nx c=>exact λ{F y G A} g4 n q=>⟨c,y,A,g3.trans g4,n,kp.trans<|D.trans q,e2⟩
  | ct c=>exact λ{F y G A} g4 n q=>⟨c,y,A,g3.trans g4,n,kp.trans<|D.trans q,e2⟩
  | bk c=>cases e2;exact λ{F y G A} g4 n q=>k (b.trans<|g3.trans g4) n<|kp.trans<|D.trans q
  | rt d c=>cases e2;exact λ{v4 F y G P4 A} g4 r4 n q=>k (b.trans<|g3.trans g4) r4 n<|kp.trans<|D.trans q
 ·left
  have I:i=h.length:=by lia
  refine⟨t.1 ∅,?_⟩;rw[I,List.drop_length] at e2;cases e2;exact k (b.trans g1) s1 kp
noncomputable def jO(ix:List<|Option Nat)(ρ:Rh):Rh:=ix.map λo=>o.bind λj=>(ρ[j]?).join
theorem Jt(s:Slots R Z H ρ σ O):∀ ix:List (Option Nat),∃ O',Slots R Z H (jO ix ρ) (va ix σ) O'
 | []=>⟨[],rfl,rfl⟩
 | o::ix=>by
  obtain⟨O',b⟩:=Jt s ix;show ∃ O',Slots R Z H ((o.bind λj=>(ρ[j]?).join)::jO ix ρ) ((o.bind λj=>(σ[j]?).join)::va ix σ) O';cases e:o.bind λj=>(ρ[j]?).join with
  | none=>exact⟨O',_,_,rfl,b⟩
  | some d=>
   cases o with
   | none=>cases e
   | some j=>
    have a:(ρ[j]?).join=some d:=e;have e2:ρ[j]?=some (some d):=by
     cases q:ρ[j]? with
     | none=>rw[q] at a;cases a
     | some u=>rw[q] at a;rw[show u=some d from a]
    obtain⟨A,P,B,_,c,_⟩:=s.put (L8.mp e2).1;obtain⟨v,f,r⟩:=c d e2;refine⟨P++O',v,_,P,O',?_,rfl,r,b⟩;show((σ[j]?).join::va ix σ)=some v::va ix σ;rw[f];rfl
@[simp] def qT(ρ:Rh):Option Bool:=some true
def jgt:PTt R (λ_ H Q=>Q true H) qT:=by
 intro σ ρ Z H O b z s e Q k;cases e;exact k<|Go.id z
noncomputable def yQ(g:D->Rh->Option Rh)(q:PTf)(p:PF):List D->Rh->Option (List D)
 | [],_=>some []
 | x::xs,ρ=>(g x ρ).bind λρ1=>(q ρ1).bind λb=>bif b then((p ρ1).bind λy=>(yQ g q p xs ρ1).bind λys=>some<|y::ys) else yQ g q p xs ρ1
@[simp] def y9(pi:PAf)(G:D->Rh->Option Rh)(q:PTf)(pa:PF)(ix:List<|Option Nat)(ρ:Rh):Option D:=(pi ρ).bind λxs=>bif lim xs.length then((yQ G q pa xs<|jO ix ρ).bind λys=>some<|.lst true ys) else none
def spP(R:RC)(m:List D->Option D)(n:Nat):Sp:=λvs H Q _=>∃ Z ds d,Zd Z H/\ds.length=n/\Reps R Z H ds vs []/\m ds=some d/\∀{v:V}{Z':Zn}{H':Hp}{P:W6},Go Z H [] Z' H' P->Rep R Z' H' d v P->Q v H'
def fnP(n:Nat)(f:FS)(ds:List D):Option D:=(f<|ds.map some++List.replicate (n-ds.length) none).bind Out.val
theorem Yd:∀ n:Nat,Slots R Z H (List.replicate n none) (List.replicate n none) []
 | 0=>⟨rfl,rfl⟩
 | n+1=>⟨none,_,rfl,Yd n⟩
theorem Yi:∀{ds:List D}{vs:List V}{O:W6}{ρ:Rh}{σ:St}{P:W6},Reps R Z H ds vs O->Slots R Z H ρ σ P->Slots R Z H (ds.map some++ρ) (vs.map some++σ) (O++P)
 | [],_,_,_,_,_,r,s=>by rw[Reps] at r;obtain⟨rfl,rfl⟩:=r;exact s
 | d::ds,_,_,_,_,_,r,s=>by
  rw[Reps] at r;obtain⟨v,a,b,f,rfl,rfl,c,e⟩:=r;exact⟨v,_,b,_,rfl,List.append_assoc ..,c,Yi e s⟩
def jgW(b:DS R [] ts f)(h:spP R (fnP N.length f) n vs H Q E):ts {nx:=λ_ H'=>Q .non H',rt:=Q} (L2.start N vs) H:=by
 obtain⟨Z,a,d,z,l,r,e,k⟩:=h;unfold fnP at e;have s:Slots R Z H (a.map some++List.replicate (N.length-a.length) none) (L2.start N vs) []:=by
  have q:=Yi r<|Yd (R:=R) (Z:=Z) (H:=H)<|N.length-a.length;unfold L2.start;rw[r.length];exact q
 refine ob e λo c e=>?_;cases o with
 | rt m i=>cases e;exact b (wf0 z) s c λg j _ _=>k g.dropR j
 | nx i=>cases e;exact b (wf0 z) s c λg _ _=>k (P:=[]) g.to0 .non_mk
 | _=>cases e
def jiu(h:spP R m n vs H Q E):vs.length=n:=by
 obtain⟨Z,b,d,z,a,r,_⟩:=h;rw[r.length,a]
mutual
noncomputable def yn:D->Bool
 | .tup l=>jN l
 | .lst o l=>o&&jN l
 | .dK o _ l=>o&&jN l
 | .dT o _ l=>o&&jN l
 | .ins o _ _ l=>o&&jN l
 | .non=>true | .bl _=>true | .int _=>true | .str _=>true | .dead=>true | .exc _ _=>false
noncomputable def jN:List D->Bool
 | []=>true
 | d::l=>yn d&&jN l
end
mutual
theorem Rep.thaw(ht:∀ a vs,Z a->Rd H a (.tup vs)->Z' a):∀{d:D}{v:V}{O:W6},Rep R Z H d v O->yn d=true->Rep R Z' H d v O
 | .non,_,_,h,_=>by rw[Rep] at h ⊢;exact h
 | .bl _,_,_,h,_=>by rw[Rep] at h ⊢;exact h
 | .int _,_,_,h,_=>by rw[Rep] at h ⊢;exact h
 | .str _,_,_,h,_=>by rw[Rep] at h ⊢;exact h
 | .dead,_,_,h,_=>by rw[Rep] at h ⊢;exact h
 | .exc _ _,_,_,_,f=>by rw[yn] at f;cases f
 | .tup l,_,_,h,f=>by
  rw[Rep] at h ⊢;rw[yn] at f;obtain⟨a,vs,e,t,r⟩:=h;refine⟨a,vs,e,?_,Reps.thaw ht r f⟩;rcases t with⟨z,q⟩ | q
  ·exact .inl ⟨ht a vs z q,q⟩
  ·exact .inr q
 | .lst o l,_,_,h,f=>by
  rw[Rep] at h ⊢;rw[yn,L9] at f;obtain⟨a,vs,O',e,r,h⟩:=h;cases f.1;exact⟨a,vs,O',e,Reps.thaw ht r f.2,h⟩
 | .dK o ks l,_,_,h,f=>by
  rw[Rep] at h ⊢;rw[yn,L9] at f;obtain⟨a,vs,O',e,r,h⟩:=h;cases f.1;exact⟨a,vs,O',e,Reps.thaw ht r f.2,h⟩
 | .dT o ks l,_,_,h,f=>by
  rw[Rep] at h ⊢;rw[yn,L9] at f;obtain⟨a,vs,O',e,r,h⟩:=h;cases f.1;exact⟨a,vs,O',e,Reps.thaw ht r f.2,h⟩
 | .ins o c ns l,_,_,h,f=>by
  rw[Rep] at h ⊢;rw[yn,L9] at f;obtain⟨a,dx,vs,O',e,r,h⟩:=h;cases f.1;exact⟨a,dx,vs,O',e,Reps.thaw ht r f.2,h⟩
theorem Reps.thaw(ht:∀ a vs,Z a->Rd H a (.tup vs)->Z' a):∀{l:List D}{vs:List V}{O:W6},Reps R Z H l vs O->jN l=true->Reps R Z' H l vs O
 | [],_,_,h,_=>by rw[Reps] at h ⊢;exact h
 | d::l,_,_,h,f=>by
  rw[Reps] at h ⊢;rw[jN,L9] at f;obtain⟨v,vs,O1,O2,e,rfl,r1,r2⟩:=h;exact⟨v,vs,O1,O2,e,rfl,Rep.thaw ht r1 f.1,Reps.thaw ht r2 f.2⟩
end
mutual
theorem Rep.notTup:∀{d:D}{v:V}{O:W6},Rep R Z H d v O->∀ a∈O,∀ vs,¬ Rd H a (.tup vs)
 | .non,_,_,h,a,ha=>by rw[Rep] at h;rw[h.2] at ha;cases ha
 | .bl _,_,_,h,a,ha=>by rw[Rep] at h;rw[h.2] at ha;cases ha
 | .int _,_,_,h,a,ha=>by rw[Rep] at h;rw[h.2] at ha;cases ha
 | .str _,_,_,h,a,ha=>by rw[Rep] at h;rw[h.2] at ha;cases ha
 | .dead,_,_,h,a,ha=>by rw[Rep] at h;rw[h] at ha;cases ha
 | .exc _ _,_,_,h,a,ha=>by rw[Rep] at h;obtain⟨_,_,_,_,_,_,_,h⟩:=h;rw[h] at ha;cases ha
 | .tup l,_,_,h,a,ha=>by
  rw[Rep] at h;obtain⟨b,vs,e,t,r⟩:=h;exact Reps.notTup r a ha
 | .lst o l,_,_,h,a,ha=>by
  rw[Rep] at h;obtain⟨b,vs,O',e,r,h⟩:=h;cases o with
  | true=>
   obtain⟨h1,rfl⟩:=h;rcases M4.mp ha with e | e
   ·subst e;rintro ws (q | ⟨_,q⟩)<;>rw[h1] at q<;>cases q
   ·exact Reps.notTup r a e
  | false=>rw[h.2.2] at ha;cases ha
 | .dK o ks l,_,_,h,a,ha=>by
  rw[Rep] at h;obtain⟨b,vs,O',e,r,hl,hd,h⟩:=h;cases o with
  | true=>
   have h:=(show _=_ from h);subst h;rcases M4.mp ha with e | e
   ·subst e;rintro ws (q | ⟨_,q⟩)<;>rw[hd] at q<;>cases q
   ·exact Reps.notTup r a e
  | false=>rw[h.2.2] at ha;cases ha
 | .dT o ks l,_,_,h,a,ha=>by
  rw[Rep] at h;obtain⟨b,vs,O',e,r,hl,hd,h⟩:=h;cases o with
  | true=>
   have h:=(show _=_ from h);subst h;rcases M4.mp ha with e | e
   ·subst e;rintro ws (q | ⟨_,q⟩)<;>rw[hd] at q<;>cases q
   ·exact Reps.notTup r a e
  | false=>rw[h.2.2] at ha;cases ha
 | .ins o c ns l,_,_,h,a,ha=>by
  rw[Rep] at h;obtain⟨b,dx,vs,O',e,r,hl,hd,h⟩:=h;cases o with
  | true=>
   have h:=(show _=_ from h);subst h;rcases M4.mp ha with e | e
   ·subst e;rintro ws (q | ⟨_,q⟩)<;>rw[hd] at q<;>cases q
   ·exact Reps.notTup r a e
  | false=>rw[h.2.2] at ha;cases ha
theorem Reps.notTup:∀{l:List D}{vs:List V}{O:W6},Reps R Z H l vs O->∀ a∈O,∀ vs,¬ Rd H a (.tup vs)
 | [],_,_,h,a,ha=>by rw[Reps] at h;rw[h.2] at ha;cases ha
 | d::l,_,_,h,a,ha=>by
  rw[Reps] at h;obtain⟨v,vs,O1,O2,e,rfl,r1,r2⟩:=h;rcases N1.mp ha with q | q
  ·exact Rep.notTup r1 a q
  ·exact Reps.notTup r2 a q
end
@[simp] def jT(m:List D->Option D)(p:PAf)(ρ:Rh):Option D:=(p ρ).bind λds=>(m<|fzs ds).bind λd=>bif frzs ds||yn d then some d else none
def Vk(l:List D):(fzs l).length=l.length:=by rw[Jz,L0]
def jcg(g:Zd Z H)(c:Reps R Z H ds vs P1)(i:ds.length=n)(e2:m (fzs ds)=some d)(b:(frzs ds||yn d)=true)
  (k:∀{v:V}{Z':Zn}{H':Hp}{P:W6},Go Z H [] Z' H' P->Rep R Z' H' d v P->Q v H'):spP R m n (vs++[]) H Q E:=by
 refine⟨λa=>Z a\/a∈P1,fzs ds,d,λa h=>h.elim (g a)<|c.dom a,by rw[Vk];exact i,by rw[M9];exact c.freeze (λa z=>.inl z) λa z=>.inr z,e2,λ{v Z' H' P} g2 f=>?_⟩;rw[Bool.or_eq_true] at b;rcases b with b | b
 ·cases c.nil b;exact k ⟨g2.wf,λa z=>g2.zz a<|.inl z,g2.fr,λa z=>(g2.zn a z).imp (λq=>q.resolve_right<|λq=>(nomatch q)) id,g2.sub,g2.dm⟩ f
 ·refine k (Z':=λa=>Z' a/\(a∉P1\/Z a)) ⟨⟨g2.wf.nd,λa h q=>g2.wf.nz a h q.1,g2.wf.od,λa q=>g2.wf.zd a q.1⟩,λa z=>⟨g2.zz a<|.inl z,.inr z⟩,g2.fr,λa z=>?_,g2.sub,g2.dm⟩<|f.thaw (λa j l o=>⟨l,?_⟩) b
  ·rcases g2.zn a z.1 with(q | q) | q
   ·exact .inl q
   ·exact .inl<|z.2.resolve_left λn=>n q
   ·exact .inr q
  ·by_cases e:a∈P1
   ·exact absurd (Rd.agree (g2.same a<|c.dom a e).symm o)<|c.notTup a e j
   ·exact .inl e
def jiq(b:PBs R ta p)(f:∀ ρ ds,p ρ=some ds->ds.length=n):PP R (Qx (spP R m n) [] E0 ta) (jT m p):=by
 intro σ ρ Z H O d z s e Q k;refine ob e λds a e=>ob e λc e2 e=>oc e λg e=>?_;cases e;exact b z s a λg1 h=>jcg g1.wf.zd h (f ρ ds a) e2 g λg2 i=>k ⇑(g1.pair g2) i
@[simp] def sFz(i:Nat)(f:FS)(ρ:Rh):Option Out:=match pV i ρ with | some d=>f (ρ.set i<|some<|fz d) | none=>f ρ
def jnc(h:DS R pm t f):DS R pm t (sFz i f):=by
 intro σ ρ Z H O o w s e m k;unfold sFz at e;split at e
 ·rename_i d hd;have hd:=Va hd;obtain⟨A,P,B,rfl,c,j,_⟩:=s.put (L8.mp hd).1;obtain⟨v,l,r⟩:=c d hd;have g:Go Z H (A++P++B) (λa=>Z a\/a∈P) H (A++[]++B):=(Go.freeze w.mid).frame w;have b:=j (r.freeze (Z':=λa=>Z a\/a∈P) (λa z=>.inl z) λa z=>.inr z) (λa z=>.inl z) (λ_ _=>rfl) (λ_ _=>rfl)<|λ_ _=>rfl;rw[qd l] at b;exact h g.wf b e<|k.pre g<|Keep.refl _ _
 ·exact h w s e k
def uR{l m:W6}(h:∀ c,l.count c<=m.count c)(n:m.Nodup):l.Nodup:=List.nodup_iff_count.mpr λc=>N6 (h c)<|List.nodup_iff_count.mp n c
def jfL{l m:W6}(h:∀ c,l.count c<=m.count c):∀ c∈l,c∈m:=λc a=>List.count_pos_iff.mp<|U3 (List.count_pos_iff.mpr a)<|h c
def Go.at(g:Go Z H O Z' H' P)(b:a∉O)(h:H a=some o):H' a=some o:=(g.fr a (by rw[h];exact λz=>nomatch z) b).trans h
def Go.at0(g:Go Z H [] Z' H' P)(h:H a=some o):H' a=some o:=g.at (λz=>nomatch z) h
noncomputable abbrev Ln:=D->Option (D×(D->D))
inductive LnR (R:RC) (Z:Zn) (H:Hp) (ρ:Rh) (σ:L2.St) (O:W6) (tb:TE) (i:Nat) (x:D) (k:D->D):Prop
 | mk:∀(v:V) (A P B:W6),O=A++P++B->Rep R Z H x v P->(∀{Q:VK},Q v H->tb σ H Q) ->
  (∀{Z':Zn}{H':Hp}{x':D}{P':W6},Rep R Z' H' x' v P'->(∀ a,Z a->Z' a)->(∀ a,Z a->H' a=H a)->(∀ a∈A,H' a=H a)->(∀ a∈B,H' a=H a)->Slots R Z' H' (ρ.set i<|some<|k x') σ (A++P'++B))->LnR R Z H ρ σ O tb i x k
def jaI(R:RC)(tb:TE)(i:Nat)(L:Ln):Prop:=∀{σ:L2.St}{ρ:Rh}{Z:Zn}{H:Hp}{O:W6}{d x:D}{k:D->D},Slots R Z H ρ σ O->ρ[i]?=some (some d)->L d=some (x,k)->LnR R Z H ρ σ O tb i x k
noncomputable def ve:Ln:=λd=>some (d,λx=>x)
def Yz:jaI R (v8 i) i ve:=by
 intro σ ρ Z H O d x k s h e;cases e;obtain⟨A,P,B,rfl,b,c,_⟩:=s.put (L8.mp h).1;obtain⟨v,a,r⟩:=b _ h;refine⟨v,A,P,B,rfl,r,λq=>⟨v,a,q⟩,λf g j l m=>?_⟩;have q:=c f g j l m;rw[qd a] at q;exact q
inductive OwR (R:RC) (Z:Zn) (H:Hp) (l:List D) (sh:Addr->List V->HO) (sd:Prop) (v:V) (O:W6):Prop
 | mk:∀(a dx:Addr) (vs:List V) (O':W6),v=.ref a->Reps R Z H l vs O'->sd->H a=some (sh dx vs)->O=a::O'->OwR R Z H l sh sd v O
def Own(R:RC)(T:D)(l:List D)(sh:Addr->List V->HO)(sd:Prop):Prop:=∀{Z:Zn}{H:Hp}{v:V}{O:W6},Rep R Z H T v O↔OwR R Z H l sh sd v O
def Yr:Own R (.lst true l) l (λ_ vs=>.lst vs) True:=by
 intro Z H v O;rw[Rep];exact⟨λh=>by obtain⟨a,vs,b,e,c,d,f⟩:=h;exact⟨a,0,vs,b,e,c,trivial,d,f⟩,λh=>by obtain⟨a,_,vs,b,e,c,_,d,f⟩:=h;exact⟨a,vs,b,e,c,d,f⟩⟩
def ow_dK:Own R (.dK true ks l) l (λ_ vs=>.dK<|(ks.map kaV).zip vs) (ks.length=l.length):=by
 intro Z H v O;rw[Rep];exact⟨λh=>by obtain⟨a,vs,b,e,c,h,d,f⟩:=h;exact⟨a,0,vs,b,e,c,h,d,f⟩,λh=>by obtain⟨a,_,vs,b,e,c,h,d,f⟩:=h;exact⟨a,vs,b,e,c,h,d,f⟩⟩
def jat:Own R (.dT true ks l) l (λ_ vs=>.dT<|(ks.map<|List.map kaV).zip vs) (ks.length=l.length):=by
 intro Z H v O;rw[Rep];exact⟨λh=>by obtain⟨a,vs,b,e,c,h,d,f⟩:=h;exact⟨a,0,vs,b,e,c,h,d,f⟩,λh=>by obtain⟨a,_,vs,b,e,c,h,d,f⟩:=h;exact⟨a,vs,b,e,c,h,d,f⟩⟩
def ow_ins:Own R (.ins true c ns l) l (λdx vs=>.ins (R.cls c) dx<|ns.zip vs) (ns.length=l.length):=by
 intro Z H v O;rw[Rep];exact⟨λh=>by obtain⟨a,dx,vs,b,e,d,h,f,g⟩:=h;exact⟨a,dx,vs,b,e,d,h,f,g⟩,λh=>by obtain⟨a,dx,vs,b,e,d,h,f,g⟩:=h;exact⟨a,dx,vs,b,e,d,h,f,g⟩⟩
def qw{R:RC}{Z:Zn}{H:Hp}{C:Prop}{σ:L2.St}{ρ:Rh}{O P0:W6}{i:Nat}{tb:TE}{L:Ln}{t y:D}{kk:D->D}{l:List D}{o:Addr->List V->HO}{p:Prop}(E:jaI R tb i L)(w:WF Z H<|P0++O)(s:Slots R Z H ρ σ O)(hi:pV i ρ=some t)(e:L t=some (y,kk))(F:Own R y l o p)
  (k:∀ a dx vs O',Reps R Z H l vs O'->p->H a=some (o dx vs)->(∀{Q:VK},Q (.ref a) H->tb σ H Q)->(∀{O2 P1:W6}{Z2:Zn}{H2:Hp}{x':D}{l':List D}{vs':List V}{sh':Addr->List V->HO}{sd':Prop},Own R x' l' sh' sd'->sd'->Go Z H [] Z2 H2 P1->Reps R Z2 H2 l' vs' O2->(∀ q,O2.count q<=O'.count q+P0.count q+P1.count q) ->
   ∃ O3,Go Z H (P0++O) Z2 (upd H2 a<|sh' dx vs') O3/\Slots R Z2 (upd H2 a<|sh' dx vs') (ρ.set i<|some<|kk x') σ O3)->C):C:=by
 obtain⟨v,A,P,B,rfl,r,G,I⟩:=E s (Va hi) e;obtain⟨a,dx,vs,O',rfl,J,hd,K,rfl⟩:=F.mp r;refine k a dx vs O' J hd K G λ{O2 P1 Z2 H2 x' l' vs' sh' sd'} j n g M cnt=>?_;have f:=g.widen w;have nd:=f.wf.nd;have ct:=List.nodup_iff_count.mp nd a;simp only[U7,List.count_cons,beq_self_eq_true,if_true] at ct;have pos:∀{m:W6},a∈m->0<m.count a:=λh=>List.count_pos_iff.mpr h;generalize N:sh' dx vs'=ob;have d:∀ b,Z2 b->upd H2 a ob b=H2 b:=λb c=>jh λz=>f.wf.nz a (by simp)<|z▸c;have oth:∀ m:List Addr,(∀ b∈m,b∈A++(a::O')++B)->m.count a=0->∀ b∈m,upd H2 a ob b=H b:=λm S U b c=>(jh λz=>by subst z;have:=pos c;lia).trans (g.same b<|w.od b<|U2 _<|S b c);have T:=I (j.mpr ⟨a,dx,vs',O2,rfl,M.frame (λ_ z=>z) d λb c=>jh λz=>by subst z;have:=pos c;have:=cnt b;lia,n,by rw[N];exact jA,rfl⟩) g.zz (λx u=>(d x<|g.zz x u).trans (g.same x<|w.zd x u)) (oth A (λb c=>by simp[c]) ∅)<|oth B (λb c=>by simp[c]) ∅;have le:∀ q,(A++(a::O2)++B).count q<=(P1++(P0++(A++(a::O')++B))).count q:=λq=>by
  have:=cnt q;simp only[U7,List.count_cons];lia
 exact⟨_,(f.trans<|Go.put f.wf<|by simp).drop (jfL le) (uR le nd),T⟩
@[simp] def vx(i:Nat)(L:Ln)(pv:PF)(ρ:Rh):Option Out:=(pv ρ).bind λd=>(pV i ρ).bind λt=>(L t).bind λy=>(zj y.1).bind λl=>bif lim l.length then some (.nx<|ρ.set i<|some<|y.2<|.lst true<|l++[d]) else none
def ja6{R:RC}{pm:List Nat}{i:Nat}{tb te:TE}{L:Ln}{p:PF}(j:jaI R tb i L)(h:PP R te p):DS R pm (V5<|tBM R.K "list" VU tb<|yj te VX) (vx i L p):=by
 intro σ ρ Z H O o w s e z k;refine ob e λd m e=>ob e λt hi e=>ob e λ⟨y,A⟩ e3 e=>ob e λl n e=>oc e λb e=>?_;cases e;cases YV n;refine qw (P0:=[]) j w s hi e3 Yr λa _ c B f _ g r put=>r ⟨.inl ⟨rfl,c,SqL.of g⟩,h w.zd s m λ{u C D E} g1 v=>?_⟩;obtain⟨F,g3,x⟩:=put Yr trivial g1 ((g1.reps w.zd f).append (.one v)) λq=>by simp
 exact⟨a,c,u,rfl,rfl,g1.at0 g,by rw[f.length];exact wS b,k g3 x<|Keep.refl _ _⟩
@[simp] def K4(i:Nat)(pa:PF)(ρ:Rh):Option Out:=(pa ρ).bind λd=>(pV i ρ).bind λx=>(zj x).bind λl=>bif lim l.length then some (.nx<|ρ.set i<|some<|.lst true<|l++[d]) else none
def jkF(h:PP R te p):DS R pm (V5<|tBM R.K "list" VU (v8 i)<|yj te VX) (K4 i p):=ja6 Yz h
def Yx(h:OpR X f r)(h':OpR X f r'):OpR X f (λx y H Q=>r x y H Q\/r' x y H Q):=by
 intro a s σ H x y v u Q I b c q;rcases q with q | q
 ·exact h a s σ H x y v u Q I b c q
 ·exact h' a s σ H x y v u Q I b c q
def Rep.lst_of(r:Rep R Z H (.lst o l) v O):∃ a vs O',v=.ref a/\SqX R.K H a vs/\Reps R Z H l vs O':=by
 rw[Rep] at r;obtain⟨a,vs,O',rfl,b,h⟩:=r;cases o with
 | true=>exact⟨a,vs,O',rfl,SqX.of h.1,b⟩
 | false=>exact⟨a,vs,O',rfl,FL.sqx h.1,b⟩
def Rep.tup_of(r:Rep R Z H (.tup l) v O):∃ a vs,v=.ref a/\SqT R.K H a vs/\Reps R Z H l vs O:=by
 rw[Rep] at r;obtain⟨a,vs,rfl,h,b⟩:=r;exact⟨a,vs,rfl,h.sq,b⟩
def Reps.frozen(r:Reps R Z H l vs O)(f:frzs l=true):Reps R Z H l vs []:=by
 cases r.nil f;exact r
noncomputable def jju(i:Int):Bool:=decide<|Builtin.Int.intBits i<=2 ^ 20
def jdi(h:i.natAbs<2 ^ 1000):jju i=true:=X4<|jaP h (by decide)
def jq(x y:D):Option D:=match x with
 | .int i=>(match y with
  | .int j=>some<|.int<|i+j
  | _=>none)
 | .str a=>(match y with
  | .str b=>bif lim (a.length+b.length) then some (.str<|a++b) else none
  | _=>none)
 | .lst _ a=>(match y with
  | .lst _ b=>bif lim (a.length+b.length)&&(frzs a&&frzs b) then some (.lst true<|a++b) else none
  | _=>none)
 | .tup a=>(match y with
  | .tup b=>bif lim (a.length+b.length)&&(frzs a&&frzs b)&&!a.isEmpty then some (.tup<|a++b) else none
  | _=>none)
 | _=>none
def jmG:R2:=λx y H Q=>∃ a b,x=.str (S a)/\y=.str (S b)/\a.length+b.length<=sizeLine/\Q (.str<|S<|a++b) H
def jdK(K:W5):R2:=λx y H Q=>rI0 (λi j=>.int<|i+j) x y H Q\/jmG x y H Q\/jkC K x y H Q\/jj3 K x y H Q
def jgY:OpR X (binaryOp .Add) (jdK X.K):=Yx jkJ<|Yx jit<|Yx jiJ jiL
def jjB:BO R (jdK R.K) jq:=by
 intro Z H x y d v u F G z g l e Q k;cases x with
 | int i=>
  cases y with
  | int j=>
   cases e;obtain⟨rfl,_⟩:=g.int_of;obtain⟨rfl,_⟩:=l.int_of;exact .inl ⟨i,j,rfl,rfl,k (Go.id z) .int_mk⟩
  | _=>cases e
 | str a=>
  cases y with
  | str b=>
   simp only[jq] at e;refine oc e λc e=>?_;cases e;obtain⟨rfl,_⟩:=g.str_of;obtain⟨rfl,_⟩:=l.str_of;exact .inr<|.inl ⟨a,b,rfl,rfl,Jo c,k (Go.id z) .str_mk⟩
  | _=>cases e
 | lst o a=>
  cases y with
  | lst I b=>
   simp only[jq] at e;refine oc e λc e=>?_;cases e;simp only[L9] at c;obtain⟨p,m,J,rfl,n,f⟩:=g.lst_of;obtain⟨q,r,B,rfl,s,rt⟩:=l.lst_of;have t:=(f.frozen c.2.1).append (rt.frozen c.2.2);exact .inr<|.inr<|.inl ⟨p,q,m,r,rfl,rfl,n,s,by rw[f.length,rt.length];exact Jo c.1,λb h=>k (Go.newO (wf0 z) h)<|Rep.lstNew (wf0 z) h t⟩
  | _=>cases e
 | tup a=>
  cases y with
  | tup b=>
   simp only[jq] at e;refine oc e λc e=>?_;cases e;simp only[L9] at c;obtain⟨p,m,rfl,n,f⟩:=g.tup_of;obtain⟨q,r,rfl,s,rt⟩:=l.tup_of;have t:=(f.frozen c.1.2.1).append (rt.frozen c.1.2.2);have w:m≠[]:=by
    intro C;have:=f.length;rw[C] at this;have A:a=[]:=List.eq_nil_of_length_eq_zero this.symm;rw[A] at c;simp at c
   refine .inr<|.inr<|.inr ⟨p,q,m,r,rfl,rfl,n,s,w,by rw[f.length,rt.length];exact Jo c.1.1,(λA=>?_),λ_ b h=>k (Go.newF (wf0 z) h)<|Rep.tupNew (wf0 z) h t⟩;have D:b=[]:=List.eq_nil_of_length_eq_zero (by rw[<- rt.length,A];rfl);subst D;rw[M9] at k;have E:=f.nil c.1.2.1;subst E;exact k (Go.id z) g
  | _=>cases e
 | _=>cases e
def two(f:Int->Int->Option D)(x y:D):Option D:=(vD x).bind λi=>(vD y).bind λj=>f i j
def two_of(e:two f x y=some d):∃ i j,x=.int i/\y=.int j/\f i j=some d:=ob e λi a e=>ob e λj e2 e=>⟨i,j,j7 a,j7 e2,e⟩
def vk:D->D->Option D:=two λi j=>some<|.int<|i-j
def jlr:BO R (rI0 λi j=>.int<|i-j) vk:=by
 intro Z H x y d v u c f z a b e Q k;replace e:=two_of e;obtain⟨i,j,rfl,rfl,e⟩:=e;cases e;obtain⟨rfl,_⟩:=a.int_of;obtain⟨rfl,_⟩:=b.int_of;exact⟨i,j,rfl,rfl,k (Go.id z) .int_mk⟩
def yT(x y:D):Option D:=match y with
 | .int n=>(match x with
  | .int i=>bif jju i&&jju n then some (.int<|i*n) else none
  | .str a=>bif decide (a.length<=1000)&&(decide (0<=n)&&decide (n<=1000)) then some (.str (List.replicate n.toNat a).flatten) else none
  | _=>none)
 | _=>none
def jf3:R2:=λx y H Q=>rI (λi j=>Builtin.Int.intBits i<=2 ^ 20/\Builtin.Int.intBits j<=2 ^ 20) (λi j=>.int<|i*j) x y H Q \/
 ∃(a:List Nat) (n:Int),x=.str (S a)/\y=.int n/\a.length<=1000/\0<=n/\n<=1000/\Q (.str<|S (List.replicate n.toNat a).flatten) H
def jim:OpR X (binaryOp .Mult) jf3:=Yx jhM jhD
def jjt:BO R jf3 yT:=by
 intro Z H x y d v u g h z c f e Q k;cases y with
 | int n=>
  cases x with
  | int i=>
   simp only[yT] at e;refine oc e λb e=>?_;cases e;rw[L9] at b;obtain⟨rfl,_⟩:=c.int_of;obtain⟨rfl,_⟩:=f.int_of;exact .inl ⟨i,n,rfl,rfl,⟨X6 b.1,X6 b.2⟩,k (Go.id z) .int_mk⟩
  | str a=>
   simp only[yT] at e;refine oc e λb e=>?_;cases e;simp only[L9,decide_eq_true_eq] at b;obtain⟨rfl,_⟩:=c.str_of;obtain⟨rfl,_⟩:=f.int_of;exact .inr ⟨a,n,rfl,rfl,b.1,b.2.1,b.2.2,k (Go.id z) .str_mk⟩
  | _=>cases e
 | _=>cases e
noncomputable def jag(j:Int):Bool:=decide (0<j)&&decide (j<2 ^ 300)
def jcu(h:jag j=true):0<j/\j.natAbs.log2<9000:=by
 unfold jag at h;simp only[L9,decide_eq_true_eq] at h;refine⟨h.1,?_⟩;have a:j.natAbs<2 ^ 300:=by lia
 have b:j.natAbs≠0:=by lia
 have:=(Nat.log2_lt b (k:=300)).mpr a
 lia
def jeX:OpR X (binaryOp .FloorDiv) (rI (λ_ j=>jag j=true) λi j=>.int<|i/j):=opI λi j t u s Q E a q=>by
 obtain⟨b,c⟩:=jcu a;have e:i/j=i.fdiv j:=(Int.fdiv_eq_ediv_of_nonneg i<|Int.le_of_lt b).symm;rw[e] at q;exact PyProof.Rows.floordiv_int ∅ q (.inl<|PyProof.noPylong_of_log2 c)
def jJ:D->D->Option D:=two λi j=>bif jag j then some (.int<|i/j) else none
def jo:D->D->Option D:=two λi j=>bif decide (0<j) then some (.int<|i%j) else none
def YZ:D->D->Option D:=two λi j=>bif decide (0<=j)&&decide (j<=100)&&decide (i.natAbs<2 ^ 64) then some (.int<|i ^ j.toNat) else none
def jjq:BO R (rI (λ_ j=>jag j=true) λi j=>.int<|i/j) jJ:=by
 intro Z H x y d v u f g z a b e Q k;replace e:=two_of e;obtain⟨i,j,rfl,rfl,e⟩:=e;refine oc e λc e=>?_;cases e;obtain⟨rfl,_⟩:=a.int_of;obtain⟨rfl,_⟩:=b.int_of;exact⟨i,j,rfl,rfl,c,k (Go.id z) .int_mk⟩
def jjU:BO R (rI (λ_ j=>0<j) λi j=>.int<|i%j) jo:=by
 intro Z H x y d v u f g z b c e Q k;replace e:=two_of e;obtain⟨i,j,rfl,rfl,e⟩:=e;by_cases a:0<j
 ·rw[X4 a] at e;cases e;obtain⟨rfl,_⟩:=b.int_of;obtain⟨rfl,_⟩:=c.int_of;exact⟨i,j,rfl,rfl,a,k (Go.id z) .int_mk⟩
 ·rw[X5 a] at e;cases e
def ji3:BO R (rI jme λi j=>.int<|i ^ j.toNat) YZ:=by
 intro Z H x y d v u f g z b c e Q k;replace e:=two_of e;obtain⟨i,j,rfl,rfl,e⟩:=e;refine oc e λa e=>?_;cases e;simp only[L9,decide_eq_true_eq] at a;obtain⟨rfl,_⟩:=b.int_of;obtain⟨rfl,_⟩:=c.int_of;exact⟨i,j,rfl,rfl,⟨a.1.1,by lia,a.2⟩,k (Go.id z) .int_mk⟩
noncomputable def xj:D->Option D
 | .int i=>some<|.int<|-i
 | _=>none
def jkh:BU R (rU λi=>.int<|-i) xj:=by
 intro Z H x d v O z a e Q k;cases x with
 | int i=>
  cases e;obtain⟨rfl,_⟩:=a.int_of;exact⟨i,rfl,k (Go.id z) .int_mk⟩
 | _=>cases e
def opB(g:Int->Int->Bool):D->D->Option D:=two λi j=>some<|.bl<|g i j
def jlM:BO R (rI0 λi j=>.bl<|g i j) (opB g):=by
 intro Z H x y d v u c f z a b e Q k;replace e:=two_of e;obtain⟨i,j,rfl,rfl,e⟩:=e;cases e;obtain⟨rfl,_⟩:=a.int_of;obtain⟨rfl,_⟩:=b.int_of;exact⟨i,j,rfl,rfl,k (Go.id z) .bl_mk⟩
abbrev jdx:D->D->Option D:=opB λi j=>decide<|i<j
abbrev jns:D->D->Option D:=opB λi j=>decide<|i<=j
abbrev jaa:D->D->Option D:=opB λi j=>decide<|j<i
abbrev jmH:D->D->Option D:=opB λi j=>decide<|j<=i
noncomputable def jeP:D->Bool
 | .non=>true
 | _=>false
noncomputable def jkq:D->Bool
 | .dead=>true
 | _=>false
def jaV(x y:D):Option D:=bif jeP y&&!jkq x then some (.bl<|jeP x) else none
def jdA(h:jeP y=true):y=.non:=by
 cases y with
 | non=>rfl
 | _=>cases h
def jch(r:Rep R Z H x v O)(hd:∀(h:x=.dead),False):decide (v=V.non)=jeP x:=by
 cases x with
 | non=>obtain⟨rfl,_⟩:=r.non_of;rfl
 | bl b=>obtain⟨rfl,_⟩:=r.bl_of;rfl
 | int i=>obtain⟨rfl,_⟩:=r.int_of;rfl
 | str s=>obtain⟨rfl,_⟩:=r.str_of;rfl
 | tup l=>rw[Rep] at r;obtain⟨a,d,rfl,_⟩:=r;rfl
 | lst o l=>rw[Rep] at r;obtain⟨a,d,e,rfl,_⟩:=r;rfl
 | dK o f l=>rw[Rep] at r;obtain⟨a,d,e,rfl,_⟩:=r;rfl
 | dT o f l=>rw[Rep] at r;obtain⟨a,d,e,rfl,_⟩:=r;rfl
 | ins o c ns l=>rw[Rep] at r;obtain⟨a,g,d,e,rfl,_⟩:=r;rfl
 | exc c p=>rw[Rep] at r;obtain⟨a,g,rfl,_⟩:=r;rfl
 | dead=>exact(hd rfl).elim
def jno:BO R (λx y H Q=>y=.non/\Q (.bl<|decide<|x=.non) H) jaV:=by
 intro Z H x y d v u f g z b c e Q k;unfold jaV at e;refine oc e λa e=>?_;cases e;rw[L9] at a;have hd:∀(h:x=.dead),False:=λh=>by rw[h] at a;exact absurd a.2 (by decide)
 cases jdA a.1;obtain⟨rfl,_⟩:=c.non_of;refine⟨rfl,?_⟩;rw[jch b hd];exact k (Go.id z) .bl_mk
noncomputable def Jk:D->Bool
 | .non=>true | .bl _=>true | .int _=>true | .str _=>true
 | _=>false
noncomputable def eqF:D->D->Bool
 | .non,.non=>true
 | .bl a,.bl b=>a==b
 | .int a,.int b=>a==b
 | .str a,.str b=>a==b
 | _,_=>false
noncomputable def K2:D->D->Bool
 | .bl _,.int _=>false
 | .int _,.bl _=>false
 | _,_=>true
def ja0(d:Rep R Z H x v O1)(c:Rep R Z H y u O2)(h:(Jk x&&Jk y&&K2 x y)=true):jnm v u=true/\decide (v=u)=eqF x y:=by
 cases x with
 | non=>
  obtain⟨rfl,_⟩:=d.non_of;cases y with
  | non=>obtain⟨rfl,_⟩:=c.non_of;exact⟨rfl,rfl⟩
  | bl b=>obtain⟨rfl,_⟩:=c.bl_of;exact⟨rfl,rfl⟩
  | int b=>obtain⟨rfl,_⟩:=c.int_of;exact⟨rfl,rfl⟩
  | str b=>obtain⟨rfl,_⟩:=c.str_of;exact⟨rfl,rfl⟩
  | _=>cases h
 | bl a=>
  obtain⟨rfl,_⟩:=d.bl_of;cases y with
  | non=>obtain⟨rfl,_⟩:=c.non_of;exact⟨rfl,rfl⟩
  | bl b=>obtain⟨rfl,_⟩:=c.bl_of;exact⟨rfl,by rw[jbQ];rfl⟩
  | str b=>obtain⟨rfl,_⟩:=c.str_of;exact⟨rfl,rfl⟩
  | _=>cases h
 | int a=>
  obtain⟨rfl,_⟩:=d.int_of;cases y with
  | non=>obtain⟨rfl,_⟩:=c.non_of;exact⟨rfl,rfl⟩
  | int b=>obtain⟨rfl,_⟩:=c.int_of;exact⟨rfl,by rw[wj];rfl⟩
  | str b=>obtain⟨rfl,_⟩:=c.str_of;exact⟨rfl,rfl⟩
  | _=>cases h
 | str a=>
  obtain⟨rfl,_⟩:=d.str_of;cases y with
  | non=>obtain⟨rfl,_⟩:=c.non_of;exact⟨rfl,rfl⟩
  | bl b=>obtain⟨rfl,_⟩:=c.bl_of;exact⟨rfl,rfl⟩
  | int b=>obtain⟨rfl,_⟩:=c.int_of;exact⟨rfl,rfl⟩
  | str b=>
   obtain⟨rfl,_⟩:=c.str_of;refine⟨rfl,?_⟩;rw[Bool.eq_iff_iff];simp[eqF,jl3]
  | _=>cases h
 | _=>cases h
def inL(x:D)(l:List D):Bool:=l.any λy=>eqF y x
def jd2(x:D)(l:List D):Bool:=Jk x&&l.all λy=>Jk y&&K2 y x
def Jf(neg:Bool)(x y:D):Option D:=match y with
 | .str s=>(match x with
  | .str [c]=>some<|.bl<|neg != decide (c∈s)
  | _=>none)
 | .lst _ l=>bif jd2 x l then some (.bl<|neg != inL x l) else none
 | .tup l=>bif jd2 x l then some (.bl<|neg != inL x l) else none
 | _=>none
theorem Reps.flat(c:Rep R Z H x v P)(d:Jk x=true):∀{l:List D}{vs:List V}{O:W6},Reps R Z H l vs O->(l.all λy=>Jk y&&K2 y x)=true->VI v=true/\vs.all VI=true/\inV v vs=inL x l
 | [],_,_,h,_=>by
  rw[Reps] at h;obtain⟨rfl,_⟩:=h;refine⟨?_,rfl,rfl⟩;cases x with
  | non=>obtain⟨rfl,_⟩:=c.non_of;rfl
  | bl b=>obtain⟨rfl,_⟩:=c.bl_of;rfl
  | int b=>obtain⟨rfl,_⟩:=c.int_of;rfl
  | str b=>obtain⟨rfl,_⟩:=c.str_of;rfl
  | _=>cases d
 | y::l,_,_,h,f=>by
  rw[Reps] at h;obtain⟨u,vs,n,o,rfl,rfl,g,i⟩:=h;rw[List.all_cons,L9] at f;obtain⟨j,k,m⟩:=Reps.flat c d i f.2;have e:VI u=true/\eqV u v=eqF y x:=by
   cases y with
   | non=>
    obtain⟨rfl,_⟩:=g.non_of;cases x with
    | non=>obtain⟨rfl,_⟩:=c.non_of;exact⟨rfl,rfl⟩
    | bl b=>obtain⟨rfl,_⟩:=c.bl_of;exact⟨rfl,rfl⟩
    | int b=>obtain⟨rfl,_⟩:=c.int_of;exact⟨rfl,rfl⟩
    | str b=>obtain⟨rfl,_⟩:=c.str_of;exact⟨rfl,rfl⟩
    | _=>cases d
   | bl a=>
    obtain⟨rfl,_⟩:=g.bl_of;cases x with
    | non=>obtain⟨rfl,_⟩:=c.non_of;exact⟨rfl,rfl⟩
    | bl b=>obtain⟨rfl,_⟩:=c.bl_of;exact⟨rfl,rfl⟩
    | str b=>obtain⟨rfl,_⟩:=c.str_of;exact⟨rfl,rfl⟩
    | int b=>exact absurd f.1 (by simp[K2])
    | _=>cases d
   | int a=>
    obtain⟨rfl,_⟩:=g.int_of;cases x with
    | non=>obtain⟨rfl,_⟩:=c.non_of;exact⟨rfl,rfl⟩
    | int b=>obtain⟨rfl,_⟩:=c.int_of;exact⟨rfl,rfl⟩
    | str b=>obtain⟨rfl,_⟩:=c.str_of;exact⟨rfl,rfl⟩
    | bl b=>exact absurd f.1 (by simp[K2])
    | _=>cases d
   | str a=>
    obtain⟨rfl,_⟩:=g.str_of;cases x with
    | non=>obtain⟨rfl,_⟩:=c.non_of;exact⟨rfl,rfl⟩
    | bl b=>obtain⟨rfl,_⟩:=c.bl_of;exact⟨rfl,rfl⟩
    | int b=>obtain⟨rfl,_⟩:=c.int_of;exact⟨rfl,rfl⟩
    | str b=>
     obtain⟨rfl,_⟩:=c.str_of;refine⟨rfl,?_⟩;rw[Bool.eq_iff_iff];simp[eqF,eqV,jl3]
    | _=>cases d
   | _=>exact absurd f.1 (by simp[Jk])
  refine⟨j,by rw[List.all_cons,e.1,k];rfl,?_⟩;show(eqV u v||inV v vs)=(eqF y x||inL x l);rw[e.2,m]
def jn8(neg:Bool):R2:=λx y H Q=>∃ c l,x=.str (S [c])/\y=.str (S l)/\Q (.bl<|if neg then !decide (c∈l) else decide (c∈l)) H
def jiO(K:W5)(neg:Bool):R2:=λx y H Q=>jn8 neg x y H Q\/rIn K neg x y H Q
def jj9:OpR X (compareOp .In) (jiO X.K false):=Yx jlo jbS
def jcl:OpR X (compareOp .NotIn) (jiO X.K true):=Yx jcO zI
def wu(neg b:Bool):(if neg=true then !b else b)=(neg != b):=by cases neg<;>cases b<;>rfl
def jiY:BO R (jiO R.K neg) (Jf neg):=by
 intro Z H x y d v u r w z b g e Q k;cases y with
 | str s=>
  cases x with
  | str t=>
   match t,e,b with
   | [c],e,b=>
    cases e;obtain⟨rfl,_⟩:=b.str_of;obtain⟨rfl,_⟩:=g.str_of;refine .inl ⟨c,s,rfl,rfl,?_⟩;rw[wu];exact k (Go.id z) .bl_mk
   | [],e,b=>cases e
   | _::_::_,e,b=>cases e
  | _=>cases e
 | lst o l=>
  have f:(bif jd2 x l then some (D.bl<|neg != inL x l) else none)=some d:=e;refine oc f λa f=>?_;cases f;unfold jd2 at a;rw[L9] at a;obtain⟨p,h,A,rfl,i,j⟩:=g.lst_of;obtain⟨m,n,q⟩:=j.flat b a.1 a.2;refine .inr ⟨p,h,rfl,.inl i.sq,m,n,?_⟩;rw[q,wu];exact k (Go.id z) .bl_mk
 | tup l=>
  have f:(bif jd2 x l then some (D.bl<|neg != inL x l) else none)=some d:=e;refine oc f λa f=>?_;cases f;unfold jd2 at a;rw[L9] at a;obtain⟨p,h,rfl,i,j⟩:=g.tup_of;obtain⟨m,n,q⟩:=j.flat b a.1 a.2;refine .inr ⟨p,h,rfl,.inr i,m,n,?_⟩;rw[q,wu];exact k (Go.id z) .bl_mk
 | _=>cases e
def jc(x y:D):Option D:=match y with
 | .int i=>(match x with
  | .lst _ l=>atI l i
  | .tup l=>atI l i
  | .str s=>bif lim s.length then(atI s i).bind λc=>some (.str [c]) else none
  | _=>none)
 | _=>none
def Reps.atI(r:Reps R Z H l vs O)(e:L2.atI l i=some d):∃ v P,L2.atI vs i=some v/\Rep R Z H d v P:=by
 unfold L2.atI at e ⊢;rw[r.length];cases h:ixN l.length i with
 | none=>rw[h] at e;cases e
 | some j=>
  rw[h] at e;obtain⟨v,A,P,B,a,_,b,_⟩:=r.at<|show l[j]?=some d from e;exact⟨v,P,a,b⟩
def jm8:BO' R (rIx R.K) jc:=by
 intro Z H x y d v u r t z a n e Q k;cases y with
 | int i=>
  obtain⟨rfl,_⟩:=n.int_of;cases x with
  | lst o l=>
   obtain⟨p,b,A,rfl,f,g⟩:=a.lst_of;obtain⟨w,P,j,m⟩:=g.atI e;exact .inl ⟨p,b,i,w,rfl,rfl,f.sq,j,k m⟩
  | tup l=>
   obtain⟨p,b,rfl,f,g⟩:=a.tup_of;obtain⟨w,P,j,m⟩:=g.atI e;exact .inr<|.inl ⟨p,b,i,w,rfl,rfl,f,j,k m⟩
  | str s=>
   obtain⟨rfl,_⟩:=a.str_of;simp only[jc] at e;refine oc e λq e=>ob e λc h e=>?_;cases e;refine .inr<|.inr ⟨S s,i,c,rfl,rfl,by rw[Yk];exact Jo q,by rw[Jl];exact h,?_⟩;rw[jhT];exact k .str_mk
  | _=>cases e
 | _=>cases e
abbrev OF:=Rh->Option (Option Int)
def PO'(R:RC)(t:TO)(p:OF):Prop:=∀{σ:St}{ρ:Rh}{Z:Zn}{H:Hp}{O:W6}{i:Option Int},Zd Z H->Slots R Z H ρ σ O->p ρ=some i ->
 ∀{Q:Option Int->Hp->Prop},(∀{Z':Zn}{H':Hp},Go Z H [] Z' H' []->Q i H')->t σ H Q
@[simp] def oN(ρ:Rh):Option (Option Int):=some none
@[simp] def oS(pa:PF)(ρ:Rh):Option (Option Int):=(pa ρ).bind λd=>(vD d).bind λi=>some<|some i
def jn1:PO' R wa oN:=by
 intro σ ρ Z H O i z s e Q k;cases e;exact k<|Go.id z
def jn3(h:PB R te p):PO' R (jgy te) (oS p):=by
 intro σ ρ Z H O i z s e Q k;refine ob e λx a e=>ob e λj e2 e=>?_;cases e;cases j7 e2;refine h z s a λ{v c d f} g1 b=>?_;obtain⟨rfl,_⟩:=b.int_of;exact⟨j,rfl,k g1⟩
def jd4(lo hi:Option Int):D->Option D
 | .str s=>bif lim s.length then some (.str<|y4 s lo hi) else none
 | .lst _ l=>bif frzs l then some (.lst true<|y4 l lo hi) else none
 | .tup l=>bif frzs l&&decide ((y4 l lo hi).length<l.length) then some (.tup<|y4 l lo hi) else none
 | _=>none
def jmK(K:W5):V->Option Int->Option Int->Hp->VK->Prop:=λx lo hi H Q=>jnH x lo hi H Q\/jnF K x lo hi H Q\/jnz K x lo hi H Q
def jnQ:SlR X (jmK X.K):=SlR.or jlf<|SlR.or jgD jkK
@[simp] def pSl(pa:PF)(pl:OF)(ph:OF)(ρ:Rh):Option D:=(pa ρ).bind λx=>(pl ρ).bind λlo=>(ph ρ).bind λhi=>jd4 lo hi x
def Reps.cut(r:Reps R Z H l vs [])(lo hi:Option Int):Reps R Z H (y4 l lo hi) (jfU vs lo hi) []:=by
 unfold y4 jfU;rw[r.length];exact(r.drop _).take _
def jm1(w:PB R te pa)(y:PO' R tl pl)(A:PO' R th ph):PP R (tSl (jmK R.K) te tl th) (pSl pa pl ph):=by
 intro σ ρ Z H O d z s e Q k;refine ob e λx B e=>ob e λlo e2 e=>ob e λhi e3 e=>?_;refine w z s B λ{v E F G} g1 C=>?_;refine y g1.wf.zd (g1.slots z s) e2 λ{I J} g2=>?_;have f:=g1.pair g2;refine A g2.wf.zd (f.slots z s) e3 λ{Z3 D} g3=>?_;have a:Go Z H [] Z3 D []:=f.pair g3;have j:=(g2.pair g3).rep g1.wf.zd C;cases x with
 | str t=>
  simp only[jd4] at e;refine oc e λc e=>?_;cases e;obtain⟨rfl,_⟩:=j.str_of;exact .inl ⟨t,rfl,Jo c,k a .str_mk⟩
 | lst o l=>
  simp only[jd4] at e;refine oc e λc e=>?_;cases e;obtain⟨p,m,L,rfl,n,i⟩:=j.lst_of;have g:=g3.wf.zd;exact .inr<|.inl ⟨p,m,rfl,n.sq,λb h=>k ⇑(a.pair<|Go.newO (wf0 g) h) (Rep.lstNew (wf0 g) h<|(i.frozen c).cut lo hi)⟩
 | tup l=>
  simp only[jd4] at e;refine oc e λc e=>?_;cases e;simp only[L9,decide_eq_true_eq] at c;obtain⟨p,m,rfl,n,i⟩:=j.tup_of;have g:=g3.wf.zd;refine .inr<|.inr ⟨p,m,rfl,n,?_,λb h=>k ⇑(a.pair<|Go.newF (wf0 g) h) (Rep.tupNew (wf0 g) h<|(i.frozen c.1).cut lo hi)⟩;rintro⟨r,u⟩;have q:=c.2;unfold y4 at q;rw[i.length] at r u;rw[r,u,List.drop_zero,Nat.sub_zero,List.take_length] at q;exact absurd q<|Nat.lt_irrefl _
 | _=>cases e
def joc:D->Option D
 | .lst _ l=>some<|.int l.length
 | .tup l=>some<|.int l.length
 | .str s=>bif lim s.length then some (.int s.length) else none
 | _=>none
def vB(l:List D):Option D:=(jfG l).bind joc
def jjY:BC R (λxs H Q=>∃ x n,xs=[x]/\jlH R.K x H n/\Q (.int n) H) vB:=by
 intro Z H xs d i O z r e Q k;refine ob e λx g e=>?_;rw[Jq g] at r;obtain⟨v,rfl,a⟩:=r.one_of;cases x with
 | lst o l=>
  cases e;obtain⟨p,b,j,rfl,c,f⟩:=a.lst_of;exact⟨_,_,rfl,.inl ⟨b,c.sq,rfl⟩,by rw[f.length];exact k (Go.id z) .int_mk⟩
 | tup l=>
  cases e;obtain⟨p,b,rfl,c,f⟩:=a.tup_of;exact⟨_,_,rfl,.inr ⟨b,c,rfl⟩,by rw[f.length];exact k (Go.id z) .int_mk⟩
 | str s=>
  refine oc e λh e=>?_;cases e;obtain⟨rfl,_⟩:=a.str_of;exact⟨_,_,rfl,⟨by rw[Yk];exact Jo h,rfl⟩,by rw[Yk];exact k (Go.id z) .int_mk⟩
 | _=>cases e
noncomputable def jaC:List D->Option (List Int)
 | []=>some []
 | d::l=>match d with
  | .int i=>((jaC l).bind λr=>some<|i::r)
  | _=>none
def Reps.ints:∀{l:List D}{vs:List V}{O:W6}{ns:List Int},Reps R Z H l vs O->jaC l=some ns->vs=ns.map V.int:=by
 intro l
 induction l with
 | nil=>intro vs O ns h e;rw[Reps] at h;cases e;exact h.1
 | cons d l a=>
  intro vs O ns h e;rw[Reps] at h;obtain⟨v,vs,g,j,rfl,rfl,b,c⟩:=h;cases d with
  | int i=>
   refine ob e λr f e=>?_;cases e;rw[a c f,b.int_of.1];rfl
  | _=>cases e
def zk(l:List D):Option D:=(jfG l).bind λx=>(jdw x).bind λl=>(jaC l).bind λns=>some<|.int ns.sum
def jjy:BC R (λxs H Q=>∃(p:Addr) (ns:List Int),xs=[.ref p]/\SqL R.K H p (ns.map V.int)/\Q (.int ns.sum) H) zk:=by
 intro Z H xs d i O z r e Q k;refine ob e λx a e=>ob e λl b e=>ob e λns c e=>?_;cases e;obtain⟨o,rfl⟩:=qC b;rw[Jq a] at r;obtain⟨v,rfl,f⟩:=r.one_of;obtain⟨p,j,m,rfl,g,h⟩:=f.lst_of;have:=h.ints c;subst this;exact⟨p,ns,rfl,g.sq,k (Go.id z) .int_mk⟩
def f2I(g:Int->Int->Int)(l:List D):Option D:=(two1 l).bind λp=>two (λi j=>some<|.int<|g i j) p.1 p.2
def jiQ:BC R (λxs H Q=>∃ i j,xs=[.int i,.int j]/\Q (.int<|g i j) H) (f2I g):=by
 intro Z H xs d f O z r e Q k;refine ob e λp a e=>?_;obtain⟨i,j,e2,e3,e⟩:=two_of e;cases e;rw[two1_of a,e2,e3] at r;obtain⟨v,u,h,l,rfl,_,b,c⟩:=r.two_of;obtain⟨rfl,_⟩:=b.int_of;obtain⟨rfl,_⟩:=c.int_of;exact⟨i,j,rfl,k (Go.id z) .int_mk⟩
abbrev jiK:List D->Option D:=f2I λi j=>if j>i then j else i
abbrev xc:List D->Option D:=f2I λi j=>if j<i then j else i
def jnZ:D->Option D
 | .lst _ l=>bif frzs l then some (.lst true l) else none
 | .tup l=>bif frzs l then some (.lst true l) else none
 | _=>none
def KJ(l:List D):Option D:=(jfG l).bind jnZ
def wL(l:List D):Option D:=(jfG l).bind λx=>(jdw x).bind λl=>bif frzs l then some (.tup l) else none
def jhg:BC R (λxs H Q=>∃ p ys,xs=[.ref p]/\(SqL R.K H p ys\/SqT R.K H p ys)/\∀ l,H l=none->Q (.ref l) (upd H l<|.lst ys)) KJ:=by
 intro Z H xs d m O z r e Q k;refine ob e λx j e=>?_;rw[Jq j] at r;obtain⟨v,rfl,i⟩:=r.one_of;cases x with
 | lst o l=>
  refine oc e λc e=>?_;cases e;obtain⟨p,f,n,rfl,g,h⟩:=i.lst_of;exact⟨p,f,rfl,.inl g.sq,λb a=>k (Go.newO (wf0 z) a)<|Rep.lstNew (wf0 z) a<|h.frozen c⟩
 | tup l=>
  refine oc e λc e=>?_;cases e;obtain⟨p,f,rfl,g,h⟩:=i.tup_of;exact⟨p,f,rfl,.inr g,λb a=>k (Go.newO (wf0 z) a)<|Rep.lstNew (wf0 z) a<|h.frozen c⟩
 | _=>cases e
def jeE:BC R (λxs H Q=>∃ p ys,xs=[.ref p]/\((SqL R.K H p ys/\∀ l,H l=none->Q (.ref l) (upd H l<|.tup ys))\/(SqT R.K H p ys/\Q (.ref p) H))) wL:=by
 intro Z H xs d n O z r e Q k;refine ob e λx c e=>ob e λl f e=>oc e λg e=>?_;cases e;obtain⟨o,rfl⟩:=qC f;rw[Jq c] at r;obtain⟨v,rfl,h⟩:=r.one_of;obtain⟨p,i,q,rfl,j,m⟩:=h.lst_of;exact⟨p,i,rfl,.inl ⟨j.sq,λb a=>k (Go.newF (wf0 z) a)<|Rep.tupNew (wf0 z) a<|m.frozen g⟩⟩
noncomputable def tyD:D->Option String
 | .non=>some "NoneType" | .bl _=>some "bool" | .int _=>some "int" | .str _=>some "str" | .tup _=>some "tuple" | .lst _ _=>some "list"
 | .dK true _ _=>some "dict"
 | _=>none
noncomputable def YK(t T:String):Bool:=t==T||(t=="bool"&&T=="int")
@[simp] def YJ(T:String)(pa:PF)(ρ:Rh):Option D:=(pa ρ).bind λd=>(tyD d).bind λt=>some<|.bl<|YK t T
def jh1(K:W5)  (a:t∈["NoneType","bool","int","str","tuple","list","dict"]) (b:T∈["bool","int","str","tuple","list","dict"]):PySem.W.kitOne K (.type t) (.type T)=some (YK t T):=by
 simp only[M4,List.not_mem_nil,or_false] at a b;rcases a with rfl | rfl | rfl | rfl | rfl | rfl | rfl<;>rcases b with rfl | rfl | rfl | rfl | rfl | rfl<;>rfl
def Rep.ty(r:Rep R Z H x v O)(e:tyD x=some t):TyQ R.K H v t/\t∈["NoneType","bool","int","str","tuple","list","dict"]:=by
 cases x with
 | non=>cases e;obtain⟨rfl,_⟩:=r.non_of;exact⟨.non,by simp⟩
 | bl b=>cases e;obtain⟨rfl,_⟩:=r.bl_of;exact⟨.bl _,by simp⟩
 | int i=>cases e;obtain⟨rfl,_⟩:=r.int_of;exact⟨.int _,by simp⟩
 | str s=>cases e;obtain⟨rfl,_⟩:=r.str_of;exact⟨.str _,by simp⟩
 | tup l=>cases e;obtain⟨p,d,rfl,c,f⟩:=r.tup_of;exact⟨.tup c,by simp⟩
 | lst o l=>cases e;obtain⟨p,d,g,rfl,c,f⟩:=r.lst_of;exact⟨.lst c.sq,by simp⟩
 | dK o h l=>cases o with
  | false=>cases e
  | true=>cases e;rw[Rep] at r;obtain⟨a,j,g,rfl,_,_,hd,_⟩:=r;exact⟨.dK hd,by simp⟩
 | _=>cases e
def ji9(a:T∈["bool","int","str","tuple","list","dict"])  (h:PB R te p):
  PP R (tCB (λxs H Q=>∃ x T t b,xs=[x,.ty T]/\TyQ R.K H x t/\PySem.W.kitOne R.K (.type t) (.type T)=some b/\Q (.bl b) H)<|yj te<|yj (tC<|.ty T) VX) (YJ T p):=by
 intro σ ρ Z H O d z s e Q k;refine ob e λx c e=>ob e λt e2 e=>?_;cases e;refine h z s c λ{v j l m} g1 f=>?_;obtain⟨g,i⟩:=f.ty e2;exact⟨v,T,t,YK t T,rfl,g,jh1 _ i a,k g1 .bl_mk⟩
noncomputable def yo:Nat->List D->List D
 | _,[]=>[]
 | k,x::l=>.tup [.int k,x]::yo (k+1) l
theorem yD:∀(k:Nat) (l:List D),(yo k l).length=l.length
 | _,[]=>rfl
 | k,x::l=>by rw[yo,M0,M0,yD]
theorem qx:∀(k:Nat) (l:List D) (i:Nat) (y:D),(yo k l)[i]?=some y->∃ x,l[i]?=some x/\y=.tup [.int ((k+i:Nat):Int),x]
 | _,[],_,_,e=>by simp[yo] at e
 | k,x::l,0,y,e=>by simp[yo] at e;exact⟨x,rfl,e.symm⟩
 | k,x::l,i+1,y,e=>by
  obtain⟨z,a,e2⟩:=qx (k+1) l i y (by simpa [yo] using e);exact⟨z,by simpa using a,by rw[e2];congr 3;lia⟩
noncomputable def QM:List D->List D->List D
 | x::l,y::m=>.tup [x,y]::QM l m
 | _,_=>[]
theorem uw:∀(l m:List D),(QM l m).length=min l.length m.length
 | [],_=>by simp[QM]
 | _::_,[]=>by simp[QM]
 | x::l,y::m=>by rw[QM,M0,uw];simp
theorem uZ:∀(l m:List D) (i:Nat) (y:D),(QM l m)[i]?=some y->∃ a b,l[i]?=some a/\m[i]?=some b/\y=.tup [a,b]
 | [],_,_,_,e=>by simp[QM] at e
 | _::_,[],_,_,e=>by simp[QM] at e
 | x::l,z::m,0,y,e=>by simp[QM] at e;exact⟨x,z,rfl,rfl,e.symm⟩
 | x::l,z::m,i+1,y,e=>by
  obtain⟨a,b,c,e2,e3⟩:=uZ l m i y (by simpa [QM] using e);exact⟨a,b,by simpa using c,by simpa using e2,e3⟩
def jfZ(l:List D):Option (List D):=(jfG l).bind λx=>(jdw x).bind λl=>some<|yo 0<|fzs l
def jiS(l:List D):Option (List D):=(two1 l).bind λx=>(jdw x.1).bind λl=>(jdw x.2).bind λm=>some<|QM (fzs l)<|fzs m
@[simp] def Yc(p:PAf)(ρ:Rh):Option (List D):=(p ρ).bind jfZ
@[simp] def jlB(p:PAf)(ρ:Rh):Option (List D):=(p ρ).bind jiS
def KS(z:Zd Z H)(b:H p=none)(c:Rep R Z H x u [])(d:Rep R Z H y v []):Rep R (λa=>Z a\/a=p) (upd H p<|.tup [u,v]) (.tup [x,y]) (.ref p) [] :=
 Rep.tupNew (wf0 z) b (.cons c<|.cons d .empty)
def jd6(h:PPs R ta p):PIt R (jho R.K ta) (Yc p):=by
 intro σ ρ Z H O S z s e Q k;refine ob e λx B e=>ob e λy e2 e=>ob e λl e3 e=>?_;cases e;obtain⟨o,rfl⟩:=qC e3;cases Jq e2;refine h z s B λ{T C U D} g1 E=>?_;obtain⟨v,rfl,F⟩:=E.one_of;have g:=F.freeze (Z':=λa=>C a\/a∈D) (λa z=>.inl z) λa z=>.inr z;rw[fz,Rep] at g;obtain⟨a,b,V,rfl,G,j,rfl,_⟩:=g;refine⟨a,b,rfl,FL.sq j,k g1.fz ?_⟩;intro I J m n zd i;have c:=(j.frame m n).sq;have r:Reps R I J (fzs l) b []:=G.frame m n λa L=>(nomatch L);refine⟨λhi=>⟨b,c,by rw[r.length];rw[yD] at hi;exact hi⟩,λx M=>?_⟩;obtain⟨y,N,rfl⟩:=qx 0 _ i x M;obtain⟨u,t,P⟩:=r.item N;refine⟨⟨b,u,c,t⟩,λw W d=>?_⟩;obtain⟨q,X,f,rfl,A,rfl⟩:=d;have:=f b c;rw[t] at this;cases this;refine⟨_,Go.newF (wf0 zd) A,?_⟩;have:=KS (R:=R) (x:=.int i) (u:=.int i) zd A .int_mk P;simpa using this
def jgE(h:PPs R ta p):PIt R (jmD R.K ta) (jlB p):=by
 intro σ ρ Z H O xs z s e Q k;refine ob e λx r e=>ob e λ⟨y,y'⟩ e2 e=>ob e λl e3 e=>ob e λm e4 e=>?_;cases e;obtain⟨o,rfl⟩:=qC e3;obtain⟨o2,rfl⟩:=qC e4;cases two1_of e2;refine h z s r λ{vs M H1 P1} g1 r1=>?_;obtain⟨v,v2,N,P,rfl,rfl,r2,C⟩:=r1.two_of;have S:=r2.freeze (Z':=λa=>M a\/a∈N++P) (λa z=>.inl z) λa z=>.inr<|List.mem_append_left _ z;have d:=C.freeze (Z':=λa=>M a\/a∈N++P) (λa z=>.inl z) λa z=>.inr<|U2 _ z;rw[fz,Rep] at S d;obtain⟨a,f,O',rfl,rs,T,rfl,_⟩:=S;obtain⟨a',b,O'',rfl,D,g,rfl,_⟩:=d;refine⟨a,a',f,b,rfl,FL.sq T,FL.sq g,k g1.fz ?_⟩;intro U V A B zd i;have E:=(T.frame A B).sq;have c:=(g.frame A B).sq;have W:Reps R U V (fzs l) f []:=rs.frame A B λa F=>(nomatch F);have j:Reps R U V (fzs m) b []:=D.frame A B λa F=>(nomatch F);refine⟨λhi=>⟨f,b,E,c,by rw[W.length,j.length];rw[uw] at hi;exact hi⟩,λx hx=>?_⟩;obtain⟨y,y',hy,G,rfl⟩:=uZ _ _ i x hx;obtain⟨u,X,ru⟩:=W.item hy;obtain⟨u',n,I⟩:=j.item G;refine⟨⟨f,b,u,u',E,c,X,n⟩,λw H3 J=>?_⟩;obtain⟨q,t,t',ht,L,rfl,Y,rfl⟩:=J;have r:=ht f E;rw[X] at r;cases r;have e2:=L b c;rw[n] at e2;cases e2;exact⟨_,Go.newF (wf0 zd) Y,KS zd Y ru I⟩
def jfo(h:ixN n i=some j):j<n:=(wD h).2.1
@[simp] def gIx(pm:List Nat)(i:Nat)(pi:PF)(d:D)(ρ:Rh):Option Rh:=(pi ρ).bind λk=>(vD k).bind λk=>(pV i ρ).bind λx=>(zj x).bind λl=>(ixN l.length k).bind λj=>some<|ρ.set i<|some<|.lst true<|l.set j d
def jcG(rs:Reps R Z H l vs O)(a:j<l.length)(rd:Rep R Z H d u P):∃ O2,Reps R Z H (l.set j d) (vs.set j u) O2/\∀ q,O2.count q<=O.count q+P.count q:=by
 obtain⟨b,c,e,f,g,rfl,h,put⟩:=rs.at (show l[j]?=some l[j] by simp[a]);exact⟨_,put rd (λ_ z=>z) (λ_ _=>rfl) (λ_ _=>rfl)<|λ_ _=>rfl,λq=>by simp only[U7];lia⟩
def jmg(h:PB R te pi):DG R pm (jm0 (v8 i) te jbg) (gIx pm i pi):=by
 intro σ ρ C Z H O P d v w r s e Q k;refine ob e λx c e=>ob e λn e3 e=>ob e λy f e=>ob e λl g e=>ob e λj e2 e=>?_;cases e;cases j7 e3;cases YV g;refine qw Yz w s f rfl Yr λa _ m D b _ o p put=>p<|h w.zd s c λ{u E F G} g1 t=>?_;obtain⟨rfl,_⟩:=t.int_of;obtain⟨I,z,A⟩:=jcG (g1.reps w.zd b) (jfo e2)<|g1.rep w.zd r;obtain⟨J,g3,B⟩:=put Yr trivial g1 z λq=>by have:=A q;simp;lia
 exact⟨a,m,n,j,rfl,rfl,g1.at0 o,by rw[b.length];exact e2,k g3 B<|Keep.refl _ _⟩
@[simp] def jbw(i:Nat)(pi:PF)(g:Int->Int->Int)(pe:PF)(ρ:Rh):Option Out:=(pi ρ).bind λk=>(vD k).bind λk=>(pV i ρ).bind λx=>(zj x).bind λl=>(ixN l.length k).bind λj=>(l[j]?).bind λy=>(vD y).bind λa=>(pe ρ).bind λz=>(vD z).bind λb=>some<|.nx<|ρ.set i<|some<|.lst true<|l.set j<|.int<|g a b
def je1(hi:PB R ti pi)(p:PB R te pe):DS R pm (jf8 (v8 i) ti te (jjm R.K) (ipI g) jbg) (jbw i pi g pe):=by
 intro σ ρ Z H O o w s e J k;refine ob e λc1 r e=>ob e λn t e=>ob e λf v e=>ob e λl e5 e=>ob e λj e2 e=>ob e λL z e=>ob e λx A e=>ob e λM e3 e=>ob e λy B e=>?_;cases e;cases j7 t;cases YV e5;cases j7 A;cases j7 B;refine qw (P0:=[]) Yz w s v rfl Yr λa _ h N c _ m C put=>C<|hi w.zd s r λ{u P Q S} g1 D=>?_;obtain⟨rfl,_⟩:=D.int_of;obtain⟨T,U,d,E⟩:=c.atI (show L2.atI l n=some (.int x) by unfold L2.atI;rw[e2];exact z);obtain⟨rfl,_⟩:=E.int_of;refine⟨a,h,n,.int x,rfl,rfl,SqL.of<|g1.at0 m,d,p g1.wf.zd (g1.slots w.zd s) e3 λ{V Z3 W X} g3 F=>?_⟩;obtain⟨rfl,_⟩:=F.int_of;have b:=g1.pair g3;obtain⟨Y,G,f⟩:=jcG (b.reps w.zd c) (jfo e2)<|Rep.int_mk (i:=g x y);obtain⟨O3,g4,I⟩:=put Yr trivial b G λq=>by have:=f q;simp at this ⊢;lia
 exact⟨x,y,rfl,rfl,a,h,n,j,rfl,rfl,b.at0 m,by rw[c.length];exact e2,k g4 I<|Keep.refl _ _⟩
end QD
namespace QD
open PySem L2 PySem.Spec PyProof.Rows
section
variable (c:Nat->Addr)(pm:List Nat)(X:Cx)
structure QP(e:Expr)(te:TE)(p:PF):Prop where
 sem:PE X e te
 den:PP ⟨X.K,c⟩ te p
structure QB(e:Expr)(te:TE)(p:PF):Prop where
 sem:PE X e te
 den:PB ⟨X.K,c⟩ te p
structure QPs(es:List Expr)(ta:TA)(p:PAf):Prop where
 sem:PA X es ta
 den:PPs ⟨X.K,c⟩ ta p
structure QBs(es:List Expr)(ta:TA)(p:PAf):Prop where
 sem:PA X es ta
 den:PBs ⟨X.K,c⟩ ta p
 n:∀ ρ ds,p ρ=some ds->ds.length=es.length
structure QT(e:Expr)(tt:TT)(q:PTf):Prop where
 sem:PT X e tt
 den:PTt ⟨X.K,c⟩ tt q
structure QW(e:Expr)(tt:TT)(q:PTf):Prop where
 sem:PW X e tt
 den:PTt ⟨X.K,c⟩ tt q
structure QI(tg e:Expr)(wi:TI)(p:PAf):Prop where
 sem:PI X tg e wi
 den:PIt ⟨X.K,c⟩ wi p
structure QG(tg:Expr)(t:TG)(g:D->Rh->Option Rh):Prop where
 sem:PG X tg t
 den:PGt ⟨X.K,c⟩ pm t g
structure QGs(tg:List Expr)(t:TGs)(g:List D->Rh->Option Rh):Prop where
 sem:PGs X tg t
 den:jlp ⟨X.K,c⟩ pm t g
structure QE(e:Expr)(te:TE)(f:FE):Prop where
 sem:PE X e te
 den:DE ⟨X.K,c⟩ te f
structure QS(st:Stmt)(ts:TS)(f:FS):Prop where
 sem:PS X st ts
 den:DS ⟨X.K,c⟩ pm ts f
structure QSs(st:List Stmt)(ts:TS)(f:FS):Prop where
 sem:PSs X st ts
 den:DS ⟨X.K,c⟩ pm ts f
structure QO(e:Option Expr)(t:TO)(p:OF):Prop where
 sem:PO X e t
 den:PO' ⟨X.K,c⟩ t p
structure QIf(ifs:List Expr)(tc:TT)(q:PTf):Prop where
 sem:PIf X ifs tc
 den:PTt ⟨X.K,c⟩ tc q
end
section
variable {cl:Nat->Addr}{pm:List Nat}{X:Cx}{a b c e o:Expr}{es:List Expr}{ta tb tc te:TE}{pa pb pc pe:PF}{tA tB:TT}{qa qb:PTf}{tr:TA}{pr:PAf}{pos:Pos}
def QP.bb(h:QP cl X e te pe):QB cl X e te pe:=⟨h.sem,PP.b h.den⟩
def QB.f(h:QB cl X e te pe):QP cl X e te (pF pe):=⟨h.sem,PB.f h.den⟩
def QP.d(h:QP cl X e te pe):QE cl X e te (dP pe):=⟨h.sem,PP.d h.den⟩
def jmj(i:Nat){x:Str}(b:X.N[i]?=some x:=by rfl)(c:Vis X.env.scope x:=by first | exact Or.inl rfl | exact Or.inr (Or.inl rfl) | exact Or.inr<|Or.inr rfl)(hd:(x==("__debug__" : Str))=false:=by decide)
  (a:(x==("__classdict__" : Str))=false:=by decide):QB cl X (.Name x pos) (v8 i) (pV i):=⟨jfS b c hd a,jjO⟩
def jnX(i:Nat){x:Str}(b:X.N[i]?=some x:=by rfl)(c:Vis X.env.scope x:=by first | exact Or.inl rfl | exact Or.inr (Or.inl rfl) | exact Or.inr<|Or.inr rfl)(hd:(x==("__debug__" : Str))=false:=by decide)
  (a:(x==("__classdict__" : Str))=false:=by decide):QE cl X (.Name x pos) (v8 i) (dMv i):=⟨jfS b c hd a,jmy⟩
def jj8{i:Int}{j}:QP cl X (.Constant (.int i) j pos) (tC<|.int i) (pI i):=⟨jjG,jlL λ_ _=>.int_mk⟩
def joi{i:Bool}{j}:QP cl X (.Constant (.bool i) j pos) (tC<|.bl i) (pC<|.bl i):=⟨jl5,jlL λ_ _=>.bl_mk⟩
def jnw{j}:QP cl X (.Constant .none j pos) (tC .non) (pC .non):=⟨jlk,jlL λ_ _=>.non_mk⟩
def jjj{x:Str}{j}(l:List Nat)(h:x=S l):QP cl X (.Constant (.str x) j pos) (tC<|.str x) (pS l):=⟨ji5,by subst h;exact jlL λ_ _=>.str_mk⟩
def jkn(c:QB cl X a ta pa)(d:QB cl X b tb pb):QP cl X (.BinOp a .Add b pos) (tOp (jdK X.K) ta tb) (p2 jq pa pb):=⟨jav jgY c.sem d.sem,zm jjB c.den d.den⟩
def jnh(c:QB cl X a ta pa)(d:QB cl X b tb pb):QP cl X (.BinOp a .Sub b pos) (tOp (rI0 λi j=>.int<|i-j) ta tb) (p2 vk pa pb):=⟨jav jkG c.sem d.sem,zm jlr c.den d.den⟩
def jm7(c:QB cl X a ta pa)(d:QB cl X b tb pb):QP cl X (.BinOp a .Mult b pos) (tOp jf3 ta tb) (p2 yT pa pb):=⟨jav jim c.sem d.sem,zm jjt c.den d.den⟩
def jmf(c:QB cl X a ta pa)(d:QB cl X b tb pb):QP cl X (.BinOp a .FloorDiv b pos) (tOp (rI (λ_ j=>jag j=true) λi j=>.int<|i/j) ta tb) (p2 jJ pa pb):=⟨jav jeX c.sem d.sem,zm jjq c.den d.den⟩
def jmI(c:QB cl X a ta pa)(d:QB cl X b tb pb):QP cl X (.BinOp a .Mod b pos) (tOp (rI (λ_ j=>0<j) λi j=>.int<|i%j) ta tb) (p2 jo pa pb):=⟨jav jj6 c.sem d.sem,zm jjU c.den d.den⟩
def jnl(c:QB cl X a ta pa)(d:QB cl X b tb pb):QP cl X (.BinOp a .Pow b pos) (tOp (rI jme λi j=>.int<|i ^ j.toNat) ta tb) (p2 YZ pa pb):=⟨jav jkY c.sem d.sem,zm ji3 c.den d.den⟩
def jm5(b:QB cl X a ta pa):QP cl X (.UnaryOp .USub a pos) (tUn (rU λi=>.int<|-i) ta) (p1 xj pa):=⟨jmw jjS b.sem,jmM jkh b.den⟩
def jnd(b:QB cl X a ta pa):QP cl X (.UnaryOp .Not a pos) (jil ta) (jlS pa):=⟨jk0 b.sem,jlu b.den⟩
structure CmpR(cl:Nat->Addr)(X:Cx)(op:CmpOp)(b:Expr)(r:R2)(g:D->D->Option D):Prop where
 o:OpR X (compareOp op) r
 g:BO ⟨X.K,cl⟩ r g
 m:behindInMarks op b=false
def jod:CmpR cl X .Lt b (rI0 λi j=>.bl<|decide<|i<j) jdx:=⟨jni,jlM,Vw _⟩
def jog:CmpR cl X .LtE b (rI0 λi j=>.bl<|decide<|i<=j) jns:=⟨jmR,jlM,Vw _⟩
def jof:CmpR cl X .Gt b (rI0 λi j=>.bl<|decide<|j<i) jaa:=⟨jmB,jlM,Vw _⟩
def jnY:CmpR cl X .GtE b (rI0 λi j=>.bl<|decide<|j<=i) jmH:=⟨jnq,jlM,Vw _⟩
def jn9:CmpR cl X .Is b (λx y H Q=>y=.non/\Q (.bl<|decide<|x=.non) H) jaV:=⟨jjD,jno,Vw _⟩
def jn4(a:behindInMarks .In b=false):CmpR cl X .In b (jiO X.K false) (Jf false):=⟨jj9,jiY,a⟩
def c_notin(a:behindInMarks .NotIn b=false):CmpR cl X .NotIn b (jiO X.K true) (Jf true):=⟨jcl,jiY,a⟩
def jmV{c:CmpOp}{r:R2}{g:D->D->Option D}(h:CmpR cl X c b r g)(d:QB cl X a ta pa)(e:QB cl X b tb pb):QP cl X (.Compare a [c] [b] pos) (tOp r ta tb) (p2 g pa pb):=⟨jgT h.o d.sem e.sem h.m,zm h.g d.den e.den⟩
def jjN{c:CmpOp}{r:R2}{g:D->D->Option D}(h:CmpR cl X c b r g)(d:QB cl X a ta pa)(e:QB cl X b tb pb):QT cl X (.Compare a [c] [b] pos) (jap<|tOp r ta tb) (je<|p2 g pa pb):=⟨jh6 h.o d.sem e.sem h.m,xG<|PP.b<|zm h.g d.den e.den⟩
def jee{e d:CmpOp}{r f:R2}{g g':D->D->Option D}(h:CmpR cl X e b r g)(h':CmpR cl X d c f g')(i:QB cl X a ta pa)(j:QB cl X b tb pb)(k:QB cl X c tc pc)(l:lastMarks [e,d] [b,c]=false:=by with_unfolding_all rfl):
  QT cl X (.Compare a [e,d] [b,c] pos) (jap<|jdm r f ta tb tc) (je<|jcp g g' pa pb pc):=⟨jdJ h.o h'.o i.sem j.sem k.sem l,xG<|PP.b<|jfi h.g h'.g i.den j.den k.den⟩
def jkj(b:QB cl X a ta pa)(c:∀ whole,isTrue a X.env whole=(do let v <- whole;standAt a.pos;holding [v] (truthy v)):=by intro _;rfl):QT cl X a (L2.tB ta) (je pa):=⟨jfx b.sem c,xG b.den⟩
def jli(b:QT cl X a tA qa):QT cl X (.UnaryOp .Not a pos) (jkT tA) (xQ qa):=⟨jfV b.sem,jhZ b.den⟩
def jiG(b:QT cl X a tA qa):QW cl X (.BoolOp .And [a] pos) tA qa:=⟨jhr b.sem,b.den⟩
def jjn(b:QT cl X a tA qa):QW cl X (.BoolOp .Or [a] pos) tA qa:=⟨jj2 b.sem,b.den⟩
def jiX(c:QT cl X a tA qa)(d:QW cl X (.BoolOp .And (b::es) pos) tB qb):QW cl X (.BoolOp .And (a::b::es) pos) (jmu tA tB) (Qf qa qb):=⟨jkz c.sem d.sem,ji7 c.den d.den⟩
def jmq(c:QT cl X a tA qa)(d:QW cl X (.BoolOp .Or (b::es) pos) tB qb):QW cl X (.BoolOp .Or (a::b::es) pos) (tOr tA tB) (qOr qa qb):=⟨jlO c.sem d.sem,jl2 c.den d.den⟩
def QW.t(h:QW cl X a tA qa):QT cl X a tA qa:=⟨PW.pt h.sem,h.den⟩
def jmv{op}(h:QP cl X a ta pa):QP cl X (.BoolOp op [a] pos) ta pa:=⟨jll h.sem,h.den⟩
def jlR(c:QB cl X a ta pa)(d:QP cl X (.BoolOp .And (b::es) pos) tb pb):QP cl X (.BoolOp .And (a::b::es) pos) (jiH ta tb) (jdy pa pb):=⟨jkv c.sem d.sem,jkQ c.den d.den⟩
def jn6(d:QT cl X c tA qa)(e:QP cl X a ta pa)(f:QP cl X b tb pb):QP cl X (.IfExp c a b pos) (tIf tA ta tb) (pIf qa pa pb):=⟨jdZ d.sem e.sem f.sem,jl4 d.den e.den f.den⟩
def jkI:QPs cl X [] VX pN:=⟨vU,pps_nil⟩
def jhc(a:QP cl X e te pe)(b:QPs cl X es tr pr)(c:starEach (e::es) X.env=(false,eval e X.env)::starEach es X.env:=by rfl):QPs cl X (e::es) (yj te tr) (ja pe pr):=⟨jK a.sem b.sem c,pps_cons a.den b.den⟩
def jjA:QBs cl X [] VX pN:=⟨vU,jgL,λρ a e=>by cases e;rfl⟩
def jge(b:QB cl X e te pe)(a:QBs cl X es tr pr)(c:starEach (e::es) X.env=(false,eval e X.env)::starEach es X.env:=by rfl):QBs cl X (e::es) (yj te tr) (ja pe pr) :=
 ⟨jK b.sem a.sem c,jeJ b.den a.den,λρ f h=>by
  refine ob h λx g h=>ob h λd e2 h=>?_;cases h;rw[M0,M0,a.n ρ d e2]⟩
def jl6{x1}(h:QPs cl X es tr pr):QP cl X (.Tuple es x1 pos) (wO tr) (vh pr):=⟨Jn h.sem,jjx h.den⟩
def jmY(h:QPs cl X es tr pr):QP cl X (.List es pos) (jmP tr) (ky pr):=⟨jjX h.sem,jky h.den⟩
def jnK(c:QB cl X a ta pa)(d:QB cl X b tb pb)(e:xP b:=by exact λ_ _=>rfl):QB cl X (.Subscript a b pos) (tOp (rIx X.K) ta tb) (p2 jc pa pb):=⟨jlU jkk c.sem d.sem e,jmp jm8 c.den d.den⟩
def jf6:QO cl X none wa oN:=⟨jhP,jn1⟩
def jhp(h:QB cl X e te pe):QO cl X (some e) (jgy te) (oS pe):=⟨jgJ h.sem,jn3 h.den⟩
def joe{lo hi:Option Expr}{tl th:TO}{pl c:OF}{b:Pos}(d:QB cl X a ta pa)(e:QO cl X lo tl pl)(f:QO cl X hi th c):QP cl X (.Subscript a (.Slice lo hi none b) pos) (tSl (jmK X.K) ta tl th) (pSl pa pl c) :=
 ⟨jeW jnQ d.sem e.sem f.sem,jm1 d.den e.den f.den⟩
def OkF(P:Program)(w:World)(K:W5)(mg:W7)(x:Str)(st:Stmt)(k:Nat)(ps:List Str)(sp:Sp):Prop:=∃ f fd,FnFact K mg x x st f fd ps/\∀ base,FnOk P w K mg base CX0 k f fd ps sp
def jkw{k n:Nat}{ps:List Str}{m:List D->Option D}{x:Str}{st:Stmt}{p:Pos}(O:OkF X.prog X.w X.K X.mg x st k ps<|spP ⟨X.K,cl⟩ m n)(d:Room k X.A)
  (a:QBs cl X (e::es) tr pr) (f:(e::es).length=n:=by rfl) (g:Gl X x:=by rfl) (b:(x==("__debug__" : Str))=false:=by decide)
  (i:starEach (e::es) X.env=(false,eval e X.env)::starEach es X.env:=by rfl) (c:(backTo pos<|starEach es X.env).any (·.1)=false:=by rfl):QP cl X (.Call (.Name x p) (e::es) [] pos) (Qx (spP ⟨X.K,cl⟩ m n) [] E0 tr) (jT m pr):=by
 obtain⟨_,_,F,G⟩:=O;exact⟨jg7 F (G _) d a.sem g b i c,jiq a.den λρ j h=>(a.n ρ j h).trans f⟩
def VQ{x:Str}{p:Pos}{id:String}{r:List V->Hp->VK->Prop}{g:List D->Option D}(d:JJ X (.builtin id) r)(f:BC ⟨X.K,cl⟩ r g)(h:X.mg x=none)(i:bootBuiltins x=some (.builtin id))(c:QBs cl X (e::es) tr pr)(j:Gl X x:=by rfl)
  (k:x≠"__name__":=by decide) (a:(x==("__debug__" : Str))=false:=by decide) (l:starEach (e::es) X.env=(false,eval e X.env)::starEach es X.env:=by rfl) (b:(backTo pos<|starEach es X.env).any (·.1)=false:=by rfl):
  QP cl X (.Call (.Name x p) (e::es) [] pos) (tCB r tr) (pCB g pr):=⟨ux d j h i c.sem k a l b,jjP f c.den⟩
def xu{x:Str}{p:Pos}{T:String}{r:List V->Hp->VK->Prop}{g:List D->Option D}(d:JJ X (.type T) r)(f:BC ⟨X.K,cl⟩ r g)(h:X.mg x=none)(i:bootBuiltins x=some (.type T))(c:QBs cl X (e::es) tr pr)(j:Gl X x:=by rfl)
  (k:x≠"__name__":=by decide) (a:(x==("__debug__" : Str))=false:=by decide) (l:starEach (e::es) X.env=(false,eval e X.env)::starEach es X.env:=by rfl) (b:(backTo pos<|starEach es X.env).any (·.1)=false:=by rfl):
  QP cl X (.Call (.Name x p) (e::es) [] pos) (tCB r tr) (pCB g pr):=⟨zW d j h i c.sem k a l b,jjP f c.den⟩
def jke(b:X.mg "len" = none){p:Pos}(c:QBs cl X [e] tr pr)(d:Gl X "len":=by rfl)(f:starEach [e] X.env=(false,eval e X.env)::starEach [] X.env:=by rfl)(a:(backTo pos<|starEach [] X.env).any (·.1)=false:=by rfl):
  QP cl X (.Call (.Name "len" p) [e] [] pos) (tCB (λxs H Q=>∃ x n,xs=[x]/\jlH X.K x H n/\Q (.int n) H) tr) (pCB vB pr):=VQ jdQ jjY b PySem.boot_len c d (by decide) (by decide) f a
def jcJ:bootBuiltins "sum" = some (.builtin "sum"):=by decide +kernel
def jcK:bootBuiltins "max" = some (.builtin "max"):=by decide +kernel
def jdo:bootBuiltins "min" = some (.builtin "min"):=by decide +kernel
def YM:bootBuiltins "isinstance" = some (.builtin "isinstance"):=by decide +kernel
def jbP:bootBuiltins "int" = some (.type "int"):=by decide +kernel
def jcf:bootBuiltins "str" = some (.type "str"):=by decide +kernel
def Yb:bootBuiltins "list" = some (.type "list"):=by decide +kernel
def Vs:bootBuiltins "tuple" = some (.type "tuple"):=by decide +kernel
def jax:bootBuiltins "bool" = some (.type "bool"):=by decide +kernel
def jaG:bootBuiltins "dict" = some (.type "dict"):=by decide +kernel
def jdf{T:String}{x:Str}{p p1:Pos}(j:T∈["bool","int","str","tuple","list","dict"])(k:X.mg "isinstance" = none)(c:X.mg x=none)(d:bootBuiltins x=some (.type T))(h:QB cl X a ta pa)(l:Gl X "isinstance":=by rfl)(e:Gl X x:=by rfl)
  (m:x≠"__name__":=by decide) (f:(x==("__debug__" : Str))=false:=by decide) (i:starEach [a,.Name x p1] X.env=(false,eval a X.env)::starEach [.Name x p1] X.env:=by rfl) (g:(backTo pos<|starEach [.Name x p1] X.env).any (·.1)=false:=by rfl)
  (h1:starEach [.Name x p1] X.env=(false,eval (.Name x p1) X.env)::starEach [] X.env:=by rfl):
  QP cl X (.Call (.Name "isinstance" p) [a,.Name x p1] [] pos) (tCB (λxs H Q=>∃ x T t b,xs=[x,.ty T]/\TyQ X.K H x t/\PySem.W.kitOne X.K (.type t) (.type T)=some b/\Q (.bl b) H)<|yj ta<|yj (tC<|.ty T) VX) (YJ T pa) :=
 ⟨ux zJ l k YM (jK h.sem (jK (jgU e c d rfl m f) vU h1) i) (by decide) (by decide) i g,ji9 j h.den⟩
variable {tg iter elt:Expr}{ifs:List Expr}{wi:TI}{pi:PAf}{t:TG}{g:D->Rh->Option Rh}
def jlc(h:QP cl X e te pe):QI cl X tg e (jko X.K te) (pIt pe):=⟨jfO h.sem,jlZ h.den⟩
def jhV{p:Pos}(b:X.mg "range" = none)(h:QBs cl X [a] tr pr)(c:Gl X "range":=by rfl)(d:starEach [a] X.env=[(false,eval a X.env)]:=by rfl):QI cl X tg (.Call (.Name "range" p) [a] [] pos) (jgV tr) (JO pr):=⟨jbF c b h.sem d,jg2 h.den⟩
def jgS{b:List Expr}{n:Nat}{tpos p:Pos}(c:X.mg "enumerate" = none)(h:QPs cl X [a] tr pr)(d:Gl X "enumerate":=by rfl)(e:starEach [a] X.env=[(false,eval a X.env)]:=by rfl):QI cl X (.Tuple b n tpos) (.Call (.Name "enumerate" p) [a] [] pos) (jho X.K tr) (Yc pr):=⟨jhJ d c h.sem e,jd6 h.den⟩
def jjp{c:List Expr}{n:Nat}{tpos p:Pos}(e:X.mg "zip" = none)(h:QPs cl X [a,b] tr pr)(f:Gl X "zip":=by rfl)(g:starEach [a,b] X.env=[(false,eval a X.env),(false,eval b X.env)]:=by rfl)(d:starEach [b] X.env=[(false,eval b X.env)]:=by rfl):
  QI cl X (.Tuple c n tpos) (.Call (.Name "zip" p) [a,b] [] pos) (jmD X.K tr) (jlB pr):=⟨jkt f e h.sem g d,jgE h.den⟩
def jhz{i:Nat}{x:Str}(a:X.N.Nodup)(hi:X.N[i]?=some x:=by rfl)(b:Loc X.env.scope x:=by first | exact Or.inl rfl | exact Or.inr rfl)(c:X.fn x=true\/X.env.scope.names.lookup x=some .local:=by first | exact .inl rfl | exact .inr rfl):
  QG cl pm X (.Name x pos) (KY i) (jd pm i):=⟨jc3 a hi b c,jei⟩
def jgx:QGs cl pm X [] jmL gN:=⟨jhj,jeL⟩
def jdV{ts:TGs}{a:List D->Rh->Option Rh}(h1:QG cl pm X e t g)(h2:QGs cl pm X es ts a)(b:(assignEach (e::es) X.env).map (·.2)=assign e X.env::(assignEach es X.env).map (·.2):=by rfl):QGs cl pm X (e::es) (jgz t ts) (gC g a):=⟨jdH h1.sem h2.sem b,jbK h1.den h2.den⟩
def jfP{ts:TGs}{b:List D->Rh->Option Rh}{k n:Nat}(c:X.calm=true)(h:QGs cl pm X es ts b)(d:(assignEach es X.env).length=n:=by rfl)(a:(assignEach es X.env).findIdx? (·.1)=none:=by rfl):QG cl pm X (.Tuple es k pos) (jlN X.K n ts) (gT n b):=⟨ji8 c h.sem d a,jgZ h.den⟩
def jfd:QIf cl X [] (λ_ H Q=>Q true H) qT:=⟨.inl ⟨rfl,rfl⟩,jgt⟩
def jdT(h:QT cl X c tA qa):QIf cl X [c] tA qa:=⟨.inr ⟨c,rfl,h.sem⟩,h.den⟩
variable {st:Stmt}{rest:List Stmt}{ts tu:TS}{f fe:FS}{fE:FE}
def jhI:QSs cl pm X [] jhh jx:=⟨jhH,jhS⟩
def jhn(h:QS cl pm X st ts f):QSs cl pm X [st] ts f:=⟨jgd h.sem,h.den⟩
def jeS(h:QS cl pm X st ts f)(k:QSs cl pm X rest tu fe):QSs cl pm X (st::rest) (jml ts tu) (jf f fe):=⟨jeQ h.sem k.sem,jln h.den k.den⟩
def jiB(h:QE cl X e te fE)(a:swapsWith e none pos.line X.env=pure false:=by rfl):QS cl pm X (.Expr e pos) (V5 te) (K8 fE):=⟨KZ h.sem a,jf1 h.den⟩
def jjM(h:QE cl X e te fE):QS cl pm X (.Return (some e) pos) (jmt te) (ym fE):=⟨jjL h.sem,jkX h.den⟩
def jlT{x y:List Stmt}(a:QT cl X c tA qa)(b:QSs cl pm X x ts f)(e:QSs cl pm X y tu fe):QS cl pm X (.If c x y pos) (jlC tA ts tu) (sIf (dPT qa) f fe):=⟨jk9 a.sem b.sem e.sem,jkU (PTt.d a.den) b.den e.den⟩
def ji2{i:Nat}{x:Str}{pos':Pos}(a:X.N.Nodup)(h:QE cl X e te fE)(hi:X.N[i]?=some x:=by rfl)(b:Loc X.env.scope x:=by first | exact Or.inl rfl | exact Or.inr rfl)(c:swapsWith e (some<|.Name x pos') pos.line X.env=pure false:=by rfl)
  (d:X.fn x=true\/X.env.scope.names.lookup x=some .local:=by first | exact .inl rfl | exact .inr rfl):QS cl pm X (.Assign [.Name x pos'] e pos) (jfY te<|KY i) (jM fE<|jd pm i):=⟨jlx a hi b h.sem c d,uT h.den K6⟩
def jjJ{tg:TG}{g:D->Rh->Option Rh}{R:RC}(h:PGt R pm tg g):DG R pm tg (λd ρ=>bif frz d then g d ρ else none):=by
 intro σ ρ c Z H O P d v w r s e Q k;dsimp only at e;refine oc e λa e=>?_;cases r.nil a;exact h r s e λsub nd b kp=>k ((Go.refl w).drop sub (nd w.nd)) b kp
@[simp] def jh8(fe:FE)(G:D->Rh->Option Rh)(ρ:Rh):Option Out:=(fe ρ).bind λx=>(bif frz x.1 then G x.1 x.2 else none).bind λr=>some<|.nx r
def jgk{a:Expr}(h:QE cl X e te fE)(b:QG cl pm X a t g)(c:swapsWithSole [a] e pos.line X.env=pure false:=by rfl)(d:swappedStores [a] e X.env=pure none:=by rfl)
  (h1:(assignEach [a] X.env).map (·.2)=[assign a X.env]:=by rfl):QS cl pm X (.Assign [a] e pos) (jfY te t) (jh8 fE g):=⟨jfE h.sem b.sem c d h1,uT h.den<|jjJ b.den⟩
def je0{i:Nat}{x:Str}{a c:Pos}(d:QB cl X (.Name x a) (v8 i)<|pV i)(hi:QB cl X b tb pb)(h:QE cl X e te fE)
  (f:∀ v,assign (.Subscript (.Name x a) b c) X.env v=(do
   let ov <- holding [v] (eval (.Name x a) X.env)
   let iv <- holding [v,ov] (eval b X.env)
   standAt c
   holding [v,ov,iv] (setItem ov iv v)
   release [v,ov,iv] []):=by intro _;rfl)
  (g:swapsWithSole [.Subscript (.Name x a) b c] e pos.line X.env=pure false:=by rfl) (j:swappedStores [.Subscript (.Name x a) b c] e X.env=pure none:=by rfl)
  (h1:(assignEach [.Subscript (.Name x a) b c] X.env).map (·.2)=[assign (.Subscript (.Name x a) b c) X.env]:=by rfl):
  QS cl pm X (.Assign [.Subscript (.Name x a) b c] e pos) (jfY te<|jm0 (v8 i) tb jbg) (jM fE<|gIx pm i pb):=⟨jfE h.sem (jjQ d.sem hi.sem uW f) g j h1,uT h.den<|jmg hi.den⟩
def je2:jnG X (jjm X.K):=by
 intro a s σ H o i C D Q I m n h;obtain⟨p,E,k,z,rfl,rfl,u,v,q⟩:=h;cases m;obtain⟨t,rfl⟩:=n;obtain⟨d,r,pl,F⟩:=I.list u;obtain⟨j,c,x,G,y,A⟩:=Qm v;obtain⟨w,g,e⟩:=r.get x;have B:=r.length;have J:=Ke;have b:EP X a σ Q w s:=⟨z,H,I,e,q⟩;by_cases l:0<=k
 ·have f:k.toNat=j:=by
   rw[seqIndex_of l A] at c;exact X7 c
  exact wpAny_getItem_list pl.isList l ∅ (by rw[f];simpa using g) b
 ·have f:(k+(d.toArray.size:Int)).toNat=j:=by
   rw[seqIndex_neg ∅ y] at c;rw[N2,<- B];exact X7 c
  exact wpAny_getItem_list_neg pl.isList ∅ (by rw[N2]<;>lia) ∅ (by rw[f];simpa using g) b
def jdD{i:Nat}{x:Str}{a c:Pos}{f:Operator}{d:Int->Int->Int}(g:QB cl X (.Name x a) (v8 i)<|pV i)(hi:QB cl X b tb pb)(j:PIp X f<|ipI d)(h:QB cl X e te pe)
  (k:∀ ov iv new,augStore b ov iv new=(do holding [new,ov,iv] (setItem ov iv new);release [new,ov,iv] [];pure .next):=by intros;rfl):QS cl pm X (.AugAssign (.Subscript (.Name x a) b c) f e pos) (jf8 (v8 i) tb te (jjm X.K) (ipI d) jbg) (jbw i pb d pe) :=
 ⟨jgC g.sem hi.sem je2 h.sem j uW k,je1 hi.den h.den⟩
@[simp] def jio(pm:List Nat)(i:Nat)(g:Int->Int->Int)(pa:PF)(ρ:Rh):Option Out:=(pV i ρ).bind λx=>(vD x).bind λa=>(pa ρ).bind λy=>(vD y).bind λb=>(jd pm i (.int<|g a b) ρ).bind λr=>some<|.nx r
def jis{R:RC}{i:Nat}{b:Int->Int->Int}{p:PF}(h:PB R te p):DS R pm (jnf i te<|ipI b) (jio pm i b p):=by
 intro σ ρ Z H O o w s e q k;refine ob e λc1 a e=>ob e λx e3 e=>ob e λt d e=>ob e λy f e=>ob e λz e2 e=>?_;cases e;cases j7 e3;cases j7 f;have a:=Va a;obtain⟨A,P,B,rfl,g,_,_⟩:=s.put (L8.mp a).1;obtain⟨v,j,r⟩:=g _ a;obtain⟨rfl,_⟩:=r.int_of;refine⟨_,j,h w.zd s d λ{u C D E} g1 l=>?_⟩;obtain⟨rfl,_⟩:=l.int_of;have c:=g1.widen w;exact⟨x,y,rfl,rfl,K6 (P:=[]) c.wf (Rep.int_mk (i:=b x y)) (g1.slots w.zd s) e2 λg2 m n=>k (c.trans g2) m n⟩
def jgs{i:Nat}{x:Str}{pos':Pos}{b:Operator}{a:Int->Int->Int}(c:X.N.Nodup)(d:PIp X b<|ipI a)(h:QB cl X e te pe)(hi:X.N[i]?=some x:=by rfl)(f:Loc X.env.scope x:=by first | exact Or.inl rfl | exact Or.inr rfl)
  (g:X.fn x=true\/X.env.scope.names.lookup x=some .local:=by first | exact .inl rfl | exact .inr rfl):QS cl pm X (.AugAssign (.Name x pos') b e pos) (jnf i te<|ipI a) (jio pm i a pe):=⟨jkc c hi f h.sem d g,jis h.den⟩
def jkZ{i:Nat}{x:Str}{a apos cpos:Pos}(j:QB cl X (.Name x a) (v8 i)<|pV i)(h:QP cl X e te pe)(c:attributeBase (.Name x a) "append" X.env (eval (.Name x a) X.env)=eval (.Name x a) X.env:=by rfl)
  (f:((backTo cpos<|starEach [e] X.env).all (λx=>!x.1)&&(backToKw cpos<|keywordEach [] X.env).all (λx=>x.1.isSome)
   && decide ([e].length+([]:List Keyword).length+(if([]:List Keyword).isEmpty then 0 else 1)<30))=true:=by rfl)
  (d:(apos.endLine==cpos.line)=true:=by rfl) (g:starEach [e] X.env=(false,eval e X.env)::starEach [] X.env:=by rfl) (b:(backTo cpos<|starEach [] X.env).any (·.1)=false:=by rfl)
  (hsw:swapsWith (.Call (.Attribute (.Name x a) "append" apos) [e] [] cpos) none pos.line X.env=pure false:=by rfl):
  QS cl pm X (.Expr (.Call (.Attribute (.Name x a) "append" apos) [e] [] cpos) pos) (V5<|tBM X.K "list" VU (v8 i)<|yj te VX) (K4 i pe) :=
 ⟨KZ (jem PySem.F.plainAttrs_list PySem.F.slot_list_append PySem.F.type_list_append VG j.sem (jK h.sem vU g) c f d g b) hsw,jkF h.den⟩
def jle{body:List Stmt}(c:PassesOwn (model X.prog X.w) X.A X.env X.xe)(d:X.calm=true)(hi:QI cl X tg iter wi pi)(a:QG cl pm X tg t g)(b:QSs cl pm X body ts f)(e:∀ x,foldedSetIterable iter X.env x=pure x:=by intro _;rfl):QS cl pm X (.For tg iter body [] pos) (jm4 wi t ts) (J2 pi g f) :=
 ⟨jks c d hi.sem a.sem b.sem e,jkd hi.den a.den b.den⟩
def QS.fz(i:Nat)(h:QS cl pm X st ts f):QS cl pm X st ts (sFz i f):=⟨h.sem,jnc h.den⟩
def jmZ{P:Program}{w:World}{K:W5}{mg:W7}{base:Heap}{x qual:Str}{a:Stmt}{fa:Addr}{fd:FuncData}{N ps:List Str}{k n:Nat}{fs:FS}(F:Fun K x qual a fa fd)(c:FnScope N ps<|jL a)(d:ps.length=n)
  (b:∀(cdv:Value) (A:Around) (outer:List Env) (s:Shared) (H:Hp) (E:XK),Room k (A.deeper<|envOfC qual (jL a) ↥s fa cdv) ->
   ∃ ts,QSs cl [] (jfp CX0 P w K mg base N qual (jL a) fa cdv A outer s H E).nox (vO a) ts fs):FnOk P w K mg base CX0 (k+1) fa fd ps (spP ⟨K,cl⟩ (fnP N.length fs) n):=by
 refine F.ok c (λe H Q E h=>by rw[jiu h,d]) λcdv A outer s H e Q E f h=>?_;obtain⟨ts,q⟩:=b cdv A outer s H E f;exact⟨ts,q.sem,jgW q.den h⟩
end
mutual
noncomputable def jcT:D->PyData
 | .non=>.none | .bl b=>.bool b | .int i=>.int i | .str s=>.str<|S s
 | .tup l=>.tuple<|qE l
 | .lst _ l=>.list<|qE l
 | .dK _ _ _=>.none | .dT _ _ _=>.none | .ins _ _ _ _=>.none | .dead=>.none | .exc _ _=>.none
noncomputable def qE:List D->List PyData
 | []=>[]
 | d::l=>jcT d::qE l
end
mutual
noncomputable def okE:Nat->D->Bool
 | _,.non=>true | _,.bl _=>true | _,.int _=>true
 | _,.str s=>s.all λc=>decide<|c<1114112
 | n+1,.tup l=>kJ n l
 | n+1,.lst _ l=>kJ n l
 | _,_=>false
noncomputable def kJ:Nat->List D->Bool
 | _,[]=>true
 | n,d::l=>okE n d&&kJ n l
end
mutual
noncomputable def eqD:D->D->Bool
 | .non,.non=>true
 | .bl a,.bl b=>a==b
 | .bl a,.int j=>(if a then 1 else 0)==j
 | .int i,.bl b=>i==(if b then 1 else 0)
 | .int i,.int j=>i==j
 | .str a,.str b=>a==b
 | .tup l,.tup m=>Qy l m
 | .lst _ l,.lst _ m=>Qy l m
 | _,_=>false
noncomputable def Qy:List D->List D->Bool
 | [],[]=>true
 | x::l,y::m=>eqD x y&&Qy l m
 | _,_=>false
end
theorem K9:∀(n:Nat) (l:List D),kJ n l=l.all (okE n)
 | _,[]=>rfl
 | n,d::l=>by rw[kJ,K9 n l];rfl
mutual
theorem jcm:∀(n:Nat) (x y:D),okE n x=true->okE n y=true->PyData.eqv (jcT x) (jcT y)=eqD x y
 | n,.non,y,hx,hy=>by cases y<;>first | rfl | (cases n<;>simp_all [okE])
 | n,.bl a,y,hx,hy=>by cases y<;>first | rfl | (cases n<;>simp_all [okE])
 | n,.int a,y,hx,hy=>by cases y<;>first | rfl | (cases n<;>simp_all [okE])
 | n,.str a,y,hx,hy=>by
  cases y with
  | str b=>
   show(S a==S b)=(a==b);rw[Bool.eq_iff_iff];simp[jl3]
  | _=>first | rfl | (cases n<;>simp_all [okE])
 | 0,.tup l,y,hx,hy=>by simp[okE] at hx
 | n+1,.tup l,y,hx,hy=>by
  cases y with
  | tup m=>show PyData.eqvAll (qE l) (qE m)=Qy l m;exact xi n l m (by simpa [okE] using hx) (by simpa [okE] using hy)
  | _=>first | rfl | (simp_all [okE])
 | 0,.lst o l,y,hx,hy=>by simp[okE] at hx
 | n+1,.lst o l,y,hx,hy=>by
  cases y with
  | lst o' m=>show PyData.eqvAll (qE l) (qE m)=Qy l m;exact xi n l m (by simpa [okE] using hx) (by simpa [okE] using hy)
  | _=>first | rfl | (simp_all [okE])
 | n,.dK _ _ _,y,hx,hy=>by cases n<;>simp[okE] at hx
 | n,.dT _ _ _,y,hx,hy=>by cases n<;>simp[okE] at hx
 | n,.ins _ _ _ _,y,hx,hy=>by cases n<;>simp[okE] at hx
 | n,.dead,y,hx,hy=>by cases n<;>simp[okE] at hx
 | n,.exc _ _,y,hx,hy=>by cases n<;>simp[okE] at hx
theorem xi:∀(n:Nat) (l m:List D),kJ n l=true->kJ n m=true->PyData.eqvAll (qE l) (qE m)=Qy l m
 | n,[],[],_,_=>rfl
 | n,[],_::_,_,_=>rfl
 | n,_::_,[],_,_=>rfl
 | n,x::l,y::m,hx,hy=>by
  rw[kJ,L9] at hx hy;show(PyData.eqv (jcT x) (jcT y)&&PyData.eqvAll (qE l) (qE m))=(eqD x y&&Qy l m);rw[jcm n x y hx.1 hy.1,xi n l m hx.2 hy.2]
end
mutual
theorem wM:∀(n:Nat) (x:D),okE n x=true->(jcT x).canLay0=true/\(jcT x).depth<=n
 | n,.non,_=>⟨rfl,U4 _⟩
 | n,.bl _,_=>⟨rfl,U4 _⟩
 | n,.int _,_=>⟨rfl,U4 _⟩
 | n,.str s,h=>by
  refine⟨?_,U4 _⟩;have h:(s.all λc=>decide<|c<1114112)=true:=by cases n<;>simpa [okE] using h
  show PyData.strOk (S s)=true;unfold PyData.strOk S;rw[Array.all_eq_true'];intro c hc;rw[List.all_eq_true] at h;exact h c ⇑hc
 | 0,.tup l,h=>by simp[okE] at h
 | n+1,.tup l,h=>by
  obtain⟨h1,h2⟩:=Vq n l (by simpa [okE] using h);exact⟨h1,Nat.succ_le_succ h2⟩
 | 0,.lst o l,h=>by simp[okE] at h
 | n+1,.lst o l,h=>by
  obtain⟨h1,h2⟩:=Vq n l (by simpa [okE] using h);exact⟨h1,Nat.succ_le_succ h2⟩
 | n,.dK _ _ _,hx=>by cases n<;>simp[okE] at hx
 | n,.dT _ _ _,hx=>by cases n<;>simp[okE] at hx
 | n,.ins _ _ _ _,hx=>by cases n<;>simp[okE] at hx
 | n,.dead,hx=>by cases n<;>simp[okE] at hx
 | n,.exc _ _,hx=>by cases n<;>simp[okE] at hx
theorem Vq:∀(n:Nat) (l:List D),kJ n l=true->PyData.canLayAll0 (qE l)=true/\PyData.depthAll (qE l)<=n
 | n,[],_=>⟨rfl,U4 _⟩
 | n,x::l,h=>by
  rw[kJ,L9] at h;obtain⟨h1,h2⟩:=wM n x h.1;obtain⟨h3,h4⟩:=Vq n l h.2;rw[qE];refine⟨?_,?_⟩
  ·show((jcT x).canLay0&&PyData.canLayAll0 (qE l))=true;rw[h1,h3];rfl
  ·show max (jcT x).depth (PyData.depthAll<|qE l)<=n;exact Nat.max_le.mpr ⟨h2,h4⟩
end
mutual
theorem Rep.reads(I:Inv X pins σ H s):∀(n:Nat) {x:D}{v:V}{u:Value}{O:W6},Rep ⟨X.K,cl⟩ Z H x v O->RelV v u->okE n x=true->∃ as,Reads s.heap u (jcT x) as
 | n,.non,_,_,_,r,q,_=>by obtain⟨rfl,_⟩:=r.non_of;cases q;exact⟨_,.none⟩
 | n,.bl b,_,_,_,r,q,_=>by obtain⟨rfl,_⟩:=r.bl_of;cases q;exact⟨_,.bool b⟩
 | n,.int i,_,_,_,r,q,_=>by obtain⟨rfl,_⟩:=r.int_of;obtain⟨t,rfl⟩:=q;exact⟨_,.int i t⟩
 | n,.str w,_,_,_,r,q,_=>by obtain⟨rfl,_⟩:=r.str_of;obtain⟨t,rfl⟩:=q;exact⟨_,.str _ t⟩
 | 0,.tup l,_,_,_,r,q,h=>by simp[okE] at h
 | n+1,.tup l,_,_,_,r,q,h=>by
  obtain⟨a,vs,rfl,hx,rs⟩:=r.tup_of;cases q;obtain⟨its,rv,⟨o,h1,h2,k,h3⟩,_⟩:=I.tuple hx;obtain⟨as,hr⟩:=Reps.reads I n rs rv (by simpa [okE] using h);exact⟨_,reads_tuple_at h1 h2 h3 ⇑hr⟩
 | 0,.lst o l,_,_,_,r,q,h=>by simp[okE] at h
 | n+1,.lst o l,_,_,_,r,q,h=>by
  obtain⟨a,vs,O',rfl,hx,rs⟩:=r.lst_of;cases q;obtain⟨its,rv,⟨o,k,h1,h2,_,h3⟩,_⟩:=I.list hx.sq;obtain⟨as,hr⟩:=Reps.reads I n rs rv (by simpa [okE] using h);exact⟨_,reads_list_at h1 h2 h3 ⇑hr⟩
 | n,.dK _ _ _,_,_,_,_,_,hx=>by cases n<;>simp[okE] at hx
 | n,.dT _ _ _,_,_,_,_,_,hx=>by cases n<;>simp[okE] at hx
 | n,.ins _ _ _ _,_,_,_,_,_,hx=>by cases n<;>simp[okE] at hx
 | n,.dead,_,_,_,_,_,hx=>by cases n<;>simp[okE] at hx
 | n,.exc _ _,_,_,_,_,_,hx=>by cases n<;>simp[okE] at hx
theorem Reps.reads(I:Inv X pins σ H s):∀(n:Nat) {l:List D}{vs:List V}{us:List Value}{O:W6},Reps ⟨X.K,cl⟩ Z H l vs O->Vals vs us->kJ n l=true->∃ as,ReadsAll s.heap us (qE l) as
 | n,[],_,_,_,r,q,_=>by rw[Reps] at r;obtain⟨rfl,_⟩:=r;cases q;exact⟨_,.nil⟩
 | n,x::l,_,_,_,r,q,h=>by
  rw[Reps] at r;obtain⟨v,vs,O1,O2,rfl,rfl,r1,r2⟩:=r;rw[kJ,L9] at h;cases q with
  | cons q1 q2=>
   obtain⟨as,h1⟩:=Rep.reads I n r1 q1 h.1;obtain⟨bs,h2⟩:=Reps.reads I n r2 q2 h.2;exact⟨_,.cons h1 h2⟩
end
def jfA(R:RC)(neg:Bool):R2:=λx y H Q=>∃ Z d e O P,Rep R Z H d x O/\Rep R Z H e y P/\okE 20 d=true/\okE 20 e=true/\Q (.bl<|neg != eqD d e) H
def jlG(h:okE 20 x=true):SeqAt.shaped (jcT x)=true:=by
 obtain⟨a,b⟩:=wM 20 x h;unfold SeqAt.shaped;rw[a,Bool.true_and];exact X4<|N6 b (by decide)
def jlg(f:X.A.units+64<cLine):OpR X (compareOp .Eq) (jfA ⟨X.K,cl⟩ false):=by
 intro c s σ H x y v u Q I g i h;obtain⟨Z,d,e,O,P,j,k,a,b,q⟩:=h;obtain⟨n,l⟩:=j.reads I 20 g a;obtain⟨bs,m⟩:=k.reads I 20 i b;refine eq_dataH l m (jlG a) (jlG b) f ?_;rw[jcm 20 d e a b];exact⟨.bl _,H,I,rfl,by simpa using q⟩
def jjh(f:X.A.units+64<cLine):OpR X (compareOp .NotEq) (jfA ⟨X.K,cl⟩ true):=by
 intro c s σ H x y v u Q I g i h;obtain⟨Z,d,e,O,P,j,k,a,b,q⟩:=h;obtain⟨n,l⟩:=j.reads I 20 g a;obtain⟨bs,m⟩:=k.reads I 20 i b;refine ne_dataH l m (jlG a) (jlG b) f ?_;rw[jcm 20 d e a b];exact⟨.bl _,H,I,rfl,by simpa using q⟩
def vC(x y:D):Option D:=bif Jk x&&Jk y&&K2 x y then some (.bl<|eqF x y) else bif okE 20 x&&okE 20 y then some (.bl<|eqD x y) else none
def Jg(x y:D):Option D:=bif Jk x&&Jk y&&K2 x y then some (.bl<|!eqF x y) else bif okE 20 x&&okE 20 y then some (.bl<|!eqD x y) else none
def jlY:BO R (λx y H Q=>rEq x y H Q\/jfA R false x y H Q) vC:=by
 intro Z H x y d v u f g z b c e Q k;unfold vC at e;cases hl:Jk x&&Jk y&&K2 x y with
 | true=>
  rw[hl] at e;cases e;obtain⟨h,i⟩:=ja0 b c hl;exact .inl ⟨h,by rw[i];exact k (Go.id z) .bl_mk⟩
 | false=>
  rw[hl,cond_false] at e;refine oc e λa e=>?_;cases e;rw[L9] at a;exact .inr ⟨Z,x,y,f,g,b,c,a.1,a.2,by simpa using k (Go.id z) .bl_mk⟩
def jlV:BO R (λx y H Q=>rNe x y H Q\/jfA R true x y H Q) Jg:=by
 intro Z H x y d v u f g z b c e Q k;unfold Jg at e;cases hl:Jk x&&Jk y&&K2 x y with
 | true=>
  rw[hl] at e;cases e;obtain⟨h,i⟩:=ja0 b c hl;exact .inl ⟨h,by rw[i];exact k (Go.id z) .bl_mk⟩
 | false=>
  rw[hl,cond_false] at e;refine oc e λa e=>?_;cases e;rw[L9] at a;exact .inr ⟨Z,x,y,f,g,b,c,a.1,a.2,by simpa using k (Go.id z) .bl_mk⟩
def c_eq(a:Room k X.A):CmpR cl X .Eq b (λx y H Q=>rEq x y H Q\/jfA ⟨X.K,cl⟩ false x y H Q) vC:=⟨Yx jnk<|jlg a.units,jlY,Vw _⟩
def c_ne(a:Room k X.A):CmpR cl X .NotEq b (λx y H Q=>rNe x y H Q\/jfA ⟨X.K,cl⟩ true x y H Q) Jg:=⟨Yx jlX<|jjh a.units,jlV,Vw _⟩
def BM(R:RC)(T:String)(r:V->List V->Hp->VK->Prop)(g:D->List D->Option D):Prop:=∀{Z:Zn}{H:Hp}{x d:D}{xs:List D}{v:V}{vs:List V}{O1 O2:W6},Zd Z H->Rep R Z H x v O1->Reps R Z H xs vs O2->g x xs=some d ->
 ∀{Q:VK},(∀{w:V}{Z':Zn}{H':Hp}{P:W6},Go Z H [] Z' H' P->Rep R Z' H' d w P->Q w H')->r v vs H Q
noncomputable def isT:String->D->Bool
 | "str",.str _=>true
 | _,_=>false
@[simp] def pBM(T:String)(g:D->List D->Option D)(pa:PF)(pr:PAf)(ρ:Rh):Option D:=(pa ρ).bind λx=>bif isT T x then(pr ρ).bind λxs=>g x xs else none
def jlt(r:Rep R Z H x v O)(h:isT T x=true):tyV R.K T v H:=by
 unfold isT at h;split at h
 ·obtain⟨rfl,_⟩:=r.str_of;rfl
 ·cases h
def jnp(b:BM R T r g)(c:PB R to pa)(f:PBs R ta pr):PP R (tBM R.K T r to ta) (pBM T g pa pr):=by
 intro σ ρ Z H O d z s e Q k;refine ob e λx h e=>oc e λi e=>ob e λm e2 e=>?_;refine c z s h λ{v n o p} g1 a=>⟨jlt a i,?_⟩;refine f g1.wf.zd (g1.slots z s) e2 λ{q t u w} g2 j=>?_;exact b g2.wf.zd (g2.rep g1.wf.zd a) j e λg3 l=>k ((g1.pair g2).pair g3) l
end QD
namespace QD
open PySem L2
section
variable {R:RC}{Z Z':Zn}{H H':Hp}{pm:List Nat}
def ItB(R:RC)(J:It)(Z:Zn)(H:Hp)(xs:List D):Prop:=∀{Z1:Zn}{H1:Hp},(∀ a,Z a->Z1 a)->(∀ a,H a≠none->H1 a=H a)->Zd Z1 H1->∀ i:Nat,
 (xs.length<=i->J.stop i H1)/\∀ x,xs[i]?=some x->J.go i H1/\∀ u H2,J.yld i H1 u H2->∃ Z2,Go Z1 H1 [] Z2 H2 []/\Rep R Z2 H2 x u []
def jjC(R:RC)(wi:TI)(p:PAf):Prop:=∀{σ:St}{ρ:Rh}{Z:Zn}{H:Hp}{O:W6}{xs:List D},Zd Z H->Slots R Z H ρ σ O->p ρ=some xs ->
 ∀{Q:It->Hp->Prop},(∀{J:It}{Z':Zn}{H':Hp},Go Z H [] Z' H' []->ItB R J Z' H' xs->Q J H')->wi σ H Q
def PIt.b(h:PIt R wi p):jjC R wi p:=by
 intro σ ρ Z H O j z s e Q k;refine h z s e λg c=>k g ?_;intro l m d f zd i;exact c d (λa z=>f a<|g.wf.zd a z) zd i
def itB:D->Option (List D)
 | .lst _ l=>bif frzs l then some l else none
 | .tup l=>bif frzs l then some l else none
 | .str s=>some<|s.map λc=>.str [c]
 | _=>none
@[simp] def VA(p:PF)(ρ:Rh):Option (List D):=(p ρ).bind itB
def jew(b:∀ a,H a≠none->H' a=H a)(h:SqX K H a vs):SqX K H' a vs:=by
 rcases h with h | h
 ·refine .inl<|Rd.agree (b a ?_) h;rcases h with h | ⟨o,h⟩<;>rw[h]<;>exact λz=>(nomatch z)
 ·exact .inr h
def jfh(b:∀ a,H a≠none->H' a=H a)(h:SqT K H a vs):SqT K H' a vs:=by
 rcases h with h | h
 ·refine .inl<|Rd.agree (b a ?_) h;rcases h with h | ⟨o,h⟩<;>rw[h]<;>exact λz=>(nomatch z)
 ·exact .inr h
def jk7(h:PB R te p):jjC R (jko R.K te) (VA p):=by
 intro σ ρ Z H O N z s e Q k;refine ob e λc F e=>?_;cases c with
 | lst o l=>
  refine oc e λG e=>?_;cases e;refine h z s F λ{v I J P} g1 y=>?_;obtain⟨a,f,T,rfl,A,B⟩:=y.lst_of;have g:=B.frozen G;refine .inl ⟨a,rfl,⟨f,A.sq⟩,k g1 ?_⟩;intro r E C j zd i;have d:=SqX.sq<|jew j A;have m:Reps R r E N f []:=g.frame C (λb z=>j b<|g1.wf.zd b z) λb L=>(nomatch L);refine⟨λhi=>⟨f,d,by rw[B.length];exact hi⟩,λx n=>?_⟩;obtain⟨u,D,M⟩:=m.item n;refine⟨⟨f,u,d,D⟩,λw S q=>?_⟩;obtain⟨rfl,q⟩:=q;have e2:=q f d;rw[D] at e2;cases e2;exact⟨r,Go.id zd,M⟩
 | tup l=>
  refine oc e λG e=>?_;cases e;refine h z s F λ{v I J P} g1 y=>?_;obtain⟨a,f,rfl,A,B⟩:=y.tup_of;have g:=B.frozen G;refine .inr<|.inl ⟨a,rfl,⟨f,A⟩,k g1 ?_⟩;intro r E C j zd i;have d:=jfh j A;have m:Reps R r E N f []:=g.frame C (λb z=>j b<|g1.wf.zd b z) λb L=>(nomatch L);refine⟨λhi=>⟨f,d,by rw[B.length];exact hi⟩,λx n=>?_⟩;obtain⟨u,D,M⟩:=m.item n;refine⟨⟨f,u,d,D⟩,λw S q=>?_⟩;obtain⟨rfl,q⟩:=q;have e2:=q f d;rw[D] at e2;cases e2;exact⟨r,Go.id zd,M⟩
 | str t=>
  cases e;refine h z s F λ{v I J P} g1 y=>?_;obtain⟨rfl,_⟩:=y.str_of;refine .inr<|.inr ⟨t,rfl,k g1 ?_⟩;intro r E C j zd i;exact jfz (Z:=I) (H:=J) C (λb z=>j b<|g1.wf.zd b z) zd i
 | _=>cases e
inductive CpI (R:RC) (g:D->Rh->Option Rh) (q:PTf) (p:PF) (Z0:Zn) (H0:Hp) (a:Addr) (xs all:List D) (i m:Nat) (σ2:L2.St) (H2:Hp):Prop
 | mk:m=xs.length-i->i<=xs.length->∀(ρ2:Rh) (Z2:Zn) (O2:W6) (ys:List D) (vs:List V) (Py:W6) (rest:List D),Go Z0 H0 [] Z2 H2 (a::Py)->H2 a=some (.lst vs)->Reps R Z2 H2 ys vs Py->(∀ b∈O2,b≠a)->Slots R Z2 H2 ρ2 σ2 O2->yQ g q p (xs.drop i) ρ2=some rest->all=ys++rest->ys.length<=i->CpI R g q p Z0 H0 a xs all i m σ2 H2
def J0{tg:TG}{tc:TT}{te:TE}{g:D->Rh->Option Rh}{q:PTf}{p:PF}{ix:List (Option Nat)}(hg:PGt R [] tg g)(hq:PTt R tc q)(he:PP R te p)
  {J:It}{j:Zn}{c:Hp}{ρ:Rh}{σ:L2.St}{O:W6}{xs all:List D}(F:Zd j c) (s:Slots R j c ρ σ O) (it:ItB R J j c xs) (hl:lim xs.length=true) (e2:yQ g q p xs (jO ix ρ)=some all)
  {Q:VK}(k:∀{v:V}{Z':Zn}{H':Hp}{P:W6},Go j c [] Z' H' P->Rep R Z' H' (.lst true all) v P->Q v H'):∀ a,c a=none->wJ tc te tg J a (va ix σ) (upd c a<|.lst []) λH2=>Q (.ref a) H2:=by
 intro a ha;obtain⟨Oi,si⟩:=Jt s ix;have gp:Go j c [] j (upd c a<|.lst []) [a]:=Go.newO (wf0 F) ha;refine⟨CpI R g q p j c a xs all,
  ⟨xs.length,rfl,U4 _,_,j,Oi,[],[],[],all,gp,jA,Reps.empty,λb d e=>si.dom b d<|e▸ha,gp.slots F si,e2,rfl,M8 _⟩,?_⟩
 rintro i m σ2 H2 ⟨rfl,U,ρ2,Z2,O2,W,l,h,rest,g2,G,L,X,s2,e3,M,t⟩;have H:=it (Z1:=Z2) (H1:=H2) g2.zz (λb z=>g2.same b z) g2.wf.zd i;by_cases w:i<xs.length
 ·right
  have hx:xs[i]?=some xs[i]:=by simp[w]
  obtain⟨go,yl⟩:=H.2 _ hx;refine⟨go,λu H3 hy=>?_⟩;obtain⟨Z3,g3,r3⟩:=yl u H3 hy;rw[JZ hx] at e3;refine ob e3 λρ3 e5 e3=>?_;refine hg r3 (g3.slots g2.wf.zd s2) e5 λ{σ4 O4} sub nd N _=>?_;refine ob e3 λb e6 e3=>?_;refine hq g3.wf.zd N e6 λ{Z5 H5} I=>?_;have o:=g3.pair I;cases b with
  | true=>
   refine jfW ?_;rw[cond_true] at e3;refine ob e3 λy e7 e3=>ob e3 λY e8 e3=>?_;cases e3;refine he I.wf.zd (I.slots g3.wf.zd N) e7 λ{S C r E} g6 r6=>?_;have x:Go Z2 H2 [] C r E:=by simpa using o.pair g6
   have Z:r a=some (.lst l):=by rw[x.same a<|by rw[G];exact λz=>(nomatch z)];exact G
   have hvl:l.length<sizeLine:=by
    rw[L.length];exact wS (n:=W.length)<|X4<|N6 t<|N6 U<|X6 hl
   have T:Go j c [] C r (a::h++E):=by
    have f:=x.frame (A:=a::h) (B:=[]) ⇑g2.wf;exact g2.trans ⇑f
   have w6:=T.wf;have gB:Go C r (a::h++E) C (upd r a<|.lst<|l++[S]) (a::h++E):=Go.put w6 L6;have nd6:=List.nodup_cons.mp w6.nd;have ne:∀ b,b∈h++E->upd r a (.lst<|l++[S]) b=r b:=λb d=>jh λz=>nd6.1<|z▸d;have K:∀ b,C b->upd r a (.lst<|l++[S]) b=r b:=λb d=>jh λz=>w6.nz a L6<|z▸d;refine⟨l,Z,hvl,xs.length-(i+1),by lia,rfl,w,ρ3,C,O4,W++[y],l++[S],h++E,Y,T.trans gB,jA,?_,λb d=>X b<|sub b d,?_,e8,by rw[M];simp,by rw[N3];exact Nat.add_le_add_right t 1⟩
   ·refine((x.reps g2.wf.zd L).append (.one r6)).frame (λb z=>z) K ne
   ·exact((I.pair g6).slots g3.wf.zd N).frame (λb z=>z) K λb d=>jh<|X b<|sub b d
  | false=>
   refine jfm ?_;rw[cond_false] at e3;have T:Go j c [] Z5 H5 (a::h):=by
    have f:=o.frame (A:=a::h) (B:=[]) ⇑g2.wf;exact g2.trans ⇑f
   exact⟨xs.length-(i+1),by lia,rfl,w,ρ3,Z5,O4,W,l,h,rest,T,by rw[o.same a<|by rw[G];exact λz=>(nomatch z)];exact G,o.reps g2.wf.zd L,λb d=>X b<|sub b d,I.slots g3.wf.zd N,e3,M,Nat.le_succ_of_le t⟩
 ·left
  have hi2:i=xs.length:=by lia
  refine⟨H.1 ∅,?_⟩;rw[hi2,List.drop_length] at e3;cases e3;rw[M9] at M;subst M;refine k (P:=a::h) g2 ?_;rw[Rep];exact⟨a,l,h,rfl,L,G,rfl⟩
def uK{wi:TI}{tg:TG}{tc:TT}{te:TE}{pi:PAf}{g:D->Rh->Option Rh}{q:PTf}{p:PF}{ix:List (Option Nat)}(hi:jjC R wi pi)(a:PGt R [] tg g)(b:PTt R tc q)(c:PP R te p):
  PP R (wd wi tg tc te ix) (y9 pi g q p ix):=by
 intro σ ρ Z H O d z s e Q k;refine ob e λl f e=>oc e λh e=>ob e λall e2 e=>?_;cases e;refine hi z s f λ{J m n} g0 i=>?_;exact J0 a b c g0.wf.zd (g0.slots z s) i h e2 λg1 j=>k ⇑(g0.pair g1) j
end
section
variable {cl:Nat->Addr}{pm:List Nat}{X:Cx}{c e elt tg iter:Expr}{te:TE}{pe:PF}{ifs:List Expr}{wi:TI}{pi:PAf}{t:TG}{g:D->Rh->Option Rh}{pos:Pos}{ts:TS}{f:FS}
structure QIb(cl:Nat->Addr)(X:Cx)(tg e:Expr)(wi:TI)(p:PAf):Prop where
 sem:PI X tg e wi
 den:jjC ⟨X.K,cl⟩ wi p
def QI.b'(h:QI cl X tg e wi pi):QIb cl X tg e wi pi:=⟨h.sem,PIt.b h.den⟩
def jiy(h:QB cl X e te pe):QIb cl X tg e (jko X.K te) (VA pe):=⟨jfO h.sem,jk7 h.den⟩
def jgb{scope:Scope}{N':List Str}{ix:List (Option Nat)}{a:TT}{c:PTf}(B:BlockOk X scope N' ix)(f:X.calm=true)(hi:QIb cl X tg iter wi pi)
  (d:∀ C s H fp,QG cl [] (yO X scope N' C s H fp) tg t g) (b:∀ C s H fp,QIf cl (yO X scope N' C s H fp) ifs a c) (e:∀ C s H fp,QP cl (yO X scope N' C s H fp) elt te pe)
  (h:∀ x,foldedSetIterable iter X.env x=pure x:=by intro _;rfl):QP cl X (.ListComp elt [⟨tg,iter,ifs,0⟩] scope pos) (wd wi t a te ix) (y9 pi g c pe ix) :=
 ⟨jba B f hi.sem (λC s H fp=>(d C s H fp).sem) (λC s H fp=>(b C s H fp).sem) (λC s H fp=>(e C s H fp).sem) h,
  uK hi.den (d 0 X.s₀ X.H₀ []).den (b 0 X.s₀ X.H₀ []).den (e 0 X.s₀ X.H₀ []).den⟩
def xM{i:Nat}{x:Str}{pos' a:Pos}{scope:Scope}{N':List Str}{ix:List (Option Nat)}{b:TT}{f:PTf}(B:BlockOk X scope N' ix)(k:X.calm=true)(hi:QIb cl X tg iter wi pi)
  (h:∀ C s H fp,QG cl [] (yO X scope N' C s H fp) tg t g) (c:∀ C s H fp,QIf cl (yO X scope N' C s H fp) ifs b f) (j:∀ C s H fp,QP cl (yO X scope N' C s H fp) elt te pe)
  (l:X.N.Nodup) (e:X.N[i]?=some x:=by rfl) (m:Loc X.env.scope x:=by first | exact Or.inl rfl | exact Or.inr rfl)
  (hsw:swapsWith (.ListComp elt [⟨tg,iter,ifs,0⟩] scope pos) (some<|.Name x pos') a.line X.env=pure true:=by with_unfolding_all rfl)
  (n:∀ x,foldedSetIterable iter X.env x=pure x:=by intro _;rfl)
  (o:X.fn x=true\/X.env.scope.names.lookup x=some .local:=by first | exact .inl rfl | exact .inr rfl):
  QS cl pm X (.Assign [.Name x pos'] (.ListComp elt [⟨tg,iter,ifs,0⟩] scope pos) a) (jfY (wd wi t b te ix)<|KY i) (jM (dP<|y9 pi g f pe ix)<|jd pm i) :=
 ⟨jaE B k hi.sem (λC s H fp=>(h C s H fp).sem) (λC s H fp=>(c C s H fp).sem) (λC s H fp=>(j C s H fp).sem) l e m hsw n o,
  uT (PP.d<|uK hi.den (h 0 X.s₀ X.H₀ []).den (c 0 X.s₀ X.H₀ []).den (j 0 X.s₀ X.H₀ []).den) K6⟩
end
@[simp] def pV0:pV 0 (o::ρ)=o:=by unfold pV;cases o<;>rfl
@[simp] def pVs:pV (i+1) (o::ρ)=pV i ρ:=rfl
@[simp] def gN_e:gN [] ρ=some ρ:=rfl
@[simp] def gC_e:gC G Gs (d::r) ρ=(G d ρ).bind λρ1=>Gs r ρ1:=rfl
@[simp] def gT_e:gT n Gs (.tup l) ρ=bif decide (l.length=n) then Gs l ρ else none:=rfl
@[simp] def itB_lst(o:Bool)(l:List D):itB (.lst o l)=bif frzs l then some l else none:=rfl
@[simp] def itB_tup(l:List D):itB (.tup l)=bif frzs l then some l else none:=rfl
@[simp] def itB_str(l:List Nat):itB (.str l)=some (l.map λc=>D.str [c]):=rfl
@[simp] def enumOf_e(o:Bool)(l:List D):jfZ [.lst o l]=some (yo 0<|fzs l):=rfl
@[simp] def zipOf_e(o o':Bool)(l m:List D):jiS [.lst o l,.lst o' m]=some (QM (fzs l)<|fzs m):=rfl
def zx(h:-(2 ^ 62)<j)(k:j<2 ^ 62):Km j=true:=Nat.ble_eq_true_of_le ∅
def vv(h:-(2 ^ 62)<j)(k:j<2 ^ 62):VT [.int j]=some (qj 0 j.toNat):=by
 show(bif Km j then some (qj 0 j.toNat) else none)=_;rw[zx h k];rfl
def jD(n:Nat)(f:FS)(ds:List D):fnP n f ds=(f<|ds.map some++List.replicate (n-ds.length) none).bind Out.val:=rfl
@[simp] def sLoop_nil:yB G f [] ρ=some (.nx ρ):=rfl
def kD:yB G f (x::xs) ρ=(G x ρ).bind λr=>(f r).bind λo=>o.loop (yB G f xs):=rfl
@[simp] def cLoop_nil:yQ G q p [] ρ=some []:=rfl
def qV:yQ G q p (x::xs) ρ=(G x ρ).bind λr=>(q r).bind λb=>bif b then((p r).bind λy=>(yQ G q p xs r).bind λys=>some<|y::ys) else yQ G q p xs r:=rfl
def yb(P:Nat->Rh->Prop)(step:∀ i x ρ,xs[i]?=some x->P i ρ->∃ ρ1 ρ2,G x ρ=some ρ1/\(f ρ1=some (.nx ρ2)\/f ρ1=some (.ct ρ2))/\P (i+1) ρ2)  (d:P 0 ρ):
  ∃ ρ',yB G f xs ρ=some (.nx ρ')/\P xs.length ρ':=by
 have b:∀(n i:Nat) (ρ:Rh),xs.length-i=n->i<=xs.length->P i ρ->∃ ρ',yB G f (xs.drop i) ρ=some (.nx ρ')/\P xs.length ρ':=by
  intro n
  induction n with
  | zero=>
   intro i ρ e hi p;have:i=xs.length:=by lia
   subst this;exact⟨ρ,by rw[List.drop_length];rfl,p⟩
  | succ n g=>
   intro i ρ e hi p;have a:i<xs.length:=by lia
   have c:xs[i]?=some xs[i]:=by simp[a]
   obtain⟨ρ1,ρ2,h,e2,p2⟩:=step i _ ρ c p;obtain⟨ρ',e3,p3⟩:=g (i+1) ρ2 ∅ a p2;refine⟨ρ',?_,p3⟩;rw[JZ c,kD,h];rcases e2 with e2 | e2<;>simp[e2,e3]
 exact b _ 0 ρ rfl (U4 _) d
def ya{G:D->Rh->Option Rh}{xs:List D}{l:List α}{en:α->D}{out:α->D}(a:xs=l.map en)(P:Rh->Prop)(step:∀ x∈l,∀ ρ,P ρ->∃ ρ1,G (en x) ρ=some ρ1/\p ρ1=some (out x)/\P ρ1){ρ:Rh}(b:P ρ):yQ G qT p xs ρ=some (l.map out):=by
 subst a
 induction l generalizing ρ with
 | nil=>rfl
 | cons x l c=>
  obtain⟨ρ1,d,e2,p1⟩:=step x L6 ρ b;rw[L4,qV,d];simp[e2,c (λy e=>step y<|L5 _ e) p1]
@[simp] def cond_dec(p:Prop) [Decidable p] (x y:α):(bif decide p then x else y)=if p then x else y:=by by_cases h:p<;>simp[h]
@[simp] def cond_beq_int(i j:Int)(x y:α):(bif i==j then x else y)=if i=j then x else y:=by
 by_cases h:i=j
 ·subst h;simp
 ·rw[if_neg h,U1.mpr h];rfl
@[simp] def ite_bind(p:Prop) [Decidable p] (x y:Option α) (f:α->Option β):(if p then x else y).bind f=if p then x.bind f else y.bind f:=by by_cases h:p<;>simp[h]
@[simp] def add_ii(i j:Int):jq (.int i) (.int j)=some (.int<|i+j):=rfl
@[simp] def sub_ii(i j:Int):vk (.int i) (.int j)=some (.int<|i-j):=rfl
def vQ(h:i.natAbs<2 ^ 1000)(k:j.natAbs<2 ^ 1000):yT (.int i) (.int j)=some (.int<|i*j):=by
 show(bif jju i&&jju j then some (D.int<|i*j) else none)=_;rw[jdi h,jdi k];rfl
def jU(h:0<j)(k:j<2 ^ 300):jJ (.int i) (.int j)=some (.int<|i/j):=by
 show(bif decide (0<j)&&decide (j<2 ^ 300) then some (D.int<|i/j) else none)=_;rw[X4 h,X4 k];rfl
def jC(h:0<j):jo (.int i) (.int j)=some (.int<|i%j):=by
 show(bif decide (0<j) then some (D.int<|i%j) else none)=_;rw[X4 h];rfl
@[simp] def opB_ii(g:Int->Int->Bool)(i j:Int):opB g (.int i) (.int j)=some (.bl<|g i j):=rfl
@[simp] def eq_ii(i j:Int):vC (.int i) (.int j)=some (.bl<|i==j):=rfl
@[simp] def ne_ii(i j:Int):Jg (.int i) (.int j)=some (.bl<|!(i==j)):=rfl
@[simp] def v5(g:Int->Int->Int)(i j:Int):f2I g [.int i,.int j]=some (.int<|g i j):=rfl
@[simp] def frz_int(i:Int):frz (.int i)=true:=rfl
@[simp] def frz_bl(i:Bool):frz (.bl i)=true:=rfl
@[simp] def frz_str(i:List Nat):frz (.str i)=true:=rfl
@[simp] def frz_non:frz .non=true:=rfl
@[simp] def fz_int(i:Int):fz (.int i)=.int i:=rfl
@[simp] def fz_bl(i:Bool):fz (.bl i)=.bl i:=rfl
@[simp] def fz_str(i:List Nat):fz (.str i)=.str i:=rfl
@[simp] def fz_non:fz .non=.non:=rfl
@[simp] def fz_lst(o:Bool)(l:List D):fz (.lst o l)=.lst false (fzs l):=rfl
@[simp] def fz_tup(l:List D):fz (.tup l)=.tup (fzs l):=rfl
@[simp] def frz_lst(o:Bool)(l:List D):frz (.lst o l)=(!o&&frzs l):=rfl
@[simp] def frz_tup(l:List D):frz (.tup l)=frzs l:=rfl
@[simp] def fzs_nil:fzs []=[]:=rfl
@[simp] def jes(d:D)(l:List D):fzs (d::l)=fz d::fzs l:=rfl
@[simp] def frzs_nil:frzs []=true:=rfl
@[simp] def zO(d:D)(l:List D):frzs (d::l)=(frz d&&frzs l):=rfl
@[simp] def clean_int(i:Int):yn (.int i)=true:=rfl
@[simp] def clean_bl(i:Bool):yn (.bl i)=true:=rfl
@[simp] def clean_str(i:List Nat):yn (.str i)=true:=rfl
@[simp] def clean_non:yn .non=true:=rfl
@[simp] def clean_lst(o:Bool)(l:List D):yn (.lst o l)=(o&&jN l):=rfl
@[simp] def clean_tup(l:List D):yn (.tup l)=jN l:=rfl
@[simp] def cleans_nil:jN []=true:=rfl
@[simp] def cleans_cons(d:D)(l:List D):jN (d::l)=(yn d&&jN l):=rfl
@[simp] def qR(l:List Int):fzs (l.map D.int)=l.map D.int:=by
 rw[Jz,U0];rfl
@[simp] def kE(l:List Int):frzs (l.map D.int)=true:=by
 rw[YS,List.all_map,List.all_eq_true];intro x _;rfl
theorem vm:∀ l:List D,jN l=l.all yn
 | []=>rfl
 | d::l=>by rw[jN,vm l];rfl
@[simp] def cleans_ints(l:List Int):jN (l.map D.int)=true:=by
 rw[vm,List.all_map,List.all_eq_true];intro x _;rfl
@[simp] def intsD_ints(l:List Int):jaC (l.map D.int)=some l:=by
 induction l with
 | nil=>rfl
 | cons x l a=>show(jaC<|l.map D.int).bind _=_;rw[a];rfl
@[simp] def JU(o:Bool)(l:List D):zk [.lst o l]=(jaC l).bind λns=>some (.int ns.sum):=rfl
@[simp] def jB(o:Bool)(l:List D):vB [.lst o l]=some (.int l.length):=rfl
@[simp] def fLen_tup(l:List D):vB [.tup l]=some (.int l.length):=rfl
@[simp] def fList_lst(o:Bool)(l:List D):KJ [.lst o l]=bif frzs l then some (.lst true l) else none:=rfl
@[simp] def itemsOf_lst(o:Bool)(l:List D):Qi (.lst o l)=some (fzs l):=rfl
@[simp] def itemsOf_tup(l:List D):Qi (.tup l)=some (fzs l):=rfl
@[simp] def tyD_int(i:Int):tyD (.int i)=some "int":=rfl
@[simp] def tyD_bl(i:Bool):tyD (.bl i)=some "bool":=rfl
@[simp] def tyD_str(i:List Nat):tyD (.str i)=some "str":=rfl
@[simp] def tyD_non:tyD .non=some "NoneType":=rfl
@[simp] def tyD_lst(o:Bool)(l:List D):tyD (.lst o l)=some "list":=rfl
@[simp] def tyD_tup(l:List D):tyD (.tup l)=some "tuple":=rfl
theorem zG:∀(l m:List Int),Qy (l.map D.int) (m.map D.int)=decide (l=m)
 | [],[]=>rfl
 | [],_::_=>rfl
 | _::_,[]=>rfl
 | x::l,y::m=>by
  show((x==y)&&Qy (l.map D.int) (m.map D.int))=_;rw[zG l m];by_cases h:x=y<;>simp[h]
def zM(n:Nat)(l:List Int):kJ n (l.map D.int)=true:=by
 rw[K9,List.all_map,List.all_eq_true];intro x _;cases n<;>rfl
def jg3(o o':Bool)(l m:List Int):vC (.lst o<|l.map D.int) (.lst o'<|m.map D.int)=some (.bl<|decide<|l=m):=by
 show(bif okE 20 (.lst o<|l.map D.int)&&okE 20 (.lst o'<|m.map D.int) then some (D.bl<|Qy (l.map D.int)<|m.map D.int) else none)=_;rw[zG];show(bif kJ 19 (l.map D.int)&&kJ 19 (m.map D.int) then _ else _)=_;rw[zM,zM];rfl
def jk6{c:Nat->Addr}{m:List D->Option D}{ns:List Int}(h:m [.lst false<|ns.map D.int]=some (.bl true))(d:SqX K H a<|ns.map V.int):spP ⟨K,c⟩ m 1 [.ref a] H (λv _=>v=.bl true) E:=by
 refine⟨λb=>b=a/\H a≠none,[.lst false<|ns.map D.int],.bl true,λb e=>by rw[e.1];exact e.2,rfl,.one ?_,h,λg r=>r.bl_of.1⟩;rw[Rep];have f:∀(l:List Int),Reps ⟨K,c⟩ (λb=>b=a/\H a≠none) H (l.map D.int) (l.map V.int) []:=by
  intro l
  induction l with
  | nil=>exact .empty
  | cons x l i=>exact .cons (O:=[]) (P:=[]) .int_mk i
 refine⟨a,ns.map V.int,[],rfl,f ns,?_⟩;show FL _ _ _ _ _/\_;refine⟨?_,rfl,rfl⟩;rcases d with d | d
 ·refine .inl ⟨⟨rfl,?_⟩,d⟩;rcases d with d | ⟨o,d⟩<;>rw[d]<;>exact λz=>(nomatch z)
 ·exact .inr d
end QD
namespace L2
open PySem PySem.Spec PyProof.Rows
theorem Y8:∀{ws:List Str}{us:List Value},Vals (ws.map V.str) us->∃ l:List (Str×Tok),us=strValues l/\l.map (·.1)=ws
 | [],us,h=>by
  cases h;exact⟨[],rfl,rfl⟩
 | w::ws,us,h=>by
  cases h with
  | cons a b=>
   obtain⟨t,rfl⟩:=a;obtain⟨l,rfl,e⟩:=Y8 b;exact⟨(w,t)::l,rfl,by rw[L4,e]⟩
def jhE{X:Cx}:MtR X "str.join" (λx vs H Q=>∃(a:Str) (p:Addr) (ws:List Str),x=.str a/\vs=[.ref p]/\SqL X.K H p (ws.map V.str)/\JoinOk a ws=true/\Q (.str<|Txt.join a ws) H):=by
 intro c s σ H x vs v j Q I d b h;obtain⟨a,p,ws,rfl,rfl,f,hok,q⟩:=h;obtain⟨t,rfl⟩:=d;obtain⟨u,rfl,g⟩:=b.one;cases g;obtain⟨i,b,pl,m⟩:=I.list f;obtain⟨l,rfl,e⟩:=Y8 b;exact SC.join pl.isList e hok λn k=>⟨.str _,H,I.tok _,⟨_,rfl⟩,q⟩
end L2
namespace QD
open PySem L2 PySem.Spec PyProof.Rows
noncomputable def Qp(sep:List Nat):List (List Nat)->List Nat
 | []=>[]
 | [x]=>x
 | x::y::r=>x++sep++Qp sep (y::r)
theorem jdg(a:List Nat):∀ ws:List (List Nat),Str.join (S a) (ws.map S)=S (Qp a ws)
 | []=>rfl
 | [x]=>rfl
 | x::y::r=>by
  show S x++S a++Str.join (S a) ((y::r).map S)=_;rw[jdg a<|y::r,jh2,jh2];rfl
noncomputable def V2:List D->Option (List<|List Nat)
 | []=>some []
 | .str w::l=>match V2 l with
  | some ws=>some<|w::ws
  | none=>none
 | _::_=>none
@[simp] def strsD_strs(l:W4):V2 (l.map D.str)=some l:=by
 induction l with
 | nil=>rfl
 | cons x l a=>simp[V2,a]
section
variable {R:RC}{Z:Zn}{H:Hp}
theorem uH:∀{l:List D}{ws:W4}{vs:List V}{O:W6},V2 l=some ws->Reps R Z H l vs O->vs=(ws.map S).map V.str
 | [],ws,vs,O,e,r=>by
  cases e;have:=r.length;exact List.length_eq_zero_iff.mp this
 | x::l,ws,vs,O,e,r=>by
  cases x with
  | str w=>
   simp only[V2] at e;cases e1:V2 l with
   | none=>rw[e1] at e;cases e
   | some a=>
    rw[e1] at e;cases e;obtain⟨v,b,P,f,rfl,-,c,d⟩:=r;obtain⟨rfl,_⟩:=c.str_of;rw[uH e1 d];rfl
  | _=>cases e
noncomputable def Ju(sep:List Nat)(ws:W4):Bool:=decide<|(ws.map List.length).sum+ws.length*sep.length<=1000000
def jb8{a:List Nat}{b:W4}(h:Ju a b=true):JoinOk (S a) (b.map S)=true:=by
 unfold Ju at h;have h:=X6 h;unfold JoinOk;rw[StrLaws.joinTotal];have e:((b.map S).map (·.length))=b.map List.length:=by
  rw[U0];exact List.map_congr_left λw _=>Yk w
 rw[e,L0,Yk];unfold Builtin.Str.tooLong;have:sizeLine=16777216:=by decide
 simp
 lia
def jao:D->List D->Option D
 | .str sep,[.lst _ l]=>match V2 l with
  | some ws=>bif Ju sep ws then some (.str<|Qp sep ws) else none
  | none=>none
 | _,_=>none
def jf7:BM R "str" (λx vs H Q=>∃(a:Str) (p:Addr) (ws:List Str),x=.str a/\vs=[.ref p]/\SqL R.K H p (ws.map V.str)/\JoinOk a ws=true/\Q (.str<|Txt.join a ws) H) jao:=by
 intro Z H x d h v vs i j z r c e Q k;unfold jao at e;split at e
 ·rename_i b o l;cases e1:V2 l with
  | none=>rw[e1] at e;cases e
  | some ws=>
   rw[e1] at e;dsimp only at e;cases hm:Ju b ws with
   | false=>rw[hm] at e;cases e
   | true=>
    rw[hm] at e;cases e;obtain⟨rfl,_⟩:=r.str_of;obtain⟨v,rfl,f⟩:=c.one_of;obtain⟨p,m,n,rfl,g,c⟩:=f.lst_of;have:=uH e1 c;subst this;refine⟨S b,p,ws.map S,rfl,rfl,g.sq,jb8 hm,?_⟩;have e2:Txt.join (S b) (ws.map S)=S (Qp b ws):=(StrLaws.glued_eq_join _ _).trans (jdg b ws);rw[e2];exact k (Go.id z) .str_mk
 ·cases e
end
section
variable {cl:Nat->Addr}{X:Cx}{o e:Expr}{es:List Expr}{to:TE}{po:PF}{tr:TA}{pr:PAf}{name:Str}{apos cpos:Pos}{T id:String}{r:V->List V->Hp->VK->Prop}{g:D->List D->Option D}
def jnV(pa:PlainAttrs T)(slot:Slot T name id)(f:typeOf (.builtin id)=pure (.type "method_descriptor"))(j:MtR X id r)(k:BM ⟨X.K,cl⟩ T r g)(h:QB cl X o to po)(i:QBs cl X (e::es) tr pr)
  (b:attributeBase o name X.env (eval o X.env)=eval o X.env:=by rfl)
  (d:((backTo cpos<|starEach (e::es) X.env).all (λx=>!x.1)&&(backToKw cpos<|keywordEach [] X.env).all (λx=>x.1.isSome)
   && decide ((e::es).length+([]:List Keyword).length+(if([]:List Keyword).isEmpty then 0 else 1)<30))=true:=by rfl)
  (c:(apos.endLine==cpos.line)=true:=by rfl) (l:starEach (e::es) X.env=(false,eval e X.env)::starEach es X.env:=by rfl) (a:(backTo cpos<|starEach es X.env).any (·.1)=false:=by rfl):
  QP cl X (.Call (.Attribute o name apos) (e::es) [] cpos) (tBM X.K T r to tr) (pBM T g po pr) :=
 ⟨jem pa slot f j h.sem i.sem b d c l a,jnp k h.den i.den⟩
end
@[simp] def isT_str(w:List Nat):isT "str" (.str w)=true:=rfl
@[simp] def fJoin_e(a:List Nat)(o:Bool)(l:List D):jao (.str a) [.lst o l]=(V2 l).bind λws=>bif Ju a ws then some (.str<|Qp a ws) else none:=by
 unfold jao;cases h:V2 l<;>simp[h]
end QD
namespace QK
open PySem L2 QD PySem.Spec PyProof.Rows
section
variable {cl:Nat->Addr}{pm:List Nat}{X:Cx}{a b c e o:Expr}{es:List Expr}{ta tb tc te to:TE}{pa pb pc pe po:PF}{tr:TA}{pr:PAf}{pos:Pos}{K:W5}
variable {tg iter elt:Expr}{ifs:List Expr}{wi:TI}{pi:PAf}{t:TG}{g:D->Rh->Option Rh}
def add(c:X.K=K)(d:QB cl X a ta pa)(e:QB cl X b tb pb):QP cl X (.BinOp a .Add b pos) (tOp (jdK K) ta tb) (p2 jq pa pb):=by subst c;exact jkn d e
def ix(c:X.K=K)(d:QB cl X a ta pa)(e:QB cl X b tb pb)(f:xP b:=by exact λ_ _=>rfl):QB cl X (.Subscript a b pos) (tOp (rIx K) ta tb) (p2 jc pa pb):=by subst c;exact jnK d e f
theorem len(b:X.K=K)(c:X.mg "len" = none){p:Pos}(d:QBs cl X [e] tr pr)(f:Gl X "len":=by rfl)(g:starEach [e] X.env=(false,eval e X.env)::starEach [] X.env:=by rfl)(a:(backTo pos<|starEach [] X.env).any (·.1)=false:=by rfl):
  QP cl X (.Call (.Name "len" p) [e] [] pos) (tCB (λxs H Q=>∃ x n,xs=[x]/\jlH K x H n/\Q (.int n) H) tr) (pCB vB pr):=by subst b;exact jke c d f g a
theorem c_notin(a:X.K=K)(c:behindInMarks .NotIn b=false):CmpR cl X .NotIn b (jiO K true) (Jf true):=by subst a;exact QD.c_notin c
theorem c_eq{k:Nat}(a:X.K=K)(c:Room k X.A):CmpR cl X .Eq b (λx y H Q=>rEq x y H Q\/jfA ⟨K,cl⟩ false x y H Q) vC:=by subst a;exact QD.c_eq c
theorem c_ne{k:Nat}(a:X.K=K)(c:Room k X.A):CmpR cl X .NotEq b (λx y H Q=>rNe x y H Q\/jfA ⟨K,cl⟩ true x y H Q) Jg:=by subst a;exact QD.c_ne c
def g_tup{ts:TGs}{b:List D->Rh->Option Rh}{k n:Nat}(c:X.K=K)(d:X.calm=true)(h:QGs cl pm X es ts b)(e:(assignEach es X.env).length=n:=by rfl)(a:(assignEach es X.env).findIdx? (·.1)=none:=by rfl):QG cl pm X (.Tuple es k pos) (jlN K n ts) (gT n b):=by subst c;exact jfP d h e a
end
end QK
namespace QD
open PySem L2 PySem.Spec PyProof.Rows
@[simp] def jdb(i:Nat)(p:PAf)(ρ:Rh):Option (D×Rh):=(pV i ρ).bind λd=>(p ρ).bind λds=>bif lim (ds.length+1) then some (.tup<|d::ds,ρ.set i none) else none
def jef(u:PPs R ta p):DE R (wO<|yj (v8 i) ta) (jdb i p):=by
 intro σ ρ G Z H O d w h e Q k;refine ob e λc l e=>ob e λI x e=>oc e λy e=>?_;cases e;have l:=Va l;obtain⟨A,P,B,rfl,C,J,D⟩:=h.put (L8.mp l).1;obtain⟨v,E,r⟩:=C c l;refine⟨v,E,u w.zd h x λ{K o m F} g1 s=>⟨by rw[M0,s.length];exact Jo y,λq n=>?_⟩⟩;have t:=g1.widen w;have f:=t.wf.nd;have g2:Go Z H (A++P++B) o m ((P++F)++(A++B)):=t.drop (λa q=>by simp at q ⊢;rcases q with q | q | q | q<;>simp[q]) (by
  simp only[U8,N1] at f ⊢;refine⟨⟨f.2.1.1.2.1,f.1,λa j b g e=>f.2.2 b g a (.inl<|.inr j) e.symm⟩,⟨f.2.1.1.1,f.2.1.2.1,λa j b g=>f.2.1.2.2 a (.inl j) b g⟩,λa j b g e=>?_⟩;rcases j with j | j
  ·rcases g with g | g
   ·exact f.2.1.1.2.2 b g a j e.symm
   ·exact f.2.1.2.2 a (.inr j) b g e
  ·rcases g with g | g
   ·exact f.2.2 a j b (.inl<|.inl g) e
   ·exact f.2.2 a j b (.inr g) e)
 have ne:∀ a,m a≠none->a≠q:=λa h e=>h<|e▸n;have s1:Slots R o m (ρ.set i none) σ (A++B):=g1.slots w.zd D;refine k (g2.trans<|Go.newF g2.wf n) (Rep.tupNew g2.wf.left n<|Reps.cons (g1.rep w.zd r) s)<|s1.frame (λa z=>.inl z) (λa z=>jh<|ne a<|g2.wf.zd a z) λa j=>jh<|ne a<|s1.dom a j
def jgO{x1}(i:Nat)  (a:QB cl X (.Name x xpos) (v8 i)<|pV i) (h:QPs cl X es tr pr) (b:starEach (.Name x xpos::es) X.env=(false,eval (.Name x xpos) X.env)::starEach es X.env:=by rfl):
  QE cl X (.Tuple (.Name x xpos::es) x1 pos) (wO<|yj (v8 i) tr) (jdb i pr):=⟨Jn<|jK a.sem h.sem b,jef h.den⟩
structure QGo(cl:Nat->Addr)(pm:List Nat)(X:Cx)(tg:Expr)(t:TG)(g:D->Rh->Option Rh):Prop where
 sem:PG X tg t
 den:DG ⟨X.K,cl⟩ pm t g
structure QGos(cl:Nat->Addr)(pm:List Nat)(X:Cx)(tg:List Expr)(t:TGs)(g:List D->Rh->Option Rh):Prop where
 sem:PGs X tg t
 den:DGs ⟨X.K,cl⟩ pm t g
def jgm(a:X.N.Nodup)(hi:X.N[i]?=some x:=by rfl)(b:Loc X.env.scope x:=by first | exact Or.inl rfl | exact Or.inr rfl)(c:X.fn x=true\/X.env.scope.names.lookup x=some .local:=by first | exact .inl rfl | exact .inr rfl):
  QGo cl pm X (.Name x pos) (KY i) (jd pm i):=⟨jc3 a hi b c,K6⟩
section
variable {R:RC}{Z Z':Zn}{H H':Hp}{pm:List Nat}
noncomputable def vT:D->Option KA
 | .int i=>some<|.int i
 | .str s=>some<|.str s
 | _=>none
def vw(e:vT d=some k)(r:Rep R Z H d v O):v=kV (kaV k)/\O=[]:=by
 cases d with
 | int i=>cases e;rw[Rep] at r;exact r
 | str s=>cases e;rw[Rep] at r;exact r
 | _=>cases e
def VW(h:kaV a=kaV b):a=b:=by
 cases a<;>cases b<;>simp only[kaV] at h
 ·cases h;rfl
 ·cases h
 ·cases h
 ·have:=jlv<|Sum.inr.inj h;rw[this]
noncomputable def QA:List KA->List D->KA->Option D
 | k::ks,d::l,a=>if k=a then some d else QA ks l a
 | _,_,_=>none
theorem J1:∀{ks:List KA}{l:List D}{vs:List V}{O:W6}{a:KA},Reps R Z H l vs O->ks.length=l.length ->
  (∀ d,QA ks l a=some d->∃ v P,VY ((ks.map kaV).zip vs) (kaV a)=some v/\Rep R Z H d v P)/\(QA ks l a=none->VY ((ks.map kaV).zip vs) (kaV a)=none)
 | [],l,vs,O,a,r,c=>⟨λd e=>(by cases l<;>cases e),λ_=>rfl⟩
 | k::ks,[],vs,O,a,r,c=>by simp at c
 | k::ks,x::l,vs,O,a,r,c=>by
  rw[Reps] at r;obtain⟨v,b,f,n,rfl,rfl,g,i⟩:=r;have j:=J1 (a:=a) i ⇑c;by_cases e:k=a
  ·subst e;refine⟨λd h=>?_,λh=>?_⟩
   ·simp only[QA,if_true] at h;cases h;exact⟨v,f,qN rfl,g⟩
   ·simp[QA] at h
  ·have m:¬ (kaV k=kaV a):=λz=>e<|VW z;have q:VY (((k::ks).map kaV).zip (v::b)) (kaV a)=VY ((ks.map kaV).zip b) (kaV a):=qP m;rw[q];simp only[QA,if_neg e];exact j
def DkA.rd(h:DkA o H a kvs):Rd H a (.dK kvs):=by
 cases o with
 | true=>exact .inl h
 | false=>exact h
def DGet.r(e:Rd H a<|.dK kvs):DGet H a (kV k) (VY kvs k):=.inl ⟨kvs,k,e,rfl,rfl⟩
def Rep.dK_of(r:Rep R Z H (.dK o ks l) v O):∃ a vs O',v=.ref a/\Rd H a (.dK<|(ks.map kaV).zip vs)/\Reps R Z H l vs O'/\ks.length=l.length:=by
 rw[Rep] at r;obtain⟨a,vs,O',rfl,b,c,d,_⟩:=r;exact⟨a,vs,O',rfl,d.rd,b,c⟩
def jgG:PP R jcA (pC<|.dK true [] []):=by
 intro σ ρ Z H O d z s e Q k;cases e;intro p a;refine k (Go.newO (wf0 z) a) ?_;rw[Rep];exact⟨p,[],[],rfl,.empty,rfl,jA,rfl⟩
def jr:D->D->Option D
 | .dK _ ks l,y=>(vT y).bind λk=>QA ks l k
 | _,_=>none
def jht(b:PB R td pa)(c:PB R ty pb):PB R (jcW td ty) (p2 jr pa pb):=by
 intro σ ρ Z H O d z s e Q k;unfold p2 at e;refine ob e λx f e=>ob e λy e2 e=>?_;refine b z s f λ{v t A B} g1 g=>?_;refine c g1.wf.zd (g1.slots z s) e2 λ{u C D E} g2 h=>?_;have i:=g2.rep g1.wf.zd g;cases x with
 | dK o F l=>
  simp only[jr] at e;refine ob e λa e3 e=>?_;obtain⟨p,G,I,rfl,j,m,n⟩:=i.dK_of;obtain⟨rfl,_⟩:=vw e3 h;obtain⟨w,P,q,rw⟩:=(J1 m n).1 d e;exact⟨p,w,rfl,q▸DGet.r j,k (g1.pair g2) rw⟩
 | _=>cases e
@[simp] def p3(g:D->D->D->Option D)(pa:PF)(pb:PF)(pc:PF)(ρ:Rh):Option D:=(pa ρ).bind λx=>(pb ρ).bind λy=>(pc ρ).bind λz=>g x y z
def x6(neg:Bool)(y x:D):Option D:=match x with
 | .dK _ ks l=>(vT y).bind λk=>some<|.bl<|neg != (QA ks l k).isSome
 | _=>none
def jfa{b ty:TE}{pa pb:PF}{neg:Bool}(h:PB R ty pa)(i:PB R b pb){σ:L2.St}{ρ:Rh}{Z:Zn}{H:Hp}{O:W6}{d:D}(z:Zd Z H)(s:Slots R Z H ρ σ O)(e:p2 (x6 neg) pa pb ρ=some d)
  {Q:VK}(k:∀{v:V}{Z':Zn}{H':Hp}{P:W6},Go Z H [] Z' H' P->Rep R Z' H' d v P->Q v H'):ty σ H λy H1=>b σ H1 λx H2=>∃ a o,x=.ref a/\DGet H2 a y o/\Q (.bl<|neg != o.isSome) H2:=by
 unfold p2 at e;refine ob e λy j e=>ob e λx e2 e=>?_;refine h z s j λ{v B H1 C} g1 m=>?_;refine i g1.wf.zd (g1.slots z s) e2 λ{u E H2 F} g2 n=>?_;cases x with
 | dK o q l=>
  simp only[x6] at e;refine ob e λa e3 e=>?_;cases e;obtain⟨p,G,I,rfl,c,f,g⟩:=n.dK_of;obtain⟨rfl,_⟩:=vw e3 m;cases ev:QA q l a with
  | none=>
   refine⟨p,none,rfl,(J1 f g).2 ev▸DGet.r c,k (g1.pair g2) ?_⟩;rw[ev];exact .bl_mk
  | some d=>
   obtain⟨w,P,t,A⟩:=(J1 f g).1 d ev;refine⟨p,some w,rfl,t▸DGet.r c,k (g1.pair g2) ?_⟩;rw[ev];exact .bl_mk
 | _=>cases e
def jaW{a ty:TE}{pa pb:PF}(b:PB R ty pa)(c:PB R a pb):PP R (Qu ty a) (p2 (x6 true) pa pb):=λz s e _ k=>by
 have:=jfa (neg:=true) b c z s e k;simpa [Qu] using this
noncomputable def jcs:List KA->List D->KA->D->List D
 | k::ks,x::l,a,d=>(if k=a then d else x)::jcs ks l a d
 | _,_,_,_=>[]
theorem ue:∀{ks:List KA}{l:List D}(a:KA) (d:D),ks.length=l.length->(jcs ks l a d).length=l.length
 | [],[],_,_,_=>rfl
 | [],_::_,_,_,h=>by simp at h
 | _::_,[],_,_,h=>by simp at h
 | k::ks,x::l,a,d,h=>by rw[jcs,M0,M0,ue a d ⇑h]
theorem wI(rd:Rep R Z H d v [])(a:KA):∀{ks:List KA}{l:List D}{vs:List V}{O:W6},Reps R Z H l vs O->ks.length=l.length ->
  ∃ vs2 O2,Reps R Z H (jcs ks l a d) vs2 O2/\(ks.map kaV).zip vs2=((ks.map kaV).zip vs).map (λkv=>if kv.1=kaV a then(kv.1,v) else kv)/\O2.Sublist O
 | [],[],vs,O,r,b=>by
  rw[Reps] at r;obtain⟨rfl,rfl⟩:=r;exact⟨[],[],.empty,rfl,.slnil⟩
 | [],_::_,_,_,_,h=>by simp at h
 | _::_,[],_,_,_,h=>by simp at h
 | k::ks,x::l,vs,O,r,b=>by
  rw[Reps] at r;obtain⟨w,j,m,O2,rfl,rfl,n,o⟩:=r;obtain⟨c,f,g,e3,i⟩:=wI rd a o ⇑b;by_cases e:k=a
  ·subst e;refine⟨v::c,[]++f,?_,?_,?_⟩
   ·rw[jcs,if_pos rfl];exact Reps.cons rd g
   ·simp only[L4,U6,if_true,e3]
   ·exact i.trans<|List.sublist_append_right _ _
  ·have p:¬ (kaV k=kaV a):=λz=>e<|VW z;refine⟨w::c,m++f,?_,?_,?_⟩
   ·rw[jcs,if_neg e];exact Reps.cons n g
   ·simp only[L4,U6,if_neg p,e3]
   ·exact List.Sublist.append (List.Sublist.refl _) i
theorem KR(a:KA):∀{ks:List KA}{vs:List V},ks.length=vs.length->(((ks.map kaV).zip vs).any λkv=>decide<|kv.1=kaV a)=decide (a∈ks)
 | [],vs,_=>by simp
 | k::ks,[],h=>by simp at h
 | k::ks,v::vs,h=>by
  rw[L4,U6,List.any_cons,KR a ⇑h];by_cases e:k=a
  ·subst e;simp
  ·have b:¬ (kaV k=kaV a):=λz=>e<|VW z;have e2:¬ (a=k):=λz=>e z.symm;simp[b,e2]
def qm(ks:List KA)(l:List D)(a:KA)(d:D):List KA×List D:=if a∈ks then(ks,jcs ks l a d) else(ks++[a],l++[d])
def Qd(rd:Rep R Z H d v [])(a:KA)  (r:Reps R Z H l vs O) (b:ks.length=l.length):
  ∃ vs2 O2,Reps R Z H (qm ks l a d).2 vs2 O2/\(((qm ks l a d).1).map kaV).zip vs2=vX ((ks.map kaV).zip vs) (kaV a) v/\O2.Sublist O/\(qm ks l a d).1.length=(qm ks l a d).2.length:=by
 have c:ks.length=vs.length:=by rw[r.length];exact b
 unfold qm vX;rw[KR a c];by_cases e:a∈ks
 ·rw[if_pos e,X4 e,if_pos rfl];obtain⟨f,P,g,e2,h⟩:=wI rd a r b;exact⟨f,P,g,e2,h,by rw[ue a d b];exact b⟩
 ·rw[if_neg e,X5 e,if_neg<|λz=>(nomatch z)];refine⟨vs++[v],O++[],r.append<|Reps.one rd,?_,by simp,by simp[b]⟩;rw[N4,List.zip_append ⇑c];rfl
@[simp] def sDSet(i:Nat)(pk:PF)(pv:PF)(ρ:Rh):Option Out:=(pv ρ).bind λd=>(pV i ρ).bind λx=>(jea x).bind λp=>(pk ρ).bind λy=>(vT y).bind λa=>bif frz d&&lim p.1.length then some (.nx<|ρ.set i<|some<|.dK true (qm p.1 p.2 a d).1 (qm p.1 p.2 a d).2) else none
def Y4{ks:List α}{vs:List V}{f:α->β}(h:lim ks.length=true):((ks.map f).zip vs).length<sizeLine:=by rw[List.length_zip,L0];exact E4 (Nat.min_le_left _ _)<|wS h
end
def jkE:QP cl X (.Dict [] [] pos) jcA (pC<|.dK true [] []):=⟨jel,jgG⟩
def jiT(e:Room k X.A)(c:QB cl X a ta pa)(d:QB cl X b tb pb)(f:jlK b:=by exact λ_ _=>rfl):QB cl X (.Subscript a b pos) (jcW ta tb) (p2 jr pa pb):=⟨jby (V4 e) c.sem d.sem f,jht c.den d.den⟩
@[simp] def keyOf_int(i:Int):vT (.int i)=some (.int i):=rfl
@[simp] def keyOf_str(s:List Nat):vT (.str s)=some (.str s):=rfl
@[simp] def opDIx_e(o:Bool)(ks:List KA)(l:List D)(y:D):jr (.dK o ks l) y=(vT y).bind λk=>QA ks l k:=rfl
@[simp] def opDIn_e(neg o:Bool)(ks:List KA)(l:List D)(y:D):x6 neg y (.dK o ks l)=(vT y).bind λk=>some (.bl<|neg != (QA ks l k).isSome):=rfl
def jia{P:Program}{w:World}{K:W5}{cl:Nat->Addr}{mg:W7}{base:Heap}{k n:Nat}{f:Addr}{fd:FuncData}{ps:List Str}:FnOk P w K mg base CX0 k f fd ps (spP ⟨K,cl⟩ (λ_=>none) n) :=
 ⟨λb H Q E ⟨_,_,_,_,_,_,h,_⟩=>(nomatch h),λA outer s H a c b Q E _ _ _ _ ⟨_,_,_,_,_,_,h,_⟩=>(nomatch h)⟩
def Yu:List D->Option (List<|KA×D)
 | []=>some []
 | .tup [k,v]::l=>(vT k).bind λa=>(Yu l).bind λr=>some<|(a,v)::r
 | _::_=>none
def wA(ps:List<|KA×D):List KA×List D:=ps.foldl (λacc kv=>qm acc.1 acc.2 kv.1 kv.2) ([],[])
def yZ:List D->Option D
 | [.lst _ l]=>(Yu l).bind λps=>bif frzs (ps.map (·.2))&&lim ps.length then some (.dK true (wA ps).1 (wA ps).2) else none
 | _=>none
theorem Kp:∀{l:List D}{ps:List (KA×D)}{ys:List V}{O:W6},Yu l=some ps->Reps R Z H l ys O->frzs (ps.map (·.2))=true ->
  ∃ ws:List V,Reps R Z H (ps.map (·.2)) ws []/\ys.length=ps.length/\∀(j:Nat) (y:V),ys[j]?=some y->∃ kv t,((ps.map λp=>kaV p.1).zip ws)[j]?=some kv/\y=.ref t/\SqT R.K H t [kV kv.1,kv.2]
 | [],ps,ys,O,e,r,b=>by
  cases e;rw[Reps] at r;obtain⟨rfl,rfl⟩:=r;exact⟨[],.empty,rfl,λj y c=>by simp at c⟩
 | d::l,ps,ys,O,e,r,b=>by
  match d,e with
  | .tup [k,v],e=>
   simp only[Yu] at e;refine ob e λa i e=>ob e λm e2 e=>?_;cases e;rw[Reps] at r;obtain⟨C,n,E,F,rfl,rfl,g,o⟩:=r;rw[L4,zO,L9] at b;obtain⟨ws,f,s,q⟩:=Kp e2 o b.2;rw[Rep] at g;obtain⟨t,G,rfl,x,z⟩:=g;obtain⟨u,w,I,J,rfl,-,A,h⟩:=z.two_of;obtain⟨rfl,_⟩:=vw i A;have B:=h.nil b.1;subst B;refine⟨w::ws,Reps.cons (O:=[]) (P:=[]) h f,by simp[s],λj y c=>?_⟩;cases j with
   | zero=>
    cases c;exact⟨(kaV a,w),t,rfl,rfl,x.sq⟩
   | succ j=>exact q j y ⇑c
theorem zC:∀{ps:List (KA×D)}{ws:List V}{ks:List KA}{l:List D}{us:List V},Reps R Z H (ps.map (·.2)) ws []->Reps R Z H l us []->ks.length=l.length ->
  ∃ us',Reps R Z H (ps.foldl (λacc kv=>qm acc.1 acc.2 kv.1 kv.2) (ks,l)).2 us' []/\(((ps.foldl (λacc kv=>qm acc.1 acc.2 kv.1 kv.2) (ks,l)).1).map kaV).zip us'=(((ps.map λp=>kaV p.1).zip ws).foldl (λa kv=>vX a kv.1 kv.2) ((ks.map kaV).zip us)) /\
   (ps.foldl (λacc kv=>qm acc.1 acc.2 kv.1 kv.2) (ks,l)).1.length=(ps.foldl (λacc kv=>qm acc.1 acc.2 kv.1 kv.2) (ks,l)).2.length
 | [],ws,ks,l,us,b,r,c=>⟨us,r,by simp,c⟩
 | p::ps,ws,ks,l,us,b,r,c=>by
  rw[L4,Reps] at b;obtain⟨w,g,s,t,rfl,e,h,i⟩:=b;obtain⟨rfl,rfl⟩:=List.append_eq_nil_iff.mp e.symm;obtain⟨j,k,m,e3,n,d⟩:=Qd h p.1 r c;have:k=[]:=List.sublist_nil.mp n;subst this;obtain⟨us',o,q,f⟩:=zC (ps:=ps) i m d;refine⟨us',o,?_,f⟩;rw[L4,U6,U9,U9,q,e3]
def jg1:BC R (λxs H Q=>∃(p:Addr) (ys:List V) (ps:List<|Key×V),xs=[.ref p]/\SqL R.K H p ys/\ys.length=ps.length/\ps.length<=100000 /\
  (∀(j:Nat) (y:V),ys[j]?=some y->∃ kv t,ps[j]?=some kv/\y=.ref t/\SqT R.K H t [kV kv.1,kv.2])/\∀ D,H D=none->Q (.ref D) (upd H D<|.dK<|ps.foldl (λa kv=>vX a kv.1 kv.2) [])) yZ:=by
 intro Z H xs d F O z r e Q k
 match xs,e,r with
 | [.lst o l],e,r=>
  simp only[yZ] at e;refine ob e λps s e=>oc e λf e=>?_;cases e;rw[L9] at f;obtain⟨v,rfl,u⟩:=r.one_of;obtain⟨p,ys,G,rfl,w,A⟩:=u.lst_of;obtain⟨m,b,B,q⟩:=Kp s A f.1;obtain⟨g,C,E,i⟩:=zC (ks:=[]) (l:=[]) (us:=[]) b .empty rfl;have c:m.length=ps.length:=by rw[b.length];simp
  refine⟨p,ys,(ps.map λp=>kaV p.1).zip m,rfl,w.sq,by simp[B,c],by simp[c];exact X6 f.2,q,λD n=>?_⟩;refine k (Go.newO (wf0 z) n) ?_;have ne:∀ a,H a≠none->a≠D:=λa h e=>h<|e▸n;rw[Rep];exact⟨D,g,[],rfl,C.frame (λa z=>z) (λa h=>jh<|ne a<|z a h)<|λa h=>(nomatch h),i,by show upd H D _ D=some _;rw[jA];exact congrArg (λx=>some<|HO.dK x) E.symm,rfl⟩
@[simp] def fDict_e(o:Bool)(l:List D):yZ [.lst o l]=(Yu l).bind λps=>bif frzs (ps.map (·.2))&&lim ps.length then some (.dK true (wA ps).1 (wA ps).2) else none:=rfl
end QD
namespace QK
open PySem L2 QD PySem.Spec PyProof.Rows
end QK
namespace QD
open PySem L2 PySem.Spec PyProof.Rows
@[simp] def sRev(i:Nat)(ρ:Rh):Option Out:=(pV i ρ).bind λx=>(zj x).bind λl=>bif frzs l then some (.nx<|ρ.set i<|some<|.lst true l.reverse) else none
end QD
namespace L2
open PySem PySem.Spec PyProof.Rows
end L2
namespace QD
open PySem L2 PySem.Spec PyProof.Rows
structure QDs(cl:Nat->Addr)(X:Cx)(es:List Expr)(ta:TA)(f:FA):Prop where
 sem:PA X es ta
 den:DA ⟨X.K,cl⟩ ta f
def jk1:QDs cl X [] VX jng:=⟨vU,jlj⟩
def jgn(h1:QE cl X e te fE)(h2:QDs cl X es tr fr)(a:starEach (e::es) X.env=(false,eval e X.env)::starEach es X.env:=by rfl):QDs cl X (e::es) (yj te tr) (xN fE fr):=⟨jK h1.sem h2.sem a,jh9 h1.den h2.den⟩
def jld{x1}(h:QDs cl X es tr fr):QE cl X (.Tuple es x1 pos) (wO tr) (ji6 fr):=⟨Jn h.sem,jj7 h.den⟩
@[simp] def dTup_e:ji6 fa ρ=(fa ρ).bind λx=>bif decide (x.1.length<=1000) then some (.tup x.1,x.2) else none:=by
 unfold ji6 dCB;cases fa ρ with
 | none=>rfl
 | some x=>
  obtain⟨d,r⟩:=x;dsimp only[Option.bind];cases decide (d.length<=1000)<;>rfl
section
variable {R:RC}{Z Z':Zn}{H H':Hp}{pm:List Nat}
@[simp] def sDAugI(i:Nat)(pk:PF)(g:Int->Int->Int)(pv:PF)(ρ:Rh):Option Out:=(pk ρ).bind λy=>(vT y).bind λc=>(pV i ρ).bind λx=>(jea x).bind λkl=>(QA kl.1 kl.2 c).bind λm=>(vD m).bind λm=>(pv ρ).bind λn=>(vD n).bind λn=>
  bif lim kl.1.length then some (.nx<|ρ.set i<|some<|.dK true (qm kl.1 kl.2 c<|.int<|g m n).1 (qm kl.1 kl.2 c<|.int<|g m n).2) else none
def vG(i:Nat)(L:Ln)(pk:PF)(g:Int->Int->Int)(pv:PF)(ρ:Rh):Option Out:=(pk ρ).bind λy=>(vT y).bind λc=>(pV i ρ).bind λt=>(L t).bind λy=>(jea y.1).bind λkl=>(QA kl.1 kl.2 c).bind λm=>(vD m).bind λm=>(pv ρ).bind λn=>(vD n).bind λn=>
  bif lim kl.1.length then some (.nx<|ρ.set i<|some<|y.2<|.dK true (qm kl.1 kl.2 c<|.int<|g m n).1 (qm kl.1 kl.2 c<|.int<|g m n).2) else none
def ub{i:Nat}{L:Ln}{tb ty tv:TE}{pk pv:PF}{g:Int->Int->Int}{rd:V->V->Hp->VK->Prop}(h:∀{m n:Int}{H:Hp}{Q:VK},Q (.int<|g m n) H->rd (.int m) (.int n) H Q)(B:jaI R tb i L)(C:PB R ty pk)(D:PB R tv pv):DS R pm (jad tb ty tv rd) (vG i L pk g pv):=by
 intro σ ρ Z H O o w s e Y k;refine ob e λq E e=>ob e λc e5 e=>ob e λt hi e=>ob e λ⟨y,k0⟩ e3 e=>ob e λ⟨ks,l⟩ F e=>ob e λx G e=>ob e λm I e=>ob e λx' J e=>ob e λn e2 e=>oc e λd e=>?_;cases e;cases xB F;cases j7 I;cases j7 e2;refine qw (P0:=[]) B w s hi e3 ow_dK λa _ vs O' v f A K put=>K<|C w.zd s E λ{z Z1 H1 P1} g1 M=>?_;obtain⟨rfl,_⟩:=vw e5 M;obtain⟨mv,P3,j,p⟩:=(J1 (a:=c) v f).1 _ G;obtain⟨rfl,_⟩:=p.int_of;refine⟨a,.int m,rfl,by rw[<- j];exact DGet.k<|g1.at0 A,D g1.wf.zd (g1.slots w.zd s) J λ{u Z2 H2 P4} g2 N=>?_⟩;obtain⟨rfl,_⟩:=N.int_of;have b:=g1.trans g2;obtain⟨P,O2,S,T,U,r⟩:=Qd (Rep.int_mk (i:=g m n)) c (b.reps w.zd v) f;obtain⟨O3,W,X⟩:=put ow_dK r b S λq=>by simpa using U.count_le q
 refine h ⟨_,DPut.k (b.at0 A)<|Y4 d,?_⟩;rw[<- T];exact k W X<|Keep.refl _ _
noncomputable def kaD:KA->D
 | .int i=>.int i
 | .str s=>.str s
@[simp] def vP(pd:PF)(ρ:Rh):Option D:=(pd ρ).bind λd=>(jh4 d).bind λk=>bif frzs k.2 then some (.lst true<|(k.1.zip k.2).map λp=>.tup [kaD p.1,p.2]) else none
def jhm(a:KA):Rep R Z H (kaD a) (kV<|kaV a) []:=by
 cases a with
 | int i=>exact .int_mk
 | str s=>exact .str_mk
def jbC(h:PB R td pd):PP R (xh td) (vP pd):=by
 intro σ ρ Z H O d z s e Q k;refine ob e λx e1 e=>ob e λ⟨B,l⟩ e2 e=>oc e λhf e=>?_;cases e;obtain⟨o,rfl⟩:=jd0 e2;refine h z s e1 λ{v I y P} g r=>?_;rw[Rep] at r;obtain⟨a,A,O',rfl,rs,J,ea,f⟩:=r;refine⟨a,_,rfl,(show Rd y a _ by cases o with | true=>exact .inl ea | false=>exact ea),λt m T F U has=>?_⟩;have n:=List.nodup_cons.mp U;have W:=rs.frozen hf;have X:=rs.length;have S:∀ b,y b≠none->yk y m ((B.map kaV).zip A) t b=y b:=λb f=>by
  unfold yk;rw[if_neg λq=>f<|by rw[q];exact T,kZ λq=>f<|has b q]
 have zd:=g.wf.zd;have K:∀ b∈m,yk y m ((B.map kaV).zip A) t b≠none:=λb f=>by
  obtain⟨j,hj⟩:=List.mem_iff_getElem?.mp f;have Y:j<((B.map kaV).zip A).length:=by rw[<- F];exact(L8.mp hj).1
  unfold yk;rw[if_neg<|show ¬ b=t from λq=>n.1<|q▸f,KP n.2 hj<|X8 Y];exact λz=>nomatch z
 have L:yk y m ((B.map kaV).zip A) t t=some (.lst<|m.map V.ref):=by unfold yk;rw[if_pos rfl]
 have g2:Go I y [] (λb=>I b\/b∈m) (yk y m ((B.map kaV).zip A) t) [t]:=by
  refine⟨⟨by simp,λb f q=>?_,λb f=>?_,λb q=>?_⟩,λb q=>.inl q,λb f _=>S b f,λb q=>?_,λb f=>?_,λb f=>?_⟩
  ·rw[M7.mp f] at q;rcases q with q | q
   ·exact zd _ q T
   ·exact n.1 q
  ·rw[M7.mp f,L];exact λz=>nomatch z
  ·rcases q with q | q
   ·rw[S b<|zd b q];exact zd b q
   ·exact K b q
  ·rcases q with q | q
   ·exact .inl q
   ·exact .inr<|.inr<|has b q
  ·rw[M7.mp f];exact .inr T
  ·rw[S b f];exact f
 refine k (g.trans g2) ?_;rw[Rep];refine⟨t,m.map V.ref,[],rfl,?_,L,rfl⟩;have rs2:Reps R (λb=>I b\/b∈m) (yk y m ((B.map kaV).zip A) t) l A []:=W.frame (λb q=>.inl q) (λb q=>S b<|zd b q) (λb f=>nomatch f);have key:∀(w:W6) (i:List KA) (G:List D) (C:List V),Reps R (λb=>I b\/b∈m) (yk y m ((B.map kaV).zip A) t) G C []->i.length=G.length->w.length=i.length ->
   (∀(j:Nat) (b:Addr) (c:KA) (u:V),w[j]?=some b->i[j]?=some c->C[j]?=some u->b∈m/\yk y m ((B.map kaV).zip A) t b=some (.tup [kV<|kaV c,u])) ->
   Reps R (λb=>I b\/b∈m) (yk y m ((B.map kaV).zip A) t) ((i.zip G).map λp=>.tup [kaD p.1,p.2]) (w.map V.ref) []:=by
  intro w
  induction w with
  | nil=>
   intro i G C _ hk E _;have:i=[]:=List.length_eq_zero_iff.mp E.symm;subst this;exact .empty
  | cons b w ih=>
   intro i G C rr hk E hp;cases i with
   | nil=>simp at E
   | cons c i=>
    cases G with
    | nil=>simp at hk
    | cons d G=>
     rw[Reps] at rr;obtain⟨u,M,O1,O2,rfl,eO,r1,r2⟩:=rr;obtain⟨rfl,rfl⟩:=List.append_eq_nil_iff.mp eO.symm;obtain⟨f,eb⟩:=hp 0 b c u rfl rfl rfl;refine Reps.cons (O:=[]) (P:=[]) ?_<|ih i G M r2 ⇑hk ⇑E λj b' c' u' N h2 h3=>hp (j+1) b' c' u' ⇑N ⇑h2 ⇑h3;rw[Rep];exact⟨b,[kV<|kaV c,u],rfl,.inl ⟨.inr f,.inl eb⟩,Reps.cons (O:=[]) (P:=[]) (jhm c)<|.one r1⟩
 refine key m B l A rs2 J (by rw[F,List.length_zip,L0,X,J];simp) λj b c u N h2 h3=>⟨List.mem_of_getElem? N,?_⟩;have hz:((B.map kaV).zip A)[j]?=some (kaV c,u):=by
  rw[List.getElem?_zip_eq_some];exact⟨by rw[List.getElem?_map,h2];rfl,h3⟩
 unfold yk;rw[if_neg<|show ¬ b=t from λq=>n.1<|q▸List.mem_of_getElem? N,KP n.2 N hz]
end
section
variable {cl:Nat->Addr}{pm:List Nat}{X:Cx}{a b e o tg iter:Expr}{body:List Stmt}{ta tb te to:TE}{pa pb pe po:PF}{pos:Pos}{k:Nat}{t:TG}{g:D->Rh->Option Rh}{fE:FE}{ts:TS}{f:FS}
def jeZ(f:X.calm=true)(g:X.mg "list" = none)(e:QB cl X o to po)(h:Gl X "list":=by rfl)
  (a:attributeBase o "items" X.env (eval o X.env)=eval o X.env:=by rfl) (b:(apos.endLine==cpos.line)=true:=by rfl)
  (i:starEach [.Call (.Attribute o "items" apos) [] [] cpos] X.env=(false,eval (.Call (.Attribute o "items" apos) [] [] cpos) X.env)::starEach [] X.env:=by rfl)
  (c:(backTo pos<|starEach [] X.env).any (·.1)=false:=by rfl)
  (d:backTo pos (starEach [.Call (.Attribute o "items" apos) [] [] cpos] X.env)=[(false,eval (.Call (.Attribute o "items" apos) [] [] cpos) X.env)]:=by rfl):
  QP cl X (.Call (.Name "list" p) [.Call (.Attribute o "items" apos) [] [] cpos] [] pos) (xh to) (vP po):=⟨jbf f h g Yb e.sem a b i c d,jbC e.den⟩
end
def spM(R:RC)(m:List D->Option (D×D))(n j:Nat):Sp:=λvs H Q _=>∃ Z ds d c O u,WF Z H O/\ds.length=n/\Reps R Z H ds vs O/\vs[j]?=some u/\m ds=some (d,c) /\
 ∀{v:V}{Z':Zn}{H':Hp}{P O':W6},Go Z H O Z' H' (P++O')->Rep R Z' H' d v P->Rep R Z' H' c u O'->Q v H'
def JF(j:Nat):Out->Option (D×D)
 | .rt d ρ=>(pV j ρ).bind λc=>some (d,c)
 | .nx ρ=>(pV j ρ).bind λc=>some (.non,c)
 | _=>none
def fnM(n j:Nat)(f:FS):List D->Option (D×D):=λds=>(f<|ds.map some++List.replicate (n-ds.length) none).bind (JF j)
def vp:fnM n j f ds=(f<|ds.map some++List.replicate (n-ds.length) none).bind (JF j):=rfl
def Go.pick(g:Go Z H O Z' H'<|P++(A++Q++B)):Go Z H O Z' H' (P++Q):=g.drop (λa h=>by simp at h ⊢;rcases h with h | h<;>simp[h]) (by
 have nd:=g.wf.nd;simp only[U8,N1] at nd ⊢;exact⟨nd.1,nd.2.1.1.2.1,λa c b d=>nd.2.2 a c b<|.inl<|.inr d⟩)
def jhw(C:DS R [j] ts f)(h:spM R (fnM N.length j f) n j vs H Q E):ts {nx:=λ_ H'=>Q .non H',rt:=Q} (L2.start N vs) H:=by
 obtain⟨Z,t,d,c,O,u,w,M,r,D,e,k⟩:=h;rw[vp] at e;have s:Slots R Z H (t.map some++List.replicate (N.length-t.length) none) (L2.start N vs) O:=by
  have q:=Yi r<|Yd (R:=R) (Z:=Z) (H:=H)<|N.length-t.length;unfold L2.start;rw[r.length];rw[M9] at q;exact q
 have x:(L2.start N vs)[j]?=some (some u):=by
  unfold L2.start;have G:j<vs.length:=(L8.mp D).1;rw[List.getElem?_append_left ⇑G,List.getElem?_map,D];rfl
 have i:∀{a:Rh}{m:L2.St}{p:Zn}{H':Hp}{P y:W6}{v:V},a[j]?=some (some c)->Go Z H O p H' (P++y)->Rep R p H' d v P->Slots R p H' a m y->Keep [j] (L2.start N vs) m->Q v H':=by
  intro a m p H' P y v b g z l kp;obtain⟨A,S,B,rfl,I,_,_⟩:=l.put (L8.mp b).1;obtain⟨T,J,K⟩:=I c b;have:m[j]?=some (some u):=by rw[kp j<|by simp,x]
  rw[J] at this;cases this;exact k g.pick z K
 refine ob e λo F e=>?_;cases o with
 | rt U a=>exact ob e λL b e=>by cases e;exact C w s F λg z l kp=>i (Va b) g z l kp
 | nx a=>exact ob e λL b e=>by cases e;exact C w s F λg l kp=>i (P:=[]) (Va b) ⇑g .non_mk l kp
 | bk a=>cases e
 | ct a=>cases e
def jhY(h:spM R m n j vs H Q E):vs.length=n:=by
 obtain⟨Z,b,d,c,O,u,w,a,r,_⟩:=h;rw[r.length,a]
def PJ(R:RC)(i j:Nat)(ta:TA)(p:PAf):Prop:=∀{σ:L2.St}{ρ:Rh}{Z:Zn}{H:Hp}{O:W6}{ds:List D},Zd Z H->Slots R Z H ρ σ O->p ρ=some ds->∀{u:V},σ[i]?=some (some u) ->
 ∀{Q:List V->Hp->Prop},(∀{v1 v2:List V}{Z':Zn}{H':Hp},Go Z H [] Z' H' []->v1.length=j->Reps R Z' H' (ds.take j) v1 []->Reps R Z' H' (ds.drop j) v2 []->Q (v1++u::v2) H')->ta σ H Q
@[simp] def pFs(p:PAf)(ρ:Rh):Option (List D):=(p ρ).bind λds=>bif frzs ds then some ds else none
def jiz(b:PPs R tr pr):PJ R i 0 (yj (v8 i) tr) (pFs pr):=by
 intro σ ρ Z H O g z s e u c Q k;unfold pFs at e;refine ob e λl d e=>oc e λf e=>?_;cases e;refine⟨u,c,b z s d λ{h j m n} g1 a=>?_⟩;cases a.nil f;exact k (v1:=[]) g1 rfl ⇑Reps.empty ⇑a
def jiD(h:PB R ta pa)(m:PJ R i j tr pr):PJ R i (j+1) (yj ta tr) (ja (pF pa) pr):=by
 intro σ ρ Z H O x z s e u n Q k;rw[ja] at e;refine ob e λd a e=>ob e λl e2 e=>?_;cases e;have o:frz d=true:=by
  rw[pF] at a;refine ob a λc e3 a=>?_;cases hc:frz c with
  | false=>rw[hc] at a;cases a
  | true=>rw[hc] at a;cases a;exact hc
 refine h.f z s a λ{v y A B} g1 b=>?_;cases b.nil o;refine m g1.wf.zd (g1.slots z s) e2 n λ{g C p q} g2 r t w=>?_;have g3:Go Z H [] p q []:=by simpa using g1.pair g2
 refine k (v1:=v::g) g3 (by simp[r]) ?_ ⇑w;rw[List.take_succ_cons];exact .cons (O:=[]) (P:=[]) (g2.rep g1.wf.zd b) t
@[simp] def Ko(m:List D->Option (D×D))(i:Nat)(j:Nat)(p:PAf)(ρ:Rh):Option (D×Rh):=(p ρ).bind λds=>(pV i ρ).bind λc=>(m<|ds.take j++c::ds.drop j).bind λr=>some (r.1,ρ.set i<|some r.2)
def Go.turn(g:Go Z H O Z' H'<|A++(P++Q)++B):Go Z H O Z' H' (P++(A++Q++B)):=g.drop (λa h=>by simp at h ⊢;rcases h with h | h | h | h<;>simp[h]) (by
 have nd:=g.wf.nd;simp only[U8,N1] at nd ⊢;obtain⟨⟨j,⟨k,l,m⟩,f⟩,n,i⟩:=nd;refine⟨k,⟨⟨j,l,λa d b c=>f a d b<|.inr c⟩,n,λa d b c=>i a (d.elim .inl λq=>.inr<|.inr q) b c⟩,λa d b c e=>?_⟩;rcases c with(c | c) | c
 ·exact f b c a (.inl d) e.symm
 ·exact m a d b c e
 ·exact i a (.inr<|.inl d) b c e)
def jeA(h:PJ R i j ta p)(C:∀ ρ ds,p ρ=some ds->ds.length+1=n/\j<=ds.length):DE R (Qx (spM R m n j) [] E0 ta) (Ko m i j p):=by
 intro σ ρ W Z H O d w s e Q k;refine ob e λds r e=>ob e λc b e=>ob e λ⟨D,E⟩ e2 e=>?_;cases e;have b:=Va b;have hi:=(L8.mp b).1;obtain⟨X,Y,B0,_,F,_,_⟩:=s.put hi;obtain⟨u,l,_⟩:=F c b;refine h w.zd s r l λ{G I o t} g1 J K L=>?_;have f:Go Z H O o t O:=by simpa using g1.widen w
 obtain⟨A,P,B,rfl,M,N,_⟩:=(g1.slots w.zd s).put hi;obtain⟨u',g,S⟩:=M c b;rw[l] at g;cases g;obtain⟨n1,n2⟩:=C ρ ds r;have T:Reps R o t (ds.take j++c::ds.drop j) (G++u::I) P:=by
  have:=K.append<|Reps.cons S L;simpa using this
 refine⟨o,ds.take j++c::ds.drop j,D,E,P,u,f.wf.mid,by simp;lia,by rw[M9];exact T,by rw[M9,List.getElem?_append_right ∅,J];simp,e2,λ{v Z2 H2 U O2} g2 V q=>?_⟩;have g3:=g2.frame f.wf;have x:=Go.keepA f.wf g2;have y:=N q g2.zz (λa z=>g2.zH f.wf.mid a z) x.1 x.2;rw[qd l] at y;exact k (P:=U) (f.trans g3).turn V y
structure QJ(cl:Nat->Addr)(X:Cx)(i j:Nat)(es:List Expr)(ta:TA)(p:PAf):Prop where
 sem:PA X es ta
 den:PJ ⟨X.K,cl⟩ i j ta p
 n:∀ ρ ds,p ρ=some ds->ds.length+1=es.length/\j<=ds.length
def jgq(b:QB cl X (.Name x pos) (v8 i)<|pV i)(a:QPs cl X es tr pr)(c:∀ ρ ds,pr ρ=some ds->ds.length=es.length)(d:starEach (.Name x pos::es) X.env=(false,eval (.Name x pos) X.env)::starEach es X.env:=by rfl):QJ cl X i 0 (.Name x pos::es) (yj (v8 i) tr) (pFs pr) :=
 ⟨jK b.sem a.sem d,jiz a.den,λρ ds h=>by
  unfold pFs at h;refine ob h λl e h=>?_;cases hf:frzs l with
  | false=>rw[hf] at h;cases h
  | true=>rw[hf] at h;cases h;exact⟨by rw[M0,c ρ _ e],U4 _⟩⟩
def jik(b:QB cl X e te pe)(a:QJ cl X i j es tr pr)(c:starEach (e::es) X.env=(false,eval e X.env)::starEach es X.env:=by rfl):QJ cl X i (j+1) (e::es) (yj te tr) (ja (pF pe) pr) :=
 ⟨jK b.sem a.sem c,jiD b.den a.den,λρ f h=>by
  rw[ja] at h;refine ob h λd g h=>ob h λl e2 h=>?_;cases h;have:=a.n ρ l e2;simp only[M0]
  lia⟩
def jgi{cl:Nat->Addr}{X:Cx}{e:Expr}{es:List Expr}{pos p:Pos}{x:Str}{tr:TA}{pr:PAf}{i j:Nat}{k n:Nat}{f:Addr}{fd:FuncData}{ps:List Str}{m:List D->Option (D×D)}{qual:Str}{st:Stmt}(F:FnFact X.K X.mg x qual st f fd ps)(G:FnOk X.prog X.w X.K X.mg X.base CX0 k f fd ps<|spM ⟨X.K,cl⟩ m n j)(d:Room k X.A)
  (a:QJ cl X i j (e::es) tr pr) (g:(e::es).length=n:=by rfl) (l:Gl X x:=by rfl) (b:(x==("__debug__" : Str))=false:=by decide)
  (o:starEach (e::es) X.env=(false,eval e X.env)::starEach es X.env:=by rfl) (c:(backTo pos<|starEach es X.env).any (·.1)=false:=by rfl):QE cl X (.Call (.Name x p) (e::es) [] pos) (Qx (spM ⟨X.K,cl⟩ m n j) [] E0 tr) (Ko m i j pr) :=
 ⟨jg7 F G d a.sem l b o c,jeA a.den λρ q h=>by rw[<- g];exact a.n ρ q h⟩
def jlw{cl:Nat->Addr}{P:Program}{w:World}{K:W5}{mg:W7}{base:Heap}{x qual:Str}{a:Stmt}{fa:Addr}{fd:FuncData}{N ps:List Str}{k n j:Nat}{fs:FS}(F:Fun K x qual a fa fd)(c:FnScope N ps<|jL a)(d:ps.length=n)
  (b:∀(cdv:Value) (A:Around) (outer:List Env) (s:Shared) (H:Hp) (E:XK),Room k (A.deeper<|envOfC qual (jL a) ↥s fa cdv) ->
   ∃ ts,QSs cl [j] (jfp CX0 P w K mg base N qual (jL a) fa cdv A outer s H E).nox (vO a) ts fs):FnOk P w K mg base CX0 (k+1) fa fd ps (spM ⟨K,cl⟩ (fnM N.length j fs) n j):=by
 refine F.ok c (λe H Q E h=>by rw[jhY h,d]) λcdv A outer s H e Q E f h=>?_;obtain⟨ts,q⟩:=b cdv A outer s H E f;exact⟨ts,q.sem,jhw q.den h⟩
def oF(g:D->D->Option D):D->D->Option D:=λx y=>(g x y).bind λd=>bif frz d then some d else none
def DIt(R:RC)(wi:TI)(fi:FA):Prop:=∀{σ:L2.St}{ρ ρ':Rh}{Z:Zn}{H:Hp}{O:W6}{xs:List D},WF Z H O->Slots R Z H ρ σ O->fi ρ=some (xs,ρ') ->
 ∀{Q:It->Hp->Prop},(∀{J:It}{Z':Zn}{H':Hp}{O':W6},Go Z H O Z' H' O'->Slots R Z' H' ρ' σ O'->jiM R J Z' H' xs->Q J H')->wi σ H Q
structure QTE(cl:Nat->Addr)(X:Cx)(e:Expr)(tt:TT)(f:FT'):Prop where
 sem:PT X e tt
 den:DT ⟨X.K,cl⟩ tt f
structure QWE(cl:Nat->Addr)(X:Cx)(e:Expr)(tt:TT)(f:FT'):Prop where
 sem:PW X e tt
 den:DT ⟨X.K,cl⟩ tt f
def jjE(b:QTE cl X a tA ft):QTE cl X (.UnaryOp .Not a pos) (jkT tA) (jiN ft):=⟨jfV b.sem,jjk b.den⟩
def jmJ(a:QTE cl X c tA ft)(b:QSs cl pm X x ts f)(d:QSs cl pm X y tu f2):QS cl pm X (.If c x y pos) (jlC tA ts tu) (sIf ft f f2):=⟨jk9 a.sem b.sem d.sem,jkU a.den b.den d.den⟩
structure QIE(cl:Nat->Addr)(X:Cx)(tg e:Expr)(wi:TI)(p:FA):Prop where
 sem:PI X tg e wi
 den:DIt ⟨X.K,cl⟩ wi p
def u5:∀(ρ:Rh) (ds:List D),pN ρ=some ds->ds.length=0:=λρ ds h=>by cases h;rfl
def zB(h:∀(ρ:Rh) (ds:List D),pr ρ=some ds->ds.length=n):∀(ρ:Rh) (ds:List D),ja p pr ρ=some ds->ds.length=n+1:=λρ ds e=>by
 rw[ja] at e;refine ob e λd a e=>ob e λl e2 e=>?_;cases e;rw[M0,h ρ l e2]
def u9:D->Option (List D)
 | .lst _ m=>bif frzs m then some m else none
 | .tup m=>bif frzs m then some m else none
 | _=>none
def jfc(i:Nat)(p:PF)(ρ:Rh):Option Out:=(p ρ).bind λe=>(u9 e).bind λm=>(pV i ρ).bind λx=>(zj x).bind λl=>bif lim (l.length+m.length) then some (.nx<|ρ.set i<|some<|.lst true<|l++m) else none
def ji0(h:PB R te p):DS R pm (V5<|tBM R.K "list" (jhb R.K) (v8 i)<|yj te VX) (jfc i p):=by
 intro σ ρ Z H O o w s e M k;refine ob e λd B e=>ob e λm e2 e=>ob e λx C e=>ob e λl e3 e=>oc e λf e=>?_;cases e;cases YV e3;unfold V5 tBM;refine qw (P0:=[]) Yz w s C rfl Yr λa _ t N v _ y D put=>D ⟨.inl ⟨rfl,t,SqL.of y⟩,h w.zd s B λ{u E g P} g1 z=>?_⟩;have F:∃ b c,u=.ref b/\(SqL R.K g b c\/SqT R.K g b c)/\Reps R E g m c []:=by
  cases d with
  | lst Q G=>
   refine oc e2 λj e2=>?_;cases e2;obtain⟨b,c,I,rfl,n,r⟩:=z.lst_of;exact⟨b,c,rfl,.inl n.sq,r.frozen j⟩
  | tup G=>
   refine oc e2 λj e2=>?_;cases e2;obtain⟨b,c,rfl,n,r⟩:=z.tup_of;exact⟨b,c,rfl,.inr n,r.frozen j⟩
  | _=>cases e2
 obtain⟨b,c,rfl,J,A⟩:=F;obtain⟨S,g2,L⟩:=put Yr trivial g1 ((g1.reps w.zd v).append A) λq=>by simp
 exact⟨a,b,t,c,rfl,rfl,g1.at0 y,J,by rw[v.length,A.length];exact Jo f,k g2 L<|Keep.refl _ _⟩
def jkN(g:QB cl X (.Name x xpos) (v8 i)<|pV i)(h:QB cl X e te pe)(b:attributeBase (.Name x xpos) "extend" X.env (eval (.Name x xpos) X.env)=eval (.Name x xpos) X.env:=by rfl)
  (d:((backTo cpos<|starEach [e] X.env).all (λx=>!x.1)&&(backToKw cpos<|keywordEach [] X.env).all (λx=>x.1.isSome)
   && decide ([e].length+([]:List Keyword).length+(if([]:List Keyword).isEmpty then 0 else 1)<30))=true:=by rfl)
  (c:(apos.endLine==cpos.line)=true:=by rfl) (f:starEach [e] X.env=(false,eval e X.env)::starEach [] X.env:=by rfl) (a:(backTo cpos<|starEach [] X.env).any (·.1)=false:=by rfl)
  (hsw:swapsWith (.Call (.Attribute (.Name x xpos) "extend" apos) [e] [] cpos) none pos.line X.env=pure false:=by rfl):
  QS cl pm X (.Expr (.Call (.Attribute (.Name x xpos) "extend" apos) [e] [] cpos) pos) (V5<|tBM X.K "list" (jhb X.K) (v8 i)<|yj te VX) (jfc i pe) :=
 ⟨KZ (jem PySem.F.plainAttrs_list PySem.F.slot_list_extend PySem.F.type_list_extend jig g.sem (jK h.sem vU f) b d c f a) hsw,ji0 h.den⟩
end QD
namespace QD
open PySem L2
def jb(h:n<=100000):lim n=true:=X4 h
def xC(a:0<=i)(h:i<l.length):atI l i=l[i.toNat]?:=by
 unfold atI ixN;rw[if_pos ∅,if_pos ∅];rfl
def jbq(h:i<n):ixN n (i:Int)=some i:=by
 unfold ixN;rw[if_pos ∅,if_pos ∅];simp
def vH(h:(qj lo n)[i]?=some x):x=.int (lo+i)/\i<n:=by
 unfold qj at h;rw[List.getElem?_map] at h;by_cases hi:i<n
 ·rw[List.getElem?_range hi] at h;cases h;exact⟨rfl,hi⟩
 ·rw[List.getElem?_eq_none ⇑hi] at h;cases h
def vc(lo:Int)(n:Nat):(qj lo n).length=n:=by simp[qj]
@[simp] def eq_ss(a b:List Nat):vC (.str a) (.str b)=some (.bl<|a==b):=rfl
@[simp] def ne_ss(a b:List Nat):Jg (.str a) (.str b)=some (.bl<|!(a==b)):=rfl
@[simp] def is_i(i:Int):jaV (.int i) .non=some (.bl false):=rfl
@[simp] def is_n:jaV .non .non=some (.bl true):=rfl
@[simp] def is_s(a:List Nat):jaV (.str a) .non=some (.bl false):=rfl
@[simp] def in_cs(neg:Bool)(c:Nat)(s:List Nat):Jf neg (.str [c]) (.str s)=some (.bl<|neg != decide (c∈s)):=rfl
@[simp] def neg_i(i:Int):xj (.int i)=some (.int<|-i):=rfl
def jkA(h:a.length<=1000)(b:0<=n)(h1:n<=1000):yT (.str a) (.int n)=some (.str (List.replicate n.toNat a).flatten):=by
 show(bif decide (a.length<=1000)&&(decide (0<=n)&&decide (n<=1000)) then some (D.str (List.replicate n.toNat a).flatten) else none)=_;rw[X4 h,X4 b,X4 h1];rfl
def jnE(a:s.length<=100000)(b:0<=i)(h:i<s.length):jc (.str s) (.int i)=some (.str [s.getD i.toNat 0]):=by
 show(bif lim s.length then((atI s i).bind λc=>some<|D.str [c]) else none)=_;rw[jb a,xC b h];have:i.toNat<s.length:=by lia
 simp[this]
def Ka(xs:List α)  (h:0<=k):y4 xs (some k) none=xs.drop k.toNat:=by
 obtain⟨n,rfl⟩:∃ n:Nat,k=(n:Int):=⟨k.toNat,by lia⟩;rw[jcU];simp
@[simp] def itemsOf_str(s:List Nat):Qi (.str s)=some (s.map λc=>D.str [c]):=rfl
@[simp] def fTuple_lst(o:Bool)(l:List D):wL [.lst o l]=bif frzs l then some (.tup l) else none:=rfl
def jbJ(w:List Nat)(l:W4):jd2 (.str w) (l.map D.str)=true:=by
 unfold jd2;rw[L9];refine⟨rfl,List.all_eq_true.mpr λy a=>?_⟩;obtain⟨z,_,rfl⟩:=M5.mp a;rfl
def jdz(w:List Nat)(l:W4):inL (.str w) (l.map D.str)=decide (w∈l):=by
 unfold inL;rw[Bool.eq_iff_iff,List.any_eq_true,decide_eq_true_eq];constructor
 ·rintro⟨y,a,e⟩;obtain⟨z,b,rfl⟩:=M5.mp a;have:z=w:=by
   have e:(z==w)=true:=e;exact eq_of_beq e
  exact this▸b
 ·intro h;exact⟨.str w,M5.mpr ⟨w,h,rfl⟩,by show(w==w)=true;simp⟩
def jb6(neg o:Bool)(w:List Nat)(l:W4):Jf neg (.str w) (.lst o<|l.map D.str)=some (.bl<|neg != decide (w∈l)):=by
 show(bif jd2 (.str w) (l.map D.str) then some (D.bl<|neg != inL (.str w) (l.map D.str)) else none)=_;rw[jbJ,jdz];rfl
mutual
theorem jeg:∀(n:Nat) (d:D),okE n d=true->eqD d d=true
 | n,.non,_=>rfl
 | n,.bl _,_=>by show(_==_)=true;simp
 | n,.int _,_=>by show(_==_)=true;simp
 | n,.str _,_=>by show(_==_)=true;simp
 | n+1,.tup l,h=>by rw[eqD];exact Vv n l (by simpa [okE] using h)
 | n+1,.lst _ l,h=>by rw[eqD];exact Vv n l (by simpa [okE] using h)
 | 0,.tup l,h=>by simp[okE] at h
 | 0,.lst _ l,h=>by simp[okE] at h
 | n,.dK _ _ _,h=>by cases n<;>simp[okE] at h
 | n,.dT _ _ _,h=>by cases n<;>simp[okE] at h
 | n,.ins _ _ _ _,h=>by cases n<;>simp[okE] at h
 | n,.dead,h=>by cases n<;>simp[okE] at h
 | n,.exc _ _,h=>by cases n<;>simp[okE] at h
theorem Vv:∀(n:Nat) (l:List D),kJ n l=true->Qy l l=true
 | n,[],_=>rfl
 | n,d::l,h=>by
  rw[kJ,L9] at h;rw[Qy,jeg n d h.1,Vv n l h.2];rfl
end
def ut(h:kJ 19 l=true)(h':kJ 19 m=true):Jg (.lst o l) (.lst o' m)=some (.bl<|!Qy l m):=by
 show(bif okE 20 (.lst o l)&&okE 20 (.lst o' m) then some (D.bl<|!Qy l m) else none)=_;show(bif kJ 19 l&&kJ 19 m then _ else _)=_;rw[h,h'];rfl
def xL(h:∀ d∈l,okE n d=true):kJ n l=true:=by rw[K9];exact List.all_eq_true.mpr h
theorem yP:∀{l:List D},(∀ d∈l,frz d=true)->frzs l=true
 | [],_=>rfl
 | d::l,h=>by rw[zO,h d<|by simp,yP λx a=>h x<|by simp[a]];rfl
theorem vF:∀{l:List D},(∀ d∈l,fz d=d)->fzs l=l
 | [],_=>rfl
 | d::l,h=>by rw[jes,h d<|by simp,vF λx a=>h x<|by simp[a]]
def qB(h:∀ c∈w,c<1114112):okE n (.str w)=true:=by
 have:okE n (.str w)=w.all λc=>decide (c<1114112):=by cases n<;>rfl
 rw[this];exact List.all_eq_true.mpr λc a=>X4<|h c a
@[simp] def okE_int(n:Nat)(i:Int):okE n (.int i)=true:=by cases n<;>rfl
def jbm{l:List Nat}{i N:Nat}(h:∀ c∈l,c<N)(a:0<N):l.getD i 0<N:=by
 rw[List.getD_eq_getElem?_getD];cases e:l[i]? with
 | none=>exact a
 | some c=>exact h c<|List.mem_of_getElem? e
theorem Kf(a:List Nat):∀(w:List Nat) (ws:W4),Qp a (w::ws)=w++(ws.map (a++·)).flatten
 | w,[]=>by simp[Qp]
 | w,v::ws=>by rw[Qp,Kf a v ws];simp
theorem wT{f:α->D}{Q:α->Prop}:∀{ys:List D},(∀ y∈ys,∃ a,y=f a/\Q a)->∃ l:List α,ys=l.map f/\∀ a∈l,Q a
 | [],_=>⟨[],rfl,by simp⟩
 | y::ys,h=>by
  obtain⟨a,e,q⟩:=h y (by simp);obtain⟨l,e2,c⟩:=wT (ys:=ys) λz d=>h z (by simp[d]);exact⟨a::l,by rw[e,e2];rfl,λb g=>(M4.mp g).elim (λz=>z▸q) (c b)⟩
def jl7(a:frzs l=true):jd4 lo hi (.lst o l)=some (.lst true<|y4 l lo hi):=by
 show(bif frzs l then some (D.lst true<|y4 l lo hi) else none)=_;rw[a];rfl
def jdv(a:0<=i)(h:i<l.length):jc (.lst o l) (.int i)=l[i.toNat]?:=xC a h
def jet(a:0<=i)(h:i<l.length):jc (.tup l) (.int i)=l[i.toNat]?:=xC a h
def Wd(w:List Nat):Prop:=w.length<=30/\∀ c∈w,c<1114112
@[simp] def yr(l:W4):fzs (l.map D.str)=l.map D.str:=by
 rw[Jz,U0];rfl
@[simp] def jF(l:W4):frzs (l.map D.str)=true:=by
 rw[YS,List.all_map,List.all_eq_true];intro x _;rfl
@[simp] def kU(l:W4):jN (l.map D.str)=true:=by
 rw[vm,List.all_map,List.all_eq_true];intro x _;rfl
def jbI{n:Nat}{l:W4}(h:∀ w∈l,Wd w):kJ n (l.map D.str)=true :=
 xL λd hd=>by
  obtain⟨w,a,rfl⟩:=M5.mp hd;exact qB (h w a).2
def JD{l:W4}{i:Int}(a:0<=i)(h:i<l.length):jc (.lst o<|l.map D.str) (.int i)=some (.str<|l.getD i.toNat []):=by
 rw[jdv a<|by rw[L0];exact h,List.getElem?_map,List.getD_eq_getElem?_getD,X8 ∅];rfl
def qM{l:List α}{i:Nat}(h:i<l.length):l.getD i d∈l:=by
 rw[List.getD_eq_getElem?_getD,X8 h];exact List.getElem_mem h
def Qa(f:α->β)(l:List α)(lo hi:Option Int):y4 (l.map f) lo hi=(y4 l lo hi).map f:=by
 unfold y4;rw[L0,List.map_take,List.map_drop]
def uj(h:x∈y4 l lo hi):x∈l:=List.mem_of_mem_drop<|List.mem_of_mem_take h
def ud(l:List α)(lo hi:Option Int):(y4 l lo hi).length<=l.length:=by
 unfold y4;rw[X9,List.length_drop]
 lia
def u6(h:l.Nodup):(y4 l lo hi).Nodup:=(h.sublist<|List.drop_sublist _ _).sublist (List.take_sublist _ _)
def jbl(o:Bool)(l:W4)(lo hi:Option Int):jd4 lo hi (.lst o<|l.map D.str)=some (.lst true<|(y4 l lo hi).map D.str):=by
 rw[jl7<|jF l,Qa]
def Yh{G:D->Rh->Option Rh}{l:List α}{en out:α->D}{b:α->Bool}(P:Rh->Prop)(step:∀ x∈l,∀ ρ,P ρ->∃ ρ1,G (en x) ρ=some ρ1/\q ρ1=some (b x)/\p ρ1=some (out x)/\P ρ1){ρ:Rh}(a:P ρ):yQ G q p (l.map en) ρ=some ((l.filter b).map out):=by
 induction l generalizing ρ with
 | nil=>rfl
 | cons x l c=>
  obtain⟨ρ1,d,e2,e3,p1⟩:=step x L6 ρ a;have:=c (λy e=>step y<|L5 _ e) p1;rw[L4,qV,d,L3,e2,L3];cases hb:b x with
  | true=>simp[e3,this,hb]
  | false=>simp[this,hb]
mutual
theorem jjf:∀(n:Nat) (d:D),okE n d=true->eqD (fz d) d=true
 | n,.non,_=>rfl
 | n,.bl _,_=>by show(_==_)=true;simp
 | n,.int _,_=>by show(_==_)=true;simp
 | n,.str _,_=>by show(_==_)=true;simp
 | n+1,.tup l,h=>by rw[fz,eqD];exact xw n l (by simpa [okE] using h)
 | n+1,.lst _ l,h=>by rw[fz,eqD];exact xw n l (by simpa [okE] using h)
 | 0,.tup l,h=>by simp[okE] at h
 | 0,.lst _ l,h=>by simp[okE] at h
 | n,.dK _ _ _,h=>by cases n<;>simp[okE] at h
 | n,.dT _ _ _,h=>by cases n<;>simp[okE] at h
 | n,.ins _ _ _ _,h=>by cases n<;>simp[okE] at h
 | n,.dead,h=>by cases n<;>simp[okE] at h
 | n,.exc _ _,h=>by cases n<;>simp[okE] at h
theorem xw:∀(n:Nat) (l:List D),kJ n l=true->Qy (fzs l) l=true
 | n,[],_=>rfl
 | n,d::l,h=>by
  rw[kJ,L9] at h;rw[fzs,Qy,jjf n d h.1,xw n l h.2];rfl
end
mutual
theorem jfQ:∀(n:Nat) (d e:D),okE n d=true->fz d=fz e->eqD d e=true
 | n,.non,e,_,h=>by cases e<;>simp[fz] at h;rfl
 | n,.bl _,e,_,h=>by cases e<;>simp[fz] at h;subst h;show(_==_)=true;simp
 | n,.int _,e,_,h=>by cases e<;>simp[fz] at h;subst h;show(_==_)=true;simp
 | n,.str _,e,_,h=>by cases e<;>simp[fz] at h;subst h;show(_==_)=true;simp
 | n+1,.tup l,e,h,q=>by
  cases e<;>simp[fz] at q;rw[eqD];exact xx n l _ (by simpa [okE] using h) q
 | n+1,.lst _ l,e,h,q=>by
  cases e<;>simp[fz] at q;rw[eqD];exact xx n l _ (by simpa [okE] using h) q
 | 0,.tup l,e,h,_=>by simp[okE] at h
 | 0,.lst _ l,e,h,_=>by simp[okE] at h
 | n,.dK _ _ _,e,h,_=>by cases n<;>simp[okE] at h
 | n,.dT _ _ _,e,h,_=>by cases n<;>simp[okE] at h
 | n,.ins _ _ _ _,e,h,_=>by cases n<;>simp[okE] at h
 | n,.dead,e,h,_=>by cases n<;>simp[okE] at h
 | n,.exc _ _,e,h,_=>by cases n<;>simp[okE] at h
theorem xx:∀(n:Nat) (l m:List D),kJ n l=true->fzs l=fzs m->Qy l m=true
 | n,[],[],_,_=>rfl
 | n,[],_::_,_,q=>by simp[fzs] at q
 | n,_::_,[],_,q=>by simp[fzs] at q
 | n,d::l,e::m,h,q=>by
  rw[kJ,L9] at h;rw[fzs,fzs] at q;injection q with q1 q2;rw[Qy,jfQ n d e h.1 q1,xx n l m h.2 q2];rfl
end
def jc5(h:okE 20 d=true)(h':okE 20 e=true)(q:fz d=fz e)(a:Jk d=false:=by rfl):Jg d e=some (.bl false):=by
 unfold Jg;rw[a,h,h',jfQ 20 d e h q];rfl
theorem VE:∀ l:List (List Nat×D),Yu (l.map λp=>.tup [.str p.1,p.2])=some (l.map λp=>(KA.str p.1,p.2))
 | []=>rfl
 | p::l=>by
  rw[L4,Yu,VE l];rfl
theorem Vj:∀(ps:List<|KA×D) (ks:List KA) (vs:List D),(ks++ps.map (·.1)).Nodup->ps.foldl (λacc kv=>qm acc.1 acc.2 kv.1 kv.2) (ks,vs)=(ks++ps.map (·.1),vs++ps.map (·.2))
 | [],ks,vs,_=>by simp
 | p::ps,ks,vs,h=>by
  have a:p.1∉ks:=by
   rw[L4] at h;intro z;exact(U8.mp h).2.2 p.1 z p.1 (by simp) rfl
  rw[U9];have b:qm ks vs p.1 p.2=(ks++[p.1],vs++[p.2]):=by unfold qm;rw[if_neg a]
  show ps.foldl _ (qm ks vs p.1 p.2)=_;rw[b,Vj ps (ks++[p.1]) (vs++[p.2]) ⇑h];simp
def jaj{l:List (List Nat×D)}(g:(l.map (·.1)).Nodup)(i:∀ p∈l,frz p.2=true)(j:l.length<=100000):yZ [.lst o<|l.map λp=>.tup [.str p.1,p.2]]=some (.dK true (l.map λp=>KA.str p.1) (l.map (·.2))):=by
 have k:((l.map λp=>(KA.str p.1,p.2)).map (·.1)).Nodup:=by
  rw[U0];have:((λx:KA×D=>x.1) ∘ λp:List Nat×D=>(KA.str p.1,p.2))=KA.str ∘ (·.1):=rfl;rw[this,<- U0];exact List.Pairwise.map _ (λa b h z=>h<|by cases z;rfl) g
 have e:=Vj (l.map λp=>(KA.str p.1,p.2)) [] [] ⇑k;show((Yu<|l.map λp=>.tup [.str p.1,p.2]).bind λc=>bif frzs (c.map (·.2))&&lim c.length then some (D.dK true (wA c).1 (wA c).2) else none)=_;rw[VE,L3];have f:((l.map λp=>(KA.str p.1,p.2)).map (·.2))=l.map (·.2):=by rw[U0];rfl
 rw[f,yP (by intro d hd;obtain⟨p,m,rfl⟩:=M5.mp hd;exact i p m),L0,jb j];unfold wA;rw[e,f];simp[U0]
noncomputable def lkp{α:Type}(w:List Nat):List (List Nat×α)->Option α
 | []=>none
 | p::l=>if p.1=w then some p.2 else lkp w l
noncomputable def dct(o:Bool)(N:W4)(f:List Nat->Int):D:=.dK o (N.map KA.str)<|N.map λn=>D.int<|f n
theorem Qn(f:List Nat->Int):∀{N:W4},c∈N->QA (N.map KA.str) (N.map λn=>D.int<|f n) (.str c)=some (.int<|f c)
 | [],h=>by cases h
 | n::N,h=>by
  rw[L4,L4,QA];by_cases e:n=c
  ·rw[if_pos<|by rw[e],e]
  ·rw[if_neg λz=>e<|by cases z;rfl];exact Qn f<|(M4.mp h).resolve_left λz=>e z.symm
def ye(h:c∈N):jr (dct o N f) (.str c)=some (.int<|f c):=Qn f h
theorem wQ(f:List Nat->Int)(c:List Nat)(v:Int):∀ N:List (List Nat),jcs (N.map KA.str) (N.map λn=>D.int<|f n) (.str c) (.int v)=N.map λn=>D.int (if n=c then v else f n)
 | []=>rfl
 | n::N=>by
  rw[L4,L4,jcs,wQ f c v N,L4];by_cases e:n=c
  ·rw[if_pos<|by rw[e],if_pos e]
  ·rw[if_neg λz=>e (by cases z;rfl),if_neg e]
def uV{N:W4}{f:List Nat->Int}{c:List Nat}{v:Int}(h:c∈N):qm (N.map KA.str) (N.map λn=>D.int<|f n) (.str c) (.int v)=(N.map KA.str,N.map λn=>D.int<|if n=c then v else f n):=by
 unfold qm;rw[if_pos<|M5.mpr ⟨c,h,rfl⟩,wQ]
theorem Q0:∀{l:List (List Nat×α)},(l.map (·.1)).Nodup->∀ p∈l,lkp p.1 l=some p.2
 | [],_,_,h=>by cases h
 | q::l,a,p,h=>by
  rw[L4,List.nodup_cons] at a;rw[lkp];rcases M4.mp h with rfl | h
  ·rw[if_pos rfl]
  ·rw[if_neg λz=>a.1<|by rw[z];exact M5.mpr ⟨p,h,rfl⟩];exact Q0 a.2 p h
def fnOf(S:List<|List Nat×Int)(n:List Nat):Int:=(lkp n S).getD 0
def Kg{S:List (List Nat×Int)}(a:(S.map (·.1)).Nodup){p:List Nat×Int}(h:p∈S):fnOf S p.1=p.2:=by
 unfold fnOf;rw[Q0 a p h];rfl
def y8{S:List (List Nat×Int)}(b:(S.map (·.1)).Nodup)(c:S.length<=100000):yZ [.lst o<|S.map λp=>.tup [.str p.1,.int p.2]]=some (dct true (S.map (·.1))<|fnOf S):=by
 have e:=jaj (o:=o) (l:=S.map λq=>(q.1,D.int q.2)) (by rw[U0];exact b) (by intro q d;obtain⟨a,_,rfl⟩:=M5.mp d;rfl) (by rw[L0];exact c);rw[U0,U0,U0] at e;refine e.trans ?_;unfold dct;rw[U0,U0];congr 2;refine List.map_congr_left λp f=>?_;show D.int p.2=D.int (fnOf S p.1);rw[Kg b f]
def jed(N:W4)(f:List Nat->Int):frzs (N.map λn=>D.int<|f n)=true:=yP λd hd=>by
 obtain⟨n,_,rfl⟩:=M5.mp hd;rfl
def jcY(N:W4)(f:List Nat->Int):(((N.map KA.str).zip (N.map λn=>D.int<|f n)).map λp=>D.tup [kaD p.1,p.2])=N.map λn=>D.tup [.str n,.int<|f n]:=by
 induction N with
 | nil=>rfl
 | cons n N a=>
  rw[L4,L4,U6,L4,L4,a];rfl
@[simp] def jeB(N:W4)(f:List Nat->Int):jea (dct true N f)=some (N.map KA.str,N.map λn=>D.int<|f n):=rfl
variable {ρ:Rh}{fa fb fe:FE}{ft fu:FT'}{fr:FA}{p:PAf}{pi:PAf}{g:D->D->Option D}{gl:List D->Option D}{G:D->Rh->Option Rh}{f:FS}{m:List D->Option (D×D)}{mp:List D->Option D}{i j:Nat}
@[simp] def dCBx_e:dCB gl fr ρ=(fr ρ).bind λr=>(gl r.1).bind λz=>some (z,r.2):=rfl
@[simp] def dTestx_e:wq fa ρ=(fa ρ).bind λr=>(jfR r.1).bind λb=>some (b,r.2):=by
 unfold wq;cases fa ρ with
 | none=>rfl
 | some r=>
  obtain⟨x,a⟩:=r;cases x<;>rfl
@[simp] def oF_e:oF g x y=(g x y).bind λd=>bif frz d then some d else none:=rfl
end QD
namespace L2
open PySem PySem.Spec PyProof.Rows
end L2
namespace QD
open PySem L2 PySem.Spec PyProof.Rows
noncomputable def YH:Int->List D->List D
 | _,[]=>[]
 | n,x::l=>.tup [.int n,x]::YH (n+1) l
theorem QN:∀(n:Int) (l:List D),(YH n l).length=l.length
 | _,[]=>rfl
 | n,x::l=>by rw[YH,M0,M0,QN]
theorem zK:∀(n:Int) (l:List D) (i:Nat) (y:D),(YH n l)[i]?=some y->∃ x,l[i]?=some x/\y=.tup [.int<|n+i,x]
 | _,[],_,_,e=>by simp[YH] at e
 | n,x::l,0,y,e=>by simp[YH] at e;exact⟨x,rfl,by rw[<- e];simp⟩
 | n,x::l,i+1,y,e=>by
  obtain⟨z,a,e2⟩:=zK (n+1) l i y (by simpa [YH] using e);exact⟨z,by simpa using a,by rw[e2];congr 3;lia⟩
def jj5(p:PAf)(q:PF)(ρ:Rh):Option (List D):=(p ρ).bind λx=>(jfG x).bind λx=>(jdw x).bind λl=>(q ρ).bind λy=>(vD y).bind λn=>bif Km n then some (YH n<|fzs l) else none
def jk2(h:PPs R ta p)(f:PB R tb q):PIt R (jmb R.K ta tb) (jj5 p q):=by
 intro σ ρ Z H O Y z s e Q k;refine ob e λx g e=>ob e λy e3 e=>ob e λl G e=>ob e λy' e2 e=>ob e λn e5 e=>oc e λI e=>?_;cases e;cases j7 e5;obtain⟨o,rfl⟩:=qC G;cases Jq e3;refine h z s g λ{vs J H1 L} g1 M=>?_;obtain⟨v,rfl,N⟩:=M.one_of;have C:=N.freeze (Z':=λa=>J a\/a∈L) (λa z=>.inl z) λa z=>.inr z;rw[fz,Rep] at C;obtain⟨a,c,O',rfl,P,S,rfl,_⟩:=C;have b:=g1.fz;refine f b.wf.zd (b.slots z s) e2 λ{u Z2 H2 P2} g2 j=>?_;obtain⟨rfl,_⟩:=j.int_of;have d:=S.frame g2.zz<|λa z=>g2.same a<|b.wf.zd a z;have m:=P.frame g2.zz (λa z=>g2.same a<|b.wf.zd a z)<|λa r=>(nomatch r);have hb:=VN I;refine⟨a,c,n,rfl,rfl,by unfold Builtin.SmallTypes.fitsIndex;simp;lia,FL.sq d,k (b.pair g2) ?_⟩;intro Z3 T D E zd i;have A:=(d.frame D E).sq;have j:Reps R Z3 T (fzs l) c []:=m.frame D E λa r=>(nomatch r);refine⟨λhi=>⟨c,A,by rw[j.length];rw[QN] at hi;exact hi⟩,λx U=>?_⟩;obtain⟨y,V,rfl⟩:=zK _ _ i x U;obtain⟨u,F,W⟩:=j.item V;refine⟨⟨c,u,A,F⟩,λw H4 B=>?_⟩;obtain⟨q,t,X,rfl,f,rfl⟩:=B;have g:=X c A;rw[F] at g;cases g;exact⟨_,Go.newF (wf0 zd) f,KS zd f .int_mk W⟩
noncomputable def Qz:List (List KA)->List D->List KA->Option D
 | k::ks,d::l,a=>if k=a then some d else Qz ks l a
 | _,_,_=>none
def Qq{a b:List KA}(h:a.map kaV=b.map kaV):a=b:=by
 induction a generalizing b with
 | nil=>cases b with
  | nil=>rfl
  | cons y b=>simp at h
 | cons x a c=>cases b with
  | nil=>simp at h
  | cons y b=>
   simp only[L4,List.cons.injEq] at h;rw[VW h.1,c h.2]
theorem YW:∀{ks:List (List KA)}{l:List D}{vs:List V}{O:W6}{a:List KA},Reps R Z H l vs O->ks.length=l.length ->
  (∀ d,Qz ks l a=some d->∃ v P,VY ((ks.map<|List.map kaV).zip vs) (a.map kaV)=some v/\Rep R Z H d v P)/\(Qz ks l a=none->VY ((ks.map<|List.map kaV).zip vs) (a.map kaV)=none)
 | [],l,vs,O,a,r,c=>⟨λd e=>(by cases l<;>cases e),λ_=>rfl⟩
 | k::ks,[],vs,O,a,r,c=>by simp at c
 | k::ks,x::l,vs,O,a,r,c=>by
  rw[Reps] at r;obtain⟨v,b,f,n,rfl,rfl,g,i⟩:=r;have j:=YW (a:=a) i ⇑c;by_cases e:k=a
  ·subst e;refine⟨λd h=>?_,λh=>?_⟩
   ·simp only[Qz,if_true] at h;cases h;exact⟨v,f,qN rfl,g⟩
   ·simp[Qz] at h
  ·have m:¬ (k.map kaV=a.map kaV):=λz=>e<|Qq z;have q:VY (((k::ks).map (List.map kaV)).zip (v::b)) (a.map kaV)=VY ((ks.map<|List.map kaV).zip b) (a.map kaV):=qP m;rw[q];simp only[Qz,if_neg e];exact j
def je8:PP R jbB (pC<|.dT true [] []):=by
 intro σ ρ Z H O d z s e Q k;cases e;intro p a;refine k (Go.newO (wf0 z) a) ?_;rw[Rep];exact⟨p,[],[],rfl,.empty,rfl,jA,rfl⟩
abbrev jbe(ta tb:TE):TE:=wO<|yj ta<|yj tb VX
def jaU(pa pb:PF)(ρ:Rh):Option (List KA):=(pa ρ).bind λx=>(pb ρ).bind λy=>(vT x).bind λa=>(vT y).bind λb=>some [a,b]
def JG (c : PB R ta pa) (d : PB R tb pb)  (z : Zd Z H) (s : Slots R Z H ρ σ O) (e : jaU pa pb ρ = some k)
     (go:∀{p:Addr}{Z':Zn}{H':Hp},Go Z H [] Z' H' []->Z' p->H' p=some (.tup<|(k.map kaV).map kV)->Q (.ref p) H'):jbe ta tb σ H Q:=by
 unfold jaU at e;refine ob e λx f e=>ob e λy e2 e=>ob e λa e3 e=>ob e λb g e=>?_;cases e;refine c z s f λ{v l m n} g1 h=>?_;refine d g1.wf.zd (g1.slots z s) e2 λ{u o q r} g2 i=>?_;obtain⟨rfl,_⟩:=vw e3 h;obtain⟨rfl,_⟩:=vw g i;refine⟨by show 2<=sizeLine;decide,λp j=>?_⟩;exact go ((g1.pair g2).trans (Go.newF g2.wf j)) (.inr rfl) jA
def Rep.dT_of(r:Rep R Z H (.dT o ks l) v O):∃ a vs O',v=.ref a/\H a=some (.dT<|(ks.map<|List.map kaV).zip vs)/\Reps R Z H l vs O'/\ks.length=l.length:=by
 rw[Rep] at r;obtain⟨a,vs,O',rfl,b,c,d,_⟩:=r;exact⟨a,vs,O',rfl,d,b,c⟩
def Kd(x:D)(k:List KA)(z:D):Option D:=match x with
 | .dT _ ks l=>some<|(Qz ks l k).getD z
 | _=>none
@[simp] def opTGet_e(o:Bool)(ks:List<|List KA)(l:List D)(k:List KA)(z:D):Kd (.dT o ks l) k z=some ((Qz ks l k).getD z):=rfl
@[simp] def YI(pd:PF)(pa:PF)(pb:PF)(pc:PF)(ρ:Rh):Option D:=(pd ρ).bind λx=>(jaU pa pb ρ).bind λk=>(pc ρ).bind λz=>Kd x k z
@[simp] def jiR:jaU pa pb ρ=(pa ρ).bind λx=>(pb ρ).bind λy=>(vT x).bind λa=>(vT y).bind λb=>some [a,b]:=rfl
def jfj(hd:PB R td pd)(u:PB R ta pa)(A:PB R tb pb)(B:PB R tx pc):PB R (jdn td (jbe ta tb) tx) (YI pd pa pb pc):=by
 intro σ ρ Z H O d z s e Q k;unfold YI at e;refine ob e λx C e=>ob e λy e2 e=>ob e λc D e=>?_;cases x with
 | dT o j l=>
  cases e;refine hd z s C λ{v M N S} g1 n=>?_;obtain⟨p,T,U,rfl,E,V,W⟩:=n.dT_of;refine⟨p,rfl,.inr ⟨_,.inl E⟩,?_⟩;refine JG u A g1.wf.zd (g1.slots z s) e2 λ{b X Y} g2 zb q=>?_;have a:=g1.pair g2;refine B g2.wf.zd (a.slots z s) D λ{t Z3 m F} g3 G=>?_;have r:=(g2.pair g3).rep g1.wf.zd n;rw[Rep] at r;obtain⟨p',I,J,K,f,g,h,_⟩:=r;cases K;have i:m b=some (.tup<|(y.map kaV).map kV):=by rw[g3.same b<|by rw[q];exact λz=>(nomatch z)];exact q
  cases ev:Qz j l y with
  | none=>exact⟨none,(YW f g).2 ev▸DGet.t h i,k (a.pair g3)<|show Rep R Z3 m ((Qz j l y).getD c) t F by rw[ev];exact G⟩
  | some d=>
   obtain⟨w,P,L,rw⟩:=(YW f g).1 d ev;exact⟨some w,L▸DGet.t h i,k (a.pair g3)<|show Rep R Z3 m ((Qz j l y).getD c) w P by rw[ev];exact rw⟩
 | _=>cases e
noncomputable def je4:List (List KA)->List D->List KA->D->List D
 | k::ks,x::l,a,d=>(if k=a then d else x)::je4 ks l a d
 | _,_,_,_=>[]
theorem wN:∀{ks:List (List KA)}{l:List D}(a:List KA) (d:D),ks.length=l.length->(je4 ks l a d).length=l.length
 | [],[],_,_,_=>rfl
 | [],_::_,_,_,h=>by simp at h
 | _::_,[],_,_,h=>by simp at h
 | k::ks,x::l,a,d,h=>by rw[je4,M0,M0,wN a d ⇑h]
theorem uu(rd:Rep R Z H d v [])(a:List KA):∀{ks:List (List KA)}{l:List D}{vs:List V}{O:W6},Reps R Z H l vs O->ks.length=l.length ->
  ∃ vs2 O2,Reps R Z H (je4 ks l a d) vs2 O2/\(ks.map<|List.map kaV).zip vs2=((ks.map<|List.map kaV).zip vs).map (λkv=>if kv.1=a.map kaV then(kv.1,v) else kv)/\O2.Sublist O
 | [],[],vs,O,r,b=>by
  rw[Reps] at r;obtain⟨rfl,rfl⟩:=r;exact⟨[],[],.empty,rfl,.slnil⟩
 | [],_::_,_,_,_,h=>by simp at h
 | _::_,[],_,_,_,h=>by simp at h
 | k::ks,x::l,vs,O,r,b=>by
  rw[Reps] at r;obtain⟨w,j,m,O2,rfl,rfl,n,o⟩:=r;obtain⟨c,f,g,e3,i⟩:=uu rd a o ⇑b;by_cases e:k=a
  ·subst e;refine⟨v::c,[]++f,?_,?_,?_⟩
   ·rw[je4,if_pos rfl];exact Reps.cons rd g
   ·simp only[L4,U6,if_true,e3]
   ·exact i.trans<|List.sublist_append_right _ _
  ·have p:¬ (k.map kaV=a.map kaV):=λz=>e<|Qq z;refine⟨w::c,m++f,?_,?_,?_⟩
   ·rw[je4,if_neg e];exact Reps.cons n g
   ·simp only[L4,U6,if_neg p,e3]
   ·exact List.Sublist.append (List.Sublist.refl _) i
theorem uJ(a:List KA):∀{ks:List (List KA)}{vs:List V},ks.length=vs.length->(((ks.map<|List.map kaV).zip vs).any λkv=>decide<|kv.1=a.map kaV)=decide (a∈ks)
 | [],vs,_=>by simp
 | k::ks,[],h=>by simp at h
 | k::ks,v::vs,h=>by
  rw[L4,U6,List.any_cons,uJ a ⇑h];by_cases e:k=a
  ·subst e;simp
  ·have b:¬ (k.map kaV=a.map kaV):=λz=>e<|Qq z;have e2:¬ (a=k):=λz=>e z.symm;simp[b,e2]
def V6(ks:List<|List KA)(l:List D)(a:List KA)(d:D):List (List KA)×List D:=if a∈ks then(ks,je4 ks l a d) else(ks++[a],l++[d])
def YR(rd:Rep R Z H d v [])(a:List KA)  (r:Reps R Z H l vs O) (b:ks.length=l.length):
  ∃ vs2 O2,Reps R Z H (V6 ks l a d).2 vs2 O2/\(((V6 ks l a d).1).map (List.map kaV)).zip vs2=vX ((ks.map<|List.map kaV).zip vs) (a.map kaV) v/\O2.Sublist O/\(V6 ks l a d).1.length=(V6 ks l a d).2.length:=by
 have c:ks.length=vs.length:=by rw[r.length];exact b
 unfold V6 vX;rw[uJ a c];by_cases e:a∈ks
 ·rw[if_pos e,X4 e,if_pos rfl];obtain⟨f,P,g,e2,h⟩:=uu rd a r b;exact⟨f,P,g,e2,h,by rw[wN a d b];exact b⟩
 ·rw[if_neg e,X5 e,if_neg<|λz=>(nomatch z)];refine⟨vs++[v],O++[],r.append<|Reps.one rd,?_,by simp,by simp[b]⟩;rw[N4,List.zip_append ⇑c];rfl
@[simp] def jiE(i:Nat)(pa:PF)(pb:PF)(pv:PF)(ρ:Rh):Option Out:=(pv ρ).bind λd=>(pV i ρ).bind λx=>(jfl x).bind λp=>(jaU pa pb ρ).bind λa=>bif frz d&&lim p.1.length then some (.nx<|ρ.set i<|some<|.dT true (V6 p.1 p.2 a d).1 (V6 p.1 p.2 a d).2) else none
def jin{R:RC}{pm:List Nat}{i:Nat}{ta tb tv:TE}{pa pb pv:PF}(n:PB R ta pa)(p:PB R tb pb)(r:PB R tv pv):DS R pm (xE (v8 i) (jbe ta tb) tv) (jiE i pa pb pv):=by
 intro σ ρ Z H O o w s e K k;refine ob e λd v e=>ob e λx y e=>ob e λ⟨L,l⟩ z e=>ob e λc e2 e=>oc e λf e=>?_;cases e;cases wm z;rw[L9] at f;refine r w.zd s v λ{u M N P} g1 j=>?_;cases j.nil f.1;have m:=g1.widen w;have s1:=g1.slots w.zd s;refine qw (P0:=[]) Yz m.wf s1 y rfl jat λa _ Q S A g B C put=>C<|JG n p g1.wf.zd s1 e2 λ{b T U} g2 V D=>?_;obtain⟨E,W,F,G,I,h⟩:=YR (g2.rep g1.wf.zd j) c (g2.reps g1.wf.zd A) g;obtain⟨X,g3,J⟩:=put jat h g2 F λq=>by simpa using I.count_le q
 refine⟨a,_,rfl,DPut.t (g2.at0 B) D<|Y4 f.2,?_⟩;rw[<- G];exact k (m.trans g3) J<|Keep.refl _ _
def jnb(d:X.mg "enumerate" = none)(h:QPs cl X [a] tr pr)(c:QB cl X b tb pb)(e:Gl X "enumerate":=by rfl)(f:starEach [a] X.env=[(false,eval a X.env)]:=by rfl):
  QI cl X (.Tuple elts n tpos) (.Call (.Name "enumerate" p) [a] [⟨some "start",b,kpos⟩] pos) (jmb X.K tr tb) (jj5 pr pb):=⟨jmn e d h.sem c.sem f,jk2 h.den c.den⟩
def jf5:QP cl X (.Dict [] [] pos) jbB (pC<|.dT true [] []):=⟨jey,je8⟩
def jic{x1}(h:Room k X.A)(d:QB cl X o to po)(e:QB cl X a ta pa)(f:QB cl X b tb pb)(g:QB cl X c tc pc)(m:M2 X o "get" apos (.Tuple [a,b] x1 tpos) c cpos:=by exact⟨rfl,rfl,rfl,rfl⟩)
  (h1:starEach [a,b] X.env=(false,eval a X.env)::starEach [b] X.env:=by rfl) (h2:starEach [b] X.env=(false,eval b X.env)::starEach [] X.env:=by rfl):
  QB cl X (.Call (.Attribute o "get" apos) [.Tuple [a,b] x1 tpos,c] [] cpos) (jdn to (jbe ta tb) tc) (YI po pa pb pc) :=
 ⟨jd3 (V4 h) d.sem (Jn<|jK e.sem (jK f.sem vU h2) h1) g.sem m,jfj d.den e.den f.den g.den⟩
def jgH{x1}(g:Room k X.A)(h:QB cl X (.Name x xpos) (v8 i)<|pV i)(c:QB cl X a ta pa)(d:QB cl X b tb pb)(f:QB cl X e te pe)
  (j:swapsWith e (some<|.Subscript (.Name x xpos) (.Tuple [a,b] x1 tpos) pos') pos.line X.env=pure false:=by rfl)
  (h1:starEach [a,b] X.env=(false,eval a X.env)::starEach [b] X.env:=by rfl) (h2:starEach [b] X.env=(false,eval b X.env)::starEach [] X.env:=by rfl):
  QS cl pm X (.Assign [.Subscript (.Name x xpos) (.Tuple [a,b] x1 tpos) pos'] e pos) (xE (v8 i) (jbe ta tb) te) (jiE i pa pb pe) :=
 ⟨xO (V4 g) h.sem (Jn<|jK c.sem (jK d.sem vU h2) h1) f.sem j,jin c.den d.den f.den⟩
end QD
namespace L2
open PySem PySem.Spec PyProof.Rows
end L2
namespace QD
open PySem L2 PySem.Spec PyProof.Rows
def pFz(p:PF):PF:=λρ=>(p ρ).bind λd=>some<|fz d
@[simp] def pFz_e:pFz p ρ=(p ρ).bind λd=>some (fz d):=rfl
def jmo(h:PP R te p):PB R te (pFz p):=by
 intro σ ρ Z H O d z s e Q k;unfold pFz at e;refine ob e λx b e=>?_;cases e;refine h z s b λ{v c f P} g r=>?_;exact k (P:=[]) g.fz<|r.freeze (Z':=λa=>c a\/a∈P) (λa z=>.inl z) λa z=>.inr z
def QP.fzb(h:QP cl X e te pe):QB cl X e te (pFz pe):=⟨h.sem,jmo h.den⟩
theorem Kc:∀(ks:List KA) (ws:List V) (js:List KA) (us:List V),js.length=us.length->ks.length=ws.length->(js++ks).Nodup ->
  ((ks.map kaV).zip ws).foldl (λa kv=>vX a kv.1 kv.2) ((js.map kaV).zip us)=((js++ks).map kaV).zip (us++ws)
 | [],ws,js,us,_,b,_=>by
  cases ws with
  | nil=>simp
  | cons _ _=>simp at b
 | k::ks,[],js,us,_,b,_=>by simp at b
 | k::ks,w::ws,js,us,c,b,d=>by
  have f:¬ k∈js:=λz=>(U8.mp d).2.2 k z k (by simp) rfl;have e:vX ((js.map kaV).zip us) (kaV k) w=((js++[k]).map kaV).zip (us++[w]):=by
   unfold vX;rw[KR k c,X5 f,if_neg<|by decide,N4,List.zip_append<|by rw[L0];exact c];rfl
  rw[L4,U6,U9];show List.foldl _ (vX ((js.map kaV).zip us) (kaV k) w) _=_;rw[e,Kc ks ws (js++[k]) (us++[w]) (by simp[c]) ⇑b ⇑d];simp
noncomputable def jk4:List KA->KA->Option Nat
 | [],_=>none
 | k::ks,a=>if k=a then some 0 else(jk4 ks a).map (·+1)
theorem um:∀{ks:List KA}{a:KA}{vs:List V}{j:Nat}{v:V},jk4 ks a=some j->ks.length=vs.length->vs[j]?=some v->VY ((ks.map kaV).zip vs) (kaV a)=some v
 | [],_,_,_,_,h,_,_=>by cases h
 | k::ks,a,[],_,_,_,b,_=>by simp at b
 | k::ks,a,u::vs,j,v,h,b,c=>by
  rw[jk4] at h;by_cases e:k=a
  ·rw[if_pos e] at h;cases h;cases c;rw[L4,U6,e];exact qN rfl
  ·rw[if_neg e] at h;cases hp:jk4 ks a with
   | none=>rw[hp] at h;cases h
   | some i=>
    rw[hp] at h;cases h;rw[L4,U6,qP<|λz=>e<|VW z];exact um hp ⇑b ⇑c
noncomputable def JE:List Str->List D->Str->Option D
 | n::ns,d::l,f=>if f=n then some d else JE ns l f
 | _,_,_=>none
theorem wo:∀{ns:List Str}{l:List D}{vs:List V}{O:W6},Reps R Z H l vs O->ns.length=l.length->JE ns l f=some d->∃ v P,(ns.zip vs).lookup f=some v/\Rep R Z H d v P
 | [],l,vs,O,_,_,h=>by cases l<;>cases h
 | n::ns,[],vs,O,_,a,_=>by simp at a
 | n::ns,x::l,vs,O,r,a,h=>by
  rw[Reps] at r;obtain⟨v,b,c,k,rfl,rfl,g,i⟩:=r;rw[JE] at h;by_cases e:f=n
  ·rw[if_pos e] at h;cases h;exact⟨v,c,by rw[U6,List.lookup_cons,e];simp,g⟩
  ·rw[if_neg e] at h;obtain⟨w,P,j,e2⟩:=wo i ⇑a h;refine⟨w,P,?_,e2⟩;rw[U6,List.lookup_cons];have:(f==n)=false:=by simp[e]
   rw[this];exact j
def zp(c:Nat)(f:Str):D->Option D
 | .ins _ c' ns l=>bif c'==c then JE ns l f else none
 | _=>none
@[simp] def fldOf_ins:zp c f (.ins o c' ns l)=bif c'==c then JE ns l f else none:=rfl
@[simp] def Jp(c:Nat)(f:Str)(po:PF)(ρ:Rh):Option D:=(po ρ).bind (zp c f)
def jla(i:Cls R.K<|R.cls c)(j:NoAttr R.K (R.cls c) f)(h:PB R ta p):PB R (jdu R.K ta f) (Jp c f p):=by
 intro σ ρ Z H O d z s e Q k;refine ob e λx m e=>?_;cases x with
 | ins o n ns l=>
  refine oc e λq r=>?_;obtain rfl:n=c:=by simpa using q
  refine h z s m λ{v C D E} g1 g=>?_;rw[Rep] at g;obtain⟨a,t,F,G,rfl,u,y,A,_⟩:=g;obtain⟨w,P,B,b⟩:=wo u y r;exact⟨a,_,t,_,w,rfl,A,i,j,B,k g1 b⟩
 | _=>cases e
noncomputable def Ji:List Str->List D->Str->D->List Str×List D
 | n::ns,x::l,f,d=>if n=f then(n::ns,d::l) else(n::(Ji ns l f d).1,x::(Ji ns l f d).2)
 | _,_,f,d=>([f],[d])
theorem Vl(rd:Rep R Z H d v P):∀{ns:List Str}{l:List D}{vs:List V}{O:W6},Reps R Z H l vs O->ns.length=l.length ->
  ∃ vs2 O2,Reps R Z H (Ji ns l f d).2 vs2 O2/\(Ji ns l f d).1.zip vs2=V7 f v (ns.zip vs)/\(Ji ns l f d).1.length=(Ji ns l f d).2.length/\∀ c,O2.count c<=O.count c+P.count c
 | [],[],vs,O,r,_=>by
  rw[Reps] at r;obtain⟨rfl,rfl⟩:=r;exact⟨[v],P,.one rd,rfl,rfl,λc=>by simp⟩
 | [],_::_,_,_,_,a=>by simp at a
 | _::_,[],_,_,_,a=>by simp at a
 | n::ns,x::l,vs,O,r,a=>by
  rw[Reps] at r;obtain⟨u,b,h,O2,rfl,rfl,i,g⟩:=r;rw[Ji];by_cases e:n=f
  ·rw[if_pos e];refine⟨v::b,P++O2,Reps.cons rd g,?_,a,λc=>by simp only[U7];lia⟩;rw[U6,U6,V7,if_pos e]
  ·rw[if_neg e];obtain⟨vs2,j,k,e3,m,o⟩:=Vl (f:=f) rd g ⇑a;refine⟨u::vs2,h++j,Reps.cons i k,?_,by simp[m],λc=>by have:=o c;simp only[U7];lia⟩;rw[U6,U6,V7,if_neg e,e3]
@[simp] def JI(i:Nat)(c:Nat)(f:Str)(pv:PF)(ρ:Rh):Option Out:=(pv ρ).bind λd=>(pV i ρ).bind λt=>(zL t).bind λy=>bif y.1==c&&decide (y.2.1.length<=900) then some (.nx<|ρ.set i<|some<|.ins true c (Ji y.2.1 y.2.2 f d).1 (Ji y.2.1 y.2.2 f d).2) else none
def jdr{l:List α}{m:List β}(h:decide (l.length<=900)=true):(l.zip m).length<1000:=by
 rw[List.length_zip];have:=X6 h;exact E4 (Nat.min_le_left _ _) ∅
def jjc{R:RC}{pm:List Nat}{i c:Nat}{f:Str}{tv:TE}{pv:PF}(j:Cls R.K<|R.cls c)(m:NoAttr R.K (R.cls c) f)(n:PP R tv pv):DS R pm (jmc R.K (v8 i) tv f) (JI i c f pv):=by
 intro σ ρ Z H O o w s e I k;refine ob e λd p e=>ob e λt r e=>ob e λ⟨v,ns,l⟩ e2 e=>oc e λb e=>?_;cases e;cases J3 e2;rw[L9] at b;obtain rfl:v=c:=by simpa using b.1
 refine n w.zd s p λ{u J L M} g1 x=>?_;have g:=g1.widen w;refine qw Yz g.wf (g1.slots w.zd s) r rfl ow_ins λa y N P z h A B put=>B ?_;obtain⟨C,Q,D,e3,E,F⟩:=Vl (f:=f) x z h;obtain⟨S,g3,G⟩:=put ow_ins E (Go.id g.wf.zd) D λq=>by have:=F q;simp;lia
 refine⟨a,_,y,_,rfl,A,j,m,jdr b.2,?_⟩;rw[<- e3];exact k (g.trans g3) G<|Keep.refl _ _
def jji(b:Cls X.K<|cl c)(d:NoAttr X.K (cl c) f)(a:QB cl X o to po)(e:attributeBase o f X.env (eval o X.env)=eval o X.env:=by rfl):QB cl X (.Attribute o f pos) (jdu X.K to f) (Jp c f po):=⟨uk a.sem e,jla (R:=⟨X.K,cl⟩) b d a.den⟩
def jls(b:Cls X.K<|cl c)(d:NoAttr X.K (cl c) f)(g:QB cl X (.Name x xpos) (v8 i)<|pV i)(a:QP cl X e te pe)(h:swapsWith e (some<|.Attribute (.Name x xpos) f pos') pos.line X.env=pure false:=by rfl):
  QS cl pm X (.Assign [.Attribute (.Name x xpos) f pos'] e pos) (jmc X.K (v8 i) te f) (JI i c f pe):=⟨ji4 g.sem a.sem h,jjc (R:=⟨X.K,cl⟩) b d a.den⟩
noncomputable def jjo:List Str->Str->Option Nat
 | [],_=>none
 | n::ns,f=>if f=n then some 0 else(jjo ns f).map (·+1)
theorem ua:∀{ns:List Str}{f:Str}{vs:List V}{j:Nat}{v:V},jjo ns f=some j->ns.length=vs.length->vs[j]?=some v->(ns.zip vs).lookup f=some v
 | [],_,_,_,_,h,_,_=>by cases h
 | n::ns,f,[],_,_,_,a,_=>by simp at a
 | n::ns,f,u::vs,j,v,h,a,b=>by
  rw[jjo] at h;by_cases e:f=n
  ·rw[if_pos e] at h;cases h;cases b;rw[U6,List.lookup_cons,e];simp
  ·rw[if_neg e] at h;cases hp:jjo ns f with
   | none=>rw[hp] at h;cases h
   | some i=>
    rw[hp] at h;cases h;rw[U6,List.lookup_cons,show(f==n)=false by simp[e]];exact ua hp ⇑a ⇑b
theorem KI:∀{ns:List Str}{l:List D}{vs:List V},ns.length=l.length->vs.length=l.length->JE ns l f=none->(ns.zip vs).lookup f=none
 | [],_,_,_,_,_=>rfl
 | n::ns,[],_,a,_,_=>by simp at a
 | n::ns,x::l,[],_,b,_=>by simp at b
 | n::ns,x::l,v::vs,a,b,h=>by
  rw[JE] at h;by_cases e:f=n
  ·rw[if_pos e] at h;cases h
  ·rw[if_neg e] at h;rw[U6,List.lookup_cons,show(f==n)=false by simp[e]];exact KI ⇑a ⇑b h
@[simp] def vg(m:List D->Option (D×D))(i c:Nat)(mn:Str)(p:PAf)(ρ:Rh):Option (D×Rh):=(p ρ).bind λds=>(pV i ρ).bind λt=>(zL t).bind λy=>bif y.1==c&&(frzs ds&&(JE y.2.1 y.2.2 mn).isNone) then(m<|t::ds).bind λr=>some (r.1,ρ.set i<|some r.2) else none
def jdM(h:PPs R ta p)(M:∀ ρ ds,p ρ=some ds->ds.length+1=n):DE R (ja7 (R.cls c) mn (spM R m n 0) [] E0 (v8 i) ta) (vg m i c mn p):=by
 intro σ ρ ρ' Z H O d w s e Q k;refine ob e λds E e=>ob e λy b e=>ob e λ⟨j,ns,l⟩ e3 e=>oc e λF e=>ob e λ⟨N,S⟩ e2 e=>?_;cases e;cases J3 e3;have b:=Va b;rw[L9,L9] at F;obtain⟨o,q,r⟩:=F;obtain rfl:j=c:=by simpa using o
 have hi:=(L8.mp b).1;obtain⟨A0,P0,B0,_,T,_,_⟩:=s.put hi;obtain⟨u,t,G⟩:=T _ b;rw[Rep] at G;obtain⟨a,U,vs,O',rfl,V,x,W,_⟩:=G;refine⟨.ref a,t,a,U,_,rfl,W,KI x V.length<|Option.isNone_iff_eq_none.mp r,?_⟩;refine h w.zd s E λ{X C I P1} g1 J=>?_;cases J.nil q;have f:Go Z H O C I O:=by simpa using g1.widen w
 obtain⟨A,P,B,rfl,Y,k2,_⟩:=(g1.slots w.zd s).put hi;obtain⟨u',g,rc⟩:=Y _ b;rw[t] at g;cases g;have rr:Reps R C I (.ins true j ns l::ds) (.ref a::X) P:=by
  have:=Reps.cons rc J;simpa using this
 refine⟨C,.ins true j ns l::ds,N,S,P,.ref a,f.wf.mid,by have:=M ρ ds E;simpa using this,by rw[M9];exact rr,rfl,e2,λ{v Z2 H2 P2 O2} g2 r2 D=>?_⟩;have g3:=g2.frame f.wf;have K:=Go.keepA f.wf g2;have L:=k2 D g2.zz (λa z=>g2.zH f.wf.mid a z) K.1 K.2;rw[qd t] at L;exact k (P:=P2) (f.trans g3).turn r2 L
noncomputable def jkb:D×D->Option D
 | (.non,t)=>some t
 | _=>none
@[simp] def nonOf_non(t:D):jkb (.non,t)=some t:=rfl
@[simp] def jaA(m:List D->Option (D×D))(c:Nat)(p:PAf)(ρ:Rh):Option D:=(p ρ).bind λds=>bif frzs ds then(m<|.ins true c [] []::ds).bind jkb else none
def jhR(h:PPs R ta p)(y:∀ ρ ds,p ρ=some ds->ds.length+1=n):PP R (jhx (R.cls c) (spM R m n 0) [] E0 ta) (jaA m c p):=by
 intro σ ρ Z H O d z s e Q k;refine ob e λds l e=>oc e λA e=>ob e λ⟨x,t⟩ e2 e=>?_;cases x with
 | non=>
  cases e;refine h z s l λ{G B q I} g1 r=>?_;cases r.nil A;intro x b C f g;have u:=Go.newF (o:=.own x) (wf0 g1.wf.zd) f;have i:upd q b (.own x) x=none:=by rw[jh<|λe=>g e.symm];exact C
  have D:=Go.newO (o:=.ins (R.cls c) b []) u.wf i;have g2:=u.trans D;have E:=g2.reps g1.wf.zd r;have F:Rep R (λa=>B a\/a=b) (upd (upd q b<|.own x) x<|.ins (R.cls c) b []) (.ins true c [] []) (.ref x) [x]:=by
   rw[Rep];exact⟨x,b,[],[],rfl,.empty,rfl,jA,rfl⟩
  refine⟨_,.ins true c [] []::ds,.non,d,[x],.ref x,g2.wf,by have:=y ρ ds l;simpa using this,by rw[M9];have:=Reps.cons F E;simpa using this,rfl,e2,λ{v Z3 J K L} g3 w j=>?_⟩;rw[Rep] at w;obtain⟨rfl,rfl⟩:=w;exact⟨rfl,k (by simpa using(g1.trans g2).trans g3) j⟩
 | _=>cases e
section
variable {cl:Nat->Addr}{pm:List Nat}{X:Cx}{e:Expr}{es:List Expr}{tr:TA}{pr:PAf}{pos p apos:Pos}
structure MtFact(K:W5)(C:Addr)(x qual:Str)(st:Stmt)(f:Addr)(fd:FuncData)(ps:List Str):Prop where
 fn:Fun K x qual st f fd
 mt:Meth K C x f
 bd:Binds K fd ps []
def OkM(P:Program)(w:World)(K:W5)(mg:W7)(C:Addr)(x qual:Str)(st:Stmt)(k:Nat)(ps:List Str)(sp:Sp):Prop:=∃ f fd,MtFact K C x qual st f fd ps/\∀ base,FnOk P w K mg base CX0 k f fd ps sp
def jg6{k n i c:Nat}{ps:List Str}{m:List D->Option (D×D)}{x mn qual:Str}{st:Stmt}{pl:Sem Bool}(g:Cls X.K<|cl c)(O:OkM X.prog X.w X.K X.mg (cl c) mn qual st k ps<|spM ⟨X.K,cl⟩ m n 0)(h:Room k X.A)(j:QB cl X (.Name x p) (v8 i)<|pV i)(d:QPs cl X (e::es) tr pr)(l:∀ ρ ds,pr ρ=some ds->ds.length+1=n)
  (a:starEach (e::es) X.env=(false,eval e X.env)::starEach es X.env:=by rfl) (b:(backTo pos<|starEach es X.env).any (·.1)=false:=by rfl)
  (o:eval (.Call (.Attribute (.Name x p) mn apos) (e::es) [] pos) X.env=(do
   let ov <- eval (.Name x p) X.env
   standAt apos.atName
   let (f,first) <- holding [ov] (getMethod ov mn pl)
   callWith pos f first (backTo pos<|starEach (e::es) X.env) (backToKw pos<|keywordEach [] X.env)):=by rfl):
  QE cl X (.Call (.Attribute (.Name x p) mn apos) (e::es) [] pos) (ja7 (cl c) mn (spM ⟨X.K,cl⟩ m n 0) [] E0 (v8 i) tr) (vg m i c mn pr):=by
 obtain⟨_,_,F,G⟩:=O;exact⟨jb0 j.sem g F.mt (G _) h F.bd .nil jeV d.sem a b o,jdM (R:=⟨X.K,cl⟩) d.den l⟩
def jkP{k n c:Nat}{ps:List Str}{m:List D->Option (D×D)}{x qual:Str}{st:Stmt}(f:PySem.W.makesIn X.K (cl c)=true)(g:PySem.W.keepIn X.K (.ref<|cl c)=true)(O:OkM X.prog X.w X.K X.mg (cl c) "__init__" qual st k ps<|spM ⟨X.K,cl⟩ m n 0)(h:Room (k+1) X.A)(i:X.mg x=some (.ref<|cl c))(d:QPs cl X (e::es) tr pr)(j:∀ ρ ds,pr ρ=some ds->ds.length+1=n)(l:Gl X x:=by rfl)
  (a:(x==("__debug__" : Str))=false:=by decide) (o:starEach (e::es) X.env=(false,eval e X.env)::starEach es X.env:=by rfl) (b:(backTo pos<|starEach es X.env).any (·.1)=false:=by rfl):
  QP cl X (.Call (.Name x p) (e::es) [] pos) (jhx (cl c) (spM ⟨X.K,cl⟩ m n 0) [] E0 tr) (jaA m c pr):=by
 obtain⟨_,_,F,G⟩:=O;exact⟨jg4 ⟨f,F.mt.at_,F.mt.fn,g⟩ (G _) h l i F.bd .nil jeV d.sem a o b,jhR (R:=⟨X.K,cl⟩) d.den j⟩
end
@[simp] def Yj(m:List D->Option D)(c:Nat)(mn:Str)(po:PF)(p:PAf)(ρ:Rh):Option D:=(po ρ).bind λs=>(jl8 s).bind λy=>bif y.1==c&&(JE y.2.1 y.2.2 mn).isNone then(p ρ).bind λds=>(m<|fzs<|s::ds).bind λd=>bif frzs (s::ds)||yn d then some d else none else none
def jhF(q:PB R to po)(r:PBs R ta p)(t:∀ ρ ds,p ρ=some ds->ds.length+1=n):PP R (ja7 (R.cls c) mn (spP R m n) [] E0 to ta) (Yj m c mn po p):=by
 intro σ ρ Z H O d z s e Q k;refine ob e λE u e=>ob e λ⟨v,ns,l⟩ e3 e=>oc e λf e=>ob e λds i e=>ob e λc0 e2 e=>oc e λw e=>?_;cases e;obtain⟨o,rfl⟩:=jhq e3;rw[L9] at f;obtain rfl:v=c:=by simpa using f.1
 refine q z s u λ{F G I J} g0 j=>?_;have b:=j;rw[Rep] at b;obtain⟨a,x,y,K,rfl,A,g,B,_⟩:=b;exact⟨a,x,_,rfl,B,KI g A.length<|Option.isNone_iff_eq_none.mp f.2,r g0.wf.zd (g0.slots z s) i λh C=>jcg h.wf.zd (Reps.cons (h.rep g0.wf.zd j) C) (t ρ ds i) e2 w λg2 D=>k (by simpa using(g0.pair h).pair g2) D⟩
def qW(c:Nat)(f:Str)(L:Ln)(d:D):Option (D×(D->D)):=(L d).bind λy=>(zL y.1).bind λq=>bif q.1==c then(jjo q.2.1 f).bind λj=>(q.2.2[j]?).bind λx=>some (x,λx'=>y.2<|.ins true q.1 q.2.1<|q.2.2.set j x') else none
def jiW(G:Cls R.K<|R.cls c)(I:NoAttr R.K (R.cls c) f)(h:jaI R tb i L):jaI R (jdu R.K tb f) i (qW c f L):=by
 intro σ ρ Z H O d x k s hd e;refine ob e λ⟨y,k0⟩ J e=>ob e λ⟨M,ns,l⟩ e3 e=>oc e λN e=>ob e λj Q e=>ob e λx0 e2 e=>?_;cases e;cases J3 e3;obtain rfl:M=c:=by simpa using N
 obtain⟨v,A,P,B,rfl,r,S,T⟩:=h s hd J;rw[Rep] at r;obtain⟨a,t,U,O',rfl,w,n,z,rfl⟩:=r;obtain⟨u,V,W,X,C,rfl,Y,o⟩:=w.at e2;refine⟨u,A++(a::V),W,X++B,by simp,Y,λq=>S ⟨a,_,t,_,u,rfl,z,G,I,ua Q (by rw[w.length];exact n) C,q⟩,λ{Z' H' x' P''} r' D E p F=>?_⟩;have g:=o r' D E (λb m=>p b<|by simp[m])<|λb m=>F b (by simp[m]);rw[qd C] at g;have s2:=T (ow_ins.mpr ⟨a,t,U,_,rfl,g,by rw[List.length_set];exact n,(p a<|by simp).trans z,rfl⟩) D E (λb m=>p b<|by simp[m])<|λb m=>F b (by simp[m]);simpa using s2
structure QL(cl:Nat->Addr)(X:Cx)(e:Expr)(tb:TE)(i:Nat)(L:Ln):Prop where
 sem:PE X e tb
 den:jaI ⟨X.K,cl⟩ tb i L
section
variable {cl:Nat->Addr}{pm:List Nat}{X:Cx}{o e j:Expr}{es:List Expr}{to te tb tj:TE}{po pe pj:PF}{tr:TA}{pr:PAf}{pos p apos:Pos}{L L':Ln}{i:Nat}
def jjv{k n c:Nat}{ps:List Str}{m:List D->Option D}{mn qual:Str}{st:Stmt}{pl:Sem Bool}(i:Cls X.K<|cl c)(O:OkM X.prog X.w X.K X.mg (cl c) mn qual st k ps<|spP ⟨X.K,cl⟩ m n)(j:Room k X.A)(g:QB cl X o to po)(a:QBs cl X (e::es) tr pr)(l:(e::es).length+1=n:=by rfl)
  (b:starEach (e::es) X.env=(false,eval e X.env)::starEach es X.env:=by rfl) (d:(backTo pos<|starEach es X.env).any (·.1)=false:=by rfl)
  (p:eval (.Call (.Attribute o mn apos) (e::es) [] pos) X.env=(do
   let ov <- eval o X.env
   standAt apos.atName
   let (f,first) <- holding [ov] (getMethod ov mn pl)
   callWith pos f first (backTo pos<|starEach (e::es) X.env) (backToKw pos<|keywordEach [] X.env)):=by rfl):
  QP cl X (.Call (.Attribute o mn apos) (e::es) [] pos) (ja7 (cl c) mn (spP ⟨X.K,cl⟩ m n) [] E0 to tr) (Yj m c mn po pr):=by
 obtain⟨_,_,F,G⟩:=O;exact⟨jb0 g.sem i F.mt (G _) j F.bd .nil jeV a.sem b d p,jhF (R:=⟨X.K,cl⟩) g.den a.den λρ q h=>by rw[a.n ρ q h];exact l⟩
def jjZ{x:Str}(a:QB cl X (.Name x p) (v8 i)<|pV i):QL cl X (.Name x p) (v8 i) i ve:=⟨a.sem,Yz⟩
def jjV{c:Nat}{f:Str}(a:Cls X.K<|cl c)(b:NoAttr X.K (cl c) f)(h:QL cl X o tb i L)(d:attributeBase o f X.env (eval o X.env)=eval o X.env:=by rfl):QL cl X (.Attribute o f pos) (jdu X.K tb f) i (qW c f L) :=
 ⟨uk h.sem d,jiW (R:=⟨X.K,cl⟩) a b h.den⟩
def jh0{cpos:Pos}(f:QL cl X o tb i L)(h:QP cl X e te pe)(b:attributeBase o "append" X.env (eval o X.env)=eval o X.env:=by rfl)
  (d:((backTo cpos<|starEach [e] X.env).all (λx=>!x.1)&&(backToKw cpos<|keywordEach [] X.env).all (λx=>x.1.isSome)
   && decide ([e].length+([]:List Keyword).length+(if([]:List Keyword).isEmpty then 0 else 1)<30))=true:=by rfl)
  (c:(apos.endLine==cpos.line)=true:=by rfl) (g:starEach [e] X.env=(false,eval e X.env)::starEach [] X.env:=by rfl) (a:(backTo cpos<|starEach [] X.env).any (·.1)=false:=by rfl)
  (hsw:swapsWith (.Call (.Attribute o "append" apos) [e] [] cpos) none pos.line X.env=pure false:=by rfl):
  QS cl pm X (.Expr (.Call (.Attribute o "append" apos) [e] [] cpos) pos) (V5<|tBM X.K "list" VU tb<|yj te VX) (vx i L pe) :=
 ⟨KZ (jem PySem.F.plainAttrs_list PySem.F.slot_list_append PySem.F.type_list_append VG f.sem (jK h.sem vU g) b d c g a) hsw,ja6 (R:=⟨X.K,cl⟩) f.den h.den⟩
end
def jnW(R:RC)(tk:TE)(pk:Rh->Option (List KA)):Prop:=∀{σ:L2.St}{ρ:Rh}{Z:Zn}{H:Hp}{O:W6}{k:List KA},Zd Z H->Slots R Z H ρ σ O->pk ρ=some k ->
 ∀{Q:VK},(∀{p:Addr}{Z':Zn}{H':Hp},Go Z H [] Z' H' []->Z' p->H' p=some (.tup<|(k.map kaV).map kV)->Q (.ref p) H')->tk σ H Q
structure QK3(cl:Nat->Addr)(X:Cx)(e:Expr)(tk:TE)(pk:Rh->Option (List KA)):Prop where
 sem:PE X e tk
 den:jnW ⟨X.K,cl⟩ tk pk
section
variable {R:RC}{Z Z' Z2:Zn}{H H' H2:Hp}{pm:List Nat}
def jcn(rd:Rep R Z H d v P)(a:KA)  (r:Reps R Z H l vs O) (b:ks.length=l.length) (c:a∉ks):
  Reps R Z H (qm ks l a d).2 (vs++[v]) (O++P)/\(((qm ks l a d).1).map kaV).zip (vs++[v])=vX ((ks.map kaV).zip vs) (kaV a) v/\(qm ks l a d).1.length=(qm ks l a d).2.length:=by
 have e:ks.length=vs.length:=by rw[r.length];exact b
 unfold qm vX;rw[KR a e,if_neg c,X5 c,if_neg<|λz=>(nomatch z)];refine⟨r.append<|Reps.one rd,?_,by simp[b]⟩;rw[N4,List.zip_append ⇑e];rfl
def vf(i:Nat)(L:Ln)(pk pv:PF)(ρ:Rh):Option Out:=(pv ρ).bind λd=>(pV i ρ).bind λt=>(L t).bind λy=>(jea y.1).bind λkl=>(pk ρ).bind λq=>(vT q).bind λa=>bif lim kl.1.length&&(frz d||!decide (a∈kl.1)) then some (.nx<|ρ.set i<|some<|y.2<|.dK true (qm kl.1 kl.2 a d).1 (qm kl.1 kl.2 a d).2) else none
def jeu{i:Nat}{L:Ln}{tb ty tv:TE}{pk pv:PF}(C:jaI R tb i L)(D:PB R ty pk)(E:PP R tv pv):DS R pm (xE tb ty tv) (vf i L pk pv):=by
 intro σ ρ Z H O o w s e D' k;refine ob e λd F e=>ob e λt hi e=>ob e λ⟨y,k0⟩ e3 e=>ob e λ⟨g,l⟩ G e=>ob e λq I e=>ob e λc e5 e=>oc e λv e=>?_;cases e;cases xB G;rw[L9] at v;refine E w.zd s F λ{u Z1 H1 J} g1 A=>?_;have s1:=g1.slots w.zd s;have B:=g1.widen w;refine qw C B.wf s1 hi e3 ow_dK λa _ K M N h P Q put=>Q<|D g1.wf.zd s1 I λ{z S T P2} g2 U=>?_;obtain⟨rfl,_⟩:=vw e5 U;have j:=g2.rep g1.wf.zd A;have m:=g2.reps g1.wf.zd N;have x:∃ b n,Reps R S T (qm g l c d).2 b n/\(((qm g l c d).1).map kaV).zip b=vX ((g.map kaV).zip K) (kaV c) u/\(∀ q,n.count q<=M.count q+J.count q)/\(qm g l c d).1.length=(qm g l c d).2.length:=by
  cases hf:frz d with
  | true=>
   cases A.nil hf;obtain⟨b,n,p,r,V,f⟩:=Qd j c m h;exact⟨b,n,p,r,λq=>by simpa using V.count_le q,f⟩
  | false=>
   have W:c∉g:=by
    have:=v.2;rw[hf] at this;simpa using this
   obtain⟨p,r,f⟩:=jcn j c m h W;exact⟨_,_,p,r,λq=>by rw[U7];exact M8 _,f⟩
 obtain⟨b,n,p,r,X,f⟩:=x;obtain⟨O3,g3,Y⟩:=put ow_dK f g2 p λq=>by simpa using X q
 refine⟨a,_,rfl,DPut.k (g2.at0 P)<|Y4 v.1,?_⟩;rw[<- r];exact k (B.trans g3) Y<|Keep.refl _ _
def Yv(i:Nat)(L:Ln)(c:Nat)(f:Str)(g:Int->Int->Int)(pv:PF)(ρ:Rh):Option Out:=(pV i ρ).bind λt=>(L t).bind λy=>(zL y.1).bind λq=>(JE q.2.1 q.2.2 f).bind λm=>(vD m).bind λm=>(pv ρ).bind λn=>(vD n).bind λn=>
 bif q.1==c&&decide (q.2.1.length<=900) then some (.nx<|ρ.set i<|some<|y.2<|.ins true c (Ji q.2.1 q.2.2 f<|.int<|g m n).1 (Ji q.2.1 q.2.2 f<|.int<|g m n).2) else none
def jeM{i c:Nat}{f:Str}{L:Ln}{tb tv:TE}{pv:PF}{g:Int->Int->Int}{rd:V->V->Hp->VK->Prop}(d:∀{m n:Int}{H:Hp}{Q:VK},Q (.int<|g m n) H->rd (.int m) (.int n) H Q)(B:Cls R.K<|R.cls c)(C:NoAttr R.K (R.cls c) f)(D:jaI R tb i L)(E:PB R tv pv):DS R pm (xX R.K tb tv rd f) (Yv i L c f g pv):=by
 intro σ ρ Z H O o w s e Y k;refine ob e λt hi e=>ob e λ⟨y,k0⟩ e3 e=>ob e λ⟨F,ns,l⟩ G e=>ob e λx I e=>ob e λm J e=>ob e λx' M e=>ob e λn e2 e=>oc e λh e=>?_;cases e;cases J3 G;cases j7 J;cases j7 e2;rw[L9] at h;obtain rfl:F=c:=by simpa using h.1
 refine qw (P0:=[]) D w s hi e3 ow_ins λa v vs O' z b A N put=>?_;obtain⟨mv,P3,j,p⟩:=wo z b I;obtain⟨rfl,_⟩:=p.int_of;refine N ⟨a,_,v,_,_,rfl,A,B,C,j,E w.zd s M λ{u Z2 H2 P4} g2 P=>?_⟩;obtain⟨rfl,_⟩:=P.int_of;obtain⟨S,O2,T,U,r,W⟩:=Vl (f:=f) (Rep.int_mk (i:=g m n)) (g2.reps w.zd z) b;obtain⟨O3,g3,X⟩:=put ow_ins r g2 T λq=>by simpa using W q
 refine d ⟨v,_,g2.at0 A,jdr h.2,?_⟩;rw[<- U];exact k g3 X<|Keep.refl _ _
end
section
variable {cl:Nat->Addr}{pm:List Nat}{X:Cx}{o b e:Expr}{to tb te:TE}{po pb pe:PF}{pos p fp tpos:Pos}{k i:Nat}{L:Ln}
def jdB(f:Room k X.A)(a:QL cl X o to i L)(c:QB cl X b tb pb)(d:QP cl X e te pe)(g:swapsWith e (some<|.Subscript o b pos') pos.line X.env=pure false:=by rfl):
  QS cl pm X (.Assign [.Subscript o b pos'] e pos) (xE to tb te) (vf i L pb pe):=⟨xO (V4 f) a.sem c.sem d.sem g,jeu (R:=⟨X.K,cl⟩) a.den c.den d.den⟩
def jcC(f:Room k X.A)(a:QL cl X o to i L)(c:QB cl X b tb pb)(d:QB cl X e te pe)
  (g:∀ ov iv new,augStore b ov iv new=(do holding [new,ov,iv] (setItem ov iv new);release [new,ov,iv] [];pure .next):=by intro _ _ _;rfl):
  QS cl pm X (.AugAssign (.Subscript o b tpos) .Add e pos) (jad to tb te jnP) (vG i L pb (λm n=>m+n) pe):=⟨xS (V4 f) a.sem c.sem d.sem jiU g,ub (R:=⟨X.K,cl⟩) (λq=>⟨_,_,rfl,rfl,q⟩) a.den c.den d.den⟩
def jbL(f:Room k X.A)(a:QL cl X o to i L)(c:QB cl X b tb pb)(d:QB cl X e te pe)
  (g:∀ ov iv new,augStore b ov iv new=(do holding [new,ov,iv] (setItem ov iv new);release [new,ov,iv] [];pure .next):=by intro _ _ _;rfl):
  QS cl pm X (.AugAssign (.Subscript o b tpos) .Sub e pos) (jad to tb te jlI) (vG i L pb (λm n=>m-n) pe):=⟨xS (V4 f) a.sem c.sem d.sem jcS g,ub (R:=⟨X.K,cl⟩) (λq=>⟨_,_,rfl,rfl,q⟩) a.den c.den d.den⟩
def jbZ{c:Nat}{f:Str}(d:Cls X.K<|cl c)(g:NoAttr X.K (cl c) f)(a:QL cl X o to i L)(b:QB cl X e te pe):
  QS cl pm X (.AugAssign (.Attribute o f tpos) .Sub e pos) (xX X.K to te jlI f) (Yv i L c f (λm n=>m-n) pe):=⟨jds a.sem b.sem jcS,jeM (R:=⟨X.K,cl⟩) (λq=>⟨_,_,rfl,rfl,q⟩) d g a.den b.den⟩
end
namespace QK
def fld{K:W5}{cl:Nat->Addr}{X:Cx}{o:Expr}{to:TE}{po:PF}{pos:Pos}{c:Nat}{f:Str}(a:X.K=K)(b:Cls X.K<|cl c)(d:NoAttr X.K (cl c) f)(e:QB cl X o to po)(g:attributeBase o f X.env (eval o X.env)=eval o X.env:=by rfl):QB cl X (.Attribute o f pos) (jdu K to f) (Jp c f po):=by subst a;exact jji b d e g
end QK
section
variable {R:RC}{Z Z':Zn}{H H':Hp}{pm:List Nat}
def VD(m:List D->Option (D×D))(i:Nat)(L:Ln)(p:PAf)(ρ:Rh):Option (D×Rh):=(pV i ρ).bind λt=>(L t).bind λy=>(p ρ).bind λds=>bif frzs ds then(m<|y.1::ds).bind λr=>some (r.1,ρ.set i<|some<|y.2 r.2) else none
def jda(q:jaI R tb i L)(u:PPs R tr p)(x:∀ ρ ds,p ρ=some ds->ds.length+1=n):DE R (Qx (spM R m n 0) [] E0<|yj tb tr) (VD m i L p):=by
 intro σ ρ T Z H O d w s e Q k;refine ob e λt hi e=>ob e λ⟨y,U⟩ e3 e=>ob e λds g e=>oc e λC e=>ob e λ⟨D,E⟩ e2 e=>?_;cases e;obtain⟨v,A,P,B,rfl,r,F,G⟩:=q s (Va hi) e3;refine F ?_;refine u w.zd s g λ{I c j V} g1 l=>?_;cases l.nil C;have b:Go Z H (A++P++B) c j (A++P++B):=by simpa using g1.widen w
 have J:=g1.rep w.zd r;have K:Reps R c j (y::ds) (v::I) P:=by
  have:=Reps.cons J l;simpa using this
 refine⟨c,y::ds,D,E,P,v,b.wf.mid,by have:=x ρ ds g;simpa using this,by rw[M9];exact K,rfl,e2,λ{W X Y M O2} g2 N f=>?_⟩;have g3:=g2.frame b.wf;have o:=Go.keepA b.wf g2;have S:=G f (λa z=>g2.zz a<|g1.zz a z) (λa z=>(g2.zH b.wf.mid a<|g1.zz a z).trans (g1.same a<|w.zd a z)) (λa h=>(o.1 a h).trans (g1.same a<|w.od a<|by simp[h]))<|λa h=>(o.2 a h).trans (g1.same a<|w.od a<|by simp[h]);exact k (P:=M) (b.trans g3).turn N S
def jeI(i:Nat)(pa pb:PF)(g:Int->Int->Int)(pv:PF):FS:=λρ=>(pV i ρ).bind λx=>(jfl x).bind λp=>(jaU pa pb ρ).bind λa=>(Qz p.1 p.2 a).bind λy=>(vD y).bind λm=>(pv ρ).bind λz=>(vD z).bind λn=>
 bif lim p.1.length then some (.nx<|ρ.set i<|some<|.dT true (V6 p.1 p.2 a<|.int<|g m n).1 (V6 p.1 p.2 a<|.int<|g m n).2) else none
def jhv{i:Nat}{ta tb tv:TE}{pa pb pv:PF}{g:Int->Int->Int}{rd:V->V->Hp->VK->Prop}(j:∀{m n:Int}{H:Hp}{Q:VK},Q (.int<|g m n) H->rd (.int m) (.int n) H Q)(E:PB R ta pa)(F:PB R tb pb)(G:PB R tv pv):DS R pm (jad (v8 i) (jbe ta tb) tv rd) (jeI i pa pb g pv):=by
 intro σ ρ Z H O o w s e X k;refine ob e λx I e=>ob e λ⟨Y,l⟩ J e=>ob e λc e2 e=>ob e λy e3 e=>ob e λm K e=>ob e λz L e=>ob e λn M e=>oc e λf e=>?_;cases e;cases wm J;cases j7 K;cases j7 M;refine qw (P0:=[]) Yz w s I rfl jat λa _ vs O' B h C N put=>N<|JG E F w.zd s e2 λ{b Z2 H2} g2 zb D=>?_;obtain⟨mv,P3,p,r⟩:=(YW (a:=c) B h).1 _ e3;obtain⟨rfl,_⟩:=r.int_of;refine⟨a,.int m,rfl,by rw[<- p];exact DGet.t (g2.at0 C) D,G g2.wf.zd (g2.slots w.zd s) L λ{u Z3 H3 P4} g3 P=>?_⟩;obtain⟨rfl,_⟩:=P.int_of;have d:=g2.trans g3;obtain⟨S,O2,v,T,U,A⟩:=YR (Rep.int_mk (i:=g m n)) c (d.reps w.zd B) h;obtain⟨O3,g4,W⟩:=put jat A d v λq=>by simpa using U.count_le q
 refine j ⟨_,DPut.t (d.at0 C) (g3.at0 D)<|Y4 f,?_⟩;rw[<- T];exact k g4 W<|Keep.refl _ _
end
section
variable {cl:Nat->Addr}{pm:List Nat}{X:Cx}{o e:Expr}{es:List Expr}{to te:TE}{po pe:PF}{tr:TA}{pr:PAf}{pos p:Pos}{i:Nat}{L:Ln}
def jeK{k n:Nat}{ps:List Str}{m:List D->Option (D×D)}{x:Str}{st:Stmt}(O:OkF X.prog X.w X.K X.mg x st k ps<|spM ⟨X.K,cl⟩ m n 0)(f:Room k X.A)
  (c:QL cl X o to i L) (d:QPs cl X es tr pr) (g:∀ ρ ds,pr ρ=some ds->ds.length+1=n) (h:Gl X x:=by rfl) (a:(x==("__debug__" : Str))=false:=by decide)
  (e:starEach (o::es) X.env=(false,eval o X.env)::starEach es X.env:=by rfl) (b:(backTo pos<|starEach es X.env).any (·.1)=false:=by rfl):QE cl X (.Call (.Name x p) (o::es) [] pos) (Qx (spM ⟨X.K,cl⟩ m n 0) [] E0<|yj to tr) (VD m i L pr):=by
 obtain⟨_,_,F,G⟩:=O;exact⟨jg7 F (G _) f (jK c.sem d.sem e) h a e b,jda (R:=⟨X.K,cl⟩) c.den d.den g⟩
def jeN{a b:Expr}{ta tb:TE}{pa pb:PF}{x:Str}{x1}{k:Nat}{c kpos tpos:Pos}(h:Room k X.A)(j:QB cl X (.Name x c) (v8 i)<|pV i)(d:QB cl X a ta pa)(f:QB cl X b tb pb)(g:QB cl X e te pe)
  (l:∀ ov iv new,augStore (.Tuple [a,b] x1 kpos) ov iv new=(do holding [new,ov,iv] (setItem ov iv new);release [new,ov,iv] [];pure .next):=by intro _ _ _;rfl)
  (h1:starEach [a,b] X.env=(false,eval a X.env)::starEach [b] X.env:=by rfl) (h2:starEach [b] X.env=(false,eval b X.env)::starEach [] X.env:=by rfl):
  QS cl pm X (.AugAssign (.Subscript (.Name x c) (.Tuple [a,b] x1 kpos) tpos) .Sub e pos) (jad (v8 i) (jbe ta tb) te jlI) (jeI i pa pb (λm n=>m-n) pe) :=
 ⟨xS (V4 h) j.sem (Jn<|jK d.sem (jK f.sem vU h2) h1) g.sem jcS l,jhv (R:=⟨X.K,cl⟩) (λq=>⟨_,_,rfl,rfl,q⟩) d.den f.den g.den⟩
def jeC(e:Room k X.A)(c:QB cl X a ta pa)(d:QB cl X b tb pb)(f:behindInMarks .NotIn b=false:=by with_unfolding_all rfl):QP cl X (.Compare a [.NotIn] [b] pos) (Qu ta tb) (p2 (x6 true) pa pb) :=
 ⟨jjK (jdk (V4 e) c.sem d.sem) f,jaW c.den d.den⟩
end
section
variable {R:RC}{Z Z':Zn}{H H':Hp}{pm:List Nat}
def KQ(K:W5):List V->Hp->VK->Prop:=(λxs H Q=>∃(p:Addr) (ys:List V) (ps:List<|List Key×Addr×V),xs=[.ref p]/\SqL K H p ys/\ys.length=ps.length/\ps.length<=100000 /\
  (∀(j:Nat) (y:V),ys[j]?=some y->∃ kv t,ps[j]?=some kv/\y=.ref t/\SqT K H t [.ref kv.2.1,kv.2.2]/\H kv.2.1=some (.tup<|kv.1.map kV))/\∀ D,H D=none->Q (.ref D) (upd H D<|.dT<|ps.foldl (λa kv=>vX a kv.1 kv.2.2) []))
def PK(R:RC)(te:TE)(pk:Rh->Option (List KA))(pv:PF):Prop:=∀{σ:L2.St}{ρ:Rh}{Z:Zn}{H:Hp}{O:W6}{c:List KA}{d:D},Zd Z H->Slots R Z H ρ σ O->pk ρ=some c->pv ρ=some d->frz d=true ->
 ∀{Q:VK},(∀{t b:Addr}{u:V}{Z':Zn}{H':Hp},Go Z H [] Z' H' []->Z' t->Z' b->H' t=some (.tup [.ref b,u])->H' b=some (.tup<|(c.map kaV).map kV)->Rep R Z' H' d u []->Q (.ref t) H')->te σ H Q
def jl0{ta tb tv:TE}{pa pb pv:PF}(o:PB R ta pa)(p:PB R tb pb)(q:PB R tv pv):PK R (wO<|yj (jbe ta tb)<|yj tv VX) (jaU pa pb) pv:=by
 intro σ ρ Z H O c d z s r e2 v Q k;unfold wO yj;refine JG o p z s r λ{b x y} g1 w j=>?_;refine q g1.wf.zd (g1.slots z s) e2 λ{u l g A} g2 m=>?_;cases m.nil v;refine⟨by show 2<=sizeLine;decide,λt n=>?_⟩;have i:=g1.trans g2;have f:g b=some (.tup<|(c.map kaV).map kV):=by rw[g2.same b<|by rw[j];exact λz=>(nomatch z)];exact j
 have gN:Go l g [] (λa=>l a\/a=t) (upd g t<|.tup [.ref b,u]) []:=Go.newF (wf0 g2.wf.zd) n;have ne:∀ a,g a≠none->a≠t:=λa h e=>h<|e▸n;refine k (i.trans gN) (.inr rfl) (.inl<|g2.zz b w) jA ?_<|gN.rep g2.wf.zd m;rw[jh<|ne b<|by rw[f];exact λz=>(nomatch z)];exact f
def zQ(g:D->Rh->Option Rh)(q:PTf)(pk:Rh->Option (List KA))(pv:PF):List D->Rh->Option (List<|List KA×D)
 | [],_=>some []
 | x::xs,ρ=>(g x ρ).bind λρ1=>(q ρ1).bind λb=>bif b then(pk ρ1).bind λc=>(pv ρ1).bind λd=>bif frz d then(zQ g q pk pv xs ρ1).bind λr=>some ((c,d)::r) else none else zQ g q pk pv xs ρ1
def jgQ(ps:List<|List KA×D):List (List KA)×List D:=ps.foldl (λacc kv=>V6 acc.1 acc.2 kv.1 kv.2) ([],[])
@[simp] def wK(pi:PAf)(g:D->Rh->Option Rh)(q:PTf)(pk:Rh->Option (List KA))(pv:PF)(ix:List<|Option Nat)(ρ:Rh):Option D:=(pi ρ).bind λxs=>bif lim xs.length then(zQ g q pk pv xs<|jO ix ρ).bind λall=>some (.dT true (jgQ all).1 (jgQ all).2) else none
structure KvAt(R:RC)(Z:Zn)(H:Hp)(ys:List<|List KA×D)(vs:List V)(ps:List<|List Key×Addr×V):Prop where
 l:vs.length=ps.length
 i:∀(j:Nat) (v:V),vs[j]?=some v->∃ kv t,ps[j]?=some kv/\v=.ref t/\H t=some (.tup [.ref kv.2.1,kv.2.2])/\H kv.2.1=some (.tup<|kv.1.map kV)
 k:ps.map (·.1)=ys.map λy=>y.1.map kaV
 r:Reps R Z H (ys.map (·.2)) (ps.map (·.2.2)) []
def KvAt.mono(h:KvAt R Z H ys vs ps)(zz:∀ a,Z a->Z' a)(e:∀ a,Z a->H' a=H a)(th:∀ a xs,H a=some (.tup xs)->H' a=some (.tup xs)):KvAt R Z' H' ys vs ps :=
 ⟨h.l,λj v f=>by obtain⟨g,t,a,b,c,d⟩:=h.i j v f;exact⟨g,t,a,b,th _ _ c,th _ _ d⟩,h.k,h.r.frame zz e λa m=>(nomatch m)⟩
def KvAt.snoc(h:KvAt R Z H ys vs ps)  (m:H t=some (.tup [.ref b,u])) (n:H b=some (.tup<|(c.map kaV).map kV)) (r:Rep R Z H d u []):
  KvAt R Z H (ys++[(c,d)]) (vs++[.ref t]) (ps++[(c.map kaV,b,u)]):=by
 refine⟨by simp[h.l],λj v e=>?_,by simp[h.k],?_⟩
 ·by_cases g:j<vs.length
  ·rw[List.getElem?_append_left g] at e;obtain⟨o,p,a,b',q,s⟩:=h.i j v e;exact⟨o,p,by rw[List.getElem?_append_left<|by rw[<- h.l];exact g];exact a,b',q,s⟩
  ·have f:=(L8.mp e).1;have:j=vs.length:=by simp at f;lia
   subst this;rw[List.getElem?_concat_length] at e;cases e;exact⟨(c.map kaV,b,u),t,by rw[h.l,List.getElem?_concat_length],rfl,m,n⟩
 ·rw[N4,N4];have:=h.r.append<|Reps.one r;simpa using this
inductive CpK (R:RC) (g:D->Rh->Option Rh) (q:PTf) (pk:Rh->Option (List KA)) (pv:PF) (Z0:Zn) (H0:Hp) (a:Addr) (xs:List D) (all:List<|List KA×D) (i m:Nat) (σ2:L2.St) (H2:Hp):Prop
 | mk:m=xs.length-i->i<=xs.length->∀(ρ2:Rh) (Z2:Zn) (O2:W6) (ys:List (List KA×D)) (vs:List V) (ps:List (List Key×Addr×V)) (rest:List (List KA×D)),Go Z0 H0 [] Z2 H2 [a]->H2 a=some (.lst vs)->KvAt R Z2 H2 ys vs ps->(∀ b∈O2,b≠a)->Slots R Z2 H2 ρ2 σ2 O2->zQ g q pk pv (xs.drop i) ρ2=some rest->all=ys++rest->ys.length<=i->CpK R g q pk pv Z0 H0 a xs all i m σ2 H2
def jaf{tg:TG}{tc:TT}{te:TE}{g:D->Rh->Option Rh}{q:PTf}{pk:Rh->Option (List KA)}{pv:PF}{ix:List (Option Nat)}(hg:PGt R [] tg g)(hq:PTt R tc q)(he:PK R te pk pv)
  {J:It}{r:Zn}{o:Hp}{ρ:Rh}{σ:L2.St}{O:W6}{xs:List D}{all:List (List KA×D)}(H:Zd r o) (s:Slots R r o ρ σ O) (it:ItB R J r o xs) (hl:lim xs.length=true) (e2:zQ g q pk pv xs (jO ix ρ)=some all)
  {Q:VK}(k:∀{a:Addr}{Z':Zn}{H':Hp}{vs:List V}{ps:List (List Key×Addr×V)},Go r o [] Z' H' [a]->H' a=some (.lst vs)->KvAt R Z' H' all vs ps->all.length<=xs.length->Q (.ref a) H'):∀ a,o a=none->wJ tc te tg J a (va ix σ) (upd o a<|.lst []) λH2=>Q (.ref a) H2:=by
 intro a ha;obtain⟨Oi,si⟩:=Jt s ix;have gp:Go r o [] r (upd o a<|.lst []) [a]:=Go.newO (wf0 H) ha;refine⟨CpK R g q pk pv r o a xs all,
  ⟨xs.length,rfl,U4 _,_,r,Oi,[],[],[],all,gp,jA,⟨rfl,λj v hv=>by simp at hv,rfl,Reps.empty⟩,λb w e=>si.dom b w<|e▸ha,gp.slots H si,e2,rfl,M8 _⟩,?_⟩
 rintro i m σ2 H2 ⟨rfl,X,ρ2,Z2,O2,S,vs,ps,rest,g2,I,K,Y,s2,e3,T,C⟩;have L:=it (Z1:=Z2) (H1:=H2) g2.zz (λb z=>g2.same b z) g2.wf.zd i;by_cases E:i<xs.length
 ·right
  have G:xs[i]?=some xs[i]:=by simp[E]
  obtain⟨go,yl⟩:=L.2 _ G;refine⟨go,λu H3 hy=>?_⟩;obtain⟨Z3,g3,r3⟩:=yl u H3 hy;rw[JZ G] at e3;unfold zQ at e3;refine ob e3 λρ3 e5 e3=>?_;refine hg r3 (g3.slots g2.wf.zd s2) e5 λ{σ4 O4} sub nd U _=>?_;refine ob e3 λb e6 e3=>?_;refine hq g3.wf.zd U e6 λ{Z5 H5} M=>?_;have h:=g3.pair M;cases b with
  | true=>
   refine jfW ?_;rw[cond_true] at e3;refine ob e3 λc e7 e3=>ob e3 λd e8 e3=>oc e3 λhf e3=>ob e3 λZ e9 e3=>?_;cases e3;refine he M.wf.zd (M.slots g3.wf.zd U) e7 e8 hf λ{t b u F y} g6 zt zb et eb r6=>?_;have p:Go Z2 H2 [] F y []:=by simpa using h.pair g6
   have N:y a=some (.lst vs):=by rw[p.same a<|by rw[I];exact λz=>(nomatch z)];exact I
   have ry6:KvAt R F y S vs ps:=K.mono p.zz (λx G=>p.same x<|g2.wf.zd x G) λx zs ex=>by rw[p.same x<|by rw[ex];exact λz=>(nomatch z)];exact ex
   have hvl:vs.length<sizeLine:=by
    have h1:=congrArg List.length K.k;rw[L0,L0] at h1;rw[K.l,h1];exact wS (n:=S.length)<|X4<|N6 C<|N6 X<|X6 hl
   have W:Go r o [] F y [a]:=by
    have f:=p.frame (A:=[a]) (B:=[]) ⇑g2.wf;exact g2.trans ⇑f
   have w6:=W.wf;have gB:Go F y [a] F (upd y a<|.lst<|vs++[.ref t]) [a]:=Go.put w6 L6;have P:∀ b,F b->upd y a (.lst<|vs++[.ref t]) b=y b:=λb w=>jh λz=>w6.nz a L6<|z▸w;refine⟨vs,N,hvl,xs.length-(i+1),by lia,rfl,E,ρ3,F,O4,S++[(c,d)],vs++[.ref t],ps++[(c.map kaV,b,u)],Z,W.trans gB,jA,?_,λb w=>Y b<|sub b w,?_,e9,by rw[T];simp,by rw[N3];exact Nat.add_le_add_right C 1⟩
   ·exact(ry6.snoc et eb r6).mono (λ_ z=>z) P λx zs ex=>by rw[jh<|λz=>by rw[z,N] at ex;cases ex];exact ex
   ·exact((M.pair g6).slots g3.wf.zd U).frame (λb z=>z) P λb w=>jh<|Y b<|sub b w
  | false=>
   refine jfm ?_;rw[cond_false] at e3;have W:Go r o [] Z5 H5 [a]:=by
    have f:=h.frame (A:=[a]) (B:=[]) ⇑g2.wf;exact g2.trans ⇑f
   exact⟨xs.length-(i+1),by lia,rfl,E,ρ3,Z5,O4,S,vs,ps,rest,W,by rw[h.same a<|by rw[I];exact λz=>(nomatch z)];exact I,K.mono h.zz (λx G=>h.same x<|g2.wf.zd x G)<|λx zs ex=>by rw[h.same x<|by rw[ex];exact λz=>(nomatch z)];exact ex,λb w=>Y b<|sub b w,M.slots g3.wf.zd U,e3,T,Nat.le_succ_of_le C⟩
 ·left
  have hi2:i=xs.length:=by lia
  refine⟨L.1 ∅,?_⟩;rw[hi2,List.drop_length] at e3;cases e3;rw[M9] at T;subst T;exact k g2 I K ∅
theorem zU:∀{ps:List (List KA×D)}{ws:List (List Key×Addr×V)}{ks:List (List KA)}{l:List D}{us:List V},ws.map (·.1)=ps.map (λy=>y.1.map kaV)->Reps R Z H (ps.map (·.2)) (ws.map (·.2.2)) []->Reps R Z H l us []->ks.length=l.length ->
  ∃ us',Reps R Z H (ps.foldl (λacc kv=>V6 acc.1 acc.2 kv.1 kv.2) (ks,l)).2 us' []/\(((ps.foldl (λacc kv=>V6 acc.1 acc.2 kv.1 kv.2) (ks,l)).1).map (List.map kaV)).zip us'=(ws.foldl (λa kv=>vX a kv.1 kv.2.2)<|(ks.map<|List.map kaV).zip us) /\
   (ps.foldl (λacc kv=>V6 acc.1 acc.2 kv.1 kv.2) (ks,l)).1.length=(ps.foldl (λacc kv=>V6 acc.1 acc.2 kv.1 kv.2) (ks,l)).2.length
 | [],[],ks,l,us,_,_,r,c=>⟨us,r,by simp,c⟩
 | [],w::ws,ks,l,us,h,_,_,_=>by simp at h
 | p::ps,[],ks,l,us,h,_,_,_=>by simp at h
 | p::ps,w::ws,ks,l,us,j,b,r,c=>by
  rw[L4,L4,Reps] at b;obtain⟨v,k,A,B,m,e,n,o⟩:=b;obtain⟨rfl,rfl⟩:=List.append_eq_nil_iff.mp e.symm;obtain⟨rfl,rfl⟩:=List.cons.inj m;rw[L4,L4] at j;obtain⟨d,f⟩:=List.cons.inj j;obtain⟨q,s,t,e3,u,g⟩:=YR n p.1 r c;have:s=[]:=List.sublist_nil.mp u;subst this;obtain⟨us',x,z,i⟩:=zU (ps:=ps) f o t g;refine⟨us',x,?_,i⟩;rw[U9,U9,z,e3,d]
def jdP{wi:TI}{tg:TG}{tc:TT}{te:TE}{pi:PAf}{g:D->Rh->Option Rh}{q:PTf}{pk:Rh->Option (List KA)}{pv:PF}{ix:List (Option Nat)}(hi:jjC R wi pi)(E:PGt R [] tg g)(F:PTt R tc q)(G:PK R te pk pv):
  PP R (tCB (KQ R.K)<|yj (wd wi tg tc te ix) VX) (wK pi g q pk pv ix):=by
 intro σ ρ Z H O d z s e Q k;rw[wK] at e;refine ob e λxs I e=>oc e λB e=>ob e λall e2 e=>?_;cases e;unfold tCB yj;refine hi z s I λ{J L M} g0 N=>?_;refine jaf (Q:=λv f=>KQ R.K [v] f Q) E F G g0.wf.zd (g0.slots z s) N B e2 λ{a P f S m} g1 T c n=>?_;obtain⟨o,U,V,p⟩:=zU (ps:=all) (ks:=[]) (l:=[]) (us:=[]) c.k c.r .empty rfl;have u:m.length=all.length:=by have:=congrArg List.length c.k;simpa using this
 refine⟨a,S,m,rfl,SqL.of T,c.l,?_,λj y W=>?_,λD C=>?_⟩
 ·rw[u];exact N6 n<|X6 B
 ·obtain⟨w,t,e5,X,Y,e8⟩:=c.i j y W;exact⟨w,t,e5,X,SqT.of Y,e8⟩
 ·have A:Go L M [] P f []:=g1.drop (λ_ h=>(nomatch h)) List.nodup_nil;refine k ((g0.trans A).trans (Go.newO (wf0 g1.wf.zd) C)) ?_;have ne:∀ b,f b≠none->b≠D:=λb h e=>h<|e▸C;rw[Rep];refine⟨D,o,[],rfl,U.frame (λa z=>z) (λb h=>jh<|ne b<|g1.wf.zd b h)<|λa h=>(nomatch h),p,?_,rfl⟩;rw[jA];exact congrArg (λx=>some<|HO.dT x) V.symm
end
section
variable {cl:Nat->Addr}{pm:List Nat}{X:Cx}{tg iter elt:Expr}{ifs:List Expr}{wi:TI}{pi:PAf}{t:TG}{g:D->Rh->Option Rh}{te:TE}{pk:Rh->Option (List KA)}{pv:PF}{pos cpos p:Pos}
structure QKv(cl:Nat->Addr)(X:Cx)(e:Expr)(te:TE)(pk:Rh->Option (List KA))(pv:PF):Prop where
 sem:PE X e te
 den:PK ⟨X.K,cl⟩ te pk pv
def qkv{a b v:Expr}{ta tb tv:TE}{pa pb pv:PF}{x1 x2}{p1 p2:Pos}(c:QB cl X a ta pa)(d:QB cl X b tb pb)(e:QB cl X v tv pv)
  (h1:starEach [a,b] X.env=(false,eval a X.env)::starEach [b] X.env:=by rfl) (h2:starEach [b] X.env=(false,eval b X.env)::starEach [] X.env:=by rfl)
  (f:starEach [.Tuple [a,b] x1 p1,v] X.env=(false,eval (.Tuple [a,b] x1 p1) X.env)::starEach [v] X.env:=by rfl) (g:starEach [v] X.env=(false,eval v X.env)::starEach [] X.env:=by rfl):
  QKv cl X (.Tuple [.Tuple [a,b] x1 p1,v] x2 p2) (wO<|yj (jbe ta tb)<|yj tv VX) (jaU pa pb) pv :=
 ⟨Jn<|jK (Jn<|jK c.sem (jK d.sem vU h2) h1) (jK e.sem vU g) f,jl0 (R:=⟨X.K,cl⟩) c.den d.den e.den⟩
def jih{k:Nat}{scope:Scope}{N':List Str}{ix:List (Option Nat)}{a:TT}{f:PTf}(l:Room k X.A)(m:X.mg "dict" = none)(n:bootBuiltins "dict" = some (.type "dict"))(B:BlockOk X scope N' ix)(h:X.calm=true)(hi:QIb cl X tg iter wi pi)
  (i:∀ C s H fp,QG cl [] (yO X scope N' C s H fp) tg t g) (b:∀ C s H fp,QIf cl (yO X scope N' C s H fp) ifs a f) (j:∀ C s H fp,QKv cl (yO X scope N' C s H fp) elt te pk pv)
  (d:Gl X "dict":=by rfl) (o:∀ x,foldedSetIterable iter X.env x=pure x:=by intro _;rfl)
  (c:starEach [.ListComp elt [⟨tg,iter,ifs,0⟩] scope cpos] X.env=(false,eval (.ListComp elt [⟨tg,iter,ifs,0⟩] scope cpos) X.env)::starEach [] X.env:=by rfl) (e:(backTo pos<|starEach [] X.env).any (·.1)=false:=by rfl):
  QP cl X (.Call (.Name "dict" p) [.ListComp elt [⟨tg,iter,ifs,0⟩] scope cpos] [] pos) (tCB (KQ X.K)<|yj (wd wi t a te ix) VX) (wK pi g f pk pv ix) :=
 ⟨zW (r:=KQ X.K) (xF h<|by have:=l.un;lia) d m n (jK (jba B h hi.sem (λC s H fp=>(i C s H fp).sem) (λC s H fp=>(b C s H fp).sem) (λC s H fp=>(j C s H fp).sem) o) vU c) (by decide) (by decide) c e,
  jdP (R:=⟨X.K,cl⟩) hi.den (i 0 X.s₀ X.H₀ []).den (b 0 X.s₀ X.H₀ []).den (j 0 X.s₀ X.H₀ []).den⟩
end
end QD
namespace L2
open PySem PySem.Spec PyProof.Rows
def jc8(h:Vals ys its):Vals (VZ lt ys .non) (VZ lt its Value.none):=by
 have b:=h.length;unfold VZ;rw[<- b];split
 ·exact h
 ·generalize(kEv lt<|PySem.W.kas_sort ys.length).toList=l;have get:∀(ys:List V) (its:List Value),Vals ys its->∀ i,RelV (ys.getD i .non) (its.getD i Value.none):=by
   intro ys its h
   induction h with
   | nil=>intro i;simp;rfl
   | cons c _ a=>
    intro i;cases i with
    | zero=>exact c
    | succ i=>exact a i
  induction l with
  | nil=>exact .nil
  | cons i l a=>exact .cons (get ys its h i) a
def jcZ(K:W5):List V->Hp->VK->Prop:=λxs H Q=>∃(p:Addr) (ys:List V) (rs:List jb5),xs=[.ref p]/\SqL K H p ys/\ys.length=rs.length/\ys.length<64 /\
 (∀(j:Nat) (y:V),ys[j]?=some y->∃ r t,rs[j]?=some r/\y=.ref t/\SqT K H t [.str r.1,.str r.2.1,.int r.2.2])/\∀ D,H D=none->Q (.ref D) (upd H D<|.lst<|VZ (λi j=>zT (rs.getD i ("","",0))<|rs.getD j ("","",0)) ys .non)
def je9(h:Vals ys its):∀(j:Nat) (v:Value),its[j]?=some v->∃ y,ys[j]?=some y/\RelV y v:=by
 induction h with
 | nil=>intro j v e;simp at e
 | @cons y u ys c a _ b=>
  intro j v e;cases j with
  | zero=>cases e;exact⟨y,rfl,a⟩
  | succ j=>exact b j v ⇑e
def Q4:JJ X (.builtin "sorted") (jcZ X.K):=by
 intro B s σ H xs us Q I r h;obtain⟨p,C,d,rfl,E,hl,hz,F,q⟩:=h;obtain⟨u,rfl,G⟩:=r.one;cases G;obtain⟨b,f,⟨o,n,e,g,J,k⟩,_⟩:=I.list E;have L:b.length=C.length:=f.length.symm;refine YF (rs:=d) (vs:=b) ⟨o,e,g,n,k⟩ ∅ ∅ (λj v M=>?_) λh' c N O=>?_
 ·obtain⟨y,P,R⟩:=je9 f j v M;obtain⟨r,t,S,rfl,l⟩:=F j y P;cases(show v=Value.ref t from R);obtain⟨D,T,⟨U,e2,m,V,w⟩,_⟩:=I.tuple l;cases T with
  | cons W Y=>
   cases Y with
   | cons Z k4=>
    cases k4 with
    | cons k5 k6=>
     cases k6;rename_i v1 v2 v3;obtain⟨t1,rfl⟩:=(show ∃ t1,v1=Value.str r.1 t1 from W);obtain⟨x,rfl⟩:=(show ∃ x,v2=Value.str r.2.1 x from Z);obtain⟨z,rfl⟩:=(show ∃ z,v3=Value.int r.2.2 z from k5);exact⟨r,S,t,U,V,t1,x,z,rfl,e2,m,w⟩
 ·have A:=I.hok.fresh<|Nat.le_succ ↥s;refine⟨.ref<|↥s+1,_,I.laid (a:=↥s+1) (o:=.lst<|VZ (λi j=>zT (d.getD i ("","",0))<|d.getD j ("","",0)) C .non) (t':=s.toks) N (Nat.le_succ _) ⟨?_,_,c,jc8 f,O⟩,rfl,q _ A⟩;rw[w8];have:sizeLine=16777216:=by decide
  lia
end L2
namespace QD
open PySem L2 PySem.Spec PyProof.Rows
noncomputable def jgA:D->Option (List Nat)
 | .str s=>some s
 | _=>none
def uv{d:D}{n:List Nat}(h:jgA d=some n):d=.str n:=by cases d<;>cases h<;>rfl
noncomputable def jm6:List D->Option (D×D×D)
 | [x,y,z]=>some (x,y,z)
 | _=>none
def jcI{l:List D}{p:D×D×D}(h:jm6 l=some p):l=[p.1,p.2.1,p.2.2]:=by
 match l with
 | [_,_,_]=>cases h;rfl
def jnS(d:D):Option jb5:=(jfg d).bind λt=>(jm6 t).bind λp=>(jgA p.1).bind λa=>(jgA p.2.1).bind λb=>(vD p.2.2).bind λn=>some (S a,S b,n)
def jaL:List D->Option (List jb5)
 | []=>some []
 | d::l=>(jnS d).bind λx=>(jaL l).bind λr=>some<|x::r
def zN(rs:List jb5)(l:List D):List D:=VZ (λi j=>zT (rs.getD i ("","",0))<|rs.getD j ("","",0)) l .non
def Y3:List D->Option D
 | [.lst _ l]=>(jaL l).bind λrs=>bif decide (l.length<64) then some (.lst true<|zN rs l) else none
 | _=>none
@[simp] def fSorted_e(o:Bool)(l:List D):Y3 [.lst o l]=(jaL l).bind λrs=>bif decide (l.length<64) then some (.lst true<|zN rs l) else none:=rfl
theorem zi:∀{l:List D}{rs:List jb5}{ys:List V}{O:W6},jaL l=some rs->Reps R Z H l ys O->O=[]/\ys.length=rs.length/\∀(j:Nat) (y:V),ys[j]?=some y->∃ r t,rs[j]?=some r/\y=.ref t/\SqT R.K H t [.str r.1,.str r.2.1,.int r.2.2]
 | [],rs,ys,O,e,r=>by
  cases e;rw[Reps] at r;obtain⟨rfl,rfl⟩:=r;exact⟨rfl,rfl,λj y g=>by simp at g⟩
 | d::l,rs,ys,O,e,r=>by
  refine ob e λx c e=>ob e λk e2 e=>ob c λt m c=>ob c λq o c=>ob c λa p c=>ob c λb s c=>ob c λn u c=>?_;cases e;cases c;rw[Reps,uq m,jcI o,uv p,uv s,j7 u] at r;obtain⟨J,v,L,M,rfl,rfl,h,w⟩:=r;obtain⟨rfl,z,q⟩:=zi e2 w;have A:=h.nil (by rfl);subst A;rw[Rep] at h;obtain⟨t,N,rfl,B,f⟩:=h;rw[Reps] at f;obtain⟨P,C,Q,T,rfl,U,E,i⟩:=f;obtain⟨W,X,Y,P4,rfl,F,G,I⟩:=i.two_of;obtain⟨rfl,_⟩:=E.str_of;obtain⟨rfl,_⟩:=G.str_of;obtain⟨rfl,_⟩:=I.int_of;refine⟨rfl,by simp[z],λj y g=>?_⟩;cases j with
  | zero=>cases g;exact⟨(S a,S b,n),t,rfl,rfl,B.sq⟩
  | succ j=>exact q j y ⇑g
def jbY(r:Reps R Z H l vs [])(a:List Nat):Reps R Z H (a.map λi=>l.getD i .non) (a.map λi=>vs.getD i .non) []:=by
 have get:∀(l:List D) (vs:List V),Reps R Z H l vs []->∀ i,Rep R Z H (l.getD i .non) (vs.getD i .non) []:=by
  intro l
  induction l with
  | nil=>
   intro vs r i;rw[Reps] at r;obtain⟨rfl,_⟩:=r;simp;exact .non_mk
  | cons d l b=>
   intro vs r i;rw[Reps] at r;obtain⟨v,c,h,j,rfl,e,f,g⟩:=r;obtain⟨rfl,rfl⟩:=List.append_eq_nil_iff.mp e.symm;cases i with
   | zero=>exact f
   | succ i=>exact b c g i
 induction a with
 | nil=>exact .empty
 | cons i a b=>exact Reps.cons (O:=[]) (P:=[]) (get l vs r i) b
def jc2:BC R (jcZ R.K) Y3:=by
 intro Z H n d y O z r e Q k
 match n,e,r with
 | [.lst o l],e,r=>
  simp only[Y3] at e;refine ob e λc s e=>oc e λf e=>?_;cases e;have f:=X6 f;obtain⟨v,rfl,t⟩:=r.one_of;obtain⟨p,g,A,rfl,u,b⟩:=t.lst_of;obtain⟨rfl,w,q⟩:=zi s b;refine⟨p,g,c,rfl,u.sq,w,by rw[b.length];exact f,q,λD m=>?_⟩;refine k (Go.newO (wf0 z) m) ?_;have ne:∀ a,H a≠none->a≠D:=λa h e=>h<|e▸m;have x:Reps R Z H (zN c l) (VZ (λi j=>zT (c.getD i ("","",0))<|c.getD j ("","",0)) g .non) []:=by
   unfold zN VZ;rw[b.length];split
   ·exact b
   ·exact jbY b _
  rw[Rep];exact⟨D,_,[],rfl,x.frame (λa z=>z) (λa h=>jh<|ne a<|z a h)<|λa h=>(nomatch h),jA,rfl⟩
def zq:bootBuiltins "sorted" = some (.builtin "sorted"):=by boot_fast
def jaB:(zN rs l).Perm l:=by
 unfold zN VZ;split
 ·exact List.Perm.refl _
 ·rename_i h;have a:=(wz (lt:=λi j=>zT (rs.getD i ("","",0))<|rs.getD j ("","",0)) (n:=l.length) ∅).2;refine(a.map λi=>l.getD i .non).trans ?_;have:(List.range l.length).map (λi=>l.getD i .non)=l:=by
   apply List.ext_getElem
   ·simp
   ·intro i c b;simp[List.getD_eq_getElem?_getD,X8 b]
  rw[this]
noncomputable def two2:List KA->Option (KA×KA)
 | [a,b]=>some (a,b)
 | _=>none
def xl:List (List KA)->List D->Option (List D)
 | [],[]=>some []
 | k::ks,d::l=>(two2 k).bind λp=>(vD d).bind λn=>(xl ks l).bind λr=>some<|bif decide (0<n) then .tup [kaD p.1,kaD p.2,.int n]::r else r
 | _,_=>none
@[simp] def dPos(i:Nat)(ρ:Rh):Option (D×Rh):=(pV i ρ).bind λt=>(jfl t).bind λp=>bif lim p.1.length then(xl p.1 p.2).bind λr=>some (.lst true r,ρ.set i none) else none
section
variable {R:RC}{Z Z':Zn}{H H':Hp}{pm:List Nat}
inductive CpP (R:RC) (Z0:Zn) (H0:Hp) (a:Addr) (ks:List<|List KA) (l all:List D) (i m:Nat) (σ2:L2.St) (H2:Hp):Prop
 | mk:m=ks.length-i->i<=ks.length->σ2.length=2->∀(Z2:Zn) (ys:List D) (vs:List V) (rest:List D),Go Z0 H0 [] Z2 H2 [a]->H2 a=some (.lst vs)->Reps R Z2 H2 ys vs []->xl (ks.drop i) (l.drop i)=some rest->all=ys++rest->ys.length<=i->CpP R Z0 H0 a ks l all i m σ2 H2
end
noncomputable def JN:List D->List D->List D->List D
 | a::l,b::m,c::n=>.tup [a,b,c]::JN l m n
 | _,_,_=>[]
theorem zg:∀ l m n:List D,l.length<=m.length->l.length<=n.length->(JN l m n).length=l.length
 | [],_,_,_,_=>by simp[JN]
 | a::l,[],_,h,_=>by simp at h
 | a::l,b::m,[],_,h=>by simp at h
 | a::l,b::m,c::n,d,e=>by simp[JN,zg l m n ⇑d ⇑e]
theorem zY:∀(l m n:List D) (i:Nat) (x:D),(JN l m n)[i]?=some x->∃ a b c,l[i]?=some a/\m[i]?=some b/\n[i]?=some c/\x=.tup [a,b,c]
 | [],_,_,i,x,e=>by simp[JN] at e
 | a::l,[],_,i,x,e=>by simp[JN] at e
 | a::l,b::m,[],i,x,e=>by simp[JN] at e
 | a::l,b::m,c::n,i,x,e=>by
  cases i with
  | zero=>simp[JN] at e;exact⟨a,b,c,rfl,rfl,rfl,e.symm⟩
  | succ i=>
   obtain⟨d,b',f,g,h,j,k⟩:=zY l m n i x (by simpa [JN] using e);exact⟨d,b',f,by simpa using g,by simpa using h,by simpa using j,k⟩
def jnN(l:List D):Option (List D):=(jm6 l).bind λp=>(jfg p.1).bind λt=>(jdw p.2.1).bind λl=>(jdw p.2.2).bind λm=>bif decide (t.length<=l.length)&&decide (t.length<=m.length) then some (JN (fzs t) (fzs l)<|fzs m) else none
@[simp] def pZ3(p:PAf)(ρ:Rh):Option (List D):=(p ρ).bind jnN
def jkS(h:PPs R ta p):PIt R (iZ3 R.K ta) (pZ3 p):=by
 intro σ ρ Z H O xs z s e Q k;refine ob e λds A e=>ob e λ⟨p0,p1,p2⟩ e2 e=>ob e λt e3 e=>ob e λl e4 e=>ob e λm e5 e=>oc e λc e=>?_;cases e;cases uq e3;obtain⟨o,rfl⟩:=qC e4;obtain⟨o2,rfl⟩:=qC e5;cases jcI e2;rw[L9] at c;have D:=X6 c.1;have E:=X6 c.2;refine h z s A λ{vs F H1 P1} g1 b=>?_;rw[Reps] at b;obtain⟨v0,vs0,G,P2,rfl,rfl,q0,b⟩:=b;rw[Reps] at b;obtain⟨v1,vs1,I,P3,rfl,rfl,q1,b⟩:=b;rw[Reps] at b;obtain⟨v2,vs2,J,P4,rfl,rfl,q2,b⟩:=b;rw[Reps] at b;obtain⟨rfl,rfl⟩:=b;have f0:=q0.freeze (Z':=λa=>F a\/a∈G++(I++(J++[]))) (λa z=>.inl z) λa z=>.inr (by simp[z]);have f1:=q1.freeze (Z':=λa=>F a\/a∈G++(I++(J++[]))) (λa z=>.inl z) λa z=>.inr (by simp[z]);have f2:=q2.freeze (Z':=λa=>F a\/a∈G++(I++(J++[]))) (λa z=>.inl z) λa z=>.inr (by simp[z]);rw[show fz (.tup t)=.tup (fzs t) from rfl,Rep] at f0;rw[show fz (.lst o l)=.lst false (fzs l) from rfl,Rep] at f1;rw[show fz (.lst o2 m)=.lst false (fzs m) from rfl,Rep] at f2;obtain⟨a0,g,rfl,ft,L⟩:=f0;obtain⟨a1,B,O',rfl,M,j,rfl,_⟩:=f1;obtain⟨a2,C,O'',rfl,N,n,rfl,_⟩:=f2;refine⟨a0,a1,a2,g,B,C,rfl,ft.sq,FL.sq j,FL.sq n,k g1.fz ?_⟩;intro S T d f zd i;have U:=(ft.frame d f).sq;have h1:=(j.frame d f).sq;have h2:=(n.frame d f).sq;have r0:Reps R S T (fzs t) g []:=L.frame d f λa r=>(nomatch r);have b:Reps R S T (fzs l) B []:=M.frame d f λa r=>(nomatch r);have r2:Reps R S T (fzs m) C []:=N.frame d f λa r=>(nomatch r);refine⟨λhi=>⟨g,U,?_⟩,λx hx=>?_⟩
 ·rw[zg _ _ _ (by rw[Vk,Vk];exact D)<|by rw[Vk,Vk];exact E] at hi;rw[r0.length];exact hi
 obtain⟨y0,y1,y2,V,W,X,rfl⟩:=zY _ _ _ i x hx;obtain⟨u0,u,Y⟩:=r0.item V;obtain⟨u1,v,ru1⟩:=b.item W;obtain⟨u2,y,ru2⟩:=r2.item X;refine⟨⟨g,B,C,u0,u1,u2,U,h1,h2,u,v,y⟩,λw H3 hyl=>?_⟩;obtain⟨q,t0,t1,t2,ht0,ht1,ht2,rfl,hq,rfl⟩:=hyl;have A:=ht0 g U;rw[u] at A;cases A;have e2:=ht1 B h1;rw[v] at e2;cases e2;have e3:=ht2 C h2;rw[y] at e3;cases e3;exact⟨_,Go.newF (wf0 zd) hq,Rep.tupNew (wf0 zd) hq<|.cons (O:=[]) (P:=[]) Y<|.cons (O:=[]) (P:=[]) ru1<|.one ru2⟩
theorem KW:∀{ns:List Str}{l:List D}{vs:List V}{O:W6},Reps R Z H l vs O->ns.length=l.length->JE ns l f=some d->∃ v P,(ns.zip vs).lookup f=some v/\Rep R Z H d v P/\∀ q,P.count q<=O.count q
 | [],l,vs,O,_,_,h=>by cases l<;>cases h
 | n::ns,[],vs,O,_,a,_=>by simp at a
 | n::ns,x::l,vs,O,r,a,h=>by
  rw[Reps] at r;obtain⟨v,b,c,k,rfl,rfl,g,i⟩:=r;rw[JE] at h;by_cases e:f=n
  ·rw[if_pos e] at h;cases h;exact⟨v,c,by rw[U6,List.lookup_cons,e];simp,g,λq=>by rw[U7];lia⟩
  ·rw[if_neg e] at h;obtain⟨w,P,j,e2,e3⟩:=KW i ⇑a h;refine⟨w,P,?_,e2,λq=>by have:=e3 q;rw[U7];lia⟩;rw[U6,List.lookup_cons,show(f==n)=false by simp[e]];exact j
theorem uU(j:f≠g):∀{ns:List Str}{l:List D}{vs:List V}{O:W6},Reps R Z H l vs O->ns.length=l.length->JE ns l f=some d->JE ns l g=some c ->
  ∃ v P w Q,(ns.zip vs).lookup f=some v/\(ns.zip vs).lookup g=some w/\Rep R Z H d v P/\Rep R Z H c w Q/\∀ q,P.count q+Q.count q<=O.count q
 | [],l,vs,O,_,_,h,_=>by cases l<;>cases h
 | n::ns,[],vs,O,_,m,_,_=>by simp at m
 | n::ns,x::l,vs,O,r,m,h,k=>by
  rw[Reps] at r;obtain⟨v,u,s,A,rfl,rfl,t,p⟩:=r;rw[JE] at h k;by_cases e:f=n
  ·have i:g≠n:=λz=>j<|e.trans z.symm;rw[if_pos e] at h;rw[if_neg i] at k;cases h;obtain⟨w,Q,o,e2,e3⟩:=KW p ⇑m k;refine⟨v,s,w,Q,by rw[U6,List.lookup_cons,e];simp,?_,t,e2,λq=>by have:=e3 q;rw[U7];lia⟩;rw[U6,List.lookup_cons,show(g==n)=false by simp[i]];exact o
  ·rw[if_neg e] at h;by_cases i:g=n
   ·rw[if_pos i] at k;cases k;obtain⟨w,Q,o,e2,e3⟩:=KW p ⇑m h;refine⟨w,Q,v,s,?_,by rw[U6,List.lookup_cons,i];simp,e2,t,λq=>by have:=e3 q;rw[U7];lia⟩;rw[U6,List.lookup_cons,show(f==n)=false by simp[e]];exact o
   ·rw[if_neg i] at k;obtain⟨a,P,b,Q,o,e2,e3,y,e5⟩:=uU j p ⇑m h k;refine⟨a,P,b,Q,?_,?_,e3,y,λq=>by have:=e5 q;rw[U7];lia⟩
    ·rw[U6,List.lookup_cons,show(f==n)=false by simp[e]];exact o
    ·rw[U6,List.lookup_cons,show(g==n)=false by simp[i]];exact e2
@[simp] def jiP(i:Nat)(c:Nat)(f:Str)(g:Str)(pe:PF)(ρ:Rh):Option (D×Rh):=(pV i ρ).bind λt=>(zL t).bind λy=>bif y.1==c&&!decide (f=g) then(JE y.2.1 y.2.2 f).bind λa=>(JE y.2.1 y.2.2 g).bind λb=>(pe ρ).bind λr=>some (.tup [a,r,b],ρ.set i none) else none
def jkH(T:Cls R.K<|R.cls c)(hf:NoAttr R.K (R.cls c) f)(hg:NoAttr R.K (R.cls c) g)(he:PP R te pe):DE R (wO<|yj (jdu R.K (v8 i) f)<|yj te<|yj (jdu R.K (v8 i) g) VX) (jiP i c f g pe):=by
 intro σ ρ ρ' Z H O d w s e Q k;refine ob e λt e1 e=>ob e λ⟨c',ns,l⟩ e2 e=>oc e λE e=>ob e λa e3 e=>ob e λb e4 e=>ob e λr e5 e=>?_;cases e;cases J3 e2;have U:=Va e1;rw[L9] at E;obtain rfl:c'=c:=by simpa using E.1
 have F:f≠g:=by simpa using E.2
 obtain⟨A,P,B,rfl,k1,_,k3⟩:=s.put (L8.mp U).1;obtain⟨v,W,X⟩:=k1 _ U;rw[Rep] at X;obtain⟨x,Y,vs,G,rfl,rs,I,ea,rfl⟩:=X;obtain⟨m,Pf,n,Pg,lf,lg,rf,rg,cn⟩:=uU F rs I e3 e4;unfold wO yj;refine⟨.ref x,W,x,_,Y,_,m,rfl,ea,T,hf,lf,?_⟩;refine he w.zd s e5 λ{p o j u} g1 r1=>?_;have J:=g1.at0 ea;refine⟨.ref x,W,x,_,Y,_,n,rfl,J,T,hg,lg,by show 3<=sizeLine;decide,λq hq=>?_⟩;have L:=g1.widen w;have gN:Go o j (u++(A++(x::G)++B)) (λy=>o y\/y=q) (upd j q<|.tup [m,p,n]) (u++(A++(x::G)++B)):=Go.newF L.wf hq;have ne:∀ y,j y≠none->y≠q:=λy h e=>h<|e▸hq;have zn:∀ y,o y->upd j q (.tup [m,p,n]) y=j y:=λy C=>jh<|ne y<|L.wf.zd y C;have M:=g1.rep w.zd rf;have N:=g1.rep w.zd rg;have S:∀{d:D}{v:V}{Pd:W6},Rep R o j d v Pd->Rep R (λy=>o y\/y=q) (upd j q<|.tup [m,p,n]) d v Pd:=λrr=>rr.frame (λ_ z=>.inl z) zn λy C=>jh<|ne y<|rr.dom y C;have s1:=(g1.slots w.zd k3);have s2:Slots R (λy=>o y\/y=q) (upd j q<|.tup [m,p,n]) (ρ.set i none) σ (A++B):=s1.frame (λ_ z=>.inl z) zn λy C=>jh<|ne y<|s1.dom y C;have le:∀ y,((Pf++(u++Pg))++(A++B)).count y<=(u++(A++(x::G)++B)).count y:=λy=>by
  have:=cn y;simp only[U7,List.count_cons];lia
 refine k (P:=Pf++(u++Pg)) ((L.trans gN).drop (jfL le) (uR le gN.wf.nd)) ?_ s2;rw[Rep];refine⟨q,[m,p,n],rfl,.inl ⟨.inr rfl,.inl jA⟩,?_⟩;have:=Reps.cons (S M)<|Reps.cons (S r1)<|Reps.one<|S N;simpa using this
def jmQ(e:X.mg "zip" = none)(h:QPs cl X [a,b,c] tr pr)(f:Gl X "zip":=by rfl)(g:starEach [a,b,c] X.env=[(false,eval a X.env),(false,eval b X.env),(false,eval c X.env)]:=by rfl)(d:starEach [b,c] X.env=[(false,eval b X.env),(false,eval c X.env)]:=by rfl):
  QI cl X (.Tuple elts n tpos) (.Call (.Name "zip" p) [a,b,c] [] pos) (iZ3 X.K tr) (pZ3 pr):=⟨jmx f e h.sem g d,jkS h.den⟩
def jna{cl:Nat->Addr}{X:Cx}{e:Expr}{te:TE}{pe:PF}{pos p:Pos}{i k:Nat}{x f g:Str}{x1}{p2 b a:Pos}(m:Cls X.K<|cl k)(n:NoAttr X.K (cl k) f)(o:NoAttr X.K (cl k) g)(q:QB cl X (.Name x p) (v8 i)<|pV i)(l:QP cl X e te pe)(c:QB cl X (.Name x p2) (v8 i)<|pV i)
  (r:attributeBase (.Name x p) f X.env (eval (.Name x p) X.env)=eval (.Name x p) X.env:=by rfl) (d:attributeBase (.Name x p2) g X.env (eval (.Name x p2) X.env)=eval (.Name x p2) X.env:=by rfl)
  (s:starEach [.Attribute (.Name x p) f b,e,.Attribute (.Name x p2) g a] X.env=(false,eval (.Attribute (.Name x p) f b) X.env)::starEach [e,.Attribute (.Name x p2) g a] X.env:=by rfl)
  (h:starEach [e,.Attribute (.Name x p2) g a] X.env=(false,eval e X.env)::starEach [.Attribute (.Name x p2) g a] X.env:=by rfl)
  (j:starEach [.Attribute (.Name x p2) g a] X.env=(false,eval (.Attribute (.Name x p2) g a) X.env)::starEach [] X.env:=by rfl):
  QE cl X (.Tuple [.Attribute (.Name x p) f b,e,.Attribute (.Name x p2) g a] x1 pos) (wO<|yj (jdu X.K (v8 i) f)<|yj te<|yj (jdu X.K (v8 i) g) VX) (jiP i k f g pe) :=
 ⟨Jn<|jK (uk q.sem r) (jK l.sem (jK (uk c.sem d) vU j) h) s,jkH (R:=⟨X.K,cl⟩) m n o l.den⟩
end QD
namespace QD
open PySem L2
end QD
namespace L2
open PySem PySem.Spec PyProof.Rows
end L2
namespace QD
open PySem L2 PySem.Spec PyProof.Rows
mutual
noncomputable def pln:D->Bool
 | .tup l=>jlD l
 | .non=>true | .bl _=>true | .int _=>true | .str _=>true
 | .lst _ _=>false | .dK _ _ _=>false | .dT _ _ _=>false | .ins _ _ _ _=>false | .dead=>false | .exc _ _=>false
noncomputable def jlD:List D->Bool
 | []=>true
 | d::l=>pln d&&jlD l
end
mutual
theorem Rep.cutA{a:Addr}(ha:∀ vs,¬ Rd H a (.tup vs))(hH:∀ b,b≠a->H' b=H b):∀{d:D}{v:V}{O:W6},pln d=true->Rep R Z H d v O->Rep R (λb=>Z b/\b≠a) H' d v O
 | .non,_,_,_,r=>by rw[Rep] at r ⊢;exact r
 | .bl _,_,_,_,r=>by rw[Rep] at r ⊢;exact r
 | .int _,_,_,_,r=>by rw[Rep] at r ⊢;exact r
 | .str _,_,_,_,r=>by rw[Rep] at r ⊢;exact r
 | .tup l,_,_,h,r=>by
  rw[pln] at h;rw[Rep] at r ⊢;obtain⟨p,vs,e,t,r⟩:=r;refine⟨p,vs,e,?_,Reps.cutA ha hH h r⟩;rcases t with⟨z,t⟩ | t
  ·have ne:p≠a:=λq=>ha vs<|q▸t;exact .inl ⟨⟨z,ne⟩,Rd.agree (hH p ne) t⟩
  ·exact .inr t
 | .lst _ _,_,_,h,_=>by rw[pln] at h;cases h
 | .dK _ _ _,_,_,h,_=>by rw[pln] at h;cases h
 | .dT _ _ _,_,_,h,_=>by rw[pln] at h;cases h
 | .ins _ _ _ _,_,_,h,_=>by rw[pln] at h;cases h
 | .dead,_,_,h,_=>by rw[pln] at h;cases h
 | .exc _ _,_,_,h,_=>by rw[pln] at h;cases h
theorem Reps.cutA{a:Addr}(ha:∀ vs,¬ Rd H a (.tup vs))(hH:∀ b,b≠a->H' b=H b):∀{l:List D}{vs:List V}{O:W6},jlD l=true->Reps R Z H l vs O->Reps R (λb=>Z b/\b≠a) H' l vs O
 | [],_,_,_,r=>by rw[Reps] at r ⊢;exact r
 | d::l,_,_,h,r=>by
  rw[jlD,L9] at h;rw[Reps] at r ⊢;obtain⟨v,vs',O1,O2,e1,e2,r1,r2⟩:=r;exact⟨v,vs',O1,O2,e1,e2,Rep.cutA ha hH h.1 r1,Reps.cutA ha hH h.2 r2⟩
end
def jnO(K:W5)(mg:W7)(x:Str)(st:Stmt)(ps:List Str):Prop:=∃ f fd,FnFact K mg x x st f fd ps
def jnA(K:W5)(C:Addr)(x qual:Str)(st:Stmt)(ps:List Str):Prop:=∃ f fd,MtFact K C x qual st f fd ps
section
variable {K:W5}{mg:W7}{h:Heap}{x qual:Str}{st:Stmt}{ps:List Str}{a C:Addr}{od an:Option Addr}{sl:Array (Option Value)}{oc kV dc pm cd ct:Value}
def hasF(X:K.In h)(G:h.Ns mainGlobals mg)(c:PySem.W.nsIn K mainGlobals x=some (some<|.ref a))(e2:K.lookup a=some ⟨oc,od,.func<|PySem.W.fnOf x x (qr st) (vO st) (jL st) .none kV dc pm an cd ct,sl⟩)(e3:PySem.W.codeIn K cd x=true)(b:PySem.W.keepIn K (.ref a)=true)
  (d:∀(kV doc pm:Value) (an:Option Addr) (cdv ct:Value) (us:List Value),us.length=ps.length->bindArgs (PySem.W.fnOf x x (qr st) (vO st) (jL st) .none kV doc pm an cdv ct) ⟨us,[]⟩=pure (ps.zip us)):jnO K mg x st ps:=⟨_,_,u4 e2 e3 b,PySem.W.mg_of X G c,(u4 e2 e3 b).binds d⟩
def hasM(c:PySem.W.findIn K (.ref C) x=some (some<|.ref a))(e5:PySem.W.isFn K (.ref a)=true)(e2:K.lookup a=some ⟨oc,od,.func<|PySem.W.fnOf x qual (qr st) (vO st) (jL st) .none kV dc pm an cd ct,sl⟩)(e3:PySem.W.codeIn K cd qual=true)(b:PySem.W.keepIn K (.ref a)=true)
  (d:∀(kV doc pm:Value) (an:Option Addr) (cdv ct:Value) (us:List Value),us.length=ps.length->bindArgs (PySem.W.fnOf x qual (qr st) (vO st) (jL st) .none kV doc pm an cdv ct) ⟨us,[]⟩=pure (ps.zip us)):jnA K C x qual st ps:=⟨_,_,u4 e2 e3 b,⟨c,e5,b⟩,(u4 e2 e3 b).binds d⟩
end
def fsc{N ps:List Str}{sc:Scope}(a:sc.kind=.function:=by rfl)(b:sc.isCoroutine=false:=by rfl)(c:sc.isGenerator=false:=by rfl)(d:N.Nodup:=by decide +kernel)(e:N.take ps.length=ps:=by rfl)
  (f:∀ x∈ps,sc.names.lookup x=some .local\/sc.names.lookup x=some .cell:=by decide +kernel) (g:∀ y∈sc.names,y.2≠.free:=by decide +kernel):FnScope N ps sc:=⟨a,b,c,d,e,f,g⟩
def k8(K:W5)(mg:W7)(x:Str)(st:Stmt)(N:List Str)(n:Nat):Prop:=FnScope N (N.take n) (jL st)/\jnO K mg x st (N.take n)
def jc7(K:W5)(C:Addr)(x qual:Str)(st:Stmt)(N:List Str)(n:Nat):Prop:=FnScope N (N.take n) (jL st)/\jnA K C x qual st (N.take n)
section
variable (P:Program)(w:World)(cl:Nat->Addr){K:W5}{mg:W7}{C:Addr}{x qual:Str}{st:Stmt}{N:List Str}{n:Nat}
abbrev NP(_:k8 K mg x st N n)(k:Nat)(m:List D->Option D):Prop:=OkF P w K mg x st k (N.take n)<|spP ⟨K,cl⟩ m n
abbrev NM(_:k8 K mg x st N n)(k:Nat)(m:List D->Option (D×D)):Prop:=OkF P w K mg x st k (N.take n)<|spM ⟨K,cl⟩ m n 0
abbrev OP(mg:W7)(_:jc7 K C x qual st N n)(k:Nat)(m:List D->Option D):Prop:=OkM P w K mg C x qual st k (N.take n)<|spP ⟨K,cl⟩ m n
abbrev OM(mg:W7)(_:jc7 K C x qual st N n)(k:Nat)(m:List D->Option (D×D)):Prop:=OkM P w K mg C x qual st k (N.take n)<|spM ⟨K,cl⟩ m n 0
end
section
variable {P:Program}{w:World}{k:Nat}{sp:Sp}{K:W5}{mg:W7}{C:Addr}{x qual:Str}{st:Stmt}{N:List Str}{n:Nat}
def okN(h:k8 K mg x st N n)(g:∀ f fd,FnScope N (N.take n) (jL st)->FnFact K mg x x st f fd (N.take n)->∀ base,FnOk P w K mg base CX0 k f fd (N.take n) sp):OkF P w K mg x st k (N.take n) sp:=by
 obtain⟨S,f,fd,F⟩:=h;exact⟨f,fd,F,g f fd S F⟩
def okO(h:jc7 K C x qual st N n)(g:∀ f fd,FnScope N (N.take n) (jL st)->MtFact K C x qual st f fd (N.take n)->∀ base,FnOk P w K mg base CX0 k f fd (N.take n) sp):OkM P w K mg C x qual st k (N.take n) sp:=by
 obtain⟨S,f,fd,F⟩:=h;exact⟨f,fd,F,g f fd S F⟩
end
def u0{α:Type}{P:List α->Prop}(h:P []):∀ us:List α,us.length=0->P us
 | [],_=>h
def uS{α:Type}{P:List α->Prop}{n:Nat}(h:∀ a,∀ us:List α,us.length=n->P (a::us)):∀ us:List α,us.length=n+1->P us
 | a::us,e=>h a us<|Nat.succ.inj e
def joh{a b:Prop}(h:a)(k:a->b):a/\b:=⟨h,k h⟩
section
variable {cl:Nat->Addr}{X:Cx}{pos:Pos}{x:Str}{scope:Scope}{N':List Str}{i:Nat}
def qS{j}{l:List Nat}(h:x=S l:=by decide +kernel):QP cl X (.Constant (.str x) j pos) (tC<|.str x) (pS l):=jjj l h
def qI{i:Int}{j}:QB cl X (.Constant (.int i) j pos) (tC<|.int i) (pI i):=QP.bb jj8
end
end QD
namespace L2
open PySem PySem.Spec PyProof.Rows
end L2
namespace QD
open PySem L2 PySem.Spec PyProof.Rows
noncomputable def blN(N:List Str):List (Option Nat)->List Str->List Str
 | [],_=>[]
 | none::l,xs=>xs.headD ""::blN N l xs.tail
 | some j::l,xs=>N.getD j ""::blN N l xs
noncomputable def jny(sc:Scope):List Str:=(sc.names.filter λy=>decide (y.2=.local)||decide (y.2=.cell)).tail.map (·.1)
def bkN(_:FnScope N ps sc)  (h1:X.env.scope=sc:=by rfl) (h2:X.N=N:=by rfl) (h:K0 sc N scope (blN N ix<|jny scope) ix=true:=by decide +kernel):BlockOk X scope (blN N ix<|jny scope) ix:=jh7 sc N h1 h2 h
def jmS{p:PAf}{n:Nat}(h:∀(ρ:Rh) (ds:List D),p ρ=some ds->ds.length=n):∀(ρ:Rh) (ds:List D),p ρ=some ds->ds.length+1=n+1:=λρ ds e=>by rw[h ρ ds e]
def ndN(h:N'.Nodup):(yO X scope N' C s H fp).N.Nodup:=h
abbrev PrF:=Rh->Option (List KA×List D)
noncomputable def prN:PrF:=λ_=>some ([],[])
@[simp] def prN_e:prN ρ=some ([],[]):=rfl
def PRs(R:RC)(trs:List<|TE×TE)(f:PrF):Prop:=∀{σ:L2.St}{ρ:Rh}{Z:Zn}{H:Hp}{O:W6}{q:List KA×List D},Zd Z H->Slots R Z H ρ σ O->f ρ=some q ->
 ∀{Q:List (V×V)->Hp->Prop},(∀{vs:List V}{Z':Zn}{H':Hp},Go Z H [] Z' H' []->Reps R Z' H' q.2 vs []->q.1.length=q.2.length->Q (((q.1.map kaV).zip vs).map λkv=>(kV kv.1,kv.2)) H')->QC trs σ H Q
noncomputable def jbc(f:PrF):PF:=λρ=>(f ρ).bind λq=>bif decide q.1.Nodup&&decide (q.1.length<=15) then some (.dK true q.1 q.2) else none
@[simp] def xZ:jbc f ρ=(f ρ).bind λq=>bif decide q.1.Nodup&&decide (q.1.length<=15) then some (.dK true q.1 q.2) else none:=rfl
structure QPr(cl:Nat->Addr)(X:Cx)(pos:Pos)(keys:List<|Option Expr)(values:List Expr)(trs:List<|TE×TE)(f:PrF):Prop where
 sem:L2.PPs X pos keys values trs
 den:PRs ⟨X.K,cl⟩ trs f
section
def zw(k:List Nat)(L:Ln):Ln:=λd=>(L d).bind λy=>(jea y.1).bind λq=>(jk4 q.1<|.str k).bind λn=>(q.2[n]?).bind λx=>some (x,λx'=>y.2<|.dK true q.1<|q.2.set n x')
def jjw(D:∀{σ:L2.St}{H:Hp}{Q:VK},Q (.str<|S k) H->tj σ H Q)(h:jaI R tb i L):jaI R (jcW tb tj) i (zw k L):=by
 intro σ ρ Z H O d x Y s hd e;refine ob e λ⟨y,k0⟩ E e=>ob e λ⟨ks,l⟩ e3 e=>ob e λn F e=>ob e λx0 e2 e=>?_;cases e;cases xB e3;obtain⟨v,A,P,B,rfl,r,G,I⟩:=h s hd E;obtain⟨a,J,K,O',rfl,o,g,p,rfl⟩:=ow_dK.mp r;obtain⟨u,M,N,T,t,rfl,U,j⟩:=o.at e2;refine⟨u,A++(a::M),N,T++B,by simp,U,λ{Q} q=>G<|D ⟨a,u,rfl,(um F (by rw[o.length];exact g) t)▸DGet.k (k:=kaV<|.str k) p,q⟩,λ{Z' H' x' V} W w z m C=>?_⟩;have c:=j W w z (λb f=>m b<|by simp[f])<|λb f=>C b (by simp[f]);rw[qd t] at c;have X:=I (ow_dK.mpr ⟨a,J,K,_,rfl,c,by rw[List.length_set];exact g,(m a<|by simp).trans p,rfl⟩) w z (λb f=>m b<|by simp[f])<|λb f=>C b (by simp[f]);simpa using X
open Classical in
def xH(pk pv:PF)(f:PrF):PrF:=λρ=>(pk ρ).bind λx=>(vT x).bind λa=>(pv ρ).bind λd=>(f ρ).bind λq=>some (a::q.1,d::q.2)
def PRo(R:RC)(trs:List<|TE×TE)(f:PrF):Prop:=∀{σ:L2.St}{ρ:Rh}{Z:Zn}{H:Hp}{O:W6}{q:List KA×List D},Zd Z H->Slots R Z H ρ σ O->f ρ=some q ->
 ∀{Q:List (V×V)->Hp->Prop},(∀{vs:List V}{Z':Zn}{H':Hp}{P:W6},Go Z H [] Z' H' P->Reps R Z' H' q.2 vs P->q.1.length=q.2.length->Q (((q.1.map kaV).zip vs).map λkv=>(kV kv.1,kv.2)) H')->QC trs σ H Q
def jgh:PRo R [] prN:=by
 intro σ ρ Z H O q z s e Q k;cases e;exact k (Go.id z) .empty rfl
def jez{R:RC}{tk tv:TE}{pk pv:PF}{b:List (TE×TE)}{f:PrF}(d:PB R tk pk)(g:PP R tv pv)(h:PRo R b f):PRo R ((tk,tv)::b) (xH pk pv f):=by
 intro σ ρ Z H O q z s e Q k;refine ob e λx i e=>ob e λa e2 e=>ob e λy e3 e=>ob e λp j e=>?_;cases e;refine d z s i λ{v r t w} g1 l=>?_;have s1:=g1.slots z s;refine g g1.wf.zd s1 e3 λ{u A B C} g2 m=>?_;refine h g2.wf.zd (g2.slots g1.wf.zd s1) j λ{c Z3 D E} g3 n o=>?_;obtain⟨rfl,_⟩:=vw e2 l;exact k (vs:=u::c) ((g1.trans g2).pair g3) (Reps.cons (g3.rep g2.wf.zd m) n) (by simp[o])
def jeR(n:PRo R trs f):PP R (jgg trs) (jbc f):=by
 intro σ ρ Z H O d z s e Q k;rw[xZ] at e;refine ob e λq o e=>oc e λc e=>?_;cases e;simp only[L9,decide_eq_true_eq] at c;intro p r;have g0:Go Z H [] Z (upd H p<|.dK []) [p]:=Go.newO (wf0 z) r;refine n g0.wf.zd (g0.slots z s) o λ{a t h P} g3 l m=>?_;have i:h p=some (.dK []):=g3.at0 jA;have g:=g0.pair g3;have u:Y0 [] ((q.1.map kaV).zip a)=(q.1.map kaV).zip a:=by
  have:=Kc q.1 a [] [] rfl (by rw[l.length];exact m) ⇑c.1;simpa [Y0] using this
 have j:∀ b,t b->upd h p (.dK<|(q.1.map kaV).zip a) b=h b:=λb v=>jh λq=>g.wf.nz p (by simp)<|q▸v;refine⟨i,_,rfl,by rw[List.length_zip,L0];omega,?_⟩;rw[u];exact k (g.trans<|Go.put g.wf<|by simp)<|ow_dK.mpr ⟨p,0,a,P,rfl,l.frame (λ_ z=>z) j λb c=>jh λz=>(List.nodup_cons.mp g.wf.nd).1 (z▸c),m,jA,rfl⟩
end
def jly{j2}(b:Room k X.A)(h:QL cl X o tb i L)(a:x=S kk:=by decide +kernel)(c:jlK (.Constant (.str x) j2 jpos):=by exact λ_ _=>rfl):QL cl X (.Subscript o (.Constant (.str x) j2 jpos) pos) (jcW tb<|tC<|.str x) i (zw kk L) :=
 ⟨jby (V4 b) h.sem (jjj (cl:=cl) kk a).sem c,by subst a;exact jjw (R:=⟨X.K,cl⟩) (λq=>q) h.den⟩
structure QPo(cl:Nat->Addr)(X:Cx)(pos:Pos)(keys:List<|Option Expr)(values:List Expr)(trs:List<|TE×TE)(f:PrF):Prop where
 sem:L2.PPs X pos keys values trs
 den:PRo ⟨X.K,cl⟩ trs f
def jhO:QPo cl X pos [] [] [] prN:=⟨L2.pps_nil,jgh⟩
def jeF(c:QB cl X a ta pa)(d:QP cl X b tb pb)(h:QPo cl X pos ks vs trs f):QPo cl X pos (some a::ks) (b::vs) ((ta,tb)::trs) (xH pa pb f) :=
 ⟨L2.pps_cons c.sem d.sem h.sem,jez c.den d.den h.den⟩
def jg8(h:QPo cl X pos ks vs trs f)(a:ks.all (·.isSome)=true:=by rfl)(d:ks.length=vs.length:=by rfl)(c:(!ks.isEmpty)=true:=by rfl)(b:decide (ks.length<=15)=true:=by rfl):
  QP cl X (.Dict ks vs pos) (jgg trs) (jbc f):=⟨jiw h.sem a d (by intro z;rw[z] at c;cases c)<|X6 b,jeR (R:=⟨X.K,cl⟩) h.den⟩
def okR{P:Program}{w:World}{K:W5}{mg:W7}{cl:Nat->Addr}{x:Str}{st:Stmt}{N:List Str}{n:Nat}{r:Nat->List D->Option D}(h:k8 K mg x st N n)(a:∀ ds,r 0 ds=none)
  (g:∀ j f fd,FnScope N (N.take n) (jL st)->FnFact K mg x x st f fd (N.take n)->OkF P w K mg x st j (N.take n) (spP ⟨K,cl⟩ (r j) n)->∀ base,FnOk P w K mg base CX0 (j+1) f fd (N.take n)<|spP ⟨K,cl⟩ (r<|j+1) n) (k:Nat):OkF P w K mg x st k (N.take n) (spP ⟨K,cl⟩ (r k) n):=by
 obtain⟨S,f,fd,F⟩:=h;refine⟨f,fd,F,?_⟩
 induction k with
 | zero=>exact λbase=>by rw[show r 0=λ_=>none from funext a];exact jia
 | succ j b=>exact g j f fd S F ⟨f,fd,F,b⟩
end QD
namespace QD
open PySem L2
def VC(i:Nat)(L:Ln)(pa pb pv:PF)(ρ:Rh):Option Out:=(pv ρ).bind λd=>(pV i ρ).bind λt=>(L t).bind λy=>(jfl y.1).bind λp=>(jaU pa pb ρ).bind λa=>bif frz d&&lim p.1.length then some (.nx<|ρ.set i<|some<|y.2<|.dT true (V6 p.1 p.2 a d).1 (V6 p.1 p.2 a d).2) else none
def jep{R:RC}{pm:List Nat}{i:Nat}{L:Ln}{to ta tb tv:TE}{pa pb pv:PF}(n:jaI R to i L)(p:PB R ta pa)(r:PB R tb pb)(v:PB R tv pv):DS R pm (xE to (jbe ta tb) tv) (VC i L pa pb pv):=by
 intro σ ρ Z H O o w s e M k;refine ob e λd x e=>ob e λt z e=>ob e λ⟨y,N⟩ e3 e=>ob e λ⟨P,l⟩ A e=>ob e λc e2 e=>oc e λf e=>?_;cases e;cases wm A;rw[L9] at f;refine v w.zd s x λ{u Q S T} g1 j=>?_;cases j.nil f.1;have m:=g1.widen w;have s1:=g1.slots w.zd s;refine qw (P0:=[]) n m.wf s1 z e3 jat λa _ U V B g C D put=>D<|JG p r g1.wf.zd s1 e2 λ{b W X} g2 Y E=>?_;obtain⟨F,O2,G,I,J,h⟩:=YR (g2.rep g1.wf.zd j) c (g2.reps g1.wf.zd B) g;obtain⟨O3,g3,K⟩:=put jat h g2 G λq=>by simpa using J.count_le q
 refine⟨a,_,rfl,DPut.t (g2.at0 C) E<|Y4 f.2,?_⟩;rw[<- I];exact k (m.trans g3) K<|Keep.refl _ _
def jdE{x1}(h:Room k X.A)(c:QL cl X o to i L)(d:QB cl X a ta pa)(f:QB cl X b tb pb)(g:QB cl X e te pe)
  (j:swapsWith e (some<|.Subscript o (.Tuple [a,b] x1 tpos) pos') pos.line X.env=pure false:=by rfl)
  (h1:starEach [a,b] X.env=(false,eval a X.env)::starEach [b] X.env:=by rfl) (h2:starEach [b] X.env=(false,eval b X.env)::starEach [] X.env:=by rfl):
  QS cl pm X (.Assign [.Subscript o (.Tuple [a,b] x1 tpos) pos'] e pos) (xE to (jbe ta tb) te) (VC i L pa pb pe) :=
 ⟨xO (V4 h) c.sem (Jn<|jK d.sem (jK f.sem vU h2) h1) g.sem j,jep (R:=⟨X.K,cl⟩) c.den d.den f.den g.den⟩
def jjI(b:QE cl X a ta fa)(c:∀ whole,isTrue a X.env whole=(do let v <- whole;standAt a.pos;holding [v] (truthy v)):=by intro _;rfl):QTE cl X a (L2.tB ta) (wq fa):=⟨jfx b.sem c,jie (R:=⟨X.K,cl⟩) b.den⟩
def jex(O:OkF X.prog X.w X.K X.mg x st k ps<|spM ⟨X.K,cl⟩ m n j)(c:Room k X.A)
  (d:QJ cl X i j (e::es) tr pr) (f:(e::es).length=n:=by rfl) (g:Gl X x:=by rfl) (a:(x==("__debug__" : Str))=false:=by decide)
  (h:starEach (e::es) X.env=(false,eval e X.env)::starEach es X.env:=by rfl) (b:(backTo pos<|starEach es X.env).any (·.1)=false:=by rfl):QE cl X (.Call (.Name x p) (e::es) [] pos) (Qx (spM ⟨X.K,cl⟩ m n j) [] E0 tr) (Ko m i j pr):=by
 obtain⟨_,_,F,G⟩:=O;exact jgi F (G _) c d f g a h b
abbrev NJ(P:Program)(w:World)(cl:Nat->Addr){K:W5}{mg:W7}{x:Str}{st:Stmt}{N:List Str}{n:Nat}(_:k8 K mg x st N n)(k:Nat)(j:Nat)(m:List D->Option (D×D)):Prop:=OkF P w K mg x st k (N.take n)<|spM ⟨K,cl⟩ m n j
end QD
namespace K28
set_option hygiene false
local macro_rules|`(‹$x›)=>`(some<|.lst false $x)|`(↑$x)=>`(some<|.lst true $x)
local macro_rules|`(#[])=>`(pN)|`(#[$x])=>`(ja $x pN)|`(#[$x,$y,*])=>`(ja $x #[$y,*])
open PySem L2 QD
noncomputable def top(i:Nat):Stmt:=PySem.Challenge.pw_tranchefall_k28_whole_fall.main.body.getD i<|.Pass ⟨0,0,0,0⟩
def Vp:FS:=(ym<|dP<|pCB zk #[y9 (VA<|pV 0) (jd [] 0) qT (pF<|p2 jc (pV 0)<|pI 1) [none]])
def qc:List D->Option D:=fnP 1 Vp
def yJ:FS:=(sIf (dPT<|je<|p2 vC (p2 jc (pV 2)<|pI 0)<|pV 1) (ym<|dP<|pF<|pV 2)
 jx)
def JX:FS:=(jf (J2 (pIt<|pF<|p2 jc (pV 0)<|pI 4) (jd [] 2) yJ)<|ym<|dP<|pC .non)
def vI:List D->Option D:=fnP 3 JX
def qF:FS:=(ym<|dP<|wK (VA<|pV 0) (gT 3<|gC (jd [] 0)<|gC (jd [] 1)<|gC (jd [] 2) gN) qT (jaU (pV 0)<|pV 1) (pV 2) [none,none,none])
def y6:List D->Option D:=fnP 1 qF
def Jv:FS:=(sIf (dPT<|je<|p2 vC (pV 2)<|pS [108,101,110,100]) (jiE 0 (pV 1) (pV 3)<|p2 jq (YI (pV 0) (pV 1) (pV 3)<|pI 0)<|pV 4)<|jeI 0 (pV 3) (pV 1) (λm n=>m-n)<|pV 4)
def vq:List D->Option (D×D):=fnM 5 0 Jv
def Jc:FS:=(sIf (dPT<|Qf (je<|p2 jaa (pV 4)<|pI 0)<|je<|p2 jdx (p2 jc (pV 3)<|pV 5)<|pV 6) (jf (jbw 3 (pV 5) (λi j=>i+j)<|pI 1)<|jio [] 4 (λi j=>i-j)<|pI 1)
 jx)
def KL:FS:=(jf (jM (dP<|pCB zk #[pV 0])<|jd [] 2)<|jf (sIf (dPT<|je<|p2 jmH (pV 1)<|pV 2) (ym<|dP<|pCB KJ #[pV 0])
 jx)<|jf (jM (dP<|y9 (VA<|pV 0) (jd [] 0) qT (p2 jJ (p2 yT (pV 1)<|pV 0)<|pV 2) [none,some 1,some 2])<|jd [] 3)<|jf (jM (dP<|p2 vk (pV 1)<|pCB zk #[pV 3])<|jd [] 4)<|jf (J2 (Yc #[pF<|pV 0]) (gT 2<|gC (jd [] 5)<|gC (jd [] 6) gN) Jc)<|ym<|dMv 3)
def JV:List D->Option D:=fnP 7 KL
def yh:FS:=(jf (jM (dP<|pF<|p2 jc (pV 1)<|pI 0)<|jd [] 2)<|jf (jM (dP<|pF<|p2 jc (pV 1)<|pI 1)<|jd [] 3)<|jf (sIf (dPT<|je<|p2 vC (pV 2)<|pS [112,97,121]) (ym<|dP<|pF<|p2 jr (Jp 0 "owed"<|pV 0)<|pV 3)
 jx)<|jf (sIf (dPT<|je<|p2 vC (pV 2)<|pS [114,101,112,97,121]) (ym<|dP<|p2 jq (p2 jr (Jp 0 "owed"<|pV 0)<|pV 3)<|p2 jr (Jp 0 "sizes"<|pV 0)<|pV 3)
 jx)<|jf (sIf (dPT<|je<|p2 vC (pV 2)<|pS [102,105,108,108]) (ym<|dP<|pCB jiK #[p2 vk (p2 jr (Jp 0 "marks"<|pV 0)<|pV 3)<|p2 jr (Jp 0 "levels"<|pV 0)<|pV 3,pI 0])
 jx)<|jf (sIf (dPT<|je<|p2 vC (pV 2)<|pS [108,101,110,100]) (ym<|dP<|pCB jiK #[p2 vk (p2 jc (pV 1)<|pI 2)<|YI (Jp 0 "loans"<|pV 0) (Jp 0 "pool_name"<|pV 0) (pV 3)<|pI 0,pI 0])
 jx)<|jf (sIf (dPT<|je<|p2 vC (pV 2)<|pS [98,97,99,107]) (ym<|dP<|pF<|YI (Jp 0 "loans"<|pV 0) (pV 3) (Jp 0 "pool_name"<|pV 0)<|pI 0)
 jx)<|ym<|dP<|pF<|Jp 0 "cash"<|pV 0)
def jg:List D->Option D:=fnP 4 yh
def vn:FS:=(jf (jM (dP<|pF<|p2 jr (Jp 0 "owed"<|pV 0)<|pV 3)<|jd [0] 4)<|jf (jM (dP<|pCB xc #[pV 4,p2 jr (Jp 0 "levels"<|pV 0)<|pV 2])<|jd [0] 5)<|jf (vG 0 (qW 0 "levels" ve) (pV 2) (λm n=>m-n)<|pV 5)<|jf (vG 0 (qW 0 "owed" ve) (pV 3) (λm n=>m-n)<|pV 5)<|vx 0 (qW 0 "entries" ve)<|vh #[pF<|pV 1,pS [103,117,97,114,100],pF<|pV 3,pF<|pV 4,pF<|pV 5])
def yN:List D->Option (D×D):=fnM 6 0 vn
def jH:FS:=(jf (jM (dP<|jdy (p2 jaa (p2 jr (pV 2)<|pV 4)<|pI 0)<|p2 (x6 true) (pV 4)<|Jp 0 "served"<|pV 0)<|jd [] 6)<|K4 3<|vh #[pF<|pV 4,pIf (je<|pV 6) (p2 jq (pV 5)<|pI 1)<|pI 0])
def kg:FS:=(jf (jM (dP<|pCB yZ #[p2 jc (pV 1)<|pI 0])<|jd [] 2)<|jf (jM (dP<|ky pN)<|jd [] 3)<|jf (J2 (pIt<|pF<|p2 jc (pV 1)<|pI 2) (gT 2<|gC (jd [] 4)<|gC (jd [] 5) gN) jH)<|ym<|ji6<|xN (dP<|vP<|Jp 0 "sizes"<|pV 0)<|xN (dP<|vP<|Jp 0 "owed"<|pV 0)<|xN (dMv 3)<|xN (dP<|vP<|Jp 0 "levels"<|pV 0)<|xN (dP<|pF<|p2 jc (pV 1)<|pI 4) jng)
def jW:List D->Option D:=fnP 7 kg
def J8:FS:=(jf (sIf (dPT<|je<|p2 jdx (pV 1)<|pCB vB #[pV 0]) (ym<|dP<|pF<|p2 jc (pV 0)<|pV 1)
 jx)<|ym<|dP<|pI 0)
def kI:List D->Option D:=fnP 2 J8
def Y6:FS:=(jf (jM (dP<|p2 jo (p2 jq (p2 yT (p2 jo (pV 0)<|pI 2147483647)<|pI 48271)<|p2 yT (p2 jq (p2 jq (p2 yT (pV 1)<|pV 1)<|p2 yT (pI 3)<|pV 1)<|pI 7)<|pI 69621)<|pI 2147483647)<|jd [] 2)<|ym<|dP<|p2 jo (p2 yT (pV 2)<|pV 2)<|pI 2147483647)
def jw:List D->Option D:=fnP 3 Y6
def Vr:FS:=(jf (sIf (dPT<|je<|p2 vC (p2 jo (pV 1)<|pI 5)<|pI 0) (ym<|dP<|pI 1)
 jx)<|jf (sIf (dPT<|je<|p2 vC (p2 jo (pV 1)<|pI 5)<|pI 1) (ym<|dP<|pF<|pV 2)
 jx)<|jf (sIf (dPT<|je<|p2 vC (p2 jo (pV 1)<|pI 5)<|pI 2) (ym<|dP<|p2 jq (pI 1)<|p2 jo (pV 0)<|pI 7)
 jx)<|jf (sIf (dPT<|je<|p2 vC (p2 jo (pV 1)<|pI 5)<|pI 3) (ym<|dP<|p2 jq (pI 1)<|p2 jo (pV 0)<|pV 2)
 jx)<|ym<|dP<|p2 jq (pI 1)<|p2 jo (p2 yT (p2 yT (p2 jq (p2 jo (pV 0)<|pV 2)<|pI 1)<|p2 jq (pV 1)<|pI 48271)<|pI 99999999999999997)<|pV 2)
def yt:List D->Option D:=fnP 3 Vr
def qu:FS:=(jM (dP<|p2 jo (p2 jq (p2 jq (p2 yT (pV 1)<|pI 1000003)<|pV 2)<|pI 1)<|pI 2147483647)<|jd [] 1)
def Kl:FS:=(jf (jM (dP<|pI 0)<|jd [] 1)<|jf (J2 (pIt<|pF<|pV 0) (jd [] 2) qu)<|ym<|dP<|pF<|pV 1)
def qU:List D->Option D:=fnP 3 Kl
def kC:FS:=(jf (jM (dP<|pF<|p2 jc (p2 jc (pV 1)<|p2 jo (p2 jq (p2 jJ (pV 0)<|pI 4)<|pV 4)<|pCB vB #[pV 1])<|pI 0)<|jd [] 5)<|K4 3<|vh #[pF<|p2 jc (p2 jc (pV 2)<|p2 jo (p2 jq (p2 jJ (pV 0)<|pI 24)<|p2 yT (pV 4)<|pV 4)<|pCB vB #[pV 2])<|pI 0,pF<|pV 5])
def qv:FS:=(jf (jM (dP<|ky pN)<|jd [] 3)<|jf (sIf (dPT<|je<|p2 Jg (pV 2)<|ky pN) (J2 (JO #[pCB xc #[pCB vB #[pV 1],p2 jo (pV 0)<|pI 4]]) (jd [] 4) kC)
 jx)<|ym<|dMv 3)
def vy:List D->Option D:=fnP 6 qv
def Ys:FS:=(ym<|dP<|vh #[pCB KJ #[p2 jc (pV 0)<|pI 0],pCB KJ #[p2 jc (pV 0)<|pI 1],pCB KJ #[p2 jc (pV 0)<|pI 2],pCB KJ #[p2 jc (pV 0)<|pI 3],pF<|p2 jc (pV 0)<|pI 4])
def v9:List D->Option D:=fnP 1 Ys
def vt:FS:=(sIf (dPT<|qOr (xQ<|je<|YJ "int"<|pV 2)<|je<|YJ "bool"<|pV 2) (ym<|dP<|pC<|.bl false)
 jx)
def ku:FS:=(jf (sIf (dPT<|qOr (xQ<|je<|YJ "tuple"<|pV 1)<|je<|p2 Jg (pCB vB #[pV 1])<|pI 5) (ym<|dP<|pC<|.bl false)
 jx)<|jf (sIf (dPT<|qOr (xQ<|je<|YJ "str"<|p2 jc (pV 1)<|pI 1)<|xQ<|je<|YJ "str"<|p2 jc (pV 1)<|pI 2) (ym<|dP<|pC<|.bl false)
 jx)<|J2 (pIt<|vh #[pF<|p2 jc (pV 1)<|pI 0,pF<|p2 jc (pV 1)<|pI 3,pF<|p2 jc (pV 1)<|pI 4]) (jd [] 2) vt)
def Yp:FS:=(jf (sIf (dPT<|qOr (xQ<|je<|YJ "tuple"<|pV 0)<|qOr (je<|p2 Jg (pCB vB #[pV 0])<|pI 3)<|xQ<|je<|YJ "list"<|p2 jc (pV 0)<|pI 0) (ym<|dP<|pC<|.bl false)
 jx)<|jf (J2 (pIt<|pF<|p2 jc (pV 0)<|pI 0) (jd [] 1) ku)<|ym<|dP<|pC<|.bl true)
def ki:List D->Option D:=fnP 3 Yp
def yM:FS:=(jf (jM (dP<|p2 jq (pCB vB #[p2 jc (pV 1)<|pI 1])<|pV 3)<|jd [] 5)<|sIf (dPT<|je<|p2 vC (p2 jc (pV 4)<|pI 0)<|pS [115,104,97,114,101]) (jfc 2<|y9 (VA<|p2 jc (pV 4)<|pI 1) (jd [] 0) qT (vh #[pF<|pV 1,pS [115,104,97,114,101],pF<|pV 0]) [none,some 5])<|K4 2<|vh #[pF<|pV 5,pF<|p2 jc (pV 4)<|pI 0,pF<|p2 jc (pV 4)<|pI 1])
def Ve:FS:=(jf (jM (dP<|y9 (Yc #[pF<|p2 jc (pV 1)<|pI 1]) (gT 2<|gC (jd [] 0)<|gC (jd [] 1) gN) qT (vh #[pF<|pV 0,pS [112,97,114,116],pF<|p2 jc (pV 1)<|pI 0]) [none,none])<|jd [] 2)<|jf (J2 (Yc #[pF<|p2 jc (pV 1)<|pI 2]) (gT 2<|gC (jd [] 3)<|gC (jd [] 4) gN) yM)<|ym<|dP<|p2 jq (pV 2)<|y9 (Yc #[pF<|p2 jc (pV 0)<|pI 6]) (gT 2<|gC (jd [] 0)<|gC (jd [] 1) gN) qT (vh #[pF<|pV 0,pS [103,117,97,114,100],pF<|p2 jc (pV 1)<|pI 1]) [none,none])
def kQ:List D->Option D:=fnP 6 Ve
def vM:FS:=(VC 3 (zw [108,111,97,110,115] ve) (pV 4) (pV 5)<|pV 6)
def Y1:FS:=(jf (jM (dP<|jbc<|xH (pS [111,119,101,100]) (pCB yZ #[p2 jc (pV 1)<|pI 1])<|xH (pS [115,105,122,101,115]) (pCB yZ #[p2 jc (pV 1)<|pI 0])<|xH (pS [108,101,118,101,108,115]) (pCB yZ #[p2 jc (pV 1)<|pI 3])<|xH (pS [109,111,118,101,115]) (ky pN) prN)<|jd [] 3)<|jf (vf 3 ve (pS [108,111,97,110,115])<|pC<|.dT true [] [])<|jf (J2 (pIt<|pF<|pV 2) (gT 3<|gC (jd [] 4)<|gC (jd [] 5)<|gC (jd [] 6) gN) vM)<|ym<|dMv 3)
def kY:List D->Option D:=fnP 7 Y1
def vo:FS:=(jf (jh8 (dP<|pF<|pV 2)<|gT 3<|gC (jd [] 5)<|gC (jd [] 6)<|gC (jd [] 7) gN)<|jf (sIf (dPT<|je<|p2 (Jf false) (pV 6)<|vh #[pS [112,97,121],pS [115,104,97,114,101],pS [103,117,97,114,100]]) (ym<|dP<|pF<|p2 jr (p2 jr (pV 1)<|pS [111,119,101,100])<|pV 7)
 jx)<|jf (sIf (dPT<|je<|p2 vC (pV 6)<|pS [114,101,112,97,121]) (ym<|dP<|p2 jq (p2 jr (p2 jr (pV 1)<|pS [111,119,101,100])<|pV 7)<|p2 jr (p2 jr (pV 1)<|pS [115,105,122,101,115])<|pV 7)
 jx)<|jf (sIf (dPT<|je<|p2 vC (pV 6)<|pS [102,105,108,108]) (ym<|dP<|p2 vk (p2 jr (pCB yZ #[p2 jc (pV 0)<|pI 2])<|pV 7)<|p2 jr (p2 jr (pV 1)<|pS [108,101,118,101,108,115])<|pV 7)
 jx)<|jf (sIf (dPT<|je<|p2 vC (pV 6)<|pS [108,101,110,100]) (ym<|dP<|pCB jiK #[pI 0,p2 vk (pV 4)<|YI (p2 jr (pV 1)<|pS [108,111,97,110,115]) (p2 jc (pV 0)<|pI 0) (pV 7)<|pI 0])
 jx)<|jf (sIf (dPT<|je<|p2 vC (pV 6)<|pS [98,97,99,107]) (ym<|dP<|pF<|YI (p2 jr (pV 1)<|pS [108,111,97,110,115]) (pV 7) (p2 jc (pV 0)<|pI 0)<|pI 0)
 jx)<|ym<|dP<|pF<|pV 3)
def jG:List D->Option D:=fnP 8 vo
def yC:FS:=(jf (jh8 (dP<|pF<|pV 2)<|gT 3<|gC (jd [1] 4)<|gC (jd [1] 5)<|gC (jd [1] 6) gN)<|jf (sIf (dPT<|je<|p2 (Jf false) (pV 5)<|vh #[pS [112,97,121],pS [115,104,97,114,101],pS [103,117,97,114,100],pS [114,101,112,97,121]]) (jf (jM (dP<|pCB xc #[pV 3,p2 jr (p2 jr (pV 1)<|pS [111,119,101,100])<|pV 6])<|jd [1] 7)<|jf (vf 1 (zw [111,119,101,100] ve) (pV 6)<|p2 vk (p2 jr (p2 jr (pV 1)<|pS [111,119,101,100])<|pV 6)<|pV 7)<|vf 1 (zw [115,105,122,101,115] ve) (pV 6)<|p2 vk (p2 jr (p2 jr (pV 1)<|pS [115,105,122,101,115])<|pV 6)<|p2 vk (pV 3)<|pV 7)<|sIf (dPT<|je<|p2 vC (pV 5)<|pS [102,105,108,108]) (vf 1 (zw [108,101,118,101,108,115] ve) (pV 6)<|p2 jq (p2 jr (p2 jr (pV 1)<|pS [108,101,118,101,108,115])<|pV 6)<|pV 3)<|sIf (dPT<|je<|p2 vC (pV 5)<|pS [108,101,110,100]) (VC 1 (zw [108,111,97,110,115] ve) (p2 jc (pV 0)<|pI 0) (pV 6)<|p2 jq (YI (p2 jr (pV 1)<|pS [108,111,97,110,115]) (p2 jc (pV 0)<|pI 0) (pV 6)<|pI 0)<|pV 3)<|sIf (dPT<|je<|p2 vC (pV 5)<|pS [98,97,99,107]) (VC 1 (zw [108,111,97,110,115] ve) (pV 6) (p2 jc (pV 0)<|pI 0)<|p2 vk (YI (p2 jr (pV 1)<|pS [108,111,97,110,115]) (pV 6) (p2 jc (pV 0)<|pI 0)<|pI 0)<|pV 3)
 jx)<|sIf (dPT<|Qf (je<|p2 (Jf false) (pV 5)<|vh #[pS [108,101,110,100],pS [98,97,99,107]])<|je<|p2 jaa (pV 3)<|pI 0) (vx 1 (zw [109,111,118,101,115] ve)<|vh #[pF<|pV 5,pF<|pV 6,pF<|pV 3])
 jx)
def ju:List D->Option (D×D):=fnM 8 1 yC
def VL:FS:=(jf (jM (dP<|pF<|p2 jc (p2 jc (p2 jc (pV 0)<|pI 6)<|pV 2)<|pI 0)<|jd [1] 4)<|jf (jM (dP<|pCB xc #[p2 jr (p2 jr (pV 1)<|pS [111,119,101,100])<|p2 jc (pV 3)<|pI 2,p2 jr (p2 jr (pV 1)<|pS [108,101,118,101,108,115])<|pV 4])<|jd [1] 5)<|jf (sIf (dPT<|qOr (je<|p2 Jg (p2 jc (pV 3)<|pI 3)<|p2 jr (p2 jr (pV 1)<|pS [111,119,101,100])<|p2 jc (pV 3)<|pI 2)<|je<|p2 Jg (p2 jc (pV 3)<|pI 4)<|pV 5) (ym<|dP<|pC<|.bl false)
 jx)<|jf (vf 1 (zw [108,101,118,101,108,115] ve) (pV 4)<|p2 vk (p2 jr (p2 jr (pV 1)<|pS [108,101,118,101,108,115])<|pV 4)<|pV 5)<|ym<|dP<|pC<|.bl true)
def qf:List D->Option (D×D):=fnM 6 1 VL
def qX:FS:=(jf (sIf (dPT<|je<|p2 jdx (pV 1)<|pCB vB #[p2 jc (pV 0)<|pI 1]) (ym<|dP<|pI 0)
 jx)<|jf (jM (dP<|pF<|p2 jc (p2 jc (pV 0)<|pI 2)<|p2 vk (pV 1)<|pCB vB #[p2 jc (pV 0)<|pI 1])<|jd [] 2)<|jf (sIf (dPT<|je<|p2 vC (p2 jc (pV 2)<|pI 0)<|pS [108,101,110,100]) (ym<|dP<|pF<|p2 jc (pV 2)<|pI 2)
 jx)<|ym<|dP<|pI 0)
def yX:List D->Option D:=fnP 3 qX
def yg:FS:=(jf (jM (dP<|y9 (VA<|pV 1) (jd [] 0) (Qf (je<|p2 vC (p2 jc (pV 0)<|pI 0)<|p2 jq (pCB vB #[p2 jc (pV 1)<|pI 1])<|pV 2)<|je<|p2 vC (p2 jc (pV 0)<|pI 1)<|p2 jc (pV 3)<|pI 0) (pF<|pV 0) [none,some 0,some 3,some 4])<|jd [] 5)<|jf (jM (dP<|pCB zk #[y9 (VA<|pV 5) (jd [] 0) qT (pF<|p2 jc (pV 0)<|pI 3) [none]])<|jd [] 6)<|jf (jM (dP<|jdy (p2 jaa (pV 6)<|pI 0)<|p2 vC (pV 6)<|pCB zk #[y9 (VA<|pV 5) (jd [] 0) qT (pF<|p2 jc (pV 0)<|pI 4) [none]])<|jd [] 7)<|sIf (dPT<|Qf (je<|pV 7)<|je<|p2 (Jf false) (p2 jc (pV 4)<|pI 0)<|vh #[pS [112,97,121],pS [115,104,97,114,101],pS [114,101,112,97,121]]) (jfc 2<|y9 (VA<|pV 5) (jd [] 0) qT (pF<|p2 jc (pV 0)<|pI 2) [none])
 jx)
def Yw:FS:=(jf (jM (dP<|ky pN)<|jd [] 2)<|jf (J2 (Yc #[pF<|p2 jc (pV 0)<|pI 2]) (gT 2<|gC (jd [] 3)<|gC (jd [] 4) gN) yg)<|ym<|dMv 2)
def vZ:List D->Option D:=fnP 8 Yw
def yA:FS:=(jf (jM (dP<|jdy (p2 jaa (p2 jc (pV 4)<|pI 1)<|pI 0)<|p2 (Jf true) (p2 jc (pV 5)<|pI 0)<|pV 2)<|jd [] 6)<|K4 3<|vh #[pF<|p2 jc (pV 5)<|pI 0,pIf (je<|pV 6) (p2 jq (p2 jc (pV 5)<|pI 1)<|pI 1)<|pI 0])
def YA:FS:=(jf (jM (dP<|ky pN)<|jd [] 3)<|jf (J2 (jlB #[pF<|p2 jc (pV 1)<|pI 0,pF<|p2 jc (pV 1)<|pI 2]) (gT 2<|gC (jd [] 4)<|gC (jd [] 5) gN) yA)<|jf (jM (dP<|y9 (VA<|p2 jc (pV 1)<|pI 0) (gT 2<|gC (jd [] 0)<|gC (jd [] 1) gN) qT (vh #[pF<|pV 0,pF<|p2 jr (p2 jr (pV 2)<|pS [115,105,122,101,115])<|pV 0]) [none,none,some 0])<|jd [] 7)<|jf (jM (dP<|y9 (VA<|p2 jc (pV 1)<|pI 1) (gT 2<|gC (jd [] 0)<|gC (jd [] 1) gN) qT (vh #[pF<|pV 0,pF<|p2 jr (p2 jr (pV 2)<|pS [111,119,101,100])<|pV 0]) [none,none,some 0])<|jd [] 8)<|sFz 7<|sFz 8<|sFz 3<|ym<|dP<|vh #[pF<|pV 7,pF<|pV 8,pF<|pV 3,y9 (VA<|p2 jc (pV 1)<|pI 3) (gT 2<|gC (jd [] 0)<|gC (jd [] 1) gN) qT (vh #[pF<|pV 0,pF<|p2 jr (p2 jr (pV 2)<|pS [108,101,118,101,108,115])<|pV 0]) [none,none,some 0],pF<|p2 jc (pV 1)<|pI 4])
def kh:List D->Option D:=fnP 9 YA
def wE:FS:=(jf (jM (dP<|jT qc #[pV 0])<|jd [] 2)<|jf (sIf (dPT<|je<|p2 jaa (pV 2)<|pI 10) (jf (jM (dP<|y9 (VA<|pV 0) (jd [] 0) qT (p2 jJ (p2 jq (p2 yT (pV 1)<|p2 jc (pV 0)<|pI 1)<|pI 9)<|pI 10) [none,some 1])<|jd [] 3)<|ym<|jdb 3 #[p2 vk (pCB zk #[pV 3])<|pV 1])
 jx)<|jf (jM (dP<|y9 (VA<|pV 0) (jd [] 0) qT (p2 jJ (p2 yT (pV 1)<|p2 jc (pV 0)<|pI 1)<|pI 10) [none,some 1])<|jd [] 3)<|jf (jM (dP<|p2 vk (p2 jJ (p2 yT (pV 1)<|pV 2)<|pI 10)<|pCB zk #[pV 3])<|jd [] 4)<|sFz 3<|ym<|dP<|vh #[y9 (Yc #[pF<|pV 3]) (gT 2<|gC (jd [] 0)<|gC (jd [] 1) gN) qT (pIf (je<|p2 jdx (pV 0)<|pV 2) (p2 jq (pV 1)<|pI 1)<|pF<|pV 1) [none,none,some 4],pI 0])
def Vz:List D->Option D:=fnP 5 wE
def vR:FS:=(jf (JI 0 0 "pool_name"<|pF<|p2 jc (pV 1)<|pI 0)<|jf (JI 0 0 "marks"<|pCB yZ #[p2 jc (pV 1)<|pI 2])<|jf (JI 0 0 "sizes"<|pCB yZ #[p2 jc (pV 2)<|pI 0])<|jf (JI 0 0 "owed"<|pCB yZ #[p2 jc (pV 2)<|pI 1])<|jf (JI 0 0 "levels"<|pCB yZ #[p2 jc (pV 2)<|pI 3])<|jf (JI 0 0 "loans"<|jT y6 #[pV 4])<|jf (JI 0 0 "cash"<|pF<|pV 3)<|jf (JI 0 0 "served"<|pC<|.dK true [] [])<|jf (JI 0 0 "entries"<|ky pN)<|JI 0 0 "moves"<|ky pN)
def vb:List D->Option (D×D):=fnM 5 0 vR
def yF:FS:=(sIf (dPT<|je<|p2 vC (pV 1)<|pS [112,97,121]) (vG 0 (qW 0 "owed" ve) (pV 2) (λm n=>m-n)<|pV 3)<|sIf (dPT<|je<|p2 vC (pV 1)<|pS [114,101,112,97,121]) (jf (jM (dP<|pCB xc #[pV 3,p2 jr (Jp 0 "owed"<|pV 0)<|pV 2])<|jd [0] 4)<|jf (vG 0 (qW 0 "owed" ve) (pV 2) (λm n=>m-n)<|pV 4)<|vG 0 (qW 0 "sizes" ve) (pV 2) (λm n=>m-n)<|p2 vk (pV 3)<|pV 4)<|sIf (dPT<|je<|p2 vC (pV 1)<|pS [102,105,108,108]) (vG 0 (qW 0 "levels" ve) (pV 2) (λm n=>m+n)<|pV 3)<|sIf (dPT<|Qf (je<|p2 (Jf false) (pV 1)<|vh #[pS [108,101,110,100],pS [98,97,99,107]])<|je<|p2 jaa (pV 3)<|pI 0) (jf (K8<|VD vq 0 (qW 0 "loans" ve) #[pF<|Jp 0 "pool_name"<|pV 0,pF<|pV 1,pF<|pV 2,pF<|pV 3])<|vx 0 (qW 0 "moves" ve)<|vh #[pF<|pV 1,pF<|pV 2,pF<|pV 3])
 jx)
def jt:List D->Option (D×D):=fnM 5 0 yF
def yW:FS:=(jf (Yv 0 ve 0 "cash" (λm n=>m-n)<|pV 8)<|jf (vG 0 (qW 0 "owed" ve) (pV 6) (λm n=>m-n)<|pV 8)<|jf (vx 0 (qW 0 "entries" ve)<|vh #[pF<|pV 1,pS [115,104,97,114,101],pF<|pV 6,pF<|pV 7,pF<|pV 8])<|sIf (dPT<|je<|pV 5) (vf 0 (qW 0 "served" ve) (pV 6)<|pC<|.bl true)
 jx)
def vj:FS:=(jf (jM (dP<|y9 (VA<|pV 2) (jd [] 0) qT (pF<|p2 jr (Jp 0 "owed"<|pV 1)<|pV 0) [none,some 0])<|jd [0] 3)<|jf (jM (dP<|jT JV #[pV 3,Jp 0 "cash"<|pV 0])<|jd [0] 4)<|jf (jM (dP<|jdy (p2 jaa (pCB zk #[pV 3])<|pI 0)<|p2 vC (pV 4)<|pV 3)<|jd [0] 5)<|sFz 3<|sFz 4<|J2 (pZ3 #[pF<|pV 2,pF<|pV 3,pF<|pV 4]) (gT 3<|gC (jd [0] 6)<|gC (jd [0] 7)<|gC (jd [0] 8) gN) yW)
def jQ:List D->Option (D×D):=fnM 9 0 vj
def vK:FS:=(jf (jM (dP<|y9 (JO #[pV 5]) (jd [] 0) qT (pF<|pV 1) [none,some 3])<|jd [] 9)<|jf (jM (dP<|pF<|p2 jc (pV 4)<|p2 jo (p2 jq (p2 jJ (pV 2)<|pI 4200)<|p2 yT (pI 3)<|pV 8)<|pI 20)<|gIx [] 9<|pV 6)<|jf (jM (dP<|pF<|p2 jc (pV 4)<|p2 jo (p2 jq (p2 jJ (pV 2)<|pI 84000)<|p2 jJ (pV 8)<|pI 20)<|pI 20)<|gIx [] 9<|p2 jo (p2 jq (pV 6)<|pI 1)<|pV 5)<|K4 7<|pBM "str" jao (pS []) #[pV 9])
def Jx:FS:=(jf (jM (dP<|jT jw #[pV 0,pI 3])<|jd [] 2)<|jf (jM (dP<|pF<|p2 jc (pS [97,98,99,100,101,102,103,104,105,106,107,108,109,110,112,113,114,115,116,117,118,119,120,121,122])<|p2 jo (pV 2)<|pI 25)<|jd [] 3)<|jf (jM (dP<|pS [98,99,100,102,103,104,106,107,108,109,110,112,113,114,115,116,118,119,120,122])<|jd [] 4)<|jf (sIf (dPT<|Qf (je<|p2 vC (p2 jo (p2 jJ (pV 2)<|pI 25)<|pI 3)<|pI 0)<|je<|p2 jdx (pV 1)<|pI 9) (ym<|dP<|y9 (JO #[pV 1]) (jd [] 0) qT (p2 yT (pV 1)<|p2 vk (pV 2)<|pV 0) [none,some 3,some 1])
 jx)<|jf (jM (dP<|p2 jq (pI 2)<|p2 jo (p2 jJ (pV 2)<|pI 75)<|pI 7)<|jd [] 5)<|jf (jM (dP<|p2 jo (p2 jJ (pV 2)<|pI 525)<|pV 5)<|jd [] 6)<|jf (jM (dP<|ky pN)<|jd [] 7)<|jf (J2 (JO #[pV 1]) (jd [] 8) vK)<|ym<|dMv 7)
def yc:List D->Option D:=fnP 10 Jx
def kz:FS:=(jf (jM (dP<|jT jw #[pV 0,p2 jq (pI 20)<|pV 4])<|jd [] 5)<|jf (jM (dP<|jT yt #[p2 jq (pV 0)<|pV 4,p2 jo (pV 5)<|pI 1009,p2 jc (ky #[pI 30,p2 YZ (pI 10)<|pI 12])<|p2 jo (p2 jJ (pV 5)<|pI 1009)<|pI 2])<|jd [] 6)<|K4 3<|vh #[pF<|p2 jc (pV 1)<|p2 jq (pI 1)<|pV 4,pF<|pV 6,jT yt #[p2 jq (pV 0)<|pV 4,p2 jo (p2 jJ (pV 5)<|pI 2018)<|pI 997,p2 jc (ky #[pI 9,p2 YZ (pI 10)<|pI 12])<|p2 jo (p2 jJ (pV 2)<|pI 6)<|pI 2]])
def Yq:FS:=(jf (jM (dP<|ky pN)<|jd [] 3)<|jf (J2 (JO #[p2 jq (pI 1)<|p2 jo (pV 2)<|pI 6]) (jd [] 4) kz)<|ym<|dMv 3)
def vY:List D->Option D:=fnP 7 Yq
def yz:FS:=(jf (jM (dP<|pF<|p2 jc (pV 5)<|p2 jo (pV 0)<|pCB vB #[pV 5])<|jd [] 6)<|jf (sIf (dPT<|Qf (je<|p2 vC (pV 6)<|pS [115,104,97,114,101])<|je<|p2 jaa (pCB vB #[pV 3])<|pI 1) (jf (jM (dP<|p2 jq (pI 2)<|p2 jo (p2 jJ (pV 0)<|pI 64)<|p2 vk (pCB vB #[pV 3])<|pI 1)<|jd [] 7)<|ym<|dP<|vh #[pS [115,104,97,114,101],pCB wL #[y9 (JO #[pV 7]) (jd [] 0) qT (pF<|p2 jc (pV 1)<|p2 jo (p2 jq (p2 jJ (pV 2)<|pI 9)<|pV 0)<|pCB vB #[pV 1]) [none,some 3,some 0]]])
 jx)<|jf (sIf (dPT<|Qf (je<|p2 vC (pV 6)<|pS [114,101,112,97,121])<|je<|p2 Jg (pV 3)<|ky pN) (ym<|dP<|vh #[pS [114,101,112,97,121],pF<|p2 jc (pV 3)<|p2 jo (p2 jJ (pV 0)<|pI 9)<|pCB vB #[pV 3]])
 jx)<|jf (sIf (dPT<|Qf (je<|p2 vC (pV 6)<|pS [102,105,108,108])<|je<|p2 Jg (pV 2)<|ky pN) (ym<|dP<|vh #[pS [102,105,108,108],pF<|p2 jc (p2 jc (pV 2)<|p2 jo (p2 jJ (pV 0)<|pI 9)<|pCB vB #[pV 2])<|pI 0])
 jx)<|jf (sIf (dPT<|je<|p2 vC (pV 6)<|pS [108,101,110,100]) (ym<|dP<|vh #[pS [108,101,110,100],pF<|p2 jc (pV 4)<|p2 jo (p2 jJ (pV 0)<|pI 9)<|pI 2,jT yt #[pV 0,p2 jo (p2 jJ (pV 0)<|pI 18)<|pI 1009,p2 jc (ky #[pI 9,p2 YZ (pI 10)<|pI 12])<|p2 jo (p2 jJ (pV 0)<|pI 27)<|pI 2]])
 jx)<|jf (sIf (dPT<|je<|p2 vC (pV 6)<|pS [98,97,99,107]) (ym<|dP<|vh #[pS [98,97,99,107],pF<|p2 jc (pV 4)<|p2 jo (p2 jJ (pV 0)<|pI 9)<|pI 2])
 jx)<|ym<|dP<|vh #[pS [112,97,121],pF<|p2 jc (p2 jc (pV 1)<|p2 jo (p2 jJ (pV 0)<|pI 9)<|pCB vB #[pV 1])<|pI 0])
def j9:List D->Option D:=fnP 8 yz
def vA:FS:=(jf (jM (dP<|jT jw #[pV 0,p2 jq (pI 200)<|pV 5])<|jd [] 7)<|jf (jM (dP<|pF<|p2 jc (ky #[pF<|p2 jc (pV 6)<|pI 1,pI 1,p2 jq (pI 1)<|p2 jo (p2 jJ (pV 7)<|pI 35)<|p2 jc (pV 6)<|pI 1])<|p2 jo (p2 jJ (pV 7)<|pI 5)<|pI 3)<|jd [] 8)<|jf (jM (dP<|p2 jq (p2 jc (pV 6)<|pI 2)<|p2 jc (ky #[pI 0,p2 jo (p2 jJ (pV 7)<|pI 7)<|p2 jq (p2 yT (pI 2)<|p2 jc (pV 6)<|pI 2)<|pI 1,p2 jo (p2 jJ (pV 7)<|pI 15)<|p2 YZ (pI 10)<|pI 13])<|p2 jo (p2 jJ (pV 7)<|pI 15)<|pI 3)<|jd [] 9)<|jf (sIf (dPT<|je<|p2 vC (p2 jo (pV 7)<|pI 5)<|pI 0) (jf (jM (dP<|pI 0)<|jd [] 8)<|jM (dP<|pI 0)<|jd [] 9)
 jx)<|jf (K4 2<|vh #[pF<|p2 jc (pV 6)<|pI 0,pF<|pV 8])<|jf (K4 3<|vh #[pF<|p2 jc (pV 6)<|pI 0,pF<|pV 9])<|K4 4<|vh #[pF<|p2 jc (pV 6)<|pI 0,p2 jo (p2 jJ (pV 7)<|pI 45)<|pI 4])
def ke:FS:=(jf (jM (dP<|jT jw #[pV 0,p2 jq (pI 210)<|pV 5])<|jd [] 7)<|K4 10<|vh #[pF<|p2 jc (pV 11)<|pI 0,pF<|p2 jc (ky #[pI 0,pF<|p2 jc (pV 11)<|pI 1,p2 jo (p2 jJ (pV 7)<|pI 3)<|p2 jq (p2 jc (pV 11)<|pI 1)<|pI 1])<|p2 jo (pV 7)<|pI 3])
def KC:FS:=(jf (jM (dP<|ky pN)<|jd [] 2)<|jf (jM (dP<|ky pN)<|jd [] 3)<|jf (jM (dP<|ky pN)<|jd [] 4)<|jf (J2 (Yc #[pF<|p2 jc (pV 1)<|pI 1]) (gT 2<|gC (jd [] 5)<|gC (jd [] 6) gN) vA)<|jf (jM (dP<|ky pN)<|jd [] 10)<|jf (J2 (Yc #[pF<|p2 jc (pV 1)<|pI 2]) (gT 2<|gC (jd [] 5)<|gC (jd [] 11) gN) ke)<|sFz 2<|sFz 3<|sFz 4<|sFz 10<|ym<|dP<|vh #[pF<|pV 2,pF<|pV 3,pF<|pV 4,pF<|pV 10,p2 jo (jT jw #[pV 0,pI 220])<|pI 50])
def Jd:List D->Option D:=fnP 12 KC
def yq:FS:=(jf (jM (dP<|jT jw #[pV 0,p2 jq (pI 230)<|pV 4])<|jd [] 6)<|jf (sIf (dPT<|je<|p2 vC (p2 jo (pV 6)<|pI 2)<|pI 0) (K4 3<|vh #[pF<|p2 jc (pV 1)<|pI 0,pF<|pV 5,jT yt #[pV 6,p2 jo (p2 jJ (pV 6)<|pI 2)<|pI 1009,p2 jc (ky #[pI 9,p2 YZ (pI 10)<|pI 12])<|p2 jo (p2 jJ (pV 6)<|pI 11)<|pI 2]])
 jx)<|sIf (dPT<|je<|p2 vC (p2 jo (p2 jJ (pV 6)<|pI 2)<|pI 2)<|pI 0) (K4 3<|vh #[pF<|pV 5,pF<|p2 jc (pV 1)<|pI 0,jT yt #[pV 6,p2 jo (p2 jJ (pV 6)<|pI 4)<|pI 1009,p2 jc (ky #[pI 9,p2 YZ (pI 10)<|pI 12])<|p2 jo (p2 jJ (pV 6)<|pI 13)<|pI 2]])
 jx)
def Vg:FS:=(jf (jM (dP<|ky pN)<|jd [] 3)<|jf (J2 (Yc #[pF<|pV 2]) (gT 2<|gC (jd [] 4)<|gC (jd [] 5) gN) yq)<|ym<|dP<|pCB Y3 #[pV 3])
def qe:List D->Option D:=fnP 7 Vg
def Ks:FS:=(jf (jM (dP<|jT jw #[pV 0,pI 240])<|jd [] 3)<|jf (jM (dP<|p2 jq (pCB zk #[y9 (VA<|p2 jq (p2 jc (pV 2)<|pI 0)<|p2 jc (pV 2)<|pI 1) (gT 2<|gC (jd [] 0)<|gC (jd [] 1) gN) qT (pF<|pV 1) [none,none]])<|pCB zk #[y9 (VA<|p2 jc (pV 1)<|pI 2) (gT 2<|gC (jd [] 0)<|gC (jd [] 1) gN) qT (pF<|pV 1) [none,none]])<|jd [] 4)<|jf (jM (dP<|pCB zk #[y9 (VA<|pSl (p2 jc (pV 2)<|pI 1) oN<|oS<|p2 jq (pI 1)<|p2 jo (p2 jJ (pV 3)<|pI 6)<|pI 6) (gT 2<|gC (jd [] 0)<|gC (jd [] 1) gN) qT (pF<|pV 1) [none,none]])<|jd [] 5)<|ym<|dP<|pF<|p2 jc (ky #[pI 0,p2 jq (pI 1)<|p2 jo (p2 jJ (pV 3)<|pI 6)<|pI 9,pF<|pV 5,p2 yT (pV 5)<|p2 jq (pI 1)<|p2 jo (p2 jJ (pV 3)<|pI 36)<|pI 3,p2 jo (p2 yT (pV 3)<|pV 3)<|p2 jq (pV 4)<|pI 2,p2 jq (p2 yT (pV 4)<|pI 3)<|pV 3])<|p2 jo (pV 3)<|pI 6)
def qL:List D->Option D:=fnP 6 Ks
def jl:FS:=(jf (sIf (dPT<|qOr (je<|p2 Jg (pSl (pV 9) oN<|oS<|pI 3)<|pV 8)<|xQ<|je<|jcp jns jns (pI 0) (p2 jc (pV 9)<|pI 4)<|p2 jc (pV 9)<|pI 3) (ym<|dP<|pC<|.bl false)
 jx)<|jf (sIf (dPT<|je<|p2 vC (p2 jc (pV 8)<|pI 1)<|pS [103,117,97,114,100]) (sIf (jiN<|wq<|Ko qf 2 1<|ja (pF<|pV 0)<|pFs #[pF<|p2 jc (pV 8)<|pI 0,pF<|pV 9]) (ym<|dP<|pC<|.bl false)
 jx)<|sIf (dPT<|je<|p2 Jg (p2 jc (pV 8)<|pI 1)<|pS [112,97,114,116]) (jf (sIf (dPT<|je<|p2 Jg (p2 jc (pV 9)<|pI 3)<|jT jG #[pV 0,pV 2,pV 8,pV 6,jT yX #[pV 1,p2 jc (pV 8)<|pI 0]]) (ym<|dP<|pC<|.bl false)
 jx)<|jf (sIf (dPT<|Qf (je<|p2 jaa (p2 jc (pV 9)<|pI 4)<|pI 0)<|Qf (je<|p2 jmH (pV 7)<|pI 0)<|je<|p2 jdx (pV 7)<|p2 jc (pV 8)<|pI 0) (ym<|dP<|pC<|.bl false)
 jx)<|sIf (dPT<|Qf (je<|p2 jdx (p2 jc (pV 9)<|pI 4)<|p2 jc (pV 9)<|pI 3)<|je<|p2 jdx (pV 7)<|pI 0) (jM (dP<|pF<|p2 jc (pV 8)<|pI 0)<|jd [2] 7)
 jx)
 jx)<|jf (sIf (dPT<|je<|p2 Jg (p2 jc (pV 8)<|pI 1)<|pS [103,117,97,114,100]) (jM (dP<|p2 vk (pV 6)<|p2 jc (pV 9)<|pI 4)<|jd [2] 6)
 jx)<|K8<|Ko ju 2 1<|ja (pF<|pV 0)<|pFs #[pF<|pV 8,pF<|p2 jc (pV 9)<|pI 4])
def Yy:FS:=(jf (jM (dP<|pF<|pV 5)<|jd [2] 6)<|jf (jM (dP<|p1 xj<|pI 1)<|jd [2] 7)<|jf (J2 (jlB #[pF<|pV 3,pF<|pV 4]) (gT 2<|gC (jd [2] 8)<|gC (jd [2] 9) gN) jl)<|ym<|dP<|p2 vC (pV 6)<|pI 0)
def kf:List D->Option (D×D):=fnM 10 2 Yy
def yV:FS:=(jf (jM (dP<|pF<|p2 jc (p2 jc (pV 3)<|pI 0)<|pV 4)<|jd [0] 6)<|jf (jM (dP<|pCB xc #[pV 6,Jp 0 "cash"<|pV 0])<|jd [0] 7)<|jf (Yv 0 ve 0 "cash" (λm n=>m-n)<|pV 7)<|vx 0 (qW 0 "entries" ve)<|vh #[pF<|pV 4,pS [112,97,114,116],pF<|p2 jc (pV 5)<|pI 0,pF<|pV 6,pF<|pV 7])
def vi:FS:=(jf (jM (dP<|pF<|Jp 0 "cash"<|pV 0)<|jd [0] 2)<|jf (jM (dP<|jT Vz #[pV 1,pV 2])<|jd [0] 3)<|jf (J2 (Yc #[pF<|pV 1]) (gT 2<|gC (jd [0] 4)<|gC (jd [0] 5) gN) yV)<|sIf (dPT<|je<|p2 jaa (p2 jc (pV 3)<|pI 1)<|pI 0) (vx 0 (qW 0 "entries" ve)<|vh #[p1 xj<|pI 1,pS [116,119,105,99,101],pS [],pCB zk #[p2 jc (pV 3)<|pI 0],pF<|pV 2])
 jx)
def jZ:List D->Option (D×D):=fnM 8 0 vi
def yy:FS:=(jf (jM (dP<|pF<|p2 jc (pV 2)<|pI 0)<|jd [0] 3)<|jf (jM (dP<|pF<|p2 jc (pV 2)<|pI 1)<|jd [0] 4)<|jf (jM (dP<|Yj jg 0 "need_of" (pV 0) #[pV 2])<|jd [0] 5)<|jf (jM (dP<|pCB xc #[pV 5,Jp 0 "cash"<|pV 0])<|jd [0] 6)<|jf (Yv 0 ve 0 "cash" (λm n=>m-n)<|pV 6)<|jf (vx 0 (qW 0 "entries" ve)<|vh #[pF<|pV 1,pF<|pV 3,pF<|pV 4,pF<|pV 5,pF<|pV 6])<|jf (K8<|vg jt 0 0 "give" #[pF<|pV 3,pF<|pV 4,pF<|pV 6])<|sIf (dPT<|Qf (je<|p2 (Jf false) (pV 3)<|vh #[pS [112,97,121],pS [114,101,112,97,121]])<|Qf (je<|p2 vC (pV 6)<|pV 5)<|je<|p2 jaa (pV 5)<|pI 0) (vf 0 (qW 0 "served" ve) (pV 4)<|pC<|.bl true)
 jx)
def jz:List D->Option (D×D):=fnM 7 0 yy
def kP:FS:=(jf (jM (dP<|p2 jq (pI 1)<|p2 jo (jT jw #[pV 1,p2 jq (p2 jq (pV 3)<|pI 40)<|pV 11])<|p2 jc (ky #[pI 2,pI 3,pI 10])<|p2 jo (p2 jJ (pV 9)<|pI 6)<|pI 3)<|jd [] 12)<|K4 10<|vh #[pF<|p2 jc (p2 jc (pV 4)<|p2 jo (p2 jq (p2 jJ (pV 9)<|pI 18)<|pV 11)<|pCB vB #[pV 4])<|pI 0,pF<|pV 12])
def kN:FS:=(jf (jM (dP<|jT jw #[p2 jq (pV 1)<|jT kI #[pV 0,p2 jq (pV 3)<|pV 14],p2 jq (pV 3)<|pV 14])<|jd [] 15)<|K4 13<|jT j9 #[pV 15,pV 4,pV 5,pV 6,pV 7,pV 8])
def Vo:FS:=(jf (jM (dP<|jT jw #[pV 1,pV 3])<|jd [] 9)<|jf (jM (dP<|ky pN)<|jd [] 10)<|jf (J2 (JO #[pCB xc #[pCB vB #[pV 4],p2 jc (ky #[pI 0,pI 0,pI 1,pI 2,pI 3,pI 6])<|p2 jo (pV 9)<|pI 6]]) (jd [] 11) kP)<|jf (jM (dP<|ky pN)<|jd [] 13)<|jf (sIf (dPT<|je<|p2 Jg (pV 8)<|ky pN) (J2 (JO #[p2 jc (ky #[pI 2,pI 4,pI 8,p2 jq (pI 1)<|p2 jo (p2 jJ (pV 9)<|pI 108)<|pI 8])<|p2 jo (p2 jJ (pV 9)<|pI 864)<|pI 4]) (jd [] 14) kN)
 jx)<|jf (K4 13<|vh #[pS [114,101,115,116],pF<|p2 jc (p2 jc (pV 4)<|p2 jo (p2 jJ (pV 9)<|pI 3456)<|pCB vB #[pV 4])<|pI 0])<|sFz 10<|sFz 13<|ym<|dP<|vh #[pF<|pV 2,pF<|pV 10,pF<|pV 13])
def kK:List D->Option D:=fnP 16 Vo
def qZ:FS:=(sIf (dPT<|je<|p2 vC (p2 jc (pV 8)<|pI 0)<|pS [115,104,97,114,101]) (K8<|vg jQ 6 0 "take_share" #[pF<|pV 7,pF<|p2 jc (pV 8)<|pI 1])<|K8<|vg jz 6 0 "take_rule" #[pF<|pV 7,pF<|pV 8])
def Qs:FS:=(K8<|vg yN 6 0 "take_guard" #[pF<|pV 7,pF<|p2 jc (pV 9)<|pI 0,pF<|p2 jc (pV 9)<|pI 1])
def jfC:FS:=(jf (jM (dP<|jT vI #[pV 0,pV 1])<|jd [] 5)<|jf (jM (dP<|jaA vb 0 #[pF<|pV 0,pF<|pV 2,pF<|pV 3,pF<|pV 4])<|jd [] 6)<|jf (K8<|vg jZ 6 0 "take_parts" #[pF<|p2 jc (pV 5)<|pI 1])<|jf (J2 (jj5 #[pF<|p2 jc (pV 5)<|pI 2] (pCB vB #[p2 jc (pV 5)<|pI 1])) (gT 2<|gC (jd [] 7)<|gC (jd [] 8) gN) qZ)<|jf (J2 (Yc #[pF<|p2 jc (pV 0)<|pI 6]) (gT 2<|gC (jd [] 7)<|gC (jd [] 9) gN) Qs)<|ym<|jiP 6 0 "entries" "moves"<|Yj jW 0 "book_behind" (pV 6) #[pV 2])
def uB:List D->Option D:=fnP 10 jfC
def km:FS:=(jf (jM (dP<|jT yt #[p2 jq (pV 1)<|pV 7,p2 jo (p2 jJ (pV 4)<|p2 jq (pI 36)<|pV 7)<|pI 1009,p2 jc (ky #[pI 9,p2 YZ (pI 10)<|pI 12])<|p2 jo (p2 jJ (pV 4)<|pI 12)<|pI 2])<|jd [] 8)<|K4 6<|vh #[pF<|p2 jc (pV 3)<|p2 jq (pI 7)<|pV 7,pF<|pV 8])
def kc:FS:=(K4 14<|jT kK #[pV 0,pV 1,p2 jc (pV 13)<|pV 7,p2 jq (pI 3)<|p2 yT (pI 9)<|pV 7,pV 5,pV 6,pV 11,pV 12,pV 2])
def Kw:FS:=(jf (jM (dP<|jT yc #[pV 1,pI 12])<|jd [] 3)<|jf (jM (dP<|jT jw #[pV 1,pI 1])<|jd [] 4)<|jf (jM (dP<|jT vY #[pV 1,pV 3,pV 4])<|jd [] 5)<|jf (jM (dP<|ky pN)<|jd [] 6)<|jf (J2 (JO #[p2 jo (p2 jJ (pV 4)<|pI 72)<|pI 4]) (jd [] 7) km)<|jf (jM (dP<|jT vy #[p2 jJ (pV 4)<|pI 288,pV 5,pV 6])<|jd [] 9)<|jf (jM (dP<|y9 (VA<|pV 9) (jd [] 0) qT (pF<|p2 jc (pV 0)<|pI 1) [none])<|jd [] 10)<|jf (jM (dP<|y9 (VA<|pV 5) (jd [] 0) (je<|p2 (Jf true) (p2 jc (pV 0)<|pI 0)<|pV 1) (pF<|p2 jc (pV 0)<|pI 0) [none,some 10])<|jd [] 11)<|jf (jM (dP<|pSl (pV 3) (oS<|pI 10) oN)<|jd [] 12)<|jf (jM (dP<|jT yc #[p2 jq (pV 1)<|pI 1,pI 2])<|jd [] 13)<|jf (sFz 12<|sFz 11<|sFz 6<|sFz 5<|jM (dP<|ky pN)<|jd [] 14)<|jf (J2 (JO #[pI 2]) (jd [] 7) kc)<|jf (jM (dP<|y9 (VA<|pSl (pV 5) oN<|oS<|p2 jo (p2 jJ (pV 4)<|pI 7)<|pI 7) (jd [] 0) qT (pF<|p2 jc (pV 0)<|pI 0) [none])<|jd [] 15)<|sFz 5<|sFz 6<|sFz 15<|sFz 14<|sFz 9<|ym<|dP<|vh #[pF<|p2 jc (pV 3)<|pI 0,pF<|pV 5,pF<|pV 6,pF<|pV 15,pF<|pV 14,ky pN,pF<|pV 9])
def qH:List D->Option D:=fnP 16 Kw
def vJ(yu:List D->Option D):FS:=(sIf (dPT<|xQ<|je<|jT yu #[p2 jc (pV 0)<|pV 2,p2 jc (pV 1)<|pV 2]) (ym<|dP<|pC<|.bl false)
 jx)
def vS(yu:List D->Option D):FS:=(jf (sIf (dPT<|je<|p2 jaV (pV 1)<|pC .non) (ym<|dP<|p2 jaV (pV 0)<|pC .non)
 jx)<|jf (sIf (dPT<|je<|YJ "bool"<|pV 1) (ym<|dP<|jdy (YJ "bool"<|pV 0)<|p2 vC (pV 0)<|pV 1)
 jx)<|jf (sIf (dPT<|je<|YJ "int"<|pV 1) (ym<|dP<|jdy (YJ "int"<|pV 0)<|jdy (jlS<|YJ "bool"<|pV 0)<|p2 vC (pV 0)<|pV 1)
 jx)<|jf (sIf (dPT<|je<|YJ "str"<|pV 1) (ym<|dP<|jdy (YJ "str"<|pV 0)<|p2 vC (pV 0)<|pV 1)
 jx)<|jf (sIf (dPT<|Qf (je<|YJ "tuple"<|pV 1)<|xQ<|je<|YJ "tuple"<|pV 0) (ym<|dP<|pC<|.bl false)
 jx)<|jf (sIf (dPT<|Qf (je<|YJ "list"<|pV 1)<|xQ<|je<|YJ "list"<|pV 0) (ym<|dP<|pC<|.bl false)
 jx)<|jf (sIf (dPT<|je<|p2 Jg (pCB vB #[pV 0])<|pCB vB #[pV 1]) (ym<|dP<|pC<|.bl false)
 jx)<|jf (J2 (JO #[pCB vB #[pV 1]]) (jd [] 2)<|vJ yu)<|ym<|dP<|pC<|.bl true)
def yf:Nat->List D->Option D
 | 0=>λ_=>none
 | n+1=>fnP 3<|vS<|yf n
def yu:List D->Option D:=yf 8
def Q3:FS:=(jf (jM (dP<|ky #[pS [112,97,121],pS [115,104,97,114,101],pS [114,101,112,97,121],pS [102,105,108,108],pS [108,101,110,100],pS [98,97,99,107],pS [112,97,121]])<|jd [] 2)<|jf (sFz 2<|jM (dP<|jT qH #[pV 0,pV 1,pV 2])<|jd [] 3)<|jf (sFz 3<|jM (dP<|pF<|p2 jc (p2 jc (pV 3)<|pI 4)<|p2 jo (jT jw #[pV 1,pI 2])<|pI 2)<|jd [] 4)<|jf (jM (dP<|jT Jd #[pV 1,pV 3])<|jd [] 5)<|jf (jM (dP<|jT qe #[pV 1,pV 3,pFz<|pSl (jT yc #[pV 1,pI 12]) (oS<|pI 10) oN])<|jd [] 6)<|jf (sFz 5<|jM (dP<|jT qL #[pV 1,pV 3,pV 5])<|jd [] 7)<|jf (sFz 6<|jM (dP<|ky #[jT v9 #[pV 5],pCB KJ #[pV 6]])<|jd [] 8)<|jf (jM (dP<|jT uB #[pV 3,p2 jc (pV 4)<|pI 0,p2 jc (pV 8)<|pI 0,pV 7,p2 jc (pV 8)<|pI 1])<|jd [] 9)<|jf (sFz 5<|sFz 6<|sIf (dPT<|qOr (je<|p2 Jg (pV 8)<|ky #[pF<|pV 5,pF<|pV 6])<|xQ<|je<|jT ki #[pV 9]) (ym<|dP<|pC<|.bl false)
 jx)<|jf (jM (dP<|y9 (VA<|p2 jc (pV 9)<|pI 0) (jd [] 0) (je<|p2 Jg (p2 jc (pV 0)<|pI 1)<|pS [116,119,105,99,101]) (pF<|pV 0) [none])<|jd [] 10)<|jf (jM (dP<|jT kQ #[pV 3,pV 4])<|jd [] 11)<|jf (jM (dP<|jT kY #[pV 3,pV 5,pV 6])<|jd [] 12)<|jf (sIf (dPT<|je<|p2 Jg (pCB vB #[pV 10])<|pCB vB #[pV 11]) (ym<|dP<|pC<|.bl false)
 jx)<|jf (sFz 3<|sFz 11<|sFz 10<|sIf (jiN<|wq<|Ko kf 12 2<|ja (pF<|pV 3)<|ja (pF<|pV 4)<|pFs #[pF<|pV 11,pF<|pV 10,pF<|pV 7]) (ym<|dP<|pC<|.bl false)
 jx)<|jf (sFz 10<|sFz 12<|sIf (dPT<|xQ<|je<|jT yu #[p2 jc (pV 9)<|pI 1,pFz<|jT kh #[pV 12,pV 5,pFz<|jT vZ #[pV 4,pV 10]]]) (ym<|dP<|pC<|.bl false)
 jx)<|ym<|dP<|jT yu #[p2 jc (pV 9)<|pI 2,p2 jr (pV 12)<|pS [109,111,118,101,115]])
def JP:List D->Option D:=fnP 13 Q3
def wv:FS:=(sIf (dPT<|xQ<|je<|jT JP #[pV 0,jT jw #[pV 1,p2 jq (pI 700)<|pV 2]]) (ym<|dP<|pC<|.bl false)
 jx)
def jja:FS:=(jf (jM (dP<|jT qU #[pV 0])<|jd [] 1)<|jf (J2 (JO #[pI 4]) (jd [] 2) wv)<|ym<|dP<|pC<|.bl true)
def jan:List D->Option D:=fnP 3 jja
structure Txt(P:Program)(w:World)(K:W5)(mg:W7)(cl:Nat->Addr):Prop where
 C0:Cls K (cl 0)
 mk0:PySem.W.makesIn K (cl 0)=true
 kc0:PySem.W.keepIn K (.ref<|cl 0)=true
 mg0:mg "Fall" = some (.ref<|cl 0)
 N_owed:NoAttr K (cl 0) "owed"
 N_sizes:NoAttr K (cl 0) "sizes"
 N_marks:NoAttr K (cl 0) "marks"
 N_levels:NoAttr K (cl 0) "levels"
 N_loans:NoAttr K (cl 0) "loans"
 N_pool_name:NoAttr K (cl 0) "pool_name"
 N_cash:NoAttr K (cl 0) "cash"
 N_entries:NoAttr K (cl 0) "entries"
 N_served:NoAttr K (cl 0) "served"
 N_moves:NoAttr K (cl 0) "moves"
 n_bool:mg "bool" = none
 n_dict:mg "dict" = none
 n_enumerate:mg "enumerate" = none
 n_int:mg "int" = none
 n_isinstance:mg "isinstance" = none
 n_len:mg "len" = none
 n_list:mg "list" = none
 n_max:mg "max" = none
 n_min:mg "min" = none
 n_range:mg "range" = none
 n_sorted:mg "sorted" = none
 n_str:mg "str" = none
 n_sum:mg "sum" = none
 n_tuple:mg "tuple" = none
 n_zip:mg "zip" = none
 h_tenths_of:k8 K mg "tenths_of" (top 2) ["parts"] 1
 h_order_named:k8 K mg "order_named" (top 4) ["pool","name","order"] 2
 h_loans_by_ends:k8 K mg "loans_by_ends" (top 5) ["loans"] 1
 h_move_loan:k8 K mg "move_loan" (top 6) ["coins_of","pool_name","kind","other","coins"] 5
 h_shared:k8 K mg "shared" (top 8) ["needs","cash","whole","gets","left","at","need"] 2
 h_Fall_need_of:jc7 K (cl 0) "need_of" "Fall.need_of" (qG (top 11) 3) ["self","rule","kind","name"] 2
 h_Fall_take_guard:jc7 K (cl 0) "take_guard" "Fall.take_guard" (qG (top 11) 6) ["self","place","pot","claim","need","got"] 4
 h_Fall_book_behind:jc7 K (cl 0) "book_behind" "Fall.book_behind" (qG (top 11) 7) ["self","book","sizes_ahead","runs","claim","days","missed"] 2
 h_law_cell:k8 K mg "_law_cell" (top 13) ["_law_script","_law_k"] 2
 h_law_mixed:k8 K mg "_law_mixed" (top 14) ["_law_cell_here","_law_k","_law_m"] 2
 h_law_coins:k8 K mg "_law_coins" (top 16) ["_law_cell_here","_law_way","_law_most_here"] 3
 h_law_fold:k8 K mg "_law_fold" (top 18) ["_law_script","_law_number","_law_cell_here"] 1
 h_law_guards:k8 K mg "_law_guards" (top 20) ["_law_m","_law_claims_here","_law_pots","_law_guards_here","_law_j","_law_claim"] 3
 h_law_copied:k8 K mg "_law_copied" (top 27) ["_law_book_here"] 1
 h_law_formed:k8 K mg "_law_formed" (top 28) ["_law_found","_law_entry","_law_x"] 1
 h_law_named:k8 K mg "_law_named" (top 29) ["_law_pool_here","_law_order_here","_law_rows","_law_k","_law_rule_here","_law_place"] 2
 h_law_state:k8 K mg "_law_state" (top 30) ["_law_pool_here","_law_book_here","_law_loans_here","_law_state_here","_law_lender","_law_borrower","_law_coins_here"] 3
 h_law_need:k8 K mg "_law_need" (top 31) ["_law_pool_here","_law_state_here","_law_row","_law_cash","_law_most_here","_law_place","_law_kind","_law_name"] 5
 h_law_given:k8 K mg "_law_given" (top 32) ["_law_pool_here","_law_state_here","_law_row","_law_got","_law_place","_law_kind","_law_name","_law_first"] 4
 h_law_guard:k8 K mg "_law_guard" (top 33) ["_law_pool_here","_law_state_here","_law_k","_law_entry","_law_pot","_law_got"] 4
 h_law_most:k8 K mg "_law_most" (top 34) ["_law_order_here","_law_place","_law_rule_here"] 2
 h_law_served:k8 K mg "_law_served" (top 36) ["_law_order_here","_law_entries","_law_served_here","_law_k","_law_rule_here","_law_mine","_law_needs","_law_full"] 2
 h_law_behind:k8 K mg "_law_behind" (top 37) ["_law_state_here","_law_book_here","_law_served_here","_law_runs","_law_size","_law_run","_law_missed","_law_sizes","_law_owed"] 3
 h_asked:k8 K mg "asked" (top 1) ["parts","came","whole","asks","odd"] 2
 h_Fall___init__:jc7 K (cl 0) "__init__" "Fall.__init__" (qG (top 11) 0) ["self","pool","book","came","loans"] 5
 h_Fall_give:jc7 K (cl 0) "give" "Fall.give" (qG (top 11) 4) ["self","kind","name","coins","from_owed"] 4
 h_Fall_take_share:jc7 K (cl 0) "take_share" "Fall.take_share" (qG (top 11) 5) ["self","place","names","needs","gets","full","name","need","got"] 3
 h_law_names:k8 K mg "_law_names" (top 15) ["_law_cell_here","_law_many","_law_m","_law_base","_law_some","_law_size","_law_at","_law_out","_law_k","_law_signs"] 2
 h_law_claims:k8 K mg "_law_claims" (top 19) ["_law_seed","_law_names_here","_law_m","_law_claims_here","_law_k","_law_n","_law_size"] 3
 h_law_rule:k8 K mg "_law_rule" (top 21) ["_law_n","_law_claims_here","_law_pots","_law_free","_law_others","_law_kinds","_law_kind","_law_size"] 6
 h_law_book:k8 K mg "_law_book" (top 24) ["_law_seed","_law_pool_here","_law_sizes","_law_owed","_law_runs","_law_k","_law_claim","_law_n","_law_size","_law_coins_here","_law_levels","_law_pot"] 2
 h_law_loans:k8 K mg "_law_loans" (top 25) ["_law_seed","_law_pool_here","_law_others","_law_loans_here","_law_k","_law_other","_law_n"] 3
 h_law_came:k8 K mg "_law_came" (top 26) ["_law_seed","_law_pool_here","_law_book_here","_law_n","_law_total","_law_some"] 3
 h_law_walked:k8 K mg "_law_walked" (top 35) ["_law_pool_here","_law_order_here","_law_state_here","_law_rows","_law_entries","_law_came_here","_law_cash","_law_dry","_law_row","_law_entry"] 6
 h_Fall_take_parts:jc7 K (cl 0) "take_parts" "Fall.take_parts" (qG (top 11) 1) ["self","parts","came","told","place","part","ask","got"] 2
 h_Fall_take_rule:jc7 K (cl 0) "take_rule" "Fall.take_rule" (qG (top 11) 2) ["self","place","rule","kind","name","need","got"] 3
 h_law_order:k8 K mg "_law_order" (top 22) ["_law_script","_law_seed","_law_name","_law_at","_law_claims_here","_law_pots","_law_free","_law_others","_law_kinds","_law_m","_law_parts","_law_j","_law_tenths","_law_rules","_law_k","_law_n"] 9
 h_fell:k8 K mg "fell" (top 10) ["pool","order","book","came","loans","rows","fall","place","rule","guard"] 5
 h_law_pool:k8 K mg "_law_pool" (top 23) ["_law_script","_law_seed","_law_kinds","_law_names_here","_law_m","_law_claims_here","_law_pots","_law_k","_law_mark","_law_guards_here","_law_shut","_law_free","_law_others","_law_called","_law_orders","_law_eat"] 3
 h_law_alike:k8 K mg "_law_alike" (top 17) ["_law_found","_law_due","_law_k"] 2
 h_law_one:k8 K mg "_law_one" (top 38) ["_law_script","_law_seed","_law_kinds","_law_pool_here","_law_order_here","_law_book_here","_law_loans_here","_law_came_here","_law_handed","_law_found","_law_entries","_law_rows","_law_state_here"] 2
 h_law:k8 K mg "law" (top 39) ["_law_script","_law_seed","_law_turn"] 1
section
variable {P:Program}{w:World}{K:W5}{mg:W7}{cl:Nat->Addr}(T:Txt P w K mg cl)
include T
set_option maxHeartbeats 40000000 in
def jkB:NP P w cl T.h_tenths_of 1 qc /\
 NP P w cl T.h_order_named 1 vI /\
 NP P w cl T.h_loans_by_ends 1 y6 /\
 NM P w cl T.h_move_loan 1 vq /\
 NP P w cl T.h_shared 1 JV /\
 OP P w cl mg T.h_Fall_need_of 1 jg /\
 OM P w cl mg T.h_Fall_take_guard 1 yN /\
 OP P w cl mg T.h_Fall_book_behind 1 jW /\
 NP P w cl T.h_law_cell 1 kI /\
 NP P w cl T.h_law_mixed 1 jw /\
 NP P w cl T.h_law_coins 1 yt /\
 NP P w cl T.h_law_fold 1 qU /\
 NP P w cl T.h_law_guards 1 vy /\
 NP P w cl T.h_law_copied 1 v9 /\
 NP P w cl T.h_law_formed 1 ki /\
 NP P w cl T.h_law_named 1 kQ /\
 NP P w cl T.h_law_state 1 kY /\
 NP P w cl T.h_law_need 1 jG /\
 NJ P w cl T.h_law_given 1 1 ju /\
 NJ P w cl T.h_law_guard 1 1 qf /\
 NP P w cl T.h_law_most 1 yX /\
 NP P w cl T.h_law_served 1 vZ /\
 NP P w cl T.h_law_behind 1 kh /\
 NP P w cl T.h_asked 2 Vz /\
 OM P w cl mg T.h_Fall___init__ 2 vb /\
 OM P w cl mg T.h_Fall_give 2 jt /\
 OM P w cl mg T.h_Fall_take_share 2 jQ /\
 NP P w cl T.h_law_names 2 yc /\
 NP P w cl T.h_law_claims 2 vY /\
 NP P w cl T.h_law_rule 2 j9 /\
 NP P w cl T.h_law_book 2 Jd /\
 NP P w cl T.h_law_loans 2 qe /\
 NP P w cl T.h_law_came 2 qL /\
 NJ P w cl T.h_law_walked 2 2 kf /\
 OM P w cl mg T.h_Fall_take_parts 3 jZ /\
 OM P w cl mg T.h_Fall_take_rule 3 jz /\
 NP P w cl T.h_law_order 3 kK /\
 NP P w cl T.h_fell 4 uB /\
 NP P w cl T.h_law_pool 4 qH /\
 NP P w cl T.h_law_alike 8 yu /\
 NP P w cl T.h_law_one 9 JP /\
 NP P w cl T.h_law 10 jan:=by
 cases T
 repeat' refine joh ?_ λ_=>?_
 all_goals
  (first | refine okR (by assumption) (λ_=>rfl) (λj f fd S F _ base=>?_) _ | refine okN (by assumption) λf fd S F base=>?_ | refine okO (by assumption) λf fd S F base=>?_)
  (first | refine' jmZ F.fn S rfl λa A outer s H E b=>?_ | refine' jlw F.fn S rfl λa A outer s H E b=>?_)
  apply Exists.intro
  repeat' first | exact rfl | (show QB _ _ _ _ _;first | apply jmj | apply qI | apply jnK | apply jiT | apply jji | apply jic | apply QP.fzb | apply QK.ix | apply QK.fld | apply QP.bb) | (show QPs _ _ _ _ _;first | apply jhc | apply jkI) | (show QBs _ _ _ _ _;first | apply jge | apply jjA) | (show QSs _ _ _ _ _ _;first | apply jhn | apply jeS | apply jhI) | (show QP _ _ _ _ _;first | ((with_reducible show QP _ _ _ _ (pCB zk _));refine' VQ (jcr rfl) jjy ?_ jcJ ?_) | ((with_reducible show QP _ _ _ _ (pCB yZ _));refine' xu (jai rfl) jg1 ?_ jaG ?_) | ((with_reducible show QP _ _ _ _ (pCB xc _));refine' VQ (jcQ rfl) jiQ ?_ jdo ?_) | ((with_reducible show QP _ _ _ _ (pCB KJ _));refine' xu zS jhg ?_ Yb ?_) | ((with_reducible show QP _ _ _ _ (pCB jiK _));refine' VQ (jb2 rfl) jiQ ?_ jcK ?_) | ((with_reducible show QP _ _ _ _ (pCB wL _));refine' xu Qe jeE ?_ Vs ?_) | ((with_reducible show QP _ _ _ _ (pCB Y3 _));refine' VQ Q4 jc2 ?_ zq ?_) | ((with_reducible show QP _ _ _ _ (YJ "tuple" _));refine' jdf (T:="tuple") (by decide) ?_ ?_ Vs ?_) | ((with_reducible show QP _ _ _ _ (YJ "str" _));refine' jdf (T:="str") (by decide) ?_ ?_ jcf ?_) | ((with_reducible show QP _ _ _ _ (YJ "bool" _));refine' jdf (T:="bool") (by decide) ?_ ?_ jax ?_) | ((with_reducible show QP _ _ _ _ (YJ "list" _));refine' jdf (T:="list") (by decide) ?_ ?_ Yb ?_) | ((with_reducible show QP _ _ _ _ (YJ "int" _));refine' jdf (T:="int") (by decide) ?_ ?_ jbP ?_) | ((with_reducible show QP _ _ _ _ (pBM "str" jao _ _));refine' jnV PySem.F.plainAttrs_str PySem.F.slot_str_join PySem.F.type_str_join jhE jf7 ?_ ?_) | apply qS | apply jmI | apply jkn | apply jmf | apply jkw | apply jl6 | apply jmY | apply jj8 | apply jke | apply joi | apply jm7 | apply jnh | apply jgb | apply jlR | apply jmv | apply jnl | apply joe | apply jnw | apply jn6 | apply jeZ | apply jm5 | apply jjv | apply jih | apply jeC | apply jg8 | apply jf5 | apply jkE | apply jkP | apply jnd | apply QK.add | apply QK.len | apply jmV | apply QB.f) | (show QE _ _ _ _ _;first | apply jnX | apply jg6 | apply jex | apply jld | apply jgO | apply jeK | apply jna | apply QP.d) | (show QS _ _ _ _ _ _;first | apply jjM | apply jlT | apply QS.fz | apply jle | apply jkZ | apply jls | apply jh0 | apply jdB | apply jiB | apply xM (hsw:=by with_unfolding_all rfl) | apply jbL | apply jdE | apply jbZ | apply jkN | apply jgk | apply je0 | apply jmJ | apply jgH | apply jeN | apply jdD | apply jgs | apply jcC | apply ji2) | (show QT _ _ _ _ _;first | apply jli | apply jee | apply jjN | apply jkj | apply QW.t) | (show QGs _ _ _ _ _ _;first | apply jdV | apply jgx) | (show QG _ _ _ _ _ _;first | apply jhz | apply jfP | apply QK.g_tup) | (show QL _ _ _ _ _ _;first | apply jjZ | apply jjV | apply jly) | (show QIb _ _ _ _ _ _;first | apply jiy | apply QI.b') | (show QW _ _ _ _ _;first | apply jiX | apply jiG | apply jmq | apply jjn) | (show QI _ _ _ _ _ _;first | apply jhV | apply jgS | apply jlc | apply jjp | apply jmQ | apply jnb) | (show QDs _ _ _ _ _;first | apply jgn | apply jk1) | (show QO _ _ _ _ _;first | apply jf6 | apply jhp) | (show QPo _ _ _ _ _ _ _;first | apply jeF | apply jhO) | (show QJ _ _ _ _ _ _ _;first | apply jik | apply jgq) | apply jdT | (show QTE _ _ _ _ _;first | apply jjI | apply jjE) | apply qkv | apply c_eq | apply c_ne | apply jof | apply jod | apply jn4 | apply jnY | apply jog | apply jn9 | apply c_notin | apply QK.c_eq | apply QK.c_notin | apply QK.c_ne | apply zB | apply u5 | exact Or.inl rfl | exact Or.inr rfl | exact Or.inr (Or.inl rfl) | exact Or.inr (Or.inr rfl) | exact λ_=>rfl | exact λ_ _=>rfl | exact λ_ _ _=>rfl | exact b.mono (by decide) | exact b.mono (by first | exact M8 _ | exact N6 (by decide)<|Nat.le_add_right _ _) | apply jfd | exact S.nd | (show BlockOk _ _ _ _;exact bkN S) | exact PassesOwn.never | exact jkp | exact jlq | (intro _ _ _ _;first | show QP _ _ _ _ _ | show QG _ _ _ _ _ _ | show QIf _ _ _ _ _ | show QT _ _ _ _ _ | show QKv _ _ _ _ _ _) | exact⟨rfl,rfl,rfl,rfl⟩ | exact ndN (by decide +kernel) | decide +kernel | with_unfolding_all rfl | assumption | apply zB | apply u5 | apply jgm | apply jmS
end
def Cd(w:List Nat):Prop:=∀ c∈w,c<1114112
noncomputable def kH(c k:Int):Int :=
 let m:=(c%2147483647*48271+(k*k+3*k+7)*69621)%2147483647
 m*m%2147483647
def vE(c k:Int):0<=kH c k:=N9 _ (by decide)
def jcv(c k:Int):kH c k<2147483647:=N8 _ (by decide)
def jmU{k n:Int}(a:0<=k)(h1:k<=n):0<=k*k/\k*k<=n*n:=⟨Int.mul_nonneg a a,Int.mul_le_mul h1 h1 a<|Int.le_trans a h1⟩
def yL{c k:Int}(a:0<=k)(h1:k<=1000000):jw [.int c,.int k]=some (.int<|kH c k):=by
 have e:=jmU a h1;have b:=N9 (c%2147483647*48271+(k*k+3*k+7)*69621) (show(2147483647:Int)≠0 by decide);have d:=N8 (c%2147483647*48271+(k*k+3*k+7)*69621) (show(0:Int)<2147483647 by decide);simp(disch:=lia) [jw,jD,Y6,vQ,jC,kH]
noncomputable def abc:List Nat:=[97,98,99,100,101,102,103,104,105,106,107,108,109,110,112,113,114,115,116,117,118,119,120,121,122]
noncomputable def cons:List Nat:=[98,99,100,102,103,104,106,107,108,109,110,112,113,114,115,116,118,119,120,122]
def jkm(a:0<=i)(h1:i<25):jc (.str abc) (.int i)=some (.str [abc.getD i.toNat 0]):=jnE (by decide) a (by have:abc.length=25:=rfl;lia)
def jde(a:0<=i)(h1:i<20):jc (.str cons) (.int i)=some (.str [cons.getD i.toNat 0]):=jnE (by decide) a (by have:cons.length=20:=rfl;lia)
def jlh(i:Nat):abc.getD i 0<1114112:=jbm (by decide) (by decide)
def KM(i:Nat):cons.getD i 0<1114112:=jbm (by decide) (by decide)
def jcR:∀ ws:List (List Nat),Qp [] ws=ws.flatten
 | []=>rfl
 | w::ws=>by rw[Kf];simp
theorem jhs:∀ X:List Nat,(X.map λc=>[c]).flatten=X
 | []=>rfl
 | c::X=>by rw[L4,List.flatten_cons,jhs X];rfl
def jdS(k b:Nat):(List.replicate k [b]).flatten=List.replicate k b:=by
 have:List.replicate k [b]=(List.replicate k b).map λc=>[c]:=by rw[List.map_replicate]
 rw[this,jhs]
def jhd{a s:Int}(h:0<=a)(b:0<s):((a+1)%s).toNat=(a.toNat+1)%s.toNat:=by
 obtain⟨n,rfl⟩:∃ n:Nat,a=(n:Int):=⟨a.toNat,by lia⟩;obtain⟨m,rfl⟩:∃ m:Nat,s=(m:Int):=⟨s.toNat,by lia⟩;have e:((n:Int)+1)%(m:Int)=(((n+1)%m:Nat):Int):=by simp
 have e2:((((n+1)%m:Nat):Int)).toNat=(n+1)%m:=N7 _;rw[e,e2];rfl
def Tg(m s at_:Int)(i:Nat)(w:List Nat):Prop :=
 w[at_.toNat]?=some (cons.getD ((m/4200+3*(0+(i:Int)))%20).toNat 0)/\w[(at_.toNat+1)%s.toNat]?=some (cons.getD ((m/84000+(0+(i:Int))/20)%20).toNat 0)
def uD:∀ i,i<20->∀ j,j<20->cons.getD i 0=cons.getD j 0->i=j:=by decide
def Tg.inj(hi:i<30)(c:j<30)(h1:Tg m s at_ i w)(h2:Tg m s at_ j w):i=j:=by
 have a:=h1.1.symm.trans h2.1;have b:=h1.2.symm.trans h2.2;injection a with a;injection b with b;have a:=uD _ ∅ _ ∅ a;have b:=uD _ ∅ _ ∅ b;clear h1 h2;generalize m/4200=A at a;generalize m/84000=B at b;have b':i/20=j/20:=by clear a;lia
 have d:i%20=j%20:=by clear b b';omega
 lia
def Tg.mk(e:2<=s)(f:0<=at_)(a:at_<s):Tg m s at_ i (((List.replicate s.toNat bc).set at_.toNat (cons.getD ((m/4200+3*(0+(i:Int)))%20).toNat 0)).set ((at_.toNat+1)%s.toNat) (cons.getD ((m/84000+(0+(i:Int))/20)%20).toNat 0)):=by
 have b:at_.toNat<s.toNat:=by lia
 have c:(at_.toNat+1)%s.toNat<s.toNat:=Nat.mod_lt _ ∅;have d:at_.toNat≠(at_.toNat+1)%s.toNat:=by
  generalize at_.toNat=n at *;generalize g:s.toNat=z at *;by_cases q:n+1=z
  ·rw[q,Nat.mod_self];lia
  ·rw[Nat.mod_eq_of_lt ∅];lia
 refine⟨?_,?_⟩
 ·rw[List.getElem?_set_ne<|Ne.symm d,List.getElem?_set_self<|by rw[List.length_replicate];exact b]
 ·rw[List.getElem?_set_self<|by rw[List.length_set,List.length_replicate];exact c]
def jas{a0 a1:Option D}{m b s at_:Int}{bc:Nat}(u:bc<1114112){out:List D}{i:Nat}{o9:Option D}(Q:0<=m)(R:2<=s)(F:s<=8)(S:0<=at_)(G:at_<s)(hi:i<100)(H:out.length<=100):
  ∃(c1 c2:Nat) (o9':Option D),c1∈cons/\c2∈cons/\c1=cons.getD ((m/4200+3*(0+(i:Int)))%20).toNat 0/\c2=cons.getD ((m/84000+(0+(i:Int))/20)%20).toNat 0/\vK [a0,a1,some<|.int m,some<|.str [bc],some<|.str cons,some<|.int s,some<|.int at_,↑out,some<|.int<|0+(i:Int),o9]=some (.nx [a0,a1,some<|.int m,some<|.str [bc],some<|.str cons,some<|.int s,some<|.int at_,↑(out++[.str<|((List.replicate s.toNat bc).set at_.toNat c1).set ((at_+1)%s).toNat c2]),some<|.int<|0+(i:Int),o9']):=by
 have d:yQ (jd [] 0) qT (pF<|pV 1) (qj 0 s.toNat) (jO [none,some 3] [a0,a1,some<|.int m,some<|.str [bc],some<|.str cons,some<|.int s,some<|.int at_,↑out,some<|.int<|0+(i:Int),o9])=some ((List.range s.toNat).map λ_=>D.str [bc]):=by
  refine ya (l:=List.range s.toNat) (en:=λi=>.int<|0+(i:Int)) rfl (λρ=>∃ o,ρ=[o,some<|.str [bc]]) ?_ ⟨none,rfl⟩;rintro x t ρ ⟨o,rfl⟩;exact⟨_,rfl,rfl,_,rfl⟩
 have I:((List.range s.toNat).map λ_=>D.str [bc])=(List.replicate s.toNat [bc]).map D.str:=by
  rw[List.map_const',List.map_replicate,List.length_range]
 rw[I] at d;have J:=jde (i:=(m/4200+3*(0+(i:Int)))%20) ∅ ∅;have K:=jde (i:=(m/84000+(0+(i:Int))/20)%20) ∅ ∅;have g1:=N9 (at_+1) (show s≠0 by lia);have g2:=N8 (at_+1) (show 0<s by lia);obtain⟨a,rfl⟩:∃ n:Nat,at_=(n:Int):=⟨at_.toNat,by lia⟩;obtain⟨f,v⟩:∃ n:Nat,((a:Int)+1)%s=(n:Int):=⟨(((a:Int)+1)%s).toNat,by lia⟩;have L:ixN s.toNat (a:Int)=some a:=jbq ∅;have M:ixN s.toNat (f:Int)=some f:=jbq ∅;have y:=vv (j:=s) ∅ ∅;have z:lim (qj 0 s.toNat).length=true:=jb (by rw[vc];lia);have A:((List.replicate s.toNat [bc]).map D.str).set a (.str [cons.getD ((m/4200+3*(0+(i:Int)))%20).toNat 0])=((List.replicate s.toNat [bc]).set a [cons.getD ((m/4200+3*(0+(i:Int)))%20).toNat 0]).map D.str:=by rw[List.map_set]
 have k:∀(l:W4),(l.map D.str).set f (.str [cons.getD ((m/84000+(0+(i:Int))/20)%20).toNat 0])=(l.set f [cons.getD ((m/84000+(0+(i:Int))/20)%20).toNat 0]).map D.str:=λl=>by rw[List.map_set]
 have g:∀ w∈((List.replicate s.toNat [bc]).set a [cons.getD ((m/4200+3*(0+(i:Int)))%20).toNat 0]).set f [cons.getD ((m/84000+(0+(i:Int))/20)%20).toNat 0],w.length=1/\Cd w:=by
  intro w p;rcases List.mem_or_eq_of_mem_set p with p | rfl
  ·rcases List.mem_or_eq_of_mem_set p with p | rfl
   ·rw[List.eq_of_mem_replicate p];exact⟨rfl,λc d=>by rw[M7.mp d];exact u⟩
   ·exact⟨rfl,λc d=>by rw[M7.mp d];exact KM _⟩
  ·exact⟨rfl,λc d=>by rw[M7.mp d];exact KM _⟩
 have q:(((List.replicate s.toNat [bc]).set a [cons.getD ((m/4200+3*(0+(i:Int)))%20).toNat 0]).set f [cons.getD ((m/84000+(0+(i:Int))/20)%20).toNat 0]).length<=8:=by simp;lia
 generalize E:((List.replicate s.toNat [bc]).set a [cons.getD ((m/4200+3*(0+(i:Int)))%20).toNat 0]).set f [cons.getD ((m/84000+(0+(i:Int))/20)%20).toNat 0]=W at g q;have r:∀(l:W4),(∀ w∈l,w.length=1/\Cd w)->(l.map List.length).sum=l.length/\l.flatten.length=l.length/\Cd l.flatten:=by
  intro l
  induction l with
  | nil=>intro _;exact⟨rfl,rfl,λc d=>by simp at d⟩
  | cons w l N=>
   intro h;have a1:=N λx t=>h x (by simp[t]);have O:=h w (by simp);refine⟨by simp only[L4,List.sum_cons,M0];lia,by simp only[List.flatten_cons,N3,M0];lia,?_⟩;intro c d;rw[List.flatten_cons,N1] at d;exact d.elim (O.2 c)<|a1.2.2 c
 have P:Ju [] W=true:=by
  unfold Ju;have:=r W g;simp only[List.length_nil,Nat.mul_zero];exact X4 ∅
 have t:W.flatten=((List.replicate s.toNat bc).set a (cons.getD ((m/4200+3*(0+(i:Int)))%20).toNat 0)).set f (cons.getD ((m/84000+(0+(i:Int))/20)%20).toNat 0):=by
  rw[<- E];have e:((List.replicate s.toNat [bc]).set a [cons.getD ((m/4200+3*(0+(i:Int)))%20).toNat 0]).set f [cons.getD ((m/84000+(0+(i:Int))/20)%20).toNat 0]=(((List.replicate s.toNat bc).set a (cons.getD ((m/4200+3*(0+(i:Int)))%20).toNat 0)).set f (cons.getD ((m/84000+(0+(i:Int))/20)%20).toNat 0)).map λc=>[c]:=by
   rw[List.map_set,List.map_set,List.map_replicate]
  rw[e];exact jhs _
 have B:(a:Int).toNat=a:=by lia
 have C:(((a:Int)+1)%s).toNat=f:=by lia
 refine⟨cons.getD ((m/4200+3*(0+(i:Int)))%20).toNat 0,cons.getD ((m/84000+(0+(i:Int))/20)%20).toNat 0,↑(W.map D.str),qM<|by have:cons.length=20:=rfl;lia,qM<|by have:cons.length=20:=rfl;lia,rfl,rfl,?_⟩;rw[B,C,<- t,<- jcR];simp(disch:=lia) [vK,y,z,d,jC,jU,vQ,J,K,L,M,v,A,k,E,P,jb,-Int.zero_add,-List.getD_eq_getElem?_getD,-List.map_set,-List.map_replicate]
def uX(c:Int){many:Nat}(h1:1<=many)(h2:many<=30):∃ ns:List (List Nat),yc [.int c,.int (many:Int)]=↑(ns.map D.str)/\ns.length=many/\(∀ w∈ns,Wd w)/\ns.Nodup:=by
 have T:=vE c 3;have U:=jcv c 3;have F:=yL (c:=c) (k:=3) (by decide) (by decide);have p:=jkm (i:=kH c 3%25) ∅ ∅;have E:=jlh (kH c 3%25).toNat
 generalize V:abc.getD (kH c 3%25).toNat 0=b at p E;have P:([97,98,99,100,101,102,103,104,105,106,107,108,109,110,112,113,114,115,116,117,118,119,120,121,122]:List Nat)=abc:=rfl;have Q:([98,99,100,102,103,104,106,107,108,109,110,112,113,114,115,116,118,119,120,122]:List Nat)=cons:=rfl;have H:VT [.int (many:Int)]=some (qj 0 many):=by
  have:=vv (j:=(many:Int)) ∅ ∅;simpa using this
 have I:lim (qj 0 many).length=true:=jb (by rw[vc];lia);by_cases S:kH c 3/25%3=0/\many<9
 ·refine⟨(List.range many).map λi=>List.replicate (many-i) b,?_,by simp,λw J=>?_,?_⟩
  ·have W:yQ (jd [] 0) qT (p2 yT (pV 1)<|p2 vk (pV 2)<|pV 0) (qj 0 many) [none,some<|.str [b],some<|.int (many:Int)]=some (((List.range many).map λi=>List.replicate (many-i) b).map D.str):=by
    rw[U0];refine ya (l:=List.range many) (en:=λi=>.int<|0+(i:Int)) rfl (λρ=>∃ o,ρ=[o,some<|.str [b],some<|.int (many:Int)]) ?_ ⟨none,rfl⟩;rintro i hi ρ ⟨o,rfl⟩;have hi:=List.mem_range.mp hi;refine⟨[some<|.int<|0+(i:Int),some<|.str [b],some<|.int (many:Int)],rfl,?_,_,rfl⟩;have:=jkA (a:=[b]) (n:=(many:Int)-(0+(i:Int))) (by simp) ∅ ∅;rw[show((many:Int)-(0+(i:Int))).toNat=many-i by lia,jdS] at this;simp[this,-Int.zero_add]
   have K:(many:Int)<9:=by lia
   unfold yc;rw[jD];unfold Jx;rw[P,Q];simp(disch:=lia) [F,p,jC,jU,S.1,K,H,I,jO,List.getElem?_cons_zero,Option.join,W]
  ·obtain⟨i,_,rfl⟩:=M5.mp J;exact⟨by rw[List.length_replicate];lia,λc X=>by rw[List.eq_of_mem_replicate X];exact E⟩
  ·refine List.Pairwise.map _ (R:=λa b=>a<b/\b<many) ?_ ?_
   ·rintro x y ⟨h,h'⟩ z;have:=congrArg List.length z;rw[List.length_replicate,List.length_replicate] at this
    lia
   ·rw[List.pairwise_iff_getElem];intro i j hi g r;rw[List.getElem_range,List.getElem_range];rw[List.length_range] at g;exact⟨r,g⟩
 ·have g1:=N9 (kH c 3/525) (show(2+kH c 3/75%7)≠0 by lia);have g2:=N8 (kH c 3/525) (show 0<(2+kH c 3/75%7) by lia);obtain⟨ρ',e,out,L,t,rfl,u,v⟩:=yb (G:=jd [] 8) (f:=vK) (xs:=qj 0 many) (λi ρ=>∃(out:W4) (L t:Option D),ρ=[some<|.int c,some<|.int (many:Int),some<|.int<|kH c 3,some<|.str [b],some<|.str cons,some<|.int<|2+kH c 3/75%7,some<|.int<|kH c 3/525%(2+kH c 3/75%7),↑(out.map D.str),L,t]/\out.length=i/\∀(j:Nat) (w:List Nat),out[j]?=some w->Wd w/\Tg (kH c 3) (2+kH c 3/75%7) (kH c 3/525%(2+kH c 3/75%7)) j w) (by
   rintro i x ρ Y ⟨out,L,t,rfl,u,v⟩;obtain⟨rfl,hi⟩:=vH Y;obtain⟨c1,c2,Z,hc1,hc2,A,B,p⟩:=jas (a0:=some<|.int c) (a1:=some<|.int (many:Int)) (m:=kH c 3) (b:=0) (s:=2+kH c 3/75%7) (at_:=kH c 3/525%(2+kH c 3/75%7)) (bc:=b) E (out:=out.map D.str) (i:=i) (o9:=t) T ∅ ∅ g1 g2 ∅ (by rw[L0];lia);refine⟨_,_,rfl,.inl p,out++[_],_,_,by rw[N4];rfl,by simp[u],λj w g=>?_⟩;by_cases M:j<out.length
   ·rw[List.getElem?_append_left M] at g;exact v j w g
   ·have N:=(L8.mp g).1;have:j=out.length:=by simp at N;lia
    subst this;rw[List.getElem?_concat_length] at g;cases g;refine⟨⟨by simp;lia,λq C=>?_⟩,?_⟩
    ·rcases List.mem_or_eq_of_mem_set C with C | rfl
     ·rcases List.mem_or_eq_of_mem_set C with C | rfl
      ·rw[List.eq_of_mem_replicate C];exact E
      ·rw[A];exact KM _
     ·rw[B];exact KM _
    ·rw[u,jhd g1 ∅,A,B];exact Tg.mk ∅ g1 g2) (ρ:=[some<|.int c,some<|.int (many:Int),some<|.int<|kH c 3,some<|.str [b],some<|.str cons,some<|.int<|2+kH c 3/75%7,some<|.int<|kH c 3/525%(2+kH c 3/75%7),some<|.lst true [],none,none]) ⟨[],none,none,rfl,rfl,λj d g=>by simp at g⟩
  rw[vc] at u;refine⟨out,?_,u,λw J=>?_,?_⟩
  ·unfold yc;rw[jD];unfold Jx;rw[P,Q];by_cases O:kH c 3/25%3=0
   ·have K:¬ (many:Int)<9:=λz=>S ⟨O,by lia⟩;simp(disch:=lia) [F,p,jC,jU,O,K,H,jb,e]
   ·simp(disch:=lia) [F,p,jC,jU,O,H,jb,e]
  ·obtain⟨j,g⟩:=List.mem_iff_getElem?.mp J;exact(v j w g).1
  ·unfold List.Nodup;rw[List.pairwise_iff_getElem];intro i j hi g r e;have:=(v i _<|X8 hi).2.inj ∅ ∅ (e▸(v j _<|X8 g).2)
   lia
def Jb(d:0<=w)(b:w<=2000)(e:7<=most)(h1:most<=10 ^ 12):∃ v,yt [.int c,.int w,.int most]=some (.int v)/\1<=v/\v<=most:=by
 have g1:=N9 c (show most≠0 by lia);have a:0<most:=by lia
 have g2:=N8 c a;have g3:=N9 ((c%most+1)*(w+48271)*99999999999999997) (show most≠0 by lia);have g4:=N8 ((c%most+1)*(w+48271)*99999999999999997) a;have f:0<=(c%most+1)*(w+48271)/\(c%most+1)*(w+48271)<=10 ^ 12*60000:=⟨Int.mul_nonneg ∅ ∅,Int.mul_le_mul ∅ ∅ ∅ ∅⟩;simp(disch:=lia) [yt,jD,Vr,vQ,jC,jU]
 repeat' split
 all_goals simp
 all_goals lia
noncomputable abbrev W2:=List Nat×Int
noncomputable def e2(p:W2):D:=.tup [.str p.1,.int p.2]
noncomputable abbrev W3:=List Nat×Int×Int
noncomputable def e3(p:W3):D:=.tup [.str p.1,.int p.2.1,.int p.2.2]
noncomputable abbrev WG:=List Nat×List Nat
noncomputable def eG(p:WG):D:=.tup [.str p.1,.str p.2]
def yY(l:List W2):fzs (l.map e2)=l.map e2:=vF λd hd=>by obtain⟨p,_,rfl⟩:=M5.mp hd;rfl
def jv(l:List W2):frzs (l.map e2)=true:=yP λd hd=>by obtain⟨p,_,rfl⟩:=M5.mp hd;rfl
def zo(l:List W3):fzs (l.map e3)=l.map e3:=vF λd hd=>by obtain⟨p,_,rfl⟩:=M5.mp hd;rfl
def Jr(l:List W3):frzs (l.map e3)=true:=yP λd hd=>by obtain⟨p,_,rfl⟩:=M5.mp hd;rfl
def uA(l:List WG):fzs (l.map eG)=l.map eG:=vF λd hd=>by obtain⟨p,_,rfl⟩:=M5.mp hd;rfl
def KU(l:List WG):frzs (l.map eG)=true:=yP λd hd=>by obtain⟨p,_,rfl⟩:=M5.mp hd;rfl
def Y7{l:List W2}(h:∀ p∈l,Wd p.1)(n:Nat):kJ (n+1) (l.map e2)=true:=xL λd hd=>by
 obtain⟨p,a,rfl⟩:=M5.mp hd;show kJ n [.str p.1,.int p.2]=true;simp[kJ,qB (h p a).2]
def ix2(h:0<=i)(h2:i<2)(e:7<=a)(c:a<=10 ^ 12)(f:7<=b)(d:b<=10 ^ 12):∃ v,jc (.lst true [.int a,.int b]) (.int i)=some (.int v)/\7<=v/\v<=10 ^ 12:=by
 have:i=0\/i=1:=by lia
 rcases this with rfl | rfl
 ·exact⟨a,rfl,e,c⟩
 ·exact⟨b,rfl,f,d⟩
def xA:YZ (.int 10) (.int 12)=some (.int 1000000000000):=rfl
def jdF{T:List W3}{i:Int}(h:0<=i)(h2:i<T.length):∃ t∈T,jc (.lst false<|T.map e3) (.int i)=some (e3 t):=by
 have a:i.toNat<T.length:=by lia
 refine⟨T[i.toNat],List.getElem_mem a,?_⟩;rw[jdv h<|by rw[L0];exact h2,List.getElem?_map,X8 a];rfl
def jjz{T:List W2}{i:Int}(h:0<=i)(h2:i<T.length):∃ t∈T,jc (.lst false<|T.map e2) (.int i)=some (e2 t):=by
 have a:i.toNat<T.length:=by lia
 refine⟨T[i.toNat],List.getElem_mem a,?_⟩;rw[jdv h<|by rw[L0];exact h2,List.getElem?_map,X8 a];rfl
def i30:jc (e3 t) (.int 0)=some (.str t.1):=rfl
def i20:jc (e2 t) (.int 0)=some (.str t.1):=rfl
structure ClOk(t:W3):Prop where
 w:Wd t.1
 s0:1<=t.2.1
 s1:t.2.1<=10 ^ 12
 d0:1<=t.2.2
 d1:t.2.2<=10 ^ 12
def jb3{c m:Int}{ns:W4}(Q:0<=m)(R:ns.length=12)(J:∀ w∈ns,Wd w):∃ T:List W3,vY [.int c,.lst false<|ns.map D.str,.int m]=↑(T.map e3)/\(∀ t∈T,ClOk t)/\T.map (·.1)=(ns.drop 1).take (1+m%6).toNat/\T.length=(1+m%6).toNat:=by
 obtain⟨S,e,T,v,y,z,rfl,g,u,A⟩:=yb (G:=jd [] 4) (f:=kz) (xs:=qj 0 (1+m%6).toNat) (λi ρ=>∃(T:List W3) (v y z:Option D),ρ=[some<|.int c,‹ns.map D.str›,some<|.int m,↑(T.map e3),v,y,z]/\T.length=i/\T.map (·.1)=(ns.drop 1).take i/\∀ t∈T,ClOk t) (by
  rintro i x ρ K ⟨T,v,y,z,rfl,g,u,A⟩;obtain⟨rfl,hi⟩:=vH K;have I:=yL (c:=c) (k:=20+(0+(i:Int))) ∅ ∅;have L:=vE c<|20+(0+(i:Int));generalize kH c (20+(0+(i:Int)))=n at I L;obtain⟨M,B,C,h⟩:=ix2 (a:=30) (b:=1000000000000) (i:=n/1009%2) ∅ ∅ (by decide) (by decide) (by decide) (by decide);obtain⟨N,E,F,p⟩:=ix2 (a:=9) (b:=1000000000000) (i:=m/6%2) ∅ ∅ (by decide) (by decide) (by decide) (by decide);obtain⟨s,O,s0,s1⟩:=Jb (c:=c+(0+(i:Int))) (w:=n%1009) (most:=M) ∅ ∅ C h;obtain⟨d,P,d0,d1⟩:=Jb (c:=c+(0+(i:Int))) (w:=n/2018%997) (most:=N) ∅ ∅ F p;have q:i+1<ns.length:=by lia
  have en:=JD (o:=false) (l:=ns) (i:=1+(0+(i:Int))) ∅ ∅;rw[show(1+(0+(i:Int))).toNat=i+1 by lia,List.getD_eq_getElem?_getD,X8 q,Option.getD_some] at en;refine⟨_,_,rfl,.inl ?_,T++[(ns[i+1],s,d)],some<|.int<|0+(i:Int),some<|.int n,some<|.int s,rfl,by simp[g],?_,λt r=>?_⟩
  ·rw[N4];simp(disch:=first | lia | (simp;done) | (simp;lia)) [kz,I,jC,jU,xA,B,E,O,P,en,jb,e3,-Int.zero_add]
  ·rw[N4,u,List.take_succ_eq_append_getElem<|by rw[List.length_drop];lia,List.getElem_drop];simp[Nat.add_comm]
  ·rcases N1.mp r with r | r
   ·exact A t r
   ·rw[M7.mp r];exact⟨J _<|List.getElem_mem q,s0,Int.le_trans s1 h,d0,Int.le_trans d1 p⟩) (ρ:=[some<|.int c,‹ns.map D.str›,some<|.int m,some<|.lst true [],none,none,none]) ⟨[],none,none,none,rfl,rfl,rfl,by simp⟩
 rw[vc] at g u;have H:=vv (j:=1+m%6) ∅ ∅;refine⟨T,?_,A,u,g⟩;simp(disch:=first | lia | (simp;done) | (simp;lia)) [vY,jD,Yq,jC,H,e,jb]
def jbp{l:List W2}(h:∀ p∈l,Wd p.1):Jg (.lst false<|l.map e2) (.lst true [])=some (.bl<|!l.isEmpty):=by
 cases l with
 | nil=>rfl
 | cons q l=>exact ut (Y7 h 18) rfl
def jcL(a:Nat)(b:Int)(h:0<=b):∃ n:Nat,xc [.int (a:Int),.int b]=some (.int (n:Int))/\n<=a/\(n:Int)<=b:=by
 by_cases q:b<(a:Int)
 ·refine⟨b.toNat,?_,by lia,by lia⟩;show some (D.int<|if b<(a:Int) then b else a)=_;rw[if_pos q,Int.toNat_of_nonneg h]
 ·refine⟨a,?_,M8 _,by lia⟩;show some (D.int<|if b<(a:Int) then b else a)=_;rw[if_neg q]
def jbk{m:Int}{T:List W3}{M:List W2}(P:0<=m)(Q:0<T.length)(s:T.length<=10)(v:∀ p∈M,Wd p.1)(w:M.length<=10):∃ G:List WG,vy [.int m,.lst false<|T.map e3,.lst false<|M.map e2]=↑(G.map eG)/\(∀ g∈G,g.1∈M.map (·.1)/\g.2∈T.map (·.1))/\G.length<=10:=by
 have ne:=jbp v;by_cases d:M=[]
 ·subst d;have ne:Jg (.lst false []) (.lst true [])=some (.bl false):=rfl;exact⟨[],by simp[vy,jD,qv,ne,jb],by simp,by simp⟩
 ·have y:0<M.length:=List.length_pos_iff.mpr d;have h:M.isEmpty=false:=by cases M with | nil=>exact absurd rfl d | cons _ _=>rfl
  rw[h] at ne;obtain⟨n,en,R,S⟩:=jcL T.length (m%4) ∅;obtain⟨U,e,G,k,l,rfl,a,o⟩:=yb (G:=jd [] 4) (f:=kC) (xs:=qj 0 n) (λi ρ=>∃(G:List WG) (k l:Option D),ρ=[some<|.int m,‹T.map e3›,‹M.map e2›,↑(G.map eG),k,l]/\G.length=i/\∀ g∈G,g.1∈M.map (·.1)/\g.2∈T.map (·.1)) (by
   rintro i x ρ z ⟨G,k,l,rfl,a,o⟩;obtain⟨rfl,hi⟩:=vH z;have A:=N9 (m/4+(0+(i:Int))) (show(T.length:Int)≠0 by lia);have B:=N8 (m/4+(0+(i:Int))) (show 0<(T.length:Int) by lia);obtain⟨t,C,E⟩:=jdF A B;have F:=N9 (m/24+(0+(i:Int))*(0+(i:Int))) (show(M.length:Int)≠0 by lia);have H:=N8 (m/24+(0+(i:Int))*(0+(i:Int))) (show 0<(M.length:Int) by lia);obtain⟨u,I,J⟩:=jjz F H;have K:0<=(0+(i:Int))*(0+(i:Int))/\(0+(i:Int))*(0+(i:Int))<=10*10:=⟨Int.mul_nonneg ∅ ∅,Int.mul_le_mul ∅ ∅ ∅ ∅⟩;refine⟨_,_,rfl,.inl ?_,G++[(u.1,t.1)],some<|.int<|0+(i:Int),some<|.str t.1,rfl,by simp[a],λg b=>?_⟩
   ·rw[N4];have L:=i30 (t:=t);have N:=i20 (t:=u);have q:vB [.lst false<|T.map e3]=some (.int (T.length:Int)):=by simp
    have O:vB [.lst false<|M.map e2]=some (.int (M.length:Int)):=by simp
    have r:lim (G.map eG).length=true:=jb (by rw[L0];lia);generalize T.map e3=TT,M.map e2=MM,G.map eG=GG,e3 t=E3,e2 u=E2 at *;simp(disch:=first | lia | (simp;done) | (simp;lia)) [kC,jC,jU,vQ,q,O,E,J,L,N,r,jb,eG,-Int.zero_add,-List.length_map]
   ·rcases N1.mp b with b | b
    ·exact o g b
    ·rw[M7.mp b];exact⟨M5.mpr ⟨u,I,rfl⟩,M5.mpr ⟨t,C,rfl⟩⟩) (ρ:=[some<|.int m,‹T.map e3›,‹M.map e2›,some<|.lst true [],none,none]) ⟨[],none,none,rfl,rfl,by simp⟩
  rw[vc] at a;have c:=vv (j:=(n:Int)) ∅ ∅;rw[N7] at c;refine⟨G,?_,o,by lia⟩;have q:vB [.lst false<|T.map e3]=some (.int (T.length:Int)):=by simp
  generalize T.map e3=TT,M.map e2=MM at *;simp(disch:=first | lia | (simp;done) | (simp;lia)) [vy,jD,qv,ne,q,jC,en,c,e,jb,-v5,-jB]
def ixL{l:List Int}{i:Int}(h:0<=i)(h2:i<l.length):∃ v∈l,jc (.lst true<|l.map D.int) (.int i)=some (.int v):=by
 have a:i.toNat<l.length:=by lia
 refine⟨l[i.toNat],List.getElem_mem a,?_⟩;rw[jdv h<|by rw[L0];exact h2,List.getElem?_map,X8 a];rfl
noncomputable abbrev Jj:List Nat:=[114,101,115,116]
noncomputable abbrev ql:List Nat:=[112,97,121]
noncomputable abbrev yw:List Nat:=[114,101,112,97,121]
noncomputable abbrev kt:List Nat:=[102,105,108,108]
noncomputable abbrev jI:List Nat:=[115,104,97,114,101]
noncomputable abbrev yI:List Nat:=[108,101,110,100]
noncomputable abbrev yU:List Nat:=[98,97,99,107]
abbrev kdD:D:=.lst false [.str ql,.str jI,.str yw,.str kt,.str yI,.str yU,.str ql]
inductive Ru where
 | one (k w:List Nat)
 | many (ws:W4)
 | lend (w:List Nat) (j:Int)
def eRu:Ru->D
 | .one k w=>.tup [.str k,.str w]
 | .many ws=>.tup [.str jI,.tup<|ws.map D.str]
 | .lend w j=>.tup [.str yI,.str w,.int j]
def Ym(r:Ru):frz (eRu r)=true:=by
 cases r with
 | one k w=>rfl
 | lend w j=>rfl
 | many a=>have:=jF a;simp[eRu,frz,frzs,this]
def JT(l:List Ru):frzs (l.map eRu)=true:=yP λd hd=>by obtain⟨p,_,rfl⟩:=M5.mp hd;exact Ym p
def KO(l:List Ru):fzs (l.map eRu)=l.map eRu:=vF λd hd=>by obtain⟨p,_,rfl⟩:=M5.mp hd;exact kj _<|Ym p
inductive RuOk (C P O:W4):Ru->Prop
 | rest {w:List Nat}:w∈C->RuOk C P O (.one Jj w)
 | pay {w:List Nat}:w∈C->RuOk C P O (.one ql w)
 | repay {w:List Nat}:w∈C->RuOk C P O (.one yw w)
 | fill {w:List Nat}:w∈P->RuOk C P O (.one kt w)
 | back {w:List Nat}:w∈O->RuOk C P O (.one yU w)
 | lend {w:List Nat}{j:Int}:w∈O->RuOk C P O (.lend w j)
 | share {ws:W4}:ws.Nodup->(∀ w∈ws,w∈C)->ws.length<=10->RuOk C P O (.many ws)
def jh5{l:W4}(h:∀ p∈l,Wd p):Jg (.lst false<|l.map D.str) (.lst true [])=some (.bl<|!l.isEmpty):=by
 cases l with
 | nil=>rfl
 | cons q l=>exact ut (jbI h) rfl
def jhW{zs:List Int}{k:Int}(h:0<=k)(c:zs.length<=100):∃ v:Int,kI [.lst false<|zs.map D.int,.int k]=some (.int v):=by
 have a:vB [.lst false<|zs.map D.int]=some (.int (zs.length:Int)):=by simp
 by_cases q:k<(zs.length:Int)
 ·have b:k.toNat<zs.length:=by lia
  have ix:jc (.lst false<|zs.map D.int) (.int k)=some (.int zs[k.toNat]):=by
   rw[jdv h<|by rw[L0];exact q,List.getElem?_map,X8 b];rfl
  refine⟨zs[k.toNat],?_⟩;generalize zs.map D.int=ZZ at *;simp[kI,jD,J8,a,q,ix,-jB]
 ·refine⟨0,?_⟩;generalize zs.map D.int=ZZ at *;simp[kI,jD,J8,a,q,-jB]
def jhu{n:Int}{F:W4}(B:0<=n)(h1:1<(F.length:Int))(h2:F.length<=10)(g:F.Nodup):∃ ws:List (List Nat),yQ (jd [] 0) qT (pF<|p2 jc (pV 1)<|p2 jo (p2 jq (p2 jJ (pV 2)<|pI 9)<|pV 0)<|pCB vB #[pV 1]) (qj 0 (2+n/64%((F.length:Int)-1)).toNat) [none,‹F.map D.str›,some<|.int n]=some (ws.map D.str)/\ws.Nodup/\(∀ w∈ws,w∈F)/\ws.length<=10:=by
 have s1:=N9 (n/64) (show(F.length:Int)-1≠0 by lia);have h:=N8 (n/64) (show 0<(F.length:Int)-1 by lia);generalize k:(2+n/64%((F.length:Int)-1)).toNat=q;have m:q<=F.length:=by lia
 clear k s1 h;have c:∀ i:Nat,i<q->((n/9+(0+(i:Int)))%(F.length:Int)).toNat<F.length:=λi hi=>by
  have a:=N9 (n/9+(0+(i:Int))) (show(F.length:Int)≠0 by lia);have b:=N8 (n/9+(0+(i:Int))) (show 0<(F.length:Int) by lia)
  lia
 refine⟨(List.range q).map λi:Nat=>F.getD ((n/9+(0+(i:Int)))%(F.length:Int)).toNat [],?_,?_,?_,by simp;lia⟩
 ·rw[U0];refine ya (l:=List.range q) (en:=λi=>.int<|0+(i:Int)) rfl (λρ=>∃ o,ρ=[o,‹F.map D.str›,some<|.int n]) ?_ ⟨none,rfl⟩;rintro i hi ρ ⟨o,rfl⟩;have hi:=List.mem_range.mp hi;have a:=N9 (n/9+(0+(i:Int))) (show(F.length:Int)≠0 by lia);have b:=N8 (n/9+(0+(i:Int))) (show 0<(F.length:Int) by lia);have p:=JD (o:=false) (l:=F) a b;have r:vB [.lst false<|F.map D.str]=some (.int (F.length:Int)):=by simp
  refine⟨[some<|.int<|0+(i:Int),‹F.map D.str›,some<|.int n],rfl,?_,_,rfl⟩;show _=some (D.str<|F.getD ((n/9+(0+(i:Int)))%(F.length:Int)).toNat []);generalize F.getD ((n/9+(0+(i:Int)))%(F.length:Int)).toNat []=w,F.map D.str=FF at *;simp(disch:=lia) [r,p,jC,jU,-jB,-Int.zero_add]
 ·unfold List.Nodup;rw[List.pairwise_map];refine List.Pairwise.imp_of_mem ?_ (show(List.range q).Pairwise (·≠·) from List.nodup_range);intro i j hi d f e;refine f ?_;have hi:=List.mem_range.mp hi;have d:=List.mem_range.mp d;have s:=c i hi;have t:=c j d;rw[List.getD_eq_getElem?_getD,List.getD_eq_getElem?_getD,X8 s,X8 t,Option.getD_some,Option.getD_some] at e;have e2:=(List.getElem_inj g).mp e;have C:=N9 (n/9+(0+(i:Int))) (show(F.length:Int)≠0 by lia);have E:=N9 (n/9+(0+(j:Int))) (show(F.length:Int)≠0 by lia);have e3:(n/9+(0+(i:Int)))%(F.length:Int)=(n/9+(0+(j:Int)))%(F.length:Int):=by lia
  have G:=Int.emod_emod_of_dvd (n/9+(0+(i:Int)))<|Int.dvd_refl (F.length:Int);have d1:=Int.mul_ediv_add_emod (n/9+(0+(i:Int))) (F.length:Int);have H:=Int.mul_ediv_add_emod (n/9+(0+(j:Int))) (F.length:Int);generalize(n/9+(0+(i:Int)))/(F.length:Int)=u at *;generalize(n/9+(0+(j:Int)))/(F.length:Int)=v at *;rw[e3] at d1;have x:(F.length:Int)*(u-v)=(i:Int)-(j:Int):=by rw[Int.mul_sub];lia
  have y:u-v=0:=by
   by_cases z:u-v=0
   ·exact z
   ·exfalso;have:(F.length:Int)<=(F.length:Int)*(u-v)\/(F.length:Int)*(u-v)<=-(F.length:Int):=by
     rcases Int.lt_or_gt_of_ne z with z | z
     ·right
      have:=Int.mul_le_mul_of_nonneg_left (show u-v<=-1 by lia) (show 0<=(F.length:Int) by lia)
      lia
     ·left
      have:=Int.mul_le_mul_of_nonneg_left (show 1<=u-v by lia) (show 0<=(F.length:Int) by lia)
      lia
    lia
  rw[y,Int.mul_zero] at x
  lia
 ·intro w A;obtain⟨i,hi,rfl⟩:=M5.mp A;exact qM<|c i<|List.mem_range.mp hi
def jgf{n:Int}{T:List W3}{M:List W2}{F Ot:W4}(hO:Ot.length=2)(U:0<=n)(hT:0<T.length)(V:T.length<=10)(W:M.length<=10)(B:∀ p∈M,Wd p.1)(C:F.length<=10)(E:∀ w∈F,Wd w)(O:∀ w∈F,w∈T.map (·.1))(G:F.Nodup):∃ r:Ru,j9 [.int n,.lst false<|T.map e3,.lst false<|M.map e2,.lst false<|F.map D.str,.lst false<|Ot.map D.str,kdD]=some (eRu r)/\RuOk (T.map (·.1)) (M.map (·.1)) Ot r:=by
 have g:vB [.lst false<|T.map e3]=some (.int (T.length:Int)):=by simp
 have h:vB [.lst false<|M.map e2]=some (.int (M.length:Int)):=by simp
 have k:vB [.lst false<|F.map D.str]=some (.int (F.length:Int)):=by simp
 have m:vB [kdD]=some (.int 7):=rfl;have X:=N9 (n/9) (show(T.length:Int)≠0 by lia);have Y:=N8 (n/9) (show 0<(T.length:Int) by lia);obtain⟨t,s,x⟩:=jdF X Y;have A:=i30 (t:=t);have H:=JD (o:=false) (l:=Ot) (i:=n/9%2) ∅ ∅;have q:=qM (l:=Ot) (i:=(n/9%2).toNat) (d:=[]) ∅;generalize Ot.getD (n/9%2).toNat []=w at H q;have P:=jh5 E;have Q:=jbp B;have Z:(n%7=0\/n%7=6)\/n%7=1\/n%7=2\/n%7=3\/n%7=4\/n%7=5:=by lia
 rcases Z with e | e | e | e | e | e
 ·have f:jc kdD (.int<|n%7)=some (.str ql):=by rcases e with e | e<;>rw[e]<;>rfl
  refine⟨.one ql t.1,?_,.pay<|M5.mpr ⟨t,s,rfl⟩⟩;generalize T.map e3=TT,M.map e2=MM,F.map D.str=FF,Ot.map D.str=OO,kdD=KK,e3 t=E3 at *;simp(disch:=first | lia | (simp;done) | (simp;lia)) [j9,jD,yz,m,g,k,h,f,jC,jU,jb,eRu,x,A,-jB]
 ·have f:jc kdD (.int<|n%7)=some (.str jI):=by rw[e];rfl
  by_cases z:1<(F.length:Int)
  ·obtain⟨R,ew,w1,w2,w3⟩:=jhu (n:=n) U z C G;have s1:=N9 (n/64) (show(F.length:Int)-1≠0 by lia);have s2:=N8 (n/64) (show 0<(F.length:Int)-1 by lia);have I:jo (.int<|n/64) (.int<|(F.length:Int)-1)=some (.int<|n/64%((F.length:Int)-1)):=jC ∅;generalize n/64%((F.length:Int)-1)=y at *;have J:=vv (j:=2+y) ∅ ∅;have l1:lim (qj 0 (2+y).toNat).length=true:=jb (by rw[vc];lia);refine⟨.many R,?_,.share w1 (λw hw=>O w<|w2 w hw) w3⟩;have fw:=jF R;generalize hR:qj 0 (2+y).toNat=RR,T.map e3=TT,M.map e2=MM,F.map D.str=FF,Ot.map D.str=OO,kdD=KK at *;simp(disch:=first | lia | (simp;done) | (simp;lia)) [j9,jD,yz,m,g,k,h,f,jC,jU,jb,eRu,z,I,J,l1,ew,fw,jO,List.getElem?_cons_zero,Option.join,-jB]
  ·skip
   refine⟨.one ql t.1,?_,.pay<|M5.mpr ⟨t,s,rfl⟩⟩;generalize T.map e3=TT,M.map e2=MM,F.map D.str=FF,Ot.map D.str=OO,kdD=KK,e3 t=E3 at *;simp(disch:=first | lia | (simp;done) | (simp;lia)) [j9,jD,yz,m,g,k,h,f,jC,jU,jb,eRu,x,A,z,-jB]
 ·have f:jc kdD (.int<|n%7)=some (.str yw):=by rw[e];rfl
  by_cases z:F=[]
  ·have ne:Jg (.lst false<|F.map D.str) (.lst true [])=some (.bl false):=by rw[z];rfl
   refine⟨.one ql t.1,?_,.pay<|M5.mpr ⟨t,s,rfl⟩⟩;generalize T.map e3=TT,M.map e2=MM,F.map D.str=FF,Ot.map D.str=OO,kdD=KK,e3 t=E3 at *;simp(disch:=first | lia | (simp;done) | (simp;lia)) [j9,jD,yz,m,g,k,h,f,jC,jU,jb,eRu,x,A,ne,-jB]
  ·have K:F.isEmpty=false:=by cases F with | nil=>exact absurd rfl z | cons _ _=>rfl
   rw[K] at P;have F0:0<F.length:=List.length_pos_iff.mpr z;have L:=N9 (n/9) (show(F.length:Int)≠0 by lia);have N:=N8 (n/9) (show 0<(F.length:Int) by lia);have S:=JD (o:=false) (l:=F) L N;have q:=qM (l:=F) (i:=(n/9%(F.length:Int)).toNat) (d:=[]) ∅;generalize F.getD (n/9%(F.length:Int)).toNat []=w at S q;refine⟨.one yw w,?_,.repay<|O w q⟩;generalize T.map e3=TT,M.map e2=MM,F.map D.str=FF,Ot.map D.str=OO,kdD=KK at *;simp(disch:=first | lia | (simp;done) | (simp;lia)) [j9,jD,yz,m,g,k,h,f,jC,jU,jb,eRu,S,P,-jB]
 ·have f:jc kdD (.int<|n%7)=some (.str kt):=by rw[e];rfl
  by_cases z:M=[]
  ·have ne:Jg (.lst false<|M.map e2) (.lst true [])=some (.bl false):=by rw[z];rfl
   refine⟨.one ql t.1,?_,.pay<|M5.mpr ⟨t,s,rfl⟩⟩;generalize T.map e3=TT,M.map e2=MM,F.map D.str=FF,Ot.map D.str=OO,kdD=KK,e3 t=E3 at *;simp(disch:=first | lia | (simp;done) | (simp;lia)) [j9,jD,yz,m,g,k,h,f,jC,jU,jb,eRu,x,A,ne,-jB]
  ·have K:M.isEmpty=false:=by cases M with | nil=>exact absurd rfl z | cons _ _=>rfl
   rw[K] at Q;have F0:0<M.length:=List.length_pos_iff.mpr z;have L:=N9 (n/9) (show(M.length:Int)≠0 by lia);have N:=N8 (n/9) (show 0<(M.length:Int) by lia);obtain⟨u,hu,eu⟩:=jjz L N;have k2:=i20 (t:=u);refine⟨.one kt u.1,?_,.fill<|M5.mpr ⟨u,hu,rfl⟩⟩;generalize T.map e3=TT,M.map e2=MM,F.map D.str=FF,Ot.map D.str=OO,kdD=KK,e2 u=E2 at *;simp(disch:=first | lia | (simp;done) | (simp;lia)) [j9,jD,yz,m,g,k,h,f,jC,jU,jb,eRu,eu,k2,Q,-jB]
 ·have f:jc kdD (.int<|n%7)=some (.str yI):=by rw[e];rfl
  obtain⟨v,ev,v0,v1⟩:=ix2 (a:=9) (b:=1000000000000) (i:=n/27%2) ∅ ∅ (by decide) (by decide) (by decide) (by decide);obtain⟨c,ec,c0,c1⟩:=Jb (c:=n) (w:=n/18%1009) (most:=v) ∅ ∅ v0 v1;refine⟨.lend w c,?_,.lend q⟩;generalize T.map e3=TT,M.map e2=MM,F.map D.str=FF,Ot.map D.str=OO,kdD=KK at *;simp(disch:=first | lia | (simp;done) | (simp;lia)) [j9,jD,yz,m,g,k,h,f,jC,jU,jb,eRu,H,xA,ev,ec,-jB]
 ·have f:jc kdD (.int<|n%7)=some (.str yU):=by rw[e];rfl
  refine⟨.one yU w,?_,.back q⟩;generalize T.map e3=TT,M.map e2=MM,F.map D.str=FF,Ot.map D.str=OO,kdD=KK at *;simp(disch:=first | lia | (simp;done) | (simp;lia)) [j9,jD,yz,m,g,k,h,f,jC,jU,jb,eRu,H,-jB]
def jdR{zs:List Int}{Ot:W4}{c a:Int}{nm:List Nat}{T:List W3}{M:List W2}{F:W4}(hz:zs.length<=100)(hO:Ot.length=2)(ha:0<=a)(ha2:a<=1000)(hT:0<T.length)(L:T.length<=10)(N:M.length<=10)(O:∀ p∈M,Wd p.1)(Q:F.length<=10)(S:∀ w∈F,Wd w)(hF:∀ w∈F,w∈T.map (·.1))(U:F.Nodup):∃(P:List W2) (R:List Ru),kK [.lst false<|zs.map D.int,.int c,.str nm,.int a,.lst false<|T.map e3,.lst false<|M.map e2,.lst false<|F.map D.str,.lst false<|Ot.map D.str,kdD]=some (.tup [.str nm,.lst false<|P.map e2,.lst false<|R.map eRu])/\(∀ p∈P,p.1∈T.map (·.1)/\1<=p.2/\p.2<=10)/\P.length<=10/\R.length<=10/\(∀ r∈R,RuOk (T.map (·.1)) (M.map (·.1)) Ot r)/\∃ Z w,R=Z++[.one Jj w]:=by
 have g:=yL (c:=c) (k:=a) ∅ ∅;have m0:=vE c a;generalize kH c a=m at g m0;obtain⟨v,hv,ev⟩:=ixL (l:=[0,0,1,2,3,6]) (i:=m%6) ∅ (by show m%6<6;lia);have v0:0<=v:=by simp at hv;lia
 obtain⟨n,en,n1,n2⟩:=jcL T.length v v0;have lT:vB [.lst false<|T.map e3]=some (.int (T.length:Int)):=by simp
 obtain⟨ρ',e,P,b,d,rfl,h,V⟩:=yb (G:=jd [] 11) (f:=kP) (xs:=qj 0 n) (λi ρ=>∃(P:List W2) (b d:Option D),ρ=[‹zs.map D.int›,some<|.int c,some<|.str nm,some<|.int a,‹T.map e3›,‹M.map e2›,‹F.map D.str›,‹Ot.map D.str›,some kdD,some<|.int m,↑(P.map e2),b,d,none,none,none]/\P.length=i/\∀ p∈P,p.1∈T.map (·.1)/\1<=p.2/\p.2<=10) (by
  rintro i x ρ W ⟨P,b,d,rfl,h,V⟩;obtain⟨rfl,hi⟩:=vH W;have g:=yL (c:=c) (k:=a+40+(0+(i:Int))) ∅ ∅;have K:=vE c<|a+40+(0+(i:Int));generalize kH c (a+40+(0+(i:Int)))=k at g K;obtain⟨u,X,B⟩:=ixL (l:=[2,3,10]) (i:=m/6%3) ∅ (by show m/6%3<3;lia);have u0:2<=u/\u<=10:=by simp at X;lia
  have r0:=N9 k (show u≠0 by lia);have r1:=N8 k (show 0<u by lia);have Y:=N9 (m/18+(0+(i:Int))) (show(T.length:Int)≠0 by lia);have q2:=N8 (m/18+(0+(i:Int))) (show 0<(T.length:Int) by lia);obtain⟨t,ht,et⟩:=jdF Y q2;have k1:=i30 (t:=t);refine⟨_,_,rfl,.inl ?_,P++[(t.1,1+k%u)],some<|.int<|0+(i:Int),some<|.int<|1+k%u,rfl,by simp[h],λp C=>?_⟩
  ·rw[N4];have o:lim (P.map e2).length=true:=jb (by rw[L0];lia);generalize T.map e3=TT,P.map e2=PP,e3 t=E3 at *;simp only[List.map] at B;simp(disch:=first | lia | (simp;done) | (simp;lia)) [kP,g,jC,jU,lT,et,B,k1,o,jb,e2,-Int.zero_add]
  ·rcases N1.mp C with C | C
   ·exact V p C
   ·rw[M7.mp C];exact⟨M5.mpr ⟨t,ht,rfl⟩,by show 1<=1+k%u;lia,by show 1+k%u<=10;lia⟩) (ρ:=[‹zs.map D.int›,some<|.int c,some<|.str nm,some<|.int a,‹T.map e3›,‹M.map e2›,‹F.map D.str›,‹Ot.map D.str›,some kdD,some<|.int m,some<|.lst true [],none,none,none,none,none]) ⟨[],none,none,rfl,rfl,by simp⟩
 rw[vc] at h;have E:=vv (j:=(n:Int)) ∅ ∅;rw[N7] at E;obtain⟨u,X,B⟩:=ixL (l:=[2,4,8,1+m/108%8]) (i:=m/864%4) ∅ (by show m/864%4<4;lia);have u0:1<=u/\u<=8:=by simp at X;lia
 obtain⟨ρ'',e',R,s,z,rfl,A,hR⟩:=yb (G:=jd [] 14) (f:=kN) (xs:=qj 0 u.toNat) (λi ρ=>∃(R:List Ru) (s z:Option D),ρ=[‹zs.map D.int›,some<|.int c,some<|.str nm,some<|.int a,‹T.map e3›,‹M.map e2›,‹F.map D.str›,‹Ot.map D.str›,some kdD,some<|.int m,↑(P.map e2),b,d,↑(R.map eRu),s,z]/\R.length=i/\∀ r∈R,RuOk (T.map (·.1)) (M.map (·.1)) Ot r) (by
  rintro i x ρ W ⟨R,s,z,rfl,A,hR⟩;obtain⟨rfl,hi⟩:=vH W;obtain⟨y,ey⟩:=jhW (zs:=zs) (k:=a+(0+(i:Int))) ∅ hz;have g:=yL (c:=c+y) (k:=a+(0+(i:Int))) ∅ ∅;have K:=vE (c+y)<|a+(0+(i:Int));generalize kH (c+y) (a+(0+(i:Int)))=k at g K;obtain⟨r,er,kr⟩:=jgf (n:=k) hO K hT L N O Q S hF U;refine⟨_,_,rfl,.inl ?_,R++[r],some<|.int<|0+(i:Int),some<|.int k,rfl,by simp[A],λq H=>?_⟩
  ·rw[N4,L4,List.map_nil];have o:lim (R.map eRu).length=true:=jb (by rw[L0];lia);have a1:=zo T;have a2:=yY M;have a3:=yr F;have b1:=Jr T;have b2:=jv M;have b3:=jF F;have c1:=kE zs;have c2:=qR zs;have g7:=yr Ot;have f7:=jF Ot;have fk:fz kdD=kdD:=rfl;have fk2:frz kdD=true:=rfl;have fr:frz (eRu r)=true:=Ym r;generalize T.map e3=TT,M.map e2=MM,F.map D.str=FF,Ot.map D.str=OO,zs.map D.int=ZZ,R.map eRu=RR,eRu r=ER,kdD=KK at *;simp(disch:=first | lia | (simp;done) | (simp;lia)) [kN,ey,g,er,o,a1,a2,a3,b1,b2,b3,c1,c2,g7,f7,fk,fk2,fr,fz,fzs,frz,frzs,-Int.zero_add]
  ·rcases N1.mp H with H | H
   ·exact hR q H
   ·rw[M7.mp H];exact kr) (ρ:=[‹zs.map D.int›,some<|.int c,some<|.str nm,some<|.int a,‹T.map e3›,‹M.map e2›,‹F.map D.str›,‹Ot.map D.str›,some kdD,some<|.int m,↑(P.map e2),b,d,some<|.lst true [],none,none]) ⟨[],none,none,rfl,rfl,by simp⟩
 rw[vc] at A;have I:=vv (j:=u) ∅ ∅;have Y:=N9 (m/3456) (show(T.length:Int)≠0 by lia);have q2:=N8 (m/3456) (show 0<(T.length:Int) by lia);obtain⟨t,ht,et⟩:=jdF Y q2;have k1:=i30 (t:=t);have fP:=yY P;have fP2:=jv P;have fR:=KO<|R++[Ru.one Jj t.1];have fR2:=JT<|R++[Ru.one Jj t.1];have ne:Jg kdD (.lst true [])=some (.bl true):=rfl;have lR:lim (R.map eRu).length=true:=jb (by rw[L0];lia);have eR:R.map eRu++[.tup [.str Jj,.str t.1]]=(R++[Ru.one Jj t.1]).map eRu:=by rw[N4];rfl
 refine⟨P,R++[Ru.one Jj t.1],?_,V,by lia,by simp;lia,λr J=>?_,_,_,rfl⟩
 ·simp only[List.map] at ev B;generalize T.map e3=TT,P.map e2=PP at *;generalize(R++[Ru.one Jj t.1]).map eRu=R2 at *;generalize R.map eRu=RR,e3 t=E3,kdD=KK at *;simp(disch:=first | lia | (simp;done) | (simp;lia)) [kK,jD,Vo,g,ne,lT,jC,jU,ev,en,E,e,B,I,e',et,k1,lR,eR,fP,fP2,fR,fR2,fz,fzs,frz,frzs,jb,-v5,-jB,-List.length_append]
 ·rcases N1.mp J with J | J
  ·exact hR r J
  ·rw[M7.mp J];exact .rest<|M5.mpr ⟨t,ht,rfl⟩
structure OrdS where
 nm:List Nat
 parts:List W2
 rules:List Ru
def yR(x:OrdS):D:=.tup [.str x.nm,.lst false<|x.parts.map e2,.lst false<|x.rules.map eRu]
structure OrdOk(C P O:W4)(x:OrdS):Prop where
 w:Wd x.nm
 parts:∀ p∈x.parts,p.1∈C/\1<=p.2/\p.2<=10
 parts2:x.parts.length<=10
 rules:∀ r∈x.rules,RuOk C P O r
 rules2:x.rules.length<=10
 last:∃ Z w,x.rules=Z++[.one Jj w]
def vz(h:∀ d∈l,yn d=true):jN l=true:=by rw[vm];exact List.all_eq_true.mpr h
def v7(x:OrdS):frz (yR x)=true:=by
 have a:=jv x.parts;have b:=JT x.rules;simp[yR,frz,frzs,a,b]
def jbv{c m:Int}{ns:W4}(r:0<=m)(C:ns.length=12)(t:∀ w∈ns,Wd w):∃(M:List W2) (o7 o8:Option D),yB (jd [] 7) km (qj 0 (m/72%4).toNat) [some sc,some<|.int c,some kd,↑(ns.map D.str),some<|.int m,some x5,some<|.lst true [],none,none,none,none,none,none,none,none,none]=some (.nx [some sc,some<|.int c,some kd,↑(ns.map D.str),some<|.int m,some x5,↑(M.map e2),o7,o8,none,none,none,none,none,none,none])/\M.map (·.1)=(ns.drop 7).take (m/72%4).toNat/\M.length=(m/72%4).toNat/\∀ p∈M,Wd p.1/\1<=p.2/\p.2<=10 ^ 12:=by
 obtain⟨E,e,M,o7,o8,rfl,d,j,k⟩:=yb (G:=jd [] 7) (f:=km) (xs:=qj 0 (m/72%4).toNat) (λi ρ=>∃(M:List W2) (o7 o8:Option D),ρ=[some sc,some<|.int c,some kd,↑(ns.map D.str),some<|.int m,some x5,↑(M.map e2),o7,o8,none,none,none,none,none,none,none]/\M.length=i/\M.map (·.1)=(ns.drop 7).take i/\∀ p∈M,Wd p.1/\1<=p.2/\p.2<=10 ^ 12) (by
  rintro i x ρ u ⟨M,o7,o8,rfl,d,j,k⟩;obtain⟨rfl,hi⟩:=vH u;obtain⟨v,z,A,q⟩:=ix2 (a:=9) (b:=1000000000000) (i:=m/12%2) ∅ ∅ (by decide) (by decide) (by decide) (by decide);have d0:=Int.ediv_nonneg r (show 0<=36+(0+(i:Int)) by lia);have dd:jJ (.int m) (.int<|36+(0+(i:Int)))=some (.int<|m/(36+(0+(i:Int)))):=jU ∅ ∅;generalize m/(36+(0+(i:Int)))=y at d0 dd;obtain⟨s,B,s0,s1⟩:=Jb (c:=c+(0+(i:Int))) (w:=y%1009) (most:=v) ∅ ∅ A q;have g:i+7<ns.length:=by lia
  have en:=JD (o:=true) (l:=ns) (i:=7+(0+(i:Int))) ∅ ∅;rw[show(7+(0+(i:Int))).toNat=i+7 by lia,List.getD_eq_getElem?_getD,X8 g,Option.getD_some] at en;refine⟨_,_,rfl,.inl ?_,M++[(ns[i+7],s)],some<|.int<|0+(i:Int),some<|.int s,rfl,by simp[d],?_,λp h=>?_⟩
  ·rw[N4];have n:lim (M.map e2).length=true:=jb (by rw[L0];lia);generalize M.map e2=MM,ns.map D.str=NN at *;simp(disch:=first | lia | (simp;done) | (simp;lia)) [km,jC,jU,dd,xA,z,B,en,n,jb,e2,-Int.zero_add]
  ·rw[N4,j,List.take_succ_eq_append_getElem<|by rw[List.length_drop];lia,List.getElem_drop];simp[Nat.add_comm]
  ·rcases N1.mp h with h | h
   ·exact k p h
   ·rw[M7.mp h];exact⟨t _<|List.getElem_mem g,s0,Int.le_trans s1 q⟩) (ρ:=[some sc,some<|.int c,some kd,↑(ns.map D.str),some<|.int m,some x5,some<|.lst true [],none,none,none,none,none,none,none,none,none]) ⟨[],none,none,rfl,rfl,rfl,by simp⟩
 rw[vc] at d j;exact⟨M,o7,o8,e,j,d,k⟩
def jcc{o7 o8:Option D}{c:Int}{zs:List Int}{T:List W3}{M:List W2}{F cl Ot:W4}(O:0<T.length)(j:T.length<=10)(hl:cl.length=2)(Q:∀ w∈cl,Wd w)(S:Ot.length=2)(hz:zs.length<=100)(k:M.length<=10)(m:∀ p∈M,Wd p.1)(n:F.length<=10)(q:∀ w∈F,Wd w)(U:∀ w∈F,w∈T.map (·.1))(r:F.Nodup):∃(os:List OrdS) (o7':Option D),yB (jd [] 7) kc (qj 0 2) [‹zs.map D.int›,some<|.int c,some kdD,some x3,some x4,‹T.map e3›,‹M.map e2›,o7,o8,some x9,some x10,‹F.map D.str›,‹Ot.map D.str›,↑(cl.map D.str),some<|.lst true [],none]=some (.nx [‹zs.map D.int›,some<|.int c,some kdD,some x3,some x4,‹T.map e3›,‹M.map e2›,o7',o8,some x9,some x10,‹F.map D.str›,‹Ot.map D.str›,↑(cl.map D.str),↑(os.map yR),none])/\os.map (·.nm)=cl/\∀ x∈os,OrdOk (T.map (·.1)) (M.map (·.1)) Ot x:=by
 obtain⟨ρ',e,os,o7',rfl,d,b,s⟩:=yb (G:=jd [] 7) (f:=kc) (xs:=qj 0 2) (λi ρ=>∃(os:List OrdS) (o7':Option D),ρ=[‹zs.map D.int›,some<|.int c,some kdD,some x3,some x4,‹T.map e3›,‹M.map e2›,o7',o8,some x9,some x10,‹F.map D.str›,‹Ot.map D.str›,↑(cl.map D.str),↑(os.map yR),none]/\os.length=i/\os.map (·.nm)=cl.take i/\∀ x∈os,OrdOk (T.map (·.1)) (M.map (·.1)) Ot x) (by
  rintro i x ρ V ⟨os,o7',rfl,d,b,s⟩;obtain⟨rfl,hi⟩:=vH V;have g:i<cl.length:=by lia
  have en:=JD (o:=true) (l:=cl) (i:=0+(i:Int)) ∅ ∅;rw[show(0+(i:Int)).toNat=i by lia,List.getD_eq_getElem?_getD,X8 g,Option.getD_some] at en;obtain⟨P,R,N,W,t,u,v,X⟩:=jdR (zs:=zs) (Ot:=Ot) (c:=c) (a:=3+9*(0+(i:Int))) (nm:=cl[i]) (T:=T) (M:=M) (F:=F) hz S ∅ ∅ O j k m n q U r;have y:=zo T;have z:=Jr T;have Y:=yY M;have A:=yr F;have Z:=jv M;have B:=jF F;have C:=yr Ot;have E:=jF Ot;have H:=qR zs;have fsc:=kE zs;have fk:fz kdD=kdD:=rfl;have I:frz kdD=true:=rfl;refine⟨_,_,rfl,.inl ?_,os++[⟨cl[i],P,R⟩],some<|.int<|0+(i:Int),rfl,by simp[d],?_,λp h=>?_⟩
  ·rw[N4,L4,List.map_nil];have J:lim (os.map yR).length=true:=jb (by rw[L0];lia);have K:=v7 ⟨cl[i],P,R⟩;have L:yR ⟨cl[i],P,R⟩=.tup [.str cl[i],.lst false<|P.map e2,.lst false<|R.map eRu]:=rfl;rw[<- L] at N;generalize os.map yR=MM,cl.map D.str=NN,T.map e3=TT,M.map e2=MM2,F.map D.str=FF2,Ot.map D.str=OO2,zs.map D.int=ZZ,kdD=KK,yR ⟨cl[i],P,R⟩=EE at *;simp(disch:=first | lia | (simp;done) | (simp;lia)) [kc,vQ,en,N,J,jb,fz,fzs,y,z,frz,frzs,Z,B,E,fsc,Y,A,C,H,fk,I,K,-Int.zero_add]
  ·rw[N4,b,List.take_succ_eq_append_getElem g];rfl
  ·rcases N1.mp h with h | h
   ·exact s p h
   ·rw[M7.mp h];exact⟨Q _<|List.getElem_mem g,W,t,v,u,X⟩) (ρ:=[‹zs.map D.int›,some<|.int c,some kdD,some x3,some x4,‹T.map e3›,‹M.map e2›,o7,o8,some x9,some x10,‹F.map D.str›,‹Ot.map D.str›,↑(cl.map D.str),some<|.lst true [],none]) ⟨[],o7,rfl,rfl,rfl,by simp⟩
 rw[vc] at d b;rw[List.take_of_length_le ∅] at b;exact⟨os,o7',e,b,s⟩
structure PoolS where
 nm:List Nat
 told:List W3
 marks:List W2
 eats:List (List Nat)
 ords:List OrdS
 grds:List WG
 oth:List (List Nat)
noncomputable abbrev PoolS.C(p:PoolS):List (List Nat):=p.told.map (·.1)
noncomputable abbrev PoolS.P(p:PoolS):List (List Nat):=p.marks.map (·.1)
def jX(o:Bool)(p:PoolS):D:=.tup [.str p.nm,.lst false<|p.told.map e3,.lst false<|p.marks.map e2,.lst false<|p.eats.map D.str,.lst false<|p.ords.map yR,.lst o [],.lst false<|p.grds.map eG]
structure PoolOk(p:PoolS):Prop where
 nm:Wd p.nm
 told:∀ t∈p.told,ClOk t
 toldn:p.C.Nodup
 told1:0<p.told.length
 told2:p.told.length<=10
 marks:∀ c∈p.marks,Wd c.1/\1<=c.2/\c.2<=10 ^ 12
 marksn:p.P.Nodup
 marks2:p.marks.length<=10
 ords:∀ x∈p.ords,OrdOk p.C p.P p.oth x
 ordn:(p.ords.map (·.nm)).Nodup
 ord2:p.ords.length=2
 grds:∀ g∈p.grds,g.1∈p.P/\g.2∈p.C
 grds2:p.grds.length<=10
 otw:∀ w∈p.oth,Wd w
def Vx(l:List OrdS):frzs (l.map yR)=true:=yP λd hd=>by obtain⟨p,_,rfl⟩:=M5.mp hd;exact v7 p
def jiC{zs:List Int}{c:Int}{ns:W4}(hz:zs.length<=100)(en:yc [.int c,.int 12]=↑(ns.map D.str))(r:ns.length=12)(a:∀ w∈ns,Wd w)(s:ns.Nodup):∃ p:PoolS,qH [.lst false<|zs.map D.int,.int c,kdD]=some (jX true p)/\PoolOk p/\p.nm=ns.getD 0 []:=by
 have L:=yL (c:=c) (k:=1) (by decide) (by decide);have u:=vE c 1;generalize kH c 1=m at L u;obtain⟨T,eT,N,O,lT⟩:=jb3 (c:=c) u r a;obtain⟨M,P,Q,eM,X,lM,v⟩:=jbv (sc:=.lst false<|zs.map D.int) (kd:=kdD) (x5:=.lst true<|T.map e3) (c:=c) u r a;obtain⟨G,y,Y,Z⟩:=jbk (m:=m/288) (T:=T) (M:=M) ∅ ∅ ∅ (λp A=>(v p A).1) ∅;obtain⟨e,B,R,wc,nc⟩:=uX (c+1) (many:=2) (by decide) (by decide);have C:=vv (j:=m/72%4) ∅ ∅;have S:yQ (jd [] 0) qT (pF<|p2 jc (pV 0)<|pI 1) (G.map eG) [none]=some (G.map λg=>.str g.2):=by
  refine ya (l:=G) (en:=eG) rfl (λρ=>∃ o,ρ=[o]) ?_ ⟨none,rfl⟩;rintro x U ρ ⟨o,rfl⟩;exact⟨_,rfl,rfl,_,rfl⟩
 have E:(G.map λg=>D.str g.2)=(G.map (·.2)).map D.str:=by rw[U0];rfl
 have H:yQ (jd [] 0) (je<|p2 (Jf true) (p2 jc (pV 0)<|pI 0)<|pV 1) (pF<|p2 jc (pV 0)<|pI 0) (T.map e3) [none,↑((G.map (·.2)).map D.str)]=some ((T.filter λt=>true != decide (t.1∈G.map (·.2))).map λt=>.str t.1):=by
  refine Yh (l:=T) (en:=e3) (λρ=>∃ o,ρ=[o,↑((G.map (·.2)).map D.str)]) ?_ ⟨none,rfl⟩;rintro x U ρ ⟨o,rfl⟩;have:=jb6 true true x.1 (G.map (·.2));generalize(G.map (·.2)).map D.str=SS at this;exact⟨[some<|e3 x,↑SS],rfl,by simp[i30,this],rfl,_,rfl⟩
 have V:frz (.lst false ((T.filter λt=>true != decide (t.1∈G.map (·.2))).map λt=>.str t.1))=true:=by
  show frzs _=true;exact yP λd hd=>by obtain⟨p,_,rfl⟩:=M5.mp hd;rfl
 rw[E] at S;have sO:=jbl true ns (some 10) none;have I:((T.filter λt=>true != decide (t.1∈G.map (·.2))).map λt=>D.str t.1)=((T.filter λt=>true != decide (t.1∈G.map (·.2))).map (·.1)).map D.str:=by rw[U0];rfl
 rw[I] at H V;have b:∀ w∈(T.filter λt=>true != decide (t.1∈G.map (·.2))).map (·.1),w∈T.map (·.1):=λw a=>by
  obtain⟨t,J,rfl⟩:=M5.mp a;exact M5.mpr ⟨t,(List.mem_filter.mp J).1,rfl⟩
 have f:((T.filter λt=>true != decide (t.1∈G.map (·.2))).map (·.1)).length<=10:=by
  have:=List.length_filter_le (λt:W3=>true != decide (t.1∈G.map (·.2))) T;rw[L0];lia
 have h:∀ w∈(T.filter λt=>true != decide (t.1∈G.map (·.2))).map (·.1),Wd w:=λw a=>by
  obtain⟨t,J,rfl⟩:=M5.mp<|b w a;exact(N t J).w
 have n:((T.filter λt=>true != decide (t.1∈G.map (·.2))).map (·.1)).Nodup:=by
  have:(T.map (·.1)).Nodup:=by rw[O];exact(s.sublist<|List.drop_sublist _ _).sublist (List.take_sublist _ _)
  exact this.sublist<|List.Sublist.map _ List.filter_sublist
 generalize(T.filter λt=>true != decide (t.1∈G.map (·.2))).map (·.1)=FL at H V b f h n;obtain⟨os,o7',eO,W,kO⟩:=jcc (x3:=.lst true<|ns.map D.str) (x4:=.int m) (o7:=P) (o8:=Q) (x9:=.lst true<|G.map eG) (x10:=.lst true ((G.map (·.2)).map D.str)) (Ot:=y4 ns (some 10) none) (c:=c) (zs:=zs) (T:=T) (M:=M) (F:=FL) (cl:=e) ∅ ∅ R wc (by rw[Ka ns<|by decide,List.length_drop];have:=r;simp;lia) hz ∅ (λp A=>(v p A).1) f h b n;have q:VT [.int 2]=some (qj 0 2):=rfl;have sE:jd4 none (some<|m/7%7) (.lst false<|T.map e3)=↑((y4 T none<|some<|m/7%7).map e3):=by rw[jl7<|Jr T,Qa]
 have eE:yQ (jd [] 0) qT (pF<|p2 jc (pV 0)<|pI 0) ((y4 T none<|some<|m/7%7).map e3) [none]=some (((y4 T none<|some<|m/7%7).map (·.1)).map D.str):=by
  rw[U0];refine ya (l:=y4 T none<|some<|m/7%7) (en:=e3) rfl (λρ=>∃ o,ρ=[o]) ?_ ⟨none,rfl⟩;rintro x U ρ ⟨o,rfl⟩;exact⟨_,rfl,rfl,_,rfl⟩
 have lE:=ud T none<|some<|m/7%7;have i0:jc (.lst true<|ns.map D.str) (.int 0)=some (.str<|ns.getD 0 []):=JD (o:=true) (l:=ns) (i:=0) (by decide) ∅;have lO:os.length=2:=by rw[<- R,<- W,L0]
 refine⟨⟨ns.getD 0 [],T,M,(y4 T none<|some<|m/7%7).map (·.1),os,G,y4 ns (some 10) none⟩,?_,{nm:=a _<|qM ∅,told:=N,toldn:=?_,told1:=?_,told2:=?_,marks:=v,marksn:=?_,marks2:=?_,ords:=kO,ordn:=?_,ord2:=lO,grds:=Y,grds2:=Z,otw:=λw z=>a w (uj z)},rfl⟩
 rotate_left
 ·show(T.map (·.1)).Nodup;rw[O];exact(s.sublist<|List.drop_sublist _ _).sublist (List.take_sublist _ _)
 ·show 0<T.length;lia
 ·show T.length<=10;lia
 ·show(M.map (·.1)).Nodup;rw[X];exact(s.sublist<|List.drop_sublist _ _).sublist (List.take_sublist _ _)
 ·show M.length<=10;lia
 ·show(os.map (·.nm)).Nodup;rw[W];exact nc
 have a1:=zo T;have a2:=Jr T;have a3:=yY M;have a4:=jv M;have a5:=uA G;have c1:jN (T.map e3)=true:=vz λd hd=>by obtain⟨p,_,rfl⟩:=M5.mp hd;rfl
 have c2:jN (G.map eG)=true:=vz λd hd=>by obtain⟨p,_,rfl⟩:=M5.mp hd;rfl
 have c3:jN (ns.map D.str)=true:=kU _;have c4:jN (e.map D.str)=true:=kU _;have a6:=KU G;have a7:=Vx os;have a8:fzs (os.map yR)=os.map yR:=vF λd hd=>by obtain⟨p,_,rfl⟩:=M5.mp hd;exact kj _<|v7 p
 have l1:lim (T.map e3).length=true:=jb (by rw[L0];lia);have l2:lim (G.map eG).length=true:=jb (by rw[L0];lia);have l3:lim ((y4 T none<|some<|m/7%7).map e3).length=true:=jb (by rw[L0];lia);have l4:lim (qj 0 (m/72%4).toNat).length=true:=jb (by rw[vc];lia);have l5:lim (qj 0 2).length=true:=rfl;have l6:=Jr<|y4 T none<|some<|m/7%7;have b1:=jF ns;have b2:=yr ns;have b3:=jF<|y4 ns (some 10) none;have b4:=yr<|y4 ns (some 10) none;have b5:=jF ((y4 T none<|some<|m/7%7).map (·.1));have b6:=yr ((y4 T none<|some<|m/7%7).map (·.1));have a9:=yr FL;have z1:=kE zs;have z2:=qR zs;have fk:fz kdD=kdD:=rfl;have K:frz kdD=true:=rfl;simp only[jX];replace B:yc [.int<|c+1,.int 2]=↑(e.map D.str):=B;generalize ns.getD 0 []=nm,zs.map D.int=ZZ,kdD=KK,qj 0 (m/72%4).toNat=R1,qj 0 2=R2 at *;generalize((y4 T none<|some<|m/7%7).map (·.1)).map D.str=EE at *;generalize(y4 T none<|some<|m/7%7).map e3=E3 at *;generalize FL.map D.str=FF at *;generalize(G.map (·.2)).map D.str=SS at *;generalize(y4 ns (some 10) none).map D.str=OO at *;generalize ns.map D.str=NN,T.map e3=TT,M.map e2=MM,G.map eG=GG,os.map yR=OS,e.map D.str=CL at *;simp(disch:=first | lia | (simp;done) | (simp;lia)) [qH,jD,Kw,en,L,eT,jC,jU,C,eM,y,S,H,sO,B,eO,q,sE,eE,i0,a1,a2,a3,a4,a5,a6,a7,a8,a9,z1,z2,fk,K,yn,jN,c1,c2,c3,c4,b1,b2,b3,b4,b5,b6,l1,l2,l3,l4,l5,l6,fz,fzs,frz,frzs,jb,jO,List.getElem?_cons_zero,Option.join]
structure BkS where
 S:List W2
 W:List W2
 R:List W2
 L:List W2
 z:Int
def j8(o:Bool)(b:BkS):D:=.tup [.lst o<|b.S.map e2,.lst o<|b.W.map e2,.lst o<|b.R.map e2,.lst o<|b.L.map e2,.int b.z]
def In(l:List W2)(m:Int):Prop:=∀ p∈l,0<=p.2/\p.2<=m
def In.snoc(h:In l m)  (h1:0<=v) (h2:v<=m):In (l++[(w,v)]) m:=λp a=>by
 rcases N1.mp a with a | a
 ·exact h p a
 ·rw[M7.mp a];exact⟨h1,h2⟩
structure BkOk(p:PoolS)(b:BkS):Prop where
 S:b.S.map (·.1)=p.C
 W:b.W.map (·.1)=p.C
 R:b.R.map (·.1)=p.C
 L:b.L.map (·.1)=p.P
 s:In b.S (10 ^ 12)
 w:In b.W (10 ^ 14)
 r:In b.R 100
 l:In b.L (10 ^ 12)
 lm:∀ w,fnOf b.L w<=fnOf p.marks w
def jnr{T:List W3}{i:Nat}(b:(yo 0<|T.map e3)[i]?=some x):∃ h:i<T.length,x=.tup [.int (i:Int),e3 T[i]]:=by
 obtain⟨y,a,c⟩:=qx _ _ _ _ b;rw[List.getElem?_map] at a;have hi:i<T.length:=by
  by_cases h:i<T.length
  ·exact h
  ·rw[List.getElem?_eq_none ∅] at a;cases a
 rw[X8 hi] at a;cases a;exact⟨hi,by rw[c,Nat.zero_add]⟩
def jmN{T:List W2}{i:Nat}(b:(yo 0<|T.map e2)[i]?=some x):∃ h:i<T.length,x=.tup [.int (i:Int),e2 T[i]]:=by
 obtain⟨y,a,c⟩:=qx _ _ _ _ b;rw[List.getElem?_map] at a;have hi:i<T.length:=by
  by_cases h:i<T.length
  ·exact h
  ·rw[List.getElem?_eq_none ∅] at a;cases a
 rw[X8 hi] at a;cases a;exact⟨hi,by rw[c,Nat.zero_add]⟩
def jj0:YZ (.int 10) (.int 13)=some (.int 10000000000000):=rfl
def YY{T:List (List Nat×α)}{M:W4}{i:Nat}(hi:i<T.length)(h:M=(T.map (·.1)).take i):M++[T[i].1]=(T.map (·.1)).take (i+1):=by
 rw[h,List.take_succ_eq_append_getElem<|by rw[L0];exact hi,List.getElem_map]
def jmd{c:Int}{T:List W3}(H:∀ t∈T,ClOk t)(Y:T.length<=10):∃(S W R:List W2) (o5 o6 o7 o8 o9:Option D),yB (gT 2<|gC (jd [] 5)<|gC (jd [] 6) gN) vA (yo 0<|T.map e3) [some<|.int c,some x1,some<|.lst true [],some<|.lst true [],some<|.lst true [],none,none,none,none,none,none,none]=some (.nx [some<|.int c,some x1,↑(S.map e2),↑(W.map e2),↑(R.map e2),o5,o6,o7,o8,o9,none,none])/\S.map (·.1)=T.map (·.1)/\W.map (·.1)=T.map (·.1)/\R.map (·.1)=T.map (·.1)/\In S (10 ^ 12)/\In W (10 ^ 14)/\In R 100:=by
 obtain⟨Z,e,S,W,R,o5,o6,o7,o8,o9,rfl,j,m,o,r,s,u⟩:=yb (G:=gT 2<|gC (jd [] 5)<|gC (jd [] 6) gN) (f:=vA) (xs:=yo 0<|T.map e3) (λi ρ=>∃(S W R:List W2) (o5 o6 o7 o8 o9:Option D),ρ=[some<|.int c,some x1,↑(S.map e2),↑(W.map e2),↑(R.map e2),o5,o6,o7,o8,o9,none,none]/\S.map (·.1)=(T.map (·.1)).take i/\W.map (·.1)=(T.map (·.1)).take i/\R.map (·.1)=(T.map (·.1)).take i/\In S (10 ^ 12)/\In W (10 ^ 14)/\In R 100) (by
  rintro i x ρ I ⟨S,W,R,o5,o6,o7,o8,o9,rfl,j,m,o,r,s,u⟩;obtain⟨hi,rfl⟩:=jnr I;have J:=H _<|List.getElem_mem hi;have t3:T[i]=(T[i].1,T[i].2.1,T[i].2.2):=rfl;have K:=YY hi j;have L:=YY hi m;have M:=YY hi o;have lS:(S.map e2).length<=10:=by have:=congrArg List.length j;simp only[L0,X9] at this ⊢;lia
  have lW:(W.map e2).length<=10:=by have:=congrArg List.length m;simp only[L0,X9] at this ⊢;lia
  have lR:(R.map e2).length<=10:=by have:=congrArg List.length o;simp only[L0,X9] at this ⊢;lia
  generalize T[i]=t at *;obtain⟨b,ts,a⟩:=t;obtain⟨_,s0,s1,d0,d1⟩:=J;simp only at s0 s1 d0 d1;have v:=yL (c:=c) (k:=200+(i:Int)) ∅ ∅;have N:=vE c<|200+(i:Int);generalize kH c (200+(i:Int))=n at v N;have O:=N9 (n/35) (show ts≠0 by lia);have P:=N8 (n/35) (show 0<ts by lia);have w:jo (.int<|n/35) (.int ts)=some (.int<|n/35%ts):=jC ∅;generalize n/35%ts=y1 at O P w;have Q:=N9 (n/7) (show 2*a+1≠0 by lia);have U:=N8 (n/7) (show 0<2*a+1 by lia);have y:jo (.int<|n/7) (.int<|2*a+1)=some (.int<|n/7%(2*a+1)):=jC ∅;generalize n/7%(2*a+1)=y2 at Q U y;obtain⟨p,z,d⟩:=ixL (l:=[ts,1,1+y1]) (i:=n/5%3) ∅ (by show n/5%3<3;lia);obtain⟨q,A,g⟩:=ixL (l:=[0,y2,n/15%10000000000000]) (i:=n/15%3) ∅ (by show n/15%3<3;lia);have V:0<=p/\p<=10 ^ 12:=by simp at z;lia
  have X:0<=q/\q<=10 ^ 13:=by simp at A;lia
  have B:jc (e3 (b,ts,a)) (.int 0)=some (.str b):=rfl;have C:jc (e3 (b,ts,a)) (.int 1)=some (.int ts):=rfl;have E:jc (e3 (b,ts,a)) (.int 2)=some (.int a):=rfl;simp only[List.map] at d g;refine⟨_,_,rfl,.inl ?_,S++[(b,if n%5=0 then 0 else p)],W++[(b,if n%5=0 then 0 else a+q)],R++[(b,n/45%4)],some<|.int (i:Int),some<|e3 (b,ts,a),some<|.int n,some<|.int<|if n%5=0 then 0 else p,some<|.int<|if n%5=0 then 0 else a+q,rfl,by simpa using K,by simpa using L,by simpa using M,?_,?_,?_⟩
  ·rw[N4,N4,N4];generalize S.map e2=SS,W.map e2=WW,R.map e2=RR,e3 (b,ts,a)=E3 at *;by_cases F:n%5=0
   ·simp(disch:=first | lia | (simp;done) | (simp;lia)) [vA,v,jC,jU,vQ,B,C,E,w,y,jj0,d,g,F,jb,e2]
   ·simp(disch:=first | lia | (simp;done) | (simp;lia)) [vA,v,jC,jU,vQ,B,C,E,w,y,jj0,d,g,F,jb,e2]
  ·exact r.snoc (by split<;>lia) (by split<;>lia)
  ·exact s.snoc (by split<;>lia) (by split<;>lia)
  ·exact u.snoc ∅ ∅) (ρ:=[some<|.int c,some x1,some<|.lst true [],some<|.lst true [],some<|.lst true [],none,none,none,none,none,none,none]) ⟨[],[],[],none,none,none,none,none,rfl,rfl,rfl,rfl,λ_ h=>by simp at h,λ_ h=>by simp at h,λ_ h=>by simp at h⟩
 rw[yD,List.take_of_length_le<|by simp] at j m o;exact⟨S,W,R,o5,o6,o7,o8,o9,e,j,m,o,r,s,u⟩
inductive Le2:List W2->List W2->Prop
 | nil:Le2 [] []
 | cons {w:List Nat}{a b:Int}{l m:List W2}:a<=b->Le2 l m->Le2 ((w,a)::l) ((w,b)::m)
def Le2.snoc(h:Le2 l m)(k:a<=b):Le2 (l++[(w,a)]) (m++[(w,b)]):=by
 induction h with
 | nil=>exact .cons k .nil
 | cons h _ c=>exact .cons h c
def Le2.le(h:Le2 l m)(n:List Nat):fnOf l n<=fnOf m n:=by
 unfold fnOf
 induction h with
 | nil=>exact Int.le_refl _
 | cons k _ a=>
  rw[lkp,lkp];split
  ·exact k
  ·exact a
def jmT{o5 o6 o7 o8 o9:Option D}{c:Int}{M:List W2}(s:∀ t∈M,Wd t.1/\1<=t.2/\t.2<=10 ^ 12)(F:M.length<=10):∃(L:List W2) (o5' o7' o11:Option D),yB (gT 2<|gC (jd [] 5)<|gC (jd [] 11) gN) ke (yo 0<|M.map e2) [some<|.int c,some x1,some x2,some x3,some x4,o5,o6,o7,o8,o9,some<|.lst true [],none]=some (.nx [some<|.int c,some x1,some x2,some x3,some x4,o5',o6,o7',o8,o9,↑(L.map e2),o11])/\L.map (·.1)=M.map (·.1)/\In L (10 ^ 12)/\∀ w,fnOf L w<=fnOf M w:=by
 obtain⟨H,e,L,o5',o7',o11,rfl,g,kL,m⟩:=yb (G:=gT 2<|gC (jd [] 5)<|gC (jd [] 11) gN) (f:=ke) (xs:=yo 0<|M.map e2) (λi ρ=>∃(L:List W2) (o5' o7' o11:Option D),ρ=[some<|.int c,some x1,some x2,some x3,some x4,o5',o6,o7',o8,o9,↑(L.map e2),o11]/\L.map (·.1)=(M.map (·.1)).take i/\In L (10 ^ 12)/\Le2 L (M.take i)) (by
  rintro i x ρ u ⟨L,o5',o7',o11,rfl,g,kL,m⟩;obtain⟨hi,rfl⟩:=jmN u;have v:=s _<|List.getElem_mem hi;have y:=YY hi g;have I:(L.map e2).length<=10:=by have:=congrArg List.length g;simp only[L0,X9] at this ⊢;lia
  have o:=List.take_succ_eq_append_getElem hi;generalize M[i]=t at *;obtain⟨a,ts⟩:=t;obtain⟨_,s0,s1⟩:=v;simp only at s0 s1;have q:=yL (c:=c) (k:=210+(i:Int)) ∅ ∅;have z:=vE c<|210+(i:Int);generalize kH c (210+(i:Int))=n at q z;have A:=N9 (n/3) (show ts+1≠0 by lia);have B:=N8 (n/3) (show 0<ts+1 by lia);have r:jo (.int<|n/3) (.int<|ts+1)=some (.int<|n/3%(ts+1)):=jC ∅;generalize n/3%(ts+1)=y2 at A B r;obtain⟨d,p,j⟩:=ixL (l:=[0,ts,y2]) (i:=n%3) ∅ (by show n%3<3;lia);have b:0<=d/\d<=ts/\d<=10 ^ 12:=by simp at p;lia
  have C:jc (e2 (a,ts)) (.int 0)=some (.str a):=rfl;have E:jc (e2 (a,ts)) (.int 1)=some (.int ts):=rfl;simp only[List.map] at j;refine⟨_,_,rfl,.inl ?_,L++[(a,d)],some<|.int (i:Int),some<|.int n,some<|e2 (a,ts),rfl,by simpa using y,kL.snoc b.1 b.2.2,by rw[o];exact m.snoc b.2.1⟩;rw[N4,L4,List.map_nil,show e2 (a,d)=.tup [.str a,.int d] from rfl];generalize L.map e2=LL,e2 (a,ts)=E2 at *;simp(disch:=first | lia | (simp;done) | (simp;lia)) [ke,q,jC,jU,C,E,r,j,jb]) (ρ:=[some<|.int c,some x1,some x2,some x3,some x4,o5,o6,o7,o8,o9,some<|.lst true [],none]) ⟨[],o5,o7,none,rfl,rfl,λ_ h=>by simp at h,.nil⟩
 rw[yD,List.take_of_length_le<|by simp] at g m;exact⟨L,o5',o7',o11,e,g,kL,m.le⟩
def jhN{c:Int}(h:PoolOk p):∃ b:BkS,Jd [.int c,jX false p]=some (j8 false b)/\BkOk p b:=by
 obtain⟨S,W,R,d,e,f,g,i,o,q,r,s,t,u,v⟩:=jmd (x1:=jX false p) (c:=c) h.told h.told2;obtain⟨L,w,x,y,a,z,kL,A⟩:=jmT (x1:=jX false p) (x2:=.lst true<|S.map e2) (x3:=.lst true<|W.map e2) (x4:=.lst true<|R.map e2) (o5:=d) (o6:=e) (o7:=f) (o8:=g) (o9:=i) (c:=c) h.marks h.marks2;have j:=yL (c:=c) (k:=220) (by decide) (by decide);have B:=vE c 220;generalize kH c 220=n at j B;have C:jc (jX false p) (.int 1)=‹p.told.map e3›:=rfl;have D:jc (jX false p) (.int 2)=‹p.marks.map e2›:=rfl;have E:=Jr p.told;have F:=zo p.told;have G:=yY p.marks;have H:=jv p.marks;have l:lim (p.told.map e3).length=true:=jb (by rw[L0];have:=h.told2;lia);have m:lim (p.marks.map e2).length=true:=jb (by rw[L0];have:=h.marks2;lia);have I:lim (yo 0<|p.told.map e3).length=true:=by rw[yD];exact l
 have J:lim (yo 0<|p.marks.map e2).length=true:=by rw[yD];exact m
 have K:=yY S;have M:=yY W;have N:=yY R;have O:=yY L;have P:=jv S;have Q:=jv W;have T:=jv R;have U:=jv L;refine⟨⟨S,W,R,L,n%50⟩,?_,⟨q,r,s,z,t,u,v,kL,A⟩⟩;simp only[j8];generalize S.map e2=SS,W.map e2=WW,R.map e2=RR,L.map e2=LL,p.told.map e3=TT,p.marks.map e2=MM,jX false p=PP at *;simp(disch:=first | lia | (simp;done) | (simp;lia)) [Jd,jD,KC,j,jC,C,D,E,H,F,G,l,m,I,J,o,a,K,M,N,O,P,Q,T,U,fz,fzs,frz,frzs,jb]
noncomputable abbrev EN:=List Nat×List Nat
abbrev LN:=List<|EN×Int
noncomputable def kL(r:EN×Int):List KA:=[.str r.1.1,.str r.1.2]
noncomputable def vL(r:EN×Int):D:=.int r.2
def dLn(o:Bool)(l:LN):D:=.dT o (l.map kL)<|l.map vL
noncomputable def vd:LN->EN->Option Int
 | [],_=>none
 | r::l,k=>if r.1=k then some r.2 else vd l k
noncomputable def jdt(l:LN)(k:EN)(v:Int):LN:=l.map λr=>(r.1,if r.1=k then v else r.2)
def YG(l:LN)(k:EN)(v:Int):LN:=if k∈l.map (·.1) then jdt l k v else l++[(k,v)]
def jjg:([KA.str a,KA.str b]=[KA.str c,KA.str d])=((a,b)=((c,d):EN)):=by simp
def jbA(r:EN×Int)(k:EN):(kL r=[KA.str k.1,KA.str k.2])=(r.1=k):=by
 obtain⟨⟨a,b⟩,n⟩:=r;obtain⟨c,d⟩:=k;exact jjg
theorem J6(k:EN):∀ l:LN,Qz (l.map kL) (l.map vL) [.str k.1,.str k.2]=(vd l k).map D.int
 | []=>rfl
 | r::l=>by
  rw[L4,L4,Qz,vd];by_cases h:r.1=k
  ·rw[if_pos h,if_pos<|by rw[jbA];exact h];rfl
  ·rw[if_neg h,if_neg<|by rw[jbA];exact h,J6 k l]
theorem jbj(k:EN)(v:Int):∀ l:LN,je4 (l.map kL) (l.map vL) [.str k.1,.str k.2] (.int v)=(jdt l k v).map vL
 | []=>rfl
 | r::l=>by
  rw[L4,L4,je4,jbj k v l];by_cases h:r.1=k
  ·rw[if_pos<|by rw[jbA];exact h];simp[jdt,h,vL]
  ·rw[if_neg<|by rw[jbA];exact h];simp[jdt,h,vL]
theorem jcD(k:EN):∀ l:LN,([KA.str k.1,KA.str k.2]∈l.map kL)↔k∈l.map (·.1)
 | []=>by simp
 | r::l=>by
  rw[L4,L4,M4,M4,jcD k l];have:=jbA r k;constructor
  ·rintro(h | h)
   ·exact .inl (this▸h.symm).symm
   ·exact .inr h
  ·rintro(h | h)
   ·exact .inl (this.symm▸h.symm:kL r=_).symm
   ·exact .inr h
def jii(l:LN)(k:EN)(v:Int):(jdt l k v).map kL=l.map kL:=by unfold jdt;rw[U0];rfl
def Qh(k:EN)(v:Int)(l:LN):V6 (l.map kL) (l.map vL) [.str k.1,.str k.2] (.int v)=((YG l k v).map kL,(YG l k v).map vL):=by
 unfold V6 YG;by_cases h:k∈l.map (·.1)
 ·rw[if_pos h,if_pos<|(jcD k l).mpr h,jbj,jii]
 ·rw[if_neg h,if_neg λz=>h<|(jcD k l).mp z];simp[kL,vL]
structure LnOk(N:W4)(l:LN):Prop where
 nd:(l.map (·.1)).Nodup
 mem:∀ r∈l,r.1.1∈N/\r.1.2∈N/\0<=r.2
noncomputable def eR(r:EN×Int):D:=.tup [.str r.1.1,.str r.1.2,.int r.2]
def VH(l:LN):frzs (l.map eR)=true:=yP λd hd=>by obtain⟨p,_,rfl⟩:=M5.mp hd;rfl
def jbW(l:LN):fzs (l.map eR)=l.map eR:=vF λd hd=>by obtain⟨p,_,rfl⟩:=M5.mp hd;rfl
def jaZ(l:LN):jN (l.map eR)=true:=by
 rw[vm,List.all_map,List.all_eq_true];intro x _;rfl
def z4(l:LN):yn (dLn true l)=true:=by
 have:jN (l.map vL)=true:=by rw[vm,List.all_map,List.all_eq_true];intro x _;rfl
 simp[dLn,yn,this]
theorem uz:∀(l a:LN),((a++l).map (·.1)).Nodup->(l.map λr=>(kL r,vL r)).foldl (λacc kv=>V6 acc.1 acc.2 kv.1 kv.2) (a.map kL,a.map vL)=((a++l).map kL,(a++l).map vL)
 | [],a,_=>by simp
 | r::l,a,h=>by
  have b:r.1∉a.map (·.1):=by
   rw[N4,U8] at h;intro z;exact h.2.2 _ z r.1 (by simp) rfl
  have e:V6 (a.map kL) (a.map vL) (kL r) (vL r)=((a++[r]).map kL,(a++[r]).map vL):=by
   have:=Qh r.1 r.2 a;unfold YG at this;rw[if_neg b] at this;exact this
  rw[L4,U9];show List.foldl _ (V6 (a.map kL) (a.map vL) (kL r)<|vL r) _=_;rw[e,uz l (a++[r]) ⇑h];simp
theorem QR:∀(l:LN) (o0 o1 o2:Option D),zQ (gT 3<|gC (jd [] 0)<|gC (jd [] 1)<|gC (jd [] 2) gN) qT (jaU (pV 0)<|pV 1) (pV 2) (l.map eR) [o0,o1,o2]=some (l.map λr=>(kL r,vL r))
 | [],_,_,_=>rfl
 | r::l,o0,o1,o2=>by
  have a:=QR l (some<|.str r.1.1) (some<|.str r.1.2)<|some<|.int r.2;have b:gT 3 (gC (jd [] 0)<|gC (jd [] 1)<|gC (jd [] 2) gN) (eR r) [o0,o1,o2]=some [some<|.str r.1.1,some<|.str r.1.2,some<|.int r.2]:=rfl;rw[L4,zQ,b,L3];simp[a,qT,kL,vL,vT]
def jiv(h:(l.map (·.1)).Nodup)(b:l.length<=1000):y6 [.lst false<|l.map eR]=some (dLn true l):=by
 have e:=QR l none none none;have d:jgQ (l.map λr=>(kL r,vL r))=(l.map kL,l.map vL):=uz l [] ⇑h;have a:lim l.length=true:=jb ∅;simp[y6,jD,qF,jO,e,d,VH,a,dLn,-jiR]
theorem uO:∀ l:LN,∃ rs,jaL (l.map eR)=some rs
 | []=>⟨[],rfl⟩
 | r::l=>by
  obtain⟨rs,e⟩:=uO l;exact⟨(S r.1.1,S r.1.2,r.2)::rs,by show(jaL<|l.map eR).bind _=_;rw[e];rfl⟩
noncomputable def jnx:D->EN
 | .tup [.str a,.str b,_]=>(a,b)
 | _=>([],[])
def jip{l:LN}(h:(l.map (·.1)).Nodup){rs:List jb5}:∃ l':LN,zN rs (l.map eR)=l'.map eR/\(l'.map (·.1)).Nodup/\(∀ r∈l',r∈l)/\l'.length=l.length:=by
 have p:=jaB (rs:=rs) (l:=l.map eR);obtain⟨l',e,a⟩:=wT (f:=eR) (Q:=λr=>r∈l) (ys:=zN rs<|l.map eR) λy b=>by
  obtain⟨r,c,rfl⟩:=M5.mp<|p.mem_iff.mp b;exact⟨r,rfl,c⟩
 refine⟨l',e,?_,a,?_⟩
 ·rw[e] at p;have p2:=p.map jnx;rw[U0,U0] at p2;have d:(jnx ∘ eR)=λr:EN×Int=>r.1:=by funext r;rfl
  rw[d] at p2;exact p2.nodup_iff.mpr h
 ·have:=p.length_eq;rw[e,L0,L0] at this;exact this
def xY(nm:List Nat)(os:W4)(r:EN×Int):Prop:=(∃ o∈os,r.1=(nm,o)\/r.1=(o,nm))/\1<=r.2/\r.2<=10 ^ 12
def YQ{nm:List Nat}{os:W4}{l:LN}(d:(l.map (·.1)).Nodup)(g:∀ r∈l,xY nm os r){q:EN×Int}(e:q.1∉l.map (·.1)):((l++[q]).map (·.1)).Nodup:=by
 rw[N4,U8];exact⟨d,by simp,λa f b c=>by simp at c;rintro rfl;exact e<|c▸f⟩
def jaD{nm:List Nat}{c:Int}{os:W4}(N:jc x1 (.int 0)=some (.str nm))(Z:nm∉os)(hd:os.Nodup)(hl:os.length<=4):∃(l:LN) (o4 o5 o6:Option D),yB (gT 2<|gC (jd [] 4)<|gC (jd [] 5) gN) yq (yo 0<|os.map D.str) [some<|.int c,some x1,some x2,some<|.lst true [],none,none,none]=some (.nx [some<|.int c,some x1,some x2,↑(l.map eR),o4,o5,o6])/\(l.map (·.1)).Nodup/\(∀ r∈l,xY nm os r)/\l.length<=8:=by
 obtain⟨ρ',e,l,o4,o5,o6,rfl,v,t,kl⟩:=yb (G:=gT 2<|gC (jd [] 4)<|gC (jd [] 5) gN) (f:=yq) (xs:=yo 0<|os.map D.str) (λi ρ=>∃(l:LN) (o4 o5 o6:Option D),ρ=[some<|.int c,some x1,some x2,↑(l.map eR),o4,o5,o6]/\(l.map (·.1)).Nodup/\(∀ r∈l,xY nm (os.take i) r)/\l.length<=2*i) (by
  rintro i x ρ hx ⟨l,o4,o5,o6,rfl,v,t,kl⟩;obtain⟨y,A,rfl⟩:=qx _ _ _ _ hx;rw[List.getElem?_map] at A;have hi:i<os.length:=by
   by_cases h:i<os.length
   ·exact h
   ·rw[List.getElem?_eq_none ∅] at A;cases A
  rw[X8 hi] at A;cases A;rw[Nat.zero_add];have u:os.take (i+1)=os.take i++[os[i]]:=List.take_succ_eq_append_getElem hi;have T:os[i]∉os.take i:=by
   have:=hd.sublist<|List.take_sublist (i+1) os;rw[u,U8] at this;intro z;exact this.2.2 _ z _ (by simp) rfl
  have U:nm≠os[i]:=λz=>Z<|z▸List.getElem_mem hi;have j:∀ r∈l,xY nm (os.take<|i+1) r:=λr g=>by
   obtain⟨⟨o,O,h⟩,h2⟩:=t r g;exact⟨⟨o,by rw[u];exact List.mem_append_left _ O,h⟩,h2⟩
  have B:∀ q:EN×Int,q∈l->q.1≠(nm,os[i])/\q.1≠(os[i],nm):=λq C=>by
   obtain⟨⟨o,O,h⟩,h2⟩:=t q C;have E:o≠os[i]:=λz=>T<|z▸O;have F:o≠nm:=λz=>Z<|z▸List.mem_of_mem_take O;rcases h with h | h<;>rw[h]<;>constructor<;>intro z<;>injection z with z1 z2
   ·exact E z2
   ·exact F z2
   ·exact F z1
   ·exact E z1
  have H:os[i]∈os.take (i+1):=by rw[u];exact U2 _<|M7.mpr rfl
  generalize os[i]=w at *;have I:=yL (c:=c) (k:=230+(i:Int)) ∅ ∅;have n0:=vE c<|230+(i:Int);generalize kH c (230+(i:Int))=n at I n0;obtain⟨v1,m,V,J⟩:=ix2 (a:=9) (b:=1000000000000) (i:=n/11%2) ∅ ∅ (by decide) (by decide) (by decide) (by decide);obtain⟨v2,p,W,K⟩:=ix2 (a:=9) (b:=1000000000000) (i:=n/13%2) ∅ ∅ (by decide) (by decide) (by decide) (by decide);obtain⟨s,P,s0,s1⟩:=Jb (c:=n) (w:=n/2%1009) (most:=v1) ∅ ∅ V J;obtain⟨d,Q,d0,d1⟩:=Jb (c:=n) (w:=n/4%1009) (most:=v2) ∅ ∅ W K;have X:xY nm (os.take<|i+1) ((nm,w),s):=⟨⟨w,H,.inl rfl⟩,s0,Int.le_trans s1 J⟩;have kb:xY nm (os.take<|i+1) ((w,nm),d):=⟨⟨w,H,.inr rfl⟩,d0,Int.le_trans d1 K⟩;have na:(nm,w)∉l.map (·.1):=λz=>by obtain⟨q,C,e⟩:=M5.mp z;exact(B q C).1 e
  have nb:(w,nm)∉l.map (·.1):=λz=>by obtain⟨q,C,e⟩:=M5.mp z;exact(B q C).2 e
  have Y:(w,nm)∉(l++[((nm,w),s)]).map (·.1):=λz=>by
   rw[N4,N1] at z;rcases z with z | z
   ·exact nb z
   ·simp at z;exact U z.2
  have M:∀ L:LN,L.length<=2*i+1->lim (L.map eR).length=true:=λL h=>jb (by rw[L0];lia);have R:=M l ∅;have lb:lim ((l.map eR).length+1)=true:=jb (by rw[L0];lia);have ea:eR ((nm,w),s)=.tup [.str nm,.str w,.int s]:=rfl;have eb:eR ((w,nm),d)=.tup [.str w,.str nm,.int d]:=rfl;by_cases c1:n%2=0<;>by_cases S:n/2%2=0
  ·refine⟨_,_,rfl,.inl ?_,l++[((nm,w),s)]++[((w,nm),d)],some<|.int (i:Int),some<|.str w,some<|.int n,rfl,YQ (os:=os.take<|i+1) (YQ v t na) (λr g=>(N1.mp g).elim (j r) λz=>by rw[M7.mp z];exact X) Y,λr g=>(N1.mp g).elim (λg=>(N1.mp g).elim (j r) λz=>by rw[M7.mp z];exact X) λz=>by rw[M7.mp z];exact kb,by simp;lia⟩;rw[N4,N4,L4,L4,List.map_nil,ea,eb];generalize l.map eR=LL at *;simp(disch:=first | lia | (simp;done) | (simp;lia)) [yq,I,jC,jU,xA,N,c1,S,m,p,P,Q,R,lb,jb]
  ·refine⟨_,_,rfl,.inl ?_,l++[((nm,w),s)],some<|.int (i:Int),some<|.str w,some<|.int n,rfl,YQ v t na,λr g=>(N1.mp g).elim (j r) λz=>by rw[M7.mp z];exact X,by simp;lia⟩;rw[N4,L4,List.map_nil,ea];generalize l.map eR=LL at *;simp(disch:=first | lia | (simp;done) | (simp;lia)) [yq,I,jC,jU,xA,N,c1,S,m,p,P,Q,R,jb]
  ·refine⟨_,_,rfl,.inl ?_,l++[((w,nm),d)],some<|.int (i:Int),some<|.str w,some<|.int n,rfl,YQ v t nb,λr g=>(N1.mp g).elim (j r) λz=>by rw[M7.mp z];exact kb,by simp;lia⟩;rw[N4,L4,List.map_nil,eb];generalize l.map eR=LL at *;simp(disch:=first | lia | (simp;done) | (simp;lia)) [yq,I,jC,jU,xA,N,c1,S,m,p,P,Q,R,jb]
  ·refine⟨_,_,rfl,.inl ?_,l,some<|.int (i:Int),some<|.str w,some<|.int n,rfl,v,j,by lia⟩;simp(disch:=first | lia | (simp;done) | (simp;lia)) [yq,I,jC,jU,xA,N,c1,S,m,p,P,Q,R,jb]) (ρ:=[some<|.int c,some x1,some x2,some<|.lst true [],none,none,none]) ⟨[],none,none,none,rfl,by simp,by simp,by simp⟩
 rw[yD,L0] at kl t;exact⟨l,o4,o5,o6,e,v,λr g=>by have:=t r g;rwa [List.take_of_length_le<|M8 _] at this,by lia⟩
def je3{c:Int}{p:PoolS}{os:W4}(h:p.nm∉os)(hd:os.Nodup)(i:os.length<=4):∃ l:LN,qe [.int c,jX false p,.lst false<|os.map D.str]=↑(l.map eR)/\(l.map (·.1)).Nodup/\l.length<=8/\∀ r∈l,xY p.nm os r:=by
 obtain⟨l,v,w,x,e,j,k,y⟩:=jaD (x1:=jX false p) (x2:=.lst false<|os.map D.str) (c:=c) rfl h hd i;obtain⟨g,m⟩:=uO l;obtain⟨n,a,o,q,z⟩:=jip (rs:=g) j;have b:lim (yo 0<|os.map D.str).length=true:=jb (by rw[yD,L0];lia);have d:lim (os.map D.str).length=true:=jb (by rw[L0];lia);have f:(l.map eR).length<64:=by rw[L0];lia
 have s:=jF os;have t:=yr os;refine⟨n,?_,o,by lia,λr u=>k r<|q r u⟩;generalize jX false p=PP,os.map D.str=OO,l.map eR=LL at *;simp(disch:=first | lia | (simp;done) | (simp;lia)) [qe,jD,Vg,s,t,e,m,a,b,d,f,jb]
def sq(h:f ρ=some (.nx ρ'))(k:g ρ'=r):jf f g ρ=r:=by
 rw[jfw,h];exact k
def lpF(h:(G x ρ).bind f=some (.nx ρ2)):yB G f (x::xs) ρ=yB G f xs ρ2:=by
 refine ob h λr a b=>?_;rw[kD,a,L3,b];rfl
def cpE(h:G x ρ=some ρ1)(k:p ρ1=some y):yQ G qT p (x::xs) ρ=(yQ G qT p xs ρ1).bind λys=>some (y::ys):=by
 rw[qV,h,L3,qT,L3,cond_true,k];rfl
def lpE(h:G x ρ=some ρ1)(k:f ρ1=some (.nx ρ2)):yB G f (x::xs) ρ=yB G f xs ρ2:=by
 rw[kD,h,L3,k];rfl
def jjR{l:List α}{i:Nat}(h:i<l.length):atI l (i:Int)=l[i]?:=by
 unfold atI ixN;rw[if_pos ∅,if_pos ∅];simp
def jlb(h:i<n):ixN n (i:Int)=some i:=by
 unfold ixN;rw[if_pos ∅,if_pos ∅];simp
noncomputable def low(c T n:Int):Int:=c*n/T
def fill(c T:Int):List Int->Int->List Int×Int
 | [],left=>([],left)
 | n::ns,left=>if 0<left/\low c T n<n then((low c T n+1)::(fill c T ns<|left-1).1,(fill c T ns<|left-1).2) else(low c T n::(fill c T ns left).1,(fill c T ns left).2)
theorem Ql(c T:Int):∀(ns:List Int) (left:Int),(fill c T ns left).1.length=ns.length
 | [],_=>rfl
 | n::ns,left=>by
  rw[fill];split
  ·simp[Ql c T ns]
  ·simp[Ql c T ns]
def jg5(pre:List α)(g x:α)(a:List α):(pre++g::a).set pre.length x=pre++x::a:=by
 rw[List.set_append_right _ _<|M8 _];simp
def xD{a b w:Option D}{L:List D}{g n left:Int}{i:Nat}(d:atI L (i:Int)=some (.int g))(e:ixN L.length (i:Int)=some i)(c:L[i]?=some (.int g)):
  Jc [a,b,w,↑L,some<|.int left,some<|.int i,some<|.int n] =
   some (.nx<|if 0<left/\g<n then [a,b,w,↑(L.set i<|.int<|g+1),some<|.int<|left-1,some<|.int i,some<|.int n] else [a,b,w,↑L,some<|.int left,some<|.int i,some<|.int n]):=by
 by_cases f:0<left<;>by_cases h:g<n<;>simp[Jc,jc,d,f,h,e,c]
theorem JC(a b w:Option D)(c T:Int):∀(ns:List Int) (pre:List Int) (left:Int) (o5 o6:Option D),
  ∃ o5' o6',yB (gT 2<|gC (jd [] 5)<|gC (jd [] 6) gN) Jc (yo pre.length<|ns.map D.int) [a,b,w,↑((pre++ns.map (low c T)).map D.int),some<|.int left,o5,o6] =
   some (.nx [a,b,w,↑((pre++(fill c T ns left).1).map D.int),some<|.int (fill c T ns left).2,o5',o6'])
 | [],pre,left,o5,o6=>⟨o5,o6,by simp[yo,fill]⟩
 | n::ns,pre,left,o5,o6=>by
  have d:=xD (a:=a) (b:=b) (w:=w) (L:=(pre++low c T n::ns.map (low c T)).map D.int) (g:=low c T n) (n:=n) (left:=left) (i:=pre.length)
   (by rw[jjR<|by simp];simp) (jlb<|by simp) (by simp)
  have f:((pre++low c T n::ns.map (low c T)).map D.int).set pre.length (D.int<|low c T n+1)=(pre++(low c T n+1)::ns.map (low c T)).map D.int:=by
   have:=jg5 (pre.map D.int) (D.int<|low c T n) (D.int<|low c T n+1)<|(ns.map<|low c T).map D.int;simpa using this
  rw[f] at d;have k:(gT 2<|gC (jd [] 5)<|gC (jd [] 6) gN) (.tup [.int (pre.length:Int),.int n]) [a,b,w,↑((pre++low c T n::ns.map (low c T)).map D.int),some<|.int left,o5,o6]=some [a,b,w,↑((pre++low c T n::ns.map (low c T)).map D.int),some<|.int left,some<|.int pre.length,some<|.int n]:=rfl;rw[L4,yo,kD,L4,k,L3,d,L3,jhe];by_cases h:0<left/\low c T n<n
  ·obtain⟨o5',o6',e⟩:=JC a b w c T ns (pre++[low c T n+1]) (left-1) (some<|.int pre.length)<|some<|.int n;refine⟨o5',o6',?_⟩;have j:(pre++[low c T n+1]).length=pre.length+1:=by simp
   rw[j] at e;rw[fill,if_pos h,if_pos h];simp only[List.append_assoc,List.singleton_append] at e;exact e
  ·obtain⟨o5',o6',e⟩:=JC a b w c T ns (pre++[low c T n]) left (some<|.int pre.length) (some<|.int n);refine⟨o5',o6',?_⟩;have j:(pre++[low c T n]).length=pre.length+1:=by simp
   rw[j] at e;rw[fill,if_neg h,if_neg h];simp only[List.append_assoc,List.singleton_append] at e;exact e
def jy(ns:List Int)(c:Int):List Int:=if ns.sum<=c then ns else(fill c ns.sum ns<|c-(ns.map<|low c ns.sum).sum).1
def jcH(f:ns.length<=20)(a:∀ x∈ns,0<=x/\x<=10 ^ 20)(g:0<=c)(h1:c<=2 ^ 900)(i:ns.sum<=10 ^ 30):
  JV [.lst false<|ns.map D.int,.int c]=↑((jy ns c).map D.int):=by
 by_cases h:ns.sum<=c
 ·simp[JV,jD,KL,jy,h]
 ·have b:yQ (jd [] 0) qT (p2 jJ (p2 yT (pV 1)<|pV 0)<|pV 2) (ns.map D.int) (jO [none,some 1,some 2] [‹ns.map D.int›,some<|.int c,some<|.int ns.sum,none,none,none,none])=some (ns.map λn=>D.int<|low c ns.sum n):=by
   refine ya rfl (λρ=>∃ o,ρ=[o,some<|.int c,some<|.int ns.sum]) ?_ ⟨none,rfl⟩;rintro x d ρ ⟨o,rfl⟩;have:=a x d;refine⟨[some<|.int x,some<|.int c,some<|.int ns.sum],rfl,?_,some<|.int x,rfl⟩;simp(disch:=lia) [vQ,jU,low]
  obtain⟨j,k,e⟩:=JC (‹ns.map D.int›) (some<|.int c) (some<|.int ns.sum) c ns.sum ns [] (c-(ns.map<|low c ns.sum).sum) none none;simp only[List.nil_append,List.length_nil,U0] at e;have e2:(D.int ∘ low c ns.sum)=λn=>D.int (low c ns.sum n):=rfl;rw[e2] at e;have e3:ns.map (λn=>D.int<|low c ns.sum n)=(ns.map<|low c ns.sum).map D.int:=by rw[U0];rfl
  rw[e3] at b e;simp(disch:=lia) [JV,jD,KL,jy,h,b,e,jb,-List.map_map]
theorem Qk(c T:Int):∀(ns:List Int) (left:Int),(fill c T ns left).1.sum+(fill c T ns left).2=(ns.map<|low c T).sum+left
 | [],left=>by simp[fill]
 | n::ns,left=>by
  rw[fill];split
  ·have:=Qk c T ns<|left-1;simp only[List.sum_cons,L4]
   lia
  ·have:=Qk c T ns left;simp only[List.sum_cons,L4]
   lia
def cnt(c T:Int):List Int->Int
 | []=>0
 | n::ns=>(if low c T n<n then 1 else 0)+cnt c T ns
theorem jfn(c T:Int):∀ ns:List Int,0<=cnt c T ns
 | []=>by simp[cnt]
 | n::ns=>by
  have:=jfn c T ns;rw[cnt];split<;>lia
theorem JW(c T:Int):∀(ns:List Int) (left:Int),0<=left->left<=cnt c T ns->(fill c T ns left).2=0
 | [],left,h,k=>by simp[fill,cnt] at *;lia
 | n::ns,left,h,k=>by
  rw[cnt] at k;rw[fill];have:=jfn c T ns;split
  ·next g=>
   rw[if_pos g.2] at k;exact JW c T ns (left-1) ∅ ∅
  ·next g=>
   by_cases g2:low c T n<n
   ·rw[if_pos g2] at k;exact JW c T ns left h ∅
   ·rw[if_neg g2] at k;exact JW c T ns left h ∅
def jc6(b:0<=c)(h:c<T)(a:0<=n):T*low c T n<=c*n/\c*n<=T*low c T n+T*(if low c T n<n then 1 else 0)/\0<=low c T n/\low c T n<=n:=by
 unfold low;have e:=Int.mul_ediv_add_emod (c*n) T;have i:=N9 (c*n) (show T≠0 by lia);have j:=N8 (c*n) (show 0<T by lia);have p:0<=c*n:=Int.mul_nonneg b a;have d:0<=c*n/T:=Int.ediv_nonneg p ∅;have f:c*n/T<=n:=by
  have:c*n<=T*n:=Int.mul_le_mul_of_nonneg_right ∅ a;exact Int.ediv_le_of_le_mul ∅ (by rw[Int.mul_comm n T];exact this)
 refine⟨by lia,?_,d,f⟩;split
 ·lia
 ·next g=>
  have e2:c*n/T=n:=by lia
  rw[e2];have:c*n<=T*n:=Int.mul_le_mul_of_nonneg_right ∅ a
  lia
theorem wZ(a:0<=c)(b:c<T):∀(ns:List Int),(∀ x∈ns,0<=x)->T*(ns.map<|low c T).sum<=c*ns.sum/\c*ns.sum<=T*(ns.map<|low c T).sum+T*cnt c T ns
 | [],_=>by simp[cnt]
 | n::ns,h=>by
  have i:=wZ a b ns<|λx d=>h x (by simp[d]);have j:=jc6 a b<|h n (by simp);simp only[L4,List.sum_cons,cnt,Int.mul_add]
  lia
def jbO(d:0<=c)(e:c<ns.sum)(h:∀ x∈ns,0<=x):
  0<=c-(ns.map<|low c ns.sum).sum/\(fill c ns.sum ns<|c-(ns.map<|low c ns.sum).sum).1.sum=c:=by
 have b:=wZ d e ns h;have f:(ns.map<|low c ns.sum).sum<=c:=by
  refine Int.le_of_mul_le_mul_left (a:=ns.sum) ?_ ∅;rw[Int.mul_comm ns.sum c];exact b.1
 have g:c<=(ns.map<|low c ns.sum).sum+cnt c ns.sum ns:=by
  refine Int.le_of_mul_le_mul_left (a:=ns.sum) ?_ (show 0<ns.sum by lia);rw[Int.mul_add,Int.mul_comm ns.sum c];exact b.2
 have l:=JW c ns.sum ns (c-(ns.map<|low c ns.sum).sum) ∅ ∅;have s:=Qk c ns.sum ns<|c-(ns.map<|low c ns.sum).sum;exact⟨by lia,by lia⟩
theorem jbM:∀(ns:List Int),(∀ x∈ns,0<=x/\x<=b)->0<=ns.sum/\ns.sum<=b*ns.length
 | [],_=>by simp
 | n::ns,h=>by
  have i:=jbM ns<|λx a=>h x (by simp[a]);have j:=h n (by simp);simp only[List.sum_cons,M0];have:b*((ns.length+1:Nat):Int)=b*ns.length+b:=by push_cast;rw[Int.mul_add];lia
  lia
def JB:(jy ns c).length=ns.length:=by
 unfold jy;split
 ·rfl
 ·exact Ql _ _ _ _
structure PtOk(p:W2):Prop where
 lo:1<=p.2
 hi:p.2<=10
noncomputable def ts(P:List W2):List Int:=P.map (·.2)
noncomputable def ups(c:Int)(P:List W2):List Int:=P.map λp=>(c*p.2+9)/10
noncomputable def uG(c:Int)(P:List W2):List Int:=P.map λp=>c*p.2/10
noncomputable def jaY(odd:Int):Nat->List Int->List Int
 | _,[]=>[]
 | k,x::l=>(if(k:Int)<odd then x+1 else x)::jaY odd (k+1) l
theorem uc(a:Int):∀(k:Nat) (l:List Int),(jaY a k l).length=l.length
 | _,[]=>rfl
 | k,x::l=>by rw[jaY,M0,M0,uc]
theorem jcz(b:Int):∀(k:Nat) (l:List Int),(∀ x∈l,0<=x)->∀ x∈jaY b k l,0<=x
 | _,[],_,x,a=>by simp[jaY] at a
 | k,y::l,h,x,a=>by
  rw[jaY] at a;have d:=h y (by simp);rcases M4.mp a with rfl | a
  ·split<;>lia
  ·exact jcz b (k+1) l (λz c=>h z<|by simp[c]) x a
def ji(P:List W2)(c:Int):List Int×Int:=if 10<(ts P).sum then(ups c P,(ups c P).sum-c) else(jaY (c*(ts P).sum/10-(uG c P).sum) 0<|uG c P,0)
def jne(h:∀ p∈P,PtOk p):0<=(ts P).sum/\(ts P).sum<=10*P.length:=by
 induction P with
 | nil=>simp[ts]
 | cons p P c=>
  have a:=c λx d=>h x (by simp[d]);have b:=h p (by simp);have e:=b.lo;have f:=b.hi;simp only[ts,L4,List.sum_cons,M0] at a ⊢
  lia
def zR(P:List W2):frzs (P.map e2)=true/\fzs (P.map e2)=P.map e2:=by
 refine⟨yP λd hd=>?_,vF λd hd=>?_⟩
 all_goals obtain⟨p,a,rfl⟩:=M5.mp hd;rfl
def jcb(b:P.length<=10):qc [.lst false<|P.map e2]=some (.int (ts P).sum):=by
 have a:yQ (jd [] 0) qT (pF<|p2 jc (pV 0)<|pI 1) (P.map e2) (jO [none] [‹P.map e2›])=some (P.map λp=>D.int p.2):=by
  refine ya rfl (λρ=>∃ o,ρ=[o]) ?_ ⟨none,rfl⟩;rintro x c ρ ⟨o,rfl⟩;exact⟨_,rfl,rfl,_,rfl⟩
 have e:(P.map λp=>D.int p.2)=(ts P).map D.int:=by unfold ts;rw[U0];rfl
 rw[e] at a;simp(disch:=lia) [qc,jD,Vp,(zR P).1,a,jb,-List.map_map]
theorem zc(a:Int):∀(l:List Int) (k:Nat) (o0 o1:Option D),yQ (gT 2<|gC (jd [] 0)<|gC (jd [] 1) gN) qT (pIf (je<|p2 jdx (pV 0)<|pV 2) (p2 jq (pV 1)<|pI 1)<|pF<|pV 1) (yo k<|l.map D.int) [o0,o1,some<|.int a]=some ((jaY a k l).map D.int)
 | [],k,o0,o1=>rfl
 | x::l,k,o0,o1=>by
  have c:(gT 2<|gC (jd [] 0)<|gC (jd [] 1) gN) (.tup [.int (k:Int),.int x]) [o0,o1,some<|.int a]=some [some<|.int k,some<|.int x,some<|.int a]:=rfl;have b:=zc a l (k+1) (some<|.int k)<|some<|.int x;rw[L4,yo,qV,c,L3];by_cases h:(k:Int)<a
  ·simp[h,b,jaY]
  ·simp[h,b,jaY]
def jer(n:P.length<=10)(a:∀ p∈P,PtOk p)(t:0<=c)(h1:c<=2 ^ 900):Vz [.lst false<|P.map e2,.int c]=some (.tup [.lst true<|(ji P c).1.map D.int,.int (ji P c).2]):=by
 have m:=jcb n;have u:=jne a;have f:=zR P;have q:lim (P.map e2).length=true:=jb (by simp;lia);by_cases h:10<(ts P).sum
 ·have b:yQ (jd [] 0) qT (p2 jJ (p2 jq (p2 yT (pV 1)<|p2 jc (pV 0)<|pI 1)<|pI 9)<|pI 10) (P.map e2) (jO [none,some 1] [‹P.map e2›,some<|.int c,some<|.int (ts P).sum,none,none])=some (P.map λp=>D.int<|(c*p.2+9)/10):=by
   refine ya rfl (λρ=>∃ o,ρ=[o,some<|.int c]) ?_ ⟨none,rfl⟩;rintro x d ρ ⟨o,rfl⟩;refine⟨[some<|e2 x,some<|.int c],rfl,?_,_,rfl⟩;have g:jc (e2 x) (.int 1)=some (.int x.2):=rfl;have r:=(a x d).lo;have s:=(a x d).hi;simp(disch:=lia) [g,vQ,jU]
  have e:(P.map λp=>D.int<|(c*p.2+9)/10)=(ups c P).map D.int:=by unfold ups;rw[U0];rfl
  rw[e] at b;have i:ji P c=(ups c P,(ups c P).sum-c):=if_pos h;rw[i];simp(disch:=lia) [Vz,jD,wE,f.1,f.2,m,h,b,jb,-List.map_map]
 ·have b:yQ (jd [] 0) qT (p2 jJ (p2 yT (pV 1)<|p2 jc (pV 0)<|pI 1)<|pI 10) (P.map e2) (jO [none,some 1] [‹P.map e2›,some<|.int c,some<|.int (ts P).sum,none,none])=some (P.map λp=>D.int<|c*p.2/10):=by
   refine ya rfl (λρ=>∃ o,ρ=[o,some<|.int c]) ?_ ⟨none,rfl⟩;rintro x d ρ ⟨o,rfl⟩;refine⟨[some<|e2 x,some<|.int c],rfl,?_,_,rfl⟩;have g:jc (e2 x) (.int 1)=some (.int x.2):=rfl;have r:=(a x d).lo;have s:=(a x d).hi;simp(disch:=lia) [g,vQ,jU]
  have e:(P.map λp=>D.int<|c*p.2/10)=(uG c P).map D.int:=by unfold uG;rw[U0];rfl
  rw[e] at b;have i:ji P c=(jaY (c*(ts P).sum/10-(uG c P).sum) 0<|uG c P,0):=if_neg h;rw[i];have j:=zc (c*(ts P).sum/10-(uG c P).sum) (uG c P) 0 none none;have k:jO [none,none,some 4] [‹P.map e2›,some<|.int c,some<|.int (ts P).sum,‹(uG c P).map D.int›,some<|.int<|c*(ts P).sum/10-(uG c P).sum]=[none,none,some<|.int<|c*(ts P).sum/10-(uG c P).sum]:=rfl;have l:lim (yo 0<|(uG c P).map D.int).length=true:=jb (by rw[yD];simp[uG];lia);simp(disch:=lia) [Vz,jD,wE,f.1,f.2,m,h,b,jb,vQ,jU,k,j,l,-List.map_map]
def ul:(ji P c).1.length=P.length:=by
 unfold ji;split
 ·simp[ups]
 ·rw[uc];simp[uG]
def jb4(d:∀ p∈P,PtOk p)(e:0<=c):∀ x∈(ji P c).1,0<=x:=by
 have b:∀ p∈P,0<=c*p.2:=λp h=>Int.mul_nonneg e (by have:=(d p h).lo;lia);unfold ji;split
 ·intro x a;obtain⟨p,h,rfl⟩:=M5.mp a;have:=b p h
  lia
 ·refine jcz _ _ _ λx a=>?_;obtain⟨p,h,rfl⟩:=M5.mp a;have:=b p h;show 0<=c*p.2/10
  lia
def Y9(o:Bool)(l:List Int):zk [.lst o<|l.map D.int]=some (.int l.sum):=by simp
def jkV{a b:List W2}(h:a.length+b.length<=100000):jq (.lst o<|a.map e2) (.lst o'<|b.map e2)=↑((a++b).map e2):=by
 show(bif lim ((a.map e2).length+(b.map e2).length)&&(frzs (a.map e2)&&frzs (b.map e2)) then some (D.lst true<|a.map e2++b.map e2) else none)=_;rw[jv,jv,L0,L0,jb h,N4];rfl
def Qr(l:List W2):yQ (gT 2<|gC (jd [] 0)<|gC (jd [] 1) gN) qT (pF<|pV 1) (l.map e2) [none,none]=some ((ts l).map D.int):=by
 unfold ts;rw[U0];refine ya (l:=l) (en:=e2) rfl (λρ=>∃ o a,ρ=[o,a]) ?_ ⟨none,none,rfl⟩;rintro x b ρ ⟨o,a,rfl⟩;exact⟨_,rfl,rfl,_,_,rfl⟩
def In.sum(h:In l m):0<=(ts l).sum/\(ts l).sum<=m*l.length:=by
 have:=jbM (b:=m) (ts l) λx a=>by obtain⟨p,c,rfl⟩:=M5.mp a;exact h p c
 rwa [show(ts l).length=l.length from L0 ..] at this
def BkOk.len(h:PoolOk p)(k:BkOk p b):b.S.length<=10/\b.W.length<=10/\b.R.length<=10/\b.L.length<=10:=by
 have f:=h.told2;have g:=h.marks2;have a:=congrArg List.length k.S;have c:=congrArg List.length k.W;have d:=congrArg List.length k.R;have e:=congrArg List.length k.L;simp only[L0] at a c d e
 lia
def jgr{c:Int}(h:PoolOk p)(k:BkOk p b):∃ v:Int,qL [.int c,jX false p,j8 false b]=some (.int v)/\0<=v/\v<=10 ^ 20:=by
 have j:=yL (c:=c) (k:=240) (by decide) (by decide);have g:=vE c 240;have u:=jcv c 240;generalize kH c 240=n at j g u;obtain⟨T,U,V,X⟩:=k.len h;have Y:=h.marks2;have x:In (b.S++b.W) (10 ^ 14):=λq d=>by
  rcases N1.mp d with d | d
  ·have:=k.s q d;exact⟨this.1,by lia⟩
  ·exact k.w q d
 have s1:=x.sum;have Z:=In.sum (l:=p.marks) (m:=10 ^ 12) λq d=>by have:=h.marks q d;exact⟨by lia,this.2.2⟩
 have s3:=In.sum (l:=y4 b.W none<|some<|1+n/6%6) (m:=10 ^ 14) λq d=>k.w q<|uj d;have l5:=ud b.W none<|some<|1+n/6%6;have c1:=Qr<|b.S++b.W;have y:=Qr p.marks;have z:=Qr<|y4 b.W none<|some<|1+n/6%6;have A:=jkV (o:=false) (o':=false) (a:=b.S) (b:=b.W) ∅;have B:jd4 none (some<|1+n/6%6) (.lst false<|b.W.map e2)=↑((y4 b.W none<|some<|1+n/6%6).map e2):=by rw[jl7<|jv b.W,Qa]
 have C:=jv<|b.S++b.W;have E:=jv p.marks;have F:=jv<|y4 b.W none<|some<|1+n/6%6;have G:lim ((b.S++b.W).map e2).length=true:=jb (by rw[L0,N3];lia);have H:lim (p.marks.map e2).length=true:=jb (by rw[L0];lia);have I:lim ((y4 b.W none<|some<|1+n/6%6).map e2).length=true:=jb (by rw[L0];lia);have t1:=Y9 true<|ts<|b.S++b.W;have J:=Y9 true<|ts p.marks;have K:=Y9 true<|ts<|y4 b.W none<|some<|1+n/6%6;have L:jc (j8 false b) (.int 0)=‹b.S.map e2›:=rfl;have M:jc (j8 false b) (.int 1)=‹b.W.map e2›:=rfl;have N:jc (jX false p) (.int 2)=‹p.marks.map e2›:=rfl;have b1:(10 ^ 14:Int)*((b.S++b.W).length:Int)<=10 ^ 14*20:=Int.mul_le_mul_of_nonneg_left (by rw[N3];lia) (by decide);have b2:(10 ^ 12:Int)*(p.marks.length:Int)<=10 ^ 12*10:=Int.mul_le_mul_of_nonneg_left ∅ (by decide);have b3:(10 ^ 14:Int)*((y4 b.W none<|some<|1+n/6%6).length:Int)<=10 ^ 14*10:=Int.mul_le_mul_of_nonneg_left ∅ (by decide);generalize(ts<|b.S++b.W).sum=x1 at *;generalize(ts p.marks).sum=x2 at *;generalize(ts<|y4 b.W none<|some<|1+n/6%6).sum=x3 at *;generalize(ts<|b.S++b.W).map D.int=y1 at *;generalize(ts p.marks).map D.int=y2 at *;generalize(ts<|y4 b.W none<|some<|1+n/6%6).map D.int=y3 at *;generalize(b.S++b.W).map e2=z1 at *;generalize p.marks.map e2=z2 at *;generalize(y4 b.W none<|some<|1+n/6%6).map e2=z3 at *;generalize b.S.map e2=w1,b.W.map e2=w2,jX false p=PP,j8 false b=BB at *;have O:0<=x1/\x1<=2000000000000000:=by lia
 have P:0<=x2/\x2<=10000000000000:=by lia
 have Q:0<=x3/\x3<=1000000000000000:=by lia
 have r0:=N9 (n*n) (show x1+x2+2≠0 by lia);have r1:=N8 (n*n) (show 0<x1+x2+2 by lia);have R:jo (.int<|n*n) (.int<|x1+x2+2)=some (.int<|n*n%(x1+x2+2)):=jC ∅;have m1:0<=x3*(1+n/36%3)/\x3*(1+n/36%3)<=1000000000000000*3:=⟨Int.mul_nonneg ∅ ∅,Int.mul_le_mul ∅ ∅ ∅ ∅⟩;have mm:0<=n*n:=Int.mul_nonneg g g;obtain⟨v,r,t⟩:=ixL (l:=[0,1+n/6%9,x3,x3*(1+n/36%3),n*n%(x1+x2+2),(x1+x2)*3+n]) (i:=n%6) ∅ (by show n%6<6;lia);have e:yT (.int x3) (.int<|1+n/36%3)=some (.int<|x3*(1+n/36%3)):=vQ ∅ ∅;have f:yT (.int n) (.int n)=some (.int<|n*n):=vQ ∅ ∅;simp only[List.map] at t;generalize n*n%(x1+x2+2)=u1,x3*(1+n/36%3)=u2 at *;generalize n*n=u3 at *;refine⟨v,?_,?_,?_⟩
 ·simp(disch:=first | lia | (simp;done) | (simp;lia)) [qL,jD,Ks,j,jC,jU,vQ,L,M,N,A,B,c1,y,z,C,E,F,G,H,I,t1,J,K,R,e,f,t,jO,List.getElem?_cons_zero,Option.join,jb,-JU]
 ·simp at r;lia
 ·simp at r;lia
theorem wG(a:0<=c)(d:c<T):∀(ns:List Int) (left:Int),(∀ x∈ns,0<=x)->∀(i:Nat) (g n:Int),(fill c T ns left).1[i]?=some g->ns[i]?=some n->0<=g/\g<=n
 | [],left,_,i,g,n,_,h=>by simp at h
 | m::ns,left,hp,i,g,n,h1,h2=>by
  have b:=jc6 a d<|hp m (by simp);rw[fill] at h1;cases i with
  | zero=>
   simp at h2;subst h2;split at h1<;>simp at h1<;>subst h1<;>lia
  | succ i=>
   simp at h2;split at h1
   ·simp at h1;exact wG a d ns _ (λx e=>hp x<|by simp[e]) i g n h1 h2
   ·simp at h1;exact wG a d ns _ (λx e=>hp x<|by simp[e]) i g n h1 h2
def jbG{ns:List Int}{c:Int}(a:0<=c)(h:∀ x∈ns,0<=x){i:Nat}{g n:Int}(h1:(jy ns c)[i]?=some g)(h2:ns[i]?=some n):0<=g/\g<=n:=by
 unfold jy at h1;split at h1
 ·rw[h2] at h1;cases h1;exact⟨h _<|List.mem_of_getElem? h2,Int.le_refl _⟩
 ·exact wG a ∅ ns _ h i g n h1 h2
def KH(a:0<=c)(h:∀ x∈ns,0<=x):(jy ns c=ns/\ns.sum<=c)\/(jy ns c).sum=c:=by
 unfold jy;split
 ·rename_i q;exact .inl ⟨rfl,q⟩
 ·exact .inr (jbO a ∅ h).2
noncomputable def put(f:List Nat->Int)(w:List Nat)(v:Int):List Nat->Int:=λn=>if n=w then v else f n
noncomputable def NS:List Str:=["pool_name","marks","sizes","owed","levels","loans","cash","served","entries","moves"]
abbrev I10(o:Bool)(a0 a1 a2 a3 a4 a5 a6 a7 a8 a9:D):D:=.ins o 0 NS [a0,a1,a2,a3,a4,a5,a6,a7,a8,a9]
def jnM:JE NS [a0,a1,a2,a3,a4,a5,a6,a7,a8,a9] "pool_name" = some a0:=rfl
def jn7:JE NS [a0,a1,a2,a3,a4,a5,a6,a7,a8,a9] "marks" = some a1:=rfl
def jn0:JE NS [a0,a1,a2,a3,a4,a5,a6,a7,a8,a9] "sizes" = some a2:=rfl
def jnB:JE NS [a0,a1,a2,a3,a4,a5,a6,a7,a8,a9] "owed" = some a3:=rfl
def jnU:JE NS [a0,a1,a2,a3,a4,a5,a6,a7,a8,a9] "levels" = some a4:=rfl
def jnL:JE NS [a0,a1,a2,a3,a4,a5,a6,a7,a8,a9] "loans" = some a5:=rfl
def jnC:JE NS [a0,a1,a2,a3,a4,a5,a6,a7,a8,a9] "cash" = some a6:=rfl
def joa:JE NS [a0,a1,a2,a3,a4,a5,a6,a7,a8,a9] "entries" = some a8:=rfl
def jn2:JE NS [a0,a1,a2,a3,a4,a5,a6,a7,a8,a9] "moves" = some a9:=rfl
def g2:qW 0 "sizes" ve (I10 true a0 a1 a2 a3 a4 a5 a6 a7 a8 a9)=some (a2,λz=>I10 true a0 a1 z a3 a4 a5 a6 a7 a8 a9):=rfl
def g3:qW 0 "owed" ve (I10 true a0 a1 a2 a3 a4 a5 a6 a7 a8 a9)=some (a3,λz=>I10 true a0 a1 a2 z a4 a5 a6 a7 a8 a9):=rfl
def g4:qW 0 "levels" ve (I10 true a0 a1 a2 a3 a4 a5 a6 a7 a8 a9)=some (a4,λz=>I10 true a0 a1 a2 a3 z a5 a6 a7 a8 a9):=rfl
def g7:qW 0 "served" ve (I10 true a0 a1 a2 a3 a4 a5 a6 a7 a8 a9)=some (a7,λz=>I10 true a0 a1 a2 a3 a4 a5 a6 z a8 a9):=rfl
def g8:qW 0 "entries" ve (I10 true a0 a1 a2 a3 a4 a5 a6 a7 a8 a9)=some (a8,λz=>I10 true a0 a1 a2 a3 a4 a5 a6 a7 z a9):=rfl
def g9:qW 0 "moves" ve (I10 true a0 a1 a2 a3 a4 a5 a6 a7 a8 a9)=some (a9,λz=>I10 true a0 a1 a2 a3 a4 a5 a6 a7 a8 z):=rfl
def job:Ji NS [a0,a1,a2,a3,a4,a5,a6,a7,a8,a9] "cash" z=(NS,[a0,a1,a2,a3,a4,a5,z,a7,a8,a9]):=rfl
def jeO{a0 a1 a2 a3 a4 a5 a7 a8 a9:D}{ρ:Rh}{i:Nat}{pv:PF}{m n:Int}(a:pV i ρ=some (I10 true a0 a1 a2 a3 a4 a5 (.int m) a7 a8 a9))(b:pv ρ=some (.int n)):
  Yv i ve 0 "cash" (λm n=>m-n) pv ρ=some (.nx<|ρ.set i<|some<|I10 true a0 a1 a2 a3 a4 a5 (.int<|m-n) a7 a8 a9):=by
 have e:(NS.length<=900)=True:=by simp[NS]
 unfold Yv;rw[a];simp[ve,jnC,job,b,e]
def K7{ρ:Rh}{i:Nat}{w:List Nat}{L:Ln}{pk pv:PF}{t:D}{N:W4}{f:List Nat->Int}{kk:D->D}{g:Int->Int->Int}{n:Int}(b:pV i ρ=some t)(c:L t=some (dct true N f,kk))(d:pk ρ=some (.str w))(e:pv ρ=some (.int n))(a:w∈N)(h:N.length<=1000):
  vG i L pk g pv ρ=some (.nx<|ρ.set i<|some<|kk<|dct true N<|put f w<|g (f w) n):=by
 rw[vG,d,L3,show vT (.str w)=some (.str w) from rfl,L3,b,L3,c,L3,show jea (dct true N f,kk).1=some (N.map KA.str,N.map λn=>D.int<|f n) from rfl,L3,Qn f a,L3,show vD (.int<|f w)=some (f w) from rfl,L3,e,L3,show vD (.int n)=some n from rfl,L3,jb<|by rw[L0];lia,cond_true,uV a];rfl
noncomputable def dSv(o:Bool)(l:W4):D:=.dK o (l.map KA.str)<|l.map λ_=>D.bl true
noncomputable def YD(l:W4)(w:List Nat):List (List Nat):=if w∈l then l else l++[w]
def jiV(l:W4)(w:List Nat):qm (l.map KA.str) (l.map λ_=>D.bl true) (.str w) (.bl true)=((YD l w).map KA.str,(YD l w).map λ_=>D.bl true):=by
 have b:(KA.str w∈l.map KA.str)↔w∈l:=by simp
 have c:∀ l:List (List Nat),jcs (l.map KA.str) (l.map λ_=>D.bl true) (.str w) (.bl true)=l.map λ_=>D.bl true:=λl=>by
  induction l with
  | nil=>rfl
  | cons a l d=>rw[L4,L4,jcs,d];split<;>rfl
 unfold qm YD;by_cases h:w∈l
 ·rw[if_pos h,if_pos<|b.mpr h,c]
 ·rw[if_neg h,if_neg λz=>h<|b.mp z];simp
def jkD(a:pV i ρ=some (I10 true a0 a1 a2 a3 a4 a5 a6 (dSv true l) a8 a9))(b:pk ρ=some (.str w))(c:l.length<=1000):
  vf i (qW 0 "served" ve) pk (pC<|.bl true) ρ=some (.nx<|ρ.set i<|some<|I10 true a0 a1 a2 a3 a4 a5 a6 (dSv true<|YD l w) a8 a9):=by
 unfold vf;rw[show(pC<|D.bl true) ρ=some (.bl true) from rfl,L3,a,L3,g7,L3];show((pk ρ).bind λq=>_)=_;rw[b,L3];show(bif lim (l.map KA.str).length&&(true||_) then some (Out.nx<|ρ.set i<|some<|I10 true a0 a1 a2 a3 a4 a5 a6 (.dK true (qm (l.map KA.str) (l.map λ_=>D.bl true) (.str w)<|.bl true).1 (qm (l.map KA.str) (l.map λ_=>D.bl true) (.str w)<|.bl true).2) a8 a9) else none)=_;rw[jb<|by rw[L0];lia,jiV];rfl
def jdC(h:jr a3 (.str w)=some (.int v)):jg [I10 false a0 a1 a2 a3 a4 a5 a6 a7 a8 a9,.tup [.str ql,.str w]]=some (.int v):=by
 simp[jg,jD,yh,jnB,h,jet]
def u8(h:jr a3 (.str w)=some (.int v))(h2:jr a2 (.str w)=some (.int u)):jg [I10 false a0 a1 a2 a3 a4 a5 a6 a7 a8 a9,.tup [.str yw,.str w]]=some (.int<|v+u):=by
 simp[jg,jD,yh,jnB,jn0,h,h2,jet]
def jbt(h:jr a1 (.str w)=some (.int v))(h2:jr a4 (.str w)=some (.int u)):jg [I10 false a0 a1 a2 a3 a4 a5 a6 a7 a8 a9,.tup [.str kt,.str w]]=some (.int<|if v-u<0 then 0 else v-u):=by
 have a:jiK [.int<|v-u,.int 0]=some (.int<|if v-u<0 then 0 else v-u):=rfl;simp[jg,jD,yh,jn7,jnU,h,h2,jet,a,-v5]
def jcy:jg [I10 false (.str nm) a1 a2 a3 a4 (dLn false l) a6 a7 a8 a9,.tup [.str yI,.str w,.int j]]=some (.int<|if j-(vd l (nm,w)).getD 0<0 then 0 else j-(vd l (nm,w)).getD 0):=by
 have a:Kd (dLn false l) [.str nm,.str w] (.int 0)=some (.int<|(vd l (nm,w)).getD 0):=by
  show some ((Qz (l.map kL) (l.map vL) [.str nm,.str w]).getD (.int 0))=_;rw[J6 (nm,w) l];cases vd l (nm,w)<;>rfl
 generalize(vd l (nm,w)).getD 0=u at *;have b:jiK [.int<|j-u,.int 0]=some (.int<|if j-u<0 then 0 else j-u):=rfl;generalize dLn false l=X at a;simp[jg,jD,yh,jnL,jnM,a,jet,b,-v5]
def jcX:jg [I10 false (.str nm) a1 a2 a3 a4 (dLn false l) a6 a7 a8 a9,.tup [.str yU,.str w]]=some (.int<|(vd l (w,nm)).getD 0):=by
 have a:Kd (dLn false l) [.str w,.str nm] (.int 0)=some (.int<|(vd l (w,nm)).getD 0):=by
  show some ((Qz (l.map kL) (l.map vL) [.str w,.str nm]).getD (.int 0))=_;rw[J6 (w,nm) l];cases vd l (w,nm)<;>rfl
 generalize(vd l (w,nm)).getD 0=u at a;generalize dLn false l=X at a;simp[jg,jD,yh,jnL,jnM,a,jet]
def jct:jg [I10 false a0 a1 a2 a3 a4 a5 (.int v) a7 a8 a9,.tup [.str Jj,.str w]]=some (.int v):=by
 simp[jg,jD,yh,jnC,jet]
noncomputable abbrev MV:=List Nat×List Nat×Int
noncomputable def eM(m:MV):D:=.tup [.str m.1,.str m.2.1,.int m.2.2]
def mvF(nm:List Nat)(l:LN)(m:MV):LN:=if m.1=yI then YG l (nm,m.2.1) ((vd l (nm,m.2.1)).getD 0+m.2.2) else YG l (m.2.1,nm) ((vd l (m.2.1,nm)).getD 0-m.2.2)
structure MvOk(nm:List Nat)(N:W4)(c:Int)(l:LN)(m:MV):Prop where
 kd:m.1=yI\/(m.1=yU/\m.2.2<=(vd l (m.2.1,nm)).getD 0)
 ot:m.2.1∈N
 po:0<m.2.2
 hi:m.2.2<=c
def jah(h:0<c)(h2:c<=(vd l k).getD 0):∃ v,vd l k=some v:=by
 cases e:vd l k with
 | some v=>exact⟨v,rfl⟩
 | none=>rw[e] at h2;simp at h2;lia
def jg9(i:l.length<=100)(k:MvOk nm N c l m):vq [dLn true l,.str nm,.str m.1,.str m.2.1,.int m.2.2]=some (.non,dLn true<|mvF nm l m):=by
 have a:lim l.length=true:=jb ∅;rcases k.kd with e | ⟨e,e2⟩
 ·have b:=J6 (nm,m.2.1) l;have p1:=Qh (nm,m.2.1) ((vd l (nm,m.2.1)).getD 0+m.2.2) l;have g:Kd (dLn true l) [.str nm,.str m.2.1] (.int 0)=some (.int<|(vd l (nm,m.2.1)).getD 0):=by
   show some ((Qz (l.map kL) (l.map vL) [.str nm,.str m.2.1]).getD (.int 0))=_;rw[b];cases vd l (nm,m.2.1)<;>rfl
  have d:mvF nm l m=YG l (nm,m.2.1) ((vd l (nm,m.2.1)).getD 0+m.2.2):=if_pos e;rw[d];have j:vT (.str nm)=some (.str nm):=rfl;have h:vT (.str m.2.1)=some (.str m.2.1):=rfl;have hd:jfl (dLn true l)=some (l.map kL,l.map vL):=rfl;simp only[dLn] at *;simp[vq,vp,Jv,e,g,p1,a,JF]
 ·obtain⟨v,f⟩:=jah k.po e2;have b:=J6 (m.2.1,nm) l;rw[f] at b;have p1:=Qh (m.2.1,nm) (v-m.2.2) l;have d:mvF nm l m=YG l (m.2.1,nm) (v-m.2.2):=by unfold mvF;rw[if_neg<|by rw[e];decide,f];rfl
  rw[d];simp only[dLn] at *;simp[vq,vp,Jv,jeI,e,b,p1,a,JF]
def uC(l:LN)(k:EN)(v:Int):(YG l k v).length<=l.length+1:=by
 unfold YG jdt;split<;>simp
structure En where
 pl:Int
 kd:List Nat
 nm:List Nat
 nd:Int
 gt:Int
noncomputable def e5(e:En):D:=.tup [.int e.pl,.str e.kd,.str e.nm,.int e.nd,.int e.gt]
structure Fl where
 sz:List Nat->Int
 ow:List Nat->Int
 lv:List Nat->Int
 ln:LN
 cash:Int
 sv:List (List Nat)
 en:List En
 mv:List MV
def nub(l:W4):List (List Nat):=l.foldl YD []
def jeb(l:W4)(w:List Nat):nub (l++[w])=YD (nub l) w:=by unfold nub;rw[List.foldl_append];rfl
theorem ja1:∀(l acc:W4),w∈l.foldl YD acc↔w∈acc\/w∈l
 | [],acc=>by simp
 | a::l,acc=>by
  rw[U9,ja1 l];unfold YD;by_cases h:a∈acc
  ·rw[if_pos h,M4];exact⟨λz=>z.imp id .inr,λz=>z.elim .inl λz=>z.elim (λq=>.inl<|q▸h) .inr⟩
  ·rw[if_neg h,N1,M7,M4,or_assoc]
def jgv:w∈nub l↔w∈l:=by unfold nub;rw[ja1];simp
theorem jb9:∀(l acc:W4),(l.foldl YD acc).length<=acc.length+l.length
 | [],acc=>by simp
 | a::l,acc=>by
  have:=jb9 l<|YD acc a;have h:(YD acc a).length<=acc.length+1:=by unfold YD;split<;>simp
  rw[U9,M0];lia
def jn(p:PoolS)(o:Bool)(x:Fl):D:=I10 o (.str p.nm) (dct o p.P<|fnOf p.marks) (dct o p.C x.sz) (dct o p.C x.ow) (dct o p.P x.lv) (dLn o x.ln) (.int x.cash) (dSv o<|nub x.sv) (.lst o<|x.en.map e5)<|.lst o<|x.mv.map eM
def jfs(o:Bool)(N:W4)(f:List Nat->Int):fz (dct o N f)=dct false N f:=by
 have:fzs (N.map λn=>D.int<|f n)=N.map λn=>D.int (f n):=vF λd hd=>by obtain⟨p,_,rfl⟩:=M5.mp hd;rfl
 simp[dct,fz,this]
def jfI(o:Bool)(l:LN):fz (dLn o l)=dLn false l:=by
 have:fzs (l.map vL)=l.map vL:=vF λd hd=>by obtain⟨p,_,rfl⟩:=M5.mp hd;rfl
 simp[dLn,fz,this]
def jkr(o:Bool)(l:W4):fz (dSv o l)=dSv false l:=by
 have:fzs (l.map λ_=>D.bl true)=l.map λ_=>D.bl true:=vF λd hd=>by obtain⟨p,_,rfl⟩:=M5.mp hd;rfl
 unfold dSv;rw[fz,this]
def z5(l:List En):fzs (l.map e5)=l.map e5:=vF λd hd=>by obtain⟨p,_,rfl⟩:=M5.mp hd;rfl
def J7(l:List En):frzs (l.map e5)=true:=yP λd hd=>by obtain⟨p,_,rfl⟩:=M5.mp hd;rfl
def wH(l:List MV):fzs (l.map eM)=l.map eM:=vF λd hd=>by obtain⟨p,_,rfl⟩:=M5.mp hd;rfl
def jca(l:List MV):frzs (l.map eM)=true:=yP λd hd=>by obtain⟨p,_,rfl⟩:=M5.mp hd;rfl
def jhK(p:PoolS)(o:Bool)(x:Fl):fz (jn p o x)=jn p false x:=by
 unfold jn I10;rw[fz];simp[fzs,jfs,jfI,jkr,fz,z5,wH]
def xK{p:PoolS}{x:Fl}{ρ:Rh}{i:Nat}{pv:PF}{n:Int}(a:pV i ρ=some (jn p true x))(b:pv ρ=some (.int n)):
  Yv i ve 0 "cash" (λm n=>m-n) pv ρ=some (.nx<|ρ.set i<|some<|jn p true {x with cash:=x.cash-n}):=jeO a b
def zV{p:PoolS}{x:Fl}{ρ:Rh}{i:Nat}{pv:PF}{e:En}(a:pV i ρ=some (jn p true x))(b:pv ρ=some (e5 e))(c:x.en.length<=1000):
  vx i (qW 0 "entries" ve) pv ρ=some (.nx<|ρ.set i<|some<|jn p true {x with en:=x.en++[e]}):=by
 rw[vx,b,L3,a,L3];unfold jn;rw[g8,L3];rw[VS,L3,jb<|by rw[L0];lia,cond_true,N4];rfl
def jmO{p:PoolS}{x:Fl}{ρ:Rh}{i:Nat}{pv:PF}{m:MV}(a:pV i ρ=some (jn p true x))(b:pv ρ=some (eM m))(c:x.mv.length<=1000):
  vx i (qW 0 "moves" ve) pv ρ=some (.nx<|ρ.set i<|some<|jn p true {x with mv:=x.mv++[m]}):=by
 rw[vx,b,L3,a,L3];unfold jn;rw[g9,L3];rw[VS,L3,jb<|by rw[L0];lia,cond_true,N4];rfl
def jdO{p:PoolS}{x:Fl}{ρ:Rh}{w:List Nat}{i:Nat}{pk pv:PF}{n:Int}(a:pV i ρ=some (jn p true x))(b:pk ρ=some (.str w))(c:pv ρ=some (.int n))(d:w∈p.C)(e:p.C.length<=1000):
  vG i (qW 0 "owed" ve) pk (λm n=>m-n) pv ρ=some (.nx<|ρ.set i<|some<|jn p true {x with ow:=put x.ow w (x.ow w-n)}):=K7 (g:=λm n=>m-n) a g3 b c d e
def jlQ{p:PoolS}{x:Fl}{ρ:Rh}{w:List Nat}{i:Nat}{pk pv:PF}{n:Int}(a:pV i ρ=some (jn p true x))(b:pk ρ=some (.str w))(c:pv ρ=some (.int n))(d:w∈p.C)(e:p.C.length<=1000):
  vG i (qW 0 "sizes" ve) pk (λm n=>m-n) pv ρ=some (.nx<|ρ.set i<|some<|jn p true {x with sz:=put x.sz w (x.sz w-n)}):=K7 (g:=λm n=>m-n) a g2 b c d e
def jms{p:PoolS}{x:Fl}{ρ:Rh}{w:List Nat}{i:Nat}{pk pv:PF}{n:Int}(a:pV i ρ=some (jn p true x))(b:pk ρ=some (.str w))(c:pv ρ=some (.int n))(d:w∈p.P)(e:p.P.length<=1000):
  vG i (qW 0 "levels" ve) pk (λm n=>m+n) pv ρ=some (.nx<|ρ.set i<|some<|jn p true {x with lv:=put x.lv w (x.lv w+n)}):=K7 (g:=λm n=>m+n) a g4 b c d e
def jlA{p:PoolS}{x:Fl}{ρ:Rh}{w:List Nat}{i:Nat}{pk pv:PF}{n:Int}(a:pV i ρ=some (jn p true x))(b:pk ρ=some (.str w))(c:pv ρ=some (.int n))(d:w∈p.P)(e:p.P.length<=1000):
  vG i (qW 0 "levels" ve) pk (λm n=>m-n) pv ρ=some (.nx<|ρ.set i<|some<|jn p true {x with lv:=put x.lv w (x.lv w-n)}):=K7 (g:=λm n=>m-n) a g4 b c d e
def jku(a:pV i ρ=some (jn p true x))(b:pk ρ=some (.str w))(c:x.sv.length<=1000):
  vf i (qW 0 "served" ve) pk (pC<|.bl true) ρ=some (.nx<|ρ.set i<|some<|jn p true {x with sv:=x.sv++[w]}):=by
 rw[jkD a b<|by have:=jb9 x.sv [];unfold nub;simp at this;lia,<- jeb];rfl
def jm3:zp 0 "pool_name" (jn p o x)=some (.str p.nm):=rfl
def jha:zp 0 "owed" (jn p o x)=some (dct o p.C x.ow):=rfl
def jlP:zp 0 "levels" (jn p o x)=some (dct o p.P x.lv):=rfl
def Qo:zp 0 "cash" (jn p o x)=some (.int x.cash):=rfl
def jmF:zp 0 "served" (jn p o x)=some (dSv o<|nub x.sv):=rfl
noncomputable def got(L s:Int):Int:=if s<L then s else L
noncomputable def sz'(N:W4)(f:List Nat->Int):List W2:=N.map λn=>(n,f n)
noncomputable abbrev yS:List Nat:=[103,117,97,114,100]
noncomputable abbrev J4:List Nat:=[112,97,114,116]
noncomputable abbrev Jm:List Nat:=[116,119,105,99,101]
def jbd(l:List W2):jN (l.map e2)=true:=vz λd hd=>by obtain⟨p,_,rfl⟩:=M5.mp hd;rfl
def xp(o:Bool)(b:BkS):fz (j8 o b)=j8 false b:=by simp[j8,yY]
def Qb(b:BkS):frz (j8 false b)=true:=by simp[j8,jv]
def J9(b:BkS):yn (j8 true b)=true:=by simp[j8,jbd]
def V0(k:Nat)(q:W2)(a:Int)(x:Fl):Fl:={x with cash:=x.cash-got a x.cash,en:=x.en++[⟨k,J4,q.1,a,got a x.cash⟩]}
def jV:Nat->List W2->List Int->Fl->Fl
 | _,[],_,x=>x
 | _,_::_,[],x=>x
 | k,q::Q,a::A,x=>jV (k+1) Q A<|V0 k q a x
def twiceF(Q:List W2)(c:Int)(x:Fl):Fl:=if 0<(ji Q c).2 then{x with en:=x.en++[⟨-1,Jm,[],(ji Q c).1.sum,c⟩]} else x
noncomputable def srv(b:Bool)(g nd:Int)(w:List Nat)(y:Fl):Fl:=if b=true/\g=nd/\0<nd then{y with sv:=y.sv++[w]} else y
abbrev eT:=e3
def shE(pl:Int)(t:W3):En:=⟨pl,jI,t.1,t.2.1,t.2.2⟩
def sh1(pl:Int)(t:W3)(x:Fl):Fl:={x with cash:=x.cash-t.2.2,ow:=put x.ow t.1<|x.ow t.1-t.2.2,en:=x.en++[shE pl t]}
def shL(pl:Int):List W3->Fl->Fl
 | [],x=>x
 | t::T,x=>shL pl T<|sh1 pl t x
def shP(pl:Int)(b:Bool):List W3->Fl->Fl
 | [],x=>x
 | t::T,x=>shP pl b T (if b=true then{sh1 pl t x with sv:=x.sv++[t.1]} else sh1 pl t x)
def shT(ws:W4)(x:Fl):List W3:=ws.zip<|(ws.map x.ow).zip (jy (ws.map x.ow) x.cash)
def shB(ws:W4)(x:Fl):Bool:=decide (0<(ws.map x.ow).sum)&&decide (jy (ws.map x.ow) x.cash=ws.map x.ow)
def YB(pl:Int)(ws:W4)(x:Fl):Fl:={shL pl (shT ws x) x with sv:=if shB ws x=true then x.sv++ws else x.sv}
theorem jfN(pl:Int):∀(T:List W3) (x:Fl) (s:W4),shL pl T {x with sv:=s}={shL pl T x with sv:=s}
 | [],x,s=>rfl
 | t::T,x,s=>by rw[shL,shL,<- jfN pl T];rfl
theorem jfM(pl:Int)(b:Bool):∀(T:List W3) (x:Fl),shP pl b T x={shL pl T x with sv:=if b=true then x.sv++T.map (·.1) else x.sv}
 | [],x=>by rw[shP];cases b<;>simp[shL]
 | t::T,x=>by
  rw[shP,jfM pl b T,shL];cases b with
  | false=>
   simp only[Bool.false_eq_true,if_false];rfl
  | true=>
   simp only[if_true];rw[jfN];simp
theorem jbV(pl:Int):∀(T:List W3) (x:Fl),(shL pl T x).en.length=x.en.length+T.length/\(shL pl T x).mv=x.mv/\(shL pl T x).ln=x.ln
 | [],x=>⟨rfl,rfl,rfl⟩
 | t::T,x=>by
  have:=jbV pl T<|sh1 pl t x;have e:(sh1 pl t x).en.length=x.en.length+1:=by simp[sh1]
  rw[shL,M0];exact⟨by lia,this.2⟩
def xI(a:W4)(x:Fl):(shT a x).length=a.length:=by
 unfold shT;rw[List.length_zip,List.length_zip,JB];simp
def kdR:Ru->List Nat
 | .one k _=>k
 | .lend _ _=>yI
 | .many _=>jI
noncomputable def nmR:Ru->List Nat
 | .one _ w=>w
 | .lend w _=>w
 | .many _=>[]
def lnW(x:Fl)(k:EN):Int:=(vd x.ln k).getD 0
noncomputable def jaT(n:Int):Int:=if n<0 then 0 else n
def ndF(p:PoolS)(r:Ru)(x:Fl):Int:=match r with
 | .lend w j=>jaT<|j-lnW x (p.nm,w)
 | .one k w=>if k=ql then x.ow w else if k=yw then x.ow w+x.sz w else if k=kt then jaT (fnOf p.marks w-x.lv w) else if k=yU then lnW x (w,p.nm) else x.cash
 | .many _=>0
def kq(p:PoolS)(k w:List Nat)(g:Int)(x:Fl):Fl:=if k=ql then{x with ow:=put x.ow w (x.ow w-g)} else if k=yw then{x with ow:=put x.ow w<|x.ow w-got g (x.ow w),sz:=put x.sz w (x.sz w-(g-got g (x.ow w)))} else if k=kt then{x with lv:=put x.lv w (x.lv w+g)} else if(k=yI\/k=yU)/\0<g then{x with ln:=mvF p.nm x.ln (k,w,g),mv:=x.mv++[(k,w,g)]} else x
def isP(k:List Nat):Bool:=decide<|k=ql\/k=yw
def enR(p:PoolS)(pl:Int)(r:Ru)(x:Fl):En:=⟨pl,kdR r,nmR r,ndF p r x,got (ndF p r x) x.cash⟩
def xa(p:PoolS)(pl:Int)(r:Ru)(x:Fl):Fl:=kq p (kdR r) (nmR r) (got (ndF p r x) x.cash) {x with cash:=x.cash-got (ndF p r x) x.cash,en:=x.en++[enR p pl r x]}
def YL(p:PoolS)(pl:Int)(r:Ru)(x:Fl):Fl:=srv (isP<|kdR r) (got (ndF p r x) x.cash) (ndF p r x) (nmR r)<|xa p pl r x
def vW(p:PoolS)(pl:Int)(r:Ru)(x:Fl):Fl:=match r with
 | .one k w=>YL p pl (.one k w) x
 | .lend w j=>YL p pl (.lend w j) x
 | .many ws=>YB pl ws x
def jS(p:PoolS):Int->List Ru->Fl->Fl
 | _,[],x=>x
 | k,r::R,x=>jS p (k+1) R<|vW p k r x
def jfX(b:Bool)(g nd:Int)(w:List Nat)(y:Fl):(srv b g nd w y).en=y.en/\(srv b g nd w y).mv=y.mv/\(srv b g nd w y).lv=y.lv/\(srv b g nd w y).sv.length<=y.sv.length+1:=by
 unfold srv;split
 ·exact⟨rfl,rfl,rfl,by simp⟩
 ·exact⟨rfl,rfl,rfl,by lia⟩
structure FlL(n:Nat)(x:Fl):Prop where
 en:x.en.length+10*n<=800
 sv:x.sv.length+10*n<=900
 mv:x.mv.length+n<=100
 ln:x.ln.length+n<=100
def jgB(nm:List Nat)(l:LN)(m:MV):(mvF nm l m).length<=l.length+1:=by unfold mvF;split<;>exact uC _ _ _
def qA(p:PoolS)(k w:List Nat)(g:Int)(x:Fl):(kq p k w g x).en=x.en/\(kq p k w g x).sv=x.sv/\(kq p k w g x).cash=x.cash/\(kq p k w g x).mv.length<=x.mv.length+1/\(kq p k w g x).ln.length<=x.ln.length+1:=by
 unfold kq;split
 ·exact⟨rfl,rfl,rfl,by simp,by simp⟩
 split
 ·exact⟨rfl,rfl,rfl,by simp,by simp⟩
 split
 ·exact⟨rfl,rfl,rfl,by simp,by simp⟩
 split
 ·exact⟨rfl,rfl,rfl,by simp,jgB _ _ _⟩
 ·exact⟨rfl,rfl,rfl,by simp,by simp⟩
def jdL(p:PoolS)(pl:Int)(r:Ru)  (k:FlL (n+1) x):FlL n (YL p pl r x):=by
 have a:=qA p (kdR r) (nmR r) (got (ndF p r x) x.cash) {x with cash:=x.cash-got (ndF p r x) x.cash,en:=x.en++[enR p pl r x]};have l:(YL p pl r x).ln=(xa p pl r x).ln:=by unfold YL srv;split<;>rfl
 have b:=jfX (isP<|kdR r) (got (ndF p r x) x.cash) (ndF p r x) (nmR r)<|xa p pl r x;have e:(xa p pl r x).en.length=x.en.length+1:=by unfold xa;rw[a.1];simp
 have g:=k.en;have h:=k.sv;have i:=k.mv;have j:=k.ln;have c:=congrArg List.length a.2.1;have d:=a.2.2.2.1;have f:=a.2.2.2.2;dsimp only at c d f;refine⟨?_,?_,?_,?_⟩
 ·unfold YL;rw[b.1];lia
 ·have:=b.2.2.2;unfold xa at this;unfold YL xa;lia
 ·unfold YL;rw[b.2.1];unfold xa;lia
 ·rw[l];unfold xa;lia
def JY(p:PoolS)(pl:Int)  (d:RuOk C P O r)  (k:FlL (n+1) x):FlL n (vW p pl r x):=by
 cases d with
 | share e f g=>
  rename_i c;have a:=jbV pl (shT c x) x;have b:=xI c x;have h:=k.en;have i:=k.sv;refine⟨?_,?_,?_,?_⟩
  ·show(shL pl (shT c x) x).en.length+_<=_;lia
  ·show(if shB c x=true then x.sv++c else x.sv).length+_<=_;split
   ·simp;lia
   ·lia
  ·show(shL pl (shT c x) x).mv.length+_<=_;rw[a.2.1];have:=k.mv;lia
  ·show(shL pl (shT c x) x).ln.length+_<=_;rw[a.2.2];have:=k.ln;lia
 | _=>exact jdL p pl _ k
theorem J5(p:PoolS):∀(k:Int) (R:List Ru) {x:Fl},(∀ r∈R,RuOk C P O r)->FlL R.length x->FlL 0 (jS p k R x)
 | _,[],x,_,h=>h
 | k,r::R,x,a,h=>J5 p (k+1) R (λq b=>a q<|by simp[b])<|JY p k (a r<|by simp) h
theorem zr:∀{l:LN},vd (jdt l k v) k'=if k=k'/\k∈l.map (·.1) then some v else vd l k'
 | []=>by simp[jdt,vd]
 | r::l=>by
  have b:=zr (k:=k) (k':=k') (v:=v) (l:=l);show vd ((r.1,if r.1=k then v else r.2)::jdt l k v) k'=_;rw[vd,vd,b];by_cases e:r.1=k'
  ·by_cases q:k=k'
   ·subst q;simp[e]
   ·have n:¬ r.1=k:=λz=>q<|z.symm.trans e;have c:¬ k'=k:=λz=>q z.symm;simp[e,q,c]
  ·by_cases q:k=k'
   ·subst q;rw[if_neg e,if_neg e];by_cases a:k∈l.map (·.1)
    ·rw[if_pos ⟨rfl,a⟩,if_pos ⟨rfl,L5 _ a⟩]
    ·rw[if_neg λz=>a z.2,if_neg λz=>(M4.mp z.2).elim (λy=>e y.symm) a]
   ·simp[e,q]
theorem uE:∀{l:LN},k∉l.map (·.1)->vd (l++[(k,v)]) k'=if k=k' then some v else vd l k'
 | [],_=>by simp[vd]
 | r::l,h=>by
  rw[L4,M4,not_or] at h;rw[List.cons_append,vd,vd,uE h.2];by_cases e:r.1=k'
  ·rw[if_pos e,if_pos e,if_neg λz=>h.1<|z.trans e.symm]
  ·rw[if_neg e,if_neg e]
def qD(l:LN)(k k':EN)(v:Int):(vd (YG l k v) k').getD 0=if k=k' then v else(vd l k').getD 0:=by
 unfold YG;by_cases h:k∈l.map (·.1)
 ·rw[if_pos h,zr];by_cases q:k=k'
  ·rw[if_pos ⟨q,h⟩,if_pos q];rfl
  ·rw[if_neg λz=>q z.1,if_neg q]
 ·rw[if_neg h,uE h];split<;>rfl
def vN(k:Nat)(g:WG)(x:Fl):Fl:={x with lv:=put x.lv g.1<|x.lv g.1-got (x.ow g.2) (x.lv g.1),ow:=put x.ow g.2<|x.ow g.2-got (x.ow g.2) (x.lv g.1),en:=x.en++[⟨k,yS,g.2,x.ow g.2,got (x.ow g.2)<|x.lv g.1⟩]}
def yp:Nat->List WG->Fl->Fl
 | _,[],x=>x
 | k,g::G,x=>yp (k+1) G<|vN k g x
def yi(b:BkS)(c:Int)(ln:LN):Fl:=⟨fnOf b.S,fnOf b.W,fnOf b.L,ln,c,[],[],[]⟩
def qg(p:PoolS)(o:OrdS)(b:BkS)(c:Int)(ln:LN):Fl:=yp 0 p.grds<|jS p o.parts.length o.rules<|twiceF o.parts c<|jV 0 o.parts (ji o.parts c).1 (yi b c ln)
def JK(S:List W2)(sv:W4)(R:List W2):List W2:=R.map λq=>(q.1,if 0<fnOf S q.1/\q.1∉sv then q.2+1 else 0)
def j5(p:PoolS)(b:BkS)(x:Fl):BkS:=⟨sz' p.C x.sz,sz' p.C x.ow,JK b.S x.sv b.R,sz' p.P x.lv,b.z⟩
theorem JL:∀(k:Nat) (Q:List W2) (A:List Int) (x:Fl),(jV k Q A x).en.length<=x.en.length+Q.length
 | _,[],_,x=>M8 _
 | _,_::_,[],x=>by rw[jV];lia
 | k,q::Q,a::A,x=>by
  have:=JL (k+1) Q A<|V0 k q a x;have e:(V0 k q a x).en.length=x.en.length+1:=by simp[V0]
  rw[jV,M0];lia
def twiceF_en(Q:List W2)(c:Int)(x:Fl):(twiceF Q c x).en.length<=x.en.length+1:=by
 unfold twiceF;split
 ·simp
 ·lia
section
variable {p:PoolS}{x:Fl}{w:List Nat}
def JQ(a:pV i ρ=some (jn p true x))(b:pa ρ=some ds)(c:frzs ds=true)
  (d:∀ a0 a1 a2 a3 a4 a5 a6 a7 a8 a9:D,JE NS [a0,a1,a2,a3,a4,a5,a6,a7,a8,a9] mn=none):vg m i 0 mn pa ρ=(m<|jn p true x::ds).bind λr=>some (r.1,ρ.set i<|some r.2):=by
 rw[vg,b,L3,a,L3];show(bif true&&(frzs ds&&(JE NS _ mn).isNone) then _ else none)=_;rw[d,c];rfl
def jbn(a:po ρ=some (jn p o x))(b:pa ρ=some ds)
  (c:∀ a0 a1 a2 a3 a4 a5 a6 a7 a8 a9:D,JE NS [a0,a1,a2,a3,a4,a5,a6,a7,a8,a9] mn=none) (e:m (jn p false x::fzs ds)=some r) (f:yn r=true):Yj m 0 mn po pa ρ=some r:=by
 rw[Yj,a,L3];show(bif true&&(JE NS _ mn).isNone then(pa ρ).bind λds=>(m<|fzs<|jn p o x::ds).bind λd=>bif frzs (jn p o x::ds)||yn d then some d else none else none)=_;rw[c,b,L3,fzs,jhK,e,L3,f,Bool.or_true];rfl
theorem KF{ts:D}{a1 a2:Option D}{B:List Int}(c:jc ts (.int 0)=↑(B.map D.int)):∀{Q:List W2}{A:List Int}{s:Nat}{x:Fl}{o4 o5 o6 o7:Option D},A=B.drop s->A.length=Q.length->x.en.length+Q.length<=900 ->
  ∃ o4' o5' o6' o7':Option D,yB (gT 2<|gC (jd [0] 4)<|gC (jd [0] 5) gN) yV (yo s<|Q.map e2) [some<|jn p true x,a1,a2,some ts,o4,o5,o6,o7]=some (.nx [some<|jn p true<|jV s Q A x,a1,a2,some ts,o4',o5',o6',o7'])
 | [],A,s,x,o4,o5,o6,o7,_,_,_=>⟨o4,o5,o6,o7,by rw[jV];rfl⟩
 | r::Q,[],s,x,o4,o5,o6,o7,_,f,_=>by simp at f
 | r::Q,a::A,s,x,o4,o5,o6,o7,b,f,g=>by
  rw[M0] at g;simp only[M0] at f;have d:s<B.length:=by
   by_cases h:s<B.length
   ·exact h
   ·rw[List.drop_eq_nil_of_le ∅] at b;cases b
  rw[List.drop_eq_getElem_cons d] at b;injection b with ha b;have i:jc (.lst true<|B.map D.int) (.int (s:Int))=some (.int a):=by
   rw[jdv ∅ (by rw[L0];lia),N7,List.getElem?_map,X8 d,ha];rfl
  have j:xc [.int a,.int x.cash]=some (.int<|got a x.cash):=rfl;have k:(V0 s r a x).en.length=x.en.length+1:=by simp[V0]
  obtain⟨o4',o5',o6',o7',e⟩:=KF c (a1:=a1) (a2:=a2) (Q:=Q) (A:=A) (s:=s+1) (x:=V0 s r a x) (o4:=some<|.int s) (o5:=some<|e2 r) (o6:=some<|.int a) (o7:=some<|.int<|got a x.cash) b ∅ ∅;refine⟨o4',o5',o6',o7',?_⟩;have l:jc (e2 r) (.int 0)=some (.str r.1):=rfl;have m:=Qo (p:=p) (x:=x) (o:=true);rw[L4,yo,lpF ?_,e,jV];show yV [some<|jn p true x,a1,a2,some ts,some<|.int s,some<|e2 r,o6,o7]=_;apply sq (ρ':=[some<|jn p true x,a1,a2,some ts,some<|.int s,some<|e2 r,some<|.int a,o7]) (by generalize jn p true x=X at *;simp[c,i]);apply sq (ρ':=[some<|jn p true x,a1,a2,some ts,some<|.int s,some<|e2 r,some<|.int a,some<|.int<|got a x.cash]) (by generalize jn p true x=X at *;simp[m,j,-v5]);apply sq (by exact xK (x:=x) rfl rfl);exact zV (x:={x with cash:=x.cash-got a x.cash}) (e:=⟨s,J4,r.1,a,got a x.cash⟩) rfl (by simp[jb,e5,l]) (by show x.en.length<=1000;lia)
def jek{Q:List W2}(d:0<=x.cash)(u:x.cash<=2 ^ 900)(v:∀ q∈Q,PtOk q)(f:Q.length<=10)(w:x.en.length<=100):
  jZ [jn p true x,.lst false<|Q.map e2]=some (.non,jn p true<|twiceF Q x.cash<|jV 0 Q (ji Q x.cash).1 x):=by
 have h:=jer (P:=Q) (c:=x.cash) f v d u;have y:=ul (P:=Q) (c:=x.cash);obtain⟨j,k,l,m,e⟩:=KF (p:=p) (ts:=.tup [.lst true<|(ji Q x.cash).1.map D.int,.int (ji Q x.cash).2]) (a1:=‹Q.map e2›) (a2:=some<|.int x.cash) (B:=(ji Q x.cash).1) rfl (Q:=Q) (A:=(ji Q x.cash).1) (s:=0) (x:=x) (o4:=none) (o5:=none) (o6:=none) (o7:=none) rfl y ∅;have a:=Qo (p:=p) (x:=x) (o:=true);have z:jc (.tup [.lst true<|(ji Q x.cash).1.map D.int,.int (ji Q x.cash).2]) (.int 0)=↑((ji Q x.cash).1.map D.int):=rfl;have n:jc (.tup [.lst true<|(ji Q x.cash).1.map D.int,.int (ji Q x.cash).2]) (.int 1)=some (.int (ji Q x.cash).2):=rfl;have C:=JL 0 Q (ji Q x.cash).1 x;have r:=jv Q;have t:=yY Q;by_cases b:0<(ji Q x.cash).2
 ·have E:=zV (p:=p) (x:=jV 0 Q (ji Q x.cash).1 x) (ρ:=[some<|jn p true<|jV 0 Q (ji Q x.cash).1 x,‹Q.map e2›,some<|.int x.cash,some<|.tup [.lst true<|(ji Q x.cash).1.map D.int,.int (ji Q x.cash).2],j,k,l,m]) (i:=0) (pv:=vh #[p1 xj<|pI 1,pS [116,119,105,99,101],pS [],pCB zk #[p2 jc (pV 3)<|pI 0],pF<|pV 2]) (e:=⟨-1,Jm,[],(ji Q x.cash).1.sum,x.cash⟩) rfl (by simp[jb,e5,z]) ∅;rw[twiceF,if_pos b];generalize jn p true {jV 0 Q (ji Q x.cash).1 x with en:=(jV 0 Q (ji Q x.cash).1 x).en++[⟨-1,Jm,[],(ji Q x.cash).1.sum,x.cash⟩]}=X2,jn p true (jV 0 Q (ji Q x.cash).1 x)=X1,jn p true x=X at *;generalize g:D.tup [.lst true<|(ji Q x.cash).1.map D.int,.int (ji Q x.cash).2]=TT at *;simp[jZ,vp,vi,a,h,r,t,e,n,b,E,JF,-vx]
 ·rw[twiceF,if_neg b];generalize jn p true (jV 0 Q (ji Q x.cash).1 x)=X1,jn p true x=X at *;generalize g:D.tup [.lst true<|(ji Q x.cash).1.map D.int,.int (ji Q x.cash).2]=TT at *;simp[jZ,vp,vi,a,h,r,t,e,n,b,JF,-vx]
def jec(c:Int):got c c=c:=by unfold got;split<;>rfl
def jff(b:w∈p.C)(d:p.C.length<=1000):jt [jn p true x,.str ql,.str w,.int c]=some (.non,jn p true {x with ow:=put x.ow w (x.ow w-c)}):=by
 have a:=jdO (p:=p) (x:=x) (ρ:=[some<|jn p true x,some<|.str ql,some<|.str w,some<|.int c,none]) (i:=0) (pk:=pV 2) (pv:=pV 3) rfl rfl rfl b d;generalize jn p true {x with ow:=put x.ow w (x.ow w-c)}=Y,jn p true x=X at *;simp[jt,vp,yF,a,JF]
def jae(d:w∈p.C)(e:p.C.length<=1000):jt [jn p true x,.str yw,.str w,.int c]=some (.non,jn p true {x with ow:=put x.ow w<|x.ow w-got c (x.ow w),sz:=put x.sz w (x.sz w-(c-got c (x.ow w)))}):=by
 have g:xc [.int c,.int<|x.ow w]=some (.int<|got c<|x.ow w):=rfl;have h:=jha (p:=p) (x:=x) (o:=true);have j:=ye (o:=true) (f:=x.ow) d;have a:=jdO (p:=p) (x:=x) (ρ:=[some<|jn p true x,some<|.str yw,some<|.str w,some<|.int c,some<|.int<|got c<|x.ow w]) (i:=0) (pk:=pV 2) (pv:=pV 4) rfl rfl rfl d e;have b:=jlQ (p:=p) (x:={x with ow:=put x.ow w (x.ow w-got c (x.ow w))}) (ρ:=[some<|jn p true {x with ow:=put x.ow w (x.ow w-got c (x.ow w))},some<|.str yw,some<|.str w,some<|.int c,some<|.int<|got c<|x.ow w]) (i:=0) (pk:=pV 2) (pv:=p2 vk (pV 3)<|pV 4) (n:=c-got c (x.ow w)) rfl rfl (by simp) d e;dsimp only at b;generalize jn p true {x with ow:=put x.ow w<|x.ow w-got c (x.ow w),sz:=put x.sz w (x.sz w-(c-got c (x.ow w)))}=Y2,jn p true {x with ow:=put x.ow w (x.ow w-got c (x.ow w))}=Y,jn p true x=X,dct true p.C x.ow=DD at *;simp[jt,vp,yF,a,b,h,j,g,JF,-v5]
def jbz(b:w∈p.P)(d:p.P.length<=1000):jt [jn p true x,.str kt,.str w,.int c]=some (.non,jn p true {x with lv:=put x.lv w (x.lv w+c)}):=by
 have a:=jms (p:=p) (x:=x) (ρ:=[some<|jn p true x,some<|.str kt,some<|.str w,some<|.int c,none]) (i:=0) (pk:=pV 2) (pv:=pV 3) rfl rfl rfl b d;generalize jn p true {x with lv:=put x.lv w (x.lv w+c)}=Y,jn p true x=X at *;simp[jt,vp,yF,a,JF]
def jgo(h:kw=yI\/kw=yU):Jf false (.str kw) (.tup [.str [108,101,110,100],.str [98,97,99,107]])=some (.bl true):=by
 rcases h with rfl | rfl<;>rfl
def jid(k:MvOk p.nm N c x.ln m)(j:x.ln.length<=100)(l:x.mv.length<=1000):jt [jn p true x,.str m.1,.str m.2.1,.int m.2.2]=some (.non,jn p true {x with ln:=mvF p.nm x.ln m,mv:=x.mv++[m]}):=by
 have n:=jm3 (p:=p) (x:=x) (o:=true);have f:=jg9 j k;have d:m.1=yI\/m.1=yU:=k.kd.imp id (·.1);have po:=k.po;have a:∀ r:Rh,VD vq 0 (qW 0 "loans" ve) #[pF<|Jp 0 "pool_name"<|pV 0,pF<|pV 1,pF<|pV 2,pF<|pV 3] (some (jn p true x)::some (.str m.1)::some (.str m.2.1)::some (.int m.2.2)::r)=some (.non,some (jn p true {x with ln:=mvF p.nm x.ln m})::some (.str m.1)::some (.str m.2.1)::some (.int m.2.2)::r):=by
  intro r;have q:qW 0 "loans" ve (jn p true x)=some (dLn true x.ln,λz=>I10 true (.str p.nm) (dct true p.P<|fnOf p.marks) (dct true p.C x.sz) (dct true p.C x.ow) (dct true p.P x.lv) z (.int x.cash) (dSv true<|nub x.sv) (.lst true<|x.en.map e5)<|.lst true<|x.mv.map eM):=rfl;have g:jn p true {x with ln:=mvF p.nm x.ln m}=I10 true (.str p.nm) (dct true p.P<|fnOf p.marks) (dct true p.C x.sz) (dct true p.C x.ow) (dct true p.P x.lv) (dLn true<|mvF p.nm x.ln m) (.int x.cash) (dSv true<|nub x.sv) (.lst true<|x.en.map e5) (.lst true<|x.mv.map eM):=rfl;rw[g];generalize jn p true x=X,dLn true x.ln=A,dLn true (mvF p.nm x.ln m)=B at *;unfold VD;simp[n,q,f]
 have b:=jmO (p:=p) (x:={x with ln:=mvF p.nm x.ln m}) (ρ:=[some<|jn p true {x with ln:=mvF p.nm x.ln m},some<|.str m.1,some<|.str m.2.1,some<|.int m.2.2,none]) (i:=0) (pv:=vh #[pF<|pV 1,pF<|pV 2,pF<|pV 3]) (m:=m) rfl (by simp[jb,eM]) l;dsimp only at b;have h:=jgo d;have s:(m.1==ql)=false:=by rcases d with e | e<;>rw[e]<;>rfl
 have t:(m.1==yw)=false:=by rcases d with e | e<;>rw[e]<;>rfl
 have u:(m.1==kt)=false:=by rcases d with e | e<;>rw[e]<;>rfl
 generalize jn p true {x with ln:=mvF p.nm x.ln m,mv:=x.mv++[m]}=Y2,jn p true {x with ln:=mvF p.nm x.ln m}=Y,jn p true x=X,m.1=kw at *;simp[jt,vp,yF,a,b,h,po,s,t,u,JF,jb,-vx]
def Q2(h:kw=Jj\/((kw=yI\/kw=yU)/\¬ 0<c)):jt [jn p true x,.str kw,.str w,.int c]=some (.non,jn p true x):=by
 generalize jn p true x=X;rcases h with rfl | ⟨rfl | rfl,h⟩
 ·have a:Jf false (.str Jj) (.tup [.str [108,101,110,100],.str [98,97,99,107]])=some (.bl false):=rfl;simp[jt,vp,yF,a,JF,jb]
 ·have a:=jgo (kw:=yI)<|.inl rfl;simp[jt,vp,yF,a,h,JF,jb]
 ·have a:=jgo (kw:=yU)<|.inr rfl;simp[jt,vp,yF,a,h,JF,jb]
def jdW(k:jc d (.int 0)=some (.str kw))(l:jc d (.int 1)=some (.str w))(fd:fz d=d)
  (j:jg [jn p false x,d]=some (.int nd))
  (give:jt [jn p true {x with cash:=x.cash-got nd x.cash,en:=x.en++[⟨pl,kw,w,nd,got nd x.cash⟩]},.str kw,.str w,.int<|got nd x.cash]=some (.non,jn p true y))
  (h:Jf false (.str kw) (.tup [.str [112,97,121],.str [114,101,112,97,121]])=some (.bl b)) (t:x.en.length<=1000) (u:y.sv.length<=1000):
  jz [jn p true x,.int pl,d]=some (.non,jn p true<|if b=true/\got nd x.cash=nd/\0<nd then{y with sv:=y.sv++[w]} else y):=by
 have m:xc [.int nd,.int x.cash]=some (.int<|got nd x.cash):=rfl;generalize B:got nd x.cash=g at *;have q:=Qo (p:=p) (x:=x) (o:=true);have a:∀ r:Rh,Yj jg 0 "need_of" (pV 0) #[pV 2] (some (jn p true x)::some (.int pl)::some d::r)=some (.int nd):=λr=>jbn (x:=x) rfl (ds:=[d]) (by simp) (λ_ _ _ _ _ _ _ _ _ _=>rfl) (by rw[show fzs [d]=[d] by rw[fzs,fd];rfl];exact j) rfl;have c:=xK (p:=p) (x:=x) (ρ:=[some<|jn p true x,some<|.int pl,some d,some<|.str kw,some<|.str w,some<|.int nd,some<|.int g]) (i:=0) (pv:=pV 6) (n:=g) rfl rfl;have e:=zV (p:=p) (x:={x with cash:=x.cash-g}) (ρ:=[some<|jn p true {x with cash:=x.cash-g},some<|.int pl,some d,some<|.str kw,some<|.str w,some<|.int nd,some<|.int g]) (i:=0) (pv:=vh #[pF<|pV 1,pF<|pV 3,pF<|pV 4,pF<|pV 5,pF<|pV 6]) (e:=⟨pl,kw,w,nd,g⟩) rfl (by simp[jb,e5]) t;dsimp only at e;have f:vg jt 0 0 "give" #[pF<|pV 3,pF<|pV 4,pF<|pV 6] [some<|jn p true {x with cash:=x.cash-g,en:=x.en++[⟨pl,kw,w,nd,g⟩]},some<|.int pl,some d,some<|.str kw,some<|.str w,some<|.int nd,some<|.int g]=some (.non,[some<|jn p true y,some<|.int pl,some d,some<|.str kw,some<|.str w,some<|.int nd,some<|.int g]):=by
  rw[JQ (x:={x with cash:=x.cash-g,en:=x.en++[⟨pl,kw,w,nd,g⟩]}) rfl (ds:=[.str kw,.str w,.int g]) (by simp) rfl<|λ_ _ _ _ _ _ _ _ _ _=>rfl,give];rfl
 have s:=jku (p:=p) (x:=y) (ρ:=[some<|jn p true y,some<|.int pl,some d,some<|.str kw,some<|.str w,some<|.int nd,some<|.int g]) (i:=0) (pk:=pV 4) (w:=w) rfl rfl u;have A:jn p true (if b=true/\g=nd/\0<nd then{y with sv:=y.sv++[w]} else y)=if b=true/\g=nd/\0<nd then jn p true {y with sv:=y.sv++[w]} else jn p true y:=by split<;>rfl
 rw[A];generalize jn p true {y with sv:=y.sv++[w]}=Y2,jn p true y=Y,jn p true {x with cash:=x.cash-g,en:=x.en++[⟨pl,kw,w,nd,g⟩]}=X3,jn p true {x with cash:=x.cash-g}=X2,jn p true x=X at *;cases b with
 | false=>simp[jz,vp,yy,k,l,a,q,m,c,e,f,s,h,JF,jb,-v5,-vx,-Yj,-vg]
 | true=>
  by_cases v:g=nd
  ·subst v;by_cases z:0<g
   ·simp[jz,vp,yy,k,l,a,q,m,c,e,f,s,h,z,JF,jb,-v5,-vx,-Yj,-vg]
   ·simp[jz,vp,yy,k,l,a,q,m,c,e,f,s,h,z,JF,jb,-v5,-vx,-Yj,-vg]
  ·simp[jz,vp,yy,k,l,a,q,m,c,e,f,s,h,v,JF,jb,-v5,-vx,-Yj,-vg]
structure FlB(p:PoolS)(x:Fl):Prop where
 c0:0<=x.cash
 c1:x.cash<=10 ^ 20
 ow:∀ w,0<=x.ow w/\x.ow w<=10 ^ 20
 sz:∀ w,0<=x.sz w
 lv:∀ w,0<=x.lv w/\x.lv w<=fnOf p.marks w
 ln:∀ k,0<=lnW x k
def VB(h:0<=L)(h':0<=s):0<=got L s/\got L s<=L/\got L s<=s:=by unfold got;split<;>lia
def jkx(h:d≠c):put f c u d=f d:=if_neg h
def jdl(h:∀ n,0<=f n/\f n<=B)(a:0<=v)(h1:v<=B)(n:List Nat):0<=put f w v n/\put f w v n<=B:=by
 unfold put;split
 ·exact⟨a,h1⟩
 ·exact h n
def x8{S:List W2}(h:∀ q∈S,0<=q.2)(n:List Nat):0<=fnOf S n:=by
 unfold fnOf
 induction S with
 | nil=>exact Int.le_refl _
 | cons q S a=>
  rw[lkp];by_cases e:q.1=n
  ·rw[if_pos e];exact h q (by simp)
  ·rw[if_neg e];exact a λr b=>h r (by simp[b])
def jf4{B:Int}{S:List W2}(a:0<=B)(h:∀ q∈S,q.2<=B)(n:List Nat):fnOf S n<=B:=by
 unfold fnOf
 induction S with
 | nil=>exact a
 | cons q S b=>
  rw[lkp];by_cases e:q.1=n
  ·rw[if_pos e];exact h q (by simp)
  ·rw[if_neg e];exact b λr c=>h r (by simp[c])
def uN(l:List Int):frzs (l.map D.int)=true:=yP λd hd=>by obtain⟨p,_,rfl⟩:=M5.mp hd;rfl
def K3(l:List Int):fzs (l.map D.int)=l.map D.int:=vF λd hd=>by obtain⟨p,_,rfl⟩:=M5.mp hd;rfl
def Kz(l:List Int):jN (l.map D.int)=true:=by
 rw[vm,List.all_map,List.all_eq_true];intro x _;rfl
theorem Jy:∀{a:List α}{b:List β},a.length=b.length->(a.zip b).map (·.2)=b
 | [],[],_=>rfl
 | [],_::_,h=>by simp at h
 | _::_,[],h=>by simp at h
 | a::l,b::m,h=>by simp at h;simp[Jy h]
theorem Qj:∀{a:List α}{b:List β},a.length=b.length->(a.zip b).map (·.1)=a
 | [],[],_=>rfl
 | [],_::_,h=>by simp at h
 | _::_,[],h=>by simp at h
 | a::l,b::m,h=>by simp at h;simp[Qj h]
theorem jcP:∀(ws:W4) (ns gs:List Int),JN (ws.map D.str) (ns.map D.int) (gs.map D.int)=(ws.zip<|ns.zip gs).map eT
 | [],_,_=>rfl
 | _::_,[],_=>rfl
 | _::_,_::_,[]=>rfl
 | w::ws,n::ns,g::gs=>by
  rw[L4,L4,L4,JN,jcP ws ns gs];rfl
structure ShOk(x:Fl)(T:List W3):Prop where
 nd:(T.map (·.1)).Nodup
 eq:∀ t∈T,t.2.1=x.ow t.1/\0<=t.2.2/\t.2.2<=t.2.1
 sum:(T.map (·.2.2)).sum<=x.cash
theorem ja9:∀(T:List W3),(∀ t∈T,0<=t.2.2)->0<=(T.map (·.2.2)).sum
 | [],_=>by simp
 | a::T,q=>by
  have:=ja9 T λt b=>q t (by simp[b]);have:=q a (by simp);rw[L4,List.sum_cons];lia
def ShOk.next(h:ShOk x<|t::T):ShOk (sh1 pl t x) T:=by
 have nd:=h.nd;rw[L4,List.nodup_cons] at nd;have s:=h.sum;rw[L4,List.sum_cons] at s;refine⟨nd.2,λa c=>?_,by show _<=x.cash-t.2.2;lia⟩;have:=h.eq a (by simp[c]);have b:a.1≠t.1:=λz=>nd.1<|z▸M5.mpr ⟨a,c,rfl⟩;show a.2.1=put x.ow t.1 (x.ow t.1-t.2.2) a.1/\_;rw[jkx b];exact this
theorem jfv:∀{T:List W3}{x:Fl},FlB p x->ShOk x T->FlB p (shL pl T x)
 | [],x,k,_=>k
 | t::T,x,k,h=>by
  rw[shL];have e:=h.eq t (by simp);have s:=h.sum;have n:=ja9 T λa b=>(h.eq a<|by simp[b]).2.1;rw[L4,List.sum_cons] at s;have c0:=k.c0;have c1:=k.c1;have o:=k.ow t.1;exact jfv ⟨by show 0<=x.cash-t.2.2;lia,by show x.cash-t.2.2<=_;lia,jdl k.ow ∅ ∅,k.sz,k.lv,k.ln⟩ h.next
structure ShIn(ws:W4)(x:Fl):Prop where
 ns:∀ v∈ws.map x.ow,0<=v/\v<=10 ^ 20
 sum:(ws.map x.ow).sum<=10 ^ 30
 gl:(jy (ws.map x.ow) x.cash).length=ws.length
 t1:(shT ws x).map (·.1)=ws
 ok:ShOk x (shT ws x)
def jlE(k:FlB p x)(y:ws.length<=10)(nd:ws.Nodup):ShIn ws x:=by
 have c0:=k.c0;have d:∀ v∈ws.map x.ow,0<=v/\v<=10 ^ 20:=λv h=>by
  obtain⟨w,_,rfl⟩:=M5.mp h;exact k.ow w
 have e:∀ v∈ws.map x.ow,0<=v:=λv h=>(d v h).1;have a:(ws.map x.ow).length=ws.length:=L0 ..;have f:(ws.map x.ow).sum<=10 ^ 30:=by
  have:=jbM _ d;have c:(10:Int) ^ 20*(ws.map x.ow).length<=10 ^ 20*20:=Int.mul_le_mul_of_nonneg_left ∅ (by decide)
  lia
 have b:(jy (ws.map x.ow) x.cash).length=ws.length:=by rw[JB,a]
 have g:(shT ws x).map (·.1)=ws:=Qj (by rw[List.length_zip,a,b];simp);have j:(shT ws x).map (·.2)=(ws.map x.ow).zip (jy (ws.map x.ow) x.cash):=Jy (by rw[List.length_zip,a,b];simp);have l:(shT ws x).map (·.2.2)=jy (ws.map x.ow) x.cash:=by
  have:(shT ws x).map (·.2.2)=((shT ws x).map (·.2)).map (·.2):=by rw[U0];rfl
  rw[this,j];exact Jy (by rw[a,b])
 refine⟨d,f,b,g,by rw[g];exact nd,?_,?_⟩
 ·intro t m;obtain⟨i,hi⟩:=List.mem_iff_getElem?.mp m;unfold shT at hi;rw[List.getElem?_zip_eq_some] at hi;obtain⟨n,c⟩:=hi;rw[List.getElem?_zip_eq_some] at c;obtain⟨c,o⟩:=c;have r:=jbG c0 e o c;rw[List.getElem?_map,n] at c;simp at c;exact⟨c.symm,r⟩
 ·rw[l];rcases KH c0 e with⟨s,u⟩ | q
  ·rw[s];exact u
  ·lia
theorem Ki(h:PoolOk p)  : ∀{T:List W3}{x:Fl}{o6 o7 o8:Option D},x.en.length+T.length<=950->x.sv.length+T.length<=950->(∀ t∈T,t.1∈p.C) ->
  ∃ o6' o7' o8':Option D,yB (gT 3<|gC (jd [0] 6)<|gC (jd [0] 7)<|gC (jd [0] 8) gN) yW (T.map eT) [some<|jn p true x,some<|.int pl,a2,a3,a4,some<|.bl b,o6,o7,o8]=some (.nx [some<|jn p true<|shP pl b T x,some<|.int pl,a2,a3,a4,some<|.bl b,o6',o7',o8'])
 | [],x,o6,o7,o8,_,_,_=>⟨o6,o7,o8,rfl⟩
 | t::T,x,o6,o7,o8,g,a,d=>by
  have c:=d t (by simp);rw[M0] at g a;have j:p.C.length<=1000:=by have:=h.told2;rw[L0];lia
  let f:Fl:={x with cash:=x.cash-t.2.2}
  let k:Fl:={f with ow:=put x.ow t.1 (x.ow t.1-t.2.2)}
  have n:(if b=true then{sh1 pl t x with sv:=x.sv++[t.1]} else sh1 pl t x).en.length=x.en.length+1:=by cases b<;>simp[sh1]
  have o:(if b=true then{sh1 pl t x with sv:=x.sv++[t.1]} else sh1 pl t x).sv.length<=x.sv.length+1:=by cases b<;>simp[sh1]
  obtain⟨o6',o7',o8',e⟩:=Ki h (pl:=pl) (a2:=a2) (a3:=a3) (a4:=a4) (b:=b) (T:=T) (x:=if b=true then{sh1 pl t x with sv:=x.sv++[t.1]} else sh1 pl t x) (o6:=some<|.str t.1) (o7:=some<|.int t.2.1) (o8:=some<|.int t.2.2) ∅ ∅ (λl m=>d l<|by simp[m]);refine⟨o6',o7',o8',?_⟩;rw[L4,lpF ?_,e,shP];show yW [some<|jn p true x,some<|.int pl,a2,a3,a4,some<|.bl b,some<|.str t.1,some<|.int t.2.1,some<|.int t.2.2]=_;apply sq (by exact xK (x:=x) rfl rfl);apply sq (by exact jdO (x:=f) rfl rfl rfl c j);apply sq (by exact zV (x:=k) (e:=shE pl t) rfl (by simp[jb,e5,shE])<|by show x.en.length<=1000;lia);cases b with
  | false=>rfl
  | true=>exact jku (x:=sh1 pl t x) (pk:=pV 6) (ρ:=[some<|jn p true<|sh1 pl t x,some<|.int pl,a2,a3,a4,some<|.bl true,some<|.str t.1,some<|.int t.2.1,some<|.int t.2.2]) (i:=0) (w:=t.1) rfl rfl (by show x.sv.length<=1000;lia)
def jeY(h:PoolOk p)(k:FlB p x)  (v:ws.length<=10) (m:∀ w∈ws,w∈p.C) (nd:ws.Nodup) (y:x.en.length<=900) (z:x.sv.length<=900):jQ [jn p true x,.int pl,.tup<|ws.map D.str]=some (.non,jn p true<|YB pl ws x):=by
 have c0:=k.c0;have c1:=k.c1;have q:=jlE k v nd;have n:=jcH (ns:=ws.map x.ow) (c:=x.cash) (by rw[L0];lia) q.ns c0 ∅ q.sum;have L:=xI ws x;obtain⟨A,B,E,e⟩:=Ki h (pl:=pl) (a2:=some<|.tup<|ws.map D.str) (a3:=‹(ws.map x.ow).map D.int›) (a4:=‹(jy (ws.map x.ow) x.cash).map D.int›) (b:=shB ws x) (T:=shT ws x) (x:=x) (o6:=none) (o7:=none) (o8:=none) ∅ ∅ (λt F=>m _<|by rw[<- q.t1];exact M5.mpr ⟨t,F,rfl⟩);have G:shP pl (shB ws x) (shT ws x) x=YB pl ws x:=by rw[jfM,q.t1];rfl
 rw[G] at e;have s:yQ (jd [] 0) qT (pF<|p2 jr (Jp 0 "owed"<|pV 1)<|pV 0) (ws.map D.str) [none,some<|jn p true x]=some ((ws.map x.ow).map D.int):=by
  rw[U0];refine ya (en:=D.str) rfl (λρ=>∃ o,ρ=[o,some<|jn p true x]) ?_ ⟨none,rfl⟩;rintro r H ρ ⟨o,rfl⟩;have I:=jha (p:=p) (x:=x) (o:=true);have J:=ye (o:=true) (f:=x.ow)<|m r H;refine⟨[some<|.str r,some<|jn p true x],rfl,?_,_,rfl⟩;generalize jn p true x=X,dct true p.C x.ow=DD at *;simp[I,J]
 have d:=Qo (p:=p) (x:=x) (o:=true);have g:lim ws.length=true:=jb ∅;have i:=jg3 true true (jy (ws.map x.ow) x.cash)<|ws.map x.ow;have j:jnN [.tup<|ws.map D.str,.lst false<|(ws.map x.ow).map D.int,.lst false<|(jy (ws.map x.ow) x.cash).map D.int]=some ((shT ws x).map eT):=by
  show(bif decide ((ws.map D.str).length<=((ws.map x.ow).map D.int).length)&&decide ((ws.map D.str).length<=((jy (ws.map x.ow) x.cash).map D.int).length) then some (JN (fzs<|ws.map D.str) (fzs<|(ws.map x.ow).map D.int)<|fzs<|(jy (ws.map x.ow) x.cash).map D.int) else none)=_;have gl:=q.gl;have d1:decide ((ws.map D.str).length<=((ws.map x.ow).map D.int).length)=true:=X4 (by simp);have K:decide ((ws.map D.str).length<=((jy (ws.map x.ow) x.cash).map D.int).length)=true:=X4 (by rw[L0,L0];lia);rw[d1,K,yr,K3,K3,jcP];rfl
 have u:shB ws x=(decide (0<(ws.map x.ow).sum)&&decide (jy (ws.map x.ow) x.cash=ws.map x.ow)):=rfl;generalize shB ws x=b at *;generalize(shT ws x).map eT=TT at *;generalize jy (ws.map x.ow) x.cash=gs at *;clear q;generalize ws.map x.ow=ns,jn p true (YB pl ws x)=X',jn p true x=X at *;by_cases l:0<ns.sum
 ·have a:b=decide (gs=ns):=by rw[u,X4 l,Bool.true_and]
  rw[a] at e;simp[jQ,vp,vj,jO,s,d,g,n,i,uN,K3,Kz,l,j,e,JF,jF,yr]
 ·have a:b=false:=by rw[u,X5 l,Bool.false_and]
  rw[a] at e;simp[jQ,vp,vj,jO,s,d,g,n,i,uN,K3,Kz,l,j,e,JF,jF,yr]
def jdY(h:RuOk p.C p.P p.oth r)(b:∀ ws,r≠.many ws):jg [jn p false x,eRu r]=some (.int<|ndF p r x):=by
 cases h with
 | rest a=>exact jct
 | pay a=>exact jdC<|ye a
 | repay a=>exact u8 (ye a)<|ye a
 | fill a=>exact jbt (ye a)<|ye a
 | back a=>exact jcX
 | lend a=>exact jcy
 | share _ _ _=>exact absurd rfl<|b _
def jd7(h:PoolOk p)  (i:RuOk p.C p.P p.oth r) (j:∀ ws,r≠.many ws)  (k:kdR r=yU->g<=lnW x (nmR r,p.nm)) (h1:x.ln.length<=100) (h2:x.mv.length<=1000):jt [jn p true x,.str<|kdR r,.str<|nmR r,.int g]=some (.non,jn p true<|kq p (kdR r) (nmR r) g x):=by
 have d:p.C.length<=1000:=by have:=h.told2;rw[L0];lia
 have l:p.P.length<=1000:=by have:=h.marks2;rw[L0];lia
 have mv:∀{kd w:List Nat},(kd=yI\/(kd=yU/\g<=lnW x (w,p.nm)))->jt [jn p true x,.str kd,.str w,.int g]=some (.non,jn p true<|kq p kd w g x):=λ{kd w} f=>by
  have b:kd=yI\/kd=yU:=f.imp id (·.1);have e:kq p kd w g x=if 0<g then{x with ln:=mvF p.nm x.ln (kd,w,g),mv:=x.mv++[(kd,w,g)]} else x:=by
   rcases b with rfl | rfl<;>simp[kq]
  rw[e];by_cases q:0<g
  ·rw[if_pos q];exact jid (p:=p) (N:=[w]) (c:=g) (x:=x) (m:=(kd,w,g)) ⟨f,by simp,q,Int.le_refl _⟩ h1 h2
  ·rw[if_neg q];exact Q2<|.inr ⟨b,q⟩
 cases i with
 | rest a=>exact Q2<|.inl rfl
 | pay a=>exact jff a d
 | repay a=>exact jae a d
 | fill a=>exact jbz a l
 | back a=>exact mv<|.inr ⟨rfl,k rfl⟩
 | lend a=>exact mv<|.inl rfl
 | share _ _ _=>exact absurd rfl<|j _
def jcE(n:Int):0<=jaT n:=by unfold jaT;split<;>lia
def jc4(k:FlB p x):0<=ndF p r x:=by
 cases r with
 | lend w j=>exact jcE _
 | many c=>exact Int.le_refl _
 | one kd w=>
  unfold ndF;dsimp only;have a:=(k.ow w).1;have b:=k.sz w;split
  ·exact a
  split
  ·lia
  split
  ·exact jcE _
  split
  ·exact k.ln _
  ·exact k.c0
def jjT(h:∀ k,0<=(vd l k).getD 0)(c:m.1=yI\/(m.1=yU/\m.2.2<=(vd l (m.2.1,nm)).getD 0))(d:0<m.2.2)(k:EN):0<=(vd (mvF nm l m) k).getD 0:=by
 unfold mvF;have a:=h (nm,m.2.1);split
 ·rw[qD];split
  ·lia
  ·exact h k
 ·rename_i q;have b:=(c.resolve_left q).2;rw[qD];split
  ·lia
  ·exact h k
def jgP(k:FlB p x):FlB p (YL p pl r x):=by
 have h:=jc4 (r:=r) k;have g:=VB h k.c0;have c0:=k.c0;have c1:=k.c1;have s:∀{y:Fl},FlB p y->FlB p (srv (isP<|kdR r) (got (ndF p r x) x.cash) (ndF p r x) (nmR r) y):=λ{y} q=>by
  unfold srv;split<;>exact⟨q.c0,q.c1,q.ow,q.sz,q.lv,q.ln⟩
 refine s ?_;have c:FlB p {x with cash:=x.cash-got (ndF p r x) x.cash,en:=x.en++[enR p pl r x]}:=⟨by show 0<=x.cash-_;lia,by show x.cash-_<=_;lia,k.ow,k.sz,k.lv,k.ln⟩;have i:∀{kd:List Nat},kdR r=kd->r=.one kd (nmR r)\/kd=yI\/kd=jI:=λ{kd} e=>by cases r<;>first | exact .inl (e▸rfl) | exact .inr (.inl e.symm) | exact .inr<|.inr e.symm
 have d:∀{kd:List Nat},kdR r=kd->kd≠yI->kd≠jI->ndF p r x=ndF p (.one kd<|nmR r) x:=λe a b=>congrArg (ndF p · x)<|(i e).resolve_right λz=>z.elim a b;have o:=k.ow<|nmR r;have z:=k.sz<|nmR r;have v:=k.lv<|nmR r;unfold xa kq;split
 ·rename_i e;have e2:ndF p r x=x.ow (nmR r):=d e (by decide) (by decide);rw[e2] at g;exact⟨c.c0,c.c1,jdl k.ow (by rw[e2];dsimp only;lia)<|by rw[e2];dsimp only;lia,k.sz,k.lv,k.ln⟩
 split
 ·rename_i e;have e2:ndF p r x=x.ow (nmR r)+x.sz (nmR r):=d e (by decide) (by decide);have g2:=VB g.1 o.1;have g3:got (ndF p r x) x.cash-got (got (ndF p r x) x.cash) (x.ow<|nmR r)<=x.sz (nmR r):=by
   rw[e2] at g ⊢;generalize got (x.ow (nmR r)+x.sz (nmR r)) x.cash=y at *;unfold got;split<;>lia
  refine⟨c.c0,c.c1,jdl k.ow (by dsimp only;lia)<|by dsimp only;lia,λw=>?_,k.lv,k.ln⟩;show 0<=put x.sz (nmR r) _ w;unfold put;dsimp only;split
  ·lia
  ·exact k.sz w
 split
 ·rename_i e;have e2:ndF p r x=jaT (fnOf p.marks (nmR r)-x.lv (nmR r)):=d e (by decide) (by decide);refine⟨c.c0,c.c1,k.ow,k.sz,λw=>?_,k.ln⟩;show 0<=put x.lv (nmR r) _ w/\put x.lv (nmR r) _ w<=_;have:jaT (fnOf p.marks (nmR r)-x.lv (nmR r))=fnOf p.marks (nmR r)-x.lv (nmR r):=by unfold jaT;split<;>lia
  unfold put;dsimp only;split
  ·rename_i q;rw[q];lia
  ·exact k.lv w
 split
 ·rename_i e;refine⟨c.c0,c.c1,k.ow,k.sz,k.lv,jjT k.ln (e.1.imp id λf=>⟨f,?_⟩) e.2⟩;have e2:ndF p r x=lnW x (nmR r,p.nm):=d f (by decide) (by decide);show got (ndF p r x) x.cash<=lnW x (nmR r,p.nm)
  lia
 ·exact c
def YN(a:RuOk p.C p.P p.oth r)(k:FlB p x):FlB p (vW p pl r x):=by
 cases a with
 | share c e d=>
  rename_i f;have b:=jfv (pl:=pl) k (jlE k d c).ok;exact⟨b.c0,b.c1,b.ow,b.sz,b.lv,b.ln⟩
 | _=>exact jgP k
def jej(h:PoolOk p)(j:FlB p x)  (c:RuOk p.C p.P p.oth r) (f:∀ ws,r≠.many ws)  (a:FlL n x):jz [jn p true x,.int pl,eRu r]=some (.non,jn p true<|YL p pl r x):=by
 have o:=a.en;have q:=a.sv;have t:=a.mv;have u:=a.ln;have g:=VB (jc4 (r:=r) j) j.c0;have k:jc (eRu r) (.int 0)=some (.str<|kdR r):=by cases r<;>rfl
 have l:jc (eRu r) (.int 1)=some (.str<|nmR r):=by cases r<;>first | rfl | exact absurd rfl<|f _
 have i:Jf false (.str<|kdR r) (.tup [.str [112,97,121],.str [114,101,112,97,121]])=some (.bl<|isP<|kdR r):=by cases c<;>rfl
 have m:=jd7 h c f (x:={x with cash:=x.cash-got (ndF p r x) x.cash,en:=x.en++[enR p pl r x]}) (g:=got (ndF p r x) x.cash) (λe=>by
  have:ndF p r x=lnW x (nmR r,p.nm):=by cases r<;>first | (cases e;rfl) | (exact absurd (show yI=yU from e)<|by decide) | (exact absurd (show jI=yU from e)<|by decide)
  show _<=lnW x (nmR r,p.nm)
  lia) (by show x.ln.length<=100;lia) (by show x.mv.length<=1000;lia)
 have s:=qA p (kdR r) (nmR r) (got (ndF p r x) x.cash) {x with cash:=x.cash-got (ndF p r x) x.cash,en:=x.en++[enR p pl r x]};exact jdW (p:=p) (x:=x) (w:=nmR r) (d:=eRu r) (kw:=kdR r) (pl:=pl) (nd:=ndF p r x) (b:=isP<|kdR r) k l (kj _<|Ym r) (jdY c f) m i ∅ (by unfold xa;rw[s.2.1];show x.sv.length<=1000;lia)
theorem Kx(h:PoolOk p)  : ∀{R:List Ru}{s:Int}{x:Fl}{o7 o8:Option D},(∀ r∈R,RuOk p.C p.P p.oth r)->FlB p x->FlL R.length x ->
  ∃ o7' o8':Option D,yB (gT 2<|gC (jd [] 7)<|gC (jd [] 8) gN) qZ (YH s<|R.map eRu) [a0,a1,a2,a3,a4,a5,some<|jn p true x,o7,o8,a9]=some (.nx [a0,a1,a2,a3,a4,a5,some<|jn p true<|jS p s R x,o7',o8',a9])
 | [],s,x,o7,o8,_,_,_=>⟨o7,o8,rfl⟩
 | r::R,s,x,o7,o8,l,f,c=>by
  have b:=l r (by simp);obtain⟨o7',o8',e⟩:=Kx h (a0:=a0) (a1:=a1) (a2:=a2) (a3:=a3) (a4:=a4) (a5:=a5) (a9:=a9) (R:=R) (s:=s+1) (x:=vW p s r x) (o7:=some<|.int s) (o8:=some<|eRu r) (λd hd=>l d<|by simp[hd]) (YN b f)<|JY p s b c;refine⟨o7',o8',?_⟩;have o:=c.en;have q:=c.sv;rw[M0] at o q;have t:qZ [a0,a1,a2,a3,a4,a5,some<|jn p true x,some<|.int s,some<|eRu r,a9]=some (.nx [a0,a1,a2,a3,a4,a5,some<|jn p true<|vW p s r x,some<|.int s,some<|eRu r,a9]):=by
   have one:(∀ a,r≠.many a)->vW p s r x=YL p s r x->qZ [a0,a1,a2,a3,a4,a5,some<|jn p true x,some<|.int s,some<|eRu r,a9]=some (.nx [a0,a1,a2,a3,a4,a5,some<|jn p true<|vW p s r x,some<|.int s,some<|eRu r,a9]):=λn u=>by
    have ex:=jej h f (pl:=s) b n c;have g:jc (eRu r) (.int 0)=some (.str<|kdR r):=by cases r<;>rfl
    have ns:(kdR r==[115,104,97,114,101])=false:=by cases b<;>first | rfl | exact absurd rfl<|n _
    have fr:=Ym r;have m:=JQ (p:=p) (x:=x) (m:=jz) (mn:="take_rule") (pa:=#[pF<|pV 7,pF<|pV 8]) (ρ:=[a0,a1,a2,a3,a4,a5,some<|jn p true x,some<|.int s,some<|eRu r,a9]) (i:=6) (ds:=[.int s,eRu r]) rfl (by simp[fr]) (by simp[fr])<|λ_ _ _ _ _ _ _ _ _ _=>rfl;rw[ex,L3] at m;rw[u];generalize jn p true (YL p s r x)=X1,jn p true x=X,eRu r=RR at *;simp[qZ,g,ns,m,-vg]
   cases r with
   | one k w=>exact one (λ_ z=>by cases z) rfl
   | lend w j=>exact one (λ_ z=>by cases z) rfl
   | many a=>
    cases b with
    | share v y A=>
     have ex:jQ [jn p true x,.int s,.tup<|a.map D.str]=some (.non,jn p true<|vW p s (.many a) x):=jeY h f A y v ∅ ∅;have g:jc (eRu<|.many a) (.int 0)=some (.str jI):=rfl;have B:jc (eRu<|.many a) (.int 1)=some (.tup<|a.map D.str):=rfl;have fr:=jF a;have m:=JQ (p:=p) (x:=x) (m:=jQ) (mn:="take_share") (pa:=#[pF<|pV 7,pF<|p2 jc (pV 8)<|pI 1]) (ρ:=[a0,a1,a2,a3,a4,a5,some<|jn p true x,some<|.int s,some<|eRu<|.many a,a9]) (i:=6) (ds:=[.int s,.tup<|a.map D.str]) rfl (by simp[B,fr]) (by simp[fr])<|λ_ _ _ _ _ _ _ _ _ _=>rfl;rw[ex,L3] at m;generalize jn p true (vW p s (.many a) x)=X1,jn p true x=X,eRu (.many a)=RR at *;simp[qZ,g,m,-vg]
  rw[L4,YH,lpE ?_ t,e,jS];rfl
def jeh(h:PoolOk p){pl:Nat}(h1:g.1∈p.P)(h2:g.2∈p.C)(d:x.en.length<=900):
  yN [jn p true x,.int pl,.str g.1,.str g.2]=some (.non,jn p true<|vN pl g x):=by
 have i:p.C.length<=1000:=by have:=h.told2;rw[L0];lia
 have j:p.P.length<=1000:=by have:=h.marks2;rw[L0];lia
 have k:xc [.int<|x.ow g.2,.int<|x.lv g.1]=some (.int<|got (x.ow g.2)<|x.lv g.1):=rfl;unfold vN;generalize got (x.ow g.2) (x.lv g.1)=y at *;obtain⟨po,a⟩:=g;simp only at *
 let b:Fl:={x with lv:=put x.lv po (x.lv po-y)}
 let c:Fl:={b with ow:=put x.ow a (x.ow a-y)}
 let l:Fl:={c with en:=x.en++[⟨pl,yS,a,x.ow a,y⟩]}
 have m:=jha (p:=p) (x:=x) (o:=true);have n:=ye (o:=true) (f:=x.ow) h2;have q:=jlP (p:=p) (x:=x) (o:=true);have r:=ye (o:=true) (f:=x.lv) h1;show((vn [some<|jn p true x,some<|.int pl,some<|.str po,some<|.str a,none,none]).bind (JF 0))=_;have e:vn [some<|jn p true x,some<|.int pl,some<|.str po,some<|.str a,none,none]=some (.nx [some<|jn p true l,some<|.int pl,some<|.str po,some<|.str a,some<|.int<|x.ow a,some<|.int y]):=by
  apply sq (ρ':=[some<|jn p true x,some<|.int pl,some<|.str po,some<|.str a,some<|.int<|x.ow a,none]) (by generalize jn p true x=X at *;generalize dct true p.C x.ow=D1 at *;simp[m,n]);apply sq (ρ':=[some<|jn p true x,some<|.int pl,some<|.str po,some<|.str a,some<|.int<|x.ow a,some<|.int y]) (by generalize jn p true x=X at *;generalize dct true p.P x.lv=D2 at *;simp[q,r,k,-v5]);apply sq (by exact jlA (x:=x) rfl rfl rfl h1 j);apply sq (by exact jdO (x:=b) rfl rfl rfl h2 i);exact zV (x:=c) (e:=⟨pl,yS,a,x.ow a,y⟩) rfl (by simp[jb,e5]) (by show x.en.length<=1000;lia)
 rw[e];rfl
theorem Y5(h:PoolOk p){a0 a1 a2 a3 a4 a5 a8:Option D}:∀{G:List WG}{s:Nat}{x:Fl}{o7 o9:Option D},(∀ g∈G,g.1∈p.P/\g.2∈p.C)->x.en.length+G.length<=900 ->
  ∃ o7' o9':Option D,yB (gT 2<|gC (jd [] 7)<|gC (jd [] 9) gN) Qs (yo s<|G.map eG) [a0,a1,a2,a3,a4,a5,some<|jn p true x,o7,a8,o9]=some (.nx [a0,a1,a2,a3,a4,a5,some<|jn p true<|yp s G x,o7',a8,o9'])
 | [],s,x,o7,o9,_,_=>⟨o7,o9,rfl⟩
 | g::G,s,x,o7,o9,a,b=>by
  rw[M0] at b;have ex:=jeh h (x:=x) (pl:=s) (a g<|by simp).1 (a g<|by simp).2 ∅;have c:(vN s g x).en.length=x.en.length+1:=by simp[vN]
  obtain⟨o7',o9',e⟩:=Y5 h (a0:=a0) (a1:=a1) (a2:=a2) (a3:=a3) (a4:=a4) (a5:=a5) (a8:=a8) (G:=G) (s:=s+1) (x:=vN s g x) (o7:=some<|.int s) (o9:=some<|eG g) (λg d=>a g<|by simp[d]) ∅;refine⟨o7',o9',?_⟩;have f:jc (eG g) (.int 0)=some (.str g.1):=rfl;have j:jc (eG g) (.int 1)=some (.str g.2):=rfl;have m:=JQ (p:=p) (x:=x) (m:=yN) (mn:="take_guard") (pa:=#[pF<|pV 7,pF<|p2 jc (pV 9)<|pI 0,pF<|p2 jc (pV 9)<|pI 1]) (ρ:=[a0,a1,a2,a3,a4,a5,some<|jn p true x,some<|.int s,a8,some<|eG g]) (i:=6) (ds:=[.int s,.str g.1,.str g.2]) rfl (by simp[f,j]) rfl<|λ_ _ _ _ _ _ _ _ _ _=>rfl;rw[ex,L3] at m;rw[L4,yo,lpF ?_,e,yp];show(some _).bind _=_;generalize jn p true (vN s g x)=X1,jn p true x=X at *;simp[Qs,m,-vg]
theorem Q7:∀{ns:List Str}{l:List D},f∉ns->ns.length=l.length->Ji ns l f v=(ns++[f],l++[v])
 | [],[],_,_=>rfl
 | [],_::_,_,e=>by simp at e
 | _::_,[],_,e=>by simp at e
 | n::ns,x::l,h,e=>by rw[Ji,if_neg λz=>h<|by simp[z],Q7 (λz=>h<|by simp[z]) ⇑e];rfl
def kB{f:Str}{pv:PF}{r:Rh}{ns:List Str}{l:List D}{v:D}(a:pv (some (.ins true 0 ns l)::r)=some v)(h:f∉ns/\ns.length<=900:=by decide)(e:ns.length=l.length:=by rfl):JI 0 0 f pv (some (.ins true 0 ns l)::r)=some (.nx<|some (.ins true 0 (ns++[f])<|l++[v])::r):=by
 rw[JI,a,L3];show(bif (0==0)&&decide (ns.length<=900) then some (Out.nx<|some (D.ins true 0 (Ji ns l f v).1 (Ji ns l f v).2)::r) else none)=_;rw[Q7 h.1 e,X4 h.2];rfl
def jiA(h:PoolOk p){b:BkS}{c:Int}{ln:LN}(k:BkOk p b)(g:(ln.map (·.1)).Nodup)(a:ln.length<=1000):
  vb [.ins true 0 [] [],jX false p,j8 false b,.int c,.lst false<|ln.map eR]=some (.non,jn p true ⟨fnOf b.S,fnOf b.W,fnOf b.L,ln,c,[],[],[]⟩):=by
 have x:=h.marks2;obtain⟨y,z,_,A⟩:=k.len h;have d:=k.S;have e:=k.W;have f:=k.L;have i:yZ [.lst false<|p.marks.map e2]=some (dct true p.P<|fnOf p.marks):=y8 h.marksn ∅;have j:yZ [.lst false<|b.S.map e2]=some (dct true p.C<|fnOf b.S):=by rw[<- d];exact y8 (by rw[d];exact h.toldn) ∅
 have l:yZ [.lst false<|b.W.map e2]=some (dct true p.C<|fnOf b.W):=by rw[<- e];exact y8 (by rw[e];exact h.toldn) ∅
 have m:yZ [.lst false<|b.L.map e2]=some (dct true p.P<|fnOf b.L):=by rw[<- f];exact y8 (by rw[f];exact h.marksn) ∅
 have n:=jiv g a;have o:=z4 ln;have q:jc (j8 false b) (.int 0)=‹b.S.map e2›:=rfl;have r:jc (j8 false b) (.int 1)=‹b.W.map e2›:=rfl;have s:jc (j8 false b) (.int 3)=‹b.L.map e2›:=rfl;have t:jc (jX false p) (.int 0)=some (.str p.nm):=rfl;have u:jc (jX false p) (.int 2)=‹p.marks.map e2›:=rfl;unfold jn;generalize j8 false b=BK,jX false p=PP at *;show _=some (D.non,D.ins true 0 NS [.str p.nm,dct true p.P<|fnOf p.marks,dct true p.C<|fnOf b.S,dct true p.C<|fnOf b.W,dct true p.P<|fnOf b.L,dLn true ln,.int c,.dK true [] [],.lst true [],.lst true []]);generalize dct true p.P (fnOf p.marks)=a1,dct true p.C (fnOf b.S)=a2,dct true p.C (fnOf b.W)=a3,dct true p.P (fnOf b.L)=a4,dLn true ln=a5 at *;have w:vR [some<|.ins true 0 [] [],some PP,some BK,some<|.int c,‹ln.map eR›]=some (.nx [some<|.ins true 0 NS [.str p.nm,a1,a2,a3,a4,a5,.int c,.dK true [] [],.lst true [],.lst true []],some PP,some BK,some<|.int c,‹ln.map eR›]):=by
  unfold vR;apply sq (by exact kB (v:=.str p.nm)<|by simp[t]);apply sq (by exact kB (v:=a1)<|by simp[u,i]);apply sq (by exact kB (v:=a2)<|by simp[q,j]);apply sq (by exact kB (v:=a3)<|by simp[r,l]);apply sq (by exact kB (v:=a4)<|by simp[s,m]);apply sq (by exact kB (v:=a5)<|by simp[n,o,jbW]);apply sq (by exact kB (v:=.int c)<|by simp);apply sq (by exact kB (v:=.dK true [] []) rfl);apply sq (by exact kB (v:=.lst true [])<|by simp[lim]);exact kB (v:=.lst true []) (by simp[lim])
 exact congrArg (Option.bind · (JF 0)) w
end
theorem Kn:∀{os:List OrdS}{o2:Option D},(os.map (·.nm)).Nodup->o∈os ->
  ∃ r,yB (jd [] 2) yJ (os.map yR) [a0,some<|.str o.nm,o2]=some (.rt (yR o) r)
 | [],o2,_,h=>by simp at h
 | q::os,o2,b,h=>by
  have c:jc (yR q) (.int 0)=some (.str q.nm):=rfl;have d:=v7 q;rw[L4,List.nodup_cons] at b;by_cases z:q.nm=o.nm
  ·have e:q=o:=by
    rcases M4.mp h with h | h
    ·exact h.symm
    ·exact absurd (M5.mpr ⟨o,h,z.symm⟩) b.1
   refine⟨[a0,some<|.str o.nm,some<|yR q],?_⟩;have a:(q.nm==o.nm)=true:=by simp[z]
   rw[L4,kD,<- e];rw[<- e] at a;generalize yR q=X at *;simp[yJ,c,a,d]
  ·have a:(q.nm==o.nm)=false:=U1.mpr z;have f:o∈os:=(M4.mp h).resolve_left λy=>z (by rw[y]);obtain⟨r,e⟩:=Kn (a0:=a0) (os:=os) (o2:=some<|yR q) b.2 f;refine⟨r,?_⟩;have g:yJ [a0,some<|.str o.nm,some<|yR q]=some (.nx [a0,some<|.str o.nm,some<|yR q]):=by
    generalize yR q=X at *;simp[yJ,c,a]
   rw[L4,lpE ?_ g,e];rfl
def wU(l:List OrdS):fzs (l.map yR)=l.map yR:=vF λd hd=>by obtain⟨p,_,rfl⟩:=M5.mp hd;exact kj _<|v7 p
def jeT(h:PoolOk p)  (a:o∈p.ords):vI [jX false p,.str o.nm]=some (yR o):=by
 obtain⟨r,e⟩:=Kn (a0:=some<|jX false p) (o:=o) (os:=p.ords) (o2:=none) h.ordn a;have b:jc (jX false p) (.int 4)=‹p.ords.map yR›:=rfl;have c:=Vx p.ords;have d:=wU p.ords;generalize jX false p=PP at *;simp[vI,jD,JX,b,c,d,e]
def jmE(o:Bool)(w:List Nat)(l:W4):x6 true (.str w) (dSv o l)=some (.bl<|!decide (w∈l)):=by
 show some (D.bl<|true != (QA (l.map KA.str) (l.map λ_=>D.bl true)<|.str w).isSome)=_;have:(QA (l.map KA.str) (l.map λ_=>D.bl true)<|.str w).isSome=decide (w∈l):=by
  induction l with
  | nil=>rfl
  | cons a l b=>
   rw[L4,L4,QA];by_cases e:a=w
   ·rw[if_pos<|by rw[e]];simp[e]
   ·rw[if_neg λz=>e (by cases z;rfl),b];simp[Ne.symm e]
 rw[this];cases decide (w∈l)<;>rfl
theorem Vu{NC:W4}{S:List W2}(d:NC.length<=1000){a1:Option D}{sv:W4}(b:zp 0 "served" X=some (dSv false<|nub sv)):∀{R:List W2}{acc:List W2}{o4 o5 o6:Option D},(∀ q∈R,q.1∈NC)->acc.length+R.length<=1000 ->
  ∃ o4' o5' o6':Option D,yB (gT 2<|gC (jd [] 4)<|gC (jd [] 5) gN) jH (R.map e2) [some X,a1,some<|dct true NC<|fnOf S,↑(acc.map e2),o4,o5,o6]=some (.nx [some X,a1,some<|dct true NC<|fnOf S,↑((acc++JK S sv R).map e2),o4',o5',o6'])
 | [],acc,o4,o5,o6,_,_=>⟨o4,o5,o6,by simp[JK]⟩
 | q::R,acc,o4,o5,o6,k,m=>by
  rw[M0] at m;have c:=jmE false q.1<|nub sv;rw[show decide (q.1∈nub sv)=decide (q.1∈sv) from decide_eq_decide.mpr jgv] at c;have g:=ye (o:=true) (f:=fnOf S)<|k q (by simp);have h:∃ o6':Option D,jH [some X,a1,some<|dct true NC<|fnOf S,↑(acc.map e2),some<|.str q.1,some<|.int q.2,o6]=some (.nx [some X,a1,some<|dct true NC<|fnOf S,↑((acc++[(q.1,if 0<fnOf S q.1/\q.1∉sv then q.2+1 else 0)]).map e2),some<|.str q.1,some<|.int q.2,o6']):=by
   generalize dct true NC (fnOf S)=DD,dSv false (nub sv)=SS at *;by_cases i:0<fnOf S q.1
   ·by_cases l:q.1∈sv
    ·exact⟨some<|.bl false,by simp(disch:=first | lia | (simp;done) | (simp;lia)) [jH,g,b,c,i,l,jb,e2]⟩
    ·exact⟨some<|.bl true,by simp(disch:=first | lia | (simp;done) | (simp;lia)) [jH,g,b,c,i,l,jb,e2]⟩
   ·exact⟨some<|.bl false,by simp(disch:=first | lia | (simp;done) | (simp;lia)) [jH,g,b,c,i,jb,e2]⟩
  obtain⟨o6',j⟩:=h;obtain⟨o4',o5',a,e⟩:=Vu d b (a1:=a1) (S:=S) (R:=R) (acc:=acc++[(q.1,if 0<fnOf S q.1/\q.1∉sv then q.2+1 else 0)]) (o4:=some<|.str q.1) (o5:=some<|.int q.2) (o6:=o6') (λr n=>k r<|by simp[n]) (by simp;lia);refine⟨o4',o5',a,?_⟩;rw[L4,lpE ?_ j,e]
  ·rw[List.append_assoc];rfl
  ·rfl
def Ye(h:po ρ=some (dct o M f)):vP po ρ=↑((sz' M f).map e2):=by
 unfold vP;rw[h];show(bif frzs (M.map λn=>D.int<|f n) then some (D.lst true<|((M.map KA.str).zip (M.map λn=>D.int<|f n)).map λp=>D.tup [kaD p.1,p.2]) else none)=_;rw[jed,jcY];simp[sz',e2]
def je6(h:PoolOk p)  (k:BkOk p b):jW [jn p false x,j8 false b]=some (j8 true<|j5 p b x):=by
 have v:=h.told2;obtain⟨w,y,A,B⟩:=k.len h;have a:=k.S;have c:=k.R;have d:yZ [.lst false<|b.S.map e2]=some (dct true p.C<|fnOf b.S):=by rw[<- a];exact y8 (by rw[a];exact h.toldn) ∅
 obtain⟨f,g,i,e⟩:=Vu (NC:=p.C) (S:=b.S) (X:=jn p false x) (sv:=x.sv) (by rw[L0];lia) jmF (a1:=some<|j8 false b) (R:=b.R) (acc:=[]) (o4:=none) (o5:=none) (o6:=none) (λq j=>by rw[<- c];exact M5.mpr ⟨q,j,rfl⟩) (by simp;lia);rw[List.nil_append,List.map_nil] at e;have l:jc (j8 false b) (.int 0)=‹b.S.map e2›:=rfl;have m:jc (j8 false b) (.int 2)=‹b.R.map e2›:=rfl;have n:jc (j8 false b) (.int 4)=some (.int b.z):=rfl;have s:∀ r:Rh,vP (Jp 0 "sizes"<|pV 0) (some (jn p false x)::r)=↑((sz' p.C x.sz).map e2):=λr=>Ye (o:=false) rfl;have t:∀ r:Rh,vP (Jp 0 "owed"<|pV 0) (some (jn p false x)::r)=↑((sz' p.C x.ow).map e2):=λr=>Ye (o:=false) rfl;have u:∀ r:Rh,vP (Jp 0 "levels"<|pV 0) (some (jn p false x)::r)=↑((sz' p.P x.lv).map e2):=λr=>Ye (o:=false) rfl;show _=some (D.tup [.lst true<|(sz' p.C x.sz).map e2,.lst true<|(sz' p.C x.ow).map e2,.lst true<|(JK b.S x.sv b.R).map e2,.lst true<|(sz' p.P x.lv).map e2,.int b.z]);generalize j8 false b=BK,jn p false x=X,dct true p.C (fnOf b.S)=DD at *;generalize(JK b.S x.sv b.R).map e2=RR at *;simp(disch:=first | lia | (simp;done) | (simp;lia)) [jW,jD,kg,l,m,n,d,jv,yY,e,s,t,u,jb,-vP]
def jjF(a:pV i ρ=some (jn p true x))(b:pe ρ=some r):jiP i 0 "entries" "moves" pe ρ=some (.tup [.lst true<|x.en.map e5,r,.lst true<|x.mv.map eM],ρ.set i none):=by
 rw[jiP,a,L3];have c:zL (jn p true x)=some (0,NS,[.str p.nm,dct true p.P<|fnOf p.marks,dct true p.C x.sz,dct true p.C x.ow,dct true p.P x.lv,dLn true x.ln,.int x.cash,dSv true<|nub x.sv,.lst true<|x.en.map e5,.lst true<|x.mv.map eM]):=rfl;rw[c,L3];dsimp only;rw[joa,jn2,b];rfl
def qY(p:PoolS):frz (jX false p)=true:=by
 have a:=Jr p.told;have b:=jv p.marks;have c:=KU p.grds;have d:=Vx p.ords;have e:=jF p.eats;simp[jX,frz,frzs,a,b,c,d,e]
theorem jbH:∀{l:LN},(∀ r∈l,0<=r.2)->0<=(vd l k).getD 0
 | [],_=>Int.le_refl _
 | r::l,h=>by
  rw[vd];split
  ·exact h r (by simp)
  ·exact jbH λq a=>h q (by simp[a])
def jcB(k:BkOk p b)(d:0<=c)(h1:c<=10 ^ 20)(e:∀ r∈ln,0<=r.2):FlB p (yi b c ln):=⟨d,h1,λw=>⟨x8 (λq a=>(k.w q a).1) w,Int.le_trans (jf4 (B:=10 ^ 14) (by decide) (λq a=>(k.w q a).2) w)<|by decide⟩,λw=>x8 (λq a=>(k.s q a).1) w,λw=>⟨x8 (λq a=>(k.l q a).1) w,k.lm w⟩,λ_=>jbH e⟩
def twiceF_bd(h:FlB p x):FlB p (twiceF Q c x):=by unfold twiceF;split<;>exact⟨h.c0,h.c1,h.ow,h.sz,h.lv,h.ln⟩
theorem Q9:∀{Q:List W2}{k:Nat}{A:List Int}{x:Fl},FlB p x->(∀ a∈A,0<=a)->FlB p (jV k Q A x)
 | [],_,_,x,h,_=>h
 | _::_,_,[],x,h,_=>h
 | q::Q,k,a::A,x,h,c=>by
  have c0:=h.c0;have c1:=h.c1;have g:=VB (c a<|by simp) c0;rw[jV];exact Q9 ⟨by show 0<=x.cash-got a x.cash;lia,by show x.cash-got a x.cash<=10 ^ 20;lia,h.ow,h.sz,h.lv,h.ln⟩ λb d=>c b (by simp[d])
theorem QU:∀(k:Nat) (Q:List W2) (A:List Int) (x:Fl),(jV k Q A x).sv=x.sv/\(jV k Q A x).mv=x.mv/\(jV k Q A x).ln=x.ln
 | _,[],_,x=>⟨rfl,rfl,rfl⟩
 | _,_::_,[],x=>⟨rfl,rfl,rfl⟩
 | k,q::Q,a::A,x=>by rw[jV];exact QU (k+1) Q A<|V0 k q a x
def twiceF_sv(Q:List W2)(c:Int)(x:Fl):(twiceF Q c x).sv=x.sv/\(twiceF Q c x).mv=x.mv/\(twiceF Q c x).ln=x.ln:=by unfold twiceF;split<;>exact⟨rfl,rfl,rfl⟩
def qk(o:OrdS)(b:BkS)(c:Int)(ln:LN):Fl:=twiceF o.parts c<|jV 0 o.parts (ji o.parts c).1 (yi b c ln)
def Qg(h:PoolOk p)  (i:o∈p.ords)  (k:BkOk p b)  (j:ln.length<=50) (e:∀ r∈ln,0<=r.2) (a:0<=c) (l:c<=10 ^ 20):FlB p (qk o b c ln)/\FlL o.rules.length (qk o b c ln)/\(qk o b c ln).sv=[]/\(qk o b c ln).mv=[]/\(qk o b c ln).ln=ln:=by
 have d:=h.ords o i;have m:(yi b c ln).en.length=0:=rfl;have n:=JL 0 o.parts (ji o.parts c).1 (yi b c ln);have s:=twiceF_en o.parts c<|jV 0 o.parts (ji o.parts c).1 (yi b c ln);have v:=twiceF_sv o.parts c<|jV 0 o.parts (ji o.parts c).1 (yi b c ln);have u:=QU 0 o.parts (ji o.parts c).1 (yi b c ln);have pl:=d.parts2;have t:=d.rules2;unfold qk;have f:=v.1.trans u.1;have e2:=v.2.1.trans u.2.1;have e3:=v.2.2.trans u.2.2;refine⟨twiceF_bd<|Q9 (jcB k a l e)<|jb4 (λq g=>⟨(d.parts q g).2.1,(d.parts q g).2.2⟩) a,⟨by lia,?_,?_,?_⟩,f,e2,e3⟩
 ·rw[f];show 0+_<=_;lia
 ·rw[e2];show 0+_<=_;lia
 ·rw[e3];show ln.length+_<=_;lia
def jhk(h:PoolOk p)  (u:o∈p.ords)  (k:BkOk p b)  (N:(ln.map (·.1)).Nodup) (v:ln.length<=50) (w:∀ r∈ln,0<=r.2) (j:0<=c) (O:c<=10 ^ 20):
  uB [jX false p,.str o.nm,j8 false b,.int c,.lst false<|ln.map eR]=some (.tup [.lst true<|(qg p o b c ln).en.map e5,j8 true<|j5 p b<|qg p o b c ln,.lst true<|(qg p o b c ln).mv.map eM]):=by
 have en:=jeT h u;have d:=h.ords o u;have E:=jiA h k (c:=c) N ∅;have F:=jek (p:=p) (x:=yi b c ln) (Q:=o.parts) j (by show c<=2 ^ 900;lia) (λq H=>⟨(d.parts q H).2.1,(d.parts q H).2.2⟩) d.parts2<|U4 _;have l1:(yi b c ln).en.length=0:=rfl;have P:(yi b c ln).cash=c:=rfl;rw[P] at F;have l2:=JL 0 o.parts (ji o.parts c).1 (yi b c ln);have l3:=twiceF_en o.parts c<|jV 0 o.parts (ji o.parts c).1 (yi b c ln);have pl:=d.parts2;have gl:=h.grds2;have T:(⟨fnOf b.S,fnOf b.W,fnOf b.L,ln,c,[],[],[]⟩:Fl)=yi b c ln:=rfl;rw[T] at E;unfold qg;generalize l:twiceF o.parts c (jV 0 o.parts (ji o.parts c).1 (yi b c ln))=x1 at *;have hR:=d.rules2;have g:=Qg h u k v w j O;unfold qk at g;rw[l] at g;obtain⟨y,t,z⟩:=Kx h (a0:=some<|jX false p) (a1:=some<|.str o.nm) (a2:=some<|j8 false b) (a3:=some<|.int c) (a4:=‹ln.map eR›) (a5:=some<|yR o) (a9:=none) (R:=o.rules) (s:=(o.parts.length:Int)) (x:=x1) (o7:=none) (o8:=none) d.rules g.1 g.2.1;have l4:=(J5 p (o.parts.length:Int) o.rules d.rules g.2.1).en;clear g;clear l;generalize jS p (o.parts.length:Int) o.rules x1=x2,yi b c ln=x0 at *;obtain⟨I,J,A⟩:=Y5 h (a0:=some<|jX false p) (a1:=some<|.str o.nm) (a2:=some<|j8 false b) (a3:=some<|.int c) (a4:=‹ln.map eR›) (a5:=some<|yR o) (a8:=t) (G:=p.grds) (s:=0) (x:=x2) (o7:=y) (o9:=none) h.grds ∅;generalize yp 0 p.grds x2=x3 at *;have U:=je6 (x:=x3) h k;have K:jc (yR o) (.int 1)=‹o.parts.map e2›:=rfl;have V:jc (yR o) (.int 2)=‹o.rules.map eRu›:=rfl;have X:jc (jX false p) (.int 6)=‹p.grds.map eG›:=rfl;have a:=qY p;have Y:=kj _ a;have Z:=v7 o;have e:=Qb b;have B:=kj _ e;have M:=JQ (p:=p) (x:=x0) (m:=jZ) (mn:="take_parts") (pa:=#[pF<|p2 jc (pV 5)<|pI 1]) (ρ:=[some<|jX false p,some<|.str o.nm,some<|j8 false b,some<|.int c,‹ln.map eR›,some<|yR o,some<|jn p true x0,none,none,none]) (i:=6) (ds:=[.lst false<|o.parts.map e2]) rfl (by simp[K,jv]) (by simp[jv])<|λ_ _ _ _ _ _ _ _ _ _=>rfl;rw[F,L3] at M;have C:=JT o.rules;have D:=KO o.rules;have n:∀ ρ:Rh,#[pF<|p2 jc (pV 5)<|pI 2] ρ=some [.lst false<|o.rules.map eRu]->pCB vB #[p2 jc (pV 5)<|pI 1] ρ=some (.int (o.parts.length:Int))->jj5 #[pF<|p2 jc (pV 5)<|pI 2] (pCB vB #[p2 jc (pV 5)<|pI 1]) ρ=some (YH (o.parts.length:Int)<|o.rules.map eRu):=by
  intro ρ q1 q2;unfold jj5;rw[q1,q2];show(bif Km (o.parts.length:Int) then some (YH _<|fzs<|o.rules.map eRu) else none)=_;rw[zx ∅ ∅,D];rfl
 have h1:=n [some<|jX false p,some<|.str o.nm,some<|j8 false b,some<|.int c,‹ln.map eR›,some<|yR o,some<|jn p true x1,none,none,none] (by simp[V,C]) (by simp[K]);have mm:=jbn (p:=p) (x:=x3) (o:=true) (m:=jW) (mn:="book_behind") (po:=pV 6) (pa:=#[pV 2]) (ρ:=[some<|jX false p,some<|.str o.nm,some<|j8 false b,some<|.int c,‹ln.map eR›,some<|yR o,some<|jn p true x3,I,t,J]) (ds:=[j8 false b]) rfl (by simp) (λ_ _ _ _ _ _ _ _ _ _=>rfl) (by rw[show fzs [j8 false b]=[j8 false b] by rw[fzs,B];rfl];exact U)<|J9 _;have m3:=jjF (p:=p) (x:=x3) (i:=6) (pe:=Yj jW 0 "book_behind" (pV 6) #[pV 2]) (ρ:=[some<|jX false p,some<|.str o.nm,some<|j8 false b,some<|.int c,‹ln.map eR›,some<|yR o,some<|jn p true x3,I,t,J]) rfl mm;have f:jaA vb 0 #[pF<|pV 0,pF<|pV 2,pF<|pV 3,pF<|pV 4] [some<|jX false p,some<|.str o.nm,some<|j8 false b,some<|.int c,‹ln.map eR›,some<|yR o,none,none,none,none]=some (jn p true x0):=by
  rw[jaA];have:#[pF<|pV 0,pF<|pV 2,pF<|pV 3,pF<|pV 4] [some<|jX false p,some<|.str o.nm,some<|j8 false b,some<|.int c,‹ln.map eR›,some<|yR o,none,none,none,none]=some [jX false p,j8 false b,.int c,.lst false<|ln.map eR]:=by simp[a,e,VH]
  rw[this,L3,E];simp[a,e,VH]
 generalize j8 true (j5 p b x3)=BR,j8 false b=BK,jn p true x3=X3,jn p true x2=X2,jn p true x1=X1,jn p true x0=X0,jX false p=PP,yR o=OO at *;simp[uB,jD,jfC,en,Y,a,Z,f,M,h1,z,X,KU,uA,A,m3,-vg,-jaA,-jiP,-Yj]
noncomputable abbrev kOw:List Nat:=[111,119,101,100]
noncomputable abbrev kSz:List Nat:=[115,105,122,101,115]
noncomputable abbrev kLv:List Nat:=[108,101,118,101,108,115]
noncomputable abbrev kMv:List Nat:=[109,111,118,101,115]
noncomputable abbrev kLn:List Nat:=[108,111,97,110,115]
abbrev T5(o:Bool)(a0 a1 a2 a3 a4:D):D:=.dK o [.str kOw,.str kSz,.str kLv,.str kMv,.str kLn] [a0,a1,a2,a3,a4]
def jE(p:PoolS)(o:Bool)(x:Fl)(l:LN):D:=T5 o (dct o p.C x.ow) (dct o p.C x.sz) (dct o p.P x.lv) (.lst o<|x.mv.map eM)<|dLn o l
section
variable {ρ:Rh}{i:Nat}{p:PoolS}{x:Fl}{l:LN}{w:List Nat}{v:Int}{pk pv:PF}
def wb{L:Ln}{t:D}{N:W4}{f:List Nat->Int}{kk:D->D}(a:pV i ρ=some t)(b:L t=some (dct true N f,kk))(c:pk ρ=some (.str w))(d:pv ρ=some (.int v))(e:w∈N)(g:N.length<=1000):
  vf i L pk pv ρ=some (.nx<|ρ.set i<|some<|kk<|dct true N<|put f w v):=by
 rw[vf,d,L3,a,L3,b,L3,jeB,L3,c,L3,show vT (.str w)=some (.str w) from rfl,L3];dsimp only;rw[uV e,jb<|by rw[L0];lia,show frz (.int v)=true from rfl];rfl
def jmm(a:pV i ρ=some (jE p true x l))(b:pk ρ=some (.str w))(c:pv ρ=some (.int v))(d:w∈p.C)(e:p.C.length<=1000):vf i (zw kOw ve) pk pv ρ=some (.nx<|ρ.set i<|some<|jE p true {x with ow:=put x.ow w v} l):=wb (kk:=λz=>T5 true z (dct true p.C x.sz) (dct true p.P x.lv) (.lst true<|x.mv.map eM)<|dLn true l) a rfl b c d e
def jnt(a:pV i ρ=some (jE p true x l))(b:pk ρ=some (.str w))(c:pv ρ=some (.int v))(d:w∈p.C)(e:p.C.length<=1000):vf i (zw kSz ve) pk pv ρ=some (.nx<|ρ.set i<|some<|jE p true {x with sz:=put x.sz w v} l):=wb (kk:=λz=>T5 true (dct true p.C x.ow) z (dct true p.P x.lv) (.lst true<|x.mv.map eM)<|dLn true l) a rfl b c d e
def jjr(a:pV i ρ=some (jE p true x l))(b:pk ρ=some (.str w))(c:pv ρ=some (.int v))(d:w∈p.P)(e:p.P.length<=1000):vf i (zw kLv ve) pk pv ρ=some (.nx<|ρ.set i<|some<|jE p true {x with lv:=put x.lv w v} l):=wb (kk:=λz=>T5 true (dct true p.C x.ow) (dct true p.C x.sz) z (.lst true<|x.mv.map eM)<|dLn true l) a rfl b c d e
def jhl{pa pb:PF}{k:EN}(a:pV i ρ=some (jE p true x l))(b:jaU pa pb ρ=some [.str k.1,.str k.2])(c:pv ρ=some (.int v))(d:l.length<=1000):VC i (zw kLn ve) pa pb pv ρ=some (.nx<|ρ.set i<|some<|jE p true x<|YG l k v):=by
 rw[VC,c,L3,a,L3,show zw kLn ve (jE p true x l)=some (dLn true l,λz=>T5 true (dct true p.C x.ow) (dct true p.C x.sz) (dct true p.P x.lv) (.lst true<|x.mv.map eM) z) from rfl,L3,show jfl (dLn true l)=some (l.map kL,l.map vL) from rfl,L3,b,L3];dsimp only;rw[Qh,jb<|by rw[L0];lia];rfl
def jm9{m:MV}(a:pV i ρ=some (jE p true x l))(b:pv ρ=some (eM m))(c:x.mv.length<=1000):vx i (zw kMv ve) pv ρ=some (.nx<|ρ.set i<|some<|jE p true {x with mv:=x.mv++[m]} l):=by
 rw[vx,b,L3,a,L3,show zw kMv ve (jE p true x l)=some (.lst true<|x.mv.map eM,λz=>T5 true (dct true p.C x.ow) (dct true p.C x.sz) (dct true p.P x.lv) z<|dLn true l) from rfl,L3,VS,L3,jb<|by rw[L0];lia,cond_true];show _=some (Out.nx<|ρ.set i<|some<|T5 true _ _ _ (.lst true<|(x.mv++[m]).map eM) _);rw[N4];rfl
def jdc{o:Bool}:jr (jE p o x l) (.str kOw)=some (dct o p.C x.ow):=rfl
def jgp{o:Bool}:jr (jE p o x l) (.str kSz)=some (dct o p.C x.sz):=rfl
def jeU{o:Bool}:jr (jE p o x l) (.str kLv)=some (dct o p.P x.lv):=rfl
def jmC{o:Bool}:jr (jE p o x l) (.str kMv)=some (.lst o<|x.mv.map eM):=rfl
def jk3{o:Bool}:jr (jE p o x l) (.str kLn)=some (dLn o l):=rfl
def wy{o:Bool}(k:EN):Kd (dLn o l) [.str k.1,.str k.2] (.int 0)=some (.int<|(vd l k).getD 0):=by
 show some ((Qz (l.map kL) (l.map vL) [.str k.1,.str k.2]).getD (.int 0))=_;rw[J6 k l];cases vd l k<;>rfl
end
noncomputable def eW(e:En):D:=.tup [.int e.pl,.str e.kd,.str e.nm]
noncomputable def jR:Ru->Int
 | .lend _ j=>j
 | _=>0
def LnR(l:LN)(x:Fl):Prop:=∀ k,(vd l k).getD 0=lnW x k
section
variable {p:PoolS}{x:Fl}{l:LN}{w:List Nat}{pl c:Int}
def jma(n:Int):jiK [.int 0,.int n]=some (.int<|jaT n):=by
 show some (D.int<|if(0:Int)<n then n else 0)=_;unfold jaT;congr 2;split<;>split<;>lia
def uL{kd:List Nat}(b:kd=ql\/kd=jI)(d:w∈p.C)(j:Int):jG [jX false p,jE p false x l,.tup [.int pl,.str kd,.str w],.int c,.int j]=some (.int<|x.ow w):=by
 have a:Jf false (.str kd) (.tup [.str ql,.str jI,.str yS])=some (.bl true):=by rcases b with rfl | rfl<;>rfl
 have e:=jdc (p:=p) (x:=x) (l:=l) (o:=false);have g:=ye (o:=false) (f:=x.ow) d;generalize jE p false x l=S,jX false p=P,dct false p.C x.ow=X at *;simp[jG,jD,vo,a,e,g,jb]
def jmX(h:PoolOk p){r:Ru}(q:RuOk p.C p.P p.oth r)(s:∀ ws,r≠.many ws)(t:FlB p x)(k:LnR l x):jG [jX false p,jE p false x l,.tup [.int pl,.str<|kdR r,.str<|nmR r],.int x.cash,.int<|jR r]=some (.int<|ndF p r x):=by
 have u:=jdc (p:=p) (x:=x) (l:=l) (o:=false);have y:=jgp (p:=p) (x:=x) (l:=l) (o:=false);have z:=jeU (p:=p) (x:=x) (l:=l) (o:=false);have m:=jk3 (p:=p) (x:=x) (l:=l) (o:=false);have n:jc (jX false p) (.int 0)=some (.str p.nm):=rfl;have A:jc (jX false p) (.int 2)=‹p.marks.map e2›:=rfl;cases q with
 | share _ _ _=>exact absurd rfl<|s _
 | pay b=>exact uL (.inl rfl) b 0
 | rest b=>
  rename_i w;have a:Jf false (.str Jj) (.tup [.str ql,.str jI,.str yS])=some (.bl false):=rfl;show jG [_,_,.tup [.int pl,.str Jj,.str w],_,.int 0]=some (.int x.cash);generalize jE p false x l=S,jX false p=P at *;simp[jG,jD,vo,a,jb]
 | repay b=>
  rename_i w;have a:Jf false (.str yw) (.tup [.str ql,.str jI,.str yS])=some (.bl false):=rfl;have c:=ye (o:=false) (f:=x.ow) b;have d:=ye (o:=false) (f:=x.sz) b;show jG [_,_,.tup [.int pl,.str yw,.str w],_,.int 0]=some (.int<|x.ow w+x.sz w);generalize jE p false x l=S,jX false p=P,dct false p.C x.ow=X,dct false p.C x.sz=Y at *;simp[jG,jD,vo,a,u,y,c,d,jb]
 | fill b=>
  rename_i w;have a:Jf false (.str kt) (.tup [.str ql,.str jI,.str yS])=some (.bl false):=rfl;have B:yZ [.lst false<|p.marks.map e2]=some (dct true p.P<|fnOf p.marks):=y8 h.marksn (by have:=h.marks2;lia);have c:=ye (o:=false) (f:=x.lv) b;have d:=ye (o:=true) (f:=fnOf p.marks) b;have v:=t.lv w;have e:ndF p (.one kt w) x=fnOf p.marks w-x.lv w:=by show jaT (fnOf p.marks w-x.lv w)=_;unfold jaT;split<;>lia
  rw[e];show jG [_,_,.tup [.int pl,.str kt,.str w],_,.int 0]=_;generalize jE p false x l=S,jX false p=P at *;generalize dct false p.P x.lv=X,dct true p.P (fnOf p.marks)=Y,p.marks.map e2=MM at *;simp[jG,jD,vo,a,z,A,B,c,d,jb]
 | back b=>
  rename_i w;have a:Jf false (.str yU) (.tup [.str ql,.str jI,.str yS])=some (.bl false):=rfl;have j:=wy (l:=l) (o:=false) (w,p.nm);rw[k] at j;show jG [_,_,.tup [.int pl,.str yU,.str w],_,.int 0]=some (.int<|lnW x (w,p.nm));generalize jE p false x l=S,jX false p=P,dLn false l=X at *;simp[jG,jD,vo,a,m,n,j,jb]
 | lend b=>
  rename_i w g;have a:Jf false (.str yI) (.tup [.str ql,.str jI,.str yS])=some (.bl false):=rfl;have j:=wy (l:=l) (o:=false) (p.nm,w);rw[k] at j;have i:=jma<|g-lnW x (p.nm,w);show jG [_,_,.tup [.int pl,.str yI,.str w],_,.int g]=some (.int<|jaT<|g-lnW x (p.nm,w));generalize jE p false x l=S,jX false p=P,dLn false l=X at *;simp[jG,jD,vo,a,m,n,j,i,jb,-v5]
def Qv(f:List Nat->Int)(w:List Nat){v:Int}(h:v=f w):put f w v=f:=by
 funext n
 unfold put;split
 ·rename_i e;rw[h,e]
 ·rfl
def YX(h:PoolOk p){kd:List Nat}{g:Int}(j:kd=ql\/kd=jI\/kd=yS\/kd=yw)(d:w∈p.C):ju [jX false p,jE p true x l,.tup [.int pl,.str kd,.str w],.int g]=some (.non,jE p true {x with ow:=put x.ow w<|x.ow w-got g (x.ow w),sz:=put x.sz w (x.sz w-(g-got g (x.ow w)))} l):=by
 have k:p.C.length<=1000:=by have:=h.told2;rw[L0];lia
 have e:Jf false (.str kd) (.tup [.str ql,.str jI,.str yS,.str yw])=some (.bl true):=by rcases j with rfl | rfl | rfl | rfl<;>rfl
 have c:Jf false (.str kd) (.tup [.str yI,.str yU])=some (.bl false):=by rcases j with rfl | rfl | rfl | rfl<;>rfl
 have r:xc [.int g,.int<|x.ow w]=some (.int<|got g<|x.ow w):=rfl;generalize s:got g (x.ow w)=f at *;have m:=jdc (p:=p) (x:=x) (l:=l) (o:=true);have n:=ye (o:=true) (f:=x.ow) d;have a:=jmm (p:=p) (x:=x) (l:=l) (ρ:=[some<|jX false p,some<|jE p true x l,some<|.tup [.int pl,.str kd,.str w],some<|.int g,some<|.int pl,some<|.str kd,some<|.str w,some<|.int f]) (i:=1) (pk:=pV 6) (pv:=p2 vk (p2 jr (p2 jr (pV 1)<|pS kOw)<|pV 6)<|pV 7) (v:=x.ow w-f) rfl rfl (by generalize jE p true x l=S at *;generalize dct true p.C x.ow=X at *;simp[m,n]) d k;have q:=jgp (p:=p) (x:={x with ow:=put x.ow w (x.ow w-f)}) (l:=l) (o:=true);have t:=ye (o:=true) (f:=x.sz) d;have b:=jnt (p:=p) (x:={x with ow:=put x.ow w (x.ow w-f)}) (l:=l) (ρ:=[some<|jX false p,some<|jE p true {x with ow:=put x.ow w (x.ow w-f)} l,some<|.tup [.int pl,.str kd,.str w],some<|.int g,some<|.int pl,some<|.str kd,some<|.str w,some<|.int f]) (i:=1) (pk:=pV 6) (pv:=p2 vk (p2 jr (p2 jr (pV 1)<|pS kSz)<|pV 6)<|p2 vk (pV 3)<|pV 7) (v:=x.sz w-(g-f)) rfl rfl (by generalize jE p true {x with ow:=put x.ow w (x.ow w-f)} l=S at *;dsimp only at q;generalize dct true p.C x.sz=X at *;simp[q,t]) d k;dsimp only at b;generalize jE p true {x with ow:=put x.ow w<|x.ow w-f,sz:=put x.sz w (x.sz w-(g-f))} l=Y2,jE p true {x with ow:=put x.ow w (x.ow w-f)} l=Y,jE p true x l=S,jX false p=P,dct true p.C x.ow=X at *;simp[ju,vp,yC,e,c,m,n,r,a,b,JF,jb,-v5]
def Kh{kd:List Nat}{g:Int}(a:kd=J4\/kd=Jj):ju [jX false p,jE p true x l,.tup [.int pl,.str kd,.str w],.int g]=some (.non,jE p true x l):=by
 have c:Jf false (.str kd) (.tup [.str ql,.str jI,.str yS,.str yw])=some (.bl false):=by rcases a with rfl | rfl<;>rfl
 have b:Jf false (.str kd) (.tup [.str yI,.str yU])=some (.bl false):=by rcases a with rfl | rfl<;>rfl
 have d:(kd==kt)=false:=by rcases a with rfl | rfl<;>rfl
 have e:(kd==yI)=false:=by rcases a with rfl | rfl<;>rfl
 have f:(kd==yU)=false:=by rcases a with rfl | rfl<;>rfl
 generalize jE p true x l=S,jX false p=P at *;simp[ju,vp,yC,c,b,d,e,f,JF,jb]
def jau(h:PoolOk p){g:Int}(d:w∈p.P):ju [jX false p,jE p true x l,.tup [.int pl,.str kt,.str w],.int g]=some (.non,jE p true {x with lv:=put x.lv w (x.lv w+g)} l):=by
 have e:p.P.length<=1000:=by have:=h.marks2;rw[L0];lia
 have c:Jf false (.str kt) (.tup [.str ql,.str jI,.str yS,.str yw])=some (.bl false):=rfl;have b:Jf false (.str kt) (.tup [.str yI,.str yU])=some (.bl false):=rfl;have j:=jeU (p:=p) (x:=x) (l:=l) (o:=true);have k:=ye (o:=true) (f:=x.lv) d;have a:=jjr (p:=p) (x:=x) (l:=l) (ρ:=[some<|jX false p,some<|jE p true x l,some<|.tup [.int pl,.str kt,.str w],some<|.int g,some<|.int pl,some<|.str kt,some<|.str w,none]) (i:=1) (pk:=pV 6) (pv:=p2 jq (p2 jr (p2 jr (pV 1)<|pS kLv)<|pV 6)<|pV 3) (v:=x.lv w+g) rfl rfl (by generalize jE p true x l=S at *;generalize dct true p.P x.lv=X at *;simp[j,k]) d e;generalize jE p true {x with lv:=put x.lv w (x.lv w+g)} l=Y,jE p true x l=S,jX false p=P at *;simp[ju,vp,yC,c,b,a,JF,jb]
def jeG{kd:List Nat}{g v:Int}{k:EN}(d:(kd=yI/\k=(p.nm,w)/\v=(vd l k).getD 0+g)\/(kd=yU/\k=(w,p.nm)/\v=(vd l k).getD 0-g))(h:l.length<=1000)(f:x.mv.length<=1000):ju [jX false p,jE p true x l,.tup [.int pl,.str kd,.str w],.int g]=some (.non,jE p true (if 0<g then{x with mv:=x.mv++[(kd,w,g)]} else x)<|YG l k v):=by
 have c:Jf false (.str kd) (.tup [.str ql,.str jI,.str yS,.str yw])=some (.bl false):=by rcases d with⟨rfl,_⟩ | ⟨rfl,_⟩<;>rfl
 have b:Jf false (.str kd) (.tup [.str yI,.str yU])=some (.bl true):=by rcases d with⟨rfl,_⟩ | ⟨rfl,_⟩<;>rfl
 have s:(kd==kt)=false:=by rcases d with⟨rfl,_⟩ | ⟨rfl,_⟩<;>rfl
 have n:=jk3 (p:=p) (x:=x) (l:=l) (o:=true);have e:jc (jX false p) (.int 0)=some (.str p.nm):=rfl;have j:=wy (l:=l) (o:=true) k;have m:=jm9 (p:=p) (x:=x) (l:=YG l k v) (m:=(kd,w,g)) (ρ:=[some<|jX false p,some<|jE p true x<|YG l k v,some<|.tup [.int pl,.str kd,.str w],some<|.int g,some<|.int pl,some<|.str kd,some<|.str w,none]) (i:=1) (pv:=vh #[pF<|pV 5,pF<|pV 6,pF<|pV 3]) rfl (by simp[jb,eM]) f;have r:jE p true (if 0<g then{x with mv:=x.mv++[(kd,w,g)]} else x) (YG l k v)=if 0<g then jE p true {x with mv:=x.mv++[(kd,w,g)]} (YG l k v) else jE p true x (YG l k v):=by split<;>rfl
 rw[r];rcases d with⟨rfl,rfl,rfl⟩ | ⟨rfl,rfl,rfl⟩
 ·have a:=jhl (p:=p) (x:=x) (l:=l) (k:=(p.nm,w)) (v:=(vd l (p.nm,w)).getD 0+g) (ρ:=[some<|jX false p,some<|jE p true x l,some<|.tup [.int pl,.str yI,.str w],some<|.int g,some<|.int pl,some<|.str yI,some<|.str w,none]) (i:=1) (pa:=p2 jc (pV 0)<|pI 0) (pb:=pV 6) (pv:=p2 jq (YI (p2 jr (pV 1)<|pS kLn) (p2 jc (pV 0)<|pI 0) (pV 6)<|pI 0)<|pV 3) rfl (by generalize jX false p=P at *;simp[e]) (by generalize jX false p=P at *;generalize jE p true x l=S at *;generalize dLn true l=X at *;simp[n,e,j]) h;generalize jE p true {x with mv:=x.mv++[(yI,w,g)]} (YG l (p.nm,w)<|(vd l (p.nm,w)).getD 0+g)=Y2,jE p true x (YG l (p.nm,w)<|(vd l (p.nm,w)).getD 0+g)=Y,jE p true x l=S,jX false p=P at *;by_cases q:0<g
  ·simp[ju,vp,yC,c,b,a,m,q,JF,jb,-vx]
  ·simp[ju,vp,yC,c,b,a,q,JF,jb,-vx]
 ·have a:=jhl (p:=p) (x:=x) (l:=l) (k:=(w,p.nm)) (v:=(vd l (w,p.nm)).getD 0-g) (ρ:=[some<|jX false p,some<|jE p true x l,some<|.tup [.int pl,.str yU,.str w],some<|.int g,some<|.int pl,some<|.str yU,some<|.str w,none]) (i:=1) (pa:=pV 6) (pb:=p2 jc (pV 0)<|pI 0) (pv:=p2 vk (YI (p2 jr (pV 1)<|pS kLn) (pV 6) (p2 jc (pV 0)<|pI 0)<|pI 0)<|pV 3) rfl (by generalize jX false p=P at *;simp[e]) (by generalize jX false p=P at *;generalize jE p true x l=S at *;generalize dLn true l=X at *;simp[n,e,j]) h;generalize jE p true {x with mv:=x.mv++[(yU,w,g)]} (YG l (w,p.nm)<|(vd l (w,p.nm)).getD 0-g)=Y2,jE p true x (YG l (w,p.nm)<|(vd l (w,p.nm)).getD 0-g)=Y,jE p true x l=S,jX false p=P at *;by_cases q:0<g
  ·simp[ju,vp,yC,c,b,a,m,q,JF,jb,-vx]
  ·simp[ju,vp,yC,c,b,a,q,JF,jb,-vx]
def jab(h:PoolOk p){r:Ru}(i:RuOk p.C p.P p.oth r)(j:∀ ws,r≠.many ws){g:Int}(o:0<=g)(m:kdR r=ql->g<=x.ow (nmR r))(a:LnR l x)(n:l.length<=1000)(d:x.mv.length<=1000):∃ l',ju [jX false p,jE p true x l,.tup [.int pl,.str<|kdR r,.str<|nmR r],.int g]=some (.non,jE p true (kq p (kdR r) (nmR r) g x) l')/\LnR l' (kq p (kdR r) (nmR r) g x)/\l'.length<=l.length+1:=by
 have ln:∀{kd w:List Nat}{k:EN}{v:Int},(kd=yI/\k=(p.nm,w)/\v=(vd l k).getD 0+g)\/(kd=yU/\k=(w,p.nm)/\v=(vd l k).getD 0-g)->∃ l',ju [jX false p,jE p true x l,.tup [.int pl,.str kd,.str w],.int g]=some (.non,jE p true (kq p kd w g x) l')/\LnR l' (kq p kd w g x)/\l'.length<=l.length+1:=λ{kd w k v} c=>by
  have e:kq p kd w g x=if 0<g then{x with ln:=mvF p.nm x.ln (kd,w,g),mv:=x.mv++[(kd,w,g)]} else x:=by
   rcases c with⟨rfl,_⟩ | ⟨rfl,_⟩<;>simp[kq]
  refine⟨YG l k v,?_,?_,uC _ _ _⟩
  ·rw[jeG c n d,e];split<;>rfl
  ·intro f;rw[qD,e];by_cases g0:0<g
   ·rw[if_pos g0];show _=(vd (mvF p.nm x.ln (kd,w,g)) f).getD 0;unfold mvF;dsimp only;rcases c with⟨rfl,rfl,rfl⟩ | ⟨rfl,rfl,rfl⟩
    ·rw[if_pos rfl,qD,a,a];rfl
    ·rw[if_neg<|show ¬ yU=yI by decide,qD,a,a];rfl
   ·rw[if_neg g0,a f];by_cases q:k=f
    ·rw[if_pos q,<- q,<- a k];rcases c with⟨_,_,e3⟩ | ⟨_,_,e3⟩<;>lia
    ·rw[if_neg q]
 cases i with
 | share _ _ _=>exact absurd rfl<|j _
 | pay b=>
  rename_i w;have e:=YX (x:=x) (l:=l) (pl:=pl) (g:=g) h (.inl rfl) b;have q:got g (x.ow w)=g:=by unfold got;have:g<=x.ow w:=m rfl;split<;>lia
  rw[q,Qv x.sz w ∅] at e;exact⟨l,e,a,by lia⟩
 | rest b=>exact⟨l,Kh<|.inr rfl,a,by lia⟩
 | repay b=>exact⟨l,YX h (.inr<|.inr<|.inr rfl) b,a,by lia⟩
 | fill b=>exact⟨l,jau h b,a,by lia⟩
 | back b=>exact ln<|.inr ⟨rfl,rfl,rfl⟩
 | lend b=>exact ln<|.inl ⟨rfl,rfl,rfl⟩
end
def yH:Nat->List W2->List Int->Int->List En
 | k,q::Q,a::A,c=>⟨k,J4,q.1,a,got a c⟩::yH (k+1) Q A (c-got a c)
 | _,_,_,_=>[]
theorem KB:∀(k:Nat) (Q:List W2) (A:List Int) (x:Fl),(jV k Q A x).en=x.en++yH k Q A x.cash
 | _,[],_,x=>by simp[jV,yH]
 | _,_::_,[],x=>by simp[jV,yH]
 | k,q::Q,a::A,x=>by
  rw[jV,KB (k+1) Q A,yH];show(x.en++[_])++_=_;simp[V0]
def yK(p:PoolS)(pl:Int)(r:Ru)(x:Fl):List En:=match r with
 | .many ws=>(shT ws x).map (shE pl)
 | .one k w=>[enR p pl (.one k w) x]
 | .lend w j=>[enR p pl (.lend w j) x]
def yE(p:PoolS):Int->List Ru->Fl->List En
 | _,[],_=>[]
 | k,r::R,x=>yK p k r x++yE p (k+1) R (vW p k r x)
theorem jbb(pl:Int):∀(T:List W3) (x:Fl),(shL pl T x).en=x.en++T.map (shE pl)
 | [],x=>by simp[shL]
 | t::T,x=>by rw[shL,jbb pl T];simp[sh1]
def wY(p:PoolS)(pl:Int)(r:Ru)(x:Fl):(YL p pl r x).en=x.en++[enR p pl r x]:=by
 unfold YL;rw[(jfX _ _ _ _ _).1];unfold xa;rw[(qA _ _ _ _ _).1]
def jcM(p:PoolS)(pl:Int)(r:Ru)(x:Fl):(vW p pl r x).en=x.en++yK p pl r x:=by
 cases r with
 | many a=>exact jbb pl _ x
 | one k w=>exact wY p pl _ x
 | lend w j=>exact wY p pl _ x
theorem Kb(p:PoolS):∀(k:Int) (R:List Ru) (x:Fl),(jS p k R x).en=x.en++yE p k R x
 | _,[],x=>by simp[jS,yE]
 | k,r::R,x=>by rw[jS,Kb p (k+1) R,jcM,yE,List.append_assoc]
def yx(k:Nat)(g:WG)(x:Fl):En:=⟨k,yS,g.2,x.ow g.2,got (x.ow g.2)<|x.lv g.1⟩
def yG:Nat->List WG->Fl->List En
 | _,[],_=>[]
 | k,g::G,x=>yx k g x::yG (k+1) G (vN k g x)
theorem JA:∀(k:Nat) (G:List WG) (x:Fl),(yp k G x).en=x.en++yG k G x
 | _,[],x=>by simp[yp,yG]
 | k,g::G,x=>by rw[yp,JA (k+1) G,yG];simp[vN,yx]
def zE(e:En):D:=.tup [eW e,e5 e]
abbrev gW:D->Rh->Option Rh:=gT 2<|gC (jd [2] 8)<|gC (jd [2] 9) gN
structure EnOk(e:En):Prop where
 k:Wd e.kd
 n:Wd e.nm
 g0:0<=e.gt
 g1:e.gt<=e.nd
def xy(p:PoolS)(o:Bool)(x:Fl)(l:LN):fz (jE p o x l)=jE p false x l:=by
 unfold jE T5;rw[fz];simp[fzs,jfs,jfI,fz,wH]
noncomputable def dry(d:Int)(e:En):Int:=if e.gt<e.nd/\d<0 then e.pl else d
abbrev frW(p:PoolS)(o:OrdS)(a3 a4 a5:Option D)(x:Fl)(l:LN)(d:Int)(r8 r9:Option D):Rh:=[some<|jX false p,some<|yR o,some<|jE p true x l,a3,a4,a5,some<|.int x.cash,some<|.int d,r8,r9]
def Wk(p:PoolS)(o:OrdS)(a3 a4 a5:Option D)(es:List En)(x:Fl)(l:LN)(d:Int)(x':Fl)(l':LN)(d':Int):Prop:=∀(rest:List D) (r8 r9:Option D),∃ r8' r9',yB gW jl (es.map zE++rest) (frW p o a3 a4 a5 x l d r8 r9)=yB gW jl rest (frW p o a3 a4 a5 x' l' d' r8' r9')
def Wk.nil(h:∀ r8 r9,frW p o a3 a4 a5 x l d r8 r9=frW p o a3 a4 a5 x' l d r8 r9):Wk p o a3 a4 a5 [] x l d x' l d:=λrest r8 r9=>⟨r8,r9,by rw[h];rfl⟩
def Wk.app(h:Wk p o a3 a4 a5 es x l d y m e)(k:Wk p o a3 a4 a5 fs y m e z n f):Wk p o a3 a4 a5 (es++fs) x l d z n f:=λrest a b=>by
 obtain⟨c,g,i⟩:=h (fs.map zE++rest) a b;obtain⟨j,q,e2⟩:=k rest c g;refine⟨j,q,?_⟩;rw[N4,List.append_assoc,i,e2]
def Wk.one(h:jl (frW p o a3 a4 a5 x l d (some<|eW e)<|some<|e5 e)=some (.nx<|frW p o a3 a4 a5 x' l' d' (some<|eW e)<|some<|e5 e)):Wk p o a3 a4 a5 [e] x l d x' l' d':=λrest a b=>⟨some<|eW e,some<|e5 e,by
 show yB gW jl (zE e::rest) _=_;exact lpE rfl h⟩
def jhf(h:EnOk e):Jg (eW e) (eW e)=some (.bl false):=jc5 (by show kJ 19 [.int e.pl,.str e.kd,.str e.nm]=true;simp[kJ,qB h.k.2,qB h.n.2]) (by show kJ 19 [.int e.pl,.str e.kd,.str e.nm]=true;simp[kJ,qB h.k.2,qB h.n.2]) rfl
def jiI(e:En):jd4 none (some 3) (e5 e)=some (eW e):=rfl
def uP(h:EnOk e)(k:(e.kd==yS)=false)(m:(e.kd==J4)=false)(most:yX [yR o,.int e.pl]=some (.int j))(b:jG [jX false p,jE p false x l,eW e,.int x.cash,.int j]=some (.int e.nd))(hd:0<e.gt->0<=d->¬ d<e.pl)
  (a:ju [jX false p,jE p true x l,eW e,.int e.gt]=some (.non,jE p true x' l')) (D:x'.cash=x.cash-e.gt):Wk p o a3 a4 a5 [e] x l d x' l' (dry d e):=Wk.one (by
 have n:=jhf h;have q:=jiI e;have r:jc (eW e) (.int 0)=some (.int e.pl):=rfl;have s:jc (eW e) (.int 1)=some (.str e.kd):=rfl;have t:jc (e5 e) (.int 3)=some (.int e.nd):=rfl;have u:jc (e5 e) (.int 4)=some (.int e.gt):=rfl;have v:=kj _<|qY p;have f:=qY p;have c:=v7 o;have w:=kj _ c;have y:=xy p true x l;have z:fz (eW e)=eW e:=rfl;have g:frz (eW e)=true:=rfl;have g0:=h.g0;have g1:=h.g1;unfold dry frW;rw[D];generalize jE p true x' l'=S',jE p true x l=S,jE p false x l=SF,jX false p=P,yR o=O,eW e=W,e5 e=V at *;by_cases i:0<e.gt
 ·have hd:=hd i;by_cases C:0<=d
  ·have hd:=hd C;have A:¬ d<0:=by lia
   simp[jl,n,q,r,s,t,u,k,m,g0,g1,v,f,w,c,y,z,g,most,b,a,i,C,A,hd,fz,fzs,frz,frzs,yn]
  ·have A:d<0:=by lia
   by_cases B:e.gt<e.nd
   ·simp[jl,n,q,r,s,t,u,k,m,g0,g1,v,f,w,c,y,z,g,most,b,a,i,C,B,A,fz,fzs,frz,frzs,yn]
   ·simp[jl,n,q,r,s,t,u,k,m,g0,g1,v,f,w,c,y,z,g,most,b,a,i,C,B,fz,fzs,frz,frzs,yn]
 ·by_cases B:e.gt<e.nd
  ·by_cases A:d<0
   ·simp[jl,n,q,r,s,t,u,k,m,g0,g1,v,f,w,c,y,z,g,most,b,a,i,B,A,fz,fzs,frz,frzs,yn]
   ·simp[jl,n,q,r,s,t,u,k,m,g0,g1,v,f,w,c,y,z,g,most,b,a,i,B,A,fz,fzs,frz,frzs,yn]
  ·simp[jl,n,q,r,s,t,u,k,m,g0,g1,v,f,w,c,y,z,g,most,b,a,i,B,fz,fzs,frz,frzs,yn])
def jdd(h:EnOk e)(n:e.kd=J4):Wk p o a3 a4 a5 [e] x l d {x with cash:=x.cash-e.gt,en:=x.en++[e]} l d:=Wk.one (by
 have f:=jhf h;have g:=jiI e;have i:jc (eW e) (.int 1)=some (.str J4):=by rw[<- n];rfl
 have j:jc (e5 e) (.int 3)=some (.int e.nd):=rfl;have k:jc (e5 e) (.int 4)=some (.int e.gt):=rfl;have b:=qY p;have c:frz (eW e)=true:=rfl;have a:ju [jX false p,jE p true x l,eW e,.int e.gt]=some (.non,jE p true x l):=Kh<|.inl n;have g0:=h.g0;have g1:=h.g1;show _=some (Out.nx [some<|jX false p,some<|yR o,some<|jE p true x l,a3,a4,a5,some<|.int<|x.cash-e.gt,some<|.int d,some<|eW e,some<|e5 e]);unfold frW;generalize jE p true x l=S,jX false p=P,eW e=W,e5 e=V at *;simp[jl,f,g,i,j,k,g0,g1,b,c,a,fz,fzs,frz,frzs,yn])
def jhC:got (got a b) a=got a b:=by unfold got;split<;>split<;>lia
def Q8{p:PoolS}(h:PoolOk p)  {k:Nat}(b:p.grds[k]?=some g) (h1:g.1∈p.P) (h2:g.2∈p.C):qf [jX false p,jE p true x l,.int k,e5<|yx k g x]=some (.bl true,jE p true {x with lv:=put x.lv g.1 (x.lv g.1-got (x.ow g.2) (x.lv g.1))} l):=by
 have e:p.P.length<=1000:=by have:=h.marks2;rw[L0];lia
 have j:xc [.int<|x.ow g.2,.int<|x.lv g.1]=some (.int<|got (x.ow g.2)<|x.lv g.1):=rfl;have m:jc (jX false p) (.int 6)=‹p.grds.map eG›:=rfl;have u:k<p.grds.length:=(L8.mp b).1;have n:jc (.lst false<|p.grds.map eG) (.int (k:Int))=some (eG g):=by rw[jdv ∅ (by rw[L0];lia),N7,List.getElem?_map,b];rfl
 have q:jc (eG g) (.int 0)=some (.str g.1):=rfl;have r:jc (e5<|yx k g x) (.int 2)=some (.str g.2):=rfl;have s:jc (e5<|yx k g x) (.int 3)=some (.int<|x.ow g.2):=rfl;have t:jc (e5<|yx k g x) (.int 4)=some (.int<|got (x.ow g.2)<|x.lv g.1):=rfl;have s0:=jdc (p:=p) (x:=x) (l:=l) (o:=true);have c:=jeU (p:=p) (x:=x) (l:=l) (o:=true);have d0:=ye (o:=true) (f:=x.ow) h2;have d:=ye (o:=true) (f:=x.lv) h1;generalize got (x.ow g.2) (x.lv g.1)=y at *;have a:=jjr (p:=p) (x:=x) (l:=l) (ρ:=[some<|jX false p,some<|jE p true x l,some<|.int k,some<|e5<|yx k g x,some<|.str g.1,some<|.int y]) (i:=1) (pk:=pV 4) (pv:=p2 vk (p2 jr (p2 jr (pV 1)<|pS kLv)<|pV 4)<|pV 5) (v:=x.lv g.1-y) rfl rfl (by generalize jE p true x l=S at *;generalize dct true p.P x.lv=X at *;simp[c,d]) h1 e;generalize jE p true {x with lv:=put x.lv g.1 (x.lv g.1-y)} l=Y,e5 (yx k g x)=V,jE p true x l=S,jX false p=P,dct true p.C x.ow=X at *;generalize dct true p.P x.lv=X2,eG g=GG,p.grds.map eG=GS at *;simp[qf,vp,VL,m,n,q,r,s,t,s0,c,d0,d,j,a,JF,-v5]
def jaQ{p:PoolS}{a3 a4 a5:Option D}(h:PoolOk p)  {d:Int}{k:Nat}(j:p.grds[k]?=some g) (h1:g.1∈p.P) (h2:g.2∈p.C) (b:EnOk<|yx k g x):Wk p o a3 a4 a5 [yx k g x] x l d (vN k g x) l d:=Wk.one (by
 have c:=Q8 (l:=l) (x:=x) h j h1 h2;have a:=YX (x:={x with lv:=put x.lv g.1 (x.lv g.1-got (x.ow g.2) (x.lv g.1))}) (l:=l) (pl:=(k:Int)) (g:=got (x.ow g.2)<|x.lv g.1) h (.inr<|.inr<|.inl rfl) h2;dsimp only at a;rw[jhC,Qv x.sz g.2 ∅] at a;have h1:=jhf b;have h2:=jiI<|yx k g x;have m:jc (eW<|yx k g x) (.int 0)=some (.int k):=rfl;have n:jc (eW<|yx k g x) (.int 1)=some (.str yS):=rfl;have q:jc (e5<|yx k g x) (.int 3)=some (.int<|x.ow g.2):=rfl;have r:jc (e5<|yx k g x) (.int 4)=some (.int<|got (x.ow g.2)<|x.lv g.1):=rfl;have e:=qY p;have f:frz (eW<|yx k g x)=true:=rfl;have i:frz (e5<|yx k g x)=true:=rfl;have g0:0<=got (x.ow g.2) (x.lv g.1):=b.g0;have g1:got (x.ow g.2) (x.lv g.1)<=x.ow g.2:=b.g1;replace a:ju [jX false p,jE p true {x with lv:=put x.lv g.1 (x.lv g.1-got (x.ow g.2) (x.lv g.1))} l,eW<|yx k g x,.int<|got (x.ow g.2)<|x.lv g.1]=some (.non,jE p true (vN k g x) l):=a;show _=some (Out.nx [some<|jX false p,some<|yR o,some<|jE p true (vN k g x) l,a3,a4,a5,some<|.int x.cash,some<|.int d,some<|eW<|yx k g x,some<|e5<|yx k g x]);unfold frW;generalize jE p true (vN k g x) l=S2,jE p true {x with lv:=put x.lv g.1 (x.lv g.1-got (x.ow g.2) (x.lv g.1))} l=S1,jE p true x l=S,jX false p=P,eW (yx k g x)=W,e5 (yx k g x)=V at *;generalize got (x.ow g.2) (x.lv g.1)=y at *;simp[jl,jiN,h1,h2,m,n,q,r,g0,g1,e,f,i,c,a,fz,fzs,frz,frzs,yn])
section
variable {p:PoolS}{o:OrdS}{a3 a4 a5:Option D}
theorem uQ:∀{Q:List W2}{A:List Int}{k:Nat}{x:Fl},(∀ q∈Q,Wd q.1)->(∀ a∈A,0<=a)->0<=x.cash->Wk p o a3 a4 a5 (yH k Q A x.cash) x l d (jV k Q A x) l d
 | [],_,_,_,_,_,_=>.nil λ_ _=>rfl
 | _::_,[],_,_,_,_,_=>.nil λ_ _=>rfl
 | q::Q,a::A,k,x,c,e,f=>by
  have g:=VB (e a<|by simp) f;exact Wk.app (es:=[⟨k,J4,q.1,a,got a x.cash⟩]) (jdd ⟨show Wd J4 from⟨by decide,by decide⟩,c q<|by simp,g.1,g.2.1⟩ rfl)<|uQ (x:=V0 k q a x) (λr b=>c r<|by simp[b]) (λr b=>e r<|by simp[b]) (by show 0<=x.cash-got a x.cash;lia)
def jbx{i:Nat}(f:o.rules[i]?=some r)(h:RuOk p.C p.P p.oth r):yX [yR o,.int<|(o.parts.length:Int)+i]=some (.int<|jR r):=by
 have b:jc (yR o) (.int 1)=‹o.parts.map e2›:=rfl;have c:jc (yR o) (.int 2)=‹o.rules.map eRu›:=rfl;have hi:i<o.rules.length:=(L8.mp f).1;have ix:jc (.lst false<|o.rules.map eRu) (.int (i:Int))=some (eRu r):=by rw[jdv ∅ (by rw[L0];lia),N7,List.getElem?_map,f];rfl
 have d:vB [.lst false<|o.parts.map e2]=some (.int (o.parts.length:Int)):=by simp
 have q:¬ (o.parts.length:Int)+i<o.parts.length:=by lia
 have e:(o.parts.length:Int)+i-o.parts.length=i:=by lia
 have a:jc (eRu r) (.int 0)=some (.str<|kdR r):=by cases r<;>rfl
 have fr:=Ym r;generalize yR o=O,o.rules.map eRu=RS,o.parts.map e2=PS at *;generalize(o.parts.length:Int)=n at *;cases r with
 | lend w j=>
  have l:jc (eRu<|.lend w j) (.int 2)=some (.int j):=rfl;have k:kdR (.lend w j)=yI:=rfl;rw[k] at a;generalize eRu (.lend w j)=RR at *;simp[yX,jD,qX,b,c,d,q,e,ix,a,l,fr,jR,-jB]
 | one k w=>
  have m:kdR (.one k w)=k:=rfl;rw[m] at a;have s:(k==yI)=false:=by cases h<;>rfl
  generalize eRu (.one k w)=RR at *;simp[yX,jD,qX,b,c,d,q,e,ix,a,s,fr,jR,-jB]
 | many g=>
  have k:kdR (.many g)=jI:=rfl;rw[k] at a;generalize eRu (.many g)=RR at *;simp[yX,jD,qX,b,c,d,q,e,ix,a,fr,jR,-jB]
def jka(h:got L s<L):got L s=s:=by
 unfold got at *;by_cases q:s<L
 ·rw[if_pos q]
 ·rw[if_neg q] at h;lia
def jfu(h:∀ n,0<=f n)(a:0<=v)(n:List Nat):0<=put f w v n:=by
 unfold put;split
 ·exact a
 ·exact h n
def jk5(h:RuOk p.C p.P p.oth r):Wd (kdR r)/\(kdR r==yS)=false/\(kdR r==J4)=false:=by
 cases h<;>exact⟨⟨by simp[kdR],by simp[kdR]⟩,rfl,rfl⟩
def wdC(h:PoolOk p)  (a:w∈p.C):Wd w:=by obtain⟨t,b,rfl⟩:=M5.mp a;exact(h.told t b).w
def wdP(h:PoolOk p)  (a:w∈p.P):Wd w:=by obtain⟨t,b,rfl⟩:=M5.mp a;exact(h.marks t b).1
def jnu(h:PoolOk p)  (b:RuOk p.C p.P p.oth r) (c:∀ ws,r≠.many ws):Wd (nmR r):=by
 cases b with
 | fill a=>exact wdP h a
 | back a=>exact h.otw _ a
 | lend a=>exact h.otw _ a
 | share _ _ _=>exact absurd rfl<|c _
 | rest a=>exact wdC h a
 | pay a=>exact wdC h a
 | repay a=>exact wdC h a
def wW(l:LN):jE p true (YL p pl r x) l=jE p true (kq p (kdR r) (nmR r) (got (ndF p r x) x.cash) x) l/\(YL p pl r x).cash=x.cash-got (ndF p r x) x.cash/\(YL p pl r x).ln=(kq p (kdR r) (nmR r) (got (ndF p r x) x.cash) x).ln:=by
 have a:∀(b:Bool) (g nd:Int) (w:List Nat) (y:Fl),jE p true (srv b g nd w y) l=jE p true y l/\(srv b g nd w y).cash=y.cash/\(srv b g nd w y).ln=y.ln:=λb g nd w y=>by unfold srv;split<;>exact⟨rfl,rfl,rfl⟩
 have b:=qA p (kdR r) (nmR r) (got (ndF p r x) x.cash) {x with cash:=x.cash-got (ndF p r x) x.cash,en:=x.en++[enR p pl r x]};unfold YL;obtain⟨c,d,e⟩:=a (isP<|kdR r) (got (ndF p r x) x.cash) (ndF p r x) (nmR r)<|xa p pl r x;rw[c,d,e];refine⟨?_,b.2.2.1,?_⟩
 all_goals
  unfold xa kq;split
  ·rfl
  split
  ·rfl
  split
  ·rfl
  split
  ·rfl
  ·rfl
def DK(s:Int)(x:Fl)(d:Int):Prop:=d<s/\(0<=d->x.cash=0)
def jfD(h:PoolOk p)  {l:LN}{d pl:Int}{i n:Nat}(a:RuOk p.C p.P p.oth r) (b:∀ ws,r≠.many ws) (c:FlB p x) (j:FlL n x) (ln:LnR l x) (D:l.length<=900) (m:o.rules[i]?=some r) (s:pl=(o.parts.length:Int)+i) (f:DK pl x d):
  ∃ l',Wk p o a3 a4 a5 [enR p pl r x] x l d (YL p pl r x) l' (dry d<|enR p pl r x)/\LnR l' (YL p pl r x)/\l'.length<=l.length+1/\DK (pl+1) (YL p pl r x) (dry d<|enR p pl r x):=by
 have c0:=c.c0;have t:=jc4 (r:=r) c;have g:=VB t c0;have mv:=j.mv;obtain⟨l',e,u,v⟩:=jab (x:=x) (l:=l) (pl:=pl) h a b (g:=got (ndF p r x) x.cash) g.1 (λz=>by
  have:ndF p r x=x.ow (nmR r):=by cases r<;>first | (cases z;rfl) | (exact absurd (show yI=ql from z)<|by decide) | (exact absurd (show jI=ql from z)<|by decide)
  lia) ln ∅ ∅
 obtain⟨y,e2,e3⟩:=wW (p:=p) (pl:=pl) (r:=r) (x:=x) l';rw[<- y] at e;have nd:=jmX (pl:=pl) h a b c ln;have w:=jk5 a;have dd:dry d (enR p pl r x)=if got (ndF p r x) x.cash<ndF p r x/\d<0 then pl else d:=rfl
 refine⟨l',uP ⟨w.1,jnu h a b,g.1,g.2.1⟩ w.2.1 w.2.2 (by rw[show(enR p pl r x).pl=pl from rfl,s];exact jbx m a) nd (λA B=>?_) e e2,?_,v,?_,?_⟩
 ·have:=f.2 B;have E:0<got (ndF p r x) x.cash:=A
  lia
 ·intro k;show _=(vd (YL p pl r x).ln k).getD 0;rw[e3];exact u k
 ·have:=f.1;rw[dd];split<;>lia
 ·intro z;rw[e2];rw[dd] at z;split at z
  ·rename_i q;have:=jka q.1
   lia
  ·have:=f.2 z
   lia
theorem uo(pl:Int):∀(T:List W3) (x:Fl),(shL pl T x).cash=x.cash-(T.map (·.2.2)).sum
 | [],x=>by simp[shL]
 | t::T,x=>by rw[shL,uo pl T];show x.cash-t.2.2-_=_;rw[L4,List.sum_cons];lia
theorem wR(h:PoolOk p)  (most:yX [yR o,.int pl]=some (.int j)) (n:0<=pl):∀{T:List W3}{x:Fl}{d:Int},ShOk x T->(∀ t∈T,t.1∈p.C)->(0<=d->d=pl \/ ∀ t∈T,t.2.2=0) ->
  ∃ d',Wk p o a3 a4 a5 (T.map<|shE pl) x l d (shL pl T x) l d'/\(d'=d\/(d<0/\d'=pl/\∃ t∈T,t.2.2<t.2.1))
 | [],x,d,_,_,_=>⟨d,.nil λ_ _=>rfl,.inl rfl⟩
 | t::T,x,d,k,i,hd=>by
  have f:=i t (by simp);have e:=k.eq t (by simp);have m:=YX (x:=x) (l:=l) (pl:=pl) (g:=t.2.2) h (.inr<|.inl rfl) f;have q:got t.2.2 (x.ow t.1)=t.2.2:=by unfold got;split<;>lia
  rw[q,Qv x.sz t.1 ∅] at m;have nd:=uL (p:=p) (x:=x) (l:=l) (pl:=pl) (c:=x.cash) (.inr rfl) f j;rw[<- e.1] at nd;have s:=uP (p:=p) (o:=o) (a3:=a3) (a4:=a4) (a5:=a5) (e:=shE pl t) (x:=x) (x':=sh1 pl t x) (l:=l) (l':=l) (d:=d) ⟨show Wd jI from⟨by decide,by decide⟩,wdC h f,e.2.1,e.2.2⟩ rfl rfl most nd (λb r=>by
   have A:0<t.2.2:=b;show ¬ d<pl;rcases hd r with z | z
   ·lia
   ·have:=z t (by simp);lia) m rfl
  have dd:dry d (shE pl t)=if t.2.2<t.2.1/\d<0 then pl else d:=rfl
  obtain⟨d',w,kd⟩:=wR h (l:=l) most n (T:=T) (x:=sh1 pl t x) (d:=dry d<|shE pl t) k.next (λu a=>i u<|by simp[a]) (by
   rw[dd];split
   ·exact λ_=>.inl rfl
   ·exact λz=>(hd z).imp id λy u a=>y u<|by simp[a])
  refine⟨d',Wk.app (es:=[shE pl t]) s w,?_⟩;rw[dd] at kd;split at kd
  ·rename_i b;exact .inr ⟨b.2,kd.elim id λz=>z.2.1,t,by simp,b.1⟩
  ·exact kd.imp id λz=>⟨z.1,z.2.1,by obtain⟨u,a,v⟩:=z.2.2;exact⟨u,by simp[a],v⟩⟩
def jgN(h:PoolOk p)  {d pl:Int}{f:W4}{i:Nat}(G:RuOk p.C p.P p.oth<|.many f) (H:FlB p x) (I:o.rules[i]?=some (.many f)) (J:pl=(o.parts.length:Int)+i) (j:DK pl x d):
  ∃ d',Wk p o a3 a4 a5 ((shT f x).map (shE pl)) x l d (YB pl f x) l d'/\DK (pl+1) (YB pl f x) d':=by
 have m:=G;cases G with
 | share K L M=>
  have q:=jlE H M K;have c0:=H.c0;have V:=ja9 (shT f x) λt g=>(q.ok.eq t g).2.1;have N:=q.ok.sum;have O:∀ t∈shT f x,t.1∈p.C:=λt g=>L _ (by rw[<- q.t1];exact M5.mpr ⟨t,g,rfl⟩);have Q:x.cash=0->∀ t∈shT f x,t.2.2=0:=λz t g=>by
   obtain⟨A,B,e⟩:=List.append_of_mem g;have a:=ja9 A λu n=>(q.ok.eq u<|by rw[e];simp[n]).2.1;have b:=ja9 B λu n=>(q.ok.eq u<|by rw[e];simp[n]).2.1;have c:=(q.ok.eq t g).2.1;rw[e,N4,L4,List.sum_append,List.sum_cons] at N
   lia
  have most:=jbx (p:=p) I m;rw[<- J] at most;obtain⟨d',w,kd⟩:=wR (a3:=a3) (a4:=a4) (a5:=a5) h (l:=l) most ∅ (d:=d) q.ok O λz=>.inr<|Q<|j.2 z;have R:(YB pl f x).cash=x.cash-((shT f x).map (·.2.2)).sum:=uo pl _ x;have S:Wk p o a3 a4 a5 ((shT f x).map (shE pl)) x l d (YB pl f x) l d':=w;refine⟨d',S,?_,λz=>?_⟩
  ·have:=j.1;rcases kd with e | e<;>lia
  ·rw[R];rcases kd with e | ⟨_,_,t,g,T⟩
   ·rw[e] at z;have:=j.2 z
    lia
   ·have r:∀ v∈f.map x.ow,0<=v:=λv U=>(q.ns v U).1;have s:(shT f x).map (·.2.2)=jy (f.map x.ow) x.cash:=by
     have y:(shT f x).map (·.2)=(f.map x.ow).zip (jy (f.map x.ow) x.cash):=Jy (by rw[List.length_zip,q.gl];simp);have:(shT f x).map (·.2.2)=((shT f x).map (·.2)).map (·.2):=by rw[U0];rfl
     rw[this,y];exact Jy (by rw[q.gl];simp)
    rcases KH c0 r with⟨D,W⟩ | D
    ·exfalso;obtain⟨k,E⟩:=List.mem_iff_getElem?.mp g;unfold shT at E;rw[List.getElem?_zip_eq_some] at E;obtain⟨_,F⟩:=E;rw[List.getElem?_zip_eq_some,D] at F;have:=F.1.symm.trans F.2;injection this with this
     lia
    ·rw[s,D];lia
theorem uM(h:PoolOk p):∀{R A:List Ru}{x:Fl}{l:LN}{d pl:Int},o.rules=A++R->pl=(o.parts.length:Int)+A.length->(∀ r∈R,RuOk p.C p.P p.oth r)->FlB p x->FlL R.length x->LnR l x->l.length+R.length<=900->DK pl x d ->
  ∃ l' d',Wk p o a3 a4 a5 (yE p pl R x) x l d (jS p pl R x) l' d'
 | [],A,x,l,d,pl,_,_,_,_,_,_,_,_=>⟨l,d,.nil λ_ _=>rfl⟩
 | r::R,A,x,l,d,pl,y,c,B,f,g,ln,D,i=>by
  rw[M0] at D;have b:=B r (by simp);have hi:o.rules[A.length]?=some r:=by rw[y];simp
  have m:o.rules=(A++[r])++R:=by rw[y];simp
  have n:=YN (pl:=pl) b f;have s:=JY p pl b g;have t:∀ q∈R,RuOk p.C p.P p.oth q:=λq E=>B q (by simp[E]);have u:∃ a d1,Wk p o a3 a4 a5 (yK p pl r x) x l d (vW p pl r x) a d1/\LnR a (vW p pl r x)/\a.length<=l.length+1/\DK (pl+1) (vW p pl r x) d1:=by
   cases r with
   | one k w=>
    obtain⟨a,e⟩:=jfD (a3:=a3) (a4:=a4) (a5:=a5) h b (λ_ z=>by cases z) f g ln ∅ hi c i;exact⟨a,_,e⟩
   | lend w j=>
    obtain⟨a,e⟩:=jfD (a3:=a3) (a4:=a4) (a5:=a5) h b (λ_ z=>by cases z) f g ln ∅ hi c i;exact⟨a,_,e⟩
   | many F=>
    obtain⟨d1,e,v⟩:=jgN (a3:=a3) (a4:=a4) (a5:=a5) (l:=l) h b f hi c i;exact⟨l,d1,e,λk=>(ln k).trans (congrArg (λz=>(vd z k).getD 0) (jbV pl (shT F x) x).2.2.symm),by lia,v⟩
  obtain⟨a,d1,G,v,L,H⟩:=u;obtain⟨I,J,K⟩:=uM h (R:=R) (A:=A++[r]) m (by rw[c];simp;lia) t n s v ∅ H;exact⟨I,J,G.app K⟩
theorem zy(h:PoolOk p){l:LN}{d:Int}:∀{G A:List WG}{x:Fl},p.grds=A++G->(∀ w,0<=x.ow w)->(∀ w,0<=x.lv w)->Wk p o a3 a4 a5 (yG A.length G x) x l d (yp A.length G x) l d
 | [],A,x,_,_,_=>.nil λ_ _=>rfl
 | g::G,A,x,a,c,f=>by
  have hi:p.grds[A.length]?=some g:=by rw[a];simp
  have b:=h.grds g (by rw[a];simp);have i:=VB (c g.2)<|f g.1;have s:=jaQ (o:=o) (a3:=a3) (a4:=a4) (a5:=a5) (l:=l) (d:=d) h hi b.1 b.2 ⟨show Wd yS from⟨by decide,by decide⟩,wdC h b.2,i.1,i.2.1⟩;have e:(A++[g]).length=A.length+1:=by simp
  have t:=zy h (l:=l) (d:=d) (G:=G) (A:=A++[g]) (x:=vN A.length g x) (by rw[a];simp) (jfu c ∅)<|jfu f ∅;rw[e] at t;exact Wk.app (es:=[yx A.length g x]) s t
theorem Yo:∀(k:Nat) (G:List WG) (x:Fl),(yp k G x).cash=x.cash
 | _,[],x=>rfl
 | k,g::G,x=>by rw[yp,Yo];rfl
theorem Vh(p:PoolS):∀(k:Int) (R:List Ru) (r:Ru) (x:Fl),jS p k (R++[r]) x=vW p (k+R.length) r (jS p k R x)
 | k,[],r,x=>by simp[jS]
 | k,q::R,r,x=>by
  rw[List.cons_append,jS,jS,Vh p (k+1) R,M0];congr 1
  lia
def qp(p:PoolS)(o:OrdS)(b:BkS)(c:Int)(ln:LN):List En:=yH 0 o.parts (ji o.parts c).1 c++(yE p o.parts.length o.rules (qk o b c ln)++yG 0 p.grds (jS p o.parts.length o.rules<|qk o b c ln))
theorem QX:∀{R:List Ru}{k:Int}{x:Fl},(∀ r∈R,RuOk p.C p.P p.oth r)->FlB p x->FlB p (jS p k R x)
 | [],_,_,_,h=>h
 | r::R,k,x,a,h=>QX (R:=R) (k:=k+1) (x:=vW p k r x) (λq b=>a q<|by simp[b])<|YN (a r<|by simp) h
theorem jfq:∀ es:List En,QM (es.map eW) (es.map e5)=es.map zE
 | []=>rfl
 | e::es=>by rw[L4,L4,QM,jfq es];rfl
def Qc(l:List En):frzs (l.map eW)=true:=yP λd hd=>by obtain⟨p,_,rfl⟩:=M5.mp hd;rfl
def jfB(l:List En):fzs (l.map eW)=l.map eW:=vF λd hd=>by obtain⟨p,_,rfl⟩:=M5.mp hd;rfl
def jbo(h:PoolOk p)(s:o∈p.ords)  (k:BkOk p b)  (j:ln.length<=50) (m:∀ r∈ln,0<=r.2) (a:0<=c) (v:c<=10 ^ 20) (V:(qp p o b c ln).length<=900):
  ∃ l',kf [jX false p,yR o,jE p true (yi b c ln) ln,.lst false<|(qp p o b c ln).map eW,.lst false<|(qp p o b c ln).map e5,.int c]=some (.bl true,jE p true (qg p o b c ln) l'):=by
 have f:=h.ords o s;obtain⟨t,y,_,_,B⟩:=Qg h s k j m a v;have C:=uQ (p:=p) (o:=o) (a3:=‹(qp p o b c ln).map eW›) (a4:=‹(qp p o b c ln).map e5›) (a5:=some<|.int c) (l:=ln) (d:=-1) (Q:=o.parts) (A:=(ji o.parts c).1) (k:=0) (x:=yi b c ln) (λq i=>wdC h (f.parts q i).1) (jb4 (λq i=>⟨(f.parts q i).2.1,(f.parts q i).2.2⟩) a) a;have D:Wk p o (‹(qp p o b c ln).map eW›) (‹(qp p o b c ln).map e5›) (some<|.int c) [] (jV 0 o.parts (ji o.parts c).1 (yi b c ln)) ln (-1) (qk o b c ln) ln (-1):=.nil λ_ _=>by unfold qk twiceF;split<;>rfl
 obtain⟨l',u,E⟩:=uM (o:=o) (a3:=‹(qp p o b c ln).map eW›) (a4:=‹(qp p o b c ln).map e5›) (a5:=some<|.int c) h (R:=o.rules) (A:=[]) (x:=qk o b c ln) (l:=ln) (d:=-1) (pl:=(o.parts.length:Int)) rfl (by simp) f.rules t y (λk=>by unfold lnW;rw[B]) (by have:=f.rules2;lia) ⟨by lia,λz=>absurd z<|by decide⟩;have g:=QX (k:=(o.parts.length:Int)) f.rules t;have F:=zy (o:=o) (a3:=‹(qp p o b c ln).map eW›) (a4:=‹(qp p o b c ln).map e5›) (a5:=some<|.int c) h (l:=l') (d:=u) (G:=p.grds) (A:=[]) (x:=jS p o.parts.length o.rules<|qk o b c ln) rfl (λw=>(g.ow w).1)<|λw=>(g.lv w).1;obtain⟨H,I,e⟩:=(C.app<|D.app<|E.app F) [] none none;have J:(qg p o b c ln).cash=0:=by
  show(yp 0 p.grds<|jS p o.parts.length o.rules<|qk o b c ln).cash=0;rw[Yo];obtain⟨Z,w,K⟩:=f.last;rw[K,Vh];have:=(wW (p:=p) (pl:=(o.parts.length:Int)+Z.length) (r:=.one Jj w) (x:=jS p o.parts.length Z<|qk o b c ln) []).2.1;show(YL _ _ _ _).cash=0;rw[this];show _-got (jS p o.parts.length Z<|qk o b c ln).cash (jS p o.parts.length Z<|qk o b c ln).cash=0;rw[jec]
  lia
 have L:yB gW jl ((qp p o b c ln).map zE) [some<|jX false p,some<|yR o,some<|jE p true (yi b c ln) ln,‹(qp p o b c ln).map eW›,‹(qp p o b c ln).map e5›,some<|.int c,some<|.int c,some<|.int<|-1,none,none]=some (.nx [some<|jX false p,some<|yR o,some<|jE p true (qg p o b c ln) l',‹(qp p o b c ln).map eW›,‹(qp p o b c ln).map e5›,some<|.int c,some<|.int 0,some<|.int u,H,I]):=by
  rw[<- J,<- M9 ((qp p o b c ln).map zE)];exact e
 refine⟨l',?_⟩;have z:=jfq<|qp p o b c ln;have M:=Qc<|qp p o b c ln;have N:=jfB<|qp p o b c ln;have T:=J7<|qp p o b c ln;have U:=z5<|qp p o b c ln;generalize jE p true (yi b c ln) ln=S,jE p true (qg p o b c ln) l'=S',jX false p=P,yR o=O at *;generalize(qp p o b c ln).map eW=EW at *;generalize(qp p o b c ln).map e5=E5 at *;generalize(qp p o b c ln).map zE=EZ at *;have n:xj (.int 1)=some (.int<|-1):=rfl;simp[kf,vp,Yy,n,M,N,T,U,z,L,JF]
end
section
variable {p:PoolS}{o:OrdS}
theorem VF:∀{Q:List W2}{A:List Int}{k:Nat}{c:Int}{o0 o1:Option D},A.length=Q.length->yQ (gT 2<|gC (jd [] 0)<|gC (jd [] 1) gN) qT (vh #[pF<|pV 0,pS [112,97,114,116],pF<|p2 jc (pV 1)<|pI 0]) (yo k<|Q.map e2) [o0,o1]=some ((yH k Q A c).map eW)
 | [],[],_,_,_,_,_=>rfl
 | [],_::_,_,_,_,_,h=>by simp at h
 | _::_,[],_,_,_,_,h=>by simp at h
 | q::Q,a::A,k,c,o0,o1,h=>by
  rw[L4,yo,cpE (ρ1:=[some<|.int k,some<|e2 q]) (y:=eW ⟨k,J4,q.1,a,got a c⟩) rfl<|by simp[e2,eW,jb,jet],VF (A:=A) (c:=c-got a c) ⇑h];rfl
theorem YC:∀{G:List WG}{k:Nat}{x:Fl}{o0 o1:Option D},yQ (gT 2<|gC (jd [] 0)<|gC (jd [] 1) gN) qT (vh #[pF<|pV 0,pS [103,117,97,114,100],pF<|p2 jc (pV 1)<|pI 1]) (yo k<|G.map eG) [o0,o1]=some ((yG k G x).map eW)
 | [],_,_,_,_=>rfl
 | g::G,k,x,o0,o1=>by
  rw[L4,yo,cpE (ρ1:=[some<|.int k,some<|eG g]) (y:=eW<|yx k g x) rfl<|by simp[eG,eW,yx,jb,jet],YC (x:=vN k g x)];rfl
def jgR(a:W4)(x:Fl):(shT a x).map (·.1)=a:=Qj (by rw[List.length_zip,JB];simp)
def VP(a:RuOk C P O r):(yK p pl r x).length<=10:=by
 cases a with
 | share _ _ b=>show((shT _ x).map (shE pl)).length<=10;rw[L0,xI];exact b
 | _=>exact(by decide:1<=10)
theorem Yg{C P O:W4}:∀{R:List Ru}{pl:Int}{x:Fl},(∀ r∈R,RuOk C P O r)->(yE p pl R x).length<=10*R.length
 | [],_,_,_=>M8 _
 | r::R,pl,x,h=>by
  have a:=VP (p:=p) (pl:=pl) (x:=x)<|h r (by simp);have b:=Yg (R:=R) (pl:=pl+1) (x:=vW p pl r x) λq c=>h q (by simp[c]);rw[yE,N3,M0]
  lia
theorem Vt(n:Int){a0:Option D}(b:jc OO (.int 1)=‹o.parts.map e2›)(i:n=(o.parts.length:Int)):∀{R:List Ru}{k:Nat}{x:Fl}{acc:List D}{o3 o4 o5:Option D},(∀ r∈R,RuOk p.C p.P p.oth r)->acc.length+10*R.length<=900 ->
  ∃ o3' o4' o5':Option D,yB (gT 2<|gC (jd [] 3)<|gC (jd [] 4) gN) yM (yo k<|R.map eRu) [a0,some OO,↑acc,o3,o4,o5]=some (.nx [a0,some OO,↑(acc++(yE p (n+k) R x).map eW),o3',o4',o5'])
 | [],k,x,acc,o3,o4,o5,_,_=>⟨o3,o4,o5,by simp[yo,yE]⟩
 | r::R,k,x,acc,o3,o4,o5,m,t=>by
  rw[M0] at t;have c:=m r (by simp);have I:=VP (p:=p) (pl:=n+k) (x:=x) c;obtain⟨o3',o4',o5',e⟩:=Vt n (a0:=a0) b i (R:=R) (k:=k+1) (x:=vW p (n+k) r x) (acc:=acc++(yK p (n+k) r x).map eW) (o3:=some<|.int k) (o4:=some<|eRu r) (o5:=some<|.int<|n+k) (λq u=>m q<|by simp[u]) (by rw[N3,L0];lia);refine⟨o3',o4',o5',?_⟩;have s:vB [.lst false<|o.parts.map e2]=some (.int n):=by rw[i];simp
  have f:jc (eRu r) (.int 0)=some (.str<|kdR r):=by cases r<;>rfl
  have v:lim acc.length=true:=jb ∅;have one:(kdR r==jI)=false->jc (eRu r) (.int 1)=some (.str<|nmR r)->(yK p (n+k) r x).map eW=[.tup [.int<|n+k,.str<|kdR r,.str<|nmR r]]->yM [a0,some OO,↑acc,some<|.int k,some<|eRu r,o5]=some (.nx [a0,some OO,↑(acc++(yK p (n+k) r x).map eW),some<|.int k,some<|eRu r,some<|.int<|n+k]):=λns g h=>by
   rw[h];generalize o.parts.map e2=PS,eRu r=RR at *;simp[yM,b,s,f,g,ns,v,jb,-jB]
  have y:yM [a0,some OO,↑acc,some<|.int k,some<|eRu r,o5]=some (.nx [a0,some OO,↑(acc++(yK p (n+k) r x).map eW),some<|.int k,some<|eRu r,some<|.int<|n+k]):=by
   cases r with
   | lend w j=>exact one rfl rfl rfl
   | one kd w=>exact one (by cases c<;>rfl) rfl rfl
   | many a=>
    have h:(yK p (n+k) (.many a) x).map eW=a.map λw=>.tup [.int<|n+k,.str jI,.str w]:=by
     show((shT a x).map (shE<|n+k)).map eW=_
     conv=>rhs;rw[<- jgR a x]
     rw[U0,U0];rfl
    have J:a.length<=10:=by cases c;assumption
    rw[h];have g:jc (eRu<|.many a) (.int 1)=some (.tup<|a.map D.str):=rfl;have A:=jF a;have B:yQ (jd [] 0) qT (vh #[pF<|pV 1,pS [115,104,97,114,101],pF<|pV 0]) (a.map D.str) [none,some<|.int<|n+k]=some (a.map λw=>.tup [.int<|n+k,.str jI,.str w]):=by
     refine ya (l:=a) (en:=D.str) rfl (λρ=>∃ z,ρ=[z,some<|.int<|n+k]) ?_ ⟨none,rfl⟩;rintro w K ρ ⟨z,rfl⟩;exact⟨_,rfl,by simp[jb],_,rfl⟩
    have E:lim (acc.length+(a.map λw=>D.tup [.int<|n+k,.str jI,.str w]).length)=true:=jb (by rw[L0];lia);have F:lim (a.map D.str).length=true:=jb (by rw[L0];lia);have G:kdR (.many a)=jI:=rfl;have H:frzs (a.map λw=>D.tup [.int<|n+k,.str jI,.str w])=true:=yP λd hd=>by obtain⟨p,_,rfl⟩:=M5.mp hd;rfl
    rw[G] at f;generalize(a.map λw=>D.tup [.int<|n+k,.str jI,.str w])=WS at *;generalize a.map D.str=WW,o.parts.map e2=PS,eRu (.many a)=RR at *;simp[yM,jfc,u9,b,s,f,g,A,H,B,E,F,jO,jb,-jB]
  rw[L4,yo,lpE ?_ y,e,yE,N4,List.append_assoc,show n+((k+1:Nat):Int)=n+(k:Int)+1 by lia];rfl
theorem Yl:∀{Q:List W2}{A:List Int}{k:Nat}{c:Int},(yH k Q A c).length<=Q.length
 | [],_,_,_=>by simp[yH]
 | _::_,[],_,_=>by simp[yH]
 | q::Q,a::A,k,c=>by rw[yH,M0,M0];exact Nat.succ_le_succ Yl
theorem qh:∀{G:List WG}{k:Nat}{x:Fl},(yG k G x).length=G.length
 | [],_,_=>rfl
 | g::G,k,x=>by rw[yG,M0,M0,qh]
def uh(h:PoolOk p)(e:o∈p.ords)  : (qp p o b c ln).length<=200:=by
 have d:=h.ords o e;have a:=Yl (Q:=o.parts) (A:=(ji o.parts c).1) (k:=0) (c:=c);have b:=Yg (p:=p) (R:=o.rules) (pl:=(o.parts.length:Int)) (x:=qk o b c ln) d.rules;have:=d.parts2;have:=d.rules2;have:=h.grds2;unfold qp;rw[N3,N3,qh]
 lia
def zF(h:PoolOk p)(i:o∈p.ords)  {c:Int}  : kQ [jX false p,yR o]=↑((qp p o b c ln).map eW):=by
 have d:=h.ords o i;have p2:=d.parts2;have E:=d.rules2;have g2:=h.grds2;have g:jc (yR o) (.int 1)=‹o.parts.map e2›:=rfl;have j:jc (yR o) (.int 2)=‹o.rules.map eRu›:=rfl;have l:jc (jX false p) (.int 6)=‹p.grds.map eG›:=rfl;have m:=VF (Q:=o.parts) (A:=(ji o.parts c).1) (k:=0) (c:=c) (o0:=none) (o1:=none) ul;have pl:=Yl (Q:=o.parts) (A:=(ji o.parts c).1) (k:=0) (c:=c);obtain⟨n,q,r,a⟩:=Vt (p:=p) (o:=o) (o.parts.length:Int) (a0:=some<|jX false p) g rfl (R:=o.rules) (k:=0) (x:=qk o b c ln) (acc:=(yH 0 o.parts (ji o.parts c).1 c).map eW) (o3:=none) (o4:=none) (o5:=none) d.rules (by rw[L0];lia);have F:=Yg (p:=p) (R:=o.rules) (pl:=(o.parts.length:Int)) (x:=qk o b c ln) d.rules;have f:=YC (G:=p.grds) (k:=0) (x:=jS p o.parts.length o.rules<|qk o b c ln) (o0:=none) (o1:=none);have gl:=qh (G:=p.grds) (k:=0) (x:=jS p o.parts.length o.rules<|qk o b c ln);rw[show(o.parts.length:Int)+((0:Nat):Int)=o.parts.length by simp] at a;have s:(qp p o b c ln).map eW=((yH 0 o.parts (ji o.parts c).1 c).map eW++(yE p o.parts.length o.rules<|qk o b c ln).map eW)++(yG 0 p.grds<|jS p o.parts.length o.rules<|qk o b c ln).map eW:=by
  unfold qp;rw[N4,N4,List.append_assoc]
 rw[s];generalize yE p o.parts.length o.rules (qk o b c ln)=RE,yG 0 p.grds (jS p o.parts.length o.rules<|qk o b c ln)=GE,yH 0 o.parts (ji o.parts c).1 c=PE at *;have t:jq (.lst true<|PE.map eW++RE.map eW) (.lst true<|GE.map eW)=↑((PE.map eW++RE.map eW)++GE.map eW):=by
  have e:=Qc<|PE++RE;rw[N4] at e;show(bif lim ((PE.map eW++RE.map eW).length+(GE.map eW).length)&&(frzs (PE.map eW++RE.map eW)&&frzs (GE.map eW)) then some (D.lst true<|(PE.map eW++RE.map eW)++GE.map eW) else none)=_;rw[e,Qc,jb<|by simp;lia];rfl
 have e:=jv o.parts;have u:=yY o.parts;have v:=JT o.rules;have w:=KO o.rules;have y:=KU p.grds;have z:=uA p.grds;have B:lim (yo 0<|o.parts.map e2).length=true:=jb (by rw[yD,L0];lia);have C:lim (yo 0<|p.grds.map eG).length=true:=jb (by rw[yD,L0];lia);generalize(PE.map eW++RE.map eW)++GE.map eW=AA at *;generalize PE.map eW++RE.map eW=AB at *;generalize PE.map eW=PW,GE.map eW=GW,jX false p=P,yR o=O,o.parts.map e2=PS,o.rules.map eRu=RS,p.grds.map eG=GS at *;simp[kQ,jD,Ve,g,j,l,e,u,v,w,y,z,B,C,m,a,f,t,jO,jb]
def sb1:YK "int" "int" = true:=by decide +kernel
def sb2:YK "int" "bool" = false:=by decide +kernel
def sb3:YK "str" "str" = true:=by decide +kernel
def sb4:YK "tuple" "tuple" = true:=by decide +kernel
def sb5:YK "list" "list" = true:=by decide +kernel
def jc9{E:List En}  : ki [.tup [.lst false<|E.map e5,B,M]]=some (.bl true):=by
 have l:=J7 E;have m:=z5 E;have n:jc (.tup [.lst false<|E.map e5,B,M]) (.int 0)=‹E.map e5›:=rfl;have g:vB [.tup [.lst false<|E.map e5,B,M]]=some (.int 3):=rfl;have h:tyD (.tup [.lst false<|E.map e5,B,M])=some "tuple":=rfl;obtain⟨w,e,j,c,rfl⟩:=yb (G:=jd [] 1) (f:=ku) (xs:=E.map e5) (λi ρ=>∃ j c:Option D,ρ=[some<|.tup [.lst false<|E.map e5,B,M],j,c]) (by
  rintro i d ρ o ⟨j,c,rfl⟩;obtain⟨q,x,rfl⟩:=M5.mp<|List.mem_of_getElem? o;have p:jc (e5 q) (.int 0)=some (.int q.pl):=rfl;have r:jc (e5 q) (.int 1)=some (.str q.kd):=rfl;have s:jc (e5 q) (.int 2)=some (.str q.nm):=rfl;have t:jc (e5 q) (.int 3)=some (.int q.nd):=rfl;have u:jc (e5 q) (.int 4)=some (.int q.gt):=rfl;have g:vB [e5 q]=some (.int 5):=rfl;have k:∀(a b:Option D) (z:Int),vt [a,b,some<|.int z]=some (.nx [a,b,some<|.int z]):=λa b z=>by simp[vt,sb1,sb2]
  have v:∀(a b:Option D),yB (jd [] 2) vt [.int q.pl,.int q.nd,.int q.gt] [a,b,c]=some (.nx [a,b,some<|.int q.gt]):=λa b=>by rw[lpE rfl<|k a b q.pl,lpE rfl<|k a b q.nd,lpE rfl<|k a b q.gt];rfl
  have h:tyD (e5 q)=some "tuple":=rfl;refine⟨_,_,rfl,.inl ?_,some<|e5 q,some<|.int q.gt,rfl⟩;generalize D.tup [.lst false<|E.map e5,B,M]=X,e5 q=V at *;simp[ku,g,h,p,r,s,t,u,v,sb3,sb4,jb,-jB]) (ρ:=[some<|.tup [.lst false<|E.map e5,B,M],none,none]) ⟨none,none,rfl⟩
 generalize D.tup [.lst false<|E.map e5,B,M]=X at *;generalize E.map e5=EE at *;simp[ki,jD,Yp,n,g,h,sb4,sb5,l,m,e,-jB]
theorem V9{a0 a1 a2:Option D}{x:Fl}:∀{l acc:LN}{o4 o5 o6:Option D},((acc++l).map (·.1)).Nodup->acc.length+l.length<=900->∃ o4' o5' o6',yB (gT 3<|gC (jd [] 4)<|gC (jd [] 5)<|gC (jd [] 6) gN) vM (l.map eR) [a0,a1,a2,some<|jE p true x acc,o4,o5,o6]=some (.nx [a0,a1,a2,some<|jE p true x<|acc++l,o4',o5',o6'])
 | [],acc,o4,o5,o6,_,_=>⟨o4,o5,o6,by simp⟩
 | r::l,acc,o4,o5,o6,a,c=>by
  rw[M0] at c;have d:acc++r::l=(acc++[r])++l:=by simp
  rw[d] at a ⊢;obtain⟨o4',o5',o6',e⟩:=V9 (a0:=a0) (a1:=a1) (a2:=a2) (x:=x) (l:=l) (acc:=acc++[r]) (o4:=some<|.str r.1.1) (o5:=some<|.str r.1.2) (o6:=some<|.int r.2) a (by rw[N3,List.length_singleton];lia);refine⟨o4',o5',o6',?_⟩;have g:r.1∉acc.map (·.1):=λz=>by
   rw[N4,N4] at a;have:=(U8.mp (U8.mp a).1).2.2 r.1 z r.1 (by simp);exact this rfl
  have h:YG acc r.1 r.2=acc++[r]:=if_neg g;have b:=jhl (p:=p) (x:=x) (l:=acc) (k:=r.1) (v:=r.2) (ρ:=[a0,a1,a2,some<|jE p true x acc,some<|.str r.1.1,some<|.str r.1.2,some<|.int r.2]) (i:=3) (pa:=pV 4) (pb:=pV 5) (pv:=pV 6) rfl rfl rfl ∅;rw[h] at b;rw[L4];exact(lpE (f:=vM) rfl b).trans e
def jfb(h:PoolOk p)  (k:BkOk p b)  (s:(ln.map (·.1)).Nodup) (I:ln.length<=50):kY [jX false p,j8 false b,.lst false<|ln.map eR]=some (jE p true (yi b c ln) ln):=by
 have J:=h.marks2;obtain⟨K,N,_,O⟩:=k.len h;have i:=k.S;have j:=k.W;have m:=k.L;have t:yZ [.lst false<|b.S.map e2]=some (dct true p.C<|fnOf b.S):=by rw[<- i];exact y8 (by rw[i];exact h.toldn) ∅
 have u:yZ [.lst false<|b.W.map e2]=some (dct true p.C<|fnOf b.W):=by rw[<- j];exact y8 (by rw[j];exact h.toldn) ∅
 have v:yZ [.lst false<|b.L.map e2]=some (dct true p.P<|fnOf b.L):=by rw[<- m];exact y8 (by rw[m];exact h.marksn) ∅
 have w:jc (j8 false b) (.int 0)=‹b.S.map e2›:=rfl;have y:jc (j8 false b) (.int 1)=‹b.W.map e2›:=rfl;have z:jc (j8 false b) (.int 3)=‹b.L.map e2›:=rfl;obtain⟨n,o,q,e⟩:=V9 (p:=p) (a0:=some<|jX false p) (a1:=some<|j8 false b) (a2:=‹ln.map eR›) (x:=yi b c ln) (l:=ln) (acc:=[]) (o4:=none) (o5:=none) (o6:=none) s (by simp;lia);have A:=VH ln;have E:=jbW ln;have F:lim (ln.map eR).length=true:=jb (by rw[L0];lia);have G:∀ r:Rh,jbc (xH (pS [111,119,101,100]) (pCB yZ #[p2 jc (pV 1)<|pI 1])<|xH (pS [115,105,122,101,115]) (pCB yZ #[p2 jc (pV 1)<|pI 0])<|xH (pS [108,101,118,101,108,115]) (pCB yZ #[p2 jc (pV 1)<|pI 3])<|xH (pS [109,111,118,101,115]) (ky pN) prN) (some (jX false p)::some (j8 false b)::r)=some (.dK true [.str kOw,.str kSz,.str kLv,.str kMv] [dct true p.C<|fnOf b.W,dct true p.C<|fnOf b.S,dct true p.P<|fnOf b.L,.lst true []]):=λr=>by
  generalize j8 false b=B,jX false p=P,dct true p.C (fnOf b.S)=D1,dct true p.C (fnOf b.W)=D2 at *;generalize dct true p.P (fnOf b.L)=D3 at *;rw[xZ];have:xH (pS [111,119,101,100]) (pCB yZ #[p2 jc (pV 1)<|pI 1]) (xH (pS [115,105,122,101,115]) (pCB yZ #[p2 jc (pV 1)<|pI 0])<|xH (pS [108,101,118,101,108,115]) (pCB yZ #[p2 jc (pV 1)<|pI 3])<|xH (pS [109,111,118,101,115]) (ky pN) prN) (some P::some B::r)=some ([.str kOw,.str kSz,.str kLv,.str kMv],[D2,D1,D3,.lst true []]):=by simp[xH,prN,vT,w,y,z,t,u,v,jb]
  rw[this];rfl
 have g:∀(a b c d e f:Option D) (X Y Z M:D),vf 3 ve (pS [108,111,97,110,115]) (pC<|.dT true [] []) [a,b,c,some<|.dK true [.str kOw,.str kSz,.str kLv,.str kMv] [X,Y,Z,M],d,e,f]=some (.nx [a,b,c,some<|T5 true X Y Z M<|.dT true [] [],d,e,f]):=λa b c d e f X Y Z M=>rfl;have H:yB (gT 3<|gC (jd [] 4)<|gC (jd [] 5)<|gC (jd [] 6) gN) vM (ln.map eR) [some<|jX false p,some<|j8 false b,‹ln.map eR›,some<|T5 true (dct true p.C<|fnOf b.W) (dct true p.C<|fnOf b.S) (dct true p.P<|fnOf b.L) (.lst true [])<|.dT true [] [],none,none,none]=some (.nx [some<|jX false p,some<|j8 false b,‹ln.map eR›,some<|jE p true (yi b c ln) ln,n,o,q]):=e;generalize j8 false b=B,jX false p=P,dct true p.C (fnOf b.S)=D1,dct true p.C (fnOf b.W)=D2 at *;generalize dct true p.P (fnOf b.L)=D3,jE p true (yi b c ln) ln=S,ln.map eR=LL at *;simp[kY,jD,Y1,G,g,A,E,F,H,-xZ]
end
noncomputable def fil(E:List En)(pl:Int)(kd:List Nat):List En:=E.filter λe=>decide (e.pl=pl)&&(e.kd==kd)
def wF(h:∀ e∈E,e.pl≠pl\/e.kd≠kd):fil E pl kd=[]:=List.filter_eq_nil_iff.mpr λe a=>by
 rcases h e a with z | z
 ·simp[z]
 ·simp[z]
def jhX(h:∀ e∈E,e.pl=pl/\e.kd=kd):fil E pl kd=E:=List.filter_eq_self.mpr λe a=>by simp[(h e a).1,(h e a).2]
def YO:∀ e∈yK p pl r x,e.pl=pl/\e.kd=kdR r:=by
 intro e a;cases r with
 | many b=>obtain⟨t,_,rfl⟩:=M5.mp a;exact⟨rfl,rfl⟩
 | one k w=>rw[M7.mp a];exact⟨rfl,rfl⟩
 | lend w j=>rw[M7.mp a];exact⟨rfl,rfl⟩
theorem zP:∀{R:List Ru}{s:Int}{x:Fl},∀ e∈yE p s R x,s<=e.pl
 | [],_,_,e,a=>by simp[yE] at a
 | r::R,s,x,e,a=>by
  rw[yE] at a;rcases N1.mp a with a | a
  ·exact Int.le_of_eq (YO e a).1.symm
  ·have:=zP e a;lia
theorem Vy:∀{Q:List W2}{A:List Int}{k:Nat}{c:Int},∀ e∈yH k Q A c,e.kd=J4
 | [],_,_,_,e,b=>by simp[yH] at b
 | _::_,[],_,_,e,b=>by simp[yH] at b
 | q::Q,a::A,k,c,e,b=>by
  rw[yH] at b;rcases M4.mp b with rfl | b
  ·rfl
  ·exact Vy e b
theorem Yn:∀{G:List WG}{k:Nat}{x:Fl},∀ e∈yG k G x,e.kd=yS
 | [],_,_,e,a=>by simp[yG] at a
 | g::G,k,x,e,a=>by
  rw[yG] at a;rcases M4.mp a with rfl | a
  ·rfl
  ·exact Yn e a
noncomputable def nds(E:List En):List Int:=E.map (·.nd)
noncomputable def gts(E:List En):List Int:=E.map (·.gt)
def wg(a:0<=c)(h:∀ v∈ns,0<=v):(ns.sum=(jy ns c).sum)↔jy ns c=ns:=by
 refine⟨λe=>?_,λe=>by rw[e]⟩;unfold jy at *;split at e
 ·rename_i q;rw[if_pos q]
 ·rename_i q;have:=(jbO a ∅ h).2
  lia
def jhi(j:RuOk p.C p.P p.oth r)(k:FlB p x):(vW p pl r x).sv=x.sv++if(0<(nds<|yK p pl r x).sum/\(nds<|yK p pl r x).sum=(gts<|yK p pl r x).sum)/\(kdR r=ql\/kdR r=jI\/kdR r=yw) then(yK p pl r x).map (·.nm) else []:=by
 have one:(∀ a,r≠.many a)->yK p pl r x=[enR p pl r x]->(YL p pl r x).sv=x.sv++if(0<(nds<|yK p pl r x).sum/\(nds<|yK p pl r x).sum=(gts<|yK p pl r x).sum)/\(kdR r=ql\/kdR r=jI\/kdR r=yw) then(yK p pl r x).map (·.nm) else []:=λm e=>by
  have f:kdR r≠jI:=by cases j<;>first | exact absurd rfl (m _) | simp[kdR]
  have g:=qA p (kdR r) (nmR r) (got (ndF p r x) x.cash) {x with cash:=x.cash-got (ndF p r x) x.cash,en:=x.en++[enR p pl r x]};have s1:(nds<|yK p pl r x).sum=ndF p r x:=by rw[e];simp[nds,enR]
  have h:(gts<|yK p pl r x).sum=got (ndF p r x) x.cash:=by rw[e];simp[gts,enR]
  have d:(xa p pl r x).sv=x.sv:=g.2.1;rw[s1,h,e];unfold YL srv;by_cases q:isP (kdR r)=true/\got (ndF p r x) x.cash=ndF p r x/\0<ndF p r x
  ·have n:=X6 q.1;rw[if_pos q,if_pos ⟨⟨q.2.2,q.2.1.symm⟩,n.imp id .inr⟩];show(xa p pl r x).sv++_=_;rw[d];rfl
  ·rw[if_neg q,if_neg λz=>q ⟨X4<|z.2.imp id λy=>y.resolve_left f,z.1.2.symm,z.1.1⟩,d,M9]
 cases j with
 | share o w s=>
  rename_i a;have q:=jlE k s o;have i:∀ v∈a.map x.ow,0<=v:=λv t=>(q.ns v t).1;have b:(shT a x).map (·.2)=(a.map x.ow).zip (jy (a.map x.ow) x.cash):=Jy (by rw[List.length_zip,q.gl];simp);have s1:nds (yK p pl (.many a) x)=a.map x.ow:=by
   show((shT a x).map (shE pl)).map (·.nd)=_;have:((shT a x).map (shE pl)).map (·.nd)=((shT a x).map (·.2)).map (·.1):=by rw[U0,U0];rfl
   rw[this,b];exact Qj (by rw[q.gl];simp)
  have h:gts (yK p pl (.many a) x)=jy (a.map x.ow) x.cash:=by
   show((shT a x).map (shE pl)).map (·.gt)=_;have:((shT a x).map (shE pl)).map (·.gt)=((shT a x).map (·.2)).map (·.2):=by rw[U0,U0];rfl
   rw[this,b];exact Jy (by rw[q.gl];simp)
  have d:(yK p pl (.many a) x).map (·.nm)=a:=by
   show((shT a x).map (shE pl)).map (·.nm)=_;rw[U0];exact q.t1
  rw[s1,h,d];show(if shB a x=true then x.sv++a else x.sv)=_;have u:=wg k.c0 i;have l:shB a x=true↔(0<(a.map x.ow).sum/\(a.map x.ow).sum=(jy (a.map x.ow) x.cash).sum):=by
   unfold shB;rw[L9,decide_eq_true_iff,decide_eq_true_iff,u]
  by_cases z:shB a x=true
  ·rw[if_pos z,if_pos ⟨l.mp z,.inr<|.inl rfl⟩]
  ·rw[if_neg z,if_neg λy=>z<|l.mpr y.1,M9]
 | rest c=>exact one (λ_ z=>by cases z) rfl
 | pay c=>exact one (λ_ z=>by cases z) rfl
 | repay c=>exact one (λ_ z=>by cases z) rfl
 | fill c=>exact one (λ_ z=>by cases z) rfl
 | back c=>exact one (λ_ z=>by cases z) rfl
 | lend c=>exact one (λ_ z=>by cases z) rfl
theorem Vi{p:PoolS}{o:OrdS}(n:Int)  {E:List En}(U:jc OO (.int 1)=‹o.parts.map e2›) (hn:n=(o.parts.length:Int)) (W:E.length<=900):∀{R:List Ru}{k:Nat}{x:Fl}{pre post:List En}{o3 o4 o5 o6 o7:Option D},E=pre++(yE p (n+k) R x++post)->(∀ e∈pre,e.kd=J4\/e.pl<n+k)->(∀ e∈post,e.kd=yS)->(∀ r∈R,RuOk p.C p.P p.oth r)->FlB p x->FlL R.length x ->
  ∃ o3' o4' o5' o6' o7':Option D,yB (gT 2<|gC (jd [] 3)<|gC (jd [] 4) gN) yg (yo k<|R.map eRu) [some OO,‹E.map e5›,↑(x.sv.map D.str),o3,o4,o5,o6,o7]=some (.nx [some OO,‹E.map e5›,↑((jS p (n+k) R x).sv.map D.str),o3',o4',o5',o6',o7'])
 | [],k,x,pre,post,o3,o4,o5,o6,o7,_,_,_,_,_,_=>⟨o3,o4,o5,o6,o7,rfl⟩
 | r::R,k,x,pre,post,o3,o4,o5,o6,o7,X,h1,h2,hR,kb,kl=>by
  have m:=hR r (by simp);have H:=jk5 m;rw[yE] at X;have hM:fil E (n+k) (kdR r)=yK p (n+k) r x:=by
   rw[X];unfold fil;rw[List.filter_append,List.filter_append,List.filter_append];have a:fil pre (n+k) (kdR r)=[]:=wF λe g=>by
    rcases h1 e g with z | z
    ·right;rw[z];intro y;rw[<- y] at H;exact absurd H.2.2 (by decide)
    ·left;lia
   have b:fil (yK p (n+k) r x) (n+k) (kdR r)=yK p (n+k) r x:=jhX YO;have c:fil (yE p (n+k+1) R<|vW p (n+k) r x) (n+k) (kdR r)=[]:=wF λe g=>by have:=zP e g;left;lia
   have d:fil post (n+k) (kdR r)=[]:=wF λe g=>by right;rw[h2 e g];intro y;rw[<- y] at H;exact absurd H.2.1 (by decide)
   unfold fil at a b c d;rw[a,b,c,d];simp
  have u:n+((k+1:Nat):Int)=n+k+1:=by lia
  have sv:=jhi (pl:=n+k) m kb;have Y:=JY p (n+k) m kl;have rl:=VP (p:=p) (pl:=n+k) (x:=x) m;have ks:=kl.sv;have ks2:x.sv.length<=900:=by lia
  obtain⟨o3',o4',o5',o6',o7',e⟩:=Vi n U hn W (R:=R) (k:=k+1) (x:=vW p (n+k) r x) (pre:=pre++yK p (n+k) r x) (post:=post) (o3:=some<|.int k) (o4:=some<|eRu r) (o5:=↑((yK p (n+k) r x).map e5)) (o6:=some<|.int (nds<|yK p (n+k) r x).sum) (o7:=some<|.bl<|decide<|0<(nds<|yK p (n+k) r x).sum/\(nds<|yK p (n+k) r x).sum=(gts<|yK p (n+k) r x).sum) (by rw[u,X];simp) (λe g=>by
   rcases N1.mp g with g | g
   ·exact(h1 e g).imp id λz=>by lia
   ·right;rw[(YO e g).1];lia) h2 (λq Z=>hR q<|by simp[Z]) (YN m kb) Y
  refine⟨o3',o4',o5',o6',o7',?_⟩;have s:jc (eRu r) (.int 0)=some (.str<|kdR r):=by cases r<;>rfl
  have lp:vB [.lst false<|o.parts.map e2]=some (.int n):=by rw[hn];simp
  have h:yQ (jd [] 0) (Qf (je<|p2 vC (p2 jc (pV 0)<|pI 0)<|p2 jq (pCB vB #[p2 jc (pV 1)<|pI 1])<|pV 2)<|je<|p2 vC (p2 jc (pV 0)<|pI 1)<|p2 jc (pV 3)<|pI 0) (pF<|pV 0) (E.map e5) [none,some OO,some<|.int k,some<|eRu r]=some ((yK p (n+k) r x).map e5):=by
   rw[<- hM];refine Yh (l:=E) (en:=e5) (λρ=>∃ z,ρ=[z,some OO,some<|.int k,some<|eRu r]) ?_ ⟨none,rfl⟩;rintro q Z ρ ⟨z,rfl⟩;have j0:jc (e5 q) (.int 0)=some (.int q.pl):=rfl;have j1:jc (e5 q) (.int 1)=some (.str q.kd):=rfl;have fq:frz (e5 q)=true:=rfl;refine⟨[some<|e5 q,some OO,some<|.int k,some<|eRu r],rfl,?_,by simp[fq],_,rfl⟩;generalize e5 q=V,eRu r=RR,o.parts.map e2=PS at *;by_cases z:q.pl=n+k
   ·simp[U,lp,s,j0,j1,z,-jB]
   ·simp[U,lp,s,j0,j1,z,-jB]
  generalize yK p (n+k) r x=M at *;have cM:∀{f:En->D}{j:Int},(∀ q:En,jc (e5 q) (.int j)=some (f q)/\frz (f q)=true)->yQ (jd [] 0) qT (pF<|p2 jc (pV 0)<|pI j) (M.map e5) [none]=some (M.map f):=λ{f j} hf=>by
   refine ya (l:=M) (en:=e5) rfl (λρ=>∃ z,ρ=[z]) ?_ ⟨none,rfl⟩;rintro q Z ρ ⟨z,rfl⟩;refine⟨[some<|e5 q],rfl,?_,_,rfl⟩;have:=hf q;generalize e5 q=V at *;simp[this.1,this.2]
  have v:=cM (f:=λq=>.int q.nd) (j:=3) λq=>⟨rfl,rfl⟩;have w:=cM (f:=λq=>.int q.gt) (j:=4) λq=>⟨rfl,rfl⟩;have F:=cM (f:=λq=>.str q.nm) (j:=2) λq=>⟨rfl,rfl⟩;have e3:(M.map λq=>D.int q.nd)=(nds M).map D.int:=by unfold nds;rw[U0];rfl
  have e4:(M.map λq=>D.int q.gt)=(gts M).map D.int:=by unfold gts;rw[U0];rfl
  have e5':(M.map λq=>D.str q.nm)=(M.map (·.nm)).map D.str:=by rw[U0];rfl
  rw[e3] at v;rw[e4] at w;rw[e5'] at F;have I:=Y9 true<|nds M;have J:=Y9 true<|gts M;have K:=J7 E;have L:=J7 M;have N:=jF (M.map (·.nm));have O:lim (E.map e5).length=true:=jb (by rw[L0];lia);have Q:lim (M.map e5).length=true:=jb (by rw[L0];lia);have hl:(M.map (·.nm)).length<=10:=by rw[L0];exact rl
  have S:lim (x.sv.length+(M.map (·.nm)).length)=true:=jb ∅;have i:Jf false (.str<|kdR r) (.tup [.str ql,.str jI,.str yw])=some (.bl<|decide<|kdR r=ql\/kdR r=jI\/kdR r=yw):=by cases m<;>rfl
  have hb:yg [some OO,‹E.map e5›,↑(x.sv.map D.str),some<|.int k,some<|eRu r,o5,o6,o7]=some (.nx [some OO,‹E.map e5›,↑((vW p (n+k) r x).sv.map D.str),some<|.int k,some<|eRu r,↑(M.map e5),some<|.int (nds M).sum,some<|.bl<|decide<|0<(nds M).sum/\(nds M).sum=(gts M).sum]):=by
   rw[sv];generalize(nds M).sum=a at *;generalize(gts M).sum=b at *;generalize(nds M).map D.int=A at *;generalize(gts M).map D.int=B at *;generalize E.map e5=EE,eRu r=RR,o.parts.map e2=PS,M.map (·.nm)=NM,M.map e5=MM at *;by_cases t:0<a
   ·by_cases G:a=b
    ·by_cases T:kdR r=ql\/kdR r=jI\/kdR r=yw
     ·rw[if_pos ⟨⟨t,G⟩,T⟩,N4];subst G;simp[yg,jfc,u9,s,h,v,w,F,I,J,K,L,N,O,Q,S,i,t,T,jO,jb,-JU]
     ·rw[if_neg λz=>T z.2,M9];subst G;simp[yg,jfc,u9,s,h,v,w,F,I,J,K,L,N,O,Q,S,i,t,T,jO,jb,-JU]
    ·rw[if_neg λz=>G z.1.2,M9];simp[yg,jfc,u9,s,h,v,w,F,I,J,K,L,N,O,Q,S,i,t,G,jO,jb,-JU]
   ·rw[if_neg λz=>t z.1.1,M9];simp[yg,jfc,u9,s,h,v,w,F,I,J,K,L,N,O,Q,S,i,t,jO,jb,-JU]
  rw[u] at e;rw[L4,yo,lpE ?_ hb,e,jS];rfl
theorem Ku:∀(k:Nat) (G:List WG) (x:Fl),(yp k G x).sv=x.sv
 | _,[],x=>rfl
 | k,g::G,x=>by rw[yp,Ku];rfl
def jbr{p:PoolS}(h:PoolOk p)(a:o∈p.ords)  (k:BkOk p b) {c:Int}{ln:LN}(d:ln.length<=50) (f:∀ r∈ln,0<=r.2) (g:0<=c) (j:c<=10 ^ 20):vZ [yR o,.lst false<|(qp p o b c ln).map e5]=↑((qg p o b c ln).sv.map D.str):=by
 have l:=h.ords o a;obtain⟨m,n,q,_,_⟩:=Qg h a k d f g j;have s:jc (yR o) (.int 1)=‹o.parts.map e2›:=rfl;have t:jc (yR o) (.int 2)=‹o.rules.map eRu›:=rfl;have G:=uh (b:=b) (c:=c) (ln:=ln) h a;have i:(o.parts.length:Int)+((0:Nat):Int)=o.parts.length:=by simp
 obtain⟨u,v,w,y,z,e⟩:=Vi (p:=p) (o:=o) (o.parts.length:Int) (OO:=yR o) (E:=qp p o b c ln) s rfl ∅ (R:=o.rules) (k:=0) (x:=qk o b c ln) (pre:=yH 0 o.parts (ji o.parts c).1 c) (post:=yG 0 p.grds<|jS p o.parts.length o.rules<|qk o b c ln) (o3:=none) (o4:=none) (o5:=none) (o6:=none) (o7:=none) (by rw[i];rfl) (λe A=>.inl<|Vy e A) Yn l.rules m n;rw[i,q] at e;have B:(qg p o b c ln).sv=(jS p o.parts.length o.rules<|qk o b c ln).sv:=Ku _ _ _;rw[B];have C:=JT o.rules;have F:=KO o.rules;generalize(jS p o.parts.length o.rules<|qk o b c ln).sv.map D.str=SV at *;generalize yR o=O,o.rules.map eRu=RS at *;generalize(qp p o b c ln).map e5=EE at *;simp only[List.map_nil] at e;simp[vZ,jD,Yw,t,C,F,e,jb]
def alk(n:Nat)(d:D):Prop:=yf n [d,d]=some (.bl true)
def wx(n:Nat)(i:Int):alk (n+1) (.int i):=by
 unfold alk yf;have a:jaV (.int i) .non=some (.bl false):=rfl;simp[jD,vS,YK,a]
def uI(m:∀(i:Nat) (x:D),l[i]?=some x->jc d (.int<|0+(i:Int))=some x)(j:frzs l=true)(h:∀ x∈l,alk n x):∃ o2,yB (jd [] 2) (vJ<|yf n) (qj 0 l.length) [some d,some d,none]=some (.nx [some d,some d,o2]):=by
 obtain⟨p,e,o2,rfl⟩:=yb (G:=jd [] 2) (f:=vJ<|yf n) (xs:=qj 0 l.length) (λi ρ=>∃ o2,ρ=[some d,some d,o2]) (by
  rintro i x ρ a ⟨o2,rfl⟩;obtain⟨rfl,hi⟩:=vH a;have o:l[i]?=some l[i]:=X8 hi;have b:=m i _ o;have k:=List.getElem_mem hi;have c:fz l[i]=l[i]:=kj _ (by rw[YS] at j;exact List.all_eq_true.mp j _ k);have g:yf n [l[i],l[i]]=some (.bl true):=h _ k;refine⟨_,_,rfl,.inl ?_,some<|.int<|0+(i:Int),rfl⟩;simp[vJ,b,c,g,-Int.zero_add]) (ρ:=[some d,some d,none]) ⟨none,rfl⟩
 exact⟨o2,e⟩
def jcx(c:frzs l=true)(g:l.length<=1000)(h:∀ x∈l,alk n x):alk (n+1) (.lst o l):=by
 unfold alk yf;obtain⟨k,e⟩:=uI (d:=.lst o l) (λi x b=>by rw[jdv ∅ (by have:=(L8.mp b).1;lia),show(0+(i:Int)).toNat=i by lia];exact b) c h;have f:jaV (.lst o l) .non=some (.bl false):=rfl;have a:VT [.int (l.length:Int)]=some (qj 0 l.length):=by
  have:=vv (j:=(l.length:Int)) ∅ ∅;simpa using this
 simp[jD,vS,YK,f,a,e]
def xm(c:frzs l=true)(g:l.length<=1000)(h:∀ x∈l,alk n x):alk (n+1) (.tup l):=by
 unfold alk yf;obtain⟨k,e⟩:=uI (d:=.tup l) (λi x b=>by rw[jet ∅ (by have:=(L8.mp b).1;lia),show(0+(i:Int)).toNat=i by lia];exact b) c h;have f:jaV (.tup l) .non=some (.bl false):=rfl;have a:VT [.int (l.length:Int)]=some (qj 0 l.length):=by
  have:=vv (j:=(l.length:Int)) ∅ ∅;simpa using this
 simp[jD,vS,YK,f,a,e]
def xV(n:Nat)(i:List Nat):alk (n+1) (.str i):=by
 unfold alk yf;have a:jaV (.str i) .non=some (.bl false):=rfl;simp[jD,vS,YK,a]
def ui(n:Nat)(l:List W2)(a:l.length<=100):alk (n+3) (.lst false<|l.map e2):=by
 refine jcx (jv l) (by rw[L0];lia) λd hd=>?_;obtain⟨q,_,rfl⟩:=M5.mp hd;refine xm rfl (by simp) λd hd=>?_;simp only[M4,List.not_mem_nil,or_false] at hd;rcases hd with rfl | rfl
 ·exact xV _ _
 ·exact wx _ _
def jco(b:BkS):v9 [j8 false b]=some (j8 true b):=by
 have a:jc (j8 false b) (.int 0)=‹b.S.map e2›:=rfl;have c:jc (j8 false b) (.int 1)=‹b.W.map e2›:=rfl;have d:jc (j8 false b) (.int 2)=‹b.R.map e2›:=rfl;have e:jc (j8 false b) (.int 3)=‹b.L.map e2›:=rfl;have f:jc (j8 false b) (.int 4)=some (.int b.z):=rfl;show _=some (D.tup [.lst true<|b.S.map e2,.lst true<|b.W.map e2,.lst true<|b.R.map e2,.lst true<|b.L.map e2,.int b.z]);have g:=jv b.S;have h:=jv b.W;have i:=jv b.R;have j:=jv b.L;generalize j8 false b=BB at *;simp[v9,jD,Ys,a,c,d,e,f,g,h,i,j,jb]
def jbs(h:PoolOk p)(k:BkOk p b)(o:Bool)(n:Nat):okE (n+3) (j8 o b)=true:=by
 have w:∀{l:List W2}{C:W4},l.map (·.1)=C->(∀ c∈C,Wd c)->∀ q∈l,Wd q.1:=λe a q g=>a _<|e▸M5.mpr ⟨q,g,rfl⟩;have d:∀ c∈p.C,Wd c:=λc a=>by obtain⟨t,f,rfl⟩:=M5.mp a;exact(h.told t f).w
 have i:∀ c∈p.P,Wd c:=λc a=>by obtain⟨t,f,rfl⟩:=M5.mp a;exact(h.marks t f).1
 have j:okE (n+2) (.lst o<|b.S.map e2)=true:=Y7 (w k.S d) n;have m:okE (n+2) (.lst o<|b.W.map e2)=true:=Y7 (w k.W d) n;have r:okE (n+2) (.lst o<|b.R.map e2)=true:=Y7 (w k.R d) n;have s:okE (n+2) (.lst o<|b.L.map e2)=true:=Y7 (w k.L i) n;show kJ (n+2) [.lst o<|b.S.map e2,.lst o<|b.W.map e2,.lst o<|b.R.map e2,.lst o<|b.L.map e2,.int b.z]=true;simp[kJ,j,m,r,s]
theorem VM{f:List Nat->Int}{sv:W4}{a0 a1 a7 a8:Option D}:∀{S R acc:List W2}{o4 o5 o6:Option D},S.map (·.1)=R.map (·.1)->(∀ q∈S,f q.1=q.2)->acc.length+R.length<=900 ->
  ∃ o4' o5' o6':Option D,yB (gT 2<|gC (jd [] 4)<|gC (jd [] 5) gN) yA (QM (S.map e2)<|R.map e2) [a0,a1,‹sv.map D.str›,↑(acc.map e2),o4,o5,o6,a7,a8]=some (.nx [a0,a1,‹sv.map D.str›,↑((acc++R.map λq:W2=>(q.1,if 0<f q.1/\q.1∉sv then q.2+1 else 0)).map e2),o4',o5',o6',a7,a8])
 | [],[],acc,o4,o5,o6,_,_,_=>⟨o4,o5,o6,by simp[QM]⟩
 | [],_::_,_,_,_,_,h,_,_=>by simp at h
 | _::_,[],_,_,_,_,h,_,_=>by simp at h
 | s::S,r::R,acc,o4,o5,o6,h,l,m=>by
  rw[M0] at m;rw[L4,L4] at h;injection h with h1 h2;have n:f r.1=s.2:=by rw[<- h1];exact l s (by simp)
  have d:∃ o6':Option D,yA [a0,a1,‹sv.map D.str›,↑(acc.map e2),some<|e2 s,some<|e2 r,o6,a7,a8]=some (.nx [a0,a1,‹sv.map D.str›,↑((acc++[(r.1,if 0<f r.1/\r.1∉sv then r.2+1 else 0)]).map e2),some<|e2 s,some<|e2 r,o6',a7,a8]):=by
   have g:jc (e2 s) (.int 1)=some (.int s.2):=rfl;have i:jc (e2 r) (.int 0)=some (.str r.1):=rfl;have j:jc (e2 r) (.int 1)=some (.int r.2):=rfl;have hi:=jb6 true false r.1 sv;have k:lim acc.length=true:=jb ∅;rw[N4,List.map_singleton,n];generalize sv.map D.str=SV at *;by_cases a:0<s.2
   ·by_cases c:r.1∈sv
    ·exact⟨some<|.bl false,by
      rw[if_neg λz=>z.2 c];show _=some (Out.nx [a0,a1,‹SV›,↑(acc.map e2++[.tup [.str r.1,.int 0]]),some<|e2 s,some<|e2 r,some<|.bl false,a7,a8]);generalize e2 s=ES at *;generalize e2 r=ER at *;simp[yA,g,i,j,hi,a,c,k,jb]⟩
    ·exact⟨some<|.bl true,by
      rw[if_pos ⟨a,c⟩];show _=some (Out.nx [a0,a1,‹SV›,↑(acc.map e2++[.tup [.str r.1,.int<|r.2+1]]),some<|e2 s,some<|e2 r,some<|.bl true,a7,a8]);generalize e2 s=ES at *;generalize e2 r=ER at *;simp[yA,g,i,j,hi,a,c,k,jb]⟩
   ·exact⟨some<|.bl false,by
     rw[if_neg λz=>a z.1];show _=some (Out.nx [a0,a1,‹SV›,↑(acc.map e2++[.tup [.str r.1,.int 0]]),some<|e2 s,some<|e2 r,some<|.bl false,a7,a8]);generalize e2 s=ES at *;generalize e2 r=ER at *;simp[yA,g,i,j,hi,a,k,jb]⟩
  obtain⟨o6',o⟩:=d;obtain⟨o4',o5',b,e⟩:=VM (f:=f) (sv:=sv) (a0:=a0) (a1:=a1) (a7:=a7) (a8:=a8) (S:=S) (R:=R) (acc:=acc++[(r.1,if 0<f r.1/\r.1∉sv then r.2+1 else 0)]) (o4:=some<|e2 s) (o5:=some<|e2 r) (o6:=o6') h2 (λq p=>l q<|by simp[p]) (by rw[N3,List.length_singleton];lia);refine⟨o4',o5',b,?_⟩;rw[L4,L4,QM,lpE ?_ o,e]
  ·rw[List.append_assoc];rfl
  ·rfl
def jbN(h:PoolOk p){b:BkS}(k:BkOk p b){x:Fl}  : kh [jE p false x l,j8 false b,.lst false<|x.sv.map D.str]=some (.tup [.lst false<|(sz' p.C x.sz).map e2,.lst false<|(sz' p.C x.ow).map e2,.lst false<|(JK b.S x.sv b.R).map e2,.lst true<|(sz' p.P x.lv).map e2,.int b.z]):=by
 obtain⟨Y,Z,lR,lV⟩:=k.len h;have t2:=h.told2;have m2:=h.marks2;obtain⟨g,i,j,e⟩:=VM (f:=fnOf b.S) (sv:=x.sv) (a0:=some<|jE p false x l) (a1:=some<|j8 false b) (a7:=none) (a8:=none) (S:=b.S) (R:=b.R) (acc:=[]) (o4:=none) (o5:=none) (o6:=none) (k.S.trans k.R.symm) (λq c=>Kg (by rw[k.S];exact h.toldn) c) (by simp;lia);have m:[]++(b.R.map λq=>(q.1,if 0<fnOf b.S q.1/\q.1∉x.sv then q.2+1 else 0))=JK b.S x.sv b.R:=rfl;rw[m,List.map_nil] at e;have a:∀{S:List W2}{C:W4}{f:List Nat->Int}{w:List Nat},S.map (·.1)=C->jr (jE p false x l) (.str w)=some (dct false C f)->yQ (gT 2<|gC (jd [] 0)<|gC (jd [] 1) gN) qT (vh #[pF<|pV 0,pF<|p2 jr (p2 jr (pV 2)<|pS w)<|pV 0]) (S.map e2) [none,none,some<|jE p false x l]=some ((sz' C f).map e2):=λ{S C f w} d hd=>by
  have n:(sz' C f).map e2=S.map λq=>.tup [.str q.1,.int<|f q.1]:=by rw[<- d,sz',U0,U0];rfl
  rw[n];refine ya (l:=S) (en:=e2) rfl (λρ=>∃ u v,ρ=[u,v,some<|jE p false x l]) ?_ ⟨none,none,rfl⟩;rintro q c ρ ⟨u,v,rfl⟩;have r:q.1∈C:=d▸M5.mpr ⟨q,c,rfl⟩;have s:=ye (o:=false) (f:=f) r;refine⟨[some<|.str q.1,some<|.int q.2,some<|jE p false x l],rfl,?_,_,_,rfl⟩;generalize jE p false x l=S,dct false C f=DD at *;simp[hd,s,jb]
 have c1:=a k.S jgp;have t:=a k.W jdc;have y:=a k.L jeU;have A:jc (j8 false b) (.int 0)=‹b.S.map e2›:=rfl;have B:jc (j8 false b) (.int 1)=‹b.W.map e2›:=rfl;have E:jc (j8 false b) (.int 2)=‹b.R.map e2›:=rfl;have F:jc (j8 false b) (.int 3)=‹b.L.map e2›:=rfl;have G:jc (j8 false b) (.int 4)=some (.int b.z):=rfl;have H:=jv b.S;have I:=jv b.W;have J:=jv b.R;have K:=jv b.L;have g1:=yY b.S;have g3:=yY b.R;have M:=jv<|sz' p.C x.sz;have N:=jv<|sz' p.C x.ow;have O:=jv<|JK b.S x.sv b.R;have s1:=yY<|sz' p.C x.sz;have Q:=yY<|sz' p.C x.ow;have T:=yY<|JK b.S x.sv b.R;have U:lim (b.S.map e2).length=true:=jb (by rw[L0];lia);have V:lim (b.W.map e2).length=true:=jb (by rw[L0];lia);have X:lim (b.L.map e2).length=true:=jb (by rw[L0];lia);generalize(sz' p.C x.sz).map e2=A1 at *;generalize(sz' p.C x.ow).map e2=A2 at *;generalize(sz' p.P x.lv).map e2=A3 at *;generalize(JK b.S x.sv b.R).map e2=A4 at *;generalize b.S.map e2=B1,b.W.map e2=B2,b.R.map e2=B3,b.L.map e2=B4,j8 false b=BB,jE p false x l=SS,x.sv.map D.str=SV at *;simp[kh,jD,YA,A,B,E,F,G,H,I,J,K,g1,g3,M,N,O,s1,Q,T,U,V,X,c1,t,y,e,jO,fz,fzs,frz,frzs,jb]
def xf(h:PoolOk p)(i:o∈p.ords)  : ((qg p o b c ln).en.filter λe=>!(e.kd==Jm))=qp p o b c ln:=by
 have j:=h.ords o i;have keep:∀{E:List En},(∀ e∈E,e.kd≠Jm)->(E.filter λe=>!(e.kd==Jm))=E:=λd=>List.filter_eq_self.mpr λe h=>by simp[d e h]
 have a:∀ e∈yH 0 o.parts (ji o.parts c).1 c,e.kd≠Jm:=λe d=>by rw[Vy e d];decide
 have g:∀{x:Fl},∀ e∈yG 0 p.grds x,e.kd≠Jm:=λ{x} e d=>by rw[Yn e d];decide
 have r:∀{R:List Ru}{s:Int}{x:Fl},(∀ r∈R,RuOk p.C p.P p.oth r)->∀ e∈yE p s R x,e.kd≠Jm:=by
  intro R
  induction R with
  | nil=>intro s x _ e d;simp[yE] at d
  | cons q R k=>
   intro s x f e d;rw[yE] at d;rcases N1.mp d with d | d
   ·rw[(YO e d).2];have:=f q (by simp);cases this<;>simp[kdR]
   ·exact k (λz l=>f z<|by simp[l]) e d
 have m:(qg p o b c ln).en=((qk o b c ln).en++yE p o.parts.length o.rules (qk o b c ln))++yG 0 p.grds (jS p o.parts.length o.rules<|qk o b c ln):=by
  show(yp 0 p.grds<|jS p o.parts.length o.rules<|qk o b c ln).en=_;rw[JA,Kb]
 have e2:((qk o b c ln).en.filter λe=>!(e.kd==Jm))=yH 0 o.parts (ji o.parts c).1 c:=by
  have e3:(jV 0 o.parts (ji o.parts c).1 (yi b c ln)).en=yH 0 o.parts (ji o.parts c).1 c:=by rw[KB];rfl
  unfold qk twiceF;split
  ·show(((jV 0 o.parts (ji o.parts c).1 (yi b c ln)).en++[_]).filter _)=_;rw[e3,List.filter_append,keep a];simp
  ·rw[e3,keep a]
 rw[m,List.filter_append,List.filter_append,e2,keep<|r j.rules,keep g];unfold qp;rw[List.append_assoc]
def jbu(h:PoolOk p)(f:o∈p.ords)  (k:BkOk p b)  (a:ln.length<=50) (d:∀ r∈ln,0<=r.2) (e:0<=c) (i:c<=10 ^ 20):(qg p o b c ln).en.length<=900/\(qg p o b c ln).mv.length<=100:=by
 have j:=Qg h f k a d e i;have r:=J5 p (o.parts.length:Int) o.rules (h.ords o f).rules j.2.1;have l:∀(k:Nat) (G:List WG) (x:Fl),(yp k G x).mv=x.mv:=λk G=>by
  induction G generalizing k with
  | nil=>intro x;rfl
  | cons g G m=>intro x;rw[yp,m];rfl
 have g2:=h.grds2;have n:=r.en;have q:=r.mv;refine⟨?_,?_⟩
 ·show(yp 0 p.grds<|jS p o.parts.length o.rules<|qk o b c ln).en.length<=_;rw[JA,N3,qh]
  lia
 ·show(yp 0 p.grds<|jS p o.parts.length o.rules<|qk o b c ln).mv.length<=_;rw[l]
  lia
def jkM{zs:List Int}(c:Int)(hz:zs.length<=100):JP [.lst false<|zs.map D.int,.int c]=some (.bl true):=by
 obtain⟨ns,W,hl,hw,Q⟩:=uX c (many:=12) (by decide) (by decide);have en:yc [.int c,.int 12]=↑(ns.map D.str):=W;obtain⟨p,ep,h,X⟩:=jiC hz en hl hw Q;have em:=yL (c:=c) (k:=2) (by decide) (by decide);have m0:=vE c 2;generalize kH c 2=m at em m0;have o2:=h.ord2;have t:(m%2).toNat<p.ords.length:=by lia
 have eo:jc (.lst false<|p.ords.map yR) (.int<|m%2)=some (yR p.ords[(m%2).toNat]):=by
  rw[jdv ∅ (by rw[L0];lia),List.getElem?_map,X8 t];rfl
 have j:=List.getElem_mem t;generalize p.ords[(m%2).toNat]=o at eo j;obtain⟨b,eb,k⟩:=jhN (c:=c) h;have Y:(y4 ns (some 10) none).Nodup:=u6 Q;have s:y4 ns (some 10) none=ns.drop 10:=Ka ns (by decide);have Z:p.nm∉y4 ns (some 10) none:=by
  rw[s,X];intro z;obtain⟨a,l,rfl⟩:∃ a l,ns=a::l:=by cases ns with | nil=>simp at hl | cons a l=>exact⟨a,l,rfl⟩
  rw[List.nodup_cons] at Q;exact Q.1<|List.mem_of_mem_drop<|show a∈List.drop 9 l from z
 obtain⟨ln,el,l1,l2,l3⟩:=je3 (c:=c) (p:=p) Z Y (by rw[s,List.length_drop];lia);have g:∀ r∈ln,0<=r.2:=λr hr=>by have:=(l3 r hr).2.1;lia
 have es:=jbl true ns (some 10) none;obtain⟨v,ev,T,U⟩:=jgr (c:=c) h k;have ec:=jco b;have ef:=jhk h j k (ln:=ln) l1 ∅ g T U;have hE:=uh (b:=b) (c:=v) (ln:=ln) h j;have enm:=zF (b:=b) (c:=v) (ln:=ln) h j;have est:=jfb (c:=v) (ln:=ln) h k l1 ∅;obtain⟨i,ewk⟩:=jbo h j k ∅ g T U ∅;have esv:=jbr h j k ∅ g T U;have ebh:=jbN (x:=qg p o b v ln) (l:=i) h k;have hfl:=xf (b:=b) (c:=v) (ln:=ln) h j;obtain⟨fe,fm⟩:=jbu h j k ∅ g T U;have efm:=jc9 (E:=(qg p o b v ln).en) (B:=j8 false<|j5 p b<|qg p o b v ln) (M:=.lst false<|(qg p o b v ln).mv.map eM);obtain⟨lS,lW,lR,lV⟩:=k.len h;have t2:=h.told2;have m2:=h.marks2;generalize qp p o b v ln=E,yi b v ln=x0,qg p o b v ln=x at *;have ea1:yu [j8 false<|j5 p b x,j8 false<|j5 p b x]=some (.bl true):=by
  show alk 8 _;refine xm (n:=7) (by simp[frzs,frz,jv]) (by simp) λd hd=>?_;simp only[M4,List.not_mem_nil,or_false] at hd;rcases hd with rfl | rfl | rfl | rfl | rfl
  ·exact ui 4 _ (by show(sz' p.C x.sz).length<=100;simp[sz'];lia)
  ·exact ui 4 _ (by show(sz' p.C x.ow).length<=100;simp[sz'];lia)
  ·exact ui 4 _ (by show(JK b.S x.sv b.R).length<=100;simp[JK];lia)
  ·exact ui 4 _ (by show(sz' p.P x.lv).length<=100;simp[sz'];lia)
  ·exact wx _ _
 have ea2:yu [.lst false<|x.mv.map eM,.lst false<|x.mv.map eM]=some (.bl true):=by
  show alk 8 _;refine jcx (n:=7) (jca x.mv) (by rw[L0];lia) λd hd=>?_;obtain⟨q,_,rfl⟩:=M5.mp hd;refine xm (n:=6) rfl (by simp) λd hd=>?_;simp only[M4,List.not_mem_nil,or_false] at hd;rcases hd with rfl | rfl | rfl
  ·exact xV _ _
  ·exact xV _ _
  ·exact wx _ _
 have u:yQ (jd [] 0) (je<|p2 Jg (p2 jc (pV 0)<|pI 1)<|pS [116,119,105,99,101]) (pF<|pV 0) (x.en.map e5) [none]=some (E.map e5):=by
  rw[<- hfl];refine Yh (l:=x.en) (en:=e5) (λρ=>∃ z,ρ=[z]) ?_ ⟨none,rfl⟩;rintro q hq ρ ⟨z,rfl⟩;have j1:jc (e5 q) (.int 1)=some (.str q.kd):=rfl;have fq:frz (e5 q)=true:=rfl;refine⟨[some<|e5 q],rfl,?_,by simp[fq],_,rfl⟩;generalize e5 q=V at *;simp[j1,bne]
 have fp1:fz (jX true p)=jX false p:=by
  have y:=zo p.told;have A:=yY p.marks;have F:=uA p.grds;have a4:=wU p.ords;have a5:=yr p.eats;simp[jX,fz,fzs,y,A,F,a4,a5]
 have G:=qY p;have fp:=kj _ G;have fo:=v7 o;have foz:=kj _ fo;have H:=Qb b;have I:=kj _ H;have J:=xp true b;have hbc:=J9 b;have fl1:=VH ln;have K:=jbW ln;have fl3:=jaZ ln;have j4:jc (jX false p) (.int 4)=‹p.ords.map yR›:=rfl;have i0:jc (yR o) (.int 0)=some (.str o.nm):=rfl;have b1:=jF<|y4 ns (some 10) none;have b2:=yr<|y4 ns (some 10) none;have c3:jN (ns.map D.str)=true:=kU _;have fsc:=kE zs;have fsz:=qR zs;have fk:kdD=.lst false [.str ql,.str jI,.str yw,.str kt,.str yI,.str yU,.str ql]:=rfl;have f1:fz (.tup [.lst true<|x.en.map e5,j8 true<|j5 p b x,.lst true<|x.mv.map eM])=.tup [.lst false<|x.en.map e5,j8 false<|j5 p b x,.lst false<|x.mv.map eM]:=by
  have y:=z5 x.en;have A:=wH x.mv;have F:=xp true<|j5 p b x;simp[fz,fzs,y,A,F]
 have f3:yn (.tup [.lst true<|x.en.map e5,j8 true<|j5 p b x,.lst true<|x.mv.map eM])=true:=by
  have y:jN (x.en.map e5)=true:=vz λd hd=>by obtain⟨p,_,rfl⟩:=M5.mp hd;rfl
  have A:jN (x.mv.map eM)=true:=vz λd hd=>by obtain⟨p,_,rfl⟩:=M5.mp hd;rfl
  have F:=J9<|j5 p b x;simp[yn,jN,y,A,F]
 have k0:jc (.tup [.lst true<|x.en.map e5,j8 true<|j5 p b x,.lst true<|x.mv.map eM]) (.int 0)=↑(x.en.map e5):=rfl;have k1:jc (.tup [.lst true<|x.en.map e5,j8 true<|j5 p b x,.lst true<|x.mv.map eM]) (.int 1)=some (j8 true<|j5 p b x):=rfl;have k2:jc (.tup [.lst true<|x.en.map e5,j8 true<|j5 p b x,.lst true<|x.mv.map eM]) (.int 2)=↑(x.mv.map eM):=rfl;have g1:=J7 x.en;have g2:=wH x.mv;have g3:=xp true<|j5 p b x;have g4:=Qc E;have g5:=jfB E;have g6:=J7 E;have g7:=z5 E;have g8:fz (.tup [.lst false<|(sz' p.C x.sz).map e2,.lst false<|(sz' p.C x.ow).map e2,.lst false<|(JK b.S x.sv b.R).map e2,.lst true<|(sz' p.P x.lv).map e2,.int b.z])=j8 false (j5 p b x):=by simp[j8,j5,fz,fzs,yY]
 have g9:=yr x.sv;have g20:=jF x.sv;have L:=xy p true x i;have g11:=jmC (p:=p) (x:=x) (l:=i) (o:=false);have g12:fz (jE p false x i)=jE p false x i:=xy p false x i;have g13:=jca x.mv;have g14:yn (jE p true x0 ln)=true:=by
  have c1:∀(N:W4) (f:List Nat->Int),yn (dct true N f)=true:=λN f=>by
   have:jN (N.map λn=>D.int<|f n)=true:=vz λd hd=>by obtain⟨p,_,rfl⟩:=M5.mp hd;rfl
   simp[dct,yn,this]
  have c2:jN (x0.mv.map eM)=true:=vz λd hd=>by obtain⟨p,_,rfl⟩:=M5.mp hd;rfl
  have c4:=z4 ln;unfold jE T5;simp[yn,jN,c1,c2,c4]
 have g15:jN (E.map eW)=true:=vz λd hd=>by obtain⟨p,_,rfl⟩:=M5.mp hd;rfl
 have g16:jN (x.sv.map D.str)=true:=kU _;have g17:frz (jE p false x i)=true:=by rw[<- L];exact jfK _
 have O:frz (j8 false<|j5 p b x)=true:=Qb _;have g19:=kj _ O;have q1:lim (x.en.map e5).length=true:=jb (by rw[L0];lia);have q2:vB [.lst true<|E.map e5]=some (.int (E.length:Int)):=by simp
 have q3:vB [.lst true<|E.map eW]=some (.int (E.length:Int)):=by simp
 have hne:Jg (.lst true [j8 true b,.lst true<|ln.map eR]) (.lst true [j8 false b,.lst false<|ln.map eR])=some (.bl false):=by
  have kR:kJ 18 (ln.map eR)=true:=xL λd hd=>by
   obtain⟨r,hr,rfl⟩:=M5.mp hd;obtain⟨⟨w,hwm,hk⟩,_⟩:=l3 r hr;have ww:Wd w:=hw w<|s▸hwm|>List.mem_of_mem_drop;have wn:Wd p.nm:=h.nm;have w1:Wd r.1.1/\Wd r.1.2:=by rcases hk with e | e<;>rw[e]<;>exact⟨by assumption,by assumption⟩
   show kJ 17 [.str r.1.1,.str r.1.2,.int r.2]=true;simp[kJ,qB w1.1.2,qB w1.2.2]
  have q1:=jbs h k true 16;have q2:=jbs h k false 16;refine jc5 ?_ ?_ ?_
  ·show(okE 19 (j8 true b)&&(kJ 18 (ln.map eR)&&true))=true;rw[q1,kR];rfl
  ·show(okE 19 (j8 false b)&&(kJ 18 (ln.map eR)&&true))=true;rw[q2,kR];rfl
  ·simp[fz,fzs,J,I,K]
 generalize D.tup [.lst true<|x.en.map e5,j8 true<|j5 p b x,.lst true<|x.mv.map eM]=F1,D.tup [.lst false<|x.en.map e5,j8 false<|j5 p b x,.lst false<|x.mv.map eM]=F2,D.tup [.lst false<|(sz' p.C x.sz).map e2,.lst false<|(sz' p.C x.ow).map e2,.lst false<|(JK b.S x.sv b.R).map e2,.lst true<|(sz' p.P x.lv).map e2,.int b.z]=F3 at *;generalize j8 true (j5 p b x)=BH,j8 false (j5 p b x)=BG,j8 true b=BT,j8 false b=BF,jX true p=PT,jX false p=PF',yR o=OO,p.ords.map yR=OS at *;generalize(y4 ns (some 10) none).map D.str=CC at *;generalize ns.map D.str=NN,ln.map eR=LL,zs.map D.int=ZZ,jE p true x0 ln=S0,jE p true x i=S1,jE p false x i=S2,x.en.map e5=EN,x.mv.map eM=MV,x.sv.map D.str=SV,E.map e5=E5,E.map eW=EW' at *;have h7a:jc (.lst true [BT,.lst true LL]) (.int 0)=some BT:=rfl;have h7b:jc (.lst true [BT,.lst true LL]) (.int 1)=↑LL:=rfl;simp(disch:=first | lia | (simp;done) | (simp;lia)) [JP,jD,Q3,jiN,ep,fp1,em,jC,j4,eo,fo,foz,eb,en,es,el,ev,ec,ef,ea1,ea2,fp,G,H,I,J,hbc,fl1,K,fl3,i0,b1,b2,c3,fsc,fsz,f1,f3,k0,k1,k2,g1,g2,g3,g4,g5,g6,g7,g8,g9,L,g11,g12,g13,g14,g15,g16,g17,O,g19,g20,q1,q2,q3,efm,u,enm,est,ewk,esv,ebh,hne,h7a,h7b,fz,fzs,frz,frzs,yn,jN,jO,jb,-jB]
def jif(ns:List Int)(g:ns.length<=63):∃ s:Int,qU [.lst false<|ns.map D.int]=some (.int s):=by
 obtain⟨h,e,s,a,rfl,_⟩:=yb (G:=jd [] 2) (f:=qu) (xs:=ns.map D.int) (λi ρ=>∃(s:Int) (a:Option D),ρ=[‹ns.map D.int›,some<|.int s,a]/\0<=s/\s<2147483647) (by
  rintro i x ρ b ⟨s,a,rfl,s0,s1⟩;rw[List.getElem?_map] at b;obtain⟨y,j,rfl⟩:=Option.map_eq_some_iff.mp b;refine⟨_,_,rfl,.inl ?_,(s*1000003+y+1)%2147483647,some<|.int y,rfl,N9 _<|by decide,N8 _<|by decide⟩;simp(disch:=lia) [qu,vQ,jC]) (ρ:=[‹ns.map D.int›,some<|.int 0,none]) ⟨0,none,rfl,by decide,by decide⟩
 have c:=kE ns;have d:=qR ns;refine⟨s,?_⟩;generalize ns.map D.int=NN at *;simp[qU,jD,Kl,c,d,e]
def jd5(ns:List Int)(h:ns.length<=63)(o:∀ x∈ns,Builtin.Int.intBits x<=2 ^ 20):jan [.lst false<|ns.map D.int]=some (.bl true):=by
 obtain⟨s,j⟩:=jif ns h;have d:=kE ns;have g:fzs (ns.map D.int)=ns.map D.int:=qR ns;obtain⟨p,e,a,rfl⟩:=yb (G:=jd [] 2) (f:=wv) (xs:=qj 0 4) (λi ρ=>∃ a:Option D,ρ=[‹ns.map D.int›,some<|.int s,a]) (by
  rintro i x ρ l ⟨a,rfl⟩;obtain⟨rfl,hi⟩:=vH l;have m:=yL (c:=s) (k:=700+(0+(i:Int))) ∅ ∅;have n:=jkM (zs:=ns) (kH s<|700+(0+(i:Int))) ∅;refine⟨_,_,rfl,.inl ?_,some<|.int<|0+(i:Int),rfl⟩;generalize ns.map D.int=NN at *;simp[wv,m,n,fz,d,g,-Int.zero_add]) (ρ:=[‹ns.map D.int›,some<|.int s,none]) ⟨none,rfl⟩
 have b:VT [.int 4]=some (qj 0 4):=rfl;generalize ns.map D.int=NN at *;simp[jan,jD,jja,j,fz,d,g,b,e,lim]
end K28
set_option maxHeartbeats 0
namespace K28
open PySem L2 QD
def all_mk{l:PySem.W.OpenLaw}{w:World}{K:W5}{mg:W7}{fa a:Addr}(hfa:mg "law" = some (.ref fa))(_:PySem.W.nsIn K mainGlobals "Fall" = some (some<|.ref a))(T:Txt l.prog w K mg λ_=>a):∃ fd:FuncData,(∀(s:Shared) (v:Value),BindsTo s fd ⟨[v],[]⟩ [("_law_script",v)])/\∀ base:Heap,K.In base->base.Ns mainGlobals mg->FnOk l.prog w K mg base CX0 10 fa fd ["_law_script"] (λvs H Q E=>∀ C:Addr,spP ⟨K,λ_=>C⟩ jan 1 vs H Q E):=by
 obtain⟨f',fd',F',G'⟩:=(jkB T).2.2.2.2.2.2.2.2.2.2.2.2.2.2.2.2.2.2.2.2.2.2.2.2.2.2.2.2.2.2.2.2.2.2.2.2.2.2.2.2.2;cases hfa.symm.trans F'.mgf;obtain⟨⟨oc,od,kV,doc,pm,an,cdv,ct,osl,rfl,_,_⟩,_⟩:=F'.fn;exact⟨_,λs v=>.of_eq rfl,λbase _ _=>(G' base).imp λvs H Q E h=>h a⟩
def walk{l:PySem.W.OpenLaw}{q:Program}{loose:List Str}{XP:(Str->Option Value)->Heap->Prop}{YP:World->Heap->Prop}{d:DefRec}{K:Params->PySem.W.Frag}(hn:l.most=some 63)(hdf:d.params.defaults=[])
  (hY:∀(w:World) (h:Heap),YP w h->(K w.params).In h)
  (F:∀(w:World) (mg:W7) (fa:Addr) (h:Heap),(K w.params).In h->h.Ns mainGlobals mg->mg d.name=some (.ref fa) ->
   ∃ fd:FuncData,(∀(s:Shared) (u:Value),BindsTo s fd ⟨[u],[]⟩ [("_law_script",u)])/\∀ base:Heap,(K w.params).In base->base.Ns mainGlobals mg->FnOk l.prog w (K w.params) mg base CX0 10 fa fd ["_law_script"] (λvs H Q E=>∀ C:Addr,spP ⟨K w.params,λ_=>C⟩ jan 1 vs H Q E)):
  PySem.W.WalkO q loose XP YP l.row.toRowW d [] (λf vs=>PySem.call f vs) :=
 L2.walk_ofB (n:=63) (k:=10) (x:="_law_script") (CX:=λ_=>CX0) (sp:=λw=>(λvs H Q E=>∀ C:Addr,spP ⟨K w.params,λ_=>C⟩ jan 1 vs H Q E)) hn (by decide) hdf ⟨rfl,by decide,by decide⟩ hY F (λ_ H a ns hl hb _ hS=>λC=>jk6 (jd5 ns hl hb) hS) λ_ _ _ _ _ z=>z
end K28
namespace PySem.W.Fast
def tw5520311303984320883:=0
def tw823027693439730892:=0
def tw15616483778524879246:=0
def tw10476829994502210947:=0
def tw15869160105263879840:=0
def tw8012719666843250982:=0
def tw18328673227188926852:=0
def tw10820449161684633319:=0
def tw8023422678274316037:=0
def tw5495982214873442811:=0
def tw2069278121785154114:=0
def tw7719143418591086838:=0
def tw2668061713826011786:=0
def tw11579884472467354559:=0
def tw10828602822094534474:=0
def tw16875586083826513008:=0
def tw10497348132177467325:=0
def tw9378980369667581676:=0
def tw16967079603087790979:=0
def tw8287215167467712751:=0
def tw11841782802874623300:=0
def tw4838846656271451956:=0
def tw11770583719667519782:=0
def tw3411543549476668871:=0
def tw9504595956127918239:=0
def tw4742894917068428908:=0
def tw9634930961893120304:=0
def tw8462767860884965151:=0
def tw854847390231529991:=0
def tw16577659915506439425:=0
def tw13637853809675018550:=0
def tw9247390037132697569:=0
def tw10864537331065457244:=0
def tw1661231297600732864:=0
def tw5341754932289049638:=0
def tw13358104841024479119:=0
def tw2081974041137632219:=0
def tw3678996809693730313:=0
def tw14830174801885371432:=0
def tw11230725266722413859:=0
def tw13212961454984501149:=0
def tw9518935286971829793:=0
def tw11132766640564146686:=0
def tw8789120659390670711:=0
def tw13521976479900341265:=0
def tw5021901401853185015:=0
def tw11970758417321254380:=0
def tw2079500165114656766:=0
def tw18126865330521593456:=0
def tw5271888430020423631:=0
def tw5347383926828802225:=0
def tw6724033347626861128:=0
def tw18150499234366719451:=0
def tw12783470802923740990:=0
def tw13634196320768768448:=0
def tw7121037371852684006:=0
def tw17526866484457422654:=0
def tw4710499371758482899:=0
def tw8039575373646361259:=0
def tw9119539911026404855:=0
def tw12567196417559285301:=0
def tw4207024412331504543:=0
def tw14193193285523845168:=0
def tw3964693280636852301:=0
def tw1438653119443883157:=0
def tw4436574019789945691:=0
def tw14787303528074907870:=0
def tw15008038194630734923:=0
def tw14444017367528978007:=0
def tw3125041362488049830:=0
def tw13241829323720532672:=0
def tw9620048901631790344:=0
def tw5361134912507577036:=0
def tw8326369235847654467:=0
def tw4531069120050141096:=0
def tw15242668510957169059:=0
def tw15959807671150915777:=0
def tw6136649402189247184:=0
def tw11640923634721155823:=0
def tw6933018465655880035:=0
def tw12403138802728285753:=0
def tw8143606281234474236:=0
def tw9892957059524085033:=0
def tw8465090088318477424:=0
def tw13050237399241331510:=0
def tw4764018562799036338:=0
def tw6825697349521549541:=0
def tw3962872055618996853:=0
def tw537589837501668398:=0
def tw16916184290102346547:=0
def tw9762238922078485399:=0
def tw13695079893684109530:=0
def tw16916907194541495006:=0
def tw5234059018819323200:=0
def tw4074051981784065527:=0
def tw13017426848590890934:=0
def tw1361037306929296416:=0
def tw281800370413237066:=0
def tw9802966713990613272:=0
def tw5303504164909848563:=0
end PySem.W.Fast
set_option maxHeartbeats 0
open PySem PySem.W PyProof.Rows
set_option maxRecDepth 100000 in
set_option maxHeartbeats 0 in
theorem PySem.Challenge.cw_tranchefall_k28_whole_fall_holds : PySem.Challenge.rw_tranchefall_k28_whole_fall.Holds := by
 w_on;o_law;k_head;(case hw=>w_witness2)
 k_fill
 refine K28.walk (l:=PySem.Challenge.rw_tranchefall_k28_whole_fall) rfl rfl (λw h Y=>PySem.W.kIn_of Y) ?F
 case F =>
  intro w mg fa h KX G hmg;refine' K28.all_mk hmg ?c ?t
  (case c=>k_is)
  case t =>
   constructor
   all_goals first
    | ((first | refine⟨QD.fsc,QD.hasF KX G (by k_is) (by k_is) (by k_is) (by k_is) ?_⟩ | refine⟨QD.fsc,QD.hasM (by k_is) (by k_is) (by k_is) (by k_is) (by k_is) ?_⟩);intro _ _ _ _ _ _;(repeat refine QD.uS λ_=>?_);exact QD.u0 rfl)
    | exact PySem.W.mg_none_of KX G (by k_is) | exact PySem.W.mg_of KX G (by k_is) | exact⟨by k_is,by k_is,by k_is,by k_is⟩ | k_is | (show PySem.W.findIn _ _ _=_;k_is)
