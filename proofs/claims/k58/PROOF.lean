import PyProof.Rows.All
import Wide.All
import OpenK.AllK
import Wide.FinOn
import Lean
import PyProof.EqAt
import PyProof.EqKinds
import PyProof.TupleCall
import KE.KItemsList
import KE.KRevIter
import PyProof.CollectIter
import PyProof.DictWalks
import PyProof.WalksMore
import PyProof.SumWalkG
import KE.KSortTup
import PyProof.Draws
import PySem.Challenge.RW_tranchefall_k58_steps_of_all_rules
set_option Elab.async false
set_option linter.all false
set_option maxRecDepth 100000
section
open PySem PySem.Spec PyProof.Rows
abbrev L0:=@List.length_map
abbrev L1:=@wpAny_bind
abbrev L3:=@Option.bind_some
abbrev L4:=@List.map_cons
abbrev L5:=@List.mem_cons_of_mem
abbrev L6:=@List.mem_cons_self
abbrev L7:=@Heap.get?_push_of_some
abbrev L8:=@List.getElem?_eq_some_iff
abbrev L9:=@Bool.and_eq_true
abbrev M0:=@List.length_cons
abbrev M3:=@Bool.false_ne_true
abbrev M4:=@List.mem_cons
abbrev M5:=@List.mem_map
abbrev M6:=@wpAny_pure
abbrev M7:=@List.mem_singleton
abbrev M8:=@Nat.le_refl
abbrev M9:=@List.append_nil
abbrev N0:=@Heap.lt_size
abbrev N1:=@List.mem_append
abbrev N4:=@List.size_toArray
abbrev N5:=@List.length_append
abbrev N6:=@List.map_append
abbrev N7:=@Nat.ne_of_lt
abbrev N8:=@Nat.le_trans
abbrev N9:=@Int.toNat_natCast
abbrev U0:=@Int.emod_lt_of_pos
abbrev U1:=@Int.emod_nonneg
abbrev U2:=@List.map_map
abbrev U3:=@beq_eq_false_iff_ne
abbrev U4:=@List.mem_append_right
abbrev U5:=@Nat.lt_of_lt_of_le
abbrev U6:=@Nat.zero_le
abbrev U7:=@wpAny_field
abbrev U8:=@List.zip_cons_cons
abbrev U9:=@List.count_append
abbrev X0:=@List.nodup_append
abbrev X1:=@List.foldl_cons
abbrev X2:=@decide_eq_true
abbrev X4:=@decide_eq_false
abbrev X5:=@of_decide_eq_true
abbrev X6:=@Option.some.inj
abbrev X7:=@List.nil_append
abbrev X8:=@List.getElem?_eq_getElem
abbrev X9:=@List.length_take
abbrev E1:=@Heap.get?_push_size
abbrev E2:=@Nat.lt_of_le_of_lt
end
namespace L2
open PySem PySem.Spec PyProof.Rows
abbrev Key:=Sum Int Str
def ja3:Key->Value->Bool
 | .inl k,v=>Value.isInt k v
 | .inr x,v=>Value.isStrOf x v
def jnt(w:World):Key->Int
 | .inl k=>hashInt k
 | .inr x=>hashStr w x
theorem ve:∀{k:Key}{v:Value},ja3 k v=true->(∃ i t,k=Sum.inl i/\v=Value.int i t) \/ (∃ x t,k=Sum.inr x/\v=Value.str x t)
 | .inl i,v,h=>by
  obtain⟨t,e⟩:=Value.isInt_shape (k:=i) (v:=v) h;exact .inl ⟨i,t,rfl,e⟩
 | .inr x,v,h=>by
  obtain⟨t,e⟩:=Value.isStrOf_shape (x:=x) (v:=v) h;exact .inr ⟨x,t,rfl,e⟩
theorem jeL(i:Int)(t:Tok):ja3 (.inl i) (.int i t)=true:=by simp[ja3,Value.isInt]
theorem je2(x:Str)(t:Tok):ja3 (.inr x) (.str x t)=true:=by simp[ja3,Value.isStrOf]
theorem jkA(a b:Int):decide ((Sum.inl a:Key)=Sum.inl b)=(a==b):=by
 by_cases e:a=b
 ·subst e;simp
 ·have h:¬ (Sum.inl a:Key)=Sum.inl b:=λq=>e (Sum.inl.inj q);rw[X4 h];exact(U3.mpr e).symm
theorem jll(a b:Str):decide ((Sum.inr a:Key)=Sum.inr b)=decide (a=b):=by
 by_cases e:a=b
 ·subst e;simp
 ·have h:¬ (Sum.inr a:Key)=Sum.inr b:=λq=>e (Sum.inr.inj q);rw[X4 h,X4 e]
theorem jkO(a:Int)(b:Str):decide ((Sum.inl a:Key)=Sum.inr b)=false:=X4 (λq=>nomatch q)
theorem jk9(a:Str)(b:Int):decide ((Sum.inr a:Key)=Sum.inl b)=false:=X4 (λq=>nomatch q)
def yx(prog:Program)(w:World):PySem.KeyKind prog w Key where
 is:=ja3
 hash:=jnt w
 inj:=λv a b ha hb=>by
  rcases ve ha with⟨i,t,rfl,rfl⟩ | ⟨x,t,rfl,rfl⟩
  ·rcases ve hb with⟨j,u,rfl,e⟩ | ⟨y,u,rfl,e⟩
   ·injection e with e1 _;rw[e1]
   ·exact nomatch e
  ·rcases ve hb with⟨j,u,rfl,e⟩ | ⟨y,u,rfl,e⟩
   ·exact nomatch e
   ·injection e with e1 _;rw[e1]
 byValue:=λk v h=>by
  rcases ve h with⟨i,t,rfl,rfl⟩ | ⟨x,t,rfl,rfl⟩<;>rfl
 pyHash:=λhv h=>by
  rcases ve hv with⟨i,t,rfl,rfl⟩ | ⟨x,t,rfl,rfl⟩
  ·exact wpAny_pyHash_int h
  ·exact wpAny_pyHash_str h
 eqBool:=λhu hv h=>by
  rcases ve hu with⟨i,t,rfl,rfl⟩ | ⟨x,t,rfl,rfl⟩
  ·rcases ve hv with⟨j,u,rfl,rfl⟩ | ⟨y,u,rfl,rfl⟩
   ·rw[jkA] at h;exact wpAny_eqBool_int h
   ·rw[jkO] at h;exact SeqAt.EqAt.int_str i t y u _ _ _ _ h
  ·rcases ve hv with⟨j,u,rfl,rfl⟩ | ⟨y,u,rfl,rfl⟩
   ·rw[jk9] at h;exact SeqAt.EqAt.str_int x t j u _ _ _ _ h
   ·rw[jll] at h;exact wpAny_eqBool_str h
 «strs»:=λk x t v h=>by
  rcases ve h with⟨i,u,rfl,e⟩ | ⟨y,u,rfl,e⟩
  ·exact nomatch e
  ·injection e with e1 _;subst e1;cases v<;>rfl
theorem jcf(prog:Program)(w:World)(k:Key)(v:Value):(yx prog w).is k v=ja3 k v:=rfl
theorem ja6(prog:Program)(w:World)(i:Int)(t:Tok):(yx prog w).is (.inl i) (.int i t)=true:=jeL i t
theorem jaU(prog:Program)(w:World)(x:Str)(t:Tok):(yx prog w).is (.inr x) (.str x t)=true:=je2 x t
inductive V where
 | non | bl (b:Bool) | int (i:Int) | str (x:Str) | byt (b:Array UInt8) | flt (b:UInt64) | ref (a:Addr) | ty (n:String)
 deriving DecidableEq
def RelV:V->Value->Prop
 | .non,u=>u=Value.none
 | .bl b,u=>u=Value.bool b
 | .int i,u=>∃ t,u=Value.int i t
 | .str x,u=>∃ t,u=Value.str x t
 | .byt b,u=>∃ t,u=Value.bytes b t
 | .flt b,u=>∃ t,u=Value.float b t
 | .ref a,u=>u=Value.ref a
 | .ty n,u=>u=Value.type n
abbrev Vals:List V->List Value->Prop:=Paired RelV
theorem Vals.length  (r:Vals xs us):xs.length=us.length:=Paired.length r
theorem Vals.get:∀{xs:List V}{us:List Value}{i:Nat}{x:V},Vals xs us->xs[i]?=some x->∃ u,us[i]?=some u/\RelV x u
 | _,_,_,_,.nil,e=>by simp at e
 | _,_,0,_,.cons r _,e=>by simp at e;subst e;exact⟨_,rfl,r⟩
 | _,_,i+1,x,.cons _ t,e=>by
  obtain⟨u,a,b⟩:=Vals.get (i:=i) (x:=x) t (by simpa using e);exact⟨u,by simpa using a,b⟩
theorem Vals.append:∀{xs ys:List V}{us ws:List Value},Vals xs us->Vals ys ws->Vals (xs++ys) (us++ws)
 | _,_,_,_,.nil,s=>s
 | _,_,_,_,.cons r t,s=>.cons r (Vals.append t s)
theorem Vals.take:∀{xs:List V}{us:List Value}(n:Nat),Vals xs us->Vals (xs.take n) (us.take n)
 | _,_,0,_=>.nil
 | _,_,_+1,.nil=>.nil
 | _,_,n+1,.cons r t=>.cons r (Vals.take n t)
theorem Vals.drop:∀{xs:List V}{us:List Value}(n:Nat),Vals xs us->Vals (xs.drop n) (us.drop n)
 | _,_,0,r=>r
 | _,_,_+1,.nil=>.nil
 | _,_,n+1,.cons _ t=>Vals.drop n t
def RelO:Option V->Option Value->Prop
 | some v,some u=>RelV v u
 | none,none=>True
 | _,_=>False
def KV{κ:Type}:List (κ×V)->List (κ×Value)->Prop:=Paired λ(p:κ×V) (q:κ×Value)=>p.1=q.1/\RelV p.2 q.2
def kV:Key->V
 | .inl i=>.int i
 | .inr x=>.str x
inductive HO where
  | lst (xs:List V)
  | tup (xs:List V)
  | dK (kvs:List (Key×V)) | dT (kvs:List (List Key×V))
  | set (S:Int->Bool) (n:Nat)
  | ins (C dx:Addr) (fs:List (Str×V))
  | own (x:Addr)
  | xd (fs:List (Str×V))
  | met (f x:Addr)
  | rng (lo hi:Int)
  | frz (o:Obj) (u:HO)
  | tbl (ps:Array Value)
  | ext (φ:Heap->Prop)
abbrev Hp:=Addr->Option HO
def upd(H:Hp)(a:Addr)(o:HO):Hp:=λb=>if b=a then some o else H b
theorem jD  : upd H a o a=some o:=by unfold upd;rw[if_pos rfl]
theorem jm  (h:b≠a):upd H a o b=H b:=by unfold upd;rw[if_neg h]
theorem jmA{H:Hp}{a b:Addr}{o u:HO}(h:H a=some o)(h':H b=some u)(d:o≠u):a≠b:=by
 intro e;subst e;rw[h] at h';exact d (X6 h')
theorem J4{H:Hp}{a b:Addr}{o:HO}(h:H a=some o)(h':H b=none):a≠b:=by
 intro e;subst e;rw[h] at h';cases h'
def IsTupN(h:Heap)(a:Addr)(its:Array Value):Prop:=IsTup h a its/\∃ o,h.get? a=some o/\o.dict=none
theorem IsTupN.new(h:Heap)(its:Array Value):IsTupN (h.push { cls:=.type "tuple",data:=.seq its }) h.objs.size its:=⟨IsTup.new h its,_,E1 _ rfl,rfl⟩
theorem IsTupN.lt  (x:IsTupN h a its):a < h.objs.size:=x.1.lt
section
variable (P:Program)(w:World)
def ObjOk(H:Hp)(h:Heap)(a:Addr):HO->Prop
 | .lst xs=>xs.length<=sizeLine/\∃(its:List Value) (n:Nat),Vals xs its/\h.get? a=some { cls:=.type "list",data:=.seq its.toArray n }
 | .tup xs=>xs.length<=sizeLine/\∃ its:List Value,Vals xs its/\IsTupN h a its.toArray
 | .dK kvs=>kvs.length<=sizeLine/\(a==sysModules)=false/\∃ vs,KV kvs vs/\h.DictOf (yx P w) a vs
 | .dT kvs=>kvs.length<=sizeLine/\(a==sysModules)=false/\∃ xs:List (List Key×Addr×Value),
   Paired (λ(p:List Key×V) (q:List Key×Addr×Value)=>p.1=q.1/\H q.2.1=some (.tup (p.1.map kV))/\RelV p.2 q.2.2) kvs xs /\
   ∃ o es ep,h.get? a=some o/\o.ExactDict/\o.data=.dict es ep/\es.toList=xs.map (entryOfKey (tupleKind (yx P w)))/\(xs.map (·.1)).Nodup
 | .set S n=>h.SetOf (intKind P w) a S n
 | .ins C dx fs=>H dx=some (.own a)/\fs.length<=1000/\dx≠a/\h.get? a=some (PySem.W.instObj C dx) /\
   ∃ mA,h.Ns1 dx mA/\(∀ f,RelO (fs.lookup f) (mA f))/\PySem.Within mA (fs.map (·.1))
 | .own _=>∃ o,h.get? a=some o
 | .xd fs=>∃ mA,h.Ns1 a mA/\∀ f,RelO (fs.lookup f) (mA f)
 | .rng lo hi=>∃ t u v,h.get? a=some { cls:=.type "range",data:=.fields #[.int lo t,.int hi u,.int 1 v] }
 | .frz o u=>h.get? a=some o/\ObjOk H h a u
 | .tbl ps=>h.get? a=some { cls:=.none,data:=.fields ps }
 | .met f x=>h.get? a=some (PySem.W.methodObj (.ref f) (.ref x))
 | .ext φ=>φ h/\(∃ o,h.get? a=some o)/\∀ h1 h2:Heap,φ h1->(∀ o,h1.get? a=some o->h2.get? a=some o)->φ h2
def HOk(H:Hp)(h:Heap):Prop:=∀ a o,H a=some o->ObjOk P w H h a o
end
section
variable {P:Program}{w:World}{H H':Hp}{h h':Heap}{a:Addr}{o:HO}
theorem ObjOk.lt(x:ObjOk P w H h a o):a < h.objs.size:=by
 cases o with
 | lst c=>obtain⟨_,_,_,_,e⟩:=x;exact N0 e
 | tup c=>obtain⟨_,_,_,p⟩:=x;exact p.lt
 | dK b=>obtain⟨_,_,_,_,o,_,_,e,_⟩:=x;exact N0 e
 | dT b=>obtain⟨_,_,_,_,o,_,_,e,_⟩:=x;exact N0 e
 | set S n=>obtain⟨o,_,_,_,e,_⟩:=x;exact N0 e
 | ins C d fs=>obtain⟨_,_,_,e,_⟩:=x;exact N0 e
 | own y=>obtain⟨_,e⟩:=x;exact N0 e
 | xd fs=>obtain⟨_,⟨_,_,_,e,_⟩,_⟩:=x;exact N0 e
 | rng g i=>obtain⟨_,_,_,e⟩:=x;exact N0 e
 | frz ob u=>obtain⟨e,_⟩:=x;exact N0 e
 | tbl j=>exact N0 (show h.get? a=some _ from x)
 | met f y=>exact N0 (show h.get? a=some _ from x)
 | ext φ=>obtain⟨_,⟨_,e⟩,_⟩:=x;exact N0 e
theorem Paired.mapP  : ∀{l₁:List α}{l₂:List β},Paired F l₁ l₂->(∀ a b,F a b->G a b)->Paired G l₁ l₂
 | _,_,.nil,_=>.nil
 | _,_,.cons r t,f=>.cons (f _ _ r) (Paired.mapP t f)
theorem ObjOk.stay(x:ObjOk P w H h a o)(k:∀ b u,(b=a \/ H b=some (.own a))->h.get? b=some u->h'.get? b=some u)
  (E:∀ b,H b=some (.own a)->H' b=some (.own a)) (F:∀ b xs,H b=some (.tup xs)->H' b=some (.tup xs)):ObjOk P w H' h' a o:=by
 induction o with
 | lst xs=>obtain⟨z,j,n,r,e⟩:=x;exact⟨z,j,n,r,k _ _ (.inl rfl) e⟩
 | tup xs=>obtain⟨z,j,r,⟨ob,e,c⟩,l,m,G⟩:=x;exact⟨z,j,r,⟨ob,k _ _ (.inl rfl) e,c⟩,l,k _ _ (.inl rfl) m,G⟩
 | dK s=>obtain⟨z,y,I,r,ob,g,i,e,c⟩:=x;exact⟨z,y,I,r,ob,g,i,k _ _ (.inl rfl) e,c⟩
 | dT s =>
  obtain⟨z,y,xs,r,ob,g,i,e,c⟩:=x;exact⟨z,y,xs,Paired.mapP r λp q z=>⟨z.1,F _ _ z.2.1,z.2.2⟩,ob,g,i,k _ _ (.inl rfl) e,c⟩
 | set S n=>obtain⟨ob,g,i,t,e,c⟩:=x;exact⟨ob,g,i,t,k _ _ (.inl rfl) e,c⟩
 | ins C K fs =>
  obtain⟨d,z,ne,e,A,⟨od,g,i,m,c⟩,r⟩:=x;exact⟨E _ d,z,ne,k _ _ (.inl rfl) e,A,⟨od,g,i,k _ _ (.inr d) m,c⟩,r⟩
 | own y=>obtain⟨ob,e⟩:=x;exact⟨ob,k _ _ (.inl rfl) e⟩
 | xd fs=>obtain⟨A,⟨od,g,i,e,c⟩,r⟩:=x;exact⟨A,⟨od,g,i,k _ _ (.inl rfl) e,c⟩,r⟩
 | rng L M=>obtain⟨t,u,v,e⟩:=x;exact⟨t,u,v,k _ _ (.inl rfl) e⟩
 | frz ob u J=>obtain⟨e,q⟩:=x;exact⟨k _ _ (.inl rfl) e,J q⟩
 | tbl B =>
  have e:h.get? a=some { cls:=.none,data:=.fields B }:=x;show h'.get? a=some { cls:=.none,data:=.fields B };exact k a _ (.inl rfl) e
 | met f y =>
  have e:h.get? a=some (PySem.W.methodObj (.ref f) (.ref y)):=x;show h'.get? a=some (PySem.W.methodObj (.ref f) (.ref y));exact k a _ (.inl rfl) e
 | ext φ=>obtain⟨p,⟨o,e⟩,D⟩:=x;exact⟨D _ _ p λo q=>k _ _ (.inl rfl) q,⟨o,k _ _ (.inl rfl) e⟩,D⟩
theorem HOk.lt(x:HOk P w H h)(e:H a=some o):a < h.objs.size:=(x a o e).lt
theorem HOk.fresh(x:HOk P w H h)(e:h.objs.size<=a):H a=none:=by
 cases q:H a with
 | none=>rfl
 | some u=>exact absurd (U5 (x.lt q) e) (Nat.lt_irrefl _)
theorem HOk.kept(x:HOk P w H h)(k:∀ b u,h.get? b=some u->h'.get? b=some u):HOk P w H h':=λa o e =>
 (x a o e).stay (λb u _ q=>k b u q) (λ_ q=>q) λ_ _ q=>q
theorem HOk.laid(x:HOk P w H h)(k:∀ b u,h.get? b=some u->h'.get? b=some u)(g:h.objs.size<=a)(new:ObjOk P w (upd H a o) h' a o):HOk P w (upd H a o) h':=λb u e=>by
 have d:=x.fresh g;by_cases f:b=a
 ·subst f;rw[jD] at e;cases e;exact new
 ·rw[jm f] at e;exact(x b u e).stay (λc v _ q=>k c v q) (λc q=>by rw[jm (J4 q d)];exact q) λc i q=>by rw[jm (J4 q d)];exact q
end
def Rd(H:Hp)(a:Addr)(u:HO):Prop:=H a=some u \/ ∃ o,H a=some (.frz o u)
theorem Rd.ok  (r:Rd H a u) (x:HOk P w H h):ObjOk P w H h a u:=by
 rcases r with r | ⟨o,r⟩
 ·exact x a u r
 ·obtain⟨_,q⟩:=x a _ r;exact q
def Mut:Option HO->Prop
 | some (.lst _)=>True
 | some (.dK _)=>True
 | some (.dT _)=>True
 | some (.set _ _)=>True
 | some (.ins _ _ _)=>True
 | some (.ext _)=>True
 | _=>False
section
variable {P:Program}{w:World}{H:Hp}{h h':Heap}{x e:Addr}{o':HO}
theorem HOk.write(ok:HOk P w H h)(g:Mut (H x))(n:e=x \/ H e=some (.own x))(k:∀ b u,b≠e->h.get? b=some u->h'.get? b=some u)(m:∃ u,h'.get? e=some u)
  (new:ObjOk P w (upd H x o') h' x o'):HOk P w (upd H x o') h':=λb u q=>by
 have d:∀ c y,H c=some (.own y)->c≠x:=λc y r z=>by subst z;rw[r] at g;exact g
 have f:∀ c i,H c=some (.tup i)->c≠x:=λc i r z=>by subst z;rw[r] at g;exact g
 by_cases j:b=x
 ·subst j;rw[jD] at q;cases q;exact new
 ·rw[jm j] at q;by_cases a:b=e
  ·have o:H b=some (.own x):=by
    rcases n with z | z
    ·exact absurd (a.trans z) j
    ·rw[a];exact z
   rw[q] at o;cases o;obtain⟨v,p⟩:=m;exact⟨v,by rw[a];exact p⟩
  ·refine(ok b u q).stay (λc v l r=>k c v ?_ r) (λc r=>by rw[jm (d c b r)];exact r) λc i r=>by rw[jm (f c i r)];exact r
   rcases l with rfl | l
   ·exact a
   ·rintro rfl;rcases n with z | z
    ·exact d c b l z
    ·rw[l] at z;cases z;exact j rfl
end
structure Un(fs ex:List Addr)(H H':Hp)(h h':Heap):Prop where
 keep:∀ b o,h.get? b=some o->H b=none->b∉fs->b∉ex->h'.get? b=some o
 slot:∀ b o,h.get? b=some o->H b=none->b∈fs->b∉ex->∃ sl,h'.get? b=some { o with slots:=sl }
 free:∀ b o,h.get? b=some o->H b=none->b∉ex->H' b=none
 there:∀ b o,h.get? b=some o->b∉ex->∃ o',h'.get? b=some o'
 tups:∀ b xs,H b=some (.tup xs)->H' b=some (.tup xs)
 frzs:∀ b o u,H b=some (.frz o u)->H' b=some (.frz o u)
 tbls:∀ b ps,H b=some (.tbl ps)->∃ more,H' b=some (.tbl (ps++more))
section
variable {fs fs' ex ex':List Addr}{H H1 H2:Hp}{h h1 h2 h':Heap}{a x e:Addr}{o:HO}
theorem Un.any(u:Un fs ex H H1 h h1)  (q:h.get? b=some ob) (n:H b=none) (a:b∉ex):∃ sl,h1.get? b=some { ob with slots:=sl }:=by
 by_cases c:b∈fs
 ·exact u.slot b ob q n c a
 ·exact⟨ob.slots,u.keep b ob q n c a⟩
theorem Un.kept(k:∀ b u,h.get? b=some u->h'.get? b=some u):Un fs ex H H h h' :=
 ⟨λb ob q _ _ _=>k b ob q,λb ob q _ _ _=>⟨ob.slots,k b ob q⟩,λ_ _ _ n _=>n,λb ob q _=>⟨ob,k b ob q⟩,λ_ _ q=>q,λ_ _ _ q=>q,λ_ a q=>⟨#[],by rw[q];simp⟩⟩
theorem Un.refl:Un fs ex H H h h:=Un.kept λ_ _ q=>q
theorem Un.laid(k:∀ b u,h.get? b=some u->h'.get? b=some u)(c:h.objs.size<=a)(hn:H a=none):Un fs ex H (upd H a o) h h' where
 keep:=λb u q _ _ _=>k b u q
 slot:=λb u q _ _ _=>⟨u.slots,k b u q⟩
 free:=λb u q n _=>by rw[jm (N7 (U5 (N0 q) c))];exact n
 there:=λb u q _=>⟨u,k b u q⟩
 tups:=λb d q=>by rw[jm (J4 q hn)];exact q
 frzs:=λb u d q=>by rw[jm (J4 q hn)];exact q
 tbls:=λb e q=>⟨#[],by rw[jm (J4 q hn),q];simp⟩
theorem Un.write(c:Mut (H x))(j:e=x \/ H e=some (.own x))(k:∀ b u,b≠e->h.get? b=some u->h'.get? b=some u)(d:∃ u,h'.get? e=some u):Un fs ex H (upd H x o) h h':=by
 have g:∀ b,H b=none->b≠x:=λb n z=>by subst z;rw[n] at c;exact c
 have i:∀ b,H b=none->b≠e:=λb n z=>by
  subst z;rcases j with r | r
  ·exact g b n r
  ·rw[n] at r;cases r
 have f:∀ b u,H b=some u->¬ Mut (some u)->b≠x:=λb u q nm z=>by subst z;rw[q] at c;exact nm c
 refine⟨λb u q n _ _=>k b u (i b n) q,λb u q n _ _=>⟨u.slots,k b u (i b n) q⟩,λb u q n _=>by rw[jm (g b n)];exact n,λb u q _=>?_,
  λb l q=>by rw[jm (f b _ q λz=>z)];exact q,λb u l q=>by rw[jm (f b _ q λz=>z)];exact q,λb m q=>⟨#[],by rw[jm (f b _ q λz=>z),q];simp⟩⟩
 by_cases a:b=e
 ·subst a;exact d
 ·exact⟨u,k b u a q⟩
end
def trk(h:Heap)(H:Hp):List Addr:=(List.range h.objs.size).filter λa=>(H a).isSome
def jfH(h:Heap)(H:Hp):Heap:=PySem.W.hideAll h (trk h H)
theorem jdf(h:Heap)(H:Hp):(jfH h H).objs.size=h.objs.size:=PySem.W.hideAll_size _ _
theorem jf4  (e:h.get? b=some o) (n:H b=none):(jfH h H).get? b=some o :=
 PySem.W.hideAll_get _ e λa=>by
  have q:(H b).isSome=true:=(List.mem_filter.mp a).2;rw[n] at q;simp at q
theorem jiv  (e:(jfH h H).get? b=some o):h.get? b=some o/\H b=none:=by
 have a:h.get? b=some o:=PySem.W.of_hideAll (trk h H) e;refine⟨a,?_⟩;cases q:H b with
 | none=>rfl
 | some x =>
  have c:b∈trk h H:=List.mem_filter.mpr ⟨List.mem_range.mpr (N0 a),by simp[q]⟩;have z:(jfH h H).get? b=none:=PySem.W.hideAll_none (trk h H) c;rw[z] at e;cases e
def jhu(g h:Heap)(L:Addr):List (Addr×Obj):=(List.range h.objs.size).filterMap λa=>if a=L \/ (g.get? a).isSome=true then none else(h.get? a).map λo=>(a,o)
def rest(g h:Heap)(L d:Addr):List (Addr×Obj):=(jhu g h L).filter λp=>decide (p.1≠d)
structure Mod(K:PySem.W.Frag)(mg:Str->Option Value)(base:Heap):Prop where
 kin:K.In base
 glob:base.Ns mainGlobals mg
 blt:∃ mb,base.Ns builtinsNs mb/\∀ x:Str,x≠"__name__"->mb x=bootBuiltins x
 nolimit:base.NoLimit
structure Cx where
 prog:Program
 w:World
 K:PySem.W.Frag
 mg:Str->Option Value
 base:Heap
 A:Around
 N:List Str
 s₀:Shared
 H₀:Hp
 env:Env
 outer:List Env
 stack:List Env
 ex:List Addr
 fn:Str->Bool
 calm:Bool
 pn:List (Addr×Obj)
 xe:Value->Shared->Prop
def frs(l:List Env):List Addr:=l.filterMap (·.frame)
abbrev Cx.fs(X:Cx):List Addr:=frs X.outer
def Vis(sc:Scope)(x:Str):Prop:=sc.names.lookup x=some .local \/ sc.names.lookup x=some .cell \/ sc.names.lookup x=some .free
def Loc(sc:Scope)(x:Str):Prop:=sc.names.lookup x=some .local \/ sc.names.lookup x=some .cell
def jnr(env:Env)(h:Heap)(m:Str->Option Value)(x:Str)(u:Value):Prop :=
 (env.kindOf x=some .local/\m x=some u) \/ ((env.kindOf x=some .cell \/ env.kindOf x=some .free)/\∃ c,env.cells.lookup x=some c/\h.IsCell c (some u))
structure Cx.Ok(X:Cx):Prop where
 mod:Mod X.K X.mg X.base
 kind:X.env.scope.kind=.function
 glob:X.env.globals=mainGlobals
 blt:X.env.builtins=builtinsNs
 above:X.s₀.heap.objs.size<=X.env.locals
 inj:∀ x y c,X.env.cells.lookup x=some c->X.env.cells.lookup y=some c->x=y
 has:∀ x,(X.env.kindOf x=some .cell \/ X.env.kindOf x=some .free)->∃ c,X.env.cells.lookup x=some c
 cab:∀ x c,X.fn x=true->X.env.cells.lookup x=some c->X.s₀.heap.objs.size<=c
 hd:X.calm=true->X.A.handled=none
 frames:X.A.frames=some X.stack
 stk:X.stack=X.outer \/ (X.stack=X.env::X.outer/\X.env.frame=some X.env.locals)
 exf:∀ b∈X.ex,b≠X.env.locals/\∀ x c,X.env.cells.lookup x=some c->c≠b
 bs:∀ b o,X.base.get? b=some o->X.s₀.heap.get? b=some o/\X.H₀ b=none
 bsz:X.base.objs.size<=X.s₀.heap.objs.size
 noex:∀ b o,X.base.get? b=some o->b∉X.ex
 exfs:∀ b∈X.ex,b∉X.fs
 funs:X.s₀.heap.FunFrames X.base X.outer
 frf:∀ b∈X.fs,X.H₀ b=none
structure Inv(X:Cx)(pins:List (Addr×Obj))(σ:List (Option V))(H:Hp)(s:Shared):Prop where
 ok:X.Ok
 os:s.os=X.s₀.os
 bare:AllBare s.gens
 base:Un X.fs X.ex X.H₀ H X.s₀.heap s.heap
 loc:∃ m,s.heap.Ns X.env.locals m/\∀(i:Nat) (x:Str) (v:V),X.N[i]?=some x->σ[i]?=some (some v)->Vis X.env.scope x->∃ u,RelV v u/\jnr X.env s.heap m x u
 cell:∀ x c,X.env.cells.lookup x=some c->∃ v,s.heap.IsCell c v
 free:H X.env.locals=none
 freeC:∀ x c,X.env.cells.lookup x=some c->H c=none
 pin:∀ p∈X.pn++pins,s.heap.get? p.1=some p.2/\H p.1=none/\p.1≠X.env.locals/\p.1∉X.fs/\∀ v,p.2.data≠.cell v
 hok:HOk X.prog X.w H s.heap
 len:σ.length=X.N.length
section
variable {X:Cx}{pins:List (Addr×Obj)}{σ:List (Option V)}{H H':Hp}{s:Shared}{h':Heap}
theorem Cx.Ok.nofr(ok:X.Ok)  {o:Obj}(e:X.base.get? b=some o):b∉X.fs:=λa=>by
 have:=(ok.funs.mem a).1;rw[e] at this;cases this
theorem Inv.bs(I:Inv X pins σ H s):∀ b o,X.base.get? b=some o->s.heap.get? b=some o/\H b=none:=λb o e =>
 ⟨I.base.keep b o (I.ok.bs b o e).1 (I.ok.bs b o e).2 (I.ok.nofr e) (I.ok.noex b o e),I.base.free b o (I.ok.bs b o e).1 (I.ok.bs b o e).2 (I.ok.noex b o e)⟩
theorem Inv.bk(I:Inv X pins σ H s):∀ b o,X.base.get? b=some o->s.heap.get? b=some o:=λb o e=>(I.bs b o e).1
theorem Inv.mod(I:Inv X pins σ H s):Mod X.K X.mg X.base:=I.ok.mod
theorem Inv.kIn(I:Inv X pins σ H s):X.K.In s.heap:=I.ok.mod.kin.keeps I.bk
theorem Inv.lt(I:Inv X pins σ H s):X.env.locals < s.heap.objs.size:=let ⟨_,hn,_⟩:=I.loc;hn.lt
theorem Inv.sz(I:Inv X pins σ H s):X.s₀.heap.objs.size<=s.heap.objs.size:=N8 I.ok.above (Nat.le_of_lt I.lt)
theorem Inv.nofs(I:Inv X pins σ H s)  (h:s.heap.objs.size<=a):a∉X.fs:=λb=>by
 obtain⟨_,o,c,_⟩:=I.ok.funs.mem b;exact absurd (U5 (N0 c) (N8 I.sz h)) (Nat.lt_irrefl _)
theorem Inv.cne(I:Inv X pins σ H s):∀ x c,X.env.cells.lookup x=some c->c≠X.env.locals:=λx c e z=>by
 obtain⟨v,o,d,hd⟩:=I.cell x c e;obtain⟨m,⟨f,g,h,a,b,_⟩,_⟩:=I.loc;rw[z,a] at d;cases d;rw[b] at hd;cases hd
theorem Inv.funs(I:Inv X pins σ H s):s.heap.FunFrames X.base X.outer:=by
 have all:∀(l:List Env),(∀ b∈frs l,b∈X.fs)->X.s₀.heap.FunFrames X.base l->s.heap.FunFrames X.base l:=by
  intro l
  induction l with
  | nil=>intro _ _;trivial
  | cons env r g =>
   intro f h;obtain⟨i,⟨L,o,a,j,k,hd⟩,m⟩:=h;have c:L∈X.fs:=f L (by unfold frs;rw[List.filterMap_cons,a];exact L6);obtain⟨sl,e⟩:=I.base.slot L o k (I.ok.frf L c) c λz=>I.ok.exfs L z c;exact⟨i,⟨L,_,a,j,e,hd⟩,g (λb d=>f b (by unfold frs;rw[List.filterMap_cons,a];exact L5 _ d)) m⟩
 exact all X.outer (λ_ d=>d) I.ok.funs
theorem Inv.stack(I:Inv X pins σ H s):s.heap.FunFrames X.base X.stack:=by
 rcases I.ok.stk with e | ⟨e,a⟩
 ·rw[e];exact I.funs
 ·rw[e];obtain⟨m,b,_⟩:=I.loc;refine .cons (by rw[I.ok.kind];decide) a b ?_ I.funs;exact Heap.get?_none_of_le (N8 I.ok.bsz I.ok.above)
theorem Inv.stkSub(I:Inv X pins σ H s):∀ b∈frs X.stack,b∈X.env.locals::X.fs:=λb a=>by
 rcases I.ok.stk with e | ⟨e,c⟩
 ·rw[e] at a;exact L5 _ a
 ·rw[e] at a;unfold frs at a;rw[List.filterMap_cons,c] at a;exact a
theorem Inv.stkFree(I:Inv X pins σ H s):∀ b∈frs X.stack,H b=none:=λb a=>by
 rcases M4.mp (I.stkSub b a) with e | a
 ·rw[e];exact I.free
 ·obtain⟨_,o,c,_⟩:=I.ok.funs.mem a;exact I.base.free b o c (I.ok.frf b a) λz=>I.ok.exfs b z a
theorem Inv.step{g':Array GenState}{t':Nat}{ch:List Addr}(I:Inv X pins σ H s)
  (f:∀ b∈ch,(b∈X.ex \/ X.s₀.heap.objs.size<=b)/\b≠X.env.locals/\(∀ x c,X.env.cells.lookup x=some c->c≠b)/\∀ p∈X.pn++pins,p.1≠b)
  (keep:∀ b o,b≠X.env.locals->b∉X.fs->b∉ch->s.heap.get? b=some o->H b=none->h'.get? b=some o)
  (slot:∀ b o,b≠X.env.locals->b∈X.fs->b∉ch->s.heap.get? b=some o->H b=none->∃ sl,h'.get? b=some { o with slots:=sl }) (free:∀ b o,b∉ch->s.heap.get? b=some o->H b=none->H' b=none)
  (there:∀ b o,b∉ch->s.heap.get? b=some o->∃ o',h'.get? b=some o')
  (tups:∀ b xs,H b=some (.tup xs)->H' b=some (.tup xs)) (frzs:∀ b o u,H b=some (.frz o u)->H' b=some (.frz o u)) (tbls:∀ b ps,H b=some (.tbl ps)->∃ more,H' b=some (.tbl (ps++more)))
  (ns:∀ m,s.heap.Ns X.env.locals m->h'.Ns X.env.locals m) (hok:HOk X.prog X.w H' h') (J:AllBare g') :
  Inv X pins σ H' { s with heap:=h',gens:=g',drawn:=d',toks:=t' }:=by
 have B:∀ b o,X.s₀.heap.get? b=some o->b≠X.env.locals:=λb o e=>N7 (U5 (N0 e) I.ok.above);have j:∀ b o,X.s₀.heap.get? b=some o->b∉X.ex->b∉ch:=λb o e a y=>by
  rcases(f b y).1 with z | z
  ·exact a z
  ·exact absurd (U5 (N0 e) z) (Nat.lt_irrefl _)
 have g:∀ x c,X.env.cells.lookup x=some c->∀ v,s.heap.IsCell c v->h'.IsCell c v:=λx c e v ⟨o,A,hd⟩=>by
  have h:c∉ch:=λz=>(f c z).2.2.1 x c e rfl;by_cases E:c∈X.fs
  ·obtain⟨sl,q⟩:=slot c o (I.cne x c e) E h A (I.freeC x c e);exact⟨_,q,hd⟩
  ·exact⟨o,keep c o (I.cne x c e) E h A (I.freeC x c e),hd⟩
 refine⟨I.ok,I.os,J,⟨λb o e n y a=>?_,λb o e n y a=>?_,λb o e n a=>?_,λb o e a=>?_,λb xs e=>tups b xs (I.base.tups b xs e),λb o xs e=>frzs b o xs (I.base.frzs b o xs e),λb ps e=>?_⟩,?_,λx c e=>?_,?_,λx c e=>?_,λp F=>?_,hok,I.len⟩
 ·exact keep b o (B b o e) y (j b o e a) (I.base.keep b o e n y a) (I.base.free b o e n a)
 ·obtain⟨sl,t⟩:=I.base.slot b o e n y a;obtain⟨D,C⟩:=slot b _ (B b o e) y (j b o e a) t (I.base.free b o e n a);exact⟨D,C⟩
 ·obtain⟨o',t⟩:=I.base.there b o e a;exact free b o' (j b o e a) t (I.base.free b o e n a)
 ·obtain⟨o',t⟩:=I.base.there b o e a;exact there b o' (j b o e a) t
 ·obtain⟨K,t⟩:=I.base.tbls b ps e;obtain⟨L,C⟩:=tbls b _ t;exact⟨K++L,by rw[C,Array.append_assoc]⟩
 ·obtain⟨m,M,N⟩:=I.loc;refine⟨m,ns m M,λi x v t C O=>?_⟩;obtain⟨u,r,l⟩:=N i x v t C O;refine⟨u,r,?_⟩;rcases l with l | ⟨k,c,e,z⟩
  ·exact .inl l
  ·exact .inr ⟨k,c,e,g x c e _ z⟩
 ·obtain⟨v,z⟩:=I.cell x c e;exact⟨v,g x c e v z⟩
 ·obtain⟨m,⟨o,_,_,A,_⟩,_⟩:=I.loc;exact free _ o (λz=>(f _ z).2.1 rfl) A I.free
 ·obtain⟨v,o,A,hd⟩:=I.cell x c e;exact free c o (λz=>(f c z).2.2.1 x c e rfl) A (I.freeC x c e)
 ·obtain⟨e,n,ne,G,d⟩:=I.pin p F;have h:p.1∉ch:=λz=>(f p.1 z).2.2.2 p F rfl;exact⟨keep p.1 p.2 ne G h e n,free p.1 p.2 h e n,ne,G,d⟩
theorem Inv.un{t':Nat}(I:Inv X pins σ H s)(u:Un X.fs [] H H' s.heap h')(hok:HOk X.prog X.w H' h'):Inv X pins σ H' { s with heap:=h',toks:=t' }:=by
 obtain⟨m,⟨o,k,l,g,r⟩,_⟩:=id I.loc;obtain⟨sl,h⟩:=u.any g I.free (by simp);exact I.step (g':=s.gens) (d':=s.drawn) (ch:=[]) (λ_ z=>nomatch z) (λb o _ c _ e n=>u.keep b o e n c (by simp)) (λb o _ c _ e n=>u.slot b o e n c (by simp)) (λb o _ e n=>u.free b o e n (by simp)) (λb o _ e=>u.there b o e (by simp)) u.tups u.frzs u.tbls (λp i=>by
  obtain⟨q,d,f,a,j⟩:=i;rw[g] at a;cases a;exact⟨_,d,f,h,j⟩) hok I.bare
theorem Inv.call{g':Array GenState}{t':Nat}{ch:List Addr}(I:Inv X pins σ H s)(u:Un (frs X.stack) ch H H' s.heap h')(hok:HOk X.prog X.w H' h')(k:AllBare g')
  (d:∀ b∈ch,(b∈X.ex \/ X.s₀.heap.objs.size<=b)/\b≠X.env.locals/\(∀ x c,X.env.cells.lookup x=some c->c≠b)/\∀ p∈X.pn++pins,p.1≠b) :
  Inv X pins σ H' { s with heap:=h',gens:=g',drawn:=d',toks:=t' }:=by
 obtain⟨m,⟨o,v,y,j,r⟩,_⟩:=id I.loc;obtain⟨sl,g⟩:=u.any j I.free λz=>(d _ z).2.1 rfl;exact I.step (ch:=ch) d (λb o g l a e n=>u.keep b o e n (λz=>(M4.mp (I.stkSub b z)).elim g l) a) (λb o _ _ a e n=>u.any e n a) (λb o a e n=>u.free b o e n a) (λb o a e=>u.there b o e a) u.tups u.frzs u.tbls (λA q=>by
  obtain⟨B,h,i,f,t⟩:=q;rw[j] at f;cases f;exact⟨_,h,i,g,t⟩) hok k
theorem Inv.turned{t':Nat}(I:Inv X pins σ H s)(k:∀ b o,b≠it->s.heap.get? b=some o->h'.get? b=some o)(hn:H it=none)(f:it≠X.env.locals)
  (h1:it∈X.ex \/ X.s₀.heap.objs.size<=it) (h2:∀ x c,X.env.cells.lookup x=some c->c≠it) (g:∀ p∈X.pn++pins,p.1≠it):Inv X pins σ H { s with heap:=h',toks:=t' }:=by
 have d:∀ b u,H b=some u->b≠it:=λb u e z=>by rw[z,hn] at e;cases e
 refine I.step (g':=s.gens) (d':=s.drawn) (ch:=[it]) (λb h=>?_) (λb o _ _ a e _=>k b o (λz=>a (by simp[z])) e) (λb o _ _ a e _=>⟨o.slots,k b o (λz=>a (by simp[z])) e⟩) (λ_ _ _ _ n=>n)
  (λb o a e=>⟨o,k b o (λz=>a (by simp[z])) e⟩) (λ_ _ e=>e) (λ_ _ _ e=>e) (λb w e=>⟨#[],by rw[e];simp⟩) (λm i=>?_) (λb u e=>?_) I.bare
 ·have e:b=it:=by simpa using h
  subst e;exact⟨h1,f,h2,g⟩
 ·obtain⟨o,j,l,t,r⟩:=i;exact⟨o,j,l,k _ o (Ne.symm f) t,r⟩
 ·refine(I.hok b u e).stay (λc v a q=>k c v ?_ q) (λ_ q=>q) λ_ _ q=>q;rcases a with z | z
  ·rw[z];exact d b u e
  ·exact d c _ z
theorem Inv.tok(I:Inv X pins σ H s)(t:Nat):Inv X pins σ H { s with toks:=t }:=I.un (h':=s.heap) (t':=t) Un.refl I.hok
theorem Inv.kept  (I:Inv X pins σ H s) (k:∀ b u,s.heap.get? b=some u->h'.get? b=some u):Inv X pins σ H { s with heap:=h',toks:=t' }:=I.un (Un.kept k) (I.hok.kept k)
theorem Inv.laid  (I:Inv X pins σ H s) (k:∀ b u,s.heap.get? b=some u->h'.get? b=some u) (c:s.heap.objs.size<=a) (new:ObjOk X.prog X.w (upd H a o) h' a o) :
  Inv X pins σ (upd H a o) { s with heap:=h',toks:=t' }:=I.un (Un.laid k c (I.hok.fresh c)) (I.hok.laid k c new)
theorem Inv.write  (I:Inv X pins σ H s) (c:Mut (H x)) (d:e=x \/ H e=some (.own x)) (k:∀ b u,b≠e->s.heap.get? b=some u->h'.get? b=some u) (a:∃ u,h'.get? e=some u)
  (new:ObjOk X.prog X.w (upd H x o) h' x o):Inv X pins σ (upd H x o) { s with heap:=h',toks:=t' }:=I.un (Un.write c d k a) (I.hok.write c d k a new)
theorem Inv.pins_of  (I:Inv X pins σ H s) (h:∀ p∈pins',s.heap.get? p.1=some p.2/\H p.1=none/\p.1≠X.env.locals/\p.1∉X.fs/\∀ v,p.2.data≠.cell v):Inv X pins' σ H s :=
 ⟨I.ok,I.os,I.bare,I.base,I.loc,I.cell,I.free,I.freeC,λp a=>(N1.mp a).elim (λz=>I.pin p (List.mem_append_left _ z)) (h p),I.hok,I.len⟩
theorem jbx{N:List Str}(c:N.Nodup){i j:Nat}(a:N[i]?=some x)(b:N[j]?=some x):i=j:=by
 obtain⟨f,d⟩:=L8.mp a;obtain⟨g,e⟩:=L8.mp b;exact(List.getElem_inj c).mp (d.trans e.symm)
theorem jeY  (I:Inv X pins σ H s) (hN:X.N.Nodup) (hi:X.N[i]?=some x) (B:Loc X.env.scope x) (r:RelV v u)
  (h:∀ s',Inv X pins (σ.set i (some v)) H s'->(∃ a,Heap.SameBut a s.heap s'.heap/\(a=X.env.locals \/ X.env.cells.lookup x=some a))->Q () s') (hf:X.fn x=true \/ X.env.scope.names.lookup x=some .local:=by first | exact .inl rfl | exact .inr rfl | assumption):wpAny M A (storeName X.env x u) Q E s:=by
 obtain⟨m,Y,hl⟩:=id I.loc;have O:(X.env.scope.kind==.class||(X.env.scope.kind==.module&&X.env.locals != X.env.globals))=false:=by rw[I.ok.kind];rfl
 have P:i < σ.length:=by rw[I.len];exact(L8.mp hi).1
 have cne:=I.cne;have g:∀{a:Addr}{L:Heap},(∃ o,s.heap.get? a=some o/\H a=none)->Heap.SameBut a s.heap L->HOk X.prog X.w H L:=λ{a L} ha f b ob e=>by
  obtain⟨_,_,C⟩:=ha;refine(I.hok b ob e).stay (λc V t q=>(f.2 c ?_).trans q) (λ_ q=>q) λ_ _ q=>q;rintro rfl;rcases t with rfl | t
  ·rw[C] at e;cases e
  ·rw[C] at t;cases t
 rcases B with F | F
 ·refine wpAny_storeName_local F Y (λL Z f=>?_) O;obtain⟨oL,_,_,hoL,_⟩:=id Y;refine h _ ⟨I.ok,I.os,I.bare,⟨λb o e n G B=>?_,λb o e n G B=>?_,I.base.free,λb o e B=>?_,I.base.tups,I.base.frzs,I.base.tbls⟩,⟨_,Z,λj y v' l D e3=>?_⟩,λy c e=>?_,I.free,I.freeC,λp hp=>?_,g ⟨oL,hoL,I.free⟩ f,by simpa using I.len⟩ ⟨_,f,.inl rfl⟩
  ·exact(f.2 b (N7 (U5 (N0 e) I.ok.above))).trans (I.base.keep b o e n G B)
  ·obtain⟨sl,l⟩:=I.base.slot b o e n G B;exact⟨sl,(f.2 b (N7 (U5 (N0 e) I.ok.above))).trans l⟩
  ·obtain⟨o',l⟩:=I.base.there b o e B;exact⟨o',(f.2 b (N7 (U5 (N0 e) I.ok.above))).trans l⟩
  ·by_cases J:j=i
   ·subst J;rw[hi] at l;cases l;rw[List.getElem?_set_self P] at D;cases D;exact⟨u,r,.inl ⟨F,by simp⟩⟩
   ·rw[List.getElem?_set_ne (Ne.symm J)] at D;obtain⟨u',r',q⟩:=hl j y v' l D e3;refine⟨u',r',?_⟩;rcases q with⟨k,e⟩ | ⟨k,c,e,z⟩
    ·refine .inl ⟨k,?_⟩;have:y≠x:=λe=>J (jbx hN l (e▸hi));simp[this,e]
    ·exact .inr ⟨k,c,e,z.sameBut f (cne y c e)⟩
  ·obtain⟨V,z⟩:=I.cell y c e;exact⟨V,z.sameBut f (cne y c e)⟩
  ·obtain⟨e,n,ne,nf,d⟩:=I.pin p hp;exact⟨(f.2 p.1 ne).trans e,n,ne,nf,d⟩
 ·have K:X.fn x=true:=by
   rcases hf with z | z
   ·exact z
   ·rw[z] at F;cases F
  obtain⟨c,t⟩:=I.ok.has x (.inl F);obtain⟨V,z⟩:=I.cell x c t;refine wpAny_storeName_cell I.ok.kind F t z (λL R f=>?_);obtain⟨oc,S,T⟩:=id z;refine h { s with heap:=L } ⟨I.ok,I.os,I.bare,⟨λb o e n G B=>?_,λb o e n G B=>?_,I.base.free,λb o e B=>?_,I.base.tups,I.base.frzs,I.base.tbls⟩,⟨m,Y.sameBut f (Ne.symm (cne x c t)),λj y v' l D e3=>?_⟩,λy W e=>?_,I.free,I.freeC,λp hp=>?_,g ⟨oc,S,I.freeC x c t⟩ f,by simpa using I.len⟩ ⟨c,f,.inr t⟩
  ·exact(f.2 b (N7 (U5 (N0 e) (I.ok.cab x c K t)))).trans (I.base.keep b o e n G B)
  ·obtain⟨sl,l⟩:=I.base.slot b o e n G B;exact⟨sl,(f.2 b (N7 (U5 (N0 e) (I.ok.cab x c K t)))).trans l⟩
  ·obtain⟨o',l⟩:=I.base.there b o e B;exact⟨o',(f.2 b (N7 (U5 (N0 e) (I.ok.cab x c K t)))).trans l⟩
  ·by_cases J:j=i
   ·subst J;rw[hi] at l;cases l;rw[List.getElem?_set_self P] at D;cases D;exact⟨u,r,.inr ⟨.inl F,c,t,R⟩⟩
   ·rw[List.getElem?_set_ne (Ne.symm J)] at D;obtain⟨u',r',q⟩:=hl j y v' l D e3;refine⟨u',r',?_⟩;rcases q with q | ⟨k,W,e,z'⟩
    ·exact .inl q
    ·refine .inr ⟨k,W,e,z'.sameBut f ?_⟩;rintro rfl;exact J (jbx hN l (I.ok.inj _ _ _ e t▸hi))
  ·by_cases U:W=c
   ·subst U;exact⟨_,R⟩
   ·obtain⟨w2,z2⟩:=I.cell y W e;exact⟨w2,z2.sameBut f U⟩
  ·obtain⟨e,n,ne,nf,d⟩:=I.pin p hp;refine⟨(f.2 p.1 ?_).trans e,n,ne,nf,d⟩;intro q;rw[q,S] at e;have q':oc=p.2:=X6 e;exact d V (by rw[<- q'];exact T)
theorem wG  (I:Inv X pins σ H s) (a:X.N.Nodup) (hi:X.N[i]?=some x) (b:Loc X.env.scope x) (r:RelV v u)
  (h:∀ s',Inv X pins (σ.set i (some v)) H s'->Q () s') (c:X.fn x=true \/ X.env.scope.names.lookup x=some .local:=by first | exact .inl rfl | exact .inr rfl | assumption):wpAny M A (storeName X.env x u) Q E s :=
 jeY I a hi b r (λs' d _=>h s' d) c
end
abbrev XK:=Value->Option Addr->Hp->Prop
abbrev St:=List (Option V)
abbrev VK:=V->Hp->Prop
abbrev TE:=St->Hp->VK->Prop
abbrev TT:=St->Hp->(Bool->Hp->Prop)->Prop
abbrev TA:=St->Hp->(List V->Hp->Prop)->Prop
structure Ends where
 nx:St->Hp->Prop
 rt:VK
 bk:St->Hp->Prop:=λ_ _=>False
 ct:St->Hp->Prop:=λ_ _=>False
abbrev TS:=Ends->St->Hp->Prop
def EP(X:Cx)(pins:List (Addr×Obj))(σ:St)(Q:VK)(u:Value)(s':Shared):Prop:=∃ v H',Inv X pins σ H' s'/\RelV v u/\Q v H'
def TP(X:Cx)(pins:List (Addr×Obj))(σ:St)(Q:Bool->Hp->Prop)(b:Bool)(s':Shared):Prop:=∃ H',Inv X pins σ H' s'/\Q b H'
def AP(X:Cx)(pins:List (Addr×Obj))(σ:St)(Q:List V->Hp->Prop)(us:List Value)(s':Shared):Prop:=∃ vs H',Inv X pins σ H' s'/\Vals vs us/\Q vs H'
def SP(X:Cx)(pins:List (Addr×Obj))(D:Ends)(f:Flow)(s':Shared):Prop :=
 match f with
 | .next=>∃ σ' H',Inv X pins σ' H' s'/\D.nx σ' H'
 | .brk=>∃ σ' H',Inv X pins σ' H' s'/\D.bk σ' H'
 | .cont=>∃ σ' H',Inv X pins σ' H' s'/\D.ct σ' H'
 | .ret u=>∃ v σ' H',Inv X pins σ' H' s'/\RelV v u/\D.rt v H'
def PE(X:Cx)(e:Expr)(t:TE):Prop :=
 ∀(pins:List (Addr×Obj)) (s:Shared) (σ:St) (H:Hp) (Q:VK),Inv X pins σ H s->t σ H Q->wpAny (model X.prog X.w) X.A (eval e X.env) (EP X pins σ Q) X.xe s
def PT(X:Cx)(e:Expr)(t:TT):Prop :=
 ∀(pins:List (Addr×Obj)) (s:Shared) (σ:St) (H:Hp) (Q:Bool->Hp->Prop),Inv X pins σ H s->t σ H Q->wpAny (model X.prog X.w) X.A (isTrue e X.env (eval e X.env)) (TP X pins σ Q) X.xe s
def PW(X:Cx)(e:Expr)(t:TT):Prop :=
 ∀(whole:Sem Value) (pins:List (Addr×Obj)) (s:Shared) (σ:St) (H:Hp) (Q:Bool->Hp->Prop),Inv X pins σ H s->t σ H Q->wpAny (model X.prog X.w) X.A (isTrue e X.env whole) (TP X pins σ Q) X.xe s
theorem PW.pt  (h:PW X e t):PT X e t:=h _
def PA(X:Cx)(es:List Expr)(t:TA):Prop :=
 ∀(pos:Pos) (pins:List (Addr×Obj)) (s:Shared) (σ:St) (H:Hp) (Q:List V->Hp->Prop),Inv X pins σ H s->t σ H Q->wpAny (model X.prog X.w) X.A (spliced (backTo pos (starEach es X.env))) (AP X pins σ Q) X.xe s
def PS(X:Cx)(st:Stmt)(t:TS):Prop :=
 ∀(pins:List (Addr×Obj)) (s:Shared) (σ:St) (H:Hp) (D:Ends),Inv X pins σ H s->t D σ H->wpAny (model X.prog X.w) X.A (exec st X.env) (SP X pins D) X.xe s
def PSs(X:Cx)(st:List Stmt)(t:TS):Prop :=
 ∀(pins:List (Addr×Obj)) (s:Shared) (σ:St) (H:Hp) (D:Ends),Inv X pins σ H s->t D σ H->wpAny (model X.prog X.w) X.A (execs st X.env) (SP X pins D) X.xe s
theorem thn  (h:wpAny M A t Q E s) (b:∀ a s,Q a s->Q' a s):wpAny M A t Q' E s:=wpAny_mono h b λ_ _ x=>x
section
variable {X:Cx}
def J5(i:Nat):TE:=λσ H Q=>∃ v,σ[i]?=some (some v)/\Q v H
def tC(v:V):TE:=λ_ H Q=>Q v H
theorem jgX  (k:X.N[i]?=some x) (n:Vis X.env.scope x) (hd:(x==("__debug__" : Str))=false:=by decide) (g:(x==("__classdict__" : Str))=false:=by decide):PE X (.Name x pos) (J5 i):=by
 intro f s σ H Q I h;obtain⟨v,e,h⟩:=h;obtain⟨m,o,p⟩:=I.loc;obtain⟨u,r,l⟩:=p i x v k e n;have b:EP X f σ Q u s:=⟨v,H,I,r,h⟩;rcases l with⟨d,q⟩ | ⟨d,c,j,a⟩
 ·exact wpAny_Name (wpAny_loadName_local I.ok.kind d o q b) hd
 ·rcases d with d | d
  ·exact wpAny_Name (wpAny_loadName_cell I.ok.kind d j a b) hd
  ·exact wpAny_Name (wpAny_loadName_free I.ok.kind d j a b g) hd
theorem jg2{i j pos}:PE X (.Constant (.int i) j pos) (tC (.int i)):=λ_ _ _ H _ I h=>wpAny_Constant_int ⟨.int i,H,I.tok _,⟨_,rfl⟩,h⟩
theorem jmm{b j pos}:PE X (.Constant (.bool b) j pos) (tC (.bl b)):=λ_ _ _ H _ I h=>Constant_bool ⟨.bl b,H,I,rfl,h⟩
theorem jkp{j pos}:PE X (.Constant .none j pos) (tC .non):=λ_ _ _ H _ I h=>Constant_none ⟨.non,H,I,rfl,h⟩
theorem jk2{x j pos}:PE X (.Constant (.str x) j pos) (tC (.str x)):=λ_ _ _ H _ I h=>Calls.Constant_str ⟨.str x,H,I.tok _,⟨_,rfl⟩,h⟩
def Gl(X:Cx)(x:Str):Prop:=X.env.kindOf x=some .globalImplicit
theorem jel  (I:Inv X pins σ H s) (a:Gl X x) (b:X.mg x=some u) (h:Q u s)
  (hd:(x==("__debug__" : Str))=false:=by decide):wpAny (model X.prog X.w) X.A (eval (.Name x pos) X.env) Q E s :=
 Calls.Name_function_global I.ok.kind a (Calls.loadGlobal_global (by rw[I.ok.glob];exact I.mod.glob.keeps I.bk) b h) hd
theorem VW  (I:Inv X pins σ H s) (a:Gl X x) (b:X.mg x=none) (c:bootBuiltins x=some u) (h:Q u s)
  (hn:x≠"__name__":=by decide) (hd:(x==("__debug__" : Str))=false:=by decide):wpAny (model X.prog X.w) X.A (eval (.Name x pos) X.env) Q E s:=by
 obtain⟨f,d,e⟩:=I.mod.blt;exact Calls.Name_function_global I.ok.kind a (Calls.loadGlobal_builtin (by rw[I.ok.glob];exact I.mod.glob.keeps I.bk) b (by rw[I.ok.blt];exact d.keeps I.bk) ((e x hn).trans c) h) hd
theorem jhS  (a:Gl X x) (b:X.mg x=none) (c:bootBuiltins x=some u) (r:RelV v u) (hn:x≠"__name__":=by decide) (hd:(x==("__debug__" : Str))=false:=by decide):PE X (.Name x pos) (tC v) :=
 λ_ _ _ H _ I h=>VW I a b c ⟨v,H,I,r,h⟩ hn hd
variable {a b:Expr}{ta tb:TE}{pos:Pos}
def PC(X:Cx)(op:CmpOp)(a b:Expr)(t:TE):Prop :=
 ∀(pins:List (Addr×Obj)) (s:Shared) (σ:St) (H:Hp) (Q:VK),Inv X pins σ H s->t σ H Q ->
  wpAny (model X.prog X.w) X.A (eval a X.env) (λv s₁=>wpAny (model X.prog X.w) X.A (eval b X.env) (λu s₂=>wpAny (model X.prog X.w) X.A (compareOp op v u) (EP X pins σ Q) X.xe s₂) X.xe s₁) X.xe s
theorem jfZ(b:Expr)  (h:op≠.In) (h2:op≠.NotIn):behindInMarks op b=false:=by
 have a:(op==CmpOp.In)=false:=by cases op<;>first | rfl | exact absurd rfl h
 have c:(op==CmpOp.NotIn)=false:=by cases op<;>first | rfl | exact absurd rfl h2
 cases b<;>simp[behindInMarks,a,c]
def tB(t:TE):TT:=λσ H Q=>t σ H λx H1=>∃ c,x=.bl c/\Q c H1
theorem jlG  (h:PC X op a b t) (h1:behindInMarks op b=false:=by first | exact jfZ _ (by decide) (by decide) | rfl):PE X (.Compare a [op] [b] pos) t:=λc s σ H Q I d=>wpAny_Compare1 (h c s σ H Q I d) h1
theorem jj0  (h:PE X e t) (b:∀ whole,isTrue e X.env whole=(do let v <- whole;standAt e.pos;holding [v] (truthy v)):=by intro _;rfl):PT X e (tB t):=by
 intro a s σ H Q I c;refine isTrue_plain (thn (h a s σ H _ I c) λv k ⟨x,f,g,i,j⟩=>?_) (b _);obtain⟨d,rfl,q⟩:=j;cases i;exact wpAny_truthy_bool ⟨f,g,q⟩
variable {tA tB':TT}{rest:List Expr}
def jmC(t u:TT):TT:=λσ H Q=>t σ H λc H1=>if c=true then u σ H1 Q else Q false H1
def tOr(t u:TT):TT:=λσ H Q=>t σ H λc H1=>if c=true then Q true H1 else u σ H1 Q
def jmy(t:TT):TT:=λσ H Q=>t σ H λc H1=>Q (!c) H1
theorem jhO(d:PT X a tA):PW X (.BoolOp .And [a] pos) tA:=by
 intro f b s σ H Q I h;refine isTrue_and (thn (d b s σ H Q I h) λc g e=>?_);cases c with
 | true=>exact isTrue_and_nil e
 | false=>exact e
theorem jk6(d:PT X a tA):PW X (.BoolOp .Or [a] pos) tA:=by
 intro f b s σ H Q I h;refine isTrue_or (thn (d b s σ H Q I h) λc g e=>?_);cases c with
 | false=>exact isTrue_or_nil e
 | true=>exact e
theorem jkW(i:PT X a tA)(j:PW X (.BoolOp .And (b::rest) pos) tB'):PW X (.BoolOp .And (a::b::rest) pos) (jmC tA tB'):=by
 intro k d s σ H Q I h;refine isTrue_and (thn (i d s σ H _ I h) λc l ⟨e,f,g⟩=>?_);cases c with
 | true=>exact j k d l σ e Q f g
 | false=>exact⟨e,f,g⟩
theorem jl9(i:PT X a tA)(j:PW X (.BoolOp .Or (b::rest) pos) tB'):PW X (.BoolOp .Or (a::b::rest) pos) (tOr tA tB'):=by
 intro k d s σ H Q I h;refine isTrue_or (thn (i d s σ H _ I h) λc l ⟨e,f,g⟩=>?_);cases c with
 | true=>exact⟨e,f,g⟩
 | false=>exact j k d l σ e Q f g
theorem jk5(d:PT X a tA):PT X (.UnaryOp .Not a pos) (jmy tA):=by
 intro b s σ H Q I h;exact isTrue_not (d b s σ H (λc e=>Q (!c) e) I h)
def jjb(ta tb:TE):TE:=λσ H Q=>ta σ H λx H1=>∃ c,x=.bl c/\if c=true then tb σ H1 Q else Q (.bl false) H1
def jl1(ta tb:TE):TE:=λσ H Q=>ta σ H λx H1=>∃ c,x=.bl c/\if c=true then Q (.bl true) H1 else tb σ H1 Q
def jiw(ta:TE):TE:=λσ H Q=>ta σ H λx H1=>∃ c,x=.bl c/\Q (.bl (!c)) H1
theorem jlo{op}(h:PE X a t):PE X (.BoolOp op [a] pos) t:=λb s σ H Q I c=>BoolOp_one (h b s σ H Q I c)
theorem jko(i:PE X a ta)(j:PE X (.BoolOp .And (b::rest) pos) tb):PE X (.BoolOp .And (a::b::rest) pos) (jjb ta tb):=by
 intro d s σ H Q I h;refine BoolOp_and (thn (i d s σ H _ I h) λv k ⟨x,f,g,l,e⟩=>?_);obtain⟨c,rfl,e⟩:=e;cases l;refine wpAny_truthy_bool ?_;cases c with
 | true=>exact j d k σ f Q g e
 | false=>exact⟨.bl false,f,g,rfl,e⟩
theorem jme(i:PE X a ta)(j:PE X (.BoolOp .Or (b::rest) pos) tb):PE X (.BoolOp .Or (a::b::rest) pos) (jl1 ta tb):=by
 intro d s σ H Q I h;refine BoolOp_or (thn (i d s σ H _ I h) λv k ⟨x,f,g,l,e⟩=>?_);obtain⟨c,rfl,e⟩:=e;cases l;refine wpAny_truthy_bool ?_;cases c with
 | false=>exact j d k σ f Q g e
 | true=>exact⟨.bl true,f,g,rfl,e⟩
theorem jlt(e:PE X a ta):PE X (.UnaryOp .Not a pos) (jiw ta):=by
 intro b s σ H Q I h;refine UnaryOp_ (thn (e b s σ H _ I h) λv j ⟨x,f,g,i,d⟩=>?_);obtain⟨c,rfl,d⟩:=d;cases i;exact not_of (wpAny_truthy_bool ⟨.bl (!c),f,g,rfl,d⟩)
def tIf(t:TT)(ta tb:TE):TE:=λσ H Q=>t σ H λc H1=>if c=true then ta σ H1 Q else tb σ H1 Q
theorem jgM  (k:PT X c tA) (l:PE X a ta) (m:PE X b tb):PE X (.IfExp c a b pos) (tIf tA ta tb):=by
 intro e s σ H Q I h;refine wpAny_IfExp (thn (k e s σ H _ I h) λd f ⟨g,i,j⟩=>?_);cases d with
 | true=>exact l e f σ g Q i j
 | false=>exact m e f σ g Q i j
end
def SqL(K:PySem.W.Frag)(H:Hp)(a:Addr)(xs:List V):Prop :=
 Rd H a (.lst xs) \/
  ∃(o:Obj) (its:Array Value) (n:Nat),K.lookup a=some o/\o.cls=.type "list"/\o.dict=none/\o.data=.seq its n/\its.size<=sizeLine/\Vals xs its.toList
def SqT(K:PySem.W.Frag)(H:Hp)(a:Addr)(xs:List V):Prop :=
 Rd H a (.tup xs) \/
  ∃(o:Obj) (its:Array Value) (n:Nat),K.lookup a=some o/\o.cls=.type "tuple"/\o.data=.seq its n/\its.size<=sizeLine/\Vals xs its.toList
def jnk:Value->Option V
 | .none=>some .non
 | .bool b=>some (.bl b)
 | .int i _=>some (.int i)
 | .str x _=>some (.str x)
 | .bytes b _=>some (.byt b)
 | .float b _=>some (.flt b)
 | .ref a=>some (.ref a)
 | .type n=>some (.ty n)
 | _=>none
theorem RelV.abs  (r:RelV x u):jnk u=some x:=by
 cases x with
 | non=>cases r;rfl
 | bl _=>cases r;rfl
 | int _=>obtain⟨t,rfl⟩:=r;rfl
 | str _=>obtain⟨t,rfl⟩:=r;rfl
 | byt _=>obtain⟨t,rfl⟩:=r;rfl
 | flt _=>obtain⟨t,rfl⟩:=r;rfl
 | ref _=>cases r;rfl
 | ty _=>cases r;rfl
theorem RelV.inj  (r:RelV x u) (q:RelV y u):x=y:=X6 (r.abs.symm.trans q.abs)
theorem Vals.inj:∀{xs ys:List V}{us:List Value},Vals xs us->Vals ys us->xs=ys
 | _,_,_,.nil,.nil=>rfl
 | _,_,_,.cons r t,.cons a b=>by rw[r.inj a,Vals.inj t b]
section
variable {X:Cx}{pins:List (Addr×Obj)}{σ:St}{H:Hp}{s:Shared}{a:Addr}{xs ys:List V}
theorem SqL.of{K:PySem.W.Frag}(h:H a=some (.lst xs)):SqL K H a xs:=.inl (.inl h)
theorem Inv.list(I:Inv X pins σ H s)(h:SqL X.K H a xs):∃ its:List Value,Vals xs its/\PlainL s.heap a its.toArray/\xs.length<=sizeLine:=by
 rcases h with h | ⟨o,its,n,b,c,hd,d,f,r⟩
 ·obtain⟨z,its,n,r,e⟩:=h.ok I.hok;exact⟨its,r,⟨_,n,e,rfl,rfl,rfl⟩,z⟩
 ·refine⟨its.toList,r,⟨o,n,I.kIn a o b,c,hd,by simpa using d⟩,?_⟩;have e:=r.length;simp only[Array.length_toList] at e;omega
theorem Inv.tuple(I:Inv X pins σ H s)(h:SqT X.K H a xs):∃ its:List Value,Vals xs its/\IsTup s.heap a its.toArray/\xs.length<=sizeLine:=by
 rcases h with h | ⟨o,its,n,b,c,d,f,r⟩
 ·obtain⟨z,its,r,p⟩:=h.ok I.hok;exact⟨its,r,p.1,z⟩
 ·refine⟨its.toList,r,⟨o,I.kIn a o b,c,n,by simpa using d⟩,?_⟩;have e:=r.length;simp only[Array.length_toList] at e;omega
theorem Inv.list_inj(I:Inv X pins σ H s)(h:SqL X.K H a xs)(h':SqL X.K H a ys):xs=ys:=by
 obtain⟨c,r,⟨o,n,e,_,_,d⟩,_⟩:=I.list h;obtain⟨b,i,⟨j,k,f,_,_,g⟩,_⟩:=I.list h';rw[e] at f;cases f;rw[d] at g;injection g with d1 _;have:c=b:=by simpa using congrArg Array.toList d1
 subst this;exact r.inj i
theorem Inv.tuple_inj(I:Inv X pins σ H s)(h:SqT X.K H a xs)(h':SqT X.K H a ys):xs=ys:=by
 obtain⟨c,r,⟨o,e,_,n,d⟩,_⟩:=I.tuple h;obtain⟨b,i,⟨j,f,_,k,g⟩,_⟩:=I.tuple h';rw[e] at f;cases f;rw[d] at g;injection g with d1 _;have:c=b:=by simpa using congrArg Array.toList d1
 subst this;exact r.inj i
end
abbrev Cx.wish(X:Cx)(E:Value->Shared->Prop):Cx:={ X with xe:=E }
abbrev Cx.nox(X:Cx):Cx:=X.wish λ_ _=>False
theorem Cx.Ok.wish{X:Cx}(ok:X.Ok)(E:Value->Shared->Prop):(X.wish E).Ok :=
 ⟨ok.mod,ok.kind,ok.glob,ok.blt,ok.above,ok.inj,ok.has,ok.cab,ok.hd,ok.frames,ok.stk,ok.exf,ok.bs,ok.bsz,ok.noex,ok.exfs,ok.funs,ok.frf⟩
theorem Cx.Ok.unwish{X:Cx}{E:Value->Shared->Prop}(ok:(X.wish E).Ok):X.Ok :=
 ⟨ok.mod,ok.kind,ok.glob,ok.blt,ok.above,ok.inj,ok.has,ok.cab,ok.hd,ok.frames,ok.stk,ok.exf,ok.bs,ok.bsz,ok.noex,ok.exfs,ok.funs,ok.frf⟩
section
variable {X:Cx}{pins:List (Addr×Obj)}{σ:St}{H:Hp}{s:Shared}{E:Value->Shared->Prop}
theorem Inv.wish(I:Inv X pins σ H s)(E:Value->Shared->Prop):Inv (X.wish E) pins σ H s:=⟨I.ok.wish E,I.os,I.bare,I.base,I.loc,I.cell,I.free,I.freeC,I.pin,I.hok,I.len⟩
theorem Inv.unwish(I:Inv (X.wish E) pins σ H s):Inv X pins σ H s:=⟨I.ok.unwish,I.os,I.bare,I.base,I.loc,I.cell,I.free,I.freeC,I.pin,I.hok,I.len⟩
theorem SP.unwish  (h:SP (X.wish E) pins D f s'):SP X pins D f s':=by
 cases f with
 | next=>obtain⟨a,b,I,q⟩:=h;exact⟨a,b,I.unwish,q⟩
 | brk=>obtain⟨a,b,I,q⟩:=h;exact⟨a,b,I.unwish,q⟩
 | cont=>obtain⟨a,b,I,q⟩:=h;exact⟨a,b,I.unwish,q⟩
 | ret u=>obtain⟨v,a,b,I,r,q⟩:=h;exact⟨v,a,b,I.unwish,r,q⟩
theorem PSs.nox{st:List Stmt}{t:TS}(h:PSs X.nox st t):PSs X st t:=λa s σ H D I b =>
 wpAny_mono (h a s σ H D (I.wish _) b) (λ_ _ q=>q.unwish) λ_ _ z=>False.elim z
end
section
variable {X:Cx}{st:Stmt}{rest:List Stmt}{t u:TS}{e:Expr}{te:TE}{pos:Pos}
def jiB:TS:=λD σ H=>D.nx σ H
def jk7(t u:TS):TS:=λD σ H=>t { D with nx:=u D } σ H
theorem jhq:PSs X [] jiB:=λ_ _ σ H _ I h=>wpAny_execs_nil ⟨σ,H,I,h⟩
theorem jb1(h1:PS X st t)(h2:PSs X rest u):PSs X (st::rest) (jk7 t u):=by
 intro a s σ H D I h;refine wpAny_execs_cons (thn (h1 a s σ H { D with nx:=u D } I h) λf b q=>?_);cases f with
 | next =>
  obtain⟨c,d,e,q⟩:=q;exact h2 a b c d D e q
 | ret v=>exact q
 | brk=>exact q
 | cont=>exact q
theorem jdA(h1:PS X st t):PSs X [st] t:=by
 intro a s σ H D I h;refine wpAny_execs_cons (thn (h1 a s σ H D I h) λf b q=>?_);cases f with
 | next=>exact wpAny_execs_nil q
 | ret v=>exact q
 | brk=>exact q
 | cont=>exact q
theorem Inv.quiet  (I:Inv X pins σ H s):interactive X.env=false:=by simp[interactive,I.ok.kind]
def zD(te:TE):TS:=λD σ H=>te σ H λ_ H1=>D.nx σ H1
theorem xu(b:PE X e te)(c:swapsWith e none pos.line X.env=pure false:=by rfl):PS X (.Expr e pos) (zD te):=by
 intro a s σ H D I h;exact wpAny_Expr_any (thn (b a s σ H _ I h) λv i ⟨x,d,f,j,g⟩=>⟨σ,d,f,g⟩) I.quiet c
def jlZ(te:TE):TS:=λD σ H=>te σ H D.rt
theorem jlF(b:PE X e te):PS X (.Return (some e) pos) (jlZ te):=by
 intro a s σ H D I h;exact wpAny_Return_some (thn (b a s σ H _ I h) λv i ⟨x,c,d,f,g⟩=>⟨x,σ,c,d,f,g⟩)
def jjY(c:TT)(t u:TS):TS:=λD σ H=>c σ H λb H1=>if b=true then t D σ H1 else u D σ H1
theorem jlx  (k:PT X c tc) (l:PSs X a t) (m:PSs X b u):PS X (.If c a b pos) (jjY tc t u):=by
 intro e s σ H D I h;refine wpAny_If (thn (k e s σ H _ I h) λd f ⟨g,i,j⟩=>?_);cases d with
 | true=>exact l e f σ g D i j
 | false=>exact m e f σ g D i j
end
abbrev TG:=V->St->Hp->(St->Hp->Prop)->Prop
abbrev TGs:=List V->St->Hp->(St->Hp->Prop)->Prop
def PG(X:Cx)(target:Expr)(t:TG):Prop :=
 ∀(pins:List (Addr×Obj)) (s:Shared) (σ:St) (H:Hp) (v:V) (u:Value) (Q:St->Hp->Prop),Inv X pins σ H s->RelV v u->t v σ H Q ->
  wpAny (model X.prog X.w) X.A (assign target X.env u) (λ_ s'=>∃ σ' H',Inv X pins σ' H' s'/\Q σ' H') X.xe s
def PGs(X:Cx)(ts:List Expr)(t:TGs):Prop :=
 ∀(pins:List (Addr×Obj)) (s:Shared) (σ:St) (H:Hp) (vs:List V) (us:List Value) (Q:St->Hp->Prop),Inv X pins σ H s->Vals vs us->t vs σ H Q ->
  wpAny (model X.prog X.w) X.A (assignInOrder ((assignEach ts X.env).map (·.2)) us) (λ_ s'=>∃ σ' H',Inv X pins σ' H' s'/\Q σ' H') X.xe s
section
variable {X:Cx}{pos:Pos}
def zm(i:Nat):TG:=λv σ H Q=>Q (σ.set i (some v)) H
theorem jjk  (b:X.N.Nodup) (hi:X.N[i]?=some x) (c:Loc X.env.scope x) (d:X.fn x=true \/ X.env.scope.names.lookup x=some .local:=by first | exact .inl rfl | exact .inr rfl | assumption):PG X (.Name x pos) (zm i):=by
 intro a s σ H v u Q I r h;exact wpAny_assign_Name (wG I b hi c r (λf e=>⟨_,H,e,h⟩) d)
def jmT:TGs:=λvs σ H Q=>vs=[]/\Q σ H
def jiu(t:TG)(u:TGs):TGs:=λvs σ H Q=>∃ v r,vs=v::r/\t v σ H λσ' H'=>u r σ' H' Q
theorem jjd:PGs X [] jmT:=by
 intro a s σ H b c Q I r h;obtain⟨e,h⟩:=h;subst e;cases r;exact assignInOrder_nil ⟨σ,H,I,h⟩
theorem jfY  (h1:PG X e t) (h2:PGs X es u)
  (b:(assignEach (e::es) X.env).map (·.2)=assign e X.env::(assignEach es X.env).map (·.2):=by rfl):PGs X (e::es) (jiu t u):=by
 intro a s σ H l m Q I r h;obtain⟨v,n,c,h⟩:=h;subst c;cases r with
 | cons r d =>
  rw[b];refine assignInOrder_cons (thn (h1 a s σ H _ _ _ I r h) λ_ f ⟨g,i,j,k⟩=>?_);exact h2 a f g i _ _ Q j d k
def jlX(K:PySem.W.Frag)(n:Nat)(t:TGs):TG:=λv σ H Q=>∃ a xs,v=.ref a/\SqT K H a xs/\xs.length=n/\t xs σ H Q
theorem jkb  (i:X.calm=true) (h:PGs X es t)
  (hn:(assignEach es X.env).length=n:=by rfl) (d:(assignEach es X.env).findIdx? (·.1)=none:=by rfl):PG X (.Tuple es k pos) (jlX X.K n t):=by
 intro c s σ H v u Q I r f;obtain⟨a,j,l,m,p,f⟩:=f;subst l;cases r;obtain⟨q,g,w,A⟩:=I.tuple m;refine assign_Tuple_tuple (I.ok.hd i) w (by simp[hn,<- p,g.length]) d λx y=>?_;have z:Inv X c σ H { s with heap:=x }:=I.kept (t':=s.toks) λb o e=>y b o (N7 (N0 e)) e;exact h c _ σ H j _ Q z (by simpa using g) f
def jfp(te:TE)(g:TG):TS:=λD σ H=>te σ H λx H1=>g x σ H1 D.nx
theorem jj4  (b:PE X e te) (c:PG X tg g) (d:swapsWithSole [tg] e pos.line X.env=pure false:=by rfl) (f:swappedStores [tg] e X.env=pure none:=by rfl)
  (h1:(assignEach [tg] X.env).map (·.2)=[assign tg X.env]:=by rfl):PS X (.Assign [tg] e pos) (jfp te g):=by
 intro a s σ H D I h;refine wpAny_Assign_stores (thn (b a s σ H _ I h) λv i ⟨x,j,k,l,m⟩=>?_) d f;rw[h1];exact thn (c a i σ j x v _ k l m) λ_ n q=>q
theorem jgQ  (b:X.N.Nodup) (hi:X.N[i]?=some x) (c:Loc X.env.scope x) (d:PE X e te) (f:swapsWith e (some (.Name x pos')) pos.line X.env=pure false:=by rfl) (g:X.fn x=true \/ X.env.scope.names.lookup x=some .local:=by first | exact .inl rfl | exact .inr rfl | assumption) :
  PS X (.Assign [.Name x pos'] e pos) (jfp te (zm i)):=by
 intro a s σ H D I h;refine wpAny_Assign_Name (thn (d a s σ H _ I h) λv o ⟨y,j,k,l,m⟩=>?_) f;exact wG k b hi c l (λp n=>⟨_,j,n,m⟩) g
end
structure It where
 go:Nat->Hp->Prop
 yld:Nat->Hp->V->Hp->Prop
 stop:Nat->Hp->Prop
def jch(X:Cx)(pins:List (Addr×Obj))(H:Hp)(b:Addr):Prop :=
 H b=none/\b≠X.env.locals/\b∉X.fs/\(b∈X.ex \/ X.s₀.heap.objs.size<=b)/\(∀ x c,X.env.cells.lookup x=some c->c≠b)/\∀ p∈X.pn++pins,p.1≠b
theorem Inv.fpOk  (I:Inv X pins σ H s) (a:s.heap.objs.size<=b) (hn:H' b=none):jch X pins H' b:=by
 refine⟨hn,Nat.ne_of_gt (U5 I.lt a),I.nofs a,.inr (N8 I.sz a),λx c e z=>?_,λp d z=>?_⟩
 ·obtain⟨v,q⟩:=I.cell x c e;exact absurd (U5 q.lt (by rw[z];exact a)) (Nat.lt_irrefl _)
 ·exact absurd (U5 (N0 (I.pin p d).1) (by rw[z];exact a)) (Nat.lt_irrefl _)
structure Turn(P:Program)(w:World)(K:PySem.W.Frag)(tg:Expr)(J:It)(fp:List Addr)(it:Addr)(tn:Nat->Heap->Prop):Prop where
 mem:it∈fp
 obj:∀ i h,tn i h->∀ b∈fp,∃ o,h.get? b=some o/\∀ v,o.data≠.cell v
 keep:∀ i h h',tn i h->(∀ b∈fp,∀ o,h.get? b=some o->h'.get? b=some o)->tn i h'
 item:∀(X:Cx),X.prog=P->X.w=w->X.K=K->X.calm=true->∀(i:Nat) (pins:List (Addr×Obj)) (s:Shared) (σ:St) (H:Hp) (E:Value->Shared->Prop),Inv X pins σ H s->(∀ b∈fp,jch X pins H b)->tn i s.heap->J.go i H ->
  wpAny (model P w) X.A (pyNext (.ref it)) (λr s1=>∃ u,r=some u /\
   wpAny (model P w) X.A (letOwnedTupleGo tg (.ref it) u) (λ_ s2=>∃ x H',Inv X pins σ H' s2/\RelV x u/\J.yld i H x H'/\tn (i+1) s2.heap/\∀ b∈fp,H' b=none) E s1) E s
 done:∀(X:Cx),X.prog=P->X.w=w->X.K=K->X.calm=true->∀(i:Nat) (pins:List (Addr×Obj)) (s:Shared) (σ:St) (H:Hp) (E:Value->Shared->Prop),Inv X pins σ H s->(∀ b∈fp,jch X pins H b)->tn i s.heap->J.stop i H ->
  wpAny (model P w) X.A (pyNext (.ref it)) (λr s1=>r=none/\Inv X pins σ H s1) E s
 self:∀(A:Around) (i:Nat) (s:Shared) (Q:Value->Shared->Prop) (E:Value->Shared->Prop),tn i s.heap->Q (.ref it) s->wpAny (model P w) A (pyIter (.ref it)) Q E s
abbrev TI:=St->Hp->(It->Hp->Prop)->Prop
def PIE(X:Cx)(pins:List (Addr×Obj))(σ:St)(tg:Expr)(R:It->Hp->Prop)(itv:Value)(s2:Shared):Prop :=
 ∃(it:Addr) (fp:List Addr) (tn:Nat->Heap->Prop) (J:It) (H':Hp),itv=.ref it/\Inv X pins σ H' s2/\Turn X.prog X.w X.K tg J fp it tn/\tn 0 s2.heap/\(∀ b∈fp,jch X pins H' b)/\R J H'
def PI(X:Cx)(tg iter:Expr)(wi:TI):Prop :=
 ∀(pins:List (Addr×Obj)) (s:Shared) (σ:St) (H:Hp) (R:It->Hp->Prop),Inv X pins σ H s->wi σ H R ->
  wpAny (model X.prog X.w) X.A (eval iter X.env) (λv s1=>wpAny (model X.prog X.w) X.A (pyIter v) (PIE X pins σ tg R) X.xe s1) X.xe s
theorem jdp  (b:s.heap.get? it=some o) (c:o.cls=.type n) (hd:o.data=.fields vs)
  (hn:["enumerate","zip","dict_itemiterator","dict_reverseitemiterator","odict_iterator","itertools.zip_longest","itertools.pairwise"].contains n=false) (a:Q () s):wpAny M A (letOwnedTupleGo tg (.ref it) u) Q E s:=by
 unfold letOwnedTupleGo;cases tg<;>first
  | exact M6 a
  | (cases u<;>first
    | exact M6 a
    | (refine L1 (wpAny_load b ?_)
       rw[c,hd];show wpAny M A (if(["enumerate","zip","dict_itemiterator","dict_reverseitemiterator","odict_iterator","itertools.zip_longest","itertools.pairwise"].contains n&&vs[0]?==some (rawInt _))=true then _ else _) Q E s;rw[if_neg (by intro h;rw[hn,Bool.false_and] at h;cases h)];exact M6 a))
def Itl(K:PySem.W.Frag)(a:Addr):It :=
 ⟨λi H=>∃ xs x,SqL K H a xs/\xs[i]?=some x,λi H x H'=>H'=H/\∀ xs,SqL K H a xs->xs[i]?=some x,λi H=>∃ xs,SqL K H a xs/\xs.length<=i⟩
def Itt(K:PySem.W.Frag)(a:Addr):It :=
 ⟨λi H=>∃ xs x,SqT K H a xs/\xs[i]?=some x,λi H x H'=>H'=H/\∀ xs,SqT K H a xs->xs[i]?=some x,λi H=>∃ xs,SqT K H a xs/\xs.length<=i⟩
def Itr(lo:Int)(n:Nat):It:=⟨λi _=>i < n,λi H x H'=>H'=H/\x=.int (lo+i),λi _=>n<=i⟩
theorem jdm{P:Program}{w:World}{K:PySem.W.Frag}{tg:Expr}(a it:Addr):Turn P w K tg (Itl K a) [it] it (λi h=>h.IsListIter it a i) where
 mem:=by simp
 obj:=λi h f b j=>by
  have e:b=it:=by simpa using j
  subst e;obtain⟨o,e,c,d⟩:=f;exact⟨o,e,λv z=>by rw[d] at z;cases z⟩
 keep:=λi h m f k=>f.at λo e=>k it (by simp) o e
 item:=by
  intro X r t y N i g s σ H E I n f A;subst r t y;obtain⟨O,x,q,B⟩:=A;obtain⟨C,D,p,Q⟩:=I.list q;obtain⟨u,R,S⟩:=D.get B;obtain⟨F,G,T,J,L,M⟩:=n it (by simp);refine wpAny_pyNext_list_item f p.isList (x:=u) (by simpa using R) λm l U=>?_;have V:Inv X g σ H { s with heap:=m }:=I.turned (t':=s.toks) (λb o j e=>(U.2 b j).trans e) F G J L M;obtain⟨o,e,c,d⟩:=id l;exact⟨u,rfl,jdp (s:={ s with heap:=m }) e c d (by decide) ⟨x,H,V,S,⟨rfl,λys Y=>by rw[I.list_inj Y q];exact B⟩,l,λb j=>(n b j).1⟩⟩
 done:=by
  intro X r t y N i g s σ H E I n f A;subst r t y;obtain⟨O,q,B⟩:=A;obtain⟨C,D,p,Q⟩:=I.list q;obtain⟨F,G,T,J,L,M⟩:=n it (by simp);have hl:=D.length;exact wpAny_pyNext_list_end (I.ok.hd N) f p.isList (by simp;omega) λm Z=>⟨rfl,I.turned (t':=s.toks) (λb o j e=>Z b o j e) F G J L M⟩
 self:=λ_ _ _ _ _ f h=>wpAny_pyIter_listiter f h
theorem jco{P:Program}{w:World}{K:PySem.W.Frag}{tg:Expr}(a it:Addr):Turn P w K tg (Itt K a) [it] it (λi h=>h.IsTupleIter it a i) where
 mem:=by simp
 obj:=λi h f b j=>by
  have e:b=it:=by simpa using j
  subst e;obtain⟨o,e,c,d⟩:=f;exact⟨o,e,λv z=>by rw[d] at z;cases z⟩
 keep:=λi h n f k=>f.at λo e=>k it (by simp) o e
 item:=by
  intro X t y A N i g s σ H E I q f B;subst t y A;obtain⟨O,x,r,C⟩:=B;obtain⟨l,D,p,Q⟩:=I.tuple r;obtain⟨u,R,S⟩:=D.get C;obtain⟨F,G,T,J,L,M⟩:=q it (by simp);refine wpAny_pyNext_tuple_item f (show s.heap.IsTuple a l.toArray from p) (x:=u) (by simpa using R) λn m U=>?_;have V:Inv X g σ H { s with heap:=n }:=I.turned (t':=s.toks) (λb o j e=>(U.2 b j).trans e) F G J L M;obtain⟨o,e,c,d⟩:=id m;exact⟨u,rfl,jdp (s:={ s with heap:=n }) e c d (by decide) ⟨x,H,V,S,⟨rfl,λys Y=>by rw[I.tuple_inj Y r];exact C⟩,m,λb j=>(q b j).1⟩⟩
 done:=by
  intro X t y A N i g s σ H E I q f B;subst t y A;obtain⟨O,r,C⟩:=B;obtain⟨l,D,p,Q⟩:=I.tuple r;obtain⟨F,G,T,J,L,M⟩:=q it (by simp);have hl:=D.length;exact wpAny_pyNext_tuple_end (I.ok.hd N) f (show s.heap.IsTuple a l.toArray from p) (by simp;omega) λn Z=>⟨rfl,I.turned (t':=s.toks) (λb o j e=>Z b o j e) F G J L M⟩
 self:=λ_ _ _ _ _ f h=>wpAny_pyIter_tupleiter f h
theorem jcp{P:Program}{w:World}{K:PySem.W.Frag}{tg:Expr}(it:Addr)(lo:Int)(n:Nat):Turn P w K tg (Itr lo n) [it] it (λi h=>IsRangeIter h it (lo+(i:Nat)*1) ((n:Int) - (i:Nat)) 1) where
 mem:=by simp
 obj:=λi h a b d=>by
  have e:b=it:=by simpa using d
  subst e;exact⟨_,a,λv z=>by
   have D:Data.fields _=Data.cell v:=z;cases D⟩
 keep:=λi h g a k=>k it (by simp) _ a
 item:=by
  intro X l m p q i c s σ H E I j a r;subst l m p;obtain⟨u,x,F,y,A,B⟩:=j it (by simp);have W:=Walks.range (prog:=X.prog) (w:=X.w) (I.ok.hd q) it lo 1 n;refine W.item i s _ _ r a λv g C G f J=>?_;obtain⟨t,rfl⟩:=G;have L:Inv X c σ H { s with heap:=g,toks:=C }:=I.turned (λb o d e=>J b o (by simpa using d) e) u x y A B;refine⟨_,rfl,jdp (s:={ s with heap:=g,toks:=C }) (n:="range_iterator") f rfl rfl (by decide) ⟨.int (lo+i),H,L,⟨t,?_⟩,⟨rfl,rfl⟩,f,λb d=>(j b d).1⟩⟩;rw[Int.mul_one]
 done:=by
  intro X l m p q i c s σ H E I j a r;subst l m p;obtain⟨u,x,F,y,A,B⟩:=j it (by simp);exact wpAny_pyNext_range_end (I.ok.hd q) a (by have:n<=i:=r;omega) λg M=>⟨rfl,I.turned (t':=s.toks) (λb o d e=>M b o d e) u x y A B⟩
 self:=λ_ _ _ _ _ a h=>wpAny_pyIter_rangeiter a h
section
variable {X:Cx}{tg:Expr}
theorem jgf{pins:List (Addr×Obj)}{s:Shared}{R:It->Hp->Prop}{E:Value->Shared->Prop}{lo hi:Int}{tk:Nat}(I:Inv X pins σ H s)(h1:-(2 ^ 62)<=lo)(h2:lo < 2 ^ 62)(c:-(2 ^ 62)<=hi)(d:hi < 2 ^ 62)
  (q:R (Itr lo (hi - lo).toNat) H):wpAny (model X.prog X.w) X.A (pyIter (.ref s.heap.objs.size)) (PIE X pins σ tg R) E { s with heap:=s.heap.push { cls:=.type "range",data:=.fields #[.int lo t,.int hi u,.int 1 v] },toks:=tk }:=by
 refine wpAny_pyIter_range (IsRange.new ..) (small_one h1 h2 c d) ?_;have a:Inv X pins σ H { s with heap:=s.heap.push { cls:=.type "range",data:=.fields #[.int lo t,.int hi u,.int 1 v] },toks:=tk }:=I.kept λb o e=>L7 _ e;refine⟨(s.heap.push { cls:=.type "range",data:=.fields #[.int lo t,.int hi u,.int 1 v] }).objs.size,[(s.heap.push { cls:=.type "range",data:=.fields #[.int lo t,.int hi u,.int 1 v] }).objs.size],_,_,H,rfl,
  a.kept (t':=tk) λb o e=>L7 _ e,jcp _ lo (hi - lo).toNat,?_,λb f=>?_,q⟩
 ·have g:lo+((0:Nat):Int)*1=lo:=by simp
  have h:(((hi - lo).toNat:Nat):Int) - ((0:Nat):Int)=Builtin.Range.rangeSize lo hi 1:=by rw[rangeSize_one];split<;>omega
  show IsRangeIter _ _ (lo+((0:Nat):Int)*1) ((((hi - lo).toNat:Nat):Int) - ((0:Nat):Int)) 1;rw[g,h];exact E1 _ rfl
 ·have e:b=(s.heap.push { cls:=.type "range",data:=.fields #[.int lo t,.int hi u,.int 1 v] }).objs.size:=by simpa using f
  subst e;exact a.fpOk (M8 _) (a.hok.fresh (M8 _))
def jid(ta:TA):TI:=λσ H R=>ta σ H λvs H1=>∃ j:Int,vs=[.int j]/\-(2 ^ 62)<=j/\j < 2 ^ 62/\R (Itr 0 j.toNat) H1
theorem jeh  (d:Gl X "range") (f:X.mg "range" = none) (g:PA X [a] ta) (i:starEach [a] X.env=[(false,eval a X.env)]:=by rfl):PI X tg (.Call (.Name "range" p) [a] [] pos) (jid ta):=by
 intro b s σ H R I h;refine Call_ (VW I d f boot_range (PyProof.Rows.callWith_type1 (thn (g pos b s σ H _ I h) λo u ⟨v,w,k,l,c⟩=>?_) i rfl));obtain⟨j,e,c,m,q⟩:=c;subst e;cases l with
 | cons r n =>
  cases n;obtain⟨t,rfl⟩:=r;exact call_range_1 (jgf k (by omega) (by omega) c m (by simpa using q))
def jlm(wi:TI)(g:TG)(tb:TS):TS:=λD σ H=>wi σ H λJ H1=>∃ W:Nat->Nat->St->Hp->Prop,(∃ m,W 0 m σ H1)/\∀ i m σ H,W i m σ H ->
 (J.stop i H/\D.nx σ H) \/ (J.go i H/\∃ N:St->Hp->Prop,(∀ σ' H',N σ' H'->∃ m',m' < m/\W (i+1) m' σ' H')/\∀ x H',J.yld i H x H'->g x σ H' λσ2 H2=>tb { D with nx:=N,ct:=N,bk:=D.nx } σ2 H2)
def wu(fp:List Addr)(h:Heap):List (Addr×Obj):=fp.filterMap λb=>(h.get? b).map λo=>(b,o)
theorem VH  (a:b∈fp) (e:h.get? b=some o):(b,o)∈wu fp h:=List.mem_filterMap.mpr ⟨b,a,by rw[e];rfl⟩
theorem jdt  (a:p∈wu fp h):p.1∈fp/\h.get? p.1=some p.2:=by
 obtain⟨b,c,e⟩:=List.mem_filterMap.mp a;cases q:h.get? b with
 | none=>rw[q] at e;cases e
 | some o =>
  rw[q] at e;have d:(b,o)=p:=X6 e;subst d;exact⟨c,q⟩
theorem Inv.pinned  (I:Inv X pins σ H s) (f:∀ b∈fp,jch X pins H b) (g:∀ b∈fp,∃ o,s.heap.get? b=some o/\∀ v,o.data≠.cell v):Inv X (pins++wu fp s.heap) σ H s :=
 I.pins_of λp h=>(N1.mp h).elim (λz=>I.pin p (U4 _ z)) λz=>by
  obtain⟨a,e⟩:=jdt z;obtain⟨i,j,k,_⟩:=f p.1 a;obtain⟨o,c,d⟩:=g p.1 a;rw[e] at c;cases c;exact⟨e,i,j,k,d⟩
theorem Inv.unpinned  (I:Inv X (pins++pl) σ H s):Inv X pins σ H s:=I.pins_of λp a=>I.pin p (U4 _ (List.mem_append_left _ a))
theorem jhj  (z:PassesOwn (model X.prog X.w) X.A X.env X.xe) (S:X.calm=true) (hi:PI X tg iter wi) (hg:PG X tg g) (c:PSs X body tb)
  (hs:∀ x,foldedSetIterable iter X.env x=pure x:=by intro _;rfl):PS X (.For tg iter body [] pos) (jlm wi g tb):=by
 intro a s σ H D I h;refine wpAny_For (thn (hi a s σ H _ I h) λv s1 h1=>thn h1 λitv s2 h2=>?_) hs;obtain⟨it,B,U,J,H2,e,I2,T,M,V,W,⟨m0,w0⟩,turn⟩:=h2;subst e
 -- what stays true of the iterator's objects through the loop
 have j:∀{q:Hp},(∀ b∈B,q b=none)->∀ b∈B,jch X a q b:=λhn b c=>⟨hn b c,(V b c).2⟩;refine codeAny_forLoop_any (λn Y=>∃ i C q,Inv X a C q Y/\U i Y.heap/\(∀ b∈B,q b=none)/\W i n C q) ?_ m0 ⟨0,σ,H2,I2,M,λb c=>(V b c).1,w0⟩;rintro n Z ⟨i,E,L,I3,F,G,w3⟩;rcases turn i n E L w3 with⟨stop,qn⟩ | ⟨go,N,hN,step⟩
 ·refine wpAny_passesOwn z (thn (T.done X rfl rfl rfl S i a Z E L X.xe I3 (j G) F stop) λr s4 ⟨O,I4⟩=>?_);subst O;exact wpAny_execs_nil ⟨E,L,I4,qn⟩
 ·refine wpAny_passesOwn z (thn (T.item X rfl rfl rfl S i a Z E L X.xe I3 (j G) F go) λr s4 ⟨u,O,h4⟩=>?_);subst O;refine wpAny_passesOwn z (thn h4 λ_ s5 ⟨x,H5,I5,r5,y5,y,P⟩=>?_);have Q:=I5.pinned (j P) (T.obj _ _ y);refine wpAny_passesOwn z (thn (hg _ s5 E H5 x u _ Q r5 (step x H5 y5)) λ_ s6 ⟨σ6,H6,I6,q6⟩=>?_);refine wpAny_passesOwn z (thn (c _ s6 σ6 H6 _ I6 q6) λf R t=>?_);have again:∀{k:St}{l:Hp},Inv X (a++wu B s5.heap) k l R->N k l->∃ m,m < n/\∃ i C q,Inv X a C q R/\U i R.heap/\(∀ b∈B,q b=none)/\W i m C q:=λ{k l} p K=>by
   obtain⟨m',hm,w7⟩:=hN k l K;refine⟨m',hm,i+1,k,l,p.unpinned,T.keep _ _ _ y λb c o e=>(p.pin (b,o) (U4 _ (U4 _ (VH c e)))).1,λb c=>?_,w7⟩;obtain⟨o,e,d⟩:=T.obj _ _ y b c;exact(p.pin (b,o) (U4 _ (U4 _ (VH c e)))).2.1
  cases f with
  | next=>obtain⟨k,l,p,K⟩:=t;exact again p K
  | cont=>obtain⟨k,l,p,K⟩:=t;exact again p K
  | brk=>obtain⟨k,l,p,t⟩:=t;exact⟨k,l,p.unpinned,t⟩
  | ret v=>obtain⟨x7,k,l,p,r7,t⟩:=t;exact⟨x7,k,l,p.unpinned,r7,t⟩
end
abbrev R2:=V->V->Hp->VK->Prop
def OpR(X:Cx)(f:Value->Value->Sem Value)(r:R2):Prop :=
 ∀(pins:List (Addr×Obj)) (s:Shared) (σ:St) (H:Hp) (x y:V) (v u:Value) (Q:VK),Inv X pins σ H s->RelV x v->RelV y u->r x y H Q ->
  wpAny (model X.prog X.w) X.A (f v u) (EP X pins σ Q) X.xe s
def UnR(X:Cx)(f:Value->Sem Value)(r:V->Hp->VK->Prop):Prop :=
 ∀(pins:List (Addr×Obj)) (s:Shared) (σ:St) (H:Hp) (x:V) (v:Value) (Q:VK),Inv X pins σ H s->RelV x v->r x H Q ->
  wpAny (model X.prog X.w) X.A (f v) (EP X pins σ Q) X.xe s
def KB(X:Cx)(f:Value)(r:List V->Hp->VK->Prop):Prop :=
 ∀(pins:List (Addr×Obj)) (s:Shared) (σ:St) (H:Hp) (xs:List V) (us:List Value) (Q:VK),Inv X pins σ H s->Vals xs us->r xs H Q ->
  wpAny (model X.prog X.w) X.A (call f us) (EP X pins σ Q) X.xe s
def tOp(r:R2)(ta tb:TE):TE:=λσ H Q=>ta σ H λx H1=>tb σ H1 λy H2=>r x y H2 Q
def tUn(r:V->Hp->VK->Prop)(ta:TE):TE:=λσ H Q=>ta σ H λx H1=>r x H1 Q
def rI(C:Int->Int->Prop)(g:Int->Int->V):R2:=λx y H Q=>∃ i j,x=.int i/\y=.int j/\C i j/\Q (g i j) H
def rI0(g:Int->Int->V):R2:=λx y H Q=>∃ i j,x=.int i/\y=.int j/\Q (g i j) H
def rU(g:Int->V):V->Hp->VK->Prop:=λx H Q=>∃ i,x=.int i/\Q (g i) H
section
variable {X:Cx}{a b c:Expr}{ta tb tc:TE}{pos:Pos}
theorem jmp(c:PE X a ta)(d:PE X b tb){pins:List (Addr×Obj)}{s:Shared}{R:V->V->Hp->Prop}(I:Inv X pins σ H s)
  (h:ta σ H λx H1=>tb σ H1 λy H2=>R x y H2) {Q:Value->Shared->Prop}{f:Value->Value->Sem Value}
  (e:∀ v u s2 x y H2,Inv X pins σ H2 s2->RelV x v->RelV y u->R x y H2->wpAny (model X.prog X.w) X.A (f v u) Q X.xe s2) :
  wpAny (model X.prog X.w) X.A (eval a X.env) (λv s₁=>wpAny (model X.prog X.w) X.A (eval b X.env) (λu s₂=>wpAny (model X.prog X.w) X.A (f v u) Q X.xe s₂) X.xe s₁) X.xe s:=by
 refine thn (c pins s σ H _ I h) λv g ⟨x,H1,i,j,k⟩=>?_;refine thn (d pins g σ H1 _ i k) λu s2 ⟨y,H2,l,m,n⟩=>?_;exact e v u s2 x y H2 l j m n
theorem jcu  (d:OpR X (binaryOp op) r) (e:PE X a ta) (f:PE X b tb):PE X (.BinOp a op b pos) (tOp r ta tb):=by
 intro c s σ H Q I h;exact wpAny_BinOp (jmp e f I h λv u g x y i j k l q=>d c g σ i x y v u Q j k l q)
theorem jmx  (c:UnR X (unaryOp op) r) (d:PE X a ta):PE X (.UnaryOp op a pos) (tUn r ta):=by
 intro b s σ H Q I h;exact UnaryOp_ (thn (d b s σ H _ I h) λv e ⟨x,f,g,i,j⟩=>c b e σ f x v Q g i j)
theorem opI{f:Value->Value->Sem Value}{C:Int->Int->Prop}{g:Int->Int->Int}
  (a:∀(i j:Int) (t u:Tok) (s:Shared) (Q:Value->Shared->Prop) (E:Value->Shared->Prop),C i j->Q (.int (g i j) s.toks) { s with toks:=s.toks+1 }->wpAny (model X.prog X.w) X.A (f (.int i t) (.int j u)) Q E s) :
  OpR X f (rI C λi j=>.int (g i j)):=by
 intro b s σ H x y v u Q I c d h;obtain⟨i,j,rfl,rfl,e,q⟩:=h;obtain⟨t,rfl⟩:=c;obtain⟨k,rfl⟩:=d;exact a i j t k s _ _ e ⟨.int (g i j),H,I.tok _,⟨_,rfl⟩,q⟩
theorem jnc{f:Value->Value->Sem Value}{g:Int->Int->Int}
  (a:∀(i j:Int) (t u:Tok) (s:Shared) (Q:Value->Shared->Prop) (E:Value->Shared->Prop),Q (.int (g i j) s.toks) { s with toks:=s.toks+1 }->wpAny (model X.prog X.w) X.A (f (.int i t) (.int j u)) Q E s) :
  OpR X f (rI0 λi j=>.int (g i j)):=by
 intro b s σ H x y v u Q I c d h;obtain⟨i,j,rfl,rfl,q⟩:=h;obtain⟨t,rfl⟩:=c;obtain⟨e,rfl⟩:=d;exact a i j t e s _ _ ⟨.int (g i j),H,I.tok _,⟨_,rfl⟩,q⟩
theorem jmg{f:Value->Value->Sem Value}{g:Int->Int->Bool}
  (a:∀(i j:Int) (t u:Tok) (s:Shared) (Q:Value->Shared->Prop) (E:Value->Shared->Prop),Q (.bool (g i j)) s->wpAny (model X.prog X.w) X.A (f (.int i t) (.int j u)) Q E s) :
  OpR X f (rI0 λi j=>.bl (g i j)):=by
 intro b s σ H x y v u Q I c d h;obtain⟨i,j,rfl,rfl,q⟩:=h;obtain⟨t,rfl⟩:=c;obtain⟨e,rfl⟩:=d;exact a i j t e s _ _ ⟨.bl (g i j),H,I,rfl,q⟩
def jmF(i j:Int):Prop:=0<=j/\j<=1000000/\i.natAbs < 2 ^ 64
theorem jkH:OpR X (binaryOp .Add) (rI0 λi j=>.int (i+j)):=jnc λ_ _ _ _ _ _ _ q=>add_int q
theorem jkd:OpR X (binaryOp .Sub) (rI0 λi j=>.int (i - j)):=jnc λ_ _ _ _ _ _ _ q=>sub_int q
theorem jkk:OpR X (binaryOp .Mod) (rI (λ_ j=>0 < j) λi j=>.int (i % j)):=opI λi j _ _ _ _ _ a q=>by
 have b:(0:Int) < j:=a;exact mod_int' (by omega) (by rw[Int.fmod_eq_emod_of_nonneg i (by omega)];exact q)
theorem jln:OpR X (binaryOp .Pow) (rI jmF λi j=>.int (i ^ j.toNat)):=opI λ_ _ _ _ _ _ _ a q=>pow_int_small a.1 a.2.1 a.2.2 q
theorem unI{f:Value->Sem Value}{g:Int->Int}
  (a:∀(i:Int) (t:Tok) (s:Shared) (Q:Value->Shared->Prop) (E:Value->Shared->Prop),Q (.int (g i) s.toks) { s with toks:=s.toks+1 }->wpAny (model X.prog X.w) X.A (f (.int i t)) Q E s) :
  UnR X f (rU λi=>.int (g i)):=by
 intro b s σ H x v Q I c h;obtain⟨i,rfl,q⟩:=h;obtain⟨t,rfl⟩:=c;exact a i t s _ _ ⟨.int (g i),H,I.tok _,⟨_,rfl⟩,q⟩
theorem jjX:UnR X (unaryOp .USub) (rU λi=>.int (-i)):=unI λ_ _ _ _ _ q=>neg_int q
end
def jmR:V->V->Bool
 | .non,.non=>true | .non,.int _=>true | .int _,.non=>true | .non,.bl _=>true | .bl _,.non=>true | .non,.str _=>true | .str _,.non=>true
 | .int _,.int _=>true | .bl _,.bl _=>true | .str _,.str _=>true | .byt _,.byt _=>true
 | .int _,.str _=>true | .str _,.int _=>true | .bl _,.str _=>true | .str _,.bl _=>true
 | _,_=>false
def rEq:R2:=λx y H Q=>jmR x y=true/\Q (.bl (decide (x=y))) H
def rNe:R2:=λx y H Q=>jmR x y=true/\Q (.bl (!decide (x=y))) H
theorem jbp  : decide (V.int i=V.int j)=(i==j):=by
 rw[Bool.eq_iff_iff];simp
theorem jdk  : decide (V.bl i=V.bl j)=(i==j):=by
 rw[Bool.eq_iff_iff];simp
theorem jdP  : decide (V.str i=V.str j)=(i==j):=by
 rw[Bool.eq_iff_iff];simp
theorem jdE  : decide (V.byt i=V.byt j)=(i.toList==j.toList):=by
 rw[Bool.eq_iff_iff];cases i;cases j;simp
section
variable {X:Cx}{a b c:Expr}{ta tb tc:TE}{pos:Pos}
theorem yE  (I:Inv X pins σ H s) (q:Q (.bl k) H) (e:k=k'):EP X pins σ Q (.bool k') s:=by
 subst e;exact⟨.bl k,H,I,rfl,q⟩
theorem jmn:OpR X (compareOp .Eq) rEq:=by
 intro e s σ H x y v u Q I d a h;obtain⟨c,q⟩:=h;cases x with
 | non =>
  cases d;cases y with
  | non=>cases a;exact PySem.EqNone.eq_none_none (yE I q (by simp))
  | bl j=>cases a;exact PySem.EqNone.eq_none_bool (yE I q (by simp))
  | int j=>obtain⟨b,rfl⟩:=a;exact PySem.EqNone.eq_none_int (yE I q (by simp))
  | str j=>obtain⟨b,rfl⟩:=a;exact PySem.EqNone.eq_none_str (yE I q (by simp))
  | _=>exact absurd (show false=true from c) M3
 | bl i =>
  cases d;cases y with
  | non=>cases a;exact PySem.EqNone.eq_bool_none (yE I q (by simp))
  | bl j=>cases a;exact eq_bool (yE I q jdk)
  | str j=>obtain⟨b,rfl⟩:=a;exact PySem.EqMixed.eq_bool_str (yE I q (by simp))
  | _=>exact absurd (show false=true from c) M3
 | int i =>
  obtain⟨t,rfl⟩:=d;cases y with
  | non=>cases a;exact PySem.EqNone.eq_int_none (yE I q (by simp))
  | int j=>obtain⟨b,rfl⟩:=a;exact eq_int (yE I q jbp)
  | str j=>obtain⟨b,rfl⟩:=a;exact PySem.EqMixed.eq_int_str (yE I q (by simp))
  | _=>exact absurd (show false=true from c) M3
 | str i =>
  obtain⟨t,rfl⟩:=d;cases y with
  | non=>cases a;exact PySem.EqNone.eq_str_none (yE I q (by simp))
  | bl j=>cases a;exact PySem.EqMixed.eq_str_bool (yE I q (by simp))
  | int j=>obtain⟨b,rfl⟩:=a;exact PySem.EqMixed.eq_str_int (yE I q (by simp))
  | str j=>obtain⟨b,rfl⟩:=a;exact eq_str (yE I q jdP)
  | _=>exact absurd (show false=true from c) M3
 | byt i =>
  obtain⟨t,rfl⟩:=d;cases y with
  | byt j=>obtain⟨b,rfl⟩:=a;exact PySem.W.eq_bytes (yE I q jdE)
  | _=>exact absurd (show false=true from c) M3
 | _=>cases y<;>exact absurd (show false=true from c) M3
theorem jl3:OpR X (compareOp .NotEq) rNe:=by
 intro e s σ H x y v u Q I d a h;obtain⟨c,q⟩:=h;cases x with
 | non =>
  cases d;cases y with
  | non=>cases a;exact PySem.EqNone.ne_none_none (yE I q (by simp))
  | bl j=>cases a;exact PySem.EqNone.ne_none_bool (yE I q (by simp))
  | int j=>obtain⟨b,rfl⟩:=a;exact PySem.EqNone.ne_none_int (yE I q (by simp))
  | str j=>obtain⟨b,rfl⟩:=a;exact PySem.EqNone.ne_none_str (yE I q (by simp))
  | _=>exact absurd (show false=true from c) M3
 | bl i =>
  cases d;cases y with
  | non=>cases a;exact PySem.EqNone.ne_bool_none (yE I q (by simp))
  | bl j=>cases a;exact ne_bool (yE I q (congrArg not jdk))
  | str j=>obtain⟨b,rfl⟩:=a;exact PySem.EqMixed.ne_bool_str (yE I q (by simp))
  | _=>exact absurd (show false=true from c) M3
 | int i =>
  obtain⟨t,rfl⟩:=d;cases y with
  | non=>cases a;exact PySem.EqNone.ne_int_none (yE I q (by simp))
  | int j=>obtain⟨b,rfl⟩:=a;exact ne_int (yE I q (congrArg not jbp))
  | str j=>obtain⟨b,rfl⟩:=a;exact PySem.EqMixed.ne_int_str (yE I q (by simp))
  | _=>exact absurd (show false=true from c) M3
 | str i =>
  obtain⟨t,rfl⟩:=d;cases y with
  | non=>cases a;exact PySem.EqNone.ne_str_none (yE I q (by simp))
  | bl j=>cases a;exact PySem.EqMixed.ne_str_bool (yE I q (by simp))
  | int j=>obtain⟨b,rfl⟩:=a;exact PySem.EqMixed.ne_str_int (yE I q (by simp))
  | str j=>obtain⟨b,rfl⟩:=a;exact ne_str (yE I q (congrArg not jdP))
  | _=>exact absurd (show false=true from c) M3
 | byt i =>
  obtain⟨t,rfl⟩:=d;cases y with
  | byt j=>obtain⟨b,rfl⟩:=a;exact PySem.W.ne_bytes (yE I q (congrArg not jdE))
  | _=>exact absurd (show false=true from c) M3
 | _=>cases y<;>exact absurd (show false=true from c) M3
theorem jlY:OpR X (compareOp .Lt) (rI0 λi j=>.bl (decide (i < j))):=jmg λ_ _ _ _ _ _ _ q=>lt_int q
theorem jm1:OpR X (compareOp .Gt) (rI0 λi j=>.bl (decide (j < i))):=jmg λ_ _ _ _ _ _ _ q=>gt_int q
theorem jmB:OpR X (compareOp .GtE) (rI0 λi j=>.bl (decide (j<=i))):=jmg λ_ _ _ _ _ _ _ q=>ge_int q
theorem jeH:OpR X (compareOp .In) (λx y H Q=>∃ i j,x=.str i/\y=.str j/\Q (.bl (!(Builtin.Str.occurrences j i 0 j.length 1).isEmpty)) H):=by
 intro a s σ H x y v u Q I b c h;obtain⟨i,j,rfl,rfl,q⟩:=h;obtain⟨t,rfl⟩:=b;obtain⟨d,rfl⟩:=c;exact in_str (yE I q rfl)
theorem u6:OpR X (compareOp .NotIn) (λx y H Q=>∃ i j,x=.str i/\y=.str j/\Q (.bl (!(!(Builtin.Str.occurrences j i 0 j.length 1).isEmpty))) H):=by
 intro a s σ H x y v u Q I b c h;obtain⟨i,j,rfl,rfl,q⟩:=h;obtain⟨t,rfl⟩:=b;obtain⟨d,rfl⟩:=c;exact notIn_str (yE I q rfl)
theorem jae(b:Expr)  (h:op≠.In:=by decide) (h2:op≠.NotIn:=by decide):behindInMarks op b=false:=by
 have a:(op==CmpOp.In)=false:=by cases op<;>first | rfl | exact absurd rfl h
 have c:(op==CmpOp.NotIn)=false:=by cases op<;>first | rfl | exact absurd rfl h2
 cases b<;>simp[behindInMarks,a,c]
theorem jih  (d:OpR X (compareOp op) r) (e:PE X a ta) (f:PE X b tb) (g:behindInMarks op b=false):PE X (.Compare a [op] [b] pos) (tOp r ta tb):=by
 intro c s σ H Q I h;exact wpAny_Compare1 (jmp e f I h λv u i x y j k l m q=>d c i σ j x y v u Q k l m q) g
def jjC(t:TE):TT:=λσ H Q=>t σ H λx H'=>∃ k,x=.bl k/\Q k H'
theorem jh7  (f:OpR X (compareOp op) r) (g:PE X a ta) (i:PE X b tb) (j:behindInMarks op b=false):PT X (.Compare a [op] [b] pos) (jjC (tOp r ta tb)):=by
 intro d s σ H Q I h;refine wpAny_isTrue_Compare1 (thn (g d s σ H _ I h) λv l ⟨x,m,n,o,p⟩=>thn (i d l σ m _ n p) λu q ⟨y,t,w,A,B⟩ =>
  thn (f d q σ t x y v u _ w o A B) λc G ⟨z,C,D,E,k,e,F⟩=>?_) j
 subst e;cases E;exact wpAny_truthy_bool ⟨C,D,F⟩
theorem jb2:(sizeLine:Nat) < 2 ^ 63:=by rw[sizeLine_eq];decide
theorem jck:OpR X (binaryOp .Add) (λx y H Q=>∃ i j,x=.str i/\y=.str j/\i.length+j.length<=sizeLine/\Q (.str (i++j)) H):=by
 intro a s σ H x y v u Q I b c h;obtain⟨i,j,rfl,rfl,d,q⟩:=h;obtain⟨t,rfl⟩:=b;obtain⟨e,rfl⟩:=c;exact add_str (λe f=>⟨.str (i++j),H,I.tok _,⟨_,rfl⟩,q⟩) d
theorem jly  (r:Vals [x] us):∃ u,us=[u]/\RelV x u:=by
 cases r with
 | cons a b=>cases b;exact⟨_,rfl,a⟩
theorem jlI  (r:Vals [x,y] us):∃ u w',us=[u,w']/\RelV x u/\RelV y w':=by
 cases r with
 | cons a b =>
  cases b with
  | cons c d=>cases d;exact⟨_,_,rfl,a,c⟩
theorem xl(c:X.calm=true):KB X (.builtin "max") (λxs H Q=>∃ i j,xs=[.int i,.int j]/\Q (.int (if j > i then j else i)) H):=by
 intro b s σ H xs d Q I r h;obtain⟨i,j,rfl,q⟩:=h;obtain⟨u,e,rfl,⟨t,rfl⟩,⟨f,rfl⟩⟩:=jlI r;refine max_two_ints (I.ok.hd c) λg l k=>⟨_,H,I.kept k,?_,q⟩;by_cases a:j > i
 ·rw[if_pos a,if_pos a];exact⟨_,rfl⟩
 ·rw[if_neg a,if_neg a];exact⟨_,rfl⟩
theorem zZ(c:X.calm=true):KB X (.builtin "min") (λxs H Q=>∃ i j,xs=[.int i,.int j]/\Q (.int (if j < i then j else i)) H):=by
 intro b s σ H xs d Q I r h;obtain⟨i,j,rfl,q⟩:=h;obtain⟨u,e,rfl,⟨t,rfl⟩,⟨f,rfl⟩⟩:=jlI r;refine min_two_ints (I.ok.hd c) λg l k=>⟨_,H,I.kept k,?_,q⟩;by_cases a:j < i
 ·rw[if_pos a,if_pos a];exact⟨_,rfl⟩
 ·rw[if_neg a,if_neg a];exact⟨_,rfl⟩
def jlR(K:PySem.W.Frag)(x:V)(H:Hp)(n:Nat):Prop :=
 match x with
 | .str y=>y.length<=sizeLine/\n=y.length
 | .byt y=>y.size<=sizeLine/\n=y.size
 | .ref p=>(∃ xs,SqL K H p xs/\n=xs.length) \/ ∃ xs,SqT K H p xs/\n=xs.length
 | _=>False
theorem jfs:KB X (.builtin "len") (λxs H Q=>∃ x n,xs=[x]/\jlR X.K x H n/\Q (.int n) H):=by
 intro j s σ H xs m Q I r h;obtain⟨x,n,rfl,e,q⟩:=h;obtain⟨u,rfl,c⟩:=jly r;have o:=jb2;have v:sizeLine=16777216:=sizeLine_eq;cases x with
 | str y =>
  obtain⟨t,rfl⟩:=c;obtain⟨k,b⟩:y.length<=sizeLine/\n=y.length:=e;subst b;exact len_str (by omega) ⟨.int _,H,I.tok _,⟨_,rfl⟩,q⟩
 | byt y =>
  obtain⟨t,rfl⟩:=c;obtain⟨k,b⟩:y.size<=sizeLine/\n=y.size:=e;subst b;exact PySem.W.len_bytes (by omega) ⟨.int _,H,I.tok _,⟨_,rfl⟩,q⟩
 | ref p =>
  cases c;have b:(∃ xs,SqL X.K H p xs/\n=xs.length) \/ ∃ xs,SqT X.K H p xs/\n=xs.length:=e;rcases b with⟨xs,d,b⟩ | ⟨xs,d,b⟩
  ·subst b;obtain⟨f,g,i,l⟩:=I.list d;have a:=g.length;exact Calls.call_len_list i.isList (by simp only[N4];omega) ⟨.int xs.length,H,I.tok _,⟨_,by simp only[N4];rw[a]⟩,q⟩
  ·subst b;obtain⟨f,g,i,l⟩:=I.tuple d;have a:=g.length;exact len_tuple i (by simp only[N4];omega) ⟨.int xs.length,H,I.tok _,⟨_,by simp only[N4];rw[a]⟩,q⟩
 | _=>exact(show False from e).elim
end
structure ObjM(h:Heap)(x dx C:Addr)(mA:Str->Option Value):Prop where
 obj:h.get? x=some (PySem.W.instObj C dx)
 ns:h.Ns1 dx mA
 ne:dx≠x
theorem jc7{h:Heap}{mA:Str->Option Value}(n:h.Ns1 dx mA):∃ od,h.get? dx=some od/\∀ name,PySem.W.lookIn name od=some (mA name):=by
 obtain⟨o,c,k,d,hd,f,_,g⟩:=n;refine⟨o,d,λname=>?_⟩;have e:=g name;unfold nsFind findBy at e;rw[<- Array.find?_toList] at e;unfold PySem.W.lookIn;rw[hd];dsimp only;split
 ·rename_i y q;rw[q] at e;exact congrArg some e
 ·rename_i q;rw[q] at e;have a:c.toList.any (·.refKey)=false:=by
   rw[List.any_eq_false];intro y i;obtain⟨z,t,b⟩:=f y (Array.mem_toList_iff.mp i);simp[DictEntry.refKey,b]
  have j:¬ c.toList.any (·.refKey)=true:=by rw[a];exact M3
  rw[if_neg j];exact congrArg some e
theorem ObjM.look  (I:ObjM h x dx C mA):∃ od,PySem.W.InstAt h x (PySem.W.instObj C dx) C (some od)/\∀ name,PySem.W.lookIn name od=some (mA name) :=
 let ⟨od,ho,hl⟩:=jc7 I.ns
 ⟨od,⟨I.obj,rfl,rfl,ho⟩,hl⟩
section
variable {prog:Program}{w:World}{A:Around}{E:Value->Shared->Prop}{s:Shared}{K:PySem.W.Frag}{x dx C f:Addr}{mA:Str->Option Value}{name:Str}{v:Value}
theorem jiY{a:Bool}{Q:Value->Shared->Prop}(X:K.In s.heap)(I:ObjM s.heap x dx C mA)(c:PySem.W.plainGet K C name=true)(d:PySem.W.hasDictIn K C=true)
  (e:PySem.W.findIn K (.ref C) name=some none) (f:mA name=some v) (b:PySem.W.handedIn v=true) (h:Q v { s with toks:=s.toks+1 }) :
  wpAny (model prog w) A (getAttr (.ref x) name a) Q E s:=by
 obtain⟨od,J,g⟩:=I.look;exact PySem.W.get_value X J (PySem.W.plainGet_of c).1 (PySem.W.findObj_own d e rfl (by rw[g,f])) b h
theorem jff{pl:Sem Bool}{Q:Value×List Value->Shared->Prop}(X:K.In s.heap)(I:ObjM s.heap x dx C mA)(a:PySem.W.plainGet K C name=true)
  (b:PySem.W.findIn K (.ref C) name=some (some (.ref f))) (c:PySem.W.isFn K (.ref f)=true) (d:mA name=none) (h:Q (.ref f,[.ref x]) s) :
  wpAny (model prog w) A (getMethod (.ref x) name pl) Q E s:=by
 obtain⟨od,J,e⟩:=I.look;exact PySem.W.method_fn X J (PySem.W.plainGet_of a).1 (PySem.W.plainGet_of a).2 b (beq_iff_eq.mp c) (by show(PySem.W.lookIn name od).map (·.isSome)=some false;rw[e,d];rfl) h
theorem jja{ns:List Str}{Q:Unit->Shared->Prop}(X:K.In s.heap)(I:ObjM s.heap x dx C mA)
  (j:PySem.W.findIn K (.ref C) "__setattr__" = some (some (.builtin "object.__setattr__"))) (k:PySem.W.plainOver K C=true) (l:PySem.W.takerIn K C name=some none) (m:PySem.W.hasDictIn K C=true)
  (n:PySem.Within mA ns) (hsz:ns.length<=sizeLine)
  (h:∀ h',ObjM h' x dx C (λy=>if y=name then some v else mA y)->Heap.SameBut dx s.heap h'->Q () { s with heap:=h',toks:=s.toks+2 }) :
  wpAny (model prog w) A (setAttr (.ref x) name v) Q E s:=by
 obtain⟨od,J,u⟩:=I.look;refine PySem.W.set_plain X J j (PySem.W.osa_open (s:={ s with toks:=s.toks+1 }) (r:=none) X J k l λb=>?_);obtain⟨z,o,e⟩:=PySem.W.any_some m;have p:s.heap.get? x=some ⟨.ref C,some dx,.plain,#[]⟩:=I.obj;refine L1 (M6 (L1 (L1 (wpAny_loadPart p (L1 (PySem.W.Looks.here (s:={ s with toks:=s.toks+1 }) (PySem.W.looks_clsIn X o) ?_))))));rw[e];refine M6 (a:=some dx) (L1 (M6 (L1 ?_)));refine wpAny_nsSet1 (s:={ s with toks:=s.toks+1 }) I.ns λh' c d=>?_;obtain⟨B,q,t,f,g,i⟩:=c.count (PySem.Within.cons name v n);refine L1 (wpAny_lookBehind f (by rw[g];exact pastItsLine_dict (N8 i (by rw[M0];omega))) ?_);exact M6 (h _ ⟨(d.2 _ (Ne.symm I.ne)).trans I.obj,c,I.ne⟩ d)
theorem jfa{R:Result->Shared->Prop}{vs:List Value}{a:List (Str×Value)}(X:K.In s.heap)(b:PySem.W.makesIn K C=true)
  (hi:PySem.W.findIn K (.ref C) "__init__" = some (some (.ref f))) (c:PySem.W.typeIn K (.ref f)=some (.type "function"))
  (h:codeAny (model prog w) (A.under (.builtin "type.__call__" ⟨.ref C::vs,a⟩)) (.call (.ref f) ⟨.ref (s.heap.objs.size+1)::vs,a⟩) (PySem.W.InitBack (s.heap.objs.size+1) R)
   { s with heap:=(s.heap.push PySem.W.emptyDict).push (PySem.W.instObj C s.heap.objs.size) }) :
  codeAny (model prog w) A (.call (.ref C) ⟨vs,a⟩) R s:=by
 obtain⟨e,g,d,t,os⟩:=s;exact PySem.W.make_core (PySem.W.makes_of X b) (PySem.W.looks_findIn X hi) (λself=>PySem.W.bind_fn X self c) (.inl rfl) h
end
def wW(f:Str)(v:V):List (Str×V)->List (Str×V)
 | []=>[(f,v)]
 | (g,x)::r=>if g=f then(g,v)::r else(g,x)::wW f v r
theorem z9(f g:Str)(v:V):∀ fs:List (Str×V),(wW f v fs).lookup g=if g=f then some v else fs.lookup g
 | []=>by
  show List.lookup g [(f,v)]=_;by_cases h:g=f
  ·have a:(g==f)=true:=beq_iff_eq.mpr h;simp only[List.lookup,a,if_pos h]
  ·have a:(g==f)=false:=U3.mpr h;simp only[List.lookup,a,if_neg h]
 | (k,x)::r=>by
  have c:=z9 f g v r;rw[show wW f v ((k,x)::r)=(if k=f then(k,v)::r else(k,x)::wW f v r) from rfl];by_cases b:k=f
  ·rw[if_pos b];by_cases h:g=k
   ·have a:(g==k)=true:=beq_iff_eq.mpr h;simp only[List.lookup,a,if_pos (h.trans b)]
   ·have a:(g==k)=false:=U3.mpr h;simp only[List.lookup,a,if_neg (λe:g=f=>h (e.trans b.symm))]
  ·rw[if_neg b];by_cases h:g=k
   ·have a:(g==k)=true:=beq_iff_eq.mpr h;simp only[List.lookup,a,if_neg (λe:g=f=>b (h.symm.trans e))]
   ·have a:(g==k)=false:=U3.mpr h;simp only[List.lookup,a];exact c
theorem xb(f:Str)(v:V):∀ fs:List (Str×V),f∈(wW f v fs).map (·.1)/\∀ g,g∈fs.map (·.1)->g∈(wW f v fs).map (·.1)
 | []=>⟨by simp[wW],λg h=>by simp at h⟩
 | (k,x)::r=>by
  obtain⟨b,c⟩:=xb f v r;rw[show wW f v ((k,x)::r)=(if k=f then(k,v)::r else(k,x)::wW f v r) from rfl];by_cases a:k=f
  ·rw[if_pos a];subst a;exact⟨by simp,λg h=>by simpa using h⟩
  ·rw[if_neg a];refine⟨?_,λg h=>?_⟩
   ·rw[L4];exact L5 _ b
   ·rw[L4] at h ⊢;rcases M4.mp h with e | e
    ·exact M4.mpr (.inl e)
    ·exact L5 _ (c g e)
theorem xt(f:Str)(v:V):∀ fs:List (Str×V),(wW f v fs).length<=fs.length+1
 | []=>by simp[wW]
 | (k,x)::r=>by
  have b:=xt f v r;rw[show wW f v ((k,x)::r)=(if k=f then(k,v)::r else(k,x)::wW f v r) from rfl];by_cases a:k=f
  ·rw[if_pos a,M0,M0];omega
  ·rw[if_neg a,M0,M0];omega
theorem RelO.some_of  (r:RelO (some v) o):∃ u,o=some u/\RelV v u:=by
 cases o with
 | none=>exact(show False from r).elim
 | some u=>exact⟨u,rfl,r⟩
theorem RelO.none_of  (r:RelO none o):o=none:=by
 cases o with
 | none=>rfl
 | some u=>exact(show False from r).elim
theorem jdj  (r:RelV v u):PySem.W.handedIn u=true:=by
 cases v with
 | non=>cases(show u=Value.none from r);rfl
 | bl b=>cases(show u=Value.bool b from r);rfl
 | int i=>obtain⟨t,e⟩:=(show ∃ t,u=Value.int i t from r);cases e;rfl
 | str x=>obtain⟨t,e⟩:=(show ∃ t,u=Value.str x t from r);cases e;rfl
 | byt b=>obtain⟨t,e⟩:=(show ∃ t,u=Value.bytes b t from r);cases e;rfl
 | flt b=>obtain⟨t,e⟩:=(show ∃ t,u=Value.float b t from r);cases e;rfl
 | ref a=>cases(show u=Value.ref a from r);rfl
 | ty n=>cases(show u=Value.type n from r);rfl
section
variable {P:Program}{w:World}{H H':Hp}{h h':Heap}{a C dx:Addr}{fs fs':List (Str×V)}
theorem ja7(hok:HOk P w H h)(e:H a=some (.ins C dx fs)):∃ mA,ObjM h a dx C mA/\(∀ f,RelO (fs.lookup f) (mA f))/\PySem.Within mA (fs.map (·.1))/\fs.length<=1000/\H dx=some (.own a):=by
 obtain⟨d,z,ne,ob,mA,n,r,q⟩:=(show ObjOk P w H h a (.ins C dx fs) from hok a _ e);exact⟨mA,⟨ob,n,ne⟩,r,q,z,d⟩
end
structure Cls(K:PySem.W.Frag)(C:Addr):Prop where
 pg:PySem.W.plainGet K C Str.empty=true
 hd:PySem.W.hasDictIn K C=true
 po:PySem.W.plainOver K C=true
 sa:PySem.W.findIn K (.ref C) "__setattr__" = some (some (.builtin "object.__setattr__"))
theorem Cls.get{K:PySem.W.Frag}{C:Addr}(c:Cls K C)(f:Str):PySem.W.plainGet K C f=true:=c.pg
def NoAttr(K:PySem.W.Frag)(C:Addr)(f:Str):Prop:=PySem.W.findIn K (.ref C) f=some none
theorem NoAttr.taker{K:PySem.W.Frag}{C:Addr}{f:Str}(n:NoAttr K C f):PySem.W.takerIn K C f=some none:=by
 unfold PySem.W.takerIn;rw[show PySem.W.findIn K (.ref C) f=some none from n];rfl
structure Con(K:PySem.W.Frag)(C:Addr)(f:Str)(v:V)(u:Value):Prop where
 at_:PySem.W.findIn K (.ref C) f=some (some u)
 rel:RelV v u
 get:PySem.W.specialIn K u "__get__" = some none
 cp:PySem.W.copiedNames.contains f=false
structure Meth(K:PySem.W.Frag)(C:Addr)(m:Str)(f:Addr):Prop where
 at_:PySem.W.findIn K (.ref C) m=some (some (.ref f))
 fn:PySem.W.isFn K (.ref f)=true
 kp:PySem.W.keepIn K (.ref f)=true
section
variable {X:Cx}{pins:List (Addr×Obj)}{σ:St}{H:Hp}{s:Shared}{a C dx:Addr}{fs:List (Str×V)}{f:Str}{v:V}{A:Around}{E:Value->Shared->Prop}
theorem jcI  (I:Inv X pins σ H s) (e:H a=some (.ins C dx fs)) (c:Cls X.K C) (n:NoAttr X.K C f) (l:fs.lookup f=some v)
  (h:∀ u s',Inv X pins σ H s'->RelV v u->Q u s'):wpAny (model X.prog X.w) A (getAttr (.ref a) f b) Q E s:=by
 obtain⟨g,O,r,_,_,_⟩:=ja7 I.hok e;obtain⟨u,i,d⟩:=RelO.some_of (v:=v) (o:=g f) (by rw[<- l];exact r f);exact jiY I.kIn O (c.get f) c.hd n i (jdj d) (h u _ (I.tok _) d)
theorem wc  (I:Inv X pins σ H s) (e:H a=some (.ins C dx fs)) (c:Cls X.K C) (k:Meth X.K C m g) (l:fs.lookup m=none)
  (h:Q (.ref g,[.ref a]) s):wpAny (model X.prog X.w) A (getMethod (.ref a) m pl) Q E s:=by
 obtain⟨b,O,r,_,_,_⟩:=ja7 I.hok e;have d:b m=none:=RelO.none_of (by rw[<- l];exact r m);exact jff I.kIn O (c.get m) k.at_ k.fn d h
theorem jcj  (I:Inv X pins σ H s) (e:H a=some (.ins C dx fs)) (c:Cls X.K C) (n:NoAttr X.K C f) (D:fs.length < 1000) (l:RelV y u)
  (h:∀ s',Inv X pins σ (upd H a (.ins C dx (wW f y fs))) s'->Q () s'):wpAny (model X.prog X.w) A (setAttr (.ref a) f u) Q E s:=by
 obtain⟨i,O,r,j,_,k⟩:=ja7 I.hok e;have m:(fs.map (·.1)).length<=sizeLine:=by rw[L0,sizeLine_eq];omega
 refine jja I.kIn O c.sa c.po n.taker c.hd j m λp d t=>h _ ?_;have hd:∃ o,p.get? dx=some o:=let ⟨o,_,_,e',_⟩:=d.ns;⟨o,e'⟩
 refine I.write (x:=a) (e:=dx) (by rw[e];exact True.intro) (.inr k) (λb q v z=>(t.2 b v).trans z) hd ?_;refine⟨by rw[jm O.ne];exact k,?_,O.ne,d.obj,_,d.ns,λg=>?_,λg B=>?_⟩
 ·have:=xt f y fs;omega
 ·show RelO ((wW f y fs).lookup g) (if g=f then some u else i g);rw[z9];by_cases q:g=f
  ·rw[if_pos q,if_pos q];exact l
  ·rw[if_neg q,if_neg q];exact r g
 ·by_cases q:g=f
  ·rw[q];exact(xb f y fs).1
  ·refine(xb f y fs).2 g (j g λz=>B ?_);show(if g=f then some u else i g)=none;rw[if_neg q];exact z
theorem Inv.made(I:Inv X pins σ H s):Inv X pins σ (upd (upd H s.heap.objs.size (.own (s.heap.objs.size+1))) (s.heap.objs.size+1) (.ins C s.heap.objs.size []))
  { s with heap:=(s.heap.push PySem.W.emptyDict).push (PySem.W.instObj C s.heap.objs.size) }:=by
 have c:(s.heap.push PySem.W.emptyDict).get? s.heap.objs.size=some PySem.W.emptyDict:=E1 s.heap rfl;have d:((s.heap.push PySem.W.emptyDict).push (PySem.W.instObj C s.heap.objs.size)).get? (s.heap.objs.size+1)=some (PySem.W.instObj C s.heap.objs.size):=by
  have:=E1 (s.heap.push PySem.W.emptyDict) (o:=PySem.W.instObj C s.heap.objs.size) rfl
  rwa [Heap.size_push] at this
 have f:(s.heap.push PySem.W.emptyDict).Ns s.heap.objs.size (λ_=>none):=⟨PySem.W.emptyDict,#[],_,c,rfl,(λe g=>absurd g (by simp)),λ_=>rfl⟩;have h:=I.laid (a:=s.heap.objs.size) (o:=.own (s.heap.objs.size+1)) (h':=s.heap.push PySem.W.emptyDict) (t':=s.toks) (λb u q=>L7 _ q) (M8 _) ⟨_,c⟩;refine h.laid (a:=s.heap.objs.size+1) (o:=.ins C s.heap.objs.size []) (t':=s.toks) (λb u q=>L7 _ q) (Nat.le_of_eq (Heap.size_push _ _)) ?_;have ne:s.heap.objs.size≠s.heap.objs.size+1:=N7 (Nat.lt_succ_self _);refine⟨by rw[jm ne,jD],U6 _,ne,d,λ_=>none,(Heap.Ns1.of_empty f).at λo q=>L7 _ q,λ_=>True.intro,λy i=>absurd rfl i⟩
theorem jim  (a:attributeBase e f env (eval e env)=eval e env)
  (h:wpAny (model prog w) A (eval e env) (λo s₁=>wpAny (model prog w) A (getAttr o f true) Q E s₁) E s):wpAny (model prog w) A (eval (.Attribute e f pos) env) Q E s :=
 Attribute_any_ h (by rw[arm_eval_Attribute,a])
end
def jjG(K:PySem.W.Frag)(ta:TE)(f:Str):TE:=λσ H Q=>ta σ H λx H1=>∃ a C dx fs v,x=.ref a/\H1 a=some (.ins C dx fs)/\Cls K C/\NoAttr K C f/\fs.lookup f=some v/\Q v H1
def jms(K:PySem.W.Frag)(ta tv:TE)(f:Str):TS:=λD σ H=>tv σ H λy H1=>ta σ H1 λx H2=>∃ a C dx fs,x=.ref a/\H2 a=some (.ins C dx fs)/\Cls K C/\NoAttr K C f/\fs.length < 1000 /\
 D.nx σ (upd H2 a (.ins C dx (wW f y fs)))
section
variable {X:Cx}{o e value:Expr}{f:Str}{pos pos' tpos:Pos}{ta tv:TE}
theorem jhi(d:PE X e ta)(g:attributeBase e f X.env (eval e X.env)=eval e X.env):PE X (.Attribute e f pos) (jjG X.K ta f):=by
 intro b s σ H Q I h;refine jim g (thn (d b s σ H _ I h) λu r ⟨x,i,j,k,a,C,t,fs,v,ex,m,c,n,l,q⟩=>?_);subst ex;obtain rfl:u=Value.ref a:=k;exact jcI j m c n l λw y o p=>⟨v,i,o,p,q⟩
theorem jkZ(d:PE X o ta)(e:PE X value tv)(g:swapsWith value (some (.Attribute o f pos')) pos.line X.env=pure false):PS X (.Assign [.Attribute o f pos'] value pos) (jms X.K ta tv f):=by
 intro b s σ H D I h;refine plainObj_wpAny_Assign_Attribute (thn (e b s σ H _ I h) λu i ⟨y,j,k,m,q⟩=>thn (d b i σ j _ k q) λp A ⟨x,B,r,t,a,C,E,fs,ex,v,c,n,l,w⟩=>?_) g;subst ex;obtain rfl:p=Value.ref a:=t;exact jcj r v c n l m λF z=>⟨σ,_,z,w⟩
end
section
variable {X:Cx}{pins:List (Addr×Obj)}{σ:St}{H:Hp}{s:Shared}{A:Around}{E:Value->Shared->Prop}{Q:Value->Shared->Prop}{c:Value}{b:Bool}
inductive TyOf (K:PySem.W.Frag) (H:Hp):V->Value->Prop where
 | non:TyOf K H .non (.type "NoneType")
 | bl (x:Bool):TyOf K H (.bl x) (.type "bool")
 | int (i:Int):TyOf K H (.int i) (.type "int")
 | str (x:Str):TyOf K H (.str x) (.type "str")
 | flt (x:UInt64):TyOf K H (.flt x) (.type "float")
 | lst {a:Addr}{xs:List V}(e:H a=some (.lst xs)):TyOf K H (.ref a) (.type "list")
 | frz {a:Addr}{o:Obj}{xs:List V}(e:H a=some (.frz o (.lst xs))):TyOf K H (.ref a) (.type "list")
 | tup {a:Addr}{xs:List V}(e:H a=some (.tup xs)):TyOf K H (.ref a) (.type "tuple")
 | dK {a:Addr}{kvs:List (Key×V)}(e:H a=some (.dK kvs)):TyOf K H (.ref a) (.type "dict")
 | dT {a:Addr}{kvs:List (List Key×V)}(e:H a=some (.dT kvs)):TyOf K H (.ref a) (.type "dict")
 | ins {a C dx:Addr}{fs:List (Str×V)}(e:H a=some (.ins C dx fs)) (cl:Cls K C) (ha:PySem.W.findIn K (.ref C) "__class__" = some (some (.builtin "object.__class__")))
   (hn:PySem.W.specialIn K (.builtin "object.__class__") "__get__" = some (some (.builtin "getset_descriptor.__get__"))) (htk:PySem.W.takesIn K (.builtin "object.__class__")=some true)
   (hm:PySem.W.mroIn K C (.type "object")=some true):TyOf K H (.ref a) (.ref C)
end
structure Room(k:Nat)(A:Around):Prop where
 hd:A.handled=none
 dp:A.depth+3*k+5 < recursionLimit
 un:A.units+16*k+200 < cLine
theorem Room.mono  (r:Room k A) (h:j<=k):Room j A:=⟨r.hd,by have:=r.dp;omega,by have:=r.un;omega⟩
theorem Room.deeper  (r:Room (k+1) A) (env:Env):Room k (A.deeper env) :=
 ⟨r.hd,by have:=r.dp;show A.depth+1+3*k+5 < _;omega,by have:=r.un;show A.units+3+16*k+200 < _;omega⟩
theorem jcD{A:Around}{us:List Value}{a:List (Str×Value)}:(A.under (.builtin "type.__call__" ⟨.ref C::us,a⟩)).depth=A.depth+1:=by
 first | rfl | simp[Around.under,Code.weight,Code.isCreation,Code.isGuard,Code.isCaller,Code.frames,Code.isFrame,guardIds]
theorem jcO{A:Around}{us:List Value}{a:List (Str×Value)}:(A.under (.builtin "type.__call__" ⟨.ref C::us,a⟩)).units=A.units+1:=by
 first | rfl | simp[Around.under,Code.cUnits,Code.frames,Code.isFrame]
theorem Room.make  (r:Room (k+1) A) (C:Addr) (us:List Value) (a:List (Str×Value)):Room k (A.under (.builtin "type.__call__" ⟨.ref C::us,a⟩)) :=
 ⟨r.hd,by have:=r.dp;rw[jcD];omega,by have:=r.un;rw[jcO];omega⟩
theorem Room.depth  (r:Room k A):A.depth < recursionLimit:=by have:=r.dp;omega
theorem Room.units  (r:Room k A):A.units+64 < cLine:=by have:=r.un;omega
def jar:TA:=λ_ H Q=>Q [] H
def Vo(ta:TE)(tr:TA):TA:=λσ H Q=>ta σ H λx H1=>tr σ H1 λxs H2=>Q (x::xs) H2
section
variable {X:Cx}{e:Expr}{es:List Expr}{te:TE}{t:TA}{pos:Pos}
theorem xo:PA X [] jar:=λ_ _ _ _ H Q I h=>Calls.spliced_nil ⟨[],H,I,.nil,h⟩
theorem Vl(b:PE X e te)(c:PA X es t)(d:starEach (e::es) X.env=(false,eval e X.env)::starEach es X.env:=by rfl):PA X (e::es) (Vo te t):=by
 intro pos a s σ H Q I h;rw[d];show wpAny _ _ (spliced ((false,eval e X.env)::backTo pos (starEach es X.env))) _ _ s;refine Calls.spliced_cons (thn (b a s σ H _ I h) λu f ⟨x,g,i,j,k⟩=>?_);exact thn (c pos a f σ g _ i k) λq r ⟨l,m,n,o,p⟩=>⟨x::l,m,n,.cons j o,p⟩
def jml(t:TA):TE:=λσ H Q=>t σ H λxs H1=>xs.length<=sizeLine/\∀ p,H1 p=none->Q (.ref p) (upd H1 p (.tup xs))
def jmr(t:TA):TE:=λσ H Q=>t σ H λxs H1=>xs.length<=sizeLine/\∀ p,H1 p=none->Q (.ref p) (upd H1 p (.lst xs))
theorem jlp{x1}(h:PA X es t):PE X (.Tuple es x1 pos) (jml t):=by
 intro a s σ H Q I g;refine wpAny_Tuple_spliced (thn (h pos a s σ H _ I g) λi c ⟨j,d,f,r,z,q⟩=>⟨by rw[<- r.length];exact z,?_⟩);have k:d c.heap.objs.size=none:=f.hok.fresh (M8 _);refine⟨.ref c.heap.objs.size,upd d c.heap.objs.size (.tup j),f.laid (t':=c.toks) (λb u e=>L7 _ e) (M8 _) ?_,rfl,q _ k⟩;exact⟨z,i,r,⟨_,E1 _ rfl,rfl,_,rfl⟩,_,E1 _ rfl,rfl⟩
theorem jlf(h:PA X es t):PE X (.List es pos) (jmr t):=by
 intro a s σ H Q I g;refine wpAny_List_spliced (thn (h pos a s σ H _ I g) λi c ⟨j,d,f,r,z,q⟩=>⟨by rw[<- r.length];exact z,?_⟩);have k:d c.heap.objs.size=none:=f.hok.fresh (M8 _);refine⟨.ref c.heap.objs.size,upd d c.heap.objs.size (.lst j),f.laid (t':=c.toks) (λb u e=>L7 _ e) (M8 _) ?_,rfl,q _ k⟩;exact⟨z,i,0,r,E1 _ rfl⟩
end
abbrev Sp:=List V->Hp->VK->XK->Prop
abbrev CXT:=List Env->Hp->Shared->XK->Value->Shared->Prop
structure Env0(P:Program)(w:World)(K:PySem.W.Frag)(mg:Str->Option Value)(base:Heap)(A:Around)(outer:List Env)(s:Shared)(H:Hp):Prop where
 frames:A.frames=some outer
 mod:Mod K mg base
 bs:∀ b o,base.get? b=some o->s.heap.get? b=some o/\H b=none
 bsz:base.objs.size<=s.heap.objs.size
 funs:s.heap.FunFrames base outer
 frf:∀ b∈frs outer,H b=none
 hok:HOk P w H s.heap
 bare:AllBare s.gens
def CE(outer:List Env)(P:Program)(w:World)(H:Hp)(s:Shared)(Q:VK)(u:Value)(s':Shared):Prop :=
 ∃ v H',s'.os=s.os/\AllBare s'.gens/\Un (frs outer) [] H H' s.heap s'.heap/\HOk P w H' s'.heap/\RelV v u/\Q v H'
def CR(CX:CXT)(outer:List Env)(P:Program)(w:World)(H:Hp)(s:Shared)(Q:VK)(E:XK)(r:Result)(s':Shared):Prop :=
 match r with
 | .ok (.ret u)=>CE outer P w H s Q u s'
 | .ok _=>False
 | .error e=>CX outer H s E e s'
structure FnOk(P:Program)(w:World)(K:PySem.W.Frag)(mg:Str->Option Value)(base:Heap)(CX:CXT)(k:Nat)(f:Addr)(fd:FuncData)(ps:List Str)(sp:Sp):Prop where
 len:∀ vs H Q E,sp vs H Q E->vs.length=ps.length
 run:∀(A:Around) (outer:List Env) (s:Shared) (H:Hp) (args:Args) (us:List Value) (vs:List V) (Q:VK) (E:XK),Room k A->Env0 P w K mg base A outer s H->BindsTo s fd args (ps.zip us)->Vals vs us->sp vs H Q E ->
  codeAny (model P w) A (.call (.ref f) args) (CR CX outer P w H s Q E) s
theorem FnOk.imp{P:Program}{w:World}{K:PySem.W.Frag}{mg:Str->Option Value}{base:Heap}{CX:CXT}{k:Nat}{f:Addr}{fd:FuncData}{ps:List Str}{sp a:Sp}(F:FnOk P w K mg base CX k f fd ps sp)
  (h:∀ vs H Q E,a vs H Q E->sp vs H Q E):FnOk P w K mg base CX k f fd ps a :=
 ⟨λvs H Q E q=>F.len vs H Q E (h _ _ _ _ q),λA outer s H b c vs Q E d e g i j=>F.run A outer s H b c vs Q E d e g i (h _ _ _ _ j)⟩
theorem Env0.make{P:Program}{w:World}{K:PySem.W.Frag}{mg:Str->Option Value}{base:Heap}{A:Around}{outer:List Env}{s:Shared}{H:Hp}(e:Env0 P w K mg base A outer s H)(C:Addr)(us:List Value)(a:List (Str×Value)) :
  Env0 P w K mg base (A.under (.builtin "type.__call__" ⟨.ref C::us,a⟩)) outer s H:=⟨by first | exact e.frames | (simpa [Around.under,Code.envs,Code.isFrame,pushEnvs] using e.frames),e.mod,e.bs,e.bsz,e.funs,e.frf,e.hok,e.bare⟩
section
variable {X:Cx}{pins:List (Addr×Obj)}{σ:St}{H:Hp}{s s':Shared}
theorem Inv.env0(I:Inv X pins σ H s):Env0 X.prog X.w X.K X.mg X.base X.A X.stack s H :=
 ⟨I.ok.frames,I.ok.mod,I.bs,N8 I.ok.bsz I.sz,I.stack,I.stkFree,I.hok,I.bare⟩
theorem Inv.after  (I:Inv X pins σ H s) (h:CE X.stack X.prog X.w H s Q u s'):EP X pins σ Q u s':=by
 obtain⟨v,c,os,bare,un,hok,r,q⟩:=h;obtain⟨e,g,d,t,a⟩:=s';obtain rfl:a=s.os:=os;exact⟨v,c,I.call (h':=e) (g':=g) (d':=d) (t':=t) (ch:=[]) un hok bare (λb z=>absurd z (by simp)),r,q⟩
end
def jdO(sp:Sp)(dvs:List V)(E:XK)(t:TA):TE:=λσ H Q=>t σ H λvs H1=>sp (vs++dvs) H1 Q E
def jaq(C:Addr)(m:Str)(sp:Sp)(dvs:List V)(E:XK)(ta:TE)(t:TA):TE:=λσ H Q=>ta σ H λx H1=>∃ a dx fs,x=.ref a/\H1 a=some (.ins C dx fs)/\fs.lookup m=none /\
 t σ H1 λvs H2=>sp (x::(vs++dvs)) H2 Q E
def jjg(C:Addr)(sp:Sp)(dvs:List V)(E:XK)(t:TA):TE:=λσ H Q=>t σ H λvs H1=>∀ x dx,H1 x=none->H1 dx=none->dx≠x ->
 sp (.ref x::(vs++dvs)) (upd (upd H1 dx (.own x)) x (.ins C dx [])) (λv H2=>v=.non/\Q (.ref x) H2) E
def Binds(K:PySem.W.Frag)(fd:FuncData)(ps:List Str)(ds:List Value):Prop :=
 ∀(s:Shared) (us:List Value),K.In s.heap->(us++ds).length=ps.length->BindsTo s fd ⟨us,[]⟩ (ps.zip (us++ds))
theorem Binds.all{K:PySem.W.Frag}{fd:FuncData}{ps:List Str}(h:∀ us:List Value,us.length=ps.length->bindArgs fd ⟨us,[]⟩=pure (ps.zip us)):Binds K fd ps []:=λs us _ a=>by
 rw[M9] at a ⊢;exact .of_eq (h us a)
def KI(CX:CXT)(X:Cx)(E:XK):Prop:=∀(pins:List (Addr×Obj)) (σ:St) (H:Hp) (s:Shared) (e:Value) (s':Shared),Inv X pins σ H s->CX X.stack H s E e s'->X.xe e s'
section
variable {X:Cx}{CX:CXT}{k:Nat}{f C:Addr}{fd:FuncData}{ps:List Str}{sp:Sp}{dvs:List V}{ds:List Value}{E:XK}{x m:Str}{p pos apos:Pos}{e o:Expr}{es:List Expr}{ta:TE}{t:TA}
theorem jeS  (F:FnOk X.prog X.w X.K X.mg X.base CX k f fd ps sp) (c:Room k X.A) (d:Binds X.K fd ps ds) (hd:Vals dvs ds) (g:KI CX X E)
  (I:Inv X pins σ H s) (r:Vals vs us) (h:sp (vs++dvs) H Q E):wpAny (model X.prog X.w) X.A (call (.ref f) us) (EP X pins σ Q) X.xe s:=by
 have b:Vals (vs++dvs) (us++ds):=r.append hd;have i:(us++ds).length=ps.length:=by rw[<- b.length];exact F.len _ _ _ _ h
 refine wpAny_call (codeAny_mono (F.run X.A X.stack s H ⟨us,[]⟩ (us++ds) (vs++dvs) Q E c I.env0 (d s us I.kIn i) b h) λr j a=>?_);cases r with
 | error e=>exact g pins σ H s e j I a
 | ok fl =>
  cases fl with
  | ret u=>exact I.after a
  | next=>exact False.elim a
  | brk=>exact False.elim a
  | cont=>exact False.elim a
theorem jiR(F:FnOk X.prog X.w X.K X.mg X.base CX k f fd ps sp)(g:Room k X.A)(i:Gl X x)(j:X.mg x=some (.ref f))(l:PySem.W.keepIn X.K (.ref f)=true)(m:Binds X.K fd ps ds)(hd:Vals dvs ds)(n:KI CX X E)
  (o:PA X (e::es) t) (b:(x==("__debug__" : Str))=false:=by decide) (u:starEach (e::es) X.env=(false,eval e X.env)::starEach es X.env:=by rfl) (c:(backTo pos (starEach es X.env)).any (·.1)=false:=by rfl) :
  PE X (.Call (.Name x p) (e::es) [] pos) (jdO sp dvs E t):=by
 intro a s σ H Q I h;refine wpAny_Call_Name_kw (jel I i j ?_ b);refine PySem.W.callWith_K (h₀:=X.base) I.ok.mod.kin l (thn (o pos a s σ H _ I h) λv y ⟨z,B,d,r,q⟩=>⟨d.kIn,?_⟩) u c;exact jeS F g m hd n d r q
theorem jdV  (p:PE X o ta) (c:Cls X.K C) (i:Meth X.K C m f) (F:FnOk X.prog X.w X.K X.mg X.base CX k f fd ps sp) (v:Room k X.A) (y:Binds X.K fd ps ds) (hd:Vals dvs ds) (z:KI CX X E) (B:PA X (e::es) t)
  (d:starEach (e::es) X.env=(false,eval e X.env)::starEach es X.env:=by rfl) (g:(backTo pos (starEach es X.env)).any (·.1)=false:=by rfl)
  (D:eval (.Call (.Attribute o m apos) (e::es) [] pos) X.env=(do
   let ov <- eval o X.env
   standAt apos.atName
   let (f,first) <- holding [ov] (getMethod ov m pl)
   callWith pos f first (backTo pos (starEach (e::es) X.env)) (backToKw pos (keywordEach [] X.env))):=by rfl) :
  PE X (.Call (.Attribute o m apos) (e::es) [] pos) (jaq C m sp dvs E ta t):=by
 intro b s σ H Q I h;refine PySem.W.methodCall_KW (pl:=pl) (thn (p b s σ H _ I h) λu G ⟨x,J,j,L,a,O,fs,ex,M,l,q⟩=>?_) D;subst ex;obtain rfl:u=Value.ref a:=L;refine wc j M c i l ?_;refine PySem.W.callWith_K (first:=[.ref a]) (h₀:=X.base) I.ok.mod.kin i.kp (thn (B pos b G σ J _ j q) λus P ⟨vs,R,n,r,N⟩=>⟨n.kIn,?_⟩) d g;exact jeS (us:=.ref a::us) (vs:=.ref a::vs) F v y hd z n (.cons rfl r) N
theorem jge  (g:PE X o ta) (c:Cls X.K C) (e:Meth X.K C m f) (F:FnOk X.prog X.w X.K X.mg X.base CX k f fd ps sp) (i:Room k X.A) (j:Binds X.K fd ps ds) (hd:Vals dvs ds) (n:KI CX X E)
  (p:eval (.Call (.Attribute o m apos) [] [] pos) X.env=(do
   let ov <- eval o X.env
   standAt apos.atName
   let (f,first) <- holding [ov] (getMethod ov m pl)
   callWith pos f first (backTo pos (starEach [] X.env)) (backToKw pos (keywordEach [] X.env))):=by rfl) :
  PE X (.Call (.Attribute o m apos) [] [] pos) (jaq C m sp dvs E ta jar):=by
 intro b s σ H Q I h;refine PySem.W.methodCall_KW (pl:=pl) (thn (g b s σ H _ I h) λu v ⟨x,y,d,r,a,z,fs,ex,t,l,q⟩=>?_) p;subst ex;obtain rfl:u=Value.ref a:=r;refine wc d t c e l ?_;exact PySem.W.callWith_K0 (first:=[.ref a]) d.kIn e.kp (jeS (us:=[.ref a]) (vs:=[.ref a]) F i j hd n d (.cons rfl .nil) q)
structure Mk(K:PySem.W.Frag)(C f:Addr):Prop where
 makes:PySem.W.makesIn K C=true
 init:PySem.W.findIn K (.ref C) "__init__" = some (some (.ref f))
 fn:PySem.W.isFn K (.ref f)=true
 kp:PySem.W.keepIn K (.ref C)=true
theorem jfw  (M:Mk X.K C f) (F:FnOk X.prog X.w X.K X.mg X.base CX k f fd ps sp) (g:Room (k+1) X.A) (i:Binds X.K fd ps ds) (hd:Vals dvs ds)
  (j:KI CX X E) (I:Inv X pins σ H s) (r:Vals vs us)
  (h:∀ x dx,H x=none->H dx=none->dx≠x->sp (.ref x::(vs++dvs)) (upd (upd H dx (.own x)) x (.ins C dx [])) (λv H2=>v=.non/\Q (.ref x) H2) E) :
  wpAny (model X.prog X.w) X.A (call (.ref C) us) (EP X pins σ Q) X.xe s:=by
 have c:=h (s.heap.objs.size+1) s.heap.objs.size (I.hok.fresh (Nat.le_succ _)) (I.hok.fresh (M8 _)) (N7 (Nat.lt_succ_self _));have b:=Inv.made (C:=C) I;have d:Vals (V.ref (s.heap.objs.size+1)::(vs++dvs)) (Value.ref (s.heap.objs.size+1)::(us++ds)):=.cons rfl (r.append hd);have l:(Value.ref (s.heap.objs.size+1)::us++ds).length=ps.length:=by
  have e:=d.length;rw[F.len _ _ _ _ c] at e;exact e.symm
 refine wpAny_call (jfa (f:=f) I.kIn M.makes M.init (beq_iff_eq.mp M.fn) (codeAny_mono (F.run _ X.stack _ _ ⟨Value.ref (s.heap.objs.size+1)::us,[]⟩ (Value.ref (s.heap.objs.size+1)::(us++ds)) _ _ E (g.make C us [])
  (b.env0.make C us []) (i _ (Value.ref (s.heap.objs.size+1)::us) b.kIn l) d c) λr m a=>?_))
 cases r with
 | error e=>exact j pins σ _ _ e m b a
 | ok fl =>
  cases fl with
  | ret u =>
   obtain⟨v,n,o,p,q,t⟩:=b.after a;subst q;exact⟨p,⟨V.ref (s.heap.objs.size+1),n,o,rfl,t⟩⟩
  | next=>exact False.elim a
  | brk=>exact False.elim a
  | cont=>exact False.elim a
theorem jhE(M:Mk X.K C f)(F:FnOk X.prog X.w X.K X.mg X.base CX k f fd ps sp)(g:Room (k+1) X.A)(i:Gl X x)(j:X.mg x=some (.ref C))(l:Binds X.K fd ps ds)(hd:Vals dvs ds)(m:KI CX X E)
  (n:PA X (e::es) t) (b:(x==("__debug__" : Str))=false:=by decide) (o:starEach (e::es) X.env=(false,eval e X.env)::starEach es X.env:=by rfl) (c:(backTo pos (starEach es X.env)).any (·.1)=false:=by rfl) :
  PE X (.Call (.Name x p) (e::es) [] pos) (jjg C sp dvs E t):=by
 intro a s σ H Q I h;refine wpAny_Call_Name_kw (jel I i j ?_ b);refine PySem.W.callWith_K (h₀:=X.base) I.ok.mod.kin M.kp (thn (n pos a s σ H _ I h) λu v ⟨y,z,d,r,q⟩=>⟨d.kIn,?_⟩) o c;exact jfw M F g l hd m d r q
end
def PK(X:Cx)(kws:List Keyword)(t:TA):Prop :=
 ∀(pos:Pos) (pins:List (Addr×Obj)) (s:Shared) (σ:St) (H:Hp) (Q:List V->Hp->Prop),Inv X pins σ H s->t σ H Q->wpAny (model X.prog X.w) X.A (evalAll ((backToKw pos (keywordEach kws X.env)).map (·.2))) (AP X pins σ Q) X.xe s
section
variable {X:Cx}{CX:CXT}{k:Nat}{f C:Addr}{fd:FuncData}{ps ks:List Str}{sp:Sp}{E:XK}{x m:Str}{p pos apos kpos:Pos}{e o:Expr}{es:List Expr}{kws:List Keyword}{te ta:TE}{t tk:TA}{nm:Option Str}
structure KBinds(K:PySem.W.Frag)(fd:FuncData)(ps ks:List Str)(g:List Value->List Value->List Value)(gV:List V->List V->List V):Prop where
 to:∀(s:Shared) (us ws:List Value),K.In s.heap->(g us ws).length=ps.length->BindsTo s fd ⟨us,ks.zip ws⟩ (ps.zip (g us ws))
 rel:∀{vs:List V}{us:List Value}{zs:List V}{ws:List Value},Vals vs us->Vals zs ws->Vals (gV vs zs) (g us ws)
variable {g:List Value->List Value->List Value}{gV:List V->List V->List V}
end
structure FnScope(N P:List Str)(sc:Scope):Prop where
 kind:sc.kind=.function
 co:sc.isCoroutine=false
 gen:sc.isGenerator=false
 nd:N.Nodup
 pre:N.take P.length=P
 par:∀ x∈P,sc.names.lookup x=some .local \/ sc.names.lookup x=some .cell
 nofree:∀ y∈sc.names,y.2≠.free
theorem jat{kindOf:Str->Option NameKind}  : ∀{binds:List (Str×Value)}{m:Str->Option Value},(∀ v,(x,v)∉binds)->bindL kindOf binds m x=m x
 | [],_,_=>rfl
 | (n,v)::r,m,h=>by
  unfold bindL;rw[jat λw a=>h w (L5 _ a)];split
  ·have:x≠n:=by rintro rfl;exact h v L6
   simp[this]
  ·rfl
theorem jan{kindOf:Str->Option NameKind}  : ∀{binds:List (Str×Value)}{m:Str->Option Value},(∀ v,(x,v)∉binds)->bindC kindOf binds m x=m x
 | [],_,_=>rfl
 | (n,v)::r,m,h=>by
  unfold bindC;rw[jan λw a=>h w (L5 _ a)];split
  ·rfl
  ·have:x≠n:=by rintro rfl;exact h v L6
   simp[this]
theorem jap{kindOf:Str->Option NameKind}  : ∀{P:List Str}{vs:List Value}{i:Nat}{m:Str->Option Value},P.Nodup->P[i]?=some x->vs[i]?=some v->kindOf x=some .local ->
  bindL kindOf (P.zip vs) m x=some v
 | [],_,_,_,_,h,_,_=>by simp at h
 | _::_,[],_,_,_,_,h,_=>by simp at h
 | p::P,w::vs,0,m,nd,a,b,c=>by
  simp at a b;subst a;subst b;show bindL kindOf ((p,w)::P.zip vs) m p=_;unfold bindL;rw[jat λv d=>(List.nodup_cons.mp nd).1 (List.of_mem_zip d).1,if_pos c];simp
 | p::P,w::vs,i+1,m,nd,a,b,c=>by
  show bindL kindOf ((p,w)::P.zip vs) m x=_;unfold bindL;exact jap (i:=i) (List.nodup_cons.mp nd).2 (by simpa using a) (by simpa using b) c
theorem jaj{kindOf:Str->Option NameKind}  : ∀{P:List Str}{vs:List Value}{i:Nat}{m:Str->Option Value},P.Nodup->P[i]?=some x->vs[i]?=some v->kindOf x≠some .local ->
  bindC kindOf (P.zip vs) m x=some v
 | [],_,_,_,_,h,_,_=>by simp at h
 | _::_,[],_,_,_,_,h,_=>by simp at h
 | p::P,w::vs,0,m,nd,a,b,c=>by
  simp at a b;subst a;subst b;show bindC kindOf ((p,w)::P.zip vs) m p=_;unfold bindC;rw[jan λv d=>(List.nodup_cons.mp nd).1 (List.of_mem_zip d).1,if_neg c];simp
 | p::P,w::vs,i+1,m,nd,a,b,c=>by
  show bindC kindOf ((p,w)::P.zip vs) m x=_;unfold bindC;exact jaj (i:=i) (List.nodup_cons.mp nd).2 (by simpa using a) (by simpa using b) c
def start(N:List Str)(vs:List V):St:=vs.map some++List.replicate (N.length - vs.length) none
def jg5(CX:CXT)(P:Program)(w:World)(K:PySem.W.Frag)(mg:Str->Option Value)(base:Heap)(N:List Str)(qual:Str)(scope:Scope)(f:Addr)(cd:Value)(A:Around)(outer:List Env)(s:Shared)(H:Hp)(E:XK):Cx where
 prog:=P
 w:=w
 K:=K
 mg:=mg
 base:=base
 A:=A.deeper (envOfC qual scope s.heap.objs.size f cd)
 N:=N
 s₀:=s
 H₀:=H
 env:=envOfC qual scope s.heap.objs.size f cd
 outer:=outer
 stack:=envOfC qual scope s.heap.objs.size f cd::outer
 ex:=[]
 calm:=true
 fn:=λ_=>true
 pn:=[]
 xe:=λe s'=>wpAny (model P w) (A.deeper (envOfC qual scope s.heap.objs.size f cd)) (leaving (envOfC qual scope s.heap.objs.size f cd) e) (λ_ s''=>CX outer H s E e s'') (λe' s''=>CX outer H s E e' s'') s'
theorem jbS{a:Scope}{n:Nat}(h:a.names.lookup x=some .cell):∃ c,(cellsFrom n a.names []).lookup x=some c:=by
 have q:=PySem.W.cellsFrom_some a.names n [] (.inl h);exact Option.isSome_iff_exists.mp q
theorem jew{CX:CXT}{P:Program}{w:World}{K:PySem.W.Frag}{mg:Str->Option Value}{base:Heap}{N ps:List Str}{qual:Str}{scope:Scope}{f:Addr}{cd:Value}{A:Around}{outer:List Env}{s C:Shared}{H:Hp}{E:XK}{us:List Value}{vs:List V}
  (S:FnScope N ps scope) (hd:A.handled=none) (g:Env0 P w K mg base A outer s H) (L:vs.length=ps.length) (r:Vals vs us)
  (x:InCallC s s.heap.objs.size (bindL (envOfC qual scope s.heap.objs.size f cd).kindOf (ps.zip us) λ_=>none) (cellsFrom (s.heap.objs.size+1) scope.names []) (bindC (envOfC qual scope s.heap.objs.size f cd).kindOf (ps.zip us) λ_=>none) C) :
  Inv (jg5 CX P w K mg base N qual scope f cd A outer s H E) [] (start N vs) H C:=by
 have G:ps.length<=N.length:=by have:=congrArg List.length S.pre;rw[X9] at this;omega
 obtain⟨t,M,rfl,D⟩:=x.done;have j:∀ b:Addr,b∉(jg5 CX P w K mg base N qual scope f cd A outer s H E).ex:=λb z=>absurd (show b∈([]:List Addr) from z) (by simp);refine⟨⟨g.mod,S.kind,rfl,rfl,M8 _,λy z c t d=>?_,λy l=>?_,λy c _ h=>?_,λ_=>hd,Around.frames_deeper g.frames,.inr ⟨rfl,rfl⟩,λb z=>absurd z (j b),g.bs,g.bsz,λb _ _=>j b,λb z=>absurd z (j b),g.funs,g.frf⟩,
  rfl,g.bare,Un.kept D,⟨_,x.toInCall.ns,λi y v t d O=>?_⟩,λy c h=>⟨_,x.cell y c h⟩,g.hok.fresh (M8 _),λy c h=>?_,λp m=>absurd (show p∈([]:List (Addr×Obj)) from m) (by simp),g.hok.kept D,?_⟩
 ·exact name_of_addr x.apart (PySem.mem_of_lookup t) (PySem.mem_of_lookup d)
 ·have l:scope.names.lookup y=some .cell \/ scope.names.lookup y=some .free:=l;rcases l with l | l
  ·exact jbS l
  ·exact absurd rfl (S.nofree _ (PySem.mem_of_lookup l))
 ·exact Nat.le_of_lt (x.above y c (PySem.mem_of_lookup h))
 ·have B:i < vs.length:=by
   unfold start at d;by_cases B:i < vs.length
   ·exact B
   ·rw[List.getElem?_append_right (by simpa using B)] at d;rw[List.getElem?_replicate] at d;split at d<;>cases d
  have I:vs[i]?=some v:=by
   unfold start at d;rw[List.getElem?_append_left (by simpa using B),List.getElem?_map] at d;cases e:vs[i]? with
   | none=>rw[e] at d;cases d
   | some a=>rw[e] at d;cases d;rfl
  obtain⟨u,F,J⟩:=r.get I;have m:ps[i]?=some y:=by
   rw[<- S.pre,List.getElem?_take_of_lt (by omega)];exact t
  have o:ps.Nodup:=by rw[<- S.pre];exact S.nd.sublist (List.take_sublist _ _)
  refine⟨u,J,?_⟩;rcases S.par y (List.mem_of_getElem? m) with k | k
  ·exact .inl ⟨k,jap o m F k⟩
  ·obtain⟨c,e⟩:=jbS (n:=s.heap.objs.size+1) k;refine .inr ⟨.inl k,c,e,?_⟩;have q:=x.cell y c e;rw[jaj o m F (by show scope.names.lookup y≠_;rw[k];decide)] at q;exact q
 ·exact g.hok.fresh (Nat.le_of_lt (x.above y c (PySem.mem_of_lookup h)))
 ·unfold start;show _=N.length;rw[N5,L0,List.length_replicate];omega
theorem jmY{CX:CXT}{P:Program}{w:World}{K:PySem.W.Frag}{mg:Str->Option Value}{base:Heap}{k:Nat}{f:Addr}{name qual:Str}{params:Arguments}{body:List Stmt}{scope:Scope}{F kV h pm a ct oc:Value}{an od:Option Addr}
  {p:Array (Option Value)}{N ps:List Str}{sp:Sp}(O:K.lookup f=some ⟨oc,od,.func (PySem.W.fnOf name qual params body scope F kV h pm an a ct),p⟩) (z:PySem.W.codeIn K a qual=true) (S:FnScope N ps scope)
  (len:∀ vs H Q E,sp vs H Q E->vs.length=ps.length)
  (c:∀(A:Around) (outer:List Env) (s:Shared) (H:Hp) (vs:List V) (Q:VK) (E:XK),Room k (A.deeper (envOfC qual scope s.heap.objs.size f a))->sp vs H Q E ->
   ∃ t,PSs (jg5 CX P w K mg base N qual scope f a A outer s H E) body t/\t { nx:=λ_ H'=>Q .non H',rt:=Q } (start N vs) H) :
  FnOk P w K mg base CX (k+1) f (PySem.W.fnOf name qual params body scope F kV h pm an a ct) ps sp:=by
 refine⟨len,λA outer s H G R vs Q E B i T r j=>?_⟩;have U:=len _ _ _ _ j;have L:K.In s.heap:=i.mod.kin.keeps λb o e=>(i.bs b o e).1;have lim:s.heap.NoLimit:=i.mod.nolimit.keeps λb o e=>(i.bs b o e).1;have d:∀ y∈ps.zip R,scope.names.lookup y.1=some .local \/ (scope.names.lookup y.1=some .cell/\((cellsFrom (s.heap.objs.size+1) scope.names []).lookup y.1).isSome=true):=λ⟨n,v⟩ X=>by
  rcases S.par n (List.of_mem_zip X).1 with q | q
  ·exact .inl q
  ·exact .inr ⟨q,PySem.W.cellsFrom_some _ _ _ (.inl q)⟩
 refine codeAny_call_function B.depth (L _ _ O) rfl S.co S.gen rfl (PySem.W.codeRec_of L z) (T _ _ _ _ ?_);refine wpAny_newFunctionEnv_cells S.kind d λenv Y M x=>?_;subst Y;refine⟨lim.keeps x.toInCall.keep,codeAny_func ?_⟩;obtain⟨t,Z,hq⟩:=c A outer s H vs Q E (B.deeper _) j;have I:Inv (jg5 CX P w K mg base N qual scope f a A outer s H E) [] (start N vs) H M:=jew S B.hd i U r x;refine wpAny_mono (Z [] M (start N vs) H _ I hq) (λfl C g=>?_) λe C g=>g;have l:∀{m:St}{H':Hp}{v:V}{u:Value},Inv (jg5 CX P w K mg base N qual scope f a A outer s H E) [] m H' C->RelV v u->Q v H'->CE outer P w H s Q u C :=
  λ{m H' v u} J D q=>⟨v,H',J.os,J.bare,J.base,J.hok,D,q⟩
 cases fl with
 | ret u =>
  obtain⟨v,m,H',J,D,q⟩:=g;exact l J D q
 | next =>
  obtain⟨m,H',J,q⟩:=g;exact l (v:=V.non) (u:=Value.none) J rfl q
 | brk =>
  obtain⟨_,_,_,q⟩:=g;exact False.elim q
 | cont =>
  obtain⟨_,_,_,q⟩:=g;exact False.elim q
section
variable {X:Cx}{x:Str}{p pos:Pos}{e:Expr}{es:List Expr}{t:TA}{id T:String}{r:List V->Hp->VK->Prop}
def tCB(r:List V->Hp->VK->Prop)(t:TA):TE:=λσ H Q=>t σ H λvs H1=>r vs H1 Q
theorem jbN(d:KB X (.builtin id) r)(f:Gl X x)(g:X.mg x=none)(i:bootBuiltins x=some (.builtin id))(j:PA X (e::es) t)(hn:x≠"__name__":=by decide)(b:(x==("__debug__" : Str))=false:=by decide)
  (k:starEach (e::es) X.env=(false,eval e X.env)::starEach es X.env:=by rfl) (c:(backTo pos (starEach es X.env)).any (·.1)=false:=by rfl):PE X (.Call (.Name x p) (e::es) [] pos) (tCB r t):=by
 intro a s σ H Q I h;refine wpAny_Call_Name_kw (VW I f g i ?_ hn b);exact PyProof.Rows.callWith_builtin1 (thn (j pos a s σ H _ I h) λl m ⟨n,o,q,u,v⟩=>d a m σ o n l Q q u v) k c
theorem uC(d:KB X (.type T) r)(f:Gl X x)(g:X.mg x=none)(i:bootBuiltins x=some (.type T))(j:PA X (e::es) t)(hn:x≠"__name__":=by decide)(b:(x==("__debug__" : Str))=false:=by decide)
  (k:starEach (e::es) X.env=(false,eval e X.env)::starEach es X.env:=by rfl) (c:(backTo pos (starEach es X.env)).any (·.1)=false:=by rfl):PE X (.Call (.Name x p) (e::es) [] pos) (tCB r t):=by
 intro a s σ H Q I h;refine wpAny_Call_Name_kw (VW I f g i ?_ hn b);exact PyProof.Rows.callWith_type1 (thn (j pos a s σ H _ I h) λl m ⟨n,o,q,u,v⟩=>d a m σ o n l Q q u v) k c
end
end L2
namespace HT
open PySem PyProof.Rows
section
open PySem.SeqAt
open PySem.AutoSeq1 (wpAny_loadPart')
open PySem.MeetsSeq PySem.MeetsSeq2 PySem.MeetsSeq3
end
section
variable {prog:Program}{w:World}{A:Around}{E:Value->Shared->Prop}{s:Shared}
theorem cat_tup  (p:IsTup s.heap t vs.toArray) (q:IsTup s.heap b ws.toArray) (k:vs≠[])
  (h1:ws=[]->Q (.ref t) s) (h2:ws≠[]->Q (.ref s.heap.objs.size) { s with heap:=s.heap.push { cls:=.type "tuple",data:=.seq (vs++ws).toArray } })
  (hsz:vs.length+ws.length<=sizeLine):wpAny (model prog w) A (binaryOp .Add (.ref t) (.ref b)) Q E s:=by
 obtain⟨⟨cls,dd,data,sl⟩,h,l,n,hd⟩:=id p;obtain⟨⟨m,c,j,d⟩,a,f,o,g⟩:=id q;simp only at l hd f g;subst l hd f g;have e:vs.toArray++ws.toArray=(vs++ws).toArray:=by simp
 by_cases i:ws=[]
 ·exact concat_meets ⟨_,h,rfl⟩ ⟨_,a,rfl⟩ noFill_tuple_add seq_tuple_add PySem.F.slot_tuple_add PySem.F.entry_tuple_add (PySem.F.args_tuple_add_2 _ _)
   (tuple_addW1 t b vs.toArray ws.toArray n o dd c sl d (by simpa using k) (by simp[i])) ⟨h,a,h1 i⟩
 ·refine concat_meets ⟨_,h,rfl⟩ ⟨_,a,rfl⟩ noFill_tuple_add seq_tuple_add PySem.F.slot_tuple_add PySem.F.entry_tuple_add (PySem.F.args_tuple_add_2 _ _)
   (tuple_addW2 t b vs.toArray ws.toArray n o dd c sl d (by simpa using k) (by simpa using i) (by rw[N4,N4];exact hsz)) ⟨h,a,?_⟩
  rw[e];exact h2 i
def sIx(n d:Nat):Option Int->Nat
 | none=>d
 | some v=>if v < 0 then(v+(n:Int)).toNat else min v.toNat n
theorem sIx_none(n d:Nat):sIx n d none=d:=rfl
theorem sIx_nat(n d k:Nat):sIx n d (some (k:Int))=min k n:=by
 show(if(k:Int) < 0 then((k:Int)+(n:Int)).toNat else min (k:Int).toNat n)=min k n;rw[if_neg (by omega),N9]
theorem sIx_le(n d:Nat)(hd:d<=n)(o:Option Int):sIx n d o<=n:=by
 cases o with
 | none=>exact hd
 | some v =>
  show(if v < 0 then(v+(n:Int)).toNat else min v.toNat n)<=n;by_cases a:v < 0
  ·rw[if_pos a];omega
  ·rw[if_neg a];exact Nat.min_le_right _ _
theorem je3(v:Int)(n d:Nat):(if v < 0 then max (v+(n:Int)) 0 else min v (n:Int))=((sIx n d (some v):Nat):Int):=by
 show(if v < 0 then max (v+(n:Int)) 0 else min v (n:Int))=(((if v < 0 then(v+(n:Int)).toNat else min v.toNat n):Nat):Int);by_cases a:v < 0
 ·simp only[if_pos a];omega
 ·simp only[if_neg a];omega
theorem jcU(lo hi:Option Int)(n:Nat):Builtin.Slice.sliceAdjust lo hi 1 (n:Int)=(((sIx n 0 lo:Nat):Int),((sIx n n hi:Nat):Int)):=by
 have a:¬ ((1:Int) < 0):=by omega
 unfold Builtin.Slice.sliceAdjust;simp only[a,if_false];refine Prod.ext ?_ ?_
 ·cases lo with
  | none=>rfl
  | some v=>exact je3 v n 0
 ·cases hi with
  | none=>rfl
  | some v=>exact je3 v n n
theorem jcY(i j:Nat):Builtin.Slice.slicePlaces (i:Int) (j:Int) 1=j - i:=by
 unfold Builtin.Slice.slicePlaces;have a:(1:Int) > 0:=by omega
 simp only[a,if_true,Int.ediv_one];split<;>omega
theorem wa  (p:IsPart v o) (h:Q o s):wpAny (model prog w) A (Builtin.Slice.slicePartIndex v) Q E s:=by
 cases p with
 | none=>exact slicePart_none h
 | int i t=>exact slicePart_int h
theorem zb  {lo hi:Option Int}{n:Nat}{Q:Int×Int×Nat->Shared->Prop}(c:s.heap.IsSliceOf sl vl vu .none) (pl:IsPart vl lo) (d:IsPart vu hi)
  (h:Q (((sIx n 0 lo:Nat):Int),1,sIx n n hi - sIx n 0 lo) s):wpAny (model prog w) A (Builtin.Slice.sliceApplied (.ref sl) (pure (n:Int))) Q E s:=by
 obtain⟨os,a,e,b⟩:=id c;unfold Builtin.Slice.sliceApplied Builtin.Slice.sliceFields;refine L1 (L1 (U7 a b (x:=vl) rfl (L1 (U7 a b (x:=vu) rfl (L1 (U7 a b (x:=.none) rfl (M6 ?_)))))));refine L1 (slicePart_none ?_);show wpAny _ _ (if((1:Int)==0)=true then _ else _) _ _ s;rw[if_neg (by decide)];refine L1 (wa pl (L1 (wa d (L1 (M6 ?_)))));show wpAny _ _ (match Builtin.Slice.sliceAdjust lo hi 1 (n:Int) with | (lo,hi)=>pure (lo,(1:Int),Builtin.Slice.slicePlaces lo hi 1)) _ _ s;rw[jcU lo hi n];show wpAny _ _ (pure (((sIx n 0 lo:Nat):Int),(1:Int),Builtin.Slice.slicePlaces ((sIx n 0 lo:Nat):Int) ((sIx n n hi:Nat):Int) 1)) _ _ s;rw[jcY];exact M6 h
theorem jfz(xs:Array Value)(i k:Nat):((List.range k).filterMap λ(m:Nat)=>xs[((i:Int)+(m:Int)*1).toNat]?).toArray=((xs.toList.drop i).take k).toArray:=by
 have e:(λ(m:Nat)=>xs[((i:Int)+(m:Int)*1).toNat]?)=λm=>xs[i+m]?:=by
  funext m
  have:((i:Int)+(m:Int)*1).toNat=i+m:=by omega
  rw[this]
 rw[e];have:=pick_run xs i k;rw[List.filterMap_map] at this;have a:((λx=>xs[x]?) ∘ λx=>i+x)=λm=>xs[i+m]?:=rfl;rw[a] at this;rw[this]
theorem getItem_tuple_cut  {items:Array Value}{lo hi:Option Int}{Q:Value->Shared->Prop}(b:IsTup s.heap t items) (g:s.heap.IsSliceOf sl vl vu .none) (pl:IsPart vl lo) (i:IsPart vu hi)
  (j:¬ (sIx items.size 0 lo=0/\sIx items.size items.size hi=items.size))
  (h:Q (.ref s.heap.objs.size) { s with heap:=s.heap.push { cls:=.type "tuple",data:=.seq ((items.toList.drop (sIx items.size 0 lo)).take (sIx items.size items.size hi - sIx items.size 0 lo)).toArray } })
  (hsz:items.size<=sizeLine):wpAny (model prog w) A (getItem (.ref t) (.ref sl)) Q E s:=by
 have a:sizeOk (.seq ((items.toList.drop (sIx items.size 0 lo)).take (sIx items.size items.size hi - sIx items.size 0 lo)).toArray):=by
  show((items.toList.drop (sIx items.size 0 lo)).take (sIx items.size items.size hi - sIx items.size 0 lo)).toArray.size<=sizeLine;rw[N4,X9,List.length_drop,Array.length_toList];omega
 have l:sIx items.size items.size hi<=items.size:=sIx_le _ _ (M8 _) hi;obtain⟨os,c,d,k⟩:=id g;have e:s.TypeIs (.ref sl) "slice":=⟨os,c,d⟩;unfold getItem
 try with_reducible refine wpAny_holding ?_
 first | refine L1 (M6 ?_) | skip
 refine L1 (wpAny_sequenceKey b.typeIs (by decide) ?_);refine L1 (wpAny_callSpecial?_slot (name:=Str.ofString "__getitem__") b.typeIs PyProof.Rows.slot_tuple_getitem
  (wpAny_call_entry PyProof.Rows.slot_tuple_getitem b.typeIs entry_tuple_getitem ?_ (args_tuple_getitem _ _)))
 show wpAny _ _ (Builtin.Tuple.tupleItemsOf (.ref t) >>= _) _ _ s;refine L1 (tupleItemsOf_ b ?_);refine L1 (wpAny_typeOf e ?_);rw[if_pos (by decide)];refine L1 (zb g pl i ?_);have f:¬ ((((sIx items.size 0 lo:Nat):Int)==0&&(1:Int)==1&&(sIx items.size items.size hi - sIx items.size 0 lo)==items.size)=true):=by
  intro q;rw[L9,L9] at q;have n:((sIx items.size 0 lo:Nat):Int)=0:=eq_of_beq q.1.1;have o:sIx items.size items.size hi - sIx items.size 0 lo=items.size:=eq_of_beq q.2;exact j ⟨by omega,by omega⟩
 show wpAny _ _ (if(((sIx items.size 0 lo:Nat):Int)==0&&(1:Int)==1&&(sIx items.size items.size hi - sIx items.size 0 lo)==items.size)=true then _ else _) _ _ s;rw[if_neg f,jfz]
 first
  | exact L1 (m:=Builtin.Tuple.tupleExact _) (wpAny_newObj_type (M6 ⟨_,rfl,M6 h⟩) a)
  | exact L1 (m:=Builtin.Tuple.tupleExact _) (wpAny_newObj_type (L1 (M6 (M6 ⟨_,rfl,M6 h⟩))) a)
  | exact L1 (L1 (m:=Builtin.Tuple.tupleExact _) (wpAny_newObj_type (M6 (M6 ⟨_,rfl,M6 h⟩)) a))
  | exact L1 (L1 (m:=Builtin.Tuple.tupleExact _) (wpAny_newObj_type (M6 ⟨_,rfl,M6 h⟩) a))
end
end HT
namespace L2
open PySem PySem.Spec PyProof.Rows
abbrev TO:=St->Hp->(Option Int->Hp->Prop)->Prop
def PO(X:Cx)(e:Option Expr)(t:TO):Prop :=
 ∀(pins:List (Addr×Obj)) (s:Shared) (σ:St) (H:Hp) (Q:Option Int->Hp->Prop),Inv X pins σ H s->t σ H Q ->
  wpAny (model X.prog X.w) X.A (evalPart e X.env) (λu s'=>∃ o H',Inv X pins σ H' s'/\IsPart u o/\Q o H') X.xe s
def ja0:TO:=λ_ H Q=>Q none H
def jhw(t:TE):TO:=λσ H Q=>t σ H λx H1=>∃ i,x=.int i/\Q (some i) H1
theorem jcm  : ∀{us:List Value},Vals (ns.map V.int) us->IntsAre us ns:=by
 induction ns with
 | nil=>intro us r;rw[List.map_nil] at r;cases r;exact .nil
 | cons n ns a =>
  intro us r;rw[L4] at r;cases r with
  | cons b c =>
   obtain⟨t,e⟩:=b;subst e;exact .cons n t (a c)
section
variable {X:Cx}{e:Expr}{te:TE}{lo hi:Option Expr}{tl th:TO}{pos p2:Pos}
theorem jhv:PO X none ja0:=by
 intro a s σ H Q I h;rw[evalPart_none];exact M6 ⟨none,H,I,.none,h⟩
theorem jia(h:PE X e te):PO X (some e) (jhw te):=by
 intro a s σ H Q I b;rw[evalPart_some];refine thn (h a s σ H _ I b) λu j ⟨x,c,d,f,g⟩=>?_;obtain⟨i,rfl,q⟩:=g;obtain⟨t,rfl⟩:=f;exact⟨some i,c,d,.int i t,q⟩
def SlR(X:Cx)(r:V->Option Int->Option Int->Hp->VK->Prop):Prop :=
 ∀(pins:List (Addr×Obj)) (s:Shared) (σ:St) (H:Hp) (x:V) (v vl vu:Value) (lo hi:Option Int) (sl:Addr) (Q:VK),Inv X pins σ H s->RelV x v->s.heap.IsSliceOf sl vl vu .none->IsPart vl lo->IsPart vu hi->r x lo hi H Q ->
  ∃ T id,typeLookup (.type T) "__getitem__" = pure (some (.builtin id))/\s.TypeIs v T/\wpAny (model X.prog X.w) X.A (getItem v (.ref sl)) (EP X pins σ Q) X.xe s
theorem SlR.or  (h:SlR X r) (h':SlR X r'):SlR X (λx lo hi H Q=>r x lo hi H Q \/ r' x lo hi H Q):=by
 intro a s σ H x v b c lo hi sl Q I d e f g q;rcases q with q | q
 ·exact h a s σ H x v b c lo hi sl Q I d e f g q
 ·exact h' a s σ H x v b c lo hi sl Q I d e f g q
def tSl(r:V->Option Int->Option Int->Hp->VK->Prop)(te:TE)(tl th:TO):TE:=λσ H Q=>te σ H λx H1=>tl σ H1 λl H2=>th σ H2 λu H3=>r x l u H3 Q
theorem jgx{r:V->Option Int->Option Int->Hp->VK->Prop}(i:SlR X r)(j:PE X e te)(k:PO X lo tl)(m:PO X hi th):PE X (.Subscript e (.Slice lo hi none p2) pos) (tSl r te tl th):=by
 intro a s σ H Q I h;refine Subscript_ (thn (j a s σ H _ I h) λv n ⟨x,o,p,t,y⟩=>?_);refine wpAny_Slice (thn (k a n σ o _ p y) λd z ⟨l,B,C,D,E⟩=>thn (m a z σ B _ C E) λf c ⟨u,g,F,G,J⟩=>?_);rw[evalPart_none];refine M6 ?_;have K:Inv X a σ g { c with heap:=c.heap.push { cls:=.type "slice",data:=.fields #[d,f,.none] } }:=F.kept (t':=c.toks) λb ob q=>L7 _ q;obtain⟨T,id,L,M,N⟩:=i a { c with heap:=c.heap.push { cls:=.type "slice",data:=.fields #[d,f,.none] } } σ g x v d f l u c.heap.objs.size Q K t (Heap.IsSliceOf.new ..) D G J;show wpAny (model X.prog X.w) X.A (subscriptTail e (.Slice lo hi none p2) v (.ref c.heap.objs.size)) (EP X a σ Q) X.xe { c with heap:=c.heap.push { cls:=.type "slice",data:=.fields #[d,f,.none] } };exact tail_any (ops:=[.ref c.heap.objs.size,v]) M L N (by with_unfolding_all rfl)
def jhf(xs:List V)(lo hi:Option Int):List V:=(xs.drop (HT.sIx xs.length 0 lo)).take (HT.sIx xs.length xs.length hi - HT.sIx xs.length 0 lo)
theorem xv(xs:List V)(lo hi:Option Int):(jhf xs lo hi).length<=xs.length:=by
 unfold jhf;rw[X9,List.length_drop];omega
def jm7(K:PySem.W.Frag):V->Option Int->Option Int->Hp->VK->Prop:=λx lo hi H Q=>∃ a xs,x=.ref a/\SqT K H a xs /\
 ¬ (HT.sIx xs.length 0 lo=0/\HT.sIx xs.length xs.length hi=xs.length)/\∀ p,H p=none->Q (.ref p) (upd H p (.tup (jhf xs lo hi)))
theorem jlz:SlR X (jm7 X.K):=by
 intro i s σ H x v w y e f sl Q I l m n p h;obtain⟨a,d,rfl,t,u,q⟩:=h;cases l;obtain⟨g,r,j,k⟩:=I.tuple t;have c:g.toArray.size=d.length:=by rw[N4];exact r.length.symm
 refine⟨"tuple",_,PyProof.Rows.slot_tuple_getitem.lookup,j.typeIs,?_⟩;refine HT.getItem_tuple_cut j m n p (by rw[c];exact u) ?_ (by rw[c];exact k);rw[c];refine⟨.ref s.heap.objs.size,_,I.laid (t':=s.toks) (o:=.tup (jhf d e f)) (λb ob q=>L7 _ q) (M8 _) ?_,rfl,q _ (I.hok.fresh (M8 _))⟩;exact⟨N8 (xv d e f) k,_,(r.drop (HT.sIx d.length 0 e)).take (HT.sIx d.length d.length f - HT.sIx d.length 0 e),IsTupN.new _ _⟩
def jls(K:PySem.W.Frag):R2:=λx y H Q=>∃ a b xs ys,x=.ref a/\y=.ref b/\SqT K H a xs/\SqT K H b ys/\xs≠[]/\xs.length+ys.length<=sizeLine /\
 (ys=[]->Q (.ref a) H)/\(ys≠[]->∀ p,H p=none->Q (.ref p) (upd H p (.tup (xs++ys))))
theorem Vals.nil_iff  (r:Vals xs us):us=[]↔xs=[]:=by
 cases r with
 | nil=>simp
 | cons _ _=>simp
theorem jit:OpR X (binaryOp .Add) (jls X.K):=by
 intro e s σ H x y v u Q I i j h;obtain⟨a,b,k,l,rfl,rfl,m,n,p,f,r,t⟩:=h;cases i;cases j;obtain⟨A,d,p1,_⟩:=I.tuple m;obtain⟨g,c,p2,_⟩:=I.tuple n;refine HT.cat_tup p1 p2 (λz=>p (d.nil_iff.mp z)) (λz=>⟨.ref a,H,I,rfl,r (c.nil_iff.mp z)⟩) (λz=>?_) (by rw[<- d.length,<- c.length];exact f);refine⟨.ref s.heap.objs.size,_,I.laid (t':=s.toks) (o:=.tup (k++l)) (λb ob q=>L7 _ q) (M8 _) ?_,rfl,t (λw=>z (c.nil_iff.mpr w)) _ (I.hok.fresh (M8 _))⟩;exact⟨by rw[N5];exact f,_,d.append c,IsTupN.new _ _⟩
end
def ixN(n:Nat)(i:Int):Option Nat:=if 0<=i then(if i < n then some i.toNat else none) else if -(n:Int)<=i then some (i+n).toNat else none
def atI{α:Type}(xs:List α)(i:Int):Option α:=(ixN xs.length i).bind λj=>xs[j]?
theorem jjD  (h:ixN n i=some j):seqIndex? i n=some j/\j < n/\-(n:Int)<=i/\i < n:=by
 unfold ixN at h;by_cases b:0<=i
 ·rw[if_pos b] at h;by_cases a:i < n
  ·rw[if_pos a] at h;have e:i.toNat=j:=X6 h;exact⟨by rw[seqIndex_of b a,e],by omega,by omega,a⟩
  ·rw[if_neg a] at h;cases h
 ·rw[if_neg b] at h;by_cases a:-(n:Int)<=i
  ·rw[if_pos a] at h;have e:(i+n).toNat=j:=X6 h;exact⟨by rw[seqIndex_neg (by omega) a,e],by omega,a,by omega⟩
  ·rw[if_neg a] at h;cases h
theorem jaS  (h:atI xs i=some v):∃ j,seqIndex? i xs.length=some j/\xs[j]?=some v/\j < xs.length/\-(xs.length:Int)<=i/\i < xs.length:=by
 unfold atI at h;cases e:ixN xs.length i with
 | none=>rw[e] at h;cases h
 | some j =>
  rw[e] at h;obtain⟨a,b,c,d⟩:=jjD e;exact⟨j,a,h,b,c,d⟩
def xz(b:Expr):Prop:=∀ o i,subscripted b false o i=operate [o,i] (getItem o i)
def IxR(X:Cx)(r:R2):Prop :=
 ∀(value slice:Expr) (pins:List (Addr×Obj)) (s:Shared) (σ:St) (H:Hp) (x y:V) (v u:Value) (Q:VK),Inv X pins σ H s->RelV x v->RelV y u->r x y H Q ->
  subscripted slice false v u=operate [v,u] (getItem v u)->wpAny (model X.prog X.w) X.A (subscriptTail value slice v u) (EP X pins σ Q) X.xe s
def MtR(X:Cx)(id:String)(r:V->List V->Hp->VK->Prop):Prop :=
 ∀(pins:List (Addr×Obj)) (s:Shared) (σ:St) (H:Hp) (x:V) (xs:List V) (v:Value) (us:List Value) (Q:VK),Inv X pins σ H s->RelV x v->Vals xs us->r x xs H Q ->
  wpAny (model X.prog X.w) X.A (call (.builtin id) (v::us)) (EP X pins σ Q) X.xe s
section
variable {X:Cx}{a b:Expr}{ta tb:TE}{pos:Pos}
theorem IxR.or  (h:IxR X r) (h':IxR X r'):IxR X (λx y H Q=>r x y H Q \/ r' x y H Q):=by
 intro value slice a s σ H x y v u Q I b c q d;rcases q with q | q
 ·exact h value slice a s σ H x y v u Q I b c q d
 ·exact h' value slice a s σ H x y v u Q I b c q d
theorem jii  (d:IxR X r) (e:PE X a ta) (f:PE X b tb) (g:xz b):PE X (.Subscript a b pos) (tOp r ta tb):=by
 intro c s σ H Q I h;exact Subscript_ (jmp e f I h λv u i x y j k l m q=>d a b c i σ j x y v u Q k l m q (g _ _))
def jne(K:PySem.W.Frag):R2:=λx y H Q=>∃ p xs i v,x=.ref p/\y=.int i/\SqL K H p xs/\atI xs i=some v/\Q v H
def jna(K:PySem.W.Frag):R2:=λx y H Q=>∃ p xs i v,x=.ref p/\y=.int i/\SqT K H p xs/\atI xs i=some v/\Q v H
def jnd:R2:=λx y H Q=>∃ z i c,x=.str z/\y=.int i/\z.length<=sizeLine/\atI z.cps.toList i=some c/\Q (.str ⟨#[c]⟩) H
theorem ix_list:IxR X (jne X.K):=by
 intro value slice a s σ H x y v u Q I n o h k;obtain⟨p,J,i,z,rfl,rfl,A,B,q⟩:=h;cases n;obtain⟨t,rfl⟩:=o;obtain⟨d,r,e,L⟩:=I.list A;obtain⟨j,c,C,M,D,E⟩:=jaS B;obtain⟨w,l,f⟩:=r.get C;have F:=r.length;have N:=jb2;have b:EP X a σ Q w s:=⟨z,H,I,f,q⟩;by_cases m:0<=i
 ·have g:i.toNat=j:=by
   rw[seqIndex_of m E] at c;exact X6 c
  exact item_listR e.isList m (by omega) (by rw[g];simpa using l) b k
 ·have g:(i+(d.toArray.size:Int)).toNat=j:=by
   rw[seqIndex_neg (by omega) D] at c;rw[N4,<- F];exact X6 c
  exact subscriptTail_builtinR (x:=w) e.isList.typeIs slot_list_getitem.lookup
   (wpAny_getItem_list_neg (Q:=λr G=>r=w/\EP X a σ Q r G) e.isList (by omega) (by rw[N4]<;>omega) (by omega) (by rw[g];simpa using l) ⟨rfl,b⟩) k
theorem ix_tup:IxR X (jna X.K):=by
 intro value slice a s σ H x y v u Q I e f h g;obtain⟨p,D,i,z,rfl,rfl,k,l,q⟩:=h;cases e;obtain⟨t,rfl⟩:=f;obtain⟨m,r,d,E⟩:=I.tuple k;obtain⟨j,n,o,F,G,J⟩:=jaS l;obtain⟨w,A,b⟩:=r.get o;have B:=r.length;have L:=jb2;have c:EP X a σ Q w s:=⟨z,H,I,b,q⟩;exact subscriptTail_builtinR (x:=w) d.typeIs slot_tuple_getitem.lookup
  (getItem_tuple (j:=j) (Q:=λr C=>r=w/\EP X a σ Q r C) d (by omega) (by omega) (by rw[N4,<- B];exact n) (by simpa using A) ⟨rfl,c⟩) g
theorem jlw:IxR X jnd:=by
 intro value slice a s σ H x y v u Q I d e h f;obtain⟨z,i,c,rfl,rfl,r,g,q⟩:=h;obtain⟨t,rfl⟩:=d;obtain⟨w,rfl⟩:=e;obtain⟨j,b,k,A,l,m⟩:=jaS g;have n:z.cps.toList.length=z.length:=by simp[Str.length]
 rw[n] at b l m;have B:=jb2;exact tail_any (typeIs_str s z t) slot_str_getitem.lookup (getItem_str (c:=c) (by
  have o:decide (i < -(2 ^ 63:Int))=false:=X4 (by omega);have p:decide (i ≥ 2 ^ 63)=false:=X4 (by omega);rw[o,p,Bool.or_false]) (by rw[b];simpa using k) ⟨.str ⟨#[c]⟩,H,I.tok _,⟨_,rfl⟩,q⟩) f
def rIx(K:PySem.W.Frag):R2:=λx y H Q=>jne K x y H Q \/ jna K x y H Q \/ jnd x y H Q
theorem jd0:IxR X (rIx X.K):=ix_list.or (ix_tup.or jlw)
theorem uS(lo hi:Option Int)(n:Nat):(sliceBounds lo hi none n).1=((HT.sIx n 0 lo:Nat):Int)/\(sliceBounds lo hi none n).2.1=((HT.sIx n n hi:Nat):Int)/\(sliceBounds lo hi none n).2.2=1:=by
 refine⟨?_,?_,rfl⟩
 ·cases lo with
  | none=>simp[sliceBounds,HT.sIx]
  | some i =>
   simp only[sliceBounds,HT.sIx,Option.getD_none,show(1:Int) > 0 by decide,if_true];by_cases h:i < 0
   ·simp only[h,if_true]<;>omega
   ·simp only[h,if_false]<;>omega
 ·cases hi with
  | none=>simp[sliceBounds,HT.sIx]
  | some i =>
   simp only[sliceBounds,HT.sIx,Option.getD_none,show(1:Int) > 0 by decide,if_true];by_cases h:i < 0
   ·simp only[h,if_true]<;>omega
   ·simp only[h,if_false]<;>omega
theorem ua(its:List Value)(lo hi:Option Int):slicePick its.toArray lo hi none=((its.drop (HT.sIx its.length 0 lo)).take (HT.sIx its.length its.length hi - HT.sIx its.length 0 lo)).toArray:=by
 obtain⟨a,b,c⟩:=uS lo hi its.toArray.size;unfold slicePick;rw[a,b,c];simp only[sliceRange_one,pick_run,N4]<;>rfl
def jm9(K:PySem.W.Frag):V->Option Int->Option Int->Hp->VK->Prop:=λx lo hi H Q=>∃ a xs,x=.ref a/\SqL K H a xs/\∀ p,H p=none->Q (.ref p) (upd H p (.lst (jhf xs lo hi)))
theorem jhr:SlR X (jm9 X.K):=by
 intro g s σ H x v u w e f sl Q I j k l m h;obtain⟨a,c,rfl,n,q⟩:=h;cases j;obtain⟨p,r,i,t⟩:=I.list n;have d:=r.length;refine⟨"list",_,slot_list_getitem.lookup,i.isList.typeIs,?_⟩;refine wpAny_getItem_list_slice i.isList k l m .none (by simp) ?_ (by rw[N4]<;>omega);rw[ua,<- d];refine⟨.ref s.heap.objs.size,_,I.laid (t':=s.toks) (o:=.lst (jhf c e f)) (λb ob q=>L7 _ q) (M8 _) ?_,rfl,q _ (I.hok.fresh (M8 _))⟩;exact⟨N8 (xv c e f) t,_,0,(r.drop (HT.sIx c.length 0 e)).take (HT.sIx c.length c.length f - HT.sIx c.length 0 e),E1 _ rfl⟩
def xw:V->Bool
 | .non=>true
 | .bl _=>true
 | .int _=>true
 | .str _=>true
 | _=>false
def eqV:V->V->Bool
 | .non,.non=>true
 | .bl a,.bl b=>a==b
 | .bl a,.int b=>(if a then 1 else 0)==b
 | .int a,.bl b=>a==(if b then 1 else 0)
 | .int a,.int b=>a==b
 | .str a,.str b=>a==b
 | _,_=>false
theorem jkz  (e:RelV y u) (c:RelV x v) (g:xw y=true) (f:xw x=true):SeqAt.EqAt A s u v (eqV y x):=by
 cases y with
 | non =>
  cases e;cases x with
  | non=>cases c;exact SeqAt.EqAt.same _
  | bl b=>cases c;exact SeqAt.EqAt.none_bool b
  | int b=>obtain⟨t,rfl⟩:=c;exact SeqAt.EqAt.none_int b t
  | str b=>obtain⟨t,rfl⟩:=c;exact SeqAt.EqAt.none_str b t
  | _=>exact absurd (show false=true from f) M3
 | bl a =>
  cases e;cases x with
  | non=>cases c;exact SeqAt.EqAt.bool_none a
  | bl b=>cases c;exact SeqAt.EqAt.bool_bool a b
  | int b=>obtain⟨t,rfl⟩:=c;exact SeqAt.EqAt.bool_int a b t
  | str b=>obtain⟨t,rfl⟩:=c;exact SeqAt.EqAt.bool_str a b t
  | _=>exact absurd (show false=true from f) M3
 | int a =>
  obtain⟨d,rfl⟩:=e;cases x with
  | non=>cases c;exact SeqAt.EqAt.int_none a d
  | bl b=>cases c;exact SeqAt.EqAt.int_bool a d b
  | int b=>obtain⟨t,rfl⟩:=c;exact SeqAt.EqAt.int_int a d b t
  | str b=>obtain⟨t,rfl⟩:=c;exact SeqAt.EqAt.int_str a d b t
  | _=>exact absurd (show false=true from f) M3
 | str a =>
  obtain⟨d,rfl⟩:=e;cases x with
  | non=>cases c;exact SeqAt.EqAt.str_none a d
  | bl b=>cases c;exact SeqAt.EqAt.str_bool a d b
  | int b=>obtain⟨t,rfl⟩:=c;exact SeqAt.EqAt.str_int a d b t
  | str b=>obtain⟨t,rfl⟩:=c;exact SeqAt.EqAt.str_str a d b t
  | _=>exact absurd (show false=true from f) M3
 | _=>exact absurd (show false=true from g) M3
def eqU(x:V)(u:Value):Bool:=match u with
 | .none=>eqV .non x
 | .bool b=>eqV (.bl b) x
 | .int i _=>eqV (.int i) x
 | .str z _=>eqV (.str z) x
 | _=>false
theorem jgY  (r:RelV y u) (f:xw y=true):eqU x u=eqV y x:=by
 cases y with
 | non=>cases r;rfl
 | bl b=>cases r;rfl
 | int i=>obtain⟨t,rfl⟩:=r;rfl
 | str z=>obtain⟨t,rfl⟩:=r;rfl
 | _=>exact absurd (show false=true from f) M3
theorem xE  : ∀{xs:List V}{us:List Value},Vals xs us->xs.all xw=true->us.any (eqU x)=xs.any λy=>eqV y x
 | _,_,.nil,_=>rfl
 | y::xs,u::us,.cons r t,f=>by
  rw[List.all_cons,L9] at f;rw[List.any_cons,List.any_cons,jgY r f.1,xE t f.2]
theorem K0  (b:RelV x v) (c:xw x=true):∀{xs:List V}{us:List Value},Vals xs us->xs.all xw=true->∀ u∈us,SeqAt.EqAt A s u v (eqU x u)
 | _,_,.nil,_=>λu a=>by cases a
 | y::xs,u::us,.cons r t,f=>λd a=>by
  rw[List.all_cons,L9] at f;rcases M4.mp a with rfl | a
  ·rw[jgY r f.1];exact jkz r b f.1 c
  ·exact K0 b c t f.2 d a
def inV(x:V)(xs:List V):Bool:=xs.any λy=>eqV y x
def rIn(K:PySem.W.Frag)(neg:Bool):R2:=λx y H Q=>∃ p xs,y=.ref p/\(SqL K H p xs \/ SqT K H p xs)/\xw x=true/\xs.all xw=true/\Q (.bl (if neg then !inV x xs else inV x xs)) H
theorem jdB:OpR X (compareOp .In) (rIn X.K false):=by
 intro e s σ H x y v u Q I f i h;obtain⟨p,k,rfl,b,g,fs,q⟩:=h;cases i;rcases b with b | b
 ·obtain⟨a,r,c,j⟩:=I.list b;refine SeqAt.in_listAt (eqU x) c.isList (λw d=>K0 f g r fs w (by simpa using d)) ⟨.bl _,H,I,rfl,?_⟩;rw[show a.toArray.any (eqU x)=a.any (eqU x) by simp,xE r fs];exact q
 ·obtain⟨a,r,c,j⟩:=I.tuple b;refine SeqAt.in_tupleAt (eqU x) c (λw d=>K0 f g r fs w (by simpa using d)) ⟨.bl _,H,I,rfl,?_⟩;rw[show a.toArray.any (eqU x)=a.any (eqU x) by simp,xE r fs];exact q
theorem uJ:OpR X (compareOp .NotIn) (rIn X.K true):=by
 intro e s σ H x y v u Q I f i h;obtain⟨p,k,rfl,b,g,fs,q⟩:=h;cases i;rcases b with b | b
 ·obtain⟨a,r,c,j⟩:=I.list b;refine SeqAt.notIn_listAt (eqU x) c.isList (λw d=>K0 f g r fs w (by simpa using d)) ⟨.bl _,H,I,rfl,?_⟩;rw[show a.toArray.any (eqU x)=a.any (eqU x) by simp,xE r fs];exact q
 ·obtain⟨a,r,c,j⟩:=I.tuple b;refine SeqAt.notIn_tupleAt (eqU x) c (λw d=>K0 f g r fs w (by simpa using d)) ⟨.bl _,H,I,rfl,?_⟩;rw[show a.toArray.any (eqU x)=a.any (eqU x) by simp,xE r fs];exact q
theorem yn:KB X (.type "tuple") (λxs H Q=>∃ p ys,xs=[.ref p]/\((SqL X.K H p ys/\∀ l,H l=none->Q (.ref l) (upd H l (.tup ys))) \/ (SqT X.K H p ys/\Q (.ref p) H))):=by
 intro a s σ H xs v Q I r h;obtain⟨p,ys,rfl,h⟩:=h;obtain⟨u,rfl,n⟩:=jly r;cases n;rcases h with⟨f,q⟩ | ⟨f,q⟩
 ·obtain⟨c,g,i,j⟩:=I.list f;have k:=g.length;refine call_tuple_list i.isList (λd kp=>?_) (by simp only[N4]<;>omega);have m:Inv X a σ H { s with heap:=d }:=I.kept (t':=s.toks) kp;have t:Inv X a σ (upd H d.objs.size (.tup ys)) { s with heap:=d.push { cls:=.type "tuple",data:=.seq c.toArray } } :=
   m.laid (t':=s.toks) (λb o e=>L7 _ e) (M8 _) (show ObjOk X.prog X.w _ _ _ (.tup ys) from⟨j,c,g,IsTupN.new _ _⟩)
  exact⟨.ref d.objs.size,_,t,rfl,q _ (m.hok.fresh (M8 _))⟩
 ·obtain⟨c,g,i,j⟩:=I.tuple f;exact call_tuple_same i ⟨.ref p,H,I,rfl,q⟩
def tyV(K:PySem.W.Frag)(T:String)(x:V)(H:Hp):Prop:=match x with
 | .str _=>T = "str"
 | .int _=>T = "int"
 | .ref p=>(T = "list"/\∃ xs,SqL K H p xs) \/ (T = "tuple"/\∃ o,K.lookup p=some o/\o.cls=.type "tuple"/\o.dict=none) \/
   (T = "dict"/\((∃ kvs,H p=some (.dK kvs)) \/ ∃ kvs,H p=some (.dT kvs))) \/ (T = "set"/\∃ S n,H p=some (.set S n))
 | _=>False
theorem jg3  (I:Inv X pins σ H s) (r:RelV x v) (ty:tyV X.K T x H) :
  s.TypeIs v T/\∀ a,v=.ref a->∃ ob,s.heap.get? a=some ob/\ob.dict=none:=by
 cases x with
 | str z =>
  obtain⟨t,rfl⟩:=r;cases(show T = "str" from ty);exact⟨typeIs_str s z t,λ_ e=>nomatch e⟩
 | int i =>
  obtain⟨t,rfl⟩:=r;cases(show T = "int" from ty);exact⟨typeIs_int s i t,λ_ e=>nomatch e⟩
 | ref p =>
  cases r;rcases ty with⟨rfl,l,h⟩ | ⟨rfl,o,b,j,hd⟩ | ⟨rfl,b⟩ | ⟨rfl,S,n,b⟩
  ·obtain⟨k,_,g,_⟩:=I.list h;refine⟨g.isList.typeIs,λa e=>?_⟩;cases e;obtain⟨o,n,e,c,hd,_⟩:=g;exact⟨o,e,hd⟩
  ·refine⟨⟨o,I.kIn p o b,j⟩,λa e=>?_⟩;cases e;exact⟨o,I.kIn _ o b,hd⟩
  ·have z:∃ o,s.heap.get? p=some o/\o.ExactDict:=by
    rcases b with⟨d,b⟩ | ⟨d,b⟩
    ·obtain⟨_,_,_,_,o,_,_,e,ex,_⟩:=I.hok p _ b;exact⟨o,e,ex⟩
    ·obtain⟨_,_,_,_,o,_,_,e,ex,_⟩:=I.hok p _ b;exact⟨o,e,ex⟩
   obtain⟨o,e,ex⟩:=z;refine⟨⟨o,e,ex.1⟩,λa f=>?_⟩;cases f;exact⟨o,e,ex.2.1⟩
  ·obtain⟨o,_,_,_,e,ex,_⟩:=I.hok p _ b;refine⟨⟨o,e,ex.1⟩,λa f=>?_⟩;cases f;exact⟨o,e,ex.2.1⟩
 | _=>exact False.elim ty
def jm3(K:PySem.W.Frag)(T:String)(r:V->List V->Hp->VK->Prop)(to:TE):TE:=λσ H Q=>to σ H λx H1=>tyV K T x H1/\r x [] H1 Q
def tBM(K:PySem.W.Frag)(T:String)(r:V->List V->Hp->VK->Prop)(to:TE)(t:TA):TE:=λσ H Q=>to σ H λx H1=>tyV K T x H1/\t σ H1 λxs H2=>r x xs H2 Q
variable {o e:Expr}{es:List Expr}{to:TE}{t:TA}{name:Str}{apos cpos:Pos}{T id:String}{r:V->List V->Hp->VK->Prop}
theorem jkF(pa:PlainAttrs T)(slot:Slot T name id)(d:typeOf (.builtin id)=pure (.type "method_descriptor"))(g:MtR X id r)(i:PE X o to)
  (b:attributeBase o name X.env (eval o X.env)=eval o X.env:=by rfl) (c:(apos.endLine==cpos.line)=true:=by rfl):PE X (.Call (.Attribute o name apos) [] [] cpos) (jm3 X.K T r to):=by
 intro a s σ H Q I h;refine wpAny_Call_method0_late b c (thn (i a s σ H _ I h) λv j ⟨x,k,e,f,ty,l⟩=>?_);obtain⟨m,n⟩:=jg3 e f ty;exact⟨T,id,pa,slot,d,m,n,Calls.callWith_builtin rfl (PySem.evalArgs_none (g a j σ k x [] v [] Q e f .nil l))⟩
theorem jfD(pa:PlainAttrs T)(slot:Slot T name id)(g:typeOf (.builtin id)=pure (.type "method_descriptor"))(l:MtR X id r)(m:PE X o to)(n:PA X (e::es) t)
  (c:attributeBase o name X.env (eval o X.env)=eval o X.env:=by rfl)
  (f:((backTo cpos (starEach (e::es) X.env)).all (λx=>!x.1)&&(backToKw cpos (keywordEach [] X.env)).all (λx=>x.1.isSome)
   && decide ((e::es).length+([]:List Keyword).length+(if([]:List Keyword).isEmpty then 0 else 1) < 30))=true:=by rfl)
  (d:(apos.endLine==cpos.line)=true:=by rfl) (p:starEach (e::es) X.env=(false,eval e X.env)::starEach es X.env:=by rfl) (b:(backTo cpos (starEach es X.env)).any (·.1)=false:=by rfl) :
  PE X (.Call (.Attribute o name apos) (e::es) [] cpos) (tBM X.K T r to t):=by
 intro a s σ H Q I h;refine wpAny_Call_method_late c f d rfl (thn (m a s σ H _ I h) λv q ⟨x,u,i,j,ty,w⟩=>?_);obtain⟨y,z⟩:=jg3 i j ty;refine⟨T,id,pa,slot,g,y,z,?_⟩;have k:=n cpos a q σ u _ i w;rw[p] at k ⊢;refine Calls.callWith_builtin (by show(false||(backTo cpos (starEach es X.env)).any (·.1))=false;rw[b]<;>rfl) (Calls.evalArgs_plain ?_);exact thn k λA B ⟨C,D,E,F,G⟩=>l a B σ D x C v A Q E j F G
end
def MtM(X:Cx)(id:String)(r:V->List V->Hp->VK->Prop):Prop :=
 ∀(pins:List (Addr×Obj)) (s:Shared) (σ:St) (H:Hp) (x:V) (xs:List V) (v:Value) (us:List Value) (Q:VK),Inv X pins σ H s->RelV x v->Vals xs us->r x xs H Q ->
  wpAny (model X.prog X.w) X.A (call (.builtin id) (v::us)) (EP X pins σ Q) X.xe s
theorem Vals.one:∀{x:V}{us:List Value},Vals [x] us->∃ u,us=[u]/\RelV x u
 | _,_,.cons r .nil=>⟨_,rfl,r⟩
theorem Vals.two:∀{x y:V}{us:List Value},Vals [x,y] us->∃ u v,us=[u,v]/\RelV x u/\RelV y v
 | _,_,_,.cons r (.cons q .nil)=>⟨_,_,rfl,r,q⟩
theorem Vals.zero:∀{us:List Value},Vals [] us->us=[]
 | _,.nil=>rfl
section
variable {X:Cx}{pins:List (Addr×Obj)}{σ:St}{H:Hp}{s:Shared}{l b:Addr}{xs ys zs:List V}
theorem Inv.lset{its its':List Value}{n:Nat}{f:Array Value->Array Value}{t':Nat}(I:Inv X pins σ H s)(a:H l=some (.lst xs))
  (e:s.heap.get? l=some { cls:=.type "list",data:=.seq its.toArray n }) (b:f its.toArray=its'.toArray) (c:Vals ys its') (hz:ys.length<=sizeLine) :
  Inv X pins σ (upd H l (.lst ys)) { s with heap:=s.heap.update l (Obj.mapSeq f),toks:=t' }:=by
 have q:=PySem.IsL.update e f;rw[b] at q;refine I.write (x:=l) (e:=l) (by rw[a];exact trivial) (.inl rfl) (λb' u d g=>(Heap.get?_update_other s.heap (Obj.mapSeq f) (Ne.symm d)).trans g) ⟨_,q⟩ ?_;exact⟨hz,its',_,c,q⟩
theorem Inv.lnew  (I:Inv X pins σ H s) (a:Vals ys its) (hz:ys.length<=sizeLine) :
  Inv X pins σ (upd H s.heap.objs.size (.lst ys)) { s with heap:=s.heap.push { cls:=.type "list",data:=.seq its.toArray },toks:=t' } :=
 I.laid (λ_ _ q=>L7 _ q) (M8 _) ⟨hz,its,0,a,E1 _ rfl⟩
theorem Inv.fresh(I:Inv X pins σ H s):H s.heap.objs.size=none:=I.hok.fresh (M8 _)
theorem Inv.lstM(I:Inv X pins σ H s)(a:H l=some (.lst xs)):xs.length<=sizeLine/\∃(its:List Value) (n:Nat),Vals xs its/\xs.length=its.length/\s.heap.get? l=some { cls:=.type "list",data:=.seq its.toArray n }:=by
 obtain⟨z,its,n,r,e⟩:=I.hok l _ a;exact⟨z,its,n,r,r.length,e⟩
theorem jbX  (h:n<=sizeLine):Builtin.List.listTooLong n=false:=by
 unfold Builtin.List.listTooLong;exact X4 (by omega)
end
section
variable {X:Cx}
def zN:V->List V->Hp->VK->Prop:=λx vs H Q=>∃ l xs y,x=.ref l/\vs=[y]/\H l=some (.lst xs)/\xs.length < sizeLine/\Q .non (upd H l (.lst (xs++[y])))
theorem xC:MtM X "list.append" zN:=by
 intro b s σ H x i v j Q I d f h;obtain⟨l,k,y,rfl,rfl,c,m,q⟩:=h;cases d;obtain⟨u,rfl,g⟩:=f.one;obtain⟨z,a,n,r,o,e⟩:=I.lstM c;refine call_meets F.slot_list_append ⟨_,e,rfl⟩ F.entry_list_append (F.args_list_append_2 _ _) (PySem.list_append l a.toArray n u (by rw[N4];omega)) ⟨e,?_⟩;refine⟨.non,_,I.lset (its':=a++[u]) c e (by simp) (r.append (.cons g .nil)) ?_,rfl,q⟩;rw[N5,List.length_singleton];omega
def jeO:V->List V->Hp->VK->Prop:=λx vs H Q=>∃ l xs,x=.ref l/\vs=[]/\H l=some (.lst xs)/\Q .non (upd H l (.lst []))
theorem jfc:MtM X "list.clear" jeO:=by
 intro c s σ H x i v j Q I f g h;obtain⟨l,k,rfl,rfl,d,q⟩:=h;cases f;have a:=g.zero;subst a;obtain⟨z,b,n,r,m,e⟩:=I.lstM d;refine call_meets F.slot_list_clear ⟨_,e,rfl⟩ F.entry_list_clear (F.args_list_clear_1 _) (AutoSeq1.list_clear_list_0 l b.toArray n (by rw[N4];omega)) ⟨e,?_⟩;exact⟨.non,_,I.lset (its':=[]) (ys:=[]) d e rfl .nil (U6 _),rfl,q⟩
end
end L2
namespace Att
open PySem PySem.W PySem.Calls PyProof.Rows
theorem zY  : ∀(ns:List Int) (vs:List Value),WellAll P h vs (ns.map WData.int)->IntsAre vs ns:=by
 intro ns
 induction ns with
 | nil =>
  intro vs w;rw[List.map_nil] at w;cases w;exact .nil
 | cons n ns c =>
  intro vs w;rw[L4] at w;cases w with
  | cons a b =>
   cases a;exact .cons _ _ (c _ b)
theorem script_of{l:OpenLaw}{n:Nat}(hn:l.most=some n)  {h:Heap}{b:List WData}{c:List Value}
  (e:l.row.toRowW.claim.pre b=true) (k:WellAll P h c b) :
  ∃ a vs ns,c=[Value.ref a]/\b=[WData.list (ns.map WData.int)]/\h.get? a=some { cls:=.type "list",data:=.seq vs.toArray }/\IntsAre vs ns/\ns.length<=n:=by
 have m:WShape.hasAll [] b [.list .int]=true:=(pre_splitW e).1;have o:l.pre.holds [] { args:=b }=true:=(pre_splitW e).2;obtain⟨d,r,rfl,p,s⟩:=hasAllW_cons m;obtain rfl:=hasAllW_nil s;obtain⟨y,rfl,t⟩:=hasW_list p;obtain⟨ns,rfl⟩:=items_int t;have f:ns.length<=n:=by
  unfold OpenLaw.pre at o;have i:(WTm.not (.lt (.lit (.int (n:Int))) (.len (.arg 0)))).holds [] { args:=[.list (ns.map .int)] }=true:=by
   have i:=(holds_andW o).1;rw[hn] at i;exact i
  have j:=condW_of i (w_not (w_lt w_lit (w_len_list (w_arg rfl))));rw[L0] at j;refine Nat.le_of_not_lt λq=>?_;have u:(n:Int) < ((ns.length:Nat):Int):=by omega
  first
   | (rw[X2 u] at j;exact absurd j (by decide))
   | (simp at j;omega)
 cases k with
 | cons v w =>
  cases w;cases v with
  | list x g=>exact⟨_,_,ns,rfl,rfl,x,zY ns _ g,f⟩
theorem post_true(l:OpenLaw)(a:List WData):l.row.toRowW.claim.post a (.bool true) a=true :=
 postW_of (r:=l.row.toRowW) (X:=(true==true))
  (show WShape.has [] (.bool true) .bool=true by first | rfl | decide | simp[WShape.has,WShape.arms,WShape.armsAll])
  (show(WTm.eq .res (.lit (.bool true))).value [] { args:=a,res:=some (.bool true),after:=a }=some (.bool (true==true)) from w_eq_bool (w_res rfl) w_lit) rfl
end Att
namespace L2
open PySem PySem.Spec PyProof.Rows
theorem u5:∀{vs:List Value}{ns:List Int},IntsAre vs ns->Vals (ns.map V.int) vs
 | _,_,.nil=>.nil
 | _,_,.cons n t h=>.cons ⟨t,rfl⟩ (u5 h)
def jmD(H:Hp):Prop:=∀ b,H b=none \/ ∃ o xs,H b=some (.frz o (.lst xs))
theorem jfX{P:Program}{w:World}{K:PySem.W.Frag}{mg I:Str->Option Value}{CX:CXT}{k:Nat}{fa a:Addr}{fd:FuncData}{x:Str}{sp:Sp}{c:Shared}{vs:List Value}{ns:List Int}
  (Q:K.In c.heap) (p:c.heap.Ns mainGlobals mg) (g:c.heap.Ns builtinsNs I) (J:∀ x:Str,x≠"__name__"->I x=bootBuiltins x) (t:c.heap.NoLimit) (Y:c.gens = #[])
  (G:c.heap.get? a=some { cls:=.type "list",data:=.seq vs.toArray }) (hi:IntsAre vs ns) (R:ns.length<=sizeLine) (Z:Room k callerA)
  (F:∀ base:Heap,K.In base->base.Ns mainGlobals mg->FnOk P w K mg base CX k fa fd [x] sp) (l:∀(s:Shared) (u:Value),BindsTo s fd ⟨[u],[]⟩ [(x,u)])
  (L:∀ H:Hp,jmD H->SqL K H a (ns.map V.int)->sp [.ref a] H (λv _=>v=.bl true) λ_ _ _=>False)
  (M:∀ H e s',CX [] H c (λ_ _ _=>False) e s'->False) :
  codeAny (model P w) callerA (.call (.ref fa) ⟨[.ref a],[]⟩) (λr s'=>r=.ok (.ret (.bool true))/\OldK c.heap s'.heap/\s'.os=c.os/\AllBare s'.gens) c:=by
 have S:=u5 hi;have y:=hi.length
 -- from an abstract heap in which nothing but the script may be tracked
 have j:∀ H:Hp,jmD H->SqL K H a (ns.map V.int)->HOk P w H c.heap->(∀ b,H b≠none->b=a)->(H a≠none->K.lookup a=none) ->
   codeAny (model P w) callerA (.call (.ref fa) ⟨[.ref a],[]⟩) (λr s'=>r=.ok (.ret (.bool true))/\OldK c.heap s'.heap/\s'.os=c.os/\AllBare s'.gens) c:=by
  intro H T hS hok U hK;have f:∀{b:Addr}{o:Obj},c.heap.get? b=some o->H b=none->(jfH c.heap H).get? b=some o:=λe n=>jf4 e n;have N:∀{b:Addr}{o:Obj}{A:Array DictEntry}{B:Nat},c.heap.get? b=some o->o.data=.dict A B->H b=none:=λ{b o A B} e d=>by
   cases q:H b with
   | none=>rfl
   | some u =>
    have O:b=a:=U b (by rw[q];simp);subst O;rw[G] at e;cases e;have d':Data.seq vs.toArray _=Data.dict A B:=d;cases d'
  have i:∀{b:Addr}{m:Str->Option Value},c.heap.Ns b m->(jfH c.heap H).Ns b m:=λ{b m} ⟨o,A,B,e,d,r⟩=>⟨o,A,B,f e (N e d),d,r⟩;have C:K.In (jfH c.heap H):=λb o e=>f (Q b o e) (by
   cases q:H b with
   | none=>rfl
   | some u =>
    have O:b=a:=U b (by rw[q];simp);subst O;rw[hK (by rw[q];simp)] at e;cases e)
  have hM:Mod K mg (jfH c.heap H):=⟨C,i p,⟨I,i g,J⟩,let ⟨mc,h1,h2⟩:=t;⟨mc,i h1,h2⟩⟩;have e0:Env0 P w K mg (jfH c.heap H) callerA [] c H:=⟨rfl,hM,λb o e=>jiv e,Nat.le_of_eq (jdf _ _),trivial,λb g=>absurd (show b∈([]:List Addr) from g) (by simp),hok,.of_eq Y⟩;refine codeAny_mono ((F _ C (i p)).run callerA [] c H ⟨[.ref a],[]⟩ [.ref a] [.ref a] _ _ Z e0 (l c (.ref a)) (.cons rfl .nil) (L H T hS)) λr s' h=>?_;cases r with
  | error e=>exact(M H e s' h).elim
  | ok fl =>
   cases fl with
   | next=>exact False.elim h
   | brk=>exact False.elim h
   | cont=>exact False.elim h
   | ret u =>
    obtain⟨v,H',os,bare,un,D,r',q⟩:=h;have q':v=.bl true:=q;subst q';obtain rfl:u=Value.bool true:=r';refine⟨rfl,OldK.of_keep λb o e=>?_,os,bare⟩;cases q:H b with
    | none=>exact un.keep b o e q (by intro z;exact absurd (show b∈([]:List Addr) from z) (by simp)) (by simp)
    | some u =>
     rcases T b with z | ⟨ob,xs,z⟩
     ·rw[q] at z;cases z
     ·have z2:=un.frzs b ob _ z;obtain⟨X,_⟩:=hok b _ z;obtain⟨e2,_⟩:=D b _ z2;rw[e] at X;cases X;exact e2
 cases hk:K.lookup a with
 | some o =>
  -- the script is one of the module's own objects
  have e:=Q a o hk;rw[G] at e;cases e;refine j (λ_=>none) (λ_=>.inl rfl) (.inr ⟨_,vs.toArray,_,hk,rfl,rfl,rfl,by rw[N4,y];exact R,by simpa using S⟩) (λb u z=>by have E:(none:Option HO)=some u:=z;cases E) (λb z=>absurd rfl z) λz=>absurd rfl z
 | none =>
  refine j (λb=>if b=a then some (.frz { cls:=.type "list",data:=.seq vs.toArray } (.lst (ns.map V.int))) else none) (λb=>?_) (.inl (.inr ⟨{ cls:=.type "list",data:=.seq vs.toArray },if_pos rfl⟩)) (λb u z=>?_) (λb z=>?_) λ_=>hk
  ·by_cases g:b=a
   ·exact .inr ⟨_,_,if_pos g⟩
   ·exact .inl (if_neg g)
  ·by_cases g:b=a
   ·have E:=(if_pos g).symm.trans z;cases E;subst g;exact⟨G,by rw[L0];exact R,vs,_,S,G⟩
   ·have E:=(if_neg g).symm.trans z;cases E
  ·by_cases g:b=a
   ·exact g
   ·exact absurd (if_neg g) z
def Qf(s:Stmt)(j:Nat):Stmt:=match s with
 | .ClassDef _ _ _ body _ _ _ _ _ _ _=>body.getD j (.Pass ⟨0,0,0,0⟩)
 | _=>.Pass ⟨0,0,0,0⟩
def YS(s:Stmt):Arguments:=match s with
 | .FunctionDef _ a _ _ _ _ _ _ _ _=>a
 | _=>{ posonlyargs:=[],args:=[],vararg:=none,kwonlyargs:=[],kw_defaults:=[],kwarg:=none,defaults:=[] }
def qE(s:Stmt):List Stmt:=match s with
 | .FunctionDef _ _ b _ _ _ _ _ _ _=>b
 | _=>[]
def jp(s:Stmt):Scope:=match s with
 | .FunctionDef _ _ _ _ _ _ sc _ _ _=>sc
 | _=>{ kind:=.function,names:=[],isGenerator:=false,isCoroutine:=false }
abbrev CX0:CXT:=λ_ _ _ _ _ _=>False
abbrev E0:XK:=λ_ _ _=>False
theorem jdK  : KI CX0 X E0:=λ_ _ _ _ _ _ _ h=>h.elim
structure Fun(K:PySem.W.Frag)(x qual:Str)(st:Stmt)(f:Addr)(fd:FuncData):Prop where
 ex:∃(oc:Value) (od:Option Addr) (kV doc pm:Value) (an:Option Addr) (cdv ct:Value) (osl:Array (Option Value)),
  fd=PySem.W.fnOf x qual (YS st) (qE st) (jp st) .none kV doc pm an cdv ct/\K.lookup f=some ⟨oc,od,.func fd,osl⟩/\PySem.W.codeIn K cdv qual=true
 kp:PySem.W.keepIn K (.ref f)=true
section
variable {P:Program}{w:World}{K:PySem.W.Frag}{mg:Str->Option Value}{base:Heap}
theorem Fun.ok{x qual:Str}{st:Stmt}{f:Addr}{fd:FuncData}{N ps:List Str}{k:Nat}{sp:Sp}(F:Fun K x qual st f fd)(S:FnScope N ps (jp st))(len:∀ vs H Q E,sp vs H Q E->vs.length=ps.length)
  (a:∀(cdv:Value) (A:Around) (outer:List Env) (s:Shared) (H:Hp) (vs:List V) (Q:VK) (E:XK),Room k (A.deeper (envOfC qual (jp st) s.heap.objs.size f cdv))->sp vs H Q E ->
   ∃ t,PSs (jg5 CX0 P w K mg base N qual (jp st) f cdv A outer s H E).nox (qE st) t/\t { nx:=λ_ H'=>Q .non H',rt:=Q } (start N vs) H):FnOk P w K mg base CX0 (k+1) f fd ps sp:=by
 obtain⟨j,od,kV,d,l,m,cdv,ct,e,rfl,g,b⟩:=F.ex;refine jmY g b S len λA outer s H vs Q E i c=>?_;obtain⟨t,h,q⟩:=a cdv A outer s H vs Q E i c;exact⟨t,h.nox,q⟩
theorem Fun.binds{x qual:Str}{st:Stmt}{f:Addr}{fd:FuncData}{ps:List Str}(F:Fun K x qual st f fd)
  (h:∀(kV doc pm:Value) (an:Option Addr) (cdv ct:Value) (us:List Value),us.length=ps.length->bindArgs (PySem.W.fnOf x qual (YS st) (qE st) (jp st) .none kV doc pm an cdv ct) ⟨us,[]⟩=pure (ps.zip us)):Binds K fd ps []:=by
 obtain⟨c,od,kV,doc,pm,an,cdv,ct,a,rfl,d,b⟩:=F.ex;exact .all (h kV doc pm an cdv ct)
theorem jav{x qual:Str}{st:Stmt}{f:Addr}{oc:Value}{od an:Option Addr}{d:Array (Option Value)}{kV b pm a ct:Value}(l:K.lookup f=some ⟨oc,od,.func (PySem.W.fnOf x qual (YS st) (qE st) (jp st) .none kV b pm an a ct),d⟩)
  (c:PySem.W.codeIn K a qual=true) (k:PySem.W.keepIn K (.ref f)=true):Fun K x qual st f (PySem.W.fnOf x qual (YS st) (qE st) (jp st) .none kV b pm an a ct):=⟨⟨oc,od,kV,b,pm,an,a,ct,d,rfl,l,c⟩,k⟩
end
theorem jeV  (a:Room k A):A.units+1 < cLine:=E2 (Nat.add_le_add_left (by decide:1<=64) _) a.units
theorem jfN{A B:Prop}(h:B):if false=true then A else B:=by
 rw[if_neg M3];exact h
theorem jfu{A B:Prop}(h:A):if true=true then A else B:=by
 rw[if_pos rfl];exact h
theorem ux  (I:Nat->Shared->Prop)
  (turn:∀ n s,I n s->wpAny (model prog w) A (pyNext it) (λr s₁=>match r with
   | none=>R (.ok .next) s₁
   | some v=>wpAny (model prog w) A (letOwnedTupleGo target it v) (λ_ s₁'=>wpAny (model prog w) A (assign target env v) (λ_ s₂ =>
     wpAny (model prog w) A (forIn ifs true λc r=>if r=true then do let ok <- isTrue c env (eval c env);pure (ForInStep.yield ok) else pure (ForInStep.yield r)) (λok s₃ =>
      if ok=true then wpAny (model prog w) A (eval elt env) (λx s₄ =>
       wpAny (model prog w) A (call (.builtin "list.append") [acc,x]) (λ_ s₅=>∃ m,m < n/\I m s₅) (λ_ _=>False) s₄) (λ_ _=>False) s₃
      else ∃ m,m < n/\I m s₃) (λ_ _=>False) s₂) (λ_ _=>False) s₁') (λ_ _=>False) s₁) (λ_ _=>False) s)
  (n:Nat) (h:I n s) :
  codeAny (model prog w) A (.compLoop (.ListComp elt [⟨target,iter,ifs,0⟩] scope pos) 0 it acc env) R s:=by
 have a:∀{α:Type}{t:Sem α}{Q:α->Shared->Prop}{E:Value->Shared->Prop}{s:Shared},wpAny (model prog w) A t Q (λ_ _=>False) s->wpAny (model prog w) A t Q E s :=
  λh=>wpAny_mono h (λ_ _ x=>x) λ_ _ z=>z.elim
 refine codeAny_loop rfl I (λn s f=>?_) n h;show wpAny _ A ((compTurn (.ListComp elt [⟨target,iter,ifs,0⟩] scope pos) 0 it acc env).onRaise (λx=>do noteFrame x env;theTreesLotGoes x)) _ _ s;refine wpAny_noted ?_;rw[compTurn_list];refine L1 (wpAny_standAt (L1 (thn (a (turn n s f)) λr s₁ d=>?_)));cases r with
 | none=>exact M6 d
 | some v =>
  refine L1 (thn (a d) λ_ s₁' b=>L1 (thn (a b) λ_ s₂ g=>L1 (thn (a g) λok s₃ e=>?_)));cases ok with
  | false=>exact M6 ⟨rfl,e⟩
  | true =>
   exact L1 (L1 (thn (a e) λx s₄ i=>L1 (thn (a i) λ_ s₅ j=>M6 (M6 ⟨rfl,j⟩))))
def jdc(env:Env):List (Str×NameKind)->List (Str×Addr)->List (Str×Addr)
 | [],cs=>cs
 | (n,k)::r,cs=>jdc env r (if k==NameKind.free then(match env.cells.lookup n with | some a=>(n,a)::cs | none=>cs) else cs)
def jfh(scope:Scope)(env:Env):List (Str×Addr):=jdc env scope.names []
theorem jhz  : ∀(l:List (Str×NameKind)) (cs:List (Str×Addr)),(∀ n k,(n,k)∈l->k=NameKind.free->∃ c,env.cells.lookup n=some c) ->
  (forIn (m:=Sem) l cs λx r=>match x with | (n,k)=>if k==NameKind.free then do let a <- cellOf env n;pure (ForInStep.yield ((n,a)::r)) else pure (ForInStep.yield r))=pure (jdc env l cs)
 | [],cs,_=>rfl
 | (n,k)::r,cs,h=>by
  rw[List.forIn_cons];by_cases b:(k==NameKind.free)=true
  ·obtain⟨c,j⟩:=h n k L6 (by simpa using b);have o:cellOf env n=pure c:=by unfold cellOf;rw[j]
   have d:=jhz (env:=env) r ((n,c)::cs) λe f g i=>h e f (L5 _ g) i;simp only[b,if_true,o,pure_bind];rw[d]
   conv=>rhs;unfold jdc
   simp only[b,if_true,j]
  ·have d:=jhz (env:=env) r cs λe f g i=>h e f (L5 _ g) i;simp only[b,if_false,pure_bind,Bool.false_eq_true];rw[d]
   conv=>rhs;unfold jdc
   simp only[b,if_false,Bool.false_eq_true]
theorem jcg  (h:∀ n k,(n,k)∈scope.names->k=NameKind.free->∃ c,env.cells.lookup n=some c):closureFor scope env=pure (jfh scope env):=by
 have e:=jhz (env:=env) scope.names [] h;unfold closureFor jfh;show(forIn (m:=Sem) scope.names [] λx r=>match x with | (n,k)=>if k==NameKind.free then do let a <- cellOf env n;pure (ForInStep.yield ((n,a)::r)) else pure (ForInStep.yield r)) >>= (λb=>pure b)=_;rw[e,pure_bind]
theorem jhl  : ∀(l:List (Str×NameKind)) (cs:List (Str×Addr)),(x,c)∈jdc env l cs->(x,c)∈cs \/ env.cells.lookup x=some c
 | [],_,h=>.inl h
 | (n,k)::r,cs,h=>by
  unfold jdc at h;rcases jhl r _ h with z | z
  ·split at z
   ·split at z
    ·rename_i a b;rcases M4.mp z with e | e
     ·cases e;exact .inr b
     ·exact .inl e
    ·exact .inl z
   ·exact .inl z
  ·exact .inr z
theorem jd6  : ∀(l:List (Str×NameKind)) (cs:List (Str×Addr)),(x,c)∈cs->(x,c)∈jdc env l cs
 | [],_,h=>h
 | (n,k)::r,cs,h=>by
  unfold jdc;refine jd6 r _ ?_;split
  ·split
   ·exact L5 _ h
   ·exact h
  ·exact h
theorem jhc  (a:env.cells.lookup x=some c):∀(l:List (Str×NameKind)) (cs:List (Str×Addr)),(x,NameKind.free)∈l->(x,c)∈jdc env l cs
 | [],_,h=>nomatch h
 | (n,k)::r,cs,h=>by
  unfold jdc;rcases M4.mp h with e | e
  ·cases e;refine jd6 r _ ?_;simp only[beq_self_eq_true,if_true,a];exact L6
  ·exact jhc a r _ e
theorem KU  : ∀{l:List (Str×β)}{c:β},(x,c)∈l->∃ d,l.lookup x=some d
 | (n,a)::r,c,h=>by
  rw[List.lookup_cons];cases e:x==n with
  | true=>exact⟨a,rfl⟩
  | false =>
   rcases M4.mp h with z | z
   ·cases z;simp at e
   ·exact KU z
theorem z4  (h:(jfh scope env).lookup x=some c):env.cells.lookup x=some c:=by
 rcases jhl scope.names [] (PySem.mem_of_lookup h) with z | z
 ·exact nomatch z
 ·exact z
theorem je0  (a:env.cells.lookup x=some c) (f:(x,NameKind.free)∈scope.names):(jfh scope env).lookup x=some c:=by
 obtain⟨d,e⟩:=KU (jhc a scope.names [] f);have b:(jfh scope env).lookup x=some d:=e;rw[b,<- z4 b,a]
theorem V3  (h:(n,k)∈(relabel scope env).names):(n,k)∈scope.names \/ (k=.cell/\(n,NameKind.free)∈scope.names):=by
 unfold relabel at h;obtain⟨⟨a,b⟩,c,e⟩:=M5.mp h;dsimp only at e;split at e
 ·rename_i d;cases e;have:b=NameKind.free:=by
   simp only[L9,beq_iff_eq] at d;exact d.1.1
  subst this;exact .inr ⟨rfl,c⟩
 ·cases e;exact .inl c
def vc(X:Cx)(scope:Scope)(N':List Str)(C:Addr)(s₃:Shared)(H₃:Hp)(fp:List Addr):Cx :=
 { X with N:=N',s₀:=s₃,H₀:=H₃,env:=compEnvC scope (jfh scope X.env) C X.env,outer:=X.stack,stack:=X.stack,ex:=fp,fn:=λ_=>false,pn:=[],xe:=λ_ _=>False }
def kW(ix:List (Option Nat))(σ:St):St:=ix.map λo=>o.bind λj=>(σ[j]?).join
structure BlockOk(X:Cx)(scope:Scope)(N':List Str)(ix:List (Option Nat)):Prop where
 kind:scope.kind=.function
 nocell:∀ y∈scope.names,y.2≠.cell
 names:∀ y∈scope.names,y.2=.local->scope.names.lookup y.1=some .local
 uniq:∀ y∈scope.names,y.2=.free->scope.names.lookup y.1=some .free
 outer:∀ y∈scope.names,y.2=.free->X.env.kindOf y.1=some .cell \/ X.env.kindOf y.1=some .free
 nd:N'.Nodup
 len:ix.length=N'.length
 at_:∀(i j:Nat) (x:Str),ix[i]?=some (some j)->N'[i]?=some x->X.N[j]?=some x/\(x,NameKind.free)∈scope.names
 func:X.env.scope.kind=.function
abbrev BW:=Nat->Nat->St->Hp->Prop
def jdr(tc:TT)(te:TE)(g:TG)(J:It)(p:Addr)(σ':St)(H1:Hp)(Q:Hp->Prop):Prop :=
 ∃ W:BW,(∃ m,W 0 m σ' H1)/\∀ i m σ2 H2,W i m σ2 H2->(J.stop i H2/\Q H2) \/
  (J.go i H2/\∀ x H3,J.yld i H2 x H3->g x σ2 H3 λσ4 H4=>tc σ4 H4 λb H5=>if b=true then
   te σ4 H5 λy H6=>∃ ys,H6 p=some (.lst ys)/\ys.length < sizeLine/\∃ m',m' < m/\W (i+1) m' σ4 (upd H6 p (.lst (ys++[y])))
   else ∃ m',m' < m/\W (i+1) m' σ4 H5)
def ud(wi:TI)(g:TG)(tc:TT)(te:TE)(ix:List (Option Nat)):TE:=λσ H Q=>wi σ H λJ H1=>∀ p,H1 p=none->jdr tc te g J p (kW ix σ) (upd H1 p (.lst [])) λH2=>Q (.ref p) H2
def PIf(X:Cx)(ifs:List Expr)(tc:TT):Prop:=(ifs=[]/\tc=λ_ H Q=>Q true H) \/ ∃ c,ifs=[c]/\PT X c tc
theorem jdw  (B:BlockOk X scope N' ix) (I:Inv X pins σ H s) (A:∀ b∈fp,jch X pins H b) (D:∀ b∈fp,b < s.heap.objs.size)
  (E:h₁.Ns s.heap.objs.size (λ_=>none)) (C:∀ b o,s.heap.get? b=some o->h₁.get? b=some o) :
  Inv (vc X scope N' s.heap.objs.size s H fp) [] (kW ix σ) H { s with heap:=h₁,toks:=t }:=by
 have fresh:H s.heap.objs.size=none:=I.hok.fresh (M8 _);have f:∀ x c,(jfh scope X.env).lookup x=some c->X.env.cells.lookup x=some c:=λx c e=>z4 e;refine⟨⟨I.ok.mod,B.kind,I.ok.glob,I.ok.blt,M8 _,λx y c F G=>I.ok.inj x y c (f x c F) (f y c G),λx O=>?_,(λx c h=>nomatch h),I.ok.hd,I.ok.frames,.inl rfl,λb g=>⟨N7 (D b g),λx c e=>(A b g).2.2.2.2.1 x c (f x c e)⟩,
  λb o e=>I.bs b o e,N8 I.ok.bsz I.sz,λb o e g=>?_,λb g z=>?_,I.stack,I.stkFree⟩,rfl,I.bare,Un.kept C,⟨_,E,λi x v F G P=>?_⟩,λx c e=>?_,fresh,λx c e=>I.freeC x c (f x c e),(λp Q=>nomatch (show p∈([]:List (Addr×Obj)) from Q)),I.hok.kept C,?_⟩
 ·have J:(relabel scope X.env).names.lookup x=some .cell \/ (relabel scope X.env).names.lookup x=some .free:=O;have n:(x,NameKind.free)∈scope.names:=by
   rcases J with q | q
   ·rcases V3 (PySem.mem_of_lookup q) with z | z
    ·exact absurd rfl (B.nocell _ z)
    ·exact z.2
   ·rcases V3 (PySem.mem_of_lookup q) with z | z
    ·exact z
    ·exact absurd z.1 (by decide)
  obtain⟨c,K⟩:=I.ok.has x (B.outer _ n rfl);exact⟨c,je0 K n⟩
 ·rcases(A b g).2.2.2.1 with z | z
  ·exact I.ok.noex b o e z
  ·exact absurd (U5 (N0 e) (N8 I.ok.bsz z)) (Nat.lt_irrefl _)
 ·rcases M4.mp (I.stkSub b z) with q | q
  ·exact(A b g).2.1 q
  ·exact(A b g).2.2.1 q
 ·have a:(kW ix σ)[i]?=some (some v):=G;unfold kW at a;rw[List.getElem?_map] at a;cases e:ix[i]? with
  | none=>rw[e] at a;cases a
  | some o =>
   rw[e] at a;cases o with
   | none=>cases a
   | some j =>
    have d:(σ[j]?).join=some v:=X6 a;have R:σ[j]?=some (some v):=by
     cases q:σ[j]? with
     | none=>rw[q] at d;cases d
     | some u=>rw[q] at d;rw[show u=some v from d]
    obtain⟨S,n⟩:=B.at_ i j x e F;have w:=B.outer _ n rfl;obtain⟨m,U,T⟩:=I.loc;obtain⟨u,r,l⟩:=T j x v S R (w.elim (λz=>.inr (.inl z)) λz=>.inr (.inr z));refine⟨u,r,.inr ?_⟩;rcases l with⟨k,_⟩ | ⟨_,c,K,z⟩
    ·rcases w with y | y<;>rw[k] at y<;>cases y
    ·refine⟨?_,c,je0 K n,?_⟩
     ·rcases P with y | y | y
      ·have:(x,NameKind.local)∈(relabel scope X.env).names:=PySem.mem_of_lookup y;rcases V3 this with L | L
       ·have N:=B.names _ L rfl;rw[B.uniq _ n rfl] at N;cases N
       ·exact absurd L.1 (by decide)
      ·exact .inl y
      ·exact .inr y
     ·obtain⟨o,M,hd⟩:=z;exact⟨o,C c o M,hd⟩
 ·obtain⟨v,o,M,hd⟩:=I.cell x c (f x c e);exact⟨v,o,C c o M,hd⟩
 ·show(kW ix σ).length=N'.length;unfold kW;rw[L0,B.len]
theorem Inv.other  (I:Inv X pins σ H s) (f:jch X pins H C) (a:Heap.SameBut C s.heap h'):Inv X pins σ H { s with heap:=h' } :=
 I.turned (t':=s.toks) (λb o c e=>a.extBut b o c e) f.1 f.2.1 f.2.2.2.1 f.2.2.2.2.1 f.2.2.2.2.2
theorem Vs{X:Cx}{ifs:List Expr}{N':List Str}{ix:List (Option Nat)}{pins:List (Addr×Obj)}{s:Shared}{Q:Addr->Hp->Prop}{use:Option (Value->Sem Unit)}{QQ:Value->Shared->Prop}(B:BlockOk X scope N' ix)(hc:X.calm=true)(hi:PI X tg iter wi)
  (hg:∀ C s H fp,PG (vc X scope N' C s H fp) tg g) (hif:∀ C s H fp,PIf (vc X scope N' C s H fp) ifs tc) (he:∀ C s H fp,PE (vc X scope N' C s H fp) elt te)
  (hs:∀ x,foldedSetIterable iter X.env x=pure x) (I:Inv X pins σ H s)
  (h:wi σ H λJ H1=>∀ p,H1 p=none->jdr tc te g J p (kW ix σ) (upd H1 p (.lst [])) (Q p))
  (hend:∀ p C s' H',Q p H'->Inv X pins σ H' s'->jch X pins H' C->(∃ m,s'.heap.Ns C m)->compPost (model X.prog X.w) X.A X.xe use QQ (.ref p) C (.ok .next) s') :
  wpAny (model X.prog X.w) X.A (comprehension (.ListComp elt [⟨tg,iter,ifs,0⟩] scope pos) scope X.env pos' (newList []) false (eval iter X.env) use) QQ X.xe s:=by
 have S:closureFor scope X.env=pure (jfh scope X.env):=jcg λn k hm hk=>I.ok.has n (B.outer _ hm hk);refine wpAny_comprehension_free rfl hs S B.kind B.names (thn (hi pins s σ H _ I h) λv s1 h1=>thn h1 λitv a h2=>?_);obtain⟨it,fp,tn,J,L,rfl,I2,T,U,f2,h2⟩:=h2;refine wpAny_newObj_type (wpAny_newFunctionEnv B.nocell (by intro y hy;simp at hy) (λh₁ N O=>?_) B.kind);dsimp only at N O ⊢;have fr2:L a.heap.objs.size=none:=I2.fresh
 -- the new list
 have I3:Inv X pins σ (upd L a.heap.objs.size (.lst [])) { a with heap:=a.heap.push { cls:=.type "list",data:=.seq ([]:List Value).toArray } }:=I2.lnew (t':=a.toks) .nil (U6 _);generalize hs3:({ a with heap:=a.heap.push { cls:=.type "list",data:=.seq ([]:List Value).toArray } }:Shared)=s3 at I3;have e3:s3.heap=a.heap.push { cls:=.type "list",data:=.seq ([]:List Value).toArray }:=by rw[<- hs3]
 have hk3:∀ b o,a.heap.get? b=some o->s3.heap.get? b=some o:=λb o e=>by rw[e3];exact L7 _ e
 have lt3:∀ b∈fp,b < s3.heap.objs.size:=λb f=>by
  obtain⟨o,e,_⟩:=T.obj _ _ U b f;exact N0 (hk3 b o e)
 have nep:∀ b∈fp,b≠a.heap.objs.size:=λb f z=>by
  obtain⟨o,e,_⟩:=T.obj _ _ U b f;exact absurd (N0 e) (by rw[z];exact Nat.lt_irrefl _)
 have M:∀ b∈fp,jch X pins (upd L a.heap.objs.size (.lst [])) b:=λb f=>⟨by rw[jm (nep b f)];exact(f2 b f).1,(f2 b f).2⟩;have sz3:s3.heap.objs.size=(a.heap.push { cls:=.type "list",data:=.seq ([]:List Value).toArray }).objs.size:=by rw[e3]
 have hk4:∀ b o,s3.heap.get? b=some o->h₁.get? b=some o:=λb o e=>by
  refine O.extBut b o ?_ (L7 _ (by rw[e3] at e;exact e));intro z;exact absurd (N0 e) (by rw[z,sz3];exact Nat.lt_irrefl _)
 have hns4:h₁.Ns s3.heap.objs.size (λ_=>none):=by
  rw[sz3];exact N
 have I4:Inv (vc X scope N' s3.heap.objs.size s3 (upd L a.heap.objs.size (.lst [])) fp) [] (kW ix σ) (upd L a.heap.objs.size (.lst [])) { s3 with heap:=h₁,toks:=a.toks }:=jdw B I3 M lt3 hns4 hk4;have st4:tn 0 h₁:=T.keep _ _ _ U λb f o e=>hk4 b o (hk3 b o e);obtain⟨W,⟨m0,w0⟩,turn⟩:=h2 _ fr2;have hg':=hg s3.heap.objs.size s3 (upd L a.heap.objs.size (.lst [])) fp;have P:=hif s3.heap.objs.size s3 (upd L a.heap.objs.size (.lst [])) fp;have he':=he s3.heap.objs.size s3 (upd L a.heap.objs.size (.lst [])) fp;generalize j:vc X scope N' s3.heap.objs.size s3 (upd L a.heap.objs.size (.lst [])) fp=X' at I4 hg' P he';have V:X'.prog=X.prog:=by rw[<- j];rfl
 have Y:X'.w=X.w:=by rw[<- j];rfl
 have eK:X'.K=X.K:=by rw[<- j];rfl
 have eA:X'.A=X.A:=by rw[<- j];rfl
 have eC:X'.calm=true:=by rw[<- j];exact hc
 have eE:X'.env=compEnvC scope (jfh scope X.env) s3.heap.objs.size X.env:=by rw[<- j];rfl
 have eX:X'.xe=λ_ _=>False:=by rw[<- j];rfl
 have F:∀{H':Hp},(∀ b∈fp,H' b=none)->∀ b∈fp,jch X' [] H' b:=λhn b f=>by
  refine⟨hn b f,?_,?_,?_,?_,?_⟩
  ·rw[eE];exact N7 (lt3 b f)
  ·rw[<- j];intro z;rcases M4.mp (I3.stkSub b z) with q | q
   ·exact(M b f).2.1 q
   ·exact(M b f).2.2.1 q
  ·rw[<- j];exact .inl f
  ·rw[eE];exact λx c e=>(M b f).2.2.2.2.1 x c (z4 e)
  ·rw[<- j];exact(λp hp=>nomatch (show p∈([]:List (Addr×Obj)) from hp))
 -- the end of the block
 have fin:∀{l:St}{H':Hp}{s':Shared},Inv X' [] l H' s'->Q a.heap.objs.size H'->compPost (model X.prog X.w) X.A X.xe use QQ (.ref a.heap.objs.size) s3.heap.objs.size (.ok .next) s':=λ{l H' s'} J q=>by
  have hL:X'.env.locals=s3.heap.objs.size:=by rw[eE];rfl
  have un:Un (frs X.stack) fp (upd L a.heap.objs.size (.lst [])) H' s3.heap s'.heap:=by
   have z:=J.base;rw[<- j] at z;exact z
  have hos:s'.os=s3.os:=by
   have z:=J.os;rw[<- j] at z;exact z
  have hok:HOk X.prog X.w H' s'.heap:=by
   have z:=J.hok;rw[V,Y] at z;exact z
  have fc:H' s3.heap.objs.size=none:=by
   have z:=J.free;rw[hL] at z;exact z
  have I5:Inv X pins σ H' s':=by
   obtain⟨hh,gg,dd,tt,oo⟩:=s';obtain rfl:oo=s3.os:=hos;exact I3.call (h':=hh) (g':=gg) (d':=dd) (t':=tt) (ch:=fp) un hok J.bare λb f=>⟨(M b f).2.2.2.1,(M b f).2.1,(M b f).2.2.2.2.1,(M b f).2.2.2.2.2⟩
  obtain⟨m,hn,_⟩:=J.loc;rw[hL] at hn;exact hend _ _ s' H' q I5 (I3.fpOk (M8 _) fc) ⟨m,hn⟩
 have loop:∀ s',s'=({ s3 with heap:=h₁,toks:=a.toks }:Shared)->codeAny (model X.prog X.w) X.A (.compLoop (.ListComp elt [⟨tg,iter,ifs,0⟩] scope pos) 0 (.ref it) (.ref a.heap.objs.size) X'.env) (compPost (model X.prog X.w) X.A X.xe use QQ (.ref a.heap.objs.size) s3.heap.objs.size) s':=by
  rintro s' rfl;refine ux (λn s'=>∃ i l H',Inv X' [] l H' s'/\tn i s'.heap/\(∀ b∈fp,H' b=none)/\W i n l H') ?_ m0 ⟨0,_,_,I4,st4,λb f=>(M b f).1,w0⟩;rintro n s5 ⟨i,σ5,H5,I5,st5,fr5,w5⟩;have it5:=T.item X' V Y eK eC i [] s5 σ5 H5 (λ_ _=>False) I5 (F fr5) st5;have dn5:=T.done X' V Y eK eC i [] s5 σ5 H5 (λ_ _=>False) I5 (F fr5) st5;rw[eA] at it5 dn5;rcases turn i n σ5 H5 w5 with⟨stop,qn⟩ | ⟨go,step⟩
  ·refine thn (dn5 stop) λr s6 ⟨hr,I6⟩=>?_;subst hr;exact fin I6 qn
  ·refine thn (it5 go) λr s6 ⟨u,hr,h6⟩=>?_;subst hr;refine thn h6 λ_ s7 ⟨x,H7,I7,r7,y7,Z,fr7⟩=>?_;have I7':=I7.pinned (F fr7) (T.obj _ _ Z);have a7:=hg' _ s7 σ5 H7 x u _ I7' r7 (step x H7 y7);rw[V,Y,eA,eX] at a7;refine thn a7 λ_ s8 ⟨G,H8,I8,q8⟩=>?_;have again:∀{t:Shared}{E:Hp},Inv X' ([]++wu fp s7.heap) G E t->(∃ D,D < n/\W (i+1) D G E)->∃ m,m < n/\∃ i l H',Inv X' [] l H' t/\tn i t.heap/\(∀ b∈fp,H' b=none)/\W i m l H':=λ{t E} I9 ⟨D,hm,w9⟩=>by
    refine⟨D,hm,i+1,G,E,I9.unpinned,T.keep _ _ _ Z λb f o e=>(I9.pin (b,o) (U4 _ (U4 _ (VH f e)))).1,λb f=>?_,w9⟩;obtain⟨o,e,d⟩:=T.obj _ _ Z b f;exact(I9.pin (b,o) (U4 _ (U4 _ (VH f e)))).2.1
   have rest:∀(b:Bool) (t:Shared) (E:Hp),Inv X' ([]++wu fp s7.heap) G E t->(if b=true then te G E λy H6=>∃ ys,H6 a.heap.objs.size=some (.lst ys)/\ys.length < sizeLine/\∃ D,D < n/\W (i+1) D G (upd H6 a.heap.objs.size (.lst (ys++[y])))
     else ∃ D,D < n/\W (i+1) D G E) ->
     if b=true then wpAny (model X.prog X.w) X.A (eval elt X'.env) (λx s₄=>wpAny (model X.prog X.w) X.A (call (.builtin "list.append") [.ref a.heap.objs.size,x]) (λ_ s₅=>∃ m,m < n/\∃ i l H',Inv X' [] l H' s₅/\tn i s₅.heap/\(∀ b∈fp,H' b=none)/\W i m l H') (λ_ _=>False) s₄) (λ_ _=>False) t
     else ∃ m,m < n/\∃ i l H',Inv X' [] l H' t/\tn i t.heap/\(∀ b∈fp,H' b=none)/\W i m l H':=λb t E I9 q9=>by
    cases b with
    | false =>
     rw[if_neg M3] at q9 ⊢;exact again I9 q9
    | true =>
     rw[if_pos rfl] at q9 ⊢;have a9:=he' _ t G E _ I9 q9;rw[V,Y,eA,eX] at a9;refine thn a9 λyv s10 ⟨y,H10,I10,r10,ys,e10,l10,q10⟩=>?_;have a10:=xC _ s10 G H10 (.ref a.heap.objs.size) [y] (.ref a.heap.objs.size) [yv] (λ_ H'=>∃ D,D < n/\W (i+1) D G H') I10 rfl (.cons r10 .nil) ⟨_,ys,y,rfl,rfl,e10,l10,q10⟩;rw[V,Y,eA,eX] at a10;exact thn a10 λ_ s11 ⟨_,H11,I11,_,q11⟩=>again I11 q11
   rcases P with⟨e1,e2⟩ | ⟨c,e1,e2⟩
   ·subst e1;rw[e2] at q8;exact wpAny_tests_nil (rest true s8 H8 I8 q8)
   ·subst e1;have a8:=e2 _ s8 G H8 _ I8 q8;rw[V,Y,eA,eX] at a8;exact wpAny_tests_one (thn a8 λb t ⟨E,I9,q9⟩=>rest b t E I9 q9)
 have R:codeAny (model X.prog X.w) X.A (.compStart (.ListComp elt [⟨tg,iter,ifs,0⟩] scope pos) 0 (.ref it) (.ref a.heap.objs.size) X'.env) (compPost (model X.prog X.w) X.A X.xe use QQ (.ref a.heap.objs.size) s3.heap.objs.size) { s3 with heap:=h₁,toks:=a.toks } :=
  codeAny_compStart_list (loop _ rfl) (T.self _ 0 _ _ _ st4 (loop _ rfl))
 rw[eE] at R;subst hs3;exact R
theorem jbj(B:BlockOk X scope N' ix)(d:X.calm=true)(hi:PI X tg iter wi)
  (e:∀ C s H fp,PG (vc X scope N' C s H fp) tg g) (a:∀ C s H fp,PIf (vc X scope N' C s H fp) ifs tc) (i:∀ C s H fp,PE (vc X scope N' C s H fp) elt te)
  (j:∀ x,foldedSetIterable iter X.env x=pure x:=by intro _;rfl):PE X (.ListComp elt [⟨tg,iter,ifs,0⟩] scope pos) (ud wi g tc te ix):=by
 intro c s σ H Q I h;rw[eval_ListComp];exact Vs (use:=none) (Q:=λp b=>Q (.ref p) b) B d hi e a i j I h λp C o b q k f ⟨m,l⟩=>⟨m,l,λr n=>⟨.ref p,b,k.other f n,rfl,q⟩⟩
theorem jcT  (B:BlockOk X scope N' ix) (E:X.calm=true) (hi:PI X tg iter wi)
  (F:∀ C s H fp,PG (vc X scope N' C s H fp) tg g) (d:∀ C s H fp,PIf (vc X scope N' C s H fp) ifs tc) (G:∀ C s H fp,PE (vc X scope N' C s H fp) elt te)
  (J:X.N.Nodup) (j:X.N[i]?=some x) (K:Loc X.env.scope x)
  (k:swapsWith (.ListComp elt [⟨tg,iter,ifs,0⟩] scope pos) (some (.Name x pos')) spos.line X.env=pure true)
  (L:∀ x,foldedSetIterable iter X.env x=pure x:=by intro _;rfl)
  (M:X.fn x=true \/ X.env.scope.names.lookup x=some .local:=by first | exact .inl rfl | exact .inr rfl | assumption) :
  PS X (.Assign [.Name x pos'] (.ListComp elt [⟨tg,iter,ifs,0⟩] scope pos) spos) (jfp (ud wi g tc te ix) (zm i)):=by
 intro a s σ H D I h;rw[exec_Assign_Name_used _ _ _ _ k];refine L1 (wpAny_standAt (L1 ?_));show wpAny _ X.A (do let _ <- comprehension (.ListComp elt [⟨tg,iter,ifs,0⟩] scope pos) scope X.env _ (newList []) false (eval iter X.env) (some (assign (.Name x pos') X.env))) _ _ s;refine L1 (thn (Vs (use:=some (assign (.Name x pos') X.env)) (QQ:=λ_ b=>SP X a D .next b) (Q:=λp c=>D.nx (σ.set i (some (.ref p))) c) B E hi F d G L I h λp C b c q r f ⟨m,O⟩=>?_) λ_ b P=>M6 (M6 P));obtain⟨o,R,S,T,t⟩:=id O;have hd:∀ v,o.data≠.cell v:=λv z=>by
  obtain⟨l,_⟩:=t;rw[l] at z;cases z
 have U:Inv X (a++[(C,o)]) σ c b:=r.pins_of λu n=>by
  rcases N1.mp n with z | z
  ·exact r.pin u (U4 _ z)
  ·have e:u=(C,o):=by simpa using z
   subst e;exact⟨T,f.1,f.2.1,f.2.2.1,hd⟩
 refine wpAny_assign_Name (wG U J j K (v:=.ref p) rfl (λW w=>?_) M);have y:=w.pin (C,o) (U4 _ (U4 _ (M7.mpr rfl)));refine⟨m,⟨o,R,S,y.1,t⟩,λY V=>⟨_,c,(w.unpinned).other ⟨y.2.1,f.2⟩ V,q⟩⟩
def S(l:List Nat):Str:=⟨l.toArray⟩
theorem VV(l:List Nat):(S l).cps.toList=l:=by simp[S]
theorem xc(l:List Nat):(S l).length=l.length:=by simp[S,Str.length]
theorem jkQ  (h:S a=S b):a=b:=by
 rw[<- VV a,<- VV b,h]
theorem jmq(a b:List Nat):(S a=S b)=(a=b):=propext ⟨jkQ,λh=>by rw[h]⟩
theorem jl8(a b:List Nat):S a++S b=S (a++b):=by
 apply PyProof.Rows.ext_toList;rw[PySem.W.KT.app_list,VV,VV,VV]
theorem jhA(c:Nat):(⟨#[c]⟩:Str)=S [c]:=rfl
def v7{α:Type}(xs:List α)(lo hi:Option Int):List α:=(xs.drop (HT.sIx xs.length 0 lo)).take (HT.sIx xs.length xs.length hi - HT.sIx xs.length 0 lo)
theorem jjs  (xs:List α) (k:Nat):v7 xs none (some (k:Int))=xs.take k:=by
 unfold v7;rw[HT.sIx_none,HT.sIx_nat];simp[List.take_eq_take_iff]
theorem jeo(lo hi:Option Int)(n:Nat):Builtin.Str.strSliceIndices lo hi 1 n=(List.range (HT.sIx n n hi - HT.sIx n 0 lo)).map (HT.sIx n 0 lo+·):=by
 have a:∀(o:Option Int) (d:Nat),(match o with | none=>(d:Int) | some i=>(let i:=if i < 0 then i+(n:Int) else i;if(1:Int) > 0 then max 0 (min i n) else max (-1) (min i (n - 1))))=((HT.sIx n d o:Nat):Int):=by
  intro o d;cases o with
  | none=>rfl
  | some v =>
   show(if(1:Int) > 0 then max 0 (min (if v < 0 then v+(n:Int) else v) n) else _)=(((if v < 0 then(v+(n:Int)).toNat else min v.toNat n):Nat):Int);rw[if_pos (by decide)];by_cases b:v < 0
   ·rw[if_pos b,if_pos b];omega
   ·rw[if_neg b,if_neg b];omega
 rw[<- sliceRange_one,<- a lo 0,<- a hi n];rfl
theorem jje(l:List Nat)(lo hi:Option Int):Txt.slice (S l) lo hi=S (v7 l lo hi):=by
 have i:HT.sIx l.length l.length hi<=l.length:=HT.sIx_le _ _ (M8 _) _;have j:HT.sIx l.length 0 lo<=l.length:=HT.sIx_le _ _ (U6 _) _;have e:(Builtin.Str.strSliceIndices lo hi 1 (S l).length).filterMap ((S l).cps[·]?)=v7 l lo hi:=by
  rw[xc,jeo];have h:=StrLaws.picks l (HT.sIx l.length l.length hi - HT.sIx l.length 0 lo) (HT.sIx l.length 0 lo);by_cases c:HT.sIx l.length 0 lo<=HT.sIx l.length l.length hi
  ·have d:=h (by omega);unfold v7;rw[<- d];simp[S]
  ·have z:HT.sIx l.length l.length hi - HT.sIx l.length 0 lo=0:=by omega
   unfold v7;rw[z];simp
 unfold Txt.slice;split
 ·rename_i b;have f:(Builtin.Str.strSliceIndices lo hi 1 (S l).length).length=(S l).length:=by
   simp only[beq_self_eq_true,Bool.true_and] at b;exact beq_iff_eq.mp b
  rw[xc,jeo,L0,List.length_range] at f;unfold v7;by_cases a:l.length=0
  ·have:l=[]:=List.length_eq_zero_iff.mp a;subst this;simp
  ·have g:HT.sIx l.length 0 lo=0:=by omega
   rw[g,List.drop_zero,List.take_of_length_le (by omega)]
 ·rw[e];rfl
def jm4:V->Option Int->Option Int->Hp->VK->Prop:=λx lo hi H Q=>∃ l,x=.str (S l)/\l.length<=sizeLine/\Q (.str (S (v7 l lo hi))) H
theorem jhd  (p:IsPart v o):∃ q:Option (Int×Tok),v=partValue q/\q.map (·.1)=o:=by
 cases p with
 | none=>exact⟨none,rfl,rfl⟩
 | int i t=>exact⟨some (i,t),rfl,rfl⟩
theorem jj5:SlR X jm4:=by
 intro c s σ H x v z A a b sl Q I i j m n h;obtain⟨l,rfl,o,q⟩:=h;obtain⟨t,rfl⟩:=i;obtain⟨d,rfl,p⟩:=jhd m;obtain⟨e,rfl,r⟩:=jhd n;refine⟨"str",_,F.slot_str_getitem.lookup,typeIs_str _ _ _,wpAny_getItem_str_slice (l:=d) (u:=e) (st:=none) j rfl ?_⟩;have w:Txt.slice (S l) a b=S (v7 l a b):=jje l a b;have g:∀ f k,EP X c σ Q (.str (Txt.slice (S l) a b) f) { s with toks:=k }:=λf k=>by
  rw[w];exact⟨.str (S (v7 l a b)),H,I.tok k,⟨f,rfl⟩,q⟩
 have y:sliceMade (S l) t d e none=(if((1:Int)==1&&(Builtin.Str.strSliceIndices a b 1 (S l).length).length==(S l).length)=true then Made.val (.str (S l) t) else Made.str ⟨((Builtin.Str.strSliceIndices a b 1 (S l).length).filterMap ((S l).cps[·]?)).toArray⟩):=by
  unfold sliceMade slicePicked;rw[p,r];rfl
 rw[y];refine post_val_or_str ⟨?_,λf k=>g f k⟩;exact N8 (Txt.slice_le (S l) a b) (by rw[xc];exact o)
def Its(l:List Nat):It:=⟨λi _=>i < l.length,λi H x H'=>H'=H/\∃ c,l[i]?=some c/\x=.str (S [c]),λi _=>l.length<=i⟩
theorem jfI{tg:Expr}{P:Program}{w:World}{K:PySem.W.Frag}(it:Addr)(l:List Nat)(t:Tok)(ty:String)(j:ty = "str_ascii_iterator" \/ ty = "str_iterator")
  (W:∀ A:Around,A.handled=none->Walks P w A it [it] [it] (S l).cps.size (SignAt (S l)) (λi h=>h.IsStrIter it ty (S l) t i)):Turn P w K tg (Its l) [it] it (λi h=>h.IsStrIter it ty (S l) t i) where
 mem:=by simp
 obj:=λi h a b f=>by
  have e:b=it:=by simpa using f
  subst e;obtain⟨o,e,c,d⟩:=a;exact⟨o,e,λv z=>by rw[d] at z;cases z⟩
 keep:=λi h m a k=>by
  obtain⟨o,e,r⟩:=a;exact⟨o,k it (by simp) o e,r⟩
 item:=by
  intro X F G J p i g s σ H E I q a L;subst F G J;obtain⟨x,y,T,B,C,D⟩:=q it (by simp);have U:=W X.A (I.ok.hd p);have M:(S l).cps.size=l.length:=by simp[S]
  refine U.item i s _ _ (by rw[M];exact L) a λv m Q V n Y=>?_;obtain⟨c,u,N,rfl⟩:=V;have Z:Inv X g σ H { s with heap:=m,toks:=Q }:=I.turned (λb o f e=>Y b o (by simpa using f) e) x y B C D;obtain⟨o,e,ct,d⟩:=id n;refine⟨_,rfl,jdp (s:={ s with heap:=m,toks:=Q }) e ct d (by rcases j with z | z<;>subst z<;>decide) ⟨.str (S [c]),H,Z,⟨u,rfl⟩,⟨rfl,c,by simpa [S] using N,rfl⟩,n,λb f=>(q b f).1⟩⟩
 done:=by
  intro X F G J p i g s σ H E I q a L;subst F G J;obtain⟨x,y,T,B,C,D⟩:=q it (by simp);have R:(S l).cps[i]?=none:=by
   have:l.length<=i:=L;simp[S,this]
  rcases j with z | z
  ·subst z;exact wpAny_pyNext_ascii_end (I.ok.hd p) a R λm O=>⟨rfl,I.turned (t':=s.toks) (λb o f e=>O b o f e) x y B C D⟩
  ·subst z;exact wpAny_pyNext_wide_end (I.ok.hd p) a R λm O=>⟨rfl,I.turned (t':=s.toks) (λb o f e=>O b o f e) x y B C D⟩
 self:=λ_ _ _ _ _ a h=>by
  rcases j with z | z
  ·subst z;exact wpAny_pyIter_striter_ascii a h
  ·subst z;exact wpAny_pyIter_striter_wide a h
theorem jlq:OpR X (compareOp .In) (λx y H Q=>∃ c l,x=.str (S [c])/\y=.str (S l)/\Q (.bl (decide (c∈l))) H):=by
 intro a s σ H x y v u Q I b d h;obtain⟨c,l,rfl,rfl,q⟩:=h;refine jeH a s σ H _ _ v u Q I b d ⟨_,_,rfl,rfl,?_⟩;rw[<- jhA,StrLaws.found_one,VV];exact q
theorem jev:OpR X (compareOp .NotIn) (λx y H Q=>∃ c l,x=.str (S [c])/\y=.str (S l)/\Q (.bl (!decide (c∈l))) H):=by
 intro a s σ H x y v u Q I b d h;obtain⟨c,l,rfl,rfl,q⟩:=h;refine u6 a s σ H _ _ v u Q I b d ⟨_,_,rfl,rfl,?_⟩;rw[<- jhA,StrLaws.found_one,VV];exact q
theorem ji9:OpR X (binaryOp .Add) (λx y H Q=>∃ a b,x=.str (S a)/\y=.str (S b)/\a.length+b.length<=sizeLine/\Q (.str (S (a++b))) H):=by
 intro c s σ H x y v u Q I d e h;obtain⟨a,b,rfl,rfl,f,q⟩:=h;refine jck c s σ H _ _ v u Q I d e ⟨_,_,rfl,rfl,by rw[xc,xc];exact f,?_⟩;rw[jl8];exact q
theorem jiO:OpR X (binaryOp .Mult) (rI (λi j=>Builtin.Int.intBits i<=2 ^ 20/\Builtin.Int.intBits j<=2 ^ 20) λi j=>.int (i*j)):=opI λ_ _ _ _ _ _ _ a q=>mul_int q (IntMulOk.of_bits a.1 a.2)
theorem jcF  (h:i.natAbs < 2 ^ m) (a:m<=2 ^ 20):Builtin.Int.intBits i<=2 ^ 20:=N8 (PySem.intBits_le_iff.mpr h) a
theorem jbo  {A:Around}{bs:List Bool}{its:List Value}(r:Vals (bs.map V.bl) its):TruthOf P w A (λi v=>its.toArray[i]?=some v) (λi=>bs.getD i false):=by
 intro i v s Q E c d;have a:its[i]?=some v:=by simpa using c
 have h:i < its.length:=(L8.mp a).1;have e:=r.length;rw[L0] at e;have f:(bs.map V.bl)[i]?=some (V.bl (bs.getD i false)):=by
  rw[List.getElem?_map,List.getD_eq_getElem?_getD,X8 (by omega)];rfl
 obtain⟨u,b,g⟩:=r.get f;rw[a] at b;cases b;cases g;exact M6 d
theorem jdD:∀(bs:List Bool),(List.range bs.length).any (λi=>bs.getD i false)=bs.any (λb=>b):=by
 intro bs;rw[Bool.eq_iff_iff,List.any_eq_true,List.any_eq_true];constructor
 ·rintro⟨i,c,h⟩;have a:=List.mem_range.mp c;rw[List.getD_eq_getElem?_getD,X8 a] at h;exact⟨_,List.getElem_mem a,h⟩
 ·rintro⟨b,d,h⟩;obtain⟨i,c,e⟩:=List.mem_iff_getElem.mp d;refine⟨i,List.mem_range.mpr c,?_⟩;rw[List.getD_eq_getElem?_getD,X8 c,e];exact h
theorem jgA(k:X.calm=true):KB X (.builtin "any") (λxs H Q=>∃(p:Addr) (bs:List Bool),xs=[.ref p]/\SqL X.K H p (bs.map V.bl)/\Q (.bl (bs.any λb=>b)) H):=by
 intro f s σ H xs w Q I r h;obtain⟨p,bs,rfl,l,q⟩:=h;obtain⟨u,rfl,m⟩:=r.one;cases m;obtain⟨a,g,c,x⟩:=I.list l;have d:p < s.heap.objs.size:=by
  obtain⟨o,n,e,_⟩:=c;exact N0 e
 have j:=g.length;rw[L0] at j;refine call_any_walk (wpAny_pyIter_list c.isList ⟨s.heap.objs.size,_,_,_,_,_,λi=>bs.getD i false,rfl,Walks.list (A:=X.A.in1) (by exact I.ok.hd k) s.heap.objs.size p (N7 d) a.toArray,⟨⟨_,E1 _ rfl,rfl,rfl⟩,?_⟩,jbo g,λy z t=>?_⟩)
 ·obtain⟨o,e,r⟩:=c.isList;exact⟨o,L7 _ e,r⟩
 ·rw[N4,<- j,jdD];refine⟨.bl (bs.any λb=>b),H,I.kept λb o e=>t b o ?_ (L7 _ e),rfl,q⟩;intro v;have:b=s.heap.objs.size:=by simpa using v
  exact absurd (N0 e) (by rw[this];exact Nat.lt_irrefl _)
def SqX(K:PySem.W.Frag)(H:Hp)(a:Addr)(xs:List V):Prop :=
 Rd H a (.lst xs) \/ ∃(its:Array Value) (n:Nat),K.lookup a=some { cls:=.type "list",data:=.seq its n }/\its.size<=sizeLine/\Vals xs its.toList
theorem SqX.sq{K:PySem.W.Frag}{H:Hp}{a:Addr}{xs:List V}(h:SqX K H a xs):SqL K H a xs:=by
 rcases h with h | ⟨b,n,c,d,r⟩
 ·exact .inl h
 ·exact .inr ⟨_,b,n,c,rfl,rfl,rfl,d,r⟩
theorem SqX.of{K:PySem.W.Frag}{H:Hp}{a:Addr}{xs:List V}(h:H a=some (.lst xs)):SqX K H a xs:=.inl (.inl h)
theorem Inv.listX  (I:Inv X pins σ H s) (h:SqX X.K H a xs):∃(its:List Value) (n:Nat),Vals xs its/\s.heap.get? a=some { cls:=.type "list",data:=.seq its.toArray n }/\xs.length<=sizeLine:=by
 rcases h with h | ⟨its,n,b,c,r⟩
 ·obtain⟨z,its,n,r,e⟩:=h.ok I.hok;exact⟨its,n,r,e,z⟩
 ·refine⟨its.toList,n,r,by simpa using I.kIn a _ b,?_⟩;have e:=r.length;simp only[Array.length_toList] at e;omega
def jkq(K:PySem.W.Frag):R2:=λx y H Q=>∃ l b xs zs,x=.ref l/\y=.ref b/\SqX K H l xs/\SqX K H b zs/\xs.length+zs.length<=sizeLine/\∀ p,H p=none->Q (.ref p) (upd H p (.lst (xs++zs)))
theorem jhZ:OpR X (binaryOp .Add) (jkq X.K):=by
 intro d s σ H x y v u Q I g i h;obtain⟨l,b,t,w,rfl,rfl,j,k,z,q⟩:=h;cases g;cases i;obtain⟨c,n,r,e,_⟩:=I.listX j;obtain⟨a,A,f,m,_⟩:=I.listX k;have B:=r.length;have o:=f.length;refine PySem.P.add_list e m ?_ (by rw[N4,N4];omega);have p:c.toArray++a.toArray=(c++a).toArray:=by simp
 rw[p];exact⟨.ref _,_,I.lnew (t':=s.toks) (r.append f) (by rw[N5];omega),rfl,q _ I.fresh⟩
theorem jbf{ns:List Int}(h:PySem.W.WData.layableAll [PySem.W.WData.list (ns.map PySem.W.WData.int)]=true):∀ x∈ns,Builtin.Int.intBits x<=2 ^ 20:=by
 intro x c;have f:(PySem.W.WData.list (ns.map PySem.W.WData.int)).layable=true:=(PySem.W.layW_cons h).1;have e:PySem.W.ofPy (.list (ns.map .int))=PySem.W.WData.list (ns.map PySem.W.WData.int):=by
  have g:∀ a:List Int,PySem.W.ofPys (a.map PyData.int)=a.map PySem.W.WData.int:=by
   intro a
   induction a with
   | nil=>rfl
   | cons m a i=>simp[PySem.W.ofPys,PySem.W.ofPy,i]
  simp[PySem.W.ofPy,g]
 have b:=PySem.W.lay0_ofPy (s:=.list .int) (d:=.list (ns.map .int)) rfl (by simp[Shape.has]) (by rw[e];exact f);have j:PyData.layable0 (.list (ns.map .int))=true:=by
  simp[PyData.layableAll0] at b;exact b
 exact PyData.bits_item_of_ints j c
theorem walk_ofB{l:PySem.W.OpenLaw}{n k:Nat}{j:List Str}{R:(Str->Option Value)->Heap->Prop}{M:World->Heap->Prop}{d:DefRec}{K:Params->PySem.W.Frag}{CX:World->CXT}{sp:World->Sp} 
  (hn:l.most=some n) (A:n<=sizeLine) (B:d.params.defaults=[]) (S:Room k callerA)
  (U:∀(w:World) (h:Heap),M w h->(K w.params).In h)
  (F:∀(w:World) (mg:Str->Option Value) (fa:Addr) (h:Heap),(K w.params).In h->h.Ns mainGlobals mg->mg d.name=some (.ref fa) ->
   ∃ fd:FuncData,(∀(s:Shared) (u:Value),BindsTo s fd ⟨[u],[]⟩ [(x,u)]) /\
    ∀ base:Heap,(K w.params).In base->base.Ns mainGlobals mg->FnOk l.prog w (K w.params) mg base (CX w) k fa fd [x] (sp w))
  (C:∀(w:World) (H:Hp) (a:Addr) (ns:List Int),ns.length<=n->(∀ x∈ns,Builtin.Int.intBits x<=2 ^ 20)->jmD H->SqX (K w.params) H a (ns.map V.int)->sp w [.ref a] H (λv _=>v=.bl true) λ_ _ _=>False)
  (D:∀(w:World) (H:Hp) (s:Shared) (e:Value) (s':Shared),CX w [] H s (λ_ _ _=>False) e s'->False) :
  PySem.W.WalkO q j R M l.row.toRowW d [] (λf vs=>PySem.call f vs):=by
 intro w s₀ X mg mb G Y fa o pm cd Z dV kV ho hd hcd N E hg O P as y z hrd I hlo;obtain rfl:dV=.none:=PySem.W.Dflts.none N B;obtain rfl:kV=.none:=PySem.W.Dflts.noKw N;obtain⟨a,vs,ns,rfl,rfl,c,p,i⟩:=Att.script_of hn y I;have t:=jbf z;have J:=U w _ Y;obtain⟨fd,hb,hF⟩:=F w mg fa _ J G.T.g E;refine PySem.W.enter_call (codeAny_mono (jfX J G.T.g G.T.b G.T.builtins G.T.nolimit hg c p (N8 i A) S hF hb (λH hO hS=>C w H a ns i t hO ?_) λH e s'=>D w H X e s') λr s' hq=>?_)
 ·rcases hS with h | ⟨o,its,m,Q,_,_,L,hz,r⟩
  ·exact .inl h
  ·have e:=J a o Q;rw[c] at e;cases e;cases L;exact .inr ⟨_,_,Q,hz,r⟩
 ·obtain⟨rfl,h2,h3,h4⟩:=hq;exact⟨.inl ⟨.bool true,.bool true,[],rfl,λ_=>rfl,.bool true,Att.post_true l _,λ_=>⟨List.Pairwise.nil,λ_ hm=>(nomatch hm)⟩⟩,h2,h3,h4⟩
def um(sc:Scope)(N:List Str)(scope:Scope)(N':List Str)(ix:List (Option Nat)):Bool :=
 decide (scope.kind=.function)&&decide (sc.kind=.function)&&scope.names.all (λy=>decide (y.2≠.cell))&&scope.names.all (λy=>!decide (y.2=.local)||decide (scope.names.lookup y.1=some .local)) &&
 scope.names.all (λy=>!decide (y.2=.free)||(decide (scope.names.lookup y.1=some .free)&&(decide (sc.names.lookup y.1=some .cell)||decide (sc.names.lookup y.1=some .free))))&&decide N'.Nodup&&decide (ix.length=N'.length) &&
 (List.range ix.length).all (λi=>match ix[i]? with | some (some j)=>(match N'[i]? with | some x=>decide (N[j]?=some x)&&decide ((x,NameKind.free)∈scope.names) | none=>true) | _=>true)
theorem jiN{X:Cx}{scope:Scope}{N':List Str}{ix:List (Option Nat)}(b:Scope)(N:List Str)(h1:X.env.scope=b)(h2:X.N=N)(h:um b N scope N' ix=true):BlockOk X scope N' ix:=by
 subst h1;subst h2;unfold um at h;simp only[L9,decide_eq_true_eq,List.all_eq_true,Bool.or_eq_true,Bool.not_eq_true',decide_eq_false_iff_not] at h;obtain⟨⟨⟨⟨⟨⟨⟨d,f⟩,g⟩,k⟩,c⟩,l⟩,m⟩,n⟩:=h;refine⟨d,g,λy a e=>?_,λy a e=>?_,λy a e=>?_,l,m,λi j x h1 h2=>?_,f⟩
 ·exact(k y a).elim (λz=>absurd e z) id
 ·exact(c y a).elim (λz=>absurd e z) λz=>z.1
 ·exact(c y a).elim (λz=>absurd e z) λz=>z.2
 ·have o:i < ix.length:=(L8.mp h1).1;have z:=n i (List.mem_range.mpr o);rw[h1] at z;dsimp only at z;rw[h2] at z;dsimp only at z;simp only[L9,decide_eq_true_eq] at z;exact z
structure FnFact(K:PySem.W.Frag)(mg:Str->Option Value)(x qual:Str)(st:Stmt)(f:Addr)(fd:FuncData)(ps:List Str):Prop where
 fn:Fun K x qual st f fd
 mgf:mg x=some (.ref f)
 bd:Binds K fd ps []
section
variable {X:Cx}{k:Nat}{f:Addr}{fd:FuncData}{ps:List Str}{sp:Sp}{x qual:Str}{st:Stmt}{p pos:Pos}{e:Expr}{es:List Expr}{t:TA}
theorem jl0(F:FnFact X.K X.mg x qual st f fd ps)(G:FnOk X.prog X.w X.K X.mg X.base CX0 k f fd ps sp)(c:Room k X.A)(d:PA X (e::es) t)(g:Gl X x:=by rfl)(a:(x==("__debug__" : Str))=false:=by decide)
  (h:starEach (e::es) X.env=(false,eval e X.env)::starEach es X.env:=by rfl) (b:(backTo pos (starEach es X.env)).any (·.1)=false:=by rfl):PE X (.Call (.Name x p) (e::es) [] pos) (jdO sp [] E0 t) :=
 jiR G c g F.mgf F.fn.kp F.bd .nil jdK d a h b
end
theorem jhB:OpR X (binaryOp .Mult) (λx y H Q=>∃(a:List Nat) (n:Int),x=.str (S a)/\y=.int n/\a.length<=1000/\0<=n/\n<=1000/\Q (.str (S (List.replicate n.toNat a).flatten)) H):=by
 intro f s σ H x y v u Q I g i h;obtain⟨a,n,rfl,rfl,j,A,l,q⟩:=h;obtain⟨k,rfl⟩:∃ k:Nat,n=(k:Int):=⟨n.toNat,by omega⟩;have m:k<=1000:=by omega
 rw[N9] at q;obtain⟨t,rfl⟩:=g;obtain⟨o,rfl⟩:=i;have p:a.length*k<=1000*1000:=Nat.mul_le_mul j m;have hok:MulOk (S a) (k:Int):=by
  refine⟨by simp;omega,λd c=>?_,λd c=>?_⟩
  ·rw[xc];have r:(1:Int)<=k:=by omega
   have B:(1000:Int)<=(2 ^ 63 - 1) / (k:Int):=by
    rw[Int.le_ediv_iff_mul_le (by omega)];have:(1000:Int)*k<=1000*1000:=by omega
    omega
   omega
  ·rw[xc,N9];unfold Builtin.Str.tooLong;have r:a.length*k<=sizeLine:=N8 p (by decide);exact X4 (by omega)
 have e:Txt.mul (S a) (k:Int)=S (List.replicate k a).flatten:=by
  have fl:∀(n:Nat) (b:Array Nat),((List.replicate n a.toArray).foldl (·++·) b).toList=b.toList++(List.replicate n a).flatten:=by
   intro n
   induction n with
   | zero=>intro b;simp
   | succ n w=>intro b;rw[List.replicate_succ,X1,w];simp[List.replicate_succ]
  unfold Txt.mul;apply PyProof.Rows.ext_toList;rw[VV];by_cases d:(k:Int) < 1
  ·have:k=0:=by omega
   subst this;simp[Str.empty]
  ·rw[if_neg d];by_cases c:((k:Int)==1||(S a).length==0)=true
   ·rw[if_pos c,VV];rw[xc] at c;simp at c;rcases c with z | z
    ·have:k=1:=by omega
     subst this;simp
    ·subst z;simp
   ·rw[if_neg c,N9];have z:=fl k #[];simp only[X7] at z;exact z
 refine SB.mul hok λo C=>?_;rw[e];exact⟨.str _,H,I.tok _,⟨_,rfl⟩,q⟩
end L2
namespace QD
open PySem L2
inductive KA where
 | int (i:Int) | str (s:List Nat)
 deriving DecidableEq
inductive D where
 | non | bl (b:Bool) | int (i:Int) | str (s:List Nat)
 | tup (l:List D) | lst (o:Bool) (l:List D)
 | dK (o:Bool) (ks:List KA) (l:List D)
 | dT (o:Bool) (ks:List (List KA)) (l:List D)
 | ins (o:Bool) (c:Nat) (ns:List Str) (l:List D)
 | dead
mutual
def fz:D->D
 | .tup l=>.tup (fzs l)
 | .lst _ l=>.lst false (fzs l)
 | .dK _ ks l=>.dK false ks (fzs l)
 | .dT _ ks l=>.dT false ks (fzs l)
 | .ins _ c ns l=>.ins false c ns (fzs l)
 | .non=>.non | .bl b=>.bl b | .int i=>.int i | .str s=>.str s | .dead=>.dead
def fzs:List D->List D
 | []=>[]
 | d::l=>fz d::fzs l
end
mutual
def frz:D->Bool
 | .tup l=>frzs l
 | .lst o l=>!o&&frzs l
 | .dK o _ l=>!o&&frzs l
 | .dT o _ l=>!o&&frzs l
 | .ins o _ _ l=>!o&&frzs l
 | .non=>true | .bl _=>true | .int _=>true | .str _=>true | .dead=>true
def frzs:List D->Bool
 | []=>true
 | d::l=>frz d&&frzs l
end
mutual
theorem qu:∀ d:D,frz d=true->fz d=d
 | .tup l,h=>by rw[frz] at h;rw[fz,jl l h]
 | .lst o l,h=>by rw[frz,L9] at h;rw[fz,jl l h.2];cases o<;>simp_all
 | .dK o ks l,h=>by rw[frz,L9] at h;rw[fz,jl l h.2];cases o<;>simp_all
 | .dT o ks l,h=>by rw[frz,L9] at h;rw[fz,jl l h.2];cases o<;>simp_all
 | .ins o c ns l,h=>by rw[frz,L9] at h;rw[fz,jl l h.2];cases o<;>simp_all
 | .non,_=>rfl | .bl _,_=>rfl | .int _,_=>rfl | .str _,_=>rfl | .dead,_=>rfl
theorem jl:∀ l:List D,frzs l=true->fzs l=l
 | [],_=>rfl
 | d::l,h=>by rw[frzs,L9] at h;rw[fzs,qu d h.1,jl l h.2]
end
mutual
theorem jk4:∀ d:D,frz (fz d)=true
 | .tup l=>by rw[fz,frz];exact Vu l
 | .lst o l=>by rw[fz,frz,Vu l];rfl
 | .dK o ks l=>by rw[fz,frz,Vu l];rfl
 | .dT o ks l=>by rw[fz,frz,Vu l];rfl
 | .ins o c ns l=>by rw[fz,frz,Vu l];rfl
 | .non=>rfl | .bl _=>rfl | .int _=>rfl | .str _=>rfl | .dead=>rfl
theorem Vu:∀ l:List D,frzs (fzs l)=true
 | []=>rfl
 | d::l=>by rw[fzs,frzs,jk4 d,Vu l];rfl
end
theorem Yk:∀ l:List D,fzs l=l.map fz
 | []=>rfl
 | d::l=>by rw[fzs,Yk l];rfl
theorem VB:∀ l:List D,frzs l=l.all frz
 | []=>rfl
 | d::l=>by rw[frzs,VB l];rfl
structure RC where
 K:PySem.W.Frag
 cls:Nat->Addr
def kaV:KA->Key
 | .int i=>.inl i
 | .str s=>.inr (S s)
abbrev Zn:=Addr->Prop
def FT(R:RC)(Z:Zn)(H:Hp)(a:Addr)(vs:List V):Prop :=
 (Z a/\Rd H a (.tup vs)) \/ ∃(o:Obj) (its:Array Value) (n:Nat),R.K.lookup a=some o/\o.cls=.type "tuple"/\o.data=.seq its n/\its.size<=sizeLine/\Vals vs its.toList/\o.dict=none
def FL(R:RC)(Z:Zn)(H:Hp)(a:Addr)(vs:List V):Prop :=
 (Z a/\Rd H a (.lst vs)) \/ ∃(its:Array Value) (n:Nat),R.K.lookup a=some { cls:=.type "list",data:=.seq its n }/\its.size<=sizeLine/\Vals vs its.toList
def DkA(o:Bool)(H:Hp)(a:Addr)(kvs:List (Key×V)):Prop:=bif o then H a=some (.dK kvs) else Rd H a (.dK kvs)
mutual
def Rep(R:RC)(Z:Zn)(H:Hp):D->V->List Addr->Prop
 | .non,v,O=>v=.non/\O=[]
 | .bl b,v,O=>v=.bl b/\O=[]
 | .int i,v,O=>v=.int i/\O=[]
 | .str s,v,O=>v=.str (S s)/\O=[]
 | .dead,_,O=>O=[]
 | .tup l,v,O=>∃ a vs,v=.ref a/\FT R Z H a vs/\Reps R Z H l vs O
 | .lst o l,v,O=>∃ a vs O',v=.ref a/\Reps R Z H l vs O'/\bif o then H a=some (.lst vs)/\O=a::O' else FL R Z H a vs/\O'=[]/\O=[]
 | .dK o ks l,v,O=>∃ a vs O',v=.ref a/\Reps R Z H l vs O'/\ks.length=l.length/\DkA o H a ((ks.map kaV).zip vs)/\bif o then O=a::O' else Z a/\O'=[]/\O=[]
 | .dT o ks l,v,O=>∃ a vs O',v=.ref a/\Reps R Z H l vs O'/\ks.length=l.length/\H a=some (.dT ((ks.map (List.map kaV)).zip vs))/\bif o then O=a::O' else Z a/\O'=[]/\O=[]
 | .ins o c ns l,v,O=>∃ a dx vs O',v=.ref a/\Reps R Z H l vs O'/\ns.length=l.length/\H a=some (.ins (R.cls c) dx (ns.zip vs))/\bif o then O=a::O' else Z a/\O'=[]/\O=[]
def Reps(R:RC)(Z:Zn)(H:Hp):List D->List V->List Addr->Prop
 | [],vs,O=>vs=[]/\O=[]
 | d::ds,vs,O=>∃ v vs' O1 O2,vs=v::vs'/\O=O1++O2/\Rep R Z H d v O1/\Reps R Z H ds vs' O2
end
theorem FT.sq  (h:FT R Z H a vs):SqT R.K H a vs:=by
 rcases h with⟨_,h⟩ | ⟨o,b,n,c,d,e,f,g,_⟩
 ·exact .inl h
 ·exact .inr ⟨o,b,n,c,d,e,f,g⟩
theorem FL.sqx  (h:FL R Z H a vs):SqX R.K H a vs:=by
 rcases h with⟨_,h⟩ | h
 ·exact .inl h
 ·exact .inr h
theorem FL.sq  (h:FL R Z H a vs):SqL R.K H a vs:=h.sqx.sq
theorem Rd.agree  (e:H' a=H a) (h:Rd H a u):Rd H' a u:=by
 unfold Rd at h ⊢;rw[e];exact h
theorem FT.frame  (hz:∀ a,Z a->Z' a) (b:∀ a,Z a->H' a=H a) (h:FT R Z H a vs):FT R Z' H' a vs:=by
 rcases h with⟨z,h⟩ | h
 ·exact .inl ⟨hz a z,Rd.agree (b a z) h⟩
 ·exact .inr h
theorem FL.frame  (hz:∀ a,Z a->Z' a) (b:∀ a,Z a->H' a=H a) (h:FL R Z H a vs):FL R Z' H' a vs:=by
 rcases h with⟨z,h⟩ | h
 ·exact .inl ⟨hz a z,Rd.agree (b a z) h⟩
 ·exact .inr h
mutual
theorem Rep.frame(hz:∀ a,Z a->Z' a)(hH:∀ a,Z a->H' a=H a):∀{d:D}{v:V}{O:List Addr},Rep R Z H d v O->(∀ a∈O,H' a=H a)->Rep R Z' H' d v O
 | .non,_,_,h,_=>by rw[Rep] at h ⊢;exact h
 | .bl _,_,_,h,_=>by rw[Rep] at h ⊢;exact h
 | .int _,_,_,h,_=>by rw[Rep] at h ⊢;exact h
 | .str _,_,_,h,_=>by rw[Rep] at h ⊢;exact h
 | .dead,_,_,h,_=>by rw[Rep] at h ⊢;exact h
 | .tup l,_,_,h,hO=>by
  rw[Rep] at h ⊢;obtain⟨a,vs,e,t,r⟩:=h;exact⟨a,vs,e,t.frame hz hH,Reps.frame hz hH r hO⟩
 | .lst o l,_,_,h,hO=>by
  rw[Rep] at h ⊢;obtain⟨a,vs,O',e,r,h⟩:=h;cases o with
  | true =>
   obtain⟨h1,rfl⟩:=h;exact⟨a,vs,O',e,Reps.frame hz hH r λb hb=>hO b (L5 _ hb),by rw[cond_true,hO a L6];exact⟨h1,rfl⟩⟩
  | false =>
   obtain⟨h1,rfl,rfl⟩:=h;exact⟨a,vs,[],e,Reps.frame hz hH r (λb hb=>nomatch hb),h1.frame hz hH,rfl,rfl⟩
 | .dK o ks l,_,_,h,hO=>by
  rw[Rep] at h ⊢;obtain⟨a,vs,O',e,r,hl,hd,h⟩:=h;cases o with
  | true =>
   have h:=(show _=_ from h);subst h;exact⟨a,vs,O',e,Reps.frame hz hH r λb hb=>hO b (L5 _ hb),hl,by show H' a=some _;rw[hO a L6];exact hd,rfl⟩
  | false =>
   obtain⟨h1,rfl,rfl⟩:=h;exact⟨a,vs,[],e,Reps.frame hz hH r (λb hb=>nomatch hb),hl,Rd.agree (hH a h1) hd,hz a h1,rfl,rfl⟩
 | .dT o ks l,_,_,h,hO=>by
  rw[Rep] at h ⊢;obtain⟨a,vs,O',e,r,hl,hd,h⟩:=h;cases o with
  | true =>
   have h:=(show _=_ from h);subst h;exact⟨a,vs,O',e,Reps.frame hz hH r λb hb=>hO b (L5 _ hb),hl,by rw[hO a L6];exact hd,rfl⟩
  | false =>
   obtain⟨h1,rfl,rfl⟩:=h;exact⟨a,vs,[],e,Reps.frame hz hH r (λb hb=>nomatch hb),hl,by rw[hH a h1];exact hd,hz a h1,rfl,rfl⟩
 | .ins o c ns l,_,_,h,hO=>by
  rw[Rep] at h ⊢;obtain⟨a,dx,vs,O',e,r,hl,hd,h⟩:=h;cases o with
  | true =>
   have h:=(show _=_ from h);subst h;exact⟨a,dx,vs,O',e,Reps.frame hz hH r λb hb=>hO b (L5 _ hb),hl,by rw[hO a L6];exact hd,rfl⟩
  | false =>
   obtain⟨h1,rfl,rfl⟩:=h;exact⟨a,dx,vs,[],e,Reps.frame hz hH r (λb hb=>nomatch hb),hl,by rw[hH a h1];exact hd,hz a h1,rfl,rfl⟩
theorem Reps.frame(hz:∀ a,Z a->Z' a)(hH:∀ a,Z a->H' a=H a):∀{l:List D}{vs:List V}{O:List Addr},Reps R Z H l vs O->(∀ a∈O,H' a=H a)->Reps R Z' H' l vs O
 | [],_,_,h,_=>by rw[Reps] at h ⊢;exact h
 | d::l,_,_,h,hO=>by
  rw[Reps] at h ⊢;obtain⟨v,vs,O1,O2,e,rfl,r1,r2⟩:=h;exact⟨v,vs,O1,O2,e,rfl,Rep.frame hz hH r1 λa ha=>hO a (List.mem_append_left _ ha),Reps.frame hz hH r2 λa ha=>hO a (U4 _ ha)⟩
end
mutual
theorem Rep.nil:∀{d:D}{v:V}{O:List Addr},Rep R Z H d v O->frz d=true->O=[]
 | .non,_,_,h,_=>by rw[Rep] at h;exact h.2
 | .bl _,_,_,h,_=>by rw[Rep] at h;exact h.2
 | .int _,_,_,h,_=>by rw[Rep] at h;exact h.2
 | .str _,_,_,h,_=>by rw[Rep] at h;exact h.2
 | .dead,_,_,h,_=>by rw[Rep] at h;exact h
 | .tup l,_,_,h,f=>by
  rw[Rep] at h;rw[frz] at f;obtain⟨a,vs,e,t,r⟩:=h;exact Reps.nil r f
 | .lst o l,_,_,h,f=>by
  rw[Rep] at h;rw[frz] at f;obtain⟨a,vs,O',e,r,h⟩:=h;cases o with
  | true=>exact absurd f (by simp)
  | false=>exact h.2.2
 | .dK o ks l,_,_,h,f=>by
  rw[Rep] at h;rw[frz] at f;obtain⟨a,vs,O',e,r,hl,hd,h⟩:=h;cases o with
  | true=>exact absurd f (by simp)
  | false=>exact h.2.2
 | .dT o ks l,_,_,h,f=>by
  rw[Rep] at h;rw[frz] at f;obtain⟨a,vs,O',e,r,hl,hd,h⟩:=h;cases o with
  | true=>exact absurd f (by simp)
  | false=>exact h.2.2
 | .ins o c ns l,_,_,h,f=>by
  rw[Rep] at h;rw[frz] at f;obtain⟨a,dx,vs,O',e,r,hl,hd,h⟩:=h;cases o with
  | true=>exact absurd f (by simp)
  | false=>exact h.2.2
theorem Reps.nil:∀{l:List D}{vs:List V}{O:List Addr},Reps R Z H l vs O->frzs l=true->O=[]
 | [],_,_,h,_=>by rw[Reps] at h;exact h.2
 | d::l,_,_,h,f=>by
  rw[Reps] at h;rw[frzs,L9] at f;obtain⟨v,vs,O1,O2,e,rfl,r1,r2⟩:=h;rw[Rep.nil r1 f.1,Reps.nil r2 f.2];rfl
end
mutual
theorem Rep.freeze:∀{d:D}{v:V}{O:List Addr},Rep R Z H d v O->(∀ a,Z a->Z' a)->(∀ a∈O,Z' a)->Rep R Z' H (fz d) v []
 | .non,_,_,h,_,_=>by rw[Rep] at h;rw[fz,Rep];exact⟨h.1,rfl⟩
 | .bl _,_,_,h,_,_=>by rw[Rep] at h;rw[fz,Rep];exact⟨h.1,rfl⟩
 | .int _,_,_,h,_,_=>by rw[Rep] at h;rw[fz,Rep];exact⟨h.1,rfl⟩
 | .str _,_,_,h,_,_=>by rw[Rep] at h;rw[fz,Rep];exact⟨h.1,rfl⟩
 | .dead,_,_,h,_,_=>by rw[fz,Rep]
 | .tup l,_,_,h,hz,hO=>by
  rw[Rep] at h;rw[fz,Rep];obtain⟨a,vs,e,t,r⟩:=h;exact⟨a,vs,e,t.frame hz λ_ _=>rfl,Reps.freeze r hz hO⟩
 | .lst o l,_,_,h,hz,hO=>by
  rw[Rep] at h;rw[fz,Rep];obtain⟨a,vs,O',e,r,h⟩:=h;cases o with
  | true =>
   obtain⟨h1,rfl⟩:=h;exact⟨a,vs,[],e,Reps.freeze r hz λb hb=>hO b (L5 _ hb),.inl ⟨hO a L6,.inl h1⟩,rfl,rfl⟩
  | false =>
   obtain⟨h1,rfl,rfl⟩:=h;exact⟨a,vs,[],e,Reps.freeze r hz (λb hb=>nomatch hb),h1.frame hz (λ_ _=>rfl),rfl,rfl⟩
 | .dK o ks l,_,_,h,hz,hO=>by
  rw[Rep] at h;rw[fz,Rep];obtain⟨a,vs,O',e,r,hl,hd,h⟩:=h;have hl':ks.length=(fzs l).length:=by rw[Yk,L0];exact hl
  cases o with
  | true =>
   have h:=(show _=_ from h);subst h;exact⟨a,vs,[],e,Reps.freeze r hz λb hb=>hO b (L5 _ hb),hl',.inl hd,hO a L6,rfl,rfl⟩
  | false =>
   obtain⟨h1,rfl,rfl⟩:=h;exact⟨a,vs,[],e,Reps.freeze r hz (λb hb=>nomatch hb),hl',hd,hz a h1,rfl,rfl⟩
 | .dT o ks l,_,_,h,hz,hO=>by
  rw[Rep] at h;rw[fz,Rep];obtain⟨a,vs,O',e,r,hl,hd,h⟩:=h;have hl':ks.length=(fzs l).length:=by rw[Yk,L0];exact hl
  cases o with
  | true =>
   have h:=(show _=_ from h);subst h;exact⟨a,vs,[],e,Reps.freeze r hz λb hb=>hO b (L5 _ hb),hl',hd,hO a L6,rfl,rfl⟩
  | false =>
   obtain⟨h1,rfl,rfl⟩:=h;exact⟨a,vs,[],e,Reps.freeze r hz (λb hb=>nomatch hb),hl',hd,hz a h1,rfl,rfl⟩
 | .ins o c ns l,_,_,h,hz,hO=>by
  rw[Rep] at h;rw[fz,Rep];obtain⟨a,dx,vs,O',e,r,hl,hd,h⟩:=h;have hl':ns.length=(fzs l).length:=by rw[Yk,L0];exact hl
  cases o with
  | true =>
   have h:=(show _=_ from h);subst h;exact⟨a,dx,vs,[],e,Reps.freeze r hz λb hb=>hO b (L5 _ hb),hl',hd,hO a L6,rfl,rfl⟩
  | false =>
   obtain⟨h1,rfl,rfl⟩:=h;exact⟨a,dx,vs,[],e,Reps.freeze r hz (λb hb=>nomatch hb),hl',hd,hz a h1,rfl,rfl⟩
theorem Reps.freeze:∀{l:List D}{vs:List V}{O:List Addr},Reps R Z H l vs O->(∀ a,Z a->Z' a)->(∀ a∈O,Z' a)->Reps R Z' H (fzs l) vs []
 | [],_,_,h,_,_=>by rw[Reps] at h;rw[fzs,Reps];exact⟨h.1,rfl⟩
 | d::l,_,_,h,hz,hO=>by
  rw[Reps] at h;rw[fzs,Reps];obtain⟨v,vs,O1,O2,e,rfl,r1,r2⟩:=h;exact⟨v,vs,[],[],e,rfl,Rep.freeze r1 hz λa ha=>hO a (List.mem_append_left _ ha),Reps.freeze r2 hz λa ha=>hO a (U4 _ ha)⟩
end
theorem Reps.length:∀{l:List D}{vs:List V}{O:List Addr},Reps R Z H l vs O->vs.length=l.length
 | [],_,_,h=>by rw[Reps] at h;rw[h.1];rfl
 | d::l,_,_,h=>by
  rw[Reps] at h;obtain⟨v,vs,O1,O2,rfl,rfl,b,a⟩:=h;rw[M0,M0,Reps.length a]
theorem Reps.append:∀{l m:List D}{vs ws:List V}{O P:List Addr},Reps R Z H l vs O->Reps R Z H m ws P->Reps R Z H (l++m) (vs++ws) (O++P)
 | [],m,_,_,_,_,h,k=>by rw[Reps] at h;obtain⟨rfl,rfl⟩:=h;exact k
 | d::l,m,_,_,_,_,h,k=>by
  rw[Reps] at h;obtain⟨v,vs,O1,O2,rfl,rfl,a,b⟩:=h;rw[List.cons_append,Reps];exact⟨v,_,O1,_,rfl,List.append_assoc ..,a,Reps.append b k⟩
theorem Reps.one  (h:Rep R Z H d v O):Reps R Z H [d] [v] O:=by
 rw[Reps];exact⟨v,[],O,[],rfl,(M9 O).symm,h,by rw[Reps];exact⟨rfl,rfl⟩⟩
theorem Reps.cons  (h:Rep R Z H d v O) (k:Reps R Z H l vs P):Reps R Z H (d::l) (v::vs) (O++P):=by
 rw[Reps];exact⟨v,vs,O,P,rfl,rfl,h,k⟩
theorem Reps.empty:Reps R Z H [] [] []:=by rw[Reps];exact⟨rfl,rfl⟩
theorem Reps.at:∀{l:List D}{vs:List V}{O:List Addr}{i:Nat}{d:D},Reps R Z H l vs O->l[i]?=some d ->
  ∃ v A P B,vs[i]?=some v/\O=A++P++B/\Rep R Z H d v P/\∀{Z':Zn}{H':Hp}{d':D}{v':V}{P':List Addr},Rep R Z' H' d' v' P'->(∀ a,Z a->Z' a)->(∀ a,Z a->H' a=H a)->(∀ a∈A,H' a=H a)->(∀ a∈B,H' a=H a)->Reps R Z' H' (l.set i d') (vs.set i v') (A++P'++B)
 | [],_,_,_,_,_,e=>by simp at e
 | c::l,_,_,0,d,h,e=>by
  rw[Reps] at h;obtain⟨v,vs,O1,O2,rfl,rfl,g,j⟩:=h;have e:c=d:=by simpa using e
  subst e;refine⟨v,[],O1,O2,rfl,rfl,g,λr b f m n=>?_⟩;rw[List.set_cons_zero,List.set_cons_zero,Reps];exact⟨_,vs,_,O2,rfl,rfl,r,Reps.frame b f j n⟩
 | c::l,_,_,i+1,d,h,e=>by
  rw[Reps] at h;obtain⟨v,vs,O1,O2,rfl,rfl,g,j⟩:=h;obtain⟨w,A,P,B,p,rfl,q,k⟩:=Reps.at (i:=i) (d:=d) j (by simpa using e);refine⟨w,O1++A,P,B,by simpa using p,by simp,q,λ{Z' H' d' v' P'} r b f m n=>?_⟩;rw[List.set_cons_succ,List.set_cons_succ,Reps];exact⟨v,_,O1,A++P'++B,rfl,by simp,Rep.frame b f g λa o=>m a (List.mem_append_left _ o),k r b f (λa o=>m a (U4 _ o)) n⟩
theorem Reps.item{l:List D}{vs:List V}{i:Nat}(h:Reps R Z H l vs [])(e:l[i]?=some d):∃ v,vs[i]?=some v/\Rep R Z H d v []:=by
 obtain⟨v,A,P,B,a,b,r,_⟩:=h.at e;have:P=[]:=by
  have:=congrArg List.length b;simp at this;exact List.eq_nil_of_length_eq_zero (by omega)
 subst this;exact⟨v,a,r⟩
theorem Reps.take:∀{l:List D}{vs:List V}(n:Nat),Reps R Z H l vs []->Reps R Z H (l.take n) (vs.take n) []
 | _,_,0,_=>by simp;exact .empty
 | [],_,n+1,h=>by rw[Reps] at h;rw[h.1];exact .empty
 | d::l,_,n+1,h=>by
  rw[Reps] at h;obtain⟨v,vs,O1,O2,rfl,e,a,b⟩:=h;obtain⟨rfl,rfl⟩:=List.append_eq_nil_iff.mp e.symm;rw[List.take_succ_cons,List.take_succ_cons];exact .cons a (Reps.take n b)
theorem Reps.drop:∀{l:List D}{vs:List V}(n:Nat),Reps R Z H l vs []->Reps R Z H (l.drop n) (vs.drop n) []
 | _,_,0,h=>h
 | [],_,n+1,h=>by rw[Reps] at h;rw[h.1];exact .empty
 | d::l,_,n+1,h=>by
  rw[Reps] at h;obtain⟨v,vs,O1,O2,rfl,e,b,a⟩:=h;obtain⟨rfl,rfl⟩:=List.append_eq_nil_iff.mp e.symm;rw[List.drop_succ_cons,List.drop_succ_cons];exact Reps.drop n a
structure WF(Z:Zn)(H:Hp)(O:List Addr):Prop where
 nd:O.Nodup
 nz:∀ a∈O,¬ Z a
 od:∀ a∈O,H a≠none
 zd:∀ a,Z a->H a≠none
structure Go(Z:Zn)(H:Hp)(O:List Addr)(Z':Zn)(H':Hp)(O':List Addr):Prop where
 wf:WF Z' H' O'
 zz:∀ a,Z a->Z' a
 fr:∀ a,H a≠none->a∉O->H' a=H a
 zn:∀ a,Z' a->Z a \/ a∈O \/ H a=none
 sub:∀ a∈O',a∈O \/ H a=none
 dm:∀ a,H a≠none->H' a≠none
theorem Go.refl(w:WF Z H O):Go Z H O Z H O:=⟨w,λ_ z=>z,λ_ _ _=>rfl,λ_ z=>.inl z,λ_ h=>.inl h,λ_ h=>h⟩
theorem Go.trans(g:Go Z H O Z' H' O')(k:Go Z' H' O' Z'' H'' O''):Go Z H O Z'' H'' O'':=by
 refine⟨k.wf,λa z=>k.zz a (g.zz a z),λa h n=>?_,λa z=>?_,λa h=>?_,λa h=>k.dm a (g.dm a h)⟩
 ·rw[k.fr a (g.dm a h) λb=>(g.sub a b).elim n λe=>h e,g.fr a h n]
 ·rcases k.zn a z with z | z | z
  ·exact g.zn a z
  ·rcases g.sub a z with q | q
   ·exact .inr (.inl q)
   ·exact .inr (.inr q)
  ·by_cases h:H a=none
   ·exact .inr (.inr h)
   ·exact absurd z (g.dm a h)
 ·rcases k.sub a h with q | q
  ·exact g.sub a q
  ·by_cases h:H a=none
   ·exact .inr h
   ·exact absurd q (g.dm a h)
theorem Go.zH(w:WF Z H O)(g:Go Z H O Z' H' O'):∀ a,Z a->H' a=H a:=λa z=>g.fr a (w.zd a z) λh=>w.nz a h z
theorem WF.sub(w:WF Z H O)(h:∀ a∈O',a∈O)(n:O'.Nodup):WF Z H O':=⟨n,λa z=>w.nz a (h a z),λa z=>w.od a (h a z),w.zd⟩
theorem WF.mid(w:WF Z H (A++O++B)):WF Z H O:=w.sub (λa h=>by simp[h]) (by have:=w.nd;simp[X0] at this;exact this.2.1.1)
theorem WF.left(w:WF Z H (A++B)):WF Z H A:=w.sub (λa h=>by simp[h]) (X0.mp w.nd).1
theorem WF.right(w:WF Z H (A++B)):WF Z H B:=w.sub (λa h=>by simp[h]) (X0.mp w.nd).2.1
theorem Go.frame(w:WF Z H (A++O++B))(g:Go Z H O Z' H' O'):Go Z H (A++O++B) Z' H' (A++O'++B):=by
 have nd:=w.nd;simp only[X0,N1] at nd;have new:∀ a∈O',a∉A/\a∉B:=λa h=>by
  rcases g.sub a h with q | q
  ·exact⟨λz=>nd.1.2.2 a z a q rfl,λz=>nd.2.2 a (.inr q) a z rfl⟩
  ·exact⟨λz=>w.od a (by simp[z]) q,λz=>w.od a (by simp[z]) q⟩
 have keep:∀ a,a∈A \/ a∈B->a∉O:=λa h z=>by
  rcases h with h | h
  ·exact nd.1.2.2 a h a z rfl
  ·exact nd.2.2 a (.inr z) a h rfl
 refine⟨⟨?_,λa h z=>?_,λa h=>?_,g.wf.zd⟩,g.zz,λa h n=>?_,λa z=>?_,λa h=>?_,g.dm⟩
 ·simp only[X0,N1];exact⟨⟨nd.1.1,g.wf.nd,λa h b k e=>(new b k).1 (e▸h)⟩,nd.2.1,λa h b k e=>by
   rcases h with h | h
   ·exact nd.2.2 a (.inl h) b k e
   ·exact(new a h).2 (e▸k)⟩
 ·simp only[N1] at h;rcases h with(h | h) | h
  ·rcases g.zn a z with q | q | q
   ·exact w.nz a (by simp[h]) q
   ·exact keep a (.inl h) q
   ·exact w.od a (by simp[h]) q
  ·exact g.wf.nz a h z
  ·rcases g.zn a z with q | q | q
   ·exact w.nz a (by simp[h]) q
   ·exact keep a (.inr h) q
   ·exact w.od a (by simp[h]) q
 ·simp only[N1] at h;rcases h with(h | h) | h
  ·exact g.dm a (w.od a (by simp[h]))
  ·exact g.wf.od a h
  ·exact g.dm a (w.od a (by simp[h]))
 ·simp only[N1,not_or] at n;exact g.fr a h n.1.2
 ·rcases g.zn a z with q | q | q
  ·exact .inl q
  ·exact .inr (.inl (by simp[q]))
  ·exact .inr (.inr q)
 ·simp only[N1] at h ⊢;rcases h with(h | h) | h
  ·exact .inl (.inl (.inl h))
  ·rcases g.sub a h with q | q
   ·exact .inl (.inl (.inr q))
   ·exact .inr q
  ·exact .inl (.inr h)
theorem Go.keepA(w:WF Z H (A++O++B))(g:Go Z H O Z' H' O'):(∀ a∈A,H' a=H a)/\∀ a∈B,H' a=H a:=by
 have nd:=w.nd;simp only[X0,N1] at nd;exact⟨λa h=>g.fr a (w.od a (by simp[h])) λz=>nd.1.2.2 a h a z rfl,λa h=>g.fr a (w.od a (by simp[h])) λz=>nd.2.2 a (.inr z) a h rfl⟩
theorem Go.drop(g:Go Z H O Z' H' O')(h:∀ a∈O'',a∈O')(n:O''.Nodup):Go Z H O Z' H' O'':=⟨g.wf.sub h n,g.zz,g.fr,g.zn,λa q=>g.sub a (h a q),g.dm⟩
theorem Go.dropL(g:Go Z H O Z' H' (A++B)):Go Z H O Z' H' B:=g.drop (λa h=>by simp[h]) (X0.mp g.wf.nd).2.1
theorem Go.dropR(g:Go Z H O Z' H' (A++B)):Go Z H O Z' H' A:=g.drop (λa h=>by simp[h]) (X0.mp g.wf.nd).1
theorem Go.freeze(w:WF Z H O):Go Z H O (λa=>Z a \/ a∈O) H [] :=
 ⟨⟨List.nodup_nil,λa h=>(nomatch h),λa h=>(nomatch h),λa h=>h.elim (w.zd a) (w.od a)⟩,λa z=>.inl z,λ_ _ _=>rfl,λa z=>z.elim .inl λq=>.inr (.inl q),λa h=>(nomatch h),λ_ h=>h⟩
theorem Go.newF  (w:WF Z H O) (b:H p=none):Go Z H O (λa=>Z a \/ a=p) (upd H p o) O:=by
 have ne:∀ a,H a≠none->a≠p:=λa h e=>h (e▸b);refine⟨⟨w.nd,λa h z=>z.elim (w.nz a h) (ne a (w.od a h)),λa h=>?_,λa z=>?_⟩,λa z=>.inl z,λa h _=>jm (ne a h),λa z=>z.elim .inl λe=>.inr (.inr (e▸b)),λa h=>.inl h,λa h=>?_⟩
 ·rw[jm (ne a (w.od a h))];exact w.od a h
 ·by_cases e:a=p
  ·rw[e,jD];exact λh=>nomatch h
  ·rw[jm e];exact w.zd a (z.resolve_right e)
 ·rw[jm (ne a h)];exact h
theorem Go.newO  (w:WF Z H O) (b:H p=none):Go Z H O Z (upd H p o) (p::O):=by
 have ne:∀ a,H a≠none->a≠p:=λa h e=>h (e▸b);refine⟨⟨List.nodup_cons.mpr ⟨λh=>w.od p h b,w.nd⟩,λa h z=>?_,λa h=>?_,λa z=>?_⟩,λa z=>z,λa h _=>jm (ne a h),λa z=>.inl z,λa h=>?_,λa h=>?_⟩
 ·rcases M4.mp h with e | e
  ·exact w.zd a z (e▸b)
  ·exact w.nz a e z
 ·rcases M4.mp h with e | e
  ·rw[e,jD];exact λh=>nomatch h
  ·rw[jm (ne a (w.od a e))];exact w.od a e
 ·rw[jm (ne a (w.zd a z))];exact w.zd a z
 ·rcases M4.mp h with e | e
  ·exact .inr (e▸b)
  ·exact .inl e
 ·rw[jm (ne a h)];exact h
theorem Go.put  (w:WF Z H O) (c:p∈O):Go Z H O Z (upd H p o) O:=by
 have b:∀ a,upd H p o a=none->a≠p/\H a=none:=λa h=>by
  by_cases e:a=p
  ·rw[e,jD] at h;cases h
  ·rw[jm e] at h;exact⟨e,h⟩
 exact⟨⟨w.nd,w.nz,λa h z=>w.od a h (b a z).2,λa z e=>w.zd a z (b a e).2⟩,λa z=>z,λa h n=>jm λe=>n (e▸c),λa z=>.inl z,λa h=>.inl h,λa h z=>h (b a z).2⟩
abbrev Rh:=List (Option D)
def Slots(R:RC)(Z:Zn)(H:Hp):Rh->St->List Addr->Prop
 | [],σ,O=>σ=[]/\O=[]
 | none::ρ,σ,O=>∃ s σ',σ=s::σ'/\Slots R Z H ρ σ' O
 | some d::ρ,σ,O=>∃ v σ' O1 O2,σ=some v::σ'/\O=O1++O2/\Rep R Z H d v O1/\Slots R Z H ρ σ' O2
theorem Slots.frame(hz:∀ a,Z a->Z' a)(c:∀ a,Z a->H' a=H a):∀{ρ:Rh}{σ:St}{O:List Addr},Slots R Z H ρ σ O->(∀ a∈O,H' a=H a)->Slots R Z' H' ρ σ O
 | [],_,_,h,_=>h
 | none::ρ,_,_,h,b=>by
  obtain⟨s,f,e,r⟩:=h;exact⟨s,f,e,Slots.frame hz c r b⟩
 | some d::ρ,_,_,h,b=>by
  obtain⟨v,f,O1,O2,e,rfl,i,j⟩:=h;exact⟨v,f,O1,O2,e,rfl,i.frame hz c λa g=>b a (List.mem_append_left _ g),Slots.frame hz c j λa g=>b a (U4 _ g)⟩
theorem Slots.length:∀{ρ:Rh}{σ:St}{O:List Addr},Slots R Z H ρ σ O->σ.length=ρ.length
 | [],_,_,h=>by rw[h.1];rfl
 | none::ρ,_,_,h=>by obtain⟨s,a,rfl,r⟩:=h;rw[M0,M0,Slots.length r]
 | some d::ρ,_,_,h=>by obtain⟨v,a,O1,O2,rfl,rfl,c,b⟩:=h;rw[M0,M0,Slots.length b]
theorem Slots.put:∀{ρ:Rh}{σ:St}{O:List Addr}{i:Nat},Slots R Z H ρ σ O->i < ρ.length->∃ A P B,O=A++P++B /\
  (∀ d,ρ[i]?=some (some d)->∃ v,σ[i]?=some (some v)/\Rep R Z H d v P) /\
  (∀{Z':Zn}{H':Hp}{d':D}{v':V}{P':List Addr},Rep R Z' H' d' v' P'->(∀ a,Z a->Z' a)->(∀ a,Z a->H' a=H a)->(∀ a∈A,H' a=H a)->(∀ a∈B,H' a=H a)->Slots R Z' H' (ρ.set i (some d')) (σ.set i (some v')) (A++P'++B)) /\
  Slots R Z H (ρ.set i none) σ (A++B)
 | [],_,_,_,_,j=>absurd j (Nat.not_lt_zero _)
 | none::ρ,_,_,0,h,j=>by
  obtain⟨s,b,rfl,r⟩:=h;refine⟨[],[],_,rfl,λd e=>by simp at e,λq f g l k=>?_,?_⟩
  ·exact⟨_,b,_,_,rfl,rfl,q,Slots.frame f g r k⟩
  ·exact⟨s,b,rfl,r⟩
 | some c::ρ,_,_,0,h,j=>by
  obtain⟨v,b,O1,O2,rfl,rfl,m,n⟩:=h;refine⟨[],O1,O2,rfl,λd e=>?_,λq f g l k=>?_,?_⟩
  ·have e:c=d:=by simpa using e
   subst e;exact⟨v,rfl,m⟩
  ·exact⟨_,b,_,_,rfl,rfl,q,Slots.frame f g n k⟩
  ·exact⟨_,b,rfl,n⟩
 | none::ρ,_,_,i+1,h,j=>by
  obtain⟨s,b,rfl,r⟩:=h;obtain⟨A,P,B,rfl,o,p,t⟩:=Slots.put (i:=i) r (by simpa using j);refine⟨A,P,B,rfl,λd e=>o d (by simpa using e),λq f g l k=>?_,?_⟩
  ·exact⟨s,_,rfl,p q f g l k⟩
  ·exact⟨s,b,rfl,t⟩
 | some c::ρ,_,_,i+1,h,j=>by
  obtain⟨v,b,O1,O2,rfl,rfl,m,n⟩:=h;obtain⟨A,P,B,rfl,o,p,t⟩:=Slots.put (i:=i) n (by simpa using j);refine⟨O1++A,P,B,by simp,λd e=>o d (by simpa using e),λ{Z' H' d' v' P'} q f g l k=>?_,?_⟩
  ·exact⟨v,_,O1,A++P'++B,rfl,by simp,m.frame f g λa u=>l a (List.mem_append_left _ u),p q f g (λa u=>l a (U4 _ u)) k⟩
  ·exact⟨v,b,O1,A++B,rfl,by simp,m,t⟩
theorem yZ  : ∀{l:List α}{i:Nat}{x:α},l[i]?=some x->l.set i x=l
 | [],_,_,h=>by simp at h
 | y::l,0,x,h=>by simp at h;subst h;rfl
 | y::l,i+1,x,h=>by rw[List.set_cons_succ,yZ (by simpa using h)]
abbrev FE:=Rh->Option (D×Rh)
abbrev FT':=Rh->Option (Bool×Rh)
abbrev FA:=Rh->Option (List D×Rh)
def DE(R:RC)(te:TE)(f:FE):Prop:=∀{σ:St}{ρ ρ':Rh}{Z:Zn}{H:Hp}{O:List Addr}{d:D},WF Z H O->Slots R Z H ρ σ O->f ρ=some (d,ρ') ->
 ∀{Q:VK},(∀{v:V}{Z':Zn}{H':Hp}{P O':List Addr},Go Z H O Z' H' (P++O')->Rep R Z' H' d v P->Slots R Z' H' ρ' σ O'->Q v H')->te σ H Q
def DT(R:RC)(tt:TT)(f:FT'):Prop:=∀{σ:St}{ρ ρ':Rh}{Z:Zn}{H:Hp}{O:List Addr}{b:Bool},WF Z H O->Slots R Z H ρ σ O->f ρ=some (b,ρ') ->
 ∀{Q:Bool->Hp->Prop},(∀{Z':Zn}{H':Hp}{O':List Addr},Go Z H O Z' H' O'->Slots R Z' H' ρ' σ O'->Q b H')->tt σ H Q
def DA(R:RC)(ta:TA)(f:FA):Prop:=∀{σ:St}{ρ ρ':Rh}{Z:Zn}{H:Hp}{O:List Addr}{ds:List D},WF Z H O->Slots R Z H ρ σ O->f ρ=some (ds,ρ') ->
 ∀{Q:List V->Hp->Prop},(∀{vs:List V}{Z':Zn}{H':Hp}{P O':List Addr},Go Z H O Z' H' (P++O')->Reps R Z' H' ds vs P->Slots R Z' H' ρ' σ O'->Q vs H')->ta σ H Q
def DC(R:RC)(r:List V->Hp->VK->Prop)(g:List D->Option D):Prop:=∀{Z:Zn}{H:Hp}{xs:List D}{d:D}{vs:List V}{O:List Addr},WF Z H O->Reps R Z H xs vs O->g xs=some d ->
 ∀{Q:VK},(∀{w:V}{Z':Zn}{H':Hp}{P:List Addr},Go Z H O Z' H' P->Rep R Z' H' d w P->Q w H')->r vs H Q
inductive Out where
 | nx (ρ:Rh) | rt (d:D) (ρ:Rh) | bk (ρ:Rh) | ct (ρ:Rh)
abbrev FS:=Rh->Option Out
def Keep(pm:List Nat)(σ σ':St):Prop:=∀ i∈pm,σ'[i]?=σ[i]?
def OutOk(R:RC)(pm:List Nat)(Z:Zn)(H:Hp)(O:List Addr)(σ:St)(D':Ends):Out->Prop
 | .nx ρ'=>∀{σ':St}{Z':Zn}{H':Hp}{O':List Addr},Go Z H O Z' H' O'->Slots R Z' H' ρ' σ' O'->Keep pm σ σ'->D'.nx σ' H'
 | .bk ρ'=>∀{σ':St}{Z':Zn}{H':Hp}{O':List Addr},Go Z H O Z' H' O'->Slots R Z' H' ρ' σ' O'->Keep pm σ σ'->D'.bk σ' H'
 | .ct ρ'=>∀{σ':St}{Z':Zn}{H':Hp}{O':List Addr},Go Z H O Z' H' O'->Slots R Z' H' ρ' σ' O'->Keep pm σ σ'->D'.ct σ' H'
 | .rt d ρ'=>∀{v:V}{σ':St}{Z':Zn}{H':Hp}{P O':List Addr},Go Z H O Z' H' (P++O')->Rep R Z' H' d v P->Slots R Z' H' ρ' σ' O'->Keep pm σ σ'->D'.rt v H'
def DS(R:RC)(pm:List Nat)(ts:TS)(f:FS):Prop:=∀{σ:St}{ρ:Rh}{Z:Zn}{H:Hp}{O:List Addr}{o:Out},WF Z H O->Slots R Z H ρ σ O->f ρ=some o->∀{D':Ends},OutOk R pm Z H O σ D' o->ts D' σ H
def DG(R:RC)(pm:List Nat)(tg:TG)(f:D->Rh->Option Rh):Prop:=∀{σ:St}{ρ ρ':Rh}{Z:Zn}{H:Hp}{O P:List Addr}{d:D}{v:V},WF Z H (P++O)->Rep R Z H d v P->Slots R Z H ρ σ O->f d ρ=some ρ' ->
 ∀{Q:St->Hp->Prop},(∀{σ':St}{Z':Zn}{H':Hp}{O':List Addr},Go Z H (P++O) Z' H' O'->Slots R Z' H' ρ' σ' O'->Keep pm σ σ'->Q σ' H')->tg v σ H Q
theorem Keep.refl(pm:List Nat)(σ:St):Keep pm σ σ:=λ_ _=>rfl
theorem Keep.trans  (h:Keep pm σ σ') (k:Keep pm σ' σ''):Keep pm σ σ'':=λi a=>(k i a).trans (h i a)
theorem Keep.set  (h:i∉pm):Keep pm σ (σ.set i x):=λj a=>by
 have ne:i≠j:=λe=>h (by rw[e];exact a);rw[List.getElem?_set,if_neg ne]
def dMv(i:Nat):FE:=λρ=>match ρ[i]? with
 | some (some d)=>some (d,ρ.set i none)
 | _=>none
def dC(d:D):FE:=λρ=>some (d,ρ)
theorem jmo  : DE R (J5 i) (dMv i):=by
 intro σ ρ p Z H O d w h e Q k;unfold dMv at e;split at e
 ·rename_i c j;have l:i < ρ.length:=(L8.mp j).1;obtain⟨A,P,B,rfl,m,s,n⟩:=h.put l;obtain⟨v,o,r⟩:=m c j;cases e;refine⟨v,o,k (P:=P) ((Go.refl w).drop (λa q=>?_) ?_) r n⟩
  ·simp at q ⊢;rcases q with q | q | q<;>simp[q]
  ·have nd:=w.nd;simp only[X0,N1] at nd ⊢;exact⟨nd.1.2.1,⟨nd.1.1,nd.2.1,λa f b g=>nd.2.2 a (.inl f) b g⟩,λa f b g e=>g.elim (λq=>nd.1.2.2 b q a f e.symm) λq=>nd.2.2 a (.inr f) b q e⟩
 ·cases e
theorem ji8  (c:Go Z H O Z' H' (P1++O1)) (b:Go Z' H' O1 Z'' H'' (P2++O2)):Go Z H O Z'' H'' (P1++(P2++O2))/\(∀ a,Z' a->Z'' a)/\(∀ a,Z' a->H'' a=H' a)/\∀ a∈P1,H'' a=H' a:=by
 have w:WF Z' H' (P1++O1++[]):=by simpa using c.wf
 have f:=b.frame w;refine⟨c.trans (by simpa using f),b.zz,λa z=>b.zH c.wf.right a z,(Go.keepA w b).1⟩
def jjJ:FA:=λρ=>some ([],ρ)
def uR(fa:FE)(fr:FA):FA:=λρ=>match fa ρ with
 | none=>none
 | some (x,ρ1)=>match fr ρ1 with
  | none=>none
  | some (xs,ρ2)=>some (x::xs,ρ2)
theorem jj2:DA R jar jjJ:=by
 intro σ ρ a Z H O d w h e Q k;cases e;exact k (P:=[]) (Go.refl w) Reps.empty h
theorem jhx  (b:DE R ta fa) (c:DA R tr fr):DA R (Vo ta tr) (uR fa fr):=by
 intro σ ρ r Z H O d w h e Q k;unfold uR at e;cases e1:fa ρ with
 | none=>rw[e1] at e;cases e
 | some p =>
  obtain⟨x,f⟩:=p;rw[e1] at e;dsimp only at e;cases e2:fr f with
  | none=>rw[e2] at e;cases e
  | some p =>
   obtain⟨s,t⟩:=p;rw[e2] at e;cases e;refine b w h e1 λ{v u y P1 O1} a g i=>?_;refine c a.wf.right i e2 λ{z A B P2 O2} j l m=>?_;obtain⟨n,zz,o,q⟩:=ji8 a j;exact k (P:=P1++P2) (by simpa using n) (.cons (g.frame zz o q) l) m
def dCB(g:List D->Option D)(fa:FA):FE:=λρ=>match fa ρ with
 | none=>none
 | some (xs,ρ1)=>match g xs with
  | none=>none
  | some z=>some (z,ρ1)
theorem jmW  (i:DC R r g) (j:DA R ta fa):DE R (tCB r ta) (dCB g fa):=by
 intro σ ρ t Z H O d w h e Q k;unfold dCB at e;cases e1:fa ρ with
 | none=>rw[e1] at e;cases e
 | some p =>
  obtain⟨x,u⟩:=p;rw[e1] at e;dsimp only at e;cases e3:g x with
  | none=>rw[e3] at e;cases e
  | some z =>
   rw[e3] at e;cases e;refine j w h e1 λ{v l m P1 O1} b n o=>?_;refine i b.wf.left n e3 λ{y Z3 A P3} c q=>?_;have f:WF l m ([]++P1++O1):=by simpa using b.wf
   have s:=c.frame f;refine k (P:=P3) (b.trans (by simpa using s)) q (o.frame c.zz (λa z=>c.zH b.wf.left a z) (Go.keepA f c).2)
theorem Rep.tupNew  (w:WF Z H O) (b:H p=none) (r:Reps R Z H l vs O):Rep R (λa=>Z a \/ a=p) (upd H p (.tup vs)) (.tup l) (.ref p) O:=by
 have ne:∀ a,H a≠none->a≠p:=λa h e=>h (e▸b);rw[Rep];exact⟨p,vs,rfl,.inl ⟨.inr rfl,.inl jD⟩,r.frame (λa z=>.inl z) (λa z=>jm (ne a (w.zd a z))) λa h=>jm (ne a (w.od a h))⟩
theorem Rep.lstNew  (w:WF Z H O) (b:H p=none) (r:Reps R Z H l vs O):Rep R Z (upd H p (.lst vs)) (.lst true l) (.ref p) (p::O):=by
 have ne:∀ a,H a≠none->a≠p:=λa h e=>h (e▸b);rw[Rep];exact⟨p,vs,O,rfl,r.frame (λa z=>z) (λa z=>jm (ne a (w.zd a z))) λa h=>jm (ne a (w.od a h)),jD,rfl⟩
theorem Rep.bl_of  (r:Rep R Z H (.bl b) v O):v=.bl b/\O=[]:=by rw[Rep] at r;exact r
theorem Rep.bl_mk  : Rep R Z H (.bl b) (.bl b) []:=by rw[Rep];exact⟨rfl,rfl⟩
theorem OutOk.pre  (g:Go Z H O Z1 H1 O1) (kp:Keep pm σ σ1) (k:OutOk R pm Z H O σ D' o):OutOk R pm Z1 H1 O1 σ1 D' o:=by
 cases o with
 | nx ρ=>exact λa b c=>k (g.trans a) b (kp.trans c)
 | bk ρ=>exact λa b c=>k (g.trans a) b (kp.trans c)
 | ct ρ=>exact λa b c=>k (g.trans a) b (kp.trans c)
 | rt d ρ=>exact λa e b c=>k (g.trans a) e b (kp.trans c)
def yB:FS:=λρ=>some (.nx ρ)
def jR(f g:FS):FS:=λρ=>match f ρ with
 | some (.nx ρ1)=>g ρ1
 | o=>o
theorem jhD:DS R pm jiB yB:=by
 intro σ ρ Z H O o w h e a k;cases e;exact k (Go.refl w) h (Keep.refl _ _)
theorem jkL  (c:DS R pm t f) (i:DS R pm u g):DS R pm (jk7 t u) (jR f g):=by
 intro σ ρ Z H O o w h e D' k;unfold jR at e;cases e1:f ρ with
 | none=>rw[e1] at e;cases e
 | some j =>
  rw[e1] at e;refine c w h e1 (D':={ D' with nx:=u D' }) ?_;cases j with
  | nx a=>exact λ{n p q r} b l m=>i b.wf l e (k.pre b m)
  | bk a=>cases e;exact k
  | ct a=>cases e;exact k
  | rt d a=>cases e;exact k
def jcS(fa:FE):FS:=λρ=>match fa ρ with
 | none=>none
 | some (_,ρ1)=>some (.nx ρ1)
theorem jjo  (a:DE R ta fa):DS R pm (zD ta) (jcS fa):=by
 intro σ ρ Z H O o w h e d k;unfold jcS at e;cases e1:fa ρ with
 | none=>rw[e1] at e;cases e
 | some p =>
  obtain⟨x,f⟩:=p;rw[e1] at e;cases e;exact a w h e1 λb g c=>k b.dropL c (Keep.refl _ _)
def km(fa:FE):FS:=λρ=>match fa ρ with
 | none=>none
 | some (x,ρ1)=>some (.rt x ρ1)
theorem jld  (a:DE R ta fa):DS R pm (jlZ ta) (km fa):=by
 intro σ ρ Z H O o w h e f k;unfold km at e;cases e1:fa ρ with
 | none=>rw[e1] at e;cases e
 | some p =>
  obtain⟨x,g⟩:=p;rw[e1] at e;cases e;exact a w h e1 λb c d=>k b c d (Keep.refl _ _)
def sIf(ft:FT')(f g:FS):FS:=λρ=>match ft ρ with
 | none=>none
 | some (b,ρ1)=>bif b then f ρ1 else g ρ1
theorem jmP  (d:DT R tt ft) (i:DS R pm t f) (j:DS R pm u g):DS R pm (jjY tt t u) (sIf ft f g):=by
 intro σ ρ Z H O o w h e l k;unfold sIf at e;cases e1:ft ρ with
 | none=>rw[e1] at e;cases e
 | some p =>
  obtain⟨c,m⟩:=p;rw[e1] at e;dsimp only at e;refine d w h e1 λ{n q O1} a b=>?_;cases c with
  | true=>exact jfu (i a.wf b e (k.pre a (Keep.refl _ _)))
  | false=>exact jfN (j a.wf b e (k.pre a (Keep.refl _ _)))
def jk(pm:List Nat)(i:Nat):D->Rh->Option Rh:=λd ρ=>bif decide (i < ρ.length)&&!decide (i∈pm) then some (ρ.set i (some d)) else none
theorem jd2  : DG R pm (zm i) (jk pm i):=by
 intro σ ρ m Z H O P d v w r h e Q k;unfold jk at e;by_cases f:i < ρ.length
 ·by_cases g:i∈pm
  ·rw[X2 g] at e;simp at e
  ·rw[X2 f,X4 g] at e;cases e;obtain⟨A,n,B,rfl,o,l,p⟩:=h.put f;refine k (O':=A++P++B) ((Go.refl w).drop (λa q=>?_) ?_) (l r (λ_ z=>z) (λ_ _=>rfl) (λ_ _=>rfl) (λ_ _=>rfl)) (Keep.set g)
   ·simp at q ⊢;rcases q with q | q | q<;>simp[q]
   ·have nd:=w.nd;simp only[X0,N1] at nd ⊢;exact⟨⟨nd.2.1.1.1,nd.1,λa j b c e=>nd.2.2 b c a (.inl (.inl j)) e.symm⟩,nd.2.1.2.1,λa j b c e=>j.elim (λq=>nd.2.1.2.2 a (.inl q) b c e) λq=>nd.2.2 a q b (.inr c) e⟩
 ·rw[X4 f] at e;simp at e
def yz(fa:FE)(g:D->Rh->Option Rh):FS:=λρ=>match fa ρ with
 | none=>none
 | some (x,ρ1)=>match g x ρ1 with
  | none=>none
  | some ρ2=>some (.nx ρ2)
theorem jeM  (b:DE R ta fa) (c:DG R pm tg g):DS R pm (jfp ta tg) (yz fa g):=by
 intro σ ρ Z H O o w h e n k;unfold yz at e;cases e1:fa ρ with
 | none=>rw[e1] at e;cases e
 | some p =>
  obtain⟨x,d⟩:=p;rw[e1] at e;dsimp only at e;cases e2:g x d with
  | none=>rw[e2] at e;cases e
  | some q =>
   rw[e2] at e;cases e;exact b w h e1 λa f i=>c a.wf f i e2 λj l m=>k (Go.trans a j) l m
def DGs(R:RC)(pm:List Nat)(tg:TGs)(f:List D->Rh->Option Rh):Prop:=∀{σ:St}{ρ ρ':Rh}{Z:Zn}{H:Hp}{O P:List Addr}{ds:List D}{vs:List V},WF Z H (P++O)->Reps R Z H ds vs P->Slots R Z H ρ σ O->f ds ρ=some ρ' ->
 ∀{Q:St->Hp->Prop},(∀{σ':St}{Z':Zn}{H':Hp}{O':List Addr},Go Z H (P++O) Z' H' O'->Slots R Z' H' ρ' σ' O'->Keep pm σ σ'->Q σ' H')->tg vs σ H Q
def gN:List D->Rh->Option Rh:=λds ρ=>match ds with
 | []=>some ρ
 | _=>none
def gC(g:D->Rh->Option Rh)(gs:List D->Rh->Option Rh):List D->Rh->Option Rh:=λds ρ=>match ds with
 | []=>none
 | d::r=>match g d ρ with
  | none=>none
  | some ρ1=>gs r ρ1
def gT(n:Nat)(gs:List D->Rh->Option Rh):D->Rh->Option Rh:=λd ρ=>match d with
 | .tup l=>bif decide (l.length=n) then gs l ρ else none
 | _=>none
abbrev PF:=Rh->Option D
abbrev PTf:=Rh->Option Bool
abbrev PAf:=Rh->Option (List D)
mutual
theorem Rep.dom:∀{d:D}{v:V}{O:List Addr},Rep R Z H d v O->∀ a∈O,H a≠none
 | .non,_,_,h,a,ha=>by rw[Rep] at h;rw[h.2] at ha;cases ha
 | .bl _,_,_,h,a,ha=>by rw[Rep] at h;rw[h.2] at ha;cases ha
 | .int _,_,_,h,a,ha=>by rw[Rep] at h;rw[h.2] at ha;cases ha
 | .str _,_,_,h,a,ha=>by rw[Rep] at h;rw[h.2] at ha;cases ha
 | .dead,_,_,h,a,ha=>by rw[Rep] at h;rw[h] at ha;cases ha
 | .tup l,_,_,h,a,ha=>by
  rw[Rep] at h;obtain⟨b,vs,e,t,r⟩:=h;exact Reps.dom r a ha
 | .lst o l,_,_,h,a,ha=>by
  rw[Rep] at h;obtain⟨b,vs,O',e,r,h⟩:=h;cases o with
  | true =>
   obtain⟨h1,rfl⟩:=h;rcases M4.mp ha with e | e
   ·rw[e,h1];exact λz=>(nomatch z)
   ·exact Reps.dom r a e
  | false=>rw[h.2.2] at ha;cases ha
 | .dK o ks l,_,_,h,a,ha=>by
  rw[Rep] at h;obtain⟨b,vs,O',e,r,hl,hd,h⟩:=h;cases o with
  | true =>
   have h:=(show _=_ from h);subst h;rcases M4.mp ha with e | e
   ·rw[e,hd];exact λz=>(nomatch z)
   ·exact Reps.dom r a e
  | false=>rw[h.2.2] at ha;cases ha
 | .dT o ks l,_,_,h,a,ha=>by
  rw[Rep] at h;obtain⟨b,vs,O',e,r,hl,hd,h⟩:=h;cases o with
  | true =>
   have h:=(show _=_ from h);subst h;rcases M4.mp ha with e | e
   ·rw[e,hd];exact λz=>(nomatch z)
   ·exact Reps.dom r a e
  | false=>rw[h.2.2] at ha;cases ha
 | .ins o c ns l,_,_,h,a,ha=>by
  rw[Rep] at h;obtain⟨b,dx,vs,O',e,r,hl,hd,h⟩:=h;cases o with
  | true =>
   have h:=(show _=_ from h);subst h;rcases M4.mp ha with e | e
   ·rw[e,hd];exact λz=>(nomatch z)
   ·exact Reps.dom r a e
  | false=>rw[h.2.2] at ha;cases ha
theorem Reps.dom:∀{l:List D}{vs:List V}{O:List Addr},Reps R Z H l vs O->∀ a∈O,H a≠none
 | [],_,_,h,a,ha=>by rw[Reps] at h;rw[h.2] at ha;cases ha
 | d::l,_,_,h,a,ha=>by
  rw[Reps] at h;obtain⟨v,vs,O1,O2,e,rfl,r1,r2⟩:=h;rcases N1.mp ha with q | q
  ·exact Rep.dom r1 a q
  ·exact Reps.dom r2 a q
end
theorem Slots.dom:∀{ρ:Rh}{σ:St}{O:List Addr},Slots R Z H ρ σ O->∀ a∈O,H a≠none
 | [],_,_,h,a,b=>by rw[h.2] at b;cases b
 | none::ρ,_,_,h,a,b=>by obtain⟨s,c,rfl,r⟩:=h;exact Slots.dom r a b
 | some d::ρ,_,_,h,a,b=>by
  obtain⟨v,c,O1,O2,rfl,rfl,e,f⟩:=h;rcases N1.mp b with q | q
  ·exact e.dom a q
  ·exact Slots.dom f a q
abbrev Zd(Z:Zn)(H:Hp):Prop:=∀ a,Z a->H a≠none
theorem wf0(z:Zd Z H):WF Z H []:=⟨List.nodup_nil,λa h=>(nomatch h),λa h=>(nomatch h),z⟩
theorem Go.id(z:Zd Z H):Go Z H [] Z H []:=Go.refl (wf0 z)
theorem Go.same  (g:Go Z H [] Z' H' P):∀ a,H a≠none->H' a=H a:=λa h=>g.fr a h (λz=>(nomatch z))
theorem Go.rep  (z:Zd Z H) (g:Go Z H [] Z' H' P) (r:Rep R Z H d v O):Rep R Z' H' d v O:=r.frame g.zz (λa h=>g.same a (z a h)) λa h=>g.same a (r.dom a h)
theorem Go.reps  (z:Zd Z H) (g:Go Z H [] Z' H' P) (r:Reps R Z H l vs O):Reps R Z' H' l vs O:=r.frame g.zz (λa h=>g.same a (z a h)) λa h=>g.same a (r.dom a h)
theorem Go.slots  (z:Zd Z H) (g:Go Z H [] Z' H' P) (r:Slots R Z H ρ σ O):Slots R Z' H' ρ σ O:=r.frame g.zz (λa h=>g.same a (z a h)) λa h=>g.same a (r.dom a h)
theorem Go.pair  (g:Go Z H [] Z' H' P) (k:Go Z' H' [] Z'' H'' P2):Go Z H [] Z'' H'' (P++P2):=by
 have w:WF Z' H' (P++[]++[]):=by simpa using g.wf
 have f:=k.frame w;exact g.trans (by simpa using f)
theorem Go.to0  (g:Go Z H O Z' H' P):Go Z H O Z' H' []:=g.drop (λa h=>(nomatch h)) List.nodup_nil
theorem Go.widen  (w:WF Z H O) (g:Go Z H [] Z' H' P):Go Z H O Z' H' (P++O):=by
 have f:=g.frame (A:=[]) (B:=O) (by simpa using w);simpa using f
def PP(R:RC)(te:TE)(p:PF):Prop:=∀{σ:St}{ρ:Rh}{Z:Zn}{H:Hp}{O:List Addr}{d:D},Zd Z H->Slots R Z H ρ σ O->p ρ=some d ->
 ∀{Q:VK},(∀{v:V}{Z':Zn}{H':Hp}{P:List Addr},Go Z H [] Z' H' P->Rep R Z' H' d v P->Q v H')->te σ H Q
def PB(R:RC)(te:TE)(p:PF):Prop:=∀{σ:St}{ρ:Rh}{Z:Zn}{H:Hp}{O:List Addr}{d:D},Zd Z H->Slots R Z H ρ σ O->p ρ=some d ->
 ∀{Q:VK},(∀{v:V}{Z':Zn}{H':Hp}{P:List Addr},Go Z H [] Z' H' []->Rep R Z' H' d v P->Q v H')->te σ H Q
def PPs(R:RC)(ta:TA)(p:PAf):Prop:=∀{σ:St}{ρ:Rh}{Z:Zn}{H:Hp}{O:List Addr}{ds:List D},Zd Z H->Slots R Z H ρ σ O->p ρ=some ds ->
 ∀{Q:List V->Hp->Prop},(∀{vs:List V}{Z':Zn}{H':Hp}{P:List Addr},Go Z H [] Z' H' P->Reps R Z' H' ds vs P->Q vs H')->ta σ H Q
def PBs(R:RC)(ta:TA)(p:PAf):Prop:=∀{σ:St}{ρ:Rh}{Z:Zn}{H:Hp}{O:List Addr}{ds:List D},Zd Z H->Slots R Z H ρ σ O->p ρ=some ds ->
 ∀{Q:List V->Hp->Prop},(∀{vs:List V}{Z':Zn}{H':Hp}{P:List Addr},Go Z H [] Z' H' []->Reps R Z' H' ds vs P->Q vs H')->ta σ H Q
def PTt(R:RC)(tt:TT)(p:PTf):Prop:=∀{σ:St}{ρ:Rh}{Z:Zn}{H:Hp}{O:List Addr}{b:Bool},Zd Z H->Slots R Z H ρ σ O->p ρ=some b ->
 ∀{Q:Bool->Hp->Prop},(∀{Z':Zn}{H':Hp},Go Z H [] Z' H' []->Q b H')->tt σ H Q
theorem PP.b  (h:PP R te p):PB R te p:=λz s e _ k=>h z s e λg r=>k g.to0 r
theorem PPs.b  (h:PPs R te p):PBs R te p:=λz s e _ k=>h z s e λg r=>k g.to0 r
def pF(p:PF):PF:=λρ=>match p ρ with
 | some d=>bif frz d then some d else none
 | none=>none
theorem PB.f  (h:PB R te p):PP R te (pF p):=by
 intro σ ρ Z H O d z s e Q k;unfold pF at e;cases e1:p ρ with
 | none=>rw[e1] at e;cases e
 | some c =>
  rw[e1] at e;dsimp only at e;cases hf:frz c with
  | false=>rw[hf] at e;cases e
  | true =>
   rw[hf] at e;cases e;exact h z s e1 λg r=>by
    cases r.nil hf;exact k g r
def dP(p:PF):FE:=λρ=>match p ρ with
 | some d=>some (d,ρ)
 | none=>none
def dPT(p:PTf):FT':=λρ=>match p ρ with
 | some d=>some (d,ρ)
 | none=>none
theorem PP.d  (h:PP R te p):DE R te (dP p):=by
 intro σ ρ a Z H O d w s e Q k;unfold dP at e;cases e1:p ρ with
 | none=>rw[e1] at e;cases e
 | some c =>
  rw[e1] at e;cases e;exact h w.zd s e1 λg r=>k (g.widen w) r (g.slots w.zd s)
theorem PTt.d  (h:PTt R te p):DT R te (dPT p):=by
 intro σ ρ a Z H O d w s e Q k;unfold dPT at e;cases e1:p ρ with
 | none=>rw[e1] at e;cases e
 | some c =>
  rw[e1] at e;cases e;exact h w.zd s e1 λg=>k (by simpa using g.widen w) (g.slots w.zd s)
def pV(i:Nat):PF:=λρ=>match ρ[i]? with
 | some (some d)=>some d
 | _=>none
def pC(d:D):PF:=λ_=>some d
theorem jla  : PB R (J5 i) (pV i):=by
 intro σ ρ Z H O d z s e Q k;unfold pV at e;split at e
 ·rename_i c a;cases e;obtain⟨A,P,B,rfl,b,_⟩:=s.put (L8.mp a).1;obtain⟨v,f,r⟩:=b d a;exact⟨v,f,k (Go.id z) r⟩
 ·cases e
theorem jlS  (a:∀(Z:Zn) (H:Hp),Rep R Z H d v []):PP R (tC v) (pC d):=by
 intro σ ρ Z H O b z s e Q k;cases e;exact k (Go.id z) (a Z H)
theorem Rep.int_mk  : Rep R Z H (.int i) (.int i) []:=by rw[Rep];exact⟨rfl,rfl⟩
theorem Rep.str_mk  : Rep R Z H (.str s) (.str (S s)) []:=by rw[Rep];exact⟨rfl,rfl⟩
theorem Rep.non_mk:Rep R Z H .non .non []:=by rw[Rep];exact⟨rfl,rfl⟩
theorem Rep.int_of  (r:Rep R Z H (.int i) v O):v=.int i/\O=[]:=by rw[Rep] at r;exact r
theorem Rep.str_of  (r:Rep R Z H (.str s) v O):v=.str (S s)/\O=[]:=by rw[Rep] at r;exact r
theorem Rep.non_of  (r:Rep R Z H .non v O):v=.non/\O=[]:=by rw[Rep] at r;exact r
def BO(R:RC)(r:R2)(g:D->D->Option D):Prop:=∀{Z:Zn}{H:Hp}{x y d:D}{v u:V}{O1 O2:List Addr},Zd Z H->Rep R Z H x v O1->Rep R Z H y u O2->g x y=some d ->
 ∀{Q:VK},(∀{w:V}{Z':Zn}{H':Hp}{P:List Addr},Go Z H [] Z' H' P->Rep R Z' H' d w P->Q w H')->r v u H Q
def BO'(R:RC)(r:R2)(g:D->D->Option D):Prop:=∀{Z:Zn}{H:Hp}{x y d:D}{v u:V}{O1 O2:List Addr},Zd Z H->Rep R Z H x v O1->Rep R Z H y u O2->g x y=some d ->
 ∀{Q:VK},(∀{w:V}{P:List Addr},Rep R Z H d w P->Q w H)->r v u H Q
def BU(R:RC)(r:V->Hp->VK->Prop)(g:D->Option D):Prop:=∀{Z:Zn}{H:Hp}{x d:D}{v:V}{O:List Addr},Zd Z H->Rep R Z H x v O->g x=some d ->
 ∀{Q:VK},(∀{w:V}{Z':Zn}{H':Hp}{P:List Addr},Go Z H [] Z' H' P->Rep R Z' H' d w P->Q w H')->r v H Q
def BC(R:RC)(r:List V->Hp->VK->Prop)(g:List D->Option D):Prop:=∀{Z:Zn}{H:Hp}{xs:List D}{d:D}{vs:List V}{O:List Addr},Zd Z H->Reps R Z H xs vs O->g xs=some d ->
 ∀{Q:VK},(∀{w:V}{Z':Zn}{H':Hp}{P:List Addr},Go Z H [] Z' H' P->Rep R Z' H' d w P->Q w H')->r vs H Q
def p2(g:D->D->Option D)(pa pb:PF):PF:=λρ=>match pa ρ with
 | none=>none
 | some x=>match pb ρ with
  | none=>none
  | some y=>g x y
def p1(g:D->Option D)(pa:PF):PF:=λρ=>match pa ρ with
 | none=>none
 | some x=>g x
theorem uG  (c:BO R r g) (f:PB R ta pa) (h:PB R tb pb):PP R (tOp r ta tb) (p2 g pa pb):=by
 intro σ ρ Z H O d z s e Q k;unfold p2 at e;cases e1:pa ρ with
 | none=>rw[e1] at e;cases e
 | some x =>
  rw[e1] at e;dsimp only at e;cases e2:pb ρ with
  | none=>rw[e2] at e;cases e
  | some y =>
   rw[e2] at e;refine f z s e1 λ{v n o P1} a i=>?_;refine h a.wf.zd (a.slots z s) e2 λ{u p q P2} b j=>?_;exact c b.wf.zd (b.rep a.wf.zd i) j e λl m=>k ((a.pair b).pair l) m
theorem jmi  (c:BO' R r g) (f:PB R ta pa) (h:PB R tb pb):PB R (tOp r ta tb) (p2 g pa pb):=by
 intro σ ρ Z H O d z s e Q k;unfold p2 at e;cases e1:pa ρ with
 | none=>rw[e1] at e;cases e
 | some x =>
  rw[e1] at e;dsimp only at e;cases e2:pb ρ with
  | none=>rw[e2] at e;cases e
  | some y =>
   rw[e2] at e;refine f z s e1 λ{v m n P1} a i=>?_;refine h a.wf.zd (a.slots z s) e2 λ{u o p P2} b j=>?_;exact c b.wf.zd (b.rep a.wf.zd i) j e λl=>k (a.pair b) l
theorem jl6  (b:BU R r g) (c:PB R ta pa):PP R (tUn r ta) (p1 g pa):=by
 intro σ ρ Z H O d z s e Q k;unfold p1 at e;cases e1:pa ρ with
 | none=>rw[e1] at e;cases e
 | some x =>
  rw[e1] at e;exact c z s e1 λ{v j l P1} a f=>b a.wf.zd f e λh i=>k (by simpa using a.pair h) i
def pN:PAf:=λ_=>some []
def jc(pa:PF)(pr:PAf):PAf:=λρ=>match pa ρ with
 | none=>none
 | some x=>match pr ρ with
  | none=>none
  | some xs=>some (x::xs)
theorem pps_nil:PPs R jar pN:=by
 intro σ ρ Z H O d z s e Q k;cases e;exact k (Go.id z) Reps.empty
theorem jgp  (c:PP R ta pa) (f:PPs R tr pr):PPs R (Vo ta tr) (jc pa pr):=by
 intro σ ρ Z H O d z s e Q k;unfold jc at e;cases e1:pa ρ with
 | none=>rw[e1] at e;cases e
 | some x =>
  rw[e1] at e;dsimp only at e;cases e2:pr ρ with
  | none=>rw[e2] at e;cases e
  | some i =>
   rw[e2] at e;cases e;refine c z s e1 λ{v j l P1} a g=>?_;refine f a.wf.zd (a.slots z s) e2 λ{u m n P2} b h=>?_;exact k (a.pair b) (.cons (b.rep a.wf.zd g) h)
theorem jed:PBs R jar pN:=pps_nil.b
theorem jfb  (c:PB R ta pa) (f:PBs R tr pr):PBs R (Vo ta tr) (jc pa pr):=by
 intro σ ρ Z H O d z s e Q k;unfold jc at e;cases e1:pa ρ with
 | none=>rw[e1] at e;cases e
 | some x =>
  rw[e1] at e;dsimp only at e;cases e2:pr ρ with
  | none=>rw[e2] at e;cases e
  | some i =>
   rw[e2] at e;cases e;refine c z s e1 λ{v j l P1} a g=>?_;refine f a.wf.zd (a.slots z s) e2 λ{u m n P2} b h=>?_;exact k (a.pair b) (.cons (b.rep a.wf.zd g) h)
def pCB(g:List D->Option D)(pa:PAf):PF:=λρ=>match pa ρ with
 | none=>none
 | some xs=>g xs
theorem jiT  (b:BC R r g) (c:PBs R ta pa):PP R (tCB r ta) (pCB g pa):=by
 intro σ ρ Z H O d z s e Q k;unfold pCB at e;cases e1:pa ρ with
 | none=>rw[e1] at e;cases e
 | some x =>
  rw[e1] at e;exact c z s e1 λ{v j l P1} a f=>b a.wf.zd f e λh i=>k (by simpa using a.pair h) i
def lim(n:Nat):Bool:=decide (n<=100000)
theorem Qe  (h:lim n=true):n<=sizeLine:=N8 (X5 h) (by decide)
theorem wn  (h:lim n=true):n < sizeLine:=E2 (X5 h) (by decide)
def qv(pa:PAf):PF:=pCB (λxs=>bif lim xs.length then some (.tup xs) else none) pa
def qX(pa:PAf):PF:=pCB (λxs=>bif lim xs.length then some (.lst true xs) else none) pa
theorem jjV  (f:PPs R ta pa):PP R (jml ta) (qv pa):=by
 intro σ ρ Z H O d z s e Q k;unfold qv pCB at e;cases e1:pa ρ with
 | none=>rw[e1] at e;cases e
 | some g =>
  rw[e1] at e;dsimp only at e;cases hl:lim g.length with
  | false=>rw[hl] at e;cases e
  | true =>
   rw[hl] at e;cases e;exact f z s e1 λ{v h i P1} a b=>⟨by rw[b.length];exact Qe hl,λp c=>k (a.trans (Go.newF a.wf c)) (Rep.tupNew a.wf c b)⟩
theorem jks  (f:PPs R ta pa):PP R (jmr ta) (qX pa):=by
 intro σ ρ Z H O d z s e Q k;unfold qX pCB at e;cases e1:pa ρ with
 | none=>rw[e1] at e;cases e
 | some g =>
  rw[e1] at e;dsimp only at e;cases hl:lim g.length with
  | false=>rw[hl] at e;cases e
  | true =>
   rw[hl] at e;cases e;exact f z s e1 λ{v h i P1} a b=>⟨by rw[b.length];exact Qe hl,λp c=>k (a.trans (Go.newO a.wf c)) (Rep.lstNew a.wf c b)⟩
def js(pa:PF):PTf:=λρ=>match pa ρ with
 | some (.bl b)=>some b
 | _=>none
def VT(pa pb:PTf):PTf:=λρ=>match pa ρ with
 | none=>none
 | some b=>bif b then pb ρ else some false
def qOr(pa pb:PTf):PTf:=λρ=>match pa ρ with
 | none=>none
 | some b=>bif b then some true else pb ρ
def je9(pa:PTf):PTf:=λρ=>match pa ρ with
 | none=>none
 | some b=>some (!b)
theorem jdq  (a:PB R ta pa):PTt R (jjC ta) (js pa):=by
 intro σ ρ Z H O b z s e Q k;unfold js at e;split at e
 ·rename_i c d;cases e;refine a z s d λ{v h i P1} f g=>?_;obtain⟨rfl,rfl⟩:=g.bl_of;exact⟨b,rfl,k f⟩
 ·cases e
theorem jkT  (d:PTt R ta pa) (f:PTt R tb pb):PTt R (jmC ta tb) (VT pa pb):=by
 intro σ ρ Z H O b z s e Q k;unfold VT at e;cases e1:pa ρ with
 | none=>rw[e1] at e;cases e
 | some c =>
  rw[e1] at e;dsimp only at e;refine d z s e1 λ{h i} a=>?_;cases c with
  | true=>exact jfu (f a.wf.zd (a.slots z s) e λg=>k (a.pair g))
  | false=>cases e;exact jfN (k a)
theorem jm0  (d:PTt R ta pa) (f:PTt R tb pb):PTt R (tOr ta tb) (qOr pa pb):=by
 intro σ ρ Z H O b z s e Q k;unfold qOr at e;cases e1:pa ρ with
 | none=>rw[e1] at e;cases e
 | some c =>
  rw[e1] at e;dsimp only at e;refine d z s e1 λ{h i} a=>?_;cases c with
  | true=>cases e;exact jfu (k a)
  | false=>exact jfN (f a.wf.zd (a.slots z s) e λg=>k (a.pair g))
theorem jjj  (a:PTt R ta pa):PTt R (jmy ta) (je9 pa):=by
 intro σ ρ Z H O b z s e Q k;unfold je9 at e;cases e1:pa ρ with
 | none=>rw[e1] at e;cases e
 | some c =>
  rw[e1] at e;cases e;exact a z s e1 λ{f g} d=>k d
def VX(pa pb:PF):PF:=λρ=>match pa ρ with
 | some (.bl b)=>bif b then pb ρ else some (.bl false)
 | _=>none
def pOr(pa pb:PF):PF:=λρ=>match pa ρ with
 | some (.bl b)=>bif b then some (.bl true) else pb ρ
 | _=>none
def jhk(pa:PF):PF:=λρ=>match pa ρ with
 | some (.bl b)=>some (.bl (!b))
 | _=>none
theorem jlb  (b:PB R ta pa) (f:PP R tb pb):PP R (jjb ta tb) (VX pa pb):=by
 intro σ ρ Z H O d z s e Q k;unfold VX at e;split at e
 ·rename_i c g;refine b z s g λ{v l m P1} a h=>?_;obtain⟨rfl,rfl⟩:=h.bl_of;refine⟨c,rfl,?_⟩;cases c with
  | true=>exact jfu (f a.wf.zd (a.slots z s) e λi j=>k (by simpa using a.pair i) j)
  | false=>cases e;exact jfN (k a .bl_mk)
 ·cases e
theorem jmE  (b:PB R ta pa) (f:PP R tb pb):PP R (jl1 ta tb) (pOr pa pb):=by
 intro σ ρ Z H O d z s e Q k;unfold pOr at e;split at e
 ·rename_i c g;refine b z s g λ{v l m P1} a h=>?_;obtain⟨rfl,rfl⟩:=h.bl_of;refine⟨c,rfl,?_⟩;cases c with
  | true=>cases e;exact jfu (k a .bl_mk)
  | false=>exact jfN (f a.wf.zd (a.slots z s) e λi j=>k (by simpa using a.pair i) j)
 ·cases e
theorem jli  (a:PB R ta pa):PP R (jiw ta) (jhk pa):=by
 intro σ ρ Z H O d z s e Q k;unfold jhk at e;split at e
 ·rename_i c b;cases e;refine a z s b λ{v h i P1} f g=>?_;obtain⟨rfl,rfl⟩:=g.bl_of;exact⟨c,rfl,k f .bl_mk⟩
 ·cases e
def pIf(pt:PTf)(pa pb:PF):PF:=λρ=>match pt ρ with
 | none=>none
 | some b=>bif b then pa ρ else pb ρ
theorem jm2  (g:PTt R tt pt) (h:PP R ta pa) (i:PP R tb pb):PP R (tIf tt ta tb) (pIf pt pa pb):=by
 intro σ ρ Z H O d z s e Q k;unfold pIf at e;cases e1:pt ρ with
 | none=>rw[e1] at e;cases e
 | some c =>
  rw[e1] at e;dsimp only at e;refine g z s e1 λ{j l} a=>?_;cases c with
  | true=>exact jfu (h a.wf.zd (a.slots z s) e λb f=>k (by simpa using a.pair b) f)
  | false=>exact jfN (i a.wf.zd (a.slots z s) e λb f=>k (by simpa using a.pair b) f)
def jiA(R:RC)(J:It)(Z:Zn)(H:Hp)(xs:List D):Prop:=∀{Z1:Zn}{H1:Hp},(∀ a,Z a->Z1 a)->(∀ a,Z a->H1 a=H a)->Zd Z1 H1->∀ i:Nat,
 (xs.length<=i->J.stop i H1)/\∀ x,xs[i]?=some x->J.go i H1/\∀ u H2,J.yld i H1 u H2->∃ Z2,Go Z1 H1 [] Z2 H2 []/\Rep R Z2 H2 x u []
def PIt(R:RC)(wi:TI)(p:PAf):Prop:=∀{σ:St}{ρ:Rh}{Z:Zn}{H:Hp}{O:List Addr}{xs:List D},Zd Z H->Slots R Z H ρ σ O->p ρ=some xs ->
 ∀{Q:It->Hp->Prop},(∀{J:It}{Z':Zn}{H':Hp},Go Z H [] Z' H' []->jiA R J Z' H' xs->Q J H')->wi σ H Q
def jhy(K:PySem.W.Frag)(tl:TE):TI:=λσ H Q=>tl σ H λx H1 =>
 (∃ a,x=.ref a/\(∃ xs,SqL K H1 a xs)/\Q (Itl K a) H1) \/ (∃ a,x=.ref a/\(∃ xs,SqT K H1 a xs)/\Q (Itt K a) H1) \/ ∃ l,x=.str (S l)/\Q (Its l) H1
theorem jdn  (C:PE X l tl):PI X tg l (jhy X.K tl):=by
 intro d s σ H Q I h;have r:∀ v c,EP X d σ (λx g=>(∃ a,x=.ref a/\(∃ j,SqL X.K g a j)/\Q (Itl X.K a) g) \/ (∃ a,x=.ref a/\(∃ j,SqT X.K g a j)/\Q (Itt X.K a) g) \/ ∃ l,x=.str (S l)/\Q (Its l) g) v c->wpAny (model X.prog X.w) X.A (pyIter v) (PIE X d σ tg Q) X.xe c:=by
  rintro v c ⟨x,g,f,u,D⟩
  -- each by the layer's own rule,at a name that holds the value
  rcases D with⟨a,rfl,⟨j,y⟩,q⟩ | ⟨a,rfl,⟨j,y⟩,q⟩ | ⟨l,rfl,q⟩
  ·cases u;obtain⟨k,E,p,F⟩:=f.list y;refine wpAny_pyIter_list p.isList ?_;refine⟨c.heap.objs.size,[c.heap.objs.size],_,_,g,rfl,f.kept (t':=c.toks) λb o e=>L7 _ e,jdm a _,⟨_,E1 _ rfl,rfl,rfl⟩,λb m=>?_,q⟩;have e:b=c.heap.objs.size:=by simpa using m
   subst e;exact f.fpOk (M8 _) (f.hok.fresh (M8 _))
  ·cases u;obtain⟨k,E,p,F⟩:=f.tuple y;refine wpAny_pyIter_tuple (show c.heap.IsTuple a k.toArray from p) ?_;refine⟨c.heap.objs.size,[c.heap.objs.size],_,_,g,rfl,f.kept (t':=c.toks) λb o e=>L7 _ e,jco a _,⟨_,E1 _ rfl,rfl,rfl⟩,λb m=>?_,q⟩;have e:b=c.heap.objs.size:=by simpa using m
   subst e;exact f.fpOk (M8 _) (f.hok.fresh (M8 _))
  ·obtain⟨t,rfl⟩:=u;have n:∀(ty:String),(ty = "str_ascii_iterator" \/ ty = "str_iterator")->(∀ A:Around,A.handled=none->Walks X.prog X.w A c.heap.objs.size [c.heap.objs.size] [c.heap.objs.size] (S l).cps.size (SignAt (S l)) (λi h=>h.IsStrIter c.heap.objs.size ty (S l) t i)) ->
     PIE X d σ tg Q (.ref c.heap.objs.size) { c with heap:=c.heap.push { cls:=.type ty,data:=.fields #[.str (S l) t,.int 0 0] } }:=λty z W=>by
    refine⟨c.heap.objs.size,[c.heap.objs.size],_,_,g,rfl,f.kept (t':=c.toks) λb o e=>L7 _ e,jfI _ l t ty z W,⟨_,E1 _ rfl,rfl,rfl⟩,λb m=>?_,q⟩;have e:b=c.heap.objs.size:=by simpa using m
    subst e;exact f.fpOk (M8 _) (f.hok.fresh (M8 _))
   cases ha:(S l).cps.all (· < 128)
   ·exact wpAny_pyIter_wide ha (n _ (.inr rfl) λG B=>Walks.strWide B _ (S l) t)
   ·exact wpAny_pyIter_ascii ha (n _ (.inl rfl) λG B=>Walks.strAscii B _ (S l) t)
 exact thn (C d s σ H _ I h) r
def zC:D->Option (List D)
 | .lst _ l=>some (fzs l)
 | .tup l=>some (fzs l)
 | .str s=>some (s.map λc=>.str [c])
 | _=>none
def pIt(p:PF):PAf:=λρ=>match p ρ with
 | none=>none
 | some d=>zC d
theorem jkm  (h:FL R Z H a vs) (r:Reps R Z H l vs []):jiA R (Itl R.K a) Z H l:=by
 intro d k f g zd i;have b:=(h.frame f g).sq;have m:Reps R d k l vs []:=r.frame f g λa n=>(nomatch n);refine⟨λo=>⟨vs,b,by rw[r.length];exact o⟩,λx p=>?_⟩;obtain⟨v,j,q⟩:=m.item p;refine⟨⟨vs,v,b,j⟩,λu s c=>?_⟩;obtain⟨rfl,c⟩:=c;have e:=c vs b;rw[j] at e;cases e;exact⟨d,Go.id zd,q⟩
theorem jlk  (h:FT R Z H a vs) (r:Reps R Z H l vs []):jiA R (Itt R.K a) Z H l:=by
 intro d k f g zd i;have b:=(h.frame f g).sq;have m:Reps R d k l vs []:=r.frame f g λa n=>(nomatch n);refine⟨λo=>⟨vs,b,by rw[r.length];exact o⟩,λx p=>?_⟩;obtain⟨v,j,q⟩:=m.item p;refine⟨⟨vs,v,b,j⟩,λu s c=>?_⟩;obtain⟨rfl,c⟩:=c;have e:=c vs b;rw[j] at e;cases e;exact⟨d,Go.id zd,q⟩
theorem jgU  : jiA R (Its s) Z H (s.map λc=>.str [c]):=by
 intro d h j k zd i;refine⟨λf=>by show s.length<=i;simpa using f,λx a=>?_⟩;rw[List.getElem?_map] at a;cases e:s[i]? with
 | none=>rw[e] at a;cases a
 | some c =>
  rw[e] at a;cases a;refine⟨(L8.mp e).1,λu l g=>?_⟩;obtain⟨rfl,m,b,rfl⟩:=g;rw[e] at b;cases b;exact⟨d,Go.id zd,.str_mk⟩
theorem Go.fz  (g:Go Z H [] Z' H' P):Go Z H [] (λa=>Z' a \/ a∈P) H' []:=g.trans (Go.freeze g.wf)
theorem jmz  (h:PP R te p):PIt R (jhy R.K te) (pIt p):=by
 intro σ ρ Z H O n z s e Q k;unfold pIt at e;cases e1:p ρ with
 | none=>rw[e1] at e;cases e
 | some d =>
  rw[e1] at e;refine h z s e1 λ{v m q P1} f j=>?_;have c:=j.freeze (Z':=λa=>m a \/ a∈P1) (λa z=>.inl z) λa z=>.inr z;cases d with
  | lst o l =>
   cases e;rw[fz,Rep] at c;obtain⟨a,g,r,rfl,i,b,rfl,_⟩:=c;exact .inl ⟨a,rfl,⟨g,FL.sq b⟩,k f.fz (jkm b i)⟩
  | tup l =>
   cases e;rw[fz,Rep] at c;obtain⟨a,g,rfl,b,i⟩:=c;exact .inr (.inl ⟨a,rfl,⟨g,FT.sq b⟩,k f.fz (jlk b i)⟩)
  | str t =>
   cases e;obtain⟨rfl,rfl⟩:=j.str_of;exact .inr (.inr ⟨t,rfl,k f jgU⟩)
  | _=>cases e
def Jn(lo:Int)(n:Nat):List D:=(List.range n).map λ(i:Nat)=>D.int (lo+(i:Int))
theorem jkr  : jiA R (Itr lo n) Z H (Jn lo n):=by
 intro c e f g zd i;refine⟨λb=>by show n<=i;simpa [Jn] using b,λx a=>?_⟩;unfold Jn at a;rw[List.getElem?_map] at a;by_cases b:i < n
 ·rw[List.getElem?_range b] at a;cases a;refine⟨b,λu h d=>?_⟩;obtain⟨rfl,rfl⟩:=d;exact⟨c,Go.id zd,.int_mk⟩
 ·rw[List.getElem?_eq_none (by simpa using b)] at a;cases a
def ww(i:Int):Bool:=Nat.ble i.natAbs 4611686018427387903
theorem uD  (h:ww i=true):-(2 ^ 62)<=i/\i < 2 ^ 62:=by
 have h:=Nat.le_of_ble_eq_true h;constructor<;>omega
def YI(p:PAf):PAf:=λρ=>match p ρ with
 | some [.int j]=>bif ww j then some (Jn 0 j.toNat) else none
 | _=>none
theorem Reps.one_of  (r:Reps R Z H [d] vs O):∃ v,vs=[v]/\Rep R Z H d v O:=by
 rw[Reps] at r;obtain⟨v,b,O1,O2,rfl,rfl,c,a⟩:=r;rw[Reps] at a;obtain⟨rfl,rfl⟩:=a;exact⟨v,rfl,by simpa using c⟩
theorem Reps.two_of  (r:Reps R Z H [d,e] vs O):∃ v u O1 O2,vs=[v,u]/\O=O1++O2/\Rep R Z H d v O1/\Rep R Z H e u O2:=by
 rw[Reps] at r;obtain⟨v,a,O1,O2,rfl,rfl,b,c⟩:=r;obtain⟨u,rfl,f⟩:=c.one_of;exact⟨v,u,O1,O2,rfl,rfl,b,f⟩
theorem jjw  (h:PBs R ta p):PIt R (jid ta) (YI p):=by
 intro σ ρ Z H O f z s e Q k;unfold YI at e;split at e
 ·rename_i j a;cases hs:ww j with
  | false=>rw[hs] at e;cases e
  | true =>
   rw[hs] at e;cases e;refine h z s a λ{v g i P1} b c=>?_;obtain⟨u,rfl,d⟩:=c.one_of;obtain⟨rfl,_⟩:=d.int_of;exact⟨j,rfl,(uD hs).1,(uD hs).2,k b jkr⟩
 ·cases e
def PGt(R:RC)(pm:List Nat)(tg:TG)(f:D->Rh->Option Rh):Prop:=∀{σ:St}{ρ ρ':Rh}{Z:Zn}{H:Hp}{O:List Addr}{d:D}{v:V},Rep R Z H d v []->Slots R Z H ρ σ O->f d ρ=some ρ' ->
 ∀{Q:St->Hp->Prop},(∀{σ':St}{O':List Addr},(∀ a∈O',a∈O)->(O.Nodup->O'.Nodup)->Slots R Z H ρ' σ' O'->Keep pm σ σ'->Q σ' H)->tg v σ H Q
def jlD(R:RC)(pm:List Nat)(tg:TGs)(f:List D->Rh->Option Rh):Prop:=∀{σ:St}{ρ ρ':Rh}{Z:Zn}{H:Hp}{O:List Addr}{ds:List D}{vs:List V},Reps R Z H ds vs []->Slots R Z H ρ σ O->f ds ρ=some ρ' ->
 ∀{Q:St->Hp->Prop},(∀{σ':St}{O':List Addr},(∀ a∈O',a∈O)->(O.Nodup->O'.Nodup)->Slots R Z H ρ' σ' O'->Keep pm σ σ'->Q σ' H)->tg vs σ H Q
theorem jfv  : PGt R pm (zm i) (jk pm i):=by
 intro σ ρ m Z H O d v r h e Q k;unfold jk at e;by_cases c:i < ρ.length
 ·by_cases f:i∈pm
  ·rw[X2 f] at e;simp at e
  ·rw[X2 c,X4 f] at e;cases e;obtain⟨A,n,B,rfl,o,g,p⟩:=h.put c;refine k (O':=A++[]++B) (λa q=>?_) (λnd=>?_) (g r (λ_ z=>z) (λ_ _=>rfl) (λ_ _=>rfl) (λ_ _=>rfl)) (Keep.set f)
   ·simp at q ⊢;rcases q with q | q<;>simp[q]
   ·simp only[X0,N1] at nd;simp only[M9,X0];exact⟨nd.1.1,nd.2.1,λa j b l e=>nd.2.2 a (.inl j) b l e⟩
 ·rw[X4 c] at e;simp at e
theorem jf7:jlD R pm jmT gN:=by
 intro σ ρ c Z H O b d r h e Q k;unfold gN at e;cases b with
 | cons _ _=>cases e
 | nil =>
  cases e;rw[Reps] at r;obtain⟨rfl,_⟩:=r;exact⟨rfl,k (λa h=>h) (λh=>h) h (Keep.refl _ _)⟩
theorem jdT  (f:PGt R pm t g) (i:jlD R pm u gs):jlD R pm (jiu t u) (gC g gs):=by
 intro σ ρ A Z H O c B r h e Q k;unfold gC at e;cases c with
 | nil=>cases e
 | cons d c =>
  dsimp only at e;cases e1:g d ρ with
  | none=>rw[e1] at e;cases e
  | some C =>
   rw[e1] at e;dsimp only at e;rw[Reps] at r;obtain⟨v,b,O1,O2,rfl,j,l,m⟩:=r;obtain⟨rfl,rfl⟩:=List.append_eq_nil_iff.mp j.symm;exact⟨v,b,rfl,f l h e1 λn o p s=>i m p e λw x y z=>k (λa q=>n a (w a q)) (λq=>x (o q)) y (s.trans z)⟩
theorem jjf  (f:jlD R pm u gs):PGt R pm (jlX R.K n u) (gT n gs):=by
 intro σ ρ j Z H O d v r h e Q k;cases d with
 | tup l =>
  unfold gT at e;dsimp only at e;by_cases b:l.length=n
  ·rw[X2 b,cond_true] at e;rw[Rep] at r;obtain⟨a,g,rfl,i,c⟩:=r;exact⟨a,g,rfl,i.sq,by rw[c.length];exact b,f c h e k⟩
  ·rw[X4 b,cond_false] at e;cases e
 | _=>cases e
def kO(g:D->Rh->Option Rh)(f:FS):List D->FS
 | [],ρ=>some (.nx ρ)
 | x::xs,ρ=>match g x ρ with
  | none=>none
  | some ρ1=>match f ρ1 with
   | none=>none
   | some (.nx ρ2)=>kO g f xs ρ2
   | some (.ct ρ2)=>kO g f xs ρ2
   | some (.bk ρ2)=>some (.nx ρ2)
   | some (.rt d ρ2)=>some (.rt d ρ2)
def KP(p:PAf)(g:D->Rh->Option Rh)(f:FS):FS:=λρ=>match p ρ with
 | none=>none
 | some xs=>kO g f xs ρ
theorem KS  {l:List α}{i:Nat}(h:l[i]?=some x):l.drop i=x::l.drop (i+1):=by
 obtain⟨a,rfl⟩:=L8.mp h;exact List.drop_eq_getElem_cons a
theorem jkt  (hi:PIt R wi p) (Y:PGt R pm tg g) (hf:DS R pm tb f):DS R pm (jlm wi tg tb) (KP p g f):=by
 intro σ ρ Z H O o w s e D' k;unfold KP at e;cases e1:p ρ with
 | none=>rw[e1] at e;cases e
 | some c =>
  rw[e1] at e;dsimp only at e;refine hi w.zd s e1 λ{J x K} U it=>?_;have h:Go Z H O x K O:=by simpa using U.widen w
  refine⟨λi m N y=>m=c.length - i/\i<=c.length/\∃ L A B,Go x K O A y B/\Slots R A y L N B/\Keep pm σ N/\kO g f (c.drop i) L=some o,
   ⟨c.length,rfl,U6 _,ρ,x,O,Go.refl h.wf,U.slots w.zd s,Keep.refl _ _,e⟩,?_⟩
  rintro i m N y ⟨rfl,hi',L,A,B,l,V,kp,b⟩;have C:=it (Z1:=A) (H1:=y) l.zz (λa z=>l.zH h.wf a z) l.wf.zd i;by_cases D:i < c.length
  ·right
   have W:c[i]?=some c[i]:=by simp[D]
   obtain⟨go,yl⟩:=C.2 _ W;rw[KS W] at b;unfold kO at b;cases e3:g c[i] L with
   | none=>rw[e3] at b;cases b
   | some ρ1 =>
    rw[e3] at b;dsimp only at b;cases e4:f ρ1 with
    | none=>rw[e4] at b;cases b
    | some o1 =>
     rw[e4] at b;refine⟨go,λP n=>∃ j q O2,Go x K O q n O2/\Slots R q n j P O2/\Keep pm σ P/\kO g f (c.drop (i+1)) j=some o,λP n ⟨j,q,O2,a1,a2,a3,a4⟩=>⟨c.length - (i+1),by omega,rfl,D,j,q,O2,a1,a2,a3,a4⟩,λu n hy=>?_⟩;obtain⟨q,X,r2⟩:=yl u n hy;have E:Go A y B q n B:=by simpa using X.widen l.wf
     refine Y r2 (X.slots l.wf.zd V) e3 λ{σ3 O3} sub nd s3 M=>?_;have F:Go x K O q n O3:=(l.trans E).drop sub (nd E.wf.nd);refine hf F.wf s3 e4 ?_;cases o1 with
     | nx j=>exact λ{Q G S I} r t v=>⟨j,G,I,F.trans r,t,kp.trans (M.trans v),b⟩
     | ct j=>exact λ{Q G S I} r t v=>⟨j,G,I,F.trans r,t,kp.trans (M.trans v),b⟩
     | bk j=>cases b;exact λ{Q G S I} r t v=>k (h.trans (F.trans r)) t (kp.trans (M.trans v))
     | rt d j=>cases b;exact λ{v4 Q G S P4 I} r r4 t v=>k (h.trans (F.trans r)) r4 t (kp.trans (M.trans v))
  ·left
   have T:i=c.length:=by omega
   refine⟨C.1 (by omega),?_⟩;rw[T,List.drop_length] at b;cases b;exact k (h.trans l) V kp
def jE(ix:List (Option Nat))(ρ:Rh):Rh:=ix.map λo=>o.bind λj=>(ρ[j]?).join
theorem Kj  (s:Slots R Z H ρ σ O):∀ ix:List (Option Nat),∃ O',Slots R Z H (jE ix ρ) (kW ix σ) O'
 | []=>⟨[],rfl,rfl⟩
 | o::ix=>by
  obtain⟨O',b⟩:=Kj s ix;show ∃ O',Slots R Z H ((o.bind λj=>(ρ[j]?).join)::jE ix ρ) ((o.bind λj=>(σ[j]?).join)::kW ix σ) O';cases e:o.bind λj=>(ρ[j]?).join with
  | none=>exact⟨O',_,_,rfl,b⟩
  | some d =>
   cases o with
   | none=>cases e
   | some j =>
    have a:(ρ[j]?).join=some d:=e;have c:ρ[j]?=some (some d):=by
     cases q:ρ[j]? with
     | none=>rw[q] at a;cases a
     | some u=>rw[q] at a;rw[show u=some d from a]
    obtain⟨A,P,B,_,f,_⟩:=s.put (L8.mp c).1;obtain⟨v,g,r⟩:=f d c;refine⟨P++O',v,_,P,O',?_,rfl,r,b⟩;show((σ[j]?).join::kW ix σ)=some v::kW ix σ;rw[g];rfl
def qT:PTf:=λ_=>some true
theorem jiL:PTt R (λ_ H Q=>Q true H) qT:=by
 intro σ ρ Z H O b z s e Q k;cases e;exact k (Go.id z)
def jM(g:D->Rh->Option Rh)(q:PTf)(p:PF):List D->Rh->Option (List D)
 | [],_=>some []
 | x::xs,ρ=>match g x ρ with
  | none=>none
  | some ρ1=>match q ρ1 with
   | none=>none
   | some b=>bif b then(match p ρ1 with
    | none=>none
    | some y=>match jM g q p xs ρ1 with
     | none=>none
     | some ys=>some (y::ys)) else jM g q p xs ρ1
def yT(pi:PAf)(g:D->Rh->Option Rh)(q:PTf)(p:PF)(ix:List (Option Nat)):PF:=λρ=>match pi ρ with
 | none=>none
 | some xs=>bif lim xs.length then(match jM g q p xs (jE ix ρ) with
  | none=>none
  | some ys=>some (.lst true ys)) else none
def spP(R:RC)(m:List D->Option D)(n:Nat):Sp:=λvs H Q _=>∃ Z ds d,Zd Z H/\ds.length=n/\Reps R Z H ds vs []/\m ds=some d/\∀{v:V}{Z':Zn}{H':Hp}{P:List Addr},Go Z H [] Z' H' P->Rep R Z' H' d v P->Q v H'
def fnP(n:Nat)(f:FS):List D->Option D:=λds=>match f (ds.map some++List.replicate (n - ds.length) none) with
 | some (.rt d _)=>some d
 | some (.nx _)=>some .non
 | _=>none
theorem Qp:∀ n:Nat,Slots R Z H (List.replicate n none) (List.replicate n none) []
 | 0=>⟨rfl,rfl⟩
 | n+1=>⟨none,_,rfl,Qp n⟩
theorem Qw:∀{ds:List D}{vs:List V}{O:List Addr}{ρ:Rh}{σ:St}{P:List Addr},Reps R Z H ds vs O->Slots R Z H ρ σ P->Slots R Z H (ds.map some++ρ) (vs.map some++σ) (O++P)
 | [],_,_,_,_,_,r,s=>by rw[Reps] at r;obtain⟨rfl,rfl⟩:=r;exact s
 | d::ds,_,_,_,_,_,r,s=>by
  rw[Reps] at r;obtain⟨v,a,O1,O2,rfl,rfl,b,c⟩:=r;exact⟨v,_,O1,_,rfl,List.append_assoc ..,b,Qw c s⟩
theorem jjn  (c:DS R [] ts f) (h:spP R (fnP N.length f) n vs H Q E):ts { nx:=λ_ H'=>Q .non H',rt:=Q } (L2.start N vs) H:=by
 obtain⟨Z,a,d,z,l,r,e,k⟩:=h;unfold fnP at e;have s:Slots R Z H (a.map some++List.replicate (N.length - a.length) none) (L2.start N vs) []:=by
  have q:=Qw r (Qp (R:=R) (Z:=Z) (H:=H) (N.length - a.length));unfold L2.start;rw[r.length];exact q
 split at e
 ·rename_i m i b;cases e;exact c (wf0 z) s b λg j _ _=>k g.dropR j
 ·rename_i i b;cases e;exact c (wf0 z) s b λg _ _=>k (P:=[]) g.to0 .non_mk
 ·cases e
theorem jhI  (h:spP R m n vs H Q E):vs.length=n:=by
 obtain⟨Z,b,d,z,a,r,_⟩:=h;rw[r.length,a]
mutual
def kT:D->Bool
 | .tup l=>ym l
 | .lst o l=>o&&ym l
 | .dK o _ l=>o&&ym l
 | .dT o _ l=>o&&ym l
 | .ins o _ _ l=>o&&ym l
 | .non=>true | .bl _=>true | .int _=>true | .str _=>true | .dead=>true
def ym:List D->Bool
 | []=>true
 | d::l=>kT d&&ym l
end
mutual
theorem Rep.thaw(ht:∀ a vs,Z a->Rd H a (.tup vs)->Z' a):∀{d:D}{v:V}{O:List Addr},Rep R Z H d v O->kT d=true->Rep R Z' H d v O
 | .non,_,_,h,_=>by rw[Rep] at h ⊢;exact h
 | .bl _,_,_,h,_=>by rw[Rep] at h ⊢;exact h
 | .int _,_,_,h,_=>by rw[Rep] at h ⊢;exact h
 | .str _,_,_,h,_=>by rw[Rep] at h ⊢;exact h
 | .dead,_,_,h,_=>by rw[Rep] at h ⊢;exact h
 | .tup l,_,_,h,f=>by
  rw[Rep] at h ⊢;rw[kT] at f;obtain⟨a,vs,e,t,r⟩:=h;refine⟨a,vs,e,?_,Reps.thaw ht r f⟩;rcases t with⟨z,q⟩ | q
  ·exact .inl ⟨ht a vs z q,q⟩
  ·exact .inr q
 | .lst o l,_,_,h,f=>by
  rw[Rep] at h ⊢;rw[kT,L9] at f;obtain⟨a,vs,O',e,r,h⟩:=h;cases f.1;exact⟨a,vs,O',e,Reps.thaw ht r f.2,h⟩
 | .dK o ks l,_,_,h,f=>by
  rw[Rep] at h ⊢;rw[kT,L9] at f;obtain⟨a,vs,O',e,r,h⟩:=h;cases f.1;exact⟨a,vs,O',e,Reps.thaw ht r f.2,h⟩
 | .dT o ks l,_,_,h,f=>by
  rw[Rep] at h ⊢;rw[kT,L9] at f;obtain⟨a,vs,O',e,r,h⟩:=h;cases f.1;exact⟨a,vs,O',e,Reps.thaw ht r f.2,h⟩
 | .ins o c ns l,_,_,h,f=>by
  rw[Rep] at h ⊢;rw[kT,L9] at f;obtain⟨a,dx,vs,O',e,r,h⟩:=h;cases f.1;exact⟨a,dx,vs,O',e,Reps.thaw ht r f.2,h⟩
theorem Reps.thaw(ht:∀ a vs,Z a->Rd H a (.tup vs)->Z' a):∀{l:List D}{vs:List V}{O:List Addr},Reps R Z H l vs O->ym l=true->Reps R Z' H l vs O
 | [],_,_,h,_=>by rw[Reps] at h ⊢;exact h
 | d::l,_,_,h,f=>by
  rw[Reps] at h ⊢;rw[ym,L9] at f;obtain⟨v,vs,O1,O2,e,rfl,r1,r2⟩:=h;exact⟨v,vs,O1,O2,e,rfl,Rep.thaw ht r1 f.1,Reps.thaw ht r2 f.2⟩
end
mutual
theorem Rep.notTup:∀{d:D}{v:V}{O:List Addr},Rep R Z H d v O->∀ a∈O,∀ vs,¬ Rd H a (.tup vs)
 | .non,_,_,h,a,ha=>by rw[Rep] at h;rw[h.2] at ha;cases ha
 | .bl _,_,_,h,a,ha=>by rw[Rep] at h;rw[h.2] at ha;cases ha
 | .int _,_,_,h,a,ha=>by rw[Rep] at h;rw[h.2] at ha;cases ha
 | .str _,_,_,h,a,ha=>by rw[Rep] at h;rw[h.2] at ha;cases ha
 | .dead,_,_,h,a,ha=>by rw[Rep] at h;rw[h] at ha;cases ha
 | .tup l,_,_,h,a,ha=>by
  rw[Rep] at h;obtain⟨b,vs,e,t,r⟩:=h;exact Reps.notTup r a ha
 | .lst o l,_,_,h,a,ha=>by
  rw[Rep] at h;obtain⟨b,vs,O',e,r,h⟩:=h;cases o with
  | true =>
   obtain⟨h1,rfl⟩:=h;rcases M4.mp ha with e | e
   ·subst e;rintro ws (q | ⟨_,q⟩)<;>rw[h1] at q<;>cases q
   ·exact Reps.notTup r a e
  | false=>rw[h.2.2] at ha;cases ha
 | .dK o ks l,_,_,h,a,ha=>by
  rw[Rep] at h;obtain⟨b,vs,O',e,r,hl,hd,h⟩:=h;cases o with
  | true =>
   have h:=(show _=_ from h);subst h;rcases M4.mp ha with e | e
   ·subst e;rintro ws (q | ⟨_,q⟩)<;>rw[hd] at q<;>cases q
   ·exact Reps.notTup r a e
  | false=>rw[h.2.2] at ha;cases ha
 | .dT o ks l,_,_,h,a,ha=>by
  rw[Rep] at h;obtain⟨b,vs,O',e,r,hl,hd,h⟩:=h;cases o with
  | true =>
   have h:=(show _=_ from h);subst h;rcases M4.mp ha with e | e
   ·subst e;rintro ws (q | ⟨_,q⟩)<;>rw[hd] at q<;>cases q
   ·exact Reps.notTup r a e
  | false=>rw[h.2.2] at ha;cases ha
 | .ins o c ns l,_,_,h,a,ha=>by
  rw[Rep] at h;obtain⟨b,dx,vs,O',e,r,hl,hd,h⟩:=h;cases o with
  | true =>
   have h:=(show _=_ from h);subst h;rcases M4.mp ha with e | e
   ·subst e;rintro ws (q | ⟨_,q⟩)<;>rw[hd] at q<;>cases q
   ·exact Reps.notTup r a e
  | false=>rw[h.2.2] at ha;cases ha
theorem Reps.notTup:∀{l:List D}{vs:List V}{O:List Addr},Reps R Z H l vs O->∀ a∈O,∀ vs,¬ Rd H a (.tup vs)
 | [],_,_,h,a,ha=>by rw[Reps] at h;rw[h.2] at ha;cases ha
 | d::l,_,_,h,a,ha=>by
  rw[Reps] at h;obtain⟨v,vs,O1,O2,e,rfl,r1,r2⟩:=h;rcases N1.mp ha with q | q
  ·exact Rep.notTup r1 a q
  ·exact Reps.notTup r2 a q
end
def jW(m:List D->Option D)(p:PAf):PF:=λρ=>match p ρ with
 | none=>none
 | some ds=>match m (fzs ds) with
  | none=>none
  | some d=>bif frzs ds||kT d then some d else none
theorem jeb(l:List D):(fzs l).length=l.length:=by rw[Yk,L0]
theorem jhU  (x:PBs R ta p) (hn:∀ ρ ds,p ρ=some ds->ds.length=n):PP R (jdO (spP R m n) [] E0 ta) (jW m p):=by
 intro σ ρ Z H O d z s e Q k;unfold jW at e;cases e1:p ρ with
 | none=>rw[e1] at e;cases e
 | some ds =>
  rw[e1] at e;dsimp only at e;cases e2:m (fzs ds) with
  | none=>rw[e2] at e;cases e
  | some c =>
   rw[e2] at e;dsimp only at e;cases f:frzs ds||kT c with
   | false=>rw[f] at e;cases e
   | true =>
    rw[f] at e;cases e;refine x z s e1 λ{E i l P1} o j=>?_;have y:=o.wf.zd;have A:Zd (λa=>i a \/ a∈P1) l:=λa h=>h.elim (y a) (j.dom a);refine⟨λa=>i a \/ a∈P1,fzs ds,d,A,by rw[jeb];exact hn ρ ds e1,by rw[M9];exact j.freeze (λa z=>.inl z) λa z=>.inr z,e2,λ{v r t P} b w=>?_⟩;rw[Bool.or_eq_true] at f;rcases f with f | f
    ·cases j.nil f;have g:Go i l [] r t P:=⟨b.wf,λa z=>b.zz a (.inl z),b.fr,λa z=>(b.zn a z).imp (λq=>q.resolve_right (λq=>(nomatch q))) id,b.sub,b.dm⟩;exact k (by simpa using o.pair g) w
    ·have g:Go i l [] (λa=>r a/\(a∉P1 \/ i a)) t P:=by
      refine⟨⟨b.wf.nd,λa h q=>b.wf.nz a h q.1,b.wf.od,λa q=>b.wf.zd a q.1⟩,λa z=>⟨b.zz a (.inl z),.inr z⟩,b.fr,λa z=>?_,b.sub,b.dm⟩;rcases b.zn a z.1 with(q | q) | q
      ·exact .inl q
      ·exact .inl (z.2.resolve_left λn=>n q)
      ·exact .inr q
     have B:Rep R (λa=>r a/\(a∉P1 \/ i a)) t d v P:=by
      refine w.thaw (λa C D ta=>⟨D,?_⟩) f;by_cases u:a∈P1
      ·exact absurd (Rd.agree (b.same a (j.dom a u)).symm ta) (j.notTup a u C)
      ·exact .inl u
     exact k (by simpa using o.pair g) B
def sFz(i:Nat)(f:FS):FS:=λρ=>match ρ[i]? with
 | some (some d)=>f (ρ.set i (some (fz d)))
 | _=>f ρ
theorem jmU  (h:DS R pm t f):DS R pm t (sFz i f):=by
 intro σ ρ Z H O o w s e m k;unfold sFz at e;split at e
 ·rename_i d hd;obtain⟨A,P,B,rfl,c,j,_⟩:=s.put (L8.mp hd).1;obtain⟨v,l,r⟩:=c d hd;have g:Go Z H (A++P++B) (λa=>Z a \/ a∈P) H (A++[]++B):=(Go.freeze w.mid).frame w;have b:=j (r.freeze (Z':=λa=>Z a \/ a∈P) (λa z=>.inl z) λa z=>.inr z) (λa z=>.inl z) (λ_ _=>rfl) (λ_ _=>rfl) (λ_ _=>rfl);rw[yZ l] at b;exact h g.wf b e (k.pre g (Keep.refl _ _))
 ·exact h w s e k
def ut(i:Nat)(p:PF):FS:=λρ=>match p ρ with
 | none=>none
 | some d=>match ρ[i]? with
  | some (some (.lst true l))=>bif lim l.length then some (.nx (ρ.set i (some (.lst true (l++[d]))))) else none
  | _=>none
theorem jkX  (h:PP R te p):DS R pm (zD (tBM R.K "list" zN (J5 i) (Vo te jar))) (ut i p):=by
 intro σ ρ Z H O o w s e D' k;unfold ut at e;cases e1:p ρ with
 | none=>rw[e1] at e;cases e
 | some d =>
  rw[e1] at e;dsimp only at e;split at e
  ·rename_i l U;cases hlim:lim l.length with
   | false=>rw[hlim] at e;cases e
   | true =>
    rw[hlim] at e;cases e;obtain⟨A,P,B,rfl,k1,k2,_⟩:=s.put (L8.mp U).1;obtain⟨v,V,r⟩:=k1 _ U;rw[Rep] at r;obtain⟨a,j,t,rfl,W,J,rfl⟩:=r;refine⟨.ref a,V,.inl ⟨rfl,j,SqL.of J⟩,?_⟩;refine h w.zd s e1 λ{u C m P1} n r1=>?_;have L:m a=some (.lst j):=by rw[n.same a (by rw[J];exact λz=>(nomatch z))];exact J
    refine⟨a,j,u,rfl,rfl,L,by rw[W.length];exact wn hlim,?_⟩;have F:Go Z H (A++(a::t)++B) C m (A++(a::(t++P1))++B):=by
     have q:=n.widen w;refine q.drop (λb c=>by simp at c ⊢;rcases c with c | c | c | c | c<;>simp[c]) ?_;have nd:=q.wf.nd;simp only[X0,N1,List.nodup_cons,M4,not_or] at nd ⊢;obtain⟨X,⟨⟨M,⟨N,Y⟩,G⟩,n6,D⟩,I⟩:=nd;refine⟨⟨M,⟨⟨N,λq=>I a q a (.inl (.inr (.inl rfl))) rfl⟩,Y,X,λx f y g e=>I y g x (.inl (.inr (.inr f))) e.symm⟩,λx f y g e=>?_⟩,n6,λx f y g e=>?_⟩
     ·rcases g with g | g | g
      ·exact G x f y (.inl g) e
      ·exact G x f y (.inr g) e
      ·exact I y g x (.inl (.inl f)) e.symm
     ·rcases f with f | f | f | f
      ·exact D x (.inl f) y g e
      ·exact D x (.inr (.inl f)) y g e
      ·exact D x (.inr (.inr f)) y g e
      ·exact I x f y (.inr g) e
    have gB:Go C m (A++(a::(t++P1))++B) C (upd m a (.lst (j++[u]))) (A++(a::(t++P1))++B):=Go.put F.wf (by simp);have nd:=F.wf.nd;simp only[X0,N1,List.nodup_cons,M4,not_or] at nd;obtain⟨⟨X,⟨⟨M,N⟩,Y⟩,G⟩,n6,D⟩:=nd;have E:∀ b,C b->upd m a (.lst (j++[u])) b=m b:=λb c=>jm λz=>F.wf.nz a (by simp) (z▸c);have hr:Rep R C (upd m a (.lst (j++[u]))) (.lst true (l++[d])) (.ref a) (a::(t++P1)):=by
     rw[Rep];refine⟨a,j++[u],t++P1,rfl,?_,jD,rfl⟩;refine((n.reps w.zd W).append (.one r1)).frame (λb z=>z) E λb c=>jm λz=>?_;subst z;rcases N1.mp c with q | q
     ·exact M q
     ·exact N q
    have Q:∀ b,Z b->upd m a (.lst (j++[u])) b=H b:=λb c=>by rw[E b (n.zz b c)];exact n.same b (w.zd b c)
    have S:∀ b∈A,upd m a (.lst (j++[u])) b=H b:=λb c=>by
     rw[jm λz=>G b c b (.inl z) rfl];exact n.same b (w.od b (by simp[c]))
    have T:∀ b∈B,upd m a (.lst (j++[u])) b=H b:=λb c=>by
     rw[jm λz=>D b (.inr (.inl z)) b c rfl];exact n.same b (w.od b (by simp[c]))
    have sl:=k2 hr (λb z=>n.zz b z) Q S T;rw[yZ V] at sl;exact k (F.trans gB) sl (Keep.refl _ _)
  ·cases e
end QD
namespace L2
open PySem PySem.Spec PyProof.Rows
section
variable {X:Cx}{pins:List (Addr×Obj)}{σ:St}{H:Hp}{s:Shared}{h':Heap}
theorem Inv.turnedNew{t':Nat}{wr:List Addr}{T:Addr}{xs:List V}{its:Array Value}(I:Inv X pins σ H s)(k:∀ b o,b∉wr->s.heap.get? b=some o->h'.get? b=some o)(g:∀ b∈wr,jch X pins H b)
  (h:s.heap.objs.size<=T) (j:IsTupN h' T its) (l:Vals xs its.toList) (hz:xs.length<=sizeLine):Inv X pins σ (upd H T (.tup xs)) { s with heap:=h',toks:=t' }:=by
 have p:=I.hok.fresh h;have i:∀ b u,H b=some u->b∉wr:=λb u e z=>by rw[(g b z).1] at e;cases e
 have d:∀ b u,H b=some u->b≠T:=λb u e z=>by rw[z,p] at e;cases e
 refine I.step (g':=s.gens) (d':=s.drawn) (ch:=wr) (λb f=>?_) (λb o _ _ a e _=>k b o a e) (λb o _ _ a e _=>⟨o.slots,k b o a e⟩) (λb o _ e n=>?_)
  (λb o a e=>⟨o,k b o a e⟩) (λb t e=>by rw[jm (d b _ e)];exact e) (λb o u e=>by rw[jm (d b _ e)];exact e) (λb F e=>⟨#[],by rw[jm (d b _ e),e];simp⟩) (λm w=>?_) (λb u e=>?_) I.bare
 ·obtain⟨_,x,_,y,A,B⟩:=g b f;exact⟨y,x,A,B⟩
 ·rw[jm (λz=>absurd (N0 e) (by rw[z];exact Nat.not_lt.mpr h))];exact n
 ·obtain⟨o,C,D,E,r⟩:=w;refine⟨o,C,D,k _ o (λz=>(g _ z).2.1 rfl) E,r⟩
 ·by_cases f:b=T
  ·subst f;rw[jD] at e;cases e;exact⟨hz,its.toList,l,by simpa using j⟩
  ·rw[jm f] at e;refine(I.hok b u e).stay (λc v a q=>k c v ?_ q) (λc q=>by rw[jm (d c _ q)];exact q) λc t q=>by rw[jm (d c _ q)];exact q
   rcases a with z | z
   ·rw[z];exact i b u e
   ·exact i c _ z
theorem Inv.turnedL{t':Nat}{wr:List Addr}(I:Inv X pins σ H s)(k:∀ b o,b∉wr->s.heap.get? b=some o->h'.get? b=some o)(d:∀ b∈wr,jch X pins H b):Inv X pins σ H { s with heap:=h',toks:=t' }:=by
 have f:∀ b u,H b=some u->b∉wr:=λb u e z=>by rw[(d b z).1] at e;cases e
 refine I.step (g':=s.gens) (d':=s.drawn) (ch:=wr) (λb g=>?_) (λb o _ _ a e _=>k b o a e) (λb o _ _ a e _=>⟨o.slots,k b o a e⟩) (λb o _ e n=>n)
  (λb o a e=>⟨o,k b o a e⟩) (λb y e=>e) (λb o u e=>e) (λb A e=>⟨#[],by rw[e];simp⟩) (λm h=>?_) (λb u e=>?_) I.bare
 ·obtain⟨_,i,_,j,l,p⟩:=d b g;exact⟨j,i,l,p⟩
 ·obtain⟨o,t,w,x,r⟩:=h;refine⟨o,t,w,k _ o (λz=>(d _ z).2.1 rfl) x,r⟩
 ·refine(I.hok b u e).stay (λc v a q=>k c v ?_ q) (λ_ q=>q) λ_ _ q=>q;rcases a with z | z
  ·rw[z];exact f b u e
  ·exact f c _ z
end
def Ite(K:PySem.W.Frag)(l:Addr):It :=
 ⟨λi H=>∃ xs x,SqL K H l xs/\xs[i]?=some x,λi H x H'=>∃ p v,(∀ xs,SqL K H l xs->xs[i]?=some v)/\x=.ref p/\H p=none/\H'=upd H p (.tup [.int i,v]),λi H=>∃ xs,SqL K H l xs/\xs.length<=i⟩
theorem jdz{P:Program}{w:World}{K:PySem.W.Frag}{r:List Expr}{n:Nat}{pos:Pos}(e it l:Addr)(t:e≠it)(Y:l≠e)(Z:l≠it) :
  Turn P w K (.Tuple r n pos) (Ite K l) [e,it] e (λi h=>(∃ old,IsEnum h e it i old)/\h.IsListIter it l i) where
 mem:=by simp
 obj:=λi h d b f=>by
  obtain⟨⟨old,g⟩,o,G,J,hd⟩:=d;rcases(by simpa using f:b=e \/ b=it) with z | z
  ·subst z;exact⟨_,g,λv q=>by cases q⟩
  ·subst z;exact⟨o,G,λv q=>by rw[hd] at q;cases q⟩
 keep:=λi h h' d k=>by
  obtain⟨⟨old,g⟩,a⟩:=d;exact⟨⟨old,k e (by simp) _ g⟩,a.at λo q=>k it (by simp) o q⟩
 item:=by
  intro X L M N J i y s σ H E I C d O;subst L M N;obtain⟨xs,x,D,Q⟩:=O;obtain⟨its,R,p,hz⟩:=I.list D;obtain⟨u,hu,ru⟩:=R.get Q;obtain⟨⟨old,g⟩,a⟩:=d;refine wpAny_pyNext_enum_item g a p.isList (x:=u) (by simpa using hu) t λS G A hT hsz hk=>?_;refine⟨_,rfl,wpAny_letOwnedTupleGo_enum (s:={ s with heap:=S,toks:=s.toks+1 }) G λF U c=>?_⟩;replace c:Heap.SameBut e S F:=c;have j:e < s.heap.objs.size:=N0 g;have B:F.get? s.heap.objs.size=_:=(c.2 _ (Nat.ne_of_gt j)).trans hT;have kk:∀ b o,b∉[e,it]->s.heap.get? b=some o->F.get? b=some o:=λb o f q=>by
   have m:b≠e/\b≠it:=by simpa using f
   exact(c.2 b m.1).trans (hk b o m.1 m.2 q)
  have I1:=I.turnedNew (h':=F) (t':=s.toks+1) (wr:=[e,it]) (T:=s.heap.objs.size) (xs:=[.int i,x]) (its:=#[.int i s.toks,u]) kk C (M8 _) ⟨⟨_,B,rfl,_,rfl⟩,_,B,rfl⟩ (.cons ⟨_,rfl⟩ (.cons ru .nil)) (by show 2<=sizeLine;decide);refine⟨.ref s.heap.objs.size,_,I1,rfl,⟨_,x,(λys hy=>by rw[I.list_inj hy D];exact Q),rfl,I.hok.fresh (M8 _),rfl⟩,⟨⟨_,by simpa using U⟩,A.at λo q=>(c.2 it t.symm).trans q⟩,λb f=>?_⟩;rw[jm]
  ·exact(C b f).1
  ·intro z;have:b < s.heap.objs.size:=by
    obtain⟨oi,V,_⟩:=id a;rcases(by simpa using f:b=e \/ b=it) with q | q
    ·rw[q];exact j
    ·rw[q];exact N0 V
   exact absurd this (by rw[z];exact Nat.lt_irrefl _)
 done:=by
  intro X L M N J i y s σ H E I C d O;subst L M N;obtain⟨xs,D,Q⟩:=O;obtain⟨its,R,p,hz⟩:=I.list D;obtain⟨⟨old,g⟩,a⟩:=d;have hl:=R.length;exact wpAny_pyNext_enum_end (I.ok.hd J) g a p.isList (by simp;omega) λS eb=>⟨rfl,I.turnedL (t':=s.toks) (wr:=[e,it]) (λb o f q=>eb b o (by simp at f;exact f.2) q) C⟩
 self:=λ_ _ _ _ _ d h=>wpAny_pyIter_enum d.1.choose_spec h
def jjA(K:PySem.W.Frag)(tl:TA):TI:=λσ H R=>tl σ H λvs H1=>∃ a xs,vs=[.ref a]/\SqL K H1 a xs/\R (Ite K a) H1
section
variable {X:Cx}
theorem ji3{f:List Expr}{n:Nat}{tpos p pos:Pos}{a:Expr}{ta:TA}(w:Gl X "enumerate")(x:X.mg "enumerate" = none)(y:PA X [a] ta)(A:starEach [a] X.env=[(false,eval a X.env)]:=by rfl) :
  PI X (.Tuple f n tpos) (.Call (.Name "enumerate" p) [a] [] pos) (jjA X.K ta):=by
 intro d s σ H R I h;refine Call_ (VW I w x (show bootBuiltins "enumerate" = some (.type "enumerate") by decide +kernel) (PyProof.Rows.callWith_type1 (thn (y pos d s σ H _ I h) λN c ⟨O,m,j,B,C⟩=>?_) A rfl));obtain⟨l,P,rfl,D,q⟩:=C;obtain⟨u,rfl,E⟩:=B.one;cases E;obtain⟨F,Q,r,S⟩:=j.list D;have g:l < c.heap.objs.size:=by
  obtain⟨o,_,e,_⟩:=r;exact N0 e
 refine call_enumerate_list r.isList λt v k G J=>?_;have L:Inv X d σ m { c with heap:=t }:=j.kept (t':=c.toks) J;refine PySem.wpAny_pyIter_enum (s:={ c with heap:=t }) v ?_;refine⟨c.heap.objs.size+1,[c.heap.objs.size+1,c.heap.objs.size],_,_,m,rfl,L,jdz _ _ l (Nat.succ_ne_self _) (N7 (Nat.lt_succ_of_lt g)) (N7 g),⟨⟨_,v⟩,k⟩,λb M=>?_,q⟩;have i:c.heap.objs.size<=b:=by
  rcases(by simpa using M:b=c.heap.objs.size+1 \/ b=c.heap.objs.size) with z | z
  ·rw[z];exact Nat.le_succ _
  ·rw[z];exact M8 _
 exact j.fpOk i (j.hok.fresh i)
end
theorem jfn(n a l2:Nat)(h1:a < n)(h2:l2 < n):ZipApart (n+4) (n+2) (n+3) n (n+1) a l2:=by
 constructor<;>(show @Ne Nat _ _)<;>omega
section
variable {X:Cx}
theorem zv(g:X.calm=true):KB X (.builtin "sum") (λxs H Q=>∃(p:Addr) (ns:List Int),xs=[.ref p]/\SqL X.K H p (ns.map V.int)/\Q (.int ns.sum) H):=by
 intro d s σ H xs t Q I r h;obtain⟨p,ns,rfl,i,q⟩:=h;obtain⟨u,rfl,j⟩:=r.one;cases j;obtain⟨a,k,l,v⟩:=I.list i;have e:IntsAre a ns:=jcm k;obtain⟨b,f⟩:=e.allInts.items;have c:s.heap.IsList p (intItems b):=f▸l.isList;refine sum_intListG (I.ok.hd g) c λw x y m=>?_;have n:ns=b.toList.map (·.1):=by
  rw[<- nums_intItems,<- f];exact(show numsOf a.toArray.toList=ns from e.numsOf).symm
 have o:preSum (numAt b) b.size=ns.sum:=by
  rw[preSum_eq,List.take_of_length_le (by simp),n]
 rw[o];exact⟨.int ns.sum,H,I.kept m,⟨_,rfl⟩,q⟩
inductive TyQ (K:PySem.W.Frag) (H:Hp):V->String->Prop where
 | non:TyQ K H .non "NoneType"
 | bl (x:Bool):TyQ K H (.bl x) "bool"
 | int (i:Int):TyQ K H (.int i) "int"
 | str (x:Str):TyQ K H (.str x) "str"
 | lst {a:Addr}{xs:List V}(e:SqL K H a xs):TyQ K H (.ref a) "list"
 | tup {a:Addr}{xs:List V}(e:SqT K H a xs):TyQ K H (.ref a) "tuple"
 | dK {a:Addr}{kvs:List (Key×V)}(e:H a=some (.dK kvs)):TyQ K H (.ref a) "dict"
theorem uz:KB X (.builtin "isinstance") (λxs H Q=>∃ x T t b,xs=[x,.ty T]/\TyQ X.K H x t/\PySem.W.kitOne X.K (.type t) (.type T)=some b/\Q (.bl b) H):=by
 intro f s σ H xs C Q I r h;obtain⟨x,T,t,b,rfl,ty,e,q⟩:=h;obtain⟨u,v,rfl,d,B⟩:=r.two;cases B;have c:∀ l,EP X f σ Q (.bool b) { s with toks:=l }:=λl=>⟨.bl b,H,I.tok l,rfl,q⟩;cases ty with
 | non=>cases(show u=Value.none from d);exact PySem.W.kia_one PySem.W.kitx_none I.kIn True.intro e (λz=>nomatch z) c
 | bl y=>cases(show u=Value.bool y from d);exact PySem.W.kia_one PySem.W.kitx_bool I.kIn True.intro e (λz=>nomatch z) c
 | int i=>obtain⟨t,q⟩:=(show ∃ t,u=Value.int i t from d);cases q;exact PySem.W.kia_one PySem.W.kitx_int I.kIn True.intro e (λz=>nomatch z) c
 | str y=>obtain⟨t,q⟩:=(show ∃ t,u=Value.str y t from d);cases q;exact PySem.W.kia_one PySem.W.kitx_str I.kIn True.intro e (λz=>nomatch z) c
 | @lst a xs g =>
  cases(show u=Value.ref a from d);obtain⟨m,_,⟨o,n,j,k,_,_⟩,_⟩:=I.list g;exact PySem.W.kia_one PySem.W.kitx_list I.kIn ⟨o,j,k⟩ e (λz=>nomatch z) c
 | @tup a xs g =>
  cases(show u=Value.ref a from d);obtain⟨m,_,⟨o,j,k,_⟩,_⟩:=I.tuple g;exact PySem.W.kia_one PySem.W.kitx_tuple I.kIn ⟨o,j,k⟩ e (λz=>nomatch z) c
 | @dK a A g =>
  cases(show u=Value.ref a from d);obtain⟨_,_,D,_,p⟩:=(show ObjOk X.prog X.w H s.heap a (.dK A) from I.hok a _ g);obtain⟨o,E,F,j,k,_⟩:=p;exact PySem.W.kia_one PySem.W.kitx_dict I.kIn ⟨o,j,k.1⟩ e (λz=>nomatch z) c
end
end L2
namespace QD
open PySem L2
theorem Q5  (h:OpR X f r) (h':OpR X f r'):OpR X f (λx y H Q=>r x y H Q \/ r' x y H Q):=by
 intro a s σ H x y v u Q I b c q;rcases q with q | q
 ·exact h a s σ H x y v u Q I b c q
 ·exact h' a s σ H x y v u Q I b c q
theorem Rep.lst_of  (r:Rep R Z H (.lst o l) v O):∃ a vs O',v=.ref a/\SqX R.K H a vs/\Reps R Z H l vs O':=by
 rw[Rep] at r;obtain⟨a,vs,O',rfl,b,h⟩:=r;cases o with
 | true=>exact⟨a,vs,O',rfl,SqX.of h.1,b⟩
 | false=>exact⟨a,vs,O',rfl,FL.sqx h.1,b⟩
theorem Rep.tup_of  (r:Rep R Z H (.tup l) v O):∃ a vs,v=.ref a/\SqT R.K H a vs/\Reps R Z H l vs O:=by
 rw[Rep] at r;obtain⟨a,vs,rfl,h,b⟩:=r;exact⟨a,vs,rfl,h.sq,b⟩
theorem Reps.frozen  (r:Reps R Z H l vs O) (f:frzs l=true):Reps R Z H l vs []:=by
 cases r.nil f;exact r
def jjm(i:Int):Bool:=decide (Builtin.Int.intBits i<=2 ^ 20)
theorem jeB  (h:i.natAbs < 2 ^ 1000):jjm i=true:=X2 (jcF h (by decide))
def jH(x y:D):Option D:=match x with
 | .int i=>(match y with
  | .int j=>some (.int (i+j))
  | _=>none)
 | .str a=>(match y with
  | .str b=>bif lim (a.length+b.length) then some (.str (a++b)) else none
  | _=>none)
 | .lst _ a=>(match y with
  | .lst _ b=>bif lim (a.length+b.length)&&(frzs a&&frzs b) then some (.lst true (a++b)) else none
  | _=>none)
 | .tup a=>(match y with
  | .tup b=>bif lim (a.length+b.length)&&(frzs a&&frzs b)&&!a.isEmpty then some (.tup (a++b)) else none
  | _=>none)
 | _=>none
def jmk:R2:=λx y H Q=>∃ a b,x=.str (S a)/\y=.str (S b)/\a.length+b.length<=sizeLine/\Q (.str (S (a++b))) H
def jgo(K:PySem.W.Frag):R2:=λx y H Q=>rI0 (λi j=>.int (i+j)) x y H Q \/ jmk x y H Q \/ jkq K x y H Q \/ jls K x y H Q
theorem jiF:OpR X (binaryOp .Add) (jgo X.K):=Q5 jkH (Q5 ji9 (Q5 jhZ jit))
theorem jj9:BO R (jgo R.K) jH:=by
 intro Z H x y d v u O1 O2 z f h e Q k;cases x with
 | int i =>
  cases y with
  | int j =>
   cases e;obtain⟨rfl,_⟩:=f.int_of;obtain⟨rfl,_⟩:=h.int_of;exact .inl ⟨i,j,rfl,rfl,k (Go.id z) .int_mk⟩
  | _=>cases e
 | str a =>
  cases y with
  | str b =>
   simp only[jH] at e;cases hl:lim (a.length+b.length) with
   | false=>rw[hl] at e;cases e
   | true =>
    rw[hl] at e;cases e;obtain⟨rfl,_⟩:=f.str_of;obtain⟨rfl,_⟩:=h.str_of;exact .inr (.inl ⟨a,b,rfl,rfl,Qe hl,k (Go.id z) .str_mk⟩)
  | _=>cases e
 | lst o a =>
  cases y with
  | lst E b =>
   simp only[jH] at e;cases hl:lim (a.length+b.length)&&(frzs a&&frzs b) with
   | false=>rw[hl] at e;cases e
   | true =>
    rw[hl] at e;cases e;simp only[L9] at hl;obtain⟨p,l,F,rfl,m,c⟩:=f.lst_of;obtain⟨q,n,A,rfl,r,rt⟩:=h.lst_of;have s:=(c.frozen hl.2.1).append (rt.frozen hl.2.2);exact .inr (.inr (.inl ⟨p,q,l,n,rfl,rfl,m,r,by rw[c.length,rt.length];exact Qe hl.1,λb g=>k (Go.newO (wf0 z) g) (Rep.lstNew (wf0 z) g s)⟩))
  | _=>cases e
 | tup a =>
  cases y with
  | tup b =>
   simp only[jH] at e;cases hl:lim (a.length+b.length)&&(frzs a&&frzs b)&&!a.isEmpty with
   | false=>rw[hl] at e;cases e
   | true =>
    rw[hl] at e;cases e;simp only[L9] at hl;obtain⟨p,l,rfl,m,c⟩:=f.tup_of;obtain⟨q,n,rfl,r,rt⟩:=h.tup_of;have s:=(c.frozen hl.1.2.1).append (rt.frozen hl.1.2.2);have t:l≠[]:=by
     intro B;have:=c.length;rw[B] at this;have w:a=[]:=List.eq_nil_of_length_eq_zero this.symm;rw[w] at hl;simp at hl
    refine .inr (.inr (.inr ⟨p,q,l,n,rfl,rfl,m,r,t,by rw[c.length,rt.length];exact Qe hl.1.1,(λw=>?_),λ_ b g=>k (Go.newF (wf0 z) g) (Rep.tupNew (wf0 z) g s)⟩));have C:b=[]:=List.eq_nil_of_length_eq_zero (by rw[<- rt.length,w];rfl);subst C;rw[M9] at k;have D:=c.nil hl.1.2.1;subst D;exact k (Go.id z) f
  | _=>cases e
 | _=>cases e
def two(f:Int->Int->Option D):D->D->Option D
 | .int i,.int j=>f i j
 | _,_=>none
theorem two_of  (e:two f x y=some d):∃ i j,x=.int i/\y=.int j/\f i j=some d:=by
 cases x with
 | int i =>
  cases y with
  | int j=>exact⟨i,j,rfl,rfl,e⟩
  | _=>cases e
 | _=>cases y<;>cases e
def jfK:D->D->Option D:=two λi j=>some (.int (i - j))
theorem jjO:BO R (rI0 λi j=>.int (i - j)) jfK:=by
 intro Z H x y d v u O1 O2 z a b e Q k;replace e:=two_of e;obtain⟨i,j,rfl,rfl,e⟩:=e;cases e;obtain⟨rfl,_⟩:=a.int_of;obtain⟨rfl,_⟩:=b.int_of;exact⟨i,j,rfl,rfl,k (Go.id z) .int_mk⟩
def vN(x y:D):Option D:=match y with
 | .int n=>(match x with
  | .int i=>bif jjm i&&jjm n then some (.int (i*n)) else none
  | .str a=>bif decide (a.length<=1000)&&(decide (0<=n)&&decide (n<=1000)) then some (.str (List.replicate n.toNat a).flatten) else none
  | _=>none)
 | _=>none
def ji6:R2:=λx y H Q=>rI (λi j=>Builtin.Int.intBits i<=2 ^ 20/\Builtin.Int.intBits j<=2 ^ 20) (λi j=>.int (i*j)) x y H Q \/
 ∃(a:List Nat) (n:Int),x=.str (S a)/\y=.int n/\a.length<=1000/\0<=n/\n<=1000/\Q (.str (S (List.replicate n.toNat a).flatten)) H
theorem jhG:OpR X (binaryOp .Mult) ji6:=Q5 jiO jhB
theorem jkf:BO R ji6 vN:=by
 intro Z H x y d v u O1 O2 z b c e Q k;cases y with
 | int n =>
  cases x with
  | int i =>
   simp only[vN] at e;cases hl:jjm i&&jjm n with
   | false=>rw[hl] at e;cases e
   | true =>
    rw[hl] at e;cases e;rw[L9] at hl;obtain⟨rfl,_⟩:=b.int_of;obtain⟨rfl,_⟩:=c.int_of;exact .inl ⟨i,n,rfl,rfl,⟨X5 hl.1,X5 hl.2⟩,k (Go.id z) .int_mk⟩
  | str a =>
   simp only[vN] at e;cases hl:decide (a.length<=1000)&&(decide (0<=n)&&decide (n<=1000)) with
   | false=>rw[hl] at e;cases e
   | true =>
    rw[hl] at e;cases e;simp only[L9,decide_eq_true_eq] at hl;obtain⟨rfl,_⟩:=b.str_of;obtain⟨rfl,_⟩:=c.int_of;exact .inr ⟨a,n,rfl,rfl,hl.1,hl.2.1,hl.2.2,k (Go.id z) .str_mk⟩
  | _=>cases e
 | _=>cases e
def jbn(j:Int):Bool:=decide (0 < j)&&decide (j < 2 ^ 300)
theorem jep  (h:jbn j=true):0 < j/\j.natAbs.log2 < 9000:=by
 unfold jbn at h;simp only[L9,decide_eq_true_eq] at h;refine⟨h.1,?_⟩;have a:j.natAbs < 2 ^ 300:=by omega
 have b:j.natAbs≠0:=by omega
 have:=(Nat.log2_lt b (k:=300)).mpr a;omega
theorem jgF:OpR X (binaryOp .FloorDiv) (rI (λ_ j=>jbn j=true) λi j=>.int (i / j)):=opI λi j t u s Q E a q=>by
 obtain⟨b,c⟩:=jep a;have e:i / j=i.fdiv j:=(Int.fdiv_eq_ediv_of_nonneg i (Int.le_of_lt b)).symm;rw[e] at q;exact PyProof.Rows.floordiv_int (by omega) q (.inl (PyProof.noPylong_of_log2 c))
def jY:D->D->Option D:=two λi j=>bif jbn j then some (.int (i / j)) else none
def jC:D->D->Option D:=two λi j=>bif decide (0 < j) then some (.int (i % j)) else none
def jgg:D->D->Option D:=two λi j=>bif decide (0<=j)&&decide (j<=100)&&decide (i.natAbs < 2 ^ 64) then some (.int (i ^ j.toNat)) else none
theorem jkY:BO R (rI (λ_ j=>jbn j=true) λi j=>.int (i / j)) jY:=by
 intro Z H x y d v u O1 O2 z a b e Q k;replace e:=two_of e;obtain⟨i,j,rfl,rfl,e⟩:=e;cases hl:jbn j with
 | false=>rw[hl] at e;cases e
 | true =>
  rw[hl] at e;cases e;obtain⟨rfl,_⟩:=a.int_of;obtain⟨rfl,_⟩:=b.int_of;exact⟨i,j,rfl,rfl,hl,k (Go.id z) .int_mk⟩
theorem jka:BO R (rI (λ_ j=>0 < j) λi j=>.int (i % j)) jC:=by
 intro Z H x y d v u O1 O2 z b c e Q k;replace e:=two_of e;obtain⟨i,j,rfl,rfl,e⟩:=e;by_cases a:0 < j
 ·rw[X2 a] at e;cases e;obtain⟨rfl,_⟩:=b.int_of;obtain⟨rfl,_⟩:=c.int_of;exact⟨i,j,rfl,rfl,a,k (Go.id z) .int_mk⟩
 ·rw[X4 a] at e;cases e
theorem jkJ:BO R (rI jmF λi j=>.int (i ^ j.toNat)) jgg:=by
 intro Z H x y d v u O1 O2 z a b e Q k;replace e:=two_of e;obtain⟨i,j,rfl,rfl,e⟩:=e;cases hl:decide (0<=j)&&decide (j<=100)&&decide (i.natAbs < 2 ^ 64) with
 | false=>rw[hl] at e;cases e
 | true =>
  rw[hl] at e;cases e;simp only[L9,decide_eq_true_eq] at hl;obtain⟨rfl,_⟩:=a.int_of;obtain⟨rfl,_⟩:=b.int_of;exact⟨i,j,rfl,rfl,⟨hl.1.1,by omega,hl.2⟩,k (Go.id z) .int_mk⟩
def jey:D->Option D
 | .int i=>some (.int (-i))
 | _=>none
theorem jjL:BU R (rU λi=>.int (-i)) jey:=by
 intro Z H x d v O z a e Q k;cases x with
 | int i =>
  cases e;obtain⟨rfl,_⟩:=a.int_of;exact⟨i,rfl,k (Go.id z) .int_mk⟩
 | _=>cases e
def opB(g:Int->Int->Bool):D->D->Option D:=two λi j=>some (.bl (g i j))
theorem jmt  : BO R (rI0 λi j=>.bl (g i j)) (opB g):=by
 intro Z H x y d v u O1 O2 z a b e Q k;replace e:=two_of e;obtain⟨i,j,rfl,rfl,e⟩:=e;cases e;obtain⟨rfl,_⟩:=a.int_of;obtain⟨rfl,_⟩:=b.int_of;exact⟨i,j,rfl,rfl,k (Go.id z) .bl_mk⟩
abbrev jiJ:D->D->Option D:=opB λi j=>decide (i < j)
abbrev wy:D->D->Option D:=opB λi j=>decide (j < i)
abbrev jht:D->D->Option D:=opB λi j=>decide (j<=i)
def VS:D->Bool
 | .non=>true | .bl _=>true | .int _=>true | .str _=>true
 | _=>false
def eqF:D->D->Bool
 | .non,.non=>true
 | .bl a,.bl b=>a==b
 | .int a,.int b=>a==b
 | .str a,.str b=>a==b
 | _,_=>false
def uj:D->D->Bool
 | .bl _,.int _=>false
 | .int _,.bl _=>false
 | _,_=>true
theorem jej  (d:Rep R Z H x v O1) (c:Rep R Z H y u O2) (h:(VS x&&VS y&&uj x y)=true):jmR v u=true/\decide (v=u)=eqF x y:=by
 cases x with
 | non =>
  obtain⟨rfl,_⟩:=d.non_of;cases y with
  | non=>obtain⟨rfl,_⟩:=c.non_of;exact⟨rfl,rfl⟩
  | bl b=>obtain⟨rfl,_⟩:=c.bl_of;exact⟨rfl,rfl⟩
  | int b=>obtain⟨rfl,_⟩:=c.int_of;exact⟨rfl,rfl⟩
  | str b=>obtain⟨rfl,_⟩:=c.str_of;exact⟨rfl,rfl⟩
  | _=>cases h
 | bl a =>
  obtain⟨rfl,_⟩:=d.bl_of;cases y with
  | non=>obtain⟨rfl,_⟩:=c.non_of;exact⟨rfl,rfl⟩
  | bl b=>obtain⟨rfl,_⟩:=c.bl_of;exact⟨rfl,by rw[jdk];rfl⟩
  | str b=>obtain⟨rfl,_⟩:=c.str_of;exact⟨rfl,rfl⟩
  | _=>cases h
 | int a =>
  obtain⟨rfl,_⟩:=d.int_of;cases y with
  | non=>obtain⟨rfl,_⟩:=c.non_of;exact⟨rfl,rfl⟩
  | int b=>obtain⟨rfl,_⟩:=c.int_of;exact⟨rfl,by rw[jbp];rfl⟩
  | str b=>obtain⟨rfl,_⟩:=c.str_of;exact⟨rfl,rfl⟩
  | _=>cases h
 | str a =>
  obtain⟨rfl,_⟩:=d.str_of;cases y with
  | non=>obtain⟨rfl,_⟩:=c.non_of;exact⟨rfl,rfl⟩
  | bl b=>obtain⟨rfl,_⟩:=c.bl_of;exact⟨rfl,rfl⟩
  | int b=>obtain⟨rfl,_⟩:=c.int_of;exact⟨rfl,rfl⟩
  | str b =>
   obtain⟨rfl,_⟩:=c.str_of;refine⟨rfl,?_⟩;rw[Bool.eq_iff_iff];simp[eqF,jmq]
  | _=>cases h
 | _=>cases h
def inL(x:D)(l:List D):Bool:=l.any λy=>eqF y x
def jcV(x:D)(l:List D):Bool:=VS x&&l.all λy=>VS y&&uj y x
def J6(neg:Bool)(x y:D):Option D:=match y with
 | .str s=>(match x with
  | .str [c]=>some (.bl (neg != decide (c∈s)))
  | _=>none)
 | .lst _ l=>bif jcV x l then some (.bl (neg != inL x l)) else none
 | .tup l=>bif jcV x l then some (.bl (neg != inL x l)) else none
 | _=>none
theorem Reps.flat  (c:Rep R Z H x v P) (d:VS x=true):∀{l:List D}{vs:List V}{O:List Addr},Reps R Z H l vs O->(l.all λy=>VS y&&uj y x)=true->xw v=true/\vs.all xw=true/\inV v vs=inL x l
 | [],_,_,h,_=>by
  rw[Reps] at h;obtain⟨rfl,_⟩:=h;refine⟨?_,rfl,rfl⟩;cases x with
  | non=>obtain⟨rfl,_⟩:=c.non_of;rfl
  | bl b=>obtain⟨rfl,_⟩:=c.bl_of;rfl
  | int b=>obtain⟨rfl,_⟩:=c.int_of;rfl
  | str b=>obtain⟨rfl,_⟩:=c.str_of;rfl
  | _=>cases d
 | y::l,_,_,h,f=>by
  rw[Reps] at h;obtain⟨u,vs,O1,O2,rfl,rfl,g,i⟩:=h;rw[List.all_cons,L9] at f;obtain⟨j,k,m⟩:=Reps.flat c d i f.2;have e:xw u=true/\eqV u v=eqF y x:=by
   cases y with
   | non =>
    obtain⟨rfl,_⟩:=g.non_of;cases x with
    | non=>obtain⟨rfl,_⟩:=c.non_of;exact⟨rfl,rfl⟩
    | bl b=>obtain⟨rfl,_⟩:=c.bl_of;exact⟨rfl,rfl⟩
    | int b=>obtain⟨rfl,_⟩:=c.int_of;exact⟨rfl,rfl⟩
    | str b=>obtain⟨rfl,_⟩:=c.str_of;exact⟨rfl,rfl⟩
    | _=>cases d
   | bl a =>
    obtain⟨rfl,_⟩:=g.bl_of;cases x with
    | non=>obtain⟨rfl,_⟩:=c.non_of;exact⟨rfl,rfl⟩
    | bl b=>obtain⟨rfl,_⟩:=c.bl_of;exact⟨rfl,rfl⟩
    | str b=>obtain⟨rfl,_⟩:=c.str_of;exact⟨rfl,rfl⟩
    | int b=>exact absurd f.1 (by simp[uj])
    | _=>cases d
   | int a =>
    obtain⟨rfl,_⟩:=g.int_of;cases x with
    | non=>obtain⟨rfl,_⟩:=c.non_of;exact⟨rfl,rfl⟩
    | int b=>obtain⟨rfl,_⟩:=c.int_of;exact⟨rfl,rfl⟩
    | str b=>obtain⟨rfl,_⟩:=c.str_of;exact⟨rfl,rfl⟩
    | bl b=>exact absurd f.1 (by simp[uj])
    | _=>cases d
   | str a =>
    obtain⟨rfl,_⟩:=g.str_of;cases x with
    | non=>obtain⟨rfl,_⟩:=c.non_of;exact⟨rfl,rfl⟩
    | bl b=>obtain⟨rfl,_⟩:=c.bl_of;exact⟨rfl,rfl⟩
    | int b=>obtain⟨rfl,_⟩:=c.int_of;exact⟨rfl,rfl⟩
    | str b =>
     obtain⟨rfl,_⟩:=c.str_of;refine⟨rfl,?_⟩;rw[Bool.eq_iff_iff];simp[eqF,eqV,jmq]
    | _=>cases d
   | _=>exact absurd f.1 (by simp[VS])
  refine⟨j,by rw[List.all_cons,e.1,k];rfl,?_⟩;show(eqV u v||inV v vs)=(eqF y x||inL x l);rw[e.2,m]
def jnf(neg:Bool):R2:=λx y H Q=>∃ c l,x=.str (S [c])/\y=.str (S l)/\Q (.bl (if neg then !decide (c∈l) else decide (c∈l))) H
def jjK(K:PySem.W.Frag)(neg:Bool):R2:=λx y H Q=>jnf neg x y H Q \/ rIn K neg x y H Q
theorem jkS:OpR X (compareOp .In) (jjK X.K false):=Q5 jlq jdB
theorem jeq:OpR X (compareOp .NotIn) (jjK X.K true):=Q5 jev uJ
theorem jbe(neg b:Bool):(if neg=true then !b else b)=(neg != b):=by cases neg<;>cases b<;>rfl
theorem jlM  : BO R (jjK R.K neg) (J6 neg):=by
 intro Z H x y d v u O1 O2 z b f e Q k;cases y with
 | str s =>
  cases x with
  | str t =>
   match t,e,b with
   | [c],e,b =>
    cases e;obtain⟨rfl,_⟩:=b.str_of;obtain⟨rfl,_⟩:=f.str_of;refine .inl ⟨c,s,rfl,rfl,?_⟩;rw[jbe];exact k (Go.id z) .bl_mk
   | [],e,b=>cases e
   | _::_::_,e,b=>cases e
  | _=>cases e
 | lst o l =>
  have a:(bif jcV x l then some (D.bl (neg != inL x l)) else none)=some d:=e;cases hl:jcV x l with
  | false=>rw[hl] at a;cases a
  | true =>
   rw[hl] at a;cases a;unfold jcV at hl;rw[L9] at hl;obtain⟨p,g,q,rfl,h,i⟩:=f.lst_of;obtain⟨j,m,n⟩:=i.flat b hl.1 hl.2;refine .inr ⟨p,g,rfl,.inl h.sq,j,m,?_⟩;rw[n,jbe];exact k (Go.id z) .bl_mk
 | tup l =>
  have a:(bif jcV x l then some (D.bl (neg != inL x l)) else none)=some d:=e;cases hl:jcV x l with
  | false=>rw[hl] at a;cases a
  | true =>
   rw[hl] at a;cases a;unfold jcV at hl;rw[L9] at hl;obtain⟨p,g,rfl,h,i⟩:=f.tup_of;obtain⟨j,m,n⟩:=i.flat b hl.1 hl.2;refine .inr ⟨p,g,rfl,.inr h,j,m,?_⟩;rw[n,jbe];exact k (Go.id z) .bl_mk
 | _=>cases e
def jn(x y:D):Option D:=match y with
 | .int i=>(match x with
  | .lst _ l=>atI l i
  | .tup l=>atI l i
  | .str s=>bif lim s.length then(match atI s i with
   | some c=>some (.str [c])
   | none=>none) else none
  | _=>none)
 | _=>none
theorem Reps.atI  (r:Reps R Z H l vs O) (e:L2.atI l i=some d):∃ v P,L2.atI vs i=some v/\Rep R Z H d v P:=by
 unfold L2.atI at e ⊢;rw[r.length];cases h:ixN l.length i with
 | none=>rw[h] at e;cases e
 | some j =>
  rw[h] at e;obtain⟨v,A,P,B,a,_,b,_⟩:=r.at (show l[j]?=some d from e);exact⟨v,P,a,b⟩
theorem jmv:BO' R (rIx R.K) jn:=by
 intro Z H x y d v u O1 O2 z a n e Q k;cases y with
 | int i =>
  obtain⟨rfl,_⟩:=n.int_of;cases x with
  | lst o l =>
   obtain⟨p,b,q,rfl,f,g⟩:=a.lst_of;obtain⟨w,P,j,m⟩:=g.atI e;exact .inl ⟨p,b,i,w,rfl,rfl,f.sq,j,k m⟩
  | tup l =>
   obtain⟨p,b,rfl,f,g⟩:=a.tup_of;obtain⟨w,P,j,m⟩:=g.atI e;exact .inr (.inl ⟨p,b,i,w,rfl,rfl,f,j,k m⟩)
  | str s =>
   obtain⟨rfl,_⟩:=a.str_of;simp only[jn] at e;cases hl:lim s.length with
   | false=>rw[hl] at e;cases e
   | true =>
    rw[hl,cond_true] at e;cases h:L2.atI s i with
    | none=>rw[h] at e;cases e
    | some c =>
     rw[h] at e;cases e;refine .inr (.inr ⟨S s,i,c,rfl,rfl,by rw[xc];exact Qe hl,by rw[VV];exact h,?_⟩);rw[jhA];exact k .str_mk
  | _=>cases e
 | _=>cases e
abbrev OF:=Rh->Option (Option Int)
def PO'(R:RC)(t:TO)(p:OF):Prop:=∀{σ:St}{ρ:Rh}{Z:Zn}{H:Hp}{O:List Addr}{i:Option Int},Zd Z H->Slots R Z H ρ σ O->p ρ=some i ->
 ∀{Q:Option Int->Hp->Prop},(∀{Z':Zn}{H':Hp},Go Z H [] Z' H' []->Q i H')->t σ H Q
def oN:OF:=λ_=>some none
def oS(p:PF):OF:=λρ=>match p ρ with
 | some (.int i)=>some (some i)
 | _=>none
theorem jnm:PO' R ja0 oN:=by
 intro σ ρ Z H O i z s e Q k;cases e;exact k (Go.id z)
theorem jno  (h:PB R te p):PO' R (jhw te) (oS p):=by
 intro σ ρ Z H O i z s e Q k;unfold oS at e;split at e
 ·rename_i j a;cases e;refine h z s a λ{v d f P1} b c=>?_;obtain⟨rfl,_⟩:=c.int_of;exact⟨j,rfl,k b⟩
 ·cases e
def jc3(lo hi:Option Int):D->Option D
 | .str s=>bif lim s.length then some (.str (v7 s lo hi)) else none
 | .lst _ l=>bif frzs l then some (.lst true (v7 l lo hi)) else none
 | .tup l=>bif frzs l&&decide ((v7 l lo hi).length < l.length) then some (.tup (v7 l lo hi)) else none
 | _=>none
def jlT(K:PySem.W.Frag):V->Option Int->Option Int->Hp->VK->Prop:=λx lo hi H Q=>jm4 x lo hi H Q \/ jm9 K x lo hi H Q \/ jm7 K x lo hi H Q
theorem jnj:SlR X (jlT X.K):=SlR.or jj5 (SlR.or jhr jlz)
def pSl(pa:PF)(pl ph:OF):PF:=λρ=>match pa ρ with
 | none=>none
 | some x=>match pl ρ with
  | none=>none
  | some lo=>match ph ρ with
   | none=>none
   | some hi=>jc3 lo hi x
theorem Reps.cut  (r:Reps R Z H l vs []) (lo hi:Option Int):Reps R Z H (v7 l lo hi) (jhf vs lo hi) []:=by
 unfold v7 jhf;rw[r.length];exact(r.drop _).take _
theorem jmQ  (C:PB R te pa) (D:PO' R tl pl) (E:PO' R th ph):PP R (tSl (jlT R.K) te tl th) (pSl pa pl ph):=by
 intro σ ρ Z H O d z s e Q k;unfold pSl at e;cases e1:pa ρ with
 | none=>rw[e1] at e;cases e
 | some x =>
  rw[e1] at e;dsimp only at e;cases e2:pl ρ with
  | none=>rw[e2] at e;cases e
  | some m =>
   rw[e2] at e;dsimp only at e;cases e3:ph ρ with
   | none=>rw[e3] at e;cases e
   | some n =>
    rw[e3] at e;dsimp only at e;refine C z s e1 λ{v I J P1} h F=>?_;refine D h.wf.zd (h.slots z s) e2 λ{L M} q=>?_;have c:=h.pair q;refine E q.wf.zd (c.slots z s) e3 λ{Z3 G} i=>?_;have a:Go Z H [] Z3 G []:=c.pair i;have r:=(q.pair i).rep h.wf.zd F;cases x with
    | str t =>
     simp only[jc3] at e;cases hm:lim t.length with
     | false=>rw[hm] at e;cases e
     | true =>
      rw[hm] at e;cases e;obtain⟨rfl,_⟩:=r.str_of;exact .inl ⟨t,rfl,Qe hm,k a .str_mk⟩
    | lst o l =>
     simp only[jc3] at e;cases hm:frzs l with
     | false=>rw[hm] at e;cases e
     | true =>
      rw[hm] at e;cases e;obtain⟨p,u,N,rfl,w,j⟩:=r.lst_of;have f:=i.wf.zd;exact .inr (.inl ⟨p,u,rfl,w.sq,λb g=>k (by simpa using a.pair (Go.newO (wf0 f) g)) (Rep.lstNew (wf0 f) g ((j.frozen hm).cut m n))⟩)
    | tup l =>
     simp only[jc3] at e;cases hm:frzs l&&decide ((v7 l m n).length < l.length) with
     | false=>rw[hm] at e;cases e
     | true =>
      rw[hm] at e;cases e;simp only[L9,decide_eq_true_eq] at hm;obtain⟨p,u,rfl,w,j⟩:=r.tup_of;have f:=i.wf.zd;refine .inr (.inr ⟨p,u,rfl,w,?_,λb g=>k (by simpa using a.pair (Go.newF (wf0 f) g)) (Rep.tupNew (wf0 f) g ((j.frozen hm.1).cut m n))⟩);rintro⟨A,B⟩;have y:=hm.2;unfold v7 at y;rw[j.length] at A B;rw[A,B,List.drop_zero,Nat.sub_zero,List.take_length] at y;exact absurd y (Nat.lt_irrefl _)
    | _=>cases e
def ky:List D->Option D
 | [.lst _ l]=>some (.int l.length)
 | [.tup l]=>some (.int l.length)
 | [.str s]=>bif lim s.length then some (.int s.length) else none
 | _=>none
theorem jkv:BC R (λxs H Q=>∃ x n,xs=[x]/\jlR R.K x H n/\Q (.int n) H) ky:=by
 intro Z H xs d g O z r e Q k
 match xs,e,r with
 | [.lst o l],e,r =>
  cases e;obtain⟨v,rfl,a⟩:=r.one_of;obtain⟨p,b,h,rfl,c,f⟩:=a.lst_of;exact⟨_,_,rfl,.inl ⟨b,c.sq,rfl⟩,by rw[f.length];exact k (Go.id z) .int_mk⟩
 | [.tup l],e,r =>
  cases e;obtain⟨v,rfl,a⟩:=r.one_of;obtain⟨p,b,rfl,c,f⟩:=a.tup_of;exact⟨_,_,rfl,.inr ⟨b,c,rfl⟩,by rw[f.length];exact k (Go.id z) .int_mk⟩
 | [.str s],e,r =>
  simp only[ky] at e;cases hm:lim s.length with
  | false=>rw[hm] at e;cases e
  | true =>
   rw[hm] at e;cases e;obtain⟨v,rfl,a⟩:=r.one_of;obtain⟨rfl,_⟩:=a.str_of;exact⟨_,_,rfl,⟨by rw[xc];exact Qe hm,rfl⟩,by rw[xc];exact k (Go.id z) .int_mk⟩
def Qg:List D->Option (List Int)
 | []=>some []
 | d::l=>match d with
  | .int i=>(match Qg l with
   | some r=>some (i::r)
   | none=>none)
  | _=>none
theorem Reps.ints:∀{l:List D}{vs:List V}{O:List Addr}{ns:List Int},Reps R Z H l vs O->Qg l=some ns->vs=ns.map V.int:=by
 intro l
 induction l with
 | nil=>intro vs O ns h e;rw[Reps] at h;cases e;exact h.1
 | cons d l a =>
  intro vs O ns h e;rw[Reps] at h;obtain⟨v,vs,O1,O2,rfl,rfl,b,c⟩:=h;cases d with
  | int i =>
   have e:(match Qg l with | some r=>some (i::r) | none=>none)=some ns:=e;cases e1:Qg l with
   | none=>rw[e1] at e;cases e
   | some r =>
    rw[e1] at e;cases e;rw[a c e1,b.int_of.1];rfl
  | _=>cases e
def VY:List D->Option (List Bool)
 | []=>some []
 | d::l=>match d with
  | .bl i=>(match VY l with
   | some r=>some (i::r)
   | none=>none)
  | _=>none
theorem Reps.bools:∀{l:List D}{vs:List V}{O:List Addr}{ns:List Bool},Reps R Z H l vs O->VY l=some ns->vs=ns.map V.bl:=by
 intro l
 induction l with
 | nil=>intro vs O ns h e;rw[Reps] at h;cases e;exact h.1
 | cons d l a =>
  intro vs O ns h e;rw[Reps] at h;obtain⟨v,vs,O1,O2,rfl,rfl,b,c⟩:=h;cases d with
  | bl i =>
   have e:(match VY l with | some r=>some (i::r) | none=>none)=some ns:=e;cases e1:VY l with
   | none=>rw[e1] at e;cases e
   | some r =>
    rw[e1] at e;cases e;rw[a c e1,b.bl_of.1];rfl
  | _=>cases e
def jha:List D->Option D
 | [.lst _ l]=>match Qg l with
  | some ns=>some (.int ns.sum)
  | none=>none
 | _=>none
theorem jeK:BC R (λxs H Q=>∃(p:Addr) (ns:List Int),xs=[.ref p]/\SqL R.K H p (ns.map V.int)/\Q (.int ns.sum) H) jha:=by
 intro Z H xs d f O z r e Q k
 match xs,e,r with
 | [.lst o l],e,r =>
  simp only[jha] at e;cases e1:Qg l with
  | none=>rw[e1] at e;cases e
  | some ns =>
   rw[e1] at e;cases e;obtain⟨v,rfl,a⟩:=r.one_of;obtain⟨p,g,h,rfl,b,c⟩:=a.lst_of;have:=c.ints e1;subst this;exact⟨p,ns,rfl,b.sq,k (Go.id z) .int_mk⟩
def jlc:List D->Option D
 | [.lst _ l]=>match VY l with
  | some ns=>some (.bl (ns.any λb=>b))
  | none=>none
 | _=>none
theorem jlv:BC R (λxs H Q=>∃(p:Addr) (bs:List Bool),xs=[.ref p]/\SqL R.K H p (bs.map V.bl)/\Q (.bl (bs.any λb=>b)) H) jlc:=by
 intro Z H xs d g O z r e Q k
 match xs,e,r with
 | [.lst o l],e,r =>
  simp only[jlc] at e;cases e1:VY l with
  | none=>rw[e1] at e;cases e
  | some ns =>
   rw[e1] at e;cases e;obtain⟨v,rfl,a⟩:=r.one_of;obtain⟨p,h,i,rfl,c,f⟩:=a.lst_of;have:=f.bools e1;subst this;exact⟨p,ns,rfl,c.sq,k (Go.id z) .bl_mk⟩
def f2I(g:Int->Int->Int):List D->Option D
 | [.int i,.int j]=>some (.int (g i j))
 | _=>none
theorem jcJ  : BC R (λxs H Q=>∃ i j,xs=[.int i,.int j]/\Q (.int (g i j)) H) (f2I g):=by
 intro Z H xs d c O z r e Q k
 match xs,e,r with
 | [.int i,.int j],e,r =>
  cases e;obtain⟨v,u,O1,O2,rfl,_,a,b⟩:=r.two_of;obtain⟨rfl,_⟩:=a.int_of;obtain⟨rfl,_⟩:=b.int_of;exact⟨i,j,rfl,k (Go.id z) .int_mk⟩
abbrev jle:List D->Option D:=f2I λi j=>if j > i then j else i
abbrev jjF:List D->Option D:=f2I λi j=>if j < i then j else i
def JW:List D->Option D
 | [.lst _ l]=>bif frzs l then some (.tup l) else none
 | _=>none
theorem qm:BC R (λxs H Q=>∃ p ys,xs=[.ref p]/\((SqL R.K H p ys/\∀ l,H l=none->Q (.ref l) (upd H l (.tup ys))) \/ (SqT R.K H p ys/\Q (.ref p) H))) JW:=by
 intro Z H xs d i O z r e Q k
 match xs,e,r with
 | [.lst o l],e,r =>
  simp only[JW] at e;cases hm:frzs l with
  | false=>rw[hm] at e;cases e
  | true =>
   rw[hm] at e;cases e;obtain⟨v,rfl,c⟩:=r.one_of;obtain⟨p,f,j,rfl,g,h⟩:=c.lst_of;exact⟨p,f,rfl,.inl ⟨g.sq,λb a=>k (Go.newF (wf0 z) a) (Rep.tupNew (wf0 z) a (h.frozen hm))⟩⟩
def tyD:D->Option String
 | .non=>some "NoneType" | .bl _=>some "bool" | .int _=>some "int" | .str _=>some "str" | .tup _=>some "tuple" | .lst _ _=>some "list"
 | .dK true _ _=>some "dict"
 | _=>none
def ul(t T:String):Bool:=t==T||(t=="bool"&&T=="int")
def jaz(T:String)(p:PF):PF:=λρ=>match p ρ with
 | none=>none
 | some d=>match tyD d with
  | none=>none
  | some t=>some (.bl (ul t T))
theorem ji0(K:PySem.W.Frag)  (a:t∈["NoneType","bool","int","str","tuple","list","dict"]) (b:T∈["bool","int","str","tuple","list","dict"]):PySem.W.kitOne K (.type t) (.type T)=some (ul t T):=by
 simp only[M4,List.not_mem_nil,or_false] at a b;rcases a with rfl | rfl | rfl | rfl | rfl | rfl | rfl<;>rcases b with rfl | rfl | rfl | rfl | rfl | rfl<;>rfl
theorem Rep.ty  (r:Rep R Z H x v O) (e:tyD x=some t):TyQ R.K H v t/\t∈["NoneType","bool","int","str","tuple","list","dict"]:=by
 cases x with
 | non=>cases e;obtain⟨rfl,_⟩:=r.non_of;exact⟨.non,by simp⟩
 | bl b=>cases e;obtain⟨rfl,_⟩:=r.bl_of;exact⟨.bl _,by simp⟩
 | int i=>cases e;obtain⟨rfl,_⟩:=r.int_of;exact⟨.int _,by simp⟩
 | str s=>cases e;obtain⟨rfl,_⟩:=r.str_of;exact⟨.str _,by simp⟩
 | tup l=>cases e;obtain⟨p,d,rfl,c,f⟩:=r.tup_of;exact⟨.tup c,by simp⟩
 | lst o l=>cases e;obtain⟨p,d,g,rfl,c,f⟩:=r.lst_of;exact⟨.lst c.sq,by simp⟩
 | dK o h l=>cases o with
  | false=>cases e
  | true=>cases e;rw[Rep] at r;obtain⟨a,j,g,rfl,_,_,hd,_⟩:=r;exact⟨.dK hd,by simp⟩
 | _=>cases e
theorem jkN  (a:T∈["bool","int","str","tuple","list","dict"])  (h:PB R te p) :
  PP R (tCB (λxs H Q=>∃ x T t b,xs=[x,.ty T]/\TyQ R.K H x t/\PySem.W.kitOne R.K (.type t) (.type T)=some b/\Q (.bl b) H) (Vo te (Vo (tC (.ty T)) jar))) (jaz T p):=by
 intro σ ρ Z H O d z s e Q k;unfold jaz at e;cases e1:p ρ with
 | none=>rw[e1] at e;cases e
 | some x =>
  rw[e1] at e;dsimp only at e;cases e2:tyD x with
  | none=>rw[e2] at e;cases e
  | some t =>
   rw[e2] at e;cases e;refine h z s e1 λ{v j l P1} c f=>?_;obtain⟨g,i⟩:=f.ty e2;exact⟨v,T,t,ul t T,rfl,g,ji0 _ i a,k c .bl_mk⟩
def yA:Nat->List D->List D
 | _,[]=>[]
 | k,x::l=>.tup [.int k,x]::yA (k+1) l
theorem ki:∀(k:Nat) (l:List D),(yA k l).length=l.length
 | _,[]=>rfl
 | k,x::l=>by rw[yA,M0,M0,ki]
theorem kQ:∀(k:Nat) (l:List D) (i:Nat) (y:D),(yA k l)[i]?=some y->∃ x,l[i]?=some x/\y=.tup [.int ((k+i:Nat):Int),x]
 | _,[],_,_,e=>by simp[yA] at e
 | k,x::l,0,y,e=>by simp[yA] at e;exact⟨x,rfl,e.symm⟩
 | k,x::l,i+1,y,e=>by
  obtain⟨z,a,b⟩:=kQ (k+1) l i y (by simpa [yA] using e);exact⟨z,by simpa using a,by rw[b];congr 3;omega⟩
def QF(p:PAf):PAf:=λρ=>match p ρ with
 | some [.lst _ l]=>some (yA 0 (fzs l))
 | _=>none
theorem jbA  (z:Zd Z H) (b:H p=none) (c:Rep R Z H x u []) (d:Rep R Z H y v []):Rep R (λa=>Z a \/ a=p) (upd H p (.tup [u,v])) (.tup [x,y]) (.ref p) [] :=
 Rep.tupNew (wf0 z) b (.cons c (.cons d .empty))
theorem jgr  (h:PPs R ta p):PIt R (jjA R.K ta) (QF p):=by
 intro σ ρ Z H O T z s e Q k;unfold QF at e;split at e
 ·rename_i o l C;cases e;refine h z s C λ{U D V P1} E F=>?_;obtain⟨v,rfl,G⟩:=F.one_of;have g:=G.freeze (Z':=λa=>D a \/ a∈P1) (λa z=>.inl z) λa z=>.inr z;rw[fz,Rep] at g;obtain⟨a,b,W,rfl,I,j,rfl,_⟩:=g;refine⟨a,b,rfl,FL.sq j,k E.fz ?_⟩;intro J L m n zd i;have c:=(j.frame m n).sq;have r:Reps R J L (fzs l) b []:=I.frame m n λa M=>(nomatch M);refine⟨λt=>⟨b,c,by rw[r.length];rw[ki] at t;exact t⟩,λx N=>?_⟩;obtain⟨y,P,rfl⟩:=kQ 0 _ i x N;obtain⟨u,A,S⟩:=r.item P;refine⟨⟨b,u,c,A⟩,λw X d=>?_⟩;obtain⟨q,Y,f,rfl,B,rfl⟩:=d;have:=f b c;rw[A] at this;cases this;refine⟨_,Go.newF (wf0 zd) B,?_⟩;have:=jbA (R:=R) (x:=.int i) (u:=.int i) zd B .int_mk S;simpa using this
 ·cases e
end QD
namespace QD
open PySem L2 PySem.Spec PyProof.Rows
section
variable (c:Nat->Addr)(pm:List Nat)(X:Cx)
structure QP(e:Expr)(te:TE)(p:PF):Prop where
 sem:PE X e te
 den:PP ⟨X.K,c⟩ te p
structure QB(e:Expr)(te:TE)(p:PF):Prop where
 sem:PE X e te
 den:PB ⟨X.K,c⟩ te p
structure QPs(es:List Expr)(ta:TA)(p:PAf):Prop where
 sem:PA X es ta
 den:PPs ⟨X.K,c⟩ ta p
structure QBs(es:List Expr)(ta:TA)(p:PAf):Prop where
 sem:PA X es ta
 den:PBs ⟨X.K,c⟩ ta p
 n:∀ ρ ds,p ρ=some ds->ds.length=es.length
structure QT(e:Expr)(tt:TT)(q:PTf):Prop where
 sem:PT X e tt
 den:PTt ⟨X.K,c⟩ tt q
structure QW(e:Expr)(tt:TT)(q:PTf):Prop where
 sem:PW X e tt
 den:PTt ⟨X.K,c⟩ tt q
structure QI(tg e:Expr)(wi:TI)(p:PAf):Prop where
 sem:PI X tg e wi
 den:PIt ⟨X.K,c⟩ wi p
structure QG(tg:Expr)(t:TG)(g:D->Rh->Option Rh):Prop where
 sem:PG X tg t
 den:PGt ⟨X.K,c⟩ pm t g
structure QGs(tg:List Expr)(t:TGs)(g:List D->Rh->Option Rh):Prop where
 sem:PGs X tg t
 den:jlD ⟨X.K,c⟩ pm t g
structure QE(e:Expr)(te:TE)(f:FE):Prop where
 sem:PE X e te
 den:DE ⟨X.K,c⟩ te f
structure QS(st:Stmt)(ts:TS)(f:FS):Prop where
 sem:PS X st ts
 den:DS ⟨X.K,c⟩ pm ts f
structure QSs(st:List Stmt)(ts:TS)(f:FS):Prop where
 sem:PSs X st ts
 den:DS ⟨X.K,c⟩ pm ts f
structure QO(e:Option Expr)(t:TO)(p:OF):Prop where
 sem:PO X e t
 den:PO' ⟨X.K,c⟩ t p
structure QIf(ifs:List Expr)(tc:TT)(q:PTf):Prop where
 sem:PIf X ifs tc
 den:PTt ⟨X.K,c⟩ tc q
end
theorem QP.bb(h:QP cl X e te pe):QB cl X e te pe:=⟨h.sem,PP.b h.den⟩
theorem QB.f(h:QB cl X e te pe):QP cl X e te (pF pe):=⟨h.sem,PB.f h.den⟩
theorem QP.d(h:QP cl X e te pe):QE cl X e te (dP pe):=⟨h.sem,PP.d h.den⟩
theorem jb(i:Nat)  (b:X.N[i]?=some x:=by rfl) (c:Vis X.env.scope x:=by first | exact Or.inl rfl | exact Or.inr (Or.inl rfl) | exact Or.inr (Or.inr rfl)) (hd:(x==("__debug__" : Str))=false:=by decide)
  (a:(x==("__classdict__" : Str))=false:=by decide):QB cl X (.Name x pos) (J5 i) (pV i):=⟨jgX b c hd a,jla⟩
theorem jgt(i:Nat)  (b:X.N[i]?=some x:=by rfl) (c:Vis X.env.scope x:=by first | exact Or.inl rfl | exact Or.inr (Or.inl rfl) | exact Or.inr (Or.inr rfl)) (hd:(x==("__debug__" : Str))=false:=by decide)
  (a:(x==("__classdict__" : Str))=false:=by decide):QE cl X (.Name x pos) (J5 i) (dMv i):=⟨jgX b c hd a,jmo⟩
theorem jd9  {j}:QP cl X (.Constant (.int i) j pos) (tC (.int i)) (pC (.int i)):=⟨jg2,jlS λ_ _=>.int_mk⟩
theorem jcL  {j}:QP cl X (.Constant (.bool i) j pos) (tC (.bl i)) (pC (.bl i)):=⟨jmm,jlS λ_ _=>.bl_mk⟩
theorem jmJ{j}:QP cl X (.Constant .none j pos) (tC .non) (pC .non):=⟨jkp,jlS λ_ _=>.non_mk⟩
theorem jmH  {j}(l:List Nat) (h:x=S l):QP cl X (.Constant (.str x) j pos) (tC (.str x)) (pC (.str l)):=⟨jk2,by subst h;exact jlS λ_ _=>.str_mk⟩
theorem y6(c:QB cl X a ta pa)(d:QB cl X b tb pb):QP cl X (.BinOp a .Add b pos) (tOp (jgo X.K) ta tb) (p2 jH pa pb):=⟨jcu jiF c.sem d.sem,uG jj9 c.den d.den⟩
theorem jmd(c:QB cl X a ta pa)(d:QB cl X b tb pb):QP cl X (.BinOp a .Sub b pos) (tOp (rI0 λi j=>.int (i - j)) ta tb) (p2 jfK pa pb):=⟨jcu jkd c.sem d.sem,uG jjO c.den d.den⟩
theorem KR(c:QB cl X a ta pa)(d:QB cl X b tb pb):QP cl X (.BinOp a .Mult b pos) (tOp ji6 ta tb) (p2 vN pa pb):=⟨jcu jhG c.sem d.sem,uG jkf c.den d.den⟩
theorem vG(c:QB cl X a ta pa)(d:QB cl X b tb pb):QP cl X (.BinOp a .FloorDiv b pos) (tOp (rI (λ_ j=>jbn j=true) λi j=>.int (i / j)) ta tb) (p2 jY pa pb):=⟨jcu jgF c.sem d.sem,uG jkY c.den d.den⟩
theorem yU(c:QB cl X a ta pa)(d:QB cl X b tb pb):QP cl X (.BinOp a .Mod b pos) (tOp (rI (λ_ j=>0 < j) λi j=>.int (i % j)) ta tb) (p2 jC pa pb):=⟨jcu jkk c.sem d.sem,uG jka c.den d.den⟩
theorem jmj(c:QB cl X a ta pa)(d:QB cl X b tb pb):QP cl X (.BinOp a .Pow b pos) (tOp (rI jmF λi j=>.int (i ^ j.toNat)) ta tb) (p2 jgg pa pb):=⟨jcu jln c.sem d.sem,uG jkJ c.den d.den⟩
theorem ji7(b:QB cl X a ta pa):QP cl X (.UnaryOp .USub a pos) (tUn (rU λi=>.int (-i)) ta) (p1 jey pa):=⟨jmx jjX b.sem,jl6 jjL b.den⟩
theorem jhQ(b:QB cl X a ta pa):QP cl X (.UnaryOp .Not a pos) (jiw ta) (jhk pa):=⟨jlt b.sem,jli b.den⟩
structure CmpR(cl:Nat->Addr)(X:Cx)(op:CmpOp)(b:Expr)(r:R2)(g:D->D->Option D):Prop where
 o:OpR X (compareOp op) r
 g:BO ⟨X.K,cl⟩ r g
 m:behindInMarks op b=false
theorem jmM:CmpR cl X .Lt b (rI0 λi j=>.bl (decide (i < j))) jiJ:=⟨jlY,jmt,jae _⟩
theorem je6:CmpR cl X .Gt b (rI0 λi j=>.bl (decide (j < i))) wy:=⟨jm1,jmt,jae _⟩
theorem jj8:CmpR cl X .GtE b (rI0 λi j=>.bl (decide (j<=i))) jht:=⟨jmB,jmt,jae _⟩
theorem jjZ(a:behindInMarks .In b=false):CmpR cl X .In b (jjK X.K false) (J6 false):=⟨jkS,jlM,a⟩
theorem c_notin(a:behindInMarks .NotIn b=false):CmpR cl X .NotIn b (jjK X.K true) (J6 true):=⟨jeq,jlM,a⟩
theorem Vd  (h:CmpR cl X op b r g) (c:QB cl X a ta pa) (d:QB cl X b tb pb):QP cl X (.Compare a [op] [b] pos) (tOp r ta tb) (p2 g pa pb):=⟨jih h.o c.sem d.sem h.m,uG h.g c.den d.den⟩
theorem jN  (h:CmpR cl X op b r g) (c:QB cl X a ta pa) (d:QB cl X b tb pb):QT cl X (.Compare a [op] [b] pos) (jjC (tOp r ta tb)) (js (p2 g pa pb)):=⟨jh7 h.o c.sem d.sem h.m,jdq (PP.b (uG h.g c.den d.den))⟩
theorem kH(b:QB cl X a ta pa)(c:∀ whole,isTrue a X.env whole=(do let v <- whole;standAt a.pos;holding [v] (truthy v)):=by intro _;rfl):QT cl X a (L2.tB ta) (js pa):=⟨jj0 b.sem c,jdq b.den⟩
theorem jaa(b:QT cl X a tA qa):QT cl X (.UnaryOp .Not a pos) (jmy tA) (je9 qa):=⟨jk5 b.sem,jjj b.den⟩
theorem qG(b:QT cl X a tA qa):QW cl X (.BoolOp .And [a] pos) tA qa:=⟨jhO b.sem,b.den⟩
theorem jlr(b:QT cl X a tA qa):QW cl X (.BoolOp .Or [a] pos) tA qa:=⟨jk6 b.sem,b.den⟩
theorem Jc{cl:Nat->Addr}{X:Cx}{a b:Expr}{es:List Expr}{tA tB:TT}{c d:PTf}{pos:Pos}(e:QT cl X a tA c)(f:QW cl X (.BoolOp .And (b::es) pos) tB d):QW cl X (.BoolOp .And (a::b::es) pos) (jmC tA tB) (VT c d):=⟨jkW e.sem f.sem,jkT e.den f.den⟩
theorem jl5{cl:Nat->Addr}{X:Cx}{a b:Expr}{es:List Expr}{tA tB:TT}{c d:PTf}{pos:Pos}(e:QT cl X a tA c)(f:QW cl X (.BoolOp .Or (b::es) pos) tB d):QW cl X (.BoolOp .Or (a::b::es) pos) (tOr tA tB) (qOr c d):=⟨jl9 e.sem f.sem,jm0 e.den f.den⟩
theorem QW.t(h:QW cl X a tA qa):QT cl X a tA qa:=⟨PW.pt h.sem,h.den⟩
theorem Ko{op}(h:QP cl X a ta pa):QP cl X (.BoolOp op [a] pos) ta pa:=⟨jlo h.sem,h.den⟩
theorem VQ(c:QB cl X a ta pa)(d:QP cl X (.BoolOp .And (b::es) pos) tb pb):QP cl X (.BoolOp .And (a::b::es) pos) (jjb ta tb) (VX pa pb):=⟨jko c.sem d.sem,jlb c.den d.den⟩
theorem jnl(c:QB cl X a ta pa)(d:QP cl X (.BoolOp .Or (b::es) pos) tb pb):QP cl X (.BoolOp .Or (a::b::es) pos) (jl1 ta tb) (pOr pa pb):=⟨jme c.sem d.sem,jmE c.den d.den⟩
theorem jm6(d:QT cl X c tA qa)(e:QP cl X a ta pa)(f:QP cl X b tb pb):QP cl X (.IfExp c a b pos) (tIf tA ta tb) (pIf qa pa pb):=⟨jgM d.sem e.sem f.sem,jm2 d.den e.den f.den⟩
theorem jw:QPs cl X [] jar pN:=⟨xo,pps_nil⟩
theorem jf(a:QP cl X e te pe)(b:QPs cl X es tr pr)(c:starEach (e::es) X.env=(false,eval e X.env)::starEach es X.env:=by rfl):QPs cl X (e::es) (Vo te tr) (jc pe pr):=⟨Vl a.sem b.sem c,jgp a.den b.den⟩
theorem ji:QBs cl X [] jar pN:=⟨xo,jed,λρ a e=>by cases e;rfl⟩
theorem jd(b:QB cl X e te pe)(a:QBs cl X es tr pr)(c:starEach (e::es) X.env=(false,eval e X.env)::starEach es X.env:=by rfl):QBs cl X (e::es) (Vo te tr) (jc pe pr) :=
 ⟨Vl b.sem a.sem c,jfb b.den a.den,λρ f h=>by
  unfold jc at h;cases e1:pe ρ with
  | none=>rw[e1] at h;cases h
  | some x =>
   rw[e1] at h;dsimp only at h;cases e2:pr ρ with
   | none=>rw[e2] at h;cases h
   | some d =>
    rw[e2] at h;cases h;rw[M0,M0,a.n ρ d e2]⟩
theorem k6{x1}(h:QPs cl X es tr pr):QP cl X (.Tuple es x1 pos) (jml tr) (qv pr):=⟨jlp h.sem,jjV h.den⟩
theorem ku(h:QPs cl X es tr pr):QP cl X (.List es pos) (jmr tr) (qX pr):=⟨jlf h.sem,jks h.den⟩
theorem yI(c:QB cl X a ta pa)(d:QB cl X b tb pb)(e:xz b:=by exact λ_ _=>rfl):QB cl X (.Subscript a b pos) (tOp (rIx X.K) ta tb) (p2 jn pa pb):=⟨jii jd0 c.sem d.sem e,jmi jmv c.den d.den⟩
theorem qf:QO cl X none ja0 oN:=⟨jhv,jnm⟩
theorem vw(h:QB cl X e te pe):QO cl X (some e) (jhw te) (oS pe):=⟨jia h.sem,jno h.den⟩
theorem ja8{cl:Nat->Addr}{X:Cx}{lo hi:Option Expr}(b:QB cl X a ta pa)(c:QO cl X lo tl pl)(d:QO cl X hi th ph):QP cl X (.Subscript a (.Slice lo hi none p2') pos) (tSl (jlT X.K) ta tl th) (pSl pa pl ph) :=
 ⟨jgx jnj b.sem c.sem d.sem,jmQ b.den c.den d.den⟩
theorem jT{cl:Nat->Addr}{X:Cx}{e:Expr}{es:List Expr}{tr:TA}{pr:PAf}{pos:Pos}{k n:Nat}{f:Addr}{fd:FuncData}{ps:List Str}{m:List D->Option D}{x qual:Str}{st:Stmt}{p:Pos}(F:FnFact X.K X.mg x qual st f fd ps)(G:FnOk X.prog X.w X.K X.mg X.base CX0 k f fd ps (spP ⟨X.K,cl⟩ m n))(d:Room k X.A)
  (a:QBs cl X (e::es) tr pr) (hn:(e::es).length=n:=by rfl) (g:Gl X x:=by rfl) (b:(x==("__debug__" : Str))=false:=by decide)
  (i:starEach (e::es) X.env=(false,eval e X.env)::starEach es X.env:=by rfl) (c:(backTo pos (starEach es X.env)).any (·.1)=false:=by rfl):QP cl X (.Call (.Name x p) (e::es) [] pos) (jdO (spP ⟨X.K,cl⟩ m n) [] E0 tr) (jW m pr) :=
 ⟨jl0 F G d a.sem g b i c,jhU a.den λρ j h=>(a.n ρ j h).trans hn⟩
theorem Jj{cl:Nat->Addr}{X:Cx}{e:Expr}{es:List Expr}{tr:TA}{pr:PAf}{pos:Pos}{x:Str}{p:Pos}{id:String}{r:List V->Hp->VK->Prop}{g:List D->Option D}(d:KB X (.builtin id) r)(f:BC ⟨X.K,cl⟩ r g)(h:X.mg x=none)(i:bootBuiltins x=some (.builtin id))(c:QBs cl X (e::es) tr pr)(j:Gl X x:=by rfl)
  (hn:x≠"__name__":=by decide) (a:(x==("__debug__" : Str))=false:=by decide) (k:starEach (e::es) X.env=(false,eval e X.env)::starEach es X.env:=by rfl) (b:(backTo pos (starEach es X.env)).any (·.1)=false:=by rfl) :
  QP cl X (.Call (.Name x p) (e::es) [] pos) (tCB r tr) (pCB g pr):=⟨jbN d j h i c.sem hn a k b,jiT f c.den⟩
theorem kN  (d:KB X (.type T) r) (f:BC ⟨X.K,cl⟩ r g) (h:X.mg x=none) (i:bootBuiltins x=some (.type T)) (c:QBs cl X (e::es) tr pr) (j:Gl X x:=by rfl)
  (hn:x≠"__name__":=by decide) (a:(x==("__debug__" : Str))=false:=by decide) (k:starEach (e::es) X.env=(false,eval e X.env)::starEach es X.env:=by rfl) (b:(backTo pos (starEach es X.env)).any (·.1)=false:=by rfl) :
  QP cl X (.Call (.Name x p) (e::es) [] pos) (tCB r tr) (pCB g pr):=⟨uC d j h i c.sem hn a k b,jiT f c.den⟩
theorem vO(b:X.mg "len" = none)  (c:QBs cl X [e] tr pr) (d:Gl X "len":=by rfl) (f:starEach [e] X.env=(false,eval e X.env)::starEach [] X.env:=by rfl) (a:(backTo pos (starEach [] X.env)).any (·.1)=false:=by rfl) :
  QP cl X (.Call (.Name "len" p) [e] [] pos) (tCB (λxs H Q=>∃ x n,xs=[x]/\jlR X.K x H n/\Q (.int n) H) tr) (pCB ky pr):=Jj jfs jkv b PySem.boot_len c d (by decide) (by decide) f a
theorem zM:bootBuiltins "sum" = some (.builtin "sum"):=by decide +kernel
theorem jdS:bootBuiltins "any" = some (.builtin "any"):=by decide +kernel
theorem xj:bootBuiltins "max" = some (.builtin "max"):=by decide +kernel
theorem xB:bootBuiltins "min" = some (.builtin "min"):=by decide +kernel
theorem Q7:bootBuiltins "isinstance" = some (.builtin "isinstance"):=by decide +kernel
theorem uL:bootBuiltins "int" = some (.type "int"):=by decide +kernel
theorem jam:bootBuiltins "str" = some (.type "str"):=by decide +kernel
theorem x3:bootBuiltins "list" = some (.type "list"):=by decide +kernel
theorem yy:bootBuiltins "tuple" = some (.type "tuple"):=by decide +kernel
theorem Qh:bootBuiltins "bool" = some (.type "bool"):=by decide +kernel
theorem J9:bootBuiltins "dict" = some (.type "dict"):=by decide +kernel
theorem zy{cl:Nat->Addr}{X:Cx}{a:Expr}{ta:TE}{pa:PF}{pos:Pos}{T:String}{x:Str}{p p1:Pos}(j:T∈["bool","int","str","tuple","list","dict"])(k:X.mg "isinstance" = none)(c:X.mg x=none)(d:bootBuiltins x=some (.type T))(h:QB cl X a ta pa)(l:Gl X "isinstance":=by rfl)(e:Gl X x:=by rfl)
  (hn:x≠"__name__":=by decide) (f:(x==("__debug__" : Str))=false:=by decide) (i:starEach [a,.Name x p1] X.env=(false,eval a X.env)::starEach [.Name x p1] X.env:=by rfl) (g:(backTo pos (starEach [.Name x p1] X.env)).any (·.1)=false:=by rfl)
  (h1:starEach [.Name x p1] X.env=(false,eval (.Name x p1) X.env)::starEach [] X.env:=by rfl) :
  QP cl X (.Call (.Name "isinstance" p) [a,.Name x p1] [] pos) (tCB (λxs H Q=>∃ x T t b,xs=[x,.ty T]/\TyQ X.K H x t/\PySem.W.kitOne X.K (.type t) (.type T)=some b/\Q (.bl b) H) (Vo ta (Vo (tC (.ty T)) jar))) (jaz T pa) :=
 ⟨jbN uz l k Q7 (Vl h.sem (Vl (jhS e c d rfl hn f) xo h1) i) (by decide) (by decide) i g,jkN j h.den⟩
theorem VZ(h:QP cl X e te pe):QI cl X tg e (jhy X.K te) (pIt pe):=⟨jdn h.sem,jmz h.den⟩
theorem k9  (b:X.mg "range" = none) (h:QBs cl X [a] tr pr) (c:Gl X "range":=by rfl) (d:starEach [a] X.env=[(false,eval a X.env)]:=by rfl):QI cl X tg (.Call (.Name "range" p) [a] [] pos) (jid tr) (YI pr):=⟨jeh c b h.sem d,jjw h.den⟩
theorem YX  (b:X.mg "enumerate" = none) (h:QPs cl X [a] tr pr) (c:Gl X "enumerate":=by rfl) (d:starEach [a] X.env=[(false,eval a X.env)]:=by rfl):QI cl X (.Tuple elts n tpos) (.Call (.Name "enumerate" p) [a] [] pos) (jjA X.K tr) (QF pr):=⟨ji3 c b h.sem d,jgr h.den⟩
theorem jr  (a:X.N.Nodup) (hi:X.N[i]?=some x:=by rfl) (b:Loc X.env.scope x:=by first | exact Or.inl rfl | exact Or.inr rfl) (c:X.fn x=true \/ X.env.scope.names.lookup x=some .local:=by first | exact .inl rfl | exact .inr rfl) :
  QG cl pm X (.Name x pos) (zm i) (jk pm i):=⟨jjk a hi b c,jfv⟩
theorem vd:QGs cl pm X [] jmT gN:=⟨jjd,jf7⟩
theorem jt  (h1:QG cl pm X e t g) (h2:QGs cl pm X es ts gs) (a:(assignEach (e::es) X.env).map (·.2)=assign e X.env::(assignEach es X.env).map (·.2):=by rfl):QGs cl pm X (e::es) (jiu t ts) (gC g gs):=⟨jfY h1.sem h2.sem a,jdT h1.den h2.den⟩
theorem Jo  (b:X.calm=true) (h:QGs cl pm X es ts gs) (hn:(assignEach es X.env).length=n:=by rfl) (a:(assignEach es X.env).findIdx? (·.1)=none:=by rfl):QG cl pm X (.Tuple es k pos) (jlX X.K n ts) (gT n gs):=⟨jkb b h.sem hn a,jjf h.den⟩
theorem jf8:QIf cl X [] (λ_ H Q=>Q true H) qT:=⟨.inl ⟨rfl,rfl⟩,jiL⟩
theorem Ye(h:QT cl X c tA qa):QIf cl X [c] tA qa:=⟨.inr ⟨c,rfl,h.sem⟩,h.den⟩
theorem jO:QSs cl pm X [] jiB yB:=⟨jhq,jhD⟩
theorem jh{cl:Nat->Addr}{pm:List Nat}{X:Cx}{st:Stmt}{a:TS}{f:FS}(h:QS cl pm X st a f):QSs cl pm X [st] a f:=⟨jdA h.sem,h.den⟩
theorem je{cl:Nat->Addr}{pm:List Nat}{X:Cx}{st:Stmt}{rest:List Stmt}{a b:TS}{f fe:FS}(h:QS cl pm X st a f)(k:QSs cl pm X rest b fe):QSs cl pm X (st::rest) (jk7 a b) (jR f fe):=⟨jb1 h.sem k.sem,jkL h.den k.den⟩
theorem jhM(h:QE cl X e te fE)(a:swapsWith e none pos.line X.env=pure false:=by rfl):QS cl pm X (.Expr e pos) (zD te) (jcS fE):=⟨xu h.sem a,jjo h.den⟩
theorem jB(h:QE cl X e te fE):QS cl pm X (.Return (some e) pos) (jlZ te) (km fE):=⟨jlF h.sem,jld h.den⟩
theorem yL  (a:QT cl X c tA qa) (b:QSs cl pm X x ts f) (e:QSs cl pm X y tu fe):QS cl pm X (.If c x y pos) (jjY tA ts tu) (sIf (dPT qa) f fe):=⟨jlx a.sem b.sem e.sem,jmP (PTt.d a.den) b.den e.den⟩
theorem ju  (a:X.N.Nodup) (h:QE cl X e te fE) (hi:X.N[i]?=some x:=by rfl) (b:Loc X.env.scope x:=by first | exact Or.inl rfl | exact Or.inr rfl) (c:swapsWith e (some (.Name x pos')) pos.line X.env=pure false:=by rfl)
  (d:X.fn x=true \/ X.env.scope.names.lookup x=some .local:=by first | exact .inl rfl | exact .inr rfl):QS cl pm X (.Assign [.Name x pos'] e pos) (jfp te (zm i)) (yz fE (jk pm i)):=⟨jgQ a hi b h.sem c d,jeM h.den jd2⟩
theorem jlB  (h:PGt R pm tg g):DG R pm tg (λd ρ=>bif frz d then g d ρ else none):=by
 intro σ ρ b Z H O P d v w r s e Q k;dsimp only at e;cases hf:frz d with
 | false=>rw[hf] at e;cases e
 | true =>
  rw[hf] at e;cases r.nil hf;exact h r s e λsub nd a kp=>k ((Go.refl w).drop sub (nd w.nd)) a kp
def jf5(fE:FE)(g:D->Rh->Option Rh):FS:=yz fE (λd ρ=>bif frz d then g d ρ else none)
theorem jh0  (h:QE cl X e te fE) (a:QG cl pm X tgt t g) (b:swapsWithSole [tgt] e pos.line X.env=pure false:=by rfl) (c:swappedStores [tgt] e X.env=pure none:=by rfl)
  (h1:(assignEach [tgt] X.env).map (·.2)=[assign tgt X.env]:=by rfl):QS cl pm X (.Assign [tgt] e pos) (jfp te t) (jf5 fE g):=⟨jj4 h.sem a.sem b c h1,jeM h.den (jlB a.den)⟩
theorem YU  (j:QB cl X (.Name x xpos) (J5 i) (pV i)) (h:QP cl X e te pe) (b:attributeBase (.Name x xpos) "append" X.env (eval (.Name x xpos) X.env)=eval (.Name x xpos) X.env:=by rfl)
  (d:((backTo cpos (starEach [e] X.env)).all (λx=>!x.1)&&(backToKw cpos (keywordEach [] X.env)).all (λx=>x.1.isSome)
   && decide ([e].length+([]:List Keyword).length+(if([]:List Keyword).isEmpty then 0 else 1) < 30))=true:=by rfl)
  (c:(apos.endLine==cpos.line)=true:=by rfl) (g:starEach [e] X.env=(false,eval e X.env)::starEach [] X.env:=by rfl) (a:(backTo cpos (starEach [] X.env)).any (·.1)=false:=by rfl)
  (f:swapsWith (.Call (.Attribute (.Name x xpos) "append" apos) [e] [] cpos) none pos.line X.env=pure false:=by rfl) :
  QS cl pm X (.Expr (.Call (.Attribute (.Name x xpos) "append" apos) [e] [] cpos) pos) (zD (tBM X.K "list" zN (J5 i) (Vo te jar))) (ut i pe) :=
 ⟨xu (jfD PySem.F.plainAttrs_list PySem.F.slot_list_append PySem.F.type_list_append xC j.sem (Vl h.sem xo g) b d c g a) f,jkX h.den⟩
theorem vR  (c:PassesOwn (model X.prog X.w) X.A X.env X.xe) (d:X.calm=true) (hi:QI cl X tg iter wi pi) (a:QG cl pm X tg t g) (b:QSs cl pm X body ts f) (e:∀ x,foldedSetIterable iter X.env x=pure x:=by intro _;rfl):QS cl pm X (.For tg iter body [] pos) (jlm wi t ts) (KP pi g f) :=
 ⟨jhj c d hi.sem a.sem b.sem e,jkt hi.den a.den b.den⟩
theorem QS.fz{cl:Nat->Addr}{pm:List Nat}{X:Cx}{st:Stmt}{a:TS}{f:FS}(i:Nat)(h:QS cl pm X st a f):QS cl pm X st a (sFz i f):=⟨h.sem,jmU h.den⟩
theorem kt{cl:Nat->Addr}{P:Program}{w:World}{K:PySem.W.Frag}{mg:Str->Option Value}{base:Heap}{x qual:Str}{fst:Stmt}{fa:Addr}{fd:FuncData}{N ps:List Str}{k n:Nat}{fs:FS}(F:Fun K x qual fst fa fd)(b:FnScope N ps (jp fst))(hn:ps.length=n)
  (a:∀(cdv:Value) (A:Around) (outer:List Env) (s:Shared) (H:Hp) (E:XK),Room k (A.deeper (envOfC qual (jp fst) s.heap.objs.size fa cdv)) ->
   ∃ ts,QSs cl [] (jg5 CX0 P w K mg base N qual (jp fst) fa cdv A outer s H E).nox (qE fst) ts fs):FnOk P w K mg base CX0 (k+1) fa fd ps (spP ⟨K,cl⟩ (fnP N.length fs) n):=by
 refine F.ok b (λc H Q E h=>by rw[jhI h,hn]) λcdv A outer s H c Q E d h=>?_;obtain⟨ts,q⟩:=a cdv A outer s H E d;exact⟨ts,q.sem,jjn q.den h⟩
mutual
def jeW:D->PyData
 | .non=>.none | .bl b=>.bool b | .int i=>.int i | .str s=>.str (S s)
 | .tup l=>.tuple (Vg l)
 | .lst _ l=>.list (Vg l)
 | .dK _ _ _=>.none | .dT _ _ _=>.none | .ins _ _ _ _=>.none | .dead=>.none
def Vg:List D->List PyData
 | []=>[]
 | d::l=>jeW d::Vg l
end
mutual
def okE:Nat->D->Bool
 | _,.non=>true | _,.bl _=>true | _,.int _=>true
 | _,.str s=>s.all λc=>decide (c < 1114112)
 | n+1,.tup l=>YW n l
 | n+1,.lst _ l=>YW n l
 | _,_=>false
def YW:Nat->List D->Bool
 | _,[]=>true
 | n,d::l=>okE n d&&YW n l
end
mutual
def eqD:D->D->Bool
 | .non,.non=>true
 | .bl a,.bl b=>a==b
 | .bl a,.int j=>(if a then 1 else 0)==j
 | .int i,.bl b=>i==(if b then 1 else 0)
 | .int i,.int j=>i==j
 | .str a,.str b=>a==b
 | .tup l,.tup m=>jcM l m
 | .lst _ l,.lst _ m=>jcM l m
 | _,_=>false
def jcM:List D->List D->Bool
 | [],[]=>true
 | x::l,y::m=>eqD x y&&jcM l m
 | _,_=>false
end
theorem jbC:∀(n:Nat) (l:List D),YW n l=l.all (okE n)
 | _,[]=>rfl
 | n,d::l=>by rw[YW,jbC n l];rfl
mutual
theorem jeR:∀(n:Nat) (x y:D),okE n x=true->okE n y=true->PyData.eqv (jeW x) (jeW y)=eqD x y
 | n,.non,y,hx,hy=>by cases y<;>first | rfl | (cases n<;>simp_all [okE])
 | n,.bl a,y,hx,hy=>by cases y<;>first | rfl | (cases n<;>simp_all [okE])
 | n,.int a,y,hx,hy=>by cases y<;>first | rfl | (cases n<;>simp_all [okE])
 | n,.str a,y,hx,hy=>by
  cases y with
  | str b =>
   show(S a==S b)=(a==b);rw[Bool.eq_iff_iff];simp[jmq]
  | _=>first | rfl | (cases n<;>simp_all [okE])
 | 0,.tup l,y,hx,hy=>by simp[okE] at hx
 | n+1,.tup l,y,hx,hy=>by
  cases y with
  | tup m=>show PyData.eqvAll (Vg l) (Vg m)=jcM l m;exact jaK n l m (by simpa [okE] using hx) (by simpa [okE] using hy)
  | _=>first | rfl | (simp_all [okE])
 | 0,.lst o l,y,hx,hy=>by simp[okE] at hx
 | n+1,.lst o l,y,hx,hy=>by
  cases y with
  | lst o' m=>show PyData.eqvAll (Vg l) (Vg m)=jcM l m;exact jaK n l m (by simpa [okE] using hx) (by simpa [okE] using hy)
  | _=>first | rfl | (simp_all [okE])
 | n,.dK _ _ _,y,hx,hy=>by cases n<;>simp[okE] at hx
 | n,.dT _ _ _,y,hx,hy=>by cases n<;>simp[okE] at hx
 | n,.ins _ _ _ _,y,hx,hy=>by cases n<;>simp[okE] at hx
 | n,.dead,y,hx,hy=>by cases n<;>simp[okE] at hx
theorem jaK:∀(n:Nat) (l m:List D),YW n l=true->YW n m=true->PyData.eqvAll (Vg l) (Vg m)=jcM l m
 | n,[],[],_,_=>rfl
 | n,[],_::_,_,_=>rfl
 | n,_::_,[],_,_=>rfl
 | n,x::l,y::m,hx,hy=>by
  rw[YW,L9] at hx hy;show(PyData.eqv (jeW x) (jeW y)&&PyData.eqvAll (Vg l) (Vg m))=(eqD x y&&jcM l m);rw[jeR n x y hx.1 hy.1,jaK n l m hx.2 hy.2]
end
mutual
theorem jcc:∀(n:Nat) (x:D),okE n x=true->(jeW x).canLay0=true/\(jeW x).depth<=n
 | n,.non,_=>⟨rfl,U6 _⟩
 | n,.bl _,_=>⟨rfl,U6 _⟩
 | n,.int _,_=>⟨rfl,U6 _⟩
 | n,.str s,h=>by
  refine⟨?_,U6 _⟩;have h:(s.all λc=>decide (c < 1114112))=true:=by cases n<;>simpa [okE] using h
  show PyData.strOk (S s)=true;unfold PyData.strOk S;rw[Array.all_eq_true'];intro c hc;rw[List.all_eq_true] at h;exact h c (by simpa using hc)
 | 0,.tup l,h=>by simp[okE] at h
 | n+1,.tup l,h=>by
  obtain⟨h1,h2⟩:=xi n l (by simpa [okE] using h);exact⟨h1,Nat.succ_le_succ h2⟩
 | 0,.lst o l,h=>by simp[okE] at h
 | n+1,.lst o l,h=>by
  obtain⟨h1,h2⟩:=xi n l (by simpa [okE] using h);exact⟨h1,Nat.succ_le_succ h2⟩
 | n,.dK _ _ _,hx=>by cases n<;>simp[okE] at hx
 | n,.dT _ _ _,hx=>by cases n<;>simp[okE] at hx
 | n,.ins _ _ _ _,hx=>by cases n<;>simp[okE] at hx
 | n,.dead,hx=>by cases n<;>simp[okE] at hx
theorem xi:∀(n:Nat) (l:List D),YW n l=true->PyData.canLayAll0 (Vg l)=true/\PyData.depthAll (Vg l)<=n
 | n,[],_=>⟨rfl,U6 _⟩
 | n,x::l,h=>by
  rw[YW,L9] at h;obtain⟨h1,h2⟩:=jcc n x h.1;obtain⟨h3,h4⟩:=xi n l h.2;rw[Vg];refine⟨?_,?_⟩
  ·show((jeW x).canLay0&&PyData.canLayAll0 (Vg l))=true;rw[h1,h3];rfl
  ·show max (jeW x).depth (PyData.depthAll (Vg l))<=n;exact Nat.max_le.mpr ⟨h2,h4⟩
end
mutual
theorem Rep.reads(I:Inv X pins σ H s):∀(n:Nat) {x:D}{v:V}{u:Value}{O:List Addr},Rep ⟨X.K,cl⟩ Z H x v O->RelV v u->okE n x=true->∃ as,Reads s.heap u (jeW x) as
 | n,.non,_,_,_,r,q,_=>by obtain⟨rfl,_⟩:=r.non_of;cases q;exact⟨_,.none⟩
 | n,.bl b,_,_,_,r,q,_=>by obtain⟨rfl,_⟩:=r.bl_of;cases q;exact⟨_,.bool b⟩
 | n,.int i,_,_,_,r,q,_=>by obtain⟨rfl,_⟩:=r.int_of;obtain⟨t,rfl⟩:=q;exact⟨_,.int i t⟩
 | n,.str w,_,_,_,r,q,_=>by obtain⟨rfl,_⟩:=r.str_of;obtain⟨t,rfl⟩:=q;exact⟨_,.str _ t⟩
 | 0,.tup l,_,_,_,r,q,h=>by simp[okE] at h
 | n+1,.tup l,_,_,_,r,q,h=>by
  obtain⟨a,vs,rfl,hx,rs⟩:=r.tup_of;cases q;obtain⟨its,rv,⟨o,h1,h2,k,h3⟩,_⟩:=I.tuple hx;obtain⟨as,hr⟩:=Reps.reads I n rs rv (by simpa [okE] using h);exact⟨_,reads_tuple_at h1 h2 h3 (by simpa using hr)⟩
 | 0,.lst o l,_,_,_,r,q,h=>by simp[okE] at h
 | n+1,.lst o l,_,_,_,r,q,h=>by
  obtain⟨a,vs,O',rfl,hx,rs⟩:=r.lst_of;cases q;obtain⟨its,rv,⟨o,k,h1,h2,_,h3⟩,_⟩:=I.list hx.sq;obtain⟨as,hr⟩:=Reps.reads I n rs rv (by simpa [okE] using h);exact⟨_,reads_list_at h1 h2 h3 (by simpa using hr)⟩
 | n,.dK _ _ _,_,_,_,_,_,hx=>by cases n<;>simp[okE] at hx
 | n,.dT _ _ _,_,_,_,_,_,hx=>by cases n<;>simp[okE] at hx
 | n,.ins _ _ _ _,_,_,_,_,_,hx=>by cases n<;>simp[okE] at hx
 | n,.dead,_,_,_,_,_,hx=>by cases n<;>simp[okE] at hx
theorem Reps.reads(I:Inv X pins σ H s):∀(n:Nat) {l:List D}{vs:List V}{us:List Value}{O:List Addr},Reps ⟨X.K,cl⟩ Z H l vs O->Vals vs us->YW n l=true->∃ as,ReadsAll s.heap us (Vg l) as
 | n,[],_,_,_,r,q,_=>by rw[Reps] at r;obtain⟨rfl,_⟩:=r;cases q;exact⟨_,.nil⟩
 | n,x::l,_,_,_,r,q,h=>by
  rw[Reps] at r;obtain⟨v,vs,O1,O2,rfl,rfl,r1,r2⟩:=r;rw[YW,L9] at h;cases q with
  | cons q1 q2 =>
   obtain⟨as,h1⟩:=Rep.reads I n r1 q1 h.1;obtain⟨bs,h2⟩:=Reps.reads I n r2 q2 h.2;exact⟨_,.cons h1 h2⟩
end
def jiE(R:RC)(neg:Bool):R2:=λx y H Q=>∃ Z d e O P,Rep R Z H d x O/\Rep R Z H e y P/\okE 20 d=true/\okE 20 e=true/\Q (.bl (neg != eqD d e)) H
theorem jlV  (h:okE 20 x=true):SeqAt.shaped (jeW x)=true:=by
 obtain⟨a,b⟩:=jcc 20 x h;unfold SeqAt.shaped;rw[a,Bool.true_and];exact X2 (N8 b (by decide))
theorem jkR(f:X.A.units+64 < cLine):OpR X (compareOp .Eq) (jiE ⟨X.K,cl⟩ false):=by
 intro c s σ H x y v u Q I g i h;obtain⟨Z,d,e,O,P,j,k,a,b,q⟩:=h;obtain⟨n,l⟩:=j.reads I 20 g a;obtain⟨bs,m⟩:=k.reads I 20 i b;refine eq_dataH l m (jlV a) (jlV b) f ?_;rw[jeR 20 d e a b];exact⟨.bl _,H,I,rfl,by simpa using q⟩
theorem jlH(f:X.A.units+64 < cLine):OpR X (compareOp .NotEq) (jiE ⟨X.K,cl⟩ true):=by
 intro c s σ H x y v u Q I g i h;obtain⟨Z,d,e,O,P,j,k,a,b,q⟩:=h;obtain⟨n,l⟩:=j.reads I 20 g a;obtain⟨bs,m⟩:=k.reads I 20 i b;refine ne_dataH l m (jlV a) (jlV b) f ?_;rw[jeR 20 d e a b];exact⟨.bl _,H,I,rfl,by simpa using q⟩
def kS(x y:D):Option D:=bif VS x&&VS y&&uj x y then some (.bl (eqF x y)) else bif okE 20 x&&okE 20 y then some (.bl (eqD x y)) else none
def jjH(x y:D):Option D:=bif VS x&&VS y&&uj x y then some (.bl (!eqF x y)) else bif okE 20 x&&okE 20 y then some (.bl (!eqD x y)) else none
theorem jmw  : BO R (λx y H Q=>rEq x y H Q \/ jiE R false x y H Q) kS:=by
 intro Z H x y d v u O1 O2 z a b e Q k;unfold kS at e;cases hl:VS x&&VS y&&uj x y with
 | true =>
  rw[hl] at e;cases e;obtain⟨c,f⟩:=jej a b hl;exact .inl ⟨c,by rw[f];exact k (Go.id z) .bl_mk⟩
 | false =>
  rw[hl,cond_false] at e;cases hm:okE 20 x&&okE 20 y with
  | false=>rw[hm] at e;cases e
  | true =>
   rw[hm] at e;cases e;rw[L9] at hm;exact .inr ⟨Z,x,y,O1,O2,a,b,hm.1,hm.2,by simpa using k (Go.id z) .bl_mk⟩
theorem jmX  : BO R (λx y H Q=>rNe x y H Q \/ jiE R true x y H Q) jjH:=by
 intro Z H x y d v u O1 O2 z a b e Q k;unfold jjH at e;cases hl:VS x&&VS y&&uj x y with
 | true =>
  rw[hl] at e;cases e;obtain⟨c,f⟩:=jej a b hl;exact .inl ⟨c,by rw[f];exact k (Go.id z) .bl_mk⟩
 | false =>
  rw[hl,cond_false] at e;cases hm:okE 20 x&&okE 20 y with
  | false=>rw[hm] at e;cases e
  | true =>
   rw[hm] at e;cases e;rw[L9] at hm;exact .inr ⟨Z,x,y,O1,O2,a,b,hm.1,hm.2,by simpa using k (Go.id z) .bl_mk⟩
theorem c_eq  (a:Room k X.A):CmpR cl X .Eq b (λx y H Q=>rEq x y H Q \/ jiE ⟨X.K,cl⟩ false x y H Q) kS:=⟨Q5 jmn (jkR a.units),jmw,jae _⟩
theorem jng  (a:Room k X.A):CmpR cl X .NotEq b (λx y H Q=>rNe x y H Q \/ jiE ⟨X.K,cl⟩ true x y H Q) jjH:=⟨Q5 jl3 (jlH a.units),jmX,jae _⟩
def BM(R:RC)(T:String)(r:V->List V->Hp->VK->Prop)(g:D->List D->Option D):Prop:=∀{Z:Zn}{H:Hp}{x d:D}{xs:List D}{v:V}{vs:List V}{O1 O2:List Addr},Zd Z H->Rep R Z H x v O1->Reps R Z H xs vs O2->g x xs=some d ->
 ∀{Q:VK},(∀{w:V}{Z':Zn}{H':Hp}{P:List Addr},Go Z H [] Z' H' P->Rep R Z' H' d w P->Q w H')->r v vs H Q
def isT:String->D->Bool
 | "str",.str _=>true
 | _,_=>false
def pBM(T:String)(g:D->List D->Option D)(pa:PF)(pr:PAf):PF:=λρ=>match pa ρ with
 | none=>none
 | some x=>bif isT T x then(match pr ρ with
  | none=>none
  | some xs=>g x xs) else none
theorem jkx  (r:Rep R Z H x v O) (h:isT T x=true):tyV R.K T v H:=by
 unfold isT at h;split at h
 ·obtain⟨rfl,_⟩:=r.str_of;rfl
 ·cases h
theorem jmV  (f:BM R T r g) (h:PB R to pa) (i:PBs R ta pr):PP R (tBM R.K T r to ta) (pBM T g pa pr):=by
 intro σ ρ Z H O d z s e Q k;unfold pBM at e;cases e1:pa ρ with
 | none=>rw[e1] at e;cases e
 | some x =>
  rw[e1] at e;dsimp only at e;cases ht:isT T x with
  | false=>rw[ht] at e;cases e
  | true =>
   rw[ht,cond_true] at e;cases e2:pr ρ with
   | none=>rw[e2] at e;cases e
   | some n =>
    rw[e2] at e;refine h z s e1 λ{v o p P1} a c=>⟨jkx c ht,?_⟩;refine i a.wf.zd (a.slots z s) e2 λ{q t u P2} b j=>?_;exact f b.wf.zd (b.rep a.wf.zd c) j e λl m=>k ((a.pair b).pair l) m
end QD
namespace QD
open PySem L2
def K8(i:Nat)(g:D->Rh->Option Rh)(f:FS):Nat->Nat->FS
 | 0,_,_=>none
 | n+1,j,ρ=>match ρ[i]? with
  | some (some (.lst _ l))=>(match l[j]? with
   | none=>some (.nx ρ)
   | some x=>bif frz x then(match g x ρ with
    | none=>none
    | some ρ1=>match f ρ1 with
     | none=>none
     | some (.nx ρ2)=>K8 i g f n (j+1) ρ2
     | some (.ct ρ2)=>K8 i g f n (j+1) ρ2
     | some (.bk ρ2)=>some (.nx ρ2)
     | some (.rt d ρ2)=>some (.rt d ρ2)) else none)
  | _=>none
def jaH(i:Nat)(g:D->Rh->Option Rh)(f:FS):FS:=λρ=>match ρ[i]? with
 | some (some (.lst _ l))=>K8 i g f (l.length+1) 0 ρ
 | _=>none
theorem Keep.sub  (h:∀ i∈pm,i∈pm') (k:Keep pm' σ σ'):Keep pm σ σ':=λi a=>k i (h i a)
theorem Slots.lst{ρ:Rh}{O:List Addr}{i:Nat}{l:List D}(s:Slots R Z H ρ σ O)(h:ρ[i]?=some (some (.lst o l))):∃ a vs O',σ[i]?=some (some (.ref a))/\SqX R.K H a vs/\Reps R Z H l vs O':=by
 obtain⟨A,P,B,rfl,b,_,_⟩:=s.put (L8.mp h).1;obtain⟨v,c,r⟩:=b _ h;obtain⟨a,vs,O',rfl,d,e⟩:=r.lst_of;exact⟨a,vs,O',c,d,e⟩
theorem jhW{pm:List Nat}{i:Nat}{g:D->Rh->Option Rh}(hg:PGt R (i::pm) tg g)(hf:DS R (i::pm) tb f)(inj:∀{H a xs ys},SqL R.K H a xs->SqL R.K H a ys->True):DS R pm (jlm (jhy R.K (J5 i)) tg tb) (jaH i g f):=by
 intro σ ρ Z H O o w s e D' k;unfold jaH at e;split at e
 ·rename_i o0 l0 N;obtain⟨a,Q,O0,ea,S,rs0⟩:=s.lst N;refine⟨.ref a,ea,.inl ⟨a,rfl,⟨Q,S.sq⟩,?_⟩⟩;refine⟨λj m T U=>∃ n I J V,m=n/\Go Z H O J U V/\Slots R J U I T V/\Keep (i::pm) σ T/\K8 i g f n j I=some o,⟨l0.length+1,_,ρ,Z,O,rfl,Go.refl w,s,Keep.refl _ _,e⟩,?_⟩;rintro j m T U ⟨n,I,J,V,em,W,X,kp,c⟩;subst em;cases m with
  | zero=>cases c
  | succ n =>
   unfold K8 at c;split at c
   ·rename_i o1 l hl;obtain⟨a',Y,O1,ea',hx,rs⟩:=X.lst hl;have:a'=a:=by
     have q:=kp i L6;rw[ea',ea] at q;cases q;rfl
    subst this;cases hj:l[j]? with
    | none =>
     rw[hj] at c;cases c
     left
     refine⟨⟨Y,hx.sq,?_⟩,k W X (kp.sub λb y=>L5 _ y)⟩;rw[rs.length];exact List.getElem?_eq_none_iff.mp hj
    | some x =>
     rw[hj] at c;dsimp only at c;cases hf':frz x with
     | false=>rw[hf'] at c;cases c
     | true =>
      rw[hf',cond_true] at c
      right
      obtain⟨v,A,P,B,ev,_,rv,_⟩:=rs.at hj;cases rv.nil hf';cases e3:g x I with
      | none=>rw[e3] at c;cases c
      | some ρ1 =>
       rw[e3] at c;dsimp only at c;cases e4:f ρ1 with
       | none=>rw[e4] at c;cases c
       | some o2 =>
        rw[e4] at c;refine⟨⟨Y,v,hx.sq,ev⟩,λσ2 z=>∃ h L O2,Go Z H O L z O2/\Slots R L z h σ2 O2/\Keep (i::pm) σ σ2/\K8 i g f n (j+1) h=some o,λσ2 z ⟨h,L,O2,a1,a2,a3,a4⟩=>⟨n,Nat.lt_succ_self _,n,h,L,O2,rfl,a1,a2,a3,a4⟩,λu z hy=>?_⟩;obtain⟨rfl,hy⟩:=hy;have C:=hy Y hx.sq;rw[ev] at C;cases C;refine hg rv X e3 λ{σ3 O3} sub nd s3 M=>?_;have E:Go Z H O J z O3:=W.drop sub (nd W.wf.nd);refine hf E.wf s3 e4 ?_;cases o2 with
        | nx h=>exact λ{σ4 F H4 G} p r t=>⟨h,F,G,E.trans p,r,kp.trans (M.trans t),c⟩
        | ct h=>exact λ{σ4 F H4 G} p r t=>⟨h,F,G,E.trans p,r,kp.trans (M.trans t),c⟩
        | bk h=>cases c;exact λ{σ4 F H4 G} p r t=>k (E.trans p) r ((kp.trans (M.trans t)).sub λb y=>L5 _ y)
        | rt d h=>cases c;exact λ{v4 σ4 F H4 P4 G} p r4 r t=>k (E.trans p) r4 r ((kp.trans (M.trans t)).sub λb y=>L5 _ y)
   ·cases c
 ·cases e
def ItB(R:RC)(J:It)(Z:Zn)(H:Hp)(xs:List D):Prop:=∀{Z1:Zn}{H1:Hp},(∀ a,Z a->Z1 a)->(∀ a,H a≠none->H1 a=H a)->Zd Z1 H1->∀ i:Nat,
 (xs.length<=i->J.stop i H1)/\∀ x,xs[i]?=some x->J.go i H1/\∀ u H2,J.yld i H1 u H2->∃ Z2,Go Z1 H1 [] Z2 H2 []/\Rep R Z2 H2 x u []
def jlW(R:RC)(wi:TI)(p:PAf):Prop:=∀{σ:St}{ρ:Rh}{Z:Zn}{H:Hp}{O:List Addr}{xs:List D},Zd Z H->Slots R Z H ρ σ O->p ρ=some xs ->
 ∀{Q:It->Hp->Prop},(∀{J:It}{Z':Zn}{H':Hp},Go Z H [] Z' H' []->ItB R J Z' H' xs->Q J H')->wi σ H Q
theorem PIt.b  (h:PIt R wi p):jlW R wi p:=by
 intro σ ρ Z H O j z s e Q k;refine h z s e λg c=>k g ?_;intro l m d f zd i;exact c d (λa z=>f a (g.wf.zd a z)) zd i
def VP(p:PF):PAf:=λρ=>match p ρ with
 | some (.lst _ l)=>bif frzs l then some l else none
 | some (.tup l)=>bif frzs l then some l else none
 | some (.str s)=>some (s.map λc=>.str [c])
 | _=>none
theorem jfg  (b:∀ a,H a≠none->H' a=H a) (h:SqX K H a vs):SqX K H' a vs:=by
 rcases h with h | h
 ·refine .inl (Rd.agree (b a ?_) h);rcases h with h | ⟨o,h⟩<;>rw[h]<;>exact λz=>(nomatch z)
 ·exact .inr h
theorem jgH  (b:∀ a,H a≠none->H' a=H a) (h:SqT K H a vs):SqT K H' a vs:=by
 rcases h with h | h
 ·refine .inl (Rd.agree (b a ?_) h);rcases h with h | ⟨o,h⟩<;>rw[h]<;>exact λz=>(nomatch z)
 ·exact .inr h
theorem jkC  (h:PB R te p):jlW R (jhy R.K te) (VP p):=by
 intro σ ρ Z H O P z s e Q k;unfold VP at e;split at e
 ·rename_i o l y;cases hf:frzs l with
  | false=>rw[hf] at e;cases e
  | true =>
   rw[hf] at e;cases e;refine h z s y λ{v I J P1} f A=>?_;obtain⟨a,d,T,rfl,B,C⟩:=A.lst_of;have g:=C.frozen hf;refine .inl ⟨a,rfl,⟨d,B.sq⟩,k f ?_⟩;intro r G D j zd i;have c:=SqX.sq (jfg j B);have m:Reps R r G P d []:=g.frame D (λb z=>j b (f.wf.zd b z)) λb L=>(nomatch L);refine⟨λM=>⟨d,c,by rw[C.length];exact M⟩,λx n=>?_⟩;obtain⟨u,E,N⟩:=m.item n;refine⟨⟨d,u,c,E⟩,λw S q=>?_⟩;obtain⟨rfl,q⟩:=q;have F:=q d c;rw[E] at F;cases F;exact⟨r,Go.id zd,N⟩
 ·rename_i l y;cases hf:frzs l with
  | false=>rw[hf] at e;cases e
  | true =>
   rw[hf] at e;cases e;refine h z s y λ{v I J P1} f A=>?_;obtain⟨a,d,rfl,B,C⟩:=A.tup_of;have g:=C.frozen hf;refine .inr (.inl ⟨a,rfl,⟨d,B⟩,k f ?_⟩);intro r G D j zd i;have c:=jgH j B;have m:Reps R r G P d []:=g.frame D (λb z=>j b (f.wf.zd b z)) λb L=>(nomatch L);refine⟨λM=>⟨d,c,by rw[C.length];exact M⟩,λx n=>?_⟩;obtain⟨u,E,N⟩:=m.item n;refine⟨⟨d,u,c,E⟩,λw S q=>?_⟩;obtain⟨rfl,q⟩:=q;have F:=q d c;rw[E] at F;cases F;exact⟨r,Go.id zd,N⟩
 ·rename_i t y;cases e;refine h z s y λ{v I J P1} f A=>?_;obtain⟨rfl,_⟩:=A.str_of;refine .inr (.inr ⟨t,rfl,k f ?_⟩);intro r G D j zd i;exact jgU (Z:=I) (H:=J) D (λb z=>j b (f.wf.zd b z)) zd i
 ·cases e
theorem jbZ  (hi:jlW R wi pi) (hg:PGt R [] tg g) (hq:PTt R tc q) (he:PP R te p) :
  PP R (ud wi tg tc te ix) (yT pi g q p ix):=by
 intro σ ρ Z H O d z s e Q k;unfold yT at e;cases e1:pi ρ with
 | none=>rw[e1] at e;cases e
 | some h =>
  rw[e1] at e;dsimp only at e;cases hl:lim h.length with
  | false=>rw[hl] at e;cases e
  | true =>
   rw[hl,cond_true] at e;cases e2:jM g q p h (jE ix ρ) with
   | none=>rw[e2] at e;cases e
   | some all =>
    rw[e2] at e;cases e;refine hi z s e1 λ{J F L} g0 it=>?_;intro a ha;have M:=g0.wf.zd;obtain⟨Oi,si⟩:=Kj (g0.slots z s) ix;have gp:Go F L [] F (upd L a (.lst [])) [a]:=Go.newO (wf0 M) ha;refine⟨λi m σ2 w=>m=h.length - i/\i<=h.length/\∃ W G O2 x l j rest,Go F L [] G w (a::j)/\w a=some (.lst l)/\Reps R G w x l j/\(∀ b∈O2,b≠a)/\Slots R G w W σ2 O2/\jM g q p (h.drop i) W=some rest/\all=x++rest/\x.length<=i,
     ⟨h.length,rfl,U6 _,_,F,Oi,[],[],[],all,gp,jD,Reps.empty,λb o e=>si.dom b o (e▸ha),gp.slots M si,e2,rfl,M8 _⟩,?_⟩
    rintro i m σ2 w ⟨rfl,hi',W,G,O2,x,l,j,rest,r,N,X,na,s2,c,Y,C⟩;have S:=it (Z1:=G) (H1:=w) r.zz (λb z=>r.same b z) r.wf.zd i;by_cases D:i < h.length
    ·right
     have hx:h[i]?=some h[i]:=by simp[D]
     obtain⟨go,yl⟩:=S.2 _ hx;refine⟨go,λu H3 hy=>?_⟩;obtain⟨Z3,I,r3⟩:=yl u H3 hy;rw[KS hx] at c;unfold jM at c;cases e5:g h[i] W with
     | none=>rw[e5] at c;cases c
     | some T =>
      rw[e5] at c;dsimp only at c;refine hg r3 (I.slots r.wf.zd s2) e5 λ{σ4 O4} sub nd s4 _=>?_;cases e6:q T with
      | none=>rw[e6] at c;cases c
      | some b =>
       rw[e6] at c;dsimp only at c;refine hq I.wf.zd s4 e6 λ{Z5 H5} U=>?_;have t:=I.pair U;cases b with
       | true =>
        refine jfu ?_;rw[cond_true] at c;cases e7:p T with
        | none=>rw[e7] at c;cases c
        | some y =>
         rw[e7] at c;dsimp only at c;cases e8:jM g q p (h.drop (i+1)) T with
         | none=>rw[e8] at c;cases c
         | some ys2 =>
          rw[e8] at c;cases c;refine he U.wf.zd (U.slots I.wf.zd s4) e7 λ{v6 K v P6} g6 r6=>?_;have E:Go G w [] K v P6:=by simpa using t.pair g6
          have ea6:v a=some (.lst l):=by rw[E.same a (by rw[N];exact λz=>(nomatch z))];exact N
          have hvl:l.length < sizeLine:=by
           rw[X.length];exact wn (n:=x.length) (X2 (N8 C (N8 hi' (X5 hl))))
          have gA:Go F L [] K v (a::j++P6):=by
           have f:=E.frame (A:=a::j) (B:=[]) (by simpa using r.wf);exact r.trans (by simpa using f)
          have w6:=gA.wf;have gB:Go K v (a::j++P6) K (upd v a (.lst (l++[v6]))) (a::j++P6):=Go.put w6 L6;have nd6:=List.nodup_cons.mp w6.nd;have ne:∀ b,b∈j++P6->upd v a (.lst (l++[v6])) b=v b:=λb o=>jm λz=>nd6.1 (z▸o);have V:∀ b,K b->upd v a (.lst (l++[v6])) b=v b:=λb o=>jm λz=>w6.nz a L6 (z▸o);refine⟨l,ea6,hvl,h.length - (i+1),by omega,rfl,D,T,K,O4,x++[y],l++[v6],j++P6,ys2,gA.trans gB,jD,?_,λb o=>na b (sub b o),?_,e8,by rw[Y];simp,by rw[N5];exact Nat.add_le_add_right C 1⟩
          ·refine((E.reps r.wf.zd X).append (.one r6)).frame (λb z=>z) V ne
          ·exact((U.pair g6).slots I.wf.zd s4).frame (λb z=>z) V λb o=>jm (na b (sub b o))
       | false =>
        refine jfN ?_;rw[cond_false] at c;have gA:Go F L [] Z5 H5 (a::j):=by
         have f:=t.frame (A:=a::j) (B:=[]) (by simpa using r.wf);exact r.trans (by simpa using f)
        exact⟨h.length - (i+1),by omega,rfl,D,T,Z5,O4,x,l,j,rest,gA,by rw[t.same a (by rw[N];exact λz=>(nomatch z))];exact N,t.reps r.wf.zd X,λb o=>na b (sub b o),U.slots I.wf.zd s4,c,Y,Nat.le_succ_of_le C⟩
    ·left
     have hi2:i=h.length:=by omega
     refine⟨S.1 (by omega),?_⟩;rw[hi2,List.drop_length] at c;cases c;rw[M9] at Y;subst Y;refine k (P:=a::j) (by simpa using g0.pair r) ?_;rw[Rep];exact⟨a,l,j,rfl,X,N,rfl⟩
structure QIb(cl:Nat->Addr)(X:Cx)(tg e:Expr)(wi:TI)(p:PAf):Prop where
 sem:PI X tg e wi
 den:jlW ⟨X.K,cl⟩ wi p
theorem QI.b'(h:QI cl X tg e wi pi):QIb cl X tg e wi pi:=⟨h.sem,PIt.b h.den⟩
theorem vg(h:QB cl X e te pe):QIb cl X tg e (jhy X.K te) (VP pe):=⟨jdn h.sem,jkC h.den⟩
theorem vh  (B:BlockOk X scope N' ix) (d:X.calm=true) (hi:QIb cl X tg iter wi pi)
  (b:∀ C s H fp,QG cl [] (vc X scope N' C s H fp) tg t g) (a:∀ C s H fp,QIf cl (vc X scope N' C s H fp) ifs tcc qq) (c:∀ C s H fp,QP cl (vc X scope N' C s H fp) elt te pe)
  (e:∀ x,foldedSetIterable iter X.env x=pure x:=by intro _;rfl):QP cl X (.ListComp elt [⟨tg,iter,ifs,0⟩] scope pos) (ud wi t tcc te ix) (yT pi g qq pe ix) :=
 ⟨jbj B d hi.sem (λC s H fp=>(b C s H fp).sem) (λC s H fp=>(a C s H fp).sem) (λC s H fp=>(c C s H fp).sem) e,
  jbZ hi.den (b 0 X.s₀ X.H₀ []).den (a 0 X.s₀ X.H₀ []).den (c 0 X.s₀ X.H₀ []).den⟩
theorem vy  (B:BlockOk X scope N' ix) (h:X.calm=true) (hi:QIb cl X tg iter wi pi)
  (e:∀ C s H fp,QG cl [] (vc X scope N' C s H fp) tg t g) (a:∀ C s H fp,QIf cl (vc X scope N' C s H fp) ifs tcc qq) (f:∀ C s H fp,QP cl (vc X scope N' C s H fp) elt te pe)
  (j:X.N.Nodup) (b:X.N[i]?=some x:=by rfl) (k:Loc X.env.scope x:=by first | exact Or.inl rfl | exact Or.inr rfl)
  (c:swapsWith (.ListComp elt [⟨tg,iter,ifs,0⟩] scope pos) (some (.Name x pos')) spos.line X.env=pure true:=by with_unfolding_all rfl)
  (l:∀ x,foldedSetIterable iter X.env x=pure x:=by intro _;rfl)
  (m:X.fn x=true \/ X.env.scope.names.lookup x=some .local:=by first | exact .inl rfl | exact .inr rfl) :
  QS cl pm X (.Assign [.Name x pos'] (.ListComp elt [⟨tg,iter,ifs,0⟩] scope pos) spos) (jfp (ud wi t tcc te ix) (zm i)) (yz (dP (yT pi g qq pe ix)) (jk pm i)) :=
 ⟨jcT B h hi.sem (λC s H fp=>(e C s H fp).sem) (λC s H fp=>(a C s H fp).sem) (λC s H fp=>(f C s H fp).sem) j b k c l m,
  jeM (PP.d (jbZ hi.den (e 0 X.s₀ X.H₀ []).den (a 0 X.s₀ X.H₀ []).den (f 0 X.s₀ X.H₀ []).den)) jd2⟩
theorem jhJ  (c:PassesOwn (model X.prog X.w) X.A X.env X.xe) (d:X.calm=true) (e:QB cl X (.Name x xpos) (J5 i) (pV i)) (a:QG cl (i::pm) X tg t g) (b:QSs cl (i::pm) X body ts f)
  (h:∀ z,foldedSetIterable (.Name x xpos) X.env z=pure z:=by intro _;rfl):QS cl pm X (.For tg (.Name x xpos) body [] pos) (jlm (jhy X.K (J5 i)) t ts) (jaH i g f) :=
 ⟨jhj c d (jdn e.sem) a.sem b.sem h,jhW a.den b.den λ_ _=>trivial⟩
def Out.thn:Out->FS->Option Out
 | .nx ρ,g=>g ρ
 | .rt d ρ,_=>some (.rt d ρ)
 | .bk ρ,_=>some (.bk ρ)
 | .ct ρ,_=>some (.ct ρ)
@[simp] theorem jbP(ρ:Rh)(g:FS):(Out.nx ρ).thn g=g ρ:=rfl
@[simp] theorem thn_rt(d:D)(ρ:Rh)(g:FS):(Out.rt d ρ).thn g=some (.rt d ρ):=rfl
@[simp] theorem thn_bk(ρ:Rh)(g:FS):(Out.bk ρ).thn g=some (.bk ρ):=rfl
@[simp] theorem thn_ct(ρ:Rh)(g:FS):(Out.ct ρ).thn g=some (.ct ρ):=rfl
@[simp] theorem jcd:jR f g ρ=(f ρ).bind λo=>o.thn g:=by
 unfold jR;cases h:f ρ with
 | none=>rfl
 | some o=>cases o<;>rfl
@[simp] theorem sNext_e:yB ρ=some (.nx ρ):=rfl
@[simp] theorem sRet_e:km fe ρ=(fe ρ).bind λx=>some (.rt x.1 x.2):=by unfold km;cases fe ρ<;>rfl
@[simp] theorem sDrop_e:jcS fe ρ=(fe ρ).bind λx=>some (.nx x.2):=by unfold jcS;cases fe ρ<;>rfl
@[simp] theorem jg0  : yz fe G ρ=(fe ρ).bind λx=>(G x.1 x.2).bind λr=>some (.nx r):=by
 unfold yz;cases fe ρ with
 | none=>rfl
 | some x=>obtain⟨d,r⟩:=x;dsimp only[Option.bind];cases G d r<;>rfl
@[simp] theorem sIf_e  : sIf ft f g ρ=(ft ρ).bind λx=>bif x.1 then f x.2 else g x.2:=by unfold sIf;cases ft ρ<;>rfl
@[simp] theorem dP_e:dP pa ρ=(pa ρ).bind λd=>some (d,ρ):=by unfold dP;cases pa ρ<;>rfl
@[simp] theorem dPT_e:dPT q ρ=(q ρ).bind λd=>some (d,ρ):=by unfold dPT;cases q ρ<;>rfl
@[simp] theorem dMv_e  : dMv i ρ=(pV i ρ).bind λd=>some (d,ρ.set i none):=by
 unfold dMv pV;cases ρ[i]? with
 | none=>rfl
 | some o=>cases o<;>rfl
@[simp] theorem pC_e  : pC d ρ=some d:=rfl
@[simp] theorem pN_e:pN ρ=some []:=rfl
@[simp] theorem qT_e:qT ρ=some true:=rfl
@[simp] theorem oN_e:oN ρ=some none:=rfl
@[simp] theorem pV0  : pV 0 (o::ρ)=o:=by unfold pV;cases o<;>rfl
@[simp] theorem pVs  : pV (i+1) (o::ρ)=pV i ρ:=rfl
@[simp] theorem p2_e  : p2 G pa pb ρ=(pa ρ).bind λx=>(pb ρ).bind λy=>G x y:=by
 unfold p2;cases pa ρ with
 | none=>rfl
 | some x=>dsimp only[Option.bind];cases pb ρ<;>rfl
@[simp] theorem p1_e  : p1 G pa ρ=(pa ρ).bind G:=by unfold p1;cases pa ρ<;>rfl
@[simp] theorem pF_e:pF pa ρ=(pa ρ).bind λd=>bif frz d then some d else none:=by unfold pF;cases pa ρ<;>rfl
@[simp] theorem jiM:jc pa p ρ=(pa ρ).bind λx=>(p ρ).bind λxs=>some (x::xs):=by
 unfold jc;cases pa ρ with
 | none=>rfl
 | some x=>dsimp only[Option.bind];cases p ρ<;>rfl
@[simp] theorem wP  : pCB G p ρ=(p ρ).bind G:=by unfold pCB;cases p ρ<;>rfl
@[simp] theorem pTup_e:qv p ρ=(p ρ).bind λxs=>bif lim xs.length then some (.tup xs) else none:=by unfold qv;rw[wP]
@[simp] theorem pLst_e:qX p ρ=(p ρ).bind λxs=>bif lim xs.length then some (.lst true xs) else none:=by unfold qX;rw[wP]
@[simp] theorem YF  : jW m p ρ=(p ρ).bind λds=>(m (fzs ds)).bind λd=>bif frzs ds||kT d then some d else none:=by
 unfold jW;cases p ρ with
 | none=>rfl
 | some x=>dsimp only[Option.bind];cases m (fzs x)<;>rfl
def jjP:D->Option Bool
 | .bl b=>some b
 | _=>none
@[simp] theorem blOf_bl(b:Bool):jjP (.bl b)=some b:=rfl
@[simp] theorem jhC:js pa ρ=(pa ρ).bind jjP:=by
 unfold js;cases pa ρ with
 | none=>rfl
 | some d=>cases d<;>rfl
@[simp] theorem qNot_e:je9 q ρ=(q ρ).bind λb=>some (!b):=by unfold je9;cases q ρ<;>rfl
@[simp] theorem jlJ:VT q q' ρ=(q ρ).bind λb=>bif b then q' ρ else some false:=by unfold VT;cases q ρ<;>rfl
@[simp] theorem qOr_e:qOr q q' ρ=(q ρ).bind λb=>bif b then some true else q' ρ:=by unfold qOr;cases q ρ<;>rfl
@[simp] theorem pNot_e:jhk pa ρ=(pa ρ).bind λd=>(jjP d).bind λb=>some (.bl (!b)):=by
 unfold jhk;cases pa ρ with
 | none=>rfl
 | some d=>cases d<;>rfl
@[simp] theorem pAnd_e:VX pa pb ρ=(pa ρ).bind λd=>(jjP d).bind λb=>bif b then pb ρ else some (.bl false):=by
 unfold VX;cases pa ρ with
 | none=>rfl
 | some d=>cases d<;>rfl
@[simp] theorem pOr_e:pOr pa pb ρ=(pa ρ).bind λd=>(jjP d).bind λb=>bif b then some (.bl true) else pb ρ:=by
 unfold pOr;cases pa ρ with
 | none=>rfl
 | some d=>cases d<;>rfl
@[simp] theorem pIf_e:pIf q pa pb ρ=(q ρ).bind λb=>bif b then pa ρ else pb ρ:=by unfold pIf;cases q ρ<;>rfl
@[simp] theorem oS_e:oS pa ρ=(pa ρ).bind λd=>match d with | .int i=>some (some i) | _=>none:=by
 unfold oS;cases pa ρ with
 | none=>rfl
 | some d=>cases d<;>rfl
@[simp] theorem pSl_e  : pSl pa pl ph ρ=(pa ρ).bind λx=>(pl ρ).bind λlo=>(ph ρ).bind λhi=>jc3 lo hi x:=by
 unfold pSl;cases pa ρ with
 | none=>rfl
 | some x =>
  dsimp only[Option.bind];cases pl ρ with
  | none=>rfl
  | some lo=>dsimp only;cases ph ρ<;>rfl
@[simp] theorem gSet_e  : jk pm i d ρ=bif decide (i < ρ.length)&&!decide (i∈pm) then some (ρ.set i (some d)) else none:=rfl
@[simp] theorem gN_e:gN [] ρ=some ρ:=rfl
@[simp] theorem gC_e  : gC G Gs (d::r) ρ=(G d ρ).bind λρ1=>Gs r ρ1:=by
 show(match G d ρ with | none=>none | some ρ1=>Gs r ρ1)=_;cases G d ρ<;>rfl
@[simp] theorem gT_e  : gT n Gs (.tup l) ρ=bif decide (l.length=n) then Gs l ρ else none:=rfl
@[simp] theorem sAsgT_e  : jf5 fe G ρ=(fe ρ).bind λx=>(bif frz x.1 then G x.1 x.2 else none).bind λr=>some (.nx r):=by unfold jf5;rw[jg0]
@[simp] theorem sFz_e  : sFz i f ρ=match pV i ρ with | some d=>f (ρ.set i (some (fz d))) | none=>f ρ:=by
 unfold sFz pV;cases ρ[i]? with
 | none=>rfl
 | some o=>cases o<;>rfl
def jh8:D->Option (List D)
 | .lst true l=>some l
 | _=>none
@[simp] theorem lstOf_lst(l:List D):jh8 (.lst true l)=some l:=rfl
@[simp] theorem sApp_e  : ut i pa ρ=(pa ρ).bind λd=>(pV i ρ).bind λx=>(jh8 x).bind λl=>bif lim l.length then some (.nx (ρ.set i (some (.lst true (l++[d]))))) else none:=by
 unfold ut pV;cases pa ρ with
 | none=>rfl
 | some d =>
  dsimp only[Option.bind];cases ρ[i]? with
  | none=>rfl
  | some o=>cases o with
   | none=>rfl
   | some x=>cases x with
    | lst o l=>cases o<;>rfl
    | _=>rfl
@[simp] theorem sFor_e  : KP p G f ρ=(p ρ).bind λxs=>kO G f xs ρ:=by unfold KP;cases p ρ<;>rfl
@[simp] theorem pIt_e:pIt pa ρ=(pa ρ).bind zC:=by unfold pIt;cases pa ρ<;>rfl
@[simp] theorem pItB_lst  : VP pa ρ=(pa ρ).bind λd=>match d with | .lst _ l=>bif frzs l then some l else none | .tup l=>bif frzs l then some l else none | .str s=>some (s.map λc=>D.str [c]) | _=>none:=by
 unfold VP;cases pa ρ with
 | none=>rfl
 | some d=>cases d<;>rfl
def V0:List D->Option (List D)
 | [.lst _ l]=>some (yA 0 (fzs l))
 | _=>none
noncomputable def jhn:List D->Option (List D)
 | [.int j]=>bif ww j then some (Jn 0 j.toNat) else none
 | _=>none
@[simp] theorem enumOf_e(o:Bool)(l:List D):V0 [.lst o l]=some (yA 0 (fzs l)):=rfl
theorem jeJ  (h:-(2 ^ 62) < j) (k:j < 2 ^ 62):ww j=true:=Nat.ble_eq_true_of_le (by omega)
theorem vK  (h:-(2 ^ 62) < j) (k:j < 2 ^ 62):jhn [.int j]=some (Jn 0 j.toNat):=by
 show(bif ww j then some (Jn 0 j.toNat) else none)=_;rw[jeJ h k];rfl
@[simp] theorem pEnum_e  : QF p ρ=(p ρ).bind V0:=by
 unfold QF;cases p ρ with
 | none=>rfl
 | some d =>
  match d with
  | []=>rfl
  | [x]=>cases x<;>rfl
  | x::y::r=>cases x<;>rfl
@[simp] theorem pRng1_e  : YI p ρ=(p ρ).bind jhn:=by
 unfold YI;cases p ρ with
 | none=>rfl
 | some d =>
  match d with
  | []=>rfl
  | [x]=>cases x<;>rfl
  | x::y::r=>cases x<;>rfl
@[simp] theorem jez  : yT pi G q pa ix ρ=(pi ρ).bind λxs=>bif lim xs.length then((jM G q pa xs (jE ix ρ)).bind λys=>some (.lst true ys)) else none:=by
 unfold yT;cases pi ρ with
 | none=>rfl
 | some xs =>
  dsimp only[Option.bind];cases lim xs.length with
  | false=>rfl
  | true=>dsimp only[cond];cases jM G q pa xs (jE ix ρ)<;>rfl
@[simp] theorem pIsI_e  : jaz T pa ρ=(pa ρ).bind λd=>(tyD d).bind λt=>some (.bl (ul t T)):=by
 unfold jaz;cases pa ρ with
 | none=>rfl
 | some d=>dsimp only[Option.bind];cases tyD d<;>rfl
noncomputable def Out.val:Out->Option D
 | .rt d _=>some d
 | .nx _=>some .non
 | _=>none
@[simp] theorem val_rt(d:D)(ρ:Rh):(Out.rt d ρ).val=some d:=rfl
@[simp] theorem val_nx(ρ:Rh):(Out.nx ρ).val=some .non:=rfl
theorem jX(n:Nat)(f:FS)(ds:List D):fnP n f ds=(f (ds.map some++List.replicate (n - ds.length) none)).bind Out.val:=by
 unfold fnP;cases f (ds.map some++List.replicate (n - ds.length) none) with
 | none=>rfl
 | some o=>cases o<;>rfl
@[simp] theorem sLoop_nil  : kO G f [] ρ=some (.nx ρ):=rfl
noncomputable def Out.loop:Out->FS->Option Out
 | .nx ρ,g=>g ρ
 | .ct ρ,g=>g ρ
 | .bk ρ,_=>some (.nx ρ)
 | .rt d ρ,_=>some (.rt d ρ)
@[simp] theorem Jk(ρ:Rh)(g:FS):(Out.nx ρ).loop g=g ρ:=rfl
@[simp] theorem loop_ct(ρ:Rh)(g:FS):(Out.ct ρ).loop g=g ρ:=rfl
@[simp] theorem loop_bk(ρ:Rh)(g:FS):(Out.bk ρ).loop g=some (.nx ρ):=rfl
@[simp] theorem loop_rt(d:D)(ρ:Rh)(g:FS):(Out.rt d ρ).loop g=some (.rt d ρ):=rfl
theorem vm  : kO G f (x::xs) ρ=(G x ρ).bind λr=>(f r).bind λo=>o.loop (kO G f xs):=by
 rw[kO];cases G x ρ with
 | none=>rfl
 | some r =>
  dsimp only[Option.bind];cases f r with
  | none=>rfl
  | some o=>cases o<;>rfl
@[simp] theorem cLoop_nil  : jM G q p [] ρ=some []:=rfl
theorem jJ  : jM G q p (x::xs) ρ=(G x ρ).bind λr=>(q r).bind λb=>bif b then((p r).bind λy=>(jM G q p xs r).bind λys=>some (y::ys)) else jM G q p xs r:=by
 rw[jM];cases G x ρ with
 | none=>rfl
 | some r =>
  dsimp only[Option.bind];cases q r with
  | none=>rfl
  | some b=>cases b with
   | false=>rfl
   | true =>
    dsimp only[cond];cases p r with
    | none=>rfl
    | some y=>dsimp only;cases jM G q p xs r<;>rfl
theorem vj  (P:Nat->Rh->Prop) (step:∀ i x ρ,xs[i]?=some x->P i ρ->∃ ρ1 ρ2,G x ρ=some ρ1/\(f ρ1=some (.nx ρ2) \/ f ρ1=some (.ct ρ2))/\P (i+1) ρ2)  (h0:P 0 ρ) :
  ∃ ρ',kO G f xs ρ=some (.nx ρ')/\P xs.length ρ':=by
 have c:∀(n i:Nat) (ρ:Rh),xs.length - i=n->i<=xs.length->P i ρ->∃ ρ',kO G f (xs.drop i) ρ=some (.nx ρ')/\P xs.length ρ':=by
  intro n
  induction n with
  | zero =>
   intro i ρ e g p;have:i=xs.length:=by omega
   subst this;exact⟨ρ,by rw[List.drop_length];rfl,p⟩
  | succ n h =>
   intro i ρ e g p;have a:i < xs.length:=by omega
   have d:xs[i]?=some xs[i]:=by simp[a]
   obtain⟨ρ1,ρ2,j,b,p2⟩:=step i _ ρ d p;obtain⟨ρ',k,p3⟩:=h (i+1) ρ2 (by omega) a p2;refine⟨ρ',?_,p3⟩;rw[KS d,vm,j];rcases b with b | b<;>simp[b,k]
 exact c _ 0 ρ rfl (U6 _) h0
theorem jds  (P:Nat->Rh->Prop) (k:∀ j ρ,P j ρ->pV i ρ=some (.lst o l))
  (step:∀ j x ρ,l[j]?=some x->P j ρ->frz x=true/\∃ ρ1 ρ2,G x ρ=some ρ1/\(f ρ1=some (.nx ρ2) \/ f ρ1=some (.ct ρ2))/\P (j+1) ρ2)  (h0:P 0 ρ) :
  ∃ ρ',jaH i G f ρ=some (.nx ρ')/\P l.length ρ':=by
 have at_:∀ j ρ,P j ρ->ρ[i]?=some (some (.lst o l)):=by
  intro j ρ p;have h:=k j ρ p;unfold pV at h;split at h
  ·rename_i d hd;cases h;exact hd
  ·cases h
 have c:∀(n j:Nat) (ρ:Rh),l.length - j=n->j<=l.length->P j ρ->∃ ρ',K8 i G f (n+1) j ρ=some (.nx ρ')/\P l.length ρ':=by
  intro n
  induction n with
  | zero =>
   intro j ρ m q p;have:j=l.length:=by omega
   subst this;refine⟨ρ,?_,p⟩;unfold K8;rw[at_ _ ρ p];simp
  | succ n r =>
   intro j ρ m q p;have a:j < l.length:=by omega
   have g:l[j]?=some l[j]:=by simp[a]
   obtain⟨s,ρ1,ρ2,t,b,p2⟩:=step j _ ρ g p;obtain⟨ρ',u,p3⟩:=r (j+1) ρ2 (by omega) a p2;refine⟨ρ',?_,p3⟩;unfold K8;rw[at_ _ ρ p];dsimp only;rw[g];dsimp only;rw[s,cond_true,t];rcases b with b | b<;>simp[b,u]
 obtain⟨ρ',e,p⟩:=c _ 0 ρ rfl (U6 _) h0;refine⟨ρ',?_,p⟩;unfold jaH;rw[at_ _ ρ h0];simpa using e
theorem jdR{G:D->Rh->Option Rh}{xs:List D}{l:List α}{en:α->D}{out:α->D}(a:xs=l.map en)(P:Rh->Prop)(step:∀ x∈l,∀ ρ,P ρ->∃ ρ1,G (en x) ρ=some ρ1/\p ρ1=some (out x)/\P ρ1){ρ:Rh}(h0:P ρ):jM G qT p xs ρ=some (l.map out):=by
 subst a
 induction l generalizing ρ with
 | nil=>rfl
 | cons x l b =>
  obtain⟨ρ1,c,d,p1⟩:=step x L6 ρ h0;rw[L4,jJ,c];simp[d,b (λy e=>step y (L5 _ e)) p1]
@[simp] theorem cond_dec  (p:Prop) [Decidable p] (x y:α):(bif decide p then x else y)=if p then x else y:=by by_cases h:p<;>simp[h]
@[simp] theorem cond_beq_int  (i j:Int) (x y:α):(bif i==j then x else y)=if i=j then x else y:=by
 by_cases h:i=j
 ·subst h;simp
 ·rw[if_neg h,U3.mpr h];rfl
@[simp] theorem ite_bind  (p:Prop) [Decidable p] (x y:Option α) (f:α->Option β):(if p then x else y).bind f=if p then x.bind f else y.bind f:=by by_cases h:p<;>simp[h]
@[simp] theorem add_ii(i j:Int):jH (.int i) (.int j)=some (.int (i+j)):=rfl
@[simp] theorem sub_ii(i j:Int):jfK (.int i) (.int j)=some (.int (i - j)):=rfl
theorem Jy  (h:i.natAbs < 2 ^ 1000) (k:j.natAbs < 2 ^ 1000):vN (.int i) (.int j)=some (.int (i*j)):=by
 show(bif jjm i&&jjm j then some (D.int (i*j)) else none)=_;rw[jeB h,jeB k];rfl
theorem yq  (h:0 < j) (k:j < 2 ^ 300):jY (.int i) (.int j)=some (.int (i / j)):=by
 show(bif decide (0 < j)&&decide (j < 2 ^ 300) then some (D.int (i / j)) else none)=_;rw[X2 h,X2 k];rfl
theorem jL  (h:0 < j):jC (.int i) (.int j)=some (.int (i % j)):=by
 show(bif decide (0 < j) then some (D.int (i % j)) else none)=_;rw[X2 h];rfl
@[simp] theorem opB_ii(g:Int->Int->Bool)(i j:Int):opB g (.int i) (.int j)=some (.bl (g i j)):=rfl
@[simp] theorem eq_ii(i j:Int):kS (.int i) (.int j)=some (.bl (i==j)):=rfl
@[simp] theorem ne_ii(i j:Int):jjH (.int i) (.int j)=some (.bl (!(i==j))):=rfl
@[simp] theorem jgZ(g:Int->Int->Int)(i j:Int):f2I g [.int i,.int j]=some (.int (g i j)):=rfl
@[simp] theorem frz_int(i:Int):frz (.int i)=true:=rfl
@[simp] theorem frz_bl(i:Bool):frz (.bl i)=true:=rfl
@[simp] theorem frz_str(i:List Nat):frz (.str i)=true:=rfl
@[simp] theorem frz_non:frz .non=true:=rfl
@[simp] theorem fz_int(i:Int):fz (.int i)=.int i:=rfl
@[simp] theorem fz_bl(i:Bool):fz (.bl i)=.bl i:=rfl
@[simp] theorem fz_str(i:List Nat):fz (.str i)=.str i:=rfl
@[simp] theorem fz_non:fz .non=.non:=rfl
@[simp] theorem fz_lst(o:Bool)(l:List D):fz (.lst o l)=.lst false (fzs l):=rfl
@[simp] theorem fz_tup(l:List D):fz (.tup l)=.tup (fzs l):=rfl
@[simp] theorem frz_lst(o:Bool)(l:List D):frz (.lst o l)=(!o&&frzs l):=rfl
@[simp] theorem frz_tup(l:List D):frz (.tup l)=frzs l:=rfl
@[simp] theorem fzs_nil:fzs []=[]:=rfl
@[simp] theorem fzs_cons(d:D)(l:List D):fzs (d::l)=fz d::fzs l:=rfl
@[simp] theorem frzs_nil:frzs []=true:=rfl
@[simp] theorem Qd(d:D)(l:List D):frzs (d::l)=(frz d&&frzs l):=rfl
@[simp] theorem clean_int(i:Int):kT (.int i)=true:=rfl
@[simp] theorem clean_bl(i:Bool):kT (.bl i)=true:=rfl
@[simp] theorem clean_str(i:List Nat):kT (.str i)=true:=rfl
@[simp] theorem clean_non:kT .non=true:=rfl
@[simp] theorem clean_lst(o:Bool)(l:List D):kT (.lst o l)=(o&&ym l):=rfl
@[simp] theorem clean_tup(l:List D):kT (.tup l)=ym l:=rfl
@[simp] theorem cleans_nil:ym []=true:=rfl
@[simp] theorem cleans_cons(d:D)(l:List D):ym (d::l)=(kT d&&ym l):=rfl
@[simp] theorem fzs_ints(l:List Int):fzs (l.map D.int)=l.map D.int:=by
 rw[Yk,U2];rfl
@[simp] theorem frzs_ints(l:List Int):frzs (l.map D.int)=true:=by
 rw[VB,List.all_map,List.all_eq_true];intro x _;rfl
theorem kB:∀ l:List D,ym l=l.all kT
 | []=>rfl
 | d::l=>by rw[ym,kB l];rfl
@[simp] theorem cleans_ints(l:List Int):ym (l.map D.int)=true:=by
 rw[kB,List.all_map,List.all_eq_true];intro x _;rfl
@[simp] theorem intsD_ints(l:List Int):Qg (l.map D.int)=some l:=by
 induction l with
 | nil=>rfl
 | cons x l a=>show(match Qg (l.map D.int) with | some r=>some (x::r) | none=>none)=_;rw[a]
@[simp] theorem boolsD_bools(l:List Bool):VY (l.map D.bl)=some l:=by
 induction l with
 | nil=>rfl
 | cons x l a=>show(match VY (l.map D.bl) with | some r=>some (x::r) | none=>none)=_;rw[a]
@[simp] theorem fSum_lst(o:Bool)(l:List D):jha [.lst o l]=(Qg l).bind λns=>some (.int ns.sum):=by
 show(match Qg l with | some ns=>some (D.int ns.sum) | none=>none)=_;cases Qg l<;>rfl
@[simp] theorem fLen_lst(o:Bool)(l:List D):ky [.lst o l]=some (.int l.length):=rfl
@[simp] theorem fLen_tup(l:List D):ky [.tup l]=some (.int l.length):=rfl
@[simp] theorem itemsOf_lst(o:Bool)(l:List D):zC (.lst o l)=some (fzs l):=rfl
@[simp] theorem itemsOf_tup(l:List D):zC (.tup l)=some (fzs l):=rfl
@[simp] theorem tyD_int(i:Int):tyD (.int i)=some "int":=rfl
@[simp] theorem tyD_bl(i:Bool):tyD (.bl i)=some "bool":=rfl
@[simp] theorem tyD_str(i:List Nat):tyD (.str i)=some "str":=rfl
@[simp] theorem tyD_non:tyD .non=some "NoneType":=rfl
@[simp] theorem tyD_lst(o:Bool)(l:List D):tyD (.lst o l)=some "list":=rfl
@[simp] theorem tyD_tup(l:List D):tyD (.tup l)=some "tuple":=rfl
theorem jkM  {c:Nat->Addr}{m:List D->Option D}{ns:List Int}(h:m [.lst false (ns.map D.int)]=some (.bl true)) (d:SqX K H a (ns.map V.int)):spP ⟨K,c⟩ m 1 [.ref a] H (λv _=>v=.bl true) E:=by
 refine⟨λb=>b=a/\H a≠none,[.lst false (ns.map D.int)],.bl true,λb e=>by rw[e.1];exact e.2,rfl,.one ?_,h,λg r=>r.bl_of.1⟩;rw[Rep];have f:∀(l:List Int),Reps ⟨K,c⟩ (λb=>b=a/\H a≠none) H (l.map D.int) (l.map V.int) []:=by
  intro l
  induction l with
  | nil=>exact .empty
  | cons x l i=>exact .cons (O:=[]) (P:=[]) .int_mk i
 refine⟨a,ns.map V.int,[],rfl,f ns,?_⟩;show FL _ _ _ _ _/\_;refine⟨?_,rfl,rfl⟩;rcases d with d | d
 ·refine .inl ⟨⟨rfl,?_⟩,d⟩;rcases d with d | ⟨o,d⟩<;>rw[d]<;>exact λz=>(nomatch z)
 ·exact .inr d
end QD
namespace L2
open PySem PySem.Spec PyProof.Rows
end L2
namespace QD
open PySem L2 PySem.Spec PyProof.Rows
section
variable {R:RC}{Z:Zn}{H:Hp}
noncomputable def VR(a b:List Nat):Int:=Txt.find (S a) (S b)
end
section
variable {cl:Nat->Addr}{X:Cx}{o e:Expr}{es:List Expr}{to:TE}{po:PF}{tr:TA}{pr:PAf}{name:Str}{apos cpos:Pos}{T id:String}{r:V->List V->Hp->VK->Prop}{g:D->List D->Option D}
theorem jnq(pa:PlainAttrs T)(slot:Slot T name id)(f:typeOf (.builtin id)=pure (.type "method_descriptor"))(j:MtR X id r)(k:BM ⟨X.K,cl⟩ T r g)(h:QB cl X o to po)(i:QBs cl X (e::es) tr pr)
  (b:attributeBase o name X.env (eval o X.env)=eval o X.env:=by rfl)
  (d:((backTo cpos (starEach (e::es) X.env)).all (λx=>!x.1)&&(backToKw cpos (keywordEach [] X.env)).all (λx=>x.1.isSome)
   && decide ((e::es).length+([]:List Keyword).length+(if([]:List Keyword).isEmpty then 0 else 1) < 30))=true:=by rfl)
  (c:(apos.endLine==cpos.line)=true:=by rfl) (l:starEach (e::es) X.env=(false,eval e X.env)::starEach es X.env:=by rfl) (a:(backTo cpos (starEach es X.env)).any (·.1)=false:=by rfl) :
  QP cl X (.Call (.Attribute o name apos) (e::es) [] cpos) (tBM X.K T r to tr) (pBM T g po pr) :=
 ⟨jfD pa slot f j h.sem i.sem b d c l a,jmV k h.den i.den⟩
end
@[simp] theorem pBM_e{g:D->List D->Option D}{pa:PF}{pr:PAf}{ρ:Rh}:pBM "str" g pa pr ρ=(pa ρ).bind λx=>bif isT "str" x then(pr ρ).bind λxs=>g x xs else none:=by
 unfold pBM;cases pa ρ with
 | none=>rfl
 | some x=>dsimp only[Option.bind];cases isT "str" x<;>cases pr ρ<;>rfl
@[simp] theorem isT_str(w:List Nat):isT "str" (.str w)=true:=rfl
end QD
namespace QK
open PySem L2 QD PySem.Spec PyProof.Rows
section
variable {cl:Nat->Addr}{pm:List Nat}{X:Cx}{a b c e o:Expr}{es:List Expr}{ta tb tc te to:TE}{pa pb pc pe po:PF}{tr:TA}{pr:PAf}{pos:Pos}{K:PySem.W.Frag}
variable {tg iter elt:Expr}{ifs:List Expr}{wi:TI}{pi:PAf}{t:TG}{g:D->Rh->Option Rh}
theorem add(c:X.K=K)(d:QB cl X a ta pa)(e:QB cl X b tb pb):QP cl X (.BinOp a .Add b pos) (tOp (jgo K) ta tb) (p2 jH pa pb):=by subst c;exact y6 d e
theorem ix(c:X.K=K)(d:QB cl X a ta pa)(e:QB cl X b tb pb)(f:xz b:=by exact λ_ _=>rfl):QB cl X (.Subscript a b pos) (tOp (rIx K) ta tb) (p2 jn pa pb):=by subst c;exact yI d e f
theorem sl{lo hi:Option Expr}{tl th:TO}{pl c:OF}{b:Pos}(d:X.K=K)(e:QB cl X a ta pa)(f:QO cl X lo tl pl)(g:QO cl X hi th c):QP cl X (.Subscript a (.Slice lo hi none b) pos) (tSl (jlT K) ta tl th) (pSl pa pl c):=by subst d;exact ja8 e f g
theorem call{k n:Nat}{f:Addr}{fd:FuncData}{ps:List Str}{m:List D->Option D}{x qual:Str}{st:Stmt}{p:Pos}(c:X.K=K)(F:FnFact X.K X.mg x qual st f fd ps)(G:FnOk X.prog X.w X.K X.mg X.base CX0 k f fd ps (spP ⟨X.K,cl⟩ m n))(d:Room k X.A)
  (g:QBs cl X (e::es) tr pr) (hn:(e::es).length=n:=by rfl) (h:Gl X x:=by rfl) (a:(x==("__debug__" : Str))=false:=by decide)
  (i:starEach (e::es) X.env=(false,eval e X.env)::starEach es X.env:=by rfl) (b:(backTo pos (starEach es X.env)).any (·.1)=false:=by rfl):QP cl X (.Call (.Name x p) (e::es) [] pos) (jdO (spP ⟨K,cl⟩ m n) [] E0 tr) (jW m pr):=by
 subst c;exact jT F G d g hn h a i b
theorem len(b:X.K=K)(c:X.mg "len" = none){p:Pos}(d:QBs cl X [e] tr pr)(f:Gl X "len":=by rfl)(g:starEach [e] X.env=(false,eval e X.env)::starEach [] X.env:=by rfl)(a:(backTo pos (starEach [] X.env)).any (·.1)=false:=by rfl) :
  QP cl X (.Call (.Name "len" p) [e] [] pos) (tCB (λxs H Q=>∃ x n,xs=[x]/\jlR K x H n/\Q (.int n) H) tr) (pCB ky pr):=by subst b;exact vO c d f g a
theorem c_notin(a:X.K=K)(c:behindInMarks .NotIn b=false):CmpR cl X .NotIn b (jjK K true) (J6 true):=by subst a;exact QD.c_notin c
theorem c_eq{k:Nat}(a:X.K=K)(c:Room k X.A):CmpR cl X .Eq b (λx y H Q=>rEq x y H Q \/ jiE ⟨K,cl⟩ false x y H Q) kS:=by subst a;exact QD.c_eq c
theorem g_tup{b:TGs}{c:List D->Rh->Option Rh}{k n:Nat}(d:X.K=K)(e:X.calm=true)(h:QGs cl pm X es b c)(hn:(assignEach es X.env).length=n:=by rfl)(a:(assignEach es X.env).findIdx? (·.1)=none:=by rfl):QG cl pm X (.Tuple es k pos) (jlX K n b) (gT n c):=by subst d;exact Jo e h hn a
end
end QK
namespace QD
open PySem L2 PySem.Spec PyProof.Rows
structure QGo(cl:Nat->Addr)(pm:List Nat)(X:Cx)(tg:Expr)(t:TG)(g:D->Rh->Option Rh):Prop where
 sem:PG X tg t
 den:DG ⟨X.K,cl⟩ pm t g
structure QGos(cl:Nat->Addr)(pm:List Nat)(X:Cx)(tg:List Expr)(t:TGs)(g:List D->Rh->Option Rh):Prop where
 sem:PGs X tg t
 den:DGs ⟨X.K,cl⟩ pm t g
end QD
namespace L2
open PySem PySem.Spec PyProof.Rows
section
variable {κ:Type} [DecidableEq κ]
noncomputable def ja5(kvs:List (κ×V))(k:κ):Option V:=(kvs.find? λkv=>decide (kv.1=k)).map (·.2)
noncomputable def Kx(kvs:List (κ×V))(k:κ)(v:V):List (κ×V) :=
 if(kvs.any λkv=>decide (kv.1=k))=true then kvs.map (λkv=>if kv.1=k then(kv.1,v) else kv) else kvs++[(k,v)]
theorem zh{p:κ×V}{r:List (κ×V)}(e:p.1=k):ja5 (p::r) k=some p.2:=by simp[ja5,List.find?_cons,e]
theorem ze{p:κ×V}{r:List (κ×V)}(e:¬ p.1=k):ja5 (p::r) k=ja5 r k:=by simp[ja5,List.find?_cons,e]
theorem jbI(k:κ):∀ kvs:List (κ×V),(kvs.any λkv=>decide (kv.1=k))=(ja5 kvs k).isSome
 | []=>rfl
 | p::r=>by
  rw[List.any_cons];by_cases e:p.1=k
  ·simp only[zh e,X2 e,Bool.true_or,Option.isSome_some]
  ·rw[ze e,X4 e,Bool.false_or];exact jbI k r
theorem zJ(a:List (κ×V))(k:κ)(v:V):(Kx a k v).length<=a.length+1:=by
 unfold Kx;split
 ·rw[L0];omega
 ·rw[N5,M0,List.length_nil];omega
theorem RelO.isSome_eq  (r:RelO o u):o.isSome=u.isSome:=by
 cases o with
 | none=>cases u with
  | none=>rfl
  | some _=>exact(show False from r).elim
 | some _=>cases u with
  | none=>exact(show False from r).elim
  | some _=>rfl
theorem RelO.getD  (r:RelO o u) (rd:RelV d d'):RelV (o.getD d) (u.getD d'):=by
 cases o with
 | none=>cases u with
  | none=>exact rd
  | some _=>exact(show False from r).elim
 | some _=>cases u with
  | none=>exact(show False from r).elim
  | some _=>exact r
theorem KV.val  (r:KV kvs vs) (k:κ):RelO (ja5 kvs k) (valueAt vs k):=by
 unfold KV at r
 induction r with
 | nil=>exact True.intro
 | @cons p q i a h t f =>
  obtain⟨d,g⟩:=h;by_cases e:p.1=k
  ·have c:q.1=k:=d.symm.trans e;have b:valueAt (q::a) k=some q.2:=by simp[valueAt,List.find?_cons,c]
   rw[zh e,b];exact g
  ·have c:¬ q.1=k:=λz=>e (d.trans z);have b:valueAt (q::a) k=valueAt a k:=by simp[valueAt,List.find?_cons,c]
   rw[ze e,b];exact f
theorem KV.any  (r:KV kvs vs) (k:κ):(kvs.any λkv=>decide (kv.1=k))=vs.any λkv=>decide (kv.1=k):=by
 unfold KV at r
 induction r with
 | nil=>rfl
 | cons h t a=>rw[List.any_cons,List.any_cons,a,h.1]
theorem KV.repl  (r:KV kvs vs) (k:κ)  (b:RelV y u) :
  KV (kvs.map λkv=>if kv.1=k then(kv.1,y) else kv) (vs.map λkv=>if kv.1=k then(kv.1,u) else kv):=by
 unfold KV at r ⊢
 induction r with
 | nil=>exact .nil
 | @cons p q f g h t c =>
  rw[L4,L4];refine .cons ?_ c;obtain⟨a,d⟩:=h;by_cases e:p.1=k
  ·rw[if_pos e,if_pos (a.symm.trans e)];exact⟨a,b⟩
  ·rw[if_neg e,if_neg (λz=>e (a.trans z))];exact⟨a,d⟩
theorem KV.put  (r:KV kvs vs) (k:κ)  (a:RelV y u):KV (Kx kvs k y) (stored vs k u):=by
 unfold Kx stored;rw[r.any k];by_cases e:(vs.any λb=>decide (b.1=k))=true
 ·rw[if_pos e,if_pos e];exact r.repl k a
 ·rw[if_neg e,if_neg e];exact Paired.snoc r ⟨rfl,a⟩
theorem KV.keys{a:List (κ×V)}{vs:List (κ×Value)}(r:KV a vs):a.map (·.1)=vs.map (·.1):=by
 unfold KV at r
 induction r with
 | nil=>rfl
 | cons h t b=>rw[L4,L4,b,h.1]
theorem KV.length  (r:KV kvs vs):kvs.length=vs.length:=Paired.length r
end
theorem jbc  (r:RelV (kV k) u):(yx P w).is k u=true:=by
 cases k with
 | inl i=>obtain⟨t,e⟩:=(show ∃ t,u=Value.int i t from r);subst e;exact ja6 P w i t
 | inr x=>obtain⟨t,e⟩:=(show ∃ t,u=Value.str x t from r);subst e;exact jaU P w x t
theorem jaf  : ∀{ks:List Key}{us:List Value},Vals (ks.map kV) us->ItemsAre (yx P w) ks us
 | [],_,r=>by rw[List.map_nil] at r;cases r;exact .nil
 | k::ks,_,r=>by
  rw[L4] at r;cases r with
  | cons h t=>exact .cons (jbc h) (jaf t)
abbrev KT(H:Hp):List (List Key×V)->List (List Key×Addr×Value)->Prop:=Paired λp q=>p.1=q.1/\H q.2.1=some (.tup (p.1.map kV))/\RelV p.2 q.2.2
theorem KT.val  (r:KT H kvs xs) (k:List Key):RelO (ja5 kvs k) ((atKey xs k).map (·.2)):=by
 induction r with
 | nil=>exact True.intro
 | @cons p q i a h t f =>
  obtain⟨d,_,g⟩:=h;by_cases e:p.1=k
  ·have c:q.1=k:=d.symm.trans e;have b:atKey (q::a) k=some q.2:=by simp[atKey,List.find?_cons,c]
   rw[zh e,b];exact g
  ·have c:¬ q.1=k:=λz=>e (d.trans z);have b:atKey (q::a) k=atKey a k:=by simp[atKey,List.find?_cons,c]
   rw[ze e,b];exact f
theorem KT.repl  (r:KT H kvs xs) (k:List Key)  (c:RelV y u) :
  KT H (kvs.map λkv=>if kv.1=k then(kv.1,y) else kv) (xs.map (putAt k u)):=by
 induction r with
 | nil=>exact .nil
 | @cons p q g i h t d =>
  rw[L4,L4];refine .cons ?_ d;obtain⟨a,b,f⟩:=h;unfold putAt;by_cases e:p.1=k
  ·rw[if_pos e,if_pos (a.symm.trans e)];exact⟨a,b,c⟩
  ·rw[if_neg e,if_neg (λz=>e (a.trans z))];exact⟨a,b,f⟩
theorem KT.put  (r:KT H kvs xs) (k:List Key)  (c:H b=some (.tup (k.map kV))) (a:RelV y u) :
  KT H (Kx kvs k y) (storedH xs k b u):=by
 have e:(kvs.any λd=>decide (d.1=k))=(atKey xs k).isSome:=by
  rw[jbI,(r.val k).isSome_eq,Option.isSome_map]
 unfold Kx storedH;rw[e];by_cases q:(atKey xs k).isSome=true
 ·rw[if_pos q,if_pos q];exact r.repl k a
 ·rw[if_neg q,if_neg q];exact Paired.snoc r ⟨rfl,c,a⟩
theorem KT.keeps  (r:KT H kvs xs) (a:∀ b ys,H b=some (.tup ys)->H' b=some (.tup ys)):KT H' kvs xs :=
 Paired.mapP r λ_ _ z=>⟨z.1,a _ _ z.2.1,z.2.2⟩
theorem jlg  (ok:HOk P w H h) (e:Rd H a u):ObjOk P w H h a u:=e.ok ok
theorem jcW  (ok:HOk P w H h) (e:Rd H a (.dK kvs)):kvs.length<=sizeLine/\(a==sysModules)=false/\∃ vs,KV kvs vs/\h.DictOf (yx P w) a vs :=
 show ObjOk P w H h a (.dK kvs) from jlg ok e
theorem jlQ  (ok:HOk P w H h) (e:H a=some (.dK kvs)):kvs.length<=sizeLine/\(a==sysModules)=false/\∃ vs,KV kvs vs/\h.DictOf (yx P w) a vs:=jcW ok (.inl e)
theorem u8  (ok:HOk P w H h) (e:H a=some (.tup (ks.map kV))):(tupleKind (yx P w)).is h ks a:=by
 obtain⟨_,b,r,⟨o,c,d,n,f⟩,_⟩:=(show ObjOk P w H h a (.tup (ks.map kV)) from ok a _ e);exact⟨o,b.toArray,n,c,d,f,by simpa using jaf r⟩
theorem jcP  (ok:HOk P w H h) (e:Rd H a (.dT kvs)):kvs.length<=sizeLine/\(a==sysModules)=false /\
  ∃ xs,KT H kvs xs/\h.DictOfH (tupleKind (yx P w)) a xs:=by
 obtain⟨z,y,xs,r,o,d,f,g,i,j,k,n⟩:=(show ObjOk P w H h a (.dT kvs) from jlg ok e);refine⟨z,y,xs,r,o,d,f,g,i,j,k,λx b=>?_,n⟩;have all:∀{l:List (List Key×V)}{m:List (List Key×Addr×Value)},KT H l m->∀ x∈m,(tupleKind (yx P w)).is h x.1 x.2.1:=by
  intro l m q
  induction q with
  | nil=>intro x b;exact nomatch b
  | @cons p q u v c t s =>
   intro x b;rcases M4.mp b with e | b
   ·subst e;exact u8 ok (by rw[<- c.1];exact c.2.1)
   ·exact s x b
 exact all r x b
theorem jl7  (ok:HOk P w H h) (e:H a=some (.dT kvs)):kvs.length<=sizeLine/\(a==sysModules)=false /\
  ∃ xs,KT H kvs xs/\h.DictOfH (tupleKind (yx P w)) a xs:=jcP ok (.inl e)
def DGet(H:Hp)(a:Addr)(y:V)(r:Option V):Prop :=
 (∃ kvs k,Rd H a (.dK kvs)/\y=kV k/\r=ja5 kvs k) \/ ∃ kvs k b,Rd H a (.dT kvs)/\y=.ref b/\H b=some (.tup (k.map kV))/\r=ja5 kvs k
def DPut(H:Hp)(a:Addr)(y v:V)(H':Hp):Prop :=
 (∃ kvs k,H a=some (.dK kvs)/\y=kV k/\kvs.length < sizeLine/\H'=upd H a (.dK (Kx kvs k v))) \/
 ∃ kvs k b,H a=some (.dT kvs)/\y=.ref b/\H b=some (.tup (k.map kV))/\kvs.length < sizeLine/\H'=upd H a (.dT (Kx kvs k v))
theorem DPut.k{H:Hp}{a:Addr}{b:List (Key×V)}{k:Key}{v:V}(e:H a=some (.dK b))(c:b.length < sizeLine):DPut H a (kV k) v (upd H a (.dK (Kx b k v))):=.inl ⟨b,k,e,rfl,c,rfl⟩
theorem Inv.big(I:Inv X pins σ H s):sysModules < s.heap.objs.size:=by
 have h:mainGlobals < s.heap.objs.size:=(I.mod.glob.keeps I.bk).lt;exact Nat.lt_trans (by decide) h
theorem jeC  (n:A.units+1 < cLine) (I:Inv X pins σ H s) (g:DGet H a y (some v)) (m:RelV y u) (h:∀ w' s',Inv X pins σ H s'->RelV v w'->Q w' s') :
  wpAny (model X.prog X.w) A (getItem (.ref a) u) Q E s:=by
 rcases g with⟨d,k,e,f,l⟩ | ⟨d,k,b,e,f,q,l⟩
 ·subst f;obtain⟨z,hd,r,rel,dd⟩:=jcW I.hok e;obtain⟨w',i,c⟩:=RelO.some_of (v:=v) (o:=valueAt r k) (by rw[l];exact rel.val k);exact wpAny_getItem_of (jbc m) dd.mapOf i (h w' _ (I.tok _) c)
 ·subst f;cases(show u=Value.ref b from m);obtain⟨z,hd,t,rel,dd⟩:=jcP I.hok e;obtain⟨w',i,c⟩:=RelO.some_of (v:=v) (o:=(atKey t k).map (·.2)) (by rw[l];exact rel.val k);obtain⟨p,x,j⟩:=Option.map_eq_some_iff.mp i;refine wpAny_getItem_heap (tupleKind_room_in1 n) (u8 I.hok q) dd x ?_;rw[j];exact h w' _ (I.tok _) c
theorem ji1  (i:A.units+1 < cLine) (I:Inv X pins σ H s) (g:DGet H a y o) (f:RelV y u) (h:∀ s',Inv X pins σ H s'->Q (.bool (!o.isSome)) s') :
  wpAny (model X.prog X.w) A (compareOp .NotIn u (.ref a)) Q E s:=by
 rcases g with⟨c,k,e,d,l⟩ | ⟨c,k,b,e,d,j,l⟩
 ·subst d;obtain⟨z,hd,m,rel,dd⟩:=jcW I.hok e;refine wpAny_notIn_of (jbc f) hd dd.mapOf ?_;rw[<- (rel.val k).isSome_eq,<- l];exact h _ (I.tok _)
 ·subst d;cases(show u=Value.ref b from f);obtain⟨z,hd,n,rel,dd⟩:=jcP I.hok e;refine wpAny_notIn_heap (tupleKind_room_in1 i) (u8 I.hok j) hd dd ?_;have q:=(rel.val k).isSome_eq;rw[Option.isSome_map] at q;rw[<- q,<- l];exact h _ (I.tok _)
theorem jaC  (I:Inv X pins σ H s) (c:Mut (H a)) (d:Heap.SameBut a s.heap h') (f:∃ q,h'.get? a=some q) (new:ObjOk X.prog X.w (upd H a ob) h' a ob) :
  Inv X pins σ (upd H a ob) { s with heap:=h',toks:=t' } :=
 I.write (x:=a) (e:=a) c (.inl rfl) (λb q g z=>(d.2 b g).trans z) f new
theorem jby  (z:kvs.length<=sizeLine) (hd:(a==sysModules)=false) (rel:KV kvs vs) (dd:h'.DictOf (yx P w) a vs) :
  ObjOk P w H' h' a (.dK kvs):=⟨z,hd,vs,rel,dd⟩
theorem jdI  (F:A.units+1 < cLine) (I:Inv X pins σ H s) (g:DPut H a y v H') (t:RelV y u) (x:RelV v r) (h:∀ s',Inv X pins σ H' s'->Q () s') :
  wpAny (model X.prog X.w) A (setItem (.ref a) u r) Q E s:=by
 rcases g with⟨d,k,e,j,l,m⟩ | ⟨d,k,b,e,j,B,l,m⟩
 ·subst j m;obtain⟨z,hd,G,rel,dd⟩:=jlQ I.hok e;have n:G.length<=sizeLine:=by rw[<- rel.length];exact z
  have o:(Kx d k v).length<=sizeLine:=by have:=zJ d k v;omega
  refine wpAny_setItem_pairs (hsz:=n) (jbc t) dd λC f p=>h _ ?_;have J:∃ q,C.get? a=some q:=let ⟨q,_,_,i,_⟩:=f;⟨q,i⟩
  exact jaC I (by rw[e];exact True.intro) p J (jby o hd (rel.put k x) f)
 ·subst j m;cases(show u=Value.ref b from t);obtain⟨z,hd,K,rel,dd⟩:=jl7 I.hok e;have n:K.length<=sizeLine:=by rw[<- Paired.length rel];exact z
  have o:(Kx d k v).length<=sizeLine:=by have:=zJ d k v;omega
  refine wpAny_setItem_heap (hsz:=n) (tupleKind_room_in1 F) (u8 I.hok B) dd λC f p=>h _ ?_;obtain⟨q,L,M,i,N,O,P,_,R⟩:=f;refine jaC I (by rw[e];exact True.intro) p ⟨q,i⟩ ⟨o,hd,_,(rel.put k B x).keeps λc S D=>?_,q,L,M,i,N,O,P,R⟩;rw[jm (jmA D e (λz=>nomatch z))];exact D
def jmN(i:Expr):Prop:=∀ ov iv,subscripted i false ov iv=operate [ov,iv] (getItem ov iv)
theorem jhL{prog:Program}{w:World}{A:Around}{E:Value->Shared->Prop}{s:Shared}{env:Env}{value slice:Expr}{pos:Pos}{T id:String}{Q:Value->Shared->Prop}
  (e:typeLookup (.type T) "__getitem__" = pure (some (.builtin id))) (f:jmN slice)
  (h:wpAny (model prog w) A (eval value env) (λo s₁=>wpAny (model prog w) A (eval slice env) (λi s₂=>s₂.TypeIs o T/\wpAny (model prog w) A (getItem o i) Q E s₂) E s₁) E s) :
  wpAny (model prog w) A (eval (.Subscript value slice pos) env) Q E s:=by
 refine Subscript_ (wpAny_mono h (λo s₁ g=>wpAny_mono g (λi s₂ b=>?_) λ_ _ x=>x) λ_ _ x=>x);obtain⟨c,b⟩:=b;unfold subscriptTail;refine L1 ?_;rw[getitemInPython_of_ne c.not_modules];refine L1 (wpAny_specialOf c e ?_);have a:wpAny (model prog w) A (subscripted slice false o i) (λr d=>wpAny (model prog w) A (letTemporaryGo value o r >>= λ_=>pure r) Q E d) E s₂:=by
  rw[f o i];exact wpAny_operating (wpAny_mono b (λr d j=>L1 (wpAny_letTemporaryGo (M6 j))) λ_ _ x=>x)
 first
  | exact M6 (L1 a)
  | exact L1 (M6 (L1 a))
  | exact L1 a
theorem ja4  (I:Inv X pins σ H s) (g:DGet H a y o):s.TypeIs (.ref a) "dict":=by
 rcases g with⟨c,k,e,_,_⟩ | ⟨c,k,b,e,_,_,_⟩
 ·obtain⟨_,_,d,_,dd⟩:=jcW I.hok e;exact dd.typeIs
 ·obtain⟨_,_,f,_,dd⟩:=jcP I.hok e;exact dd.typeIs
noncomputable def jic(td ty:TE):TE:=λσ H Q=>td σ H λx H1=>ty σ H1 λy H2=>∃ a v,x=.ref a/\DGet H2 a y (some v)/\Q v H2
noncomputable def wA(ty td:TE):TE:=λσ H Q=>ty σ H λy H1=>td σ H1 λx H2=>∃ a o,x=.ref a/\DGet H2 a y o/\Q (.bl (!o.isSome)) H2
noncomputable def jeP(td ty tv:TE):TS:=λD σ H=>tv σ H λv H1=>td σ H1 λx H2=>ty σ H2 λy H3=>∃ a H4,x=.ref a/\DPut H3 a y v H4/\D.nx σ H4
theorem jir(e:X.A.units+1 < cLine)(f:PE X o td)(hi:PE X i ty)(j:jmN i):PE X (.Subscript o i pos) (jic td ty):=by
 intro b s σ H Q I h;refine jhL PySem.F.slot_dict_getitem.lookup j (thn (f b s σ H _ I h) λu k ⟨x,l,m,n,p⟩=>thn (hi b k σ l _ m p) λz B ⟨y,q,d,r,a,v,ex,g,t⟩=>?_);subst ex;obtain rfl:u=Value.ref a:=n;exact⟨ja4 d g,jeC e d g r λC D w c=>⟨v,q,w,c,t⟩⟩
theorem jdx(c:X.A.units+1 < cLine)(hi:PE X i ty)(d:PE X o td):PC X .NotIn i o (wA ty td):=by
 intro b s σ H Q I h;refine thn (hi b s σ H _ I h) λv e ⟨y,f,j,k,l⟩=>thn (d b e σ f _ j l) λu w ⟨x,m,n,p,a,q,ex,g,r⟩=>?_;subst ex;obtain rfl:u=Value.ref a:=p;exact ji1 c n g k λz t=>⟨.bl (!q.isSome),m,t,rfl,r⟩
theorem jdv(c:X.A.units+1 < cLine)(d:PE X o td)(hi:PE X i ty)(e:PE X value tv)(f:swapsWith value (some (.Subscript o i pos')) pos.line X.env=pure false) :
  PS X (.Assign [.Subscript o i pos'] value pos) (jeP td ty tv):=by
 intro b s σ H D I h;refine wpAny_Assign_Subscript (thn (e b s σ H _ I h) λr j ⟨v,k,l,m,n⟩=>thn (d b j σ k _ l n) λu p ⟨x,q,t,w,z⟩=>thn (hi b p σ q _ t z) λJ K ⟨y,L,B,C,a,E,ex,g,F⟩=>?_) f;subst ex;obtain rfl:u=Value.ref a:=w;exact jdI c B g C m λM G=>⟨σ,E,G,F⟩
theorem jgq  (h:Heap) (a:sysModules < h.objs.size):ObjOk P w H (h.push { cls:=.type "dict",data:=.dict #[] }) h.objs.size (.dK []) :=
 ⟨U6 _,U3.mpr (Ne.symm (N7 a)),[],.nil,Heap.DictOf.new h⟩
noncomputable def jdy:TE:=λ_ H Q=>∀ p,H p=none->Q (.ref p) (upd H p (.dK []))
theorem jgL:PE X (.Dict [] [] pos) jdy:=λb s σ H Q I h =>
 wpAny_Dict_empty ⟨.ref s.heap.objs.size,_,I.laid (a:=s.heap.objs.size) (o:=.dK []) (t':=s.toks) (λ_ _ q=>L7 _ q) (M8 _) (jgq s.heap I.big),rfl,h _ (I.hok.fresh (M8 _))⟩
structure M1(X:Cx)(o:Expr)(m:Str)(apos:Pos)(e:Expr)(cpos:Pos):Prop where
 base:attributeBase o m X.env (eval o X.env)=eval o X.env
 few:((backTo cpos (starEach [e] X.env)).all (λx=>!x.1)&&(backToKw cpos (keywordEach [] X.env)).all (λx=>x.1.isSome)
  && decide (([e]:List Expr).length+([]:List Keyword).length+(if([]:List Keyword).isEmpty then 0 else 1) < 30))=true
 line:(apos.endLine==cpos.line)=true
 trees:backTo cpos (starEach [e] X.env)=[(false,eval e X.env)]
structure M2(X:Cx)(o:Expr)(m:Str)(apos:Pos)(e f:Expr)(cpos:Pos):Prop where
 base:attributeBase o m X.env (eval o X.env)=eval o X.env
 few:((backTo cpos (starEach [e,f] X.env)).all (λx=>!x.1)&&(backToKw cpos (keywordEach [] X.env)).all (λx=>x.1.isSome)
  && decide (([e,f]:List Expr).length+([]:List Keyword).length+(if([]:List Keyword).isEmpty then 0 else 1) < 30))=true
 line:(apos.endLine==cpos.line)=true
 trees:backTo cpos (starEach [e,f] X.env)=[(false,eval e X.env),(false,eval f X.env)]
def IsD(H:Hp)(a:Addr):Prop:=(∃ kvs,Rd H a (.dK kvs)) \/ ∃ kvs,Rd H a (.dT kvs)
theorem jkw  (I:Inv X pins σ H s) (d:IsD H a) :
  s.TypeIs (.ref a) "dict"/\(∀ b,Value.ref a=.ref b->∃ ob,s.heap.get? b=some ob/\ob.dict=none)/\(a==sysModules)=false:=by
 rcases d with⟨c,e⟩ | ⟨c,e⟩
 ·obtain⟨_,hd,h,_,dd⟩:=jcW I.hok e;refine⟨dd.typeIs,λb q=>?_,hd⟩;cases q;obtain⟨ob,_,_,f,g,_⟩:=dd;exact⟨ob,f,g.2.1⟩
 ·obtain⟨_,hd,i,_,dd⟩:=jcP I.hok e;refine⟨dd.typeIs,λb q=>?_,hd⟩;cases q;obtain⟨ob,_,_,f,g,_⟩:=dd;exact⟨ob,f,g.2.1⟩
theorem jk1  (j:A.units+1 < cLine) (I:Inv X pins σ H s) (g:DGet H a y o) (i:RelV y u) (rd:RelV d r) (h:∀ w' s',Inv X pins σ H s'->RelV (o.getD d) w'->Q w' s') :
  wpAny (model X.prog X.w) A (call (.builtin "dict.get") [.ref a,u,r]) Q E s:=by
 rcases g with⟨c,k,e,f,l⟩ | ⟨c,k,b,e,f,m,l⟩
 ·subst f;obtain⟨z,hd,p,rel,dd⟩:=jcW I.hok e;refine call_meetsIn PySem.F.slot_dict_get dd.typeIs PySem.F.entry_dict_get (PySem.F.args_dict_get_3 _ _ _) (meets_dict_get_default (yx X.prog X.w) a (jbc i) hd r) ⟨_,dd.mapOf,h _ _ (I.tok _) ?_⟩;rw[l];exact(rel.val k).getD rd
 ·subst f;cases(show u=Value.ref b from i);obtain⟨z,hd,n,rel,dd⟩:=jcP I.hok e;refine call_meetsIn PySem.F.slot_dict_get dd.typeIs PySem.F.entry_dict_get (PySem.F.args_dict_get_3 _ _ _) (meetsH_dict_get_default (tupleKind (yx X.prog X.w)) a b hd r) ⟨tupleKind_room_in1 j,k,n,u8 I.hok m,dd,h _ _ (I.tok _) ?_⟩;rw[l];exact(rel.val k).getD rd
noncomputable def jdu(td ty tx:TE):TE:=λσ H Q=>td σ H λx H1=>∃ a,x=.ref a/\IsD H1 a/\ty σ H1 λy H2=>tx σ H2 λz H3=>∃ o,DGet H3 a y o/\Q (o.getD z) H3
theorem jfG(j:X.A.units+1 < cLine)(k:PE X o td)(l:PE X e ty)(n:PE X f tx)(m:M2 X o "get" apos e f cpos):PE X (.Call (.Attribute o "get" apos) [e,f] [] cpos) (jdu td ty tx):=by
 intro b s σ H Q I h;refine wpAny_Call_method m.base m.few m.line PySem.F.plainAttrs_dict PySem.F.slot_dict_get PySem.F.type_dict_get (thn (k b s σ H _ I h) λu p ⟨x,q,i,r,a,ex,d,t⟩=>?_);subst ex;obtain rfl:u=Value.ref a:=r;obtain⟨v,w,_⟩:=jkw i d;refine⟨v,w,?_⟩;rw[m.trees];refine Calls.callWith_builtin rfl (Calls.evalArgs_plain (Calls.spliced_cons (thn (l b p σ q _ i t) λO B ⟨y,C,D,E,G⟩ =>
  Calls.spliced_cons (thn (n b B σ C _ D G) λP R ⟨z,J,K,L,S,g,M⟩=>Calls.spliced_nil ?_))))
 exact jk1 j K g E L λT U N c=>⟨_,J,N,c,M⟩
end L2
namespace QD
open PySem L2 PySem.Spec PyProof.Rows
section
variable {R:RC}{Z Z':Zn}{H H':Hp}{pm:List Nat}
noncomputable def Jm:D->Option KA
 | .int i=>some (.int i)
 | .str s=>some (.str s)
 | _=>none
theorem Ja  (e:Jm d=some k) (r:Rep R Z H d v O):v=kV (kaV k)/\O=[]:=by
 cases d with
 | int i=>cases e;rw[Rep] at r;exact r
 | str s=>cases e;rw[Rep] at r;exact r
 | _=>cases e
theorem jbs  (h:kaV a=kaV b):a=b:=by
 cases a<;>cases b<;>simp only[kaV] at h
 ·cases h;rfl
 ·cases h
 ·cases h
 ·have:=jkQ (Sum.inr.inj h);rw[this]
noncomputable def zc:List KA->List D->KA->Option D
 | k::ks,d::l,a=>if k=a then some d else zc ks l a
 | _,_,_=>none
theorem VD:∀{ks:List KA}{l:List D}{vs:List V}{O:List Addr}{a:KA},Reps R Z H l vs O->ks.length=l.length ->
  (∀ d,zc ks l a=some d->∃ v P,ja5 ((ks.map kaV).zip vs) (kaV a)=some v/\Rep R Z H d v P)/\(zc ks l a=none->ja5 ((ks.map kaV).zip vs) (kaV a)=none)
 | [],l,vs,O,a,r,c=>⟨λd e=>(by cases l<;>cases e),λ_=>rfl⟩
 | k::ks,[],vs,O,a,r,c=>by simp at c
 | k::ks,x::l,vs,O,a,r,c=>by
  rw[Reps] at r;obtain⟨v,b,O1,O2,rfl,rfl,f,g⟩:=r;have i:=VD (a:=a) g (by simpa using c);by_cases e:k=a
  ·subst e;refine⟨λd h=>?_,λh=>?_⟩
   ·simp only[zc,if_true] at h;cases h;exact⟨v,O1,zh rfl,f⟩
   ·simp[zc] at h
  ·have j:¬ (kaV k=kaV a):=λz=>e (jbs z);have q:ja5 (((k::ks).map kaV).zip (v::b)) (kaV a)=ja5 ((ks.map kaV).zip b) (kaV a):=ze j;rw[q];simp only[zc,if_neg e];exact i
theorem DkA.rd  (h:DkA o H a kvs):Rd H a (.dK kvs):=by
 cases o with
 | true=>exact .inl h
 | false=>exact h
theorem DGet.r  (e:Rd H a (.dK kvs)):DGet H a (kV k) (ja5 kvs k):=.inl ⟨kvs,k,e,rfl,rfl⟩
theorem Rep.dK_of  (r:Rep R Z H (.dK o ks l) v O):∃ a vs O',v=.ref a/\Rd H a (.dK ((ks.map kaV).zip vs))/\Reps R Z H l vs O'/\ks.length=l.length:=by
 rw[Rep] at r;obtain⟨a,vs,O',rfl,b,c,d,_⟩:=r;exact⟨a,vs,O',rfl,d.rd,b,c⟩
theorem jiZ:PP R jdy (pC (.dK true [] [])):=by
 intro σ ρ Z H O d z s e Q k;cases e;intro p a;refine k (Go.newO (wf0 z) a) ?_;rw[Rep];exact⟨p,[],[],rfl,.empty,rfl,jD,rfl⟩
noncomputable def yS:D->D->Option D
 | .dK _ ks l,y=>(Jm y).bind λk=>zc ks l k
 | _,_=>none
theorem jjv  (f:PB R td pa) (g:PB R ty pb):PB R (jic td ty) (p2 yS pa pb):=by
 intro σ ρ Z H O d z s e Q k;unfold p2 at e;cases e1:pa ρ with
 | none=>rw[e1] at e;cases e
 | some x =>
  rw[e1] at e;dsimp only at e;cases e2:pb ρ with
  | none=>rw[e2] at e;cases e
  | some y =>
   rw[e2] at e;dsimp only at e;refine f z s e1 λ{v A B P1} b h=>?_;refine g b.wf.zd (b.slots z s) e2 λ{u C D P2} c i=>?_;have j:=c.rep b.wf.zd h;cases x with
   | dK o E l =>
    simp only[yS] at e;cases e3:Jm y with
    | none=>rw[e3] at e;cases e
    | some a =>
     rw[e3,L3] at e;obtain⟨p,F,G,rfl,m,n,q⟩:=j.dK_of;obtain⟨rfl,_⟩:=Ja e3 i;obtain⟨w,P,t,rw⟩:=(VD n q).1 d e;exact⟨p,w,rfl,t▸DGet.r m,k (b.pair c) rw⟩
   | _=>cases e
noncomputable def xF(x y z:D):Option D:=match x with
 | .dK _ ks l=>(Jm y).bind λk=>some ((zc ks l k).getD z)
 | _=>none
noncomputable def p3(g:D->D->D->Option D)(pa pb pc:PF):PF:=λρ=>match pa ρ with
 | none=>none
 | some x=>match pb ρ with
  | none=>none
  | some y=>match pc ρ with
   | none=>none
   | some z=>g x y z
theorem jgj  (C:PB R td pa) (D:PB R ty pb) (E:PB R tx pc):PB R (jdu td ty tx) (p3 xF pa pb pc):=by
 intro σ ρ Z H O d z s e Q k;unfold p3 at e;cases e1:pa ρ with
 | none=>rw[e1] at e;cases e
 | some x =>
  rw[e1] at e;dsimp only at e;cases e2:pb ρ with
  | none=>rw[e2] at e;cases e
  | some y =>
   rw[e2] at e;dsimp only at e;cases e4:pc ρ with
   | none=>rw[e4] at e;cases e
   | some c =>
    rw[e4] at e;dsimp only at e;cases x with
    | dK o j l =>
     simp only[xF] at e;cases e3:Jm y with
     | none=>rw[e3] at e;cases e
     | some a =>
      rw[e3,L3] at e;cases e;refine C z s e1 λ{v N S P1} i q=>?_;obtain⟨p,T,U,rfl,F,V,W⟩:=q.dK_of;refine⟨p,rfl,.inl ⟨_,F⟩,?_⟩;refine D i.wf.zd (i.slots z s) e2 λ{u X Y P2} m G=>?_;have b:=i.pair m;refine E m.wf.zd (b.slots z s) e4 λ{t Z3 A P3} n I=>?_;have B:=(m.pair n).rep i.wf.zd q;rw[Rep] at B;obtain⟨p',J,K,L,f,g,h,_⟩:=B;cases L;obtain⟨rfl,_⟩:=Ja e3 G;cases ev:zc j l a with
      | none=>exact⟨none,(VD f g).2 ev▸DGet.r h.rd,k (b.pair n) (show Rep R Z3 A ((zc j l a).getD c) t P3 by rw[ev];exact I)⟩
      | some d =>
       obtain⟨w,P,M,rw⟩:=(VD f g).1 d ev;exact⟨some w,M▸DGet.r h.rd,k (b.pair n) (show Rep R Z3 A ((zc j l a).getD c) w P by rw[ev];exact rw)⟩
    | _=>cases e
noncomputable def zQ(neg:Bool)(y x:D):Option D:=match x with
 | .dK _ ks l=>(Jm y).bind λk=>some (.bl (neg != (zc ks l k).isSome))
 | _=>none
theorem jfW{td ty:TE}{pa pb:PF}{neg:Bool}(i:PB R ty pa)(j:PB R td pb){σ:L2.St}{ρ:Rh}{Z:Zn}{H:Hp}{O:List Addr}{d:D}(z:Zd Z H)(s:Slots R Z H ρ σ O)(e:p2 (zQ neg) pa pb ρ=some d)
  {Q:VK}(k:∀{v:V}{Z':Zn}{H':Hp}{P:List Addr},Go Z H [] Z' H' P->Rep R Z' H' d v P->Q v H'):ty σ H λy H1=>td σ H1 λx H2=>∃ a o,x=.ref a/\DGet H2 a y o/\Q (.bl (neg != o.isSome)) H2:=by
 unfold p2 at e;cases e1:pa ρ with
 | none=>rw[e1] at e;cases e
 | some y =>
  rw[e1] at e;dsimp only at e;cases e2:pb ρ with
  | none=>rw[e2] at e;cases e
  | some x =>
   rw[e2] at e;dsimp only at e;refine i z s e1 λ{v B H1 P1} b m=>?_;refine j b.wf.zd (b.slots z s) e2 λ{u C H2 P2} c n=>?_;cases x with
   | dK o q l =>
    simp only[zQ] at e;cases e3:Jm y with
    | none=>rw[e3] at e;cases e
    | some a =>
     rw[e3,L3] at e;cases e;obtain⟨p,E,F,rfl,f,g,h⟩:=n.dK_of;obtain⟨rfl,_⟩:=Ja e3 m;cases ev:zc q l a with
     | none =>
      refine⟨p,none,rfl,(VD g h).2 ev▸DGet.r f,k (b.pair c) ?_⟩;rw[ev];exact .bl_mk
     | some d =>
      obtain⟨w,P,t,A⟩:=(VD g h).1 d ev;refine⟨p,some w,rfl,t▸DGet.r f,k (b.pair c) ?_⟩;rw[ev];exact .bl_mk
   | _=>cases e
theorem jeN{td ty:TE}{pa pb:PF}(a:PB R ty pa)(b:PB R td pb):PP R (wA ty td) (p2 (zQ true) pa pb):=λz s e _ k=>by
 have:=jfW (neg:=true) a b z s e k;simpa [wA] using this
noncomputable def jde:List KA->List D->KA->D->List D
 | k::ks,x::l,a,d=>(if k=a then d else x)::jde ks l a d
 | _,_,_,_=>[]
theorem jbY:∀{ks:List KA}{l:List D}(a:KA) (d:D),ks.length=l.length->(jde ks l a d).length=l.length
 | [],[],_,_,_=>rfl
 | [],_::_,_,_,h=>by simp at h
 | _::_,[],_,_,h=>by simp at h
 | k::ks,x::l,a,d,h=>by rw[jde,M0,M0,jbY a d (by simpa using h)]
theorem jbW  (rd:Rep R Z H d v []) (a:KA):∀{ks:List KA}{l:List D}{vs:List V}{O:List Addr},Reps R Z H l vs O->ks.length=l.length ->
  ∃ vs2 O2,Reps R Z H (jde ks l a d) vs2 O2/\(ks.map kaV).zip vs2=((ks.map kaV).zip vs).map (λkv=>if kv.1=kaV a then(kv.1,v) else kv)/\O2.Sublist O
 | [],[],vs,O,r,b=>by
  rw[Reps] at r;obtain⟨rfl,rfl⟩:=r;exact⟨[],[],.empty,rfl,.slnil⟩
 | [],_::_,_,_,_,h=>by simp at h
 | _::_,[],_,_,_,h=>by simp at h
 | k::ks,x::l,vs,O,r,b=>by
  rw[Reps] at r;obtain⟨w,i,O1,O2,rfl,rfl,j,m⟩:=r;obtain⟨c,P2,f,g,sl⟩:=jbW rd a m (by simpa using b);by_cases e:k=a
  ·subst e;refine⟨v::c,[]++P2,?_,?_,?_⟩
   ·rw[jde,if_pos rfl];exact Reps.cons rd f
   ·simp only[L4,U8,if_true,g]
   ·exact sl.trans (List.sublist_append_right _ _)
  ·have n:¬ (kaV k=kaV a):=λz=>e (jbs z);refine⟨w::c,O1++P2,?_,?_,?_⟩
   ·rw[jde,if_neg e];exact Reps.cons j f
   ·simp only[L4,U8,if_neg n,g]
   ·exact List.Sublist.append (List.Sublist.refl _) sl
theorem jbi(a:KA):∀{ks:List KA}{vs:List V},ks.length=vs.length->(((ks.map kaV).zip vs).any λkv=>decide (kv.1=kaV a))=decide (a∈ks)
 | [],vs,_=>by simp
 | k::ks,[],h=>by simp at h
 | k::ks,v::vs,h=>by
  rw[L4,U8,List.any_cons,jbi a (by simpa using h)];by_cases e:k=a
  ·subst e;simp
  ·have b:¬ (kaV k=kaV a):=λz=>e (jbs z);have c:¬ (a=k):=λz=>e z.symm;simp[b,c]
noncomputable def Jl(ks:List KA)(l:List D)(a:KA)(d:D):List KA×List D:=if a∈ks then(ks,jde ks l a d) else(ks++[a],l++[d])
theorem uk  (rd:Rep R Z H d v []) (a:KA)  (r:Reps R Z H l vs O) (b:ks.length=l.length) :
  ∃ vs2 O2,Reps R Z H (Jl ks l a d).2 vs2 O2/\(((Jl ks l a d).1).map kaV).zip vs2=Kx ((ks.map kaV).zip vs) (kaV a) v/\O2.Sublist O/\(Jl ks l a d).1.length=(Jl ks l a d).2.length:=by
 have c:ks.length=vs.length:=by rw[r.length];exact b
 unfold Jl Kx;rw[jbi a c];by_cases e:a∈ks
 ·rw[if_pos e,X2 e,if_pos rfl];obtain⟨f,P,g,h,sl⟩:=jbW rd a r b;exact⟨f,P,g,h,sl,by rw[jbY a d b];exact b⟩
 ·rw[if_neg e,X4 e,if_neg (λz=>(nomatch z))];refine⟨vs++[v],O++[],r.append (Reps.one rd),?_,by simp,by simp[b]⟩;rw[N6,List.zip_append (by simpa using c)];rfl
noncomputable def jaR(i:Nat)(pk pv:PF):FS:=λρ=>match pv ρ with
 | none=>none
 | some d=>match ρ[i]? with
  | some (some (.dK true ks l))=>match pk ρ with
   | none=>none
   | some y=>match Jm y with
    | none=>none
    | some a=>bif frz d&&lim ks.length then some (.nx (ρ.set i (some (.dK true (Jl ks l a d).1 (Jl ks l a d).2)))) else none
  | _=>none
theorem jiH{i:Nat}{ty tv:TE}{pk pv:PF}(U:PB R ty pk)(V:PB R tv pv):DS R pm (jeP (J5 i) ty tv) (jaR i pk pv):=by
 intro σ ρ Z H O o w s e D' k;unfold jaR at e;cases e1:pv ρ with
 | none=>rw[e1] at e;cases e
 | some d =>
  rw[e1] at e;dsimp only at e;split at e
  ·rename_i m l L;cases e2:pk ρ with
   | none=>rw[e2] at e;cases e
   | some y =>
    rw[e2] at e;dsimp only at e;cases e3:Jm y with
    | none=>rw[e3] at e;cases e
    | some c =>
     rw[e3] at e;dsimp only at e;cases hm:frz d&&lim m.length with
     | false=>rw[hm] at e;cases e
     | true =>
      rw[hm] at e;cases e;rw[L9] at hm;refine V w.zd s e1 λ{u Z1 W P1} q M=>?_;cases M.nil hm.1;have g:=q.widen w;rw[X7] at g;have N:=q.slots w.zd s;obtain⟨A,P,B,rfl,X,Y,_⟩:=N.put (L8.mp L).1;obtain⟨v,Q,r⟩:=X _ L;rw[Rep] at r;obtain⟨a,S,E,rfl,rs,F,D,rfl⟩:=r;have D:W a=some (.dK ((m.map kaV).zip S)):=D;refine⟨.ref a,Q,?_⟩;refine U q.wf.zd N e2 λ{t x p P2} n r2=>?_;obtain⟨rfl,_⟩:=Ja e3 r2;have h:=n.widen g.wf;rw[X7] at h;have G:p a=some (.dK ((m.map kaV).zip S)):=by rw[n.same a (by rw[D];exact λz=>(nomatch z))];exact D
      have I:=n.reps q.wf.zd rs;have J:=n.rep q.wf.zd M;obtain⟨j,O2,r3,e4,sl,K⟩:=uk J c I F;refine⟨a,_,rfl,DPut.k G (by rw[List.length_zip,L0];exact E2 (Nat.min_le_left _ _) (wn hm.2)),?_⟩;rw[<- e4];have nd:=h.wf.nd;have gB:Go x p (A++(a::E)++B) x (upd p a (.dK (((Jl m l c d).1.map kaV).zip j))) (A++(a::E)++B):=Go.put h.wf (by simp);have gC:Go x p (A++(a::E)++B) x (upd p a (.dK (((Jl m l c d).1.map kaV).zip j))) (A++(a::O2)++B):=gB.drop (λb f=>by
       simp at f ⊢;rcases f with f | f | f | f
       ·exact .inl f
       ·exact .inr (.inl f)
       ·exact .inr (.inr (.inl (sl.subset f)))
       ·exact .inr (.inr (.inr f))) (List.Nodup.sublist (List.Sublist.append (List.Sublist.append (List.Sublist.refl A) (List.Sublist.cons_cons a sl)) (List.Sublist.refl B)) nd)
      have C:∀ b,x b->upd p a (.dK (((Jl m l c d).1.map kaV).zip j)) b=p b:=λb f=>jm λz=>h.wf.nz a (by simp) (z▸f);simp only[X0,N1,List.nodup_cons,M4,not_or] at nd;obtain⟨⟨n1,⟨n2,n3⟩,n5⟩,n6,n7⟩:=nd;have hr:Rep R x (upd p a (.dK (((Jl m l c d).1.map kaV).zip j))) (.dK true (Jl m l c d).1 (Jl m l c d).2) (.ref a) (a::O2):=by
       rw[Rep];exact⟨a,j,O2,rfl,r3.frame (λb z=>z) C (λb f=>jm λz=>n2 (z▸sl.subset f)),K,jD,rfl⟩
      have T:=Y (v':=.ref a) hr (λb f=>n.zz b f) (λb f=>(C b (n.zz b f)).trans (n.same b (q.wf.zd b f))) (λb f=>(jm λz=>n5 b f a (.inl rfl) z).trans (n.same b (g.wf.od b (by simp[f])))) (λb f=>(jm λz=>n7 a (.inr (.inl rfl)) b f z.symm).trans (n.same b (g.wf.od b (by simp[f]))));rw[yZ Q] at T;exact k ((g.trans h).trans gC) T (Keep.refl _ _)
  ·cases e
end
theorem jbO:QP cl X (.Dict [] [] pos) jdy (pC (.dK true [] [])):=⟨jgL,jiZ⟩
theorem kG(e:Room k X.A)(c:QB cl X a ta pa)(d:QB cl X b tb pb)(f:jmN b:=by exact λ_ _=>rfl):QB cl X (.Subscript a b pos) (jic ta tb) (p2 yS pa pb):=⟨jir (jeV e) c.sem d.sem f,jjv c.den d.den⟩
theorem jee  (d:Room k X.A) (a:QB cl X o to po) (b:QB cl X e te pe) (c:QB cl X f tf pf) (m:M2 X o "get" apos e f cpos:=by exact⟨rfl,rfl,rfl,rfl⟩) :
  QB cl X (.Call (.Attribute o "get" apos) [e,f] [] cpos) (jdu to te tf) (p3 xF po pe pf):=⟨jfG (jeV d) a.sem b.sem c.sem m,jgj a.den b.den c.den⟩
theorem jex  (d:Room k X.A) (f:QB cl X (.Name x xpos) (J5 i) (pV i)) (a:QB cl X b tb pb) (c:QB cl X e te pe) (g:swapsWith e (some (.Subscript (.Name x xpos) b pos')) pos.line X.env=pure false:=by rfl) :
  QS cl pm X (.Assign [.Subscript (.Name x xpos) b pos'] e pos) (jeP (J5 i) tb te) (jaR i pb pe):=⟨jdv (jeV d) f.sem a.sem c.sem g,jiH a.den c.den⟩
@[simp] theorem p3_e  : p3 g pa pb pc ρ=(pa ρ).bind λx=>(pb ρ).bind λy=>(pc ρ).bind λz=>g x y z:=by
 unfold p3;cases pa ρ with
 | none=>rfl
 | some x =>
  dsimp only[Option.bind];cases pb ρ with
  | none=>rfl
  | some y=>dsimp only;cases pc ρ<;>rfl
noncomputable def jlL:D->Option (List KA×List D)
 | .dK true ks l=>some (ks,l)
 | _=>none
@[simp] theorem dkOf_dK(ks:List KA)(l:List D):jlL (.dK true ks l)=some (ks,l):=rfl
@[simp] theorem sDSet_e{i:Nat}{pk pv:PF}{ρ:Rh}:jaR i pk pv ρ=(pv ρ).bind λd=>(pV i ρ).bind λx=>(jlL x).bind λp=>(pk ρ).bind λy=>(Jm y).bind λa=>bif frz d&&lim p.1.length then some (.nx (ρ.set i (some (.dK true (Jl p.1 p.2 a d).1 (Jl p.1 p.2 a d).2)))) else none:=by
 unfold jaR pV;cases pv ρ with
 | none=>rfl
 | some d =>
  dsimp only[Option.bind];cases h:ρ[i]? with
  | none=>rfl
  | some o=>cases o with
   | none=>rfl
   | some x=>cases x with
    | dK o b l=>cases o with
     | false=>rfl
     | true =>
      dsimp only[jlL];cases pk ρ with
      | none=>rfl
      | some y=>dsimp only;cases Jm y<;>rfl
    | _=>rfl
@[simp] theorem keyOf_int(i:Int):Jm (.int i)=some (.int i):=rfl
@[simp] theorem jeD(s:List Nat):Jm (.str s)=some (.str s):=rfl
@[simp] theorem opDIx_e(o:Bool)(ks:List KA)(l:List D)(y:D):yS (.dK o ks l) y=(Jm y).bind λk=>zc ks l k:=rfl
@[simp] theorem jfJ(o:Bool)(ks:List KA)(l:List D)(y z:D):xF (.dK o ks l) y z=(Jm y).bind λk=>some ((zc ks l k).getD z):=rfl
@[simp] theorem opDIn_e(neg o:Bool)(ks:List KA)(l:List D)(y:D):zQ neg y (.dK o ks l)=(Jm y).bind λk=>some (.bl (neg != (zc ks l k).isSome)):=rfl
theorem jiC{P:Program}{w:World}{K:PySem.W.Frag}{cl:Nat->Addr}{mg:Str->Option Value}{base:Heap}{k n:Nat}{f:Addr}{fd:FuncData}{ps:List Str}:FnOk P w K mg base CX0 k f fd ps (spP ⟨K,cl⟩ (λ_=>none) n) :=
 ⟨λb H Q E ⟨_,_,_,_,_,_,h,_⟩=>(nomatch h),λA outer s H a c b Q E _ _ _ _ ⟨_,_,_,_,_,_,h,_⟩=>(nomatch h)⟩
end QD
namespace PySem
open Sem (wp)
namespace F
theorem lk_list_keys:typeLookup (.type "list") "keys" = pure none:=by rw[typeLookup_type,builtinLookup_eq_fast];kernel_rfl
theorem lk_list_getattr:typeLookup (.type "list") "__getattr__" = pure none:=by rw[typeLookup_type,builtinLookup_eq_fast];kernel_rfl
theorem plain_dict_loop:plainId "dict.update.loop" = true:=by decide +kernel
theorem entry_dict_loop:entryFor table "dict.update.loop" = some Builtin.«dict.update.loop»:=entryFor_of_fast (by kernel_rfl)
end F
section
variable {prog:Program}{w:World}{A:Around}{E:Value->Shared->Prop}{h:Heap}{g:Array GenState}{d:Drawn}{t:Nat}{os:OsState}{a:Addr}{o:Obj}
theorem F.sub_attrErr:isSubtype (.type "AttributeError") (.type "AttributeError")=pure true:=by rw[isSubtype_type];kernel_rfl
theorem jgl{x nm:Value}{e:Addr}{y:Value}{Q:Unit->Shared->Prop}(a:h.get? e=some { cls:=.type "AttributeError",data:=.fields #[y,.none,.none,.none,.bool false,.none,unsetMember,unsetMember] })
  (c:∀ h',(∀ b o,b≠e->h.get? b=some o->h'.get? b=some o)->(∃ ob,h'.get? e=some ob/\ob.cls=.type "AttributeError")->Q () ⟨h',g,d,t,os⟩) :
  wpAny (model prog w) A (noteAttr (.ref e) x nm) Q E ⟨h,g,d,t,os⟩:=by
 have j:(⟨h,g,d,t,os⟩:Shared).TypeIs (.ref e) "AttributeError":=⟨_,a,rfl⟩;have k:=F.sub_attrErr;unfold noteAttr
 repeat (any_goals (first | assumption | wp_step))
 refine c _ (λb o f i=>?_) ?_
 ·rw[Heap.get?_update_ne _ _ _ _ f];exact i
 ·exact⟨_,Heap.get?_update_self _ a rfl,rfl⟩
theorem Qx{α:Type}{x:Value}{nm c:Str}{Q:α->Shared->Prop}(l:c.length<=sizeLine)(n:A.handled=none)
  (p:∀ h' e t',(∀ b o,h.get? b=some o->h'.get? b=some o)->h.get? e=none->(∃ ob,h'.get? e=some ob/\ob.cls=.type "AttributeError")->E (.ref e) ⟨h',g,d,t',os⟩) :
  wpAny (model prog w) A (raiseAttrError x nm c:Sem α) Q E ⟨h,g,d,t,os⟩:=by
 unfold raiseAttrError;refine L1 (wpAny_mkStr (L1 ?_) l);unfold newExc newTuple;refine L1 (wpAny_newObj_type ?_);refine L1 (m:=firstArgMember _ _) (wpAny_of_eq (a:=Value.none) (by simp only[firstArgMember];rfl) ?_);refine wpAny_newObj_type ?_;refine L1 (wpAny_mkText (L1 ?_));refine jgl (y:=.ref h.objs.size) (E1 _ rfl) λh' q r=>?_;unfold raiseNew;refine L1 (wpAny_handled ?_);rw[n];have f:∀ i,E (.ref (h.push { cls:=.type "tuple",data:=.seq #[Value.str c t] }).objs.size) ⟨h',g,d,i,os⟩:=λi=>p h' _ _ (λb o j=>q b o (λz=>by
  have k:=N0 j;rw[z] at k;exact absurd k (Nat.not_lt.mpr (by simp))) (L7 _ (L7 _ j))) (Heap.get?_none_of_le (by simp)) r
 first
  | exact wpAny_throw (f _)
  | exact L1 (M6 (wpAny_throw (f _)))
theorem jcw{its:Array Value}{n:Nat}{sl:Array (Option Value)}{tk:Tok}{Q:Fin->Shared->Prop}(c:A.handled=none)(f:h.get? a=some { cls:=.type "list",data:=.seq its n,slots:=sl })
  (i:∀ h' e t',(∀ b o,h.get? b=some o->h'.get? b=some o)->h.get? e=none->(∃ ob,h'.get? e=some ob/\ob.cls=.type "AttributeError")->E (.ref e) ⟨h',g,d,t',os⟩) :
  wpAny (model prog w) A (Builtin.«object.__getattribute__» ⟨[.ref a,.str "keys" tk],[]⟩) Q E ⟨h,g,d,t,os⟩:=by
 have j:(⟨h,g,d,t,os⟩:Shared).TypeIs (.ref a) "list":=⟨_,f,rfl⟩;have k:=F.lk_list_keys
 repeat (any_goals (first | assumption | wp_step))
 exact Qx (by decide +kernel) c i
theorem jeE{its:Array Value}{n:Nat}{sl:Array (Option Value)}{tk:Tok}{R:Result->Shared->Prop}(f:A.handled=none)(c:h.get? a=some { cls:=.type "list",data:=.seq its n,slots:=sl })
  (i:∀ h' e t',(∀ b o,h.get? b=some o->h'.get? b=some o)->h.get? e=none->(∃ ob,h'.get? e=some ob/\ob.cls=.type "AttributeError")->R (.error (.ref e)) ⟨h',g,d,t',os⟩) :
  codeAny (model prog w) A (.call (.builtin "list.__getattribute__") ⟨[.ref a,.str "keys" tk],[]⟩) R ⟨h,g,d,t,os⟩:=by
 refine codeAny_call_builtin F.slot_list_getattribute.plain F.entry_list_ga (F.slot_list_getattribute.check _ _ _ _ _ _ _ _ (show(⟨h,g,d,t,os⟩:Shared).TypeIs (.ref a) "list" from⟨_,c,rfl⟩) (F.args_list_getattribute_2 _ _) ?_);exact jcw (show A.in1.handled=none from f) c i
theorem jip{its:Array Value}{n:Nat}{sl:Array (Option Value)}{tk:Tok}{Q:Value->Shared->Prop}(k:A.handled=none)(i:h.get? a=some { cls:=.type "list",data:=.seq its n,slots:=sl })
  (l:∀ h' e t',(∀ b o,h.get? b=some o->h'.get? b=some o)->h.get? e=none->(∃ ob,h'.get? e=some ob/\ob.cls=.type "AttributeError")->E (.ref e) ⟨h',g,d,t',os⟩) :
  wpAny (model prog w) A (getAttrBy (.ref a) (.str "keys" tk) false) Q E ⟨h,g,d,t,os⟩:=by
 have u:(⟨h,g,d,t,os⟩:Shared).TypeIs (.ref a) "list":=⟨_,i,rfl⟩;have v:=F.sub_attrErr;have x:=F.slot_list_getattribute.lookup;have y:=F.slot_list_getattribute.bind (.ref a);have z:=F.lk_list_getattr
 repeat (any_goals (first | assumption | wp_step))
 refine jeE k i λh' e t' m p j=>?_;have c:=j;obtain⟨ob,f,q⟩:=j;have r:(⟨h',g,d,t',os⟩:Shared).TypeIs (.ref e) "AttributeError":=⟨_,f,q⟩;have s:=l h' e t' m p c;show wpAny (model prog w) A (getattributeRaised (Value.ref a) (Value.str (Str.ofString "keys") tk) (Value.type "list") (.ref e) none false false) Q E _;unfold getattributeRaised
 repeat (any_goals (first | assumption | wp_step))
theorem jeA{its:Array Value}{n:Nat}{sl:Array (Option Value)}{Q:Option Value->Shared->Prop}(f:A.handled=none)(i:h.get? a=some { cls:=.type "list",data:=.seq its n,slots:=sl })
  (j:∀ h' t',(∀ b o,h.get? b=some o->h'.get? b=some o)->Q none ⟨h',g,d,t',os⟩):wpAny (model prog w) A (getAttr? (.ref a) "keys") Q E ⟨h,g,d,t,os⟩:=by
 unfold getAttr? getAttrBy?
 refine L1 (wpAny_mkText (L1 ?_));refine wpAny_attempt ?_;refine jip f i λh' e t' k r l=>?_;obtain⟨ob,c,m⟩:=l;have p:(⟨h',g,d,t',os⟩:Shared).TypeIs (.ref e) "AttributeError":=⟨_,c,m⟩;have s:=F.sub_attrErr;have q:=j h' t' k
 repeat (any_goals (first | assumption | wp_step))
end
section
variable {prog:Program}{w:World}{K:Type} [DecidableEq K] {knd:KeyKind prog w K}{A:Around}{E:Value->Shared->Prop}{s:Shared}
theorem Qj  (c:s.heap.get? p=some o) (b:o.cls=.type "tuple") (hd:o.data=.seq #[key,x] m) (e:Q [key,x] s):wpAny (model prog w) A (Builtin.Dict.pairItems (.ref p)) Q E s:=by
 obtain⟨f,od,a,d⟩:=o;dsimp only at b hd;subst b;subst hd;have g:s.TypeIs (.ref p) "tuple":=⟨_,c,rfl⟩;unfold Builtin.Dict.pairItems
 repeat (any_goals (first | assumption | wp_step))
def u4(knd:KeyKind prog w K)(h:Heap)(v:Value)(kv:K×Value):Prop:=∃ p key m o,v=.ref p/\h.get? p=some o/\o.cls=.type "tuple"/\o.data=.seq #[key,kv.2] m/\knd.is kv.1 key=true
theorem jdW{R:Result->Shared->Prop}(hh:A.handled=none)  (q:ax≠I) (h:D≠I) (P:D≠ax) {items:Array Value}{ps:List (K×Value)}(r:items.size=ps.length):∀(k i:Nat) (s:Shared) (kvs:List (K×Value)),
  items.size - i=k->i<=items.size->(s.heap.IsListIter I ax i/\s.heap.IsList ax items)->s.heap.DictOf knd D kvs ->
  (∀(j:Nat) (v:Value),items[j]?=some v->∃ kv,ps[j]?=some kv/\u4 knd s.heap v kv/\v≠.ref I/\v≠.ref D)->kvs.length+k<=100000 ->
  (∀ h' tk,h'.DictOf knd D ((ps.drop i).foldl (λa kv=>stored a kv.1 kv.2) kvs)->(∀ b o,b≠I->b≠D->s.heap.get? b=some o->h'.get? b=some o)->R (.ok (.ret .none)) { s with heap:=h',toks:=tk }) ->
  codeAny (model prog w) A (.builtin "dict.update.loop" ⟨[.ref D,.ref I,rawInt i,.none],[]⟩) R s:=by
 intro k
 induction k with
 | zero =>
  intro i s kvs hk hi l hd Q hz S;have T:i=items.size:=by omega
  subst T;have W:=Walks.list (prog:=prog) (w:=w) (A:=A.in1) (by exact hh) I ax q items;refine codeAny_builtin F.entry_dict_loop ?_;rw[Around.under_plainId F.plain_dict_loop _];show wpAny _ A.in1 (pyNext (.ref I) >>= _) _ _ s;refine L1 (W.done s _ _ l λh' tk c=>?_);have fin:=S h' tk (by rw[r,List.drop_length];exact hd.extBut (b:=I) (λb o d e=>c b o (by simpa using d) e) h) (λb o d _ e=>c b o (by simpa using d) e);unfold Builtin.Dict.addKeywords
  repeat (any_goals (first | assumption | wp_step))
 | succ k ih =>
  intro i s kvs hk hi l hd Q hz S;have t:i < items.size:=by omega
  have W:=Walks.list (prog:=prog) (w:=w) (A:=A.in1) (by exact hh) I ax q items;refine codeAny_builtin F.entry_dict_loop ?_;rw[Around.under_plainId F.plain_dict_loop _];show wpAny _ A.in1 (pyNext (.ref I) >>= _) _ _ s;refine L1 (W.item i s _ _ t l λv h' tk hP u c=>?_);obtain⟨kv,x,⟨p,y,m,po,rfl,U,V,X,B⟩,Y,hvD⟩:=Q i v hP;have C:h'.get? p=some po:=c p _ (by simpa using λz=>Y (by rw[z])) U;have Z:h'.DictOf knd D kvs:=hd.extBut (b:=I) (λb o d e=>c b o (by simpa using d) e) h;refine L1 (wpAny_holding ?_);refine L1 (wpAny_tryCatch (Qj C V X ?_));show wpAny _ _ (holding [y,kv.2] (dictSet D y kv.2)) _ _ _;have hsz:sizeLine=16777216:=by decide
  refine wpAny_holding (wpAny_dictSet_pairs B Z (λh'' E hs=>?_) (by omega));refine M6 ⟨plainId_quiet F.plain_dict_loop _,?_⟩;have hd2:ps.drop i=kv::ps.drop (i+1):=by
   have G:i < ps.length:=by omega
   rw[List.drop_eq_getElem_cons G];have:ps[i]=kv:=by
    rw[X8 G] at x;exact X6 x
   rw[this]
  refine ih (i+1) _ (stored kvs kv.1 kv.2) (by omega) t (W.frame (i+1) h' h'' u λb d o e=>(hs.2 b ?_).trans e) E (λj v hv=>?_) ?_ λh3 tk3 hd3 hk3=>?_
  ·rcases M4.mp d with rfl | d
   ·exact λz=>h z.symm
   ·rw[M7.mp d];exact λz=>P z.symm
  ·obtain⟨kv',H,⟨p',J,m',po',rfl,L,M,N,n⟩,f,g⟩:=Q j v hv;refine⟨kv',H,⟨p',J,m',po',rfl,?_,M,N,n⟩,f,g⟩;exact(hs.2 p' λz=>g (by rw[z])).trans (c p' _ (by simpa using λz=>f (by rw[z])) L)
  ·have:=stored_length_le kvs kv.1 kv.2;omega
  ·refine S h3 tk3 ?_ λb o d O e=>hk3 b o d O ((hs.2 b O).trans (c b o (by simpa using d) e));rw[hd2,X1];exact hd3
end
section
variable {prog:Program}{w:World}{K:Type} [DecidableEq K] {knd:KeyKind prog w K}{A:Around}{E:Value->Shared->Prop}{s:Shared}
theorem xV  {its:Array Value}{n:Nat}{sl:Array (Option Value)}{ps:List (K×Value)}{Q:Value->Shared->Prop}(O:A.handled=none) (x:s.heap.get? p=some { cls:=.type "list",data:=.seq its n,slots:=sl }) (k:its.size=ps.length)
  (S:∀(j:Nat) (v:Value),its[j]?=some v->∃ kv,ps[j]?=some kv/\u4 knd s.heap v kv) (hz:ps.length<=100000)
  (h:∀ h' tk,h'.DictOf knd s.heap.objs.size (ps.foldl (λa kv=>stored a kv.1 kv.2) [])->(∀ b o,s.heap.get? b=some o->h'.get? b=some o)->Q (.ref s.heap.objs.size) { s with heap:=h',toks:=tk }) :
  wpAny (model prog w) A (call (.type "dict") [.ref p]) Q E s:=by
 refine callType_codes (Q₁:=λobj P=>obj=.ref s.heap.objs.size/\P={ s with heap:=s.heap.push { cls:=.type "dict",data:=.dict #[] } }) F.kt_called_dict (F.kt_typeCall_dict_1 _) F.entry_dict_init (kt_code_dict_new _ ⟨rfl,rfl⟩) ?_;rintro obj P ⟨rfl,rfl⟩;have c:(s.heap.push { cls:=.type "dict",data:=.dict #[] }).DictOf knd s.heap.objs.size []:=Heap.DictOf.new s.heap;refine⟨c.typeIs,F.args_dict_init_2 _ _,?_⟩;have f:(s.heap.push { cls:=.type "dict",data:=.dict #[] }).get? p=some { cls:=.type "list",data:=.seq its n,slots:=sl }:=L7 _ x;have R:s.heap.get? s.heap.objs.size=none:=Heap.get?_none_of_le (M8 _);unfold Builtin.«dict.__init__»;refine L1 ?_;unfold Builtin.Dict.selfAndRest;refine L1 (wpAny_notOrdered_dict c.typeIs ?_);show wpAny _ _ (pure (s.heap.objs.size,[Value.ref p])) _ _ _;refine M6 ?_;show wpAny _ _ (Builtin.Dict.updateFrom "dict.__init__" s.heap.objs.size (.ref p) [] .none) _ _ _;unfold Builtin.Dict.updateFrom;refine L1 (wpAny_typeOf (T:="list") ⟨_,f,rfl⟩ ?_);rw[if_pos (by decide)];refine L1 ?_;refine jeA (its:=its) (n:=n) ?_ f λl X d=>?_
 ·exact O
 ·rw[if_pos (show(Option.isNone (none:Option Value))=true from rfl)];refine L1 (wpAny_rule ?_);have g:=d p _ f;have y:l.IsList p its:=⟨_,g,rfl,n,rfl⟩;refine L1 (wpAny_pyIter_list y ?_);have B:=d s.heap.objs.size _ (E1 _ rfl);have C:p≠l.objs.size:=N7 (N0 g);have q:s.heap.objs.size≠l.objs.size:=N7 (N0 B);have D:s.heap.objs.size≠p:=λz=>by rw[<- z,R] at x;cases x
  refine M6 ⟨plainId_quiet F.plain_dict_loop _,?_⟩;refine jdW (A:=A.in1) (knd:=knd) (show A.in1.handled=none from O) C q D k its.size 0 _ [] (by omega) (U6 _) ⟨⟨_,E1 _ rfl,rfl,rfl⟩,?_⟩ ?_ (λU v V=>?_) (by simp;omega) λW G H I=>?_
  ·exact⟨_,L7 _ g,rfl,n,rfl⟩
  ·exact c.extBut (b:=l.objs.size) (λb o Y e=>L7 _ (d b o e)) q
  ·obtain⟨kv,J,u,L,m,po,rfl,i,M,N,r⟩:=S U v V;have t:=d u _ (L7 _ i);refine⟨kv,J,⟨u,L,m,po,rfl,L7 _ t,M,N,r⟩,λz=>?_,λz=>?_⟩
   ·have z:u=l.objs.size:=by injection z
    exact absurd z (N7 (N0 t))
   ·have z:u=s.heap.objs.size:=by injection z
    rw[z,R] at i;cases i
  ·refine⟨rfl,h W G H λb o e=>?_⟩;have t:=d b o (L7 _ e);exact I b o (N7 (N0 t)) (N7 (N0 e)) (L7 _ t)
end
end PySem
namespace L2
open PySem PySem.Spec PyProof.Rows
theorem wQ  (I:Inv X pins σ H s):∀{ys:List V}{its:List Value}{ps:List (Key×V)},Vals ys its->ys.length=ps.length ->
  (∀(j:Nat) (y:V),ys[j]?=some y->∃ kv t,ps[j]?=some kv/\y=.ref t/\SqT X.K H t [kV kv.1,kv.2]) ->
  ∃ qs:List (Key×Value),KV ps qs/\∀(j:Nat) (v:Value),its[j]?=some v->∃ kv,qs[j]?=some kv/\u4 (yx X.prog X.w) s.heap v kv
 | [],its,ps,b,a,c=>by
  cases b;have:ps=[]:=List.length_eq_zero_iff.mp a.symm;subst this;exact⟨[],.nil,λj v e=>by simp at e⟩
 | y::ys,its,[],b,a,c=>by simp at a
 | y::ys,its,kv::ps,b,a,c=>by
  cases b with
  | cons i k =>
   rename_i u D;obtain⟨qs,r,q⟩:=wQ I (ps:=ps) k (by simpa using a) λj y e=>c (j+1) y (by simpa using e);obtain⟨l,t,m,rfl,d⟩:=c 0 y rfl;cases m;cases(show u=Value.ref t from i);obtain⟨g,p,⟨o,e,x,n,hd⟩,_⟩:=I.tuple d;cases p with
   | cons z A =>
    cases A with
    | cons B C =>
     cases C;rename_i f val;refine⟨(kv.1,val)::qs,.cons ⟨rfl,B⟩ r,λj v h=>?_⟩;cases j with
     | zero =>
      cases h;exact⟨_,rfl,t,f,n,o,rfl,e,x,hd,jbc z⟩
     | succ j=>exact q j v (by simpa using h)
theorem wz:∀{ps:List (Key×V)}{qs:List (Key×Value)}{a:List (Key×V)}{b:List (Key×Value)},KV ps qs->KV a b->KV (ps.foldl (λa kv=>Kx a kv.1 kv.2) a) (qs.foldl (λa kv=>stored a kv.1 kv.2) b)
 | [],_,_,_,.nil,h=>h
 | p::ps,q::qs,a,b,.cons c d,h=>by
  rw[X1,X1];refine wz d ?_;have:=h.put p.1 c.2;rw[c.1] at this ⊢;exact this
theorem jbd{ps:List (Key×V)}:∀{qs:List (Key×V)},(ps.foldl (λa kv=>Kx a kv.1 kv.2) qs).length<=qs.length+ps.length:=by
 induction ps with
 | nil=>intro qs;simp
 | cons p ps b =>
  intro qs;rw[X1];have c:=b (qs:=Kx qs p.1 p.2);have d:(Kx qs p.1 p.2).length<=qs.length+1:=by unfold Kx;split<;>simp
  rw[M0];omega
theorem Qk{X:Cx}(B:X.calm=true):KB X (.type "dict") (λxs H Q=>∃(p:Addr) (ys:List V) (ps:List (Key×V)),xs=[.ref p]/\SqL X.K H p ys/\ys.length=ps.length/\ps.length<=100000 /\
  (∀(j:Nat) (y:V),ys[j]?=some y->∃ kv t,ps[j]?=some kv/\y=.ref t/\SqT X.K H t [kV kv.1,kv.2])/\∀ D,H D=none->Q (.ref D) (upd H D (.dK (ps.foldl (λa kv=>Kx a kv.1 kv.2) [])))):=by
 intro x s σ H xs P Q I r h;obtain⟨p,ys,ps,rfl,C,z,E,F,q⟩:=h;obtain⟨u,rfl,G⟩:=r.one;cases G;obtain⟨i,A,⟨o,n,e,b,c,d⟩,_⟩:=I.list C;obtain⟨R,od,k,J⟩:=o;dsimp only at b c d;subst b c d;obtain⟨qs,rel,l⟩:=wQ I A z F;have f:i.toArray.size=qs.length:=by rw[N4,<- A.length,z,rel.length]
 refine xV (knd:=yx X.prog X.w) (I.ok.hd B) e f (λj v L=>l j v (by simpa using L)) (by rw[<- rel.length];exact E) λS M hd N=>?_;have g:=wz rel (.nil:KV ([]:List (Key×V)) []);have m:=jbd (ps:=ps) (qs:=[]);have O:sizeLine=16777216:=by decide
 exact⟨.ref s.heap.objs.size,_,I.laid (a:=s.heap.objs.size) (o:=.dK (ps.foldl (λa kv=>Kx a kv.1 kv.2) [])) (t':=M) N (M8 _) (jby (by simp at m;omega) (U3.mpr (Ne.symm (N7 I.big))) g hd),rfl,q _ (I.hok.fresh (M8 _))⟩
end L2
namespace QD
open PySem L2 PySem.Spec PyProof.Rows
noncomputable def J3:List D->Option (List (KA×D))
 | []=>some []
 | .tup [k,v]::l=>(Jm k).bind λa=>(J3 l).bind λr=>some ((a,v)::r)
 | _::_=>none
noncomputable def Vn(ps:List (KA×D)):List KA×List D:=ps.foldl (λacc kv=>Jl acc.1 acc.2 kv.1 kv.2) ([],[])
noncomputable def zI:List D->Option D
 | [.lst _ l]=>(J3 l).bind λps=>bif frzs (ps.map (·.2))&&lim ps.length then some (.dK true (Vn ps).1 (Vn ps).2) else none
 | _=>none
theorem Qy:∀{l:List D}{ps:List (KA×D)}{ys:List V}{O:List Addr},J3 l=some ps->Reps R Z H l ys O->frzs (ps.map (·.2))=true ->
  ∃ ws:List V,Reps R Z H (ps.map (·.2)) ws []/\ys.length=ps.length/\∀(j:Nat) (y:V),ys[j]?=some y->∃ kv t,((ps.map λp=>kaV p.1).zip ws)[j]?=some kv/\y=.ref t/\SqT R.K H t [kV kv.1,kv.2]
 | [],ps,ys,O,e,r,b=>by
  cases e;rw[Reps] at r;obtain⟨rfl,rfl⟩:=r;exact⟨[],.empty,rfl,λj y c=>by simp at c⟩
 | d::l,ps,ys,O,e,r,b=>by
  match d,e with
  | .tup [k,v],e =>
   simp only[J3] at e;cases e1:Jm k with
   | none=>rw[e1] at e;cases e
   | some a =>
    rw[e1,L3] at e;cases e2:J3 l with
    | none=>rw[e2] at e;cases e
    | some i =>
     rw[e2] at e;cases e;rw[Reps] at r;obtain⟨B,m,O1,O2,rfl,rfl,g,n⟩:=r;rw[L4,Qd,L9] at b;obtain⟨ws,f,o,q⟩:=Qy e2 n b.2;rw[Rep] at g;obtain⟨t,C,rfl,s,x⟩:=g;obtain⟨u,w,P1,P2,rfl,-,z,h⟩:=x.two_of;obtain⟨rfl,_⟩:=Ja e1 z;have A:=h.nil b.1;subst A;refine⟨w::ws,Reps.cons (O:=[]) (P:=[]) h f,by simp[o],λj y c=>?_⟩;cases j with
     | zero =>
      cases c;exact⟨(kaV a,w),t,rfl,rfl,s.sq⟩
     | succ j=>exact q j y (by simpa using c)
theorem KL:∀{ps:List (KA×D)}{ws:List V}{ks:List KA}{l:List D}{us:List V},Reps R Z H (ps.map (·.2)) ws []->Reps R Z H l us []->ks.length=l.length ->
  ∃ us',Reps R Z H (ps.foldl (λacc kv=>Jl acc.1 acc.2 kv.1 kv.2) (ks,l)).2 us' []/\(((ps.foldl (λacc kv=>Jl acc.1 acc.2 kv.1 kv.2) (ks,l)).1).map kaV).zip us'=(((ps.map λp=>kaV p.1).zip ws).foldl (λa kv=>Kx a kv.1 kv.2) ((ks.map kaV).zip us)) /\
   (ps.foldl (λacc kv=>Jl acc.1 acc.2 kv.1 kv.2) (ks,l)).1.length=(ps.foldl (λacc kv=>Jl acc.1 acc.2 kv.1 kv.2) (ks,l)).2.length
 | [],ws,ks,l,us,b,r,c=>⟨us,r,by simp,c⟩
 | p::ps,ws,ks,l,us,b,r,c=>by
  rw[L4,Reps] at b;obtain⟨w,g,O1,O2,rfl,e,h,i⟩:=b;obtain⟨rfl,rfl⟩:=List.append_eq_nil_iff.mp e.symm;obtain⟨j,k,m,n,sl,d⟩:=uk h p.1 r c;have:k=[]:=List.sublist_nil.mp sl;subst this;obtain⟨us',o,q,f⟩:=KL (ps:=ps) i m d;refine⟨us',o,?_,f⟩;rw[L4,U8,X1,X1,q,n]
theorem jaG:BC R (λxs H Q=>∃(p:Addr) (ys:List V) (ps:List (Key×V)),xs=[.ref p]/\SqL R.K H p ys/\ys.length=ps.length/\ps.length<=100000 /\
  (∀(j:Nat) (y:V),ys[j]?=some y->∃ kv t,ps[j]?=some kv/\y=.ref t/\SqT R.K H t [kV kv.1,kv.2])/\∀ D,H D=none->Q (.ref D) (upd H D (.dK (ps.foldl (λa kv=>Kx a kv.1 kv.2) [])))) zI:=by
 intro Z H xs d C O z r e Q k
 match xs,e,r with
 | [.lst o l],e,r =>
  simp only[zI] at e;cases e1:J3 l with
  | none=>rw[e1] at e;cases e
  | some ps =>
   rw[e1,L3] at e;cases hm:frzs (ps.map (·.2))&&lim ps.length with
   | false=>rw[hm] at e;cases e
   | true =>
    rw[hm] at e;cases e;rw[L9] at hm;obtain⟨v,rfl,n⟩:=r.one_of;obtain⟨p,ys,E,rfl,s,u⟩:=n.lst_of;obtain⟨i,b,w,q⟩:=Qy e1 u hm.1;obtain⟨f,A,B,g⟩:=KL (ks:=[]) (l:=[]) (us:=[]) b .empty rfl;have c:i.length=ps.length:=by rw[b.length];simp
    refine⟨p,ys,(ps.map λp=>kaV p.1).zip i,rfl,s.sq,by simp[w,c],by simp[c];exact X5 hm.2,q,λD m=>?_⟩;refine k (Go.newO (wf0 z) m) ?_;have ne:∀ a,H a≠none->a≠D:=λa h e=>h (e▸m);rw[Rep];exact⟨D,f,[],rfl,A.frame (λa z=>z) (λa h=>jm (ne a (z a h))) (λa h=>(nomatch h)),g,by show upd H D _ D=some _;rw[jD];exact congrArg (λx=>some (HO.dK x)) B.symm,rfl⟩
@[simp] theorem jd8(o:Bool)(l:List D):zI [.lst o l]=(J3 l).bind λps=>bif frzs (ps.map (·.2))&&lim ps.length then some (.dK true (Vn ps).1 (Vn ps).2) else none:=rfl
end QD
namespace QK
open PySem L2 QD PySem.Spec PyProof.Rows
end QK
namespace QD
open PySem L2 PySem.Spec PyProof.Rows
end QD
namespace L2
open PySem PySem.Spec PyProof.Rows
end L2
namespace QD
open PySem L2 PySem.Spec PyProof.Rows
theorem jdl  (h:ixN l.length j=some i) (k:l[i]?=some x):L2.atI l j=some x:=by
 unfold L2.atI;rw[h];exact k
theorem Go.frz1  (w:WF Z H (a::O)):Go Z H (a::O) (λb=>Z b \/ b=a) H O:=by
 have nd:=List.nodup_cons.mp w.nd;refine⟨⟨nd.2,λb c z=>?_,λb c=>w.od b (L5 _ c),λb z=>?_⟩,λb z=>.inl z,λ_ _ _=>rfl,λb z=>?_,λb c=>.inl (L5 _ c),λ_ h=>h⟩
 ·rcases z with z | rfl
  ·exact w.nz b (L5 _ c) z
  ·exact nd.1 c
 ·rcases z with z | rfl
  ·exact w.zd b z
  ·exact w.od b L6
 ·rcases z with z | rfl
  ·exact .inl z
  ·exact .inr (.inl L6)
structure QDs(cl:Nat->Addr)(X:Cx)(es:List Expr)(ta:TA)(f:FA):Prop where
 sem:PA X es ta
 den:DA ⟨X.K,cl⟩ ta f
theorem jkG:QDs cl X [] jar jjJ:=⟨xo,jj2⟩
theorem jhT(h1:QE cl X e te fE)(h2:QDs cl X es tr fr)(a:starEach (e::es) X.env=(false,eval e X.env)::starEach es X.env:=by rfl):QDs cl X (e::es) (Vo te tr) (uR fE fr):=⟨Vl h1.sem h2.sem a,jhx h1.den h2.den⟩
@[simp] theorem jh6  : uR fa fr ρ=(fa ρ).bind λx=>(fr x.2).bind λy=>some (x.1::y.1,y.2):=by
 unfold uR;cases fa ρ with
 | none=>rfl
 | some x=>obtain⟨d,r⟩:=x;dsimp only[Option.bind];cases fr r<;>rfl
@[simp] theorem jlE  : jjJ ρ=some ([],ρ):=rfl
end QD
namespace L2
open PySem PySem.Spec PyProof.Rows
theorem jmf  (h:(yx P w).is k u=true):RelV (kV k) u:=by
 rw[jcf] at h;rcases ve h with⟨i,t,rfl,rfl⟩ | ⟨x,t,rfl,rfl⟩
 ·exact⟨t,rfl⟩
 ·exact⟨t,rfl⟩
end L2
namespace QD
open PySem L2 PySem.Spec PyProof.Rows
section
variable {R:RC}{Z Z':Zn}{H H':Hp}{pm:List Nat}
noncomputable def kaD:KA->D
 | .int i=>.int i
 | .str s=>.str s
theorem jju(a:KA):Rep R Z H (kaD a) (kV (kaV a)) []:=by
 cases a with
 | int i=>exact .int_mk
 | str s=>exact .str_mk
end
end QD
namespace L2
open PySem PySem.Spec PyProof.Rows
structure BlockOkC(X:Cx)(scope:Scope)(N':List Str)(ix:List (Option Nat)):Prop where
 kind:scope.kind=.function
 names:∀ y∈scope.names,y.2=.local->scope.names.lookup y.1=some .local
 cells:∀ y∈scope.names,y.2=.cell->scope.names.lookup y.1=some .cell
 uniq:∀ y∈scope.names,y.2=.free->scope.names.lookup y.1=some .free
 outer:∀ y∈scope.names,y.2=.free->X.env.kindOf y.1=some .cell \/ X.env.kindOf y.1=some .free
 nd:N'.Nodup
 len:ix.length=N'.length
 at_:∀(i j:Nat) (x:Str),ix[i]?=some (some j)->N'[i]?=some x->X.N[j]?=some x/\(x,NameKind.free)∈scope.names
 func:X.env.scope.kind=.function
end L2
namespace QD
open PySem L2 PySem.Spec PyProof.Rows
end QD
namespace L2
open PySem PySem.Spec PyProof.Rows
structure KD(P:Program)(w:World)(K:PySem.W.Frag)(a:Addr)(kvs:List (Key×V)):Prop where
 nm:(a==sysModules)=false
 dd:∀ h:Heap,K.In h->∃ vs,KV kvs vs/\h.DictOf (yx P w) a vs
section
variable {prog:Program}{w:World}{A:Around}{E:Value->Shared->Prop}{s:Shared}
theorem wJ{j t:Addr}{n:Nat}{a:Array Value}{y:Value}{C:Value->Shared->Prop}(d:s.heap.IsTupleIter j t n)(e:s.heap.IsTuple t a)(f:a[n]?=some y)
  (go:∀ k,k.IsTupleIter j t (n+1)->Heap.SameBut j s.heap k->C y { s with heap:=k }):wpAny (model prog w) A (Builtin.SmallTypes.nextOf (.ref j)) C E s:=by
 obtain⟨l,c,g,b⟩:=id d;obtain⟨m,h,_,mt,i⟩:=e;delta Builtin.SmallTypes.nextOf;refine L1 (wpAny_callSpecial?_slot (name:=Str.ofString "__next__") d.typeIs F.slot_tuple_iterator_next (wpAny_call_entry F.slot_tuple_iterator_next d.typeIs F.entry_tuple_iterator_next ?_ (F.args_tuple_iterator_next_1 _)));show wpAny _ _ (field (.ref j) 0 >>= _) _ _ s;refine L1 (U7 c b (x:=.ref t) rfl ?_);show wpAny (model prog w) _ (if(Value.ref t==Value.none)=true then _ else _) _ _ s;rw[if_neg (by exact M3)];show wpAny _ _ (field (.ref j) 1 >>= _) _ _ s;refine L1 (U7 c b (x:=.int n 0) rfl ?_);show wpAny (model prog w) _ (seqItems? (.ref t) >>= _) _ _ s;refine L1 (wpAny_seqItems h i ?_);simp only[N9,f];refine L1 (wpAny_setField c b (by simp) (M6 ⟨y,rfl,M6 (go _ ⟨_,Heap.get?_update_self _ c (Obj.isFreed_of_fields (Obj.data_mapFields b _)),(Obj.cls_mapFields ..).trans g,?_⟩ (Heap.SameBut.update ..))⟩));rw[Obj.data_mapFields b];simp[rawInt]
variable {z TI TO j1 j2 l t:Addr}{m:Nat}{us vs:Array Value}{u v a b:Value}
theorem jfr{C:Value->Shared->Prop}(D:ZipApart z TI TO j1 j2 l t)(j:IsZip s.heap z TI TO .none)(qI:IsPair s.heap TI (.ref j1) (.ref j2))(W:IsPair s.heap TO a b)
  (X:s.heap.IsListIter j1 l m) (q2:s.heap.IsTupleIter j2 t m) (Y:s.heap.IsList l us) (Z:s.heap.IsTuple t vs) (eu:us[m]?=some u) (ev:vs[m]?=some v)
  (go:∀ k,IsZip k z TI TO (rawInt s.heap.objs.size)->IsPair k TO u v->k.IsListIter j1 l (m+1)->k.IsTupleIter j2 t (m+1)->IsPair k s.heap.objs.size u v->k.objs.size=s.heap.objs.size+1 ->
   (∀ c o,c≠z->c≠TO->c≠j1->c≠j2->s.heap.get? c=some o->k.get? c=some o)->C (.ref s.heap.objs.size) { s with heap:=k }) :
  wpAny (model prog w) A (Builtin.«zip.__next__» ⟨[.ref z],[]⟩) (λfin s'=>∃ v,fin=.done (.ret v)/\C v s') E s:=by
 show wpAny (model prog w) A (field (.ref z) 2 >>= _) _ _ _;refine L1 (U7 j rfl (x:=.bool false) rfl ?_);show wpAny (model prog w) A (field (.ref z) 3 >>= _) _ _ _;refine L1 (U7 j rfl (x:=.ref TI) rfl (L1 (wpAny_seqItems qI rfl ?_)));show wpAny (model prog w) A (Builtin.SmallTypes.ownedTupleIsFree (.ref z) >>= _) _ _ _;refine L1 ?_;delta Builtin.SmallTypes.ownedTupleIsFree;refine L1 (U7 j rfl (x:=.none) rfl (M6 ?_));simp only[if_true];refine L1 (wpAny_rule (L1 (U7 j rfl (x:=.ref TO) rfl (L1 (wpAny_setField_rec j (by simp) λk1 G f=>?_)))));replace G:IsZip k1 z TI TO .ellipsis:=G;refine L1 ?_;simp only[List.forIn_cons,List.forIn_nil,List.zipIdx_cons,List.zipIdx_nil];refine L1<|L1<|wpAny_onRaise ?_
 show wpAny _ _ (Builtin.SmallTypes.nextOf (.ref j1) >>= _) _ _ _;refine L1 (wpAny_nextOf_list_item (X.extBut f.extBut D.i1z) (Y.extBut f.extBut D.l1z) eu λk2 p1 h=>M6 ?_);have P:IsPair k2 TO a b:=h.extBut _ _ D.TOi1 (f.extBut _ _ D.TOz W);refine L1 (wpAny_seqItems P rfl (L1 (wpAny_updateSeq_pair P λk3 H i=>?_)));replace H:IsPair k3 TO u b:=H;refine L1 (wpAny_letGo (M6 (L1 (L1 (wpAny_onRaise ?_)))));show wpAny _ _ (Builtin.SmallTypes.nextOf (.ref j2) >>= _) _ _ _;refine L1 (wJ (((q2.extBut f.extBut D.i2z).extBut h.extBut D.i12.symm).extBut i.extBut D.TOi2.symm) (((Z.extBut f.extBut D.l2z).extBut h.extBut D.l2i1).extBut i.extBut D.l2TO) ev λk4 p2 n=>M6 ?_);have Q:IsPair k4 TO u b:=n.extBut _ _ D.TOi2 H;refine L1 (wpAny_seqItems Q rfl (L1 (wpAny_updateSeq_pair Q λd r p=>?_)));replace r:IsPair d TO u v:=r;refine L1 (wpAny_letGo (M6 (M6 (L1 (wpAny_seqItems r rfl (L1 (wpAny_newTuple ?_)))))));have R:d.objs.size=s.heap.objs.size:=by rw[p.1,n.1,i.1,h.1,f.1]
 have S:IsZip d z TI TO .ellipsis:=p.extBut _ _ D.TOz.symm (n.extBut _ _ D.i2z.symm (i.extBut _ _ D.TOz.symm (h.extBut _ _ D.i1z.symm G)));have kp:∀ c o,c≠z->c≠TO->c≠j1->c≠j2->s.heap.get? c=some o->d.get? c=some o:=λc o g y I J e=>p.extBut _ _ y (n.extBut _ _ J (i.extBut _ _ y (h.extBut _ _ I (f.extBut _ _ g e))));have K:d.IsListIter j1 l (m+1):=((p1.extBut i.extBut D.TOi1.symm).extBut n.extBut D.i12).extBut p.extBut D.TOi1.symm;have L:d.IsTupleIter j2 t (m+1):=p2.extBut p.extBut D.TOi2.symm;have T:z < d.objs.size:=N0 S;show wpAny (model prog w) A (Builtin.SmallTypes.ownedTupleHandOut (.ref z) (.ref d.objs.size) >>= _) _ _ _;refine L1 ?_;delta Builtin.SmallTypes.ownedTupleHandOut;have z6:IsZip (d.push { cls:=.type "tuple",data:=.seq #[u,v] }) z TI TO .ellipsis:=L7 _ S;refine L1 (wpAny_setField_rec z6 (by simp) λk7 M N=>?_);replace M:IsZip k7 z TI TO (rawInt d.objs.size):=M;refine wpAny_setField_rec M (by simp) λq B O=>?_;replace B:IsZip q z TI TO (rawInt d.objs.size):=B;have F:∀ c o,c≠z->d.get? c=some o->q.get? c=some o:=λc o g e=>O.extBut _ _ g (N.extBut _ _ g (L7 _ e));have U:IsPair q d.objs.size u v:=O.extBut _ _ (Nat.ne_of_gt T) (N.extBut _ _ (Nat.ne_of_gt T) (E1 _ rfl));have V:q.objs.size=d.objs.size+1:=by rw[O.1,N.1,Heap.size_push]
 rw[R] at B U V;refine M6 ⟨_,rfl,?_⟩;show C (.ref d.objs.size) _;rw[R];obtain⟨x1,y1,r1⟩:=K;obtain⟨x2,y2,r2⟩:=L;exact go q B (F _ _ D.TOz r) ⟨x1,F _ _ D.i1z y1,r1⟩ ⟨x2,F _ _ D.i2z y2,r2⟩ U V λc o g y I J e=>F c o g (kp c o g y I J e)
theorem jib{C:PySem.Fin->Shared->Prop}(p:A.handled=none)(D:ZipApart z TI TO j1 j2 l t)(a:IsZip s.heap z TI TO .none)(qI:IsPair s.heap TI (.ref j1) (.ref j2))
  (q:s.heap.IsListIter j1 l m) (r:s.heap.IsList l us) (u:us[m]?=none)
  (go:∀ k e,(∀ c o,c≠z->c≠TO->c≠j1->c≠j2->s.heap.get? c=some o->k.get? c=some o)->(∃ o,k.get? e=some o/\o.cls=.type "StopIteration")->E (.ref e) { s with heap:=k }) :
  wpAny (model prog w) A (Builtin.«zip.__next__» ⟨[.ref z],[]⟩) C E s:=by
 show wpAny (model prog w) A (field (.ref z) 2 >>= _) _ _ _;refine L1 (U7 a rfl (x:=.bool false) rfl ?_);show wpAny (model prog w) A (field (.ref z) 3 >>= _) _ _ _;refine L1 (U7 a rfl (x:=.ref TI) rfl (L1 (wpAny_seqItems qI rfl ?_)));show wpAny (model prog w) A (Builtin.SmallTypes.ownedTupleIsFree (.ref z) >>= _) _ _ _;refine L1 ?_;delta Builtin.SmallTypes.ownedTupleIsFree;refine L1 (U7 a rfl (x:=.none) rfl (M6 ?_));simp only[if_true];refine L1 (wpAny_rule (L1 (U7 a rfl (x:=.ref TO) rfl (L1 (wpAny_setField_rec a (by simp) λv b d=>?_)))));replace b:IsZip v z TI TO .ellipsis:=b;refine L1 ?_;simp only[List.forIn_cons,List.forIn_nil,List.zipIdx_cons,List.zipIdx_nil];refine L1<|L1<|wpAny_onRaise ?_
 show wpAny _ _ (Builtin.SmallTypes.nextOf (.ref j1) >>= _) _ _ _;refine L1 (wpAny_nextOf_list_end p (q.extBut d.extBut D.i1z) (r.extBut d.extBut D.l1z) u λy e g B=>?_);obtain⟨F,f,h⟩:=B;have i:IsZip y z TI TO .ellipsis:=g _ _ D.i1z.symm b;have ne:e≠z:=λx=>by subst x;rw[i] at f;cases f;simp at h
 exact wpAny_setField_rec i (by simp) λG _ j=>go G e (λc o n _ H _ x=>j.extBut _ _ n (g _ _ H (d.extBut _ _ n x))) ⟨F,j.extBut _ _ ne f,h⟩
theorem jgN{C:Option Value->Shared->Prop}(D:ZipApart z TI TO j1 j2 l t)(d:IsZip s.heap z TI TO .none)(qI:IsPair s.heap TI (.ref j1) (.ref j2))(e:IsPair s.heap TO a b)
  (f:s.heap.IsListIter j1 l m) (q2:s.heap.IsTupleIter j2 t m) (g:s.heap.IsList l us) (h:s.heap.IsTuple t vs) (i:us[m]?=some u) (j:vs[m]?=some v)
  (go:∀ k,IsZip k z TI TO (rawInt s.heap.objs.size)->IsPair k TO u v->k.IsListIter j1 l (m+1)->k.IsTupleIter j2 t (m+1)->IsPair k s.heap.objs.size u v->k.objs.size=s.heap.objs.size+1 ->
   (∀ c o,c≠z->c≠TO->c≠j1->c≠j2->s.heap.get? c=some o->k.get? c=some o)->C (some (.ref s.heap.objs.size)) { s with heap:=k }):wpAny (model prog w) A (pyNext (.ref z)) C E s:=by
 have ty:s.TypeIs (.ref z) "zip":=⟨_,d,rfl⟩;unfold pyNext;exact L1 (wpAny_attempt (wpAny_callSpecial?_slot (name:=Str.ofString "__next__") ty F.slot_zip_next (wpAny_call_entry F.slot_zip_next ty F.entry_zip_next
  (jfr D d qI e f q2 g h i j λk c1 n p q r c6 x=>M6 (go k c1 n p q r c6 x)) (F.args_zip_next_1 _))))
theorem jfT{C:Option Value->Shared->Prop}(d:A.handled=none)(D:ZipApart z TI TO j1 j2 l t)(a:IsZip s.heap z TI TO .none)(qI:IsPair s.heap TI (.ref j1) (.ref j2))
  (f:s.heap.IsListIter j1 l m) (g:s.heap.IsList l us) (h:us[m]?=none)
  (go:∀ k,(∀ c o,c≠z->c≠TO->c≠j1->c≠j2->s.heap.get? c=some o->k.get? c=some o)->C none { s with heap:=k }):wpAny (model prog w) A (pyNext (.ref z)) C E s:=by
 have ty:s.TypeIs (.ref z) "zip":=⟨_,a,rfl⟩;unfold pyNext;refine L1 (wpAny_attempt (wpAny_callSpecial?_slot (name:=Str.ofString "__next__") ty F.slot_zip_next (wpAny_call_entry F.slot_zip_next ty F.entry_zip_next (jib d D a qI f g h λk e kp i=>?_) (F.args_zip_next_1 _))));obtain⟨o,j,n⟩:=i;exact L1 (wpAny_isInstance (T:="StopIteration") (b:=true) ⟨o,j,n⟩ isSubtype_stop (M6 (go _ kp)))
end
noncomputable abbrev zlA(h:Heap)(l:Addr):Heap:=h.push { cls:=.type "list_iterator",data:=.fields #[.ref l,.int 0 0] }
noncomputable abbrev zlB(h:Heap)(l t:Addr):Heap:=(zlA h l).push { cls:=.type "tuple_iterator",data:=.fields #[.ref t,.int 0 0] }
noncomputable abbrev zlC(h:Heap)(l t:Addr):Heap:=(zlB h l t).push { cls:=.type "tuple",data:=.seq #[.ref h.objs.size,.ref (zlA h l).objs.size] }
noncomputable abbrev zlD(h:Heap)(l t:Addr):Heap:=(zlC h l t).push { cls:=.type "tuple",data:=.seq #[.none,.none] }
noncomputable abbrev zlE(h:Heap)(l t:Addr):Heap:=(zlD h l t).push { cls:=.type "zip",data:=.fields #[.none,.bool false,.bool false,.ref (zlB h l t).objs.size,.ref (zlC h l t).objs.size] }
theorem jfO(l t:Addr)(us vs:Array Value):Meets (Builtin.«zip.__new__» ⟨[.type "zip",.ref l,.ref t],[]⟩) (λ_ R s=>s.heap.IsList l us/\s.heap.IsTuple t vs/\R (.ok (.ret (.ref (zlD s.heap l t).objs.size))) { s with heap:=zlE s.heap l t }) :=
 .of_wp λprog w A R s h=>by
  obtain⟨a,g,d,b,os⟩:=s;obtain⟨e,f,h⟩:=h;have c:=sub_zip;have i:Heap.IsList (Shared.heap ⟨a,g,d,b,os⟩) l us:=e;have j:Heap.IsTuple (Shared.heap ⟨a.push { cls:=.type "list_iterator",data:=.fields #[.ref l,.int 0 0] },g,d,b,os⟩) t vs:=Heap.IsTuple.push f _
  wp_walk using wpAny_pyIter_list i,wpAny_pyIter_tuple j
  exact⟨_,rfl,h⟩
section
variable {prog:Program}{w:World}{A:Around}{E:Value->Shared->Prop}{s:Shared}
theorem jfe{l t:Addr}{us vs:Array Value}{C:Value->Shared->Prop}(h1:s.heap.IsList l us)(h2:s.heap.IsTuple t vs)
  (go:∀ k,IsZip k (s.heap.objs.size+4) (s.heap.objs.size+2) (s.heap.objs.size+3) .none->IsPair k (s.heap.objs.size+2) (.ref s.heap.objs.size) (.ref (s.heap.objs.size+1))->IsPair k (s.heap.objs.size+3) .none .none ->
   k.IsListIter s.heap.objs.size l 0->k.IsTupleIter (s.heap.objs.size+1) t 0->(∀ c o,s.heap.get? c=some o->k.get? c=some o)->C (.ref (s.heap.objs.size+4)) { s with heap:=k }) :
  wpAny (model prog w) A (call (.type "zip") [.ref l,.ref t]) C E s:=by
 refine callType_new F.called_zip (by decide) (F.typeCall_zip_2 _ _) (F.newCall_zip_2 _ _) (λobj=>F.args_object_init_3 obj _ _) F.entry_zip_new (jfO l t us vs) ⟨h1,h2,?_⟩;have a:(zlA s.heap l).objs.size=s.heap.objs.size+1:=Heap.size_push ..;have b:(zlB s.heap l t).objs.size=s.heap.objs.size+2:=by rw[Heap.size_push,a]
 have d:(zlC s.heap l t).objs.size=s.heap.objs.size+3:=by rw[Heap.size_push,b]
 have f:(zlD s.heap l t).objs.size=s.heap.objs.size+4:=by rw[Heap.size_push,d]
 have e:(zlE s.heap l t).get? (zlD s.heap l t).objs.size=some _:=E1 _ rfl;have g:(zlE s.heap l t).get? (zlC s.heap l t).objs.size=some _:=L7 _ (E1 _ rfl);have h:(zlE s.heap l t).get? (zlB s.heap l t).objs.size=some _:=L7 _ (L7 _ (E1 _ rfl));have i:(zlE s.heap l t).get? (zlA s.heap l).objs.size=some _:=L7 _ (L7 _ (L7 _ (E1 _ rfl)));have j:(zlE s.heap l t).get? s.heap.objs.size=some _:=L7 _ (L7 _ (L7 _ (L7 _ (E1 _ rfl))));show _/\_;rw[b,d,f] at e;rw[a,b] at h;rw[d] at g;rw[a] at i;rw[f];exact⟨⟨_,e,rfl⟩,go _ e h g ⟨_,j,rfl,rfl⟩ ⟨_,i,rfl,rfl⟩ λc o x=>L7 _ (L7 _ (L7 _ (L7 _ (L7 _ x))))⟩
end
end L2
namespace QD
open PySem L2 PySem.Spec PyProof.Rows
end QD
namespace L2
open PySem PySem.Spec PyProof.Rows
end L2
namespace QD
open PySem L2 PySem.Spec PyProof.Rows
noncomputable def spM(R:RC)(m:List D->Option (D×D))(n j:Nat):Sp:=λvs H Q _=>∃ Z ds d c O u,WF Z H O/\ds.length=n/\Reps R Z H ds vs O/\vs[j]?=some u/\m ds=some (d,c) /\
 ∀{v:V}{Z':Zn}{H':Hp}{P O':List Addr},Go Z H O Z' H' (P++O')->Rep R Z' H' d v P->Rep R Z' H' c u O'->Q v H'
noncomputable def jgE(j:Nat):Out->Option (D×D)
 | .rt d ρ=>match ρ[j]? with
  | some (some c)=>some (d,c)
  | _=>none
 | .nx ρ=>match ρ[j]? with
  | some (some c)=>some (.non,c)
  | _=>none
 | _=>none
noncomputable def fnM(n j:Nat)(f:FS):List D->Option (D×D):=λds=>(f (ds.map some++List.replicate (n - ds.length) none)).bind (jgE j)
theorem jen  : fnM n j f ds=(f (ds.map some++List.replicate (n - ds.length) none)).bind (jgE j):=rfl
theorem Go.pick  (g:Go Z H O Z' H' (P++(A++Q++B))):Go Z H O Z' H' (P++Q):=g.drop (λa h=>by simp at h ⊢;rcases h with h | h<;>simp[h]) (by
 have nd:=g.wf.nd;simp only[X0,N1] at nd ⊢;exact⟨nd.1,nd.2.1.1.2.1,λa c b d=>nd.2.2 a c b (.inl (.inr d))⟩)
theorem jiQ  (F:DS R [j] ts f) (h:spM R (fnM N.length j f) n j vs H Q E):ts { nx:=λ_ H'=>Q .non H',rt:=Q } (L2.start N vs) H:=by
 obtain⟨Z,i,d,c,O,u,w,S,r,G,e,k⟩:=h;rw[jen] at e;have s:Slots R Z H (i.map some++List.replicate (N.length - i.length) none) (L2.start N vs) O:=by
  have q:=Qw r (Qp (R:=R) (Z:=Z) (H:=H) (N.length - i.length));unfold L2.start;rw[r.length];rw[M9] at q;exact q
 have x:(L2.start N vs)[j]?=some (some u):=by
  unfold L2.start;have I:j < vs.length:=(L8.mp G).1;rw[List.getElem?_append_left (by simpa using I),List.getElem?_map,G];rfl
 have l:∀{b:Rh}{p:L2.St}{t:Zn}{H':Hp}{P y:List Addr}{v:V}{d':D},b[j]?=some (some c)->Go Z H O t H' (P++y)->Rep R t H' d v P->Slots R t H' b p y->Keep [j] (L2.start N vs) p->Q v H':=by
  intro b p t H' P y v d' a g z m kp;obtain⟨A,T,B,rfl,J,_,_⟩:=m.put (L8.mp a).1;obtain⟨U,K,L⟩:=J c a;have:p[j]?=some (some u):=by rw[kp j (by simp),x]
  rw[K] at this;cases this;exact k g.pick z L
 cases e1:f (i.map some++List.replicate (N.length - i.length) none) with
 | none=>rw[e1] at e;cases e
 | some o =>
  rw[e1,L3] at e;cases o with
  | rt d' b =>
   unfold jgE at e;dsimp only at e;cases a:b[j]? with
   | none=>rw[a] at e;cases e
   | some C =>
    cases C with
    | none=>rw[a] at e;cases e
    | some M =>
     rw[a] at e;cases e;exact F w s e1 λg z m kp=>l (d':=d) a g z m kp
  | nx b =>
   unfold jgE at e;dsimp only at e;cases a:b[j]? with
   | none=>rw[a] at e;cases e
   | some C =>
    cases C with
    | none=>rw[a] at e;cases e
    | some M =>
     rw[a] at e;cases e;exact F w s e1 λg m kp=>l (d':=.non) (P:=[]) a (by simpa using g) .non_mk m kp
  | bk b=>cases e
  | ct b=>cases e
theorem jji  (h:spM R m n j vs H Q E):vs.length=n:=by
 obtain⟨Z,b,d,c,O,u,w,a,r,_⟩:=h;rw[r.length,a]
def PJ(R:RC)(i j:Nat)(ta:TA)(p:PAf):Prop:=∀{σ:L2.St}{ρ:Rh}{Z:Zn}{H:Hp}{O:List Addr}{ds:List D},Zd Z H->Slots R Z H ρ σ O->p ρ=some ds->∀{u:V},σ[i]?=some (some u) ->
 ∀{Q:List V->Hp->Prop},(∀{v1 v2:List V}{Z':Zn}{H':Hp},Go Z H [] Z' H' []->v1.length=j->Reps R Z' H' (ds.take j) v1 []->Reps R Z' H' (ds.drop j) v2 []->Q (v1++u::v2) H')->ta σ H Q
theorem Go.turn  (g:Go Z H O Z' H' (A++(P++Q)++B)):Go Z H O Z' H' (P++(A++Q++B)):=g.drop (λa h=>by simp at h ⊢;rcases h with h | h | h | h<;>simp[h]) (by
 have nd:=g.wf.nd;simp only[X0,N1] at nd ⊢;obtain⟨⟨j,⟨k,l,m⟩,f⟩,n,i⟩:=nd;refine⟨k,⟨⟨j,l,λa d b c=>f a d b (.inr c)⟩,n,λa d b c=>i a (d.elim .inl λq=>.inr (.inr q)) b c⟩,λa d b c e=>?_⟩;rcases c with(c | c) | c
 ·exact f b c a (.inl d) e.symm
 ·exact m a d b c e
 ·exact i a (.inr (.inl d)) b c e)
structure QJ(cl:Nat->Addr)(X:Cx)(i j:Nat)(es:List Expr)(ta:TA)(p:PAf):Prop where
 sem:PA X es ta
 den:PJ ⟨X.K,cl⟩ i j ta p
 n:∀ ρ ds,p ρ=some ds->ds.length+1=es.length/\j<=ds.length
theorem jhm{cl:Nat->Addr}{P:Program}{w:World}{K:PySem.W.Frag}{mg:Str->Option Value}{base:Heap}{x qual:Str}{fst:Stmt}{fa:Addr}{fd:FuncData}{N ps:List Str}{k n j:Nat}{fs:FS}(F:Fun K x qual fst fa fd)(b:FnScope N ps (jp fst))(hn:ps.length=n)
  (a:∀(cdv:Value) (A:Around) (outer:List Env) (s:Shared) (H:Hp) (E:XK),Room k (A.deeper (envOfC qual (jp fst) s.heap.objs.size fa cdv)) ->
   ∃ ts,QSs cl [j] (jg5 CX0 P w K mg base N qual (jp fst) fa cdv A outer s H E).nox (qE fst) ts fs):FnOk P w K mg base CX0 (k+1) fa fd ps (spM ⟨K,cl⟩ (fnM N.length j fs) n j):=by
 refine F.ok b (λc H Q E h=>by rw[jji h,hn]) λcdv A outer s H c Q E d h=>?_;obtain⟨ts,q⟩:=a cdv A outer s H E d;exact⟨ts,q.sem,jiQ q.den h⟩
noncomputable def oF(g:D->D->Option D):D->D->Option D:=λx y=>(g x y).bind λd=>bif frz d then some d else none
theorem BC.o  (h:BC R r g):DC R r g:=λw a e _ k=>h w.zd a e λb c=>k (b.widen w).dropR c
def DIt(R:RC)(wi:TI)(fi:FA):Prop:=∀{σ:L2.St}{ρ ρ':Rh}{Z:Zn}{H:Hp}{O:List Addr}{xs:List D},WF Z H O->Slots R Z H ρ σ O->fi ρ=some (xs,ρ') ->
 ∀{Q:It->Hp->Prop},(∀{J:It}{Z':Zn}{H':Hp}{O':List Addr},Go Z H O Z' H' O'->Slots R Z' H' ρ' σ O'->jiA R J Z' H' xs->Q J H')->wi σ H Q
structure QTE(cl:Nat->Addr)(X:Cx)(e:Expr)(tt:TT)(f:FT'):Prop where
 sem:PT X e tt
 den:DT ⟨X.K,cl⟩ tt f
structure QWE(cl:Nat->Addr)(X:Cx)(e:Expr)(tt:TT)(f:FT'):Prop where
 sem:PW X e tt
 den:DT ⟨X.K,cl⟩ tt f
structure QIE(cl:Nat->Addr)(X:Cx)(tg e:Expr)(wi:TI)(p:FA):Prop where
 sem:PI X tg e wi
 den:DIt ⟨X.K,cl⟩ wi p
theorem jbJ:∀(ρ:Rh) (ds:List D),pN ρ=some ds->ds.length=0:=λρ ds h=>by cases h;rfl
theorem KQ  (h:∀(ρ:Rh) (ds:List D),pr ρ=some ds->ds.length=n):∀(ρ:Rh) (ds:List D),jc p pr ρ=some ds->ds.length=n+1:=λρ ds e=>by
 rw[jiM] at e;cases e1:p ρ with
 | none=>rw[e1] at e;cases e
 | some d =>
  rw[e1,L3] at e;cases e2:pr ρ with
  | none=>rw[e2] at e;cases e
  | some l =>
   rw[e2,L3] at e;cases e;rw[M0,h ρ l e2]
end QD
namespace L2
open PySem PySem.Spec PyProof.Rows
theorem jmh(l:Addr)(items:Array Value)(n:Nat)(b:Addr)(a:Array Value)(d:Nat)(dd:Option Addr)(sl:Array (Option Value))(h0:¬(!items.isEmpty&&Builtin.List.listTooLong (items.size+a.size))=true)(h1:items.size<=sizeLine)(h2:items.size+a.size<=sizeLine+1) :
  Meets (Builtin.«list.extend» ⟨[.ref l,.ref b],[]⟩) (λ_ R s=>s.heap.get? l=some { cls:=.type "list",dict:=none,data:=.seq items n,slots:=#[] }/\s.heap.get? b=some { cls:=.type "list",dict:=dd,data:=.seq a d,slots:=sl }/\R (.ok (.ret Value.none)) { s with heap:=s.heap.update l (Obj.mapSeq λx=>x++a) }) :=
 .of_wp λprog w A R s h=>by
  rcases s with⟨f,g,i,j,os⟩;obtain⟨c,e,q⟩:=h;have k:=AutoSeq1.idx_int;have m:=AutoSeq1.sub_tuple_tuple;have o:=AutoSeq1.sub_list_list;have p:=AutoSeq1.sub_tuple_list;have r:=AutoSeq1.sub_list_tuple;have hz:(items++a).size<=sizeLine+1:=by rw[Array.size_append];exact h2
  wp_walk using(wpAny_updateSeq c rfl (hz:=h1) (_hz':=hz)),wpAny_loadPart' c,wpAny_loadPart' e
  exact⟨_,rfl,q⟩
theorem jmu(l:Addr)(items:Array Value)(n:Nat)(b:Addr)(a:Array Value)(d:Nat)(dd:Option Addr)(sl:Array (Option Value))(h0:¬(!items.isEmpty&&Builtin.List.listTooLong (items.size+a.size))=true)(h1:items.size<=sizeLine)(h2:items.size+a.size<=sizeLine+1) :
  Meets (Builtin.«list.extend» ⟨[.ref l,.ref b],[]⟩) (λ_ R s=>s.heap.get? l=some { cls:=.type "list",dict:=none,data:=.seq items n,slots:=#[] }/\s.heap.get? b=some { cls:=.type "tuple",dict:=dd,data:=.seq a d,slots:=sl }/\R (.ok (.ret Value.none)) { s with heap:=s.heap.update l (Obj.mapSeq λx=>x++a) }) :=
 .of_wp λprog w A R s h=>by
  rcases s with⟨f,g,i,j,os⟩;obtain⟨c,e,q⟩:=h;have k:=AutoSeq1.idx_int;have m:=AutoSeq1.sub_tuple_tuple;have o:=AutoSeq1.sub_list_list;have p:=AutoSeq1.sub_tuple_list;have r:=AutoSeq1.sub_list_tuple;have hz:(items++a).size<=sizeLine+1:=by rw[Array.size_append];exact h2
  wp_walk using(wpAny_updateSeq c rfl (hz:=h1) (_hz':=hz)),wpAny_loadPart' c,wpAny_loadPart' e
  exact⟨_,rfl,q⟩
def jjh(K:PySem.W.Frag):V->List V->Hp->VK->Prop:=λx vs H Q=>∃ l b xs zs,x=.ref l/\vs=[.ref b]/\H l=some (.lst xs)/\(SqL K H b zs \/ SqT K H b zs)/\xs.length+zs.length<=sizeLine/\Q .non (upd H l (.lst (xs++zs)))
theorem jhN:MtM X "list.extend" (jjh X.K):=by
 intro w s σ H x D v E Q I A B h;obtain⟨l,b,G,J,rfl,rfl,m,g,y,q⟩:=h;cases A;obtain⟨u,rfl,C⟩:=B.one;cases C;obtain⟨z,c,n,r,L,e⟩:=I.lstM m;rcases g with g | g
 ·obtain⟨a,i,p2,_⟩:=I.list g;obtain⟨⟨cls,dd,data,sl⟩,k,o,j,hd,p⟩:=p2;simp only at j hd p
  first | subst j | skip
  have f:c.toArray.size+a.toArray.size<=sizeLine:=by rw[N4,N4,<- r.length,<- i.length];exact y
  have d:¬ (!c.toArray.isEmpty&&Builtin.List.listTooLong (c.toArray.size+a.toArray.size))=true:=by
   rw[jbX f,Bool.and_false];exact M3
  have t:s.heap.get? b=some { cls:=.type "list",dict:=dd,data:=.seq a.toArray k,slots:=sl }:=by
   rw[o];simp_all
  refine call_meets PySem.F.slot_list_extend ⟨_,e,rfl⟩ PySem.F.entry_list_extend (PySem.F.args_list_extend_2 _ _) (jmh l c.toArray n b a.toArray k dd sl d (by omega) (by omega)) ⟨e,t,?_⟩;refine⟨.non,_,I.lset (its':=c++a) m e (by simp) (r.append i) ?_,rfl,q⟩;rw[N5];omega
 ·obtain⟨a,i,p2,_⟩:=I.tuple g;obtain⟨⟨cls,dd,data,sl⟩,o,j,k,hd⟩:=p2;simp only at j hd;subst j hd;have f:c.toArray.size+a.toArray.size<=sizeLine:=by rw[N4,N4,<- r.length,<- i.length];exact y
  have d:¬ (!c.toArray.isEmpty&&Builtin.List.listTooLong (c.toArray.size+a.toArray.size))=true:=by
   rw[jbX f,Bool.and_false];exact M3
  refine call_meets PySem.F.slot_list_extend ⟨_,e,rfl⟩ PySem.F.entry_list_extend (PySem.F.args_list_extend_2 _ _) (jmu l c.toArray n b a.toArray k dd sl d (by omega) (by omega)) ⟨e,o,?_⟩;refine⟨.non,_,I.lset (its':=c++a) m e (by simp) (r.append i) ?_,rfl,q⟩;rw[N5];omega
end L2
namespace QD
open PySem L2 PySem.Spec PyProof.Rows
noncomputable def jda:D->Option (List D)
 | .lst _ m=>bif frzs m then some m else none
 | .tup m=>bif frzs m then some m else none
 | _=>none
noncomputable def jfE(i:Nat)(p:PF):FS:=λρ=>(p ρ).bind λe=>(jda e).bind λm=>match ρ[i]? with
 | some (some (.lst true l))=>bif lim (l.length+m.length) then some (.nx (ρ.set i (some (.lst true (l++m))))) else none
 | _=>none
theorem jlu  (h:PB R te p):DS R pm (zD (tBM R.K "list" (jjh R.K) (J5 i) (Vo te jar))) (jfE i p):=by
 intro σ ρ Z H O o w s e D' k;unfold jfE at e;cases e1:p ρ with
 | none=>rw[e1] at e;cases e
 | some d =>
  rw[e1,L3] at e;cases e2:jda d with
  | none=>rw[e2] at e;cases e
  | some m =>
   rw[e2,L3] at e;split at e
   ·rename_i l T;cases hlim:lim (l.length+m.length) with
    | false=>rw[hlim] at e;cases e
    | true =>
     rw[hlim] at e;cases e;obtain⟨A,P,B,rfl,k1,k2,_⟩:=s.put (L8.mp T).1;obtain⟨v,U,r⟩:=k1 _ T;rw[Rep] at r;obtain⟨a,j,y,rfl,V,E,rfl⟩:=r;refine⟨.ref a,U,.inl ⟨rfl,j,SqL.of E⟩,?_⟩;refine h w.zd s e1 λ{u x g P1} q F=>?_;have W:Go Z H (A++a::y++B) x g (A++a::y++B):=by simpa using q.widen w
     have G:=W.wf;have I:g a=some (.lst j):=by rw[q.same a (by rw[E];exact λz=>(nomatch z))];exact E
     have J:=q.reps w.zd V
     -- the things put behind
     have hm:∃ b f,u=.ref b/\(SqL R.K g b f \/ SqT R.K g b f)/\Reps R x g m f []:=by
      cases d with
      | lst o' L =>
       simp only[jda] at e2;cases hf:frzs L with
       | false=>rw[hf] at e2;cases e2
       | true =>
        rw[hf] at e2;cases e2;rw[Rep] at F;obtain⟨b,f,O'',rfl,C,D⟩:=F;cases o' with
        | true=>exact⟨b,f,rfl,.inl (SqL.of D.1),C.frozen hf⟩
        | false=>exact⟨b,f,rfl,.inl (FL.sq D.1),C.frozen hf⟩
      | tup L =>
       simp only[jda] at e2;cases hf:frzs L with
       | false=>rw[hf] at e2;cases e2
       | true =>
        rw[hf] at e2;cases e2;obtain⟨b,f,rfl,D,C⟩:=F.tup_of;exact⟨b,f,rfl,.inr D,C.frozen hf⟩
      | _=>cases e2
     obtain⟨b,f,rfl,hb,X⟩:=hm;refine⟨a,b,j,f,rfl,rfl,I,hb,by rw[V.length,X.length];exact Qe hlim,?_⟩;have nd:=G.nd;simp only[X0,N1,List.nodup_cons,M4] at nd;obtain⟨⟨nA,⟨na,nO⟩,M⟩,nB,N⟩:=nd;have t:∀ c,x c->upd g a (.lst (j++f)) c=g c:=λc z=>jm λe=>G.nz a (by simp) (e▸z);have Q:Reps R x (upd g a (.lst (j++f))) l j y:=J.frame (λ_ z=>z) t λc n=>jm λe=>na (e▸n);have S:Reps R x (upd g a (.lst (j++f))) m f []:=X.frame (λ_ z=>z) t λc n=>(nomatch n);have r2:Rep R x (upd g a (.lst (j++f))) (.lst true (l++m)) (.ref a) (a::y):=by
      rw[Rep];refine⟨a,j++f,y,rfl,?_,jD,rfl⟩;have:=Q.append S;simpa using this
     have sA:∀ c,c∈A->upd g a (.lst (j++f)) c=H c:=λc n=>by
      rw[jm λe=>M c n a (.inl rfl) e];exact q.same c (w.od c (by simp[n]))
     have sB:∀ c,c∈B->upd g a (.lst (j++f)) c=H c:=λc n=>by
      rw[jm λe=>N a (.inr (.inl rfl)) c n e.symm];exact q.same c (w.od c (by simp[n]))
     have Y:=k2 r2 q.zz (λc z=>by rw[t c (q.zz c z)];exact q.same c (w.zd c z)) sA sB;rw[yZ U] at Y;exact k (W.trans (Go.put G (by simp))) Y (Keep.refl _ _)
   ·cases e
theorem jd7  (j:QB cl X (.Name x xpos) (J5 i) (pV i)) (h:QB cl X e te pe) (b:attributeBase (.Name x xpos) "extend" X.env (eval (.Name x xpos) X.env)=eval (.Name x xpos) X.env:=by rfl)
  (d:((backTo cpos (starEach [e] X.env)).all (λx=>!x.1)&&(backToKw cpos (keywordEach [] X.env)).all (λx=>x.1.isSome)
   && decide ([e].length+([]:List Keyword).length+(if([]:List Keyword).isEmpty then 0 else 1) < 30))=true:=by rfl)
  (c:(apos.endLine==cpos.line)=true:=by rfl) (g:starEach [e] X.env=(false,eval e X.env)::starEach [] X.env:=by rfl) (a:(backTo cpos (starEach [] X.env)).any (·.1)=false:=by rfl)
  (f:swapsWith (.Call (.Attribute (.Name x xpos) "extend" apos) [e] [] cpos) none pos.line X.env=pure false:=by rfl) :
  QS cl pm X (.Expr (.Call (.Attribute (.Name x xpos) "extend" apos) [e] [] cpos) pos) (zD (tBM X.K "list" (jjh X.K) (J5 i) (Vo te jar))) (jfE i pe) :=
 ⟨xu (jfD PySem.F.plainAttrs_list PySem.F.slot_list_extend PySem.F.type_list_extend jhN j.sem (Vl h.sem xo g) b d c g a) f,jlu h.den⟩
end QD
namespace QD
open PySem L2
theorem jg  (h:n<=100000):lim n=true:=X2 h
theorem jaJ  (h0:0<=i) (h:i < l.length):atI l i=l[i.toNat]?:=by
 unfold atI ixN;rw[if_pos (by omega),if_pos (by omega)];rfl
theorem YH  (h:(Jn lo n)[i]?=some x):x=.int (lo+i)/\i < n:=by
 unfold Jn at h;rw[List.getElem?_map] at h;by_cases a:i < n
 ·rw[List.getElem?_range a] at h;cases h;exact⟨rfl,a⟩
 ·rw[List.getElem?_eq_none (by simpa using a)] at h;cases h
theorem vv(lo:Int)(n:Nat):(Jn lo n).length=n:=by simp[Jn]
@[simp] theorem eq_ss(a b:List Nat):kS (.str a) (.str b)=some (.bl (a==b)):=rfl
@[simp] theorem ne_ss(a b:List Nat):jjH (.str a) (.str b)=some (.bl (!(a==b))):=rfl
@[simp] theorem in_cs(neg:Bool)(c:Nat)(s:List Nat):J6 neg (.str [c]) (.str s)=some (.bl (neg != decide (c∈s))):=rfl
@[simp] theorem neg_i(i:Int):jey (.int i)=some (.int (-i)):=rfl
theorem uN  (h:a.length+b.length<=100000):jH (.str a) (.str b)=some (.str (a++b)):=by
 show(bif lim (a.length+b.length) then some (D.str (a++b)) else none)=_;rw[jg h];rfl
theorem jm5  (a:s.length<=100000) (h0:0<=i) (h:i < s.length):jn (.str s) (.int i)=some (.str [s.getD i.toNat 0]):=by
 show(bif lim s.length then(match atI s i with | some c=>some (D.str [c]) | none=>none) else none)=_;rw[jg a,jaJ h0 h];have:i.toNat < s.length:=by omega
 simp[this]
theorem KF  (xs:List α)  (h:0<=k):v7 xs none (some k)=xs.take k.toNat:=by
 obtain⟨n,rfl⟩:∃ n:Nat,k=(n:Int):=⟨k.toNat,by omega⟩;rw[jjs];simp
theorem jjU  (a:s.length<=100000):jc3 lo hi (.str s)=some (.str (v7 s lo hi)):=by
 show(bif lim s.length then some (D.str (v7 s lo hi)) else none)=_;rw[jg a];rfl
@[simp] theorem itemsOf_str(s:List Nat):zC (.str s)=some (s.map λc=>D.str [c]):=rfl
@[simp] theorem fTuple_lst(o:Bool)(l:List D):JW [.lst o l]=bif frzs l then some (.tup l) else none:=rfl
theorem xg(w:List Nat)(l:List (List Nat)):jcV (.str w) (l.map D.str)=true:=by
 unfold jcV;rw[L9];refine⟨rfl,List.all_eq_true.mpr λy a=>?_⟩;obtain⟨z,_,rfl⟩:=M5.mp a;rfl
theorem ug(w:List Nat)(l:List (List Nat)):inL (.str w) (l.map D.str)=decide (w∈l):=by
 unfold inL;rw[Bool.eq_iff_iff,List.any_eq_true,decide_eq_true_eq];constructor
 ·rintro⟨y,a,e⟩;obtain⟨z,b,rfl⟩:=M5.mp a;have:z=w:=by
   have e:(z==w)=true:=e;exact eq_of_beq e
  exact this▸b
 ·intro h;exact⟨.str w,M5.mpr ⟨w,h,rfl⟩,by show(w==w)=true;simp⟩
theorem kZ(neg o:Bool)(w:List Nat)(l:List (List Nat)):J6 neg (.str w) (.lst o (l.map D.str))=some (.bl (neg != decide (w∈l))):=by
 show(bif jcV (.str w) (l.map D.str) then some (D.bl (neg != inL (.str w) (l.map D.str))) else none)=_;rw[xg,ug];rfl
mutual
theorem jft:∀(n:Nat) (d:D),okE n d=true->eqD d d=true
 | n,.non,_=>rfl
 | n,.bl _,_=>by show(_==_)=true;simp
 | n,.int _,_=>by show(_==_)=true;simp
 | n,.str _,_=>by show(_==_)=true;simp
 | n+1,.tup l,h=>by rw[eqD];exact xk n l (by simpa [okE] using h)
 | n+1,.lst _ l,h=>by rw[eqD];exact xk n l (by simpa [okE] using h)
 | 0,.tup l,h=>by simp[okE] at h
 | 0,.lst _ l,h=>by simp[okE] at h
 | n,.dK _ _ _,h=>by cases n<;>simp[okE] at h
 | n,.dT _ _ _,h=>by cases n<;>simp[okE] at h
 | n,.ins _ _ _ _,h=>by cases n<;>simp[okE] at h
 | n,.dead,h=>by cases n<;>simp[okE] at h
theorem xk:∀(n:Nat) (l:List D),YW n l=true->jcM l l=true
 | n,[],_=>rfl
 | n,d::l,h=>by
  rw[YW,L9] at h;rw[jcM,jft n d h.1,xk n l h.2];rfl
end
theorem Y7  (h:∀ d∈l,okE n d=true):YW n l=true:=by rw[jbC];exact List.all_eq_true.mpr h
theorem vF:∀{l:List D},(∀ d∈l,frz d=true)->frzs l=true
 | [],_=>rfl
 | d::l,h=>by rw[Qd,h d (by simp),vF λx a=>h x (by simp[a])];rfl
theorem jh5  (h:∀ c∈w,c < 1114112):okE n (.str w)=true:=by
 have:okE n (.str w)=w.all λc=>decide (c < 1114112):=by cases n<;>rfl
 rw[this];exact List.all_eq_true.mpr λc a=>X2 (h c a)
@[simp] theorem okE_int(n:Nat)(i:Int):okE n (.int i)=true:=by cases n<;>rfl
theorem Kz{G:D->Rh->Option Rh}{Good:D->Prop}{P:Rh->Prop}:∀{xs:List D}(_:∀ x∈xs,∀ ρ,P ρ->∃ ρ1 y,G x ρ=some ρ1/\p ρ1=some y/\Good y/\P ρ1) {ρ:Rh}(_:P ρ),∃ ys,jM G qT p xs ρ=some ys/\ys.length=xs.length/\∀ y∈ys,Good y
 | [],_,ρ,_=>⟨[],rfl,rfl,by simp⟩
 | x::xs,step,ρ,b=>by
  obtain⟨ρ1,y,c,d,e,p1⟩:=step x (by simp) ρ b;obtain⟨ys,f,g,h⟩:=Kz (xs:=xs) (λz a=>step z (by simp[a])) p1;refine⟨y::ys,?_,by simp[g],?_⟩
  ·rw[jJ,c];simp[d,f]
  ·intro z a;rcases M4.mp a with rfl | a
   ·exact e
   ·exact h z a
theorem K9  {f:α->D}{Q:α->Prop}:∀{ys:List D},(∀ y∈ys,∃ a,y=f a/\Q a)->∃ l:List α,ys=l.map f/\∀ a∈l,Q a
 | [],_=>⟨[],rfl,by simp⟩
 | y::ys,h=>by
  obtain⟨a,e,q⟩:=h y (by simp);obtain⟨l,c,d⟩:=K9 (ys:=ys) λz g=>h z (by simp[g]);exact⟨a::l,by rw[e,c];rfl,λb i=>(M4.mp i).elim (λz=>z▸q) (d b)⟩
theorem jky  (a:frzs l=true):jc3 lo hi (.lst o l)=some (.lst true (v7 l lo hi)):=by
 show(bif frzs l then some (D.lst true (v7 l lo hi)) else none)=_;rw[a];rfl
theorem jfq  (h0:0<=i) (h:i < l.length):jn (.lst o l) (.int i)=l[i.toNat]?:=jaJ h0 h
theorem jbD  (h0:0<=i) (h:i < l.length):jn (.tup l) (.int i)=l[i.toNat]?:=jaJ h0 h
@[simp] theorem vb(l:List (List Nat)):fzs (l.map D.str)=l.map D.str:=by
 rw[Yk,U2];rfl
@[simp] theorem jA(l:List (List Nat)):frzs (l.map D.str)=true:=by
 rw[VB,List.all_map,List.all_eq_true];intro x _;rfl
@[simp] theorem jaM(l:List (List Nat)):ym (l.map D.str)=true:=by
 rw[kB,List.all_map,List.all_eq_true];intro x _;rfl
theorem qD  {l:List (List Nat)}{i:Int}(h0:0<=i) (h:i < l.length):jn (.lst o (l.map D.str)) (.int i)=some (.str (l.getD i.toNat [])):=by
 rw[jfq h0 (by rw[L0];exact h),List.getElem?_map,List.getD_eq_getElem?_getD,X8 (by omega)];rfl
theorem Jt  {l:List α}{i:Nat}(h:i < l.length):l.getD i d∈l:=by
 rw[List.getD_eq_getElem?_getD,X8 h];exact List.getElem_mem h
theorem jbU  (f:α->β) (l:List α) (lo hi:Option Int):v7 (l.map f) lo hi=(v7 l lo hi).map f:=by
 unfold v7;rw[L0,List.map_take,List.map_drop]
theorem xp(o:Bool)(l:List (List Nat))(lo hi:Option Int):jc3 lo hi (.lst o (l.map D.str))=some (.lst true ((v7 l lo hi).map D.str)):=by
 rw[jky (jA l),jbU]
theorem zB  (St:List α->Rh->Prop) (Ok:α->Prop) (b M:Nat):∀{xs:List D}{acc:List α}{ρ:Rh},
  (∀ x∈xs,∀(acc:List α) (ρ:Rh),acc.length<=M->(∀ a∈acc,Ok a)->St acc ρ->∃(ρ1 ρ2:Rh) (L:List α),G x ρ=some ρ1/\f ρ1=some (.nx ρ2)/\L.length<=b/\(∀ a∈L,Ok a)/\St (acc++L) ρ2) ->
  acc.length+b*xs.length<=M->(∀ a∈acc,Ok a)->St acc ρ->∃(ρ':Rh) (T:List α),kO G f xs ρ=some (.nx ρ')/\St (acc++T) ρ'/\T.length<=b*xs.length/\∀ a∈T,Ok a
 | [],acc,ρ,step,g,c,d=>⟨ρ,[],rfl,by rw[M9];exact d,by simp,by simp⟩
 | x::xs,acc,ρ,step,g,c,d=>by
  rw[M0,Nat.mul_succ] at g;obtain⟨ρ1,ρ2,L,i,j,o,h,k⟩:=step x (by simp) acc ρ (by omega) c d;obtain⟨ρ',T,l,m,p,e⟩:=zB St Ok b M (xs:=xs) (acc:=acc++L) (ρ:=ρ2) (λy n=>step y (by simp[n])) (by rw[N5];omega) (λa q=>(N1.mp q).elim (c a) (h a)) k;refine⟨ρ',L++T,?_,by rw[<- List.append_assoc];exact m,by rw[N5,M0,Nat.mul_succ];omega,λa q=>(N1.mp q).elim (h a) (e a)⟩;rw[vm,i,L3,j,L3,Jk,l]
mutual
theorem jjT:∀(n:Nat) (d:D),okE n d=true->eqD (fz d) d=true
 | n,.non,_=>rfl
 | n,.bl _,_=>by show(_==_)=true;simp
 | n,.int _,_=>by show(_==_)=true;simp
 | n,.str _,_=>by show(_==_)=true;simp
 | n+1,.tup l,h=>by rw[fz,eqD];exact jbg n l (by simpa [okE] using h)
 | n+1,.lst _ l,h=>by rw[fz,eqD];exact jbg n l (by simpa [okE] using h)
 | 0,.tup l,h=>by simp[okE] at h
 | 0,.lst _ l,h=>by simp[okE] at h
 | n,.dK _ _ _,h=>by cases n<;>simp[okE] at h
 | n,.dT _ _ _,h=>by cases n<;>simp[okE] at h
 | n,.ins _ _ _ _,h=>by cases n<;>simp[okE] at h
 | n,.dead,h=>by cases n<;>simp[okE] at h
theorem jbg:∀(n:Nat) (l:List D),YW n l=true->jcM (fzs l) l=true
 | n,[],_=>rfl
 | n,d::l,h=>by
  rw[YW,L9] at h;rw[fzs,jcM,jjT n d h.1,jbg n l h.2];rfl
end
mutual
theorem jhb:∀(n:Nat) (d e:D),okE n d=true->fz d=fz e->eqD d e=true
 | n,.non,e,_,h=>by cases e<;>simp[fz] at h;rfl
 | n,.bl _,e,_,h=>by cases e<;>simp[fz] at h;subst h;show(_==_)=true;simp
 | n,.int _,e,_,h=>by cases e<;>simp[fz] at h;subst h;show(_==_)=true;simp
 | n,.str _,e,_,h=>by cases e<;>simp[fz] at h;subst h;show(_==_)=true;simp
 | n+1,.tup l,e,h,q=>by
  cases e<;>simp[fz] at q;rw[eqD];exact jbu n l _ (by simpa [okE] using h) q
 | n+1,.lst _ l,e,h,q=>by
  cases e<;>simp[fz] at q;rw[eqD];exact jbu n l _ (by simpa [okE] using h) q
 | 0,.tup l,e,h,_=>by simp[okE] at h
 | 0,.lst _ l,e,h,_=>by simp[okE] at h
 | n,.dK _ _ _,e,h,_=>by cases n<;>simp[okE] at h
 | n,.dT _ _ _,e,h,_=>by cases n<;>simp[okE] at h
 | n,.ins _ _ _ _,e,h,_=>by cases n<;>simp[okE] at h
 | n,.dead,e,h,_=>by cases n<;>simp[okE] at h
theorem jbu:∀(n:Nat) (l m:List D),YW n l=true->fzs l=fzs m->jcM l m=true
 | n,[],[],_,_=>rfl
 | n,[],_::_,_,q=>by simp[fzs] at q
 | n,_::_,[],_,q=>by simp[fzs] at q
 | n,d::l,e::m,h,q=>by
  rw[YW,L9] at h;rw[fzs,fzs] at q;injection q with q1 q2;rw[jcM,jhb n d e h.1 q1,jbu n l m h.2 q2];rfl
end
theorem ji2  (h:okE 20 d=true) (h':okE 20 e=true) (q:fz d=fz e) (a:VS d=false:=by rfl):kS d e=some (.bl true):=by
 unfold kS;rw[a,h,h',jhb 20 d e h q];rfl
theorem xA:∀ l:List (List Nat×D),J3 (l.map λp=>.tup [.str p.1,p.2])=some (l.map λp=>(KA.str p.1,p.2))
 | []=>rfl
 | p::l=>by
  rw[L4,J3,xA l];rfl
theorem Kw:∀(ps:List (KA×D)) (ks:List KA) (vs:List D),(ks++ps.map (·.1)).Nodup->ps.foldl (λacc kv=>Jl acc.1 acc.2 kv.1 kv.2) (ks,vs)=(ks++ps.map (·.1),vs++ps.map (·.2))
 | [],ks,vs,_=>by simp
 | p::ps,ks,vs,h=>by
  have a:p.1∉ks:=by
   rw[L4] at h;intro z;exact(X0.mp h).2.2 p.1 z p.1 (by simp) rfl
  rw[X1];have b:Jl ks vs p.1 p.2=(ks++[p.1],vs++[p.2]):=by unfold Jl;rw[if_neg a]
  show ps.foldl _ (Jl ks vs p.1 p.2)=_;rw[b,Kw ps (ks++[p.1]) (vs++[p.2]) (by simpa using h)];simp
theorem wl  {l:List (List Nat×D)}(hn:(l.map (·.1)).Nodup) (g:∀ p∈l,frz p.2=true) (i:l.length<=100000):zI [.lst o (l.map λp=>.tup [.str p.1,p.2])]=some (.dK true (l.map λp=>KA.str p.1) (l.map (·.2))):=by
 have j:((l.map λp=>(KA.str p.1,p.2)).map (·.1)).Nodup:=by
  rw[U2];have:((λx:KA×D=>x.1) ∘ λp:List Nat×D=>(KA.str p.1,p.2))=KA.str ∘ (·.1):=rfl;rw[this,<- U2];exact List.Pairwise.map _ (λa b h z=>h (by cases z;rfl)) hn
 have e:=Kw (l.map λp=>(KA.str p.1,p.2)) [] [] (by simpa using j);show((J3 (l.map λp=>.tup [.str p.1,p.2])).bind λc=>bif frzs (c.map (·.2))&&lim c.length then some (D.dK true (Vn c).1 (Vn c).2) else none)=_;rw[xA,L3];have f:((l.map λp=>(KA.str p.1,p.2)).map (·.2))=l.map (·.2):=by rw[U2];rfl
 rw[f,vF (by intro d hd;obtain⟨p,k,rfl⟩:=M5.mp hd;exact g p k),L0,jg i];unfold Vn;rw[e,f];simp[U2]
noncomputable def lkp{α:Type}(w:List Nat):List (List Nat×α)->Option α
 | []=>none
 | p::l=>if p.1=w then some p.2 else lkp w l
noncomputable def dct(o:Bool)(N:List (List Nat))(f:List Nat->Int):D:=.dK o (N.map KA.str) (N.map λn=>D.int (f n))
theorem wR  (f:List Nat->Int):∀{N:List (List Nat)},c∈N->zc (N.map KA.str) (N.map λn=>D.int (f n)) (.str c)=some (.int (f c))
 | [],h=>by cases h
 | n::N,h=>by
  rw[L4,L4,zc];by_cases e:n=c
  ·rw[if_pos (by rw[e]),e]
  ·rw[if_neg λz=>e (by cases z;rfl)];exact wR f ((M4.mp h).resolve_left λz=>e z.symm)
theorem ui  (h:c∈N):yS (dct o N f) (.str c)=some (.int (f c)):=wR f h
theorem jb4(f:List Nat->Int)(c:List Nat)(v:Int):∀ N:List (List Nat),jde (N.map KA.str) (N.map λn=>D.int (f n)) (.str c) (.int v)=N.map λn=>D.int (if n=c then v else f n)
 | []=>rfl
 | n::N=>by
  rw[L4,L4,jde,jb4 f c v N,L4];by_cases e:n=c
  ·rw[if_pos (by rw[e]),if_pos e]
  ·rw[if_neg λz=>e (by cases z;rfl),if_neg e]
theorem jgb{N:List (List Nat)}{f:List Nat->Int}{c:List Nat}{v:Int}(h:c∈N):Jl (N.map KA.str) (N.map λn=>D.int (f n)) (.str c) (.int v)=(N.map KA.str,N.map λn=>D.int (if n=c then v else f n)):=by
 unfold Jl;rw[if_pos (M5.mpr ⟨c,h,rfl⟩),jb4]
theorem uO  : ∀{l:List (List Nat×α)},(l.map (·.1)).Nodup->∀ p∈l,lkp p.1 l=some p.2
 | [],_,_,h=>by cases h
 | q::l,a,p,h=>by
  rw[L4,List.nodup_cons] at a;rw[lkp];rcases M4.mp h with rfl | h
  ·rw[if_pos rfl]
  ·rw[if_neg λz=>a.1 (by rw[z];exact M5.mpr ⟨p,h,rfl⟩)];exact uO a.2 p h
noncomputable def fnOf(S:List (List Nat×Int))(n:List Nat):Int:=(lkp n S).getD 0
theorem jcz{S:List (List Nat×Int)}(hn:(S.map (·.1)).Nodup){p:List Nat×Int}(h:p∈S):fnOf S p.1=p.2:=by
 unfold fnOf;rw[uO hn p h];rfl
theorem jc9  {S:List (List Nat×Int)}(hn:(S.map (·.1)).Nodup) (b:S.length<=100000):zI [.lst o (S.map λp=>.tup [.str p.1,.int p.2])]=some (dct true (S.map (·.1)) (fnOf S)):=by
 have e:=wl (o:=o) (l:=S.map λq=>(q.1,D.int q.2)) (by rw[U2];exact hn) (by intro q c;obtain⟨a,_,rfl⟩:=M5.mp c;rfl) (by rw[L0];exact b);rw[U2,U2,U2] at e;refine e.trans ?_;unfold dct;rw[U2,U2];congr 2;refine List.map_congr_left λp d=>?_;show D.int p.2=D.int (fnOf S p.1);rw[jcz hn d]
theorem wN(N:List (List Nat))(f:List Nat->Int):frzs (N.map λn=>D.int (f n))=true:=vF λd hd=>by
 obtain⟨n,_,rfl⟩:=M5.mp hd;rfl
@[simp] theorem dkOf_dct(N:List (List Nat))(f:List Nat->Int):jlL (dct true N f)=some (N.map KA.str,N.map λn=>D.int (f n)):=rfl
variable {ρ:Rh}{fa fb fe:FE}{ft fu:FT'}{fr:FA}{p:PAf}{pi:PAf}{g:D->D->Option D}{gl:List D->Option D}{G:D->Rh->Option Rh}{f:FS}{m:List D->Option (D×D)}{mp:List D->Option D}{i j:Nat}
@[simp] theorem dCBx_e:dCB gl fr ρ=(fr ρ).bind λr=>(gl r.1).bind λz=>some (z,r.2):=by
 unfold dCB;cases fr ρ with
 | none=>rfl
 | some r =>
  obtain⟨a,b⟩:=r;dsimp only[Option.bind];cases gl a<;>rfl
@[simp] theorem oF_e  : oF g x y=(g x y).bind λd=>bif frz d then some d else none:=rfl
theorem jh4  : pV i ρ=(ρ[i]?).join:=by
 unfold pV;cases h:ρ[i]? with
 | none=>rfl
 | some o=>cases o<;>rfl
end QD
namespace L2
open PySem PySem.Spec PyProof.Rows
end L2
namespace QD
open PySem L2 PySem.Spec PyProof.Rows
end QD
namespace L2
open PySem PySem.Spec PyProof.Rows
section
open AutoSeq1 (wpAny_loadPart') in
end
section
variable {prog:Program}{w:World}{A:Around}{E:Value->Shared->Prop}{s:Shared}
theorem jeG{j t:Addr}{n:Nat}{b:Array Value}{C:Value->Shared->Prop}(g:A.handled=none)(c:s.heap.IsTupleIter j t n)(h:s.heap.IsTuple t b)(i:b[n]?=none)
  (go:∀ k e,Heap.ExtBut j s.heap k->(∃ o,k.get? e=some o/\o.cls=.type "StopIteration")->E (.ref e) { s with heap:=k }):wpAny (model prog w) A (Builtin.SmallTypes.nextOf (.ref j)) C E s:=by
 obtain⟨q,d,r,f⟩:=id c;obtain⟨u,l,_,mt,p⟩:=h;delta Builtin.SmallTypes.nextOf;refine L1 (wpAny_callSpecial?_slot (name:=Str.ofString "__next__") c.typeIs F.slot_tuple_iterator_next (wpAny_call_entry F.slot_tuple_iterator_next c.typeIs F.entry_tuple_iterator_next ?_ (F.args_tuple_iterator_next_1 _)));show wpAny _ _ (field (.ref j) 0 >>= _) _ _ s;refine L1 (U7 d f (x:=.ref t) rfl ?_);show wpAny (model prog w) _ (if(Value.ref t==Value.none)=true then _ else _) _ _ s;rw[if_neg (by exact M3)];show wpAny _ _ (field (.ref j) 1 >>= _) _ _ s;refine L1 (U7 d f (x:=.int n 0) rfl ?_);show wpAny (model prog w) _ (seqItems? (.ref t) >>= _) _ _ s;refine L1 (wpAny_seqItems l p ?_);simp only[N9,i];refine L1 (wpAny_rule (L1 (wpAny_setField d f (by simp) ?_)));show wpAny _ _ (newExc (.type "StopIteration") [] >>= _) _ _ _;refine L1 ?_;simp only[newExc,newTuple];refine L1 (wpAny_newObj_type ?_ (by size_fits));refine L1 (m:=firstArgMember _ _) (wpAny_of_eq (a:=Value.none) (by first | rfl | (simp only[firstArgMember];rfl)) ?_);refine wpAny_newObj_type ?_ (by size_fits);simp only[raiseNew];refine L1 (wpAny_handled ?_)
 first | rw[show A.in1.handled=none from g] | rw[g]
 refine L1 (M6 (wpAny_throw ?_));exact go _ _ (((Heap.SameBut.update ..).extBut.push _).push _) ⟨_,E1 _ rfl,rfl⟩
variable {z TI TO j1 j2 l t:Addr}{m:Nat}{us vs:Array Value}{u v a b:Value}
end
end L2
namespace QD
open PySem L2 PySem.Spec PyProof.Rows
end QD
namespace L2
open PySem PySem.Spec PyProof.Rows
theorem jiq:typeLookup (.type "list_reverseiterator") "__len__" = pure none:=by rw[typeLookup_type,builtinLookup_eq_fast];kernel_rfl
theorem jgs:typeLookup (.type "list_reverseiterator") "__length_hint__" = pure (some (.builtin "list_reverseiterator.__length_hint__")):=by rw[typeLookup_type,builtinLookup_eq_fast];kernel_rfl
section
variable {prog:Program}{w:World}{A:Around}{s:Shared}{R:Result->Shared->Prop}
variable {I:Addr}{fp wr:List Addr}{G:Array GenState->Array GenState->Prop}{n:Nat}{P:Nat->Value->Prop}{St:Nat->Shared->Prop}
theorem jcB(W:WalksS prog w A.in1 I fp wr G n P St)(h:∀ i s,St i s->s.TypeIs (.ref I) "list_reverseiterator")(S:Addr)(res:Value)(l:Nat)(a:St 0 s)(d:S∉fp)(m:I∈fp)
  (o:s.heap.get? S=some { cls:=.type "list",data:=.seq #[] l })
  (p:∀ s' acc c,Moved (S::wr) G s s'->s'.heap.get? S=some { cls:=.type "list",dict:=none,data:=.seq acc c,slots:=#[] }->ItemsOf P acc n->R (.ok (.ret res)) s') (hn:n<=sizeLine) :
  wpAny (model prog w) A.in1 (Builtin.List.listExtendWith (.ref S) (.ref I) res)
   (λfin s'=>match fin with | .done f=>R (.ok f) s' | .again c'=>c'.quiet=true/\codeAny (model prog w) A c' R s') (λe s'=>R (.error e) s') s:=by
 have j:S≠I:=λe=>d (e▸m);unfold Builtin.List.listExtendWith;refine L1 (wpAny_typeOf (h 0 _ a) ?_);have q:Builtin.List.listSameRef (.ref S) (.ref I)=false:=by simp[Builtin.List.listSameRef,j]
 rw[if_neg (by rw[q];decide)];refine L1 (W.self 0 _ _ _ a ?_);refine L1 (wpAny_holding ?_);unfold Builtin.List.listLengthHint;refine L1 (wpAny_specialOf (h 0 _ a) jiq ?_);show wpAny _ A.in1 (specialOf (Value.ref I) (Str.ofString "__length_hint__") >>= _) _ _ _;refine L1 (wpAny_specialOf (h 0 _ a) jgs ?_);generalize g:("list_reverseiterator.__length_hint__" : String)=id0
 wp_delta
 rw[show splitId id0=some ("list_reverseiterator","__length_hint__") from by subst g;decide +kernel];subst g;refine L1 (wpAny_isInstance (b:=true) (h 0 _ a) (by rw[isSubtype_type];kernel_rfl) ?_);refine M6 ?_;rw[if_neg (by decide)];refine M6 ⟨plainId_quiet F.plain_extend_loop _,codeAny_extend_loopS W hn _ d _ n 0 _ _ _ rfl (U6 _) a o (ItemsOf.nil P) λs' acc c r k t=>?_⟩;exact p s' acc c r k t
theorem jfk(W:WalksS prog w A.in1 I fp wr G n P St)(p:∀ i s,St i s->s.TypeIs (.ref I) "list_reverseiterator")(S:Addr)(j:St 0 s)(a:S∉fp)(q:I∈fp)
  (k:s.heap.get? S=some { cls:=.type "list",data:=.seq #[] })
  (r:∀ s' acc c,Moved (S::wr) G s s'->s'.heap.get? S=some { cls:=.type "list",dict:=none,data:=.seq acc c,slots:=#[] }->ItemsOf P acc n->R (.ok (.ret .none)) s') (hn:n<=sizeLine) :
  wpAny (model prog w) A.in1 (Builtin.«list.__init__» ⟨[.ref S,.ref I],[]⟩)
   (λfin s'=>match fin with | .done f=>R (.ok f) s' | .again c'=>c'.quiet=true/\codeAny (model prog w) A c' R s') (λe s'=>R (.error e) s') s:=by
 show wpAny _ A.in1 (do let was <- Builtin.List.listItems (.ref S);Builtin.List.listUpdate (.ref S) (λ_=>#[]);letGo was.toList.reverse;Builtin.List.listExtendWith (.ref S) (.ref I) .none) _ _ s;refine L1 ?_;unfold Builtin.List.listItems;refine L1 (wpAny_seqItems k rfl (M6 ?_));show wpAny _ A.in1 (updateSeq S (λ_=>#[]) >>= λ_=>letGo (#[]:Array Value).toList.reverse >>= λ_=>Builtin.List.listExtendWith (.ref S) (.ref I) .none) _ _ s;refine L1 (wpAny_updateSeq k rfl ?_);have l:=Heap.get?_update_self (Obj.mapSeq (λ_=>(#[]:Array Value))) k rfl;have d:∀ b o,b≠S->s.heap.get? b=some o->(s.heap.update S (Obj.mapSeq (λ_=>(#[]:Array Value)))).get? b=some o:=λb o g e=>(Heap.get?_update_other _ _ (Ne.symm g)).trans e;refine L1 (wpAny_letGo ?_);refine jcB (hn:=hn) W p S .none _ (W.frame 0 s _ s.toks j (M8 _) λb g o e=>d b o (λh=>a (h▸g)) e) a q l λs' acc c t m u=>?_;exact r s' acc c (Moved.trans W.gtrans ((Moved.refl W.grefl).then_heap (M8 _) λb o g e=>d b o (λh=>g (h▸L6)) e) t) m u
end
section
variable {prog:Program}{w:World}{A:Around}{E:Value->Shared->Prop}{s:Shared}{l:Addr}{us:Array Value}
theorem jfl{C:Value->Shared->Prop}(H:A.handled=none)(D:s.heap.IsList l us)(hz:us.size<=sizeLine)
  (go:∀ k c tk,(∀ b o,s.heap.get? b=some o->k.get? b=some o)->k.get? (s.heap.objs.size+1)=some { cls:=.type "list",dict:=none,data:=.seq us.reverse c,slots:=#[] }->C (.ref (s.heap.objs.size+1)) { s with heap:=k,toks:=tk }) :
  wpAny (model prog w) A (call (.type "list") [.ref s.heap.objs.size]) C E { s with heap:=s.heap.push (revObj l ((us.size:Int) - 1)) }:=by
 have a:(s.heap.push (revObj l ((us.size:Int) - 1))).objs.size=s.heap.objs.size+1:=Heap.size_push _ _;have f:l < s.heap.objs.size:=by
  obtain⟨o,e,_⟩:=id D;exact N0 e
 have t:l≠s.heap.objs.size:=N7 f;have W:=(Walks.listRev (prog:=prog) (w:=w) (A:=A.in1.in1) H s.heap.objs.size l t us).toS;refine callType_codes (Q₁:=λobj u=>obj=.ref (s.heap.push (revObj l ((us.size:Int) - 1))).objs.size/\u={ s with heap:=(s.heap.push (revObj l ((us.size:Int) - 1))).push { cls:=.type "list",data:=.seq #[] } }) F.called_list (F.typeCall_list_1 _) F.entry_list_init
  (code_list_new _ ⟨rfl,rfl⟩) λobj u v=>?_
 obtain⟨rfl,rfl⟩:=v;have G:((s.heap.push (revObj l ((us.size:Int) - 1))).push { cls:=.type "list",data:=.seq #[] }).get? (s.heap.push (revObj l ((us.size:Int) - 1))).objs.size=some { cls:=.type "list",data:=.seq #[] }:=E1 _ rfl;have I:((s.heap.push (revObj l ((us.size:Int) - 1))).push ({ cls:=.type "list",data:=.seq #[] }:Obj)).IsRevIter s.heap.objs.size l ((us.size:Int) - 1 - ((0:Nat):Int)):=⟨_,L7 _ (E1 _ rfl),rfl,by simp[revObj]⟩;have y:((s.heap.push (revObj l ((us.size:Int) - 1))).push ({ cls:=.type "list",data:=.seq #[] }:Obj)).IsList l us:=D.at λo e=>L7 _ (L7 _ e);refine⟨⟨_,G,rfl⟩,F.args_list_init_2 _ _,jfk (hn:=hz) W (λi u x=>x.2.1.typeIs) _ ⟨U6 _,I,y⟩ (λz=>?_) (by simp) G λJ h c p m K=>?_⟩
 ·rw[a] at z;rcases M4.mp z with q | q
  ·exact absurd q (Nat.succ_ne_self _)
  ·have q:=M7.mp q;rw[<- q] at f;exact absurd f (Nat.not_lt.mpr (Nat.le_succ _))
 ·refine⟨rfl,?_⟩;have n:h=us.reverse:=by
   obtain⟨L,M⟩:=K;refine Array.ext (by simp[L]) λj v P=>?_;have q:=M j h[j] (by simp[v]);rw[Array.getElem_reverse];have N:us[us.size - 1 - j]?=some (us[us.size - 1 - j]'(by omega)):=Array.getElem?_eq_getElem (by omega);exact X6 (q.symm.trans N)
  subst n;rw[a] at m ⊢;have O:=p.gens;have hd:=p.drawn;have B:=p.os;obtain⟨k,g,d,tk,os⟩:=J;obtain rfl:g=s.gens:=O;obtain rfl:d=s.drawn:=hd;obtain rfl:os=s.os:=B;refine go k c tk (λb o e=>?_) m;have r:b < s.heap.objs.size:=N0 e;exact p.heap b o (by
   intro z;rw[a] at z;rcases M4.mp z with q | q
   ·rw[q] at r;exact absurd r (Nat.not_lt.mpr (Nat.le_succ _))
   ·rw[M7.mp q] at r;exact absurd r (Nat.lt_irrefl _)) (L7 _ (L7 _ e))
end
noncomputable def jmO(K:PySem.W.Frag)(t:TE):TE:=λσ H Q=>t σ H λx H1=>∃ a ys,x=.ref a/\SqL K H1 a ys/\∀ l,H1 l=none->Q (.ref l) (upd H1 l (.lst ys.reverse))
theorem Vals.rev:∀{xs:List V}{us:List Value},Vals xs us->Vals xs.reverse us.reverse
 | [],_,.nil=>.nil
 | x::xs,u::us,.cons h r=>by
  rw[List.reverse_cons,List.reverse_cons];exact(Vals.rev r).append (.cons h .nil)
section
variable {X:Cx}{a:Expr}{ta:TE}{p p2 pos pos2:Pos}
theorem jlh(z:X.calm=true)(A:Gl X "list")(B:X.mg "list" = none)(i:Gl X "reversed")(j:X.mg "reversed" = none)(C:PE X a ta)
  (D:starEach [.Call (.Name "reversed" p2) [a] [] pos2] X.env=(false,eval (.Call (.Name "reversed" p2) [a] [] pos2) X.env)::starEach [] X.env:=by rfl)
  (m:(backTo pos (starEach [] X.env)).any (·.1)=false:=by rfl)
  (n:backTo pos (starEach [.Call (.Name "reversed" p2) [a] [] pos2] X.env)=[(false,eval (.Call (.Name "reversed" p2) [a] [] pos2) X.env)]:=by rfl)
  (o:starEach [a] X.env=(false,eval a X.env)::starEach [] X.env:=by rfl) (b:(backTo pos2 (starEach [] X.env)).any (·.1)=false:=by rfl)
  (d:backTo pos2 (starEach [a] X.env)=[(false,eval a X.env)]:=by rfl) :
  PE X (.Call (.Name "list" p) [.Call (.Name "reversed" p2) [a] [] pos2] [] pos) (jmO X.K ta):=by
 intro e s σ H Q I h;refine wpAny_Call_Name_kw (VW I A B (show bootBuiltins "list" = some (.type "list") by decide +kernel) ?_ (by decide) (by decide));refine PyProof.Rows.callWith_type1 ?_ D m;rw[n];refine Calls.spliced_cons (wpAny_Call_Name_kw (VW I i j (show bootBuiltins "reversed" = some (.type "reversed") by decide +kernel) ?_ (by decide) (by decide)));refine PyProof.Rows.callWith_type1 ?_ o b;rw[d];refine Calls.spliced_cons (thn (C e s σ H _ I h) λv q ⟨x,P,g,E,l,F,ex,G,J⟩=>Calls.spliced_nil ?_);subst ex;obtain rfl:v=Value.ref l:=E;obtain⟨r,t,u,L⟩:=g.list G;have y:=t.length;refine call_reversed_list u.isList (Calls.spliced_nil ?_);refine jfl (g.ok.hd z) u.isList (by simp only[N4]<;>omega) λk c M N O=>?_;have f:q.heap.objs.size<=q.heap.objs.size+1:=Nat.le_succ _;refine⟨.ref (q.heap.objs.size+1),_,g.laid (t':=M) N f (show ObjOk X.prog X.w _ k _ (.lst F.reverse) from⟨by rw[List.length_reverse];exact L,r.reverse,c,Vals.rev t,by simpa using O⟩),rfl,J _ (g.hok.fresh f)⟩
end
noncomputable def Itk(a:Addr)(o:Obj)(kvs:List (Key×V)):It :=
 ⟨λi H=>H a=some (.frz o (.dK kvs))/\i < kvs.length,λi H x H'=>H'=H/\∃ kv,kvs[i]?=some kv/\x=kV kv.1,λi H=>H a=some (.frz o (.dK kvs))/\kvs.length<=i⟩
theorem jin  (ok:HOk P w H h) (e:H a=some (.frz o (.dK kvs))) :
  h.get? a=some o/\(a==sysModules)=false/\∃ vs,KV kvs vs/\h.DictOf (yx P w) a vs:=by
 obtain⟨b,c⟩:=(show ObjOk P w H h a (.frz o (.dK kvs)) from ok a _ e);obtain⟨_,d,f⟩:=(show ObjOk P w H h a (.dK kvs) from c);exact⟨b,d,f⟩
theorem jjt{P:Program}{w:World}{K:PySem.W.Frag}{tg:Expr}(a it:Addr)(o:Obj)(g:List (Key×V))(es:Array DictEntry)(D:Nat)(ho:o.data=.dict es D):Turn P w K tg (Itk a o g) [it] it (λi h=>h.IsKeyIter it a i g.length D) where
 mem:=by simp
 obj:=λi h j b n=>by
  have e:b=it:=by simpa using n
  subst e;obtain⟨q,e,c,d⟩:=j;exact⟨q,e,λv z=>by rw[d] at z;cases z⟩
 keep:=λi h F j k=>j.at λo e=>k it (by simp) o e
 item:=by
  intro X M N O hc i m s σ H E I G j Q;subst M N O;obtain⟨R,S⟩:=Q;obtain⟨T,g2,J,L,dd⟩:=jin I.hok R;obtain⟨r,l⟩:=dd.dictAt;have t:r=D:=by
   obtain⟨o',U,y,_,A,_⟩:=id l;rw[T] at y;cases y;rw[ho] at A;cases A;rfl
  subst t;have f:=L.length;obtain⟨⟨k,u⟩,hu⟩:∃ p,J[i]?=some p:=⟨J[i]'(by omega),by simp[<- f,S]⟩;have hk:∃ v,g[i]?=some (k,v):=by
   have hi:i < g.length:=S;have B:(g.map (·.1))[i]?=(J.map (·.1))[i]?:=by rw[L.keys]
   rw[List.getElem?_map,List.getElem?_map,hu] at B;cases q:g[i]? with
   | none=>rw[q] at B;cases B
   | some p =>
    rw[q] at B;obtain⟨k',v⟩:=p;cases B;exact⟨v,rfl⟩
  obtain⟨v,Y⟩:=hk;obtain⟨Z,f1,f2,f3,f4,f5⟩:=G it (by simp);rw[f] at j;refine wpAny_pyNext_dict_item j l hu λkey F C x sb=>?_;rw[<- f] at x;have I1:Inv X m σ H { s with heap:=F }:=I.turned (t':=s.toks) (λb o n e=>(sb.2 b n).trans e) Z f1 f3 f4 f5;obtain⟨o2,e,c,d⟩:=id x;exact⟨key,rfl,jdp (s:={ s with heap:=F }) e c d (by decide) ⟨kV k,H,I1,jmf C,⟨rfl,(k,v),Y,rfl⟩,x,λb n=>(G b n).1⟩⟩
 done:=by
  intro X M N O hc i m s σ H E I G j Q;subst M N O;obtain⟨R,S⟩:=Q;obtain⟨T,g2,J,L,dd⟩:=jin I.hok R;obtain⟨r,l⟩:=dd.dictAt;have t:r=D:=by
   obtain⟨o',U,y,_,A,_⟩:=id l;rw[T] at y;cases y;rw[ho] at A;cases A;rfl
  subst t;have f:=L.length;obtain⟨Z,f1,f2,f3,f4,f5⟩:=G it (by simp);rw[f] at j;exact wpAny_pyNext_dict_end (I.ok.hd hc) j l (List.getElem?_eq_none (by omega)) λF eb=>⟨rfl,I.turned (t':=s.toks) (λb o n e=>eb b o n e) Z f1 f3 f4 f5⟩
 self:=λ_ _ _ _ _ j h=>wpAny_pyIter_keyiter j h
noncomputable def iDK(te:TE):TI:=λσ H R=>te σ H λx H1=>∃ a kvs,x=.ref a/\H1 a=some (.dK kvs)/\∀ o,R (Itk a o kvs) (upd H1 a (.frz o (.dK kvs)))
theorem Inv.frzD  (I:Inv X pins σ H s) (c:H a=some (.dK kvs)) :
  ∃ o es ep,o.data=.dict es ep/\s.heap.get? a=some o/\Inv X pins σ (upd H a (.frz o (.dK kvs))) s:=by
 obtain⟨z,hd,d,e,dd⟩:=jlQ I.hok c;obtain⟨o,es,ep,b,g,f,h,i,j⟩:=id dd;refine⟨o,es,ep,f,b,?_⟩;exact jaC (s:=s) (t':=s.toks) I (by rw[c];exact trivial) ⟨rfl,λ_ _=>rfl⟩ ⟨o,b⟩ (show ObjOk X.prog X.w _ s.heap a (.frz o (.dK kvs)) from⟨b,z,hd,d,e,dd⟩)
theorem jjS{X:Cx}{tg e:Expr}{te:TE}(r:PE X e te):PI X tg e (iDK te):=by
 intro g s σ H R I h;refine thn (r g s σ H _ I h) λv c ⟨x,t,y,z,a,d,ex,A,q⟩=>?_;subst ex;obtain rfl:v=Value.ref a:=z;obtain⟨o,B,C,m,D,k⟩:=y.frzD A;have E:upd t a (.frz o (.dK d)) a=some (.frz o (.dK d)):=jD;obtain⟨_,hd,F,G,dd⟩:=jin k.hok E;obtain⟨f,i⟩:=dd.dictAt;have l:f=C:=by
  obtain⟨M,J,n,_,p,_⟩:=id i;rw[D] at n;cases n;rw[m] at p;cases p;rfl
 subst l;refine wpAny_pyIter_dict (knd:=yx X.prog X.w) hd i ?_;have K:∀ b u,c.heap.get? b=some u->(c.heap.push ({ cls:=.type "dict_keyiterator",data:=.fields #[.ref a,.int 0 0,.int F.length 0,.int f 0] }:Obj)).get? b=some u:=λb u q=>L7 _ q;refine⟨c.heap.objs.size,[c.heap.objs.size],_,_,_,rfl,k.kept (t':=c.toks) K,jjt a _ o d B f m,⟨_,E1 _ rfl,rfl,by rw[G.length];rfl⟩,λb L=>?_,q o⟩;have j:c.heap.objs.size<=b:=by
  have:b=c.heap.objs.size:=by simpa using L
  rw[this];exact M8 _
 exact k.fpOk j (k.hok.fresh j)
end L2
namespace QD
open PySem L2 PySem.Spec PyProof.Rows
section
variable {R:RC}{Z Z':Zn}{H H':Hp}{pm:List Nat}
noncomputable def jiP(p:PF):PF:=λρ=>match p ρ with
 | some (.lst _ l)=>bif frzs l then some (.lst true l.reverse) else none
 | _=>none
theorem Reps.revR:∀{l:List D}{vs:List V},Reps R Z H l vs []->Reps R Z H l.reverse vs.reverse []
 | [],_,h=>by rw[Reps] at h;rw[h.1];exact .empty
 | d::l,_,h=>by
  rw[Reps] at h;obtain⟨v,vs,O1,O2,rfl,e,a,b⟩:=h;obtain⟨rfl,rfl⟩:=List.append_eq_nil_iff.mp e.symm;rw[List.reverse_cons,List.reverse_cons];exact Reps.append (O:=[]) (P:=[]) (Reps.revR b) (.one a)
theorem jj3  (h:PB R te p):PP R (jmO R.K te) (jiP p):=by
 intro σ ρ Z H O d z s e Q k;unfold jiP at e;split at e
 ·rename_i o l q;cases hf:frzs l with
  | false=>rw[hf] at e;cases e
  | true =>
   rw[hf] at e;cases e;refine h z s q λ{v n i P} g r=>?_;obtain⟨a,j,y,rfl,t,u⟩:=r.lst_of;have m:=u.frozen hf;refine⟨a,j,rfl,t.sq,λf c=>?_⟩;have ne:∀ b,i b≠none->b≠f:=λb h e=>h (e▸c);have w:Go n i [] n (upd i f (.lst j.reverse)) [f]:=Go.newO (wf0 g.wf.zd) c;refine k (g.trans w) ?_;rw[Rep];exact⟨f,j.reverse,[],rfl,(Reps.revR m).frame (λb z=>z) (λb z=>jm (ne b (g.wf.zd b z))) (λb x=>(nomatch x)),jD,rfl⟩
 ·cases e
noncomputable def jao:D->List D->Option D
 | .str a,[.str b]=>bif decide (0<=VR a b) then some (.int (VR a b)) else none
 | _,_=>none
theorem jfL:BM R "str" (λx vs H Q=>∃ a b,x=.str a/\vs=[.str b]/\0<=Txt.find a b/\Q (.int (Txt.find a b)) H) jao:=by
 intro Z H x d h v vs O1 O2 z c f e Q k;unfold jao at e;split at e
 ·rename_i a b;cases hd:decide (0<=VR a b) with
  | false=>rw[hd] at e;cases e
  | true =>
   rw[hd] at e;cases e;have hd:=X5 hd;obtain⟨rfl,_⟩:=c.str_of;obtain⟨u,rfl,g⟩:=f.one_of;obtain⟨rfl,_⟩:=g.str_of;exact⟨_,_,rfl,rfl,hd,k (Go.id z) .int_mk⟩
 ·cases e
theorem jgT  {o:Obj}{ks:List KA}{vs:List V}(h:ks.length=vs.length) (j:Z a) (k:H a=some (.frz o (.dK ((ks.map kaV).zip vs)))):jiA R (Itk a o ((ks.map kaV).zip vs)) Z H (ks.map kaD):=by
 intro l m r n zd i;have f:m a=some (.frz o (.dK ((ks.map kaV).zip vs))):=by rw[n a j];exact k
 have b:((ks.map kaV).zip vs).length=ks.length:=by rw[List.length_zip,L0,h,Nat.min_self]
 refine⟨λe=>⟨f,by rw[b];rw[L0] at e;exact e⟩,λx d=>?_⟩;rw[List.getElem?_map] at d;cases hk:ks[i]? with
 | none=>rw[hk] at d;cases d
 | some c =>
  rw[hk] at d;cases d;have e:i < ks.length:=(L8.mp hk).1;refine⟨⟨f,by rw[b];exact e⟩,λu s p=>?_⟩;obtain⟨rfl,t,g,rfl⟩:=p;have q:((ks.map kaV).zip vs)[i]?=some (kaV c,vs[i]'(by omega)):=by
   rw[List.getElem?_zip_eq_some];exact⟨by rw[List.getElem?_map,hk];rfl,by simp⟩
  rw[q] at g;cases g;exact⟨l,Go.id zd,jju c⟩
theorem jg4  (w:WF Z H (a::O)):Go Z H (a::O) (λb=>Z b \/ b=a) (upd H a u) O :=
 (Go.put (o:=u) w L6).trans (Go.frz1 (Go.put (o:=u) w L6).wf)
noncomputable def YT(i:Nat):FA:=λρ=>match ρ[i]? with
 | some (some (.dK true ks l))=>bif frzs l then some (ks.map kaD,ρ.set i (some (.dK false ks l))) else none
 | _=>none
theorem jgm  : DIt R (iDK (J5 i)) (YT i):=by
 intro σ ρ E Z H O F w s e Q k;unfold YT at e;split at e
 ·rename_i d l j;cases hf:frzs l with
  | false=>rw[hf] at e;cases e
  | true =>
   rw[hf] at e;cases e;obtain⟨A,P,B,rfl,u,x,_⟩:=s.put (L8.mp j).1;obtain⟨v,m,r⟩:=u _ j;rw[Rep] at r;obtain⟨a,f,G,rfl,g,c,y,rfl⟩:=r;cases g.nil hf;refine⟨.ref a,m,a,_,rfl,y,λo=>?_⟩;have n:Go Z H [a] (λb=>Z b \/ b=a) (upd H a (.frz o (.dK ((d.map kaV).zip f)))) []:=jg4 w.mid;have C:=n.frame w;have p:∀ b,Z b->upd H a (.frz o (.dK ((d.map kaV).zip f))) b=H b:=λb h=>jm λz=>w.nz a (by simp) (z▸h);have q:=Go.keepA w n;have D:Rep R (λb=>Z b \/ b=a) (upd H a (.frz o (.dK ((d.map kaV).zip f)))) (.dK false d l) (.ref a) []:=by
    rw[Rep];exact⟨a,f,[],rfl,g.frame (λb z=>.inl z) p (λb h=>(nomatch h)),c,.inr ⟨o,jD⟩,.inr rfl,rfl,rfl⟩
   have t:=x D (λb z=>.inl z) p q.1 q.2;rw[yZ m] at t;exact k C t (jgT (by rw[g.length];exact c) (.inr rfl) jD)
 ·cases e
theorem Vs{tg:TG}{tc:TT}{te:TE}{g:D->Rh->Option Rh}{q:PTf}{p:PF}{ix:List (Option Nat)}(hg:PGt R [] tg g)(hq:PTt R tc q)(he:PP R te p)
  {J:It}{r:Zn}{j:Hp}{ρ:Rh}{σ:L2.St}{O:List Addr}{xs all:List D}(K:Zd r j) (s:Slots R r j ρ σ O) (it:ItB R J r j xs) (hl:lim xs.length=true) (e2:jM g q p xs (jE ix ρ)=some all)
  {Q:VK}(k:∀{v:V}{Z':Zn}{H':Hp}{P:List Addr},Go r j [] Z' H' P->Rep R Z' H' (.lst true all) v P->Q v H'):∀ a,j a=none->jdr tc te tg J a (kW ix σ) (upd j a (.lst [])) λH2=>Q (.ref a) H2:=by
 intro a ha;obtain⟨Oi,si⟩:=Kj s ix;have gp:Go r j [] r (upd j a (.lst [])) [a]:=Go.newO (wf0 K) ha;refine⟨λi m σ2 H2=>m=xs.length - i/\i<=xs.length/\∃ U G O2 x h d rest,Go r j [] G H2 (a::d)/\H2 a=some (.lst h)/\Reps R G H2 x h d/\(∀ b∈O2,b≠a)/\Slots R G H2 U σ2 O2/\jM g q p (xs.drop i) U=some rest/\all=x++rest/\x.length<=i,
  ⟨xs.length,rfl,U6 _,_,r,Oi,[],[],[],all,gp,jD,Reps.empty,λb l e=>si.dom b l (e▸ha),gp.slots K si,e2,rfl,M8 _⟩,?_⟩
 rintro i m σ2 H2 ⟨rfl,hi',U,G,O2,x,h,d,rest,o,L,W,na,s2,c,X,C⟩;have M:=it (Z1:=G) (H1:=H2) o.zz (λb z=>o.same b z) o.wf.zd i;by_cases E:i < xs.length
 ·right
  have hx:xs[i]?=some xs[i]:=by simp[E]
  obtain⟨go,yl⟩:=M.2 _ hx;refine⟨go,λu H3 hy=>?_⟩;obtain⟨Z3,H,r3⟩:=yl u H3 hy;rw[KS hx] at c;unfold jM at c;cases e5:g xs[i] U with
  | none=>rw[e5] at c;cases c
  | some N =>
   rw[e5] at c;dsimp only at c;refine hg r3 (H.slots o.wf.zd s2) e5 λ{σ4 O4} sub nd Y _=>?_;cases e6:q N with
   | none=>rw[e6] at c;cases c
   | some b =>
    rw[e6] at c;dsimp only at c;refine hq H.wf.zd Y e6 λ{Z5 H5} S=>?_;have t:=H.pair S;cases b with
    | true =>
     refine jfu ?_;rw[cond_true] at c;cases e7:p N with
     | none=>rw[e7] at c;cases c
     | some y =>
      rw[e7] at c;dsimp only at c;cases e8:jM g q p (xs.drop (i+1)) N with
      | none=>rw[e8] at c;cases c
      | some ys2 =>
       rw[e8] at c;cases c;refine he S.wf.zd (S.slots H.wf.zd Y) e7 λ{Z I w P6} g6 r6=>?_;have F:Go G H2 [] I w P6:=by simpa using t.pair g6
       have ea6:w a=some (.lst h):=by rw[F.same a (by rw[L];exact λz=>(nomatch z))];exact L
       have hvl:h.length < sizeLine:=by
        rw[W.length];exact wn (n:=x.length) (X2 (N8 C (N8 hi' (X5 hl))))
       have gA:Go r j [] I w (a::d++P6):=by
        have f:=F.frame (A:=a::d) (B:=[]) (by simpa using o.wf);exact o.trans (by simpa using f)
       have w6:=gA.wf;have gB:Go I w (a::d++P6) I (upd w a (.lst (h++[Z]))) (a::d++P6):=Go.put w6 L6;have nd6:=List.nodup_cons.mp w6.nd;have ne:∀ b,b∈d++P6->upd w a (.lst (h++[Z])) b=w b:=λb l=>jm λz=>nd6.1 (z▸l);have T:∀ b,I b->upd w a (.lst (h++[Z])) b=w b:=λb l=>jm λz=>w6.nz a L6 (z▸l);refine⟨h,ea6,hvl,xs.length - (i+1),by omega,rfl,E,N,I,O4,x++[y],h++[Z],d++P6,ys2,gA.trans gB,jD,?_,λb l=>na b (sub b l),?_,e8,by rw[X];simp,by rw[N5];exact Nat.add_le_add_right C 1⟩
       ·refine((F.reps o.wf.zd W).append (.one r6)).frame (λb z=>z) T ne
       ·exact((S.pair g6).slots H.wf.zd Y).frame (λb z=>z) T λb l=>jm (na b (sub b l))
    | false =>
     refine jfN ?_;rw[cond_false] at c;have gA:Go r j [] Z5 H5 (a::d):=by
      have f:=t.frame (A:=a::d) (B:=[]) (by simpa using o.wf);exact o.trans (by simpa using f)
     exact⟨xs.length - (i+1),by omega,rfl,E,N,Z5,O4,x,h,d,rest,gA,by rw[t.same a (by rw[L];exact λz=>(nomatch z))];exact L,t.reps o.wf.zd W,λb l=>na b (sub b l),S.slots H.wf.zd Y,c,X,Nat.le_succ_of_le C⟩
 ·left
  have hi2:i=xs.length:=by omega
  refine⟨M.1 (by omega),?_⟩;rw[hi2,List.drop_length] at c;cases c;rw[M9] at X;subst X;refine k (P:=a::d) o ?_;rw[Rep];exact⟨a,h,d,rfl,W,L,rfl⟩
noncomputable def jab(fi:FA)(g:D->Rh->Option Rh)(q:PTf)(p:PF)(ix:List (Option Nat)):FE:=λρ=>(fi ρ).bind λr=>bif lim r.1.length then((jM g q p r.1 (jE ix r.2)).bind λys=>some (.lst true ys,r.2)) else none
@[simp] theorem dCompI_e  : jab fi g q p ix ρ=(fi ρ).bind λr=>bif lim r.1.length then((jM g q p r.1 (jE ix r.2)).bind λys=>some (.lst true ys,r.2)) else none:=rfl
theorem jgw{wi:TI}{tg:TG}{tc:TT}{te:TE}{fi:FA}{g:D->Rh->Option Rh}{q:PTf}{p:PF}{ix:List (Option Nat)}(hi:DIt R wi fi)(j:PGt R [] tg g)(l:PTt R tc q)(m:PP R te p):DE R (ud wi tg tc te ix) (jab fi g q p ix):=by
 intro σ ρ y Z H O d w s e Q k;unfold jab at e;cases e1:fi ρ with
 | none=>rw[e1] at e;cases e
 | some r =>
  obtain⟨c,n⟩:=r;rw[e1,L3] at e;dsimp only at e;cases hl:lim c.length with
  | false=>rw[hl] at e;cases e
  | true =>
   rw[hl,cond_true] at e;cases e2:jM g q p c (jE ix n) with
   | none=>rw[e2] at e;cases e
   | some all =>
    rw[e2] at e;cases e;refine hi w s e1 λ{J A B O0} b f o=>?_;refine Vs j l m b.wf.zd f (λ{C E} t u zd i=>o t (λa z=>u a (b.wf.zd a z)) zd i) hl e2 λ{v F G P} h x=>?_;exact k (b.trans (h.widen b.wf)) x (h.slots b.wf.zd f)
end
section
variable {cl:Nat->Addr}{pm:List Nat}{X:Cx}{a e elt tg iter:Expr}{ta te:TE}{pa pe:PF}{ifs:List Expr}{wi:TI}{fi:FA}{t:TG}{g:D->Rh->Option Rh}{pos p p2 pos2:Pos}
theorem jj6(j:X.calm=true)(k:X.mg "list" = none)(d:X.mg "reversed" = none)(i:QB cl X a ta pa)(l:Gl X "list":=by rfl)(e:Gl X "reversed":=by rfl)
  (m:starEach [.Call (.Name "reversed" p2) [a] [] pos2] X.env=(false,eval (.Call (.Name "reversed" p2) [a] [] pos2) X.env)::starEach [] X.env:=by rfl)
  (f:(backTo pos (starEach [] X.env)).any (·.1)=false:=by rfl)
  (g:backTo pos (starEach [.Call (.Name "reversed" p2) [a] [] pos2] X.env)=[(false,eval (.Call (.Name "reversed" p2) [a] [] pos2) X.env)]:=by rfl)
  (h:starEach [a] X.env=(false,eval a X.env)::starEach [] X.env:=by rfl) (b:(backTo pos2 (starEach [] X.env)).any (·.1)=false:=by rfl)
  (c:backTo pos2 (starEach [a] X.env)=[(false,eval a X.env)]:=by rfl) :
  QP cl X (.Call (.Name "list" p) [.Call (.Name "reversed" p2) [a] [] pos2] [] pos) (jmO X.K ta) (jiP pa):=⟨jlh j l k e d i.sem m f g h b c,jj3 i.den⟩
theorem jfQ  (h:QB cl X (.Name x p) (J5 i) (pV i)):QIE cl X tg (.Name x p) (iDK (J5 i)) (YT i):=⟨jjS h.sem,jgm⟩
theorem jjz{scope:Scope}{N':List Str}{ix:List (Option Nat)}{a:TT}{c:PTf}(B:BlockOk X scope N' ix)(f:X.calm=true)(hi:QIE cl X tg iter wi fi)
  (d:∀ C s H fp,QG cl [] (vc X scope N' C s H fp) tg t g) (b:∀ C s H fp,QIf cl (vc X scope N' C s H fp) ifs a c) (e:∀ C s H fp,QP cl (vc X scope N' C s H fp) elt te pe)
  (h:∀ x,foldedSetIterable iter X.env x=pure x:=by intro _;rfl):QE cl X (.ListComp elt [⟨tg,iter,ifs,0⟩] scope pos) (ud wi t a te ix) (jab fi g c pe ix) :=
 ⟨jbj B f hi.sem (λC s H fp=>(d C s H fp).sem) (λC s H fp=>(b C s H fp).sem) (λC s H fp=>(e C s H fp).sem) h,
  jgw hi.den (d 0 X.s₀ X.H₀ []).den (b 0 X.s₀ X.H₀ []).den (e 0 X.s₀ X.H₀ []).den⟩
end
noncomputable def jlC:D->Option (List KA×List D)
 | .dK true ks l=>some (ks,l)
 | _=>none
@[simp] theorem dkOwn_e(ks:List KA)(l:List D):jlC (.dK true ks l)=some (ks,l):=rfl
@[simp] theorem jgc  : YT i ρ=(pV i ρ).bind λd=>(jlC d).bind λk=>bif frzs k.2 then some (k.1.map kaD,ρ.set i (some (.dK false k.1 k.2))) else none:=by
 unfold YT pV;cases ρ[i]? with
 | none=>rfl
 | some x=>cases x with
  | none=>rfl
  | some d=>cases d with
   | dK o a l=>cases o<;>rfl
   | _=>rfl
@[simp] theorem pRev_e  : jiP p ρ=(p ρ).bind λd=>match d with | .lst _ l=>bif frzs l then some (.lst true l.reverse) else none | _=>none:=by
 unfold jiP;cases p ρ with
 | none=>rfl
 | some d=>cases d<;>rfl
@[simp] theorem jfi(a b:List Nat):jao (.str a) [.str b]=bif decide (0<=VR a b) then some (.int (VR a b)) else none:=rfl
end QD
namespace L2
open PySem PySem.Spec PyProof.Rows
theorem jgG  : MtR X "str.index" (λx vs H Q=>∃ a b,x=.str a/\vs=[.str b]/\0<=Txt.find a b/\Q (.int (Txt.find a b)) H):=by
 intro d s σ H x vs v k Q I f g h;obtain⟨a,b,rfl,rfl,c,q⟩:=h;obtain⟨t,rfl⟩:=f;obtain⟨u,rfl,j⟩:=g.one;obtain⟨l,rfl⟩:=j;cases ho:PySem.Builtin.Str.occurrences a b 0 a.length 1 with
 | nil =>
  unfold Txt.find at c;rw[ho] at c;exact absurd c (by decide)
 | cons i rest =>
  have e:Txt.find a b=(i:Int):=by unfold Txt.find;rw[ho]
  rw[e] at q;exact SC.index (i:=i) (rest:=rest) ho ⟨.int _,H,I.tok _,⟨_,rfl⟩,q⟩
end L2
namespace QD
open PySem L2 PySem.Spec PyProof.Rows
theorem Go.from  (g:Go Z H O Z' H' E) (h:∀ a∈O,a∈O'):Go Z H O' Z' H' E :=
 ⟨g.wf,g.zz,λa q n=>g.fr a q λz=>n (h a z),λa z=>(g.zn a z).elim .inl λq=>q.elim (λq=>.inr (.inl (h a q))) λq=>.inr (.inr q),λa q=>(g.sub a q).elim (λq=>.inl (h a q)) .inr,g.dm⟩
theorem Vy{l m:List Addr}(h:∀ c,l.count c<=m.count c)(n:m.Nodup):l.Nodup:=List.nodup_iff_count.mpr λc=>N8 (h c) (List.nodup_iff_count.mp n c)
theorem zX{l m:List Addr}(h:∀ c,l.count c<=m.count c):∀ c∈l,c∈m:=λc a=>List.count_pos_iff.mp (U5 (List.count_pos_iff.mpr a) (h c))
noncomputable def Qo(i j:Nat)(p:PF):FS:=λρ=>match p ρ with
 | none=>none
 | some d=>match ρ[i]? with
  | some (some (.lst true l))=>match l[j]? with
   | some (.lst true l')=>bif lim l'.length then some (.nx (ρ.set i (some (.lst true (l.set j (.lst true (l'++[d]))))))) else none
   | _=>none
  | _=>none
theorem jig{pm:List Nat}{i j:Nat}(h:PP R te p):DS R pm (zD (tBM R.K "list" zN (tOp (rIx R.K) (J5 i) (tC (.int (j:Int)))) (Vo te jar))) (Qo i j p):=by
 intro σ ρ Z H O o w s e D' k;unfold Qo at e;cases e1:p ρ with
 | none=>rw[e1] at e;cases e
 | some d =>
  rw[e1] at e;dsimp only at e;split at e
  ·rename_i l hl;split at e
   ·rename_i V hj;cases hlim:lim V.length with
    | false=>rw[hlim] at e;cases e
    | true =>
     rw[hlim] at e;cases e;obtain⟨A,P,B,rfl,k1,k2,_⟩:=s.put (L8.mp hl).1;obtain⟨v,ev,r⟩:=k1 _ hl;rw[Rep] at r;obtain⟨a,I,O0,rfl,rs,ea,rfl⟩:=r;obtain⟨u,C,P',D,W,rfl,ru,J⟩:=rs.at hj;rw[Rep] at ru;obtain⟨b,g,t,rfl,L,X,rfl⟩:=ru;have hjl:j < I.length:=(L8.mp W).1;have Y:L2.atI I (j:Int)=some (.ref b):=jdl (i:=j) (by unfold ixN;rw[if_pos (by omega),if_pos (by omega)];simp) W;refine⟨.ref a,ev,.inl ⟨a,I,(j:Int),.ref b,rfl,rfl,SqL.of ea,Y,.inl ⟨rfl,g,SqL.of X⟩,?_⟩⟩;refine h w.zd s e1 λ{x T y P1} E r1=>?_;have eb1:y b=some (.lst g):=by rw[E.same b (by rw[X];exact λz=>(nomatch z))];exact X
     refine⟨b,g,x,rfl,rfl,eb1,by rw[L.length];exact wn hlim,?_⟩;have U:Go Z H (A++(a::(C++(b::t)++D))++B) T y (P1++(A++(a::(C++(b::t)++D))++B)):=E.widen w;have gB:=Go.put (o:=.lst (g++[x])) U.wf (show b∈P1++(A++(a::(C++(b::t)++D))++B) by simp);have gC:=U.trans gB;have nd:=U.wf.nd;have G:∀ c,c∈P1 \/ c∈A \/ c=a \/ c∈C \/ c∈t \/ c∈D \/ c∈B->c≠b:=λc f e=>by
      have q:=List.nodup_iff_count.mp nd b;simp only[U9,List.count_cons,beq_self_eq_true,if_true] at q;subst e;have pos:∀{m:List Addr},c∈m->0 < m.count c:=λh=>List.count_pos_iff.mpr h;rcases f with f | f | f | f | f | f | f
      ·have:=pos f;omega
      ·have:=pos f;omega
      ·subst f;simp at q;omega
      ·have:=pos f;omega
      ·have:=pos f;omega
      ·have:=pos f;omega
      ·have:=pos f;omega
     have M:∀ c,T c->upd y b (.lst (g++[x])) c=y c:=λc f=>jm λz=>U.wf.nz b (by simp) (z▸f);have N:∀ c,Z c->upd y b (.lst (g++[x])) c=H c:=λc f=>by rw[M c (E.zz c f)];exact E.same c (w.zd c f)
     have n:∀ c,c∈A++(a::(C++(b::t)++D))++B->c≠b->upd y b (.lst (g++[x])) c=H c:=λc f hn=>by
      rw[jm hn];exact E.same c (w.od c f)
     have Q:=E.reps w.zd L;have S:Rep R T (upd y b (.lst (g++[x]))) (.lst true (V++[d])) (.ref b) (b::(t++P1)):=by
      rw[Rep];refine⟨b,g++[x],t++P1,rfl,(Q.append (.one r1)).frame (λ_ z=>z) M (λc f=>jm (G c ?_)),jD,rfl⟩;rcases N1.mp f with q | q
      ·exact .inr (.inr (.inr (.inr (.inl q))))
      ·exact .inl q
     have F:=J S E.zz N (λc f=>n c (by simp[f]) (G c (.inr (.inr (.inr (.inl f)))))) (λc f=>n c (by simp[f]) (G c (.inr (.inr (.inr (.inr (.inr (.inl f))))))));rw[yZ W] at F;have ea1:upd y b (.lst (g++[x])) a=some (.lst I):=by rw[n a (by simp) (G a (.inr (.inr (.inl rfl))))];exact ea
     have rt:Rep R T (upd y b (.lst (g++[x]))) (.lst true (l.set j (.lst true (V++[d])))) (.ref a) (a::(C++(b::(t++P1))++D)):=by
      rw[Rep];exact⟨a,I,_,rfl,F,ea1,rfl⟩
     have sl:=k2 rt E.zz N (λc f=>n c (by simp[f]) (G c (.inr (.inl f)))) (λc f=>n c (by simp[f]) (G c (.inr (.inr (.inr (.inr (.inr (.inr f))))))));rw[yZ ev] at sl;have le:∀ c,(A++(a::(C++(b::(t++P1))++D))++B).count c<=(P1++(A++(a::(C++(b::t)++D))++B)).count c:=λc=>by
      simp only[U9,List.count_cons];omega
     exact k (gC.drop (zX le) (Vy le nd)) sl (Keep.refl _ _)
   ·cases e
  ·cases e
noncomputable def je7(i x:Nat)(pm:List Nat)(q:PTf)(fA fB:FS):FS:=λρ=>match ρ[i]? with
 | some (some (.lst true l))=>match l[l.length - 1]? with
  | none=>none
  | some it=>bif decide (x < ρ.length)&&(!decide (x∈pm)&&!decide (x=i)) then(match q (ρ.set x (some .dead)) with
   | none=>none
   | some true=>fA (ρ.set x (some .dead))
   | some false=>match fB ((ρ.set i none).set x (some it)) with
    | some (.nx ρ2)=>(match ρ2[x]? with
     | some (some d)=>bif decide (i < ρ2.length) then some (.nx ((ρ2.set x (some .dead)).set i (some (.lst true (l.set (l.length - 1) d))))) else none
     | _=>none)
    | _=>none) else none
 | _=>none
theorem jkl{R:RC}{pm:List Nat}{i x:Nat}{tj:TE}{pj:PF}{tt:TT}{q:PTf}{tA tB:TS}{fA fB:FS}(hj:PB R tj pj)(ej:∀ ρ,pj ρ=some (.int (-1)))(hq:PTt R tt q)(hA:DS R pm tA fA)(hB:DS R (i::x::pm) tB fB) :
  DS R pm (jk7 (jfp (tOp (rIx R.K) (J5 i) tj) (zm x)) (jjY tt tA tB)) (je7 i x pm q fA fB):=by
 intro σ ρ Z H O o w s e D' k;unfold je7 at e;split at e
 ·rename_i l hl;cases hit:l[l.length - 1]? with
  | none=>rw[hit] at e;cases e
  | some it =>
   rw[hit] at e;dsimp only at e;cases hg:decide (x < ρ.length)&&(!decide (x∈pm)&&!decide (x=i)) with
   | false=>rw[hg] at e;cases e
   | true =>
    rw[hg,cond_true] at e;simp only[L9,decide_eq_true_eq,Bool.not_eq_true',decide_eq_false_iff_not] at hg;obtain⟨G,hxp,g⟩:=hg;have hi:i < ρ.length:=(L8.mp hl).1;have hln:l.length - 1 < l.length:=(L8.mp hit).1
    -- the item is read
    obtain⟨Ai,Pi,Bi,eOi,ki1,_,_⟩:=s.put hi;obtain⟨v0,ev,r⟩:=ki1 _ hl;rw[Rep] at r;obtain⟨a,m,Ol0,rfl,rs0,ea,_⟩:=r;have hvl:=rs0.length;have han:H a≠none:=by rw[ea];exact λz=>(nomatch z)
    obtain⟨v,hv⟩:∃ v,m[l.length - 1]?=some v:=⟨m[l.length - 1]'(by omega),by simp⟩;have hat:L2.atI m (-1)=some v:=jdl (i:=l.length - 1) (by
     unfold ixN;rw[if_neg (by decide),if_pos (by omega)];congr 1;omega) hv
    refine⟨.ref a,ev,hj w.zd s (ej ρ) λ{u0 Z1 H1 P0} g1 r0=>?_⟩;obtain⟨rfl,_⟩:=r0.int_of;have s1:=g1.slots w.zd s;have u:H1 a=some (.lst m):=by rw[g1.same a han];exact ea
    refine .inl ⟨a,m,-1,v,rfl,rfl,SqL.of u,hat,?_⟩
    -- it is stored
    have h:=g1.widen w;rw[X7] at h;obtain⟨Ax,Px,Bx,eO,kx1,kx2,_⟩:=s1.put G;rw[eO] at h;have y:Rep R Z1 H1 .dead v []:=by rw[Rep]
    have s2:=kx2 y (λ_ z=>z) (λ_ _=>rfl) (λ_ _=>rfl) (λ_ _=>rfl);have I:∀ c,(Ax++[]++Bx).count c<=(Ax++Px++Bx).count c:=λc=>by simp only[U9,List.count_nil];omega
    have J:=h.drop (zX I) (Vy I h.wf.nd);rw[<- eO] at J;have L:Keep pm σ (σ.set x (some v)):=Keep.set hxp;show tt (σ.set x (some v)) H1 _;cases eq:q (ρ.set x (some .dead)) with
    | none=>rw[eq] at e;cases e
    | some c =>
     rw[eq] at e;refine hq J.wf.zd s2 eq λ{Z3 H3} g3=>?_;have s3:=g3.slots J.wf.zd s2;have M:=g3.widen J.wf;rw[X7] at M;have j:=J.trans M;cases c with
     | true =>
      refine jfu ?_;exact hA j.wf s3 e (k.pre j L)
     | false =>
      refine jfN ?_;dsimp only at e;have N:H3 a=some (.lst m):=by rw[g3.same a (by rw[u];exact λz=>(nomatch z))];exact u
      have hi2:i < (ρ.set x (some D.dead)).length:=by rw[List.length_set];exact hi
      have hl2:(ρ.set x (some D.dead))[i]?=some (some (.lst true l)):=by rw[List.getElem?_set,if_neg g];exact hl
      obtain⟨A,P,B,Q,k1,_,k3⟩:=s3.put hi2;obtain⟨v3,S,r3⟩:=k1 _ hl2;have T:(σ.set x (some v))[i]?=some (some (.ref a)):=by rw[List.getElem?_set,if_neg g];exact ev
      rw[T] at S;cases S;rw[Rep] at r3;obtain⟨a',vs',Ol,ea',rs3,U,rfl⟩:=r3;cases ea';rw[N] at U;cases U;obtain⟨v',n,V,p,W,rfl,ri,X⟩:=rs3.at hit;rw[hv] at W;cases W
      -- the slots with the list out and the item in
      have hx4:x < ((ρ.set x (some D.dead)).set i none).length:=by rw[List.length_set,List.length_set];exact G
      obtain⟨A2,P2,B2,eO4,kk1,kk2,_⟩:=k3.put hx4;have hd4:((ρ.set x (some D.dead)).set i none)[x]?=some (some .dead):=by
       rw[List.getElem?_set,if_neg (λz=>g z.symm),List.getElem?_set,if_pos rfl,if_pos G]
      obtain⟨v4,_,r4⟩:=kk1 _ hd4;have eP2:P2=[]:=by rw[Rep] at r4;exact r4
      subst eP2;have s4:=kk2 ri (λ_ z=>z) (λ_ _=>rfl) (λ_ _=>rfl) (λ_ _=>rfl);have eσ:(σ.set x (some v)).set x (some v)=σ.set x (some v):=by rw[List.set_set]
      rw[eσ] at s4;have eρ:((ρ.set x (some D.dead)).set i none).set x (some it)=(ρ.set i none).set x (some it):=by
       rw[List.set_comm _ _ (λz=>g z),List.set_set]
      rw[eρ] at s4;cases e4:fB ((ρ.set i none).set x (some it)) with
      | none=>rw[e4] at e;cases e
      | some o4 =>
       rw[e4] at e;cases o4 with
       | nx F =>
        dsimp only at e;have wO:=j.wf;rw[Q] at wO;have Y:∀ c,A.count c+B.count c=A2.count c+B2.count c:=λc=>by
         have:=congrArg (List.count c) eO4;simpa [U9] using this
        have C:∀ c,(a::(n++p)++(A2++V++B2)++[]).count c<=(A++(a::(n++V++p))++B).count c:=λc=>by
         have:=Y c;simp only[U9,List.count_cons,List.count_nil];omega
        have leA:∀ c,(A++(a::(n++V++p))++B).count c<=(a::(n++p)++(A2++V++B2)++[]).count c:=λc=>by
         have:=Y c;simp only[U9,List.count_cons,List.count_nil];omega
        have wF:WF Z3 H3 (a::(n++p)++(A2++V++B2)++[]):=wO.sub (zX C) (Vy C wO.nd);refine hB wF.mid s4 e4 ?_;intro σ5 Z5 H5 O5 g5 s5 E;have g5f:=g5.frame wF;have keep:=(Go.keepA wF g5).1;split at e
        ·rename_i d hd5;cases f:decide (i < F.length) with
         | false=>rw[f] at e;cases e
         | true =>
          rw[f] at e;cases e;have f:=X5 f;have hx5:x < F.length:=(L8.mp hd5).1;obtain⟨A3,P3,B3,eO5,m1,m2,_⟩:=s5.put hx5;obtain⟨v5,ev5,r5⟩:=m1 _ hd5;have evx:σ5[x]?=some (some v):=by
           rw[E x (by simp),List.getElem?_set,if_pos rfl,if_pos (by rw[<- s.length] at G;exact G)]
          rw[evx] at ev5;cases ev5;have rd5:Rep R Z5 H5 .dead v []:=by rw[Rep]
          have s6:=m2 rd5 (λ_ z=>z) (λ_ _=>rfl) (λ_ _=>rfl) (λ_ _=>rfl);rw[yZ evx] at s6;have t:=X r5 g5.zz (λb z=>g5.zH wF.mid b z) (λb hb=>keep b (by simp[hb])) (λb hb=>keep b (by simp[hb]));rw[yZ hv] at t;have ea5:H5 a=some (.lst m):=by rw[keep a (by simp)];exact N
          have rl:Rep R Z5 H5 (.lst true (l.set (l.length - 1) d)) (.ref a) (a::(n++P3++p)):=by
           rw[Rep];exact⟨a,m,_,rfl,t,ea5,rfl⟩
          have hi6:i < (F.set x (some D.dead)).length:=by rw[List.length_set];exact f
          obtain⟨A4,P4,B4,eO6,_,n2,_⟩:=s6.put hi6;have s7:=n2 rl (λ_ z=>z) (λ_ _=>rfl) (λ_ _=>rfl) (λ_ _=>rfl);have evi:σ5[i]?=some (some (.ref a)):=by rw[E i (by simp)];exact T
          rw[yZ evi] at s7;have le7:∀ c,(A4++(a::(n++P3++p))++B4).count c<=(a::(n++p)++O5++[]).count c:=λc=>by
           have q1:=congrArg (List.count c) eO5;have q2:=congrArg (List.count c) eO6;simp only[U9,List.count_nil] at q1 q2;simp only[U9,List.count_cons,List.count_nil];omega
          have g7:=(g5f.drop (zX le7) (Vy le7 g5f.wf.nd)).from (zX C);rw[<- Q] at g7;exact k (j.trans g7) s7 (L.trans (E.sub λb hb=>by simp[hb]))
        ·cases e
       | bk F=>cases e
       | ct F=>cases e
       | rt d F=>cases e
 ·cases e
theorem jdQ{cl:Nat->Addr}{pm:List Nat}{X:Cx}{pos:Pos}{i j:Nat}{a apos cpos b c:Pos}{j2}(o:QB cl X (.Name x a) (J5 i) (pV i))(h:QP cl X e te pe)
  (l:xz (.Constant (.int (j:Int)) j2 b):=by exact λ_ _=>rfl)
  (f:attributeBase (.Subscript (.Name x a) (.Constant (.int (j:Int)) j2 b) c) "append" X.env (eval (.Subscript (.Name x a) (.Constant (.int (j:Int)) j2 b) c) X.env)=eval (.Subscript (.Name x a) (.Constant (.int (j:Int)) j2 b) c) X.env:=by rfl)
  (k:((backTo cpos (starEach [e] X.env)).all (λx=>!x.1)&&(backToKw cpos (keywordEach [] X.env)).all (λx=>x.1.isSome)
   && decide ([e].length+([]:List Keyword).length+(if([]:List Keyword).isEmpty then 0 else 1) < 30))=true:=by rfl)
  (g:(apos.endLine==cpos.line)=true:=by rfl) (n:starEach [e] X.env=(false,eval e X.env)::starEach [] X.env:=by rfl) (d:(backTo cpos (starEach [] X.env)).any (·.1)=false:=by rfl)
  (m:swapsWith (.Call (.Attribute (.Subscript (.Name x a) (.Constant (.int (j:Int)) j2 b) c) "append" apos) [e] [] cpos) none pos.line X.env=pure false:=by rfl) :
  QS cl pm X (.Expr (.Call (.Attribute (.Subscript (.Name x a) (.Constant (.int (j:Int)) j2 b) c) "append" apos) [e] [] cpos) pos) (zD (tBM X.K "list" zN (tOp (rIx X.K) (J5 i) (tC (.int (j:Int)))) (Vo te jar))) (Qo i j pe) :=
 ⟨xu (jfD PySem.F.plainAttrs_list PySem.F.slot_list_append PySem.F.type_list_append xC (jii jd0 o.sem jg2 l) (Vl h.sem xo n) f k g n d) m,jig h.den⟩
theorem jiW  (h:X.N.Nodup) (k:QB cl X (.Name rn rpos) (J5 i) (pV i)) (b:QB cl X j tj pj) (l:∀ ρ,pj ρ=some (.int (-1))) (d:QT cl X c tt q) (e:QSs cl pm X A ts f) (g:QSs cl (i::x::pm) X B tu fe)
  (hi:X.N[x]?=some xn:=by rfl) (m:Loc X.env.scope xn:=by first | exact Or.inl rfl | exact Or.inr rfl) (a:xz j:=by exact λ_ _=>rfl)
  (n:swapsWith (.Subscript (.Name rn rpos) j spos) (some (.Name xn xpos)) apos.line X.env=pure false:=by rfl)
  (o:X.fn xn=true \/ X.env.scope.names.lookup xn=some .local:=by first | exact .inl rfl | exact .inr rfl) :
  QSs cl pm X [.Assign [.Name xn xpos] (.Subscript (.Name rn rpos) j spos) apos,.If c A B ipos] (jk7 (jfp (tOp (rIx X.K) (J5 i) tj) (zm x)) (jjY tt ts tu)) (je7 i x pm q f fe) :=
 ⟨jb1 (jgQ h hi m (jii jd0 k.sem b.sem a) n o) (jdA (jlx d.sem e.sem g.sem)),jkl b.den l d.den e.den g.den⟩
end QD
namespace PySem
open Sem (wp)
namespace F
theorem lk_tuple_keys:typeLookup (.type "tuple") "keys" = pure none:=by rw[typeLookup_type,builtinLookup_eq_fast];kernel_rfl
theorem lk_tuple_getattr:typeLookup (.type "tuple") "__getattr__" = pure none:=by rw[typeLookup_type,builtinLookup_eq_fast];kernel_rfl
end F
section
variable {prog:Program}{w:World}{A:Around}{E:Value->Shared->Prop}{h:Heap}{g:Array GenState}{d:Drawn}{t:Nat}{os:OsState}{a:Addr}{o:Obj}
theorem jbr{its:Array Value}{n:Nat}{sl:Array (Option Value)}{tk:Tok}{Q:Fin->Shared->Prop}(c:A.handled=none)(f:h.get? a=some { cls:=.type "tuple",data:=.seq its n,slots:=sl })
  (i:∀ h' e t',(∀ b o,h.get? b=some o->h'.get? b=some o)->h.get? e=none->(∃ ob,h'.get? e=some ob/\ob.cls=.type "AttributeError")->E (.ref e) ⟨h',g,d,t',os⟩) :
  wpAny (model prog w) A (Builtin.«object.__getattribute__» ⟨[.ref a,.str "keys" tk],[]⟩) Q E ⟨h,g,d,t,os⟩:=by
 have j:(⟨h,g,d,t,os⟩:Shared).TypeIs (.ref a) "tuple":=⟨_,f,rfl⟩;have k:=F.lk_tuple_keys
 repeat (any_goals (first | assumption | wp_step))
 exact Qx (by decide +kernel) c i
theorem jcX{its:Array Value}{n:Nat}{sl:Array (Option Value)}{tk:Tok}{R:Result->Shared->Prop}(f:A.handled=none)(c:h.get? a=some { cls:=.type "tuple",data:=.seq its n,slots:=sl })
  (i:∀ h' e t',(∀ b o,h.get? b=some o->h'.get? b=some o)->h.get? e=none->(∃ ob,h'.get? e=some ob/\ob.cls=.type "AttributeError")->R (.error (.ref e)) ⟨h',g,d,t',os⟩) :
  codeAny (model prog w) A (.call (.builtin "tuple.__getattribute__") ⟨[.ref a,.str "keys" tk],[]⟩) R ⟨h,g,d,t,os⟩:=by
 refine codeAny_call_builtin F.slot_tuple_getattribute.plain F.entry_tuple_ga (F.slot_tuple_getattribute.check _ _ _ _ _ _ _ _ (show(⟨h,g,d,t,os⟩:Shared).TypeIs (.ref a) "tuple" from⟨_,c,rfl⟩) (F.args_tuple_getattribute_2 _ _) ?_);exact jbr (show A.in1.handled=none from f) c i
theorem jgh{its:Array Value}{n:Nat}{sl:Array (Option Value)}{tk:Tok}{Q:Value->Shared->Prop}(k:A.handled=none)(i:h.get? a=some { cls:=.type "tuple",data:=.seq its n,slots:=sl })
  (l:∀ h' e t',(∀ b o,h.get? b=some o->h'.get? b=some o)->h.get? e=none->(∃ ob,h'.get? e=some ob/\ob.cls=.type "AttributeError")->E (.ref e) ⟨h',g,d,t',os⟩) :
  wpAny (model prog w) A (getAttrBy (.ref a) (.str "keys" tk) false) Q E ⟨h,g,d,t,os⟩:=by
 have u:(⟨h,g,d,t,os⟩:Shared).TypeIs (.ref a) "tuple":=⟨_,i,rfl⟩;have v:=F.sub_attrErr;have x:=F.slot_tuple_getattribute.lookup;have y:=F.slot_tuple_getattribute.bind (.ref a);have z:=F.lk_tuple_getattr
 repeat (any_goals (first | assumption | wp_step))
 refine jcX k i λh' e t' m p j=>?_;have c:=j;obtain⟨ob,f,q⟩:=j;have r:(⟨h',g,d,t',os⟩:Shared).TypeIs (.ref e) "AttributeError":=⟨_,f,q⟩;have s:=l h' e t' m p c;show wpAny (model prog w) A (getattributeRaised (Value.ref a) (Value.str (Str.ofString "keys") tk) (Value.type "tuple") (.ref e) none false false) Q E _;unfold getattributeRaised
 repeat (any_goals (first | assumption | wp_step))
theorem jcn{its:Array Value}{n:Nat}{sl:Array (Option Value)}{Q:Option Value->Shared->Prop}(f:A.handled=none)(i:h.get? a=some { cls:=.type "tuple",data:=.seq its n,slots:=sl })
  (j:∀ h' t',(∀ b o,h.get? b=some o->h'.get? b=some o)->Q none ⟨h',g,d,t',os⟩):wpAny (model prog w) A (getAttr? (.ref a) "keys") Q E ⟨h,g,d,t,os⟩:=by
 unfold getAttr? getAttrBy?
 refine L1 (wpAny_mkText (L1 ?_));refine wpAny_attempt ?_;refine jgh f i λh' e t' k r l=>?_;obtain⟨ob,c,m⟩:=l;have p:(⟨h',g,d,t',os⟩:Shared).TypeIs (.ref e) "AttributeError":=⟨_,c,m⟩;have s:=F.sub_attrErr;have q:=j h' t' k
 repeat (any_goals (first | assumption | wp_step))
end
section
variable {prog:Program}{w:World}{K:Type} [DecidableEq K] {knd:KeyKind prog w K}{A:Around}{E:Value->Shared->Prop}{s:Shared}
theorem jcs{R:Result->Shared->Prop}(hh:A.handled=none)  (q:ax≠I) (h:D≠I) (P:D≠ax) {items:Array Value}{ps:List (K×Value)}(r:items.size=ps.length):∀(k i:Nat) (s:Shared) (kvs:List (K×Value)),
  items.size - i=k->i<=items.size->(s.heap.IsTupleIter I ax i/\s.heap.IsTuple ax items)->s.heap.DictOf knd D kvs ->
  (∀(j:Nat) (v:Value),items[j]?=some v->∃ kv,ps[j]?=some kv/\u4 knd s.heap v kv/\v≠.ref I/\v≠.ref D)->kvs.length+k<=100000 ->
  (∀ h' tk,h'.DictOf knd D ((ps.drop i).foldl (λa kv=>stored a kv.1 kv.2) kvs)->(∀ b o,b≠I->b≠D->s.heap.get? b=some o->h'.get? b=some o)->R (.ok (.ret .none)) { s with heap:=h',toks:=tk }) ->
  codeAny (model prog w) A (.builtin "dict.update.loop" ⟨[.ref D,.ref I,rawInt i,.none],[]⟩) R s:=by
 intro k
 induction k with
 | zero =>
  intro i s kvs hk hi l hd Q hz S;have T:i=items.size:=by omega
  subst T;have W:=Walks.tuple (prog:=prog) (w:=w) (A:=A.in1) (by exact hh) I ax q items;refine codeAny_builtin F.entry_dict_loop ?_;rw[Around.under_plainId F.plain_dict_loop _];show wpAny _ A.in1 (pyNext (.ref I) >>= _) _ _ s;refine L1 (W.done s _ _ l λh' tk c=>?_);have fin:=S h' tk (by rw[r,List.drop_length];exact hd.extBut (b:=I) (λb o d e=>c b o (by simpa using d) e) h) (λb o d _ e=>c b o (by simpa using d) e);unfold Builtin.Dict.addKeywords
  repeat (any_goals (first | assumption | wp_step))
 | succ k ih =>
  intro i s kvs hk hi l hd Q hz S;have t:i < items.size:=by omega
  have W:=Walks.tuple (prog:=prog) (w:=w) (A:=A.in1) (by exact hh) I ax q items;refine codeAny_builtin F.entry_dict_loop ?_;rw[Around.under_plainId F.plain_dict_loop _];show wpAny _ A.in1 (pyNext (.ref I) >>= _) _ _ s;refine L1 (W.item i s _ _ t l λv h' tk hP u c=>?_);obtain⟨kv,x,⟨p,y,m,po,rfl,U,V,X,B⟩,Y,hvD⟩:=Q i v hP;have C:h'.get? p=some po:=c p _ (by simpa using λz=>Y (by rw[z])) U;have Z:h'.DictOf knd D kvs:=hd.extBut (b:=I) (λb o d e=>c b o (by simpa using d) e) h;refine L1 (wpAny_holding ?_);refine L1 (wpAny_tryCatch (Qj C V X ?_));show wpAny _ _ (holding [y,kv.2] (dictSet D y kv.2)) _ _ _;have hsz:sizeLine=16777216:=by decide
  refine wpAny_holding (wpAny_dictSet_pairs B Z (λh'' E hs=>?_) (by omega));refine M6 ⟨plainId_quiet F.plain_dict_loop _,?_⟩;have hd2:ps.drop i=kv::ps.drop (i+1):=by
   have G:i < ps.length:=by omega
   rw[List.drop_eq_getElem_cons G];have:ps[i]=kv:=by
    rw[X8 G] at x;exact X6 x
   rw[this]
  refine ih (i+1) _ (stored kvs kv.1 kv.2) (by omega) t (W.frame (i+1) h' h'' u λb d o e=>(hs.2 b ?_).trans e) E (λj v hv=>?_) ?_ λh3 tk3 hd3 hk3=>?_
  ·rcases M4.mp d with rfl | d
   ·exact λz=>h z.symm
   ·rw[M7.mp d];exact λz=>P z.symm
  ·obtain⟨kv',H,⟨p',J,m',po',rfl,L,M,N,n⟩,f,g⟩:=Q j v hv;refine⟨kv',H,⟨p',J,m',po',rfl,?_,M,N,n⟩,f,g⟩;exact(hs.2 p' λz=>g (by rw[z])).trans (c p' _ (by simpa using λz=>f (by rw[z])) L)
  ·have:=stored_length_le kvs kv.1 kv.2;omega
  ·refine S h3 tk3 ?_ λb o d O e=>hk3 b o d O ((hs.2 b O).trans (c b o (by simpa using d) e));rw[hd2,X1];exact hd3
theorem xr{p:Addr}{its:Array Value}{n:Nat}{sl:Array (Option Value)}{ps:List (K×Value)}{Q:Value->Shared->Prop}(O:A.handled=none)(x:s.heap.get? p=some { cls:=.type "tuple",data:=.seq its n,slots:=sl })(k:its.size=ps.length)
  (S:∀(j:Nat) (v:Value),its[j]?=some v->∃ kv,ps[j]?=some kv/\u4 knd s.heap v kv) (hz:ps.length<=100000)
  (h:∀ h' tk,h'.DictOf knd s.heap.objs.size (ps.foldl (λa kv=>stored a kv.1 kv.2) [])->(∀ b o,s.heap.get? b=some o->h'.get? b=some o)->Q (.ref s.heap.objs.size) { s with heap:=h',toks:=tk }) :
  wpAny (model prog w) A (call (.type "dict") [.ref p]) Q E s:=by
 refine callType_codes (Q₁:=λobj P=>obj=.ref s.heap.objs.size/\P={ s with heap:=s.heap.push { cls:=.type "dict",data:=.dict #[] } }) F.kt_called_dict (F.kt_typeCall_dict_1 _) F.entry_dict_init (kt_code_dict_new _ ⟨rfl,rfl⟩) ?_;rintro obj P ⟨rfl,rfl⟩;have c:(s.heap.push { cls:=.type "dict",data:=.dict #[] }).DictOf knd s.heap.objs.size []:=Heap.DictOf.new s.heap;refine⟨c.typeIs,F.args_dict_init_2 _ _,?_⟩;have f:(s.heap.push { cls:=.type "dict",data:=.dict #[] }).get? p=some { cls:=.type "tuple",data:=.seq its n,slots:=sl }:=L7 _ x;have R:s.heap.get? s.heap.objs.size=none:=Heap.get?_none_of_le (M8 _);unfold Builtin.«dict.__init__»;refine L1 ?_;unfold Builtin.Dict.selfAndRest;refine L1 (wpAny_notOrdered_dict c.typeIs ?_);show wpAny _ _ (pure (s.heap.objs.size,[Value.ref p])) _ _ _;refine M6 ?_;show wpAny _ _ (Builtin.Dict.updateFrom "dict.__init__" s.heap.objs.size (.ref p) [] .none) _ _ _;unfold Builtin.Dict.updateFrom;refine L1 (wpAny_typeOf (T:="tuple") ⟨_,f,rfl⟩ ?_);rw[if_pos (by decide)];refine L1 ?_;refine jcn (its:=its) (n:=n) ?_ f λl X d=>?_
 ·exact O
 ·rw[if_pos (show(Option.isNone (none:Option Value))=true from rfl)];refine L1 (wpAny_rule ?_);have g:=d p _ f;have y:l.IsTuple p its:=⟨_,g,rfl,n,rfl⟩;refine L1 (wpAny_pyIter_tuple y ?_);have B:=d s.heap.objs.size _ (E1 _ rfl);have C:p≠l.objs.size:=N7 (N0 g);have q:s.heap.objs.size≠l.objs.size:=N7 (N0 B);have D:s.heap.objs.size≠p:=λz=>by rw[<- z,R] at x;cases x
  refine M6 ⟨plainId_quiet F.plain_dict_loop _,?_⟩;refine jcs (A:=A.in1) (knd:=knd) (show A.in1.handled=none from O) C q D k its.size 0 _ [] (by omega) (U6 _) ⟨⟨_,E1 _ rfl,rfl,rfl⟩,?_⟩ ?_ (λU v V=>?_) (by simp;omega) λW G H I=>?_
  ·exact⟨_,L7 _ g,rfl,n,rfl⟩
  ·exact c.extBut (b:=l.objs.size) (λb o Y e=>L7 _ (d b o e)) q
  ·obtain⟨kv,J,u,L,m,po,rfl,i,M,N,r⟩:=S U v V;have t:=d u _ (L7 _ i);refine⟨kv,J,⟨u,L,m,po,rfl,L7 _ t,M,N,r⟩,λz=>?_,λz=>?_⟩
   ·have z:u=l.objs.size:=by injection z
    exact absurd z (N7 (N0 t))
   ·have z:u=s.heap.objs.size:=by injection z
    rw[z,R] at i;cases i
  ·refine⟨rfl,h W G H λb o e=>?_⟩;have t:=d b o (L7 _ e);exact I b o (N7 (N0 t)) (N7 (N0 e)) (L7 _ t)
end
end PySem
namespace L2
open PySem PySem.Spec PyProof.Rows
def jlU(K:PySem.W.Frag)(H:Hp)(p:Addr)(ys:List V):Prop:=Rd H p (.tup ys) \/ ∃(o:Obj) (its:Array Value) (n:Nat),K.lookup p=some o/\o.cls=.type "tuple"/\o.data=.seq its n/\its.size<=sizeLine/\Vals ys its.toList/\o.dict=none
theorem Inv.tupN  (I:Inv X pins σ H s) (h:jlU X.K H p ys):∃(its:List Value) (o:Obj) (n:Nat),Vals ys its/\s.heap.get? p=some o/\o.cls=.type "tuple"/\o.data=.seq its.toArray n/\o.dict=none:=by
 rcases h with h | ⟨o,its,n,f,g,i,m,j,k⟩
 ·obtain⟨_,its,l,⟨o,e,a,n,b⟩,q,d,c⟩:=(show ObjOk X.prog X.w H s.heap p (.tup ys) from h.ok I.hok);rw[e] at d;cases d;exact⟨its,o,n,l,e,a,b,c⟩
 ·exact⟨its.toList,o,n,j,I.kIn p o f,g,by simpa using i,k⟩
theorem wj{X:Cx}(B:X.calm=true):KB X (.type "dict") (λxs H Q=>∃(p:Addr) (ys:List V) (ps:List (Key×V)),xs=[.ref p]/\jlU X.K H p ys/\ys.length=ps.length/\ps.length<=100000 /\
  (∀(j:Nat) (y:V),ys[j]?=some y->∃ kv t,ps[j]?=some kv/\y=.ref t/\SqT X.K H t [kV kv.1,kv.2])/\∀ D,H D=none->Q (.ref D) (upd H D (.dK (ps.foldl (λa kv=>Kx a kv.1 kv.2) [])))):=by
 intro x s σ H xs P Q I r h;obtain⟨p,ys,ps,rfl,C,z,E,F,q⟩:=h;obtain⟨u,rfl,G⟩:=r.one;cases G;obtain⟨i,o,n,A,e,b,c,d⟩:=I.tupN C;obtain⟨R,od,k,J⟩:=o;dsimp only at b d c;subst b d c;obtain⟨qs,rel,l⟩:=wQ I A z F;have f:i.toArray.size=qs.length:=by rw[N4,<- A.length,z,rel.length]
 refine xr (knd:=yx X.prog X.w) (I.ok.hd B) e f (λj v L=>l j v (by simpa using L)) (by rw[<- rel.length];exact E) λS M hd N=>?_;have g:=wz rel (.nil:KV ([]:List (Key×V)) []);have m:=jbd (ps:=ps) (qs:=[]);have O:sizeLine=16777216:=by decide
 exact⟨.ref s.heap.objs.size,_,I.laid (a:=s.heap.objs.size) (o:=.dK (ps.foldl (λa kv=>Kx a kv.1 kv.2) [])) (t':=M) N (M8 _) (jby (by simp at m;omega) (U3.mpr (Ne.symm (N7 I.big))) g hd),rfl,q _ (I.hok.fresh (M8 _))⟩
end L2
namespace QD
open PySem L2 PySem.Spec PyProof.Rows
theorem FT.tupN  (h:FT R Z H a vs):jlU R.K H a vs:=by
 rcases h with⟨_,h⟩ | h
 ·exact .inl h
 ·exact .inr h
noncomputable def xY:List D->Option D
 | [.tup l]=>(J3 l).bind λps=>bif frzs (ps.map (·.2))&&lim ps.length then some (.dK true (Vn ps).1 (Vn ps).2) else none
 | _=>none
@[simp] theorem K4(l:List D):xY [.tup l]=(J3 l).bind λps=>bif frzs (ps.map (·.2))&&lim ps.length then some (.dK true (Vn ps).1 (Vn ps).2) else none:=rfl
theorem jbH:BC R (λxs H Q=>∃(p:Addr) (ys:List V) (ps:List (Key×V)),xs=[.ref p]/\jlU R.K H p ys/\ys.length=ps.length/\ps.length<=100000 /\
  (∀(j:Nat) (y:V),ys[j]?=some y->∃ kv t,ps[j]?=some kv/\y=.ref t/\SqT R.K H t [kV kv.1,kv.2])/\∀ D,H D=none->Q (.ref D) (upd H D (.dK (ps.foldl (λa kv=>Kx a kv.1 kv.2) [])))) xY:=by
 intro Z H xs d B O z r e Q k
 match xs,e,r with
 | [.tup l],e,r =>
  simp only[xY] at e;cases e1:J3 l with
  | none=>rw[e1] at e;cases e
  | some ps =>
   rw[e1,L3] at e;cases hm:frzs (ps.map (·.2))&&lim ps.length with
   | false=>rw[hm] at e;cases e
   | true =>
    rw[hm] at e;cases e;rw[L9] at hm;obtain⟨v,rfl,i⟩:=r.one_of;rw[Rep] at i;obtain⟨p,ys,rfl,o,s⟩:=i;obtain⟨m,b,u,q⟩:=Qy e1 s hm.1;obtain⟨f,w,A,g⟩:=KL (ks:=[]) (l:=[]) (us:=[]) b .empty rfl;have c:m.length=ps.length:=by rw[b.length];simp
    refine⟨p,ys,(ps.map λp=>kaV p.1).zip m,rfl,o.tupN,by simp[u,c],by simp[c];exact X5 hm.2,q,λD n=>?_⟩;refine k (Go.newO (wf0 z) n) ?_;have ne:∀ a,H a≠none->a≠D:=λa h e=>h (e▸n);rw[Rep];exact⟨D,f,[],rfl,w.frame (λa z=>z) (λa h=>jm (ne a (z a h))) (λa h=>(nomatch h)),g,by show upd H D _ D=some _;rw[jD];exact congrArg (λx=>some (HO.dK x)) A.symm,rfl⟩
noncomputable def pFz(p:PF):PF:=λρ=>(p ρ).bind λd=>some (fz d)
@[simp] theorem pFz_e  : pFz p ρ=(p ρ).bind λd=>some (fz d):=rfl
theorem jmZ  (h:PP R te p):PB R te (pFz p):=by
 intro σ ρ Z H O d z s e Q k;unfold pFz at e;cases e1:p ρ with
 | none=>rw[e1] at e;cases e
 | some x =>
  rw[e1,L3] at e;cases e;refine h z s e1 λ{v b c P} g r=>?_;exact k (P:=[]) g.fz (r.freeze (Z':=λa=>b a \/ a∈P) (λa z=>.inl z) λa z=>.inr z)
theorem QP.fzb(h:QP cl X e te pe):QB cl X e te (pFz pe):=⟨h.sem,jmZ h.den⟩
end QD
namespace L2
open PySem PySem.Spec PyProof.Rows
end L2
namespace QD
open PySem L2 PySem.Spec PyProof.Rows
end QD
namespace L2
open PySem PySem.Spec PyProof.Rows
end L2
namespace QD
open PySem L2 PySem.Spec PyProof.Rows
end QD
namespace L2
open PySem PySem.Spec PyProof.Rows
end L2
namespace QD
open PySem L2 PySem.Spec PyProof.Rows
noncomputable def ur:List Str->List D->Str->Option D
 | n::ns,d::l,f=>if f=n then some d else ur ns l f
 | _,_,_=>none
theorem je1  : ∀{ns:List Str}{l:List D}{vs:List V}{O:List Addr},Reps R Z H l vs O->ns.length=l.length->ur ns l f=some d->∃ v P,(ns.zip vs).lookup f=some v/\Rep R Z H d v P
 | [],l,vs,O,_,_,h=>by cases l<;>cases h
 | n::ns,[],vs,O,_,a,_=>by simp at a
 | n::ns,x::l,vs,O,r,a,h=>by
  rw[Reps] at r;obtain⟨v,b,O1,O2,rfl,rfl,c,g⟩:=r;rw[ur] at h;by_cases e:f=n
  ·rw[if_pos e] at h;cases h;exact⟨v,O1,by rw[U8,List.lookup_cons,e];simp,c⟩
  ·rw[if_neg e] at h;obtain⟨w,P,i,j⟩:=je1 g (by simpa using a) h;refine⟨w,P,?_,j⟩;rw[U8,List.lookup_cons];have:(f==n)=false:=by simp[e]
   rw[this];exact i
noncomputable def Qb(c:Nat)(f:Str)(p:PF):PF:=λρ=>match p ρ with
 | some (.ins _ c' ns l)=>bif c'==c then ur ns l f else none
 | _=>none
theorem jjR  (m:Cls R.K (R.cls c)) (n:NoAttr R.K (R.cls c) f) (h:PB R ta p):PB R (jjG R.K ta f) (Qb c f p):=by
 intro σ ρ Z H O d z s e Q k;unfold Qb at e;split at e
 ·rename_i o i ns l q;cases hc:i==c with
  | false=>rw[hc] at e;cases e
  | true =>
   rw[hc] at e;have b:i=c:=by simpa using hc
   subst b;have e:ur ns l f=some d:=e;refine h z s q λ{v B C P1} r j=>?_;rw[Rep] at j;obtain⟨a,t,D,E,rfl,u,x,y,_⟩:=j;obtain⟨w,P,A,g⟩:=je1 u x e;exact⟨a,_,t,_,w,rfl,y,m,n,A,k r g⟩
 ·cases e
noncomputable def YK:List Str->List D->Str->D->List Str×List D
 | n::ns,x::l,f,d=>if n=f then(n::ns,d::l) else(n::(YK ns l f d).1,x::(YK ns l f d).2)
 | _,_,f,d=>([f],[d])
theorem uF  (rd:Rep R Z H d v P):∀{ns:List Str}{l:List D}{vs:List V}{O:List Addr},Reps R Z H l vs O->ns.length=l.length ->
  ∃ vs2 O2,Reps R Z H (YK ns l f d).2 vs2 O2/\(YK ns l f d).1.zip vs2=wW f v (ns.zip vs)/\(YK ns l f d).1.length=(YK ns l f d).2.length/\∀ c,O2.count c<=O.count c+P.count c
 | [],[],vs,O,r,_=>by
  rw[Reps] at r;obtain⟨rfl,rfl⟩:=r;exact⟨[v],P,.one rd,rfl,rfl,λc=>by simp⟩
 | [],_::_,_,_,_,a=>by simp at a
 | _::_,[],_,_,_,a=>by simp at a
 | n::ns,x::l,vs,O,r,a=>by
  rw[Reps] at r;obtain⟨u,b,O1,O2,rfl,rfl,h,g⟩:=r;rw[YK];by_cases e:n=f
  ·rw[if_pos e];refine⟨v::b,P++O2,Reps.cons rd g,?_,a,λc=>by simp only[U9];omega⟩;rw[U8,U8,wW,if_pos e]
  ·rw[if_neg e];obtain⟨vs2,i,j,k,m,o⟩:=uF (f:=f) rd g (by simpa using a);refine⟨u::vs2,O1++i,Reps.cons h j,?_,by simp[m],λc=>by have:=o c;simp only[U9];omega⟩;rw[U8,U8,wW,if_neg e,k]
noncomputable def Ku(i c:Nat)(f:Str)(pv:PF):FS:=λρ=>match pv ρ with
 | none=>none
 | some d=>match ρ[i]? with
  | some (some (.ins true c' ns l))=>bif c'==c&&decide (ns.length<=900) then some (.nx (ρ.set i (some (.ins true c (YK ns l f d).1 (YK ns l f d).2)))) else none
  | _=>none
theorem jlP{R:RC}{pm:List Nat}{i c:Nat}{f:Str}{tv:TE}{pv:PF}(S:Cls R.K (R.cls c))(T:NoAttr R.K (R.cls c) f)(U:PP R tv pv):DS R pm (jms R.K (J5 i) tv f) (Ku i c f pv):=by
 intro σ ρ Z H O o w s e D' k;unfold Ku at e;cases e1:pv ρ with
 | none=>rw[e1] at e;cases e
 | some d =>
  rw[e1] at e;dsimp only at e;split at e
  ·rename_i n ns l J;cases hm:n==c&&decide (ns.length<=900) with
   | false=>rw[hm] at e;cases e
   | true =>
    rw[hm] at e;cases e;rw[L9] at hm;have D:n=c:=by simpa using hm.1
    subst D;refine U w.zd s e1 λ{u E x P1} L V=>?_;have W:=L.slots w.zd s;obtain⟨A,P,B,rfl,X,Y,_⟩:=W.put (L8.mp J).1;obtain⟨v,M,r⟩:=X _ J;rw[Rep] at r;obtain⟨a,p,vs,y,rfl,rs,F,ea,rfl⟩:=r;refine⟨.ref a,M,a,_,p,_,rfl,ea,S,T,?_,?_⟩
    ·rw[List.length_zip];have:=X5 hm.2;exact E2 (Nat.min_le_left _ _) (by omega)
    ·have C:Go Z H (A++(a::y)++B) E x (P1++(A++(a::y)++B)):=L.widen w;obtain⟨j,O2,r3,e3,l3,N⟩:=uF (f:=f) V rs F;rw[<- e3];have gB:=Go.put (o:=.ins (R.cls n) p ((YK ns l f d).1.zip j)) C.wf (show a∈P1++(A++(a::y)++B) by simp);have gC:=C.trans gB;have nd:=C.wf.nd;have G:=List.nodup_iff_count.mp nd a;simp only[U9,List.count_cons,beq_self_eq_true,if_true] at G;have pos:∀{m:List Addr},a∈m->0 < m.count a:=λh=>List.count_pos_iff.mpr h;have t:∀ b,E b->upd x a (.ins (R.cls n) p ((YK ns l f d).1.zip j)) b=x b:=λb g=>jm λz=>C.wf.nz a (by simp) (z▸g);have I:∀ b∈O2,b≠a:=λb g z=>by subst z;have:=pos g;have:=N b;omega
     have nA:∀ b∈A,b≠a:=λb g z=>by subst z;have:=pos g;omega
     have nB:∀ b∈B,b≠a:=λb g z=>by subst z;have:=pos g;omega
     have rt:Rep R E (upd x a (.ins (R.cls n) p ((YK ns l f d).1.zip j))) (.ins true n (YK ns l f d).1 (YK ns l f d).2) (.ref a) (a::O2):=by
      rw[Rep];exact⟨a,p,j,O2,rfl,r3.frame (λ_ z=>z) t (λb g=>jm (I b g)),l3,jD,rfl⟩
     have sl:=Y rt (λ_ z=>z) t (λb g=>jm (nA b g)) (λb g=>jm (nB b g));rw[yZ M] at sl;have Q:∀ q,(A++(a::O2)++B).count q<=(P1++(A++(a::y)++B)).count q:=λq=>by
      have:=N q;simp only[U9,List.count_cons];omega
     exact k (gC.drop (zX Q) (Vy Q nd)) sl (Keep.refl _ _)
  ·cases e
theorem QA  (b:Cls X.K (cl c)) (d:NoAttr X.K (cl c) f) (a:QB cl X o to po) (e:attributeBase o f X.env (eval o X.env)=eval o X.env:=by rfl):QB cl X (.Attribute o f pos) (jjG X.K to f) (Qb c f po):=⟨jhi a.sem e,jjR (R:=⟨X.K,cl⟩) b d a.den⟩
theorem KW  (b:Cls X.K (cl c)) (d:NoAttr X.K (cl c) f) (g:QB cl X (.Name x xpos) (J5 i) (pV i)) (a:QP cl X e te pe) (h:swapsWith e (some (.Attribute (.Name x xpos) f pos')) pos.line X.env=pure false:=by rfl) :
  QS cl pm X (.Assign [.Attribute (.Name x xpos) f pos'] e pos) (jms X.K (J5 i) te f) (Ku i c f pe):=⟨jkZ g.sem a.sem h,jlP (R:=⟨X.K,cl⟩) b d a.den⟩
noncomputable def jjI:List Str->Str->Option Nat
 | [],_=>none
 | n::ns,f=>if f=n then some 0 else(jjI ns f).map (·+1)
theorem jbE:∀{ns:List Str}{f:Str}{vs:List V}{j:Nat}{v:V},jjI ns f=some j->ns.length=vs.length->vs[j]?=some v->(ns.zip vs).lookup f=some v
 | [],_,_,_,_,h,_,_=>by cases h
 | n::ns,f,[],_,_,_,a,_=>by simp at a
 | n::ns,f,u::vs,j,v,h,a,b=>by
  rw[jjI] at h;by_cases e:f=n
  ·rw[if_pos e] at h;cases h;cases b;rw[U8,List.lookup_cons,e];simp
  ·rw[if_neg e] at h;cases hp:jjI ns f with
   | none=>rw[hp] at h;cases h
   | some i =>
    rw[hp] at h;cases h;rw[U8,List.lookup_cons,show(f==n)=false by simp[e]];exact jbE hp (by simpa using a) (by simpa using b)
theorem uq  : ∀{ns:List Str}{l:List D}{vs:List V},ns.length=l.length->vs.length=l.length->ur ns l f=none->(ns.zip vs).lookup f=none
 | [],_,_,_,_,_=>rfl
 | n::ns,[],_,a,_,_=>by simp at a
 | n::ns,x::l,[],_,b,_=>by simp at b
 | n::ns,x::l,v::vs,a,b,h=>by
  rw[ur] at h;by_cases e:f=n
  ·rw[if_pos e] at h;cases h
  ·rw[if_neg e] at h;rw[U8,List.lookup_cons,show(f==n)=false by simp[e]];exact uq (by simpa using a) (by simpa using b) h
noncomputable def Q2(m:List D->Option (D×D))(i c:Nat)(mn:Str)(p:PAf):FE:=λρ=>(p ρ).bind λds=>match ρ[i]? with
 | some (some (.ins true c' ns l))=>bif c'==c&&(frzs ds&&(ur ns l mn).isNone) then(m (.ins true c' ns l::ds)).bind λr=>some (r.1,ρ.set i (some r.2)) else none
 | _=>none
theorem jf2  (h:PPs R ta p) (hn:∀ ρ ds,p ρ=some ds->ds.length+1=n):DE R (jaq (R.cls c) mn (spM R m n 0) [] E0 (J5 i) ta) (Q2 m i c mn p):=by
 intro σ ρ S Z H O d w s e Q k;unfold Q2 at e;cases e1:p ρ with
 | none=>rw[e1] at e;cases e
 | some ds =>
  rw[e1,L3] at e;split at e
  ·rename_i b ns l o;cases hm:b==c&&(frzs ds&&(ur ns l mn).isNone) with
   | false=>rw[hm] at e;cases e
   | true =>
    rw[hm] at e;rw[L9,L9] at hm;obtain⟨q,t,x⟩:=hm;have y:b=c:=by simpa using q
    subst y;have e:((m (.ins true b ns l::ds)).bind λr=>some (r.1,ρ.set i (some r.2)))=some (d,S):=e;cases e2:m (.ins true b ns l::ds) with
    | none=>rw[e2] at e;cases e
    | some r =>
     obtain⟨T,U⟩:=r;rw[e2,L3] at e;cases e;have G:=(L8.mp o).1;obtain⟨A0,P0,B0,_,V,_,_⟩:=s.put G;obtain⟨u,C,I⟩:=V _ o;rw[Rep] at I;obtain⟨a,W,vs,O',rfl,X,D,Y,_⟩:=I;refine⟨.ref a,C,a,W,_,rfl,Y,uq D X.length (Option.isNone_iff_eq_none.mp x),?_⟩;refine h w.zd s e1 λ{v1 E J P1} K L=>?_;cases L.nil t;have f:Go Z H O E J O:=by simpa using K.widen w
     obtain⟨A,P,B,rfl,k1,k2,_⟩:=(K.slots w.zd s).put G;obtain⟨u',g,rc⟩:=k1 _ o;rw[C] at g;cases g;have rr:Reps R E J (.ins true b ns l::ds) (.ref a::v1) P:=by
      have:=Reps.cons rc L;simpa using this
     refine⟨E,.ins true b ns l::ds,T,U,P,.ref a,f.wf.mid,by have:=hn ρ ds e1;simpa using this,by rw[M9];exact rr,rfl,e2,λ{v Z2 H2 P2 O2} j r2 F=>?_⟩;have g3:=j.frame f.wf;have M:=Go.keepA f.wf j;have N:=k2 F j.zz (λa z=>j.zH f.wf.mid a z) M.1 M.2;rw[yZ C] at N;exact k (P:=P2) (f.trans g3).turn r2 N
  ·cases e
noncomputable def jcK(m:List D->Option (D×D))(c:Nat)(p:PAf):PF:=λρ=>(p ρ).bind λds=>bif frzs ds then(match m (.ins true c [] []::ds) with
 | some (.non,t)=>some t
 | _=>none) else none
theorem ji4  (h:PPs R ta p) (hn:∀ ρ ds,p ρ=some ds->ds.length+1=n):PP R (jjg (R.cls c) (spM R m n 0) [] E0 ta) (jcK m c p):=by
 intro σ ρ Z H O d z s e Q k;unfold jcK at e;cases e1:p ρ with
 | none=>rw[e1] at e;cases e
 | some ds =>
  rw[e1,L3] at e;cases hf:frzs ds with
  | false=>rw[hf] at e;cases e
  | true =>
   rw[hf,cond_true] at e;split at e
   ·rename_i t A;cases e;refine h z s e1 λ{I B r P1} f u=>?_;cases u.nil hf;intro x b C g i;have w:=Go.newF (o:=.own x) (wf0 f.wf.zd) g;have j:upd r b (.own x) x=none:=by rw[jm (λe=>i e.symm)];exact C
    have D:=Go.newO (o:=.ins (R.cls c) b []) w.wf j;have l:=w.trans D;have E:=l.reps f.wf.zd u;have F:Rep R (λa=>B a \/ a=b) (upd (upd r b (.own x)) x (.ins (R.cls c) b [])) (.ins true c [] []) (.ref x) [x]:=by
     rw[Rep];exact⟨x,b,[],[],rfl,.empty,rfl,jD,rfl⟩
    refine⟨_,.ins true c [] []::ds,.non,d,[x],.ref x,l.wf,by have:=hn ρ ds e1;simpa using this,by rw[M9];have:=Reps.cons F E;simpa using this,rfl,A,λ{v Z3 J P3 K} G y q=>?_⟩;rw[Rep] at y;obtain⟨rfl,rfl⟩:=y;exact⟨rfl,k (by simpa using(f.trans l).trans G) q⟩
   ·cases e
theorem jiS  (g:Cls X.K (cl c)) (h:Meth X.K (cl c) mn f) (j:Binds X.K fd ps []) (l:KI CX0 X E0)
  (G:FnOk X.prog X.w X.K X.mg X.base CX0 k f fd ps (spM ⟨X.K,cl⟩ m n 0)) (o:Room k X.A) (q:QB cl X (.Name x p) (J5 i) (pV i)) (d:QPs cl X (e::es) tr pr) (hn:∀ ρ ds,pr ρ=some ds->ds.length+1=n)
  (a:starEach (e::es) X.env=(false,eval e X.env)::starEach es X.env:=by rfl) (b:(backTo pos (starEach es X.env)).any (·.1)=false:=by rfl)
  (r:eval (.Call (.Attribute (.Name x p) mn apos) (e::es) [] pos) X.env=(do
   let ov <- eval (.Name x p) X.env
   standAt apos.atName
   let (f,first) <- holding [ov] (getMethod ov mn pl)
   callWith pos f first (backTo pos (starEach (e::es) X.env)) (backToKw pos (keywordEach [] X.env))):=by rfl) :
  QE cl X (.Call (.Attribute (.Name x p) mn apos) (e::es) [] pos) (jaq (cl c) mn (spM ⟨X.K,cl⟩ m n 0) [] E0 (J5 i) tr) (Q2 m i c mn pr) :=
 ⟨jdV q.sem g h G o j .nil l d.sem a b r,jf2 (R:=⟨X.K,cl⟩) d.den hn⟩
theorem jlO  (M:Mk X.K (cl c) f) (g:Binds X.K fd ps []) (h:KI CX0 X E0)
  (G:FnOk X.prog X.w X.K X.mg X.base CX0 k f fd ps (spM ⟨X.K,cl⟩ m n 0)) (i:Room (k+1) X.A) (j:X.mg x=some (.ref (cl c))) (d:QPs cl X (e::es) tr pr) (hn:∀ ρ ds,pr ρ=some ds->ds.length+1=n) (l:Gl X x:=by rfl)
  (a:(x==("__debug__" : Str))=false:=by decide) (o:starEach (e::es) X.env=(false,eval e X.env)::starEach es X.env:=by rfl) (b:(backTo pos (starEach es X.env)).any (·.1)=false:=by rfl) :
  QP cl X (.Call (.Name x p) (e::es) [] pos) (jjg (cl c) (spM ⟨X.K,cl⟩ m n 0) [] E0 tr) (jcK m c pr) :=
 ⟨jhE M G i l j g .nil h d.sem a o b,ji4 (R:=⟨X.K,cl⟩) d.den hn⟩
noncomputable def kX(m:List D->Option D)(c:Nat)(mn:Str)(po:PF)(p:PAf):PF:=λρ=>(po ρ).bind λs=>match s with
 | .ins o c' ns l=>bif c'==c&&(ur ns l mn).isNone then((p ρ).bind λds=>(m (fzs (.ins o c' ns l::ds))).bind λd=>bif frzs (.ins o c' ns l::ds)||kT d then some d else none) else none
 | _=>none
theorem jdo  (K:PB R to po) (L:PBs R ta p) (hn:∀ ρ ds,p ρ=some ds->ds.length+1=n):PP R (jaq (R.cls c) mn (spP R m n) [] E0 to ta) (kX m c mn po p):=by
 intro σ ρ Z H O d z s e Q k;unfold kX at e;cases e0:po ρ with
 | none=>rw[e0] at e;cases e
 | some sf =>
  rw[e0,L3] at e;split at e
  ·rename_i o j ns l;cases hm:j==c&&(ur ns l mn).isNone with
   | false=>rw[hm] at e;cases e
   | true =>
    rw[hm,cond_true] at e;rw[L9] at hm;have x:j=c:=by simpa using hm.1
    subst x;cases e1:p ρ with
    | none=>rw[e1] at e;cases e
    | some ds =>
     rw[e1,L3] at e;cases e2:m (fzs (.ins o j ns l::ds)) with
     | none=>rw[e2] at e;cases e
     | some M =>
      rw[e2,L3] at e;cases f:frzs (.ins o j ns l::ds)||kT M with
      | false=>rw[f] at e;cases e
      | true =>
       rw[f] at e;cases e;refine K z s e0 λ{v0 Z0 H0 E} w F=>?_;have t:=F;rw[Rep] at t;obtain⟨a,N,S,O',rfl,T,y,U,_⟩:=t;refine⟨a,N,_,rfl,U,uq y T.length (Option.isNone_iff_eq_none.mp hm.2),?_⟩;refine L w.wf.zd (w.slots z s) e1 λ{V g u G} I W=>?_;have A:Go Z H [] g u []:=by simpa using w.pair I
       have r:Reps R g u (.ins o j ns l::ds) (.ref a::V) (E++G):=Reps.cons (I.rep w.wf.zd F) W;generalize E++G=P1 at r;have X:=A.wf.zd;have Y:Zd (λa=>g a \/ a∈P1) u:=λa h=>h.elim (X a) (r.dom a);refine⟨λa=>g a \/ a∈P1,fzs (.ins o j ns l::ds),d,Y,by rw[jeb];have:=hn ρ ds e1;simpa using this,by rw[M9];exact r.freeze (λa z=>.inl z) λa z=>.inr z,e2,λ{v B C P} b J=>?_⟩;rw[Bool.or_eq_true] at f;rcases f with f | f
       ·cases r.nil f;have i:Go g u [] B C P:=⟨b.wf,λa z=>b.zz a (.inl z),b.fr,λa z=>(b.zn a z).imp (λq=>q.resolve_right (λq=>(nomatch q))) id,b.sub,b.dm⟩;exact k (by simpa using A.pair i) J
       ·have i:Go g u [] (λa=>B a/\(a∉P1 \/ g a)) C P:=by
         refine⟨⟨b.wf.nd,λa h q=>b.wf.nz a h q.1,b.wf.od,λa q=>b.wf.zd a q.1⟩,λa z=>⟨b.zz a (.inl z),.inr z⟩,b.fr,λa z=>?_,b.sub,b.dm⟩;rcases b.zn a z.1 with(q | q) | q
         ·exact .inl q
         ·exact .inl (z.2.resolve_left λn=>n q)
         ·exact .inr q
        have r3:Rep R (λa=>B a/\(a∉P1 \/ g a)) C d v P:=by
         refine J.thaw (λa ws za ta=>⟨za,?_⟩) f;by_cases D:a∈P1
         ·exact absurd (Rd.agree (b.same a (r.dom a D)).symm ta) (r.notTup a D ws)
         ·exact .inl D
        exact k (by simpa using A.pair i) r3
  ·cases e
noncomputable abbrev Ln:=D->Option (D×(D->D))
def jjW(R:RC)(tb:TE)(i:Nat)(L:Ln):Prop:=∀{σ:L2.St}{ρ:Rh}{Z:Zn}{H:Hp}{O:List Addr}{d x:D}{k:D->D},Slots R Z H ρ σ O->ρ[i]?=some (some d)->L d=some (x,k) ->
 ∃ v A P B,O=A++P++B/\Rep R Z H x v P/\(∀{Q:VK},Q v H->tb σ H Q) /\
  ∀{Z':Zn}{H':Hp}{x':D}{P':List Addr},Rep R Z' H' x' v P'->(∀ a,Z a->Z' a)->(∀ a,Z a->H' a=H a)->(∀ a∈A,H' a=H a)->(∀ a∈B,H' a=H a)->Slots R Z' H' (ρ.set i (some (k x'))) σ (A++P'++B)
noncomputable def jb0:Ln:=λd=>some (d,λx=>x)
theorem jkD  : jjW R (J5 i) i jb0:=by
 intro σ ρ Z H O d x k s h e;cases e;obtain⟨A,P,B,rfl,b,c,_⟩:=s.put (L8.mp h).1;obtain⟨v,a,r⟩:=b _ h;refine⟨v,A,P,B,rfl,r,λq=>⟨v,a,q⟩,λf g j l m=>?_⟩;have q:=c f g j l m;rw[yZ a] at q;exact q
noncomputable def jaD(c:Nat)(f:Str)(L:Ln):Ln:=λd=>(L d).bind λy=>match y.1 with
 | .ins true c' ns l=>bif c'==c then(jjI ns f).bind λj=>(l[j]?).bind λx=>some (x,λx'=>y.2 (.ins true c' ns (l.set j x'))) else none
 | _=>none
theorem jkP  (T:Cls R.K (R.cls c)) (U:NoAttr R.K (R.cls c) f) (h:jjW R tb i L):jjW R (jjG R.K tb f) i (jaD c f L):=by
 intro σ ρ Z H O d x k s hd e;unfold jaD at e;cases e0:L d with
 | none=>rw[e0] at e;cases e
 | some y =>
  obtain⟨y,k0⟩:=y;rw[e0,L3] at e;dsimp only at e;split at e
  ·rename_i p ns l;cases hc:p==c with
   | false=>rw[hc] at e;cases e
   | true =>
    rw[hc,cond_true] at e;have t:p=c:=by simpa using hc
    subst t;cases e1:jjI ns f with
    | none=>rw[e1] at e;cases e
    | some j =>
     rw[e1,L3] at e;cases e2:l[j]? with
     | none=>rw[e2] at e;cases e
     | some x0 =>
      rw[e2,L3] at e;cases e;obtain⟨v,A,P,B,rfl,r,V,W⟩:=h s hd e0;rw[Rep] at r;obtain⟨a,D,E,O',rfl,F,n,G,rfl⟩:=r;obtain⟨u,I,X,J,M,rfl,Y,o⟩:=F.at e2;have w:ns.length=E.length:=by rw[F.length];exact n
      refine⟨u,A++(a::I),X,J++B,by simp,Y,λq=>V ⟨a,_,D,_,u,rfl,G,T,U,jbE e1 w M,q⟩,λ{Z' H' x' z} r' N Q C S=>?_⟩;have g:=o r' N Q (λb m=>C b (by simp[m])) (λb m=>S b (by simp[m]));rw[yZ M] at g;have rt:Rep R Z' H' (.ins true p ns (l.set j x')) (.ref a) (a::(I++z++J)):=by
       rw[Rep];exact⟨a,D,E,_,rfl,g,by rw[List.length_set];exact n,(C a (by simp)).trans G,rfl⟩
      have s2:=W rt N Q (λb m=>C b (by simp[m])) (λb m=>S b (by simp[m]));simpa using s2
  ·cases e
structure MtFact(K:PySem.W.Frag)(C:Addr)(x qual:Str)(st:Stmt)(f:Addr)(fd:FuncData)(ps:List Str):Prop where
 fn:Fun K x qual st f fd
 mt:Meth K C x f
 bd:Binds K fd ps []
structure QL(cl:Nat->Addr)(X:Cx)(e:Expr)(tb:TE)(i:Nat)(L:Ln):Prop where
 sem:PE X e tb
 den:jjW ⟨X.K,cl⟩ tb i L
theorem jbQ{cl:Nat->Addr}{X:Cx}{o e:Expr}{es:List Expr}{to:TE}{po:PF}{tr:TA}{pr:PAf}{pos apos:Pos}{k n c:Nat}{f:Addr}{fd:FuncData}{ps:List Str}{m:List D->Option D}{mn qual:Str}{st:Stmt}{pl:Sem Bool}(i:Cls X.K (cl c))(F:MtFact X.K (cl c) mn qual st f fd ps)
  (G:FnOk X.prog X.w X.K X.mg X.base CX0 k f fd ps (spP ⟨X.K,cl⟩ m n)) (j:Room k X.A) (g:QB cl X o to po) (a:QBs cl X (e::es) tr pr) (hn:(e::es).length+1=n:=by rfl)
  (b:starEach (e::es) X.env=(false,eval e X.env)::starEach es X.env:=by rfl) (d:(backTo pos (starEach es X.env)).any (·.1)=false:=by rfl)
  (l:eval (.Call (.Attribute o mn apos) (e::es) [] pos) X.env=(do
   let ov <- eval o X.env
   standAt apos.atName
   let (f,first) <- holding [ov] (getMethod ov mn pl)
   callWith pos f first (backTo pos (starEach (e::es) X.env)) (backToKw pos (keywordEach [] X.env))):=by rfl) :
  QP cl X (.Call (.Attribute o mn apos) (e::es) [] pos) (jaq (cl c) mn (spP ⟨X.K,cl⟩ m n) [] E0 to tr) (kX m c mn po pr) :=
 ⟨jdV g.sem i F.mt G j F.bd .nil jdK a.sem b d l,jdo (R:=⟨X.K,cl⟩) g.den a.den λρ p h=>by rw[a.n ρ p h];exact hn⟩
theorem jdX{cl:Nat->Addr}{X:Cx}{o:Expr}{to:TE}{po:PF}{pos apos:Pos}{k n c:Nat}{f:Addr}{fd:FuncData}{ps:List Str}{m:List D->Option D}{mn qual:Str}{st:Stmt}{pl:Sem Bool}(b:Cls X.K (cl c))(F:MtFact X.K (cl c) mn qual st f fd ps)
  (G:FnOk X.prog X.w X.K X.mg X.base CX0 k f fd ps (spP ⟨X.K,cl⟩ m n)) (d:Room k X.A) (a:QB cl X o to po) (hn:1=n:=by rfl)
  (e:eval (.Call (.Attribute o mn apos) [] [] pos) X.env=(do
   let ov <- eval o X.env
   standAt apos.atName
   let (f,first) <- holding [ov] (getMethod ov mn pl)
   callWith pos f first (backTo pos (starEach [] X.env)) (backToKw pos (keywordEach [] X.env))):=by rfl) :
  QP cl X (.Call (.Attribute o mn apos) [] [] pos) (jaq (cl c) mn (spP ⟨X.K,cl⟩ m n) [] E0 to jar) (kX m c mn po pN) :=
 ⟨jge a.sem b F.mt G d F.bd .nil jdK e,jdo (R:=⟨X.K,cl⟩) a.den jed λρ g h=>by cases h;exact hn⟩
theorem jax  (a:QB cl X (.Name x p) (J5 i) (pV i)):QL cl X (.Name x p) (J5 i) i jb0:=⟨a.sem,jkD⟩
theorem uU  (a:Cls X.K (cl c)) (b:NoAttr X.K (cl c) f) (h:QL cl X o tb i L) (d:attributeBase o f X.env (eval o X.env)=eval o X.env:=by rfl):QL cl X (.Attribute o f pos) (jjG X.K tb f) i (jaD c f L) :=
 ⟨jhi h.sem d,jkP (R:=⟨X.K,cl⟩) a b h.den⟩
noncomputable def xG(c:Nat)(f:Str):D->Option D
 | .ins _ c' ns l=>bif c'==c then ur ns l f else none
 | _=>none
@[simp] theorem fldOf_ins  : xG c f (.ins o c' ns l)=bif c'==c then ur ns l f else none:=rfl
@[simp] theorem pFld_e:Qb c f po ρ=(po ρ).bind (xG c f):=by
 unfold Qb;cases po ρ with
 | none=>rfl
 | some d=>cases d<;>rfl
@[simp] theorem qF  : kX m c mn po p ρ=(po ρ).bind λs=>match s with
 | .ins o a ns l=>bif a==c&&(ur ns l mn).isNone then((p ρ).bind λb=>(m (fzs (.ins o a ns l::b))).bind λd=>bif frzs (.ins o a ns l::b)||kT d then some d else none) else none
 | _=>none:=rfl
@[simp] theorem jb9  : Q2 m i c mn p ρ=(p ρ).bind λds=>(pV i ρ).bind λt=>match t with
 | .ins true a ns l=>bif a==c&&(frzs ds&&(ur ns l mn).isNone) then(m (.ins true a ns l::ds)).bind λr=>some (r.1,ρ.set i (some r.2)) else none
 | _=>none:=by
 unfold Q2;rw[jh4];congr 1
 funext ds
 cases h:ρ[i]? with
 | none=>rfl
 | some o=>cases o with
  | none=>rfl
  | some d=>cases d<;>first | rfl | (rename_i o _ _ _;cases o<;>rfl)
@[simp] theorem wS  : jcK m c p ρ=(p ρ).bind λds=>bif frzs ds then(match m (.ins true c [] []::ds) with
 | some (.non,t)=>some t
 | _=>none) else none:=rfl
@[simp] theorem jik{ρ:Rh}{i c:Nat}{f:Str}{pv:PF}:Ku i c f pv ρ=(pv ρ).bind λd=>(pV i ρ).bind λt=>match t with
 | .ins true a ns l=>bif a==c&&decide (ns.length<=900) then some (.nx (ρ.set i (some (.ins true c (YK ns l f d).1 (YK ns l f d).2)))) else none
 | _=>none:=by
 unfold Ku;rw[jh4];cases pv ρ with
 | none=>rfl
 | some d =>
  dsimp only[Option.bind];cases h:ρ[i]? with
  | none=>rfl
  | some o=>cases o with
   | none=>rfl
   | some d=>cases d<;>first | rfl | (rename_i o _ _ _;cases o<;>rfl)
def jns(R:RC)(tk:TE)(pk:Rh->Option (List KA)):Prop:=∀{σ:L2.St}{ρ:Rh}{Z:Zn}{H:Hp}{O:List Addr}{k:List KA},Zd Z H->Slots R Z H ρ σ O->pk ρ=some k ->
 ∀{Q:VK},(∀{p:Addr}{Z':Zn}{H':Hp},Go Z H [] Z' H' []->Z' p->H' p=some (.tup ((k.map kaV).map kV))->Q (.ref p) H')->tk σ H Q
structure QK3(cl:Nat->Addr)(X:Cx)(e:Expr)(tk:TE)(pk:Rh->Option (List KA)):Prop where
 sem:PE X e tk
 den:jns ⟨X.K,cl⟩ tk pk
end QD
namespace L2
open PySem PySem.Spec PyProof.Rows
end L2
namespace QD
open PySem L2 PySem.Spec PyProof.Rows
section
variable {R:RC}{Z Z' Z2:Zn}{H H' H2:Hp}{pm:List Nat}
theorem jgK  {ρ:Rh}{i:Nat}{A O' B O2 d:List Addr}{kk:D->D}(w:WF Z H (d++(A++(a::O')++B))) (g:Go Z H [] Z2 H2 [])
  (s:∀{Z':Zn}{H':Hp}{x':D}{P':List Addr},Rep R Z' H' x' (.ref a) P'->(∀ a,Z a->Z' a)->(∀ a,Z a->H' a=H a)->(∀ a∈A,H' a=H a)->(∀ a∈B,H' a=H a)->Slots R Z' H' (ρ.set i (some (kk x'))) σ (A++P'++B))
  (e:∀ q,O2.count q<=O'.count q+d.count q)
  (r:(∀ b,Z2 b->upd H2 a ob b=H2 b)->(∀ b∈O2,b≠a)->Rep R Z2 (upd H2 a ob) x' (.ref a) (a::O2)) :
  Go Z H (d++(A++(a::O')++B)) Z2 (upd H2 a ob) (A++(a::O2)++B)/\Slots R Z2 (upd H2 a ob) (ρ.set i (some (kk x'))) σ (A++(a::O2)++B):=by
 have l:Go Z H (d++(A++(a::O')++B)) Z2 H2 (d++(A++(a::O')++B)):=by simpa using g.widen w
 have t:=Go.put (o:=ob) l.wf (show a∈d++(A++(a::O')++B) by simp);have gC:=l.trans t;have nd:=l.wf.nd;have ct:=List.nodup_iff_count.mp nd a;simp only[U9,List.count_cons,beq_self_eq_true,if_true] at ct;have pos:∀{m:List Addr},a∈m->0 < m.count a:=λh=>List.count_pos_iff.mpr h;have f:∀ b,Z2 b->upd H2 a ob b=H2 b:=λb c=>jm λz=>l.wf.nz a (by simp) (z▸c);have nO:∀ b∈O2,b≠a:=λb c z=>by subst z;have:=pos c;have:=e b;omega
 have u:∀ b∈A,b≠a:=λb c z=>by subst z;have:=pos c;omega
 have v:∀ b∈B,b≠a:=λb c z=>by subst z;have:=pos c;omega
 have n:∀ x,Z x->upd H2 a ob x=H x:=λx j=>(f x (g.zz x j)).trans (g.same x (w.zd x j));have k:∀ x,x∈A++(a::O')++B->x≠a->upd H2 a ob x=H x:=λx j y=>(jm y).trans (g.same x (w.od x (by simp only[N1] at j ⊢;exact .inr j)));have sl:=s (r f nO) g.zz n (λb c=>k b (by simp[c]) (u b c)) (λb c=>k b (by simp[c]) (v b c));have p:∀ q,(A++(a::O2)++B).count q<=(d++(A++(a::O')++B)).count q:=λq=>by
  have:=e q;simp only[U9,List.count_cons];omega
 exact⟨gC.drop (zX p) (Vy p nd),sl⟩
theorem jdY  (rd:Rep R Z H d v P) (a:KA)  (r:Reps R Z H l vs O) (b:ks.length=l.length) (hn:a∉ks) :
  Reps R Z H (Jl ks l a d).2 (vs++[v]) (O++P)/\(((Jl ks l a d).1).map kaV).zip (vs++[v])=Kx ((ks.map kaV).zip vs) (kaV a) v/\(Jl ks l a d).1.length=(Jl ks l a d).2.length:=by
 have c:ks.length=vs.length:=by rw[r.length];exact b
 unfold Jl Kx;rw[jbi a c,if_neg hn,X4 hn,if_neg (λz=>(nomatch z))];refine⟨r.append (Reps.one rd),?_,by simp[b]⟩;rw[N6,List.zip_append (by simpa using c)];rfl
noncomputable def J8(i:Nat)(L:Ln)(pk pv:PF):FS:=λρ=>(pv ρ).bind λd=>(pV i ρ).bind λt=>(L t).bind λy=>match y.1 with
 | .dK true ks l=>(pk ρ).bind λq=>(Jm q).bind λa=>bif lim ks.length&&(frz d||!decide (a∈ks)) then some (.nx (ρ.set i (some (y.2 (.dK true (Jl ks l a d).1 (Jl ks l a d).2))))) else none
 | _=>none
theorem jij  (a:pV i ρ=some t):ρ[i]?=some (some t):=by
 rw[jh4] at a;cases q:ρ[i]? with
 | none=>rw[q] at a;cases a
 | some o=>cases o with
  | none=>rw[q] at a;cases a
  | some b=>rw[q] at a;cases a;rfl
theorem jgC{i:Nat}{L:Ln}{tb ty tv:TE}{pk pv:PF}(T:jjW R tb i L)(U:PB R ty pk)(V:PP R tv pv):DS R pm (jeP tb ty tv) (J8 i L pk pv):=by
 intro σ ρ Z H O o w s e D' k;unfold J8 at e;cases e1:pv ρ with
 | none=>rw[e1] at e;cases e
 | some d =>
  rw[e1,L3] at e;cases e2:pV i ρ with
  | none=>rw[e2] at e;cases e
  | some t =>
   rw[e2,L3] at e;have W:=jij e2;cases e3:L t with
   | none=>rw[e3] at e;cases e
   | some y =>
    obtain⟨y,k0⟩:=y;rw[e3,L3] at e;dsimp only at e;split at e
    ·rename_i f l;cases e4:pk ρ with
     | none=>rw[e4] at e;cases e
     | some q =>
      rw[e4,L3] at e;cases e5:Jm q with
      | none=>rw[e5] at e;cases e
      | some c =>
       rw[e5,L3] at e;cases hm:lim f.length&&(frz d||!decide (c∈f)) with
       | false=>rw[hm] at e;cases e
       | true =>
        rw[hm] at e;cases e;rw[L9] at hm;refine V w.zd s e1 λ{u Z1 X P1} h N=>?_;have Q:=h.slots w.zd s;have j:=h.widen w;obtain⟨v,A,P,B,Y,r,ht,kb⟩:=T Q W e3;subst Y;rw[Rep] at r;obtain⟨a,E,O',rfl,rs,m,F,rfl⟩:=r;have F:X a=some (.dK ((f.map kaV).zip E)):=F;refine ht ?_;refine U h.wf.zd Q e4 λ{z Z2 S P2} G r2=>?_;obtain⟨rfl,_⟩:=Ja e5 r2;have I:S a=some (.dK ((f.map kaV).zip E)):=by rw[G.same a (by rw[F];exact λz=>(nomatch z))];exact F
        have n:=G.rep h.wf.zd N;have p:=G.reps h.wf.zd rs;have J:((f.map kaV).zip E).length < sizeLine:=by rw[List.length_zip,L0];exact E2 (Nat.min_le_left _ _) (wn hm.1)
        refine⟨a,_,rfl,DPut.k I J,?_⟩;have K:∃ b O2,Reps R Z2 S (Jl f l c d).2 b O2/\(((Jl f l c d).1).map kaV).zip b=Kx ((f.map kaV).zip E) (kaV c) u/\(∀ q,O2.count q<=O'.count q+P1.count q)/\(Jl f l c d).1.length=(Jl f l c d).2.length:=by
         cases hf:frz d with
         | true =>
          cases N.nil hf;obtain⟨b,O2,C,D,sl,g⟩:=uk n c p m;exact⟨b,O2,C,D,λq=>by have:=sl.count_le q;simp;exact this,g⟩
         | false =>
          have hn:c∉f:=by
           have:=hm.2;rw[hf] at this;simpa using this
          obtain⟨C,D,g⟩:=jdY n c p m hn;exact⟨_,_,C,D,λq=>by rw[U9];exact M8 _,g⟩
        obtain⟨b,O2,C,D,cn,g⟩:=K;rw[<- D];obtain⟨gF,sF⟩:=jgK (ob:=.dK (((Jl f l c d).1.map kaV).zip b)) (x':=.dK true (Jl f l c d).1 (Jl f l c d).2) j.wf G kb cn λM nO=>by
         rw[Rep];exact⟨a,b,O2,rfl,C.frame (λ_ z=>z) M (λx hx=>jm (nO x hx)),g,jD,rfl⟩
        exact k (j.trans gF) sF (Keep.refl _ _)
    ·cases e
end
section
variable {cl:Nat->Addr}{pm:List Nat}{X:Cx}{o b e:Expr}{to tb te:TE}{po pb pe:PF}{pos p fp tpos:Pos}{k i:Nat}{L:Ln}
theorem KN  (f:Room k X.A) (a:QL cl X o to i L) (c:QB cl X b tb pb) (d:QP cl X e te pe) (g:swapsWith e (some (.Subscript o b pos')) pos.line X.env=pure false:=by rfl) :
  QS cl pm X (.Assign [.Subscript o b pos'] e pos) (jeP to tb te) (J8 i L pb pe):=⟨jdv (jeV f) a.sem c.sem d.sem g,jgC (R:=⟨X.K,cl⟩) a.den c.den d.den⟩
end
namespace QK
theorem fld{K:PySem.W.Frag}{cl:Nat->Addr}{X:Cx}{o:Expr}{to:TE}{po:PF}{pos:Pos}{c:Nat}{f:Str}(a:X.K=K)(b:Cls X.K (cl c))(d:NoAttr X.K (cl c) f)(e:QB cl X o to po)(g:attributeBase o f X.env (eval o X.env)=eval o X.env:=by rfl):QB cl X (.Attribute o f pos) (jjG K to f) (Qb c f po):=by subst a;exact QA b d e g
theorem meth{K:PySem.W.Frag}{cl:Nat->Addr}{X:Cx}{o e:Expr}{es:List Expr}{to:TE}{po:PF}{tr:TA}{pr:PAf}{pos apos:Pos}{k n c:Nat}{f:Addr}{fd:FuncData}{ps:List Str}{m:List D->Option D}{mn qual:Str}{st:Stmt}{pl:Sem Bool}(d:X.K=K)(g:Cls X.K (cl c))(F:MtFact X.K (cl c) mn qual st f fd ps)
  (G:FnOk X.prog X.w X.K X.mg X.base CX0 k f fd ps (spP ⟨X.K,cl⟩ m n)) (h:Room k X.A) (i:QB cl X o to po) (j:QBs cl X (e::es) tr pr) (hn:(e::es).length+1=n:=by rfl)
  (a:starEach (e::es) X.env=(false,eval e X.env)::starEach es X.env:=by rfl) (b:(backTo pos (starEach es X.env)).any (·.1)=false:=by rfl)
  (l:eval (.Call (.Attribute o mn apos) (e::es) [] pos) X.env=(do
   let ov <- eval o X.env
   standAt apos.atName
   let (f,first) <- holding [ov] (getMethod ov mn pl)
   callWith pos f first (backTo pos (starEach (e::es) X.env)) (backToKw pos (keywordEach [] X.env))):=by rfl) :
  QP cl X (.Call (.Attribute o mn apos) (e::es) [] pos) (jaq (cl c) mn (spP ⟨K,cl⟩ m n) [] E0 to tr) (kX m c mn po pr):=by subst d;exact jbQ g F G h i j hn a b l
end QK
section
variable {cl:Nat->Addr}{pm:List Nat}{X:Cx}{o e:Expr}{es:List Expr}{to te:TE}{po pe:PF}{tr:TA}{pr:PAf}{pos p:Pos}{i:Nat}{L:Ln}
theorem wT  (e:Room k X.A) (c:QB cl X a ta pa) (d:QB cl X b tb pb) (f:behindInMarks .NotIn b=false:=by with_unfolding_all rfl):QP cl X (.Compare a [.NotIn] [b] pos) (wA ta tb) (p2 (zQ true) pa pb) :=
 ⟨jlG (jdx (jeV e) c.sem d.sem) f,jeN c.den d.den⟩
end
end QD
namespace PySem
open Sem (wp)
end PySem
namespace L2
open PySem PySem.Spec PyProof.Rows
end L2
namespace QD
open PySem L2 PySem.Spec PyProof.Rows
section
variable {R:RC}{Z Z':Zn}{H H':Hp}{pm:List Nat}
def PK(R:RC)(te:TE)(pk:Rh->Option (List KA))(pv:PF):Prop:=∀{σ:L2.St}{ρ:Rh}{Z:Zn}{H:Hp}{O:List Addr}{c:List KA}{d:D},Zd Z H->Slots R Z H ρ σ O->pk ρ=some c->pv ρ=some d->frz d=true ->
 ∀{Q:VK},(∀{t b:Addr}{u:V}{Z':Zn}{H':Hp},Go Z H [] Z' H' []->Z' t->Z' b->H' t=some (.tup [.ref b,u])->H' b=some (.tup ((c.map kaV).map kV))->Rep R Z' H' d u []->Q (.ref t) H')->te σ H Q
structure KvAt(R:RC)(Z:Zn)(H:Hp)(ys:List (List KA×D))(vs:List V)(ps:List (List Key×Addr×V)):Prop where
 l:vs.length=ps.length
 i:∀(j:Nat) (v:V),vs[j]?=some v->∃ kv t,ps[j]?=some kv/\v=.ref t/\H t=some (.tup [.ref kv.2.1,kv.2.2])/\H kv.2.1=some (.tup (kv.1.map kV))
 k:ps.map (·.1)=ys.map λy=>y.1.map kaV
 r:Reps R Z H (ys.map (·.2)) (ps.map (·.2.2)) []
end
section
variable {cl:Nat->Addr}{pm:List Nat}{X:Cx}{tg iter elt:Expr}{ifs:List Expr}{wi:TI}{pi:PAf}{t:TG}{g:D->Rh->Option Rh}{te:TE}{pk:Rh->Option (List KA)}{pv:PF}{pos cpos p:Pos}
structure QKv(cl:Nat->Addr)(X:Cx)(e:Expr)(te:TE)(pk:Rh->Option (List KA))(pv:PF):Prop where
 sem:PE X e te
 den:PK ⟨X.K,cl⟩ te pk pv
end
end QD
namespace PySem
open PySem.W PyProof.Rows PySem.Calls
end PySem
set_option maxHeartbeats 4000000
namespace PySem
open PySem.W PyProof.Rows PySem.Calls
end PySem
namespace L2
open PySem PySem.Spec PyProof.Rows
end L2
namespace QD
open PySem L2 PySem.Spec PyProof.Rows
end QD
namespace PySem
open Sem (wp)
end PySem
namespace L2
open PySem PySem.Spec PyProof.Rows
end L2
namespace QD
open PySem L2 PySem.Spec PyProof.Rows
end QD
set_option maxHeartbeats 1000000
namespace PySem
namespace F
end F
end PySem
namespace L2
open PySem PySem.Spec PyProof.Rows
structure Z3(z TI TO j1 j2 j3 t l m:Addr):Prop where
 TIz:TI≠z
 TOz:TO≠z
 j1z:j1≠z
 j2z:j2≠z
 j3z:j3≠z
 TITO:TI≠TO
 TIj1:TI≠j1
 TIj2:TI≠j2
 TIj3:TI≠j3
 TOj1:TO≠j1
 TOj2:TO≠j2
 TOj3:TO≠j3
 j12:j1≠j2
 j13:j1≠j3
 j23:j2≠j3
 out:∀ x,x=t \/ x=l \/ x=m->x≠z/\x≠TO/\x≠j1/\x≠j2/\x≠j3
end L2
namespace PySem
namespace F
end F
end PySem
namespace L2
open PySem PySem.Spec PyProof.Rows
end L2
namespace QD
open PySem L2 PySem.Spec PyProof.Rows
end QD
namespace QD
open PySem L2
end QD
namespace L2
open PySem PySem.Spec PyProof.Rows
end L2
namespace QD
open PySem L2
end QD
namespace L2
open PySem PySem.Spec PyProof.Rows
theorem Inv.unfrz  (I:Inv X pins σ H s) (e:H a=some (.frz o (.dK kvs))) (j:∀ o u,X.H₀ a≠some (.frz o u)):Inv X pins σ (upd H a (.dK kvs)) s:=by
 have g:∀ b,H b=none->upd H a (.dK kvs) b=none:=λb q=>by rw[jm (λz=>by rw[z,e] at q;cases q)];exact q
 refine⟨I.ok,I.os,I.bare,⟨I.base.keep,I.base.slot,λb o q n k=>g b (I.base.free b o q n k),I.base.there,λb h q=>?_,λb o u q=>?_,λb l q=>?_⟩,I.loc,I.cell,g _ I.free,λx c q=>g c (I.freeC x c q),λp t=>?_,λb u q=>?_,I.len⟩
 ·have d:=I.base.tups b h q;rw[jm (λz=>by rw[z,e] at d;cases d)];exact d
 ·rw[jm (λz=>by subst z;exact j o u q)];exact I.base.frzs b o u q
 ·obtain⟨m,d⟩:=I.base.tbls b l q;exact⟨m,by rw[jm (λz=>by rw[z,e] at d;cases d)];exact d⟩
 ·obtain⟨d,n,r⟩:=I.pin p t;exact⟨d,g _ n,r⟩
 ·have i:∀{c:Addr}{v:HO},ObjOk X.prog X.w H s.heap c v->ObjOk X.prog X.w (upd H a (.dK kvs)) s.heap c v:=λx=>x.stay (λ_ _ _ q=>q) (λc q=>by rw[jm (λz=>by rw[z,e] at q;cases q)];exact q) λc h q=>by rw[jm (λz=>by rw[z,e] at q;cases q)];exact q
  by_cases f:b=a
  ·subst f;rw[jD] at q;cases q;obtain⟨_,y⟩:=(show ObjOk X.prog X.w H s.heap b (.frz o (.dK kvs)) from I.hok b _ e);exact i y
  ·rw[jm f] at q;exact i (I.hok b u q)
noncomputable def jmc(i:Nat)(te:TE):TE:=λσ H Q=>∃ a kvs,σ[i]?=some (some (.ref a))/\H a=some (.dK kvs)/\te σ H λv H1=>∃ o,H1 a=some (.frz o (.dK kvs))/\Q v (upd H1 a (.dK kvs))
theorem jjQ  (h:PE X e te):PE X e (jmc i te):=by
 intro b s σ H Q I ⟨a,c,_,d,q⟩;have f:∀ o u,X.H₀ a≠some (.frz o u):=λo u z=>by have:=I.base.frzs a o u z;rw[d] at this;cases this
 exact thn (h b s σ H _ I q) λv m ⟨x,n,g,j,o,k,l⟩=>⟨x,_,g.unfrz k f,j,l⟩
end L2
namespace QD
open PySem L2 PySem.Spec PyProof.Rows
mutual
noncomputable def pln:D->Bool
 | .tup l=>jgD l
 | .non=>true | .bl _=>true | .int _=>true | .str _=>true
 | .lst _ _=>false | .dK _ _ _=>false | .dT _ _ _=>false | .ins _ _ _ _=>false | .dead=>false
noncomputable def jgD:List D->Bool
 | []=>true
 | d::l=>pln d&&jgD l
end
mutual
theorem Rep.cutA{a:Addr}(ha:∀ vs,¬ Rd H a (.tup vs))(hH:∀ b,b≠a->H' b=H b):∀{d:D}{v:V}{O:List Addr},pln d=true->Rep R Z H d v O->Rep R (λb=>Z b/\b≠a) H' d v O
 | .non,_,_,_,r=>by rw[Rep] at r ⊢;exact r
 | .bl _,_,_,_,r=>by rw[Rep] at r ⊢;exact r
 | .int _,_,_,_,r=>by rw[Rep] at r ⊢;exact r
 | .str _,_,_,_,r=>by rw[Rep] at r ⊢;exact r
 | .tup l,_,_,h,r=>by
  rw[pln] at h;rw[Rep] at r ⊢;obtain⟨p,vs,e,t,r⟩:=r;refine⟨p,vs,e,?_,Reps.cutA ha hH h r⟩;rcases t with⟨z,t⟩ | t
  ·have ne:p≠a:=λq=>ha vs (q▸t);exact .inl ⟨⟨z,ne⟩,Rd.agree (hH p ne) t⟩
  ·exact .inr t
 | .lst _ _,_,_,h,_=>by rw[pln] at h;cases h
 | .dK _ _ _,_,_,h,_=>by rw[pln] at h;cases h
 | .dT _ _ _,_,_,h,_=>by rw[pln] at h;cases h
 | .ins _ _ _ _,_,_,h,_=>by rw[pln] at h;cases h
 | .dead,_,_,h,_=>by rw[pln] at h;cases h
theorem Reps.cutA{a:Addr}(ha:∀ vs,¬ Rd H a (.tup vs))(hH:∀ b,b≠a->H' b=H b):∀{l:List D}{vs:List V}{O:List Addr},jgD l=true->Reps R Z H l vs O->Reps R (λb=>Z b/\b≠a) H' l vs O
 | [],_,_,_,r=>by rw[Reps] at r ⊢;exact r
 | d::l,_,_,h,r=>by
  rw[jgD,L9] at h;rw[Reps] at r ⊢;obtain⟨v,vs',O1,O2,e1,e2,r1,r2⟩:=r;exact⟨v,vs',O1,O2,e1,e2,Rep.cutA ha hH h.1 r1,Reps.cutA ha hH h.2 r2⟩
end
noncomputable def Q6(i:Nat)(g:D->Rh->Option Rh)(q:PTf)(p:PF)(ix:List (Option Nat)):FE:=λρ=>(YT i ρ).bind λr=>bif lim r.1.length then((jM g q p r.1 (jE ix r.2)).bind λys=>bif jgD ys then some (.lst true ys,ρ) else none) else none
@[simp] theorem jgI  : Q6 i g q p ix ρ=(YT i ρ).bind λr=>bif lim r.1.length then((jM g q p r.1 (jE ix r.2)).bind λys=>bif jgD ys then some (.lst true ys,ρ) else none) else none:=rfl
theorem jfA  (Y:PGt R [] tg g) (hq:PTt R tc q) (he:PP R te p):DE R (jmc i (ud (iDK (J5 i)) tg tc te ix)) (Q6 i g q p ix):=by
 intro σ ρ ρ' Z H O d w s e Q k;unfold Q6 at e;cases e1:YT i ρ with
 | none=>rw[e1] at e;cases e
 | some r =>
  obtain⟨L,ρ1⟩:=r;rw[e1,L3] at e;dsimp only at e;cases hl:lim L.length with
  | false=>rw[hl] at e;cases e
  | true =>
   rw[hl,cond_true] at e;cases e2:jM g q p L (jE ix ρ1) with
   | none=>rw[e2] at e;cases e
   | some all =>
    rw[e2,L3] at e;cases hp:jgD all with
    | false=>rw[hp] at e;cases e
    | true =>
     rw[hp,cond_true] at e;cases e;unfold YT at e1;split at e1
     ·rename_i ks l C;cases hf:frzs l with
      | false=>rw[hf] at e1;cases e1
      | true =>
       rw[hf,cond_true] at e1;cases e1;obtain⟨A,P0,B,rfl,k1,k2,_⟩:=s.put (L8.mp C).1;obtain⟨v,I,r⟩:=k1 _ C;rw[Rep] at r;obtain⟨a,vs,O',rfl,J,D,E,rfl⟩:=r;cases J.nil hf;have E:H a=some (.dK ((ks.map kaV).zip vs)):=E;refine⟨a,_,I,E,.ref a,I,a,_,rfl,E,λo=>?_⟩;have M:Go Z H [a] (λb=>Z b \/ b=a) (upd H a (.frz o (.dK ((ks.map kaV).zip vs)))) []:=jg4 w.mid;have N:=M.frame w;have F:∀ b,Z b->upd H a (.frz o (.dK ((ks.map kaV).zip vs))) b=H b:=λb c=>jm λz=>w.nz a (by simp) (z▸c);have S:=Go.keepA w M;have r':Rep R (λb=>Z b \/ b=a) (upd H a (.frz o (.dK ((ks.map kaV).zip vs)))) (.dK false ks l) (.ref a) []:=by
        rw[Rep];exact⟨a,vs,[],rfl,J.frame (λb z=>.inl z) F (λb c=>(nomatch c)),D,.inr ⟨o,jD⟩,.inr rfl,rfl,rfl⟩
       have T:=k2 r' (λb z=>.inl z) F S.1 S.2;rw[yZ I] at T;refine Vs (Q:=λv K=>∃ o,K a=some (.frz o (.dK ((ks.map kaV).zip vs)))/\Q v (upd K a (.dK ((ks.map kaV).zip vs)))) Y hq he N.wf.zd T (λ{Z1 K} F hH zd i=>jgT (R:=R) (ks:=ks) (vs:=vs) (Z:=λb=>Z b \/ b=a) (H:=upd H a (.frz o (.dK ((ks.map kaV).zip vs)))) (by rw[J.length];exact D) (.inr rfl) jD F (λa z=>hH a (N.wf.zd a z)) zd i) hl e2 λ{v Z' u P} j U=>?_;have V:upd H a (.frz o (.dK ((ks.map kaV).zip vs))) a≠none:=by rw[jD];exact λz=>nomatch z
       have W:u a=some (.frz o (.dK ((ks.map kaV).zip vs))):=by rw[j.fr a V (λz=>nomatch z),jD]
       have t:∀ b,b≠a->upd u a (.dK ((ks.map kaV).zip vs)) b=u b:=λb c=>jm c;have na:∀ vs,¬ Rd u a (.tup vs):=λvs z=>by
        rcases z with z | ⟨_,z⟩<;>rw[W] at z<;>cases z
       have hO:∀ b,H b≠none->b≠a->u b=H b:=λb c f=>by
        rw[j.fr b (by rw[jm f];exact c) (λz=>nomatch z),jm f]
       have m:∀ b,H b≠none->upd u a (.dK ((ks.map kaV).zip vs)) b=H b:=λb c=>by
        by_cases f:b=a
        ·rw[f,jD,E]
        ·rw[jm f,hO b c f]
       have pn:∀ b∈P,H b=none/\b≠a:=λb c=>by
        rcases j.sub b c with q | q
        ·cases q
        ·have:b≠a:=λz=>V (z▸q);exact⟨by rw[jm this] at q;exact q,this⟩
       have X:¬ Z a:=w.nz a (by simp);refine⟨o,W,k (Z':=λb=>Z' b/\b≠a) (P:=P) (O':=A++[a]++B) ⟨⟨?_,λb c=>?_,λb c=>?_,λb c=>?_⟩,λb z=>⟨j.zz b (.inl z),λq=>X (q▸z)⟩,λb h n=>m b h,λb z=>?_,λb h=>?_,λb h=>?_⟩ ?_ ?_⟩
       ·refine X0.mpr ⟨j.wf.nd,w.nd,λx hx y hy e=>?_⟩;exact w.od y hy (e▸(pn x hx).1)
       ·rintro⟨z,f⟩;rcases N1.mp c with c | c
        ·exact j.wf.nz b c z
        ·rcases j.zn b z with(q | q) | q | q
         ·exact w.nz b c q
         ·exact f q
         ·cases q
         ·rw[jm f] at q;exact w.od b c q
       ·rcases N1.mp c with c | c
        ·rw[t b (pn b c).2];exact j.wf.od b c
        ·rw[m b (w.od b c)];exact w.od b c
       ·rw[t b c.2];exact j.wf.zd b c.1
       ·rcases j.zn b z.1 with(q | q) | q | q
        ·exact .inl q
        ·exact absurd q z.2
        ·cases q
        ·rw[jm z.2] at q;exact .inr (.inr q)
       ·rcases N1.mp h with h | h
        ·exact .inr (pn b h).1
        ·exact .inl h
       ·rw[m b h];exact h
       ·rw[Rep] at U ⊢;obtain⟨G,ws,O2,rfl,r4,e4,rfl⟩:=U;have ne:G≠a:=(pn G L6).2;exact⟨G,ws,O2,rfl,Reps.cutA na t hp r4,by rw[t G ne];exact e4,rfl⟩
       ·exact s.frame (λb z=>⟨j.zz b (.inl z),λq=>X (q▸z)⟩) (λb z=>m b (w.zd b z)) λb c=>m b (w.od b c)
     ·cases e1
noncomputable def jc1(i:Nat):FS:=λρ=>match ρ[i]? with
 | some (some (.lst true l))=>bif frzs l then some (.nx (ρ.set i (some (.lst true [])))) else none
 | _=>none
theorem jjB  : DS R pm (zD (jm3 R.K "list" jeO (J5 i))) (jc1 i):=by
 intro σ ρ Z H O o w s e y k;unfold jc1 at e;split at e
 ·rename_i l f;cases hf:frzs l with
  | false=>rw[hf] at e;cases e
  | true =>
   rw[hf] at e;cases e;obtain⟨A,P,B,rfl,n,p,_⟩:=s.put (L8.mp f).1;obtain⟨v,g,r⟩:=n _ f;rw[Rep] at r;obtain⟨a,h,C,rfl,q,j,rfl⟩:=r;have t:=q.nil hf;subst t;refine⟨.ref a,g,.inl ⟨rfl,h,SqL.of j⟩,?_⟩;refine⟨a,h,rfl,rfl,j,?_⟩;have u:Go Z H (A++[a]++B) Z (upd H a (.lst [])) (A++[a]++B):=Go.put w (by simp);have d:∀ b,Z b->upd H a (.lst []) b=H b:=λb c=>jm λz=>w.nz a (by simp) (z▸c);have nd:=w.nd;simp only[X0,N1,List.nodup_cons,M4,not_or] at nd;have x:Rep R Z (upd H a (.lst [])) (.lst true []) (.ref a) [a]:=by
    rw[Rep];exact⟨a,[],[],rfl,.empty,jD,rfl⟩
   have m:=p (v':=.ref a) x (λb c=>c) d (λb c=>jm λz=>by subst z;exact(nd.1.2.2 b c b (.inl rfl)) rfl) (λb c=>jm λz=>by subst z;exact(nd.2.2 b (.inr (.inl rfl)) b c) rfl);rw[yZ g] at m;exact k u m (Keep.refl _ _)
 ·cases e
theorem jiG  (B:BlockOk X scope N' ix) (d:X.calm=true) (e:QB cl X (.Name x p) (J5 i) (pV i))
  (b:∀ C s H fp,QG cl [] (vc X scope N' C s H fp) tg t g) (a:∀ C s H fp,QIf cl (vc X scope N' C s H fp) ifs tcc qq) (c:∀ C s H fp,QP cl (vc X scope N' C s H fp) elt te pe)
  (f:∀ y,foldedSetIterable (.Name x p) X.env y=pure y:=by intro _;rfl):QE cl X (.ListComp elt [⟨tg,.Name x p,ifs,0⟩] scope pos) (jmc i (ud (iDK (J5 i)) t tcc te ix)) (Q6 i g qq pe ix) :=
 ⟨jjQ (jbj B d (jjS e.sem) (λC s H fp=>(b C s H fp).sem) (λC s H fp=>(a C s H fp).sem) (λC s H fp=>(c C s H fp).sem) f),
  jfA (b 0 X.s₀ X.H₀ []).den (a 0 X.s₀ X.H₀ []).den (c 0 X.s₀ X.H₀ []).den⟩
theorem jf1  (d:KB X (.type T) r) (f:BC ⟨X.K,cl⟩ r gg) (g:X.mg x=none) (h:bootBuiltins x=some (.type T)) (c:QDs cl X (e::es) tr fr) (i:Gl X x:=by rfl)
  (hn:x≠"__name__":=by decide) (a:(x==("__debug__" : Str))=false:=by decide) (j:starEach (e::es) X.env=(false,eval e X.env)::starEach es X.env:=by rfl) (b:(backTo pos (starEach es X.env)).any (·.1)=false:=by rfl) :
  QE cl X (.Call (.Name x p) (e::es) [] pos) (tCB r tr) (dCB gg fr):=⟨uC d i g h c.sem hn a j b,jmW (BC.o f) c.den⟩
theorem jjp  (d:QB cl X (.Name x xpos) (J5 i) (pV i))
  (a:attributeBase (.Name x xpos) "clear" X.env (eval (.Name x xpos) X.env)=eval (.Name x xpos) X.env:=by rfl) (b:(apos.endLine==cpos.line)=true:=by rfl)
  (c:swapsWith (.Call (.Attribute (.Name x xpos) "clear" apos) [] [] cpos) none pos.line X.env=pure false:=by rfl) :
  QS cl pm X (.Expr (.Call (.Attribute (.Name x xpos) "clear" apos) [] [] cpos) pos) (zD (jm3 X.K "list" jeO (J5 i))) (jc1 i) :=
 ⟨xu (jkF PySem.F.plainAttrs_list PySem.F.slot_list_clear PySem.F.type_list_clear jfc d.sem a b) c,jjB⟩
@[simp] theorem sLClr_e  : jc1 i ρ=(pV i ρ).bind λx=>(jh8 x).bind λl=>bif frzs l then some (.nx (ρ.set i (some (.lst true [])))) else none:=by
 unfold jc1 pV;cases h:ρ[i]? with
 | none=>rfl
 | some o=>cases o with
  | none=>rfl
  | some x=>cases x with
   | lst o l=>cases o<;>rfl
   | _=>rfl
end QD
namespace PySem
open Sem (wp)
namespace F
theorem lk_zip_keys:typeLookup (.type "zip") "keys" = pure none:=by rw[typeLookup_type,builtinLookup_eq_fast];kernel_rfl
theorem lk_zip_getattr:typeLookup (.type "zip") "__getattr__" = pure none:=by rw[typeLookup_type,builtinLookup_eq_fast];kernel_rfl
theorem entry_zip_ga:entryFor table "zip.__getattribute__" = some Builtin.«object.__getattribute__»:=entryFor_alias (id':="object.__getattribute__") (by kernel_rfl) (by first | rfl | decide +kernel) (by decide +kernel) (by kernel_rfl)
end F
section
variable {prog:Program}{w:World}{A:Around}{E:Value->Shared->Prop}{h:Heap}{g:Array GenState}{d:Drawn}{t:Nat}{os:OsState}{a:Addr}{o:Obj}
theorem jaV{fs:Array Value}{tk:Tok}{Q:Fin->Shared->Prop}(c:A.handled=none)(f:h.get? a=some { cls:=.type "zip",data:=.fields fs })
  (i:∀ h' e t',(∀ b o,h.get? b=some o->h'.get? b=some o)->h.get? e=none->(∃ ob,h'.get? e=some ob/\ob.cls=.type "AttributeError")->E (.ref e) ⟨h',g,d,t',os⟩) :
  wpAny (model prog w) A (Builtin.«object.__getattribute__» ⟨[.ref a,.str "keys" tk],[]⟩) Q E ⟨h,g,d,t,os⟩:=by
 have j:(⟨h,g,d,t,os⟩:Shared).TypeIs (.ref a) "zip":=⟨_,f,rfl⟩;have k:=F.lk_zip_keys
 repeat (any_goals (first | assumption | wp_step))
 exact Qx (by decide +kernel) c i
theorem jcv{fs:Array Value}{tk:Tok}{R:Result->Shared->Prop}(f:A.handled=none)(c:h.get? a=some { cls:=.type "zip",data:=.fields fs })
  (i:∀ h' e t',(∀ b o,h.get? b=some o->h'.get? b=some o)->h.get? e=none->(∃ ob,h'.get? e=some ob/\ob.cls=.type "AttributeError")->R (.error (.ref e)) ⟨h',g,d,t',os⟩) :
  codeAny (model prog w) A (.call (.builtin "zip.__getattribute__") ⟨[.ref a,.str "keys" tk],[]⟩) R ⟨h,g,d,t,os⟩:=by
 refine codeAny_call_builtin F.slot_zip_getattribute.plain F.entry_zip_ga (F.slot_zip_getattribute.check _ _ _ _ _ _ _ _ (show(⟨h,g,d,t,os⟩:Shared).TypeIs (.ref a) "zip" from⟨_,c,rfl⟩) (F.args_zip_getattribute_2 _ _) ?_);exact jaV (show A.in1.handled=none from f) c i
theorem jgz{fs:Array Value}{tk:Tok}{Q:Value->Shared->Prop}(k:A.handled=none)(i:h.get? a=some { cls:=.type "zip",data:=.fields fs })
  (l:∀ h' e t',(∀ b o,h.get? b=some o->h'.get? b=some o)->h.get? e=none->(∃ ob,h'.get? e=some ob/\ob.cls=.type "AttributeError")->E (.ref e) ⟨h',g,d,t',os⟩) :
  wpAny (model prog w) A (getAttrBy (.ref a) (.str "keys" tk) false) Q E ⟨h,g,d,t,os⟩:=by
 have s:(⟨h,g,d,t,os⟩:Shared).TypeIs (.ref a) "zip":=⟨_,i,rfl⟩;have u:=F.sub_attrErr;have v:=F.slot_zip_getattribute.lookup;have x:=F.slot_zip_getattribute.bind (.ref a);have y:=F.lk_zip_getattr
 repeat (any_goals (first | assumption | wp_step))
 refine jcv k i λh' e t' m n j=>?_;have c:=j;obtain⟨ob,f,p⟩:=j;have q:(⟨h',g,d,t',os⟩:Shared).TypeIs (.ref e) "AttributeError":=⟨_,f,p⟩;have r:=l h' e t' m n c;show wpAny (model prog w) A (getattributeRaised (Value.ref a) (Value.str (Str.ofString "keys") tk) (Value.type "zip") (.ref e) none false false) Q E _;unfold getattributeRaised
 repeat (any_goals (first | assumption | wp_step))
theorem jcy{fs:Array Value}{Q:Option Value->Shared->Prop}(f:A.handled=none)(i:h.get? a=some { cls:=.type "zip",data:=.fields fs })
  (j:∀ h' t',(∀ b o,h.get? b=some o->h'.get? b=some o)->Q none ⟨h',g,d,t',os⟩):wpAny (model prog w) A (getAttr? (.ref a) "keys") Q E ⟨h,g,d,t,os⟩:=by
 unfold getAttr? getAttrBy?
 refine L1 (wpAny_mkText (L1 ?_));refine wpAny_attempt ?_;refine jgz f i λh' e t' k q l=>?_;obtain⟨ob,c,m⟩:=l;have n:(⟨h',g,d,t',os⟩:Shared).TypeIs (.ref e) "AttributeError":=⟨_,c,m⟩;have r:=F.sub_attrErr;have p:=j h' t' k
 repeat (any_goals (first | assumption | wp_step))
end
end PySem
namespace L2
open PySem PySem.Spec PyProof.Rows
section
variable {prog:Program}{w:World}{A:Around}{E:Value->Shared->Prop}{s:Shared}{z TI TO j1 j2 l t:Addr}{m:Nat}{us vs:Array Value}{u v a b:Value}
abbrev wq(h:Heap)(z TI TO c:Addr)(f:Bool):Prop:=h.get? z=some { cls:=.type "zip",dict:=none,data:=.fields #[rawInt c,.bool f,.bool false,.ref TI,.ref TO],slots:=#[] }
theorem jkI{c:Addr}{f:Bool}{K:Bool->Shared->Prop}(a:wq s.heap z TI TO c f)(h:∀ k0,wq k0 z TI TO c true->Heap.SameBut z s.heap k0->K false { s with heap:=k0 }) :
  wpAny (model prog w) A (if(Value.bool f != Value.bool true)=true then do { setField (.ref z) 1 (.bool true);pure false } else pure false) K E s:=by
 cases f with
 | false=>exact L1 (wpAny_setField_rec a (by simp) λk0 b d=>M6 (h k0 b d))
 | true=>exact M6 (h s.heap a ⟨rfl,λ_ _=>rfl⟩)
theorem jhP{c:Addr}{f:Bool}{oc:Obj}{C:Value->Shared->Prop}(D:ZipApart z TI TO j1 j2 l t)(d:wq s.heap z TI TO c f)(p:s.heap.get? c=some oc)(qI:IsPair s.heap TI (.ref j1) (.ref j2))
  (q:s.heap.IsListIter j1 l m) (q2:s.heap.IsTupleIter j2 t m) (r:s.heap.IsList l us) (y:s.heap.IsTuple t vs) (B:us[m]?=some u) (F:vs[m]?=some v)
  (go:∀ k,wq k z TI TO c true->k.IsListIter j1 l (m+1)->k.IsTupleIter j2 t (m+1)->IsPair k s.heap.objs.size u v->k.objs.size=s.heap.objs.size+1 ->
   (∀ c o,c≠z->c≠j1->c≠j2->s.heap.get? c=some o->k.get? c=some o)->C (.ref s.heap.objs.size) { s with heap:=k }) :
  wpAny (model prog w) A (Builtin.«zip.__next__» ⟨[.ref z],[]⟩) (λfin s'=>∃ v,fin=.done (.ret v)/\C v s') E s:=by
 show wpAny (model prog w) A (field (.ref z) 2 >>= _) _ _ _;refine L1 (U7 d rfl (x:=.bool false) rfl ?_);show wpAny (model prog w) A (field (.ref z) 3 >>= _) _ _ _;refine L1 (U7 d rfl (x:=.ref TI) rfl (L1 (wpAny_seqItems qI rfl ?_)));show wpAny (model prog w) A (Builtin.SmallTypes.ownedTupleIsFree (.ref z) >>= _) _ _ _;refine L1 ?_;delta Builtin.SmallTypes.ownedTupleIsFree;refine L1 (U7 d rfl (x:=rawInt c) rfl ?_);show wpAny _ _ (loadIfAlive ((c:Int).toNat) >>= _) _ _ _;rw[N9];refine L1 (PySem.W.kdx_alive p ?_);simp only[Option.isNone_some,Bool.false_eq_true,if_false];refine L1 (U7 d rfl (x:=.bool f) rfl ?_);refine jkI d λQ G b=>?_;show wpAny (model prog w) A (if false=true then _ else _) _ _ _;rw[if_neg (by exact M3)];refine L1 ?_;rw[<- Array.forIn_toList];simp only[List.forIn_cons,List.forIn_nil];refine L1 (L1 (wpAny_holding ?_));show wpAny _ _ (Builtin.SmallTypes.nextOf (.ref j1) >>= _) _ _ _;refine L1 (wpAny_nextOf_list_item (q.extBut b.extBut D.i1z) (r.extBut b.extBut D.l1z) B λR p1 g=>M6 (M6 ?_));refine L1 (L1 (wpAny_holding ?_));show wpAny _ _ (Builtin.SmallTypes.nextOf (.ref j2) >>= _) _ _ _;refine L1 (wJ ((q2.extBut b.extBut D.i2z).extBut g.extBut D.i12.symm) ((y.extBut b.extBut D.l2z).extBut g.extBut D.l2i1) F λa p2 h=>M6 (M6 (M6 ?_)));show wpAny _ _ (newTuple [u,v] >>= _) _ _ _;refine L1 (wpAny_newTuple (M6 ⟨_,rfl,?_⟩));have H:a.objs.size=s.heap.objs.size:=by rw[h.1,g.1,b.1]
 have kp:∀ c o,c≠z->c≠j1->c≠j2->s.heap.get? c=some o->(a.push { cls:=.type "tuple",data:=.seq #[u,v] }).get? c=some o:=λc o I J K e=>L7 _ (h.extBut _ _ K (g.extBut _ _ J (b.extBut _ _ I e)));show C (.ref a.objs.size) _;have j:IsPair (a.push { cls:=.type "tuple",data:=.seq #[u,v] }) a.objs.size u v:=E1 _ rfl;have n:(a.push { cls:=.type "tuple",data:=.seq #[u,v] }).objs.size=a.objs.size+1:=Heap.size_push ..;rw[H] at j n ⊢;have i:=p1.extBut h.extBut D.i12;obtain⟨x1,L,M⟩:=i;obtain⟨N,O,P⟩:=p2;exact go _ (L7 _ (h.extBut _ _ D.i2z.symm (g.extBut _ _ D.i1z.symm G))) ⟨x1,L7 _ L,M⟩ ⟨N,L7 _ O,P⟩ j n kp
theorem jkE{c:Addr}{f:Bool}{oc:Obj}{C:PySem.Fin->Shared->Prop}(d:A.handled=none)(D:ZipApart z TI TO j1 j2 l t)(a:wq s.heap z TI TO c f)(g:s.heap.get? c=some oc)(qI:IsPair s.heap TI (.ref j1) (.ref j2))
  (h:s.heap.IsListIter j1 l m) (i:s.heap.IsList l us) (j:us[m]?=none)
  (go:∀ k e,(∀ c o,c≠z->c≠j1->c≠j2->s.heap.get? c=some o->k.get? c=some o)->(∃ o,k.get? e=some o/\o.cls=.type "StopIteration")->E (.ref e) { s with heap:=k }) :
  wpAny (model prog w) A (Builtin.«zip.__next__» ⟨[.ref z],[]⟩) C E s:=by
 show wpAny (model prog w) A (field (.ref z) 2 >>= _) _ _ _;refine L1 (U7 a rfl (x:=.bool false) rfl ?_);show wpAny (model prog w) A (field (.ref z) 3 >>= _) _ _ _;refine L1 (U7 a rfl (x:=.ref TI) rfl (L1 (wpAny_seqItems qI rfl ?_)));show wpAny (model prog w) A (Builtin.SmallTypes.ownedTupleIsFree (.ref z) >>= _) _ _ _;refine L1 ?_;delta Builtin.SmallTypes.ownedTupleIsFree;refine L1 (U7 a rfl (x:=rawInt c) rfl ?_);show wpAny _ _ (loadIfAlive ((c:Int).toNat) >>= _) _ _ _;rw[N9];refine L1 (PySem.W.kdx_alive g ?_);simp only[Option.isNone_some,Bool.false_eq_true,if_false];refine L1 (U7 a rfl (x:=.bool f) rfl ?_);refine jkI a λv y b=>?_;show wpAny (model prog w) A (if false=true then _ else _) _ _ _;rw[if_neg (by exact M3)];refine L1 ?_;rw[<- Array.forIn_toList];simp only[List.forIn_cons,List.forIn_nil];refine L1 (L1 (wpAny_holding ?_));show wpAny _ _ (Builtin.SmallTypes.nextOf (.ref j1) >>= _) _ _ _;refine L1 (wpAny_nextOf_list_end d (h.extBut b.extBut D.i1z) (i.extBut b.extBut D.l1z) j λn e p q=>?_);exact go n e (λc o r u _ x=>p _ _ u (b.extBut _ _ r x)) q
def ZS(z TI TO j1 j2 l t:Addr)(i:Nat)(h:Heap):Prop:=IsPair h TI (.ref j1) (.ref j2)/\(∃ a b,IsPair h TO a b)/\h.IsListIter j1 l i/\h.IsTupleIter j2 t i/\(IsZip h z TI TO .none \/ ∃ c f oc,wq h z TI TO c f/\h.get? c=some oc)
theorem jhV{C:Option Value->Shared->Prop}(D:ZipApart z TI TO j1 j2 l t)(q:ZS z TI TO j1 j2 l t m s.heap)(p:s.heap.IsList l us)(r:s.heap.IsTuple t vs)(x:us[m]?=some u)(B:vs[m]?=some v)
  (go:∀ k,ZS z TI TO j1 j2 l t (m+1) k->IsPair k s.heap.objs.size u v->(∀ c o,c≠z->c≠TO->c≠j1->c≠j2->s.heap.get? c=some o->k.get? c=some o)->C (some (.ref s.heap.objs.size)) { s with heap:=k }):wpAny (model prog w) A (pyNext (.ref z)) C E s:=by
 obtain⟨qI,⟨a,b,G⟩,H,I,g⟩:=q;rcases g with g | ⟨c,f,n,g,J⟩
 ·refine jgN D g qI G H I p r x B λk c1 N h i j c6 d=>go k ⟨d _ _ D.TIz D.TITO D.TIi1 D.TIi2 qI,⟨_,_,N⟩,h,i,.inr ⟨_,false,_,c1,j⟩⟩ j d
 ·have ty:s.TypeIs (.ref z) "zip":=⟨_,g,rfl⟩;unfold pyNext;refine L1 (wpAny_attempt (wpAny_callSpecial?_slot (name:=Str.ofString "__next__") ty F.slot_zip_next (wpAny_call_entry F.slot_zip_next ty F.entry_zip_next
   (jhP D g J qI H I p r x B λk c1 h i j c6 d=>M6 ?_) (F.args_zip_next_1 _))))
  have al:∃ n,k.get? c=some n:=by
   by_cases K:c=z
   ·subst K;exact⟨_,c1⟩
   by_cases L:c=j1
   ·obtain⟨_,y,_⟩:=h;subst L;exact⟨_,y⟩
   by_cases M:c=j2
   ·obtain⟨_,y,_⟩:=i;subst M;exact⟨_,y⟩
   exact⟨_,d c n K L M J⟩
  obtain⟨O,al⟩:=al;exact go k ⟨d _ _ D.TIz D.TIi1 D.TIi2 qI,⟨_,_,d _ _ D.TOz D.TOi1 D.TOi2 G⟩,h,i,.inr ⟨_,true,_,c1,al⟩⟩ j λc o P _ Q R e=>d c o P Q R e
theorem jiI{C:Option Value->Shared->Prop}(g:A.handled=none)(D:ZipApart z TI TO j1 j2 l t)(q:ZS z TI TO j1 j2 l t m s.heap)(h:s.heap.IsList l us)(i:us[m]?=none)
  (go:∀ k,(∀ c o,c≠z->c≠TO->c≠j1->c≠j2->s.heap.get? c=some o->k.get? c=some o)->C none { s with heap:=k }):wpAny (model prog w) A (pyNext (.ref z)) C E s:=by
 obtain⟨qI,⟨a,b,B⟩,j,G,d⟩:=q;rcases d with d | ⟨c,f,H,d,n⟩
 ·exact jfT g D d qI j h i go
 ·have ty:s.TypeIs (.ref z) "zip":=⟨_,d,rfl⟩;unfold pyNext;refine L1 (wpAny_attempt (wpAny_callSpecial?_slot (name:=Str.ofString "__next__") ty F.slot_zip_next (wpAny_call_entry F.slot_zip_next ty F.entry_zip_next (jkE g D d n qI j h i λk e kp p=>?_) (F.args_zip_next_1 _))));obtain⟨o,r,u⟩:=p;exact L1 (wpAny_isInstance (T:="StopIteration") (b:=true) ⟨o,r,u⟩ isSubtype_stop (M6 (go _ λc o v _ x y e=>kp c o v x y e)))
end
section
variable {prog:Program}{w:World}{K:Type} [DecidableEq K] {knd:KeyKind prog w K}{A:Around}{E:Value->Shared->Prop}{z TI TO j1 j2 l t:Addr}{us vs:Array Value}
theorem ZS.keep{i:Nat}{h h':Heap}{X:Addr}(q:ZS z TI TO j1 j2 l t i h)(k:∀ b o,b≠X->h.get? b=some o->h'.get? b=some o)(g:X≠z)(n:X≠TI)(p:X≠TO)(r:X≠j1)(s:X≠j2)(nx:∀ o,h.get? X=some o->∃ o',h'.get? X=some o'):ZS z TI TO j1 j2 l t i h':=by
 obtain⟨qI,⟨a,b,u⟩,⟨x1,v,w⟩,⟨x,y,A⟩,d⟩:=q;refine⟨k _ _ n.symm qI,⟨a,b,k _ _ p.symm u⟩,⟨x1,k _ _ r.symm v,w⟩,⟨x,k _ _ s.symm y,A⟩,?_⟩;rcases d with d | ⟨c,f,j,d,m⟩
 ·exact .inl (k _ _ g.symm d)
 ·by_cases e:c=X
  ·obtain⟨o',B⟩:=nx j (e▸m);exact .inr ⟨c,f,o',k _ _ g.symm d,e▸B⟩
  ·exact .inr ⟨c,f,j,k _ _ g.symm d,k _ _ e m⟩
theorem jcA{R:Result->Shared->Prop}(hh:A.handled=none){D:Addr}(d:ZipApart z TI TO j1 j2 l t)(M:D≠z)(n2:D≠TI)(N:D≠TO)(O:D≠j1)(P:D≠j2)(n6:D≠l)(n7:D≠t){ps:List (K×Value)}(B:us.size=ps.length)
  (hp:∀(j:Nat) (u:Value),us[j]?=some u->∃ kv,ps[j]?=some kv/\knd.is kv.1 u=true/\vs[j]?=some kv.2):∀(k i:Nat) (s:Shared) (kvs:List (K×Value)),
  us.size - i=k->i<=us.size->ZS z TI TO j1 j2 l t i s.heap->s.heap.IsList l us->s.heap.IsTuple t vs->s.heap.DictOf knd D kvs->kvs.length+k<=100000 ->
  (∀ h' tk,h'.DictOf knd D ((ps.drop i).foldl (λa kv=>stored a kv.1 kv.2) kvs)->(∀ b o,b≠z->b≠TO->b≠j1->b≠j2->b≠D->s.heap.get? b=some o->h'.get? b=some o)->R (.ok (.ret .none)) { s with heap:=h',toks:=tk }) ->
  codeAny (model prog w) A (.builtin "dict.update.loop" ⟨[.ref D,.ref z,rawInt i,.none],[]⟩) R s:=by
 intro k
 induction k with
 | zero =>
  intro i s kvs hk hi g J Q hd hz S;have T:i=us.size:=by omega
  subst T;refine codeAny_builtin F.entry_dict_loop ?_;rw[Around.under_plainId F.plain_dict_loop _];show wpAny _ A.in1 (pyNext (.ref z) >>= _) _ _ s;refine L1 (jiI (A:=A.in1) hh d g J (by simp) λh' c=>?_);have fin:=S h' s.toks (by rw[B,List.drop_length];exact hd.at λo e=>c D o M N O P e) (λb o n p x y _ e=>c b o n p x y e);unfold Builtin.Dict.addKeywords
  repeat (any_goals (first | assumption | wp_step))
 | succ k ih =>
  intro i s kvs hk hi g J Q hd hz S;have h:i < us.size:=by omega
  obtain⟨kv,C,E,G⟩:=hp i us[i] (by simp[h]);refine codeAny_builtin F.entry_dict_loop ?_;rw[Around.under_plainId F.plain_dict_loop _];show wpAny _ A.in1 (pyNext (.ref z) >>= _) _ _ s;refine L1 (jhV (A:=A.in1) d g J Q (u:=us[i]) (v:=kv.2) (by simp[h]) G λh' H hT c=>?_);have U:h'.DictOf knd D kvs:=hd.at λo e=>c D o M N O P e;refine L1 (wpAny_holding ?_);refine L1 (wpAny_tryCatch (Qj (s:={ s with heap:=h' }) hT rfl rfl ?_));show wpAny _ _ (holding [us[i],kv.2] (dictSet D us[i] kv.2)) _ _ _;have hsz:sizeLine=16777216:=by decide
  refine wpAny_holding (wpAny_dictSet_pairs E U (λm f hs=>?_) (by omega));refine M6 ⟨plainId_quiet F.plain_dict_loop _,?_⟩;have V:ps.drop i=kv::ps.drop (i+1):=by
   have I:i < ps.length:=by omega
   rw[List.drop_eq_getElem_cons I];have:ps[i]=kv:=by
    rw[X8 I] at C;exact X6 C
   rw[this]
  have W:∀ b o,b≠z->b≠TO->b≠j1->b≠j2->b≠D->s.heap.get? b=some o->m.get? b=some o:=λb o n p x y L e=>(hs.2 b L).trans (c b o n p x y e);have Y:m.IsList l us:=by
   obtain⟨o,e,r⟩:=J;exact⟨o,W l o d.l1z d.l1TO d.l1i1 d.l1i2 n6.symm e,r⟩
  have Z:m.IsTuple t vs:=by
   obtain⟨o,e,r⟩:=Q;exact⟨o,W t o d.l2z d.l2TO d.l2i1 d.l2i2 n7.symm e,r⟩
  refine ih (i+1) _ (stored kvs kv.1 kv.2) (by omega) h (H.keep (X:=D) (λb o hb e=>(hs.2 b hb).trans e) M n2 N O P (λo _=>?_)) Y Z f ?_ λh3 tk3 hd3 hk3=>?_
  ·obtain⟨q,_,_,e,_⟩:=f;exact⟨q,e⟩
  ·have:=stored_length_le kvs kv.1 kv.2;omega
  ·refine S h3 tk3 ?_ λb o n p x y L e=>hk3 b o n p x y L (W b o n p x y L e);rw[V,X1];exact hd3
end
section
variable {prog:Program}{w:World}{K:Type} [DecidableEq K] {knd:KeyKind prog w K}{A:Around}{E:Value->Shared->Prop}{s:Shared}{z TI TO j1 j2 l t:Addr}{us vs:Array Value}
theorem wB{ps:List (K×Value)}{Q:Value->Shared->Prop}(r:A.handled=none)(H:ZipApart z TI TO j1 j2 l t)(k:IsZip s.heap z TI TO .none)(qI:IsPair s.heap TI (.ref j1) (.ref j2))(v:IsPair s.heap TO .none .none)(I:s.heap.IsListIter j1 l 0)(q2:s.heap.IsTupleIter j2 t 0)(J:s.heap.IsList l us)(L:s.heap.IsTuple t vs)(f:us.size=ps.length)
  (M:∀(j:Nat) (u:Value),us[j]?=some u->∃ kv,ps[j]?=some kv/\knd.is kv.1 u=true/\vs[j]?=some kv.2) (hz:ps.length<=100000)
  (h:∀ h' tk,h'.DictOf knd s.heap.objs.size (ps.foldl (λa kv=>stored a kv.1 kv.2) [])->(∀ b o,b≠z->b≠TO->b≠j1->b≠j2->s.heap.get? b=some o->h'.get? b=some o)->Q (.ref s.heap.objs.size) { s with heap:=h',toks:=tk }) :
  wpAny (model prog w) A (call (.type "dict") [.ref z]) Q E s:=by
 refine callType_codes (Q₁:=λobj x=>obj=.ref s.heap.objs.size/\x={ s with heap:=s.heap.push { cls:=.type "dict",data:=.dict #[] } }) F.kt_called_dict (F.kt_typeCall_dict_1 _) F.entry_dict_init (kt_code_dict_new _ ⟨rfl,rfl⟩) ?_;rintro obj x ⟨rfl,rfl⟩;have c:(s.heap.push { cls:=.type "dict",data:=.dict #[] }).DictOf knd s.heap.objs.size []:=Heap.DictOf.new s.heap;refine⟨c.typeIs,F.args_dict_init_2 _ _,?_⟩;have g:(s.heap.push { cls:=.type "dict",data:=.dict #[] }).get? z=_:=L7 _ k;unfold Builtin.«dict.__init__»;refine L1 ?_;unfold Builtin.Dict.selfAndRest;refine L1 (wpAny_notOrdered_dict c.typeIs ?_);show wpAny _ _ (pure (s.heap.objs.size,[Value.ref z])) _ _ _;refine M6 ?_;show wpAny _ _ (Builtin.Dict.updateFrom "dict.__init__" s.heap.objs.size (.ref z) [] .none) _ _ _;unfold Builtin.Dict.updateFrom;refine L1 (wpAny_typeOf (T:="zip") ⟨_,g,rfl⟩ ?_);rw[if_pos (by decide)];refine L1 ?_;refine jcy ?_ g λy N i=>?_
 ·exact r
 ·rw[if_pos (show(Option.isNone (none:Option Value))=true from rfl)];refine L1 (wpAny_rule ?_);have d:∀ b o,s.heap.get? b=some o->y.get? b=some o:=λb o e=>i b o (L7 _ e);refine L1 (PySem.wpAny_pyIter_zip (s:=⟨y,s.gens,s.drawn,N,s.os⟩) (d _ _ k) ?_);have lt:∀{b o},s.heap.get? b=some o->s.heap.objs.size≠b:=λe q=>by have:=N0 e;rw[<- q] at this;exact Nat.lt_irrefl _ this
  obtain⟨O,B,P⟩:=I;obtain⟨R,C,S⟩:=q2;obtain⟨U,D,V⟩:=J;obtain⟨W,G,X⟩:=L;refine M6 ⟨plainId_quiet F.plain_dict_loop _,?_⟩;refine jcA (A:=A.in1) (knd:=knd) (show A.in1.handled=none from r) H (lt k) (lt qI) (lt v) (lt B) (lt C) (lt D) (lt G) f M us.size 0 _ [] (by omega) (U6 _) ⟨d _ _ qI,⟨_,_,d _ _ v⟩,⟨O,d _ _ B,P⟩,⟨R,d _ _ C,S⟩,.inl (d _ _ k)⟩ ⟨U,d _ _ D,V⟩ ⟨W,d _ _ G,X⟩ ?_ (by simp;omega) λY m n p=>?_
  ·exact c.at λo e=>i _ o e
  ·refine⟨rfl,h Y m n λb o Z b2 b3 b4 e=>p b o Z b2 b3 b4 (lt e).symm (d b o e)⟩
end
def jhY(K:PySem.W.Frag):List V->Hp->VK->Prop:=λxs H Q=>∃(l t:Addr) (ys:List V) (ps:List (Key×V)),xs=[.ref l,.ref t]/\SqL K H l (ps.map λkv=>kV kv.1)/\SqT K H t ys/\(∀(j:Nat) (kv:Key×V),ps[j]?=some kv->ys[j]?=some kv.2)/\ps.length<=100000/\∀ D,H D=none->Q (.ref D) (upd H D (.dK (ps.foldl (λa kv=>Kx a kv.1 kv.2) [])))
theorem jgV  : ∀{ps:List (Key×V)}{us:List Value}{ys:List V}{vs:List Value},Vals (ps.map λkv=>kV kv.1) us->Vals ys vs->(∀(j:Nat) (kv:Key×V),ps[j]?=some kv->ys[j]?=some kv.2) ->
  ∃ qs:List (Key×Value),KV ps qs/\us.length=qs.length/\∀(j:Nat) (u:Value),us[j]?=some u->∃ kv,qs[j]?=some kv/\(yx P w).is kv.1 u=true/\vs[j]?=some kv.2
 | [],us,ys,vs,a,b,h=>by
  cases a;exact⟨[],.nil,rfl,λj u e=>by simp at e⟩
 | kv::ps,us,ys,vs,a,b,h=>by
  rw[L4] at a;cases a with
  | cons d f =>
   rename_i u g;have c:=h 0 kv rfl;cases b with
   | nil=>cases c
   | cons i l =>
    rename_i y v m n;cases c;obtain⟨qs,r,o,q⟩:=jgV f l λj k e=>by simpa using h (j+1) k (by simpa using e)
    refine⟨(kv.1,v)::qs,.cons ⟨rfl,i⟩ r,by simp[o],λj w e=>?_⟩;cases j with
    | zero=>cases e;exact⟨_,rfl,jbc d,rfl⟩
    | succ j=>exact q j w (by simpa using e)
theorem ji5{X:Cx}(Z:X.calm=true)(hg:Gl X "dict")(hm:X.mg "dict" = none)(F:Gl X "zip")(G:X.mg "zip" = none)(ha:PA X [a,b] ta)
  (he:starEach [.Call (.Name "zip" p2) [a,b] [] pos2] X.env=(false,eval (.Call (.Name "zip" p2) [a,b] [] pos2) X.env)::starEach [] X.env:=by rfl)
  (J:(backTo pos (starEach [] X.env)).any (·.1)=false:=by rfl)
  (L:backTo pos (starEach [.Call (.Name "zip" p2) [a,b] [] pos2] X.env)=[(false,eval (.Call (.Name "zip" p2) [a,b] [] pos2) X.env)]:=by rfl)
  (hs:starEach [a,b] X.env=[(false,eval a X.env),(false,eval b X.env)]:=by rfl) (l:starEach [b] X.env=[(false,eval b X.env)]:=by rfl) :
  PE X (.Call (.Name "dict" p) [.Call (.Name "zip" p2) [a,b] [] pos2] [] pos) (tCB (jhY X.K) ta):=by
 intro m s σ H Q I h;refine wpAny_Call_Name_kw (VW I hg hm (show bootBuiltins "dict" = some (.type "dict") by decide +kernel) ?_ (by decide) (by decide));refine PyProof.Rows.callWith_type1 ?_ he J;rw[L];refine Calls.spliced_cons (wpAny_Call_Name_kw (VW I F G (show bootBuiltins "zip" = some (.type "zip") by decide +kernel) ?_ (by decide) (by decide)));refine PyProof.Rows.callWith_type1 (thn (ha pos2 m s σ H _ I h) λus c ⟨vs,H1,k,r1,q1⟩=>?_) (by rw[hs,l]) (by rw[l];rfl);obtain⟨M,l2,ys,ps,rfl,N,O,R,hz,q⟩:=q1;obtain⟨u,v,rfl,ru,rv⟩:=r1.two;cases ru;cases rv;obtain⟨t,S,d,hz1⟩:=k.list N;obtain⟨x,T,f,y⟩:=k.tuple O;have A:M < c.heap.objs.size:=by
  obtain⟨o,_,e,_⟩:=d;exact N0 e
 have B:l2 < c.heap.objs.size:=by
  obtain⟨o,e,_⟩:=id f;exact N0 e
 obtain⟨qs,rel,hl,U⟩:=jgV (P:=X.prog) (w:=X.w) S T R;refine jfe d.isList f λg Y a2 a3 a4 a5 D=>Calls.spliced_nil ?_;have kl:∀ b o,c.heap.get? b=some o->g.get? b=some o:=D;have w1:g.IsList M t.toArray:=by
  obtain⟨o,e,r⟩:=d.isList;exact⟨o,D _ _ e,r⟩
 have w2:g.IsTuple l2 x.toArray:=by
  obtain⟨o,e,r⟩:=f;exact⟨o,D _ _ e,r⟩
 have i:c.heap.objs.size<=g.objs.size:=N8 (Nat.le_add_right _ 4) (Nat.le_of_lt (N0 Y));refine wB (s:={ c with heap:=g }) (knd:=yx X.prog X.w) (k.ok.hd Z) (jfn _ M l2 A B) Y a2 a3 a4 a5 w1 w2 (by rw[N4];exact hl) (λj u e=>by obtain⟨E,e1,e2,e3⟩:=U j u (by simpa using e);exact⟨E,e1,e2,by simpa using e3⟩) (by rw[<- rel.length];exact hz) λh' tk hd W=>?_;have C:=wz rel (.nil:KV ([]:List (Key×V)) []);have y:=jbd (ps:=ps) (qs:=[]);have hsl:sizeLine=16777216:=by decide
 have ne:∀{b:Addr}{o:Obj}(n:Nat),c.heap.get? b=some o->b≠c.heap.objs.size+n:=λn e q=>absurd (N0 e) (by rw[q];exact Nat.not_lt.mpr (Nat.le_add_right _ _));refine⟨.ref g.objs.size,_,k.laid (a:=g.objs.size) (o:=.dK (ps.foldl (λa E=>Kx a E.1 E.2) [])) (t':=tk) (λb o e=>W b o (ne 4 e) (ne 3 e) (ne 0 e) (ne 1 e) (D b o e)) i (jby (by simp at y;omega) (U3.mpr (λz=>?_)) C hd),rfl,q _ (k.hok.fresh i)⟩;exact absurd z (Nat.ne_of_gt (U5 k.big i))
end L2
namespace QD
open PySem L2 PySem.Spec PyProof.Rows
noncomputable def zpD:List D->List D->Option (List (KA×D))
 | [],_=>some []
 | k::l,v::m=>(Jm k).bind λa=>(zpD l m).bind λr=>some ((a,v)::r)
 | _::_,[]=>none
noncomputable def xR:List D->Option D
 | [.lst _ l,.tup m]=>(zpD l m).bind λps=>bif frzs (ps.map (·.2))&&lim ps.length then some (.dK true (Vn ps).1 (Vn ps).2) else none
 | _=>none
@[simp] theorem jdC(o:Bool)(l m:List D):xR [.lst o l,.tup m]=(zpD l m).bind λps=>bif frzs (ps.map (·.2))&&lim ps.length then some (.dK true (Vn ps).1 (Vn ps).2) else none:=rfl
theorem jdh:∀{l m:List D}{ps:List (KA×D)}{xs ys:List V}{O P:List Addr},zpD l m=some ps->Reps R Z H l xs O->Reps R Z H m ys P->frzs (ps.map (·.2))=true ->
  ∃ ws:List V,Reps R Z H (ps.map (·.2)) ws []/\xs=((ps.map λp=>kaV p.1).zip ws).map (λkv=>kV kv.1)/\∀(j:Nat) (kv:Key×V),((ps.map λp=>kaV p.1).zip ws)[j]?=some kv->ys[j]?=some kv.2
 | [],m,ps,xs,ys,O,P,e,b,d,c=>by
  cases e;rw[Reps] at b;obtain⟨rfl,_⟩:=b;exact⟨[],.empty,rfl,λj kv f=>by simp at f⟩
 | k::l,[],ps,xs,ys,O,P,e,b,d,c=>by cases e
 | k::l,v::m,ps,xs,ys,O,P,e,b,d,c=>by
  rw[zpD] at e;cases e1:Jm k with
  | none=>rw[e1] at e;cases e
  | some a =>
   rw[e1,L3] at e;cases e2:zpD l m with
   | none=>rw[e2] at e;cases e
   | some o =>
    rw[e2] at e;cases e;rw[Reps] at b d;obtain⟨y,r,O1,O2,rfl,rfl,s,g⟩:=b;obtain⟨t,u,P1,P2,rfl,rfl,n,h⟩:=d;rw[L4,Qd,L9] at c;obtain⟨ws,i,w,q⟩:=jdh e2 g h c.2;obtain⟨rfl,_⟩:=Ja e1 s;have x:=n.nil c.1;subst x;refine⟨t::ws,Reps.cons (O:=[]) (P:=[]) n i,by rw[L4,U8,L4,<- w],λj kv f=>?_⟩;cases j with
    | zero=>cases f;rfl
    | succ j=>exact q j kv (by simpa using f)
theorem jhs:BC R (jhY R.K) xR:=by
 intro Z H y d J O z r e Q k
 match y,e,r with
 | [.lst o l,.tup m],e,r =>
  simp only[xR] at e;cases e1:zpD l m with
  | none=>rw[e1] at e;cases e
  | some c =>
   rw[e1,L3] at e;cases hm:frzs (c.map (·.2))&&lim c.length with
   | false=>rw[hm] at e;cases e
   | true =>
    rw[hm] at e;cases e;rw[L9] at hm;obtain⟨v,u,P1,P2,rfl,rfl,A,n⟩:=r.two_of;obtain⟨p,L,M,rfl,B,C⟩:=A.lst_of;rw[Rep] at n;obtain⟨t,E,rfl,F,rt⟩:=n;obtain⟨s,b,f,q⟩:=jdh e1 C rt hm.1;obtain⟨g,G,I,i⟩:=KL (ks:=[]) (l:=[]) (us:=[]) b .empty rfl;have j:s.length=c.length:=by rw[b.length];simp
    refine⟨p,t,E,(c.map λp=>kaV p.1).zip s,rfl,by rw[<- f];exact B.sq,F.sq,q,by simp[j];exact X5 hm.2,λD w=>?_⟩;refine k (Go.newO (wf0 z) w) ?_;have ne:∀ a,H a≠none->a≠D:=λa h e=>h (e▸w);rw[Rep];exact⟨D,g,[],rfl,G.frame (λa z=>z) (λa h=>jm (ne a (z a h))) (λa h=>(nomatch h)),i,by show upd H D _ D=some _;rw[jD];exact congrArg (λx=>some (HO.dK x)) I.symm,rfl⟩
theorem jd5{cl:Nat->Addr}{X:Cx}{a b:Expr}{tr:TA}{pr:PAf}{p p2 pos pos2:Pos}(i:X.calm=true)(j:X.mg "dict" = none)(c:X.mg "zip" = none)(h:QBs cl X [a,b] tr pr)(k:Gl X "dict":=by rfl)(d:Gl X "zip":=by rfl)
  (l:starEach [.Call (.Name "zip" p2) [a,b] [] pos2] X.env=(false,eval (.Call (.Name "zip" p2) [a,b] [] pos2) X.env)::starEach [] X.env:=by rfl)
  (e:(backTo pos (starEach [] X.env)).any (·.1)=false:=by rfl)
  (f:backTo pos (starEach [.Call (.Name "zip" p2) [a,b] [] pos2] X.env)=[(false,eval (.Call (.Name "zip" p2) [a,b] [] pos2) X.env)]:=by rfl)
  (m:starEach [a,b] X.env=[(false,eval a X.env),(false,eval b X.env)]:=by rfl) (g:starEach [b] X.env=[(false,eval b X.env)]:=by rfl) :
  QP cl X (.Call (.Name "dict" p) [.Call (.Name "zip" p2) [a,b] [] pos2] [] pos) (tCB (jhY X.K) tr) (pCB xR pr):=⟨ji5 i k j d c h.sem l e f m g,jiT jhs h.den⟩
end QD
namespace L2
open PySem PySem.Spec PyProof.Rows
theorem jdb  (m:A.handled=none) (j t:Addr) (d:t≠j) (a:Array Value) :
  Draws prog w A j [j,t] a.size (λi v=>a[i]?=some v) (λi h=>h.IsTupleIter j t i/\h.IsTuple t a) where
 live:=λ_ _ c=>let ⟨o,ho,_⟩:=c.1;⟨o,ho⟩
 frame:=λ_ _ _ c e=>by
  obtain⟨⟨f,n,q⟩,g,r,u⟩:=c;exact⟨⟨f,e j (by simp) f n,q⟩,g,e t (by simp) g r,u⟩
 item:=λi s Q E l c x=>by
  refine wJ c.1 c.2 (y:=a[i]) (by simp[l]) λk p b=>?_;exact x _ k s.toks (by simp[l]) ⟨p,c.2.extBut b.extBut d⟩ b
 done:=λs Q E c z=>jeG m c.1 c.2 (by simp) z
theorem jfo(l:Addr)(a:Array Value):Meets (Builtin.«enumerate.__new__» ⟨[.type "enumerate",.ref l],[]⟩) (λ_ R s=>s.heap.IsTuple l a/\(∃ o,s.heap.get? l=some o) /\
   R (.ok (.ret (.ref (s.heap.push { cls:=.type "tuple_iterator",data:=.fields #[.ref l,.int 0 0] }).objs.size)))
    { s with heap:=(s.heap.push { cls:=.type "tuple_iterator",data:=.fields #[.ref l,.int 0 0] }).push { cls:=.type "enumerate",data:=.fields #[.none,.bool false,.ref s.heap.objs.size,rawInt 0,.none,.none] } }) :=
 .of_wp λprog w A R s h=>by
  obtain⟨i,g,d,j,os⟩:=s;obtain⟨e,⟨o,b⟩,h⟩:=h;have f:=sub_enumerate
  wp_walk using AutoSeq1.wpAny_loadPart' b
  refine wpAny_stack_any λk=>M6 ?_;split
  ·rename_i c _ _ _ _ _;cases(c==Value.type "enumerate")<;>(wp_walk using AutoSeq1.wpAny_loadPart' b,wpAny_pyIter_tuple e)<;>exact⟨_,rfl,h⟩
  ·wp_walk using AutoSeq1.wpAny_loadPart' b,wpAny_pyIter_tuple e
   exact⟨_,rfl,h⟩
theorem jga  (d:s.heap.IsTuple l vals)
  (h:∀ k,IsEnum k (s.heap.objs.size+1) s.heap.objs.size 0 .none->k.IsTupleIter s.heap.objs.size l 0->(∀ b o,s.heap.get? b=some o->k.get? b=some o)->Q (.ref (s.heap.objs.size+1)) { s with heap:=k }) :
  wpAny (model prog w) A (call (.type "enumerate") [.ref l]) Q E s:=by
 obtain⟨o,f,_⟩:=id d;refine callType_new F.called_enumerate (by decide) (F.typeCall_enumerate_1 _) (F.newCall_enumerate_1 _) (λobj=>F.args_object_init_2 obj _) F.entry_enumerate_new (jfo l vals) ⟨d,⟨o,f⟩,?_⟩;generalize a:s.heap.push { cls:=.type "tuple_iterator",data:=.fields #[.ref l,.int 0 0] }=k1;have g:k1.objs.size=s.heap.objs.size+1:=by rw[<- a];exact Heap.size_push ..
 have i:k1.IsTupleIter s.heap.objs.size l 0:=by rw[<- a];exact⟨_,E1 _ rfl,rfl,rfl⟩
 have j:∀ b o,s.heap.get? b=some o->k1.get? b=some o:=λb o e=>by rw[<- a];exact L7 _ e
 have c:=E1 k1 (o:={ cls:=.type "enumerate",data:=.fields #[.none,.bool false,.ref s.heap.objs.size,rawInt 0,.none,.none] }) rfl;show _/\_;rw[g] at c ⊢;obtain⟨x,y,r⟩:=i;exact⟨⟨_,c,rfl⟩,h _ c ⟨x,L7 _ y,r⟩ λb o e=>L7 _ (j b o e)⟩
theorem jiz  (a:A.handled=none) (q:IsEnum s.heap e it n old) (c:s.heap.IsTupleIter it l i) (d:s.heap.IsTuple l vals) (f:vals[i]?=none)
  (go:∀ k,Heap.ExtBut it s.heap k->Q none { s with heap:=k }):wpAny (model prog w) A (pyNext (.ref e)) Q E s:=by
 have ty:s.TypeIs (.ref e) "enumerate":=⟨_,q,rfl⟩;unfold pyNext;refine L1 (wpAny_attempt (wpAny_callSpecial?_slot (name:=Str.ofString "__next__") ty F.slot_enumerate_next (wpAny_call_entry F.slot_enumerate_next ty F.entry_enumerate_next ?_ (F.args_enumerate_next_1 _))));show wpAny (model prog w) _ (field (.ref e) 2 >>= _) _ _ _;refine L1 (U7 q rfl (x:=.ref it) rfl (L1 (jeG (A:=A.in1) a c d f λk x kp g=>?_)));obtain⟨o,h,j⟩:=g;exact L1 (wpAny_isInstance (T:="StopIteration") (b:=true) ⟨o,h,j⟩ isSubtype_stop (M6 (go _ kp)))
noncomputable def jnb(K:PySem.W.Frag)(l:Addr):It :=
 ⟨λi H=>∃ xs x,SqT K H l xs/\xs[i]?=some x,λi H x H'=>∃ p v,(∀ xs,SqT K H l xs->xs[i]?=some v)/\x=.ref p/\H p=none/\H'=upd H p (.tup [.int i,v]),λi H=>∃ xs,SqT K H l xs/\xs.length<=i⟩
theorem jfF{P:Program}{w:World}{K:PySem.W.Frag}{y:List Expr}{n:Nat}{pos:Pos}(e it l:Addr)(m:e≠it)(M:l≠e)(N:l≠it) :
  Turn P w K (.Tuple y n pos) (jnb K l) [e,it] e (λi h=>(∃ old,IsEnum h e it i old)/\h.IsTupleIter it l i) where
 mem:=by simp
 obj:=λi h c b d=>by
  obtain⟨⟨old,g⟩,o,B,F,hd⟩:=c;rcases(by simpa using d:b=e \/ b=it) with z | z
  ·subst z;exact⟨_,g,λv q=>by cases q⟩
  ·subst z;exact⟨o,B,λv q=>by rw[hd] at q;cases q⟩
 keep:=λi h h' c k=>by
  obtain⟨⟨old,g⟩,o,B,r⟩:=c;exact⟨⟨old,k e (by simp) _ g⟩,o,k it (by simp) o B,r⟩
 item:=by
  intro X O Q R F i C s σ H E I G c S;subst O Q R;obtain⟨xs,x,J,U⟩:=S;obtain⟨its,V,p,hz⟩:=I.tuple J;obtain⟨u,hu,ru⟩:=V.get U;obtain⟨⟨old,g⟩,f⟩:=c;have Y:i < its.toArray.size:=by rw[N4];exact(L8.mp hu).1
  refine wpAny_pyNext_enum_itemD (jdb (prog:=X.prog) (w:=X.w) (A:=X.A.in1) (show X.A.in1.handled=none from I.ok.hd F) it l N its.toArray) g ⟨f,p⟩ Y m (by simpa using⟨m,M.symm⟩) λv Z tk hv B hst hT hsz hk=>?_;have hvu:v=u:=by
   have:its[i]?=some v:=by simpa using hv
   rw[hu] at this;exact(X6 this).symm
  subst hvu;refine⟨_,rfl,wpAny_letOwnedTupleGo_enum (s:={ s with heap:=Z,toks:=tk+1 }) B λL he2 a=>?_⟩;replace a:Heap.SameBut e Z L:=a;have j:e < s.heap.objs.size:=N0 g;have D:L.get? s.heap.objs.size=_:=(a.2 _ (Nat.ne_of_gt j)).trans hT;have kk:∀ b o,b∉[e,it]->s.heap.get? b=some o->L.get? b=some o:=λb o d q=>by
   have t:b≠e/\b≠it:=by simpa using d
   exact(a.2 b t.1).trans (hk b o t.1 t.2 q)
  have I1:=I.turnedNew (h':=L) (t':=tk+1) (wr:=[e,it]) (T:=s.heap.objs.size) (xs:=[.int i,x]) (its:=#[.int i tk,v]) kk G (M8 _) ⟨⟨_,D,rfl,_,rfl⟩,_,D,rfl⟩ (.cons ⟨_,rfl⟩ (.cons ru .nil)) (by show 2<=sizeLine;decide);obtain⟨oi,ei,ri⟩:=hst.1;refine⟨.ref s.heap.objs.size,_,I1,rfl,⟨_,x,(λys hy=>by rw[I.tuple_inj hy J];exact U),rfl,I.hok.fresh (M8 _),rfl⟩,⟨⟨_,by simpa using he2⟩,oi,(a.2 it m.symm).trans ei,ri⟩,λb d=>?_⟩;rw[jm]
  ·exact(G b d).1
  ·intro z;have:b < s.heap.objs.size:=by
    obtain⟨oi,hoi,_⟩:=id f;rcases(by simpa using d:b=e \/ b=it) with q | q
    ·rw[q];exact j
    ·rw[q];exact N0 hoi
   exact absurd this (by rw[z];exact Nat.lt_irrefl _)
 done:=by
  intro X O Q R F i C s σ H E I G c S;subst O Q R;obtain⟨xs,J,U⟩:=S;obtain⟨its,V,p,hz⟩:=I.tuple J;obtain⟨⟨old,g⟩,f⟩:=c;have hl:=V.length;exact jiz (I.ok.hd F) g f p (by simp;omega) λZ eb=>⟨rfl,I.turnedL (t':=s.toks) (wr:=[e,it]) (λb o d q=>eb b o (by simp at d;exact d.2) q) G⟩
 self:=λ_ _ _ _ _ c h=>wpAny_pyIter_enum c.1.choose_spec h
noncomputable def jmG(K:PySem.W.Frag)(tl:TA):TI:=λσ H R=>tl σ H λvs H1=>∃ a xs,vs=[.ref a]/\SqT K H1 a xs/\R (jnb K a) H1
theorem jkc{X:Cx}{f:List Expr}{n:Nat}{tpos p pos:Pos}{a:Expr}{ta:TA}(w:Gl X "enumerate")(x:X.mg "enumerate" = none)(y:PA X [a] ta)(A:starEach [a] X.env=[(false,eval a X.env)]:=by rfl) :
  PI X (.Tuple f n tpos) (.Call (.Name "enumerate" p) [a] [] pos) (jmG X.K ta):=by
 intro d s σ H R I h;refine Call_ (VW I w x (show bootBuiltins "enumerate" = some (.type "enumerate") by decide +kernel) (PyProof.Rows.callWith_type1 (thn (y pos d s σ H _ I h) λM c ⟨N,m,j,B,C⟩=>?_) A rfl));obtain⟨l,O,rfl,D,q⟩:=C;obtain⟨u,rfl,E⟩:=B.one;cases E;obtain⟨F,P,r,Q⟩:=j.tuple D;have g:l < c.heap.objs.size:=by
  obtain⟨o,e,_⟩:=id r;exact N0 e
 refine jga r λt v k G=>?_;have J:Inv X d σ m { c with heap:=t }:=j.kept (t':=c.toks) G;refine PySem.wpAny_pyIter_enum (s:={ c with heap:=t }) v ?_;refine⟨c.heap.objs.size+1,[c.heap.objs.size+1,c.heap.objs.size],_,_,m,rfl,J,jfF _ _ l (Nat.succ_ne_self _) (N7 (Nat.lt_succ_of_lt g)) (N7 g),⟨⟨_,v⟩,k⟩,λb L=>?_,q⟩;have i:c.heap.objs.size<=b:=by
  rcases(by simpa using L:b=c.heap.objs.size+1 \/ b=c.heap.objs.size) with z | z
  ·rw[z];exact Nat.le_succ _
  ·rw[z];exact M8 _
 exact j.fpOk i (j.hok.fresh i)
end L2
namespace QD
open PySem L2 PySem.Spec PyProof.Rows
noncomputable def jgv:List D->Option (List D)
 | [.tup l]=>bif frzs l then some (yA 0 l) else none
 | _=>none
noncomputable def jku(p:PAf):PAf:=λρ=>(p ρ).bind jgv
@[simp] theorem pEnT_e  : jku p ρ=(p ρ).bind jgv:=rfl
theorem jh3  (h:PPs R ta p):PIt R (jmG R.K ta) (jku p):=by
 intro σ ρ Z H O N z s e Q k;unfold jku at e;cases e1:p ρ with
 | none=>rw[e1] at e;cases e
 | some P =>
 rw[e1,L3] at e;unfold jgv at e;split at e
 ·rename_i l;cases hf:frzs l with
  | false=>rw[hf] at e;cases e
  | true =>
   rw[hf,cond_true] at e;cases e;refine h z s e1 λ{S T U P1} B C=>?_;obtain⟨v,rfl,c⟩:=C.one_of;have D:=c.nil (show frz (.tup l)=true from hf);subst D;rw[Rep] at c;obtain⟨a,b,rfl,j,E⟩:=c;refine⟨a,b,rfl,j.sq,k B ?_⟩;intro F G m n zd i;have d:=(j.frame m n).sq;have o:Reps R F G l b []:=E.frame m n λa I=>(nomatch I);refine⟨λr=>⟨b,d,by rw[o.length];rw[ki] at r;exact r⟩,λx J=>?_⟩;obtain⟨y,L,rfl⟩:=kQ 0 _ i x J;obtain⟨u,t,M⟩:=o.item L;refine⟨⟨b,u,d,t⟩,λw V f=>?_⟩;obtain⟨q,W,g,rfl,A,rfl⟩:=f;have:=g b d;rw[t] at this;cases this;refine⟨_,Go.newF (wf0 zd) A,?_⟩;have:=jbA (R:=R) (x:=.int i) (u:=.int i) zd A .int_mk M;simpa using this
 ·cases e
theorem jki  (b:X.mg "enumerate" = none) (h:QPs cl X [a] tr pr) (c:Gl X "enumerate":=by rfl) (d:starEach [a] X.env=[(false,eval a X.env)]:=by rfl):QI cl X (.Tuple elts n tpos) (.Call (.Name "enumerate" p) [a] [] pos) (jmG X.K tr) (jku pr):=⟨jkc c b h.sem d,jh3 h.den⟩
def qh(K:PySem.W.Frag)(mg:Str->Option Value)(x:Str)(st:Stmt)(ps:List Str):Prop:=∃ f fd,FnFact K mg x x st f fd ps
def jcR(K:PySem.W.Frag)(C:Addr)(x qual:Str)(st:Stmt)(ps:List Str):Prop:=∃ f fd,MtFact K C x qual st f fd ps
def OkF(P:Program)(w:World)(K:PySem.W.Frag)(mg:Str->Option Value)(x:Str)(st:Stmt)(k:Nat)(ps:List Str)(sp:Sp):Prop:=∃ f fd,FnFact K mg x x st f fd ps/\∀ base,FnOk P w K mg base CX0 k f fd ps sp
def OkM(P:Program)(w:World)(K:PySem.W.Frag)(mg:Str->Option Value)(C:Addr)(x qual:Str)(st:Stmt)(k:Nat)(ps:List Str)(sp:Sp):Prop:=∃ f fd,MtFact K C x qual st f fd ps/\∀ base,FnOk P w K mg base CX0 k f fd ps sp
section
variable {K:PySem.W.Frag}{mg:Str->Option Value}{h:Heap}{x qual:Str}{st:Stmt}{ps:List Str}{a C:Addr}{od an:Option Addr}{sl:Array (Option Value)}{oc kV dc pm cd ct:Value}
theorem hasF(X:K.In h)(G:h.Ns mainGlobals mg)(e:PySem.W.nsIn K mainGlobals x=some (some (.ref a)))(b:K.lookup a=some ⟨oc,od,.func (PySem.W.fnOf x x (YS st) (qE st) (jp st) .none kV dc pm an cd ct),sl⟩)(c:PySem.W.codeIn K cd x=true)(d:PySem.W.keepIn K (.ref a)=true)
  (f:∀(kV doc pm:Value) (an:Option Addr) (cdv ct:Value) (us:List Value),us.length=ps.length->bindArgs (PySem.W.fnOf x x (YS st) (qE st) (jp st) .none kV doc pm an cdv ct) ⟨us,[]⟩=pure (ps.zip us)):qh K mg x st ps:=⟨_,_,jav b c d,PySem.W.mg_of X G e,(jav b c d).binds f⟩
theorem hasM(e:PySem.W.findIn K (.ref C) x=some (some (.ref a)))(f:PySem.W.isFn K (.ref a)=true)(c:K.lookup a=some ⟨oc,od,.func (PySem.W.fnOf x qual (YS st) (qE st) (jp st) .none kV dc pm an cd ct),sl⟩)(d:PySem.W.codeIn K cd qual=true)(b:PySem.W.keepIn K (.ref a)=true)
  (g:∀(kV doc pm:Value) (an:Option Addr) (cdv ct:Value) (us:List Value),us.length=ps.length->bindArgs (PySem.W.fnOf x qual (YS st) (qE st) (jp st) .none kV doc pm an cdv ct) ⟨us,[]⟩=pure (ps.zip us)):jcR K C x qual st ps:=⟨_,_,jav c d b,⟨e,f,b⟩,(jav c d b).binds g⟩
end
theorem fsc{N ps:List Str}{h:Scope}(a:h.kind=.function:=by rfl)(b:h.isCoroutine=false:=by rfl)(c:h.isGenerator=false:=by rfl)(d:N.Nodup:=by decide +kernel)(e:N.take ps.length=ps:=by rfl)
  (f:∀ x∈ps,h.names.lookup x=some .local \/ h.names.lookup x=some .cell:=by decide +kernel) (g:∀ y∈h.names,y.2≠.free:=by decide +kernel):FnScope N ps h:=⟨a,b,c,d,e,f,g⟩
theorem bkF{N ps:List Str}{a:Scope}(_:FnScope N ps a){X:Cx}{scope:Scope}{ix:List (Option Nat)}(N':List Str)(h1:X.env.scope=a:=by rfl)(h2:X.N=N:=by rfl)(h:um a N scope N' ix=true:=by decide +kernel):BlockOk X scope N' ix:=jiN a N h1 h2 h
section
variable {cl:Nat->Addr}{X:Cx}{pos:Pos}{x:Str}{scope:Scope}{N':List Str}{i:Nat}
theorem qS{j}{l:List Nat}(h:x=S l:=by decide +kernel):QP cl X (.Constant (.str x) j pos) (tC (.str x)) (pC (.str l)):=jmH l h
theorem cgN(a:N'.Nodup:=by decide +kernel)(hi:N'[i]?=some x:=by rfl)(b:∀ C s H fp,Loc (vc X scope N' C s H fp).env.scope x:=by first | exact λ_ _ _ _=>.inl rfl | exact λ_ _ _ _=>.inr rfl)
  (c:∀ C s H fp,(vc X scope N' C s H fp).fn x=true \/ (vc X scope N' C s H fp).env.scope.names.lookup x=some .local:=by first | exact λ_ _ _ _=>.inl rfl | exact λ_ _ _ _=>.inr rfl) :
  ∀ C s H fp,QG cl [] (vc X scope N' C s H fp) (.Name x pos) (zm i) (jk [] i):=λC s H fp=>jr a hi (b C s H fp) (c C s H fp)
theorem Q9:∀ C s H fp,QIf cl (vc X scope N' C s H fp) [] (λ_ H Q=>Q true H) qT:=λ_ _ _ _=>jf8
theorem qI{i:Int}{j}:QB cl X (.Constant (.int i) j pos) (tC (.int i)) (pC (.int i)):=QP.bb jd9
end
end QD
namespace K58
open PySem L2 QD
noncomputable def top(i:Nat):Stmt:=PySem.Challenge.pw_tranchefall_k58_steps_of_all_rules.main.body.getD i (.Pass ⟨0,0,0,0⟩)
noncomputable abbrev YA:Stmt:=top 1
noncomputable abbrev Yg:List Str:=["parts"]
theorem Q4:FnScope ["parts"] Yg (jp YA):=fsc
noncomputable abbrev qW:Stmt:=top 3
noncomputable abbrev qU:List Str:=["pool","name"]
theorem V1:FnScope ["pool","name","order"] qU (jp qW):=fsc
noncomputable abbrev JF:Stmt:=top 4
noncomputable abbrev Jp:List Str:=["pool","days_of"]
theorem qP:FnScope ["pool","days_of","claim","days","order"] Jp (jp JF):=fsc
noncomputable abbrev kI:Stmt:=top 6
noncomputable abbrev kF:List Str:=["pool"]
theorem vz:FnScope ["pool","greatest","claim","days","order"] kF (jp kI):=fsc
noncomputable abbrev yQ:Stmt:=Qf (top 10) 2
noncomputable abbrev yR:List Str:=["self","claim"]
theorem Yu:FnScope ["self","claim"] yR (jp yQ):=fsc
noncomputable abbrev kh:Stmt:=Qf (top 10) 3
noncomputable abbrev kc:List Str:=["self","rule"]
theorem kP:FnScope ["self","rule","kind","claim"] kc (jp kh):=fsc
noncomputable abbrev qL:Stmt:=top 12
noncomputable abbrev qJ:List Str:=["_law_script","_law_k"]
theorem xO:FnScope ["_law_script","_law_k"] qJ (jp qL):=fsc
noncomputable abbrev Yd:Stmt:=top 13
noncomputable abbrev Yz:List Str:=["_law_cell","_law_k"]
theorem QV:FnScope ["_law_cell","_law_k","_law_number"] Yz (jp Yd):=fsc
noncomputable abbrev qR:Stmt:=top 14
noncomputable abbrev qK:List Str:=["_law_number","_law_size"]
theorem vD:FnScope ["_law_number","_law_size","_law_some","_law_word","_law_k"] qK (jp qR):=fsc
noncomputable abbrev Yo:Stmt:=top 15
noncomputable abbrev Yt:List Str:=["_law_word"]
theorem YZ:FnScope ["_law_word","_law_some","_law_kept"] Yt (jp Yo):=fsc
noncomputable abbrev JD:Stmt:=top 17
noncomputable abbrev Ju:List Str:=["_law_m"]
theorem uf:FnScope ["_law_m"] Ju (jp JD):=fsc
noncomputable abbrev Yf:Stmt:=top 20
noncomputable abbrev Ym:List Str:=["_law_m","_law_claims","_law_orders_here","_law_most"]
theorem JK:FnScope ["_law_m","_law_claims","_law_orders_here","_law_most","_law_looks_here","_law_k","_law_n"] Ym (jp Yf):=fsc
noncomputable abbrev Js:Stmt:=top 21
noncomputable abbrev Jr:List Str:=["_law_m","_law_claims","_law_pots","_law_orders_here"]
theorem yo:FnScope ["_law_m","_law_claims","_law_pots","_law_orders_here","_law_busy","_law_name","_law_parts","_law_rules","_law_rule_here","_law_guards_here","_law_k","_law_claim"] Jr (jp Js):=fsc
noncomputable abbrev YQ:Stmt:=top 25
noncomputable abbrev Yl:List Str:=["_law_pool_here","_law_outline"]
theorem kC:FnScope ["_law_pool_here","_law_outline","_law_days_running","_law_claim","_law_days","_law_name"] Yl (jp YQ):=fsc
noncomputable abbrev qr:Stmt:=top 26
noncomputable abbrev qo:List Str:=["_law_pool_here"]
theorem vn:FnScope ["_law_pool_here","_law_most","_law_claim","_law_days","_law_name"] qo (jp qr):=fsc
noncomputable abbrev Yv:Stmt:=top 27
noncomputable abbrev Yi:List Str:=["_law_rules","_law_kinds"]
theorem JI:FnScope ["_law_rules","_law_kinds","_law_names","_law_rule_here"] Yi (jp Yv):=fsc
noncomputable abbrev VM:Stmt:=top 7
noncomputable abbrev VO:List Str:=["pool","outline"]
theorem jbl:FnScope ["pool","outline"] VO (jp VM):=fsc
noncomputable abbrev y9:Stmt:=Qf (top 10) 0
noncomputable abbrev y8:List Str:=["self","pool","outline","killed"]
theorem yO:FnScope ["self","pool","outline","killed","claim"] y8 (jp y9):=fsc
noncomputable abbrev vL:Stmt:=Qf (top 10) 1
noncomputable abbrev vM:List Str:=["self","rule"]
theorem kq:FnScope ["self","rule","kind"] vM (jp vL):=fsc
noncomputable abbrev yu:Stmt:=Qf (top 10) 5
noncomputable abbrev yt:List Str:=["self","claim","days"]
theorem JT:FnScope ["self","claim","days"] yt (jp yu):=fsc
noncomputable abbrev Yr:Stmt:=top 16
noncomputable abbrev YD:List Str:=["_law_cell","_law_many","_law_longest"]
theorem yj:FnScope ["_law_cell","_law_many","_law_longest","_law_some","_law_number","_law_base","_law_size","_law_at","_law_words_here","_law_k","_law_sign","_law_word"] YD (jp Yr):=fsc
noncomputable abbrev Vt:Stmt:=top 18
noncomputable abbrev Vv:List Str:=["_law_m","_law_claims","_law_pots","_law_others"]
theorem vP:FnScope ["_law_m","_law_claims","_law_pots","_law_others","_law_kind","_law_rest","_law_claim","_law_many","_law_names"] Vv (jp Vt):=fsc
noncomputable abbrev Yc:Stmt:=top 28
noncomputable abbrev YC:List Str:=["_law_rule_here","_law_ahead","_law_living","_law_full"]
theorem Vq:FnScope ["_law_rule_here","_law_ahead","_law_living","_law_full","_law_paid"] YC (jp Yc):=fsc
noncomputable abbrev JE:Stmt:=top 29
noncomputable abbrev JM:List Str:=["_law_pool_here","_law_greatest_here","_law_outline","_law_filled","_law_living"]
theorem jU:FnScope ["_law_pool_here","_law_greatest_here","_law_outline","_law_filled","_law_living","_law_paid","_law_days_running","_law_k","_law_row","_law_missed","_law_gone","_law_alive","_law_full","_law_thirsty"] JM (jp JE):=fsc
noncomputable abbrev yd:Stmt:=Qf (top 10) 4
noncomputable abbrev yg:List Str:=["self"]
theorem jq:FnScope ["self","drawn","runs","alive","full"] yg (jp yd):=fsc
noncomputable abbrev JN:Stmt:=top 19
noncomputable abbrev Jq:List Str:=["_law_cells","_law_claims","_law_pots","_law_others","_law_words_here"]
theorem j8:FnScope ["_law_cells","_law_claims","_law_pots","_law_others","_law_words_here","_law_rows","_law_k","_law_cell","_law_m","_law_rest","_law_claim","_law_here","_law_tenths"] Jq (jp JN):=fsc
noncomputable abbrev KZ:Stmt:=top 30
noncomputable abbrev Qa:List Str:=["_law_pool_here","_law_greatest_here","_law_outline"]
theorem jP:FnScope ["_law_pool_here","_law_greatest_here","_law_outline","_law_name","_law_parts","_law_rules","_law_alive","_law_full","_law_eatable","_law_due_here","_law_kills","_law_living","_law_stops","_law_stop","_law_filled"] Qa (jp KZ):=fsc
noncomputable abbrev JO:Stmt:=top 9
noncomputable abbrev Jw:List Str:=["pool","order","outline","kills","killed"]
theorem kM:FnScope ["pool","order","outline","kills","killed","day","steps","cut","rule"] Jw (jp JO):=fsc
noncomputable abbrev VJ:Stmt:=top 22
noncomputable abbrev VA:List Str:=["_law_cells","_law_words_here","_law_ordered","_law_others","_law_most"]
theorem yc:FnScope ["_law_cells","_law_words_here","_law_ordered","_law_others","_law_most","_law_first","_law_second","_law_names","_law_pots","_law_orders_here","_law_claims","_law_k","_law_name","_law_eat","_law_looks_here","_law_marks"] VA (jp VJ):=fsc
noncomputable abbrev Vx:Stmt:=top 8
noncomputable abbrev VG:List Str:=["pool","outline"]
theorem vZ:FnScope ["pool","outline","order","alive","can_die","steps","kills"] VG (jp Vx):=fsc
noncomputable abbrev KC:Stmt:=top 23
noncomputable abbrev K6:List Str:=["_law_script","_law_most"]
theorem Qu:FnScope ["_law_script","_law_most","_law_words_here","_law_ordered"] K6 (jp KC):=fsc
noncomputable abbrev YJ:Stmt:=top 24
noncomputable abbrev Jf:List Str:=["_law_found","_law_due_here"]
theorem QY:FnScope ["_law_found","_law_due_here","_law_k"] Jf (jp YJ):=fsc
noncomputable abbrev u9:Stmt:=top 31
noncomputable abbrev jgu:List Str:=["_law_script"]
theorem JH:FnScope ["_law_script","_law_pool_here","_law_greatest_here","_law_k","_law_cell","_law_m","_law_days_running","_law_alive","_law_outline","_law_found","_law_due_here"] jgu (jp u9):=fsc
noncomputable def Ka:FS:=(km (dP (pCB jha (jc (yT (VP (pV 0)) (jk [] 0) qT (pF (p2 jn (pV 0) (pC (.int 1)))) [none]) pN))))
noncomputable def YG:List D->Option D:=fnP 1 Ka
noncomputable def vW:FS:=(sIf (dPT (js (p2 kS (p2 jn (pV 2) (pC (.int 0))) (pV 1)))) (km (dP (pF (pV 2))))
 yB)
noncomputable def Yn:FS:=(jR (KP (pIt (pF (p2 jn (pV 0) (pC (.int 4))))) (jk [] 2) vW)
 (km (dP (pC .non))))
noncomputable def kf:List D->Option D:=fnP 3 Yn
noncomputable def vB:FS:=(sIf (dPT (js (p2 jht (p2 yS (pV 1) (pV 2)) (pV 3)))) (km (dP (pF (pV 4))))
 yB)
noncomputable def Jv:FS:=(jR (KP (pIt (pF (p2 jn (pV 0) (pC (.int 5))))) (gT 3 (gC (jk [] 2) (gC (jk [] 3) (gC (jk [] 4) gN)))) vB)
 (km (dP (pF (p2 jn (p2 jn (p2 jn (pV 0) (pC (.int 4))) (pC (.int 0))) (pC (.int 0)))))))
noncomputable def kD:List D->Option D:=fnP 5 Jv
noncomputable def yJ:FS:=(jaR 1 (pV 2) (pCB jle (jc (p3 xF (pV 1) (pV 2) (pC (.int 0))) (jc (pV 3) pN))))
noncomputable def Ji:FS:=(jR (yz (dP (pC (.dK true [] []))) (jk [] 1))
 (jR (KP (pIt (pF (p2 jn (pV 0) (pC (.int 5))))) (gT 3 (gC (jk [] 2) (gC (jk [] 3) (gC (jk [] 4) gN)))) yJ)
 (km (dMv 1))))
noncomputable def vQ:List D->Option D:=fnP 5 Ji
noncomputable def vH:FS:=(km (dP (VX (p2 yS (Qb 0 "alive" (pV 0)) (pV 1)) (p2 (zQ true) (pV 1) (Qb 0 "served" (pV 0))))))
noncomputable def jo:List D->Option D:=fnP 2 vH
noncomputable def ko:FS:=(J8 0 (jaD 0 "served" jb0) (pV 3) (pC (.bl true)))
noncomputable def yG:FS:=(jR (yz (dP (pF (p2 jn (pV 1) (pC (.int 0))))) (jk [0] 2))
 (sIf (dPT (js (p2 kS (pV 2) (pC (.str [102,105,108,108]))))) (J8 0 (jaD 0 "full" jb0) (p2 jn (pV 1) (pC (.int 1))) (pC (.bl true)))
 (sIf (dPT (js (p2 kS (pV 2) (pC (.str [115,104,97,114,101]))))) (KP (pIt (pF (p2 jn (pV 1) (pC (.int 1))))) (jk [0] 3) ko)
 (jR (J8 0 (jaD 0 "served" jb0) (p2 jn (pV 1) (pC (.int 1))) (pC (.bl true)))
 (sIf (dPT (js (p2 kS (pV 2) (pC (.str [114,101,112,97,121]))))) (J8 0 (jaD 0 "repaid" jb0) (p2 jn (pV 1) (pC (.int 1))) (pC (.bl true)))
 yB)))))
noncomputable def jQ:List D->Option (D×D):=fnM 4 0 yG
noncomputable def qV:FS:=(jR (sIf (dPT (js (p2 jiJ (pV 1) (pCB ky (jc (pV 0) pN))))) (km (dP (pF (p2 jn (pV 0) (pV 1)))))
 yB)
 (km (dP (pC (.int 0)))))
noncomputable def yY:List D->Option D:=fnP 2 qV
noncomputable def V9:FS:=(jR (yz (dP (p2 jC (p2 vN (p2 jC (pV 0) (pC (.int 2147483647))) (p2 jH (pC (.int 69621)) (p2 vN (p2 vN (pC (.int 1511)) (pV 1)) (pV 1)))) (pC (.int 2147483629)))) (jk [] 2))
 (km (dP (p2 jC (p2 vN (p2 jH (pV 2) (pV 1)) (p2 jH (p2 jH (pV 2) (p2 vN (pC (.int 5)) (pV 1))) (pC (.int 1)))) (pC (.int 2147483587))))))
noncomputable def yk:List D->Option D:=fnP 3 V9
noncomputable def Je:FS:=(jR (yz (dP (p2 jH (pV 3) (p2 jn (pV 2) (p2 jC (pV 0) (pC (.int 26)))))) (jk [] 3))
 (yz (dP (p2 jY (pV 0) (pC (.int 26)))) (jk [] 0)))
noncomputable def YB:FS:=(jR (yz (dP (pC (.str [97,98,99,100,101,102,103,104,105,106,107,108,109,110,111,112,113,114,115,116,117,118,119,120,121,122]))) (jk [] 2))
 (jR (yz (dP (pC (.str []))) (jk [] 3))
 (jR (KP (YI (jc (pV 1) pN)) (jk [] 4) Je)
 (km (dP (pF (pV 3)))))))
noncomputable def vx:List D->Option D:=fnP 5 YB
noncomputable def qg:FS:=(jR (yz (dP (pC (.str [97,98,99,100,101,102,103,104,105,106,107,108,109,110,111,112,113,114,115,116,117,118,119,120,121,122]))) (jk [] 1))
 (jR (yz (dP (qX (jc (pC (.str [112,111,111,108])) (jc (pC (.str [99,108,97,105,109])) (jc (pC (.str [112,111,116])) (jc (pC (.str [101,97,116])) (jc (pC (.str [111,114,100,101,114])) (jc (pC (.str [112,97,114,116])) (jc (pC (.str [112,97,121])) (jc (pC (.str [115,104,97,114,101])) (jc (pC (.str [114,101,112,97,121])) (jc (pC (.str [102,105,108,108])) (jc (pC (.str [108,101,110,100])) (jc (pC (.str [98,97,99,107])) pN)))))))))))))) (jk [] 2))
 (jR (sIf (dPT (qOr (js (p2 (J6 false) (pV 0) (pV 2))) (js (p2 (J6 false) (pV 0) (qX (jc (pC (.str [114,101,115,116])) (jc (pC (.str [108,111,111,107])) (jc (pC (.str [103,117,97,114,100])) (jc (pC (.str [100,101,98,116])) (jc (pC (.str [111,110])) (jc (pC (.str [108,97,116,101])) (jc (pC (.str [101,97,114,108,121])) (jc (pC (.str [113,117,105,116])) pN))))))))))))) (km (dP (p2 jH (pSl (pV 0) oN (oS (p1 jey (pC (.int 1))))) (p2 jn (pV 1) (p2 jC (p2 jH (pBM "str" jao (pV 1) (jc (p2 jn (pV 0) (p1 jey (pC (.int 1)))) pN)) (pC (.int 13))) (pC (.int 26)))))))
 yB)
 (km (dP (pF (pV 0)))))))
noncomputable def kr:List D->Option D:=fnP 3 qg
noncomputable def Jz:FS:=(jR (sIf (dPT (js (p2 kS (p2 jC (pV 0) (pC (.int 3))) (pC (.int 0))))) (km (dP (p2 jH (pC (.int 1)) (p2 jC (p2 jY (pV 0) (pC (.int 3))) (pC (.int 4))))))
 yB)
 (km (dP (p2 jH (pC (.int 1)) (p2 jC (p2 vN (pV 0) (pV 0)) (p2 jgg (pC (.int 10)) (pC (.int 12))))))))
noncomputable def yF:List D->Option D:=fnP 1 Jz
noncomputable def qQ:FS:=(jR (yz (dP (p2 jH (p2 jH (p2 jY (pV 0) (pC (.int 3))) (p2 vN (pV 5) (pC (.int 40)))) (p2 vN (p2 vN (pC (.int 7)) (pV 5)) (p2 jY (pV 0) (pC (.int 50)))))) (jk [] 6))
 (ut 4 (qv (jc (pF (p2 jn (pV 1) (p2 jC (pV 6) (pCB jjF (jc (pC (.int 2)) (jc (pCB ky (jc (pV 1) pN)) pN)))))) (jc (p2 jH (pC (.int 1)) (p2 jC (p2 jY (pV 6) (pC (.int 2))) (pV 3))) (jc (pF (p2 jn (p2 jn (pV 2) (p2 jC (p2 jY (pV 6) (p2 vN (pC (.int 2)) (pV 3))) (pCB ky (jc (pV 2) pN)))) (pC (.int 0)))) pN))))))
noncomputable def Ki:FS:=(jR (yz (dP (qX pN)) (jk [] 4))
 (jR (KP (YI (jc (p2 jC (pV 0) (pC (.int 3))) pN)) (jk [] 5) qQ)
 (km (dMv 4))))
noncomputable def YR:List D->Option D:=fnP 7 Ki
noncomputable def vf:FS:=(sIf (dPT (js (p2 kS (p2 jn (pV 8) (pC (.int 0))) (pC (.str [115,104,97,114,101]))))) (jfE 4 (yT (VP (p2 jn (pV 8) (pC (.int 1)))) (jk [] 0) qT (pF (pV 0)) [none]))
 (sIf (dPT (js (p2 kS (p2 jn (pV 8) (pC (.int 0))) (pC (.str [114,101,112,97,121]))))) (ut 4 (pF (p2 jn (pV 8) (pC (.int 1)))))
 yB))
noncomputable def JR:FS:=(KP (pIt (pF (pV 7))) (jk [] 8) vf)
noncomputable def kj:FS:=(sIf (dPT (VT (js (p2 (J6 true) (pV 11) (pV 4))) (VT (js (p2 wy (pCB ky (jc (pV 2) pN)) (pC (.int 0)))) (js (p2 wy (p2 jC (p2 jY (pV 0) (p2 jH (p2 vN (pC (.int 5)) (pV 10)) (pC (.int 3)))) (pC (.int 4))) (pC (.int 0))))))) (ut 9 (qv (jc (pF (p2 jn (pV 2) (p2 jC (p2 jY (pV 0) (p2 jH (p2 vN (pC (.int 7)) (pV 10)) (pC (.int 2)))) (pCB ky (jc (pV 2) pN))))) (jc (pF (pV 11)) pN))))
 yB)
noncomputable def Vh:FS:=(jR (yz (dP (qX pN)) (jk [] 4))
 (jR (KP (pIt (pF (pV 3))) (gT 3 (gC (jk [] 5) (gC (jk [] 6) (gC (jk [] 7) gN)))) JR)
 (jR (yz (dP (qX pN)) (jk [] 9))
 (jR (KP (QF (jc (pF (pV 1)) pN)) (gT 2 (gC (jk [] 10) (gC (jk [] 11) gN))) kj)
 (km (dMv 9))))))
noncomputable def JC:List D->Option D:=fnP 12 Vh
noncomputable def kg:FS:=(sIf (dPT (js (p2 jht (p2 yS (pV 2) (pV 3)) (pV 4)))) (km (dP (pF (p2 jn (yT (VP (p2 jn (pV 0) (pC (.int 4)))) (jk [] 0) (js (p2 kS (p2 jn (pV 0) (pC (.int 0))) (pV 1))) (pF (pV 0)) [none,some 5]) (pC (.int 0))))))
 yB)
noncomputable def Yb:FS:=(jR (yz (dP (pCB xY (jc (p2 jn (pV 1) (pC (.int 0))) pN))) (jk [] 2))
 (jR (KP (pIt (pF (p2 jn (pV 0) (pC (.int 5))))) (gT 3 (gC (jk [] 3) (gC (jk [] 4) (gC (jk [] 5) gN)))) kg)
 (km (dP (pF (p2 jn (p2 jn (pV 0) (pC (.int 4))) (pC (.int 0))))))))
noncomputable def qj:List D->Option D:=fnP 6 Yb
noncomputable def qH:FS:=(jaR 1 (pV 2) (pCB jle (jc (p3 xF (pV 1) (pV 2) (pC (.int 0))) (jc (pV 3) pN))))
noncomputable def JQ:FS:=(jR (yz (dP (pC (.dK true [] []))) (jk [] 1))
 (jR (KP (pIt (pF (p2 jn (pV 0) (pC (.int 5))))) (gT 3 (gC (jk [] 2) (gC (jk [] 3) (gC (jk [] 4) gN)))) qH)
 (km (jab (YT 1) (jk [] 0) qT (qv (jc (pF (pV 0)) (jc (pF (p2 yS (pV 1) (pV 0))) pN))) [none,some 1]))))
noncomputable def qp:List D->Option D:=fnP 5 JQ
noncomputable def yD:FS:=(sIf (dPT (VT (js (p2 kS (p2 jn (pV 3) (pC (.int 0))) (pC (.str [115,104,97,114,101])))) (js (p2 (J6 false) (pC (.str [115,104,97,114,101])) (pV 1))))) (jfE 2 (yT (VP (p2 jn (pV 3) (pC (.int 1)))) (jk [] 0) qT (pF (pV 0)) [none]))
 (sIf (dPT (js (p2 (J6 false) (p2 jn (pV 3) (pC (.int 0))) (pV 1)))) (ut 2 (pF (p2 jn (pV 3) (pC (.int 1)))))
 yB))
noncomputable def V5:FS:=(jR (yz (dP (qX pN)) (jk [] 2))
 (jR (KP (pIt (pF (pV 0))) (jk [] 3) yD)
 (km (dMv 2))))
noncomputable def yw:List D->Option D:=fnP 4 V5
noncomputable def Vz:FS:=(km (dP (jW kD (jc (pV 0) (jc (pCB xY (jc (p2 jn (pV 1) (pC (.int 0))) pN)) pN)))))
noncomputable def qZ:List D->Option D:=fnP 2 Vz
noncomputable def yC:FS:=(J8 0 (jaD 0 "alive" jb0) (pV 4) (pC (.bl false)))
noncomputable def va:FS:=(jR (Ku 0 0 "claims" (yT (VP (p2 jn (pV 1) (pC (.int 1)))) (jk [] 0) qT (pF (p2 jn (pV 0) (pC (.int 0)))) [none]))
 (jR (Ku 0 0 "pots" (yT (VP (p2 jn (pV 1) (pC (.int 2)))) (jk [] 0) qT (pF (p2 jn (pV 0) (pC (.int 0)))) [none]))
 (jR (Ku 0 0 "guards" (pF (p2 jn (pV 1) (pC (.int 6)))))
 (jR (Ku 0 0 "greatest" (jW vQ (jc (pV 1) pN)))
 (jR (Ku 0 0 "runs" (pF (p2 jn (pV 2) (pC (.int 0)))))
 (jR (Ku 0 0 "alive" (pCB xR (jc (Qb 0 "claims" (pV 0)) (jc (p2 jn (pV 2) (pC (.int 1))) pN))))
 (jR (KP (pIt (pF (pV 3))) (jk [0] 4) yC)
 (jR (Ku 0 0 "full" (pCB xR (jc (Qb 0 "pots" (pV 0)) (jc (p2 jn (pV 2) (pC (.int 2))) pN))))
 (jR (Ku 0 0 "served" (pC (.dK true [] [])))
 (Ku 0 0 "repaid" (pC (.dK true [] []))))))))))))
noncomputable def yp:List D->Option (D×D):=fnM 5 0 va
noncomputable def jS:FS:=(jR (yz (dP (pF (p2 jn (pV 1) (pC (.int 0))))) (jk [] 2))
 (jR (sIf (dPT (js (p2 kS (pV 2) (pC (.str [112,97,121]))))) (km (dP (kX jo 0 "is_missed" (pV 0) (jc (p2 jn (pV 1) (pC (.int 1))) pN))))
 yB)
 (jR (sIf (dPT (js (p2 kS (pV 2) (pC (.str [115,104,97,114,101]))))) (km (dP (pCB jlc (jc (yT (VP (p2 jn (pV 1) (pC (.int 1)))) (jk [] 0) qT (kX jo 0 "is_missed" (pV 1) (jc (pV 0) pN)) [none,some 0]) pN))))
 yB)
 (jR (sIf (dPT (js (p2 kS (pV 2) (pC (.str [114,101,112,97,121]))))) (km (dP (VX (p2 yS (Qb 0 "alive" (pV 0)) (p2 jn (pV 1) (pC (.int 1)))) (p2 (zQ true) (p2 jn (pV 1) (pC (.int 1))) (Qb 0 "repaid" (pV 0))))))
 yB)
 (jR (sIf (dPT (js (p2 kS (pV 2) (pC (.str [102,105,108,108]))))) (km (dP (jhk (p2 yS (Qb 0 "full" (pV 0)) (p2 jn (pV 1) (pC (.int 1)))))))
 yB)
 (km (dP (pC (.bl false)))))))))
noncomputable def jF:List D->Option D:=fnP 3 jS
noncomputable def vp:FS:=(km (dP (pIf (js (kX jo 0 "is_missed" (pV 0) (jc (pV 1) pN))) (pCB jjF (jc (p2 jH (pV 2) (pC (.int 1))) (jc (p2 yS (Qb 0 "greatest" (pV 0)) (pV 1)) pN))) (pC (.int 0)))))
noncomputable def jI:List D->Option D:=fnP 3 vp
noncomputable def ke:FS:=(jR (yz (dP (pF (p2 jn (pV 3) (p2 jC (p2 jH (p2 jY (pV 4) (pC (.int 192))) (pV 9)) (pC (.int 26)))))) (jk [] 10))
 (jR (sIf (dPT (js (p2 kS (p2 jC (pV 4) (pC (.int 3))) (pC (.int 0))))) (yz (dP (p2 jH (p2 jH (pSl (pV 5) oN (oS (pV 7))) (pV 10)) (pSl (pV 5) (oS (p2 jH (pV 7) (pC (.int 1)))) (oS (pV 6))))) (jk [] 11))
 (sIf (dPT (js (p2 kS (p2 jC (pV 4) (pC (.int 3))) (pC (.int 1))))) (yz (dP (pSl (pV 5) oN (oS (p2 jH (pC (.int 1)) (p2 jC (p2 jH (p2 jY (pV 4) (pC (.int 24))) (pV 9)) (pV 2)))))) (jk [] 11))
 (yz (dP (pSl (p2 jH (pV 10) (jW vx (jc (jW yk (jc (pV 0) (jc (p2 jH (pV 9) (pC (.int 2))) pN))) (jc (pC (.int 7)) pN)))) oN (oS (p2 jH (pC (.int 1)) (p2 jC (jW yk (jc (pV 0) (jc (p2 jH (pV 9) (pC (.int 40))) pN))) (pV 2)))))) (jk [] 11))))
 (ut 8 (jW kr (jc (pV 11) pN)))))
noncomputable def Yy:FS:=(jR (yz (dP (pC (.str [97,98,99,100,101,102,103,104,105,106,107,108,109,110,111,112,113,114,115,116,117,118,119,120,121,122]))) (jk [] 3))
 (jR (yz (dP (jW yk (jc (pV 0) (jc (pC (.int 1)) pN)))) (jk [] 4))
 (jR (yz (dP (jW vx (jc (p2 jH (p2 vN (pV 4) (pV 4)) (pV 4)) (jc (pC (.int 8)) pN)))) (jk [] 5))
 (jR (yz (dP (p2 jH (pC (.int 1)) (p2 jC (p2 jY (pV 4) (pC (.int 3))) (pV 2)))) (jk [] 6))
 (jR (yz (dP (p2 jC (p2 jY (pV 4) (pC (.int 24))) (pV 6))) (jk [] 7))
 (jR (yz (dP (qX pN)) (jk [] 8))
 (jR (KP (YI (jc (pV 1) pN)) (jk [] 9) ke)
 (jR (sIf (dPT (js (p2 kS (p2 jC (p2 jY (pV 4) (pC (.int 5000))) (pC (.int 2))) (pC (.int 1))))) (km (dP (jiP (pV 8))))
 yB)
 (km (dMv 8))))))))))
noncomputable def vV:List D->Option D:=fnP 12 Yy
noncomputable def yV:FS:=(jR (yz (dP (p2 jC (pV 0) (pC (.int 8)))) (jk [] 4))
 (jR (yz (dP (p2 jY (pV 0) (pC (.int 8)))) (jk [] 5))
 (jR (yz (dP (pF (p2 jn (pV 1) (p2 jC (pV 5) (pCB ky (jc (pV 1) pN)))))) (jk [] 6))
 (jR (sIf (dPT (VT (js (p2 kS (pV 4) (pC (.int 2)))) (js (p2 wy (pCB ky (jc (pV 1) pN)) (pC (.int 1)))))) (jR (yz (dP (p2 jH (pC (.int 2)) (p2 jC (p2 jY (pV 5) (pC (.int 3))) (p2 jfK (pCB ky (jc (pV 1) pN)) (pC (.int 1)))))) (jk [] 7))
 (jR (yz (dP (yT (YI (jc (pV 7) pN)) (jk [] 0) qT (pF (p2 jn (pV 1) (p2 jC (p2 jH (pV 2) (pV 0)) (pCB ky (jc (pV 1) pN))))) [none,some 1,some 5])) (jk [] 8))
 (jR (sIf (dPT (js (p2 kS (p2 jC (p2 jY (pV 5) (pC (.int 9))) (pC (.int 2))) (pC (.int 1))))) (yz (dP (jiP (pV 8))) (jk [] 8))
 yB)
 (km (dP (qv (jc (pC (.str [115,104,97,114,101])) (jc (pCB JW (jc (pV 8) pN)) pN))))))))
 yB)
 (jR (sIf (dPT (js (p2 kS (pV 4) (pC (.int 3))))) (km (dP (qv (jc (pC (.str [114,101,112,97,121])) (jc (pF (pV 6)) pN)))))
 yB)
 (jR (sIf (dPT (VT (js (p2 kS (pV 4) (pC (.int 4)))) (js (p2 wy (pCB ky (jc (pV 2) pN)) (pC (.int 0)))))) (km (dP (qv (jc (pC (.str [102,105,108,108])) (jc (pF (p2 jn (pV 2) (p2 jC (p2 jY (pV 5) (pC (.int 3))) (pCB ky (jc (pV 2) pN))))) pN)))))
 yB)
 (jR (sIf (dPT (VT (js (p2 kS (pV 4) (pC (.int 5)))) (VT (js (p2 wy (pCB ky (jc (pV 3) pN)) (pC (.int 0)))) (js (p2 wy (p2 jC (p2 jY (pV 5) (pC (.int 3))) (pC (.int 3))) (pC (.int 0))))))) (km (dP (qv (jc (pC (.str [108,101,110,100])) (jc (pF (p2 jn (pV 3) (p2 jC (p2 jY (pV 5) (pC (.int 9))) (pCB ky (jc (pV 3) pN))))) (jc (jW yF (jc (p2 jY (pV 5) (pC (.int 27))) pN)) pN))))))
 yB)
 (jR (sIf (dPT (VT (js (p2 kS (pV 4) (pC (.int 5)))) (js (p2 wy (pCB ky (jc (pV 3) pN)) (pC (.int 0)))))) (km (dP (qv (jc (pC (.str [98,97,99,107])) (jc (pF (p2 jn (pV 3) (p2 jC (p2 jY (pV 5) (pC (.int 9))) (pCB ky (jc (pV 3) pN))))) pN)))))
 yB)
 (km (dP (qv (jc (pC (.str [112,97,121])) (jc (pF (pV 6)) pN)))))))))))))
noncomputable def j7:List D->Option D:=fnP 9 yV
noncomputable def vt:FS:=(jR (sIf (dPT (js (p2 kS (p2 jn (pV 0) (pC (.int 0))) (pC (.str [112,97,121]))))) (km (dP (VX (p2 yS (pV 2) (p2 jn (pV 0) (pC (.int 1)))) (p2 (J6 true) (p2 jn (pV 0) (pC (.int 1))) (jW yw (jc (pV 1) (jc (qX (jc (pC (.str [112,97,121])) (jc (pC (.str [115,104,97,114,101])) (jc (pC (.str [114,101,112,97,121])) pN)))) pN)))))))
 yB)
 (jR (sIf (dPT (js (p2 kS (p2 jn (pV 0) (pC (.int 0))) (pC (.str [115,104,97,114,101]))))) (jR (yz (dP (jW yw (jc (pV 1) (jc (qX (jc (pC (.str [112,97,121])) (jc (pC (.str [115,104,97,114,101])) (jc (pC (.str [114,101,112,97,121])) pN)))) pN)))) (jk [] 4))
 (km (dP (p2 wy (pCB ky (jc (yT (VP (p2 jn (pV 0) (pC (.int 1)))) (jk [] 0) (VT (js (p2 yS (pV 1) (pV 0))) (js (p2 (J6 true) (pV 0) (pV 2)))) (pF (pV 0)) [none,some 2,some 4]) pN)) (pC (.int 0))))))
 yB)
 (jR (sIf (dPT (js (p2 kS (p2 jn (pV 0) (pC (.int 0))) (pC (.str [114,101,112,97,121]))))) (km (dP (VX (p2 yS (pV 2) (p2 jn (pV 0) (pC (.int 1)))) (p2 (J6 true) (p2 jn (pV 0) (pC (.int 1))) (jW yw (jc (pV 1) (jc (qX (jc (pC (.str [114,101,112,97,121])) pN)) pN)))))))
 yB)
 (km (dP (VX (p2 kS (p2 jn (pV 0) (pC (.int 0))) (pC (.str [102,105,108,108]))) (VX (jhk (p2 yS (pV 3) (p2 jn (pV 0) (pC (.int 1))))) (p2 (J6 true) (p2 jn (pV 0) (pC (.int 1))) (jW yw (jc (pV 1) (jc (qX (jc (pC (.str [102,105,108,108])) pN)) pN)))))))))))
noncomputable def ye:List D->Option D:=fnP 5 vt
noncomputable def vC:FS:=(jR (yz (dP (VX (p2 yS (pV 4) (p2 jn (pV 8) (pC (.int 0)))) (p2 (J6 true) (p2 jn (pV 8) (pC (.int 0))) (pV 5)))) (jk [] 9))
 (ut 6 (qv (jc (pF (p2 jn (pV 8) (pC (.int 0)))) (jc (pIf (js (pV 9)) (pCB jjF (jc (p2 jH (p2 jn (pV 8) (pC (.int 1))) (pC (.int 1))) (jc (p2 jn (p2 jn (pV 1) (pV 7)) (pC (.int 1))) pN))) (pC (.int 0))) pN)))))
noncomputable def vA:FS:=(jR (yz (dP (yT (VP (p2 jn (pV 0) (pC (.int 6)))) (gT 2 (gC (jk [] 0) (gC (jk [] 1) gN))) (VT (js (p2 kS (pV 0) (p2 jn (pV 2) (pC (.int 0))))) (VT (js (p2 yS (pV 3) (pV 1))) (js (p2 (J6 true) (pV 1) (pV 4))))) (pF (pV 1)) [none,none,some 8,some 4,some 5])) (jk [] 13))
 (ut 12 (VX (pOr (p2 jn (p2 jn (pV 2) (pC (.int 2))) (pV 7)) (p2 (J6 false) (p2 jn (pV 8) (pC (.int 0))) (jW yw (jc (pV 3) (jc (qX (jc (pC (.str [102,105,108,108])) pN)) pN))))) (p2 kS (pCB ky (jc (pV 13) pN)) (pC (.int 0))))))
noncomputable def Y5:FS:=(jR (yz (dP (jW yw (jc (pV 3) (jc (qX (jc (pC (.str [112,97,121])) (jc (pC (.str [115,104,97,114,101])) (jc (pC (.str [114,101,112,97,121])) pN)))) pN)))) (jk [] 5))
 (jR (yz (dP (qX pN)) (jk [] 6))
 (jR (KP (jku (jc (pF (p2 jn (pV 2) (pC (.int 0)))) pN)) (gT 2 (gC (jk [] 7) (gC (jk [] 8) gN))) vC)
 (jR (yz (dP (jW yw (jc (pV 3) (jc (qX (jc (pC (.str [114,101,112,97,121])) pN)) pN)))) (jk [] 10))
 (jR (yz (dP (pCB JW (jc (yT (VP (p2 jn (pV 0) (pC (.int 1)))) (jk [] 0) qT (VX (p2 yS (pV 1) (p2 jn (pV 0) (pC (.int 0)))) (p2 (J6 true) (p2 jn (pV 0) (pC (.int 0))) (pV 2))) [none,some 4,some 10]) pN))) (jk [] 11))
 (jR (yz (dP (qX pN)) (jk [] 12))
 (jR (KP (QF (jc (pF (p2 jn (pV 0) (pC (.int 2)))) pN)) (gT 2 (gC (jk [] 7) (gC (jk [] 8) gN))) vA)
 (km (dP (qv (jc (pCB JW (jc (pV 6) pN)) (jc (pF (pV 11)) (jc (pCB JW (jc (pV 12) pN)) pN)))))))))))))
noncomputable def Jx:List D->Option D:=fnP 14 Y5
noncomputable def yN:FS:=(jR (yz (dP (yT (VP (Qb 0 "guards" (pV 0))) (gT 2 (gC (jk [] 0) (gC (jk [] 1) gN))) (js (kX jo 0 "is_missed" (pV 2) (jc (pV 1) pN))) (pF (pV 0)) [none,none,some 0])) (jk [] 1))
 (jR (yz (dP (yT (VP (Qb 0 "runs" (pV 0))) (gT 2 (gC (jk [] 0) (gC (jk [] 1) gN))) qT (qv (jc (pF (pV 0)) (jc (kX jI 0 "days_behind" (pV 2) (jc (pV 0) (jc (pV 1) pN))) pN))) [none,none,some 0])) (jk [] 2))
 (jR (yz (dP (yT (VP (Qb 0 "claims" (pV 0))) (jk [] 0) qT (VX (p2 yS (Qb 0 "alive" (pV 1)) (pV 0)) (p2 (zQ true) (pV 0) (Qb 0 "repaid" (pV 1)))) [none,some 0])) (jk [] 3))
 (jR (yz (dP (yT (VP (Qb 0 "pots" (pV 0))) (jk [] 0) qT (VX (p2 yS (Qb 0 "full" (pV 1)) (pV 0)) (p2 (J6 true) (pV 0) (pV 2))) [none,some 0,some 1])) (jk [] 4))
 (km (dP (qv (jc (pCB JW (jc (pV 2) pN)) (jc (pCB JW (jc (pV 3) pN)) (jc (pCB JW (jc (pV 4) pN)) pN))))))))))
noncomputable def jK:List D->Option D:=fnP 5 yN
noncomputable def kn:FS:=(jR (yz (dP (jW yk (jc (pV 7) (jc (p2 jH (pV 6) (pC (.int 3))) pN)))) (jk [] 8))
 (jR (yz (dP (p2 jY (pV 8) (pC (.int 10)))) (jk [] 9))
 (jR (yz (dP (pF (p2 jn (pV 1) (p2 jC (pV 9) (pCB ky (jc (pV 1) pN)))))) (jk [] 10))
 (je7 5 11 [] (VT (js (p2 kS (p2 jC (pV 8) (pC (.int 10))) (pC (.int 7)))) (js (p2 jiJ (pCB ky (jc (pV 5) pN)) (pCB ky (jc (pV 4) pN))))) (ut 5 (qX (jc (pF (p2 jn (pV 4) (pCB ky (jc (pV 5) pN)))) (jc (qX pN) (jc (qX pN) pN)))))
 (sIf (dPT (js (p2 wy (p2 jC (pV 8) (pC (.int 10))) (pC (.int 7))))) (jR (yz (dP (p2 jH (pC (.int 1)) (p2 jC (p2 jY (pV 9) (pC (.int 3))) (pC (.int 3))))) (jk [5,11] 12))
 (jR (sIf (dPT (js (p2 kS (p2 jC (p2 jY (pV 9) (pC (.int 9))) (pC (.int 4))) (pC (.int 0))))) (yz (dP (p2 jH (pC (.int 1)) (p2 jC (p2 jY (pV 9) (pC (.int 36))) (pC (.int 10))))) (jk [5,11] 12))
 yB)
 (sIf (dPT (js (p2 (J6 true) (pV 10) (yT (VP (p2 jn (pV 11) (pC (.int 1)))) (gT 2 (gC (jk [] 0) (gC (jk [] 1) gN))) qT (pF (pV 0)) [none,none])))) (Qo 11 1 (qv (jc (pF (pV 10)) (jc (pF (pV 12)) pN))))
 yB)))
 (sIf (dPT (js (p2 jiJ (pCB ky (jc (p2 jn (pV 11) (pC (.int 2))) pN)) (pC (.int 4))))) (Qo 11 2 (jW j7 (jc (pV 9) (jc (pV 1) (jc (pV 2) (jc (pV 3) pN))))))
 yB))))))
noncomputable def Vi:FS:=(jR (yz (dP (qX (jc (qX (jc (pF (p2 jn (pV 4) (pC (.int 0)))) (jc (qX pN) (jc (qX pN) pN)))) pN))) (jk [] 5))
 (jR (KP (QF (jc (pF (pV 0)) pN)) (gT 2 (gC (jk [] 6) (gC (jk [] 7) gN))) kn)
 (sFz 5 (km (dP (yT (VP (pV 5)) (jk [] 0) qT (qv (jc (pF (p2 jn (pV 0) (pC (.int 0)))) (jc (pF (p2 jn (pV 0) (pC (.int 1)))) (jc (p2 jH (p2 jn (pV 0) (pC (.int 2))) (qX (jc (qv (jc (pC (.str [114,101,115,116])) (jc (pF (p2 jn (pV 1) (p2 jC (pCB ky (jc (p2 jn (pV 0) (pC (.int 2))) pN)) (pCB ky (jc (pV 1) pN))))) pN))) pN))) pN)))) [none,some 1]))))))
noncomputable def JL:List D->Option D:=fnP 13 Vi
noncomputable def qk:FS:=(jR (yz (dP (pSl (pV 5) oN (oS (pV 13)))) (jk [12] 14))
 (jR (sIf (dPT (js (p2 jht (pCB jha (jc (yT (VP (pV 4)) (gT 2 (gC (jk [] 0) (gC (jk [] 1) gN))) qT (pF (pV 1)) [none,none]) pN)) (pC (.int 10))))) (yz (dP (qX pN)) (jk [12] 14))
 yB)
 (ut 9 (qv (jc (pF (pV 10)) (jc (pF (pV 13)) (jc (jW Jx (jc (pV 0) (jc (pV 1) (jc (pV 2) (jc (pV 14) (jc (pV 11) pN)))))) pN)))))))
noncomputable def Yx:FS:=(jR (yz (dCB zI (uR (Q6 6 (jk [] 0) qT (qv (jc (pF (pV 0)) (jc (VX (p2 yS (pV 1) (pV 0)) (p2 (J6 true) (pV 0) (pSl (pV 2) oN (oS (pV 3))))) pN))) [none,some 6,some 8,some 10]) jjJ)) (jk [] 11))
 (jR (yz (dP (p2 jH (yT (YI (jc (pCB ky (jc (pV 5) pN)) pN)) (jk [] 0) (js (jW ye (jc (p2 jn (pV 1) (pV 0)) (jc (pSl (pV 1) oN (oS (pV 0))) (jc (pV 2) (jc (pV 3) pN)))))) (pF (pV 0)) [none,some 5,some 11,some 7]) (qX (jc (pCB ky (jc (pV 5) pN)) pN)))) (jk [] 12))
 (jR (sIf (dPT (js (p2 jht (pCB jha (jc (yT (VP (pV 4)) (gT 2 (gC (jk [] 0) (gC (jk [] 1) gN))) qT (pF (pV 1)) [none,none]) pN)) (pC (.int 10))))) (yz (dP (pSl (pV 12) oN (oS (pC (.int 1))))) (jk [] 12))
 yB)
 (jaH 12 (jk [12] 13) qk))))
noncomputable def zE:FS:=(jR (jf5 (dP (jW qj (jc (pV 0) (jc (pV 2) pN)))) (gT 3 (gC (jk [] 3) (gC (jk [] 4) (gC (jk [] 5) gN)))))
 (jR (yz (dP (pCB zI (jc (yT (YI (jc (pCB ky (jc (p2 jn (pV 0) (pC (.int 1))) pN)) pN)) (jk [] 0) qT (qv (jc (pF (p2 jn (p2 jn (p2 jn (pV 1) (pC (.int 1))) (pV 0)) (pC (.int 0)))) (jc (pF (p2 jn (p2 jn (pV 2) (pC (.int 1))) (pV 0))) pN))) [none,some 0,some 2]) pN))) (jk [] 6))
 (jR (yz (dP (pCB zI (jc (yT (YI (jc (pCB ky (jc (p2 jn (pV 0) (pC (.int 2))) pN)) pN)) (jk [] 0) qT (qv (jc (pF (p2 jn (p2 jn (p2 jn (pV 1) (pC (.int 2))) (pV 0)) (pC (.int 0)))) (jc (pF (p2 jn (p2 jn (pV 2) (pC (.int 2))) (pV 0))) pN))) [none,some 0,some 2]) pN))) (jk [] 7))
 (jR (yz (dP (yT (VP (p2 jn (pV 0) (pC (.int 3)))) (jk [] 0) (js (p2 yS (pV 1) (pV 0))) (pF (pV 0)) [none,some 6])) (jk [] 8))
 (jR (yz (dP (qX pN)) (jk [] 9))
 (jR (KP (YI (jc (p2 jH (pCB ky (jc (pV 8) pN)) (pC (.int 1))) pN)) (jk [] 10) Yx)
 (km (dMv 9))))))))
noncomputable def KM:List D->Option D:=fnP 15 zE
noncomputable def ya:FS:=(sIf (dPT (js (kX jF 0 "needs" (pV 5) (jc (pV 8) pN)))) (jR (ut 6 (qv (jc (pF (pV 3)) (jc (pF (pV 7)) (jc (kX jK 0 "outline_behind" (pV 5) pN) pN)))))
 (jR (sIf (dPT (js (p2 jht (jW YG (jc (p2 jn (pV 1) (pC (.int 1))) pN)) (pC (.int 10))))) (km (dMv 6))
 yB)
 (jcS (Q2 jQ 5 0 "fill" (jc (pF (pV 8)) pN)))))
 yB)
noncomputable def qA:FS:=(jR (yz (dP (jcK yp 0 (jc (pF (pV 0)) (jc (pF (pV 2)) (jc (pF (pV 4)) pN))))) (jk [] 5))
 (jR (yz (dP (qX pN)) (jk [] 6))
 (jR (KP (QF (jc (pF (p2 jn (pV 1) (pC (.int 2)))) pN)) (gT 2 (gC (jk [] 7) (gC (jk [] 8) gN))) ya)
 (jR (ut 6 (qv (jc (pF (pV 3)) (jc (pCB ky (jc (p2 jn (pV 1) (pC (.int 2))) pN)) (jc (kX jK 0 "outline_behind" (pV 5) pN) pN)))))
 (km (dMv 6))))))
noncomputable def vU:List D->Option D:=fnP 9 qA
noncomputable def JJ:FS:=(ut 10 (qv (jc (pF (pV 12)) (jc (jW yF (jc (p2 jY (pV 6) (p2 jH (pV 11) (pC (.int 1)))) pN)) (jc (jW yF (jc (p2 jH (p2 jY (pV 6) (p2 jH (pV 11) (pC (.int 5)))) (pV 11)) pN)) pN)))))
noncomputable def Qz:FS:=(jR (yz (dP (jW yk (jc (jW yY (jc (pV 0) (jc (pC (.int 0)) pN))) (jc (pC (.int 1)) pN)))) (jk [] 5))
 (jR (yz (dP (jW yk (jc (jW yY (jc (pV 0) (jc (pC (.int 1)) pN))) (jc (pC (.int 2)) pN)))) (jk [] 6))
 (jR (yz (dP (pSl (pV 1) (oS (pC (.int 1))) (oS (p2 jH (pC (.int 2)) (p2 jC (pV 5) (pC (.int 3))))))) (jk [] 7))
 (jR (yz (dP (pSl (pV 1) (oS (pC (.int 4))) (oS (p2 jH (pC (.int 4)) (p2 jC (p2 jY (pV 5) (pC (.int 3))) (pC (.int 3))))))) (jk [] 8))
 (jR (sFz 8 (sFz 7 (yz (dP (jW JL (jc (pFz (pSl (pV 0) (oS (pC (.int 2))) oN)) (jc (pV 7) (jc (pV 8) (jc (pV 3) (jc (pV 2) pN))))))) (jk [] 9))))
 (jR (yz (dP (qX pN)) (jk [] 10))
 (jR (sFz 7 (KP (QF (jc (pF (pV 7)) pN)) (gT 2 (gC (jk [] 11) (gC (jk [] 12) gN))) JJ))
 (jR (yz (dP (yT (YI (jc (p2 jC (p2 jY (pV 5) (pC (.int 36))) (p2 jH (pCB ky (jc (pV 7) pN)) (pC (.int 1)))) pN)) (jk [] 0) qT (pF (p2 jn (pV 1) (p2 jC (p2 jH (p2 jY (pV 2) (pC (.int 12))) (pV 0)) (pCB ky (jc (pV 1) pN))))) [none,some 7,some 5])) (jk [] 13))
 (jR (yz (dP (jW YR (jc (p2 jY (pV 6) (pC (.int 11))) (jc (pV 7) (jc (pV 9) (jc (p2 jY (pV 4) (pCB jle (jc (pC (.int 1)) (jc (pCB ky (jc (pV 8) pN)) pN)))) pN)))))) (jk [] 14))
 (jR (sFz 8 (yz (dP (yT (QF (jc (pF (pV 8)) pN)) (gT 2 (gC (jk [] 0) (gC (jk [] 1) gN))) qT (qv (jc (pF (pV 1)) (jc (jW yF (jc (p2 jH (p2 jY (pV 2) (pC (.int 13))) (pV 0)) pN)) pN))) [none,none,some 6])) (jk [] 15)))
 (sFz 10 (sFz 15 (sFz 13 (sFz 9 (sFz 14 (km (dP (qv (jc (pF (p2 jn (pV 1) (pC (.int 0)))) (jc (pF (pV 10)) (jc (pF (pV 15)) (jc (pF (pV 13)) (jc (pF (pV 9)) (jc (pF (pV 14)) (jc (jW JC (jc (p2 jY (pV 5) (pC (.int 200))) (jc (pV 7) (jc (pV 8) (jc (pV 9) pN))))) pN)))))))))))))))))))))))))
noncomputable def VE:List D->Option D:=fnP 16 Qz
noncomputable def QR:FS:=(jfE 5 (jW vU (jc (pV 0) (jc (pV 2) (jc (pV 1) (jc (pV 6) (jc (pSl (pV 4) oN (oS (pV 6))) pN)))))))
noncomputable def QC:FS:=(jR (yz (dP (jW kf (jc (pV 0) (jc (jW qZ (jc (pV 0) (jc (pV 1) pN))) pN)))) (jk [] 2))
 (jR (yz (dP (pCB xR (jc (yT (VP (p2 jn (pV 0) (pC (.int 1)))) (jk [] 0) qT (pF (p2 jn (pV 0) (pC (.int 0)))) [none]) (jc (p2 jn (pV 1) (pC (.int 1))) pN)))) (jk [] 3))
 (jR (yz (dP (yT (VP (p2 jn (pV 0) (pC (.int 3)))) (jk [] 0) (js (p2 yS (pV 1) (pV 0))) (pF (pV 0)) [none,some 3])) (jk [] 4))
 (jR (yz (dP (qX pN)) (jk [] 5))
 (jR (KP (YI (jc (p2 jH (pCB ky (jc (pV 4) pN)) (pC (.int 1))) pN)) (jk [] 6) QR)
 (km (dMv 5)))))))
noncomputable def JX:List D->Option D:=fnP 7 QC
noncomputable def xa:FS:=(jR (yz (dP (jW vV (jc (jW yY (jc (pV 0) (jc (pC (.int 0)) pN))) (jc (pC (.int 7)) (jc (pC (.int 8)) pN))))) (jk [] 2))
 (jR (yz (dP (jW vV (jc (jW yY (jc (pV 0) (jc (pC (.int 1)) pN))) (jc (pC (.int 3)) (jc (pC (.int 8)) pN))))) (jk [] 3))
 (sFz 3 (sFz 2 (km (dP (jW VE (jc (pFz (pSl (pV 0) oN (oS (pC (.int 16))))) (jc (pV 2) (jc (pV 3) (jc (pFz (pSl (pV 2) (oS (pC (.int 6))) oN)) (jc (pV 1) pN))))))))))))
noncomputable def Y6:List D->Option D:=fnP 4 xa
noncomputable def kR(v9:List D->Option D):FS:=(sIf (dPT (je9 (js (jW v9 (jc (p2 jn (pV 0) (pV 2)) (jc (p2 jn (pV 1) (pV 2)) pN)))))) (km (dP (pC (.bl false))))
 yB)
noncomputable def kz(v9:List D->Option D):FS:=(jR (sIf (dPT (js (jaz "bool" (pV 1)))) (km (dP (VX (jaz "bool" (pV 0)) (p2 kS (pV 0) (pV 1)))))
 yB)
 (jR (sIf (dPT (js (jaz "str" (pV 1)))) (km (dP (VX (jaz "str" (pV 0)) (p2 kS (pV 0) (pV 1)))))
 yB)
 (jR (sIf (dPT (js (jaz "int" (pV 1)))) (km (dP (VX (jaz "int" (pV 0)) (VX (jhk (jaz "bool" (pV 0))) (p2 kS (pV 0) (pV 1))))))
 yB)
 (jR (sIf (dPT (VT (js (jaz "tuple" (pV 1))) (je9 (js (jaz "tuple" (pV 0)))))) (km (dP (pC (.bl false))))
 yB)
 (jR (sIf (dPT (VT (js (jaz "list" (pV 1))) (je9 (js (jaz "list" (pV 0)))))) (km (dP (pC (.bl false))))
 yB)
 (jR (sIf (dPT (js (p2 jjH (pCB ky (jc (pV 0) pN)) (pCB ky (jc (pV 1) pN))))) (km (dP (pC (.bl false))))
 yB)
 (jR (KP (YI (jc (pCB ky (jc (pV 1) pN)) pN)) (jk [] 2) (kR v9))
 (km (dP (pC (.bl true)))))))))))
noncomputable def yf:Nat->List D->Option D
 | 0=>λ_=>none
 | n+1=>fnP 3 (kz (yf n))
noncomputable def v9:List D->Option D:=yf 8
noncomputable def xq:FS:=(jR (yz (dP (jW yk (jc (pV 4) (jc (p2 jH (pV 3) (pC (.int 20))) pN)))) (jk [] 5))
 (jR (sFz 2 (yz (dP (yT (QF (jc (pF (pV 2)) pN)) (gT 2 (gC (jk [] 0) (gC (jk [] 1) gN))) qT (qv (jc (pF (p2 jn (pV 1) (pC (.int 0)))) (jc (p2 jC (p2 jY (pV 2) (p2 jH (pC (.int 3)) (p2 vN (pC (.int 8)) (pV 0)))) (p2 jH (p2 jn (pV 1) (pC (.int 1))) (pC (.int 1)))) pN))) [none,none,some 5])) (jk [] 6)))
 (jR (yz (dP (pCB JW (jc (yT (YI (jc (pCB ky (jc (p2 jn (pV 1) (pC (.int 1))) pN)) pN)) (jk [] 0) qT (p2 wy (p2 jC (p2 jY (pV 1) (p2 jH (pC (.int 5)) (pV 0))) (pC (.int 4))) (pC (.int 0))) [none,some 5]) pN))) (jk [] 7))
 (jR (yz (dP (qv (jc (pCB JW (jc (pV 6) pN)) (jc (pF (pV 7)) (jc (pCB JW (jc (yT (YI (jc (pCB ky (jc (p2 jn (pV 1) (pC (.int 2))) pN)) pN)) (jk [] 0) qT (p2 kS (p2 jC (p2 jY (pV 1) (p2 jH (pC (.int 7)) (pV 0))) (pC (.int 2))) (pC (.int 1))) [none,some 5]) pN)) pN))))) (jk [] 8))
 (jR (yz (dP (jW JX (jc (pV 1) (jc (pV 8) pN)))) (jk [] 9))
 (jR (yz (dP (jW KM (jc (pV 1) (jc (pV 2) (jc (pV 8) pN))))) (jk [] 10))
 (jR (sIf (dPT (je9 (js (jW v9 (jc (pV 9) (jc (pV 10) pN)))))) (km (dP (pC (.bl false))))
 yB)
 (jR (jc1 9)
 (sIf (dPT (VT (js (p2 kS (pV 3) (pC (.int 0)))) (je9 (js (jW v9 (jc (jW JX (jc (pV 1) (jc (pV 8) pN))) (jc (pV 10) pN))))))) (km (dP (pC (.bl false))))
 yB)))))))))
noncomputable def jh9:FS:=(jR (yz (dP (jW Y6 (jc (pV 0) (jc (pC (.int 2)) pN)))) (jk [] 1))
 (jR (sFz 1 (yz (dP (jW qp (jc (pV 1) pN))) (jk [] 2)))
 (jR (sFz 2 (KP (QF (jc (p2 jH (qX (jc (pC (.int 0)) pN)) (pSl (pV 0) oN (oS (pC (.int 40))))) pN)) (gT 2 (gC (jk [] 3) (gC (jk [] 4) gN))) xq))
 (km (dP (p2 kS (pV 1) (jW Y6 (jc (pV 0) (jc (pC (.int 2)) pN)))))))))
noncomputable def jct:List D->Option D:=fnP 11 jh9
structure Txt(P:Program)(w:World)(K:PySem.W.Frag)(mg:Str->Option Value)(cl:Nat->Addr):Prop where
 C0:Cls K (cl 0)
 mk0:PySem.W.makesIn K (cl 0)=true
 kc0:PySem.W.keepIn K (.ref (cl 0))=true
 mg0:mg "OutlineDay" = some (.ref (cl 0))
 N_served:NoAttr K (cl 0) "served"
 N_alive:NoAttr K (cl 0) "alive"
 N_full:NoAttr K (cl 0) "full"
 N_repaid:NoAttr K (cl 0) "repaid"
 N_claims:NoAttr K (cl 0) "claims"
 N_pots:NoAttr K (cl 0) "pots"
 N_guards:NoAttr K (cl 0) "guards"
 N_greatest:NoAttr K (cl 0) "greatest"
 N_runs:NoAttr K (cl 0) "runs"
 n_any:mg "any" = none
 n_bool:mg "bool" = none
 n_dict:mg "dict" = none
 n_enumerate:mg "enumerate" = none
 n_int:mg "int" = none
 n_isinstance:mg "isinstance" = none
 n_len:mg "len" = none
 n_list:mg "list" = none
 n_max:mg "max" = none
 n_min:mg "min" = none
 n_range:mg "range" = none
 n_reversed:mg "reversed" = none
 n_str:mg "str" = none
 n_sum:mg "sum" = none
 n_tuple:mg "tuple" = none
 n_zip:mg "zip" = none
section
variable (P:Program)(w:World)(K:PySem.W.Frag)(mg:Str->Option Value)(cl:Nat->Addr)
noncomputable abbrev zS:Prop:=OkF P w K mg "tenths_of" YA 1 Yg (spP ⟨K,cl⟩ YG 1)
noncomputable abbrev Qc:Prop:=OkF P w K mg "order_named" qW 1 qU (spP ⟨K,cl⟩ kf 2)
noncomputable abbrev Q0:Prop:=OkF P w K mg "look_order" JF 1 Jp (spP ⟨K,cl⟩ kD 2)
noncomputable abbrev Y8:Prop:=OkF P w K mg "greatest_days" kI 1 kF (spP ⟨K,cl⟩ vQ 1)
noncomputable abbrev yP:Prop:=OkM P w K mg (cl 0) "is_missed" "OutlineDay.is_missed" yQ 1 yR (spP ⟨K,cl⟩ jo 2)
noncomputable abbrev JV:Prop:=OkM P w K mg (cl 0) "fill" "OutlineDay.fill" kh 1 kc (spM ⟨K,cl⟩ jQ 2 0)
noncomputable abbrev YE:Prop:=OkF P w K mg "_law_cell_at" qL 1 qJ (spP ⟨K,cl⟩ yY 2)
noncomputable abbrev Jh:Prop:=OkF P w K mg "_law_mixed" Yd 1 Yz (spP ⟨K,cl⟩ yk 2)
noncomputable abbrev K5:Prop:=OkF P w K mg "_law_letters" qR 1 qK (spP ⟨K,cl⟩ vx 2)
noncomputable abbrev xf:Prop:=OkF P w K mg "_law_spelt" Yo 1 Yt (spP ⟨K,cl⟩ kr 1)
noncomputable abbrev Vp:Prop:=OkF P w K mg "_law_amount" JD 1 Ju (spP ⟨K,cl⟩ yF 1)
noncomputable abbrev zu:Prop:=OkF P w K mg "_law_looks" Yf 1 Ym (spP ⟨K,cl⟩ YR 4)
noncomputable abbrev Q1:Prop:=OkF P w K mg "_law_guards" Js 1 Jr (spP ⟨K,cl⟩ JC 4)
noncomputable abbrev xH:Prop:=OkF P w K mg "_law_order" YQ 1 Yl (spP ⟨K,cl⟩ qj 2)
noncomputable abbrev V2:Prop:=OkF P w K mg "_law_greatest" qr 1 qo (spP ⟨K,cl⟩ qp 1)
noncomputable abbrev Kq:Prop:=OkF P w K mg "_law_named" Yv 1 Yi (spP ⟨K,cl⟩ yw 2)
noncomputable abbrev wv:Prop:=OkF P w K mg "order_of" VM 2 VO (spP ⟨K,cl⟩ qZ 2)
noncomputable abbrev qC:Prop:=OkM P w K mg (cl 0) "__init__" "OutlineDay.__init__" y9 2 y8 (spM ⟨K,cl⟩ yp 4 0)
noncomputable abbrev JG:Prop:=OkM P w K mg (cl 0) "needs" "OutlineDay.needs" vL 2 vM (spP ⟨K,cl⟩ jF 2)
noncomputable abbrev kE:Prop:=OkM P w K mg (cl 0) "days_behind" "OutlineDay.days_behind" yu 2 yt (spP ⟨K,cl⟩ jI 3)
noncomputable abbrev xJ:Prop:=OkF P w K mg "_law_words" Yr 2 YD (spP ⟨K,cl⟩ vV 3)
noncomputable abbrev wg:Prop:=OkF P w K mg "_law_rule" Vt 2 Vv (spP ⟨K,cl⟩ j7 4)
noncomputable abbrev zG:Prop:=OkF P w K mg "_law_needs" Yc 2 YC (spP ⟨K,cl⟩ ye 4)
noncomputable abbrev QU:Prop:=OkF P w K mg "_law_behind" JE 2 JM (spP ⟨K,cl⟩ Jx 5)
noncomputable abbrev v8:Prop:=OkM P w K mg (cl 0) "outline_behind" "OutlineDay.outline_behind" yd 3 yg (spP ⟨K,cl⟩ jK 1)
noncomputable abbrev QX:Prop:=OkF P w K mg "_law_orders" JN 3 Jq (spP ⟨K,cl⟩ JL 5)
noncomputable abbrev jac:Prop:=OkF P w K mg "_law_due" KZ 3 Qa (spP ⟨K,cl⟩ KM 3)
noncomputable abbrev Q3:Prop:=OkF P w K mg "steps_with" JO 4 Jw (spP ⟨K,cl⟩ vU 5)
noncomputable abbrev xW:Prop:=OkF P w K mg "_law_pool" VJ 4 VA (spP ⟨K,cl⟩ VE 5)
noncomputable abbrev xX:Prop:=OkF P w K mg "steps_of" Vx 5 VG (spP ⟨K,cl⟩ JX 2)
noncomputable abbrev uB:Prop:=OkF P w K mg "_law_one" KC 5 K6 (spP ⟨K,cl⟩ Y6 2)
noncomputable abbrev xL:Prop:=OkF P w K mg "_law_alike" YJ 8 Jf (spP ⟨K,cl⟩ v9 2)
noncomputable abbrev jl4:Prop:=OkF P w K mg "law" u9 9 jgu (spP ⟨K,cl⟩ jct 1)
end
section
variable {P:Program}{w:World}{K:PySem.W.Frag}{mg:Str->Option Value}{cl:Nat->Addr}
theorem jau(T:Txt P w K mg cl):qh K mg "tenths_of" YA Yg->zS P w K mg cl
 | ⟨_,_,F⟩=>⟨_,_,F,λbase=>kt F.fn Q4 rfl λa A outer s H E b=>⟨_,show QSs _ _ _ _ _ Ka from
  (jh (jB (QP.d (Jj (zv rfl) jeK T.n_sum zM (jd (QP.bb (vh (bkF Q4 ["part"]) rfl (vg (jb 0)) cgN Q9 (λ_ _ _ _=>(QB.f (QK.ix (K:=K) rfl (jb 0) qI))))) ji)))))⟩⟩
theorem xP(T:Txt P w K mg cl):qh K mg "order_named" qW qU->Qc P w K mg cl
 | ⟨_,_,F⟩=>⟨_,_,F,λbase=>kt F.fn V1 rfl λa A outer s H E b=>⟨_,show QSs _ _ _ _ _ Yn from
  (je (vR PassesOwn.never rfl (VZ (QB.f (yI (jb 0) qI))) (jr V1.nd)
  (jh (yL (jN (c_eq b) (yI (jb 2) qI) (jb 1)) (jh (jB (QP.d (QB.f (jb 2)))))
  jO)))
  (jh (jB (QP.d jmJ))))⟩⟩
theorem wV(T:Txt P w K mg cl):qh K mg "look_order" JF Jp->Q0 P w K mg cl
 | ⟨_,_,F⟩=>⟨_,_,F,λbase=>kt F.fn qP rfl λa A outer s H E b=>⟨_,show QSs _ _ _ _ _ Jv from
  (je (vR PassesOwn.never rfl (VZ (QB.f (yI (jb 0) qI))) (Jo rfl (jt (jr qP.nd) (jt (jr qP.nd) (jt (jr qP.nd) vd))))
  (jh (yL (jN jj8 (kG b (jb 1) (jb 2)) (jb 3)) (jh (jB (QP.d (QB.f (jb 4)))))
  jO)))
  (jh (jB (QP.d (QB.f (yI (yI (yI (jb 0) qI) qI) qI))))))⟩⟩
theorem Q8(T:Txt P w K mg cl):qh K mg "greatest_days" kI kF->Y8 P w K mg cl
 | ⟨_,_,F⟩=>⟨_,_,F,λbase=>kt F.fn vz rfl λb A outer s H E a=>⟨_,show QSs _ _ _ _ _ Ji from
  (je (ju vz.nd (QP.d jbO))
  (je (vR PassesOwn.never rfl (VZ (QB.f (yI (jb 0) qI))) (Jo rfl (jt (jr vz.nd) (jt (jr vz.nd) (jt (jr vz.nd) vd))))
  (jh (jex a (jb 1) (jb 2) (QP.bb (Jj (xl rfl) jcJ T.n_max xj (jd (jee a (jb 1) (jb 2) qI) (jd (jb 3) ji)))))))
  (jh (jB (jgt 1)))))⟩⟩
theorem YM(T:Txt P w K mg cl):jcR K (cl 0) "is_missed" "OutlineDay.is_missed" yQ yR->yP P w K mg cl
 | ⟨_,_,F⟩=>⟨_,_,F,λbase=>kt F.fn Yu rfl λb A outer s H E a=>⟨_,show QSs _ _ _ _ _ vH from
  (jh (jB (QP.d (VQ (kG a (QA T.C0 T.N_alive (jb 0)) (jb 1)) (Ko (wT a (jb 1) (QA T.C0 T.N_served (jb 0))))))))⟩⟩
theorem K7(T:Txt P w K mg cl):jcR K (cl 0) "fill" "OutlineDay.fill" kh kc->JV P w K mg cl
 | ⟨_,_,F⟩=>⟨_,_,F,λbase=>jhm F.fn kP rfl λb A outer s H E a=>⟨_,show QSs _ _ _ _ _ yG from
  (je (ju kP.nd (QP.d (QB.f (yI (jb 1) qI))))
  (jh (yL (jN (c_eq a) (jb 2) (QP.bb qS)) (jh (KN a (uU T.C0 T.N_full (jax (jb 0))) (yI (jb 1) qI) jcL))
  (jh (yL (jN (c_eq a) (jb 2) (QP.bb qS)) (jh (vR PassesOwn.never rfl (VZ (QB.f (yI (jb 1) qI))) (jr kP.nd)
  (jh (KN a (uU T.C0 T.N_served (jax (jb 0))) (jb 3) jcL))))
  (je (KN a (uU T.C0 T.N_served (jax (jb 0))) (yI (jb 1) qI) jcL)
  (jh (yL (jN (c_eq a) (jb 2) (QP.bb qS)) (jh (KN a (uU T.C0 T.N_repaid (jax (jb 0))) (yI (jb 1) qI) jcL))
  jO))))))))⟩⟩
theorem xN(T:Txt P w K mg cl):qh K mg "_law_cell_at" qL qJ->YE P w K mg cl
 | ⟨_,_,F⟩=>⟨_,_,F,λbase=>kt F.fn xO rfl λa A outer s H E b=>⟨_,show QSs _ _ _ _ _ qV from
  (je (yL (jN jmM (jb 1) (QP.bb (vO T.n_len (jd (jb 0) ji)))) (jh (jB (QP.d (QB.f (yI (jb 0) (jb 1))))))
  jO)
  (jh (jB (QP.d jd9))))⟩⟩
theorem uA(T:Txt P w K mg cl):qh K mg "_law_mixed" Yd Yz->Jh P w K mg cl
 | ⟨_,_,F⟩=>⟨_,_,F,λbase=>kt F.fn QV rfl λa A outer s H E b=>⟨_,show QSs _ _ _ _ _ V9 from
  (je (ju QV.nd (QP.d (yU (QP.bb (KR (QP.bb (yU (jb 0) qI)) (QP.bb (y6 qI (QP.bb (KR (QP.bb (KR qI (jb 1))) (jb 1))))))) qI)))
  (jh (jB (QP.d (yU (QP.bb (KR (QP.bb (y6 (jb 2) (jb 1))) (QP.bb (y6 (QP.bb (y6 (jb 2) (QP.bb (KR qI (jb 1))))) qI)))) qI)))))⟩⟩
theorem xS(T:Txt P w K mg cl):qh K mg "_law_letters" qR qK->K5 P w K mg cl
 | ⟨_,_,F⟩=>⟨_,_,F,λbase=>kt F.fn vD rfl λa A outer s H E b=>⟨_,show QSs _ _ _ _ _ YB from
  (je (ju vD.nd (QP.d qS))
  (je (ju vD.nd (QP.d qS))
  (je (vR PassesOwn.never rfl (k9 T.n_range (jd (jb 1) ji)) (jr vD.nd)
  (je (ju vD.nd (QP.d (y6 (jb 3) (yI (jb 2) (QP.bb (yU (jb 0) qI))))))
  (jh (ju vD.nd (QP.d (vG (jb 0) qI))))))
  (jh (jB (QP.d (QB.f (jb 3))))))))⟩⟩
theorem u3(T:Txt P w K mg cl):qh K mg "_law_spelt" Yo Yt->xf P w K mg cl
 | ⟨_,_,F⟩=>⟨_,_,F,λbase=>kt F.fn YZ rfl λa A outer s H E b=>⟨_,show QSs _ _ _ _ _ qg from
  (je (ju YZ.nd (QP.d qS))
  (je (ju YZ.nd (QP.d (ku (jf qS (jf qS (jf qS (jf qS (jf qS (jf qS (jf qS (jf qS (jf qS (jf qS (jf qS (jf qS jw)))))))))))))))
  (je (yL (QW.t (jl5 (jN (jjZ (by with_unfolding_all rfl)) (jb 0) (jb 2)) (jlr (jN (jjZ (by with_unfolding_all rfl)) (jb 0) (QP.bb (ku (jf qS (jf qS (jf qS (jf qS (jf qS (jf qS (jf qS (jf qS jw)))))))))))))) (jh (jB (QP.d (y6 (QP.bb (ja8 (jb 0) qf (vw (QP.bb (ji7 qI))))) (yI (jb 1) (QP.bb (yU (QP.bb (y6 (QP.bb (jnq PySem.F.plainAttrs_str PySem.F.slot_str_index PySem.F.type_str_index jgG jfL (jb 1) (jd (yI (jb 0) (QP.bb (ji7 qI))) ji))) qI)) qI)))))))
  jO)
  (jh (jB (QP.d (QB.f (jb 0))))))))⟩⟩
theorem wY(T:Txt P w K mg cl):qh K mg "_law_amount" JD Ju->Vp P w K mg cl
 | ⟨_,_,F⟩=>⟨_,_,F,λbase=>kt F.fn uf rfl λa A outer s H E b=>⟨_,show QSs _ _ _ _ _ Jz from
  (je (yL (jN (c_eq b) (QP.bb (yU (jb 0) qI)) qI) (jh (jB (QP.d (y6 qI (QP.bb (yU (QP.bb (vG (jb 0) qI)) qI))))))
  jO)
  (jh (jB (QP.d (y6 qI (QP.bb (yU (QP.bb (KR (jb 0) (jb 0))) (QP.bb (jmj qI qI)))))))))⟩⟩
theorem u7(T:Txt P w K mg cl):qh K mg "_law_looks" Yf Ym->zu P w K mg cl
 | ⟨_,_,F⟩=>⟨_,_,F,λbase=>kt F.fn JK rfl λa A outer s H E b=>⟨_,show QSs _ _ _ _ _ Ki from
  (je (ju JK.nd (QP.d (ku jw)))
  (je (vR PassesOwn.never rfl (k9 T.n_range (jd (QP.bb (yU (jb 0) qI)) ji)) (jr JK.nd)
  (je (ju JK.nd (QP.d (y6 (QP.bb (y6 (QP.bb (vG (jb 0) qI)) (QP.bb (KR (jb 5) qI)))) (QP.bb (KR (QP.bb (KR qI (jb 5))) (QP.bb (vG (jb 0) qI)))))))
  (jh (YU (jb 4) (k6 (jf (QB.f (yI (jb 1) (QP.bb (yU (jb 6) (QP.bb (Jj (zZ rfl) jcJ T.n_min xB (jd qI (jd (QP.bb (vO T.n_len (jd (jb 1) ji))) ji)))))))) (jf (y6 qI (QP.bb (yU (QP.bb (vG (jb 6) qI)) (jb 3)))) (jf (QB.f (yI (yI (jb 2) (QP.bb (yU (QP.bb (vG (jb 6) (QP.bb (KR qI (jb 3))))) (QP.bb (vO T.n_len (jd (jb 2) ji)))))) qI)) jw))))))))
  (jh (jB (jgt 4)))))⟩⟩
theorem uc(T:Txt P w K mg cl):qh K mg "_law_guards" Js Jr->Q1 P w K mg cl
 | ⟨_,_,F⟩=>⟨_,_,F,λbase=>kt F.fn yo rfl λb A outer s H E a=>⟨_,show QSs _ _ _ _ _ Vh from
  (je (ju yo.nd (QP.d (ku jw)))
  (je (vR PassesOwn.never rfl (VZ (QB.f (jb 3))) (Jo rfl (jt (jr yo.nd) (jt (jr yo.nd) (jt (jr yo.nd) vd))))
  (jh (vR PassesOwn.never rfl (VZ (QB.f (jb 7))) (jr yo.nd)
  (jh (yL (jN (c_eq a) (yI (jb 8) qI) (QP.bb qS)) (jh (jd7 (jb 4) (QP.bb (vh (bkF yo ["_law_claim"]) rfl (vg (yI (jb 8) qI)) cgN Q9 (λ_ _ _ _=>(QB.f (jb 0)))))))
  (jh (yL (jN (c_eq a) (yI (jb 8) qI) (QP.bb qS)) (jh (YU (jb 4) (QB.f (yI (jb 8) qI))))
  jO)))))))
  (je (ju yo.nd (QP.d (ku jw)))
  (je (vR PassesOwn.never rfl (YX T.n_enumerate (jf (QB.f (jb 1)) jw)) (Jo rfl (jt (jr yo.nd) (jt (jr yo.nd) vd)))
  (jh (yL (QW.t (Jc (jN (c_notin (by with_unfolding_all rfl)) (jb 11) (jb 4)) (Jc (jN je6 (QP.bb (vO T.n_len (jd (jb 2) ji))) qI) (qG (jN je6 (QP.bb (yU (QP.bb (vG (jb 0) (QP.bb (y6 (QP.bb (KR qI (jb 10))) qI)))) qI)) qI))))) (jh (YU (jb 9) (k6 (jf (QB.f (yI (jb 2) (QP.bb (yU (QP.bb (vG (jb 0) (QP.bb (y6 (QP.bb (KR qI (jb 10))) qI)))) (QP.bb (vO T.n_len (jd (jb 2) ji))))))) (jf (QB.f (jb 11)) jw)))))
  jO)))
  (jh (jB (jgt 9)))))))⟩⟩
theorem uY(T:Txt P w K mg cl):qh K mg "_law_order" YQ Yl->xH P w K mg cl
 | ⟨_,_,F⟩=>⟨_,_,F,λbase=>kt F.fn kC rfl λb A outer s H E a=>⟨_,show QSs _ _ _ _ _ Yb from
  (je (ju kC.nd (QP.d (kN (wj rfl) jbH T.n_dict J9 (jd (yI (jb 1) qI) ji))))
  (je (vR PassesOwn.never rfl (VZ (QB.f (yI (jb 0) qI))) (Jo rfl (jt (jr kC.nd) (jt (jr kC.nd) (jt (jr kC.nd) vd))))
  (jh (yL (jN jj8 (kG a (jb 2) (jb 3)) (jb 4)) (jh (jB (QP.d (QB.f (yI (QP.bb (vh (bkF kC ["_law_order_here","_law_name"]) rfl (vg (yI (jb 0) qI)) cgN (λ_ _ _ _=>(Ye (jN (QK.c_eq (K:=K) rfl a) (QK.ix (K:=K) rfl (jb 0) qI) (jb 1)))) (λ_ _ _ _=>(QB.f (jb 0))))) qI)))))
  jO)))
  (jh (jB (QP.d (QB.f (yI (yI (jb 0) qI) qI)))))))⟩⟩
theorem zU(T:Txt P w K mg cl):qh K mg "_law_greatest" qr qo->V2 P w K mg cl
 | ⟨_,_,F⟩=>⟨_,_,F,λbase=>kt F.fn vn rfl λb A outer s H E a=>⟨_,show QSs _ _ _ _ _ JQ from
  (je (ju vn.nd (QP.d jbO))
  (je (vR PassesOwn.never rfl (VZ (QB.f (yI (jb 0) qI))) (Jo rfl (jt (jr vn.nd) (jt (jr vn.nd) (jt (jr vn.nd) vd))))
  (jh (jex a (jb 1) (jb 2) (QP.bb (Jj (xl rfl) jcJ T.n_max xj (jd (jee a (jb 1) (jb 2) qI) (jd (jb 3) ji)))))))
  (jh (jB (jjz (bkF vn ["_law_claim","_law_most"]) rfl (jfQ (jb 1)) cgN Q9 (λ_ _ _ _=>(k6 (jf (QB.f (jb 0)) (jf (QB.f (kG a (jb 1) (jb 0))) jw)))))))))⟩⟩
theorem uX(T:Txt P w K mg cl):qh K mg "_law_named" Yv Yi->Kq P w K mg cl
 | ⟨_,_,F⟩=>⟨_,_,F,λbase=>kt F.fn JI rfl λa A outer s H E b=>⟨_,show QSs _ _ _ _ _ V5 from
  (je (ju JI.nd (QP.d (ku jw)))
  (je (vR PassesOwn.never rfl (VZ (QB.f (jb 0))) (jr JI.nd)
  (jh (yL (QW.t (Jc (jN (c_eq b) (yI (jb 3) qI) (QP.bb qS)) (qG (jN (jjZ (by with_unfolding_all rfl)) (QP.bb qS) (jb 1))))) (jh (jd7 (jb 2) (QP.bb (vh (bkF JI ["_law_claim"]) rfl (vg (yI (jb 3) qI)) cgN Q9 (λ_ _ _ _=>(QB.f (jb 0)))))))
  (jh (yL (jN (jjZ (by with_unfolding_all rfl)) (yI (jb 3) qI) (jb 1)) (jh (YU (jb 2) (QB.f (yI (jb 3) qI))))
  jO)))))
  (jh (jB (jgt 2)))))⟩⟩
theorem jaE(T:Txt P w K mg cl):qh K mg "order_of" VM VO->Q0 P w K mg cl->wv P w K mg cl
 | ⟨_,_,F⟩,⟨_,_,a,b⟩=>⟨_,_,F,λbase=>kt F.fn jbl rfl λc A outer s H E e=>⟨_,show QSs _ _ _ _ _ Vz from
  (jh (jB (QP.d (jT a (b _) (e.mono (by decide)) (jd (jb 0) (jd (QP.bb (kN (wj rfl) jbH T.n_dict J9 (jd (yI (jb 1) qI) ji))) ji))))))⟩⟩
theorem YV(T:Txt P w K mg cl):jcR K (cl 0) "__init__" "OutlineDay.__init__" y9 y8->Y8 P w K mg cl->qC P w K mg cl
 | ⟨_,_,F⟩,⟨_,_,b,c⟩=>⟨_,_,F,λbase=>jhm F.fn yO rfl λd A outer s H E a=>⟨_,show QSs _ _ _ _ _ va from
  (je (KW T.C0 T.N_claims (jb 0) (vh (bkF yO ["claim"]) rfl (vg (yI (jb 1) qI)) cgN Q9 (λ_ _ _ _=>(QB.f (QK.ix (K:=K) rfl (jb 0) qI)))))
  (je (KW T.C0 T.N_pots (jb 0) (vh (bkF yO ["pot"]) rfl (vg (yI (jb 1) qI)) cgN Q9 (λ_ _ _ _=>(QB.f (QK.ix (K:=K) rfl (jb 0) qI)))))
  (je (KW T.C0 T.N_guards (jb 0) (QB.f (yI (jb 1) qI)))
  (je (KW T.C0 T.N_greatest (jb 0) (jT b (c _) (a.mono (by decide)) (jd (jb 1) ji)))
  (je (KW T.C0 T.N_runs (jb 0) (QB.f (yI (jb 2) qI)))
  (je (KW T.C0 T.N_alive (jb 0) (jd5 rfl T.n_dict T.n_zip (jd (QA T.C0 T.N_claims (jb 0)) (jd (yI (jb 2) qI) ji))))
  (je (vR PassesOwn.never rfl (VZ (QB.f (jb 3))) (jr yO.nd)
  (jh (KN a (uU T.C0 T.N_alive (jax (jb 0))) (jb 4) jcL)))
  (je (KW T.C0 T.N_full (jb 0) (jd5 rfl T.n_dict T.n_zip (jd (QA T.C0 T.N_pots (jb 0)) (jd (yI (jb 2) qI) ji))))
  (je (KW T.C0 T.N_served (jb 0) jbO)
  (jh (KW T.C0 T.N_repaid (jb 0) jbO)))))))))))⟩⟩
theorem Ke(T:Txt P w K mg cl):jcR K (cl 0) "needs" "OutlineDay.needs" vL vM->yP P w K mg cl->JG P w K mg cl
 | ⟨_,_,F⟩,⟨_,_,b,c⟩=>⟨_,_,F,λbase=>kt F.fn kq rfl λe A outer s H E a=>⟨_,show QSs _ _ _ _ _ jS from
  (je (ju kq.nd (QP.d (QB.f (yI (jb 1) qI))))
  (je (yL (jN (c_eq a) (jb 2) (QP.bb qS)) (jh (jB (QP.d (jbQ T.C0 b (c _) (a.mono (by decide)) (jb 0) (jd (yI (jb 1) qI) ji)))))
  jO)
  (je (yL (jN (c_eq a) (jb 2) (QP.bb qS)) (jh (jB (QP.d (Jj (jgA rfl) jlv T.n_any jdS (jd (QP.bb (vh (bkF kq ["claim","self"]) rfl (vg (yI (jb 1) qI)) cgN Q9 (λ_ _ _ _=>(QK.meth (K:=K) rfl T.C0 b (c _) (a.mono (by decide)) (jb 1) (jd (jb 0) ji))))) ji)))))
  jO)
  (je (yL (jN (c_eq a) (jb 2) (QP.bb qS)) (jh (jB (QP.d (VQ (kG a (QA T.C0 T.N_alive (jb 0)) (yI (jb 1) qI)) (Ko (wT a (yI (jb 1) qI) (QA T.C0 T.N_repaid (jb 0))))))))
  jO)
  (je (yL (jN (c_eq a) (jb 2) (QP.bb qS)) (jh (jB (QP.d (jhQ (kG a (QA T.C0 T.N_full (jb 0)) (yI (jb 1) qI))))))
  jO)
  (jh (jB (QP.d jcL))))))))⟩⟩
theorem JP(T:Txt P w K mg cl):jcR K (cl 0) "days_behind" "OutlineDay.days_behind" yu yt->yP P w K mg cl->kE P w K mg cl
 | ⟨_,_,F⟩,⟨_,_,b,c⟩=>⟨_,_,F,λbase=>kt F.fn JT rfl λe A outer s H E a=>⟨_,show QSs _ _ _ _ _ vp from
  (jh (jB (QP.d (jm6 (kH (QP.bb (jbQ T.C0 b (c _) (a.mono (by decide)) (jb 0) (jd (jb 1) ji)))) (Jj (zZ rfl) jcJ T.n_min xB (jd (QP.bb (y6 (jb 2) qI)) (jd (kG a (QA T.C0 T.N_greatest (jb 0)) (jb 1)) ji))) jd9))))⟩⟩
theorem uV(T:Txt P w K mg cl):qh K mg "_law_words" Yr YD->K5 P w K mg cl->Jh P w K mg cl->xf P w K mg cl->xJ P w K mg cl
 | ⟨_,_,F⟩,⟨_,_,g,h⟩,⟨_,_,b,c⟩,⟨_,_,e,i⟩=>⟨_,_,F,λbase=>kt F.fn yj rfl λj A outer s H E a=>⟨_,show QSs _ _ _ _ _ Yy from
  (je (ju yj.nd (QP.d qS))
  (je (ju yj.nd (QP.d (jT b (c _) (a.mono (by decide)) (jd (jb 0) (jd qI ji)))))
  (je (ju yj.nd (QP.d (jT g (h _) (a.mono (by decide)) (jd (QP.bb (y6 (QP.bb (KR (jb 4) (jb 4))) (jb 4))) (jd qI ji)))))
  (je (ju yj.nd (QP.d (y6 qI (QP.bb (yU (QP.bb (vG (jb 4) qI)) (jb 2))))))
  (je (ju yj.nd (QP.d (yU (QP.bb (vG (jb 4) qI)) (jb 6))))
  (je (ju yj.nd (QP.d (ku jw)))
  (je (vR PassesOwn.never rfl (k9 T.n_range (jd (jb 1) ji)) (jr yj.nd)
  (je (ju yj.nd (QP.d (QB.f (yI (jb 3) (QP.bb (yU (QP.bb (y6 (QP.bb (vG (jb 4) qI)) (jb 9))) qI))))))
  (je (yL (jN (c_eq a) (QP.bb (yU (jb 4) qI)) qI) (jh (ju yj.nd (QP.d (y6 (QP.bb (y6 (QP.bb (ja8 (jb 5) qf (vw (jb 7)))) (jb 10))) (QP.bb (ja8 (jb 5) (vw (QP.bb (y6 (jb 7) qI))) (vw (jb 6))))))))
  (jh (yL (jN (c_eq a) (QP.bb (yU (jb 4) qI)) qI) (jh (ju yj.nd (QP.d (ja8 (jb 5) qf (vw (QP.bb (y6 qI (QP.bb (yU (QP.bb (y6 (QP.bb (vG (jb 4) qI)) (jb 9))) (jb 2))))))))))
  (jh (ju yj.nd (QP.d (ja8 (QP.bb (y6 (jb 10) (QP.bb (jT g (h _) (a.mono (by decide)) (jd (QP.bb (jT b (c _) (a.mono (by decide)) (jd (jb 0) (jd (QP.bb (y6 (jb 9) qI)) ji)))) (jd qI ji)))))) qf (vw (QP.bb (y6 qI (QP.bb (yU (QP.bb (jT b (c _) (a.mono (by decide)) (jd (jb 0) (jd (QP.bb (y6 (jb 9) qI)) ji)))) (jb 2)))))))))))))
  (jh (YU (jb 8) (jT e (i _) (a.mono (by decide)) (jd (jb 11) ji)))))))
  (je (yL (jN (c_eq a) (QP.bb (yU (QP.bb (vG (jb 4) qI)) qI)) qI) (jh (jB (QP.d (jj6 rfl T.n_list T.n_reversed (jb 8)))))
  jO)
  (jh (jB (jgt 8)))))))))))⟩⟩
theorem jbm(T:Txt P w K mg cl):qh K mg "_law_rule" Vt Vv->Vp P w K mg cl->wg P w K mg cl
 | ⟨_,_,F⟩,⟨_,_,b,c⟩=>⟨_,_,F,λbase=>kt F.fn vP rfl λe A outer s H E a=>⟨_,show QSs _ _ _ _ _ yV from
  (je (ju vP.nd (QP.d (yU (jb 0) qI)))
  (je (ju vP.nd (QP.d (vG (jb 0) qI)))
  (je (ju vP.nd (QP.d (QB.f (yI (jb 1) (QP.bb (yU (jb 5) (QP.bb (vO T.n_len (jd (jb 1) ji)))))))))
  (je (yL (QW.t (Jc (jN (c_eq a) (jb 4) qI) (qG (jN je6 (QP.bb (vO T.n_len (jd (jb 1) ji))) qI)))) (je (ju vP.nd (QP.d (y6 qI (QP.bb (yU (QP.bb (vG (jb 5) qI)) (QP.bb (jmd (QP.bb (vO T.n_len (jd (jb 1) ji))) qI)))))))
  (je (vy (bkF vP ["_law_k","_law_claims","_law_rest"]) rfl (QI.b' (k9 T.n_range (jd (jb 7) ji))) cgN Q9 (λ_ _ _ _=>(QB.f (QK.ix (K:=K) rfl (jb 1) (QP.bb (yU (QP.bb (QK.add (K:=K) rfl (jb 2) (jb 0))) (QP.bb (QK.len (K:=K) rfl T.n_len (jd (jb 1) ji)))))))) vP.nd)
  (je (yL (jN (c_eq a) (QP.bb (yU (QP.bb (vG (jb 5) qI)) qI)) qI) (jh (ju vP.nd (QP.d (jj6 rfl T.n_list T.n_reversed (jb 8)))))
  jO)
  (jh (jB (QP.d (k6 (jf qS (jf (kN yn qm T.n_tuple yy (jd (jb 8) ji)) jw)))))))))
  jO)
  (je (yL (jN (c_eq a) (jb 4) qI) (jh (jB (QP.d (k6 (jf qS (jf (QB.f (jb 6)) jw))))))
  jO)
  (je (yL (QW.t (Jc (jN (c_eq a) (jb 4) qI) (qG (jN je6 (QP.bb (vO T.n_len (jd (jb 2) ji))) qI)))) (jh (jB (QP.d (k6 (jf qS (jf (QB.f (yI (jb 2) (QP.bb (yU (QP.bb (vG (jb 5) qI)) (QP.bb (vO T.n_len (jd (jb 2) ji))))))) jw))))))
  jO)
  (je (yL (QW.t (Jc (jN (c_eq a) (jb 4) qI) (Jc (jN je6 (QP.bb (vO T.n_len (jd (jb 3) ji))) qI) (qG (jN je6 (QP.bb (yU (QP.bb (vG (jb 5) qI)) qI)) qI))))) (jh (jB (QP.d (k6 (jf qS (jf (QB.f (yI (jb 3) (QP.bb (yU (QP.bb (vG (jb 5) qI)) (QP.bb (vO T.n_len (jd (jb 3) ji))))))) (jf (jT b (c _) (a.mono (by decide)) (jd (QP.bb (vG (jb 5) qI)) ji)) jw)))))))
  jO)
  (je (yL (QW.t (Jc (jN (c_eq a) (jb 4) qI) (qG (jN je6 (QP.bb (vO T.n_len (jd (jb 3) ji))) qI)))) (jh (jB (QP.d (k6 (jf qS (jf (QB.f (yI (jb 3) (QP.bb (yU (QP.bb (vG (jb 5) qI)) (QP.bb (vO T.n_len (jd (jb 3) ji))))))) jw))))))
  jO)
  (jh (jB (QP.d (k6 (jf qS (jf (QB.f (jb 6)) jw))))))))))))))⟩⟩
theorem jaw(T:Txt P w K mg cl):qh K mg "_law_needs" Yc YC->Kq P w K mg cl->zG P w K mg cl
 | ⟨_,_,F⟩,⟨_,_,b,c⟩=>⟨_,_,F,λbase=>kt F.fn Vq rfl λe A outer s H E a=>⟨_,show QSs _ _ _ _ _ vt from
  (je (yL (jN (c_eq a) (yI (jb 0) qI) (QP.bb qS)) (jh (jB (QP.d (VQ (kG a (jb 2) (yI (jb 0) qI)) (Ko (Vd (c_notin (by with_unfolding_all rfl)) (yI (jb 0) qI) (QP.bb (jT b (c _) (a.mono (by decide)) (jd (jb 1) (jd (QP.bb (ku (jf qS (jf qS (jf qS jw))))) ji))))))))))
  jO)
  (je (yL (jN (c_eq a) (yI (jb 0) qI) (QP.bb qS)) (je (ju Vq.nd (QP.d (jT b (c _) (a.mono (by decide)) (jd (jb 1) (jd (QP.bb (ku (jf qS (jf qS (jf qS jw))))) ji)))))
  (jh (jB (QP.d (Vd je6 (QP.bb (vO T.n_len (jd (QP.bb (vh (bkF Vq ["_law_claim","_law_living","_law_paid"]) rfl (vg (yI (jb 0) qI)) cgN (λ_ _ _ _=>(Ye (QW.t (Jc (kH (kG a (jb 1) (jb 0))) (qG (jN (QK.c_notin (K:=K) rfl (by with_unfolding_all rfl)) (jb 0) (jb 2))))))) (λ_ _ _ _=>(QB.f (jb 0))))) ji))) qI)))))
  jO)
  (je (yL (jN (c_eq a) (yI (jb 0) qI) (QP.bb qS)) (jh (jB (QP.d (VQ (kG a (jb 2) (yI (jb 0) qI)) (Ko (Vd (c_notin (by with_unfolding_all rfl)) (yI (jb 0) qI) (QP.bb (jT b (c _) (a.mono (by decide)) (jd (jb 1) (jd (QP.bb (ku (jf qS jw))) ji))))))))))
  jO)
  (jh (jB (QP.d (VQ (QP.bb (Vd (c_eq a) (yI (jb 0) qI) (QP.bb qS))) (VQ (QP.bb (jhQ (kG a (jb 3) (yI (jb 0) qI)))) (Ko (Vd (c_notin (by with_unfolding_all rfl)) (yI (jb 0) qI) (QP.bb (jT b (c _) (a.mono (by decide)) (jd (jb 1) (jd (QP.bb (ku (jf qS jw))) ji))))))))))))))⟩⟩
theorem wK(T:Txt P w K mg cl):qh K mg "_law_behind" JE JM->Kq P w K mg cl->QU P w K mg cl
 | ⟨_,_,F⟩,⟨_,_,b,c⟩=>⟨_,_,F,λbase=>kt F.fn jU rfl λe A outer s H E a=>⟨_,show QSs _ _ _ _ _ Y5 from
  (je (ju jU.nd (QP.d (jT b (c _) (a.mono (by decide)) (jd (jb 3) (jd (QP.bb (ku (jf qS (jf qS (jf qS jw))))) ji)))))
  (je (ju jU.nd (QP.d (ku jw)))
  (je (vR PassesOwn.never rfl (jki T.n_enumerate (jf (QB.f (yI (jb 2) qI)) jw)) (Jo rfl (jt (jr jU.nd) (jt (jr jU.nd) vd)))
  (je (ju jU.nd (QP.d (VQ (kG a (jb 4) (yI (jb 8) qI)) (Ko (Vd (c_notin (by with_unfolding_all rfl)) (yI (jb 8) qI) (jb 5))))))
  (jh (YU (jb 6) (k6 (jf (QB.f (yI (jb 8) qI)) (jf (jm6 (kH (jb 9)) (Jj (zZ rfl) jcJ T.n_min xB (jd (QP.bb (y6 (yI (jb 8) qI) qI)) (jd (yI (yI (jb 1) (jb 7)) qI) ji))) jd9) jw)))))))
  (je (ju jU.nd (QP.d (jT b (c _) (a.mono (by decide)) (jd (jb 3) (jd (QP.bb (ku (jf qS jw))) ji)))))
  (je (ju jU.nd (QP.d (kN yn qm T.n_tuple yy (jd (QP.bb (vh (bkF jU ["_law_row","_law_living","_law_gone"]) rfl (vg (yI (jb 0) qI)) cgN Q9 (λ_ _ _ _=>(VQ (kG a (jb 1) (QK.ix (K:=K) rfl (jb 0) qI)) (Ko (Vd (QK.c_notin (K:=K) rfl (by with_unfolding_all rfl)) (QK.ix (K:=K) rfl (jb 0) qI) (jb 2))))))) ji))))
  (je (ju jU.nd (QP.d (ku jw)))
  (je (vR PassesOwn.never rfl (YX T.n_enumerate (jf (QB.f (yI (jb 0) qI)) jw)) (Jo rfl (jt (jr jU.nd) (jt (jr jU.nd) vd)))
  (je (vy (bkF jU ["_law_pot","_law_claim","_law_row","_law_living","_law_paid"]) rfl (vg (yI (jb 0) qI)) (λ_ _ _ _=>(QK.g_tup (K:=K) rfl rfl (jt (jr (show(["_law_pot","_law_claim","_law_row","_law_living","_law_paid"]:List Str).Nodup by decide +kernel)) (jt (jr (show(["_law_pot","_law_claim","_law_row","_law_living","_law_paid"]:List Str).Nodup by decide +kernel)) vd)))) (λ_ _ _ _=>(Ye (QW.t (Jc (jN (QK.c_eq (K:=K) rfl a) (jb 0) (QK.ix (K:=K) rfl (jb 2) qI)) (Jc (kH (kG a (jb 3) (jb 1))) (qG (jN (QK.c_notin (K:=K) rfl (by with_unfolding_all rfl)) (jb 1) (jb 4)))))))) (λ_ _ _ _=>(QB.f (jb 1))) jU.nd)
  (jh (YU (jb 12) (VQ (QP.bb (jnl (yI (yI (jb 2) qI) (jb 7)) (Ko (Vd (jjZ (by with_unfolding_all rfl)) (yI (jb 8) qI) (QP.bb (jT b (c _) (a.mono (by decide)) (jd (jb 3) (jd (QP.bb (ku (jf qS jw))) ji)))))))) (Ko (Vd (c_eq a) (QP.bb (vO T.n_len (jd (jb 13) ji))) qI)))))))
  (jh (jB (QP.d (k6 (jf (kN yn qm T.n_tuple yy (jd (jb 6) ji)) (jf (QB.f (jb 11)) (jf (kN yn qm T.n_tuple yy (jd (jb 12) ji)) jw))))))))))))))⟩⟩
theorem qN(T:Txt P w K mg cl):jcR K (cl 0) "outline_behind" "OutlineDay.outline_behind" yd yg->kE P w K mg cl->yP P w K mg cl->v8 P w K mg cl
 | ⟨_,_,F⟩,⟨_,_,b,c⟩,⟨_,_,e,g⟩=>⟨_,_,F,λbase=>kt F.fn jq rfl λh A outer s H E a=>⟨_,show QSs _ _ _ _ _ yN from
  (je (ju jq.nd (QP.d (vh (bkF jq ["pot","claim","self"]) rfl (vg (QA T.C0 T.N_guards (jb 0))) (λ_ _ _ _=>(QK.g_tup (K:=K) rfl rfl (jt (jr (show(["pot","claim","self"]:List Str).Nodup by decide +kernel)) (jt (jr (show(["pot","claim","self"]:List Str).Nodup by decide +kernel)) vd)))) (λ_ _ _ _=>(Ye (kH (QP.bb (QK.meth (K:=K) rfl T.C0 e (g _) (a.mono (by decide)) (jb 2) (jd (jb 1) ji)))))) (λ_ _ _ _=>(QB.f (jb 0))))))
  (je (vy (bkF jq ["claim","days","self"]) rfl (vg (QA T.C0 T.N_runs (jb 0))) (λ_ _ _ _=>(QK.g_tup (K:=K) rfl rfl (jt (jr (show(["claim","days","self"]:List Str).Nodup by decide +kernel)) (jt (jr (show(["claim","days","self"]:List Str).Nodup by decide +kernel)) vd)))) Q9 (λ_ _ _ _=>(k6 (jf (QB.f (jb 0)) (jf (QK.meth (K:=K) rfl T.C0 b (c _) (a.mono (by decide)) (jb 2) (jd (jb 0) (jd (jb 1) ji))) jw)))) jq.nd)
  (je (vy (bkF jq ["claim","self"]) rfl (vg (QA T.C0 T.N_claims (jb 0))) cgN Q9 (λ_ _ _ _=>(VQ (kG a (QK.fld (K:=K) rfl T.C0 T.N_alive (jb 1)) (jb 0)) (Ko (wT a (jb 0) (QK.fld (K:=K) rfl T.C0 T.N_repaid (jb 1)))))) jq.nd)
  (je (vy (bkF jq ["pot","self","drawn"]) rfl (vg (QA T.C0 T.N_pots (jb 0))) cgN Q9 (λ_ _ _ _=>(VQ (kG a (QK.fld (K:=K) rfl T.C0 T.N_full (jb 1)) (jb 0)) (Ko (Vd (QK.c_notin (K:=K) rfl (by with_unfolding_all rfl)) (jb 0) (jb 2))))) jq.nd)
  (jh (jB (QP.d (k6 (jf (kN yn qm T.n_tuple yy (jd (jb 2) ji)) (jf (kN yn qm T.n_tuple yy (jd (jb 3) ji)) (jf (kN yn qm T.n_tuple yy (jd (jb 4) ji)) jw)))))))))))⟩⟩
theorem wE(T:Txt P w K mg cl):qh K mg "_law_orders" JN Jq->Jh P w K mg cl->wg P w K mg cl->QX P w K mg cl
 | ⟨_,_,F⟩,⟨_,_,c,e⟩,⟨_,_,b,g⟩=>⟨_,_,F,λbase=>kt F.fn j8 rfl λh A outer s H E a=>⟨_,show QSs _ _ _ _ _ Vi from
  (je (ju j8.nd (QP.d (ku (jf (ku (jf (QB.f (yI (jb 4) qI)) (jf (ku jw) (jf (ku jw) jw)))) jw))))
  (je (vR PassesOwn.never rfl (YX T.n_enumerate (jf (QB.f (jb 0)) jw)) (Jo rfl (jt (jr j8.nd) (jt (jr j8.nd) vd)))
  (je (ju j8.nd (QP.d (jT c (e _) (a.mono (by decide)) (jd (jb 7) (jd (QP.bb (y6 (jb 6) qI)) ji)))))
  (je (ju j8.nd (QP.d (vG (jb 8) qI)))
  (je (ju j8.nd (QP.d (QB.f (yI (jb 1) (QP.bb (yU (jb 9) (QP.bb (vO T.n_len (jd (jb 1) ji)))))))))
  (jiW (x:=11) j8.nd (jb 5) (QP.bb (ji7 qI)) (λ_=>rfl) (QW.t (Jc (jN (c_eq a) (QP.bb (yU (jb 8) qI)) qI) (qG (jN jmM (QP.bb (vO T.n_len (jd (jb 5) ji))) (QP.bb (vO T.n_len (jd (jb 4) ji))))))) (jh (YU (jb 5) (ku (jf (QB.f (yI (jb 4) (QP.bb (vO T.n_len (jd (jb 5) ji))))) (jf (ku jw) (jf (ku jw) jw))))))
  (jh (yL (jN je6 (QP.bb (yU (jb 8) qI)) qI) (je (ju j8.nd (QP.d (y6 qI (QP.bb (yU (QP.bb (vG (jb 9) qI)) qI)))))
  (je (yL (jN (c_eq a) (QP.bb (yU (QP.bb (vG (jb 9) qI)) qI)) qI) (jh (ju j8.nd (QP.d (y6 qI (QP.bb (yU (QP.bb (vG (jb 9) qI)) qI))))))
  jO)
  (jh (yL (jN (c_notin (by with_unfolding_all rfl)) (jb 10) (QP.bb (vh (bkF j8 ["_law_name","_law_many"]) rfl (vg (yI (jb 11) qI)) (λ_ _ _ _=>(QK.g_tup (K:=K) rfl rfl (jt (jr (show(["_law_name","_law_many"]:List Str).Nodup by decide +kernel)) (jt (jr (show(["_law_name","_law_many"]:List Str).Nodup by decide +kernel)) vd)))) Q9 (λ_ _ _ _=>(QB.f (jb 0)))))) (jh (jdQ (j:=1) (jb 11) (k6 (jf (QB.f (jb 10)) (jf (QB.f (jb 12)) jw)))))
  jO))))
  (jh (yL (jN jmM (QP.bb (vO T.n_len (jd (yI (jb 11) qI) ji))) qI) (jh (jdQ (j:=2) (jb 11) (jT b (g _) (a.mono (by decide)) (jd (jb 9) (jd (jb 1) (jd (jb 2) (jd (jb 3) ji)))))))
  jO)))))))))
  (jh (QS.fz 5 (jB (QP.d (vh (bkF j8 ["_law_row","_law_claims"]) rfl (vg (jb 5)) cgN Q9 (λ_ _ _ _=>(k6 (jf (QB.f (QK.ix (K:=K) rfl (jb 0) qI)) (jf (QB.f (QK.ix (K:=K) rfl (jb 0) qI)) (jf (QK.add (K:=K) rfl (QK.ix (K:=K) rfl (jb 0) qI) (QP.bb (ku (jf (k6 (jf qS (jf (QB.f (QK.ix (K:=K) rfl (jb 1) (QP.bb (yU (QP.bb (QK.len (K:=K) rfl T.n_len (jd (QK.ix (K:=K) rfl (jb 0) qI) ji))) (QP.bb (QK.len (K:=K) rfl T.n_len (jd (jb 1) ji))))))) jw))) jw)))) jw))))))))))))⟩⟩
theorem jcC(T:Txt P w K mg cl):qh K mg "_law_due" KZ Qa->QU P w K mg cl->zG P w K mg cl->xH P w K mg cl->jac P w K mg cl
 | ⟨_,_,F⟩,⟨_,_,e,g⟩,⟨_,_,b,h⟩,⟨_,_,c,i⟩=>⟨_,_,F,λbase=>kt F.fn jP rfl λj A outer s H E a=>⟨_,show QSs _ _ _ _ _ zE from
  (je (jh0 (QP.d (jT c (i _) (a.mono (by decide)) (jd (jb 0) (jd (jb 2) ji)))) (Jo rfl (jt (jr jP.nd) (jt (jr jP.nd) (jt (jr jP.nd) vd)))))
  (je (ju jP.nd (QP.d (kN (Qk rfl) jaG T.n_dict J9 (jd (QP.bb (vh (bkF jP ["_law_k","_law_pool_here","_law_outline"]) rfl (QI.b' (k9 T.n_range (jd (QP.bb (vO T.n_len (jd (yI (jb 0) qI) ji))) ji))) cgN Q9 (λ_ _ _ _=>(k6 (jf (QB.f (QK.ix (K:=K) rfl (QK.ix (K:=K) rfl (QK.ix (K:=K) rfl (jb 1) qI) (jb 0)) qI)) (jf (QB.f (QK.ix (K:=K) rfl (QK.ix (K:=K) rfl (jb 2) qI) (jb 0))) jw)))))) ji))))
  (je (ju jP.nd (QP.d (kN (Qk rfl) jaG T.n_dict J9 (jd (QP.bb (vh (bkF jP ["_law_k","_law_pool_here","_law_outline"]) rfl (QI.b' (k9 T.n_range (jd (QP.bb (vO T.n_len (jd (yI (jb 0) qI) ji))) ji))) cgN Q9 (λ_ _ _ _=>(k6 (jf (QB.f (QK.ix (K:=K) rfl (QK.ix (K:=K) rfl (QK.ix (K:=K) rfl (jb 1) qI) (jb 0)) qI)) (jf (QB.f (QK.ix (K:=K) rfl (QK.ix (K:=K) rfl (jb 2) qI) (jb 0))) jw)))))) ji))))
  (je (ju jP.nd (QP.d (vh (bkF jP ["_law_claim","_law_alive"]) rfl (vg (yI (jb 0) qI)) cgN (λ_ _ _ _=>(Ye (kH (kG a (jb 1) (jb 0))))) (λ_ _ _ _=>(QB.f (jb 0))))))
  (je (ju jP.nd (QP.d (ku jw)))
  (je (vR PassesOwn.never rfl (k9 T.n_range (jd (QP.bb (y6 (QP.bb (vO T.n_len (jd (jb 8) ji))) qI)) ji)) (jr jP.nd)
  (je (ju jP.nd (jf1 (Qk rfl) jaG T.n_dict J9 (jhT (jiG (bkF jP ["_law_claim","_law_alive","_law_eatable","_law_kills"]) rfl (jb 6) cgN Q9 (λ_ _ _ _=>(k6 (jf (QB.f (jb 0)) (jf (VQ (kG a (jb 1) (jb 0)) (Ko (Vd (QK.c_notin (K:=K) rfl (by with_unfolding_all rfl)) (jb 0) (QP.bb (QK.sl (K:=K) rfl (jb 2) qf (vw (jb 3))))))) jw))))) jkG)))
  (je (ju jP.nd (QP.d (y6 (QP.bb (vh (bkF jP ["_law_k","_law_rules","_law_living","_law_full"]) rfl (QI.b' (k9 T.n_range (jd (QP.bb (vO T.n_len (jd (jb 5) ji))) ji))) cgN (λ_ _ _ _=>(Ye (kH (QP.bb (QK.call (K:=K) rfl b (h _) (a.mono (by decide)) (jd (QK.ix (K:=K) rfl (jb 1) (jb 0)) (jd (QP.bb (QK.sl (K:=K) rfl (jb 1) qf (vw (jb 0)))) (jd (jb 2) (jd (jb 3) ji))))))))) (λ_ _ _ _=>(QB.f (jb 0))))) (QP.bb (ku (jf (vO T.n_len (jd (jb 5) ji)) jw))))))
  (je (yL (jN jj8 (QP.bb (Jj (zv rfl) jeK T.n_sum zM (jd (QP.bb (vh (bkF jP ["_law_claim","_law_tenths"]) rfl (vg (jb 4)) (λ_ _ _ _=>(QK.g_tup (K:=K) rfl rfl (jt (jr (show(["_law_claim","_law_tenths"]:List Str).Nodup by decide +kernel)) (jt (jr (show(["_law_claim","_law_tenths"]:List Str).Nodup by decide +kernel)) vd)))) Q9 (λ_ _ _ _=>(QB.f (jb 1))))) ji))) qI) (jh (ju jP.nd (QP.d (ja8 (jb 12) qf (vw qI)))))
  jO)
  (jh (jhJ PassesOwn.never rfl (jb 12) (jr jP.nd)
  (je (ju jP.nd (QP.d (ja8 (jb 5) qf (vw (jb 13)))))
  (je (yL (jN jj8 (QP.bb (Jj (zv rfl) jeK T.n_sum zM (jd (QP.bb (vh (bkF jP ["_law_claim","_law_tenths"]) rfl (vg (jb 4)) (λ_ _ _ _=>(QK.g_tup (K:=K) rfl rfl (jt (jr (show(["_law_claim","_law_tenths"]:List Str).Nodup by decide +kernel)) (jt (jr (show(["_law_claim","_law_tenths"]:List Str).Nodup by decide +kernel)) vd)))) Q9 (λ_ _ _ _=>(QB.f (jb 1))))) ji))) qI) (jh (ju jP.nd (QP.d (ku jw))))
  jO)
  (jh (YU (jb 9) (k6 (jf (QB.f (jb 10)) (jf (QB.f (jb 13)) (jf (jT e (g _) (a.mono (by decide)) (jd (jb 0) (jd (jb 1) (jd (jb 2) (jd (jb 14) (jd (jb 11) ji)))))) jw))))))))))))))
  (jh (jB (jgt 9)))))))))⟩⟩
theorem wI(T:Txt P w K mg cl):qh K mg "steps_with" JO Jw->qC P w K mg cl->JV P w K mg cl->JG P w K mg cl->v8 P w K mg cl->zS P w K mg cl->Q3 P w K mg cl
 | ⟨_,_,F⟩,⟨_,_,vS,vY⟩,⟨_,_,JZ,kY⟩,⟨_,_,KH,kJ⟩,⟨_,_,ka,yh⟩,⟨_,_,jaZ,Kv⟩=>⟨_,_,F,λbase=>kt F.fn kM rfl λc A outer s H E a=>⟨_,show QSs _ _ _ _ _ qA from
  (je (ju kM.nd (QP.d (jlO ⟨T.mk0,vS.mt.at_,vS.mt.fn,T.kc0⟩ vS.bd jdK (vY _) (a.mono (by decide)) T.mg0 (jf (QB.f (jb 0)) (jf (QB.f (jb 2)) (jf (QB.f (jb 4)) jw))) (λρ b h=>by rw[(KQ (KQ (KQ jbJ))) ρ b h]))))
  (je (ju kM.nd (QP.d (ku jw)))
  (je (vR PassesOwn.never rfl (YX T.n_enumerate (jf (QB.f (yI (jb 1) qI)) jw)) (Jo rfl (jt (jr kM.nd) (jt (jr kM.nd) vd)))
  (jh (yL (kH (QP.bb (jbQ T.C0 KH (kJ _) (a.mono (by decide)) (jb 5) (jd (jb 8) ji)))) (je (YU (jb 6) (k6 (jf (QB.f (jb 3)) (jf (QB.f (jb 7)) (jf (jdX T.C0 ka (yh _) (a.mono (by decide)) (jb 5)) jw)))))
  (je (yL (jN jj8 (QP.bb (jT jaZ (Kv _) (a.mono (by decide)) (jd (yI (jb 1) qI) ji))) qI) (jh (jB (jgt 6)))
  jO)
  (jh (jhM (jiS T.C0 JZ.mt JZ.bd jdK (kY _) (a.mono (by decide)) (jb 5) (jf (QB.f (jb 8)) jw) (λρ b h=>by rw[(KQ jbJ) ρ b h]))))))
  jO)))
  (je (YU (jb 6) (k6 (jf (QB.f (jb 3)) (jf (vO T.n_len (jd (yI (jb 1) qI) ji)) (jf (jdX T.C0 ka (yh _) (a.mono (by decide)) (jb 5)) jw)))))
  (jh (jB (jgt 6)))))))⟩⟩
theorem jaT(T:Txt P w K mg cl):qh K mg "_law_pool" VJ VA->Vp P w K mg cl->YE P w K mg cl->Q1 P w K mg cl->zu P w K mg cl->Jh P w K mg cl->QX P w K mg cl->xW P w K mg cl
 | ⟨_,_,F⟩,⟨_,_,qB,vq⟩,⟨_,_,kK,yX⟩,⟨_,_,uZ,Vr⟩,⟨_,_,jba,Kn⟩,⟨_,_,vi,j9⟩,⟨_,_,jag,Vj⟩=>⟨_,_,F,λbase=>kt F.fn yc rfl λb A outer s H E a=>⟨_,show QSs _ _ _ _ _ Qz from
  (je (ju yc.nd (QP.d (jT vi (j9 _) (a.mono (by decide)) (jd (QP.bb (jT kK (yX _) (a.mono (by decide)) (jd (jb 0) (jd qI ji)))) (jd qI ji)))))
  (je (ju yc.nd (QP.d (jT vi (j9 _) (a.mono (by decide)) (jd (QP.bb (jT kK (yX _) (a.mono (by decide)) (jd (jb 0) (jd qI ji)))) (jd qI ji)))))
  (je (ju yc.nd (QP.d (ja8 (jb 1) (vw qI) (vw (QP.bb (y6 qI (QP.bb (yU (jb 5) qI))))))))
  (je (ju yc.nd (QP.d (ja8 (jb 1) (vw qI) (vw (QP.bb (y6 qI (QP.bb (yU (QP.bb (vG (jb 5) qI)) qI))))))))
  (je (QS.fz 8 (QS.fz 7 (ju yc.nd (QP.d (jT jag (Vj _) (a.mono (by decide)) (jd (QP.fzb (ja8 (jb 0) (vw qI) qf)) (jd (jb 7) (jd (jb 8) (jd (jb 3) (jd (jb 2) ji))))))))))
  (je (ju yc.nd (QP.d (ku jw)))
  (je (QS.fz 7 (vR PassesOwn.never rfl (YX T.n_enumerate (jf (QB.f (jb 7)) jw)) (Jo rfl (jt (jr yc.nd) (jt (jr yc.nd) vd)))
  (jh (YU (jb 10) (k6 (jf (QB.f (jb 12)) (jf (jT qB (vq _) (a.mono (by decide)) (jd (QP.bb (vG (jb 6) (QP.bb (y6 (jb 11) qI)))) ji)) (jf (jT qB (vq _) (a.mono (by decide)) (jd (QP.bb (y6 (QP.bb (vG (jb 6) (QP.bb (y6 (jb 11) qI)))) (jb 11))) ji)) jw))))))))
  (je (vy (bkF yc ["_law_k","_law_names","_law_first"]) rfl (QI.b' (k9 T.n_range (jd (QP.bb (yU (QP.bb (vG (jb 5) qI)) (QP.bb (y6 (QP.bb (vO T.n_len (jd (jb 7) ji))) qI)))) ji))) cgN Q9 (λ_ _ _ _=>(QB.f (QK.ix (K:=K) rfl (jb 1) (QP.bb (yU (QP.bb (QK.add (K:=K) rfl (QP.bb (vG (jb 2) qI)) (jb 0))) (QP.bb (QK.len (K:=K) rfl T.n_len (jd (jb 1) ji)))))))) yc.nd)
  (je (ju yc.nd (QP.d (jT jba (Kn _) (a.mono (by decide)) (jd (QP.bb (vG (jb 6) qI)) (jd (jb 7) (jd (jb 9) (jd (QP.bb (vG (jb 4) (QP.bb (Jj (xl rfl) jcJ T.n_max xj (jd qI (jd (QP.bb (vO T.n_len (jd (jb 8) ji))) ji)))))) ji)))))))
  (je (QS.fz 8 (vy (bkF yc ["_law_k","_law_name","_law_second"]) rfl (QI.b' (YX T.n_enumerate (jf (QB.f (jb 8)) jw))) (λ_ _ _ _=>(QK.g_tup (K:=K) rfl rfl (jt (jr (show(["_law_k","_law_name","_law_second"]:List Str).Nodup by decide +kernel)) (jt (jr (show(["_law_k","_law_name","_law_second"]:List Str).Nodup by decide +kernel)) vd)))) Q9 (λ_ _ _ _=>(k6 (jf (QB.f (jb 1)) (jf (QK.call (K:=K) rfl qB (vq _) (a.mono (by decide)) (jd (QP.bb (QK.add (K:=K) rfl (QP.bb (vG (jb 2) qI)) (jb 0))) ji)) jw)))) yc.nd))
  (jh (QS.fz 10 (QS.fz 15 (QS.fz 13 (QS.fz 9 (QS.fz 14 (jB (QP.d (k6 (jf (QB.f (yI (jb 1) qI)) (jf (QB.f (jb 10)) (jf (QB.f (jb 15)) (jf (QB.f (jb 13)) (jf (QB.f (jb 9)) (jf (QB.f (jb 14)) (jf (jT uZ (Vr _) (a.mono (by decide)) (jd (QP.bb (vG (jb 5) qI)) (jd (jb 7) (jd (jb 8) (jd (jb 9) ji))))) jw))))))))))))))))))))))))))⟩⟩
theorem jbt(T:Txt P w K mg cl):qh K mg "steps_of" Vx VG->Qc P w K mg cl->wv P w K mg cl->Q3 P w K mg cl->xX P w K mg cl
 | ⟨_,_,F⟩,⟨_,_,e,g⟩,⟨_,_,b,h⟩,⟨_,_,c,i⟩=>⟨_,_,F,λbase=>kt F.fn vZ rfl λj A outer s H E a=>⟨_,show QSs _ _ _ _ _ QC from
  (je (ju vZ.nd (QP.d (jT e (g _) (a.mono (by decide)) (jd (jb 0) (jd (QP.bb (jT b (h _) (a.mono (by decide)) (jd (jb 0) (jd (jb 1) ji)))) ji)))))
  (je (ju vZ.nd (QP.d (jd5 rfl T.n_dict T.n_zip (jd (QP.bb (vh (bkF vZ ["claim"]) rfl (vg (yI (jb 0) qI)) cgN Q9 (λ_ _ _ _=>(QB.f (QK.ix (K:=K) rfl (jb 0) qI))))) (jd (yI (jb 1) qI) ji)))))
  (je (vy (bkF vZ ["claim","alive"]) rfl (vg (yI (jb 0) qI)) cgN (λ_ _ _ _=>(Ye (kH (kG a (jb 1) (jb 0))))) (λ_ _ _ _=>(QB.f (jb 0))) vZ.nd)
  (je (ju vZ.nd (QP.d (ku jw)))
  (je (vR PassesOwn.never rfl (k9 T.n_range (jd (QP.bb (y6 (QP.bb (vO T.n_len (jd (jb 4) ji))) qI)) ji)) (jr vZ.nd)
  (jh (jd7 (jb 5) (QP.bb (jT c (i _) (a.mono (by decide)) (jd (jb 0) (jd (jb 2) (jd (jb 1) (jd (jb 6) (jd (QP.bb (ja8 (jb 4) qf (vw (jb 6)))) ji))))))))))
  (jh (jB (jgt 5))))))))⟩⟩
theorem jcQ(T:Txt P w K mg cl):qh K mg "_law_one" KC K6->YE P w K mg cl->xW P w K mg cl->xJ P w K mg cl->uB P w K mg cl
 | ⟨_,_,F⟩,⟨_,_,c,e⟩,⟨_,_,b,h⟩,⟨_,_,f,g⟩=>⟨_,_,F,λbase=>kt F.fn Qu rfl λi A outer s H E a=>⟨_,show QSs _ _ _ _ _ xa from
  (je (ju Qu.nd (QP.d (jT f (g _) (a.mono (by decide)) (jd (QP.bb (jT c (e _) (a.mono (by decide)) (jd (jb 0) (jd qI ji)))) (jd qI (jd qI ji))))))
  (je (ju Qu.nd (QP.d (jT f (g _) (a.mono (by decide)) (jd (QP.bb (jT c (e _) (a.mono (by decide)) (jd (jb 0) (jd qI ji)))) (jd qI (jd qI ji))))))
  (jh (QS.fz 3 (QS.fz 2 (jB (QP.d (jT b (h _) (a.mono (by decide)) (jd (QP.fzb (ja8 (jb 0) qf (vw qI))) (jd (jb 2) (jd (jb 3) (jd (QP.fzb (ja8 (jb 2) (vw qI) qf)) (jd (jb 1) ji)))))))))))))⟩⟩
theorem uE(T:Txt P w K mg cl):qh K mg "_law_alike" YJ Jf->xL P w K mg cl
 | ⟨_,_,F⟩=>⟨_,_,F,λbase=>by
  have b:∀ n,FnOk P w K mg base CX0 (0+n) _ _ Jf (spP ⟨K,cl⟩ (yf n) 2):=λn=>by
   induction n with
   | zero=>exact jiC
   | succ n c =>
    have e:=F;exact kt F.fn QY rfl λf A outer s H E a=>⟨_,show QSs _ _ _ _ _ (kz (yf n)) from
    (je (yL (kH (QP.bb (zy (T:="bool") (by decide) T.n_isinstance T.n_bool Qh (jb 1)))) (jh (jB (QP.d (VQ (QP.bb (zy (T:="bool") (by decide) T.n_isinstance T.n_bool Qh (jb 0))) (Ko (Vd (c_eq a) (jb 0) (jb 1)))))))
    jO)
    (je (yL (kH (QP.bb (zy (T:="str") (by decide) T.n_isinstance T.n_str jam (jb 1)))) (jh (jB (QP.d (VQ (QP.bb (zy (T:="str") (by decide) T.n_isinstance T.n_str jam (jb 0))) (Ko (Vd (c_eq a) (jb 0) (jb 1)))))))
    jO)
    (je (yL (kH (QP.bb (zy (T:="int") (by decide) T.n_isinstance T.n_int uL (jb 1)))) (jh (jB (QP.d (VQ (QP.bb (zy (T:="int") (by decide) T.n_isinstance T.n_int uL (jb 0))) (VQ (QP.bb (jhQ (QP.bb (zy (T:="bool") (by decide) T.n_isinstance T.n_bool Qh (jb 0))))) (Ko (Vd (c_eq a) (jb 0) (jb 1))))))))
    jO)
    (je (yL (QW.t (Jc (kH (QP.bb (zy (T:="tuple") (by decide) T.n_isinstance T.n_tuple yy (jb 1)))) (qG (jaa (kH (QP.bb (zy (T:="tuple") (by decide) T.n_isinstance T.n_tuple yy (jb 0)))))))) (jh (jB (QP.d jcL)))
    jO)
    (je (yL (QW.t (Jc (kH (QP.bb (zy (T:="list") (by decide) T.n_isinstance T.n_list x3 (jb 1)))) (qG (jaa (kH (QP.bb (zy (T:="list") (by decide) T.n_isinstance T.n_list x3 (jb 0)))))))) (jh (jB (QP.d jcL)))
    jO)
    (je (yL (jN (jng a) (QP.bb (vO T.n_len (jd (jb 0) ji))) (QP.bb (vO T.n_len (jd (jb 1) ji)))) (jh (jB (QP.d jcL)))
    jO)
    (je (vR PassesOwn.never rfl (k9 T.n_range (jd (QP.bb (vO T.n_len (jd (jb 1) ji))) ji)) (jr QY.nd)
    (jh (yL (jaa (kH (QP.bb (jT e c (a.mono (by first | exact M8 _ | exact N8 (by decide) (Nat.le_add_right _ _))) (jd (yI (jb 0) (jb 2)) (jd (yI (jb 1) (jb 2)) ji)))))) (jh (jB (QP.d jcL)))
    jO)))
    (jh (jB (QP.d jcL))))))))))⟩
  exact b 8⟩
theorem jkn(T:Txt P w K mg cl):qh K mg "law" u9 jgu->xL P w K mg cl->jac P w K mg cl->V2 P w K mg cl->Jh P w K mg cl->uB P w K mg cl->xX P w K mg cl->jl4 P w K mg cl
 | ⟨_,_,F⟩,⟨_,_,Ys,kU⟩,⟨_,_,jdd,zj⟩,⟨_,_,xU,JU⟩,⟨_,_,vi,j9⟩,⟨_,_,uP,KG⟩,⟨_,_,we,VF⟩=>⟨_,_,F,λbase=>kt F.fn JH rfl λb A outer s H E a=>⟨_,show QSs _ _ _ _ _ jh9 from
  (je (ju JH.nd (QP.d (jT uP (KG _) (a.mono (by decide)) (jd (jb 0) (jd qI ji)))))
  (je (QS.fz 1 (ju JH.nd (QP.d (jT xU (JU _) (a.mono (by decide)) (jd (jb 1) ji)))))
  (je (QS.fz 2 (vR PassesOwn.never rfl (YX T.n_enumerate (jf (y6 (QP.bb (ku (jf jd9 jw))) (QP.bb (ja8 (jb 0) qf (vw qI)))) jw)) (Jo rfl (jt (jr JH.nd) (jt (jr JH.nd) vd)))
  (je (ju JH.nd (QP.d (jT vi (j9 _) (a.mono (by decide)) (jd (jb 4) (jd (QP.bb (y6 (jb 3) qI)) ji)))))
  (je (QS.fz 2 (vy (bkF JH ["_law_j","_law_row","_law_m"]) rfl (QI.b' (YX T.n_enumerate (jf (QB.f (jb 2)) jw))) (λ_ _ _ _=>(QK.g_tup (K:=K) rfl rfl (jt (jr (show(["_law_j","_law_row","_law_m"]:List Str).Nodup by decide +kernel)) (jt (jr (show(["_law_j","_law_row","_law_m"]:List Str).Nodup by decide +kernel)) vd)))) Q9 (λ_ _ _ _=>(k6 (jf (QB.f (QK.ix (K:=K) rfl (jb 1) qI)) (jf (yU (QP.bb (vG (jb 2) (QP.bb (QK.add (K:=K) rfl qI (QP.bb (KR qI (jb 0))))))) (QP.bb (QK.add (K:=K) rfl (QK.ix (K:=K) rfl (jb 1) qI) qI))) jw)))) JH.nd))
  (je (ju JH.nd (QP.d (kN yn qm T.n_tuple yy (jd (QP.bb (vh (bkF JH ["_law_j","_law_m"]) rfl (QI.b' (k9 T.n_range (jd (QP.bb (vO T.n_len (jd (yI (jb 1) qI) ji))) ji))) cgN Q9 (λ_ _ _ _=>(Vd je6 (QP.bb (yU (QP.bb (vG (jb 1) (QP.bb (QK.add (K:=K) rfl qI (jb 0))))) qI)) qI)))) ji))))
  (je (ju JH.nd (QP.d (k6 (jf (kN yn qm T.n_tuple yy (jd (jb 6) ji)) (jf (QB.f (jb 7)) (jf (kN yn qm T.n_tuple yy (jd (QP.bb (vh (bkF JH ["_law_j","_law_m"]) rfl (QI.b' (k9 T.n_range (jd (QP.bb (vO T.n_len (jd (yI (jb 1) qI) ji))) ji))) cgN Q9 (λ_ _ _ _=>(Vd (QK.c_eq (K:=K) rfl a) (QP.bb (yU (QP.bb (vG (jb 1) (QP.bb (QK.add (K:=K) rfl qI (jb 0))))) qI)) qI)))) ji)) jw))))))
  (je (ju JH.nd (QP.d (jT we (VF _) (a.mono (by decide)) (jd (jb 1) (jd (jb 8) ji)))))
  (je (ju JH.nd (QP.d (jT jdd (zj _) (a.mono (by decide)) (jd (jb 1) (jd (jb 2) (jd (jb 8) ji))))))
  (je (yL (jaa (kH (QP.bb (jT Ys (kU _) (a.mono (by decide)) (jd (jb 9) (jd (jb 10) ji)))))) (jh (jB (QP.d jcL)))
  jO)
  (je (jjp (jb 9))
  (jh (yL (QW.t (Jc (jN (c_eq a) (jb 3) qI) (qG (jaa (kH (QP.bb (jT Ys (kU _) (a.mono (by decide)) (jd (QP.bb (jT we (VF _) (a.mono (by decide)) (jd (jb 1) (jd (jb 8) ji)))) (jd (jb 10) ji))))))))) (jh (jB (QP.d jcL)))
  jO))))))))))))
  (jh (jB (QP.d (Vd (c_eq a) (jb 1) (QP.bb (jT uP (KG _) (a.mono (by decide)) (jd (jb 0) (jd qI ji)))))))))))⟩⟩
end
abbrev jgW(ns:List Int):Prop:=∀ x∈ns,Builtin.Int.intBits x<=2 ^ 20
abbrev Lt(w:List Nat):Prop:=∀ c∈w,97<=c/\c<=122
theorem uw  (h1:Lt a) (h2:Lt b):Lt (a++b):=λc d=>(N1.mp d).elim (h1 c) (h2 c)
theorem jbB  (h:97<=c/\c<=122):Lt [c]:=λd hd=>by rw[M7.mp hd];exact h
theorem Kc  (h:c∈v7 l lo hi):c∈l:=by
 unfold v7 at h;exact List.mem_of_mem_drop (List.mem_of_mem_take h)
theorem Yp  (l:List α) (lo hi:Option Int):(v7 l lo hi).length<=l.length:=by
 unfold v7;rw[X9,List.length_drop];omega
theorem uH  (h:Lt w):Lt (v7 w lo hi):=λc a=>h c (Kc a)
noncomputable abbrev ABC:List Nat:=[97,98,99,100,101,102,103,104,105,106,107,108,109,110,111,112,113,114,115,116,117,118,119,120,121,122]
theorem jkU  (h0:0<=i) (h1:i < 26):∃ c,jn (.str ABC) (.int i)=some (.str [c])/\97<=c/\c<=122:=by
 have a:ABC.length=26:=rfl;refine⟨ABC.getD i.toNat 0,jm5 (by decide) h0 (by omega),?_⟩;have:∀ c∈ABC,97<=c/\c<=122:=by decide
 exact this _ (Jt (by omega))
theorem jfU  (h:97<=c/\c<=122):0<=VR ABC [c]:=by
 obtain⟨a,b⟩:=h;have:c=97 \/ c=98 \/ c=99 \/ c=100 \/ c=101 \/ c=102 \/ c=103 \/ c=104 \/ c=105 \/ c=106 \/ c=107 \/ c=108 \/ c=109 \/ c=110 \/ c=111 \/ c=112 \/ c=113 \/ c=114 \/ c=115 \/ c=116 \/ c=117 \/ c=118 \/ c=119 \/ c=120 \/ c=121 \/ c=122:=by omega
 rcases this with rfl | rfl | rfl | rfl | rfl | rfl | rfl | rfl | rfl | rfl | rfl | rfl | rfl | rfl | rfl | rfl | rfl | rfl | rfl | rfl | rfl | rfl | rfl | rfl | rfl | rfl<;>decide +kernel
theorem Jb(ns:List Int):frzs (ns.map D.int)=true:=vF λd hd=>by obtain⟨x,_,rfl⟩:=M5.mp hd;rfl
theorem V6(ns:List Int):fzs (ns.map D.int)=ns.map D.int:=jl _ (Jb ns)
theorem wD  (c:jgW ns)  (d:0<=k):∃ z,yY [.lst false (ns.map D.int),.int k]=some (.int z)/\Builtin.Int.intBits z<=2 ^ 20:=by
 have e:=Jb ns;have a:(ns.map D.int).length=ns.length:=L0 ..;by_cases h:k < (ns.length:Int)
 ·have b:k.toNat < ns.length:=by omega
  have ix:jn (.lst false (ns.map D.int)) (.int k)=some (.int ns[k.toNat]):=by
   rw[jfq d (by rw[a];exact h),List.getElem?_map,X8 b];rfl
  refine⟨ns[k.toNat],?_,c _ (List.getElem_mem b)⟩;generalize ns.map D.int=NS at *;simp[yY,jX,qV,a,h,ix]
 ·refine⟨0,?_,by decide⟩;generalize ns.map D.int=NS at *;simp[yY,jX,qV,a,h]
theorem jer  (h0:0<=k) (h1:k<=1000):∃ m,yk [.int z,.int k]=some (.int m)/\0<=m/\m < 2147483587:=by
 have b:0<=k*k/\k*k<=1000*1000:=⟨Int.mul_nonneg h0 h0,Int.mul_le_mul h1 h1 h0 (by decide)⟩;have c:1511*k*k=1511*(k*k):=by rw[Int.mul_assoc]
 generalize k*k=kk at *;have d:vN (.int 1511) (.int k)=some (.int (1511*k)):=Jy (by decide) (by omega);have e:vN (.int (1511*k)) (.int k)=some (.int (1511*kk)):=by rw[Jy (by omega) (by omega),c]
 have f:=U1 z (show(2147483647:Int)≠0 by decide);have g:=U0 z (show(0:Int) < 2147483647 by decide);generalize a:z % 2147483647=zz at *;have h:vN (.int zz) (.int (69621+1511*kk))=some (.int (zz*(69621+1511*kk))):=Jy (by omega) (by omega);have o:=U1 (zz*(69621+1511*kk)) (show(2147483629:Int)≠0 by decide);have p:=U0 (zz*(69621+1511*kk)) (show(0:Int) < 2147483629 by decide);generalize i:zz*(69621+1511*kk) % 2147483629=n at *;have j:vN (.int 5) (.int k)=some (.int (5*k)):=Jy (by decide) (by omega);have l:vN (.int (n+k)) (.int (n+5*k+1))=some (.int ((n+k)*(n+5*k+1))):=Jy (by omega) (by omega);refine⟨(n+k)*(n+5*k+1) % 2147483587,?_,U1 _ (by decide),U0 _ (by decide)⟩;simp(disch:=decide) [yk,jX,V9,jL,a,d,e,h,i,j,l]
theorem YL  (hz:Builtin.Int.intBits z<=2 ^ 20) (h0:0<=k) (h1:k<=1000):∃ m,yk [.int z,.int k]=some (.int m)/\0<=m/\m < 2147483587:=jer h0 h1
theorem wm{n:Int}{s:Nat}(hn:0<=n)(u:s<=8):∃ w,vx [.int n,.int (s:Int)]=some (.str w)/\w.length=s/\Lt w:=by
 have e:=vK (j:=(s:Int)) (by omega) (by omega);rw[N9] at e;obtain⟨v,o,d,w,g,rfl,h,k,l⟩:=vj (G:=jk [] 4) (f:=Je) (xs:=Jn 0 s) (λi ρ=>∃(d:Int) (w:List Nat) (g:Option D),ρ=[some (.int d),some (.int (s:Int)),some (.str ABC),some (.str w),g]/\0<=d/\w.length=i/\Lt w) (by
  rintro i x ρ p ⟨d,w,g,rfl,h,k,l⟩;obtain⟨rfl,y⟩:=YH p;obtain⟨c,q,m⟩:=jkU (i:=d % 26) (by omega) (by omega);refine⟨_,[some (.int (d / 26)),some (.int (s:Int)),some (.str ABC),some (.str (w++[c])),some (.int (0+(i:Int)))],rfl,.inl ?_,d / 26,w++[c],some (.int (0+(i:Int))),rfl,by omega,by simp[k],uw l (jbB m)⟩;have r:=uN (a:=w) (b:=[c]) (by simp;omega);generalize ABC=AA at *;simp(disch:=omega) [Je,jL,yq,q,r,-Int.zero_add]) (ρ:=[some (.int n),some (.int (s:Int)),some (.str ABC),some (.str []),none]) ⟨n,[],none,rfl,hn,rfl,λc m=>(nomatch m)⟩
 rw[vv] at k;refine⟨w,?_,by omega,l⟩;generalize t:ABC=AA at *;simp[vx,jX,YB,e,o,t]
noncomputable def KA1:List (List Nat):=[[112,111,111,108],[99,108,97,105,109],[112,111,116],[101,97,116],[111,114,100,101,114],[112,97,114,116],[112,97,121],[115,104,97,114,101],[114,101,112,97,121],[102,105,108,108],[108,101,110,100],[98,97,99,107]]
noncomputable def KA2:List (List Nat):=[[114,101,115,116],[108,111,111,107],[103,117,97,114,100],[100,101,98,116],[111,110],[108,97,116,101],[101,97,114,108,121],[113,117,105,116]]
theorem jg1(w:List Nat)(o:Bool)(l:List (List Nat)):J6 false (.str w) (.lst o (l.map D.str))=some (.bl (decide (w∈l))):=by
 show(bif jcV (.str w) (l.map D.str) then some (D.bl (false != inL (.str w) (l.map D.str))) else none)=_;rw[xg,ug];simp
noncomputable def rot(c:Nat):Nat:=97+(c - 97+13) % 26
structure Sp(u v:List Nat):Prop where
 l:v.length=u.length
 a:∀ i,i+1 < u.length->v[i]?=u[i]?
 b:∀ i,i+1=u.length->v[i]?=u[i]? \/ (2<=u.length/\∃ c,u[i]?=some c/\v[i]?=some (rot c))
theorem Sp.id(u:List Nat):Sp u u:=⟨rfl,λ_ _=>rfl,λ_ _=>.inl rfl⟩
theorem Sp.last  (h:1<=u.length):Sp (u++[c]) (u++[rot c]):=by
 refine⟨by simp,λi a=>?_,λi a=>.inr ⟨by simp;omega,c,?_,?_⟩⟩
 ·have:i < u.length:=by simp at a;exact a
  rw[List.getElem?_append_left this,List.getElem?_append_left this]
 ·have:i=u.length:=by simp at a;exact a
  subst this;simp
 ·have:i=u.length:=by simp at a;exact a
  subst this;simp
theorem jgO:(∀ w∈KA1,2<=w.length)/\∀ w∈KA2,2<=w.length:=by decide
theorem jhH  (h:97<=c/\c<=122):VR ABC [c]=(c:Int) - 97:=by
 obtain⟨a,b⟩:=h;have:c=97 \/ c=98 \/ c=99 \/ c=100 \/ c=101 \/ c=102 \/ c=103 \/ c=104 \/ c=105 \/ c=106 \/ c=107 \/ c=108 \/ c=109 \/ c=110 \/ c=111 \/ c=112 \/ c=113 \/ c=114 \/ c=115 \/ c=116 \/ c=117 \/ c=118 \/ c=119 \/ c=120 \/ c=121 \/ c=122:=by omega
 rcases this with rfl | rfl | rfl | rfl | rfl | rfl | rfl | rfl | rfl | rfl | rfl | rfl | rfl | rfl | rfl | rfl | rfl | rfl | rfl | rfl | rfl | rfl | rfl | rfl | rfl | rfl<;>decide +kernel
theorem jg6  (h0:0<=i) (h1:i < 26):jn (.str ABC) (.int i)=some (.str [97+i.toNat]):=by
 have a:ABC.length=26:=rfl;have e:=jm5 (s:=ABC) (by decide) h0 (by omega);have:∀ j,j < 26->ABC.getD j 0=97+j:=by decide
 rw[e,this i.toNat (by omega)]
theorem jgd(u:List Nat)(c:Nat):v7 (u++[c]) none (some (-1))=u:=by
 unfold v7 HT.sIx;simp;rw[show(-1+((u.length:Int)+1)).toNat=u.length by omega];simp
theorem jec  (h0:0<=j) (h1:j<=l.length):v7 l none (some j)=l.take j.toNat:=by
 unfold v7 HT.sIx;simp;rw[if_neg (by omega)];omega
theorem uh  (m:Lt w) (K:w.length<=20):∃ v,kr [.str w]=some (.str v)/\Lt v/\v.length<=21/\Sp w v:=by
 have j:=jg1 w true KA1;have n:=jg1 w true KA2;rw[show KA1.map D.str=[.str [112,111,111,108],.str [99,108,97,105,109],.str [112,111,116],.str [101,97,116],.str [111,114,100,101,114],.str [112,97,114,116],.str [112,97,121],.str [115,104,97,114,101],.str [114,101,112,97,121],.str [102,105,108,108],.str [108,101,110,100],.str [98,97,99,107]] from rfl] at j;rw[show KA2.map D.str=[.str [114,101,115,116],.str [108,111,111,107],.str [103,117,97,114,100],.str [100,101,98,116],.str [111,110],.str [108,97,116,101],.str [101,97,114,108,121],.str [113,117,105,116]] from rfl] at n;by_cases h:w∈KA1 \/ w∈KA2
 ·have k:w≠[]:=by
   intro z;subst z;revert h
   decide
  obtain⟨u,c,rfl⟩:∃ u c,w=u++[c]:=⟨w.dropLast,w.getLast k,(List.dropLast_concat_getLast k).symm⟩;have A:97<=c/\c<=122:=m c (by simp);have ix:jn (.str (u++[c])) (.int (-1))=some (.str [c]):=by
   show(bif lim (u++[c]).length then(match L2.atI (u++[c]) (-1) with | some c=>some (D.str [c]) | none=>none) else none)=_;rw[jg (by omega),jdl (i:=u.length) (x:=c) (by
    unfold ixN;rw[if_neg (by decide),if_pos (by simp;omega)];congr 1;simp;omega) (by simp)]
   rfl
  have C:=jfU A;have sl:=jjU (s:=u++[c]) (lo:=none) (hi:=some (-1)) (by omega);have E:=Yp (u++[c]) none (some (-1));have o:=uH (lo:=none) (hi:=some (-1)) m;have F:=U1 (VR ABC [c]+13) (show(26:Int)≠0 by decide);have G:=U0 (VR ABC [c]+13) (show(0:Int) < 26 by decide);have e:=jg6 F G;have p:97<=97+((VR ABC [c]+13) % 26).toNat/\97+((VR ABC [c]+13) % 26).toNat<=122:=by omega
  have d:97+((VR ABC [c]+13) % 26).toNat=rot c:=by rw[jhH A];unfold rot;omega
  have q:1<=u.length:=by
   have:=h.elim (jgO.1 _) (jgO.2 _);simp at this;omega
  have r:Sp (u++[c]) (u++[97+((VR ABC [c]+13) % 26).toNat]):=by rw[d];exact Sp.last q
  have l:=jgd u c;clear d;generalize 97+((VR ABC [c]+13) % 26).toNat=c' at *;generalize f:v7 (u++[c]) none (some (-1))=cu at *;have t:=uN (a:=cu) (b:=[c']) (by simp;omega);have g:jao (.str ABC) [.str [c]]=some (.int (VR ABC [c])):=by
   rw[jfi,X2 C];rfl
  generalize VR ABC [c]=fi at *;refine⟨cu++[c'],?_,uw o (jbB p),by simp;omega,by rw[l];exact r⟩;generalize y:ABC=AA at *;rcases h with h | h
  ·have H:=X2 h;generalize u++[c]=w at *;simp(disch:=decide) [kr,jX,qg,jg,j,H,h,sl,f,y,ix,g,jL,e,t]
  ·by_cases B:u++[c]∈KA1
   ·generalize u++[c]=w at *;simp(disch:=decide) [kr,jX,qg,jg,j,B,sl,f,y,ix,g,jL,e,t]
   ·generalize u++[c]=w at *;simp(disch:=decide) [kr,jX,qg,jg,j,n,h,B,sl,f,y,ix,g,jL,e,t]
 ·refine⟨w,?_,m,by omega,Sp.id w⟩;have I:¬ w∈KA1:=λz=>h (.inl z);have J:¬ w∈KA2:=λz=>h (.inr z);simp[kr,jX,qg,jg,j,n,I,J]
structure Nm(w:List Nat):Prop where
 l:w.length<=21
 r:Lt w
noncomputable def je8(n:Int)(i:Nat):Nat:=97+((n / 192+(0+(i:Int))) % 26).toNat
def Mk(n at' lo:Int)(i:Nat)(w:List Nat):Prop :=
 (n % 3=0/\∃ d,w[at'.toNat]?=some d/\(d=je8 n i \/ d=rot (je8 n i))) \/ (n % 3=1/\w.length=(1+(n / 24+(0+(i:Int))) % lo).toNat) \/ (n % 3=2/\w[0]?=some (je8 n i))
theorem Mk.ne  (hi:i < 7) (f:j < 7) (h1:Mk n at' 8 i w) (h2:Mk n at' 8 j w):i=j:=by
 rcases h1 with⟨c1,g,b,d⟩ | ⟨c1,b⟩ | ⟨c1,b⟩<;>rcases h2 with⟨c,h,a,e⟩ | ⟨c,a⟩ | ⟨c,a⟩<;>try omega
 ·rw[b] at a;injection a with a;subst a;unfold rot je8 at d e;omega
 ·rw[b] at a;injection a with a;unfold je8 at a;omega
theorem jce{z:Int}(hz:Builtin.Int.intBits z<=2 ^ 20){n lo si at':Int}(hn:0<=n)(hlo:1<=lo)(V:lo<=8){base:List Nat}(J:Lt base)(hbl:base.length=8)(K:0<=at')(ha7:at'<=7){W:List (List Nat)}(hW:W.length<=100){i:Nat}(hi:i<=100){a1 o10 o11:Option D} :
  ∃(w:List Nat) (r10 r11:Option D),ke [some (.int z),a1,some (.int lo),some (.str ABC),some (.int n),some (.str base),some (.int si),some (.int at'),some (.lst true (W.map D.str)),some (.int (0+(i:Int))),o10,o11] =
   some (.nx [some (.int z),a1,some (.int lo),some (.str ABC),some (.int n),some (.str base),some (.int si),some (.int at'),some (.lst true ((W++[w]).map D.str)),some (.int (0+(i:Int))),r10,r11])/\Nm w/\Mk n at' lo i w:=by
 have e1:=U1 (n / 192+(0+(i:Int))) (show(26:Int)≠0 by decide);have e2:=U0 (n / 192+(0+(i:Int))) (show(0:Int) < 26 by decide);have G:=jg6 e1 e2;have t:97+((n / 192+(0+(i:Int))) % 26).toNat=je8 n i:=rfl;have X:97<=je8 n i/\je8 n i<=122:=by unfold je8;omega
 rw[t] at G;clear t;generalize x:je8 n i=c at *;have L:lim (W.map D.str).length=true:=jg (by rw[L0];omega);by_cases H:n % 3=0
 ·have y:=jjU (s:=base) (lo:=none) (hi:=some at') (by omega);have s2:=jjU (s:=base) (lo:=some (at'+1)) (hi:=some si) (by omega);have M:=Yp base none (some at');have l2:=Yp base (some (at'+1)) (some si);have A:=uH (lo:=none) (hi:=some at') J;have t2:=uH (lo:=some (at'+1)) (hi:=some si) J;have B:(v7 base none (some at')).length=at'.toNat:=by rw[jec K (by omega),X9];omega
  generalize v7 base none (some at')=u1,v7 base (some (at'+1)) (some si)=u2 at *;have j:=uN (a:=u1) (b:=[c]) (by simp;omega);have N:=uN (a:=u1++[c]) (b:=u2) (by simp;omega);obtain⟨v,C,E,F,f⟩:=uh (w:=u1++[c]++u2) (uw (uw A (jbB X)) t2) (by simp;omega);have I:(u1++[c]++u2)[at'.toNat]?=some c:=by rw[<- B];simp
  have O:at'.toNat+1<=(u1++[c]++u2).length:=by simp;omega
  have d:Mk n at' lo i v:=by
   refine .inl ⟨H,?_⟩;rw[x];by_cases e:at'.toNat+1=(u1++[c]++u2).length
   ·rcases f.b _ e with h | ⟨_,c',r,Y⟩
    ·exact⟨c,by rw[h,I],.inl rfl⟩
    ·rw[I] at r;cases r;exact⟨_,Y,.inr rfl⟩
   ·exact⟨c,by rw[f.a _ (by omega),I],.inl rfl⟩
  refine⟨v,some (.str [c]),some (.str (u1++[c]++u2)),?_,⟨F,E⟩,d⟩;clear d I O f B;rw[N6];show _=some (Out.nx [_,_,_,_,_,_,_,_,some (.lst true (W.map D.str++[.str v])),_,_,_]);generalize W.map D.str=WW,u1++[c]++u2=uu at *;generalize Z:ABC=AA at *;simp(disch:=omega) [ke,yq,jL,G,H,y,s2,j,N,C,L,-Int.zero_add]
 by_cases r:n % 3=1
 ·have y:=jjU (s:=base) (lo:=none) (hi:=some (1+(n / 24+(0+(i:Int))) % lo)) (by omega);have M:=Yp base none (some (1+(n / 24+(0+(i:Int))) % lo));have A:=uH (lo:=none) (hi:=some (1+(n / 24+(0+(i:Int))) % lo)) J;have P:jC (.int (n / 24+(0+(i:Int)))) (.int lo)=some (.int ((n / 24+(0+(i:Int))) % lo)):=jL (by omega);have q0:=U1 (n / 24+(0+(i:Int))) (show lo≠0 by omega);have q1:=U0 (n / 24+(0+(i:Int))) (show 0 < lo by omega);have B:(v7 base none (some (1+(n / 24+(0+(i:Int))) % lo))).length=(1+(n / 24+(0+(i:Int))) % lo).toNat:=by rw[jec (by omega) (by omega),X9];omega
  obtain⟨v,C,E,F,f⟩:=uh A (by omega);have d:Mk n at' lo i v:=.inr (.inl ⟨r,by rw[f.l,B]⟩);clear f B;generalize(n / 24+(0+(i:Int))) % lo=q at *;generalize v7 base none (some (1+q))=u1 at *;refine⟨v,some (.str [c]),some (.str u1),?_,⟨F,E⟩,d⟩;clear d;rw[N6];show _=some (Out.nx [_,_,_,_,_,_,_,_,some (.lst true (W.map D.str++[.str v])),_,_,_]);generalize W.map D.str=WW at *;generalize Z:ABC=AA at *;simp(disch:=omega) [ke,yq,jL,G,H,r,P,y,C,L,-Int.zero_add]
 ·obtain⟨m1,Q,R,_⟩:=YL (k:=0+(i:Int)+2) hz (by omega) (by omega);obtain⟨g,S,hm2,_⟩:=YL (k:=0+(i:Int)+40) hz (by omega) (by omega);obtain⟨u,eu,lu,tu⟩:=wm (s:=7) R (by decide);have j:=uN (a:=[c]) (b:=u) (by simp;omega);have tc:Lt ([c]++u):=uw (jbB X) tu;have y:=jjU (s:=[c]++u) (lo:=none) (hi:=some (1+g % lo)) (by simp;omega);have M:=Yp ([c]++u) none (some (1+g % lo));have A:=uH (lo:=none) (hi:=some (1+g % lo)) tc;have P:jC (.int g) (.int lo)=some (.int (g % lo)):=jL (by omega);have m:([c]++u).length=8:=by simp[lu]
  rw[m] at M;have q0:=U1 g (show lo≠0 by omega);have q1:=U0 g (show 0 < lo by omega);have o:v7 ([c]++u) none (some (1+g % lo))=([c]++u).take (1+g % lo).toNat:=jec (by omega) (by rw[m];omega);generalize g % lo=q at *;have p:(v7 ([c]++u) none (some (1+q)))[0]?=some c:=by rw[o,List.getElem?_take_of_lt (by omega)];rfl
  have T:1<=(v7 ([c]++u) none (some (1+q))).length:=by rw[o,X9,m];omega
  obtain⟨v,C,E,F,f⟩:=uh A (by omega);have d:Mk n at' lo i v:=by
   refine .inr (.inr ⟨by omega,?_⟩);rw[x];by_cases e:0+1=(v7 ([c]++u) none (some (1+q))).length
   ·rcases f.b _ e with h | ⟨Y,_⟩
    ·rw[h,p]
    ·omega
   ·rw[f.a _ (by omega),p]
  clear f p T o;generalize [c]++u=cu at *;generalize v7 cu none (some (1+q))=u1 at *;refine⟨v,some (.str [c]),some (.str u1),?_,⟨F,E⟩,d⟩;clear d;rw[N6];show _=some (Out.nx [_,_,_,_,_,_,_,_,some (.lst true (W.map D.str++[.str v])),_,_,_]);have U:vx [.int m1,.int 7]=some (.str u):=eu;generalize W.map D.str=WW at *;generalize Z:ABC=AA at *;simp(disch:=omega) [ke,yq,jL,G,H,r,Q,S,U,j,P,y,C,L,-Int.zero_add]
theorem jca{z:Int}(hz:Builtin.Int.intBits z<=2 ^ 20){many:Nat}(hm:many<=7) :
  ∃ W:List (List Nat),vV [.int z,.int (many:Int),.int 8]=some (.lst true (W.map D.str))/\W.length=many/\(∀ w∈W,Nm w)/\W.Nodup:=by
 have u:(1:Int)<=8:=by decide
 have l:(8:Int)<=8:=by decide
 obtain⟨n,J,y,O⟩:=YL (k:=1) hz (by decide) (by decide);have K:vN (.int n) (.int n)=some (.int (n*n)):=Jy (by omega) (by omega);have P:0<=n*n:=Int.mul_nonneg y y;obtain⟨base,Q,R,S⟩:=wm (n:=n*n+n) (s:=8) (by omega) (by decide);have m:vx [.int (n*n+n),.int 8]=some (.str base):=Q;generalize n*n=nn at *;have T:=U0 (n / 3) (show(0:Int) < 8 by decide);have hd:=U1 (n / 3) (show(8:Int)≠0 by decide);have o:jC (.int (n / 3)) (.int 8)=some (.int (n / 3 % 8)):=jL (by omega);generalize n / 3 % 8=q at *;have p:jC (.int (n / 24)) (.int (1+q))=some (.int (n / 24 % (1+q))):=jL (by omega);have A:=U1 (n / 24) (show 1+q≠0 by omega);have U:=U0 (n / 24) (show 0 < 1+q by omega);generalize n / 24 % (1+q)=at' at *;have c:=vK (j:=(many:Int)) (by omega) (by omega);rw[N9] at c;obtain⟨ρ',r,W,B,o10,o11,rfl,g,t,a⟩:=vj (G:=jk [] 9) (f:=ke) (xs:=Jn 0 many) (λi ρ=>∃(W:List (List Nat)) (B o10 o11:Option D),ρ=[some (.int z),some (.int (many:Int)),some (.int 8),some (.str ABC),some (.int n),some (.str base),some (.int (1+q)),some (.int at'),some (.lst true (W.map D.str)),B,o10,o11]/\W.length=i/\(∀ w∈W,Nm w)/\∀ j w,W[j]?=some w->Mk n at' 8 j w) (by
  rintro i x ρ V ⟨W,B,o10,o11,rfl,g,t,a⟩;obtain⟨rfl,L⟩:=YH V;obtain⟨w,C,E,e,X,Y⟩:=jce hz (n:=n) (lo:=8) (si:=1+q) (at':=at') y u l S R A (by omega) (W:=W) (by omega) (i:=i) (by omega) (a1:=some (.int (many:Int))) (o10:=o10) (o11:=o11);exact⟨_,_,rfl,.inl e,W++[w],some (.int (0+(i:Int))),C,E,rfl,by simp[g],λv d=>(N1.mp d).elim (t v) λd=>by rw[M7.mp d];exact X,λj v b=>by
   by_cases F:j < W.length
   ·rw[List.getElem?_append_left F] at b;exact a j v b
   ·have H:j < (W++[w]).length:=(L8.mp b).1;have:j=W.length:=by simp at H;omega
    subst this;rw[List.getElem?_concat_length] at b;cases b;rw[g];exact Y⟩) (ρ:=[some (.int z),some (.int (many:Int)),some (.int 8),some (.str ABC),some (.int n),some (.str base),some (.int (1+q)),some (.int at'),some (.lst true []),none,none,none]) ⟨[],none,none,none,rfl,rfl,λv d=>(nomatch d),λj v b=>by simp at b⟩
 rw[vv] at g;have nd:W.Nodup:=by
  unfold List.Nodup;rw[List.pairwise_iff_getElem];intro i j L b Z e;have e2:W[j]?=some W[j]:=X8 b;have r:W[i]?=some W[j]:=by rw[X8 L,e]
  have:=Mk.ne (by omega) (by omega) (a i _ r) (a j _ e2);omega
 have M:=jA W;have hr:(W.map D.str).reverse=W.reverse.map D.str:=by rw[List.map_reverse]
 by_cases N:n / 5000 % 2=1
 ·refine⟨W.reverse,?_,by simp[g],λv d=>t v (List.mem_reverse.mp d),by unfold List.Nodup at *;rw[List.pairwise_reverse];exact nd.imp λh=>h.symm⟩;rw[<- hr];generalize W.map D.str=WW at *;generalize I:ABC=AA at *;simp(disch:=omega) [vV,jX,Yy,I,J,K,m,yq,o,p,c,r,jL,N,M,jg]
 ·refine⟨W,?_,g,t,nd⟩;generalize W.map D.str=WW at *;generalize I:ABC=AA at *;simp(disch:=omega) [vV,jX,Yy,I,J,K,m,yq,o,p,c,r,jL,N,M,jg]
theorem K1  (h0:0<=m) (h1:m < 10 ^ 20):∃ v,yF [.int m]=some (.int v)/\1<=v:=by
 have a:jgg (.int 10) (.int 12)=some (.int 1000000000000):=rfl;by_cases h:m % 3=0
 ·exact⟨1+m / 3 % 4,by simp(disch:=omega) [yF,jX,Jz,jL,yq,h],by omega⟩
 ·have b:vN (.int m) (.int m)=some (.int (m*m)):=Jy (by omega) (by omega);generalize m*m=q at *;exact⟨1+q % 1000000000000,by simp(disch:=omega) [yF,jX,Jz,jL,yq,h,b,a],by omega⟩
noncomputable abbrev vJ:List Nat:=[115,104,97,114,101]
noncomputable abbrev jv:List Nat:=[114,101,112,97,121]
inductive Rl where
 | two (kw x:List Nat) | many (ws:List (List Nat)) | lend (kw x:List Nat) (v:Int)
noncomputable def jy:Rl->D
 | .two kw x=>.tup [.str kw,.str x]
 | .many ws=>.tup [.str vJ,.tup (ws.map D.str)]
 | .lend kw x v=>.tup [.str kw,.str x,.int v]
noncomputable abbrev xM:List Nat:=[112,97,121]
noncomputable abbrev yi:List Nat:=[102,105,108,108]
noncomputable abbrev Y9:List Nat:=[114,101,115,116]
noncomputable abbrev xQ:List Nat:=[98,97,99,107]
noncomputable abbrev xT:List Nat:=[108,101,110,100]
def Kd(C P:List (List Nat))(kw x:List Nat):Prop:=(kw=xM \/ kw=jv)/\x∈C \/ kw=yi/\x∈P \/ kw=xQ \/ kw=Y9
def Ky(C P:List (List Nat)):Rl->Prop
 | .two kw x=>kw≠vJ/\Lt kw/\Nm x/\Kd C P kw x
 | .many ws=>ws.length<=8/\(∀ w∈ws,Nm w)/\∀ w∈ws,w∈C
 | .lend kw x v=>(kw≠vJ/\kw≠jv)/\Lt kw/\Nm x/\kw=xT
theorem K2(r:Rl):frz (jy r)=true:=by
 cases r with
 | two b x=>rfl
 | many a =>
  have:=jA a;show frz (D.tup [.str vJ,.tup (a.map D.str)])=true;simp[this]
 | lend b x v=>rfl
theorem Jg{W:List (List Nat)}(h:∀ w∈W,Nm w){i:Nat}(hi:i < W.length):Nm (W.getD i []):=h _ (Jt hi)
theorem jh1{m:Int}(hm0:0<=m)(hm1:m < 10 ^ 12){C P O:List (List Nat)}(hC1:1<=C.length)(hC6:C.length<=6)(hP6:P.length<=50)(hO6:O.length<=50)(nC:∀ w∈C,Nm w)(nP:∀ w∈P,Nm w)(nO:∀ w∈O,Nm w) :
  ∃ r,j7 [.int m,.lst false (C.map D.str),.lst false (P.map D.str),.lst false (O.map D.str)]=some (jy r)/\Ky C P r:=by
 have a:(((C.map D.str).length:Nat):Int)=(C.length:Int):=by rw[L0]
 have e:(((P.map D.str).length:Nat):Int)=(P.length:Int):=by rw[L0]
 have A:(((O.map D.str).length:Nat):Int)=(O.length:Int):=by rw[L0]
 have hr0:0<=m / 8:=by omega
 have hr1:m / 8 < 10 ^ 12:=by omega
 have hk0:=U1 m (show(8:Int)≠0 by decide);generalize n:m % 8=k at *;generalize b:m / 8=r at *;have c1:=U1 r (show(C.length:Int)≠0 by omega);have c2:=U0 r (show 0 < (C.length:Int) by omega);have s:=qD (o:=false) (l:=C) c1 c2;have nc:Nm (C.getD (r % (C.length:Int)).toNat []):=Jg nC (by omega);have mc:C.getD (r % (C.length:Int)).toNat []∈C:=Jt (by omega);generalize C.getD (r % (C.length:Int)).toNat []=cl at *;have c:jC (.int r) (.int (C.length:Int))=some (.int (r % (C.length:Int))):=jL (by omega);generalize r % (C.length:Int)=rc at *;have frC:=jA C;by_cases S:k=2/\1 < C.length
 ·obtain⟨rfl,B⟩:=S;have g:(1:Int) < (C.length:Int):=by omega
  have d1:=U1 (r / 3) (show(C.length:Int) - 1≠0 by omega);have d2:=U0 (r / 3) (show 0 < (C.length:Int) - 1 by omega);have E:jC (.int (r / 3)) (.int ((C.length:Int) - 1))=some (.int (r / 3 % ((C.length:Int) - 1))):=jL (by omega);generalize r / 3 % ((C.length:Int) - 1)=sz at *;have F:=vK (j:=2+sz) (by omega) (by omega);have H:lim (Jn 0 (2+sz).toNat).length=true:=jg (by rw[vv];omega);obtain⟨ys,ec,hl,hg⟩:=Kz (G:=jk [] 0) (p:=pF (p2 jn (pV 1) (p2 jC (p2 jH (pV 2) (pV 0)) (pCB ky (jc (pV 1) pN))))) (Good:=λd=>∃ w,d=.str w/\Nm w/\w∈C) (P:=λρ=>∃ o,ρ=[o,some (.lst false (C.map D.str)),some (.int r)]) (xs:=Jn 0 (2+sz).toNat) (by
   rintro x hx ρ ⟨o,rfl⟩;obtain⟨i,hi,rfl⟩:=M5.mp hx;have hi:=List.mem_range.mp hi;have f1:=U1 (r+(0+(i:Int))) (show(C.length:Int)≠0 by omega);have f2:=U0 (r+(0+(i:Int))) (show 0 < (C.length:Int) by omega);have T:=qD (o:=false) (l:=C) f1 f2;have U:Nm (C.getD ((r+(0+(i:Int))) % (C.length:Int)).toNat []):=Jg nC (by omega);have V:C.getD ((r+(0+(i:Int))) % (C.length:Int)).toNat []∈C:=Jt (by omega);have X:jC (.int (r+(0+(i:Int)))) (.int (C.length:Int))=some (.int ((r+(0+(i:Int))) % (C.length:Int))):=jL (by omega);generalize(r+(0+(i:Int))) % (C.length:Int)=q at *;generalize C.getD q.toNat []=w at *;refine⟨[some (.int (0+(i:Int))),some (.lst false (C.map D.str)),some (.int r)],.str w,rfl,?_,⟨_,rfl,U,V⟩,_,rfl⟩;generalize C.map D.str=CC at *;simp[a,X,T,-Int.zero_add]) (ρ:=jE [none,some 1,some 5] [some (.int m),some (.lst false (C.map D.str)),some (.lst false (P.map D.str)),some (.lst false (O.map D.str)),some (.int 2),some (.int r),some (.str cl),some (.int (2+sz)),none]) ⟨none,rfl⟩
  rw[vv] at hl;obtain⟨W,rfl,M⟩:=K9 (f:=D.str) (Q:=λw=>Nm w/\w∈C) hg;rw[L0] at hl;have Y:=jA W;have lW:lim (W.map D.str).length=true:=jg (by rw[L0];omega);have fR:=jA W.reverse;have lR:lim (W.reverse.map D.str).length=true:=jg (by rw[L0,List.length_reverse];omega);have Z:(W.map D.str).reverse=W.reverse.map D.str:=by rw[List.map_reverse]
  have zW:=jl _ Y;have zR:=jl _ fR;by_cases h9:r / 9 % 2=1
  ·refine⟨.many W.reverse,?_,by rw[List.length_reverse];omega,λw u=>(M w (List.mem_reverse.mp u)).1,λw u=>(M w (List.mem_reverse.mp u)).2⟩;show j7 _=some (.tup [.str vJ,.tup (W.reverse.map D.str)]);generalize W.reverse.map D.str=RR,W.map D.str=WW,C.map D.str=CC,P.map D.str=PP,O.map D.str=OO at *;simp(maxSteps:=400000) (disch:=omega) [j7,jX,yV,jL,yq,n,b,a,c,s,g,B,E,F,H,ec,Y,h9,Z,fR,zR,lR,jg]
  ·refine⟨.many W,?_,by omega,λw u=>(M w u).1,λw u=>(M w u).2⟩;show j7 _=some (.tup [.str vJ,.tup (W.map D.str)]);generalize W.map D.str=WW,C.map D.str=CC,P.map D.str=PP,O.map D.str=OO at *;simp(maxSteps:=400000) (disch:=omega) [j7,jX,yV,jL,yq,n,b,a,c,s,g,B,E,F,H,ec,Y,h9,zW,lW,jg]
 have I:(VT (js (p2 kS (pV 4) (pC (.int 2)))) (js (p2 wy (pCB ky (jc (pV 1) pN)) (pC (.int 1))))) [some (.int m),some (.lst false (C.map D.str)),some (.lst false (P.map D.str)),some (.lst false (O.map D.str)),some (.int k),some (.int r),some (.str cl),none,none]=some false:=by
  generalize C.map D.str=CC at *;by_cases h:k=2
  ·have:¬ (1:Int) < (C.length:Int):=λz=>S ⟨h,by omega⟩;simp[h,a,this]
  ·simp[h]
 by_cases w3:k=3
 ·subst w3;refine⟨.two jv cl,?_,by decide,by decide,nc,.inl ⟨.inr rfl,mc⟩⟩;unfold jy;generalize C.map D.str=CC,P.map D.str=PP,O.map D.str=OO at *;simp(maxSteps:=400000) (disch:=omega) [j7,jX,yV,jL,yq,n,b,a,c,s,I,jg]
 by_cases w4:k=4/\0 < P.length
 ·obtain⟨rfl,J⟩:=w4;have p1:=U1 (r / 3) (show(P.length:Int)≠0 by omega);have p2:=U0 (r / 3) (show 0 < (P.length:Int) by omega);have N:=qD (o:=false) (l:=P) p1 p2;have R:Nm (P.getD (r / 3 % (P.length:Int)).toNat []):=Jg nP (by omega);have mq:P.getD (r / 3 % (P.length:Int)).toNat []∈P:=Jt (by omega);have t:jC (.int (r / 3)) (.int (P.length:Int))=some (.int (r / 3 % (P.length:Int))):=jL (by omega);generalize r / 3 % (P.length:Int)=q at *;generalize P.getD q.toNat []=pq at *;have g:(0:Int) < (P.length:Int):=by omega
  refine⟨.two [102,105,108,108] pq,?_,by decide,by decide,R,.inr (.inl ⟨rfl,mq⟩)⟩;unfold jy;generalize C.map D.str=CC,P.map D.str=PP,O.map D.str=OO at *;simp(maxSteps:=400000) (disch:=omega) [j7,jX,yV,jL,yq,n,b,a,e,c,s,I,J,g,t,N,jg]
 have t4:(VT (js (p2 kS (pV 4) (pC (.int 4)))) (js (p2 wy (pCB ky (jc (pV 2) pN)) (pC (.int 0))))) [some (.int m),some (.lst false (C.map D.str)),some (.lst false (P.map D.str)),some (.lst false (O.map D.str)),some (.int k),some (.int r),some (.str cl),none,none]=some false:=by
  generalize P.map D.str=PP at *;by_cases h:k=4
  ·have:¬ (0:Int) < (P.length:Int):=λz=>w4 ⟨h,by omega⟩;simp[h,e,this];exact List.eq_nil_of_length_eq_zero (by omega)
  ·simp[h]
 by_cases w5:k=5/\0 < O.length
 ·obtain⟨rfl,y⟩:=w5;have p1:=U1 (r / 9) (show(O.length:Int)≠0 by omega);have p2:=U0 (r / 9) (show 0 < (O.length:Int) by omega);have N:=qD (o:=false) (l:=O) p1 p2;have R:Nm (O.getD (r / 9 % (O.length:Int)).toNat []):=Jg nO (by omega);have t:jC (.int (r / 9)) (.int (O.length:Int))=some (.int (r / 9 % (O.length:Int))):=jL (by omega);generalize r / 9 % (O.length:Int)=q at *;generalize O.getD q.toNat []=pq at *;have g:(0:Int) < (O.length:Int):=by omega
  by_cases K:0 < r / 3 % 3
  ·obtain⟨v,ev,_⟩:=K1 (m:=r / 27) (by omega) (by omega);refine⟨.lend [108,101,110,100] pq v,?_,⟨by decide,by decide⟩,by decide,R,rfl⟩;unfold jy;generalize C.map D.str=CC,P.map D.str=PP,O.map D.str=OO at *;simp(maxSteps:=400000) (disch:=omega) [j7,jX,yV,jL,yq,n,b,a,e,A,c,s,I,t4,y,g,K,t,N,ev,jg]
  ·refine⟨.two [98,97,99,107] pq,?_,by decide,by decide,R,.inr (.inr (.inl rfl))⟩;unfold jy;generalize C.map D.str=CC,P.map D.str=PP,O.map D.str=OO at *;simp(maxSteps:=400000) (disch:=omega) [j7,jX,yV,jL,yq,n,b,a,e,A,c,s,I,t4,y,g,K,t,N,jg]
 ·refine⟨.two [112,97,121] cl,?_,by decide,by decide,nc,.inl ⟨.inl rfl,mc⟩⟩;unfold jy;generalize C.map D.str=CC,P.map D.str=PP,O.map D.str=OO at *;by_cases h5:k=5
  ·subst h5;have y:¬ (0:Int) < (O.length:Int):=λz=>w5 ⟨rfl,by omega⟩;have hOO:OO=[]:=List.eq_nil_of_length_eq_zero (by omega);subst hOO;simp(maxSteps:=400000) (disch:=omega) [j7,jX,yV,jL,yq,n,b,a,e,c,s,I,t4,jg]
  by_cases h2:k=2
  ·subst h2;have hC0:¬ (1:Int) < (C.length:Int):=λz=>S ⟨rfl,by omega⟩;have L:C.length<=1:=by omega
   simp(maxSteps:=400000) (disch:=omega) [j7,jX,yV,jL,yq,n,b,a,e,c,s,hC0,L,jg]
  by_cases h4:k=4
  ·subst h4;have J:¬ (0:Int) < (P.length:Int):=λz=>w4 ⟨rfl,by omega⟩;have hPP:PP=[]:=List.eq_nil_of_length_eq_zero (by omega);subst hPP;simp(maxSteps:=400000) (disch:=omega) [j7,jX,yV,jL,yq,n,b,a,e,c,s,jg]
  ·simp(maxSteps:=400000) (disch:=omega) [j7,jX,yV,jL,yq,n,b,a,e,c,s,h2,w3,h4,h5,jg]
theorem jdN  (b:ρ[i]?=some (some (.lst true l))) (a:l[l.length - 1]?=some it) (c:(decide (x < ρ.length)&&(!decide (x∈pm)&&!decide (x=i)))=true)
  (d:q (ρ.set x (some .dead))=some true):je7 i x pm q fA fB ρ=fA (ρ.set x (some .dead)):=by
 unfold je7;simp only[b,a,c,d,cond_true]
theorem jc0  (b:ρ[i]?=some (some (.lst true l))) (a:l[l.length - 1]?=some it) (c:(decide (x < ρ.length)&&(!decide (x∈pm)&&!decide (x=i)))=true)
  (e:q (ρ.set x (some .dead))=some false) (f:fB ((ρ.set i none).set x (some it))=some (.nx ρ2)) (hd:ρ2[x]?=some (some d)) (hi:decide (i < ρ2.length)=true) :
  je7 i x pm q fA fB ρ=some (.nx ((ρ2.set x (some .dead)).set i (some (.lst true (l.set (l.length - 1) d))))):=by
 unfold je7;simp only[b,a,c,e,cond_true,f,hd,hi]
theorem jeu  (a:p ρ=some d) (b:ρ[i]?=some (some (.lst true l))) (c:l[j]?=some (.lst true l')) (e:lim l'.length=true):Qo i j p ρ=some (.nx (ρ.set i (some (.lst true (l.set j (.lst true (l'++[d]))))))):=by
 unfold Qo;simp only[a,b,c,e,cond_true]
noncomputable abbrev Qt:=List Nat×Int
noncomputable abbrev jG(q:Qt):D:=.tup [.str q.1,.int q.2]
noncomputable abbrev Od:=List Nat×List Qt×List Rl
noncomputable def qY(x:Od):D:=.lst true [.str x.1,.lst true (x.2.1.map jG),.lst true (x.2.2.map jy)]
structure OdOk(C P:List (List Nat))(n:Nat)(x:Od):Prop where
 nm:Nm x.1
 p:x.2.1.length<=n
 q:∀ q∈x.2.1,Nm q.1
 r:x.2.2.length<=4
 k:∀ r∈x.2.2,Ky C P r
theorem OdOk.mono  (h:OdOk C P n x) (hn:n<=m):OdOk C P m x:=⟨h.nm,N8 h.p hn,h.q,h.r,h.k⟩
theorem jV(l:List Qt):frzs (l.map jG)=true:=vF λd hd=>by obtain⟨x,_,rfl⟩:=M5.mp hd;rfl
theorem yW(l:List Rl):frzs (l.map jy)=true:=vF λd hd=>by obtain⟨x,_,rfl⟩:=M5.mp hd;exact K2 x
theorem jdF(w:List Nat)(o:Bool)(l:List (List Nat)):J6 true (.str w) (.lst o (l.map D.str))=some (.bl (!decide (w∈l))):=by
 show(bif jcV (.str w) (l.map D.str) then some (D.bl (true != inL (.str w) (l.map D.str))) else none)=_;rw[xg,ug];simp
structure Ctx(C P O N:List (List Nat)):Prop where
 c1:1<=C.length
 c6:C.length<=6
 p:P.length<=50
 o:O.length<=50
 nC:∀ w∈C,Nm w
 nP:∀ w∈P,Nm w
 nO:∀ w∈O,Nm w
 nN:∀ w∈N,Nm w
 n:N.length<=50
theorem jet  (h:Ctx C P O N)  (U:0<=m) (F:0<=r) (H:r < 10 ^ 12)  (I:Nm cl)  (hn:n<=1000)  (b:OdOk C P n y)  :
  ∃(y':Od) (r12:Option D),(sIf (dPT (js (p2 wy (p2 jC (pV 8) (pC (.int 10))) (pC (.int 7))))) (jR (yz (dP (p2 jH (pC (.int 1)) (p2 jC (p2 jY (pV 9) (pC (.int 3))) (pC (.int 3))))) (jk [5,11] 12))
 (jR (sIf (dPT (js (p2 kS (p2 jC (p2 jY (pV 9) (pC (.int 9))) (pC (.int 4))) (pC (.int 0))))) (yz (dP (p2 jH (pC (.int 1)) (p2 jC (p2 jY (pV 9) (pC (.int 36))) (pC (.int 10))))) (jk [5,11] 12))
 yB)
 (sIf (dPT (js (p2 (J6 true) (pV 10) (yT (VP (p2 jn (pV 11) (pC (.int 1)))) (gT 2 (gC (jk [] 0) (gC (jk [] 1) gN))) qT (pF (pV 0)) [none,none])))) (Qo 11 1 (qv (jc (pF (pV 10)) (jc (pF (pV 12)) pN))))
 yB)))
 (sIf (dPT (js (p2 jiJ (pCB ky (jc (p2 jn (pV 11) (pC (.int 2))) pN)) (pC (.int 4))))) (Qo 11 2 (jW j7 (jc (pV 9) (jc (pV 1) (jc (pV 2) (jc (pV 3) pN))))))
 yB)) [a0,some (.lst false (C.map D.str)),some (.lst false (P.map D.str)),some (.lst false (O.map D.str)),some (.lst false (N.map D.str)),none,a6,a7,some (.int m),some (.int r),some (.str cl),some (qY y),o12] =
   some (.nx [a0,some (.lst false (C.map D.str)),some (.lst false (P.map D.str)),some (.lst false (O.map D.str)),some (.lst false (N.map D.str)),none,a6,a7,some (.int m),some (.int r),some (.str cl),some (qY y'),r12])/\OdOk C P (n+1) y':=by
 have x:=jV y.2.1;have z:jn (qY y) (.int 1)=some (.lst true (y.2.1.map jG)):=rfl;have L:jn (qY y) (.int 2)=some (.lst true (y.2.2.map jy)):=rfl;have v:lim (y.2.1.map jG).length=true:=jg (by rw[L0];have:=b.p;omega);have V:lim (y.2.2.map jy).length=true:=jg (by rw[L0];have:=b.r;omega);have w:(((y.2.2.map jy).length:Nat):Int)=(y.2.2.length:Int):=by rw[L0]
 by_cases u:7 < m % 10
 ·have M:∀(ρ:Rh),(∃ A B,ρ=[A,B])->jM (gT 2 (gC (jk [] 0) (gC (jk [] 1) gN))) qT (pF (pV 0)) (y.2.1.map jG) ρ=some ((y.2.1.map (·.1)).map D.str):=by
   intro ρ W;have:=jdR (G:=gT 2 (gC (jk [] 0) (gC (jk [] 1) gN))) (p:=pF (pV 0)) (l:=y.2.1) (en:=jG) (out:=λq=>D.str q.1) rfl (λρ=>∃ A B,ρ=[A,B]) (by
    rintro q i ρ ⟨A,B,rfl⟩;exact⟨[some (.str q.1),some (.int q.2)],rfl,by simp,_,_,rfl⟩) W
   rw[this,U2];rfl
  have f:=jdF cl true (y.2.1.map (·.1));obtain⟨t,j⟩:∃ t:Int,(if r / 9 % 4=0 then 1+r / 36 % 10 else 1+r / 3 % 3)=t:=⟨_,rfl⟩;by_cases c:cl∈y.2.1.map (·.1)
  ·refine⟨y,some (.int t),?_,b.mono (Nat.le_succ _)⟩;have hd:=X2 c;have e:=M (jE [none,none] [a0,some (.lst false (C.map D.str)),some (.lst false (P.map D.str)),some (.lst false (O.map D.str)),some (.lst false (N.map D.str)),none,a6,a7,some (.int m),some (.int r),some (.str cl),some (qY y),some (.int t)]) ⟨none,none,rfl⟩;generalize(y.2.1.map (·.1)).map D.str=NN at *;generalize y.2.1.map jG=QQ,qY y=ew,C.map D.str=CC,P.map D.str=PP,O.map D.str=OO,N.map D.str=N2 at *;by_cases g:r / 9 % 4=0
   ·rw[if_pos g] at j;subst j;simp(disch:=omega) [jL,yq,u,g,z,x,v,e,f,c]
   ·rw[if_neg g] at j;subst j;simp(disch:=omega) [jL,yq,u,g,z,x,v,e,f,c]
  ·refine⟨(y.1,y.2.1++[(cl,t)],y.2.2),some (.int t),?_,⟨b.nm,by have:=b.p;simp;omega,λq i=>(N1.mp i).elim (b.q q) λi=>by rw[M7.mp i];exact I,b.r,b.k⟩⟩;have hd:=X4 c;have e:=M (jE [none,none] [a0,some (.lst false (C.map D.str)),some (.lst false (P.map D.str)),some (.lst false (O.map D.str)),some (.lst false (N.map D.str)),none,a6,a7,some (.int m),some (.int r),some (.str cl),some (qY y),some (.int t)]) ⟨none,none,rfl⟩;have a:Qo 11 1 (qv (jc (pF (pV 10)) (jc (pF (pV 12)) pN))) [a0,some (.lst false (C.map D.str)),some (.lst false (P.map D.str)),some (.lst false (O.map D.str)),some (.lst false (N.map D.str)),none,a6,a7,some (.int m),some (.int r),some (.str cl),some (qY y),some (.int t)] =
     some (.nx [a0,some (.lst false (C.map D.str)),some (.lst false (P.map D.str)),some (.lst false (O.map D.str)),some (.lst false (N.map D.str)),none,a6,a7,some (.int m),some (.int r),some (.str cl),some (qY (y.1,y.2.1++[(cl,t)],y.2.2)),some (.int t)]):=by
    rw[jeu (d:=jG (cl,t)) (l:=[.str y.1,.lst true (y.2.1.map jG),.lst true (y.2.2.map jy)]) (l':=y.2.1.map jG) (by simp(disch:=omega) [jg]) rfl rfl v];unfold qY;rw[N6];rfl
   generalize qY (y.1,y.2.1++[(cl,t)],y.2.2)=ew2 at *;generalize(y.2.1.map (·.1)).map D.str=NN at *;generalize y.2.1.map jG=QQ,qY y=ew,C.map D.str=CC,P.map D.str=PP,O.map D.str=OO,N.map D.str=N2 at *;by_cases g:r / 9 % 4=0
   ·rw[if_pos g] at j;subst j;simp(disch:=omega) [jL,yq,u,g,z,x,v,e,f,c,a]
   ·rw[if_neg g] at j;subst j;simp(disch:=omega) [jL,yq,u,g,z,x,v,e,f,c,a]
 ·by_cases Q:y.2.2.length < 4
  ·obtain⟨E,J,K⟩:=jh1 F H h.c1 h.c6 h.p h.o h.nC h.nP h.nO;refine⟨(y.1,y.2.1,y.2.2++[E]),o12,?_,⟨b.nm,Nat.le_succ_of_le b.p,b.q,by simp;omega,λq i=>(N1.mp i).elim (b.k q) λi=>by rw[M7.mp i];exact K⟩⟩;have R:=jA C;have S:=jA P;have T:=jA O;have X:=jl _ R;have Y:=jl _ S;have Z:=jl _ T;have a:Qo 11 2 (jW j7 (jc (pV 9) (jc (pV 1) (jc (pV 2) (jc (pV 3) pN))))) [a0,some (.lst false (C.map D.str)),some (.lst false (P.map D.str)),some (.lst false (O.map D.str)),some (.lst false (N.map D.str)),none,a6,a7,some (.int m),some (.int r),some (.str cl),some (qY y),o12] =
     some (.nx [a0,some (.lst false (C.map D.str)),some (.lst false (P.map D.str)),some (.lst false (O.map D.str)),some (.lst false (N.map D.str)),none,a6,a7,some (.int m),some (.int r),some (.str cl),some (qY (y.1,y.2.1,y.2.2++[E])),o12]):=by
    rw[jeu (d:=jy E) (l:=[.str y.1,.lst true (y.2.1.map jG),.lst true (y.2.2.map jy)]) (l':=y.2.2.map jy) (by
     generalize C.map D.str=CC,P.map D.str=PP,O.map D.str=OO at *;simp[R,S,T,X,Y,Z,J]) rfl rfl V]
    unfold qY;rw[N6];rfl
   have s:(y.2.2.length:Int) < 4:=by omega
   generalize qY (y.1,y.2.1,y.2.2++[E])=ew2,y.2.2.map jy=RR,qY y=ew,C.map D.str=CC,P.map D.str=PP,O.map D.str=OO,N.map D.str=N2 at *;simp(disch:=omega) [jL,u,L,w,s,Q,a]
  ·refine⟨y,o12,?_,b.mono (Nat.le_succ _)⟩;have s:¬ (y.2.2.length:Int) < 4:=by omega
   generalize y.2.2.map jy=RR,qY y=ew,C.map D.str=CC,P.map D.str=PP,O.map D.str=OO,N.map D.str=N2 at *;simp(disch:=omega) [jL,u,L,w,s,Q]
noncomputable def oQ:PTf:=(VT (js (p2 kS (p2 jC (pV 8) (pC (.int 10))) (pC (.int 7)))) (js (p2 jiJ (pCB ky (jc (pV 5) pN)) (pCB ky (jc (pV 4) pN)))))
noncomputable def oA:FS:=(ut 5 (qX (jc (pF (p2 jn (pV 4) (pCB ky (jc (pV 5) pN)))) (jc (qX pN) (jc (qX pN) pN)))))
noncomputable def oB:FS:=(sIf (dPT (js (p2 wy (p2 jC (pV 8) (pC (.int 10))) (pC (.int 7))))) (jR (yz (dP (p2 jH (pC (.int 1)) (p2 jC (p2 jY (pV 9) (pC (.int 3))) (pC (.int 3))))) (jk [5,11] 12))
 (jR (sIf (dPT (js (p2 kS (p2 jC (p2 jY (pV 9) (pC (.int 9))) (pC (.int 4))) (pC (.int 0))))) (yz (dP (p2 jH (pC (.int 1)) (p2 jC (p2 jY (pV 9) (pC (.int 36))) (pC (.int 10))))) (jk [5,11] 12))
 yB)
 (sIf (dPT (js (p2 (J6 true) (pV 10) (yT (VP (p2 jn (pV 11) (pC (.int 1)))) (gT 2 (gC (jk [] 0) (gC (jk [] 1) gN))) qT (pF (pV 0)) [none,none])))) (Qo 11 1 (qv (jc (pF (pV 10)) (jc (pF (pV 12)) pN))))
 yB)))
 (sIf (dPT (js (p2 jiJ (pCB ky (jc (p2 jn (pV 11) (pC (.int 2))) pN)) (pC (.int 4))))) (Qo 11 2 (jW j7 (jc (pV 9) (jc (pV 1) (jc (pV 2) (jc (pV 3) pN))))))
 yB))
theorem jcE:kn=jR (yz (dP (jW yk (jc (pV 7) (jc (p2 jH (pV 6) (pC (.int 3))) pN)))) (jk [] 8)) (jR (yz (dP (p2 jY (pV 8) (pC (.int 10)))) (jk [] 9)) (jR (yz (dP (pF (p2 jn (pV 1) (p2 jC (pV 9) (pCB ky (jc (pV 1) pN)))))) (jk [] 10)) (je7 5 11 [] oQ oA oB))):=rfl
theorem jaX  (h:Ctx C P O N)  (hz:Builtin.Int.intBits z<=2 ^ 20)  (hi:i<=100)  (j:∀ x∈Y++[y],OdOk C P i x) (G:(Y++[y]).length<=N.length)  :
  ∃(X:List Od) (r8 r9 r10 r11 r12:Option D),kn [a0,some (.lst false (C.map D.str)),some (.lst false (P.map D.str)),some (.lst false (O.map D.str)),some (.lst false (N.map D.str)),some (.lst true ((Y++[y]).map qY)),some (.int (i:Int)),some (.int z),o8,o9,o10,o11,o12] =
   some (.nx [a0,some (.lst false (C.map D.str)),some (.lst false (P.map D.str)),some (.lst false (O.map D.str)),some (.lst false (N.map D.str)),some (.lst true (X.map qY)),some (.int (i:Int)),some (.int z),r8,r9,r10,r11,r12])/\X≠[]/\X.length<=N.length/\∀ x∈X,OdOk C P (i+1) x:=by
 obtain⟨m,H,p,I⟩:=YL (k:=(i:Int)+3) hz (by omega) (by omega);have J:=h.c1;have c1:=U1 (m / 10) (show(C.length:Int)≠0 by omega);have K:=U0 (m / 10) (show 0 < (C.length:Int) by omega);have L:=qD (o:=false) (l:=C) c1 K;have M:Nm (C.getD (m / 10 % (C.length:Int)).toNat []):=Jg h.nC (by omega);have s:jC (.int (m / 10)) (.int (C.length:Int))=some (.int (m / 10 % (C.length:Int))):=jL (by omega);generalize m / 10 % (C.length:Int)=rc at *;generalize C.getD rc.toNat []=cl at *;have t:(((C.map D.str).length:Nat):Int)=(C.length:Int):=by rw[L0]
 have pre:kn [a0,some (.lst false (C.map D.str)),some (.lst false (P.map D.str)),some (.lst false (O.map D.str)),some (.lst false (N.map D.str)),some (.lst true ((Y++[y]).map qY)),some (.int (i:Int)),some (.int z),o8,o9,o10,o11,o12] =
   je7 5 11 [] oQ oA oB [a0,some (.lst false (C.map D.str)),some (.lst false (P.map D.str)),some (.lst false (O.map D.str)),some (.lst false (N.map D.str)),some (.lst true ((Y++[y]).map qY)),some (.int (i:Int)),some (.int z),some (.int m),some (.int (m / 10)),some (.str cl),o11,o12]:=by
  generalize(Y++[y]).map qY=YY at *;generalize C.map D.str=CC at *;simp(disch:=omega) [jcE,H,yq,t,s,L]
 rw[pre];have b:((Y++[y]).map qY).length=Y.length+1:=by simp
 have e:((Y++[y]).map qY)[((Y++[y]).map qY).length - 1]?=some (qY y):=by
  rw[b,Nat.add_sub_cancel,N6,List.getElem?_append_right (by simp)];simp
 have E:(((N.map D.str).length:Nat):Int)=(N.length:Int):=by rw[L0]
 by_cases u:m % 10=7/\Y.length+1 < N.length
 ·have c:oQ [a0,some (.lst false (C.map D.str)),some (.lst false (P.map D.str)),some (.lst false (O.map D.str)),some (.lst false (N.map D.str)),some (.lst true ((Y++[y]).map qY)),some (.int (i:Int)),some (.int z),some (.int m),some (.int (m / 10)),some (.str cl),some .dead,o12]=some true:=by
   have v:((Y.length:Int)+1) < (N.length:Int):=by omega
   generalize(Y++[y]).map qY=YY at *;generalize N.map D.str=NN at *;simp(disch:=omega) [oQ,jL,u.1,E,b,v,u.2]
  have Q:=qD (o:=false) (l:=N) (i:=(Y.length:Int)+1) (by omega) (by omega);have R:Nm (N.getD ((Y.length:Int)+1).toNat []):=Jg h.nN (by omega);generalize N.getD ((Y.length:Int)+1).toNat []=nw at *;refine⟨Y++[y]++[(nw,[],[])],some (.int m),some (.int (m / 10)),some (.str cl),some .dead,o12,?_,by simp,by simp;omega,λx a=>(N1.mp a).elim (λa=>(j x a).mono (Nat.le_succ _)) λa=>by rw[M7.mp a];exact⟨R,U6 _,λq c=>(nomatch c),U6 _,λq c=>(nomatch c)⟩⟩;rw[jdN (l:=(Y++[y]).map qY) (it:=qY y) rfl e rfl c];have F:lim ((Y++[y]).map qY).length=true:=jg (by rw[b];have:=h.n;omega);rw[N6 (l₂:=[(nw,[],[])])];show oA [a0,some (.lst false (C.map D.str)),some (.lst false (P.map D.str)),some (.lst false (O.map D.str)),some (.lst false (N.map D.str)),some (.lst true ((Y++[y]).map qY)),some (.int (i:Int)),some (.int z),some (.int m),some (.int (m / 10)),some (.str cl),some .dead,o12]=some (Out.nx [_,_,_,_,_,some (.lst true ((Y++[y]).map qY++[.lst true [.str nw,.lst true [],.lst true []]])),_,_,_,_,_,_,_]);generalize(Y++[y]).map qY=YY at *;generalize N.map D.str=NN at *;rw[b] at F;simp[oA,b,Q,F,jg]
 ·have c:oQ [a0,some (.lst false (C.map D.str)),some (.lst false (P.map D.str)),some (.lst false (O.map D.str)),some (.lst false (N.map D.str)),some (.lst true ((Y++[y]).map qY)),some (.int (i:Int)),some (.int z),some (.int m),some (.int (m / 10)),some (.str cl),some .dead,o12]=some false:=by
   generalize(Y++[y]).map qY=YY at *;generalize N.map D.str=NN at *;by_cases w:m % 10=7
   ·have v:¬ ((Y.length:Int)+1) < (N.length:Int):=λz=>u ⟨w,by omega⟩;have S:N.length<=Y.length+1:=by omega
    simp(disch:=omega) [oQ,jL,w,E,b,v,S]
   ·simp(disch:=omega) [oQ,jL,w]
  have A:OdOk C P i y:=j y (by simp);obtain⟨g,r12,T,B⟩:=jet h (m:=m) (r:=m / 10) p (by omega) (by omega) M (n:=i) (by omega) A (a0:=a0) (a6:=some (.int (i:Int))) (a7:=some (.int z)) (o12:=o12);refine⟨Y++[g],some (.int m),some (.int (m / 10)),some (.str cl),some .dead,r12,?_,by simp,by simpa using G,λx a=>(N1.mp a).elim (λa=>(j x (List.mem_append_left _ a)).mono (Nat.le_succ _)) λa=>by rw[M7.mp a];exact B⟩;rw[jc0 (l:=(Y++[y]).map qY) (it:=qY y) (d:=qY g) rfl e rfl c T rfl rfl];have f:((Y++[y]).map qY).set (((Y++[y]).map qY).length - 1) (qY g)=(Y++[g]).map qY:=by
   rw[b,Nat.add_sub_cancel,N6,N6,List.set_append_right _ _ (by simp)];simp
  rw[f];rfl
noncomputable def yr(o:Bool)(x:Od):D:=.tup [.str x.1,.lst false (x.2.1.map jG),.lst o (x.2.2.map jy)]
structure OrOk(C P:List (List Nat))(x:Od):Prop where
 nm:Nm x.1
 p:x.2.1.length<=200
 q:∀ q∈x.2.1,Nm q.1
 r:x.2.2.length<=5
 k:∀ r∈x.2.2,Ky C P r
theorem jix(x:Od):fz (qY x)=.lst false [.str x.1,.lst false (x.2.1.map jG),.lst false (x.2.2.map jy)]:=by
 have a:=jl _ (jV x.2.1);have b:=jl _ (yW x.2.2);show D.lst false [.str x.1,.lst false (fzs (x.2.1.map jG)),.lst false (fzs (x.2.2.map jy))]=_;rw[a,b]
noncomputable def jc4(x:Od):D:=.lst false [.str x.1,.lst false (x.2.1.map jG),.lst false (x.2.2.map jy)]
theorem jfM(X:List Od):fzs (X.map qY)=X.map jc4:=by
 rw[Yk,U2];exact List.map_congr_left λx _=>jix x
theorem jgB(x:Od):frz (jc4 x)=true:=by
 have a:=jV x.2.1;have b:=yW x.2.2;show frz (D.lst false [.str x.1,.lst false (x.2.1.map jG),.lst false (x.2.2.map jy)])=true;simp[a,b]
theorem jd3(X:List Od):frzs (X.map jc4)=true:=vF λd hd=>by obtain⟨x,_,rfl⟩:=M5.mp hd;exact jgB x
theorem jdg  (R:jgW ns) (S:ns.length<=63)  (h:Ctx C P O N) (T:1<=N.length) :
  ∃ X:List Od,JL [.lst false (ns.map D.int),.lst false (C.map D.str),.lst false (P.map D.str),.lst false (O.map D.str),.lst false (N.map D.str)]=some (.lst true (X.map (yr true)))/\1<=X.length/\X.length<=N.length/\∀ x∈X,OrOk C P x:=by
 have U:=qD (o:=false) (l:=N) (i:=0) (by omega) (by omega);have V:Nm (N.getD (0:Int).toNat []):=Jg h.nN (by show 0 < N.length;omega);generalize N.getD (0:Int).toNat []=nw at *;have u:=Jb ns;have A:=V6 ns;obtain⟨ρ',W,X,m,s,o8,o9,o10,o11,o12,rfl,a,b,t⟩:=vj (G:=gT 2 (gC (jk [] 6) (gC (jk [] 7) gN))) (f:=kn) (xs:=yA 0 (ns.map D.int)) (λi ρ=>∃(X:List Od) (m s o8 o9 o10 o11 o12:Option D),ρ=[some (.lst false (ns.map D.int)),some (.lst false (C.map D.str)),some (.lst false (P.map D.str)),some (.lst false (O.map D.str)),some (.lst false (N.map D.str)),some (.lst true (X.map qY)),m,s,o8,o9,o10,o11,o12]/\X≠[]/\X.length<=N.length/\∀ x∈X,OdOk C P i x) (by
  rintro i x ρ c ⟨X,m,s,o8,o9,o10,o11,o12,rfl,a,b,t⟩;obtain⟨d,hd,rfl⟩:=kQ 0 _ i x c;rw[List.getElem?_map] at hd;cases hz:ns[i]? with
  | none=>rw[hz] at hd;cases hd
  | some z =>
   rw[hz] at hd;cases hd;have hi:i < ns.length:=(L8.mp hz).1;obtain⟨Y,y,rfl⟩:∃ Y y,X=Y++[y]:=⟨X.dropLast,X.getLast a,(List.dropLast_concat_getLast a).symm⟩;obtain⟨Z,r8,r9,B,E,F,e,h0,g,hk⟩:=jaX h (R z (List.mem_of_getElem? hz)) (i:=i) (by omega) t b (a0:=some (.lst false (ns.map D.int))) (o8:=o8) (o9:=o9) (o10:=o10) (o11:=o11) (o12:=o12);refine⟨_,_,?_,.inl e,Z,some (.int (i:Int)),some (.int z),r8,r9,B,E,F,rfl,h0,g,hk⟩;rw[Nat.zero_add];rfl) (ρ:=[some (.lst false (ns.map D.int)),some (.lst false (C.map D.str)),some (.lst false (P.map D.str)),some (.lst false (O.map D.str)),some (.lst false (N.map D.str)),some (.lst true [.lst true [.str nw,.lst true [],.lst true []]]),none,none,none,none,none,none,none]) ⟨[(nw,[],[])],none,none,none,none,none,none,none,rfl,by simp,T,λx c=>by rw[M7.mp c];exact⟨V,U6 _,λq H=>(nomatch H),U6 _,λq H=>(nomatch H)⟩⟩
 rw[ki,L0] at t;have hC1:=h.c1;have I:(((C.map D.str).length:Nat):Int)=(C.length:Int):=by rw[L0]
 have L:=h.n;have fV:=jd3 X;have zW:=jfM X;have lV:lim (X.map jc4).length=true:=jg (by rw[L0];omega);obtain⟨ys,ec,g,hg⟩:=Kz (G:=jk [] 0) (p:=qv (jc (pF (p2 jn (pV 0) (pC (.int 0)))) (jc (pF (p2 jn (pV 0) (pC (.int 1)))) (jc (p2 jH (p2 jn (pV 0) (pC (.int 2))) (qX (jc (qv (jc (pC (.str [114,101,115,116])) (jc (pF (p2 jn (pV 1) (p2 jC (pCB ky (jc (p2 jn (pV 0) (pC (.int 2))) pN)) (pCB ky (jc (pV 1) pN))))) pN))) pN))) pN)))) (Good:=λd=>∃ x:Od,d=yr true x/\OrOk C P x) (P:=λρ=>∃ o,ρ=[o,some (.lst false (C.map D.str))]) (xs:=X.map jc4) (by
  rintro v hv ρ ⟨o,rfl⟩;obtain⟨x,c,rfl⟩:=M5.mp hv;have j:=t x c;have f1:=U1 (x.2.2.length:Int) (show(C.length:Int)≠0 by omega);have f2:=U0 (x.2.2.length:Int) (show 0 < (C.length:Int) by omega);have ic:=qD (o:=false) (l:=C) f1 f2;have nc:Nm (C.getD ((x.2.2.length:Int) % (C.length:Int)).toNat []):=Jg h.nC (by omega);have hm:jC (.int (x.2.2.length:Int)) (.int (C.length:Int))=some (.int ((x.2.2.length:Int) % (C.length:Int))):=jL (by omega);generalize(x.2.2.length:Int) % (C.length:Int)=q at *;generalize C.getD q.toNat []=w at *;have oxp:=j.p;have oxr:=j.r;refine⟨[some (jc4 x),some (.lst false (C.map D.str))],yr true (x.1,x.2.1,x.2.2++[.two Y9 w]),rfl,?_,⟨_,rfl,j.nm,by show x.2.1.length<=200;omega,j.q,by show(x.2.2++[Rl.two Y9 w]).length<=5;rw[N5];show x.2.2.length+1<=5;omega,λr J=>(N1.mp J).elim (j.k r) λJ=>by rw[M7.mp J];exact⟨by decide,by decide,nc,.inr (.inr (.inr rfl))⟩⟩,_,rfl⟩;have j0:jn (jc4 x) (.int 0)=some (.str x.1):=rfl;have j1:jn (jc4 x) (.int 1)=some (.lst false (x.2.1.map jG)):=rfl;have j2:jn (jc4 x) (.int 2)=some (.lst false (x.2.2.map jy)):=rfl;have fq:=jV x.2.1;have fr:=yW x.2.2;have lr:(((x.2.2.map jy).length:Nat):Int)=(x.2.2.length:Int):=by rw[L0]
  have ad:jH (.lst false (x.2.2.map jy)) (.lst true [.tup [.str Y9,.str w]])=some (.lst true (x.2.2.map jy++[.tup [.str Y9,.str w]])):=by
   show(bif lim ((x.2.2.map jy).length+1)&&(frzs (x.2.2.map jy)&&frzs [.tup [.str Y9,.str w]]) then some (D.lst true (x.2.2.map jy++[.tup [.str Y9,.str w]])) else none)=_;rw[fr,jg (by rw[L0];omega)];rfl
  unfold yr;rw[N6];show _=some (D.tup [.str x.1,.lst false (x.2.1.map jG),.lst true (x.2.2.map jy++[.tup [.str Y9,.str w]])]);generalize x.2.1.map jG=QQ,x.2.2.map jy=RR,jc4 x=ev,C.map D.str=CC at *;simp(disch:=omega) [j0,j1,j2,fq,lr,I,hm,ic,ad,jg]) (ρ:=jE [none,some 1] [some (.lst false (ns.map D.int)),some (.lst false (C.map D.str)),some (.lst false (P.map D.str)),some (.lst false (O.map D.str)),some (.lst false (N.map D.str)),some (.lst false (X.map jc4)),m,s,o8,o9,o10,o11,o12]) ⟨none,rfl⟩
 rw[L0] at g;obtain⟨M,rfl,K⟩:=K9 (f:=yr true) (Q:=OrOk C P) hg;rw[L0] at g;refine⟨M,?_,by rw[g];exact Nat.pos_of_ne_zero λz=>a (List.eq_nil_of_length_eq_zero z),by omega,K⟩;have en:V0 [.lst false (ns.map D.int)]=some (yA 0 (ns.map D.int)):=by
  show some (yA 0 (fzs (ns.map D.int)))=_;rw[A]
 generalize M.map (yr true)=X3,X.map jc4=XV,X.map qY=XW,ns.map D.int=NS,C.map D.str=CC,P.map D.str=PP,O.map D.str=OO,N.map D.str=NN at *;simp[JL,jX,Vi,U,jg,u,en,W,zW,fV,lV,ec]
noncomputable abbrev Lk:=List Nat×Int×List Nat
noncomputable def Vf(x:Lk):D:=.tup [.str x.1,.int x.2.1,.str x.2.2]
structure LkOk(C:List (List Nat))(X:List Od)(x:Lk):Prop where
 m:x.1∈C
 c:Nm x.1
 d:1<=x.2.1
 n:∃ y∈X,y.1=x.2.2
theorem jnp  {X:List Od}{i:Int}(h0:0<=i) (h:i < X.length):∃ x∈X,jn (.lst o (X.map (yr false))) (.int i)=some (yr false x):=by
 have a:i.toNat < X.length:=by omega
 exact⟨X[i.toNat],List.getElem_mem a,by rw[jfq h0 (by rw[L0];exact h),List.getElem?_map,X8 a];rfl⟩
theorem O0(o:Bool)(x:Od):jn (yr o x) (.int 0)=some (.str x.1):=rfl
theorem jc2{m mo:Int}(h0:0<=m)(h1:m < 10 ^ 10)(I:1<=mo)(J:mo<=9){C:List (List Nat)}(K:1<=C.length)(nC:∀ w∈C,Nm w){X:List Od}(M:1<=X.length){L:List Lk}(N:L.length<=100){i:Nat}(hi:i<=2){o6:Option D} :
  ∃(l:Lk) (r6:Option D),qQ [some (.int m),some (.lst false (C.map D.str)),some (.lst false (X.map (yr false))),some (.int mo),some (.lst true (L.map Vf)),some (.int (0+(i:Int))),o6] =
   some (.nx [some (.int m),some (.lst false (C.map D.str)),some (.lst false (X.map (yr false))),some (.int mo),some (.lst true ((L++[l]).map Vf)),some (.int (0+(i:Int))),r6])/\LkOk C X l:=by
 have a:jjF [.int 2,.int (C.length:Int)]=some (.int (if(C.length:Int) < 2 then(C.length:Int) else 2)):=rfl;have g:1<=(if(C.length:Int) < 2 then(C.length:Int) else 2):=by split<;>omega
 have h:(if(C.length:Int) < 2 then(C.length:Int) else 2)<=(C.length:Int):=by split<;>omega
 generalize(if(C.length:Int) < 2 then(C.length:Int) else 2)=k at a g h;have O:0<=7*(0+(i:Int))*(m / 50):=Int.mul_nonneg (by omega) (by omega);have j:vN (.int (0+(i:Int))) (.int 40)=some (.int ((0+(i:Int))*40)):=Jy (by omega) (by omega);have p:vN (.int 7) (.int (0+(i:Int)))=some (.int (7*(0+(i:Int)))):=Jy (by omega) (by omega);have q:vN (.int (7*(0+(i:Int)))) (.int (m / 50))=some (.int (7*(0+(i:Int))*(m / 50))):=Jy (by omega) (by omega);generalize 7*(0+(i:Int))*(m / 50)=t at *;generalize r:m / 3+(0+(i:Int))*40+t=n at *;have s:0<=n:=by omega
 have u:=U1 n (show k≠0 by omega);have P:=U0 n (show 0 < k by omega);have v:=qD (o:=false) (l:=C) (i:=n % k) u (by omega);have f:C.getD (n % k).toNat []∈C:=Jt (by omega);have y:Nm (C.getD (n % k).toNat []):=nC _ f;have mk:jC (.int n) (.int k)=some (.int (n % k)):=jL (by omega);generalize n % k=nk at *;generalize C.getD nk.toNat []=cl at *;have Q:=U1 (n / 2) (show mo≠0 by omega);have z:jC (.int (n / 2)) (.int mo)=some (.int (n / 2 % mo)):=jL (by omega);generalize n / 2 % mo=dy at *;have A:vN (.int 2) (.int mo)=some (.int (2*mo)):=Jy (by omega) (by omega);have B:jY (.int n) (.int (2*mo))=some (.int (n / (2*mo))):=yq (by omega) (by omega);generalize n / (2*mo)=nd at *;have E:=U1 nd (show(X.length:Int)≠0 by omega);have F:=U0 nd (show 0 < (X.length:Int) by omega);obtain⟨x,G,ix⟩:=jnp (o:=false) (X:=X) E F;have H:=O0 false x;have c:jC (.int nd) (.int (X.length:Int))=some (.int (nd % (X.length:Int))):=jL (by omega);generalize nd % (X.length:Int)=nx at *;have d:(((X.map (yr false)).length:Nat):Int)=(X.length:Int):=by rw[L0]
 have e:(((C.map D.str).length:Nat):Int)=(C.length:Int):=by rw[L0]
 have b:lim (L.map Vf).length=true:=jg (by rw[L0];omega);refine⟨(cl,1+dy,x.1),some (.int n),?_,f,y,by show 1<=1+dy;omega,x,G,rfl⟩;rw[N6];show _=some (Out.nx [_,_,_,_,some (.lst true (L.map Vf++[.tup [.str cl,.int (1+dy),.str x.1]])),_,_]);generalize C.map D.str=CC,X.map (yr false)=XX,L.map Vf=LL at *;simp(disch:=omega) [qQ,yq,j,p,q,r,e,a,mk,v,z,A,B,d,c,ix,H,b,jg,-Int.zero_add]
theorem jfm  (h0:0<=m) (h1:m < 10 ^ 10) (h:1<=mo) (k:mo<=9)  (n:1<=C.length) (nC:∀ w∈C,Nm w)  (o:1<=X.length) :
  ∃ L:List Lk,YR [.int m,.lst false (C.map D.str),.lst false (X.map (yr false)),.int mo]=some (.lst true (L.map Vf))/\L.length<=2/\∀ l∈L,LkOk C X l:=by
 have b:=vK (j:=m % 3) (by omega) (by omega);obtain⟨t,p,L,c,o6,rfl,d,g⟩:=vj (G:=jk [] 5) (f:=qQ) (xs:=Jn 0 (m % 3).toNat) (λi ρ=>∃(L:List Lk) (c o6:Option D),ρ=[some (.int m),some (.lst false (C.map D.str)),some (.lst false (X.map (yr false))),some (.int mo),some (.lst true (L.map Vf)),c,o6]/\L.length=i/\∀ l∈L,LkOk C X l) (by
  rintro i x ρ q ⟨L,c,o6,rfl,d,g⟩;obtain⟨rfl,u⟩:=YH q;obtain⟨l,r,e,s⟩:=jc2 h0 h1 h k n nC o (L:=L) (by omega) (i:=i) (by omega) (o6:=o6);exact⟨_,_,rfl,.inl e,L++[l],some (.int (0+(i:Int))),r,rfl,by simp[d],λv a=>(N1.mp a).elim (g v) λa=>by rw[M7.mp a];exact s⟩) (ρ:=[some (.int m),some (.lst false (C.map D.str)),some (.lst false (X.map (yr false))),some (.int mo),some (.lst true []),none,none]) ⟨[],none,none,rfl,rfl,λv a=>(nomatch a)⟩
 rw[vv] at d;refine⟨L,?_,by omega,g⟩;generalize C.map D.str=CC,X.map (yr false)=XX,L.map Vf=LL at *;simp(disch:=omega) [YR,jX,Ki,jL,b,p,jg]
theorem jdU  (h1:p ρ=some e) (h2:jda e=some m) (a:ρ[i]?=some (some (.lst true l))) (b:l.length+m.length<=1000):jfE i p ρ=some (.nx (ρ.set i (some (.lst true (l++m))))):=by
 unfold jfE;rw[h1,L3,h2,L3,a];dsimp only;rw[jg (by omega)];rfl
theorem jbG{ws:List (List Nat)}:∀{o:Option D},jM (jk [] 0) qT (pF (pV 0)) (ws.map D.str) [o]=some (ws.map D.str):=by
 induction ws with
 | nil=>intro o;rfl
 | cons w ws a =>
  intro o;have:=a (o:=some (.str w));rw[L4,jJ];simp[this]
theorem jeZ{a0 a1 a2 a3 a5 a6 a7 a9 b0 b1:Option D}{C P:List (List Nat)}(d:Ky C P r){N:List (List Nat)}(y:N.length<=960):∃ T:List (List Nat),T.length<=8/\vf [a0,a1,a2,a3,some (.lst true (N.map D.str)),a5,a6,a7,some (jy r),a9,b0,b1]=some (.nx [a0,a1,a2,a3,some (.lst true ((N++T).map D.str)),a5,a6,a7,some (jy r),a9,b0,b1]):=by
 have c:lim (N.map D.str).length=true:=jg (by rw[L0];omega);cases r with
 | two a x =>
  have b:jn (jy (.two a x)) (.int 0)=some (.str a):=rfl;have f:jn (jy (.two a x)) (.int 1)=some (.str x):=rfl;have q:(a==vJ)=false:=U3.mpr d.1;by_cases k:a=jv
  ·subst k;refine⟨[x],by simp,?_⟩;rw[N6];show _=some (Out.nx [_,_,_,_,some (.lst true (N.map D.str++[.str x])),_,_,_,_,_,_,_]);generalize N.map D.str=NN,jy (.two jv x)=rr at *;simp[vf,b,f,c]
  ·have g:(a==[114,101,112,97,121])=false:=U3.mpr k;have h:(a==[115,104,97,114,101])=false:=q;refine⟨[],by simp,?_⟩;rw[M9];generalize N.map D.str=NN,jy (.two a x)=rr at *;simp[vf,b,f,g,h]
 | many ws =>
  have j:ws.length<=8:=d.1;have b:jn (jy (.many ws)) (.int 0)=some (.str vJ):=rfl;have f:jn (jy (.many ws)) (.int 1)=some (.tup (ws.map D.str)):=rfl;have n:=jA ws;have s:=vb ws;have t:lim (ws.map D.str).length=true:=jg (by rw[L0];omega);refine⟨ws,j,?_⟩;rw[N6];have u:jM (jk [] 0) qT (pF (pV 0)) (ws.map D.str) (jE [none] [a0,a1,a2,a3,some (.lst true (N.map D.str)),a5,a6,a7,some (jy (.many ws)),a9,b0,b1])=some (ws.map D.str):=jbG (ws:=ws) (o:=none);have w:=jdU (i:=4) (p:=yT (VP (p2 jn (pV 8) (pC (.int 1)))) (jk [] 0) qT (pF (pV 0)) [none]) (ρ:=[a0,a1,a2,a3,some (.lst true (N.map D.str)),a5,a6,a7,some (jy (.many ws)),a9,b0,b1]) (e:=.lst true (ws.map D.str)) (m:=ws.map D.str) (l:=N.map D.str) (by
   generalize ws.map D.str=WW,jy (.many ws)=rr at *;simp[f,n,s,t,u]) (by show(bif frzs (ws.map D.str) then _ else _)=_;rw[n];rfl) rfl (by rw[L0,L0];omega)
  generalize N.map D.str++ws.map D.str=NW,N.map D.str=NN,jy (.many ws)=rr at *;simp[vf,b,w]
 | lend a x v =>
  have b:jn (jy (.lend a x v)) (.int 0)=some (.str a):=rfl;have g:(a==[114,101,112,97,121])=false:=U3.mpr d.1.2;have h:(a==[115,104,97,114,101])=false:=U3.mpr d.1.1;refine⟨[],by simp,?_⟩;rw[M9];generalize N.map D.str=NN,jy (.lend a x v)=rr at *;simp[vf,b,g,h]
theorem JA(x:Od):frz (yr false x)=true:=by
 have a:=jV x.2.1;have b:=yW x.2.2;show frz (D.tup [.str x.1,.lst false (x.2.1.map jG),.lst false (x.2.2.map jy)])=true;simp[a,b]
theorem VI(X:List Od):frzs (X.map (yr false))=true:=vF λd hd=>by obtain⟨x,_,rfl⟩:=M5.mp hd;exact JA x
noncomputable abbrev Gd:=List Nat×List Nat
noncomputable abbrev VU(q:Gd):D:=.tup [.str q.1,.str q.2]
theorem jaB{m:Int}(h0:0<=m){C P N:List (List Nat)}{a3 a5 a6 a7 a8:Option D}{G:List Gd}(E:G.length<=100){i:Nat}(hi:i<=50){c:List Nat}(s:Nm c)(nP:∀ w∈P,Nm w) :
  ∃ T:List Gd,T.length<=1/\(∀ g∈T,(Nm g.1/\Nm g.2)/\g.1∈P/\g.2=c)/\kj [some (.int m),some (.lst false (C.map D.str)),some (.lst false (P.map D.str)),a3,some (.lst true (N.map D.str)),a5,a6,a7,a8,some (.lst true (G.map VU)),some (.int (i:Int)),some (.str c)] =
   some (.nx [some (.int m),some (.lst false (C.map D.str)),some (.lst false (P.map D.str)),a3,some (.lst true (N.map D.str)),a5,a6,a7,a8,some (.lst true ((G++T).map VU)),some (.int (i:Int)),some (.str c)]):=by
 have a:=jdF c true N;have e:(((P.map D.str).length:Nat):Int)=(P.length:Int):=by rw[L0]
 have f:lim (G.map VU).length=true:=jg (by rw[L0];omega);have p:vN (.int 5) (.int (i:Int))=some (.int (5*(i:Int))):=Jy (by omega) (by omega);have u:vN (.int 7) (.int (i:Int))=some (.int (7*(i:Int))):=Jy (by omega) (by omega);have r:jY (.int m) (.int (5*(i:Int)+3))=some (.int (m / (5*(i:Int)+3))):=yq (by omega) (by omega);have v:jY (.int m) (.int (7*(i:Int)+2))=some (.int (m / (7*(i:Int)+2))):=yq (by omega) (by omega);generalize m / (5*(i:Int)+3)=t1,m / (7*(i:Int)+2)=t2 at *;by_cases w:¬ c∈N/\0 < P.length/\0 < t1 % 4
 ·obtain⟨d,h,j⟩:=w;have p1:=U1 t2 (show(P.length:Int)≠0 by omega);have p2:=U0 t2 (show 0 < (P.length:Int) by omega);have x:=qD (o:=false) (l:=P) p1 p2;have y:Nm (P.getD (t2 % (P.length:Int)).toNat []):=Jg nP (by omega);have A:P.getD (t2 % (P.length:Int)).toNat []∈P:=Jt (by omega);have k:jC (.int t2) (.int (P.length:Int))=some (.int (t2 % (P.length:Int))):=jL (by omega);generalize t2 % (P.length:Int)=q at *;generalize P.getD q.toNat []=pq at *;have b:(0:Int) < (P.length:Int):=by omega
  refine⟨[(pq,c)],by simp,λg n=>by rw[M7.mp n];exact⟨⟨y,s⟩,A,rfl⟩,?_⟩;rw[N6];show _=some (Out.nx [_,_,_,_,_,_,_,_,_,some (.lst true (G.map VU++[.tup [.str pq,.str c]])),_,_]);generalize C.map D.str=CC,P.map D.str=PP,N.map D.str=NN,G.map VU=GG at *;simp(disch:=omega) [kj,a,d,e,b,h,p,u,r,v,jL,j,k,x,f,jg]
 ·refine⟨[],by simp,λg n=>(nomatch n),?_⟩;rw[M9];have t:(VT (js (p2 (J6 true) (pV 11) (pV 4))) (VT (js (p2 wy (pCB ky (jc (pV 2) pN)) (pC (.int 0)))) (js (p2 wy (p2 jC (p2 jY (pV 0) (p2 jH (p2 vN (pC (.int 5)) (pV 10)) (pC (.int 3)))) (pC (.int 4))) (pC (.int 0)))))) [some (.int m),some (.lst false (C.map D.str)),some (.lst false (P.map D.str)),a3,some (.lst true (N.map D.str)),a5,a6,a7,a8,some (.lst true (G.map VU)),some (.int (i:Int)),some (.str c)]=some false:=by
   by_cases d:c∈N
   ·generalize N.map D.str=NN at *;simp[a,d]
   by_cases h:0 < P.length
   ·have j:¬ 0 < t1 % 4:=λz=>w ⟨d,h,z⟩;have b:(0:Int) < (P.length:Int):=by omega
    generalize N.map D.str=NN,P.map D.str=PP at *;simp(disch:=omega) [a,d,e,b,h,p,r,jL,j]
    try omega
   ·have B:P=[]:=List.eq_nil_of_length_eq_zero (by omega);subst B;generalize N.map D.str=NN at *;simp[a,d]
  generalize C.map D.str=CC,P.map D.str=PP,N.map D.str=NN,G.map VU=GG at *;simp[kj,-jlJ,t]
theorem jdH{m:Int}(h0:0<=m){C P:List (List Nat)}(S:C.length<=6)(nC:∀ w∈C,Nm w)(nP:∀ w∈P,Nm w){X:List Od}(U:X.length<=5)(L:∀ x∈X,OrOk C P x) :
  ∃ G:List Gd,JC [.int m,.lst false (C.map D.str),.lst false (P.map D.str),.lst false (X.map (yr false))]=some (.lst true (G.map VU))/\G.length<=6/\∀ g∈G,(Nm g.1/\Nm g.2)/\g.1∈P/\g.2∈C:=by
 have p:=VI X;have s:=jl _ p;obtain⟨V,N,e,⟨l,n,o,a,rfl⟩,H,_⟩:=zB (G:=gT 3 (gC (jk [] 5) (gC (jk [] 6) (gC (jk [] 7) gN)))) (f:=JR) (λ(acc:List (List Nat)) ρ=>∃ l n o a,ρ=[some (.int m),some (.lst false (C.map D.str)),some (.lst false (P.map D.str)),some (.lst false (X.map (yr false))),some (.lst true (acc.map D.str)),l,n,o,a,none,none,none]) (λ_=>True) 40 200 (xs:=X.map (yr false)) (acc:=[]) (ρ:=[some (.int m),some (.lst false (C.map D.str)),some (.lst false (P.map D.str)),some (.lst false (X.map (yr false))),some (.lst true []),none,none,none,none,none,none,none]) (by
  rintro d hd acc ρ I _ ⟨l,n,o,a,rfl⟩;obtain⟨x,t,rfl⟩:=M5.mp hd;have u:=L x t;have q:=yW x.2.2;have y:=jl _ q;obtain⟨W,T,e,⟨A,rfl⟩,H,_⟩:=zB (G:=jk [] 8) (f:=vf) (λ(acc:List (List Nat)) ρ=>∃ a,ρ=[some (.int m),some (.lst false (C.map D.str)),some (.lst false (P.map D.str)),some (.lst false (X.map (yr false))),some (.lst true (acc.map D.str)),some (.str x.1),some (.lst false (x.2.1.map jG)),some (.lst false (x.2.2.map jy)),a,none,none,none]) (λ_=>True) 8 960 (xs:=x.2.2.map jy) (acc:=acc) (ρ:=[some (.int m),some (.lst false (C.map D.str)),some (.lst false (P.map D.str)),some (.lst false (X.map (yr false))),some (.lst true (acc.map D.str)),some (.str x.1),some (.lst false (x.2.1.map jG)),some (.lst false (x.2.2.map jy)),a,none,none,none]) (by
   rintro d hd acc ρ I _ ⟨a,rfl⟩;obtain⟨r,M,rfl⟩:=M5.mp hd;obtain⟨T,J,O⟩:=jeZ (a0:=some (.int m)) (a1:=some (.lst false (C.map D.str))) (a2:=some (.lst false (P.map D.str))) (a3:=some (.lst false (X.map (yr false)))) (a5:=some (.str x.1)) (a6:=some (.lst false (x.2.1.map jG))) (a7:=some (.lst false (x.2.2.map jy))) (a9:=none) (b0:=none) (b1:=none) (u.k r M) I;exact⟨_,_,T,rfl,O,J,λ_ _=>trivial,_,rfl⟩) (by rw[L0];have:=u.r;omega) (λ_ _=>trivial) ⟨a,rfl⟩
  rw[L0] at H;refine⟨[some (.int m),some (.lst false (C.map D.str)),some (.lst false (P.map D.str)),some (.lst false (X.map (yr false))),some (.lst true (acc.map D.str)),some (.str x.1),some (.lst false (x.2.1.map jG)),some (.lst false (x.2.2.map jy)),a,none,none,none],_,T,rfl,?_,by have:=u.r;omega,λ_ _=>trivial,some (.str x.1),some (.lst false (x.2.1.map jG)),some (.lst false (x.2.2.map jy)),A,rfl⟩;generalize X.map (yr false)=XX,x.2.2.map jy=RR,acc.map D.str=AA at *;simp[JR,q,y,e]) (by rw[L0];simp;omega) (λ_ _=>trivial) ⟨none,none,none,none,rfl⟩
 rw[X7] at e;have B:=jA C;have E:=vb C;obtain⟨Y,Q,G,b,c,rfl,K,F⟩:=vj (G:=gT 2 (gC (jk [] 10) (gC (jk [] 11) gN))) (f:=kj) (xs:=yA 0 (C.map D.str)) (λi ρ=>∃(G:List Gd) (b c:Option D),ρ=[some (.int m),some (.lst false (C.map D.str)),some (.lst false (P.map D.str)),some (.lst false (X.map (yr false))),some (.lst true (N.map D.str)),l,n,o,a,some (.lst true (G.map VU)),b,c]/\G.length<=i/\∀ g∈G,(Nm g.1/\Nm g.2)/\g.1∈P/\g.2∈C) (by
  rintro i x ρ t ⟨G,b,c,rfl,K,F⟩;obtain⟨d,hd,rfl⟩:=kQ 0 _ i x t;rw[List.getElem?_map] at hd;cases hz:C[i]? with
  | none=>rw[hz] at hd;cases hd
  | some z =>
   rw[hz] at hd;cases hd;have Z:i < C.length:=(L8.mp hz).1;obtain⟨T,J,h,e⟩:=jaB h0 (C:=C) (P:=P) (N:=N) (a3:=some (.lst false (X.map (yr false)))) (a5:=l) (a6:=n) (a7:=o) (a8:=a) (G:=G) (by omega) (i:=i) (by omega) (nC z (List.mem_of_getElem? hz)) nP;refine⟨_,_,?_,.inl e,G++T,some (.int (i:Int)),some (.str z),rfl,by rw[N5];omega,λv j=>(N1.mp j).elim (F v) λj=>⟨(h v j).1,(h v j).2.1,(h v j).2.2▸List.mem_of_getElem? hz⟩⟩;rw[Nat.zero_add];rfl) (ρ:=[some (.int m),some (.lst false (C.map D.str)),some (.lst false (P.map D.str)),some (.lst false (X.map (yr false))),some (.lst true (N.map D.str)),l,n,o,a,some (.lst true []),none,none]) ⟨[],none,none,rfl,by simp,λv j=>(nomatch j)⟩
 rw[ki,L0] at K;have R:V0 [.lst false (C.map D.str)]=some (yA 0 (C.map D.str)):=by
  show some (yA 0 (fzs (C.map D.str)))=_;rw[E]
 refine⟨G,?_,by omega,F⟩;generalize C.map D.str=CC,P.map D.str=PP,X.map (yr false)=XX,N.map D.str=NN,G.map VU=GG at *;simp[JC,jX,Vh,p,s,e,B,R,Q,jg]
noncomputable abbrev Cl:=List Nat×Int×Int
noncomputable abbrev JY(x:Cl):D:=.tup [.str x.1,.int x.2.1,.int x.2.2]
theorem VN(l:List Cl):frzs (l.map JY)=true:=vF λd hd=>by obtain⟨x,_,rfl⟩:=M5.mp hd;rfl
theorem Vw(L:List Lk):frzs (L.map Vf)=true:=vF λd hd=>by obtain⟨x,_,rfl⟩:=M5.mp hd;rfl
theorem VL(L:List Gd):frzs (L.map VU)=true:=vF λd hd=>by obtain⟨x,_,rfl⟩:=M5.mp hd;rfl
theorem jjy(X:List Od):fzs (X.map (yr true))=X.map (yr false):=by
 rw[Yk,U2];refine List.map_congr_left λx _=>?_;have a:=jl _ (jV x.2.1);have b:=jl _ (yW x.2.2);show D.tup [.str x.1,.lst false (fzs (x.2.1.map jG)),.lst false (fzs (x.2.2.map jy))]=_;rw[a,b];rfl
structure Pl where
 nm:List Nat
 C:List Cl
 P:List Qt
 E:List (List Nat)
 X:List Od
 L:List Lk
 G:List Gd
noncomputable def jz(o:Bool)(p:Pl):D:=.tup [.str p.nm,.lst false (p.C.map JY),.lst false (p.P.map jG),.lst false (p.E.map D.str),.lst false (p.X.map (yr false)),.lst false (p.L.map Vf),.lst o (p.G.map VU)]
structure PlOk(p:Pl):Prop where
 nm:Nm p.nm
 c:p.C.length<=6
 nC:∀ c∈p.C,Nm c.1
 p6:p.P.length<=6
 nP:∀ c∈p.P,Nm c.1
 e:p.E.length<=6
 nE:∀ c∈p.E,Nm c
 x1:1<=p.X.length
 x5:p.X.length<=5
 x:∀ x∈p.X,OrOk (p.C.map (·.1)) (p.P.map (·.1)) x
 l2:p.L.length<=2
 l:∀ l∈p.L,LkOk (p.C.map (·.1)) p.X l
 cN:(p.C.map (·.1)).Nodup
 c1:∀ c∈p.C,1<=c.2.1
 pN:(p.P.map (·.1)).Nodup
 p1:∀ c∈p.P,1<=c.2
 g6:p.G.length<=6
 g:∀ g∈p.G,(Nm g.1/\Nm g.2)/\g.1∈p.P.map (·.1)/\g.2∈p.C.map (·.1)
 me:∀ c∈p.E,c∈p.C.map (·.1)
theorem ja1  (j:0<=sc) (t:sc < 2147483587)  (u:C.length<=6) (nC:∀ w∈C,Nm w)  :
  ∃(K:List Cl) (o11 o12:Option D),kO (gT 2 (gC (jk [] 11) (gC (jk [] 12) gN))) JJ (yA 0 (C.map D.str)) [a0,a1,a2,a3,a4,a5,some (.int sc),some (.lst false (C.map D.str)),a8,a9,some (.lst true []),none,none,none,none,none] =
   some (.nx [a0,a1,a2,a3,a4,a5,some (.int sc),some (.lst false (C.map D.str)),a8,a9,some (.lst true (K.map JY)),o11,o12,none,none,none])/\K.map (·.1)=C/\∀ c∈K,1<=c.2.1:=by
 obtain⟨y,k,K,o11,o12,rfl,e,l⟩:=vj (G:=gT 2 (gC (jk [] 11) (gC (jk [] 12) gN))) (f:=JJ) (xs:=yA 0 (C.map D.str)) (λi ρ=>∃(K:List Cl) (o11 o12:Option D),ρ=[a0,a1,a2,a3,a4,a5,some (.int sc),some (.lst false (C.map D.str)),a8,a9,some (.lst true (K.map JY)),o11,o12,none,none,none]/\K.map (·.1)=C.take i/\∀ c∈K,1<=c.2.1) (by
  rintro i x ρ p ⟨K,o11,o12,rfl,e,l⟩;obtain⟨d,hd,rfl⟩:=kQ 0 _ i x p;rw[List.getElem?_map] at hd;cases hz:C[i]? with
  | none=>rw[hz] at hd;cases hd
  | some z =>
   rw[hz] at hd;cases hd;have A:i < C.length:=(L8.mp hz).1;have nz:=nC z (List.mem_of_getElem? hz);have B:=Int.ediv_nonneg (a:=sc) (b:=(i:Int)+1) j (by omega);have E:=Int.ediv_le_self (a:=sc) ((i:Int)+1) j;have F:=Int.ediv_nonneg (a:=sc) (b:=(i:Int)+5) j (by omega);have H:=Int.ediv_le_self (a:=sc) ((i:Int)+5) j;obtain⟨n,k,q⟩:=K1 (m:=sc / ((i:Int)+1)) (by omega) (by omega);obtain⟨o,r,_⟩:=K1 (m:=sc / ((i:Int)+5)+(i:Int)) (by omega) (by omega);have s:K.length<=i:=by
    have:(K.map (·.1)).length=(C.take i).length:=by rw[e]
    rw[L0,X9] at this;omega
   have g:lim (K.map JY).length=true:=jg (by rw[L0];omega);refine⟨[a0,a1,a2,a3,a4,a5,some (.int sc),some (.lst false (C.map D.str)),a8,a9,some (.lst true (K.map JY)),some (.int (i:Int)),some (.str z),none,none,none],[a0,a1,a2,a3,a4,a5,some (.int sc),some (.lst false (C.map D.str)),a8,a9,some (.lst true ((K++[(z,n,o)]).map JY)),some (.int (i:Int)),some (.str z),none,none,none],?_,.inl ?_,K++[(z,n,o)],some (.int (i:Int)),some (.str z),rfl,by rw[N6,e,List.take_add_one,hz];rfl,λv h=>(N1.mp h).elim (l v) λh=>by rw[M7.mp h];exact q⟩
   ·rw[Nat.zero_add];rfl
   ·rw[N6];show _=some (Out.nx [_,_,_,_,_,_,_,_,_,_,some (.lst true (K.map JY++[.tup [.str z,.int n,.int o]])),_,_,_,_,_]);generalize C.map D.str=CC,K.map JY=KK at *;simp(disch:=omega) [JJ,yq,k,r,g,jg]) (ρ:=[a0,a1,a2,a3,a4,a5,some (.int sc),some (.lst false (C.map D.str)),a8,a9,some (.lst true []),none,none,none,none,none]) ⟨[],none,none,rfl,rfl,λv h=>(nomatch h)⟩
 rw[ki,L0,List.take_length] at e;exact⟨K,o11,o12,k,e,l⟩
theorem jbF  (b:0<=sc) (d:sc < 2147483587):∀{P:List (List Nat)}{j:Nat}{o0 o1:Option D},j+P.length<=100 ->
  ∃ K:List Qt,jM (gT 2 (gC (jk [] 0) (gC (jk [] 1) gN))) qT (qv (jc (pF (pV 1)) (jc (jW yF (jc (p2 jH (p2 jY (pV 2) (pC (.int 13))) (pV 0)) pN)) pN))) (yA j (P.map D.str)) [o0,o1,some (.int sc)]=some (K.map jG)/\K.map (·.1)=P/\∀ c∈K,1<=c.2
 | [],_,_,_,_=>⟨[],rfl,rfl,λc a=>(nomatch a)⟩
 | w::P,j,o0,o1,f=>by
  rw[M0] at f;obtain⟨K,e,g,h⟩:=jbF b d (P:=P) (j:=j+1) (o0:=some (.int (j:Int))) (o1:=some (.str w)) (by omega);obtain⟨v,i,k⟩:=K1 (m:=sc / 13+(j:Int)) (by omega) (by omega);refine⟨(w,v)::K,?_,by rw[L4,g],λc a=>?_⟩
  ·have l:(gT 2 (gC (jk [] 0) (gC (jk [] 1) gN))) (.tup [.int (j:Int),.str w]) [o0,o1,some (.int sc)]=some [some (.int (j:Int)),some (.str w),some (.int sc)]:=rfl;rw[L4,yA,jJ,l,L4];generalize K.map jG=KK at *;simp(disch:=omega) [yq,i,e,jg]
  ·rcases M4.mp a with rfl | a
   ·exact k
   ·exact h c a
theorem jkB{C:List (List Nat)}(v:1<=C.length)(nC:∀ w∈C,Nm w){m:Int}{k:Nat} :
  ∃ E:List (List Nat),jM (jk [] 0) qT (pF (p2 jn (pV 1) (p2 jC (p2 jH (p2 jY (pV 2) (pC (.int 12))) (pV 0)) (pCB ky (jc (pV 1) pN))))) (Jn 0 k) [none,some (.lst false (C.map D.str)),some (.int m)]=some (E.map D.str)/\E.length=k/\∀ w∈E,Nm w/\w∈C:=by
 have a:(((C.map D.str).length:Nat):Int)=(C.length:Int):=by rw[L0]
 obtain⟨y,e,b,g⟩:=Kz (G:=jk [] 0) (p:=pF (p2 jn (pV 1) (p2 jC (p2 jH (p2 jY (pV 2) (pC (.int 12))) (pV 0)) (pCB ky (jc (pV 1) pN))))) (Good:=λd=>∃ w,d=.str w/\Nm w/\w∈C) (P:=λρ=>∃ o,ρ=[o,some (.lst false (C.map D.str)),some (.int m)]) (xs:=Jn 0 k) (by
  rintro x h ρ ⟨o,rfl⟩;obtain⟨i,z,rfl⟩:=M5.mp h;have j:=U1 (m / 12+(0+(i:Int))) (show(C.length:Int)≠0 by omega);have n:=U0 (m / 12+(0+(i:Int))) (show 0 < (C.length:Int) by omega);have r:=qD (o:=false) (l:=C) j n;have s:=Jg nC (i:=((m / 12+(0+(i:Int))) % (C.length:Int)).toNat) (by omega);have t:C.getD ((m / 12+(0+(i:Int))) % (C.length:Int)).toNat []∈C:=Jt (by omega);have c:jC (.int (m / 12+(0+(i:Int)))) (.int (C.length:Int))=some (.int ((m / 12+(0+(i:Int))) % (C.length:Int))):=jL (by omega);generalize(m / 12+(0+(i:Int))) % (C.length:Int)=q at *;generalize C.getD q.toNat []=w at *;refine⟨[some (.int (0+(i:Int))),some (.lst false (C.map D.str)),some (.int m)],.str w,rfl,?_,⟨_,rfl,s,t⟩,_,rfl⟩;generalize C.map D.str=CC at *;simp(disch:=omega) [yq,a,c,r,-Int.zero_add]) (ρ:=[none,some (.lst false (C.map D.str)),some (.int m)]) ⟨none,rfl⟩
 rw[vv] at b;obtain⟨W,rfl,u⟩:=K9 (f:=D.str) (Q:=λw=>Nm w/\w∈C) g;rw[L0] at b;exact⟨W,e,b,u⟩
theorem jkK  (h:W.length=7):∃ a b c d e f g,W=[a,b,c,d,e,f,g]:=by
 match W,h with
 | [a,b,c,d,e,f,g],_=>exact⟨a,b,c,d,e,f,g,rfl⟩
theorem jeX  (h:W.length=7)  (h0:0<=q) (h1:q<=2):1<=(v7 W (some 1) (some (2+q))).length/\(v7 W (some 1) (some (2+q))).length<=3:=by
 obtain⟨a,b,c,d,e,f,g,rfl⟩:=jkK h;rcases(by omega:q=0 \/ q=1 \/ q=2) with rfl | rfl | rfl<;>exact⟨Nat.le_of_ble_eq_true rfl,Nat.le_of_ble_eq_true rfl⟩
theorem jfx  (h:W.length=7)  (h0:0<=q) (h1:q<=2):(v7 W (some 4) (some (4+q))).length<=2:=by
 obtain⟨a,b,c,d,e,f,g,rfl⟩:=jkK h;rcases(by omega:q=0 \/ q=1 \/ q=2) with rfl | rfl | rfl<;>exact Nat.le_of_ble_eq_true rfl
theorem jg8  (h:l.Nodup):(v7 l lo hi).Nodup:=by
 unfold v7;exact h.sublist ((List.take_sublist _ _).trans (List.drop_sublist _ _))
theorem jaW(o:Bool)(l:List Int)(lo hi:Option Int):jc3 lo hi (.lst o (l.map D.int))=some (.lst true ((v7 l lo hi).map D.int)):=by
 rw[jky (Jb l),jbU]
theorem jjl{ns:List Int}(Q:jgW ns)(R:ns.length<=63){W N O:List (List Nat)}(hW:W.length=7)(S:∀ w∈W,Nm w)(dW:W.Nodup)(T:1<=N.length)(hN5:N.length<=5)(nN:∀ w∈N,Nm w)(hO:O.length<=50)(nO:∀ w∈O,Nm w) :
  ∃ p:Pl,VE [.lst false (ns.map D.int),.lst false (W.map D.str),.lst false (N.map D.str),.lst false (O.map D.str),.int 2]=some (jz true p)/\PlOk p:=by
 obtain⟨z0,U,V⟩:=wD Q (k:=0) (by decide);obtain⟨z1,Y,Z⟩:=wD Q (k:=1) (by decide);obtain⟨f,ef,f0,f1⟩:=YL V (k:=1) (by decide) (by decide);obtain⟨sc,es,s0,s1⟩:=YL Z (k:=2) (by decide) (by decide);obtain⟨e,hC3⟩:=jeX hW (q:=f % 3) (by omega) (by omega);have hP2:=jfx hW (q:=f / 3 % 3) (by omega) (by omega);have nC:∀ w∈v7 W (some 1) (some (2+f % 3)),Nm w:=λw h=>S w (Kc h);have nP:∀ w∈v7 W (some 4) (some (4+f / 3 % 3)),Nm w:=λw h=>S w (Kc h);have dC:=jg8 (lo:=some 1) (hi:=some (2+f % 3)) dW;have dP:=jg8 (lo:=some 4) (hi:=some (4+f / 3 % 3)) dW;have sC:=xp false W (some 1) (some (2+f % 3));have sP:=xp false W (some 4) (some (4+f / 3 % 3));generalize v7 W (some 1) (some (2+f % 3))=C,v7 W (some 4) (some (4+f / 3 % 3))=P at *;have hbc:jgW (v7 ns (some 2) none):=λx hx=>Q x (Kc hx);have hlc:(v7 ns (some 2) none).length<=63:=N8 (Yp _ _ _) R;have sN:=jaW false ns (some 2) none;generalize v7 ns (some 2) none=cs at *;obtain⟨X,eX,n,hX5,hX⟩:=jdg hbc hlc (C:=C) (P:=P) (O:=O) (N:=N) ⟨e,by omega,by omega,hO,nC,nP,nO,nN,by omega⟩ T;obtain⟨K,r,s,eK,a,gK⟩:=ja1 s0 s1 (C:=C) (by omega) nC (a0:=some (.lst false (ns.map D.int))) (a1:=some (.lst false (W.map D.str))) (a2:=some (.lst false (N.map D.str))) (a3:=some (.lst false (O.map D.str))) (a4:=some (.int 2)) (a5:=some (.int f)) (a8:=some (.lst false (P.map D.str))) (a9:=some (.lst true (X.map (yr true))));have hK:K.length=C.length:=by rw[<- a,L0]
 have nK:∀ c∈K,Nm c.1:=λc hc=>nC _ (by rw[<- a];exact M5.mpr ⟨c,hc,rfl⟩);have a1:=U1 (f / 36) (show(C.length:Int)+1≠0 by omega);have a2:=U0 (f / 36) (show 0 < (C.length:Int)+1 by omega);have t:jC (.int (f / 36)) (.int ((C.length:Int)+1))=some (.int (f / 36 % ((C.length:Int)+1))):=jL (by omega);generalize f / 36 % ((C.length:Int)+1)=q at a1 a2 t;have hrg:=vK (j:=q) (by omega) (by omega);have hlq:lim (Jn 0 q.toNat).length=true:=jg (by rw[vv];omega);obtain⟨E,eE,hE,nE⟩:=jkB e nC (m:=f) (k:=q.toNat);have d:jle [.int 1,.int (P.length:Int)]=some (.int (if(P.length:Int) > 1 then(P.length:Int) else 1)):=rfl;have k0:1<=(if(P.length:Int) > 1 then(P.length:Int) else 1)/\(if(P.length:Int) > 1 then(P.length:Int) else 1)<=2:=by split<;>omega
 generalize(if(P.length:Int) > 1 then(P.length:Int) else 1)=k at d k0;have u:1<=2 / k/\2 / k<=9:=by
  rcases(by omega:k=1 \/ k=2) with rfl | rfl<;>decide
 have dk:jY (.int 2) (.int k)=some (.int (2 / k)):=yq (by omega) (by omega);obtain⟨L,eL,hL,nL⟩:=jfm (m:=sc / 11) (mo:=2 / k) (by omega) (by omega) u.1 u.2 e nC (X:=X) n;generalize 2 / k=mo at *;obtain⟨M,eM,b,gM⟩:=jbF s0 s1 (P:=P) (j:=0) (o0:=none) (o1:=none) (by omega);have hM:M.length=P.length:=by rw[<- b,L0]
 have nM:∀ c∈M,Nm c.1:=λc hc=>nP _ (by rw[<- b];exact M5.mpr ⟨c,hc,rfl⟩);obtain⟨G,eG,hG,nG⟩:=jdH (m:=f / 200) (by omega) (C:=C) (P:=P) (by omega) nC nP (X:=X) (by omega) hX;have iw:=qD (o:=false) (l:=W) (i:=0) (by omega) (by omega);have nw:Nm (W.getD (0:Int).toNat []):=Jg S (by show 0 < W.length;omega);generalize W.getD (0:Int).toNat []=nm at *;refine⟨⟨nm,K,M,E,X,L,G⟩,?_,⟨nw,by show K.length<=6;omega,nK,by show M.length<=6;omega,nM,by show E.length<=6;omega,λw h=>(nE w h).1,n,by show X.length<=5;omega,by show ∀ x∈X,OrOk (K.map (·.1)) (M.map (·.1)) x;rw[a,b];exact hX,hL,by show ∀ l∈L,LkOk (K.map (·.1)) X l;rw[a];exact nL,by show(K.map (·.1)).Nodup;rw[a];exact dC,gK,by show(M.map (·.1)).Nodup;rw[b];exact dP,gM,hG,by show ∀ g∈G,(Nm g.1/\Nm g.2)/\g.1∈M.map (·.1)/\g.2∈K.map (·.1);rw[a,b];exact nG,by show ∀ c∈E,c∈K.map (·.1);rw[a];exact λw h=>(nE w h).2⟩⟩;show _=some (D.tup [.str nm,.lst false (K.map JY),.lst false (M.map jG),.lst false (E.map D.str),.lst false (X.map (yr false)),.lst false (L.map Vf),.lst true (G.map VU)]);have frN:=Jb ns;have frc:=Jb cs;have fzc:=V6 cs;have frC:=jA C;have v:=vb C;have frP:=jA P;have y:=vb P;have frE:=jA E;have fzE:=vb E;have z:=VN K;have fzK:=jl _ z;have A:=jV M;have fzM:=jl _ A;have B:=Vw L;have fzL:=jl _ B;have clL:ym (L.map Vf)=true:=by rw[kB,List.all_map,List.all_eq_true];intro x _;rfl
 have F:=VI X;have fzX:=jjy X;have H:=jl _ F;have frO:=jA O;have fzO:=vb O;have I:=jA N;have J:=vb N;have fzN:=V6 ns;have hlC:(((C.map D.str).length:Nat):Int)=(C.length:Int):=by rw[L0]
 have hlP:(((P.map D.str).length:Nat):Int)=(P.length:Int):=by rw[L0]
 have lP:lim (yA 0 (P.map D.str)).length=true:=jg (by rw[ki,L0];omega);have enC:V0 [.lst false (C.map D.str)]=some (yA 0 (C.map D.str)):=by
  show some (yA 0 (fzs (C.map D.str)))=_;rw[v]
 have enP:V0 [.lst false (P.map D.str)]=some (yA 0 (P.map D.str)):=by
  show some (yA 0 (fzs (P.map D.str)))=_;rw[y]
 have eE':jM (jk [] 0) qT (pF (p2 jn (pV 1) (p2 jC (p2 jH (p2 jY (pV 2) (pC (.int 12))) (pV 0)) (pCB ky (jc (pV 1) pN))))) (Jn 0 q.toNat) (jE [none,some 7,some 5] [some (.lst false (ns.map D.int)),some (.lst false (W.map D.str)),some (.lst false (N.map D.str)),some (.lst false (O.map D.str)),some (.int 2),some (.int f),some (.int sc),some (.lst false (C.map D.str)),some (.lst false (P.map D.str)),some (.lst true (X.map (yr true))),some (.lst true (K.map JY)),r,s,none,none,none])=some (E.map D.str):=eE;have eM':jM (gT 2 (gC (jk [] 0) (gC (jk [] 1) gN))) qT (qv (jc (pF (pV 1)) (jc (jW yF (jc (p2 jH (p2 jY (pV 2) (pC (.int 13))) (pV 0)) pN)) pN))) (yA 0 (P.map D.str)) (jE [none,none,some 6] [some (.lst false (ns.map D.int)),some (.lst false (W.map D.str)),some (.lst false (N.map D.str)),some (.lst false (O.map D.str)),some (.int 2),some (.int f),some (.int sc),some (.lst false (C.map D.str)),some (.lst false (P.map D.str)),some (.lst true (X.map (yr true))),some (.lst true (K.map JY)),r,s,some (.lst true (E.map D.str)),some (.lst true (L.map Vf)),none])=some (M.map jG):=eM;generalize ns.map D.int=NS,cs.map D.int=CS,W.map D.str=WW,N.map D.str=NN,O.map D.str=OO,C.map D.str=CC,P.map D.str=PP,E.map D.str=EE,K.map JY=KK,M.map jG=MM,L.map Vf=LL,G.map VU=GG,X.map (yr false)=XF,X.map (yr true)=XX at *;simp(maxSteps:=400000) (disch:=omega) [VE,jX,Qz,frN,fzN,U,Y,ef,es,jL,yq,sC,sP,sN,v,y,fzc,frc,frC,frP,frO,fzO,I,J,eX,enC,eK,hlC,hlP,t,hrg,hlq,eE',d,dk,fzX,H,F,eL,clL,enP,lP,eM',fzK,z,fzM,A,fzE,frE,fzL,B,iw,eG,jg]
theorem jmI(ns:List Int):(v7 ns none (some 16)).length<=63:=by
 have:=Yp ns none (some 16);unfold v7 at *;rw[X9];have:HT.sIx ns.length ns.length (some 16)<=16:=by
  unfold HT.sIx;simp;omega
 omega
theorem jkg  (c:jgW ns):∃ p:Pl,Y6 [.lst false (ns.map D.int),.int 2]=some (jz true p)/\PlOk p:=by
 obtain⟨y,d,e⟩:=wD c (k:=0) (by decide);obtain⟨z,f,g⟩:=wD c (k:=1) (by decide);obtain⟨W,A,B,v,C⟩:=jca e (many:=7) (by decide);obtain⟨N,E,M,nN,_⟩:=jca g (many:=3) (by decide);have h:jgW (v7 ns none (some 16)):=λx F=>c x (Kc F);have i:=jmI ns;have G:=jaW false ns none (some 16);generalize v7 ns none (some 16)=cs at *;have nO:∀ w∈v7 W (some 6) none,Nm w:=λw H=>v w (Kc H);have I:(v7 W (some 6) none).length<=50:=N8 (Yp _ _ _) (by omega);have J:=xp false W (some 6) none;generalize v7 W (some 6) none=O at *;obtain⟨p,K,L⟩:=jjl h i B v C (N:=N) (by omega) (by omega) nN I nO;refine⟨p,?_,L⟩;have j:vV [.int y,.int 7,.int 8]=some (.lst true (W.map D.str)):=A;have l:vV [.int z,.int 3,.int 8]=some (.lst true (N.map D.str)):=E;have m:=Jb ns;have n:=V6 ns;have o:=Jb cs;have q:=V6 cs;have r:=jA W;have s:=vb W;have t:=jA O;have u:=vb O;have a:=jA N;have b:=vb N;generalize jz true p=PP,ns.map D.int=NS,cs.map D.int=CS,W.map D.str=WW,N.map D.str=NN,O.map D.str=OO at *;simp(maxSteps:=400000) (disch:=omega) [Y6,jX,xa,m,n,d,f,j,l,r,s,a,b,G,o,q,J,t,u,K,jg]
theorem jgn(p:Pl):fz (jz true p)=jz false p:=by
 have a:=jl _ (VN p.C);have b:=jl _ (jV p.P);have c:=vb p.E;have d:=jl _ (VI p.X);have e:=jl _ (Vw p.L);have f:=jl _ (VL p.G);show D.tup [.str p.nm,.lst false (fzs (p.C.map JY)),.lst false (fzs (p.P.map jG)),.lst false (fzs (p.E.map D.str)),.lst false (fzs (p.X.map (yr false))),.lst false (fzs (p.L.map Vf)),.lst false (fzs (p.G.map VU))]=_;rw[a,b,c,d,e,f];rfl
theorem qw(p:Pl):frz (jz false p)=true:=by
 have a:=VN p.C;have b:=jV p.P;have c:=jA p.E;have d:=VI p.X;have e:=Vw p.L;have f:=VL p.G;show frz (D.tup [.str p.nm,.lst false (p.C.map JY),.lst false (p.P.map jG),.lst false (p.E.map D.str),.lst false (p.X.map (yr false)),.lst false (p.L.map Vf),.lst false (p.G.map VU)])=true;simp only[frz,Qd,frzs,a,b,c,d,e,f];rfl
theorem okw  (h:Lt w):okE n (.str w)=true:=jh5 λc a=>by have:=h c a;omega
theorem jnh  (h:Ky C P r) (n:Nat):okE (n+2) (jy r)=true:=by
 cases r with
 | two b x =>
  show YW (n+1) [.str b,.str x]=true;simp[YW,okw h.2.1,okw h.2.2.1.r]
 | many c =>
  have a:okE (n+1) (.tup (c.map D.str))=true:=Y7 λd hd=>by
   obtain⟨w,e,rfl⟩:=M5.mp hd;exact okw (h.2.1 w e).r
  show YW (n+1) [.str vJ,.tup (c.map D.str)]=true;simp only[YW,a,okw (n:=n+1) (w:=vJ) (by decide)];rfl
 | lend b x v =>
  have a:okE (n+1) (.int v)=true:=rfl;show YW (n+1) [.str b,.str x,.int v]=true;simp[YW,okw h.2.1,okw h.2.2.1.r,a]
theorem jjM  (h:PlOk p):okE 20 (jz o p)=true:=by
 have i (n:Nat) (v:Int):okE (n+1) (.int v)=true:=rfl;have f:okE 19 (.lst false (p.C.map JY))=true:=Y7 λd hd=>by
  obtain⟨x,a,rfl⟩:=M5.mp hd;show YW 17 [.str x.1,.int x.2.1,.int x.2.2]=true;simp[YW,okw (h.nC x a).r,i 16]
 have q (l:List Qt) (hl:∀ q∈l,Nm q.1) (n:Nat):okE (n+3) (.lst false (l.map jG))=true:=Y7 λd hd=>by
  obtain⟨x,a,rfl⟩:=M5.mp hd;show YW (n+1) [.str x.1,.int x.2]=true;simp[YW,okw (hl x a).r,i n]
 have j:=q p.P h.nP 16;have m:okE 19 (.lst false (p.E.map D.str))=true:=Y7 λd hd=>by
  obtain⟨x,a,rfl⟩:=M5.mp hd;exact okw (h.nE x a).r
 have s:okE 19 (.lst false (p.X.map (yr false)))=true:=Y7 λd hd=>by
  obtain⟨x,a,rfl⟩:=M5.mp hd;have b:=h.x x a;have t:=q x.2.1 b.q 14;have u:okE 17 (.lst false (x.2.2.map jy))=true:=Y7 λd hd=>by
   obtain⟨r,w,rfl⟩:=M5.mp hd;exact jnh (b.k r w) 14
  show YW 17 [.str x.1,.lst false (x.2.1.map jG),.lst false (x.2.2.map jy)]=true;simp[YW,okw b.nm.r,t,u]
 have z:okE 19 (.lst false (p.L.map Vf))=true:=Y7 λd hd=>by
  obtain⟨x,a,rfl⟩:=M5.mp hd;have b:=h.l x a;obtain⟨y,A,e⟩:=b.n;show YW 17 [.str x.1,.int x.2.1,.str x.2.2]=true;rw[<- e];simp[YW,okw b.c.r,okw (h.x y A).nm.r,i 16]
 have B:okE 19 (.lst o (p.G.map VU))=true:=Y7 λd hd=>by
  obtain⟨x,a,rfl⟩:=M5.mp hd;show YW 17 [.str x.1,.str x.2]=true;simp[YW,okw (h.g x a).1.1.r,okw (h.g x a).1.2.r]
 show YW 19 [.str p.nm,.lst false (p.C.map JY),.lst false (p.P.map jG),.lst false (p.E.map D.str),.lst false (p.X.map (yr false)),.lst false (p.L.map Vf),.lst o (p.G.map VU)]=true;simp only[YW,okw h.nm.r,f,j,m,s,z,B];rfl
noncomputable abbrev Gw:=List (List Nat)×(List Nat->Int)
noncomputable def now(S:Gw)(c:List Nat):Int:=if c∈S.1 then S.2 c else 0
noncomputable def big(d g:Int):Int:=if d > g then d else g
noncomputable def grow(S:Gw)(x:Lk):Gw:=(if x.1∈S.1 then S.1 else S.1++[x.1],λn=>if n=x.1 then big x.2.1 (now S x.1) else S.2 n)
theorem jf3{o:Bool}{S:Gw}{c:List Nat}:xF (dct o S.1 S.2) (.str c) (.int 0)=some (.int (now S c)):=by
 unfold dct now;rw[jfJ,jeD,L3];by_cases h:c∈S.1
 ·rw[wR S.2 h,if_pos h];rfl
 ·have:∀{N:List (List Nat)},¬ c∈N->zc (N.map KA.str) (N.map λn=>D.int (S.2 n)) (.str c)=none:=by
   intro N
   induction N with
   | nil=>intro _;rw[List.map_nil,List.map_nil,zc];intro _ _ _ _ h;cases h
   | cons n N a =>
    intro h;rw[L4,L4,zc,if_neg (λe=>h (by injection e with e;rw[e];exact L6)),a (λz=>h (L5 _ z))]
  rw[this h,if_neg h];rfl
theorem jiX{S:Gw}{x:Lk}:Jl (S.1.map KA.str) (S.1.map λn=>D.int (S.2 n)) (.str x.1) (.int (big x.2.1 (now S x.1)))=((grow S x).1.map KA.str,(grow S x).1.map λn=>D.int ((grow S x).2 n)):=by
 unfold grow;generalize big x.2.1 (now S x.1)=v;by_cases h:x.1∈S.1
 ·rw[jgb h,if_pos h]
 ·unfold Jl;rw[if_neg (λz=>h (by obtain⟨n,a,e⟩:=M5.mp z;injection e with e;rw[<- e];exact a)),if_neg h,N6,N6];congr 1;show _=_++[D.int (if x.1=x.1 then v else S.2 x.1)];rw[if_pos rfl];congr 1;exact List.map_congr_left λn a=>by
   show _=D.int (if n=x.1 then v else S.2 n);rw[if_neg (λz=>h (by rw[<- z];exact a))]
structure GrOk(L:List Lk)(m:Nat)(S:Gw):Prop where
 n:S.1.Nodup
 l:S.1.length<=m
 i:∀ c∈S.1,∃ x∈L,x.1=c
theorem GrOk.grow{L:List Lk}{m:Nat}{S:Gw}(h:GrOk L m S){x:Lk}(j:x∈L):GrOk L (m+1) (grow S x):=by
 unfold K58.grow;by_cases d:x.1∈S.1
 ·rw[if_pos d];exact⟨h.n,Nat.le_succ_of_le h.l,h.i⟩
 ·rw[if_neg d];refine⟨?_,by have:=h.l;simp;omega,λc f=>?_⟩
  ·show(S.1++[x.1]).Nodup;rw[X0];exact⟨h.n,by simp,λa k b o e=>d (by rw[<- M7.mp o,<- e];exact k)⟩
  ·rcases N1.mp f with g | g
   ·exact h.i c g
   ·exact⟨x,j,(M7.mp g).symm⟩
theorem jcx{a0 a4:Option D}{S:Gw}(h:S.1.length<=1000){x:Lk}:yJ [a0,some (dct true S.1 S.2),some (.str x.1),some (.int x.2.1),a4]=some (.nx [a0,some (dct true (grow S x).1 (grow S x).2),some (.str x.1),some (.int x.2.1),a4]):=by
 have d:lim (S.1.map KA.str).length=true:=jg (by rw[L0];omega);have e:=jf3 (o:=true) (S:=S) (c:=x.1);have a:jle [.int (now S x.1),.int x.2.1]=some (.int (big x.2.1 (now S x.1))):=rfl;have b:jlL (dct true S.1 S.2)=some (S.1.map KA.str,S.1.map λn=>D.int (S.2 n)):=rfl;have f:=jiX (S:=S) (x:=x);show _=some (Out.nx [a0,some (.dK true ((grow S x).1.map KA.str) ((grow S x).1.map λn=>D.int ((grow S x).2 n))),_,_,_]);generalize(grow S x).1.map KA.str=k2 at *;generalize((grow S x).1.map λn=>D.int ((grow S x).2 n))=v2 at *;generalize big x.2.1 (now S x.1)=v,now S x.1=g,dct true S.1 S.2=dd,S.1.map KA.str=ks at *;generalize(S.1.map λn=>D.int (S.2 n))=vs at *;simp[yJ,e,a,b,d,f]
theorem VC  : ∀{L:List Lk}{S:Gw}{m:Nat}{o2 o3 o4:Option D},m+L.length<=1000->(∀ x∈L,x∈A)->GrOk A m S ->
  ∃ r2 r3 r4:Option D,kO (gT 3 (gC (jk [] 2) (gC (jk [] 3) (gC (jk [] 4) gN)))) yJ (L.map Vf) [a0,some (dct true S.1 S.2),o2,o3,o4]=some (.nx [a0,some (dct true (L.foldl grow S).1 (L.foldl grow S).2),r2,r3,r4])/\GrOk A (m+L.length) (L.foldl grow S)
 | [],S,m,o2,o3,o4,_,_,h=>⟨o2,o3,o4,rfl,h⟩
 | x::L,S,m,o2,o3,o4,b,a,h=>by
  rw[M0] at b;obtain⟨r2,r3,r4,c,d⟩:=VC (A:=A) (a0:=a0) (L:=L) (S:=grow S x) (m:=m+1) (o2:=some (.str x.1)) (o3:=some (.int x.2.1)) (o4:=some (.str x.2.2)) (by omega) (λy e=>a y (by simp[e])) (h.grow (a x (by simp)));refine⟨r2,r3,r4,?_,by rw[M0,show m+(L.length+1)=m+1+L.length by omega];exact d⟩;have f:(gT 3 (gC (jk [] 2) (gC (jk [] 3) (gC (jk [] 4) gN)))) (Vf x) [a0,some (dct true S.1 S.2),o2,o3,o4]=some [a0,some (dct true S.1 S.2),some (.str x.1),some (.int x.2.1),some (.str x.2.2)]:=rfl;rw[L4,vm,f,L3,jcx (by have:=h.l;omega),L3,Jk,c,X1]
theorem P5(o:Bool)(p:Pl):jn (jz o p) (.int 5)=some (.lst false (p.L.map Vf)):=rfl
theorem P4(o:Bool)(p:Pl):jn (jz o p) (.int 4)=some (.lst false (p.X.map (yr false))):=rfl
theorem P1(o:Bool)(p:Pl):jn (jz o p) (.int 1)=some (.lst false (p.C.map JY)):=rfl
theorem P2(o:Bool)(p:Pl):jn (jz o p) (.int 2)=some (.lst false (p.P.map jG)):=rfl
theorem jb8(N:List (List Nat)):(N.map KA.str).map kaD=N.map D.str:=by rw[U2];rfl
noncomputable def gr(p:Pl):Gw:=p.L.foldl grow ([],λ_=>0)
theorem jeg  (h:PlOk p):GrOk p.L 2 (gr p):=by
 obtain⟨_,_,_,_,g⟩:=VC (A:=p.L) (a0:=none) (L:=p.L) (S:=([],λ_=>0)) (m:=0) (o2:=none) (o3:=none) (o4:=none) (by have:=h.l2;omega) (λx a=>a) ⟨List.nodup_nil,U6 _,λc b=>(nomatch b)⟩;exact⟨g.n,by have:=g.l;have:=h.l2;unfold gr;omega,g.i⟩
theorem jbb  (h:PlOk p):vQ [jz false p]=some (dct true (gr p).1 (gr p).2):=by
 obtain⟨b,d,f,e,_⟩:=VC (A:=p.L) (a0:=some (jz false p)) (L:=p.L) (S:=([],λ_=>0)) (m:=0) (o2:=none) (o3:=none) (o4:=none) (by have:=h.l2;omega) (λx g=>g) ⟨List.nodup_nil,U6 _,λc i=>(nomatch i)⟩;have j:kO (gT 3 (gC (jk [] 2) (gC (jk [] 3) (gC (jk [] 4) gN)))) yJ (p.L.map Vf) [some (jz false p),some (.dK true [] []),none,none,none]=some (.nx [some (jz false p),some (dct true (gr p).1 (gr p).2),b,d,f]):=e;have k:=P5 false p;have a:=Vw p.L;have l:=jl _ a;generalize jz false p=pp,p.L.map Vf=LL,dct true (gr p).1 (gr p).2=dd at *;simp[vQ,jX,Ji,k,a,l,j]
def alk(n:Nat)(d:D):Prop:=yf n [d,d]=some (.bl true)
theorem jaA(n:Nat)(i:Int):alk (n+1) (.int i):=by
 unfold alk yf;simp[jX,kz,ul]
theorem jiD(n:Nat)(i:List Nat):alk (n+1) (.str i):=by
 unfold alk yf;simp[jX,kz,ul]
theorem jgR(n:Nat)(i:Bool):alk (n+1) (.bl i):=by
 unfold alk yf;have a:kS (.bl i) (.bl i)=some (.bl true):=by cases i<;>rfl
 simp[jX,kz,ul,a]
theorem Qv  (c:frzs l=true) (q:l.length<=1000) (h:∀ x∈l,alk n x):alk (n+1) (.tup l):=by
 have d:=jl l c;have a:=vK (j:=(l.length:Int)) (by omega) (by omega);rw[N9] at a;obtain⟨r,e,g,rfl⟩:=vj (G:=jk [] 2) (f:=kR (yf n)) (xs:=Jn 0 l.length) (λi ρ=>∃ g:Option D,ρ=[some (.tup l),some (.tup l),g]) (by
  rintro i x ρ p ⟨g,rfl⟩;obtain⟨rfl,k⟩:=YH p;have ix:jn (.tup l) (.int (0+(i:Int)))=some l[i]:=by
   rw[jbD (by omega) (by omega),show(0+(i:Int)).toNat=i by omega,X8 k]
  have m:yf n [l[i],l[i]]=some (.bl true):=h _ (List.getElem_mem k);have b:frz l[i]=true:=by
   rw[VB,List.all_eq_true] at c;exact c _ (List.getElem_mem k)
  have o:=qu _ b;refine⟨_,[some (.tup l),some (.tup l),some (.int (0+(i:Int)))],rfl,.inl ?_,some (.int (0+(i:Int))),rfl⟩;generalize l[i]=x at *;simp[kR,ix,m,b,o,-Int.zero_add]) (ρ:=[some (.tup l),some (.tup l),none]) ⟨none,rfl⟩
 unfold alk yf;simp[jX,kz,ul,c,d,a,e]
noncomputable abbrev WN:=List Nat
noncomputable def gd(o:Bool)(N:List WN)(f:WN->D):D:=.dK o (N.map KA.str) (N.map f)
theorem jd1(f:WN->D)(c:WN):∀ N:List WN,zc (N.map KA.str) (N.map f) (.str c)=if c∈N then some (f c) else none
 | []=>rfl
 | n::N=>by
  rw[L4,L4,zc];by_cases h:n=c
  ·subst h;simp
  ·rw[if_neg (λz=>h (KA.str.inj z)),jd1 f c N];by_cases q:c∈N
   ·rw[if_pos q,if_pos (L5 _ q)]
   ·rw[if_neg q,if_neg λz=>(M4.mp z).elim (λz=>h z.symm) q]
theorem JB  (h:c∈N):yS (gd o N f) (.str c)=some (f c):=by
 show zc _ _ _=_;rw[jd1,if_pos h]
theorem jdM  : zQ neg (.str c) (gd o N f)=some (.bl (neg != decide (c∈N))):=by
 show some (D.bl (neg != (zc _ _ _).isSome))=_;rw[jd1];by_cases h:c∈N<;>simp[h]
theorem jhh(f:WN->D)(c:WN)(v:D):∀ N:List WN,jde (N.map KA.str) (N.map f) (.str c) v=N.map λn=>if n=c then v else f n
 | []=>rfl
 | n::N=>by
  rw[L4,L4,jde,jhh f c v N,L4];by_cases h:n=c
  ·simp[h]
  ·rw[if_neg h,if_neg (λz=>h (KA.str.inj z))]
noncomputable def Ya(l:List WN)(c:WN):List WN:=if c∈l then l else l++[c]
theorem zf  : d∈Ya l c↔d∈l \/ d=c:=by
 unfold Ya;by_cases h:c∈l
 ·rw[if_pos h];exact⟨.inl,λz=>z.elim id λz=>z▸h⟩
 ·rw[if_neg h];simp
theorem zi(l:List WN)(c:WN):(Ya l c).length<=l.length+1:=by unfold Ya;split<;>simp
theorem jlA(f:WN->D)(c:WN)(v:D)(N:List WN):Jl (N.map KA.str) (N.map f) (.str c) v=((Ya N c).map KA.str,(Ya N c).map λn=>if n=c then v else f n):=by
 have a:(KA.str c∈N.map KA.str)↔c∈N:=by simp
 unfold Jl Ya;by_cases h:c∈N
 ·rw[if_pos h,if_pos (a.mpr h),jhh]
 ·rw[if_neg h,if_neg λz=>h (a.mp z),N6,N6];refine congrArg (Prod.mk _) ?_;rw[List.map_congr_left (g:=λn=>if n=c then v else f n) λn b=>(if_neg (λz=>h (by rw[<- z];exact b):¬ n=c)).symm];simp
structure Sy where
 al:WN->Bool
 fu:WN->Bool
 sv:List WN
 rp:List WN
noncomputable def mis(y:Sy)(c:WN):Bool:=y.al c&&!decide (c∈y.sv)
noncomputable def nd(y:Sy):Rl->Bool
 | .two kw x=>if kw=xM then mis y x else if kw=jv then y.al x&&!decide (x∈y.rp) else if kw=yi then !y.fu x else false
 | .many ws=>ws.any (mis y)
 | .lend _ _ _=>false
noncomputable def fl(y:Sy):Rl->Sy
 | .two kw x=>if kw=yi then{ y with fu:=λq=>if q=x then true else y.fu q } else{ y with sv:=Ya y.sv x,rp:=if kw=jv then Ya y.rp x else y.rp }
 | .many ws=>{ y with sv:=ws.foldl Ya y.sv }
 | .lend _ _ _=>y
noncomputable def FN:List Str:=["claims","pots","guards","greatest","runs","alive","full","served","repaid"]
noncomputable abbrev I9(o:Bool)(a0 a1 a2 a3 a4 a5 a6 a7 a8:D):D:=.ins o 0 FN [a0,a1,a2,a3,a4,a5,a6,a7,a8]
noncomputable abbrev nC(p:Pl):List WN:=p.C.map (·.1)
noncomputable abbrev nP(p:Pl):List WN:=p.P.map (·.1)
noncomputable abbrev bd(o:Bool)(N:List WN)(f:WN->Bool):D:=gd o N λn=>.bl (f n)
noncomputable abbrev td(o:Bool)(N:List WN):D:=gd o N λ_=>.bl true
noncomputable def yb(o:Bool)(p:Pl)(R:List Qt)(y:Sy):D:=I9 o (.lst o ((nC p).map D.str)) (.lst o ((nP p).map D.str)) (.lst false (p.G.map VU)) (dct o (gr p).1 (gr p).2) (.tup (R.map jG)) (bd o (nC p) y.al) (bd o (nP p) y.fu) (td o y.sv) (td o y.rp)
theorem vE(N:List WN)(f:WN->Bool):frzs (N.map λn=>D.bl (f n))=true:=vF λd hd=>by obtain⟨x,_,rfl⟩:=M5.mp hd;rfl
theorem jhF(o:Bool)(p:Pl)(R:List Qt)(y:Sy):fz (yb o p R y)=yb false p R y:=by
 have a:=vb (nC p);have b:=vb (nP p);have c:=jl _ (VL p.G);have d:=jl _ (wN (gr p).1 (gr p).2);have e:=jl _ (jV R);have f:=jl _ (vE (nC p) y.al);have g:=jl _ (vE (nP p) y.fu);have h:=jl _ (vE y.sv λ_=>true);have i:=jl _ (vE y.rp λ_=>true);show D.ins false 0 FN [.lst false (fzs ((nC p).map D.str)),.lst false (fzs ((nP p).map D.str)),.lst false (fzs (p.G.map VU)),.dK false _ (fzs ((gr p).1.map λn=>D.int ((gr p).2 n))),.tup (fzs (R.map jG)),.dK false _ (fzs ((nC p).map λn=>D.bl (y.al n))),.dK false _ (fzs ((nP p).map λn=>D.bl (y.fu n))),.dK false _ (fzs (y.sv.map λ_=>D.bl true)),.dK false _ (fzs (y.rp.map λ_=>D.bl true))]=_;rw[a,b,c,d,e,f,g,h,i];rfl
theorem g6:jaD 0 "full" jb0 (I9 true a0 a1 a2 a3 a4 a5 a6 a7 a8)=some (a6,λz=>I9 true a0 a1 a2 a3 a4 a5 z a7 a8):=rfl
theorem g7:jaD 0 "served" jb0 (I9 true a0 a1 a2 a3 a4 a5 a6 a7 a8)=some (a7,λz=>I9 true a0 a1 a2 a3 a4 a5 a6 z a8):=rfl
theorem g8:jaD 0 "repaid" jb0 (I9 true a0 a1 a2 a3 a4 a5 a6 a7 a8)=some (a8,λz=>I9 true a0 a1 a2 a3 a4 a5 a6 a7 z):=rfl
theorem jbM  (h0:pV i ρ=some t) (a:L t=some (gd true N f,kk)) (c:pk ρ=some (.str w)) (d:N.length<=1000) :
  J8 i L pk (pC (.bl b)) ρ=some (.nx (ρ.set i (some (kk (gd true (Ya N w) λn=>if n=w then .bl b else f n))))):=by
 unfold J8;rw[show(pC (D.bl b)) ρ=some (.bl b) from rfl,L3,h0,L3,a,L3];show((pk ρ).bind λq=>_)=_;rw[c,L3];show(bif lim (N.map KA.str).length&&(true||_) then some (Out.nx (ρ.set i (some (kk (.dK true (Jl (N.map KA.str) (N.map f) (.str w) (.bl b)).1 (Jl (N.map KA.str) (N.map f) (.str w) (.bl b)).2))))) else none)=_;rw[jg (by rw[L0];omega),jlA];rfl
theorem jfV  (h0:pV i ρ=some (I9 true a0 a1 a2 a3 a4 a5 a6 a7 a8)) (a:pa ρ=some ds) (b:frzs ds=true)
  (hn:ur FN [a0,a1,a2,a3,a4,a5,a6,a7,a8] mn=none):Q2 m i 0 mn pa ρ=(m (I9 true a0 a1 a2 a3 a4 a5 a6 a7 a8::ds)).bind λr=>some (r.1,ρ.set i (some r.2)):=by
 rw[jb9,a,L3,h0,L3];dsimp only;rw[hn,b];rfl
theorem wX  (h0:po ρ=some (yb o p R y)) (c:pa ρ=some ds)
  (hn:∀ a0 a1 a2 a3 a4 a5 a6 a7 a8:D,ur FN [a0,a1,a2,a3,a4,a5,a6,a7,a8] mn=none) (d:m (yb false p R y::fzs ds)=some r) (e:kT r=true):kX m 0 mn po pa ρ=some r:=by
 rw[qF,h0,L3];have b:fzs (yb o p R y::ds)=yb false p R y::fzs ds:=by rw[fzs,jhF]
 have a:∃ a0 a1 a2 a3 a4 a5 a6 a7 a8,yb o p R y=.ins o 0 FN [a0,a1,a2,a3,a4,a5,a6,a7,a8]:=⟨_,_,_,_,_,_,_,_,_,rfl⟩;obtain⟨a0,a1,a2,a3,a4,a5,a6,a7,a8,a⟩:=a;rw[a] at b ⊢;dsimp only;rw[c,L3,b,d,L3,hn];simp[e]
theorem fo0:xG 0 "claims" (yb o p R y)=some (.lst o ((nC p).map D.str)):=rfl
theorem fo1:xG 0 "pots" (yb o p R y)=some (.lst o ((nP p).map D.str)):=rfl
theorem fo2:xG 0 "guards" (yb o p R y)=some (.lst false (p.G.map VU)):=rfl
theorem fo3:xG 0 "greatest" (yb o p R y)=some (dct o (gr p).1 (gr p).2):=rfl
theorem fo4:xG 0 "runs" (yb o p R y)=some (.tup (R.map jG)):=rfl
theorem fo5:xG 0 "alive" (yb o p R y)=some (bd o (nC p) y.al):=rfl
theorem fo6:xG 0 "full" (yb o p R y)=some (bd o (nP p) y.fu):=rfl
theorem fo8:xG 0 "repaid" (yb o p R y)=some (td o y.rp):=rfl
theorem fo7:xG 0 "served" (yb o p R y)=some (td o y.sv):=rfl
section
variable {p:Pl}{R:List Qt}{y:Sy}{c:WN}
theorem jeU(a:c∈nC p):jo [yb false p R y,.str c]=some (.bl (mis y c)):=by
 have b:=JB (o:=false) (f:=λn=>D.bl (y.al n)) a;have d:=jdM (o:=false) (neg:=true) (N:=y.sv) (f:=λ_=>D.bl true) (c:=c);have e:=fo5 (p:=p) (R:=R) (y:=y) (o:=false);have g:=fo7 (p:=p) (R:=R) (y:=y) (o:=false);unfold mis;generalize yb false p R y=I at *;unfold bd td at *;generalize gd false (nC p) (λn=>D.bl (y.al n))=A,gd false y.sv (λ_=>D.bl true)=S at *;cases h:y.al c<;>simp[jo,jX,vH,e,g,b,d,h]
theorem KO  (a:c∈nC p) (h0:po ρ=some (yb o p R y)) (h1:pa ρ=some (.str c)):kX jo 0 "is_missed" po (jc pa pN) ρ=some (.bl (mis y c)) :=
 wX h0 (ds:=[.str c]) (by simp[h1]) (λ_ _ _ _ _ _ _ _ _=>rfl) (jeU a) rfl
theorem jb6{o:Bool}:∀{ws:List WN}{o0:Option D},(∀ w∈ws,w∈nC p)->jM (jk [] 0) qT (kX jo 0 "is_missed" (pV 1) (jc (pV 0) pN)) (ws.map D.str) [o0,some (yb o p R y)]=some (ws.map λw=>D.bl (mis y w))
 | [],_,_=>rfl
 | w::ws,o0,h=>by
  have e:=jb6 (o:=o) (ws:=ws) (o0:=some (.str w)) λw a=>h w (L5 _ a);have b:jk [] 0 (.str w) [o0,some (yb o p R y)]=some [some (.str w),some (yb o p R y)]:=rfl;have m:=KO (p:=p) (R:=R) (y:=y) (po:=pV 1) (pa:=pV 0) (ρ:=[some (.str w),some (yb o p R y)]) (o:=o) (h w L6) rfl rfl;rw[L4,jJ,b,L3];show((kX _ _ _ _ _ _).bind λy=>_)=_;rw[m,L3,e];rfl
theorem jdL(l:List WN)(f:WN->Bool):VY (l.map λw=>D.bl (f w))=some (l.map f):=by
 induction l with
 | nil=>rfl
 | cons a l b=>rw[L4,VY,b];rfl
theorem jgk  (b:Ky (nC p) (nP p) r):jF [yb false p R y,jy r]=some (.bl (nd y r)):=by
 cases r with
 | two g x =>
  obtain⟨_,_,_,i⟩:=b;rcases i with⟨rfl | rfl,d⟩ | ⟨rfl,d⟩ | rfl | rfl
  ·have m:=KO (p:=p) (R:=R) (y:=y) (po:=pV 0) (pa:=p2 jn (pV 1) (pC (.int 1))) (ρ:=[some (yb false p R y),some (jy (.two xM x)),some (.str xM)]) (o:=false) d rfl rfl;unfold jy at *;generalize yb false p R y=I at *;simp[jF,jX,jS,m,jbD,nd,-qF]
  ·have j:=JB (o:=false) (f:=λn=>D.bl (y.al n)) d;have k:=jdM (o:=false) (neg:=true) (N:=y.rp) (f:=λ_=>D.bl true) (c:=x);have l:=fo5 (p:=p) (R:=R) (y:=y) (o:=false);have q:=fo8 (p:=p) (R:=R) (y:=y) (o:=false);unfold jy;generalize yb false p R y=I at *;unfold bd td at *;generalize gd false (nC p) (λn=>D.bl (y.al n))=A,gd false y.rp (λ_=>D.bl true)=S at *;cases h:y.al x<;>simp[jF,jX,jS,jbD,nd,l,q,j,k,h]
  ·have s:=JB (o:=false) (f:=λn=>D.bl (y.fu n)) d;have t:=fo6 (p:=p) (R:=R) (y:=y) (o:=false);unfold jy;generalize yb false p R y=I at *;unfold bd at *;generalize gd false (nP p) (λn=>D.bl (y.fu n))=A at *;cases h:y.fu x<;>simp[jF,jX,jS,jbD,nd,t,s,h]
  ·unfold jy;generalize yb false p R y=I at *;simp[jF,jX,jS,jbD,nd]
  ·unfold jy;generalize yb false p R y=I at *;simp[jF,jX,jS,jbD,nd]
 | many a =>
  have e:=jb6 (p:=p) (R:=R) (y:=y) (o:=false) (o0:=none) b.2.2;have u:=jdL a (mis y);have z:lim (a.map D.str).length=true:=jg (by rw[L0];have:=b.1;omega);have B:=jA a;rw[show jy (.many a)=.tup [.str vJ,.tup (a.map D.str)] from rfl];unfold nd;generalize yb false p R y=I,a.map D.str=WW at *;generalize(a.map λw=>D.bl (mis y w))=BB at *;have C:jM (jk [] 0) qT (kX jo 0 "is_missed" (pV 1) (jc (pV 0) pN)) WW (jE [none,some 0] [some I,some (D.tup [D.str vJ,D.tup WW]),some (D.str vJ)])=some BB:=e;have E:jlc [.lst true BB]=some (.bl (a.any (mis y))):=by
   simp only[jlc,u];simp[List.any_map,Function.comp_def]
  simp[jF,jX,jS,jbD,C,E,z,B,List.any_map,Function.comp_def,-qF]
 | lend g x v =>
  obtain⟨_,_,_,rfl⟩:=b;unfold jy;generalize yb false p R y=I at *;simp[jF,jX,jS,jbD,nd]
theorem jmS(w:WN)(f:WN->Bool):(λn=>if n=w then D.bl true else D.bl (f n))=λn=>D.bl (if n=w then true else f n):=by
 funext n;split<;>rfl
theorem jkj(w:WN):(λn:WN=>if n=w then D.bl true else D.bl true)=λ_=>D.bl true:=by
 funext n;split<;>rfl
theorem jjE  (h0:pV i ρ=some (yb true p R y)) (a:pk ρ=some (.str c)) (b:y.sv.length<=1000) :
  J8 i (jaD 0 "served" jb0) pk (pC (.bl true)) ρ=some (.nx (ρ.set i (some (yb true p R { y with sv:=Ya y.sv c })))):=by
 rw[jbM h0 (g7 ..) a b,jkj];rfl
theorem jmK  (h0:pV i ρ=some (yb true p R y)) (a:pk ρ=some (.str c)) (b:y.rp.length<=1000) :
  J8 i (jaD 0 "repaid" jb0) pk (pC (.bl true)) ρ=some (.nx (ρ.set i (some (yb true p R { y with rp:=Ya y.rp c })))):=by
 rw[jbM h0 (g8 ..) a b,jkj];rfl
theorem jmL  (h0:pV i ρ=some (yb true p R y)) (a:pk ρ=some (.str c)) (b:c∈nP p) (d:p.P.length<=6) :
  J8 i (jaD 0 "full" jb0) pk (pC (.bl true)) ρ=some (.nx (ρ.set i (some (yb true p R { y with fu:=λq=>if q=c then true else y.fu q })))):=by
 rw[jbM h0 (g6 ..) a (by rw[L0];omega),jmS,show Ya (nP p) c=nP p from if_pos b];rfl
theorem uv  : ∀{ws:List WN}{y:Sy}{o3:Option D},y.sv.length+ws.length<=1000 ->
  ∃ o3',kO (jk [0] 3) ko (ws.map D.str) [some (yb true p R y),a1,a2,o3]=some (.nx [some (yb true p R { y with sv:=ws.foldl Ya y.sv }),a1,a2,o3'])
 | [],y,o3,_=>⟨o3,rfl⟩
 | w::ws,y,o3,h=>by
  rw[M0] at h;have c:=zi y.sv w;obtain⟨o3',e⟩:=uv (a1:=a1) (a2:=a2) (ws:=ws) (y:={ y with sv:=Ya y.sv w }) (o3:=some (.str w)) (by show(Ya y.sv w).length+_<=_;omega);have a:jk [0] 3 (.str w) [some (yb true p R y),a1,a2,o3]=some [some (yb true p R y),a1,a2,some (.str w)]:=rfl;have b:ko [some (yb true p R y),a1,a2,some (.str w)]=some (.nx [some (yb true p R { y with sv:=Ya y.sv w }),a1,a2,some (.str w)]):=jjE rfl rfl (by omega);exact⟨o3',by rw[L4,vm,a,L3,b,L3,Jk,e];rfl⟩
theorem jfC(ws:List WN):∀ l:List WN,(ws.foldl Ya l).length<=l.length+ws.length:=by
 induction ws with
 | nil=>intro l;simp
 | cons w ws a =>
  intro l;have:=a (Ya l w);have:=zi l w;rw[X1,M0];omega
theorem jiK(d:p.P.length<=6)  (a:Ky (nC p) (nP p) r) (hn:nd y r=true) (h1:y.sv.length<=900) (h2:y.rp.length<=900) :
  jQ [yb true p R y,jy r]=some (.non,yb true p R (fl y r)):=by
 cases r with
 | two f x =>
  obtain⟨_,_,_,g⟩:=a;rcases g with⟨rfl | rfl,b⟩ | ⟨rfl,b⟩ | rfl | rfl
  ·have s:=jjE (p:=p) (R:=R) (y:=y) (c:=x) (ρ:=[some (yb true p R y),some (jy (.two xM x)),some (.str xM),none]) (i:=0) (pk:=p2 jn (pV 1) (pC (.int 1))) rfl rfl (by omega);unfold jy at *;show _=some (D.non,yb true p R { y with sv:=Ya y.sv x });generalize yb true p R { y with sv:=Ya y.sv x }=J,yb true p R y=I at *;simp[jQ,jen,yG,jbD,s,jgE]
  ·have s:=jjE (p:=p) (R:=R) (y:=y) (c:=x) (ρ:=[some (yb true p R y),some (jy (.two jv x)),some (.str jv),none]) (i:=0) (pk:=p2 jn (pV 1) (pC (.int 1))) rfl rfl (by omega);have t:=jmK (p:=p) (R:=R) (y:={ y with sv:=Ya y.sv x }) (c:=x) (ρ:=[some (yb true p R { y with sv:=Ya y.sv x }),some (jy (.two jv x)),some (.str jv),none]) (i:=0) (pk:=p2 jn (pV 1) (pC (.int 1))) rfl rfl (by show y.rp.length<=1000;omega);unfold jy at *;show _=some (D.non,yb true p R { { y with sv:=Ya y.sv x } with rp:=Ya y.rp x });generalize yb true p R { { y with sv:=Ya y.sv x } with rp:=Ya y.rp x }=J2,yb true p R { y with sv:=Ya y.sv x }=J,yb true p R y=I at *;simp[jQ,jen,yG,jbD,s,t,jgE]
  ·have s:=jmL (p:=p) (R:=R) (y:=y) (c:=x) (ρ:=[some (yb true p R y),some (jy (.two yi x)),some (.str yi),none]) (i:=0) (pk:=p2 jn (pV 1) (pC (.int 1))) rfl rfl b d;unfold jy at *;show _=some (D.non,yb true p R { y with fu:=λq=>if q=x then true else y.fu q });generalize yb true p R { y with fu:=λq=>if q=x then true else y.fu q }=J,yb true p R y=I at *;simp[jQ,jen,yG,jbD,s,jgE]
  ·exact absurd hn (by simp[nd])
  ·exact absurd hn (by simp[nd])
 | many ws =>
  have:=a.1;obtain⟨o3,e⟩:=uv (p:=p) (R:=R) (a1:=some (.tup [.str vJ,.tup (ws.map D.str)])) (a2:=some (.str vJ)) (ws:=ws) (y:=y) (o3:=none) (by omega);have h:=jA ws;have j:=vb ws;rw[show jy (.many ws)=.tup [.str vJ,.tup (ws.map D.str)] from rfl];show _=some (D.non,yb true p R { y with sv:=ws.foldl Ya y.sv });generalize yb true p R { y with sv:=ws.foldl Ya y.sv }=J,yb true p R y=I,ws.map D.str=WW at *;simp[jQ,jen,yG,jbD,e,h,j,jgE]
 | lend f x v=>exact absurd hn (by simp[nd])
end
noncomputable def mn(a b:Int):Int:=if b < a then b else a
noncomputable def jho(p:Pl)(y:Sy)(q:Qt):Qt:=(q.1,if mis y q.1 then mn (q.2+1) ((gr p).2 q.1) else 0)
noncomputable def drn(G:List Gd)(y:Sy):List WN:=(G.filter λg=>mis y g.2).map (·.1)
noncomputable def obR(p:Pl)(R:List Qt)(y:Sy):List D:=(R.map (jho p y)).map jG
noncomputable def obA(p:Pl)(y:Sy):List D:=(nC p).map λn=>.bl (y.al n&&!decide (n∈y.rp))
noncomputable def obF(p:Pl)(y:Sy):List D:=(nP p).map λn=>.bl (y.fu n&&!decide (n∈drn p.G y))
noncomputable def ob(p:Pl)(R:List Qt)(y:Sy):D:=.tup [.tup (obR p R y),.tup (obA p y),.tup (obF p y)]
section
variable {p:Pl}{R:List Qt}{y:Sy}{c:WN}{o:Bool}
theorem jjx(a:c∈nC p)(b:c∈(gr p).1)  : jI [yb false p R y,.str c,.int d]=some (.int (if mis y c then mn (d+1) ((gr p).2 c) else 0)):=by
 have m:=KO (p:=p) (R:=R) (y:=y) (po:=pV 0) (pa:=pV 1) (ρ:=[some (yb false p R y),some (.str c),some (.int d)]) a rfl rfl;have e:=ui (o:=false) (f:=(gr p).2) b;have g:=fo3 (p:=p) (R:=R) (y:=y) (o:=false);have i:jjF [.int (d+1),.int ((gr p).2 c)]=some (.int (mn (d+1) ((gr p).2 c))):=rfl;generalize yb false p R y=I,dct false (gr p).1 (gr p).2=G at *;cases h:mis y c<;>simp[jI,jX,vp,m,g,e,i,h,-qF,-jgZ]
theorem wt:∀{G:List Gd}{o0 o1:Option D},(∀ g∈G,g.2∈nC p)->jM (gT 2 (gC (jk [] 0) (gC (jk [] 1) gN))) (js (kX jo 0 "is_missed" (pV 2) (jc (pV 1) pN))) (pF (pV 0)) (G.map VU) [o0,o1,some (yb o p R y)]=some ((drn G y).map D.str)
 | [],_,_,_=>rfl
 | g::G,o0,o1,h=>by
  have e:=wt (G:=G) (o0:=some (.str g.1)) (o1:=some (.str g.2)) λg a=>h g (L5 _ a);have a:(gT 2 (gC (jk [] 0) (gC (jk [] 1) gN))) (VU g) [o0,o1,some (yb o p R y)]=some [some (.str g.1),some (.str g.2),some (yb o p R y)]:=rfl;have m:=KO (p:=p) (R:=R) (y:=y) (po:=pV 2) (pa:=pV 1) (ρ:=[some (.str g.1),some (.str g.2),some (yb o p R y)]) (o:=o) (h g L6) rfl rfl;have q:js (kX jo 0 "is_missed" (pV 2) (jc (pV 1) pN)) [some (.str g.1),some (.str g.2),some (yb o p R y)]=some (mis y g.2):=by
   rw[jhC,m];rfl
  rw[L4,jJ,a,L3,q,L3,e];unfold drn;rw[List.filter_cons];cases h:mis y g.2<;>simp[h]
theorem jal:∀{S:List Qt}{o0 o1:Option D},(∀ q∈S,q.1∈nC p/\q.1∈(gr p).1)->jM (gT 2 (gC (jk [] 0) (gC (jk [] 1) gN))) qT (qv (jc (pF (pV 0)) (jc (kX jI 0 "days_behind" (pV 2) (jc (pV 0) (jc (pV 1) pN))) pN))) (S.map jG) [o0,o1,some (yb o p R y)]=some (obR p S y)
 | [],_,_,_=>rfl
 | q::S,o0,o1,h=>by
  have e:=jal (S:=S) (o0:=some (.str q.1)) (o1:=some (.int q.2)) λg a=>h g (L5 _ a);have a:(gT 2 (gC (jk [] 0) (gC (jk [] 1) gN))) (jG q) [o0,o1,some (yb o p R y)]=some [some (.str q.1),some (.int q.2),some (yb o p R y)]:=rfl;have m:kX jI 0 "days_behind" (pV 2) (jc (pV 0) (jc (pV 1) pN)) [some (.str q.1),some (.int q.2),some (yb o p R y)]=some (.int (if mis y q.1 then mn (q.2+1) ((gr p).2 q.1) else 0)) :=
   wX rfl (ds:=[.str q.1,.int q.2]) rfl (λ_ _ _ _ _ _ _ _ _=>rfl) (jjx (h q L6).1 (h q L6).2) rfl
  rw[L4,jJ,a,L3];unfold obR at *;rw[L4,L4];generalize(S.map (jho p y)).map jG=SS at *;generalize yb o p R y=I at *;simp[m,e,jho,jG,jg,-qF]
theorem wd:∀{N:List WN}{o0:Option D},(∀ n∈N,n∈nC p)->jM (jk [] 0) qT (VX (p2 yS (Qb 0 "alive" (pV 1)) (pV 0)) (p2 (zQ true) (pV 0) (Qb 0 "repaid" (pV 1)))) (N.map D.str) [o0,some (yb o p R y)]=some (N.map λn=>D.bl (y.al n&&!decide (n∈y.rp)))
 | [],_,_=>rfl
 | n::N,o0,h=>by
  have e:=wd (N:=N) (o0:=some (.str n)) λg a=>h g (L5 _ a);have a:jk [] 0 (.str n) [o0,some (yb o p R y)]=some [some (.str n),some (yb o p R y)]:=rfl;have b:=JB (o:=o) (f:=λn=>D.bl (y.al n)) (h n L6);have d:=jdM (o:=o) (neg:=true) (N:=y.rp) (f:=λ_=>D.bl true) (c:=n);have i:=fo5 (p:=p) (R:=R) (y:=y) (o:=o);have j:=fo8 (p:=p) (R:=R) (y:=y) (o:=o);rw[L4,jJ,a,L3,L4];generalize(N.map λn=>D.bl (y.al n&&!decide (n∈y.rp)))=NN at *;generalize yb o p R y=I at *;unfold bd td at *;generalize gd o (nC p) (λn=>D.bl (y.al n))=A,gd o y.rp (λ_=>D.bl true)=S at *;cases q:y.al n<;>simp[i,j,b,d,e,q]
theorem jai{T:List WN}{o':Bool}:∀{N:List WN}{o0:Option D},(∀ n∈N,n∈nP p)->jM (jk [] 0) qT (VX (p2 yS (Qb 0 "full" (pV 1)) (pV 0)) (p2 (J6 true) (pV 0) (pV 2))) (N.map D.str) [o0,some (yb o p R y),some (.lst o' (T.map D.str))]=some (N.map λn=>D.bl (y.fu n&&!decide (n∈T)))
 | [],_,_=>rfl
 | n::N,o0,h=>by
  have e:=jai (o':=o') (T:=T) (N:=N) (o0:=some (.str n)) λg a=>h g (L5 _ a);have a:jk [] 0 (.str n) [o0,some (yb o p R y),some (.lst o' (T.map D.str))]=some [some (.str n),some (yb o p R y),some (.lst o' (T.map D.str))]:=rfl;have b:=JB (o:=o) (f:=λn=>D.bl (y.fu n)) (h n L6);have c:=kZ true o' n T;have d:=fo6 (p:=p) (R:=R) (y:=y) (o:=o);rw[L4,jJ,a,L3,L4];generalize(N.map λn=>D.bl (y.fu n&&!decide (n∈T)))=NN at *;generalize yb o p R y=I,T.map D.str=TT at *;unfold bd at *;generalize gd o (nP p) (λn=>D.bl (y.fu n))=A at *;cases q:y.fu n<;>simp[d,b,c,e,q]
theorem jc6(h:PlOk p)(s:R.map (·.1)=(gr p).1):jK [yb false p R y]=some (ob p R y):=by
 have a:=jeg h;have v:R.length<=2:=by
  have:=congrArg List.length s;rw[L0] at this;have:=a.l;omega
 have g6:=h.g6;have c6:=h.c;have p6:=h.p6;have b:∀ q∈R,q.1∈nC p/\q.1∈(gr p).1:=λq w=>by
  have m:q.1∈(gr p).1:=by rw[<- s];exact M5.mpr ⟨q,w,rfl⟩
  obtain⟨l,x,e⟩:=a.i q.1 m;exact⟨e▸(h.l l x).m,m⟩
 have z:=wt (p:=p) (R:=R) (y:=y) (o:=false) (G:=p.G) (o0:=none) (o1:=none) λg A=>(h.g g A).2.2;have B:=jal (p:=p) (R:=R) (y:=y) (o:=false) (S:=R) (o0:=none) (o1:=none) b;have t:=wd (p:=p) (R:=R) (y:=y) (o:=false) (N:=nC p) (o0:=none) λn d=>d;have u:=jai (p:=p) (R:=R) (y:=y) (o:=false) (o':=true) (T:=drn p.G y) (N:=nP p) (o0:=none) λn d=>d;have C:frzs (obR p R y)=true:=jV _;have E:frzs (obA p y)=true:=vE (nC p) λn=>y.al n&&!decide (n∈y.rp);have F:frzs (obF p y)=true:=vE (nP p) λn=>y.fu n&&!decide (n∈drn p.G y);have H:lim (p.G.map VU).length=true:=jg (by rw[L0];omega);have l2:lim (R.map jG).length=true:=jg (by rw[L0];omega);have J:lim ((nC p).map D.str).length=true:=jg (by rw[L0,L0];omega);have K:lim ((nP p).map D.str).length=true:=jg (by rw[L0,L0];omega);have L:=VL p.G;have M:=jV R;have O:=jA (nC p);have P:=jA (nP p);have Q:=fo0 (p:=p) (R:=R) (y:=y) (o:=false);have U:=fo1 (p:=p) (R:=R) (y:=y) (o:=false);have V:=fo2 (p:=p) (R:=R) (y:=y) (o:=false);have W:=fo4 (p:=p) (R:=R) (y:=y) (o:=false);unfold ob;change jM _ _ _ _ _=some (obA p y) at t;change jM _ _ _ _ _=some (obF p y) at u;generalize yb false p R y=I at *;generalize(drn p.G y).map D.str=DR at *;generalize obR p R y=RR,obA p y=AA,obF p y=FF,p.G.map VU=GG,R.map jG=QQ at *;generalize(nC p).map D.str=CC at *;generalize(nP p).map D.str=PP at *;have f:jM (gT 2 (gC (jk [] 0) (gC (jk [] 1) gN))) (js (kX jo 0 "is_missed" (pV 2) (jc (pV 1) pN))) (pF (pV 0)) GG (jE [none,none,some 0] [some I,none,none,none,none])=some DR:=z;have j:jM (gT 2 (gC (jk [] 0) (gC (jk [] 1) gN))) qT (qv (jc (pF (pV 0)) (jc (kX jI 0 "days_behind" (pV 2) (jc (pV 0) (jc (pV 1) pN))) pN))) QQ (jE [none,none,some 0] [some I,some (.lst true DR),none,none,none])=some RR:=B;have k:jM (jk [] 0) qT (VX (p2 yS (Qb 0 "alive" (pV 1)) (pV 0)) (p2 (zQ true) (pV 0) (Qb 0 "repaid" (pV 1)))) CC (jE [none,some 0] [some I,some (.lst true DR),some (.lst true RR),none,none])=some AA:=t;have r:jM (jk [] 0) qT (VX (p2 yS (Qb 0 "full" (pV 1)) (pV 0)) (p2 (J6 true) (pV 0) (pV 2))) PP (jE [none,some 0,some 1] [some I,some (.lst true DR),some (.lst true RR),some (.lst true AA),none])=some FF:=u;simp[jK,jX,yN,Q,U,V,W,f,j,k,r,C,E,F,H,l2,J,K,L,M,O,P,jg,-qF]
end
structure Ol where
 R:List Qt
 al:WN->Bool
 fu:WN->Bool
noncomputable def yH(p:Pl)(o:Ol):D:=.tup [.tup (o.R.map jG),.tup ((nC p).map λn=>.bl (o.al n)),.tup ((nP p).map λn=>.bl (o.fu n))]
theorem J0(p:Pl)(o:Ol):jn (yH p o) (.int 0)=some (.tup (o.R.map jG)):=rfl
theorem J1(p:Pl)(o:Ol):jn (yH p o) (.int 1)=some (.tup ((nC p).map λn=>.bl (o.al n))):=rfl
theorem J2(p:Pl)(o:Ol):jn (yH p o) (.int 2)=some (.tup ((nP p).map λn=>.bl (o.fu n))):=rfl
theorem P3(o:Bool)(p:Pl):jn (jz o p) (.int 3)=some (.lst false (p.E.map D.str)):=rfl
theorem P6(p:Pl):jn (jz false p) (.int 6)=some (.lst false (p.G.map VU)):=rfl
theorem uK(p:Pl)(o:Ol):frz (yH p o)=true:=by
 have a:=jV o.R;have b:=vE (nC p) o.al;have c:=vE (nP p) o.fu;show frz (D.tup [.tup (o.R.map jG),.tup _,.tup _])=true;simp only[frz,frzs,a,b,c,Bool.and_self]
theorem jeT(g:WN->D):∀ N:List WN,zpD (N.map D.str) (N.map g)=some (N.map λn=>(KA.str n,g n))
 | []=>rfl
 | n::N=>by rw[L4,L4,zpD,jeT g N];rfl
theorem jil{N:List WN}(h:N.Nodup):(N.map KA.str).Nodup:=by
 induction N with
 | nil=>exact List.nodup_nil
 | cons n N a =>
  obtain⟨b,c⟩:=List.nodup_cons.mp h;rw[L4];refine List.nodup_cons.mpr ⟨λz=>?_,a c⟩;obtain⟨m,d,e⟩:=M5.mp z;exact b (KA.str.inj e▸d)
theorem jf0{N:List WN}(h:N.Nodup)(g:WN->D):Vn (N.map λn=>(KA.str n,g n))=(N.map KA.str,N.map g):=by
 have:=Kw (N.map λn=>(KA.str n,g n)) [] [] (by rw[X7,U2];exact jil h);unfold Vn;rw[this,X7,X7,U2,U2];rfl
theorem jdi  {N:List WN}(h:N.Nodup) (b:N.length<=1000) (f:WN->Bool):xR [.lst o (N.map D.str),.tup (N.map λn=>.bl (f n))]=some (bd true N f):=by
 have a:=vE N f;have e:(N.map λn=>(KA.str n,D.bl (f n))).map (·.2)=N.map λn=>D.bl (f n):=by rw[U2];rfl
 rw[jdC,jeT,L3,e,a,jg (by rw[L0];omega),jf0 h];rfl
theorem jbq:∀{C:List Cl}{o0:Option D},jM (jk [] 0) qT (pF (p2 jn (pV 0) (pC (.int 0)))) (C.map JY) [o0]=some ((C.map (·.1)).map D.str)
 | [],_=>rfl
 | c::C,o0=>by
  have e:=jbq (C:=C) (o0:=some (JY c));have a:jk [] 0 (JY c) [o0]=some [some (JY c)]:=rfl;have b:jn (JY c) (.int 0)=some (.str c.1):=rfl;rw[L4,jJ,a,L3,L4,L4];generalize JY c=cc at *;simp[e,b]
theorem jeI:∀{C:List Qt}{o0:Option D},jM (jk [] 0) qT (pF (p2 jn (pV 0) (pC (.int 0)))) (C.map jG) [o0]=some ((C.map (·.1)).map D.str)
 | [],_=>rfl
 | c::C,o0=>by
  have e:=jeI (C:=C) (o0:=some (jG c));have a:jk [] 0 (jG c) [o0]=some [some (jG c)]:=rfl;have b:jn (jG c) (.int 0)=some (.str c.1):=rfl;rw[L4,jJ,a,L3,L4,L4];generalize jG c=cc at *;simp[e,b]
theorem Yq{f:Str}{pv:PF}{r:Rh}{ns ns':List Str}{l l':List D}{v:D}(a:pv (some (.ins true 0 ns l)::r)=some v)(h:YK ns l f v=(ns',l'))(hn:ns.length<=900):Ku 0 0 f pv (some (.ins true 0 ns l)::r)=some (.nx (some (.ins true 0 ns' l')::r)):=by
 rw[jik,a,L3];show(bif (0==0)&&decide (ns.length<=900) then some (Out.nx (some (D.ins true 0 (YK ns l f v).1 (YK ns l f v).2)::r)) else none)=_;rw[h,X2 hn];rfl
noncomputable abbrev I6(a0 a1 a2 a3 a4 a5:D):D:=.ins true 0 ["claims","pots","guards","greatest","runs","alive"] [a0,a1,a2,a3,a4,a5]
theorem jiU(w:WN)(f:WN->Bool):(λn=>if n=w then D.bl false else D.bl (f n))=λn=>D.bl (if n=w then false else f n):=by
 funext n;split<;>rfl
noncomputable def kil(al:WN->Bool)(K:List WN)(n:WN):Bool:=al n&&!decide (n∈K)
theorem uM  (a:N.length<=1000):∀{K:List WN}{al:WN->Bool}{o4:Option D},(∀ k∈K,k∈N) ->
  ∃ o4',kO (jk [0] 4) yC (K.map D.str) [some (I6 a0 a1 a2 a3 a4 (bd true N al)),b1,b2,b3,o4]=some (.nx [some (I6 a0 a1 a2 a3 a4 (bd true N (kil al K))),b1,b2,b3,o4'])
 | [],al,o4,_=>⟨o4,by rw[show kil al []=al by funext n;simp[kil]];rfl⟩
 | k::K,al,o4,h=>by
  obtain⟨o4',e⟩:=uM (a0:=a0) (a1:=a1) (a2:=a2) (a3:=a3) (a4:=a4) (b1:=b1) (b2:=b2) (b3:=b3) a (K:=K) (al:=λn=>if n=k then false else al n) (o4:=some (.str k)) λx c=>h x (L5 _ c);have d:jk [0] 4 (.str k) [some (I6 a0 a1 a2 a3 a4 (bd true N al)),b1,b2,b3,o4]=some [some (I6 a0 a1 a2 a3 a4 (bd true N al)),b1,b2,b3,some (.str k)]:=rfl;have g:yC [some (I6 a0 a1 a2 a3 a4 (bd true N al)),b1,b2,b3,some (.str k)]=some (.nx [some (I6 a0 a1 a2 a3 a4 (bd true N λn=>if n=k then false else al n)),b1,b2,b3,some (.str k)]):=by
   have:=jbM (ρ:=[some (I6 a0 a1 a2 a3 a4 (bd true N al)),b1,b2,b3,some (.str k)]) (i:=0) (L:=jaD 0 "alive" jb0) (pk:=pV 4) (t:=I6 a0 a1 a2 a3 a4 (bd true N al)) (N:=N) (f:=λn=>.bl (al n)) (kk:=λz=>I6 a0 a1 a2 a3 a4 z) (w:=k) (b:=false) rfl rfl rfl a;rw[jiU,show Ya N k=N from if_pos (h k L6)] at this;exact this
  refine⟨o4',?_⟩;rw[L4,vm,d,L3,g,L3,Jk,e];have:kil (λn=>if n=k then false else al n) K=kil al (k::K):=by
   funext n
   unfold kil;by_cases q:n=k<;>simp[q]
  rw[this]
theorem je5(N:List WN)(f:WN->Int):kT (dct true N f)=true:=by
 have:ym (N.map λn=>D.int (f n))=true:=by rw[kB,List.all_map,List.all_eq_true];intro x _;rfl
 show(true&&ym _)=true;rw[this];rfl
theorem jhX{p:Pl}{o:Ol}(h:PlOk p){K:List WN}(m:∀ k∈K,k∈nC p):yp [.ins true 0 [] [],jz false p,yH p o,.lst false (K.map D.str)]=some (.non,yb true p o.R ⟨kil o.al K,o.fu,[],[]⟩):=by
 have c6:=h.c;have p6:=h.p6;have q:lim (p.C.map JY).length=true:=jg (by rw[L0];omega);have s:lim (p.P.map jG).length=true:=jg (by rw[L0];omega);have t:=VN p.C;have u:=jV p.P;have w:=VL p.G;have y:=jV o.R;have z:=jA K;have A:=vb K;have B:=jbb h;have E:=je5 (gr p).1 (gr p).2;have F:=jdi (o:=true) h.cN (by rw[L0];omega) o.al;have H:=jdi (o:=true) h.pN (by rw[L0];omega) o.fu;have J:=jbq (C:=p.C) (o0:=none);have L:=jeI (C:=p.P) (o0:=none);have M:=P1 false p;have O:=P2 false p;have Q:=P6 p;have S:=J0 p o;have T:=J1 p o;have U:=J2 p o;have V:=qw p;have e:=qu _ V;obtain⟨o4,W⟩:=uM (a0:=.lst true ((nC p).map D.str)) (a1:=.lst true ((nP p).map D.str)) (a2:=.lst false (p.G.map VU)) (a3:=dct true (gr p).1 (gr p).2) (a4:=.tup (o.R.map jG)) (b1:=some (jz false p)) (b2:=some (yH p o)) (b3:=some (.lst false (K.map D.str))) (N:=nC p) (by rw[L0];omega) (K:=K) (al:=o.al) (o4:=none) m;show _=some (D.non,D.ins true 0 FN [.lst true ((nC p).map D.str),.lst true ((nP p).map D.str),.lst false (p.G.map VU),dct true (gr p).1 (gr p).2,.tup (o.R.map jG),bd true (nC p) (kil o.al K),bd true (nP p) o.fu,.dK true [] [],.dK true [] []]);generalize bd true (nC p) (kil o.al K)=aK,bd true (nC p) o.al=a5,bd true (nP p) o.fu=a6,dct true (gr p).1 (gr p).2=a3 at *;generalize((nC p).map λn=>D.bl (o.al n))=B1 at *;generalize((nP p).map λn=>D.bl (o.fu n))=B2 at *;generalize X:(nC p).map D.str=CC at *;generalize Y:(nP p).map D.str=PP,jz false p=EP,yH p o=EO,p.G.map VU=GG,o.R.map jG=RR,p.C.map JY=XC,p.P.map jG=XP,K.map D.str=KK at *;have g:jM (jk [] 0) qT (pF (p2 jn (pV 0) (pC (.int 0)))) XC [none]=some CC:=J;have i:jM (jk [] 0) qT (pF (p2 jn (pV 0) (pC (.int 0)))) XP [none]=some PP:=L
 let r:Rh:=[some EP,some EO,some (.lst false KK),none]
 let b:Rh:=[some EP,some EO,some (.lst false KK),o4]
 have a:r=[some EP,some EO,some (.lst false KK),none]:=rfl;have d:b=[some EP,some EO,some (.lst false KK),o4]:=rfl;have j:∀ x:Option D,jE [none] (x::r)=[none]:=λ_=>rfl;have Z:=Yq (f:="claims") (pv:=yT (VP (p2 jn (pV 1) (pC (.int 1)))) (jk [] 0) qT (pF (p2 jn (pV 0) (pC (.int 0)))) [none]) (r:=r) (ns:=[]) (l:=[]) (ns':=["claims"]) (l':=[.lst true CC]) (v:=.lst true CC) (by rw[jez,j];rw[a];simp[M,t,q,g]) rfl (by decide);have s1:=Yq (f:="pots") (pv:=yT (VP (p2 jn (pV 1) (pC (.int 2)))) (jk [] 0) qT (pF (p2 jn (pV 0) (pC (.int 0)))) [none]) (r:=r) (ns:=["claims"]) (l:=[.lst true CC]) (ns':=["claims","pots"]) (l':=[.lst true CC,.lst true PP]) (v:=.lst true PP) (by rw[jez,j];rw[a];simp[O,u,s,i]) rfl (by decide);have s2:=Yq (f:="guards") (pv:=pF (p2 jn (pV 1) (pC (.int 6)))) (r:=r) (ns:=["claims","pots"]) (l:=[.lst true CC,.lst true PP]) (ns':=["claims","pots","guards"]) (l':=[.lst true CC,.lst true PP,.lst false GG]) (v:=.lst false GG) (by rw[a];simp[Q,w]) rfl (by decide);have s3:=Yq (f:="greatest") (pv:=jW vQ (jc (pV 1) pN)) (r:=r) (ns:=["claims","pots","guards"]) (l:=[.lst true CC,.lst true PP,.lst false GG]) (ns':=["claims","pots","guards","greatest"]) (l':=[.lst true CC,.lst true PP,.lst false GG,a3]) (v:=a3) (by rw[a];simp[B,E,e]) rfl (by decide);have s4:=Yq (f:="runs") (pv:=pF (p2 jn (pV 2) (pC (.int 0)))) (r:=r) (ns:=["claims","pots","guards","greatest"]) (l:=[.lst true CC,.lst true PP,.lst false GG,a3]) (ns':=["claims","pots","guards","greatest","runs"]) (l':=[.lst true CC,.lst true PP,.lst false GG,a3,.tup RR]) (v:=.tup RR) (by rw[a];simp[S,y]) rfl (by decide);have s5:=Yq (f:="alive") (pv:=pCB xR (jc (Qb 0 "claims" (pV 0)) (jc (p2 jn (pV 2) (pC (.int 1))) pN))) (r:=r) (ns:=["claims","pots","guards","greatest","runs"]) (l:=[.lst true CC,.lst true PP,.lst false GG,a3,.tup RR]) (ns':=["claims","pots","guards","greatest","runs","alive"]) (l':=[.lst true CC,.lst true PP,.lst false GG,a3,.tup RR,a5]) (v:=a5) (by rw[a];simp[T,F,show ur ["claims","pots","guards","greatest","runs"] [D.lst true CC,D.lst true PP,D.lst false GG,a3,D.tup RR] "claims" = some (.lst true CC) from rfl]) rfl (by decide);have s6:KP (pIt (pF (pV 3))) (jk [0] 4) yC (some (I6 (.lst true CC) (.lst true PP) (.lst false GG) a3 (.tup RR) a5)::r)=some (.nx (some (I6 (.lst true CC) (.lst true PP) (.lst false GG) a3 (.tup RR) aK)::b)):=by
  rw[a,d];generalize hI:I6 (.lst true CC) (.lst true PP) (.lst false GG) a3 (.tup RR) a5=I at *;simp[z,A,W]
 have s7:=Yq (f:="full") (pv:=pCB xR (jc (Qb 0 "pots" (pV 0)) (jc (p2 jn (pV 2) (pC (.int 2))) pN))) (r:=b) (ns:=["claims","pots","guards","greatest","runs","alive"]) (l:=[.lst true CC,.lst true PP,.lst false GG,a3,.tup RR,aK]) (ns':=["claims","pots","guards","greatest","runs","alive","full"]) (l':=[.lst true CC,.lst true PP,.lst false GG,a3,.tup RR,aK,a6]) (v:=a6) (by rw[d];simp[U,H,show ur ["claims","pots","guards","greatest","runs","alive"] [D.lst true CC,D.lst true PP,D.lst false GG,a3,D.tup RR,aK] "pots" = some (.lst true PP) from rfl]) rfl (by decide);have s8:=Yq (f:="served") (pv:=pC (.dK true [] [])) (r:=b) (ns:=["claims","pots","guards","greatest","runs","alive","full"]) (l:=[.lst true CC,.lst true PP,.lst false GG,a3,.tup RR,aK,a6]) (ns':=["claims","pots","guards","greatest","runs","alive","full","served"]) (l':=[.lst true CC,.lst true PP,.lst false GG,a3,.tup RR,aK,a6,.dK true [] []]) (v:=.dK true [] []) rfl rfl (by decide);have s9:=Yq (f:="repaid") (pv:=pC (.dK true [] [])) (r:=b) (ns:=["claims","pots","guards","greatest","runs","alive","full","served"]) (l:=[.lst true CC,.lst true PP,.lst false GG,a3,.tup RR,aK,a6,.dK true [] []]) (ns':=FN) (l':=[.lst true CC,.lst true PP,.lst false GG,a3,.tup RR,aK,a6,.dK true [] [],.dK true [] []]) (v:=.dK true [] []) rfl rfl (by decide);have e0:yp [.ins true 0 [] [],EP,EO,.lst false KK]=(va (some (.ins true 0 [] [])::r)).bind (jgE 0):=rfl;rw[e0];unfold va;simp only[jcd,Z,s1,s2,s3,s4,s5,s6,s7,s8,s9,L3,jbP];rfl
noncomputable def stp(k c:Int)(d:D):D:=.tup [.int k,.int c,d]
noncomputable def run(p:Pl)(R:List Qt)(kl:Int):List Rl->Nat->Sy->List D×Sy
 | [],_,y=>([],y)
 | r::rs,k,y=>bif nd y r then(stp kl (k:Int) (ob p R y)::(run p R kl rs (k+1) (fl y r)).1,(run p R kl rs (k+1) (fl y r)).2) else run p R kl rs (k+1) y
noncomputable def fst(y:Sy):List Rl->Nat->Option Nat
 | [],_=>none
 | r::rs,k=>bif nd y r then some k else fst y rs (k+1)
noncomputable def stW(p:Pl)(R:List Qt)(ten:Bool)(kl:Int)(rs:List Rl)(y:Sy):List D :=
 bif ten then [stp kl (((fst y rs 0).getD rs.length:Nat):Int) (ob p R y)] else(run p R kl rs 0 y).1++[stp kl (rs.length:Int) (ob p R (run p R kl rs 0 y).2)]
theorem x4(N:List WN)(f:WN->Bool):ym (N.map λn=>D.bl (f n))=true:=by rw[kB,List.all_map,List.all_eq_true];intro x _;rfl
theorem jb3(N:List Qt):ym (N.map jG)=true:=by rw[kB,List.all_map,List.all_eq_true];intro x _;rfl
theorem wU(p:Pl)(R:List Qt)(y:Sy):kT (ob p R y)=true:=by
 have a:ym (obR p R y)=true:=jb3 _;have b:ym (obA p y)=true:=x4 _ _;have c:ym (obF p y)=true:=x4 _ _;unfold ob;simp only[kT,ym,a,b,c,Bool.and_self]
theorem jg7(p:Pl)(R:List Qt)(y:Sy):frz (ob p R y)=true:=by
 have a:frzs (obR p R y)=true:=jV _;have b:frzs (obA p y)=true:=vE (nC p) λn=>y.al n&&!decide (n∈y.rp);have c:frzs (obF p y)=true:=vE (nP p) λn=>y.fu n&&!decide (n∈drn p.G y);unfold ob;simp only[frz,frzs,a,b,c,Bool.and_self]
theorem jbT:∀{Q:List Qt}{o0:Option D},jM (jk [] 0) qT (pF (p2 jn (pV 0) (pC (.int 1)))) (Q.map jG) [o0]=some ((Q.map (·.2)).map D.int)
 | [],_=>rfl
 | c::C,o0=>by
  have e:=jbT (Q:=C) (o0:=some (jG c));have a:jk [] 0 (jG c) [o0]=some [some (jG c)]:=rfl;have b:jn (jG c) (.int 1)=some (.int c.2):=rfl;rw[L4,jJ,a,L3,L4,L4];generalize jG c=cc at *;simp[e,b]
theorem jb7(l:List Int):Qg (l.map D.int)=some l:=by
 induction l with
 | nil=>rfl
 | cons a l b=>simp[Qg,b]
noncomputable def jay(Q:List Qt):Int:=(Q.map (·.2)).sum
theorem jah  (h:Q.length<=1000):YG [.lst false (Q.map jG)]=some (.int (jay Q)):=by
 have e:=jbT (Q:=Q) (o0:=none);have a:=jb7 (Q.map (·.2));have f:=jV Q;have l:lim (Q.map jG).length=true:=jg (by rw[L0];omega);unfold jay;generalize Q.map jG=QQ at *;generalize c:(Q.map (·.2)).map D.int=NN at *;have b:jM (jk [] 0) qT (pF (p2 jn (pV 0) (pC (.int 1)))) QQ (jE [none] [some (.lst false QQ)])=some NN:=e;simp[YG,jX,Ka,b,f,l,a]
theorem ue  (a:Ky (nC p) (nP p) r)  (h0:po ρ=some (yb o p R y)) (h1:pa ρ=some (jy r)):kX jF 0 "needs" po (jc pa pN) ρ=some (.bl (nd y r)) :=
 wX h0 (ds:=[jy r]) (by simp[h1]) (λ_ _ _ _ _ _ _ _ _=>rfl) (by rw[show fzs [jy r]=[jy r] by rw[fzs,qu _ (K2 r)];rfl];exact jgk a) rfl
theorem KJ(h:PlOk p)(a:R.map (·.1)=(gr p).1)  (h0:po ρ=some (yb o p R y)):kX jK 0 "outline_behind" po pN ρ=some (ob p R y) :=
 wX h0 (ds:=[]) rfl (λ_ _ _ _ _ _ _ _ _=>rfl) (jc6 h a) (wU p R y)
noncomputable abbrev fr(a0:Option D)(x:Od)(a2:Option D)(kl:Int)(a4:Option D)(I:D)(S:List D)(o7 o8:Option D):Rh:=[a0,some (yr false x),a2,some (.int kl),a4,some I,some (.lst true S),o7,o8]
theorem O1(o:Bool)(x:Od):jn (yr o x) (.int 1)=some (.lst false (x.2.1.map jG)):=rfl
theorem O2(o:Bool)(x:Od):jn (yr o x) (.int 2)=some (.lst o (x.2.2.map jy)):=rfl
theorem jek{R:List Qt}{a0 a2 a4:Option D}{kl:Int}(a:Ky (nC p) (nP p) r)(hn:nd y r=false){S:List D}{k:Int} :
  ya (fr a0 x a2 kl a4 (yb true p R y) S (some (.int k)) (some (jy r)))=some (.nx (fr a0 x a2 kl a4 (yb true p R y) S (some (.int k)) (some (jy r)))):=by
 have m:=ue (p:=p) (R:=R) (y:=y) a (ρ:=fr a0 x a2 kl a4 (yb true p R y) S (some (.int k)) (some (jy r))) (po:=pV 5) (pa:=pV 8) rfl rfl;rw[hn] at m;unfold fr at *;generalize yb true p R y=I,yr false x=X,jy r=Y at *;simp[ya,m,-qF]
theorem jfS{R:List Qt}{y:Sy}{a0 a2 a4:Option D}{kl:Int}(h:PlOk p)(j:R.map (·.1)=(gr p).1)(l:OrOk (nC p) (nP p) x)(s:jay x.2.1 < 10)  (d:Ky (nC p) (nP p) r) (hn:nd y r=true) {S:List D}(u:S.length<=900) {k:Int}(h1:y.sv.length<=900) (h2:y.rp.length<=900) :
  ya (fr a0 x a2 kl a4 (yb true p R y) S (some (.int k)) (some (jy r)))=some (.nx (fr a0 x a2 kl a4 (yb true p R (fl y r)) (S++[stp kl k (ob p R y)]) (some (.int k)) (some (jy r)))):=by
 have m:=ue (p:=p) (R:=R) (y:=y) d (ρ:=fr a0 x a2 kl a4 (yb true p R y) S (some (.int k)) (some (jy r))) (po:=pV 5) (pa:=pV 8) rfl rfl;rw[hn] at m;have b:=KJ (p:=p) (R:=R) (y:=y) h j (ρ:=fr a0 x a2 kl a4 (yb true p R y) S (some (.int k)) (some (jy r))) (po:=pV 5) rfl;have t:=jah (Q:=x.2.1) (by have:=l.p;omega);have n:=O1 false x;have e:=jV x.2.1;have o:=jl _ e;have f:=jiK (p:=p) (R:=R) (y:=y) h.p6 d hn h1 h2;have g:=jfV (m:=jQ) (mn:="fill") (pa:=jc (pF (pV 8)) pN) (ρ:=fr a0 x a2 kl a4 (yb true p R y) (S++[stp kl k (ob p R y)]) (some (.int k)) (some (jy r))) (i:=5) (ds:=[jy r]) (h0:=rfl) (by simp[K2 r]) (by simp[K2 r]) rfl;have q:Q2 jQ 5 0 "fill" (jc (pF (pV 8)) pN) (fr a0 x a2 kl a4 (yb true p R y) (S++[stp kl k (ob p R y)]) (some (.int k)) (some (jy r)))=some (.non,fr a0 x a2 kl a4 (yb true p R (fl y r)) (S++[stp kl k (ob p R y)]) (some (.int k)) (some (jy r))):=by
  refine g.trans ?_;show(jQ [yb true p R y,jy r]).bind _=_;rw[f];rfl
 have a:lim S.length=true:=jg (by omega);have c:¬ (10<=jay x.2.1):=by omega
 clear g;unfold fr stp at *;generalize yb true p R (fl y r)=I2,yb true p R y=I,yr false x=X,jy r=Y,ob p R y=B,x.2.1.map jG=QQ at *;simp[ya,m,b,n,e,o,t,c,a,q,jg,-qF,-jb9]
theorem jf6{R:List Qt}{a0 a2 a4:Option D}{kl:Int}(h:PlOk p)(d:R.map (·.1)=(gr p).1)(e:OrOk (nC p) (nP p) x)(f:10<=jay x.2.1)  (g:Ky (nC p) (nP p) r) (hn:nd y r=true) {S:List D}(l:S.length<=900) {k:Int} :
  ∃ ρ',ya (fr a0 x a2 kl a4 (yb true p R y) S (some (.int k)) (some (jy r)))=some (.rt (.lst true (S++[stp kl k (ob p R y)])) ρ'):=by
 have m:=ue (p:=p) (R:=R) (y:=y) g (ρ:=fr a0 x a2 kl a4 (yb true p R y) S (some (.int k)) (some (jy r))) (po:=pV 5) (pa:=pV 8) rfl rfl;rw[hn] at m;have b:=KJ (p:=p) (R:=R) (y:=y) h d (ρ:=fr a0 x a2 kl a4 (yb true p R y) S (some (.int k)) (some (jy r))) (po:=pV 5) rfl;have t:=jah (Q:=x.2.1) (by have:=e.p;omega);have i:=O1 false x;have c:=jV x.2.1;have j:=jl _ c;have a:lim S.length=true:=jg (by omega);unfold fr stp at *;generalize yb true p R y=I,yr false x=X,jy r=Y,ob p R y=B,x.2.1.map jG=QQ at *;refine⟨[a0,some X,a2,some (.int kl),a4,some I,none,some (.int k),some Y],?_⟩;simp[ya,m,b,i,c,j,t,f,a,jg,-qF]
theorem jk3  (c:Ky (nC p) (nP p) r) (y:Sy):(fl y r).sv.length<=y.sv.length+8/\(fl y r).rp.length<=y.rp.length+8:=by
 cases r with
 | two a x =>
  unfold fl;dsimp only;have:=zi y.sv x;have:=zi y.rp x;split
  ·exact⟨by show y.sv.length<=_;omega,by show y.rp.length<=_;omega⟩
  ·refine⟨by show(Ya y.sv x).length<=_;omega,?_⟩;show(if a=jv then Ya y.rp x else y.rp).length<=_;split<;>omega
 | many b =>
  have:=jfC b y.sv;have:=c.1;exact⟨by show(b.foldl Ya y.sv).length<=_;omega,by show y.rp.length<=_;omega⟩
 | lend a x v=>exact⟨by show y.sv.length<=_;omega,by show y.rp.length<=_;omega⟩
theorem hgE(k:Nat)(d:D)(I:D)(S:List D)(o7 o8:Option D):(gT 2 (gC (jk [] 7) (gC (jk [] 8) gN))) (.tup [.int (k:Int),d]) (fr a0 x a2 kl a4 I S o7 o8)=some (fr a0 x a2 kl a4 I S (some (.int (k:Int))) (some d)):=rfl
theorem uo(h:PlOk p)(b:R.map (·.1)=(gr p).1)(c:OrOk (nC p) (nP p) x)(d:jay x.2.1 < 10):∀{rs:List Rl}{k:Nat}{y:Sy}{S:List D}{o7 o8:Option D},(∀ r∈rs,Ky (nC p) (nP p) r)->S.length+rs.length<=900->y.sv.length+8*rs.length<=900->y.rp.length+8*rs.length<=900 ->
  ∃ o7' o8',kO (gT 2 (gC (jk [] 7) (gC (jk [] 8) gN))) ya (yA k (rs.map jy)) (fr a0 x a2 kl a4 (yb true p R y) S o7 o8)=some (.nx (fr a0 x a2 kl a4 (yb true p R (run p R kl rs k y).2) (S++(run p R kl rs k y).1) o7' o8'))
 | [],k,y,S,o7,o8,_,_,_,_=>⟨o7,o8,by rw[show S++(run p R kl [] k y).1=S from M9 _];rfl⟩
 | r::rs,k,y,S,o7,o8,f,i,j,l=>by
  have a:=f r L6;rw[M0] at i j l;rw[L4,yA,vm,hgE,L3];cases hn:nd y r with
  | false =>
   obtain⟨o7',o8',e⟩:=uo h b c d (rs:=rs) (k:=k+1) (y:=y) (S:=S) (o7:=some (.int (k:Int))) (o8:=some (jy r)) (λq g=>f q (L5 _ g)) (by omega) (by omega) (by omega);refine⟨o7',o8',?_⟩;rw[jek a hn,L3,Jk,e,run,hn];rfl
  | true =>
   have:=jk3 a y;obtain⟨o7',o8',e⟩:=uo h b c d (rs:=rs) (k:=k+1) (y:=fl y r) (S:=S++[stp kl (k:Int) (ob p R y)]) (o7:=some (.int (k:Int))) (o8:=some (jy r)) (λq g=>f q (L5 _ g)) (by simp;omega) (by omega) (by omega);refine⟨o7',o8',?_⟩;rw[jfS h b c d a hn (by omega) (by omega) (by omega),L3,Jk,e,run,hn,List.append_assoc];rfl
theorem x6{R:List Qt}{a0 a2 a4:Option D}{kl:Int}(h:PlOk p)(b:R.map (·.1)=(gr p).1)(c:OrOk (nC p) (nP p) x)(d:10<=jay x.2.1){S:List D}(f:S.length<=900):∀{rs:List Rl}{k:Nat}{o7 o8:Option D},(∀ r∈rs,Ky (nC p) (nP p) r) ->
  (fst y rs k=none/\∃ o7' o8',kO (gT 2 (gC (jk [] 7) (gC (jk [] 8) gN))) ya (yA k (rs.map jy)) (fr a0 x a2 kl a4 (yb true p R y) S o7 o8)=some (.nx (fr a0 x a2 kl a4 (yb true p R y) S o7' o8'))) \/
  ∃ j ρ',fst y rs k=some j/\kO (gT 2 (gC (jk [] 7) (gC (jk [] 8) gN))) ya (yA k (rs.map jy)) (fr a0 x a2 kl a4 (yb true p R y) S o7 o8)=some (.rt (.lst true (S++[stp kl (j:Int) (ob p R y)])) ρ')
 | [],k,o7,o8,_=>.inl ⟨rfl,o7,o8,rfl⟩
 | r::rs,k,o7,o8,g=>by
  have a:=g r L6;rw[L4,yA,vm,hgE,L3,fst];cases hn:nd y r with
  | false =>
   rw[jek a hn,L3,Jk];exact x6 h b c d f (rs:=rs) (k:=k+1) (λq i=>g q (L5 _ i))
  | true =>
   obtain⟨ρ',e⟩:=jf6 (a0:=a0) (a2:=a2) (a4:=a4) (kl:=kl) h b c d a hn f (k:=(k:Int));exact .inr ⟨k,ρ',rfl,by rw[e];rfl⟩
structure OlOk(p:Pl)(o:Ol):Prop where
 r:o.R.map (·.1)=(gr p).1
theorem wo  (h1:ym a=true) (h2:ym b=true):ym (a++b)=true:=by
 rw[kB] at *;rw[List.all_append,h1,h2];rfl
theorem jbz  (h1:frzs a=true) (h2:frzs b=true):frzs (a++b)=true:=by
 rw[VB] at *;rw[List.all_append,h1,h2];rfl
theorem jem(p:Pl)(R:List Qt)(y:Sy)(k c:Int):kT (stp k c (ob p R y))=true/\frz (stp k c (ob p R y))=true:=by
 unfold stp;simp only[kT,ym,frz,frzs,wU,jg7,Bool.and_self,and_self]
theorem jbK(p:Pl)(R:List Qt)(kl:Int):∀(rs:List Rl) (k:Nat) (y:Sy),ym (run p R kl rs k y).1=true/\frzs (run p R kl rs k y).1=true/\(run p R kl rs k y).1.length<=rs.length
 | [],_,_=>⟨rfl,rfl,M8 _⟩
 | r::rs,k,y=>by
  rw[run];cases nd y r with
  | true =>
   have:=jbK p R kl rs (k+1) (fl y r);have q:=jem p R y kl (k:Int);simp only[cond_true,ym,frzs,this.1,this.2.1,q.1,q.2,Bool.and_self,M0,true_and];omega
  | false =>
   have:=jbK p R kl rs (k+1) y;exact⟨this.1,this.2.1,by simp only[cond_false,M0];omega⟩
theorem jhe(p:Pl)(R:List Qt)(ten:Bool)(kl:Int)(rs:List Rl)(y:Sy):ym (stW p R ten kl rs y)=true/\frzs (stW p R ten kl rs y)=true/\(stW p R ten kl rs y).length<=rs.length+1:=by
 unfold stW;cases ten with
 | true =>
  have q:=jem p R y kl (((fst y rs 0).getD rs.length:Nat):Int);simp only[cond_true,ym,frzs,q.1,q.2,Bool.and_self,M0,List.length_nil,true_and];omega
 | false =>
  have:=jbK p R kl rs 0 y;have q:=jem p R (run p R kl rs 0 y).2 kl (rs.length:Int);refine⟨wo this.1 (by simp only[ym,q.1,Bool.and_self]),jbz this.2.1 (by simp only[frzs,q.2,Bool.and_self]),?_⟩;simp only[cond_false,N5,M0,List.length_nil];omega
noncomputable def ten(x:Od):Bool:=decide (10<=jay x.2.1)
theorem jgy(l:List Rl):V0 [.lst false (l.map jy)]=some (yA 0 (l.map jy)):=by
 show some (yA 0 (fzs (l.map jy)))=_;rw[jl _ (yW l)]
theorem wZ(h:PlOk p)(i:OlOk p o)(d:OrOk (nC p) (nP p) x)(v:∀ k∈K,k∈nC p) :
  vU [jz false p,yr false x,yH p o,.int kl,.lst false (K.map D.str)]=some (.lst true (stW p o.R (ten x) kl x.2.2 ⟨kil o.al K,o.fu,[],[]⟩)):=by
 have w:=jhX (o:=o) h v;have s:=qw p;have t:=uK p o;have u:=jA K;have C:=JA x;have l:=jgy x.2.2;have m:=yW x.2.2;have n:=O2 false x;have z:=d.r;have f:(((x.2.2.map jy).length:Nat):Int)=(x.2.2.length:Int):=by rw[L0]
 have a:jcK yp 0 (jc (pF (pV 0)) (jc (pF (pV 2)) (jc (pF (pV 4)) pN))) [some (jz false p),some (yr false x),some (yH p o),some (.int kl),some (.lst false (K.map D.str)),none,none,none,none]=some (yb true p o.R ⟨kil o.al K,o.fu,[],[]⟩):=by
  rw[wS];have:jc (pF (pV 0)) (jc (pF (pV 2)) (jc (pF (pV 4)) pN)) [some (jz false p),some (yr false x),some (yH p o),some (.int kl),some (.lst false (K.map D.str)),none,none,none,none]=some [jz false p,yH p o,.lst false (K.map D.str)]:=by simp[s,t,u]
  rw[this,L3,w];simp[s,t,u]
 have g:∀ S:List D,S.length<=900->lim S.length=true:=λS E=>jg (by omega);cases ht:ten x with
 | false =>
  have c:jay x.2.1 < 10:=by have:=of_decide_eq_false ht;omega
  obtain⟨o7,o8,e⟩:=uo (a0:=some (jz false p)) (a2:=some (yH p o)) (a4:=some (.lst false (K.map D.str))) (kl:=kl) h i.r d c (rs:=x.2.2) (k:=0) (y:=⟨kil o.al K,o.fu,[],[]⟩) (S:=[]) (o7:=none) (o8:=none) d.k (by simp;omega) (by simp;omega) (by simp;omega);rw[X7] at e;have A:=g _ (N8 (jbK p o.R kl x.2.2 0 ⟨kil o.al K,o.fu,[],[]⟩).2.2 (by omega));have b:=KJ (p:=p) (R:=o.R) (y:=(run p o.R kl x.2.2 0 ⟨kil o.al K,o.fu,[],[]⟩).2) h i.r (ρ:=fr (some (jz false p)) x (some (yH p o)) kl (some (.lst false (K.map D.str))) (yb true p o.R (run p o.R kl x.2.2 0 ⟨kil o.al K,o.fu,[],[]⟩).2) (run p o.R kl x.2.2 0 ⟨kil o.al K,o.fu,[],[]⟩).1 o7 o8) (po:=pV 5) rfl;unfold stW stp;unfold fr at *;rw[cond_false];generalize run p o.R kl x.2.2 0 ⟨kil o.al K,o.fu,[],[]⟩=Z at *;generalize yb true p o.R Z.2=I2,yb true p o.R ⟨kil o.al K,o.fu,[],[]⟩=I,ob p o.R Z.2=B,jz false p=EP,yH p o=EO,yr false x=EX,K.map D.str=KK,x.2.2.map jy=RR at *;simp[vU,jX,qA,a,n,m,l,e,f,b,A,jg,-wS,-qF]
 | true =>
  have c:10<=jay x.2.1:=X5 ht;rcases x6 (a0:=some (jz false p)) (a2:=some (yH p o)) (a4:=some (.lst false (K.map D.str))) (kl:=kl) h i.r d c (S:=[]) (by simp) (rs:=x.2.2) (k:=0) (y:=⟨kil o.al K,o.fu,[],[]⟩) (o7:=none) (o8:=none) d.k with⟨q,o7,o8,e⟩ | ⟨j,F,q,e⟩
  ·have b:=KJ (p:=p) (R:=o.R) (y:=⟨kil o.al K,o.fu,[],[]⟩) h i.r (ρ:=fr (some (jz false p)) x (some (yH p o)) kl (some (.lst false (K.map D.str))) (yb true p o.R ⟨kil o.al K,o.fu,[],[]⟩) [] o7 o8) (po:=pV 5) rfl;unfold stW stp;unfold fr at *;rw[cond_true,q];generalize yb true p o.R ⟨kil o.al K,o.fu,[],[]⟩=I,ob p o.R ⟨kil o.al K,o.fu,[],[]⟩=B,jz false p=EP,yH p o=EO,yr false x=EX,K.map D.str=KK,x.2.2.map jy=RR at *;simp[vU,jX,qA,a,n,m,l,e,f,b,jg,-wS,-qF]
  ·unfold stW stp;unfold fr stp at e;rw[cond_true,q];generalize yb true p o.R ⟨kil o.al K,o.fu,[],[]⟩=I,ob p o.R ⟨kil o.al K,o.fu,[],[]⟩=B,jz false p=EP,yH p o=EO,yr false x=EX,K.map D.str=KK,x.2.2.map jy=RR at *;simp[vU,jX,qA,a,n,m,l,e,jg,-wS,-qF]
theorem xZ  : ∀{X:List Od}{o2:Option D}{x:Od}{t:List Od},X.filter (λx=>x.1==nm)=x::t ->
  ∃ r,kO (jk [] 2) vW (X.map (yr false)) [a0,some (.str nm),o2]=some (.rt (yr false x) r)
 | [],_,_,_,h=>by cases h
 | z::X,o2,x,t,h=>by
  have a:=O0 false z;have b:=JA z;have c:jk [] 2 (yr false z) [a0,some (.str nm),o2]=some [a0,some (.str nm),some (yr false z)]:=rfl;rw[List.filter_cons] at h;rw[L4,vm,c,L3];cases q:z.1==nm with
  | true =>
   rw[q] at h;cases h;refine⟨[a0,some (.str nm),some (yr false z)],?_⟩;generalize yr false z=X at *;simp[vW,a,q,b]
  | false =>
   rw[q] at h;obtain⟨r,e⟩:=xZ (a0:=a0) (nm:=nm) (X:=X) (o2:=some (yr false z)) h;refine⟨r,?_⟩;have d:vW [a0,some (.str nm),some (yr false z)]=some (.nx [a0,some (.str nm),some (yr false z)]):=by
    generalize yr false z=Z at *;simp[vW,a,q]
   rw[d,L3,Jk,e]
theorem jbw  (h:p.X.filter (λx=>x.1==nm)=x::t):kf [jz false p,.str nm]=some (yr false x):=by
 obtain⟨r,e⟩:=xZ (a0:=some (jz false p)) (o2:=none) h;have b:=P4 false p;have a:=VI p.X;have c:=jl _ a;generalize jz false p=PP,yr false x=XX,p.X.map (yr false)=XS at *;simp[kf,jX,Yn,b,a,c,e]
theorem uW  : ∀{X:List Od}{o0:Option D},jM (jk [] 0) (js (p2 kS (p2 jn (pV 0) (pC (.int 0))) (pV 1))) (pF (pV 0)) (X.map (yr false)) [o0,some (.str nm)]=some ((X.filter (λx=>x.1==nm)).map (yr false))
 | [],_=>rfl
 | z::X,o0=>by
  have e:=uW (nm:=nm) (X:=X) (o0:=some (yr false z));have a:=O0 false z;have b:=JA z;have c:jk [] 0 (yr false z) [o0,some (.str nm)]=some [some (yr false z),some (.str nm)]:=rfl;rw[L4,jJ,c,L3,List.filter_cons];cases q:z.1==nm with
  | true =>
   rw[if_pos rfl,L4];generalize(X.filter (λx=>x.1==nm)).map (yr false)=XX at *;generalize yr false z=Z at *;simp[e,a,q,b]
  | false =>
   rw[if_neg (by exact M3)];generalize(X.filter (λx=>x.1==nm)).map (yr false)=XX at *;generalize yr false z=Z at *;simp[e,a,q]
theorem wk(i:p.X.length<=1000)  : ∀{L:List Lk}{q2 q3 q4 r3 r4 r5:Option D},(∀ l∈L,l.1∈N/\∃ y∈p.X,y.1=l.2.2) ->
  (∃ q2' q3' q4' r3' r4' r5',kO (gT 3 (gC (jk [] 2) (gC (jk [] 3) (gC (jk [] 4) gN)))) vB (L.map Vf) [b0,some (dct false N f),q2,q3,q4]=some (.nx [b0,some (dct false N f),q2',q3',q4']) /\
   kO (gT 3 (gC (jk [] 3) (gC (jk [] 4) (gC (jk [] 5) gN)))) kg (L.map Vf) [some (jz false p),b1,some (dct true N f),r3,r4,r5]=some (.nx [some (jz false p),b1,some (dct true N f),r3',r4',r5'])) \/
  ∃ nm x t r r',p.X.filter (λx=>x.1==nm)=x::t/\kO (gT 3 (gC (jk [] 2) (gC (jk [] 3) (gC (jk [] 4) gN)))) vB (L.map Vf) [b0,some (dct false N f),q2,q3,q4]=some (.rt (.str nm) r) /\
   kO (gT 3 (gC (jk [] 3) (gC (jk [] 4) (gC (jk [] 5) gN)))) kg (L.map Vf) [some (jz false p),b1,some (dct true N f),r3,r4,r5]=some (.rt (yr false x) r')
 | [],q2,q3,q4,r3,r4,r5,_=>.inl ⟨q2,q3,q4,r3,r4,r5,rfl,rfl⟩
 | l::L,q2,q3,q4,r3,r4,r5,h=>by
  obtain⟨j,z,v,w⟩:=h l L6;have k:=ui (o:=false) (f:=f) j;have s:=ui (o:=true) (f:=f) j;have a:(gT 3 (gC (jk [] 2) (gC (jk [] 3) (gC (jk [] 4) gN)))) (Vf l) [b0,some (dct false N f),q2,q3,q4]=some [b0,some (dct false N f),some (.str l.1),some (.int l.2.1),some (.str l.2.2)]:=rfl;have b:(gT 3 (gC (jk [] 3) (gC (jk [] 4) (gC (jk [] 5) gN)))) (Vf l) [some (jz false p),b1,some (dct true N f),r3,r4,r5]=some [some (jz false p),b1,some (dct true N f),some (.str l.1),some (.int l.2.1),some (.str l.2.2)]:=rfl;rw[L4,vm,vm,a,b,L3,L3];by_cases q:l.2.1<=f l.1
  ·right
   obtain⟨x,t,e⟩:∃ x t,p.X.filter (λx=>x.1==l.2.2)=x::t:=by
    cases hh:p.X.filter (λx=>x.1==l.2.2) with
    | nil =>
     have m:z∈p.X.filter (λx=>x.1==l.2.2):=List.mem_filter.mpr ⟨v,by simp[w]⟩;rw[hh] at m;cases m
    | cons x t=>exact⟨x,t,rfl⟩
   refine⟨l.2.2,x,t,[b0,some (dct false N f),some (.str l.1),some (.int l.2.1),some (.str l.2.2)],[some (jz false p),b1,some (dct true N f),some (.str l.1),some (.int l.2.1),some (.str l.2.2)],e,?_,?_⟩
   ·generalize dct false N f=A at *;simp[vB,k,q]
   ·have u:=uW (nm:=l.2.2) (X:=p.X) (o0:=none);rw[e,L4] at u;have B:=P4 false p;have C:=VI p.X;have c:∀ n,p.X.length<=n->n<=1000->lim (p.X.map (yr false)).length=true:=λn I J=>jg (by rw[L0];omega);have d:=JA x;have E:∀ T:List D,jn (.lst true (yr false x::T)) (.int 0)=some (yr false x):=λT=>by rw[jfq (by decide) (by rw[M0];omega)];rfl
    generalize t.map (yr false)=TT,yr false x=X at *;have c:=c 1000 i (by decide);generalize jz false p=PP,p.X.map (yr false)=XS,dct true N f=A at *;have g:jM (jk [] 0) (js (p2 kS (p2 jn (pV 0) (pC (.int 0))) (pV 1))) (pF (pV 0)) XS (jE [none,some 5] [some PP,b1,some A,some (.str l.1),some (.int l.2.1),some (.str l.2.2)])=some (X::TT):=u;simp[kg,s,q,B,C,c,g,E,d]
  ·have F:vB [b0,some (dct false N f),some (.str l.1),some (.int l.2.1),some (.str l.2.2)]=some (.nx [b0,some (dct false N f),some (.str l.1),some (.int l.2.1),some (.str l.2.2)]):=by
    generalize dct false N f=A at *;simp[vB,k,q]
   have G:kg [some (jz false p),b1,some (dct true N f),some (.str l.1),some (.int l.2.1),some (.str l.2.2)]=some (.nx [some (jz false p),b1,some (dct true N f),some (.str l.1),some (.int l.2.1),some (.str l.2.2)]):=by
    generalize dct true N f=A,jz false p=PP at *;simp[kg,s,q]
   rw[F,G,L3,L3,Jk,Jk];exact wk i λl H=>h l (L5 _ H)
theorem jiy{S:List Qt}(hn:(S.map (·.1)).Nodup)(a:S.length<=1000):xY [.tup (S.map jG)]=some (dct true (S.map (·.1)) (fnOf S)):=by
 have:=jc9 (o:=true) (S:=S) hn (by omega);rw[jd8] at this;rw[K4];exact this
theorem jaI(h:PlOk p)(a:OlOk p o):(o.R.map (·.1)).Nodup/\o.R.length<=2:=by
 have b:=jeg h;refine⟨by rw[a.r];exact b.n,?_⟩;have:=congrArg List.length a.r;rw[L0] at this;have:=b.l;omega
theorem jio(h:PlOk p):∀ l∈p.L,l.1∈(gr p).1:=by
 have d:∀(L:List Lk) (S:Gw),(∀ c∈S.1,c∈(L.foldl grow S).1)/\∀ l∈L,l.1∈(L.foldl grow S).1:=by
  intro L
  induction L with
  | nil=>intro S;exact⟨λc a=>a,λl b=>nomatch b⟩
  | cons x L e =>
   intro S;have k:=e (grow S x);have m:∀ c,c∈S.1 \/ c=x.1->c∈(grow S x).1:=λc a=>by
    unfold grow;dsimp only;by_cases q:x.1∈S.1
    ·rw[if_pos q];rcases a with a | rfl
     ·exact a
     ·exact q
    ·rw[if_neg q];simpa using a
   rw[X1];refine⟨λc a=>k.1 c (m c (.inl a)),λl b=>?_⟩;rcases M4.mp b with rfl | b
   ·exact k.1 _ (m _ (.inr rfl))
   ·exact k.2 l b
 exact(d p.L _).2
theorem jfR(h:PlOk p)(s:OlOk p o):∃ x∈p.X,∃ nm,qZ [jz false p,yH p o]=some (.str nm)/\kf [jz false p,.str nm]=some (yr false x)/\qj [jz false p,yH p o]=some (yr false x):=by
 obtain⟨B,H⟩:=jaI h s;have hd:=jiy B (by omega);have d:=J0 p o;have u:=P4 false p;have e:=P5 false p;have b:=Vw p.L;have g:=jl _ b;have C:=qw p;have v:=qu _ C;have zd:fz (dct true (o.R.map (·.1)) (fnOf o.R))=dct false (o.R.map (·.1)) (fnOf o.R):=by
  show D.dK false _ (fzs _)=_;rw[jl _ (wN _ _)];rfl
 have E:∀ l∈p.L,l.1∈o.R.map (·.1)/\∃ y∈p.X,y.1=l.2.2:=λl w=>⟨by rw[s.r];exact jio h l w,(h.l l w).n⟩;have x5:=h.x5;obtain⟨a,c,j⟩:∃ x c,p.X=x::c:=by
  cases hh:p.X with
  | nil=>have:=h.x1;rw[hh] at this;simp at this
  | cons x c=>exact⟨x,c,rfl⟩
 rcases wk (p:=p) (by omega) (f:=fnOf o.R) (b0:=some (jz false p)) (b1:=some (yH p o)) (q2:=none) (q3:=none) (q4:=none) (r3:=none) (r4:=none) (r5:=none) E with⟨q2,q3,q4,r3,r4,r5,k,m⟩ | ⟨nm,x,t,r,I,i,k,m⟩
 ·have i:p.X.filter (λx=>x.1==a.1)=a::c.filter (λx=>x.1==a.1):=by rw[j,List.filter_cons,if_pos (by simp)]
  have z:jn (.lst false (p.X.map (yr false))) (.int 0)=some (yr false a):=by rw[j,L4,jfq (by decide) (by rw[M0];omega)];rfl
  have F:=O0 false a;have G:=JA a;refine⟨a,by rw[j];exact L6,a.1,?_,jbw i,?_⟩
  ·have q:kD [jz false p,dct false (o.R.map (·.1)) (fnOf o.R)]=some (.str a.1):=by
    generalize jz false p=PP,yr false a=XX,p.X.map (yr false)=XS,p.L.map Vf=LS,dct false (o.R.map (·.1)) (fnOf o.R)=A at *;simp[kD,jX,Jv,e,b,g,k,u,z,F]
   generalize jz false p=PP,yH p o=OO,o.R.map jG=RR,dct true (o.R.map (·.1)) (fnOf o.R)=A at *;simp[qZ,jX,Vz,d,hd,v,zd,q,-K4]
  ·generalize jz false p=PP,yH p o=OO,o.R.map jG=RR,yr false a=XX,p.X.map (yr false)=XS,p.L.map Vf=LS,dct true (o.R.map (·.1)) (fnOf o.R)=A at *;simp[qj,jX,Yb,d,hd,e,b,g,m,u,z,G,-K4]
 ·refine⟨x,?_,nm,?_,jbw i,?_⟩
  ·exact(List.mem_filter.mp (by rw[i];exact L6:x∈p.X.filter (λx=>x.1==nm))).1
  ·have q:kD [jz false p,dct false (o.R.map (·.1)) (fnOf o.R)]=some (.str nm):=by
    generalize jz false p=PP,p.L.map Vf=LS,dct false (o.R.map (·.1)) (fnOf o.R)=A at *;simp[kD,jX,Jv,e,b,g,k]
   generalize jz false p=PP,yH p o=OO,o.R.map jG=RR,dct true (o.R.map (·.1)) (fnOf o.R)=A at *;simp[qZ,jX,Vz,d,hd,v,zd,q,-K4]
  ·generalize jz false p=PP,yH p o=OO,o.R.map jG=RR,yr false x=XX,p.L.map Vf=LS,dct true (o.R.map (·.1)) (fnOf o.R)=A at *;simp[qj,jX,Yb,d,hd,e,b,g,m,-K4]
noncomputable def die(p:Pl)(o:Ol):List WN:=p.E.filter o.al
noncomputable def sy0(p:Pl)(o:Ol)(k:Nat):Sy:=⟨kil o.al ((die p o).take k),o.fu,[],[]⟩
noncomputable def zV(p:Pl)(o:Ol)(x:Od)(n:Nat):List D:=(List.range n).flatMap λ(k:Nat)=>stW p o.R (ten x) (k:Int) x.2.2 (sy0 p o k)
theorem wx  : ∀{E:List WN}{o0:Option D},(∀ n∈E,n∈N)->jM (jk [] 0) (js (p2 yS (pV 1) (pV 0))) (pF (pV 0)) (E.map D.str) [o0,some (bd b N al)]=some ((E.filter al).map D.str)
 | [],_,_=>rfl
 | n::E,o0,h=>by
  have e:=wx (b:=b) (N:=N) (al:=al) (E:=E) (o0:=some (.str n)) λg a=>h g (L5 _ a);have a:jk [] 0 (.str n) [o0,some (bd b N al)]=some [some (.str n),some (bd b N al)]:=rfl;have c:=JB (o:=b) (f:=λn=>D.bl (al n)) (h n L6);rw[L4,jJ,a,L3,List.filter_cons];unfold bd at *;generalize gd b N (λn=>D.bl (al n))=A at *;cases q:al n with
  | true =>
   rw[if_pos rfl,L4];generalize(E.filter al).map D.str=NN at *;simp[c,e,q]
  | false =>
   rw[if_neg (by exact M3)];generalize(E.filter al).map D.str=NN at *;simp[c,e,q]
theorem xK(p:Pl)(o:Ol)(x:Od)(a:x.2.2.length<=5):∀ n,ym (zV p o x n)=true/\frzs (zV p o x n)=true/\(zV p o x n).length<=6*n
 | 0=>⟨rfl,rfl,M8 _⟩
 | n+1=>by
  have i:=xK p o x a n;have q:=jhe p o.R (ten x) (n:Int) x.2.2 (sy0 p o n);have e:zV p o x (n+1)=zV p o x n++stW p o.R (ten x) (n:Int) x.2.2 (sy0 p o n):=by
   unfold zV;rw[List.range_succ,List.flatMap_append];simp
  rw[e];exact⟨wo i.1 q.1,jbz i.2.1 q.2.1,by rw[N5];omega⟩
theorem uT(p:Pl)(o:Ol)(x:Od)(n:Nat):zV p o x (n+1)=zV p o x n++stW p o.R (ten x) (n:Int) x.2.2 (sy0 p o n):=by
 unfold zV;rw[List.range_succ,List.flatMap_append];simp
theorem ja2(h:PlOk p)(L:OlOk p o)  (M:x∈p.X) (O:qZ [jz false p,yH p o]=some (.str nm)) (P:kf [jz false p,.str nm]=some (yr false x)) :
  JX [jz false p,yH p o]=some (.lst true (zV p o x ((die p o).length+1))):=by
 have d:=h.x x M;have c6:=h.c;have Q:=h.e;have dl:(die p o).length<=6:=N8 (List.length_filter_le ..) Q;have g:=qw p;have y:=qu _ g;have l:=uK p o;have z:=qu _ l;have m:=JA x;have T:=qu _ m;have U:lim (p.C.map JY).length=true:=jg (by rw[L0];omega);have V:lim (p.E.map D.str).length=true:=jg (by rw[L0];omega);have W:=VN p.C;have Y:=jA p.E;have Z:=jbq (C:=p.C) (o0:=none);have zA:=jdi (o:=true) h.cN (by rw[L0];omega) o.al;have B:=wx (b:=true) (N:=nC p) (al:=o.al) (E:=p.E) (o0:=none) h.me;have j1:=P1 false p;have j3:=P3 false p;have k1:=J1 p o;have a:=vK (j:=((die p o).length:Int)+1) (by omega) (by omega);have s:((((die p o).map D.str).length:Nat):Int)=((die p o).length:Int):=by rw[L0]
 obtain⟨ρ',F,S,t,rfl,H⟩:=vj (G:=jk [] 6) (f:=QR) (xs:=Jn 0 (((die p o).length:Int)+1).toNat) (λi ρ=>∃(S:List D) (t:Option D),ρ=[some (jz false p),some (yH p o),some (yr false x),some (bd true (nC p) o.al),some (.lst true ((die p o).map D.str)),some (.lst true S),t]/\S=zV p o x i) (by
  rintro i v ρ hv ⟨S,t,rfl,rfl⟩;obtain⟨rfl,hi⟩:=YH hv;have sl:=xp true (die p o) none (some (0+(i:Int)));have ct:v7 (die p o) none (some (0+(i:Int)))=(die p o).take i:=by rw[KF _ (by omega)];congr 1;omega
  rw[ct] at sl;have I:=wZ (o:=o) (x:=x) (kl:=(i:Int)) (K:=(die p o).take i) h L d λk hk=>h.me k (List.mem_filter.mp (List.mem_of_mem_take hk)).1;have q:=jhe p o.R (ten x) (i:Int) x.2.2 (sy0 p o i);have qa:=xK p o x d.r i;have o5:=d.r;have zK:=vb ((die p o).take i);refine⟨_,[some (jz false p),some (yH p o),some (yr false x),some (bd true (nC p) o.al),some (.lst true ((die p o).map D.str)),some (.lst true (zV p o x (i+1))),some (.int (0+(i:Int)))],rfl,.inl ?_,zV p o x (i+1),_,rfl,rfl⟩;rw[uT];have J:(0:Int)+(i:Int)=(i:Int):=by omega
  rw[J] at sl;change vU _=some (.lst true (stW p o.R (ten x) (i:Int) x.2.2 (sy0 p o i))) at I;refine jdU (e:=.lst true (stW p o.R (ten x) (i:Int) x.2.2 (sy0 p o i))) ?_ (by show(bif frzs _ then _ else _)=_;rw[q.2.1];rfl) rfl (by omega);have qc:=q.1;generalize stW p o.R (ten x) (i:Int) x.2.2 (sy0 p o i)=ST at *;generalize((die p o).take i).map D.str=TK at *;generalize(die p o).map D.str=DD at *;generalize jz false p=EP,yH p o=EO,yr false x=EX,zV p o x i=AS at *;simp[sl,y,z,T,g,l,m,zK,I,qc,J]) (ρ:=[some (jz false p),some (yH p o),some (yr false x),some (bd true (nC p) o.al),some (.lst true ((die p o).map D.str)),some (.lst true []),none]) ⟨[],none,rfl,rfl⟩
 rw[vv,show(((die p o).length:Int)+1).toNat=(die p o).length+1 by omega] at H;rw[show(((die p o).length:Int)+1).toNat=(die p o).length+1 by omega] at F a;subst H;change jM _ _ _ _ _=some ((die p o).map D.str) at B;generalize zV p o x ((die p o).length+1)=AS,jz false p=EP,yH p o=EO,yr false x=EX at *;generalize((nC p).map λn=>D.bl (o.al n))=B1 at *;generalize bd true (nC p) o.al=A at *;generalize hDD:(die p o).map D.str=DD at *;generalize hCC:(nC p).map D.str=CC,p.C.map JY=XC,p.E.map D.str=XE at *;have u:jM (jk [] 0) qT (pF (p2 jn (pV 0) (pC (.int 0)))) XC (jE [none] [some EP,some EO,some EX,none,none,none,none])=some CC:=Z;have w:jM (jk [] 0) (js (p2 yS (pV 1) (pV 0))) (pF (pV 0)) XE (jE [none,some 3] [some EP,some EO,some EX,some A,none,none,none])=some DD:=B;simp[JX,jX,QC,g,l,y,z,O,P,m,j1,W,U,u,k1,zA,j3,Y,V,w,s,a,F,jg,-jdC]
noncomputable def jbR(Ks:List WN):Rl->List WN
 | .two kw x=>if kw∈Ks then [x] else []
 | .many ws=>if vJ∈Ks then ws else []
 | .lend kw x _=>if kw∈Ks then [x] else []
noncomputable def nam(Ks:List WN)(rs:List Rl):List WN:=rs.flatMap (jbR Ks)
theorem jaQ(Ks:List WN)(a:List Rl)(r:Rl):nam Ks (a++[r])=nam Ks a++jbR Ks r:=by unfold nam;rw[List.flatMap_append];simp
section
variable {C P:List WN}{Ks:List WN}
theorem jfP  (a:Ky C P r):(jbR Ks r).length<=8:=by
 cases r with
 | two b x=>unfold jbR;dsimp only;split<;>simp
 | many c=>unfold jbR;dsimp only;split;exact a.1;simp
 | lend b x v=>unfold jbR;dsimp only;split<;>simp
theorem jcl  (h:Ky C P r)  (m:acc.length<=900) :
  yD [a0,some (.lst false (Ks.map D.str)),some (.lst true (acc.map D.str)),some (jy r)]=some (.nx [a0,some (.lst false (Ks.map D.str)),some (.lst true ((acc++jbR Ks r).map D.str)),some (jy r)]):=by
 have b:lim (acc.map D.str).length=true:=jg (by rw[L0];omega);cases r with
 | two a x =>
  have g:(a==vJ)=false:=U3.mpr h.1;have c:=kZ false false a Ks;have d:jn (jy (.two a x)) (.int 0)=some (.str a):=rfl;have f:jn (jy (.two a x)) (.int 1)=some (.str x):=rfl;unfold jbR;dsimp only;by_cases q:a∈Ks
  ·rw[if_pos q,N6];show _=some (Out.nx [_,_,some (.lst true (acc.map D.str++[.str x])),_]);generalize jy (.two a x)=Y,acc.map D.str=AA,Ks.map D.str=KK at *;simp[yD,d,f,g,c,q,b]
  ·rw[if_neg q,M9];generalize jy (.two a x)=Y,acc.map D.str=AA,Ks.map D.str=KK at *;simp[yD,d,f,g,c,q]
 | many ws =>
  have c:=kZ false false vJ Ks;have d:jn (jy (.many ws)) (.int 0)=some (.str vJ):=rfl;have f:jn (jy (.many ws)) (.int 1)=some (.tup (ws.map D.str)):=rfl;have n:=h.1;unfold jbR;dsimp only;by_cases q:vJ∈Ks
  ·rw[if_pos q,N6];have k:=jbG (ws:=ws) (o:=none);have j:=jA ws;have l:lim (ws.map D.str).length=true:=jg (by rw[L0];omega);have ex:jfE 2 (yT (VP (p2 jn (pV 3) (pC (.int 1)))) (jk [] 0) qT (pF (pV 0)) [none]) [a0,some (.lst false (Ks.map D.str)),some (.lst true (acc.map D.str)),some (jy (.many ws))]=some (.nx [a0,some (.lst false (Ks.map D.str)),some (.lst true (acc.map D.str++ws.map D.str)),some (jy (.many ws))]):=by
    refine jdU (e:=.lst true (ws.map D.str)) ?_ (by show(bif frzs _ then _ else _)=_;rw[j];rfl) rfl (by rw[L0,L0];omega);generalize jy (.many ws)=Y,ws.map D.str=WW at *;have i:jM (jk [] 0) qT (pF (pV 0)) WW (jE [none] [a0,some (.lst false (Ks.map D.str)),some (.lst true (acc.map D.str)),some Y])=some WW:=k;simp[f,j,l,i]
   generalize jy (.many ws)=Y,acc.map D.str=AA,Ks.map D.str=KK at *;simp[yD,d,c,q,ex]
  ·rw[if_neg q,M9];generalize jy (.many ws)=Y,acc.map D.str=AA,Ks.map D.str=KK at *;simp[yD,d,f,c,q]
 | lend a x v =>
  have g:(a==vJ)=false:=U3.mpr h.1.1;have c:=kZ false false a Ks;have d:jn (jy (.lend a x v)) (.int 0)=some (.str a):=rfl;have f:jn (jy (.lend a x v)) (.int 1)=some (.str x):=rfl;unfold jbR;dsimp only;by_cases q:a∈Ks
  ·rw[if_pos q,N6];show _=some (Out.nx [_,_,some (.lst true (acc.map D.str++[.str x])),_]);generalize jy (.lend a x v)=Y,acc.map D.str=AA,Ks.map D.str=KK at *;simp[yD,d,f,g,c,q,b]
  ·rw[if_neg q,M9];generalize jy (.lend a x v)=Y,acc.map D.str=AA,Ks.map D.str=KK at *;simp[yD,d,f,g,c,q]
theorem jb5  : ∀{rs:List Rl}{acc:List WN}{o3:Option D},(∀ r∈rs,Ky C P r)->acc.length+8*rs.length<=900 ->
  ∃ o3',kO (jk [] 3) yD (rs.map jy) [a0,some (.lst false (Ks.map D.str)),some (.lst true (acc.map D.str)),o3]=some (.nx [a0,some (.lst false (Ks.map D.str)),some (.lst true ((acc++nam Ks rs).map D.str)),o3'])
 | [],acc,o3,_,_=>⟨o3,by rw[show acc++nam Ks []=acc from M9 _];rfl⟩
 | r::rs,acc,o3,h,b=>by
  rw[M0] at b;have a:=h r L6;have:=jfP (Ks:=Ks) a;obtain⟨o3',e⟩:=jb5 (a0:=a0) (rs:=rs) (acc:=acc++jbR Ks r) (o3:=some (jy r)) (λq c=>h q (L5 _ c)) (by rw[N5];omega);have d:jk [] 3 (jy r) [a0,some (.lst false (Ks.map D.str)),some (.lst true (acc.map D.str)),o3]=some [a0,some (.lst false (Ks.map D.str)),some (.lst true (acc.map D.str)),some (jy r)]:=rfl;refine⟨o3',?_⟩;rw[L4,vm,d,L3,jcl a (by omega),L3,Jk,e,List.append_assoc];rfl
theorem jgJ  (h:∀ r∈rs,Ky C P r) (a:rs.length<=20):yw [.lst false (rs.map jy),.lst false (Ks.map D.str)]=some (.lst true ((nam Ks rs).map D.str)):=by
 obtain⟨o3,e⟩:=jb5 (a0:=some (.lst false (rs.map jy))) (Ks:=Ks) (acc:=[]) (o3:=none) h (by simp;omega);have f:=yW rs;have z:=jl _ f;rw[X7] at e;generalize rs.map jy=RR at *;generalize(nam Ks rs).map D.str=NN at *;generalize Ks.map D.str=KK at *;rw[List.map_nil] at e;simp[yw,jX,V5,f,z,e,jg]
end
noncomputable abbrev K3:List WN:=[xM,vJ,jv]
noncomputable def lSy(al fu:WN->Bool)(ah:List Rl):Sy:=⟨al,λq=>fu q||decide (q∈nam [yi] ah),nam K3 ah,nam [jv] ah⟩
section
variable {p:Pl}{al fu:WN->Bool}{ah:List Rl}
theorem qd(Ks:List WN)(h:∀ r∈ah,Ky (nC p) (nP p) r)(a:ah.length<=20)  (h1:pa ρ=some (.lst b (ah.map jy))) (h2:pk ρ=some (.lst true (Ks.map D.str))):jW yw (jc pa (jc pk pN)) ρ=some (.lst true ((nam Ks ah).map D.str)):=by
 have e:=jgJ (Ks:=Ks) h a;have f:=yW ah;have z:=jl _ f;have c:=jaM (nam Ks ah);generalize ah.map jy=AA at *;have d:=vb Ks;generalize Ks.map D.str=KK at *;generalize(nam Ks ah).map D.str=NN at *;simp[h1,h2,z,d,e,c]
theorem wb{T:List WN}{b b':Bool}:∀{ws:List WN}{o0:Option D},(∀ w∈ws,w∈nC p)->jM (jk [] 0) (VT (js (p2 yS (pV 1) (pV 0))) (js (p2 (J6 true) (pV 0) (pV 2)))) (pF (pV 0)) (ws.map D.str) [o0,some (bd b (nC p) al),some (.lst b' (T.map D.str))]=some ((ws.filter λw=>al w&&!decide (w∈T)).map D.str)
 | [],_,_=>rfl
 | w::ws,o0,h=>by
  have e:=wb (T:=T) (b:=b) (b':=b') (ws:=ws) (o0:=some (.str w)) λg a=>h g (L5 _ a);have a:jk [] 0 (.str w) [o0,some (bd b (nC p) al),some (.lst b' (T.map D.str))]=some [some (.str w),some (bd b (nC p) al),some (.lst b' (T.map D.str))]:=rfl;have c:=JB (o:=b) (f:=λn=>D.bl (al n)) (h w L6);have d:=kZ true b' w T;rw[L4,jJ,a,L3,List.filter_cons];unfold bd at *;generalize gd b (nC p) (λn=>D.bl (al n))=A,T.map D.str=TT at *;cases q:al w with
  | true =>
   by_cases m:w∈T
   ·have:(true&&!decide (w∈T))=false:=by simp[m]
    rw[this,if_neg (by exact M3)];generalize(ws.filter λw=>al w&&!decide (w∈T)).map D.str=NN at *;simp[c,d,e,q,m]
   ·have:(true&&!decide (w∈T))=true:=by simp[m]
    rw[this,if_pos rfl,L4];generalize(ws.filter λw=>al w&&!decide (w∈T)).map D.str=NN at *;simp[c,d,e,q,m]
  | false =>
   rw[Bool.false_and,if_neg (by exact M3)];generalize(ws.filter λw=>al w&&!decide (w∈T)).map D.str=NN at *;simp[c,e,q]
theorem jfy(f:WN->Bool)(ws:List WN):decide (0 < ((ws.filter f).length:Int))=ws.any f:=by
 induction ws with
 | nil=>rfl
 | cons w ws a =>
  rw[List.filter_cons,List.any_cons];cases f w with
  | true=>simp
  | false=>simpa using a
theorem jdG(h:∀ r∈ah,Ky (nC p) (nP p) r)(l:ah.length<=20)  (i:Ky (nC p) (nP p) r) :
  ye [jy r,.lst false (ah.map jy),bd false (nC p) al,bd false (nP p) fu]=some (.bl (nd (lSy al fu ah) r)):=by
 cases r with
 | two t x =>
  obtain⟨_,_,_,u⟩:=i;rcases u with⟨rfl | rfl,m⟩ | ⟨rfl,m⟩ | rfl | rfl
  ·have d:jn (jy (.two xM x)) (.int 0)=some (.str xM):=rfl;have g:jn (jy (.two xM x)) (.int 1)=some (.str x):=rfl;have c:=qd (p:=p) K3 h l (ρ:=[some (jy (.two xM x)),some (.lst false (ah.map jy)),some (bd false (nC p) al),some (bd false (nP p) fu),none]) (pa:=pV 1) (pk:=qX (jc (pC (.str [112,97,121])) (jc (pC (.str [115,104,97,114,101])) (jc (pC (.str [114,101,112,97,121])) pN)))) rfl (by simp[jg]);have s:=JB (o:=false) (f:=λn=>D.bl (al n)) m;have j:=kZ true true x (nam K3 ah);show _=some (D.bl (al x&&!decide (x∈nam K3 ah)));unfold bd at *;generalize gd false (nC p) (λn=>D.bl (al n))=A,gd false (nP p) (λn=>D.bl (fu n))=B,jy (.two xM x)=Y,ah.map jy=AA at *;generalize(nam K3 ah).map D.str=NN at *;cases q:al x<;>simp[ye,jX,vt,d,g,s,q,c,j,-YF]
  ·have d:jn (jy (.two jv x)) (.int 0)=some (.str jv):=rfl;have g:jn (jy (.two jv x)) (.int 1)=some (.str x):=rfl;have c:=qd (p:=p) [jv] h l (ρ:=[some (jy (.two jv x)),some (.lst false (ah.map jy)),some (bd false (nC p) al),some (bd false (nP p) fu),none]) (pa:=pV 1) (pk:=qX (jc (pC (.str [114,101,112,97,121])) pN)) rfl (by simp[jg]);have s:=JB (o:=false) (f:=λn=>D.bl (al n)) m;have j:=kZ true true x (nam [jv] ah);show _=some (D.bl (al x&&!decide (x∈nam [jv] ah)));unfold bd at *;generalize gd false (nC p) (λn=>D.bl (al n))=A,gd false (nP p) (λn=>D.bl (fu n))=B,jy (.two jv x)=Y,ah.map jy=AA at *;generalize(nam [jv] ah).map D.str=NN at *;cases q:al x<;>simp[ye,jX,vt,d,g,s,q,c,j,-YF]
  ·have d:jn (jy (.two yi x)) (.int 0)=some (.str yi):=rfl;have g:jn (jy (.two yi x)) (.int 1)=some (.str x):=rfl;have c:=qd (p:=p) [yi] h l (ρ:=[some (jy (.two yi x)),some (.lst false (ah.map jy)),some (bd false (nC p) al),some (bd false (nP p) fu),none]) (pa:=pV 1) (pk:=qX (jc (pC (.str [102,105,108,108])) pN)) rfl (by simp[jg]);have y:=JB (o:=false) (f:=λn=>D.bl (fu n)) m;have j:=kZ true true x (nam [yi] ah);show _=some (D.bl (!(fu x||decide (x∈nam [yi] ah))));unfold bd at *;generalize gd false (nC p) (λn=>D.bl (al n))=A,gd false (nP p) (λn=>D.bl (fu n))=B,jy (.two yi x)=Y,ah.map jy=AA at *;generalize(nam [yi] ah).map D.str=NN at *;cases q:fu x<;>simp[ye,jX,vt,d,g,y,q,c,j,-YF]
  ·have d:jn (jy (.two xQ x)) (.int 0)=some (.str xQ):=rfl;show _=some (D.bl false);generalize jy (.two xQ x)=Y at *;simp[ye,jX,vt,d]
  ·have d:jn (jy (.two Y9 x)) (.int 0)=some (.str Y9):=rfl;show _=some (D.bl false);generalize jy (.two Y9 x)=Y at *;simp[ye,jX,vt,d]
 | many a =>
  have d:jn (jy (.many a)) (.int 0)=some (.str vJ):=rfl;have g:jn (jy (.many a)) (.int 1)=some (.tup (a.map D.str)):=rfl;have c:=qd (p:=p) K3 h l (ρ:=[some (jy (.many a)),some (.lst false (ah.map jy)),some (bd false (nC p) al),some (bd false (nP p) fu),none]) (pa:=pV 1) (pk:=qX (jc (pC (.str [112,97,121])) (jc (pC (.str [115,104,97,114,101])) (jc (pC (.str [114,101,112,97,121])) pN)))) rfl (by simp[jg]);have e:=wb (p:=p) (al:=al) (T:=nam K3 ah) (b:=false) (b':=true) (o0:=none) i.2.2;have z:=jfy (λw=>al w&&!decide (w∈nam K3 ah)) a;have C:=jA a;have E:lim (a.map D.str).length=true:=jg (by rw[L0];have:=i.1;omega);have k:((((a.filter λw=>al w&&!decide (w∈nam K3 ah)).map D.str).length:Nat):Int)=((a.filter λw=>al w&&!decide (w∈nam K3 ah)).length:Int):=by rw[L0]
  have F:(a.filter λw=>al w&&!decide (w∈nam K3 ah)).length<=8:=N8 (List.length_filter_le ..) i.1;show _=some (D.bl (a.any λw=>al w&&!decide (w∈nam K3 ah)));rw[<- z];unfold bd at *;generalize gd false (nC p) (λn=>D.bl (al n))=A,gd false (nP p) (λn=>D.bl (fu n))=B,jy (.many a)=Y,ah.map jy=AA at *;generalize(nam K3 ah).map D.str=NN at *;generalize a.map D.str=WW at *;generalize(a.filter λw=>al w&&!decide (w∈nam K3 ah))=FF at *;generalize FF.map D.str=FS at *;have G:jM (jk [] 0) (VT (js (p2 yS (pV 1) (pV 0))) (js (p2 (J6 true) (pV 0) (pV 2)))) (pF (pV 0)) WW (jE [none,some 2,some 4] [some Y,some (.lst false AA),some A,some B,some (.lst true NN)])=some FS:=e;simp[ye,jX,vt,d,g,c,C,E,G,k,-YF]
 | lend t x v =>
  obtain⟨_,_,_,rfl⟩:=i;have d:jn (jy (.lend xT x v)) (.int 0)=some (.str xT):=rfl;show _=some (D.bl false);generalize jy (.lend xT x v)=Y at *;simp[ye,jX,vt,d]
end
structure Eqv(p:Pl)(y z:Sy):Prop where
 a:y.al=z.al
 s:∀ c,z.al c=true->(c∈y.sv↔c∈z.sv)
 r:∀ c,z.al c=true->(c∈y.rp↔c∈z.rp)
 f:∀ q,y.fu q=z.fu q
section
variable {p:Pl}{y z:Sy}{R:List Qt}
theorem Eqv.mis(h:Eqv p y z)(c:WN):K58.mis y c=K58.mis z c:=by
 unfold K58.mis;rw[h.a];cases q:z.al c with
 | false=>rfl
 | true=>rw[decide_eq_decide.mpr (h.s c q)]
theorem Eqv.rep(h:Eqv p y z)(c:WN):(y.al c&&!decide (c∈y.rp))=(z.al c&&!decide (c∈z.rp)):=by
 rw[h.a];cases q:z.al c with
 | false=>rfl
 | true=>rw[decide_eq_decide.mpr (h.r c q)]
theorem Eqv.nd(h:Eqv p y z)(r:Rl):K58.nd y r=K58.nd z r:=by
 cases r with
 | two a x=>simp only[K58.nd,h.mis,h.rep,h.f]
 | many b=>simp only[K58.nd];rw[show K58.mis y=K58.mis z from funext h.mis]
 | lend a x v=>rfl
theorem Eqv.ob(h:Eqv p y z):K58.ob p R y=K58.ob p R z:=by
 have m:K58.mis y=K58.mis z:=funext h.mis;unfold K58.ob obR obA obF jho drn;simp only[m,h.rep,h.f]
theorem jgi(ws:List WN)(c:WN):∀ l:List WN,c∈ws.foldl Ya l↔c∈l \/ c∈ws:=by
 induction ws with
 | nil=>intro l;simp
 | cons w ws a=>intro l;rw[X1,a,zf,M4];exact or_assoc
theorem jkV(ah:List Rl)(c:WN)(h:c∈nam [jv] ah):c∈nam K3 ah:=by
 unfold nam at *;obtain⟨r,b,a⟩:=List.mem_flatMap.mp h;refine List.mem_flatMap.mpr ⟨r,b,?_⟩;cases r with
 | two d x =>
  unfold jbR at *;dsimp only at *;split at a
  ·rename_i q;rw[if_pos (by rw[M7.mp q];simp)];exact a
  ·cases a
 | many e=>exact absurd a (by unfold jbR;dsimp only;rw[if_neg (by decide)];exact λz=>nomatch z)
 | lend d x v =>
  unfold jbR at *;dsimp only at *;split at a
  ·rename_i q;rw[if_pos (by rw[M7.mp q];simp)];exact a
  ·cases a
theorem jbV  (h:Eqv p y (lSy al fu ah))  (t:Ky (nC p) (nP p) r) :
  Eqv p (bif nd y r then fl y r else y) (lSy al fu (ah++[r])):=by
 have l:=h.s;have d:=h.r;have n:=h.f;have j:=h.a;have B:=h.nd r;have i:=jaQ K3 ah r;have e:=jaQ [jv] ah r;have g:=jaQ [yi] ah r;change y.al=al at j;change ∀ c,al c=true->(c∈y.sv↔c∈nam K3 ah) at l;change ∀ c,al c=true->(c∈y.rp↔c∈nam [jv] ah) at d;change ∀ q,y.fu q=(fu q||decide (q∈nam [yi] ah)) at n;cases r with
 | two u x =>
  obtain⟨_,_,_,w⟩:=t;rcases w with⟨rfl | rfl,A⟩ | ⟨rfl,A⟩ | rfl | rfl
  ·change nam K3 (ah++[.two xM x])=nam K3 ah++[x] at i;have e:nam [jv] (ah++[.two xM x])=nam [jv] ah:=e.trans (M9 _);have g:nam [yi] (ah++[.two xM x])=nam [yi] ah:=g.trans (M9 _);cases q:nd y (.two xM x) with
   | true =>
    refine⟨j,λc b=>?_,λc b=>?_,λc=>?_⟩
    ·show c∈Ya y.sv x↔c∈nam K3 (ah++[.two xM x]);rw[zf,i,N1,M7,l c b]
    ·show c∈y.rp↔c∈nam [jv] (ah++[.two xM x]);rw[e];exact d c b
    ·show y.fu c=(fu c||decide (c∈nam [yi] (ah++[.two xM x])));rw[g];exact n c
   | false =>
    refine⟨j,λc b=>?_,λc b=>?_,λc=>?_⟩
    ·show c∈y.sv↔c∈nam K3 (ah++[.two xM x]);rw[i,N1,M7,l c b];refine⟨.inl,λz=>z.elim id λz=>?_⟩;subst z;have q:(y.al c&&!decide (c∈y.sv))=false:=q;have b:al c=true:=b;rw[j,b] at q;exact(l c b).mp (by simpa using q)
    ·show c∈y.rp↔c∈nam [jv] (ah++[.two xM x]);rw[e];exact d c b
    ·show y.fu c=(fu c||decide (c∈nam [yi] (ah++[.two xM x])));rw[g];exact n c
  ·change nam K3 (ah++[.two jv x])=nam K3 ah++[x] at i;change nam [jv] (ah++[.two jv x])=nam [jv] ah++[x] at e;have g:nam [yi] (ah++[.two jv x])=nam [yi] ah:=g.trans (M9 _);cases q:nd y (.two jv x) with
   | true =>
    refine⟨j,λc b=>?_,λc b=>?_,λc=>?_⟩
    ·show c∈Ya y.sv x↔c∈nam K3 (ah++[.two jv x]);rw[zf,i,N1,M7,l c b]
    ·show c∈Ya y.rp x↔c∈nam [jv] (ah++[.two jv x]);rw[zf,e,N1,M7,d c b]
    ·show y.fu c=(fu c||decide (c∈nam [yi] (ah++[.two jv x])));rw[g];exact n c
   | false =>
    have k:∀ c,al c=true->c=x->c∈y.rp:=λc b z=>by
     subst z;have q:(y.al c&&!decide (c∈y.rp))=false:=q;rw[j,b] at q;simpa using q
    refine⟨j,λc b=>?_,λc b=>?_,λc=>?_⟩
    ·show c∈y.sv↔c∈nam K3 (ah++[.two jv x]);rw[i,N1,M7,l c b];exact⟨.inl,λz=>z.elim id λz=>jkV ah c ((d c b).mp (k c b z))⟩
    ·show c∈y.rp↔c∈nam [jv] (ah++[.two jv x]);rw[e,N1,M7,d c b];exact⟨.inl,λz=>z.elim id λz=>(d c b).mp (k c b z)⟩
    ·show y.fu c=(fu c||decide (c∈nam [yi] (ah++[.two jv x])));rw[g];exact n c
  ·have i:nam K3 (ah++[.two yi x])=nam K3 ah:=i.trans (M9 _);have e:nam [jv] (ah++[.two yi x])=nam [jv] ah:=e.trans (M9 _);change nam [yi] (ah++[.two yi x])=nam [yi] ah++[x] at g;cases q:nd y (.two yi x) with
   | true =>
    refine⟨j,λc b=>?_,λc b=>?_,λc=>?_⟩
    ·show c∈y.sv↔c∈nam K3 (ah++[.two yi x]);rw[i];exact l c b
    ·show c∈y.rp↔c∈nam [jv] (ah++[.two yi x]);rw[e];exact d c b
    ·show(if c=x then true else y.fu c)=(fu c||decide (c∈nam [yi] (ah++[.two yi x])));rw[g,n c];by_cases z:c=x<;>simp[z]
   | false =>
    refine⟨j,λc b=>?_,λc b=>?_,λc=>?_⟩
    ·show c∈y.sv↔c∈nam K3 (ah++[.two yi x]);rw[i];exact l c b
    ·show c∈y.rp↔c∈nam [jv] (ah++[.two yi x]);rw[e];exact d c b
    ·show y.fu c=(fu c||decide (c∈nam [yi] (ah++[.two yi x])));have q:(!y.fu x)=false:=q;rw[g];by_cases z:c=x
     ·subst z;have o:y.fu c=true:=by simpa using q
      rw[o];simp
     ·rw[n c];simp[z]
  ·have i:nam K3 (ah++[.two xQ x])=nam K3 ah:=i.trans (M9 _);have e:nam [jv] (ah++[.two xQ x])=nam [jv] ah:=e.trans (M9 _);have g:nam [yi] (ah++[.two xQ x])=nam [yi] ah:=g.trans (M9 _);refine⟨j,λc b=>?_,λc b=>?_,λc=>?_⟩
   ·show c∈y.sv↔c∈nam K3 (ah++[.two xQ x]);rw[i];exact l c b
   ·show c∈y.rp↔c∈nam [jv] (ah++[.two xQ x]);rw[e];exact d c b
   ·show y.fu c=(fu c||decide (c∈nam [yi] (ah++[.two xQ x])));rw[g];exact n c
  ·have i:nam K3 (ah++[.two Y9 x])=nam K3 ah:=i.trans (M9 _);have e:nam [jv] (ah++[.two Y9 x])=nam [jv] ah:=e.trans (M9 _);have g:nam [yi] (ah++[.two Y9 x])=nam [yi] ah:=g.trans (M9 _);refine⟨j,λc b=>?_,λc b=>?_,λc=>?_⟩
   ·show c∈y.sv↔c∈nam K3 (ah++[.two Y9 x]);rw[i];exact l c b
   ·show c∈y.rp↔c∈nam [jv] (ah++[.two Y9 x]);rw[e];exact d c b
   ·show y.fu c=(fu c||decide (c∈nam [yi] (ah++[.two Y9 x])));rw[g];exact n c
 | many m =>
  change nam K3 (ah++[.many m])=nam K3 ah++m at i;have e:nam [jv] (ah++[.many m])=nam [jv] ah:=e.trans (M9 _);have g:nam [yi] (ah++[.many m])=nam [yi] ah:=g.trans (M9 _);cases q:nd y (.many m) with
  | true =>
   refine⟨j,λc b=>?_,λc b=>?_,λc=>?_⟩
   ·show c∈m.foldl Ya y.sv↔c∈nam K3 (ah++[.many m]);rw[jgi,i,N1,l c b]
   ·show c∈y.rp↔c∈nam [jv] (ah++[.many m]);rw[e];exact d c b
   ·show y.fu c=(fu c||decide (c∈nam [yi] (ah++[.many m])));rw[g];exact n c
  | false =>
   refine⟨j,λc b=>?_,λc b=>?_,λc=>?_⟩
   ·show c∈y.sv↔c∈nam K3 (ah++[.many m]);rw[i,N1,l c b];refine⟨.inl,λz=>z.elim id λz=>?_⟩;have q:m.any (K58.mis y)=false:=q;have o:=List.any_eq_false.mp q c z;have b:al c=true:=b;unfold K58.mis at o;rw[j,b] at o;exact(l c b).mp (by simpa using o)
   ·show c∈y.rp↔c∈nam [jv] (ah++[.many m]);rw[e];exact d c b
   ·show y.fu c=(fu c||decide (c∈nam [yi] (ah++[.many m])));rw[g];exact n c
 | lend u x v =>
  obtain⟨_,_,_,rfl⟩:=t;have i:nam K3 (ah++[.lend xT x v])=nam K3 ah:=i.trans (M9 _);have e:nam [jv] (ah++[.lend xT x v])=nam [jv] ah:=e.trans (M9 _);have g:nam [yi] (ah++[.lend xT x v])=nam [yi] ah:=g.trans (M9 _);refine⟨j,λc b=>?_,λc b=>?_,λc=>?_⟩
  ·show c∈y.sv↔c∈nam K3 (ah++[.lend xT x v]);rw[i];exact l c b
  ·show c∈y.rp↔c∈nam [jv] (ah++[.lend xT x v]);rw[e];exact d c b
  ·show y.fu c=(fu c||decide (c∈nam [yi] (ah++[.lend xT x v])));rw[g];exact n c
noncomputable def stG(al fu:WN->Bool):List Rl->List Rl->List Nat
 | _,[]=>[]
 | ah,r::rs=>(bif nd (lSy al fu ah) r then [ah.length] else [])++stG al fu (ah++[r]) rs
theorem jhg{al fu:WN->Bool}{kl:Int}:∀{rs:List Rl}{ah:List Rl}{y:Sy},(∀ r∈rs,Ky (nC p) (nP p) r)->Eqv p y (lSy al fu ah) ->
  (run p R kl rs ah.length y).1=(stG al fu ah rs).map (λ(k:Nat)=>stp kl (k:Int) (ob p R (lSy al fu ((ah++rs).take k))))/\Eqv p (run p R kl rs ah.length y).2 (lSy al fu (ah++rs))
 | [],ah,y,_,h=>⟨rfl,by rw[M9];exact h⟩
 | r::rs,ah,y,d,h=>by
  have e:=jbV h (d r L6);have a:=jhg (al:=al) (fu:=fu) (kl:=kl) (rs:=rs) (ah:=ah++[r]) (λq f=>d q (L5 _ f)) e;rw[N5,List.length_singleton,List.append_assoc,List.singleton_append] at a;have b:=h.nd r;have c:ob p R y=ob p R (lSy al fu ((ah++r::rs).take ah.length)):=by rw[List.take_left'];exact h.ob;rfl
  rw[run,stG];cases q:nd y r with
  | true =>
   rw[q] at a b;rw[<- b,cond_true,cond_true,List.singleton_append,L4];exact⟨by rw[<- c];exact congrArg _ a.1,a.2⟩
  | false =>
   rw[q] at a b;rw[<- b,cond_false,cond_false,X7];exact a
theorem jg9  : ∀{rs:List Rl}{ah:List Rl},(∀ r∈rs,Ky (nC p) (nP p) r)->Eqv p y (lSy al fu ah)->fst y rs ah.length=(stG al fu ah rs).head?
 | [],ah,_,h=>rfl
 | r::rs,ah,b,h=>by
  have c:=jbV h (b r L6);have a:=h.nd r;rw[fst,stG];cases q:nd y r with
  | true=>rw[q] at a;rw[<- a];rfl
  | false =>
   rw[q] at a c;have d:=jg9 (al:=al) (fu:=fu) (rs:=rs) (ah:=ah++[r]) (λq e=>b q (L5 _ e)) c;rw[N5,List.length_singleton] at d;rw[<- a,cond_false,cond_false,X7];exact d
theorem jl2(al fu:WN->Bool):Eqv p ⟨al,fu,[],[]⟩ (lSy al fu []):=⟨rfl,λ_ _=>Iff.rfl,λ_ _=>Iff.rfl,λq=>by show fu q=(fu q||decide (q∈([]:List WN)));simp⟩
noncomputable def jm8(p:Pl)(R:List Qt)(tn:Bool)(kl:Int)(rs:List Rl)(al fu:WN->Bool):List D :=
 (bif tn then(stG al fu [] rs++[rs.length]).take 1 else stG al fu [] rs++[rs.length]).map λ(k:Nat)=>stp kl (k:Int) (ob p R (lSy al fu (bif tn then [] else rs.take k)))
theorem jk0{tn:Bool}{kl:Int}{rs:List Rl}(b:∀ r∈rs,Ky (nC p) (nP p) r)(al fu:WN->Bool):stW p R tn kl rs ⟨al,fu,[],[]⟩=jm8 p R tn kl rs al fu:=by
 unfold stW jm8;cases tn with
 | true =>
  have e:=jg9 (p:=p) (rs:=rs) (ah:=[]) b (jl2 al fu);rw[List.length_nil] at e;rw[cond_true,cond_true,e,(jl2 (p:=p) al fu).ob];cases stG al fu [] rs with
  | nil=>rfl
  | cons a t=>rfl
 | false =>
  have e:=jhg (p:=p) (R:=R) (kl:=kl) (rs:=rs) (ah:=[]) b (jl2 al fu);rw[List.length_nil,X7] at e;rw[cond_false,cond_false,e.1,e.2.ob,N6];simp only[cond_false,L4,List.map_nil,List.take_length]
end
section
variable {p:Pl}{al fu:WN->Bool}{o:Ol}{fi:List Rl}
noncomputable def grQ(p:Pl):List Qt:=(gr p).1.map λn=>(n,(gr p).2 n)
theorem zO  : ∀{M:List WN}{o0:Option D},(∀ n∈M,n∈N)->jM (jk [] 0) qT (qv (jc (pF (pV 0)) (jc (pF (p2 yS (pV 1) (pV 0))) pN))) (M.map D.str) [o0,some (dct b N f)]=some ((M.map λn=>(n,f n)).map jG)
 | [],_,_=>rfl
 | n::M,o0,h=>by
  have e:=zO (N:=N) (f:=f) (b:=b) (M:=M) (o0:=some (.str n)) λg a=>h g (L5 _ a);have a:jk [] 0 (.str n) [o0,some (dct b N f)]=some [some (.str n),some (dct b N f)]:=rfl;have i:=ui (o:=b) (f:=f) (h n L6);rw[L4,jJ,a,L3,L4,L4];generalize(M.map λn=>(n,f n)).map jG=NN at *;generalize dct b N f=A at *;simp[e,i,jG,jg]
theorem uQ(h:PlOk p):qp [jz false p]=some (.lst true ((grQ p).map jG)):=by
 have k:=jeg h;have l2:=h.l2;obtain⟨a,d,g,e,_⟩:=VC (A:=p.L) (a0:=some (jz false p)) (L:=p.L) (S:=([],λ_=>0)) (m:=0) (o2:=none) (o3:=none) (o4:=none) (by omega) (λx o=>o) ⟨List.nodup_nil,M8 _,λc q=>(nomatch q)⟩;have r:=P5 false p;have j:=Vw p.L;have s:=jl _ j;have t:=zO (N:=(gr p).1) (f:=(gr p).2) (b:=false) (M:=(gr p).1) (o0:=none) λn u=>u;have fd:=wN (gr p).1 (gr p).2;have v:=jb8 (gr p).1;have C:=k.l;have w:lim ((gr p).1.map D.str).length=true:=jg (by rw[L0];omega);have E:qH=yJ:=rfl;have y:kO (gT 3 (gC (jk [] 2) (gC (jk [] 3) (gC (jk [] 4) gN)))) qH (p.L.map Vf) [some (jz false p),some (.dK true [] []),none,none,none]=some (.nx [some (jz false p),some (dct true (gr p).1 (gr p).2),a,d,g]):=e;have z:YT 1 [some (jz false p),some (dct true (gr p).1 (gr p).2),a,d,g]=some ((gr p).1.map D.str,[some (jz false p),some (dct false (gr p).1 (gr p).2),a,d,g]):=by
  show(bif frzs ((gr p).1.map λn=>D.int ((gr p).2 n)) then some (((gr p).1.map KA.str).map kaD,_) else none)=_;rw[fd,v];rfl
 show _=some (D.lst true (((gr p).1.map λn=>(n,(gr p).2 n)).map jG));generalize((gr p).1.map λn=>(n,(gr p).2 n)).map jG=QQ at *;generalize(gr p).1.map D.str=NN at *;generalize dct true (gr p).1 (gr p).2=A,dct false (gr p).1 (gr p).2=B,jz false p=PP,p.L.map Vf=LL at *;have i:jM (jk [] 0) qT (qv (jc (pF (pV 0)) (jc (pF (p2 yS (pV 1) (pV 0))) pN))) NN (jE [none,some 1] [some PP,some B,a,d,g])=some QQ:=t;simp[qp,jX,JQ,r,j,s,y,z,w,i,-jgc]
theorem QZ{n:WN}{T:List WN}{b b':Bool}{row:D}(a:jn row (.int 0)=some (.str n)):∀{G:List Gd}{o0 o1:Option D},(∀ g∈G,g.2∈nC p) ->
  jM (gT 2 (gC (jk [] 0) (gC (jk [] 1) gN))) (VT (js (p2 kS (pV 0) (p2 jn (pV 2) (pC (.int 0))))) (VT (js (p2 yS (pV 3) (pV 1))) (js (p2 (J6 true) (pV 1) (pV 4))))) (pF (pV 1)) (G.map VU) [o0,o1,some row,some (bd b (nC p) al),some (.lst b' (T.map D.str))]=some ((G.filter λg=>g.1==n&&(al g.2&&!decide (g.2∈T))).map λg=>D.str g.2)
 | [],_,_,_=>rfl
 | g::G,o0,o1,h=>by
  have e:=QZ (T:=T) (b:=b) (b':=b') a (G:=G) (o0:=some (.str g.1)) (o1:=some (.str g.2)) λx c=>h x (L5 _ c);have d:(gT 2 (gC (jk [] 0) (gC (jk [] 1) gN))) (VU g) [o0,o1,some row,some (bd b (nC p) al),some (.lst b' (T.map D.str))]=some [some (.str g.1),some (.str g.2),some row,some (bd b (nC p) al),some (.lst b' (T.map D.str))]:=rfl;have i:=JB (o:=b) (f:=λn=>D.bl (al n)) (h g L6);have j:=kZ true b' g.2 T;rw[L4,jJ,d,L3,List.filter_cons];have q:(VT (js (p2 kS (pV 0) (p2 jn (pV 2) (pC (.int 0))))) (VT (js (p2 yS (pV 3) (pV 1))) (js (p2 (J6 true) (pV 1) (pV 4))))) [some (.str g.1),some (.str g.2),some row,some (bd b (nC p) al),some (.lst b' (T.map D.str))]=some (g.1==n&&(al g.2&&!decide (g.2∈T))):=by
   unfold bd at *;generalize gd b (nC p) (λn=>D.bl (al n))=A,T.map D.str=TT at *;cases q1:g.1==n with
   | false=>simp[a,q1]
   | true=>cases q2:al g.2<;>simp[a,q1,i,q2,j]
  rw[q,L3,e];cases(g.1==n&&(al g.2&&!decide (g.2∈T)))<;>rfl
theorem x9(y:Sy)(n:WN):∀ G:List Gd,decide (((G.filter λg=>g.1==n&&(y.al g.2&&!decide (g.2∈y.sv))).length:Int)=0) = !decide (n∈drn G y)
 | []=>rfl
 | g::G=>by
  have b:=x9 y n G;have e:drn (g::G) y=if mis y g.2=true then g.1::drn G y else drn G y:=by
   unfold drn;rw[List.filter_cons];split<;>rfl
  rw[List.filter_cons,e];show decide (((if(g.1==n&&mis y g.2)=true then _ else _:List Gd).length:Int)=0)=_;cases q:mis y g.2 with
  | false=>rw[Bool.and_false,if_neg (by exact M3),if_neg (by exact M3)];exact b
  | true =>
   rw[Bool.and_true,if_pos rfl];by_cases m:g.1=n
   ·have a:(g.1==n)=true:=by simp[m]
    rw[a,if_pos rfl,M0];have:decide (n∈g.1::drn G y)=true:=X2 (by rw[m];exact L6);rw[this];exact X4 (by omega)
   ·have a:(g.1==n)=false:=U3.mpr m;rw[a,if_neg (by exact M3)];have:(n∈g.1::drn G y)↔n∈drn G y:=⟨λz=>(M4.mp z).elim (λz=>absurd z.symm m) id,λz=>L5 _ z⟩;rw[decide_eq_decide.mpr this];exact b
noncomputable abbrev fb(p:Pl)(o:Ol)(fi:List Rl)(al:WN->Bool)(o5 o6 o7 o8 o9 o10 o11 o12 o13:Option D):Rh:=[some (jz false p),some (.lst false ((grQ p).map jG)),some (yH p o),some (.lst false (fi.map jy)),some (bd false (nC p) al),o5,o6,o7,o8,o9,o10,o11,o12,o13]
theorem jnn  (h:y=lSy al o.fu fi) {i:Nat}(j:q.1∈nC p) (hi:(grQ p)[i]?=some (q.1,(gr p).2 q.1)) {acc:List Qt}(s:acc.length<=100) {o9 o10 o11 o12 o13:Option D} :
  vC (fb p o fi al (some (.lst true ((nam K3 fi).map D.str))) (some (.lst true (acc.map jG))) (some (.int (i:Int))) (some (jG q)) o9 o10 o11 o12 o13) =
   some (.nx (fb p o fi al (some (.lst true ((nam K3 fi).map D.str))) (some (.lst true ((acc++[jho p y q]).map jG))) (some (.int (i:Int))) (some (jG q)) (some (.bl (mis y q.1))) o10 o11 o12 o13)):=by
 have b:=JB (o:=false) (f:=λn=>D.bl (al n)) j;have g:=kZ true true q.1 (nam K3 fi);have c:jn (jG q) (.int 0)=some (.str q.1):=rfl;have d:jn (jG q) (.int 1)=some (.int q.2):=rfl;have t:i < (grQ p).length:=(L8.mp hi).1;have k:jn (.lst false ((grQ p).map jG)) (.int (i:Int))=some (jG (q.1,(gr p).2 q.1)):=by
  rw[jfq (by omega) (by rw[L0];omega),N9,List.getElem?_map,hi];rfl
 have e:jn (jG (q.1,(gr p).2 q.1)) (.int 1)=some (.int ((gr p).2 q.1)):=rfl;have l:jjF [.int (q.2+1),.int ((gr p).2 q.1)]=some (.int (mn (q.2+1) ((gr p).2 q.1))):=rfl;have a:lim (acc.map jG).length=true:=jg (by rw[L0];omega);have r:mis y q.1=(al q.1&&!decide (q.1∈nam K3 fi)):=by rw[h];rfl
 unfold jho;rw[r,N6];show _=some (Out.nx [_,_,_,_,_,_,some (.lst true (acc.map jG++[.tup [.str q.1,.int (if(al q.1&&!decide (q.1∈nam K3 fi))=true then mn (q.2+1) ((gr p).2 q.1) else 0)]])),_,_,_,_,_,_,_]);unfold fb bd at *;generalize gd false (nC p) (λn=>D.bl (al n))=A at *;generalize(nam K3 fi).map D.str=NN at *;generalize jG (q.1,(gr p).2 q.1)=Y2,jG q=Y,acc.map jG=AA at *;generalize(grQ p).map jG=GG at *;generalize jz false p=EP,yH p o=EO,fi.map jy=FF at *;cases q1:al q.1 with
 | false=>simp[vC,c,d,b,q1,a,jg]
 | true =>
  by_cases m:q.1∈nam K3 fi
  ·simp[vC,c,d,b,q1,g,m,a,jg]
  ·simp[vC,c,d,b,q1,g,m,k,e,l,a,jg,-jgZ]
end
section
variable {p:Pl}{al:WN->Bool}{o:Ol}{fi:List Rl}
noncomputable def fuB(p:Pl)(y:Sy)(n:WN):D:=.bl (y.fu n&&!decide (n∈drn p.G y))
theorem jni  (k:y=lSy al o.fu fi) (h:PlOk p) (I:∀ r∈fi,Ky (nC p) (nP p) r) (l:fi.length<=20) {i:Nat}(hi:p.P[i]?=some q) {acc:List D}(M:acc.length<=100) {o6 o9 o10 o11 o13:Option D} :
  ∃ r13,vA (fb p o fi al (some (.lst true ((nam K3 fi).map D.str))) o6 (some (.int (i:Int))) (some (jG q)) o9 o10 o11 (some (.lst true acc)) o13) =
   some (.nx (fb p o fi al (some (.lst true ((nam K3 fi).map D.str))) o6 (some (.int (i:Int))) (some (jG q)) o9 o10 o11 (some (.lst true (acc++[fuB p y q.1]))) r13)):=by
 have s:jn (jG q) (.int 0)=some (.str q.1):=rfl;have J:=QZ (p:=p) (al:=al) (T:=nam K3 fi) (b:=false) (b':=true) s (G:=p.G) (o0:=none) (o1:=none) λg K=>(h.g g K).2.2;have t:=x9 y q.1 p.G;have g6:=h.g6;have u:=VL p.G;have v:lim (p.G.map VU).length=true:=jg (by rw[L0];omega);have w:=P6 p;have z:=J2 p o;have N:i < p.P.length:=(L8.mp hi).1;have B:jn (.tup ((nP p).map λn=>D.bl (o.fu n))) (.int (i:Int))=some (.bl (o.fu q.1)):=by
  rw[jbD (by omega) (by rw[L0,L0];omega),N9,List.getElem?_map,List.getElem?_map,hi];rfl
 have e:=kZ false true q.1 (nam [yi] fi);have a:lim acc.length=true:=jg (by omega);have C:((p.G.filter λg=>g.1==q.1&&(al g.2&&!decide (g.2∈nam K3 fi))).map λg=>D.str g.2).length=(p.G.filter λg=>g.1==q.1&&(al g.2&&!decide (g.2∈nam K3 fi))).length:=L0 ..;have L:frzs ((p.G.filter λg=>g.1==q.1&&(al g.2&&!decide (g.2∈nam K3 fi))).map λg=>D.str g.2)=true:=vF λd hd=>by obtain⟨x,_,rfl⟩:=M5.mp hd;rfl
 have f:decide (((p.G.filter λg=>g.1==q.1&&(al g.2&&!decide (g.2∈nam K3 fi))).length:Int)=0) = !decide (q.1∈drn p.G y):=by rw[k] at t ⊢;exact t
 have H:fuB p y q.1=.bl ((o.fu q.1||decide (q.1∈nam [yi] fi))&&decide (((p.G.filter λg=>g.1==q.1&&(al g.2&&!decide (g.2∈nam K3 fi))).length:Int)=0)):=by
  rw[f,k];rfl
 have j:∀ T:D,jW yw (jc (pV 3) (jc (qX (jc (pC (.str [102,105,108,108])) pN)) pN)) (fb p o fi al (some (.lst true ((nam K3 fi).map D.str))) o6 (some (.int (i:Int))) (some (jG q)) o9 o10 o11 (some (.lst true acc)) (some T))=some (.lst true ((nam [yi] fi).map D.str)):=λT=>qd (p:=p) [yi] I l rfl (by simp[jg]);refine⟨some (.lst true ((p.G.filter λg=>g.1==q.1&&(al g.2&&!decide (g.2∈nam K3 fi))).map λg=>D.str g.2)),?_⟩;rw[H];have j:=j (.lst true ((p.G.filter λg=>g.1==q.1&&(al g.2&&!decide (g.2∈nam K3 fi))).map λg=>D.str g.2));clear t f H k;unfold fb bd at *;generalize(p.G.filter λg=>g.1==q.1&&(al g.2&&!decide (g.2∈nam K3 fi))).length=ln at *;generalize((p.G.filter λg=>g.1==q.1&&(al g.2&&!decide (g.2∈nam K3 fi))).map λg=>D.str g.2)=TT at *;generalize((nP p).map λn=>D.bl (o.fu n))=BF at *;generalize gd false (nC p) (λn=>D.bl (al n))=A at *;generalize(nam K3 fi).map D.str=NN at *;generalize(nam [yi] fi).map D.str=NF at *;generalize jG q=Y at *;generalize(grQ p).map jG=GG at *;generalize jz false p=EP,yH p o=EO,fi.map jy=FF,p.G.map VU=XG at *;have c:jM (gT 2 (gC (jk [] 0) (gC (jk [] 1) gN))) (VT (js (p2 kS (pV 0) (p2 jn (pV 2) (pC (.int 0))))) (VT (js (p2 yS (pV 3) (pV 1))) (js (p2 (J6 true) (pV 1) (pV 4))))) (pF (pV 1)) XG (jE [none,none,some 8,some 4,some 5] [some EP,some (.lst false GG),some EO,some (.lst false FF),some A,some (.lst true NN),o6,some (.int (i:Int)),some Y,o9,o10,o11,some (.lst true acc),o13])=some TT:=J;have E:kS (.int (ln:Int)) (.int 0)=some (.bl (decide ((ln:Int)=0))):=by
  show some (D.bl ((ln:Int)==0))=_;congr 2
 have F:pCB ky (jc (pV 13) pN) [some EP,some (.lst false GG),some EO,some (.lst false FF),some A,some (.lst true NN),o6,some (.int (i:Int)),some Y,o9,o10,o11,some (.lst true acc),some (.lst true TT)]=some (.int (ln:Int)):=by simp[C]
 generalize decide ((ln:Int)=0)=dz at *;cases q1:o.fu q.1 with
 | true=>simp[vA,w,u,v,c,z,B,q1,F,E,a,-YF,-wP]
 | false =>
  by_cases m:q.1∈nam [yi] fi
  ·simp[vA,w,u,v,c,z,B,q1,F,E,a,j,s,e,m,-YF,-wP]
  ·simp[vA,w,u,v,c,z,B,q1,F,E,a,j,s,e,m,-YF,-wP]
theorem xD{T:List WN}{b b':Bool}:∀{C:List Cl}{o0:Option D},(∀ c∈C,c.1∈nC p)->jM (jk [] 0) qT (VX (p2 yS (pV 1) (p2 jn (pV 0) (pC (.int 0)))) (p2 (J6 true) (p2 jn (pV 0) (pC (.int 0))) (pV 2))) (C.map JY) [o0,some (bd b (nC p) al),some (.lst b' (T.map D.str))]=some ((C.map (·.1)).map λn=>D.bl (al n&&!decide (n∈T)))
 | [],_,_=>rfl
 | c::C,o0,h=>by
  have e:=xD (T:=T) (b:=b) (b':=b') (C:=C) (o0:=some (JY c)) λg a=>h g (L5 _ a);have a:jk [] 0 (JY c) [o0,some (bd b (nC p) al),some (.lst b' (T.map D.str))]=some [some (JY c),some (bd b (nC p) al),some (.lst b' (T.map D.str))]:=rfl;have d:=JB (o:=b) (f:=λn=>D.bl (al n)) (h c L6);have i:jn (JY c) (.int 0)=some (.str c.1):=rfl;have j:=kZ true b' c.1 T;rw[L4,jJ,a,L3,L4,L4];generalize((C.map (·.1)).map λn=>D.bl (al n&&!decide (n∈T)))=NN at *;unfold bd at *;generalize gd b (nC p) (λn=>D.bl (al n))=A,T.map D.str=TT,JY c=Y at *;cases q:al c.1<;>simp[i,d,j,e,q]
theorem jcr(h:PlOk p)(B:OlOk p o)(E:∀ r∈fi,Ky (nC p) (nP p) r)(k:fi.length<=20) :
  Jx [jz false p,.lst false ((grQ p).map jG),yH p o,.lst false (fi.map jy),bd false (nC p) al]=some (ob p o.R (lSy al o.fu fi)):=by
 obtain⟨y,w⟩:∃ y,y=lSy al o.fu fi:=⟨_,rfl⟩;obtain⟨rn,rl⟩:=jaI h B;have c6:=h.c;have p6:=h.p6;have F:=jeg h;have H:(grQ p).map (·.1)=o.R.map (·.1):=by
  rw[B.r];unfold grQ;rw[U2];exact List.map_id _
 obtain⟨ρ1,Z,s,u,v,a,rfl,t⟩:=vj (G:=gT 2 (gC (jk [] 7) (gC (jk [] 8) gN))) (f:=vC) (xs:=yA 0 (o.R.map jG)) (λi ρ=>∃(acc:List Qt) (u v a:Option D),ρ=fb p o fi al (some (.lst true ((nam K3 fi).map D.str))) (some (.lst true (acc.map jG))) u v a none none none none/\acc=(o.R.take i).map (jho p y)) (by
  rintro i x ρ I ⟨acc,u,v,a,rfl,rfl⟩;obtain⟨d,hd,rfl⟩:=kQ 0 _ i x I;rw[List.getElem?_map] at hd;cases hz:o.R[i]? with
  | none=>rw[hz] at hd;cases hd
  | some q =>
   rw[hz] at hd;cases hd;have hi:i < o.R.length:=(L8.mp hz).1;have J:(grQ p)[i]?=some (q.1,(gr p).2 q.1):=by
    have:=congrArg (λl=>l[i]?) B.r;simp only[List.getElem?_map,hz,Option.map_some] at this;unfold grQ;rw[List.getElem?_map,<- this];rfl
   have K:q.1∈nC p:=by
    obtain⟨l,hl,e⟩:=F.i q.1 (by rw[<- B.r];exact M5.mpr ⟨q,List.mem_of_getElem? hz,rfl⟩);exact e▸(h.l l hl).m
   have b:=jnn (p:=p) (o:=o) (fi:=fi) w K J (acc:=(o.R.take i).map (jho p y)) (by rw[L0,X9];omega) (o9:=a) (o10:=none) (o11:=none) (o12:=none) (o13:=none);refine⟨_,_,?_,.inl b,_,_,_,_,rfl,?_⟩
   ·rw[Nat.zero_add];rfl
   ·rw[List.take_add_one,hz,N6];rfl) (ρ:=fb p o fi al (some (.lst true ((nam K3 fi).map D.str))) (some (.lst true [])) none none none none none none none) ⟨[],none,none,none,rfl,rfl⟩
 rw[ki,L0,List.take_length] at t;have U:=xD (p:=p) (al:=al) (T:=nam [jv] fi) (b:=false) (b':=true) (C:=p.C) (o0:=none) λc hc=>M5.mpr ⟨c,hc,rfl⟩;have V:frzs ((p.C.map (·.1)).map λn=>D.bl (al n&&!decide (n∈nam [jv] fi)))=true:=vE (nC p) λn=>al n&&!decide (n∈nam [jv] fi);obtain⟨ρ2,e2,W,L,M,g,rfl,j⟩:=vj (G:=gT 2 (gC (jk [] 7) (gC (jk [] 8) gN))) (f:=vA) (xs:=yA 0 (p.P.map jG)) (λi ρ=>∃(acc:List D) (L M g:Option D),ρ=fb p o fi al (some (.lst true ((nam K3 fi).map D.str))) (some (.lst true (s.map jG))) L M a (some (.lst true ((nam [jv] fi).map D.str))) (some (.tup (obA p y))) (some (.lst true acc)) g/\acc=(p.P.take i).map λq=>fuB p y q.1) (by
  rintro i x ρ I ⟨acc,L,M,g,rfl,rfl⟩;obtain⟨d,hd,rfl⟩:=kQ 0 _ i x I;rw[List.getElem?_map] at hd;cases hz:p.P[i]? with
  | none=>rw[hz] at hd;cases hd
  | some q =>
   rw[hz] at hd;cases hd;obtain⟨s13,b⟩:=jni (p:=p) (o:=o) (fi:=fi) w h E k hz (acc:=(p.P.take i).map λq=>fuB p y q.1) (by rw[L0,X9];omega) (o6:=some (.lst true (s.map jG))) (o9:=a) (o10:=some (.lst true ((nam [jv] fi).map D.str))) (o11:=some (.tup (obA p y))) (o13:=g);refine⟨_,_,?_,.inl b,_,_,_,_,rfl,?_⟩
   ·rw[Nat.zero_add];rfl
   ·rw[List.take_add_one,hz,N6];rfl) (ρ:=fb p o fi al (some (.lst true ((nam K3 fi).map D.str))) (some (.lst true (s.map jG))) u v a (some (.lst true ((nam [jv] fi).map D.str))) (some (.tup (obA p y))) (some (.lst true [])) none) ⟨[],_,_,_,rfl,rfl⟩
 rw[ki,L0,List.take_length] at j;have c1:=qd (p:=p) K3 E k (ρ:=fb p o fi al none none none none none none none none none) (pa:=pV 3) (pk:=qX (jc (pC (.str [112,97,121])) (jc (pC (.str [115,104,97,114,101])) (jc (pC (.str [114,101,112,97,121])) pN)))) rfl (by simp[jg]);have c2:=qd (p:=p) [jv] E k (ρ:=fb p o fi al (some (.lst true ((nam K3 fi).map D.str))) (some (.lst true (s.map jG))) u v a none none none none) (pa:=pV 3) (pk:=qX (jc (pC (.str [114,101,112,97,121])) pN)) rfl (by simp[jg]);have j0:=J0 p o;have j1:=P1 false p;have j2:=P2 false p;have N:=jV o.R;have zR:=jl _ N;have X:=jV p.P;have zP:=jl _ X;have fC:=VN p.C;have lC:lim (p.C.map JY).length=true:=jg (by rw[L0];omega);have O:jgv [.tup (o.R.map jG)]=some (yA 0 (o.R.map jG)):=by
  show(bif frzs (o.R.map jG) then some (yA 0 (o.R.map jG)) else none)=_;rw[N];rfl
 have Q:V0 [.lst false (p.P.map jG)]=some (yA 0 (p.P.map jG)):=by
  show some (yA 0 (fzs (p.P.map jG)))=_;rw[zP]
 have f1:=jV s;have f2:frzs W=true:=by rw[j];exact vF λd hd=>by obtain⟨x,_,rfl⟩:=M5.mp hd;rfl
 have Y:ob p o.R (lSy al o.fu fi)=.tup [.tup (s.map jG),.tup (obA p y),.tup W]:=by
  rw[<- w,t,j];unfold ob obR obF;rw[U2 (l:=p.P)];rfl
 have z:((p.C.map (·.1)).map λn=>D.bl (al n&&!decide (n∈nam [jv] fi)))=obA p y:=by rw[w];rfl
 rw[z] at U V;rw[Y];clear t j Y z w H;unfold fb at *;generalize obA p y=OA,s.map jG=R1,o.R.map jG=RR,p.P.map jG=PP,p.C.map JY=CC,bd false (nC p) al=A at *;generalize(nam K3 fi).map D.str=N3 at *;generalize(nam [jv] fi).map D.str=NR at *;generalize(grQ p).map jG=GG at *;generalize jz false p=EP,yH p o=EO,fi.map jy=FF at *;have S:jM (jk [] 0) qT (VX (p2 yS (pV 1) (p2 jn (pV 0) (pC (.int 0)))) (p2 (J6 true) (p2 jn (pV 0) (pC (.int 0))) (pV 2))) CC (jE [none,some 4,some 10] [some EP,some (.lst false GG),some EO,some (.lst false FF),some A,some (.lst true N3),some (.lst true R1),u,v,a,some (.lst true NR),none,none,none])=some OA:=U;simp[Jx,jX,Y5,c1,c2,j0,N,O,Z,j1,fC,lC,S,V,j2,X,Q,e2,f1,f2,jg,-YF]
end
theorem xh{N:List WN}{g:WN->Bool}{c:Int}{A:List D}(h:jn a (.int c)=some (.lst false A))(j:jn b (.int c)=some (.tup (N.map λn=>.bl (g n))))(m:∀(i:Nat) (n:WN),N[i]?=some n->∃ d,A[i]?=some d/\jn d (.int 0)=some (.str n))(p:A.length=N.length) :
  ∀{S:List WN}{k:Nat}{o0:Option D},N.drop k=S->k<=N.length ->
   jM (jk [] 0) qT (qv (jc (pF (p2 jn (p2 jn (p2 jn (pV 1) (pC (.int c))) (pV 0)) (pC (.int 0)))) (jc (pF (p2 jn (p2 jn (pV 2) (pC (.int c))) (pV 0))) pN))) (Jn (k:Int) S.length) [o0,some a,some b]=some (S.map λn=>.tup [.str n,.bl (g n)])
 | [],k,o0,_,_=>rfl
 | n::S,k,o0,hd,x=>by
  have r:k < N.length:=by
   rcases Nat.lt_or_ge k N.length with q | q
   ·exact q
   ·rw[List.drop_eq_nil_of_le q] at hd;cases hd
  have o:N[k]?=some n:=by
   have:=congrArg (λl=>l[0]?) hd;simpa [List.getElem?_drop] using this
  have f:N.drop (k+1)=S:=by
   have:=congrArg (λl=>l.drop 1) hd;simpa [List.drop_drop] using this
  obtain⟨d,s,t⟩:=m k n o;have e:=xh (N:=N) (g:=g) h j m p (S:=S) (k:=k+1) (o0:=some (.int (k:Int))) f (by omega);have x1:jn (.lst false A) (.int (k:Int))=some d:=by rw[jfq (by omega) (by omega),N9,s]
  have u:jn (.tup (N.map λn=>D.bl (g n))) (.int (k:Int))=some (.bl (g n)):=by rw[jbD (by omega) (by rw[L0];omega),N9,List.getElem?_map,o];rfl
  have v:Jn (k:Int) (S.length+1)=.int (k:Int)::Jn ((k+1:Nat):Int) S.length:=by
   unfold Jn;rw[List.range_succ_eq_map,L4,U2];refine congr (congrArg _ (by simp)) (List.map_congr_left λi _=>?_);simp only[Function.comp];congr 1
   push_cast
   omega
  have w:jk [] 0 (.int (k:Int)) [o0,some a,some b]=some [some (.int (k:Int)),some a,some b]:=rfl;rw[M0,v,jJ,w,L3,L4];generalize(S.map λn=>D.tup [.str n,.bl (g n)])=SS at *;generalize(N.map λn=>D.bl (g n))=NN at *;generalize Jn ((k+1:Nat):Int) S.length=RG at *;simp[h,j,x1,u,t,e,jg]
theorem QH  (h:N.Nodup) (c:N.length<=1000) (g:WN->Bool)  : zI [.lst b (N.map λn=>.tup [.str n,.bl (g n)])]=some (bd true N g):=by
 have:=wl (o:=b) (l:=N.map λn=>(n,D.bl (g n))) (by rw[U2];exact(List.map_id N).symm▸h) (λq a=>by obtain⟨x,_,rfl⟩:=M5.mp a;rfl) (by rw[L0];omega);rw[U2,U2,U2] at this;exact this
theorem x8(h:PlOk p)  (c:∀ r∈rs,Ky (nC p) (nP p) r) (l:rs.length<=20)  : ∀{S ah:List Rl}{o0:Option D},ah++S=rs ->
  jM (jk [] 0) (js (jW ye (jc (p2 jn (pV 1) (pV 0)) (jc (pSl (pV 1) oN (oS (pV 0))) (jc (pV 2) (jc (pV 3) pN)))))) (pF (pV 0)) (Jn (ah.length:Int) S.length) [o0,some (.lst false (rs.map jy)),some (bd b (nC p) al),some (bd true (nP p) fu)]=some ((stG al fu ah S).map λk=>.int (k:Int))
 | [],ah,o0,_=>rfl
 | r::S,ah,o0,a=>by
  have d:∀ q∈ah,Ky (nC p) (nP p) q:=λq m=>c q (by rw[<- a];exact List.mem_append_left _ m);have f:Ky (nC p) (nP p) r:=c r (by rw[<- a];simp);have j:ah.length+(S.length+1)=rs.length:=by rw[<- a,N5,M0]
  have e:=x8 h c l (b:=b) (al:=al) (fu:=fu) (S:=S) (ah:=ah++[r]) (o0:=some (.int (ah.length:Int))) (by rw[<- a];simp);rw[N5,List.length_singleton] at e;have g:Jn (ah.length:Int) (S.length+1)=.int (ah.length:Int)::Jn ((ah.length+1:Nat):Int) S.length:=by
   unfold Jn;rw[List.range_succ_eq_map,L4,U2];refine congr (congrArg _ (by simp)) (List.map_congr_left λi _=>?_);simp only[Function.comp];congr 1
   push_cast
   omega
  have n:jk [] 0 (.int (ah.length:Int)) [o0,some (.lst false (rs.map jy)),some (bd b (nC p) al),some (bd true (nP p) fu)]=some [some (.int (ah.length:Int)),some (.lst false (rs.map jy)),some (bd b (nC p) al),some (bd true (nP p) fu)]:=rfl;have x1:jn (.lst false (rs.map jy)) (.int (ah.length:Int))=some (jy r):=by
   rw[jfq (by omega) (by rw[L0];omega),N9,List.getElem?_map,<- a,List.getElem?_append_right (M8 _),Nat.sub_self];rfl
  have o:=yW rs;have s:jc3 none (some (ah.length:Int)) (.lst false (rs.map jy))=some (.lst true (ah.map jy)):=by
   rw[jky o,KF _ (by omega),N9,<- List.map_take,<- a,List.take_left' rfl]
  have t:=jdG (p:=p) (al:=al) (fu:=fu) d (by omega) f;have u:=yW ah;have v:=jl _ u;have fr:=K2 r;have w:=qu _ fr;have x:fz (bd b (nC p) al)=bd false (nC p) al:=by show D.dK false _ (fzs _)=_;rw[jl _ (vE _ _)];rfl
  have y:fz (bd true (nP p) fu)=bd false (nP p) fu:=by show D.dK false _ (fzs _)=_;rw[jl _ (vE _ _)];rfl
  have q:js (jW ye (jc (p2 jn (pV 1) (pV 0)) (jc (pSl (pV 1) oN (oS (pV 0))) (jc (pV 2) (jc (pV 3) pN))))) [some (.int (ah.length:Int)),some (.lst false (rs.map jy)),some (bd b (nC p) al),some (bd true (nP p) fu)]=some (nd (lSy al fu ah) r):=by
   generalize bd b (nC p) al=A,bd false (nC p) al=A',bd true (nP p) fu=B,bd false (nP p) fu=B',jy r=Y,ah.map jy=AH,rs.map jy=RS at *;simp[x1,s,v,w,x,y,t]
  rw[M0,g,jJ,n,L3,q,L3,e,stG];cases nd (lSy al fu ah) r<;>rfl
theorem jas:∀{Q:List Qt}{o0 o1:Option D},jM (gT 2 (gC (jk [] 0) (gC (jk [] 1) gN))) qT (pF (pV 1)) (Q.map jG) [o0,o1]=some ((Q.map (·.2)).map D.int)
 | [],_,_=>rfl
 | q::Q,o0,o1=>by
  have e:=jas (Q:=Q) (o0:=some (.str q.1)) (o1:=some (.int q.2));have a:(gT 2 (gC (jk [] 0) (gC (jk [] 1) gN))) (jG q) [o0,o1]=some [some (.str q.1),some (.int q.2)]:=rfl;rw[L4,jJ,a,L3,L4,L4];generalize(Q.map (·.2)).map D.int=QQ at *;simp[e]
theorem jbh{x:Od}(d:x.2.1.length<=1000){ρ:Rh}(a:pV 4 ρ=some (.lst false (x.2.1.map jG)))(b:jE [none,none] ρ=[none,none]) :
  pCB jha (jc (yT (VP (pV 4)) (gT 2 (gC (jk [] 0) (gC (jk [] 1) gN))) qT (pF (pV 1)) [none,none]) pN) ρ=some (.int (jay x.2.1)):=by
 have e:=jas (Q:=x.2.1) (o0:=none) (o1:=none);have c:=jb7 (x.2.1.map (·.2));have f:=jV x.2.1;have l:lim (x.2.1.map jG).length=true:=jg (by rw[L0];omega);unfold jay;generalize x.2.1.map jG=QQ at *;generalize g:(x.2.1.map (·.2)).map D.int=NN at *;simp[a,b,f,l,e,c]
noncomputable abbrev fd(p:Pl)(o:Ol)(x:Od)(o3:Option D)(S:List D)(o10 o11 o12 o13 o14:Option D):Rh:=[some (jz false p),some (.lst false ((grQ p).map jG)),some (yH p o),o3,some (.lst false (x.2.1.map jG)),some (.lst false (x.2.2.map jy)),some (bd true (nC p) o.al),some (bd true (nP p) o.fu),some (.lst true ((die p o).map D.str)),some (.lst true S),o10,o11,o12,o13,o14]
theorem jbL{N T:List WN}{al:WN->Bool}{k:Nat}  : ∀{M:List WN}{o0:Option D},(∀ n∈M,n∈N) ->
  jM (jk [] 0) qT (qv (jc (pF (pV 0)) (jc (VX (p2 yS (pV 1) (pV 0)) (p2 (J6 true) (pV 0) (pSl (pV 2) oN (oS (pV 3))))) pN))) (M.map D.str) [o0,some (bd b N al),some (.lst b' (T.map D.str)),some (.int (k:Int))]=some (M.map λn=>.tup [.str n,.bl (kil al (T.take k) n)])
 | [],_,_=>rfl
 | n::M,o0,h=>by
  have e:=jbL (N:=N) (T:=T) (al:=al) (k:=k) (b:=b) (b':=b') (M:=M) (o0:=some (.str n)) λg a=>h g (L5 _ a);have a:jk [] 0 (.str n) [o0,some (bd b N al),some (.lst b' (T.map D.str)),some (.int (k:Int))]=some [some (.str n),some (bd b N al),some (.lst b' (T.map D.str)),some (.int (k:Int))]:=rfl;have c:=JB (o:=b) (f:=λn=>D.bl (al n)) (h n L6);have sl:=xp b' T none (some (k:Int));rw[KF _ (by omega),N9] at sl;have d:=kZ true true n (T.take k);rw[L4,jJ,a,L3,L4];show _=some (D.tup [.str n,.bl (al n&&!decide (n∈T.take k))]::_);generalize(M.map λn=>D.tup [.str n,.bl (kil al (T.take k) n)])=MM at *;unfold bd at *;generalize gd b N (λn=>D.bl (al n))=A at *;generalize(T.take k).map D.str=TK at *;generalize T.map D.str=TT at *;cases q:al n<;>simp[c,q,sl,d,e,jg]
theorem jeQ{o:Ol}(h:PlOk p)(t:OlOk p o)(d:OrOk (nC p) (nP p) x){kl:Int}{al:WN->Bool}{j:Nat}(E:j<=x.2.2.length){S:List D}(F:S.length<=900){o3 o12 o14:Option D} :
  ∃ r14,qk (fd p o x o3 S (some (.int kl)) (some (bd true (nC p) al)) o12 (some (.int (j:Int))) o14)=some (.nx (fd p o x o3 (S++[stp kl (j:Int) (ob p o.R (lSy al o.fu (bif ten x then [] else x.2.2.take j)))]) (some (.int kl)) (some (bd true (nC p) al)) o12 (some (.int (j:Int))) r14)):=by
 have u:=yW x.2.2;have G:=d.r;have sl:jc3 none (some (j:Int)) (.lst false (x.2.2.map jy))=some (.lst true ((x.2.2.take j).map jy)):=by
  rw[jky u,KF _ (by omega),N9,<- List.map_take]
 have b:=jcr (p:=p) (al:=al) (o:=o) (fi:=bif ten x then [] else x.2.2.take j) h t (λr e=>by cases q:ten x<;>rw[q] at e;exact d.k r (List.mem_of_mem_take e);cases e) (by cases ten x;show(x.2.2.take j).length<=20;rw[X9];omega;show 0<=20;omega);have c:=wU p o.R (lSy al o.fu (bif ten x then [] else x.2.2.take j));have i:fz (bd true (nC p) al)=bd false (nC p) al:=by show D.dK false _ (fzs _)=_;rw[jl _ (vE _ _)];rfl
 have v:=qw p;have l:=qu _ v;have w:=uK p o;have m:=qu _ w;have y:=jV (grQ p);have n:=jl _ y;have a:lim S.length=true:=jg (by omega);have s:x.2.1.length<=1000:=by have:=d.p;omega
 cases q:ten x with
 | true =>
  have f:10<=jay x.2.1:=X5 q;rw[q] at b c;have g:=jbh (x:=x) s (ρ:=fd p o x o3 S (some (.int kl)) (some (bd true (nC p) al)) o12 (some (.int (j:Int))) (some (.lst true ((x.2.2.take j).map jy)))) rfl rfl;refine⟨some (.lst true []),?_⟩;rw[cond_true] at *;rw[List.map_nil] at b;unfold fd stp at *;generalize ob p o.R (lSy al o.fu [])=B,bd false (nC p) al=A',bd true (nC p) al=A,jz false p=EP,yH p o=EO at *;generalize(grQ p).map jG=GG at *;generalize(x.2.2.take j).map jy=TR at *;generalize x.2.2.map jy=RR,x.2.1.map jG=QQ at *;generalize(die p o).map D.str=DD at *;generalize bd true (nC p) o.al=A2,bd true (nP p) o.fu=A3 at *;simp[qk,sl,g,f,b,c,i,l,m,n,a,jg,-wP]
 | false =>
  have f:¬ 10<=jay x.2.1:=of_decide_eq_false q;rw[q] at b c;have g:=jbh (x:=x) s (ρ:=fd p o x o3 S (some (.int kl)) (some (bd true (nC p) al)) o12 (some (.int (j:Int))) (some (.lst true ((x.2.2.take j).map jy)))) rfl rfl;refine⟨some (.lst true ((x.2.2.take j).map jy)),?_⟩;have z:=yW (x.2.2.take j);have C:=jl _ z;rw[cond_false] at *;unfold fd stp at *;generalize ob p o.R (lSy al o.fu (x.2.2.take j))=B,bd false (nC p) al=A',bd true (nC p) al=A,jz false p=EP,yH p o=EO at *;generalize(grQ p).map jG=GG at *;generalize(x.2.2.take j).map jy=TR at *;generalize x.2.2.map jy=RR,x.2.1.map jG=QQ at *;generalize(die p o).map D.str=DD at *;generalize bd true (nC p) o.al=A2,bd true (nP p) o.fu=A3 at *;simp[qk,sl,g,f,b,c,i,l,m,n,C,a,jg,-wP]
theorem jgP  : ∀{rs ah:List Rl},∀ k∈stG al fu ah rs,k < ah.length+rs.length
 | [],ah,k,h=>by cases h
 | r::rs,ah,k,h=>by
  rw[stG] at h;rcases N1.mp h with h | h
  ·cases q:nd (lSy al fu ah) r with
   | true=>rw[q] at h;rw[M7.mp h,M0];omega
   | false=>rw[q] at h;cases h
  ·have:=jgP k h;rw[N5,List.length_singleton] at this;rw[M0];omega
theorem jbv  : ∀{rs ah:List Rl},(stG al fu ah rs).length<=rs.length
 | [],ah=>M8 _
 | r::rs,ah=>by
  rw[stG,N5,M0];have:=jbv (al:=al) (fu:=fu) (rs:=rs) (ah:=ah++[r]);cases nd (lSy al fu ah) r
  ·show 0+_<=_;omega
  ·show 1+_<=_;omega
noncomputable def jcN(x:Od)(al fu:WN->Bool):List Nat:=bif ten x then(stG al fu [] x.2.2++[x.2.2.length]).take 1 else stG al fu [] x.2.2++[x.2.2.length]
theorem jfj  : (∀ k∈jcN x al fu,k<=x.2.2.length)/\(jcN x al fu).length<=x.2.2.length+1:=by
 have b:∀ k∈stG al fu [] x.2.2++[x.2.2.length],k<=x.2.2.length:=λk a=>by
  rcases N1.mp a with a | a
  ·have:=jgP k a;simp at this;omega
  ·rw[M7.mp a];exact M8 _
 have c:=jbv (al:=al) (fu:=fu) (rs:=x.2.2) (ah:=[]);unfold jcN;cases ten x with
 | true=>exact⟨λk a=>b k (List.mem_of_mem_take a),by rw[cond_true,X9,N5,List.length_singleton];omega⟩
 | false=>exact⟨b,by rw[cond_false,N5,List.length_singleton];omega⟩
theorem jcZ{o:Ol}(h:PlOk p)(c:OlOk p o)(g:OrOk (nC p) (nP p) x){kl:Int}{al:WN->Bool}{T:List Nat}(m:∀ k∈T,k<=x.2.2.length)(n:T.length<=100){S:List D}(r:S.length<=500){o3 o13 o14:Option D} :
  ∃ r13 r14,jaH 12 (jk [12] 13) qk (fd p o x o3 S (some (.int kl)) (some (bd true (nC p) al)) (some (.lst true (T.map λ(k:Nat)=>D.int (k:Int)))) o13 o14) =
   some (.nx (fd p o x o3 (S++T.map λ(k:Nat)=>stp kl (k:Int) (ob p o.R (lSy al o.fu (bif ten x then [] else x.2.2.take k)))) (some (.int kl)) (some (bd true (nC p) al)) (some (.lst true (T.map λ(k:Nat)=>D.int (k:Int)))) r13 r14)):=by
 obtain⟨s,e,U,r13,r14,rfl,a⟩:=jds (i:=12) (G:=jk [12] 13) (f:=qk) (o:=true) (l:=T.map λ(k:Nat)=>D.int (k:Int)) (λi ρ=>∃(U:List D) (r13 r14:Option D),ρ=fd p o x o3 U (some (.int kl)) (some (bd true (nC p) al)) (some (.lst true (T.map λ(k:Nat)=>D.int (k:Int)))) r13 r14/\U=S++(T.take i).map λ(k:Nat)=>stp kl (k:Int) (ob p o.R (lSy al o.fu (bif ten x then [] else x.2.2.take k)))) (by
  rintro j ρ ⟨U,r13,r14,rfl,_⟩;rfl) (by
  rintro i d ρ hd ⟨U,r13,r14,rfl,rfl⟩;rw[List.getElem?_map] at hd;cases hz:T[i]? with
  | none=>rw[hz] at hd;cases hd
  | some k =>
   rw[hz] at hd;cases hd;have t:i < T.length:=(L8.mp hz).1;refine⟨rfl,?_⟩;obtain⟨q,b⟩:=jeQ h c g (kl:=kl) (al:=al) (j:=k) (m k (List.mem_of_getElem? hz)) (S:=S++(T.take i).map λ(k:Nat)=>stp kl (k:Int) (ob p o.R (lSy al o.fu (bif ten x then [] else x.2.2.take k)))) (by rw[N5,L0,X9];omega) (o3:=o3) (o12:=some (.lst true (T.map λ(k:Nat)=>D.int (k:Int)))) (o14:=r14);refine⟨_,_,rfl,.inl b,_,_,_,rfl,?_⟩;rw[List.take_add_one,hz,N6,<- List.append_assoc];rfl) (ρ:=fd p o x o3 S (some (.int kl)) (some (bd true (nC p) al)) (some (.lst true (T.map λ(k:Nat)=>D.int (k:Int)))) o13 o14) ⟨S,o13,o14,rfl,by simp⟩
 rw[L0,List.take_length] at a;exact⟨r13,r14,by rw[<- a];exact e⟩
theorem jea(N:List WN)(g:WN->Bool):jgD (N.map λn=>.tup [.str n,.bl (g n)])=true:=by
 induction N with
 | nil=>rfl
 | cons n N a=>rw[L4,jgD,a];rfl
theorem jf9(h:PlOk p)(u:OlOk p o)(a:OrOk (nC p) (nP p) x){k:Nat}{S:List D}(v:S.length<=500){o3 o11 o12 o13 o14:Option D} :
  ∃ r11 r12 r13 r14,Yx (fd p o x o3 S (some (.int (k:Int))) o11 o12 o13 o14)=some (.nx (fd p o x o3 (S++stW p o.R (ten x) (k:Int) x.2.2 (sy0 p o k)) (some (.int (k:Int))) r11 r12 r13 r14)):=by
 have c6:=h.c;have U:=a.r;have w:x.2.1.length<=1000:=by have:=a.p;omega
 have y:=jb8 (nC p);have g:=vE (nC p) o.al;obtain⟨al,e⟩:∃ al,al=kil o.al ((die p o).take k):=⟨_,rfl⟩;have z:Q6 6 (jk [] 0) qT (qv (jc (pF (pV 0)) (jc (VX (p2 yS (pV 1) (pV 0)) (p2 (J6 true) (pV 0) (pSl (pV 2) oN (oS (pV 3))))) pN))) [none,some 6,some 8,some 10] (fd p o x o3 S (some (.int (k:Int))) o11 o12 o13 o14)=some (.lst true ((nC p).map λn=>.tup [.str n,.bl (al n)]),fd p o x o3 S (some (.int (k:Int))) o11 o12 o13 o14):=by
  have B:YT 6 (fd p o x o3 S (some (.int (k:Int))) o11 o12 o13 o14)=some ((nC p).map D.str,(fd p o x o3 S (some (.int (k:Int))) o11 o12 o13 o14).set 6 (some (bd false (nC p) o.al))):=by
   show(bif frzs ((nC p).map λn=>D.bl (o.al n)) then some (((nC p).map KA.str).map kaD,_) else none)=_;rw[g,y];rfl
  have C:=jbL (N:=nC p) (T:=die p o) (al:=o.al) (k:=k) (b:=false) (b':=true) (M:=nC p) (o0:=none) λn E=>E;rw[jgI,B,L3,jg (by rw[L0,L0];omega),cond_true];have i:jM (jk [] 0) qT (qv (jc (pF (pV 0)) (jc (VX (p2 yS (pV 1) (pV 0)) (p2 (J6 true) (pV 0) (pSl (pV 2) oN (oS (pV 3))))) pN))) ((nC p).map D.str) (jE [none,some 6,some 8,some 10] ((fd p o x o3 S (some (.int (k:Int))) o11 o12 o13 o14).set 6 (some (bd false (nC p) o.al))))=some ((nC p).map λn=>.tup [.str n,.bl (kil o.al ((die p o).take k) n)]):=C;rw[i,L3,<- e,jea];rfl
 have F:=QH (b:=true) h.cN (by rw[L0];omega) al;have G:yz (dCB zI (uR (Q6 6 (jk [] 0) qT (qv (jc (pF (pV 0)) (jc (VX (p2 yS (pV 1) (pV 0)) (p2 (J6 true) (pV 0) (pSl (pV 2) oN (oS (pV 3))))) pN))) [none,some 6,some 8,some 10]) jjJ)) (jk [] 11) (fd p o x o3 S (some (.int (k:Int))) o11 o12 o13 o14)=some (.nx (fd p o x o3 S (some (.int (k:Int))) (some (bd true (nC p) al)) o12 o13 o14)):=by
  have:dCB zI (uR (Q6 6 (jk [] 0) qT (qv (jc (pF (pV 0)) (jc (VX (p2 yS (pV 1) (pV 0)) (p2 (J6 true) (pV 0) (pSl (pV 2) oN (oS (pV 3))))) pN))) [none,some 6,some 8,some 10]) jjJ) (fd p o x o3 S (some (.int (k:Int))) o11 o12 o13 o14)=some (bd true (nC p) al,fd p o x o3 S (some (.int (k:Int))) o11 o12 o13 o14):=by
   unfold dCB;rw[jh6,z,L3,jlE,L3];dsimp only;rw[F]
  rw[jg0,this];rfl
 have H:=x8 (p:=p) h (al:=al) (fu:=o.fu) a.k (by omega) (b:=true) (S:=x.2.2) (ah:=[]) (o0:=none) rfl;have I:yz (dP (p2 jH (yT (YI (jc (pCB ky (jc (pV 5) pN)) pN)) (jk [] 0) (js (jW ye (jc (p2 jn (pV 1) (pV 0)) (jc (pSl (pV 1) oN (oS (pV 0))) (jc (pV 2) (jc (pV 3) pN)))))) (pF (pV 0)) [none,some 5,some 11,some 7]) (qX (jc (pCB ky (jc (pV 5) pN)) pN)))) (jk [] 12) (fd p o x o3 S (some (.int (k:Int))) (some (bd true (nC p) al)) o12 o13 o14) =
   some (.nx (fd p o x o3 S (some (.int (k:Int))) (some (bd true (nC p) al)) (some (.lst true ((stG al o.fu [] x.2.2++[x.2.2.length]).map λ(k:Nat)=>D.int (k:Int)))) o13 o14)):=by
  have f:=vK (j:=(x.2.2.length:Int)) (by omega) (by omega);rw[N9] at f;have l:(((x.2.2.map jy).length:Nat):Int)=(x.2.2.length:Int):=by rw[L0]
  have sl:=jbv (al:=al) (fu:=o.fu) (rs:=x.2.2) (ah:=[]);have J:lim (Jn 0 x.2.2.length).length=true:=jg (by rw[vv];omega);have fs:frzs ((stG al o.fu [] x.2.2).map λ(k:Nat)=>D.int (k:Int))=true:=vF λd hd=>by obtain⟨_,_,rfl⟩:=M5.mp hd;rfl
  have K:jH (.lst true ((stG al o.fu [] x.2.2).map λ(k:Nat)=>D.int (k:Int))) (.lst true [.int (x.2.2.length:Int)])=some (.lst true ((stG al o.fu [] x.2.2++[x.2.2.length]).map λ(k:Nat)=>D.int (k:Int))):=by
   show(bif lim (((stG al o.fu [] x.2.2).map λ(k:Nat)=>D.int (k:Int)).length+1)&&(frzs ((stG al o.fu [] x.2.2).map λ(k:Nat)=>D.int (k:Int))&&frzs [.int (x.2.2.length:Int)]) then some (D.lst true (((stG al o.fu [] x.2.2).map λ(k:Nat)=>D.int (k:Int))++[.int (x.2.2.length:Int)])) else none)=_;rw[fs,jg (by rw[L0];omega),N6];rfl
  unfold fd at *;generalize((stG al o.fu [] x.2.2++[x.2.2.length]).map λ(k:Nat)=>D.int (k:Int))=ST2 at *;generalize((stG al o.fu [] x.2.2).map λ(k:Nat)=>D.int (k:Int))=ST at *;generalize bd true (nC p) al=A,bd true (nP p) o.fu=A3,bd true (nC p) o.al=A2,x.2.2.map jy=RR at *;have m:jM (jk [] 0) (js (jW ye (jc (p2 jn (pV 1) (pV 0)) (jc (pSl (pV 1) oN (oS (pV 0))) (jc (pV 2) (jc (pV 3) pN)))))) (pF (pV 0)) (Jn 0 x.2.2.length) (jE [none,some 5,some 11,some 7] [some (jz false p),some (.lst false ((grQ p).map jG)),some (yH p o),o3,some (.lst false (x.2.1.map jG)),some (.lst false RR),some A2,some A3,some (.lst true ((die p o).map D.str)),some (.lst true S),some (.int (k:Int)),some A,o12,o13,o14])=some ST:=H;simp[l,f,J,m,K,jg,-YF]
 have t:=jbh (x:=x) w (ρ:=fd p o x o3 S (some (.int (k:Int))) (some (bd true (nC p) al)) (some (.lst true ((stG al o.fu [] x.2.2++[x.2.2.length]).map λ(k:Nat)=>D.int (k:Int)))) o13 o14) rfl rfl;have L:sIf (dPT (js (p2 jht (pCB jha (jc (yT (VP (pV 4)) (gT 2 (gC (jk [] 0) (gC (jk [] 1) gN))) qT (pF (pV 1)) [none,none]) pN)) (pC (.int 10))))) (yz (dP (pSl (pV 12) oN (oS (pC (.int 1))))) (jk [] 12)) yB (fd p o x o3 S (some (.int (k:Int))) (some (bd true (nC p) al)) (some (.lst true ((stG al o.fu [] x.2.2++[x.2.2.length]).map λ(k:Nat)=>D.int (k:Int)))) o13 o14) =
   some (.nx (fd p o x o3 S (some (.int (k:Int))) (some (bd true (nC p) al)) (some (.lst true ((jcN x al o.fu).map λ(k:Nat)=>D.int (k:Int)))) o13 o14)):=by
  unfold jcN;have fs:frzs ((stG al o.fu [] x.2.2++[x.2.2.length]).map λ(k:Nat)=>D.int (k:Int))=true:=vF λd hd=>by obtain⟨_,_,rfl⟩:=M5.mp hd;rfl
  have sl:jc3 none (some 1) (.lst true ((stG al o.fu [] x.2.2++[x.2.2.length]).map λ(k:Nat)=>D.int (k:Int)))=some (.lst true (((stG al o.fu [] x.2.2++[x.2.2.length]).take 1).map λ(k:Nat)=>D.int (k:Int))):=by
   rw[jky fs,KF _ (by decide),<- List.map_take];rfl
  cases q:ten x with
  | true =>
   have s:10<=jay x.2.1:=X5 q;rw[cond_true];unfold fd at *;generalize(((stG al o.fu [] x.2.2++[x.2.2.length]).take 1).map λ(k:Nat)=>D.int (k:Int))=ST1 at *;generalize((stG al o.fu [] x.2.2++[x.2.2.length]).map λ(k:Nat)=>D.int (k:Int))=ST2 at *;simp[t,s,sl,-wP]
  | false =>
   have s:¬ 10<=jay x.2.1:=of_decide_eq_false q;rw[cond_false];unfold fd at *;generalize((stG al o.fu [] x.2.2++[x.2.2.length]).map λ(k:Nat)=>D.int (k:Int))=ST2 at *;simp[t,s,-wP]
 have O:=jfj (x:=x) (al:=al) (fu:=o.fu);obtain⟨r13,r14,P⟩:=jcZ h u a (kl:=(k:Int)) (al:=al) O.1 (by omega) v (o3:=o3) (o13:=o13) (o14:=o14);have Q:=jk0 (p:=p) (R:=o.R) (tn:=ten x) (kl:=(k:Int)) a.k al o.fu;refine⟨some (bd true (nC p) al),some (.lst true ((jcN x al o.fu).map λ(k:Nat)=>D.int (k:Int))),r13,r14,?_⟩;unfold Yx;rw[jcd,G,L3,jbP,jcd,I,L3,jbP,jcd,L,L3,jbP,P];unfold sy0;rw[<- e,Q];rfl
theorem jcH(h:PlOk p)(M:OlOk p o)(O:x∈p.X)(Q:qj [jz false p,yH p o]=some (yr false x)) :
  KM [jz false p,.lst false ((grQ p).map jG),yH p o]=some (.lst true (zV p o x ((die p o).length+1))):=by
 have m:=h.x x O;have c6:=h.c;have p6:=h.p6;have R:=h.e;have o5:=m.r;have dl:(die p o).length<=6:=N8 (List.length_filter_le ..) R;have l:=vK (j:=((die p o).length:Int)+1) (by omega) (by omega);have T:(((die p o).length:Int)+1).toNat=(die p o).length+1:=by omega
 rw[T] at l;obtain⟨ρ',U,S,d,o11,o12,o13,o14,rfl,y⟩:=vj (G:=jk [] 10) (f:=Yx) (xs:=Jn 0 ((die p o).length+1)) (λi ρ=>∃(S:List D) (d o11 o12 o13 o14:Option D),ρ=fd p o x (some (.str x.1)) S d o11 o12 o13 o14/\S=zV p o x i) (by
  rintro i v ρ V ⟨S,d,o11,o12,o13,o14,rfl,rfl⟩;obtain⟨rfl,hi⟩:=YH V;have qa:=xK p o x m.r i;obtain⟨W,Y,Z,r14,b⟩:=jf9 h M m (k:=i) (S:=zV p o x i) (by omega) (o3:=some (.str x.1)) (o11:=o11) (o12:=o12) (o13:=o13) (o14:=o14);refine⟨_,_,?_,.inl b,_,_,_,_,_,_,rfl,(uT p o x i).symm⟩;rw[Int.zero_add];rfl) (ρ:=fd p o x (some (.str x.1)) [] none none none none none) ⟨[],none,none,none,none,none,rfl,rfl⟩
 rw[vv] at y;subst y;have z:=qw p;have zp:=qu _ z;have F:=uK p o;have zo:=qu _ F;have fx:=JA x;have H:=P1 false p;have I:=P2 false p;have j3:=P3 false p;have k1:=J1 p o;have k2:=J2 p o;have pc:=xh (N:=nC p) (g:=o.al) H k1 (λi n a=>by
  rw[List.getElem?_map] at a ⊢;cases q:p.C[i]? with
  | none=>rw[q] at a;cases a
  | some c=>rw[q] at a;cases a;exact⟨JY c,rfl,rfl⟩) (by rw[L0,L0]) (S:=nC p) (k:=0) (o0:=none) rfl (U6 _)
 have pp:=xh (N:=nP p) (g:=o.fu) I k2 (λi n a=>by
  rw[List.getElem?_map] at a ⊢;cases q:p.P[i]? with
  | none=>rw[q] at a;cases a
  | some c=>rw[q] at a;cases a;exact⟨jG c,rfl,rfl⟩) (by rw[L0,L0]) (S:=nP p) (k:=0) (o0:=none) rfl (U6 _)
 have d1:=QH (b:=true) h.cN (by rw[L0];omega) o.al;have d2:=QH (b:=true) h.pN (by rw[L0];omega) o.fu;have J:=wx (b:=true) (N:=nC p) (al:=o.al) (E:=p.E) (o0:=none) h.me;have fE:=jA p.E;have lE:lim (p.E.map D.str).length=true:=jg (by rw[L0];omega);have s:((((die p o).map D.str).length:Nat):Int)=((die p o).length:Int):=by rw[L0]
 have K:=vK (j:=((nC p).length:Int)) (by omega) (by rw[L0];omega);have L:=vK (j:=((nP p).length:Int)) (by omega) (by rw[L0];omega);rw[N9] at K L;have l1:(((p.C.map JY).length:Nat):Int)=((nC p).length:Int):=by rw[L0,L0]
 have l2:(((p.P.map jG).length:Nat):Int)=((nP p).length:Int):=by rw[L0,L0]
 have m1:lim (Jn 0 (nC p).length).length=true:=jg (by rw[vv,L0];omega);have m2:lim (Jn 0 (nP p).length).length=true:=jg (by rw[vv,L0];omega);have ht:gT 3 (gC (jk [] 3) (gC (jk [] 4) (gC (jk [] 5) gN))) (yr false x) [some (jz false p),some (.lst false ((grQ p).map jG)),some (yH p o),none,none,none,none,none,none,none,none,none,none,none,none]=some [some (jz false p),some (.lst false ((grQ p).map jG)),some (yH p o),some (.str x.1),some (.lst false (x.2.1.map jG)),some (.lst false (x.2.2.map jy)),none,none,none,none,none,none,none,none,none]:=rfl;change jM _ _ _ _ _=some ((die p o).map D.str) at J;unfold fd at *;generalize zV p o x ((die p o).length+1)=AS,bd true (nC p) o.al=A,bd true (nP p) o.fu=B at *;generalize((nC p).map λn=>D.tup [.str n,.bl (o.al n)])=T1 at *;generalize((nP p).map λn=>D.tup [.str n,.bl (o.fu n)])=T2 at *;generalize hq1:(nC p).length=n1 at *;generalize hq2:(nP p).length=n2,jz false p=EP,yH p o=EO at *;generalize(die p o).map D.str=DD at *;generalize p.E.map D.str=EE,p.C.map JY=CC,p.P.map jG=PP at *;generalize(grQ p).map jG=GG at *;generalize x.2.1.map jG=QQ,x.2.2.map jy=RR,yr false x=EX at *;have t:jM (jk [] 0) qT (qv (jc (pF (p2 jn (p2 jn (p2 jn (pV 1) (pC (.int 1))) (pV 0)) (pC (.int 0)))) (jc (pF (p2 jn (p2 jn (pV 2) (pC (.int 1))) (pV 0))) pN))) (Jn 0 n1) (jE [none,some 0,some 2] [some EP,some (.lst false GG),some EO,some (.str x.1),some (.lst false QQ),some (.lst false RR),none,none,none,none,none,none,none,none,none])=some T1:=pc;have u:jM (jk [] 0) qT (qv (jc (pF (p2 jn (p2 jn (p2 jn (pV 1) (pC (.int 2))) (pV 0)) (pC (.int 0)))) (jc (pF (p2 jn (p2 jn (pV 2) (pC (.int 2))) (pV 0))) pN))) (Jn 0 n2) (jE [none,some 0,some 2] [some EP,some (.lst false GG),some EO,some (.str x.1),some (.lst false QQ),some (.lst false RR),some A,none,none,none,none,none,none,none,none])=some T2:=pp;have w:jM (jk [] 0) (js (p2 yS (pV 1) (pV 0))) (pF (pV 0)) EE (jE [none,some 6] [some EP,some (.lst false GG),some EO,some (.str x.1),some (.lst false QQ),some (.lst false RR),some A,some B,none,none,none,none,none,none,none])=some DD:=J;simp[KM,jX,zE,zp,zo,z,F,Q,fx,ht,H,l1,K,m1,t,d1,I,l2,L,m2,u,d2,j3,fE,lE,w,s,l,U,jg,-jd8]
theorem jjc  (c:frzs l=true) (q:l.length<=1000) (h:∀ x∈l,alk n x):alk (n+1) (.lst false l):=by
 have d:=jl l c;have a:=vK (j:=(l.length:Int)) (by omega) (by omega);rw[N9] at a;obtain⟨r,e,g,rfl⟩:=vj (G:=jk [] 2) (f:=kR (yf n)) (xs:=Jn 0 l.length) (λi ρ=>∃ g:Option D,ρ=[some (.lst false l),some (.lst false l),g]) (by
  rintro i x ρ p ⟨g,rfl⟩;obtain⟨rfl,k⟩:=YH p;have ix:jn (.lst false l) (.int (0+(i:Int)))=some l[i]:=by
   rw[jfq (by omega) (by omega),show(0+(i:Int)).toNat=i by omega,X8 k]
  have m:yf n [l[i],l[i]]=some (.bl true):=h _ (List.getElem_mem k);have b:frz l[i]=true:=by
   rw[VB,List.all_eq_true] at c;exact c _ (List.getElem_mem k)
  have o:=qu _ b;refine⟨_,[some (.lst false l),some (.lst false l),some (.int (0+(i:Int)))],rfl,.inl ?_,some (.int (0+(i:Int))),rfl⟩;generalize l[i]=x at *;simp[kR,ix,m,b,o,-Int.zero_add]) (ρ:=[some (.lst false l),some (.lst false l),none]) ⟨none,rfl⟩
 unfold alk yf;simp[jX,kz,ul,c,d,a,e]
theorem jaL(h:PlOk p)  (g:R.length<=100) (y:Sy) (k c:Int):alk 7 (stp k c (ob p R y)):=by
 have i:=h.c;have f:=h.p6;have a:frzs (obR p R y)=true:=jV _;have b:frzs (obA p y)=true:=vE (nC p) λn=>y.al n&&!decide (n∈y.rp);have e:frzs (obF p y)=true:=vE (nP p) λn=>y.fu n&&!decide (n∈drn p.G y);refine Qv (n:=6) (by simp only[frz,frzs,jg7,Bool.and_self]) (by simp) λd hd=>?_;rcases M4.mp hd with rfl | hd
 ·exact jaA 5 _
 rcases M4.mp hd with rfl | hd
 ·exact jaA 5 _
 rw[M7.mp hd];refine Qv (n:=5) (by simp only[frz,frzs,a,b,e,Bool.and_self]) (by simp) λd hd=>?_;rcases M4.mp hd with rfl | hd
 ·refine Qv (n:=4) a (by unfold obR;rw[L0,L0];omega) λd hd=>?_;obtain⟨q,_,rfl⟩:=M5.mp hd;refine Qv (n:=3) rfl (by simp) λd hd=>?_;rcases M4.mp hd with rfl | hd
  ·exact jiD 2 _
  ·rw[M7.mp hd];exact jaA 2 _
 rcases M4.mp hd with rfl | hd
 ·refine Qv (n:=4) b (by unfold obA;rw[L0,L0];omega) λd hd=>?_;obtain⟨q,_,rfl⟩:=M5.mp hd;exact jgR 3 _
 ·rw[M7.mp hd];refine Qv (n:=4) e (by unfold obF;rw[L0,L0];omega) λd hd=>?_;obtain⟨q,_,rfl⟩:=M5.mp hd;exact jgR 3 _
theorem jaO(p:Pl)(R:List Qt)(kl:Int):∀(rs:List Rl) (k:Nat) (y:Sy),∀ d∈(run p R kl rs k y).1,∃(c:Int) (z:Sy),d=stp kl c (ob p R z)
 | [],_,_,d,h=>by cases h
 | r::rs,k,y,d,h=>by
  rw[run] at h;cases q:nd y r with
  | true =>
   rw[q] at h;rcases M4.mp h with rfl | h
   ·exact⟨_,_,rfl⟩
   ·exact jaO p R kl rs (k+1) (fl y r) d h
  | false=>rw[q] at h;exact jaO p R kl rs (k+1) y d h
theorem jis(h:PlOk p)(a:OlOk p o)(b:x.2.2.length<=5)  (hn:n<=20):v9 [.lst false (zV p o x n),.lst false (zV p o x n)]=some (.bl true):=by
 have q:=xK p o x b n;have e:=(jaI h a).2;refine jjc (n:=7) q.2.1 (by omega) λd hd=>?_;obtain⟨k,_,hd⟩:=List.mem_flatMap.mp hd;unfold stW at hd;cases t:ten x with
 | true =>
  rw[t,cond_true] at hd;rw[M7.mp hd];exact jaL h (by omega) _ _ _
 | false =>
  rw[t,cond_false] at hd;rcases N1.mp hd with hd | hd
  ·obtain⟨c,z,rfl⟩:=jaO _ _ _ _ _ _ d hd;exact jaL h (by omega) _ _ _
  ·rw[M7.mp hd];exact jaL h (by omega) _ _ _
theorem wH:∀{N:List WN}{B:List Bool},N.Nodup->B.length=N.length->∃ g:WN->Bool,B=N.map g
 | [],[],_,_=>⟨λ_=>false,rfl⟩
 | [],_::_,_,h=>by simp at h
 | n::N,[],_,h=>by simp at h
 | n::N,b::B,a,h=>by
  obtain⟨c,d⟩:=List.nodup_cons.mp a;obtain⟨g,e⟩:=wH (N:=N) (B:=B) d (by simpa using h);refine⟨λm=>if m=n then b else g m,?_⟩;rw[L4,if_pos rfl,e];congr 1;exact List.map_congr_left λm f=>(if_neg (λz=>c (by rw[<- z];exact f):¬ m=n)).symm
theorem jcb  (b:0<=m):∀{S:List Qt}{k:Nat}{o0 o1:Option D},(∀ q∈S,0<=q.2)->k+S.length<=100->∃ T:List Qt,jM (gT 2 (gC (jk [] 0) (gC (jk [] 1) gN))) qT (qv (jc (pF (p2 jn (pV 1) (pC (.int 0)))) (jc (p2 jC (p2 jY (pV 2) (p2 jH (pC (.int 3)) (p2 vN (pC (.int 8)) (pV 0)))) (p2 jH (p2 jn (pV 1) (pC (.int 1))) (pC (.int 1)))) pN))) (yA k (S.map jG)) [o0,o1,some (.int m)]=some (T.map jG)/\T.map (·.1)=S.map (·.1)
 | [],_,_,_,_,_=>⟨[],rfl,rfl⟩
 | q::S,k,o0,o1,a,c=>by
  rw[M0] at c;obtain⟨T,e,d⟩:=jcb b (S:=S) (k:=k+1) (o0:=some (.int (k:Int))) (o1:=some (jG q)) (λz f=>a z (L5 _ f)) (by omega);have g:=a q L6;have h:(gT 2 (gC (jk [] 0) (gC (jk [] 1) gN))) (.tup [.int (k:Int),jG q]) [o0,o1,some (.int m)]=some [some (.int (k:Int)),some (jG q),some (.int m)]:=rfl;have i:jn (jG q) (.int 0)=some (.str q.1):=rfl;have j:jn (jG q) (.int 1)=some (.int q.2):=rfl;have l:vN (.int 8) (.int (k:Int))=some (.int (8*(k:Int))):=Jy (by omega) (by omega);have n:jY (.int m) (.int (3+8*(k:Int)))=some (.int (m / (3+8*(k:Int)))):=yq (by omega) (by omega);have o:jC (.int (m / (3+8*(k:Int)))) (.int (q.2+1))=some (.int (m / (3+8*(k:Int)) % (q.2+1))):=jL (by omega);refine⟨(q.1,m / (3+8*(k:Int)) % (q.2+1))::T,?_,by rw[L4,d];rfl⟩;rw[L4,yA,jJ,h,L3,L4];generalize T.map jG=TT,yA (k+1) (S.map jG)=SS,jG q=Y at *;simp[i,j,l,n,o,e,jg]
theorem je4  (a:∀(i:Nat),i < n->∃ b,pe [some (.int (0+(i:Int))),some (.int m)]=some (.bl b))  (g:∃ o,ρ=[o,some (.int m)]):∃ B:List Bool,B.length=n/\jM (jk [] 0) qT pe (Jn 0 n) ρ=some (B.map D.bl):=by
 obtain⟨q,e,c,h⟩:=Kz (G:=jk [] 0) (p:=pe) (Good:=λd=>∃ b,d=.bl b/\True) (P:=λρ=>∃ o,ρ=[o,some (.int m)]) (xs:=Jn 0 n) (by
  rintro x j ρ ⟨o,rfl⟩;obtain⟨i,k,rfl⟩:=M5.mp j;obtain⟨b,l⟩:=a i (List.mem_range.mp k);exact⟨_,_,rfl,l,⟨b,rfl,trivial⟩,_,rfl⟩) g
 obtain⟨B,rfl,_⟩:=K9 (f:=D.bl) (Q:=λ_=>True) h;rw[L0,vv] at c;exact⟨B,c,e⟩
theorem jj1  (h:PlOk p):∀ c∈(gr p).1,0<=(gr p).2 c:=by
 have b:∀(L:List Lk) (S:Gw),(∀ c∈S.1,0<=S.2 c)->(∀ l∈L,1<=l.2.1)->∀ c∈(L.foldl grow S).1,0<=(L.foldl grow S).2 c:=by
  intro L
  induction L with
  | nil=>intro S e _;exact e
  | cons x L i =>
   intro S e g;rw[X1];refine i _ (λc a=>?_) λl f=>g l (L5 _ f);have j:=g x L6;unfold grow at a ⊢;dsimp only at a ⊢;by_cases q:c=x.1
   ·rw[if_pos q];unfold big;split<;>omega
   ·rw[if_neg q];refine e c ?_;split at a
    ·exact a
    ·rcases N1.mp a with a | a
     ·exact a
     ·exact absurd (M7.mp a) q
 exact b p.L _ (λc a=>nomatch a) λl f=>(h.l l f).d
theorem jfB  (h:PlOk p) {z:Int}(hz:Builtin.Int.intBits z<=2 ^ 20) {i:Nat}(hi:i<=100) {a0 a5 a6 a7 a8 a9 a10:Option D} :
  ∃ r5 r6 r7 r8 r9 r10:Option D,xq [a0,some (jz false p),some (.lst false ((grQ p).map jG)),some (.int (i:Int)),some (.int z),a5,a6,a7,a8,a9,a10]=some (.nx [a0,some (jz false p),some (.lst false ((grQ p).map jG)),some (.int (i:Int)),some (.int z),r5,r6,r7,r8,r9,r10]):=by
 obtain⟨m,em,y,hm1⟩:=YL (k:=(i:Int)+20) hz (by omega) (by omega);have c6:=h.c;have p6:=h.p6;have A:=jeg h;have gl:=A.l;have gq:(grQ p).length<=2:=by unfold grQ;rw[L0];exact gl
 obtain⟨T,eT,hT⟩:=jcb y (S:=grQ p) (k:=0) (o0:=none) (o1:=none) (λq hq=>by
  obtain⟨n,hn,rfl⟩:=M5.mp hq;exact jj1 h n hn) (by omega)
 have s:T.map (·.1)=(gr p).1:=by
  rw[hT];unfold grQ;rw[U2];exact List.map_id _
 have hTl:T.length<=2:=by have:=congrArg List.length s;rw[L0] at this;omega
 obtain⟨B1,E,f⟩:=je4 (m:=m) (n:=p.C.length) (pe:=p2 wy (p2 jC (p2 jY (pV 1) (p2 jH (pC (.int 5)) (pV 0))) (pC (.int 4))) (pC (.int 0))) (λj hj=>⟨_,by
  have F:jY (.int m) (.int (5+(0+(j:Int))))=some (.int (m / (5+(0+(j:Int))))):=yq (by omega) (by omega);have G:jC (.int (m / (5+(0+(j:Int))))) (.int 4)=some (.int (m / (5+(0+(j:Int))) % 4)):=jL (by omega);simp[F,G,-Int.zero_add];rfl⟩) (ρ:=[none,some (.int m)]) ⟨none,rfl⟩
 obtain⟨B2,H,g⟩:=je4 (m:=m) (n:=p.P.length) (pe:=p2 kS (p2 jC (p2 jY (pV 1) (p2 jH (pC (.int 7)) (pV 0))) (pC (.int 2))) (pC (.int 1))) (λj hj=>⟨_,by
  have F:jY (.int m) (.int (7+(0+(j:Int))))=some (.int (m / (7+(0+(j:Int))))):=yq (by omega) (by omega);have G:jC (.int (m / (7+(0+(j:Int))))) (.int 2)=some (.int (m / (7+(0+(j:Int))) % 2)):=jL (by omega);simp[F,G,-Int.zero_add];rfl⟩) (ρ:=[none,some (.int m)]) ⟨none,rfl⟩
 obtain⟨al,rfl⟩:=wH h.cN (B:=B1) (by rw[L0];exact E);obtain⟨fu,rfl⟩:=wH h.pN (B:=B2) (by rw[L0];exact H);rw[U2] at f g;have w:OlOk p ⟨T,al,fu⟩:=⟨s⟩;obtain⟨x,I,nm,e1,e2,e3⟩:=jfR h w;have J:=ja2 h w I e1 e2;have K:=jcH h w I e3;have ox:=h.x x I;have dl:(die p ⟨T,al,fu⟩).length<=6:=N8 (List.length_filter_le ..) h.e;have ak:=jis h w ox.r (n:=(die p ⟨T,al,fu⟩).length+1) (by omega);have qa:=xK p ⟨T,al,fu⟩ x ox.r ((die p ⟨T,al,fu⟩).length+1);have ca:=qa.1;have L:=qa.2.1;have za:=jl _ L;have M:=qw p;have zp:=qu _ M;have fo:=uK p ⟨T,al,fu⟩;have zo:=qu _ fo;have N:=jV (grQ p);have O:=jl _ N;have Q:=jV T;have R:frzs (p.C.map ((D.bl ∘ al) ∘ (·.1)))=true:=vF λd hd=>by obtain⟨_,_,rfl⟩:=M5.mp hd;rfl
 have U:frzs (p.P.map ((D.bl ∘ fu) ∘ (·.1)))=true:=vF λd hd=>by obtain⟨_,_,rfl⟩:=M5.mp hd;rfl
 have j1:=P1 false p;have j2:=P2 false p;have V:=vK (j:=(p.C.length:Int)) (by omega) (by omega);have W:=vK (j:=(p.P.length:Int)) (by omega) (by omega);rw[N9] at V W;have l1:(((p.C.map JY).length:Nat):Int)=(p.C.length:Int):=by rw[L0]
 have l2:(((p.P.map jG).length:Nat):Int)=(p.P.length:Int):=by rw[L0]
 have m1:lim (Jn 0 p.C.length).length=true:=jg (by rw[vv];omega);have m2:lim (Jn 0 p.P.length).length=true:=jg (by rw[vv];omega);have en:V0 [.lst false ((grQ p).map jG)]=some (yA 0 ((grQ p).map jG)):=by
  show some (yA 0 (fzs ((grQ p).map jG)))=_;rw[O]
 have le:lim (yA 0 ((grQ p).map jG)).length=true:=jg (by rw[ki,L0];omega);have eo:yH p ⟨T,al,fu⟩=.tup [.tup (T.map jG),.tup (p.C.map ((D.bl ∘ al) ∘ (·.1))),.tup (p.P.map ((D.bl ∘ fu) ∘ (·.1)))]:=by
  unfold yH;rw[U2,U2];rfl
 rw[U2] at f g;rw[eo] at J K;refine⟨some (.int m),some (.lst true (T.map jG)),some (.tup (p.C.map ((D.bl ∘ al) ∘ (·.1)))),some (.tup [.tup (T.map jG),.tup (p.C.map ((D.bl ∘ al) ∘ (·.1))),.tup (p.P.map ((D.bl ∘ fu) ∘ (·.1)))]),some (.lst true []),some (.lst true (zV p ⟨T,al,fu⟩ x ((die p ⟨T,al,fu⟩).length+1))),?_⟩;generalize zV p ⟨T,al,fu⟩ x ((die p ⟨T,al,fu⟩).length+1)=AS,jz false p=EP,p.C.map ((D.bl ∘ al) ∘ (·.1))=C1,p.P.map ((D.bl ∘ fu) ∘ (·.1))=P1',T.map jG=TT,yA 0 ((grQ p).map jG)=EN at *;generalize(grQ p).map jG=GG at *;generalize p.C.map JY=CC,p.P.map jG=PP at *;generalize hn1:p.C.length=n1 at *;generalize hn2:p.P.length=n2 at *;have t:∀ q:Option D,jM (gT 2 (gC (jk [] 0) (gC (jk [] 1) gN))) qT (qv (jc (pF (p2 jn (pV 1) (pC (.int 0)))) (jc (p2 jC (p2 jY (pV 2) (p2 jH (pC (.int 3)) (p2 vN (pC (.int 8)) (pV 0)))) (p2 jH (p2 jn (pV 1) (pC (.int 1))) (pC (.int 1)))) pN))) EN (jE [none,none,some 5] [a0,some EP,some (.lst false GG),q,some (.int z),some (.int m),a6,a7,a8,a9,a10])=some TT:=λ_=>eT;have a:∀ q X Y Z b9 o:Option D,jM (jk [] 0) qT (p2 wy (p2 jC (p2 jY (pV 1) (p2 jH (pC (.int 5)) (pV 0))) (pC (.int 4))) (pC (.int 0))) (Jn 0 n1) (jE [none,some 5] [a0,some EP,some (.lst false GG),q,some (.int z),some (.int m),X,Y,Z,b9,o])=some C1:=λ_ _ _ _ _ _=>f;have b:∀ q X Y Z b9 o:Option D,jM (jk [] 0) qT (p2 kS (p2 jC (p2 jY (pV 1) (p2 jH (pC (.int 7)) (pV 0))) (pC (.int 2))) (pC (.int 1))) (Jn 0 n2) (jE [none,some 5] [a0,some EP,some (.lst false GG),q,some (.int z),some (.int m),X,Y,Z,b9,o])=some P1':=λ_ _ _ _ _ _=>g;have zT:=jl _ Q;have u:=jl _ R;have v:=jl _ U;by_cases i0:i=0
 ·subst i0;have em':yk [.int z,.int 20]=some (.int m):=by simpa using em
  simp(maxSteps:=400000) [xq,em',zT,u,v,N,O,en,le,t,j1,l1,V,m1,a,R,Q,j2,l2,W,m2,b,U,M,zp,J,K,ak,ca,L,za,jg]
 ·have i1:((i:Int)==0)=false:=U3.mpr (by omega);simp(maxSteps:=400000) [xq,em,zT,u,v,N,O,en,le,t,j1,l1,V,m1,a,R,Q,j2,l2,W,m2,b,U,M,zp,J,K,ak,ca,L,za,i0,i1,jg]
theorem jfd(ns:List Int)(C:ns.length<=63)(j:∀ x∈ns,Builtin.Int.intBits x<=2 ^ 20):jct [.lst false (ns.map D.int)]=some (.bl true):=by
 have j:jgW ns:=j;obtain⟨p,E,k⟩:=jkg j;have s:=Jb ns;have t:=V6 ns;have u:jgW (v7 ns none (some 40)):=λx v=>j x (Kc v);have F:(v7 ns none (some 40)).length<=63:=N8 (Yp _ _ _) C;have H:=jaW false ns none (some 40);generalize v7 ns none (some 40)=cs at *;have b:=jgn p;have I:=uQ k;have B:=jV (grQ p);have J:=jl _ B;have K:=jb3 (grQ p);have c:=qw p;have g:=qu _ c;have L:=ji2 (jjM (o:=false) k) (jjM (o:=true) k) (by rw[g,b]);have cp:kT (jz true p)=true \/ True:=.inr trivial;obtain⟨X,M,w,y,l,m,n,q,r,a,rfl⟩:=vj (G:=gT 2 (gC (jk [] 3) (gC (jk [] 4) gN))) (f:=xq) (xs:=yA 0 ((0::cs).map D.int)) (λi ρ=>∃ w y l m n q r a:Option D,ρ=[some (.lst false (ns.map D.int)),some (jz false p),some (.lst false ((grQ p).map jG)),w,y,l,m,n,q,r,a]) (by
  rintro i x ρ v ⟨w,y,l,m,n,q,r,a,rfl⟩;obtain⟨d,hd,rfl⟩:=kQ 0 _ i x v;rw[List.getElem?_map] at hd;cases hz:(0::cs)[i]? with
  | none=>rw[hz] at hd;cases hd
  | some z =>
   rw[hz] at hd;cases hd;have N:i < (0::cs).length:=(L8.mp hz).1;rw[M0] at N;have O:Builtin.Int.intBits z<=2 ^ 20:=by
    rcases M4.mp (List.mem_of_getElem? hz) with rfl | h
    ·decide
    ·exact u z h
   obtain⟨P,Q,R,S,T,A,e⟩:=jfB k O (i:=i) (by omega) (a0:=some (.lst false (ns.map D.int))) (a5:=l) (a6:=m) (a7:=n) (a8:=q) (a9:=r) (a10:=a);refine⟨_,_,?_,.inl e,some (.int (i:Int)),some (.int z),P,Q,R,S,T,A,rfl⟩;rw[Nat.zero_add];rfl) (ρ:=[some (.lst false (ns.map D.int)),some (jz false p),some (.lst false ((grQ p).map jG)),none,none,none,none,none,none,none,none]) ⟨_,_,_,_,_,_,_,_,rfl⟩
 have U:jH (.lst true [.int 0]) (.lst true (cs.map D.int))=some (.lst true ((0::cs).map D.int)):=by
  show(bif lim (1+(cs.map D.int).length)&&(frzs [.int 0]&&frzs (cs.map D.int)) then some (D.lst true ([.int 0]++cs.map D.int)) else none)=_;rw[Jb cs,jg (by rw[L0];omega)];rfl
 have V:V0 [.lst true ((0::cs).map D.int)]=some (yA 0 ((0::cs).map D.int)):=by
  show some (yA 0 (fzs ((0::cs).map D.int)))=_;rw[V6]
 have W:=Jb (0::cs);generalize(0::cs).map D.int=CS0 at *;generalize cs.map D.int=CS,ns.map D.int=NS,jz true p=pt,jz false p=pp at *;generalize(grQ p).map jG=GG at *;simp(maxSteps:=400000) [jct,jX,jh9,s,t,E,b,g,c,I,B,J,K,H,U,V,W,M,L,jg]
end K58
set_option maxHeartbeats 0
namespace K58
open PySem L2 QD
theorem all_mk{l:PySem.W.OpenLaw}{w:World}{K:PySem.W.Frag}{h:Heap}{mg:Str->Option Value}{fa:Addr}(X:K.In h)(G:h.Ns mainGlobals mg)(hfa:mg "law" = some (.ref fa))
  {a_C0:Addr}
  {jhp:Addr}{jlN jkh:Option Addr}{jlK:Array (Option Value)}{jke jj7 jk8 jlj jgS jjN:Value}
  (c1_C0:PySem.W.nsIn K mainGlobals "OutlineDay" = some (some (.ref a_C0))) (c2_C0:PySem.W.plainGet K a_C0 Str.empty=true) (c3_C0:PySem.W.hasDictIn K a_C0=true) (c4_C0:PySem.W.plainOver K a_C0=true) (c5_C0:PySem.W.findIn K (.ref a_C0) "__setattr__" = some (some (.builtin "object.__setattr__"))) (c6_C0:PySem.W.makesIn K a_C0=true) (c7_C0:PySem.W.keepIn K (.ref a_C0)=true)
  (wM:PySem.W.findIn K (.ref a_C0) "served" = some none)
  (jaP:PySem.W.findIn K (.ref a_C0) "alive" = some none)
  (jei:PySem.W.findIn K (.ref a_C0) "full" = some none)
  (ub:PySem.W.findIn K (.ref a_C0) "repaid" = some none)
  (wC:PySem.W.findIn K (.ref a_C0) "claims" = some none)
  (jdJ:PySem.W.findIn K (.ref a_C0) "pots" = some none)
  (w8:PySem.W.findIn K (.ref a_C0) "guards" = some none)
  (QN:PySem.W.findIn K (.ref a_C0) "greatest" = some none)
  (jes:PySem.W.findIn K (.ref a_C0) "runs" = some none)
  (Kb:qh K mg "tenths_of" YA Yg)
  (YO:qh K mg "order_named" qW qU)
  (Va:qh K mg "look_order" JF Jp)
  (Jd:qh K mg "greatest_days" kI kF)
  (vI:jcR K a_C0 "is_missed" "OutlineDay.is_missed" yQ yR)
  (qe:jcR K a_C0 "fill" "OutlineDay.fill" kh kc)
  (Yj:qh K mg "_law_cell_at" qL qJ)
  (Kp:qh K mg "_law_mixed" Yd Yz)
  (Yw:qh K mg "_law_letters" qR qK)
  (Km:qh K mg "_law_spelt" Yo Yt)
  (Ve:qh K mg "_law_amount" JD Ju)
  (Kf:qh K mg "_law_looks" Yf Ym)
  (Y1:qh K mg "_law_guards" Js Jr)
  (Kk:qh K mg "_law_order" YQ Yl)
  (JS:qh K mg "_law_greatest" qr qo)
  (V4:qh K mg "_law_named" Yv Yi)
  (Qn:qh K mg "order_of" VM VO)
  (vX:jcR K a_C0 "__init__" "OutlineDay.__init__" y9 y8)
  (kL:jcR K a_C0 "needs" "OutlineDay.needs" vL vM)
  (vk:jcR K a_C0 "days_behind" "OutlineDay.days_behind" yu yt)
  (Kr:qh K mg "_law_words" Yr YD)
  (QM:qh K mg "_law_rule" Vt Vv)
  (V7:qh K mg "_law_needs" Yc YC)
  (Y0:qh K mg "_law_behind" JE JM)
  (yM:jcR K a_C0 "outline_behind" "OutlineDay.outline_behind" yd yg)
  (Vc:qh K mg "_law_orders" JN Jq)
  (xx:qh K mg "_law_due" KZ Qa)
  (Y4:qh K mg "steps_with" JO Jw)
  (Ql:qh K mg "_law_pool" VJ VA)
  (Qi:qh K mg "steps_of" Vx VG)
  (xI:qh K mg "_law_one" KC K6)
  (V8:qh K mg "_law_alike" YJ Jf)
  (jak:PySem.W.nsIn K mainGlobals "law" = some (some (.ref jhp))) (jc5:K.lookup jhp=some ⟨jke,jlN,.func (PySem.W.fnOf "law" "law" (YS u9) (qE u9) (jp u9) .none jj7 jk8 jlj jkh jgS jjN),jlK⟩) (jef:PySem.W.codeIn K jgS "law" = true) (jd4:PySem.W.keepIn K (.ref jhp)=true)
  (jie:PySem.W.nsIn K mainGlobals "any" = some none)
  (jdZ:PySem.W.nsIn K mainGlobals "bool" = some none)
  (jeF:PySem.W.nsIn K mainGlobals "dict" = some none)
  (Kh:PySem.W.nsIn K mainGlobals "enumerate" = some none)
  (jh2:PySem.W.nsIn K mainGlobals "int" = some none)
  (Vk:PySem.W.nsIn K mainGlobals "isinstance" = some none)
  (jhK:PySem.W.nsIn K mainGlobals "len" = some none)
  (jc8:PySem.W.nsIn K mainGlobals "list" = some none)
  (jhR:PySem.W.nsIn K mainGlobals "max" = some none)
  (jif:PySem.W.nsIn K mainGlobals "min" = some none)
  (jaN:PySem.W.nsIn K mainGlobals "range" = some none)
  (Qs:PySem.W.nsIn K mainGlobals "reversed" = some none)
  (jiV:PySem.W.nsIn K mainGlobals "str" = some none)
  (jjq:PySem.W.nsIn K mainGlobals "sum" = some none)
  (jaF:PySem.W.nsIn K mainGlobals "tuple" = some none)
  (jjr:PySem.W.nsIn K mainGlobals "zip" = some none)
  : ∃ fd:FuncData,(∀(s:Shared) (v:Value),BindsTo s fd ⟨[v],[]⟩ [("_law_script",v)])/\∀ base:Heap,K.In base->base.Ns mainGlobals mg->FnOk l.prog w K mg base CX0 9 fa fd ["_law_script"] (λvs H Q E=>∀ C:Addr,spP ⟨K,λ_=>C⟩ jct 1 vs H Q E):=by
 have e:=hfa.symm.trans (PySem.W.mg_of X G jak);cases e;have T:Txt l.prog w K mg (λ_=>a_C0):=⟨⟨c2_C0,c3_C0,c4_C0,c5_C0⟩,c6_C0,c7_C0,PySem.W.mg_of X G c1_C0,wM,jaP,jei,ub,wC,jdJ,w8,QN,jes,PySem.W.mg_none_of X G jie,PySem.W.mg_none_of X G jdZ,PySem.W.mg_none_of X G jeF,PySem.W.mg_none_of X G Kh,PySem.W.mg_none_of X G jh2,PySem.W.mg_none_of X G Vk,PySem.W.mg_none_of X G jhK,PySem.W.mg_none_of X G jc8,PySem.W.mg_none_of X G jhR,PySem.W.mg_none_of X G jif,PySem.W.mg_none_of X G jaN,PySem.W.mg_none_of X G Qs,PySem.W.mg_none_of X G jiV,PySem.W.mg_none_of X G jjq,PySem.W.mg_none_of X G jaF,PySem.W.mg_none_of X G jjr⟩;have F:Fun K "law" "law" u9 _ _:=jav jc5 jef jd4;have jmb:qh K mg "law" u9 jgu:=⟨_,_,F,PySem.W.mg_of X G jak,F.binds λ_ _ _ _ _ _ us hl=>match us,hl with | [_],_=>rfl⟩;have Kv:=jau T Kb;have Yh:=xP T YO;have Y3:=wV T Va;have q5:=Q8 T Jd;have jx:=YM T vI;have kY:=K7 T qe;have yX:=xN T Yj;have j9:=uA T Kp;have qM:=xS T Yw;have Kl:=u3 T Km;have vq:=wY T Ve;have Kn:=u7 T Kf;have Vr:=uc T Y1;have Kg:=uY T Kk;have JU:=zU T JS;have yK:=uX T V4;have Qq:=jaE T Qn Y3;have vY:=YV T vX q5;have kJ:=Ke T kL jx;have vo:=JP T vk jx;have YN:=uV T Kr qM j9 Kl;have Qm:=jbm T QM vq;have Kt:=jaw T V7 yK;have Vm:=wK T Y0 yK;have yh:=qN T yM vo jx;have Vj:=wE T Vc j9 Qm;have zj:=jcC T xx Vm Kt Kg;have Vb:=wI T Y4 vY kY kJ yh Kv;have Qr:=jaT T Ql vq yX Vr Kn j9 Vj;have VF:=jbt T Qi Yh Qq Vb;have KG:=jcQ T xI yX Qr YN;have kU:=uE T V8;have jma:=jkn T jmb kU zj JU j9 KG VF;obtain⟨f',fd',F',G'⟩:=jma;cases(PySem.W.mg_of X G jak).symm.trans F'.mgf;obtain⟨⟨oc,od,kV,doc,pm,an,cdv,ct,osl,rfl,_,_⟩,_⟩:=F'.fn;exact⟨_,λs v=>.of_eq rfl,λbase _ _=>(G' base).imp λvs H Q E h=>h a_C0⟩
theorem walk{l:PySem.W.OpenLaw}{q:Program}{loose:List Str}{XP:(Str->Option Value)->Heap->Prop}{YP:World->Heap->Prop}{d:DefRec}{K:Params->PySem.W.Frag}(hn:l.most=some 63)(hdf:d.params.defaults=[])
  (hY:∀(w:World) (h:Heap),YP w h->(K w.params).In h)
  (F:∀(w:World) (mg:Str->Option Value) (fa:Addr) (h:Heap),(K w.params).In h->h.Ns mainGlobals mg->mg d.name=some (.ref fa) ->
   ∃ fd:FuncData,(∀(s:Shared) (u:Value),BindsTo s fd ⟨[u],[]⟩ [("_law_script",u)])/\∀ base:Heap,(K w.params).In base->base.Ns mainGlobals mg->FnOk l.prog w (K w.params) mg base CX0 9 fa fd ["_law_script"] (λvs H Q E=>∀ C:Addr,spP ⟨K w.params,λ_=>C⟩ jct 1 vs H Q E)) :
  PySem.W.WalkO q loose XP YP l.row.toRowW d [] (λf vs=>PySem.call f vs) :=
 L2.walk_ofB (n:=63) (k:=9) (x:="_law_script") (CX:=λ_=>CX0) (sp:=λw=>(λvs H Q E=>∀ C:Addr,spP ⟨K w.params,λ_=>C⟩ jct 1 vs H Q E)) hn (by decide) hdf ⟨rfl,by decide,by decide⟩ hY F (λ_ H a ns hl hb _ hS=>λC=>jkM (jfd ns hl hb) hS) λ_ _ _ _ _ z=>z
end K58
namespace PySem.W.Fast
def tw17082662544999271859:=0
def tw8167344264164826538:=0
def tw1263932335735805383:=0
def tw2317432822036299214:=0
def tw6443451781203418312:=0
def tw5635754587223315249:=0
def tw17932277385629549779:=0
def tw12772656598583891239:=0
def tw15808565870191489232:=0
def tw5056883318008133721:=0
def tw16223509268774239946:=0
def tw16999826921130180681:=0
def tw2711520660226053913:=0
def tw6376532577244023180:=0
def tw11939377086806038523:=0
def tw15880271177700591565:=0
def tw1862187232826002318:=0
def tw16298006051408837969:=0
def tw18057545449179519530:=0
def tw15650775295550738967:=0
def tw223656682420351507:=0
def tw15288254302694637795:=0
def tw12466490874916054550:=0
def tw9630535228764162820:=0
def tw16716184333499801088:=0
def tw12510652569685631419:=0
def tw11667506040091493299:=0
def tw7780418320407346999:=0
def tw11176270385763056202:=0
def tw2302602384233104321:=0
def tw17694422952731985404:=0
def tw6718551374563415895:=0
def tw2461868181421202431:=0
def tw3611953974573063955:=0
def tw18440422250236606480:=0
def tw1341536044623030764:=0
def tw746835914648452061:=0
def tw5042726624378550366:=0
def tw1486840643555639855:=0
def tw14842050626640016368:=0
def tw6927507775657995551:=0
def tw1449826991911228431:=0
def tw11559738709019883324:=0
def tw18179842256883081773:=0
def tw4890906222465312483:=0
def tw12036992720869719742:=0
def tw4598355565166304776:=0
def tw14680358152575038312:=0
end PySem.W.Fast
set_option maxHeartbeats 0
open PySem PySem.W PyProof.Rows
set_option maxRecDepth 100000 in
set_option maxHeartbeats 0 in
theorem PySem.Challenge.cw_tranchefall_k58_steps_of_all_rules_holds : PySem.Challenge.rw_tranchefall_k58_steps_of_all_rules.Holds := by
 w_on;o_law;k_head;(case hw=>w_witness2)
 k_fill
 refine K58.walk (l:=PySem.Challenge.rw_tranchefall_k58_steps_of_all_rules) rfl rfl (λw h Y=>PySem.W.kIn_of Y) ?F
 case F =>
  intro w mg fa h KX G hmg;refine' K58.all_mk KX G hmg ?c1_C0 ?c2_C0 ?c3_C0 ?c4_C0 ?c5_C0 ?c6_C0 ?c7_C0 ?wM ?jaP ?jei ?ub ?wC ?jdJ ?w8 ?QN ?jes ?Kb ?YO ?Va ?Jd ?vI ?qe ?Yj ?Kp ?Yw ?Km ?Ve ?Kf ?Y1 ?Kk ?JS ?V4 ?Qn ?vX ?kL ?vk ?Kr ?QM ?V7 ?Y0 ?yM ?Vc ?xx ?Y4 ?Ql ?Qi ?xI ?V8 ?jak ?jc5 ?jef ?jd4 ?jie ?jdZ ?jeF ?Kh ?jh2 ?Vk ?jhK ?jc8 ?jhR ?jif ?jaN ?Qs ?jiV ?jjq ?jaF ?jjr
  (case c1_C0 | c2_C0 | c3_C0 | c4_C0 | c5_C0 | c6_C0 | c7_C0 | wM | jaP | jei | ub | wC | jdJ | w8 | QN | jes | jak | jc5 | jef | jd4 | jie | jdZ | jeF | Kh | jh2 | Vk | jhK | jc8 | jhR | jif | jaN | Qs | jiV | jjq | jaF | jjr=>k_is)
  (case Kb | YO | Va | Jd | vI | qe | Yj | Kp | Yw | Km | Ve | Kf | Y1 | Kk | JS | V4 | Qn | vX | kL | vk | Kr | QM | V7 | Y0 | yM | Vc | xx | Y4 | Ql | Qi | xI | V8 =>
   first | exact QD.hasF KX G (by k_is) (by k_is) (by k_is) (by k_is) (by first | exact λ_ _ _ _ _ _ us hl=>(match us,hl with | [_],_=>rfl) | exact λ_ _ _ _ _ _ us hl=>(match us,hl with | [_,_],_=>rfl) | exact λ_ _ _ _ _ _ us hl=>(match us,hl with | [_,_,_],_=>rfl) | exact λ_ _ _ _ _ _ us hl=>(match us,hl with | [_,_,_,_],_=>rfl) | exact λ_ _ _ _ _ _ us hl=>(match us,hl with | [_,_,_,_,_],_=>rfl)) | exact QD.hasM (by k_is) (by k_is) (by k_is) (by k_is) (by k_is) (by first | exact λ_ _ _ _ _ _ us hl=>(match us,hl with | [_],_=>rfl) | exact λ_ _ _ _ _ _ us hl=>(match us,hl with | [_,_],_=>rfl) | exact λ_ _ _ _ _ _ us hl=>(match us,hl with | [_,_,_],_=>rfl) | exact λ_ _ _ _ _ _ us hl=>(match us,hl with | [_,_,_,_],_=>rfl) | exact λ_ _ _ _ _ _ us hl=>(match us,hl with | [_,_,_,_,_],_=>rfl)))
